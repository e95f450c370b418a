import PyProof.Rows.All
import Wide.All
import OpenK.AllK
import Wide.FinOn
import Lean
import PyProof.EqAt
import PyProof.EqKinds
import PyProof.TupleCall
import PyProof.StationsW
import PySem.Syntax
import KE.KLam
import PyProof.StrBlockH
import KE.KRevIter
import PyProof.JoinWalk
import PyProof.CollectIter
import PyProof.StrCalls
import PyProof.DictStraight
import PyProof.Rows.Range3
import PyProof.StrWalks
import PyProof.LongRange
import KE.KTryMore
import KE.KItem
import PyProof.NsDelKeeps
import PyProof.DictTable
import PyProof.WalkInts
import PyProof.Rows.SortStr
import PyProof.Rows.SortWalk
import PyProof.EnumMake
import PyProof.EnumFor
import KE.KRevSl
import PyProof.Rows.StrNews
import KE.KMinBuiltin
import KE.KSortKey
import PyProof.ZipIter
import PyProof.ExcInit
import PyProof.ExcClass2
import PyProof.InstStoreFacts
import PyProof.FString
import KE.LcSums
import PySem.Challenge.RW_namehouses_k72_runs_refused
set_option Elab.async false
open PySem renaming wpAny_bind→z8g,Shared→z8k,wpAny_pure→z8q,wpAny→z8t,model→z8u,mainGlobals→z8D,Around→z8V,wpAny_holding→z8W,wpAny_truthy_bool→z8X,wpAny_mono→z8Y,Program→z91,compareOp→z94,sizeLine_eq→z95,starEach→z96,wpAny_Call_Name_kw→z9a,World→z9c,rawInt→z9g,wpAny_standAt→z9k,foldedSetIterable→z9s,FuncData→z9t,mem_of_lookup→z9z,codeAny_mono→z9H,relabel→z9I,wpAny_newObj_type→z9N,bootBuiltins→z9S,CmpOp→z9V,wpAny_field→z9W,binaryOp→za1,wpAny_newFunctionEnv_cells→za3,wpAny_call→za5,wpAny_passesOwn→zaa,excClassObj→zag,assignEach→zai,keywordEach→zat,sysModules→zav,backTo→zaw,tupleKind_room_in1→zaz,attributeBase→zaD,codeAny→zaK,wpAny_loadPart_at→zaN,compEnvC→zaR,Keyword→zaU,ExceptHandler→zb0,methodCallPos→zb1,letOwnedTupleGo→zb4,sliceBounds→zb9,codeAmong→zba,plainObj_wpAny_Assign_Attribute→zbl,wpAny_isTrue_Compare1→zbn,swapsWith→zbq,getItem→zbs,strLen_append→zbu,backToKw→zbv,codeAny_call_builtin→zbx,wpAny_execs_nil→zbz,wpAny_loadPart'→zbC,TriplesOk→zbN,Model→zbP,NameKind→zbT,call_meets→zbW,wpAny_setField→zbX,wpAny_FormattedValue_plain→zc6,BindsTo→zca,wpAny_of_eq→zcc,wpAny_pyIter_list→zcd,assign→zcg,swapsWithSole→zch,swappedStores→zci,wpAny_attempt→zck,comprehension→zcl,tupleKind→zcq,bindArgs→zct,noFill_tuple_add→zcu,wpAny_callSpecial?_slot→zcw,setFlight→zcx,wpAny_comp_letGo→zcC,Paired→zcI,builtinsNs→zcJ,richCompare_meets_room→zcK,IsPart→zcL,wpAny_typeOf→zcM,methodCall→zcQ,codeAny_call_function→zcZ,ofString_length→zd1,wpAny_formatField_int→zd2,wpAny_loadPart→zd3,subscripted→zd7,wpAny_Compare1→zd8,PassesOwn→zdf,Builtin→zdg,OwnTail→zdh,valueAt→zdi,wpAny_isSubtype_exc→zdo,behindInMarks→zdq,seq_tuple_add→zdr,arm_eval_Call→zdu,typeLookup→zdE,wpAny_rule→zdI,closureFor→zdJ,int_text_length_le→zdN,Within→zdP,concat_meets→zdY,wpAny_sequenceKey→zd_,slot_list_getitem→zeb,ExcBaseFacts→zek,wpAny_execs_cons→zep,wpAny_lookBehind→zer,pastItsLine_dict→zes,cellsFrom→zet,wpAny_forIn_list→zeu,wpAny_call_entry→zew,noteFrame→zey,atKey→zeD,getAttrByItsOwn→zeH,wpAny_JoinedStr→zeM,holding→zeS,callerA→zeU,notedBy→zeV,wpAny_Name→zeX,bindL→zf1,bindC→zf2,typeIs_str→zf5,typeIs_int→zf6,Operator→zf9,isInstance→zfc,cStatics→zfg,getMethod→zfI,seqItems?→zfK,passOn→zfQ,call→zg7
open List renaming getElem?_eq_some_iff→z8h,mem_singleton→z8l,getElem?_append_left→z8p,getElem?_append_right→z8r,mem_append_right→z8s,mem_append→z8v,mem_cons_of_mem→z8y,size_toArray→z8A,length_map→z8B,mem_append_left→z8E,mem_of_getElem?→z8F,length_cons→z8L,mem_cons_self→z8M,replicate→z8P,map_cons→z8R,getElem?_set_ne→z8S,mem_cons→z8T,getElem?_map→z8U,length_append→z8Z,lookup_cons→z8_,getElem?_eq_getElem→z90,all_eq_true→z92,append_nil→z98,mem_map→z9b,all_cons→z9e,map_append→z9f,filterMap_eq_map'→z9h,range→z9i,mem_filter→z9l,replicate_succ→z9A,length_nil→z9B,lookup→z9J,any_cons→z9Y,contains_iff_mem→za6,drop_eq_getElem_cons→za9,flatten_cons→zad,rec→zae,map_map→zah,length_take→zap,getElem?_replicate→zaq,mem_filterMap→zay,take_of_length_le→zaA,find?_cons→zaC,length_singleton→zaG,mem_iff_getElem?→zaI,set_append_right→zaJ,mem_of_mem_take→zaQ,filterMap_cons_none→zb2,filterMap_cons_some→zb3,zip_cons_cons→zb6,getElem?_set_self'→zbb,getElem?_set_self→zbd,nodup_append→zbi,getElem?_eq_none→zbo,cons_append→zbr,nodup_cons→zbA,of_mem_zip→zbB,filterMap_cons→zbF,all_map→zbK,mem_range→zbO,contains_cons→zc5,take_add_one→zcf,getElem_inj→zcr,length_drop→zcv,getElem?_cons_zero→zcy,getElem?_cons_succ→zcA,drop_length→zcD,forIn_cons→zcV,nil_append→zcW,length_replicate→zcY,mem_of_mem_drop→zda,map_congr_left→zdl,toList_toArray→zdn,zip_nil_right→zdC,any_eq_false→zdQ,zip_nil_left→zdX,map_nil→zea,append_assoc→zec,pairwise_map→zej,ext_getElem→zeA,length_zip→zeK,foldl→zf7,length→zfY
open PySem.Heap renaming get?_push_of_some→z8i,lt_size→z8x,get?_push_size→z8K,SameBut→z99,get?_none_of_le→z9d,get?_update_other→z9v,size_push→z9K,get?_update_self→zaH,MadeExcOf→zbg,get?_update_ne→zbH,get?_push_ne→zei,get?_push_at→zel,size_update→zez
open Bool renaming and_eq_true→z8j,false_ne_true→z8H,not_eq_true'→z9O,eq_iff_iff→zb5,false_eq_true→zb7,or_eq_true→zbE,and_false→zbY,decide_and→zeR,false_and→zeY,rec→zf8,and_true→zfH,or_true→zfR
open Option.some renaming inj→z8m,injEq→zeg
open Nat renaming le_refl→z8n,lt_of_lt_of_le→z8w,le_trans→z8G,ne_of_lt→z8O,lt_succ_self→z9D,lt_irrefl→z9G,zero_le→zac,ne_of_gt→zax,beq→zaL,lt_succ_of_lt→zaM,le_of_eq→zaT,le_succ→zby,le_of_lt→zbJ,lt_of_le_of_lt→zc1,eq_of_beq_eq_true→zd0,min_self→zeh,rec→zfM,ble→zfN,lt_or_ge→zfP
open PySem.W renaming Frag→z8o,findIn→z8N,emptyDict→z9j,kla_obj→z9n,fnOf→z9u,callWith_K→z9E,instObj→z9P,hasDictIn→zab,specialIn→zaf,plainGet_of→zam,callWith_K0→zan,keepIn→zao,mroIn→zaE,codeIn→zaO,plainGet→zaS,excIn→za_,cellsFrom_some→zbe,nsIn→zbh,kla_fn→zbj,clsIn→zbt,takesIn→zbD,looks_clsIn→zbG,mg_of→zbI,lookIn→zbS,CodeHd→zbZ,kitOne→zb_,isNs_of_in→zc2,tabObj→zc4,methodObj→zc7,plainOver→zc9,any_some→zcs,KitX→zcP,takerIn→zcS,looks_findIn→zd4,kitAny→zd9,exmOne→zdb,kla_callFunE→zdc,kla_codeExpr→zdd,Looks→zdt,codeRec_of→zdA,mg_none_of→zdK,isFn→zdR,set_plain→zdS,FnAt→zed,kitx_list→zee,kitx_dict→zef,handedIn→zeq,codeHdIn→zeB,makesIn→zeF,readsIn→zeN,findCls→zeO,binds_K→zeP,OpenLaw→zeT,InstAt→ze_,typeIn→zf0,nsOkIn→zfb
open Int renaming emod_lt_of_pos→z8z,emod_nonneg→z8C,mul_le_mul_of_nonneg_right→z8I,le_refl→z9q,mul_nonneg→z9L,add_mul→z9Z,one_mul→z9_,mul_ediv_add_emod→za7,add_mul_ediv_right→zaB,mul_comm→zaW,ediv_eq_zero_of_lt→zbk,fdiv_eq_ediv_of_nonneg→zbR,ediv_nonneg→zcU,ediv_emod_unique→zde,ediv_one→zdZ,lt_trichotomy→zen,add_comm→zfS
open PySem.Value renaming ref→z8J,none→z9o,bool→zau,int→zcp,notImplemented→zd6,str→zeo,type→zeW,isStrOf→zfu,isInt→zfU,bytes→zfV,float→zfW
open False renaming elim→z8Q
open PySem.Obj renaming mapSeq→z93,mapFields→z9X,isFreed_of_fields→zc_,data_mapFields→zdF
open PyProof.Rows renaming seqObj→z97,IntsAre→z9m,slot_tuple_getitem→z9C,callWith_builtin1→z9F,callWith_type1→z9U,envOfC→zaF,AllBare→zc8,listUpdate_at→zcn,subscriptTail_builtinR→zcN,get?_update_seq→zcX,entry_tuple_getitem→zdj,subscriptTail→zds,arrOf→zdv,args_tuple_getitem→zdD,IsTup→zdO,Subscript_→zf3,boot_range→zfe,lt_int→zg1,le_int→zg4
open True renaming intro→z9p
open Ne renaming symm→z9r
open Array renaming getElem?_eq_some_iff→z9w,length_toList→z9R,toList_append→zdm,find?_toList→zdy,forIn_toList→zdL,size_zip→zff,toList→zfL
open PySem.F renaming excBase_ValueError→z9x,plainAttrs_list→zar,args_tuple_add_2→zaZ,entry_tuple_add→zb8,slot_tuple_add→zbf,slot_dict_get→zbp,store_ValueError→zco,attr_ValueError→zcB,args_dict_get_2→zcF,entry_dict_get→zcR,slot_int_rmul→zeQ
open Option renaming map_eq_some_iff→z9y,isSome_iff_exists→zaj,bind_some→zaV,isSome_map→zce,getD_some→zcz,bind_eq_some_iff→zcE,getD_none→zex
open PySem.Builtin.Str renaming occurrences→z9M
open ForInStep renaming yield→z9Q
open PySem.Str renaming ofString→z9T,empty→zbM,length→zf4
open PySem.W.Looks renaming here→za2,of_pure→zfT,ld→zgd
open PySem.SeqAt renaming EqAt→za4,RcAt→zdG,RcNeAt→zfO
open PySem.Builtin.Slice renaming slicePlaces→za8,sliceAdjust→zaX,sliceApplied→zbU,slicePartIndex→zeG,sliceFields→zfs
open PySem.Builtin.Tuple renaming tupleExact→zak,tupleCompareSizes→zbm,tupleItemsOf→zbV,tupleIsExact→zfd
open PySem.Builtin.List renaming listTooLong→zal
open PySem.Builtin.ObjectAttr renaming storeInDict→zas,attrName→zbL,newKeyGuard→zeC,noDictFor→zeL,bindTo→zft
open PySem.Calls renaming evalArgs_plain→zaP,Name_function_global→zbQ,callWith_builtin→zcO,spliced_cons→zdz,spliced_nil→zdW
open PySem.Heap.SameBut renaming update→zaY
open PySem.Builtin.Range renaming rangeSize→zbc,small→zg3
open PySem.SeqAt.EqAt renaming bool_bool→zbw,same→zcT,int_str→zdw,str_int→zdx,int_int→zdB,of_refs→zdH
open Function renaming comp_def→zcb
open PySem.AutoSeq1 renaming sub_tuple_tuple→zcj
open PySem.NameKind renaming free→zcm
open Sum renaming inl→zcG,inr→zcH
open PySem.Around renaming frames_deeper→zd5,under→zdU
open PySem.EntryCells renaming newEntry→zdk
open PySem.Paired renaming length→zdp,snoc→zg0
open PySem.Code renaming quiet_builtin→zdM,isFrame→zdV,frames→zfX
open PySem.Heap.Ns1 renaming of_empty→zdT
open Nat.succ renaming inj→zem
open PySem.Builtin.BaseException renaming bexcPut→zeE
open PySem.PassesOwn renaming never→zeI
open Array.Perm renaming refl→zeJ
open PySem.Builtin renaming bitAnd→zeZ
open PySem.SeqAt.RcNeAt renaming lists_lengths→zfa,tuples→zg2,lists→zg8
open PySem.Value.type renaming inj→zfh
open PySem.EqNone renaming eq_none_none→zfi,eq_none_bool→zfj,eq_bool_none→zfk,ne_none_none→zfn,ne_none_bool→zfo,ne_bool_none→zfp,eq_none_int→zfv,eq_none_str→zfw,eq_int_none→zfx,eq_str_none→zfz,ne_none_int→zfB,ne_none_str→zfC,ne_int_none→zfD,ne_str_none→zfF
open PySem.EqMixed renaming eq_bool_str→zfl,eq_str_bool→zfm,ne_bool_str→zfq,ne_str_bool→zfr,eq_int_str→zfy,eq_str_int→zfA,ne_int_str→zfE,ne_str_int→zfG
open PyProof.Rows.IsTup renaming new→zfJ
open PySem.Data renaming fields→zfZ
open PySem.IsRange renaming new→zf_
open PySem.Heap.IsSliceOf renaming new→zg5
open PySem.W.WShape renaming has→zg6
open PyProof.Rows.SortSt renaming mk'→zg9
open PySem.Within renaming cons→zga
open List.Pairwise renaming nil→zgb
open PySem.W.WData renaming int→zgc
open PySem.Heap.DictOf renaming new→zge
set_option linter.all false
set_option maxRecDepth 100000
set_option maxHeartbeats 4000000
set_option bootstrap.genMatcherCode false
noncomputable section
namespace PySem.W.Fast
theorem tw6546136797514724163:True:=⟨⟩
theorem tw8697694165305274225:True:=⟨⟩
theorem tw2946219208007033384:True:=⟨⟩
theorem tw16570582714962358349:True:=⟨⟩
theorem tw11880525222446584128:True:=⟨⟩
theorem tw13532426460549543480:True:=⟨⟩
theorem tw9995406765644277046:True:=⟨⟩
theorem tw13041316071215654061:True:=⟨⟩
theorem tw1815091115660160772:True:=⟨⟩
theorem tw10120263130248372624:True:=⟨⟩
theorem tw13958201464828852565:True:=⟨⟩
theorem tw16271512915821149091:True:=⟨⟩
theorem tw4465188773873354399:True:=⟨⟩
theorem tw7202086860105902529:True:=⟨⟩
theorem tw3148215209086205824:True:=⟨⟩
theorem tw2973657588680758034:True:=⟨⟩
theorem tw6631785049816247641:True:=⟨⟩
theorem tw1050531381907938182:True:=⟨⟩
theorem tw5359681956928117987:True:=⟨⟩
theorem tw16128960664356255228:True:=⟨⟩
theorem tw4721334341395029816:True:=⟨⟩
theorem tw16200437118189729374:True:=⟨⟩
theorem tw13669400428267543815:True:=⟨⟩
theorem tw7532047081387576152:True:=⟨⟩
theorem tw13193706624308265825:True:=⟨⟩
theorem tw742159453098585853:True:=⟨⟩
theorem tw8144037827504875450:True:=⟨⟩
theorem tw15093837124723671531:True:=⟨⟩
theorem tw335270023492858933:True:=⟨⟩
theorem tw17968194675975065283:True:=⟨⟩
theorem tw667868710747962909:True:=⟨⟩
theorem tw9056558451014533560:True:=⟨⟩
theorem tw6582665154299097893:True:=⟨⟩
theorem tw2727832525611028:True:=⟨⟩
theorem tw3379124895997209429:True:=⟨⟩
theorem tw1119809493079382825:True:=⟨⟩
theorem tw17129285262564163790:True:=⟨⟩
theorem tw13511479906425626489:True:=⟨⟩
theorem tw10541163395241814925:True:=⟨⟩
theorem tw8264334499352969437:True:=⟨⟩
theorem tw14786770128385392809:True:=⟨⟩
theorem tw6872085346153977308:True:=⟨⟩
theorem tw5716176158065224217:True:=⟨⟩
theorem tw1690734162074789359:True:=⟨⟩
theorem tw5521025571499094582:True:=⟨⟩
theorem tw3827087081409624908:True:=⟨⟩
theorem tw13817427676368850225:True:=⟨⟩
theorem tw5750739324036010755:True:=⟨⟩
theorem tw7041704433040486400:True:=⟨⟩
theorem tw1288188257331637375:True:=⟨⟩
theorem tw12379666594070965628:True:=⟨⟩
theorem tw14779729479159611976:True:=⟨⟩
theorem tw10209179014069802466:True:=⟨⟩
theorem tw8802487224299906491:True:=⟨⟩
theorem tw16704672981094603972:True:=⟨⟩
theorem tw5641976553605570189:True:=⟨⟩
theorem tw3388801269520365793:True:=⟨⟩
theorem tw1839172822256494005:True:=⟨⟩
theorem tw12721655887679940776:True:=⟨⟩
theorem tw12584819682968870717:True:=⟨⟩
theorem tw3196324878622455759:True:=⟨⟩
theorem tw16286442975071339509:True:=⟨⟩
theorem tw4541417208323786120:True:=⟨⟩
theorem tw9850196293191854625:True:=⟨⟩
theorem tw7781514254453236384:True:=⟨⟩
theorem tw10795023798057061431:True:=⟨⟩
theorem tw4891815156743917551:True:=⟨⟩
theorem tw10397464320582241361:True:=⟨⟩
theorem tw9620232519214207312:True:=⟨⟩
theorem tw12438594941586929442:True:=⟨⟩
theorem tw7835776670575016415:True:=⟨⟩
theorem tw4489665430527710658:True:=⟨⟩
theorem tw9645893193405735307:True:=⟨⟩
theorem tw3161375759738250723:True:=⟨⟩
theorem tw14847082403684878843:True:=⟨⟩
theorem tw10940924741401654957:True:=⟨⟩
theorem tw9420191453359377605:True:=⟨⟩
theorem tw14560144378658918348:True:=⟨⟩
theorem tw1611066241757915553:True:=⟨⟩
theorem tw7404338764407631746:True:=⟨⟩
theorem tw10207436389901346316:True:=⟨⟩
theorem tw12337023469963420674:True:=⟨⟩
theorem tw10132627980909012372:True:=⟨⟩
theorem tw7972827922176736097:True:=⟨⟩
theorem tw14412767836752427504:True:=⟨⟩
theorem tw13453882924272102432:True:=⟨⟩
theorem tw8199505552272635792:True:=⟨⟩
theorem tw7041336225990222880:True:=⟨⟩
theorem tw17668385540773571211:True:=⟨⟩
theorem tw7271347090031776543:True:=⟨⟩
theorem tw7205875991349647099:True:=⟨⟩
theorem tw10668536936615797533:True:=⟨⟩
theorem tw1005976368545438236:True:=⟨⟩
theorem tw1320308009730997509:True:=⟨⟩
theorem tw5776943011247222203:True:=⟨⟩
theorem tw934976174624247144:True:=⟨⟩
theorem tw3017533934658113129:True:=⟨⟩
theorem tw11295749093006330554:True:=⟨⟩
theorem tw268486328042806767:True:=⟨⟩
theorem tw5080592265011749183:True:=⟨⟩
theorem tw17414136183410243571:True:=⟨⟩
theorem tw10172159169708059633:True:=⟨⟩
theorem tw17650783291870943887:True:=⟨⟩
theorem tw3729413379232637640:True:=⟨⟩
theorem tw9348769542028373676:True:=⟨⟩
theorem tw11537755219604466848:True:=⟨⟩
theorem tw2056512067681974846:True:=⟨⟩
theorem tw294321086558654783:True:=⟨⟩
theorem tw6590090617416086941:True:=⟨⟩
theorem tw11957955663337665853:True:=⟨⟩
theorem tw3649506244952511750:True:=⟨⟩
theorem tw11592324455030701192:True:=⟨⟩
theorem tw11188491099114194775:True:=⟨⟩
theorem tw10819450260356677704:True:=⟨⟩
theorem tw848394750229740860:True:=⟨⟩
theorem tw17837389805075744998:True:=⟨⟩
theorem tw11855824605869745001:True:=⟨⟩
theorem tw14664499136541680536:True:=⟨⟩
theorem tw216215672321621675:True:=⟨⟩
theorem tw6617979552403072867:True:=⟨⟩
theorem tw9756210871765187145:True:=⟨⟩
theorem tw5640095023949956877:True:=⟨⟩
theorem tw3444636772086762585:True:=⟨⟩
theorem tw1269090793383386050:True:=⟨⟩
theorem tw11799452252231555414:True:=⟨⟩
theorem tw17207104745094815774:True:=⟨⟩
theorem tw4747295307690535291:True:=⟨⟩
theorem tw14846099746448200602:True:=⟨⟩
theorem tw14270229101866005697:True:=⟨⟩
theorem tw16792092689993503641:True:=⟨⟩
theorem tw3153398526617281213:True:=⟨⟩
theorem tw15280563479206272802:True:=⟨⟩
theorem tw15315250188737012187:True:=⟨⟩
theorem tw13733446049341660829:True:=⟨⟩
theorem tw14389074591632521950:True:=⟨⟩
theorem tw3263420276571951686:True:=⟨⟩
theorem tw3108653273747538766:True:=⟨⟩
theorem tw17184314426497602129:True:=⟨⟩
theorem tw14143204717942152953:True:=⟨⟩
theorem tw14898034962508985533:True:=⟨⟩
theorem tw15912937305230990000:True:=⟨⟩
theorem tw15023296405144756365:True:=⟨⟩
theorem tw12276651913480445516:True:=⟨⟩
theorem tw7507367634923717445:True:=⟨⟩
theorem tw7262748046431564356:True:=⟨⟩
theorem tw8197684963542159787:True:=⟨⟩
theorem tw16760826175115229507:True:=⟨⟩
theorem tw10492912142289561091:True:=⟨⟩
theorem tw12642673661067326322:True:=⟨⟩
theorem tw14416306071117507548:True:=⟨⟩
theorem tw15220351296084755468:True:=⟨⟩
theorem tw16037238792696666229:True:=⟨⟩
theorem tw350703857159133193:True:=⟨⟩
theorem tw10405036564749779046:True:=⟨⟩
theorem tw696894755625095581:True:=⟨⟩
theorem tw4881626722510264377:True:=⟨⟩
theorem tw9116686229917298120:True:=⟨⟩
theorem tw11702034558540818347:True:=⟨⟩
theorem tw9748019192997594620:True:=⟨⟩
theorem tw7645197127930256203:True:=⟨⟩
theorem tw16321027039394938522:True:=⟨⟩
theorem tw15001482414158207017:True:=⟨⟩
theorem tw17030818515779599651:True:=⟨⟩
theorem tw1199213018266405371:True:=⟨⟩
theorem tw17775772080175729666:True:=⟨⟩
theorem tw3021154082149705412:True:=⟨⟩
theorem tw17060645906484496103:True:=⟨⟩
theorem tw8936635901226851867:True:=⟨⟩
theorem tw16665253778091844748:True:=⟨⟩
theorem tw1279382557253547943:True:=⟨⟩
theorem tw13811387759886615967:True:=⟨⟩
theorem tw10684997597185047364:True:=⟨⟩
theorem tw11243523986043836250:True:=⟨⟩
theorem tw17622662321147704066:True:=⟨⟩
theorem tw1320022932611489690:True:=⟨⟩
theorem tw5895731751593359242:True:=⟨⟩
theorem tw5051606618189349245:True:=⟨⟩
theorem tw15786641451612673761:True:=⟨⟩
theorem tw10283855957049365174:True:=⟨⟩
theorem tw13150273209804518204:True:=⟨⟩
theorem tw2934932420802834806:True:=⟨⟩
theorem tw16847458382148026445:True:=⟨⟩
theorem tw6862532422548473597:True:=⟨⟩
theorem tw7204959543459460472:True:=⟨⟩
theorem tw7099656831195938460:True:=⟨⟩
theorem tw13756739275183766012:True:=⟨⟩
theorem tw17805212885487469714:True:=⟨⟩
theorem tw15989884237794252133:True:=⟨⟩
theorem tw12420127513622000308:True:=⟨⟩
theorem tw16537424475663066236:True:=⟨⟩
theorem tw4099091589631966998:True:=⟨⟩
theorem tw10124366537175155854:True:=⟨⟩
theorem tw6788880204253472574:True:=⟨⟩
theorem tw14073702265809727400:True:=⟨⟩
theorem tw3306944854122519284:True:=⟨⟩
theorem tw14310356600113044002:True:=⟨⟩
theorem tw7748031789438689553:True:=⟨⟩
theorem tw5879939349128664547:True:=⟨⟩
theorem tw5800857897002824696:True:=⟨⟩
theorem tw2457285237965598908:True:=⟨⟩
theorem tw8777777732250828071:True:=⟨⟩
theorem tw5590402764907222241:True:=⟨⟩
theorem tw5725793272641019029:True:=⟨⟩
theorem tw14447864014390181535:True:=⟨⟩
theorem tw14769987726181977024:True:=⟨⟩
theorem tw11721340630964920690:True:=⟨⟩
theorem tw11953554634072636823:True:=⟨⟩
theorem tw17332068176126784342:True:=⟨⟩
theorem tw1094719483442358170:True:=⟨⟩
theorem tw1248893337622305700:True:=⟨⟩
theorem tw8842327342899445084:True:=⟨⟩
theorem tw6520923245016443766:True:=⟨⟩
theorem tw15746083897999440629:True:=⟨⟩
theorem tw16426725539315379031:True:=⟨⟩
theorem tw15396190043075617404:True:=⟨⟩
theorem tw2820645158186393714:True:=⟨⟩
theorem tw2351593570981383007:True:=⟨⟩
theorem tw2169312153541341687:True:=⟨⟩
theorem tw2610301791893334989:True:=⟨⟩
theorem tw12459249243381500001:True:=⟨⟩
theorem tw6964336031334385131:True:=⟨⟩
theorem tw4382804997135820064:True:=⟨⟩
theorem tw3643081612137514132:True:=⟨⟩
theorem tw12142472919688501115:True:=⟨⟩
theorem tw4845911921368689821:True:=⟨⟩
theorem tw8234274924212775085:True:=⟨⟩
theorem tw2965825010310272455:True:=⟨⟩
theorem tw1350765732802253917:True:=⟨⟩
theorem tw3246108811306149880:True:=⟨⟩
theorem tw16344240467334902195:True:=⟨⟩
theorem tw7612047291927622225:True:=⟨⟩
theorem tw5390414139337359267:True:=⟨⟩
theorem tw10488337181739085344:True:=⟨⟩
theorem tw11920928573721718004:True:=⟨⟩
theorem tw8227522953896073837:True:=⟨⟩
theorem tw8758943982180708717:True:=⟨⟩
theorem tw2952061035661743373:True:=⟨⟩
theorem tw15720964060018516910:True:=⟨⟩
theorem tw7946575675417768174:True:=⟨⟩
theorem tw526333819931462552:True:=⟨⟩
theorem tw546820053895270522:True:=⟨⟩
theorem tw3334882787400370980:True:=⟨⟩
theorem tw9850675698720736254:True:=⟨⟩
theorem tw12964358571658621162:True:=⟨⟩
theorem tw8323098262753485309:True:=⟨⟩
theorem tw8248905434756714716:True:=⟨⟩
theorem tw8633441643749787402:True:=⟨⟩
theorem tw9618712360645497416:True:=⟨⟩
theorem tw13324433731963925923:True:=⟨⟩
theorem tw17902166689354782382:True:=⟨⟩
theorem tw2400510315560536989:True:=⟨⟩
theorem tw6943834015095790434:True:=⟨⟩
theorem tw8229830042506195971:True:=⟨⟩
theorem tw10575689950178240694:True:=⟨⟩
theorem tw16597121694818342883:True:=⟨⟩
theorem tw6890303361180377992:True:=⟨⟩
theorem tw2844804856501408369:True:=⟨⟩
theorem tw1181493619719744477:True:=⟨⟩
theorem tw14264231207354669161:True:=⟨⟩
theorem tw7753067085878627411:True:=⟨⟩
theorem tw17134185060678181797:True:=⟨⟩
theorem tw15470673241739566412:True:=⟨⟩
theorem tw12744711762100314965:True:=⟨⟩
theorem tw17975818284095660251:True:=⟨⟩
theorem tw2431575546600272860:True:=⟨⟩
theorem tw10340243093448889984:True:=⟨⟩
theorem tw1377672363283127806:True:=⟨⟩
theorem tw10469055526139851322:True:=⟨⟩
theorem tw6297948572463723865:True:=⟨⟩
theorem tw12641528956100026406:True:=⟨⟩
theorem tw7376154143863215338:True:=⟨⟩
theorem tw10654296022285822167:True:=⟨⟩
theorem tw14889225177932957383:True:=⟨⟩
theorem tw6133995738881803647:True:=⟨⟩
theorem tw9045574720481542696:True:=⟨⟩
theorem tw11322367393399416761:True:=⟨⟩
theorem tw799157496539835920:True:=⟨⟩
theorem tw8108562242326676981:True:=⟨⟩
theorem tw14284489881851266713:True:=⟨⟩
theorem tw13892728083497112017:True:=⟨⟩
theorem tw16530839992227562204:True:=⟨⟩
theorem tw5339032101321107079:True:=⟨⟩
theorem tw2445913697317617185:True:=⟨⟩
theorem tw6629214343411993099:True:=⟨⟩
theorem tw12740247441170581633:True:=⟨⟩
theorem tw7229569583709568377:True:=⟨⟩
theorem tw15771667923416759077:True:=⟨⟩
theorem tw6360140932456971173:True:=⟨⟩
theorem tw15460670939296384623:True:=⟨⟩
theorem tw12997220395918583963:True:=⟨⟩
theorem tw12060161939384042928:True:=⟨⟩
theorem tw16538979917575090430:True:=⟨⟩
theorem tw8578221964729282707:True:=⟨⟩
theorem tw3961631041818903202:True:=⟨⟩
theorem tw18336361923512787477:True:=⟨⟩
theorem tw9270779195444242953:True:=⟨⟩
theorem tw7889722782876937505:True:=⟨⟩
theorem tw2927279413601773990:True:=⟨⟩
theorem tw18188686912309533412:True:=⟨⟩
theorem tw11024520156598260624:True:=⟨⟩
theorem tw9120718997645393365:True:=⟨⟩
theorem tw9894886622497208583:True:=⟨⟩
theorem tw11819063132882340740:True:=⟨⟩
theorem tw9093254386871754179:True:=⟨⟩
theorem tw17356498734768451818:True:=⟨⟩
theorem tw7023949636996546232:True:=⟨⟩
theorem tw11817306966988488864:True:=⟨⟩
theorem tw10079765919359328840:True:=⟨⟩
theorem tw12389837373109793731:True:=⟨⟩
theorem tw5666800038986511952:True:=⟨⟩
theorem tw9400482475201390181:True:=⟨⟩
theorem tw4913320764100092310:True:=⟨⟩
theorem tw7414404020896308924:True:=⟨⟩
theorem tw10136790336295779210:True:=⟨⟩
theorem tw7233180940786585288:True:=⟨⟩
theorem tw17407159355169062824:True:=⟨⟩
theorem tw17902205010262576573:True:=⟨⟩
theorem tw11944116642950765208:True:=⟨⟩
theorem tw3945265459523619832:True:=⟨⟩
theorem tw6610191933246258283:True:=⟨⟩
theorem tw11547206133946395439:True:=⟨⟩
theorem tw1806639609320341478:True:=⟨⟩
theorem tw13387686973010166294:True:=⟨⟩
theorem tw17788191424472605475:True:=⟨⟩
theorem tw7773155479371536303:True:=⟨⟩
theorem tw211718176034900998:True:=⟨⟩
theorem tw8951886945179873001:True:=⟨⟩
theorem tw13535761885927155985:True:=⟨⟩
theorem tw1181768932483656712:True:=⟨⟩
theorem tw3933477442742839914:True:=⟨⟩
theorem tw15812496602366704782:True:=⟨⟩
theorem tw12583070400531646294:True:=⟨⟩
theorem tw745806302400388544:True:=⟨⟩
theorem tw8513410757405335596:True:=⟨⟩
theorem tw10908745744687134398:True:=⟨⟩
theorem tw7131991966759278380:True:=⟨⟩
theorem tw3874083057371543695:True:=⟨⟩
theorem tw9794840108364415114:True:=⟨⟩
theorem tw12231600425889792455:True:=⟨⟩
theorem tw14856647413070433002:True:=⟨⟩
theorem tw12009855637990564757:True:=⟨⟩
theorem tw9624125473847305154:True:=⟨⟩
theorem tw9070503972238209453:True:=⟨⟩
theorem tw14106393260594741782:True:=⟨⟩
theorem tw685565872335804849:True:=⟨⟩
theorem tw3748098683090147234:True:=⟨⟩
theorem tw10082303047030684162:True:=⟨⟩
theorem tw3207683577992121189:True:=⟨⟩
theorem tw8386722744333716837:True:=⟨⟩
theorem tw15060984614215212332:True:=⟨⟩
theorem tw8632002106758204581:True:=⟨⟩
theorem tw11990190331069518767:True:=⟨⟩
theorem tw2931113370060110514:True:=⟨⟩
theorem tw5798898887789855322:True:=⟨⟩
theorem tw429220501894902864:True:=⟨⟩
theorem tw8487010934377084479:True:=⟨⟩
theorem tw4164859308439430142:True:=⟨⟩
theorem tw9724591160764020775:True:=⟨⟩
theorem tw11709130773099445658:True:=⟨⟩
theorem tw11371792823320658703:True:=⟨⟩
theorem tw14722122995124199336:True:=⟨⟩
theorem tw12450822542604075437:True:=⟨⟩
theorem tw9846751309389666747:True:=⟨⟩
theorem tw16972120627349320139:True:=⟨⟩
theorem tw9442284905689683299:True:=⟨⟩
theorem tw1322201898031010604:True:=⟨⟩
theorem tw17252510524140395942:True:=⟨⟩
theorem tw4803740490919700117:True:=⟨⟩
theorem tw15952137590435918646:True:=⟨⟩
theorem tw11388232537970764368:True:=⟨⟩
theorem tw3685189592458909403:True:=⟨⟩
theorem tw13371564989452404558:True:=⟨⟩
theorem tw13719427738929771613:True:=⟨⟩
theorem tw13554178524173027706:True:=⟨⟩
theorem tw4802781498291677516:True:=⟨⟩
theorem tw1676236452019488649:True:=⟨⟩
theorem tw233252427995597464:True:=⟨⟩
theorem tw7590606969461706589:True:=⟨⟩
theorem tw14945570032252101757:True:=⟨⟩
theorem tw14086309635011257824:True:=⟨⟩
theorem tw13193278764083885358:True:=⟨⟩
theorem tw4273263744033129873:True:=⟨⟩
theorem tw4852187290517324771:True:=⟨⟩
theorem tw10896465687171439766:True:=⟨⟩
theorem tw4973174452760363732:True:=⟨⟩
theorem tw16453392736112593597:True:=⟨⟩
theorem tw955147832123981804:True:=⟨⟩
theorem tw4630702849890737567:True:=⟨⟩
theorem tw7528731147715427740:True:=⟨⟩
theorem tw18165300821618884575:True:=⟨⟩
theorem tw1651496872185192413:True:=⟨⟩
theorem tw16924329864032115205:True:=⟨⟩
theorem tw9040449996164795716:True:=⟨⟩
theorem tw11567409607021346489:True:=⟨⟩
theorem tw16355142972061028908:True:=⟨⟩
theorem tw4187536163929462591:True:=⟨⟩
theorem tw16067859793367545502:True:=⟨⟩
theorem tw1450155653936770031:True:=⟨⟩
theorem tw1882213714756109:True:=⟨⟩
theorem tw14788273815140447891:True:=⟨⟩
theorem tw18067379323745792170:True:=⟨⟩
theorem tw4283391291844110211:True:=⟨⟩
theorem tw6403418130929779363:True:=⟨⟩
theorem tw10851023129138090541:True:=⟨⟩
theorem tw10826672574721747060:True:=⟨⟩
theorem tw11804783426085750205:True:=⟨⟩
theorem tw9014149530542126929:True:=⟨⟩
theorem tw17860308560011167914:True:=⟨⟩
theorem tw3368981180796902865:True:=⟨⟩
theorem tw18178640062320557288:True:=⟨⟩
theorem tw1423030053163603106:True:=⟨⟩
theorem tw10638410859678725950:True:=⟨⟩
theorem tw7193052035450701464:True:=⟨⟩
theorem tw6085752923747123043:True:=⟨⟩
theorem tw5913033434043622046:True:=⟨⟩
theorem tw14589613323236995173:True:=⟨⟩
theorem tw15194873729665463729:True:=⟨⟩
theorem tw13534188065644425336:True:=⟨⟩
theorem tw6940127131679556381:True:=⟨⟩
theorem tw8004238941135961778:True:=⟨⟩
theorem tw12356694034907543678:True:=⟨⟩
theorem tw739177745552569721:True:=⟨⟩
theorem tw3594960297767709892:True:=⟨⟩
theorem tw8144712685051657982:True:=⟨⟩
theorem tw2030858761900091565:True:=⟨⟩
theorem tw13369469720280190325:True:=⟨⟩
theorem tw15256664578825491260:True:=⟨⟩
theorem tw14060149463414820221:True:=⟨⟩
theorem tw2717515862844225593:True:=⟨⟩
theorem tw10075384160493144404:True:=⟨⟩
theorem tw7666264021748210676:True:=⟨⟩
theorem tw17521180680101603693:True:=⟨⟩
theorem tw994402485857083817:True:=⟨⟩
theorem tw13885275442233430900:True:=⟨⟩
theorem tw13868558529292993233:True:=⟨⟩
theorem tw3040913240063348814:True:=⟨⟩
theorem tw9968306526243151699:True:=⟨⟩
theorem tw3222427096460967891:True:=⟨⟩
theorem tw9042442554965968131:True:=⟨⟩
theorem tw1524807520259987008:True:=⟨⟩
theorem tw12118690584092196910:True:=⟨⟩
theorem tw13824982949217043300:True:=⟨⟩
theorem tw11908607631809436938:True:=⟨⟩
theorem tw9048892000921473788:True:=⟨⟩
theorem tw9686088189183605768:True:=⟨⟩
theorem tw9519057529933470760:True:=⟨⟩
theorem tw10952419320587255464:True:=⟨⟩
theorem tw437377418344069995:True:=⟨⟩
theorem tw11593239110802438717:True:=⟨⟩
theorem tw1841350884822054356:True:=⟨⟩
theorem tw13223842719311641591:True:=⟨⟩
theorem tw15023308171324230820:True:=⟨⟩
theorem tw12363247967611461093:True:=⟨⟩
theorem tw7488533489776616683:True:=⟨⟩
theorem tw10075886564505697565:True:=⟨⟩
theorem tw1598275497808463754:True:=⟨⟩
theorem tw16805440148537159576:True:=⟨⟩
theorem tw5076767467567340657:True:=⟨⟩
theorem tw952419511266062240:True:=⟨⟩
theorem tw6862407120577664420:True:=⟨⟩
theorem tw15549305590677906785:True:=⟨⟩
theorem tw14235735484889390928:True:=⟨⟩
theorem tw15421913113200353176:True:=⟨⟩
theorem tw5779733977874276943:True:=⟨⟩
theorem tw17622320570639043018:True:=⟨⟩
theorem tw9903527815571991627:True:=⟨⟩
theorem tw10965605497190815636:True:=⟨⟩
theorem tw49883717516776900:True:=⟨⟩
theorem tw1912320435073262254:True:=⟨⟩
theorem tw14828268373378272907:True:=⟨⟩
theorem tw18002321972971698020:True:=⟨⟩
theorem tw10490455246146252486:True:=⟨⟩
theorem tw7409284052224229872:True:=⟨⟩
theorem tw14121248747485520934:True:=⟨⟩
theorem tw11585877609828085402:True:=⟨⟩
theorem tw14926462038499768949:True:=⟨⟩
theorem tw3456953371616976225:True:=⟨⟩
theorem tw16851113827039813999:True:=⟨⟩
end PySem.W.Fast
section
set_option Elab.async false
namespace L2
open PySem PySem.Spec PyProof.Rows
noncomputable abbrev Key:=Sum Int Str
noncomputable def ZH:Key->Value->Bool
 |.inl k,v=>zfU k v
 |.inr x,v=>zfu x v
noncomputable def z80 (w:z9c):Key->Int
 |.inl k=>hashInt k
 |.inr x=>hashStr w x
theorem zS:∀{k:Key} {v:Value},ZH k v=true->(∃i t,k=zcG i/\v=zcp i t)\/(∃x t,k=zcH x/\v=zeo x t)
 |.inl i,v,h=>by
  obtain⟨t,e⟩:=Value.isInt_shape (k:=i) (v:=v) h
  exact .inl ⟨i,t,rfl,e⟩
 |.inr x,v,h=>by
  obtain⟨t,e⟩:=Value.isStrOf_shape (x:=x) (v:=v) h
  exact .inr ⟨x,t,rfl,e⟩
theorem XH(i:Int)(t:Tok):ZH (.inl i) (.int i t)=true:=by simp[ZH,zfU]
theorem Xi(x:Str)(t:Tok):ZH (.inr x) (.str x t)=true:=by simp[ZH,zfu]
theorem z3r(a b:Int):decide ((zcG a:Key)=zcG b)=(a == b):=by
 by_cases e:a=b
 ·subst e;simp
 ·have h:¬(zcG a:Key)=zcG b:=λq=>e (Sum.inl.inj q)
  rw[decide_eq_false h]
  exact (beq_eq_false_iff_ne.mpr e).symm
theorem z3I(a b:Str):decide ((zcH a:Key)=zcH b)=decide (a=b):=by
 by_cases e:a=b
 ·subst e;simp
 ·have h:¬(zcH a:Key)=zcH b:=λq=>e (Sum.inr.inj q)
  rw[decide_eq_false h,decide_eq_false e]
theorem z3j(a:Int)(b:Str):decide ((zcG a:Key)=zcH b)=false:=decide_eq_false (λq=>nomatch q)
theorem z3_(a:Str)(b:Int):decide ((zcH a:Key)=zcG b)=false:=decide_eq_false (λq=>nomatch q)
noncomputable def qg(prog:z91)(w:z9c):PySem.KeyKind prog w Key where
 is:=ZH
 hash:=z80 w
 inj:=λv a b ha hb=>by
  rcases zS ha with⟨i,t,rfl,rfl⟩|⟨x,t,rfl,rfl⟩
  ·rcases zS hb with⟨j,u,rfl,e⟩|⟨y,u,rfl,e⟩
   ·injection e with e1 _;rw[e1]
   ·exact nomatch e
  ·rcases zS hb with⟨j,u,rfl,e⟩|⟨y,u,rfl,e⟩
   ·exact nomatch e
   ·injection e with e1 _;rw[e1]
 byValue:=λk v h=>by
  rcases zS h with⟨i,t,rfl,rfl⟩|⟨x,t,rfl,rfl⟩<;>rfl
 pyHash:=λhv h=>by
  rcases zS hv with⟨i,t,rfl,rfl⟩|⟨x,t,rfl,rfl⟩
  ·exact wpAny_pyHash_int h
  ·exact wpAny_pyHash_str h
 eqBool:=λhu hv h=>by
  rcases zS hu with⟨i,t,rfl,rfl⟩|⟨x,t,rfl,rfl⟩
  ·rcases zS hv with⟨j,u,rfl,rfl⟩|⟨y,u,rfl,rfl⟩
   ·rw[z3r] at h;exact wpAny_eqBool_int h
   ·rw[z3j] at h;exact zdw i t y u _ _ _ _ h
  ·rcases zS hv with⟨j,u,rfl,rfl⟩|⟨y,u,rfl,rfl⟩
   ·rw[z3_] at h;exact zdx x t j u _ _ _ _ h
   ·rw[z3I] at h;exact wpAny_eqBool_str h
 «strs»:=λk x t v h=>by
  rcases zS h with⟨i,u,rfl,e⟩|⟨y,u,rfl,e⟩
  ·exact nomatch e
  ·injection e with e1 _
   subst e1
   cases v<;>rfl
theorem V3(prog:z91)(w:z9c)(i:Int)(t:Tok):(qg prog w).is (.inl i) (.int i t)=true:=XH i t
theorem WU(prog:z91)(w:z9c)(x:Str)(t:Tok):(qg prog w).is (.inr x) (.str x t)=true:=Xi x t
end L2
namespace L2
open PySem PySem.Spec PyProof.Rows
inductive V where
 |non|bl (b:Bool)|int (i:Int)|str (x:Str)|byt (b:Array UInt8)|flt (b:UInt64)|ref (a:Addr)|ty (n:String)
 deriving DecidableEq
noncomputable def RelV:V->Value->Prop
 |.non,u=>u=z9o
 |.bl b,u=>u=zau b
 |.int i,u=>∃t,u=zcp i t
 |.str x,u=>∃t,u=zeo x t
 |.byt b,u=>∃t,u=zfV b t
 |.flt b,u=>∃t,u=zfW b t
 |.ref a,u=>u=z8J a
 |.ty n,u=>u=zeW n
abbrev Vals:List V->List Value->Prop:=zcI RelV
theorem Vals.length{xs:List V}{us:List Value}(r:Vals xs us):xs.length=us.length:=zdp r
theorem Vals.get:∀{xs:List V} {us:List Value} {i:Nat} {x:V},Vals xs us->xs[i]?=some x->∃u,us[i]?=some u/\RelV x u
 |_,_,_,_,.nil,e=>by simp at e
 |_,_,0,_,.cons r _,e=>by simp at e;subst e;exact⟨_,rfl,r⟩
 |_,_,i+1,x,.cons _ t,e=>by
  obtain⟨u,h1,h2⟩:=Vals.get (i:=i) (x:=x) t (by simpa using e)
  exact⟨u,by simpa using h1,h2⟩
theorem Vals.set{x:V}{u:Value}(r:RelV x u):∀{xs:List V} {us:List Value} (i:Nat),Vals xs us->Vals (xs.set i x) (us.set i u)
 |_,_,_,.nil=>.nil
 |_,_,0,.cons _ t=>.cons r t
 |_,_,i+1,.cons q t=>.cons q (Vals.set r i t)
theorem Vals.append:∀{xs ys:List V} {us ws:List Value},Vals xs us->Vals ys ws->Vals (xs++ys) (us++ws)
 |_,_,_,_,.nil,s=>s
 |_,_,_,_,.cons r t,s=>.cons r (Vals.append t s)
theorem Vals.take:∀{xs:List V} {us:List Value} (n:Nat),Vals xs us->Vals (xs.take n) (us.take n)
 |_,_,0,_=>.nil
 |_,_,_+1,.nil=>.nil
 |_,_,n+1,.cons r t=>.cons r (Vals.take n t)
theorem Vals.drop:∀{xs:List V} {us:List Value} (n:Nat),Vals xs us->Vals (xs.drop n) (us.drop n)
 |_,_,0,r=>r
 |_,_,_+1,.nil=>.nil
 |_,_,n+1,.cons _ t=>Vals.drop n t
noncomputable def RelO:Option V->Option Value->Prop
 |some v,some u=>RelV v u
 |none,none=>True
 |_,_=>False
noncomputable def KV {κ:Type}:List (κ×V)->List (κ×Value)->Prop:=zcI λ(p:κ×V) (q:κ×Value)=>p.1=q.1/\RelV p.2 q.2
noncomputable def kV:Key->V
 |.inl i=>.int i
 |.inr x=>.str x
inductive HO where
 |lst (xs:List V)
 |tup (xs:List V)
 |dK (kvs:List (Key×V))|dT (kvs:List (List Key×V))
 |set (S:Int->Bool) (n:Nat)
 |ins (C dx:Addr) (fs:List (Str×V))
 |own (x:Addr)
 |xd (fs:List (Str×V))
 |met (f x:Addr)
 |rng (lo hi:Int)
 |frz (o:Obj) (u:HO)
 |tbl (ps:Array Value)
 |ext (φ:Heap->Prop)
noncomputable abbrev Hp:=Addr->Option HO
noncomputable def upd (H:Hp)(a:Addr)(o:HO):Hp:=λb=>if b=a then some o else H b
theorem z8{H:Hp}{a:Addr}{o:HO}:upd H a o a=some o:=by unfold upd;rw[if_pos rfl]
theorem z9{H:Hp}{a b:Addr}{o:HO}(h:b≠a):upd H a o b=H b:=by unfold upd;rw[if_neg h]
theorem Ko{H:Hp}{a:Addr}{o u:HO}:upd (upd H a o) a u=upd H a u:=by
 funext b;unfold upd;split<;>rfl
theorem z7o{H:Hp}{a b:Addr}{o u:HO}(h:H a=some o)(h':H b=some u)(d:o≠u):a≠b:=by
 intro e;subst e;rw[h] at h';exact d (z8m h')
theorem zV{H:Hp}{a b:Addr}{o:HO}(h:H a=some o)(h':H b=none):a≠b:=by
 intro e;subst e;rw[h] at h';cases h'
section
variable (P:Program)(w:World)
noncomputable def ObjOk(H:Hp)(h:Heap)(a:Addr):HO->Prop
 |.lst xs=>xs.length<=sizeLine/\∃(its:List Value) (n:Nat),Vals xs its/\h.get? a=some {cls:=.type "list",data:=.seq its.toArray n}
 |.tup xs=>xs.length<=sizeLine/\∃its:List Value,Vals xs its/\zdO h a its.toArray
 |.dK kvs=>kvs.length<=sizeLine/\(a == zav)=false/\∃vs,KV kvs vs/\h.DictOf (qg P w) a vs
 |.dT kvs=>kvs.length<=sizeLine/\(a == zav)=false/\∃xs:List (List Key×Addr×Value),
   zcI (λ(p:List Key×V) (q:List Key×Addr×Value)=>p.1=q.1/\H q.2.1=some (.tup (p.1.map kV))/\RelV p.2 q.2.2) kvs xs/\
   ∃o es ep,h.get? a=some o/\o.ExactDict/\o.data=.dict es ep/\es.toList=xs.map (entryOfKey (zcq (qg P w)))/\(xs.map (·.1)).Nodup
 |.set S n=>h.SetOf (intKind P w) a S n
 |.ins C dx fs=>H dx=some (.own a)/\fs.length<=1000/\dx≠a/\h.get? a=some (z9P C dx)/\
   ∃mA,h.Ns1 dx mA/\(∀f,RelO (fs.lookup f) (mA f))/\zdP mA (fs.map (·.1))
 |.own _=>∃o,h.get? a=some o
 |.xd fs=>∃mA,h.Ns1 a mA/\∀f,RelO (fs.lookup f) (mA f)
 |.rng lo hi=>∃t u v,h.get? a=some {cls:=.type "range",data:=.fields #[.int lo t,.int hi u,.int 1 v]}
 |.frz o u=>h.get? a=some o/\ObjOk H h a u
 |.tbl ps=>h.get? a=some {cls:=.none,data:=.fields ps}
 |.met f x=>h.get? a=some (zc7 (.ref f) (.ref x))
 |.ext φ=>φ h/\(∃o,h.get? a=some o)/\∀h1 h2:Heap,φ h1->(∀o,h1.get? a=some o->h2.get? a=some o)->φ h2
noncomputable def HOk (H:Hp)(h:Heap):Prop:=∀a o,H a=some o->ObjOk P w H h a o
end
section
variable {P:Program}{w:World}{H H':Hp}{h h':Heap}{a:Addr}{o:HO}
theorem ObjOk.lt(x:ObjOk P w H h a o):a<h.objs.size:=by
 cases o with
 |lst xs=>obtain⟨_,_,_,_,e⟩:=x;exact z8x e
 |tup xs=>obtain⟨_,_,_,p⟩:=x;exact p.lt
 |dK kvs=>obtain⟨_,_,_,_,o,_,_,e,_⟩:=x;exact z8x e
 |dT kvs=>obtain⟨_,_,_,_,o,_,_,e,_⟩:=x;exact z8x e
 |set S n=>obtain⟨o,_,_,_,e,_⟩:=x;exact z8x e
 |ins C dx fs=>obtain⟨_,_,_,e,_⟩:=x;exact z8x e
 |own y=>obtain⟨_,e⟩:=x;exact z8x e
 |xd fs=>obtain⟨_,⟨_,_,_,e,_⟩,_⟩:=x;exact z8x e
 |rng lo hi=>obtain⟨_,_,_,e⟩:=x;exact z8x e
 |frz ob u=>obtain⟨e,_⟩:=x;exact z8x e
 |tbl ps=>exact z8x (show h.get? a=some _ from x)
 |met f y=>exact z8x (show h.get? a=some _ from x)
 |ext φ=>obtain⟨_,⟨_,e⟩,_⟩:=x;exact z8x e
theorem zcI.mapP{α β:Type}{F G:α->β->Prop}:∀{l₁:List α} {l₂:List β},zcI F l₁ l₂->(∀a b,F a b->G a b)->zcI G l₁ l₂
 |_,_,.nil,_=>.nil
 |_,_,.cons r t,f=>.cons (f _ _ r) (zcI.mapP t f)
theorem ObjOk.stay(x:ObjOk P w H h a o)(k:∀b u,(b=a\/H b=some (.own a))->h.get? b=some u->h'.get? b=some u)
  (ho:∀b,H b=some (.own a)->H' b=some (.own a)) (ht:∀b xs,H b=some (.tup xs)->H' b=some (.tup xs)):ObjOk P w H' h' a o:=by
 induction o with
 |lst xs=>obtain⟨z,its,n,r,e⟩:=x;exact⟨z,its,n,r,k _ _ (.inl rfl) e⟩
 |tup xs=>obtain⟨z,its,r,ob,e,c⟩:=x;exact⟨z,its,r,ob,k _ _ (.inl rfl) e,c⟩
 |dK kvs=>obtain⟨z,y,vs,r,ob,es,ep,e,c⟩:=x;exact⟨z,y,vs,r,ob,es,ep,k _ _ (.inl rfl) e,c⟩
 |dT kvs=>
  obtain⟨z,y,xs,r,ob,es,ep,e,c⟩:=x
  exact⟨z,y,xs,zcI.mapP r λp q z=>⟨z.1,ht _ _ z.2.1,z.2.2⟩,ob,es,ep,k _ _ (.inl rfl) e,c⟩
 |set S n=>obtain⟨ob,es,ep,t,e,c⟩:=x;exact⟨ob,es,ep,t,k _ _ (.inl rfl) e,c⟩
 |ins C dx fs=>
  obtain⟨d,z,ne,e,mA,⟨od,es,ep,e2,c⟩,r⟩:=x
  exact⟨ho _ d,z,ne,k _ _ (.inl rfl) e,mA,⟨od,es,ep,k _ _ (.inr d) e2,c⟩,r⟩
 |own y=>obtain⟨ob,e⟩:=x;exact⟨ob,k _ _ (.inl rfl) e⟩
 |xd fs=>obtain⟨mA,⟨od,es,ep,e,c⟩,r⟩:=x;exact⟨mA,⟨od,es,ep,k _ _ (.inl rfl) e,c⟩,r⟩
 |rng lo hi=>obtain⟨t,u,v,e⟩:=x;exact⟨t,u,v,k _ _ (.inl rfl) e⟩
 |frz ob u ih=>obtain⟨e,q⟩:=x;exact⟨k _ _ (.inl rfl) e,ih q⟩
 |tbl ps=>
  have e:h.get? a=some {cls:=.none,data:=.fields ps}:=x
  show h'.get? a=some {cls:=.none,data:=.fields ps}
  exact k a _ (.inl rfl) e
 |met f y=>
  have e:h.get? a=some (zc7 (.ref f) (.ref y)):=x
  show h'.get? a=some (zc7 (.ref f) (.ref y))
  exact k a _ (.inl rfl) e
 |ext φ=>obtain⟨p,⟨o,e⟩,st⟩:=x;exact⟨st _ _ p λo q=>k _ _ (.inl rfl) q,⟨o,k _ _ (.inl rfl) e⟩,st⟩
theorem HOk.lt(x:HOk P w H h)(e:H a=some o):a<h.objs.size:=(x a o e).lt
theorem HOk.fresh(x:HOk P w H h)(e:h.objs.size<=a):H a=none:=by
 cases q:H a with
 |none=>rfl
 |some u=>exact absurd (z8w (x.lt q) e) (z9G _)
theorem HOk.kept(x:HOk P w H h)(k:∀b u,h.get? b=some u->h'.get? b=some u):HOk P w H h':=λa o e=>
 (x a o e).stay (λb u _ q=>k b u q) (λ_ q=>q) λ_ _ q=>q
theorem HOk.laid(x:HOk P w H h)(k:∀b u,h.get? b=some u->h'.get? b=some u)(hp:h.objs.size<=a)(new:ObjOk P w (upd H a o) h' a o):HOk P w (upd H a o) h':=λb u e=>by
 have hn:=x.fresh hp
 by_cases hb:b=a
 ·subst hb;rw[z8] at e;cases e;exact new
 ·rw[z9 hb] at e
  exact (x b u e).stay (λc v _ q=>k c v q) (λc q=>by rw[z9 (zV q hn)];exact q) λc xs q=>by rw[z9 (zV q hn)];exact q
end
noncomputable def Rd (H:Hp)(a:Addr)(u:HO):Prop:=H a=some u\/∃o,H a=some (.frz o u)
theorem Rd.ok{P:z91}{w:z9c}{H:Hp}{h:Heap}{a:Addr}{u:HO}(r:Rd H a u)(x:HOk P w H h):ObjOk P w H h a u:=by
 rcases r with r|⟨o,r⟩
 ·exact x a u r
 ·obtain⟨_,q⟩:=x a _ r
  exact q
noncomputable def Mut:Option HO->Prop
 |some (.lst _)=>True
 |some (.dK _)=>True
 |some (.dT _)=>True
 |some (.set _ _)=>True
 |some (.ins _ _ _)=>True
 |some (.ext _)=>True
 |_=>False
section
variable {P:Program}{w:World}{H:Hp}{h h':Heap}{x e:Addr}{o':HO}
theorem HOk.write(ok:HOk P w H h)(mu:Mut (H x))(he:e=x\/H e=some (.own x))(k:∀b u,b≠e->h.get? b=some u->h'.get? b=some u)(heo:∃u,h'.get? e=some u)
  (new:ObjOk P w (upd H x o') h' x o'):HOk P w (upd H x o') h':=λb u q=>by
 have nown:∀c y,H c=some (.own y)->c≠x:=λc y r z=>by subst z;rw[r] at mu;exact mu
 have ntup:∀c xs,H c=some (.tup xs)->c≠x:=λc xs r z=>by subst z;rw[r] at mu;exact mu
 by_cases hb:b=x
 ·subst hb;rw[z8] at q;cases q;exact new
 ·rw[z9 hb] at q
  by_cases hbe:b=e
  ·have q':H b=some (.own x):=by
    rcases he with z|z
    ·exact absurd (hbe.trans z) hb
    ·rw[hbe];exact z
   rw[q] at q';cases q'
   obtain⟨v,hv⟩:=heo
   exact⟨v,by rw[hbe];exact hv⟩
  ·refine (ok b u q).stay (λc v hc r=>k c v ?_ r) (λc r=>by rw[z9 (nown c b r)];exact r) λc xs r=>by rw[z9 (ntup c xs r)];exact r
   rcases hc with rfl|hc
   ·exact hbe
   ·rintro rfl
    rcases he with z|z
    ·exact nown c b hc z
    ·rw[hc] at z;cases z;exact hb rfl
end
structure Un(fs ex:List Addr)(H H':Hp)(h h':Heap):Prop where
 keep:∀b o,h.get? b=some o->H b=none->b∉fs->b∉ex->h'.get? b=some o
 slot:∀b o,h.get? b=some o->H b=none->b∈fs->b∉ex->∃sl,h'.get? b=some {o with slots:=sl}
 free:∀b o,h.get? b=some o->H b=none->b∉ex->H' b=none
 there:∀b o,h.get? b=some o->b∉ex->∃o',h'.get? b=some o'
 tups:∀b xs,H b=some (.tup xs)->H' b=some (.tup xs)
 frzs:∀b o u,H b=some (.frz o u)->H' b=some (.frz o u)
 tbls:∀b ps,H b=some (.tbl ps)->∃more,H' b=some (.tbl (ps++more))
section
variable {fs fs' ex ex':List Addr}{H H1 H2:Hp}{h h1 h2 h':Heap}{a x e:Addr}{o:HO}
theorem Un.any(u:Un fs ex H H1 h h1){b:Addr}{ob:Obj}(q:h.get? b=some ob)(n:H b=none)(hx:b∉ex):∃sl,h1.get? b=some {ob with slots:=sl}:=by
 by_cases hb:b∈fs
 ·exact u.slot b ob q n hb hx
 ·exact⟨ob.slots,u.keep b ob q n hb hx⟩
theorem Un.kept(k:∀b u,h.get? b=some u->h'.get? b=some u):Un fs ex H H h h':=
 ⟨λb ob q _ _ _=>k b ob q,λb ob q _ _ _=>⟨ob.slots,k b ob q⟩,λ_ _ _ n _=>n,λb ob q _=>⟨ob,k b ob q⟩,λ_ _ q=>q,λ_ _ _ q=>q,λ_ ps q=>⟨#[],by rw[q];simp⟩⟩
theorem Un.refl:Un fs ex H H h h:=Un.kept λ_ _ q=>q
theorem Un.laid(k:∀b u,h.get? b=some u->h'.get? b=some u)(hp:h.objs.size<=a)(hn:H a=none):Un fs ex H (upd H a o) h h' where
 keep:=λb u q _ _ _=>k b u q
 slot:=λb u q _ _ _=>⟨u.slots,k b u q⟩
 free:=λb u q n _=>by rw[z9 (z8O (z8w (z8x q) hp))];exact n
 there:=λb u q _=>⟨u,k b u q⟩
 tups:=λb xs q=>by rw[z9 (zV q hn)];exact q
 frzs:=λb u xs q=>by rw[z9 (zV q hn)];exact q
 tbls:=λb ps q=>⟨#[],by rw[z9 (zV q hn),q];simp⟩
theorem Un.write(mu:Mut (H x))(he:e=x\/H e=some (.own x))(k:∀b u,b≠e->h.get? b=some u->h'.get? b=some u)(heo:∃u,h'.get? e=some u):Un fs ex H (upd H x o) h h':=by
 have hx:∀b,H b=none->b≠x:=λb n z=>by subst z;rw[n] at mu;exact mu
 have hb:∀b,H b=none->b≠e:=λb n z=>by
  subst z
  rcases he with r|r
  ·exact hx b n r
  ·rw[n] at r;cases r
 have hm:∀b u,H b=some u->¬Mut (some u)->b≠x:=λb u q nm z=>by subst z;rw[q] at mu;exact nm mu
 refine⟨λb u q n _ _=>k b u (hb b n) q,λb u q n _ _=>⟨u.slots,k b u (hb b n) q⟩,λb u q n _=>by rw[z9 (hx b n)];exact n,λb u q _=>?_,
  λb xs q=>by rw[z9 (hm b _ q λz=>z)];exact q,λb u xs q=>by rw[z9 (hm b _ q λz=>z)];exact q,λb ps q=>⟨#[],by rw[z9 (hm b _ q λz=>z),q];simp⟩⟩
 by_cases hbe:b=e
 ·subst hbe;exact heo
 ·exact⟨u,k b u hbe q⟩
end
noncomputable def trk (h:Heap)(H:Hp):List Addr:=(z9i h.objs.size).filter λa=>(H a).isSome
noncomputable def Zr (h:Heap)(H:Hp):Heap:=PySem.W.hideAll h (trk h H)
theorem Xl(h:Heap)(H:Hp):(Zr h H).objs.size=h.objs.size:=PySem.W.hideAll_size _ _
theorem z09{h:Heap}{H:Hp}{b:Addr}{o:Obj}(e:h.get? b=some o)(n:H b=none):(Zr h H).get? b=some o:=
 PySem.W.hideAll_get _ e λhm=>by
  have q:(H b).isSome=true:=(z9l.mp hm).2
  rw[n] at q;simp at q
theorem z2k{h:Heap}{H:Hp}{b:Addr}{o:Obj}(e:(Zr h H).get? b=some o):h.get? b=some o/\H b=none:=by
 have e':h.get? b=some o:=PySem.W.of_hideAll (trk h H) e
 refine⟨e',?_⟩
 cases q:H b with
 |none=>rfl
 |some x=>
  have hm:b∈trk h H:=z9l.mpr ⟨zbO.mpr (z8x e'),by simp[q]⟩
  have z:(Zr h H).get? b=none:=PySem.W.hideAll_none (trk h H) hm
  rw[z] at e;cases e
noncomputable def z1T(g h:Heap)(L:Addr):List (Addr×Obj):=(z9i h.objs.size).filterMap λa=>if a=L\/(g.get? a).isSome=true then none else (h.get? a).map λo=>(a,o)
noncomputable def rest (g h:Heap)(L d:Addr):List (Addr×Obj):=(z1T g h L).filter λp=>decide (p.1≠d)
end L2
namespace L2
open PySem PySem.Spec PyProof.Rows
structure Mod(K:PySem.W.Frag)(mg:Str->Option Value)(base:Heap):Prop where
 kin:K.In base
 glob:base.Ns z8D mg
 blt:∃mb,base.Ns zcJ mb/\∀x:Str,x≠"__name__"->mb x=z9S x
 nolimit:base.NoLimit
structure Cx where
 prog:z91
 w:z9c
 K:z8o
 mg:Str->Option Value
 base:Heap
 A:z8V
 N:List Str
 s₀:z8k
 H₀:Hp
 env:Env
 outer:List Env
 stack:List Env
 ex:List Addr
 fn:Str->Bool
 calm:Bool
 pn:List (Addr×Obj)
 xe:Value->z8k->Prop
noncomputable def frs(l:List Env):List Addr:=l.filterMap (·.frame)
noncomputable abbrev Cx.fs(X:Cx):List Addr:=frs X.outer
noncomputable def Vis(sc:Scope)(x:Str):Prop:=sc.names.lookup x=some .local\/sc.names.lookup x=some .cell\/sc.names.lookup x=some .free
noncomputable def Loc(sc:Scope)(x:Str):Prop:=sc.names.lookup x=some .local\/sc.names.lookup x=some .cell
noncomputable def Look(env:Env)(h:Heap)(m:Str->Option Value)(x:Str)(u:Value):Prop:=
 (env.kindOf x=some .local/\m x=some u)\/((env.kindOf x=some .cell\/env.kindOf x=some .free)/\∃c,env.cells.lookup x=some c/\h.IsCell c (some u))
structure Cx.Ok(X:Cx):Prop where
 mod:Mod X.K X.mg X.base
 kind:X.env.scope.kind=.function
 glob:X.env.globals=z8D
 blt:X.env.builtins=zcJ
 above:X.s₀.heap.objs.size<=X.env.locals
 inj:∀x y c,X.env.cells.lookup x=some c->X.env.cells.lookup y=some c->x=y
 has:∀x,(X.env.kindOf x=some .cell\/X.env.kindOf x=some .free)->∃c,X.env.cells.lookup x=some c
 cab:∀x c,X.fn x=true->X.env.cells.lookup x=some c->X.s₀.heap.objs.size<=c
 hd:X.calm=true->X.A.handled=none
 frames:X.A.frames=some X.stack
 stk:X.stack=X.outer\/(X.stack=X.env::X.outer/\X.env.frame=some X.env.locals)
 exf:∀b∈X.ex,b≠X.env.locals/\∀x c,X.env.cells.lookup x=some c->c≠b
 bs:∀b o,X.base.get? b=some o->X.s₀.heap.get? b=some o/\X.H₀ b=none
 bsz:X.base.objs.size<=X.s₀.heap.objs.size
 noex:∀b o,X.base.get? b=some o->b∉X.ex
 exfs:∀b∈X.ex,b∉X.fs
 funs:X.s₀.heap.FunFrames X.base X.outer
 frf:∀b∈X.fs,X.H₀ b=none
structure Inv(X:Cx)(pins:List (Addr×Obj))(σ:List (Option V))(H:Hp)(s:Shared):Prop where
 ok:X.Ok
 os:s.os=X.s₀.os
 bare:zc8 s.gens
 base:Un X.fs X.ex X.H₀ H X.s₀.heap s.heap
 loc:∃m,s.heap.Ns X.env.locals m/\∀(i:Nat) (x:Str) (v:V),X.N[i]?=some x->σ[i]?=some (some v)->Vis X.env.scope x->∃u,RelV v u/\Look X.env s.heap m x u
 cell:∀x c,X.env.cells.lookup x=some c->∃v,s.heap.IsCell c v
 free:H X.env.locals=none
 freeC:∀x c,X.env.cells.lookup x=some c->H c=none\/(X.fn x=false/\∃o u,H c=some (.frz o u))
 pin:∀p∈X.pn++pins,s.heap.get? p.1=some p.2/\H p.1=none/\p.1≠X.env.locals/\p.1∉X.fs/\∀v,p.2.data≠.cell v
 hok:HOk X.prog X.w H s.heap
 len:σ.length=X.N.length
section
variable {X:Cx}{pins:List (Addr×Obj)}{σ:List (Option V)}{H H':Hp}{s:Shared}{h':Heap}
theorem Cx.Ok.nofr(ok:X.Ok){b:Addr}{o:Obj}(e:X.base.get? b=some o):b∉X.fs:=λhb=>by
 have:=(ok.funs.mem hb).1
 rw[e] at this;cases this
theorem Inv.bs(I:Inv X pins σ H s):∀b o,X.base.get? b=some o->s.heap.get? b=some o/\H b=none:=λb o e=>
 ⟨I.base.keep b o (I.ok.bs b o e).1 (I.ok.bs b o e).2 (I.ok.nofr e) (I.ok.noex b o e),I.base.free b o (I.ok.bs b o e).1 (I.ok.bs b o e).2 (I.ok.noex b o e)⟩
theorem Inv.bk(I:Inv X pins σ H s):∀b o,X.base.get? b=some o->s.heap.get? b=some o:=λb o e=>(I.bs b o e).1
theorem Inv.mod(I:Inv X pins σ H s):Mod X.K X.mg X.base:=I.ok.mod
theorem Inv.kIn(I:Inv X pins σ H s):X.K.In s.heap:=I.ok.mod.kin.keeps I.bk
theorem Inv.lt(I:Inv X pins σ H s):X.env.locals<s.heap.objs.size:=let ⟨_,hn,_⟩:=I.loc;hn.lt
theorem Inv.sz(I:Inv X pins σ H s):X.s₀.heap.objs.size<=s.heap.objs.size:=z8G I.ok.above (zbJ I.lt)
theorem Inv.nofs(I:Inv X pins σ H s){a:Addr}(h:s.heap.objs.size<=a):a∉X.fs:=λhb=>by
 obtain⟨_,o,ho,_⟩:=I.ok.funs.mem hb
 exact absurd (z8w (z8x ho) (z8G I.sz h)) (z9G _)
theorem Inv.cne(I:Inv X pins σ H s):∀x c,X.env.cells.lookup x=some c->c≠X.env.locals:=λx c e z=>by
 obtain⟨v,o,ho,hd⟩:=I.cell x c e
 obtain⟨m,⟨o',es,ep,ho',hd',_⟩,_⟩:=I.loc
 rw[z,ho'] at ho;cases ho;rw[hd'] at hd;cases hd
theorem Inv.funs(I:Inv X pins σ H s):s.heap.FunFrames X.base X.outer:=by
 have all:∀(l:List Env),(∀b∈frs l,b∈X.fs)->X.s₀.heap.FunFrames X.base l->s.heap.FunFrames X.base l:=by
  intro l
  induction l with
  |nil=>intro _ _;trivial
  |cons env r ih=>
   intro hs hl
   obtain⟨hk,⟨L,o,hf,hn,ho,hd⟩,hr⟩:=hl
   have hL:L∈X.fs:=hs L (by unfold frs;rw[zbF,hf];exact z8M)
   obtain⟨sl,e⟩:=I.base.slot L o ho (I.ok.frf L hL) hL λz=>I.ok.exfs L z hL
   exact⟨hk,⟨L,_,hf,hn,e,hd⟩,ih (λb hb=>hs b (by unfold frs;rw[zbF,hf];exact z8y _ hb)) hr⟩
 exact all X.outer (λ_ hb=>hb) I.ok.funs
theorem Inv.stack(I:Inv X pins σ H s):s.heap.FunFrames X.base X.stack:=by
 rcases I.ok.stk with e|⟨e,hf⟩
 ·rw[e];exact I.funs
 ·rw[e]
  obtain⟨m,hn,_⟩:=I.loc
  refine .cons (by rw[I.ok.kind];decide) hf hn ?_ I.funs
  exact z9d (z8G I.ok.bsz I.ok.above)
theorem Inv.stkSub(I:Inv X pins σ H s):∀b∈frs X.stack,b∈X.env.locals::X.fs:=λb hb=>by
 rcases I.ok.stk with e|⟨e,hf⟩
 ·rw[e] at hb;exact z8y _ hb
 ·rw[e] at hb
  unfold frs at hb
  rw[zbF,hf] at hb
  exact hb
theorem Inv.stkFree(I:Inv X pins σ H s):∀b∈frs X.stack,H b=none:=λb hb=>by
 rcases z8T.mp (I.stkSub b hb) with e|hb
 ·rw[e];exact I.free
 ·obtain⟨_,o,ho,_⟩:=I.ok.funs.mem hb
  exact I.base.free b o ho (I.ok.frf b hb) λz=>I.ok.exfs b z hb
theorem Inv.step{g':Array GenState}{t':Nat}{d':Drawn}{ch:List Addr}(I:Inv X pins σ H s)
  (hch:∀b∈ch,(b∈X.ex\/X.s₀.heap.objs.size<=b)/\b≠X.env.locals/\(∀x c,X.env.cells.lookup x=some c->c≠b)/\∀p∈X.pn++pins,p.1≠b)
  (keep:∀b o,b≠X.env.locals->b∉X.fs->b∉ch->s.heap.get? b=some o->H b=none->h'.get? b=some o)
  (slot:∀b o,b≠X.env.locals->b∈X.fs->b∉ch->s.heap.get? b=some o->H b=none->∃sl,h'.get? b=some {o with slots:=sl}) (free:∀b o,b∉ch->s.heap.get? b=some o->H b=none->H' b=none)
  (there:∀b o,b∉ch->s.heap.get? b=some o->∃o',h'.get? b=some o')
  (tups:∀b xs,H b=some (.tup xs)->H' b=some (.tup xs)) (frzs:∀b o u,H b=some (.frz o u)->H' b=some (.frz o u)) (tbls:∀b ps,H b=some (.tbl ps)->∃more,H' b=some (.tbl (ps++more)))
  (ns:∀m,s.heap.Ns X.env.locals m->h'.Ns X.env.locals m) (hok:HOk X.prog X.w H' h') (hg:zc8 g') :
  Inv X pins σ H' {s with heap:=h',gens:=g',drawn:=d',toks:=t'}:=by
 have neL:∀b o,X.s₀.heap.get? b=some o->b≠X.env.locals:=λb o e=>z8O (z8w (z8x e) I.ok.above)
 have neC:∀b o,X.s₀.heap.get? b=some o->b∉X.ex->b∉ch:=λb o e hx hb=>by
  rcases (hch b hb).1 with z|z
  ·exact hx z
  ·exact absurd (z8w (z8x e) z) (z9G _)
 have cellK:∀x c,X.env.cells.lookup x=some c->∀v,s.heap.IsCell c v->h'.IsCell c v:=λx c e v ⟨o,ho,hd⟩=>by
  have nch:c∉ch:=λz=>(hch c z).2.2.1 x c e rfl
  rcases I.freeC x c e with f|⟨_,ob,u,f⟩
  ·by_cases hc:c∈X.fs
   ·obtain⟨sl,q⟩:=slot c o (I.cne x c e) hc nch ho f
    exact⟨_,q,hd⟩
   ·exact⟨o,keep c o (I.cne x c e) hc nch ho f,hd⟩
  ·have h1:=(I.hok c _ f).1
   rw[ho] at h1;cases h1
   exact⟨o,(hok c _ (frzs c _ u f)).1,hd⟩
 refine⟨I.ok,I.os,hg,⟨λb o e n hb hx=>?_,λb o e n hb hx=>?_,λb o e n hx=>?_,λb o e hx=>?_,λb xs e=>tups b xs (I.base.tups b xs e),λb o xs e=>frzs b o xs (I.base.frzs b o xs e),λb ps e=>?_⟩,?_,λx c e=>?_,?_,λx c e=>?_,λp hp=>?_,hok,I.len⟩
 ·exact keep b o (neL b o e) hb (neC b o e hx) (I.base.keep b o e n hb hx) (I.base.free b o e n hx)
 ·obtain⟨sl,e1⟩:=I.base.slot b o e n hb hx
  obtain⟨sl',e2⟩:=slot b _ (neL b o e) hb (neC b o e hx) e1 (I.base.free b o e n hx)
  exact⟨sl',e2⟩
 ·obtain⟨o',e1⟩:=I.base.there b o e hx
  exact free b o' (neC b o e hx) e1 (I.base.free b o e n hx)
 ·obtain⟨o',e1⟩:=I.base.there b o e hx
  exact there b o' (neC b o e hx) e1
 ·obtain⟨m1,e1⟩:=I.base.tbls b ps e
  obtain⟨m2,e2⟩:=tbls b _ e1
  exact⟨m1++m2,by rw[e2,Array.append_assoc]⟩
 ·obtain⟨m,hn,hl⟩:=I.loc
  refine⟨m,ns m hn,λi x v e1 e2 e3=>?_⟩
  obtain⟨u,r,l⟩:=hl i x v e1 e2 e3
  refine⟨u,r,?_⟩
  rcases l with l|⟨k,c,e,z⟩
  ·exact .inl l
  ·exact .inr ⟨k,c,e,cellK x c e _ z⟩
 ·obtain⟨v,z⟩:=I.cell x c e
  exact⟨v,cellK x c e v z⟩
 ·obtain⟨m,⟨o,_,_,ho,_⟩,_⟩:=I.loc
  exact free _ o (λz=>(hch _ z).2.1 rfl) ho I.free
 ·obtain⟨v,o,ho,hd⟩:=I.cell x c e
  exact (I.freeC x c e).imp (free c o (λz=>(hch c z).2.2.1 x c e rfl) ho) λ⟨n,ob,u,f⟩=>⟨n,ob,u,frzs c ob u f⟩
 ·obtain⟨e,n,ne,nf,d⟩:=I.pin p hp
  have nch:p.1∉ch:=λz=>(hch p.1 z).2.2.2 p hp rfl
  exact⟨keep p.1 p.2 ne nf nch e n,free p.1 p.2 nch e n,ne,nf,d⟩
theorem Inv.un{t':Nat}(I:Inv X pins σ H s)(u:Un X.fs [] H H' s.heap h')(hok:HOk X.prog X.w H' h'):Inv X pins σ H' {s with heap:=h',toks:=t'}:=by
 obtain⟨m,⟨o,es,ep,ho,r⟩,_⟩:=id I.loc
 obtain⟨sl,hL⟩:=u.any ho I.free (by simp)
 exact I.step (g':=s.gens) (d':=s.drawn) (ch:=[]) (λ_ z=>nomatch z) (λb o _ hb _ e n=>u.keep b o e n hb (by simp)) (λb o _ hb _ e n=>u.slot b o e n hb (by simp)) (λb o _ e n=>u.free b o e n (by simp)) (λb o _ e=>u.there b o e (by simp)) u.tups u.frzs u.tbls (λm' hm=>by
  obtain⟨o',es',ep',ho',r'⟩:=hm
  rw[ho] at ho';cases ho'
  exact⟨_,es',ep',hL,r'⟩) hok I.bare
theorem Inv.call{g':Array GenState}{t':Nat}{d':Drawn}{ch:List Addr}(I:Inv X pins σ H s)(u:Un (frs X.stack) ch H H' s.heap h')(hok:HOk X.prog X.w H' h')(hg:zc8 g')
  (hch:∀b∈ch,(b∈X.ex\/X.s₀.heap.objs.size<=b)/\b≠X.env.locals/\(∀x c,X.env.cells.lookup x=some c->c≠b)/\∀p∈X.pn++pins,p.1≠b) :
  Inv X pins σ H' {s with heap:=h',gens:=g',drawn:=d',toks:=t'}:=by
 obtain⟨m,⟨o,es,ep,ho,r⟩,_⟩:=id I.loc
 obtain⟨sl,hL⟩:=u.any ho I.free λz=>(hch _ z).2.1 rfl
 exact I.step (ch:=ch) hch (λb o hL hb hc e n=>u.keep b o e n (λz=>(z8T.mp (I.stkSub b z)).elim hL hb) hc) (λb o _ _ hc e n=>u.any e n hc) (λb o hc e n=>u.free b o e n hc) (λb o hc e=>u.there b o e hc) u.tups u.frzs u.tbls (λm' hm=>by
  obtain⟨o',es',ep',ho',r'⟩:=hm
  rw[ho] at ho';cases ho'
  exact⟨_,es',ep',hL,r'⟩) hok hg
theorem Inv.turned{t':Nat}{it:Addr}(I:Inv X pins σ H s)(k:∀b o,b≠it->s.heap.get? b=some o->h'.get? b=some o)(hn:H it=none)(hL:it≠X.env.locals)
  (h1:it∈X.ex\/X.s₀.heap.objs.size<=it) (h2:∀x c,X.env.cells.lookup x=some c->c≠it) (h3:∀p∈X.pn++pins,p.1≠it):Inv X pins σ H {s with heap:=h',toks:=t'}:=by
 have nit:∀b u,H b=some u->b≠it:=λb u e z=>by rw[z,hn] at e;cases e
 refine I.step (g':=s.gens) (d':=s.drawn) (ch:=[it]) (λb hb=>?_) (λb o _ _ hc e _=>k b o (λz=>hc (by simp[z])) e) (λb o _ _ hc e _=>⟨o.slots,k b o (λz=>hc (by simp[z])) e⟩) (λ_ _ _ _ n=>n)
  (λb o hc e=>⟨o,k b o (λz=>hc (by simp[z])) e⟩) (λ_ _ e=>e) (λ_ _ _ e=>e) (λb ps e=>⟨#[],by rw[e];simp⟩) (λm hm=>?_) (λb u e=>?_) I.bare
 ·have e:b=it:=by simpa using hb
  subst e
  exact⟨h1,hL,h2,h3⟩
 ·obtain⟨o,es,ep,ho,r⟩:=hm
  exact⟨o,es,ep,k _ o (z9r hL) ho,r⟩
 ·refine (I.hok b u e).stay (λc v hc q=>k c v ?_ q) (λ_ q=>q) λ_ _ q=>q
  rcases hc with z|z
  ·rw[z];exact nit b u e
  ·exact nit c _ z
theorem Inv.tok(I:Inv X pins σ H s)(t:Nat):Inv X pins σ H {s with toks:=t}:=I.un (h':=s.heap) (t':=t) Un.refl I.hok
theorem Inv.kept{t':Nat}(I:Inv X pins σ H s)(k:∀b u,s.heap.get? b=some u->h'.get? b=some u):Inv X pins σ H {s with heap:=h',toks:=t'}:=I.un (Un.kept k) (I.hok.kept k)
theorem Inv.laid{a:Addr}{o:HO}{t':Nat}(I:Inv X pins σ H s)(k:∀b u,s.heap.get? b=some u->h'.get? b=some u)(hp:s.heap.objs.size<=a)(new:ObjOk X.prog X.w (upd H a o) h' a o) :
  Inv X pins σ (upd H a o) {s with heap:=h',toks:=t'}:=I.un (Un.laid k hp (I.hok.fresh hp)) (I.hok.laid k hp new)
theorem Inv.write{x e:Addr}{o:HO}{t':Nat}(I:Inv X pins σ H s)(mu:Mut (H x))(he:e=x\/H e=some (.own x))(k:∀b u,b≠e->s.heap.get? b=some u->h'.get? b=some u)(heo:∃u,h'.get? e=some u)
  (new:ObjOk X.prog X.w (upd H x o) h' x o):Inv X pins σ (upd H x o) {s with heap:=h',toks:=t'}:=I.un (Un.write mu he k heo) (I.hok.write mu he k heo new)
theorem Inv.pins_of{pins':List (Addr×Obj)}(I:Inv X pins σ H s)(h:∀p∈pins',s.heap.get? p.1=some p.2/\H p.1=none/\p.1≠X.env.locals/\p.1∉X.fs/\∀v,p.2.data≠.cell v):Inv X pins' σ H s:=
 ⟨I.ok,I.os,I.bare,I.base,I.loc,I.cell,I.free,I.freeC,λp hp=>(z8v.mp hp).elim (λz=>I.pin p (z8E _ z)) (h p),I.hok,I.len⟩
theorem kg{N:List Str}(hN:N.Nodup){i j:Nat}{x:Str}(a:N[i]?=some x)(b:N[j]?=some x):i=j:=by
 obtain⟨h1,e1⟩:=z8h.mp a
 obtain⟨h2,e2⟩:=z8h.mp b
 exact (zcr hN).mp (e1.trans e2.symm)
theorem Y9{M:zbP}{A:z8V}{E:Value->z8k->Prop}{i:Nat}{x:Str}{v:V}{u:Value}{Q:Unit->z8k->Prop}(I:Inv X pins σ H s)(hN:X.N.Nodup)(hi:X.N[i]?=some x)(hx:Loc X.env.scope x)(r:RelV v u)
  (h:∀s',Inv X pins (σ.set i (some v)) H s'->(∃a,z99 a s.heap s'.heap/\(a=X.env.locals\/X.env.cells.lookup x=some a))->Q () s') (hf:X.fn x=true\/X.env.scope.names.lookup x=some .local:=by first|exact .inl rfl|exact .inr rfl|assumption):z8t M A (storeName X.env x u) Q E s:=by
 obtain⟨m,hn,hl⟩:=id I.loc
 have hcls:(X.env.scope.kind == .class || (X.env.scope.kind == .module&&X.env.locals != X.env.globals))=false:=by rw[I.ok.kind];rfl
 have hiσ:i<σ.length:=by rw[I.len];exact (z8h.mp hi).1
 have cne:=I.cne
 have tracked:∀{a:Addr} {h':Heap},(∃o,s.heap.get? a=some o/\H a=none)->z99 a s.heap h'->HOk X.prog X.w H h':=λ{a h'} ha hs b ob e=>by
  obtain⟨_,_,hfree⟩:=ha
  refine (I.hok b ob e).stay (λc w' hc q=>(hs.2 c ?_).trans q) (λ_ q=>q) λ_ _ q=>q
  rintro rfl
  rcases hc with rfl|hc
  ·rw[hfree] at e;cases e
  ·rw[hfree] at hc;cases hc
 rcases hx with hk|hk
 ·refine wpAny_storeName_local hk hn (λh' hn' hs=>?_) hcls
  obtain⟨oL,_,_,hoL,_⟩:=id hn
  refine h _ ⟨I.ok,I.os,I.bare,⟨λb o e n hb hx=>?_,λb o e n hb hx=>?_,I.base.free,λb o e hx=>?_,I.base.tups,I.base.frzs,I.base.tbls⟩,⟨_,hn',λj y v' e1 e2 e3=>?_⟩,λy c e=>?_,I.free,I.freeC,λp hp=>?_,tracked ⟨oL,hoL,I.free⟩ hs,by simpa using I.len⟩ ⟨_,hs,.inl rfl⟩
  ·exact (hs.2 b (z8O (z8w (z8x e) I.ok.above))).trans (I.base.keep b o e n hb hx)
  ·obtain⟨sl,e1⟩:=I.base.slot b o e n hb hx
   exact⟨sl,(hs.2 b (z8O (z8w (z8x e) I.ok.above))).trans e1⟩
  ·obtain⟨o',e1⟩:=I.base.there b o e hx
   exact⟨o',(hs.2 b (z8O (z8w (z8x e) I.ok.above))).trans e1⟩
  ·by_cases hj:j=i
   ·subst hj
    rw[hi] at e1;cases e1
    rw[zbd hiσ] at e2
    cases e2
    exact⟨u,r,.inl ⟨hk,by simp⟩⟩
   ·rw[z8S (z9r hj)] at e2
    obtain⟨u',r',q⟩:=hl j y v' e1 e2 e3
    refine⟨u',r',?_⟩
    rcases q with⟨k,e⟩|⟨k,c,e,z⟩
    ·refine .inl ⟨k,?_⟩
     have:y≠x:=λe=>hj (kg hN e1 (e▸hi))
     simp[this,e]
    ·exact .inr ⟨k,c,e,z.sameBut hs (cne y c e)⟩
  ·obtain⟨w',z⟩:=I.cell y c e
   exact⟨w',z.sameBut hs (cne y c e)⟩
  ·obtain⟨e,n,ne,nf,d⟩:=I.pin p hp
   exact⟨(hs.2 p.1 ne).trans e,n,ne,nf,d⟩
 ·have hfn:X.fn x=true:=by
   rcases hf with z|z
   ·exact z
   ·rw[z] at hk;cases hk
  obtain⟨c,hc⟩:=I.ok.has x (.inl hk)
  obtain⟨w',z⟩:=I.cell x c hc
  refine wpAny_storeName_cell I.ok.kind hk hc z (λh' hc' hs=>?_)
  obtain⟨oc,hoc,hocd⟩:=id z
  refine h {s with heap:=h'} ⟨I.ok,I.os,I.bare,⟨λb o e n hb hx=>?_,λb o e n hb hx=>?_,I.base.free,λb o e hx=>?_,I.base.tups,I.base.frzs,I.base.tbls⟩,⟨m,hn.sameBut hs (z9r (cne x c hc)),λj y v' e1 e2 e3=>?_⟩,λy c' e=>?_,I.free,I.freeC,λp hp=>?_,tracked ⟨oc,hoc,(I.freeC x c hc).resolve_right λz=>by rw[hfn] at z;cases z.1⟩ hs,by simpa using I.len⟩ ⟨c,hs,.inr hc⟩
  ·exact (hs.2 b (z8O (z8w (z8x e) (I.ok.cab x c hfn hc)))).trans (I.base.keep b o e n hb hx)
  ·obtain⟨sl,e1⟩:=I.base.slot b o e n hb hx
   exact⟨sl,(hs.2 b (z8O (z8w (z8x e) (I.ok.cab x c hfn hc)))).trans e1⟩
  ·obtain⟨o',e1⟩:=I.base.there b o e hx
   exact⟨o',(hs.2 b (z8O (z8w (z8x e) (I.ok.cab x c hfn hc)))).trans e1⟩
  ·by_cases hj:j=i
   ·subst hj
    rw[hi] at e1;cases e1
    rw[zbd hiσ] at e2
    cases e2
    exact⟨u,r,.inr ⟨.inl hk,c,hc,hc'⟩⟩
   ·rw[z8S (z9r hj)] at e2
    obtain⟨u',r',q⟩:=hl j y v' e1 e2 e3
    refine⟨u',r',?_⟩
    rcases q with q|⟨k,c',e,z'⟩
    ·exact .inl q
    ·refine .inr ⟨k,c',e,z'.sameBut hs ?_⟩
     rintro rfl
     exact hj (kg hN e1 (I.ok.inj _ _ _ e hc▸hi))
  ·by_cases hcc:c'=c
   ·subst hcc;exact⟨_,hc'⟩
   ·obtain⟨w2,z2⟩:=I.cell y c' e
    exact⟨w2,z2.sameBut hs hcc⟩
  ·obtain⟨e,n,ne,nf,d⟩:=I.pin p hp
   refine⟨(hs.2 p.1 ?_).trans e,n,ne,nf,d⟩
   intro q
   rw[q,hoc] at e
   have q':oc=p.2:=z8m e
   exact d w' (by rw[←q'];exact hocd)
theorem yU{M:zbP}{A:z8V}{E:Value->z8k->Prop}{i:Nat}{x:Str}{v:V}{u:Value}{Q:Unit->z8k->Prop}(I:Inv X pins σ H s)(hN:X.N.Nodup)(hi:X.N[i]?=some x)(hx:Loc X.env.scope x)(r:RelV v u)
  (h:∀s',Inv X pins (σ.set i (some v)) H s'->Q () s') (hf:X.fn x=true\/X.env.scope.names.lookup x=some .local:=by first|exact .inl rfl|exact .inr rfl|assumption):z8t M A (storeName X.env x u) Q E s:=
 Y9 I hN hi hx r (λs' I' _=>h s' I') hf
theorem Inv.call'{s':z8k}{ch:List Addr}(I:Inv X pins σ H s)(ho:s'.os=s.os)(u:Un (frs X.stack) ch H H' s.heap s'.heap)(hok:HOk X.prog X.w H' s'.heap)(hg:zc8 s'.gens)
  (hch:∀b∈ch,(b∈X.ex\/X.s₀.heap.objs.size<=b)/\b≠X.env.locals/\(∀x c,X.env.cells.lookup x=some c->c≠b)/\∀p∈X.pn++pins,p.1≠b):Inv X pins σ H' s':=by
 obtain⟨h',g',d',t',o'⟩:=s'
 have e:o'=s.os:=ho
 subst e
 exact I.call (g':=g') (t':=t') (d':=d') u hok hg hch
end
noncomputable abbrev XK:=Value->Option Addr->Hp->Prop
noncomputable abbrev St:=List (Option V)
noncomputable abbrev VK:=V->Hp->Prop
noncomputable abbrev TE:=St->Hp->VK->Prop
noncomputable abbrev TT:=St->Hp->(Bool->Hp->Prop)->Prop
noncomputable abbrev TA:=St->Hp->(List V->Hp->Prop)->Prop
structure Ends where
 nx:St->Hp->Prop
 rt:VK
 bk:St->Hp->Prop:=λ_ _=>False
 ct:St->Hp->Prop:=λ_ _=>False
noncomputable abbrev TS:=Ends->St->Hp->Prop
inductive EP(X:Cx)(pins:List (Addr×Obj))(σ:St)(Q:VK)(u:Value)(s':Shared):Prop where
 |mk (v:V) (H':Hp) (i:Inv X pins σ H' s') (r:RelV v u) (q:Q v H')
inductive TP(X:Cx)(pins:List (Addr×Obj))(σ:St)(Q:Bool->Hp->Prop)(b:Bool)(s':Shared):Prop where
 |mk (H':Hp) (i:Inv X pins σ H' s') (q:Q b H')
inductive AP(X:Cx)(pins:List (Addr×Obj))(σ:St)(Q:List V->Hp->Prop)(us:List Value)(s':Shared):Prop where
 |mk (vs:List V) (H':Hp) (i:Inv X pins σ H' s') (r:Vals vs us) (q:Q vs H')
noncomputable def SP (X:Cx)(pins:List (Addr×Obj))(D:Ends)(f:Flow)(s':z8k):Prop:=
 match f with
 |.next=>∃σ' H',Inv X pins σ' H' s'/\D.nx σ' H'
 |.brk=>∃σ' H',Inv X pins σ' H' s'/\D.bk σ' H'
 |.cont=>∃σ' H',Inv X pins σ' H' s'/\D.ct σ' H'
 |.ret u=>∃v σ' H',Inv X pins σ' H' s'/\RelV v u/\D.rt v H'
noncomputable def PE (X:Cx)(e:Expr)(t:TE):Prop:=
 ∀(pins:List (Addr×Obj)) (s:z8k) (σ:St) (H:Hp) (Q:VK),Inv X pins σ H s->t σ H Q->z8t (z8u X.prog X.w) X.A (eval e X.env) (EP X pins σ Q) X.xe s
noncomputable def PT (X:Cx)(e:Expr)(t:TT):Prop:=
 ∀(pins:List (Addr×Obj)) (s:z8k) (σ:St) (H:Hp) (Q:Bool->Hp->Prop),Inv X pins σ H s->t σ H Q->z8t (z8u X.prog X.w) X.A (isTrue e X.env (eval e X.env)) (TP X pins σ Q) X.xe s
noncomputable def PW (X:Cx)(e:Expr)(t:TT):Prop:=
 ∀(whole:Sem Value) (pins:List (Addr×Obj)) (s:z8k) (σ:St) (H:Hp) (Q:Bool->Hp->Prop),Inv X pins σ H s->t σ H Q->z8t (z8u X.prog X.w) X.A (isTrue e X.env whole) (TP X pins σ Q) X.xe s
theorem PW.pt{X:Cx}{e:Expr}{t:TT}(h:PW X e t):PT X e t:=h _
noncomputable def PA (X:Cx)(es:List Expr)(t:TA):Prop:=
 ∀(pos:Pos) (pins:List (Addr×Obj)) (s:z8k) (σ:St) (H:Hp) (Q:List V->Hp->Prop),Inv X pins σ H s->t σ H Q->z8t (z8u X.prog X.w) X.A (spliced (zaw pos (z96 es X.env))) (AP X pins σ Q) X.xe s
noncomputable def PS (X:Cx)(st:Stmt)(t:TS):Prop:=
 ∀(pins:List (Addr×Obj)) (s:z8k) (σ:St) (H:Hp) (D:Ends),Inv X pins σ H s->t D σ H->z8t (z8u X.prog X.w) X.A (exec st X.env) (SP X pins D) X.xe s
noncomputable def PSs (X:Cx)(st:List Stmt)(t:TS):Prop:=
 ∀(pins:List (Addr×Obj)) (s:z8k) (σ:St) (H:Hp) (D:Ends),Inv X pins σ H s->t D σ H->z8t (z8u X.prog X.w) X.A (execs st X.env) (SP X pins D) X.xe s
theorem thn{α:Type}{t:Sem α}{Q Q':α->z8k->Prop}{M:zbP}{A:z8V}{E:Value->z8k->Prop}{s:z8k}(h:z8t M A t Q E s)(hQ:∀a s,Q a s->Q' a s):z8t M A t Q' E s:=z8Y h hQ λ_ _ x=>x
end L2
namespace L2
open PySem PySem.Spec PyProof.Rows
section
variable {X:Cx}
noncomputable def z7S (i:Nat):TE:=λσ H Q=>∃v,σ[i]?=some (some v)/\Q v H
noncomputable def tC (v:V):TE:=λ_ H Q=>Q v H
theorem xA {i:Nat} {x:Str} {pos:Pos} (hN:X.N[i]?=some x) (hv:Vis X.env.scope x) (hd:(x == ("__debug__":Str))=false:=by decide) (hcd:(x == ("__classdict__":Str))=false:=by decide):PE X (.Name x pos) (z7S i):=by
 intro pins s σ H Q I h
 obtain⟨v,e,h⟩:=h
 obtain⟨m,hn,hl⟩:=I.loc
 obtain⟨u,r,l⟩:=hl i x v hN e hv
 have fin:EP X pins σ Q u s:=⟨v,H,I,r,h⟩
 rcases l with⟨hk,hm⟩|⟨hk,c,hc,hcell⟩
 ·exact zeX (wpAny_loadName_local I.ok.kind hk hn hm fin) hd
 ·rcases hk with hk|hk
  ·exact zeX (wpAny_loadName_cell I.ok.kind hk hc hcell fin) hd
  ·exact zeX (wpAny_loadName_free I.ok.kind hk hc hcell fin hcd) hd
theorem z5e{i j pos}:PE X (.Constant (.int i) j pos) (tC (.int i)):=λ_ _ _ H _ I h=>wpAny_Constant_int ⟨.int i,H,I.tok _,⟨_,rfl⟩,h⟩
theorem z7m{b j pos}:PE X (.Constant (.bool b) j pos) (tC (.bl b)):=λ_ _ _ H _ I h=>Constant_bool ⟨.bl b,H,I,rfl,h⟩
theorem Uw{j pos}:PE X (.Constant .none j pos) (tC .non):=λ_ _ _ H _ I h=>Constant_none ⟨.non,H,I,rfl,h⟩
theorem W2{x j pos}:PE X (.Constant (.str x) j pos) (tC (.str x)):=λ_ _ _ H _ I h=>Calls.Constant_str ⟨.str x,H,I.tok _,⟨_,rfl⟩,h⟩
noncomputable def Gl(X:Cx)(x:Str):Prop:=X.env.kindOf x=some .globalImplicit
theorem qS{E:Value->z8k->Prop}{pins:List (Addr×Obj)}{s:z8k}{σ:St}{H:Hp}{x:Str}{u:Value}{pos:Pos}{Q:Value->z8k->Prop}(I:Inv X pins σ H s)(hg:Gl X x)(hm:X.mg x=some u)(h:Q u s)
  (hd:(x == ("__debug__":Str))=false:=by decide):z8t (z8u X.prog X.w) X.A (eval (.Name x pos) X.env) Q E s:=
 zbQ I.ok.kind hg (Calls.loadGlobal_global (by rw[I.ok.glob];exact I.mod.glob.keeps I.bk) hm h) hd
theorem vD{E:Value->z8k->Prop}{pins:List (Addr×Obj)}{s:z8k}{σ:St}{H:Hp}{x:Str}{u:Value}{pos:Pos}{Q:Value->z8k->Prop}(I:Inv X pins σ H s)(hg:Gl X x)(hm:X.mg x=none)(hv:z9S x=some u)(h:Q u s)
  (hn:x≠"__name__":=by decide) (hd:(x == ("__debug__":Str))=false:=by decide):z8t (z8u X.prog X.w) X.A (eval (.Name x pos) X.env) Q E s:=by
 obtain⟨mb,h1,h2⟩:=I.mod.blt
 exact zbQ I.ok.kind hg (Calls.loadGlobal_builtin (by rw[I.ok.glob];exact I.mod.glob.keeps I.bk) hm (by rw[I.ok.blt];exact h1.keeps I.bk) ((h2 x hn).trans hv) h) hd
theorem K7 {x:Str} {v:V} {u:Value} {pos:Pos} (hg:Gl X x) (hm:X.mg x=some u) (r:RelV v u) (hd:(x == ("__debug__":Str))=false:=by decide):PE X (.Name x pos) (tC v):=
 λ_ _ _ H _ I h=>qS I hg hm ⟨v,H,I,r,h⟩ hd
theorem z1i {x:Str} {v:V} {u:Value} {pos:Pos} (hg:Gl X x) (hm:X.mg x=none) (hv:z9S x=some u) (r:RelV v u) (hn:x≠"__name__":=by decide) (hd:(x == ("__debug__":Str))=false:=by decide):PE X (.Name x pos) (tC v):=
 λ_ _ _ H _ I h=>vD I hg hm hv ⟨v,H,I,r,h⟩ hn hd
variable {a b:Expr}{ta tb:TE}{pos:Pos}
variable {tA tB':TT}{rest:List Expr}
noncomputable def wc (t u:TT):TT:=λσ H Q=>t σ H λc H1=>if c=true then u σ H1 Q else Q false H1
noncomputable def tOr (t u:TT):TT:=λσ H Q=>t σ H λc H1=>if c=true then Q true H1 else u σ H1 Q
noncomputable def qM (t:TT):TT:=λσ H Q=>t σ H λc H1=>Q (!c) H1
theorem z2s(ha:PT X a tA):PW X (.BoolOp .And [a] pos) tA:=by
 intro wh pins s σ H Q I h
 refine isTrue_and (thn (ha pins s σ H Q I h) λc s1 e=>?_)
 cases c with
 |true=>exact isTrue_and_nil e
 |false=>exact e
theorem z5T(ha:PT X a tA):PW X (.BoolOp .Or [a] pos) tA:=by
 intro wh pins s σ H Q I h
 refine isTrue_or (thn (ha pins s σ H Q I h) λc s1 e=>?_)
 cases c with
 |false=>exact isTrue_or_nil e
 |true=>exact e
theorem z4D(ha:PT X a tA)(hb:PW X (.BoolOp .And (b::rest) pos) tB'):PW X (.BoolOp .And (a::b::rest) pos) (wc tA tB'):=by
 intro wh pins s σ H Q I h
 refine isTrue_and (thn (ha pins s σ H _ I h) λc s1 ⟨H1,I1,q1⟩=>?_)
 cases c with
 |true=>exact hb wh pins s1 σ H1 Q I1 q1
 |false=>exact⟨H1,I1,q1⟩
theorem z6J(ha:PT X a tA)(hb:PW X (.BoolOp .Or (b::rest) pos) tB'):PW X (.BoolOp .Or (a::b::rest) pos) (tOr tA tB'):=by
 intro wh pins s σ H Q I h
 refine isTrue_or (thn (ha pins s σ H _ I h) λc s1 ⟨H1,I1,q1⟩=>?_)
 cases c with
 |true=>exact⟨H1,I1,q1⟩
 |false=>exact hb wh pins s1 σ H1 Q I1 q1
theorem z40(ha:PT X a tA):PT X (.UnaryOp .Not a pos) (qM tA):=by
 intro pins s σ H Q I h
 exact isTrue_not (thn (ha pins s σ H (λc H1=>Q (!c) H1) I h) λc s' ⟨H',i,q⟩=>⟨H',i,q⟩)
theorem z5K{op}{t:TE}(h:PE X a t):PE X (.BoolOp op [a] pos) t:=λpins s σ H Q I hw=>BoolOp_one (h pins s σ H Q I hw)
end
end L2
namespace L2
open PySem PySem.Spec PyProof.Rows
noncomputable def SqL (K:z8o)(H:Hp)(a:Addr)(xs:List V):Prop:=
 Rd H a (.lst xs)\/
  ∃(o:Obj) (its:Array Value) (n:Nat),K.lookup a=some o/\o.cls=.type "list"/\o.dict=none/\o.data=.seq its n/\its.size<=sizeLine/\Vals xs its.toList
noncomputable def SqT (K:z8o)(H:Hp)(a:Addr)(xs:List V):Prop:=
 Rd H a (.tup xs)\/
  ∃(o:Obj) (its:Array Value) (n:Nat),K.lookup a=some o/\o.cls=.type "tuple"/\o.data=.seq its n/\its.size<=sizeLine/\Vals xs its.toList
noncomputable def z86:Value->Option V
 |.none=>some .non
 |.bool b=>some (.bl b)
 |.int i _=>some (.int i)
 |.str x _=>some (.str x)
 |.bytes b _=>some (.byt b)
 |.float b _=>some (.flt b)
 |.ref a=>some (.ref a)
 |.type n=>some (.ty n)
 |_=>none
theorem RelV.abs{x:V}{u:Value}(r:RelV x u):z86 u=some x:=by
 cases x with
 |non=>cases r;rfl
 |bl _=>cases r;rfl
 |int _=>obtain⟨t,rfl⟩:=r;rfl
 |str _=>obtain⟨t,rfl⟩:=r;rfl
 |byt _=>obtain⟨t,rfl⟩:=r;rfl
 |flt _=>obtain⟨t,rfl⟩:=r;rfl
 |ref _=>cases r;rfl
 |ty _=>cases r;rfl
theorem RelV.inj{x y:V}{u:Value}(r:RelV x u)(q:RelV y u):x=y:=z8m (r.abs.symm.trans q.abs)
theorem Vals.inj:∀{xs ys:List V} {us:List Value},Vals xs us->Vals ys us->xs=ys
 |_,_,_,.nil,.nil=>rfl
 |_,_,_,.cons r t,.cons r' t'=>by rw[r.inj r',Vals.inj t t']
section
variable {X:Cx}{pins:List (Addr×Obj)}{σ:St}{H:Hp}{s:Shared}{a:Addr}{xs ys:List V}
theorem Inv.list(I:Inv X pins σ H s)(h:SqL X.K H a xs):∃its:List Value,Vals xs its/\PlainL s.heap a its.toArray/\xs.length<=sizeLine:=by
 rcases h with h|⟨o,its,n,hk,hc,hd,hs,hz,r⟩
 ·obtain⟨z,its,n,r,e⟩:=h.ok I.hok
  exact⟨its,r,⟨_,n,e,rfl,rfl,rfl⟩,z⟩
 ·refine⟨its.toList,r,⟨o,n,I.kIn a o hk,hc,hd,by simpa using hs⟩,?_⟩
  have e:=r.length
  simp only[z9R] at e
  omega
theorem Inv.tuple(I:Inv X pins σ H s)(h:SqT X.K H a xs):∃its:List Value,Vals xs its/\zdO s.heap a its.toArray/\xs.length<=sizeLine:=by
 rcases h with h|⟨o,its,n,hk,hc,hs,hz,r⟩
 ·obtain⟨z,its,r,p⟩:=h.ok I.hok
  exact⟨its,r,p,z⟩
 ·refine⟨its.toList,r,⟨o,I.kIn a o hk,hc,n,by simpa using hs⟩,?_⟩
  have e:=r.length
  simp only[z9R] at e
  omega
theorem Inv.list_inj(I:Inv X pins σ H s)(h:SqL X.K H a xs)(h':SqL X.K H a ys):xs=ys:=by
 obtain⟨its,r,⟨o,n,e,_,_,d⟩,_⟩:=I.list h
 obtain⟨its',r',⟨o',n',e',_,_,d'⟩,_⟩:=I.list h'
 rw[e] at e';cases e'
 rw[d] at d'
 injection d' with d1 _
 have:its=its':=by simpa using congrArg zfL d1
 subst this
 exact r.inj r'
theorem Inv.tuple_inj(I:Inv X pins σ H s)(h:SqT X.K H a xs)(h':SqT X.K H a ys):xs=ys:=by
 obtain⟨its,r,⟨o,e,_,n,d⟩,_⟩:=I.tuple h
 obtain⟨its',r',⟨o',e',_,n',d'⟩,_⟩:=I.tuple h'
 rw[e] at e';cases e'
 rw[d] at d'
 injection d' with d1 _
 have:its=its':=by simpa using congrArg zfL d1
 subst this
 exact r.inj r'
end
noncomputable abbrev Cx.wish(X:Cx)(E:Value->z8k->Prop):Cx:={X with xe:=E}
theorem Cx.Ok.wish{X:Cx}(ok:X.Ok)(E:Value->z8k->Prop):(X.wish E).Ok:=
 ⟨ok.mod,ok.kind,ok.glob,ok.blt,ok.above,ok.inj,ok.has,ok.cab,ok.hd,ok.frames,ok.stk,ok.exf,ok.bs,ok.bsz,ok.noex,ok.exfs,ok.funs,ok.frf⟩
theorem Cx.Ok.unwish{X:Cx}{E:Value->z8k->Prop}(ok:(X.wish E).Ok):X.Ok:=
 ⟨ok.mod,ok.kind,ok.glob,ok.blt,ok.above,ok.inj,ok.has,ok.cab,ok.hd,ok.frames,ok.stk,ok.exf,ok.bs,ok.bsz,ok.noex,ok.exfs,ok.funs,ok.frf⟩
section
variable {X:Cx}{pins:List (Addr×Obj)}{σ:St}{H:Hp}{s:Shared}{E:Value->Shared->Prop}
theorem Inv.wish(I:Inv X pins σ H s)(E:Value->z8k->Prop):Inv (X.wish E) pins σ H s:=⟨I.ok.wish E,I.os,I.bare,I.base,I.loc,I.cell,I.free,I.freeC,I.pin,I.hok,I.len⟩
theorem Inv.unwish(I:Inv (X.wish E) pins σ H s):Inv X pins σ H s:=⟨I.ok.unwish,I.os,I.bare,I.base,I.loc,I.cell,I.free,I.freeC,I.pin,I.hok,I.len⟩
theorem SP.unwish{D:Ends}{f:Flow}{s':z8k}(h:SP (X.wish E) pins D f s'):SP X pins D f s':=by
 cases f with
 |next=>obtain⟨σ',H',I,q⟩:=h;exact⟨σ',H',I.unwish,q⟩
 |brk=>obtain⟨σ',H',I,q⟩:=h;exact⟨σ',H',I.unwish,q⟩
 |cont=>obtain⟨σ',H',I,q⟩:=h;exact⟨σ',H',I.unwish,q⟩
 |ret u=>obtain⟨v,σ',H',I,r,q⟩:=h;exact⟨v,σ',H',I.unwish,r,q⟩
end
section
variable {X:Cx}{st:Stmt}{rest:List Stmt}{t u:TS}{e:Expr}{te:TE}{pos:Pos}
noncomputable def z7t:TS:=λD σ H=>D.nx σ H
noncomputable def z7Z (t u:TS):TS:=λD σ H=>t {D with nx:=u D} σ H
theorem Kl:PSs X [] z7t:=λ_ _ σ H _ I h=>zbz ⟨σ,H,I,h⟩
theorem WO(h1:PS X st t)(h2:PSs X rest u):PSs X (st::rest) (z7Z t u):=by
 intro pins s σ H D I h
 refine zep (thn (h1 pins s σ H {D with nx:=u D} I h) λf s1 q=>?_)
 cases f with
 |next=>
  obtain⟨σ',H',I',q⟩:=q
  exact h2 pins s1 σ' H' D I' q
 |ret v=>exact q
 |brk=>exact q
 |cont=>exact q
theorem z2m(h1:PS X st t):PSs X [st] t:=by
 intro pins s σ H D I h
 refine zep (thn (h1 pins s σ H D I h) λf s1 q=>?_)
 cases f with
 |next=>exact zbz q
 |ret v=>exact q
 |brk=>exact q
 |cont=>exact q
theorem Inv.quiet{pins:List (Addr×Obj)}{σ:St}{H:Hp}{s:z8k}(I:Inv X pins σ H s):interactive X.env=false:=by simp[interactive,I.ok.kind]
def z6r(te:TE):TS:=λD σ H=>te σ H λ_ H1=>D.nx σ H1
theorem Kv(he:PE X e te)(hs:zbq e none pos.line X.env=pure false:=by rfl):PS X (.Expr e pos) (z6r te):=by
 intro pins s σ H D I h
 exact wpAny_Expr_any (thn (he pins s σ H _ I h) λv s1 ⟨x,H1,I1,r1,q1⟩=>⟨σ,H1,I1,q1⟩) I.quiet hs
def z7E (te:TE):TS:=λD σ H=>te σ H D.rt
theorem z3G(he:PE X e te):PS X (.Return (some e) pos) (z7E te):=by
 intro pins s σ H D I h
 exact wpAny_Return_some (thn (he pins s σ H _ I h) λv s1 ⟨x,H1,I1,r1,q1⟩=>⟨x,σ,H1,I1,r1,q1⟩)
def z7z:TS:=λD _ H=>D.rt .non H
theorem z1y:PS X (.Return none pos) z7z:=λ_ _ σ H _ I h=>wpAny_Return_none ⟨.non,σ,H,I,rfl,h⟩
def z88 (c:TT)(t u:TS):TS:=λD σ H=>c σ H λb H1=>if b=true then t D σ H1 else u D σ H1
theorem z6Q{c:Expr}{a b:List Stmt}{tc:TT}(hc:PT X c tc)(ha:PSs X a t)(hb:PSs X b u):PS X (.If c a b pos) (z88 tc t u):=by
 intro pins s σ H D I h
 refine wpAny_If (thn (hc pins s σ H _ I h) λd s1 ⟨H1,I1,q1⟩=>?_)
 cases d with
 |true=>exact ha pins s1 σ H1 D I1 q1
 |false=>exact hb pins s1 σ H1 D I1 q1
end
abbrev TG:=V->St->Hp->(St->Hp->Prop)->Prop
abbrev TGs:=List V->St->Hp->(St->Hp->Prop)->Prop
def PG (X:Cx)(target:Expr)(t:TG):Prop:=
 ∀(pins:List (Addr×Obj)) (s:z8k) (σ:St) (H:Hp) (v:V) (u:Value) (Q:St->Hp->Prop),Inv X pins σ H s->RelV v u->t v σ H Q->
  z8t (z8u X.prog X.w) X.A (zcg target X.env u) (λ_ s'=>∃σ' H',Inv X pins σ' H' s'/\Q σ' H') X.xe s
def PGs (X:Cx)(ts:List Expr)(t:TGs):Prop:=
 ∀(pins:List (Addr×Obj)) (s:z8k) (σ:St) (H:Hp) (vs:List V) (us:List Value) (Q:St->Hp->Prop),Inv X pins σ H s->Vals vs us->t vs σ H Q->
  z8t (z8u X.prog X.w) X.A (assignInOrder ((zai ts X.env).map (·.2)) us) (λ_ s'=>∃σ' H',Inv X pins σ' H' s'/\Q σ' H') X.xe s
abbrev z5B:=V->V->V->Hp->(Hp->Prop)->Prop
def z5z (X:Cx)(t:z5B):Prop:=
 ∀(pins:List (Addr×Obj)) (s:z8k) (σ:St) (H:Hp) (o i v:V) (ov iv u:Value) (Q:Hp->Prop),Inv X pins σ H s->RelV o ov->RelV i iv->RelV v u->t o i v H Q->
  z8t (z8u X.prog X.w) X.A (setItem ov iv u) (λ_ s'=>∃H',Inv X pins σ H' s'/\Q H') X.xe s
section
variable {X:Cx}{pos:Pos}
def KH(i:Nat):TG:=λv σ H Q=>Q (σ.set i (some v)) H
theorem Kj{i:Nat}{x:Str}(hN:X.N.Nodup)(hi:X.N[i]?=some x)(hx:Loc X.env.scope x)(hf:X.fn x=true\/X.env.scope.names.lookup x=some .local:=by first|exact .inl rfl|exact .inr rfl|assumption):PG X (.Name x pos) (KH i):=by
 intro pins s σ H v u Q I r h
 exact wpAny_assign_Name (yU I hN hi hx r (λs' I'=>⟨_,H,I',h⟩) hf)
def z6o:TGs:=λvs σ H Q=>vs=[]/\Q σ H
def z2X(t:TG)(u:TGs):TGs:=λvs σ H Q=>∃v r,vs=v::r/\t v σ H λσ' H'=>u r σ' H' Q
theorem z1N:PGs X [] z6o:=by
 intro pins s σ H vs us Q I r h
 obtain⟨e,h⟩:=h
 subst e
 cases r
 exact assignInOrder_nil ⟨σ,H,I,h⟩
theorem Yv{e:Expr}{es:List Expr}{t:TG}{u:TGs}(h1:PG X e t)(h2:PGs X es u)
  (hs:(zai (e::es) X.env).map (·.2)=zcg e X.env::(zai es X.env).map (·.2):=by rfl):PGs X (e::es) (z2X t u):=by
 intro pins s σ H vs us Q I r h
 obtain⟨v,vr,e1,h⟩:=h
 subst e1
 cases r with
 |cons r rr=>
  rw[hs]
  refine assignInOrder_cons (thn (h1 pins s σ H _ _ _ I r h) λ_ s1 ⟨σ1,H1,I1,q1⟩=>?_)
  exact h2 pins s1 σ1 H1 _ _ Q I1 rr q1
def z7F (K:z8o)(n:Nat)(t:TGs):TG:=λv σ H Q=>∃a xs,v=.ref a/\SqT K H a xs/\xs.length=n/\t xs σ H Q
theorem z61{es:List Expr}{k:Nat}{t:TGs}{n:Nat}(hc:X.calm=true)(h:PGs X es t)
  (hn:(zai es X.env).length=n:=by rfl) (hst:(zai es X.env).findIdx? (·.1)=none:=by rfl):PG X (.Tuple es k pos) (z7F X.K n t):=by
 intro pins s σ H v u Q I r hw
 obtain⟨a,xs,e1,hq,hl,hw⟩:=hw
 subst e1
 cases r
 obtain⟨its,rv,ht,hz⟩:=I.tuple hq
 refine assign_Tuple_tuple (I.ok.hd hc) ht (by simp[hn,←hl,rv.length]) hst λh' hx=>?_
 have I1:Inv X pins σ H {s with heap:=h'}:=I.kept (t':=s.toks) λb o e=>hx b o (z8O (z8x e)) e
 exact h pins _ σ H xs _ Q I1 (by simpa using rv) hw
def z7L (to ti:TE)(t:z5B):TG:=λv σ H Q=>to σ H λo H1=>ti σ H1 λi H2=>t o i v H2 λH3=>Q σ H3
theorem z0d{o i:Expr}{to ti:TE}{t:z5B}(ho:PE X o to)(hi:PE X i ti)(hs:z5z X t)
  (ha:∀v,zcg (.Subscript o i pos) X.env v=(do
   let ov ←zeS [v] (eval o X.env)
   let iv ←zeS [v,ov] (eval i X.env)
   standAt pos
   zeS [v,ov,iv] (setItem ov iv v)
   release [v,ov,iv] []):=by intro _;rfl):PG X (.Subscript o i pos) (z7L to ti t):=by
 intro pins s σ H v u Q I r h
 rw[ha]
 refine z8g (z8W (thn (ho pins s σ H _ I h) λov s1 ⟨x,H1,I1,r1,q1⟩=>?_))
 refine z8g (z8W (thn (hi pins s1 σ H1 _ I1 q1) λiv s2 ⟨y,H2,I2,r2,q2⟩=>?_))
 refine z8g (z9k (z8g (z8W (thn (hs pins s2 σ H2 x y v ov iv u _ I2 r1 r2 r q2) λ_ s3 ⟨H3,I3,q3⟩=>?_))))
 exact wpAny_release ⟨σ,H3,I3,q3⟩
def z6N (te:TE)(g:TG):TS:=λD σ H=>te σ H λx H1=>g x σ H1 D.nx
theorem Jb{tg e:Expr}{te:TE}{g:TG}(he:PE X e te)(hg:PG X tg g)(hs:zch [tg] e pos.line X.env=pure false:=by rfl)(hw:zci [tg] e X.env=pure none:=by rfl)
  (h1:(zai [tg] X.env).map (·.2)=[zcg tg X.env]:=by rfl):PS X (.Assign [tg] e pos) (z6N te g):=by
 intro pins s σ H D I h
 refine wpAny_Assign_stores (thn (he pins s σ H _ I h) λv s1 ⟨x,H1,I1,r1,q1⟩=>?_) hs hw
 rw[h1]
 exact thn (hg pins s1 σ H1 x v _ I1 r1 q1) λ_ s2 q=>q
theorem z5i{i:Nat}{x:Str}{e:Expr}{te:TE}{pos':Pos}(hN:X.N.Nodup)(hi:X.N[i]?=some x)(hx:Loc X.env.scope x)(he:PE X e te)(hs:zbq e (some (.Name x pos')) pos.line X.env=pure false:=by rfl)(hf:X.fn x=true\/X.env.scope.names.lookup x=some .local:=by first|exact .inl rfl|exact .inr rfl|assumption) :
  PS X (.Assign [.Name x pos'] e pos) (z6N te (KH i)):=by
 intro pins s σ H D I h
 refine wpAny_Assign_Name (thn (he pins s σ H _ I h) λv s1 ⟨y,H1,I1,r1,q1⟩=>?_) hs
 exact yU I1 hN hi hx r1 (λs2 I2=>⟨_,H1,I2,q1⟩) hf
end
section
variable {X:Cx}{pos:Pos}
def z5k(c:TT)(tb:TS):TS:=λD σ H=>∃W:Nat->St->Hp->Prop,(∃m,W m σ H)/\∀m σ H,W m σ H->
 c σ H λb H1=>if b=true then ∃N:St->Hp->Prop,(∀σ' H',N σ' H'->∃m',m'<m/\W m' σ' H')/\tb {D with nx:=N,ct:=N,bk:=D.nx} σ H1 else D.nx σ H1
theorem z0e{c:Expr}{body:List Stmt}{tc:TT}{tb:TS}(hp:zdf (z8u X.prog X.w) X.A X.env X.xe)(hc:PT X c tc)(hb:PSs X body tb):PS X (.While c body [] pos) (z5k tc tb):=by
 intro pins s σ H D I h
 obtain⟨W,⟨m0,w0⟩,turn⟩:=h
 refine wpAny_While (codeAny_whileLoop (λn s'=>∃σ' H',Inv X pins σ' H' s'/\W n σ' H') ?_ m0 ⟨σ,H,I,w0⟩)
 rintro n s1 ⟨σ1,H1,I1,w1⟩
 refine zaa hp (thn (hc pins s1 σ1 H1 _ I1 (turn n σ1 H1 w1)) λb s2 ⟨H2,I2,q2⟩=>?_)
 cases b with
 |true=>
  obtain⟨N,hN,q2⟩:=q2
  rw[if_pos rfl]
  refine zaa hp (thn (hb pins s2 σ1 H2 _ I2 q2) λf s3 q3=>?_)
  cases f with
  |next=>
   obtain⟨σ3,H3,I3,n3⟩:=q3
   obtain⟨m',hm,w3⟩:=hN σ3 H3 n3
   exact⟨m',hm,σ3,H3,I3,w3⟩
  |cont=>
   obtain⟨σ3,H3,I3,n3⟩:=q3
   obtain⟨m',hm,w3⟩:=hN σ3 H3 n3
   exact⟨m',hm,σ3,H3,I3,w3⟩
  |brk=>exact q3
  |ret v=>exact q3
 |false=>
  rw[if_neg z8H]
  exact zbz ⟨σ1,H2,I2,q2⟩
end
structure It where
 go:Nat->Hp->Prop
 yld:Nat->Hp->V->Hp->Prop
 stop:Nat->Hp->Prop
def QX (X:Cx)(pins:List (Addr×Obj))(H:Hp)(b:Addr):Prop:=
 H b=none/\b≠X.env.locals/\b∉X.fs/\(b∈X.ex\/X.s₀.heap.objs.size<=b)/\(∀x c,X.env.cells.lookup x=some c->c≠b)/\∀p∈X.pn++pins,p.1≠b
theorem Inv.fpOk{X:Cx}{pins:List (Addr×Obj)}{σ:St}{H H':Hp}{s:z8k}{b:Addr}(I:Inv X pins σ H s)(hb:s.heap.objs.size<=b)(hn:H' b=none):QX X pins H' b:=by
 refine⟨hn,zax (z8w I.lt hb),I.nofs hb,.inr (z8G I.sz hb),λx c e z=>?_,λp hp z=>?_⟩
 ·obtain⟨v,q⟩:=I.cell x c e
  exact absurd (z8w q.lt (by rw[z];exact hb)) (z9G _)
 ·exact absurd (z8w (z8x (I.pin p hp).1) (by rw[z];exact hb)) (z9G _)
structure Turn(P:Program)(w:World)(K:PySem.W.Frag)(tg:Expr)(J:It)(fp:List Addr)(it:Addr)(tn:Nat->Heap->Prop):Prop where
 mem:it∈fp
 obj:∀i h,tn i h->∀b∈fp,∃o,h.get? b=some o/\∀v,o.data≠.cell v
 keep:∀i h h',tn i h->(∀b∈fp,∀o,h.get? b=some o->h'.get? b=some o)->tn i h'
 item:∀(X:Cx),X.prog=P->X.w=w->X.K=K->X.calm=true->∀(i:Nat) (pins:List (Addr×Obj)) (s:z8k) (σ:St) (H:Hp) (E:Value->z8k->Prop),Inv X pins σ H s->(∀b∈fp,QX X pins H b)->tn i s.heap->J.go i H->
  z8t (z8u P w) X.A (pyNext (.ref it)) (λr s1=>∃u,r=some u/\
   z8t (z8u P w) X.A (zb4 tg (.ref it) u) (λ_ s2=>∃x H',Inv X pins σ H' s2/\RelV x u/\J.yld i H x H'/\tn (i+1) s2.heap/\∀b∈fp,H' b=none) E s1) E s
 done:∀(X:Cx),X.prog=P->X.w=w->X.K=K->X.calm=true->∀(i:Nat) (pins:List (Addr×Obj)) (s:z8k) (σ:St) (H:Hp) (E:Value->z8k->Prop),Inv X pins σ H s->(∀b∈fp,QX X pins H b)->tn i s.heap->J.stop i H->
  z8t (z8u P w) X.A (pyNext (.ref it)) (λr s1=>r=none/\Inv X pins σ H s1) E s
 self:∀(A:z8V) (i:Nat) (s:z8k) (Q:Value->z8k->Prop) (E:Value->z8k->Prop),tn i s.heap->Q (.ref it) s->z8t (z8u P w) A (pyIter (.ref it)) Q E s
abbrev TI:=St->Hp->(It->Hp->Prop)->Prop
def PIE (X:Cx)(pins:List (Addr×Obj))(σ:St)(tg:Expr)(R:It->Hp->Prop)(itv:Value)(s2:z8k):Prop:=
 ∃(it:Addr) (fp:List Addr) (tn:Nat->Heap->Prop) (J:It) (H':Hp),itv=.ref it/\Inv X pins σ H' s2/\Turn X.prog X.w X.K tg J fp it tn/\tn 0 s2.heap/\(∀b∈fp,QX X pins H' b)/\R J H'
def PI (X:Cx)(tg iter:Expr)(wi:TI):Prop:=
 ∀(pins:List (Addr×Obj)) (s:z8k) (σ:St) (H:Hp) (R:It->Hp->Prop),Inv X pins σ H s->wi σ H R->
  z8t (z8u X.prog X.w) X.A (eval iter X.env) (λv s1=>z8t (z8u X.prog X.w) X.A (pyIter v) (PIE X pins σ tg R) X.xe s1) X.xe s
theorem ZN{M:zbP}{A:z8V}{E:Value->z8k->Prop}{s:z8k}{tg:Expr}{it:Addr}{u:Value}{o:Obj}{n:String}{vs:Array Value}{Q:Unit->z8k->Prop}(ho:s.heap.get? it=some o)(hc:o.cls=.type n)(hd:o.data=.fields vs)
    (hn:["enumerate", "zip", "dict_itemiterator", "dict_reverseitemiterator", "odict_iterator", "itertools.zip_longest", "itertools.pairwise"].contains n=false) (hQ:Q () s):z8t M A (zb4 tg (.ref it) u) Q E s:=by
  unfold zb4
  cases tg <;> first
    |exact z8q hQ
    | (cases u <;> first
        |exact z8q hQ
        | (refine z8g (wpAny_load ho ?_)
           rw[hc, hd]
           show z8t M A (if (["enumerate", "zip", "dict_itemiterator", "dict_reverseitemiterator", "odict_iterator", "itertools.zip_longest", "itertools.pairwise"].contains n&&vs[0]? == some (z9g _))=true then _ else _) Q E s
           rw[if_neg (by intro h;rw[hn, zeY] at h;cases h)]
           exact z8q hQ))
def Itl (K:z8o)(a:Addr):It:=
 ⟨λi H=>∃xs x,SqL K H a xs/\xs[i]?=some x,λi H x H'=>H'=H/\∀xs,SqL K H a xs->xs[i]?=some x,λi H=>∃xs,SqL K H a xs/\xs.length<=i⟩
def Itt (K:z8o)(a:Addr):It:=
 ⟨λi H=>∃xs x,SqT K H a xs/\xs[i]?=some x,λi H x H'=>H'=H/\∀xs,SqT K H a xs->xs[i]?=some x,λi H=>∃xs,SqT K H a xs/\xs.length<=i⟩
noncomputable def Itr(lo:Int)(n:Nat):It:=⟨λi _=>i<n,λi H x H'=>H'=H/\x=.int (lo+i),λi _=>n<=i⟩
theorem ZZ{P:z91}{w:z9c}{K:z8o}{tg:Expr}(a it:Addr):Turn P w K tg (Itl K a) [it] it (λi h=>h.IsListIter it a i) where
 mem:=by simp
 obj:=λi h st b hb=>by
  have e:b=it:=by simpa using hb
  subst e
  obtain⟨o,e,c,d⟩:=st
  exact⟨o,e,λv z=>by rw[d] at z;cases z⟩
 keep:=λi h h' st k=>st.at λo e=>k it (by simp) o e
 item:=by
  intro X hP hw hK hc i pins s σ H E I hf st hg
  subst hP hw hK
  obtain⟨xs,x,hq,hx⟩:=hg
  obtain⟨its,rv,p,hz⟩:=I.list hq
  obtain⟨u,hu,ru⟩:=rv.get hx
  obtain⟨f0,f1,f2,f3,f4,f5⟩:=hf it (by simp)
  refine wpAny_pyNext_list_item st p.isList (x:=u) (by simpa using hu) λh' st' sb=>?_
  have I1:Inv X pins σ H {s with heap:=h'}:=I.turned (t':=s.toks) (λb o hb e=>(sb.2 b hb).trans e) f0 f1 f3 f4 f5
  obtain⟨o,e,c,d⟩:=id st'
  exact⟨u,rfl,ZN (s:={s with heap:=h'}) e c d (by decide) ⟨x,H,I1,ru,⟨rfl,λys hy=>by rw[I.list_inj hy hq];exact hx⟩,st',λb hb=>(hf b hb).1⟩⟩
 done:=by
  intro X hP hw hK hc i pins s σ H E I hf st hg
  subst hP hw hK
  obtain⟨xs,hq,hx⟩:=hg
  obtain⟨its,rv,p,hz⟩:=I.list hq
  obtain⟨f0,f1,f2,f3,f4,f5⟩:=hf it (by simp)
  have hl:=rv.length
  exact wpAny_pyNext_list_end (I.ok.hd hc) st p.isList (by simp;omega) λh' eb=>⟨rfl,I.turned (t':=s.toks) (λb o hb e=>eb b o hb e) f0 f1 f3 f4 f5⟩
 self:=λ_ _ _ _ _ st h=>wpAny_pyIter_listiter st h
theorem Ja{P:z91}{w:z9c}{K:z8o}{tg:Expr}(a it:Addr):Turn P w K tg (Itt K a) [it] it (λi h=>h.IsTupleIter it a i) where
 mem:=by simp
 obj:=λi h st b hb=>by
  have e:b=it:=by simpa using hb
  subst e
  obtain⟨o,e,c,d⟩:=st
  exact⟨o,e,λv z=>by rw[d] at z;cases z⟩
 keep:=λi h h' st k=>st.at λo e=>k it (by simp) o e
 item:=by
  intro X hP hw hK hc i pins s σ H E I hf st hg
  subst hP hw hK
  obtain⟨xs,x,hq,hx⟩:=hg
  obtain⟨its,rv,p,hz⟩:=I.tuple hq
  obtain⟨u,hu,ru⟩:=rv.get hx
  obtain⟨f0,f1,f2,f3,f4,f5⟩:=hf it (by simp)
  refine wpAny_pyNext_tuple_item st (show s.heap.IsTuple a its.toArray from p) (x:=u) (by simpa using hu) λh' st' sb=>?_
  have I1:Inv X pins σ H {s with heap:=h'}:=I.turned (t':=s.toks) (λb o hb e=>(sb.2 b hb).trans e) f0 f1 f3 f4 f5
  obtain⟨o,e,c,d⟩:=id st'
  exact⟨u,rfl,ZN (s:={s with heap:=h'}) e c d (by decide) ⟨x,H,I1,ru,⟨rfl,λys hy=>by rw[I.tuple_inj hy hq];exact hx⟩,st',λb hb=>(hf b hb).1⟩⟩
 done:=by
  intro X hP hw hK hc i pins s σ H E I hf st hg
  subst hP hw hK
  obtain⟨xs,hq,hx⟩:=hg
  obtain⟨its,rv,p,hz⟩:=I.tuple hq
  obtain⟨f0,f1,f2,f3,f4,f5⟩:=hf it (by simp)
  have hl:=rv.length
  exact wpAny_pyNext_tuple_end (I.ok.hd hc) st (show s.heap.IsTuple a its.toArray from p) (by simp;omega) λh' eb=>⟨rfl,I.turned (t':=s.toks) (λb o hb e=>eb b o hb e) f0 f1 f3 f4 f5⟩
 self:=λ_ _ _ _ _ st h=>wpAny_pyIter_tupleiter st h
end L2
namespace L2
open PySem PySem.Spec PyProof.Rows
section
variable {X:Cx}{tg:Expr}
def KU(ta:TA):TI:=λσ H R=>ta σ H λvs H1=>∃i j:Int,vs=[.int i,.int j]/\(-(2 ^ 62)<=i/\i<2 ^ 62 /\ -(2 ^ 62)<=j/\j<2 ^ 62)/\R (Itr i (j-i).toNat) H1
def z82 (wi:TI)(g:TG)(tb:TS):TS:=λD σ H=>wi σ H λJ H1=>∃W:Nat->Nat->St->Hp->Prop,(∃m,W 0 m σ H1)/\∀i m σ H,W i m σ H->
 (J.stop i H/\D.nx σ H)\/(J.go i H/\∃N:St->Hp->Prop,(∀σ' H',N σ' H'->∃m',m'<m/\W (i+1) m' σ' H')/\∀x H',J.yld i H x H'->g x σ H' λσ2 H2=>tb {D with nx:=N,ct:=N,bk:=D.nx} σ2 H2)
noncomputable def yL(fp:List Addr)(h:Heap):List (Addr×Obj):=fp.filterMap λb=>(h.get? b).map λo=>(b,o)
theorem vM{fp:List Addr}{h:Heap}{b:Addr}{o:Obj}(hb:b∈fp)(e:h.get? b=some o):(b,o)∈yL fp h:=zay.mpr ⟨b,hb,by rw[e];rfl⟩
theorem X0{fp:List Addr}{h:Heap}{p:Addr×Obj}(hp:p∈yL fp h):p.1∈fp/\h.get? p.1=some p.2:=by
 obtain⟨b,hb,e⟩:=zay.mp hp
 cases q:h.get? b with
 |none=>rw[q] at e;cases e
 |some o=>
  rw[q] at e
  have e':(b,o)=p:=z8m e
  subst e'
  exact⟨hb,q⟩
theorem Inv.pinned{pins:List (Addr×Obj)}{σ:St}{H:Hp}{s:z8k}{fp:List Addr}(I:Inv X pins σ H s)(hf:∀b∈fp,QX X pins H b)(ho:∀b∈fp,∃o,s.heap.get? b=some o/\∀v,o.data≠.cell v):Inv X (pins++yL fp s.heap) σ H s:=
 I.pins_of λp hp=>(z8v.mp hp).elim (λz=>I.pin p (z8s _ z)) λz=>by
  obtain⟨hb,e⟩:=X0 z
  obtain⟨f0,f1,f2,_⟩:=hf p.1 hb
  obtain⟨o,e',d⟩:=ho p.1 hb
  rw[e] at e';cases e'
  exact⟨e,f0,f1,f2,d⟩
theorem Inv.unpinned{pins pl:List (Addr×Obj)}{σ:St}{H:Hp}{s:z8k}(I:Inv X (pins++pl) σ H s):Inv X pins σ H s:=I.pins_of λp hp=>I.pin p (z8s _ (z8E _ hp))
theorem z3p{iter:Expr}{body:List Stmt}{wi:TI}{g:TG}{tb:TS}{pos:Pos}(hp:zdf (z8u X.prog X.w) X.A X.env X.xe)(hc:X.calm=true)(hi:PI X tg iter wi)(hg:PG X tg g)(hb:PSs X body tb)
  (hs:∀x,z9s iter X.env x=pure x:=by intro _;rfl):PS X (.For tg iter body [] pos) (z82 wi g tb):=by
 intro pins s σ H D I h
 refine wpAny_For (thn (hi pins s σ H _ I h) λv s1 h1=>thn h1 λitv s2 h2=>?_) hs
 obtain⟨it,fp,tn,J,H2,e,I2,T,st2,f2,W,⟨m0,w0⟩,turn⟩:=h2
 subst e
 have stat:∀{H':Hp},(∀b∈fp,H' b=none)->∀b∈fp,QX X pins H' b:=λhn b hb=>⟨hn b hb,(f2 b hb).2⟩
 refine codeAny_forLoop_any (λn s'=>∃i σ' H',Inv X pins σ' H' s'/\tn i s'.heap/\(∀b∈fp,H' b=none)/\W i n σ' H') ?_ m0 ⟨0,σ,H2,I2,st2,λb hb=>(f2 b hb).1,w0⟩
 rintro n s3 ⟨i,σ3,H3,I3,st3,fr3,w3⟩
 rcases turn i n σ3 H3 w3 with⟨stop,qn⟩|⟨go,N,hN,step⟩
 ·refine zaa hp (thn (T.done X rfl rfl rfl hc i pins s3 σ3 H3 X.xe I3 (stat fr3) st3 stop) λr s4 ⟨hr,I4⟩=>?_)
  subst hr
  exact zbz ⟨σ3,H3,I4,qn⟩
 ·refine zaa hp (thn (T.item X rfl rfl rfl hc i pins s3 σ3 H3 X.xe I3 (stat fr3) st3 go) λr s4 ⟨u,hr,h4⟩=>?_)
  subst hr
  refine zaa hp (thn h4 λ_ s5 ⟨x,H5,I5,r5,y5,st5,fr5⟩=>?_)
  have I5':=I5.pinned (stat fr5) (T.obj _ _ st5)
  refine zaa hp (thn (hg _ s5 σ3 H5 x u _ I5' r5 (step x H5 y5)) λ_ s6 ⟨σ6,H6,I6,q6⟩=>?_)
  refine zaa hp (thn (hb _ s6 σ6 H6 _ I6 q6) λf s7 q7=>?_)
  have again:∀{σ7:St} {H7:Hp},Inv X (pins++yL fp s5.heap) σ7 H7 s7->N σ7 H7->∃m,m<n/\∃i σ' H',Inv X pins σ' H' s7/\tn i s7.heap/\(∀b∈fp,H' b=none)/\W i m σ' H':=λ{σ7 H7} I7 n7=>by
   obtain⟨m',hm,w7⟩:=hN σ7 H7 n7
   refine⟨m',hm,i+1,σ7,H7,I7.unpinned,T.keep _ _ _ st5 λb hb o e=>(I7.pin (b,o) (z8s _ (z8s _ (vM hb e)))).1,λb hb=>?_,w7⟩
   obtain⟨o,e,d⟩:=T.obj _ _ st5 b hb
   exact (I7.pin (b,o) (z8s _ (z8s _ (vM hb e)))).2.1
  cases f with
  |next=>obtain⟨σ7,H7,I7,n7⟩:=q7;exact again I7 n7
  |cont=>obtain⟨σ7,H7,I7,n7⟩:=q7;exact again I7 n7
  |brk=>obtain⟨σ7,H7,I7,q7⟩:=q7;exact⟨σ7,H7,I7.unpinned,q7⟩
  |ret v=>obtain⟨x7,σ7,H7,I7,r7,q7⟩:=q7;exact⟨x7,σ7,H7,I7.unpinned,r7,q7⟩
end
end L2
namespace L2
open PySem PySem.Spec PyProof.Rows
abbrev R2:=V->V->Hp->VK->Prop
def OpR (X:Cx)(f:Value->Value->Sem Value)(r:R2):Prop:=
 ∀(pins:List (Addr×Obj)) (s:z8k) (σ:St) (H:Hp) (x y:V) (v u:Value) (Q:VK),Inv X pins σ H s->RelV x v->RelV y u->r x y H Q->
  z8t (z8u X.prog X.w) X.A (f v u) (EP X pins σ Q) X.xe s
def UnR (X:Cx)(f:Value->Sem Value)(r:V->Hp->VK->Prop):Prop:=
 ∀(pins:List (Addr×Obj)) (s:z8k) (σ:St) (H:Hp) (x:V) (v:Value) (Q:VK),Inv X pins σ H s->RelV x v->r x H Q->
  z8t (z8u X.prog X.w) X.A (f v) (EP X pins σ Q) X.xe s
def KS(X:Cx)(f:Value)(r:List V->Hp->VK->Prop):Prop:=
 ∀(pins:List (Addr×Obj)) (s:z8k) (σ:St) (H:Hp) (xs:List V) (us:List Value) (Q:VK),Inv X pins σ H s->Vals xs us->r xs H Q->
  z8t (z8u X.prog X.w) X.A (call f us) (EP X pins σ Q) X.xe s
def rI (C:Int->Int->Prop)(g:Int->Int->V):R2:=λx y H Q=>∃i j,x=.int i/\y=.int j/\C i j/\Q (g i j) H
def rI0 (g:Int->Int->V):R2:=λx y H Q=>∃i j,x=.int i/\y=.int j/\Q (g i j) H
def rU (g:Int->V):V->Hp->VK->Prop:=λx H Q=>∃i,x=.int i/\Q (g i) H
section
variable {X:Cx}{a b c:Expr}{ta tb tc:TE}{pos:Pos}
theorem opI{f:Value->Value->Sem Value}{C:Int->Int->Prop}{g:Int->Int->Int}
  (rule:∀(i j:Int) (t u:Tok) (s:z8k) (Q:Value->z8k->Prop) (E:Value->z8k->Prop),C i j->Q (.int (g i j) s.toks) {s with toks:=s.toks+1}->z8t (z8u X.prog X.w) X.A (f (.int i t) (.int j u)) Q E s) :
  OpR X f (rI C λi j=>.int (g i j)):=by
 intro pins s σ H x y v u Q I rx ry h
 obtain⟨i,j,rfl,rfl,hc,q⟩:=h
 obtain⟨t,rfl⟩:=rx
 obtain⟨t',rfl⟩:=ry
 exact rule i j t t' s _ _ hc ⟨.int (g i j),H,I.tok _,⟨_,rfl⟩,q⟩
theorem z4c{f:Value->Value->Sem Value}{g:Int->Int->Int}
  (rule:∀(i j:Int) (t u:Tok) (s:z8k) (Q:Value->z8k->Prop) (E:Value->z8k->Prop),Q (.int (g i j) s.toks) {s with toks:=s.toks+1}->z8t (z8u X.prog X.w) X.A (f (.int i t) (.int j u)) Q E s) :
  OpR X f (rI0 λi j=>.int (g i j)):=by
 intro pins s σ H x y v u Q I rx ry h
 obtain⟨i,j,rfl,rfl,q⟩:=h
 obtain⟨t,rfl⟩:=rx
 obtain⟨t',rfl⟩:=ry
 exact rule i j t t' s _ _ ⟨.int (g i j),H,I.tok _,⟨_,rfl⟩,q⟩
theorem z0W{f:Value->Value->Sem Value}{g:Int->Int->Bool}
  (rule:∀(i j:Int) (t u:Tok) (s:z8k) (Q:Value->z8k->Prop) (E:Value->z8k->Prop),Q (.bool (g i j)) s->z8t (z8u X.prog X.w) X.A (f (.int i t) (.int j u)) Q E s) :
  OpR X f (rI0 λi j=>.bl (g i j)):=by
 intro pins s σ H x y v u Q I rx ry h
 obtain⟨i,j,rfl,rfl,q⟩:=h
 obtain⟨t,rfl⟩:=rx
 obtain⟨t',rfl⟩:=ry
 exact rule i j t t' s _ _ ⟨.bl (g i j),H,I,rfl,q⟩
noncomputable def z81(i j:Int):Prop:=0<=j/\j<=1000000/\i.natAbs<2 ^ 64
noncomputable def CMul(i j:Int):Prop:=(-(2 ^ 64)<i/\i<2 ^ 64)\/(-(2 ^ 64)<j/\j<2 ^ 64)
theorem CMul.ok{i j:Int}(h:CMul i j):IntMulOk i j:=by
 rcases h with⟨h1,h2⟩|⟨h1,h2⟩
 ·exact .of_left (intBits_le_64 h1 h2)
 ·exact .of_right (intBits_le_64 h1 h2)
theorem JS(k:Nat):(0:Int)<=2 ^ k:=by
 rw[two_pow_cast]
 exact Int.natCast_nonneg _
theorem z5g:OpR X (za1 .Add) (rI0 λi j=>.int (i+j)):=z4c λ_ _ _ _ _ _ _ q=>add_int q
theorem z3E:OpR X (za1 .Sub) (rI0 λi j=>.int (i-j)):=z4c λ_ _ _ _ _ _ _ q=>sub_int q
theorem z3F:OpR X (za1 .Mult) (rI CMul λi j=>.int (i * j)):=opI λ_ _ _ _ _ _ _ hc q=>mul_int q hc.ok
theorem z4K:OpR X (za1 .Mod) (rI (λ_ j=>0<j) λi j=>.int (i % j)):=opI λi j _ _ _ _ _ hc q=>by
 have h1:(0:Int)<j:=hc
 exact mod_int' (by omega) (by rw[Int.fmod_eq_emod_of_nonneg i (by omega)];exact q)
theorem z5S:OpR X (za1 .Pow) (rI z81 λi j=>.int (i ^ j.toNat)):=opI λ_ _ _ _ _ _ _ hc q=>pow_int_small hc.1 hc.2.1 hc.2.2 q
theorem z5R:OpR X (za1 .RShift) (rI (λ_ j=>0<=j) λi j=>.int (i / 2 ^ j.toNat)):=opI λi j _ _ _ _ _ hc q=>
 rshift_int hc (by rw[zbR i (JS _)];exact q)
theorem z3b:OpR X (za1 .BitAnd) (rI0 λi j=>.int (zeZ i j)):=z4c λ_ _ _ _ _ _ _ q=>and_int q
theorem unI{f:Value->Sem Value}{g:Int->Int}
  (rule:∀(i:Int) (t:Tok) (s:z8k) (Q:Value->z8k->Prop) (E:Value->z8k->Prop),Q (.int (g i) s.toks) {s with toks:=s.toks+1}->z8t (z8u X.prog X.w) X.A (f (.int i t)) Q E s) :
  UnR X f (rU λi=>.int (g i)):=by
 intro pins s σ H x v Q I rx h
 obtain⟨i,rfl,q⟩:=h
 obtain⟨t,rfl⟩:=rx
 exact rule i t s _ _ ⟨.int (g i),H,I.tok _,⟨_,rfl⟩,q⟩
theorem z44:UnR X (unaryOp .USub) (rU λi=>.int (-i)):=unI λ_ _ _ _ _ q=>neg_int q
end
noncomputable def z2i:V->V->Bool
 |.non,.non=>true|.non,.int _=>true|.int _,.non=>true|.non,.bl _=>true|.bl _,.non=>true|.non,.str _=>true|.str _,.non=>true
 |.int _,.int _=>true|.bl _,.bl _=>true|.str _,.str _=>true|.byt _,.byt _=>true
 |.int _,.str _=>true|.str _,.int _=>true|.bl _,.str _=>true|.str _,.bl _=>true
 |_,_=>false
def rEq:R2:=λx y H Q=>z2i x y=true/\Q (.bl (decide (x=y))) H
def rNe:R2:=λx y H Q=>z2i x y=true/\Q (.bl (!decide (x=y))) H
theorem KO{i j:Int}:decide (V.int i=V.int j)=(i == j):=by
 rw[zb5]
 simp
theorem z0v{i j:Bool}:decide (V.bl i=V.bl j)=(i == j):=by
 rw[zb5]
 simp
theorem K9{i j:Str}:decide (V.str i=V.str j)=(i == j):=by
 rw[zb5]
 simp
theorem KY{i j:Array UInt8}:decide (V.byt i=V.byt j)=(i.toList == j.toList):=by
 rw[zb5]
 cases i
 cases j
 simp
section
variable {X:Cx}{a b c:Expr}{ta tb tc:TE}{pos:Pos}
theorem zA{pins:List (Addr×Obj)}{σ:St}{H:Hp}{s:z8k}{Q:VK}{k k':Bool}(I:Inv X pins σ H s)(q:Q (.bl k) H)(e:k=k'):EP X pins σ Q (.bool k') s:=by
 subst e
 exact⟨.bl k,H,I,rfl,q⟩
theorem z6y:OpR X (z94 .Eq) rEq:=by
 intro pins s σ H x y v u Q I rx ry h
 obtain⟨hs,q⟩:=h
 cases x with
 |non=>
  cases rx
  cases y with
  |non=>cases ry;exact zfi (zA I q (by simp))
  |bl j=>cases ry;exact zfj (zA I q (by simp))
  |int j=>obtain⟨t',rfl⟩:=ry;exact zfv (zA I q (by simp))
  |str j=>obtain⟨t',rfl⟩:=ry;exact zfw (zA I q (by simp))
  |_=>exact absurd (show false=true from hs) z8H
 |bl i=>
  cases rx
  cases y with
  |non=>cases ry;exact zfk (zA I q (by simp))
  |bl j=>cases ry;exact eq_bool (zA I q z0v)
  |str j=>obtain⟨t',rfl⟩:=ry;exact zfl (zA I q (by simp))
  |_=>exact absurd (show false=true from hs) z8H
 |int i=>
  obtain⟨t,rfl⟩:=rx
  cases y with
  |non=>cases ry;exact zfx (zA I q (by simp))
  |int j=>obtain⟨t',rfl⟩:=ry;exact eq_int (zA I q KO)
  |str j=>obtain⟨t',rfl⟩:=ry;exact zfy (zA I q (by simp))
  |_=>exact absurd (show false=true from hs) z8H
 |str i=>
  obtain⟨t,rfl⟩:=rx
  cases y with
  |non=>cases ry;exact zfz (zA I q (by simp))
  |bl j=>cases ry;exact zfm (zA I q (by simp))
  |int j=>obtain⟨t',rfl⟩:=ry;exact zfA (zA I q (by simp))
  |str j=>obtain⟨t',rfl⟩:=ry;exact eq_str (zA I q K9)
  |_=>exact absurd (show false=true from hs) z8H
 |byt i=>
  obtain⟨t,rfl⟩:=rx
  cases y with
  |byt j=>obtain⟨t',rfl⟩:=ry;exact PySem.W.eq_bytes (zA I q KY)
  |_=>exact absurd (show false=true from hs) z8H
 |_=>cases y<;>exact absurd (show false=true from hs) z8H
theorem z7B:OpR X (z94 .NotEq) rNe:=by
 intro pins s σ H x y v u Q I rx ry h
 obtain⟨hs,q⟩:=h
 cases x with
 |non=>
  cases rx
  cases y with
  |non=>cases ry;exact zfn (zA I q (by simp))
  |bl j=>cases ry;exact zfo (zA I q (by simp))
  |int j=>obtain⟨t',rfl⟩:=ry;exact zfB (zA I q (by simp))
  |str j=>obtain⟨t',rfl⟩:=ry;exact zfC (zA I q (by simp))
  |_=>exact absurd (show false=true from hs) z8H
 |bl i=>
  cases rx
  cases y with
  |non=>cases ry;exact zfp (zA I q (by simp))
  |bl j=>cases ry;exact ne_bool (zA I q (congrArg not z0v))
  |str j=>obtain⟨t',rfl⟩:=ry;exact zfq (zA I q (by simp))
  |_=>exact absurd (show false=true from hs) z8H
 |int i=>
  obtain⟨t,rfl⟩:=rx
  cases y with
  |non=>cases ry;exact zfD (zA I q (by simp))
  |int j=>obtain⟨t',rfl⟩:=ry;exact ne_int (zA I q (congrArg not KO))
  |str j=>obtain⟨t',rfl⟩:=ry;exact zfE (zA I q (by simp))
  |_=>exact absurd (show false=true from hs) z8H
 |str i=>
  obtain⟨t,rfl⟩:=rx
  cases y with
  |non=>cases ry;exact zfF (zA I q (by simp))
  |bl j=>cases ry;exact zfr (zA I q (by simp))
  |int j=>obtain⟨t',rfl⟩:=ry;exact zfG (zA I q (by simp))
  |str j=>obtain⟨t',rfl⟩:=ry;exact ne_str (zA I q (congrArg not K9))
  |_=>exact absurd (show false=true from hs) z8H
 |byt i=>
  obtain⟨t,rfl⟩:=rx
  cases y with
  |byt j=>obtain⟨t',rfl⟩:=ry;exact PySem.W.ne_bytes (zA I q (congrArg not KY))
  |_=>exact absurd (show false=true from hs) z8H
 |_=>cases y<;>exact absurd (show false=true from hs) z8H
theorem z7u:OpR X (z94 .Lt) (rI0 λi j=>.bl (decide (i<j))):=z0W λ_ _ _ _ _ _ _ q=>zg1 q
theorem z76:OpR X (z94 .LtE) (rI0 λi j=>.bl (decide (i<=j))):=z0W λ_ _ _ _ _ _ _ q=>zg4 q
theorem z73:OpR X (z94 .Gt) (rI0 λi j=>.bl (decide (j<i))):=z0W λ_ _ _ _ _ _ _ q=>gt_int q
theorem z7j:OpR X (z94 .GtE) (rI0 λi j=>.bl (decide (j<=i))):=z0W λ_ _ _ _ _ _ _ q=>ge_int q
theorem Y5:OpR X (z94 .In) (λx y H Q=>∃i j,x=.str i/\y=.str j/\Q (.bl (!(z9M j i 0 j.length 1).isEmpty)) H):=by
 intro pins s σ H x y v u Q I rx ry h
 obtain⟨i,j,rfl,rfl,q⟩:=h
 obtain⟨t,rfl⟩:=rx
 obtain⟨t',rfl⟩:=ry
 exact in_str (zA I q rfl)
theorem z39:OpR X (z94 .Is) (λx y H Q=>y=.non/\Q (.bl (decide (x=.non))) H):=by
 intro pins s σ H x y v u Q I rx ry h
 obtain⟨rfl,q⟩:=h
 cases ry
 refine is_none_gen (zA I q ?_)
 cases x<;>first
  |(cases rx;rfl)
  |(obtain⟨t,rfl⟩:=rx;rfl)
theorem z1H:OpR X (z94 .IsNot) (λx y H Q=>y=.non/\Q (.bl (!decide (x=.non))) H):=by
 intro pins s σ H x y v u Q I rx ry h
 obtain⟨rfl,q⟩:=h
 cases ry
 refine isnot_none_gen (zA I q ?_)
 cases x<;>first
  |(cases rx;rfl)
  |(obtain⟨t,rfl⟩:=rx;rfl)
theorem Qw:OpR X (z94 .NotIn) (λx y H Q=>∃i j,x=.str i/\y=.str j/\Q (.bl (!(!(z9M j i 0 j.length 1).isEmpty))) H):=by
 intro pins s σ H x y v u Q I rx ry h
 obtain⟨i,j,rfl,rfl,q⟩:=h
 obtain⟨t,rfl⟩:=rx
 obtain⟨t',rfl⟩:=ry
 exact notIn_str (zA I q rfl)
theorem YM(b:Expr){op:z9V}(h:op≠.In:=by decide)(h2:op≠.NotIn:=by decide):zdq op b=false:=by
 have e1:(op == CmpOp.In)=false:=by cases op<;>first|rfl|exact absurd rfl h
 have e2:(op == CmpOp.NotIn)=false:=by cases op<;>first|rfl|exact absurd rfl h2
 cases b<;>simp[zdq,e1,e2]
theorem yW:(sizeLine:Nat)<2 ^ 63:=by rw[z95];decide
theorem VH:OpR X (za1 .Add) (λx y H Q=>∃i j,x=.str i/\y=.str j/\i.length+j.length<=sizeLine/\Q (.str (i++j)) H):=by
 intro pins s σ H x y v u Q I rx ry h
 obtain⟨i,j,rfl,rfl,hz,q⟩:=h
 obtain⟨t,rfl⟩:=rx
 obtain⟨t',rfl⟩:=ry
 exact add_str (λt' tk=>⟨.str (i++j),H,I.tok _,⟨_,rfl⟩,q⟩) hz
theorem vals1{x:V}{us:List Value}(r:Vals [x] us):∃u,us=[u]/\RelV x u:=by
 cases r with
 |cons r1 r2=>cases r2;exact⟨_,rfl,r1⟩
theorem vals2{x y:V}{us:List Value}(r:Vals [x,y] us):∃u w',us=[u,w']/\RelV x u/\RelV y w':=by
 cases r with
 |cons r1 r2=>
  cases r2 with
  |cons r3 r4=>cases r4;exact⟨_,_,rfl,r1,r3⟩
theorem Qe:KS X (.type "int") (λxs H Q=>(∃i,xs=[.int i]/\Q (.int i) H)\/∃k,xs=[.bl k]/\Q (.int (if k then 1 else 0)) H):=by
 intro pins s σ H xs us Q I r h
 rcases h with⟨i,rfl,q⟩|⟨k,rfl,q⟩
 ·obtain⟨u,rfl,t,rfl⟩:=vals1 r
  exact call_int_int ⟨.int i,H,I,⟨_,rfl⟩,q⟩
 ·obtain⟨u,rfl,r1⟩:=vals1 r
  cases r1
  exact call_int_bool ⟨.int (if k then 1 else 0),H,I.tok _,⟨_,rfl⟩,q⟩
end
end L2
namespace L2
open PySem PySem.Spec PyProof.Rows
structure ObjM(h:Heap)(x dx C:Addr)(mA:Str->Option Value):Prop where
 obj:h.get? x=some (z9P C dx)
 ns:h.Ns1 dx mA
 ne:dx≠x
theorem Xa{h:Heap}{dx:Addr}{mA:Str->Option Value}(n:h.Ns1 dx mA):∃od,h.get? dx=some od/\∀name,zbS name od=some (mA name):=by
 obtain⟨o,es,ep,ho,hd,hk,_,hm⟩:=n
 refine⟨o,ho,λname=>?_⟩
 have e:=hm name
 unfold nsFind findBy at e
 rw[←zdy] at e
 unfold zbS
 rw[hd]
 dsimp only
 split
 ·rename_i y q
  rw[q] at e
  exact congrArg some e
 ·rename_i q
  rw[q] at e
  have a:es.toList.any (·.refKey)=false:=by
   rw[zdQ]
   intro y hy
   obtain⟨z,t,hkey⟩:=hk y (Array.mem_toList_iff.mp hy)
   simp[DictEntry.refKey,hkey]
  have a':¬es.toList.any (·.refKey)=true:=by rw[a];exact z8H
  rw[if_neg a']
  exact congrArg some e
theorem ObjM.look{h:Heap}{x dx C:Addr}{mA:Str->Option Value}(I:ObjM h x dx C mA):∃od,ze_ h x (z9P C dx) C (some od)/\∀name,zbS name od=some (mA name):=
 let ⟨od,ho,hl⟩:=Xa I.ns
 ⟨od,⟨I.obj,rfl,rfl,ho⟩,hl⟩
section
variable {prog:Program}{w:World}{A:Around}{E:Value->Shared->Prop}{s:Shared}{K:PySem.W.Frag}{x dx C f:Addr}{mA:Str->Option Value}{name:Str}{v:Value}
theorem get_map{expr:Bool}{Q:Value->z8k->Prop}(X:K.In s.heap)(I:ObjM s.heap x dx C mA)(hg:zaS K C name=true)(hh:zab K C=true)
  (ha:z8N K (.ref C) name=some none) (hv:mA name=some v) (hv':zeq v=true) (h:Q v {s with toks:=s.toks+1}) :
  z8t (z8u prog w) A (getAttr (.ref x) name expr) Q E s:=by
 obtain⟨od,J,hl⟩:=I.look
 exact PySem.W.get_value X J (zam hg).1 (PySem.W.findObj_own hh ha rfl (by rw[hl,hv])) hv' h
theorem YT{pl:Sem Bool}{Q:Value×List Value->z8k->Prop}(X:K.In s.heap)(I:ObjM s.heap x dx C mA)(hg:zaS K C name=true)
  (hf:z8N K (.ref C) name=some (some (.ref f))) (ht:zdR K (.ref f)=true) (hv:mA name=none) (h:Q (.ref f,[.ref x]) s) :
  z8t (z8u prog w) A (zfI (.ref x) name pl) Q E s:=by
 obtain⟨od,J,hl⟩:=I.look
 exact PySem.W.method_fn X J (zam hg).1 (zam hg).2 hf (beq_iff_eq.mp ht) (by show (zbS name od).map (·.isSome)=some false;rw[hl,hv];rfl) h
theorem z2y{ns:List Str}{Q:Unit->z8k->Prop}(X:K.In s.heap)(I:ObjM s.heap x dx C mA)
  (hs:z8N K (.ref C) "__setattr__"=some (some (.builtin "object.__setattr__"))) (hp:zc9 K C=true) (ht:zcS K C name=some none) (hh:zab K C=true)
  (hw:zdP mA ns) (hsz:ns.length<=sizeLine)
  (h:∀h',ObjM h' x dx C (λy=>if y=name then some v else mA y)->z99 dx s.heap h'->Q () {s with heap:=h',toks:=s.toks+2}) :
  z8t (z8u prog w) A (setAttr (.ref x) name v) Q E s:=by
 obtain⟨od,J,hl⟩:=I.look
 refine zdS X J hs (PySem.W.osa_open (s:={s with toks:=s.toks+1}) (r:=none) X J hp ht λb=>?_)
 obtain⟨cd,hc,hd'⟩:=zcs hh
 have hx:s.heap.get? x=some ⟨.ref C,some dx,.plain,#[]⟩:=I.obj
 refine z8g (z8q (z8g (z8g (zd3 hx (z8g (za2 (s:={s with toks:=s.toks+1}) (zbG X hc) ?_))))))
 rw[hd']
 refine z8q (a:=some dx) (z8g (z8q (z8g ?_)))
 refine wpAny_nsSet1 (s:={s with toks:=s.toks+1}) I.ns λh' hn2 hs2=>?_
 obtain⟨oD,esD,epD,hoD,hdD,hcD⟩:=hn2.count (zga name v hw)
 refine z8g (zer hoD (by rw[hdD];exact zes (z8G hcD (by rw[z8L];omega))) ?_)
 exact z8q (h _ ⟨(hs2.2 _ (z9r I.ne)).trans I.obj,hn2,I.ne⟩ hs2)
theorem ui{R:Result->z8k->Prop}{vs:List Value}{kw:List (Str×Value)}(X:K.In s.heap)(hm:zeF K C=true)
  (hi:z8N K (.ref C) "__init__"=some (some (.ref f))) (hf:zf0 K (.ref f)=some (.type "function"))
  (h:zaK (z8u prog w) (A.under (.builtin "type.__call__" ⟨.ref C::vs,kw⟩)) (.call (.ref f) ⟨.ref (s.heap.objs.size+1)::vs,kw⟩) (PySem.W.InitBack (s.heap.objs.size+1) R)
   {s with heap:=(s.heap.push z9j).push (z9P C s.heap.objs.size)}) :
  zaK (z8u prog w) A (.call (.ref C) ⟨vs,kw⟩) R s:=by
 obtain⟨hh,g,d,t,os⟩:=s
 exact PySem.W.make_core (PySem.W.makes_of X hm) (zd4 X hi) (λself=>PySem.W.bind_fn X self hf) (.inl rfl) h
end
noncomputable def va(f:Str)(v:V):List (Str×V)->List (Str×V)
 |[]=>[(f,v)]
 |(g,x)::r=>if g=f then (g,v)::r else (g,x)::va f v r
theorem yf(f g:Str)(v:V):∀fs:List (Str×V),(va f v fs).lookup g=if g=f then some v else fs.lookup g
 |[]=>by
  show z9J g [(f,v)]=_
  by_cases h:g=f
  ·have hb:(g == f)=true:=beq_iff_eq.mpr h
   simp only[z9J,hb,if_pos h]
  ·have hb:(g == f)=false:=beq_eq_false_iff_ne.mpr h
   simp only[z9J,hb,if_neg h]
 |(k,x)::r=>by
  have ih:=yf f g v r
  rw[show va f v ((k,x)::r)=(if k=f then (k,v)::r else (k,x)::va f v r) from rfl]
  by_cases hk:k=f
  ·rw[if_pos hk]
   by_cases h:g=k
   ·have hb:(g == k)=true:=beq_iff_eq.mpr h
    simp only[z9J,hb,if_pos (h.trans hk)]
   ·have hb:(g == k)=false:=beq_eq_false_iff_ne.mpr h
    simp only[z9J,hb,if_neg (λe:g=f=>h (e.trans hk.symm))]
  ·rw[if_neg hk]
   by_cases h:g=k
   ·have hb:(g == k)=true:=beq_iff_eq.mpr h
    simp only[z9J,hb,if_neg (λe:g=f=>hk (h.symm.trans e))]
   ·have hb:(g == k)=false:=beq_eq_false_iff_ne.mpr h
    simp only[z9J,hb]
    exact ih
theorem xQ(f:Str)(v:V):∀fs:List (Str×V),f∈(va f v fs).map (·.1)/\∀g,g∈fs.map (·.1)->g∈(va f v fs).map (·.1)
 |[]=>⟨by simp[va],λg h=>by simp at h⟩
 |(k,x)::r=>by
  obtain⟨i1,i2⟩:=xQ f v r
  rw[show va f v ((k,x)::r)=(if k=f then (k,v)::r else (k,x)::va f v r) from rfl]
  by_cases hk:k=f
  ·rw[if_pos hk]
   subst hk
   exact⟨by simp,λg h=>by simpa using h⟩
  ·rw[if_neg hk]
   refine⟨?_,λg h=>?_⟩
   ·rw[z8R]
    exact z8y _ i1
   ·rw[z8R] at h ⊢
    rcases z8T.mp h with e|e
    ·exact z8T.mpr (.inl e)
    ·exact z8y _ (i2 g e)
theorem yc(f:Str)(v:V):∀fs:List (Str×V),(va f v fs).length<=fs.length+1
 |[]=>by simp[va]
 |(k,x)::r=>by
  have ih:=yc f v r
  rw[show va f v ((k,x)::r)=(if k=f then (k,v)::r else (k,x)::va f v r) from rfl]
  by_cases hk:k=f
  ·rw[if_pos hk,z8L,z8L];omega
  ·rw[if_neg hk,z8L,z8L];omega
theorem RelO.some_of{v:V}{o:Option Value}(r:RelO (some v) o):∃u,o=some u/\RelV v u:=by
 cases o with
 |none=>exact (show False from r).elim
 |some u=>exact⟨u,rfl,r⟩
theorem RelO.none_of{o:Option Value}(r:RelO none o):o=none:=by
 cases o with
 |none=>rfl
 |some u=>exact (show False from r).elim
theorem XO{v:V}{u:Value}(r:RelV v u):zeq u=true:=by
 cases v with
 |non=>cases (show u=z9o from r);rfl
 |bl b=>cases (show u=zau b from r);rfl
 |int i=>obtain⟨t,e⟩:=(show ∃t,u=zcp i t from r);cases e;rfl
 |str x=>obtain⟨t,e⟩:=(show ∃t,u=zeo x t from r);cases e;rfl
 |byt b=>obtain⟨t,e⟩:=(show ∃t,u=zfV b t from r);cases e;rfl
 |flt b=>obtain⟨t,e⟩:=(show ∃t,u=zfW b t from r);cases e;rfl
 |ref a=>cases (show u=z8J a from r);rfl
 |ty n=>cases (show u=zeW n from r);rfl
section
variable {P:Program}{w:World}{H H':Hp}{h h':Heap}{a C dx:Addr}{fs fs':List (Str×V)}
theorem kj(hok:HOk P w H h)(e:H a=some (.ins C dx fs)):∃mA,ObjM h a dx C mA/\(∀f,RelO (fs.lookup f) (mA f))/\zdP mA (fs.map (·.1))/\fs.length<=1000/\H dx=some (.own a):=by
 obtain⟨d,z,ne,ob,mA,n,r,q⟩:=(show ObjOk P w H h a (.ins C dx fs) from hok a _ e)
 exact⟨mA,⟨ob,n,ne⟩,r,q,z,d⟩
end
structure Cls(K:PySem.W.Frag)(C:Addr):Prop where
 pg:zaS K C zbM=true
 hd:zab K C=true
 po:zc9 K C=true
 sa:z8N K (.ref C) "__setattr__"=some (some (.builtin "object.__setattr__"))
theorem Cls.get{K:z8o}{C:Addr}(c:Cls K C)(f:Str):zaS K C f=true:=c.pg
noncomputable def NoAttr(K:z8o)(C:Addr)(f:Str):Prop:=z8N K (.ref C) f=some none
theorem NoAttr.taker{K:z8o}{C:Addr}{f:Str}(n:NoAttr K C f):zcS K C f=some none:=by
 unfold zcS
 rw[show z8N K (.ref C) f=some none from n]
 rfl
structure Meth(K:PySem.W.Frag)(C:Addr)(m:Str)(f:Addr):Prop where
 at_:z8N K (.ref C) m=some (some (.ref f))
 fn:zdR K (.ref f)=true
 kp:zao K (.ref f)=true
section
variable {X:Cx}{pins:List (Addr×Obj)}{σ:St}{H:Hp}{s:Shared}{a C dx:Addr}{fs:List (Str×V)}{f:Str}{v:V}{A:Around}{E:Value->Shared->Prop}
theorem yO{b:Bool}{Q:Value->z8k->Prop}(I:Inv X pins σ H s)(e:H a=some (.ins C dx fs))(c:Cls X.K C)(n:NoAttr X.K C f)(l:fs.lookup f=some v)
  (h:∀u s',Inv X pins σ H s'->RelV v u->Q u s'):z8t (z8u X.prog X.w) A (getAttr (.ref a) f b) Q E s:=by
 obtain⟨mA,O,r,_,_,_⟩:=kj I.hok e
 obtain⟨u,hu,ru⟩:=RelO.some_of (v:=v) (o:=mA f) (by rw[←l];exact r f)
 exact get_map I.kIn O (c.get f) c.hd n hu (XO ru) (h u _ (I.tok _) ru)
theorem Jg{m:Str}{g:Addr}{pl:Sem Bool}{Q:Value×List Value->z8k->Prop}(I:Inv X pins σ H s)(e:H a=some (.ins C dx fs))(c:Cls X.K C)(k:Meth X.K C m g)(l:fs.lookup m=none)
  (h:Q (.ref g,[.ref a]) s):z8t (z8u X.prog X.w) A (zfI (.ref a) m pl) Q E s:=by
 obtain⟨mA,O,r,_,_,_⟩:=kj I.hok e
 have hn:mA m=none:=RelO.none_of (by rw[←l];exact r m)
 exact YT I.kIn O (c.get m) k.at_ k.fn hn h
theorem JU{y:V}{u:Value}{Q:Unit->z8k->Prop}(I:Inv X pins σ H s)(e:H a=some (.ins C dx fs))(c:Cls X.K C)(n:NoAttr X.K C f)(hl:fs.length<1000)(ry:RelV y u)
  (h:∀s',Inv X pins σ (upd H a (.ins C dx (va f y fs))) s'->Q () s'):z8t (z8u X.prog X.w) A (setAttr (.ref a) f u) Q E s:=by
 obtain⟨mA,O,r,wi,_,ho⟩:=kj I.hok e
 have hz:(fs.map (·.1)).length<=sizeLine:=by rw[z8B,z95];omega
 refine z2y I.kIn O c.sa c.po n.taker c.hd wi hz λh' O' sb=>h _ ?_
 have hd:∃o,h'.get? dx=some o:=let ⟨o,_,_,e',_⟩:=O'.ns;⟨o,e'⟩
 refine I.write (x:=a) (e:=dx) (by rw[e];exact z9p) (.inr ho) (λb q hb z=>(sb.2 b hb).trans z) hd ?_
 refine⟨by rw[z9 O.ne];exact ho,?_,O.ne,O'.obj,_,O'.ns,λg=>?_,λg hg=>?_⟩
 ·have:=yc f y fs;omega
 ·show RelO ((va f y fs).lookup g) (if g=f then some u else mA g)
  rw[yf]
  by_cases q:g=f
  ·rw[if_pos q,if_pos q];exact ry
  ·rw[if_neg q,if_neg q];exact r g
 ·by_cases q:g=f
  ·rw[q];exact (xQ f y fs).1
  ·refine (xQ f y fs).2 g (wi g λz=>hg ?_)
   show (if g=f then some u else mA g)=none
   rw[if_neg q];exact z
theorem Inv.made(I:Inv X pins σ H s):Inv X pins σ (upd (upd H s.heap.objs.size (.own (s.heap.objs.size+1))) (s.heap.objs.size+1) (.ins C s.heap.objs.size []))
  {s with heap:=(s.heap.push z9j).push (z9P C s.heap.objs.size)}:=by
 have e1:(s.heap.push z9j).get? s.heap.objs.size=some z9j:=z8K s.heap rfl
 have e2:((s.heap.push z9j).push (z9P C s.heap.objs.size)).get? (s.heap.objs.size+1)=some (z9P C s.heap.objs.size):=by
  have:=z8K (s.heap.push z9j) (o:=z9P C s.heap.objs.size) rfl
  rwa[z9K] at this
 have e3:(s.heap.push z9j).Ns s.heap.objs.size (λ_=>none):=⟨z9j,#[],_,e1,rfl,(λe he=>absurd he (by simp)),λ_=>rfl⟩
 have I1:=I.laid (a:=s.heap.objs.size) (o:=.own (s.heap.objs.size+1)) (h':=s.heap.push z9j) (t':=s.toks) (λb u q=>z8i _ q) (z8n _) ⟨_,e1⟩
 refine I1.laid (a:=s.heap.objs.size+1) (o:=.ins C s.heap.objs.size []) (t':=s.toks) (λb u q=>z8i _ q) (zaT (z9K _ _)) ?_
 have ne:s.heap.objs.size≠s.heap.objs.size+1:=z8O (z9D _)
 refine⟨by rw[z9 ne,z8],zac _,ne,e2,λ_=>none,(zdT e3).at λo q=>z8i _ q,λ_=>z9p,λy hy=>absurd rfl hy⟩
theorem z1s{prog:z91}{w:z9c}{env:Env}{e:Expr}{f:Str}{pos:Pos}{s:z8k}{Q:Value->z8k->Prop}(hb:zaD e f env (eval e env)=eval e env)
  (h:z8t (z8u prog w) A (eval e env) (λo s₁=>z8t (z8u prog w) A (getAttr o f true) Q E s₁) E s):z8t (z8u prog w) A (eval (.Attribute e f pos) env) Q E s:=
 Attribute_any_ h (by rw[arm_eval_Attribute,hb])
end
def z7T (K:z8o)(ta:TE)(f:Str):TE:=λσ H Q=>ta σ H λx H1=>∃a C dx fs v,x=.ref a/\H1 a=some (.ins C dx fs)/\Cls K C/\NoAttr K C f/\fs.lookup f=some v/\Q v H1
def qw (K:z8o)(ta tv:TE)(f:Str):TS:=λD σ H=>tv σ H λy H1=>ta σ H1 λx H2=>∃a C dx fs,x=.ref a/\H2 a=some (.ins C dx fs)/\Cls K C/\NoAttr K C f/\fs.length<1000/\
 D.nx σ (upd H2 a (.ins C dx (va f y fs)))
section
variable {X:Cx}{o e value:Expr}{f:Str}{pos pos' tpos:Pos}{ta tv:TE}
theorem z4L(he:PE X e ta)(hb:zaD e f X.env (eval e X.env)=eval e X.env):PE X (.Attribute e f pos) (z7T X.K ta f):=by
 intro pins s σ H Q I h
 refine z1s hb (thn (he pins s σ H _ I h) λu s1 ⟨x,H1,I1,rx,a,C,dx,fs,v,ex,ea,c,n,l,q⟩=>?_)
 subst ex
 obtain rfl:u=z8J a:=rx
 exact yO I1 ea c n l λu' s2 I2 ru=>⟨v,H1,I2,ru,q⟩
theorem z6b(ha:PE X o ta)(hv:PE X value tv)(hs:zbq value (some (.Attribute o f pos')) pos.line X.env=pure false):PS X (.Assign [.Attribute o f pos'] value pos) (qw X.K ta tv f):=by
 intro pins s σ H D I h
 refine zbl (thn (hv pins s σ H _ I h) λu s1 ⟨y,H1,I1,ry,q⟩=>thn (ha pins s1 σ H1 _ I1 q) λov s2 ⟨x,H2,I2,rx,a,C,dx,fs,ex,ea,c,n,l,q2⟩=>?_) hs
 subst ex
 obtain rfl:ov=z8J a:=rx
 exact JU I2 ea c n l ry λs3 I3=>⟨σ,_,I3,q2⟩
def z5D:V->V->Hp->VK->Prop:=λx y H Q=>∃i j,x=.int i/\y=.int j/\Q (.int (i-j)) H
end
end L2
namespace L2
open PySem PySem.Spec PyProof.Rows
structure Room(k:Nat)(A:Around):Prop where
 hd:A.handled=none
 dp:A.depth+3 * k+5<recursionLimit
 un:A.units+16 * k+200<cLine
theorem Room.mono{j k:Nat}{A:z8V}(r:Room k A)(h:j<=k):Room j A:=⟨r.hd,by have:=r.dp;omega,by have:=r.un;omega⟩
theorem Room.deeper{k:Nat}{A:z8V}(r:Room (k+1) A)(env:Env):Room k (A.deeper env):=
 ⟨r.hd,by have:=r.dp;show A.depth+1+3 * k+5<_;omega,by have:=r.un;show A.units+3+16 * k+200<_;omega⟩
theorem Jp{A:z8V}{C:Addr}{us:List Value}{kw:List (Str×Value)}:(A.under (.builtin "type.__call__" ⟨.ref C::us,kw⟩)).depth=A.depth+1:=by
 first|rfl|simp[zdU,Code.weight,Code.isCreation,Code.isGuard,Code.isCaller,zfX,zdV,guardIds]
theorem Jq{A:z8V}{C:Addr}{us:List Value}{kw:List (Str×Value)}:(A.under (.builtin "type.__call__" ⟨.ref C::us,kw⟩)).units=A.units+1:=by
 first|rfl|simp[zdU,Code.cUnits,zfX,zdV]
theorem Room.make{k:Nat}{A:z8V}(r:Room (k+1) A)(C:Addr)(us:List Value)(kw:List (Str×Value)):Room k (A.under (.builtin "type.__call__" ⟨.ref C::us,kw⟩)):=
 ⟨r.hd,by have:=r.dp;rw[Jp];omega,by have:=r.un;rw[Jq];omega⟩
theorem Room.depth{k:Nat}{A:z8V}(r:Room k A):A.depth<recursionLimit:=by have:=r.dp;omega
def z85:TA:=λ_ H Q=>Q [] H
def z6_(ta:TE)(tr:TA):TA:=λσ H Q=>ta σ H λx H1=>tr σ H1 λxs H2=>Q (x::xs) H2
section
variable {X:Cx}{e:Expr}{es:List Expr}{te:TE}{t:TA}{pos:Pos}
theorem qk:PA X [] z85:=λ_ _ _ _ H Q I h=>zdW ⟨[],H,I,.nil,h⟩
theorem zC(ha:PE X e te)(hr:PA X es t)(hs:z96 (e::es) X.env=(false,eval e X.env)::z96 es X.env:=by rfl):PA X (e::es) (z6_ te t):=by
 intro pos pins s σ H Q I h
 rw[hs]
 show z8t _ _ (spliced ((false,eval e X.env)::zaw pos (z96 es X.env))) _ _ s
 refine zdz (thn (ha pins s σ H _ I h) λu s1 ⟨x,H1,I1,r1,q1⟩=>?_)
 exact thn (hr pos pins s1 σ H1 _ I1 q1) λus s2 ⟨xs,H2,I2,r2,q2⟩=>⟨x::xs,H2,I2,.cons r1 r2,q2⟩
def z89 (t:TA):TE:=λσ H Q=>t σ H λxs H1=>xs.length<=sizeLine/\∀p,H1 p=none->Q (.ref p) (upd H1 p (.tup xs))
def z7V (t:TA):TE:=λσ H Q=>t σ H λxs H1=>xs.length<=sizeLine/\∀p,H1 p=none->Q (.ref p) (upd H1 p (.lst xs))
theorem YZ{x1}(h:PA X es t):PE X (.Tuple es x1 pos) (z89 t):=by
 intro pins s σ H Q I hq
 refine wpAny_Tuple_spliced (thn (h pos pins s σ H _ I hq) λus s1 ⟨xs,H1,I1,r,z,q⟩=>⟨by rw[←r.length];exact z,?_⟩)
 have hf:H1 s1.heap.objs.size=none:=I1.hok.fresh (z8n _)
 refine⟨.ref s1.heap.objs.size,upd H1 s1.heap.objs.size (.tup xs),I1.laid (t':=s1.toks) (λb u e=>z8i _ e) (z8n _) ?_,rfl,q _ hf⟩
 exact⟨z,us,r,⟨_,z8K _ rfl,rfl,_,rfl⟩⟩
theorem Ye(h:PA X es t):PE X (.List es pos) (z7V t):=by
 intro pins s σ H Q I hq
 refine wpAny_List_spliced (thn (h pos pins s σ H _ I hq) λus s1 ⟨xs,H1,I1,r,z,q⟩=>⟨by rw[←r.length];exact z,?_⟩)
 have hf:H1 s1.heap.objs.size=none:=I1.hok.fresh (z8n _)
 refine⟨.ref s1.heap.objs.size,upd H1 s1.heap.objs.size (.lst xs),I1.laid (t':=s1.toks) (λb u e=>z8i _ e) (z8n _) ?_,rfl,q _ hf⟩
 exact⟨z,us,0,r,z8K _ rfl⟩
end
abbrev Sp:=List V->Hp->VK->XK->Prop
abbrev CXT:=List Env->Hp->z8k->XK->Value->z8k->Prop
structure Env0(P:Program)(w:World)(K:PySem.W.Frag)(mg:Str->Option Value)(base:Heap)(A:Around)(outer:List Env)(s:Shared)(H:Hp):Prop where
 frames:A.frames=some outer
 mod:Mod K mg base
 bs:∀b o,base.get? b=some o->s.heap.get? b=some o/\H b=none
 bsz:base.objs.size<=s.heap.objs.size
 funs:s.heap.FunFrames base outer
 frf:∀b∈frs outer,H b=none
 hok:HOk P w H s.heap
 bare:zc8 s.gens
inductive CE(outer:List Env)(P:Program)(w:World)(H:Hp)(s:Shared)(Q:VK)(u:Value)(s':Shared):Prop where
 |mk (v:V) (H':Hp) (o:s'.os=s.os) (b:zc8 s'.gens) (n:Un (frs outer) [] H H' s.heap s'.heap) (k:HOk P w H' s'.heap) (r:RelV v u) (q:Q v H')
def CR (CX:CXT)(outer:List Env)(P:z91)(w:z9c)(H:Hp)(s:z8k)(Q:VK)(E:XK)(r:Result)(s':z8k):Prop:=
 match r with
 |.ok (.ret u)=>CE outer P w H s Q u s'
 |.ok _=>False
 |.error e=>CX outer H s E e s'
structure FnOk(P:Program)(w:World)(K:PySem.W.Frag)(mg:Str->Option Value)(base:Heap)(CX:CXT)(k:Nat)(f:Addr)(fd:FuncData)(ps:List Str)(sp:Sp):Prop where
 len:∀vs H Q E,sp vs H Q E->vs.length=ps.length
 run:∀(A:z8V) (outer:List Env) (s:z8k) (H:Hp) (args:Args) (us:List Value) (vs:List V) (Q:VK) (E:XK),Room k A->Env0 P w K mg base A outer s H->zca s fd args (ps.zip us)->Vals vs us->sp vs H Q E->
  zaK (z8u P w) A (.call (.ref f) args) (CR CX outer P w H s Q E) s
theorem FnOk.imp{P:z91}{w:z9c}{K:z8o}{mg:Str->Option Value}{base:Heap}{CX:CXT}{k:Nat}{f:Addr}{fd:z9t}{ps:List Str}{sp sp':Sp}(F:FnOk P w K mg base CX k f fd ps sp)
  (h:∀vs H Q E,sp' vs H Q E->sp vs H Q E):FnOk P w K mg base CX k f fd ps sp':=
 ⟨λvs H Q E q=>F.len vs H Q E (h _ _ _ _ q),λA outer s H args us vs Q E hr he hb hv hs=>F.run A outer s H args us vs Q E hr he hb hv (h _ _ _ _ hs)⟩
theorem Env0.make{P:z91}{w:z9c}{K:z8o}{mg:Str->Option Value}{base:Heap}{A:z8V}{outer:List Env}{s:z8k}{H:Hp}(e:Env0 P w K mg base A outer s H)(C:Addr)(us:List Value)(kw:List (Str×Value)) :
  Env0 P w K mg base (A.under (.builtin "type.__call__" ⟨.ref C::us,kw⟩)) outer s H:=⟨by first|exact e.frames|(simpa[zdU,Code.envs,zdV,pushEnvs] using e.frames),e.mod,e.bs,e.bsz,e.funs,e.frf,e.hok,e.bare⟩
theorem Env0.in1{P:z91}{w:z9c}{K:z8o}{mg:Str->Option Value}{base:Heap}{A:z8V}{outer:List Env}{s:z8k}{H:Hp}(e:Env0 P w K mg base A outer s H) :
  Env0 P w K mg base A.in1 outer s H:=⟨e.frames,e.mod,e.bs,e.bsz,e.funs,e.frf,e.hok,e.bare⟩
section
variable {X:Cx}{pins:List (Addr×Obj)}{σ:St}{H:Hp}{s s':Shared}
theorem Inv.env0(I:Inv X pins σ H s):Env0 X.prog X.w X.K X.mg X.base X.A X.stack s H:=
 ⟨I.ok.frames,I.ok.mod,I.bs,z8G I.ok.bsz I.sz,I.stack,I.stkFree,I.hok,I.bare⟩
theorem Inv.after{Q:VK}{u:Value}(I:Inv X pins σ H s)(h:CE X.stack X.prog X.w H s Q u s'):EP X pins σ Q u s':=by
 obtain⟨v,H',os,bare,un,hok,r,q⟩:=h
 obtain⟨hh,g,d,t,os'⟩:=s'
 obtain rfl:os'=s.os:=os
 exact⟨v,H',I.call (h':=hh) (g':=g) (d':=d) (t':=t) (ch:=[]) un hok bare (λb z=>absurd z (by simp)),r,q⟩
end
noncomputable def Binds(K:z8o)(fd:z9t)(ps:List Str)(ds:List Value):Prop:=
 ∀(s:z8k) (us:List Value),K.In s.heap->(us++ds).length=ps.length->zca s fd ⟨us,[]⟩ (ps.zip (us++ds))
theorem Binds.all{K:z8o}{fd:z9t}{ps:List Str}(h:∀us:List Value,us.length=ps.length->zct fd ⟨us,[]⟩=pure (ps.zip us)):Binds K fd ps []:=λs us _ hl=>by
 rw[z98] at hl ⊢
 exact .of_eq (h us hl)
section
variable {X:Cx}{CX:CXT}{k:Nat}{f C:Addr}{fd:FuncData}{ps:List Str}{sp:Sp}{dvs:List V}{ds:List Value}{E:XK}{x m:Str}{p pos apos:Pos}{e o:Expr}{es:List Expr}{ta:TE}{t:TA}
structure Mk(K:PySem.W.Frag)(C f:Addr):Prop where
 makes:zeF K C=true
 init:z8N K (.ref C) "__init__"=some (some (.ref f))
 fn:zdR K (.ref f)=true
 kp:zao K (.ref C)=true
end
structure FnScope(N P:List Str)(sc:Scope):Prop where
 kind:sc.kind=.function
 co:sc.isCoroutine=false
 gen:sc.isGenerator=false
 nd:N.Nodup
 pre:N.take P.length=P
 par:∀x∈P,sc.names.lookup x=some .local\/sc.names.lookup x=some .cell
 nofree:∀y∈sc.names,y.2≠.free
theorem Qh{kindOf:Str->Option zbT}{x:Str}:∀{binds:List (Str×Value)} {m:Str->Option Value},(∀v,(x,v)∉binds)->zf1 kindOf binds m x=m x
 |[],_,_=>rfl
 |(n,v)::r,m,h=>by
  unfold zf1
  rw[Qh λw hw=>h w (z8y _ hw)]
  split
  ·have:x≠n:=by rintro rfl;exact h v z8M
   simp[this]
  ·rfl
theorem Q3{kindOf:Str->Option zbT}{x:Str}:∀{binds:List (Str×Value)} {m:Str->Option Value},(∀v,(x,v)∉binds)->zf2 kindOf binds m x=m x
 |[],_,_=>rfl
 |(n,v)::r,m,h=>by
  unfold zf2
  rw[Q3 λw hw=>h w (z8y _ hw)]
  split
  ·rfl
  ·have:x≠n:=by rintro rfl;exact h v z8M
   simp[this]
theorem Qn{kindOf:Str->Option zbT}{x:Str}{v:Value}:∀{P:List Str} {vs:List Value} {i:Nat} {m:Str->Option Value},P.Nodup->P[i]?=some x->vs[i]?=some v->kindOf x=some .local->
  zf1 kindOf (P.zip vs) m x=some v
 |[],_,_,_,_,h,_,_=>by simp at h
 |_::_,[],_,_,_,_,h,_=>by simp at h
 |p::P,w::vs,0,m,nd,h1,h2,hk=>by
  simp at h1 h2;subst h1;subst h2
  show zf1 kindOf ((p,w)::P.zip vs) m p=_
  unfold zf1
  rw[Qh λv hv=>(zbA.mp nd).1 (zbB hv).1,if_pos hk]
  simp
 |p::P,w::vs,i+1,m,nd,h1,h2,hk=>by
  show zf1 kindOf ((p,w)::P.zip vs) m x=_
  unfold zf1
  exact Qn (i:=i) (zbA.mp nd).2 (by simpa using h1) (by simpa using h2) hk
theorem Qa{kindOf:Str->Option zbT}{x:Str}{v:Value}:∀{P:List Str} {vs:List Value} {i:Nat} {m:Str->Option Value},P.Nodup->P[i]?=some x->vs[i]?=some v->kindOf x≠some .local->
  zf2 kindOf (P.zip vs) m x=some v
 |[],_,_,_,_,h,_,_=>by simp at h
 |_::_,[],_,_,_,_,h,_=>by simp at h
 |p::P,w::vs,0,m,nd,h1,h2,hk=>by
  simp at h1 h2;subst h1;subst h2
  show zf2 kindOf ((p,w)::P.zip vs) m p=_
  unfold zf2
  rw[Q3 λv hv=>(zbA.mp nd).1 (zbB hv).1,if_neg hk]
  simp
 |p::P,w::vs,i+1,m,nd,h1,h2,hk=>by
  show zf2 kindOf ((p,w)::P.zip vs) m x=_
  unfold zf2
  exact Qa (i:=i) (zbA.mp nd).2 (by simpa using h1) (by simpa using h2) hk
def start(N:List Str)(vs:List V):St:=vs.map some++z8P (N.length-vs.length) none
def QM (CX:CXT)(P:z91)(w:z9c)(K:z8o)(mg:Str->Option Value)(base:Heap)(N:List Str)(qual:Str)(scope:Scope)(f:Addr)(cd:Value)(A:z8V)(outer:List Env)(s:z8k)(H:Hp)(E:XK)(fnb:Str->Bool:=λ_=>true):Cx where
 prog:=P
 w:=w
 K:=K
 mg:=mg
 base:=base
 A:=A.deeper (zaF qual scope s.heap.objs.size f cd)
 N:=N
 s₀:=s
 H₀:=H
 env:=zaF qual scope s.heap.objs.size f cd
 outer:=outer
 stack:=zaF qual scope s.heap.objs.size f cd::outer
 ex:=[]
 calm:=true
 fn:=fnb
 pn:=[]
 xe:=λe s'=>z8t (z8u P w) (A.deeper (zaF qual scope s.heap.objs.size f cd)) (leaving (zaF qual scope s.heap.objs.size f cd) e) (λ_ s''=>CX outer H s E e s'') (λe' s''=>CX outer H s E e' s'') s'
theorem Ww{sc:Scope}{n:Nat}{x:Str}(h:sc.names.lookup x=some .cell):∃c,(zet n sc.names []).lookup x=some c:=by
 have q:=zbe sc.names n [] (.inl h)
 exact zaj.mp q
theorem jd{CX:CXT}{P:z91}{w:z9c}{K:z8o}{mg:Str->Option Value}{base:Heap}{N ps:List Str}{qual:Str}{scope:Scope}{f:Addr}{cd:Value}{A:z8V}{outer:List Env}{s s1:z8k}{H:Hp}{E:XK}{us:List Value}{vs:List V}{fnb:Str->Bool}
  (S:FnScope N ps scope) (hd:A.handled=none) (e0:Env0 P w K mg base A outer s H) (hl:vs.length=ps.length) (r:Vals vs us)
  (x:InCallC s s.heap.objs.size (zf1 (zaF qual scope s.heap.objs.size f cd).kindOf (ps.zip us) λ_=>none) (zet (s.heap.objs.size+1) scope.names []) (zf2 (zaF qual scope s.heap.objs.size f cd).kindOf (ps.zip us) λ_=>none) s1) :
  Inv (QM CX P w K mg base N qual scope f cd A outer s H E fnb) [] (start N vs) H s1:=by
 have hpl:ps.length<=N.length:=by have:=congrArg zfY S.pre;rw[zap] at this;omega
 obtain⟨h1,tk,rfl,hk⟩:=x.done
 have noA:∀b:Addr,b∉(QM CX P w K mg base N qual scope f cd A outer s H E fnb).ex:=λb z=>absurd (show b∈([]:List Addr) from z) (by simp)
 refine⟨⟨e0.mod,S.kind,rfl,rfl,z8n _,λy z c h1 h2=>?_,λy hy=>?_,λy c _ h=>?_,λ_=>hd,zd5 e0.frames,.inr ⟨rfl,rfl⟩,λb z=>absurd z (noA b),e0.bs,e0.bsz,λb _ _=>noA b,λb z=>absurd z (noA b),e0.funs,e0.frf⟩,
  rfl,e0.bare,Un.kept hk,⟨_,x.toInCall.ns,λi y v h1 h2 h3=>?_⟩,λy c h=>⟨_,x.cell y c h⟩,e0.hok.fresh (z8n _),λy c h=>?_,λp hp=>absurd (show p∈([]:List (Addr×Obj)) from hp) (by simp),e0.hok.kept hk,?_⟩
 ·exact name_of_addr x.apart (z9z h1) (z9z h2)
 ·have hy:scope.names.lookup y=some .cell\/scope.names.lookup y=some .free:=hy
  rcases hy with hy|hy
  ·exact Ww hy
  ·exact absurd rfl (S.nofree _ (z9z hy))
 ·exact zbJ (x.above y c (z9z h))
 ·have hi:i<vs.length:=by
   unfold start at h2
   by_cases hi:i<vs.length
   ·exact hi
   ·rw[z8r (by simpa using hi)] at h2
    rw[zaq] at h2
    split at h2<;>cases h2
  have ha:vs[i]?=some v:=by
   unfold start at h2
   rw[z8p (by simpa using hi),z8U] at h2
   cases e:vs[i]? with
   |none=>rw[e] at h2;cases h2
   |some a=>rw[e] at h2;cases h2;rfl
  obtain⟨u,hu,rv⟩:=r.get ha
  have hp:ps[i]?=some y:=by
   rw[←S.pre,List.getElem?_take_of_lt (by omega)];exact h1
  have ndP:ps.Nodup:=by rw[←S.pre];exact S.nd.sublist (List.take_sublist _ _)
  refine⟨u,rv,?_⟩
  rcases S.par y (z8F hp) with k|k
  ·exact .inl ⟨k,Qn ndP hp hu k⟩
  ·obtain⟨c,e⟩:=Ww (n:=s.heap.objs.size+1) k
   refine .inr ⟨.inl k,c,e,?_⟩
   have q:=x.cell y c e
   rw[Qa ndP hp hu (by show scope.names.lookup y≠_;rw[k];decide)] at q
   exact q
 ·exact .inl (e0.hok.fresh (zbJ (x.above y c (z9z h))))
 ·unfold start
  show _=N.length
  rw[z8Z,z8B,zcY]
  omega
theorem z2I{CX:CXT}{P:z91}{w:z9c}{K:z8o}{mg:Str->Option Value}{base:Heap}{k:Nat}{f:Addr}{name qual:Str}{params:Arguments}{body:List Stmt}{scope:Scope}{dV kV doc pm cdv ct oc:Value}{an od:Option Addr}
  {osl:Array (Option Value)} {N ps:List Str} {sp:Sp} {fnb:Str->Bool} (lk:K.lookup f=some ⟨oc,od,.func (z9u name qual params body scope dV kV doc pm an cdv ct),osl⟩) (hcd:zaO K cdv qual=true) (S:FnScope N ps scope)
  (len:∀vs H Q E,sp vs H Q E->vs.length=ps.length)
  (hbody:∀(A:z8V) (outer:List Env) (s:z8k) (H:Hp) (vs:List V) (Q:VK) (E:XK),Room k (A.deeper (zaF qual scope s.heap.objs.size f cdv))->sp vs H Q E->(∀y c,(zaF qual scope s.heap.objs.size f cdv).cells.lookup y=some c->H c=none)->
   ∃t,PSs (QM CX P w K mg base N qual scope f cdv A outer s H E fnb) body t/\t {nx:=λ_ H'=>Q .non H',rt:=Q} (start N vs) H) :
  FnOk P w K mg base CX (k+1) f (z9u name qual params body scope dV kV doc pm an cdv ct) ps sp:=by
 refine⟨len,λA outer s H args us vs Q E hr e0 hb r hsp=>?_⟩
 have hl:=len _ _ _ _ hsp
 have KX:K.In s.heap:=e0.mod.kin.keeps λb o e=>(e0.bs b o e).1
 have lim:s.heap.NoLimit:=e0.mod.nolimit.keeps λb o e=>(e0.bs b o e).1
 have hkind:∀y∈ps.zip us,scope.names.lookup y.1=some .local\/(scope.names.lookup y.1=some .cell/\((zet (s.heap.objs.size+1) scope.names []).lookup y.1).isSome=true):=λ⟨n,v⟩ hy=>by
  rcases S.par n (zbB hy).1 with q|q
  ·exact .inl q
  ·exact .inr ⟨q,zbe _ _ _ (.inl q)⟩
 refine zcZ hr.depth (KX _ _ lk) rfl S.co S.gen rfl (zdA KX hcd) (hb _ _ _ _ ?_)
 refine za3 S.kind hkind λenv he s1 x=>?_
 subst he
 refine⟨lim.keeps x.toInCall.keep,codeAny_func ?_⟩
 obtain⟨t,ht,hq⟩:=hbody A outer s H vs Q E (hr.deeper _) hsp λy c h=>e0.hok.fresh (zbJ (x.above y c (z9z h)))
 have I:Inv (QM CX P w K mg base N qual scope f cdv A outer s H E fnb) [] (start N vs) H s1:=jd S hr.hd e0 hl r x
 refine z8Y (ht [] s1 (start N vs) H _ I hq) (λfl s' hs=>?_) λe s' hs=>hs
 have fin:∀{σ':St} {H':Hp} {v:V} {u:Value},Inv (QM CX P w K mg base N qual scope f cdv A outer s H E fnb) [] σ' H' s'->RelV v u->Q v H'->CE outer P w H s Q u s':=
  λ{σ' H' v u} J rv q=>⟨v,H',J.os,J.bare,J.base,J.hok,rv,q⟩
 cases fl with
 |ret u=>
  obtain⟨v,σ',H',J,rv,q⟩:=hs
  exact fin J rv q
 |next=>
  obtain⟨σ',H',J,q⟩:=hs
  exact fin (v:=V.non) (u:=z9o) J rfl q
 |brk=>
  obtain⟨_,_,_,q⟩:=hs
  exact z8Q q
 |cont=>
  obtain⟨_,_,_,q⟩:=hs
  exact z8Q q
end L2
namespace HT
open PySem PyProof.Rows
noncomputable def lexLt:List Int->List Int->Bool
 |[],[]=>false
 |[],_::_=>true
 |_::_,[]=>false
 |x::xs,y::ys=>if x=y then lexLt xs ys else decide (x<y)
theorem VR(x y:Int)(xs ys:List Int):lexLt (x::xs) (y::ys)=if x=y then lexLt xs ys else decide (x<y):=rfl
theorem Zg:lexLt [] []=false:=rfl
theorem uk(y:Int)(ys:List Int):lexLt [] (y::ys)=true:=rfl
theorem uU(x:Int)(xs:List Int):lexLt (x::xs) []=false:=rfl
theorem eqAt_int(A:z8V)(s:z8k)(a:Int)(t:Tok)(c:Int)(u:Tok):∃e,za4 A s (.int a t) (.int c u) e/\(e=true↔a=c):=
 ⟨(a == c),zdB a t c u,by simp⟩
theorem Yq(A:z8V)(s:z8k)(a:Int)(t:Tok)(c:Int)(u:Tok)(prog:z91)(w:z9c)(E:Value->z8k->Prop)(Q:Value->z8k->Prop)(h:Q (.bool (decide (a<c))) s) :
  z8t (z8u prog w) A (richCompare .Lt (.int a t) (.int c u)) Q E s:=
 (zg1 h:z8t (z8u prog w) A (z94 .Lt (.int a t) (.int c u)) Q E s)
section
open PySem.SeqAt
open PySem.AutoSeq1 (wpAny_loadPart')
open PySem.MeetsSeq PySem.MeetsSeq2 PySem.MeetsSeq3
theorem ZC(l b:Addr)(items items2:Array Value)(n n2:Nat)(dd dd2:Option Addr)(sl sl2:Array (Option Value))(ns ms:List Int)(hi:z9m items.toList ns)(hj:z9m items2.toList ms) :
  Meets (zdg.«tuple.__lt__» ⟨[.ref l,.ref b],[]⟩)
   (λ_ R s=>s.heap.get? l=some {cls:=.type "tuple",dict:=dd,data:=.seq items n,slots:=sl}/\s.heap.get? b=some {cls:=.type "tuple",dict:=dd2,data:=.seq items2 n2,slots:=sl2}/\
    R (.ok (.ret (.bool (lexLt ns ms)))) s):=
 .of_wp λprog w A R s h=>by
  obtain⟨hp,g,d,tk,os⟩:=s;obtain⟨hl,hb,h⟩:=h
  have f2:=zcj
  have z1:items.size=ns.length:=by rw[←hi.length];simp
  have z2:items2.size=ms.length:=by rw[←hj.length];simp
  wp_walk using zbC hl,zbC hb,zeu _ (λrest b s'=>b.1=none/\s'=⟨hp,g,d,tk,os⟩/\∃(vs ws:List Value) (ns' ms':List Int),rest=vs.zip ws/\
   z9m vs ns'/\z9m ws ms'/\ns'.length+items2.size=ms'.length+items.size/\R (.ok (.ret (.bool (lexLt ns' ms')))) ⟨hp,g,d,tk,os⟩) _
  case turn=>
   rintro⟨y,x⟩ rest b s' ⟨hb',rfl,vs,ws,ns',ms',hz,hvi,hwi,hlen,hR⟩
   cases hvi with
   |nil=>rw[zdX] at hz;cases hz
   |cons a t hvi'=>
    cases hwi with
    |nil=>rw[zdC] at hz;cases hz
    |cons c u hwi'=>
     rw[zb6] at hz
     injection hz with hyx hrest
     injection hyx with hy hx
     subst hy hx
     rw[VR] at hR
     simp only[z8L] at hlen
     obtain⟨e,he,hiff⟩:=eqAt_int A.in1 ⟨hp,g,d,tk,os⟩ a t c u
     refine z8g (he prog w _ _ ?_)
     cases e with
     |true=>
      rw[if_pos (hiff.mp rfl)] at hR
      wp_walk
      exact⟨rfl,rfl,_,_,_,_,hrest,hvi',hwi',by omega,hR⟩
     |false=>
      rw[if_neg (λq=>absurd (hiff.mpr q) z8H)] at hR
      have hri:=Yq A.in1 ⟨hp,g,d,tk,os⟩ a t c u prog w
      wp_walk using hri
      exact⟨_,rfl,by simpa using hR⟩
  case fin=>
   rintro⟨b1,b2⟩ s' ⟨hb',rfl,vs,ws,ns',ms',hz,hvi,hwi,hlen,hR⟩
   simp only at hb'
   subst hb'
   have hv:lexLt ns' ms'=decide (items.size<items2.size):=by
    cases hvi with
    |nil=>
     cases hwi with
     |nil=>
      simp only[z9B] at hlen
      rw[Zg]
      exact (decide_eq_false (by omega)).symm
     |cons c u hw=>
      simp only[z9B,z8L] at hlen
      rw[uk]
      exact (decide_eq_true (by omega)).symm
    |cons a t hv=>
     cases hwi with
     |nil=>
      simp only[z9B,z8L] at hlen
      rw[uU]
      exact (decide_eq_false (by omega)).symm
     |cons c u hw=>
      rw[zb6] at hz
      cases hz
   rw[hv] at hR
   wp_walk
   exact⟨_,rfl,by simpa[zbm] using hR⟩
  case h=>
   exact⟨rfl,rfl,items.toList,items2.toList,ns,ms,rfl,hi,hj,by omega,h⟩
end
section
variable {prog:Program}{w:World}{A:Around}{E:Value->Shared->Prop}{s:Shared}
theorem lt_tupInts{l b:Addr}{items items2:Array Value}{ns ms:List Int}{Q:Value->z8k->Prop}(hl:zdO s.heap l items)(hb:zdO s.heap b items2)(hi:z9m items.toList ns)(hj:z9m items2.toList ms)
  (hu:A.units<cLine) (h:Q (.bool (lexLt ns ms)) s):z8t (z8u prog w) A (z94 .Lt (.ref l) (.ref b)) Q E s:=by
 obtain⟨⟨cls,dd,data,sl⟩,ho,hc,n,hd⟩:=id hl
 obtain⟨⟨cls2,dd2,data2,sl2⟩,ho2,hc2,n2,hd2⟩:=id hb
 simp only at hc hd hc2 hd2
 subst hc hd hc2 hd2
 exact zcK (op:=.Lt) ⟨_,ho,rfl⟩ ⟨_,ho2,rfl⟩ PySem.F.slot_tuple_lt PySem.F.entry_tuple_lt (PySem.F.args_tuple_lt_2 _ _) (ZC l b items items2 n n2 dd dd2 sl sl2 ns ms hi hj)
  ⟨ho,ho2,show zau (lexLt ns ms)≠zd6/\Q (.bool (lexLt ns ms)) s from ⟨(λx=>nomatch x),h⟩⟩ hu
theorem cat_tup{t b:Addr}{vs ws:List Value}{Q:Value->z8k->Prop}(ht:zdO s.heap t vs.toArray)(hb:zdO s.heap b ws.toArray)(hv:vs≠[])
  (h1:ws=[]->Q (.ref t) s) (h2:ws≠[]->Q (.ref s.heap.objs.size) {s with heap:=s.heap.push {cls:=.type "tuple",data:=.seq (vs++ws).toArray}})
  (hsz:vs.length+ws.length<=sizeLine):z8t (z8u prog w) A (za1 .Add (.ref t) (.ref b)) Q E s:=by
 obtain⟨⟨cls,dd,data,sl⟩,ho,hc,n,hd⟩:=id ht
 obtain⟨⟨cls2,dd2,data2,sl2⟩,ho2,hc2,n2,hd2⟩:=id hb
 simp only at hc hd hc2 hd2
 subst hc hd hc2 hd2
 have e:vs.toArray++ws.toArray=(vs++ws).toArray:=by simp
 by_cases hw:ws=[]
 ·exact zdY ⟨_,ho,rfl⟩ ⟨_,ho2,rfl⟩ zcu zdr zbf zb8 (zaZ _ _)
   (tuple_addW1 t b vs.toArray ws.toArray n n2 dd dd2 sl sl2 (by simpa using hv) (by simp[hw])) ⟨ho,ho2,h1 hw⟩
 ·refine zdY ⟨_,ho,rfl⟩ ⟨_,ho2,rfl⟩ zcu zdr zbf zb8 (zaZ _ _)
   (tuple_addW2 t b vs.toArray ws.toArray n n2 dd dd2 sl sl2 (by simpa using hv) (by simpa using hw) (by rw[z8A,z8A];exact hsz)) ⟨ho,ho2,?_⟩
  rw[e]
  exact h2 hw
noncomputable def sIx(n d:Nat):Option Int->Nat
 |none=>d
 |some v=>if v<0 then (v+(n:Int)).toNat else min v.toNat n
theorem z5X(n d:Nat)(hd:d<=n)(o:Option Int):sIx n d o<=n:=by
 cases o with
 |none=>exact hd
 |some v=>
  show (if v<0 then (v+(n:Int)).toNat else min v.toNat n)<=n
  by_cases hv:v<0
  ·rw[if_pos hv];omega
  ·rw[if_neg hv];exact Nat.min_le_right _ _
theorem JY(v:Int)(n d:Nat):(if v<0 then max (v+(n:Int)) 0 else min v (n:Int))=((sIx n d (some v):Nat):Int):=by
 show (if v<0 then max (v+(n:Int)) 0 else min v (n:Int))=(((if v<0 then (v+(n:Int)).toNat else min v.toNat n):Nat):Int)
 by_cases hv:v<0
 ·simp only[if_pos hv];omega
 ·simp only[if_neg hv];omega
theorem JJ(lo hi:Option Int)(n:Nat):zaX lo hi 1 (n:Int)=(((sIx n 0 lo:Nat):Int),((sIx n n hi:Nat):Int)):=by
 have h1:¬((1:Int)<0):=by omega
 unfold zaX
 simp only[h1,if_false]
 refine Prod.ext ?_ ?_
 ·cases lo with
  |none=>rfl
  |some v=>exact JY v n 0
 ·cases hi with
  |none=>rfl
  |some v=>exact JY v n n
theorem VS(i j:Nat):za8 (i:Int) (j:Int) 1=j-i:=by
 unfold za8
 have h1:(1:Int) > 0:=by omega
 simp only[h1,if_true,zdZ]
 split<;>omega
theorem uQ{v:Value}{o:Option Int}{Q:Option Int->z8k->Prop}(p:zcL v o)(h:Q o s):z8t (z8u prog w) A (zeG v) Q E s:=by
 cases p with
 |none=>exact slicePart_none h
 |int i t=>exact slicePart_int h
theorem sliceApplied_gen{sl:Addr}{vl vu:Value}{lo hi:Option Int}{n:Nat}{Q:Int×Int×Nat->z8k->Prop}(hs:s.heap.IsSliceOf sl vl vu .none)(pl:zcL vl lo)(pu:zcL vu hi)
  (h:Q (((sIx n 0 lo:Nat):Int),1,sIx n n hi-sIx n 0 lo) s):z8t (z8u prog w) A (zbU (.ref sl) (pure (n:Int))) Q E s:=by
 obtain⟨os,hos,hcs,hds⟩:=id hs
 unfold zbU zfs
 refine z8g (z8g (z9W hos hds (x:=vl) rfl (z8g (z9W hos hds (x:=vu) rfl (z8g (z9W hos hds (x:=.none) rfl (z8q ?_)))))))
 refine z8g (slicePart_none ?_)
 show z8t _ _ (if ((1:Int) == 0)=true then _ else _) _ _ s
 rw[if_neg (by decide)]
 refine z8g (uQ pl (z8g (uQ pu (z8g (z8q ?_)))))
 show z8t _ _ (match zaX lo hi 1 (n:Int) with|(lo,hi)=>pure (lo,(1:Int),za8 lo hi 1)) _ _ s
 rw[JJ lo hi n]
 show z8t _ _ (pure (((sIx n 0 lo:Nat):Int),(1:Int),za8 ((sIx n 0 lo:Nat):Int) ((sIx n n hi:Nat):Int) 1)) _ _ s
 rw[VS]
 exact z8q h
theorem z0o(xs:Array Value)(i k:Nat):((z9i k).filterMap λ(m:Nat)=>xs[((i:Int)+(m:Int) * 1).toNat]?).toArray=((xs.toList.drop i).take k).toArray:=by
 have e:(λ(m:Nat)=>xs[((i:Int)+(m:Int) * 1).toNat]?)=λm=>xs[i+m]?:=by
  funext m
  have:((i:Int)+(m:Int) * 1).toNat=i+m:=by omega
  rw[this]
 rw[e]
 have:=pick_run xs i k
 rw[List.filterMap_map] at this
 have e2:((λx=>xs[x]?) ∘ λx=>i+x)=λm=>xs[i+m]?:=rfl
 rw[e2] at this
 rw[this]
theorem getItem_tuple_cut{t sl:Addr}{items:Array Value}{vl vu:Value}{lo hi:Option Int}{Q:Value->z8k->Prop}(ht:zdO s.heap t items)(hs:s.heap.IsSliceOf sl vl vu .none)(pl:zcL vl lo)(pu:zcL vu hi)
  (hw:¬(sIx items.size 0 lo=0/\sIx items.size items.size hi=items.size))
  (h:Q (.ref s.heap.objs.size) {s with heap:=s.heap.push {cls:=.type "tuple",data:=.seq ((items.toList.drop (sIx items.size 0 lo)).take (sIx items.size items.size hi-sIx items.size 0 lo)).toArray}})
  (hsz:items.size<=sizeLine):z8t (z8u prog w) A (zbs (.ref t) (.ref sl)) Q E s:=by
 have htake:sizeOk (.seq ((items.toList.drop (sIx items.size 0 lo)).take (sIx items.size items.size hi-sIx items.size 0 lo)).toArray):=by
  show ((items.toList.drop (sIx items.size 0 lo)).take (sIx items.size items.size hi-sIx items.size 0 lo)).toArray.size<=sizeLine
  rw[z8A,zap,zcv,z9R]
  omega
 have hj:sIx items.size items.size hi<=items.size:=z5X _ _ (z8n _) hi
 obtain⟨os,hos,hcs,hds⟩:=id hs
 have hTs:s.TypeIs (.ref sl) "slice":=⟨os,hos,hcs⟩
 unfold zbs
 try with_reducible refine z8W ?_
 first|refine z8g (z8q ?_)|skip
 refine z8g (zd_ ht.typeIs (by decide) ?_)
 refine z8g (zcw (name:=z9T "__getitem__") ht.typeIs z9C
  (zew z9C ht.typeIs zdj ?_ (zdD _ _)))
 show z8t _ _ (zbV (.ref t) >>= _) _ _ s
 refine z8g (tupleItemsOf_ ht ?_)
 refine z8g (zcM hTs ?_)
 rw[if_pos (by decide)]
 refine z8g (sliceApplied_gen hs pl pu ?_)
 have hno:¬((((sIx items.size 0 lo:Nat):Int) == 0&&(1:Int) == 1&&(sIx items.size items.size hi-sIx items.size 0 lo) == items.size)=true):=by
  intro q
  rw[z8j,z8j] at q
  have q1:((sIx items.size 0 lo:Nat):Int)=0:=eq_of_beq q.1.1
  have q2:sIx items.size items.size hi-sIx items.size 0 lo=items.size:=eq_of_beq q.2
  exact hw ⟨by omega,by omega⟩
 show z8t _ _ (if (((sIx items.size 0 lo:Nat):Int) == 0&&(1:Int) == 1&&(sIx items.size items.size hi-sIx items.size 0 lo) == items.size)=true then _ else _) _ _ s
 rw[if_neg hno,z0o]
 first
  |exact z8g (m:=zak _) (z9N (z8q ⟨_,rfl,z8q h⟩) htake)
  |exact z8g (m:=zak _) (z9N (z8g (z8q (z8q ⟨_,rfl,z8q h⟩))) htake)
  |exact z8g (z8g (m:=zak _) (z9N (z8q (z8q ⟨_,rfl,z8q h⟩)) htake))
  |exact z8g (z8g (m:=zak _) (z9N (z8q ⟨_,rfl,z8q h⟩) htake))
end
end HT
namespace L2
open PySem PySem.Spec PyProof.Rows
abbrev TO:=St->Hp->(Option Int->Hp->Prop)->Prop
def PO (X:Cx)(e:Option Expr)(t:TO):Prop:=
 ∀(pins:List (Addr×Obj)) (s:z8k) (σ:St) (H:Hp) (Q:Option Int->Hp->Prop),Inv X pins σ H s->t σ H Q->
  z8t (z8u X.prog X.w) X.A (evalPart e X.env) (λu s'=>∃o H',Inv X pins σ H' s'/\zcL u o/\Q o H') X.xe s
def z21:TO:=λ_ H Q=>Q none H
def z7n(t:TE):TO:=λσ H Q=>t σ H λx H1=>∃i,x=.int i/\Q (some i) H1
theorem intsAre_of{ns:List Int}:∀{us:List Value},Vals (ns.map V.int) us->z9m us ns:=by
 induction ns with
 |nil=>intro us r;rw[zea] at r;cases r;exact .nil
 |cons n ns ih=>
  intro us r
  rw[z8R] at r
  cases r with
  |cons r1 r2=>
   obtain⟨t,e⟩:=r1
   subst e
   exact .cons n t (ih r2)
section
variable {X:Cx}{e:Expr}{te:TE}{lo hi:Option Expr}{tl th:TO}{pos p2:Pos}
theorem z11:PO X none z21:=by
 intro pins s σ H Q I h
 rw[evalPart_none]
 exact z8q ⟨none,H,I,.none,h⟩
theorem z2n(h:PE X e te):PO X (some e) (z7n te):=by
 intro pins s σ H Q I hw
 rw[evalPart_some]
 refine thn (h pins s σ H _ I hw) λu s1 ⟨x,H1,I1,r1,q1⟩=>?_
 obtain⟨i,rfl,q⟩:=q1
 obtain⟨t,rfl⟩:=r1
 exact⟨some i,H1,I1,.int i t,q⟩
def SlR (X:Cx)(r:V->Option Int->Option Int->Hp->VK->Prop):Prop:=
 ∀(pins:List (Addr×Obj)) (s:z8k) (σ:St) (H:Hp) (x:V) (v vl vu:Value) (lo hi:Option Int) (sl:Addr) (Q:VK),Inv X pins σ H s->RelV x v->s.heap.IsSliceOf sl vl vu .none->zcL vl lo->zcL vu hi->r x lo hi H Q->
  ∃T id,zdE (.type T) "__getitem__"=pure (some (.builtin id))/\s.TypeIs v T/\z8t (z8u X.prog X.w) X.A (zbs v (.ref sl)) (EP X pins σ Q) X.xe s
theorem SlR.or{r r':V->Option Int->Option Int->Hp->VK->Prop}(h:SlR X r)(h':SlR X r'):SlR X (λx lo hi H Q=>r x lo hi H Q\/r' x lo hi H Q):=by
 intro pins s σ H x v vl vu lo hi sl Q I rx hs pl pu q
 rcases q with q|q
 ·exact h pins s σ H x v vl vu lo hi sl Q I rx hs pl pu q
 ·exact h' pins s σ H x v vl vu lo hi sl Q I rx hs pl pu q
def tSl (r:V->Option Int->Option Int->Hp->VK->Prop)(te:TE)(tl th:TO):TE:=λσ H Q=>te σ H λx H1=>tl σ H1 λl H2=>th σ H2 λu H3=>r x l u H3 Q
theorem Yw{r:V->Option Int->Option Int->Hp->VK->Prop}(hr:SlR X r)(he:PE X e te)(hl:PO X lo tl)(hu:PO X hi th):PE X (.Subscript e (.Slice lo hi none p2) pos) (tSl r te tl th):=by
 intro pins s σ H Q I h
 refine zf3 (thn (he pins s σ H _ I h) λv s1 ⟨x,H1,I1,r1,q1⟩=>?_)
 refine wpAny_Slice (thn (hl pins s1 σ H1 _ I1 q1) λvl s2 ⟨l,H2,I2,pl,q2⟩=>thn (hu pins s2 σ H2 _ I2 q2) λvu s3 ⟨u,H3,I3,pu,q3⟩=>?_)
 rw[evalPart_none]
 refine z8q ?_
 have I4:Inv X pins σ H3 {s3 with heap:=s3.heap.push {cls:=.type "slice",data:=.fields #[vl,vu,.none]}}:=I3.kept (t':=s3.toks) λb ob q=>z8i _ q
 obtain⟨T,id,hT,ht,hg⟩:=hr pins {s3 with heap:=s3.heap.push {cls:=.type "slice",data:=.fields #[vl,vu,.none]}} σ H3 x v vl vu l u s3.heap.objs.size Q I4 r1 (zg5 ..) pl pu q3
 show z8t (z8u X.prog X.w) X.A (zds e (.Slice lo hi none p2) v (.ref s3.heap.objs.size)) (EP X pins σ Q) X.xe {s3 with heap:=s3.heap.push {cls:=.type "slice",data:=.fields #[vl,vu,.none]}}
 exact tail_any (ops:=[.ref s3.heap.objs.size,v]) ht hT hg (by with_unfolding_all rfl)
def Zb (xs:List V)(lo hi:Option Int):List V:=(xs.drop (HT.sIx xs.length 0 lo)).take (HT.sIx xs.length xs.length hi-HT.sIx xs.length 0 lo)
theorem y6(xs:List V)(lo hi:Option Int):(Zb xs lo hi).length<=xs.length:=by
 unfold Zb
 rw[zap,zcv]
 omega
def z83 (K:z8o):V->Option Int->Option Int->Hp->VK->Prop:=λx lo hi H Q=>∃a xs,x=.ref a/\SqT K H a xs/\
 ¬(HT.sIx xs.length 0 lo=0/\HT.sIx xs.length xs.length hi=xs.length)/\∀p,H p=none->Q (.ref p) (upd H p (.tup (Zb xs lo hi)))
theorem z4z:SlR X (z83 X.K):=by
 intro pins s σ H x v vl vu lo hi sl Q I rx hs pl pu h
 obtain⟨a,xs,rfl,hx,hw,q⟩:=h
 cases rx
 obtain⟨its,r,ht,hz⟩:=I.tuple hx
 have hlen:its.toArray.size=xs.length:=by rw[z8A];exact r.length.symm
 refine⟨"tuple",_,z9C.lookup,ht.typeIs,?_⟩
 refine HT.getItem_tuple_cut ht hs pl pu (by rw[hlen];exact hw) ?_ (by rw[hlen];exact hz)
 rw[hlen]
 refine⟨.ref s.heap.objs.size,_,I.laid (t':=s.toks) (o:=.tup (Zb xs lo hi)) (λb ob q=>z8i _ q) (z8n _) ?_,rfl,q _ (I.hok.fresh (z8n _))⟩
 exact⟨z8G (y6 xs lo hi) hz,_,(r.drop (HT.sIx xs.length 0 lo)).take (HT.sIx xs.length xs.length hi-HT.sIx xs.length 0 lo),zfJ _ _⟩
def z7Y (K:z8o):R2:=λx y H Q=>∃a b ns ms,x=.ref a/\y=.ref b/\SqT K H a (ns.map V.int)/\SqT K H b (ms.map V.int)/\Q (.bl (HT.lexLt ns ms)) H
theorem z3u(hu:X.A.units<cLine):OpR X (z94 .Lt) (z7Y X.K):=by
 intro pins s σ H x y v u Q I rx ry h
 obtain⟨a,b,ns,ms,rfl,rfl,ha,hb,q⟩:=h
 cases rx
 cases ry
 obtain⟨its,r1,p1,_⟩:=I.tuple ha
 obtain⟨its2,r2,p2,_⟩:=I.tuple hb
 have i1:z9m its.toArray.toList ns:=intsAre_of r1
 have i2:z9m its2.toArray.toList ms:=intsAre_of r2
 exact HT.lt_tupInts p1 p2 i1 i2 hu ⟨.bl (HT.lexLt ns ms),H,I,rfl,q⟩
def z6P(K:z8o):R2:=λx y H Q=>∃a b xs ys,x=.ref a/\y=.ref b/\SqT K H a xs/\SqT K H b ys/\xs≠[]/\xs.length+ys.length<=sizeLine/\
 (ys=[]->Q (.ref a) H)/\(ys≠[]->∀p,H p=none->Q (.ref p) (upd H p (.tup (xs++ys))))
theorem Vals.nil_iff{xs:List V}{us:List Value}(r:Vals xs us):us=[]↔xs=[]:=by
 cases r with
 |nil=>simp
 |cons _ _=>simp
theorem z1S:OpR X (za1 .Add) (z6P X.K):=by
 intro pins s σ H x y v u Q I rx ry h
 obtain⟨a,b,xs,ys,rfl,rfl,ha,hb,hx,hz,q1,q2⟩:=h
 cases rx
 cases ry
 obtain⟨its,r1,p1,_⟩:=I.tuple ha
 obtain⟨its2,r2,p2,_⟩:=I.tuple hb
 refine HT.cat_tup p1 p2 (λz=>hx (r1.nil_iff.mp z)) (λz=>⟨.ref a,H,I,rfl,q1 (r2.nil_iff.mp z)⟩) (λz=>?_) (by rw[←r1.length,←r2.length];exact hz)
 refine⟨.ref s.heap.objs.size,_,I.laid (t':=s.toks) (o:=.tup (xs++ys)) (λb ob q=>z8i _ q) (z8n _) ?_,rfl,q2 (λw=>z (r2.nil_iff.mpr w)) _ (I.hok.fresh (z8n _))⟩
 exact⟨by rw[z8Z];exact hz,_,r1.append r2,zfJ _ _⟩
end
end L2
namespace L2
open PySem PySem.Spec PyProof.Rows
noncomputable def ixN(n:Nat)(i:Int):Option Nat:=if 0<=i then (if i<n then some i.toNat else none) else if -(n:Int)<=i then some (i+n).toNat else none
def atI {α:Type}(xs:List α)(i:Int):Option α:=(ixN xs.length i).bind λj=>xs[j]?
theorem z1f{n:Nat}{i:Int}{j:Nat}(h:ixN n i=some j):seqIndex? i n=some j/\j<n /\ -(n:Int)<=i/\i<n:=by
 unfold ixN at h
 by_cases h0:0<=i
 ·rw[if_pos h0] at h
  by_cases h1:i<n
  ·rw[if_pos h1] at h
   have e:i.toNat=j:=z8m h
   exact⟨by rw[seqIndex_of h0 h1,e],by omega,by omega,h1⟩
  ·rw[if_neg h1] at h;cases h
 ·rw[if_neg h0] at h
  by_cases h1:-(n:Int)<=i
  ·rw[if_pos h1] at h
   have e:(i+n).toNat=j:=z8m h
   exact⟨by rw[seqIndex_neg (by omega) h1,e],by omega,h1,by omega⟩
  ·rw[if_neg h1] at h;cases h
theorem Qt{α:Type}{xs:List α}{i:Int}{v:α}(h:atI xs i=some v):∃j,seqIndex? i xs.length=some j/\xs[j]?=some v/\j<xs.length /\ -(xs.length:Int)<=i/\i<xs.length:=by
 unfold atI at h
 cases e:ixN xs.length i with
 |none=>rw[e] at h;cases h
 |some j=>
  rw[e] at h
  obtain⟨h1,h2,h3,h4⟩:=z1f e
  exact⟨j,h1,h,h2,h3,h4⟩
noncomputable def z1q(b:Expr):Prop:=∀o i,zd7 b false o i=operate [o,i] (zbs o i)
def IxR (X:Cx)(r:R2):Prop:=
 ∀(value slice:Expr) (pins:List (Addr×Obj)) (s:z8k) (σ:St) (H:Hp) (x y:V) (v u:Value) (Q:VK),Inv X pins σ H s->RelV x v->RelV y u->r x y H Q->
  zd7 slice false v u=operate [v,u] (zbs v u)->z8t (z8u X.prog X.w) X.A (zds value slice v u) (EP X pins σ Q) X.xe s
def MtR (X:Cx)(id:String)(r:V->List V->Hp->VK->Prop):Prop:=
 ∀(pins:List (Addr×Obj)) (s:z8k) (σ:St) (H:Hp) (x:V) (xs:List V) (v:Value) (us:List Value) (Q:VK),Inv X pins σ H s->RelV x v->Vals xs us->r x xs H Q->
  z8t (z8u X.prog X.w) X.A (call (.builtin id) (v::us)) (EP X pins σ Q) X.xe s
section
variable {X:Cx}{a b:Expr}{ta tb:TE}{pos:Pos}
def z7_ (K:z8o):R2:=λx y H Q=>∃p xs i v,x=.ref p/\y=.int i/\SqL K H p xs/\atI xs i=some v/\Q v H
def z8d (K:z8o):R2:=λx y H Q=>∃p xs i v,x=.ref p/\y=.int i/\SqT K H p xs/\atI xs i=some v/\Q v H
def z7H:R2:=λx y H Q=>∃z i c,x=.str z/\y=.int i/\z.length<=sizeLine/\atI z.cps.toList i=some c/\Q (.str ⟨#[c]⟩) H
theorem Kt:IxR X (z7_ X.K):=by
 intro value slice pins s σ H x y v u Q I rx ry h hs
 obtain⟨p,xs,i,z,rfl,rfl,hq,he,q⟩:=h
 cases rx
 obtain⟨t,rfl⟩:=ry
 obtain⟨its,r,pl,hz⟩:=I.list hq
 obtain⟨j,h1,h2,h3,h4,h5⟩:=Qt he
 obtain⟨w,ew,rw'⟩:=r.get h2
 have hl:=r.length
 have hn:=yW
 have fin:EP X pins σ Q w s:=⟨z,H,I,rw',q⟩
 by_cases h0:0<=i
 ·have hj:i.toNat=j:=by
   rw[seqIndex_of h0 h5] at h1
   exact z8m h1
  exact item_listR pl.isList h0 (by omega) (by rw[hj];simpa using ew) fin hs
 ·have hj:(i+(its.toArray.size:Int)).toNat=j:=by
   rw[seqIndex_neg (by omega) h4] at h1
   rw[z8A,←hl]
   exact z8m h1
  exact zcN (x:=w) pl.isList.typeIs zeb.lookup
   (wpAny_getItem_list_neg (Q:=λr s'=>r=w/\EP X pins σ Q r s') pl.isList (by omega) (by rw[z8A]<;>omega) (by omega) (by rw[hj];simpa using ew) ⟨rfl,fin⟩) hs
theorem z5P:IxR X (z8d X.K):=by
 intro value slice pins s σ H x y v u Q I rx ry h hs
 obtain⟨p,xs,i,z,rfl,rfl,hq,he,q⟩:=h
 cases rx
 obtain⟨t,rfl⟩:=ry
 obtain⟨its,r,pl,hz⟩:=I.tuple hq
 obtain⟨j,h1,h2,h3,h4,h5⟩:=Qt he
 obtain⟨w,ew,rw'⟩:=r.get h2
 have hl:=r.length
 have hn:=yW
 have fin:EP X pins σ Q w s:=⟨z,H,I,rw',q⟩
 exact zcN (x:=w) pl.typeIs z9C.lookup
  (getItem_tuple (j:=j) (Q:=λr s'=>r=w/\EP X pins σ Q r s') pl (by omega) (by omega) (by rw[z8A,←hl];exact h1) (by simpa using ew) ⟨rfl,fin⟩) hs
theorem z48:IxR X z7H:=by
 intro value slice pins s σ H x y v u Q I rx ry h hs
 obtain⟨z,i,c,rfl,rfl,hz,he,q⟩:=h
 obtain⟨t,rfl⟩:=rx
 obtain⟨t',rfl⟩:=ry
 obtain⟨j,h1,h2,h3,h4,h5⟩:=Qt he
 have hl:z.cps.toList.length=z.length:=by simp[zf4]
 rw[hl] at h1 h4 h5
 have hn:=yW
 exact tail_any (zf5 s z t) slot_str_getitem.lookup (getItem_str (c:=c) (by
  have e1:decide (i < -(2 ^ 63:Int))=false:=decide_eq_false (by omega)
  have e2:decide (i ≥ 2 ^ 63)=false:=decide_eq_false (by omega)
  rw[e1,e2,Bool.or_false]) (by rw[h1];simpa using h2) ⟨.str ⟨#[c]⟩,H,I.tok _,⟨_,rfl⟩,q⟩) hs
theorem QP(lo hi:Option Int)(n:Nat):(zb9 lo hi none n).1=((HT.sIx n 0 lo:Nat):Int)/\(zb9 lo hi none n).2.1=((HT.sIx n n hi:Nat):Int)/\(zb9 lo hi none n).2.2=1:=by
 refine⟨?_,?_,rfl⟩
 ·cases lo with
  |none=>simp[zb9,HT.sIx]
  |some i=>
   simp only[zb9,HT.sIx,zex,show (1:Int) > 0 by decide,if_true]
   by_cases h:i<0
   ·simp only[h,if_true]<;>omega
   ·simp only[h,if_false]<;>omega
 ·cases hi with
  |none=>simp[zb9,HT.sIx]
  |some i=>
   simp only[zb9,HT.sIx,zex,show (1:Int) > 0 by decide,if_true]
   by_cases h:i<0
   ·simp only[h,if_true]<;>omega
   ·simp only[h,if_false]<;>omega
theorem Z9(its:List Value)(lo hi:Option Int):slicePick its.toArray lo hi none=((its.drop (HT.sIx its.length 0 lo)).take (HT.sIx its.length its.length hi-HT.sIx its.length 0 lo)).toArray:=by
 obtain⟨h1,h2,h3⟩:=QP lo hi its.toArray.size
 unfold slicePick
 rw[h1,h2,h3]
 simp only[sliceRange_one,pick_run,z8A]<;>rfl
def z7I (K:z8o):V->Option Int->Option Int->Hp->VK->Prop:=λx lo hi H Q=>∃a xs,x=.ref a/\SqL K H a xs/\∀p,H p=none->Q (.ref p) (upd H p (.lst (Zb xs lo hi)))
theorem z14:SlR X (z7I X.K):=by
 intro pins s σ H x v vl vu lo hi sl Q I rx hs pl pu h
 obtain⟨a,xs,rfl,hx,q⟩:=h
 cases rx
 obtain⟨its,r,ht,hz⟩:=I.list hx
 have hlen:=r.length
 refine⟨"list",_,zeb.lookup,ht.isList.typeIs,?_⟩
 refine wpAny_getItem_list_slice ht.isList hs pl pu .none (by simp) ?_ (by rw[z8A]<;>omega)
 rw[Z9,←hlen]
 refine⟨.ref s.heap.objs.size,_,I.laid (t':=s.toks) (o:=.lst (Zb xs lo hi)) (λb ob q=>z8i _ q) (z8n _) ?_,rfl,q _ (I.hok.fresh (z8n _))⟩
 exact⟨z8G (y6 xs lo hi) hz,_,0,(r.drop (HT.sIx xs.length 0 lo)).take (HT.sIx xs.length xs.length hi-HT.sIx xs.length 0 lo),z8K _ rfl⟩
theorem vz:KS X (.builtin "len") (λxs H Q=>∃p ys,xs=[.ref p]/\(SqL X.K H p ys\/SqT X.K H p ys)/\Q (.int ys.length) H):=by
 intro pins s σ H xs us Q I r h
 obtain⟨p,ys,rfl,hq,q⟩:=h
 obtain⟨u,rfl,rx⟩:=vals1 r
 cases rx
 have hn:=yW
 rcases hq with hq|hq
 ·obtain⟨its,r',pl,hz⟩:=I.list hq
  have hlen:=r'.length
  exact Calls.call_len_list pl.isList (by simp only[z8A]<;>omega) ⟨.int ys.length,H,I.tok _,⟨s.toks+1,by rw[z8A,hlen]⟩,q⟩
 ·obtain⟨its,r',pl,hz⟩:=I.tuple hq
  have hlen:=r'.length
  exact len_tuple pl (by simp only[z8A]<;>omega) ⟨.int ys.length,H,I.tok _,⟨s.toks+1,by rw[z8A,hlen]⟩,q⟩
theorem QA:KS X (.builtin "len") (λxs H Q=>∃z,xs=[.str z]/\z.length<=sizeLine/\Q (.int z.length) H):=by
 intro pins s σ H xs us Q I r h
 obtain⟨z,rfl,hz,q⟩:=h
 obtain⟨u,rfl,t,rfl⟩:=vals1 r
 have hn:=yW
 exact len_str (by omega) ⟨.int z.length,H,I.tok _,⟨_,rfl⟩,q⟩
theorem jA:KS X (.type "tuple") (λxs H Q=>∃p ys,xs=[.ref p]/\((SqL X.K H p ys/\∀l,H l=none->Q (.ref l) (upd H l (.tup ys)))\/(SqT X.K H p ys/\Q (.ref p) H))):=by
 intro pins s σ H xs us Q I r h
 obtain⟨p,ys,rfl,h⟩:=h
 obtain⟨u,rfl,rx⟩:=vals1 r
 cases rx
 rcases h with⟨hq,q⟩|⟨hq,q⟩
 ·obtain⟨its,r',pl,hz⟩:=I.list hq
  have hlen:=r'.length
  refine call_tuple_list pl.isList (λh' kp=>?_) (by simp only[z8A]<;>omega)
  have I1:Inv X pins σ H {s with heap:=h'}:=I.kept (t':=s.toks) kp
  have I2:Inv X pins σ (upd H h'.objs.size (.tup ys)) {s with heap:=h'.push {cls:=.type "tuple",data:=.seq its.toArray}}:=
   I1.laid (t':=s.toks) (λb o e=>z8i _ e) (z8n _) (show ObjOk X.prog X.w _ _ _ (.tup ys) from ⟨hz,its,r',zfJ _ _⟩)
  exact⟨.ref h'.objs.size,_,I2,rfl,q _ (I1.hok.fresh (z8n _))⟩
 ·obtain⟨its,r',pl,hz⟩:=I.tuple hq
  exact call_tuple_same pl ⟨.ref p,H,I,rfl,q⟩
def tyV (K:z8o)(T:String)(x:V)(H:Hp):Prop:=match x with
 |.str _=>T="str"
 |.int _=>T="int"
 |.ref p=>(T="list"/\∃xs,SqL K H p xs)\/(T="tuple"/\∃o,K.lookup p=some o/\o.cls=.type "tuple"/\o.dict=none)\/
   (T="dict"/\((∃kvs,H p=some (.dK kvs))\/∃kvs,H p=some (.dT kvs)))\/(T="set"/\∃S n,H p=some (.set S n))
 |_=>False
theorem z4O{pins:List (Addr×Obj)}{σ:St}{H:Hp}{s:z8k}{T:String}{x:V}{v:Value}(I:Inv X pins σ H s)(r:RelV x v)(ty:tyV X.K T x H) :
  s.TypeIs v T/\∀a,v=.ref a->∃ob,s.heap.get? a=some ob/\ob.dict=none:=by
 cases x with
 |str z=>
  obtain⟨t,rfl⟩:=r
  cases (show T="str" from ty)
  exact⟨zf5 s z t,λ_ e=>nomatch e⟩
 |int i=>
  obtain⟨t,rfl⟩:=r
  cases (show T="int" from ty)
  exact⟨zf6 s i t,λ_ e=>nomatch e⟩
 |ref p=>
  cases r
  rcases ty with⟨rfl,xs,hq⟩|⟨rfl,o,hk,hc,hd⟩|⟨rfl,hk⟩|⟨rfl,S,n,hk⟩
  ·obtain⟨its,_,pl,_⟩:=I.list hq
   refine⟨pl.isList.typeIs,λa e=>?_⟩
   cases e
   obtain⟨o,n,e,c,hd,_⟩:=pl
   exact⟨o,e,hd⟩
  ·refine⟨⟨o,I.kIn p o hk,hc⟩,λa e=>?_⟩
   cases e
   exact⟨o,I.kIn _ o hk,hd⟩
  ·have z:∃o,s.heap.get? p=some o/\o.ExactDict:=by
    rcases hk with⟨kvs,hk⟩|⟨kvs,hk⟩
    ·obtain⟨_,_,_,_,o,_,_,e,ex,_⟩:=I.hok p _ hk
     exact⟨o,e,ex⟩
    ·obtain⟨_,_,_,_,o,_,_,e,ex,_⟩:=I.hok p _ hk
     exact⟨o,e,ex⟩
   obtain⟨o,e,ex⟩:=z
   refine⟨⟨o,e,ex.1⟩,λa e2=>?_⟩
   cases e2
   exact⟨o,e,ex.2.1⟩
  ·obtain⟨o,_,_,_,e,ex,_⟩:=I.hok p _ hk
   refine⟨⟨o,e,ex.1⟩,λa e2=>?_⟩
   cases e2
   exact⟨o,e,ex.2.1⟩
 |_=>exact z8Q ty
def tBM (K:z8o)(T:String)(r:V->List V->Hp->VK->Prop)(to:TE)(t:TA):TE:=λσ H Q=>to σ H λx H1=>tyV K T x H1/\t σ H1 λxs H2=>r x xs H2 Q
variable {o e:Expr}{es:List Expr}{to:TE}{t:TA}{name:Str}{apos cpos:Pos}{T id:String}{r:V->List V->Hp->VK->Prop}
theorem Km (pa:PlainAttrs T) (slot:Slot T name id) (hty:typeOf (.builtin id)=pure (.type "method_descriptor")) (hm:MtR X id r) (ho:PE X o to) (ha:PA X (e::es) t)
  (hbase:zaD o name X.env (eval o X.env)=eval o X.env:=by rfl)
  (hfew:((zaw cpos (z96 (e::es) X.env)).all (λx=>!x.1)&&(zbv cpos (zat [] X.env)).all (λx=>x.1.isSome)
   &&decide ((e::es).length+([]:List zaU).length+(if ([]:List zaU).isEmpty then 0 else 1)<30))=true:=by rfl)
  (hline:(apos.endLine == cpos.line)=true:=by rfl) (hs:z96 (e::es) X.env=(false,eval e X.env)::z96 es X.env:=by rfl) (hplain:(zaw cpos (z96 es X.env)).any (·.1)=false:=by rfl) :
  PE X (.Call (.Attribute o name apos) (e::es) [] cpos) (tBM X.K T r to t):=by
 intro pins s σ H Q I h
 refine wpAny_Call_method_late hbase hfew hline rfl (thn (ho pins s σ H _ I h) λv s1 ⟨x,H1,I1,r1,ty,q1⟩=>?_)
 obtain⟨h1,h2⟩:=z4O I1 r1 ty
 refine⟨T,id,pa,slot,hty,h1,h2,?_⟩
 have hA:=ha cpos pins s1 σ H1 _ I1 q1
 rw[hs] at hA ⊢
 refine zcO (by show (false || (zaw cpos (z96 es X.env)).any (·.1))=false;rw[hplain]<;>rfl) (zaP ?_)
 exact thn hA λus s2 ⟨vs,H2,I2,r2,q2⟩=>hm pins s2 σ H2 x vs v us Q I2 r1 r2 q2
end
end L2
namespace L2
open PySem PySem.Spec PyProof.Rows
def MtM (X:Cx)(id:String)(r:V->List V->Hp->VK->Prop):Prop:=
 ∀(pins:List (Addr×Obj)) (s:z8k) (σ:St) (H:Hp) (x:V) (xs:List V) (v:Value) (us:List Value) (Q:VK),Inv X pins σ H s->RelV x v->Vals xs us->r x xs H Q->
  z8t (z8u X.prog X.w) X.A (call (.builtin id) (v::us)) (EP X pins σ Q) X.xe s
theorem Vals.one:∀{x:V} {us:List Value},Vals [x] us->∃u,us=[u]/\RelV x u
 |_,_,.cons r .nil=>⟨_,rfl,r⟩
theorem Vals.rep{xs:List V}{us:List Value}(h:Vals xs us):∀k:Nat,Vals (z8P k xs).flatten (z8P k us).flatten
 |0=>.nil
 |k+1=>by
  rw[z9A,z9A,zad,zad]
  exact Vals.append h (Vals.rep h k)
theorem foldl_rep(its:List Value):∀(k:Nat) (acc:List Value),
  zf7 (λx1 x2=>x1++x2) acc.toArray (z8P k its.toArray)=(acc++(z8P k its).flatten).toArray
 |0,acc=>by simp
 |k+1,acc=>by
  have e:acc.toArray++its.toArray=(acc++its).toArray:=by simp
  have e2:(acc++its)++(z8P k its).flatten=acc++(z8P (k+1) its).flatten:=by
   rw[z9A,zad,zec]
  rw[←e2,←foldl_rep its k (acc++its),←e,z9A,List.foldl_cons]
section
variable {X:Cx}{pins:List (Addr×Obj)}{σ:St}{H:Hp}{s:Shared}{l b:Addr}{xs ys zs:List V}
theorem Inv.lset{its its':List Value}{n:Nat}{f:Array Value->Array Value}{t':Nat}(I:Inv X pins σ H s)(hH:H l=some (.lst xs))
  (e:s.heap.get? l=some {cls:=.type "list",data:=.seq its.toArray n}) (hf:f its.toArray=its'.toArray) (hv:Vals ys its') (hz:ys.length<=sizeLine) :
  Inv X pins σ (upd H l (.lst ys)) {s with heap:=s.heap.update l (z93 f),toks:=t'}:=by
 have q:=PySem.IsL.update e f
 rw[hf] at q
 refine I.write (x:=l) (e:=l) (by rw[hH];exact trivial) (.inl rfl) (λb' u hb hu=>(z9v s.heap (z93 f) (z9r hb)).trans hu) ⟨_,q⟩ ?_
 exact⟨hz,its',_,hv,q⟩
theorem Inv.lnew{its:List Value}{t':Nat}(I:Inv X pins σ H s)(hv:Vals ys its)(hz:ys.length<=sizeLine) :
  Inv X pins σ (upd H s.heap.objs.size (.lst ys)) {s with heap:=s.heap.push {cls:=.type "list",data:=.seq its.toArray},toks:=t'}:=
 I.laid (λ_ _ q=>z8i _ q) (z8n _) ⟨hz,its,0,hv,z8K _ rfl⟩
theorem Inv.fresh(I:Inv X pins σ H s):H s.heap.objs.size=none:=I.hok.fresh (z8n _)
theorem Inv.lstM(I:Inv X pins σ H s)(hH:H l=some (.lst xs)):xs.length<=sizeLine/\∃(its:List Value) (n:Nat),Vals xs its/\xs.length=its.length/\s.heap.get? l=some {cls:=.type "list",data:=.seq its.toArray n}:=by
 obtain⟨z,its,n,r,e⟩:=I.hok l _ hH
 exact⟨z,its,n,r,r.length,e⟩
theorem WX{n:Nat}(h:n<=sizeLine):zal n=false:=by
 unfold zal
 exact decide_eq_false (by omega)
end
section
variable {X:Cx}
def z1l:V->List V->Hp->VK->Prop:=λx vs H Q=>∃l xs y,x=.ref l/\vs=[y]/\H l=some (.lst xs)/\xs.length<sizeLine/\Q .non (upd H l (.lst (xs++[y])))
theorem Qb:MtM X "list.append" z1l:=by
 intro pins s σ H x vs v us Q I rx rv h
 obtain⟨l,xs,y,rfl,rfl,hH,hz,q⟩:=h
 cases rx
 obtain⟨u,rfl,ru⟩:=rv.one
 obtain⟨z,its,n,r,hl,e⟩:=I.lstM hH
 refine zbW F.slot_list_append ⟨_,e,rfl⟩ F.entry_list_append (F.args_list_append_2 _ _) (PySem.list_append l its.toArray n u (by rw[z8A];omega)) ⟨e,?_⟩
 refine⟨.non,_,I.lset (its':=its++[u]) hH e (by simp) (r.append (.cons ru .nil)) ?_,rfl,q⟩
 rw[z8Z,zaG]
 omega
theorem len_rep{α:Type}(xs:List α)(k:Nat):(z8P k xs).flatten.length=k * xs.length:=by
 induction k with
 |zero=>simp
 |succ k ih=>rw[z9A,zad,z8Z,ih,Nat.succ_mul,Nat.add_comm]
end
end L2
namespace Att
open PySem PySem.W PySem.Calls PyProof.Rows
theorem ym{P:Params}{h:Heap}:∀(ns:List Int) (vs:List Value),WellAll P h vs (ns.map zgc)->z9m vs ns:=by
 intro ns
 induction ns with
 |nil=>
  intro vs w
  rw[zea] at w
  cases w
  exact .nil
 |cons n ns ih=>
  intro vs w
  rw[z8R] at w
  cases w with
  |cons a b=>
   cases a
   exact .cons _ _ (ih _ b)
theorem Xm{l:zeT}{n:Nat}(hn:l.most=some n){P:Params}{h:Heap}{args:List WData}{vals:List Value}
  (hpre:l.row.toRowW.claim.pre args=true) (hwl:WellAll P h vals args) :
  ∃a vs ns,vals=[z8J a]/\args=[WData.list (ns.map zgc)]/\h.get? a=some {cls:=.type "list",data:=.seq vs.toArray}/\z9m vs ns/\ns.length<=n:=by
 have hsh:WShape.hasAll [] args [.list .int]=true:=(pre_splitW hpre).1
 have hc:l.pre.holds [] {args:=args}=true:=(pre_splitW hpre).2
 obtain⟨d,r,rfl,h1,h2⟩:=hasAllW_cons hsh
 obtain rfl:=hasAllW_nil h2
 obtain⟨xs,rfl,h3⟩:=hasW_list h1
 obtain⟨ns,rfl⟩:=items_int h3
 have hlen:ns.length<=n:=by
  unfold OpenLaw.pre at hc
  have h4:(WTm.not (.lt (.lit (.int (n:Int))) (.len (.arg 0)))).holds [] {args:=[.list (ns.map .int)]}=true:=by
   have h4:=(holds_andW hc).1
   rw[hn] at h4
   exact h4
  have h5:=condW_of h4 (w_not (w_lt w_lit (w_len_list (w_arg rfl))))
  rw[z8B] at h5
  refine Nat.le_of_not_lt λq=>?_
  have q':(n:Int)<((ns.length:Nat):Int):=by omega
  first
   |(rw[decide_eq_true q'] at h5;exact absurd h5 (by decide))
   |(simp at h5;omega)
 cases hwl with
 |cons w1 w2=>
  cases w2
  cases w1 with
  |list ho hall=>exact⟨_,_,ns,rfl,rfl,ho,ym ns _ hall,hlen⟩
theorem XX(l:zeT)(args:List WData):l.row.toRowW.claim.post args (.bool true) args=true:=
 postW_of (r:=l.row.toRowW) (X:=(true == true))
  (show zg6 [] (.bool true) .bool=true by first|rfl|decide|simp[zg6,WShape.arms,WShape.armsAll])
  (show (WTm.eq .res (.lit (.bool true))).value [] {args:=args,res:=some (.bool true),after:=args}=some (.bool (true == true)) from w_eq_bool (w_res rfl) w_lit) rfl
theorem attach_call{l:zeT}{n:Nat}{q:z91}{loose:List Str}{XP:(Str->Option Value)->Heap->Prop}{YP:z9c->Heap->Prop}{d:DefRec}
  (hn:l.most=some n) (hdf:d.params.defaults=[])
  (call:∀(w:z9c) (s₀ s₁:z8k) (mg mb:Str->Option Value) (fa:Addr) (o:Obj) (pm cd doc:Value) (a:Addr) (vs:List Value) (ns:List Int),
   Ground q loose [] XP w s₀ mg mb s₁.heap->YP w s₁.heap->
   s₁.heap.get? fa=some o->o.data=.func (docDef d.name d.params d.body d.scope pm cd doc)->s₁.heap.CodeRec cd d.name->mg d.name=some (.ref fa)->
   s₁.heap.get? a=some {cls:=.type "list",data:=.seq vs.toArray}->z9m vs ns->ns.length<=n->s₁.gens=#[]->
   zaK (z8u l.prog w) zeU (.call (.ref fa) ⟨[.ref a],[]⟩) (λr s'=>r=.ok (.ret (.bool true))/\OldK s₁.heap s'.heap/\s'.os=s₁.os/\zc8 s'.gens) s₁) :
  WalkO q loose XP YP l.row.toRowW d [] (λf vs=>zg7 f vs):=by
 intro w s₀ s₁ mg mb G Y fa o pm cd doc dV kV ho hd hcd hD hmg hg args vals as hpre hlay hrd hwl hlo
 obtain rfl:dV=.none:=Dflts.none hD hdf
 obtain rfl:kV=.none:=Dflts.noKw hD
 obtain⟨a,vs,ns,rfl,rfl,hobj,hints,hlen⟩:=Xm hn hpre hwl
 refine enter_call (z9H (call w s₀ s₁ mg mb fa o pm cd doc a vs ns G Y ho (fd_plain hd) hcd hmg hobj hints hlen hg) λr s' hq=>?_)
 obtain⟨rfl,h2,h3,h4⟩:=hq
 exact⟨.inl ⟨.bool true,.bool true,[],rfl,λ_=>rfl,.bool true,XX l _,λ_=>⟨zgb,λ_ hm=>(nomatch hm)⟩⟩,h2,h3,h4⟩
section
variable {prog:Program}{w:World}{A:Around}{E:Value->Shared->Prop}{s:Shared}{K:Frag}
def ledger(h:Heap)(L d:Addr):List (Addr×Obj):=(z9i h.objs.size).filterMap λa=>if a=L\/a=d then none else (h.get? a).map λo=>(a,o)
end
end Att
namespace L2
open PySem PySem.Spec PyProof.Rows
theorem vals_ints:∀{vs:List Value} {ns:List Int},z9m vs ns->Vals (ns.map V.int) vs
 |_,_,.nil=>.nil
 |_,_,.cons n t h=>.cons ⟨t,rfl⟩ (vals_ints h)
end L2
namespace L2
open PySem PySem.Spec PyProof.Rows
noncomputable abbrev KOf{K:z8o}{h:Heap}(_:K.In h):z8o:=K
end L2
namespace L2
open PySem PySem.Spec PyProof.Rows
noncomputable def inClass(s:Stmt)(j:Nat):Stmt:=match s with
 |.ClassDef _ _ _ body _ _ _ _ _ _ _=>body.getD j (.Pass ⟨0,0,0,0⟩)
 |_=>.Pass ⟨0,0,0,0⟩
noncomputable def zD(s:Stmt):Arguments:=match s with
 |.FunctionDef _ a _ _ _ _ _ _ _ _=>a
 |_=>{posonlyargs:=[],args:=[],vararg:=none,kwonlyargs:=[],kw_defaults:=[],kwarg:=none,defaults:=[]}
noncomputable def z5(s:Stmt):List Stmt:=match s with
 |.FunctionDef _ _ b _ _ _ _ _ _ _=>b
 |_=>[]
noncomputable def zp(s:Stmt):Scope:=match s with
 |.FunctionDef _ _ _ _ _ _ sc _ _ _=>sc
 |_=>{kind:=.function,names:=[],isGenerator:=false,isCoroutine:=false}
abbrev E0:XK:=λ_ _ _=>False
structure Fun(K:PySem.W.Frag)(x qual:Str)(st:Stmt)(f:Addr)(fd:FuncData):Prop where
 ex:∃(oc:Value) (od:Option Addr) (kV doc pm:Value) (an:Option Addr) (cdv ct:Value) (osl:Array (Option Value)),
  fd=z9u x qual (zD st) (z5 st) (zp st) .none kV doc pm an cdv ct/\K.lookup f=some ⟨oc,od,.func fd,osl⟩/\zaO K cdv qual=true
 kp:zao K (.ref f)=true
section
variable {P:Program}{w:World}{K:PySem.W.Frag}{mg:Str->Option Value}{base:Heap}
theorem Fun.binds{x qual:Str}{st:Stmt}{f:Addr}{fd:z9t}{ps:List Str}(F:Fun K x qual st f fd)
  (h:∀(kV doc pm:Value) (an:Option Addr) (cdv ct:Value) (us:List Value),us.length=ps.length->zct (z9u x qual (zD st) (z5 st) (zp st) .none kV doc pm an cdv ct) ⟨us,[]⟩=pure (ps.zip us)):Binds K fd ps []:=by
 obtain⟨oc,od,kV,doc,pm,an,cdv,ct,osl,rfl,lk,hcd⟩:=F.ex
 exact .all (h kV doc pm an cdv ct)
theorem jR{x qual:Str}{st:Stmt}{f:Addr}{oc:Value}{od an:Option Addr}{osl:Array (Option Value)}{kV doc pm cdv ct:Value}(l:K.lookup f=some ⟨oc,od,.func (z9u x qual (zD st) (z5 st) (zp st) .none kV doc pm an cdv ct),osl⟩)
  (c:zaO K cdv qual=true) (k:zao K (.ref f)=true):Fun K x qual st f (z9u x qual (zD st) (z5 st) (zp st) .none kV doc pm an cdv ct):=⟨⟨oc,od,kV,doc,pm,an,cdv,ct,osl,rfl,l,c⟩,k⟩
end
def xN (H H':Hp):Prop:=∀b o,H b=some o->H' b=some o
end L2
end
namespace NH
open PySem
def z7Q (h:Heap)(x:Addr)(cls:Value)(d:Option Addr):Prop:=∃oe vs a0,h.get? x=some oe/\(oe.cls=cls/\oe.dict=d)/\oe.data=.fields vs/\vs[0]?=some a0/\vs[1]?=some .none
inductive XTr(h:Heap)(x T:Addr)(cls:Value)(d:Option Addr)(fl:Value):Prop where
 |mk (oe:Obj) (vs:Array Value) (a0:Value) (oT:Obj) (ts:Array Value) (h1:h.get? x=some oe) (h2:oe.cls=cls/\oe.dict=d) (h3:oe.data=.fields vs) (h4:vs[0]?=some a0) (h5:vs[1]?=some (.ref T)) (h6:T≠x) (h7:h.get? T=some oT) (h8:oT.data=.fields ts) (h9:ts[3]?=some fl)
def z7e (h:Heap)(x:Addr)(cls:Value)(d:Option Addr):Option Addr->Value->Prop
 |none,fl=>z7Q h x cls d/\fl=.none
 |some T,fl=>XTr h x T cls d fl
structure XMove(fs:List Addr)(x:Addr)(T T':Option Addr)(h h':Heap):Prop where
 keep:∀b o,h.get? b=some o->b∉fs->b≠x->b∉T.toList->h'.get? b=some o
 slot:∀b o,h.get? b=some o->b∈fs->b≠x->b∉T.toList->∃sl,h'.get? b=some {o with slots:=sl}
 newT:∀t∈T'.toList,t∈T.toList\/h.objs.size<=t
theorem XMove.refl(fs:List Addr)(x:Addr)(T:Option Addr)(h:Heap):XMove fs x T T h h:=⟨λ_ _ e _ _ _=>e,λ_ o e _ _ _=>⟨o.slots,e⟩,λ_ ht=>.inl ht⟩
theorem uF(o:Obj)(f:Array Value->Array Value):(z9X f o).dict=o.dict:=by
 obtain⟨c,d,dt,sl⟩:=o
 cases dt<;>rfl
section
variable {M:Model}{A:Around}{E:Value->Shared->Prop}{s:Shared}
theorem UI{base:Heap}{env e0:Env}{outer:List Env}{L:Addr}{Q:Value->z8k->Prop}(hfr:A.frames=some (e0::outer))(hl:s.heap.FunFrames base (e0::outer))
  (hf:env.frame=some L) (h0:e0.frame=some L) (h:∀h',Heap.SlotsOnly ((e0::outer).filterMap (·.frame)) s.heap h'->Q (.ref L) {s with heap:=h'}):z8t M A (frameOf env) Q E s:=by
 unfold frameOf
 refine z8g (wpAny_frameEnvs hfr ?_)
 have hw:((e0::outer).dropWhile λy=>y.frame != env.frame)=e0::outer:=by simp[List.dropWhile,hf,h0]
 rw[hw]
 unfold frameObject
 refine z8g (z8g (wpAny_readyFrames_fun hl λh1 q1=>z8q ?_))
 rw[h0]
 exact z8q (h h1 q1)
theorem yE{base:Heap}{env e0:Env}{outer:List Env}{L x:Addr}{cls head:Value}{d T:Option Addr}{had:Bool}{oe:Obj}{vs:Array Value}{a0:Value}{Q:Unit->z8k->Prop}
  (hfr:A.frames=some (e0::outer)) (hl:s.heap.FunFrames base (e0::outer)) (hf:env.frame=some L) (h0:e0.frame=some L)
  (ho:s.heap.get? x=some oe) (hc:oe.cls=cls/\oe.dict=d) (hd:oe.data=.fields vs) (hv0:vs[0]?=some a0) (hsz:1<vs.size)
  (h:∀h' t,XTr h' x t cls d (z9g L)->XMove ((e0::outer).filterMap (·.frame)) x T (some t) s.heap h'->s.heap.objs.size<=t->Q () {s with heap:=h'}) :
  z8t M A (do let a ←frameOf env;let pl ←entryPlaceOf L had;let b ←zdk head a .none (z9g L) .none pl;setField (.ref x) 1 b) Q E s:=by
 have nin:x∉(e0::outer).filterMap (·.frame):=λhm=>by
  obtain⟨_,o,ho',nf⟩:=hl.mem hm
  rw[ho] at ho';cases ho';exact nf vs hd
 refine z8g (UI hfr hl hf h0 λh1 q1=>?_)
 refine z8g (wpAny_entryPlaceOf λpl hpl=>?_)
 unfold zdk newFields
 refine z8g (z9N ?_ (hpl.sizeOk5 _ _ _ _ _))
 have e1:h1.get? x=some oe:=(q1.2.1 x nin).trans ho
 generalize hob:({cls:=.type "traceback",dict:=none,data:=.fields ([head,.ref L,.none,z9g L,.none]++(if pl.isEmpty then z8P 6 z9o else pl)).toArray}:Obj)=ob
 have e2:=z8i (h:=h1) ob e1
 have hdata:ob.data=.fields ([head,.ref L,.none,z9g L,.none]++(if pl.isEmpty then z8P 6 z9o else pl)).toArray:=by rw[←hob]
 have hfree:ob.isFreed=false:=by rw[←hob];rfl
 refine zbX e2 hd hsz ?_
 have tx:h1.objs.size≠x:=zax (z8x e1)
 have d3:=zdF hd (·.setIfInBounds 1 (z8J h1.objs.size))
 have e3:=zaH (z9X (·.setIfInBounds 1 (z8J h1.objs.size))) e2 (zc_ d3)
 have other:∀b o,b≠x->h1.get? b=some o->((h1.push ob).update x (z9X (·.setIfInBounds 1 (z8J h1.objs.size)))).get? b=some o:=λb o hb e=>by
  rw[z9v _ _ (z9r hb)];exact z8i _ e
 refine h _ h1.objs.size ⟨_,_,a0,ob,_,e3,⟨(Obj.cls_mapFields _ _).trans hc.1,(uF _ _).trans hc.2⟩,d3,by rw[Array.getElem?_setIfInBounds_ne (by decide)];exact hv0,by simp[hsz],tx,?_,hdata,?_⟩ ⟨λb o e nb nx _=>?_,λb o e _ nx _=>?_,λt ht=>.inr ?_⟩ (zaT q1.1.symm)
 ·rw[z9v _ _ (z9r tx)];exact z8K _ hfree
 ·first|(simp;done)|(rcases hpl with rfl|⟨_,_,_,_,_,_,_,rfl⟩<;>simp)
 ·exact other b o nx ((q1.2.1 b nb).trans e)
 ·obtain⟨sl,e'⟩:=q1.2.2 b o e
  exact⟨sl,other b _ nx e'⟩
 ·have:t=h1.objs.size:=by simpa using ht
  rw[this];exact zaT q1.1.symm
theorem z0r{base:Heap}{env e0:Env}{outer:List Env}{L x:Addr}{cls:Value}{d T:Option Addr}{fl:Value}{Q:Unit->z8k->Prop}
  (hfr:A.frames=some (e0::outer)) (hl:s.heap.FunFrames base (e0::outer)) (hf:env.frame=some L) (h0:e0.frame=some L) (hx:z7e s.heap x cls d T fl) (hfl:fl=.none\/fl=z9g L)
  (h:∀h' t,XTr h' x t cls d (z9g L)->XMove ((e0::outer).filterMap (·.frame)) x T (some t) s.heap h'->Q () {s with heap:=h'}):z8t M A (zey (.ref x) env) Q E s:=by
 unfold zey
 simp only[hf]
 cases T with
 |none=>
  obtain⟨⟨oe,vs,a0,ho,hc,hd,hv0,hv1⟩,_⟩:=hx
  refine z8g (z9W ho hd hv1 ?_)
  rw[if_neg (by decide)]
  exact yE (T:=none) hfr hl hf h0 ho hc hd hv0 (z9w.mp hv1).1 λh' t a b _=>h h' t a b
 |some T=>
  obtain⟨oe,vs,a0,oT,ts,ho,hc,hd,hv0,hv1,hT,hoT,hdT,h3⟩:=hx
  refine z8g (z9W ho hd hv1 ?_)
  rw[if_pos (show (z8J T != z9o)=true from by simp)]
  refine z8g (z9W hoT hdT h3 ?_)
  by_cases hq:fl=z9g L
  ·subst hq
   rw[if_pos (show (z9g L == z9g L)=true from by simp)]
   exact z8q (h s.heap T ⟨oe,vs,a0,oT,ts,ho,hc,hd,hv0,hv1,hT,hoT,hdT,h3⟩ (XMove.refl _ _ _ _))
  ·obtain rfl:fl=.none:=hfl.resolve_right hq
   rw[if_neg (show ¬((z9o == z9g L)=true) from by simp[z9g])]
   refine z8g (zbX hoT hdT (z9w.mp h3).1 ?_)
   have oth:∀b,b≠T->(s.heap.update T (z9X (·.setIfInBounds 3 z9o))).get? b=s.heap.get? b:=λb hb=>z9v _ _ (z9r hb)
   have fr:∀b∈(e0::outer).filterMap (·.frame),b≠T:=λb hb z=>by
    obtain⟨_,o,ho',nf⟩:=hl.mem hb
    rw[z,hoT] at ho';cases ho';exact nf ts hdT
   refine yE (T:=some T) (s:={s with heap:=s.heap.update T (z9X (·.setIfInBounds 3 z9o))}) (base:=base) hfr (hl.of_keeps λb o e nf=>⟨o,(oth b λz=>?_).trans e,rfl⟩) hf h0 ((oth x (z9r hT)).trans ho) hc hd hv0 (z9w.mp hv1).1 λh' t a b c=>h h' t a ⟨?_,?_,?_⟩
   ·rw[z,hoT] at e;cases e;exact nf ts hdT
   ·exact λd o e n1 n2 n3=>b.keep d o ((oth d λz=>n3 (by simp[z])).trans e) n1 n2 n3
   ·exact λd o e n1 n2 n3=>b.slot d o ((oth d λz=>n3 (by simp[z])).trans e) n1 n2 n3
   ·intro t' ht'
    rcases b.newT t' ht' with z|z
    ·exact .inl z
    ·refine .inr (z8G (zaT ?_) z)
     exact (Heap.size_after_update ..).symm
theorem Jd{x T:Addr}{cls fl:Value}{d fr:Option Addr}{fs:List Addr}{Q:Unit->z8k->Prop}(hx:XTr s.heap x T cls d fl)
  (h:∀h',XTr h' x T cls d (fr.elim .none λf=>z9g f)->XMove fs x (some T) (some T) s.heap h'->Q () {s with heap:=h'}):z8t M A (zcx (.ref x) fr) Q E s:=by
 obtain⟨oe,vs,a0,oT,ts,ho,hc,hd,hv0,hv1,hT,hoT,hdT,h3⟩:=hx
 have sz:3<ts.size:=(z9w.mp h3).1
 unfold zcx
 refine z8g (z9W ho hd hv1 ?_)
 rw[if_pos (show (z8J T != z9o)=true from by simp)]
 refine zbX hoT hdT sz ?_
 have oth:∀b,b≠T->(s.heap.update T (z9X (·.setIfInBounds 3 (fr.elim .none λf=>z9g f)))).get? b=s.heap.get? b:=λb hb=>z9v _ _ (z9r hb)
 have dT:=zdF hdT (·.setIfInBounds 3 (fr.elim z9o λf=>z9g f))
 exact h _ ⟨oe,vs,a0,_,_,(oth x (z9r hT)).trans ho,hc,hd,hv0,hv1,hT,zaH _ hoT (zc_ dT),dT,by simp[sz]⟩
  ⟨λb o e _ _ n=>(oth b λz=>n (by simp[z])).trans e,λb o e _ _ n=>⟨o.slots,(oth b λz=>n (by simp[z])).trans e⟩,λt ht=>.inl ht⟩
end
end NH
namespace NH
open PySem PySem.Spec PyProof.Rows L2
noncomputable abbrev St:=L2.St
theorem Q1{P:z91}{w:z9c}{H:Hp}{h:Heap}{a:Addr}{o:HO}(x:ObjOk P w H h a o):∃ob,h.get? a=some ob:=by
 cases o with
 |lst xs=>obtain⟨_,_,_,_,e⟩:=x;exact⟨_,e⟩
 |tup xs=>obtain⟨_,_,_,ob,e,_⟩:=x;exact⟨ob,e⟩
 |dK kvs=>obtain⟨_,_,_,_,o,_,_,e,_⟩:=x;exact⟨o,e⟩
 |dT kvs=>obtain⟨_,_,_,_,o,_,_,e,_⟩:=x;exact⟨o,e⟩
 |set S n=>obtain⟨o,_,_,_,e,_⟩:=x;exact⟨o,e⟩
 |ins C dx fs=>obtain⟨_,_,_,e,_⟩:=x;exact⟨_,e⟩
 |own y=>obtain⟨o,e⟩:=x;exact⟨o,e⟩
 |xd fs=>obtain⟨_,⟨o,_,_,e,_⟩,_⟩:=x;exact⟨o,e⟩
 |rng lo hi=>obtain⟨_,_,_,e⟩:=x;exact⟨_,e⟩
 |frz ob u=>obtain⟨e,_⟩:=x;exact⟨_,e⟩
 |tbl ps=>exact⟨_,(show h.get? a=some _ from x)⟩
 |met f y=>exact⟨_,(show h.get? a=some _ from x)⟩
 |ext φ=>obtain⟨_,⟨o,e⟩,_⟩:=x;exact⟨o,e⟩
structure XOk(X:Cx)(H:Hp)(b:Addr):Prop where
 free:H b=none
 loc:b≠X.env.locals
 nfs:b∉X.fs
 new:b∈X.ex\/X.s₀.heap.get? b=none
 cel:∀x c,X.env.cells.lookup x=some c->c≠b
 pin:∀p∈X.pn,p.1≠b
section
variable {X:Cx}{pins:List (Addr×Obj)}{σ:St}{H H':Hp}{s:Shared}{h':Heap}
theorem WZ(I:Inv X pins σ H s){b:Addr}(e:s.heap.get? b=none):H b=none:=by
 cases q:H b with
 |none=>rfl
 |some o=>
  obtain⟨ob,z⟩:=Q1 (I.hok b o q)
  rw[e] at z;cases z
theorem vH(I:Inv X pins σ H s){b:Addr}(e:s.heap.get? b=none):XOk X H b:=by
 refine⟨WZ I e,λz=>?_,λz=>?_,?_,λx c q z=>?_,λp hp z=>?_⟩
 ·obtain⟨m,⟨o,_,_,ho,_⟩,_⟩:=I.loc
  rw[←z,e] at ho;cases ho
 ·obtain⟨_,o,ho,_⟩:=I.funs.mem z
  rw[e] at ho;cases ho
 ·by_cases hx:b∈X.ex
  ·exact .inl hx
  ·refine .inr ?_
   cases q:X.s₀.heap.get? b with
   |none=>rfl
   |some o=>
    obtain⟨o',z⟩:=I.base.there b o q hx
    rw[e] at z;cases z
 ·obtain⟨v,o,ho,_⟩:=I.cell x c q
  rw[z,e] at ho;cases ho
 ·have:=(I.pin p (z8E _ hp)).1
  rw[z,e] at this;cases this
theorem Vk{ch:List Addr}(I:Inv X pins σ H s)(hch:∀b∈ch,XOk X H b/\∀p∈pins,p.1≠b)
  (keep:∀b o,b∉frs X.stack->b∉ch->s.heap.get? b=some o->h'.get? b=some o)
  (slot:∀b o,b∈frs X.stack->b∉ch->s.heap.get? b=some o->∃sl,h'.get? b=some {o with slots:=sl}) :
  Inv X pins σ H {s with heap:=h'}:=by
 have tr:∀b u,H b=some u->b∉ch:=λb u e z=>by rw[(hch b z).1.free] at e;cases e
 have trf:∀b u,H b=some u->b∉frs X.stack:=λb u e z=>by rw[I.stkFree b z] at e;cases e
 have any:∀b o,b∉ch->s.heap.get? b=some o->∃sl,h'.get? b=some {o with slots:=sl}:=λb o hb e=>by
  by_cases hf:b∈frs X.stack
  ·exact slot b o hf hb e
  ·exact⟨o.slots,keep b o hf hb e⟩
 have inf:∀b,b≠X.env.locals->b∉X.fs->b∉frs X.stack:=λb h1 h2 z=>(z8T.mp (I.stkSub b z)).elim h1 h2
 have nec:∀b o,X.s₀.heap.get? b=some o->b∉X.ex->b∉ch:=λb o e hx z=>by
  rcases (hch b z).1.new with q|q
  ·exact hx q
  ·rw[e] at q;cases q
 have neL:∀b o,X.s₀.heap.get? b=some o->b≠X.env.locals:=λb o e=>z8O (z8w (z8x e) I.ok.above)
 have cellK:∀x c,X.env.cells.lookup x=some c->∀v,s.heap.IsCell c v->h'.IsCell c v:=λx c e v ⟨o,ho,hd⟩=>by
  obtain⟨sl,q⟩:=any c o (λz=>(hch c z).1.cel x c e rfl) ho
  exact⟨_,q,hd⟩
 refine⟨I.ok,I.os,I.bare,⟨λb o e n hb hx=>?_,λb o e n hb hx=>?_,λb o e n hx=>I.base.free b o e n hx,λb o e hx=>?_,λb xs e=>I.base.tups b xs e,λb o xs e=>I.base.frzs b o xs e,λb ps e=>I.base.tbls b ps e⟩,?_,λx c e=>?_,I.free,λx c e=>I.freeC x c e,λp hp=>?_,λb u e=>?_,I.len⟩
 ·exact keep b o (inf b (neL b o e) hb) (nec b o e hx) (I.base.keep b o e n hb hx)
 ·obtain⟨sl,e1⟩:=I.base.slot b o e n hb hx
  obtain⟨sl',e2⟩:=any b _ (nec b o e hx) e1
  exact⟨sl',e2⟩
 ·obtain⟨o',e1⟩:=I.base.there b o e hx
  obtain⟨sl,e2⟩:=any b o' (nec b o e hx) e1
  exact⟨_,e2⟩
 ·obtain⟨m,⟨o,es,ep,ho,r⟩,hl⟩:=I.loc
  obtain⟨sl,hL⟩:=any X.env.locals o (λz=>(hch _ z).1.loc rfl) ho
  refine⟨m,⟨_,es,ep,hL,r⟩,λi x v e1 e2 e3=>?_⟩
  obtain⟨u,ru,l⟩:=hl i x v e1 e2 e3
  refine⟨u,ru,?_⟩
  rcases l with l|⟨k,c,e,z⟩
  ·exact .inl l
  ·exact .inr ⟨k,c,e,cellK x c e _ z⟩
 ·obtain⟨v,z⟩:=I.cell x c e
  exact⟨v,cellK x c e v z⟩
 ·obtain⟨e,n,ne,nf,d⟩:=I.pin p hp
  have nch:p.1∉ch:=λz=>by
   rcases z8v.mp hp with q|q
   ·exact (hch p.1 z).1.pin p q rfl
   ·exact (hch p.1 z).2 p q rfl
  exact⟨keep p.1 p.2 (inf p.1 ne nf) nch e,n,ne,nf,d⟩
 ·refine (I.hok b u e).stay (λc v hc q=>?_) (λ_ q=>q) λ_ _ q=>q
  rcases hc with z|z
  ·subst z;exact keep c v (trf c u e) (tr c u e) q
  ·exact keep c v (trf c _ z) (tr c _ z) q
structure Frm(X:Cx)(e0:Env)(out:List Env)(L:Addr):Prop where
 stk:X.stack=e0::out
 f0:e0.frame=some L
 fe:X.env.frame=some L
abbrev XW:=Value->Option Addr->St->Hp->Prop
inductive XP(X:Cx)(W:XW)(e:Value)(s:Shared):Prop where
 |mk (x:Addr) (cls:Value) (d:Option Addr) (σ:St) (H:Hp) (T:Option Addr) (fl:Value) (ee:e=.ref x) (i:Inv X [] σ H s) (ox:XOk X H x) (ot:∀t∈T.toList,XOk X H t) (r:z7e s.heap x cls d T fl) (hf:fl=.none\/∃L,X.env.frame=some L/\fl=z9g L) (w:W cls d σ H)
theorem Kb{x:Addr}{T:Option Addr}{t:Addr}(I:Inv X [] σ H s)(ox:XOk X H x)(ot:∀t∈T.toList,XOk X H t)(mv:XMove (frs X.stack) x T (some t) s.heap h') :
  Inv X [] σ H {s with heap:=h'}/\XOk X H t:=by
 refine⟨Vk (ch:=x::T.toList) I (λb hb=>⟨?_,λp hp=>absurd hp (by simp)⟩) (λb o hf hc e=>?_) (λb o hf hc e=>?_),?_⟩
 ·rcases z8T.mp hb with z|z
  ·rw[z];exact ox
  ·exact ot b z
 ·exact mv.keep b o e hf (λz=>hc (by simp[z])) (λz=>hc (z8y _ z))
 ·exact mv.slot b o e hf (λz=>hc (by simp[z])) (λz=>hc (z8y _ z))
 ·rcases mv.newT t (by simp) with z|z
  ·exact ot t z
  ·exact vH I (z9d z)
theorem yq{M:zbP}{A:z8V}{E:Value->z8k->Prop}{W:XW}{e:Value}{e0:Env}{out:List Env}{L:Addr}{Q:Unit->z8k->Prop}(F:Frm X e0 out L)(hfr:A.frames=some X.stack)(p:XP X W e s)
  (h:∀x cls d σ H T h',e=.ref x->Inv X [] σ H {s with heap:=h'}->XOk X H x->XOk X H T->XTr h' x T cls d (z9g L)->W cls d σ H->Q () {s with heap:=h'}):z8t M A (zey e X.env) Q E s:=by
 obtain⟨x,cls,d,σ,H,T,fl,rfl,I,ox,ot,hr,hfl,w⟩:=p
 have hst:=I.stack
 rw[F.stk] at hfr hst
 refine z0r hfr hst F.fe F.f0 hr (hfl.imp_right λ⟨L',e1,e2⟩=>by rw[F.fe] at e1;cases e1;exact e2) λh' t tr mv=>?_
 have mv':XMove (frs X.stack) x T (some t) s.heap h':=by rw[F.stk];exact mv
 obtain⟨I',o'⟩:=Kb I ox ot mv'
 exact h x cls d σ H t h' rfl I' ox o' tr w
theorem qP{M:zbP}{A:z8V}{E:Value->z8k->Prop}{x T:Addr}{cls fl:Value}{d fr:Option Addr}{Q:Unit->z8k->Prop}(I:Inv X [] σ H s)(ox:XOk X H x)(oT:XOk X H T)(tr:XTr s.heap x T cls d fl)
  (h:∀h',Inv X [] σ H {s with heap:=h'}->XTr h' x T cls d (fr.elim .none λf=>z9g f)->Q () {s with heap:=h'}):z8t M A (zcx (.ref x) fr) Q E s:=by
 refine Jd (fs:=frs X.stack) tr λh' tr' mv=>h h' (Kb (T:=some T) I ox (λt ht=>?_) mv).1 tr'
 have:t=T:=by simpa using ht
 rw[this];exact oT
theorem Qc{W:XW}{M:zbP}{e0:Env}{out:List Env}{L:Addr}(F:Frm X e0 out L)(hfr:X.A.frames=some X.stack):zdf M X.A X.env (XP X W):=by
 intro e s p
 unfold zeV
 refine yq F hfr p λx cls d σ H T h' ee I ox oT tr w=>?_
 subst ee
 unfold cameBackBy
 obtain⟨oe,vs,a0,oT',ts,ho,hc,hd,hv0,hv1,hT,hoT,hdT,h3⟩:=id tr
 refine z8g (z9W ho hd hv1 ?_)
 rw[if_neg (show ¬((z8J T == z9o)=true) from by simp)]
 rw[F.fe]
 have go:z8t M X.A (zcx (.ref x) (some L)) (λ_ s''=>XP X W (.ref x) s'') (XP X W) {s with heap:=h'}:=
  qP (s:={s with heap:=h'}) I ox oT tr λh2 I2 tr2=>⟨x,cls,d,σ,H,some T,z9g L,rfl,I2,ox,λt ht=>by
   have:t=T:=by simpa using ht
   rw[this];exact oT,tr2,.inr ⟨L,F.fe,rfl⟩,w⟩
 first|exact go|exact z8g (z8q go)
inductive CXP(P:Program)(w:World)(outer:List Env)(H:Hp)(s:Shared)(E:XK)(e:Value)(s':Shared):Prop where
 |mk (x T:Addr) (cls:Value) (d:Option Addr) (H':Hp) (ee:e=.ref x) (o:s'.os=s.os) (b:zc8 s'.gens) (n:Un (frs outer) [] H H' s.heap s'.heap) (k:HOk P w H' s'.heap) (h1:s.heap.get? x=none) (h2:s.heap.get? T=none) (h3:H' x=none) (h4:H' T=none) (t:XTr s'.heap x T cls d .none) (q:E cls d H')
def CX1 (P:z91)(w:z9c):CXT:=CXP P w
def wOf (E:XK):XW:=λc d _ H=>E c d H
theorem UZ{M:zbP}{E:XK}{e:Value}{e0:Env}{out:List Env}{L:Addr}{F2:Value->z8k->Prop}(F:Frm X e0 out L)(hfr:X.A.frames=some X.stack)(hex:X.ex=[])(p:XP X (wOf E) e s) :
  z8t M X.A (leaving X.env e) (λ_ s''=>CX1 X.prog X.w X.outer X.H₀ X.s₀ E e s'') F2 s:=by
 unfold leaving
 refine z8g (yq F hfr p λx cls d σ H T h' ee I ox oT tr w=>?_)
 subst ee
 refine qP (s:={s with heap:=h'}) I ox oT tr λh2 I2 tr2=>?_
 have nw:∀b,XOk X H b->X.s₀.heap.get? b=none:=λb o=>o.new.resolve_left (by rw[hex];simp)
 refine⟨x,T,cls,d,H,rfl,I2.os,I2.bare,?_,I2.hok,nw x ox,nw T oT,ox.free,oT.free,tr2,w⟩
 have:=I2.base
 rw[hex] at this
 exact this
theorem yv{E:XK}{W:XW}{e:Value}{s':z8k}(I:Inv X pins σ H s)(c:CX1 X.prog X.w X.stack H s E e s')(h:∀cls d H',E cls d H'->W cls d σ H'):XP X W e s':=by
 obtain⟨x,T,cls,d,H',rfl,os,bare,un,hok,nx,nT,fx,fT,tr,w⟩:=c
 have J:Inv X pins σ H' s':=I.call' (ch:=[]) os un hok bare λb z=>absurd z (by simp)
 have k:∀b,s.heap.get? b=none->H' b=none->XOk X H' b:=λb e f=>by
  have o:=vH I e
  exact⟨f,o.loc,o.nfs,o.new,o.cel,o.pin⟩
 refine⟨x,cls,d,σ,H',some T,.none,rfl,J.pins_of (λp hp=>absurd hp (by simp)),k x nx fx,λt ht=>?_,tr,.inl rfl,h cls d H' w⟩
 have:t=T:=by simpa using ht
 rw[this];exact k T nT fT
theorem z1M{W:XW}{x:Addr}{cls:Value}{args:List Value}{h2:Heap}(I:Inv X pins σ H s)(mk:zbg s.heap h2 x cls args)(w:W cls none σ H):XP X W (.ref x) {s with heap:=h2}:=by
 have J:Inv X pins σ H {s with heap:=h2,toks:=s.toks}:=I.kept mk.keeps
 obtain⟨t,ho,_,_⟩:=mk.there
 exact⟨x,cls,none,σ,H,none,.none,rfl,J.pins_of (λp hp=>absurd hp (by simp)),vH I mk.new,λt ht=>absurd ht (by simp),⟨⟨_,_,.ref t,ho,⟨rfl,rfl⟩,rfl,rfl,rfl⟩,rfl⟩,.inl rfl,w⟩
noncomputable abbrev Cx.pin'(X:Cx)(pins:List (Addr×Obj)):Cx:={X with pn:=X.pn++pins}
noncomputable abbrev Cx.han(X:Cx)(x:Addr):Cx:={X with A:=X.A.mark (some (.ref x)),calm:=false,xe:=λ_ _=>False}
theorem US(ok:X.Ok):(Cx.pin' X pins).Ok:=⟨ok.mod,ok.kind,ok.glob,ok.blt,ok.above,ok.inj,ok.has,ok.cab,ok.hd,ok.frames,ok.stk,ok.exf,ok.bs,ok.bsz,ok.noex,ok.exfs,ok.funs,ok.frf⟩
theorem WG(ok:(Cx.pin' X pins).Ok):X.Ok:=⟨ok.mod,ok.kind,ok.glob,ok.blt,ok.above,ok.inj,ok.has,ok.cab,ok.hd,ok.frames,ok.stk,ok.exf,ok.bs,ok.bsz,ok.noex,ok.exfs,ok.funs,ok.frf⟩
theorem z4r{x:Addr}(ok:X.Ok):(Cx.han X x).Ok:=⟨ok.mod,ok.kind,ok.glob,ok.blt,ok.above,ok.inj,ok.has,ok.cab,(λh=>by cases h),ok.frames,ok.stk,ok.exf,ok.bs,ok.bsz,ok.noex,ok.exfs,ok.funs,ok.frf⟩
theorem VB(I:Inv X pins σ H s):Inv (Cx.pin' X pins) [] σ H s:=⟨US I.ok,I.os,I.bare,I.base,I.loc,I.cell,I.free,I.freeC,λp hp=>I.pin p (by simpa using hp),I.hok,I.len⟩
theorem zW(I:Inv (Cx.pin' X pins) [] σ H s):Inv X pins σ H s:=⟨WG I.ok,I.os,I.bare,I.base,I.loc,I.cell,I.free,I.freeC,λp hp=>I.pin p (by simpa using hp),I.hok,I.len⟩
theorem Q_{x:Addr}(I:Inv X pins σ H s):Inv (Cx.han X x) pins σ H s:=⟨z4r I.ok,I.os,I.bare,I.base,I.loc,I.cell,I.free,I.freeC,I.pin,I.hok,I.len⟩
theorem xy{x:Addr}(ok:X.Ok)(I:Inv (Cx.han X x) pins σ H s):Inv X pins σ H s:=⟨ok,I.os,I.bare,I.base,I.loc,I.cell,I.free,I.freeC,I.pin,I.hok,I.len⟩
theorem xr{E:Value->z8k->Prop}{W:XW}{e:Value}(p:XP (X.wish E) W e s):XP X W e s:=by
 obtain⟨x,cls,d,σ,H,T,fl,a,I,b,c,r,r2,r3⟩:=p
 exact⟨x,cls,d,σ,H,T,fl,a,I.unwish,⟨b.free,b.loc,b.nfs,b.new,b.cel,b.pin⟩,λt ht=>let b:=c t ht;⟨b.free,b.loc,b.nfs,b.new,b.cel,b.pin⟩,r,r2,r3⟩
end
end NH
namespace NH
open PySem
inductive T where
 |non|bl (b:Bool)|int (i:Int)|str (x:Str)
 |tup (ts:List T)|lst (ts:List T)|obj (c:Nat) (fs:List (Nat×T))
 |mut (i:Nat)
 |exc (c:Nat) (fs:List (Nat×T))
 |dic (kvs:List (L2.Key×T))
 |clo (j:Nat) (cs:List T)
inductive MO where
 |lst (ts:List T)|obj (c:Nat) (fs:List (Nat×T))|dic (kvs:List (L2.Key×T))
 |tab (j:Nat)
noncomputable abbrev z2C:MO->Bool
 |.tab _=>true
 |_=>false
noncomputable abbrev Mem:=List MO
noncomputable abbrev Sl:=List (Option T)
mutual
def vU:T->Bool
 |.mut _=>false
 |.tup ts=>u9 ts
 |.lst ts=>u9 ts
 |.obj _ fs=>xV fs
 |.exc _ fs=>xV fs
 |.dic kvs=>Kn kvs
 |.clo _ cs=>u9 cs
 |_=>true
def u9:List T->Bool
 |[]=>true
 |t::r=>vU t&&u9 r
def xV:List (Nat×T)->Bool
 |[]=>true
 |p::r=>vU p.2&&xV r
def Kn:List (L2.Key×T)->Bool
 |[]=>true
 |p::r=>vU p.2&&Kn r
end
abbrev Xp:=Nat->List (Nat×T)->Mem->Prop
abbrev RE(β:Type):=(β->Mem->Prop)->Xp->Prop
abbrev RE.ok{β:Type}(a:β)(μ:Mem):RE β:=λK _=>K a μ
abbrev RE.st{β:Type}:RE β:=λ_ _=>False
abbrev RE.bind{β γ:Type}(r:RE γ)(k:γ->Mem->RE β):RE β:=λK Z=>r (λa μ=>k a μ K Z) Z
abbrev RE.grd{β:Type}(p:Prop)(r:RE β):RE β:=λK Z=>p/\r K Z
abbrev RE.som{β γ:Type}(o:Option γ)(k:γ->RE β):RE β:=λK Z=>∃a,o=some a/\k a K Z
@[reducible] noncomputable def brW(b:Bool)(A B:Prop):Prop:=match b with
 |true=>A
 |false=>B
abbrev RE.br{β:Type}(b:Bool)(r s:RE β):RE β:=λK Z=>brW b (r K Z) (s K Z)
structure En where
 nx:Sl->Mem->Prop
 rt:T->Mem->Prop
 bk:Sl->Mem->Prop
 ct:Sl->Mem->Prop
 ex:Nat->List (Nat×T)->Sl->Mem->Prop
noncomputable abbrev Out:=En->Prop
abbrev En.nxt(E:En)(f:Sl->Mem->Prop):En:=⟨f,E.rt,E.bk,E.ct,E.ex⟩
abbrev En.turn(E:En)(N:Sl->Mem->Prop):En:=⟨N,E.rt,E.nx,N,E.ex⟩
abbrev En.tri(E:En)(X:Nat->List (Nat×T)->Sl->Mem->Prop):En:=⟨E.nx,E.rt,E.bk,E.ct,X⟩
abbrev En.fn(K:T->Mem->Prop)(Z:Xp):En:=⟨λ_ μ1=>K .non μ1,K,λ_ _=>False,λ_ _=>False,λc fs _ μ1=>Z c fs μ1⟩
abbrev Out.nx(τ:Sl)(μ:Mem):Out:=λE=>E.nx τ μ
abbrev Out.rt(t:T)(μ:Mem):Out:=λE=>E.rt t μ
abbrev Out.ex(c:Nat)(fs:List (Nat×T))(τ:Sl)(μ:Mem):Out:=λE=>E.ex c fs τ μ
abbrev Out.st:Out:=λ_=>False
abbrev Out.grd(p:Prop)(o:Out):Out:=λE=>p/\o E
abbrev Out.som{γ:Type}(o:Option γ)(k:γ->Out):Out:=λE=>∃a,o=some a/\k a E
abbrev Out.br(b:Bool)(r s:Out):Out:=λE=>brW b (r E) (s E)
abbrev Out.seq(o:Out)(f:Sl->Mem->Out):Out:=λE=>o (E.nxt λτ μ=>f τ μ E)
abbrev RE.out{β:Type}(r:RE β)(τ:Sl)(f:β->Mem->Out):Out:=λE=>r (λa μ=>f a μ E) (λc fs μ=>E.ex c fs τ μ)
abbrev Fn:=List T->Mem->RE T
abbrev De:=Sl->Mem->RE T
abbrev Dt:=Sl->Mem->RE Bool
abbrev Da:=Sl->Mem->RE (List T)
abbrev Ds:=Sl->Mem->Out
abbrev RI:=(List T->(Mem->Prop)->Mem->Prop)->Xp->Prop
abbrev RI.ok(xs:List T)(o:Mem->Prop)(μ:Mem):RI:=λK _=>K xs o μ
abbrev RI.st:RI:=λ_ _=>False
abbrev RI.grd(p:Prop)(r:RI):RI:=λK Z=>p/\r K Z
abbrev RI.go{β:Type}(r:RI)(k:List T->(Mem->Prop)->Mem->RE β):RE β:=λK Z=>r (λxs o μ=>k xs o μ K Z) Z
abbrev RI.out(r:RI)(τ:Sl)(f:List T->(Mem->Prop)->Mem->Out):Out:=λE=>r (λxs o μ=>f xs o μ E) (λc fs μ=>E.ex c fs τ μ)
abbrev RI.re(r:RI):RE (List T×(Mem->Prop)):=λK Z=>r (λxs o μ=>K (xs,o) μ) Z
abbrev RE.it{β:Type}(r:RE β)(k:β->Mem->RI):RI:=λK Z=>r (λa μ=>k a μ K Z) Z
abbrev Di:=Sl->Mem->RI
abbrev lvT:Mem->Prop:=λ_=>True
abbrev lvM(i:Nat)(xs:List T):Mem->Prop:=λμ=>μ[i]?=some (.lst xs)
inductive GM where
 |fn (f:Fn)
 |fnh (nm:Str) (f:Fn)
 |met (c:Nat) (nm:Str) (f:Fn)
 |mk (c:Nat) (frozen:Bool) (f:Fn)
 |cst (t:T)
 |xcl (c:Nat)
 |xcf (c:Nat) (f:Nat)
 |xin (c f:Nat) (nm fl:Str)
 |mkd (c:Nat) (nm:Str) (n:Nat) (f:Fn)
 |metd (c:Nat) (nm:Str) (n:Nat) (d:T) (f:Fn)
 |kpr
 |none
 |bad
noncomputable abbrev Xt(τ:Sl):Nat->Option T:=zae (motive:=λ_=>Nat->Option T) (λ_=>none) (λo _ ih i=>zfM (motive:=λ_=>Option T) o (λn _=>ih n) i) τ
noncomputable abbrev jX(τ:Sl):Nat->Option T->Sl:=zae (motive:=λ_=>Nat->Option T->Sl) (λ_ _=>[]) (λo r ih i t=>zfM (motive:=λ_=>Sl) (t::r) (λn _=>o::ih n t) i) τ
theorem Kz:∀{τ:Sl} {i:Nat} {t:T},Xt τ i=some t↔τ[i]?=some (some t)
 |[],_,_=>by simp
 |o::r,0,t=>by show o=some t↔_;simp
 |o::r,n+1,t=>by
  show Xt r n=some t↔_
  rw[Kz (τ:=r) (i:=n)];simp
theorem yr:∀{τ:Sl} {i:Nat} {t:Option T},jX τ i t=τ.set i t
 |[],_,_=>by simp
 |o::r,0,t=>rfl
 |o::r,n+1,t=>by
  show o::jX r n t=_
  rw[yr (τ:=r) (i:=n)];simp
noncomputable abbrev Jk(fs:List (Nat×T)):Nat->Option T:=zae (motive:=λ_=>Nat->Option T) (λ_=>none) (λp _ ih i=>zf8 (motive:=λ_=>Option T) (ih i) (some p.2) (zaL p.1 i)) fs
noncomputable abbrev XD(f:Nat)(v:T)(fs:List (Nat×T)):List (Nat×T):=zae (motive:=λ_=>List (Nat×T)) [(f,v)] (λp r ih=>zf8 (motive:=λ_=>List (Nat×T)) (p::ih) ((p.1,v)::r) (zaL p.1 f)) fs
theorem X7{p:Nat×T}{r:List (Nat×T)}{i:Nat}:Jk (p::r) i=match zaL p.1 i with
  |true=>some p.2
  |false=>Jk r i:=by
 show (zf8 (Jk r i) (some p.2) (zaL p.1 i):Option T)=_
 cases zaL p.1 i<;>rfl
theorem XN{f:Nat}{v:T}{p:Nat×T}{r:List (Nat×T)}:XD f v (p::r)=match zaL p.1 f with
  |true=>(p.1,v)::r
  |false=>p::XD f v r:=by
 show (zf8 (p::XD f v r) ((p.1,v)::r) (zaL p.1 f):List (Nat×T))=_
 cases zaL p.1 f<;>rfl
noncomputable def idx:List Str->Str->Option Nat
 |[],_=>none
 |y::r,x=>if y=x then some 0 else (idx r x).map (·+1)
abbrev tyN:T->Mem->Option Nat
 |.non,_=>some 0
 |.bl _,_=>some 1
 |.int _,_=>some 2
 |.str _,_=>some 3
 |.tup _,_=>some 4
 |.lst _,_=>some 5
 |.dic _,_=>some 6
 |.exc c _,_=>some c
 |.obj c _,_=>some c
 |_,_=>none
noncomputable abbrev tyO:MO->Nat
 |.lst _=>5
 |.obj c _=>c
 |.dic _=>6
 |.tab _=>99
noncomputable abbrev z0K(a b:Bool):Bool:=match a with
 |true=>b
 |false=>false
noncomputable abbrev bOr(a b:Bool):Bool:=match a with
 |true=>true
 |false=>b
abbrev vP(a c:Nat):Bool:=bOr (zaL a c) (bOr (z0K (zaL a 1) (zaL c 2)) (z0K (zfN 10 a) (z0K (zfN a 39) (bOr (zaL c 11) (z0K (zaL c 10) (zfN 12 a))))))
noncomputable abbrev isAny(t:Nat)(cs:List Nat):Bool:=zae (motive:=λ_=>Bool) false (λc _ ih=>bOr (vP t c) ih) cs
theorem yS{t c:Nat}{r:List Nat}:isAny t (c::r)=bOr (vP t c) (isAny t r):=rfl
noncomputable def big:Int:=18446744073709551616
noncomputable def room:Nat:=1000000
abbrev z3m:T->T->Mem->RE T
 |.int i,.int j,μ=>.ok (.int (i+j)) μ
 |.str x,.str y,μ=>.grd (x.length+y.length<=room) (.ok (.str (x++y)) μ)
 |.lst xs,.lst ys,μ=>.grd (xs.length+ys.length<=room) (.ok (.lst (xs++ys)) μ)
 |.tup xs,.tup ys,μ=>.grd (xs.length+ys.length<=room) (.ok (.tup (xs++ys)) μ)
 |.mut i,.lst ys,μ=>λK _=>∃xs,μ[i]?=some (.lst xs)/\xs.length+ys.length<=room/\K (.lst (xs++ys)) μ
 |.lst xs,.mut j,μ=>λK _=>∃ys,μ[j]?=some (.lst ys)/\xs.length+ys.length<=room/\K (.lst (xs++ys)) μ
 |.mut i,.mut j,μ=>λK _=>∃p:List T×List T,(μ[i]?=some (.lst p.1)/\μ[j]?=some (.lst p.2))/\p.1.length+p.2.length<=room/\K (.lst (p.1++p.2)) μ
 |_,_,_=>.st
abbrev QV(f:Int->Int->Mem->RE T):T->T->Mem->RE T
 |.int i,.int j,μ=>f i j μ
 |_,_,_=>.st
abbrev z6M:zf9->T->T->Mem->RE T
 |.Add=>z3m
 |.Sub=>QV λi j μ=>.ok (.int (i-j)) μ
 |.Mult=>QV λi j μ=>.grd ((-big<i/\i<big)\/(-big<j/\j<big)) (.ok (.int (i * j)) μ)
 |.FloorDiv=>QV λi j μ=>.grd (0<j/\j<1606938044258990275541962092341162602522202993782792835301376) (.ok (.int (i / j)) μ)
 |.Mod=>QV λi j μ=>.grd (0<j) (.ok (.int (i % j)) μ)
 |.Pow=>QV λi j μ=>.grd (0<=j/\j<=1000000/\i.natAbs<18446744073709551616) (.ok (.int (i ^ j.toNat)) μ)
 |.RShift=>QV λi j μ=>.grd (0<=j) (.ok (.int (i / 2 ^ j.toNat)) μ)
 |.BitAnd=>QV λi j μ=>.ok (.int (zeZ i j)) μ
 |_=>λ_ _ _=>.st
mutual
def eqT:T->T->Option Bool
 |.int i,b=>match b with
  |.int j=>some (i == j)
  |.bl k=>some (i == (if k then 1 else 0))
  |.str _=>some false
  |.non=>some false
  |.tup _=>some false
  |.lst _=>some false
  |_=>none
 |.bl k,b=>match b with
  |.int j=>some ((if k then 1 else 0) == j)
  |.bl j=>some (k == j)
  |.str _=>some false
  |.non=>some false
  |.tup _=>some false
  |.lst _=>some false
  |_=>none
 |.str x,b=>match b with
  |.str y=>some (x == y)
  |.int _=>some false
  |.bl _=>some false
  |.non=>some false
  |.tup _=>some false
  |.lst _=>some false
  |_=>none
 |.non,b=>match b with
  |.non=>some true
  |.int _=>some false
  |.bl _=>some false
  |.str _=>some false
  |.tup _=>some false
  |.lst _=>some false
  |_=>none
 |.tup xs,b=>match b with
  |.tup ys=>eqL xs ys
  |.non=>some false
  |.int _=>some false
  |.bl _=>some false
  |.str _=>some false
  |.lst _=>some false
  |_=>none
 |.lst xs,b=>match b with
  |.lst ys=>eqL xs ys
  |.non=>some false
  |.int _=>some false
  |.bl _=>some false
  |.str _=>some false
  |.tup _=>some false
  |_=>none
 |_,_=>none
def eqL:List T->List T->Option Bool
 |[],[]=>some true
 |[],_::_=>some false
 |_::_,[]=>some false
 |x::xs,y::ys=>match eqT x y,eqL xs ys with
  |some a,some b=>some (a&&b)
  |_,_=>none
end
mutual
def vW:T->Nat
 |.tup ts=>qL ts+1
 |.lst ts=>qL ts+1
 |_=>0
def qL:List T->Nat
 |[]=>0
 |t::r=>max (vW t) (qL r)
end
noncomputable abbrev scT:T->T->Option Bool
 |.non,.non=>some true
 |.non,.int _=>some false|.int _,.non=>some false|.non,.bl _=>some false|.bl _,.non=>some false|.non,.str _=>some false|.str _,.non=>some false
 |.int i,.int j=>some (decide (i=j))|.bl i,.bl j=>some (decide (i=j))|.str i,.str j=>some (decide (i=j))
 |.int _,.str _=>some false|.str _,.int _=>some false|.bl _,.str _=>some false|.str _,.bl _=>some false
 |_,_=>none
abbrev eqW(x y:T)(μ:Mem)(k:Bool->RE T):RE T:=match x,y with
 |.tup xs,.tup ys=>.grd (qL xs<=40) (.som (eqL xs ys) k)
 |.lst xs,.lst ys=>.grd (qL xs<=40) (.som (eqL xs ys) k)
 |.mut i,.lst ys=>λK Z=>∃xs,μ[i]?=some (.lst xs)/\RE.grd (qL xs<=40) (.som (eqL xs ys) k) K Z
 |.lst xs,.mut j=>λK Z=>∃ys,μ[j]?=some (.lst ys)/\RE.grd (qL xs<=40) (.som (eqL xs ys) k) K Z
 |.mut i,.mut j=>λK Z=>∃p:List T×List T,(μ[i]?=some (.lst p.1)/\μ[j]?=some (.lst p.2))/\RE.grd (qL p.1<=40) (.som (eqL p.1 p.2) k) K Z
 |x,y=>match scT x y with
  |some b=>k b
  |none=>.st
noncomputable def intsOf:List T->Option (List Int)
 |[]=>some []
 |.int i::r=>(intsOf r).map (i::·)
 |_::_=>none
abbrev ltW(x y:T)(k:Bool->RE T):RE T:=match x,y with
 |.int i,.int j=>k (decide (i<j))
 |.tup xs,.tup ys=>.som (intsOf xs) λns=>.som (intsOf ys) λms=>k (HT.lexLt ns ms)
 |.str a,.str b=>k (decide (a.cps.toList<b.cps.toList))
 |_,_=>.st
abbrev Zq(op:z9V)(x y:T)(μ:Mem):RE T:=
 match op with
 |.Eq=>eqW x y μ λb=>.ok (.bl b) μ
 |.NotEq=>eqW x y μ λb=>.ok (.bl (!b)) μ
 |.Lt=>ltW x y λb=>.ok (.bl b) μ
 |.LtE=>match x,y with|.int i,.int j=>.ok (.bl (decide (i<=j))) μ|_,_=>.st
 |.Gt=>match x,y with|.int i,.int j=>.ok (.bl (decide (j<i))) μ|_,_=>.st
 |.GtE=>match x,y with|.int i,.int j=>.ok (.bl (decide (j<=i))) μ|_,_=>.st
 |.Is=>(match y with
  |.non=>.ok (.bl (match x with|.non=>true|_=>false)) μ
  |.bl b=>(match x with|.bl a=>.ok (.bl (decide (a=b))) μ|_=>.st)
  |_=>.st)
 |.IsNot=>(match y with
  |.non=>.ok (.bl (match x with|.non=>false|_=>true)) μ
  |.bl b=>(match x with|.bl a=>.ok (.bl (!decide (a=b))) μ|_=>.st)
  |_=>.st)
 |.In=>(match x,y with|.str i,.str j=>.ok (.bl (!(z9M j i 0 j.length 1).isEmpty)) μ|_,_=>.st)
 |.NotIn=>(match x,y with|.str i,.str j=>.ok (.bl (!(!(z9M j i 0 j.length 1).isEmpty))) μ|_,_=>.st)
abbrev k8:T->Mem->RE Bool
 |.bl b,μ=>.ok b μ
 |_,_=>.st
abbrev eC(t:T):De:=λ_ μ=>.ok t μ
noncomputable abbrev eV(i:Nat):De:=λτ μ=>match Xt τ i with
 |some t=>.ok t μ
 |none=>.st
abbrev zb(op:zf9)(f g:De):De:=λτ μ=>(f τ μ).bind λx μ1=>(g τ μ1).bind λy μ2=>z6M op x y μ2
abbrev VW(f:De):De:=λτ μ=>(f τ μ).bind λx μ1=>match x with|.int i=>.ok (.int (-i)) μ1|_=>.st
abbrev z5Z(f:De):De:=λτ μ=>(f τ μ).bind λx μ1=>match x with|.bl b=>.ok (.bl (!b)) μ1|_=>.st
abbrev Jl(f g:De):De:=λτ μ=>(f τ μ).bind λx μ1=>match x with|.bl b=>.br b (g τ μ1) (.ok (.bl false) μ1)|_=>.st
abbrev eOr(f g:De):De:=λτ μ=>(f τ μ).bind λx μ1=>match x with|.bl b=>.br b (.ok (.bl true) μ1) (g τ μ1)|_=>.st
abbrev zr(op:z9V)(f g:De):De:=λτ μ=>(f τ μ).bind λx μ1=>(g τ μ1).bind λy μ2=>Zq op x y μ2
abbrev chS(op:z9V)(last:Bool)(ih:T->Sl->Mem->RE T)(x y:T)(τ:Sl)(μ1:Mem):RE T:=match last with
 |true=>Zq op x y μ1
 |false=>(Zq op x y μ1).bind λk μ2=>match k with
  |.bl b=>.br b (ih y τ μ2) (.ok (.bl false) μ2)
  |_=>.st
noncomputable abbrev UN(ps:List (z9V×De)):T->Sl->Mem->RE T:=zae (motive:=λ_=>T->Sl->Mem->RE T) (λ_ _ _=>.st) (λp r ih x τ μ=>(p.2 τ μ).bind λy μ1=>chS p.1 r.isEmpty ih x y τ μ1) ps
noncomputable abbrev eCh(f:De)(ps:List (z9V×De)):De:=λτ μ=>(f τ μ).bind λx μ1=>UN ps x τ μ1
abbrev tE(f:De):Dt:=λτ μ=>(f τ μ).bind k8
abbrev wc(f g:Dt):Dt:=λτ μ=>(f τ μ).bind λb μ1=>.br b (g τ μ1) (.ok false μ1)
abbrev tOr(f g:Dt):Dt:=λτ μ=>(f τ μ).bind λb μ1=>.br b (.ok true μ1) (g τ μ1)
abbrev qM(f:Dt):Dt:=λτ μ=>(f τ μ).bind λb μ1=>.ok (!b) μ1
abbrev eIf(c:Dt)(f g:De):De:=λτ μ=>(c τ μ).bind λb μ1=>.br b (f τ μ1) (g τ μ1)
noncomputable abbrev QF(t:T)(f:Nat)(μ:Mem):RE T:=match t with
 |.obj _ fs=>(match Jk fs f with|some v=>.ok v μ|none=>.st)
 |.mut i=>λK _=>∃c fs v,μ[i]?=some (.obj c fs)/\Jk fs f=some v/\K v μ
 |_=>.st
noncomputable abbrev zf(f:De)(n:Nat):De:=λτ μ=>(f τ μ).bind λt μ1=>QF t n μ1
noncomputable def Yi(n:Nat)(i:Int):Option Nat:=if 0<=i then (if i<n then some i.toNat else none) else if -(n:Int)<=i then some (i+n).toNat else none
def wD {α:Type}(xs:List α)(i:Int):Option α:=(Yi xs.length i).bind λj=>xs[j]?
abbrev z2P(t i:T)(μ:Mem):RE T:=match i with
 |.int k=>(match t with
  |.lst ts=>.som (wD ts k) λv=>.ok v μ
  |.tup ts=>.som (wD ts k) λv=>.ok v μ
  |.mut j=>λK _=>∃ts v,μ[j]?=some (.lst ts)/\wD ts k=some v/\K v μ
  |.str z=>.grd (z.length<=room) (.som (wD z.cps.toList k) λc=>.ok (.str ⟨#[c]⟩) μ)
  |_=>.st)
 |_=>.st
abbrev eIx(f g:De):De:=λτ μ=>(f τ μ).bind λx μ1=>(g τ μ1).bind λy μ2=>z2P x y μ2
noncomputable def UQ(n d:Nat):Option Int->Nat
 |none=>d
 |some v=>if v<0 then (v+(n:Int)).toNat else min v.toNat n
def xx {α:Type}(xs:List α)(lo hi:Option Int):List α:=(xs.drop (UQ xs.length 0 lo)).take (UQ xs.length xs.length hi-UQ xs.length 0 lo)
abbrev Dp:=Sl->Mem->RE (Option Int)
abbrev pN:Dp:=λ_ μ=>.ok none μ
abbrev pS(f:De):Dp:=λτ μ=>(f τ μ).bind λt μ1=>match t with|.int i=>.ok (some i) μ1|_=>.st
abbrev z6v(x:T)(l h:Option Int)(μ:Mem):RE T:=match x with
 |.lst xs=>.ok (.lst (xx xs l h)) μ
 |.tup xs=>.ok (.tup (xx xs l h)) μ
 |.str z=>.grd (z.length<=room) (.ok (.str (Txt.slice z l h)) μ)
 |.mut i=>λK _=>∃ts,μ[i]?=some (.lst ts)/\K (.lst (xx ts l h)) μ
 |_=>.st
abbrev eSl(f:De)(lo hi:Dp):De:=λτ μ=>(f τ μ).bind λx μ1=>(lo τ μ1).bind λl μ2=>(hi τ μ2).bind λh μ3=>z6v x l h μ3
noncomputable abbrev evs(fs:List De):Da:=zae (motive:=λ_=>Da) (λ_ μ=>.ok [] μ) (λf _ ih τ μ=>(f τ μ).bind λt μ1=>(ih τ μ1).bind λts μ2=>.ok (t::ts) μ2) fs
noncomputable abbrev zR(fs:List De):De:=λτ μ=>(evs fs τ μ).bind λts μ1=>.ok (.lst ts) μ1
noncomputable abbrev zy(fs:List De):De:=λτ μ=>(evs fs τ μ).bind λts μ1=>.ok (.tup ts) μ1
noncomputable abbrev Y3(fs:List De):De:=λτ μ=>(evs fs τ μ).bind λts μ1=>.ok (.mut μ1.length) (μ1++[.lst ts])
noncomputable abbrev z7(g:Fn)(fs:List De):De:=λτ μ=>(evs fs τ μ).bind g
abbrev Vx(c:Nat)(g:Fn)(ts:List T)(μ:Mem):RE T:=λK Z=>
 u9 ts=true/\g (.mut 0::ts) [.obj c []] (λr μ1=>r=.non/\∃fs,μ1[0]?=some (.obj c fs)/\xV fs=true/\K (.obj c fs) μ) (λk fs _=>xV fs=true/\Z k fs μ)
noncomputable abbrev eMk(c:Nat)(g:Fn)(fs:List De):De:=λτ μ=>(evs fs τ μ).bind (Vx c g)
noncomputable abbrev UO(cs:List Nat)(x:T)(μ:Mem):RE T:=match x with
 |.mut i=>.som μ[i]? λo=>.br (z2C o) .st (.ok (.bl (isAny (tyO o) cs)) μ)
 |x=>match tyN x μ with
  |some t=>.ok (.bl (isAny t cs)) μ
  |none=>.st
noncomputable abbrev vL(cs:List Nat)(f:De):De:=λτ μ=>(f τ μ).bind (UO cs)
abbrev eB1(op:T->Mem->RE T)(f:De):De:=λτ μ=>(f τ μ).bind op
abbrev yi(t:T)(μ:Mem):RE T:=match t with
 |.lst xs=>.ok (.int xs.length) μ
 |.tup xs=>.ok (.int xs.length) μ
 |.str s=>.grd (s.length<=room) (.ok (.int s.length) μ)
 |.mut i=>λK _=>∃xs,μ[i]?=some (.lst xs)/\K (.int xs.length) μ
 |_=>.st
abbrev z1m(t:T)(μ:Mem):RE T:=match t with
 |.int i=>.ok (.int i) μ
 |.bl b=>.ok (.int (if b then 1 else 0)) μ
 |_=>.st
abbrev Wm(t:T)(μ:Mem):RE T:=match t with
 |.lst xs=>.ok (.tup xs) μ
 |.mut i=>λK _=>∃xs,μ[i]?=some (.lst xs)/\K (.tup xs) μ
 |_=>.st
noncomputable def bools:List T->Option (List Bool)
 |[]=>some []
 |.bl b::r=>(bools r).map (b::·)
 |_::_=>none
abbrev Up(t:T)(μ:Mem):RE T:=match t with
 |.lst xs=>.som (bools xs) λbs=>.ok (.bl (bs.all id)) μ
 |_=>.st
abbrev Xy(o f:De):De:=λτ μ=>(o τ μ).bind λot μ1=>match ot with
 |.mut i=>λK Z=>(∃ts,μ1[i]?=some (.lst ts))/\f τ μ1 (λt μ2=>∃ts,μ2[i]?=some (.lst ts)/\ts.length<room/\K .non (μ2.set i (.lst (ts++[t])))) Z
 |_=>.st
noncomputable abbrev uO(z:Str):List T:=z.cps.toList.map λc=>T.str ⟨#[c]⟩
abbrev z38(t:T)(μ:Mem):RI:=match t with
 |.lst xs=>.ok xs lvT μ
 |.tup xs=>.ok xs lvT μ
 |.str z=>.ok (uO z) lvT μ
 |.mut i=>λK _=>∃xs,μ[i]?=some (.lst xs)/\K xs (lvM i xs) μ
 |_=>.st
abbrev iE(f:De):Di:=λτ μ=>(f τ μ).it z38
noncomputable def rangeT(n:Int):List T:=(z9i n.toNat).map λ(i:Nat)=>T.int i
noncomputable def xJ(a b c:Int):List T:=(z9i (if a<b then (b-a-1) / c+1 else 0:Int).toNat).map λ(i:Nat)=>T.int (a+i * c)
abbrev inL(a:Int):Prop := -1606938044258990275541962092341162602522202993782792835301376<=a/\a<1606938044258990275541962092341162602522202993782792835301376
abbrev z17(f:De):Di:=λτ μ=>(f τ μ).it λt μ1=>match t with
 |.int n=>.grd (inL n) (.ok (rangeT n) lvT μ1)
 |_=>.st
abbrev UK(x y z:T)(μ:Mem):RI:=match x,y,z with
 |.int a,.int b,.int c=>.grd (inL a/\inL b/\0<c/\c<1073741824) (.ok (xJ a b c) lvT μ)
 |_,_,_=>.st
abbrev z2L(f g h:De):Di:=λτ μ=>(f τ μ).it λx μ1=>(g τ μ1).it λy μ2=>(h τ μ2).it λz μ3=>UK x y z μ3
abbrev KU(f g:De):Di:=λτ μ=>(f τ μ).it λx μ1=>(g τ μ1).it λy μ2=>match x,y with
 |.int a,.int b=>.grd (inL a/\inL b) (.ok (xJ a b 1) lvT μ2)
 |_,_=>.st
inductive Tg where
 |one (i:Nat)|tup (is:List Nat)
noncomputable abbrev VA(is:List Nat):List T->Sl->Option Sl:=zae (motive:=λ_=>List T->Sl->Option Sl) (λts τ=>zae (motive:=λ_=>Option Sl) (some τ) (λ_ _ _=>none) ts) (λi _ ih ts τ=>zae (motive:=λ_=>Option Sl) none (λt ts' _=>ih ts' (jX τ i (some t))) ts) is
noncomputable abbrev asg:Tg->T->Sl->Option Sl
 |.one i,t,τ=>some (jX τ i (some t))
 |.tup is,.tup ts,τ=>VA is ts τ
 |_,_,_=>none
noncomputable def z_(tg:Tg)(g:Sl->Mem->RE (Option T))(lv:Mem->Prop)(τ:Sl):List T->Mem->RE (List T)
 |[],μ=>.ok [] μ
 |x::r,μ=>.som (asg tg x τ) λτ'=>(g τ' μ).bind λo μ1=>.grd (lv μ1) (match o with
  |some y=>(z_ tg g lv τ r μ1).bind λys μ2=>.ok (y::ys) μ2
  |none=>z_ tg g lv τ r μ1)
noncomputable abbrev yo(cs:List Dt)(f:De):Sl->Mem->RE (Option T):=zae (motive:=λ_=>Sl->Mem->RE (Option T)) (λτ μ=>(f τ μ).bind λy μ1=>.ok (some y) μ1) (λc _ ih τ μ=>(c τ μ).bind λb μ1=>.br b (ih τ μ1) (.ok none μ1)) cs
noncomputable abbrev VG(is:List Nat)(τ:Sl):Sl:=zae (motive:=λ_=>Sl) [] (λi _ ih=>Xt τ i::ih) is
noncomputable abbrev blk(n:Nat)(fs:List Nat)(τ:Sl):Sl:=zfM (motive:=λ_=>Sl) (VG fs τ) (λ_ ih=>none::ih) n
noncomputable abbrev qY(n:Nat)(fs:List Nat)(tg:Tg)(it:Di)(cs:List Dt)(f:De):De:=λτ μ=>(it τ μ).go λxs o μ1=>.grd (xs.length<=room) ((z_ tg (yo cs f) o (blk n fs τ) xs μ1).bind λys μ2=>.ok (.lst ys) μ2)
noncomputable abbrev xt(n:Nat)(fs:List Nat)(tg:Tg)(it:Di)(cs:List Dt)(f:De):De:=λτ μ=>(it τ μ).go λxs o μ1=>.grd (xs.length<=room) ((z_ tg (yo cs f) o (blk n fs τ) xs μ1).bind λys μ2=>.ok (.mut μ2.length) (μ2++[.lst ys]))
abbrev zt(f:De):Ds:=λτ μ=>(f τ μ).out τ λt μ1=>.rt t μ1
abbrev UB:Ds:=λ_ μ=>.rt .non μ
abbrev qb(f:De):Ds:=λτ μ=>(f τ μ).out τ λ_ μ1=>.nx τ μ1
noncomputable abbrev zM(ss:List Ds):Ds:=zae (motive:=λ_=>Ds) (λτ μ=>.nx τ μ) (λs _ ih τ μ=>(s τ μ).seq ih) ss
noncomputable abbrev sIf(c:Dt)(a b:List Ds):Ds:=λτ μ=>(c τ μ).out τ λk μ1=>.br k (zM a τ μ1) (zM b τ μ1)
noncomputable abbrev zj(i:Nat)(f:De):Ds:=λτ μ=>(f τ μ).out τ λt μ1=>.nx (jX τ i (some t)) μ1
noncomputable abbrev jh(is:List Nat)(f:De):Ds:=λτ μ=>(f τ μ).out τ λt μ1=>.som (asg (.tup is) t τ) λτ'=>.nx τ' μ1
noncomputable abbrev qw(o:De)(n:Nat)(f:De):Ds:=λτ μ=>(f τ μ).out τ λt μ1=>(o τ μ1).out τ λot μ2=>match ot with
 |.mut i=>λE=>∃c fs,μ2[i]?=some (.obj c fs)/\fs.length<900/\E.nx τ (μ2.set i (.obj c (XD n t fs)))
 |_=>.st
abbrev z6E(o b f:De):Ds:=λτ μ=>(f τ μ).out τ λt μ1=>(o τ μ1).out τ λot μ2=>(b τ μ2).out τ λit μ3=>match ot,it with
 |.mut i,.int k=>λE=>∃ts,μ3[i]?=some (.lst ts)/\(0<=k/\k<ts.length/\k<9223372036854775808)/\E.nx τ (μ3.set i (.lst (ts.set k.toNat t)))
 |_,_=>.st
noncomputable def forM(tg:Tg)(body:Ds)(lv:Mem->Prop):List T->Ds
 |[],τ,μ=>.nx τ μ
 |x::r,τ,μ=>.som (asg tg x τ) λτ'=>λE=>body τ' μ (E.turn λτ2 μ2=>lv μ2/\forM tg body lv r τ2 μ2 E)
noncomputable abbrev QR(tg:Tg)(it:Di)(body:List Ds):Ds:=λτ μ=>(it τ μ).out τ λxs o μ1=>forM tg (zM body) o xs τ μ1
noncomputable def Wb(c:Dt)(body:List Ds):Ds:=λτ μ E=>∃I:Nat->Sl->Mem->Prop,(∃n,I n τ μ)/\∀n τ μ,I n τ μ->
 c τ μ (λb μ1=>brW b (zM body τ μ1 (E.turn λτ2 μ2=>∃m,m<n/\I m τ2 μ2)) (E.nx τ μ1)) (λk fs μ1=>E.ex k fs τ μ1)
noncomputable abbrev zQ(c:Nat)(fs:List De):Ds:=λτ μ=>(evs fs τ μ).out τ λts μ1=>.grd (ts.length<=room) (.ex c [] τ μ1)
abbrev Qq(c f:Nat)(g:De):Ds:=λτ μ=>(g τ μ).out τ λt μ1=>match t with
 |.int i=>.grd (i.natAbs.log2<1920) (.ex c [(f,.int i)] τ μ1)
 |_=>.st
noncomputable abbrev z7v(i:Option Nat)(v:List Ds)(k:Nat)(fs:List (Nat×T))(τ:Sl)(μ:Mem):Out:=λE=>match i with
 |some j=>zM v (jX τ j (some (.exc k fs))) μ {nx:=λτ2 μ2=>E.nx (jX τ2 j none) μ2,rt:=E.rt,bk:=λ_ _=>False,ct:=λ_ _=>False,ex:=λ_ _ _ _=>False}
 |none=>zM v τ μ {nx:=E.nx,rt:=E.rt,bk:=λ_ _=>False,ct:=λ_ _=>False,ex:=λ_ _ _ _=>False}
noncomputable abbrev z1C(hs:List (List Nat×Option Nat×List Ds)):Nat->List (Nat×T)->Sl->Mem->Out:=zae (motive:=λ_=>Nat->List (Nat×T)->Sl->Mem->Out) (λk fs τ μ=>.ex k fs τ μ) (λp _ ih k fs τ μ=>.br (isAny k p.1) (z7v p.2.1 p.2.2 k fs τ μ) (ih k fs τ μ)) hs
noncomputable abbrev z0N(b:List Ds)(hs:List (List Nat×Option Nat×List Ds)):Ds:=λτ μ E=>zM b τ μ (E.tri λk fs τ1 μ1=>z1C hs k fs τ1 μ1 E)
noncomputable abbrev pad(n:Nat):Sl:=zfM (motive:=λ_=>Sl) [] (λ_ ih=>none::ih) n
noncomputable abbrev Yx(ts:List T)(n:Nat):Sl:=zae (motive:=λ_=>Sl) (pad n) (λt _ ih=>some t::ih) ts
noncomputable abbrev fnW(n m:Nat)(body:List Ds):Fn:=λts μ K Z=>ts.length=n/\zM body (Yx ts m) μ (En.fn K Z)
end NH
namespace NH
open PySem PySem.Spec PyProof.Rows L2
section
structure DP where
 K:z8o
 adr:Nat->Option Addr
 cad:Nat->Option Addr
 fn:Nat->Option Str
 inj:∀i j x,fn i=some x->fn j=some x->i=j
 clo:Nat->Addr->Option HO->List V->Prop
 tabs:Nat->Option (Addr×List Pos×Str)
def XcAt (a C:Addr)(d:Option Addr):Heap->Prop:=λh=>∃oe vs,h.get? a=some oe/\oe.cls=.ref C/\oe.data=.fields vs/\oe.dict=d
noncomputable def wX(c:Addr)(qn:Str):Heap->Prop:=λh=>h.CodeRec (.ref c) qn
mutual
def Den (D:DP)(φ α:List Addr)(H:Hp):T->V->Prop
 |.non,v=>v=.non
 |.bl b,v=>v=.bl b
 |.int i,v=>v=.int i
 |.str x,v=>v=.str x
 |.mut i,v=>∃a,α[i]?=some a/\v=.ref a
 |.tup ts,v=>∃a xs,v=.ref a/\a∉φ/\a∉α/\Rd H a (.tup xs)/\DenL D φ α H ts xs
 |.lst ts,v=>∃a xs,v=.ref a/\a∉φ/\a∉α/\Rd H a (.lst xs)/\DenL D φ α H ts xs
 |.obj c fs,v=>∃a C dx gs,v=.ref a/\a∉φ/\a∉α/\D.cad c=some C/\H a=some (.ins C dx gs)/\DenF D φ α H fs gs
 |.exc c fs,v=>∃a C d,v=.ref a/\a∉φ/\a∉α/\D.adr c=some C/\H a=some (.ext (XcAt a C d))/\(match d with
  |none=>fs=[]
  |some dx=>∃gs,dx∉φ/\dx∉α/\H dx=some (.xd gs)/\DenF D φ α H fs gs)
 |.dic kvs,v=>∃a gs,v=.ref a/\a∉φ/\a∉α/\H a=some (.dK gs)/\DenK D φ α H kvs gs
 |.clo j cs,v=>∃a ob xs,v=.ref a/\D.clo j a ob xs/\(∀o,ob=some o->a∉φ/\a∉α/\H a=some o)/\DenL D φ α H cs xs
def DenL (D:DP)(φ α:List Addr)(H:Hp):List T->List V->Prop
 |[],vs=>vs=[]
 |t::ts,vs=>∃v r,vs=v::r/\Den D φ α H t v/\DenL D φ α H ts r
def DenF (D:DP)(φ α:List Addr)(H:Hp):List (Nat×T)->List (Str×V)->Prop
 |[],gs=>gs=[]
 |p::fs,gs=>∃x v r,D.fn p.1=some x/\gs=(x,v)::r/\Den D φ α H p.2 v/\DenF D φ α H fs r
def DenK (D:DP)(φ α:List Addr)(H:Hp):List (Key×T)->List (Key×V)->Prop
 |[],gs=>gs=[]
 |p::fs,gs=>∃v r,gs=(p.1,v)::r/\Den D φ α H p.2 v/\DenK D φ α H fs r
end
def XDict(D:DP)(φ α:List Addr)(H:Hp)(fs:List (Nat×T)):Option Addr->Prop
 |none=>fs=[]
 |some dx=>∃gs,dx∉φ/\dx∉α/\H dx=some (.xd gs)/\DenF D φ α H fs gs
def DenO (D:DP)(φ α:List Addr)(H:Hp):MO->Addr->Prop
 |.lst ts,a=>∃xs,H a=some (.lst xs)/\DenL D φ α H ts xs
 |.obj c fs,a=>∃C dx gs,D.cad c=some C/\H a=some (.ins C dx gs)/\DenF D φ α H fs gs
 |.dic kvs,a=>∃gs,H a=some (.dK gs)/\DenK D φ α H kvs gs
 |.tab j,a=>∃poss qn ps,D.tabs j=some (a,poss,qn)/\H a=some (.tbl ps)/\zbN ps.toList/\∀pos∈poss,zba pos ps.toList=none\/∃c,zba pos ps.toList=some (.ref c)/\c∉φ/\c∉α/\H c=some (.ext (wX c qn))
structure Stp(α:List Addr)(H:Hp)(α':List Addr)(H':Hp):Prop where
 ext:∃β,α'=α++β/\∀b∈β,H b=none
 keep:∀b o,b∉α->H b=some o->H' b=some o
 live:∀b,H' b=none->H b=none
theorem Stp.refl(α:List Addr)(H:Hp):Stp α H α H:=⟨⟨[],by simp,by simp⟩,λ_ _ _ e=>e,λ_ e=>e⟩
theorem Stp.trans{α α1 α2:List Addr}{H H1 H2:Hp}(a:Stp α H α1 H1)(b:Stp α1 H1 α2 H2):Stp α H α2 H2:=by
 obtain⟨β,rfl,hβ⟩:=a.ext
 obtain⟨γ,rfl,hγ⟩:=b.ext
 refine⟨⟨β++γ,by simp,λc hc=>?_⟩,λc o n e=>?_,λc e=>a.live c (b.live c e)⟩
 ·rcases z8v.mp hc with h|h
  ·exact hβ c h
  ·exact a.live c (hγ c h)
 ·refine b.keep c o (λh=>?_) (a.keep c o n e)
  rcases z8v.mp h with h|h
  ·exact n h
  ·rw[hβ c h] at e;cases e
theorem Stp.new{α:List Addr}{H H':Hp}(s:xN H H'):Stp α H α H':=⟨⟨[],by simp,by simp⟩,λb o _ e=>s b o e,λb e=>by
 cases q:H b with
 |none=>rfl
 |some o=>rw[s b o q] at e;cases e⟩
theorem zh{H:Hp}{p:Addr}{o:HO}(h:H p=none):xN H (upd H p o):=λb u e=>by rw[z9 (zV e h)];exact e
theorem Stp.out{α α':List Addr}{H H':Hp}(s:Stp α H α' H'){a:Addr}{o:HO}(n:a∉α)(e:H a=some o):a∉α':=by
 obtain⟨β,rfl,hβ⟩:=s.ext
 intro h
 rcases z8v.mp h with h|h
 ·exact n h
 ·rw[hβ a h] at e;cases e
section
variable {D:DP}{φ φ' α α':List Addr}{H H':Hp}
structure Lk(φ α:List Addr)(H:Hp)(φ' α':List Addr)(H':Hp):Prop where
 ob:∀a o,a∉φ->a∉α->H a=some o->a∉φ'/\a∉α'/\H' a=some o
 st:∀(i:Nat) (a:Addr),α[i]?=some a->α'[i]?=some a
mutual
theorem Den.lk(h:Lk φ α H φ' α' H'):∀{t:T} {v:V},Den D φ α H t v->Den D φ' α' H' t v
 |.non,_,d=>d
 |.bl _,_,d=>d
 |.int _,_,d=>d
 |.str _,_,d=>d
 |.mut i,_,d=>by obtain⟨a,e,q⟩:=d;exact⟨a,h.st i a e,q⟩
 |.tup ts,_,d=>by
  obtain⟨a,xs,rfl,n1,n2,r,l⟩:=d
  rcases r with r|⟨o,r⟩
  ·obtain⟨m1,m2,e⟩:=h.ob a _ n1 n2 r
   exact⟨a,xs,rfl,m1,m2,.inl e,DenL.lk h l⟩
  ·obtain⟨m1,m2,e⟩:=h.ob a _ n1 n2 r
   exact⟨a,xs,rfl,m1,m2,.inr ⟨o,e⟩,DenL.lk h l⟩
 |.lst ts,_,d=>by
  obtain⟨a,xs,rfl,n1,n2,r,l⟩:=d
  rcases r with r|⟨o,r⟩
  ·obtain⟨m1,m2,e⟩:=h.ob a _ n1 n2 r
   exact⟨a,xs,rfl,m1,m2,.inl e,DenL.lk h l⟩
  ·obtain⟨m1,m2,e⟩:=h.ob a _ n1 n2 r
   exact⟨a,xs,rfl,m1,m2,.inr ⟨o,e⟩,DenL.lk h l⟩
 |.obj c fs,_,d=>by
  obtain⟨a,C,dx,gs,rfl,n1,n2,ad,e,l⟩:=d
  obtain⟨m1,m2,e⟩:=h.ob a _ n1 n2 e
  exact⟨a,C,dx,gs,rfl,m1,m2,ad,e,DenF.lk h l⟩
 |.exc c fs,_,d=>by
  obtain⟨a,C,d,rfl,n1,n2,ad,e,l⟩:=d
  obtain⟨m1,m2,e⟩:=h.ob a _ n1 n2 e
  refine⟨a,C,d,rfl,m1,m2,ad,e,?_⟩
  cases d with
  |none=>exact l
  |some dx=>
   obtain⟨gs,k1,k2,e2,l⟩:=l
   obtain⟨k1,k2,e2⟩:=h.ob dx _ k1 k2 e2
   exact⟨gs,k1,k2,e2,DenF.lk h l⟩
 |.dic kvs,_,d=>by
  obtain⟨a,gs,rfl,n1,n2,e,l⟩:=d
  obtain⟨m1,m2,e⟩:=h.ob a _ n1 n2 e
  exact⟨a,gs,rfl,m1,m2,e,DenK.lk h l⟩
 |.clo j cs,_,d=>by
  obtain⟨a,ob,xs,rfl,c,e,l⟩:=d
  exact⟨a,ob,xs,rfl,c,λo z=>let ⟨n1,n2,q⟩:=e o z;h.ob a o n1 n2 q,DenL.lk h l⟩
theorem DenL.lk(h:Lk φ α H φ' α' H'):∀{ts:List T} {vs:List V},DenL D φ α H ts vs->DenL D φ' α' H' ts vs
 |[],_,l=>l
 |t::ts,_,l=>by
  obtain⟨v,r,rfl,a,b⟩:=l
  exact⟨v,r,rfl,Den.lk h a,DenL.lk h b⟩
theorem DenF.lk(h:Lk φ α H φ' α' H'):∀{fs:List (Nat×T)} {gs:List (Str×V)},DenF D φ α H fs gs->DenF D φ' α' H' fs gs
 |[],_,l=>l
 |p::fs,_,l=>by
  obtain⟨x,v,r,e,rfl,a,b⟩:=l
  exact⟨x,v,r,e,rfl,Den.lk h a,DenF.lk h b⟩
theorem DenK.lk(h:Lk φ α H φ' α' H'):∀{fs:List (Key×T)} {gs:List (Key×V)},DenK D φ α H fs gs->DenK D φ' α' H' fs gs
 |[],_,l=>l
 |p::fs,_,l=>by
  obtain⟨v,r,rfl,a,b⟩:=l
  exact⟨v,r,rfl,Den.lk h a,DenK.lk h b⟩
end
theorem Stp.lk(s:Stp α H α' H'):Lk φ α H φ α' H':=⟨λa o n1 n2 e=>⟨n1,s.out n2 e,s.keep a o n2 e⟩,λi a e=>by
 obtain⟨β,rfl,_⟩:=s.ext
 rw[z8p (z8h.mp e).1];exact e⟩
theorem Den.step(s:Stp α H α' H'){t:T}{v:V}(d:Den D φ α H t v):Den D φ α' H' t v:=d.lk s.lk
theorem DenL.step(s:Stp α H α' H'){t:List T}{v:List V}(d:DenL D φ α H t v):DenL D φ α' H' t v:=d.lk s.lk
theorem DenF.step(s:Stp α H α' H'){t:List (Nat×T)}{v:List (Str×V)}(d:DenF D φ α H t v):DenF D φ α' H' t v:=d.lk s.lk
theorem DenK.step(s:Stp α H α' H'){t:List (Key×T)}{v:List (Key×V)}(d:DenK D φ α H t v):DenK D φ α' H' t v:=d.lk s.lk
theorem XDict.lk{fs:List (Nat×T)}{d:Option Addr}(h:Lk φ α H φ' α' H')(x:XDict D φ α H fs d):XDict D φ' α' H' fs d:=by
 cases d with
 |none=>exact x
 |some dx=>
  obtain⟨gs,k1,k2,e2,l⟩:=x
  obtain⟨k1,k2,e2⟩:=h.ob dx _ k1 k2 e2
  exact⟨gs,k1,k2,e2,DenF.lk h l⟩
mutual
theorem Den.hide{β:List Addr}:∀{t:T} {v:V},vU t=true->Den D φ α H t v->(∀a,a∉φ->a∉α->a∉φ'/\a∉β)->Den D φ' β H t v
 |.non,_,_,h,_=>h
 |.bl _,_,_,h,_=>h
 |.int _,_,_,h,_=>h
 |.str _,_,_,h,_=>h
 |.mut i,_,p,_,_=>by simp[vU] at p
 |.tup ts,_,p,h,k=>by
  obtain⟨a,xs,rfl,n1,n2,r,l⟩:=h
  exact⟨a,xs,rfl,(k a n1 n2).1,(k a n1 n2).2,r,DenL.hide (by simpa[vU] using p) l k⟩
 |.lst ts,_,p,h,k=>by
  obtain⟨a,xs,rfl,n1,n2,r,l⟩:=h
  exact⟨a,xs,rfl,(k a n1 n2).1,(k a n1 n2).2,r,DenL.hide (by simpa[vU] using p) l k⟩
 |.obj c fs,_,p,h,k=>by
  obtain⟨a,C,dx,gs,rfl,n1,n2,ad,e,l⟩:=h
  exact⟨a,C,dx,gs,rfl,(k a n1 n2).1,(k a n1 n2).2,ad,e,DenF.hide (by simpa[vU] using p) l k⟩
 |.exc c fs,_,p,h,k=>by
  obtain⟨a,C,d,rfl,n1,n2,ad,e,l⟩:=h
  refine⟨a,C,d,rfl,(k a n1 n2).1,(k a n1 n2).2,ad,e,?_⟩
  cases d with
  |none=>exact l
  |some dx=>
   obtain⟨gs,k1,k2,e2,l⟩:=l
   exact⟨gs,(k dx k1 k2).1,(k dx k1 k2).2,e2,DenF.hide (by simpa[vU] using p) l k⟩
 |.dic kvs,_,p,h,k=>by
  obtain⟨a,gs,rfl,n1,n2,e,l⟩:=h
  exact⟨a,gs,rfl,(k a n1 n2).1,(k a n1 n2).2,e,DenK.hide (by simpa[vU] using p) l k⟩
 |.clo j cs,_,p,h,k=>by
  obtain⟨a,ob,xs,rfl,c,e,l⟩:=h
  exact⟨a,ob,xs,rfl,c,λo z=>let ⟨n1,n2,q⟩:=e o z;⟨(k a n1 n2).1,(k a n1 n2).2,q⟩,DenL.hide (by simpa[vU] using p) l k⟩
theorem DenL.hide{β:List Addr}:∀{ts:List T} {vs:List V},u9 ts=true->DenL D φ α H ts vs->(∀a,a∉φ->a∉α->a∉φ'/\a∉β)->DenL D φ' β H ts vs
 |[],_,_,h,_=>h
 |t::ts,_,p,h,k=>by
  obtain⟨v,r,rfl,a,b⟩:=h
  simp only[u9,z8j] at p
  exact⟨v,r,rfl,Den.hide p.1 a k,DenL.hide p.2 b k⟩
theorem DenF.hide{β:List Addr}:∀{fs:List (Nat×T)} {gs:List (Str×V)},xV fs=true->DenF D φ α H fs gs->(∀a,a∉φ->a∉α->a∉φ'/\a∉β)->DenF D φ' β H fs gs
 |[],_,_,h,_=>h
 |q::fs,_,p,h,k=>by
  obtain⟨x,v,r,e,rfl,a,b⟩:=h
  simp only[xV,z8j] at p
  exact⟨x,v,r,e,rfl,Den.hide p.1 a k,DenF.hide p.2 b k⟩
theorem DenK.hide{β:List Addr}:∀{fs:List (Key×T)} {gs:List (Key×V)},Kn fs=true->DenK D φ α H fs gs->(∀a,a∉φ->a∉α->a∉φ'/\a∉β)->DenK D φ' β H fs gs
 |[],_,_,h,_=>h
 |q::fs,_,p,h,k=>by
  obtain⟨v,r,rfl,a,b⟩:=h
  simp only[Kn,z8j] at p
  exact⟨v,r,rfl,Den.hide p.1 a k,DenK.hide p.2 b k⟩
end
theorem XDict.hide{fs:List (Nat×T)}{d:Option Addr}{β:List Addr}(p:xV fs=true)(x:XDict D φ α H fs d)(k:∀a,a∉φ->a∉α->a∉φ'/\a∉β):XDict D φ' β H fs d:=by
 cases d with
 |none=>exact x
 |some dx=>
  obtain⟨gs,k1,k2,e2,l⟩:=x
  exact⟨gs,(k dx k1 k2).1,(k dx k1 k2).2,e2,DenF.hide p l k⟩
theorem z1z:∀a:Addr,a∉φ->a∉α->a∉φ++α/\a∉([]:List Addr):=λa n1 n2=>⟨λz=>(z8v.mp z).elim n1 n2,by simp⟩
theorem WA{β:List Addr}:∀a:Addr,a∉φ++α->a∉β->a∉φ/\a∉α:=λa n1 _=>⟨λz=>n1 (z8E _ z),λz=>n1 (z8s _ z)⟩
theorem DenL.length:∀{ts:List T} {vs:List V},DenL D φ α H ts vs->ts.length=vs.length
 |[],_,h=>by have:_=[]:=h;subst this;rfl
 |t::ts,_,h=>by
  obtain⟨v,r,rfl,_,b⟩:=h
  simp[DenL.length b]
theorem DenL.get:∀{ts:List T} {vs:List V} {i:Nat} {t:T},DenL D φ α H ts vs->ts[i]?=some t->∃v,vs[i]?=some v/\Den D φ α H t v
 |[],_,_,_,_,e=>by simp at e
 |t::ts,_,0,_,h,e=>by
  obtain⟨v,r,rfl,a,b⟩:=h
  simp at e;subst e
  exact⟨v,rfl,a⟩
 |t::ts,_,i+1,u,h,e=>by
  obtain⟨v,r,rfl,a,b⟩:=h
  obtain⟨w,e',d⟩:=DenL.get (i:=i) (t:=u) b (by simpa using e)
  exact⟨w,by simpa using e',d⟩
theorem DenL.append:∀{ts us:List T} {vs ws:List V},DenL D φ α H ts vs->DenL D φ α H us ws->DenL D φ α H (ts++us) (vs++ws)
 |[],us,_,ws,h,k=>by have:_=[]:=h;subst this;exact k
 |t::ts,us,_,ws,h,k=>by
  obtain⟨v,r,rfl,a,b⟩:=h
  exact⟨v,r++ws,rfl,a,DenL.append b k⟩
theorem DenL.drop:∀(n:Nat) {ts:List T} {vs:List V},DenL D φ α H ts vs->DenL D φ α H (ts.drop n) (vs.drop n)
 |0,_,_,h=>h
 |n+1,[],_,h=>by have:_=[]:=h;subst this;exact rfl
 |n+1,t::ts,_,h=>by
  obtain⟨v,r,rfl,a,b⟩:=h
  exact DenL.drop n b
theorem DenL.take:∀(n:Nat) {ts:List T} {vs:List V},DenL D φ α H ts vs->DenL D φ α H (ts.take n) (vs.take n)
 |0,_,_,h=>by simp[DenL]
 |n+1,[],_,h=>by have:_=[]:=h;subst this;exact rfl
 |n+1,t::ts,_,h=>by
  obtain⟨v,r,rfl,a,b⟩:=h
  exact⟨v,r.take n,rfl,a,DenL.take n b⟩
theorem DenL.set:∀{ts:List T} {vs:List V} {i:Nat} {t:T} {v:V},DenL D φ α H ts vs->Den D φ α H t v->DenL D φ α H (ts.set i t) (vs.set i v)
 |[],vs,i,t,v,l,d=>by have l:vs=[]:=l;subst l;exact rfl
 |x::ts,_,0,t,v,l,d=>by
  obtain⟨w,r,rfl,dw,l⟩:=l
  exact⟨v,r,rfl,d,l⟩
 |x::ts,_,i+1,t,v,l,d=>by
  obtain⟨w,r,rfl,dw,l⟩:=l
  exact⟨w,r.set i v,rfl,dw,DenL.set l d⟩
theorem DenF.look:∀{fs:List (Nat×T)} {gs:List (Str×V)} {f:Nat} {t:T},DenF D φ α H fs gs->Jk fs f=some t->∃x v,D.fn f=some x/\gs.lookup x=some v/\Den D φ α H t v
 |[],_,_,_,_,e=>by simp[Jk] at e
 |p::fs,_,f,t,h,e=>by
  obtain⟨x,v,r,ex,rfl,a,b⟩:=h
  rw[X7] at e
  cases q:zaL p.1 f with
  |true=>
   have q':=zd0 q
   rw[q] at e
   have e:some p.2=some t:=e
   cases e
   exact⟨x,v,by rw[←q'];exact ex,by simp[z8_],a⟩
  |false=>
   rw[q] at e
   obtain⟨y,w,h1,h2,h3⟩:=DenF.look b e
   refine⟨y,w,h1,?_,h3⟩
   rw[z8_]
   have ne:(y == x)=false:=by
    refine beq_eq_false_iff_ne.mpr λz=>?_
    subst z
    have:=D.inj _ _ _ ex h1
    rw[this] at q
    simp at q
   rw[ne];exact h2
theorem DenF.put{f:Nat}{x:Str}{t:T}{w:V}(hx:D.fn f=some x):∀{fs:List (Nat×T)} {gs:List (Str×V)},DenF D φ α H fs gs->Den D φ α H t w->DenF D φ α H (XD f t fs) (va x w gs)
 |[],gs,h,d=>by
  have:gs=[]:=h
  subst this
  exact⟨x,w,[],hx,rfl,d,rfl⟩
 |p::fs,gs,h,d=>by
  obtain⟨z,y,r,ez,rfl,dy,l⟩:=h
  rw[XN]
  show DenF D φ α H _ (if z=x then (z,w)::r else (z,y)::va x w r)
  cases q:zaL p.1 f with
  |true=>
   have q':=zd0 q
   have:z=x:=by rw[q',hx] at ez;exact (z8m ez).symm
   rw[if_pos this]
   exact⟨z,w,r,ez,rfl,d,l⟩
  |false=>
   have:z≠x:=λe=>by
    subst e
    have:=D.inj _ _ _ ez hx
    rw[this] at q
    simp at q
   rw[if_neg this]
   exact⟨z,y,va x w r,ez,rfl,dy,DenF.put hx l d⟩
theorem DenF.length:∀{fs:List (Nat×T)} {gs:List (Str×V)},DenF D φ α H fs gs->fs.length=gs.length
 |[],_,h=>by have:_=[]:=h;subst this;rfl
 |p::fs,_,h=>by
  obtain⟨x,v,r,_,rfl,_,b⟩:=h
  simp[DenF.length b]
structure MRel(D:DP)(φ α:List Addr)(H:Hp)(μ:Mem):Prop where
 len:α.length=μ.length
 nd:α.Nodup
 dis:∀b∈α,b∉φ
 phi:∀b∈φ,∃o,H b=some o
 ob:∀(i:Nat) (a:Addr) (o:MO),α[i]?=some a->μ[i]?=some o->DenO D φ α H o a
theorem DenO.lk{o:MO}{a:Addr}(s:Lk φ α H φ' α' H')(e:H' a=H a)(h:DenO D φ α H o a):DenO D φ' α' H' o a:=by
 cases o with
 |lst ts=>
  obtain⟨xs,q,l⟩:=h
  exact⟨xs,e.trans q,DenL.lk s l⟩
 |obj c fs=>
  obtain⟨C,dx,gs,ad,q,l⟩:=h
  exact⟨C,dx,gs,ad,e.trans q,DenF.lk s l⟩
 |dic kvs=>
  obtain⟨xs,q,l⟩:=h
  exact⟨xs,e.trans q,DenK.lk s l⟩
 |tab j=>
  obtain⟨pos,qn,ps,h1,h2,h3,h4⟩:=h
  refine⟨pos,qn,ps,h1,e.trans h2,h3,λp hp=>(h4 p hp).imp id λ⟨c,k1,k2,k3,k4⟩=>?_⟩
  obtain⟨m1,m2,m3⟩:=s.ob c _ k2 k3 k4
  exact⟨c,k1,m1,m2,m3⟩
theorem DenO.step{o:MO}{a:Addr}(s:Stp α H α' H')(e:H' a=H a)(h:DenO D φ α H o a):DenO D φ α' H' o a:=h.lk s.lk e
theorem DenO.some{o:MO}{a:Addr}(h:DenO D φ α H o a):∃u,H a=Option.some u:=by
 cases o with
 |lst ts=>obtain⟨xs,q,_⟩:=h;exact⟨_,q⟩
 |obj c fs=>obtain⟨C,dx,gs,_,q,_⟩:=h;exact⟨_,q⟩
 |dic ts=>obtain⟨xs,q,_⟩:=h;exact⟨_,q⟩
 |tab j=>obtain⟨_,_,ps,_,q,_⟩:=h;exact⟨_,q⟩
theorem MRel.new{μ:Mem}(m:MRel D φ α H μ)(s:xN H H'):MRel D φ α H' μ:=
 ⟨m.len,m.nd,m.dis,λb hb=>let ⟨o,e⟩:=m.phi b hb;⟨o,s b o e⟩,λi a o e1 e2=>by
  have d:=m.ob i a o e1 e2
  obtain⟨u,q⟩:=d.some
  exact d.step (Stp.new s) ((s _ _ q).trans q.symm)⟩
theorem MRel.lk{μ:Mem}(h:Lk φ α H φ' α H')(hα:∀a∈α,H' a=H a/\a∉φ')(hφ:∀b∈φ',∃o,H' b=some o)(m:MRel D φ α H μ):MRel D φ' α H' μ:=
 ⟨m.len,m.nd,λb hb=>(hα b hb).2,hφ,λi a o e1 e2=>(m.ob i a o e1 e2).lk h (hα a (z8F e1)).1⟩
structure SRel(D:DP)(φ α:List Addr)(H:Hp)(τ:Sl)(σ:St):Prop where
 len:τ.length=σ.length
 val:∀(i:Nat) (t:T),τ[i]?=some (some t)->∃v,σ[i]?=some (some v)/\Den D φ α H t v
theorem SRel.lk{τ:Sl}{σ:St}(r:SRel D φ α H τ σ)(s:Lk φ α H φ' α' H'):SRel D φ' α' H' τ σ:=⟨r.len,λi t e=>by
 obtain⟨v,q,d⟩:=r.val i t e
 exact⟨v,q,d.lk s⟩⟩
theorem SRel.step{τ:Sl}{σ:St}(r:SRel D φ α H τ σ)(s:Stp α H α' H'):SRel D φ α' H' τ σ:=r.lk s.lk
theorem SRel.set{τ:Sl}{σ:St}(r:SRel D φ α H τ σ){i:Nat}{t:T}{v:V}(d:Den D φ α H t v):SRel D φ α H (jX τ i (some t)) (σ.set i (some v)):=by
 rw[yr]
 refine⟨by simp[r.len],λj u e=>?_⟩
 by_cases h:i=j
 ·subst h
  rw[zbb] at e
  cases q:τ[i]? with
  |none=>rw[q] at e;cases e
  |some o=>
   rw[q] at e
   simp at e
   subst e
   have hl:i<σ.length:=by rw[←r.len];exact (z8h.mp q).1
   exact⟨v,by simp[hl],d⟩
 ·rw[z8S h] at e ⊢
  exact r.val j u e
theorem SRel.unset{τ:Sl}{σ:St}{i:Nat}(r:SRel D φ α H τ σ):SRel D φ α H (jX τ i none) (σ.set i none):=by
 rw[yr]
 refine⟨by simp[r.len],λj t e=>?_⟩
 by_cases h:i=j
 ·subst h
  rw[zbb] at e
  cases q:τ[i]? with
  |none=>rw[q] at e;cases e
  |some o=>rw[q] at e;cases e
 ·rw[z8S h] at e ⊢
  exact r.val j t e
theorem SRel.get{τ:Sl}{σ:St}(r:SRel D φ α H τ σ){i:Nat}{t:T}(e:Xt τ i=some t):∃v,σ[i]?=some (some v)/\Den D φ α H t v:=r.val i t (Kz.mp e)
end
theorem xu{φ α:List Addr}{H:Hp}{b:Addr}(hb:H b=none):Lk φ α H (φ++[b]) α H:=by
 refine⟨λa o n1 n2 e=>⟨λz=>?_,n2,e⟩,λ_ _ e=>e⟩
 rcases z8v.mp z with z|z
 ·exact n1 z
 ·rw[z8l.mp z,hb] at e
  cases e
theorem V2{φ α:List Addr}{H H':Hp}{b:Addr}(hb:H b=none)(s:xN H H'):Lk φ α H (φ++[b]) α H':=⟨λa o n1 n2 e=>let ⟨q1,q2,q3⟩:=(xu hb).ob a o n1 n2 e;⟨q1,q2,s a o e⟩,λ_ _ e=>e⟩
theorem w_{φ α:List Addr}{H:Hp}{b:Addr}:Lk (φ++[b]) α H φ α H:=⟨λa o n1 n2 e=>⟨λz=>n1 (z8E _ z),n2,e⟩,λ_ _ e=>e⟩
theorem uh{φ α:List Addr}{H:Hp}{b:Addr}{u:HO}(hb:b∈φ):Lk φ α H φ α (upd H b u):=⟨λa o n1 n2 e=>⟨n1,n2,by rw[z9 (λz:a=b=>n1 (by rw[z];exact hb))];exact e⟩,λ_ _ e=>e⟩
end
inductive Post(D:DP)(W:XW)(φ α:List Addr)(H:Hp)(σ:St){β:Type}(R:β->Mem->List Addr->Hp->Prop)(r:RE β):Prop where
 |mk (K:β->Mem->Prop) (Z:Xp) (q:r K Z) (h:(∀a μ',K a μ'->∀α' H',Stp α H α' H'->MRel D φ α' H' μ'->R a μ' α' H')/\
  ∀c fs μ',Z c fs μ'->∀α' H' C d,Stp α H α' H'->MRel D φ α' H' μ'->D.adr c=some C->XDict D φ α' H' fs d->W (.ref C) d σ H')
inductive RdP(D:DP)(H:Hp)(σ:St)(P:List Addr->List Addr->Sl->Mem->Prop):Prop where
 |mk (φ α:List Addr) (τ:Sl) (μ:Mem) (sr:SRel D φ α H τ σ) (mr:MRel D φ α H μ) (p:P φ α τ μ)
section
variable {D:DP}{W:XW}{φ α α':List Addr}{H H':Hp}{σ:St}{β γ:Type}{R R':β->Mem->List Addr->Hp->Prop}{S:γ->Mem->List Addr->Hp->Prop}
theorem Post.mono{r:RE β}(p:Post D W φ α H σ R r)(h:∀a μ' α' H',Stp α H α' H'->MRel D φ α' H' μ'->R a μ' α' H'->R' a μ' α' H'):Post D W φ α H σ R' r:=by
 obtain⟨K,Z,q,k,z⟩:=p
 exact⟨K,Z,q,λa μ' e α' H' s m=>h a μ' α' H' s m (k a μ' e α' H' s m),z⟩
theorem Post.bind{r:RE γ}{k:γ->Mem->RE β}(p:Post D W φ α H σ R (r.bind k)):Post D W φ α H σ (λa μ' α' H'=>Post D W φ α' H' σ R (k a μ')) r:=by
 obtain⟨K,Z,q,h,z⟩:=p
 exact⟨λa μ=>k a μ K Z,Z,q,λa μ' e α' H' s m=>⟨K,Z,e,λb μ2 e2 α2 H2 s2 m2=>h b μ2 e2 α2 H2 (s.trans s2) m2,λc fs μ2 e2 α2 H2 C d s2 m2=>z c fs μ2 e2 α2 H2 C d (s.trans s2) m2⟩,z⟩
theorem Post.elim{C:Prop}(p:Post D W φ α H σ R RE.st):C:=by obtain⟨_,_,q,_⟩:=p;exact q.elim
theorem Post.grd{c:Prop}{r:RE β}(p:Post D W φ α H σ R (RE.grd c r)):c/\Post D W φ α H σ R r:=by
 obtain⟨K,Z,q,h⟩:=p
 exact⟨q.1,K,Z,q.2,h⟩
theorem Post.som{o:Option γ}{k:γ->RE β}(p:Post D W φ α H σ R (RE.som o k)):∃a,o=some a/\Post D W φ α H σ R (k a):=by
 obtain⟨K,Z,⟨a,e,q⟩,h⟩:=p
 exact⟨a,e,K,Z,q,h⟩
theorem Post.br{b:Bool}{r s:RE β}(p:Post D W φ α H σ R (RE.br b r s)):(b=true/\Post D W φ α H σ R r)\/(b=false/\Post D W φ α H σ R s):=by
 obtain⟨K,Z,q,h⟩:=p
 cases b with
 |true=>exact .inl ⟨rfl,K,Z,q,h⟩
 |false=>exact .inr ⟨rfl,K,Z,q,h⟩
theorem Post.ok{a:β}{μ:Mem}(p:Post D W φ α H σ R (RE.ok a μ)){α':List Addr}{H':Hp}(s:Stp α H α' H')(m:MRel D φ α' H' μ):R a μ α' H':=by
 obtain⟨K,Z,q,h,_⟩:=p
 exact h a μ q α' H' s m
theorem Post.step{r:RE β}(p:Post D W φ α H σ R r)(st:Stp α H α' H'):Post D W φ α' H' σ R r:=by
 obtain⟨K,Z,q,h,z⟩:=p
 exact⟨K,Z,q,λb μ2 e2 α2 H2 s2 m2=>h b μ2 e2 α2 H2 (st.trans s2) m2,λc fs μ2 e2 α2 H2 C d s2 m2=>z c fs μ2 e2 α2 H2 C d (st.trans s2) m2⟩
theorem Post.ex1{δ:Type}{P:δ->Prop}{k:δ->RE β}(p:Post D W φ α H σ R (λK Z=>∃x,P x/\k x K Z)):∃x,P x/\Post D W φ α H σ R (k x):=by
 obtain⟨K,Z,⟨x,hx,q⟩,h⟩:=p
 exact⟨x,hx,K,Z,q,h⟩
end
def rdE (D:DP)(W:XW)(f:De):TE:=λσ H Q=>RdP D H σ λφ α τ μ=>Post D W φ α H σ (λt _ α' H'=>∀v,Den D φ α' H' t v->Q v H') (f τ μ)
def rdT (D:DP)(W:XW)(f:Dt):TT:=λσ H Q=>RdP D H σ λφ α τ μ=>Post D W φ α H σ (λb _ _ H'=>Q b H') (f τ μ)
def rdA (D:DP)(W:XW)(n:Nat)(f:Da):TA:=λσ H Q=>RdP D H σ λφ α τ μ=>Post D W φ α H σ (λts _ α' H'=>∀vs,DenL D φ α' H' ts vs->vs.length=n->Q vs H') (f τ μ)
section
variable {X:Cx}{D:DP}{W:XW}{pins:List (Addr×Obj)}{s:Shared}{σ:St}{H:Hp}{φ α:List Addr}{τ:Sl}{μ:Mem}{β:Type}{R:β->Mem->List Addr->Hp->Prop}
inductive SubP(X:Cx)(D:DP)(W:XW)(pins:List (Addr×Obj))(σ:St)(H:Hp)(φ α:List Addr)(τ:Sl){β:Type}(R:β->Mem->List Addr->Hp->Prop)(k:T->Mem->RE β)(u:Value)(s1:Shared):Prop where
 |mk (v:V) (H1:Hp) (t:T) (μ1:Mem) (α1:List Addr) (i:Inv X pins σ H1 s1) (r:RelV v u) (st:Stp α H α1 H1) (sr:SRel D φ α1 H1 τ σ) (mr:MRel D φ α1 H1 μ1) (d:Den D φ α1 H1 t v) (p:Post D W φ α1 H1 σ R (k t μ1))
inductive SubT(X:Cx)(D:DP)(W:XW)(pins:List (Addr×Obj))(σ:St)(H:Hp)(φ α:List Addr)(τ:Sl){β:Type}(R:β->Mem->List Addr->Hp->Prop)(k:Bool->Mem->RE β)(b:Bool)(s1:Shared):Prop where
 |mk (H1:Hp) (μ1:Mem) (α1:List Addr) (i:Inv X pins σ H1 s1) (st:Stp α H α1 H1) (sr:SRel D φ α1 H1 τ σ) (mr:MRel D φ α1 H1 μ1) (p:Post D W φ α1 H1 σ R (k b μ1))
inductive SubA(X:Cx)(D:DP)(W:XW)(pins:List (Addr×Obj))(σ:St)(H:Hp)(φ α:List Addr)(τ:Sl){β:Type}(R:β->Mem->List Addr->Hp->Prop)(n:Nat)(k:List T->Mem->RE β)(us:List Value)(s1:Shared):Prop where
 |mk (vs:List V) (H1:Hp) (ts:List T) (μ1:Mem) (α1:List Addr) (i:Inv X pins σ H1 s1) (r:Vals vs us) (st:Stp α H α1 H1) (sr:SRel D φ α1 H1 τ σ) (mr:MRel D φ α1 H1 μ1) (d:DenL D φ α1 H1 ts vs) (hn:vs.length=n) (p:Post D W φ α1 H1 σ R (k ts μ1))
theorem sub{a:Expr}{f:Sl->Mem->RE T}{k:T->Mem->RE β}(ha:PE X a (rdE D W f))(I:Inv X pins σ H s)(sr:SRel D φ α H τ σ)(mr:MRel D φ α H μ)(p:Post D W φ α H σ R ((f τ μ).bind k)) :
  z8t (z8u X.prog X.w) X.A (eval a X.env) (SubP X D W pins σ H φ α τ R k) X.xe s:=by
 refine thn (ha pins s σ H (λv H1=>∃t μ1 α1,Stp α H α1 H1/\SRel D φ α1 H1 τ σ/\MRel D φ α1 H1 μ1/\Den D φ α1 H1 t v/\Post D W φ α1 H1 σ R (k t μ1)) I ⟨φ,α,τ,μ,sr,mr,p.bind.mono λt μ' α' H' st m q v d=>⟨t,μ',α',st,sr.step st,m,d,q⟩⟩) ?_
 rintro u s1 ⟨v,H1,I1,r,t,μ1,α1,h1,h2,h3,h4,h⟩
 exact⟨v,H1,t,μ1,α1,I1,r,h1,h2,h3,h4,h⟩
theorem z6s{a:Expr}{f:Sl->Mem->RE Bool}{k:Bool->Mem->RE β}(ha:PT X a (rdT D W f))(I:Inv X pins σ H s)(sr:SRel D φ α H τ σ)(mr:MRel D φ α H μ)(p:Post D W φ α H σ R ((f τ μ).bind k)) :
  z8t (z8u X.prog X.w) X.A (isTrue a X.env (eval a X.env)) (SubT X D W pins σ H φ α τ R k) X.xe s:=by
 refine thn (ha pins s σ H (λb H1=>∃μ1 α1,Stp α H α1 H1/\SRel D φ α1 H1 τ σ/\MRel D φ α1 H1 μ1/\Post D W φ α1 H1 σ R (k b μ1)) I ⟨φ,α,τ,μ,sr,mr,p.bind.mono λb μ' α' H' st m q=>⟨μ',α',st,sr.step st,m,q⟩⟩) ?_
 rintro b s1 ⟨H1,I1,μ1,α1,h1,h2,h3,h⟩
 exact⟨H1,μ1,α1,I1,h1,h2,h3,h⟩
theorem XB{es:List Expr}{n:Nat}{pos:Pos}{f:Da}{k:List T->Mem->RE β}(ha:PA X es (rdA D W n f))(I:Inv X pins σ H s)(sr:SRel D φ α H τ σ)(mr:MRel D φ α H μ)(p:Post D W φ α H σ R ((f τ μ).bind k)) :
  z8t (z8u X.prog X.w) X.A (spliced (zaw pos (z96 es X.env))) (SubA X D W pins σ H φ α τ R n k) X.xe s:=by
 refine thn (ha pos pins s σ H (λvs H1=>∃ts μ1 α1,Stp α H α1 H1/\SRel D φ α1 H1 τ σ/\MRel D φ α1 H1 μ1/\DenL D φ α1 H1 ts vs/\vs.length=n/\Post D W φ α1 H1 σ R (k ts μ1)) I ⟨φ,α,τ,μ,sr,mr,p.bind.mono λts μ' α' H' st m q vs d hn=>⟨ts,μ',α',st,sr.step st,m,d,hn,q⟩⟩) ?_
 rintro us s1 ⟨vs,H1,I1,r,ts,μ1,α1,h1,h2,h3,h4,h5,h⟩
 exact⟨vs,H1,ts,μ1,α1,I1,r,h1,h2,h3,h4,h5,h⟩
abbrev RV(D:DP)(φ:List Addr)(Q:VK):T->Mem->List Addr->Hp->Prop:=λt _ α' H'=>∀v,Den D φ α' H' t v->Q v H'
theorem Post.here{Q:VK}{t:T}{v:V}(p:Post D W φ α H σ (RV D φ Q) (.ok t μ))(mr:MRel D φ α H μ)(d:Den D φ α H t v):Q v H:=p.ok (Stp.refl _ _) mr v d
theorem Post.fresh{Q:VK}{t:T}{v:V}{H':Hp}(p:Post D W φ α H σ (RV D φ Q) (.ok t μ))(mr:MRel D φ α H μ)(sm:xN H H')(d:Den D φ α H' t v):Q v H':=p.ok (Stp.new sm) (mr.new sm) v d
theorem zB{n:Nat}(h:n<=room):n<=sizeLine:=z8G h (by unfold room;decide)
theorem zv{α:List Addr}(mr:MRel D φ α H μ){p:Addr}(h:H p=none):p∉φ:=λz=>by
 obtain⟨o,e⟩:=mr.phi p z
 rw[h] at e;cases e
theorem zu{α:List Addr}(mr:MRel D φ α H μ){p:Addr}(h:H p=none):p∉α:=λz=>by
 obtain⟨i,hi⟩:=zaI.mp z
 have hl:i<μ.length:=by rw[←mr.len];exact (z8h.mp hi).1
 obtain⟨u,e⟩:=(mr.ob i p μ[i] hi (by simp[hl])).some
 rw[h] at e;cases e
theorem qR:∀{ts:List T} {ns:List Int} {vs:List V},intsOf ts=some ns->DenL D φ α H ts vs->vs=ns.map V.int
 |[],ns,vs,h,l=>by
  simp[intsOf] at h;subst h
  exact l
 |t::ts,ns,vs,h,l=>by
  obtain⟨v,r,rfl,d,l⟩:=l
  cases t with
  |int i=>
   simp only[intsOf] at h
   cases q:intsOf ts with
   |none=>rw[q] at h;cases h
   |some ms=>
    rw[q] at h;cases h
    rw[qR q l]
    have d:v=.int i:=d
    rw[d];rfl
  |_=>simp[intsOf] at h
theorem Kr:OpR X (za1 .Add) (λx y H Q=>∃l b xs zs,x=.ref l/\y=.ref b/\Rd H l (.lst xs)/\Rd H b (.lst zs)/\xs.length+zs.length<=sizeLine/\∀p,H p=none->Q (.ref p) (upd H p (.lst (xs++zs)))):=by
 intro pins s σ H x y v u Q I rx ry h
 obtain⟨l,b,xs,zs,rfl,rfl,hH,hB,hz,q⟩:=h
 cases rx
 cases ry
 obtain⟨z,its,n,r,e⟩:=hH.ok I.hok
 obtain⟨z2,its2,n2,r2,e2⟩:=hB.ok I.hok
 refine PySem.P.add_list e e2 ?_ (by rw[z8A,z8A,←r.length,←r2.length];exact hz)
 rw[show its.toArray++its2.toArray=(its++its2).toArray by simp]
 exact⟨.ref _,_,I.lnew (t':=s.toks) (r.append r2) (by rw[z8Z];exact hz),rfl,q _ I.fresh⟩
theorem z0z:OpR X (za1 .Add) (λx y H Q=>∃a b ys,x=.ref a/\y=.ref b/\SqT X.K H a []/\SqT X.K H b ys/\Q (.ref b) H):=by
 intro pins s σ H x y v u Q I rx ry h
 obtain⟨a,b,ys,rfl,rfl,ha,hb,q⟩:=h
 cases rx
 cases ry
 obtain⟨its,r1,p1,_⟩:=I.tuple ha
 obtain⟨its2,r2,p2,_⟩:=I.tuple hb
 cases r1
 obtain⟨⟨cls,dd,data,sl⟩,ho,hc,n,hd⟩:=id p1
 obtain⟨⟨cls2,dd2,data2,sl2⟩,ho2,hc2,n2,hd2⟩:=id p2
 simp only at hc hd hc2 hd2
 subst hc hd hc2 hd2
 exact zdY ⟨_,ho,rfl⟩ ⟨_,ho2,rfl⟩ zcu zdr zbf zb8 (zaZ _ _)
  (tuple_addW0 a b #[] its2.toArray n n2 dd dd2 sl sl2 rfl) ⟨ho,ho2,⟨.ref b,H,I,rfl,q⟩⟩
theorem Uz:OpR X (za1 .FloorDiv) (rI (λ_ j=>0<j/\j<1606938044258990275541962092341162602522202993782792835301376) λi j=>.int (i / j)):=opI λi j _ _ _ _ _ hc q=>by
 have h1:(0:Int)<j:=hc.1
 have h2:j<1606938044258990275541962092341162602522202993782792835301376:=hc.2
 refine floordiv_int (by omega) (by rw[zbR i (by omega)];exact q) (.inl (PyProof.noPylong_of_log2 ?_))
 refine z8w ((Nat.log2_lt (by omega)).2 (show j.natAbs<2 ^ 200 by omega)) (by decide)
theorem vy{f:Int->Int->Mem->RE T}{x y:T}{Q:VK}(p:Post D W φ α H σ (RV D φ Q) (QV f x y μ)):∃i j,x=.int i/\y=.int j/\Post D W φ α H σ (RV D φ Q) (f i j μ):=by
 unfold QV at p
 split at p
 ·exact⟨_,_,rfl,rfl,p⟩
 ·exact p.elim
theorem z4X{op:zf9}{x y:T}{v1 v2:V}{u1 u2:Value}{Q:VK}(I:Inv X pins σ H s)(mr:MRel D φ α H μ)(d1:Den D φ α H x v1)(d2:Den D φ α H y v2)(r1:RelV v1 u1)(r2:RelV v2 u2)
  (p:Post D W φ α H σ (RV D φ Q) (z6M op x y μ)):z8t (z8u X.prog X.w) X.A (za1 op u1 u2) (EP X pins σ Q) X.xe s:=by
 have cat:∀{a b:Addr} {vs ws:List V} {xs ys:List T},Rd H a (.lst vs)->Rd H b (.lst ws)->DenL D φ α H xs vs->DenL D φ α H ys ws->v1=.ref a->v2=.ref b->xs.length+ys.length<=room->Post D W φ α H σ (RV D φ Q) (RE.ok (.lst (xs++ys)) μ)->z8t (z8u X.prog X.w) X.A (za1 .Add u1 u2) (EP X pins σ Q) X.xe s:=λ{a b vs ws xs ys} q1 q2 l1 l2 e1 e2 h p=>by
  subst e1 e2
  refine Kr pins s σ H _ _ _ _ Q I r1 r2 ⟨a,b,vs,ws,rfl,rfl,q1,q2,by rw[←l1.length,←l2.length];exact zB h,λz hz=>?_⟩
  have sm:=zh (o:=.lst (vs++ws)) hz
  exact p.fresh mr sm ⟨z,_,rfl,zv mr hz,zu mr hz,.inl z8,(l1.step (Stp.new sm)).append (l2.step (Stp.new sm))⟩
 cases op with
 |Add=>
  replace p:Post D W φ α H σ (RV D φ Q) (z3m x y μ):=p
  unfold z3m at p
  split at p
  ·cases d1;cases d2
   exact z5g pins s σ H _ _ _ _ Q I r1 r2 ⟨_,_,rfl,rfl,p.here mr rfl⟩
  ·cases d1;cases d2
   obtain⟨h,p⟩:=p.grd
   exact VH pins s σ H _ _ _ _ Q I r1 r2 ⟨_,_,rfl,rfl,zB h,p.here mr rfl⟩
  ·obtain⟨h,p⟩:=p.grd
   obtain⟨a,vs,rfl,n1,n2,q1,l1⟩:=d1
   obtain⟨b,ws,rfl,m1,m2,q2,l2⟩:=d2
   refine Kr pins s σ H _ _ _ _ Q I r1 r2 ⟨a,b,vs,ws,rfl,rfl,q1,q2,by rw[←l1.length,←l2.length];exact zB h,λz hz=>?_⟩
   have sm:=zh (o:=.lst (vs++ws)) hz
   exact p.fresh mr sm ⟨z,_,rfl,zv mr hz,zu mr hz,.inl z8,(l1.step (Stp.new sm)).append (l2.step (Stp.new sm))⟩
  ·rename_i xs ys
   obtain⟨h,p⟩:=p.grd
   ·obtain⟨a,vs,rfl,n1,n2,q1,l1⟩:=d1
    obtain⟨b,ws,rfl,m1,m2,q2,l2⟩:=d2
    cases vs with
    |nil=>
     cases xs with
     |cons x xs=>obtain⟨_,_,e,_⟩:=l1;cases e
     |nil=>exact z0z pins s σ H _ _ _ _ Q I r1 r2 ⟨a,b,ws,rfl,rfl,.inl q1,.inl q2,p.here mr ⟨b,ws,rfl,m1,m2,q2,l2⟩⟩
    |cons v vs=>
     refine z1S pins s σ H _ _ _ _ Q I r1 r2 ⟨a,b,v::vs,ws,rfl,rfl,.inl q1,.inl q2,by simp,by rw[←l1.length,←l2.length];exact zB h,λhw=>?_,λhw z hz=>?_⟩
     ·subst hw
      cases ys with
      |cons y ys=>obtain⟨_,_,e,_⟩:=l2;cases e
      |nil=>
       rw[z98] at p
       exact p.here mr ⟨a,v::vs,rfl,n1,n2,q1,l1⟩
     ·have sm:=zh (o:=.tup (v::vs++ws)) hz
      exact p.fresh mr sm ⟨z,_,rfl,zv mr hz,zu mr hz,.inl z8,(l1.step (Stp.new sm)).append (l2.step (Stp.new sm))⟩
  ·obtain⟨xs,hi,p⟩:=p.ex1
   obtain⟨h,p⟩:=Post.grd p
   obtain⟨a,hi',rfl⟩:=d1
   obtain⟨vs,q1,l1⟩:=mr.ob _ a _ hi' hi
   obtain⟨b,ws,rfl,m1,m2,q2,l2⟩:=d2
   exact cat (.inl q1) q2 l1 l2 rfl rfl h p
  ·obtain⟨ys,hi,p⟩:=p.ex1
   obtain⟨h,p⟩:=Post.grd p
   obtain⟨a,hi',rfl⟩:=d2
   obtain⟨vs,q1,l1⟩:=mr.ob _ a _ hi' hi
   obtain⟨b,ws,rfl,m1,m2,q2,l2⟩:=d1
   exact cat q2 (.inl q1) l2 l1 rfl rfl h p
  ·obtain⟨pr,hi,p⟩:=p.ex1
   obtain⟨h,p⟩:=Post.grd p
   obtain⟨a,hi',rfl⟩:=d1
   obtain⟨vs,q1,l1⟩:=mr.ob _ a _ hi' hi.1
   obtain⟨b,hj',rfl⟩:=d2
   obtain⟨ws,q2,l2⟩:=mr.ob _ b _ hj' hi.2
   exact cat (.inl q1) (.inl q2) l1 l2 rfl rfl h p
  ·exact p.elim
 |Sub=>
  obtain⟨i,j,rfl,rfl,p⟩:=vy p
  cases d1;cases d2
  exact z3E pins s σ H _ _ _ _ Q I r1 r2 ⟨_,_,rfl,rfl,p.here mr rfl⟩
 |Mult=>
  obtain⟨i,j,rfl,rfl,p⟩:=vy p
  cases d1;cases d2
  obtain⟨h,p⟩:=p.grd
  exact z3F pins s σ H _ _ _ _ Q I r1 r2 ⟨_,_,rfl,rfl,by simpa[CMul,big] using h,p.here mr rfl⟩
 |FloorDiv=>
  obtain⟨i,j,rfl,rfl,p⟩:=vy p
  cases d1;cases d2
  obtain⟨h,p⟩:=p.grd
  exact Uz pins s σ H _ _ _ _ Q I r1 r2 ⟨_,_,rfl,rfl,h,p.here mr rfl⟩
 |Mod=>
  obtain⟨i,j,rfl,rfl,p⟩:=vy p
  cases d1;cases d2
  obtain⟨h,p⟩:=p.grd
  exact z4K pins s σ H _ _ _ _ Q I r1 r2 ⟨_,_,rfl,rfl,h,p.here mr rfl⟩
 |Pow=>
  obtain⟨i,j,rfl,rfl,p⟩:=vy p
  cases d1;cases d2
  obtain⟨h,p⟩:=p.grd
  exact z5S pins s σ H _ _ _ _ Q I r1 r2 ⟨_,_,rfl,rfl,⟨h.1,h.2.1,by simpa using h.2.2⟩,p.here mr rfl⟩
 |RShift=>
  obtain⟨i,j,rfl,rfl,p⟩:=vy p
  cases d1;cases d2
  obtain⟨h,p⟩:=p.grd
  exact z5R pins s σ H _ _ _ _ Q I r1 r2 ⟨_,_,rfl,rfl,h,p.here mr rfl⟩
 |BitAnd=>
  obtain⟨i,j,rfl,rfl,p⟩:=vy p
  cases d1;cases d2
  exact z3b pins s σ H _ _ _ _ Q I r1 r2 ⟨_,_,rfl,rfl,p.here mr rfl⟩
 |_=>exact (show Post D W φ α H σ (RV D φ Q) .st from p).elim
end
section
section
variable {D:DP}{φ α:List Addr}{H:Hp}
theorem Rd.inj{a:Addr}{u w:HO}(hu:∀o z,u≠.frz o z)(hw:∀o z,w≠.frz o z)(r:Rd H a u)(q:Rd H a w):u=w:=by
 rcases r with r|⟨o,r⟩<;>rcases q with q|⟨o',q⟩<;>rw[r] at q
 ·exact z8m q
 ·exact absurd (z8m q) (hu _ _)
 ·exact absurd (z8m q).symm (hw _ _)
 ·injection z8m q
mutual
theorem ug:∀{t u:T} {v:V} {k:Bool},Den D φ α H t v->Den D φ α H u v->eqT t u=some k->k=true
 |.int i,u,_,k,h1,h2,e=>by
  have h1:_=V.int i:=h1
  subst h1
  cases u with
  |int j=>have h2:V.int i=V.int j:=h2;injection h2 with h2;subst h2;rw[←z8m e];simp
  |bl b=>have h2:V.int i=V.bl b:=h2;cases h2
  |str b=>have h2:V.int i=V.str b:=h2;cases h2
  |non=>have h2:V.int i=V.non:=h2;cases h2
  |tup b=>obtain⟨_,_,h2,_⟩:=h2;cases h2
  |lst b=>obtain⟨_,_,h2,_⟩:=h2;cases h2
  |_=>cases e
 |.bl i,u,_,k,h1,h2,e=>by
  have h1:_=V.bl i:=h1
  subst h1
  cases u with
  |bl j=>have h2:V.bl i=V.bl j:=h2;injection h2 with h2;subst h2;rw[←z8m e];simp
  |int b=>have h2:V.bl i=V.int b:=h2;cases h2
  |str b=>have h2:V.bl i=V.str b:=h2;cases h2
  |non=>have h2:V.bl i=V.non:=h2;cases h2
  |tup b=>obtain⟨_,_,h2,_⟩:=h2;cases h2
  |lst b=>obtain⟨_,_,h2,_⟩:=h2;cases h2
  |_=>cases e
 |.str i,u,_,k,h1,h2,e=>by
  have h1:_=V.str i:=h1
  subst h1
  cases u with
  |str j=>have h2:V.str i=V.str j:=h2;injection h2 with h2;subst h2;rw[←z8m e];simp
  |int b=>have h2:V.str i=V.int b:=h2;cases h2
  |bl b=>have h2:V.str i=V.bl b:=h2;cases h2
  |non=>have h2:V.str i=V.non:=h2;cases h2
  |tup b=>obtain⟨_,_,h2,_⟩:=h2;cases h2
  |lst b=>obtain⟨_,_,h2,_⟩:=h2;cases h2
  |_=>cases e
 |.non,u,_,k,h1,h2,e=>by
  have h1:_=V.non:=h1
  subst h1
  cases u with
  |non=>exact (z8m e).symm
  |int b=>have h2:V.non=V.int b:=h2;cases h2
  |bl b=>have h2:V.non=V.bl b:=h2;cases h2
  |str b=>have h2:V.non=V.str b:=h2;cases h2
  |tup b=>obtain⟨_,_,h2,_⟩:=h2;cases h2
  |lst b=>obtain⟨_,_,h2,_⟩:=h2;cases h2
  |_=>cases e
 |.tup ts,u,_,k,h1,h2,e=>by
  obtain⟨a,xs,rfl,_,_,r,l⟩:=h1
  cases u with
  |tup us=>
   obtain⟨b,ys,e2,_,_,r',l'⟩:=h2
   cases e2
   have:=Rd.inj (by intro _ _ z;cases z) (by intro _ _ z;cases z) r r'
   injection this with this
   subst this
   exact xl l l' e
  |lst us=>
   obtain⟨b,ys,e2,_,_,r',l'⟩:=h2
   cases e2
   have:=Rd.inj (by intro _ _ z;cases z) (by intro _ _ z;cases z) r r'
   cases this
  |int b=>have h2:V.ref a=V.int b:=h2;cases h2
  |bl b=>have h2:V.ref a=V.bl b:=h2;cases h2
  |str b=>have h2:V.ref a=V.str b:=h2;cases h2
  |non=>have h2:V.ref a=V.non:=h2;cases h2
  |_=>cases e
 |.lst ts,u,_,k,h1,h2,e=>by
  obtain⟨a,xs,rfl,_,_,r,l⟩:=h1
  cases u with
  |lst us=>
   obtain⟨b,ys,e2,_,_,r',l'⟩:=h2
   cases e2
   have:=Rd.inj (by intro _ _ z;cases z) (by intro _ _ z;cases z) r r'
   injection this with this
   subst this
   exact xl l l' e
  |tup us=>
   obtain⟨b,ys,e2,_,_,r',l'⟩:=h2
   cases e2
   have:=Rd.inj (by intro _ _ z;cases z) (by intro _ _ z;cases z) r r'
   cases this
  |int b=>have h2:V.ref a=V.int b:=h2;cases h2
  |bl b=>have h2:V.ref a=V.bl b:=h2;cases h2
  |str b=>have h2:V.ref a=V.str b:=h2;cases h2
  |non=>have h2:V.ref a=V.non:=h2;cases h2
  |_=>cases e
 |.obj _ _,_,_,_,_,_,e=>by cases e
 |.mut _,_,_,_,_,_,e=>by cases e
 |.exc _ _,_,_,_,_,_,e=>by cases e
 |.dic _,_,_,_,_,_,e=>by cases e
 |.clo _ _,_,_,_,_,_,e=>by cases e
theorem xl:∀{ts us:List T} {vs:List V} {k:Bool},DenL D φ α H ts vs->DenL D φ α H us vs->eqL ts us=some k->k=true
 |[],[],_,k,_,_,e=>by simpa[eqL] using e.symm
 |[],_::_,_,k,h1,h2,e=>by
  have h1:_=[]:=h1
  obtain⟨_,_,h2,_⟩:=h2
  rw[h1] at h2;cases h2
 |_::_,[],_,k,h1,h2,e=>by
  have h2:_=[]:=h2
  obtain⟨_,_,h1,_⟩:=h1
  rw[h2] at h1;cases h1
 |t::ts,u::us,_,k,h1,h2,e=>by
  obtain⟨v,r,rfl,a1,b1⟩:=h1
  obtain⟨v',r',q,a2,b2⟩:=h2
  injection q with q1 q2
  subst q1 q2
  cases h:eqT t u with
  |none=>simp[eqL,h] at e
  |some x=>
   cases h':eqL ts us with
   |none=>simp[eqL,h,h'] at e
   |some y=>
    have e1:=ug a1 a2 h
    have e2:=xl b1 b2 h'
    subst e1 e2
    simpa[eqL,h,h'] using e.symm
end
end
section
variable {X:Cx}{D:DP}{pins:List (Addr×Obj)}{s:Shared}{σ:St}{H:Hp}{φ α:List Addr}
theorem yJ:∀{ts us:List T} {k:Bool},eqL ts us=some k->(∀j (h1:j<ts.length) (h2:j<us.length),∃b,eqT ts[j] us[j]=some b)/\
  k=((z9i (min ts.length us.length)).all (λj=>match ts[j]?,us[j]? with|some t,some u=>(eqT t u).getD false|_,_=>false)&&ts.length == us.length)
 |[],[],k,e=>by
  simp[eqL] at e;subst e
  exact⟨λj h1=>by simp at h1,by simp⟩
 |[],u::us,k,e=>by
  simp[eqL] at e;subst e
  exact⟨λj h1=>by simp at h1,by simp⟩
 |t::ts,[],k,e=>by
  simp[eqL] at e;subst e
  exact⟨λj h1 h2=>by simp at h2,by simp⟩
 |t::ts,u::us,k,e=>by
  cases h:eqT t u with
  |none=>simp[eqL,h] at e
  |some x=>
   cases h':eqL ts us with
   |none=>simp[eqL,h,h'] at e
   |some y=>
    obtain⟨g,ih⟩:=yJ h'
    simp[eqL,h,h'] at e
    subst e
    refine⟨λj h1 h2=>?_,?_⟩
    ·cases j with
     |zero=>exact⟨x,h⟩
     |succ j=>exact g j (by simpa using h1) (by simpa using h2)
    ·rw[ih]
     have e1:min (t::ts).length (u::us).length=min ts.length us.length+1:=by simp[Nat.succ_min_succ]
     rw[e1,List.range_succ_eq_map,z9e,zbK]
     simp only[zcy,h,zcz,zcb,zcA,z8L]
     rw[Bool.and_assoc]
     congr 2
     simp
theorem in1_units(A:z8V):A.in1.units=A.units+1:=by first|rfl|simp[Around.in1,Around.units]
theorem eqAt_int(I:Inv X pins σ H s){i:Int}{u:T}{v w:V}{a b:Value}{k:Bool}{A:z8V}(h1:Den D φ α H (.int i) v)(h2:Den D φ α H u w)(r1:RelV v a)(r2:RelV w b)(e:eqT (.int i) u=some k)(hu:A.units+vW (.int i)+1<cLine):za4 A s a b k:=by
 have h1:_=V.int i:=h1
 subst h1
 obtain⟨t1,rfl⟩:=r1
 cases u with
 |int j=>have h2:w=V.int j:=h2;subst h2;obtain⟨t2,rfl⟩:=r2;cases z8m e;exact zdB _ _ _ _
 |bl j=>have h2:w=V.bl j:=h2;subst h2;cases r2;cases z8m e;exact SeqAt.EqAt.int_bool _ _ _
 |str j=>have h2:w=V.str j:=h2;subst h2;obtain⟨t2,rfl⟩:=r2;cases z8m e;exact zdw _ _ _ _
 |non=>have h2:w=V.non:=h2;subst h2;cases r2;cases z8m e;exact SeqAt.EqAt.int_none _ _
 |tup ys=>obtain⟨c,xs,rfl,_,_,r,_⟩:=h2;cases r2;obtain⟨its,_,p,_⟩:=I.tuple (.inl r);cases z8m e;exact SeqAt.EqAt.int_tuple _ _ p (by omega)
 |lst ys=>obtain⟨c,xs,rfl,_,_,r,_⟩:=h2;cases r2;obtain⟨its,_,p,_⟩:=I.list (.inl r);cases z8m e;exact SeqAt.EqAt.int_list _ _ p.isList (by omega)
 |_=>cases e
theorem z0P(I:Inv X pins σ H s){i:Bool}{u:T}{v w:V}{a b:Value}{k:Bool}{A:z8V}(h1:Den D φ α H (.bl i) v)(h2:Den D φ α H u w)(r1:RelV v a)(r2:RelV w b)(e:eqT (.bl i) u=some k)(hu:A.units+vW (.bl i)+1<cLine):za4 A s a b k:=by
 have h1:_=V.bl i:=h1
 subst h1
 cases r1
 cases u with
 |int j=>have h2:w=V.int j:=h2;subst h2;obtain⟨t2,rfl⟩:=r2;cases z8m e;exact SeqAt.EqAt.bool_int _ _ _
 |bl j=>have h2:w=V.bl j:=h2;subst h2;cases r2;cases z8m e;exact zbw _ _
 |str j=>have h2:w=V.str j:=h2;subst h2;obtain⟨t2,rfl⟩:=r2;cases z8m e;exact SeqAt.EqAt.bool_str _ _ _
 |non=>have h2:w=V.non:=h2;subst h2;cases r2;cases z8m e;exact SeqAt.EqAt.bool_none _
 |tup ys=>obtain⟨c,xs,rfl,_,_,r,_⟩:=h2;cases r2;obtain⟨its,_,p,_⟩:=I.tuple (.inl r);cases z8m e;exact SeqAt.EqAt.bool_tuple _ p (by omega)
 |lst ys=>obtain⟨c,xs,rfl,_,_,r,_⟩:=h2;cases r2;obtain⟨its,_,p,_⟩:=I.list (.inl r);cases z8m e;exact SeqAt.EqAt.bool_list _ p.isList (by omega)
 |_=>cases e
theorem Ux(I:Inv X pins σ H s){i:Str}{u:T}{v w:V}{a b:Value}{k:Bool}{A:z8V}(h1:Den D φ α H (.str i) v)(h2:Den D φ α H u w)(r1:RelV v a)(r2:RelV w b)(e:eqT (.str i) u=some k)(hu:A.units+vW (.str i)+1<cLine):za4 A s a b k:=by
 have h1:_=V.str i:=h1
 subst h1
 obtain⟨t1,rfl⟩:=r1
 cases u with
 |int j=>have h2:w=V.int j:=h2;subst h2;obtain⟨t2,rfl⟩:=r2;cases z8m e;exact zdx _ _ _ _
 |bl j=>have h2:w=V.bl j:=h2;subst h2;cases r2;cases z8m e;exact SeqAt.EqAt.str_bool _ _ _
 |str j=>have h2:w=V.str j:=h2;subst h2;obtain⟨t2,rfl⟩:=r2;cases z8m e;exact SeqAt.EqAt.str_str _ _ _ _
 |non=>have h2:w=V.non:=h2;subst h2;cases r2;cases z8m e;exact SeqAt.EqAt.str_none _ _
 |tup ys=>obtain⟨c,xs,rfl,_,_,r,_⟩:=h2;cases r2;obtain⟨its,_,p,_⟩:=I.tuple (.inl r);cases z8m e;exact SeqAt.EqAt.str_tuple _ _ p (by omega)
 |lst ys=>obtain⟨c,xs,rfl,_,_,r,_⟩:=h2;cases r2;obtain⟨its,_,p,_⟩:=I.list (.inl r);cases z8m e;exact SeqAt.EqAt.str_list _ _ p.isList (by omega)
 |_=>cases e
theorem Uy(I:Inv X pins σ H s){u:T}{v w:V}{a b:Value}{k:Bool}{A:z8V}(h1:Den D φ α H .non v)(h2:Den D φ α H u w)(r1:RelV v a)(r2:RelV w b)(e:eqT .non u=some k)(hu:A.units+vW .non+1<cLine):za4 A s a b k:=by
 have h1:_=V.non:=h1
 subst h1
 cases r1
 cases u with
 |int j=>have h2:w=V.int j:=h2;subst h2;obtain⟨t2,rfl⟩:=r2;cases z8m e;exact SeqAt.EqAt.none_int _ _
 |bl j=>have h2:w=V.bl j:=h2;subst h2;cases r2;cases z8m e;exact SeqAt.EqAt.none_bool _
 |str j=>have h2:w=V.str j:=h2;subst h2;obtain⟨t2,rfl⟩:=r2;cases z8m e;exact SeqAt.EqAt.none_str _ _
 |non=>have h2:w=V.non:=h2;subst h2;cases r2;cases z8m e;exact zcT _
 |tup ys=>obtain⟨c,xs,rfl,_,_,r,_⟩:=h2;cases r2;obtain⟨its,_,p,_⟩:=I.tuple (.inl r);cases z8m e;exact SeqAt.EqAt.none_tuple p (by omega)
 |lst ys=>obtain⟨c,xs,rfl,_,_,r,_⟩:=h2;cases r2;obtain⟨its,_,p,_⟩:=I.list (.inl r);cases z8m e;exact SeqAt.EqAt.none_list p.isList (by omega)
 |_=>cases e
theorem VZ(I:Inv X pins σ H s){ts:List T}{u:T}{v0 w:V}{a b:Value}{k:Bool}{A:z8V}(hn:∀us,u≠.tup us)(h1:Den D φ α H (.tup ts) v0)(h2:Den D φ α H u w)(r1:RelV v0 a)(r2:RelV w b)(e:eqT (.tup ts) u=some k)(hu:A.units+vW (.tup ts)+1<cLine):za4 A s a b k:=by
 cases u with
 |tup us=>exact absurd rfl (hn us)
 |lst us=>
  obtain⟨c,xs,rfl,_,_,r,l⟩:=h1
  obtain⟨d,ys,rfl,_,_,r',l'⟩:=h2
  cases r1;cases r2
  obtain⟨_,_,p,_⟩:=I.tuple (.inl r)
  obtain⟨_,_,p',_⟩:=I.list (.inl r')
  cases z8m e
  exact SeqAt.EqAt.tuple_list p p'.isList (by omega)
 |int j=>have h2:w=V.int j:=h2;subst h2;obtain⟨t2,rfl⟩:=r2;obtain⟨c,xs,rfl,_,_,r,_⟩:=h1;cases r1;obtain⟨its,_,p,_⟩:=I.tuple (.inl r);cases z8m e;exact SeqAt.EqAt.tuple_int _ _ p (by omega)
 |bl j=>have h2:w=V.bl j:=h2;subst h2;cases r2;obtain⟨c,xs,rfl,_,_,r,_⟩:=h1;cases r1;obtain⟨its,_,p,_⟩:=I.tuple (.inl r);cases z8m e;exact SeqAt.EqAt.tuple_bool _ p (by omega)
 |str j=>have h2:w=V.str j:=h2;subst h2;obtain⟨t2,rfl⟩:=r2;obtain⟨c,xs,rfl,_,_,r,_⟩:=h1;cases r1;obtain⟨its,_,p,_⟩:=I.tuple (.inl r);cases z8m e;exact SeqAt.EqAt.tuple_str _ _ p (by omega)
 |non=>have h2:w=V.non:=h2;subst h2;cases r2;obtain⟨c,xs,rfl,_,_,r,_⟩:=h1;cases r1;obtain⟨its,_,p,_⟩:=I.tuple (.inl r);cases z8m e;exact SeqAt.EqAt.tuple_none p (by omega)
 |_=>cases e
theorem Jc(I:Inv X pins σ H s){ts:List T}{u:T}{v0 w:V}{a b:Value}{k:Bool}{A:z8V}(hn:∀us,u≠.lst us)(h1:Den D φ α H (.lst ts) v0)(h2:Den D φ α H u w)(r1:RelV v0 a)(r2:RelV w b)(e:eqT (.lst ts) u=some k)(hu:A.units+vW (.lst ts)+1<cLine):za4 A s a b k:=by
 cases u with
 |lst us=>exact absurd rfl (hn us)
 |tup us=>
  obtain⟨c,xs,rfl,_,_,r,l⟩:=h1
  obtain⟨d,ys,rfl,_,_,r',l'⟩:=h2
  cases r1;cases r2
  obtain⟨_,_,p,_⟩:=I.list (.inl r)
  obtain⟨_,_,p',_⟩:=I.tuple (.inl r')
  cases z8m e
  exact SeqAt.EqAt.list_tuple p.isList p' (by omega)
 |int j=>have h2:w=V.int j:=h2;subst h2;obtain⟨t2,rfl⟩:=r2;obtain⟨c,xs,rfl,_,_,r,_⟩:=h1;cases r1;obtain⟨its,_,p,_⟩:=I.list (.inl r);cases z8m e;exact SeqAt.EqAt.list_int _ _ p.isList (by omega)
 |bl j=>have h2:w=V.bl j:=h2;subst h2;cases r2;obtain⟨c,xs,rfl,_,_,r,_⟩:=h1;cases r1;obtain⟨its,_,p,_⟩:=I.list (.inl r);cases z8m e;exact SeqAt.EqAt.list_bool _ p.isList (by omega)
 |str j=>have h2:w=V.str j:=h2;subst h2;obtain⟨t2,rfl⟩:=r2;obtain⟨c,xs,rfl,_,_,r,_⟩:=h1;cases r1;obtain⟨its,_,p,_⟩:=I.list (.inl r);cases z8m e;exact SeqAt.EqAt.list_str _ _ p.isList (by omega)
 |non=>have h2:w=V.non:=h2;subst h2;cases r2;obtain⟨c,xs,rfl,_,_,r,_⟩:=h1;cases r1;obtain⟨its,_,p,_⟩:=I.list (.inl r);cases z8m e;exact SeqAt.EqAt.list_none p.isList (by omega)
 |_=>cases e
def EqN (D:DP)(φ α:List Addr)(H:Hp)(s:z8k)(n:Nat):Prop:=∀(t u:T) (v w:V) (a b:Value) (k:Bool) (A:z8V),vW t<n->Den D φ α H t v->Den D φ α H u w->RelV v a->RelV w b->eqT t u=some k->A.units+vW t+1<cLine->za4 A s a b k
theorem wI{n:Nat}(ih:EqN D φ α H s n):∀{ts us:List T} {xs ys:List V} {its its2:List Value} {A:z8V},qL ts<n->DenL D φ α H ts xs->DenL D φ α H us ys->Vals xs its->Vals ys its2->A.units+qL ts+1<cLine->
  ∀(j:Nat) (h1:j<its.length) (h2:j<its2.length),(∀(g1:j<ts.length) (g2:j<us.length),∃b,eqT ts[j] us[j]=some b)->za4 A s its[j] its2[j] (match ts[j]?,us[j]? with|some t,some u=>(eqT t u).getD false|_,_=>false)
 |[],_,xs,_,its,_,A,_,l,_,rv,_,_,j,h1,_,_=>by
  have l:xs=[]:=l
  subst l
  cases rv
  simp at h1
 |t::ts,us,xs,ys,its,its2,A,hd,l,l',rv,rv',hu,j,h1,h2,g=>by
  obtain⟨v,r,rfl,d1,l⟩:=l
  cases rv with
  | @cons _ u0 _ us0 r0 rv=>
  cases us with
  |nil=>
   have l':ys=[]:=l'
   subst l'
   cases rv'
   simp at h2
  |cons u us=>
   obtain⟨w,r',rfl,d2,l'⟩:=l'
   cases rv' with
   | @cons _ u0' _ us0' r0' rv'=>
   simp only[qL] at hu hd
   cases j with
   |zero=>
    obtain⟨b,hb⟩:=g (by simp) (by simp)
    have hb':eqT t u=some b:=by simpa using hb
    simp only[zcy,hb',zcz,List.getElem_cons_zero]
    exact ih _ _ _ _ _ _ _ _ (by omega) d1 d2 r0 r0' hb' (by omega)
   |succ j=>
    simp only[zcA,List.getElem_cons_succ]
    exact wI ih (by omega) l l' rv rv' (by omega) j (by simpa using h1) (by simpa using h2) λg1 g2=>by
     obtain⟨b,hb⟩:=g (by simpa using g1) (by simpa using g2)
     exact⟨b,by simpa using hb⟩
theorem Qk(I:Inv X pins σ H s){n:Nat}(ih:EqN D φ α H s n){ts us:List T}{xs ys:List V}{c d:Addr}{k:Bool}{A:z8V}(hd:qL ts<n)(l:DenL D φ α H ts xs)(l':DenL D φ α H us ys)(r:Rd H c (.tup xs))(r':Rd H d (.tup ys))(e:eqL ts us=some k)(hu:A.units+qL ts+2<cLine):zdG A s (.ref c) (.ref d) k:=by
 obtain⟨its,rv,p,_⟩:=I.tuple (.inl r)
 obtain⟨its2,rv',p',_⟩:=I.tuple (.inl r')
 obtain⟨g,rfl⟩:=yJ e
 have h1:ts.length=its.length:=l.length.trans rv.length
 have h2:us.length=its2.length:=l'.length.trans rv'.length
 have:=SeqAt.RcAt.tuples (A:=A) (e:=λj=>match ts[j]?,us[j]? with|some t,some u=>(eqT t u).getD false|_,_=>false) p p' (by omega) λj q1 q2=>by
  have:=wI (A:=A.in1) ih hd l l' rv rv' (by rw[in1_units];omega) j (by simpa using q1) (by simpa using q2) λg1 g2=>g j g1 g2
  simpa using this
 simpa[h1,h2] using this
theorem Q6(I:Inv X pins σ H s){n:Nat}(ih:EqN D φ α H s n){ts us:List T}{xs ys:List V}{c d:Addr}{k:Bool}{A:z8V}(hd:qL ts<n)(l:DenL D φ α H ts xs)(l':DenL D φ α H us ys)(r:Rd H c (.lst xs))(r':Rd H d (.lst ys))(e:eqL ts us=some k)(hu:A.units+qL ts+2<cLine):zdG A s (.ref c) (.ref d) k:=by
 obtain⟨its,rv,p,_⟩:=I.list (.inl r)
 obtain⟨its2,rv',p',_⟩:=I.list (.inl r')
 obtain⟨g,rfl⟩:=yJ e
 have h1:ts.length=its.length:=l.length.trans rv.length
 have h2:us.length=its2.length:=l'.length.trans rv'.length
 by_cases hl:ts.length=us.length
 ·have:=SeqAt.RcAt.lists (A:=A) (e:=λj=>match ts[j]?,us[j]? with|some t,some u=>(eqT t u).getD false|_,_=>false) p.isList p'.isList (by simp;omega) (by omega) λj q1 q2=>by
   have:=wI (A:=A.in1) ih hd l l' rv rv' (by rw[in1_units];omega) j (by simpa using q1) (by simpa using q2) λg1 g2=>g j g1 g2
   simpa using this
  have e2:min ts.length us.length=its.length:=by omega
  have e3:(ts.length == us.length)=true:=by simpa using hl
  rw[e2,e3,zfH]
  simpa using this
 ·have e3:(ts.length == us.length)=false:=by simpa using hl
  rw[e3,zbY]
  exact SeqAt.RcAt.lists_lengths p.isList p'.isList (by simp;omega) (by omega)
theorem uV(I:Inv X pins σ H s):∀n,EqN D φ α H s n
 |0=>λ_ _ _ _ _ _ _ _ hn=>absurd hn (by omega)
 |n+1=>λt u v w a b k A hn h1 h2 r1 r2 e hu=>by
  have ih:=uV I n
  cases t with
  |int i=>exact eqAt_int I h1 h2 r1 r2 e hu
  |bl i=>exact z0P I h1 h2 r1 r2 e hu
  |str i=>exact Ux I h1 h2 r1 r2 e hu
  |non=>exact Uy I h1 h2 r1 r2 e hu
  |tup ts=>
   cases u with
   |tup us=>
    have hs:=λ(q:w=v)=>ug h1 (q▸h2) e
    obtain⟨c,xs,rfl,_,_,r,l⟩:=h1
    obtain⟨d,ys,rfl,_,_,r',l'⟩:=h2
    cases r1;cases r2
    by_cases hcd:c=d
    ·subst hcd
     rw[hs rfl]
     exact zcT _
    ·refine zdH hcd ?_
     exact Qk I ih (by simp only[vW] at hn;omega) l l' r r' e (by simp only[vW] at hu;omega)
   |_=>exact VZ I (by intro _ z;cases z) h1 h2 r1 r2 e hu
  |lst ts=>
   cases u with
   |lst us=>
    have hs:=λ(q:w=v)=>ug h1 (q▸h2) e
    obtain⟨c,xs,rfl,_,_,r,l⟩:=h1
    obtain⟨d,ys,rfl,_,_,r',l'⟩:=h2
    cases r1;cases r2
    by_cases hcd:c=d
    ·subst hcd
     rw[hs rfl]
     exact zcT _
    ·refine zdH hcd ?_
     exact Q6 I ih (by simp only[vW] at hn;omega) l l' r r' e (by simp only[vW] at hu;omega)
   |_=>exact Jc I (by intro _ z;cases z) h1 h2 r1 r2 e hu
  |_=>cases e
theorem X5(I:Inv X pins σ H s){t u:T}{v w:V}{a b:Value}{k:Bool}{A:z8V}(h1:Den D φ α H t v)(h2:Den D φ α H u w)(r1:RelV v a)(r2:RelV w b)(e:eqT t u=some k)(hu:A.units+vW t+1<cLine):za4 A s a b k:=uV I _ _ _ _ _ _ _ _ _ (z9D _) h1 h2 r1 r2 e hu
theorem z0h(I:Inv X pins σ H s){ts us:List T}{xs ys:List V}{c d:Addr}{k:Bool}{A:z8V}(l:DenL D φ α H ts xs)(l':DenL D φ α H us ys)(r:Rd H c (.tup xs))(r':Rd H d (.tup ys))(e:eqL ts us=some k)(hu:A.units+qL ts+2<cLine):zdG A s (.ref c) (.ref d) k:=Qk I (uV I _) (z9D _) l l' r r' e hu
theorem U_(I:Inv X pins σ H s){ts us:List T}{xs ys:List V}{c d:Addr}{k:Bool}{A:z8V}(l:DenL D φ α H ts xs)(l':DenL D φ α H us ys)(r:Rd H c (.lst xs))(r':Rd H d (.lst ys))(e:eqL ts us=some k)(hu:A.units+qL ts+2<cLine):zdG A s (.ref c) (.ref d) k:=Q6 I (uV I _) (z9D _) l l' r r' e hu
theorem yC(I:Inv X pins σ H s):∀{ts us:List T} {xs ys:List V} {its its2:List Value} {A:z8V},DenL D φ α H ts xs->DenL D φ α H us ys->Vals xs its->Vals ys its2->A.units+qL ts+1<cLine->
  ∀(j:Nat) (h1:j<its.length) (h2:j<its2.length),(∀(g1:j<ts.length) (g2:j<us.length),∃b,eqT ts[j] us[j]=some b)->za4 A s its[j] its2[j] (match ts[j]?,us[j]? with|some t,some u=>(eqT t u).getD false|_,_=>false):=λl l' rv rv' hu=>wI (uV I _) (z9D _) l l' rv rv' hu
theorem z0D(I:Inv X pins σ H s){ts us:List T}{xs ys:List V}{c d:Addr}{k:Bool}{A:z8V}(l:DenL D φ α H ts xs)(l':DenL D φ α H us ys)(r:Rd H c (.tup xs))(r':Rd H d (.tup ys))(e:eqL ts us=some k)(hu:A.units+qL ts+2<cLine):zfO A s (.ref c) (.ref d) (!k):=by
 obtain⟨its,rv,p,_⟩:=I.tuple (.inl r)
 obtain⟨its2,rv',p',_⟩:=I.tuple (.inl r')
 obtain⟨g,rfl⟩:=yJ e
 have h1:ts.length=its.length:=l.length.trans rv.length
 have h2:us.length=its2.length:=l'.length.trans rv'.length
 have:=zg2 (A:=A) (e:=λj=>match ts[j]?,us[j]? with|some t,some u=>(eqT t u).getD false|_,_=>false) p p' (by omega) λj q1 q2=>by
  have:=yC (A:=A.in1) I l l' rv rv' (by rw[in1_units];omega) j (by simpa using q1) (by simpa using q2) λg1 g2=>g j g1 g2
  simpa using this
 simpa[h1,h2] using this
theorem U3(I:Inv X pins σ H s){ts us:List T}{xs ys:List V}{c d:Addr}{k:Bool}{A:z8V}(l:DenL D φ α H ts xs)(l':DenL D φ α H us ys)(r:Rd H c (.lst xs))(r':Rd H d (.lst ys))(e:eqL ts us=some k)(hu:A.units+qL ts+2<cLine):zfO A s (.ref c) (.ref d) (!k):=by
 obtain⟨its,rv,p,_⟩:=I.list (.inl r)
 obtain⟨its2,rv',p',_⟩:=I.list (.inl r')
 obtain⟨g,rfl⟩:=yJ e
 have h1:ts.length=its.length:=l.length.trans rv.length
 have h2:us.length=its2.length:=l'.length.trans rv'.length
 by_cases hl:ts.length=us.length
 ·have:=zg8 (A:=A) (e:=λj=>match ts[j]?,us[j]? with|some t,some u=>(eqT t u).getD false|_,_=>false) p.isList p'.isList (by simp;omega) (by omega) λj q1 q2=>by
   have:=yC (A:=A.in1) I l l' rv rv' (by rw[in1_units];omega) j (by simpa using q1) (by simpa using q2) λg1 g2=>g j g1 g2
   simpa using this
  have e2:min ts.length us.length=its.length:=by omega
  have e3:(ts.length == us.length)=true:=by simpa using hl
  rw[e2,e3,zfH]
  simpa using this
 ·have e3:(ts.length == us.length)=false:=by simpa using hl
  rw[e3,zbY]
  exact zfa p.isList p'.isList (by simp;omega) (by omega)
end
end
def spM (D:DP)(f:Fn):Sp:=λvs H Q E=>∃φ α ts μ,DenL D φ α H ts vs/\MRel D φ α H μ/\Post D (wOf E) φ α H [] (λt _ α' H'=>∀v,Den D φ α' H' t v->Q v H') (f ts μ)
def spN (D:DP)(n:Nat)(f:Fn):Sp:=λvs H Q E=>vs.length=n/\spM D f vs H Q E
def WM (D:DP)(t:Nat)(u:Value):Prop:=
 (t=0/\u=.type "NoneType")\/(t=1/\u=.type "bool")\/(t=2/\u=.type "int")\/(t=3/\u=.type "str")\/(t=4/\u=.type "tuple")\/(t=5/\u=.type "list")\/(∃C,D.adr t=some C/\u=.ref C)\/(t=6/\u=.type "dict")\/(∃C,D.cad t=some C/\u=.ref C)
noncomputable def yZ(mg:Str->Option Value)(c:Str)(u:Value):Prop:=mg c=some u\/(mg c=none/\z9S c=some u/\c≠"__name__")
abbrev YE(X:Cx)(c:Str)(u:Value):Prop:=yZ X.mg c u
noncomputable def ClsV(v:V)(u:Value):Prop:=(∃C,v=.ref C/\u=.ref C)\/∃n,v=.ty n/\u=.type n
theorem ClsV.rel{v:V}{u:Value}(h:ClsV v u):L2.RelV v u:=by
 rcases h with⟨C,rfl,rfl⟩|⟨n,rfl,rfl⟩<;>rfl
theorem ClsV.only{v:V}{u u':Value}(h:ClsV v u)(r:L2.RelV v u'):u'=u:=by
 rcases h with⟨C,rfl,rfl⟩|⟨n,rfl,rfl⟩<;>exact r
structure XCls(K:PySem.W.Frag)(C:Addr):Prop where
 ga:z8N K (.ref C) "__getattribute__"=some (some (.builtin "BaseException.__getattribute__"))
 hk:z8N K (.ref C) "__getattr__"=some none
 fi:z8N K (.ref C) "__class__"=some (some (.builtin "object.__class__"))
 sp:zaf K (.builtin "object.__class__") "__get__"=some (some (.builtin "getset_descriptor.__get__"))
 tk:zbD K (.builtin "object.__class__")=some true
 ob:zaE K C (.type "object")=some true
 bx:zaE K C (.type "BaseException")=some true
 cl:(zbt K C).isSome=true
structure OCls(K:PySem.W.Frag)(C:Addr):Prop where
 cl:Cls K C
 fi:z8N K (.ref C) "__class__"=some (some (.builtin "object.__class__"))
 sp:zaf K (.builtin "object.__class__") "__get__"=some (some (.builtin "getset_descriptor.__get__"))
 tk:zbD K (.builtin "object.__class__")=some true
 ob:zaE K C (.type "object")=some true
abbrev zT:List Value:=[.type "ValueError",.type "Exception",.type "BaseException",.type "object"]
def FOk (D:DP)(P:z91)(w:z9c)(K:z8o)(mg:Str->Option Value)(base:Heap)(k:Nat)(fa:Addr)(f:Fn):Prop:=
 ∃fd ps kk,zao K (.ref fa)=true/\Binds K fd ps []/\kk<=k/\FnOk P w K mg base (CX1 P w) kk fa fd ps (spN D ps.length f)/\∀ts μ K Z,f ts μ K Z->ts.length=ps.length
structure RoomH(k:Nat)(A:Around):Prop where
 dp:A.depth+3 * k+5<recursionLimit
 un:A.units+16 * k+200<cLine
theorem RoomH.mono{j k:Nat}{A:z8V}(r:RoomH k A)(h:j<=k):RoomH j A:=⟨by have:=r.dp;omega,by have:=r.un;omega⟩
theorem RoomH.units{k:Nat}{A:z8V}(r:RoomH k A):A.units+64<cLine:=by have:=r.un;omega
def z00(P:z91)(w:z9c)(K:z8o)(mg:Str->Option Value)(base:Heap)(k:Nat)(f:Addr)(fd:z9t)(ps:List Str)(sp:Sp):Prop:=
 ∀(A:z8V) (outer:List Env) (s:z8k) (H:Hp) (args:Args) (us:List Value) (vs:List V) (Q:VK),RoomH k A->Env0 P w K mg base A outer s H->zca s fd args (ps.zip us)->Vals vs us->sp vs H Q (λ_ _ _=>False)->
  zaK (z8u P w) A (.call (.ref f) args) (CR (λ_ _ _ _ _ _=>False) outer P w H s Q (λ_ _ _=>False)) s
def yl (x C:Addr):Heap->Prop:=λh=>∃t,h.get? x=some {cls:=.ref C,data:=.fields #[.ref t,.none,.none,.none,.bool false,.none]}
def uP(x C dx:Addr):Heap->Prop:=λh=>∃t,h.get? x=some {cls:=.ref C,dict:=some dx,data:=.fields #[.ref t,.none,.none,.none,.bool false,.none]}
structure XIn(K:PySem.W.Frag)(C HE fI:Addr)(fl:Str):Prop where
 cls:∃N nm q bs hd sn sub ab col dd k0 k1 k2 k3 k5,K.lookup C=some (zag nm q C N bs (.ref HE::zT) hd sn sub ab col dd k0 k1 k2 k3 k5 "ValueError.__new__")/\zfb K N=true/\zbh K N "__init__"=some (some (.ref fI))
 he:za_ K HE zT "ValueError.__new__"=true
 fn:zf0 K (.ref fI)=some (.type "function")
 sa:z8N K (.ref C) "__setattr__"=some (some (.builtin "object.__setattr__"))
 no:z8N K (.ref C) fl=some none
 dct:zab K C=true
 kp:zao K (.ref C)=true
def spI (C:Addr)(fl:Str):Sp:=λvs H Q E=>∃(x:Addr) (i:Int),vs=[.ref x,.int i]/\i.natAbs.log2<1920/\H x=some (.ext (yl x C))/\∀dx,H dx=none->dx≠x->Q .non (upd (upd H x (.ext (uP x C dx))) dx (.xd [(fl,.int i)]))
noncomputable def z0g(y:Str)(sc:Scope):Bool:=(sc.kind == .function)&&!sc.isCoroutine&&!sc.isGenerator&&sc.names.all (λy=>y.2 != .free)&&(sc.names.lookup y == some .local)&&y != ("__debug__":Str)&&y != ("__classdict__":Str)
def KN(a c:Addr)(qn:Str):Heap->Prop:=λh=>∃(y:Str) (pa:Pos) (kk:Nat) (bp:Pos) (sc:Scope) (pm ctv:Value),z0g y sc=true/\h.get? a=some (z9n "<lambda>" qn ⟨[],[⟨y,none,pa⟩],none,[],[],none,[]⟩ (.Constant .none kk bp) sc [] pm c ctv)
def Vm (t:T):Prop:=t=.clo 0 [.clo 100 []]\/t=.clo 1 []\/t=.clo 2 [.clo 101 []]
def z87 (D:DP)(P:z91)(w:z9c)(K:z8o)(mg:Str->Option Value)(base:Heap)(k:Nat):Prop:=
 ∀(t:T) (φ α:List Addr) (H:Hp) (v:V),Vm t->Den D φ α H t v->∃a kk,v=.ref a/\kk<=k/\∀(A:z8V) (outer:List Env) (s:z8k),Env0 P w K mg base A outer s H->zed a s.heap/\(Room kk A->∀(u:Value) (x:V) (Q:VK) (t:T) (φ α:List Addr) (μ:Mem),RelV x u->Den D φ α H t x->MRel D φ α H μ->(∀α' H',Stp α H α' H'->MRel D φ α' H' μ->Q .non H')->
  zaK (z8u P w) A (.call (.ref a) ⟨[u],[]⟩) (CR (CX1 P w) outer P w H s Q (λ_ _ _=>False)) s)
def GlOkM(D:DP)(P:z91)(w:z9c)(K:z8o)(mg:Str->Option Value)(base:Heap)(k:Nat)(x:Str):GM->Prop
 |.fn f=>∃fa,mg x=some (.ref fa)/\FOk D P w K mg base k fa f
 |.fnh nm f=>∃fa,mg nm=some (.ref fa)/\∃fd ps kk,zao K (.ref fa)=true/\Binds K fd ps []/\kk<=k/\z00 P w K mg base kk fa fd ps (spN D ps.length f)/\∀ts μ K Z,f ts μ K Z->ts.length=ps.length
 |.met c nm f=>∃C fI fd ps kk,D.cad c=some C/\Cls K C/\Meth K C nm fI/\(∀i,D.fn i≠some nm)/\Binds K fd ps []/\kk<=k/\FnOk P w K mg base (CX1 P w) kk fI fd ps (spN D ps.length f)/\∀ts μ K Z,f ts μ K Z->ts.length=ps.length
 |.mk c _ f=>∃C fI fd ps kk,D.cad c=some C/\mg x=some (.ref C)/\Mk K C fI/\Binds K fd ps []/\kk+1<=k/\FnOk P w K mg base (CX1 P w) kk fI fd ps (spN D ps.length f)/\∀ts μ K Z,f ts μ K Z->ts.length=ps.length
 |.cst t=>∃u v,mg x=some u/\RelV v u/\∀φ α H,Den D φ α H t v
 |.xcl c=>∃C,D.adr c=some C/\mg x=some (.ref C)/\za_ K C zT "ValueError.__new__"=true
 |.xcf c _=>∃C,D.adr c=some C/\mg x=some (.ref C)
 |.xin c f nm fl=>∃C HE fI fd ps kk,D.adr c=some C/\mg nm=some (.ref C)/\D.fn f=some fl/\XIn K C HE fI fl/\Binds K fd ps []/\kk+1<=k/\FnOk P w K mg base (CX1 P w) kk fI fd ps (spI C fl)
 |.mkd c nm n f=>∃C fI fd ps kk,D.cad c=some C/\mg nm=some (.ref C)/\Mk K C fI/\Binds K fd ps [.none]/\kk+1<=k/\FnOk P w K mg base (CX1 P w) kk fI fd ps (spN D ps.length f)/\(∀ts μ K Z,f ts μ K Z->ts.length=ps.length)/\ps.length=n+2
 |.metd c nm n d f=>∃C fI fd ps kk du dv,D.cad c=some C/\Cls K C/\Meth K C nm fI/\(∀i,D.fn i≠some nm)/\Binds K fd ps [du]/\RelV dv du/\(∀φ α H,Den D φ α H d dv)/\kk<=k/\FnOk P w K mg base (CX1 P w) kk fI fd ps (spN D ps.length f)/\(∀ts μ K Z,f ts μ K Z->ts.length=ps.length)/\ps.length=n+2
 |.kpr=>z87 D P w K mg base k/\∀j P' pos qn,j<2->D.tabs j=some (P',pos,qn)->∀a c,D.clo (2 * j) a (some (.ext (KN a c qn))) [.ref c]/\D.clo (100+j) c (some (.ext (wX c qn))) []
 |.none=>mg x=none
 |.bad=>True
abbrev z6z(D:DP)(X:Cx)(k:Nat)(x:Str)(g:GM):Prop:=GlOkM D X.prog X.w X.K X.mg X.base k x g
structure Cn where
 N:List Str
 G:List Str
 calm:Bool
 gl:Str->GM
 cls:List (Str×Nat)
 fld:List (Str×Nat)
 U:List Str
 cel:List Str
 own:List Str
 lam:Option (Nat×List Pos):=none
noncomputable def Cn.look(Γ:Cn)(x:Str):GM:=if Γ.G.contains x then Γ.gl x else .bad
noncomputable def LamOk(D:DP)(mg:Str->Option Value)(base:Heap)(code:Value)(qual:Str)(k:Nat)(l:Option (Nat×List Pos)):Prop:=∀j poss,l=some (j,poss)->2<=k/\∃c P,code=.ref c/\zbZ base c P/\base.BuiltinsAt mg P/\D.tabs j=some (P,poss,qual++"<lambda>")
theorem LamOk.no{D:DP}{mg:Str->Option Value}{base:Heap}{code:Value}{qual:Str}{k:Nat}{l:Option (Nat×List Pos)}(h:l=none):LamOk D mg base code qual k l:=λj pos e=>by rw[h] at e;cases e
structure Ck(D:DP)(W:XW)(Γ:Cn)(X:Cx)(k:Nat):Prop where
 hK:X.K=D.K
 hN:X.N=Γ.N
 nd:Γ.N.Nodup
 vis:∀x∈Γ.N,Vis X.env.scope x
 dbg:∀x∈Γ.N,(x == ("__debug__":Str))=false/\(x == ("__classdict__":Str))=false
 dbG:∀x∈Γ.G,(x == ("__debug__":Str))=false
 glb:∀x∈Γ.G,Gl X x
 glo:∀x∈Γ.G,z6z D X k x (Γ.gl x)
 glU:∀x∈Γ.U,z6z D X k x (Γ.gl x)/\(x == ("__debug__":Str))=false
 cel:∀x∈Γ.cel,X.env.kindOf x=some .cell\/X.env.kindOf x=some .free
 isi:∀t x c,(x,c)∈Γ.cls->∀u v,WM D t u->YE X x v->zb_ X.K u v=some (vP t c)
 fld:∀c C x f,D.cad c=some C->(x,f)∈Γ.fld->D.fn f=some x/\Cls X.K C/\NoAttr X.K C x
 xcx:∀c C,D.adr c=some C->XCls X.K C
 ocx:∀c C,D.cad c=some C->OCls X.K C
 clv:∀x c,(x,c)∈Γ.cls->∃u v,YE X x u/\ClsV v u
 clm:Γ.calm=true->X.calm=true
 rom:Γ.calm=true->Room k X.A
 rmh:RoomH k X.A
 xe:∀e s,XP X W e s->X.xe e s
 frm:∃e0 out L,Frm X e0 out L
 lam:LamOk D X.mg X.base X.env.code X.env.qual k Γ.lam
theorem Ck.unt{D:DP}{W:XW}{Γ:Cn}{X:Cx}{k:Nat}(C:Ck D W Γ X k):X.A.units+64<cLine:=C.rmh.units
theorem wJ:∀{N:List Str} {x:Str} {i:Nat},idx N x=some i->N[i]?=some x
 |[],_,_,h=>by simp[idx] at h
 |y::r,x,i,h=>by
  simp only[idx] at h
  split at h
  ·rename_i e;cases h;simp[e]
  ·cases q:idx r x with
   |none=>rw[q] at h;cases h
   |some j=>rw[q] at h;cases h;simpa using wJ q
theorem w9{N:List Str}{x:Str}{i:Nat}(h:idx N x=some i):x∈N:=z8F (wJ h)
section
variable {X:Cx}{D:DP}{W:XW}{Γ:Cn}{k:Nat}{pins:List (Addr×Obj)}{s:Shared}{σ:St}{H:Hp}{φ α:List Addr}{τ:Sl}{μ:Mem}{f g h:De}{a b c:Expr}{pos:Pos}
theorem PE.mono{e:Expr}{t t':TE}(h:PE X e t)(m:∀σ H Q,t' σ H Q->t σ H Q):PE X e t':=λpins s σ H Q I q=>h pins s σ H Q I (m σ H Q q)
theorem z3w{i j pos}:PE X (.Constant (.int i) j pos) (rdE D W (eC (.int i))):=PE.mono z5e λσ H Q ⟨φ,α,τ,μ,sr,mr,p⟩=>Post.here p mr rfl
theorem z7f{i j pos}:PE X (.Constant (.bool i) j pos) (rdE D W (eC (.bl i))):=PE.mono z7m λσ H Q ⟨φ,α,τ,μ,sr,mr,p⟩=>Post.here p mr rfl
theorem z3d{j pos}:PE X (.Constant .none j pos) (rdE D W (eC .non)):=PE.mono Uw λσ H Q ⟨φ,α,τ,μ,sr,mr,p⟩=>Post.here p mr rfl
theorem z5J{i j pos}:PE X (.Constant (.str i) j pos) (rdE D W (eC (.str i))):=PE.mono W2 λσ H Q ⟨φ,α,τ,μ,sr,mr,p⟩=>Post.here p mr rfl
theorem z4d(C:Ck D W Γ X k){x:Str}{i:Nat}(hi:idx Γ.N x=some i):PE X (.Name x pos) (rdE D W (eV i)):=by
 refine PE.mono (xA (i:=i) (by rw[C.hN];exact wJ hi) (C.vis x (w9 hi)) (C.dbg x (w9 hi)).1 (C.dbg x (w9 hi)).2) ?_
 rintro σ H Q ⟨φ,α,τ,μ,sr,mr,p⟩
 dsimp only[eV] at p
 split at p
 ·rename_i t e
  obtain⟨v,q,d⟩:=sr.get e
  exact⟨v,q,p.here mr d⟩
 ·exact p.elim
theorem z5f(C:Ck D W Γ X k){x:Str}{t:T}(hx:x∈Γ.G)(ht:Γ.gl x=.cst t):PE X (.Name x pos) (rdE D W (eC t)):=by
 have g:=C.glo x hx
 rw[ht] at g
 obtain⟨u,v,hm,r,d⟩:=g
 exact PE.mono (K7 (C.glb x hx) hm r (C.dbG x hx)) λσ H Q ⟨φ,α,τ,μ,sr,mr,p⟩=>Post.here p mr (d _ _ _)
theorem z5h{op:zf9}(ha:PE X a (rdE D W f))(hb:PE X b (rdE D W g)):PE X (.BinOp a op b pos) (rdE D W (zb op f g)):=by
 rintro pins s σ H Q I ⟨φ,α,τ,μ,sr,mr,p⟩
 refine wpAny_BinOp (thn (sub ha I sr mr p) ?_)
 rintro u s1 ⟨v,H1,t,μ1,α1,I1,r1,st1,sr1,mr1,d1,p1⟩
 refine thn (sub hb I1 sr1 mr1 p1) ?_
 rintro u' s2 ⟨v',H2,t',μ2,α2,I2,r2,st2,sr2,mr2,d2,p2⟩
 exact z4X I2 mr2 (d1.step st2) d2 r1 r2 p2
theorem z3i(ha:PE X a (rdE D W f)):PE X (.UnaryOp .USub a pos) (rdE D W (VW f)):=by
 rintro pins s σ H Q I ⟨φ,α,τ,μ,sr,mr,p⟩
 refine UnaryOp_ (thn (sub ha I sr mr p) ?_)
 rintro u s1 ⟨v,H1,t,μ1,α1,I1,r1,st1,sr1,mr1,d1,p1⟩
 try dsimp only at p1
 split at p1
 ·cases d1
  exact z44 pins s1 σ H1 _ _ Q I1 r1 ⟨_,rfl,p1.here mr1 rfl⟩
 ·exact p1.elim
theorem z4y(ha:PE X a (rdE D W f)):PE X (.UnaryOp .Not a pos) (rdE D W (z5Z f)):=by
 rintro pins s σ H Q I ⟨φ,α,τ,μ,sr,mr,p⟩
 refine UnaryOp_ (thn (sub ha I sr mr p) ?_)
 rintro u s1 ⟨v,H1,t,μ1,α1,I1,r1,st1,sr1,mr1,d1,p1⟩
 try dsimp only at p1
 split at p1
 ·rename_i b
  cases d1
  cases r1
  exact not_of (z8X ⟨.bl (!b),H1,I1,rfl,p1.here mr1 rfl⟩)
 ·exact p1.elim
theorem z4m{op:BoolOp}(ha:PE X a (rdE D W f)):PE X (.BoolOp op [a] pos) (rdE D W f):=z5K ha
theorem z3S{r:List Expr}(ha:PE X a (rdE D W f))(hb:PE X (.BoolOp .And (b::r) pos) (rdE D W g)):PE X (.BoolOp .And (a::b::r) pos) (rdE D W (Jl f g)):=by
 rintro pins s σ H Q I ⟨φ,α,τ,μ,sr,mr,p⟩
 refine BoolOp_and (thn (sub ha I sr mr p) ?_)
 rintro u s1 ⟨v,H1,t,μ1,α1,I1,r1,st1,sr1,mr1,d1,p1⟩
 try dsimp only at p1
 split at p1
 ·cases d1
  cases r1
  rcases p1.br with⟨rfl,p1⟩|⟨rfl,p1⟩
  ·exact z8X (hb pins s1 σ H1 Q I1 ⟨φ,α1,τ,μ1,sr1,mr1,p1⟩)
  ·exact z8X ⟨.bl false,H1,I1,rfl,p1.here mr1 rfl⟩
 ·exact p1.elim
theorem z6X{r:List Expr}(ha:PE X a (rdE D W f))(hb:PE X (.BoolOp .Or (b::r) pos) (rdE D W g)):PE X (.BoolOp .Or (a::b::r) pos) (rdE D W (eOr f g)):=by
 rintro pins s σ H Q I ⟨φ,α,τ,μ,sr,mr,p⟩
 refine BoolOp_or (thn (sub ha I sr mr p) ?_)
 rintro u s1 ⟨v,H1,t,μ1,α1,I1,r1,st1,sr1,mr1,d1,p1⟩
 try dsimp only at p1
 split at p1
 ·cases d1
  cases r1
  rcases p1.br with⟨rfl,p1⟩|⟨rfl,p1⟩
  ·exact z8X ⟨.bl true,H1,I1,rfl,p1.here mr1 rfl⟩
  ·exact z8X (hb pins s1 σ H1 Q I1 ⟨φ,α1,τ,μ1,sr1,mr1,p1⟩)
 ·exact p1.elim
theorem z56{x y:T}{v w:V}{b:Bool}(d1:Den D φ α H x v)(d2:Den D φ α H y w)(h:scT x y=some b):z2i v w=true/\decide (v=w)=b:=by
 unfold scT at h
 split at h<;>first
  |(cases h;cases d1;cases d2;exact⟨rfl,by simp⟩)
  |cases h
theorem z3O:OpR X (z94 .Is) (λx y H Q=>∃a b,x=.bl a/\y=.bl b/\Q (.bl (decide (a=b))) H):=by
 intro pins s σ H x y v u Q I rx ry h
 obtain⟨a,b,rfl,rfl,q⟩:=h
 cases rx;cases ry
 refine wpAny_is_plain (by rfl) ⟨.bl (decide (a=b)),H,I,?_,q⟩
 cases a<;>cases b<;>rfl
theorem YR:OpR X (z94 .IsNot) (λx y H Q=>∃a b,x=.bl a/\y=.bl b/\Q (.bl (!decide (a=b))) H):=by
 intro pins s σ H x y v u Q I rx ry h
 obtain⟨a,b,rfl,rfl,q⟩:=h
 cases rx;cases ry
 refine wpAny_isNot_plain (by rfl) ⟨.bl (!decide (a=b)),H,I,?_,q⟩
 cases a<;>cases b<;>rfl
theorem z0f{b:Bool}{C:Prop}{x y:T}{v w:V}{kk:Bool->RE T}{Q:VK}(I:Inv X pins σ H s)(hu:X.A.units+64<cLine)(mr:MRel D φ α H μ)(d1:Den D φ α H x v)(d2:Den D φ α H y w)(p:Post D W φ α H σ (RV D φ Q) (eqW x y μ kk))
  (h1:∀b,Post D W φ α H σ (RV D φ Q) (kk b)->z2i v w=true/\decide (v=w)=b->C)
  (h2:∀b,Post D W φ α H σ (RV D φ Q) (kk b)->((∀u1 u2,RelV v u1->RelV w u2->∀{R:Value->z8k->Prop},R (.bool b) s->z8t (z8u X.prog X.w) X.A (z94 .Eq u1 u2) R X.xe s)/\(∀u1 u2,RelV v u1->RelV w u2->∀{R:Value->z8k->Prop},R (.bool (!b)) s->z8t (z8u X.prog X.w) X.A (z94 .NotEq u1 u2) R X.xe s))->C):C:=by
 have lst:∀{xs ys:List T} {c d:Addr} {vs ws:List V},v=.ref c->w=.ref d->Rd H c (.lst vs)->Rd H d (.lst ws)->DenL D φ α H xs vs->DenL D φ α H ys ws->Post D W φ α H σ (RV D φ Q) (RE.grd (qL xs<=40) (.som (eqL xs ys) kk))->C:=λ{xs ys c d vs ws} e1 e2 r r' l l' p=>by
  obtain⟨hd,p⟩:=p.grd
  obtain⟨b,hb,p⟩:=p.som
  subst e1 e2
  exact h2 b p ⟨λu1 u2 r1 r2 R q=>by cases r1;cases r2;exact U_ I l l' r r' hb (by omega) _ _ _ _ q,λu1 u2 r1 r2 R q=>by cases r1;cases r2;exact U3 I l l' r r' hb (by omega) _ _ _ _ q⟩
 unfold eqW at p
 split at p
 ·obtain⟨hd,p⟩:=p.grd
  obtain⟨b,hb,p⟩:=p.som
  obtain⟨c,vs,rfl,_,_,r,l⟩:=d1
  obtain⟨d,ws,rfl,_,_,r',l'⟩:=d2
  exact h2 b p ⟨λu1 u2 r1 r2 R q=>by cases r1;cases r2;exact z0h I l l' r r' hb (by omega) _ _ _ _ q,λu1 u2 r1 r2 R q=>by cases r1;cases r2;exact z0D I l l' r r' hb (by omega) _ _ _ _ q⟩
 ·obtain⟨c,vs,e1,_,_,r,l⟩:=d1
  obtain⟨d,ws,e2,_,_,r',l'⟩:=d2
  exact lst e1 e2 r r' l l' p
 ·obtain⟨xs,hi,p⟩:=p.ex1
  obtain⟨c,hc,e1⟩:=d1
  obtain⟨vs,q,l⟩:=mr.ob _ c _ hc hi
  obtain⟨d,ws,e2,_,_,r',l'⟩:=d2
  exact lst e1 e2 (.inl q) r' l l' p
 ·obtain⟨ys,hi,p⟩:=p.ex1
  obtain⟨c,hc,e2⟩:=d2
  obtain⟨vs,q,l⟩:=mr.ob _ c _ hc hi
  obtain⟨d,ws,e1,_,_,r',l'⟩:=d1
  exact lst e1 e2 r' (.inl q) l' l p
 ·obtain⟨z,hi,p⟩:=p.ex1
  obtain⟨c,hc,e1⟩:=d1
  obtain⟨vs,q,l⟩:=mr.ob _ c _ hc hi.1
  obtain⟨d,hd,e2⟩:=d2
  obtain⟨ws,q',l'⟩:=mr.ob _ d _ hd hi.2
  exact lst e1 e2 (.inl q) (.inl q') l l' p
 ·split at p
  ·rename_i hb
   exact h1 _ p (z56 d1 d2 hb)
  ·exact p.elim
theorem W5{op:z9V}{x y:T}{v w:V}{u1 u2:Value}{Q:VK}(I:Inv X pins σ H s)(hu:X.A.units+64<cLine)(mr:MRel D φ α H μ)(d1:Den D φ α H x v)(d2:Den D φ α H y w)(r1:RelV v u1)(r2:RelV w u2)
  (p:Post D W φ α H σ (RV D φ Q) (Zq op x y μ)):z8t (z8u X.prog X.w) X.A (z94 op u1 u2) (EP X pins σ Q) X.xe s:=by
 unfold Zq at p
 split at p
 ·refine z0f (b:=true) I hu mr d1 d2 p (λb q h=>?_) (λb q h=>?_)
  ·obtain⟨s1,s2⟩:=h
   exact z6y pins s σ H v w u1 u2 Q I r1 r2 ⟨s1,by rw[s2];exact Post.here q mr rfl⟩
  ·exact h.1 _ _ r1 r2 ⟨.bl b,H,I,rfl,Post.here q mr rfl⟩
 ·refine z0f (b:=false) I hu mr d1 d2 p (λb q h=>?_) (λb q h=>?_)
  ·obtain⟨s1,s2⟩:=h
   exact z7B pins s σ H v w u1 u2 Q I r1 r2 ⟨s1,by rw[s2];exact Post.here q mr rfl⟩
  ·exact h.2 _ _ r1 r2 ⟨.bl (!b),H,I,rfl,Post.here q mr rfl⟩
 ·unfold ltW at p
  split at p
  ·cases d1;cases d2
   exact z7u pins s σ H _ _ u1 u2 Q I r1 r2 ⟨_,_,rfl,rfl,Post.here p mr rfl⟩
  ·obtain⟨ns,h1,p⟩:=p.som
   obtain⟨ms,h2,p⟩:=p.som
   obtain⟨a,vs,rfl,_,_,q1,l1⟩:=d1
   obtain⟨c,ws,rfl,_,_,q2,l2⟩:=d2
   rw[qR h1 l1] at q1
   rw[qR h2 l2] at q2
   exact z3u (by omega) pins s σ H _ _ u1 u2 Q I r1 r2 ⟨a,c,ns,ms,rfl,rfl,.inl q1,.inl q2,Post.here p mr rfl⟩
  ·have d1:v=.str _:=d1
   have d2:w=.str _:=d2
   subst d1 d2
   obtain⟨t1,rfl⟩:=r1
   obtain⟨t2,rfl⟩:=r2
   exact PySem.P.lt_str ⟨.bl _,H,I,rfl,Post.here p mr rfl⟩
  ·exact p.elim
 ·split at p
  ·cases d1;cases d2
   exact z76 pins s σ H _ _ u1 u2 Q I r1 r2 ⟨_,_,rfl,rfl,p.here mr rfl⟩
  ·exact p.elim
 ·split at p
  ·cases d1;cases d2
   exact z73 pins s σ H _ _ u1 u2 Q I r1 r2 ⟨_,_,rfl,rfl,p.here mr rfl⟩
  ·exact p.elim
 ·split at p
  ·cases d1;cases d2
   exact z7j pins s σ H _ _ u1 u2 Q I r1 r2 ⟨_,_,rfl,rfl,p.here mr rfl⟩
  ·exact p.elim
 ·split at p
  ·cases d2
   refine z39 pins s σ H _ _ u1 u2 Q I r1 r2 ⟨rfl,?_⟩
   have q:=p.here mr rfl
   cases x<;>first
    |(have d1:v=_:=d1;subst d1;simpa using q)
    |(obtain⟨_,_,rfl,_⟩:=d1;simpa using q)
    |(obtain⟨_,_,_,_,rfl,_⟩:=d1;simpa using q)
    |(obtain⟨_,_,rfl⟩:=d1;simpa using q)
    |(obtain⟨_,_,_,rfl,_⟩:=d1;simpa using q)
  ·split at p
   ·have d1:v=.bl _:=d1
    have d2:w=.bl _:=d2
    subst d1 d2
    exact z3O pins s σ H _ _ u1 u2 Q I r1 r2 ⟨_,_,rfl,rfl,p.here mr rfl⟩
   ·exact p.elim
  ·exact p.elim
 ·split at p
  ·cases d2
   refine z1H pins s σ H _ _ u1 u2 Q I r1 r2 ⟨rfl,?_⟩
   have q:=p.here mr rfl
   cases x<;>first
    |(have d1:v=_:=d1;subst d1;simpa using q)
    |(obtain⟨_,_,rfl,_⟩:=d1;simpa using q)
    |(obtain⟨_,_,_,_,rfl,_⟩:=d1;simpa using q)
    |(obtain⟨_,_,rfl⟩:=d1;simpa using q)
    |(obtain⟨_,_,_,rfl,_⟩:=d1;simpa using q)
  ·split at p
   ·have d1:v=.bl _:=d1
    have d2:w=.bl _:=d2
    subst d1 d2
    exact YR pins s σ H _ _ u1 u2 Q I r1 r2 ⟨_,_,rfl,rfl,p.here mr rfl⟩
   ·exact p.elim
  ·exact p.elim
 ·split at p
  ·have d1:v=.str _:=d1
   have d2:w=.str _:=d2
   subst d1 d2
   exact Y5 pins s σ H _ _ u1 u2 Q I r1 r2 ⟨_,_,rfl,rfl,p.here mr rfl⟩
  ·exact p.elim
 ·split at p
  ·have d1:v=.str _:=d1
   have d2:w=.str _:=d2
   subst d1 d2
   exact Qw pins s σ H _ _ u1 u2 Q I r1 r2 ⟨_,_,rfl,rfl,p.here mr rfl⟩
  ·exact p.elim
noncomputable def qJ:Expr->Bool
 |.Name _ _=>true
 |.Constant _ _ _=>true
 |.BinOp _ _ _ _=>true
 |.UnaryOp _ _ _=>true
 |.Call _ _ _ _=>true
 |.Subscript _ _ _=>true
 |.Attribute _ _ _=>true
 |_=>false
noncomputable def wN:Expr->Bool
 |.Set _ _ _=>false
 |_=>true
noncomputable def kW:z9V->Bool
 |.In=>false|.NotIn=>false
 |_=>true
def vc(op:z9V)(b:Expr):Bool:=kW op || wN b
noncomputable def jF:z9V->Bool
 |.Lt=>true|.LtE=>true|.Gt=>true|.GtE=>true|.Eq=>true|.NotEq=>true
 |_=>false
theorem je{op:z9V}{b:Expr}(h:vc op b=true):zdq op b=false:=by
 cases hp:kW op with
 |true=>exact YM b (by rintro rfl;simp[kW] at hp) (by rintro rfl;simp[kW] at hp)
 |false=>
  have hb:wN b=true:=by unfold vc at h;rw[hp] at h;exact h
  cases b<;>first|rfl|(simp[wN] at hb)
theorem z4u(C:Ck D W Γ X k){op:z9V}(ho:vc op b=true)(ha:PE X a (rdE D W f))(hb:PE X b (rdE D W g)):PE X (.Compare a [op] [b] pos) (rdE D W (zr op f g)):=by
 rintro pins s σ H Q I ⟨φ,α,τ,μ,sr,mr,p⟩
 refine zd8 (thn (sub ha I sr mr p) ?_) (je ho)
 rintro u s1 ⟨v,H1,t,μ1,α1,I1,r1,st1,sr1,mr1,d1,p1⟩
 refine thn (sub hb I1 sr1 mr1 p1) ?_
 rintro u' s2 ⟨v',H2,t',μ2,α2,I2,r2,st2,sr2,mr2,d2,p2⟩
 exact W5 I2 C.unt mr2 (d1.step st2) d2 r1 r2 p2
theorem yz{op:z9V}{β:Type}{R:β->Mem->List Addr->Hp->Prop}{kk:T->Mem->RE β}{x y:T}{v w:V}{u1 u2:Value}(I:Inv X pins σ H s)(hu:X.A.units+64<cLine)(mr:MRel D φ α H μ)(d1:Den D φ α H x v)(d2:Den D φ α H y w)(r1:RelV v u1)(r2:RelV w u2)
  (p:Post D W φ α H σ R ((Zq op x y μ).bind kk)):z8t (z8u X.prog X.w) X.A (z94 op u1 u2) (EP X pins σ λz H1=>∃t μ1 α1,Stp α H α1 H1/\MRel D φ α1 H1 μ1/\Den D φ α1 H1 t z/\Post D W φ α1 H1 σ R (kk t μ1)) X.xe s:=
 W5 I hu mr d1 d2 r1 r2 (p.bind.mono λt μ' α' H' st m q v d=>⟨t,μ',α',st,m,d,q⟩)
theorem vI:∀{ops:List z9V} {es:List Expr},ops.all jF=true->lastMarks ops es=false
 |[],es,_=>by cases es<;>rfl
 |[op],[],_=>rfl
 |[op],[e],h=>YM e (by rintro rfl;simp[jF] at h) (by rintro rfl;simp[jF] at h)
 |[op],_::_::_,_=>rfl
 |op::op'::ops,[],_=>rfl
 |op::op'::ops,e::es,h=>by
  have:lastMarks (op'::ops) es=false:=vI (by simp only[z9e,z8j] at h ⊢;exact h.2)
  cases es with
  |nil=>cases ops<;>rfl
  |cons e' es=>exact this
def Yd (X:Cx)(D:DP)(W:XW):List Expr->List (z9V×De)->Prop
 |[],[]=>True
 |e::es,p::ps=>PE X e (rdE D W p.2)/\Yd X D W es ps
 |_,_=>False
theorem Vt(hu:X.A.units+64<cLine){Q:VK}:∀{ps:List (z9V×De)} {es:List Expr} {s:z8k} {H:Hp} {α:List Addr} {μ:Mem} {x:T} {v:V} {u:Value},Yd X D W es ps->Inv X pins σ H s->SRel D φ α H τ σ->MRel D φ α H μ->Den D φ α H x v->RelV v u->Post D W φ α H σ (RV D φ Q) (UN ps x τ μ)->
  z8t (z8u X.prog X.w) X.A (compareChain pos u (ps.map (·.1)) (evalEach es X.env)) (EP X pins σ Q) X.xe s
 |[],_,_,_,_,_,_,_,_,_,_,_,_,_,_,p=>p.elim
 |[(op,g)],[],_,_,_,_,_,_,_,h,_,_,_,_,_,_=>h.elim
 |[(op,g)],[e],s,H,α,μ,x,v,u,h,I,sr,mr,d,r,p=>by
  refine chain_last (thn (sub h.1 I sr mr p) ?_)
  rintro u' s2 ⟨v',H2,t',μ2,α2,I2,r2,st2,sr2,mr2,d2,p2⟩
  exact W5 I2 hu mr2 (d.step st2) d2 r r2 p2
 |[(op,g)],_::_::_,_,_,_,_,_,_,_,h,_,_,_,_,_,_=>h.2.elim
 |(op,g)::p'::ps,[],_,_,_,_,_,_,_,h,_,_,_,_,_,_=>h.elim
 |(op,g)::p'::ps,[e],_,_,_,_,_,_,_,h,_,_,_,_,_,_=>h.2.elim
 |(op,g)::(op',g')::ps,e::e'::es,s,H,α,μ,x,v,u,h,I,sr,mr,d,r,p=>by
  refine chain_link (thn (sub h.1 I sr mr p) ?_)
  rintro u' s2 ⟨v',H2,t',μ2,α2,I2,r2,st2,sr2,mr2,d2,p2⟩
  refine thn (yz I2 hu mr2 (d.step st2) d2 r r2 p2) ?_
  rintro dd s3 ⟨z,H3,I3,r3,t3,μ3,α3,st3,mr3,d3,p3⟩
  try dsimp only at p3
  split at p3
  ·cases d3
   cases r3
   rcases p3.br with⟨rfl,p3⟩|⟨rfl,p3⟩
   ·exact z8X (ite_tt (Vt hu (ps:=(op',g')::ps) (es:=e'::es) h.2 I3 (sr2.step st3) mr3 (d2.step st3) r2 p3))
   ·exact z8X (ite_ff ⟨.bl false,H3,I3,rfl,p3.here mr3 rfl⟩)
  ·exact p3.elim
theorem YQ(C:Ck D W Γ X k){e1 e2:Expr}{es:List Expr}{p1 p2:z9V×De}{ps:List (z9V×De)}(ho:(p1::p2::ps).all (λp=>jF p.1)=true)(ha:PE X a (rdE D W f))(h:Yd X D W (e1::e2::es) (p1::p2::ps)):PE X (.Compare a (p1.1::p2.1::ps.map (·.1)) (e1::e2::es) pos) (rdE D W (eCh f (p1::p2::ps))):=by
 rintro pins s σ H Q I ⟨φ,α,τ,μ,sr,mr,p⟩
 refine Compare_chain (thn (sub ha I sr mr p) ?_) (vI (by simpa[zbK,zcb] using ho))
 rintro u s1 ⟨v,H1,t,μ1,α1,I1,r1,st1,sr1,mr1,d1,p1⟩
 exact Vt C.unt h I1 sr1 mr1 d1 r1 p1
theorem KL(hu:X.A.units+64<cLine){β:Type}{R:β->Mem->List Addr->Hp->Prop}{kk:Bool->Mem->RE β}:∀{ps:List (z9V×De)} {es:List Expr} {s:z8k} {H:Hp} {α:List Addr} {μ:Mem} {x:T} {v:V} {u:Value} {Q:Bool->Hp->Prop},Yd X D W es ps->Inv X pins σ H s->SRel D φ α H τ σ->MRel D φ α H μ->Den D φ α H x v->RelV v u->Post D W φ α H σ (λb _ _ H'=>Q b H') ((UN ps x τ μ).bind k8)->
  z8t (z8u X.prog X.w) X.A (testChain pos u (ps.map (·.1)) (evalEach es X.env)) (TP X pins σ Q) X.xe s
 |[],_,_,_,_,_,_,_,_,_,_,_,_,_,_,_,p=>Post.elim p
 |[(op,g)],[],_,_,_,_,_,_,_,_,h,_,_,_,_,_,_=>h.elim
 |[(op,g)],[e],s,H,α,μ,x,v,u,Q,h,I,sr,mr,d,r,p=>by
  have p:Post D W φ α H σ (λb _ _ H'=>Q b H') ((g τ μ).bind λy μ1=>(Zq op x y μ1).bind k8):=p
  refine test_last (thn (sub h.1 I sr mr p) ?_)
  rintro u' s2 ⟨v',H2,t',μ2,α2,I2,r2,st2,sr2,mr2,d2,p2⟩
  refine thn (yz I2 hu mr2 (d.step st2) d2 r r2 p2) ?_
  rintro dd s3 ⟨z,H3,I3,r3,t3,μ3,α3,st3,mr3,d3,p3⟩
  unfold k8 at p3
  split at p3
  ·cases d3
   cases r3
   exact z8X ⟨H3,I3,p3.ok (Stp.refl _ _) mr3⟩
  ·exact p3.elim
 |[(op,g)],_::_::_,_,_,_,_,_,_,_,_,h,_,_,_,_,_,_=>h.2.elim
 |(op,g)::p'::ps,[],_,_,_,_,_,_,_,_,h,_,_,_,_,_,_=>h.elim
 |(op,g)::p'::ps,[e],_,_,_,_,_,_,_,_,h,_,_,_,_,_,_=>h.2.elim
 |(op,g)::(op',g')::ps,e::e'::es,s,H,α,μ,x,v,u,Q,h,I,sr,mr,d,r,p=>by
  have p:Post D W φ α H σ (λb _ _ H'=>Q b H') ((g τ μ).bind λy μ1=>(Zq op x y μ1).bind λk μ2=>(match k with|.bl b=>RE.br b (UN ((op',g')::ps) y τ μ2) (.ok (.bl false) μ2)|_=>RE.st:RE T).bind k8):=p
  refine test_link (thn (sub h.1 I sr mr p) ?_)
  rintro u' s2 ⟨v',H2,t',μ2,α2,I2,r2,st2,sr2,mr2,d2,p2⟩
  refine thn (yz I2 hu mr2 (d.step st2) d2 r r2 p2) ?_
  rintro dd s3 ⟨z,H3,I3,r3,t3,μ3,α3,st3,mr3,d3,p3⟩
  try dsimp only at p3
  split at p3
  ·rename_i bb
   cases d3
   cases r3
   cases bb with
   |true=>exact z8X (ite_tt (KL hu (kk:=kk) (R:=R) (ps:=(op',g')::ps) (es:=e'::es) h.2 I3 (sr2.step st3) mr3 (d2.step st3) r2 p3))
   |false=>
    have p3:Post D W φ α3 H3 σ (λb _ _ H'=>Q b H') (RE.ok false μ3):=p3
    exact z8X (ite_ff ⟨H3,I3,p3.ok (Stp.refl _ _) mr3⟩)
  ·have p3:Post D W φ α3 H3 σ (λb _ _ H'=>Q b H') RE.st:=p3
   exact p3.elim
end
section
variable {X:Cx}{D:DP}{W:XW}{Γ:Cn}{k:Nat}{pins:List (Addr×Obj)}{s:Shared}{σ:St}{H:Hp}{φ α:List Addr}{τ:Sl}{μ:Mem}{f g h:De}{ft gt:Dt}{a b c:Expr}{pos:Pos}
theorem Kp(ha:PE X a (rdE D W f))(he:∀whole,isTrue a X.env whole=(do let v ←whole;standAt a.pos;zeS [v] (truthy v))):PT X a (rdT D W (tE f)):=by
 rintro pins s σ H Q I ⟨φ,α,τ,μ,sr,mr,p⟩
 rw[he]
 refine z8g (thn (sub ha I sr mr p) ?_)
 rintro u s1 ⟨v,H1,t,μ1,α1,I1,r1,st1,sr1,mr1,d1,p1⟩
 unfold k8 at p1
 split at p1
 ·cases d1
  cases r1
  exact z8g (z9k (z8W (z8X ⟨H1,I1,p1.ok (Stp.refl _ _) mr1⟩)))
 ·exact p1.elim
theorem JP(C:Ck D W Γ X k){op:z9V}(ho:vc op b=true)(ha:PE X a (rdE D W f))(hb:PE X b (rdE D W g)):PT X (.Compare a [op] [b] pos) (rdT D W (tE (zr op f g))):=by
 rintro pins s σ H Q I ⟨φ,α,τ,μ,sr,mr,p⟩
 have p:Post D W φ α H σ (λb _ _ H'=>Q b H') ((f τ μ).bind λx μ1=>(g τ μ1).bind λy μ2=>(Zq op x y μ2).bind k8):=p
 refine zbn (thn (sub ha I sr mr p) ?_) (je ho)
 rintro u s1 ⟨v,H1,t,μ1,α1,I1,r1,st1,sr1,mr1,d1,p1⟩
 refine thn (sub hb I1 sr1 mr1 p1) ?_
 rintro u' s2 ⟨v',H2,t',μ2,α2,I2,r2,st2,sr2,mr2,d2,p2⟩
 refine thn (yz I2 C.unt mr2 (d1.step st2) d2 r1 r2 p2) ?_
 rintro d s3 ⟨z,H3,I3,r3,t3,μ3,α3,st3,mr3,d3,p3⟩
 unfold k8 at p3
 split at p3
 ·cases d3
  cases r3
  exact z8X ⟨H3,I3,p3.ok (Stp.refl _ _) mr3⟩
 ·exact p3.elim
theorem Vb(C:Ck D W Γ X k){e1 e2:Expr}{es:List Expr}{p1 p2:z9V×De}{ps:List (z9V×De)}(ho:(p1::p2::ps).all (λp=>jF p.1)=true)(ha:PE X a (rdE D W f))(h:Yd X D W (e1::e2::es) (p1::p2::ps)):PT X (.Compare a (p1.1::p2.1::ps.map (·.1)) (e1::e2::es) pos) (rdT D W (tE (eCh f (p1::p2::ps)))):=by
 rintro pins s σ H Q I ⟨φ,α,τ,μ,sr,mr,p⟩
 have p:Post D W φ α H σ (λb _ _ H'=>Q b H') ((f τ μ).bind λx μ1=>(UN (p1::p2::ps) x τ μ1).bind k8):=p
 refine isTrue_chain (thn (sub ha I sr mr p) ?_) (vI (by simpa[zbK,zcb] using ho))
 rintro u s1 ⟨v,H1,t,μ1,α1,I1,r1,st1,sr1,mr1,d1,p1⟩
 exact KL (kk:=λ_ _=>RE.st (β:=Bool)) (R:=λ_ _ _ _=>True) C.unt h I1 sr1 mr1 d1 r1 p1
theorem z3g{r:List Expr}(ha:PT X a (rdT D W ft))(hb:PW X (.BoolOp .And (b::r) pos) (rdT D W gt)):PW X (.BoolOp .And (a::b::r) pos) (rdT D W (wc ft gt)):=by
 intro whole pins s σ H Q I hq
 refine z4D ha hb whole pins s σ H Q I ?_
 obtain⟨φ,α,τ,μ,sr,mr,p⟩:=hq
 refine⟨φ,α,τ,μ,sr,mr,p.bind.mono λc μ' α' H' st m q=>?_⟩
 rcases q.br with⟨rfl,q⟩|⟨rfl,q⟩
 ·exact⟨φ,α',τ,μ',sr.step st,m,q⟩
 ·exact q.ok (Stp.refl _ _) m
theorem z7h{r:List Expr}(ha:PT X a (rdT D W ft))(hb:PW X (.BoolOp .Or (b::r) pos) (rdT D W gt)):PW X (.BoolOp .Or (a::b::r) pos) (rdT D W (tOr ft gt)):=by
 intro whole pins s σ H Q I hq
 refine z6J ha hb whole pins s σ H Q I ?_
 obtain⟨φ,α,τ,μ,sr,mr,p⟩:=hq
 refine⟨φ,α,τ,μ,sr,mr,p.bind.mono λc μ' α' H' st m q=>?_⟩
 rcases q.br with⟨rfl,q⟩|⟨rfl,q⟩
 ·exact q.ok (Stp.refl _ _) m
 ·exact⟨φ,α',τ,μ',sr.step st,m,q⟩
theorem z5y(ha:PT X a (rdT D W ft)):PT X (.UnaryOp .Not a pos) (rdT D W (qM ft)):=by
 intro pins s σ H Q I hq
 refine z40 ha pins s σ H Q I ?_
 obtain⟨φ,α,τ,μ,sr,mr,p⟩:=hq
 exact⟨φ,α,τ,μ,sr,mr,p.bind.mono λc μ' α' H' st m q=>q.ok (Stp.refl _ _) m⟩
theorem z7s(hc:PT X c (rdT D W ft))(ha:PE X a (rdE D W f))(hb:PE X b (rdE D W g)):PE X (.IfExp c a b pos) (rdE D W (eIf ft f g)):=by
 rintro pins s σ H Q I ⟨φ,α,τ,μ,sr,mr,p⟩
 refine wpAny_IfExp (thn (z6s hc I sr mr p) ?_)
 rintro d s1 ⟨H1,μ1,α1,I1,st1,sr1,mr1,p1⟩
 rcases p1.br with⟨rfl,p1⟩|⟨rfl,p1⟩
 ·exact ha pins s1 σ H1 Q I1 ⟨φ,α1,τ,μ1,sr1,mr1,p1⟩
 ·exact hb pins s1 σ H1 Q I1 ⟨φ,α1,τ,μ1,sr1,mr1,p1⟩
noncomputable def qe:Expr->Bool
 |.Name _ _=>true
 |.Attribute _ _ _=>true
 |.Subscript _ _ _=>true
 |.Call (.Name x _) _ _ _=>x != ("super":Str)
 |.Call (.Attribute _ _ _) _ _ _=>true
 |_=>false
theorem Post.ex3{β δ1 δ2 δ3:Type}{R:β->Mem->List Addr->Hp->Prop}{P:δ1->δ2->Prop}{P2:δ1->δ2->δ3->Prop}{r:δ1->δ2->δ3->RE β}(p:Post D W φ α H σ R (λK Z=>∃x y z,P x y/\P2 x y z/\r x y z K Z)):∃x y z,P x y/\P2 x y z/\Post D W φ α H σ R (r x y z):=by
 obtain⟨K,Z,⟨x,y,z,h1,h2,q⟩,h⟩:=p
 exact⟨x,y,z,h1,h2,K,Z,q,h⟩
theorem Post.ex2{β δ1 δ2:Type}{R:β->Mem->List Addr->Hp->Prop}{P:δ1->Prop}{P2:δ1->δ2->Prop}{r:δ1->δ2->RE β}(p:Post D W φ α H σ R (λK Z=>∃x y,P x/\P2 x y/\r x y K Z)):∃x y,P x/\P2 x y/\Post D W φ α H σ R (r x y):=by
 obtain⟨K,Z,⟨x,y,h1,h2,q⟩,h⟩:=p
 exact⟨x,y,h1,h2,K,Z,q,h⟩
theorem vF{b:Expr}(h:qJ b=true):z1q b:=by
 intro o i
 cases b<;>first|(simp[qJ] at h;done)|rfl
theorem uy{D:DP}{ts:List T}{xs:List V}{i:Int}{t:T}(l:DenL D φ α H ts xs)(h:wD ts i=some t):∃v,atI xs i=some v/\Den D φ α H t v:=by
 unfold wD at h
 have e:ixN xs.length i=Yi ts.length i:=by rw[l.length];rfl
 unfold atI
 rw[e]
 cases q:Yi ts.length i with
 |none=>rw[q] at h;cases h
 |some j=>
  rw[q] at h
  exact l.get h
theorem z6U(hb':qJ b=true)(hK:X.K=D.K)(ha:PE X a (rdE D W f))(hb:PE X b (rdE D W g)):PE X (.Subscript a b pos) (rdE D W (eIx f g)):=by
 rintro pins s σ H Q I ⟨φ,α,τ,μ,sr,mr,p⟩
 refine zf3 (thn (sub ha I sr mr p) ?_)
 rintro u s1 ⟨v,H1,t,μ1,α1,I1,r1,st1,sr1,mr1,d1,p1⟩
 refine thn (sub hb I1 sr1 mr1 p1) ?_
 rintro u' s2 ⟨v',H2,t',μ2,α2,I2,r2,st2,sr2,mr2,d2,p2⟩
 have d1:=d1.step st2
 unfold z2P at p2
 split at p2
 ·cases d2
  split at p2
  ·obtain⟨w,hw,p2⟩:=p2.som
   obtain⟨ad,xs,rfl,_,_,r,l⟩:=d1
   obtain⟨z,hz,dz⟩:=uy l hw
   exact Kt a b pins s2 σ H2 _ _ _ _ Q I2 r1 r2 ⟨ad,xs,_,z,rfl,rfl,.inl r,hz,p2.here mr2 dz⟩ (vF hb' _ _)
  ·obtain⟨w,hw,p2⟩:=p2.som
   obtain⟨ad,xs,rfl,_,_,r,l⟩:=d1
   obtain⟨z,hz,dz⟩:=uy l hw
   exact z5P a b pins s2 σ H2 _ _ _ _ Q I2 r1 r2 ⟨ad,xs,_,z,rfl,rfl,.inl r,hz,p2.here mr2 dz⟩ (vF hb' _ _)
  ·obtain⟨ts,w,hj,hw,p2⟩:=p2.ex2
   obtain⟨ad,hi',rfl⟩:=d1
   obtain⟨xs,e2,l⟩:=mr2.ob _ ad _ hi' hj
   obtain⟨z,hz,dz⟩:=uy l hw
   exact Kt a b pins s2 σ H2 _ _ _ _ Q I2 r1 r2 ⟨ad,xs,_,z,rfl,rfl,.inl (.inl e2),hz,Post.here p2 mr2 dz⟩ (vF hb' _ _)
  ·obtain⟨hl,p2⟩:=p2.grd
   obtain⟨c,hc,p2⟩:=p2.som
   have d1:v=.str _:=d1
   subst d1
   exact z48 a b pins s2 σ H2 _ _ _ _ Q I2 r1 r2 ⟨_,_,c,rfl,rfl,zB hl,hc,p2.here mr2 rfl⟩ (vF hb' _ _)
  ·exact p2.elim
 ·exact p2.elim
noncomputable def noStar:Expr->Bool
 |.Starred _ _=>false
 |_=>true
theorem z6{e:Expr}{es:List Expr}{env:Env}(h:noStar e=true):z96 (e::es) env=(false,eval e env)::z96 es env:=by
 cases e<;>first|(simp[noStar] at h;done)|rfl
theorem zX{es:List Expr}{env:Env}{pos:Pos}(h:es.all noStar=true):(zaw pos (z96 es env)).any (·.1)=false:=by
 induction es with
 |nil=>rfl
 |cons e es ih=>
  simp only[z9e,z8j] at h
  rw[z6 h.1]
  have:=ih h.2
  first
   |(simp[zaw] at this ⊢;exact this)
   |(simpa[zaw] using this)
theorem z3L:PA X [] (rdA D W 0 (evs [])):=by
 rintro pos pins s σ H Q I ⟨φ,α,τ,μ,sr,mr,p⟩
 exact qk pos pins s σ H Q I (Post.ok p (Stp.refl _ _) mr [] rfl rfl)
theorem z1r{e:Expr}{es:List Expr}{fs:List De}{n:Nat}(hs:noStar e=true)(ha:PE X e (rdE D W f))(hr:PA X es (rdA D W n (evs fs))):PA X (e::es) (rdA D W (n+1) (evs (f::fs))):=by
 intro pos pins s σ H Q I hq
 refine zC ha hr (z6 hs) pos pins s σ H Q I ?_
 obtain⟨φ,α,τ,μ,sr,mr,p⟩:=hq
 have p:Post D W φ α H σ _ ((f τ μ).bind λt μ1=>(evs fs τ μ1).bind λts μ2=>.ok (t::ts) μ2):=p
 refine⟨φ,α,τ,μ,sr,mr,p.bind.mono λt μ1 α1 H1 st m q v d=>?_⟩
 refine⟨φ,α1,τ,μ1,sr.step st,m,q.bind.mono λts μ2 α2 H2 st2 m2 q2 vs dl hn=>?_⟩
 exact q2.ok (Stp.refl _ _) m2 _ ⟨v,vs,rfl,d.step st2,dl⟩ (by simp[hn])
def EsOk (X:Cx)(D:DP)(W:XW):List Expr->List De->Prop
 |[],[]=>True
 |e::es,f::fs=>noStar e=true/\PE X e (rdE D W f)/\EsOk X D W es fs
 |_,_=>False
theorem wx:∀{es:List Expr} {fs:List De},EsOk X D W es fs->PA X es (rdA D W es.length (evs fs))
 |[],[],_=>z3L
 |e::es,f::fs,h=>z1r h.1 h.2.1 (wx h.2.2)
 |[],_::_,h=>h.elim
 |_::_,[],h=>h.elim
theorem EsOk.stars:∀{es:List Expr} {fs:List De},EsOk X D W es fs->es.all noStar=true
 |[],[],_=>rfl
 |e::es,f::fs,h=>by simp[h.1,EsOk.stars h.2.2]
 |[],_::_,h=>h.elim
 |_::_,[],h=>h.elim
theorem z3Q{es:List Expr}{fs:List De}(hl:es.length<=room)(h:EsOk X D W es fs):PE X (.List es pos) (rdE D W (zR fs)):=by
 refine PE.mono (Ye (wx h)) ?_
 rintro σ H Q ⟨φ,α,τ,μ,sr,mr,p⟩
 refine⟨φ,α,τ,μ,sr,mr,p.bind.mono λts μ1 α1 H1 st m q vs dl hn=>⟨by rw[hn];exact zB hl,λz hz=>?_⟩⟩
 exact q.fresh m (zh hz) ⟨z,vs,rfl,zv m hz,zu m hz,.inl z8,dl.step (Stp.new (zh hz))⟩
theorem z55{es:List Expr}{fs:List De}{kk:Nat}(hl:es.length<=room)(h:EsOk X D W es fs):PE X (.Tuple es kk pos) (rdE D W (zy fs)):=by
 refine PE.mono (YZ (wx h)) ?_
 rintro σ H Q ⟨φ,α,τ,μ,sr,mr,p⟩
 refine⟨φ,α,τ,μ,sr,mr,p.bind.mono λts μ1 α1 H1 st m q vs dl hn=>⟨by rw[hn];exact zB hl,λz hz=>?_⟩⟩
 exact q.fresh m (zh hz) ⟨z,vs,rfl,zv m hz,zu m hz,.inl z8,dl.step (Stp.new (zh hz))⟩
end
section
open PySem.W
theorem ZR{prog:z91}{w:z9c}{A:z8V}{E:Value->z8k->Prop}{s:z8k}{K:Frag}{x D:Addr}{ox:Obj}{od:Option Obj}{Q:Option Value->z8k->Prop}(X:K.In s.heap)(I:InstAt s.heap x ox D od)
 (hga:z8N K (.ref D) "__getattribute__"=some (some (.builtin "BaseException.__getattribute__"))) (hk:z8N K (.ref D) "__getattr__"=some none)
 (hf:findObj K D od "__class__"=some (.bind (.builtin "getset_descriptor.__get__") (.builtin "object.__class__"))) (hm:zaE K D (.type "object")=some true) (hb:zaE K D (.type "BaseException")=some true)
 (h:Q (some (.ref D)) {s with toks:=s.toks+1}):z8t (z8u prog w) A (getAttr? (.ref x) "__class__") Q E s:=by
 obtain⟨hh,g,d,t,os⟩:=s
 have L0:=I.type (M:=z8u prog w)
 have L1:=zd4 (M:=z8u prog w) X hga
 have L2:=zd4 (M:=z8u prog w) X hk
 have L3:=looks_find (M:=z8u prog w) X I hf
 have L4:=looks_mroIn (M:=z8u prog w) X hb
 have f3:=zcB.ga.bind (.ref x)
 unfold getAttr? getAttrBy? getAttrBy
 refine z8g (wpAny_mkText (z8g (zck (z8W (z8g (L0.at (z8g (L1.at ?_))))))))
 show z8t _ _ (zeH (.ref x) _ (.ref D) (.builtin "BaseException.__getattribute__") false false) _ _ _
 unfold zeH hookBefore
 refine z8g ?_
 show z8t _ _ (zdE (.ref D) "__getattr__") _ _ _
 refine L2.at ?_
 refine z8g (zck (z8W ?_))
 unfold callGetattribute boundAndCalled
 show z8t _ _ (bindSpecial (.builtin "BaseException.__getattribute__") (.ref x) >>= _) _ _ _
 rw[f3]
 refine z8g (z8q ?_)
 show z8t _ _ (call (.builtin "BaseException.__getattribute__") [.ref x,.str "__class__" _]) _ _ _
 refine za5 (zbx zcB.ga.plain PySem.F.entry_bexc_ga ?_)
 have hkd:builtinKind "BaseException.__getattribute__"=some .slot:=by decide +kernel
 have hsp:splitId "BaseException.__getattribute__"=some ("BaseException","__getattribute__"):=by decide +kernel
 have ha:=PySem.F.args_bexc_ga (.ref x) (.str "__class__" t)
 have LI:zdt (z8u prog w) hh (zfc (.ref x) (.type "BaseException")) true:=L0.andThen L4
 simp only[checkBuiltinCall,hkd,hsp]
 refine z8g (LI.at ?_)
 simp only[Bool.not_true,zb7,if_false]
 refine zcc (a:=()) ha ?_
 unfold zdg.«object.__getattribute__»
 refine z8g (m:=slotArgs _ _ _) (z8q ?_)
 dsimp only
 refine z8g ?_
 show z8t _ _ (zbL (.str "__class__" t)) _ _ _
 first
  |exact z8q (z8g (L0.at (z8g (L3.at ?_))))
  |(refine z8q (z8g (L0.at (z8g (L3.at ?_)))))
  |(unfold zbL;refine z8q (z8g (L0.at (z8g (L3.at ?_)))))
 dsimp only
 unfold zft
 show z8t _ _ (zeS [Value.builtin "object.__class__"] (call (.builtin "getset_descriptor.__get__") [.builtin "object.__class__",.ref x,.ref D]) >>= ret) _ _ _
 refine z8g (z8W (za5 (class_get (s:=⟨hh,g,d,t+1,os⟩) X I hm ?_)))
 refine z8q ?_
 exact handed_on rfl (z8q h)
theorem XCls.fo{K:Frag}{C:Addr}(h:XCls K C)(od:Option Obj):findObj K C od "__class__"=some (.bind (.builtin "getset_descriptor.__get__") (.builtin "object.__class__")):=by
 have hc:=h.cl
 obtain⟨cd,e⟩:=zaj.mp hc
 unfold findObj
 rw[e,h.fi]
 simp only[zaV]
 rw[h.sp]
 simp only[zaV]
 rw[h.tk]
 rfl
def XcP (x C:Addr)(d:Option Addr)(h:Heap):Prop:=XcAt x C d h/\∀dx,d=some dx->∃o,h.get? dx=some o
theorem Uu{K:Frag}{x C:Addr}{d:Option Addr}(hC:XCls K C):KitX K (.ref x) (.ref C) (XcP x C d) where
 ty:=λM h _ p=>by
  obtain⟨⟨oe,vs,h1,h2,h3,h4⟩,_⟩:=p
  exact h2▸(zgd h1).andThen .now
 it:=λM h X _=>by
  have hcD:=hC.cl
  unfold zbt at hcD
  split at hcD
  ·rename_i c' d' cd' sl' ho
   intro A' Q' E' s' k q
   unfold isType loadHead
   exact z8g (zd3 (k _ _ (X _ _ ho)) (z8q q))
  ·cases hcD
 ne:=λh tp dd its n sl X htp=>by
  refine Bool.eq_false_iff.mpr λq=>?_
  have e:C=tp:=Value.ref.inj (beq_iff_eq.mp q)
  subst e
  have hcD:=hC.cl
  unfold zbt at hcD
  split at hcD
  ·rename_i c' d' cd' sl' ho
   have z:=(X _ _ ho).symm.trans htp
   cases z
  ·cases hcD
 ca:=λX p k=>by
  obtain⟨⟨oe,vs,h1,h2,h3,h4⟩,h5⟩:=p
  cases d with
  |none=>
   refine ZR (ox:=oe) (od:=none) X ⟨h1,h2,?_,?_⟩ hC.ga hC.hk (hC.fo _) hC.ob hC.bx k
   ·unfold notCls;rw[h3]
   ·rw[h4];trivial
  |some dx=>
   obtain⟨o,ho⟩:=h5 dx rfl
   refine ZR (ox:=oe) (od:=some o) X ⟨h1,h2,?_,?_⟩ hC.ga hC.hk (hC.fo _) hC.ob hC.bx k
   ·unfold notCls;rw[h3]
   ·rw[h4];exact ho
end
section
variable {X:Cx}{D:DP}{W:XW}{Γ:Cn}{k:Nat}{pins:List (Addr×Obj)}{s:Shared}{σ:St}{H:Hp}{φ α:List Addr}{τ:Sl}{μ:Mem}{f g h:De}{a b c:Expr}{pos:Pos}{es:List Expr}{fs:List De}
theorem qz{e:Expr}{f:Str}{env:Env}(h:qe e=true):zaD e f env (eval e env)=eval e env:=by
 cases e with
 |Call g args kws p=>
  cases g with
  |Name x p0=>
   have hx:(x != ("super":Str))=true:=h
   cases args<;>cases kws<;>first|rfl|(unfold zaD;simp[hx])
  |Attribute _ _ _=>rfl
  |_=>exact absurd (show false=true from h) z8H
 |_=>first|exact absurd (show false=true from h) z8H|rfl
theorem XDict.ext{D:DP}{fs:List (Nat×T)}{d:Option Addr}(x:XDict D φ α H fs d)(I:Inv X pins σ H s):∀dx,d=some dx->∃o,s.heap.get? dx=some o:=λdx e=>by
 subst e
 obtain⟨gs,_,_,e,_⟩:=x
 exact Q1 (I.hok dx _ e)
def rdO (D:DP)(W:XW)(f:Dp):TO:=λσ H Q=>RdP D H σ λφ α τ μ=>Post D W φ α H σ (λo _ _ H'=>Q o H') (f τ μ)
theorem z29:PO X none (rdO D W pN):=by
 rintro pins s σ H Q I ⟨φ,α,τ,μ,sr,mr,p⟩
 exact z11 pins s σ H Q I (Post.ok p (Stp.refl _ _) mr)
theorem z13(h:PE X a (rdE D W f)):PO X (some a) (rdO D W (pS f)):=by
 rintro pins s σ H Q I ⟨φ,α,τ,μ,sr,mr,p⟩
 refine z2n h pins s σ H Q I ⟨φ,α,τ,μ,sr,mr,p.bind.mono λt μ' α' H' st m q v d=>?_⟩
 split at q
 ·cases d
  exact⟨_,rfl,q.ok (Stp.refl _ _) m⟩
 ·exact q.elim
theorem ke{ts:List T}{xs:List V}(l:DenL D φ α H ts xs)(lo hi:Option Int):DenL D φ α H (xx ts lo hi) (Zb xs lo hi):=by
 have e:ts.length=xs.length:=l.length
 have e1:∀n d o,UQ n d o=HT.sIx n d o:=λn d o=>by cases o<;>rfl
 unfold xx Zb
 rw[e1,e1,e]
 exact (l.drop _).take _
theorem kR{prog:z91}{w:z9c}{A:z8V}{E:Value->z8k->Prop}{s:z8k}{t sl:Addr}{items:Array Value}{vl vu:Value}{lo hi:Option Int}{Q:Value->z8k->Prop}(ht:zdO s.heap t items)(hs:s.heap.IsSliceOf sl vl vu .none)(pl:zcL vl lo)(pu:zcL vu hi)
  (hw:HT.sIx items.size 0 lo=0/\HT.sIx items.size items.size hi=items.size) (h:Q (.ref t) s):z8t (z8u prog w) A (zbs (.ref t) (.ref sl)) Q E s:=by
 obtain⟨os,hos,hcs,hds⟩:=id hs
 have hTs:s.TypeIs (.ref sl) "slice":=⟨os,hos,hcs⟩
 unfold zbs
 try with_reducible refine z8W ?_
 first|refine z8g (z8q ?_)|skip
 refine z8g (zd_ ht.typeIs (by decide) ?_)
 refine z8g (zcw (name:=z9T "__getitem__") ht.typeIs z9C (zew z9C ht.typeIs zdj ?_ (zdD _ _)))
 show z8t _ _ (zbV (.ref t) >>= _) _ _ s
 refine z8g (tupleItemsOf_ ht ?_)
 refine z8g (zcM hTs ?_)
 rw[if_pos (by decide)]
 refine z8g (HT.sliceApplied_gen hs pl pu ?_)
 show z8t _ _ (if (((HT.sIx items.size 0 lo:Nat):Int) == 0&&(1:Int) == 1&&(HT.sIx items.size items.size hi-HT.sIx items.size 0 lo) == items.size)=true then _ else _) _ _ s
 rw[if_pos (by rw[hw.1,hw.2];simp)]
 refine z8g ?_
 unfold zfd
 refine z8g (zcM ht.typeIs (z8q ?_))
 rw[if_pos (by decide)]
 first
  |exact z8g (zdI (z8q ⟨_,rfl,z8q h⟩))
  |exact z8g (zdI (z8g (z8q (z8q ⟨_,rfl,z8q h⟩))))
theorem z1J:SlR X (λx lo hi H Q=>∃a xs,x=.ref a/\SqT X.K H a xs/\(HT.sIx xs.length 0 lo=0/\HT.sIx xs.length xs.length hi=xs.length)/\Q (.ref a) H):=by
 intro pins s σ H x v vl vu lo hi sl Q I rx hs pl pu h
 obtain⟨a,xs,rfl,hx,hw,q⟩:=h
 cases rx
 obtain⟨its,r,ht,hz⟩:=I.tuple hx
 have hlen:its.toArray.size=xs.length:=by rw[z8A];exact r.length.symm
 exact⟨"tuple",_,z9C.lookup,ht.typeIs,kR ht hs pl pu (by rw[hlen];exact hw) ⟨.ref a,H,I,rfl,q⟩⟩
theorem z51:SlR X (λx lo hi H Q=>∃z,x=.str z/\z.length<=sizeLine/\Q (.str (Txt.slice z lo hi)) H):=by
 intro pins s σ H x v vl vu lo hi sl Q I rx hs pl pu h
 obtain⟨z,rfl,hz,q⟩:=h
 obtain⟨t0,rfl⟩:=rx
 refine⟨"str",_,F.slot_str_getitem.lookup,zf5 _ _ _,?_⟩
 obtain⟨o,h1,h2,h3⟩:=hs
 have fin:∀(l u:Option (Int×Tok)),vl=partValue l->vu=partValue u->lo=l.map (·.1)->hi=u.map (·.1)->z8t (z8u X.prog X.w) X.A (zbs (.str z t0) (.ref sl)) (EP X pins σ Q) X.xe s:=by
  rintro l u rfl rfl rfl rfl
  exact wpAny_getItem_str_slice (l:=l) (u:=u) (st:=none) ⟨o,h1,h2,h3⟩ rfl (post_val_or_str ⟨z8G (Txt.slice_le z _ _) hz,λt' k=>⟨.str _,H,I.tok _,⟨t',rfl⟩,q⟩⟩)
 cases pl with
 |none=>
  cases pu with
  |none=>exact fin none none rfl rfl rfl rfl
  |int j u=>exact fin none (some (j,u)) rfl rfl rfl rfl
 |int i t=>
  cases pu with
  |none=>exact fin (some (i,t)) none rfl rfl rfl rfl
  |int j u=>exact fin (some (i,t)) (some (j,u)) rfl rfl rfl rfl
theorem Ub{lo hi:Option Expr}{fo go:Dp}{p2:Pos}(ha:PE X a (rdE D W f))(hl:PO X lo (rdO D W fo))(hu:PO X hi (rdO D W go)):PE X (.Subscript a (.Slice lo hi none p2) pos) (rdE D W (eSl f fo go)):=by
 refine PE.mono (Yw (z14.or (z4z.or (z1J.or z51))) ha hl hu) ?_
 rintro σ H Q ⟨φ,α,τ,μ,sr,mr,p⟩
 refine⟨φ,α,τ,μ,sr,mr,p.bind.mono λt μ1 α1 H1 st m q v d=>?_⟩
 refine⟨φ,α1,τ,μ1,sr.step st,m,q.bind.mono λl μ2 α2 H2 st2 m2 q2=>?_⟩
 refine⟨φ,α2,τ,μ2,(sr.step st).step st2,m2,q2.bind.mono λu μ3 α3 H3 st3 m3 q3=>?_⟩
 unfold z6v at q3
 split at q3
 ·obtain⟨ad,xs,rfl,_,_,r,dl⟩:=(d.step st2).step st3
  refine .inl ⟨ad,xs,rfl,.inl r,λz hz=>?_⟩
  exact q3.fresh m3 (zh hz) ⟨z,_,rfl,zv m3 hz,zu m3 hz,.inl z8,ke (dl.step (Stp.new (zh hz))) _ _⟩
 ·obtain⟨ad,xs,rfl,n1,n2,r,dl⟩:=(d.step st2).step st3
  by_cases hw:HT.sIx xs.length 0 l=0/\HT.sIx xs.length xs.length u=xs.length
  ·refine .inr (.inr (.inl ⟨ad,xs,rfl,.inl r,hw,?_⟩))
   have e:Zb xs l u=xs:=by unfold Zb;rw[hw.1,hw.2];simp
   have dd:=ke dl l u
   rw[e] at dd
   exact q3.here m3 ⟨ad,xs,rfl,n1,n2,r,dd⟩
  ·refine .inr (.inl ⟨ad,xs,rfl,.inl r,hw,λz hz=>?_⟩)
   exact q3.fresh m3 (zh hz) ⟨z,_,rfl,zv m3 hz,zu m3 hz,.inl z8,ke (dl.step (Stp.new (zh hz))) _ _⟩
 ·obtain⟨hz,q3⟩:=q3.grd
  have d:v=.str _:=d
  subst d
  exact .inr (.inr (.inr ⟨_,rfl,zB hz,q3.here m3 rfl⟩))
 ·obtain⟨ts,hj,q3⟩:=q3.ex1
  obtain⟨ad,hi',rfl⟩:=(d.step st2).step st3
  obtain⟨xs,e2,dl⟩:=m3.ob _ ad _ hi' hj
  refine .inl ⟨ad,xs,rfl,.inl (.inl e2),λz hz=>?_⟩
  exact Post.fresh q3 m3 (zh hz) ⟨z,_,rfl,zv m3 hz,zu m3 hz,.inl z8,ke (dl.step (Stp.new (zh hz))) _ _⟩
 ·exact q3.elim
theorem yw{g:Fn}{fa:Addr}{fd:z9t}{ps:List Str}{kk:Nat}{us:List Value}{vs:List V}{ts:List T}{Q:VK}(C:Ck D W Γ X k)(F:FnOk X.prog X.w X.K X.mg X.base (CX1 X.prog X.w) kk fa fd ps (spN D ps.length g))
  (hr:Room kk X.A) (hb:Binds X.K fd ps []) (har:∀ts μ K Z,g ts μ K Z->ts.length=ps.length) (I:Inv X pins σ H s) (r:Vals vs us) (mr:MRel D φ α H μ) (d:DenL D φ α H ts vs) (p:Post D W φ α H σ (RV D φ Q) (g ts μ)) :
  z8t (z8u X.prog X.w) X.A (call (.ref fa) us) (EP X pins σ Q) X.xe s:=by
 obtain⟨K,Z,q,hq,hz⟩:=p
 have hl:ts.length=ps.length:=har ts μ K Z q
 have sp:spN D ps.length g vs H Q (λc d H'=>W c d σ H'):=⟨by rw[←d.length];exact hl,φ,α,ts,μ,d,mr,K,Z,q,hq,hz⟩
 have hl2:us.length=ps.length:=by rw[←r.length,←d.length];exact hl
 refine za5 (z9H (F.run X.A X.stack s H ⟨us,[]⟩ us vs Q (λc d H'=>W c d σ H') hr I.env0 (by simpa using hb s us I.kIn (by simpa using hl2)) r sp) λr s' hq=>?_)
 cases r with
 |error e=>exact C.xe e s' (yv (E:=λc d H'=>W c d σ H') I hq λcls d H' w=>w)
 |ok fl=>
  cases fl with
  |ret u=>exact I.after hq
  |next=>exact z8Q hq
  |brk=>exact z8Q hq
  |cont=>exact z8Q hq
theorem z2B(C:Ck D W Γ X k){x:Str}{g:Fn}{p0:Pos}(hx:x∈Γ.G)(hg:Γ.gl x=.fn g)(hc:Γ.calm=true)(ha:EsOk X D W es fs):PE X (.Call (.Name x p0) es [] pos) (rdE D W (z7 g fs)):=by
 have q:=C.glo x hx
 rw[hg] at q
 obtain⟨fa,hm,fd,ps,kk,hk,hb,hkk,Fn,har⟩:=q
 have hr:=(C.rom hc).mono hkk
 have hs:=ha.stars
 have pa:=wx ha
 rintro pins s σ H Q I ⟨φ,α,τ,μ,sr,mr,p⟩
 refine z9a (qS I (C.glb x hx) hm ?_ (C.dbG x hx))
 cases es with
 |nil=>
  cases fs with
  |nil=>exact zan I.kIn hk (yw (ts:=[]) C Fn hr hb har I .nil mr rfl p)
  |cons f fs=>exact ha.elim
 |cons e es=>
  simp only[z9e,z8j] at hs
  refine z9E (h₀:=X.base) I.ok.mod.kin hk (thn (XB pa I sr mr p) ?_) (z6 hs.1) (zX hs.2)
  rintro us s1 ⟨vs,H1,ts,μ1,α1,I1,r1,st1,sr1,mr1,d1,_,p1⟩
  exact⟨I1.kIn,yw C Fn hr hb har I1 r1 mr1 d1 p1⟩
theorem run_mk{c:Nat}{g:Fn}{C0 fI:Addr}{fd:z9t}{ps:List Str}{kk:Nat}{us:List Value}{vs:List V}{ts:List T}{Q:VK}(C:Ck D W Γ X k)(ad:D.cad c=some C0)(M:Mk X.K C0 fI)(F:FnOk X.prog X.w X.K X.mg X.base (CX1 X.prog X.w) kk fI fd ps (spN D ps.length g))
  (hr:Room (kk+1) X.A) (hb:Binds X.K fd ps []) (har:∀ts μ K Z,g ts μ K Z->ts.length=ps.length) (I:Inv X pins σ H s) (r:Vals vs us) (mr:MRel D φ α H μ) (d:DenL D φ α H ts vs) (p:Post D W φ α H σ (RV D φ Q) (Vx c g ts μ)) :
  z8t (z8u X.prog X.w) X.A (call (.ref C0) us) (EP X pins σ Q) X.xe s:=by
 obtain⟨K,Z,⟨hp,hg⟩,hk,hz⟩:=p
 have hl:(T.mut 0::ts).length=ps.length:=har _ _ _ _ hg
 have hq:∀x dx,H x=none->H dx=none->dx≠x->spN D ps.length g (.ref x::(vs++[])) (upd (upd H dx (.own x)) x (.ins C0 dx [])) (λv H2=>v=.non/\Q (.ref x) H2) (λc d H'=>W c d σ H'):=by
  intro x dx hx hdx hne
  have sm:xN H (upd (upd H dx (.own x)) x (.ins C0 dx [])):=λb o e=>by rw[z9 (zV e hx),z9 (zV e hdx)];exact e
  have st0:Stp [] H [x] (upd (upd H dx (.own x)) x (.ins C0 dx [])):=⟨⟨[x],rfl,λb hb'=>by rw[z8l.mp hb'];exact hx⟩,λb o _ e=>sm b o e,λb e=>by
   cases q:H b with
   |none=>rfl
   |some o=>rw[sm b o q] at e;cases e⟩
  have nx:x∉φ++α:=λz=>(z8v.mp z).elim (zv mr hx) (zu mr hx)
  have ph:∀b∈φ++α,∃o,H b=some o:=λb hb'=>(z8v.mp hb').elim (mr.phi b) λz=>by
   obtain⟨i,hi⟩:=zaI.mp z
   have hl':i<μ.length:=by rw[←mr.len];exact (z8h.mp hi).1
   exact (mr.ob i b μ[i] hi (by simp[hl'])).some
  refine⟨by simp only[z8L,z98] at hl ⊢;rw[←d.length];exact hl,φ++α,[x],.mut 0::ts,[.obj c []],⟨.ref x,vs++[],rfl,⟨x,rfl,rfl⟩,by rw[z98];exact (DenL.hide hp d z1z).step st0⟩,⟨rfl,by simp,λb hb'=>by rw[z8l.mp hb'];exact nx,λb hb'=>let ⟨o,e⟩:=ph b hb';⟨o,sm b o e⟩,λi a o e1 e2=>?_⟩,?_⟩
  ·cases i with
   |zero=>simp at e1 e2;subst e1 e2;exact⟨C0,dx,[],ad,z8,rfl⟩
   |succ i=>simp at e1
  have back:∀{α2:List Addr} {H3:Hp},Stp [x] (upd (upd H dx (.own x)) x (.ins C0 dx [])) α2 H3->xN H H3:=λst b o e=>st.keep b o (λz=>by rw[z8l.mp z,hx] at e;cases e) (sm b o e)
  refine⟨_,_,hg,?_,?_⟩
  ·rintro t μ2 ⟨rfl,fs,h0,hpf,q⟩ α2 H3 st m v dv
   refine⟨dv,?_⟩
   obtain⟨β,rfl,_⟩:=st.ext
   obtain⟨C1,dx1,gs,ad1,e1,lf⟩:=m.ob 0 x _ rfl h0
   have sm3:=back st
   exact hk _ _ q α H3 (Stp.new sm3) (mr.new sm3) _ ⟨x,C1,dx1,gs,rfl,zv mr hx,zu mr hx,ad1,e1,DenF.hide hpf lf WA⟩
  ·rintro e fs μ2 ⟨hpf,q⟩ α2 H3 C1 d1 st m had xd
   have sm3:=back st
   exact hz _ _ _ q α H3 C1 d1 (Stp.new sm3) (mr.new sm3) had (XDict.hide hpf xd WA)
 have hq1:=hq (s.heap.objs.size+1) s.heap.objs.size (I.hok.fresh (zby _)) (I.hok.fresh (z8n _)) (z8O (z9D _))
 have I2:=Inv.made (C:=C0) I
 have r2:Vals (V.ref (s.heap.objs.size+1)::(vs++[])) (z8J (s.heap.objs.size+1)::us):=.cons rfl (by rw[z98];exact r)
 have hlu:(z8J (s.heap.objs.size+1)::us++[]).length=ps.length:=by
  rw[z98,z8L,←r.length,←d.length]
  exact hl
 refine za5 (ui (f:=fI) I.kIn M.makes M.init (beq_iff_eq.mp M.fn) (z9H (F.run _ X.stack _ _ ⟨z8J (s.heap.objs.size+1)::us,[]⟩ (z8J (s.heap.objs.size+1)::us) _ _ (λc d H'=>W c d σ H') (hr.make C0 us [])
  (I2.env0.make C0 us []) (by simpa using hb _ (z8J (s.heap.objs.size+1)::us) I2.kIn hlu) r2 hq1) λr s' hq'=>?_))
 cases r with
 |error e=>exact C.xe e s' (yv (E:=λc d H'=>W c d σ H') I2 hq' λcls d H' w=>w)
 |ok fl=>
  cases fl with
  |ret u=>
   obtain⟨v,H',I3,rv,ev,q3⟩:=I2.after hq'
   subst ev
   exact⟨rv,⟨V.ref (s.heap.objs.size+1),H',I3,rfl,q3⟩⟩
  |next=>exact z8Q hq'
  |brk=>exact z8Q hq'
  |cont=>exact z8Q hq'
theorem z2o(C:Ck D W Γ X k){x:Str}{c:Nat}{g:Fn}{p0:Pos}(hx:x∈Γ.G)(hg:Γ.gl x=.mk c true g)(hc:Γ.calm=true)(ha:EsOk X D W es fs):PE X (.Call (.Name x p0) es [] pos) (rdE D W (eMk c g fs)):=by
 have q:=C.glo x hx
 rw[hg] at q
 obtain⟨C0,fI,fd,ps,kk,ad,hm,M,hb,hkk,Fn,har⟩:=q
 have hr:=(C.rom hc).mono hkk
 have hs:=ha.stars
 have pa:=wx ha
 rintro pins s σ H Q I ⟨φ,α,τ,μ,sr,mr,p⟩
 refine z9a (qS I (C.glb x hx) hm ?_ (C.dbG x hx))
 cases es with
 |nil=>
  cases fs with
  |nil=>exact zan I.kIn M.kp (run_mk (ts:=[]) C ad M Fn hr hb har I .nil mr rfl p)
  |cons f fs=>exact ha.elim
 |cons e es=>
  simp only[z9e,z8j] at hs
  refine z9E (h₀:=X.base) I.ok.mod.kin M.kp (thn (XB pa I sr mr p) ?_) (z6 hs.1) (zX hs.2)
  rintro us s1 ⟨vs,H1,ts,μ1,α1,I1,r1,st1,sr1,mr1,d1,_,p1⟩
  exact⟨I1.kIn,run_mk C ad M Fn hr hb har I1 r1 mr1 d1 p1⟩
theorem z3X(C:Ck D W Γ X k){x:Str}{n:Nat}(hp:qe a=true)(hn:(x,n)∈Γ.fld)(ha:PE X a (rdE D W f)):PE X (.Attribute a x pos) (rdE D W (zf f n)):=by
 refine PE.mono (z4L ha (qz hp)) ?_
 rintro σ H Q ⟨φ,α,τ,μ,sr,mr,p⟩
 refine⟨φ,α,τ,μ,sr,mr,p.bind.mono λt μ1 α1 H1 st m q v d=>?_⟩
 unfold QF at q
 split at q
 ·split at q
  ·rename_i c fs _ w hw
   obtain⟨ad,C0,dx,gs,rfl,_,_,e1,e2,l⟩:=d
   obtain⟨y,z,hy,hz,dz⟩:=l.look hw
   obtain⟨c0,c1,c2⟩:=C.fld c C0 x n e1 hn
   rw[hy] at c0;cases c0
   exact⟨ad,C0,dx,gs,z,rfl,e2,c1,c2,hz,q.here m dz⟩
  ·exact q.elim
 ·obtain⟨c,fs,w,hi,hw,q⟩:=q.ex3
  obtain⟨ad,hi',rfl⟩:=d
  obtain⟨C0,dx,gs,e1,e2,l⟩:=m.ob _ ad _ hi' hi
  obtain⟨y,z,hy,hz,dz⟩:=l.look hw
  obtain⟨c0,c1,c2⟩:=C.fld c C0 x n e1 hn
  rw[hy] at c0;cases c0
  exact⟨ad,C0,dx,gs,z,rfl,e2,c1,c2,hz,Post.here q m dz⟩
 ·exact q.elim
end
section
variable {X:Cx}{D:DP}{W:XW}{Γ:Cn}{k:Nat}{pins:List (Addr×Obj)}{s:Shared}{σ:St}{H:Hp}{φ α:List Addr}{τ:Sl}{μ:Mem}{f g h:De}{a b c:Expr}{pos:Pos}{es:List Expr}
theorem Kx{B:Prop}(C:Ck D W Γ X k){c:Nat}{C0 dx ad:Addr}{gs:List (Str×V)}(I:Inv X pins σ H s)(e1:D.cad c=some C0)(ea:H ad=some (.ins C0 dx gs))
  (hh:∀tv P,WM D c tv->zcP X.K (.ref ad) tv P->P s.heap->(z8J ad)≠.builtin "__main__.__loader__#opaque"->B):B:=by
 have o:=C.ocx c C0 e1
 obtain⟨mA,O,_⟩:=kj I.hok ea
 obtain⟨od,J,_⟩:=O.look
 exact hh _ _ (.inr (.inr (.inr (.inr (.inr (.inr (.inr (.inr ⟨C0,e1,rfl⟩)))))))) (PySem.W.kitx_own (o.cl.get _) o.cl.hd o.fi o.sp o.tk o.ob) J (λz=>nomatch z)
theorem z3D{B:Prop}(C:Ck D W Γ X k){t:T}{v:V}{u:Value}{n:Nat}(I:Inv X pins σ H s)(d:Den D φ α H t v)(r:RelV v u)(ht:tyN t μ=some n)
  (hh:∀tv P,WM D n tv->zcP X.K u tv P->P s.heap->u≠.builtin "__main__.__loader__#opaque"->B):B:=by
 cases t with
 |non=>cases d;cases r;cases ht;exact hh _ _ (.inl ⟨rfl,rfl⟩) PySem.W.kitx_none z9p (λz=>nomatch z)
 |bl b=>cases d;cases r;cases ht;exact hh _ _ (.inr (.inl ⟨rfl,rfl⟩)) PySem.W.kitx_bool z9p (λz=>nomatch z)
 |int i=>cases d;obtain⟨t,rfl⟩:=r;cases ht;exact hh _ _ (.inr (.inr (.inl ⟨rfl,rfl⟩))) PySem.W.kitx_int z9p (λz=>nomatch z)
 |str i=>cases d;obtain⟨t,rfl⟩:=r;cases ht;exact hh _ _ (.inr (.inr (.inr (.inl ⟨rfl,rfl⟩)))) PySem.W.kitx_str z9p (λz=>nomatch z)
 |tup ts=>
  obtain⟨ad,xs,rfl,_,_,q,_⟩:=d;cases r;cases ht
  obtain⟨its,_,⟨o,h1,h2,_⟩,_⟩:=I.tuple (.inl q)
  exact hh _ _ (.inr (.inr (.inr (.inr (.inl ⟨rfl,rfl⟩))))) PySem.W.kitx_tuple ⟨o,h1,h2⟩ (λz=>nomatch z)
 |lst ts=>
  obtain⟨ad,xs,rfl,_,_,q,_⟩:=d;cases r;cases ht
  obtain⟨its,_,p,_⟩:=I.list (.inl q)
  obtain⟨o,h1,h2,_⟩:=p.isList
  exact hh _ _ (.inr (.inr (.inr (.inr (.inr (.inl ⟨rfl,rfl⟩)))))) zee ⟨o,h1,h2⟩ (λz=>nomatch z)
 |exc c fs=>
  obtain⟨ad,C0,dd,rfl,_,_,e1,e2,xd⟩:=d;cases r;cases ht
  have hx:=C.xcx n C0 e1
  obtain⟨p,_⟩:=(show ObjOk X.prog X.w H s.heap ad (.ext (XcAt ad C0 dd)) from I.hok ad _ e2)
  have xd:XDict D φ α H fs dd:=by cases dd<;>exact xd
  exact hh _ _ (.inr (.inr (.inr (.inr (.inr (.inr (.inl ⟨C0,e1,rfl⟩))))))) (Uu hx) ⟨p,xd.ext I⟩ (λz=>nomatch z)
 |dic kvs=>
  obtain⟨ad,gs,rfl,_,_,e,_⟩:=d;cases r;cases ht
  obtain⟨_,_,vs,_,dd⟩:=(show ObjOk X.prog X.w H s.heap ad (.dK gs) from I.hok ad _ e)
  exact hh _ _ (.inr (.inr (.inr (.inr (.inr (.inr (.inr (.inl ⟨rfl,rfl⟩)))))))) zef dd.typeIs (λz=>nomatch z)
 |obj c fs=>
  obtain⟨ad,C0,dx,gs,rfl,_,_,e1,e2,l⟩:=d;cases r;cases ht
  exact Kx C I e1 e2 hh
 | «mut» i=>cases ht
 |clo j cs=>cases ht
theorem z1L{B:Prop}(C:Ck D W Γ X k){i:Nat}{v:V}{u:Value}{o:MO}(I:Inv X pins σ H s)(mr:MRel D φ α H μ)(d:Den D φ α H (.mut i) v)(r:RelV v u)(ht:μ[i]?=some o)(hnt:z2C o=false)
  (hh:∀tv P,WM D (tyO o) tv->zcP X.K u tv P->P s.heap->u≠.builtin "__main__.__loader__#opaque"->B):B:=by
 obtain⟨ad,hi,rfl⟩:=d
 cases r
 have dd:=mr.ob i ad o hi ht
 cases o with
 |lst ts=>
  obtain⟨xs,q,_⟩:=dd
  obtain⟨its,_,p,_⟩:=I.list (.inl (.inl q))
  obtain⟨o,h1,h2,_⟩:=p.isList
  exact hh _ _ (.inr (.inr (.inr (.inr (.inr (.inl ⟨rfl,rfl⟩)))))) zee ⟨o,h1,h2⟩ (λz=>nomatch z)
 |obj c fs=>
  obtain⟨C0,dx,gs,e1,e2,l⟩:=dd
  exact Kx C I e1 e2 hh
 |dic kvs=>
  obtain⟨gs,e,_⟩:=dd
  obtain⟨_,_,vs,_,dd⟩:=(show ObjOk X.prog X.w H s.heap ad (.dK gs) from I.hok ad _ e)
  exact hh _ _ (.inr (.inr (.inr (.inr (.inr (.inr (.inr (.inl ⟨rfl,rfl⟩)))))))) zef dd.typeIs (λz=>nomatch z)
 |tab j=>cases hnt
theorem Kd{B:Prop}(C:Ck D W Γ X k){t:T}{v:V}{u:Value}{cs:List Nat}{Q:VK}(I:Inv X pins σ H s)(mr:MRel D φ α H μ)(d:Den D φ α H t v)(r:RelV v u)(q:Post D W φ α H σ (RV D φ Q) (UO cs t μ))
  (hh:∀n tv P,Post D W φ α H σ (RV D φ Q) (.ok (.bl (isAny n cs)) μ)->WM D n tv->zcP X.K u tv P->P s.heap->u≠.builtin "__main__.__loader__#opaque"->B):B:=by
 unfold UO at q
 split at q
 ·obtain⟨o,ho,q⟩:=q.som
  rcases q.br with⟨_,q⟩|⟨hb,q⟩
  ·exact q.elim
  ·exact z1L C I mr d r ho hb λtv P=>hh _ tv P q
 ·split at q
  ·rename_i tn htn
   exact z3D C I d r htn λtv P=>hh _ tv P q
  ·exact q.elim
def vG(Γ:Cn):List Expr->Option (List Nat)
 |[]=>some []
 |e::r=>match e with
  |.Name x _=>if (idx Γ.N x).isNone&&Γ.G.contains x then (match Γ.cls.lookup x with
   |some c=>(vG Γ r).map (c::·)
   |none=>none) else none
  |_=>none
def uq(Γ:Cn)(e:Expr):Option (List Nat):=match e with
 |.Name _ _=>vG Γ [e]
 |.Tuple es _ _=>if decide (es.length<=room) then vG Γ es else none
 |_=>none
theorem lookup_mem{β:Type}{x:Str}{v:β}:∀{l:List (Str×β)},l.lookup x=some v->(x,v)∈l
 |[],h=>by cases h
 |(y,w)::r,h=>by
  rw[z8_] at h
  cases q:x == y with
  |true=>rw[q] at h;cases h;rw[beq_iff_eq.mp q];exact z8M
  |false=>rw[q] at h;exact z8y _ (lookup_mem h)
theorem z4A(C:Ck D W Γ X k){x:Str}{c:Nat}(hc:x∈Γ.G)(hl:(x,c)∈Γ.cls):∃u v,YE X x u/\ClsV v u/\∀p0,PE X (.Name x p0) (tC v):=by
 obtain⟨u,v,cv,r⟩:=C.clv x c hl
 refine⟨u,v,cv,r,λp0=>?_⟩
 rcases cv with h|⟨h,hb,hn⟩
 ·exact K7 (C.glb x hc) h r.rel (C.dbG x hc)
 ·exact z1i (C.glb x hc) h hb r.rel hn (C.dbG x hc)
theorem QZ(C:Ck D W Γ X k):∀{es:List Expr} {cs:List Nat},vG Γ es=some cs->∃us vs,(∀us',Vals vs us'->us'=us)/\vs.length=es.length/\es.all noStar=true/\PA X es (λ_ H Q=>Q vs H)/\∀t tv,WM D t tv->zd9 X.K tv us=some (isAny t cs)
 |[],cs,h=>by
  simp[vG] at h;subst h
  exact⟨[],[],λus' r=>by cases r;rfl,rfl,rfl,λpos pins s σ H Q I q=>qk pos pins s σ H Q I q,λt tv _=>rfl⟩
 |e::es,cs,h=>by
  unfold vG at h
  split at h
  ·rename_i x p0
   split at h
   ·rename_i hc
    simp only[z8j,za6] at hc
    split at h
    ·rename_i c hl
     cases hr:vG Γ es with
     |none=>rw[hr] at h;cases h
     |some cs'=>
      rw[hr] at h
      cases h
      have hm:=lookup_mem hl
      obtain⟨us,vs,rv,hl,hs,hp,hk⟩:=QZ C hr
      obtain⟨u,v,cv,r,pe⟩:=z4A C hc.2 hm
      refine⟨u::us,v::vs,λus' q=>by cases q with|cons q1 q2=>rw[r.only q1,rv _ q2],by simp[hl],by simp[noStar,hs],λpos pins s σ H Q I q=>zC (pe p0) hp (z6 rfl) pos pins s σ H Q I q,λt tv ht=>?_⟩
      have k1:=C.isi t x c hm tv u ht cv
      have k2:=hk t tv ht
      unfold zd9
      rw[k1]
      rw[yS]
      cases hb:vP t c with
      |true=>rfl
      |false=>exact k2
    ·cases h
   ·cases h
  ·cases h
theorem z3M (C:Ck D W Γ X k) {cs:List Nat} {p0:Pos} (hx:("isinstance":Str)∈Γ.G) (hg:Γ.gl "isinstance"=.none) (hs:noStar a=true) (hcs:uq Γ c=some cs) (ha:PE X a (rdE D W f)):PE X (.Call (.Name "isinstance" p0) [a,c] [] pos) (rdE D W (vL cs f)):=by
 have hm:=C.glo _ hx
 rw[hg] at hm
 rintro pins s σ H Q I ⟨φ,α,τ,μ,sr,mr,p⟩
 refine z9a (vD I (C.glb _ hx) hm boot_isinstance ?_ (by decide) (C.dbG _ hx))
 unfold uq at hcs
 split at hcs
 ·rename_i cn pc
  obtain⟨us0,vs0,hu,hl,hst,hp,hk⟩:=QZ C hcs
  refine z9F (thn (zC ha hp (z6 hs) pos pins s σ H (λvs H1=>∃v t μ1 α1,vs=v::vs0/\Stp α H α1 H1/\MRel D φ α1 H1 μ1/\Den D φ α1 H1 t v/\Post D W φ α1 H1 σ (RV D φ Q) (UO cs t μ1)) I ⟨φ,α,τ,μ,sr,mr,p.bind.mono λt μ' α' H' st m q v d=>⟨v,t,μ',α',rfl,st,m,d,q⟩⟩) ?_) (z6 hs) (zX (by rfl))
  rintro us s1 ⟨vs,H1,I1,rv,v,t,μ1,α1,rfl,st,m,d,q⟩
  cases rv with
  | @cons _ u _ us' r1 r2=>
  obtain rfl:=hu us' r2
  have hlu:us'.length=1:=by rw[←r2.length];exact hl
  match us',hlu with
  |[uc],_=>
  refine Kd C I1 m d r1 q λtn tv P q ht kx hP hne=>?_
  have kk:=hk tn tv ht
  have k1:zb_ X.K tv uc=some (isAny tn cs):=by
   unfold zd9 at kk
   split at kk
   ·rename_i hb;rw[hb];exact kk
   ·rename_i hb;rw[hb];exact kk
   ·cases kk
  exact PySem.W.kia_one kx I1.kIn hP k1 hne λtk=>⟨.bl _,H1,I1.tok tk,rfl,q.here m rfl⟩
 ·rename_i ees kk pc
  split at hcs
  case isFalse=>cases hcs
  rename_i hlen
  obtain⟨us0,vs0,hu,hl,hst,hp,hk⟩:=QZ C hcs
  refine z9F (thn (zC ha (zC (YZ hp) qk (z6 rfl)) (z6 hs) pos pins s σ H (λvs H2=>∃v tp H1 t μ1 α1,vs=[v,.ref tp]/\H1 tp=none/\H2=upd H1 tp (.tup vs0)/\Stp α H α1 H1/\MRel D φ α1 H1 μ1/\Den D φ α1 H1 t v/\Post D W φ α1 H1 σ (RV D φ Q) (UO cs t μ1)) I ⟨φ,α,τ,μ,sr,mr,p.bind.mono λt μ' α' H' st m q v d=>⟨by rw[hl];exact zB (by simpa using hlen),λtp htp=>⟨v,tp,H',t,μ',α',rfl,htp,rfl,st,m,d,q⟩⟩⟩) ?_) (z6 hs) (zX (by rfl))
  rintro us s1 ⟨vs,H2,I1,rv,v,tp,H1,t,μ1,α1,rfl,htp,rfl,st,m,d,q⟩
  obtain⟨u,ut,rfl,r1,r2⟩:=vals2 rv
  have r2:ut=z8J tp:=r2
  subst r2
  have sm:xN H1 (upd H1 tp (.tup vs0)):=zh htp
  refine Kd C I1 (m.new sm) (d.step (Stp.new sm)) r1 (q.step (Stp.new sm)) λtn tv P q ht kx hP hne=>?_
  obtain⟨_,its,rvs,⟨o,ho,hcl,n,hd⟩⟩:=(show ObjOk X.prog X.w _ s1.heap tp (.tup vs0) from I1.hok tp _ z8)
  obtain rfl:=hu its rvs
  obtain⟨oc,odd,odt,osl⟩:=o
  simp only at hcl hd
  subst hcl hd
  exact PySem.W.kia_tup kx I1.kIn hP ho (hk tn tv ht) hne λtk=>⟨.bl _,_,I1.tok tk,rfl,q.here (m.new sm) rfl⟩
 ·cases hcs
end
section
variable {X:Cx}{D:DP}{W:XW}{Γ:Cn}{k:Nat}{pins:List (Addr×Obj)}{s:Shared}{σ:St}{H:Hp}{φ α:List Addr}{τ:Sl}{μ:Mem}{f g h:De}{a b c:Expr}{pos:Pos}{es:List Expr}
def B1 (X:Cx)(D:DP)(W:XW)(fv:Value)(op:T->Mem->RE T):Prop:=
 ∀(pins:List (Addr×Obj)) (s:z8k) (σ:St) (H:Hp) (φ α:List Addr) (μ:Mem) (t:T) (v:V) (u:Value) (Q:VK),Inv X pins σ H s->MRel D φ α H μ->Den D φ α H t v->RelV v u->Post D W φ α H σ (RV D φ Q) (op t μ)->
  z8t (z8u X.prog X.w) X.A (call fv [u]) (EP X pins σ Q) X.xe s
theorem U4 (C:Ck D W Γ X k) {x:Str} {id:String} {op:T->Mem->RE T} {p0:Pos} (hx:x∈Γ.G) (hg:Γ.gl x=.none) (hv:z9S x=some (.builtin id)) (hn:x≠"__name__") (hs:noStar a=true) (hb:B1 X D W (.builtin id) op) (ha:PE X a (rdE D W f)) :
  PE X (.Call (.Name x p0) [a] [] pos) (rdE D W (eB1 op f)):=by
 have hm:=C.glo _ hx
 rw[hg] at hm
 rintro pins s σ H Q I ⟨φ,α,τ,μ,sr,mr,p⟩
 refine z9a (vD I (C.glb _ hx) hm hv ?_ hn (C.dbG _ hx))
 refine z9F (thn (zC ha qk (z6 hs) pos pins s σ H (λvs H1=>∃v t μ1 α1,vs=[v]/\Stp α H α1 H1/\MRel D φ α1 H1 μ1/\Den D φ α1 H1 t v/\Post D W φ α1 H1 σ (RV D φ Q) (op t μ1)) I ⟨φ,α,τ,μ,sr,mr,p.bind.mono λt μ' α' H' st m q v d=>⟨v,t,μ',α',rfl,st,m,d,q⟩⟩) ?_) (z6 hs) (zX (by rfl))
 rintro us s1 ⟨vs,H1,I1,rv,v,t,μ1,α1,rfl,st,m,d,q⟩
 obtain⟨u,rfl,r1⟩:=vals1 rv
 exact hb pins s1 σ H1 φ α1 μ1 t v u Q I1 m d r1 q
theorem z2M (C:Ck D W Γ X k) {x:Str} {id:String} {op:T->Mem->RE T} {p0:Pos} (hx:x∈Γ.G) (hg:Γ.gl x=.none) (hv:z9S x=some (.type id)) (hn:x≠"__name__") (hs:noStar a=true) (hb:B1 X D W (.type id) op) (ha:PE X a (rdE D W f)) :
  PE X (.Call (.Name x p0) [a] [] pos) (rdE D W (eB1 op f)):=by
 have hm:=C.glo _ hx
 rw[hg] at hm
 rintro pins s σ H Q I ⟨φ,α,τ,μ,sr,mr,p⟩
 refine z9a (vD I (C.glb _ hx) hm hv ?_ hn (C.dbG _ hx))
 refine z9U (thn (zC ha qk (z6 hs) pos pins s σ H (λvs H1=>∃v t μ1 α1,vs=[v]/\Stp α H α1 H1/\MRel D φ α1 H1 μ1/\Den D φ α1 H1 t v/\Post D W φ α1 H1 σ (RV D φ Q) (op t μ1)) I ⟨φ,α,τ,μ,sr,mr,p.bind.mono λt μ' α' H' st m q v d=>⟨v,t,μ',α',rfl,st,m,d,q⟩⟩) ?_) (z6 hs) (zX (by rfl))
 rintro us s1 ⟨vs,H1,I1,rv,v,t,μ1,α1,rfl,st,m,d,q⟩
 obtain⟨u,rfl,r1⟩:=vals1 rv
 exact hb pins s1 σ H1 φ α1 μ1 t v u Q I1 m d r1 q
theorem z7w:B1 X D W (.builtin "len") yi:=by
 intro pins s σ H φ α μ t v u Q I mr d r p
 unfold yi at p
 split at p
 ·obtain⟨ad,xs,rfl,_,_,q,l⟩:=d
  exact vz pins s σ H _ _ Q I (.cons r .nil) ⟨ad,xs,rfl,.inl (.inl q),by rw[←l.length];exact p.here mr rfl⟩
 ·obtain⟨ad,xs,rfl,_,_,q,l⟩:=d
  exact vz pins s σ H _ _ Q I (.cons r .nil) ⟨ad,xs,rfl,.inr (.inl q),by rw[←l.length];exact p.here mr rfl⟩
 ·cases d
  obtain⟨hl,p⟩:=p.grd
  exact QA pins s σ H _ _ Q I (.cons r .nil) ⟨_,rfl,zB hl,p.here mr rfl⟩
 ·obtain⟨ts,hj,p⟩:=p.ex1
  obtain⟨ad,hi,rfl⟩:=d
  obtain⟨xs,q,l⟩:=mr.ob _ ad _ hi hj
  exact vz pins s σ H _ _ Q I (.cons r .nil) ⟨ad,xs,rfl,.inl (.inl (.inl q)),by rw[←l.length];exact Post.here p mr rfl⟩
 ·exact p.elim
theorem z74:B1 X D W (.type "int") z1m:=by
 intro pins s σ H φ α μ t v u Q I mr d r p
 unfold z1m at p
 split at p
 ·cases d;exact Qe pins s σ H _ _ Q I (.cons r .nil) (.inl ⟨_,rfl,p.here mr rfl⟩)
 ·cases d;exact Qe pins s σ H _ _ Q I (.cons r .nil) (.inr ⟨_,rfl,p.here mr rfl⟩)
 ·exact p.elim
theorem z25:B1 X D W (.type "tuple") Wm:=by
 intro pins s σ H φ α μ t v u Q I mr d r p
 unfold Wm at p
 split at p
 ·obtain⟨ad,xs,rfl,_,_,q,l⟩:=d
  exact jA pins s σ H _ _ Q I (.cons r .nil) ⟨ad,xs,rfl,.inl ⟨.inl q,λz hz=>p.fresh mr (zh hz) ⟨z,xs,rfl,zv mr hz,zu mr hz,.inl z8,l.step (Stp.new (zh hz))⟩⟩⟩
 ·obtain⟨ts,hj,p⟩:=p.ex1
  obtain⟨ad,hi,rfl⟩:=d
  obtain⟨xs,q,l⟩:=mr.ob _ ad _ hi hj
  exact jA pins s σ H _ _ Q I (.cons r .nil) ⟨ad,xs,rfl,.inl ⟨.inl (.inl q),λz hz=>Post.fresh p mr (zh hz) ⟨z,xs,rfl,zv mr hz,zu mr hz,.inl z8,l.step (Stp.new (zh hz))⟩⟩⟩
 ·exact p.elim
theorem jb{p:Addr}{o:HO}(hp:H p=none):Stp α H (α++[p]) (upd H p o):=⟨⟨[p],rfl,by simpa using hp⟩,λb u _ e=>zh hp b u e,λb e=>by
 by_cases z:b=p
 ·rw[z,z8] at e;cases e
 ·rw[z9 z] at e;exact e⟩
theorem MRel.lay{p:Addr}{ts:List T}{vs:List V}(m:MRel D φ α H μ)(hp:H p=none)(l:DenL D φ α H ts vs):MRel D φ (α++[p]) (upd H p (.lst vs)) (μ++[.lst ts]):=by
 have st:Stp α H (α++[p]) (upd H p (.lst vs)):=jb hp
 have hl:=m.len
 refine⟨by simp[hl],?_,λb hb=>?_,λb hb=>?_,λi a o e1 e2=>?_⟩
 ·rw[zbi]
  refine⟨m.nd,by simp,λa ha b hb=>?_⟩
  rw[z8l.mp hb]
  intro z
  exact zu m hp (z▸ha)
 ·rcases z8v.mp hb with h|h
  ·exact m.dis b h
  ·rw[z8l.mp h];exact zv m hp
 ·obtain⟨u,e⟩:=m.phi b hb
  exact⟨u,zh hp b u e⟩
 ·by_cases hi:i<α.length
  ·rw[z8p hi] at e1
   rw[z8p (by omega)] at e2
   have d:=m.ob i a o e1 e2
   obtain⟨u,q⟩:=d.some
   exact d.step st ((zh hp _ _ q).trans q.symm)
  ·rw[z8r (by omega)] at e1 e2
   have hi':i-α.length=0:=by
    by_cases z:i-α.length=0
    ·exact z
    ·rw[zbo (by simp;omega)] at e1;cases e1
   have hi2:i-μ.length=0:=by omega
   rw[hi'] at e1
   rw[hi2] at e2
   have e1:some p=some a:=e1
   have e2:some (MO.lst ts)=some o:=e2
   cases e1;cases e2
   exact⟨vs,z8,l.step st⟩
theorem Post.lay{Q:VK}{p:Addr}{ts:List T}{vs:List V}(q:Post D W φ α H σ (RV D φ Q) (.ok (.mut μ.length) (μ++[.lst ts])))(m:MRel D φ α H μ)(hp:H p=none)(l:DenL D φ α H ts vs):Q (.ref p) (upd H p (.lst vs)):=
 q.ok (jb hp) (m.lay hp l) _ ⟨p,by rw[←m.len,z8r (z8n _)];simp,rfl⟩
theorem z3B{fs:List De}(hl:es.length<=room)(ha:EsOk X D W es fs):PE X (.List es pos) (rdE D W (Y3 fs)):=by
 refine PE.mono (Ye (wx ha)) ?_
 rintro σ H Q ⟨φ,α,τ,μ,sr,mr,p⟩
 refine⟨φ,α,τ,μ,sr,mr,p.bind.mono λts μ1 α1 H1 st m q vs dl hn=>⟨by rw[hn];exact zB hl,λz hz=>q.lay m hz dl⟩⟩
theorem V1:∀{ts:List T} {bs:List Bool} {vs:List V} {us:List Value},bools ts=some bs->DenL D φ α H ts vs->Vals vs us->us=bs.map zau
 |[],bs,vs,us,h,l,r=>by
  simp[bools] at h;subst h
  have l:vs=[]:=l
  subst l;cases r;rfl
 |t::ts,bs,vs,us,h,l,r=>by
  obtain⟨v,w,rfl,d,l⟩:=l
  cases t with
  |bl b=>
   simp only[bools] at h
   cases q:bools ts with
   |none=>rw[q] at h;cases h
   |some cs=>
    rw[q] at h;cases h
    cases r with
    |cons r1 r2=>
     cases d;cases r1
     rw[V1 q l r2];rfl
  |_=>simp[bools] at h
theorem z6x(hh:X.calm=true):B1 X D W (.builtin "all") Up:=by
 intro pins s σ H φ α μ t v u Q I mr d r p
 unfold Up at p
 split at p
 case h_2=>exact p.elim
 rename_i xs
 obtain⟨bs,hb,p⟩:=p.som
 obtain⟨ad,vs,rfl,_,_,q,l⟩:=d
 cases r
 obtain⟨its,rv,pl,hz⟩:=I.list (.inl q)
 have eb:=V1 hb l rv
 have hl:=pl.isList
 have hlt:ad<s.heap.objs.size:=by obtain⟨_,e,_⟩:=hl;exact z8x e
 refine call_all_walk (zcd hl ?_)
 refine⟨s.heap.objs.size,[s.heap.objs.size,ad],[s.heap.objs.size],its.toArray.size,_,_,λi=>(bs[i]?).getD true,rfl,Walks.list (A:=X.A.in1) (I.ok.hd hh) _ ad (z8O hlt) its.toArray,
  ⟨⟨_,z8K _ rfl,rfl,rfl⟩,hl.push _⟩,λi v s' Q' E' hP hQ=>?_,λh' tk hk=>?_⟩
 ·have hP':its[i]?=some v:=by simpa using hP
  rw[eb,z8U] at hP'
  cases e:bs[i]? with
  |none=>rw[e] at hP';cases hP'
  |some b=>
   rw[e] at hP'
   simp at hP'
   subst hP'
   simp only[e,zcz] at hQ
   exact z8X hQ
 ·have e:((z9i its.toArray.size).all λi=>(bs[i]?).getD true)=bs.all id:=by
   have hn:its.toArray.size=bs.length:=by simp[eb]
   rw[hn]
   rw[zb5]
   simp only[z92,zbO,id_eq]
   constructor
   ·intro h b hb'
    obtain⟨i,hi,rfl⟩:=List.mem_iff_getElem.mp hb'
    have:=h i hi
    simpa[hi] using this
   ·intro h i hi
    have:=h bs[i] (List.getElem_mem hi)
    simpa[hi] using this
  rw[e]
  have kp:∀b x,s.heap.get? b=some x->h'.get? b=some x:=λb x e=>hk b x (λhm=>by rw[z8l.mp hm] at e;exact z9G _ (z8x e)) (z8i _ e)
  exact⟨.bl (bs.all id),H,I.kept (t':=tk) kp,rfl,p.here mr rfl⟩
theorem Stp.turn{x:Addr}{o:HO}(hx:x∈α)(hh:∃o',H x=some o'):Stp α H α (upd H x o):=by
 refine⟨⟨[],by simp,by simp⟩,λb u n e=>?_,λb e=>?_⟩
 ·rw[z9 (λ(z:b=x)=>n (by rw[z];exact hx))];exact e
 ·by_cases z:b=x
  ·rw[z,z8] at e;cases e
  ·rw[z9 z] at e;exact e
theorem MRel.turn{i:Nat}{x:Addr}{o:HO}{mo:MO}(m:MRel D φ α H μ)(hx:α[i]?=some x)(hi:i<μ.length)(st:Stp α H α (upd H x o))(d:DenO D φ α (upd H x o) mo x):MRel D φ α (upd H x o) (μ.set i mo):=by
 refine⟨by simp[m.len],m.nd,m.dis,λb hb=>?_,λj y o' e1 e2=>?_⟩
 ·obtain⟨u,hu⟩:=m.phi b hb
  exact⟨u,st.keep b u (λz=>m.dis b z hb) hu⟩
 ·by_cases q:i=j
  ·subst q
   rw[hx] at e1;cases e1
   rw[zbd hi] at e2;cases e2
   exact d
  ·rw[z8S q] at e2
   have ne:y≠x:=λz=>by
    subst z
    obtain⟨h1,e1'⟩:=z8h.mp e1
    obtain⟨h2,e2'⟩:=z8h.mp hx
    exact q ((zcr m.nd).mp (e2'.trans e1'.symm))
   exact DenO.step st (z9 ne) (m.ob j y o' e1 e2)
theorem z0t{i:Nat}{x:Addr}{xs:List V}{ts:List T}{v:V}{t:T}(m2:MRel D φ α H μ)(hx2:α[i]?=some x)(hμ:μ[i]?=some (.lst ts))(hH:H x=some (.lst xs))(l:DenL D φ α H ts xs)(d:Den D φ α H t v) :
  Stp α H α (upd H x (.lst (xs++[v])))/\MRel D φ α (upd H x (.lst (xs++[v]))) (μ.set i (.lst (ts++[t]))):=by
 have st3:Stp α H α (upd H x (.lst (xs++[v]))):=Stp.turn (z8F hx2) ⟨_,hH⟩
 have hi:i<μ.length:=(z8h.mp hμ).1
 exact⟨st3,m2.turn hx2 hi st3 ⟨_,z8,(l.step st3).append ⟨v,[],rfl,d.step st3,rfl⟩⟩⟩
theorem z5a{o:Expr}{pa pc:Pos}{go:De}(hp:qe o=true)(hs:noStar a=true)(hline:(pa.endLine == pc.line)=true)(ho:PE X o (rdE D W go))(ha:PE X a (rdE D W f)) :
  PE X (.Call (.Attribute o "append" pa) [a] [] pc) (rdE D W (Xy go f)):=by
 have hb:z96 [a] X.env=[(false,eval a X.env)]:=z6 hs
 refine PE.mono (Km zar PySem.F.slot_list_append PySem.F.type_list_append Qb ho (zC ha qk (z6 hs)) (qz hp) (by rw[hb];rfl) hline (z6 hs) rfl) ?_
 rintro σ H Q ⟨φ,α,τ,μ,sr,mr,p⟩
 refine⟨φ,α,τ,μ,sr,mr,p.bind.mono λot μ1 α1 H1 st1 m1 q ov dv=>?_⟩
 split at q
 case h_2=>exact q.elim
 rename_i i
 obtain⟨K,Z,⟨⟨ts0,hμ0⟩,hf⟩,hk,hz⟩:=q
 obtain⟨x,hx,rfl⟩:=dv
 obtain⟨xs0,hH0,l0⟩:=m1.ob _ x _ hx hμ0
 refine⟨.inl ⟨rfl,_,.inl (.inl hH0)⟩,φ,α1,τ,μ1,sr.step st1,m1,_,Z,hf,?_,hz⟩
 rintro t μ2 ⟨ts,hμ,hl,q2⟩ α2 H2 st2 m2 v d
 obtain⟨β,e2,_⟩:=st2.ext
 have hx2:α2[i]?=some x:=by
  rw[e2,z8p (z8h.mp hx).1];exact hx
 obtain⟨xs,hH,l⟩:=m2.ob i x _ hx2 hμ
 obtain⟨st3,m3⟩:=z0t m2 hx2 hμ hH l d
 refine⟨x,xs,v,rfl,rfl,hH,?_,?_⟩
 ·rw[←l.length];exact z8w hl (zB (z8n _))
 ·exact hk _ _ q2 α2 _ (st2.trans st3) m3 .non rfl
end
structure ItV(D:DP)(J:It)(Ok:List Addr->List Addr->Hp->Prop)(xs:List T):Prop where
 go:∀(i:Nat) φ α H,Ok φ α H->i<xs.length->J.go i H
 yld:∀(i:Nat) φ α H v H' t,Ok φ α H->xs[i]?=some t->J.yld i H v H'->xN H H'/\Den D φ α H' t v
 stop:∀φ α H,Ok φ α H->J.stop xs.length H
def OkI (D:DP)(φ α:List Addr)(H:Hp)(xs:List T)(lv:Mem->Prop)(Ok:List Addr->List Addr->Hp->Prop):Prop:=∀φ' α' H' μ',Lk φ α H φ' α' H'->MRel D φ' α' H' μ'->lv μ'->Ok φ' α' H'
def rdI (D:DP)(W:XW)(f:Di):TI:=λσ H R=>RdP D H σ λφ α τ μ=>
 Post D W φ α H σ (λp μ' α' H'=>∀J Ok,ItV D J Ok p.1->OkI D φ α' H' p.1 p.2 Ok->p.2 μ'->R J H') (f τ μ).re
theorem Lk.trans{φ φ1 φ2 α α1 α2:List Addr}{H H1 H2:Hp}(a:Lk φ α H φ1 α1 H1)(b:Lk φ1 α1 H1 φ2 α2 H2):Lk φ α H φ2 α2 H2:=
 ⟨λx o n1 n2 e=>let ⟨m1,m2,e1⟩:=a.ob x o n1 n2 e;b.ob x o m1 m2 e1,λi x e=>b.st i x (a.st i x e)⟩
theorem Kc{D:DP}{φ α:List Addr}{H:Hp}{γ:Type}{f:γ->T}{xs:List γ}{i:Nat}{t:T}(h:(xs.map f)[i]?=some t):∃a,xs[i]?=some a/\t=f a:=by
 rw[z8U] at h
 cases q:xs[i]? with
 |none=>rw[q] at h;cases h
 |some a=>rw[q] at h;cases h;exact⟨a,rfl,rfl⟩
section
variable {X:Cx}{D:DP}{W:XW}{Γ:Cn}{k:Nat}{pins:List (Addr×Obj)}{s:Shared}{σ:St}{H:Hp}{φ α:List Addr}{τ:Sl}{μ:Mem}{f g h:De}{a b c tg:Expr}{pos:Pos}{es:List Expr}
theorem Wu{K:z8o}{ad:Addr}{xs:List T}:ItV D (Itl K ad) (λφ α H=>∃vs,Rd H ad (.lst vs)/\DenL D φ α H xs vs) xs:=
 ⟨λi φ α H ⟨vs,ok,l⟩ hi=>⟨vs,vs[i]'(by rw[←l.length];exact hi),.inl ok,by simp⟩,λi φ α H v H' t ⟨vs,ok,l⟩ hi y=>by
  obtain⟨rfl,y⟩:=y
  obtain⟨x,hx,d⟩:=l.get hi
  have e:=y vs (.inl ok)
  rw[e] at hx;cases hx;exact⟨λ_ _ z=>z,d⟩,λφ α H ⟨vs,ok,l⟩=>⟨vs,.inl ok,by rw[l.length];exact z8n _⟩⟩
theorem z12{K:z8o}{ad:Addr}{xs:List T}:ItV D (Itt K ad) (λφ α H=>∃vs,Rd H ad (.tup vs)/\DenL D φ α H xs vs) xs:=
 ⟨λi φ α H ⟨vs,ok,l⟩ hi=>⟨vs,vs[i]'(by rw[←l.length];exact hi),.inl ok,by simp⟩,λi φ α H v H' t ⟨vs,ok,l⟩ hi y=>by
  obtain⟨rfl,y⟩:=y
  obtain⟨x,hx,d⟩:=l.get hi
  have e:=y vs (.inl ok)
  rw[e] at hx;cases hx;exact⟨λ_ _ z=>z,d⟩,λφ α H ⟨vs,ok,l⟩=>⟨vs,.inl ok,by rw[l.length];exact z8n _⟩⟩
theorem Xs{n i j:Nat}(h:(z9i n)[i]?=some j):j=i:=by
 have:=(z8h.mp h).2
 simpa using this.symm
noncomputable def ItC(z:Str):It:=⟨λi _=>i<z.cps.toList.length,λi H x H'=>H'=H/\∃c,z.cps.toList[i]?=some c/\x=.str ⟨#[c]⟩,λi _=>z.cps.toList.length<=i⟩
theorem z1k{z:Str}:ItV D (ItC z) (λ_ _ _=>True) (z.cps.toList.map λc=>T.str ⟨#[c]⟩):=
 ⟨λi φ α H _ hi=>by (show i<_);simpa using hi,λi φ α H v H' t _ hi y=>by
  obtain⟨j,hj,rfl⟩:=Kc (D:=D) (φ:=φ) (α:=α) (H:=H) hi
  obtain⟨rfl,c,hc,rfl⟩:=y
  rw[hj] at hc;cases hc;exact⟨λ_ _ z=>z,rfl⟩,λφ α H _=>by show _<=_;simp⟩
theorem Yh {P:z91} {w:z9c} {K:z8o} {tg:Expr} {kd:String} (hk:kd="str_ascii_iterator"\/kd="str_iterator") (it:Addr) (z:Str) (t0:Tok):Turn P w K tg (ItC z) [it] it (λi h=>h.IsStrIter it kd z t0 i) where
 mem:=by simp
 obj:=λi h st b hb=>by
  have e:b=it:=by simpa using hb
  subst e
  obtain⟨o,e,c,d⟩:=st
  exact⟨o,e,λv z=>by rw[d] at z;cases z⟩
 keep:=λi h h' st k=>let ⟨o,ho,r⟩:=st;⟨o,k it (by simp) o ho,r⟩
 item:=by
  intro X hP hw hK hc i pins s σ H E I hf st hg
  subst hP hw hK
  obtain⟨f0,f1,f2,f3,f4,f5⟩:=hf it (by simp)
  have hi:i<z.cps.size:=by simpa[ItC] using hg
  have hcx:z.cps[i]?=some z.cps[i]:=Array.getElem?_eq_getElem hi
  have hcl:z.cps.toList[i]?=some z.cps[i]:=by rw[Array.getElem?_toList];exact hcx
  rcases hk with rfl|rfl
  ·refine wpAny_pyNext_ascii_item st hcx λh' st' sb=>?_
   have I1:Inv X pins σ H {s with heap:=h',toks:=s.toks+1}:=I.turned (λb o hb e=>(sb.2 b hb).trans e) f0 f1 f3 f4 f5
   obtain⟨o,e,c,d⟩:=id st'
   exact⟨.str ⟨#[z.cps[i]]⟩ s.toks,rfl,ZN (s:={s with heap:=h',toks:=s.toks+1}) e c d (by decide) ⟨.str ⟨#[z.cps[i]]⟩,H,I1,⟨_,rfl⟩,⟨rfl,z.cps[i],hcl,rfl⟩,st',λb hb=>(hf b hb).1⟩⟩
  ·refine wpAny_pyNext_wide_item st hcx λh' st' sb=>?_
   have I1:Inv X pins σ H {s with heap:=h',toks:=s.toks+1}:=I.turned (λb o hb e=>(sb.2 b hb).trans e) f0 f1 f3 f4 f5
   obtain⟨o,e,c,d⟩:=id st'
   exact⟨.str ⟨#[z.cps[i]]⟩ s.toks,rfl,ZN (s:={s with heap:=h',toks:=s.toks+1}) e c d (by decide) ⟨.str ⟨#[z.cps[i]]⟩,H,I1,⟨_,rfl⟩,⟨rfl,z.cps[i],hcl,rfl⟩,st',λb hb=>(hf b hb).1⟩⟩
 done:=by
  intro X hP hw hK hc i pins s σ H E I hf st hg
  subst hP hw hK
  obtain⟨f0,f1,f2,f3,f4,f5⟩:=hf it (by simp)
  have hx:z.cps[i]?=none:=Array.getElem?_eq_none (by have:z.cps.toList.length<=i:=hg;simpa using this)
  rcases hk with rfl|rfl
  ·exact wpAny_pyNext_ascii_end (I.ok.hd hc) st hx λh' eb=>⟨rfl,I.turned (t':=s.toks) (λb o hb e=>eb b o hb e) f0 f1 f3 f4 f5⟩
  ·exact wpAny_pyNext_wide_end (I.ok.hd hc) st hx λh' eb=>⟨rfl,I.turned (t':=s.toks) (λb o hb e=>eb b o hb e) f0 f1 f3 f4 f5⟩
 self:=λ_ _ _ _ _ st h=>by
  rcases hk with rfl|rfl
  ·exact wpAny_pyIter_striter_ascii st h
  ·exact wpAny_pyIter_striter_wide st h
theorem z2j(ha:PE X a (rdE D W f)):PI X tg a (rdI D W (iE f)):=by
 rintro pins s σ H R I ⟨φ,α,τ,μ,sr,mr,p⟩
 refine thn (sub ha I sr mr p) ?_
 rintro u s1 ⟨v,H1,t,μ1,α1,I1,r1,st1,sr1,mr1,d1,p1⟩
 cases t with
 |lst ts=>
  obtain⟨ad,vs,rfl,n1,n2,q,l⟩:=d1
  cases r1
  obtain⟨its,rv,pl,hz⟩:=I1.list (.inl q)
  refine zcd pl.isList ?_
  refine⟨s1.heap.objs.size,[s1.heap.objs.size],_,_,H1,rfl,I1.kept (t':=s1.toks) λb o e=>z8i _ e,ZZ ad _,⟨_,z8K _ rfl,rfl,rfl⟩,λb hb=>?_,?_⟩
  ·have e:b=s1.heap.objs.size:=by simpa using hb
   subst e
   exact I1.fpOk (z8n _) (I1.hok.fresh (z8n _))
  ·have p2:Post D W φ α1 H1 σ _ (RE.ok (ts,lvT) μ1):=p1
   exact p2.ok (Stp.refl _ _) mr1 _ _ Wu (λφ' α' H' μ' lk _ _=>by
    obtain⟨a',ws,e,_,_,q',l'⟩:=Den.lk lk (show Den D φ α1 H1 (.lst ts) (.ref ad) from ⟨ad,vs,rfl,n1,n2,q,l⟩)
    cases e;exact⟨ws,q',l'⟩) trivial
 |tup ts=>
  obtain⟨ad,vs,rfl,n1,n2,q,l⟩:=d1
  cases r1
  obtain⟨its,rv,pl,hz⟩:=I1.tuple (.inl q)
  refine wpAny_pyIter_tuple (show s1.heap.IsTuple ad its.toArray from pl) ?_
  refine⟨s1.heap.objs.size,[s1.heap.objs.size],_,_,H1,rfl,I1.kept (t':=s1.toks) λb o e=>z8i _ e,Ja ad _,⟨_,z8K _ rfl,rfl,rfl⟩,λb hb=>?_,?_⟩
  ·have e:b=s1.heap.objs.size:=by simpa using hb
   subst e
   exact I1.fpOk (z8n _) (I1.hok.fresh (z8n _))
  ·have p2:Post D W φ α1 H1 σ _ (RE.ok (ts,lvT) μ1):=p1
   exact p2.ok (Stp.refl _ _) mr1 _ _ z12 (λφ' α' H' μ' lk _ _=>by
    obtain⟨a',ws,e,_,_,q',l'⟩:=Den.lk lk (show Den D φ α1 H1 (.tup ts) (.ref ad) from ⟨ad,vs,rfl,n1,n2,q,l⟩)
    cases e;exact⟨ws,q',l'⟩) trivial
 | «mut» j=>
  obtain⟨ad,hj,rfl⟩:=d1
  cases r1
  have p2:Post D W φ α1 H1 σ _ (λK _=>∃xs,μ1[j]?=some (.lst xs)/\K (xs,lvM j xs) μ1):=p1
  obtain⟨xs,hx,p2⟩:=p2.ex1
  obtain⟨vs,q,l⟩:=mr1.ob j ad _ hj hx
  obtain⟨its,rv,pl,hz⟩:=I1.list (.inl (.inl q))
  refine zcd pl.isList ?_
  refine⟨s1.heap.objs.size,[s1.heap.objs.size],_,_,H1,rfl,I1.kept (t':=s1.toks) λb o e=>z8i _ e,ZZ ad _,⟨_,z8K _ rfl,rfl,rfl⟩,λb hb=>?_,?_⟩
  ·have e:b=s1.heap.objs.size:=by simpa using hb
   subst e
   exact I1.fpOk (z8n _) (I1.hok.fresh (z8n _))
  ·have p2:Post D W φ α1 H1 σ _ (RE.ok (xs,lvM j xs) μ1):=p2
   exact p2.ok (Stp.refl _ _) mr1 _ _ Wu (λφ' α' H' μ' lk m hl=>by
    obtain⟨ws,q',l'⟩:=m.ob j ad _ (lk.st j ad hj) hl
    exact⟨ws,.inl q',l'⟩) hx
 |str z=>
  have d1:v=.str z:=d1
  subst d1
  obtain⟨t0,rfl⟩:=r1
  have fin:∀{kd:String},(kd="str_ascii_iterator"\/kd="str_iterator")->PIE X pins σ tg R (.ref s1.heap.objs.size) {s1 with heap:=s1.heap.push {cls:=.type kd,data:=.fields #[.str z t0,.int 0 0]}}:=λ{kd} hk=>by
   refine⟨s1.heap.objs.size,[s1.heap.objs.size],_,_,H1,rfl,I1.kept (t':=s1.toks) λb o e=>z8i _ e,Yh hk _ z t0,⟨_,z8K _ rfl,rfl,rfl⟩,λb hb=>?_,?_⟩
   ·have e:b=s1.heap.objs.size:=by simpa using hb
    subst e
    exact I1.fpOk (z8n _) (I1.hok.fresh (z8n _))
   ·have p2:Post D W φ α1 H1 σ _ (RE.ok (uO z,lvT) μ1):=p1
    exact p2.ok (Stp.refl _ _) mr1 _ _ z1k (λ_ _ _ _ _ _ _=>z9p) trivial
  cases ha:z.cps.all (·<128) with
  |true=>exact wpAny_pyIter_ascii ha (fin (.inl rfl))
  |false=>exact wpAny_pyIter_wide ha (fin (.inr rfl))
 |_=>exact Post.elim p1
theorem U1{x:V}{xs:List V}{us:List Value}(h:Vals (x::xs) us):∃u r,us=u::r/\RelV x u/\Vals xs r:=by
 cases h with
 |cons r q=>exact⟨_,_,rfl,r,q⟩
theorem vals3{x y z:V}{us:List Value}(h:Vals [x,y,z] us):∃u v w,us=[u,v,w]/\RelV x u/\RelV y v/\RelV z w:=by
 obtain⟨u,_,rfl,a,h⟩:=U1 h
 obtain⟨v,_,rfl,b,h⟩:=U1 h
 obtain⟨w,_,rfl,c,h⟩:=U1 h
 cases h
 exact⟨_,_,_,rfl,a,b,c⟩
noncomputable def ItS(lo c:Int)(n:Nat):It:=⟨λi _=>i<n,λi H x H'=>H'=H/\x=.int (lo+i * c),λi _=>n<=i⟩
theorem Wr{P:z91}{w:z9c}{K:z8o}{tg:Expr}(it:Addr)(lo c:Int)(n:Nat):Turn P w K tg (ItS lo c n) [it] it (λi h=>IsRangeIter h it (lo+(i:Nat) * c) ((n:Int)-(i:Nat)) c) where
 mem:=by simp
 obj:=λi h st b hb=>by
  have e:b=it:=by simpa using hb
  subst e
  exact⟨_,st,λv z=>by cases (show zfZ _=Data.cell v from z)⟩
 keep:=λi h h' st k=>k it (by simp) _ st
 item:=by
  intro X hP hw hK hc i pins s σ H E I hf st hg
  subst hP hw hK
  obtain⟨f0,f1,f2,f3,f4,f5⟩:=hf it (by simp)
  have W:=Walks.range (prog:=X.prog) (w:=X.w) (I.ok.hd hc) it lo c n
  refine W.item i s _ _ hg st λv h' tk hv st' kk=>?_
  obtain⟨t,rfl⟩:=hv
  have I1:Inv X pins σ H {s with heap:=h',toks:=tk}:=I.turned (λb o hb e=>kk b o (by simpa using hb) e) f0 f1 f3 f4 f5
  exact⟨_,rfl,ZN (s:={s with heap:=h',toks:=tk}) (n:="range_iterator") st' rfl rfl (by decide) ⟨.int (lo+i * c),H,I1,⟨t,rfl⟩,⟨rfl,rfl⟩,st',λb hb=>(hf b hb).1⟩⟩
 done:=by
  intro X hP hw hK hc i pins s σ H E I hf st hg
  subst hP hw hK
  obtain⟨f0,f1,f2,f3,f4,f5⟩:=hf it (by simp)
  exact wpAny_pyNext_range_end (I.ok.hd hc) st (by have:n<=i:=hg;omega) λh' eb=>⟨rfl,I.turned (t':=s.toks) (λb o hb e=>eb b o hb e) f0 f1 f3 f4 f5⟩
 self:=λ_ _ _ _ _ st h=>wpAny_pyIter_rangeiter st h
theorem WN{P:z91}{w:z9c}{K:z8o}{tg:Expr}(it:Addr)(lo c:Int)(n:Nat):Turn P w K tg (ItS lo c n) [it] it (λi h=>IsLongIter h it (lo+(i:Nat) * c) ((n:Int)-(i:Nat)) c) where
 mem:=by simp
 obj:=λi h st b hb=>by
  have e:b=it:=by simpa using hb
  subst e
  exact⟨_,st,λv z=>by cases (show zfZ _=Data.cell v from z)⟩
 keep:=λi h h' st k=>k it (by simp) _ st
 item:=by
  intro X hP hw hK hc i pins s σ H E I hf st hg
  subst hP hw hK
  obtain⟨f0,f1,f2,f3,f4,f5⟩:=hf it (by simp)
  have W:=Walks.longrange (prog:=X.prog) (w:=X.w) (I.ok.hd hc) it lo c n
  refine W.item i s _ _ hg st λv h' tk hv st' kk=>?_
  obtain⟨t,rfl⟩:=hv
  have I1:Inv X pins σ H {s with heap:=h',toks:=tk}:=I.turned (λb o hb e=>kk b o (by simpa using hb) e) f0 f1 f3 f4 f5
  exact⟨_,rfl,ZN (s:={s with heap:=h',toks:=tk}) (n:="longrange_iterator") st' rfl rfl (by decide) ⟨.int (lo+i * c),H,I1,⟨t,rfl⟩,⟨rfl,rfl⟩,st',λb hb=>(hf b hb).1⟩⟩
 done:=by
  intro X hP hw hK hc i pins s σ H E I hf st hg
  subst hP hw hK
  obtain⟨f0,f1,f2,f3,f4,f5⟩:=hf it (by simp)
  exact wpAny_pyNext_long_end (I.ok.hd hc) st (by have:n<=i:=hg;omega) λh' eb=>⟨rfl,I.turned (t':=s.toks) (λb o hb e=>eb b o hb e) f0 f1 f3 f4 f5⟩
 self:=λ_ _ _ _ _ st h=>wpAny_pyIter_longiter st h
theorem z1Y{a b c:Int}(hc:0<c):zbc a b c=if a<b then (b-a-1) / c+1 else 0:=by
 unfold zbc
 rw[if_pos hc]
theorem xK{pins:List (Addr×Obj)}{σ:St}{H:Hp}{s:z8k}{R:It->Hp->Prop}{E:Value->z8k->Prop}{lo hi c:Int}{t u v:Tok}{tk:Nat}(I:Inv X pins σ H s)(h3:0<c)
  (q:R (ItS lo c (if lo<hi then (hi-lo-1) / c+1 else 0:Int).toNat) H):z8t (z8u X.prog X.w) X.A (pyIter (.ref s.heap.objs.size)) (PIE X pins σ tg R) E {s with heap:=s.heap.push {cls:=.type "range",data:=.fields #[.int lo t,.int hi u,.int c v]},toks:=tk}:=by
 have I1:Inv X pins σ H {s with heap:=s.heap.push {cls:=.type "range",data:=.fields #[.int lo t,.int hi u,.int c v]},toks:=tk}:=I.kept λb o e=>z8i _ e
 have e1:lo+((0:Nat):Int) * c=lo:=by simp
 have e2:(((if lo<hi then (hi-lo-1) / c+1 else 0:Int).toNat:Nat):Int)-((0:Nat):Int)=zbc lo hi c:=by
  rw[z1Y h3]
  have:0<=(if lo<hi then (hi-lo-1) / c+1 else 0):=by
   split
   ·have h1:0<=(hi-lo-1) / c:=zcU (by omega) (by omega)
    omega
   ·omega
  omega
 have fr:∀b∈[(s.heap.push {cls:=.type "range",data:=.fields #[.int lo t,.int hi u,.int c v]}).objs.size],b=(s.heap.push {cls:=.type "range",data:=.fields #[.int lo t,.int hi u,.int c v]}).objs.size:=λb hb=>by simpa using hb
 cases hsm:zg3 lo hi c with
 |true=>
  refine wpAny_pyIter_range (zf_ ..) hsm ?_
  refine⟨(s.heap.push {cls:=.type "range",data:=.fields #[.int lo t,.int hi u,.int c v]}).objs.size,[(s.heap.push {cls:=.type "range",data:=.fields #[.int lo t,.int hi u,.int c v]}).objs.size],_,_,H,rfl,
   I1.kept (t':=tk) λb o e=>z8i _ e,Wr _ lo c (if lo<hi then (hi-lo-1) / c+1 else 0:Int).toNat,?_,λb hb=>?_,q⟩
  ·show IsRangeIter _ _ (lo+((0:Nat):Int) * c) ((((if lo<hi then (hi-lo-1) / c+1 else 0:Int).toNat:Nat):Int)-((0:Nat):Int)) c
   rw[e1,e2]
   exact z8K _ rfl
  ·rw[fr b hb]
   exact I1.fpOk (z8n _) (I1.hok.fresh (z8n _))
 |false=>
  refine wpAny_pyIter_longrange (zf_ ..) hsm ?_
  refine⟨(s.heap.push {cls:=.type "range",data:=.fields #[.int lo t,.int hi u,.int c v]}).objs.size,[(s.heap.push {cls:=.type "range",data:=.fields #[.int lo t,.int hi u,.int c v]}).objs.size],_,_,H,rfl,
   I1.kept (t':=tk) λb o e=>z8i _ e,WN _ lo c (if lo<hi then (hi-lo-1) / c+1 else 0:Int).toNat,?_,λb hb=>?_,q⟩
  ·show IsLongIter _ _ (lo+((0:Nat):Int) * c) ((((if lo<hi then (hi-lo-1) / c+1 else 0:Int).toNat:Nat):Int)-((0:Nat):Int)) c
   rw[e1,e2]
   exact z8K _ rfl
  ·rw[fr b hb]
   exact I1.fpOk (z8n _) (I1.hok.fresh (z8n _))
theorem jJ{lo c:Int}{n:Nat}:ItV D (ItS lo c n) (λ_ _ _=>True) ((z9i n).map λ(i:Nat)=>T.int (lo+i * c)):=
 ⟨λi φ α H _ hi=>by (show i<n);simpa using hi,λi φ α H v H' t _ hi y=>by
  obtain⟨j,hj,rfl⟩:=Kc (D:=D) (φ:=φ) (α:=α) (H:=H) hi
  rw[Xs hj]
  obtain⟨rfl,rfl⟩:=y
  exact⟨λ_ _ z=>z,rfl⟩,λφ α H _=>by show n<=_;simp⟩
theorem XS (C:Ck D W Γ X k) {p0:Pos} (hx:("range":Str)∈Γ.G) (hg:Γ.gl "range"=.none) (ha':noStar a=true) (hb':noStar b=true) (hc':noStar c=true) (ha:PE X a (rdE D W f)) (hb:PE X b (rdE D W g)) (hc:PE X c (rdE D W h)) :
  PI X tg (.Call (.Name "range" p0) [a,b,c] [] pos) (rdI D W (z2L f g h)):=by
 have hm:=C.glo _ hx
 rw[hg] at hm
 rintro pins s σ H R I ⟨φ,α,τ,μ,sr,mr,p⟩
 have s3:z96 [a,b,c] X.env=[(false,eval a X.env),(false,eval b X.env),(false,eval c X.env)]:=by
  rw[z6 ha',z6 hb',z6 hc'];rfl
 refine Call_ (vD I (C.glb _ hx) hm zfe (z9U (thn (zC ha (zC hb (zC hc qk (z6 hc')) (z6 hb')) (z6 ha') pos pins s σ H (λvs H1=>∃i j l:Int,vs=[.int i,.int j,.int l]/\(0<l/\l<1073741824)/\R (ItS i l (if i<j then (j-i-1) / l+1 else 0:Int).toNat) H1) I ?_) ?_) (z6 ha') (zX (by simp[hb',hc']))))
 ·refine⟨φ,α,τ,μ,sr,mr,p.bind.mono λx μ1 α1 H1 st1 m1 q1 v1 d1=>⟨φ,α1,τ,μ1,sr.step st1,m1,q1.bind.mono λy μ2 α2 H2 st2 m2 q2 v2 d2=>⟨φ,α2,τ,μ2,(sr.step st1).step st2,m2,q2.bind.mono λz μ3 α3 H3 st3 m3 q3 v3 d3=>?_⟩⟩⟩
  cases x with
  |int a=>
   cases y with
   |int b=>
    cases z with
    |int c=>
     have q3:Post D W φ α3 H3 σ _ (RE.grd (inL a/\inL b/\0<c/\c<1073741824) (RE.ok (xJ a b c,lvT) μ3)):=q3
     obtain⟨hh,q3⟩:=q3.grd
     have d1:v1=.int _:=d1
     have d2:v2=.int _:=d2
     have d3:v3=.int _:=d3
     subst d1 d2 d3
     exact⟨_,_,_,rfl,hh.2.2,q3.ok (Stp.refl _ _) m3 _ _ jJ (λ_ _ _ _ _ _ _=>z9p) trivial⟩
    |_=>exact Post.elim q3
   |_=>exact Post.elim q3
  |_=>exact Post.elim q3
 ·rintro us s1 ⟨vs,H1,I1,rv,i,j,l,rfl,h3,q⟩
  obtain⟨u1,u2,u3,rfl,r1,r2,r3⟩:=vals3 rv
  obtain⟨t1,rfl⟩:=r1
  obtain⟨t2,rfl⟩:=r2
  obtain⟨t3,rfl⟩:=r3
  exact call_range_3 (by omega) (xK I1 h3.1 q) (.inl (PyProof.noPylong_small (by omega)))
theorem XZ (C:Ck D W Γ X k) {p0:Pos} (hx:("range":Str)∈Γ.G) (hg:Γ.gl "range"=.none) (ha':noStar a=true) (hb':noStar b=true) (ha:PE X a (rdE D W f)) (hb:PE X b (rdE D W g)) :
  PI X tg (.Call (.Name "range" p0) [a,b] [] pos) (rdI D W (KU f g)):=by
 have hm:=C.glo _ hx
 rw[hg] at hm
 rintro pins s σ H R I ⟨φ,α,τ,μ,sr,mr,p⟩
 refine Call_ (vD I (C.glb _ hx) hm zfe (z9U (thn (zC ha (zC hb qk (z6 hb')) (z6 ha') pos pins s σ H (λvs H1=>∃i j:Int,vs=[.int i,.int j]/\R (ItS i 1 (if i<j then (j-i-1) / 1+1 else 0:Int).toNat) H1) I ?_) ?_) (by rw[z6 ha',z6 hb']) (by rw[z6 hb'];rfl)))
 ·refine⟨φ,α,τ,μ,sr,mr,p.bind.mono λx μ1 α1 H1 st1 m1 q1 v1 d1=>⟨φ,α1,τ,μ1,sr.step st1,m1,q1.bind.mono λy μ2 α2 H2 st2 m2 q2 v2 d2=>?_⟩⟩
  cases x with
  |int i=>
   cases y with
   |int j=>
    have q2:Post D W φ α2 H2 σ _ (RE.grd (inL i/\inL j) (RE.ok (xJ i j 1,lvT) μ2)):=q2
    obtain⟨hh,q2⟩:=q2.grd
    have d1:v1=.int _:=d1
    have d2:v2=.int _:=d2
    subst d1 d2
    exact⟨_,_,rfl,q2.ok (Stp.refl _ _) m2 _ _ jJ (λ_ _ _ _ _ _ _=>z9p) trivial⟩
   |_=>exact Post.elim q2
  |_=>exact Post.elim q2
 ·rintro us s1 ⟨vs,H1,I1,rv,i,j,rfl,q⟩
  cases rv with
  |cons r rr=>
   cases rr with
   |cons r' rr=>
    cases rr
    obtain⟨t,rfl⟩:=r
    obtain⟨t',rfl⟩:=r'
    exact call_range_2 (xK I1 (by omega) q)
theorem z0F (C:Ck D W Γ X k) {p0:Pos} (hx:("range":Str)∈Γ.G) (hg:Γ.gl "range"=.none) (hs:noStar a=true) (ha:PE X a (rdE D W f)) :
  PI X tg (.Call (.Name "range" p0) [a] [] pos) (rdI D W (z17 f)):=by
 have hm:=C.glo _ hx
 rw[hg] at hm
 rintro pins s σ H R I ⟨φ,α,τ,μ,sr,mr,p⟩
 refine Call_ (vD I (C.glb _ hx) hm zfe (z9U (thn (zC ha qk (z6 hs) pos pins s σ H (λvs H1=>∃j:Int,vs=[.int j]/\R (ItS 0 1 (if 0<j then (j-0-1) / 1+1 else 0:Int).toNat) H1) I ?_) ?_) (z6 hs) rfl))
 ·refine⟨φ,α,τ,μ,sr,mr,p.bind.mono λt μ' α' H' st m q v d=>?_⟩
  cases t with
  |int n=>
   have d:v=.int _:=d
   subst d
   have q:Post D W φ α' H' σ _ (RE.grd (inL n) (RE.ok (rangeT n,lvT) μ')):=q
   obtain⟨hn,q⟩:=q.grd
   have e2:(if 0<n then (n-0-1) / 1+1 else 0:Int).toNat=n.toNat:=by
    split
    ·rw[zdZ];congr 1;omega
    ·omega
   have e3:((z9i n.toNat).map λ(i:Nat)=>T.int (0+i * 1))=rangeT n:=by
    unfold rangeT
    refine zdl λi _=>?_
    simp
   refine⟨n,rfl,?_⟩
   rw[e2]
   exact q.ok (Stp.refl _ _) m _ _ (e3▸jJ) (λ_ _ _ _ _ _ _=>z9p) trivial
  |_=>exact Post.elim q
 ·rintro us s1 ⟨vs,H1,I1,rv,j,rfl,q⟩
  cases rv with
  |cons r rr=>
   cases rr
   obtain⟨t,rfl⟩:=r
   exact call_range_1 (xK I1 (by omega) q)
def idxs (N:List Str):List Expr->Option (List Nat)
 |[]=>some []
 |.Name x _::r=>match idx N x,idxs N r with
  |some i,some is=>some (i::is)
  |_,_=>none
 |_::_=>none
def wG (N:List Str):Expr->Option Tg
 |.Name x _=>(idx N x).map Tg.one
 |.Tuple es _ _=>(idxs N es).map Tg.tup
 |_=>none
noncomputable def za:Expr->List Str
 |.Name x _=>[x]
 |.Tuple es _ _=>es.filterMap λe=>match e with|.Name x _=>some x|_=>none
 |_=>[]
def Sto (X:Cx)(S:List Str):Prop:=∀x∈S,Loc X.env.scope x/\(X.fn x=true\/X.env.scope.names.lookup x=some .local)
theorem KW{S N:List Str}(hN:X.N=N)(nd:N.Nodup)(hS:Sto X S):∀{es:List Expr} {is:List Nat} {ts:List T} {τ τ':Sl},(∀e∈es,∀x p,e=.Name x p->x∈S)->idxs N es=some is->VA is ts τ=some τ'->
  ∃t,PGs X es t/\(zai es X.env).length=ts.length/\(zai es X.env).findIdx? (·.1)=none/\∀{σ:St} {vs:List V} {φ α H} {Q:St->Hp->Prop},SRel D φ α H τ σ->DenL D φ α H ts vs->(∀σ',SRel D φ α H τ' σ'->Q σ' H)->t vs σ H Q
 |[],is,ts,τ,τ',_,h0,h=>by
  simp[idxs] at h0;subst h0
  cases ts with
  |nil=>
   simp[VA] at h;subst h
   exact⟨z6o,z1N,rfl,rfl,λsr l q=>⟨l,q _ sr⟩⟩
  |cons _ _=>simp[VA] at h
 |e::es,is,ts,τ,τ',hn,h0,h=>by
  cases e with
  |Name x p0=>
   simp only[idxs] at h0
   split at h0
   ·rename_i i is' hi his
    cases h0
    cases ts with
    |nil=>simp[VA] at h
    |cons t ts=>
     have h:VA is' ts (jX τ i (some t))=some τ':=h
     have hx:=hn _ z8M x p0 rfl
     have pg:PG X (.Name x p0) (KH i):=Kj (hN▸nd) (by rw[hN];exact wJ hi) (hS x hx).1 (hS x hx).2
     obtain⟨u,pgs,hl,hf,hu⟩:=KW hN nd hS (λe he=>hn e (z8y _ he)) his h
     refine⟨z2X (KH i) u,Yv pg pgs rfl,by simpa[zai] using hl,?_,λ{σ vs φ α H Q} sr l k=>?_⟩
     ·have e1:zai (.Name x p0::es) X.env=(false,zcg (.Name x p0) X.env)::zai es X.env:=rfl
      rw[e1,List.findIdx?_cons]
      simp[hf]
     ·obtain⟨v,r,rfl,d,l⟩:=l
      exact⟨v,r,rfl,hu (sr.set d) l k⟩
   ·cases h0
  |_=>simp[idxs] at h0
theorem J9{S N:List Str}(hN:X.N=N)(nd:N.Nodup)(hS:Sto X S)(hc:X.calm=true){e:Expr}{tgt:Tg}{t:T}{τ τ':Sl}(hn:∀x∈za e,x∈S)(h0:wG N e=some tgt)(h:asg tgt t τ=some τ'){v:V}{u:Value}(I:Inv X pins σ H s)(sr:SRel D φ α H τ σ)(d:Den D φ α H t v)(r:RelV v u) :
  z8t (z8u X.prog X.w) X.A (zcg e X.env u) (λ_ s'=>∃σ',Inv X pins σ' H s'/\SRel D φ α H τ' σ') X.xe s:=by
 cases e with
 |Name x p0=>
  simp only[wG] at h0
  cases q:idx N x with
  |none=>rw[q] at h0;cases h0
  |some i=>
   rw[q] at h0;cases h0
   cases (z8m h:jX τ i (some t)=τ')
   have hx:x∈S:=hn x (by simp[za])
   refine thn (Kj (i:=i) (hN▸nd) (by rw[hN];exact wJ q) (hS x hx).1 (hS x hx).2 pins s σ H v u (λσ' H'=>H'=H/\σ'=σ.set i (some v)) I r ⟨rfl,rfl⟩) ?_
   rintro _ s1 ⟨σ',H',I1,rfl,rfl⟩
   exact⟨_,I1,sr.set d⟩
 |Tuple es kk p0=>
  simp only[wG] at h0
  cases q:idxs N es with
  |none=>rw[q] at h0;cases h0
  |some is=>
   rw[q] at h0;cases h0
   cases t with
   |tup ts=>
    obtain⟨g,pgs,hl,hf,hu⟩:=KW (D:=D) hN nd hS (λe he x p hx=>hn x (by subst hx;exact zay.mpr ⟨_,he,rfl⟩)) q h
    obtain⟨ad,xs,rfl,_,_,q,l⟩:=d
    refine thn (z61 (k:=kk) (pos:=p0) hc pgs hl hf pins s σ H (.ref ad) u (λσ' H'=>H'=H/\SRel D φ α H τ' σ') I r ⟨ad,xs,rfl,.inl q,l.length.symm,hu sr l λσ' sr'=>⟨rfl,sr'⟩⟩) ?_
    rintro _ s1 ⟨σ',H',I1,rfl,sr'⟩
    exact⟨σ',I1,sr'⟩
   |_=>cases h
 |_=>simp[wG] at h0
end
theorem z1t(env:Env):∀(names:List (Str×zbT)) (cs:List (Str×Addr)),(∀p∈names,p.2=.free->∃c,env.cells.lookup p.1=some c)->
  ∃cl,(forIn names cs (λ(x:Str×zbT) r=>if (x.2 == .free)=true then do let a ←cellOf env x.1;pure (z9Q ((x.1,a)::r)) else pure (z9Q r)):Sem (List (Str×Addr)))=pure cl/\
   (∀x c,cl.lookup x=some c->cs.lookup x=some c\/(env.cells.lookup x=some c/\∃p∈names,p.1=x/\p.2=.free))/\(∀x c,cs.lookup x=some c->∃c',cl.lookup x=some c')/\∀p∈names,p.2=.free->∃c,cl.lookup p.1=some c:=by
 intro names
 induction names with
 |nil=>intro cs _;exact⟨cs,rfl,λx c h=>.inl h,λx c h=>⟨c,h⟩,λp hp=>absurd hp (by simp)⟩
 |cons p names ih=>
  intro cs h
  rw[zcV]
  by_cases hp:p.2=.free
  ·obtain⟨c,hc⟩:=h p z8M hp
   have e:cellOf env p.1=pure c:=by unfold cellOf;rw[hc]
   rw[if_pos (by simp[hp]),e]
   obtain⟨cl,e1,e2,e3,e4⟩:=ih ((p.1,c)::cs) λq hq=>h q (z8y _ hq)
   refine⟨cl,e1,λx c' hx=>?_,λx c' hx=>?_,λq hq hf=>?_⟩
   ·rcases e2 x c' hx with z|⟨z,q,hq,z1,z2⟩
    ·rw[z8_] at z
     cases hb:x == p.1 with
     |true=>
      simp[hb] at z
      subst z
      have hb':x=p.1:=by simpa using hb
      exact .inr ⟨by rw[hb'];exact hc,p,z8M,hb'.symm,hp⟩
     |false=>simp[hb] at z;exact .inl z
    ·exact .inr ⟨z,q,z8y _ hq,z1,z2⟩
   ·cases hb:x == p.1 with
    |true=>exact e3 x c (by simp[z8_,hb])
    |false=>exact e3 x c' (by simp[z8_,hb,hx])
   ·rcases z8T.mp hq with rfl|hq
    ·exact e3 _ c (by simp[z8_])
    ·exact e4 q hq hf
  ·rw[if_neg (by simp[hp])]
   obtain⟨cl,e1,e2,e3,e4⟩:=ih cs λq hq=>h q (z8y _ hq)
   refine⟨cl,e1,λx c' hx=>?_,e3,λq hq hf=>?_⟩
   ·rcases e2 x c' hx with z|⟨z,q,hq,z1,z2⟩
    ·exact .inl z
    ·exact .inr ⟨z,q,z8y _ hq,z1,z2⟩
   ·rcases z8T.mp hq with rfl|hq
    ·exact absurd hf hp
    ·exact e4 q hq hf
noncomputable def Qj(sc:Scope):List Str:=(sc.names.filter λp=>p.2 == .globalImplicit).map (·.1)
noncomputable def frees(sc:Scope):List Str:=(sc.names.filter λp=>p.2 == .free).map (·.1)
theorem ja{sc:Scope}{x:Str}:x∈frees sc↔∃p∈sc.names,p.1=x/\p.2=.free:=by
 unfold frees
 simp only[z9b,z9l,beq_iff_eq]
 constructor
 ·rintro⟨p,⟨h1,h2⟩,h3⟩;exact⟨p,h1,h3,h2⟩
 ·rintro⟨p,h1,h3,h2⟩;exact⟨p,⟨h1,h2⟩,h3⟩
theorem JD{sc:Scope}{env:Env}(h:∀x∈frees sc,∃c,env.cells.lookup x=some c) :
  ∃cl,zdJ sc env=pure cl/\(∀x c,cl.lookup x=some c->env.cells.lookup x=some c/\x∈frees sc)/\∀x∈frees sc,∃c,cl.lookup x=some c:=by
 obtain⟨cl,e1,e2,e3,e4⟩:=z1t env sc.names [] λp hp hf=>h p.1 (ja.mpr ⟨p,hp,rfl,hf⟩)
 refine⟨cl,?_,λx c hx=>?_,λx hx=>?_⟩
 ·rw[←e1]
  unfold zdJ
  simp
 ·rcases e2 x c hx with z|⟨z,p,hp,z1,z2⟩
  ·simp at z
  ·exact⟨z,ja.mpr ⟨p,hp,z1,z2⟩⟩
 ·obtain⟨p,hp,rfl,hf⟩:=ja.mp hx
  exact e4 p hp hf
section
variable {M:Model}{A:Around}{E:Value->Shared->Prop}{s:Shared}{env:Env}
def QS(M:zbP)(A:z8V)(E:Value->z8k->Prop)(use:Option (Value->Sem Unit))(Q:Value->z8k->Prop)(acc:Value)(ce:Env):Result->z8k->Prop
 |.ok _,t=>(match use with
  |none=>∃m,t.heap.Ns ce.locals m/\∀g,z99 ce.locals t.heap g->Q acc {t with heap:=g}
  |some u=>z8t M A (u acc) (λ_ t2=>∃m,t2.heap.Ns ce.locals m/\∀g,z99 ce.locals t2.heap g->Q .none {t2 with heap:=g}) E t)
 |.error x,t=>∃m,t.heap.Ns ce.locals m/\∀g,z99 ce.locals t.heap g->z8t M A (passOn "comprehension.variables-let-go" x ce:Sem Value) (λ_ _=>False) E {t with heap:=g}
theorem z1u{e:Expr}{sc:Scope}{pos:Pos}{mk fst:Sem Value}{g:Comprehension}{gs:List Comprehension}{cl:List (Str×Addr)}{use:Option (Value->Sem Unit)}{Q:Value->z8k->Prop}
  (h1:clausesOf e=g::gs) (h2:∀x,z9s g.iter env x=pure x) (h3:zdJ sc env=pure cl) (h4:sc.kind=.function) (h5:∀x∈sc.names,x.2=.local->sc.names.lookup x.1=some .local)
  (h:z8t M A fst (λx t1=>z8t M A (pyIter x) (λit t2=>z8t M A mk (λacc t3=>z8t M A (newFunctionEnv sc env.globals cl [] env.qual none .none (some env)) (λce t4=>
    zaK M A (.compStart e 0 it acc {ce with scope:=z9I sc env}) (QS M A E use Q acc {ce with scope:=z9I sc env}) t4) E t3) E t2) E t1) E s) :
  z8t M A (zcl e sc env pos mk false fst use) Q E s:=by
 unfold zcl
 rw[h3,h1]
 have id2:∀(x:Value) (t:z8k),E x t->E x t:=λ_ _ z=>z
 refine z8g (z8Y h (λx t1 q1=>?_) id2)
 refine z8g (z9k (z8g (zcc (h2 x) (z8g (z8W (z8Y q1 (λit t2 q2=>?_) id2))))))
 refine wpAny_standIf (z8g (z8Y q2 (λacc t3 q3=>?_) id2))
 refine z8g (z8q (z8g (z8Y q3 (λce t4 q4=>?_) id2)))
 dsimp only
 have lc:∀y∈(sc.names.filter λx=>(x.2 == .local || x.2 == .cell)&&x.1 != (".0":Str)),y.2=.local->Env.kindOf {ce with scope:=z9I sc env} y.1=some .local:=
  λy hy hl=>lookup_relabel_local (h5 y (z9l.mp hy).1 hl)
 have lr:∀y∈(sc.names.filter λx=>(x.2 == .local || x.2 == .cell)&&x.1 != (".0":Str)).reverse,y.2=.local->Env.kindOf {ce with scope:=z9I sc env} y.1=some .local:=
  λy hy=>lc y (List.mem_reverse.mp hy)
 refine z8W (z8g (zck (z8W (wpAny_run (z9H q4 λr t5 q5=>?_)))))
 cases r with
 |error x=>
  obtain⟨m,hn,q6⟩:=q5
  refine z8g (z8W (zcC (cenv:={ce with scope:=z9I sc env}) h4 _ t5 m lr hn λg m' _ sb=>?_))
  exact z8Y (q6 g sb) (λ_ _ z=>z.elim) id2
 |ok f=>
  cases use with
  |none=>
   obtain⟨m,hn,q6⟩:=q5
   exact z8g (z8W (zcC (cenv:={ce with scope:=z9I sc env}) h4 _ t5 m lr hn λg m' _ sb=>z8q (q6 g sb)))
  |some u=>
   refine z8g (zdI (z8g (z8W (z8Y q5 (λ_ t6 q6=>?_) id2))))
   obtain⟨m,hn,q6⟩:=q6
   refine z8g (zcC (cenv:={ce with scope:=z9I sc env}) h4 _ t6 m (λy hy=>?_) hn λg m' _ sb=>z8q (q6 g sb))
   rcases z8v.mp hy with z|z
   ·exact lr y (zda z)
   ·exact lr y (zaQ z)
end
section
variable {prog:Program}{w:World}{A:Around}{R:Result->Shared->Prop}{s:Shared}
theorem YU(elt target iter:Expr)(ifs:List Expr)(scope:Scope)(pos:Pos)(it acc:Value)(env:Env) :
  compTurn (.ListComp elt [⟨target,iter,ifs,0⟩] scope pos) 0 it acc env=(standAt iter.pos >>= λ_=>pyNext it >>= λr=>match r with
   |none=>pure (.done .next)
   |some v=>zb4 target it v >>= λ_=>zcg target env v >>= λ_=>
    (forIn ifs true λc s=>if s=true then isTrue c env (eval c env) >>= λok=>pure (z9Q ok) else pure (z9Q s)) >>= λok=>
     if ok=true then (eval elt env >>= λx=>call (.builtin "list.append") [acc,x] >>= λ_=>pure ()) >>= λ_=>
      again (.compLoop (.ListComp elt [⟨target,iter,ifs,0⟩] scope pos) 0 it acc env)
     else again (.compLoop (.ListComp elt [⟨target,iter,ifs,0⟩] scope pos) 0 it acc env)):=by rfl
noncomputable def xk(M:zbP)(A:z8V)(env:Env)(E:Value->z8k->Prop):List Expr->(Bool->z8k->Prop)->z8k->Prop
 |[],Q,s=>Q true s
 |c::cs,Q,s=>z8t M A (isTrue c env (eval c env)) (λb s1=>if b=true then xk M A env E cs Q s1 else Q false s1) E s
theorem ZW{M:zbP}{env:Env}{E:Value->z8k->Prop}{Q:Bool->z8k->Prop}:∀(cs:List Expr) {s:z8k},Q false s->
  z8t M A (forIn cs false λc s=>if s=true then isTrue c env (eval c env) >>= λok=>pure (z9Q ok) else pure (z9Q s)) Q E s
 |[],s,h=>z8q h
 |c::cs,s,h=>by
  rw[zcV]
  refine z8g ?_
  rw[if_neg (by decide)]
  exact z8q (ZW cs h)
theorem WY{M:zbP}{env:Env}{E:Value->z8k->Prop}{Q:Bool->z8k->Prop}:∀(cs:List Expr) {s:z8k},xk M A env E cs Q s->
  z8t M A (forIn cs true λc s=>if s=true then isTrue c env (eval c env) >>= λok=>pure (z9Q ok) else pure (z9Q s)) Q E s
 |[],s,h=>z8q h
 |c::cs,s,h=>by
  rw[zcV]
  refine z8g ?_
  rw[if_pos rfl]
  refine z8g (thn h λb s1 h1=>z8q ?_)
  cases b with
  |true=>rw[if_pos rfl] at h1;exact WY cs h1
  |false=>rw[if_neg (by decide)] at h1;exact ZW cs h1
theorem Xd{elt target iter:Expr}{ifs:List Expr}{scope:Scope}{pos:Pos}{it acc:Value}{env:Env}(I:Nat->z8k->Prop)
  (turn:∀n s,I n s->z8t (z8u prog w) A (pyNext it) (λr s₁=>match r with
   |none=>R (.ok .next) s₁
   |some v=>z8t (z8u prog w) A (zb4 target it v) (λ_ s₂=>z8t (z8u prog w) A (zcg target env v) (λ_ s₃=>xk (z8u prog w) A env (zeV (z8u prog w) A env λx s'=>R (.error x) s') ifs (λb s₄=>
     if b=true then z8t (z8u prog w) A (eval elt env) (λx s₅=>z8t (z8u prog w) A (call (.builtin "list.append") [acc,x]) (λ_ s₆=>∃m,m<n/\I m s₆) (λ_ _=>False) s₅) (zeV (z8u prog w) A env λx s'=>R (.error x) s') s₄ else ∃m,m<n/\I m s₄) s₃) (λ_ _=>False) s₂) (λ_ _=>False) s₁) (λ_ _=>False) s)
  (n:Nat) (h:I n s):zaK (z8u prog w) A (.compLoop (.ListComp elt [⟨target,iter,ifs,0⟩] scope pos) 0 it acc env) R s:=by
 refine codeAny_loop rfl I (λn s hI=>?_) n h
 show z8t _ _ ((compTurn (.ListComp elt [⟨target,iter,ifs,0⟩] scope pos) 0 it acc env).onRaise (λx=>do zey x env;theTreesLotGoes x)) _ _ s
 refine wpAny_noted ?_
 rw[YU]
 have nx:∀{α:Type} {t:Sem α} {Q:α->z8k->Prop} {s:z8k} {N:Value->z8k->Prop},z8t (z8u prog w) A t Q (λ_ _=>False) s->z8t (z8u prog w) A t Q N s:=λh=>z8Y h (λ_ _ q=>q) λ_ _ z=>z.elim
 refine z8g (z9k (z8g (nx (thn (turn n s hI) λr s₁ h₁=>?_))))
 cases r with
 |none=>exact z8q h₁
 |some v=>
  refine z8g (nx (thn h₁ λ_ s₂ h₂=>?_))
  refine z8g (nx (thn h₂ λ_ s₃ h₃=>?_))
  refine z8g (thn (WY ifs h₃) λb s₄ h₄=>?_)
  cases b with
  |true=>
   rw[if_pos rfl] at h₄ ⊢
   exact z8g (z8g (thn h₄ λx s₅ h₅=>z8g (nx (thn h₅ λ_ s₆ h₆=>z8q (z8q ⟨rfl,h₆⟩)))))
  |false=>
   rw[if_neg (by decide)] at h₄ ⊢
   exact z8q ⟨rfl,h₄⟩
end
abbrev noW:XW:=λ_ _ _ _=>False
def cxC (X:Cx)(N:List Str)(sc:Scope)(cl:List (Str×Addr))(C0:Addr)(s3:z8k)(H3:Hp)(fp:List Addr):Cx:=
 {X with N:=N,s₀:=s3,H₀:=H3,env:=zaR sc cl C0 X.env,outer:=X.stack,ex:=fp,fn:=λ_=>false,pn:=[],xe:=λ_ _=>False}
def VX(N cel:List Str)(tg:Expr)(sc:Scope):Bool:=
 (sc.kind == .function)&&sc.names.all (λp=>p.2 != .cell)&&sc.names.all (λp=>p.2 != .local || sc.names.lookup p.1 == some .local)&&
 (za tg).all (λx=>sc.names.lookup x == some .local&&x != ("__debug__":Str)&&x != ("__classdict__":Str))&&(frees sc).all (λx=>(idx N x).isSome&&sc.names.lookup x == some .free&&cel.contains x&&x != ("__debug__":Str)&&x != ("__classdict__":Str))&&decide ((za tg++frees sc).Nodup)&&
 (Qj sc).all (λx=>sc.names.lookup x == some .globalImplicit)
structure CompOk(N cel:List Str)(tg:Expr)(sc:Scope):Prop where
 kind:sc.kind=.function
 noc:∀p∈sc.names,p.2≠.cell
 lcl:∀p∈sc.names,p.2=.local->sc.names.lookup p.1=some .local
 own:∀x∈za tg,sc.names.lookup x=some .local/\(x == ("__debug__":Str))=false/\(x == ("__classdict__":Str))=false
 fre:∀x∈frees sc,(∃i,idx N x=some i)/\sc.names.lookup x=some .free/\x∈cel/\(x == ("__debug__":Str))=false/\(x == ("__classdict__":Str))=false
 nd:(za tg++frees sc).Nodup
 glb:∀x∈Qj sc,sc.names.lookup x=some .globalImplicit
theorem Xr{N cel:List Str}{tg:Expr}{sc:Scope}(h:VX N cel tg sc=true):CompOk N cel tg sc:=by
 unfold VX at h
 simp only[z8j,z92,beq_iff_eq,bne_iff_ne,zbE,decide_eq_true_eq,za6,zaj,ne_eq] at h
 obtain⟨⟨⟨⟨⟨⟨h1,h2⟩,h3⟩,h4⟩,h5⟩,h6⟩,h7⟩:=h
 refine⟨h1,h2,λp hp hl=>?_,λx hx=>?_,λx hx=>?_,h6,h7⟩
 ·rcases h3 p hp with z|z
  ·exact absurd hl z
  ·exact z
 ·obtain⟨⟨a,b⟩,c⟩:=h4 x hx
  exact⟨a,by simpa using b,by simpa using c⟩
 ·obtain⟨⟨⟨⟨a,b⟩,c⟩,d⟩,e⟩:=h5 x hx
  exact⟨a,b,c,by simpa using d,by simpa using e⟩
theorem q9{env:Env}{x:Str}:∀{names:List (Str×zbT)} {kd:zbT},names.lookup x=some kd->
  (names.map λ(n,k)=>if (k == zcm&&env.scope.kind == .function&&env.kindOf n == some .cell) then (n,NameKind.cell) else (n,k)).lookup x=some (if (kd == zcm&&env.scope.kind == .function&&env.kindOf x == some .cell) then .cell else kd)
 |[],_,h=>by simp at h
 |(n,k)::r,kd,h=>by
  have ih:=@q9 env x r kd
  rw[z8R]
  rw[z8_] at h
  cases hx:x == n with
  |true=>
   have hx':x=n:=by simpa using hx
   subst hx'
   simp at h
   subst h
   dsimp only
   split<;>simp_all[z8_]
  |false=>
   simp only[hx] at h
   dsimp only
   split
   ·rw[z8_];simp only[hx];exact ih h
   ·rw[z8_];simp only[hx];exact ih h
section
variable {X:Cx}{D:DP}{W:XW}{Γ:Cn}{k:Nat}{pins:List (Addr×Obj)}{s2:Shared}{σ:St}{H2:Hp}{φ α:List Addr}{τ:Sl}{μ:Mem}{tg:Expr}{sc:Scope}{cl:List (Str×Addr)}{fp:List Addr}
def Vy (N:List Str)(σ:St)(fs:List Str):St:=fs.map λx=>(idx N x).bind λi=>(σ[i]?).join
def yk (N:List Str):List Str->Option (List Nat)
 |[]=>some []
 |x::r=>match idx N x,yk N r with
  |some i,some is=>some (i::is)
  |_,_=>none
theorem QI:∀(n:Nat) {fs:List Nat} {τ:Sl},blk n fs τ=z8P n none++VG fs τ
 |0,_,_=>rfl
 |n+1,fs,τ=>by
  show none::blk n fs τ=_
  rw[QI n];rfl
theorem uZ:∀{fs:List Nat} {τ:Sl},(VG fs τ).length=fs.length
 |[],_=>rfl
 |i::r,τ=>by show (VG r τ).length+1=_;rw[uZ];rfl
theorem uv:∀{N xs:List Str} {fs:List Nat},yk N xs=some fs->fs.length=xs.length
 |N,[],fs,h=>by cases h;rfl
 |N,x::r,fs,h=>by
  simp only[yk] at h
  split at h
  ·rename_i i is h1 h2
   cases h
   simp[uv h2]
  ·cases h
theorem WI{N:List Str}{H:Hp}(sr:SRel D φ α H τ σ):∀{xs:List Str} {fs:List Nat},yk N xs=some fs->∀(j:Nat) (t:T),(VG fs τ)[j]?=some (some t)->∃v,(Vy N σ xs)[j]?=some (some v)/\Den D φ α H t v
 |[],fs,h,j,t,e=>by cases h;simp[VG] at e
 |x::r,fs,h,j,t,e=>by
  simp only[yk] at h
  split at h
  ·rename_i i is h1 h2
   cases h
   cases j with
   |zero=>
    have e:some (Xt τ i)=some (some t):=e
    obtain⟨v,hv,d⟩:=sr.get (z8m e)
    exact⟨v,by simp[Vy,h1,hv],d⟩
   |succ j=>
    have e:(VG is τ)[j]?=some (some t):=e
    obtain⟨v,hv,d⟩:=WI sr h2 j t e
    exact⟨v,by simpa[Vy] using hv,d⟩
  ·cases h
theorem z0Q{N:List Str}{H:Hp}{ns xs:List Str}{fs:List Nat}(sr:SRel D φ α H τ σ)(h:yk N xs=some fs):SRel D φ α H (blk ns.length fs τ) (ns.map (λ_=>none)++Vy N σ xs):=by
 rw[QI]
 refine⟨by simp[uZ,uv h,Vy],λj t e=>?_⟩
 rcases zfP j ns.length with hj|hj
 ·rw[z8p (by simpa using hj),zaq] at e
  split at e<;>cases e
 ·rw[z8r (by simpa using hj)] at e
  rw[z8r (by simpa using hj)]
  simp only[z8B,zcY] at e ⊢
  exact WI sr h _ t e
theorem Jh(C:Ck D W Γ X k)(ok:CompOk Γ.N Γ.cel tg sc)(I2:Inv X pins σ H2 s2)(hf:∀b∈fp,QX X pins H2 b)(hfo:∀b∈fp,∃o,s2.heap.get? b=some o)(hcl:∀x c,cl.lookup x=some c->X.env.cells.lookup x=some c/\x∈frees sc)(hcl2:∀x∈frees sc,∃c,cl.lookup x=some c)
  {h1:Heap} (hns:h1.Ns (s2.heap.objs.size+1) (λ_=>none)) (hsb:z99 (s2.heap.objs.size+1) ((s2.heap.push {cls:=.type "list",data:=.seq ([]:List Value).toArray}).push {cls:=.type "dict",data:=.dict #[]}) h1) {tk:Nat} :
  Inv X pins σ (upd H2 s2.heap.objs.size (.lst [])) {s2 with heap:=s2.heap.push {cls:=.type "list",data:=.seq ([]:List Value).toArray}}/\
  Inv (cxC X (za tg++frees sc) sc cl (s2.heap.objs.size+1) {s2 with heap:=s2.heap.push {cls:=.type "list",data:=.seq ([]:List Value).toArray}} (upd H2 s2.heap.objs.size (.lst [])) fp) []
   ((za tg).map (λ_=>none)++Vy Γ.N σ (frees sc)) (upd H2 s2.heap.objs.size (.lst [])) {s2 with heap:=h1,toks:=tk}:=by
 have I3:Inv X pins σ (upd H2 s2.heap.objs.size (.lst [])) {s2 with heap:=s2.heap.push {cls:=.type "list",data:=.seq ([]:List Value).toArray}}:=I2.lnew (its:=[]) (t':=s2.toks) .nil (by simp)
 refine⟨I3,?_⟩
 generalize hA:s2.heap.push {cls:=.type "list",data:=.seq ([]:List Value).toArray}=HA at hsb I3 ⊢
 have szA:HA.objs.size=s2.heap.objs.size+1:=by rw[←hA,z9K]
 have old:∀b o,HA.get? b=some o->h1.get? b=some o:=λb o e=>hsb.extBut b o (by rw[←szA];exact z8O (z8x e)) (z8i _ e)
 have fresh:(upd H2 s2.heap.objs.size (.lst [])) (s2.heap.objs.size+1)=none:=by rw[←szA];exact I3.hok.fresh (z8n _)
 have kindC:∀x∈frees sc,(cxC X (za tg++frees sc) sc cl (s2.heap.objs.size+1) {s2 with heap:=HA} (upd H2 s2.heap.objs.size (.lst [])) fp).env.kindOf x=some .cell\/(cxC X (za tg++frees sc) sc cl (s2.heap.objs.size+1) {s2 with heap:=HA} (upd H2 s2.heap.objs.size (.lst [])) fp).env.kindOf x=some .free:=λx hx=>by
  have:=q9 (env:=X.env) (ok.fre x hx).2.1
  show (z9I sc X.env).names.lookup x=some .cell\/(z9I sc X.env).names.lookup x=some .free
  unfold z9I
  dsimp only
  rw[this]
  split
  ·exact .inl rfl
  ·exact .inr rfl
 refine⟨⟨I2.ok.mod,ok.kind,I2.ok.glob,I2.ok.blt,?_,?_,?_,λx c h=>absurd h (by simp[cxC]),I2.ok.hd,I2.ok.frames,.inl rfl,?_,?_,?_,?_,?_,?_,?_⟩,rfl,I2.bare,Un.kept old,⟨_,hns,?_⟩,?_,fresh,?_,λp hp=>absurd hp (by simp[cxC]),I3.hok.kept old,?_⟩
 ·show HA.objs.size<=s2.heap.objs.size+1
  omega
 ·intro x y c h1 h2
  exact I2.ok.inj x y c (hcl x c h1).1 (hcl y c h2).1
 ·intro x hx
  have hx':(z9I sc X.env).names.lookup x=some .cell\/(z9I sc X.env).names.lookup x=some .free:=hx
  by_cases hm:x∈frees sc
  ·exact hcl2 x hm
  ·exfalso
   cases q:sc.names.lookup x with
   |none=>
    have:(z9I sc X.env).names.lookup x=none:=by
     unfold z9I
     dsimp only
     rw[List.lookup_eq_none_iff] at q ⊢
     intro p hp
     obtain⟨p0,hp0,rfl⟩:=z9b.mp hp
     have:=q p0 hp0
     try dsimp only
     split<;>exact this
    rw[this] at hx'
    rcases hx' with z|z<;>cases z
   |some kd=>
    have hr:=q9 (env:=X.env) q
    have hx2:=hx'
    unfold z9I at hx2
    dsimp only at hx2
    rw[hr] at hx2
    have hmem:(x,kd)∈sc.names:=z9z q
    by_cases hkf:kd=.free
    ·exact hm (ja.mpr ⟨_,hmem,rfl,hkf⟩)
    ·have e:(kd == zcm)=false:=by simpa using hkf
     rw[e] at hx2
     simp only[zeY,zb7,if_false,zeg] at hx2
     rcases hx2 with z|z
     ·exact ok.noc _ hmem z
     ·exact hkf z
 ·intro b hb
  obtain⟨f0,f1,f2,f3,f4,f5⟩:=hf b hb
  obtain⟨o,ho⟩:=hfo b hb
  refine⟨?_,λx c h=>f4 x c (hcl x c h).1⟩
  show b≠s2.heap.objs.size+1
  exact z8O (zaM (z8x ho))
 ·intro b o e
  exact I3.bs b o e
 ·exact z8G I3.ok.bsz I3.sz
 ·intro b o e hb
  obtain⟨f0,f1,f2,f3,f4,f5⟩:=hf b hb
  rcases f3 with z|z
  ·exact I2.ok.noex b o e z
  ·exact absurd (z8w (z8x e) (z8G I2.ok.bsz z)) (z9G _)
 ·intro b hb hfs
  obtain⟨f0,f1,f2,f3,f4,f5⟩:=hf b hb
  rcases z8T.mp (I2.stkSub b hfs) with z|z
  ·exact f1 z
  ·exact f2 z
 ·exact I3.stack
 ·intro b hb
  exact I3.stkFree b hb
 ·intro i x v hN hσ hv
  obtain⟨m,hn,hl⟩:=I2.loc
  by_cases hi:i<(za tg).length
  ·exfalso
   rw[z8p (by simpa using hi),z8U] at hσ
   cases q:(za tg)[i]? with
   |none=>rw[q] at hσ;cases hσ
   |some y=>rw[q] at hσ;cases hσ
  ·have hN':(frees sc)[i-(za tg).length]?=some x:=by
    have:(za tg++frees sc)[i]?=some x:=hN
    rwa[z8r (by omega)] at this
   rw[z8r (by simpa using hi)] at hσ
   simp only[z8B] at hσ
   unfold Vy at hσ
   rw[z8U,hN'] at hσ
   simp only[Option.map_some,zeg] at hσ
   have hx:x∈frees sc:=z8F hN'
   obtain⟨⟨j,hj⟩,_,hcelm,_⟩:=ok.fre x hx
   rw[hj] at hσ
   simp only[zaV] at hσ
   cases u:σ[j]? with
   |none=>rw[u] at hσ;cases hσ
   |some o=>
    rw[u] at hσ
    simp only[Option.join_some] at hσ
    subst hσ
    obtain⟨w,rw',lk⟩:=hl j x v (by rw[C.hN];exact wJ hj) u (C.vis x (w9 hj))
    refine⟨w,rw',.inr ⟨kindC x hx,?_⟩⟩
    have kx:=C.cel x hcelm
    rcases lk with⟨z,_⟩|⟨_,c,hc,hcell⟩
    ·rw[z] at kx
     rcases kx with kx|kx<;>cases kx
    ·obtain⟨c',hc'⟩:=hcl2 x hx
     have:=(hcl x c' hc').1
     rw[hc] at this
     cases this
     refine⟨c,hc',?_⟩
     obtain⟨oc,ho,hd⟩:=hcell
     exact⟨oc,old c oc (by rw[←hA];exact z8i _ ho),hd⟩
 ·intro x c h
  obtain⟨v,oc,ho,hd⟩:=I2.cell x c (hcl x c h).1
  exact⟨v,oc,old c oc (by rw[←hA];exact z8i _ ho),hd⟩
 ·intro x c h
  exact (I3.freeC x c (hcl x c h).1).imp id λz=>⟨rfl,z.2⟩
 ·show _=(za tg++frees sc).length
  simp[Vy]
end
section
variable {X:Cx}{D:DP}{W:XW}{Γ:Cn}{k:Nat}{pins:List (Addr×Obj)}{s:Shared}{σ:St}{H:Hp}{φ α:List Addr}{τ:Sl}{μ:Mem}{tg iter elt:Expr}{sc:Scope}{fp:List Addr}{pos pos':Pos}
def inComp(Γ:Cn)(tg:Expr)(sc:Scope):Cn:={Γ with N:=za tg++frees sc,G:=(Qj sc).filter Γ.U.contains,cel:=frees sc,lam:=none}
theorem z1K{W':XW}{pn:List (Addr×Obj)}{xe:Value->z8k->Prop}(C:Ck D W Γ X k)(ok:CompOk Γ.N Γ.cel tg sc){cl:List (Str×Addr)}{C0:Addr}{s3:z8k}{H3:Hp}
  (hxe:∀e s,XP {(cxC X (za tg++frees sc) sc cl C0 s3 H3 fp) with pn:=pn,xe:=xe} W' e s->xe e s):Ck D W' (inComp Γ tg sc) {(cxC X (za tg++frees sc) sc cl C0 s3 H3 fp) with pn:=pn,xe:=xe} k:=by
 have kindC:∀x∈frees sc,(z9I sc X.env).names.lookup x=some .cell\/(z9I sc X.env).names.lookup x=some .free:=λx hx=>by
  have:=q9 (env:=X.env) (ok.fre x hx).2.1
  unfold z9I
  dsimp only
  rw[this]
  split
  ·exact .inl rfl
  ·exact .inr rfl
 have other:∀{x kd},sc.names.lookup x=some kd->kd≠.free->(z9I sc X.env).names.lookup x=some kd:=λ{x kd} h hk=>by
  have:=q9 (env:=X.env) h
  unfold z9I
  dsimp only
  rw[this]
  have e:(kd == zcm)=false:=by simpa using hk
  simp[e]
 refine⟨C.hK,rfl,ok.nd,λx hx=>?_,λx hx=>?_,λx hx=>?_,λx hx=>?_,λx hx=>?_,C.glU,kindC,C.isi,C.fld,C.xcx,C.ocx,C.clv,C.clm,C.rom,C.rmh,hxe,?_,LamOk.no rfl⟩
 ·rcases z8v.mp hx with h|h
  ·exact .inl (other (ok.own x h).1 (by decide))
  ·rcases kindC x h with z|z
   ·exact .inr (.inl z)
   ·exact .inr (.inr z)
 ·rcases z8v.mp hx with h|h
  ·exact (ok.own x h).2
  ·exact (ok.fre x h).2.2.2
 ·exact (C.glU x (by have:=(z9l.mp hx).2;simpa using this)).2
 ·exact other (ok.glb x (z9l.mp hx).1) (by decide)
 ·exact (C.glU x (by have:=(z9l.mp hx).2;simpa using this)).1
 ·obtain⟨e0,out,L,F⟩:=C.frm
  exact⟨e0,out,L,⟨F.stk,F.f0,F.fe⟩⟩
theorem Uk(ok:CompOk Γ.N Γ.cel tg sc){cl:List (Str×Addr)}{C0:Addr}{s3:z8k}{H3:Hp}:Sto (cxC X (za tg++frees sc) sc cl C0 s3 H3 fp) (za tg):=λx hx=>by
 have e:=q9 (env:=X.env) (ok.own x hx).1
 have e':(z9I sc X.env).names.lookup x=some .local:=by
  unfold z9I
  dsimp only
  rw[e]
  rfl
 exact⟨.inl e',.inr e'⟩
theorem Ji{M:List Str}{x:Str}:∀{L:List Str} {i:Nat},x∈L->idx (L++M) x=some i->i<L.length
 |[],_,h,_=>absurd h (by simp)
 |y::L,i,h,e=>by
  rw[zbr] at e
  simp only[idx] at e
  split at e
  ·cases e;simp
  ·rename_i hn
   have hm:x∈L:=(z8T.mp h).resolve_left λz=>hn z.symm
   cases q:idx (L++M) x with
   |none=>rw[q] at e;cases e
   |some j=>rw[q] at e;cases e;simpa using Ji hm q
theorem ZS{n i:Nat}{t:Option T}{τ:Sl}(h:i<n):∀j,n<=j->(jX τ i t)[j]?=τ[j]?:=λj hj=>by
 rw[yr,z8S (by omega)]
theorem ZO{L M:List Str}:∀{es:List Expr} {is:List Nat} {ts:List T} {τ τ':Sl},(∀e∈es,∀x p,e=.Name x p->x∈L)->idxs (L++M) es=some is->VA is ts τ=some τ'->∀j,L.length<=j->τ'[j]?=τ[j]?
 |[],is,ts,τ,τ',_,h0,h=>by
  cases h0
  cases ts with
  |nil=>cases h;exact λ_ _=>rfl
  |cons _ _=>cases h
 |e::es,is,ts,τ,τ',hn,h0,h=>by
  cases e with
  |Name x p0=>
   simp only[idxs] at h0
   split at h0
   ·rename_i i is' hi his
    cases h0
    cases ts with
    |nil=>cases h
    |cons t ts=>
     intro j hj
     rw[ZO (λe he=>hn e (z8y _ he)) his (show VA is' ts (jX τ i (some t))=some τ' from h) j hj]
     exact ZS (Ji (hn _ z8M x p0 rfl) hi) j hj
   ·cases h0
  |_=>simp[idxs] at h0
theorem z0b{M:List Str}{e:Expr}{tgt:Tg}{t:T}{τ τ':Sl}(h0:wG (za e++M) e=some tgt)(h:asg tgt t τ=some τ'):∀j,(za e).length<=j->τ'[j]?=τ[j]?:=by
 cases e with
 |Name x p0=>
  simp only[wG] at h0
  cases q:idx (za (.Name x p0)++M) x with
  |none=>rw[q] at h0;cases h0
  |some i=>
   rw[q] at h0;cases h0
   cases (z8m h:jX τ i (some t)=τ')
   exact ZS (Ji (by simp[za]) q)
 |Tuple es kk p0=>
  simp only[wG] at h0
  cases q:idxs (za (.Tuple es kk p0)++M) es with
  |none=>rw[q] at h0;cases h0
  |some is=>
   rw[q] at h0;cases h0
   cases t with
   |tup ts=>exact ZO (λe he x p hx=>by subst hx;exact zay.mpr ⟨_,he,rfl⟩) q h
   |_=>cases h
 |_=>simp[wG] at h0
def VF (X:Cx)(D:DP)(W:XW):List Expr->List Dt->Prop
 |[],[]=>True
 |e::es,f::fs=>PT X e (rdT D W f)/\VF X D W es fs
 |_,_=>False
theorem YX{M:zbP}{A:z8V}{β:Type}{R:β->Mem->List Addr->Hp->Prop}{fe:De}{kk:Option T->Mem->RE β}{Qf:Bool->z8k->Prop}:∀{cs:List Expr} {fs:List Dt} {s:z8k} {H:Hp} {α:List Addr} {μ:Mem},VF X D W cs fs->Inv X pins σ H s->SRel D φ α H τ σ->MRel D φ α H μ->Post D W φ α H σ R ((yo fs fe τ μ).bind kk)->
  (∀s' H' α' μ',Inv X pins σ H' s'->Stp α H α' H'->SRel D φ α' H' τ σ->MRel D φ α' H' μ'->Post D W φ α' H' σ R ((fe τ μ').bind λy μ1=>kk (some y) μ1)->Qf true s')->
  (∀s' H' α' μ',Inv X pins σ H' s'->Stp α H α' H'->SRel D φ α' H' τ σ->MRel D φ α' H' μ'->Post D W φ α' H' σ R (kk none μ')->Qf false s')->
  xk (z8u X.prog X.w) X.A X.env X.xe cs Qf s
 |[],[],s,H,α,μ,_,I,sr,mr,p,h1,_=>h1 s H α μ I (Stp.refl _ _) sr mr p
 |[],_::_,_,_,_,_,h,_,_,_,_,_,_=>h.elim
 |_::_,[],_,_,_,_,h,_,_,_,_,_,_=>h.elim
 |c::cs,f::fs,s,H,α,μ,h,I,sr,mr,p,h1,h2=>by
  have p:Post D W φ α H σ R ((f τ μ).bind λb μ1=>(RE.br b (yo fs fe τ μ1) (.ok none μ1)).bind kk):=p
  refine thn (z6s h.1 I sr mr p) ?_
  rintro b s1 ⟨H1,μ1,α1,I1,st1,sr1,mr1,p1⟩
  cases b with
  |true=>
   rw[if_pos rfl]
   exact YX (M:=M) (A:=A) h.2 I1 sr1 mr1 p1 (λs' H' α' μ' a b=>h1 s' H' α' μ' a (st1.trans b)) (λs' H' α' μ' a b=>h2 s' H' α' μ' a (st1.trans b))
  |false=>
   rw[if_neg (by decide)]
   exact h2 s1 H1 α1 μ1 I1 st1 sr1 mr1 p1
end
section
variable {X:Cx}{D:DP}{W:XW}{Γ:Cn}{k:Nat}{pins:List (Addr×Obj)}{s:Shared}{σ:St}{H:Hp}{φ α:List Addr}{τ:Sl}{μ:Mem}{tg iter elt:Expr}{sc:Scope}{fp:List Addr}{pos pos':Pos}
theorem xW{M:zbP}{A:z8V}{env:Env}{E E':Value->z8k->Prop}{Q:Bool->z8k->Prop}(h:∀e s,E e s->E' e s):∀{cs:List Expr} {s:z8k},xk M A env E cs Q s->xk M A env E' cs Q s
 |[],_,q=>q
 |c::cs,s,q=>z8Y q (λb s1 q1=>by
  cases b with
  |true=>rw[if_pos rfl] at q1 ⊢;exact xW h q1
  |false=>rw[if_neg (by decide)] at q1 ⊢;exact q1) h
theorem XTr.but{C0 x T:Addr}{cls fl:Value}{d:Option Addr}{h g:Heap}(t:XTr h x T cls d fl)(sb:z99 C0 h g)(hx:x≠C0)(hT:T≠C0):XTr g x T cls d fl:=by
 obtain⟨oe,vs,a0,oT,ts,ho,hc,hd,hv0,hv1,hTx,hoT,hdT,h3⟩:=t
 exact⟨oe,vs,a0,oT,ts,sb.extBut x oe hx ho,hc,hd,hv0,hv1,hTx,sb.extBut T oT hT hoT,hdT,h3⟩
theorem yu{C0:Addr}{h':Heap}(I:Inv X pins σ H s)(xo:XOk X H C0)(hp:∀q∈pins,q.1≠C0)(sb:z99 C0 s.heap h'):Inv X pins σ H {s with heap:=h'}:=
 Vk (ch:=[C0]) I (λb hb=>by rw[z8l.mp hb];exact⟨xo,hp⟩) (λb o _ hc e=>sb.extBut b o (λz=>hc (by simp[z])) e) λb o _ hc e=>⟨o.slots,sb.extBut b o (λz=>hc (by simp[z])) e⟩
inductive CompI(D:DP)(Xb:Cx)(tn:Nat->Heap->Prop)(fp φ1 α1:List Addr)(H2:Hp)(acc:Addr)(bl:Sl)(xs:List T)(P:Nat->List T->Mem->Prop)(n:Nat)(s':Shared):Prop where
 |mk (i:Nat) (σ':St) (H':Hp) (α':List Addr) (μ':Mem) (yT:List T) (yV:List V) (e:n=xs.length-i) (hi:i<=xs.length) (iv:Inv Xb [] σ' H' s') (t:tn i s'.heap) (fr:∀b∈fp,H' b=none) (st:Stp α1 H2 α' H') (mr:MRel D φ1 α' H' μ') (sr:SRel D φ1 α' H' bl σ') (ac:H' acc=some (.lst yV)) (dl:DenL D φ1 α' H' yT yV) (hy:yT.length<=i) (q:P i yT μ')
inductive CompX(D:DP)(φ1 α1:List Addr)(H2:Hp)(Z0:Xp)(cls:Value)(d:Option Addr)(_:St)(He:Hp):Prop where
 |mk (c:Nat) (fs':List (Nat×T)) (μ':Mem) (α':List Addr) (Cc:Addr) (z:Z0 c fs' μ') (st:Stp α1 H2 α' He) (m:MRel D φ1 α' He μ') (ad:D.adr c=some Cc) (e:cls=.ref Cc) (xd:XDict D φ1 α' He fs' d)
structure XbOk(Xb X:Cx)(env:Env)(N:List Str):Prop where
 pr:Xb.prog=X.prog
 w:Xb.w=X.w
 K:Xb.K=X.K
 A:Xb.A=X.A
 en:Xb.env=env
 ca:Xb.calm=X.calm
 st:Xb.stack=X.stack
 N:Xb.N=N
theorem xE{β:Type}{R:β->Mem->List Addr->Hp->Prop}{fi:Di}{fs:List Nat}{tgt:Tg}{ifs:List Expr}{cs:List Dt}{fe:De}{kk:List T->Mem->RE β}{use:Option (Value->Sem Unit)}{Qf:Value->z8k->Prop}
  (C:Ck D W Γ X k) (hc:Γ.calm=true) (ok:CompOk Γ.N Γ.cel tg sc) (hfs:yk Γ.N (frees sc)=some fs) (htg:wG (za tg++frees sc) tg=some tgt) (hi:PI X tg iter (rdI D W fi)) (hel:∀X' W',Ck D W' (inComp Γ tg sc) X' k->PE X' elt (rdE D W' fe)) (hts:∀X' W',Ck D W' (inComp Γ tg sc) X' k->VF X' D W' ifs cs) (hs:∀x,z9s iter X.env x=pure x)
  (I:Inv X pins σ H s) (sr:SRel D φ α H τ σ) (mr:MRel D φ α H μ)
  (p:Post D W φ α H σ R ((fi τ μ).go λxs o μ1=>.grd (xs.length<=room) ((z_ tgt (yo cs fe) o (blk (za tg).length fs τ) xs μ1).bind kk)))
  (Kq:∀acc C0 s' α1 H1 H' α' ys vs μ',Inv X pins σ H' s'->Stp α H α1 H1->Stp α1 H1 α' H'->H1 acc=none->acc∉φ->acc∉α1->SRel D (φ++[acc]) α' H' τ σ->MRel D (φ++[acc]) α' H' μ'->H' acc=some (.lst vs)->DenL D (φ++[acc]) α' H' ys vs->Post D W φ α1 H1 σ R (kk ys μ')->XOk X H' C0->(∀q∈pins,q.1≠C0)->(∃m,s'.heap.Ns C0 m)->
   (match use with
    |none=>∃m,s'.heap.Ns C0 m/\∀g,z99 C0 s'.heap g->Qf (.ref acc) {s' with heap:=g}
    |some u=>z8t (z8u X.prog X.w) X.A (u (.ref acc)) (λ_ t2=>∃m,t2.heap.Ns C0 m/\∀g,z99 C0 t2.heap g->Qf .none {t2 with heap:=g}) X.xe s')) :
  z8t (z8u X.prog X.w) X.A (zcl (.ListComp elt [⟨tg,iter,ifs,0⟩] sc pos) sc X.env pos' (newList []) false (eval iter X.env) use) Qf X.xe s:=by
 obtain⟨cl,hclos,hcl,hcl2⟩:=JD (sc:=sc) (env:=X.env) λx hx=>I.ok.has x (C.cel x (ok.fre x hx).2.2.1)
 refine z1u (use:=use) rfl hs hclos ok.kind ok.lcl (thn (hi pins s σ H (λJ H2=>∃xs o μ1 α1 Ok,ItV D J Ok xs/\OkI D φ α1 H2 xs o Ok/\o μ1/\Stp α H α1 H2/\MRel D φ α1 H2 μ1/\
  Post D W φ α1 H2 σ R (.grd (xs.length<=room) ((z_ tgt (yo cs fe) o (blk (za tg).length fs τ) xs μ1).bind kk))) I
  ⟨φ,α,τ,μ,sr,mr,(show Post D W φ α H σ R ((fi τ μ).re.bind λpr μ1=>.grd (pr.1.length<=room) ((z_ tgt (yo cs fe) pr.2 (blk (za tg).length fs τ) pr.1 μ1).bind kk)) from p).bind.mono λpr μ' α' H' st m q J Ok iv okk lv=>⟨pr.1,pr.2,μ',α',Ok,iv,okk,lv,st,m,q⟩⟩) λv s1 h1=>thn h1 λitv s2 h2=>?_)
 obtain⟨it,fp,tn,J,H2,rfl,I2,Tn,tn0,f2,xs,Lv,μ1,α1,Ok,iv,okk,lv1,st1,mr1,p1⟩:=h2
 obtain⟨hroom,K0,Z0,q0,hk0,hz0⟩:=p1.grd
 have fo:∀b∈fp,∃o,s2.heap.get? b=some o:=λb hb=>let ⟨o,e,_⟩:=Tn.obj 0 _ tn0 b hb;⟨o,e⟩
 refine z9N (wpAny_newFunctionEnv ok.noc (by intro y hy;simp at hy) (λh₁ hns₁ hsb₁=>?_) ok.kind)
 have sz:(s2.heap.push {cls:=.type "list",dict:=none,data:=.seq ([]:List Value).toArray}).objs.size=s2.heap.objs.size+1:=z9K ..
 dsimp only at hns₁ hsb₁ ⊢
 rw[sz] at hns₁ hsb₁ ⊢
 have hns:h₁.Ns (s2.heap.objs.size+1) (λ_=>none):=by simpa using hns₁
 obtain⟨I3,J0⟩:=Jh (tk:=s2.toks+([]:List (Str×Value)).length) C ok I2 f2 fo hcl hcl2 hns hsb₁
 have hD:H2 s2.heap.objs.size=none:=I2.hok.fresh (z8n _)
 have nph:s2.heap.objs.size∉φ:=zv mr1 hD
 have nal:s2.heap.objs.size∉α1:=zu mr1 hD
 have old:∀b o,s2.heap.get? b=some o->h₁.get? b=some o:=λb o e=>hsb₁.extBut b o (z8O (zaM (z8x e))) (z8i _ (z8i _ e))
 have n3:({s2 with heap:=s2.heap.push {cls:=.type "list",data:=.seq ([]:List Value).toArray}}:z8k).heap.get? (s2.heap.objs.size+1)=none:=z9d (by show (s2.heap.push _).objs.size<=_;rw[z9K];exact z8n _)
 have xo0:=vH I3 n3
 have pn3:∀q∈pins,q.1≠s2.heap.objs.size+1:=λq hq z=>by
  have:=(I3.pin q (z8s _ hq)).1
  rw[z,n3] at this;cases this
 generalize hS3:({s2 with heap:=s2.heap.push {cls:=.type "list",data:=.seq ([]:List Value).toArray}}:z8k)=S3 at I3 J0 n3
 generalize hH3:upd H2 s2.heap.objs.size (.lst [])=H3 at I3 J0 xo0
 generalize hXb:cxC X (za tg++frees sc) sc cl (s2.heap.objs.size+1) S3 H3 fp=Xb at J0
 have hXb':XbOk Xb X (zaR sc cl (s2.heap.objs.size+1) X.env) (za tg++frees sc):=by subst hXb;exact⟨rfl,rfl,rfl,rfl,rfl,rfl,rfl,rfl⟩
 have sto:Sto Xb (za tg):=by subst hXb;exact Uk (Γ:=Γ) ok
 have cm:Xb.calm=true:=by rw[hXb'.ca];exact C.clm hc
 have back:∀{s4:z8k} {σ4:St} {H4:Hp} {pp:List (Addr×Obj)},Inv Xb pp σ4 H4 s4->Inv X pins σ H4 s4:=λ{s4 σ4 H4 pp} I4=>by
  subst hXb
  exact I3.call' (ch:=fp) I4.os I4.base I4.hok I4.bare λb hb=>by
   obtain⟨f0,f1,f2',f3,f4,f5⟩:=f2 b hb
   exact⟨f3,f1,f4,f5⟩
 have fpk:∀{H':Hp},(∀b∈fp,H' b=none)->∀b∈fp,QX Xb [] H' b:=λhn b hb=>by
  obtain⟨f0,f1,f2',f3,f4,f5⟩:=f2 b hb
  obtain⟨o,ho⟩:=fo b hb
  subst hXb
  refine⟨hn b hb,z8O (zaM (z8x ho)),λz=>?_,.inl hb,λx c h=>f4 x c (hcl x c h).1,λq hq=>absurd hq (by simp[cxC])⟩
  rcases z8T.mp (I2.stkSub b z) with z|z
  ·exact f1 z
  ·exact f2' z
 have TnI:=Tn.item Xb hXb'.pr hXb'.w hXb'.K cm
 have TnD:=Tn.done Xb hXb'.pr hXb'.w hXb'.K cm
 obtain⟨e0,out,L,F⟩:=C.frm
 have ce:(zaR sc cl (s2.heap.objs.size+1) X.env).frame=some L:=F.fe
 obtain⟨NB,hNB⟩:∃NB:Value->z8k->Prop,NB=zeV (z8u X.prog X.w) X.A (zaR sc cl (s2.heap.objs.size+1) X.env) (λx s'=>QS (z8u X.prog X.w) X.A X.xe use Qf (.ref s2.heap.objs.size) (zaR sc cl (s2.heap.objs.size+1) X.env) (.error x) s'):=⟨_,rfl⟩
 have leave:∀{pp:List (Addr×Obj)} {e:Value} {t:z8k},(∀b∈fp,∃o,(b,o)∈pp)->XP (Cx.pin' Xb pp) (CompX D (φ++[s2.heap.objs.size]) α1 H2 Z0) e t->
   NB e t:=λ{pp e t} hpp xp=>by
  have Fb:Frm (Cx.pin' Xb pp) e0 out L:=⟨by show Xb.stack=_;rw[hXb'.st];exact F.stk,F.f0,by show Xb.env.frame=_;rw[hXb'.en];exact ce⟩
  have hfr:X.A.frames=some (Cx.pin' Xb pp).stack:=by show _=some Xb.stack;rw[hXb'.st];exact I.ok.frames
  rw[hNB]
  unfold zeV
  rw[show zaR sc cl (s2.heap.objs.size+1) X.env=(Cx.pin' Xb pp).env from hXb'.en.symm]
  refine yq (X:=Cx.pin' Xb pp) Fb hfr xp λx cls d σe He T h' ee Ie ox oT tr w=>?_
  subst ee
  have en:(Cx.pin' Xb pp).env=zaR sc cl (s2.heap.objs.size+1) X.env:=hXb'.en
  rw[en]
  have Iu:Inv Xb pp σe He {t with heap:=h'}:=zW Ie
  have IX:=back Iu
  have nw:∀b,XOk (Cx.pin' Xb pp) He b->XOk X He b/\b≠s2.heap.objs.size+1:=λb o=>by
   have hb:b∉fp:=λz=>by
    obtain⟨ob,hm⟩:=hpp b z
    exact o.pin (b,ob) (z8s _ hm) rfl
   have h3:S3.heap.get? b=none:=by
    have:=o.new
    subst hXb
    exact this.resolve_left hb
   have q:=vH I3 h3
   refine⟨⟨o.free,q.loc,q.nfs,q.new,q.cel,q.pin⟩,?_⟩
   have:=o.loc
   have e2:(Cx.pin' Xb pp).env.locals=s2.heap.objs.size+1:=by rw[en];rfl
   rw[e2] at this;exact this
  have xoC:XOk X He (s2.heap.objs.size+1):=⟨by have:=Iu.free;rw[hXb'.en] at this;exact this,xo0.loc,xo0.nfs,xo0.new,xo0.cel,xo0.pin⟩
  obtain⟨m,hm,_⟩:=Iu.loc
  rw[hXb'.en] at hm
  refine⟨m,hm,λg sb=>?_⟩
  have sb':z99 (s2.heap.objs.size+1) h' g:=sb
  have Ig:Inv X [] σ He {t with heap:=g}:=(yu IX xoC pn3 sb').pins_of λp hp=>absurd hp (by simp)
  have tg':=tr.but sb' (nw x ox).2 (nw T oT).2
  unfold zfQ
  obtain⟨oe,vs',a0,oT',ts,ho,hcc,hd,hv0,hv1,hT,hoT,hdT,h3⟩:=id tg'
  refine z8g (z9W ho hd hv1 ?_)
  rw[if_neg (show ¬((z8J T == z9o)=true) from by simp)]
  have go:∀{t2:z8k},XP X W (.ref x) t2->z8t (z8u X.prog X.w) X.A (throw (z8J x):Sem Value) (λ_ _=>False) X.xe t2:=λ{t2} xp=>wpAny_throw (C.xe _ _ xp)
  have fin:z8t (z8u X.prog X.w) X.A (zcx (.ref x) (zaR sc cl (s2.heap.objs.size+1) X.env).frame) (λ_ t2=>XP X W (.ref x) t2) X.xe {t with heap:=g}:=by
   refine qP (s:={t with heap:=g}) Ig (nw x ox).1 (nw T oT).1 tg' λh4 I4 tr4=>?_
   obtain⟨c,fs',μ',α',Cc,z,stp,m',ad,rfl,xd⟩:=w
   refine⟨x,.ref Cc,d,σ,He,some T,z9g L,rfl,I4,(nw x ox).1,λt ht=>?_,?_,.inr ⟨L,F.fe,rfl⟩,?_⟩
   ·have:t=T:=by simpa using ht
    rw[this];exact (nw T oT).1
   ·rw[ce] at tr4;exact tr4
   ·refine hz0 c fs' μ' z α' He Cc d stp (m'.lk w_ (λa ha=>⟨rfl,λz=>m'.dis a ha (z8E _ z)⟩) λb hb=>m'.phi b (z8E _ hb)) ad (xd.lk w_)
  first
   |exact z8g (thn fin λ_ t2 xp=>go xp)
   |exact z8g (z8q (z8g (thn fin λ_ t2 xp=>go xp)))
 have loop:zaK (z8u X.prog X.w) X.A (.compLoop (.ListComp elt [⟨tg,iter,ifs,0⟩] sc pos) 0 (.ref it) (.ref s2.heap.objs.size) (zaR sc cl (s2.heap.objs.size+1) X.env)) (QS (z8u X.prog X.w) X.A X.xe use Qf (.ref s2.heap.objs.size) (zaR sc cl (s2.heap.objs.size+1) X.env)) {s2 with heap:=h₁,toks:=s2.toks+([]:List (Str×Value)).length}:=by
  obtain⟨LI,hLI⟩:∃LI:Nat->z8k->Prop,LI=CompI D Xb tn fp (φ++[s2.heap.objs.size]) α1 H2 s2.heap.objs.size (blk (za tg).length fs τ) xs (λi yT μ'=>Lv μ'/\z_ tgt (yo cs fe) Lv (blk (za tg).length fs τ) (xs.drop i) μ' (λrest μ2=>kk (yT++rest) μ2 K0 Z0) Z0):=⟨_,rfl⟩
  refine Xd LI ?_ xs.length ?_
  ·intro n s' h0
   rw[hLI] at h0
   obtain⟨i,σ',H',α',μ',yT,yV,rfl,hi',Iv,tni,fr,stp,mr',sr',hacc,dly,hyl,lv',hcmi⟩:=h0
   have okH:Ok (φ++[s2.heap.objs.size]) α' H':=okk _ α' H' μ' ((xu hD).trans stp.lk) mr' lv'
   by_cases hlt:i<xs.length
   ·have TI:=TnI i [] s' σ' H' (λ_ _=>False) Iv (fpk fr) tni (iv.go i _ _ H' okH (by omega))
    rw[hXb'.A] at TI
    refine thn TI ?_
    rintro r s4 ⟨u,rfl,h4⟩
    refine thn h4 ?_
    rintro _ s5 ⟨x,H5,I5,r5,y5,tn5,fr5⟩
    obtain⟨sm5,dx'⟩:=iv.yld i _ _ H' x H5 xs[i] okH (by simp[hlt]) y5
    have stp:=stp.trans (Stp.new (α:=α') sm5)
    have sr':=sr'.step (Stp.new (α:=α') sm5)
    have mr':=mr'.new sm5
    have hacc:=sm5 _ _ hacc
    have dly:=dly.step (Stp.new (α:=α') sm5)
    have hdr:xs.drop i=xs[i]::xs.drop (i+1):=za9 hlt
    rw[hdr] at hcmi
    obtain⟨τ',ha,hfe⟩:=hcmi
    have I5':=I5.pinned (fpk fr5) (Tn.obj _ _ tn5)
    have A6:=J9 (S:=za tg) (X:=Xb) hXb'.N ok.nd sto cm (λx h=>h) htg ha I5' sr' dx' r5
    rw[hXb'.pr,hXb'.w,hXb'.A,hXb'.en,show Xb.xe=λ_ _=>False by subst hXb;rfl] at A6
    refine thn A6 ?_
    rintro _ s6 ⟨σ6,I6,sr6⟩
    generalize hpp:([]++yL fp s5.heap:List (Addr×Obj))=pp at I6
    have hppm:∀b∈fp,∃o,(b,o)∈pp:=λb hb=>by
     obtain⟨o,e,_⟩:=Tn.obj _ _ tn5 b hb
     exact⟨o,by rw[←hpp];exact z8s _ (vM hb e)⟩
    generalize hW1:CompX D (φ++[s2.heap.objs.size]) α1 H2 Z0=W1
    have lv:∀e t,XP (Cx.pin' Xb pp) W1 e t->NB e t:=λe t xp=>by
     rw[←hW1] at xp;exact leave hppm xp
    have ck:Ck D W1 (inComp Γ tg sc) ((Cx.pin' Xb pp).wish (XP (Cx.pin' Xb pp) W1)) k:=by
     subst hXb
     exact z1K (W':=W1) (pn:=[]++pp) (xe:=XP (Cx.pin' (cxC X (za tg++frees sc) sc cl (s2.heap.objs.size+1) S3 H3 fp) pp) W1) C ok λe s p=>xr (X:=Cx.pin' (cxC X (za tg++frees sc) sc cl (s2.heap.objs.size+1) S3 H3 fp) pp) p
    have I6':Inv ((Cx.pin' Xb pp).wish (XP (Cx.pin' Xb pp) W1)) [] σ6 H5 s6:=(VB I6).wish _
    have next:∀{s7:z8k} {H7:Hp} {α7:List Addr} {μ7:Mem} {yT':List T} {yV':List V},Inv ((Cx.pin' Xb pp).wish (XP (Cx.pin' Xb pp) W1)) [] σ6 H7 s7->Stp α1 H2 α7 H7->MRel D (φ++[s2.heap.objs.size]) α7 H7 μ7->SRel D (φ++[s2.heap.objs.size]) α7 H7 τ' σ6->H7 s2.heap.objs.size=some (.lst yV')->DenL D (φ++[s2.heap.objs.size]) α7 H7 yT' yV'->yT'.length<=i+1->
      Lv μ7->z_ tgt (yo cs fe) Lv (blk (za tg).length fs τ) (xs.drop (i+1)) μ7 (λrest μ2=>kk (yT'++rest) μ2 K0 Z0) Z0->
      ∃m,m<xs.length-i/\LI m s7:=λ{s7 H7 α7 μ7 yT' yV'} I7 st7 m7 sr7 ac7 dy7 hy7 lv7 q7=>by
     have I7u:Inv Xb pp σ6 H7 s7:=zW I7.unwish
     have pinned:∀b∈fp,∃o,s5.heap.get? b=some o/\s7.heap.get? b=some o/\H7 b=none:=λb hb=>by
      obtain⟨o,e,_⟩:=Tn.obj _ _ tn5 b hb
      have:=I7u.pin (b,o) (z8s _ (by rw[←hpp];exact z8s _ (vM hb e)))
      exact⟨o,e,this.1,this.2.1⟩
     refine⟨xs.length-(i+1),by omega,?_⟩
     rw[hLI]
     refine⟨i+1,σ6,H7,α7,μ7,yT',yV',rfl,hlt,I7u.pins_of (λp hp=>absurd hp (by simp)),Tn.keep _ _ _ tn5 (λb hb o e=>?_),λb hb=>(pinned b hb).choose_spec.2.2,st7,m7,⟨?_,λj t e=>?_⟩,ac7,dy7,hy7,lv7,q7⟩
     ·obtain⟨o',e1,e2,_⟩:=pinned b hb
      rw[e] at e1;cases e1;exact e2
     ·have:=I7u.len
      rw[hXb'.N] at this
      rw[QI,this]
      simp[uZ,uv hfs]
     ·have hj:(za tg).length<=j:=by
       rcases zfP j (za tg).length with h|h
       ·rw[QI,z8p (by simpa using h),zaq] at e
        split at e<;>cases e
       ·exact h
      exact sr7.val j t (by rw[z0b htg ha j hj];exact e)
    have P0:Post D W1 (φ++[s2.heap.objs.size]) α' H5 σ6 (λ(o:Option T) μ7 α7 H7=>match o with
      |some y=>∀v,Den D (φ++[s2.heap.objs.size]) α7 H7 y v->Lv μ7/\z_ tgt (yo cs fe) Lv (blk (za tg).length fs τ) (xs.drop (i+1)) μ7 (λys μ2=>kk (yT++y::ys) μ2 K0 Z0) Z0
      |none=>Lv μ7/\z_ tgt (yo cs fe) Lv (blk (za tg).length fs τ) (xs.drop (i+1)) μ7 (λys μ2=>kk (yT++ys) μ2 K0 Z0) Z0) ((yo cs fe τ' μ').bind λo μ7=>RE.ok o μ7):=by
     refine⟨_,Z0,hfe,λo μ7 e α7 H7 st m=>?_,λc fs' μ7 z α7 H7 Cc d st m ad xd=>?_⟩
     ·cases o with
      |some y=>exact λv _=>e
      |none=>exact e
     ·rw[←hW1];exact⟨c,fs',μ7,α7,Cc,z,stp.trans st,m,ad,rfl,xd⟩
    have ep:((Cx.pin' Xb pp).wish (XP (Cx.pin' Xb pp) W1)).prog=X.prog:=hXb'.pr
    have ew:((Cx.pin' Xb pp).wish (XP (Cx.pin' Xb pp) W1)).w=X.w:=hXb'.w
    have eA:((Cx.pin' Xb pp).wish (XP (Cx.pin' Xb pp) W1)).A=X.A:=hXb'.A
    have ee:((Cx.pin' Xb pp).wish (XP (Cx.pin' Xb pp) W1)).env=zaR sc cl (s2.heap.objs.size+1) X.env:=hXb'.en
    have nD:s2.heap.objs.size∉α':=λz=>mr'.dis _ z (by simp)
    have G:=YX (X:=(Cx.pin' Xb pp).wish (XP (Cx.pin' Xb pp) W1)) (M:=z8u X.prog X.w) (A:=X.A) (Qf:=λb s₄=>if b=true then z8t (z8u X.prog X.w) X.A (eval elt (zaR sc cl (s2.heap.objs.size+1) X.env)) (λx s₅=>z8t (z8u X.prog X.w) X.A (call (.builtin "list.append") [.ref s2.heap.objs.size,x]) (λ_ s₆=>∃m,m<xs.length-i/\LI m s₆) (λ_ _=>False) s₅) NB s₄ else ∃m,m<xs.length-i/\LI m s₄) (hts _ W1 ck) I6' sr6 mr' P0 (λs7 H7 α7 μ7 I7 st7 sr7 m7 p7=>?_) (λs7 H7 α7 μ7 I7 st7 sr7 m7 p7=>?_)
    ·rw[ep,ew,eA,ee] at G
     rw[←hNB]
     exact xW (λe t h=>lv e t h) G
    ·rw[if_pos rfl]
     have E7:=sub (hel _ W1 ck) I7 sr7 m7 p7
     rw[ep,ew,eA,ee] at E7
     refine z8Y E7 (λx8 s8 h8=>?_) λe t h=>lv e t h
     obtain⟨v8,H8,y8,μ8,α8,I8,r8,st8,sr8,m8,d8,p8⟩:=h8
     have q8:=p8.ok (Stp.refl _ _) m8 v8 d8
     have acc8:H8 s2.heap.objs.size=some (.lst yV):=st8.keep _ _ (λz=>m7.dis _ z (by simp)) (st7.keep _ _ nD hacc)
     have hyv:yV.length<=i:=by rw[←dly.length];exact hyl
     have AP:=Qb (X:=Cx.pin' Xb pp) [] s8 σ6 H8 (.ref s2.heap.objs.size) [v8] (.ref s2.heap.objs.size) [x8] (λ_ H9=>H9=upd H8 s2.heap.objs.size (.lst (yV++[v8]))) I8.unwish rfl (.cons r8 .nil) ⟨_,yV,v8,rfl,rfl,acc8,zc1 hyv (z8w hlt (zB hroom)),rfl⟩
     rw[show (Cx.pin' Xb pp).prog=X.prog from hXb'.pr,show (Cx.pin' Xb pp).w=X.w from hXb'.w,show (Cx.pin' Xb pp).A=X.A from hXb'.A,show (Cx.pin' Xb pp).xe=λ_ _=>False by subst hXb;rfl] at AP
     refine thn AP ?_
     rintro x9 s9 ⟨v9,H9,I9,r9,rfl⟩
     have inphi:s2.heap.objs.size∈φ++[s2.heap.objs.size]:=by simp
     have t:=(stp.trans st7).trans st8
     have one:DenL D (φ++[s2.heap.objs.size]) α8 H8 [y8] [v8]:=⟨v8,[],rfl,d8,rfl⟩
     refine next (I9.wish _) ⟨t.ext,λb o n e=>?_,λb e=>t.live b ?_⟩ (m8.lk (uh inphi) (λa ha'=>⟨by rw[z9 (λz=>m8.dis a ha' (by rw[z];simp))],m8.dis a ha'⟩) (λb hb=>?_)) (sr8.lk (uh inphi)) z8 ((((dly.step st7).step st8).append one).lk (uh inphi)) (by simp;omega) q8.1 (by simpa using q8.2)
     ·rw[z9 (zV e hD)];exact t.keep b o n e
     ·by_cases hb:b=s2.heap.objs.size
      ·rw[hb,z8] at e;cases e
      ·rw[z9 hb] at e;exact e
     ·by_cases hb':b=s2.heap.objs.size
      ·rw[hb',z8];exact⟨_,rfl⟩
      ·rw[z9 hb'];exact m8.phi b hb
    ·rw[if_neg (by decide)]
     exact next I7 (stp.trans st7) m7 sr7 (st7.keep _ _ nD hacc) (dly.step st7) (by omega) (p7.ok (Stp.refl _ _) m7).1 (p7.ok (Stp.refl _ _) m7).2
   ·have hie:i=xs.length:=by omega
    have TD:=TnD i [] s' σ' H' (λ_ _=>False) Iv (fpk fr) tni (by rw[hie];exact iv.stop _ _ H' okH)
    rw[hXb'.A] at TD
    refine thn TD ?_
    rintro r s4 ⟨rfl,I4⟩
    have hdr:xs.drop i=[]:=by rw[hie];simp
    rw[hdr] at hcmi
    have q4:kk yT μ' K0 Z0:=by
     have:kk (yT++[]) μ' K0 Z0:=hcmi
     simpa using this
    have I5:=back I4
    obtain⟨m,hm,_⟩:=I4.loc
    rw[hXb'.en] at hm
    exact Kq s2.heap.objs.size (s2.heap.objs.size+1) s4 α1 H2 H' α' yT yV μ' I5 st1 stp hD nph nal (((sr.step st1).lk (xu hD)).step stp) mr' hacc dly ⟨K0,Z0,q4,hk0,hz0⟩ ⟨by have:=I4.free;rw[hXb'.en] at this;exact this,xo0.loc,xo0.nfs,xo0.new,xo0.cel,xo0.pin⟩ pn3 ⟨m,hm⟩
  ·have sm:xN H2 H3:=by rw[←hH3];exact zh hD
   rw[hLI]
   refine⟨0,_,_,α1,μ1,[],[],rfl,zac _,J0,Tn.keep _ _ _ tn0 λb hb o e=>old b o e,λb hb=>?_,Stp.new sm,?_,?_,by rw[←hH3];exact z8,rfl,z8n _,lv1,by simpa using q0⟩
   ·obtain⟨o,ho⟩:=fo b hb
    rw[←hH3,z9 (z8O (z8x ho))]
    exact (f2 b hb).1
   ·refine mr1.lk (V2 hD sm) (λa ha=>?_) λb hb=>?_
    ·have na:a≠s2.heap.objs.size:=λz=>nal (z▸ha)
     exact⟨by rw[←hH3];exact z9 na,λz=>(z8v.mp z).elim (mr1.dis a ha) λz=>na (z8l.mp z)⟩
    ·rcases z8v.mp hb with z|z
     ·obtain⟨o,e⟩:=mr1.phi b z
      exact⟨o,sm b o e⟩
     ·rw[z8l.mp z,←hH3,z8];exact⟨_,rfl⟩
   ·exact (z0Q (sr.step st1) hfs).lk (V2 hD sm)
 exact codeAny_compStart_list loop (z8Y (Tn.self _ 0 _ _ _ (Tn.keep _ _ _ tn0 λb hb o e=>old b o e) loop) (λ_ _ q=>q) λ_ _ q=>q)
end
section
variable {X:Cx}{D:DP}{W:XW}{Γ:Cn}{k:Nat}{pins:List (Addr×Obj)}{s:Shared}{σ:St}{H:Hp}{φ α:List Addr}{τ:Sl}{μ:Mem}{tg iter elt:Expr}{sc:Scope}{pos:Pos}{fi:Di}{fs:List Nat}{tgt:Tg}{ifs:List Expr}{cs:List Dt}{fe:De}
theorem Vz{β:Type}{R:β->Mem->List Addr->Hp->Prop}{kk:T->Mem->RE β}{acc:Addr}{α1 α':List Addr}{H1 H':Hp}{ys:List T}{vs:List V}{μ':Mem}(st:Stp α1 H1 α' H')(hn:H1 acc=none)(nph:acc∉φ)(mr:MRel D (φ++[acc]) α' H' μ')(ha:H' acc=some (.lst vs))(dl:DenL D (φ++[acc]) α' H' ys vs)(p:Post D W φ α1 H1 σ R (kk (.lst ys) μ')) :
  MRel D φ α' H' μ'/\Den D φ α' H' (.lst ys) (.ref acc)/\Post D W φ α' H' σ R (kk (.lst ys) μ'):=
 ⟨mr.lk w_ (λa ha=>⟨rfl,λz=>mr.dis a ha (z8E _ z)⟩) λb hb=>mr.phi b (z8E _ hb),⟨acc,vs,rfl,nph,λz=>mr.dis _ z (by simp),.inl ha,dl.lk w_⟩,p.step st⟩
theorem jL{acc:Addr}{α':List Addr}{H':Hp}:Lk (φ++[acc]) α' H' φ (α'++[acc]) H':=⟨λa o n1 n2 e=>⟨λz=>n1 (z8E _ z),λz=>(z8v.mp z).elim n2 λz=>n1 (by rw[z8l.mp z];simp),e⟩,λi a e=>by
 rw[z8p (z8h.mp e).1];exact e⟩
theorem ZJ{acc:Addr}{α1 α':List Addr}{H1 H':Hp}{ys:List T}{vs:List V}{μ':Mem}(st:Stp α1 H1 α' H')(hn:H1 acc=none)(nph:acc∉φ)(mr:MRel D (φ++[acc]) α' H' μ')(ha:H' acc=some (.lst vs))(dl:DenL D (φ++[acc]) α' H' ys vs) :
  Stp α1 H1 (α'++[acc]) H'/\MRel D φ (α'++[acc]) H' (μ'++[.lst ys])/\Den D φ (α'++[acc]) H' (.mut μ'.length) (.ref acc):=by
 have nal:acc∉α':=λz=>mr.dis _ z (by simp)
 refine⟨?_,⟨by simp[mr.len],?_,λb hb=>?_,λb hb=>mr.phi b (z8E _ hb),λi a o e1 e2=>?_⟩,acc,by rw[←mr.len,z8r (z8n _)];simp,rfl⟩
 ·obtain⟨β,e,hβ⟩:=st.ext
  exact⟨⟨β++[acc],by rw[e];simp,λb hb=>(z8v.mp hb).elim (hβ b) λz=>by rw[z8l.mp z];exact hn⟩,st.keep,st.live⟩
 ·rw[zbi]
  exact⟨mr.nd,by simp,λa ha b hb z=>nal (by rw[z8l.mp hb] at z;exact z▸ha)⟩
 ·rcases z8v.mp hb with h|h
  ·exact λz=>mr.dis b h (z8E _ z)
  ·rw[z8l.mp h];exact nph
 ·by_cases hi:i<α'.length
  ·rw[z8p hi] at e1
   rw[z8p (by rw[←mr.len];exact hi)] at e2
   exact (mr.ob i a o e1 e2).lk jL rfl
  ·have hl:=mr.len
   rw[z8r (by omega)] at e1 e2
   have hi':i-α'.length=0:=by
    by_cases z:i-α'.length=0
    ·exact z
    ·rw[zbo (by simp;omega)] at e1;cases e1
   have hi2:i-μ'.length=0:=by omega
   rw[hi'] at e1
   rw[hi2] at e2
   have e1:some acc=some a:=e1
   have e2:some (MO.lst ys)=some o:=e2
   cases e1;cases e2
   exact⟨vs,ha,dl.lk jL⟩
theorem Ky(C:Ck D W Γ X k)(hc:Γ.calm=true)(ok:CompOk Γ.N Γ.cel tg sc)(hfs:yk Γ.N (frees sc)=some fs)(htg:wG (za tg++frees sc) tg=some tgt)(hi:PI X tg iter (rdI D W fi))(hel:∀X' W',Ck D W' (inComp Γ tg sc) X' k->PE X' elt (rdE D W' fe))(hts:∀X' W',Ck D W' (inComp Γ tg sc) X' k->VF X' D W' ifs cs)(hs:∀x,z9s iter X.env x=pure x) :
  PE X (.ListComp elt [⟨tg,iter,ifs,0⟩] sc pos) (rdE D W (qY (za tg).length fs tgt fi cs fe)):=by
 rintro pins s σ H Q I ⟨φ,α,τ,μ,sr,mr,p⟩
 rw[eval_ListComp]
 refine xE (kk:=λys μ=>RE.ok (T.lst ys) μ) (use:=none) (Qf:=EP X pins σ Q) C hc ok hfs htg hi hel hts hs I sr mr p ?_
 rintro acc C0 s' α1 H1 H' α' ys vs μ' I' st1 st hn nph nal sr' m ha dl post xo hp ⟨mm,hm⟩
 obtain⟨m2,d,post⟩:=Vz (kk:=λt μ=>RE.ok t μ) st hn nph m ha dl post
 exact⟨mm,hm,λg sb=>⟨.ref acc,H',yu I' xo hp sb,rfl,post.here m2 d⟩⟩
theorem z0m(C:Ck D W Γ X k)(hc:Γ.calm=true)(ok:CompOk Γ.N Γ.cel tg sc)(hfs:yk Γ.N (frees sc)=some fs)(htg:wG (za tg++frees sc) tg=some tgt)(hi:PI X tg iter (rdI D W fi))(hel:∀X' W',Ck D W' (inComp Γ tg sc) X' k->PE X' elt (rdE D W' fe))(hts:∀X' W',Ck D W' (inComp Γ tg sc) X' k->VF X' D W' ifs cs)(hs:∀x,z9s iter X.env x=pure x) :
  PE X (.ListComp elt [⟨tg,iter,ifs,0⟩] sc pos) (rdE D W (xt (za tg).length fs tgt fi cs fe)):=by
 rintro pins s σ H Q I ⟨φ,α,τ,μ,sr,mr,p⟩
 rw[eval_ListComp]
 refine xE (kk:=λys μ=>RE.ok (T.mut μ.length) (μ++[MO.lst ys])) (use:=none) (Qf:=EP X pins σ Q) C hc ok hfs htg hi hel hts hs I sr mr p ?_
 rintro acc C0 s' α1 H1 H' α' ys vs μ' I' st1 st hn nph nal sr' m ha dl post xo hp ⟨mm,hm⟩
 obtain⟨st2,m2,d⟩:=ZJ st hn nph m ha dl
 exact⟨mm,hm,λg sb=>⟨.ref acc,H',yu I' xo hp sb,rfl,post.ok st2 m2 _ d⟩⟩
theorem qW{x:Str}{g:GM}(h:Γ.look x=g)(hg:g≠.bad):x∈Γ.G/\Γ.gl x=g:=by
 unfold Cn.look at h
 split at h
 ·rename_i hm
  exact⟨by simpa using hm,h⟩
 ·exact absurd h.symm hg
theorem Vw{iter:Expr}(h:wN iter=true):∀x,z9s iter X.env x=pure x:=by
 intro x
 cases iter<;>first|rfl|(simp[wN] at h)
end
structure PostH(D:DP)(W:XW)(φ α:List Addr)(H:Hp)(E:Ends)(Q:En):Prop where
 nx:∀τ μ,Q.nx τ μ->∀α' H' σ',Stp α H α' H'->MRel D φ α' H' μ->SRel D φ α' H' τ σ'->E.nx σ' H'
 bk:∀τ μ,Q.bk τ μ->∀α' H' σ',Stp α H α' H'->MRel D φ α' H' μ->SRel D φ α' H' τ σ'->E.bk σ' H'
 ct:∀τ μ,Q.ct τ μ->∀α' H' σ',Stp α H α' H'->MRel D φ α' H' μ->SRel D φ α' H' τ σ'->E.ct σ' H'
 rt:∀t μ,Q.rt t μ->∀α' H' v,Stp α H α' H'->MRel D φ α' H' μ->Den D φ α' H' t v->E.rt v H'
 ex:∀c fs τ μ,Q.ex c fs τ μ->∀α' H' σ' C d,Stp α H α' H'->MRel D φ α' H' μ->SRel D φ α' H' τ σ'->D.adr c=some C->XDict D φ α' H' fs d->W (.ref C) d σ' H'
inductive PostS(D:DP)(W:XW)(φ α:List Addr)(H:Hp)(E:Ends)(o:Out):Prop where
 |mk (Q:En) (q:o Q) (h:PostH D W φ α H E Q)
def rdS (D:DP)(W:XW)(f:Ds):TS:=λE σ H=>RdP D H σ λφ α τ μ=>PostS D W φ α H E (f τ μ)
structure Sk(D:DP)(W:XW)(Γ:Cn)(X:Cx)(k:Nat):Prop extends Ck D W Γ X k where
 sto:Sto X Γ.N
 lcl:∀x∈Γ.N,Γ.cel.contains x=false->X.env.scope.names.lookup x=some .local
 pso:zdf (z8u X.prog X.w) X.A X.env X.xe
 xmt:∀t x c,(x,c)∈Γ.cls->c<40->∀Ct Cc,D.adr t=some Ct->X.mg x=some (.ref Cc)->zdb X.K (.ref Ct) (.ref Cc)=some (vP t c)
section
variable {X:Cx}{D:DP}{W:XW}{Γ:Cn}{k:Nat}{pins:List (Addr×Obj)}{s:Shared}{σ:St}{H:Hp}{φ α:List Addr}{τ:Sl}{μ:Mem}{f g:De}{a b c e:Expr}{pos:Pos}{E:Ends}{u v:Ds}
theorem PostS.step{α':List Addr}{H':Hp}{o:Out}(p:PostS D W φ α H E o)(st:Stp α H α' H'):PostS D W φ α' H' E o:=by
 obtain⟨Q,q,h1,h2,h3,h4,h5⟩:=p
 exact⟨Q,q,λτ μ z α2 H2 σ2 s2=>h1 τ μ z α2 H2 σ2 (st.trans s2),λτ μ z α2 H2 σ2 s2=>h2 τ μ z α2 H2 σ2 (st.trans s2),λτ μ z α2 H2 σ2 s2=>h3 τ μ z α2 H2 σ2 (st.trans s2),λτ μ z α2 H2 σ2 s2=>h4 τ μ z α2 H2 σ2 (st.trans s2),λc fs τ μ z α2 H2 σ2 C d s2=>h5 c fs τ μ z α2 H2 σ2 C d (st.trans s2)⟩
theorem PostS.elim{C:Prop}(p:PostS D W φ α H E Out.st):C:=by obtain⟨_,q,_⟩:=p;exact q.elim
theorem PostS.nx{τ:Sl}{μ:Mem}(p:PostS D W φ α H E (.nx τ μ)){α':List Addr}{H':Hp}{σ':St}(s:Stp α H α' H')(m:MRel D φ α' H' μ)(r:SRel D φ α' H' τ σ'):E.nx σ' H':=by
 obtain⟨Q,q,h1,_⟩:=p
 exact h1 τ μ q α' H' σ' s m r
theorem PostS.rt{t:T}{μ:Mem}(p:PostS D W φ α H E (.rt t μ)){α':List Addr}{H':Hp}{v:V}(s:Stp α H α' H')(m:MRel D φ α' H' μ)(r:Den D φ α' H' t v):E.rt v H':=by
 obtain⟨Q,q,_,_,_,h,_⟩:=p
 exact h t μ q α' H' v s m r
theorem PostS.ex{c:Nat}{fs:List (Nat×T)}{τ:Sl}{μ:Mem}(p:PostS D W φ α H E (.ex c fs τ μ)){α':List Addr}{H':Hp}{σ':St}{C:Addr}{d:Option Addr}(s:Stp α H α' H')(m:MRel D φ α' H' μ)(r:SRel D φ α' H' τ σ')(ad:D.adr c=some C)(x:XDict D φ α' H' fs d):W (.ref C) d σ' H':=by
 obtain⟨Q,q,_,_,_,_,h⟩:=p
 exact h c fs τ μ q α' H' σ' C d s m r ad x
theorem PostS.grd{c:Prop}{o:Out}(p:PostS D W φ α H E (Out.grd c o)):c/\PostS D W φ α H E o:=by
 obtain⟨Q,q,h⟩:=p
 exact⟨q.1,Q,q.2,h⟩
theorem PostS.som{γ:Type}{o:Option γ}{k:γ->Out}(p:PostS D W φ α H E (Out.som o k)):∃a,o=some a/\PostS D W φ α H E (k a):=by
 obtain⟨Q,⟨a,e,q⟩,h⟩:=p
 exact⟨a,e,Q,q,h⟩
theorem PostS.br{b:Bool}{r s:Out}(p:PostS D W φ α H E (Out.br b r s)):(b=true/\PostS D W φ α H E r)\/(b=false/\PostS D W φ α H E s):=by
 obtain⟨Q,q,h⟩:=p
 cases b with
 |true=>exact .inl ⟨rfl,Q,q,h⟩
 |false=>exact .inr ⟨rfl,Q,q,h⟩
theorem PostS.ex2{δ1 δ2:Type}{P P2:δ1->δ2->Prop}{r:δ1->δ2->Out}(p:PostS D W φ α H E (λQ=>∃x y,P x y/\P2 x y/\r x y Q)):∃x y,P x y/\P2 x y/\PostS D W φ α H E (r x y):=by
 obtain⟨Q,⟨x,y,h1,h2,q⟩,h⟩:=p
 exact⟨x,y,h1,h2,Q,q,h⟩
theorem PostS.ex1{δ1:Type}{P P2:δ1->Prop}{r:δ1->Out}(p:PostS D W φ α H E (λQ=>∃x,P x/\P2 x/\r x Q)):∃x,P x/\P2 x/\PostS D W φ α H E (r x):=by
 obtain⟨Q,⟨x,h1,h2,q⟩,h⟩:=p
 exact⟨x,h1,h2,Q,q,h⟩
theorem PostS.out{β:Type}{r:RE β}{kk:β->Mem->Out}(sr:SRel D φ α H τ σ)(p:PostS D W φ α H E (r.out τ kk)):Post D W φ α H σ (λt μ' α' H'=>PostS D W φ α' H' E (kk t μ')) r:=by
 obtain⟨Q,q,h⟩:=p
 refine⟨_,_,q,λa μ' e α' H' st m=>PostS.step ⟨Q,e,h⟩ st,λc fs μ' e α' H' C d st m ad xd=>?_⟩
 exact h.ex c fs τ μ' e α' H' σ C d st m (sr.step st) ad xd
theorem z5s(ha:PE X a (rdE D W f)):PS X (.Return (some a) pos) (rdS D W (zt f)):=by
 rintro pins s σ H E I ⟨φ,α,τ,μ,sr,mr,p⟩
 refine z3G ha pins s σ H E I ⟨φ,α,τ,μ,sr,mr,(PostS.out sr p).mono λt μ' α' H' st m q v d=>PostS.rt q (Stp.refl _ _) m d⟩
theorem z2v:PS X (.Return none pos) (rdS D W UB):=by
 rintro pins s σ H E I ⟨φ,α,τ,μ,sr,mr,p⟩
 exact z1y pins s σ H E I (PostS.rt p (Stp.refl _ _) mr rfl)
theorem z1e(hs:zbq a none pos.line X.env=pure false)(ha:PE X a (rdE D W f)):PS X (.Expr a pos) (rdS D W (qb f)):=by
 rintro pins s σ H E I ⟨φ,α,τ,μ,sr,mr,p⟩
 refine Kv ha hs pins s σ H E I ⟨φ,α,τ,μ,sr,mr,(PostS.out sr p).mono λt μ' α' H' st m q v d=>PostS.nx q (Stp.refl _ _) m (sr.step st)⟩
theorem z2u:PSs X [] (rdS D W (zM [])):=by
 rintro pins s σ H E I ⟨φ,α,τ,μ,sr,mr,p⟩
 exact Kl pins s σ H E I (PostS.nx p (Stp.refl _ _) mr sr)
theorem YH{st:Stmt}{r:List Stmt}{fs:List Ds}(h1:PS X st (rdS D W u))(h2:PSs X r (rdS D W (zM fs))):PSs X (st::r) (rdS D W (zM (u::fs))):=by
 rintro pins s σ H E I ⟨φ,α,τ,μ,sr,mr,Q,q,h3,h4,h5,h6,h7⟩
 refine WO h1 h2 pins s σ H E I ⟨φ,α,τ,μ,sr,mr,_,q,λτ1 μ1 e α' H' σ' st m sr'=>?_,h4,h5,h6,h7⟩
 exact⟨φ,α',τ1,μ1,sr',m,PostS.step ⟨Q,e,h3,h4,h5,h6,h7⟩ st⟩
def Wh (X:Cx)(D:DP)(W:XW):List Stmt->List Ds->Prop
 |[],[]=>True
 |e::es,f::fs=>PS X e (rdS D W f)/\Wh X D W es fs
 |_,_=>False
theorem qT:∀{sts:List Stmt} {fs:List Ds},Wh X D W sts fs->PSs X sts (rdS D W (zM fs))
 |[],[],_=>z2u
 |st::r,f::fs,h=>YH h.1 (qT h.2)
 |[],_::_,h=>h.elim
 |_::_,[],h=>h.elim
theorem z6F{ft:Dt}{as bs:List Stmt}{us vs:List Ds}(hc:PT X c (rdT D W ft))(ha:Wh X D W as us)(hb:Wh X D W bs vs):PS X (.If c as bs pos) (rdS D W (sIf ft us vs)):=by
 rintro pins s σ H E I ⟨φ,α,τ,μ,sr,mr,p⟩
 refine z6Q hc (qT ha) (qT hb) pins s σ H E I ⟨φ,α,τ,μ,sr,mr,(PostS.out sr p).mono λb μ' α' H' st m q=>?_⟩
 rcases PostS.br q with⟨rfl,q⟩|⟨rfl,q⟩
 ·exact⟨φ,α',τ,μ',sr.step st,m,q⟩
 ·exact⟨φ,α',τ,μ',sr.step st,m,q⟩
theorem Uh(C:Sk D W Γ X k){x:Str}{i:Nat}{p0:Pos}(hi:idx Γ.N x=some i)(hs:zbq a (some (.Name x p0)) pos.line X.env=pure false)(ha:PE X a (rdE D W f)):PS X (.Assign [.Name x p0] a pos) (rdS D W (zj i f)):=by
 rintro pins s σ H E I ⟨φ,α,τ,μ,sr,mr,p⟩
 have hx:=w9 hi
 refine z5i (i:=i) (X:=X) (by rw[C.hN];exact C.nd) (by rw[C.hN];exact wJ hi) (C.sto x hx).1 ha hs (C.sto x hx).2 pins s σ H E I ⟨φ,α,τ,μ,sr,mr,(PostS.out sr p).mono λt μ' α' H' st m q v d=>?_⟩
 exact PostS.nx q (Stp.refl _ _) m ((sr.step st).set d)
theorem Wo{N:List Str}:∀{es:List Expr} {is:List Nat},idxs N es=some is->∀e∈es,∀x p,e=.Name x p->x∈N
 |[],_,_,e,he,_,_,_=>absurd he (by simp)
 |e0::es,is,h,e,he,x,p,hx=>by
  cases e0 with
  |Name y p0=>
   simp only[idxs] at h
   split at h
   ·rename_i i is' hi his
    rcases z8T.mp he with rfl|he
    ·cases hx;exact w9 hi
    ·exact Wo his e he x p hx
   ·cases h
  |_=>simp[idxs] at h
theorem Um{N:List Str}{e:Expr}{tgt:Tg}(h:wG N e=some tgt):∀x∈za e,x∈N:=by
 intro x hx
 cases e with
 |Name y p=>
  simp[za] at hx
  subst hx
  simp only[wG] at h
  cases q:idx N x with
  |none=>rw[q] at h;cases h
  |some i=>exact w9 q
 |Tuple es kk p=>
  obtain⟨e,he,q⟩:=zay.mp hx
  simp only[wG] at h
  cases q2:idxs N es with
  |none=>rw[q2] at h;cases h
  |some is=>
   cases e with
   |Name y p0=>
    have q:some y=some x:=q
    cases q
    exact Wo q2 _ he x p0 rfl
   |_=>cases q
 |_=>simp[za] at hx
theorem z32(C:Sk D W Γ X k)(hc:X.calm=true){tg:Expr}{tgt:Tg}(ht:wG Γ.N tg=some tgt):PG X tg (λv σ H Q=>∃φ α τ t τ',SRel D φ α H τ σ/\Den D φ α H t v/\asg tgt t τ=some τ'/\∀σ',SRel D φ α H τ' σ'->Q σ' H):=by
 rintro pins s σ H v u Q I r ⟨φ,α,τ,t,τ',sr,d,ha,q⟩
 refine thn (J9 (S:=Γ.N) C.hN C.nd C.sto hc (Um ht) ht ha I sr d r) ?_
 rintro _ s1 ⟨σ',I1,sr'⟩
 exact⟨σ',H,I1,q σ' sr'⟩
noncomputable def kB:Expr->Bool
 |.Call _ _ _ _=>true
 |.Name _ _=>true
 |.Subscript _ _ _=>true
 |.Attribute _ _ _=>true
 |_=>false
theorem z5w(C:Sk D W Γ X k)(hc:Γ.calm=true){es:List Expr}{is:List Nat}{kk:Nat}{p0:Pos}(hp:kB a=true)(hn:idxs Γ.N es=some is)(ha:PE X a (rdE D W f)):PS X (.Assign [.Tuple es kk p0] a pos) (rdS D W (jh is f)):=by
 rintro pins s σ H E I ⟨φ,α,τ,μ,sr,mr,p⟩
 have h1:zch [.Tuple es kk p0] a pos.line X.env=pure false:=by cases a<;>first|(simp[kB] at hp;done)|rfl
 have h2:zci [.Tuple es kk p0] a X.env=pure none:=by cases a<;>first|(simp[kB] at hp;done)|rfl
 refine Jb ha (z32 C (C.clm hc) (tg:=.Tuple es kk p0) (tgt:=.tup is) (by simp[wG,hn])) h1 h2 rfl pins s σ H E I ⟨φ,α,τ,μ,sr,mr,(PostS.out sr p).mono λt μ' α' H' st m q v d=>?_⟩
 obtain⟨τ',h,q⟩:=PostS.som q
 exact⟨φ,α',τ,t,τ',sr.step st,d,h,λσ' sr'=>PostS.nx q (Stp.refl _ _) m sr'⟩
theorem z4C(C:Sk D W Γ X k){o:Expr}{x:Str}{n:Nat}{p1:Pos}{go:De}(hn:(x,n)∈Γ.fld)(ha:PE X a (rdE D W f))(ho:PE X o (rdE D W go)) :
  PS X (.Assign [.Attribute o x p1] a pos) (rdS D W (qw go n f)):=by
 rintro pins s σ H E I ⟨φ,α,τ,μ,sr,mr,p⟩
 have hs:zbq a (some (.Attribute o x p1)) pos.line X.env=pure false:=by cases a<;>rfl
 refine z6b ho ha hs pins s σ H E I ⟨φ,α,τ,μ,sr,mr,(PostS.out sr p).mono λt μ1 α1 H1 st1 m1 q v d=>?_⟩
 have sr1:=sr.step st1
 refine⟨φ,α1,τ,μ1,sr1,m1,(PostS.out sr1 q).mono λot μ2 α2 H2 st2 m2 q2 ov dv=>?_⟩
 split at q2
 case h_2=>exact PostS.elim q2
 rename_i i
 obtain⟨c,fs,hμ,hl,q2⟩:=PostS.ex2 q2
 obtain⟨y,hx,rfl⟩:=dv
 obtain⟨C0,dx,gs,ad,hH,df⟩:=m2.ob i y _ hx hμ
 obtain⟨fx,cl,na⟩:=C.fld c C0 x n ad hn
 refine⟨y,C0,dx,gs,rfl,hH,cl,na,by rw[←df.length];omega,?_⟩
 have st3:Stp α2 H2 α2 (upd H2 y (.ins C0 dx (va x v gs))):=Stp.turn (z8F hx) ⟨_,hH⟩
 have hi:i<μ2.length:=(z8h.mp hμ).1
 exact PostS.nx q2 st3 (m2.turn hx hi st3 ⟨C0,dx,_,ad,z8,DenF.put fx (df.step st3) ((d.step st2).step st3)⟩) ((sr1.step st2).step st3)
theorem set_list:z5z X (λo i v H Q=>∃l k xs,o=.ref l/\i=.int k/\H l=some (.lst xs)/\0<=k/\k<xs.length/\k<9223372036854775808/\Q (upd H l (.lst (xs.set k.toNat v)))):=by
 intro pins s σ H o i v ov iv u Q I ro ri rv h
 obtain⟨l,k,xs,rfl,rfl,hH,h0,h1,h2,q⟩:=h
 cases ro
 obtain⟨t,rfl⟩:=ri
 obtain⟨z,its,n,r,hl,e⟩:=I.lstM hH
 refine PySem.W.ki_setAt (n:=n) (items:=its.toArray) e h0 (by simpa using h2) (by rw[z8A,←hl];exact h1) ?_
 exact⟨_,I.lset (t':=s.toks) (ys:=xs.set k.toNat v) (its':=its.set k.toNat u) (f:=λa=>a.setIfInBounds k.toNat u) hH e (by simp) (Vals.set rv _ r) (by rw[List.length_set];exact z),q⟩
theorem z3W(C:Sk D W Γ X k){o:Expr}{p1:Pos}{fo fb:De}(hb':qJ b=true)(ha:PE X a (rdE D W f))(ho:PE X o (rdE D W fo))(hb:PE X b (rdE D W fb)) :
  PS X (.Assign [.Subscript o b p1] a pos) (rdS D W (z6E fo fb f)):=by
 rintro pins s σ H E I ⟨φ,α,τ,μ,sr,mr,p⟩
 have h1:zch [.Subscript o b p1] a pos.line X.env=pure false:=by cases a<;>rfl
 have h2:zci [.Subscript o b p1] a X.env=pure none:=by cases a<;>rfl
 refine Jb ha (z0d ho hb set_list (λv=>by cases b<;>first|(simp[qJ] at hb';done)|rfl)) h1 h2 rfl pins s σ H E I ⟨φ,α,τ,μ,sr,mr,(PostS.out sr p).mono λt μ1 α1 H1 st1 m1 q v d=>?_⟩
 have sr1:=sr.step st1
 refine⟨φ,α1,τ,μ1,sr1,m1,(PostS.out sr1 q).mono λot μ2 α2 H2 st2 m2 q2 ov dv=>?_⟩
 have sr2:=sr1.step st2
 refine⟨φ,α2,τ,μ2,sr2,m2,(PostS.out sr2 q2).mono λit μ3 α3 H3 st3 m3 q3 iv di=>?_⟩
 have d3:=(d.step st2).step st3
 split at q3
 case h_2=>exact PostS.elim q3
 rename_i i kk
 have dv:=dv.step st3
 obtain⟨ts,hμ,hk,q3⟩:=PostS.ex1 q3
 obtain⟨x,hx,rfl⟩:=dv
 have di:iv=.int kk:=di
 subst di
 obtain⟨xs,hH,l⟩:=m3.ob i x _ hx hμ
 have st4:Stp α3 H3 α3 (upd H3 x (.lst (xs.set kk.toNat v))):=Stp.turn (z8F hx) ⟨_,hH⟩
 have hi:i<μ3.length:=(z8h.mp hμ).1
 exact⟨x,kk,xs,rfl,rfl,hH,hk.1,by rw[←l.length];exact hk.2.1,hk.2.2,PostS.nx q3 st4 (m3.turn hx hi st4 ⟨_,z8,DenL.set (l.step st4) (d3.step st4)⟩) ((sr2.step st3).step st4)⟩
theorem z3a(C:Sk D W Γ X k)(hc:Γ.calm=true){tg iter:Expr}{tgt:Tg}(ht:wG Γ.N tg=some tgt){fi:Di}{body:List Stmt}{vs:List Ds}(hi:PI X tg iter (rdI D W fi))(hb:Wh X D W body vs)(hs:∀x,z9s iter X.env x=pure x) :
  PS X (.For tg iter body [] pos) (rdS D W (QR tgt fi vs)):=by
 rintro pins s σ H E I ⟨φ,α,τ,μ,sr,mr,p⟩
 refine z3p C.pso (C.clm hc) hi (z32 C (C.clm hc) ht) (qT hb) hs pins s σ H E I ⟨φ,α,τ,μ,sr,mr,(PostS.out sr (show PostS D W φ α H E ((fi τ μ).re.out τ λpr μ1=>forM tgt (zM vs) pr.2 pr.1 τ μ1) from p)).mono λpr μ1 α1 H1 st1 m1 q J Ok iv okk lv1=>?_⟩
 obtain⟨xs,o⟩:=pr
 obtain⟨Q,q,h1,h2,h3,h4,h5⟩:=q
 refine⟨λi m σ' H'=>m=xs.length-i/\i<=xs.length/\∃α' τ' μ',Stp α1 H1 α' H'/\MRel D φ α' H' μ'/\SRel D φ α' H' τ' σ'/\o μ'/\forM tgt (zM vs) o (xs.drop i) τ' μ' Q,⟨xs.length,by simp,zac _,α1,τ,μ1,Stp.refl _ _,m1,sr.step st1,lv1,by simpa using q⟩,?_⟩
 rintro i m σ' H' ⟨rfl,hi',α',τ',μ',stp,mr',sr',lv',pf⟩
 have okH:Ok φ α' H':=okk _ α' H' μ' stp.lk mr' lv'
 by_cases hlt:i<xs.length
 ·refine .inr ⟨iv.go i _ _ H' okH hlt,λσ2 H2=>∃α2 τ2 μ2,Stp α1 H1 α2 H2/\MRel D φ α2 H2 μ2/\SRel D φ α2 H2 τ2 σ2/\o μ2/\forM tgt (zM vs) o (xs.drop (i+1)) τ2 μ2 Q,λσ2 H2 h2=>⟨xs.length-(i+1),by omega,rfl,hlt,h2⟩,λx H2 y=>?_⟩
  obtain⟨sm,dx⟩:=iv.yld i _ _ H' x H2 xs[i] okH (by simp[hlt]) y
  have stp:=stp.trans (Stp.new (α:=α') sm)
  have sr':=sr'.step (Stp.new (α:=α') sm)
  have mr':=mr'.new sm
  rw[za9 hlt] at pf
  obtain⟨τ3,ha,pf⟩:=pf
  refine⟨φ,α',τ',xs[i],τ3,sr',dx,ha,λσ3 sr3=>⟨φ,α',τ3,μ',sr3,mr',_,pf,?_,?_,?_,?_,?_⟩⟩
  ·exact λτ4 μ4 e α4 H4 σ4 st4 m4 sr4=>⟨α4,τ4,μ4,stp.trans st4,m4,sr4,e⟩
  ·exact λτ4 μ4 e α4 H4 σ4 st4 m4 sr4=>h1 τ4 μ4 e α4 H4 σ4 (stp.trans st4) m4 sr4
  ·exact λτ4 μ4 e α4 H4 σ4 st4 m4 sr4=>⟨α4,τ4,μ4,stp.trans st4,m4,sr4,e⟩
  ·exact λt μ4 e α4 H4 v st4 m4 d4=>h4 t μ4 e α4 H4 v (stp.trans st4) m4 d4
  ·exact λc fs τ4 μ4 e α4 H4 σ4 Cc d st4 m4 sr4=>h5 c fs τ4 μ4 e α4 H4 σ4 Cc d (stp.trans st4) m4 sr4
 ·have hie:i=xs.length:=by omega
  rw[hie,zcD] at pf
  exact .inl ⟨by rw[hie];exact iv.stop _ _ H' okH,h1 τ' μ' pf α' H' σ' stp mr' sr'⟩
theorem Ul(C:Sk D W Γ X k){ft:Dt}{body:List Stmt}{vs:List Ds}(hc:PT X c (rdT D W ft))(hb:Wh X D W body vs):PS X (.While c body [] pos) (rdS D W (Wb ft vs)):=by
 rintro pins s σ H E I ⟨φ,α,τ,μ,sr,mr,Q,⟨J,⟨N,hN⟩,hJ⟩,h1,h2,h3,h4,h5⟩
 refine z0e C.pso hc (qT hb) pins s σ H E I ?_
 refine⟨λm σ' H'=>∃α' τ' μ',Stp α H α' H'/\MRel D φ α' H' μ'/\SRel D φ α' H' τ' σ'/\J m τ' μ',⟨N,α,τ,μ,Stp.refl _ _,mr,sr,hN⟩,?_⟩
 rintro m σ' H' ⟨α',τ',μ',stp,mr',sr',pf⟩
 refine⟨φ,α',τ',μ',sr',mr',_,_,hJ m τ' μ' pf,λb μ1 e α2 H2 st2 m2=>?_,λc fs μ1 e α2 H2 Cc d st2 m2 ad xd=>h5 c fs τ' μ1 e α2 H2 σ' Cc d (stp.trans st2) m2 (sr'.step st2) ad xd⟩
 cases b with
 |false=>exact h1 τ' μ1 e α2 H2 σ' (stp.trans st2) m2 (sr'.step st2)
 |true=>
  rw[if_pos rfl]
  have t2:=stp.trans st2
  refine⟨λσ4 H4=>∃j,j<m/\∃α4 τ4 μ4,Stp α H α4 H4/\MRel D φ α4 H4 μ4/\SRel D φ α4 H4 τ4 σ4/\J j τ4 μ4,λσ4 H4 h4=>h4,φ,α2,τ',μ1,sr'.step st2,m2,_,e,?_,?_,?_,?_,?_⟩
  ·exact λτ4 μ4 ⟨j,hj,q⟩ α4 H4 σ4 st4 m4 sr4=>⟨j,hj,α4,τ4,μ4,t2.trans st4,m4,sr4,q⟩
  ·exact λτ4 μ4 e α4 H4 σ4 st4 m4 sr4=>h1 τ4 μ4 e α4 H4 σ4 (t2.trans st4) m4 sr4
  ·exact λτ4 μ4 ⟨j,hj,q⟩ α4 H4 σ4 st4 m4 sr4=>⟨j,hj,α4,τ4,μ4,t2.trans st4,m4,sr4,q⟩
  ·exact λt μ4 e α4 H4 v st4 m4 d4=>h4 t μ4 e α4 H4 v (t2.trans st4) m4 d4
  ·exact λc fs τ4 μ4 e α4 H4 σ4 Cc d st4 m4 sr4=>h5 c fs τ4 μ4 e α4 H4 σ4 Cc d (t2.trans st4) m4 sr4
theorem z1o(C:Sk D W Γ X k)(hc:Γ.calm=true){tg iter elt:Expr}{sc:Scope}{fi:Di}{fs:List Nat}{tgt:Tg}{ifs:List Expr}{cs:List Dt}{fe:De}{x:Str}{ix:Nat}{p0 p1:Pos}(hix:idx Γ.N x=some ix)(ok:CompOk Γ.N Γ.cel tg sc)(hfs:yk Γ.N (frees sc)=some fs)(htg:wG (za tg++frees sc) tg=some tgt)(hi:PI X tg iter (rdI D W fi))(hel:∀X' W',Ck D W' (inComp Γ tg sc) X' k->PE X' elt (rdE D W' fe))(hts:∀X' W',Ck D W' (inComp Γ tg sc) X' k->VF X' D W' ifs cs)(hs:∀x,z9s iter X.env x=pure x)
  (own:Bool) (hsw:zbq (.ListComp elt [⟨tg,iter,ifs,0⟩] sc p1) (some (.Name x p0)) pos.line X.env=pure true) :
  PS X (.Assign [.Name x p0] (.ListComp elt [⟨tg,iter,ifs,0⟩] sc p1) pos) (rdS D W (zj ix (match own with|true=>xt (za tg).length fs tgt fi cs fe|false=>qY (za tg).length fs tgt fi cs fe))):=by
 rintro pins s σ H E I ⟨φ,α,τ,μ,sr,mr,p⟩
 rw[exec_Assign_Name_used _ _ _ _ hsw]
 refine z8g (z9k (z8g ?_))
 show z8t _ _ (do let _ ←zcl (.ListComp elt [⟨tg,iter,ifs,0⟩] sc p1) sc X.env _ (newList []) false (eval iter X.env) (some (zcg (.Name x p0) X.env))) _ _ s
 refine z8g (thn (xE (kk:=λys μ=>match own with|true=>RE.ok (T.mut μ.length) (μ++[MO.lst ys])|false=>RE.ok (T.lst ys) μ) (use:=some (zcg (.Name x p0) X.env)) (Qf:=λ_ s'=>∃σ' H',Inv X pins σ' H' s'/\E.nx σ' H') C.toCk hc ok hfs htg hi hel hts hs I sr mr (PostS.out sr (by cases own<;>exact p)) ?_) λ_ s' hq=>z8q (z8q hq))
 rintro acc C0 s' α1 H1 H' α' ys vs μ' I' st1 st hn nph nal sr' m ha dl post xo hp ⟨mm,hm⟩
 have hx:=w9 hix
 obtain⟨oc,es,ep,hoc,hdc,hrest⟩:=hm
 have I2:Inv X (pins++[(C0,oc)]) σ H' s':=I'.pins_of λp hp'=>(z8v.mp hp').elim (λz=>I'.pin p (z8s _ z)) λz=>by
  rw[z8l.mp z]
  exact⟨hoc,xo.free,xo.loc,xo.nfs,λv e=>by rw[hdc] at e;cases e⟩
 have fin:∀{α'':List Addr} {t:T} {μ2:Mem},SRel D φ α'' H' τ σ->Den D φ α'' H' t (.ref acc)->(∀σ',SRel D φ α'' H' (jX τ ix (some t)) σ'->E.nx σ' H')->z8t (z8u X.prog X.w) X.A (zcg (.Name x p0) X.env (.ref acc)) (λ_ t2=>∃m,t2.heap.Ns C0 m/\∀g,z99 C0 t2.heap g->∃σ' H',Inv X pins σ' H' {t2 with heap:=g}/\E.nx σ' H') X.xe s':=λ{α'' t μ2} sr2 d q=>by
  refine thn (J9 (e:=.Name x p0) (S:=Γ.N) (tgt:=.one ix) (t:=t) (τ:=τ) C.hN C.nd C.sto (C.clm hc) (λy hy=>by simp[za] at hy;rw[hy];exact hx) (by simp[wG,hix]) rfl I2 sr2 d (show RelV (.ref acc) (.ref acc) from rfl)) ?_
  rintro _ s2 ⟨σ',I3,sr3⟩
  have hpin:=(I3.pin (C0,oc) (z8s _ (z8s _ (z8l.mpr rfl)))).1
  refine⟨mm,⟨oc,es,ep,hpin,hdc,hrest⟩,λg sb=>⟨σ',H',?_,q σ' sr3⟩⟩
  exact yu (I3.pins_of λp hp'=>I3.pin p (z8s _ (z8E _ hp'))) xo hp sb
 cases own with
 |false=>
  obtain⟨m2,d,post⟩:=Vz (kk:=λt μ=>RE.ok t μ) st hn nph m ha dl post
  exact fin (μ2:=μ') (sr'.lk w_) d λσ' sr3=>PostS.nx (post.ok (Stp.refl _ _) m2) (Stp.refl _ _) m2 sr3
 |true=>
  obtain⟨st2,m2,d⟩:=ZJ st hn nph m ha dl
  exact fin (μ2:=μ') (sr'.lk jL) d λσ' sr3=>PostS.nx (post.ok st2 m2) (Stp.refl _ _) m2 sr3
end
def z6w(C:Addr)(h:Heap):Prop:=∃tl N nm q bs hd sn sub ab col dd k0 k1 k2 k3 k5 mN,h.get? C=some (zag nm q C N bs tl hd sn sub ab col dd k0 k1 k2 k3 k5 "ValueError.__new__")/\h.Ns N mN/\mN "__init__"=none/\zdh h zT tl
theorem V7 {K:z8o} {h:Heap} {C:Addr} (kin:K.In h) (e:za_ K C zT "ValueError.__new__"=true):z6w C h:=by
 simp only[za_] at e
 revert e
 cases hk:K.lookup C with
 |none=>intro e;cases e
 |some o=>
  intro e
  split at e
  case h_2=>cases e
  rename_i dd cd sl ho
  cases ho
  split at e
  case h_2=>cases e
  rename_i C' tl k0 k1 k2 k3 n k5 hm hs
  simp only[z8j,beq_iff_eq,z9O] at e
  obtain⟨⟨⟨⟨⟨e1,e2⟩,e3⟩,e4⟩,e5⟩,e6⟩:=e
  cases cd
  rename_i nm bs mro ns qn hd sn sub ab col del
  simp only at hm e3 e5 e6
  cases e1;cases e2;cases hm;cases e3
  have hsl:sl=#[k0,k1,k2,k3,some (.builtin "ValueError.__new__"),k5]:=by
   cases sl;simp only at hs;rw[hs]
  cases hsl
  exact⟨tl,ns,nm,qn,bs,hd,sn,sub,ab,col,dd,k0,k1,k2,k3,k5,h.nsMap ns,kin _ _ hk,.of_isNs (zc2 kin e5),PySem.W.nsMap_none_of_in kin e5 e6,PySem.W.tail_of_in kin e4⟩
section
variable {X:Cx}{pins:List (Addr×Obj)}{s:Shared}{σ:St}{H:Hp}
theorem XM{i:Nat}{x:Str}{m:Str->Option Value}{h':Heap}{u:Option Value}{tk:Nat}(I:Inv X pins σ H s)(hN:X.N.Nodup)(hi:X.N[i]?=some x)
  (hm:∀(i:Nat) (x:Str) (v:V),X.N[i]?=some x->σ[i]?=some (some v)->Vis X.env.scope x->∃u,RelV v u/\Look X.env s.heap m x u)
  (hn:h'.Ns X.env.locals λy=>if y=x then u else m y) (hs:z99 X.env.locals s.heap h'):Inv X pins (σ.set i none) H {s with heap:=h',toks:=tk}:=by
 have cne:=I.cne
 have low:∀b o,X.s₀.heap.get? b=some o->b≠X.env.locals:=λb o e=>z8O (z8w (z8x e) I.ok.above)
 refine⟨I.ok,I.os,I.bare,⟨λb o e n hb hx=>?_,λb o e n hb hx=>?_,I.base.free,λb o e hx=>?_,I.base.tups,I.base.frzs,I.base.tbls⟩,⟨_,hn,λj y v e1 e2 e3=>?_⟩,λy c e=>?_,I.free,I.freeC,λp hp=>?_,λb ob e=>?_,by simpa using I.len⟩
 ·exact (hs.2 b (low b o e)).trans (I.base.keep b o e n hb hx)
 ·obtain⟨sl,e1⟩:=I.base.slot b o e n hb hx
  exact⟨sl,(hs.2 b (low b o e)).trans e1⟩
 ·obtain⟨o',e1⟩:=I.base.there b o e hx
  exact⟨o',(hs.2 b (low b o e)).trans e1⟩
 ·by_cases hj:j=i
  ·subst hj
   rw[zbb] at e2
   cases q:σ[j]? with
   |none=>rw[q] at e2;cases e2
   |some w=>rw[q] at e2;cases e2
  ·rw[z8S (z9r hj)] at e2
   obtain⟨w,r,q⟩:=hm j y v e1 e2 e3
   refine⟨w,r,?_⟩
   rcases q with⟨k,e⟩|⟨k,c,e,z⟩
   ·have:y≠x:=λz=>hj (kg hN e1 (by rw[z];exact hi))
    exact .inl ⟨k,by simp[this,e]⟩
   ·exact .inr ⟨k,c,e,z.sameBut hs (cne y c e)⟩
 ·obtain⟨w,z⟩:=I.cell y c e
  exact⟨w,z.sameBut hs (cne y c e)⟩
 ·obtain⟨e,n,ne,nf,d⟩:=I.pin p hp
  exact⟨(hs.2 p.1 ne).trans e,n,ne,nf,d⟩
 ·refine (I.hok b ob e).stay (λc w hc q=>(hs.2 c ?_).trans q) (λ_ q=>q) λ_ _ q=>q
  rintro rfl
  rcases hc with rfl|hc
  ·rw[I.free] at e;cases e
  ·rw[I.free] at hc;cases hc
theorem XU{x C:Addr}{d:Option Addr}(I:Inv X pins σ H s)(ox:XOk X H x)(hp:∀p∈pins,p.1≠x)(hx:XcAt x C d s.heap):Inv X pins σ (upd H x (.ext (XcAt x C d))) s:=by
 have ne:∀b,H b≠none->b≠x:=λb h z=>h (by rw[z];exact ox.free)
 refine⟨I.ok,I.os,I.bare,⟨I.base.keep,I.base.slot,λb o e n hx'=>?_,I.base.there,λb xs e=>?_,λb o u e=>?_,λb ps e=>?_⟩,I.loc,I.cell,?_,λy c e=>?_,λp hp'=>?_,λb ob e=>?_,I.len⟩
 ·have:b≠x:=λz=>by
   rcases ox.new with q|q
   ·exact hx' (by rw[z];exact q)
   ·rw[←z,e] at q;cases q
  rw[z9 this];exact I.base.free b o e n hx'
 ·have q:=I.base.tups b xs e
  rw[z9 (ne b (by rw[q];simp))];exact q
 ·have q:=I.base.frzs b o u e
  rw[z9 (ne b (by rw[q];simp))];exact q
 ·obtain⟨more,q⟩:=I.base.tbls b ps e
  exact⟨more,by rw[z9 (ne b (by rw[q];simp))];exact q⟩
 ·rw[z9 (z9r ox.loc)];exact I.free
 ·rw[z9 (ox.cel y c e)];exact I.freeC y c e
 ·obtain⟨e,n,r⟩:=I.pin p hp'
  have:p.1≠x:=(z8v.mp hp').elim (ox.pin p) (hp p)
  exact⟨e,by rw[z9 this];exact n,r⟩
 ·by_cases z:b=x
  ·subst z
   rw[z8] at e
   cases e
   obtain⟨oe,vs,h1,h2⟩:=id hx
   refine⟨hx,⟨oe,h1⟩,λg1 g2 p k=>?_⟩
   obtain⟨oe',vs',h1',h2'⟩:=p
   exact⟨oe',vs',k _ h1',h2'⟩
  ·rw[z9 z] at e
   have sm:∀c o,H c=some o->upd H x (.ext (XcAt x C d)) c=some o:=λc o q=>by rw[z9 (ne c (by rw[q];simp))];exact q
   exact (I.hok b ob e).stay (λ_ _ _ q=>q) (λc q=>sm c _ q) λc xs q=>sm c _ q
end
section
variable {X:Cx}{D:DP}{W:XW}{Γ:Cn}{k:Nat}{pins:List (Addr×Obj)}{s:Shared}{σ:St}{H:Hp}{φ α:List Addr}{τ:Sl}{μ:Mem}{a b c e:Expr}{pos:Pos}{E:Ends}{es:List Expr}{fs:List De}
theorem UE(C:Sk D W Γ X k)(hc:Γ.calm=true){x:Str}{n:Nat}{p0 p1:Pos}(hx:x∈Γ.G)(hg:Γ.gl x=.xcl n)(ha:EsOk X D W (a::es) fs) :
  PS X (.Raise (some (.Call (.Name x p0) (a::es) [] p1)) none pos) (rdS D W (zQ n fs)):=by
 rintro pins s σ H E I ⟨φ,α,τ,μ,sr,mr,p⟩
 have q:=C.glo x hx
 rw[hg] at q
 obtain⟨C0,ad,hm,hex⟩:=q
 have hs:=ha.stars
 obtain⟨tl,N,nm,qn,bs,hd,sn,sub,ab,col,dd,k0,k1,k2,k3,k5,mN,o1,o2,o3,o4⟩:=V7 I.ok.mod.kin hex
 have hb:tl.contains (.type "BaseException")=true:=o4.hasType z9x.hasBase
 have hp:(zaw p1 (z96 (a::es) X.env)).any (·.1)=false:=zX hs
 refine wpAny_Raise_call_subT (nm:=nm) (q:=qn) (C:=C0) (N:=N) (bs:=bs) (bm:=tl) (hdct:=hd) (sn:=sn) (sub:=sub) (ab:=ab) (col:=col) (dd:=dd) (k0:=k0) (k1:=k1) (k2:=k2) (k3:=k3) (k5:=k5) (mN:=mN) z9x hb (I.ok.hd (C.clm hc)) hp o3 ?_
 refine qS I (C.glb x hx) hm ⟨rfl,?_⟩ (C.dbG x hx)
 have hs1:noStar a=true:=by simp only[z9e,z8j] at hs;exact hs.1
 have sA:=thn (wx ha p1 pins s σ H (λvs H1=>∃ts μ1 α1,Stp α H α1 H1/\SRel D φ α1 H1 τ σ/\MRel D φ α1 H1 μ1/\DenL D φ α1 H1 ts vs/\PostS D W φ α1 H1 E (.grd (ts.length<=room) (.ex n [] τ μ1))) I ⟨φ,α,τ,μ,sr,mr,(PostS.out sr p).mono λts μ' α' H' st m q vs d _=>⟨ts,μ',α',st,sr.step st,m,d,q⟩⟩) (Q':=λus s1=>us.length<=sizeLine/\s1.heap.get? C0=some (zag nm qn C0 N bs tl hd sn sub ab col dd k0 k1 k2 k3 k5 "ValueError.__new__")/\s1.heap.Ns N mN/\zdh s1.heap zT tl/\∀h' e,zbg s1.heap h' e (.ref C0) us->X.xe (.ref e) {s1 with heap:=h'}) ?_
 ·rw[z6 hs1] at sA ⊢
  exact zaP (thn sA λus s1 h1=>⟨rfl,h1⟩)
 ·rintro us s1 ⟨vs,H1,I1,r,ts,μ1,α1,st,sr1,m1,dl,q⟩
  obtain⟨hl,q⟩:=PostS.grd q
  refine⟨?_,I1.bk _ _ o1,o2.keeps I1.bk,o4.keeps I1.bk,λh' e mk=>?_⟩
  ·have e1:=dl.length
   have e2:=r.length
   have:=zB hl
   rw[←e2,←e1]
   exact this
  ·exact C.xe _ _ (z1M I1 mk (PostS.ex q (Stp.refl _ _) m1 sr1 ad rfl))
theorem XTr.at{h:Heap}{x T C:Addr}{d:Option Addr}{fl:Value}(t:XTr h x T (.ref C) d fl):XcAt x C d h:=by
 obtain⟨oe,vs,a0,oT,ts,h1,⟨h2,h3⟩,h4,_⟩:=t
 exact⟨oe,vs,h1,h2,h4,h3⟩
theorem XcAt.ty{M:zbP}{h:Heap}{x C:Addr}{d:Option Addr}(t:XcAt x C d h):zdt M h (typeOf (.ref x)) (.ref C):=by
 obtain⟨oe,vs,h1,h2,h3,h4⟩:=t
 exact h2▸(zgd h1).andThen .now
def HcOk (Γ:Cn)(x:Str)(c:Nat):Prop:=x∈Γ.G/\(x,c)∈Γ.cls/\((∃f,Γ.gl x=.xcf c f)\/Γ.gl x=.xcl c)/\c<40
def z7U (Γ:Cn):Option Str->Option Nat->Prop
 |none,none=>True
 |some e,some j=>idx Γ.N e=some j/\Γ.cel.contains e=false
 |_,_=>False
def Zo (D:DP)(Γ:Cn)(k:Nat):List zb0->List (List Nat×Option Nat×List Ds)->Prop
 |[],[]=>True
 |h::hs,g::r=>(∃x p nm b0 suite pp c i vs,h=.ExceptHandler (some (.Name x p)) nm (b0::suite) pp/\g=([c],i,vs)/\HcOk Γ x c/\z7U Γ nm i/\∀X',Sk D noW {Γ with calm:=false} X' k->Wh X' D noW (b0::suite) vs)/\Zo D Γ k hs r
 |_,_=>False
theorem HcOk.mg(C:Sk D W Γ X k){x:Str}{c:Nat}(h:HcOk Γ x c):∃Cc,X.mg x=some (.ref Cc):=by
 have q:=C.glo x h.1
 rcases h.2.2.1 with⟨f,g⟩|g
 ·rw[g] at q
  obtain⟨Cc,_,hm⟩:=q
  exact⟨Cc,hm⟩
 ·rw[g] at q
  obtain⟨Cc,_,hm,_⟩:=q
  exact⟨Cc,hm⟩
theorem Ym(C:Sk D W Γ X k){x Tt Ck:Addr}{d:Option Addr}{kk:Nat}{xfs:List (Nat×T)}(ad:D.adr kk=some Ck):∀{hs:List zb0} {r:List (List Nat×Option Nat×List Ds)} {s1:z8k} {σ1:St} {H1:Hp} {α1:List Addr} {τ1:Sl} {μ1:Mem},Zo D Γ k hs r->Inv (Cx.pin' X pins) [] σ1 H1 s1->XOk (Cx.pin' X pins) H1 x->XOk (Cx.pin' X pins) H1 Tt->XTr s1.heap x Tt (.ref Ck) d .none->
  XDict D φ α1 H1 xfs d->MRel D φ α1 H1 μ1->SRel D φ α1 H1 τ1 σ1->PostS D W φ α1 H1 E (z1C r kk xfs τ1 μ1)->z8t (z8u X.prog X.w) X.A (handleBy (.ref x) X.env hs) (SP X pins E) X.xe s1
 |[],[],s1,σ1,H1,α1,τ1,μ1,_,I1,ox,oT,tr,xd,m1,sr1,p=>by
  obtain⟨e0,out,L,F⟩:=C.frm
  refine wpAny_handleBy_nil ?_
  unfold zfQ
  obtain⟨oe,vs',a0,oT',ts,ho,hcc,hd,hv0,hv1,hT,hoT,hdT,h3⟩:=id tr
  refine z8g (z9W ho hd hv1 ?_)
  rw[if_neg (show ¬((z8J Tt == z9o)=true) from by simp)]
  have go:∀{t2:z8k},XP X W (.ref x) t2->z8t (z8u X.prog X.w) X.A (throw (z8J x):Sem Flow) (SP X pins E) X.xe t2:=λ{t2} xp=>wpAny_throw (C.xe _ _ xp)
  have un:∀b,XOk (Cx.pin' X pins) H1 b->XOk X H1 b:=λb o=>⟨o.free,o.loc,o.nfs,o.new,o.cel,λp hp=>o.pin p (z8E _ hp)⟩
  have fin:z8t (z8u X.prog X.w) X.A (zcx (.ref x) X.env.frame) (λ_ t2=>XP X W (.ref x) t2) X.xe s1:=by
   refine qP ((zW I1).pins_of λp hp=>absurd hp (by simp)) (un x ox) (un Tt oT) tr λh4 I4 tr4=>?_
   refine⟨x,.ref Ck,d,σ1,H1,some Tt,z9g L,rfl,I4,un x ox,λt ht=>?_,?_,.inr ⟨L,F.fe,rfl⟩,PostS.ex p (Stp.refl _ _) m1 sr1 ad xd⟩
   ·have:t=Tt:=by simpa using ht
    rw[this];exact un Tt oT
   ·rw[F.fe] at tr4;exact tr4
  first
   |exact z8g (thn fin λ_ t2 xp=>go xp)
   |exact z8g (z8q (z8g (thn fin λ_ t2 xp=>go xp)))
 |[],_::_,_,_,_,_,_,_,h,_,_,_,_,_,_,_,_=>h.elim
 |_::_,[],_,_,_,_,_,_,h,_,_,_,_,_,_,_,_=>h.elim
 |hd::hs',g::r',s1,σ1,H1,α1,τ1,μ1,h,I1,ox,oT,tr,xd,m1,sr1,p=>by
   obtain⟨⟨x0,p0,nm,b0,suite',pp,c,i,vs,rfl,rfl,hcx,hnm,hsu⟩,hrest⟩:=h
   obtain⟨Cc,hmc⟩:=hcx.mg C
   have IX:Inv (Cx.han (Cx.pin' X pins) x) [] σ1 H1 s1:=Q_ I1
   have hexm:=C.xmt kk x0 c hcx.2.1 hcx.2.2.2 Ck Cc ad hmc
   refine wpAny_handleBy_cons (codeAny_handlers_test (qS (X:=Cx.han (Cx.pin' X pins) x) IX (C.glb x0 hcx.1) hmc ?_ (C.dbG x0 hcx.1))) (λq=>by cases q)
   refine (PySem.W.exm_one (M:=z8u X.prog X.w) IX.kIn (XcAt.ty (XTr.at tr)) hexm).at ?_
   have hio:isAny kk [c]=vP kk c:=by
    rw[yS];show bOr _ false=_
    cases vP kk c<;>rfl
   have p:PostS D W φ α1 H1 E (.br (vP kk c) (z7v i vs kk xfs τ1 μ1) (z1C r' kk xfs τ1 μ1)):=by rw[←hio];exact p
   rcases PostS.br p with⟨hb,p⟩|⟨hb,p⟩
   ·rw[hb]
    obtain⟨Q,q,h1,h2,h3,h4,h5⟩:=p
    have C2:∀{X':Cx},X'=Cx.han (Cx.pin' X pins) x->Sk D noW {Γ with calm:=false} X' k:=λ{X'} hX'=>by
     subst hX'
     obtain⟨e0,out,L,F⟩:=C.frm
     exact {hK:=C.hK,hN:=C.hN,nd:=C.nd,vis:=C.vis,dbg:=C.dbg,dbG:=C.dbG,glb:=C.glb,glo:=C.glo,glU:=C.glU,cel:=C.cel,isi:=C.isi,fld:=C.fld,xcx:=C.xcx,ocx:=C.ocx,clv:=C.clv,clm:=(λz=>by cases z),rom:=(λz=>by cases z),rmh:=⟨C.rmh.dp,C.rmh.un⟩,xe:=(λe s p=>by obtain⟨_,_,_,_,_,_,_,_,_,_,_,_,_,z⟩:=p;exact z),frm:=⟨e0,out,L,F.stk,F.f0,F.fe⟩,lam:=C.lam,sto:=C.sto,lcl:=C.lcl,pso:=zeI,xmt:=C.xmt}
    have okX:X.Ok:=WG I1.ok
    cases nm with
    |none=>
     cases i with
     |some j=>exact z8Q hnm
     |none=>
      refine codeAny_handlers_suite (qP (X:=Cx.pin' X pins) I1 ox oT tr λh3' I3 tr3=>?_)
      have S:=qT (hsu _ (C2 rfl)) [] _ _ _ {nx:=E.nx,rt:=E.rt} (Q_ (x:=x) I3) ⟨φ,α1,τ1,μ1,sr1,m1,_,q,h1,(λ_ _ z=>z.elim),(λ_ _ z=>z.elim),h4,(λ_ _ _ _ z=>z.elim)⟩
      refine z8Y S (λf s6 h6=>?_) (λ_ _ z=>z.elim)
      cases f with
      |next=>obtain⟨σ',H',I',q'⟩:=h6;exact⟨σ',H',zW (xy I1.ok I'),q'⟩
      |brk=>obtain⟨σ',H',I',q'⟩:=h6;exact q'.elim
      |cont=>obtain⟨σ',H',I',q'⟩:=h6;exact q'.elim
      |ret w=>obtain⟨y,σ',H',I',r,q'⟩:=h6;exact⟨y,σ',H',zW (xy I1.ok I'),r,q'⟩
    |some e=>
     cases i with
     |none=>exact z8Q hnm
     |some j=>
      obtain⟨hidx,hce⟩:=hnm
      refine codeAny_handlers_suite_as (qP (X:=Cx.pin' X pins) I1 ox oT tr λh3' I3 tr3=>?_)
      have I4:=XU (C:=Ck) (d:=d) I3 ox (λp hp=>absurd hp (by simp)) (XTr.at tr3)
      have st2:Stp α1 H1 α1 (upd H1 x (.ext (XcAt x Ck d))):=Stp.new (zh ox.free)
      have hloc:X.env.scope.names.lookup e=some .local:=C.lcl e (w9 hidx) hce
      have hNd:X.N.Nodup:=by rw[C.hN];exact C.nd
      have hNi:X.N[j]?=some e:=by rw[C.hN];exact wJ hidx
      refine yU (X:=Cx.han (Cx.pin' X pins) x) (i:=j) (v:=.ref x) (Q_ I4) hNd hNi (.inl hloc) rfl (λs5 I5=>?_) (.inr hloc)
      have xd5:=xd.lk (st2.lk (φ:=φ))
      have den:Den D φ α1 (upd H1 x (.ext (XcAt x Ck d))) (.exc kk xfs) (.ref x):=⟨x,Ck,d,rfl,zv m1 ox.free,zu m1 ox.free,ad,z8,by cases d<;>exact xd5⟩
      have sr5:=(sr1.step st2).set (i:=j) den
      have m5:=m1.new (zh (o:=HO.ext (XcAt x Ck d)) ox.free)
      have S:=qT (hsu _ (C2 rfl)) [] s5 _ _ {nx:=λσ' H'=>E.nx (σ'.set j none) H',rt:=E.rt} I5 ⟨φ,α1,_,μ1,sr5,m5,_,q,(λτ2 μ2 z α' H' σ' st m r=>h1 _ μ2 z α' H' _ (st2.trans st) m r.unset),(λ_ _ z=>z.elim),(λ_ _ z=>z.elim),(λt μ2 z α' H' v st m dd=>h4 t μ2 z α' H' v (st2.trans st) m dd),(λ_ _ _ _ z=>z.elim)⟩
      have hkf:(X.env.scope.kind == .class || (X.env.scope.kind == .module&&X.env.locals != X.env.globals))=false:=by rw[okX.kind];rfl
      refine z8Y S (λf s6 h6=>?_) (λ_ _ z=>z.elim)
      have fin:∀{σ6 H6},Inv (Cx.han (Cx.pin' X pins) x) [] σ6 H6 s6->(∀s7,Inv X pins (σ6.set j none) H6 s7->SP X pins E f s7)->z8t (z8u X.prog X.w) X.A (do bindName X.env e .none;unbindBehindTheSuite X.env e pp) (λ_ s7=>SP X pins E f s7) X.xe s6:=λ{σ6 H6} I6 q=>by
       have I7:Inv X pins σ6 H6 s6:=zW (xy (US okX) I6)
       obtain⟨m,hn,hl⟩:=I7.loc
       refine wpAny_nameGoes_keeps hloc hn hkf λh7 u7 hn7 hs7=>?_
       exact q _ (XM I7 hNd hNi hl hn7 hs7)
      cases f with
      |next=>obtain⟨σ',H',I',q'⟩:=h6;exact fin I' λs7 I7=>⟨_,H',I7,q'⟩
      |brk=>obtain⟨σ',H',I',q'⟩:=h6;exact q'.elim
      |cont=>obtain⟨σ',H',I',q'⟩:=h6;exact q'.elim
      |ret w=>obtain⟨y,σ',H',I',r,q'⟩:=h6;exact fin I' λs7 I7=>⟨y,_,H',I7,r,q'⟩
   ·rw[hb]
    exact Ym C ad hrest I1 ox oT tr xd m1 sr1 p
theorem z59(C:Sk D W Γ X k)(hc:Γ.calm=true){body:List Stmt}{us:List Ds}{h0:zb0}{hs:List zb0}{r:List (List Nat×Option Nat×List Ds)}(hb:∀X' W',Sk D W' Γ X' k->Wh X' D W' body us)(hh:Zo D Γ k (h0::hs) r) :
  PS X (.Try body (h0::hs) [] [] pos) (rdS D W (z0N us r)):=by
 rintro pins s σ H E I ⟨φ,α,τ,μ,sr,mr,Q,q,h1,h2,h3,h4,h5⟩
 obtain⟨e0,out,L,F⟩:=C.frm
 have F0:Frm (Cx.pin' X pins) e0 out L:=⟨F.stk,F.f0,F.fe⟩
 generalize hW:(λ(cls:Value) (d:Option Addr) (σ':St) (H':Hp)=>∃kk fs τ1 μ1 α1 Ck,z1C r kk fs τ1 μ1 Q/\D.adr kk=some Ck/\cls=.ref Ck/\Stp α H α1 H'/\MRel D φ α1 H' μ1/\SRel D φ α1 H' τ1 σ'/\XDict D φ α1 H' fs d:XW)=W1
 have C1:Sk D W1 Γ ((Cx.pin' X pins).wish (XP (Cx.pin' X pins) W1)) k:={hK:=C.hK,hN:=C.hN,nd:=C.nd,vis:=C.vis,dbg:=C.dbg,dbG:=C.dbG,glb:=C.glb,glo:=C.glo,glU:=C.glU,cel:=C.cel,isi:=C.isi,fld:=C.fld,xcx:=C.xcx,ocx:=C.ocx,clv:=C.clv,clm:=C.clm,rom:=C.rom,rmh:=⟨C.rmh.dp,C.rmh.un⟩,xe:=λe s p=>xr p,frm:=⟨e0,out,L,F.stk,F.f0,F.fe⟩,lam:=C.lam,sto:=C.sto,lcl:=C.lcl,pso:=Qc F0 I.ok.frames,xmt:=C.xmt}
 have B:=qT (hb _ W1 C1) [] s σ H E ((VB I).wish _) ⟨φ,α,τ,μ,sr,mr,_,q,h1,h2,h3,h4,λkk fs τ1 μ1 z α' H' σ' Ck d st m sr' ad xd=>by rw[←hW];exact⟨kk,fs,τ1,μ1,α',Ck,z,ad,rfl,st,m,sr',xd⟩⟩
 refine wpAny_Try_except (z8Y B (λf s1 h1=>?_) (λe1 s1 hx=>?_))
 ·cases f with
  |next=>obtain⟨σ',H',I',q⟩:=h1;exact Kl pins s1 σ' H' E (zW I'.unwish) q
  |brk=>obtain⟨σ',H',I',q⟩:=h1;exact⟨σ',H',zW I'.unwish,q⟩
  |cont=>obtain⟨σ',H',I',q⟩:=h1;exact⟨σ',H',zW I'.unwish,q⟩
  |ret w=>obtain⟨y,σ',H',I',r,q⟩:=h1;exact⟨y,σ',H',zW I'.unwish,r,q⟩
 have hx:XP (Cx.pin' X pins) W1 e1 s1:=hx
 refine yq (X:=Cx.pin' X pins) F0 I.ok.frames hx λx cls d σ1 H1 Tt h' ee I1 ox oT tr w=>?_
 subst ee
 refine qP (X:=Cx.pin' X pins) (s:={s1 with heap:=h'}) I1 ox oT tr λh2' I2 tr2=>?_
 rw[←hW] at w
 obtain⟨kk,fs,τ1,μ1,α1,Ck,z,ad,rfl,st1,m1,sr1,xd⟩:=w
 exact Ym C ad hh I2 ox oT tr2 xd m1 sr1 (PostS.step ⟨Q,z,h1,h2,h3,h4,h5⟩ st1)
end
structure Rec where
 e:Cn->Expr->Option De
 t:Cn->Expr->Option Dt
 w:Cn->Expr->Option Dt
 i:Cn->Expr->Option Di
 o:Cn->Expr->Option De
 s:Cn->Stmt->Option Ds
abbrev ER:=Rec->Cn->Expr->Option De
abbrev TR:=Rec->Cn->Expr->Option Dt
abbrev IR:=Rec->Cn->Expr->Option Di
abbrev SR:=Rec->Cn->Stmt->Option Ds
structure Rules where
 e:List ER
 t:List TR
 w:List TR
 i:List IR
 o:List ER
 s:List SR
def Qv {α β:Type}:List (Rec->Cn->α->Option β)->Rec->Cn->α->Option β
 |[],_,_,_=>none
 |f::fs,r,Γ,e=>match f r Γ e with
  |some d=>some d
  |none=>Qv fs r Γ e
def comp (R:Rules):Nat->Rec
 |0=>⟨λ_ _=>none,λ_ _=>none,λ_ _=>none,λ_ _=>none,λ_ _=>none,λ_ _=>none⟩
 |n+1=>⟨Qv R.e (comp R n),Qv R.t (comp R n),Qv R.w (comp R n),Qv R.i (comp R n),Qv R.o (comp R n),Qv R.s (comp R n)⟩
noncomputable def Yp(tg e:Expr):Bool:=match e with
 |.Call (.Name x _) _ _ _=>(x != ("enumerate":Str)&&x != ("zip":Str)) || (match tg with|.Tuple _ _ _=>true|_=>false)
 |_=>true
structure RecOk(D:DP)(r:Rec):Prop where
 e:∀{X W Γ k e f},Ck D W Γ X k->r.e Γ e=some f->PE X e (rdE D W f)
 t:∀{X W Γ k e f},Ck D W Γ X k->r.t Γ e=some f->PT X e (rdT D W f)
 w:∀{X W Γ k e f},Ck D W Γ X k->r.w Γ e=some f->PW X e (rdT D W f)
 i:∀{X W Γ k tg e f},Ck D W Γ X k->Yp tg e=true->r.i Γ e=some f->PI X tg e (rdI D W f)
 o:∀{X W Γ k e f},Ck D W Γ X k->r.o Γ e=some f->PE X e (rdE D W f)
 s:∀{X W Γ k e f},Sk D W Γ X k->r.s Γ e=some f->PS X e (rdS D W f)
def EOk (D:DP)(f:ER):Prop:=∀r,RecOk D r->∀{X W Γ k e d},Ck D W Γ X k->f r Γ e=some d->PE X e (rdE D W d)
def TOk (D:DP)(f:TR):Prop:=∀r,RecOk D r->∀{X W Γ k e d},Ck D W Γ X k->f r Γ e=some d->PT X e (rdT D W d)
def WOk (D:DP)(f:TR):Prop:=∀r,RecOk D r->∀{X W Γ k e d},Ck D W Γ X k->f r Γ e=some d->PW X e (rdT D W d)
def IOk (D:DP)(f:IR):Prop:=∀r,RecOk D r->∀{X W Γ k tg e d},Ck D W Γ X k->Yp tg e=true->f r Γ e=some d->PI X tg e (rdI D W d)
def SOk (D:DP)(f:SR):Prop:=∀r,RecOk D r->∀{X W Γ k e d},Sk D W Γ X k->f r Γ e=some d->PS X e (rdS D W d)
def x_{α:Type}(P:α->Prop):List α->Prop
 |[]=>True
 |f::fs=>P f/\x_ P fs
structure RulesOk(D:DP)(R:Rules):Prop where
 e:x_ (EOk D) R.e
 t:x_ (TOk D) R.t
 w:x_ (WOk D) R.w
 i:x_ (IOk D) R.i
 o:x_ (EOk D) R.o
 s:x_ (SOk D) R.s
theorem vE{α β:Type}{P:(Rec->Cn->α->Option β)->Prop}{C:Prop}{r:Rec}{Γ:Cn}{e:α}{d:β}:∀{fs:List (Rec->Cn->α->Option β)},x_ P fs->(∀f,P f->f r Γ e=some d->C)->Qv fs r Γ e=some d->C
 |[],_,_,h=>by cases h
 |f::fs,a,k,h=>by
  unfold Qv at h
  cases q:f r Γ e with
  |some d'=>rw[q] at h;cases h;exact k f a.1 q
  |none=>rw[q] at h;exact vE a.2 k h
theorem wU{D:DP}{R:Rules}(H:RulesOk D R):∀n,RecOk D (comp R n)
 |0=>⟨λ_ h=>(by cases h),λ_ h=>(by cases h),λ_ h=>(by cases h),λ_ _ h=>(by cases h),λ_ h=>(by cases h),λ_ h=>(by cases h)⟩
 |n+1=>⟨λC h=>vE H.e (λf p q=>p _ (wU H n) C q) h,λC h=>vE H.t (λf p q=>p _ (wU H n) C q) h,λC h=>vE H.w (λf p q=>p _ (wU H n) C q) h,λC ht h=>vE H.i (λf p q=>p _ (wU H n) C ht q) h,λC h=>vE H.o (λf p q=>p _ (wU H n) C q) h,λC h=>vE H.s (λf p q=>p _ (wU H n) C q) h⟩
noncomputable def gd{α:Type}(b:Bool)(o:Option α):Option α:=match b with
 |true=>o
 |false=>none
theorem zx{α:Type}{b:Bool}{o:Option α}{x:α}(h:gd b o=some x):b=true/\o=some x:=by
 cases b with
 |true=>exact⟨rfl,h⟩
 |false=>cases h
theorem bnd{α β:Type}{o:Option α}{f:α->Option β}{x:β}(h:o.bind f=some x):∃a,o=some a/\f a=some x:=zcE.mp h
def zo {α β:Type}(f:α->Option β):List α->Option (List β)
 |[]=>some []
 |a::r=>(f a).bind λb=>(zo f r).bind λbs=>some (b::bs)
def cEs (r:Rec)(Γ:Cn)(es:List Expr):Option (List De):=zo (λe=>gd (noStar e) (r.e Γ e)) es
section
variable {D:DP}{r:Rec}{X:Cx}{W:XW}{Γ:Cn}{k:Nat}
theorem wk(h:RecOk D r)(C:Ck D W Γ X k):∀{es:List Expr} {fs:List De},cEs r Γ es=some fs->EsOk X D W es fs
 |[],fs,e=>by cases e;trivial
 |a::es,fs,e=>by
  obtain⟨f,h1,e⟩:=bnd e
  obtain⟨gs,h2,e⟩:=bnd e
  cases e
  obtain⟨h3,h4⟩:=zx h1
  exact⟨h3,h.e C h4,wk h C h2⟩
theorem kr(h:RecOk D r)(C:Ck D W Γ X k):∀{es:List Expr} {fs:List Dt},zo (r.t Γ) es=some fs->VF X D W es fs
 |[],fs,e=>by cases e;trivial
 |a::es,fs,e=>by
  obtain⟨f,h1,e⟩:=bnd e
  obtain⟨gs,h2,e⟩:=bnd e
  cases e
  exact⟨h.t C h1,kr h C h2⟩
theorem qU(h:RecOk D r)(C:Sk D W Γ X k):∀{es:List Stmt} {fs:List Ds},zo (r.s Γ) es=some fs->Wh X D W es fs
 |[],fs,e=>by cases e;trivial
 |a::es,fs,e=>by
  obtain⟨f,h1,e⟩:=bnd e
  obtain⟨gs,h2,e⟩:=bnd e
  cases e
  exact⟨h.s C h1,qU h C h2⟩
end
def z71:ER:=λ_ _ e=>match e with
 |.Constant c _ _=>(match c with
  |.int i=>some (eC (.int i))
  |.bool b=>some (eC (.bl b))
  |.none=>some (eC .non)
  |.str x=>some (eC (.str x))
  |_=>none)
 |_=>none
theorem z2x{D:DP}:EOk D z71:=by
 intro r H X W Γ k e d C h
 cases e with
 |Constant c j p=>
  cases c with
  |int i=>cases h;exact z3w
  |bool i=>cases h;exact z7f
  |none=>cases h;exact z3d
  |str i=>cases h;exact z5J
  |_=>cases h
 |_=>cases h
def z5j:ER:=λ_ Γ e=>match e with
 |.Name x _=>(match idx Γ.N x with
  |some i=>some (eV i)
  |none=>(match Γ.look x with
   |.cst t=>some (eC t)
   |_=>none))
 |_=>none
theorem z2r{D:DP}:EOk D z5j:=by
 intro r H X W Γ k e d C h
 cases e with
 |Name x p=>
  simp only[z5j] at h
  cases q:idx Γ.N x with
  |some i=>rw[q] at h;cases h;exact z4d C q
  |none=>
   rw[q] at h
   cases hl:Γ.look x with
   |cst t=>
    simp only[hl] at h
    cases h
    obtain⟨hx,hg⟩:=qW hl (by intro z;cases z)
    exact z5f C hx hg
   |_=>simp[hl] at h
 |_=>cases h
def z6H:ER:=λr Γ e=>match e with
 |.BinOp a op b _=>(r.e Γ a).bind λf=>(r.e Γ b).bind λg=>some (zb op f g)
 |_=>none
theorem z1g{D:DP}:EOk D z6H:=by
 intro r H X W Γ k e d C h
 cases e with
 |BinOp a op b p=>
  obtain⟨f,h1,h⟩:=bnd h
  obtain⟨g,h2,h⟩:=bnd h
  cases h
  exact z5h (H.e C h1) (H.e C h2)
 |_=>cases h
def rUn:ER:=λr Γ e=>match e with
 |.UnaryOp op a _=>(r.e Γ a).bind λf=>(match op with
  |.USub=>some (VW f)
  |.Not=>some (z5Z f)
  |_=>none)
 |_=>none
theorem z5t{D:DP}:EOk D rUn:=by
 intro r H X W Γ k e d C h
 cases e with
 |UnaryOp op a p=>
  obtain⟨f,h1,h⟩:=bnd h
  cases op with
  |USub=>cases h;exact z3i (H.e C h1)
  |Not=>cases h;exact z4y (H.e C h1)
  |_=>cases h
 |_=>cases h
def z2_:ER:=λr Γ e=>match e with
 |.BoolOp op es p=>(match es with
  |[a]=>r.e Γ a
  |a::b::l=>(r.e Γ a).bind λf=>(r.e Γ (.BoolOp op (b::l) p)).bind λg=>some (match op with|.And=>Jl f g|.Or=>eOr f g)
  |[]=>none)
 |_=>none
theorem UJ{D:DP}:EOk D z2_:=by
 intro r H X W Γ k e d C h
 cases e with
 |BoolOp op es p=>
  match es with
  |[]=>cases h
  |[a]=>exact z4m (H.e C h)
  |a::b::l=>
   obtain⟨f,h1,h⟩:=bnd h
   obtain⟨g,h2,h⟩:=bnd h
   cases h
   cases op with
   |And=>exact z3S (H.e C h1) (H.e C h2)
   |Or=>exact z6X (H.e C h1) (H.e C h2)
 |_=>cases h
def chs (r:Rec)(Γ:Cn):List z9V->List Expr->Option (List (z9V×De))
 |[],[]=>some []
 |op::ops,e::es=>gd (jF op) ((r.e Γ e).bind λf=>(chs r Γ ops es).bind λps=>some ((op,f)::ps))
 |_,_=>none
theorem U8{D:DP}{r:Rec}{X:Cx}{W:XW}{Γ:Cn}{k:Nat}(H:RecOk D r)(C:Ck D W Γ X k):∀{ops:List z9V} {es:List Expr} {ps:List (z9V×De)},chs r Γ ops es=some ps->Yd X D W es ps/\ps.map (·.1)=ops/\ps.all (λp=>jF p.1)=true
 |[],[],ps,h=>by cases h;exact⟨trivial,rfl,rfl⟩
 |[],_::_,ps,h=>by cases h
 |_::_,[],ps,h=>by cases h
 |op::ops,e::es,ps,h=>by
  obtain⟨hb,h⟩:=zx h
  obtain⟨f,h1,h⟩:=bnd h
  obtain⟨qs,h2,h⟩:=bnd h
  cases h
  obtain⟨k1,k2,k3⟩:=U8 H C h2
  exact⟨⟨H.e C h1,k1⟩,by simp[k2],by simp[hb,k3]⟩
def z4S (r:Rec)(Γ:Cn)(a:Expr)(ops:List z9V)(es:List Expr):Option De:=(r.e Γ a).bind λf=>(match ops,es with
 |[op],[b]=>gd (vc op b) ((r.e Γ b).bind λg=>some (zr op f g))
 |_::_::_,_::_::_=>(chs r Γ ops es).bind λps=>some (eCh f ps)
 |_,_=>none)
theorem Ka{D:DP}{r:Rec}{X:Cx}{W:XW}{Γ:Cn}{k:Nat}(H:RecOk D r)(C:Ck D W Γ X k){a:Expr}{ops:List z9V}{es:List Expr}{p:Pos}{d:De}(h:z4S r Γ a ops es=some d):PE X (.Compare a ops es p) (rdE D W d)/\PT X (.Compare a ops es p) (rdT D W (tE d)):=by
 obtain⟨f,h1,h⟩:=bnd h
 match ops,es with
 |[op],[b]=>
  obtain⟨ho,h⟩:=zx h
  obtain⟨g,h2,h⟩:=bnd h
  cases h
  exact⟨z4u C ho (H.e C h1) (H.e C h2),JP C ho (H.e C h1) (H.e C h2)⟩
 |op::op'::ops,e::e'::es=>
  obtain⟨ps,h2,h⟩:=bnd h
  cases h
  obtain⟨k1,k2,k3⟩:=U8 H C h2
  match ps with
  |[]=>cases k2
  |[p1]=>simp at k2
  |p1::p2::ps=>
   simp only[z8R,List.cons.injEq] at k2
   obtain⟨rfl,rfl,rfl⟩:=k2
   exact⟨YQ C k3 (H.e C h1) k1,Vb C k3 (H.e C h1) k1⟩
 |[],es=>cases h
 |[_],[]=>cases h
 |[_],_::_::_=>cases h
 |_::_::_,[]=>cases h
 |_::_::_,[_]=>cases h
def z6k:ER:=λr Γ e=>match e with
 |.Compare a ops es _=>z4S r Γ a ops es
 |_=>none
theorem z1A{D:DP}:EOk D z6k:=by
 intro r H X W Γ k e d C h
 cases e with
 |Compare a ops es p=>exact (Ka H C h).1
 |_=>cases h
def z6W:ER:=λr Γ e=>match e with
 |.IfExp c a b _=>(r.t Γ c).bind λt=>(r.e Γ a).bind λf=>(r.e Γ b).bind λg=>some (eIf t f g)
 |_=>none
theorem z27{D:DP}:EOk D z6W:=by
 intro r H X W Γ k e d C h
 cases e with
 |IfExp c a b p=>
  obtain⟨t,h0,h⟩:=bnd h
  obtain⟨f,h1,h⟩:=bnd h
  obtain⟨g,h2,h⟩:=bnd h
  cases h
  exact z7s (H.t C h0) (H.e C h1) (H.e C h2)
 |_=>cases h
def z6D:ER:=λr Γ e=>match e with
 |.Attribute a x _=>gd (qe a) ((r.e Γ a).bind λf=>(Γ.fld.lookup x).bind λn=>some (zf f n))
 |_=>none
theorem z0J{D:DP}:EOk D z6D:=by
 intro r H X W Γ k e d C h
 cases e with
 |Attribute a x p=>
  obtain⟨hp,h⟩:=zx h
  obtain⟨f,h1,h⟩:=bnd h
  obtain⟨n,h2,h⟩:=bnd h
  cases h
  exact z3X C hp (lookup_mem h2) (H.e C h1)
 |_=>cases h
def prt (r:Rec)(Γ:Cn):Option Expr->Option Dp
 |none=>some pN
 |some e=>(r.e Γ e).bind λf=>some (pS f)
theorem YW{D:DP}{r:Rec}{X:Cx}{W:XW}{Γ:Cn}{k:Nat}(H:RecOk D r)(C:Ck D W Γ X k){o:Option Expr}{d:Dp}(h:prt r Γ o=some d):PO X o (rdO D W d):=by
 cases o with
 |none=>cases h;exact z29
 |some e=>
  obtain⟨f,h1,h⟩:=bnd h
  cases h
  exact z13 (H.e C h1)
def z5D:ER:=λr Γ e=>match e with
 |.Subscript a b _=>(match b with
  |.Slice lo hi st _=>(match st with
   |none=>(r.e Γ a).bind λf=>(prt r Γ lo).bind λl=>(prt r Γ hi).bind λu=>some (eSl f l u)
   |some _=>none)
  |b=>gd (qJ b) ((r.e Γ a).bind λf=>(r.e Γ b).bind λg=>some (eIx f g)))
 |_=>none
theorem z2h{D:DP}:EOk D z5D:=by
 intro r H X W Γ k e d C h
 cases e with
 |Subscript a b p=>
  have gen:∀{b},gd (qJ b) ((r.e Γ a).bind λf=>(r.e Γ b).bind λg=>some (eIx f g))=some d->PE X (.Subscript a b p) (rdE D W d):=λ{b} h=>by
   obtain⟨hp,h⟩:=zx h
   obtain⟨f,h1,h⟩:=bnd h
   obtain⟨g,h2,h⟩:=bnd h
   cases h
   exact z6U hp C.hK (H.e C h1) (H.e C h2)
  cases b with
  |Slice lo hi st p2=>
   cases st with
   |some _=>cases h
   |none=>
    obtain⟨f,h1,h⟩:=bnd h
    obtain⟨l,h2,h⟩:=bnd h
    obtain⟨u,h3,h⟩:=bnd h
    cases h
    exact Ub (H.e C h1) (YW H C h2) (YW H C h3)
  |_=>exact gen h
 |_=>cases h
def z7a:ER:=λr Γ e=>match e with
 |.List es _=>gd (decide (es.length<=room)) ((cEs r Γ es).bind λfs=>some (zR fs))
 |.Tuple es _ _=>gd (decide (es.length<=room)) ((cEs r Γ es).bind λfs=>some (zy fs))
 |_=>none
theorem z0V{D:DP}:EOk D z7a:=by
 intro r H X W Γ k e d C h
 cases e with
 |List es p=>
  obtain⟨hl,h⟩:=zx h
  obtain⟨fs,h1,h⟩:=bnd h
  cases h
  exact z3Q (of_decide_eq_true hl) (wk H C h1)
 |Tuple es kk p=>
  obtain⟨hl,h⟩:=zx h
  obtain⟨fs,h1,h⟩:=bnd h
  cases h
  exact z55 (of_decide_eq_true hl) (wk H C h1)
 |_=>cases h
def z4R:ER:=λr Γ e=>match e with
 |.Call (.Name x _) es [] _=>gd ((idx Γ.N x).isNone&&Γ.calm) ((cEs r Γ es).bind λfs=>(match Γ.look x with
  |.fn g=>some (z7 g fs)
  |.mk c true g=>some (eMk c g fs)
  |_=>none))
 |_=>none
theorem z0M{D:DP}:EOk D z4R:=by
 intro r H X W Γ k e d C h
 unfold z4R at h
 split at h
 ·rename_i x p0 es pos
  obtain⟨hb,h⟩:=zx h
  simp only[z8j] at hb
  obtain⟨fs,h1,h⟩:=bnd h
  cases hl:Γ.look x with
  |fn g=>
   simp only[hl] at h
   cases h
   obtain⟨hx,hg⟩:=qW hl (by intro z;cases z)
   exact z2B C hx hg hb.2 (wk H C h1)
  |mk c z g=>
   cases z with
   |true=>
    simp only[hl] at h
    cases h
    obtain⟨hx,hg⟩:=qW hl (by intro z;cases z)
    exact z2o C hx hg hb.2 (wk H C h1)
   |false=>simp[hl] at h
  |_=>simp[hl] at h
 ·cases h
def rB1 (nm:Str)(op:T->Mem->RE T)(cl:Bool):ER:=λr Γ e=>match e with
 |.Call (.Name x _) [a] [] _=>gd (x == nm&&(idx Γ.N x).isNone&&noStar a&&(!cl || Γ.calm)) ((r.e Γ a).bind λf=>(match Γ.look x with
  |.none=>some (eB1 op f)
  |_=>none))
 |_=>none
theorem uD{D:DP}{nm:Str}{op:T->Mem->RE T}{cl:Bool}(H1:∀{X:Cx} {W:XW} {Γ:Cn} {k:Nat} {a:Expr} {f:De} {p0 pos:Pos},Ck D W Γ X k->nm∈Γ.G->Γ.gl nm=.none->(cl=true->Γ.calm=true)->noStar a=true->PE X a (rdE D W f)->PE X (.Call (.Name nm p0) [a] [] pos) (rdE D W (eB1 op f))):EOk D (rB1 nm op cl):=by
 intro r H X W Γ k e d C h
 unfold rB1 at h
 split at h
 ·rename_i x p0 a pos
  have hh:=zx h
  clear h
  obtain⟨hb,h⟩:=hh
  simp only[z8j,beq_iff_eq,zbE,z9O] at hb
  obtain⟨⟨⟨rfl,h2⟩,h3⟩,h4⟩:=hb
  obtain⟨f,h1,h⟩:=bnd h
  cases hl:Γ.look x with
  |none=>
   simp only[hl] at h
   cases h
   obtain⟨hx,hg⟩:=qW hl (by intro z;cases z)
   exact H1 C hx hg (λz=>h4.resolve_left (by rw[z];simp)) h3 (H.e C h1)
  |_=>simp[hl] at h
 ·cases h
def z6L:ER:=rB1 "len" yi false
theorem z2z{D:DP}:EOk D z6L:=uD λC hx hg _ hs ha=>U4 C hx hg boot_len (by decide) hs z7w ha
def z7A:ER:=rB1 "int" z1m false
theorem z24{D:DP}:EOk D z7A:=uD λC hx hg _ hs ha=>z2M C hx hg (by decide +kernel) (by decide) hs z74 ha
def z2O:ER:=rB1 "tuple" Wm false
theorem z02{D:DP}:EOk D z2O:=uD λC hx hg _ hs ha=>z2M C hx hg (by decide +kernel) (by decide) hs z25 ha
def z6V:ER:=rB1 "all" Up true
theorem z1b{D:DP}:EOk D z6V:=uD λC hx hg hc hs ha=>U4 C hx hg boot_all (by decide) hs (z6x (C.clm (hc rfl))) ha
def z4Y:ER:=λr Γ e=>match e with
 |.Call (.Name x _) [a,c] [] _=>gd (x == ("isinstance":Str)&&(idx Γ.N x).isNone&&noStar a) ((r.e Γ a).bind λf=>(uq Γ c).bind λcs=>(match Γ.look x with
  |.none=>some (vL cs f)
  |_=>none))
 |_=>none
theorem z1v{D:DP}:EOk D z4Y:=by
 intro r H X W Γ k e d C h
 unfold z4Y at h
 split at h
 ·rename_i x p0 a c pos
  have hh:=zx h
  clear h
  obtain⟨hb,h⟩:=hh
  simp only[z8j,beq_iff_eq] at hb
  obtain⟨⟨rfl,h2⟩,h3⟩:=hb
  obtain⟨f,h1,h⟩:=bnd h
  obtain⟨cs,h4,h⟩:=bnd h
  cases hl:Γ.look "isinstance" with
  |none=>
   simp only[hl] at h
   cases h
   obtain⟨hx,hg⟩:=qW hl (by intro z;cases z)
   exact z3M C hx hg h3 h4 (H.e C h1)
  |_=>simp[hl] at h
 ·cases h
def rM1 (nm:Str)(cb:De->De->De):ER:=λr Γ e=>match e with
 |.Call (.Attribute o m pa) [a] [] pc=>gd (m == nm&&qe o&&noStar a&&pa.endLine == pc.line) ((r.e Γ o).bind λf=>(r.e Γ a).bind λg=>some (cb f g))
 |_=>none
theorem Wj{D:DP}{nm:Str}{cb:De->De->De}(H1:∀{X:Cx} {W:XW} {Γ:Cn} {k:Nat} {o a:Expr} {f g:De} {pa pc:Pos},Ck D W Γ X k->qe o=true->noStar a=true->(pa.endLine == pc.line)=true->PE X o (rdE D W f)->PE X a (rdE D W g)->PE X (.Call (.Attribute o nm pa) [a] [] pc) (rdE D W (cb f g))):EOk D (rM1 nm cb):=by
 intro r H X W Γ k e d C h
 unfold rM1 at h
 split at h
 ·have hh:=zx h
  clear h
  obtain⟨hb,h⟩:=hh
  simp only[z8j] at hb
  obtain⟨⟨⟨h0,h2⟩,h3⟩,h4⟩:=hb
  have h0:=beq_iff_eq.mp h0
  subst h0
  obtain⟨f,h1,h⟩:=bnd h
  obtain⟨g,h5,h⟩:=bnd h
  cases h
  exact H1 C h2 h3 h4 (H.e C h1) (H.e C h5)
 ·cases h
def z7c:ER:=rM1 "append" Xy
theorem z10{D:DP}:EOk D z7c:=Wj λC hp hs hl ho ha=>z5a hp hs hl ho ha
def z3e (r:Rec)(Γ:Cn)(elt tg iter:Expr)(ifs:List Expr)(sc:Scope)(mk:Nat->List Nat->Tg->Di->List Dt->De->De):Option De:=
 gd (Γ.calm&&VX Γ.N Γ.cel tg sc&&wN iter&&Yp tg iter) ((yk Γ.N (frees sc)).bind λfs=>(wG (za tg++frees sc) tg).bind λtgt=>(r.i Γ iter).bind λfi=>(zo (r.t (inComp Γ tg sc)) ifs).bind λcs=>(r.e (inComp Γ tg sc) elt).bind λfe=>some (mk (za tg).length fs tgt fi cs fe))
theorem Kw{r:Rec}{Γ:Cn}{elt tg iter:Expr}{ifs:List Expr}{sc:Scope}{mk:Nat->List Nat->Tg->Di->List Dt->De->De}{d:De}(h:z3e r Γ elt tg iter ifs sc mk=some d) :
  ∃fs tgt fi cs fe,Γ.calm=true/\CompOk Γ.N Γ.cel tg sc/\(wN iter=true/\Yp tg iter=true)/\yk Γ.N (frees sc)=some fs/\wG (za tg++frees sc) tg=some tgt/\r.i Γ iter=some fi/\zo (r.t (inComp Γ tg sc)) ifs=some cs/\r.e (inComp Γ tg sc) elt=some fe/\d=mk (za tg).length fs tgt fi cs fe:=by
 obtain⟨hb,h⟩:=zx h
 simp only[z8j] at hb
 obtain⟨fs,h1,h⟩:=bnd h
 obtain⟨tgt,h2,h⟩:=bnd h
 obtain⟨fi,h3,h⟩:=bnd h
 obtain⟨cs,h4,h⟩:=bnd h
 obtain⟨fe,h5,h⟩:=bnd h
 cases h
 exact⟨fs,tgt,fi,cs,fe,hb.1.1.1,Xr hb.1.1.2,⟨hb.1.2,hb.2⟩,h1,h2,h3,h4,h5,rfl⟩
def Ui:ER:=λr Γ e=>match e with
 |.ListComp elt [⟨tg,iter,ifs,z⟩] sc _=>gd (z == 0) (z3e r Γ elt tg iter ifs sc qY)
 |_=>none
theorem UR{D:DP}:EOk D Ui:=by
 intro r H X W Γ k e d C h
 unfold Ui at h
 split at h
 ·have hh:=zx h
  clear h
  obtain⟨hz,h⟩:=hh
  have hz:=beq_iff_eq.mp hz
  subst hz
  obtain⟨fs,tgt,fi,cs,fe,h1,h2,h3,h4,h5,h6,h7,h8,rfl⟩:=Kw h
  exact Ky C h1 h2 h4 h5 (H.i C h3.2 h6) (λX' W' C'=>H.e C' h8) (λX' W' C'=>kr H C' h7) (Vw h3.1)
 ·cases h
def z37:TR:=λr Γ e=>match e with
 |.Name _ _=>(r.e Γ e).bind λf=>some (tE f)
 |.Call _ _ _ _=>(r.e Γ e).bind λf=>some (tE f)
 |.Subscript _ _ _=>(r.e Γ e).bind λf=>some (tE f)
 |.Attribute _ _ _=>(r.e Γ e).bind λf=>some (tE f)
 |.Compare a ops es _=>(z4S r Γ a ops es).bind λf=>some (tE f)
 |.UnaryOp op a _=>(match op with
  |.Not=>(r.t Γ a).bind λf=>some (qM f)
  |_=>none)
 |.BoolOp _ _ _=>r.w Γ e
 |_=>none
theorem Yz{D:DP}:TOk D z37:=by
 intro r H X W Γ k e d C h
 cases e with
 |Name x p=>
  obtain⟨f,h1,h⟩:=bnd h
  cases h
  exact Kp (H.e C h1) λ_=>rfl
 |Call f args kws p=>
  obtain⟨f,h1,h⟩:=bnd h
  cases h
  exact Kp (H.e C h1) λ_=>rfl
 |Subscript a b p=>
  obtain⟨f,h1,h⟩:=bnd h
  cases h
  exact Kp (H.e C h1) λ_=>rfl
 |Attribute a b p=>
  obtain⟨f,h1,h⟩:=bnd h
  cases h
  exact Kp (H.e C h1) λ_=>rfl
 |Compare a ops es p=>
  obtain⟨f,h1,h⟩:=bnd h
  cases h
  exact (Ka H C h1).2
 |UnaryOp op a p=>
  cases op with
  |Not=>
   obtain⟨f,h1,h⟩:=bnd h
   cases h
   exact z5y (H.t C h1)
  |_=>cases h
 |BoolOp op es p=>exact (H.w C h).pt
 |_=>cases h
def UP:TR:=λr Γ e=>match e with
 |.BoolOp op es p=>(match es with
  |[a]=>r.t Γ a
  |a::b::l=>(r.t Γ a).bind λf=>(r.w Γ (.BoolOp op (b::l) p)).bind λg=>some (match op with|.And=>wc f g|.Or=>tOr f g)
  |[]=>none)
 |_=>none
theorem Xc{D:DP}:WOk D UP:=by
 intro r H X W Γ k e d C h
 cases e with
 |BoolOp op es p=>
  match es with
  |[]=>cases h
  |[a]=>
   cases op with
   |And=>exact z2s (H.t C h)
   |Or=>exact z5T (H.t C h)
  |a::b::l=>
   obtain⟨f,h1,h⟩:=bnd h
   obtain⟨g,h2,h⟩:=bnd h
   cases h
   cases op with
   |And=>exact z3g (H.t C h1) (H.w C h2)
   |Or=>exact z7h (H.t C h1) (H.w C h2)
 |_=>cases h
def U5:IR:=λr Γ e=>match e with
 |.Call (.Name x _) as [] _=>gd (x == ("range":Str)&&(idx Γ.N x).isNone&&as.all noStar) (match Γ.look x with
  |.none=>(match as with
   |[a]=>(r.e Γ a).bind λf=>some (z17 f)
   |[a,b]=>(r.e Γ a).bind λf=>(r.e Γ b).bind λg=>some (KU f g)
   |[a,b,c]=>(r.e Γ a).bind λf=>(r.e Γ b).bind λg=>(r.e Γ c).bind λh=>some (z2L f g h)
   |_=>none)
  |_=>none)
 |_=>none
theorem z0j{D:DP}:IOk D U5:=by
 intro r H X W Γ k tg e d C ht h
 unfold U5 at h
 split at h
 ·rename_i x p0 as pos
  have hh:=zx h
  clear h
  obtain⟨hb,h⟩:=hh
  simp only[z8j] at hb
  obtain⟨⟨h0,h2⟩,h3⟩:=hb
  have h0:=beq_iff_eq.mp h0
  subst h0
  cases hl:Γ.look "range" with
  |none=>
   obtain⟨hx,hg⟩:=qW hl (by intro z;cases z)
   simp only[hl] at h
   match as with
   |[]=>cases h
   |[a]=>
    simp only[z9e,z8j] at h3
    obtain⟨f,h1,h⟩:=bnd h
    cases h
    exact z0F C hx hg h3.1 (H.e C h1)
   |[a,b]=>
    simp only[z9e,z8j] at h3
    obtain⟨f,h1,h⟩:=bnd h
    obtain⟨g,h4,h⟩:=bnd h
    cases h
    exact XZ C hx hg h3.1 h3.2.1 (H.e C h1) (H.e C h4)
   |[a,b,c]=>
    simp only[z9e,z8j] at h3
    obtain⟨f,h1,h⟩:=bnd h
    obtain⟨g,h4,h⟩:=bnd h
    obtain⟨g2,h5,h⟩:=bnd h
    cases h
    exact XS C hx hg h3.1 h3.2.1 h3.2.2.1 (H.e C h1) (H.e C h4) (H.e C h5)
   |_::_::_::_::_=>cases h
  |_=>simp[hl] at h
 ·cases h
def riE:IR:=λr Γ e=>(r.e Γ e).bind λf=>some (iE f)
theorem z3U{D:DP}:IOk D riE:=by
 intro r H X W Γ k tg e d C ht h
 obtain⟨f,h1,h⟩:=bnd h
 cases h
 exact z2j (H.e C h1)
def z2D:ER:=λr Γ e=>match e with
 |.List es _=>gd (decide (es.length<=room)) ((cEs r Γ es).bind λfs=>some (Y3 fs))
 |_=>none
theorem YF{D:DP}:EOk D z2D:=by
 intro r H X W Γ k e d C h
 cases e with
 |List es p=>
  obtain⟨hl,h⟩:=zx h
  obtain⟨fs,h1,h⟩:=bnd h
  cases h
  exact z3B (of_decide_eq_true hl) (wk H C h1)
 |_=>cases h
def Xh (r:Rec)(Γ:Cn)(x:Str)(e:Expr):Option De:=match Γ.own.contains x with
 |true=>r.o Γ e
 |false=>r.e Γ e
theorem Wc{D:DP}{r:Rec}{X:Cx}{W:XW}{Γ:Cn}{k:Nat}(H:RecOk D r)(C:Ck D W Γ X k){x:Str}{e:Expr}{d:De}(h:Xh r Γ x e=some d):PE X e (rdE D W d):=by
 unfold Xh at h
 cases q:Γ.own.contains x with
 |true=>rw[q] at h;exact H.o C h
 |false=>rw[q] at h;exact H.e C h
def z2U:SR:=λr Γ s=>match s with
 |.Return o _=>(match o with
  |some e=>(Xh r Γ "return" e).bind λf=>some (zt f)
  |none=>some UB)
 |_=>none
theorem U2{D:DP}:SOk D z2U:=by
 intro r H X W Γ k e d C h
 cases e with
 |Return o p=>
  cases o with
  |none=>cases h;exact z2v
  |some e=>
   obtain⟨f,h1,h⟩:=bnd h
   cases h
   exact z5s (Wc H C.toCk h1)
 |_=>cases h
noncomputable def isCall:Expr->Bool
 |.Call _ _ _ _=>true
 |.Constant _ _ _=>true
 |_=>false
def z2Z:SR:=λr Γ s=>match s with
 |.Expr e _=>gd (isCall e) ((r.e Γ e).bind λf=>some (qb f))
 |_=>none
theorem Yf{D:DP}:SOk D z2Z:=by
 intro r H X W Γ k e d C h
 cases e with
 |Expr e p=>
  obtain⟨hb,h⟩:=zx h
  obtain⟨f,h1,h⟩:=bnd h
  cases h
  exact z1e (by cases e<;>first|(simp[isCall] at hb;done)|rfl) (H.e C.toCk h1)
 |_=>cases h
def z6T:SR:=λr Γ s=>match s with
 |.If c a b _=>(r.t Γ c).bind λt=>(zo (r.s Γ) a).bind λus=>(zo (r.s Γ) b).bind λvs=>some (sIf t us vs)
 |_=>none
theorem z1j{D:DP}:SOk D z6T:=by
 intro r H X W Γ k e d C h
 cases e with
 |If c a b p=>
  obtain⟨t,h1,h⟩:=bnd h
  obtain⟨us,h2,h⟩:=bnd h
  obtain⟨vs,h3,h⟩:=bnd h
  cases h
  exact z6F (H.t C.toCk h1) (qU H C h2) (qU H C h3)
 |_=>cases h
noncomputable def Qp:Expr->Bool
 |.ListComp _ _ _ _=>true
 |.SetComp _ _ _ _=>true
 |.DictComp _ _ _ _ _=>true
 |_=>false
def z70 (r:Rec)(Γ:Cn)(t e:Expr):Option Ds:=match t with
 |.Name x _=>(idx Γ.N x).bind λi=>(match e with
  |.ListComp elt gs sc _=>(match gs with
   |[g]=>gd (g.is_async == 0) ((z3e r Γ elt g.target g.iter g.ifs sc (match Γ.own.contains x with|true=>xt|false=>qY)).bind λf=>some (zj i f))
   |_=>none)
  |e=>gd (!Qp e) ((Xh r Γ x e).bind λf=>some (zj i f)))
 |.Tuple es _ _=>gd (Γ.calm&&kB e) ((idxs Γ.N es).bind λis=>(r.e Γ e).bind λf=>some (jh is f))
 |.Attribute o x _=>(Γ.fld.lookup x).bind λn=>(Xh r Γ x e).bind λf=>(r.e Γ o).bind λgo=>some (qw go n f)
 |.Subscript o b _=>gd (qJ b) ((r.e Γ e).bind λf=>(r.e Γ o).bind λgo=>(r.e Γ b).bind λgb=>some (z6E go gb f))
 |_=>none
def z2T:SR:=λr Γ s=>match s with
 |.Assign ts e _=>(match ts with
  |[t]=>z70 r Γ t e
  |_=>none)
 |_=>none
theorem z1h{D:DP}{r:Rec}(H:RecOk D r){X:Cx}{W:XW}{Γ:Cn}{k:Nat}{t e:Expr}{pos:Pos}{d:Ds}(C:Sk D W Γ X k)(h:z70 r Γ t e=some d):PS X (.Assign [t] e pos) (rdS D W d):=by
 cases t with
 |Name x p=>
  obtain⟨i,hi,h⟩:=bnd h
  have gen:Qp e=false->gd (!Qp e) ((Xh r Γ x e).bind λf=>some (zj i f))=some d->PS X (.Assign [.Name x p] e pos) (rdS D W d):=λhc h=>by
   obtain⟨_,h⟩:=zx h
   obtain⟨f,h1,h⟩:=bnd h
   cases h
   exact Uh C hi (by cases e<;>first|(simp[Qp] at hc;done)|rfl) (Wc H C.toCk h1)
  cases e with
  |ListComp elt gs sc pc=>
   match gs with
   |[]=>cases h
   |_::_::_=>cases h
   |[⟨tg,iter,ifs,z⟩]=>
    have hh:=zx h
    clear h gen
    obtain⟨hz,h⟩:=hh
    have hz:z=0:=beq_iff_eq.mp hz
    subst hz
    obtain⟨f,h1,h⟩:=bnd h
    cases h
    obtain⟨fs,tgt,fi,cs,fe,q1,q2,q3,q4,q5,q6,q7,q8,rfl⟩:=Kw h1
    have he:(match Γ.own.contains x with|true=>xt|false=>qY) (za tg).length fs tgt fi cs fe=(match Γ.own.contains x with|true=>xt (za tg).length fs tgt fi cs fe|false=>qY (za tg).length fs tgt fi cs fe):=by cases Γ.own.contains x<;>rfl
    have key:∀bb,zbq (.ListComp elt [⟨tg,iter,ifs,0⟩] sc pc) (some (.Name x p)) pos.line X.env=pure bb->PS X (.Assign [.Name x p] (.ListComp elt [⟨tg,iter,ifs,0⟩] sc pc) pos) (rdS D W (zj i (match Γ.own.contains x with|true=>xt (za tg).length fs tgt fi cs fe|false=>qY (za tg).length fs tgt fi cs fe))):=λbb hsw=>by
     cases bb with
     |true=>exact z1o C q1 hi q2 q4 q5 (H.i C.toCk q3.2 q6) (λX' W' C'=>H.e C' q8) (λX' W' C'=>kr H C' q7) (Vw q3.1) _ hsw
     |false=>
      refine Uh C hi hsw ?_
      cases Γ.own.contains x with
      |true=>exact z0m C.toCk q1 q2 q4 q5 (H.i C.toCk q3.2 q6) (λX' W' C'=>H.e C' q8) (λX' W' C'=>kr H C' q7) (Vw q3.1)
      |false=>exact Ky C.toCk q1 q2 q4 q5 (H.i C.toCk q3.2 q6) (λX' W' C'=>H.e C' q8) (λX' W' C'=>kr H C' q7) (Vw q3.1)
    rw[he]
    exact key _ rfl
  |SetComp _ _ _ _=>cases h
  |DictComp _ _ _ _ _=>cases h
  |_=>exact gen rfl h
 |Tuple es kk p=>
  obtain⟨hb,h⟩:=zx h
  simp only[z8j] at hb
  obtain⟨is,h1,h⟩:=bnd h
  obtain⟨f,h2,h⟩:=bnd h
  cases h
  exact z5w C hb.1 hb.2 h1 (H.e C.toCk h2)
 |Attribute o x p=>
  obtain⟨n,h1,h⟩:=bnd h
  obtain⟨f,h2,h⟩:=bnd h
  obtain⟨go,h3,h⟩:=bnd h
  cases h
  exact z4C C (lookup_mem h1) (Wc H C.toCk h2) (H.e C.toCk h3)
 |Subscript o b p=>
  obtain⟨hb,h⟩:=zx h
  obtain⟨f,h1,h⟩:=bnd h
  obtain⟨go,h2,h⟩:=bnd h
  obtain⟨gb,h3,h⟩:=bnd h
  cases h
  exact z3W C hb (H.e C.toCk h1) (H.e C.toCk h2) (H.e C.toCk h3)
 |_=>cases h
theorem z0l{D:DP}:SOk D z2T:=by
 intro r H X W Γ k e d C h
 cases e with
 |Assign ts e p=>
  match ts with
  |[]=>cases h
  |[t]=>exact z1h H C h
  |_::_::_=>cases h
 |_=>cases h
def z2S:SR:=λr Γ s=>match s with
 |.For tg it b els _=>gd (Γ.calm&&wN it&&els.isEmpty&&Yp tg it) ((wG Γ.N tg).bind λtgt=>(r.i Γ it).bind λfi=>(zo (r.s Γ) b).bind λvs=>some (QR tgt fi vs))
 |_=>none
theorem Us{D:DP}:SOk D z2S:=by
 intro r H X W Γ k e d C h
 cases e with
 |For tg it b els p=>
  obtain⟨hb,h⟩:=zx h
  simp only[z8j] at hb
  obtain⟨tgt,h1,h⟩:=bnd h
  obtain⟨fi,h2,h⟩:=bnd h
  obtain⟨vs,h3,h⟩:=bnd h
  cases h
  cases els with
  |nil=>exact z3a C hb.1.1.1 h1 (H.i C.toCk hb.2 h2) (qU H C h3) (Vw hb.1.1.2)
  |cons _ _=>simp at hb
 |_=>cases h
def z31:SR:=λr Γ s=>match s with
 |.While c b els _=>gd els.isEmpty ((r.t Γ c).bind λt=>(zo (r.s Γ) b).bind λvs=>some (Wb t vs))
 |_=>none
theorem UT{D:DP}:SOk D z31:=by
 intro r H X W Γ k e d C h
 cases e with
 |While c b els p=>
  obtain⟨hb,h⟩:=zx h
  obtain⟨t,h1,h⟩:=bnd h
  obtain⟨vs,h3,h⟩:=bnd h
  cases h
  cases els with
  |nil=>exact Ul C (H.t C.toCk h1) (qU H C h3)
  |cons _ _=>simp at hb
 |_=>cases h
noncomputable def z2g:Stmt->Option Expr
 |.Raise (some e) none _=>some e
 |_=>none
theorem KD{s:Stmt}{e:Expr}(h:z2g s=some e):∃p,s=.Raise (some e) none p:=by
 unfold z2g at h
 split at h
 ·cases h;exact⟨_,rfl⟩
 ·cases h
noncomputable def K8:Expr->Option (Str×List Expr)
 |.Call (.Name x _) as [] _=>some (x,as)
 |_=>none
theorem V5{e:Expr}{q:Str×List Expr}(h:K8 e=some q):∃p0 p1,e=.Call (.Name q.1 p0) q.2 [] p1:=by
 unfold K8 at h
 split at h
 ·cases h;exact⟨_,_,rfl⟩
 ·cases h
def YG:SR:=λr Γ s=>(z2g s).bind λe=>(K8 e).bind λq=>gd (Γ.calm&&(idx Γ.N q.1).isNone&&!q.2.isEmpty) ((cEs r Γ q.2).bind λfs=>(match Γ.look q.1 with
  |.xcl c=>some (zQ c fs)
  |_=>none))
theorem UY{D:DP}:SOk D YG:=by
 intro r H X W Γ k e d C h
 unfold YG at h
 obtain⟨e',h0,h⟩:=bnd h
 obtain⟨⟨x,as⟩,h2,h⟩:=bnd h
 obtain⟨p2,rfl⟩:=KD h0
 obtain⟨p0,p1,rfl⟩:=V5 h2
 obtain⟨hb,h⟩:=zx h
 simp only[z8j] at hb
 cases as with
 |nil=>exact absurd hb.2 (by simp)
 |cons a as=>
  obtain⟨fs,h1,h⟩:=bnd h
  cases hl:Γ.look x with
  |xcl c=>
   simp only[hl] at h
   cases h
   obtain⟨hx,hg⟩:=qW hl (by intro z;cases z)
   exact UE C hb.1.1 hx hg (wk H C.toCk h1)
  |_=>simp[hl] at h
def hdl (r:Rec)(Γ:Cn):zb0->Option (List Nat×Option Nat×List Ds)
 |.ExceptHandler t nm suite _=>(match t with
  |some (.Name x _)=>gd ((idx Γ.N x).isNone&&Γ.G.contains x&&!suite.isEmpty&&(match Γ.gl x with|.xcl c=>Γ.cls.lookup x == some c&&Nat.blt c 40|.xcf c _=>Γ.cls.lookup x == some c&&Nat.blt c 40|_=>false)) ((Γ.cls.lookup x).bind λc=>(zo (r.s {Γ with calm:=false}) suite).bind λvs=>(match nm with
   |none=>some ([c],none,vs)
   |some e=>gd (!Γ.cel.contains e) ((idx Γ.N e).bind λj=>some ([c],some j,vs))))
  |_=>none)
theorem z0C{D:DP}{r:Rec}(H:RecOk D r){Γ:Cn}{k:Nat}:∀{hs:List zb0} {gs:List (List Nat×Option Nat×List Ds)},zo (hdl r Γ) hs=some gs->Zo D Γ k hs gs
 |[],gs,h=>by cases h;trivial
 |.ExceptHandler t nm suite p::hs,gs,h=>by
  obtain⟨g,h1,h⟩:=bnd h
  obtain⟨gs',h2,h⟩:=bnd h
  cases h
  have ih:=z0C (k:=k) H h2
  cases t with
  |none=>cases h1
  |some t=>
   cases t with
   |Name x p0=>
    have q0:=zx h1
    clear h1
    obtain⟨hb,q1⟩:=q0
    simp only[z8j] at hb
    have q2:=bnd q1
    clear q1
    obtain⟨c,hc,q3⟩:=q2
    have q4:=bnd q3
    clear q3
    obtain⟨vs,hv,h1⟩:=q4
    have hcok:HcOk Γ x c:=by
     refine⟨by simpa using hb.1.1.2,lookup_mem hc,?_⟩
     have h4:=hb.2
     rw[hc] at h4
     cases hg:Γ.gl x with
     |xcl c'=>
      simp only[hg,z8j] at h4
      have:c=c':=z8m (beq_iff_eq.mp h4.1)
      rw[this];exact⟨.inr rfl,Nat.blt_eq.mp h4.2⟩
     |xcf c' f=>
      simp only[hg,z8j] at h4
      have:c=c':=z8m (beq_iff_eq.mp h4.1)
      rw[this];exact⟨.inl ⟨f,rfl⟩,Nat.blt_eq.mp h4.2⟩
     |_=>rw[hg] at h4;cases h4
    have hne:=hb.1.2
    clear hb
    have h1':=h1
    clear h1
    have h1:=h1'
    clear h1'
    cases suite with
    |nil=>simp at hne
    |cons b0 suite=>
     cases nm with
     |none=>
      cases h1
      exact⟨⟨_,_,_,_,_,_,_,_,_,rfl,rfl,hcok,trivial,λX' C'=>qU H C' hv⟩,ih⟩
     |some e=>
      obtain⟨he,h1⟩:=zx h1
      obtain⟨j,hj,h1⟩:=bnd h1
      cases h1
      exact⟨⟨_,_,_,_,_,_,_,_,_,rfl,rfl,hcok,⟨hj,by simpa using he⟩,λX' C'=>qU H C' hv⟩,ih⟩
   |_=>cases h1
def z2Q:SR:=λr Γ s=>match s with
 |.Try b hs els fin _=>gd (Γ.calm&&!hs.isEmpty&&els.isEmpty&&fin.isEmpty) ((zo (r.s Γ) b).bind λus=>(zo (hdl r Γ) hs).bind λgs=>some (z0N us gs))
 |_=>none
theorem z07{D:DP}:SOk D z2Q:=by
 intro r H X W Γ k e d C h
 cases e with
 |Try b hs els fin p=>
  obtain⟨hb,h⟩:=zx h
  simp only[z8j] at hb
  obtain⟨us,h1,h⟩:=bnd h
  obtain⟨gs,h2,h⟩:=bnd h
  cases h
  cases els with
  |cons _ _=>simp at hb
  |nil=>
   cases fin with
   |cons _ _=>simp at hb
   |nil=>
    cases hs with
    |nil=>simp at hb
    |cons h0 hs=>exact z59 C hb.1.1.1 (λX' W' C'=>qU H C' h1) (z0C H h2)
 |_=>cases h
structure MdOk(D:DP)(P:Program)(w:World)(K:PySem.W.Frag)(mg:Str->Option Value)(base:Heap)(Γ:Cn)(k:Nat):Prop where
 hK:K=D.K
 glo:∀x∈Γ.U,GlOkM D P w K mg base k x (Γ.gl x)/\(x == ("__debug__":Str))=false
 isi:∀t x c,(x,c)∈Γ.cls->∀u v,WM D t u->yZ mg x v->zb_ K u v=some (vP t c)
 fld:∀c C x f,D.cad c=some C->(x,f)∈Γ.fld->D.fn f=some x/\Cls K C/\NoAttr K C x
 xcx:∀c C,D.adr c=some C->XCls K C
 ocx:∀c C,D.cad c=some C->OCls K C
 clv:∀x c,(x,c)∈Γ.cls->∃u v,yZ mg x u/\ClsV v u
 xmt:∀t x c,(x,c)∈Γ.cls->c<40->∀Ct Cc,D.adr t=some Ct->mg x=some (.ref Cc)->zdb K (.ref Ct) (.ref Cc)=some (vP t c)
noncomputable def jN(Γ:Cn)(ps:List Str)(sc:Scope):Bool:=
 (sc.kind == .function)&&!sc.isCoroutine&&!sc.isGenerator&&decide (Γ.N.Nodup)&&(Γ.N.take ps.length == ps)&&sc.names.all (λy=>y.2 != .free)&&
 Γ.N.all (λx=>x != ("__debug__":Str)&&x != ("__classdict__":Str)&&(if Γ.cel.contains x then sc.names.lookup x == some .cell else sc.names.lookup x == some .local))&&
 Γ.G.all (λx=>Γ.U.contains x&&sc.names.lookup x == some .globalImplicit)&&Γ.cel.all (λx=>Γ.N.contains x)&&Γ.calm
theorem ZP{X:Cx}{W:XW}{e:Value}{s:z8k}(p:XP X W e s):X.A.frames=some X.stack:=by
 obtain⟨_,_,_,_,_,_,_,_,I,_⟩:=p
 exact I.ok.frames
theorem K3:∀(ts:List T) (n:Nat),Yx ts n=ts.map some++z8P n none
 |[],n=>by
  have:∀n,pad n=z8P n none:=λn=>by
   induction n with
   |zero=>rfl
   |succ n ih=>show none::pad n=_;rw[ih];rfl
  exact this n
 |t::r,n=>by show some t::Yx r n=_;rw[K3 r n];rfl
section
variable {D:DP}{P:Program}{w:World}{K:PySem.W.Frag}{mg:Str->Option Value}{base:Heap}{Γ:Cn}{k n:Nat}
theorem uK{φ α:List Addr}{H:Hp}{N:List Str}{ts:List T}{vs:List V}(d:DenL D φ α H ts vs):SRel D φ α H (Yx ts (N.length-ts.length)) (L2.start N vs):=by
 have hl:=d.length
 rw[K3]
 refine⟨by simp[L2.start,hl],λi t e=>?_⟩
 by_cases hi:i<ts.length
 ·rw[z8p (by simpa using hi),z8U] at e
  cases q:ts[i]? with
  |none=>rw[q] at e;cases e
  |some t'=>
   rw[q] at e
   have e:some (some t')=some (some t):=e
   cases e
   obtain⟨v,hv,dv⟩:=d.get q
   refine⟨v,?_,dv⟩
   unfold L2.start
   rw[z8p (by rw[z8B,←hl];exact hi),z8U,hv]
   rfl
 ·rw[z8r (by simpa using hi),zaq] at e
  split at e<;>cases e
theorem vB{R:Rules}(HR:RulesOk D R){f:Addr}{name qual:Str}{params:Arguments}{body:List Stmt}{scope:Scope}{dV kV doc pm cdv ct oc:Value}{an od:Option Addr}{osl:Array (Option Value)}{ps:List Str}{m:Nat}{ds:List Ds}
    (M:MdOk D P w K mg base Γ k) (lk:K.lookup f=some ⟨oc,od,.func (z9u name qual params body scope dV kV doc pm an cdv ct),osl⟩) (hcd:zaO K cdv qual=true) (hs:jN Γ ps scope=true) (hm:Γ.N.length=ps.length+m) (hds:zo ((comp R n).s Γ) body=some ds) (hlam:LamOk D mg base cdv (qual++".<locals>.") k Γ.lam:=by exact LamOk.no rfl) :
    FnOk P w K mg base (CX1 P w) (k+1) f (z9u name qual params body scope dV kV doc pm an cdv ct) ps (spN D ps.length (fnW ps.length m ds)):=by
  simp only[jN,z8j,z92,beq_iff_eq,z9O,decide_eq_true_eq,bne_iff_ne,ne_eq] at hs
  obtain⟨⟨⟨⟨⟨⟨⟨⟨⟨h1,h2⟩,h3⟩,h4⟩,h5⟩,h6⟩,h7⟩,h8⟩,h9⟩,h10⟩:=hs
  have kin:∀x∈Γ.N,(Γ.cel.contains x=true/\scope.names.lookup x=some .cell)\/(Γ.cel.contains x=false/\scope.names.lookup x=some .local):=λx hx=>by
    have q:=(h7 x hx).2
    cases hc:Γ.cel.contains x with
    |true=>rw[hc,if_pos rfl] at q;exact .inl ⟨rfl,beq_iff_eq.mp q⟩
    |false=>rw[hc] at q;exact .inr ⟨rfl,beq_iff_eq.mp q⟩
  have loc:∀x∈Γ.N,scope.names.lookup x=some .local\/scope.names.lookup x=some .cell:=λx hx=>(kin x hx).elim (λz=>.inr z.2) λz=>.inl z.2
  have S:FnScope Γ.N ps scope:=⟨h1,h2,h3,h4,h5,λx hx=>loc x (by rw[←h5] at hx;exact zaQ hx),h6⟩
  refine z2I (fnb:=λ_=>true) lk hcd S (λvs H Q E q=>q.1) λA outer s H vs Q E hr hsp _=>?_
  obtain⟨hl,φ,α,ts,μ,d,mr,K0,Z0,⟨hle,q⟩,hk0,hz0⟩:=hsp
  generalize hX:QM (CX1 P w) P w K mg base Γ.N qual scope f cdv A outer s H E=X
  have F:Frm X (zaF qual scope s.heap.objs.size f cdv) outer s.heap.objs.size:=by rw[←hX];exact⟨rfl,rfl,rfl⟩
  have C:Sk D (wOf E) Γ (X.wish (XP X (wOf E))) k:=by
    have xe:∀e s,XP (X.wish (XP X (wOf E))) (wOf E) e s->XP X (wOf E) e s:=λe s p=>xr p
    have pso:zdf (z8u X.prog X.w) X.A X.env (XP X (wOf E)):=λe s p=>Qc F (ZP p) e s p
    subst hX
    exact { hK := M.hK,hN := rfl,nd := h4,vis := fun x hx => (loc x hx).elim .inl fun z => .inr (.inl z),dbg := fun x hx => ⟨beq_eq_false_iff_ne.mpr (h7 x hx).1.1,beq_eq_false_iff_ne.mpr (h7 x hx).1.2⟩,
            dbG:=λx hx=>(M.glo x (by simpa using (h8 x hx).1)).2,glb:=λx hx=>(h8 x hx).2,glo:=λx hx=>(M.glo x (by simpa using (h8 x hx).1)).1,glU:=M.glo,
            cel:=λx hx=>.inl ((kin x (by simpa using h9 x hx)).elim (λz=>z.2) λz=>by have:=z.1;rw[za6.mpr hx] at this;cases this),
            isi:=M.isi,fld:=M.fld,xcx:=M.xcx,ocx:=M.ocx,clv:=M.clv,clm:=λ_=>rfl,rom:=λ_=>hr,rmh:=⟨hr.dp,hr.un⟩,xe:=xe,frm:=⟨_,_,_,F.stk,F.f0,F.fe⟩,lam:=hlam,
            sto:=λx hx=>⟨loc x hx,.inl rfl⟩,lcl:=λx hx hc=>(kin x hx).elim (λz=>by rw[z.1] at hc;cases hc) λz=>z.2,pso:=pso,xmt:=M.xmt}
  have B:PSs X body (rdS D (wOf E) (zM ds)):=λpins s1 σ1 H1 E1 I1 q=>by
    refine z8Y (qT (qU (wU HR n) C hds) pins s1 σ1 H1 E1 (I1.wish _) q) (λf s' q=>q.unwish) λe s' p=>?_
    have p:XP X (wOf E) e s':=p
    have:=UZ (M:=z8u X.prog X.w) (F2:=λe' s''=>CX1 X.prog X.w X.outer X.H₀ X.s₀ E e' s'') F (ZP p) (by rw[←hX];rfl) p
    subst hX
    exact this
  have hmm:Γ.N.length-ts.length=m:=by omega
  refine⟨_,B,φ,α,_,μ,uK d,mr,{nx:=λ_ μ1=>K0 .non μ1,rt:=K0,bk:=λ_ _=>False,ct:=λ_ _=>False,ex:=λc fs _ μ1=>Z0 c fs μ1},by rw[hmm];exact q,λ_ μ1 z α' H' σ' st m _=>hk0 _ _ z α' H' st m .non rfl,λ_ _ z=>z.elim,λ_ _ z=>z.elim,λt μ1 z α' H' v st m dv=>hk0 _ _ z α' H' st m v dv,λc fs _ μ1 z α' H' σ' C1 dd st m _ ad xd=>hz0 c fs μ1 z α' H' C1 dd st m ad xd⟩
theorem qA{n m:Nat}{ds:List Ds}:∀ts μ K Z,fnW n m ds ts μ K Z->ts.length=n:=λ_ _ _ _ h=>h.1
end
def JX:z8o->Bool
 |[]=>true
 |p::r=>(match p.2.cls with|.type t=>t != "list" | _=>true)&&JX r
theorem JZ:∀{K:z8o} {a:Addr} {o:Obj},JX K=true->K.lookup a=some o->o.cls≠.type "list"
 |[],_,_,_,h=>by cases h
 |(b,p)::r,a,o,hn,h=>by
  simp only[JX,z8j] at hn
  rw[z8_] at h
  cases q:a == b with
  |true=>
   rw[q] at h
   cases h
   intro e
   have h1:=hn.1
   rw[e] at h1
   exact absurd h1 (by decide)
  |false=>rw[q] at h;exact JZ hn.2 h
theorem Ql{D:DP}{φ α:List Addr}{H:Hp}:∀(ns:List Int),DenL D φ α H (ns.map T.int) (ns.map V.int)
 |[]=>rfl
 |n::r=>⟨.int n,r.map V.int,rfl,rfl,Ql r⟩
def FLD:List Str:=["moments","houses","counts","start","turns","holder","lease","until","is_cut","shape","grants","house","begin","end","ahead","stride","keeper","mark","newest","batches","has_fallen","clock","kept","common","given","now","seats","world","line","by"]
theorem z4P:FLD.Nodup:=by decide +kernel
structure Ads where
 xs:List (Nat×Addr)
 cs:List (Nat×Addr)
def mkD (K:z8o)(A:Ads)(clo:Nat->Addr->Option HO->List V->Prop)(tabs:Nat->Option (Addr×List Pos×Str):=λ_=>none):DP:=⟨K,λc=>A.xs.lookup c,λc=>A.cs.lookup c,λi=>FLD[i]?,λi j x h1 h2=>kg z4P h1 h2,clo,tabs⟩
def cn (cls fld:List (Str×Nat))(gs:List (Str×GM))(N G cel own:List Str)(lam:Option (Nat×List Pos):=none):Cn where
 N:=N
 G:=G
 calm:=true
 gl:=λx=>(gs.lookup x).getD .bad
 cls:=cls
 fld:=fld
 U:=gs.map (·.1)
 cel:=cel
 own:=own
 lam:=lam
noncomputable def tys(A:Ads):List (Nat×Value):=[(0,.type "NoneType"),(1,.type "bool"),(2,.type "int"),(3,.type "str"),(4,.type "tuple"),(5,.type "list"),(6,.type "dict")]++(A.xs.map λp=>(p.1,z8J p.2))++A.cs.map λp=>(p.1,z8J p.2)
noncomputable def YY(K:z8o)(c:Str):Option Value:=match zbh K z8D c with
 |some (some v)=>some v
 |some none=>if c == ("__name__":Str) then none else z9S c
 |none=>none
noncomputable def z6S:Value->Bool
 |.ref _=>true
 |.type _=>true
 |_=>false
noncomputable def isC(o:Option (Option Value))(s:String):Bool:=match o with
 |some (some (.builtin x))=>x == s
 |_=>false
theorem uH{o:Option (Option Value)}{s:String}(h:isC o s=true):o=some (some (.builtin s)):=by
 unfold isC at h
 split at h
 ·rw[beq_iff_eq.mp h]
 ·cases h
noncomputable def Yg(o:Option (Option Value)):Bool:=match o with
 |some none=>true
 |_=>false
theorem QK{o:Option (Option Value)}(h:Yg o=true):o=some none:=by
 unfold Yg at h
 split at h
 ·rfl
 ·cases h
noncomputable def isB(o:Option Bool)(b:Bool):Bool:=match o with|some c=>c == b|none=>false
theorem uw{o:Option Bool}{b:Bool}(h:isB o b=true):o=some b:=by
 cases o with
 |none=>cases h
 |some c=>have:(c == b)=true:=h;rw[beq_iff_eq.mp this]
def z0G (K:z8o)(C:Addr):Bool:=isC (z8N K (.ref C) "__class__") "object.__class__"&&isC (zaf K (.builtin "object.__class__") "__get__") "getset_descriptor.__get__"&&isB (zbD K (.builtin "object.__class__")) true&&isB (zaE K C (.type "object")) true
def z2R(K:z8o)(C:Addr):Bool:=z0G K C&&isC (z8N K (.ref C) "__getattribute__") "BaseException.__getattribute__"&&Yg (z8N K (.ref C) "__getattr__")&&isB (zaE K C (.type "BaseException")) true&&(zbt K C).isSome
def Ud(K:z8o)(C:Addr):Bool:=z0G K C&&zaS K C zbM&&zab K C&&zc9 K C&&isC (z8N K (.ref C) "__setattr__") "object.__setattr__"
def chk (K:z8o)(A:Ads)(cls fld:List (Str×Nat)):Bool:=
 cls.all (λp=>match YY K p.1 with
  |some v=>z6S v&&(tys A).all (λq=>isB (zb_ K q.2 v) (vP q.1 p.2))&&(zfN 40 p.2 || (match v with|.ref C=>A.xs.all (λq=>isB (zdb K (.ref q.2) (.ref C)) (vP q.1 p.2))|_=>true))
  |none=>false)&&
 A.xs.all (λq=>z2R K q.2)&&A.cs.all (λq=>Ud K q.2&&fld.all (λp=>Yg (z8N K (.ref q.2) p.1)))&&fld.all (λp=>match FLD[p.2]? with|some x=>x == p.1|none=>false)
theorem uM{K:z8o}{h:Heap}{mg:Str->Option Value}{c:Str}{v:Value}(X:K.In h)(G:h.Ns z8D mg)(e:YY K c=some v):yZ mg c v/\∀u,yZ mg c u->u=v:=by
 unfold YY at e
 split at e
 ·rename_i v' q
  cases e
  have m:=zbI X G q
  refine⟨.inl m,λu z=>?_⟩
  rcases z with z|⟨z,_⟩
  ·rw[m] at z;cases z;rfl
  ·rw[m] at z;cases z
 ·rename_i q
  have m:=zdK X G q
  split at e
  ·cases e
  ·rename_i hn
   refine⟨.inr ⟨m,e,λz=>hn (by rw[z];rfl)⟩,λu z=>?_⟩
   rcases z with z|⟨_,z,_⟩
   ·rw[m] at z;cases z
   ·rw[e] at z;cases z;rfl
 ·cases e
theorem qv{α β:Type}[BEq α][LawfulBEq α]{x:α}{v:β}:∀{l:List (α×β)},l.lookup x=some v->(x,v)∈l
 |[],h=>by cases h
 |(y,w)::r,h=>by
  rw[z8_] at h
  cases q:x == y with
  |true=>rw[q] at h;cases h;rw[beq_iff_eq.mp q];exact z8M
  |false=>rw[q] at h;exact z8y _ (qv h)
theorem lookup_some{α:Type}{x:Str}:∀{l:List (Str×α)},x∈l.map (·.1)->∃v,l.lookup x=some v
 |[],h=>by simp at h
 |(y,w)::r,h=>by
  rw[z8_]
  cases q:x == y with
  |true=>exact⟨w,rfl⟩
  |false=>
   rcases z8T.mp h with z|z
   ·have z:x=y:=z
    rw[z] at q;simp at q
   ·exact lookup_some z
section
variable {P:Program}{w:World}{K:PySem.W.Frag}{mg:Str->Option Value}{base:Heap}{A:Ads}{clo:Nat->Addr->Option HO->List V->Prop}{cls fld:List (Str×Nat)}{gs:List (Str×GM)}{N G cel own:List Str}{k:Nat}{lam:Option (Nat×List Pos)}{tabs:Nat->Option (Addr×List Pos×Str)}
theorem z3t{t:Nat}{u:Value}(h:WM (mkD K A clo tabs) t u):(t,u)∈tys A:=by
 unfold tys
 rcases h with⟨rfl,rfl⟩|⟨rfl,rfl⟩|⟨rfl,rfl⟩|⟨rfl,rfl⟩|⟨rfl,rfl⟩|⟨rfl,rfl⟩|⟨C,h,rfl⟩|⟨rfl,rfl⟩|⟨C,h,rfl⟩
 ·simp
 ·simp
 ·simp
 ·simp
 ·simp
 ·simp
 ·exact z8E _ (z8s _ (z9b.mpr ⟨(t,C),qv h,rfl⟩))
 ·simp
 ·exact z8s _ (z9b.mpr ⟨(t,C),qv h,rfl⟩)
def GsOk (P:z91)(w:z9c)(K:z8o)(mg:Str->Option Value)(base:Heap)(A:Ads)(clo:Nat->Addr->Option HO->List V->Prop)(k:Nat)(gs:List (Str×GM))(tabs:Nat->Option (Addr×List Pos×Str):=λ_=>none):Prop:=∀p∈gs,GlOkM (mkD K A clo tabs) P w K mg base k p.1 p.2/\(p.1 == ("__debug__":Str))=false
theorem GlOkM.mono{D:DP}{j k:Nat}{x:Str}{g:GM}(h:j<=k)(q:GlOkM D P w K mg base j x g):GlOkM D P w K mg base k x g:=by
 cases g with
 |fn f=>obtain⟨fa,a,fd,ps,kk,b,c,d,r⟩:=q;exact⟨fa,a,fd,ps,kk,b,c,z8G d h,r⟩
 |fnh nm f=>obtain⟨fa,a,fd,ps,kk,b,c,d,r⟩:=q;exact⟨fa,a,fd,ps,kk,b,c,z8G d h,r⟩
 |met c nm f=>obtain⟨C,fI,fd,ps,kk,a,b,c,d,e,f1,r⟩:=q;exact⟨C,fI,fd,ps,kk,a,b,c,d,e,z8G f1 h,r⟩
 |mk c z f=>obtain⟨C,fI,fd,ps,kk,a,b,c,d,e,r⟩:=q;exact⟨C,fI,fd,ps,kk,a,b,c,d,z8G e h,r⟩
 |xin c f nm fl=>obtain⟨C,HE,fI,fd,ps,kk,a1,a2,a3,a4,a5,a6,r⟩:=q;exact⟨C,HE,fI,fd,ps,kk,a1,a2,a3,a4,a5,z8G a6 h,r⟩
 |mkd c nm n f=>obtain⟨C,fI,fd,ps,kk,a,b,c,d,e,r⟩:=q;exact⟨C,fI,fd,ps,kk,a,b,c,d,z8G e h,r⟩
 |metd c nm n d f=>obtain⟨C,fI,fd,ps,kk,du,dv,a1,a2,a3,a4,a5,a6,a7,a8,r⟩:=q;exact⟨C,fI,fd,ps,kk,du,dv,a1,a2,a3,a4,a5,a6,a7,z8G a8 h,r⟩
 |kpr=>exact⟨λt φ α H v hj d=>let ⟨a,kk,h1,h2,h3⟩:=q.1 t φ α H v hj d;⟨a,kk,h1,z8G h2 h,h3⟩,q.2⟩
 |_=>exact q
theorem GsOk.mono{j k:Nat}(h:j<=k)(q:GsOk P w K mg base A clo j gs tabs):GsOk P w K mg base A clo k gs tabs:=λp hp=>⟨(q p hp).1.mono h,(q p hp).2⟩
theorem GsOk.add {x:Str} {g:GM} (q:GsOk P w K mg base A clo k gs tabs) (h:GlOkM (mkD K A clo tabs) P w K mg base k x g) (hx:(x == ("__debug__":Str))=false):GsOk P w K mg base A clo k ((x,g)::gs) tabs:=λp hp=>by
 rcases z8T.mp hp with rfl|z
 ·exact⟨h,hx⟩
 ·exact q p z
noncomputable def K6(bs:List Str)(xs:List (Str×Nat))(ys:List (Str×Nat×Nat)):List (Str×GM):=bs.map (λx=>(x,GM.none))++xs.map (λx=>(x.1,GM.xcl x.2))++ys.map (λx=>(x.1,GM.xcf x.2.1 x.2.2))
noncomputable def atA(K:z8o)(A:Ads)(x:Str)(c:Nat):Bool:=match A.xs.lookup c,zbh K z8D x with
 |some C,some (some (.ref C'))=>C == C'
 |_,_=>false
def YN(K:z8o)(A:Ads)(bs:List Str)(xs:List (Str×Nat))(ys:List (Str×Nat×Nat)):Bool:=
 bs.all (λx=>x != ("__debug__":Str)&&Yg (zbh K z8D x))&&
 xs.all (λx=>x.1 != ("__debug__":Str)&&atA K A x.1 x.2)&&ys.all (λx=>x.1 != ("__debug__":Str)&&atA K A x.1 x.2.1)
theorem YC{x:Str}{c:Nat}(X:K.In base)(Gm:base.Ns z8D mg)(h:atA K A x c=true):∃C,A.xs.lookup c=some C/\mg x=some (.ref C):=by
 unfold atA at h
 split at h
 ·rename_i C C' q1 q2
  have h:C=C':=beq_iff_eq.mp h
  subst h
  exact⟨C,q1,zbI X Gm q2⟩
 ·cases h
def XOkL (K:z8o)(A:Ads):List (Str×Nat)->Prop
 |[]=>True
 |p::r=>(∃C,A.xs.lookup p.2=some C/\za_ K C zT "ValueError.__new__"=true)/\XOkL K A r
theorem XOkL.at:∀{xs:List (Str×Nat)} {p:Str×Nat},XOkL K A xs->p∈xs->∀C,A.xs.lookup p.2=some C->za_ K C zT "ValueError.__new__"=true
 |q::r,p,h,hp,C,e=>by
  rcases z8T.mp hp with rfl|z
  ·obtain⟨C',e',x⟩:=h.1
   rw[e'] at e;cases e;exact x
  ·exact XOkL.at h.2 z C e
theorem Jj{bs:List Str}{xs:List (Str×Nat)}{ys:List (Str×Nat×Nat)}(X:K.In base)(Gm:base.Ns z8D mg)(h:YN K A bs xs ys=true)(hX:XOkL K A xs):GsOk P w K mg base A clo k (K6 bs xs ys) tabs:=by
 simp only[YN,z8j,z92,bne_iff_ne,ne_eq] at h
 intro p hp
 rcases z8v.mp hp with z|z
 ·rcases z8v.mp z with z|z
  ·obtain⟨x,hx,rfl⟩:=z9b.mp z
   obtain⟨h1,h2⟩:=h.1.1 x hx
   exact⟨zdK X Gm (QK h2),beq_eq_false_iff_ne.mpr h1⟩
  ·obtain⟨x,hx,rfl⟩:=z9b.mp z
   obtain⟨h1,h2⟩:=h.1.2 x hx
   obtain⟨C,q1,q2⟩:=YC X Gm h2
   exact⟨⟨C,q1,q2,XOkL.at hX hx C q1⟩,beq_eq_false_iff_ne.mpr h1⟩
 ·obtain⟨x,hx,rfl⟩:=z9b.mp z
  obtain⟨h1,h2⟩:=h.2 x hx
  obtain⟨C,q1,q2⟩:=YC X Gm h2
  exact⟨⟨C,q1,q2⟩,beq_eq_false_iff_ne.mpr h1⟩
theorem yd(X:K.In base)(Gm:base.Ns z8D mg)(hc:chk K A cls fld=true)(q:GsOk P w K mg base A clo k gs tabs):MdOk (mkD K A clo tabs) P w K mg base (cn cls fld gs N G cel own lam) k:=by
 simp only[chk,z8j,z92] at hc
 obtain⟨⟨⟨c1,c2⟩,c3⟩,c4⟩:=hc
 have cb:∀{C},z0G K C=true->z8N K (.ref C) "__class__"=some (some (.builtin "object.__class__"))/\zaf K (.builtin "object.__class__") "__get__"=some (some (.builtin "getset_descriptor.__get__"))/\zbD K (.builtin "object.__class__")=some true/\zaE K C (.type "object")=some true:=λ{C} h=>by
  simp only[z0G,z8j] at h
  exact⟨uH h.1.1.1,uH h.1.1.2,uw h.1.2,uw h.2⟩
 have oc:∀c C,A.cs.lookup c=some C->OCls K C:=λc C h=>by
  have h':=(c3 _ (qv h)).1
  simp only[Ud,z8j] at h'
  obtain⟨⟨⟨⟨h1,h2⟩,h3⟩,h4⟩,h5⟩:=h'
  obtain⟨k1,k2,k3,k4⟩:=cb h1
  exact⟨⟨h2,h3,h4,uH h5⟩,k1,k2,k3,k4⟩
 refine⟨rfl,λx hx=>?_,λt x c hxc u v hu hv=>?_,λc C x f hC hf=>?_,λc C hC=>?_,oc,λx c hxc=>?_,λt x c hxc hlt Ct Cc hCt hCc=>?_⟩
 ·obtain⟨g,hg⟩:=lookup_some (l:=gs) hx
  have:=q _ (qv hg)
  refine⟨?_,this.2⟩
  show GlOkM _ P w K mg base k x ((gs.lookup x).getD .bad)
  rw[hg]
  exact this.1
 ·have h':=c1 _ hxc
  dsimp only at h'
  split at h'
  ·rename_i v' q'
   simp only[z8j,z92] at h'
   have e:=(uM X Gm q').2 v hv
   subst e
   exact uw (h'.1.2 _ (z3t hu))
  ·cases h'
 ·have h':=c4 _ hf
  dsimp only at h'
  refine⟨?_,(oc c C hC).cl,QK ((c3 _ (qv hC)).2 _ hf)⟩
  split at h'
  ·rename_i y hy
   show FLD[f]?=some x
   rw[hy,beq_iff_eq.mp h']
  ·cases h'
 ·have h':=c2 _ (qv hC)
  simp only[z2R,z8j] at h'
  obtain⟨⟨⟨⟨h1,h2⟩,h3⟩,h4⟩,h5⟩:=h'
  obtain⟨k1,k2,k3,k4⟩:=cb h1
  exact⟨uH h2,QK h3,k1,k2,k3,k4,uw h4,h5⟩
 ·have h':=c1 _ hxc
  dsimp only at h'
  split at h'
  ·rename_i v q'
   simp only[z8j] at h'
   have hcv:=h'.1.1
   refine⟨v,(match v with|.ref C=>V.ref C|.type n=>V.ty n|_=>V.non),(uM X Gm q').1,?_⟩
   cases v with
   |ref C=>exact .inl ⟨C,rfl,rfl⟩
   |type n=>exact .inr ⟨n,rfl,rfl⟩
   |_=>cases hcv
  ·cases h'
 ·have h':=c1 _ hxc
  dsimp only at h'
  split at h'
  ·rename_i v q'
   simp only[z8j,zbE] at h'
   have e:=(uM X Gm q').2 (.ref Cc) (.inl hCc)
   subst e
   have h3:=h'.2.resolve_left (λz=>by have:=Nat.le_of_ble_eq_true z;omega)
   simp only[z92] at h3
   exact uw (h3 _ (qv hCt))
  ·cases h'
end
section
variable {X:Cx}{D:DP}{W:XW}{Γ:Cn}{k:Nat}{pins:List (Addr×Obj)}{s:Shared}{σ:St}{H:Hp}{φ α:List Addr}{τ:Sl}{μ:Mem}{pos:Pos}
theorem MRel.layO{p:Addr}{u:HO}{mo:MO}(m:MRel D φ α H μ)(hp:H p=none)(d:DenO D φ (α++[p]) (upd H p u) mo p):MRel D φ (α++[p]) (upd H p u) (μ++[mo]):=by
 have st:Stp α H (α++[p]) (upd H p u):=jb hp
 have hl:=m.len
 refine⟨by simp[hl],?_,λb hb=>?_,λb hb=>?_,λi a o e1 e2=>?_⟩
 ·rw[zbi]
  refine⟨m.nd,by simp,λa ha b hb=>?_⟩
  rw[z8l.mp hb]
  intro z
  exact zu m hp (z▸ha)
 ·rcases z8v.mp hb with h|h
  ·exact m.dis b h
  ·rw[z8l.mp h];exact zv m hp
 ·obtain⟨u,e⟩:=m.phi b hb
  exact⟨u,zh hp b u e⟩
 ·by_cases hi:i<α.length
  ·rw[z8p hi] at e1
   rw[z8p (by omega)] at e2
   have d:=m.ob i a o e1 e2
   obtain⟨u,q⟩:=d.some
   exact d.step st ((zh hp _ _ q).trans q.symm)
  ·rw[z8r (by omega)] at e1 e2
   have hi':i-α.length=0:=by
    by_cases z:i-α.length=0
    ·exact z
    ·rw[zbo (by simp;omega)] at e1;cases e1
   have hi2:i-μ.length=0:=by omega
   rw[hi'] at e1
   rw[hi2] at e2
   have e1:some p=some a:=e1
   have e2:some mo=some o:=e2
   cases e1;cases e2
   exact d
end
abbrev eB2(op:T->T->Mem->RE T)(f g:De):De:=λτ μ=>(f τ μ).bind λx μ1=>(g τ μ1).bind λy μ2=>op x y μ2
abbrev Wy(x y:T)(μ:Mem):RE T:=match x,y with
 |.int a,.int b=>.ok (.int (if b<a then b else a)) μ
 |_,_=>.st
abbrev y0(x y:T)(μ:Mem):RE T:=match x,y with
 |.int a,.int b=>.ok (.int (if a<b then b else a)) μ
 |_,_=>.st
section
variable {X:Cx}{D:DP}{W:XW}{Γ:Cn}{k:Nat}{pins:List (Addr×Obj)}{s:Shared}{σ:St}{H:Hp}{φ α:List Addr}{τ:Sl}{μ:Mem}{f g h:De}{a b c:Expr}{pos:Pos}{es:List Expr}
def B2 (X:Cx)(D:DP)(W:XW)(fv:Value)(op:T->T->Mem->RE T):Prop:=
 ∀(pins:List (Addr×Obj)) (s:z8k) (σ:St) (H:Hp) (φ α:List Addr) (μ:Mem) (t t':T) (v v':V) (u u':Value) (Q:VK),Inv X pins σ H s->MRel D φ α H μ->Den D φ α H t v->Den D φ α H t' v'->RelV v u->RelV v' u'->Post D W φ α H σ (RV D φ Q) (op t t' μ)->
  z8t (z8u X.prog X.w) X.A (call fv [u,u']) (EP X pins σ Q) X.xe s
theorem z34 (C:Ck D W Γ X k) {x:Str} {id:String} {op:T->T->Mem->RE T} {p0:Pos} (hx:x∈Γ.G) (hg:Γ.gl x=.none) (hv:z9S x=some (.builtin id)) (hn:x≠"__name__") (ha':noStar a=true) (hb':noStar b=true) (hB:B2 X D W (.builtin id) op) (ha:PE X a (rdE D W f)) (hb:PE X b (rdE D W g)) :
  PE X (.Call (.Name x p0) [a,b] [] pos) (rdE D W (eB2 op f g)):=by
 have hm:=C.glo _ hx
 rw[hg] at hm
 rintro pins s σ H Q I ⟨φ,α,τ,μ,sr,mr,p⟩
 refine z9a (vD I (C.glb _ hx) hm hv ?_ hn (C.dbG _ hx))
 refine z9F (thn (zC ha (zC hb qk (z6 hb')) (z6 ha') pos pins s σ H (λvs H2=>∃v1 v2 t1 t2 μ2 α2,vs=[v1,v2]/\MRel D φ α2 H2 μ2/\Den D φ α2 H2 t1 v1/\Den D φ α2 H2 t2 v2/\Post D W φ α2 H2 σ (RV D φ Q) (op t1 t2 μ2)) I
  ⟨φ,α,τ,μ,sr,mr,p.bind.mono λt1 μ1 α1 H1 st1 m1 q1 v1 d1=>⟨φ,α1,τ,μ1,sr.step st1,m1,q1.bind.mono λt2 μ2 α2 H2 st2 m2 q2 v2 d2=>⟨v1,v2,t1,t2,μ2,α2,rfl,m2,d1.step st2,d2,q2⟩⟩⟩) ?_) (z6 ha') (zX (by simp[hb']))
 rintro us s1 ⟨vs,H1,I1,rv,v1,v2,t1,t2,μ2,α2,rfl,m,d1,d2,q⟩
 obtain⟨u1,u2,rfl,r1,r2⟩:=vals2 rv
 exact hB pins s1 σ H1 φ α2 μ2 t1 t2 v1 v2 u1 u2 Q I1 m d1 d2 r1 r2 q
theorem z4Q(hc:X.calm=true):B2 X D W (.builtin "min") Wy:=by
 intro pins s σ H φ α μ t t' v v' u u' Q I mr d d' r r' p
 unfold Wy at p
 split at p
 ·cases d;cases d'
  obtain⟨t1,rfl⟩:=r
  obtain⟨t2,rfl⟩:=r'
  refine min_two_ints (I.ok.hd hc) λh' tk kp=>?_
  have I1:Inv X pins σ H {s with heap:=h',toks:=tk}:=I.kept kp
  rename_i i j
  by_cases z:j<i
  ·rw[if_pos z] at p ⊢
   exact⟨.int j,H,I1,⟨_,rfl⟩,p.here mr rfl⟩
  ·rw[if_neg z] at p ⊢
   exact⟨.int i,H,I1,⟨_,rfl⟩,p.here mr rfl⟩
 ·exact p.elim
theorem z69(hc:X.calm=true):B2 X D W (.builtin "max") y0:=by
 intro pins s σ H φ α μ t t' v v' u u' Q I mr d d' r r' p
 unfold y0 at p
 split at p
 ·cases d;cases d'
  obtain⟨t1,rfl⟩:=r
  obtain⟨t2,rfl⟩:=r'
  refine max_two_ints (I.ok.hd hc) λh' tk kp=>?_
  have I1:Inv X pins σ H {s with heap:=h',toks:=tk}:=I.kept kp
  rename_i i j
  by_cases z:i<j
  ·rw[if_pos z] at p
   rw[if_pos (show j > i from z)]
   exact⟨.int j,H,I1,⟨_,rfl⟩,p.here mr rfl⟩
  ·rw[if_neg z] at p
   rw[if_neg (show ¬j > i from z)]
   exact⟨.int i,H,I1,⟨_,rfl⟩,p.here mr rfl⟩
 ·exact p.elim
theorem intsAre_of:∀{ns:List Int} {us:List Value},Vals (ns.map V.int) us->z9m us ns
 |[],_,.nil=>.nil
 |n::ns,_,.cons r q=>by
  obtain⟨t,rfl⟩:=r
  exact .cons n t (intsAre_of q)
end
def rB2 (nm:Str)(op:T->T->Mem->RE T):ER:=λr Γ e=>match e with
 |.Call (.Name x _) [a,b] [] _=>gd (x == nm&&(idx Γ.N x).isNone&&noStar a&&noStar b&&Γ.calm) ((r.e Γ a).bind λf=>(r.e Γ b).bind λg=>(match Γ.look x with
  |.none=>some (eB2 op f g)
  |_=>none))
 |_=>none
theorem YJ{D:DP}{nm:Str}{op:T->T->Mem->RE T}(H1:∀{X:Cx} {W:XW} {Γ:Cn} {k:Nat} {a b:Expr} {f g:De} {p0 pos:Pos},Ck D W Γ X k->nm∈Γ.G->Γ.gl nm=.none->Γ.calm=true->noStar a=true->noStar b=true->PE X a (rdE D W f)->PE X b (rdE D W g)->PE X (.Call (.Name nm p0) [a,b] [] pos) (rdE D W (eB2 op f g))):EOk D (rB2 nm op):=by
 intro r H X W Γ k e d C h
 unfold rB2 at h
 split at h
 ·rename_i x p0 a b pos
  have hh:=zx h
  clear h
  obtain⟨hb,h⟩:=hh
  simp only[z8j,beq_iff_eq] at hb
  obtain⟨⟨⟨⟨rfl,h2⟩,h3⟩,h4⟩,h5⟩:=hb
  obtain⟨f,h1,h⟩:=bnd h
  obtain⟨g,h6,h⟩:=bnd h
  cases hl:Γ.look x with
  |none=>
   simp only[hl] at h
   cases h
   obtain⟨hx,hg⟩:=qW hl (by intro z;cases z)
   exact H1 C hx hg h5 h3 h4 (H.e C h1) (H.e C h6)
  |_=>simp[hl] at h
 ·cases h
def z35:ER:=rB2 "min" Wy
theorem Yk{D:DP}:EOk D z35:=YJ λC hx hg hc h1 h2 ha hb=>z34 C hx hg (by decide +kernel) (by decide) h1 h2 (z4Q (C.clm hc)) ha hb
def z2J:ER:=rB2 "max" y0
theorem z0A{D:DP}:EOk D z2J:=YJ λC hx hg hc h1 h2 ha hb=>z34 C hx hg (by decide +kernel) (by decide) h1 h2 (z69 (C.clm hc)) ha hb
abbrev yx(c:Nat)(g:Fn)(ts:List T)(μ:Mem):RE T:=λK Z=>g (.mut μ.length::ts) (μ++[.obj c []]) (λr μ1=>r=.non/\K (.mut μ.length) μ1) Z
noncomputable abbrev VP(c:Nat)(g:Fn)(fs:List De):De:=λτ μ=>(evs fs τ μ).bind (yx c g)
noncomputable abbrev qd(c:Nat)(g:Fn)(o:De)(as:List De):De:=λτ μ=>(o τ μ).bind λt μ1=>match t with
 |.obj c' fs=>.grd (c'=c) ((evs as τ μ1).bind λts μ2=>g (.obj c' fs::ts) μ2)
 |.mut i=>λK Z=>∃fs,μ1[i]?=some (.obj c fs)/\(evs as τ μ1).bind (λts μ2=>g (.mut i::ts) μ2) K Z
 |_=>.st
section
variable {X:Cx}{D:DP}{W:XW}{Γ:Cn}{k:Nat}{pins:List (Addr×Obj)}{s:Shared}{σ:St}{H:Hp}{φ α:List Addr}{τ:Sl}{μ:Mem}{fs:List De}{a b c:Expr}{pos:Pos}{es:List Expr}
theorem K1{c:Nat}{g:Fn}{C0 fI:Addr}{fd:z9t}{ps:List Str}{kk:Nat}{us:List Value}{vs:List V}{ts:List T}{Q:VK}(C:Ck D W Γ X k)(ad:D.cad c=some C0)(M:Mk X.K C0 fI)(F:FnOk X.prog X.w X.K X.mg X.base (CX1 X.prog X.w) kk fI fd ps (spN D ps.length g))
  (hr:Room (kk+1) X.A) (hb:Binds X.K fd ps []) (har:∀ts μ K Z,g ts μ K Z->ts.length=ps.length) (I:Inv X pins σ H s) (r:Vals vs us) (mr:MRel D φ α H μ) (d:DenL D φ α H ts vs) (p:Post D W φ α H σ (RV D φ Q) (yx c g ts μ)) :
  z8t (z8u X.prog X.w) X.A (call (.ref C0) us) (EP X pins σ Q) X.xe s:=by
 obtain⟨K,Z,hg,hk,hz⟩:=p
 have hl:(T.mut μ.length::ts).length=ps.length:=har _ _ _ _ hg
 have hq:∀x dx,H x=none->H dx=none->dx≠x->spN D ps.length g (.ref x::(vs++[])) (upd (upd H dx (.own x)) x (.ins C0 dx [])) (λv H2=>v=.non/\Q (.ref x) H2) (λc d H'=>W c d σ H'):=by
  intro x dx hx hdx hne
  have sm1:xN H (upd H dx (.own x)):=zh hdx
  have hx1:upd H dx (.own x) x=none:=by rw[z9 (z9r hne)];exact hx
  have mr1:MRel D φ α (upd H dx (.own x)) μ:=mr.new sm1
  have st0:Stp α H (α++[x]) (upd (upd H dx (.own x)) x (.ins C0 dx [])):=(Stp.new sm1).trans (jb hx1)
  have mr2:MRel D φ (α++[x]) (upd (upd H dx (.own x)) x (.ins C0 dx [])) (μ++[.obj c []]):=mr1.layO hx1 ⟨C0,dx,[],ad,z8,rfl⟩
  have hget:(α++[x])[μ.length]?=some x:=by rw[←mr.len,z8r (z8n _)];simp
  refine⟨by simp only[z8L,z98] at hl ⊢;rw[←d.length];exact hl,φ,α++[x],.mut μ.length::ts,μ++[.obj c []],⟨.ref x,vs++[],rfl,⟨x,hget,rfl⟩,by rw[z98];exact d.step st0⟩,mr2,_,_,hg,?_,?_⟩
  ·rintro t μ2 ⟨rfl,q⟩ α2 H3 st m v dv
   refine⟨dv,?_⟩
   obtain⟨β,e,_⟩:=st.ext
   refine hk _ _ q α2 H3 (st0.trans st) m _ ⟨x,?_,rfl⟩
   rw[e,z8p (z8h.mp hget).1];exact hget
  ·rintro e fs μ2 q α2 H3 C1 d1 st m had xd
   exact hz _ _ _ q α2 H3 C1 d1 (st0.trans st) m had xd
 have hq1:=hq (s.heap.objs.size+1) s.heap.objs.size (I.hok.fresh (zby _)) (I.hok.fresh (z8n _)) (z8O (z9D _))
 have I2:=Inv.made (C:=C0) I
 have r2:Vals (V.ref (s.heap.objs.size+1)::(vs++[])) (z8J (s.heap.objs.size+1)::us):=.cons rfl (by rw[z98];exact r)
 have hlu:(z8J (s.heap.objs.size+1)::us++[]).length=ps.length:=by
  rw[z98,z8L,←r.length,←d.length]
  exact hl
 refine za5 (ui (f:=fI) I.kIn M.makes M.init (beq_iff_eq.mp M.fn) (z9H (F.run _ X.stack _ _ ⟨z8J (s.heap.objs.size+1)::us,[]⟩ (z8J (s.heap.objs.size+1)::us) _ _ (λc d H'=>W c d σ H') (hr.make C0 us [])
  (I2.env0.make C0 us []) (by simpa using hb _ (z8J (s.heap.objs.size+1)::us) I2.kIn hlu) r2 hq1) λr s' hq'=>?_))
 cases r with
 |error e=>exact C.xe e s' (yv (E:=λc d H'=>W c d σ H') I2 hq' λcls d H' w=>w)
 |ok fl=>
  cases fl with
  |ret u=>
   obtain⟨v,H',I3,rv,ev,q3⟩:=I2.after hq'
   subst ev
   exact⟨rv,⟨V.ref (s.heap.objs.size+1),H',I3,rfl,q3⟩⟩
  |next=>exact z8Q hq'
  |brk=>exact z8Q hq'
  |cont=>exact z8Q hq'
theorem YS(C:Ck D W Γ X k){x:Str}{c:Nat}{g:Fn}{p0:Pos}(hx:x∈Γ.G)(hg:Γ.gl x=.mk c false g)(hc:Γ.calm=true)(ha:EsOk X D W es fs):PE X (.Call (.Name x p0) es [] pos) (rdE D W (VP c g fs)):=by
 have q:=C.glo x hx
 rw[hg] at q
 obtain⟨C0,fI,fd,ps,kk,ad,hm,M,hb,hkk,Fn,har⟩:=q
 have hr:=(C.rom hc).mono hkk
 have hs:=ha.stars
 have pa:=wx ha
 rintro pins s σ H Q I ⟨φ,α,τ,μ,sr,mr,p⟩
 refine z9a (qS I (C.glb x hx) hm ?_ (C.dbG x hx))
 cases es with
 |nil=>
  cases fs with
  |nil=>exact zan I.kIn M.kp (K1 (ts:=[]) C ad M Fn hr hb har I .nil mr rfl p)
  |cons f fs=>exact ha.elim
 |cons e es=>
  simp only[z9e,z8j] at hs
  refine z9E (h₀:=X.base) I.ok.mod.kin M.kp (thn (XB pa I sr mr p) ?_) (z6 hs.1) (zX hs.2)
  rintro us s1 ⟨vs,H1,ts,μ1,α1,I1,r1,st1,sr1,mr1,d1,_,p1⟩
  exact⟨I1.kIn,K1 C ad M Fn hr hb har I1 r1 mr1 d1 p1⟩
theorem uo{nm:Str}(hf:∀i,D.fn i≠some nm):∀{fs:List (Nat×T)} {gs:List (Str×V)},DenF D φ α H fs gs->gs.lookup nm=none
 |[],_,h=>by cases h;rfl
 |p::r,_,h=>by
  obtain⟨x,v,q,e,rfl,_,l⟩:=h
  rw[z8_]
  have:(nm == x)=false:=by
   apply beq_false_of_ne
   intro z
   exact hf p.1 (by rw[z];exact e)
  rw[this]
  exact uo hf l
theorem UM {es : List Expr} {pos : Pos} {env : Env} (hs : es.all noStar = true) (hl : es.length < 30) : ((zaw pos (z96 es env)).all (fun x => !x.1) && (zbv pos (zat [] env)).all (fun x => x.1.isSome)
      &&decide (es.length+([]:List zaU).length+(if ([]:List zaU).isEmpty then 0 else 1)<30))=true:=by
  have h1:=zX (env:=env) (pos:=pos) hs
  have h2:(zaw pos (z96 es env)).all (λx=>!x.1)=true:=by
    rw[z92]
    intro x hx
    have:=zdQ.mp h1 x hx
    simpa using this
  rw[h2]
  have h3:(zbv pos (zat [] env)).all (λx=>x.1.isSome)=true:=rfl
  rw[h3]
  simpa using hl
theorem z22(C:Ck D W Γ X k){x m:Str}{c:Nat}{g:Fn}{o:Expr}{go:De}{apos:Pos}(hU:x∈Γ.U)(hg:Γ.gl x=.met c m g)(hc:Γ.calm=true)(hp:qe o=true)(hline:(apos.endLine == pos.line)=true)(hl:es.length<30)(ho:PE X o (rdE D W go))(ha:EsOk X D W es fs) :
  PE X (.Call (.Attribute o m apos) es [] pos) (rdE D W (qd c g go fs)):=by
 have q:=(C.glU x hU).1
 rw[hg] at q
 obtain⟨C0,fI,fd,ps,kk,ad,cl,M,hnf,hb,hkk,Fn,har⟩:=q
 have hr:=(C.rom hc).mono hkk
 have hs:=ha.stars
 have pa:=wx ha
 rintro pins s σ H Q I ⟨φ,α,τ,μ,sr,mr,p⟩
 rw[zdu,qz hp]
 refine z8g (thn (sub ho I sr mr p) ?_)
 rintro u s1 ⟨v,H1,t,μ1,α1,I1,r1,st1,sr1,mr1,d1,p1⟩
 refine z8g (z9k ?_)
 have hform:methodCallForm (es.length+([]:List zaU).length) (zaw pos (z96 es X.env)) (zbv pos (zat [] X.env))=true:=UM hs hl
 have hpos:zb1 true o X.env apos pos=pure pos:=by unfold zb1;simp[hline]
 have go:∀{ad0 dx:Addr} {gs:List (Str×V)} {t0:T},H1 ad0=some (.ins C0 dx gs)->gs.lookup m=none->u=.ref ad0->(∀α2 H2,Stp α1 H1 α2 H2->Den D φ α2 H2 t0 (.ref ad0))->Post D W φ α1 H1 σ (RV D φ Q) ((evs fs τ μ1).bind λts μ2=>g (t0::ts) μ2)->
   z8t (z8u X.prog X.w) X.A (zcQ o m apos pos X.env u (es.length+([]:List zaU).length) (zaw pos (z96 es X.env)) (zbv pos (zat [] X.env))) (EP X pins σ Q) X.xe s1:=λ{ad0 dx gs t0} e1 lk hu hd p2=>by
  subst hu
  unfold zcQ
  rw[hform]
  refine z8g (z8W (Jg I1 e1 cl M lk ?_))
  refine z8g (zcc hpos ?_)
  have d0:=hd α1 H1 (Stp.refl _ _)
  cases es with
  |nil=>
   cases fs with
   |nil=>exact zan (first:=[.ref ad0]) I1.kIn M.kp (yw (ts:=[t0]) (us:=[.ref ad0]) (vs:=[.ref ad0]) C Fn hr hb har I1 (.cons rfl .nil) mr1 ⟨_,_,rfl,d0,rfl⟩ p2)
   |cons f fs=>exact ha.elim
  |cons e es=>
   simp only[z9e,z8j] at hs
   refine z9E (first:=[.ref ad0]) (h₀:=X.base) I1.ok.mod.kin M.kp (thn (XB pa I1 sr1 mr1 p2) ?_) (z6 hs.1) (zX hs.2)
   rintro us s2 ⟨vs,H2,ts,μ2,α2,I2,r2,st2,sr2,mr2,d2,_,p3⟩
   exact⟨I2.kIn,yw (ts:=t0::ts) (us:=.ref ad0::us) (vs:=.ref ad0::vs) C Fn hr hb har I2 (.cons rfl r2) mr2 ⟨_,_,rfl,hd α2 H2 st2,d2⟩ p3⟩
 cases t with
 |obj c' gf=>
  obtain⟨hcc,p2⟩:=Post.grd p1
  subst hcc
  obtain⟨ad0,C1,dx,gs,rfl,n1,n2,ad1,e1,l⟩:=id d1
  rw[ad] at ad1;cases ad1
  exact go e1 (uo hnf l) r1 (λα2 H2 st=>d1.step st) p2
 | «mut» i=>
  obtain⟨gf,hi,p2⟩:=Post.ex1 p1
  obtain⟨ad0,hi',rfl⟩:=id d1
  obtain⟨C1,dx,gs,ad1,e1,l⟩:=mr1.ob i ad0 _ hi' hi
  rw[ad] at ad1;cases ad1
  exact go e1 (uo hnf l) r1 (λα2 H2 st=>d1.step st) p2
 |_=>exact Post.elim p1
end
theorem ua{K:z8o}{A:Ads}{cls fld:List (Str×Nat)}{c:Nat}{C:Addr}(hc:chk K A cls fld=true)(h:A.cs.lookup c=some C):Cls K C:=by
 simp only[chk,z8j,z92] at hc
 obtain⟨⟨⟨c1,c2⟩,c3⟩,c4⟩:=hc
 have h':=(c3 _ (qv h)).1
 simp only[Ud,z8j] at h'
 obtain⟨⟨⟨⟨h1,h2⟩,h3⟩,h4⟩,h5⟩:=h'
 exact⟨h2,h3,h4,uH h5⟩
def z58:ER:=λr Γ e=>match e with
 |.Call (.Name x _) es [] _=>gd ((idx Γ.N x).isNone&&Γ.calm) ((cEs r Γ es).bind λfs=>(match Γ.look x with
  |.mk c false g=>some (VP c g fs)
  |_=>none))
 |_=>none
theorem z0Y{D:DP}:EOk D z58:=by
 intro r H X W Γ k e d C h
 unfold z58 at h
 split at h
 ·rename_i x p0 es pos
  have hh:=zx h
  clear h
  obtain⟨hb,h⟩:=hh
  simp only[z8j] at hb
  obtain⟨fs,h1,h⟩:=bnd h
  cases hl:Γ.look x with
  |mk c b g=>
   cases b with
   |false=>
    simp only[hl] at h
    cases h
    obtain⟨hx,hg⟩:=qW hl (by intro z;cases z)
    exact YS C hx hg hb.2 (wk H C h1)
   |true=>simp[hl] at h
  |_=>simp[hl] at h
 ·cases h
noncomputable def dot(m:Str):Str:=⟨#[46]++m.cps⟩
def z4s:ER:=λr Γ e=>match e with
 |.Call (.Attribute o m pa) es [] pc=>gd (qe o&&pa.endLine == pc.line&&Γ.calm&&decide (es.length<30)&&Γ.U.contains (dot m)) ((r.e Γ o).bind λgo=>(cEs r Γ es).bind λfs=>(match Γ.gl (dot m) with
  |.met c nm g=>gd (nm == m) (some (qd c g go fs))
  |_=>none))
 |_=>none
theorem z1w{D:DP}:EOk D z4s:=by
 intro r H X W Γ k e d C h
 unfold z4s at h
 split at h
 ·rename_i o m pa es pc
  have hh:=zx h
  clear h
  obtain⟨hb,h⟩:=hh
  simp only[z8j] at hb
  obtain⟨⟨⟨⟨h0,h2⟩,h3⟩,h4⟩,h5⟩:=hb
  obtain⟨go,h1,h⟩:=bnd h
  obtain⟨fs,h6,h⟩:=bnd h
  cases hl:Γ.gl (dot m) with
  |met c nm g=>
   simp only[hl] at h
   obtain⟨h7,h8⟩:=zx h
   have h7:=beq_iff_eq.mp h7
   subst h7
   cases h8
   exact z22 C (by simpa using h5) hl h3 h0 h2 (of_decide_eq_true h4) (H.e C h1) (wk H C h6)
  |_=>simp[hl] at h
 ·cases h
section
variable {X:Cx}{pins:List (Addr×Obj)}{s:Shared}{σ:St}{H:Hp}
theorem yA{x:Addr}{o:HO}(I:Inv X pins σ H s)(ox:XOk X H x)(hp:∀p∈pins,p.1≠x)(hx:ObjOk X.prog X.w (upd H x o) s.heap x o):Inv X pins σ (upd H x o) s:=by
 have ne:∀b,H b≠none->b≠x:=λb h z=>h (by rw[z];exact ox.free)
 refine⟨I.ok,I.os,I.bare,⟨I.base.keep,I.base.slot,λb o e n hx'=>?_,I.base.there,λb xs e=>?_,λb o u e=>?_,λb ps e=>?_⟩,I.loc,I.cell,?_,λy c e=>?_,λp hp'=>?_,λb ob e=>?_,I.len⟩
 ·have:b≠x:=λz=>by
   rcases ox.new with q|q
   ·exact hx' (by rw[z];exact q)
   ·rw[←z,e] at q;cases q
  rw[z9 this];exact I.base.free b o e n hx'
 ·have q:=I.base.tups b xs e
  rw[z9 (ne b (by rw[q];simp))];exact q
 ·have q:=I.base.frzs b o u e
  rw[z9 (ne b (by rw[q];simp))];exact q
 ·obtain⟨more,q⟩:=I.base.tbls b ps e
  exact⟨more,by rw[z9 (ne b (by rw[q];simp))];exact q⟩
 ·rw[z9 (z9r ox.loc)];exact I.free
 ·rw[z9 (ox.cel y c e)];exact I.freeC y c e
 ·obtain⟨e,n,r⟩:=I.pin p hp'
  have:p.1≠x:=(z8v.mp hp').elim (ox.pin p) (hp p)
  exact⟨e,by rw[z9 this];exact n,r⟩
 ·by_cases z:b=x
  ·subst z
   rw[z8] at e
   cases e
   exact hx
  ·rw[z9 z] at e
   exact (I.hok b ob e).stay (λ_ _ _ q=>q) (λc q=>by
    by_cases w:c=x
    ·rw[w,ox.free] at q;cases q
    ·rw[z9 w];exact q) λc _ q=>by
    by_cases w:c=x
    ·rw[w,ox.free] at q;cases q
    ·rw[z9 w];exact q
theorem z0B{b:Addr}(f:QX X pins H b):XOk X H b/\∀p∈pins,p.1≠b:=
 ⟨⟨f.1,f.2.1,f.2.2.1,f.2.2.2.1.imp id λh=>z9d h,f.2.2.2.2.1,λp hp=>f.2.2.2.2.2 p (z8E _ hp)⟩,λp hp=>f.2.2.2.2.2 p (z8s _ hp)⟩
end
end NH
namespace L2
open PySem PySem.Spec PyProof.Rows
section
variable {κ:Type}[DecidableEq κ]
noncomputable def ji(kvs:List (κ×V))(k:κ):Option V:=(kvs.find? λkv=>decide (kv.1=k)).map (·.2)
noncomputable def putK(kvs:List (κ×V))(k:κ)(v:V):List (κ×V):=
 if (kvs.any λkv=>decide (kv.1=k))=true then kvs.map (λkv=>if kv.1=k then (kv.1,v) else kv) else kvs++[(k,v)]
theorem vt{p:κ×V}{r:List (κ×V)}{k:κ}(e:p.1=k):ji (p::r) k=some p.2:=by simp[ji,zaC,e]
theorem vp{p:κ×V}{r:List (κ×V)}{k:κ}(e:¬p.1=k):ji (p::r) k=ji r k:=by simp[ji,zaC,e]
theorem Wq(k:κ):∀kvs:List (κ×V),(kvs.any λkv=>decide (kv.1=k))=(ji kvs k).isSome
 |[]=>rfl
 |p::r=>by
  rw[z9Y]
  by_cases e:p.1=k
  ·simp only[vt e,decide_eq_true e,Bool.true_or,Option.isSome_some]
  ·rw[vp e,decide_eq_false e,Bool.false_or];exact Wq k r
theorem xZ(kvs:List (κ×V))(k:κ)(v:V):(putK kvs k v).length<=kvs.length+1:=by
 unfold putK
 split
 ·rw[z8B];omega
 ·rw[z8Z,z8L,z9B];omega
theorem RelO.isSome_eq{o:Option V}{u:Option Value}(r:RelO o u):o.isSome=u.isSome:=by
 cases o with
 |none=>cases u with
  |none=>rfl
  |some _=>exact (show False from r).elim
 |some _=>cases u with
  |none=>exact (show False from r).elim
  |some _=>rfl
theorem RelO.getD{o:Option V}{u:Option Value}{d:V}{d':Value}(r:RelO o u)(rd:RelV d d'):RelV (o.getD d) (u.getD d'):=by
 cases o with
 |none=>cases u with
  |none=>exact rd
  |some _=>exact (show False from r).elim
 |some _=>cases u with
  |none=>exact (show False from r).elim
  |some _=>exact r
theorem KV.val{kvs:List (κ×V)}{vs:List (κ×Value)}(r:KV kvs vs)(k:κ):RelO (ji kvs k) (zdi vs k):=by
 unfold KV at r
 induction r with
 |nil=>exact z9p
 | @cons p q ps qs h t ih=>
  obtain⟨h1,h2⟩:=h
  by_cases e:p.1=k
  ·have e':q.1=k:=h1.symm.trans e
   have b:zdi (q::qs) k=some q.2:=by simp[zdi,zaC,e']
   rw[vt e,b];exact h2
  ·have e':¬q.1=k:=λz=>e (h1.trans z)
   have b:zdi (q::qs) k=zdi qs k:=by simp[zdi,zaC,e']
   rw[vp e,b];exact ih
theorem KV.any{kvs:List (κ×V)}{vs:List (κ×Value)}(r:KV kvs vs)(k:κ):(kvs.any λkv=>decide (kv.1=k))=vs.any λkv=>decide (kv.1=k):=by
 unfold KV at r
 induction r with
 |nil=>rfl
 |cons h t ih=>rw[z9Y,z9Y,ih,h.1]
theorem KV.repl{kvs:List (κ×V)}{vs:List (κ×Value)}(r:KV kvs vs)(k:κ){y:V}{u:Value}(ry:RelV y u) :
  KV (kvs.map λkv=>if kv.1=k then (kv.1,y) else kv) (vs.map λkv=>if kv.1=k then (kv.1,u) else kv):=by
 unfold KV at r ⊢
 induction r with
 |nil=>exact .nil
 | @cons p q ps qs h t ih=>
  rw[z8R,z8R]
  refine .cons ?_ ih
  obtain⟨h1,h2⟩:=h
  by_cases e:p.1=k
  ·rw[if_pos e,if_pos (h1.symm.trans e)];exact⟨h1,ry⟩
  ·rw[if_neg e,if_neg (λz=>e (h1.trans z))];exact⟨h1,h2⟩
theorem KV.put{kvs:List (κ×V)}{vs:List (κ×Value)}(r:KV kvs vs)(k:κ){y:V}{u:Value}(ry:RelV y u):KV (putK kvs k y) (stored vs k u):=by
 unfold putK stored
 rw[r.any k]
 by_cases e:(vs.any λkv=>decide (kv.1=k))=true
 ·rw[if_pos e,if_pos e];exact r.repl k ry
 ·rw[if_neg e,if_neg e];exact zg0 r ⟨rfl,ry⟩
theorem KV.length{kvs:List (κ×V)}{vs:List (κ×Value)}(r:KV kvs vs):kvs.length=vs.length:=zdp r
end
theorem ZK{P:z91}{w:z9c}{k:Key}{u:Value}(r:RelV (kV k) u):(qg P w).is k u=true:=by
 cases k with
 |inl i=>obtain⟨t,e⟩:=(show ∃t,u=zcp i t from r);subst e;exact V3 P w i t
 |inr x=>obtain⟨t,e⟩:=(show ∃t,u=zeo x t from r);subst e;exact WU P w x t
theorem ZF{P:z91}{w:z9c}:∀{ks:List Key} {us:List Value},Vals (ks.map kV) us->ItemsAre (qg P w) ks us
 |[],_,r=>by rw[zea] at r;cases r;exact .nil
 |k::ks,_,r=>by
  rw[z8R] at r
  cases r with
  |cons h t=>exact .cons (ZK h) (ZF t)
abbrev KT(H:Hp):List (List Key×V)->List (List Key×Addr×Value)->Prop:=zcI λp q=>p.1=q.1/\H q.2.1=some (.tup (p.1.map kV))/\RelV p.2 q.2.2
theorem KT.val{H:Hp}{kvs:List (List Key×V)}{xs:List (List Key×Addr×Value)}(r:KT H kvs xs)(k:List Key):RelO (ji kvs k) ((zeD xs k).map (·.2)):=by
 induction r with
 |nil=>exact z9p
 | @cons p q ps qs h t ih=>
  obtain⟨h1,_,h2⟩:=h
  by_cases e:p.1=k
  ·have e':q.1=k:=h1.symm.trans e
   have b:zeD (q::qs) k=some q.2:=by simp[zeD,zaC,e']
   rw[vt e,b];exact h2
  ·have e':¬q.1=k:=λz=>e (h1.trans z)
   have b:zeD (q::qs) k=zeD qs k:=by simp[zeD,zaC,e']
   rw[vp e,b];exact ih
theorem KT.repl{H:Hp}{kvs:List (List Key×V)}{xs:List (List Key×Addr×Value)}(r:KT H kvs xs)(k:List Key){y:V}{u:Value}(ry:RelV y u) :
  KT H (kvs.map λkv=>if kv.1=k then (kv.1,y) else kv) (xs.map (putAt k u)):=by
 induction r with
 |nil=>exact .nil
 | @cons p q ps qs h t ih=>
  rw[z8R,z8R]
  refine .cons ?_ ih
  obtain⟨h1,h2,h3⟩:=h
  unfold putAt
  by_cases e:p.1=k
  ·rw[if_pos e,if_pos (h1.symm.trans e)];exact⟨h1,h2,ry⟩
  ·rw[if_neg e,if_neg (λz=>e (h1.trans z))];exact⟨h1,h2,h3⟩
theorem KT.put{H:Hp}{kvs:List (List Key×V)}{xs:List (List Key×Addr×Value)}(r:KT H kvs xs)(k:List Key){b:Addr}{y:V}{u:Value}(hb:H b=some (.tup (k.map kV)))(ry:RelV y u) :
  KT H (putK kvs k y) (storedH xs k b u):=by
 have e:(kvs.any λkv=>decide (kv.1=k))=(zeD xs k).isSome:=by
  rw[Wq,(r.val k).isSome_eq,zce]
 unfold putK storedH
 rw[e]
 by_cases q:(zeD xs k).isSome=true
 ·rw[if_pos q,if_pos q];exact r.repl k ry
 ·rw[if_neg q,if_neg q];exact zg0 r ⟨rfl,hb,ry⟩
theorem KT.keeps{H H':Hp}{kvs:List (List Key×V)}{xs:List (List Key×Addr×Value)}(r:KT H kvs xs)(ht:∀b ys,H b=some (.tup ys)->H' b=some (.tup ys)):KT H' kvs xs:=
 zcI.mapP r λ_ _ z=>⟨z.1,ht _ _ z.2.1,z.2.2⟩
section
variable {P:Program}{w:World}{H:Hp}{h:Heap}{a:Addr}
theorem z33{u:HO}(ok:HOk P w H h)(e:Rd H a u):ObjOk P w H h a u:=e.ok ok
theorem u4{kvs:List (Key×V)}(ok:HOk P w H h)(e:Rd H a (.dK kvs)):kvs.length<=sizeLine/\(a == zav)=false/\∃vs,KV kvs vs/\h.DictOf (qg P w) a vs:=
 show ObjOk P w H h a (.dK kvs) from z33 ok e
theorem z6I{kvs:List (Key×V)}(ok:HOk P w H h)(e:H a=some (.dK kvs)):kvs.length<=sizeLine/\(a == zav)=false/\∃vs,KV kvs vs/\h.DictOf (qg P w) a vs:=u4 ok (.inl e)
theorem xF{ks:List Key}(ok:HOk P w H h)(e:H a=some (.tup (ks.map kV))):(zcq (qg P w)).is h ks a:=by
 obtain⟨_,its,r,o,h1,h2,n,h3⟩:=(show ObjOk P w H h a (.tup (ks.map kV)) from ok a _ e)
 exact⟨o,its.toArray,n,h1,h2,h3,by simpa using ZF r⟩
theorem uT{kvs:List (List Key×V)}(ok:HOk P w H h)(e:Rd H a (.dT kvs)):kvs.length<=sizeLine/\(a == zav)=false/\
  ∃xs,KT H kvs xs/\h.DictOfH (zcq (qg P w)) a xs:=by
 obtain⟨z,y,xs,r,o,es,ep,h1,h2,h3,h4,h5⟩:=(show ObjOk P w H h a (.dT kvs) from z33 ok e)
 refine⟨z,y,xs,r,o,es,ep,h1,h2,h3,h4,λx hx=>?_,h5⟩
 have all:∀{l:List (List Key×V)} {m:List (List Key×Addr×Value)},KT H l m->∀x∈m,(zcq (qg P w)).is h x.1 x.2.1:=by
  intro l m q
  induction q with
  |nil=>intro x hx;exact nomatch hx
  | @cons p q ps qs hq t ih=>
   intro x hx
   rcases z8T.mp hx with e|hx
   ·subst e
    exact xF ok (by rw[←hq.1];exact hq.2.1)
   ·exact ih x hx
 exact all r x hx
theorem z6Y{kvs:List (List Key×V)}(ok:HOk P w H h)(e:H a=some (.dT kvs)):kvs.length<=sizeLine/\(a == zav)=false/\
  ∃xs,KT H kvs xs/\h.DictOfH (zcq (qg P w)) a xs:=uT ok (.inl e)
end
def DGet (H:Hp)(a:Addr)(y:V)(r:Option V):Prop:=
 (∃kvs k,Rd H a (.dK kvs)/\y=kV k/\r=ji kvs k)\/∃kvs k b,Rd H a (.dT kvs)/\y=.ref b/\H b=some (.tup (k.map kV))/\r=ji kvs k
def DPut (H:Hp)(a:Addr)(y v:V)(H':Hp):Prop:=
 (∃kvs k,H a=some (.dK kvs)/\y=kV k/\kvs.length<sizeLine/\H'=upd H a (.dK (putK kvs k v)))\/
 ∃kvs k b,H a=some (.dT kvs)/\y=.ref b/\H b=some (.tup (k.map kV))/\kvs.length<sizeLine/\H'=upd H a (.dT (putK kvs k v))
theorem DGet.k{H:Hp}{a:Addr}{kvs:List (Key×V)}{k:Key}(e:H a=some (.dK kvs)):DGet H a (kV k) (ji kvs k):=.inl ⟨kvs,k,.inl e,rfl,rfl⟩
theorem DPut.k{H:Hp}{a:Addr}{kvs:List (Key×V)}{k:Key}{v:V}(e:H a=some (.dK kvs))(hl:kvs.length<sizeLine):DPut H a (kV k) v (upd H a (.dK (putK kvs k v))):=.inl ⟨kvs,k,e,rfl,hl,rfl⟩
section
variable {X:Cx}{pins:List (Addr×Obj)}{σ:St}{H:Hp}{s:Shared}{a:Addr}{y v:V}{u r:Value}{o:Option V}{A:Around}{E:Value->Shared->Prop}
theorem Inv.big(I:Inv X pins σ H s):zav<s.heap.objs.size:=by
 have h:z8D<s.heap.objs.size:=(I.mod.glob.keeps I.bk).lt
 exact Nat.lt_trans (by decide) h
theorem Y1{Q:Value->z8k->Prop}(hu:A.units+1<cLine)(I:Inv X pins σ H s)(g:DGet H a y (some v))(ry:RelV y u)(h:∀w' s',Inv X pins σ H s'->RelV v w'->Q w' s') :
  z8t (z8u X.prog X.w) A (zbs (.ref a) u) Q E s:=by
 rcases g with⟨kvs,k,e,ey,l⟩|⟨kvs,k,b,e,ey,eb,l⟩
 ·subst ey
  obtain⟨z,hd,vs,rel,dd⟩:=u4 I.hok e
  obtain⟨w',hw,rw'⟩:=RelO.some_of (v:=v) (o:=zdi vs k) (by rw[l];exact rel.val k)
  exact wpAny_getItem_of (ZK ry) dd.mapOf hw (h w' _ (I.tok _) rw')
 ·subst ey
  cases (show u=z8J b from ry)
  obtain⟨z,hd,xs,rel,dd⟩:=uT I.hok e
  obtain⟨w',hw,rw'⟩:=RelO.some_of (v:=v) (o:=(zeD xs k).map (·.2)) (by rw[l];exact rel.val k)
  obtain⟨p,hp,hp2⟩:=z9y.mp hw
  refine wpAny_getItem_heap (zaz hu) (xF I.hok eb) dd hp ?_
  rw[hp2]
  exact h w' _ (I.tok _) rw'
theorem z7P{Q:Value->z8k->Prop}(hu:A.units+1<cLine)(I:Inv X pins σ H s)(g:DGet H a y o)(ry:RelV y u)(h:∀s',Inv X pins σ H s'->Q (.bool o.isSome) s') :
  z8t (z8u X.prog X.w) A (z94 .In u (.ref a)) Q E s:=by
 rcases g with⟨kvs,k,e,ey,l⟩|⟨kvs,k,b,e,ey,eb,l⟩
 ·subst ey
  obtain⟨z,hd,vs,rel,dd⟩:=u4 I.hok e
  refine wpAny_in_of (ZK ry) hd dd.mapOf ?_
  rw[←(rel.val k).isSome_eq,←l]
  exact h _ (I.tok _)
 ·subst ey
  cases (show u=z8J b from ry)
  obtain⟨z,hd,xs,rel,dd⟩:=uT I.hok e
  refine wpAny_in_heap (zaz hu) (xF I.hok eb) hd dd ?_
  have q:=(rel.val k).isSome_eq
  rw[zce] at q
  rw[←q,←l]
  exact h _ (I.tok _)
theorem z2d{Q:Value->z8k->Prop}(hu:A.units+1<cLine)(I:Inv X pins σ H s)(g:DGet H a y o)(ry:RelV y u)(h:∀s',Inv X pins σ H s'->Q (.bool (!o.isSome)) s') :
  z8t (z8u X.prog X.w) A (z94 .NotIn u (.ref a)) Q E s:=by
 rcases g with⟨kvs,k,e,ey,l⟩|⟨kvs,k,b,e,ey,eb,l⟩
 ·subst ey
  obtain⟨z,hd,vs,rel,dd⟩:=u4 I.hok e
  refine wpAny_notIn_of (ZK ry) hd dd.mapOf ?_
  rw[←(rel.val k).isSome_eq,←l]
  exact h _ (I.tok _)
 ·subst ey
  cases (show u=z8J b from ry)
  obtain⟨z,hd,xs,rel,dd⟩:=uT I.hok e
  refine wpAny_notIn_heap (zaz hu) (xF I.hok eb) hd dd ?_
  have q:=(rel.val k).isSome_eq
  rw[zce] at q
  rw[←q,←l]
  exact h _ (I.tok _)
theorem K4{h':Heap}{t':Nat}{ob:HO}(I:Inv X pins σ H s)(mu:Mut (H a))(hs:z99 a s.heap h')(he:∃q,h'.get? a=some q)(new:ObjOk X.prog X.w (upd H a ob) h' a ob) :
  Inv X pins σ (upd H a ob) {s with heap:=h',toks:=t'}:=
 I.write (x:=a) (e:=a) mu (.inl rfl) (λb q hb z=>(hs.2 b hb).trans z) he new
theorem z5m{P:z91}{w:z9c}{H':Hp}{h':Heap}{kvs:List (Key×V)}{vs:List (Key×Value)}(z:kvs.length<=sizeLine)(hd:(a == zav)=false)(rel:KV kvs vs)(dd:h'.DictOf (qg P w) a vs) :
  ObjOk P w H' h' a (.dK kvs):=⟨z,hd,vs,rel,dd⟩
theorem Xj{H':Hp}{Q:Unit->z8k->Prop}(hu:A.units+1<cLine)(I:Inv X pins σ H s)(g:DPut H a y v H')(ry:RelV y u)(rv:RelV v r)(h:∀s',Inv X pins σ H' s'->Q () s') :
  z8t (z8u X.prog X.w) A (setItem (.ref a) u r) Q E s:=by
 rcases g with⟨kvs,k,e,ey,l,eH⟩|⟨kvs,k,b,e,ey,eb,l,eH⟩
 ·subst ey eH
  obtain⟨z,hd,vs,rel,dd⟩:=z6I I.hok e
  have hz:vs.length<=sizeLine:=by rw[←rel.length];exact z
  have hl:(putK kvs k v).length<=sizeLine:=by have:=xZ kvs k v;omega
  refine wpAny_setItem_pairs (hsz:=hz) (ZK ry) dd λh' dd' hs=>h _ ?_
  have he:∃q,h'.get? a=some q:=let ⟨q,_,_,hq,_⟩:=dd';⟨q,hq⟩
  exact K4 I (by rw[e];exact z9p) hs he (z5m hl hd (rel.put k rv) dd')
 ·subst ey eH
  cases (show u=z8J b from ry)
  obtain⟨z,hd,xs,rel,dd⟩:=z6Y I.hok e
  have hz:xs.length<=sizeLine:=by rw[←zdp rel];exact z
  have hl:(putK kvs k v).length<=sizeLine:=by have:=xZ kvs k v;omega
  refine wpAny_setItem_heap (hsz:=hz) (zaz hu) (xF I.hok eb) dd λh' dd' hs=>h _ ?_
  obtain⟨q,es,ep,hq,h2,h3,h4,_,h5⟩:=dd'
  refine K4 I (by rw[e];exact z9p) hs ⟨q,hq⟩ ⟨hl,hd,_,(rel.put k eb rv).keeps λc ys ec=>?_,q,es,ep,hq,h2,h3,h4,h5⟩
  rw[z9 (z7o ec e (λz=>nomatch z))]
  exact ec
end
noncomputable def z28(i:Expr):Prop:=∀ov iv,zd7 i false ov iv=operate [ov,iv] (zbs ov iv)
theorem z1V{prog:z91}{w:z9c}{A:z8V}{E:Value->z8k->Prop}{s:z8k}{env:Env}{value slice:Expr}{pos:Pos}{T id:String}{Q:Value->z8k->Prop}
  (hl:zdE (.type T) "__getitem__"=pure (some (.builtin id))) (hs:z28 slice)
  (h:z8t (z8u prog w) A (eval value env) (λo s₁=>z8t (z8u prog w) A (eval slice env) (λi s₂=>s₂.TypeIs o T/\z8t (z8u prog w) A (zbs o i) Q E s₂) E s₁) E s) :
  z8t (z8u prog w) A (eval (.Subscript value slice pos) env) Q E s:=by
 refine zf3 (z8Y h (λo s₁ h₁=>z8Y h₁ (λi s₂ h₂=>?_) λ_ _ x=>x) λ_ _ x=>x)
 obtain⟨hT,h₂⟩:=h₂
 unfold zds
 refine z8g ?_
 rw[getitemInPython_of_ne hT.not_modules]
 refine z8g (wpAny_specialOf hT hl ?_)
 have fin:z8t (z8u prog w) A (zd7 slice false o i) (λr s₃=>z8t (z8u prog w) A (letTemporaryGo value o r >>= λ_=>pure r) Q E s₃) E s₂:=by
  rw[hs o i]
  exact wpAny_operating (z8Y h₂ (λr s₃ h₃=>z8g (wpAny_letTemporaryGo (z8q h₃))) λ_ _ x=>x)
 first
  |exact z8q (z8g fin)
  |exact z8g (z8q (z8g fin))
  |exact z8g fin
theorem V8{X:Cx}{pins:List (Addr×Obj)}{σ:St}{H:Hp}{s:z8k}{a:Addr}{y:V}{o:Option V}(I:Inv X pins σ H s)(g:DGet H a y o):s.TypeIs (.ref a) "dict":=by
 rcases g with⟨kvs,k,e,_,_⟩|⟨kvs,k,b,e,_,_,_⟩
 ·obtain⟨_,_,vs,_,dd⟩:=u4 I.hok e
  exact dd.typeIs
 ·obtain⟨_,_,xs,_,dd⟩:=uT I.hok e
  exact dd.typeIs
def z7r(td ty:TE):TE:=λσ H Q=>td σ H λx H1=>ty σ H1 λy H2=>∃a v,x=.ref a/\DGet H2 a y (some v)/\Q v H2
section
variable {X:Cx}{o i e value:Expr}{pos pos' tpos:Pos}{td ty tv:TE}
theorem z0S(hu:X.A.units+1<cLine)(ho:PE X o td)(hi:PE X i ty)(hs:z28 i):PE X (.Subscript o i pos) (z7r td ty):=by
 intro pins s σ H Q I h
 refine z1V PySem.F.slot_dict_getitem.lookup hs (thn (ho pins s σ H _ I h) λu s1 ⟨x,H1,I1,rx,q1⟩=>thn (hi pins s1 σ H1 _ I1 q1) λiv s2 ⟨y,H2,I2,ry,a,v,ex,g,q2⟩=>?_)
 subst ex
 obtain rfl:u=z8J a:=rx
 exact⟨V8 I2 g,Y1 hu I2 g ry λw' s3 I3 rw'=>⟨v,H2,I3,rw',q2⟩⟩
end
theorem YO{P:z91}{w:z9c}{H:Hp}(h:Heap)(hb:zav<h.objs.size):ObjOk P w H (h.push {cls:=.type "dict",data:=.dict #[]}) h.objs.size (.dK []):=
 ⟨zac _,beq_eq_false_iff_ne.mpr (z9r (z8O hb)),[],.nil,zge h⟩
def z50:TE:=λ_ H Q=>∀p,H p=none->Q (.ref p) (upd H p (.dK []))
section
variable {X:Cx}{pos:Pos}
theorem UW:PE X (.Dict [] [] pos) z50:=λpins s σ H Q I h=>
 wpAny_Dict_empty ⟨.ref s.heap.objs.size,_,I.laid (a:=s.heap.objs.size) (o:=.dK []) (t':=s.toks) (λ_ _ q=>z8i _ q) (z8n _) (YO s.heap I.big),rfl,h _ (I.hok.fresh (z8n _))⟩
end
structure M1(X:Cx)(o:Expr)(m:Str)(apos:Pos)(e:Expr)(cpos:Pos):Prop where
 base:zaD o m X.env (eval o X.env)=eval o X.env
 few:((zaw cpos (z96 [e] X.env)).all (λx=>!x.1)&&(zbv cpos (zat [] X.env)).all (λx=>x.1.isSome)
  &&decide (([e]:List Expr).length+([]:List zaU).length+(if ([]:List zaU).isEmpty then 0 else 1)<30))=true
 line:(apos.endLine == cpos.line)=true
 trees:zaw cpos (z96 [e] X.env)=[(false,eval e X.env)]
structure M2(X:Cx)(o:Expr)(m:Str)(apos:Pos)(e f:Expr)(cpos:Pos):Prop where
 base:zaD o m X.env (eval o X.env)=eval o X.env
 few:((zaw cpos (z96 [e,f] X.env)).all (λx=>!x.1)&&(zbv cpos (zat [] X.env)).all (λx=>x.1.isSome)
  &&decide (([e,f]:List Expr).length+([]:List zaU).length+(if ([]:List zaU).isEmpty then 0 else 1)<30))=true
 line:(apos.endLine == cpos.line)=true
 trees:zaw cpos (z96 [e,f] X.env)=[(false,eval e X.env),(false,eval f X.env)]
def IsD (H:Hp)(a:Addr):Prop:=(∃kvs,Rd H a (.dK kvs))\/∃kvs,Rd H a (.dT kvs)
theorem z42{X:Cx}{pins:List (Addr×Obj)}{σ:St}{H:Hp}{s:z8k}{a:Addr}(I:Inv X pins σ H s)(d:IsD H a) :
  s.TypeIs (.ref a) "dict"/\(∀b,z8J a=.ref b->∃ob,s.heap.get? b=some ob/\ob.dict=none)/\(a == zav)=false:=by
 rcases d with⟨kvs,e⟩|⟨kvs,e⟩
 ·obtain⟨_,hd,vs,_,dd⟩:=u4 I.hok e
  refine⟨dd.typeIs,λb q=>?_,hd⟩
  cases q
  obtain⟨ob,_,_,h1,h2,_⟩:=dd
  exact⟨ob,h1,h2.2.1⟩
 ·obtain⟨_,hd,xs,_,dd⟩:=uT I.hok e
  refine⟨dd.typeIs,λb q=>?_,hd⟩
  cases q
  obtain⟨ob,_,_,h1,h2,_⟩:=dd
  exact⟨ob,h1,h2.2.1⟩
section
variable {X:Cx}{pins:List (Addr×Obj)}{σ:St}{H:Hp}{s:Shared}{a:Addr}{y d:V}{u r:Value}{o:Option V}{A:Around}{E:Value->Shared->Prop}
theorem z4U{Q:Value->z8k->Prop}(hu:A.units+1<cLine)(I:Inv X pins σ H s)(g:DGet H a y o)(ry:RelV y u)(h:∀w' s',Inv X pins σ H s'->RelV (o.getD .non) w'->Q w' s') :
  z8t (z8u X.prog X.w) A (call (.builtin "dict.get") [.ref a,u]) Q E s:=by
 rcases g with⟨kvs,k,e,ey,l⟩|⟨kvs,k,b,e,ey,eb,l⟩
 ·subst ey
  obtain⟨z,hd,vs,rel,dd⟩:=u4 I.hok e
  refine call_meetsIn zbp dd.typeIs zcR (zcF _ _) (meets_dict_get (qg X.prog X.w) a (ZK ry) hd) ⟨_,dd.mapOf,h _ _ (I.tok _) ?_⟩
  rw[l]
  exact (rel.val k).getD rfl
 ·subst ey
  cases (show u=z8J b from ry)
  obtain⟨z,hd,xs,rel,dd⟩:=uT I.hok e
  refine call_meetsIn zbp dd.typeIs zcR (zcF _ _) (meetsH_dict_get (zcq (qg X.prog X.w)) a b hd) ⟨zaz hu,k,xs,xF I.hok eb,dd,h _ _ (I.tok _) ?_⟩
  rw[l]
  exact (rel.val k).getD rfl
end
def z4w(td ty:TE):TE:=λσ H Q=>td σ H λx H1=>∃a,x=.ref a/\IsD H1 a/\ty σ H1 λy H2=>∃o,DGet H2 a y o/\Q (o.getD .non) H2
section
variable {X:Cx}{o e f:Expr}{apos cpos:Pos}{td ty tx:TE}
theorem UD (hu:X.A.units+1<cLine) (ho:PE X o td) (he:PE X e ty) (m:M1 X o "get" apos e cpos):PE X (.Call (.Attribute o "get" apos) [e] [] cpos) (z4w td ty):=by
 intro pins s σ H Q I h
 refine wpAny_Call_method m.base m.few m.line PySem.F.plainAttrs_dict zbp PySem.F.type_dict_get (thn (ho pins s σ H _ I h) λu s1 ⟨x,H1,I1,rx,a,ex,d,q1⟩=>?_)
 subst ex
 obtain rfl:u=z8J a:=rx
 obtain⟨t1,t2,_⟩:=z42 I1 d
 refine⟨t1,t2,?_⟩
 rw[m.trees]
 refine zcO rfl (zaP (zdz (thn (he pins s1 σ H1 _ I1 q1) λiv s2 ⟨y,H2,I2,ry,ov,g,q2⟩=>zdW ?_)))
 exact z4U hu I2 g ry λw' s3 I3 rw'=>⟨_,H2,I3,rw',q2⟩
end
end L2
namespace NH
open PySem PySem.Spec PyProof.Rows L2
def zi(z:Key):List (Key×T)->Option T
 |[]=>none
 |p::r=>if p.1=z then some p.2 else zi z r
def vR (z:Key)(t:T)(kvs:List (Key×T)):List (Key×T):=
 if (kvs.any λkv=>decide (kv.1=z))=true then kvs.map (λkv=>if kv.1=z then (kv.1,t) else kv) else kvs++[(z,t)]
abbrev Qi:De:=λ_ μ=>.ok (.mut μ.length) (μ++[.dic []])
abbrev z7g:De:=λ_ μ=>.ok (.dic []) μ
abbrev KP(o f:De):De:=λτ μ=>(o τ μ).bind λot μ1=>match ot with
 |.mut i=>λK Z=>(∃kvs,μ1[i]?=some (.dic kvs))/\f τ μ1 (λkt μ2=>match kt with
  |.str z=>∃kvs,μ2[i]?=some (.dic kvs)/\K ((zi (.inr z) kvs).getD .non) μ2
  |_=>False) Z
 |_=>.st
section
variable {X:Cx}{D:DP}{W:XW}{Γ:Cn}{k:Nat}{pins:List (Addr×Obj)}{s:Shared}{σ:St}{H:Hp}{φ α:List Addr}{τ:Sl}{μ:Mem}{f g:De}{a b:Expr}{pos:Pos}
theorem ZU{z:Key}:∀{kvs:List (Key×T)} {gs:List (Key×V)},DenK D φ α H kvs gs->Den D φ α H ((zi z kvs).getD .non) ((ji gs z).getD .non)
 |[],_,h=>by cases h;rfl
 |p::r,_,h=>by
  obtain⟨v,q,rfl,d,l⟩:=h
  unfold zi
  by_cases e:p.1=z
  ·rw[if_pos e,vt (p:=(p.1,v)) e];exact d
  ·rw[if_neg e,vp (p:=(p.1,v)) e];exact ZU l
theorem VE{z:Key}:∀{kvs:List (Key×T)} {gs:List (Key×V)},DenK D φ α H kvs gs->(gs.any λkv=>decide (kv.1=z))=(kvs.any λkv=>decide (kv.1=z))
 |[],_,h=>by cases h;rfl
 |p::r,_,h=>by
  obtain⟨v,q,rfl,d,l⟩:=h
  rw[z9Y,z9Y,VE l]
theorem yX:∀{kvs:List (Key×T)} {gs:List (Key×V)},DenK D φ α H kvs gs->gs.length=kvs.length
 |[],_,h=>by cases h;rfl
 |p::r,_,h=>by
  obtain⟨v,q,rfl,d,l⟩:=h
  rw[z8L,z8L,yX l]
theorem uE{z:Key}{t:T}{w:V}(dt:Den D φ α H t w):∀{kvs:List (Key×T)} {gs:List (Key×V)},DenK D φ α H kvs gs->DenK D φ α H (kvs.map λkv=>if kv.1=z then (kv.1,t) else kv) (gs.map λkv=>if kv.1=z then (kv.1,w) else kv)
 |[],_,h=>by cases h;rfl
 |p::r,_,h=>by
  obtain⟨v,q,rfl,d,l⟩:=h
  rw[z8R,z8R]
  by_cases e:p.1=z
  ·rw[if_pos e,if_pos (show (p.1,v).1=z from e)];exact⟨w,_,rfl,dt,uE dt l⟩
  ·rw[if_neg e,if_neg (show ¬(p.1,v).1=z from e)];exact⟨v,_,rfl,d,uE dt l⟩
theorem Q7{z:Key}{t:T}{w:V}(dt:Den D φ α H t w):∀{kvs:List (Key×T)} {gs:List (Key×V)},DenK D φ α H kvs gs->DenK D φ α H (kvs++[(z,t)]) (gs++[(z,w)])
 |[],_,h=>by cases h;exact⟨w,[],rfl,dt,rfl⟩
 |p::r,_,h=>by
  obtain⟨v,q,rfl,d,l⟩:=h
  exact⟨v,_,rfl,d,Q7 dt l⟩
theorem V6{z:Key}{t:T}{w:V}{kvs:List (Key×T)}{gs:List (Key×V)}(dt:Den D φ α H t w)(h:DenK D φ α H kvs gs):DenK D φ α H (vR z t kvs) (putK gs z w):=by
 unfold vR putK
 rw[VE h]
 split
 ·exact uE dt h
 ·exact Q7 dt h
theorem z0R:PE X (.Dict [] [] pos) (rdE D W Qi):=by
 refine PE.mono UW ?_
 rintro σ H Q ⟨φ,α,τ,μ,sr,mr,p⟩
 intro x hx
 refine Post.ok p (jb hx) (mr.layO hx ⟨[],z8,rfl⟩) _ ⟨x,?_,rfl⟩
 rw[←mr.len,z8r (z8n _)];simp
theorem z1x(C:Ck D W Γ X k){o:Expr}{pa pc:Pos}{go:De}(hp:qe o=true)(hs:noStar a=true)(hline:(pa.endLine == pc.line)=true)(ho:PE X o (rdE D W go))(ha:PE X a (rdE D W f)) :
  PE X (.Call (.Attribute o "get" pa) [a] [] pc) (rdE D W (KP go f)):=by
 have hb:z96 [a] X.env=[(false,eval a X.env)]:=z6 hs
 refine PE.mono (UD (by have:=C.unt;omega) ho ha ⟨qz hp,by rw[hb];rfl,hline,by rw[hb];rfl⟩) ?_
 rintro σ H Q ⟨φ,α,τ,μ,sr,mr,p⟩
 refine⟨φ,α,τ,μ,sr,mr,p.bind.mono λot μ1 α1 H1 st1 m1 q ov dv=>?_⟩
 cases ot with
 | «mut» i=>
  obtain⟨K,Z,⟨⟨kvs0,h0⟩,hf⟩,hk,hz⟩:=q
  obtain⟨x,hx,rfl⟩:=dv
  obtain⟨gs0,hH0,l0⟩:=m1.ob _ x _ hx h0
  refine⟨x,rfl,.inl ⟨_,.inl hH0⟩,φ,α1,τ,μ1,sr.step st1,m1,_,Z,hf,?_,hz⟩
  intro kt μ2 hkt α2 H2 st2 m2 v d
  cases kt with
  |str z=>
   obtain⟨kvs,h2,q2⟩:=hkt
   obtain⟨β,e2,_⟩:=st2.ext
   have hx2:α2[i]?=some x:=by
    rw[e2,z8p (z8h.mp hx).1];exact hx
   obtain⟨gs,hH,l⟩:=m2.ob i x _ hx2 h2
   have d:v=.str z:=d
   subst d
   exact⟨_,DGet.k (k:=.inr z) hH,hk _ _ q2 α2 H2 st2 m2 _ (ZU l)⟩
  |_=>exact hkt.elim
 |_=>exact Post.elim q
end
def z8e:ER:=λ_ _ e=>match e with
 |.Dict [] [] _=>some z7g
 |_=>none
def VV:ER:=λ_ _ e=>match e with
 |.Dict [] [] _=>some Qi
 |_=>none
theorem X1{D:DP}:EOk D VV:=by
 intro r H X W Γ k e d C h
 unfold VV at h
 split at h
 ·cases h;exact z0R
 ·cases h
def z2G:ER:=rM1 "get" KP
theorem z0k{D:DP}:EOk D z2G:=Wj λC hp hs hl ho ha=>z1x C hp hs hl ho ha
end NH
namespace NH.P
open PySem L2 NH
@[reducible] def u5:List Ds:=[(zt (Jl (vL [2] (eV 0)) (z5Z (vL [1] (eV 0)))))]
def zY:Fn:=fnW 1 0 u5
@[reducible] def xX:List Ds:=[(sIf (tOr (qM (tE (vL [3] (eV 0)))) (qM (tE (eCh (eC (.int 1)) [(.LtE,(eB1 yi (eV 0))),(.LtE,(eC (.int 8)))])))) [(zt (eC (.bl false)))] []),(zt (eB1 Up (qY 1 [] (.one 0) (iE (eV 0)) [] (zr .In (eV 0) (eC (.str "abcdefghijklmnopqrstuvwxyz"))))))]
def qt:Fn:=fnW 1 0 xX
@[reducible] def uW:List Ds:=[(sIf (wc (tE (zr .Eq (zb .Mod (eV 0) (eC (.int 2))) (eC (.int 0)))) (tE (zr .Gt (zb .RShift (eV 0) (zb .Add (eC (.int 1)) (zb .Mult (eC (.int 31)) (eV 1)))) (eC (.int 0))))) [(zt (zb .Mod (zb .RShift (eV 0) (zb .Add (eC (.int 1)) (zb .Mult (eC (.int 31)) (eV 1)))) (eC (.int 2147483648))))] []),(zj 2 (zb .Mod (zb .Mult (zb .Mod (zb .Add (zb .Add (eV 0) (zb .Mult (eC (.int 7919)) (eV 1))) (eC (.int 1))) (eC (.int 2147483647))) (eC (.int 48271))) (eC (.int 2147483647)))),(zj 2 (zb .Mod (zb .Mult (eV 2) (zb .Add (zb .FloorDiv (eV 2) (eC (.int 1009))) (eC (.int 69621)))) (eC (.int 2147483647)))),(zt (zb .Mod (zb .Mult (eV 2) (zb .Add (zb .FloorDiv (eV 2) (eC (.int 2003))) (eC (.int 40692)))) (eC (.int 2147483399))))]
def zm:Fn:=fnW 2 1 uW
@[reducible] def KQ:List Ds:=[(zj 3 (eC (.int 0))),(QR (.one 4) (z17 (eC (.int 5))) [(zj 3 (zb .Add (zb .Mult (eV 3) (eC (.int 2147483648))) (z7 zm [(eV 0),(zb .Add (eV 1) (eV 4))])))]),(zt (zb .Mod (eV 3) (eV 2)))]
def WE:Fn:=fnW 3 2 KQ
@[reducible] def Qg:List Ds:=[(zt (Jl (z7 zY [(eV 0)]) (zr .GtE (eV 0) (eC (.int 1)))))]
def qH:Fn:=fnW 1 0 Qg
@[reducible] def uI:List Ds:=[(zt (Jl (z7 zY [(eV 0)]) (eCh (eC (.int 0)) [(.LtE,(eV 0)),(.Lt,(eV 1))])))]
def qh:Fn:=fnW 2 0 uI
@[reducible] def kK:List Ds:=[(sIf (qM (wc (tE (z7 qH [(eV 1)])) (wc (tE (z7 qH [(eV 2)])) (tE (z7 qH [(eV 3)]))))) [(zQ 12 [(eC (.str "a shape has three whole numbers from 1 on"))])] []),(qw (eV 0) 0 (eV 1)),(qw (eV 0) 1 (eV 2)),(qw (eV 0) 2 (eV 3))]
def vK:Fn:=fnW 4 0 kK
@[reducible] def um:List Ds:=[(zt (zb .Mult (zb .Mult (zf (eV 0) 0) (zf (eV 0) 1)) (zf (eV 0) 2)))]
def kH:Fn:=fnW 1 0 um
@[reducible] def Q2:List Ds:=[(zt (z7 qh [(eV 1),(z7 kH [(eV 0)])]))]
def yt:Fn:=fnW 2 0 Q2
@[reducible] def kG:List Ds:=[(sIf (qM (tE (z7 yt [(eV 0),(eV 1)]))) [(zQ 13 [(eC (.str "no name of the shape"))])] [])]
def vA:Fn:=fnW 2 0 kG
@[reducible] def xU:List Ds:=[(sIf (tE (zr .Lt (eV 1) (eB1 yi (eV 0)))) [(zt (eIx (eV 0) (eV 1)))] []),(zt (eC (.int 0)))]
def j8:Fn:=fnW 2 0 xU
@[reducible] def y_:List Ds:=[(qb (z7 vA [(eV 0),(eV 1)])),(zj 2 (zb .Mod (eV 1) (zf (eV 0) 2))),(zj 3 (zb .FloorDiv (eV 1) (zf (eV 0) 2))),(zt (zy [(zb .FloorDiv (eV 3) (zf (eV 0) 1)),(zb .Mod (eV 3) (zf (eV 0) 1)),(eV 2)]))]
def wZ:Fn:=fnW 2 2 y_
end NH.P
namespace NH
open PySem PySem.Spec PyProof.Rows L2
section
variable {P:Program}{w:World}{K:PySem.W.Frag}{mg:Str->Option Value}{base:Heap}{D:DP}{Γ:Cn}{k n:Nat}
noncomputable abbrev Cn.han(Γ:Cn):Cn:={Γ with calm:=false,lam:=none}
theorem Yr{R:Rules}(HR:RulesOk D R){f:Addr}{name qual:Str}{params:Arguments}{body:List Stmt}{scope:Scope}{dV kV doc pm cdv ct oc:Value}{an od:Option Addr}{osl:Array (Option Value)}{ps:List Str}{m:Nat}{ds:List Ds}
    (M:MdOk D P w K mg base Γ k) (lk:K.lookup f=some ⟨oc,od,.func (z9u name qual params body scope dV kV doc pm an cdv ct),osl⟩) (hcd:zaO K cdv qual=true) (hs:jN Γ ps scope=true) (hm:Γ.N.length=ps.length+m) (hds:zo ((comp R n).s Γ.han) body=some ds) :
    z00 P w K mg base (k+1) f (z9u name qual params body scope dV kV doc pm an cdv ct) ps (spN D ps.length (fnW ps.length m ds)):=by
  simp only[jN,z8j,z92,beq_iff_eq,z9O,decide_eq_true_eq,bne_iff_ne,ne_eq] at hs
  obtain⟨⟨⟨⟨⟨⟨⟨⟨⟨h1,h2⟩,h3⟩,h4⟩,h5⟩,h6⟩,h7⟩,h8⟩,h9⟩,h10⟩:=hs
  have kin:∀x∈Γ.N,(Γ.cel.contains x=true/\scope.names.lookup x=some .cell)\/(Γ.cel.contains x=false/\scope.names.lookup x=some .local):=λx hx=>by
    have q:=(h7 x hx).2
    cases hc:Γ.cel.contains x with
    |true=>rw[hc,if_pos rfl] at q;exact .inl ⟨rfl,beq_iff_eq.mp q⟩
    |false=>rw[hc] at q;exact .inr ⟨rfl,beq_iff_eq.mp q⟩
  have loc:∀x∈Γ.N,scope.names.lookup x=some .local\/scope.names.lookup x=some .cell:=λx hx=>(kin x hx).elim (λz=>.inr z.2) λz=>.inl z.2
  have S:FnScope Γ.N ps scope:=⟨h1,h2,h3,h4,h5,λx hx=>loc x (by rw[←h5] at hx;exact zaQ hx),h6⟩
  intro A outer s H args us vs Q hr e0 hb r hsp
  obtain⟨hl,φ,α,ts,μ,d,mr,K0,Z0,⟨hle,q⟩,hk0,hz0⟩:=hsp
  have KX:K.In s.heap:=e0.mod.kin.keeps λb o e=>(e0.bs b o e).1
  have lim:s.heap.NoLimit:=e0.mod.nolimit.keeps λb o e=>(e0.bs b o e).1
  have hpar:∀y∈ps.zip us,scope.names.lookup y.1=some .local\/(scope.names.lookup y.1=some .cell/\((zet (s.heap.objs.size+1) scope.names []).lookup y.1).isSome=true):=by
    rintro⟨y,v⟩ hy
    rcases S.par y (zbB hy).1 with z|z
    · exact .inl z
    · exact .inr ⟨z,zbe _ _ _ (.inl z)⟩
  have hdp:A.depth<recursionLimit:=by have:=hr.dp;omega
  refine zcZ hdp (KX _ _ lk) rfl S.co S.gen rfl (zdA KX hcd) (hb _ _ _ _ (za3 S.kind hpar λenv he s1 x=>?_))
  subst he
  refine⟨lim.keeps x.toInCall.keep,codeAny_func ?_⟩
  have e0':Env0 P w K mg base {A with handled:=none} outer s H:=⟨e0.frames,e0.mod,e0.bs,e0.bsz,e0.funs,e0.frf,e0.hok,e0.bare⟩
  have I0:=jd (fnb:=λ_=>true) (CX:=λ_ _ _ _ _ _=>False) (E:=λ_ _ _=>False) (f:=f) (cd:=cdv) (qual:=qual) (A:={A with handled:=none}) S rfl e0' hl r x
  generalize hX:({QM (λ_ _ _ _ _ _=>False) P w K mg base Γ.N qual scope f cdv A outer s H (λ_ _ _=>False) with calm:=false,xe:=λ_ _=>False}:Cx)=X
  have I:Inv X [] (start Γ.N vs) H s1:=by
    subst hX
    exact⟨⟨I0.ok.mod,I0.ok.kind,I0.ok.glob,I0.ok.blt,I0.ok.above,I0.ok.inj,I0.ok.has,I0.ok.cab,(λh=>by cases h),zd5 e0.frames,I0.ok.stk,I0.ok.exf,I0.ok.bs,I0.ok.bsz,I0.ok.noex,I0.ok.exfs,I0.ok.funs,I0.ok.frf⟩,I0.os,I0.bare,I0.base,I0.loc,I0.cell,I0.free,I0.freeC,I0.pin,I0.hok,I0.len⟩
  have F:Frm X (zaF qual scope s.heap.objs.size f cdv) outer s.heap.objs.size:=by rw[←hX];exact⟨rfl,rfl,rfl⟩
  have rmh:RoomH k X.A:=by
    subst hX
    exact⟨by have:=hr.dp;show A.depth+1+3 * k+5<_;omega,by have:=hr.un;show A.units+3+16 * k+200<_;omega⟩
  have C:Sk D noW Γ.han X k:=by
    subst hX
    exact { hK := M.hK,hN := rfl,nd := h4,vis := fun x hx => (loc x hx).elim .inl fun z => .inr (.inl z),dbg := fun x hx => ⟨beq_eq_false_iff_ne.mpr (h7 x hx).1.1,beq_eq_false_iff_ne.mpr (h7 x hx).1.2⟩,
            dbG:=λx hx=>(M.glo x (by simpa using (h8 x hx).1)).2,glb:=λx hx=>(h8 x hx).2,glo:=λx hx=>(M.glo x (by simpa using (h8 x hx).1)).1,glU:=M.glo,
            cel:=λx hx=>.inl ((kin x (by simpa using h9 x hx)).elim (λz=>z.2) λz=>by have:=z.1;rw[za6.mpr hx] at this;cases this),
            isi:=M.isi,fld:=M.fld,xcx:=M.xcx,ocx:=M.ocx,clv:=M.clv,clm:=(λz=>by cases z),rom:=(λz=>by cases z),rmh:=rmh,xe:=(λe s p=>by obtain⟨_,_,_,_,_,_,_,_,_,_,_,_,_,z⟩:=p;exact z),frm:=⟨_,_,_,F.stk,F.f0,F.fe⟩,lam:=LamOk.no rfl,
            sto:=λx hx=>⟨loc x hx,.inl rfl⟩,lcl:=λx hx hc=>(kin x hx).elim (λz=>by rw[z.1] at hc;cases hc) λz=>z.2,pso:=zeI,xmt:=M.xmt}
  have hmm:Γ.N.length-ts.length=m:=by omega
  have B:=qT (qU (wU HR n) C hds) [] s1 _ H {nx:=λ_ H'=>Q .non H',rt:=Q} I ⟨φ,α,_,μ,uK d,mr,{nx:=λ_ μ1=>K0 .non μ1,rt:=K0,bk:=λ_ _=>False,ct:=λ_ _=>False,ex:=λc fs _ μ1=>Z0 c fs μ1},by show zM ds (Yx ts (Γ.N.length-ts.length)) μ _;rw[hmm];exact q,λ_ μ1 z α' H' σ' st m _=>hk0 _ _ z α' H' st m .non rfl,λ_ _ z=>z.elim,λ_ _ z=>z.elim,λt μ1 z α' H' v st m dv=>hk0 _ _ z α' H' st m v dv,λc fs _ μ1 z α' H' σ' C1 dd st m _ ad xd=>hz0 c fs μ1 z α' H' C1 dd st m ad xd⟩
  have XA:X.A=A.deeper (zaF qual scope s.heap.objs.size f cdv):=by rw[←hX];rfl
  have Xp:X.prog=P/\X.w=w/\X.env=zaF qual scope s.heap.objs.size f cdv/\(∀e s,X.xe e s->False)/\X.fs=frs outer/\X.H₀=H/\X.s₀=s/\X.ex=[]:=by
    subst hX;exact⟨rfl,rfl,rfl,λ_ _ z=>z,rfl,rfl,rfl,rfl⟩
  obtain⟨x1,x2,x3,x4,x5,x6,x7,x8⟩:=Xp
  rw[XA,x1,x2,x3] at B
  refine z8Y B (λfl s' hs=>?_) λe s' z=>(x4 e s' z).elim
  have fin:∀{σ':St} {H':Hp} {v:V} {u:Value},Inv X [] σ' H' s'->RelV v u->Q v H'->CE outer P w H s Q u s':=λ{σ' H' v u} J rv q=>by
    have b:=J.base
    have o:=J.os
    have h:=J.hok
    rw[x5,x6,x7,x8] at b
    rw[x7] at o
    rw[x1,x2] at h
    exact⟨v,H',o,J.bare,b,h,rv,q⟩
  cases fl with
  |ret u=>obtain⟨v,σ',H',J,rv,q⟩:=hs;exact fin J rv q
  |next=>obtain⟨σ',H',J,q⟩:=hs;exact fin (v:=V.non) (u:=z9o) J rfl q
  |brk=>obtain⟨_,_,_,q⟩:=hs;exact q.elim
  |cont=>obtain⟨_,_,_,q⟩:=hs;exact q.elim
end
section
variable {X:Cx}{D:DP}{W:XW}{Γ:Cn}{k:Nat}{pins:List (Addr×Obj)}{s:Shared}{σ:St}{H:Hp}{φ α:List Addr}{τ:Sl}{μ:Mem}{fs:List De}{a b c:Expr}{pos:Pos}{es:List Expr}
abbrev Ki(g:Fn):Fn:=λts μ K _=>g ts μ K λ_ _ _=>False
theorem Vq{g:Fn}{fa:Addr}{fd:z9t}{ps:List Str}{kk:Nat}{us:List Value}{vs:List V}{ts:List T}{Q:VK}(F:z00 X.prog X.w X.K X.mg X.base kk fa fd ps (spN D ps.length g))
  (hr:RoomH kk X.A) (hb:Binds X.K fd ps []) (har:∀ts μ K Z,g ts μ K Z->ts.length=ps.length) (I:Inv X pins σ H s) (r:Vals vs us) (mr:MRel D φ α H μ) (d:DenL D φ α H ts vs) (p:Post D W φ α H σ (RV D φ Q) (Ki g ts μ)) :
  z8t (z8u X.prog X.w) X.A (call (.ref fa) us) (EP X pins σ Q) X.xe s:=by
 obtain⟨K,Z,q,hq,hz⟩:=p
 have hl:ts.length=ps.length:=har ts μ K _ q
 have sp:spN D ps.length g vs H Q (λ_ _ _=>False):=⟨by rw[←d.length];exact hl,φ,α,ts,μ,d,mr,K,_,q,hq,λ_ _ _ z=>z.elim⟩
 have hl2:us.length=ps.length:=by rw[←r.length,←d.length];exact hl
 refine za5 (z9H (F X.A X.stack s H ⟨us,[]⟩ us vs Q hr I.env0 (by simpa using hb s us I.kIn (by simpa using hl2)) r sp) λr s' hq=>?_)
 cases r with
 |error e=>exact hq.elim
 |ok fl=>
  cases fl with
  |ret u=>exact I.after hq
  |next=>exact z8Q hq
  |brk=>exact z8Q hq
  |cont=>exact z8Q hq
noncomputable def Vl(m:Str):Str:=⟨#[33]++m.cps⟩
theorem Uv(C:Ck D W Γ X k){x:Str}{g:Fn}{p0:Pos}(hx:x∈Γ.G)(hU:Vl x∈Γ.U)(hg:Γ.gl (Vl x)=.fnh x g)(ha:EsOk X D W es fs):PE X (.Call (.Name x p0) es [] pos) (rdE D W (z7 (Ki g) fs)):=by
 have q:=(C.glU _ hU).1
 rw[hg] at q
 obtain⟨fa,hm,fd,ps,kk,hk,hb,hkk,Fn,har⟩:=q
 have hr:=C.rmh.mono hkk
 have hs:=ha.stars
 have pa:=wx ha
 rintro pins s σ H Q I ⟨φ,α,τ,μ,sr,mr,p⟩
 refine z9a (qS I (C.glb x hx) hm ?_ (C.dbG x hx))
 cases es with
 |nil=>
  cases fs with
  |nil=>exact zan I.kIn hk (Vq (ts:=[]) Fn hr hb har I .nil mr rfl p)
  |cons f fs=>exact ha.elim
 |cons e es=>
  simp only[z9e,z8j] at hs
  refine z9E (h₀:=X.base) I.ok.mod.kin hk (thn (XB pa I sr mr p) ?_) (z6 hs.1) (zX hs.2)
  rintro us s1 ⟨vs,H1,ts,μ1,α1,I1,r1,st1,sr1,mr1,d1,_,p1⟩
  exact⟨I1.kIn,Vq Fn hr hb har I1 r1 mr1 d1 p1⟩
end
def z0x:ER:=λr Γ e=>match e with
 |.Call (.Name x _) es [] _=>gd (!Γ.calm&&(idx Γ.N x).isNone&&Γ.G.contains x&&Γ.U.contains (Vl x)) ((cEs r Γ es).bind λfs=>(match Γ.gl (Vl x) with
  |.fnh nm g=>gd (nm == x) (some (z7 (Ki g) fs))
  |_=>none))
 |_=>none
theorem z01{D:DP}:EOk D z0x:=by
 intro r H X W Γ k e d C h
 unfold z0x at h
 split at h
 ·rename_i x p0 es pos
  have hh:=zx h
  clear h
  obtain⟨hb,h⟩:=hh
  simp only[z8j] at hb
  obtain⟨⟨⟨h0,h2⟩,h3⟩,h4⟩:=hb
  obtain⟨fs,h6,h⟩:=bnd h
  cases hl:Γ.gl (Vl x) with
  |fnh nm g=>
   simp only[hl] at h
   obtain⟨h7,h8⟩:=zx h
   have h7:=beq_iff_eq.mp h7
   subst h7
   cases h8
   exact Uv C (by simpa using h3) (by simpa using h4) hl (wk H C h6)
  |_=>simp[hl] at h
 ·cases h
section
variable {X:Cx}{D:DP}{W:XW}{Γ:Cn}{k:Nat}{pins:List (Addr×Obj)}{s:Shared}{σ:St}{H:Hp}{φ α:List Addr}{τ:Sl}{μ:Mem}
theorem kT{q:Addr}{o:Obj}(I:Inv X pins σ H s)(h1:s.heap.get? q=some o)(h2:H q=none)(h3:q≠X.env.locals)(h4:q∉X.fs)(h5:∀v,o.data≠.cell v):Inv X ((q,o)::pins) σ H s:=
 ⟨I.ok,I.os,I.bare,I.base,I.loc,I.cell,I.free,I.freeC,λp hp=>by
  rcases z8v.mp hp with z|z
  ·exact I.pin p (z8E _ z)
  ·rcases z8T.mp z with rfl|z
   ·exact⟨h1,h2,h3,h4,h5⟩
   ·exact I.pin p (z8s _ z),I.hok,I.len⟩
theorem wy{p:Addr×Obj}(I:Inv X (p::pins) σ H s):Inv X pins σ H s:=
 ⟨I.ok,I.os,I.bare,I.base,I.loc,I.cell,I.free,I.freeC,λp hp=>by
  rcases z8v.mp hp with z|z
  ·exact I.pin p (z8E _ z)
  ·exact I.pin p (z8s _ (z8y _ z)),I.hok,I.len⟩
theorem Xk{P:z91}{w:z9c}{H:Hp}{h:Heap}{c:Addr}{qn:Str}(r:h.CodeRec (.ref c) qn):ObjOk P w H h c (.ext (wX c qn)):=by
 obtain⟨c',oc,vs,tq,e1,e2,e3,e4⟩:=id r
 cases e1
 refine⟨r,⟨oc,e2⟩,λh1 h2 p kk=>?_⟩
 obtain⟨c',oc,vs,tq,e1,e2,e3,e4⟩:=p
 cases e1
 exact⟨c,oc,vs,tq,rfl,kk _ e2,e3,e4⟩
theorem xg{a b c:Value}:∀(l:List Value),zbN l->∀{x y:Int} {t u:Tok},zbN (l++[.int x t,.int y u,c])
 |[],_,_,_,_,_=>trivial
 |[_],h,_,_,_,_=>by simp[zbN] at h
 |[_,_],h,_,_,_,_=>by simp[zbN] at h
 |p::q::r::l,h,x,y,t,u=>by
  cases p with
  |int _ _=>
   cases q with
   |int _ _=>exact xg (a:=a) (b:=b) l h
   |_=>exact h.elim
  |_=>exact h.elim
theorem VY{pos p:Pos}{c:Value}:∀(l:List Value),zbN l->zba pos l=none->zba p (l++[z9g pos.line,z9g pos.col,c])=some c\/zba p (l++[z9g pos.line,z9g pos.col,c])=zba p l:=by
 intro l h hn
 fun_induction zbN l with
 |case1=>
  by_cases q:((pos.line:Int) == (p.line:Int)&&(pos.col:Int) == (p.col:Int))=true
  ·left;simp only[zcW,zba,z9g];rw[if_pos q]
  ·right;simp only[zcW,zba,z9g];rw[if_neg q]
 |case2 a t b u x rest ih=>
  simp only[zbr,zba] at hn ⊢
  split at hn
  ·cases hn
  ·split
   ·exact .inr rfl
   ·exact ih h hn
 |case3 l h1 h2=>exact h.elim
theorem UH{params:Arguments}{body:Expr}{scope:Scope}{pos:Pos}{line i j:Nat}{qn:Str}{c P:Addr}{Q:Value->z8k->Prop}(I:Inv X pins σ H s)(mr:MRel D φ α H μ)(hi:μ[i]?=some (.tab j)){poss:List Pos}(hD:D.tabs j=some (P,poss,qn))(hpp:pos∈poss)
  (hcode:X.env.code=.ref c) (hC:zbZ X.base c P) (hB:X.base.BuiltinsAt X.mg P) (hcl:zdJ scope X.env=pure [])
  (h:∀q c' ctv H' s',Inv X ((q,z9n "<lambda>" qn params body scope [] ((X.mg "__name__").getD .none) c' ctv)::pins) σ H' s'->Stp α H α H'->MRel D φ α H' μ->c'∉α->H' c'=some (.ext (wX c' qn))->(c'∉φ/\XOk X H' q/\∀p∈pins,p.1≠q)->Q (.ref q) s') :
  z8t (z8u X.prog X.w) X.A (makeFunction "<lambda>" qn params (.expr body) scope X.env [] [] [] pos line) Q X.xe s:=by
 have hia:∃a,α[i]?=some a:=⟨_,z90 (by rw[mr.len];exact (z8h.mp hi).1)⟩
 obtain⟨a,ha⟩:=hia
 obtain⟨pos',qn',ps,hD',hH,htr,hall⟩:=mr.ob i a _ ha hi
 rw[hD] at hD'
 cases hD'
 have hcase:=hall pos hpp
 have hP:s.heap.get? P=some (zc4 ps):=I.hok P _ hH
 have hg:s.heap.Ns z8D X.mg:=I.ok.mod.glob.keeps I.bk
 have hCs:zbZ s.heap c P:=hC.keeps I.bk
 have hBs:s.heap.BuiltinsAt X.mg P:=by
  obtain⟨bm,o,b1,b2,b3,b4,b5,b6⟩:=hB
  exact⟨bm,o,b1,b2,b3,b4,I.bk _ _ b5,b6⟩
 have hPa:P∈α:=z8F ha
 have nL:X.env.locals≠P:=λz=>by have:=I.free;rw[z,hH] at this;cases this
 rcases hcase with hmiss|⟨c',hhit,n1,n2,hc'⟩
 ·have hgP:z8D≠P:=λz=>by
   obtain⟨o,es,ep,e,hd,_⟩:=hg
   rw[z,hP] at e;cases e;cases hd
  refine PySem.W.kla_makeFunction (mg:=X.mg) hcl I.ok.glob hg hcode hCs hP htr hmiss hgP hBs λc' ctv h' tk hx hge hlt hrec htb=>?_
  have hc0:H c'=none:=I.hok.fresh hge
  have hcP:c'≠P:=λz=>by rw[z,hH] at hc0;cases hc0
  have lt_of:∀{b o},s.heap.get? b=some o->b≠c':=λ{b o} e z=>absurd (z8w (z8x e) hge) (by rw[z];exact z9G _)
  generalize hH':upd (upd H c' (.ext (wX c' qn))) P (.tbl (ps++#[z9g pos.line,z9g pos.col,.ref c']))=H'
  have HP:H' P=some (.tbl (ps++#[z9g pos.line,z9g pos.col,.ref c'])):=by rw[←hH'];exact z8
  have Hc:H' c'=some (.ext (wX c' qn)):=by rw[←hH',z9 hcP];exact z8
  have Ho:∀b,b≠P->b≠c'->H' b=H b:=λb h1 h2=>by rw[←hH',z9 h1,z9 h2]
  have Hs:∀b o,b≠P->H b=some o->H' b=some o:=λb o h1 e=>by rw[Ho b h1 (zV e hc0)];exact e
  have rec2:(h'.push (z9n "<lambda>" qn params body scope [] ((X.mg "__name__").getD .none) c' ctv)).CodeRec (.ref c') qn:=by
   obtain⟨c2,oc,vs,tq,e1,e2,e3⟩:=hrec
   exact⟨c2,oc,vs,tq,e1,z8i _ e2,e3⟩
  have J:Inv X pins σ H' {s with heap:=h'.push (z9n "<lambda>" qn params body scope [] ((X.mg "__name__").getD .none) c' ctv),toks:=tk}:=by
   refine I.step (g':=s.gens) (d':=s.drawn) (ch:=[]) (λ_ z=>nomatch z) (λb o _ _ _ e n=>?_) (λb o _ _ _ e n=>⟨o.slots,?_⟩) (λb o _ e n=>?_) (λb o _ e=>?_) (λb xs e=>?_) (λb o u e=>?_) (λb qs e=>?_) (λm hm=>?_) (λb u e=>?_) I.bare
   ·exact z8i _ (hx b o (λz=>by rw[z,hH] at n;cases n) e)
   ·exact z8i _ (hx b o (λz=>by rw[z,hH] at n;cases n) e)
   ·rw[Ho b (λz=>by rw[z,hH] at n;cases n) (lt_of e)];exact n
   ·by_cases z:b=P
    ·rw[z];exact⟨_,z8i _ htb⟩
    ·exact⟨o,z8i _ (hx b o z e)⟩
   ·exact Hs b _ (λz=>by rw[z,hH] at e;cases e) e
   ·exact Hs b _ (λz=>by rw[z,hH] at e;cases e) e
   ·by_cases z:b=P
    ·rw[z,hH] at e;cases e;rw[z];exact⟨_,HP⟩
    ·exact⟨#[],by rw[Hs b _ z e];simp⟩
   ·exact (hm.extBut hx nL).push _
   ·by_cases z:b=P
    ·subst z
     rw[HP] at e;cases e
     exact z8i _ htb
    ·by_cases z2:b=c'
     ·subst z2
      rw[Hc] at e;cases e
      exact Xk rec2
     ·rw[Ho b z z2] at e
      refine (I.hok b u e).stay (λc v hc q=>?_) (λc q=>?_) λc xs q=>?_
      ·refine z8i _ (hx c v (λw=>?_) q)
       rcases hc with hc|hc
       ·exact z (hc▸w)
       ·rw[w,hH] at hc;cases hc
      ·exact Hs c _ (λw=>by rw[w,hH] at q;cases q) q
      ·exact Hs c _ (λw=>by rw[w,hH] at q;cases q) q
  have fresh:s.heap.objs.size<=h'.objs.size:=zbJ (zc1 hge hlt)
  have hqP:h'.objs.size≠P:=λz=>absurd (z8x htb) (by rw[←z];exact z9G _)
  have hqc:h'.objs.size≠c':=zax hlt
  have nq:H' h'.objs.size=none:=by rw[Ho _ hqP hqc];exact I.hok.fresh fresh
  have st:Stp α H α H':=⟨⟨[],by simp,by simp⟩,λb o n e=>Hs b o (λz=>n (z▸hPa)) e,λb e=>by
   by_cases z:b=P
   ·rw[z,HP] at e;cases e
   ·by_cases z2:b=c'
    ·rw[z2];exact hc0
    ·rw[Ho b z z2] at e;exact e⟩
  refine h h'.objs.size c' ctv H' _ (kT J (z8K _ rfl) nq (zax (z8w I.lt fresh)) (I.nofs fresh) (λv z=>by cases z)) st ?_ (zu mr hc0) Hc ⟨zv mr hc0,z0B (I.fpOk fresh nq)⟩
  refine⟨mr.len,mr.nd,mr.dis,λb hb=>?_,λi' a' o' e1 e2=>?_⟩
  ·obtain⟨u,hu⟩:=mr.phi b hb
   exact⟨u,st.keep b u (λz=>mr.dis b z hb) hu⟩
  ·by_cases z:i'=i
   ·subst z
    rw[ha] at e1;cases e1
    rw[hi] at e2;cases e2
    refine⟨poss,qn,_,hD,HP,?_,λp2 hp2=>?_⟩
    ·rw[zdm]
     exact xg (a:=.none) (b:=.none) _ htr
    ·rw[zdm]
     rcases VY (p:=p2) (c:=.ref c') _ htr hmiss with w|w
     ·exact .inr ⟨c',w,zv mr hc0,zu mr hc0,Hc⟩
     ·rw[show (#[z9g pos.line,z9g pos.col,.ref c']:Array Value).toList=[z9g pos.line,z9g pos.col,.ref c'] from rfl,w]
      refine (hall p2 hp2).imp id λ⟨c2,k1,k2,k3,k4⟩=>⟨c2,k1,k2,k3,?_⟩
      exact Hs c2 _ (λz=>k3 (z▸hPa)) k4
   ·have ne:a'≠P:=λw=>by
     obtain⟨q1,q2⟩:=z8h.mp e1
     obtain⟨q3,q4⟩:=z8h.mp ha
     exact z ((zcr mr.nd).mp (q2.trans (w.trans q4.symm)))
    have d:=mr.ob i' a' o' e1 e2
    obtain⟨u,hu⟩:=d.some
    exact DenO.step st ((Hs a' u ne hu).trans hu.symm) d
 ·refine PySem.W.kla_makeFunctionHit (mg:=X.mg) hcl I.ok.glob hg hcode hCs hP htr hhit hBs λctv h' tk hk hsz=>?_
  have J:Inv X pins σ H {s with heap:=h'.push (z9n "<lambda>" qn params body scope [] ((X.mg "__name__").getD .none) c' ctv),toks:=tk}:=I.kept λb u e=>z8i _ (hk b u e)
  exact h h'.objs.size c' ctv H _ (kT J (z8K _ rfl) (I.hok.fresh hsz) (zax (z8w I.lt hsz)) (I.nofs hsz) (λv z=>by cases z)) (Stp.refl _ _) mr n2 hc' ⟨n1,z0B (I.fpOk hsz (I.hok.fresh hsz))⟩
end
section
variable {X:Cx}{D:DP}{W:XW}{Γ:Cn}{k n:Nat}
noncomputable abbrev kq(Γ:Cn)(x:Str)(G:List Str):Cn:={Γ with N:=[x],G:=G,U:=G,cel:=[],own:=[],lam:=none}
noncomputable def z0y:GM->Bool
 |.cst _=>true
 |.none=>true
 |.xcl _=>true
 |_=>false
theorem GlOkM.lvl{D:DP}{P:z91}{w:z9c}{K:z8o}{mg:Str->Option Value}{base:Heap}{j k:Nat}{x:Str}{g:GM}(h:z0y g=true)(q:GlOkM D P w K mg base j x g):GlOkM D P w K mg base k x g:=by
 cases g<;>first|exact q|cases h
theorem UL{k0:Nat}{q c':Addr}{x:Str}{G:List Str}{params:Arguments}{body:Expr}{scope:Scope}{qn:Str}{pm ctv u:Value}{g:De}{A:z8V}{outer:List Env}{s:z8k}{H:Hp}{v:V}{t:T}{φ α:List Addr}{μ:Mem}{Q:VK}
    (C:Ck D W Γ X k) (hc:Γ.calm=true) (hG:G.all (λy=>Γ.U.contains y&&z0y (Γ.gl y))=true) (hs:jN (kq Γ x G) [x] scope=true) (hE:∀Y W k,Ck D W (kq Γ x G) Y k->PE Y body (rdE D W g)) (hbind:∀(s:z8k) (u:Value),zca s (zbj "<lambda>" qn params body scope [] pm (.ref c') ctv) ⟨[u],[]⟩ [(x,u)])
    (hr:Room (k0+1) A) (e0:Env0 X.prog X.w X.K X.mg X.base A outer s H) (ho:s.heap.get? q=some (z9n "<lambda>" qn params body scope [] pm c' ctv)) (hrec:s.heap.CodeRec (.ref c') qn) (r:RelV v u) (d:Den D φ α H t v) (mr:MRel D φ α H μ)
    {K0:T->Mem->Prop} (p:g [some t] μ K0 (λ_ _ _=>False)) (hK0:∀t' μ',K0 t' μ'->∀α' H' v',Stp α H α' H'->MRel D φ α' H' μ'->Den D φ α' H' t' v'->Q v' H') :
    zaK (z8u X.prog X.w) A (.call (.ref q) ⟨[u],[]⟩) (CR (λ_ _ _ _ _ _=>False) outer X.prog X.w H s Q (λ_ _ _=>False)) s:=by
  simp only[jN,z8j,z92,beq_iff_eq,z9O,decide_eq_true_eq,bne_iff_ne,ne_eq] at hs
  obtain⟨⟨⟨⟨⟨⟨⟨⟨⟨h1,h2⟩,h3⟩,h4⟩,h5⟩,h6⟩,h7⟩,h8⟩,h9⟩,h10⟩:=hs
  have loc:∀y∈[x],scope.names.lookup y=some .local:=λy hy=>by
    have:=(h7 y hy).2
    simpa using this
  have S:FnScope [x] [x] scope:=⟨h1,h2,h3,h4,rfl,λy hy=>.inl (loc y hy),h6⟩
  have lim:s.heap.NoLimit:=e0.mod.nolimit.keeps λb o e=>(e0.bs b o e).1
  refine zdc (fd:=zbj "<lambda>" qn params body scope [] pm (.ref c') ctv) hr.depth ho rfl S.co S.gen rfl hrec (hbind s u _ _ _ _ (za3 S.kind (λy hy=>?_) λenv he s1 y=>?_))
  · obtain ⟨y,w⟩ := y
    have:y=x:=by simpa using congrArg Prod.fst (z8l.mp hy)
    subst this
    exact .inl (loc y (by simp))
  subst he
  refine⟨lim.keeps y.toInCall.keep,zdd ?_⟩
  have I0:=jd (fnb:=λ_=>true) (CX:=λ_ _ _ _ _ _=>False) (E:=λ_ _ _=>False) (f:=q) (cd:=.ref c') (qual:=qn) (A:=A) (vs:=[v]) (us:=[u]) S hr.hd e0 rfl (.cons r .nil) y
  generalize hX:({QM (λ_ _ _ _ _ _=>False) X.prog X.w X.K X.mg X.base [x] qn scope q (.ref c') A outer s H (λ_ _ _=>False) with xe:=λ_ _=>False}:Cx)=Y
  have I:Inv Y [] (start [x] [v]) H s1:=by
    subst hX
    exact⟨⟨I0.ok.mod,I0.ok.kind,I0.ok.glob,I0.ok.blt,I0.ok.above,I0.ok.inj,I0.ok.has,I0.ok.cab,I0.ok.hd,I0.ok.frames,I0.ok.stk,I0.ok.exf,I0.ok.bs,I0.ok.bsz,I0.ok.noex,I0.ok.exfs,I0.ok.funs,I0.ok.frf⟩,I0.os,I0.bare,I0.base,I0.loc,I0.cell,I0.free,I0.freeC,I0.pin,I0.hok,I0.len⟩
  have F:Frm Y (zaF qn scope s.heap.objs.size q (.ref c')) outer s.heap.objs.size:=by rw[←hX];exact⟨rfl,rfl,rfl⟩
  have hr':=hr.deeper (zaF qn scope s.heap.objs.size q (.ref c'))
  have C2:Ck D noW (kq Γ x G) Y k0:=by
    subst hX
    have gl0:∀y∈G,GlOkM D X.prog X.w X.K X.mg X.base k0 y (Γ.gl y)/\(y == ("__debug__":Str))=false:=λy hy=>by
      have h:=z92.mp hG y hy
      simp only[z8j] at h
      have q:=C.glU y (by simpa using h.1)
      exact⟨GlOkM.lvl h.2 q.1,q.2⟩
    exact { hK := C.hK,hN := rfl,nd := h4,vis := fun y hy => .inl (loc y hy),dbg := fun y hy => ⟨beq_eq_false_iff_ne.mpr (h7 y hy).1.1,beq_eq_false_iff_ne.mpr (h7 y hy).1.2⟩,
            dbG:=λy hy=>(gl0 y hy).2,glb:=λy hy=>(h8 y hy).2,glo:=λy hy=>(gl0 y hy).1,glU:=gl0,
            cel:=λy hy=>absurd hy (by simp),isi:=C.isi,fld:=C.fld,xcx:=C.xcx,ocx:=C.ocx,clv:=C.clv,clm:=λ_=>rfl,rom:=λ_=>hr',rmh:=⟨hr'.dp,hr'.un⟩,xe:=(λe s p=>by obtain⟨_,_,_,_,_,_,_,_,_,_,_,_,_,z⟩:=p;exact z),frm:=⟨_,_,_,F.stk,F.f0,F.fe⟩,lam:=LamOk.no rfl}
  have sr:SRel D φ α H [some t] (start [x] [v]):=⟨rfl,λi t' e=>by
    cases i with
    | zero => have : t = t' := by simpa using e
              subst this
              exact⟨v,rfl,d⟩
    |succ i=>simp at e⟩
  have B:=hE Y noW k0 C2 [] s1 _ H Q I ⟨φ,α,[some t],μ,sr,mr,_,_,p,λa μ' e α' H' st m v' dv=>hK0 a μ' e α' H' v' st m dv,λ_ _ _ z=>z.elim⟩
  have XA:Y.A=A.deeper (zaF qn scope s.heap.objs.size q (.ref c')):=by rw[←hX];rfl
  have Xp:Y.prog=X.prog/\Y.w=X.w/\Y.env=zaF qn scope s.heap.objs.size q (.ref c')/\(∀e s,Y.xe e s->False)/\Y.fs=frs outer/\Y.H₀=H/\Y.s₀=s/\Y.ex=[]:=by
    subst hX;exact⟨rfl,rfl,rfl,λ_ _ z=>z,rfl,rfl,rfl,rfl⟩
  obtain⟨x1,x2,x3,x4,x5,x6,x7,x8⟩:=Xp
  rw[XA,x1,x2,x3] at B
  refine z8Y B (λw s' hs=>?_) λe s' z=>(x4 e s' z).elim
  obtain⟨v',H',J,rv,q'⟩:=hs
  have b:=J.base
  have o:=J.os
  have hk:=J.hok
  rw[x5,x6,x7,x8] at b
  rw[x7] at o
  rw[x1,x2] at hk
  exact⟨v',H',o,J.bare,b,hk,rv,q'⟩
end
section
variable {prog:Program}{w:World}{A:Around}{E:Value->Shared->Prop}{s:Shared}{a:Addr}{vs:List Value}{kz:List Int}{P:PySem.Fin->Shared->Prop}{J:Shared->Prop}{f:Value}{z0:Nat}
structure Keeps(J:Shared->Prop)(a kS:Addr):Prop where
 set:∀s' b h' tk,J s'->(b=a\/b=kS)->z99 b s'.heap h'->J {s' with heap:=h',toks:=tk}
 push:∀s' o,J s'->J {s' with heap:=s'.heap.push o}
theorem Ku {keys:Array Value} {e e1:Nat} {kS:Addr} {st:SortSt} (KJ:Keeps J a kS) (hJ:J s) (nk:s.heap.get? kS=some (z97 "list" keys e)) (na:s.heap.get? a=some (z97 "list" #[] e1)) (hka:kS≠a)
  (hk:z9m keys.toList kz) (hlen:kz.length=vs.length) (h64:vs.length<64) (hp:(zdv st).Perm (keys.zip vs.toArray)) (hs:SortedTo (zdv st) (zdv st).size) (hfl:failedOf st=none)
  (h:∀s' out c,J s'->s'.heap.get? a=some (z97 "list" out c)->KskOut false kz vs out.toList->P (.done (.ret .none)) s') :
  z8t (z8u prog w) A (ksk_tail a false e1 (.ref kS) st) P E s:=by
 have hsz:keys.size=vs.length:=by
  have h1:=hk.length
  rw[z9R] at h1
  omega
 have hsz2:(zdv st).size=vs.length:=by rw[hp.size_eq,zff,hsz,z8A,zeh]
 have hout:((zdv st).map (·.2)).size=vs.length:=by rw[Array.size_map];exact hsz2
 have s1:=zaY s.heap kS (z93 λ_=>(#[]:Array Value))
 have na1:=(s1.2 a hka.symm).trans na
 have s2:=zaY (s.heap.update kS (z93 λ_=>(#[]:Array Value))) a (z93 λ_=>(zdv st).map (·.2))
 obtain⟨c2,hc2⟩:∃c2,((s.heap.update kS (z93 λ_=>(#[]:Array Value))).update a (z93 λ_=>(zdv st).map (·.2))).get? a=some (z97 "list" ((zdv st).map (·.2)) c2):=⟨_,zcX na1 λ_=>(zdv st).map (·.2)⟩
 unfold ksk_tail
 dsimp only
 refine z8g (zcn nk rfl ?_ (by rw[hsz,z95];omega) (zac _))
 refine z8g (wpAny_letGo ?_)
 refine z8g (seqEpoch_at na1 rfl ?_)
 refine z8g (zcn na1 rfl ?_ (zac _) (z8G (zaT hout) (by rw[z95];omega)))
 rw[hfl]
 simp only[bne_self_eq_false,zb7,if_false]
 have J1:=KJ.set s kS _ s.toks hJ (.inr rfl) s1
 have J2:=KJ.set _ a _ s.toks J1 (.inl rfl) s2
 refine z8q (h _ _ c2 J2 hc2 ?_)
 have:=ksk_out (b:=false) hk hp hs
 simpa using this
theorem z41 {keys:Array Value} {e e1:Nat} {kS:Addr} (KJ:Keeps J a kS) (hJ:J s) (nk:s.heap.get? kS=some (z97 "list" keys e)) (na:s.heap.get? a=some (z97 "list" #[] e1)) (hka:kS≠a)
  (hk:z9m keys.toList kz) (hlen:kz.length=vs.length) (h64:vs.length<64)
  (h:∀s' out c,J s'->s'.heap.get? a=some (z97 "list" out c)->KskOut false kz vs out.toList->P (.done (.ret .none)) s') :
  z8t (z8u prog w) A (ksk_end a false vs.toArray e1 (.ref kS) keys) P E s:=by
 have hsz:keys.size=vs.length:=by
  have h1:=hk.length
  rw[z9R] at h1
  omega
 have hzs:(keys.zip vs.toArray).size=vs.length:=by rw[zff,hsz,z8A,zeh]
 unfold ksk_end
 simp only[zb7,if_false]
 by_cases h2:vs.toArray.size<2
 ·rw[if_pos h2,if_pos h2]
  refine z8g (z8q ?_)
  rw[StateT.run_pure]
  refine z8g (z8q ?_)
  refine Ku (st:=zg9 general' (keys.zip vs.toArray) #[] 7 none) KJ hJ nk na hka hk hlen h64 (zeJ _) ?_ rfl h
  intro i j hij hj
  have hj2:j<(keys.zip vs.toArray).size:=hj
  rw[hzs] at hj2
  rw[z8A] at h2
  have:i=j:=by omega
  subst this
  exact z9q _
 ·rw[if_neg h2,if_neg h2]
  rw[z8A] at h2
  rw[ksk_kind hk (by rw[hsz];omega)]
  refine z8g (z8q ?_)
  refine z8g (z8Y (wpS_sortRuns (a₀:=keys.zip vs.toArray) (st:=zg9 oneType' (keys.zip vs.toArray) #[] 7 none)
   (Q:=λ_ st'=>(zdv st').Perm (keys.zip vs.toArray)/\failedOf st'=none/\SortedTo (zdv st') (keys.zip vs.toArray).size)
   (ksk_intKeys hk) ⟨zeJ _,rfl,rfl,rfl⟩ (by rw[hzs];omega) (by rw[hzs];exact h64) λst' a1 a2 a3=>⟨a1,a2,a3⟩) ?_ λ_ _ e=>e)
  rintro⟨⟨⟩,st'⟩ s' ⟨rfl,hp,hf,hs⟩
  exact Ku KJ hJ nk na hka hk hlen h64 hp (by rw[hp.size_eq];exact hs) hf h
theorem z1R {n:Nat} (KJ:Keeps J a (s.heap.objs.size+1)) (hJ:J s) (ho:s.heap.get? a=some (z97 "list" vs.toArray n)) (hlen:kz.length=vs.length) (h64:vs.length<64)
  (turn:∀(i:Nat) (v:Value) (k:Int) (s':z8k) (ka:Array Value) (ca ck:Nat),vs[i]?=some v->kz[i]?=some k->J s'->s'.heap.get? a=some (z97 "list" #[] ca)->s'.heap.get? (s.heap.objs.size+1)=some (z97 "list" ka ck)->
   z8t (z8u prog w) A (call f [v]) (λr s2=>(∃t2,r=.int k t2)/\J s2/\s2.heap.get? a=some (z97 "list" #[] ca)/\s2.heap.get? (s.heap.objs.size+1)=some (z97 "list" ka ck)) (λ_ _=>False) s')
  (h:∀s' out c,J s'->s'.heap.get? a=some (z97 "list" out c)->KskOut false kz vs out.toList->P (.done (.ret .none)) s') :
  z8t (z8u prog w) A (ksk_tree a f false) P E s:=by
 have ha:a<s.heap.objs.size:=z8x ho
 have s1:=zaY s.heap a (z93 λ_=>(#[]:Array Value))
 obtain⟨e1,ho1⟩:∃e1,(s.heap.update a (z93 λ_=>(#[]:Array Value))).get? a=some (z97 "list" #[] e1):=⟨_,zcX ho λ_=>#[]⟩
 unfold ksk_tree
 refine z8g (listItems_at ho rfl ?_)
 refine z8g (zcn ho rfl ?_ (by rw[z8A,z95];omega) (zac _))
 refine z8g (seqEpoch_at ho1 rfl ?_)
 refine z8g (wpAny_newTuple ?_ (by show vs.length<=_;rw[z95];omega))
 refine z8g (wpAny_newList ?_ (zac _))
 refine z8W ?_
 have hu:(s.heap.update a (z93 λ_=>(#[]:Array Value))).objs.size=s.heap.objs.size:=zez ..
 have J1:=KJ.set s a _ s.toks hJ (.inl rfl) s1
 have J2:=KJ.push _ (z97 "tuple" vs.toArray 0) J1
 have hz2:((s.heap.update a (z93 λ_=>(#[]:Array Value))).push (z97 "tuple" vs.toArray 0)).objs.size=s.heap.objs.size+1:=by rw[z9K,hu]
 have J3:=KJ.push _ (z97 "list" #[] 0) J2
 have g3:(((s.heap.update a (z93 λ_=>(#[]:Array Value))).push (z97 "tuple" vs.toArray 0)).push (z97 "list" #[] 0)).get? a=some (z97 "list" #[] e1):=z8i _ (z8i _ ho1)
 have gk:(((s.heap.update a (z93 λ_=>(#[]:Array Value))).push (z97 "tuple" vs.toArray 0)).push (z97 "list" #[] 0)).get? ((s.heap.update a (z93 λ_=>(#[]:Array Value))).push (z97 "tuple" vs.toArray 0)).objs.size=some (z97 "list" #[] 0):=z8K _ rfl
 have hka:((s.heap.update a (z93 λ_=>(#[]:Array Value))).push (z97 "tuple" vs.toArray 0)).objs.size≠a:=by rw[hz2];exact zax (zaM ha)
 generalize hkS:((s.heap.update a (z93 λ_=>(#[]:Array Value))).push (z97 "tuple" vs.toArray 0)).objs.size=kS at gk hka hz2
 rw[←hz2] at KJ turn
 have back:z8t (z8u prog w) A (ksk_rest a f false vs.toArray e1 (.ref kS)) P E {s with heap:=((s.heap.update a (z93 λ_=>(#[]:Array Value))).push (z97 "tuple" vs.toArray 0)).push (z97 "list" #[] 0)}:=by
  unfold ksk_rest
  refine z8g (zdI ?_)
  first
   |rw[List.forIn_toArray]
   |(rw[←zdL];simp only[zdn])
   |rw[←zdL]
  refine z8g (ksk_fold (λi s'=>∃kA e,J s'/\s'.heap.get? a=some (z97 "list" #[] e1)/\s'.heap.get? kS=some (z97 "list" kA e)/\z9m kA.toList (kz.take i)) vs 0 _ ⟨#[],0,J3,g3,gk,by simpa using IntsAre.nil⟩ ?step ?done)
  case step=>
   rintro j x s' hx ⟨kA,e,hJ',na,nk,hk⟩
   simp only[Nat.zero_add] at hk ⊢
   have hj:j<vs.length:=(z8h.mp hx).1
   obtain⟨k,hkj⟩:∃k,kz[j]?=some k:=⟨_,z90 (by omega)⟩
   have hz:kA.size<=vs.length:=by
    have h1:=hk.length
    rw[z9R,zap] at h1
    omega
   refine z8g (zck (z8Y (turn j x k s' kA e1 e hx hkj hJ' na nk) (λv s'' he=>?_) λ_ _ hF=>hF.elim))
   obtain⟨⟨t2,rfl⟩,hJ2,na2,nk2⟩:=he
   have s1:=zaY s''.heap kS (z93 (·.push (.int k t2)))
   obtain⟨c2,hc2⟩:∃c2,(s''.heap.update kS (z93 (·.push (.int k t2)))).get? kS=some (z97 "list" (kA.push (.int k t2)) c2):=⟨_,zcX nk2 (·.push (.int k t2))⟩
   have ek:kz.take (j+1)=kz.take j++[k]:=by rw[zcf,hkj];simp
   have ea:(kA.push (zcp k t2)).toList=kA.toList++[zcp k t2]:=by simp
   refine z8g (zcn nk2 rfl ?_ (by rw[z95];omega) (z8G (zaT (Array.size_push ..)) (by rw[z95];omega)))
   exact z8q ⟨rfl,kA.push (.int k t2),c2,KJ.set s'' kS _ s''.toks hJ2 (.inr rfl) s1,(s1.2 a hka.symm).trans na2,hc2,by rw[ea,ek];exact ksk_snoc hk⟩
  case done=>
   rintro s' ⟨kA,e,hJ',na,nk,hk⟩
   have hk':z9m kA.toList kz:=by
    have e3:kz.take (0+vs.length)=kz:=zaA (by omega)
    rw[e3] at hk
    exact hk
   refine z8g (listItems_at nk rfl ?_)
   exact z41 KJ hJ' nk na hka hk' hlen h64 h
 exact back
end
theorem WW{α β:Type}{f:α->β}{ps m:List β}(h:ps.Perm m):∀{l:List α}, m=l.map f->∃qs:List α, qs.Perm l/\ps=qs.map f:=by
  induction h with
  |nil=>intro l e;cases l with
    |nil=>exact⟨[], .refl _, rfl⟩
    |cons a r=>cases e
  |cons x p ih=>intro l e;cases l with
    |nil=>cases e
    |cons a r=>
      rw[z8R] at e
      injection e with e1 e2
      obtain⟨qs, h1, h2⟩:=ih e2
      exact⟨a::qs, h1.cons a, by rw[e1, h2];rfl⟩
  |swap x y l'=>intro l e;cases l with
    |nil=>cases e
    |cons a r=>cases r with
      |nil=>simp at e
      |cons b r=>
        rw[z8R, z8R] at e
        injection e with e1 e2
        injection e2 with e2 e3
        exact⟨b::a::r, .swap a b r, by rw[e1, e2, e3];rfl⟩
  | trans p1 p2 ih1 ih2 => intro l e
                           obtain⟨qs, h1, h2⟩:=ih2 e
                           obtain⟨rs, h3, h4⟩:=ih1 h2
                           exact⟨rs, h3.trans h1, h4⟩
def KeyR (g:De)(μ:Mem):List T->List Int->Prop
 |[],[]=>True
 |t::ts,z::zs=>g [some t] μ (λt' μ'=>t'=.int z/\μ'=μ) (λ_ _ _=>False)/\KeyR g μ ts zs
 |_,_=>False
theorem KeyR.len{g:De}{μ:Mem}:∀{ts:List T} {kz:List Int},KeyR g μ ts kz->kz.length=ts.length
 |[],[],_=>rfl
 |_::_,_::_,h=>by simp[KeyR.len h.2]
 |[],_::_,h=>h.elim
 |_::_,[],h=>h.elim
theorem KeyR.at{g:De}{μ:Mem}:∀{ts:List T} {kz:List Int} {i:Nat} {t:T} {z:Int},KeyR g μ ts kz->ts[i]?=some t->kz[i]?=some z->g [some t] μ (λt' μ'=>t'=.int z/\μ'=μ) (λ_ _ _=>False)
 |a::ts,b::zs,0,t,z,h,e1,e2=>by
  have e1:some a=some t:=by simpa using e1
  have e2:some b=some z:=by simpa using e2
  cases e1;cases e2
  exact h.1
 |a::ts,b::zs,i+1,t,z,h,e1,e2=>KeyR.at (ts:=ts) (kz:=zs) (i:=i) h.2 (by simpa using e1) (by simpa using e2)
 |[],[],i,t,z,h,e1,e2=>by simp at e1
 |[],_::_,_,_,_,h,_,_=>h.elim
 |_::_,[],_,_,_,h,_,_=>h.elim
abbrev JQ(j:Nat)(g:De)(xs:List T)(μ:Mem):RE T:=λK _=>xs.length<64/\∃kz,KeyR g μ xs kz/\
 ∀ps:List (Int×T),ps.Perm (kz.zip xs)->ps.Pairwise (λp q=>p.1<=q.1)->K (.lst (ps.map (·.2))) μ
abbrev Ys(j:Nat)(g:De)(t:T)(μ:Mem):RE T:=λK Z=>(∃i:Nat,μ[i]?=some (MO.tab j))/\(match t with
 |.lst xs=>JQ j g xs μ
 |.mut i=>λK Z=>∃xs,μ[i]?=some (MO.lst xs)/\JQ j g xs μ K Z
 |_=>.st) K Z
abbrev JF(j:Nat)(g f:De):De:=λτ μ=>(f τ μ).bind (Ys j g)
section
variable {X:Cx}{D:DP}{W:XW}{Γ:Cn}{k n:Nat}{pins:List (Addr×Obj)}{s:Shared}{σ:St}{H:Hp}{φ α:List Addr}{τ:Sl}{μ:Mem}
theorem z06{a:Addr}{o:HO}(I:Inv X pins σ H s)(h0:H a=none)(h1:X.s₀.heap.objs.size<=a)(h2:a≠X.env.locals)(h3:∀x c,X.env.cells.lookup x=some c->c≠a)(h4:∀p∈X.pn++pins,p.1≠a)
  (new:ObjOk X.prog X.w (upd H a o) s.heap a o):Inv X pins σ (upd H a o) s:=by
 have ne:∀{b u},H b=some u->b≠a:=λ{b u} e z=>by rw[z,h0] at e;cases e
 refine I.step (h':=s.heap) (g':=s.gens) (t':=s.toks) (d':=s.drawn) (ch:=[a]) (λb hb=>?_) (λb o _ _ _ e n=>e) (λb o _ _ _ e n=>⟨o.slots,e⟩) (λb o hb e n=>?_) (λb o _ e=>⟨o,e⟩) (λb xs e=>?_) (λb o u e=>?_) (λb qs e=>?_) (λm hm=>hm) (λb u e=>?_) I.bare
 ·rw[z8l.mp hb];exact⟨.inr h1,h2,h3,h4⟩
 ·rw[z9 (λz=>hb (by rw[z];simp))];exact n
 ·rw[z9 (ne e)];exact e
 ·rw[z9 (ne e)];exact e
 ·exact⟨#[],by rw[z9 (ne e),e];simp⟩
 ·by_cases z:b=a
  ·subst z
   rw[z8] at e;cases e
   exact new
  ·rw[z9 z] at e
   refine (I.hok b u e).stay (λc v hc q=>q) (λc q=>?_) λc xs q=>?_
   ·rw[z9 (ne q)];exact q
   ·rw[z9 (ne q)];exact q
theorem W_{q c' ad:Addr}{x:Str}{G:List Str}{params:Arguments}{body:Expr}{scope:Scope}{qn:Str}{pm ctv:Value}{g:De}{xs:List T}{vs:List V}{Q:VK}{j:Nat}
  (C:Ck D W Γ X k) (hk:2<=k) (hc:Γ.calm=true) (hG:G.all (λy=>Γ.U.contains y&&z0y (Γ.gl y))=true) (hs:jN (kq Γ x G) [x] scope=true) (hE:∀Y W k,Ck D W (kq Γ x G) Y k->PE Y body (rdE D W g)) (hbind:∀(s:z8k) (u:Value),zca s (zbj "<lambda>" qn params body scope [] pm (.ref c') ctv) ⟨[u],[]⟩ [(x,u)])
  (I:Inv X ((q,z9n "<lambda>" qn params body scope [] pm c' ctv)::pins) σ H s) (mr:MRel D φ α H μ) (hca:c'∉α) (hcc:H c'=some (.ext (wX c' qn))) (hq:Rd H ad (.lst vs)) (l:DenL D φ α H xs vs) (p:Post D W φ α H σ (RV D φ Q) (JQ j g xs μ)) :
  z8t (z8u X.prog X.w) X.A (call (.builtin "sorted") [.ref ad] [(z9T "key",.ref q)]) (EP X pins σ Q) X.xe s:=by
 obtain⟨its,rv,pl,hz⟩:=I.list (.inl hq)
 obtain⟨K0,Z0,⟨h64,kz,hkr,hK⟩,k1,k2⟩:=p
 have hlen:its.length<64:=by rw[←rv.length,←l.length];exact h64
 have hkl:kz.length=its.length:=by rw[hkr.len,←rv.length,←l.length]
 refine call_function_entry_kw kind_sorted plain_sorted entry_sorted (ksk_s1 _ _) ?_
 unfold zdg.«sorted»
 refine z8g (m:=checkCount "sorted" 1 1 _) (z8q ?_)
 refine z8g (collect_list pl.isList ?_ (by rw[z95];omega))
 refine z8g (wpAny_newList ?_ (by rw[z95];omega))
 have hsz:((s.heap.push (z97 "list" #[] 0)).update s.heap.objs.size (z93 (·++its.toArray))).objs.size=s.heap.objs.size+1:=by
  rw[zez,z9K]
 have hoL:(((s.heap.push (z97 "list" #[] 0)).update s.heap.objs.size (z93 (·++its.toArray))).push (z97 "list" its.toArray 0)).get? (s.heap.objs.size+1)=some (z97 "list" its.toArray 0):=by
  rw[←hsz];exact z8K _ rfl
 have keep:∀b o,s.heap.get? b=some o->(((s.heap.push (z97 "list" #[] 0)).update s.heap.objs.size (z93 (·++its.toArray))).push (z97 "list" its.toArray 0)).get? b=some o:=λb o q=>by
  have hlt:b<s.heap.objs.size:=z8x q
  rw[zei _ _ _ (by rw[hsz];exact z8O (zaM hlt)),zbH _ _ _ _ (z8O hlt),zei _ _ _ (z8O hlt)]
  exact q
 show z8t _ _ _ _ _ {s with heap:=((s.heap.push (z97 "list" #[] 0)).update s.heap.objs.size (z93 (·++its.toArray))).push (z97 "list" its.toArray 0)}
 rw[hsz]
 have hs1:((((s.heap.push (z97 "list" #[] 0)).update s.heap.objs.size (z93 (·++its.toArray))).push (z97 "list" its.toArray 0))).objs.size=s.heap.objs.size+2:=by rw[z9K,hsz]
 have I1:Inv X ((q,z9n "<lambda>" qn params body scope [] pm c' ctv)::pins) σ H {s with heap:=((s.heap.push (z97 "list" #[] 0)).update s.heap.objs.size (z93 (·++its.toArray))).push (z97 "list" its.toArray 0)}:=I.kept (t':=s.toks) keep
 generalize ((s.heap.push (z97 "list" #[] 0)).update s.heap.objs.size (z93 (·++its.toArray))).push (z97 "list" its.toArray 0)=h1 at I1 hoL hs1 keep
 generalize hca':s.heap.objs.size+1=a at hoL
 have new:∀b,s.heap.objs.size<=b->H b=none/\X.s₀.heap.objs.size<=b/\b≠X.env.locals/\(∀x c,X.env.cells.lookup x=some c->c≠b)/\(∀p∈X.pn++pins,p.1≠b)/\b∉X.fs/\b≠q:=λb hb=>by
  have lt:∀{d o},s.heap.get? d=some o->d≠b:=λ{d o} e z=>absurd (z8w (z8x e) hb) (by rw[z];exact z9G _)
  refine⟨I.hok.fresh hb,z8G I.sz hb,zax (z8w I.lt hb),λx c e=>?_,λp hp=>?_,I.nofs hb,?_⟩
  ·obtain⟨v,o,ho,_⟩:=I.cell x c e
   exact lt ho
  ·exact lt ((wy I).pin p hp).1
  ·exact (lt (I.pin _ (z8s _ z8M)).1).symm
 have na:=new a (by omega)
 have nk:=new (h1.objs.size+1) (by omega)
 let J:z8k->Prop:=λs'=>∃H',Inv X ((q,z9n "<lambda>" qn params body scope [] pm c' ctv)::pins) σ H' s'/\Stp α H α H'/\MRel D φ α H' μ/\H' c'=some (.ext (wX c' qn))/\H' a=none/\H' (h1.objs.size+1)=none
 have KJ:Keeps J a (h1.objs.size+1):=by
  refine⟨λs' b h' tk hj hb sb=>?_,λs' o hj=>?_⟩
  ·obtain⟨H',J1,J2,J3,J4,J5,J6⟩:=hj
   have hb0:H' b=none:=by rcases hb with rfl|rfl<;>assumption
   have nb:=by
    have:=hb
    exact show X.s₀.heap.objs.size<=b/\b≠X.env.locals/\(∀x c,X.env.cells.lookup x=some c->c≠b)/\(∀p∈X.pn++pins,p.1≠b)/\b∉X.fs/\b≠q from by rcases this with rfl|rfl;exact na.2;exact nk.2
   have ex:∀c o,c≠b->s'.heap.get? c=some o->h'.get? c=some o:=λc o n e=>(sb.2 c n).trans e
   have neb:∀{c u},H' c=some u->c≠b:=λ{c u} e z=>by rw[z,hb0] at e;cases e
   refine⟨H',J1.step (h':=h') (g':=s'.gens) (t':=tk) (d':=s'.drawn) (ch:=[b]) (λc hc=>?_) (λc o _ _ n e _=>ex c o (λz=>n (by rw[z];simp)) e) (λc o _ _ n e _=>⟨o.slots,ex c o (λz=>n (by rw[z];simp)) e⟩) (λc o _ _ n=>n) (λc o n e=>⟨o,ex c o (λz=>n (by rw[z];simp)) e⟩) (λc xs e=>e) (λc o u e=>e) (λc qs e=>⟨#[],by rw[e];simp⟩) (λm hm=>?_) (λc u e=>?_) J1.bare,J2,J3,J4,J5,J6⟩
   ·rw[z8l.mp hc]
    refine⟨.inr nb.1,nb.2.1,nb.2.2.1,λp hp=>?_⟩
    rcases z8v.mp hp with z|z
    ·exact nb.2.2.2.1 p (z8E _ z)
    ·rcases z8T.mp z with rfl|z
     ·exact nb.2.2.2.2.2.symm
     ·exact nb.2.2.2.1 p (z8s _ z)
   ·exact hm.sameBut sb nb.2.1.symm
   ·refine (J1.hok c u e).stay (λd v hd q=>ex d v (λz=>?_) q) (λd q=>q) λd xs q=>q
    rcases hd with hd|hd
    ·exact neb e (hd▸z)
    ·exact neb hd z
  ·obtain⟨H',J1,J2,J3,J4,J5,J6⟩:=hj
   exact⟨H',J1.kept (t':=s'.toks) λb o e=>z8i _ e,J2,J3,J4,J5,J6⟩
 refine z8g (z8W (wpAny_call_entry_kw slot_list_sort ⟨_,hoL,rfl⟩ entry_list_sort ?body (ksk_l1 _ _)))
 case body=>
  show z8t (z8u X.prog X.w) X.A.in1.in1 (zdg.«list.sort» ⟨[.ref a],[(z9T "key",.ref q)]⟩) _ _ _
  rw[ksk_t1]
  refine z1R (J:=J) (kz:=kz) (vs:=its) (s:={s with heap:=h1}) KJ ⟨H,I1,Stp.refl _ _,mr,hcc,na.1,nk.1⟩ hoL hkl hlen (λi v z s' ka ca ck e1 e2 hj ga gk=>?_) λs' out c hj ga hout=>⟨_,rfl,z8q ⟨_,rfl,?_⟩⟩
  ·obtain⟨H',J1,J2,J3,J4,J5,J6⟩:=hj
   have J1a:=kT (kT J1 ga J5 na.2.2.1 na.2.2.2.2.2.1 (λv z=>by cases z)) gk J6 nk.2.2.1 nk.2.2.2.2.2.1 (λv z=>by cases z)
   have hi:i<its.length:=(z8h.mp e1).1
   obtain⟨vv,hvv⟩:∃vv,vs[i]?=some vv:=⟨_,z90 (by rw[rv.length];exact hi)⟩
   obtain⟨tt,htt⟩:∃tt,xs[i]?=some tt:=⟨_,z90 (by rw[l.length,rv.length];exact hi)⟩
   have rr:RelV vv v:=by
    obtain⟨u0,e0,r0⟩:=rv.get hvv
    rw[e1] at e0;cases e0;exact r0
   obtain⟨vv',hv',dd⟩:=(l.step J2).get htt
   rw[hvv] at hv';cases hv'
   have hrec:s'.heap.CodeRec (.ref c') qn:=(J1.hok c' _ J4).1
   have ho:s'.heap.get? q=some (z9n "<lambda>" qn params body scope [] pm c' ctv):=(J1.pin _ (z8s _ z8M)).1
   have rm:=C.rom hc
   have hr:Room (0+1) X.A.in1.in1:=⟨rm.hd,by have:=rm.dp;show X.A.depth+3 * (0+1)+5<_;omega,by have:=rm.un;show X.A.units+1+1+16 * (0+1)+200<_;omega⟩
   refine za5 (z9H (UL (k0:=0) C hc hG hs hE hbind hr J1a.env0.in1.in1 ho hrec rr dd J3 (Q:=λv' H2=>v'=.int z/\Stp α H' α H2/\MRel D φ α H2 μ) (hkr.at htt e2) ?_) λr s2 hq=>?_)
   ·rintro t' μ' ⟨rfl,rfl⟩ α' H2 v' st m d
    have ea:α'=α:=by
     obtain⟨⟨more,e,_⟩,_,_⟩:=id st
     have h1:=m.len
     have h2:=J3.len
     rw[e,z8Z,h2] at h1
     have:more=[]:=List.eq_nil_of_length_eq_zero (by omega)
     rw[e,this,z98]
    subst ea
    exact⟨d,st,m⟩
   ·cases r with
    |error e=>exact hq.elim
    |ok fl=>
     cases fl with
     |ret u=>
      obtain⟨v',H2,I2,r2,rfl,st2,m2⟩:=J1a.after hq
      obtain⟨t2,rfl⟩:=r2
      have p1:=I2.pin _ (z8s _ z8M)
      have p2:=(wy I2).pin _ (z8s _ z8M)
      exact⟨⟨t2,rfl⟩,⟨H2,wy (wy I2),J2.trans st2,m2,st2.keep c' _ hca J4,p2.2.1,p1.2.1⟩,p2.1,p1.1⟩
     |next=>exact z8Q hq
     |brk=>exact z8Q hq
     |cont=>exact z8Q hq
  ·obtain⟨H',J1,J2,J3,J4,J5,J6⟩:=hj
   obtain⟨ps,hp,ho,hpw⟩:=hout
   have lz:∀{A B:Type} (a:List A) (b:List B),a.length=b.length->(a.zip b).length=b.length:=λa b h=>by rw[zeK,h,zeh]
   have hvl:vs.length=its.length:=rv.length
   have hxl:xs.length=its.length:=by rw[l.length,hvl]
   have em:kz.zip its=(kz.zip (its.zip (vs.zip xs))).map (λq=>(q.1,q.2.1)):=by
    refine zeA (by simp[hkl,hvl,hxl]) λi h1 h2=>by simp
   obtain⟨qs,hqp,rfl⟩:=WW hp em
   have mem:∀q∈qs,RelV q.2.2.1 q.2.1/\Den D φ α H' q.2.2.2 q.2.2.1:=λq hq=>by
    have:=hqp.mem_iff.mp hq
    obtain⟨i,hi⟩:=zaI.mp this
    obtain⟨hi',rfl⟩:=z8h.mp hi
    simp only[zeK,Nat.lt_min] at hi'
    have d:=(l.step J2).get (i:=i) (z90 hi'.2.2.2)
    obtain⟨v',e',d⟩:=d
    rw[z90 hi'.2.2.1] at e'
    cases e'
    simp only[List.getElem_zip]
    obtain⟨u0,e0,r0⟩:=rv.get (z90 hi'.2.2.1)
    rw[z90 hi'.2.1] at e0;cases e0
    exact⟨r0,d⟩
   have hvs:∀(qs:List (Int×Value×V×T)),(∀q∈qs,RelV q.2.2.1 q.2.1/\Den D φ α H' q.2.2.2 q.2.2.1)->Vals (qs.map (·.2.2.1)) (qs.map (·.2.1))/\DenL D φ α H' (qs.map (·.2.2.2)) (qs.map (·.2.2.1)):=by
    intro qs
    induction qs with
    |nil=>exact λ_=>⟨.nil,rfl⟩
    |cons q r ih=>
     intro h
     obtain⟨a1,a2⟩:=ih λq' hq'=>h q' (z8y _ hq')
     obtain⟨b1,b2⟩:=h q z8M
     exact⟨.cons b1 a1,_,_,rfl,b2,a2⟩
   obtain⟨w1,w2⟩:=hvs qs mem
   have hol:out.toList=qs.map (·.2.1):=by rw[ho,zah];rfl
   have hql:qs.length=its.length:=by rw[hqp.length_eq];simp[hkl,hvl,hxl]
   have J7:Inv X pins σ (upd H' a (.lst (qs.map (·.2.2.1)))) s':=z06 (wy J1) J5 na.2.1 na.2.2.1 na.2.2.2.1 na.2.2.2.2.1 (show ObjOk X.prog X.w _ _ _ (.lst (qs.map (·.2.2.1))) from ⟨by rw[z8B,hql,z95];omega,qs.map (·.2.1),c,w1,by rw[←hol,Array.toArray_toList];exact ga⟩)
   refine⟨.ref a,_,J7,rfl,?_⟩
   have sm:=zh (o:=HO.lst (qs.map (·.2.2.1))) J5
   have e2:(qs.map λq=>(q.1,q.2.2.2)).map (·.2)=qs.map (·.2.2.2):=by rw[zah];rfl
   have e3:kz.zip xs=(kz.zip (its.zip (vs.zip xs))).map (λq=>(q.1,q.2.2.2)):=by
    refine zeA (by simp[hkl,hvl,hxl]) λi h1 h2=>by simp
   have kk:=hK (qs.map λq=>(q.1,q.2.2.2)) (by rw[e3];exact hqp.map _) (by
    rw[zej] at hpw ⊢
    exact hpw.imp λh=>by simpa using h)
   rw[e2] at kk
   refine k1 _ _ kk α _ (J2.trans (Stp.new sm)) (J3.new sm) _ ⟨_,_,rfl,zv J3 J5,zu J3 J5,.inl z8,w2.step (Stp.new sm)⟩
theorem bind1{fd:z9t}{y:Str}{pa:Pos}{u:Value}(hp:fd.params=⟨[],[⟨y,none,pa⟩],none,[],[],none,[]⟩)(hd:fd.defaults=.none):zct fd ⟨[u],[]⟩=pure [(y,u)]:=by
 have e:z9J y [(y,u)]=some u:=by simp[z9J]
 unfold zct
 rw[hp,hd]
 simp[e,zfK]
 rfl
theorem Uq(C:Ck D W Γ X k)(hc:Γ.calm=true){y:Str}{p0 pa pk pl pos:Pos}{a body:Expr}{sc:Scope}{j:Nat}{G:List Str}{f g:De}
  (hx:("sorted":Str)∈Γ.G) (hg0:Γ.gl "sorted"=.none) (hs0:noStar a=true) (ha:PE X a (rdE D W f)) {poss:List Pos} (hlm:Γ.lam=some (j,poss)) (hpp:pl∈poss) (hG:G.all (λy=>Γ.U.contains y&&z0y (Γ.gl y))=true) (hs:jN (kq Γ y G) [y] sc=true) (hE:∀Y W k,Ck D W (kq Γ y G) Y k->PE Y body (rdE D W g)) :
  PE X (.Call (.Name "sorted" p0) [a] [⟨some "key",.Lambda ⟨[],[⟨y,none,pa⟩],none,[],[],none,[]⟩ body sc pl,pk⟩] pos) (rdE D W (JF j g f)):=by
 obtain⟨hk,c,P,hcode,hC,hB,hD⟩:=C.lam j poss hlm
 have hm:=C.glo _ hx
 rw[hg0] at hm
 have hfr:∀x∈sc.names,x.2≠.free:=by
  have hs':=hs
  simp only[jN,z8j,z92,bne_iff_ne,ne_eq] at hs'
  exact hs'.1.1.1.1.2
 rintro pins s σ H Q I ⟨φ,α,τ,μ,sr,mr,p⟩
 refine z9a (vD I (C.glb _ hx) hm (show z9S "sorted"=some (.builtin "sorted") by decide +kernel) ?_ (by decide) (C.dbG _ hx))
 refine callWith_kw (thn (zC ha qk (z6 hs0) pos pins s σ H (λvs H1=>∃v t μ1 α1,vs=[v]/\Stp α H α1 H1/\MRel D φ α1 H1 μ1/\Den D φ α1 H1 t v/\Post D W φ α1 H1 σ (RV D φ Q) (Ys j g t μ1)) I ⟨φ,α,τ,μ,sr,mr,p.bind.mono λt μ' α' H' st m q v d=>⟨v,t,μ',α',rfl,st,m,d,q⟩⟩) ?_) (by rw[z6 hs0];rfl) (by rw[z6 hs0];rfl) rfl rfl
 rintro us s1 ⟨vs,H1,I1,rv,v,t,μ1,α1,rfl,st,m,d,K0,Z0,⟨⟨i,hi⟩,q⟩,k1,k2⟩
 obtain⟨u,rfl,r1⟩:=vals1 rv
 refine kws_cons (PySem.W.kla_eval rfl (UH (line:=pl.line) I1 m hi hD hpp hcode hC hB (closureFor_none hfr) λq0 c' ctv H2 s2 I2 st2 m2 hca hcc _=>kws_nil ?_))
 have k1':∀t μ',K0 t μ'->∀α' H',Stp α1 H2 α' H'->MRel D φ α' H' μ'->RV D φ Q t μ' α' H':=λt μ' z α' H' st3 m3=>k1 t μ' z α' H' (st2.trans st3) m3
 show z8t _ _ (call (.builtin "sorted") [u] [(z9T "key",.ref q0)]) _ _ _
 split at q
 ·obtain⟨ad,xs,rfl,n1,n2,hq,l⟩:=d.step st2
  cases r1
  exact W_ (j:=j) C hk hc hG hs hE (λs u=>.of_eq (bind1 rfl rfl)) I2 m2 hca hcc hq l ⟨K0,Z0,q,k1',λcc fs μ' z α' H' CC dd st3 m3=>k2 cc fs μ' z α' H' CC dd (st2.trans st3) m3⟩
 ·obtain⟨ts,hj,q⟩:=q
  obtain⟨ad,hi2,rfl⟩:=d
  cases r1
  obtain⟨xs,hq,l⟩:=m2.ob _ ad _ hi2 hj
  exact W_ (j:=j) C hk hc hG hs hE (λs u=>.of_eq (bind1 rfl rfl)) I2 m2 hca hcc (.inl hq) l ⟨K0,Z0,q,k1',λcc fs μ' z α' H' CC dd st3 m3=>k2 cc fs μ' z α' H' CC dd (st2.trans st3) m3⟩
 ·exact z8Q q
end
def z7q (r:Rec)(Γ:Cn)(x ky:Str)(a:Expr)(y:Str)(body:Expr)(sc:Scope)(pl:Pos):Option De:=
  gd (x == ("sorted":Str)&&ky == ("key":Str)&&(idx Γ.N x).isNone&&noStar a&&Γ.calm&&(Qj sc).all (λy=>Γ.U.contains y&&z0y (Γ.gl y))&&jN (kq Γ y (Qj sc)) [y] sc)
   ((r.e Γ a).bind λf=>(r.e (kq Γ y (Qj sc)) body).bind λg=>(match Γ.look x,Γ.lam with
    |.none,some (j,poss)=>gd (decide (pl∈poss)) (some (JF j g f))
    |_,_=>none))
noncomputable def z6G:Arg->Option Str
 |⟨y,none,_⟩=>some y
 |_=>none
def z5W:Arguments->Option Str
 |⟨[],[p],none,[],[],none,[]⟩=>z6G p
 |_=>none
noncomputable def z3v:zaU->Option (Str×Arguments×Expr×Scope×Pos)
 |⟨some ky,.Lambda ar body sc pl,_⟩=>some (ky,ar,body,sc,pl)
 |_=>none
def JK:ER:=λr Γ e=>match e with
 |.Call (.Name x _) [a] [k] _=>(z3v k).bind λq=>(z5W q.2.1).bind λy=>z7q r Γ x q.1 a y q.2.2.1 q.2.2.2.1 q.2.2.2.2
 |_=>none
theorem z1d{k:zaU}{q:Str×Arguments×Expr×Scope×Pos}(h:z3v k=some q):∃p,k=⟨some q.1,.Lambda q.2.1 q.2.2.1 q.2.2.2.1 q.2.2.2.2,p⟩:=by
 unfold z3v at h
 split at h
 ·cases h;exact⟨_,rfl⟩
 ·cases h
theorem z0Z{a:Arguments}{y:Str}(h:z5W a=some y):∃p,a=⟨[],[⟨y,none,p⟩],none,[],[],none,[]⟩:=by
 unfold z5W at h
 split at h
 ·unfold z6G at h
  split at h
  ·cases h;exact⟨_,rfl⟩
  ·cases h
 ·cases h
theorem Yc{D:DP}:EOk D JK:=by
 intro r H X W Γ k e d C h
 unfold JK at h
 split at h
 ·rename_i x p0 a k' pos
  obtain⟨⟨ky,ar,body,sc,pl⟩,hk,h⟩:=bnd h
  obtain⟨y,ha,h⟩:=bnd h
  obtain⟨pk,rfl⟩:=z1d hk
  obtain⟨pa,e⟩:=z0Z ha
  have e:ar=_:=e
  subst e
  unfold z7q at h
  have hh:=zx h
  clear h
  obtain⟨hb,h⟩:=hh
  simp only[z8j,beq_iff_eq] at hb
  obtain⟨⟨⟨⟨⟨⟨rfl,rfl⟩,h2⟩,h3⟩,h4⟩,h5⟩,h6⟩:=hb
  obtain⟨f,h7,h⟩:=bnd h
  obtain⟨g,h8,h⟩:=bnd h
  cases hl:Γ.look "sorted" with
  |none=>
   cases hm:Γ.lam with
   |none=>simp[hl,hm] at h
   |some jp=>
    obtain⟨j,pl'⟩:=jp
    simp only[hl,hm] at h
    obtain⟨h9,h10⟩:=zx h
    have h9:=of_decide_eq_true h9
    cases h10
    obtain⟨hx,hg⟩:=qW hl (by intro z;cases z)
    exact Uq C h4 hx hg h3 (H.e C h7) hm h9 h5 h6 λY W k C'=>H.e C' h8
  |_=>simp[hl] at h
 ·cases h
theorem XT{P:z91}{w:z9c}{K:z8o}{mg mb:Str->Option Value}{CX:CXT}{k:Nat}{fa a c P0:Addr}{fd:z9t}{x:Str}{sp:Sp}{s₁:z8k}{vs:List Value}{ns:List Int}
  (KX:K.In s₁.heap) (hns:s₁.heap.Ns z8D mg) (hb:s₁.heap.Ns zcJ mb) (hbb:∀x:Str,x≠"__name__"->mb x=z9S x) (hlim:s₁.heap.NoLimit) (hg:s₁.gens=#[])
  (hbm:∃bm ob,mg "__builtins__"=some (.ref bm)/\bm≠zcJ/\s₁.heap.get? bm=some ob/\ob.cls=.type "module"/\ob.dict=some zcJ/\ob.data=.plain)
  (hnl:JX K=true) (hPt:s₁.heap.get? P0=some (zc4 #[])) (hKP:K.lookup P0=none) (hPc:P0≠zfg) (hcd:zeB K c P0=true)
  (ha:s₁.heap.get? a=some {cls:=.type "list",data:=.seq vs.toArray}) (hi:z9m vs ns) (hl:ns.length<=sizeLine) (hr:Room k zeU)
  (F:∀base:Heap,K.In base->base.Ns z8D mg->base.BuiltinsAt mg P0->FnOk P w K mg base CX k fa fd [x] sp) (hbind:∀(s:z8k) (u:Value),zca s fd ⟨[u],[]⟩ [(x,u)])
  (hsp:∀H:Hp,Rd H a (.lst (ns.map V.int))->H P0=some (.tbl #[])->a≠P0->sp [.ref a] H (λv _=>v=.bl true) λ_ _ _=>False)
  (hCX:∀H e s',CX [] H s₁ (λ_ _ _=>False) e s'->False) :
  zaK (z8u P w) zeU (.call (.ref fa) ⟨[.ref a],[]⟩) (λr s'=>r=.ok (.ret (.bool true))/\OldK s₁.heap s'.heap/\s'.os=s₁.os/\zc8 s'.gens) s₁:=by
 have rv:=L2.vals_ints hi
 have lenV:=hi.length
 have naP:a≠P0:=λz=>by rw[z,hPt] at ha;cases ha
 have hKa:K.lookup a=none:=by
  cases q:K.lookup a with
  |none=>rfl
  |some o=>
   have e:=KX a o q
   rw[ha] at e;cases e
   exact absurd rfl (JZ hnl q)
 obtain⟨H,hH⟩:∃H:Hp,H=upd (upd (λ_=>none) P0 (.tbl #[])) a (.frz {cls:=.type "list",data:=.seq vs.toArray} (.lst (ns.map V.int))):=⟨_,rfl⟩
 have Ha:H a=some (.frz {cls:=.type "list",data:=.seq vs.toArray} (.lst (ns.map V.int))):=by rw[hH];exact z8
 have HP:H P0=some (.tbl #[]):=by rw[hH,z9 naP.symm];exact z8
 have Ho:∀b,b≠a->b≠P0->H b=none:=λb h1 h2=>by rw[hH,z9 h1,z9 h2]
 have hok:HOk P w H s₁.heap:=λb u e=>by
  by_cases h1:b=a
  ·subst h1
   rw[Ha] at e;cases e
   exact⟨ha,by rw[z8B];exact hl,vs,_,rv,ha⟩
  ·by_cases h2:b=P0
   ·subst h2
    rw[HP] at e;cases e
    exact hPt
   ·rw[Ho b h1 h2] at e;cases e
 have un:∀{b:Addr} {o:Obj},s₁.heap.get? b=some o->o.cls≠.none->o.cls≠.type "list"->H b=none:=λ{b o} e n1 n2=>Ho b (λz=>by rw[z,ha] at e;cases e;exact n2 rfl) λz=>by rw[z,hPt] at e;cases e;exact n1 rfl
 have noA:∀{b:Addr} {o:Obj} {es:Array DictEntry} {ep:Nat},s₁.heap.get? b=some o->o.data=.dict es ep->H b=none:=λ{b o es ep} e d=>Ho b (λz=>by rw[z,ha] at e;cases e;cases d) λz=>by rw[z,hPt] at e;cases e;cases d
 have qz:∀{b:Addr} {o:Obj},s₁.heap.get? b=some o->H b=none->(Zr s₁.heap H).get? b=some o:=λe n=>z09 e n
 have nsK:∀{b:Addr} {m:Str->Option Value},s₁.heap.Ns b m->(Zr s₁.heap H).Ns b m:=λ{b m} ⟨o,es,ep,e,d,r⟩=>⟨o,es,ep,qz e (noA e d),d,r⟩
 have hKf:∀b o,K.lookup b=some o->H b=none:=λb o e=>Ho b (λz=>by rw[z,hKa] at e;cases e) λz=>by rw[z,hKP] at e;cases e
 have hKb:K.In (Zr s₁.heap H):=λb o e=>qz (KX b o e) (hKf b o e)
 have hM:Mod K mg (Zr s₁.heap H):=⟨hKb,nsK hns,⟨mb,nsK hb,hbb⟩,let ⟨mc,h1,h2⟩:=hlim;⟨mc,nsK h1,h2⟩⟩
 have hB:(Zr s₁.heap H).BuiltinsAt mg P0:=by
  obtain⟨bm,ob,b1,b2,b3,b4,b5,b6⟩:=hbm
  refine⟨bm,ob,b1,b2,λz=>?_,λz=>?_,qz b3 (un b3 (by rw[b4];exact λz=>by cases z) (by rw[b4];exact λz=>absurd (zfh z) (by decide))),b4,b5,b6⟩
  ·obtain⟨o,es,ep,e,d,_⟩:=hns
   rw[z,e] at b3;cases b3;rw[d] at b6;cases b6
  ·rw[z,hPt] at b3;cases b3;cases b4
 have e0:Env0 P w K mg (Zr s₁.heap H) zeU [] s₁ H:=⟨rfl,hM,λb o e=>z2k e,zaT (Xl _ _),trivial,λb hb=>absurd (show b∈([]:List Addr) from hb) (by simp),hok,.of_eq hg⟩
 refine z9H ((F _ hKb (nsK hns) hB).run zeU [] s₁ H ⟨[.ref a],[]⟩ [.ref a] [.ref a] _ _ hr e0 (hbind s₁ (.ref a)) (.cons rfl .nil) (hsp H (.inr ⟨_,Ha⟩) HP naP)) λr s' h=>?_
 cases r with
 |error e=>exact (hCX H e s' h).elim
 |ok fl=>
  cases fl with
  |next=>exact z8Q h
  |brk=>exact z8Q h
  |cont=>exact z8Q h
  |ret u=>
   obtain⟨v,H',os,bare,un,hok',r',q⟩:=h
   have q':v=.bl true:=q
   subst q'
   obtain rfl:u=zau true:=r'
   have kp:∀b o,H b=none->s₁.heap.get? b=some o->s'.heap.get? b=some o:=λb o n e=>un.keep b o e n (by intro z;exact absurd (show b∈([]:List Addr) from z) (by simp)) (by simp)
   obtain⟨more,hm⟩:=un.tbls P0 _ HP
   have hP':s'.heap.get? P0=some (zc4 (#[]++more)):=hok' P0 _ hm
   have cd:=PySem.W.codeHd_of_K KX hcd
   have cd':zbZ s'.heap c P0:=by
    obtain⟨o,vs,file,tf,flags,tg,inF,text,tt,e1,e2,r⟩:=cd
    refine⟨o,vs,file,tf,flags,tg,inF,text,tt,kp c o ?_ e1,e2,r⟩
    exact Ho c (λz=>by rw[z,ha] at e1;cases e1;exact absurd (zfh e2) (by decide)) λz=>by rw[z,hPt] at e1;cases e1;cases e2
   refine⟨rfl,(OldK.refl s₁.heap).step_table (cd.tab hPt) (cd.tab hPt) (cd'.tab hP') (λb o hb e=>?_) hPc,os,bare⟩
   by_cases h1:b=a
   ·subst h1
    have z2:=un.frzs b _ _ Ha
    obtain⟨e2,_⟩:=hok' b _ z2
    rw[ha] at e;cases e
    exact e2
   ·exact kp b o (Ho b h1 hb) e
def Jw(K:z8o)(P0:Addr):Sp:=λvs H Q _=>∃(a:Addr) (ns:List Int),vs=[.ref a]/\Rd H a (.lst (ns.map V.int))/\H P0=some (.tbl #[])/\a≠P0/\ns.length<=63/\∀H',Q (.bl true) H'
def Jm(f:Fn):Prop:=∀ns:List Int,ns.length<=63->f [.lst (ns.map T.int)] [.tab 0] (λt _=>t=.bl true) (λ_ _ _=>False)
theorem z1Z{D:DP}{P:z91}{w:z9c}{K:z8o}{mg:Str->Option Value}{base:Heap}{k:Nat}{fa P0:Addr}{fd:z9t}{x:Str}{f:Fn}{poss:List Pos}{qn:Str}(ht:Jm f)(hD:D.tabs 0=some (P0,poss,qn))
  (F:FnOk P w K mg base (CX1 P w) k fa fd [x] (spN D 1 f)):FnOk P w K mg base (CX1 P w) k fa fd [x] (Jw K P0):=by
 refine F.imp ?_
 rintro vs H Q E ⟨a,ns,rfl,r,hP,hne,hn,q⟩
 refine⟨rfl,[],[P0],[.lst (ns.map T.int)],[.tab 0],⟨.ref a,[],rfl,⟨a,_,rfl,by simp,by simpa using hne,r,Ql ns⟩,rfl⟩,⟨rfl,by simp,by simp,by simp,λi a' o e1 e2=>?_⟩,_,_,ht ns hn,?_,?_⟩
 ·cases i with
  |succ i=>simp at e1
  |zero=>
   have e1:P0=a':=by simpa using e1
   have e2:MO.tab 0=o:=by simpa using e2
   subst e1;subst e2
   exact⟨poss,qn,#[],hD,hP,trivial,λ_ _=>.inl rfl⟩
 ·rintro t μ rfl α' H' st m v d
  have d:v=.bl true:=d
  rw[d]
  exact q H'
 ·exact λ_ _ _ z=>z.elim
abbrev inT(x y:T)(μ:Mem):RE T:=match y with
 |.mut i=>(match x with
  |.int z=>λK _=>∃kvs,μ[i]?=some (MO.dic kvs)/\K (.bl (zi (.inl z) kvs).isSome) μ
  |.str z=>λK _=>∃kvs,μ[i]?=some (MO.dic kvs)/\K (.bl (zi (.inr z) kvs).isSome) μ
  |_=>.st)
 |_=>Zq .In x y μ
abbrev U0(f g:De):De:=λτ μ=>(f τ μ).bind λx μ1=>(g τ μ1).bind λy μ2=>inT x y μ2
abbrev ya(o b f:De):Ds:=λτ μ=>(f τ μ).out τ λt μ1=>(o τ μ1).out τ λot μ2=>(b τ μ2).out τ λit μ3=>match ot,it with
 |.mut i,.int k=>λE=>(∃ts,μ3[i]?=some (.lst ts)/\(0<=k/\k<ts.length/\k<9223372036854775808)/\E.nx τ (μ3.set i (.lst (ts.set k.toNat t))))\/(∃kvs,μ3[i]?=some (.dic kvs)/\kvs.length<room/\E.nx τ (μ3.set i (.dic (vR (.inl k) t kvs))))
 |.mut i,.str z=>λE=>∃kvs,μ3[i]?=some (.dic kvs)/\kvs.length<room/\E.nx τ (μ3.set i (.dic (vR (.inr z) t kvs)))
 |_,_=>.st
section
variable {X:Cx}{D:DP}{W:XW}{Γ:Cn}{k:Nat}{pins:List (Addr×Obj)}{s:Shared}{σ:St}{H:Hp}{φ α:List Addr}{τ:Sl}{μ:Mem}{f g:De}{a b:Expr}{pos:Pos}
theorem ue{z:Key}:∀{kvs:List (Key×T)} {gs:List (Key×V)},DenK D φ α H kvs gs->(ji gs z).isSome=(zi z kvs).isSome
 |[],_,h=>by cases h;rfl
 |p::r,_,h=>by
  obtain⟨v,q,rfl,d,l⟩:=h
  unfold zi
  by_cases e:p.1=z
  ·rw[if_pos e,vt (p:=(p.1,v)) e];rfl
  ·rw[if_neg e,vp (p:=(p.1,v)) e];exact ue l
theorem z2N{x y:T}{v w:V}{u1 u2:Value}{Q:VK}(I:Inv X pins σ H s)(hu:X.A.units+64<cLine)(mr:MRel D φ α H μ)(d1:Den D φ α H x v)(d2:Den D φ α H y w)(r1:RelV v u1)(r2:RelV w u2)
  (p:Post D W φ α H σ (RV D φ Q) (inT x y μ)):z8t (z8u X.prog X.w) X.A (z94 .In u1 u2) (EP X pins σ Q) X.xe s:=by
 have go:∀{i:Nat} {z:Key} {kvs:List (Key×T)},y=.mut i->v=kV z->μ[i]?=some (MO.dic kvs)->Post D W φ α H σ (RV D φ Q) (.ok (.bl (zi z kvs).isSome) μ)->z8t (z8u X.prog X.w) X.A (z94 .In u1 u2) (EP X pins σ Q) X.xe s:=λ{i z kvs} ey ev hi p'=>by
  subst ey;subst ev
  obtain⟨ad,ha,rfl⟩:=d2
  cases r2
  obtain⟨gs,hH,l⟩:=mr.ob i ad _ ha hi
  refine z7P (by omega) I (DGet.k (k:=z) hH) r1 λs' I'=>⟨.bl (ji gs z).isSome,H,I',rfl,?_⟩
  rw[ue l]
  exact p'.here mr rfl
 unfold inT at p
 split at p
 ·split at p
  ·obtain⟨kvs,hi,p⟩:=p.ex1
   have d1:v=_:=d1
   exact go (z:=.inl _) rfl d1 hi p
  ·obtain⟨kvs,hi,p⟩:=p.ex1
   have d1:v=_:=d1
   exact go (z:=.inr _) rfl d1 hi p
  ·exact p.elim
 ·exact W5 I hu mr d1 d2 r1 r2 p
theorem z4B(C:Ck D W Γ X k)(ho:vc .In b=true)(ha:PE X a (rdE D W f))(hb:PE X b (rdE D W g)):PE X (.Compare a [.In] [b] pos) (rdE D W (U0 f g)):=by
 rintro pins s σ H Q I ⟨φ,α,τ,μ,sr,mr,p⟩
 refine zd8 (thn (sub ha I sr mr p) ?_) (je ho)
 rintro u s1 ⟨v,H1,t,μ1,α1,I1,r1,st1,sr1,mr1,d1,p1⟩
 refine thn (sub hb I1 sr1 mr1 p1) ?_
 rintro u' s2 ⟨v',H2,t',μ2,α2,I2,r2,st2,sr2,mr2,d2,p2⟩
 exact z2N I2 C.unt mr2 (d1.step st2) d2 r1 r2 p2
theorem PostS.or{E:Ends}{r r':En->Prop}(p:PostS D W φ α H E λE=>r E\/r' E):PostS D W φ α H E r\/PostS D W φ α H E r':=by
 obtain⟨E0,q,hE⟩:=p
 rcases q with q|q
 ·exact .inl ⟨E0,q,hE⟩
 ·exact .inr ⟨E0,q,hE⟩
theorem Ua(hu:X.A.units+1<cLine):z5z X (λo i v H Q=>(∃l k xs,o=.ref l/\i=.int k/\H l=some (.lst xs)/\0<=k/\k<xs.length/\k<9223372036854775808/\Q (upd H l (.lst (xs.set k.toNat v))))\/(∃l gs z,o=.ref l/\i=kV z/\H l=some (.dK gs)/\gs.length<sizeLine/\Q (upd H l (.dK (putK gs z v))))):=by
 intro pins s σ H o i v ov iv u Q I ro ri rv h
 rcases h with h|⟨l,gs,z,rfl,rfl,hH,hl,q⟩
 ·exact set_list pins s σ H o i v ov iv u Q I ro ri rv h
 ·cases ro
  exact Xj hu I (DPut.k (k:=z) hH hl) ri rv λs4 I4=>⟨_,I4,q⟩
theorem z1P(C:Sk D W Γ X k){o:Expr}{p1:Pos}{fo fb:De}(hb':qJ b=true)(ha:PE X a (rdE D W f))(ho:PE X o (rdE D W fo))(hb:PE X b (rdE D W fb)) :
  PS X (.Assign [.Subscript o b p1] a pos) (rdS D W (ya fo fb f)):=by
 rintro pins s σ H E I ⟨φ,α,τ,μ,sr,mr,p⟩
 have h1:zch [.Subscript o b p1] a pos.line X.env=pure false:=by cases a<;>rfl
 have h2:zci [.Subscript o b p1] a X.env=pure none:=by cases a<;>rfl
 refine Jb ha (z0d ho hb (Ua (by have:=C.toCk.unt;omega)) (λv=>by cases b<;>first|(simp[qJ] at hb';done)|rfl)) h1 h2 rfl pins s σ H E I ⟨φ,α,τ,μ,sr,mr,(PostS.out sr p).mono λt μ1 α1 H1 st1 m1 q v d=>?_⟩
 have sr1:=sr.step st1
 refine⟨φ,α1,τ,μ1,sr1,m1,(PostS.out sr1 q).mono λot μ2 α2 H2 st2 m2 q2 ov dv=>?_⟩
 have sr2:=sr1.step st2
 refine⟨φ,α2,τ,μ2,sr2,m2,(PostS.out sr2 q2).mono λit μ3 α3 H3 st3 m3 q3 iv di=>?_⟩
 have d3:=(d.step st2).step st3
 have dv:=dv.step st3
 cases ot with
 | «mut» i=>
  obtain⟨x,hx,rfl⟩:=dv
  cases it with
  |int kk=>
   have di:iv=.int kk:=di
   subst di
   rcases PostS.or q3 with q3|q3
   ·obtain⟨ts,hμ,hk,q3⟩:=PostS.ex1 q3
    obtain⟨xs,hH,l⟩:=m3.ob i x _ hx hμ
    have st4:Stp α3 H3 α3 (upd H3 x (.lst (xs.set kk.toNat v))):=Stp.turn (z8F hx) ⟨_,hH⟩
    have hi:i<μ3.length:=(z8h.mp hμ).1
    exact .inl ⟨x,kk,xs,rfl,rfl,hH,hk.1,by rw[←l.length];exact hk.2.1,hk.2.2,PostS.nx q3 st4 (m3.turn hx hi st4 ⟨_,z8,DenL.set (l.step st4) (d3.step st4)⟩) ((sr2.step st3).step st4)⟩
   ·obtain⟨kvs,hμ,hk,q3⟩:=PostS.ex1 q3
    obtain⟨gs,hH,l⟩:=m3.ob i x _ hx hμ
    have st4:Stp α3 H3 α3 (upd H3 x (.dK (putK gs (.inl kk) v))):=Stp.turn (z8F hx) ⟨_,hH⟩
    have hi:i<μ3.length:=(z8h.mp hμ).1
    exact .inr ⟨x,gs,(.inl kk),rfl,rfl,hH,by rw[yX l];exact z8w hk (zB (z8n _)),PostS.nx q3 st4 (m3.turn hx hi st4 ⟨_,z8,V6 (d3.step st4) (l.step st4)⟩) ((sr2.step st3).step st4)⟩
  |str z=>
   have di:iv=.str z:=di
   obtain⟨kvs,hμ,hk,q3⟩:=PostS.ex1 q3
   obtain⟨gs,hH,l⟩:=m3.ob i x _ hx hμ
   have st4:Stp α3 H3 α3 (upd H3 x (.dK (putK gs (.inr z) v))):=Stp.turn (z8F hx) ⟨_,hH⟩
   have hi:i<μ3.length:=(z8h.mp hμ).1
   exact .inr ⟨x,gs,(.inr z),rfl,di,hH,by rw[yX l];exact z8w hk (zB (z8n _)),PostS.nx q3 st4 (m3.turn hx hi st4 ⟨_,z8,V6 (d3.step st4) (l.step st4)⟩) ((sr2.step st3).step st4)⟩
  |_=>exact PostS.elim q3
 |_=>exact PostS.elim q3
theorem z4I{β:Type}{R:β->Mem->List Addr->Hp->Prop}{kk:T->Mem->RE β}{x y:T}{v w:V}{u1 u2:Value}(I:Inv X pins σ H s)(hu:X.A.units+64<cLine)(mr:MRel D φ α H μ)(d1:Den D φ α H x v)(d2:Den D φ α H y w)(r1:RelV v u1)(r2:RelV w u2)
  (p:Post D W φ α H σ R ((inT x y μ).bind kk)):z8t (z8u X.prog X.w) X.A (z94 .In u1 u2) (EP X pins σ λz H1=>∃t μ1 α1,Stp α H α1 H1/\MRel D φ α1 H1 μ1/\Den D φ α1 H1 t z/\Post D W φ α1 H1 σ R (kk t μ1)) X.xe s:=
 z2N I hu mr d1 d2 r1 r2 (p.bind.mono λt μ' α' H' st m q v d=>⟨t,μ',α',st,m,d,q⟩)
theorem X3(C:Ck D W Γ X k)(ho:vc .In b=true)(ha:PE X a (rdE D W f))(hb:PE X b (rdE D W g)):PT X (.Compare a [.In] [b] pos) (rdT D W (tE (U0 f g))):=by
 rintro pins s σ H Q I ⟨φ,α,τ,μ,sr,mr,p⟩
 have p:Post D W φ α H σ (λb _ _ H'=>Q b H') ((f τ μ).bind λx μ1=>(g τ μ1).bind λy μ2=>(inT x y μ2).bind k8):=p
 refine zbn (thn (sub ha I sr mr p) ?_) (je ho)
 rintro u s1 ⟨v,H1,t,μ1,α1,I1,r1,st1,sr1,mr1,d1,p1⟩
 refine thn (sub hb I1 sr1 mr1 p1) ?_
 rintro u' s2 ⟨v',H2,t',μ2,α2,I2,r2,st2,sr2,mr2,d2,p2⟩
 refine thn (z4I I2 C.unt mr2 (d1.step st2) d2 r1 r2 p2) ?_
 rintro d s3 ⟨z,H3,I3,r3,t3,μ3,α3,st3,mr3,d3,p3⟩
 unfold k8 at p3
 split at p3
 ·cases d3
  cases r3
  exact z8X ⟨H3,I3,p3.ok (Stp.refl _ _) mr3⟩
 ·exact p3.elim
end
def UC(Γ:Cn)(b:Expr):Bool:=match b with
 |.Name x _=>(idx Γ.N x).isSome
 |_=>false
def z3Y:ER:=λr Γ e=>match e with
 |.Compare a [.In] [b] _=>gd (UC Γ b&&vc .In b) ((r.e Γ a).bind λf=>(r.e Γ b).bind λg=>some (U0 f g))
 |_=>none
theorem z1G{D:DP}:EOk D z3Y:=by
 intro r H X W Γ k e d C h
 unfold z3Y at h
 split at h
 ·obtain⟨hb,h1⟩:=zx h
  obtain⟨f,e1,h1⟩:=bnd h1
  obtain⟨g,e2,h1⟩:=bnd h1
  cases h1
  simp only[z8j] at hb
  exact z4B C hb.2 (H.e C e1) (H.e C e2)
 ·cases h
def Yn:TR:=λr Γ e=>match e with
 |.Compare a [.In] [b] _=>gd (UC Γ b&&vc .In b) ((r.e Γ a).bind λf=>(r.e Γ b).bind λg=>some (tE (U0 f g)))
 |_=>none
theorem U9{D:DP}:TOk D Yn:=by
 intro r H X W Γ k e d C h
 unfold Yn at h
 split at h
 ·obtain⟨hb,h1⟩:=zx h
  obtain⟨f,e1,h1⟩:=bnd h1
  obtain⟨g,e2,h1⟩:=bnd h1
  cases h1
  simp only[z8j] at hb
  exact X3 C hb.2 (H.e C e1) (H.e C e2)
 ·cases h
def Jx:SR:=λr Γ s=>match s with
 |.Assign [.Subscript o b _] e _=>gd (qJ b) ((r.e Γ o).bind λfo=>(r.e Γ b).bind λfb=>(r.e Γ e).bind λf=>some (ya fo fb f))
 |_=>none
theorem Y2{D:DP}:SOk D Jx:=by
 intro r H X W Γ k e d C h
 unfold Jx at h
 split at h
 ·obtain⟨hb,h1⟩:=zx h
  obtain⟨fo,e1,h1⟩:=bnd h1
  obtain⟨fb,e2,h1⟩:=bnd h1
  obtain⟨f,e3,h1⟩:=bnd h1
  cases h1
  exact z1P C hb (H.e C.toCk e3) (H.e C.toCk e1) (H.e C.toCk e2)
 ·cases h
end NH
namespace NH.P
open PySem L2 NH
@[reducible] def k6:List Ds:=[(sIf (qM (tE (z7 qh [(eV 0),(eV 1)]))) [(zQ 13 [(eC (.str "no moment, house or count of the shape"))])] [])]
def qQ:Fn:=fnW 2 0 k6
@[reducible] def ZL:List Ds:=[(qb (z7 qQ [(eV 1),(zf (eV 0) 0)])),(qb (z7 qQ [(eV 2),(zf (eV 0) 1)])),(qb (z7 qQ [(eV 3),(zf (eV 0) 2)])),(zt (zb .Add (zb .Mult (zb .Add (zb .Mult (eV 1) (zf (eV 0) 1)) (eV 2)) (zf (eV 0) 2)) (eV 3)))]
def ki:Fn:=fnW 4 0 ZL
@[reducible] def uf:List Ds:=[(sIf (tOr (qM (tE (vL [4] (eV 1)))) (tE (zr .NotEq (eB1 yi (eV 1)) (eC (.int 3))))) [(zt (eC (.bl false)))] []),(sIf (qM (wc (tE (z7 qh [(eIx (eV 1) (eC (.int 0))),(zf (eV 0) 1)])) (wc (tE (z7 zY [(eIx (eV 1) (eC (.int 1)))])) (tE (z7 zY [(eIx (eV 1) (eC (.int 2)))]))))) [(zt (eC (.bl false)))] []),(zt (eCh (eC (.int 0)) [(.LtE,(eIx (eV 1) (eC (.int 1)))),(.Lt,(eIx (eV 1) (eC (.int 2)))),(.LtE,(zf (eV 0) 0))]))]
def v_:Fn:=fnW 2 0 uf
@[reducible] def js:List Ds:=[(sIf (qM (tE (z7 v_ [(eV 0),(eV 1)]))) [(zQ 18 [(eC (.str "no lease of the shape"))])] [])]
def q_:Fn:=fnW 2 0 js
@[reducible] def kI:List Ds:=[(qw (eV 0) 5 (eV 1)),(qw (eV 0) 6 (eV 2)),(qw (eV 0) 7 (eIx (eV 2) (eC (.int 2)))),(qw (eV 0) 8 (eC (.bl false)))]
def jG:Fn:=fnW 3 0 kI
@[reducible] def Ks:List Ds:=[(zt (zr .Lt (eB2 y0 (eIx (zf (eV 0) 6) (eC (.int 1))) (eV 1)) (eB2 Wy (zf (eV 0) 7) (eV 2))))]
def meets:Fn:=fnW 3 0 Ks
@[reducible] def jx:List Ds:=[(zj 3 (eV 1)),(QR (.one 4) (iE (JF 0 (eIx (zf (eV 0) 6) (eC (.int 1))) (eV 0))) [(sIf (tE (z7 meets [(eV 4),(eV 3),(zb .Add (eV 3) (eV 2))])) [(zj 3 (zf (eV 4) 7))] [])]),(zt (eV 3))]
def qZ:Fn:=fnW 3 2 jx
@[reducible] def jt:List Ds:=[(zj 3 Qi),(QR (.one 4) (iE (eV 0)) [(sIf (tE (z7 meets [(eV 4),(eV 1),(zb .Add (eV 1) (eV 2))])) [(ya (eV 3) (eIx (zf (eV 4) 6) (eC (.int 0))) (eC (.bl true)))] [])]),(zj 5 (eC (.int 0))),(Wb (tE (U0 (eV 5) (eV 3))) [(zj 5 (zb .Add (eV 5) (eC (.int 1))))]),(zt (eV 5))]
def wK:Fn:=fnW 3 3 jt
@[reducible] def jz:List Ds:=[(qw (eV 0) 9 (eV 1)),(qw (eV 0) 10 (Y3 []))]
def ql:Fn:=fnW 2 0 jz
@[reducible] def qB:List Ds:=[(sIf (qM (tE (z7 qt [(eV 1)]))) [(zQ 17 [(eC (.str "a holder is a text of one to eight small letters"))])] []),(sIf (wc (tE (zr .IsNot (eV 2) (eC .non))) (qM (tE (z7 qh [(eV 2),(zf (zf (eV 0) 9) 1)])))) [(zQ 13 [(eC (.str "no house of the shape"))])] []),(sIf (qM (tE (z7 qH [(eV 4)]))) [(zQ 16 [(eC (.str "a span is a whole number from 1 on"))])] []),(sIf (qM (tE (z7 zY [(eV 3)]))) [(zQ 16 [(eC (.str "a moment is a whole number"))])] [])]
def zG:Fn:=fnW 5 0 qB
@[reducible] def wu:List Ds:=[(zt (qY 1 [1] (.one 0) (iE (zf (eV 0) 10)) [(tE (zr .Eq (eIx (zf (eV 0) 6) (eC (.int 0))) (eV 1)))] (eV 0)))]
def qp:Fn:=fnW 2 0 wu
@[reducible] def w8:List Ds:=[(sIf (tE (zr .Is (eV 1) (eC .non))) [(zt (zy [(z7 wK [(zf (eV 0) 10),(eV 2),(eV 3)]),(eV 2),(zb .Add (eV 2) (eV 3))]))] []),(zj 4 (z7 qZ [(qd 43 qp (eV 0) [(eV 1)]),(eV 2),(eV 3)])),(zt (zy [(eV 1),(eV 4),(zb .Add (eV 4) (eV 3))]))]
def qj:Fn:=fnW 4 1 w8
@[reducible] def xa:List Ds:=[(qb (qd 43 zG (eV 0) [(eV 1),(eV 2),(eV 3),(eV 4)])),(zj 5 (qd 43 qj (eV 0) [(eV 2),(eB2 y0 (eV 3) (eC (.int 0))),(eV 4)])),(sIf (tOr (tE (zr .GtE (eIx (eV 5) (eC (.int 0))) (zf (zf (eV 0) 9) 1))) (tE (zr .Gt (eIx (eV 5) (eC (.int 2))) (zf (zf (eV 0) 9) 0)))) [(zQ 19 [(eC (.str "no such stretch is free"))])] []),(qb (Xy (zf (eV 0) 10) (VP 42 jG [(eV 1),(eV 5)]))),(zt (eV 5))]
def zw:Fn:=fnW 5 1 xa
@[reducible] def vT:List Ds:=[(qb (z7 q_ [(zf (eV 0) 9),(eV 1)])),(QR (.one 2) (iE (zf (eV 0) 10)) [(sIf (wc (tE (zr .Eq (zf (eV 2) 6) (eV 1))) (qM (tE (zf (eV 2) 8)))) [(zt (eV 2))] [])]),(zQ 18 [(eC (.str "no lease that was let and isn't cut"))])]
def kM:Fn:=fnW 2 1 vT
@[reducible] def k_:List Ds:=[(zj 3 (qd 43 kM (eV 0) [(eV 1)])),(sIf (tE (zr .Is (eV 2) (eC .non))) [(zj 4 (eIx (eV 1) (eC (.int 1))))] [(sIf (wc (tE (z7 zY [(eV 2)])) (tE (eCh (eIx (eV 1) (eC (.int 1))) [(.LtE,(eV 2)),(.Lt,(eIx (eV 1) (eC (.int 2))))]))) [(zj 4 (zb .Add (eV 2) (eC (.int 1))))] [(zQ 16 [(eC (.str "no moment of the lease"))])])]),(qw (eV 3) 7 (eV 4)),(qw (eV 3) 8 (eC (.bl true)))]
def JG:Fn:=fnW 3 2 k_
end NH.P
namespace NH
open PySem PySem.Spec PyProof.Rows L2
theorem walkT2{l:zeT}{q:z91}{loose:List Str}{XP:(Str->Option Value)->Heap->Prop}{YP:z9c->Heap->Prop}{d:DefRec}{K:Params->z8o}{x:Str}{k:Nat}{P0:Addr}(hk:k<=90)(hn:l.most=some 63)(hdf:d.params.defaults=[])
  (hY:∀(w:z9c) (h:Heap),YP w h->(K w.params).In h) (hT:∀(w:z9c) (h:Heap),YP w h->h.get? P0=some (zc4 #[]))
  (F:∀(w:z9c) (mg:Str->Option Value) (fa:Addr) (h:Heap),(K w.params).In h->h.Ns z8D mg->mg d.name=some (.ref fa)->
   (JX (K w.params)=true/\(K w.params).lookup P0=none/\P0≠zfg/\∃c,zeB (K w.params) c P0=true)/\∃fd:z9t,(∀(s:z8k) (u:Value),zca s fd ⟨[u],[]⟩ [(x,u)])/\∀base:Heap,(K w.params).In base->base.Ns z8D mg->base.BuiltinsAt mg P0->FnOk l.prog w (K w.params) mg base (CX1 l.prog w) k fa fd [x] (Jw (K w.params) P0)) :
  PySem.W.WalkO q loose XP YP l.row.toRowW d [] (λf vs=>zg7 f vs):=by
 refine Att.attach_call hn hdf λw s₀ s₁ mg mb fa o pm cd doc a vs ns G Y ho hd hcd hmg hobj hints hlen hg=>?_
 have KX:=hY w _ Y
 obtain⟨⟨f1,f2,f3,c,f4⟩,fd,hb,hF⟩:=F w mg fa _ KX G.T.g hmg
 exact XT KX G.T.g G.T.b G.T.builtins G.T.nolimit hg G.T.bmain f1 (hT w _ Y) f2 f3 f4 hobj hints (z8G hlen (by decide)) (Room.mono (k:=90) ⟨rfl,by decide,by decide⟩ hk) hF hb (λH hr hP hne=>⟨a,ns,rfl,hr,hP,hne,hlen,λ_=>rfl⟩) λH e s' z=>by
  obtain⟨_,_,_,_,_,_,_,_,_,_,_,_,_,_,_,z⟩:=z
  exact z
abbrev YI(o f:De):De:=λτ μ=>(o τ μ).bind λot μ1=>match ot with
 |.lst ts=>(f τ μ1).bind λt μ2=>match t with
  |.bl true=>λK _=>∃bs,bools ts=some bs/\K (.int (bs.countP id)) μ2
  |_=>.st
 |_=>.st
abbrev z04(o f:De):De:=λτ μ=>(o τ μ).bind λot μ1=>match ot with
 |.lst ts=>(f τ μ1).bind λt μ2=>match t with
  |.bl true=>λK _=>∃p:List Bool×Nat,bools ts=some p.1/\(p.2<1000/\p.1[p.2]?=some true/\∀m,m<p.2->p.1[m]?=some false)/\K (.int p.2) μ2
  |_=>.st
 |_=>.st
noncomputable def isT(v:Value):Bool:=match v with|.bool b=>b|_=>false
section
variable {X:Cx}{D:DP}{W:XW}{Γ:Cn}{k:Nat}{pins:List (Addr×Obj)}{s:Shared}{σ:St}{H:Hp}{φ α:List Addr}{τ:Sl}{μ:Mem}{f g:De}{a b:Expr}{pos:Pos}
theorem xP:∀{ts:List T} {bs:List Bool} {vs:List V},bools ts=some bs->DenL D φ α H ts vs->vs=bs.map V.bl
 |[],bs,vs,h,l=>by simp[bools] at h;subst h;exact l
 |.bl b::ts,bs,vs,h,l=>by
  obtain⟨v,q,rfl,d,l⟩:=l
  simp only[bools,z9y] at h
  obtain⟨cs,h,rfl⟩:=h
  have d:v=V.bl b:=d
  subst d
  rw[xP h l];rfl
theorem jT:∀{bs:List Bool} {us:List Value},Vals (bs.map V.bl) us->us=bs.map zau
 |[],_,.nil=>rfl
 |b::bs,_,.cons r q=>by cases r;rw[jT q];rfl
theorem X8:MtR X "list.count" (λx vs H Q=>∃(l:Addr) (ws:List V) (bs:List Bool),x=.ref l/\vs=[.bl true]/\Rd H l (.lst ws)/\ws=bs.map V.bl/\Q (.int (bs.countP id)) H):=by
 intro pins s σ H x vs v us Q I rx rv h
 obtain⟨l,ws,bs,rfl,rfl,hH,rfl,q⟩:=h
 cases rx
 obtain⟨u1,rfl,r1⟩:=vals1 rv
 cases r1
 obtain⟨its,r,pl,_⟩:=I.list (.inl hH)
 obtain⟨⟨cls,dd,data,sl⟩,ho,hc,n,hd⟩:=pl.isList
 simp only at hc hd
 subst hc hd
 have eu:=jT r
 subst eu
 refine zbW F.slot_list_count ⟨_,ho,rfl⟩ F.entry_list_count (F.args_list_count_2 _ _) (SeqAt.list_countAt l _ n dd sl (.bool true) isT) ⟨ho,λy hy=>?_,?_⟩
 ·have:y∈bs.map zau:=by simpa using hy
  obtain⟨b,_,rfl⟩:=z9b.mp this
  have:=zbw (A:=X.A.in1) (s:=s) b true
  cases b<;>exact this
 ·have e:((bs.map zau).toArray.toList.countP isT:Nat)=bs.countP id:=by
   rw[zdn,List.countP_map];rfl
  rw[e]
  exact⟨.int _,H,I.tok _,⟨_,rfl⟩,q⟩
theorem Xx:MtR X "list.index" (λx vs H Q=>∃(l:Addr) (ws:List V) (bs:List Bool) (j:Nat),x=.ref l/\vs=[.bl true]/\Rd H l (.lst ws)/\ws=bs.map V.bl/\j<1000/\bs[j]?=some true/\(∀m,m<j->bs[m]?=some false)/\Q (.int j) H):=by
 intro pins s σ H x vs v us Q I rx rv h
 obtain⟨l,ws,bs,j,rfl,rfl,hH,rfl,hj,h1,h2,q⟩:=h
 cases rx
 obtain⟨u1,rfl,r1⟩:=vals1 rv
 cases r1
 obtain⟨its,r,pl,_⟩:=I.list (.inl hH)
 obtain⟨⟨cls,dd,data,sl⟩,ho,hc,n,hd⟩:=pl.isList
 simp only at hc hd
 subst hc hd
 have eu:=jT r
 subst eu
 obtain⟨g1,g2⟩:=z8h.mp h1
 refine zbW F.slot_list_index ⟨_,ho,rfl⟩ F.entry_list_index (F.args_list_index_2 _ _) (SeqAt.list_indexAt l _ n dd sl (.bool true) isT j (by simpa using g1) (by omega) (by simp[isT,g2]) λm hm hmj=>?_) ⟨ho,λy hy=>?_,?_⟩
 ·have:=h2 m hmj
  obtain⟨k1,k2⟩:=z8h.mp this
  simp[isT,k2]
 ·have:y∈bs.map zau:=by simpa using hy
  obtain⟨b,_,rfl⟩:=z9b.mp this
  have:=zbw (A:=X.A.in1) (s:=s) b true
  cases b<;>exact this
 ·exact⟨.int _,H,I.tok _,⟨_,rfl⟩,q⟩
theorem z1D{o:Expr}{pa pc:Pos}{go:De}(hp:qe o=true)(hs:noStar a=true)(hline:(pa.endLine == pc.line)=true)(ho:PE X o (rdE D W go))(ha:PE X a (rdE D W f)) :
  PE X (.Call (.Attribute o "count" pa) [a] [] pc) (rdE D W (YI go f)):=by
 have hb2:z96 [a] X.env=[(false,eval a X.env)]:=z6 hs
 refine PE.mono (Km zar PySem.F.slot_list_count PySem.F.type_list_count X8 ho (zC ha qk (z6 hs)) (qz hp) (by rw[hb2];rfl) hline (z6 hs) (zX (by rfl))) ?_
 rintro σ H Q ⟨φ,α,τ,μ,sr,mr,p⟩
 refine⟨φ,α,τ,μ,sr,mr,p.bind.mono λot μ1 α1 H1 st1 m1 q ov dv=>?_⟩
 cases ot with
 |lst ts=>
  obtain⟨ad,vs,rfl,n1,n2,rd,l⟩:=id dv
  refine⟨.inl ⟨rfl,_,.inl rd⟩,φ,α1,τ,μ1,sr.step st1,m1,q.bind.mono λt μ2 α2 H2 st2 m2 q2 v d=>?_⟩
  obtain⟨ad',vs',e,_,_,rd2,l2⟩:=dv.step st2
  cases e
  split at q2
  ·obtain⟨bs,hb,q2⟩:=q2.ex1
   have d:v=.bl true:=d
   subst d
   exact⟨ad,vs',bs,rfl,rfl,rd2,xP hb l2,q2.here m2 rfl⟩
  ·exact Post.elim q2
 |_=>exact Post.elim q
theorem z1p{o:Expr}{pa pc:Pos}{go:De}(hp:qe o=true)(hs:noStar a=true)(hline:(pa.endLine == pc.line)=true)(ho:PE X o (rdE D W go))(ha:PE X a (rdE D W f)) :
  PE X (.Call (.Attribute o "index" pa) [a] [] pc) (rdE D W (z04 go f)):=by
 have hb2:z96 [a] X.env=[(false,eval a X.env)]:=z6 hs
 refine PE.mono (Km zar PySem.F.slot_list_index PySem.F.type_list_index Xx ho (zC ha qk (z6 hs)) (qz hp) (by rw[hb2];rfl) hline (z6 hs) (zX (by rfl))) ?_
 rintro σ H Q ⟨φ,α,τ,μ,sr,mr,p⟩
 refine⟨φ,α,τ,μ,sr,mr,p.bind.mono λot μ1 α1 H1 st1 m1 q ov dv=>?_⟩
 cases ot with
 |lst ts=>
  obtain⟨ad,vs,rfl,n1,n2,rd,l⟩:=id dv
  refine⟨.inl ⟨rfl,_,.inl rd⟩,φ,α1,τ,μ1,sr.step st1,m1,q.bind.mono λt μ2 α2 H2 st2 m2 q2 v d=>?_⟩
  obtain⟨ad',vs',e,_,_,rd2,l2⟩:=dv.step st2
  cases e
  split at q2
  ·obtain⟨K0,Z0,⟨pr,hb,hh,q2⟩,k1,k2⟩:=q2
   have d:v=.bl true:=d
   subst d
   exact⟨ad,vs',pr.1,pr.2,rfl,rfl,rd2,xP hb l2,hh.1,hh.2.1,hh.2.2,k1 _ _ q2 α2 H2 (Stp.refl _ _) m2 _ rfl⟩
  ·exact Post.elim q2
 |_=>exact Post.elim q
end
def z30:ER:=rM1 "count" YI
theorem z0c{D:DP}:EOk D z30:=Wj λC hp hs hl ho ha=>z1D hp hs hl ho ha
def z36:ER:=rM1 "index" z04
theorem UA{D:DP}:EOk D z36:=Wj λC hp hs hl ho ha=>z1p hp hs hl ho ha
section
variable {prog:Program}{w:World}{A:Around}{E:Value->Shared->Prop}{h:Heap}{g:Array GenState}{d:Drawn}{t:Nat}{os:OsState}
variable {nm q:Str}{C N:Addr}{bs bm bmB:List Value}{hdct:Bool}{sn:List Str}{sub:List Value}{ab:Bool}{col:Option Bool}{dd:Option Addr}{k0 k1 k2 k3 k5:Option Value}{B newId initId:String}
theorem Yb(F:zek B newId initId bmB)(T0:zdh h bmB bm){mN:Str->Option Value}{us:List Value}{fI:Addr}{oI:Obj}{Q:Fin->z8k->Prop}
  (gC:h.get? C=some (zag nm q C N bs bm hdct sn sub ab col dd k0 k1 k2 k3 k5 newId)) (gN:h.Ns N mN) (gI:mN "__init__"=some (.ref fI)) (gf:h.get? fI=some oI) (gc:oI.cls=.type "function")
  (go:∀h1 x,zbg h h1 x (.ref C) us->z8t (z8u prog w) A (call (.ref fI) (.ref x::us)) (λr s1=>r=.none/\Q (.done (.ret (.ref x))) s1) E ⟨h1,g,d,t,os⟩) (hus:us.length<=sizeLine) :
  z8t (z8u prog w) A (zdg.«type.__call__» ⟨.ref C::us,[]⟩) Q E ⟨h,g,d,t,os⟩:=by
 repeat (first|(with_reducible refine zaN gC ?_)|(with_reducible refine wpAny_madeBy_exc gC ?_)|wp_step)
 refine codeAny_call_builtin_code (zdM _ F.quiet) (wpAny_check_new_subT F T0 gC (codeAny_exc_new_subT F T0 gC ?_ hus))
 show z8t _ _ _ _ _ _
 let tu:Obj:={cls:=.type "tuple",data:=.seq us.toArray}
 let xo:Obj:={cls:=.ref C,data:=.fields #[.ref h.objs.size,.none,.none,.none,.bool false,.none]}
 have up:∀b o,h.get? b=some o->((h.push tu).push xo).get? b=some o:=λb o e=>z8i _ (z8i _ e)
 have gC1:=up _ _ gC
 have gf1:=up _ _ gf
 have gN1:((h.push tu).push xo).Ns N mN:=by
  obtain⟨o,es,ep,e,r⟩:=gN
  exact⟨o,es,ep,up _ _ e,r⟩
 have gx:((h.push tu).push xo).get? (h.objs.size+1)=some xo:=by
  have:=z8K (h.push tu) (o:=xo) rfl
  rw[z9K] at this
  exact this
 have own:(z8J C::bm).contains (.ref C)=true:=by simp
 have T1:zdh ((h.push tu).push xo) bmB bm:=T0.keeps up
 unfold zfc
 repeat (first|(with_reducible refine zaN gx ?_)|(with_reducible refine zdo gC1 ?_;rw[own])|wp_step)
 show z8t _ _ (zdE (.ref C) _) _ _ _
 refine wpAny_typeLookup_tail gC1 gN1 T1 F.mroIs F.init.lookup ?_
 rw[gI]
 refine z8W (z8g ?_)
 unfold bindSpecial
 refine z8g (zcM (T:="function") ⟨_,gf1,gc⟩ ?_)
 rw[if_pos (by decide)]
 have mk:zbg h ((h.push tu).push xo) (h.objs.size+1) (.ref C) us:=⟨up,z9d (zby _),h.objs.size,gx,z9d (z8n _),z8i _ (zel rfl rfl)⟩
 refine z8q (z8g (z8Y (go _ _ mk) (λr s1 hr=>?_) λ_ _ z=>z))
 obtain⟨rfl,hr⟩:=hr
 wp_walk
 exact hr
theorem Y6(F:zek B newId initId bmB)(T0:zdh h bmB bm){mN:Str->Option Value}{us:List Value}{fI:Addr}{oI:Obj}{Q:Value->z8k->Prop}
  (gC:h.get? C=some (zag nm q C N bs bm hdct sn sub ab col dd k0 k1 k2 k3 k5 newId)) (gN:h.Ns N mN) (gI:mN "__init__"=some (.ref fI)) (gf:h.get? fI=some oI) (gc:oI.cls=.type "function")
  (go:∀h1 x,zbg h h1 x (.ref C) us->z8t (z8u prog w) (A.under (.builtin "type.__call__" ⟨.ref C::us,[]⟩)) (call (.ref fI) (.ref x::us)) (λr s1=>r=.none/\Q (.ref x) s1) E ⟨h1,g,d,t,os⟩) (hus:us.length<=sizeLine) :
  z8t (z8u prog w) A (call (.ref C) us) Q E ⟨h,g,d,t,os⟩:=by
 have i1:=tc_lookup
 have i2:=tc_bind (.ref C)
 have tp:Shared.TypeIs ⟨h,g,d,t,os⟩ (.ref C) "type":=⟨_,gC,rfl⟩
 refine za5 (codeAny_of_tree ?_)
 show z8t _ _ (callAny (.ref C) _) _ _ _
 repeat (any_goals (first|assumption|(with_reducible refine zaN gC ?_)|wp_step))
 refine⟨rfl,codeAny_call_builtin_at (zdM _ (by decide +kernel)) entry_typeCall (wpAny_check_type_call_sub gC ?_)⟩
 exact Yb F T0 gC gN gI gf gc (λh1 x mk=>go h1 x mk) hus
theorem uC {M:zbP} {env:Env} {s:z8k} {x:Sem Value} {Q:Flow->z8k->Prop} (hbase:bm.contains (.type "BaseException")=true) (hh:A.handled=none)
  (go:z8t M A x (λv s1=>∃e t dx,v=.ref e/\s1.heap.get? C=some (zag nm q C N bs bm hdct sn sub ab col dd k0 k1 k2 k3 k5 newId)/\
   s1.heap.get? e=some {cls:=.ref C,dict:=dx,data:=.fields #[.ref t,.none,.none,.none,.bool false,.none]}/\E (.ref e) s1) E s) :
  z8t M A (raiseStmt env (some x) none) Q E s:=by
 have isB:(z8J C::bm).contains (.type "BaseException")=true:=by rw[zc5,hbase];simp
 unfold raiseStmt
 refine z8g (z8Y go (λv s1 k=>?_) λ_ _ z=>z)
 obtain⟨e,t,dx,rfl,gC,ge,gE⟩:=k
 obtain⟨h1,g1,d1,t1,o1⟩:=s1
 repeat (first|(with_reducible refine zaN ge ?_)|(with_reducible refine zaN gC ?_)|(with_reducible refine zdo gC ?_;rw[isB])|wp_step)
 exact wpAny_raiseNew_none hh gE
end
section
variable {prog:Program}{w:World}{A:Around}{E:Value->Shared->Prop}{s:Shared}
variable {nm q:Str}{C N:Addr}{bs bm bmB:List Value}{hdct:Bool}{sn:List Str}{sub:List Value}{ab:Bool}{col:Option Bool}{dd:Option Addr}{k0 k1 k2 k3 k5:Option Value}{B newId initId:String}
theorem Yy(F:zek B newId initId bmB)(T0:zdh s.heap bmB bm){e:Addr}{ob:Obj}{vs:Array Value}{t0:Addr}{rest:List Value}{Q:Value->z8k->Prop}
  (gC:s.heap.get? C=some (zag nm q C N bs bm hdct sn sub ab col dd k0 k1 k2 k3 k5 newId)) (he:s.heap.get? e=some ob) (hcls:ob.cls=.ref C) (hd:ob.data=.fields vs) (h0:vs[0]?=some (.ref t0))
  (h:Q .none {s with heap:=(s.heap.push {cls:=.type "tuple",data:=.seq rest.toArray}).update e (z9X (·.setIfInBounds 0 (.ref s.heap.objs.size)))}) (hrest:rest.length<=sizeLine) :
  z8t (z8u prog w) A (call (.builtin initId) (.ref e::rest)) Q E s:=by
 obtain⟨hh,g,d,t,os⟩:=s
 refine za5 (zbx F.init.plain F.initEntry (wpAny_check_init_subT F T0 gC he hcls ?_))
 unfold zdg.«BaseException.__init__»
 dsimp only
 rw[if_neg (by simp)]
 unfold newTuple zeE
 have hsz:0<vs.size:=(z9w.mp h0).1
 have he₁:=z8i (h:=hh) {cls:=.type "tuple",data:=.seq rest.toArray} he
 refine z8g (z9N (z8g (z8g (z9W he₁ hd h0 (z8g (zbX he₁ hd hsz ?_))))) (by show rest.toArray.size<=sizeLine;rw[z8A];exact hrest))
 exact wpAny_letGo (z8q h)
end
def vx:List Value->Bool
 |.ref _::r=>vx r
 |l=>l == zT
theorem j7(self:Value):∀{l:List Value},vx l=true->PySem.refuseLoop self "__setattr__" l=pure ()
 |.ref c::r,e=>by rw[refuseLoop_ref];exact j7 self e
 |.type n::r,e=>by rw[show zeW n::r=zT from beq_iff_eq.mp e];exact zco.passes self
 |[],e=>by cases e
 |v::r,e=>by
  unfold vx at e
  split at e
  ·rename_i h;cases h;rw[refuseLoop_ref];exact j7 self e
  ·rw[beq_iff_eq.mp e];exact zco.passes self
theorem jC:∀{l:List Value},vx l=true->l.contains (.type "object")=true
 |.ref c::r,e=>by rw[zc5,jC (l:=r) e,zfR]
 |[],e=>by cases e
 |v::r,e=>by
  unfold vx at e
  split at e
  ·rename_i h;cases h;rw[zc5,jC (l:=_) e,zfR]
  ·rw[beq_iff_eq.mp e];decide
section
variable {prog:Program}{w:World}{A:Around}{E:Value->Shared->Prop}{s:Shared}{K:PySem.W.Frag}{C x:Addr}
theorem z1_{ox:Obj}{name:Str}{v:Value}{Q:Unit->z8k->Prop}(X:K.In s.heap)(hx:s.heap.get? x=some ox)(hc:ox.cls=.ref C)(hnc:PySem.W.notCls ox=true)(hd:ox.dict=none)
  (hs:z8N K (.ref C) "__setattr__"=some (some (.builtin "object.__setattr__"))) (hp:((zbt K C).any λcd=>vx cd.mro)=true) (ht:z8N K (.ref C) name=some none) (hh:zab K C=true)
  (h:∀h' tk,h'.get? x=some {ox with dict:=some s.heap.objs.size}->h'.Ns1 s.heap.objs.size (λy=>if y=name then some v else none)->(∀b o,b≠x->s.heap.get? b=some o->h'.get? b=some o)->Q () {s with heap:=h',toks:=tk}) :
  z8t (z8u prog w) A (setAttr (.ref x) name v) Q E s:=by
 have J:ze_ s.heap x ox C none:=⟨hx,hc,hnc,by rw[hd];trivial⟩
 refine zdS X J hs ?_
 have SF:=PySem.F.store_object
 obtain⟨cd,hcd,ho⟩:=zcs hp
 obtain⟨cd',hcd',hdict⟩:=zcs hh
 rw[hcd] at hcd'
 cases hcd'
 have ne:cd.mro.isEmpty=false:=by cases q:cd.mro with|nil=>rw[q] at ho;cases ho|cons _ _=>rfl
 have sub:zdt (z8u prog w) s.heap (zfc (.ref x) (.type "object")) true:=J.type.andThen (PySem.W.looks_mroIn X (by unfold zaE;rw[hcd,zaV,if_neg (by rw[ne];decide),jC ho]))
 refine zbx SF.slot.plain SF.entry (@PySem.W.check_slot (z8u prog w) _ _ {s with toks:=s.toks+1} "object.__setattr__" "object" "__setattr__" (.ref x) [.str name s.toks,v] [] _ SF.kind SF.split sub (SF.args (.ref x) (.str name s.toks) v) ?_)
 have hm:zdt (z8u prog w) s.heap (mroOf (.ref C)) cd.mro:=(zbG X hcd).andThen .now
 rw[PySem.W.osa_eq,refuse_eq]
 refine z8g (z8g (za2 (s:={s with toks:=s.toks+1}) J.type (z8g (za2 (s:={s with toks:=s.toks+1}) hm ?_))))
 rw[j7 _ ho]
 refine z8q (z8g (za2 (s:={s with toks:=s.toks+1}) J.type (z8g (za2 (s:={s with toks:=s.toks+1}) (zd4 X ht) (z8g (z8q ?_))))))
 obtain⟨hh0,g,dr,t,os⟩:=s
 obtain⟨oc,odi,oda,osl⟩:=ox
 dsimp only at hc hd hx
 subst hc hd
 have hnc':∀c,oda≠.cls c:=λc z=>by subst z;cases hnc
 refine z8g (z8q (z8g (z8g (zd3 hx (z8g (za2 (s:=⟨hh0,g,dr,t+1,os⟩) (zbG X hcd) ?_))))))
 rw[hdict]
 have hx₁:(hh0.push {cls:=.type "dict",data:=.dict #[]}).get? x=some ⟨.ref C,none,oda,osl⟩:=z8i _ hx
 have hxs:x≠hh0.objs.size:=z8O (z8x hx)
 have go:z8t (z8u prog w) A.in1 (do
   let d ←alloc {cls:=.type "dict",data:=.dict #[]}
   update x λo=>{o with dict:=some d}
   dictMade (.ref C) x d) (λa s'=>z8t (z8u prog w) A.in1 (match a with
    |some d=>zas d (.str name t) name v
    |none=>zeL (.ref x) (.ref C) name false) (λfin s'=>match fin with|.done f=>(match (Except.ok f:Result) with|.ok (.ret _)=>Q () s'|.ok _=>False|.error e=>E e s')|.again c'=>c'.quiet=true/\zaK (z8u prog w) A c' (λr s'=>match r with|.ok (.ret _)=>Q () s'|.ok _=>False|.error e=>E e s') s') (λe s'=>E e s') s') (λe s'=>E e s') ⟨hh0,g,dr,t+1,os⟩:=by
  refine z8g (wpAny_alloc' ?_)
  refine z8g (wpAny_update' hx₁ ?_)
  refine z8q ?_
  have hgd:((hh0.push {cls:=.type "dict",data:=.dict #[]}).update x λo=>{cls:=o.cls,dict:=some hh0.objs.size,data:=o.data,slots:=o.slots}).get? hh0.objs.size
    = some {cls:=.type "dict",data:=.dict #[]}:=
   (zbH _ _ _ _ hxs.symm).trans (zel rfl rfl)
  have hnd:((hh0.push {cls:=.type "dict",data:=.dict #[]}).update x λo=>{cls:=o.cls,dict:=some hh0.objs.size,data:=o.data,slots:=o.slots}).Ns hh0.objs.size (λ_=>none):=
   ⟨_,#[],_,hgd,rfl,λe he=>absurd he (by simp),λ_=>rfl⟩
  show z8t _ _ (zas hh0.objs.size (.str name t) name v) _ _ _
  unfold zas zeC
  refine z8g (z8q (z8g (wpAny_nsSet1 (zdT hnd) λh' hn' hs=>?_)))
  obtain⟨oD,esD,epD,hoD,hdD,hcD⟩:=hn'.count (zga name v Within.nil)
  refine z8g (zer hoD (by rw[hdD];exact zes (z8G hcD (by rw[z8L,z9B,z95];omega))) ?_)
  refine z8q (h h' _ ?_ ?_ ?_)
  ·refine (hs.2 x hxs).trans (zaH _ hx₁ ?_)
   have hfr:=(Heap.get?_some_iff.mp hx).2
   cases oda<;>first|rfl|exact hfr
  ·obtain⟨o',es,ep,e1,e2,e3,eu,e4⟩:=hn'
   exact⟨o',es,ep,e1,e2,e3,eu,λy=>by rw[e4 y]⟩
  ·intro b o hbx hb
   exact (hs.2 b (z8O (z8x hb))).trans ((zbH _ _ _ _ hbx).trans (z8i _ hb))
 cases oda<;>first|exact absurd rfl (hnc' _)|exact go
end
theorem xO{K:z8o}{h:Heap}{N:Addr}{x:Str}{v:Value}(X:K.In h)(e:zfb K N=true)(q:zbh K N x=some (some v)):h.nsMap N x=some v:=by
 obtain⟨o,es,ep,ho,hd,_,hf⟩:=(Heap.Ns.of_isNs (zc2 X e):h.Ns N (h.nsMap N))
 unfold zbh at q
 split at q
 ·rename_i c d es' n' sl q'
  have:=X _ _ q'
  rw[ho] at this
  cases this
  cases hd
  split at q
  ·rename_i he
   cases q
   rw[←hf]
   unfold nsFind findBy
   rw[←zdy,he]
   rfl
  ·split at q<;>cases q
 ·cases q
theorem XIn.mro{K:z8o}{C HE fI:Addr}{fl:Str}(x:XIn K C HE fI fl):((zbt K C).any λcd=>vx cd.mro)=true:=by
 obtain⟨N,nm,q,bs,hd,sn,sub,ab,col,dd,k0,k1,k2,k3,k5,h,_⟩:=x.cls
 unfold zbt
 rw[h]
 show vx (.ref C::.ref HE::zT)=true
 show vx zT=true
 decide
theorem XIn.at_{K:z8o}{C HE fI:Addr}{fl:Str}{h:Heap}(x:XIn K C HE fI fl)(X:K.In h):∃N nm q bs hd sn sub ab col dd k0 k1 k2 k3 k5,h.get? C=some (zag nm q C N bs (.ref HE::zT) hd sn sub ab col dd k0 k1 k2 k3 k5 "ValueError.__new__")/\h.Ns N (h.nsMap N)/\h.nsMap N "__init__"=some (.ref fI)/\zdh h zT (.ref HE::zT):=by
 obtain⟨N,nm,q,bs,hd,sn,sub,ab,col,dd,k0,k1,k2,k3,k5,h1,h2,h3⟩:=x.cls
 obtain⟨tl,N',nm',q',bs',hd',sn',sub',ab',col',dd',k0',k1',k2',k3',k5',mN,g1,g2,g3,g4⟩:=V7 X x.he
 exact⟨N,nm,q,bs,hd,sn,sub,ab,col,dd,k0,k1,k2,k3,k5,X _ _ h1,.of_isNs (zc2 X h2),xO X h2 h3,.own g1 g2 g3 .base⟩
section
variable {X:Cx}{pins:List (Addr×Obj)}{s:Shared}{σ:St}{H:Hp}{C HE fI:Addr}{fl:Str}
theorem z1c {a b par:Str} {ka kb:Nat} {p1 p2 p3 p4 p5:Pos} (hN:X.N[1]?=some par) (hv:Vis X.env.scope par) (hd:(par == ("__debug__":Str))=false) (hcd:(par == ("__classdict__":Str))=false) (ha:a.length<=1000) (hb:b.length<=1000) :
  PE X (.JoinedStr [.Constant (.str a) ka p1,.FormattedValue (.Name par p2) (-1) none p3,.Constant (.str b) kb p4] p5) (λσ H Q=>∃i:Int,σ[1]?=some (some (.int i))/\i.natAbs.log2<1920/\∀z,Q (.str z) H):=by
 rintro pins s σ H Q I ⟨i,hi,hlog,q⟩
 have e:=zdN (k:=1920) (by decide) hlog
 have e2:(z9T (toString i)).length<=1921:=by rw[zd1];exact e
 refine zeM ?_
 refine thn (W2 (x:=a) pins s σ H (λv H1=>v=.str a/\H1=H) I ⟨rfl,rfl⟩) ?_
 rintro u s1 ⟨v,H1,I1,r,rfl,rfl⟩
 obtain⟨t1,rfl⟩:=r
 have l0:(zbM++a).length<=1000:=by rw[zbu];show 0+a.length<=1000;omega
 refine⟨_,_,rfl,by rw[z95];omega,?_⟩
 refine zc6 (thn (xA (i:=1) hN hv hd hcd pins s1 σ H1 (λv H2=>v=.int i/\H2=H1) I1 ⟨_,hi,rfl,rfl⟩) ?_)
 rintro u s2 ⟨v,H2,I2,r,rfl,rfl⟩
 obtain⟨t2,rfl⟩:=r
 refine zd2 hlog ?_
 have l1:(zbM++a++z9T (toString i)).length<=3000:=by rw[zbu];omega
 refine⟨_,_,rfl,by rw[z95];omega,?_⟩
 have I3:Inv X pins σ H2 {s2 with toks:=s2.toks+1+1}:=I2.kept (h':=s2.heap) λ_ _ q=>q
 refine thn (W2 (x:=b) pins _ σ H2 (λv H1=>v=.str b/\H1=H2) I3 ⟨rfl,rfl⟩) ?_
 rintro u s4 ⟨v,H4,I4,r,rfl,rfl⟩
 obtain⟨t4,rfl⟩:=r
 have l2:(zbM++a++z9T (toString i)++b).length<=5000:=by rw[zbu];omega
 refine⟨_,_,rfl,by rw[z95];omega,by rw[z95];omega,?_⟩
 exact⟨.str _,H4,I4.kept (h':=s4.heap) λ_ _ q=>q,⟨_,rfl⟩,q _⟩
theorem Yl {a par:Str} {ka:Nat} {p1 p2 p3 p5:Pos} (hN:X.N[1]?=some par) (hv:Vis X.env.scope par) (hd:(par == ("__debug__":Str))=false) (hcd:(par == ("__classdict__":Str))=false) (ha:a.length<=1000) :
  PE X (.JoinedStr [.Constant (.str a) ka p1,.FormattedValue (.Name par p2) (-1) none p3] p5) (λσ H Q=>∃i:Int,σ[1]?=some (some (.int i))/\i.natAbs.log2<1920/\∀z,Q (.str z) H):=by
 rintro pins s σ H Q I ⟨i,hi,hlog,q⟩
 have e:=zdN (k:=1920) (by decide) hlog
 have e2:(z9T (toString i)).length<=1921:=by rw[zd1];exact e
 refine zeM ?_
 refine thn (W2 (x:=a) pins s σ H (λv H1=>v=.str a/\H1=H) I ⟨rfl,rfl⟩) ?_
 rintro u s1 ⟨v,H1,I1,r,rfl,rfl⟩
 obtain⟨t1,rfl⟩:=r
 have l0:(zbM++a).length<=1000:=by rw[zbu];show 0+a.length<=1000;omega
 refine⟨_,_,rfl,by rw[z95];omega,?_⟩
 refine zc6 (thn (xA (i:=1) hN hv hd hcd pins s1 σ H1 (λv H2=>v=.int i/\H2=H1) I1 ⟨_,hi,rfl,rfl⟩) ?_)
 rintro u s2 ⟨v,H2,I2,r,rfl,rfl⟩
 obtain⟨t2,rfl⟩:=r
 refine zd2 hlog ?_
 have l1:(zbM++a++z9T (toString i)).length<=3000:=by rw[zbu];omega
 refine⟨_,_,rfl,by rw[z95];omega,by rw[z95];omega,?_⟩
 exact⟨.str _,H2,I2.kept (h':=s2.heap) λ_ _ q=>q,⟨_,rfl⟩,q _⟩
noncomputable def V_(par:Str)(parts:List Expr):Prop:=
 (∃(a b:Str) (ka kb:Nat) (p1 p2 p3 p4:Pos),parts=[.Constant (.str a) ka p1,.FormattedValue (.Name par p2) (-1) none p3,.Constant (.str b) kb p4]/\a.length<=1000/\b.length<=1000)\/
 ∃(a:Str) (ka:Nat) (p1 p2 p3:Pos),parts=[.Constant (.str a) ka p1,.FormattedValue (.Name par p2) (-1) none p3]/\a.length<=1000
theorem YD {par:Str} {parts:List Expr} {p5:Pos} (hN:X.N[1]?=some par) (hv:Vis X.env.scope par) (hd:(par == ("__debug__":Str))=false) (hcd:(par == ("__classdict__":Str))=false) (h:V_ par parts) :
  PE X (.JoinedStr parts p5) (λσ H Q=>∃i:Int,σ[1]?=some (some (.int i))/\i.natAbs.log2<1920/\∀z,Q (.str z) H):=by
 rcases h with⟨a,b,ka,kb,p1,p2,p3,p4,rfl,h1,h2⟩|⟨a,ka,p1,p2,p3,rfl,h1⟩
 ·exact z1c hN hv hd hcd h1 h2
 ·exact Yl hN hv hd hcd h1
theorem z0_ {par slf B:Str} {parts:List Expr} {p5 q0 q1 q2 q4:Pos} (xi:XIn X.K C HE fI fl) (hN0:X.N[0]?=some slf) (hv0:Vis X.env.scope slf) (hd0:(slf == ("__debug__":Str))=false) (hcd0:(slf == ("__classdict__":Str))=false)
  (hN:X.N[1]?=some par) (hv:Vis X.env.scope par) (hd:(par == ("__debug__":Str))=false) (hcd:(par == ("__classdict__":Str))=false) (hfp:V_ par parts)
  (hB:Gl X B) (hm:X.mg B=some (.ref HE)) (hBd:(B == ("__debug__":Str))=false) (hga:zaf X.K (.ref HE) "__getattribute__"=some (some (.builtin "type.__getattribute__"))) (hr:zeN X.K HE (.type "type")=true)
  (hf:zeO X.K (.ref HE) (.type "type") "__init__"=some (.val (.builtin "ValueError.__init__"))) (hline:(q1.endLine == q4.line)=true) :
  PE X (.Call (.Attribute (.Name B q0) "__init__" q1) [.Name slf q2,.JoinedStr parts p5] [] q4) (λσ H Q=>∃(x:Addr) (i:Int),σ[0]?=some (some (.ref x))/\σ[1]?=some (some (.int i))/\i.natAbs.log2<1920/\H x=some (.ext (yl x C))/\Q .non (upd H x (.ext (yl x C)))):=by
 rintro pins s σ H Q I ⟨x,i,h0,h1,hlog,hx,q⟩
 rw[zdu]
 refine z8g (qS I hB hm ?_ hBd)
 refine z8g (z9k ?_)
 have hpos:zb1 true (.Name B q0) X.env q1 q4=pure q4:=by unfold zb1;simp[hline]
 unfold zcQ
 refine z8g (z8W (PySem.W.method_cls I.kIn hga (PySem.W.cls_value I.kIn hr hf rfl ?_)))
 refine z8g (zcc hpos ?_)
 have I1:Inv X pins σ H {s with toks:=s.toks+1}:=I.kept (h':=s.heap) λ_ _ q=>q
 have pa:PA X [.Name slf q2,.JoinedStr parts p5] _:=zC (xA (i:=0) hN0 hv0 hd0 hcd0) (zC (YD hN hv hd hcd hfp) qk)
 refine PySem.W.callWith_of (P:=λ_=>True) (first:=[]) rfl (λh _=>⟨.machine,.inr (.inl rfl),zfT rfl⟩) (zaP (thn (pa q4 pins _ σ H (λvs H1=>∃z,vs=[.ref x,.str z]/\H1=H) I1 ⟨_,h0,i,h1,hlog,λz=>⟨z,rfl,rfl⟩⟩) ?_))
 rintro us s2 ⟨vs,H2,I2,rv,z,rfl,rfl⟩
 obtain⟨u1,rfl⟩:∃u1,us=[.ref x,u1]:=by
  cases rv with
  |cons r1 r2=>cases r2 with
   |cons r3 r4=>cases r4;cases r1;exact⟨_,rfl⟩
 refine⟨trivial,?_⟩
 obtain⟨N,nm,qn,bs,hdd,sn,sub,ab,col,dd,k0,k1,k2,k3,k5,g1,g2,g3,g4⟩:=xi.at_ I2.kIn
 obtain⟨t,ex⟩:yl x C s2.heap:=(show ObjOk X.prog X.w H2 s2.heap x (.ext (yl x C)) from I2.hok _ _ hx).1
 refine Yy (rest:=[u1]) z9x g4 g1 ex rfl rfl rfl ?_ (by rw[z95];show 1<=_;omega)
 have lt:x<s2.heap.objs.size:=z8x ex
 have ex1:=z8i (h:=s2.heap) {cls:=.type "tuple",data:=.seq [u1].toArray} ex
 have k1:∀b u,b≠x->s2.heap.get? b=some u->((s2.heap.push {cls:=.type "tuple",data:=.seq [u1].toArray}).update x (z9X (·.setIfInBounds 0 (.ref s2.heap.objs.size)))).get? b=some u:=λb u hb hu=>by
  rw[z9v _ _ (z9r hb)]
  exact z8i _ hu
 have ex2:((s2.heap.push {cls:=.type "tuple",data:=.seq [u1].toArray}).update x (z9X (·.setIfInBounds 0 (.ref s2.heap.objs.size)))).get? x=some {cls:=.ref C,data:=.fields #[.ref s2.heap.objs.size,.none,.none,.none,.bool false,.none]}:=by
  rw[zaH _ ex1 rfl];rfl
 exact⟨.non,_,I2.write (x:=x) (e:=x) (o:=.ext (yl x C)) (t':=s2.toks) (by rw[hx];exact z9p) (.inl rfl) k1 ⟨_,ex2⟩ ⟨⟨_,ex2⟩,⟨_,ex2⟩,λh1 h2 ⟨t,e⟩ k=>⟨t,k _ e⟩⟩,rfl,q⟩
theorem z0q {par slf:Str} {q0 q1 q2 q3:Pos} (xi:XIn X.K C HE fI fl) (hN0:X.N[0]?=some slf) (hv0:Vis X.env.scope slf) (hd0:(slf == ("__debug__":Str))=false) (hcd0:(slf == ("__classdict__":Str))=false)
  (hN:X.N[1]?=some par) (hv:Vis X.env.scope par) (hd:(par == ("__debug__":Str))=false) (hcd:(par == ("__classdict__":Str))=false) :
  PS X (.Assign [.Attribute (.Name slf q0) fl q1] (.Name par q2) q3) (λD σ H=>∃(x:Addr) (i:Int),σ[0]?=some (some (.ref x))/\σ[1]?=some (some (.int i))/\H x=some (.ext (yl x C))/\∀dx,H dx=none->dx≠x->D.nx σ (upd (upd H x (.ext (uP x C dx))) dx (.xd [(fl,.int i)]))):=by
 rintro pins s σ H D I ⟨x,i,h0,h1,hx,q⟩
 refine zbl (thn (xA (i:=1) hN hv hd hcd pins s σ H (λv H1=>v=.int i/\H1=H) I ⟨_,h1,rfl,rfl⟩) ?_) rfl
 rintro u s1 ⟨v,H1,I1,r,rfl,rfl⟩
 refine thn (xA (i:=0) hN0 hv0 hd0 hcd0 pins s1 σ H1 (λv H2=>v=.ref x/\H2=H1) I1 ⟨_,h0,rfl,rfl⟩) ?_
 rintro ov s2 ⟨v,H2,I2,r2,rfl,rfl⟩
 cases r2
 obtain⟨t,ex⟩:yl x C s2.heap:=(show ObjOk X.prog X.w H2 s2.heap x (.ext (yl x C)) from I2.hok _ _ hx).1
 refine z1_ I2.kIn ex rfl rfl rfl xi.sa xi.mro xi.no xi.dct λh' tk e1 e2 e3=>?_
 have lt:x<s2.heap.objs.size:=z8x ex
 have hf:H2 s2.heap.objs.size=none:=I2.hok.fresh (z8n _)
 have ne:s2.heap.objs.size≠x:=zax lt
 refine⟨σ,_,?_,q _ hf ne⟩
 have ox:XOk X H2 s2.heap.objs.size:=vH I2 (z9d (z8n _))
 have hpn:∀p∈pins,p.1≠s2.heap.objs.size:=λp hp z=>by
  have:=(I2.pin p (z8s _ hp)).1
  rw[z,z9d (z8n _)] at this;cases this
 have I3:Inv X pins σ (upd H2 x (.ext (uP x C s2.heap.objs.size))) {s2 with heap:=h',toks:=tk}:=I2.write (x:=x) (e:=x) (by rw[hx];exact z9p) (.inl rfl) (λb u hb hu=>e3 b u hb hu) ⟨_,e1⟩ ⟨⟨t,e1⟩,⟨_,e1⟩,λh1 h2 ⟨t,e⟩ k=>⟨t,k _ e⟩⟩
 have ox3:XOk X (upd H2 x (.ext (uP x C s2.heap.objs.size))) s2.heap.objs.size:=⟨by rw[z9 ne];exact ox.free,ox.loc,ox.nfs,ox.new,ox.cel,ox.pin⟩
 refine yA I3 ox3 hpn ⟨_,e2,λf=>?_⟩
 show RelO (z9J f [(fl,V.int i)]) (if f=fl then some u else none)
 by_cases z:f=fl
 ·subst z
  rw[if_pos rfl]
  simp only[z9J,beq_self_eq_true]
  exact r
 ·rw[if_neg z]
  have:(f == fl)=false:=beq_eq_false_iff_ne.mpr z
  simp only[z9J,this]
  exact trivial
end
def z6B(body:List Stmt)(B slf par fl:Str):Prop:=∃(q0 q1 q2 p5 q4 q5 r0 r1 r2 r3:Pos) (parts:List Expr),
 body=[.Expr (.Call (.Attribute (.Name B q0) "__init__" q1) [.Name slf q2,.JoinedStr parts p5] [] q4) q5,.Assign [.Attribute (.Name slf r0) fl r1] (.Name par r2) r3]/\(q1.endLine == q4.line)=true/\V_ par parts
noncomputable def scI(slf par B:Str)(sc:Scope):Bool:=(sc.kind == .function)&&!sc.isCoroutine&&!sc.isGenerator&&(slf != par)&&(sc.names.lookup slf == some .local)&&(sc.names.lookup par == some .local)&&sc.names.all (λy=>y.2 != .free)&&(sc.names.lookup B == some .globalImplicit)&&
 (slf != ("__debug__":Str))&&(slf != ("__classdict__":Str))&&(par != ("__debug__":Str))&&(par != ("__classdict__":Str))&&(B != ("__debug__":Str))
section
variable {P:Program}{w:World}{K:PySem.W.Frag}{mg:Str->Option Value}{base:Heap}{C HE fI:Addr}{fl:Str}{k:Nat}
structure HIn(K:PySem.W.Frag)(mg:Str->Option Value)(HE:Addr)(B:Str):Prop where
 mg:mg B=some (.ref HE)
 ga:zaf K (.ref HE) "__getattribute__"=some (some (.builtin "type.__getattribute__"))
 rd:zeN K HE (.type "type")=true
 fc:zeO K (.ref HE) (.type "type") "__init__"=some (.val (.builtin "ValueError.__init__"))
theorem z6Z{CX:CXT}{name qual slf par B:Str}{params:Arguments}{body:List Stmt}{scope:Scope}{dV kV doc pm cdv ct oc:Value}{an od:Option Addr}{osl:Array (Option Value)}
  (xi:XIn K C HE fI fl) (hi:HIn K mg HE B) (lk:K.lookup fI=some ⟨oc,od,.func (z9u name qual params body scope dV kV doc pm an cdv ct),osl⟩) (hcd:zaO K cdv qual=true) (hf:z6B body B slf par fl) (hs:scI slf par B scope=true) :
  FnOk P w K mg base CX (k+1) fI (z9u name qual params body scope dV kV doc pm an cdv ct) [slf,par] (spI C fl):=by
 simp only[scI,z8j,z92,beq_iff_eq,z9O,bne_iff_ne,ne_eq] at hs
 obtain⟨⟨⟨⟨⟨⟨⟨⟨⟨⟨⟨⟨h1,h2⟩,h3⟩,h4⟩,h5⟩,h6⟩,h7⟩,h8⟩,h9⟩,h10⟩,h11⟩,h12⟩,h13⟩:=hs
 have S:FnScope [slf,par] [slf,par] scope:=⟨h1,h2,h3,by simp[h4],rfl,λx hx=>by
  rcases z8T.mp hx with rfl|hx
  ·exact .inl h5
  ·rw[z8l.mp hx];exact .inl h6,h7⟩
 obtain⟨q0,q1,q2,p5,q4,q5,r0,r1,r2,r3,parts,rfl,c5,c6⟩:=hf
 refine z2I (fnb:=λ_=>true) lk hcd S (λvs H Q E q=>by obtain⟨x,i,rfl,_⟩:=q;rfl) λA outer s H vs Q E hr hsp _=>?_
 obtain⟨x,i,rfl,hlog,hx,q⟩:=hsp
 have hd0:(slf == ("__debug__":Str))=false:=beq_eq_false_iff_ne.mpr h9
 have hc0:(slf == ("__classdict__":Str))=false:=beq_eq_false_iff_ne.mpr h10
 have hd1:(par == ("__debug__":Str))=false:=beq_eq_false_iff_ne.mpr h11
 have hc1:(par == ("__classdict__":Str))=false:=beq_eq_false_iff_ne.mpr h12
 have hdB:(B == ("__debug__":Str))=false:=beq_eq_false_iff_ne.mpr h13
 refine⟨_,WO (Kv (z0_ (C:=C) (HE:=HE) (fI:=fI) (fl:=fl) xi rfl (.inl h5) hd0 hc0 rfl (.inl h6) hd1 hc1 c6 h8 hi.mg hdB hi.ga hi.rd hi.fc c5)) (z2m (z0q (C:=C) (HE:=HE) (fI:=fI) xi rfl (.inl h5) hd0 hc0 rfl (.inl h6) hd1 hc1)),?_⟩
 refine⟨x,i,rfl,rfl,hlog,hx,x,i,rfl,rfl,z8,λdx hdx ne=>?_⟩
 rw[Ko]
 exact q dx (by rw[z9 ne] at hdx;exact hdx) ne
end
section
variable {X:Cx}{pins:List (Addr×Obj)}{s:Shared}{σ:St}{H:Hp}
theorem WL{x:Addr}{φ:Heap->Prop}(I:Inv X pins σ (upd H x (.ext φ)) s)(hx:H x=none):Inv X pins σ H s:=by
 have nn:∀b,upd H x (.ext φ) b=none->H b=none:=λb e=>by
  by_cases z:b=x
  ·rw[z];exact hx
  ·rw[z9 z] at e;exact e
 have so:∀b o,upd H x (.ext φ) b=some o->(∀ψ,o≠.ext ψ)->H b=some o:=λb o e n=>by
  by_cases z:b=x
  ·rw[z,z8] at e;cases e;exact absurd rfl (n φ)
  ·rw[z9 z] at e;exact e
 refine⟨I.ok,I.os,I.bare,⟨I.base.keep,I.base.slot,λb o e n hx'=>nn b (I.base.free b o e n hx'),I.base.there,λb xs e=>so b _ (I.base.tups b xs e) (λψ z=>by cases z),λb o u e=>so b _ (I.base.frzs b o u e) (λψ z=>by cases z),λb ps e=>?_⟩,I.loc,I.cell,nn _ I.free,λy c e=>(I.freeC y c e).imp (nn _) λ⟨n,o,u,f⟩=>⟨n,o,u,so c _ f (λψ z=>by cases z)⟩,λp hp=>?_,λb ob e=>?_,I.len⟩
 ·obtain⟨more,q⟩:=I.base.tbls b ps e
  exact⟨more,so b _ q (λψ z=>by cases z)⟩
 ·obtain⟨e,n,r⟩:=I.pin p hp
  exact⟨e,nn _ n,r⟩
 ·have ne:b≠x:=λz=>by rw[z,hx] at e;cases e
  have q:=I.hok b ob (by rw[z9 ne];exact e)
  exact q.stay (λ_ _ _ q=>q) (λc q=>so c _ q (λψ z=>by cases z)) λc xs q=>so c _ q (λψ z=>by cases z)
end
section
variable {X:Cx}{D:DP}{W:XW}{Γ:Cn}{k:Nat}{pins:List (Addr×Obj)}{s:Shared}{σ:St}{H:Hp}{φ α:List Addr}{τ:Sl}{μ:Mem}{a:Expr}{pos:Pos}{E:Ends}{g:De}
theorem Yt{H:Hp}{x y:Addr}{a b:HO}(h:x≠y):upd (upd H x a) y b=upd (upd H y b) x a:=by
 funext c
 by_cases z:c=y
 ·subst z;rw[z8,z9 (z9r h),z8]
 ·rw[z9 z]
  by_cases z2:c=x
  ·subst z2;rw[z8,z8]
  ·rw[z9 z2,z9 z2,z9 z]
theorem z2e{C HE fI:Addr}{fl:Str}{fd:z9t}{ps:List Str}{kk:Nat}{u:Value}{i:Int}{Q:Value->z8k->Prop}(xi:XIn X.K C HE fI fl)(hb:Binds X.K fd ps [])(hr:Room (kk+1) X.A)
  (F:FnOk X.prog X.w X.K X.mg X.base (CX1 X.prog X.w) kk fI fd ps (spI C fl)) (I:Inv X pins σ H s) (r:RelV (.int i) u) (hlog:i.natAbs.log2<1920)
  (q:∀x dx t s',Inv X pins σ (upd H dx (.xd [(fl,.int i)])) s'->H dx=none->XOk X H x->dx≠x->s'.heap.get? x=some {cls:=.ref C,dict:=some dx,data:=.fields #[.ref t,.none,.none,.none,.bool false,.none]}->Q (.ref x) s') :
  z8t (z8u X.prog X.w) X.A (call (.ref C) [u]) Q X.xe s:=by
 obtain⟨N,nm,qn,bs,hdd,sn,sub,ab,col,dd,k0,k1,k2,k3,k5,g1,g2,g3,g4⟩:=xi.at_ I.kIn
 obtain⟨oI,gf,gc⟩:∃oI,s.heap.get? fI=some oI/\oI.cls=.type "function":=by
  obtain⟨o,ho,e⟩:=z9y.mp xi.fn
  exact⟨o,I.kIn _ _ ho,e⟩
 obtain⟨hh,gg,d,tk,os⟩:=s
 refine Y6 z9x g4 g1 g2 g3 gf gc (λh1 x mk=>?_) (by rw[z95];show 1<=_;omega)
 have J:Inv X pins σ H ⟨h1,gg,d,tk,os⟩:=I.kept (t':=tk) mk.keeps
 have ox:XOk X H x:=vH I mk.new
 have hpn:∀p∈pins,p.1≠x:=λp hp z=>by
  have:=(I.pin p (z8s _ hp)).1
  rw[z,mk.new] at this;cases this
 obtain⟨t,ho,_,_⟩:=mk.there
 have I2:Inv X pins σ (upd H x (.ext (yl x C))) ⟨h1,gg,d,tk,os⟩:=yA J ox hpn ⟨⟨t,ho⟩,⟨_,ho⟩,λh1 h2 ⟨t,e⟩ k=>⟨t,k _ e⟩⟩
 have rv:Vals [.ref x,.int i] [.ref x,u]:=.cons rfl (.cons r .nil)
 have hl:([z8J x,u]++[]).length=ps.length:=by
  have:=F.len [.ref x,.int i] (upd H x (.ext (yl x C))) (λ_ _=>True) (λ_ _ _=>False) ⟨x,i,rfl,hlog,z8,λ_ _ _=>trivial⟩
  exact this
 refine za5 (z9H (F.run _ X.stack ⟨h1,gg,d,tk,os⟩ (upd H x (.ext (yl x C))) ⟨[.ref x,u],[]⟩ [.ref x,u] [.ref x,.int i] (λv H'=>v=.non/\∃dx,H dx=none/\dx≠x/\H'=upd (upd H x (.ext (uP x C dx))) dx (.xd [(fl,.int i)])) (λ_ _ _=>False) (hr.make C [u] []) (I2.env0.make C [u] []) (by simpa using hb _ [.ref x,u] I2.kIn hl) rv
  ⟨x,i,rfl,hlog,z8,λdx hdx ne=>⟨rfl,dx,by rw[z9 ne] at hdx;exact hdx,ne,by rw[Ko]⟩⟩) λres s' hq=>?_)
 cases res with
 |error e=>
  obtain⟨_,_,_,_,_,_,_,_,_,_,_,_,_,_,_,z⟩:=hq
  exact z.elim
 |ok flw=>
  cases flw with
  |ret v=>
   obtain⟨v',H',I3,rv',⟨rfl,dx,hdx,ne,rfl⟩⟩:=I2.after hq
   refine⟨rv',?_⟩
   obtain⟨t',e'⟩:uP x C dx s'.heap:=(show ObjOk X.prog X.w _ s'.heap x (.ext (uP x C dx)) from I3.hok x _ (by rw[z9 (z9r ne),z8])).1
   rw[Yt (z9r ne)] at I3
   have I4:=WL I3 (by rw[z9 (z9r ne)];exact ox.free)
   exact q x dx t' s' I4 hdx ox ne e'
  |next=>exact z8Q hq
  |brk=>exact z8Q hq
  |cont=>exact z8Q hq
noncomputable def hash(m:Str):Str:=⟨#[35]++m.cps⟩
theorem X4(C:Sk D W Γ X k)(hc:Γ.calm=true){x fl:Str}{n f:Nat}{p0 p1:Pos}(hx:x∈Γ.G)(hU:hash x∈Γ.U)(hg:Γ.gl (hash x)=.xin n f x fl)(hst:noStar a=true)(ha:PE X a (rdE D W g)) :
  PS X (.Raise (some (.Call (.Name x p0) [a] [] p1)) none pos) (rdS D W (Qq n f g)):=by
 rintro pins s σ H E I ⟨φ,α,τ,μ,sr,mr,p⟩
 have q:=(C.glU _ hU).1
 rw[hg] at q
 obtain⟨C0,HE,fI,fd,ps,kk,ad,hm,hfl,xi,hb,hkk,F⟩:=q
 have hr:=(C.rom hc).mono hkk
 obtain⟨N,nm,qn,bs,hdd,sn,sub,ab,col,dd,k0,k1,k2,k3,k5,g1,g2,g3,g4⟩:=xi.at_ I.ok.mod.kin
 have hbase:(z8J HE::zT).contains (.type "BaseException")=true:=g4.hasType z9x.hasBase
 have body:z8t (z8u X.prog X.w) X.A (eval (.Call (.Name x p0) [a] [] p1) X.env) (λv s1=>∃e t dx,v=.ref e/\s1.heap.get? C0=some (zag nm qn C0 N bs (.ref HE::zT) hdd sn sub ab col dd k0 k1 k2 k3 k5 "ValueError.__new__")/\
   s1.heap.get? e=some {cls:=.ref C0,dict:=dx,data:=.fields #[.ref t,.none,.none,.none,.bool false,.none]}/\X.xe (.ref e) s1) X.xe s:=by
  refine wpAny_Call_ofName (qS I (C.glb x hx) hm ?_ (C.dbG x hx))
  refine z9E (K:=X.K) (first:=[]) (h₀:=X.base) I.ok.mod.kin xi.kp (thn (zC ha qk (z6 hst) p1 pins s σ H (λvs H1=>∃v t μ1 α1,vs=[v]/\Stp α H α1 H1/\SRel D φ α1 H1 τ σ/\MRel D φ α1 H1 μ1/\Den D φ α1 H1 t v/\PostS D W φ α1 H1 E ((match t with
   |.int i=>.grd (i.natAbs.log2<1920) (.ex n [(f,.int i)] τ μ1)
   |_=>.st:Out))) I ⟨φ,α,τ,μ,sr,mr,(PostS.out sr p).mono λt μ' α' H' st m q v d=>⟨v,t,μ',α',rfl,st,sr.step st,m,d,q⟩⟩) ?_) (z6 hst) rfl
  rintro us s1 ⟨vs,H1,I1,rv,v,t,μ1,α1,rfl,st1,sr1,mr1,d1,p1⟩
  obtain⟨u,rfl,r⟩:∃u,us=[u]/\RelV v u:=by
   cases rv with
   |cons r1 r2=>cases r2;exact⟨_,rfl,r1⟩
  refine⟨I1.kIn,?_⟩
  cases t<;>first|(obtain⟨Q,q,_⟩:=p1;exact q.elim)|skip
  rename_i i
  obtain⟨hlog,p2⟩:=PostS.grd p1
  cases d1
  refine z2e xi hb hr F I1 r hlog λe dx t s' I2 hdx oe ne he=>?_
  refine⟨e,t,some dx,rfl,I2.bk _ _ g1,he,C.xe _ _ ?_⟩
  have sm:xN H1 (upd H1 dx (.xd [(fl,.int i)])):=zh hdx
  have st2:Stp α1 H1 α1 (upd H1 dx (.xd [(fl,.int i)])):=Stp.new sm
  refine⟨e,.ref C0,some dx,σ,_,none,.none,rfl,I2.pins_of (λp hp=>absurd hp (by simp)),⟨by rw[z9 (z9r ne)];exact oe.free,oe.loc,oe.nfs,oe.new,oe.cel,oe.pin⟩,λt ht=>absurd ht (by simp),⟨⟨_,_,.ref t,he,⟨rfl,rfl⟩,rfl,rfl,rfl⟩,rfl⟩,.inl rfl,?_⟩
  refine PostS.ex p2 st2 (mr1.new sm) (sr1.step st2) ad ⟨_,zv mr1 hdx,zu mr1 hdx,z8,?_⟩
  exact⟨fl,.int i,[],hfl,rfl,rfl,rfl⟩
 rw[arm_exec_Raise]
 first
  |exact z8g (z9k (uC hbase (I.ok.hd (C.clm hc)) (z8g (z8Y body (λv s₃ h₃=>z8g (z9k (z8q h₃))) λ_ _ x=>x))))
  |(simp only[evalOpt,Option.map];exact z8g (z9k (uC hbase (I.ok.hd (C.clm hc)) (z8g (z8Y body (λv s₃ h₃=>z8g (z9k (z8q h₃))) λ_ _ x=>x)))))
end
noncomputable def z7N:List Expr->Option Expr
 |[a]=>some a
 |_=>none
def VL:SR:=λr Γ s=>(z2g s).bind λe=>(K8 e).bind λq=>(z7N q.2).bind λa=>gd (Γ.calm&&(idx Γ.N q.1).isNone&&Γ.G.contains q.1&&Γ.U.contains (hash q.1)&&noStar a) ((r.e Γ a).bind λg=>(match Γ.gl (hash q.1) with
  |.xin c f nm _=>gd (nm == q.1) (some (Qq c f g))
  |_=>none))
theorem Y8{D:DP}:SOk D VL:=by
 intro r H X W Γ k e d C h
 unfold VL at h
 obtain⟨e',z0,z1⟩:=bnd h
 obtain⟨⟨x,as⟩,z2,z3⟩:=bnd z1
 obtain⟨a,ha,z4⟩:=bnd z3
 clear h z1 z3
 obtain⟨p2,rfl⟩:=KD z0
 obtain⟨p0,p1,rfl⟩:=V5 z2
 obtain⟨hb,h⟩:=zx z4
 simp only[z8j] at hb
 obtain⟨⟨⟨⟨h0,h2⟩,h3⟩,h4⟩,h5⟩:=hb
 obtain⟨g,h6,h⟩:=bnd h
 have ea:as=[a]:=by
  cases as with
  |nil=>cases ha
  |cons b r=>cases r with
   |nil=>cases ha;rfl
   |cons _ _=>cases ha
 subst ea
 cases hl:Γ.gl (hash x) with
 |xin c f nm fl=>
  simp only[hl] at h
  obtain⟨h7,h8⟩:=zx h
  have h7:=beq_iff_eq.mp h7
  subst h7
  cases h8
  exact X4 C h0 (by simpa using h3) (by simpa using h4) hl h5 (H.e C.toCk h6)
 |_=>simp[hl] at h
noncomputable abbrev z03(n:Nat)(o f:De):De:=λτ μ=>(o τ μ).bind λt μ1=>(QF t n μ1).bind λw μ2=>.grd (Vm w) ((f τ μ2).bind λ_ μ3=>.ok .non μ3)
abbrev z6q(j:Nat):De:=λ_ (μ:Mem) K _=>(∃i:Nat,μ[i]?=some (MO.tab j))/\K (.clo (2 * j) [.clo (100+j) []]) μ
noncomputable abbrev z3x(c:Nat)(g:Fn)(fs:List De):De:=λτ μ=>(evs fs τ μ).bind (yx c λts μ=>g (ts++[.non]) μ)
noncomputable def VM:Str:=⟨#[37]⟩
noncomputable def til(m:Str):Str:=⟨#[126]++m.cps⟩
section
variable {X:Cx}{D:DP}{W:XW}{Γ:Cn}{k:Nat}{pins:List (Addr×Obj)}{s:Shared}{σ:St}{H:Hp}{φ α:List Addr}{τ:Sl}{μ:Mem}{f g:De}{fs:List De}{a b c:Expr}{pos:Pos}{es:List Expr}
theorem Vo{A:z8V}{E:Value->z8k->Prop}{ad C0 dx:Addr}{gs:List (Str×V)}{m:Str}{v:V}{pl:Sem Bool}{Q:Value×List Value->z8k->Prop}(I:Inv X pins σ H s)(e:H ad=some (.ins C0 dx gs))(c:Cls X.K C0)(n:NoAttr X.K C0 m)(l:gs.lookup m=some v)
  (h:∀u s',Inv X pins σ H s'->RelV v u->Q (u,[]) s'):z8t (z8u X.prog X.w) A (zfI (.ref ad) m pl) Q E s:=by
 obtain⟨mA,O,r,_,_,_⟩:=kj I.hok e
 obtain⟨od,J,hl⟩:=O.look
 exact PySem.W.method_usual I.kIn J (zam (c.get m)).1 (zam (c.get m)).2 n rfl (yO I e c n l h)
theorem z0O(C:Ck D W Γ X k){m:Str}{n:Nat}{o:Expr}{go:De}{apos:Pos}(hU:VM∈Γ.U)(hg:Γ.gl VM=.kpr)(hn:(m,n)∈Γ.fld)(hc:Γ.calm=true)(hp:qe o=true)(hline:(apos.endLine == pos.line)=true)(hst:noStar a=true)(ho:PE X o (rdE D W go))(ha:PE X a (rdE D W f)) :
  PE X (.Call (.Attribute o m apos) [a] [] pos) (rdE D W (z03 n go f)):=by
 have gq:=(C.glU _ hU).1
 rw[hg] at gq
 rintro pins s σ H Q I ⟨φ,α,τ,μ,sr,mr,p⟩
 rw[zdu,qz hp]
 refine z8g (thn (sub ho I sr mr p) ?_)
 rintro u s1 ⟨v,H1,t,μ1,α1,I1,r1,st1,sr1,mr1,d1,p1⟩
 refine z8g (z9k ?_)
 have hform:methodCallForm ([a].length+([]:List zaU).length) (zaw pos (z96 [a] X.env)) (zbv pos (zat [] X.env))=true:=UM (by simp[hst]) (by show (1:Nat)<30;decide)
 have hpos:zb1 true o X.env apos pos=pure pos:=by unfold zb1;simp[hline]
 have run:∀{ad0 C0 dx:Addr} {gs:List (Str×V)} {z:V} {t0:T},H1 ad0=some (.ins C0 dx gs)->Cls X.K C0->NoAttr X.K C0 m->gs.lookup m=some z->u=.ref ad0->Den D φ α1 H1 t0 z->Post D W φ α1 H1 σ (RV D φ Q) (RE.grd (Vm t0) ((f τ μ1).bind λ_ μ3=>.ok .non μ3))->
   z8t (z8u X.prog X.w) X.A (zcQ o m apos pos X.env u ([a].length+([]:List zaU).length) (zaw pos (z96 [a] X.env)) (zbv pos (zat [] X.env))) (EP X pins σ Q) X.xe s1:=λ{ad0 C0 dx gs z t0} e1 cl na lk hu dz p=>by
  subst hu
  obtain⟨hj,p2⟩:=Post.grd p
  obtain⟨fa,kk,rfl,hkk,hF⟩:=gq.1 t0 φ α1 H1 z hj dz
  unfold zcQ
  rw[hform]
  refine z8g (z8W (Vo I1 e1 cl na lk λu' s1' I1' r'=>?_))
  cases (show u'=z8J fa from r')
  refine z8g (zcc hpos ?_)
  refine PySem.W.callWith_F (first:=[]) (hF X.A X.stack s1' I1'.env0).1 (thn (zC ha qk (z6 hst) pos pins s1' σ H1 (λvs H2=>∃v t μ2 α2,vs=[v]/\Stp α1 H1 α2 H2/\MRel D φ α2 H2 μ2/\Den D φ α2 H2 t v/\Post D W φ α2 H2 σ (RV D φ Q) (.ok .non μ2)) I1' ⟨φ,α1,τ,μ1,sr1,mr1,p2.bind.mono λt μ' α' H' st m q v d=>⟨v,t,μ',α',rfl,st,m,d,q⟩⟩) ?_) (z6 hst) rfl
  rintro us s2 ⟨vs,H2,I2,rv,v2,t2,μ2,α2,rfl,st2,m2,d2,p3⟩
  obtain⟨ux,rfl,rx⟩:=vals1 rv
  obtain⟨fa',kk',e',hkk',hF'⟩:=gq.1 t0 φ α2 H2 _ hj (dz.step st2)
  cases e'
  have hE:=hF' X.A X.stack s2 I2.env0
  refine⟨hE.1,za5 (z9H (hE.2 ((C.rom hc).mono hkk') ux v2 Q t2 φ α2 μ2 rx d2 m2 (λα' H' st' m'=>p3.ok st' m' _ rfl)) λr s' hq=>?_)⟩
  cases r with
  |error e=>
   obtain⟨_,_,_,_,_,_,_,_,_,_,_,_,_,_,_,z⟩:=hq
   exact z.elim
  |ok fl=>
   cases fl with
   |ret u=>exact I2.after hq
   |next=>exact z8Q hq
   |brk=>exact z8Q hq
   |cont=>exact z8Q hq
 unfold QF at p1
 split at p1
 ·split at p1
  ·rename_i c fs _ w hw
   obtain⟨ad,C0,dx,gs,rfl,_,_,e1,e2,l⟩:=d1
   obtain⟨y,z,hy,hz,dz⟩:=l.look hw
   obtain⟨c0,c1,c2⟩:=C.fld c C0 m n e1 hn
   rw[hy] at c0;cases c0
   exact run e2 c1 c2 hz r1 dz p1
  ·exact Post.elim p1
 ·obtain⟨c,fs,w,hi,hw,q⟩:=Post.ex3 p1
  obtain⟨ad,hi',rfl⟩:=d1
  obtain⟨C0,dx,gs,e1,e2,l⟩:=mr1.ob _ ad _ hi' hi
  obtain⟨y,z,hy,hz,dz⟩:=l.look hw
  obtain⟨c0,c1,c2⟩:=C.fld c C0 m n e1 hn
  rw[hy] at c0;cases c0
  exact run e2 c1 c2 hz r1 dz q
 ·exact Post.elim p1
theorem z18{c:Nat}{g:Fn}{C0 fI:Addr}{fd:z9t}{ps:List Str}{kk:Nat}{us:List Value}{vs:List V}{ts:List T}{Q:VK}(C:Ck D W Γ X k)(ad:D.cad c=some C0)(M:Mk X.K C0 fI)(F:FnOk X.prog X.w X.K X.mg X.base (CX1 X.prog X.w) kk fI fd ps (spN D ps.length g))
  (hr:Room (kk+1) X.A) (hb:Binds X.K fd ps [.none]) (har:∀ts μ K Z,g ts μ K Z->ts.length=ps.length) (I:Inv X pins σ H s) (r:Vals vs us) (mr:MRel D φ α H μ) (d:DenL D φ α H ts vs) (p:Post D W φ α H σ (RV D φ Q) (yx c (λts μ=>g (ts++[.non]) μ) ts μ)) :
  z8t (z8u X.prog X.w) X.A (call (.ref C0) us) (EP X pins σ Q) X.xe s:=by
 obtain⟨K,Z,hg,hk,hz⟩:=p
 have hl:(T.mut μ.length::ts++[T.non]).length=ps.length:=har _ _ _ _ hg
 have hlv:(V.ref 0::(vs++[V.non])).length=ps.length:=by
  have:=d.length
  simp only[z8L,z8Z,z9B] at hl ⊢;omega
 have hq:∀x dx,H x=none->H dx=none->dx≠x->spN D ps.length g (.ref x::(vs++[.non])) (upd (upd H dx (.own x)) x (.ins C0 dx [])) (λv H2=>v=.non/\Q (.ref x) H2) (λc d H'=>W c d σ H'):=by
  intro x dx hx hdx hne
  have sm1:xN H (upd H dx (.own x)):=zh hdx
  have hx1:upd H dx (.own x) x=none:=by rw[z9 (z9r hne)];exact hx
  have mr1:MRel D φ α (upd H dx (.own x)) μ:=mr.new sm1
  have st0:Stp α H (α++[x]) (upd (upd H dx (.own x)) x (.ins C0 dx [])):=(Stp.new sm1).trans (jb hx1)
  have mr2:MRel D φ (α++[x]) (upd (upd H dx (.own x)) x (.ins C0 dx [])) (μ++[.obj c []]):=mr1.layO hx1 ⟨C0,dx,[],ad,z8,rfl⟩
  have hget:(α++[x])[μ.length]?=some x:=by rw[←mr.len,z8r (z8n _)];simp
  refine⟨hlv,φ,α++[x],.mut μ.length::(ts++[T.non]),μ++[MO.obj c []],⟨.ref x,vs++[.non],rfl,⟨x,hget,rfl⟩,DenL.append (d.step st0) (show DenL D φ (α++[x]) _ [T.non] [V.non] from ⟨.non,[],rfl,rfl,rfl⟩)⟩,mr2,_,_,hg,?_,?_⟩
  ·rintro t μ2 ⟨rfl,q⟩ α2 H3 st m v dv
   refine⟨dv,?_⟩
   obtain⟨β,e,_⟩:=st.ext
   refine hk _ _ q α2 H3 (st0.trans st) m _ ⟨x,?_,rfl⟩
   rw[e,z8p (z8h.mp hget).1];exact hget
  ·rintro e fs μ2 q α2 H3 C1 d1 st m had xd
   exact hz _ _ _ q α2 H3 C1 d1 (st0.trans st) m had xd
 have hq1:=hq (s.heap.objs.size+1) s.heap.objs.size (I.hok.fresh (zby _)) (I.hok.fresh (z8n _)) (z8O (z9D _))
 have I2:=Inv.made (C:=C0) I
 have r2:Vals (V.ref (s.heap.objs.size+1)::(vs++[V.non])) (z8J (s.heap.objs.size+1)::us++[.none]):=.cons rfl (r.append (.cons rfl .nil))
 have hlu:(z8J (s.heap.objs.size+1)::us++[z9o]).length=ps.length:=by
  have:=r2.length
  rw[←this]
  simpa using hlv
 refine za5 (ui (f:=fI) I.kIn M.makes M.init (beq_iff_eq.mp M.fn) (z9H (F.run _ X.stack _ _ ⟨z8J (s.heap.objs.size+1)::us,[]⟩ (z8J (s.heap.objs.size+1)::us++[.none]) _ _ (λc d H'=>W c d σ H') (hr.make C0 us [])
  (I2.env0.make C0 us []) (by simpa using hb _ (z8J (s.heap.objs.size+1)::us) I2.kIn hlu) r2 hq1) λr s' hq'=>?_))
 cases r with
 |error e=>exact C.xe e s' (yv (E:=λc d H'=>W c d σ H') I2 hq' λcls d H' w=>w)
 |ok fl=>
  cases fl with
  |ret u=>
   obtain⟨v,H',I3,rv,ev,q3⟩:=I2.after hq'
   subst ev
   exact⟨rv,⟨V.ref (s.heap.objs.size+1),H',I3,rfl,q3⟩⟩
  |next=>exact z8Q hq'
  |brk=>exact z8Q hq'
  |cont=>exact z8Q hq'
theorem U7(C:Ck D W Γ X k){x:Str}{c n:Nat}{g:Fn}{p0:Pos}(hx:x∈Γ.G)(hU:til x∈Γ.U)(hg:Γ.gl (til x)=.mkd c x n g)(hc:Γ.calm=true)(ha:EsOk X D W (a::es) fs):PE X (.Call (.Name x p0) (a::es) [] pos) (rdE D W (z3x c g fs)):=by
 have q:=(C.glU _ hU).1
 rw[hg] at q
 obtain⟨C0,fI,fd,ps,kk,ad,hm,M,hb,hkk,Fn,har,_⟩:=q
 have hr:=(C.rom hc).mono hkk
 have hs:=ha.stars
 have pa:=wx ha
 rintro pins s σ H Q I ⟨φ,α,τ,μ,sr,mr,p⟩
 refine z9a (qS I (C.glb x hx) hm ?_ (C.dbG x hx))
 simp only[z9e,z8j] at hs
 refine z9E (h₀:=X.base) I.ok.mod.kin M.kp (thn (XB pa I sr mr p) ?_) (z6 hs.1) (zX hs.2)
 rintro us s1 ⟨vs,H1,ts,μ1,α1,I1,r1,st1,sr1,mr1,d1,_,p1⟩
 exact⟨I1.kIn,z18 C ad M Fn hr hb har I1 r1 mr1 d1 p1⟩
end
def z8f:ER:=λr Γ e=>match e with
 |.Lambda ⟨[],[⟨y,none,_⟩],none,[],[],none,[]⟩ (.Constant .none _ _) sc pl=>gd (z0g y sc&&Γ.U.contains VM) (match Γ.gl VM,Γ.lam with
  |.kpr,some (j,poss)=>gd (decide (pl∈poss)&&decide (j<2)) (some (z6q j))
  |_,_=>none)
 |_=>none
def YL:ER:=λr Γ e=>match e with
 |.Call (.Attribute o m pa) [a] [] pc=>gd (qe o&&pa.endLine == pc.line&&Γ.calm&&noStar a&&Γ.U.contains VM&&m == ("keeper":Str)) ((r.e Γ o).bind λgo=>(r.e Γ a).bind λf=>(match Γ.gl VM,Γ.fld.lookup m with
  |.kpr,some n=>some (z03 n go f)
  |_,_=>none))
 |_=>none
theorem ud{x:Str}{n:Nat}:∀{l:List (Str×Nat)},l.lookup x=some n->(x,n)∈l
 |[],h=>by cases h
 |(y,m)::r,h=>by
  rw[z8_] at h
  split at h
  ·rename_i e
   have e:=beq_iff_eq.mp e
   cases h
   rw[e];exact z8M
  ·exact z8y _ (ud h)
theorem z0n{D:DP}:EOk D YL:=by
 intro r H X W Γ k e d C h
 unfold YL at h
 split at h
 ·have hh:=zx h
  clear h
  obtain⟨hb,h⟩:=hh
  simp only[z8j] at hb
  obtain⟨⟨⟨⟨⟨h0,h1⟩,h2⟩,h3⟩,h4⟩,h5⟩:=hb
  obtain⟨go,e1,h⟩:=bnd h
  obtain⟨f,e2,h⟩:=bnd h
  split at h
  ·rename_i hl hm
   cases h
   exact z0O C (by simpa using h4) hl (ud hm) h2 h0 h1 h3 (H.e C e1) (H.e C e2)
  ·cases h
 ·cases h
def z5C:ER:=λr Γ e=>match e with
 |.Call (.Name x _) (a::es) [] _=>gd ((idx Γ.N x).isNone&&Γ.calm&&Γ.G.contains x&&Γ.U.contains (til x)) ((cEs r Γ (a::es)).bind λfs=>(match Γ.gl (til x) with
  |.mkd c nm n g=>gd (nm == x&&decide (es.length+1=n)) (some (z3x c g fs))
  |_=>none))
 |_=>none
theorem z0I{D:DP}:EOk D z5C:=by
 intro r H X W Γ k e d C h
 unfold z5C at h
 split at h
 ·rename_i x p0 a es pos
  have hh:=zx h
  clear h
  obtain⟨hb,h⟩:=hh
  simp only[z8j] at hb
  obtain⟨⟨⟨h0,h1⟩,h2⟩,h3⟩:=hb
  obtain⟨fs,e1,h⟩:=bnd h
  cases hl:Γ.gl (til x) with
  |mkd c nm n g=>
   simp only[hl] at h
   obtain⟨h4,h5⟩:=zx h
   simp only[z8j] at h4
   have h4:=beq_iff_eq.mp h4.1
   subst h4
   cases h5
   exact U7 C (by simpa using h2) (by simpa using h3) hl h1 (wk H C e1)
  |_=>simp[hl] at h
 ·cases h
def yG (qns:List Str)(fo:Option Addr):Nat->Addr->Option HO->List V->Prop:=λn a ob xs=>
 (∃j qn,qns[j]?=some qn/\j<2/\n=2 * j/\∃c,xs=[.ref c]/\ob=some (.ext (KN a c qn)))\/(∃j qn,qns[j]?=some qn/\j<2/\n=100+j/\xs=[]/\ob=some (.ext (wX a qn)))\/(n=1/\xs=[]/\ob=none/\fo=some a)
section
variable {P:Program}{w:World}{K:PySem.W.Frag}{mg:Str->Option Value}{base:Heap}{D:DP}{k n:Nat}
theorem Ur{A:z8V}{outer:List Env}{s:z8k}{H:Hp}{a c:Addr}{qn:Str}{u:Value}{x:V}{Q:VK}(hr:Room 1 A)(e0:Env0 P w K mg base A outer s H)(hn:KN a c qn s.heap)(hrec:s.heap.CodeRec (.ref c) qn)(r:RelV x u)(q:Q .non H) :
  zaK (z8u P w) A (.call (.ref a) ⟨[u],[]⟩) (CR (CX1 P w) outer P w H s Q (λ_ _ _=>False)) s:=by
 obtain⟨y,pa,kk,bp,sc,pm,ctv,hs,ho⟩:=hn
 simp only[z0g,z8j,z92,beq_iff_eq,z9O,bne_iff_ne,ne_eq] at hs
 obtain⟨⟨⟨⟨⟨⟨h1,h2⟩,h3⟩,h4⟩,h5⟩,h6⟩,h7⟩:=hs
 have loc:∀z∈[y],sc.names.lookup z=some .local:=λz hz=>by
  have:z=y:=by simpa using hz
  rw[this];exact h5
 have S:FnScope [y] [y] sc:=⟨h1,h2,h3,by simp,rfl,λz hz=>.inl (loc z hz),h4⟩
 have lim:s.heap.NoLimit:=e0.mod.nolimit.keeps λb o e=>(e0.bs b o e).1
 have hbind:zca s (zbj "<lambda>" qn ⟨[],[⟨y,none,pa⟩],none,[],[],none,[]⟩ (.Constant .none kk bp) sc [] pm (.ref c) ctv) ⟨[u],[]⟩ [(y,u)]:=.of_eq (bind1 rfl rfl)
 refine zdc (fd:=zbj "<lambda>" qn ⟨[],[⟨y,none,pa⟩],none,[],[],none,[]⟩ (.Constant .none kk bp) sc [] pm (.ref c) ctv) hr.depth ho rfl S.co S.gen rfl hrec (hbind _ _ _ _ (za3 S.kind (λz hz=>?_) λenv he s1 yy=>?_))
 ·obtain⟨z,w⟩:=z
  have:z=y:=by simpa using congrArg Prod.fst (z8l.mp hz)
  subst this
  exact .inl (loc z (by simp))
 subst he
 refine⟨lim.keeps yy.toInCall.keep,zdd ?_⟩
 have I0:=jd (fnb:=λ_=>true) (CX:=λ_ _ _ _ _ _=>False) (E:=λ_ _ _=>False) (f:=a) (cd:=.ref c) (qual:=qn) (A:=A) (vs:=[x]) (us:=[u]) S hr.hd e0 rfl (.cons r .nil) yy
 generalize hX:({QM (λ_ _ _ _ _ _=>False) P w K mg base [y] qn sc a (.ref c) A outer s H (λ_ _ _=>False) with xe:=λ_ _=>False}:Cx)=Y
 have I:Inv Y [] (start [y] [x]) H s1:=by
  subst hX
  exact⟨⟨I0.ok.mod,I0.ok.kind,I0.ok.glob,I0.ok.blt,I0.ok.above,I0.ok.inj,I0.ok.has,I0.ok.cab,I0.ok.hd,I0.ok.frames,I0.ok.stk,I0.ok.exf,I0.ok.bs,I0.ok.bsz,I0.ok.noex,I0.ok.exfs,I0.ok.funs,I0.ok.frf⟩,I0.os,I0.bare,I0.base,I0.loc,I0.cell,I0.free,I0.freeC,I0.pin,I0.hok,I0.len⟩
 have B:=Uw (X:=Y) (j:=kk) (pos:=bp) [] s1 _ H Q I q
 have XA:Y.A=A.deeper (zaF qn sc s.heap.objs.size a (.ref c)):=by rw[←hX];rfl
 have Xp:Y.prog=P/\Y.w=w/\Y.env=zaF qn sc s.heap.objs.size a (.ref c)/\(∀e s,Y.xe e s->False)/\Y.fs=frs outer/\Y.H₀=H/\Y.s₀=s/\Y.ex=[]:=by
  subst hX;exact⟨rfl,rfl,rfl,λ_ _ z=>z,rfl,rfl,rfl,rfl⟩
 obtain⟨x1,x2,x3,x4,x5,x6,x7,x8⟩:=Xp
 rw[XA,x1,x2,x3] at B
 refine z8Y B (λw s' hs=>?_) λe s' z=>(x4 e s' z).elim
 obtain⟨v',H',J,rv,q'⟩:=hs
 have b:=J.base
 have o:=J.os
 have hk:=J.hok
 rw[x5,x6,x7,x8] at b
 rw[x7] at o
 rw[x1,x2] at hk
 exact⟨v',H',o,J.bare,b,hk,rv,q'⟩
theorem z15{A0:Ads}{x:Str}{tbs:List (Addr×List Pos×Str)}{fo:Option Addr}{k1:Nat}(h1:1<=k1)
  (hfo:∀fa,fo=some fa->∀(φ α:List Addr) (H:Hp),∃kk,kk<=k1/\∀(A:z8V) (outer:List Env) (s:z8k),Env0 P w K mg base A outer s H->zed fa s.heap/\(Room kk A->∀(u:Value) (x:V) (Q:VK) (t:T) (φ' α':List Addr) (μ:Mem),RelV x u->Den (mkD K A0 (yG (tbs.map (·.2.2)) fo) λj=>tbs[j]?) φ' α' H t x->MRel (mkD K A0 (yG (tbs.map (·.2.2)) fo) λj=>tbs[j]?) φ' α' H μ->(∀α2 H',Stp α' H α2 H'->MRel (mkD K A0 (yG (tbs.map (·.2.2)) fo) λj=>tbs[j]?) φ' α2 H' μ->Q .non H')->
   zaK (z8u P w) A (.call (.ref fa) ⟨[u],[]⟩) (CR (CX1 P w) outer P w H s Q (λ_ _ _=>False)) s)) :
  GlOkM (mkD K A0 (yG (tbs.map (·.2.2)) fo) λj=>tbs[j]?) P w K mg base k1 x .kpr:=by
 have lam:∀{j0:Nat} {φ α:List Addr} {H:Hp} {v:V},j0<2->Den (mkD K A0 (yG (tbs.map (·.2.2)) fo) λj=>tbs[j]?) φ α H (.clo (2 * j0) [.clo (100+j0) []]) v->∃a kk,v=.ref a/\kk<=k1/\∀(A:z8V) (outer:List Env) (s:z8k),Env0 P w K mg base A outer s H->zed a s.heap/\(Room kk A->∀(u:Value) (x:V) (Q:VK) (t:T) (φ' α':List Addr) (μ:Mem),RelV x u->Den (mkD K A0 (yG (tbs.map (·.2.2)) fo) λj=>tbs[j]?) φ' α' H t x->MRel (mkD K A0 (yG (tbs.map (·.2.2)) fo) λj=>tbs[j]?) φ' α' H μ->(∀α2 H',Stp α' H α2 H'->MRel (mkD K A0 (yG (tbs.map (·.2.2)) fo) λj=>tbs[j]?) φ' α2 H' μ->Q .non H')->
   zaK (z8u P w) A (.call (.ref a) ⟨[u],[]⟩) (CR (CX1 P w) outer P w H s Q (λ_ _ _=>False)) s):=λ{j0 φ α H v} hj0 d=>by
  obtain⟨a,ob,xs,rfl,hc,hob,v,q,rfl,⟨c,ob2,xs2,rfl,hc2,hob2,_⟩,hq⟩:=d
  rcases hc with⟨j,qn,hqn,hj,e1,c0,e0,rfl⟩|⟨j,qn,hqn,hj,z,_⟩|⟨z,_⟩
  ·cases e0
   have ej:j=j0:=by omega
   subst ej
   rcases hc2 with⟨j2,qn2,hqn2,hj2,z,_⟩|⟨j2,qn2,hqn2,hj2,z,_,rfl⟩|⟨z,_⟩
   ·omega
   ·have ej2:j2=j:=by omega
    subst ej2
    rw[hqn] at hqn2;cases hqn2
    obtain⟨_,_,ha⟩:=hob _ rfl
    obtain⟨_,_,hcc⟩:=hob2 _ rfl
    refine⟨a,1,rfl,h1,λA outer s e0=>?_⟩
    obtain⟨np,_⟩:=(show ObjOk P w H s.heap a (.ext (KN a c qn)) from e0.hok a _ ha)
    obtain⟨cr,_⟩:=(show ObjOk P w H s.heap c (.ext (wX c qn)) from e0.hok c _ hcc)
    refine⟨?_,λhr u x Q t φ' α' μ r dx mr q=>Ur hr e0 np cr r (q α' H (Stp.refl _ _) mr)⟩
    obtain⟨_,_,_,_,_,_,_,_,h2⟩:=np
    exact⟨_,_,_,_,h2⟩
   ·omega
  ·omega
  ·omega
 refine⟨λt φ α H v ht d=>?_,λj P' pos' qn' hj e a c=>?_⟩
 ·rcases ht with rfl|rfl|rfl
  ·exact lam (j0:=0) (by decide) d
  ·obtain⟨a,ob,xs,rfl,hc,hob,rfl⟩:=d
   rcases hc with⟨j,qn,hqn,hj,z,_⟩|⟨j,qn,hqn,hj,z,_⟩|⟨_,_,_,z⟩
   ·omega
   ·omega
   ·obtain⟨kk,hkk,h⟩:=hfo a z φ α H
    exact⟨a,kk,rfl,hkk,h⟩
  ·exact lam (j0:=1) (by decide) d
 ·have hq:(tbs.map (·.2.2))[j]?=some qn':=by
   rw[z8U,show tbs[j]?=some (P',pos',qn') from e];rfl
  exact⟨.inl ⟨j,qn',hq,hj,rfl,c,rfl,rfl⟩,.inr (.inl ⟨j,qn',hq,hj,rfl,rfl,rfl⟩)⟩
theorem z5q{A0:Ads}{x y:Str}{tbs:List (Addr×List Pos×Str)}{fa:Addr}{fd:z9t}{kk:Nat}{f:Fn}{oc:Value}{od:Option Addr}{fd':z9t}{sl:Array (Option Value)}(hl:K.lookup fa=some ⟨oc,od,.func fd',sl⟩)(hb:Binds K fd [y] [])(hk:1<=kk)
  (F:FnOk P w K mg base (CX1 P w) kk fa fd [y] (spN (mkD K A0 (yG (tbs.map (·.2.2)) (some fa)) λj=>tbs[j]?) 1 f)) (hf:∀t μ K Z,K .non μ->f [t] μ K Z):GlOkM (mkD K A0 (yG (tbs.map (·.2.2)) (some fa)) λj=>tbs[j]?) P w K mg base kk x .kpr:=
 z15 hk λfa' e φ α H=>by
  cases e
  refine⟨kk,z8n _,λA outer s e0=>?_⟩
  have KX:K.In s.heap:=e0.mod.kin.keeps λb o e=>(e0.bs b o e).1
  refine⟨⟨oc,od,fd',sl,KX _ _ hl⟩,λhr u v Q t φ' α' μ r dx mr q=>?_⟩
  refine F.run A outer s H ⟨[u],[]⟩ [u] [v] Q _ hr e0 (by simpa using hb s [u] KX (by simp)) (.cons r .nil) ⟨rfl,φ',α',[t],μ,⟨v,[],rfl,dx,rfl⟩,mr,(λt' μ'=>t'=.non/\μ'=μ),(λ_ _ _=>False),hf t μ _ _ ⟨rfl,rfl⟩,?_,λ_ _ _ z=>z.elim⟩
  rintro t' μ' ⟨rfl,rfl⟩ α2 H2 st m v2 d2
  have d2:v2=.non:=d2
  rw[d2]
  exact q α2 H2 st m
theorem xB{fd:z9t}{ps:List Str}{T0:Addr}{o:Obj}{items:Array Value}{n:Nat}(hd:fd.defaults=.ref T0)(ho:K.lookup T0=some o)(hs:o.data=.seq items n)(h:∀us:List Value,us.length=ps.length->∃k,zct fd ⟨us,[]⟩=zfK fd.defaults >>= k/\k (some items)=pure (ps.zip us)):Binds K fd ps []:=λs us X hl=>by
 rw[z98] at hl ⊢
 obtain⟨k,h1,h2⟩:=h us hl
 exact zeP X hd ho hs h1 h2
theorem xv{fd:z9t}{ps:List Str}{T0:Addr}{o:Obj}{items:Array Value}{n:Nat}{d:Value}(hd:fd.defaults=.ref T0)(ho:K.lookup T0=some o)(hs:o.data=.seq items n)(h:∀us:List Value,us.length+1=ps.length->∃k,zct fd ⟨us,[]⟩=zfK fd.defaults >>= k/\k (some items)=pure (ps.zip (us++[d]))):Binds K fd ps [d]:=λs us X hl=>by
 obtain⟨k,h1,h2⟩:=h us (by simpa using hl)
 exact zeP X hd ho hs h1 h2
end
end NH
namespace NH.P
open PySem L2 NH
@[reducible] def vo:List Ds:=[(zt (Jl (z7 zY [(eV 0)]) (zr .GtE (eV 0) (eC (.int 0)))))]
def qm:Fn:=fnW 1 0 vo
@[reducible] def ZG:List Ds:=[(sIf (tOr (qM (tE (vL [4] (eV 1)))) (tE (zr .NotEq (eB1 yi (eV 1)) (eC (.int 2))))) [(zt (eC (.bl false)))] []),(sIf (qM (tOr (tE (zr .Is (eIx (eV 1) (eC (.int 0))) (eC .non))) (tE (z7 v_ [(eV 0),(eIx (eV 1) (eC (.int 0)))])))) [(zt (eC (.bl false)))] []),(zt (eOr (zr .Is (eIx (eV 1) (eC (.int 1))) (eC .non)) (z7 qh [(eIx (eV 1) (eC (.int 1))),(zf (eV 0) 0)])))]
def KG:Fn:=fnW 2 0 ZG
@[reducible] def kE:List Ds:=[(qw (eV 0) 11 (eV 1)),(qw (eV 0) 12 (eV 2)),(qw (eV 0) 13 (eV 3))]
def jB:Fn:=fnW 4 0 kE
@[reducible] def Q9:List Ds:=[(zt (z7 ki [(eV 0),(zb .FloorDiv (eV 2) (zf (eV 0) 2)),(eV 1),(zb .Mod (eV 2) (zf (eV 0) 2))]))]
def kP:Fn:=fnW 3 0 Q9
@[reducible] def vd:List Ds:=[(zt (qY 1 [1,0] (.one 0) (KU (zf (eV 1) 12) (zf (eV 1) 13)) [] (z7 kP [(eV 2),(zf (eV 1) 11),(eV 0)])))]
def qG:Fn:=fnW 2 0 vd
@[reducible] def jy:List Ds:=[(zj 3 (z7 wZ [(eV 0),(eV 2)])),(sIf (tE (zr .Lt (eIx (eV 3) (eC (.int 1))) (eV 1))) [(zt (zb .Mult (eIx (eV 3) (eC (.int 0))) (zf (eV 0) 2)))] []),(sIf (tE (zr .Gt (eIx (eV 3) (eC (.int 1))) (eV 1))) [(zt (zb .Mult (zb .Add (eIx (eV 3) (eC (.int 0))) (eC (.int 1))) (zf (eV 0) 2)))] []),(zt (zb .Add (zb .Add (zb .Mult (eIx (eV 3) (eC (.int 0))) (zf (eV 0) 2)) (eIx (eV 3) (eC (.int 2)))) (eC (.int 1))))]
def wM:Fn:=fnW 3 1 jy
@[reducible] def kY:List Ds:=[(sIf (qM (wc (tE (z7 qm [(eV 2)])) (tE (z7 qm [(eV 3)])))) [(zQ 16 [(eC (.str "ahead and stride are whole numbers from 0 on"))])] []),(sIf (wc (tE (zr .IsNot (eV 5) (eC .non))) (qM (tE (z7 KG [(eV 1),(eV 5)])))) [(zQ 23 [(eC (.str "no note of the shape"))])] []),(qw (eV 0) 9 (eV 1)),(qw (eV 0) 14 (eV 2)),(qw (eV 0) 15 (eV 3)),(qw (eV 0) 16 (eV 4)),(qw (eV 0) 6 (eIf (tE (zr .Is (eV 5) (eC .non))) (eC .non) (eIx (eV 5) (eC (.int 0))))),(qw (eV 0) 17 (eIf (tE (zr .Is (eV 5) (eC .non))) (eC .non) (eIx (eV 5) (eC (.int 1))))),(qw (eV 0) 18 (eC .non)),(qw (eV 0) 19 (zR [])),(qw (eV 0) 20 (eC (.bl false)))]
def qN:Fn:=fnW 6 0 kY
@[reducible] def vf:List Ds:=[(sIf (tE (zf (eV 0) 20)) [(zQ 24 [(eC (.str "the house has fallen"))])] [])]
def qo:Fn:=fnW 1 0 vf
@[reducible] def kf:List Ds:=[(zt (zy [(zf (eV 0) 6),(zf (eV 0) 17)]))]
def vJ:Fn:=fnW 1 0 kf
@[reducible] def kQ:List Ds:=[(sIf (tE (zr .Eq (zy [(eV 1),(eV 2)]) (qd 45 vJ (eV 0) []))) [UB] []),(qw (eV 0) 20 (eC (.bl true))),(qb (z03 16 (eV 0) (zy [(eV 1),(eV 2)]))),(qw (eV 0) 20 (eC (.bl false))),(qw (eV 0) 6 (eV 1)),(qw (eV 0) 17 (eV 2))]
def wC:Fn:=fnW 3 0 kQ
@[reducible] def wo:List Ds:=[(qb (qd 45 qo (eV 0) [])),(qb (z7 q_ [(zf (eV 0) 9),(eV 1)])),(qb (qd 45 wC (eV 0) [(eV 1),(zf (eV 0) 17)]))]
def zZ:Fn:=fnW 2 0 wo
@[reducible] def qE:List Ds:=[(sIf (tE (zr .Is (zf (eV 0) 6) (eC .non))) [(zQ 18 [(eC (.str "the house has no lease"))])] [])]
def zE:Fn:=fnW 1 0 qE
@[reducible] def wb:List Ds:=[(sIf (tE (zr .IsNot (zf (eV 0) 18) (eC .non))) [(zt (z7 wM [(zf (eV 0) 9),(eIx (zf (eV 0) 6) (eC (.int 0))),(zf (eV 0) 18)]))] []),(sIf (tE (zr .IsNot (zf (eV 0) 17) (eC .non))) [(zt (zb .Mult (zb .Add (zf (eV 0) 17) (eC (.int 1))) (zf (zf (eV 0) 9) 2)))] []),(zt (eC (.int 0)))]
def qr:Fn:=fnW 1 0 wb
@[reducible] def qf:List Ds:=[(sIf (tOr (qM (tE (z7 qH [(eV 2)]))) (tE (zr .Gt (eV 2) (zf (zf (eV 0) 9) 2)))) [(zQ 20 [(eC (.str "so many are whole numbers from 1 on up to the shape's counts"))])] []),(sIf (qM (tE (z7 zY [(eV 1)]))) [(zQ 16 [(eC (.str "a reading is a whole number"))])] []),(qb (qd 45 zE (eV 0) [])),(zj 3 (zb .Mult (eB2 y0 (eIx (zf (eV 0) 6) (eC (.int 1))) (eV 1)) (zf (zf (eV 0) 9) 2))),(zj 4 (eB2 y0 (qd 45 qr (eV 0) []) (eV 3))),(zj 5 (zb .Add (eV 4) (eV 2))),(sIf (tE (zr .Gt (eV 5) (zb .Mult (eIx (zf (eV 0) 6) (eC (.int 2))) (zf (zf (eV 0) 9) 2)))) [(zQ 18 [(eC (.str "the lease has not so many names"))])] []),(zj 6 (zb .Sub (zb .FloorDiv (zb .Sub (eV 5) (eC (.int 1))) (zf (zf (eV 0) 9) 2)) (zb .Add (eV 1) (zf (eV 0) 14)))),(sIf (tE (zr .Gt (eV 6) (eC (.int 0)))) [(Qq 21 29 (eV 6))] []),(zt (eMk 44 jB [(eIx (zf (eV 0) 6) (eC (.int 0))),(eV 4),(eV 5)]))]
def zd:Fn:=fnW 3 4 qf
@[reducible] def qx:List Ds:=[(sIf (wc (tE (zr .IsNot (zf (eV 0) 17) (eC .non))) (tE (zr .LtE (eV 1) (zf (eV 0) 17)))) [(zt (zf (eV 0) 17))] []),(zt (eB2 Wy (zb .Add (eV 1) (zf (eV 0) 15)) (zb .Sub (zf (zf (eV 0) 9) 0) (eC (.int 1)))))]
def qi:Fn:=fnW 2 0 qx
@[reducible] def vi:List Ds:=[(qb (qd 45 qo (eV 0) [])),(zj 3 (qd 45 zd (eV 0) [(eV 1),(eV 2)])),(qb (qd 45 wC (eV 0) [(zf (eV 0) 6),(qd 45 qi (eV 0) [(zb .FloorDiv (zb .Sub (zf (eV 3) 13) (eC (.int 1))) (zf (zf (eV 0) 9) 2))])])),(qw (eV 0) 18 (z7 kP [(zf (eV 0) 9),(zf (eV 3) 11),(zb .Sub (zf (eV 3) 13) (eC (.int 1)))])),(zt (eV 3))]
def zO:Fn:=fnW 3 1 vi
@[reducible] def ye:List Ds:=[(zj 3 (qd 45 zO (eV 0) [(eV 1),(eV 2)])),(qw (eV 0) 19 (zR [])),(zt (z7 qG [(zf (eV 0) 9),(eV 3)]))]
def qq:Fn:=fnW 3 1 ye
end NH.P
namespace NH
open PySem PySem.Spec PyProof.Rows L2
abbrev z4T(ts:List T)(μ:Mem):RE T:=.som (intsOf ts) λns=>.ok (.int ns.sum) μ
abbrev z1W(t:T)(μ:Mem):RE T:=match t with
 |.lst ts=>z4T ts μ
 |.mut i=>λK Z=>∃ts,μ[i]?=some (.lst ts)/\z4T ts μ K Z
 |_=>.st
def z6g(i:Nat)(t:T)(μ:Mem)(zs:List T):Prop:=t=.lst zs\/∃j,t=.mut j/\j≠i/\μ[j]?=some (.lst zs)
abbrev Y7(o f:De):De:=λτ μ=>(o τ μ).bind λot μ1=>match ot with
 |.mut i=>λK Z=>(∃ts,μ1[i]?=some (.lst ts))/\f τ μ1 (λt μ2=>∃ts zs,μ2[i]?=some (.lst ts)/\z6g i t μ2 zs/\ts.length+zs.length<=room/\K .non (μ2.set i (.lst (ts++zs)))) Z
 |_=>.st
section
variable {X:Cx}{D:DP}{W:XW}{Γ:Cn}{k:Nat}{pins:List (Addr×Obj)}{s:Shared}{σ:St}{H:Hp}{φ α:List Addr}{τ:Sl}{μ:Mem}{f g:De}{fs:List De}{a b c:Expr}{pos:Pos}{es:List Expr}
theorem z66{A:z8V}{E:Value->z8k->Prop}{prog:z91}{w:z9c}{l:Addr}{vs:List Value}{ns:List Int}{Q:Value->z8k->Prop}(hh:A.handled=none)(hl:s.heap.IsList l vs.toArray)(hi:z9m vs ns)
  (h:∀h' tk t',(∀b o,s.heap.get? b=some o->h'.get? b=some o)->Q (.int ns.sum t') {s with heap:=h',toks:=tk}):z8t (z8u prog w) A (call (.builtin "sum") [.ref l]) Q E s:=by
 obtain⟨xs,hx⟩:=hi.allInts.items
 have hl':s.heap.IsList l (intItems xs):=hx▸hl
 refine sum_intListG hh hl' λh' tk t' hk=>?_
 have e1:ns=xs.toList.map (·.1):=by
  rw[←nums_intItems,←hx]
  exact (show numsOf vs.toArray.toList=ns from hi.numsOf).symm
 have e2:preSum (numAt xs) xs.size=ns.sum:=by
  rw[preSum_eq,zaA (by simp),e1]
 rw[e2]
 exact h h' tk t' hk
theorem z0i{ad:Addr}{xs:List T}{ws:List V}{Q:VK}(hc:X.calm=true)(I:Inv X pins σ H s)(mr:MRel D φ α H μ)(q:Rd H ad (.lst ws))(l:DenL D φ α H xs ws)(p:Post D W φ α H σ (RV D φ Q) (z4T xs μ)) :
  z8t (z8u X.prog X.w) X.A (call (.builtin "sum") [.ref ad]) (EP X pins σ Q) X.xe s:=by
 obtain⟨its,rv,pl,hz⟩:=I.list (.inl q)
 obtain⟨ns,hns,p⟩:=Post.som p
 have ey:=qR hns l
 subst ey
 refine z66 (I.ok.hd hc) pl.isList (intsAre_of rv) λh' tk t' kp=>?_
 exact⟨.int ns.sum,H,I.kept kp,⟨_,rfl⟩,Post.here p mr rfl⟩
theorem z67(hc:X.calm=true):B1 X D W (.builtin "sum") z1W:=by
 intro pins s σ H φ α μ t v u Q I mr d r p
 unfold z1W at p
 split at p
 ·obtain⟨ad,xs,rfl,_,_,q,l⟩:=d
  cases r
  exact z0i hc I mr q l p
 ·obtain⟨ts,hj,p⟩:=p.ex1
  obtain⟨ad,hi,rfl⟩:=d
  cases r
  obtain⟨xs,q,l⟩:=mr.ob _ ad _ hi hj
  exact z0i hc I mr (.inl q) l p
 ·exact p.elim
theorem JB:MtR X "list.extend" (λx vs H Q=>∃l b xs zs,x=.ref l/\vs=[.ref b]/\H l=some (.lst xs)/\Rd H b (.lst zs)/\xs.length+zs.length<=sizeLine/\Q .non (upd H l (.lst (xs++zs)))):=by
 intro pins s σ H x vs v us Q I rx rv h
 obtain⟨l,b,xs,zs,rfl,rfl,hH,hB,hz,q⟩:=h
 cases rx
 obtain⟨u,rfl,ru⟩:=vals1 rv
 cases ru
 obtain⟨z,its,n,r,hl,e⟩:=I.lstM hH
 obtain⟨z2,its2,n2,r2,e2⟩:=hB.ok I.hok
 have hl2:=r2.length
 have hsz:its.toArray.size+its2.toArray.size<=sizeLine:=by rw[z8A,z8A];omega
 have hlong:¬(!its.toArray.isEmpty&&zal (its.toArray.size+its2.toArray.size))=true:=by
  rw[WX hsz,zbY]
  exact z8H
 refine zbW F.slot_list_extend ⟨_,e,rfl⟩ F.entry_list_extend (F.args_list_extend_2 _ _)
  (AutoSeq1.list_extend_list_list_0 l its.toArray n b its2.toArray n2 hlong (by rw[z8A];omega) (by omega)) ⟨e,e2,?_⟩
 refine⟨.non,_,I.lset (its':=its++its2) hH e (by simp) (r.append r2) ?_,rfl,q⟩
 rw[z8Z]
 omega
theorem z5r{o:Expr}{pa pc:Pos}{go:De}(hp:qe o=true)(hs:noStar a=true)(hline:(pa.endLine == pc.line)=true)(ho:PE X o (rdE D W go))(ha:PE X a (rdE D W f)) :
  PE X (.Call (.Attribute o "extend" pa) [a] [] pc) (rdE D W (Y7 go f)):=by
 have hb:z96 [a] X.env=[(false,eval a X.env)]:=z6 hs
 refine PE.mono (Km zar PySem.F.slot_list_extend PySem.F.type_list_extend JB ho (zC ha qk (z6 hs)) (qz hp) (by rw[hb];rfl) hline (z6 hs) rfl) ?_
 rintro σ H Q ⟨φ,α,τ,μ,sr,mr,p⟩
 refine⟨φ,α,τ,μ,sr,mr,p.bind.mono λot μ1 α1 H1 st1 m1 q ov dv=>?_⟩
 split at q
 case h_2=>exact q.elim
 rename_i i
 obtain⟨K,Z,⟨⟨ts0,hμ0⟩,hf⟩,hk,hz⟩:=q
 obtain⟨x,hx,rfl⟩:=dv
 obtain⟨xs0,hH0,l0⟩:=m1.ob _ x _ hx hμ0
 refine⟨.inl ⟨rfl,_,.inl (.inl hH0)⟩,φ,α1,τ,μ1,sr.step st1,m1,_,Z,hf,?_,hz⟩
 rintro t μ2 ⟨ts,zs,hμ,hl,hr,q2⟩ α2 H2 st2 m2 v d
 obtain⟨β,e2,_⟩:=st2.ext
 have hx2:α2[i]?=some x:=by
  rw[e2,z8p (z8h.mp hx).1];exact hx
 obtain⟨xs,hH,l⟩:=m2.ob i x _ hx2 hμ
 have hv:∃y ws,v=.ref y/\Rd H2 y (.lst ws)/\DenL D φ α2 H2 zs ws:=by
  rcases hl with rfl|⟨j,rfl,hj,hμj⟩
  ·obtain⟨y,ws,rfl,_,_,r,dl⟩:=d
   exact⟨y,ws,rfl,r,dl⟩
  ·obtain⟨y,hy,rfl⟩:=d
   obtain⟨ws,hw,dl⟩:=m2.ob j y _ hy hμj
   exact⟨y,ws,rfl,.inl hw,dl⟩
 obtain⟨y,ws,rfl,hr2,dl⟩:=hv
 have st4:Stp α2 H2 α2 (upd H2 x (.lst (xs++ws))):=Stp.turn (z8F hx2) ⟨_,hH⟩
 have hi:i<μ2.length:=(z8h.mp hμ).1
 refine⟨x,y,xs,ws,rfl,rfl,hH,hr2,?_,?_⟩
 ·rw[←l.length,←dl.length];exact z8G hr (zB (z8n _))
 ·exact hk _ _ q2 α2 _ (st2.trans st4) (m2.turn hx2 hi st4 ⟨_,z8,(l.step st4).append (dl.step st4)⟩) .non rfl
end
def z6j:ER:=rB1 "sum" z1W true
theorem z16{D:DP}:EOk D z6j:=uD λC hx hg hc hs ha=>U4 C hx hg (by decide +kernel) (by decide) hs (z67 (C.clm (hc rfl))) ha
def z5b:ER:=λr Γ e=>match e with
 |.Call (.Attribute o m pa) [a] [] pc=>gd (m == ("extend":Str)&&qe o&&noStar a&&pa.endLine == pc.line) ((r.e Γ o).bind λgo=>(r.e Γ a).bind λf=>some (Y7 go f))
 |_=>none
theorem z2p{D:DP}:EOk D z5b:=by
 intro r H X W Γ k e d C h
 unfold z5b at h
 split at h
 ·obtain⟨hb,h1⟩:=zx h
  clear h
  simp only[z8j] at hb
  obtain⟨⟨⟨h0,h2⟩,h3⟩,h4⟩:=hb
  have h0:=beq_iff_eq.mp h0
  subst h0
  obtain⟨go,e1,h1⟩:=bnd h1
  obtain⟨f,e2,h1⟩:=bnd h1
  cases h1
  exact z5r h2 h3 h4 (H.e C e1) (H.e C e2)
 ·cases h
end NH
namespace NH.P
open PySem L2 NH
@[reducible] def y9:List Ds:=[(zt (eB1 z1W (qY 1 [] (.one 0) (iE (eV 0)) [] (zb .Sub (zf (eV 0) 13) (zf (eV 0) 12)))))]
def ZI:Fn:=fnW 1 0 y9
@[reducible] def vN:List Ds:=[(zj 3 (qd 45 zO (eV 0) [(eV 1),(eV 2)])),(qb (Xy (zf (eV 0) 19) (eV 3))),(zt (z7 ZI [(zf (eV 0) 19)]))]
def wY:Fn:=fnW 3 1 vN
end NH.P
namespace NH
open PySem PySem.Spec PyProof.Rows L2
abbrev z7M(x y:T)(μ:Mem):RE T:=match x,y with
 |.lst xs,.int k=>.grd (0<=k/\k<1000000/\xs.length * k.toNat<=room) (.ok (.lst (z8P k.toNat xs).flatten) μ)
 |_,_=>.st
abbrev z4p(f g:De):De:=λτ μ=>(f τ μ).bind λx μ1=>(g τ μ1).bind λy μ2=>z7M x y μ2
section
variable {X:Cx}{D:DP}{W:XW}{Γ:Cn}{k:Nat}{pins:List (Addr×Obj)}{s:Shared}{σ:St}{H:Hp}{φ α:List Addr}{τ:Sl}{μ:Mem}{f g:De}{a b:Expr}{pos:Pos}
theorem z20:OpR X (za1 .Mult) (λx y H Q=>∃l k xs,x=.ref l/\y=.int k/\Rd H l (.lst xs) /\ -(2 ^ 63)<=k/\k<2 ^ 63/\xs.length * k.toNat<=sizeLine/\
 ∀p,H p=none->Q (.ref p) (upd H p (.lst (z8P k.toNat xs).flatten))):=by
 intro pins s σ H x y v u Q I rx ry h
 obtain⟨l,k,xs,rfl,rfl,hH,h1,h2,hz,q⟩:=h
 cases rx
 obtain⟨t,rfl⟩:=ry
 obtain⟨z,its,n,r,e⟩:=hH.ok I.hok
 have hl:=r.length
 have hlen:its.toArray.size * k.toNat<=sizeLine:=by rw[z8A,←hl];exact hz
 have hcap:¬its.toArray.size * k.toNat > (2 ^ 63-1) / 8:=by
  have:(sizeLine:Nat)<=(2 ^ 63-1) / 8:=by decide
  omega
 have hfit:¬(!Builtin.List.listFitsIndex k)=true:=by
  rw[fitsIndex_both h1 h2]
  exact z8H
 have hlong:¬zal (its.toArray.size * k.toNat)=true:=by
  rw[WX hlen]
  exact z8H
 have hnew:zf7 (λx1 x2=>x1++x2) #[] (z8P (if its.toArray.isEmpty=true then 0 else k.toNat) its.toArray)=(z8P k.toNat its).flatten.toArray:=by
  have f0:∀m:Nat,zf7 (λx1 x2=>x1++x2) #[] (z8P m its.toArray)=(z8P m its).flatten.toArray:=λm=>by
   have:=foldl_rep its m []
   rw[zcW] at this
   exact this
  rw[f0]
  cases its with
  |nil=>simp
  |cons a r'=>rw[if_neg (by simp)]
 refine wpAny_binaryOp_repeat_ref (T:="list") (U:="int") (by decide) ⟨_,e,rfl⟩ (λs'=>zf6 s' k t) noFill_list_mul F.fills_int_mul zeQ repeat_list F.slot_int_index.lookup
  (zbW zeQ (zf6 s k t) F.entry_int_rmul (F.args_int_rmul_2 _ _) (int___rmul___int_list k t l its.toArray n)
   ⟨e,rfl,⟨_,e,rfl⟩,zbW F.slot_list_mul ⟨_,e,rfl⟩ F.entry_list_mul (F.args_list_mul_2 _ _) (AutoListH.list___mul___list_int_3 l its.toArray n k t hfit hcap hlong) ⟨e,?_⟩⟩)
 rw[hnew]
 exact⟨.ref _,_,I.lnew (t':=s.toks) (r.rep k.toNat) (by rw[len_rep,Nat.mul_comm];exact hz),rfl,q _ I.fresh⟩
theorem Vn{ts:List T}{ws:List V}(l:DenL D φ α H ts ws):∀m:Nat,DenL D φ α H (z8P m ts).flatten (z8P m ws).flatten
 |0=>rfl
 |m+1=>by
  rw[z9A,z9A,zad,zad]
  exact l.append (Vn l m)
theorem z5Y(ha:PE X a (rdE D W f))(hb:PE X b (rdE D W g)):PE X (.BinOp a .Mult b pos) (rdE D W (z4p f g)):=by
 rintro pins s σ H Q I ⟨φ,α,τ,μ,sr,mr,p⟩
 refine wpAny_BinOp (thn (sub ha I sr mr p) ?_)
 rintro u s1 ⟨v,H1,t,μ1,α1,I1,r1,st1,sr1,mr1,d1,p1⟩
 refine thn (sub hb I1 sr1 mr1 p1) ?_
 rintro u' s2 ⟨v',H2,t',μ2,α2,I2,r2,st2,sr2,mr2,d2,p2⟩
 have d1:=d1.step st2
 cases t with
 |lst xs=>
  cases t' with
  |int kk=>
   obtain⟨⟨h0,h1,h2⟩,p3⟩:=Post.grd (c:=0<=kk/\kk<1000000/\xs.length * kk.toNat<=room) (r:=RE.ok (T.lst (z8P kk.toNat xs).flatten) μ2) p2
   obtain⟨l,ws,rfl,n1,n2,hr,dl⟩:=d1
   cases (show v'=V.int kk from d2)
   refine z20 pins s2 σ H2 _ _ _ _ Q I2 r1 r2 ⟨l,kk,ws,rfl,rfl,hr,by omega,by omega,?_,λp hp=>?_⟩
   ·rw[←dl.length];exact zB h2
   ·exact Post.fresh p3 mr2 (zh hp) ⟨p,_,rfl,zv mr2 hp,zu mr2 hp,.inl z8,(Vn dl _).step (Stp.new (zh hp))⟩
  |_=>exact Post.elim p2
 |_=>exact Post.elim p2
end
def Uc:ER:=λr Γ e=>match e with
 |.BinOp (.List es p) .Mult b _=>(r.e Γ (.List es p)).bind λf=>(r.e Γ b).bind λg=>some (z4p f g)
 |_=>none
theorem YV{D:DP}:EOk D Uc:=by
 intro r H X W Γ k e d C h
 unfold Uc at h
 split at h
 ·obtain⟨f,h1,h⟩:=bnd h
  obtain⟨g,h2,h⟩:=bnd h
  cases h
  exact z5Y (H.e C h1) (H.e C h2)
 ·cases h
noncomputable def lexLe:List Int->List Int->Bool
 |[],[]=>true
 |[],_::_=>true
 |_::_,[]=>false
 |x::xs,y::ys=>if x=y then lexLe xs ys else decide (x<=y)
theorem VQ(x y:Int)(xs ys:List Int):lexLe (x::xs) (y::ys)=if x=y then lexLe xs ys else decide (x<=y):=rfl
theorem Zy:lexLe [] []=true:=rfl
theorem uS(y:Int)(ys:List Int):lexLe [] (y::ys)=true:=rfl
theorem uR(x:Int)(xs:List Int):lexLe (x::xs) []=false:=rfl
theorem z0w(A:z8V)(s:z8k)(a:Int)(t:Tok)(c:Int)(u:Tok)(prog:z91)(w:z9c)(E:Value->z8k->Prop)(Q:Value->z8k->Prop)(h:Q (.bool (decide (a<=c))) s) :
  z8t (z8u prog w) A (richCompare .LtE (.int a t) (.int c u)) Q E s:=
 (zg4 h:z8t (z8u prog w) A (z94 .LtE (.int a t) (.int c u)) Q E s)
section
open PySem.SeqAt
open PySem.AutoSeq1 (wpAny_loadPart')
open PySem.MeetsSeq PySem.MeetsSeq2 PySem.MeetsSeq3
theorem Za(l b:Addr)(items items2:Array Value)(n n2:Nat)(dd dd2:Option Addr)(sl sl2:Array (Option Value))(ns ms:List Int)(hi:z9m items.toList ns)(hj:z9m items2.toList ms) :
  Meets (zdg.«tuple.__le__» ⟨[.ref l,.ref b],[]⟩)
   (λ_ R s=>s.heap.get? l=some {cls:=.type "tuple",dict:=dd,data:=.seq items n,slots:=sl}/\s.heap.get? b=some {cls:=.type "tuple",dict:=dd2,data:=.seq items2 n2,slots:=sl2}/\
    R (.ok (.ret (.bool (lexLe ns ms)))) s):=
 .of_wp λprog w A R s h=>by
  obtain⟨hp,g,d,tk,os⟩:=s;obtain⟨hl,hb,h⟩:=h
  have f2:=zcj
  have z1:items.size=ns.length:=by rw[←hi.length];simp
  have z2:items2.size=ms.length:=by rw[←hj.length];simp
  wp_walk using zbC hl,zbC hb,zeu _ (λrest b s'=>b.1=none/\s'=⟨hp,g,d,tk,os⟩/\∃(vs ws:List Value) (ns' ms':List Int),rest=vs.zip ws/\
   z9m vs ns'/\z9m ws ms'/\ns'.length+items2.size=ms'.length+items.size/\R (.ok (.ret (.bool (lexLe ns' ms')))) ⟨hp,g,d,tk,os⟩) _
  case turn=>
   rintro⟨y,x⟩ rest b s' ⟨hb',rfl,vs,ws,ns',ms',hz,hvi,hwi,hlen,hR⟩
   cases hvi with
   |nil=>rw[zdX] at hz;cases hz
   |cons a t hvi'=>
    cases hwi with
    |nil=>rw[zdC] at hz;cases hz
    |cons c u hwi'=>
     rw[zb6] at hz
     injection hz with hyx hrest
     injection hyx with hy hx
     subst hy hx
     rw[VQ] at hR
     simp only[z8L] at hlen
     obtain⟨e,he,hiff⟩:=HT.eqAt_int A.in1 ⟨hp,g,d,tk,os⟩ a t c u
     refine z8g (he prog w _ _ ?_)
     cases e with
     |true=>
      rw[if_pos (hiff.mp rfl)] at hR
      wp_walk
      exact⟨rfl,rfl,_,_,_,_,hrest,hvi',hwi',by omega,hR⟩
     |false=>
      rw[if_neg (λq=>absurd (hiff.mpr q) z8H)] at hR
      have hri:=z0w A.in1 ⟨hp,g,d,tk,os⟩ a t c u prog w
      wp_walk using hri
      exact⟨_,rfl,by simpa using hR⟩
  case fin=>
   rintro⟨b1,b2⟩ s' ⟨hb',rfl,vs,ws,ns',ms',hz,hvi,hwi,hlen,hR⟩
   simp only at hb'
   subst hb'
   have hv:lexLe ns' ms'=decide (items.size<=items2.size):=by
    cases hvi with
    |nil=>
     cases hwi with
     |nil=>
      simp only[z9B] at hlen
      rw[Zy]
      exact (decide_eq_true (by omega)).symm
     |cons c u hw=>
      simp only[z9B,z8L] at hlen
      rw[uS]
      exact (decide_eq_true (by omega)).symm
    |cons a t hv=>
     cases hwi with
     |nil=>
      simp only[z9B,z8L] at hlen
      rw[uR]
      exact (decide_eq_false (by omega)).symm
     |cons c u hw=>
      rw[zb6] at hz
      cases hz
   rw[hv] at hR
   wp_walk
   exact⟨_,rfl,by simpa[zbm] using hR⟩
  case h=>
   exact⟨rfl,rfl,items.toList,items2.toList,ns,ms,rfl,hi,hj,by omega,h⟩
end
theorem Jr{prog:z91}{w:z9c}{A:z8V}{E:Value->z8k->Prop}{s:z8k}{l b:Addr}{items items2:Array Value}{ns ms:List Int}{Q:Value->z8k->Prop}(hl:zdO s.heap l items)(hb:zdO s.heap b items2)(hi:z9m items.toList ns)(hj:z9m items2.toList ms)
  (hu:A.units<cLine) (h:Q (.bool (lexLe ns ms)) s):z8t (z8u prog w) A (z94 .LtE (.ref l) (.ref b)) Q E s:=by
 obtain⟨⟨cls,dd,data,sl⟩,ho,hc,n,hd⟩:=id hl
 obtain⟨⟨cls2,dd2,data2,sl2⟩,ho2,hc2,n2,hd2⟩:=id hb
 simp only at hc hd hc2 hd2
 subst hc hd hc2 hd2
 exact zcK (op:=.LtE) ⟨_,ho,rfl⟩ ⟨_,ho2,rfl⟩ PySem.F.slot_tuple_le PySem.F.entry_tuple_le (PySem.F.args_tuple_le_2 _ _) (Za l b items items2 n n2 dd dd2 sl sl2 ns ms hi hj)
  ⟨ho,ho2,show zau (lexLe ns ms)≠zd6/\Q (.bool (lexLe ns ms)) s from ⟨(λx=>nomatch x),h⟩⟩ hu
abbrev leT(x y:T)(μ:Mem):RE T:=match x,y with
 |.tup xs,.tup ys=>λK _=>∃ns ms,intsOf xs=some ns/\intsOf ys=some ms/\K (.bl (lexLe ns ms)) μ
 |_,_=>.st
abbrev xq(x y:T)(μ:Mem):RE T:=match y with
 |.mut i=>(match x with
  |.str z=>λK _=>∃kvs,μ[i]?=some (MO.dic kvs)/\K (.bl (!(zi (.inr z) kvs).isSome)) μ
  |_=>.st)
 |_=>.st
abbrev Xf(x y:T)(μ:Mem):RE T:=match x,y with
 |.mut i,.str z=>λK _=>∃kvs v,μ[i]?=some (MO.dic kvs)/\zi (.inr z) kvs=some v/\K v μ
 |_,_=>.st
noncomputable def siT:T->Option (Str×Int)
 |.tup [.str a,.int n]=>some (a,n)
 |_=>none
abbrev K2(x y:T)(μ:Mem):RE T:=match y with
 |.tup ys=>λK _=>∃a,siT x=some a/\(∀t∈ys,(siT t).isSome=true)/\K (.bl (ys.any λt=>decide (siT t=some a))) μ
 |_=>.st
abbrev eC2(op:T->T->Mem->RE T)(f g:De):De:=λτ μ=>(f τ μ).bind λx μ1=>(g τ μ1).bind λy μ2=>op x y μ2
def yY(h:Heap):Value->Option (Str×Int)
 |.ref a=>(h.get? a).bind λo=>(match o.data with|.seq its _=>(match its.toList with | [.str z _,.int n _]=>some (z,n)|_=>none)|_=>none)
 |_=>none
section
variable {X:Cx}{D:DP}{W:XW}{Γ:Cn}{k:Nat}{pins:List (Addr×Obj)}{s:Shared}{σ:St}{H:Hp}{φ α:List Addr}{τ:Sl}{μ:Mem}{f g:De}{a b:Expr}{pos:Pos}
def OpC (X:Cx)(D:DP)(W:XW)(op:z9V)(r:T->T->Mem->RE T):Prop:=
 ∀(pins:List (Addr×Obj)) (s:z8k) (σ:St) (H:Hp) (φ α:List Addr) (μ:Mem) (x y:T) (v w:V) (u1 u2:Value) (Q:VK),Inv X pins σ H s->MRel D φ α H μ->Den D φ α H x v->Den D φ α H y w->RelV v u1->RelV w u2->Post D W φ α H σ (RV D φ Q) (r x y μ)->
  z8t (z8u X.prog X.w) X.A (z94 op u1 u2) (EP X pins σ Q) X.xe s
theorem z7d{op:z9V}{r:T->T->Mem->RE T}(h:OpC X D W op r)(ho:vc op b=true)(ha:PE X a (rdE D W f))(hb:PE X b (rdE D W g)):PE X (.Compare a [op] [b] pos) (rdE D W (eC2 r f g)):=by
 rintro pins s σ H Q I ⟨φ,α,τ,μ,sr,mr,p⟩
 refine zd8 (thn (sub ha I sr mr p) ?_) (je ho)
 rintro u s1 ⟨v,H1,t,μ1,α1,I1,r1,st1,sr1,mr1,d1,p1⟩
 refine thn (sub hb I1 sr1 mr1 p1) ?_
 rintro u' s2 ⟨v',H2,t',μ2,α2,I2,r2,st2,sr2,mr2,d2,p2⟩
 exact h pins s2 σ H2 φ α2 μ2 t t' v v' u u' Q I2 mr2 (d1.step st2) d2 r1 r2 p2
theorem z0s{op:z9V}{r:T->T->Mem->RE T}(h:OpC X D W op r)(ho:vc op b=true)(ha:PE X a (rdE D W f))(hb:PE X b (rdE D W g)):PT X (.Compare a [op] [b] pos) (rdT D W (tE (eC2 r f g))):=by
 rintro pins s σ H Q I ⟨φ,α,τ,μ,sr,mr,p⟩
 have p:Post D W φ α H σ (λb _ _ H'=>Q b H') ((f τ μ).bind λx μ1=>(g τ μ1).bind λy μ2=>(r x y μ2).bind k8):=p
 refine zbn (thn (sub ha I sr mr p) ?_) (je ho)
 rintro u s1 ⟨v,H1,t,μ1,α1,I1,r1,st1,sr1,mr1,d1,p1⟩
 refine thn (sub hb I1 sr1 mr1 p1) ?_
 rintro u' s2 ⟨v',H2,t',μ2,α2,I2,r2,st2,sr2,mr2,d2,p2⟩
 refine thn (h pins s2 σ H2 φ α2 μ2 t t' v v' u u' (λz H1=>∃t μ1 α1,Stp α2 H2 α1 H1/\MRel D φ α1 H1 μ1/\Den D φ α1 H1 t z/\Post D W φ α1 H1 σ (λb _ _ H'=>Q b H') (k8 t μ1)) I2 mr2 (d1.step st2) d2 r1 r2 (p2.bind.mono λt μ' α' H' st m q v d=>⟨t,μ',α',st,m,d,q⟩)) ?_
 rintro d s3 ⟨z,H3,I3,r3,t3,μ3,α3,st3,mr3,d3,p3⟩
 unfold k8 at p3
 split at p3
 ·cases d3
  cases r3
  exact z8X ⟨H3,I3,p3.ok (Stp.refl _ _) mr3⟩
 ·exact p3.elim
theorem z7J(hu:X.A.units+64<cLine):OpC X D W .LtE leT:=by
 intro pins s σ H φ α μ x y v w u1 u2 Q I mr d1 d2 r1 r2 p
 unfold leT at p
 split at p
 ·obtain⟨K0,Z0,⟨ns,ms,h1,h2,p⟩,k1,k2⟩:=p
  obtain⟨a1,ws1,rfl,_,_,rd1,l1⟩:=d1
  obtain⟨a2,ws2,rfl,_,_,rd2,l2⟩:=d2
  cases r1;cases r2
  have e1:=qR h1 l1
  have e2:=qR h2 l2
  subst e1 e2
  obtain⟨i1,v1,p1,_⟩:=I.tuple (.inl rd1)
  obtain⟨i2,v2,p2,_⟩:=I.tuple (.inl rd2)
  exact Jr p1 p2 (by simpa using intsAre_of v1) (by simpa using intsAre_of v2) (by omega) ⟨.bl _,H,I,rfl,k1 _ _ p α H (Stp.refl _ _) mr _ rfl⟩
 ·exact p.elim
theorem z1O(hu:X.A.units+64<cLine):OpC X D W .NotIn xq:=by
 intro pins s σ H φ α μ x y v w u1 u2 Q I mr d1 d2 r1 r2 p
 unfold xq at p
 split at p
 ·split at p
  ·rename_i i _ z
   obtain⟨K0,Z0,⟨kvs,hi,p⟩,k1,k2⟩:=p
   have d1:v=.str z:=d1
   obtain⟨ad,ha,rfl⟩:=d2
   cases r2
   obtain⟨gs,hH,l⟩:=mr.ob i ad _ ha hi
   subst d1
   refine z2d (by omega) I (DGet.k (k:=.inr z) hH) r1 λs' I'=>⟨.bl (!(ji gs (.inr z)).isSome),H,I',rfl,?_⟩
   rw[ue l]
   exact k1 _ _ p α H (Stp.refl _ _) mr _ rfl
  ·exact p.elim
 ·exact p.elim
theorem JN{t:T}{a:Str×Int}(h:siT t=some a):t=.tup [.str a.1,.int a.2]:=by
 unfold siT at h
 split at h
 ·cases h;rfl
 ·cases h
theorem Yj{t:T}{v:V}{u:Value}{a:Str×Int}(I:Inv X pins σ H s)(h:siT t=some a)(d:Den D φ α H t v)(r:RelV v u):yY s.heap u=some a:=by
 have e:=JN h
 subst e
 obtain⟨c,xs,rfl,_,_,rd,l⟩:=d
 cases r
 obtain⟨its,rv,⟨o,ho,_,n,hd⟩,_⟩:=I.tuple (.inl rd)
 obtain⟨v1,q1,rfl,d1,v2,q2,rfl,d2,l3⟩:=l
 have l3:q2=[]:=l3
 have d1:v1=.str a.1:=d1
 have d2:v2=.int a.2:=d2
 subst l3 d1 d2
 cases rv with
 |cons r1 rv=>
  cases rv with
  |cons r2 rv=>
   cases rv
   obtain⟨t1,rfl⟩:=r1
   obtain⟨t2,rfl⟩:=r2
   unfold yY
   simp only[ho,zaV,hd]
theorem z45{a b:Str×Int}:eqL [.str a.1,.int a.2] [.str b.1,.int b.2]=some (decide (a=b)):=by
 have h1:(a.1 == b.1)=decide (a.1=b.1):=by by_cases z:a.1=b.1<;>simp[z]
 have h2:(a.2 == b.2)=decide (a.2=b.2):=by by_cases z:a.2=b.2<;>simp[z]
 have h3:decide (a=b)=(decide (a.1=b.1)&&decide (a.2=b.2)):=by
  rw[←zeR];exact decide_eq_decide.mpr Prod.ext_iff
 simp[eqL,eqT,h1,h2,h3]
theorem z4V(hu:X.A.units+64<cLine):OpC X D W .In K2:=by
 intro pins s σ H φ α μ x y v w u1 u2 Q I mr d1 d2 r1 r2 p
 unfold K2 at p
 split at p
 ·rename_i ys
  obtain⟨K0,Z0,⟨a0,ha,hy,p⟩,k1,k2⟩:=p
  obtain⟨ad,vs,rfl,_,_,rd,l⟩:=d2
  cases r2
  obtain⟨its,rv,pl,_⟩:=I.tuple (.inl rd)
  have e1:=JN ha
  have each:∀(ys:List T) (vs:List V) (its:List Value),DenL D φ α H ys vs->Vals vs its->(∀t∈ys,(siT t).isSome=true)->(∀w∈its,za4 X.A.in1 s w u1 (decide (yY s.heap w=some a0)))/\its.any (λw=>decide (yY s.heap w=some a0))=ys.any λt=>decide (siT t=some a0):=by
   intro ys
   induction ys with
   |nil=>intro vs its l rv _;cases l;cases rv;exact⟨by simp,rfl⟩
   |cons t r ih=>
    intro vs its l rv hy
    obtain⟨v',q',rfl,d,l⟩:=l
    cases rv with
    | @cons _ u0 _ us0 r0 rv=>
    obtain⟨h1,h2⟩:=ih _ _ l rv λt ht=>hy t (z8y _ ht)
    obtain⟨ns,hns⟩:=zaj.mp (hy t z8M)
    have e3:=Yj I hns d r0
    have e4:=JN hns
    refine⟨λw hw=>?_,?_⟩
    ·rcases z8T.mp hw with rfl|hw
     ·rw[e3]
      refine X5 I d d1 r0 r1 ?_ ?_
      ·rw[e4,e1]
       show eqL [.str ns.1,.int ns.2] [.str a0.1,.int a0.2]=_
       rw[z45]
       simp
      ·rw[e4,in1_units]
       show X.A.units+1+(qL [.str ns.1,.int ns.2]+1)+1<cLine
       have:qL [T.str ns.1,.int ns.2]=0:=rfl
       omega
     ·exact h1 w hw
    ·rw[z9Y,z9Y,h2,e3,hns]
  obtain⟨h1,h2⟩:=each ys vs its l rv hy
  refine SeqAt.in_tupleAt (items:=its.toArray) (λw=>decide (yY s.heap w=some a0)) pl (λw hw=>h1 w (by simpa using hw)) ⟨.bl _,H,I,rfl,?_⟩
  rw[show its.toArray.any (λw=>decide (yY s.heap w=some a0))=its.any (λw=>decide (yY s.heap w=some a0)) by simp,h2]
  exact k1 _ _ p α H (Stp.refl _ _) mr _ rfl
 ·exact p.elim
theorem WK{z:Key}{t:T}:∀{kvs:List (Key×T)} {gs:List (Key×V)},DenK D φ α H kvs gs->zi z kvs=some t->∃v,ji gs z=some v/\Den D φ α H t v
 |[],_,h,e=>by cases e
 |p::r,_,h,e=>by
  obtain⟨v,q,rfl,d,l⟩:=h
  unfold zi at e
  by_cases e1:p.1=z
  ·rw[if_pos e1] at e
   cases e
   exact⟨v,by rw[vt (p:=(p.1,v)) e1],d⟩
  ·rw[if_neg e1] at e
   obtain⟨v2,h1,h2⟩:=WK l e
   exact⟨v2,by rw[vp (p:=(p.1,v)) e1];exact h1,h2⟩
theorem z3c(C:Ck D W Γ X k)(hs:z28 b)(ha:PE X a (rdE D W f))(hb:PE X b (rdE D W g)):PE X (.Subscript a b pos) (rdE D W (eC2 Xf f g)):=by
 refine PE.mono (z0S (by have:=C.unt;omega) ha hb hs) ?_
 rintro σ H Q ⟨φ,α,τ,μ,sr,mr,p⟩
 refine⟨φ,α,τ,μ,sr,mr,p.bind.mono λx μ1 α1 H1 st1 m1 q v d=>?_⟩
 refine⟨φ,α1,τ,μ1,sr.step st1,m1,q.bind.mono λy μ2 α2 H2 st2 m2 q2 w dw=>?_⟩
 unfold Xf at q2
 split at q2
 ·rename_i i z
  obtain⟨K0,Z0,⟨kvs,t,hi,hl,q3⟩,k1,k2⟩:=q2
  obtain⟨ad,ha,rfl⟩:=d.step st2
  obtain⟨gs,hH,l⟩:=m2.ob i ad _ ha hi
  obtain⟨tv,h1,h2⟩:=WK l hl
  have dw:w=.str z:=dw
  subst dw
  refine⟨ad,tv,rfl,?_,k1 _ _ q3 α2 H2 (Stp.refl _ _) m2 _ h2⟩
  have:=DGet.k (k:=.inr z) hH
  rw[h1] at this
  exact this
 ·exact q2.elim
end
noncomputable def isKey(b:Expr):Bool:=match b with
 |.Name x _=>x == ("holder":Str) || x == ("_law_holder":Str)
 |_=>false
theorem XQ{b:Expr}(h:isKey b=true):z28 b:=by
 unfold isKey at h
 split at h
 ·exact λov iv=>rfl
 ·cases h
def z5l:ER:=λr Γ e=>match e with
 |.Subscript a b _=>gd (isKey b) ((r.e Γ a).bind λf=>(r.e Γ b).bind λg=>some (eC2 Xf f g))
 |_=>none
theorem z1F{D:DP}:EOk D z5l:=by
 intro r H X W Γ k e d C h
 unfold z5l at h
 split at h
 ·obtain⟨hb,h1⟩:=zx h
  obtain⟨f,e1,h1⟩:=bnd h1
  obtain⟨g,e2,h1⟩:=bnd h1
  cases h1
  exact z3c C (XQ hb) (H.e C e1) (H.e C e2)
 ·cases h
noncomputable def JE(a:Expr):Bool:=match a with
 |.Tuple _ _ _=>true
 |_=>false
def z2w (Γ:Cn)(a:Expr)(op:z9V)(b:Expr):Option (T->T->Mem->RE T):=match op with
 |.LtE=>gd (JE a) (some leT)
 |.NotIn=>gd (UC Γ b) (some xq)
 |.In=>gd (JE a&&JE b) (some K2)
 |_=>none
theorem z2E{X:Cx}{D:DP}{W:XW}{Γ:Cn}{k:Nat}(C:Ck D W Γ X k){a b:Expr}{op:z9V}{r:T->T->Mem->RE T}(h:z2w Γ a op b=some r):OpC X D W op r:=by
 unfold z2w at h
 split at h
 ·obtain⟨_,h⟩:=zx h;cases h;exact z7J C.unt
 ·obtain⟨_,h⟩:=zx h;cases h;exact z1O C.unt
 ·obtain⟨_,h⟩:=zx h;cases h;exact z4V C.unt
 ·cases h
def rC2:ER:=λr Γ e=>match e with
 |.Compare a [op] [b] _=>(z2w Γ a op b).bind λc=>gd (vc op b) ((r.e Γ a).bind λf=>(r.e Γ b).bind λg=>some (eC2 c f g))
 |_=>none
theorem z3A{D:DP}:EOk D rC2:=by
 intro r H X W Γ k e d C h
 unfold rC2 at h
 split at h
 ·obtain⟨c,hc,h⟩:=bnd h
  obtain⟨hb,h1⟩:=zx h
  obtain⟨f,e1,h1⟩:=bnd h1
  obtain⟨g,e2,h1⟩:=bnd h1
  cases h1
  exact z7d (z2E C hc) hb (H.e C e1) (H.e C e2)
 ·cases h
def z52:TR:=λr Γ e=>match e with
 |.Compare a [op] [b] _=>(z2w Γ a op b).bind λc=>gd (vc op b) ((r.e Γ a).bind λf=>(r.e Γ b).bind λg=>some (tE (eC2 c f g)))
 |_=>none
theorem z0T{D:DP}:TOk D z52:=by
 intro r H X W Γ k e d C h
 unfold z52 at h
 split at h
 ·obtain⟨c,hc,h⟩:=bnd h
  obtain⟨hb,h1⟩:=zx h
  obtain⟨f,e1,h1⟩:=bnd h1
  obtain⟨g,e2,h1⟩:=bnd h1
  cases h1
  exact z0s (z2E C hc) hb (H.e C e1) (H.e C e2)
 ·cases h
end NH
namespace NH.P
open PySem L2 NH
@[reducible] def Wz:List Ds:=[(zt (eC .non))]
def forget:Fn:=fnW 1 0 Wz
@[reducible] def kD:List Ds:=[(sIf (tOr (qM (tE (vL [4] (eV 0)))) (tOr (tE (zr .Eq (eB1 yi (eV 0)) (eC (.int 0)))) (qM (tE (vL [3] (eIx (eV 0) (eC (.int 0)))))))) [(zt (eC (.bl false)))] []),(zt (eC2 K2 (zy [(eIx (eV 0) (eC (.int 0))),(eB1 yi (eV 0))]) (zy [(zy [(eC (.str "lease")),(eC (.int 5))]),(zy [(eC (.str "ask")),(eC (.int 4))])])))]
def zk:Fn:=fnW 1 0 kD
@[reducible] def vV:List Ds:=[(zt (Jl (vL [5] (eV 0)) (eB1 Up (qY 1 [] (.one 0) (iE (eV 0)) [] (z7 zk [(eV 0)])))))]
def zI:Fn:=fnW 1 0 vV
@[reducible] def ur:List Ds:=[(sIf (qM (tE (z7 qt [(eV 2)]))) [(zQ 17 [(eC (.str "a holder is a text of one to eight small letters"))])] []),(sIf (tE (eC2 xq (eV 2) (eV 0))) [(ya (eV 0) (eV 2) (z3x 45 qN [(eV 1),(eC (.int 0)),(eC (.int 0)),(eC (.clo 1 []))]))] []),(zt (eC2 Xf (eV 0) (eV 2)))]
def wm:Fn:=fnW 3 0 ur
@[reducible] def WR:List Ds:=[(sIf (qM (tE (z7 zI [(eV 1)]))) [(zQ 25 [(eC (.str "no list of rows of a run"))])] []),(zj 2 (VP 43 ql [(eV 0)])),(zj 3 Qi),(zj 4 (Y3 [])),(QR (.one 5) (iE (eV 1)) [(zj 6 (eIx (eV 5) (eC (.int 1)))),(zj 7 (z7 wm [(eV 3),(eV 0),(eV 6)])),(sIf (tE (zr .Eq (eIx (eV 5) (eC (.int 0))) (eC (.str "lease")))) [(qb (qd 45 zZ (eV 7) [(qd 43 zw (eV 2) [(eV 6),(eIx (eV 5) (eC (.int 2))),(eIx (eV 5) (eC (.int 3))),(eIx (eV 5) (eC (.int 4)))])]))] [(qb (Y7 (eV 4) (qY 1 [6] (.one 0) (iE (qd 45 qq (eV 7) [(eIx (eV 5) (eC (.int 2))),(eIx (eV 5) (eC (.int 3)))])) [] (zy [(eV 1),(eV 0)]))))])]),(zt (eV 4))]
def qO:Fn:=fnW 2 6 WR
@[reducible] def jo:List Ds:=[(zj 1 (eIx (zR [(eC (.int 0)),(z7 WE [(eV 0),(eC (.int 40)),(eC (.int 1000))]),(z7 WE [(eV 0),(eC (.int 50)),(zb .Pow (eC (.int 10)) (eC (.int 36)))])]) (zb .Mod (z7 zm [(eV 0),(eC (.int 39))]) (eC (.int 3))))),(zj 2 (zb .Add (eC (.int 1)) (zb .Mod (z7 zm [(eV 0),(eC (.int 1))]) (eC (.int 20))))),(zt (zy [(eMk 40 vK [(zb .Add (eV 1) (eV 2)),(zb .Add (eC (.int 1)) (zb .Mod (z7 zm [(eV 0),(eC (.int 2))]) (eC (.int 4)))),(zb .Add (eC (.int 1)) (zb .Mod (z7 zm [(eV 0),(eC (.int 3))]) (eC (.int 20))))]),(eV 1),(eV 2)]))]
def wQ:Fn:=fnW 1 2 jo
@[reducible] def qV:List Ds:=[(zj 5 (eIx (zR [(eC .non),(zb .Mod (z7 zm [(eV 4),(eC (.int 4))]) (eC (.int 4)))]) (zb .Mod (z7 zm [(eV 4),(eC (.int 5))]) (eC (.int 2))))),(zj 6 (zb .Add (eC (.int 1)) (zb .Mod (z7 zm [(eV 4),(eC (.int 7))]) (eIx (zR [(eC (.int 2)),(eC (.int 9))]) (zb .Mod (z7 zm [(eV 4),(eC (.int 8))]) (eC (.int 2))))))),(zj 7 (zy [(eC (.str "lease")),(eV 1),(eV 5),(zb .Add (eV 2) (zb .Mod (z7 zm [(eV 4),(eC (.int 6))]) (eV 3))),(eV 6)])),(sIf (wc (tE (zr .IsNot (eV 5) (eC .non))) (tE (zr .GtE (eV 5) (zf (zf (eV 0) 9) 1)))) [(zt (zy [(eC .non),(eC .non)]))] []),(zj 8 (eC .non)),(z0N [(zj 8 (qd 43 zw (eV 0) [(eIx (eV 7) (eC (.int 1))),(eIx (eV 7) (eC (.int 2))),(eIx (eV 7) (eC (.int 3))),(eIx (eV 7) (eC (.int 4)))]))] [([19],none,[(zj 7 (eC .non))])]),(zt (zy [(eV 7),(eV 8)]))]
def qX:Fn:=fnW 5 4 qV
@[reducible] def zU:List Ds:=[(jh [5,6,7] (eV 1)),(zj 8 (zb .Add (eV 6) (zb .Mod (z7 zm [(eV 4),(eC (.int 9))]) (zb .Sub (eV 7) (eV 6))))),(sIf (wc (tE (zr .IsNot (eV 2) (eC .non))) (wc (tE (zr .Lt (eIx (eV 2) (eC (.int 0))) (eV 7))) (tE (zr .Eq (zb .Mod (z7 zm [(eV 4),(eC (.int 10))]) (eC (.int 2))) (eC (.int 1)))))) [(zj 8 (eB2 y0 (eV 6) (eIx (eV 2) (eC (.int 0)))))] []),(zj 9 (eC (.int 0))),(sIf (wc (tE (zr .IsNot (eV 2) (eC .non))) (tE (zr .Eq (eSl (eV 2) pN (pS (eC (.int 2)))) (zy [(eV 8),(eV 5)])))) [(zj 9 (zb .Add (eIx (eV 2) (eC (.int 2))) (eC (.int 1))))] []),(zj 10 (zb .Add (eC (.int 1)) (zb .Mod (z7 zm [(eV 4),(eC (.int 11))]) (eIx (zR [(eC (.int 1)),(eC (.int 3)),(zf (eV 0) 2)]) (zb .Mod (z7 zm [(eV 4),(eC (.int 12))]) (eC (.int 3))))))),(sIf (tOr (wc (tE (zr .IsNot (eV 2) (eC .non))) (tE (eC2 leT (zy [(eV 8),(eV 5),(eV 9)]) (eV 2)))) (tE (zr .Gt (zb .Add (eV 9) (eV 10)) (zf (eV 0) 2)))) [(zt (zy [(eC .non),(zR [])]))] []),(zj 11 (qY 1 [9,5,8,0] (.one 0) (z17 (eV 10)) [] (z7 ki [(eV 4),(eV 3),(eV 2),(zb .Add (eV 1) (eV 0))]))),(zt (zy [(zy [(eC (.str "ask")),(eV 3),(eV 8),(eV 10)]),(qY 1 [3] (.one 0) (iE (eV 11)) [] (zy [(eV 1),(eV 0)]))]))]
def vw:Fn:=fnW 5 7 zU
@[reducible] def K5:List Ds:=[(zj 4 (VP 43 ql [(eV 0)])),(zj 5 Qi),(zj 6 Qi),(zj 7 (Y3 [])),(zj 8 (Y3 [])),(QR (.one 9) (iE (eV 3)) [(zj 10 (eIx (zR [(eC (.str "anna")),(eC (.str "b")),(eC (.str "bo")),(eC (.str "zzzzzzzz"))]) (zb .Mod (z7 zm [(eV 9),(eC (.int 0))]) (eC (.int 4))))),(sIf (tOr (tE (eC2 xq (eV 10) (eV 5))) (tE (zr .Eq (zb .Mod (z7 zm [(eV 9),(eC (.int 13))]) (eC (.int 4))) (eC (.int 0))))) [(jh [11,12] (z7 qX [(eV 4),(eV 10),(eV 1),(eV 2),(eV 9)])),(sIf (tE (zr .IsNot (eV 11) (eC .non))) [(ya (eV 5) (eV 10) (eV 12))] [])] [(jh [11,13] (z7 vw [(eV 0),(eC2 Xf (eV 5) (eV 10)),(KP (eV 6) (eV 10)),(eV 10),(eV 9)])),(qb (Y7 (eV 8) (eV 13))),(sIf (tE (zr .NotEq (eV 13) (zR []))) [(ya (eV 6) (eV 10) (z7 wZ [(eV 0),(eIx (eIx (eV 13) (VW (eC (.int 1)))) (eC (.int 1)))]))] [])]),(sIf (tE (zr .IsNot (eV 11) (eC .non))) [(qb (Xy (eV 7) (eV 11)))] [])]),(zt (zy [(eV 7),(eV 8)]))]
def Q0:Fn:=fnW 4 10 K5
@[reducible] def jD:List Ds:=[(zj 1 (zR [(vL [25] (eV 0)),(vL [17] (eV 0)),(vL [13] (eV 0)),(vL [16] (eV 0))])),(zj 1 (zb .Add (eV 1) (zR [(vL [19] (eV 0)),(vL [18] (eV 0)),(vL [20] (eV 0)),(vL [21] (eV 0))]))),(sIf (tOr (tE (zr .NotEq (YI (eV 1) (eC (.bl true))) (eC (.int 1)))) (qM (tE (vL [11] (eV 0))))) [(zt (eC (.str "other")))] []),(zt (eIx (zR [(eC (.str "row")),(eC (.str "holder")),(eC (.str "name")),(eC (.str "time")),(eC (.str "ended")),(eC (.str "lease")),(eC (.str "many")),(eC (.str "wait"))]) (z04 (eV 1) (eC (.bl true)))))]
def vX:Fn:=fnW 1 1 jD
@[reducible] def yN:List Ds:=[(zj 2 (eC (.str "told"))),(z0N [(qb (z7 qO [(eV 0),(eV 1)]))] [([10],some 3,[(zj 2 (z7 (Ki vX) [(eV 3)]))])]),(zt (eV 2))]
def qK:Fn:=fnW 2 2 yN
@[reducible] def Z4:List Ds:=[(zj 1 (zR [(eC .non),(eC (.int 7)),(zy []),(zy [(eC (.str "lease"))]),(zR [(eC (.str "ask")),(eC (.str "anna")),(eC (.int 0)),(eC (.int 1))]),(zy [(eC (.str "ask")),(eC (.str "anna")),(eC (.int 0))]),(zy [(eC (.str "lease")),(eC (.str "anna")),(eC (.int 0)),(eC (.int 0))]),(eC (.str "ask"))])),(zj 1 (zb .Add (eV 1) (zR [(zy [(eC (.str "asks")),(eC (.str "anna")),(eC (.int 0)),(eC (.int 1))]),(zy [(eC (.str "ask")),(eC (.str "anna")),(eC (.int 0)),(eC (.int 1)),(eC (.int 1))]),(zy [(eC (.str "lease")),(eC (.str "anna")),(eC (.int 0)),(eC (.int 0)),(eC (.int 1)),(eC (.int 1))])]))),(zt (eIx (eV 1) (zb .Mod (z7 zm [(eV 0),(eC (.int 20))]) (eC (.int 11)))))]
def wd:Fn:=fnW 1 1 Z4
@[reducible] def Qd:List Ds:=[(zj 3 (eIx (zR [(eC (.str "")),(eC (.str "Anna")),(eC (.str "abcdefghi")),(eC .non),(eC (.int 7)),(eC (.bl true)),(zR [(eC (.str "a"))]),(zy [(eC (.str "a"))])]) (zb .Mod (z7 zm [(eV 2),(eC (.int 21))]) (eC (.int 8))))),(zj 4 (eIx (zR [(eC .non),(eC (.bl true)),(eC (.str "1")),(zR [(eC (.int 1))])]) (zb .Mod (z7 zm [(eV 2),(eC (.int 22))]) (eC (.int 4))))),(zj 5 (zR [(zy [(eC (.str "holder")),(zy [(eC (.str "lease")),(eV 3),(VW (eC (.int 1))),(eV 4),(eC (.int 0))])]),(zy [(eC (.str "holder")),(zy [(eC (.str "ask")),(eV 3),(eV 4),(eC (.int 0))])])])),(zj 5 (zb .Add (eV 5) (zR [(zy [(eC (.str "name")),(zy [(eC (.str "lease")),(eC (.str "new")),(eIx (zR [(VW (eC (.int 1))),(zf (eV 0) 1),(eC (.bl true)),(eC (.str "0"))]) (zb .Mod (z7 zm [(eV 2),(eC (.int 23))]) (eC (.int 4)))),(eV 4),(eC (.int 0))])])]))),(zj 5 (zb .Add (eV 5) (zR [(zy [(eC (.str "time")),(zy [(eC (.str "lease")),(eC (.str "new")),(eC .non),(eV 4),(eC (.int 1))])]),(zy [(eC (.str "time")),(zy [(eC (.str "lease")),(eC (.str "new")),(eC (.int 0)),(eV 1),(eC (.int 0))])])]))),(zj 5 (zb .Add (eV 5) (zR [(zy [(eC (.str "ended")),(zy [(eC (.str "lease")),(eC (.str "new")),(eC .non),(eC (.int 0)),(zb .Add (zf (eV 0) 0) (eC (.int 1)))])]),(zy [(eC (.str "lease")),(zy [(eC (.str "ask")),(eC (.str "new")),(eV 1),(eC (.int 1))])])]))),(zj 5 (zb .Add (eV 5) (zR [(zy [(eC (.str "ended")),(zy [(eC (.str "lease")),(eC (.str "new")),(eC (.int 0)),(zf (eV 0) 0),(eC (.int 1))])]),(zy [(eC (.str "many")),(zy [(eC (.str "ask")),(eC (.str "new")),(eV 4),(eC (.int 0))])])]))),(zt (eIx (eV 5) (zb .Mod (z7 zm [(eV 2),(eC (.int 24))]) (eC (.int 9)))))]
def kJ:Fn:=fnW 3 3 Qd
@[reducible] def y3:List Ds:=[(jh [5,6,7] (eV 1)),(zj 8 (zb .Mod (z7 zm [(eV 4),(eC (.int 25))]) (eC (.int 5)))),(sIf (tE (zr .Eq (eV 8) (eC (.int 0)))) [(zj 9 (zR [(eC (.int 0)),(VW (eC (.int 1))),(zb .Add (zf (eV 0) 2) (eC (.int 1))),(eC (.bl true)),(eC .non),(eC (.str "1")),(zb .Add (zb .Add (zf (eV 0) 2) (z7 zm [(eV 4),(eC (.int 26))])) (eC (.int 1)))])),(zt (zy [(eC (.str "many")),(zy [(eC (.str "ask")),(eV 3),(eV 6),(eIx (eV 9) (zb .Mod (z7 zm [(eV 4),(eC (.int 27))]) (eC (.int 7))))])]))] []),(sIf (tE (zr .Eq (eV 8) (eC (.int 1)))) [(zt (zy [(eC (.str "time")),(zy [(eC (.str "ask")),(eV 3),(eIx (zR [(eC .non),(eC (.bl true)),(eC (.str "1")),(zR [(eC (.int 1))]),(zy [(eC (.int 1))])]) (zb .Mod (z7 zm [(eV 4),(eC (.int 28))]) (eC (.int 5)))),(eC (.int 1))])]))] []),(sIf (tE (zr .Eq (eV 8) (eC (.int 2)))) [(zt (zy [(eC (.str "lease")),(zy [(eC (.str "ask")),(eV 3),(zb .Add (eV 7) (zb .Mod (z7 zm [(eV 4),(eC (.int 29))]) (eC (.int 9)))),(eC (.int 1))])]))] []),(sIf (wc (tE (zr .Gt (eV 6) (eC (.int 0)))) (tOr (tE (zr .Is (eV 2) (eC .non))) (tE (zr .Lt (eIx (eV 2) (eC (.int 0))) (eV 6))))) [(zt (zy [(eC (.str "wait")),(zy [(eC (.str "ask")),(eV 3),(zb .Sub (eV 6) (eC (.int 1))),(eC (.int 1))])]))] []),(zt (zy [(eC (.str "row")),(z7 wd [(eV 4)])]))]
def v7:Fn:=fnW 5 5 y3
@[reducible] def kX:List Ds:=[(zj 3 (zy [(eC (.str "lease")),(eC (.str "fresh")),(eC (.int 0)),(eV 1),(eC (.int 2))])),(sIf (tE (zr .Eq (zb .Mod (z7 zm [(eV 2),(eC (.int 33))]) (eC (.int 2))) (eC (.int 0)))) [(zj 4 (zb .Add (eC (.int 1)) (zb .Mod (z7 zm [(eV 2),(eC (.int 34))]) (zf (eV 0) 2)))),(zj 5 (zb .Sub (zf (eV 0) 2) (zb .Mod (z7 zm [(eV 2),(eC (.int 35))]) (eV 4)))),(zt (zy [(eC (.str "wait")),(zR [(eV 3),(zy [(eC (.str "ask")),(eC (.str "fresh")),(eV 1),(eV 4)]),(zy [(eC (.str "ask")),(eC (.str "fresh")),(eV 1),(eV 5)])])]))] []),(zj 6 (eIx (zR [(eC (.str "lease")),(eC (.str "wait"))]) (eB1 z1m (zr .Gt (zf (eV 0) 2) (eC (.int 1)))))),(zt (zy [(eV 6),(zR [(eV 3),(zy [(eC (.str "ask")),(eC (.str "fresh")),(zb .Add (eV 1) (eC (.int 1))),(eC (.int 1))]),(zy [(eC (.str "ask")),(eC (.str "fresh")),(eV 1),(eC (.int 1))])])]))]
def wa:Fn:=fnW 3 4 kX
@[reducible] def ZV:List Ds:=[(jh [1,2,3] (z7 wQ [(z7 j8 [(eV 0),(eC (.int 0))])])),(jh [4,5] (z7 Q0 [(eV 1),(eV 2),(eV 3),(eSl (eV 0) (pS (eC (.int 1))) (pS (eC (.int 13))))])),(QR (.one 6) (iE (eSl (eV 0) (pS (eC (.int 13))) (pS (eC (.int 33))))) [(jh [7,8] (z7 kJ [(eV 1),(eV 2),(eV 6)])),(sIf (tE (zr .Eq (zb .Mod (z7 zm [(eV 6),(eC (.int 30))]) (eC (.int 3))) (eC (.int 1)))) [(zj 9 (qd 43 zw (VP 43 ql [(eV 1)]) [(eC (.str "fresh")),(eC (.int 0)),(eV 2),(eC (.int 1))])),(jh [7,8] (z7 v7 [(eV 1),(eV 9),(eC .non),(eC (.str "fresh")),(eV 6)])),(zj 10 (zR [(zy [(eC (.str "lease")),(eC (.str "fresh")),(eC (.int 0)),(eV 2),(eC (.int 1))]),(eV 8)]))] [(sIf (wc (tE (zr .Eq (zb .Mod (z7 zm [(eV 6),(eC (.int 30))]) (eC (.int 3))) (eC (.int 2)))) (tE (zr .Gt (eV 3) (eC (.int 1))))) [(jh [7,10] (z7 wa [(eV 1),(eV 2),(eV 6)]))] [(zj 10 (zb .Add (eV 4) (zR [(eV 8)])))])]),(sIf (tE (zr .Eq (zb .Mod (z7 zm [(eV 6),(eC (.int 31))]) (eC (.int 3))) (eC (.int 1)))) [(zj 11 (zb .Mod (z7 zm [(eV 6),(eC (.int 32))]) (zb .Add (eB1 yi (eV 10)) (eC (.int 1))))),(zj 10 (zb .Add (zb .Add (eSl (eV 10) pN (pS (eV 11))) (zR [(z7 wd [(eV 6)])])) (eSl (eV 10) (pS (eV 11)) pN))),(zj 7 (eC (.str "row")))] []),(sIf (tE (zr .NotEq (z7 qK [(eV 1),(eV 10)]) (eV 7))) [(zt (eC (.bl false)))] [])]),(zj 12 (zR [(eC .non),(eC (.int 7)),(zy []),(eC (.str "ask")),(eB1 Wm (eV 4))])),(sIf (tE (zr .NotEq (qY 1 [1] (.one 0) (iE (eV 12)) [] (z7 qK [(eV 1),(eV 0)])) (z4p (zR [(eC (.str "row"))]) (eC (.int 5))))) [(zt (eC (.bl false)))] []),(zt (zr .Eq (z7 qO [(eV 1),(eV 4)]) (eV 5)))]
def kF:Fn:=fnW 1 12 ZV
end NH.P
namespace NH.K72
open PySem PySem.Spec PyProof.Rows L2 NH NH.P
noncomputable def st(i:Nat):Stmt:=PySem.Challenge.pw_namehouses_k72_runs_refused.main.body.getD i (.Pass ⟨0,0,0,0⟩)
noncomputable def cls:List (Str×Nat):=[("Ended",19),("HouseError",10),("NoHolder",17),("NoLease",18),("NoName",13),("NoRow",25),("NoTime",16),("TooMany",20),("ValueError",11),("Wait",21),("bool",1),("int",2),("list",5),("str",3),("tuple",4)]
noncomputable def fld:List (Str×Nat):=[("moments",0),("houses",1),("counts",2),("holder",5),("lease",6),("until",7),("is_cut",8),("shape",9),("grants",10),("house",11),("begin",12),("end",13),("ahead",14),("stride",15),("keeper",16),("mark",17),("newest",18),("batches",19),("has_fallen",20),("by",29)]
def RU:Rules:=⟨[Uc,z5C,YL,z71,z5j,z6H,rUn,z2_,rC2,z3Y,z6k,z6W,z6D,z5l,z5D,z7a,z4R,z6L,z7A,z2O,z6V,z4Y,z7c,Ui,z35,z2J,z58,z6j,z5b,z4s,z2G,z0x,JK,z30,z36],[z52,Yn,z37],[UP],[U5,riE],[z2D,VV],[z2U,z2Z,z6T,Jx,z2T,z2S,z31,YG,VL,z2Q]⟩
theorem yP{D:DP}:RulesOk D RU:=⟨⟨YV,z0I,z0n,z2x,z2r,z1g,z5t,UJ,z3A,z1G,z1A,z27,z0J,z1F,z2h,z0V,z0M,z2z,z24,z02,z1b,z1v,z10,UR,Yk,z0A,z0Y,z16,z2p,z1w,z0k,z01,Yc,z0c,UA,trivial⟩,⟨z0T,U9,Yz,trivial⟩,⟨Xc,trivial⟩,⟨z0j,z3U,trivial⟩,⟨YF,X1,trivial⟩,⟨U2,Yf,z1j,Y2,z0l,Us,UT,UY,Y8,z07,trivial⟩⟩
def gs0:List (Str×GM):=K6 ["ValueError","all","bool","int","isinstance","len","list","max","min","range","sorted","str","sum","tuple"] [("HouseError",10),("NoShape",12),("NoName",13),("NoTime",16),("NoHolder",17),("NoLease",18),("Ended",19),("TooMany",20),("NoNote",23),("Fallen",24),("NoRow",25)] [("Wait",21,29)]
def vZ:=st 52
def YB:Cn:=cn cls fld gs0 ["note"] [] [] []
theorem Uo:zo ((comp RU 60).s YB) (z5 vZ)=some Wz:=by kernel_rfl
def gs1:List (Str×GM):=("forget",GM.fn forget)::gs0
def gs2:List (Str×GM):=(VM,GM.kpr)::gs1
def gs3:List (Str×GM):=("forget",GM.cst (.clo 1 []))::gs2
def wH:=inClass (st 10) 0
def gs4:List (Str×GM):=(hash "Wait",GM.xin 21 29 "Wait" "by")::gs3
def gs5:List (Str×GM):=(hash "by",GM.xin 21 29 "Wait" "by")::gs4
def yI:=st 15
def Jy:Cn:=cn cls fld gs5 ["thing"] ["isinstance","int","bool"] [] []
theorem VT:zo ((comp RU 60).s Jy) (z5 yI)=some u5:=by kernel_rfl
def gs6:List (Str×GM):=("is_whole",GM.fn zY)::gs5
def Qm:=st 16
def Xv:Cn:=cn cls fld gs6 ["thing"] ["is_whole"] [] []
theorem XE:zo ((comp RU 60).s Xv) (z5 Qm)=some Qg:=by kernel_rfl
def gs7:List (Str×GM):=("is_size",GM.fn qH)::gs6
def ve:=st 17
def xm:Cn:=cn cls fld gs7 ["thing"] ["is_whole"] [] []
theorem xj:zo ((comp RU 60).s xm) (z5 ve)=some vo:=by kernel_rfl
def gs8:List (Str×GM):=("is_from_nought",GM.fn qm)::gs7
def uX:=st 18
def Ju:Cn:=cn cls fld gs8 ["thing","bound"] ["is_whole"] [] []
theorem JL:zo ((comp RU 60).s Ju) (z5 uX)=some uI:=by kernel_rfl
def gs9:List (Str×GM):=("is_below",GM.fn qh)::gs8
def ko:=inClass (st 19) 0
def W4:Cn:=cn cls fld gs9 ["self","moments","houses","counts"] ["is_size","NoShape"] [] []
theorem QW:zo ((comp RU 60).s W4) (z5 ko)=some kK:=by kernel_rfl
def z46:List (Str×GM):=("Shape",GM.mk 40 true vK)::gs9
def Z2:=st 20
def JW:Cn:=cn cls fld z46 ["shape"] [] [] []
theorem JI:zo ((comp RU 60).s JW) (z5 Z2)=some um:=by kernel_rfl
def z5n:List (Str×GM):=("names_in",GM.fn kH)::z46
def ZE:=st 21
def Xu:Cn:=cn cls fld z5n ["shape","thing"] ["is_below","names_in"] [] []
theorem X_:zo ((comp RU 60).s Xu) (z5 ZE)=some Q2:=by kernel_rfl
def z5V:List (Str×GM):=("is_name",GM.fn yt)::z5n
def k7:=st 22
def QH:Cn:=cn cls fld z5V ["shape","thing"] ["is_name","NoName"] [] []
theorem QN:zo ((comp RU 60).s QH) (z5 k7)=some kG:=by kernel_rfl
def z3R:List (Str×GM):=("check_name",GM.fn vA)::z5V
def km:=st 23
def Wa:Cn:=cn cls fld z3R ["thing","bound"] ["is_below","NoName"] [] []
theorem W7:zo ((comp RU 60).s Wa) (z5 km)=some k6:=by kernel_rfl
def z4j:List (Str×GM):=("check_part",GM.fn qQ)::z3R
def Z_:=st 24
def XJ:Cn:=cn cls fld z4j ["shape","moment","house","count"] ["check_part"] [] []
theorem XG:zo ((comp RU 60).s XJ) (z5 Z_)=some ZL:=by kernel_rfl
def z53:List (Str×GM):=("name_of",GM.fn ki)::z4j
def yK:=st 25
def JR:Cn:=cn cls fld z53 ["shape","name","count","above"] ["check_name"] [] []
theorem Js:zo ((comp RU 60).s JR) (z5 yK)=some y_:=by kernel_rfl
def z7C:List (Str×GM):=("parts_of",GM.fn wZ)::z53
def z6n:List (Str×GM):=("HOUSE",GM.cst (.int 0))::z7C
def z6p:List (Str×GM):=("FIRST",GM.cst (.int 1))::z6n
def z3s:List (Str×GM):=("UNTIL",GM.cst (.int 2))::z6p
def uB:=st 30
def JA:Cn:=cn cls fld z3s ["shape","thing"] ["isinstance","tuple","len","is_below","HOUSE","is_whole","FIRST","UNTIL"] [] []
theorem Je:zo ((comp RU 60).s JA) (z5 uB)=some uf:=by kernel_rfl
def z4x:List (Str×GM):=("is_lease",GM.fn v_)::z3s
def jv:=st 31
def Zf:Cn:=cn cls fld z4x ["shape","thing"] ["is_lease","NoLease"] [] []
theorem Ze:zo ((comp RU 60).s Zf) (z5 jv)=some js:=by kernel_rfl
def z7k:List (Str×GM):=("check_lease",GM.fn q_)::z4x
def z7i:List (Str×GM):=("LETTERS",GM.cst (.str "abcdefghijklmnopqrstuvwxyz"))::z7k
def z4o:List (Str×GM):=("LONGEST_HOLDER",GM.cst (.int 8))::z7i
def yb:=st 35
def Vj:Cn:=cn cls fld z4o ["thing"] ["isinstance","str","len","LONGEST_HOLDER","all"] [] []
theorem WD:zo ((comp RU 60).s Vj) (z5 yb)=some xX:=by kernel_rfl
def z5c:List (Str×GM):=("is_holder",GM.fn qt)::z4o
def xf:=inClass (st 36) 0
def Qs:Cn:=cn cls fld z5c ["self","holder","lease"] ["UNTIL"] [] []
theorem QB:zo ((comp RU 60).s Qs) (z5 xf)=some kI:=by kernel_rfl
def z5x:List (Str×GM):=("Grant",GM.mk 42 false jG)::z5c
def Kk:=st 37
def z1U:Cn:=cn cls fld z5x ["grant","first","until"] ["max","FIRST","min"] [] []
theorem z2t:zo ((comp RU 60).s z1U) (z5 Kk)=some Ks:=by kernel_rfl
def z3H:List (Str×GM):=("meets",GM.fn meets)::z5x
def qy:=st 38
def Zd:Cn:=cn cls fld z3H ["grants","moment","span","begin","grant"] ["sorted","meets"] [] [] (some (0,[⟨100,36,100,64⟩]))
theorem Zl:zo ((comp RU 60).s Zd) (z5 qy)=some jx:=by kernel_rfl
def z4H:List (Str×GM):=("least_begin",GM.fn qZ)::z3H
def jw:=st 39
def Zj:Cn:=cn cls fld z4H ["grants","moment","span","met","grant","house"] ["meets","HOUSE"] [] ["met"]
theorem Zc:zo ((comp RU 60).s Zj) (z5 jw)=some jt:=by kernel_rfl
def z4J:List (Str×GM):=("least_house",GM.fn wK)::z4H
def jq:=inClass (st 40) 0
def Z7:Cn:=cn cls fld z4J ["self","shape"] [] [] ["grants"]
theorem Zs:zo ((comp RU 60).s Z7) (z5 jq)=some jz:=by kernel_rfl
def z43:List (Str×GM):=("Common",GM.mk 43 false ql)::z4J
def wF:=inClass (st 40) 2
def jP:Cn:=cn cls fld z43 ["self","holder","house","moment","span"] ["is_holder","NoHolder","is_below","NoName","is_size","NoTime","is_whole"] [] []
theorem jY:zo ((comp RU 60).s jP) (z5 wF)=some qB:=by kernel_rfl
def z6a:List (Str×GM):=(dot "check_let",GM.met 43 "check_let" zG)::z43
def wq:=inClass (st 40) 4
def jQ:Cn:=cn cls fld z6a ["self","house"] [] ["house"] []
theorem jK:zo ((comp RU 60).s jQ) (z5 wq)=some wu:=by kernel_rfl
def z4_:List (Str×GM):=(dot "grants_of",GM.met 43 "grants_of" qp)::z6a
def w5:=inClass (st 40) 3
def jm:Cn:=cn cls fld z4_ ["self","house","moment","span","begin"] ["least_house","least_begin"] [] []
theorem jk:zo ((comp RU 60).s jm) (z5 w5)=some w8:=by kernel_rfl
def z4a:List (Str×GM):=(dot "free_lease",GM.met 43 "free_lease" qj)::z4_
def kh:=inClass (st 40) 1
def QQ:Cn:=cn cls fld z4a ["self","holder","house","moment","span","lease"] ["max","HOUSE","UNTIL","Ended","Grant"] [] []
theorem QJ:zo ((comp RU 60).s QQ) (z5 kh)=some xa:=by kernel_rfl
def z4e:List (Str×GM):=(dot "let",GM.met 43 "let" zw)::z4a
def j6:=inClass (st 40) 6
def Z1:Cn:=cn cls fld z4e ["self","lease","grant"] ["check_lease","NoLease"] [] []
theorem uN:zo ((comp RU 60).s Z1) (z5 j6)=some vT:=by kernel_rfl
def z3z:List (Str×GM):=(dot "uncut",GM.met 43 "uncut" kM)::z4e
def kN:=inClass (st 40) 5
def Wn:Cn:=cn cls fld z3z ["self","lease","used","grant","until"] ["FIRST","is_whole","UNTIL","NoTime"] [] []
theorem QL:zo ((comp RU 60).s Wn) (z5 kN)=some k_:=by kernel_rfl
def z3J:List (Str×GM):=(dot "cut",GM.met 43 "cut" JG)::z3z
def ZX:=st 42
def XF:Cn:=cn cls fld z3J ["shape","thing"] ["isinstance","tuple","len","is_lease","is_below"] [] []
theorem Y0:zo ((comp RU 60).s XF) (z5 ZX)=some ZG:=by kernel_rfl
def z49:List (Str×GM):=("is_note",GM.fn KG)::z3J
def xc:=inClass (st 43) 0
def QU:Cn:=cn cls fld z49 ["self","house","begin","end"] [] [] []
theorem QY:zo ((comp RU 60).s QU) (z5 xc)=some kE:=by kernel_rfl
def z3n:List (Str×GM):=("Batch",GM.mk 44 true jB)::z49
def ZT:=st 44
def Xw:Cn:=cn cls fld z3n ["shape","house","place"] ["name_of"] [] []
theorem Xe:zo ((comp RU 60).s Xw) (z5 ZT)=some Q9:=by kernel_rfl
def z5Q:List (Str×GM):=("name_at",GM.fn kP)::z3n
def vj:=st 45
def xn:Cn:=cn cls fld z5Q ["shape","batch"] ["range"] ["shape","batch"] []
theorem xh:zo ((comp RU 60).s xn) (z5 vj)=some vd:=by kernel_rfl
def z5A:List (Str×GM):=("names_of_batch",GM.fn qG)::z5Q
def y7:=st 46
def V9:Cn:=cn cls fld z5A ["batches"] ["sum"] [] []
theorem Vi:zo ((comp RU 60).s V9) (z5 y7)=some y9:=by kernel_rfl
def z5E:List (Str×GM):=("size_of",GM.fn ZI)::z5A
def ju:=st 47
def Zu:Cn:=cn cls fld z5E ["shape","house","name","parts"] ["parts_of"] [] []
theorem Zp:zo ((comp RU 60).s Zu) (z5 ju)=some jy:=by kernel_rfl
def z5U:List (Str×GM):=("place_above",GM.fn wM)::z5E
def zJ:=inClass (st 48) 0
def Wd:Cn:=cn cls fld z5U ["self","shape","ahead","stride","keeper","note"] ["is_from_nought","NoTime","is_note","NoNote"] [] []
theorem W6:zo ((comp RU 60).s Wd) (z5 zJ)=some kY:=by kernel_rfl
def z6A:List (Str×GM):=("House",GM.mk 45 false qN)::z5U
def z47:List (Str×GM):=(til "House",GM.mkd 45 "House" 4 qN)::z6A
def v5:=inClass (st 48) 8
def xC:Cn:=cn cls fld z47 ["self"] ["Fallen"] [] []
theorem xM:zo ((comp RU 60).s xC) (z5 v5)=some vf:=by kernel_rfl
def z5L:List (Str×GM):=(dot "check_up",GM.met 45 "check_up" qo)::z47
def xb:=inClass (st 48) 7
def QD:Cn:=cn cls fld z5L ["self"] [] [] []
theorem We:zo ((comp RU 60).s QD) (z5 xb)=some kf:=by kernel_rfl
def z6c:List (Str×GM):=(dot "note",GM.met 45 "note" vJ)::z5L
def k9:=inClass (st 48) 15
def QC:Cn:=cn cls fld z6c ["self","lease","mark"] [] [] []
theorem Wl:zo ((comp RU 60).s QC) (z5 k9)=some kQ:=by kernel_rfl
def z5M:List (Str×GM):=(dot "keep",GM.met 45 "keep" wC)::z6c
def wt:=inClass (st 48) 1
def jI:Cn:=cn cls fld z5M ["self","lease"] ["check_lease"] [] []
theorem jV:zo ((comp RU 60).s jI) (z5 wt)=some wo:=by kernel_rfl
def z3T:List (Str×GM):=(dot "take_lease",GM.met 45 "take_lease" zZ)::z5M
def qD:=inClass (st 48) 9
def vm:Cn:=cn cls fld z3T ["self"] ["NoLease"] [] []
theorem vq:zo ((comp RU 60).s vm) (z5 qD)=some qE:=by kernel_rfl
def z3k:List (Str×GM):=(dot "check_has_lease",GM.met 45 "check_has_lease" zE)::z3T
def wB:=inClass (st 48) 13
def jS:Cn:=cn cls fld z3k ["self"] ["place_above","HOUSE"] [] []
theorem jE:zo ((comp RU 60).s jS) (z5 wB)=some wb:=by kernel_rfl
def z4l:List (Str×GM):=(dot "free_place",GM.met 45 "free_place" qr)::z3k
def wj:=inClass (st 48) 12
def jZ:Cn:=cn cls fld z4l ["self","reading","many","least","begin","end","by"] ["is_size","TooMany","is_whole","NoTime","max","FIRST","UNTIL","NoLease","Wait","Batch","HOUSE"] [] []
theorem jH:zo ((comp RU 60).s jZ) (z5 wj)=some qf:=by kernel_rfl
def z60:List (Str×GM):=(dot "next_batch",GM.met 45 "next_batch" zd)::z4l
def w6:=inClass (st 48) 14
def jg:Cn:=cn cls fld z60 ["self","moment"] ["min"] [] []
theorem jj:zo ((comp RU 60).s jg) (z5 w6)=some qx:=by kernel_rfl
def z4f:List (Str×GM):=(dot "mark_behind",GM.met 45 "mark_behind" qi)::z60
def vn:=inClass (st 48) 11
def xR:Cn:=cn cls fld z4f ["self","reading","many","batch"] ["name_at"] [] []
theorem xG:zo ((comp RU 60).s xR) (z5 vn)=some vi:=by kernel_rfl
def z3f:List (Str×GM):=(dot "hand_out",GM.met 45 "hand_out" zO)::z4f
def zN:=inClass (st 48) 2
def Vc:Cn:=cn cls fld z3f ["self","reading","many","batch"] ["names_of_batch"] [] []
theorem WS:zo ((comp RU 60).s Vc) (z5 zN)=some ye:=by kernel_rfl
def z7y:List (Str×GM):=(dot "ask",GM.met 45 "ask" qq)::z3f
def z3P:List (Str×GM):=(til (dot "ask"),GM.metd 45 "ask" 1 (.int 1) qq)::z7y
def zz:=inClass (st 48) 3
def yj:Cn:=cn cls fld z3P ["self","reading","many","batch"] ["size_of"] [] []
theorem yn:zo ((comp RU 60).s yj) (z5 zz)=some vN:=by kernel_rfl
def z78:List (Str×GM):=(dot "store",GM.met 45 "store" wY)::z3P
def z5p:List (Str×GM):=(til (dot "store"),GM.metd 45 "store" 1 (.int 1) wY)::z78
def j_:=st 50
def Qu:Cn:=cn cls fld z5p ["thing"] ["isinstance","tuple","len","str"] [] []
theorem Qx:zo ((comp RU 60).s Qu) (z5 j_)=some kD:=by kernel_rfl
def z4N:List (Str×GM):=("is_run_row",GM.fn zk)::z5p
def j5:=st 51
def yH:Cn:=cn cls fld z4N ["thing"] ["isinstance","list","all"] [] []
theorem yD:zo ((comp RU 60).s yH) (z5 j5)=some vV:=by kernel_rfl
def z6d:List (Str×GM):=("are_run_rows",GM.fn zI)::z4N
def yQ:=st 53
def J8:Cn:=cn cls fld z6d ["houses","shape","holder"] ["is_holder","NoHolder","House","forget"] [] []
theorem VI:zo ((comp RU 60).s J8) (z5 yQ)=some ur:=by kernel_rfl
def z65:List (Str×GM):=("house_of",GM.fn wm)::z6d
def Ws:=st 54
def Yu:Cn:=cn cls fld z65 ["shape","rows","common","houses","told","row","holder","house"] ["are_run_rows","NoRow","Common","house_of"] ["holder"] ["houses","told"]
theorem Ut:zo ((comp RU 60).s Yu) (z5 Ws)=some WR:=by kernel_rfl
def z63:List (Str×GM):=("played",GM.fn qO)::z65
def xT:=st 56
def Vh:Cn:=cn cls fld z63 ["_law_script","_law_k"] ["len"] [] []
theorem WC:zo ((comp RU 60).s Vh) (z5 xT)=some xU:=by kernel_rfl
def z4g:List (Str×GM):=("_law_cell_at",GM.fn j8)::z63
def Wv:=st 57
def YK:Cn:=cn cls fld z4g ["_law_cell","_law_k","_law_number"] [] [] []
theorem Yo:zo ((comp RU 60).s YK) (z5 Wv)=some uW:=by kernel_rfl
def z57:List (Str×GM):=("_law_draw",GM.fn zm)::z4g
def Ke:=st 58
def z0L:Cn:=cn cls fld z57 ["_law_cell","_law_k","_law_most","_law_found","_law_j"] ["range","_law_draw"] [] []
theorem z0U:zo ((comp RU 60).s z0L) (z5 Ke)=some KQ:=by kernel_rfl
def z4v:List (Str×GM):=("_law_far",GM.fn WE)::z57
def jr:=st 59
def Z8:Cn:=cn cls fld z4v ["_law_cell","_law_far_here","_law_many"] ["_law_far","_law_draw","Shape"] [] []
theorem Zh:zo ((comp RU 60).s Z8) (z5 jr)=some jo:=by kernel_rfl
def z4n:List (Str×GM):=("_law_run_shape",GM.fn wQ)::z4v
def jn:=st 60
def Zm:Cn:=cn cls fld z4n ["_law_common","_law_holder","_law_far_here","_law_many","_law_cell","_law_house","_law_span","_law_row","_law_lease"] ["_law_draw","Ended"] [] []
theorem Zw:zo ((comp RU 60).s Zm) (z5 jn)=some qV:=by kernel_rfl
def z5d:List (Str×GM):=("_law_lease_row",GM.fn qX)::z4n
def yh:=st 61
def WH:Cn:=cn cls fld z5d ["_law_shape","_law_lease","_law_last","_law_holder","_law_cell","_law_house","_law_first","_law_until","_law_reading","_law_count","_law_many","_law_names"] ["_law_draw","max","range"] ["_law_shape","_law_holder","_law_house","_law_reading","_law_count"] []
theorem Va:zo ((comp RU 60).s WH) (z5 yh)=some zU:=by kernel_rfl
def z64:List (Str×GM):=("_law_ask_row",GM.fn vw)::z5d
def KA:=st 62
def z1Q:Cn:=cn cls fld z64 ["_law_shape","_law_far_here","_law_many","_law_cells","_law_common","_law_now","_law_last","_law_rows","_law_given","_law_cell","_law_holder","_law_row","_law_lease","_law_names"] ["Common","_law_draw","_law_lease_row","_law_ask_row","parts_of"] [] ["_law_now","_law_last","_law_rows","_law_given"]
theorem z2A:zo ((comp RU 60).s z1Q) (z5 KA)=some K5:=by kernel_rfl
def z4k:List (Str×GM):=("_law_run",GM.fn Q0)::z64
def jW:=st 63
def Z6:Cn:=cn cls fld z4k ["_law_e","_law_words"] ["isinstance","NoRow","NoHolder","NoName","NoTime","Ended","NoLease","TooMany","Wait","ValueError"] [] []
theorem Jn:zo ((comp RU 60).s Z6) (z5 jW)=some jD:=by kernel_rfl
def z77:List (Str×GM):=("_law_word",GM.fn vX)::z4k
theorem VD:zo ((comp RU 60).s Z6.han) (z5 jW)=some jD:=by kernel_rfl
def z4Z:List (Str×GM):=(Vl "_law_word",GM.fnh "_law_word" vX)::z77
def yM:=st 64
def JM:Cn:=cn cls fld z4Z ["_law_shape","_law_rows","_law_word_here","_law_e"] ["played","HouseError","_law_word"] [] []
theorem VJ:zo ((comp RU 60).s JM) (z5 yM)=some yN:=by kernel_rfl
def z4M:List (Str×GM):=("_law_told",GM.fn qK)::z4Z
def uA:=st 65
def JH:Cn:=cn cls fld z4M ["_law_cell","_law_some"] ["_law_draw"] [] []
theorem JT:zo ((comp RU 60).s JH) (z5 uA)=some Z4:=by kernel_rfl
def z4G:List (Str×GM):=("_law_no_row",GM.fn wd)::z4M
def ZM:=st 66
def XY:Cn:=cn cls fld z4G ["_law_shape","_law_far_here","_law_cell","_law_nobody","_law_odd","_law_some"] ["_law_draw"] [] []
theorem K_:zo ((comp RU 60).s XY) (z5 ZM)=some Qd:=by kernel_rfl
def z3l:List (Str×GM):=("_law_bad",GM.fn kJ)::z4G
def xS:=st 67
def WJ:Cn:=cn cls fld z3l ["_law_shape","_law_lease","_law_last","_law_holder","_law_cell","_law_house","_law_first","_law_until","_law_way","_law_bad_here"] ["_law_draw","_law_no_row"] [] []
theorem Ve:zo ((comp RU 60).s WJ) (z5 xS)=some y3:=by kernel_rfl
def z3q:List (Str×GM):=("_law_bad_ask",GM.fn v7)::z3l
def kC:=st 68
def Wk:Cn:=cn cls fld z3q ["_law_shape","_law_far_here","_law_cell","_law_lease","_law_first","_law_second","_law_word_here"] ["_law_draw","int"] [] []
theorem Wi:zo ((comp RU 60).s Wk) (z5 kC)=some kX:=by kernel_rfl
def z6O:List (Str×GM):=("_law_two_asks",GM.fn wa)::z3q
def qF:=st 69
def X9:Cn:=cn cls fld z6O ["_law_script","_law_shape","_law_far_here","_law_many","_law_rows","_law_due","_law_cell","_law_word_here","_law_row","_law_lease","_law_worse","_law_at","_law_no_list"] ["_law_run_shape","_law_cell_at","_law_run","_law_bad","_law_draw","Common","_law_bad_ask","_law_two_asks","len","_law_no_row","_law_told","tuple","played"] ["_law_shape"] []
theorem Y4:zo ((comp RU 60).s X9) (z5 qF)=some ZV:=by kernel_rfl
end NH.K72
namespace NH
open PySem PySem.Spec PyProof.Rows L2 PySem.W
def qa (K:Frag)(x:Str)(st:Stmt):Prop:=∃f fd,nsIn K z8D x=some (some (.ref f))/\Fun K x x st f fd
def j4 (K:Frag)(C:Addr)(x q:Str)(st:Stmt):Prop:=∃f fd,z8N K (.ref C) x=some (some (.ref f))/\isFn K (.ref f)=true/\Fun K x q st f fd
def Ya (K:Frag)(C:Addr)(x q:Str)(st:Stmt):Prop:=∃f fd,nsIn K z8D x=some (some (.ref C))/\z8N K (.ref C) "__init__"=some (some (.ref f))/\isFn K (.ref f)=true/\Fun K "__init__" q st f fd/\zeF K C=true/\zao K (.ref C)=true
theorem dfp{K:Frag}{x:Str}{st:Stmt}{f:Addr}{oc:Value}{od an:Option Addr}{osl:Array (Option Value)}{kV doc pm cdv ct:Value}(a:nsIn K z8D x=some (some (.ref f)))(l:K.lookup f=some ⟨oc,od,.func (fnOf x x (zD st) (z5 st) (zp st) .none kV doc pm an cdv ct),osl⟩)(c:zaO K cdv x=true)(k:zao K (.ref f)=true):qa K x st:=⟨f,_,a,jR l c k⟩
theorem mtp{K:Frag}{x q:Str}{st:Stmt}{f C:Addr}{oc:Value}{od an:Option Addr}{osl:Array (Option Value)}{kV doc pm cdv ct:Value}(a:z8N K (.ref C) x=some (some (.ref f)))(j:isFn K (.ref f)=true)(l:K.lookup f=some ⟨oc,od,.func (fnOf x q (zD st) (z5 st) (zp st) .none kV doc pm an cdv ct),osl⟩)(c:zaO K cdv q=true)(k:zao K (.ref f)=true):j4 K C x q st:=⟨f,_,a,j,jR l c k⟩
theorem clp {K:Frag} {x q:Str} {st:Stmt} {f C:Addr} {oc:Value} {od an:Option Addr} {osl:Array (Option Value)} {kV doc pm cdv ct:Value} (a:nsIn K z8D x=some (some (.ref C))) (i:z8N K (.ref C) "__init__"=some (some (.ref f))) (j:isFn K (.ref f)=true) (l:K.lookup f=some ⟨oc,od,.func (fnOf "__init__" q (zD st) (z5 st) (zp st) .none kV doc pm an cdv ct),osl⟩) (c:zaO K cdv q=true) (k:zao K (.ref f)=true) (m:zeF K C=true) (kk:zao K (.ref C)=true):Ya K C x q st:=⟨f,_,a,i,j,jR l c k,m,kk⟩
noncomputable def PL:Nat->(List Value->Prop)->Prop
 |0,P=>P []
 |n+1,P=>∀a,PL n λl=>P (a::l)
theorem PL.all:∀{n:Nat} {P:List Value->Prop},PL n P->∀us:List Value,us.length=n->P us
 |0,_,h,[],_=>h
 |_+1,_,h,a::l,e=>PL.all (h a) l (zem e)
abbrev BdP(x q:Str)(st:Stmt)(ps:List Str):Prop:=∀(kV doc pm:Value) (an:Option Addr) (cdv ct:Value),PL ps.length λus=>zct (fnOf x q (zD st) (z5 st) (zp st) .none kV doc pm an cdv ct) ⟨us,[]⟩=pure (ps.zip us)
abbrev GsB(l:zeT)(w:z9c)(K:Frag)(mg:Str->Option Value)(base:Heap)(k:Nat)(gs:List (Str×GM)){A:Ads}{clo:Nat->Addr->Option HO->List V->Prop}{tabs:Nat->Option (Addr×List Pos×Str)}:Prop:=GsOk l.prog w K mg base A clo k gs tabs
structure Pk(R:Rules)(K:Frag)(mg:Str->Option Value)(base:Heap)(A:Ads)(cls fld:List (Str×Nat)):Prop where
 r:∀{D},RulesOk D R
 i:K.In base
 n:base.Ns z8D mg
 c:chk K A cls fld=true
section
variable {R:Rules}{P:Program}{w:World}{K:Frag}{mg:Str->Option Value}{base:Heap}{A:Ads}{cls fld:List (Str×Nat)}{clo:Nat->Addr->Option HO->List V->Prop}{gs:List (Str×GM)}{tabs:Nat->Option (Addr×List Pos×Str)}{k:Nat}{x qu:Str}{st:Stmt}{f C:Addr}{fd:FuncData}{ps N G cel own:List Str}{m n:Nat}{ds:List Ds}
theorem Pk.ok(Z:Pk R K mg base A cls fld)(F:Fun K x qu st f fd)(q:GsOk P w K mg base A clo k gs tabs)(hds:zo ((comp R n).s (cn cls fld gs N G cel own none)) (z5 st)=some ds)(hs:jN (cn cls fld gs N G cel own none) ps (zp st)=true)(hm:N.length=ps.length+m) :
  FnOk P w K mg base (CX1 P w) (k+1) f fd ps (spN (mkD K A clo tabs) ps.length (fnW ps.length m ds)):=by
 obtain⟨oc,od,kV,doc,pm,an,cdv,ct,osl,rfl,lk,hcd⟩:=F.ex
 exact vB Z.r (yd Z.i Z.n Z.c q) lk hcd hs hm hds
theorem Pk.fn (Z:Pk R K mg base A cls fld) (p:qa K x st) (q:GsOk P w K mg base A clo k gs tabs) (hds:zo ((comp R n).s (cn cls fld gs N G cel own none)) (z5 st)=some ds) (hs:jN (cn cls fld gs N G cel own none) ps (zp st)=true) (hm:N.length=ps.length+m) (hb:BdP x x st ps) (hx:(x == ("__debug__":Str))=false) :
  GsOk P w K mg base A clo (k+1) ((x,GM.fn (fnW ps.length m ds))::gs) tabs:=by
 obtain⟨f,fd,a,F⟩:=p
 exact GsOk.add (q.mono (zby k)) ⟨f,zbI Z.i Z.n a,fd,ps,k+1,F.kp,F.binds λkV dc pm an cd ct=>(hb kV dc pm an cd ct).all,z8n _,Z.ok F q hds hs hm,qA⟩ hx
theorem Pk.fnh {ds':List Ds} {nm:Str} (Z:Pk R K mg base A cls fld) (p:qa K nm st) (q:GsOk P w K mg base A clo k gs tabs) (q':GsOk P w K mg base A clo (k+1) ((nm,GM.fn (fnW ps.length m ds'))::gs) tabs) (hds:zo ((comp R n).s (cn cls fld gs N G cel own none).han) (z5 st)=some ds) (hs:jN (cn cls fld gs N G cel own none) ps (zp st)=true) (hm:N.length=ps.length+m) (hb:BdP nm nm st ps) (hx:(Vl nm == ("__debug__":Str))=false) :
  GsOk P w K mg base A clo (k+1) ((Vl nm,GM.fnh nm (fnW ps.length m ds))::(nm,GM.fn (fnW ps.length m ds'))::gs) tabs:=by
 obtain⟨f,fd,a,F⟩:=p
 have F':=F
 obtain⟨oc,od,kV,doc,pm,an,cdv,ct,osl,rfl,lk,hcd⟩:=F.ex
 exact GsOk.add q' ⟨f,zbI Z.i Z.n a,_,ps,k+1,F.kp,F'.binds λkV dc pm an cd ct=>(hb kV dc pm an cd ct).all,z8n _,Yr Z.r (yd Z.i Z.n Z.c q) lk hcd hs hm hds,qA⟩ hx
theorem Pk.met {c:Nat} (Z:Pk R K mg base A cls fld) (p:j4 K C x qu st) (q:GsOk P w K mg base A clo k gs tabs) (hds:zo ((comp R n).s (cn cls fld gs N G cel own none)) (z5 st)=some ds) (hc:A.cs.lookup c=some C) (hn:(FLD.contains x)=false) (hs:jN (cn cls fld gs N G cel own none) ps (zp st)=true) (hm:N.length=ps.length+m) (hb:BdP x qu st ps) (hx:(dot x == ("__debug__":Str))=false) :
  GsOk P w K mg base A clo (k+1) ((dot x,GM.met c x (fnW ps.length m ds))::gs) tabs:=by
 obtain⟨f,fd,i,j,F⟩:=p
 refine GsOk.add (q.mono (zby k)) ⟨C,f,fd,ps,k+1,hc,ua Z.c hc,⟨i,j,F.kp⟩,λi h=>?_,F.binds λkV dc pm an cd ct=>(hb kV dc pm an cd ct).all,z8n _,Z.ok F q hds hs hm,qA⟩ hx
 have:=za6.mpr (z8F (show FLD[i]?=some x from h))
 rw[hn] at this;cases this
theorem Pk.cl {c:Nat} {b:Bool} (Z:Pk R K mg base A cls fld) (p:Ya K C x qu st) (q:GsOk P w K mg base A clo k gs tabs) (hds:zo ((comp R n).s (cn cls fld gs N G cel own none)) (z5 st)=some ds) (hc:A.cs.lookup c=some C) (hs:jN (cn cls fld gs N G cel own none) ps (zp st)=true) (hm:N.length=ps.length+m) (hb:BdP "__init__" qu st ps) (hx:(x == ("__debug__":Str))=false) :
  GsOk P w K mg base A clo (k+2) ((x,GM.mk c b (fnW ps.length m ds))::gs) tabs:=by
 obtain⟨f,fd,a,i,j,F,mk,kk⟩:=p
 exact GsOk.add (q.mono (Nat.le_add_right k 2)) ⟨C,f,fd,ps,k+1,hc,zbI Z.i Z.n a,⟨mk,i,j,kk⟩,F.binds λkV dc pm an cd ct=>(hb kV dc pm an cd ct).all,z8n _,Z.ok F q hds hs hm,qA⟩ hx
end
end NH
namespace NH
open PySem PySem.Spec PyProof.Rows L2
theorem zH{p:Prop}{i:Decidable p}{A B:Prop}(h1:p->A)(h2:¬p->B):brW (decide p) A B:=by
 cases i with
 |isTrue h=>exact h1 h
 |isFalse h=>exact h2 h
theorem jU{p:Prop}{i:Decidable p}{A B:Prop}(h:p)(a:A):brW (decide p) A B:=zH (λ_=>a) λn=>absurd h n
theorem jM{p:Prop}{i:Decidable p}{A B:Prop}(h:¬p)(b:B):brW (decide p) A B:=zH (λy=>absurd y h) λ_=>b
theorem Kh{p:Prop}{i:Decidable p}{A B:Prop}(h1:p->B)(h2:¬p->A):brW (!decide p) A B:=by
 cases i with
 |isTrue h=>exact h1 h
 |isFalse h=>exact h2 h
theorem Wg{p:Prop}{i:Decidable p}{A B:Prop}(h:p)(b:B):brW (!decide p) A B:=Kh (λ_=>b) λn=>absurd h n
theorem wA{b:Bool}{A B:Prop}(h1:b=true->A)(h2:b=false->B):brW b A B:=by
 cases b with
 |true=>exact h1 rfl
 |false=>exact h2 rfl
theorem z7D{b:Bool}{A B:Prop}(h:b=true)(a:A):brW b A B:=by rw[h];exact a
theorem z4q{b:Bool}{A B:Prop}(h:b=false)(a:B):brW b A B:=by rw[h];exact a
theorem Jz{tg:Tg}{g:Sl->Mem->RE (Option T)}{lv:Mem->Prop}{τ:Sl}{μ:Mem}{Z:Xp}(f:T->Option T){xs:List T}{K:List T->Mem->Prop}
  (h:∀x∈xs,∀k:Option T->Mem->Prop,k (f x) μ->∃τ',asg tg x τ=some τ'/\g τ' μ k Z) (k:K (xs.filterMap f) μ) (hl:lv μ:=by trivial):z_ tg g lv τ xs μ K Z:=by
 induction xs generalizing K with
 |nil=>exact k
 |cons x r ih=>
  unfold z_
  obtain⟨τ',e,hg⟩:=h x z8M (λo μ1=>lv μ1/\(match o with
   |some y=>(z_ tg g lv τ r μ1).bind λys μ2=>RE.ok (y::ys) μ2
   |none=>z_ tg g lv τ r μ1) K Z) (by
    refine⟨hl,?_⟩
    cases q:f x with
    |none=>
     rw[zb2 q] at k
     exact ih (λy hy=>h y (z8y _ hy)) k
    |some y=>
     rw[zb3 q] at k
     exact ih (K:=λys μ2=>K (y::ys) μ2) (λy hy=>h y (z8y _ hy)) k)
  exact⟨τ',e,hg⟩
theorem KZ{tg:Tg}{g:Sl->Mem->RE (Option T)}{lv:Mem->Prop}{τ:Sl}{μ:Mem}{Z:Xp}(f:T->T){xs:List T}{K:List T->Mem->Prop}
  (h:∀x∈xs,∀k:Option T->Mem->Prop,k (some (f x)) μ->∃τ',asg tg x τ=some τ'/\g τ' μ k Z) (k:K (xs.map f) μ) (hl:lv μ:=by trivial):z_ tg g lv τ xs μ K Z:=
 Jz (λx=>some (f x)) h (by rw[z9h];exact k) hl
theorem we{tg:Tg}{body:Ds}{lv:Mem->Prop}{xs:List T}{τ:Sl}{μ:Mem}{E:En}(I:Nat->Sl->Mem->Prop)(h0:I 0 τ μ)
  (h:∀i x τ μ,xs[i]?=some x->I i τ μ->∀N:Sl->Mem->Prop,(∀τ μ,I (i+1) τ μ->N τ μ)->∃τ',asg tg x τ=some τ'/\body τ' μ (E.turn N))
  (k:∀τ μ,I xs.length τ μ->E.nx τ μ) (hl:∀i τ μ,I i τ μ->lv μ:=by intros;trivial):forM tg body lv xs τ μ E:=by
 have go:∀(rest:List T) (i:Nat) (τ:Sl) (μ:Mem),xs.drop i=rest->i<=xs.length->I i τ μ->forM tg body lv rest τ μ E:=by
  intro rest
  induction rest with
  |nil=>
   intro i τ μ hd hi hI
   have:i=xs.length:=by
    have:=congrArg zfY hd
    simp at this;omega
   subst this
   exact k τ μ hI
  |cons x r ih=>
   intro i τ μ hd hi hI
   have hx:xs[i]?=some x:=by
    have:(xs.drop i)[0]?=some x:=by rw[hd];rfl
    simpa using this
   have hlt:i<xs.length:=(z8h.mp hx).1
   have hd':xs.drop (i+1)=r:=by
    have:(xs.drop i).tail=r:=by rw[hd];rfl
    simpa using this
   exact h i x τ μ hx hI _ λτ2 μ2 z=>⟨hl _ _ _ z,ih (i+1) τ2 μ2 hd' hlt z⟩
 exact go xs 0 τ μ rfl (zac _) h0
theorem XI{c:Dt}{body:List Ds}{τ:Sl}{μ:Mem}{E:En}(I:Nat->Sl->Mem->Prop)(n:Nat)(h0:I n τ μ)
  (h:∀n τ μ,I n τ μ->∀N:Sl->Mem->Prop,(∀m τ μ,m<n->I m τ μ->N τ μ)->c τ μ (λb μ1=>brW b (zM body τ μ1 (E.turn N)) (E.nx τ μ1)) (λk fs μ1=>E.ex k fs τ μ1)):Wb c body τ μ E:=
 ⟨I,⟨n,h0⟩,λn τ μ hI=>h n τ μ hI _ λm τ μ hm hi=>⟨m,hm,hi⟩⟩
end NH
namespace NH.P
open PySem L2 NH
section
variable {μ:Mem}{K:T->Mem->Prop}{Z:Xp}
theorem zK{i:Int}(k:K (.bl true) μ):zY [.int i] μ K Z:=⟨rfl,k⟩
noncomputable def z6R(n:Int):Int:=n * (n / 1009+69621) % 2147483647
noncomputable def z5F(n:Int):Int:=n * (n / 2003+40692) % 2147483399
def vY(c k:Int):Int:=
 if c % 2=0/\0<c / 2 ^ (1+31 * k).toNat then c / 2 ^ (1+31 * k).toNat % 2147483648
 else z5F (z6R ((c+7919 * k+1) % 2147483647 * 48271 % 2147483647))
theorem Y_{c k:Int}:0<=vY c k/\vY c k<2147483648:=by
 unfold vY
 split
 ·omega
 ·unfold z5F;omega
theorem xI{c k:Int}(hk:0<=k)(q:K (.int (vY c k)) μ):zm [.int c,.int k] μ K Z:=by
 unfold zm
 refine⟨rfl,?_⟩
 unfold vY at q
 refine⟨by decide,?_⟩
 have last:K (.int (z5F (z6R ((c+7919 * k+1) % 2147483647 * 48271 % 2147483647)))) μ->zM (uW.drop 1) [some (.int c),some (.int k),none] μ (En.fn K Z):=λq=>by
  refine⟨.inl (by decide),by decide,.inr (by decide),by decide,by decide,.inl (by simp only[big];omega),by decide,?_⟩
  exact⟨by decide,.inl (by simp only[big];omega),by decide,q⟩
 refine zH (λh=>?_) (λh=>?_)
 ·refine⟨.inl (by decide),by omega,?_⟩
  refine zH (λh2=>?_) (λh2=>?_)
  ·rw[if_pos ⟨h,h2⟩] at q
   exact⟨.inl (by decide),by omega,by decide,q⟩
  ·rw[if_neg λz=>h2 z.2] at q
   exact last q
 ·rw[if_neg λz=>h z.1] at q
  exact last q
def z0p (c k:Int)(n:Nat):Int:=(z9i n).foldl (λ(v:Int) (j:Nat)=>v * 2147483648+vY c (k+j)) 0
theorem Xn{c k:Int}{n:Nat}:z0p c k (n+1)=z0p c k n * 2147483648+vY c (k+n):=by
 unfold z0p
 rw[List.range_succ,List.foldl_append]
 rfl
def z4E (c k m:Int):Int:=z0p c k 5 % m
theorem VO{n:Int}{i:Nat}{x:T}(h:(rangeT n)[i]?=some x):x=.int i/\(i:Int)<n:=by
 unfold rangeT at h
 rw[z8U] at h
 cases q:(z9i n.toNat)[i]? with
 |none=>rw[q] at h;cases h
 |some j=>
  rw[q] at h
  obtain⟨hl,e⟩:=z8h.mp q
  have e:i=j:=by simpa using e
  subst e
  cases h
  simp at hl
  exact⟨rfl,by omega⟩
theorem JO{n:Int}:(rangeT n).length=n.toNat:=by simp[rangeT]
theorem Vv{c k m:Int}(hk:0<=k)(hm:0<m)(q:K (.int (z4E c k m)) μ):WE [.int c,.int k,.int m] μ K Z:=by
 unfold WE
 refine⟨rfl,?_⟩
 refine⟨by decide,?_⟩
 refine we (λi τ μ'=>μ'=μ/\∃o,τ=[some (.int c),some (.int k),some (.int m),some (.int (z0p c k i)),o]) ⟨rfl,none,rfl⟩ ?_ ?_
 ·rintro i x τ _ hx ⟨rfl,o,rfl⟩ N hN
  obtain⟨rfl,hi⟩:=VO hx
  refine⟨_,rfl,.inr (by decide),?_⟩
  refine xI (by omega) ?_
  exact hN _ _ ⟨rfl,some (.int i),by rw[Xn];rfl⟩
 ·rintro τ _ ⟨rfl,o,rfl⟩
  exact⟨hm,q⟩
noncomputable def isL(z:Str):Bool:=!(z9M "abcdefghijklmnopqrstuvwxyz" z 0 (zf4 "abcdefghijklmnopqrstuvwxyz") 1).isEmpty
noncomputable def sgn(z:Str):List Str:=z.cps.toList.map λc=>⟨#[c]⟩
theorem XC(z:Str):uO z=(sgn z).map T.str:=by simp[uO,sgn]
theorem z19(z:Str):(sgn z).length=z.length:=by simp[sgn,zf4]
def jc(z:Str):Bool:=decide (1<=(z.length:Int))&&decide ((z.length:Int)<=8)&&(sgn z).all isL
theorem j9{α:Type}(f:α->Bool):∀xs:List α,bools (xs.map λx=>T.bl (f x))=some (xs.map f)
 |[]=>rfl
 |x::r=>by simp[bools,j9 f r]
theorem Zz{z:Str}(hz:z.length<=room)(q:K (.bl (jc z)) μ):qt [.str z] μ K Z:=by
 unfold qt
 refine⟨rfl,?_⟩
 unfold jc at q
 refine⟨hz,?_⟩
 refine zH (λh1=>?_) (λh1=>?_)
 ·refine Kh (λh2=>?_) (λh2=>?_)
  ·show (uO z).length<=room/\_
   rw[XC]
   refine⟨by rw[z8B,z19];exact hz,?_⟩
   refine KZ (λx=>match x with|.str y=>.bl (isL y)|t=>t) (λx hx k hk=>?_) ?_
   ·obtain⟨y,hy,rfl⟩:=z9b.mp hx
    exact⟨_,rfl,hk⟩
   ·rw[zah]
    refine⟨_,j9 isL (sgn z),?_⟩
    rw[decide_eq_true h1,decide_eq_true h2] at q
    rw[zbK]
    exact q
  ·have q:K (.bl false) μ:=by simpa[h2] using q
   exact q
 ·have q:K (.bl false) μ:=by simpa[h1] using q
  exact q
theorem qc{z:Str}{b:Bool}(hz:z.length<=room)(h:jc z=b)(q:K (.bl b) μ):qt [.str z] μ K Z:=Zz hz (by rw[h];exact q)
theorem z0u{α:Type}{xs:List α}{k:Int}(h0:0<=k)(h1:k<xs.length):wD xs k=xs[k.toNat]?:=by
 unfold wD Yi
 rw[if_pos h0,if_pos h1]
 rfl
theorem Vd{α:Type}{xs:List α}{lo hi:Option Int}{x:α}(h:x∈xx xs lo hi):x∈xs:=zda (zaQ h)
theorem wV{t:T}(h:(match t with|.int _=>false|.mut _=>false|.clo _ _=>false|.exc _ _=>false|.obj _ _=>false|_=>true)=true)(k:K (.bl false) μ):zY [t] μ K Z:=by
 cases t<;>first|(cases h;done)|exact⟨rfl,k⟩
end
section
variable {μ μ1 μ2:Mem}{K:T->Mem->Prop}{Z:Xp}
theorem get_set{i:Nat}{x y:MO}(h:μ[i]?=some x):(μ.set i y)[i]?=some y:=by
 have:=(z8h.mp h).1
 simp[this]
theorem zF{x:MO}:(μ++[x])[μ.length]?=some x:=by rw[z8r (z8n _)];simp
theorem ze{i:Nat}{x o:MO}(h:μ[i]?=some o):(μ++[x])[i]?=some o:=by
 rw[z8p (z8h.mp h).1];exact h
noncomputable abbrev shp(x y z:Int):T:=.obj 40 [(0,.int x),(1,.int y),(2,.int z)]
theorem zL{n:Int}(k:K (.bl (decide (1<=n))) μ):qH [.int n] μ K Z:=by
 unfold qH
 refine⟨rfl,?_⟩
 refine zK ?_
 exact k
theorem Zk{x y z:Int}(hx:1<=x)(hy:1<=y)(hz:1<=z)(q:K .non [.obj 40 [(0,.int x),(1,.int y),(2,.int z)]]):vK [.mut 0,.int x,.int y,.int z] [.obj 40 []] K Z:=by
 unfold vK
 refine⟨rfl,?_⟩
 refine zL ?_
 refine jU hx ?_
 refine zL ?_
 refine jU hy ?_
 refine zL ?_
 refine Wg hz ?_
 refine⟨_,_,rfl,by decide,?_⟩
 refine⟨_,_,rfl,(by (show (1:Nat)<900);decide),?_⟩
 refine⟨_,_,rfl,(by (show (2:Nat)<900);decide),?_⟩
 exact q
end
section
variable {μ μ1 μ2:Mem}{K:T->Mem->Prop}{Z:Xp}
theorem QT{ns:List Int}{k:Int}(hk:0<=k)(q:∀c,K (.int c) μ):j8 [.lst (ns.map T.int),.int k] μ K Z:=by
 unfold j8
 refine⟨rfl,?_⟩
 refine zH (λh=>?_) (λh=>?_)
 ·have hl:k.toNat<ns.length:=by
   rw[z8B] at h;omega
  refine⟨.int ns[k.toNat],?_,q _⟩
  rw[z0u hk h,z8U,z90 hl]
  rfl
 ·exact q _
end
section
variable {μ μ1 μ2:Mem}{K:T->Mem->Prop}{Z:Xp}
theorem JC{tg:Tg}{g:Sl->Mem->RE (Option T)}{lv:Mem->Prop}{τ:Sl}{x:T}{r:List T}{K:List T->Mem->Prop}(h:∃τ',asg tg x τ=some τ'/\g τ' μ (λo μ1=>lv μ1/\(match o with
  |some y=>z_ tg g lv τ r μ1 (λys μ2=>K (y::ys) μ2) Z
  |none=>z_ tg g lv τ r μ1 K Z)) Z):z_ tg g lv τ (x::r) μ K Z:=by
 obtain⟨τ',e,h⟩:=h
 unfold z_
 refine⟨τ',e,?_⟩
 have:(λ(o:Option T) μ1=>lv μ1/\(match o with
  |some y=>z_ tg g lv τ r μ1 (λys μ2=>K (y::ys) μ2) Z
  |none=>z_ tg g lv τ r μ1 K Z))=λo μ1=>lv μ1/\(match o with
   |some y=>(z_ tg g lv τ r μ1).bind λys μ2=>RE.ok (y::ys) μ2
   |none=>z_ tg g lv τ r μ1) K Z:=by
  funext o μ1
  cases o<;>rfl
 rw[this] at h
 exact h
theorem X6{tg:Tg}{g:Sl->Mem->RE (Option T)}{lv:Mem->Prop}{τ:Sl}{K:List T->Mem->Prop}(h:K [] μ):z_ tg g lv τ [] μ K Z:=by
 unfold z_
 exact h
structure Sy(y z:Int):Prop where
 y1:1<=y
 y2:y<=10000000000
 z1:1<=z
 z2:z<=10000000000
theorem Vu{x y z:Int}(s:Sy y z)(q:K (.int (x * y * z)) μ):kH [shp x y z] μ K Z:=by
 obtain⟨y1,y2,z1,z2⟩:=s
 unfold kH
 refine⟨rfl,?_⟩
 exact⟨.inr ⟨by unfold big;omega,by unfold big;omega⟩,.inr ⟨by unfold big;omega,by unfold big;omega⟩,q⟩
theorem WV{x y z n:Int}{b:Bool}(s:Sy y z)(hb:(decide (0<=n)&&decide (n<x * y * z))=b)(q:K (.bl b) μ):yt [shp x y z,.int n] μ K Z:=by
 subst hb
 unfold yt
 refine⟨rfl,?_⟩
 refine Vu s ?_
 unfold qh
 refine⟨rfl,?_⟩
 refine zK ?_
 refine zH (λh=>?_) (λh=>?_)
 ·have q:K (.bl (decide (n<x * y * z))) μ:=by simpa[h] using q
  exact q
 ·have q:K (.bl false) μ:=by simpa[h] using q
  exact q
theorem ZA{x y z n:Int}(s:Sy y z)(h:(decide (0<=n)&&decide (n<x * y * z))=true)(q:K .non μ):vA [shp x y z,.int n] μ K Z:=by
 unfold vA
 refine⟨rfl,?_⟩
 refine WV s h ?_
 exact q
end
section
variable {μ μ1 μ2:Mem}{K:T->Mem->Prop}{Z:Xp}
structure Gr where
 ho:Str
 h:Int
 f:Int
 u0:Int
 u:Int
 ct:Bool
noncomputable def Gr.L(G:Gr):T:=.tup [.int G.h,.int G.f,.int G.u0]
def Gr.O (G:Gr):MO:=.obj 42 [(5,.str G.ho),(6,G.L),(7,.int G.u),(8,.bl G.ct)]
noncomputable abbrev Gp:=Nat×Gr
abbrev Gp.t(p:Gp):T:=.mut p.1
structure Bk(μ:Mem)(c g:Nat)(sh:T)(ps:List Gp):Prop where
 com:μ[c]?=some (.obj 43 [(9,sh),(10,.mut g)])
 lst:μ[g]?=some (.lst (ps.map Gp.t))
 at_:∀p∈ps,μ[p.1]?=some p.2.O
 nd:(ps.map (·.1)).Nodup
structure Ch(S:List Nat)(μ μ':Mem):Prop where
 len:μ.length<=μ'.length
 ot:∀i,i<μ.length->i∉S->μ'[i]?=μ[i]?
theorem Ch.refl{S:List Nat}:Ch S μ μ:=⟨z8n _,λ_ _ _=>rfl⟩
theorem Ch.trans{S:List Nat}(a:Ch S μ μ1)(b:Ch S μ1 μ2):Ch S μ μ2:=⟨z8G a.len b.len,λi h n=>(b.ot i (z8w h a.len) n).trans (a.ot i h n)⟩
theorem Ch.mono{S S':List Nat}(a:Ch S μ μ1)(h:∀x∈S,x∈S'):Ch S' μ μ1:=⟨a.len,λi hi n=>a.ot i hi λz=>n (h i z)⟩
theorem Ch.app{x:MO}:Ch [] μ (μ++[x]):=⟨by simp,λi h _=>z8p h⟩
theorem Ch.set{i:Nat}{x:MO}:Ch [i] μ (μ.set i x):=⟨by simp,λj h n=>by rw[z8S];rintro rfl;exact n (by simp)⟩
theorem Ch.get{S:List Nat}{i:Nat}{x:MO}(a:Ch S μ μ1)(h:μ[i]?=some x)(n:i∉S):μ1[i]?=some x:=(a.ot i (z8h.mp h).1 n).trans h
theorem Bk.ch{S:List Nat}{c g:Nat}{sh:T}{ps:List Gp}(B:Bk μ c g sh ps)(a:Ch S μ μ1)(h1:c∉S)(h2:g∉S)(h3:∀p∈ps,p.1∉S):Bk μ1 c g sh ps:=
 ⟨a.get B.com h1,a.get B.lst h2,λp hp=>a.get (B.at_ p hp) (h3 p hp),B.nd⟩
noncomputable def mt(G:Gr)(b e:Int):Bool:=decide ((if G.f<b then b else G.f)<(if e<G.u then e else G.u))
theorem W8{G:Gr}{b e:Int}:mt G b e=true↔G.f<G.u/\G.f<e/\b<G.u/\b<e:=by
 unfold mt
 rw[decide_eq_true_eq]
 split<;>split<;>omega
theorem z2Y{G:Gr}{b e:Int}(h:¬(G.f<G.u/\G.f<e/\b<G.u/\b<e)):mt G b e=false:=by
 cases q:mt G b e with
 |false=>rfl
 |true=>exact absurd (W8.mp q) h
theorem VC{a:Nat}{G:Gr}{b e:Int}(h:μ[a]?=some G.O)(q:K (.bl (mt G b e)) μ):meets [.mut a,.int b,.int e] μ K Z:=by
 unfold meets
 refine⟨rfl,?_⟩
 refine⟨_,_,_,h,rfl,?_⟩
 refine⟨_,rfl,?_⟩
 refine⟨_,_,_,h,rfl,?_⟩
 exact q
theorem qC{β:Type}{tg:Tg}{g:Sl->Mem->RE (Option T)}{lv:Mem->Prop}{τ:Sl}(t:β->T)(f:β->Option T){ps:List β}{K:List T->Mem->Prop}
  (h:∀p∈ps,∀k:Option T->Mem->Prop,k (f p) μ->∃τ',asg tg (t p) τ=some τ'/\g τ' μ k Z) (k:K (ps.filterMap f) μ) (hl:lv μ:=by trivial):z_ tg g lv τ (ps.map t) μ K Z:=by
 induction ps generalizing K with
 |nil=>exact X6 k
 |cons x r ih=>
  refine JC ?_
  refine h x z8M _ ⟨hl,?_⟩
  cases q:f x with
  |none=>
   rw[zb2 q] at k
   exact ih (λy hy=>h y (z8y _ hy)) k
  |some y=>
   rw[zb3 q] at k
   exact ih (K:=λys μ2=>K (y::ys) μ2) (λy hy=>h y (z8y _ hy)) k
theorem KR:∀{bs:List Gp},(∀p∈bs,μ[p.1]?=some p.2.O)->KeyR (eIx (zf (eV 0) 6) (eC (.int 1))) μ (bs.map Gp.t) (bs.map (·.2.f))
 |[],_=>trivial
 |p::r,h=>⟨⟨_,_,_,h p z8M,rfl,_,rfl,rfl,rfl⟩,KR λq hq=>h q (z8y _ hq)⟩
end
section
variable {μ μ1 μ2:Mem}{K:T->Mem->Prop}{Z:Xp}
theorem uL{z:Key}{t:T}:∀(kvs:List (Key×T)),(zi z (vR z t kvs)).isSome=true:=by
 intro kvs
 unfold vR
 split
 ·rename_i h
  induction kvs with
  |nil=>simp at h
  |cons p r ih=>
   rw[z8R]
   unfold zi
   by_cases e:p.1=z
   ·rw[if_pos e,if_pos e];rfl
   ·rw[if_neg e,if_neg e]
    exact ih (by simpa[e] using h)
 ·rename_i h
  induction kvs with
  |nil=>simp[zi]
  |cons p r ih=>
   have e:p.1≠z:=λe=>h (by simp[e])
   rw[zbr]
   unfold zi
   rw[if_neg e]
   exact ih λz=>h (by simp only[z9Y,zbE];exact .inr z)
theorem kO{z y:Key}{t:T}(ne:y≠z):∀(kvs:List (Key×T)),(zi y (vR z t kvs)).isSome=(zi y kvs).isSome:=by
 intro kvs
 unfold vR
 split
 ·rename_i h
  clear h
  induction kvs with
  |nil=>rfl
  |cons p r ih=>
   rw[z8R]
   unfold zi
   by_cases e:p.1=z
   ·rw[if_pos e]
    have e2:p.1≠y:=λz'=>ne (z'.symm.trans e)
    rw[if_neg (show ¬(p.1,t).1=y from e2),if_neg e2]
    exact ih
   ·rw[if_neg e]
    by_cases e2:p.1=y
    ·rw[if_pos e2,if_pos e2]
    ·rw[if_neg e2,if_neg e2];exact ih
 ·rename_i h
  clear h
  induction kvs with
  |nil=>
   show (zi y [(z,t)]).isSome=_
   unfold zi
   rw[if_neg (λw=>ne w.symm)]
   rfl
  |cons p r ih=>
   rw[zbr]
   unfold zi
   by_cases e2:p.1=y
   ·rw[if_pos e2,if_pos e2]
   ·rw[if_neg e2,if_neg e2];exact ih
theorem kU{z:Key}{t:T}{kvs:List (Key×T)}:(vR z t kvs).length<=kvs.length+1:=by
 unfold vR
 split<;>simp
def inD (kvs:List (Key×T))(h:Int):Bool:=(zi (.inl h) kvs).isSome
theorem xH:∀(kvs:List (Key×T)),∃B:Int,∀h,inD kvs h=true->h<B
 |[]=>⟨0,λh e=>by cases e⟩
 |(.inl a,t)::r=>by
  obtain⟨B,hB⟩:=xH r
  refine⟨if a<B then B else a+1,λh e=>?_⟩
  unfold inD zi at e
  by_cases z:(zcG a:Key)=.inl h
  ·have:a=h:=by injection z
   split<;>omega
  ·rw[if_neg z] at e
   have:=hB h e
   split<;>omega
 |(.inr a,t)::r=>by
  obtain⟨B,hB⟩:=xH r
  refine⟨B,λh e=>?_⟩
  unfold inD zi at e
  rw[if_neg (by intro z;cases z)] at e
  exact hB h e
end
section
variable {μ μ1 μ2:Mem}{K:T->Mem->Prop}{Z:Xp}{c g i0:Nat}{x y z:Int}{ps:List Gp}
theorem kL{n b:Int}(q:K (.bl (decide (0<=n)&&decide (n<b))) μ):qh [.int n,.int b] μ K Z:=by
 unfold qh
 refine⟨rfl,?_⟩
 refine zK ?_
 refine zH (λh=>?_) (λh=>?_)
 ·have q:K (.bl (decide (n<b))) μ:=by simpa[h] using q
  exact q
 ·have q:K (.bl false) μ:=by simpa[h] using q
  exact q
theorem wR{n b:Int}(h0:0<=n)(h1:n<b)(q:K (.bl true) μ):qh [.int n,.int b] μ K Z:=kL (by simpa[h0,h1] using q)
def Zo (y:Int)(t:T):Prop:=t=.non\/∃h:Int,t=.int h/\0<=h/\h<y
theorem Qz{ho:Str}{hs:T}{m n:Int}(B:Bk μ c g (shp x y z) ps)(hl:ho.length<=room)(h1:jc ho=true)(h2:Zo y hs)(h3:1<=n)(q:K .non μ):zG [.mut c,.str ho,hs,.int m,.int n] μ K Z:=by
 unfold zG
 refine⟨rfl,?_⟩
 refine qc hl h1 ?_
 have rest:zM (qB.drop 2) [some (.mut c),some (.str ho),some hs,some (.int m),some (.int n)] μ (En.fn K Z):=by
  refine zL ?_
  refine Wg h3 ?_
  refine zK ?_
  exact q
 rcases h2 with rfl|⟨h,rfl,a,b⟩
 ·exact rest
 ·refine⟨_,_,_,B.com,rfl,?_⟩
  refine wR a b ?_
  exact rest
theorem W9{h:Int}(B:Bk μ c g (shp x y z) ps)(hl:ps.length<=1000)(q:K (.lst ((ps.filter λp=>decide (p.2.h=h)).map Gp.t)) μ):qp [.mut c,.int h] μ K Z:=by
 unfold qp
 refine⟨rfl,?_⟩
 refine⟨_,_,_,B.com,rfl,?_⟩
 refine⟨_,B.lst,?_⟩
 refine⟨by rw[z8B];unfold room;omega,?_⟩
 refine qC Gp.t (λp=>if p.2.h=h then some (Gp.t p) else none) (λp hp k hk=>?_) ?_ B.lst
 ·refine⟨_,rfl,?_⟩
  refine⟨_,_,_,B.at_ p hp,rfl,?_⟩
  refine⟨_,rfl,?_⟩
  refine wA (λe=>?_) (λe=>?_)
  ·have e:p.2.h=h:=by simpa using e
   rw[if_pos e] at hk
   exact hk
  ·have e:¬p.2.h=h:=by simpa using e
   rw[if_neg e] at hk
   exact hk
 ·have e:ps.filterMap (λp=>if p.2.h=h then some (Gp.t p) else none)=(ps.filter λp=>decide (p.2.h=h)).map Gp.t:=by
   clear q B hl
   induction ps with
   |nil=>rfl
   |cons p r ih=>
    by_cases z:p.2.h=h
    ·rw[zb3 (b:=Gp.t p) (by rw[if_pos z]),List.filter_cons_of_pos (by simpa using z),z8R,ih]
    ·rw[zb2 (by rw[if_neg z]),List.filter_cons_of_neg (by simpa using z),ih]
  rw[e]
  exact q
end
section
variable {μ μ1 μ2:Mem}{K:T->Mem->Prop}{Z:Xp}{c g i0:Nat}{x y z:Int}{ps:List Gp}
theorem z84{a b c d e f:Int}:eqL [.int a,.int b,.int c] [.int d,.int e,.int f]=some (decide (a=d)&&(decide (b=e)&&decide (c=f))):=by
 have h:∀i j:Int,(i == j)=decide (i=j):=λi j=>by
  by_cases z:i=j<;>simp[z]
 simp[eqL,eqT,h]
theorem V4{h f u:Int}(h0:0<=h)(h1:h<y)(f0:0<=f)(fu:f<u)(ux:u<=x)(q:K (.bl true) μ):v_ [shp x y z,.tup [.int h,.int f,.int u]] μ K Z:=by
 unfold v_
 refine⟨rfl,?_⟩
 refine⟨_,rfl,?_⟩
 refine wR h0 h1 ?_
 refine⟨_,rfl,?_⟩
 refine zK ?_
 refine⟨_,rfl,?_⟩
 refine zK ?_
 refine⟨_,rfl,?_⟩
 refine jU f0 ?_
 refine⟨_,rfl,?_⟩
 refine jU fu ?_
 have q:K (.bl (decide (u<=x))) μ:=by rw[decide_eq_true ux];exact q
 exact q
end
section
variable {μ μ1 μ2:Mem}{K:T->Mem->Prop}{Z:Xp}{c g r i0:Nat}{x y z:Int}{ps:List Gp}
theorem z2q{l:List T}:eqL l []=some l.isEmpty:=by
 cases l<;>rfl
end
section
variable {μ μ1 μ2:Mem}{K:T->Mem->Prop}{Z:Xp}{c g r i0:Nat}{x y z:Int}{ps:List Gp}
def z7l(gs:List Gp)(h m n b:Int):Prop:=m<=b/\(∀p∈gs,p.2.h=h->mt p.2 b (b+n)=false)/\∀b',m<=b'->b'<b->∃p∈gs,p.2.h=h/\mt p.2 b' (b'+n)=true
def z2W(gs:List Gp)(m n h:Int):Prop:=0<=h/\(∀p∈gs,p.2.h=h->mt p.2 m (m+n)=false)/\∀h',0<=h'->h'<h->∃p∈gs,p.2.h=h'/\mt p.2 m (m+n)=true
theorem ub{bs:List Gp}{m n:Int}{i0:Nat}(h:∀p∈bs,μ[p.1]?=some p.2.O)(hl:bs.length<64)(hn1:1<=n)(ht:μ[i0]?=some (.tab 0))(q:∀b,m<=b->(∀p∈bs,mt p.2 b (b+n)=false)->(∀b',m<=b'->b'<b->∃p∈bs,mt p.2 b' (b'+n)=true)->K (.int b) μ):qZ [.lst (bs.map Gp.t),.int m,.int n] μ K Z:=by
 unfold qZ
 refine⟨rfl,?_⟩
 refine⟨⟨i0,ht⟩,by rw[z8B];exact hl,bs.map (·.2.f),KR h,λps hp hs=>?_⟩
 have ez:(bs.map (·.2.f)).zip (bs.map Gp.t)=bs.map λp=>(p.2.f,Gp.t p):=by rw[List.zip_map',]
 rw[ez] at hp
 obtain⟨qs,hq,rfl⟩:=WW hp rfl
 rw[zah,zej] at *
 have hq':∀p∈qs,μ[p.1]?=some p.2.O:=λp hp=>h p (hq.mem_iff.mp hp)
 refine we (λi τ μ'=>∃b o,τ=[some (.lst (bs.map Gp.t)),some (.int m),some (.int n),some (.int b),o]/\μ'=μ/\m<=b/\(∀p∈qs.take i,mt p.2 b (b+n)=false)/\∀b',m<=b'->b'<b->∃p∈bs,mt p.2 b' (b'+n)=true) ⟨m,none,rfl,rfl,z9q _,by simp,λb' h1 h2=>by omega⟩ ?_ ?_
 ·rintro i x τ μ' hx ⟨b,o,rfl,rfl,hb,hn,hmin⟩ N hN
  rw[z8U] at hx
  cases hqi:qs[i]? with
  |none=>rw[hqi] at hx;cases hx
  |some p=>
   rw[hqi] at hx
   cases hx
   have hm:p∈qs:=z8F hqi
   have et:qs.take (i+1)=qs.take i++[p]:=by rw[zcf,hqi];rfl
   have le:∀p'∈qs.take i,p'.2.f<=p.2.f:=λp' hp'=>by
    obtain⟨j,hj⟩:=zaI.mp hp'
    rw[List.getElem?_take] at hj
    split at hj
    ·rename_i hji
     obtain⟨h1,e1⟩:=z8h.mp hj
     obtain⟨h2,e2⟩:=z8h.mp hqi
     have:=(List.pairwise_iff_getElem.mp hs) j i h1 h2 hji
     rw[e1,e2] at this
     exact this
    ·cases hj
   refine⟨_,rfl,?_⟩
   refine VC (hq' p hm) ?_
   refine wA (λe=>?_) (λe=>?_)
   ·refine⟨_,_,_,hq' p hm,rfl,?_⟩
    have e:=W8.mp e
    refine hN _ _ ⟨p.2.u,_,rfl,rfl,by omega,λp' hp'=>?_,λb' h1 h2=>?_⟩
    ·rw[et] at hp'
     rcases z8v.mp hp' with hp'|hp'
     ·have h1:=hn p' hp'
      have h2:=le p' hp'
      refine z2Y λz=>?_
      have:mt p'.2 b (b+n)=true:=W8.mpr (by omega)
      rw[h1] at this;cases this
     ·rw[z8l.mp hp']
      exact z2Y (by omega)
    ·by_cases w:b'<b
     ·exact hmin b' h1 w
     ·exact⟨p,hq.mem_iff.mp hm,W8.mpr (by omega)⟩
   ·refine hN _ _ ⟨b,_,rfl,rfl,hb,λp' hp'=>?_,hmin⟩
    rw[et] at hp'
    rcases z8v.mp hp' with hp'|hp'
    ·exact hn p' hp'
    ·rw[z8l.mp hp'];exact e
 ·rintro τ μ' ⟨b,o,rfl,rfl,hb,hn,hmin⟩
  refine q b hb (λp hp=>hn p ?_) hmin
  rw[z8B,zaA (z8n _)]
  exact hq.mem_iff.mpr hp
theorem yB{g:Nat}{m n:Int}(hg:μ[g]?=some (.lst (ps.map Gp.t)))(h:∀p∈ps,μ[p.1]?=some p.2.O)(hl:ps.length<1000)
    (q:∀b μ',z2W ps m n b->Ch [] μ μ'->K (.int b) μ'):wK [.mut g,.int m,.int n] μ K Z:=by
  unfold wK
  refine⟨rfl,?_⟩
  refine⟨_,ze hg,?_⟩
  refine we (λi τ μ'=>∃kvs o,τ=[some (.mut g),some (.int m),some (.int n),some (.mut μ.length),o,none]/\μ'=μ++[.dic kvs]/\kvs.length<=i/\(∀p∈ps.take i,mt p.2 m (m+n)=true->inD kvs p.2.h=true)/\∀b,inD kvs b=true->∃p∈ps,p.2.h=b/\mt p.2 m (m+n)=true) ⟨[],none,rfl,rfl,z8n _,by simp,λb e=>by cases e⟩ ?_ ?_ ?_
  · rintro i x τ μ' hx ⟨kvs,o,rfl,rfl,hk,hn,hr⟩ N hN
    rw[z8U] at hx
    cases hqi:ps[i]? with
    |none=>rw[hqi] at hx;cases hx
    |some p=>
      rw[hqi] at hx
      cases hx
      have hm:p∈ps:=z8F hqi
      have hlt:i<ps.length:=(z8h.mp hqi).1
      have et:ps.take (i+1)=ps.take i++[p]:=by rw[zcf,hqi];rfl
      refine⟨_,rfl,?_⟩
      refine VC (ze (h p hm)) ?_
      refine wA (λe=>?_) (λe=>?_)
      · refine ⟨_,_,_,ze (h p hm),rfl,?_⟩
        refine⟨_,rfl,?_⟩
        refine .inr ⟨_,zF,by unfold room;omega,?_⟩
        have es:(μ++[MO.dic kvs]).set μ.length (MO.dic (vR (.inl p.2.h) (.bl true) kvs))=μ++[MO.dic (vR (.inl p.2.h) (.bl true) kvs)]:=by
          rw[zaJ _ _ (z8n _)];simp
        rw[es]
        refine hN _ _ ⟨_,_,rfl,rfl,z8G kU (by omega),λp' hp' e'=>?_,λb hb=>?_⟩
        · by_cases z : p'.2.h = p.2.h
          · rw[z];exact uL _
          · unfold inD
            rw[kO (λw=>z (by injection w))]
            rw[et] at hp'
            rcases z8v.mp hp' with hp'|hp'
            · exact hn p' hp' e'
            · rw[z8l.mp hp'] at z;exact absurd rfl z
        · by_cases z : b = p.2.h
          · exact⟨p,hm,z.symm,e⟩
          · unfold inD at hb
            rw[kO (λw=>z (by injection w))] at hb
            exact hr b hb
      · refine hN _ _ ⟨kvs,_,rfl,rfl,by omega,fun p' hp' e' => ?_,hr⟩
        rw[et] at hp'
        rcases z8v.mp hp' with hp'|hp'
        · exact hn p' hp' e'
        · rw[z8l.mp hp',e] at e';cases e'
  · rintro τ μ' ⟨kvs,o,rfl,rfl,hk,hn,hr⟩
    rw[z8B,zaA (z8n _)] at hn
    obtain⟨B,hB⟩:=xH kvs
    refine XI (λk τ μ'=>∃b:Int,0<=b/\k=(B-b).toNat/\τ=[some (.mut g),some (.int m),some (.int n),some (.mut μ.length),o,some (.int b)]/\μ'=μ++[.dic kvs]/\∀b',0<=b'->b'<b->inD kvs b'=true) (B-0).toNat ⟨0,z9q _,rfl,rfl,rfl,λb' h1 h2=>by omega⟩ ?_
    rintro k τ μ' ⟨b,hb,rfl,rfl,rfl,hd⟩ N hN
    refine⟨_,zF,?_⟩
    refine wA (λe=>?_) (λe=>?_)
    · have := hB b e
      exact hN _ _ _ (show (B-(b+1)).toNat<(B-b).toNat by omega) ⟨b+1,by omega,rfl,rfl,rfl,λb' h1 h2=>by
        by_cases w:b'=b
        · rw[w];exact e
        · exact hd b' h1 (by omega)⟩
    · refine q b _ ⟨hb,fun p hp ph => ?_,fun b' h1 h2 => hr b' (hd b' h1 h2)⟩ Ch.app
      cases z:mt p.2 m (m+n) with
      |false=>rfl
      | true => have := hn p hp z
                rw[ph] at this
                unfold inD at this
                rw[e] at this;cases this
  · rintro i τ μ' ⟨kvs,o,rfl,rfl,_⟩
    exact ze hg
def Lease(ps:List Gp)(hs:T)(m n h b:Int):Prop:=(hs=.non/\b=m/\z2W ps m n h)\/(hs=.int h/\z7l ps h m n b)
theorem Lease.one{hs:T}{m n h b h' b':Int}(a:Lease ps hs m n h b)(a':Lease ps hs m n h' b'):h=h'/\b=b':=by
 rcases a with⟨rfl,rfl,e0,e1,e2⟩|⟨rfl,e0,e1,e2⟩
 ·rcases a' with⟨_,rfl,f0,f1,f2⟩|⟨z,_⟩
  ·refine⟨?_,rfl⟩
   rcases zen h h' with w|w|w
   ·obtain⟨p,hp,p1,p2⟩:=f2 h e0 w
    rw[e1 p hp p1] at p2;cases p2
   ·exact w
   ·obtain⟨p,hp,p1,p2⟩:=e2 h' f0 w
    rw[f1 p hp p1] at p2;cases p2
  ·cases z
 ·rcases a' with⟨z,_⟩|⟨z,f0,f1,f2⟩
  ·cases z
  ·cases z
   refine⟨rfl,?_⟩
   rcases zen b b' with w|w|w
   ·obtain⟨p,hp,p1,p2⟩:=f2 b e0 w
    rw[e1 p hp p1] at p2;cases p2
   ·exact w
   ·obtain⟨p,hp,p1,p2⟩:=e2 b' f0 w
    rw[f1 p hp p1] at p2;cases p2
theorem Zt{hs:T}{m n:Int}(B:Bk μ c g (shp x y z) ps)(ht:μ[i0]?=some (.tab 0))(hl:ps.length<64)(hn1:1<=n)(h2:Zo y hs)
  (q:∀h b μ',0<=h->Lease ps hs m n h b->Ch [] μ μ'->K (.tup [.int h,.int b,.int (b+n)]) μ'):qj [.mut c,hs,.int m,.int n] μ K Z:=by
 unfold qj
 refine⟨rfl,?_⟩
 rcases h2 with rfl|⟨h,rfl,a,b⟩
 ·refine⟨_,_,_,B.com,rfl,?_⟩
  refine yB B.lst B.at_ (by omega) λh μ' hf ch=>?_
  exact q h m μ' hf.1 (.inl ⟨rfl,rfl,hf⟩) ch
 ·refine⟨_,B.com,?_⟩
  refine W9 B (by omega) ?_
  refine ub (i0:=i0) (λp hp=>B.at_ p (z9l.mp hp).1) (zc1 (List.length_filter_le ..) hl) hn1 ht λb hb hm hmin=>?_
  refine q h b μ a (.inr ⟨rfl,hb,λp hp ph=>hm p (z9l.mpr ⟨hp,by simpa using ph⟩),λb' h1 h2=>?_⟩) Ch.refl
  obtain⟨p,hp,e⟩:=hmin b' h1 h2
  obtain⟨h3,h4⟩:=z9l.mp hp
  exact⟨p,h3,by simpa using h4,e⟩
theorem uu{ho:Str}{hs:T}{m n:Int}(B:Bk μ c g (shp x y z) ps)(ht:μ[i0]?=some (.tab 0))(hl:ps.length<64)(h0:ho.length<=room)(h1:jc ho=true)(h2:Zo y hs)(h3:1<=n)
  (q1:∀h b μ',Lease ps hs (if m<0 then 0 else m) n h b->(y<=h\/x<b+n)->Ch [] μ μ'->Z 19 [] μ')
  (q2:∀h b μ' a,0<=h->h<y->0<=b->b+n<=x->Lease ps hs (if m<0 then 0 else m) n h b->μ.length<=a->Ch [g] μ μ'->Bk μ' c g (shp x y z) (ps++[(a,⟨ho,h,b,b+n,b+n,false⟩)])->K (.tup [.int h,.int b,.int (b+n)]) μ'):zw [.mut c,.str ho,hs,.int m,.int n] μ K Z:=by
 unfold zw
 refine⟨rfl,?_⟩
 refine⟨_,B.com,?_⟩
 refine Qz B h0 h1 h2 h3 ?_
 refine⟨_,B.com,?_⟩
 refine Zt B ht hl h3 h2 λh b μ1 hh hm ch=>?_
 have B1:=B.ch ch (by simp) (by simp) (by simp)
 have hb0:0<=b:=by
  have:(0:Int)<=(if m<0 then 0 else m):=by split<;>omega
  rcases hm with⟨_,e,_⟩|⟨_,e,_⟩<;>omega
 refine⟨_,rfl,?_⟩
 refine⟨_,_,_,B1.com,rfl,?_⟩
 refine zH (λe=>?_) (λe=>?_)
 ·exact⟨by show (1:Nat)<=room;decide,q1 h b _ hm (.inl e) ch⟩
 ·refine⟨_,rfl,?_⟩
  refine⟨_,_,_,B1.com,rfl,?_⟩
  refine zH (λe2=>?_) (λe2=>?_)
  ·exact⟨by show (1:Nat)<=room;decide,q1 h b _ hm (.inr e2) ch⟩
  ·refine⟨_,_,_,B1.com,rfl,?_⟩
   refine⟨⟨_,B1.lst⟩,?_⟩
   have gl:g<μ1.length:=(z8h.mp B1.lst).1
   unfold jG
   refine⟨rfl,?_⟩
   refine⟨_,_,zF,by show (0:Nat)<900;decide,?_⟩
   refine⟨_,_,get_set zF,by show (1:Nat)<900;decide,?_⟩
   refine⟨_,rfl,?_⟩
   refine⟨_,_,get_set (get_set zF),by show (2:Nat)<900;decide,?_⟩
   refine⟨_,_,get_set (get_set (get_set zF)),by show (3:Nat)<900;decide,?_⟩
   refine⟨rfl,?_⟩
   have es:∀(μ:Mem) (a b:MO),(μ++[a]).set μ.length b=μ++[b]:=λμ a b=>by rw[zaJ _ _ (z8n _)];simp
   simp only[es]
   refine⟨_,ze B1.lst,by rw[z8B];unfold room;omega,?_⟩
   refine q2 h b _ μ1.length hh (by omega) hb0 (by omega) hm ch.len ?_ ?_
   ·refine (ch.mono (by simp)).trans ((Ch.app.mono (by simp)).trans Ch.set)
   ·have nw:∀p∈ps,p.1≠g/\p.1<μ1.length:=λp hp=>by
     refine⟨λe=>?_,(z8h.mp (B1.at_ p hp)).1⟩
     have:=B1.at_ p hp
     rw[e,B1.lst] at this;cases this
    have cg:c≠g:=λe=>by
     have:=B1.com
     rw[e,B1.lst] at this;cases this
    refine⟨?_,?_,λp hp=>?_,?_⟩
    ·rw[z8S cg.symm];exact ze B1.com
    ·rw[z9f];exact get_set (ze B1.lst)
    ·rcases z8v.mp hp with hp|hp
     ·rw[z8S (nw p hp).1.symm];exact ze (B1.at_ p hp)
     ·rw[z8l.mp hp,z8S (by show g≠μ1.length;omega)];exact zF
    ·rw[z9f,zbi]
     refine⟨B1.nd,by simp,λa ha b hb e=>?_⟩
     obtain⟨p,hp,rfl⟩:=z9b.mp ha
     have hb:b=μ1.length:=by simpa using hb
     have:=(nw p hp).2
     omega
end
section
variable {μ μ1 μ2:Mem}{K:T->Mem->Prop}{Z:Xp}{c g r i0:Nat}{x y z:Int}{ps:List Gp}
def er (ps:List Gp):List Gp:=ps.map λp=>(0,p.2)
theorem Lease.er{hs:T}{m n h b:Int}(a:Lease ps hs m n h b):Lease (er ps) hs m n h b:=by
 have mem:∀{p:Gp},p∈NH.P.er ps->∃q∈ps,q.2=p.2:=λ{p} hp=>by
  obtain⟨q,hq,e⟩:=z9b.mp hp
  exact⟨q,hq,by rw[←e]⟩
 have mem2:∀{q:Gp},q∈ps->((0,q.2):Gp)∈NH.P.er ps:=λ{q} hq=>z9b.mpr ⟨q,hq,rfl⟩
 rcases a with⟨e,e',f0,f1,f2⟩|⟨e,f0,f1,f2⟩
 ·refine .inl ⟨e,e',f0,λp hp ph=>?_,λh' h1 h2=>?_⟩
  ·obtain⟨q,hq,w⟩:=mem hp
   rw[←w] at ph ⊢
   exact f1 q hq ph
  ·obtain⟨q,hq,a1,a2⟩:=f2 h' h1 h2
   exact⟨_,mem2 hq,a1,a2⟩
 ·refine .inr ⟨e,f0,λp hp ph=>?_,λb' h1 h2=>?_⟩
  ·obtain⟨q,hq,w⟩:=mem hp
   rw[←w] at ph ⊢
   exact f1 q hq ph
  ·obtain⟨q,hq,a1,a2⟩:=f2 b' h1 h2
   exact⟨_,mem2 hq,a1,a2⟩
end
section
variable {μ μ1 μ2:Mem}{K:T->Mem->Prop}{Z:Xp}{c g r i0:Nat}{x y z:Int}{ps:List Gp}
theorem qI{sh:T}(q:K .non (μ++[.obj 43 [(9,sh),(10,.mut (μ.length+1))],.lst []])):ql [.mut μ.length,sh] (μ++[.obj 43 []]) K Z:=by
 have es:∀(μ:Mem) (a b:MO),(μ++[a]).set μ.length b=μ++[b]:=λμ a b=>by rw[zaJ _ _ (z8n _)];simp
 unfold ql
 refine⟨rfl,?_⟩
 refine⟨_,_,zF,by show (0:Nat)<900;decide,?_⟩
 rw[es]
 refine⟨_,_,ze zF,by show (1:Nat)<900;decide,?_⟩
 have e2:∀(o a b:MO),((μ++[o])++[a]).set μ.length b=μ++[b,a]:=λo a b=>by
  rw[zec,zaJ _ _ (z8n _)];simp
 rw[e2]
 have e3:(μ++[MO.obj 43 [(9,sh)]]).length=μ.length+1:=by simp
 show K .non (μ++[MO.obj 43 (XD 10 (T.mut (μ++[MO.obj 43 [(9,sh)]]).length) [(9,sh)]),.lst []])
 rw[e3]
 exact q
theorem wW{n b:Int}(h0:0<=n)(h1:n<b)(q:K .non μ):qQ [.int n,.int b] μ K Z:=by
 unfold qQ
 refine⟨rfl,?_⟩
 refine wR h0 h1 ?_
 exact q
theorem VU{m h k:Int}(m0:0<=m)(m1:m<x)(h0:0<=h)(h1:h<y)(k0:0<=k)(k1:k<z):0<=(m * y+h) * z+k/\(m * y+h) * z+k<x * y * z/\((m * y+h) * z+k) / z=m * y+h/\(m * y+h) / y=m/\(m * y+h) % y=h:=by
 have a:((m * y+h) * z+k) / z=m * y+h/\((m * y+h) * z+k) % z=k:=(zde (by omega)).mpr ⟨by rw[zaW z,zfS],k0,k1⟩
 have b:(m * y+h) / y=m/\(m * y+h) % y=h:=(zde (by omega)).mpr ⟨by rw[zaW y,zfS],h0,h1⟩
 have n0:0<=m * y:=z9L m0 (by omega)
 have n1:0<=(m * y+h) * z:=z9L (by omega) (by omega)
 have n2:m * y+y<=x * y:=by
  have:=z8I (show m+1<=x by omega) (show 0<=y by omega)
  rw[z9Z,z9_] at this
  exact this
 have n3:(m * y+h) * z+z<=x * y * z:=by
  have:=z8I (show m * y+h+1<=x * y by omega) (show 0<=z by omega)
  rw[z9Z,z9_] at this
  exact this
 exact⟨by omega,by omega,a.1,b.1,b.2⟩
end
section
variable {μ μ1 μ2:Mem}{K:T->Mem->Prop}{Z:Xp}{x y z:Int}{i:Nat}{sh kp bt:T}{ah sd:Int}
noncomputable abbrev Ls:=Int×Int×Int
def lsT:Option Ls->T
 |none=>.non
 |some l=>.tup [.int l.1,.int l.2.1,.int l.2.2]
noncomputable def opT:Option Int->T
 |none=>.non
 |some m=>.int m
abbrev hsF(sh:T)(ah sd:Int)(kp:T)(l:Option Ls)(m n:Option Int)(bt:T)(fl:Bool):List (Nat×T):=[(9,sh),(14,.int ah),(15,.int sd),(16,kp),(6,lsT l),(17,opT m),(18,opT n),(19,bt),(20,.bl fl)]
abbrev hsO(sh:T)(ah sd:Int)(kp:T)(l:Option Ls)(m n:Option Int)(bt:T)(fl:Bool):MO:=.obj 45 (hsF sh ah sd kp l m n bt fl)
theorem z72:∀(l l':Option Ls),eqT (lsT l) (lsT l')=some (decide (l=l'))
 |none,none=>by simp[lsT,eqT]
 |none,some b=>by simp[lsT,eqT]
 |some a,none=>by simp[lsT,eqT]
 |some (a,b,c),some (d,e,f)=>by
  show eqT (.tup _) (.tup _)=_
  simp only[eqT]
  rw[z84]
  simp[zeR]
theorem z6K:∀(l l':Option Int),eqT (opT l) (opT l')=some (decide (l=l'))
 |none,none=>by simp[opT,eqT]
 |none,some b=>by simp[opT,eqT]
 |some a,none=>by simp[opT,eqT]
 |some a,some b=>by
  by_cases h:a=b
  ·simp[opT,eqT,h]
  ·simp[opT,eqT,h]
theorem z2a{l l':Option Ls}{m m':Option Int}:eqL [lsT l,opT m] [lsT l',opT m']=some (decide (l=l')&&decide (m=m')):=by
 simp[eqL,z72,z6K]
theorem z0a{l:Option Ls}{m:Option Int}:qL [lsT l,opT m]<=40:=by
 cases l<;>cases m<;>simp[lsT,opT,qL,vW]
variable {l l':Option Ls}{m m' n:Option Int}
theorem vS(h:μ[i]?=some (hsO sh ah sd kp l m n bt false))(q:K .non μ):qo [.mut i] μ K Z:=by
 unfold qo
 refine⟨rfl,?_⟩
 refine⟨_,_,_,h,rfl,?_⟩
 exact q
theorem z2l(h:μ[i]?=some (hsO sh ah sd kp l m n bt false))(q:K (.tup [lsT l,opT m]) μ):vJ [.mut i] μ K Z:=by
 unfold vJ
 refine⟨rfl,?_⟩
 refine⟨_,_,_,h,rfl,?_⟩
 refine⟨_,_,_,h,rfl,?_⟩
 exact q
theorem KI(h:μ[i]?=some (hsO sh ah sd kp l m n bt false))(hk:Vm kp)(q:∀μ',Ch [i] μ μ'->μ'.length=μ.length->μ'[i]?=some (hsO sh ah sd kp l' m' n bt false)->K .non μ'):wC [.mut i,lsT l',opT m'] μ K Z:=by
 unfold wC
 refine⟨rfl,?_⟩
 refine⟨_,h,?_⟩
 refine z2l h ?_
 refine⟨z0a,_,z2a,?_⟩
 refine wA (λe=>?_) (λe=>?_)
 ·simp only[z8j,decide_eq_true_eq] at e
  obtain⟨rfl,rfl⟩:=e
  exact q _ Ch.refl rfl h
 ·refine⟨_,_,h,by show (9:Nat)<900;decide,?_⟩
  refine⟨_,_,_,get_set h,rfl,hk,?_⟩
  refine⟨_,_,get_set h,by show (9:Nat)<900;decide,?_⟩
  refine⟨_,_,get_set (get_set h),by show (9:Nat)<900;decide,?_⟩
  refine⟨_,_,get_set (get_set (get_set h)),by show (9:Nat)<900;decide,?_⟩
  refine q _ (((Ch.set.trans Ch.set).trans Ch.set).trans Ch.set) (by simp) ?_
  exact get_set (get_set (get_set (get_set h)))
theorem u6{h f u:Int}(h0:0<=h)(h1:h<y)(f0:0<=f)(fu:f<u)(ux:u<=x)(q:K .non μ):q_ [shp x y z,.tup [.int h,.int f,.int u]] μ K Z:=by
 unfold q_
 refine⟨rfl,?_⟩
 refine V4 h0 h1 f0 fu ux ?_
 exact q
structure LsOk(x y:Int)(l:Ls):Prop where
 h0:0<=l.1
 h1:l.1<y
 f0:0<=l.2.1
 fu:l.2.1<l.2.2
 ux:l.2.2<=x
theorem Zx{a:Ls}(h:μ[i]?=some (hsO (shp x y z) ah sd kp l m n bt false))(hk:Vm kp)(ok:LsOk x y a)(q:∀μ',Ch [i] μ μ'->μ'.length=μ.length->μ'[i]?=some (hsO (shp x y z) ah sd kp (some a) m n bt false)->K .non μ') :
  zZ [.mut i,lsT (some a)] μ K Z:=by
 unfold zZ
 refine⟨rfl,?_⟩
 refine⟨_,h,?_⟩
 refine vS h ?_
 refine⟨_,_,_,h,rfl,?_⟩
 refine u6 ok.h0 ok.h1 ok.f0 ok.fu ok.ux ?_
 refine⟨_,h,?_⟩
 refine⟨_,_,_,h,rfl,?_⟩
 exact KI h hk q
theorem yR{a:Int}(h:0<=a)(q:K (.bl true) μ):qm [.int a] μ K Z:=by
 unfold qm
 refine⟨rfl,?_⟩
 refine zK ?_
 have q:K (.bl (decide (0<=a))) μ:=by rw[decide_eq_true h];exact q
 exact q
theorem Zi(h:μ[i]?=some (.obj 45 []))(ha:0<=ah)(hs:0<=sd)(q:∀μ',Ch [i] μ μ'->μ'.length=μ.length->μ'[i]?=some (hsO sh ah sd kp none none none (.lst []) false)->K .non μ') :
  qN [.mut i,sh,.int ah,.int sd,kp,.non] μ K Z:=by
 unfold qN
 refine⟨rfl,?_⟩
 refine yR ha ?_
 refine yR hs ?_
 refine⟨_,_,h,by show (0:Nat)<900;decide,?_⟩
 refine⟨_,_,get_set h,by show (1:Nat)<900;decide,?_⟩
 refine⟨_,_,get_set (get_set h),by show (2:Nat)<900;decide,?_⟩
 refine⟨_,_,get_set (get_set (get_set h)),by show (3:Nat)<900;decide,?_⟩
 refine⟨_,_,get_set (get_set (get_set (get_set h))),by show (4:Nat)<900;decide,?_⟩
 refine⟨_,_,get_set (get_set (get_set (get_set (get_set h)))),by show (5:Nat)<900;decide,?_⟩
 refine⟨_,_,get_set (get_set (get_set (get_set (get_set (get_set h))))),by show (6:Nat)<900;decide,?_⟩
 refine⟨_,_,get_set (get_set (get_set (get_set (get_set (get_set (get_set h)))))),by show (7:Nat)<900;decide,?_⟩
 refine⟨_,_,get_set (get_set (get_set (get_set (get_set (get_set (get_set (get_set h))))))),by show (8:Nat)<900;decide,?_⟩
 refine q _ ((((((((Ch.set.trans Ch.set).trans Ch.set).trans Ch.set).trans Ch.set).trans Ch.set).trans Ch.set).trans Ch.set).trans Ch.set) (by simp) ?_
 exact get_set (get_set (get_set (get_set (get_set (get_set (get_set (get_set (get_set h))))))))
structure Hz(x y z:Int):Prop where
 x1:1<=x
 y1:1<=y
 y2:y<=1000000
 z1:1<=z
 z2:z<=1000000
theorem Hz.sy(s:Hz x y z):Sy y z:=⟨s.y1,by have:=s.y2;omega,s.z1,by have:=s.z2;omega⟩
theorem yg{k:Int}(s:Hz x y z)(h0:0<=k)(h1:k<x * y * z)(q:K (.tup [.int (k / z / y),.int (k / z % y),.int (k % z)]) μ):wZ [shp x y z,.int k] μ K Z:=by
 obtain⟨x1,y1,y2,z1,z2⟩:=id s
 unfold wZ
 refine⟨rfl,?_⟩
 refine ZA s.sy (by rw[decide_eq_true h0,decide_eq_true h1];rfl) ?_
 refine⟨by omega,⟨by omega,by omega⟩,⟨by omega,by omega⟩,by omega,?_⟩
 exact q
noncomputable def plA(y z h k:Int):Int:=if k / z % y<h then k / z / y * z else if h<k / z % y then (k / z / y+1) * z else k / z / y * z+k % z+1
theorem uG{h k:Int}(s:Hz x y z)(h0:0<=k)(h1:k<x * y * z)(q:K (.int (plA y z h k)) μ):wM [shp x y z,.int h,.int k] μ K Z:=by
 obtain⟨x1,y1,y2,z1,z2⟩:=id s
 unfold wM
 refine⟨rfl,?_⟩
 refine yg s h0 h1 ?_
 refine⟨_,rfl,?_⟩
 unfold plA at q
 refine zH (λe=>?_) (λe=>?_)
 ·rw[if_pos e] at q
  refine⟨_,rfl,.inr ⟨by unfold big;omega,by unfold big;omega⟩,?_⟩
  exact q
 ·rw[if_neg e] at q
  refine⟨_,rfl,?_⟩
  refine zH (λe=>?_) (λe=>?_)
  ·rw[if_pos e] at q
   refine⟨_,rfl,.inr ⟨by unfold big;omega,by unfold big;omega⟩,?_⟩
   exact q
  ·rw[if_neg e] at q
   refine⟨_,rfl,.inr ⟨by unfold big;omega,by unfold big;omega⟩,?_⟩
   refine⟨_,rfl,?_⟩
   exact q
noncomputable abbrev z3Z(h b e:Int):T:=.obj 44 [(11,.int h),(12,.int b),(13,.int e)]
end
section
variable {μ μ1 μ2:Mem}{K:T->Mem->Prop}{Z:Xp}{x y z:Int}{i:Nat}{sh kp bt:T}{ah sd:Int}{l l':Option Ls}{m m' n:Option Int}
noncomputable def nmA(y z h p:Int):Int:=(p / z * y+h) * z+p % z
def nmL (y z h b k:Int):List Int:=(z9i k.toNat).map λ(j:Nat)=>nmA y z h (b+j)
theorem uJ{mo h k:Int}(s:Hz x y z)(m0:0<=mo)(m1:mo<x)(h0:0<=h)(h1:h<y)(k0:0<=k)(k1:k<z)(q:K (.int ((mo * y+h) * z+k)) μ):ki [shp x y z,.int mo,.int h,.int k] μ K Z:=by
 obtain⟨x1,y1,y2,z1,z2⟩:=id s
 unfold ki
 refine⟨rfl,?_⟩
 refine wW m0 m1 ?_
 refine wW h0 h1 ?_
 refine wW k0 k1 ?_
 refine⟨.inr ⟨by unfold big;omega,by unfold big;omega⟩,?_⟩
 refine⟨.inr ⟨by unfold big;omega,by unfold big;omega⟩,?_⟩
 exact q
theorem place_lt{p:Int}(s:Hz x y z)(h1:p<x * z):p / z<x:=by
 have:=s.z1
 exact Int.ediv_lt_of_lt_mul (by omega) h1
theorem uY{h p:Int}(s:Hz x y z)(p0:0<=p)(p1:p<x * z)(h0:0<=h)(h1:h<y)(q:K (.int (nmA y z h p)) μ):kP [shp x y z,.int h,.int p] μ K Z:=by
 obtain⟨x1,y1,y2,z1,z2⟩:=id s
 unfold kP
 refine⟨rfl,?_⟩
 refine⟨⟨by omega,by omega⟩,?_⟩
 refine⟨by omega,?_⟩
 exact uJ s (zcU p0 (by omega)) (place_lt s p1) h0 h1 (z8C _ (by omega)) (z8z _ (by omega)) q
theorem JV{b k:Int}(hk:1<=k):xJ b (b+k) 1=(z9i k.toNat).map λ(j:Nat)=>T.int (b+j):=by
 unfold xJ
 rw[if_pos (by omega)]
 have:(b+k-b-1) / 1+1=k:=by rw[zdZ];omega
 rw[this]
 simp
theorem kc{h b k:Int}(s:Hz x y z)(hb:x * z<1000000000000000000000000000000000000000000000000000000000000)(b0:0<=b)(k1:1<=k)(k2:k<=1000000)(be:b+k<=x * z)(h0:0<=h)(h1:h<y)(q:K (.lst ((nmL y z h b k).map T.int)) μ):qG [shp x y z,z3Z h b (b+k)] μ K Z:=by
 unfold qG
 refine⟨rfl,?_⟩
 refine⟨⟨⟨by omega,by omega⟩,⟨by omega,by omega⟩⟩,?_⟩
 rw[JV k1]
 refine⟨by rw[z8B,List.length_range];unfold room;omega,?_⟩
 refine qC (λ(j:Nat)=>T.int (b+j)) (λ(j:Nat)=>some (T.int (nmA y z h (b+j)))) (λj hj kk hkk=>?_) ?_ trivial
 ·have hj:j<k.toNat:=zbO.mp hj
  refine⟨_,rfl,?_⟩
  exact uY s (by omega) (by omega) h0 h1 hkk
 ·rw[z9h]
  unfold nmL at q
  rw[zah] at q
  exact q
theorem u_{mo:Int}(h:μ[i]?=some (hsO (shp x y z) ah sd kp l m n bt false))(q:∀mb:Int,K (.int mb) μ):qi [.mut i,.int mo] μ K Z:=by
 unfold qi
 refine⟨rfl,?_⟩
 refine⟨_,_,_,h,rfl,?_⟩
 have fin:∀τ:Sl,τ=[some (.mut i),some (.int mo)]->zM (qx.drop 1) τ μ (En.fn K Z):=λτ e=>by
  subst e
  refine⟨_,_,_,h,rfl,?_⟩
  refine⟨_,_,_,h,rfl,?_⟩
  exact q _
 cases m with
 |none=>exact fin _ rfl
 |some mm=>
  refine⟨_,_,_,h,rfl,?_⟩
  refine zH (λe=>?_) (λe=>?_)
  ·refine⟨_,_,_,h,rfl,?_⟩
   exact q mm
  ·exact fin _ rfl
end
section
variable {μ μ1 μ2:Mem}{K:T->Mem->Prop}{Z:Xp}{x y z:Int}{i:Nat}{sh kp bt:T}{ah sd:Int}{l l':Option Ls}{m m' n:Option Int}
theorem Wt{z a b c d:Int}(c0:0<=c)(c1:c<z)(d0:0<=d)(d1:d<z):a * z+c<b * z+d↔a<b\/(a=b/\c<d):=by
 have up:∀{p q:Int},p<q->p * z+z<=q * z:=λ{p q} h=>by
  have:=z8I (show p+1<=q by omega) (show 0<=z by omega)
  rw[z9Z,z9_] at this
  exact this
 constructor
 ·intro h
  by_cases e:a<b
  ·exact .inl e
  ·by_cases e2:a=b
   ·subst e2;exact .inr ⟨rfl,by omega⟩
   ·have:=up (show b<a by omega);omega
 ·rintro (h|⟨rfl,h⟩)
  ·have:=up h;omega
  ·omega
theorem UU(k:Int)(y z:Int):k=(k / z / y * y+k / z % y) * z+k % z:=by
 have e1:=za7 k z
 have e2:=za7 (k / z) y
 rw[zaW (k / z / y) y,e2,zaW (k / z) z]
 exact e1.symm
theorem z3h{h k p:Int}(s:Hz x y z)(h0:0<=h)(h1:h<y):k<nmA y z h p↔plA y z h k<=p:=by
 obtain⟨x1,y1,y2,z1,z2⟩:=id s
 have c0:=z8C k (show z≠0 by omega)
 have c1:=z8z k (show 0<z by omega)
 have d0:=z8C p (show z≠0 by omega)
 have d1:=z8z p (show 0<z by omega)
 have a0:=z8C (k / z) (show y≠0 by omega)
 have a1:=z8z (k / z) (show 0<y by omega)
 have ep:=za7 p z
 have ek:=UU k y z
 unfold nmA plA
 conv=>lhs;lhs;rw[ek]
 rw[Wt c0 c1 d0 d1,Wt a0 a1 h0 h1]
 have le:∀A:Int,A * z<=p↔A<=p / z:=λA=>(Int.le_ediv_iff_mul_le (by omega)).symm
 have eqA:∀A B:Int,A * y+k / z % y=B * y+h↔A=B/\k / z % y=h:=λA B=>by
  have l1:=Wt (z:=y) (a:=A) (b:=B) (c:=k / z % y) (d:=h) a0 a1 h0 h1
  have l2:=Wt (z:=y) (a:=B) (b:=A) (c:=h) (d:=k / z % y) h0 h1 a0 a1
  constructor
  ·intro e
   have n1:¬(A<B\/(A=B/\k / z % y<h)):=λw=>by have:=l1.mpr w;omega
   have n2:¬(B<A\/(B=A/\h<k / z % y)):=λw=>by have:=l2.mpr w;omega
   omega
  ·rintro⟨rfl,e⟩;rw[e]
 rw[eqA]
 split
 ·rename_i e
  rw[le];omega
 ·split
  ·rename_i e1 e2
   rw[le];omega
  ·rename_i e1 e2
   have e3:k / z % y=h:=by omega
   have lx:=Wt (z:=z) (a:=k / z / y) (b:=p / z) (c:=k % z) (d:=p % z) c0 c1 d0 d1
   have:p=p / z * z+p % z:=by rw[zaW];exact ep.symm
   constructor
   ·intro w
    have:=lx.mpr (by omega)
    omega
   ·intro w
    have:=lx.mp (by omega)
    omega
theorem Kf{h p q:Int}(s:Hz x y z)(h0:0<=h)(h1:h<y)(pq:p<q):nmA y z h p<nmA y z h q:=by
 obtain⟨x1,y1,y2,z1,z2⟩:=id s
 have c0:=z8C p (show z≠0 by omega)
 have c1:=z8z p (show 0<z by omega)
 have d0:=z8C q (show z≠0 by omega)
 have d1:=z8z q (show 0<z by omega)
 have e1:p=p / z * z+p % z:=by rw[zaW];exact (za7 p z).symm
 have e2:q=q / z * z+q % z:=by rw[zaW];exact (za7 q z).symm
 have lx:=(Wt (z:=z) (a:=p / z) (b:=q / z) (c:=p % z) (d:=q % z) c0 c1 d0 d1).mp (by omega)
 unfold nmA
 rw[Wt c0 c1 d0 d1]
 rcases lx with w|⟨w,v⟩
 ·have:=(Wt (z:=y) (a:=p / z) (b:=q / z) (c:=h) (d:=h) h0 h1 h0 h1).mpr (.inl w)
  exact .inl this
 ·rw[w];exact .inr ⟨rfl,v⟩
theorem z2F{h p:Int}(s:Hz x y z)(h0:0<=h)(h1:h<y)(p0:0<=p)(p1:p<x * z):0<=nmA y z h p/\nmA y z h p<x * y * z:=by
 obtain⟨x1,y1,y2,z1,z2⟩:=id s
 have:=VU (x:=x) (y:=y) (z:=z) (zcU p0 (show 0<=z by omega)) (place_lt s p1) h0 h1 (z8C p (show z≠0 by omega)) (z8z p (show 0<z by omega))
 exact⟨this.1,this.2.1⟩
variable {a:Ls}{r k:Int}{c:Nat}
end
section
variable {μ μ1 μ2:Mem}{K:T->Mem->Prop}{Z:Xp}{x y z h:Int}{i:Nat}{sh kp bt:T}{ah sd:Int}{l l':Option Ls}{m m' n:Option Int}{a:Ls}{r k:Int}{c:Nat}
theorem jf{b:Int}:(nmL y z h b k).length=k.toNat:=by unfold nmL;simp
theorem z1a{b k1 k2:Int}(h1:0<=k1)(h2:0<=k2):nmL y z h b (k1+k2)=nmL y z h b k1++nmL y z h (b+k1) k2:=by
 unfold nmL
 have e:(k1+k2).toNat=k1.toNat+k2.toNat:=by omega
 rw[e,List.range_add,z9f,zah]
 congr 1
 refine zdl λj _=>?_
 show nmA y z h (b+((k1.toNat+j:Nat):Int))=nmA y z h (b+k1+(j:Int))
 congr 1
 push_cast
 omega
end
section
variable {μ μ1 μ2:Mem}{K:T->Mem->Prop}{Z:Xp}{x y z:Int}{i bi:Nat}{sh kp bt:T}{ah sd:Int}{l l':Option Ls}{m m' n:Option Int}{a:Ls}{r k h c:Int}
def xY(y z h:Int)(n m:Option Int):Int:=match n with
 |some k=>plA y z h k
 |none=>(match m with|none=>0|some mm=>(mm+1) * z)
theorem y4(s:Hz x y z)(ho:μ[i]?=some (hsO (shp x y z) ah sd kp (some a) m n bt false))(hn:∀k,n=some k->0<=k/\k<x * y * z)(q:K (.int (xY y z a.1 n m)) μ):qr [.mut i] μ K Z:=by
 obtain⟨x1,y1,y2,z1,z2⟩:=id s
 unfold qr
 refine⟨rfl,?_⟩
 refine⟨_,_,_,ho,rfl,?_⟩
 cases n with
 |some k=>
  refine⟨_,_,_,ho,rfl,?_⟩
  refine⟨_,_,_,ho,rfl,?_⟩
  refine⟨_,rfl,?_⟩
  refine⟨_,_,_,ho,rfl,?_⟩
  exact uG s (hn k rfl).1 (hn k rfl).2 q
 |none=>
  refine⟨_,_,_,ho,rfl,?_⟩
  cases m with
  |none=>exact q
  |some mm=>
   refine⟨_,_,_,ho,rfl,?_⟩
   refine⟨_,_,_,ho,rfl,?_⟩
   refine⟨.inr ⟨by unfold big;omega,by unfold big;omega⟩,?_⟩
   exact q
def AtC (y z:Int)(a:Ls)(n m:Option Int)(r c:Int):Prop:=(xY y z a.1 n m<=r * z/\c=0)\/(xY y z a.1 n m=r * z+c/\0<c)
theorem YA(s:Hz x y z)(ok:LsOk x y a)(ho:μ[i]?=some (hsO (shp x y z) ah sd kp (some a) m n bt false))(hn:∀k,n=some k->0<=k/\k<x * y * z)(ha:0<=ah)(hr:a.2.1<=r)(hu:r<a.2.2)(k1:1<=k)(hc:AtC y z a n m r c)(ck:c+k<=z)(q:K (z3Z a.1 (r * z+c) (r * z+c+k)) μ) :
  zd [.mut i,.int r,.int k] μ K Z:=by
 obtain⟨x1,y1,y2,z1,z2⟩:=id s
 have f0:=ok.f0
 have c0:0<=c:=by rcases hc with w|w<;>omega
 have uz:r * z+z<=a.2.2 * z:=by
  have:=z8I (show r+1<=a.2.2 by omega) (show 0<=z by omega)
  rw[z9Z,z9_] at this
  exact this
 have eM:(if a.2.1<r then r else a.2.1)=r:=by split<;>omega
 have eB:(if xY y z a.1 n m<r * z then r * z else xY y z a.1 n m)=r * z+c:=by
  rcases hc with⟨w,v⟩|⟨w,v⟩
  ·rw[v]
   by_cases e:xY y z a.1 n m<r * z
   ·rw[if_pos e];omega
   ·rw[if_neg e];omega
  ·rw[if_neg (by omega),w]
 have eD:(r * z+c+k-1) / z=r:=by
  have:r * z+c+k-1=(c+k-1)+r * z:=by omega
  rw[this,zaB _ _ (by omega),zbk (by omega) (by omega)]
  omega
 have fin:∀B L:Int,B=r * z+c->zM (qf.drop 5) [some (.mut i),some (.int r),some (.int k),some (.int L),some (.int B),none,none] μ (En.fn K Z):=by
  intro B L hB
  subst hB
  refine⟨_,_,_,ho,rfl,?_⟩
  refine⟨_,rfl,?_⟩
  refine⟨_,_,_,ho,rfl,?_⟩
  refine⟨.inr ⟨by unfold big;omega,by unfold big;omega⟩,?_⟩
  refine jM (by omega) ?_
  refine⟨_,_,_,ho,rfl,?_⟩
  refine⟨⟨by omega,by omega⟩,?_⟩
  refine⟨_,_,_,ho,rfl,?_⟩
  refine jM (by rw[eD];omega) ?_
  refine⟨_,_,_,ho,rfl,?_⟩
  refine⟨_,rfl,?_⟩
  refine⟨rfl,?_⟩
  unfold jB
  refine⟨rfl,?_⟩
  refine⟨_,_,rfl,by show (0:Nat)<900;decide,?_⟩
  refine⟨_,_,rfl,by show (1:Nat)<900;decide,?_⟩
  refine⟨_,_,rfl,by show (2:Nat)<900;decide,?_⟩
  refine⟨rfl,_,rfl,rfl,?_⟩
  exact q
 unfold zd
 refine⟨rfl,?_⟩
 refine zL ?_
 rw[decide_eq_true k1]
 refine⟨_,_,_,ho,rfl,?_⟩
 refine jM (by omega) ?_
 refine zK ?_
 refine⟨_,ho,?_⟩
 unfold zE
 refine⟨rfl,?_⟩
 refine⟨_,_,_,ho,rfl,?_⟩
 refine⟨_,_,_,ho,rfl,?_⟩
 refine⟨_,rfl,?_⟩
 refine⟨_,_,_,ho,rfl,?_⟩
 refine⟨.inr ⟨by unfold big;omega,by unfold big;omega⟩,?_⟩
 refine⟨_,ho,?_⟩
 refine y4 s ho hn ?_
 exact fin _ _ (by rw[eM];exact eB)
theorem z0E(s:Hz x y z)(ok:LsOk x y a)(hk:Vm kp)(ho:μ[i]?=some (hsO (shp x y z) ah sd kp (some a) m n bt false))(hn:∀k,n=some k->0<=k/\k<x * y * z)(ha:0<=ah)(hr:a.2.1<=r)(hu:r<a.2.2)(k1:1<=k)(hc:AtC y z a n m r c)(ck:c+k<=z)
  (q:∀μ' mb,Ch [i] μ μ'->μ'.length=μ.length->μ'[i]?=some (hsO (shp x y z) ah sd kp (some a) (some mb) (some (nmA y z a.1 (r * z+c+k-1))) bt false)->K (z3Z a.1 (r * z+c) (r * z+c+k)) μ') :
  zO [.mut i,.int r,.int k] μ K Z:=by
 obtain⟨x1,y1,y2,z1,z2⟩:=id s
 have f0:=ok.f0
 have c0:0<=c:=by rcases hc with w|w<;>omega
 have rz0:0<=r * z:=z9L (by omega) (by omega)
 have uz:r * z+z<=a.2.2 * z:=by
  have:=z8I (show r+1<=a.2.2 by omega) (show 0<=z by omega)
  rw[z9Z,z9_] at this
  exact this
 have ux:a.2.2 * z<=x * z:=z8I ok.ux (by omega)
 unfold zO
 refine⟨rfl,?_⟩
 refine⟨_,ho,?_⟩
 refine vS ho ?_
 refine⟨_,ho,?_⟩
 refine YA s ok ho hn ha hr hu k1 hc ck ?_
 refine⟨_,ho,?_⟩
 refine⟨_,_,_,ho,rfl,?_⟩
 refine⟨_,ho,?_⟩
 refine⟨_,_,_,ho,rfl,?_⟩
 refine⟨⟨by omega,by omega⟩,?_⟩
 refine u_ ho λmb=>?_
 refine KI (l':=some a) (m':=some mb) ho hk λμ' ch hl h'=>?_
 refine⟨_,_,_,h',rfl,?_⟩
 refine uY s (by omega) (by omega) ok.h0 ok.h1 ?_
 refine⟨_,_,h',by show (9:Nat)<900;decide,?_⟩
 refine q _ mb (ch.trans Ch.set) (by simp[hl]) ?_
 exact get_set h'
end
section
variable {μ μ1 μ2:Mem}{K:T->Mem->Prop}{Z:Xp}{x y z:Int}{i c g d w:Nat}
theorem WB{k k':Key}{t:T}:∀kvs:List (Key×T),zi k' (kvs.map λkv=>if kv.1=k then (kv.1,t) else kv)=if k'=k then (zi k kvs).map λ_=>t else zi k' kvs
 |[]=>by simp[zi]
 |p::r=>by
  have ih:=WB (k:=k) (k':=k') (t:=t) r
  by_cases e:p.1=k
  ·by_cases e2:k'=k
   ·simp[zi,e,e2]
   ·have e3:¬k=k':=λw=>e2 w.symm
    simp only[z8R,e,if_true,zi,if_neg e3,if_neg e2] at ih ⊢
    exact ih
  ·by_cases e2:k'=k
   ·subst e2
    simp only[z8R,if_neg e,zi,if_true] at ih ⊢
    exact ih
   ·simp only[z8R,if_neg e,zi,if_neg e2] at ih ⊢
    by_cases e4:p.1=k'
    ·simp[e4]
    ·simp only[if_neg e4];exact ih
theorem Vp{k:Key}:∀kvs:List (Key×T),(kvs.any λkv=>decide (kv.1=k))=(zi k kvs).isSome
 |[]=>rfl
 |p::r=>by
  rw[z9Y,Vp r]
  by_cases e:p.1=k
  ·simp[zi,e]
  ·simp[zi,e]
theorem Qo{k k':Key}{t:T}:∀kvs:List (Key×T),zi k kvs=none->zi k' (kvs++[(k,t)])=if k'=k then some t else zi k' kvs
 |[],_=>by
  by_cases e:k'=k
  ·simp[zi,e]
  ·have:¬k=k':=λw=>e w.symm
   simp[zi,e,this]
 |p::r,h=>by
  unfold zi at h
  by_cases e:p.1=k
  ·rw[if_pos e] at h;cases h
  ·rw[if_neg e] at h
   have ih:=Qo (k':=k') (t:=t) r h
   show zi k' (p::(r++[(k,t)]))=_
   unfold zi
   by_cases e2:p.1=k'
   ·have:¬k'=k:=λw=>e (e2.trans w)
    simp[e2,this]
   ·rw[if_neg e2,if_neg e2,ih]
theorem vh{k k':Key}{t:T}(kvs:List (Key×T)):zi k' (vR k t kvs)=if k'=k then some t else zi k' kvs:=by
 unfold vR
 rw[Vp]
 cases h:zi k kvs with
 |none=>rw[if_neg (by simp)];exact Qo kvs h
 |some v=>rw[if_pos (by simp),WB,h];rfl
structure Hs where
 a:Ls
 n:Option Int
inductive Row where
 |lease (ho:Str) (hs:Option Int) (m n:Int)
 |ask (ho:Str) (r k:Int)
def Row.t:Row->T
 |.lease ho hs m n=>.tup [.str "lease",.str ho,opT hs,.int m,.int n]
 |.ask ho r k=>.tup [.str "ask",.str ho,.int r,.int k]
structure S7 where
 G:List Gp
 hm:Str->Option Hs
 td:List (Str×Int)
noncomputable def upH(hm:Str->Option Hs)(ho:Str)(h:Hs):Str->Option Hs:=λs=>if s=ho then some h else hm s
structure HoOk(ho:Str):Prop where
 l:ho.length<=room
 h:jc ho=true
def Sp7 (x y z:Int)(r:Row)(s s':S7):Prop:=match r with
 |.lease ho hs m n=>HoOk ho/\(∀h,hs=some h->0<=h/\h<y)/\1<=n/\∃h b,0<=h/\h<y/\0<=b/\b+n<=x/\Lease s.G (opT hs) (if m<0 then 0 else m) n h b/\s'=⟨s.G++[(0,⟨ho,h,b,b+n,b+n,false⟩)],upH s.hm ho ⟨(h,b,b+n),(s.hm ho).bind Hs.n⟩,s.td⟩
 |.ask ho r k=>HoOk ho/\∃hh c,s.hm ho=some hh/\hh.a.2.1<=r/\r<hh.a.2.2/\1<=k/\k<=1000/\c+k<=z/\AtC y z hh.a hh.n none r c/\s'=⟨s.G,upH s.hm ho ⟨hh.a,some (nmA y z hh.a.1 (r * z+c+k-1))⟩,s.td++(nmL y z hh.a.1 (r * z+c) k).map λv=>(ho,v)⟩
def Run7 (x y z:Int):List Row->S7->S7->Prop
 |[],s,t=>t=s
 |r::rs,s,t=>∃m,Sp7 x y z r s m/\Run7 x y z rs m t
theorem Run7.snoc{r:Row}{m t:S7}:∀{rs:List Row} {s:S7},Run7 x y z rs s m->Sp7 x y z r m t->Run7 x y z (rs++[r]) s t
 |[],s,h,q=>by cases h;exact⟨t,q,rfl⟩
 |a::rs,s,⟨u,h1,h2⟩,q=>⟨u,h1,Run7.snoc h2 q⟩
structure WF(x y z:Int)(s:S7):Prop where
 ls:∀ho hh,s.hm ho=some hh->LsOk x y hh.a
 nm:∀ho hh v,s.hm ho=some hh->hh.n=some v->0<=v/\v<x * y * z
theorem Sp7.wf{r:Row}{s t:S7}(sz:Hz x y z)(w:WF x y z s)(h:Sp7 x y z r s t):WF x y z t:=by
 cases r with
 |lease ho hs m n=>
  obtain⟨_,_,n1,h,b,h0,h1,b0,bx,_,rfl⟩:=h
  refine⟨λho' hh e=>?_,λho' hh v e ev=>?_⟩
  ·have e:(if ho'=ho then some _ else s.hm ho')=some hh:=e
   by_cases q:ho'=ho
   ·rw[if_pos q] at e;cases e
    exact⟨h0,h1,b0,by show b<b+n;omega,bx⟩
   ·rw[if_neg q] at e;exact w.ls _ _ e
  ·have e:(if ho'=ho then some _ else s.hm ho')=some hh:=e
   by_cases q:ho'=ho
   ·rw[if_pos q] at e;cases e
    have ev:(s.hm ho).bind Hs.n=some v:=ev
    obtain⟨h2,e2,e3⟩:=zcE.mp ev
    exact w.nm _ _ _ e2 e3
   ·rw[if_neg q] at e;exact w.nm _ _ _ e ev
 |ask ho r k=>
  obtain⟨_,hh0,c,e0,r0,r1,k1,k2,ck,at_,rfl⟩:=h
  have ok:=w.ls _ _ e0
  refine⟨λho' hh e=>?_,λho' hh v e ev=>?_⟩
  ·have e:(if ho'=ho then some _ else s.hm ho')=some hh:=e
   by_cases q:ho'=ho
   ·rw[if_pos q] at e;cases e;exact ok
   ·rw[if_neg q] at e;exact w.ls _ _ e
  ·have e:(if ho'=ho then some _ else s.hm ho')=some hh:=e
   by_cases q:ho'=ho
   ·rw[if_pos q] at e;cases e
    cases ev
    have z1:=sz.z1
    have f0:=ok.f0
    have c0:0<=c:=by rcases at_ with q|q<;>omega
    have rz:0<=r * z:=z9L (by omega) (by omega)
    have uz:=z8I (show r+1<=x by have:=ok.ux;omega) (show 0<=z by omega)
    rw[z9Z,z9_] at uz
    exact z2F sz ok.h0 ok.h1 (by omega) (by omega)
   ·rw[if_neg q] at e;exact w.nm _ _ _ e ev
theorem z4F{a:Ls}{n m:Option Int}{r k cc:Int}(s:Hz x y z)(hb:x * z<1000000000000000000000000000000000000000000000000000000000000)(ok:LsOk x y a){kp bt:T}{ah sd:Int}(hk:Vm kp)(ho:μ[i]?=some (hsO (shp x y z) ah sd kp (some a) m n bt false))(hn:∀k,n=some k->0<=k/\k<x * y * z)(ha:0<=ah)(hr:a.2.1<=r)(hu:r<a.2.2)(k1:1<=k)(k3:k<=1000)(hc:AtC y z a n m r cc)(ck:cc+k<=z)
  (q:∀μ' mb,Ch [i] μ μ'->μ'.length=μ.length->μ'[i]?=some (hsO (shp x y z) ah sd kp (some a) (some mb) (some (nmA y z a.1 (r * z+cc+k-1))) (.lst []) false)->K (.lst ((nmL y z a.1 (r * z+cc) k).map T.int)) μ') :
  qq [.mut i,.int r,.int k] μ K Z:=by
 obtain⟨x1,y1,y2,z1,z2⟩:=id s
 have c0:0<=cc:=by rcases hc with w|w<;>omega
 have f0:=ok.f0
 have rz0:0<=r * z:=z9L (by omega) (by omega)
 have uz:r * z+z<=a.2.2 * z:=by
  have:=z8I (show r+1<=a.2.2 by omega) (show 0<=z by omega)
  rw[z9Z,z9_] at this
  exact this
 have ux:a.2.2 * z<=x * z:=z8I ok.ux (by omega)
 unfold qq
 refine⟨rfl,?_⟩
 refine⟨_,ho,?_⟩
 refine z0E s ok hk ho hn ha hr hu k1 hc ck λμ' mb ch hl h'=>?_
 refine⟨_,_,h',by show (9:Nat)<900;decide,?_⟩
 refine⟨_,_,_,get_set h',rfl,?_⟩
 refine kc s hb (by omega) k1 (by omega) (by omega) ok.h0 ok.h1 ?_
 exact q _ mb (ch.trans Ch.set) (by simp[hl]) (get_set h')
noncomputable abbrev kp7:T:=.clo 1 []
theorem z6t:Vm kp7:=.inr (.inl rfl)
abbrev hs7(x y z:Int)(l:Option Ls)(m n:Option Int):MO:=hsO (shp x y z) 0 0 kp7 l m n (.lst []) false
structure HD(μ:Mem)(x y z:Int)(kvs:List (Key×T))(hm:Str->Option Hs):Prop where
 no:∀ho,hm ho=none->zi (.inr ho) kvs=none
 so:∀ho hh,hm ho=some hh->∃i m,zi (.inr ho) kvs=some (.mut i)/\μ[i]?=some (hs7 x y z (some hh.a) m hh.n)/\(hh.n=none->m=none)
 inj:∀ho ho' i,zi (.inr ho) kvs=some (.mut i)->zi (.inr ho') kvs=some (.mut i)->ho=ho'
theorem wO{ho:Str}{kvs:List (Key×T)}{hm:Str->Option Hs}(H:HD μ x y z kvs hm)(hd:μ[d]?=some (.dic kvs))(hl:kvs.length<=1000)(o:HoOk ho)
  (q1:∀i,zi (.inr ho) kvs=some (.mut i)->K (.mut i) μ)
  (q2:hm ho=none->∀μ',Ch [d] μ μ'->μ'[d]?=some (.dic (vR (.inr ho) (.mut μ.length) kvs))->μ'[μ.length]?=some (hs7 x y z none none none)->K (.mut μ.length) μ') :
  wm [.mut d,shp x y z,.str ho] μ K Z:=by
 have dl:d<μ.length:=(z8h.mp hd).1
 unfold wm
 refine⟨rfl,?_⟩
 refine qc o.l o.h ?_
 refine⟨_,hd,?_⟩
 cases h:hm ho with
 |some hh=>
  obtain⟨i,m,h1,h2,h3⟩:=H.so ho hh h
  refine z4q (by rw[h1];rfl) ?_
  exact⟨_,_,hd,h1,q1 i h1⟩
 |none=>
  have h1:=H.no ho h
  refine z7D (by rw[h1];rfl) ?_
  refine Zi zF (z9q _) (z9q _) λμ1 ch hl1 h2=>?_
  refine⟨rfl,?_⟩
  have d1:=ch.get (ze hd) (by simp;omega)
  refine⟨_,d1,by unfold room;omega,?_⟩
  have d2:=get_set (y:=.dic (vR (.inr ho) (.mut μ.length) kvs)) d1
  refine⟨_,_,d2,by rw[vh,if_pos rfl],?_⟩
  refine q2 h _ ?_ d2 ?_
  ·have c1:Ch [] μ μ1:=⟨z8G Ch.app.len ch.len,λj hj hs=>by
    rw[ch.ot j (z8w hj Ch.app.len) (by simp;omega)]
    exact z8p hj⟩
   exact (c1.mono (by simp)).trans Ch.set
  ·rw[z8S (by omega)]
   exact h2
theorem jO{r:Row}(q:K (.bl true) μ):zk [r.t] μ K Z:=by
 unfold zk
 cases r with
 |lease ho hs m n=>
  refine⟨rfl,?_⟩
  refine⟨_,rfl,?_⟩
  refine⟨_,rfl,?_⟩
  refine⟨_,rfl,by intro t ht;simp at ht;rcases ht with rfl|rfl<;>rfl,?_⟩
  exact q
 |ask ho r k=>
  refine⟨rfl,?_⟩
  refine⟨_,rfl,?_⟩
  refine⟨_,rfl,?_⟩
  refine⟨_,rfl,by intro t ht;simp at ht;rcases ht with rfl|rfl<;>rfl,?_⟩
  exact q
end
section
variable {μ μ1 μ2:Mem}{K:T->Mem->Prop}{Z:Xp}{x y z:Int}{i c g d w L:Nat}{kvs:List (Key×T)}{s t:S7}{ps:List Gp}{o0 o1 o6 o7:Option T}
@[reducible] def Z3:List Ds:=[(zj 6 (eIx (eV 5) (eC (.int 1)))),(zj 7 (z7 wm [(eV 3),(eV 0),(eV 6)])),(sIf (tE (zr .Eq (eIx (eV 5) (eC (.int 0))) (eC (.str "lease")))) [(qb (qd 45 zZ (eV 7) [(qd 43 zw (eV 2) [(eV 6),(eIx (eV 5) (eC (.int 2))),(eIx (eV 5) (eC (.int 3))),(eIx (eV 5) (eC (.int 4)))])]))] [(qb (Y7 (eV 4) (qY 1 [6] (.one 0) (iE (qd 45 qq (eV 7) [(eIx (eV 5) (eC (.int 2))),(eIx (eV 5) (eC (.int 3)))])) [] (zy [(eV 1),(eV 0)]))))])]
noncomputable abbrev prT(p:Str×Int):T:=.tup [.str p.1,.int p.2]
theorem Ch.geS7{S S':List Nat}(a:Ch S μ μ1)(b:Ch S' μ1 μ2)(h:∀j∈S',μ.length<=j):Ch S μ μ2:=
 ⟨z8G a.len b.len,λj hj hs=>(b.ot j (z8w hj a.len) λw=>absurd (h j w) (by omega)).trans (a.ot j hj hs)⟩
structure PM(μ:Mem)(L c g d w:Nat)(x y z:Int)(s:S7)(ps:List Gp)(kvs:List (Key×T)):Prop where
 B:Bk μ c g (shp x y z) ps
 eG:NH.P.er ps=s.G
 hd:μ[d]?=some (.dic kvs)
 H:HD μ x y z kvs s.hm
 lo:∀ho i,zi (.inr ho) kvs=some (.mut i)->L<=i
 tw:μ[w]?=some (.lst (s.td.map prT))
 gw:g≠w
 tab:μ[0]?=some (.tab 0)
theorem HD.up{μ':Mem}{kvs':List (Key×T)}{hm:Str->Option Hs}{S:List Nat}{ho:Str}{a:Ls}{m n:Option Int}(H:HD μ x y z kvs hm)(ch:Ch S μ μ')(hk:zi (.inr ho) kvs'=some (.mut i))(ot:∀ho',ho'≠ho->zi (.inr ho') kvs'=zi (.inr ho') kvs)(hi:μ'[i]?=some (hs7 x y z (some a) m n))(nm:n=none->m=none)
  (hS:∀j∈S,j=i\/∀l m n,μ[j]?≠some (hs7 x y z l m n)) (fr:∀ho' i',ho'≠ho->zi (.inr ho') kvs=some (.mut i')->i'≠i):HD μ' x y z kvs' (upH hm ho ⟨a,n⟩):=by
 refine⟨λho' e=>?_,λho' hh e=>?_,λh1 h2 j e1 e2=>?_⟩
 ·have e:(if ho'=ho then some _ else hm ho')=none:=e
  by_cases q:ho'=ho
  ·rw[if_pos q] at e;cases e
  ·rw[if_neg q] at e;rw[ot _ q];exact H.no _ e
 ·have e:(if ho'=ho then some _ else hm ho')=some hh:=e
  by_cases q:ho'=ho
  ·rw[if_pos q] at e;cases e
   rw[q];exact⟨i,m,hk,hi,nm⟩
  ·rw[if_neg q] at e
   obtain⟨j,m',j1,j2,j3⟩:=H.so _ _ e
   refine⟨j,m',(ot _ q).trans j1,ch.get j2 λw=>?_,j3⟩
   rcases hS j w with w|w
   ·exact fr _ _ q j1 w
   ·exact w _ _ _ j2
 ·by_cases q1:h1=ho
  ·by_cases q2:h2=ho
   ·rw[q1,q2]
   ·rw[q1,hk] at e1;cases e1
    rw[ot _ q2] at e2
    exact absurd rfl (fr _ _ q2 e2)
  ·by_cases q2:h2=ho
   ·rw[q2,hk] at e2;cases e2
    rw[ot _ q1] at e1
    exact absurd rfl (fr _ _ q1 e1)
   ·rw[ot _ q1] at e1
    rw[ot _ q2] at e2
    exact H.inj _ _ _ e1 e2
theorem Vr{E:En}{ho:Str}{hs:Option Int}{m n h b:Int}{l:Option Ls}{mm nn:Option Int}(B:Bk μ c g (shp x y z) ps)(ht:μ[0]?=some (.tab 0))(hl:ps.length<64)(o:HoOk ho)(hh:∀h,hs=some h->0<=h/\h<y)(n1:1<=n)(h1:h<y)(bx:b+n<=x)(hL:Lease (er ps) (opT hs) (if m<0 then 0 else m) n h b)(hi:μ[i]?=some (hs7 x y z l mm nn))
  (q:∀μ' a,Ch [g,i] μ μ'->Bk μ' c g (shp x y z) (ps++[(a,⟨ho,h,b,b+n,b+n,false⟩)])->μ'[i]?=some (hs7 x y z (some (h,b,b+n)) mm nn)->
   E.nx [o0,o1,some (.mut c),some (.mut d),some (.mut w),some (Row.lease ho hs m n).t,some (.str ho),some (.mut i)] μ') :
  zM (Z3.drop 2) [o0,o1,some (.mut c),some (.mut d),some (.mut w),some (Row.lease ho hs m n).t,some (.str ho),some (.mut i)] μ E:=by
 refine⟨_,rfl,?_⟩
 refine⟨_,hi,?_⟩
 refine⟨_,B.com,?_⟩
 refine⟨_,rfl,_,rfl,_,rfl,?_⟩
 have h2:Zo y (opT hs):=by
  cases hs with
  |none=>exact .inl rfl
  |some v=>exact .inr ⟨v,rfl,(hh v rfl).1,(hh v rfl).2⟩
 refine uu B ht hl o.l o.h h2 n1 (λh' b' μ1 hl' bad ch=>?_) λh' b' μ1 a h0' h1' b0' bx' hl' la ch B1=>?_
 ·obtain⟨e1,e2⟩:=Lease.one hL hl'.er
  omega
 ·obtain⟨e1,e2⟩:=Lease.one hL hl'.er
  subst e1 e2
  have ig:i∉[g]:=λw=>by
   rw[z8l.mp w,B.lst] at hi;cases hi
  have hi1:=ch.get hi ig
  refine Zx (a:=(h,b,b+n)) hi1 z6t ⟨h0',h1',b0',by show b<b+n;omega,bx'⟩ λμ2 ch2 hl2 h3=>?_
  have il:i<μ.length:=(z8h.mp hi).1
  refine q μ2 a ((ch.mono (by simp)).trans (ch2.mono (by simp))) (B1.ch ch2 ?_ ?_ λp hp=>?_) h3
  ·intro w;rw[←z8l.mp w,B1.com] at hi1;cases hi1
  ·intro w;rw[←z8l.mp w,B1.lst] at hi1;cases hi1
  ·intro w;rw[←z8l.mp w,B1.at_ p hp] at hi1;cases hi1
theorem z5_{E:En}{ho:Str}{a:Ls}{mm nn:Option Int}{r k cc:Int}(sz:Hz x y z)(hb:x * z<1000000000000000000000000000000000000000000000000000000000000)(ok:LsOk x y a)(hi:μ[i]?=some (hs7 x y z (some a) mm nn))(hn:∀k,nn=some k->0<=k/\k<x * y * z)(nm:nn=none->mm=none)(hr:a.2.1<=r)(hu:r<a.2.2)(k1:1<=k)(k3:k<=1000)(hc:AtC y z a nn none r cc)(ck:cc+k<=z){td:List (Str×Int)}(tw:μ[w]?=some (.lst (td.map prT)))(tl:td.length<=500000)
  (q:∀μ' mb,Ch [w,i] μ μ'->μ'[i]?=some (hs7 x y z (some a) (some mb) (some (nmA y z a.1 (r * z+cc+k-1))))->μ'[w]?=some (.lst ((td++(nmL y z a.1 (r * z+cc) k).map λv=>(ho,v)).map prT))->
   E.nx [o0,o1,some (.mut c),some (.mut d),some (.mut w),some (Row.ask ho r k).t,some (.str ho),some (.mut i)] μ') :
  zM (Z3.drop 2) [o0,o1,some (.mut c),some (.mut d),some (.mut w),some (Row.ask ho r k).t,some (.str ho),some (.mut i)] μ E:=by
 have hc':AtC y z a nn mm r cc:=by
  cases nn with
  |none=>rw[nm rfl];exact hc
  |some v=>exact hc
 refine⟨_,rfl,?_⟩
 refine⟨⟨_,tw⟩,?_⟩
 refine⟨_,hi,?_⟩
 refine⟨_,rfl,_,rfl,?_⟩
 refine z4F sz hb ok z6t hi hn (z9q _) hr hu k1 k3 hc' ck λμ1 mb ch hl h1=>?_
 refine⟨by rw[z8B,jf];unfold room;omega,?_⟩
 refine qC (λv:Int=>T.int v) (λv=>some (prT (ho,v))) (λv _ kk hkk=>⟨_,rfl,hkk⟩) ?_ trivial
 rw[z9h]
 have wi:w∉[i]:=λe=>by rw[z8l.mp e,hi] at tw;cases tw
 have tw1:=ch.get tw wi
 refine⟨_,_,tw1,.inl rfl,by simp only[z8B,jf];unfold room;omega,?_⟩
 refine q _ mb ((ch.mono (by simp)).trans (Ch.set.mono (by simp))) ?_ ?_
 ·rw[z8S (by intro e;exact wi (by simp[e]))];exact h1
 ·rw[get_set tw1,z9f,zah];rfl
theorem QE{a:Nat}{G:Gr}:NH.P.er (ps++[(a,G)])=NH.P.er ps++[(0,G)]:=by
 show List.map _ (ps++[(a,G)])=_
 rw[z9f];rfl
theorem z05{E:En}{r:Row}(sz:Hz x y z)(hb:x * z<1000000000000000000000000000000000000000000000000000000000000)(P:PM μ L c g d w x y z s ps kvs)(wf:WF x y z s)(h:Sp7 x y z r s t)(hl:ps.length<63)(hk:kvs.length<=1000)(tl:s.td.length<=500000)(lL:L<=μ.length)(gL:L<=g)(dL:L<=d)(wL:L<=w){μ0:Mem}(l0:μ0.length=L)(c0:Ch [] μ0 μ)
  (q:∀μ' ps' kvs' o6 o7,PM μ' L c g d w x y z t ps' kvs'->ps'.length<=ps.length+1->kvs'.length<=kvs.length+1->t.td.length<=s.td.length+1000->L<=μ'.length->Ch [] μ0 μ'->
   E.nx [some (shp x y z),o1,some (.mut c),some (.mut d),some (.mut w),some r.t,o6,o7] μ') :
  zM Z3 [some (shp x y z),o1,some (.mut c),some (.mut d),some (.mut w),some r.t,o6,o7] μ E:=by
 have dg:d≠g:=λe=>by have:=P.hd;rw[e,P.B.lst] at this;cases this
 have noD:∀l m n,μ[d]?≠some (hs7 x y z l m n):=λl m n e=>by rw[P.hd] at e;cases e
 have noG:∀l m n,μ[g]?≠some (hs7 x y z l m n):=λl m n e=>by rw[P.B.lst] at e;cases e
 have noW:∀l m n,μ[w]?≠some (hs7 x y z l m n):=λl m n e=>by rw[P.tw] at e;cases e
 have sub:∀{S:List Nat} {μ':Mem},Ch S μ μ'->(∀j∈S,L<=j)->L<=μ'.length/\Ch [] μ0 μ':=λ{S μ'} ch hS=>⟨z8G lL ch.len,Ch.geS7 c0 ch λj hj=>by rw[l0];exact hS j hj⟩
 cases r with
 |lease ho hs m n=>
  obtain⟨o,hh,n1,h,b,h0,h1,b0,bx,hL,rfl⟩:=h
  rw[←P.eG] at hL
  refine⟨_,rfl,?_⟩
  refine wO P.H P.hd hk o (λi hi=>?_) λhno μ1 ch1 d1 h2=>?_
  ·cases e:s.hm ho with
   |none=>rw[P.H.no ho e] at hi;cases hi
   |some hh0=>
    obtain⟨i',mm,i1,i2,i3⟩:=P.H.so ho hh0 e
    rw[hi] at i1;cases i1
    refine Vr P.B P.tab (by omega) o hh n1 h1 bx hL i2 λμ2 a ch2 B2 h3=>?_
    have iL:=P.lo ho i hi
    have sb:=sub ch2 (λj hj=>by simp at hj;rcases hj with rfl|rfl<;>assumption)
    refine q μ2 _ kvs _ _ ⟨B2,by rw[QE,P.eG],ch2.get P.hd ?_,?_,P.lo,ch2.get P.tw ?_,P.gw,?_⟩ (by simp) (by omega) (by show s.td.length<=_;omega) sb.1 sb.2
    ·intro e;simp at e;rcases e with e|e
     ·exact dg e
     ·exact noD _ _ _ (e▸i2)
    ·have:upH s.hm ho ⟨(h,b,b+n),(s.hm ho).bind Hs.n⟩=upH s.hm ho ⟨(h,b,b+n),hh0.n⟩:=by rw[e];rfl
     show HD μ2 x y z kvs (upH s.hm ho ⟨(h,b,b+n),(s.hm ho).bind Hs.n⟩)
     rw[this]
     refine HD.up P.H ch2 hi (λ_ _=>rfl) h3 i3 (λj hj=>?_) λho' i' ne e2 e3=>ne (P.H.inj _ _ _ e2 (e3▸hi))
     simp at hj;rcases hj with rfl|rfl
     ·exact .inr noG
     ·exact .inl rfl
    ·intro e;simp at e;rcases e with e|e
     ·exact P.gw e.symm
     ·exact noW _ _ _ (e▸i2)
    ·refine ch2.get P.tab ?_
     intro e;simp at e;rcases e with e|e
     ·have:=P.B.lst;rw[←e,P.tab] at this;cases this
     ·rw[←e,P.tab] at i2;cases i2
  ·have gd:g∉[d]:=by simpa using dg.symm
   have cd:c∉[d]:=λe=>by have:=P.B.com;rw[z8l.mp e,P.hd] at this;cases this
   have B1:=P.B.ch ch1 cd gd λp hp e=>by have:=P.B.at_ p hp;rw[z8l.mp e,P.hd] at this;cases this
   have t1:=ch1.get P.tab (λe=>by have:=P.hd;rw[←z8l.mp e,P.tab] at this;cases this)
   have w1:=ch1.get P.tw (λe=>by have:=P.hd;rw[←z8l.mp e,P.tw] at this;cases this)
   refine Vr B1 t1 (by omega) o hh n1 h1 bx hL h2 λμ2 a ch2 B2 h3=>?_
   have gl:g<μ.length:=(z8h.mp P.B.lst).1
   have wl:w<μ.length:=(z8h.mp P.tw).1
   have dl:d<μ.length:=(z8h.mp P.hd).1
   have sb1:=sub ch1 (λj hj=>by rw[z8l.mp hj];exact dL)
   have c2:Ch [] μ0 μ2:=Ch.geS7 sb1.2 ch2 λj hj=>by simp at hj;rcases hj with rfl|rfl<;>omega
   have ch12:Ch [d,g,μ.length] μ μ2:=(ch1.mono (by simp)).trans (ch2.mono (by simp))
   refine q μ2 _ _ _ _ ⟨B2,by rw[QE,P.eG],ch2.get d1 (by simp;omega),?_,λho' i' e=>?_,ch2.get w1 (by simp;exact⟨P.gw.symm,by omega⟩),P.gw,ch2.get t1 ?_⟩ (by simp) (kU) (by show s.td.length<=_;omega) (z8G sb1.1 ch2.len) c2
   ·have:upH s.hm ho ⟨(h,b,b+n),(s.hm ho).bind Hs.n⟩=upH s.hm ho ⟨(h,b,b+n),none⟩:=by rw[hno];rfl
    show HD μ2 x y z _ (upH s.hm ho ⟨(h,b,b+n),(s.hm ho).bind Hs.n⟩)
    rw[this]
    refine HD.up (m:=none) P.H ch12 (by rw[vh,if_pos rfl]) (λho' ne=>by rw[vh,if_neg (by intro e;exact ne (by injection e))]) h3 (λ_=>rfl) (λj hj=>?_) λho' i' ne e2 e3=>?_
    ·simp at hj;rcases hj with rfl|rfl|rfl
     ·exact .inr noD
     ·exact .inr noG
     ·exact .inl rfl
    ·cases e4:s.hm ho' with
     |none=>rw[P.H.no _ e4] at e2;cases e2
     |some hh4=>
      obtain⟨j,_,j1,j2,_⟩:=P.H.so _ _ e4
      rw[e2] at j1;cases j1
      have:=(z8h.mp j2).1
      omega
   ·rw[vh] at e
    by_cases q:(zcH ho':Key)=.inr ho
    ·rw[if_pos q] at e;cases e;exact lL
    ·rw[if_neg q] at e;exact P.lo _ _ e
   ·intro e;simp at e;rcases e with e|e
    ·have:=P.B.lst;rw[←e,P.tab] at this;cases this
    ·have:=(z8h.mp P.tab).1;omega
 |ask ho r k=>
  obtain⟨o,hh,cc,e0,r0,r1,k1,k2,ck,at_,rfl⟩:=h
  obtain⟨i,mm,i1,i2,i3⟩:=P.H.so ho hh e0
  have iL:=P.lo ho i i1
  refine⟨_,rfl,?_⟩
  refine wO P.H P.hd hk o (λi' hi'=>?_) λhno _ _ _ _=>by rw[hno] at e0;cases e0
  rw[i1] at hi';cases hi'
  refine z5_ sz hb (wf.ls _ _ e0) i2 (λv e=>wf.nm _ _ _ e0 e) i3 r0 r1 k1 k2 at_ ck P.tw tl λμ2 mb ch2 h3 w2=>?_
  have sb:=sub ch2 (λj hj=>by simp at hj;rcases hj with rfl|rfl<;>assumption)
  have nw:∀j,(∀l m n,μ[j]?≠some (hs7 x y z l m n))->j≠w->j∉[w,i]:=λj hj e1 e=>by
   simp at e;rcases e with e|e
   ·exact e1 e
   ·exact hj _ _ _ (e▸i2)
  have td:d≠w:=λe=>by have:=P.hd;rw[e,P.tw] at this;cases this
  have B2:Bk μ2 c g (shp x y z) ps:=by
   refine P.B.ch ch2 (nw c (λl m n e=>by rw[P.B.com] at e;cases e) λe=>?_) (nw g noG P.gw) λp hp=>nw _ (λl m n e=>by rw[P.B.at_ p hp] at e;cases e) λe=>?_
   ·have:=P.B.com;rw[e,P.tw] at this;cases this
   ·have:=P.B.at_ p hp;rw[e,P.tw] at this;cases this
  have T2:μ2[0]?=some (.tab 0):=by
   refine ch2.get P.tab (nw 0 (λl m n e=>by rw[P.tab] at e;cases e) λe=>?_)
   have:=P.tab;rw[e,P.tw] at this;cases this
  refine q μ2 ps kvs _ _ ⟨B2,P.eG,ch2.get P.hd (nw d noD td),?_,P.lo,w2,P.gw,T2⟩ (by omega) (by omega) ?_ sb.1 sb.2
  ·refine HD.up P.H ch2 i1 (λ_ _=>rfl) h3 (λe=>by cases e) (λj hj=>?_) λho' i' ne e2 e3=>ne (P.H.inj _ _ _ e2 (e3▸i1))
   simp at hj;rcases hj with rfl|rfl
   ·exact .inr noW
   ·exact .inl rfl
  ·show (s.td++_).length<=_
   rw[z8Z,z8B,jf]
   omega
end
section
variable {μ μ1 μ2:Mem}{K:T->Mem->Prop}{Z:Xp}{x y z:Int}{i c g d w L:Nat}{kvs:List (Key×T)}{s t:S7}{ps:List Gp}{rs:List Row}
noncomputable def s70:S7:=⟨[],λ_=>none,[]⟩
noncomputable abbrev ZD:Int:=1000000000000000000000000000000000000000000000000000000000000
theorem zq{cell k:Int}(hk:0<=k)(q:∀v:Int,0<=v->K (.int v) μ):zm [.int cell,.int k] μ K Z:=xI hk (q _ Y_.1)
noncomputable abbrev ptT(y z v:Int):T:=.tup [.int (v / z / y),.int (v / z % y),.int (v % z)]
def vO(y z:Int):Option Int->T
 |none=>.non
 |some v=>ptT y z v
theorem QO{ho:Str}{far many cell:Int}(B:Bk μ c g (shp x y z) ps)(ht:μ[0]?=some (.tab 0))(hl:ps.length<64)(o:HoOk ho)(m1:1<=many)
    (q0:∀μ', Ch [] μ μ'->K (.tup [.non, .non]) μ')
    (q1:∀(hs:Option Int) m n h b μ' a, (∀h, hs=some h->0<=h/\h<y)->1<=n->0<=h->h<y->0<=b->b+n<=x->Lease ps (opT hs) (if m<0 then 0 else m) n h b->Ch [g] μ μ'->Bk μ' c g (shp x y z) (ps++[(a, ⟨ho, h, b, b+n, b+n, false⟩)])->K (.tup [(Row.lease ho hs m n).t, lsT (some (h, b, b+n))]) μ') :
    qX [.mut c, .str ho, .int far, .int many, .int cell] μ K Z:=by
  unfold qX
  refine⟨rfl, ?_⟩
  refine zq (by decide) λd4 d40=>?_
  refine⟨by decide, ?_⟩
  refine zq (by decide) λd5 d50=>?_
  refine⟨by decide, ?_⟩
  have n4:=z8C d4 (show (4:Int)≠0 by decide)
  have n5:=z8C d5 (show (2:Int)≠0 by decide)
  have l5:=z8z d5 (show (0:Int)<2 by decide)
  have ix:∃hs:Option Int, (∀h, hs=some h->0<=h)/\wD [T.non, T.int (d4 % 4)] (d5 % 2)=some (opT hs):=by
    have:d5 % 2=0\/d5 % 2=1:=by omega
    rcases this with e|e
    · rw[e];exact⟨none, λh e=>(by cases e), rfl⟩
    · rw[e];exact⟨some (d4 % 4), λh e=>by cases e;exact n4, rfl⟩
  obtain⟨hs, hs0, hix⟩:=ix
  refine⟨_, hix, ?_⟩
  refine zq (by decide) λd7 d70=>?_
  refine zq (by decide) λd8 d80=>?_
  refine⟨by decide, ?_⟩
  have n8:=z8C d8 (show (2:Int)≠0 by decide)
  have l8:=z8z d8 (show (0:Int)<2 by decide)
  have iy:∃v:Int, 0<v/\wD [T.int 2, T.int 9] (d8 % 2)=some (.int v):=by
    have:d8 % 2=0\/d8 % 2=1:=by omega
    rcases this with e|e
    · rw[e];exact⟨2, by decide, rfl⟩
    · rw[e];exact⟨9, by decide, rfl⟩
  obtain⟨v, v0, hiy⟩:=iy
  refine⟨_, hiy, ?_⟩
  refine⟨v0, ?_⟩
  refine zq (by decide) λd6 d60=>?_
  refine⟨by omega, ?_⟩
  have nv:=z8C d7 (show v≠0 by omega)
  have rest:∀m n:Int, 1<=n->zM (qV.drop 3) [some (.mut c), some (.str ho), some (.int far), some (.int many), some (.int cell), some (opT hs), some (.int n), some (Row.lease ho hs m n).t, none] μ (En.fn K Z):=by
   intro m n n1
   have go:(∀h, hs=some h->h<y)->zM (qV.drop 4) [some (.mut c), some (.str ho), some (.int far), some (.int many), some (.int cell), some (opT hs), some (.int n), some (Row.lease ho hs m n).t, none] μ (En.fn K Z):=by
     intro hy
     refine⟨_, B.com, ?_⟩
     refine⟨_, rfl, _, rfl, _, rfl, _, rfl, ?_⟩
     have h2:Zo y (opT hs):=by
       cases hs with
       |none=>exact .inl rfl
       |some h=>exact .inr ⟨h, rfl, hs0 h rfl, hy h rfl⟩
     refine uu B ht hl o.l o.h h2 n1 (λh' b' μ1 hl' bad ch=>?_) λh' b' μ1 a h0' h1' b0' bx' hl' la ch B1=>?_
     · exact q0 μ1 ch
     · exact q1 hs m n h' b' μ1 a (λh e=>⟨hs0 h e, hy h e⟩) n1 h0' h1' b0' bx' hl' ch B1
   cases hs with
   |none=>exact go λh e=>by cases e
   |some h=>
     refine⟨_, _, _, B.com, rfl, ?_⟩
     refine zH (λe=>?_) (λe=>?_)
     · exact q0 μ Ch.refl
     · exact go λh' e'=>by cases e';have:¬y<=h:=e;omega
  exact rest (far+d6 % many) (1+d7 % v) (by omega)
end
section
variable {μ μ1 μ2:Mem}{K:T->Mem->Prop}{Z:Xp}{x y z:Int}{i c g d w L:Nat}{kvs:List (Key×T)}{s t:S7}{ps:List Gp}{rs:List Row}
theorem z5u{a b c a' b' c':Int}:lexLe [a,b,c] [a',b',c']=true↔a<a'\/(a=a'/\(b<b'\/(b=b'/\c<=c'))):=by
 unfold lexLe
 split
 ·rename_i e
  unfold lexLe
  split
  ·rename_i e2
   unfold lexLe
   split
   ·rename_i e3
    simp[lexLe];omega
   ·simp;omega
  ·simp;omega
 ·simp;omega
theorem z7R{a b c d:Int}:eqL [T.int a,T.int b] [T.int c,T.int d]=some (decide (a=c)&&decide (b=d)):=by
 have h1:(a == c)=decide (a=c):=by by_cases z:a=c<;>simp[z]
 have h2:(b == d)=decide (b=d):=by by_cases z:b=d<;>simp[z]
 simp[eqL,eqT,h1,h2]
theorem VN{a:Ls}{v r:Int}(sz:Hz x y z)(h0:0<=a.1)(h1:a.1<y)(v0:0<=v) :
  (v / z / y=r/\v / z % y=a.1->AtC y z a (some v) none r (v % z+1))/\
  (¬(v / z / y=r/\v / z % y=a.1)->lexLe [r,a.1,0] [v / z / y,v / z % y,v % z]=false->AtC y z a (some v) none r 0):=by
 obtain⟨x1,y1,y2,z1,z2⟩:=id sz
 have c0:=z8C v (show z≠0 by omega)
 have c1:=z8z v (show 0<z by omega)
 refine⟨λ⟨e1,e2⟩=>?_,λe1 e2=>?_⟩
 ·refine .inr ⟨?_,by omega⟩
  show plA y z a.1 v=_
  unfold plA
  rw[if_neg (by omega),if_neg (by omega),e1]
  omega
 ·refine .inl ⟨?_,rfl⟩
  have n:¬(r<v / z / y\/(r=v / z / y/\(a.1<v / z % y\/(a.1=v / z % y/\0<=v % z)))):=λw=>by
   have:=z5u.mpr w
   rw[e2] at this;cases this
  show plA y z a.1 v<=r * z
  unfold plA
  have up:∀{p q:Int},p<=q->p * z<=q * z:=λh=>z8I h (by omega)
  split
  ·exact up (by omega)
  ·split
   ·exact up (by omega)
   ·rename_i q1 q2
    have:=up (show v / z / y+1<=r by omega)
    rw[z9Z,z9_] at this
    omega
theorem z79{h r cc j:Int}(z1:1<=z)(c0:0<=cc)(j0:0<=j)(cz:cc+j<z):(r * y+h) * z+(cc+j)=nmA y z h (r * z+cc+j):=by
 have e:r * z+cc+j=(cc+j)+r * z:=by omega
 unfold nmA
 rw[e,zaB _ _ (by omega),zbk (by omega) cz,Int.add_mul_emod_self_right,Int.emod_eq_of_lt (by omega) cz]
 simp
theorem Jv{ho:Str}{cell:Int}{a:Ls}{n:Option Int}(sz:Hz x y z)(zl:z<=1000)(ok:LsOk x y a)(hn:∀v,n=some v->0<=v/\v<x * y * z)
  (q0:K (.tup [.non,.lst []]) μ)
  (q1:∀r k cc,a.2.1<=r->r<a.2.2->1<=k->k<=1000->0<=cc->cc+k<=z->AtC y z a n none r cc->K (.tup [(Row.ask ho r k).t,.lst (((nmL y z a.1 (r * z+cc) k).map λv=>(ho,v)).map prT)]) μ) :
  vw [shp x y z,lsT (some a),vO y z n,.str ho,.int cell] μ K Z:=by
 obtain⟨x1,y1,y2,z1,z2⟩:=id sz
 obtain⟨h,f,u⟩:=a
 have h0:0<=h:=ok.h0
 have h1:h<y:=ok.h1
 have f0:0<=f:=ok.f0
 have fu:f<u:=ok.fu
 have ux:u<=x:=ok.ux
 have last:∀(r cc k:Int) (o:Option T),f<=r->r<u->1<=k->k<=1000->0<=cc->cc+k<=z->AtC y z (h,f,u) n none r cc->zM (zU.drop 7) [some (shp x y z),some (lsT (some (h,f,u))),some (vO y z n),some (.str ho),some (.int cell),some (.int h),some (.int f),some (.int u),some (.int r),some (.int cc),some (.int k),o] μ (En.fn K Z):=by
  intro r cc k o r0 r1 k1 k2 c0 ck hc
  refine⟨⟨by omega,by omega⟩,?_⟩
  refine⟨by rw[JO];unfold room;omega,?_⟩
  have ev:rangeT k=(z9i k.toNat).map λ(j:Nat)=>T.int (j:Int):=rfl
  rw[ev]
  refine qC (λ(j:Nat)=>T.int (j:Int)) (λ(j:Nat)=>some (T.int (nmA y z h (r * z+cc+j)))) (λj hj kk hkk=>?_) ?_ trivial
  ·have hj:j<k.toNat:=zbO.mp hj
   refine⟨_,rfl,?_⟩
   refine uJ sz (by omega) (by omega) h0 h1 (by omega) (by omega) ?_
   rw[z79 z1 c0 (by omega) (by omega)]
   exact hkk
  ·rw[z9h]
   have e2:((z9i k.toNat).map λ(j:Nat)=>T.int (nmA y z h (r * z+cc+j)))=(nmL y z h (r * z+cc) k).map T.int:=by unfold nmL;rw[zah];rfl
   rw[e2]
   refine⟨by rw[z8B,jf];unfold room;omega,?_⟩
   refine qC (λv:Int=>T.int v) (λv=>some (prT (ho,v))) (λv _ kk hkk=>⟨_,rfl,hkk⟩) ?_ trivial
   rw[z9h]
   have:=q1 r k cc r0 r1 k1 k2 c0 ck hc
   rw[zah] at this
   exact this
 have many:∀(r cc:Int) (ot:Option T),f<=r->r<u->0<=cc->(n=none->cc=0)->(∀v,n=some v->(v / z / y=r/\v / z % y=h/\cc=v % z+1)\/(¬(v / z / y=r/\v / z % y=h)/\cc=0))->zM (zU.drop 5) [some (shp x y z),some (lsT (some (h,f,u))),some (vO y z n),some (.str ho),some (.int cell),some (.int h),some (.int f),some (.int u),some (.int r),some (.int cc),none,ot] μ (En.fn K Z):=by
  intro r cc ot r0 r1 c0 hno hso
  refine zq (by decide) λd1 d10=>?_
  refine zq (by decide) λd2 d20=>?_
  refine⟨by decide,?_⟩
  have n2:=z8C d2 (show (3:Int)≠0 by decide)
  have l2:=z8z d2 (show (0:Int)<3 by decide)
  have ix:∃v:Int,0<v/\v<=1000/\wD [T.int 1,T.int 3,T.int z] (d2 % 3)=some (.int v):=by
   have:d2 % 3=0\/d2 % 3=1\/d2 % 3=2:=by omega
   rcases this with e|e|e
   ·rw[e];exact⟨1,by decide,by decide,rfl⟩
   ·rw[e];exact⟨3,by decide,by decide,rfl⟩
   ·rw[e];exact⟨z,by omega,zl,rfl⟩
  obtain⟨v,v0,v1,hix⟩:=ix
  refine⟨_,hix,?_⟩
  refine⟨v0,?_⟩
  have nv:=z8C d1 (show v≠0 by omega)
  have lv:=z8z d1 v0
  have fit:∀k:Int,1<=k->k<=1000->AtC y z (h,f,u) n none r cc->zM (zU.drop 7) [some (shp x y z),some (lsT (some (h,f,u))),some (vO y z n),some (.str ho),some (.int cell),some (.int h),some (.int f),some (.int u),some (.int r),some (.int cc),some (.int k),ot] μ (En.fn K Z)\/z<cc+k:=λk k1 k2 hc=>by
   by_cases e:cc+k<=z
   ·exact .inl (last r cc k ot r0 r1 k1 k2 c0 e hc)
   ·exact .inr (by omega)
  have rest:∀k:Int,1<=k->k<=1000->zM (zU.drop 6) [some (shp x y z),some (lsT (some (h,f,u))),some (vO y z n),some (.str ho),some (.int cell),some (.int h),some (.int f),some (.int u),some (.int r),some (.int cc),some (.int k),ot] μ (En.fn K Z):=by
   intro k k1 k2
   have too:AtC y z (h,f,u) n none r cc->brW (decide (z<cc+k)) (K (.tup [.non,.lst []]) μ) (zM (zU.drop 7) [some (shp x y z),some (lsT (some (h,f,u))),some (vO y z n),some (.str ho),some (.int cell),some (.int h),some (.int f),some (.int u),some (.int r),some (.int cc),some (.int k),ot] μ (En.fn K Z)):=λhc=>
    zH (λ_=>q0) λe=>(fit k k1 k2 hc).resolve_right e
   cases n with
   |none=>
    have hc:AtC y z (h,f,u) none none r cc:=.inl ⟨by show (0:Int)<=r * z;exact z9L (by omega) (by omega),hno rfl⟩
    exact too hc
   |some v=>
    refine⟨_,_,rfl,rfl,?_⟩
    obtain⟨A1,A2⟩:=VN (a:=(h,f,u)) (r:=r) sz h0 h1 (hn v rfl).1
    refine wA (λe=>?_) (λe=>?_)
    ·exact q0
    ·refine too ?_
     rcases hso v rfl with⟨e1,e2,e3⟩|⟨e1,e3⟩
     ·rw[e3];exact A1 ⟨e1,e2⟩
     ·rw[e3] at e ⊢;exact A2 e1 e
  exact rest (1+d1 % v) (by omega) (by omega)
 have count:∀(r:Int) (o9 o10 o11:Option T),f<=r->r<u->o9=none->o10=none->zM (zU.drop 3) [some (shp x y z),some (lsT (some (h,f,u))),some (vO y z n),some (.str ho),some (.int cell),some (.int h),some (.int f),some (.int u),some (.int r),o9,o10,o11] μ (En.fn K Z):=by
  intro r o9 o10 o11 r0 r1 e9 e10
  subst e9 e10
  cases n with
  |none=>exact many r 0 o11 r0 r1 (z9q _) (λ_=>rfl) λv e=>by cases e
  |some v=>
   have c0:=z8C v (show z≠0 by omega)
   refine⟨by show (0:Nat)<=40;decide,_,z7R,?_⟩
   refine wA (λe=>?_) (λe=>?_)
   ·simp only[z8j,decide_eq_true_eq] at e
    refine⟨_,rfl,?_⟩
    exact many r (v % z+1) o11 r0 r1 (by omega) (λe=>by cases e) λv' e'=>by cases e';exact .inl ⟨e.1,e.2,rfl⟩
   ·have e:¬(v / z / y=r/\v / z % y=h):=λw=>by
     rw[decide_eq_true w.1,decide_eq_true w.2] at e;cases e
    exact many r 0 o11 r0 r1 (z9q _) (λe=>by cases e) λv' e'=>by cases e';exact .inr ⟨e,rfl⟩
 unfold vw
 refine⟨rfl,?_⟩
 refine⟨_,rfl,?_⟩
 refine zq (by decide) λd9 d90=>?_
 refine⟨by show 0<u-f;omega,?_⟩
 have n9:=z8C d9 (show u-f≠0 by omega)
 have l9:=z8z d9 (show 0<u-f by omega)
 have read:∀r:Int,f<=r->r<u->zM (zU.drop 2) [some (shp x y z),some (lsT (some (h,f,u))),some (vO y z n),some (.str ho),some (.int cell),some (.int h),some (.int f),some (.int u),some (.int r),none,none,none] μ (En.fn K Z):=by
  intro r r0 r1
  cases n with
  |none=>exact count r _ _ _ r0 r1 rfl rfl
  |some v=>
   refine⟨_,rfl,?_⟩
   refine zH (λe=>?_) (λe=>?_)
   ·refine zq (by decide) λd10 d100=>?_
    refine⟨by decide,?_⟩
    refine zH (λe2=>?_) (λe2=>?_)
    ·refine⟨_,rfl,?_⟩
     have e:v / z / y<u:=e
     exact count (if f<v / z / y then v / z / y else f) _ _ _ (by split<;>omega) (by split<;>omega) rfl rfl
    ·exact count r _ _ _ r0 r1 rfl rfl
   ·exact count r _ _ _ r0 r1 rfl rfl
 exact read (f+d9 % (u-f)) (by omega) (by omega)
end
section
variable {μ μ1 μ2:Mem}{K:T->Mem->Prop}{Z:Xp}{x y z:Int}{i c g dn dl wr wg:Nat}{kn kl:List (Key×T)}{s t:S7}{ps:List Gp}{rs:List Row}{o1 o2 o3 o9 o10 o11 o12 o13:Option T}
structure LM(μ:Mem)(c g dn dl wr wg:Nat)(x y z:Int)(rs:List Row)(s:S7)(ps:List Gp)(kn kl:List (Key×T)):Prop where
 B:Bk μ c g (shp x y z) ps
 eG:NH.P.er ps=s.G
 nn:μ[dn]?=some (.dic kn)
 nl:μ[dl]?=some (.dic kl)
 hn:∀ho,zi (.inr ho) kn=(s.hm ho).map λh=>lsT (some h.a)
 hl:∀ho,(zi (.inr ho) kl).getD .non=vO y z ((s.hm ho).bind Hs.n)
 r:μ[wr]?=some (.lst (rs.map Row.t))
 gv:μ[wg]?=some (.lst (s.td.map prT))
 d1:g≠wr
 d2:g≠wg
 d3:wr≠wg
 d4:dn≠dl
 tab:μ[0]?=some (.tab 0)
theorem zP{i j:Nat}{a b:MO}(h1:μ[i]?=some a)(h2:μ[j]?=some b)(h:a≠b):i≠j:=λe=>by
 rw[e,h2] at h1;cases h1;exact h rfl
abbrev J_:List Ds:=[(sIf (tE (zr .IsNot (eV 11) (eC .non))) [(qb (Xy (eV 7) (eV 11)))] [])]
abbrev z08:List Ds:=[(jh [11,12] (z7 qX [(eV 4),(eV 10),(eV 1),(eV 2),(eV 9)])),(sIf (tE (zr .IsNot (eV 11) (eC .non))) [(ya (eV 5) (eV 10) (eV 12))] [])]
abbrev z6e:List Ds:=[(jh [11,13] (z7 vw [(eV 0),(eC2 Xf (eV 5) (eV 10)),(KP (eV 6) (eV 10)),(eV 10),(eV 9)])),(qb (Y7 (eV 8) (eV 13))),(sIf (tE (zr .NotEq (eV 13) (zR []))) [(ya (eV 6) (eV 10) (z7 wZ [(eV 0),(eIx (eIx (eV 13) (VW (eC (.int 1)))) (eC (.int 1)))]))] [])]
@[reducible] def z6i:List Ds:=[(zj 10 (eIx (zR [(eC (.str "anna")),(eC (.str "b")),(eC (.str "bo")),(eC (.str "zzzzzzzz"))]) (zb .Mod (z7 zm [(eV 9),(eC (.int 0))]) (eC (.int 4))))),(sIf (tOr (tE (eC2 xq (eV 10) (eV 5))) (tE (zr .Eq (zb .Mod (z7 zm [(eV 9),(eC (.int 13))]) (eC (.int 4))) (eC (.int 0))))) z08 z6e)]++J_
theorem z7x{E:En}{r:Row}(M:LM μ c g dn dl wr wg x y z rs s ps kn kl)(rl:rs.length<=100)
  (q:∀μ',LM μ' c g dn dl wr wg x y z (rs++[r]) s ps kn kl->E.nx [some (shp x y z),o1,o2,o3,some (.mut c),some (.mut dn),some (.mut dl),some (.mut wr),some (.mut wg),o9,o10,some r.t,o12,o13] μ') :
  zM J_ [some (shp x y z),o1,o2,o3,some (.mut c),some (.mut dn),some (.mut dl),some (.mut wr),some (.mut wg),o9,o10,some r.t,o12,o13] μ E:=by
 have ch:Ch [wr] μ (μ.set wr (.lst (rs.map Row.t++[r.t]))):=Ch.set
 have nw:∀{j:Nat},j≠wr->j∉[wr]:=λh=>by simpa using h
 have M':LM (μ.set wr (.lst (rs.map Row.t++[r.t]))) c g dn dl wr wg x y z (rs++[r]) s ps kn kl:=by
  refine⟨M.B.ch ch (nw (zP M.B.com M.r (by simp))) (nw M.d1) λp hp=>nw (zP (M.B.at_ p hp) M.r (by simp[Gr.O])),M.eG,ch.get M.nn (nw (zP M.nn M.r (by simp))),ch.get M.nl (nw (zP M.nl M.r (by simp))),M.hn,M.hl,?_,ch.get M.gv (nw M.d3.symm),M.d1,M.d2,M.d3,M.d4,ch.get M.tab (nw (zP M.tab M.r (by simp)))⟩
  rw[get_set M.r,z9f];rfl
 have rl':(rs.map Row.t).length<room:=by rw[z8B];unfold room;omega
 cases r with
 |lease=>exact⟨⟨_,M.r⟩,_,M.r,rl',q _ M'⟩
 |ask=>exact⟨⟨_,M.r⟩,_,M.r,rl',q _ M'⟩
theorem z5N{E:En}{ho:Str}{far many cell:Int}(M:LM μ c g dn dl wr wg x y z rs s ps kn kl)(hl:ps.length<64)(hk:kn.length<=100)(o:HoOk ho)(m1:1<=many)
  (q0:∀μ' o12,LM μ' c g dn dl wr wg x y z rs s ps kn kl->E.nx [some (shp x y z),some (.int far),some (.int many),o3,some (.mut c),some (.mut dn),some (.mut dl),some (.mut wr),some (.mut wg),some (.int cell),some (.str ho),some .non,o12,o13] μ')
  (q1:∀μ' r t ps' kn' o12,(∀k,k≠ho->t.hm k=s.hm k)->Sp7 x y z r s t->LM μ' c g dn dl wr wg x y z rs t ps' kn' kl->ps'.length<=ps.length+1->kn'.length<=kn.length+1->t.td.length<=s.td.length+1000->E.nx [some (shp x y z),some (.int far),some (.int many),o3,some (.mut c),some (.mut dn),some (.mut dl),some (.mut wr),some (.mut wg),some (.int cell),some (.str ho),some r.t,o12,o13] μ') :
  zM z08 [some (shp x y z),some (.int far),some (.int many),o3,some (.mut c),some (.mut dn),some (.mut dl),some (.mut wr),some (.mut wg),some (.int cell),some (.str ho),o11,o12,o13] μ E:=by
 refine QO M.B M.tab hl o m1 (λμ1 ch=>?_) λhs m n h b μ1 a hh n1 h0 h1 b0 bx hL ch B1=>?_
 ·refine⟨_,rfl,?_⟩
  exact q0 _ _ ⟨M.B.ch ch (by simp) (by simp) (by simp),M.eG,ch.get M.nn (by simp),ch.get M.nl (by simp),M.hn,M.hl,ch.get M.r (by simp),ch.get M.gv (by simp),M.d1,M.d2,M.d3,M.d4,ch.get M.tab (by simp)⟩
 ·refine⟨_,rfl,?_⟩
  have nn1:=ch.get M.nn (by simpa using zP M.nn M.B.lst (by simp))
  refine⟨_,nn1,by unfold room;omega,?_⟩
  have hL':=hL.er
  rw[M.eG] at hL'
  have c2:Ch [g,dn] μ (μ1.set dn (.dic (vR (.inr ho) (lsT (some (h,b,b+n))) kn))):=(ch.mono (by simp)).trans (Ch.set.mono (by simp))
  have ng:∀{j:Nat},j≠g->j≠dn->j∉[g,dn]:=λh h'=>by simp;exact⟨h,h'⟩
  refine q1 _ (.lease ho hs m n) ⟨s.G++[(0,⟨ho,h,b,b+n,b+n,false⟩)],upH s.hm ho ⟨(h,b,b+n),(s.hm ho).bind Hs.n⟩,s.td⟩ _ _ _ (λk e=>if_neg e) ⟨o,hh,n1,h,b,h0,h1,b0,bx,hL',rfl⟩ ⟨B1.ch Ch.set ?_ ?_ ?_,by rw[QE,M.eG],get_set nn1,c2.get M.nl (ng (zP M.nl M.B.lst (by simp)) M.d4.symm),?_,?_,c2.get M.r (ng M.d1.symm (zP M.r M.nn (by simp))),c2.get M.gv (ng M.d2.symm (zP M.gv M.nn (by simp))),M.d1,M.d2,M.d3,M.d4,c2.get M.tab (ng (zP M.tab M.B.lst (by simp)) (zP M.tab M.nn (by simp)))⟩ (by simp) kU (by show s.td.length<=_;omega)
  ·simpa using zP B1.com nn1 (by simp)
  ·simpa using zP B1.lst nn1 (by simp)
  ·intro p hp;simpa using zP (B1.at_ p hp) nn1 (by simp[Gr.O])
  ·intro ho'
   rw[vh]
   show _=(if ho'=ho then _ else s.hm ho').map _
   by_cases e:ho'=ho
   ·rw[if_pos (by rw[e]),if_pos e];rfl
   ·rw[if_neg (by intro w;exact e (by injection w)),if_neg e];exact M.hn ho'
  ·intro ho'
   rw[M.hl]
   show _=vO y z ((if ho'=ho then _ else s.hm ho').bind _)
   by_cases e:ho'=ho
   ·rw[if_pos e,e];rfl
   ·rw[if_neg e]
theorem KC{h b k:Int}(k1:1<=k):nmL y z h b k=nmL y z h b (k-1)++[nmA y z h (b+k-1)]:=by
 have:=z1a (y:=y) (z:=z) (h:=h) (b:=b) (k1:=k-1) (k2:=1) (by omega) (by omega)
 rw[show k-1+1=k by omega] at this
 rw[this]
 congr 1
 show [nmA y z h (b+(k-1)+(0:Nat))]=_
 rw[show b+(k-1)+((0:Nat):Int)=b+k-1 by omega]
theorem z3C{α:Type}{f:α->T}(h:∀a,vW (f a)<=1):∀l:List α,qL (l.map f)<=40
 |[]=>by show (0:Nat)<=40;decide
 |a::r=>by
  show max (vW (f a)) (qL (r.map f))<=40
  have:=h a
  have:=z3C h r
  omega
theorem U6{α:Type}{xs:List α}{x:α}:wD (xs++[x]) (-1)=some x:=by
 unfold wD Yi
 rw[if_neg (by decide),if_pos (by simp;omega)]
 have:((-1:Int)+((xs++[x]).length:Int)).toNat=xs.length:=by simp;omega
 rw[this]
 simp
theorem z7O{E:En}{ho:Str}{cell:Int}{hh:Hs}(sz:Hz x y z)(zl:z<=1000)(wf:WF x y z s)(M:LM μ c g dn dl wr wg x y z rs s ps kn kl)(hk:kl.length<=100)(tl:s.td.length<=100000)(o:HoOk ho)(e0:s.hm ho=some hh)
  (q0:∀μ' o13,LM μ' c g dn dl wr wg x y z rs s ps kn kl->E.nx [some (shp x y z),o1,o2,o3,some (.mut c),some (.mut dn),some (.mut dl),some (.mut wr),some (.mut wg),some (.int cell),some (.str ho),some .non,o12,o13] μ')
  (q1:∀μ' r t kl' o13,(∀k,k≠ho->t.hm k=s.hm k)->Sp7 x y z r s t->LM μ' c g dn dl wr wg x y z rs t ps kn kl'->kl'.length<=kl.length+1->t.td.length<=s.td.length+1000->E.nx [some (shp x y z),o1,o2,o3,some (.mut c),some (.mut dn),some (.mut dl),some (.mut wr),some (.mut wg),some (.int cell),some (.str ho),some r.t,o12,o13] μ') :
  zM z6e [some (shp x y z),o1,o2,o3,some (.mut c),some (.mut dn),some (.mut dl),some (.mut wr),some (.mut wg),some (.int cell),some (.str ho),o11,o12,o13] μ E:=by
 have lk:=M.hn ho
 rw[e0] at lk
 have ll:=M.hl ho
 rw[e0] at ll
 have ll:(zi (.inr ho) kl).getD .non=vO y z hh.n:=ll
 refine⟨_,_,M.nn,lk,?_⟩
 refine⟨⟨_,M.nl⟩,?_⟩
 refine⟨_,M.nl,?_⟩
 rw[ll]
 have ng:∀{j:Nat},j≠wg->j∉[wg]:=λh=>by simpa using h
 refine Jv sz zl (wf.ls _ _ e0) (λv e=>wf.nm _ _ _ e0 e) ?_ λr k cc r0 r1 k1 k2 c0 ck at_=>?_
 ·refine⟨_,rfl,?_⟩
  refine⟨⟨_,M.gv⟩,?_⟩
  refine⟨_,_,M.gv,.inl rfl,by simp;unfold room;omega,?_⟩
  refine⟨by decide,_,rfl,?_⟩
  have ch:Ch [wg] μ (μ.set wg (.lst (s.td.map prT++[]))):=Ch.set
  refine q0 _ _ ⟨M.B.ch ch (ng (zP M.B.com M.gv (by simp))) (ng M.d2) λp hp=>ng (zP (M.B.at_ p hp) M.gv (by simp[Gr.O])),M.eG,ch.get M.nn (ng (zP M.nn M.gv (by simp))),ch.get M.nl (ng (zP M.nl M.gv (by simp))),M.hn,M.hl,ch.get M.r (ng M.d3),?_,M.d1,M.d2,M.d3,M.d4,ch.get M.tab (ng (zP M.tab M.gv (by simp)))⟩
  rw[get_set M.gv,z98]
 ·have sp:Sp7 x y z (.ask ho r k) s ⟨s.G,upH s.hm ho ⟨hh.a,some (nmA y z hh.a.1 (r * z+cc+k-1))⟩,s.td++(nmL y z hh.a.1 (r * z+cc) k).map λv=>(ho,v)⟩:=⟨o,hh,cc,e0,r0,r1,k1,k2,ck,at_,rfl⟩
  have vb:=(sp.wf sz wf).nm ho _ _ (by show (if ho=ho then _ else _)=_;rw[if_pos rfl]) rfl
  refine⟨_,rfl,?_⟩
  refine⟨⟨_,M.gv⟩,?_⟩
  refine⟨_,_,M.gv,.inl rfl,by simp only[z8B,jf];unfold room;omega,?_⟩
  refine⟨?_,_,z2q,?_⟩
  ·exact z3C (λp=>by show (0:Nat)+1<=1;decide) _
  have ne:(((nmL y z hh.a.1 (r * z+cc) k).map λv=>(ho,v)).map prT).isEmpty=false:=by
   rw[KC k1,z9f,z9f];simp
  rw[ne]
  have ixl:wD (((nmL y z hh.a.1 (r * z+cc) k).map λv=>(ho,v)).map prT) (-1)=some (prT (ho,nmA y z hh.a.1 (r * z+cc+k-1))):=by
   rw[KC k1,z9f,z9f];exact U6
  refine⟨_,ixl,?_⟩
  refine⟨_,rfl,?_⟩
  refine yg sz vb.1 vb.2 ?_
  have c1:Ch [wg] μ (μ.set wg (.lst (s.td.map prT++((nmL y z hh.a.1 (r * z+cc) k).map λv=>(ho,v)).map prT))):=Ch.set
  have nl1:=c1.get M.nl (ng (zP M.nl M.gv (by simp)))
  refine⟨_,nl1,by unfold room;omega,?_⟩
  have c2:Ch [wg,dl] μ ((μ.set wg (.lst (s.td.map prT++((nmL y z hh.a.1 (r * z+cc) k).map λv=>(ho,v)).map prT))).set dl (.dic (vR (.inr ho) (ptT y z (nmA y z hh.a.1 (r * z+cc+k-1))) kl))):=(c1.mono (by simp)).trans (Ch.set.mono (by simp))
  have ng2:∀{j:Nat},j≠wg->j≠dl->j∉[wg,dl]:=λh h'=>by simp;exact⟨h,h'⟩
  refine q1 _ (.ask ho r k) _ _ _ (λk e=>if_neg e) sp ⟨M.B.ch c2 (ng2 (zP M.B.com M.gv (by simp)) (zP M.B.com M.nl (by simp))) (ng2 M.d2 (zP M.B.lst M.nl (by simp))) λp hp=>ng2 (zP (M.B.at_ p hp) M.gv (by simp[Gr.O])) (zP (M.B.at_ p hp) M.nl (by simp[Gr.O])),M.eG,c2.get M.nn (ng2 (zP M.nn M.gv (by simp)) M.d4),get_set nl1,?_,?_,c2.get M.r (ng2 M.d3 (zP M.r M.nl (by simp))),?_,M.d1,M.d2,M.d3,M.d4,c2.get M.tab (ng2 (zP M.tab M.gv (by simp)) (zP M.tab M.nl (by simp)))⟩ kU ?_
  ·intro ho'
   rw[M.hn]
   show _=(if ho'=ho then _ else s.hm ho').map _
   by_cases e:ho'=ho
   ·rw[if_pos e,e,e0];rfl
   ·rw[if_neg e]
  ·intro ho'
   rw[vh]
   show _=vO y z ((if ho'=ho then _ else s.hm ho').bind _)
   by_cases e:ho'=ho
   ·rw[if_pos (by rw[e]),if_pos e];rfl
   ·rw[if_neg (by intro w;exact e (by injection w)),if_neg e];exact M.hl ho'
  ·rw[z8S (zP M.nl M.gv (by simp)),get_set M.gv,z9f]
  ·show (s.td++_).length<=_
   rw[z8Z,z8B,jf];omega
end
section
variable {μ μ1 μ2:Mem}{K:T->Mem->Prop}{Z:Xp}{x y z:Int}{i c g dn dl wr wg:Nat}{kn kl:List (Key×T)}{s t:S7}{ps:List Gp}{rs:List Row}{o1 o2 o3 o9 o10 o11 o12 o13:Option T}
theorem z75{E:En}{far many cell:Int}(sz:Hz x y z)(zl:z<=1000)(m1:1<=many)(M:LM μ c g dn dl wr wg x y z rs s ps kn kl)(run:Run7 x y z rs s70 s)(wf:WF x y z s)(hl:ps.length<64)(hk:kn.length<=100)(hk2:kl.length<=100)(tl:s.td.length<=100000)(rl:rs.length<=100)
  (q:∀μ' rs' s' ps' kn' kl' o10 o11 o12 o13,LM μ' c g dn dl wr wg x y z rs' s' ps' kn' kl'->Run7 x y z rs' s70 s'->WF x y z s'->ps'.length<=ps.length+1->kn'.length<=kn.length+1->kl'.length<=kl.length+1->s'.td.length<=s.td.length+1000->rs'.length<=rs.length+1->s'.hm "new"=s.hm "new"->E.nx [some (shp x y z),some (.int far),some (.int many),o3,some (.mut c),some (.mut dn),some (.mut dl),some (.mut wr),some (.mut wg),some (.int cell),o10,o11,o12,o13] μ') :
  zM z6i [some (shp x y z),some (.int far),some (.int many),o3,some (.mut c),some (.mut dn),some (.mut dl),some (.mut wr),some (.mut wg),some (.int cell),o10,o11,o12,o13] μ E:=by
 refine zq (by decide) λd0 d00=>?_
 refine⟨by decide,?_⟩
 have n0:=z8C d0 (show (4:Int)≠0 by decide)
 have l0:=z8z d0 (show (0:Int)<4 by decide)
 have ix:∃ho,HoOk ho/\"new"≠ho/\wD [T.str "anna",.str "b",.str "bo",.str "zzzzzzzz"] (d0 % 4)=some (.str ho):=by
  have:d0 % 4=0\/d0 % 4=1\/d0 % 4=2\/d0 % 4=3:=by omega
  rcases this with e|e|e|e<;>rw[e]
  ·exact⟨_,⟨by decide,by decide +kernel⟩,by decide,rfl⟩
  ·exact⟨_,⟨by decide,by decide +kernel⟩,by decide,rfl⟩
  ·exact⟨_,⟨by decide,by decide +kernel⟩,by decide,rfl⟩
  ·exact⟨_,⟨by decide,by decide +kernel⟩,by decide,rfl⟩
 obtain⟨ho,o,hnw,hix⟩:=ix
 refine⟨_,hix,?_⟩
 refine⟨_,M.nn,?_⟩
 have no:∀{μ' o10 o11 o12 o13},LM μ' c g dn dl wr wg x y z rs s ps kn kl->E.nx [some (shp x y z),some (.int far),some (.int many),o3,some (.mut c),some (.mut dn),some (.mut dl),some (.mut wr),some (.mut wg),some (.int cell),o10,o11,o12,o13] μ':=λ{μ' o10 o11 o12 o13} M'=>q μ' rs s ps kn kl _ _ _ _ M' run wf (by omega) (by omega) (by omega) (by omega) (by omega) rfl
 have yes:∀{μ' r t ps' kn' kl' o10 o12 o13},(∀k,k≠ho->t.hm k=s.hm k)->Sp7 x y z r s t->LM μ' c g dn dl wr wg x y z rs t ps' kn' kl'->ps'.length<=ps.length+1->kn'.length<=kn.length+1->kl'.length<=kl.length+1->t.td.length<=s.td.length+1000->zM J_ [some (shp x y z),some (.int far),some (.int many),o3,some (.mut c),some (.mut dn),some (.mut dl),some (.mut wr),some (.mut wg),some (.int cell),o10,some r.t,o12,o13] μ' E:=λ{μ' r t ps' kn' kl' o10 o12 o13} hk sp M' h1 h2 h3 h4=>
  z7x M' rl λμ2 M2=>q μ2 _ t ps' kn' kl' _ _ _ _ M2 (run.snoc sp) (sp.wf sz wf) h1 h2 h3 h4 (by simp) (hk _ hnw)
 have lease:=λ(E':En) (h:E'.nx=λτ μ=>zM J_ τ μ E)=>z5N (E:=E') (o3:=o3) (o11:=o11) (o12:=o12) (o13:=o13) (far:=far) (many:=many) (cell:=cell) M hl hk o m1 (λμ' p12 M'=>by rw[h];exact no M') (λμ' r t ps' kn' p12 hk sp M' h1 h2 h3=>by rw[h];exact yes hk sp M' h1 h2 (by omega) h3)
 cases e0:s.hm ho with
 |none=>
  have:zi (.inr ho) kn=none:=by rw[M.hn,e0];rfl
  refine z7D (by rw[this];rfl) ?_
  exact lease _ rfl
 |some hh=>
  have:zi (.inr ho) kn=some (lsT (some hh.a)):=by rw[M.hn,e0];rfl
  refine z4q (by rw[this];rfl) ?_
  refine zq (by decide) λd1 d10=>?_
  refine⟨by decide,?_⟩
  refine zH (λe=>?_) (λe=>?_)
  ·exact lease _ rfl
  ·exact z7O sz zl wf M hk2 tl o e0 (λμ' p13 M'=>no M') λμ' r t kl' p13 hk sp M' h1 h2=>yes hk sp M' (by omega) (by omega) h1 h2
theorem X2{far many:Int}{cs:List Int}(sz:Hz x y z)(zl:z<=1000)(m1:1<=many)(tab:μ[0]?=some (.tab 0))(hl:cs.length<=40)
  (q:∀μ' wr wg rs s,μ'[wr]?=some (.lst (rs.map Row.t))->μ'[wg]?=some (.lst (s.td.map prT))->μ'[0]?=some (.tab 0)->rs.length<=40->s.td.length<=40000->Run7 x y z rs s70 s->s.hm "new"=none->wr≠wg->K (.tup [.mut wr,.mut wg]) μ') :
  Q0 [shp x y z,.int far,.int many,.lst (cs.map T.int)] μ K Z:=by
 unfold Q0
 refine⟨rfl,?_⟩
 refine qI ?_
 refine⟨rfl,?_⟩
 generalize hμ:μ++[MO.obj 43 [(9,shp x y z),(10,.mut (μ.length+1))],.lst []]=μ1
 have l1:μ1.length=μ.length+2:=by rw[←hμ];simp
 have ch1:Ch [] μ μ1:=by
  rw[←hμ]
  exact⟨by simp,λj hj _=>z8p hj⟩
 have g1:μ1[μ.length]?=some (MO.obj 43 [(9,shp x y z),(10,.mut (μ.length+1))]):=by
  rw[←hμ,z8r (z8n _)];simp
 have g2:μ1[μ.length+1]?=some (MO.lst []):=by
  rw[←hμ,z8r (by omega)];simp
 have M0:LM (μ1++[MO.dic []]++[MO.dic []]++[MO.lst []]++[MO.lst []]) μ.length (μ.length+1) μ1.length (μ1++[MO.dic []]).length (μ1++[MO.dic []]++[MO.dic []]).length (μ1++[MO.dic []]++[MO.dic []]++[MO.lst []]).length x y z [] s70 [] [] []:=by
  refine⟨⟨ze (ze (ze (ze g1))),ze (ze (ze (ze g2))),by simp,by simp⟩,rfl,ze (ze (ze zF)),ze (ze zF),λ_=>rfl,λ_=>rfl,ze zF,zF,(by simp;omega),(by simp;omega),(by simp),(by simp),ze (ze (ze (ze (ch1.get tab (by simp)))))⟩
 refine we (λj τ μ'=>∃(rs:List Row) (s:S7) (ps:List Gp) (kn kl:List (Key×T)) (o9 o10 o11 o12 o13:Option T),τ=[some (shp x y z),some (.int far),some (.int many),some (.lst (cs.map T.int)),some (.mut μ.length),some (.mut μ1.length),some (.mut (μ1++[MO.dic []]).length),some (.mut (μ1++[MO.dic []]++[MO.dic []]).length),some (.mut (μ1++[MO.dic []]++[MO.dic []]++[MO.lst []]).length),o9,o10,o11,o12,o13]/\LM μ' μ.length (μ.length+1) μ1.length (μ1++[MO.dic []]).length (μ1++[MO.dic []]++[MO.dic []]).length (μ1++[MO.dic []]++[MO.dic []]++[MO.lst []]).length x y z rs s ps kn kl/\s.hm "new"=none/\Run7 x y z rs s70 s/\WF x y z s/\ps.length<=j/\kn.length<=j/\kl.length<=j/\s.td.length<=1000 * j/\rs.length<=j)
  ⟨[],s70,[],[],[],_,_,_,_,_,rfl,M0,rfl,rfl,⟨λho hh e=>(by simp[s70] at e),λho hh v e=>(by simp[s70] at e)⟩,by simp,by simp,by simp,(by simp[s70]),by simp⟩ ?_ ?_
 ·rintro j u τ μ' hx ⟨rs,s,ps,kn,kl,o9,o10,o11,o12,o13,rfl,M,hn,run,wf,h1,h2,h3,h4,h5⟩ N hN
  rw[z8U] at hx
  obtain⟨v,hv,rfl⟩:=z9y.mp hx
  obtain⟨hj,er⟩:=z8h.mp hv
  refine⟨_,rfl,?_⟩
  exact z75 sz zl m1 M run wf (by omega) (by omega) (by omega) (by omega) (by omega) λμ2 rs' s' ps' kn' kl' p10 p11 p12 p13 M2 r2 w2 e1 e2 e3 e4 e5 e6=>hN _ _ ⟨rs',s',ps',kn',kl',_,_,_,_,_,rfl,M2,e6.trans hn,r2,w2,by omega,by omega,by omega,by omega,by omega⟩
 ·rintro τ μ' ⟨rs,s,ps,kn,kl,o9,o10,o11,o12,o13,rfl,M,hn,run,wf,h1,h2,h3,h4,h5⟩
  rw[z8B] at h4 h5
  exact q μ' _ _ rs s M.r M.gv M.tab (by omega) (by omega) run hn M.d3
theorem Zv{cell:Int}(q:∀x y z far many:Int,Hz x y z->z<=20->x * z<ZD->1<=many->0<=far->x=far+many->K (.tup [shp x y z,.int far,.int many]) μ):wQ [.int cell] μ K Z:=by
 unfold wQ
 refine⟨rfl,?_⟩
 refine Vv (by decide) (by decide) ?_
 refine⟨by decide,?_⟩
 refine Vv (by decide) (by decide) ?_
 refine xI (by decide) ?_
 refine⟨by decide,?_⟩
 have p:∃v:Int,wD [T.int 0,.int (z4E cell 40 1000),.int (z4E cell 50 (10 ^ Int.toNat 36))] (vY cell 39 % 3)=some (.int v)/\0<=v/\v<1000000000000000000000000000000000000:=by
  have:vY cell 39 % 3=0\/vY cell 39 % 3=1\/vY cell 39 % 3=2:=by omega
  rcases this with e|e|e<;>rw[e]
  ·exact⟨_,rfl,by decide,by decide⟩
  ·refine⟨_,rfl,z8C _ (by decide),Int.lt_trans (z8z _ (by decide)) (by decide)⟩
  ·exact⟨_,rfl,z8C _ (by decide),z8z _ (by decide)⟩
 obtain⟨far,ev,f0,f1⟩:=p
 refine⟨_,ev,?_⟩
 refine zq (by decide) λd1 d10=>?_
 refine⟨by decide,?_⟩
 refine zq (by decide) λd2 d20=>?_
 refine⟨by decide,?_⟩
 refine zq (by decide) λd3 d30=>?_
 refine⟨by decide,?_⟩
 have n1:=z8C d1 (show (20:Int)≠0 by decide)
 have n2:=z8C d2 (show (4:Int)≠0 by decide)
 have n3:=z8C d3 (show (20:Int)≠0 by decide)
 have m1:=z8z d1 (show (0:Int)<20 by decide)
 have m2:=z8z d2 (show (0:Int)<4 by decide)
 have m3:=z8z d3 (show (0:Int)<20 by decide)
 refine⟨rfl,?_⟩
 refine Zk (by omega) (by omega) (by omega) ?_
 refine⟨rfl,_,rfl,rfl,?_⟩
 refine q _ _ _ _ _ ⟨by omega,by omega,by omega,by omega,by omega⟩ (by omega) ?_ (by omega) f0 rfl
 have:(far+(1+d1 % 20)) * (1+d3 % 20)<=(far+(1+d1 % 20)) * 20:=Int.mul_le_mul_of_nonneg_left (by omega) (by omega)
 unfold ZD
 omega
theorem Q4{α β:Type}(f:α->β)(xs:List α)(lo hi:Option Int):xx (xs.map f) lo hi=(xx xs lo hi).map f:=by
 unfold xx
 rw[List.map_take,List.map_drop,z8B]
theorem Vs{α:Type}{f:α->T}(h:∀a,eqT (f a) (f a)=some true):∀l:List α,eqL (l.map f) (l.map f)=some true
 |[]=>rfl
 |a::r=>by simp only[z8R,eqL,h a,Vs h r];rfl
theorem z6m{p:Str×Int}:eqT (prT p) (prT p)=some true:=by simp[prT,eqT,eqL]
theorem z5G(l:List (Str×Int)):qL (l.map prT)<=40:=z3C (λp=>by show (0:Nat)+1<=1;decide) l
theorem z0H{xs:List T}{cs:List Int}{far many:Int}(hx:xs=cs.map T.int)(h:Q0 [shp x y z,.int far,.int many,.lst (cs.map T.int)] μ K Z):Q0 [shp x y z,.int far,.int many,.lst xs] μ K Z:=by rw[hx];exact h
end
section
variable {μ μ1 μ2:Mem}{K:T->Mem->Prop}{Z:Xp}{x y z:Int}{c:Nat}{fs:List (Nat×T)}{w:Str}
noncomputable def W72(w:Str)(c:Nat):Prop:=(w="row"/\c=25)\/(w="holder"/\c=17)\/(w="name"/\c=13)\/(w="time"/\c=16)\/(w="ended"/\c=19)\/(w="lease"/\c=18)\/(w="many"/\c=20)\/(w="wait"/\c=21)
theorem vC(hw:W72 w c)(q:K (.str w) μ):vX [.exc c fs] μ K Z:=by
 unfold vX
 rcases hw with⟨rfl,rfl⟩|⟨rfl,rfl⟩|⟨rfl,rfl⟩|⟨rfl,rfl⟩|⟨rfl,rfl⟩|⟨rfl,rfl⟩|⟨rfl,rfl⟩|⟨rfl,rfl⟩
 ·refine⟨rfl,?_⟩
  refine⟨by decide,?_⟩
  refine⟨_,rfl,?_⟩
  refine⟨([true,false,false,false,false,false,false,false],0),rfl,⟨by decide,rfl,λm hm=>by omega⟩,?_⟩
  exact⟨_,rfl,q⟩
 ·refine⟨rfl,?_⟩
  refine⟨by decide,?_⟩
  refine⟨_,rfl,?_⟩
  refine⟨([false,true,false,false,false,false,false,false],1),rfl,⟨by decide,rfl,λm hm=>by match m,hm with|0,_=>rfl⟩,?_⟩
  exact⟨_,rfl,q⟩
 ·refine⟨rfl,?_⟩
  refine⟨by decide,?_⟩
  refine⟨_,rfl,?_⟩
  refine⟨([false,false,true,false,false,false,false,false],2),rfl,⟨by decide,rfl,λm hm=>by match m,hm with|0,_=>rfl|1,_=>rfl⟩,?_⟩
  exact⟨_,rfl,q⟩
 ·refine⟨rfl,?_⟩
  refine⟨by decide,?_⟩
  refine⟨_,rfl,?_⟩
  refine⟨([false,false,false,true,false,false,false,false],3),rfl,⟨by decide,rfl,λm hm=>by match m,hm with|0,_=>rfl|1,_=>rfl|2,_=>rfl⟩,?_⟩
  exact⟨_,rfl,q⟩
 ·refine⟨rfl,?_⟩
  refine⟨by decide,?_⟩
  refine⟨_,rfl,?_⟩
  refine⟨([false,false,false,false,true,false,false,false],4),rfl,⟨by decide,rfl,λm hm=>by match m,hm with|0,_=>rfl|1,_=>rfl|2,_=>rfl|3,_=>rfl⟩,?_⟩
  exact⟨_,rfl,q⟩
 ·refine⟨rfl,?_⟩
  refine⟨by decide,?_⟩
  refine⟨_,rfl,?_⟩
  refine⟨([false,false,false,false,false,true,false,false],5),rfl,⟨by decide,rfl,λm hm=>by match m,hm with|0,_=>rfl|1,_=>rfl|2,_=>rfl|3,_=>rfl|4,_=>rfl⟩,?_⟩
  exact⟨_,rfl,q⟩
 ·refine⟨rfl,?_⟩
  refine⟨by decide,?_⟩
  refine⟨_,rfl,?_⟩
  refine⟨([false,false,false,false,false,false,true,false],6),rfl,⟨by decide,rfl,λm hm=>by match m,hm with|0,_=>rfl|1,_=>rfl|2,_=>rfl|3,_=>rfl|4,_=>rfl|5,_=>rfl⟩,?_⟩
  exact⟨_,rfl,q⟩
 ·refine⟨rfl,?_⟩
  refine⟨by decide,?_⟩
  refine⟨_,rfl,?_⟩
  refine⟨([false,false,false,false,false,false,false,true],7),rfl,⟨by decide,rfl,λm hm=>by match m,hm with|0,_=>rfl|1,_=>rfl|2,_=>rfl|3,_=>rfl|4,_=>rfl|5,_=>rfl|6,_=>rfl⟩,?_⟩
  exact⟨_,rfl,q⟩
end
section
variable {μ μ1 μ2:Mem}{K:T->Mem->Prop}{Z:Xp}{x y z:Int}{c:Nat}{w:Str}
theorem z1n{R:T}(hp:∀(K':T->Mem->Prop) (Z':Xp),(∀μ' fs,Ch [] μ μ'->Z' c fs μ')->qO [shp x y z,R] μ K' Z')(hw:W72 w c)(q:∀μ',Ch [] μ μ'->K (.str w) μ'):qK [shp x y z,R] μ K Z:=by
 unfold qK
 refine⟨rfl,?_⟩
 refine hp _ _ λμ' fs ch=>?_
 have go:∀c,W72 w c->c=25\/c=17\/c=13\/c=16\/c=19\/c=18\/c=20\/c=21:=λc h=>by
  rcases h with⟨_,h⟩|⟨_,h⟩|⟨_,h⟩|⟨_,h⟩|⟨_,h⟩|⟨_,h⟩|⟨_,h⟩|⟨_,h⟩<;>simp[h]
 rcases go c hw with rfl|rfl|rfl|rfl|rfl|rfl|rfl|rfl
 ·exact vC hw (q μ' ch)
 ·exact vC hw (q μ' ch)
 ·exact vC hw (q μ' ch)
 ·exact vC hw (q μ' ch)
 ·exact vC hw (q μ' ch)
 ·exact vC hw (q μ' ch)
 ·exact vC hw (q μ' ch)
 ·exact vC hw (q μ' ch)
end
section
variable {μ μ1 μ2:Mem}{K:T->Mem->Prop}{Z:Xp}{x y z:Int}{i c g d w L:Nat}{kvs:List (Key×T)}{s t:S7}{ps:List Gp}{rs:List Row}
theorem uj{us:List T}(b:T->Bool)(h:∀u∈us,∀(K:T->Mem->Prop) (Z:Xp),K (.bl (b u)) μ->zk [u] μ K Z)(hl:us.length<=1000)(q:K (.bl (us.all b)) μ):zI [.lst us] μ K Z:=by
 unfold zI
 refine⟨rfl,?_⟩
 refine⟨by unfold room;omega,?_⟩
 have e:us=us.map id:=by simp
 rw[e]
 refine qC (id:T->T) (λu=>some (.bl (b u))) (λu hu kk hkk=>⟨_,rfl,h u hu _ _ hkk⟩) ?_ trivial
 rw[z9h]
 refine⟨_,j9 b us,?_⟩
 have:K (.bl ((us.map b).all id)) μ:=by rw[zbK];exact q
 exact this
theorem Xz{us:List T}(b:T->Bool)(h:∀u∈us,∀(K:T->Mem->Prop) (Z:Xp),K (.bl (b u)) μ->zk [u] μ K Z)(hl:us.length<=1000)(hb:us.all b=false)(q:Z 25 [] μ):qO [shp x y z,.lst us] μ K Z:=by
 unfold qO
 refine⟨rfl,?_⟩
 refine uj b h hl ?_
 rw[hb]
 exact⟨by show (1:Nat)<=room;decide,q⟩
theorem Xq{u:T}{c0:Nat}(sz:Hz x y z)(hb:x * z<ZD)(tab:μ[0]?=some (.tab 0))(hl:rs.length<=41)(run:Run7 x y z rs s70 t)
  (hu:∀(μ:Mem) (K:T->Mem->Prop) (Z:Xp),K (.bl true) μ->zk [u] μ K Z)
  (bad:∀(E:En) (μ1:Mem) (L c g d w:Nat) (ps:List Gp) (kvs:List (Key×T)) (o1 o6 o7:Option T),PM μ1 L c g d w x y z t ps kvs->WF x y z t->ps.length<63->kvs.length<=1000->(∀fs τ μ2,Ch [d] μ1 μ2->E.ex c0 fs τ μ2)->zM Z3 [some (shp x y z),o1,some (.mut c),some (.mut d),some (.mut w),some u,o6,o7] μ1 E)
  (q:∀fs μ',Ch [] μ μ'->Z c0 fs μ'):qO [shp x y z,.lst (rs.map Row.t++[u])] μ K Z:=by
 unfold qO
 refine⟨rfl,?_⟩
 refine uj (λ_=>true) (λv hv K Z q=>?_) (by simp;omega) ?_
 ·rcases z8v.mp hv with hv|hv
  ·obtain⟨r,_,rfl⟩:=z9b.mp hv
   exact jO q
  ·rw[z8l.mp hv];exact hu _ _ _ q
 rw[show (rs.map Row.t++[u]).all (λ_=>true)=true by simp]
 refine qI ?_
 refine⟨rfl,?_⟩
 generalize hμ:μ++[MO.obj 43 [(9,shp x y z),(10,.mut (μ.length+1))],.lst []]=μ1
 have l1:μ1.length=μ.length+2:=by rw[←hμ];simp
 have ch1:Ch [] μ μ1:=by
  rw[←hμ]
  exact⟨by simp,λj hj _=>z8p hj⟩
 have g1:μ1[μ.length]?=some (MO.obj 43 [(9,shp x y z),(10,.mut (μ.length+1))]):=by
  rw[←hμ,z8r (z8n _)];simp
 have g2:μ1[μ.length+1]?=some (MO.lst []):=by
  rw[←hμ,z8r (by omega)];simp
 have P0:PM (μ1++[MO.dic []]++[.lst []]) μ.length μ.length (μ.length+1) μ1.length (μ1++[MO.dic []]).length x y z s70 [] []:=by
  refine⟨⟨ze (ze g1),ze (ze g2),by simp,by simp⟩,rfl,ze zF,⟨λ_ _=>rfl,λho hh e=>(by simp[s70] at e),λho ho' i e=>(by cases e)⟩,λho i e=>(by cases e),zF,(by simp;omega),ze (ze (ch1.get tab (by simp)))⟩
 refine we (λj τ μ'=>∃(s:S7) (ps:List Gp) (kvs:List (Key×T)) (o5 o6 o7:Option T),j<=rs.length/\τ=[some (shp x y z),some (.lst (rs.map Row.t++[u])),some (.mut μ.length),some (.mut μ1.length),some (.mut (μ1++[MO.dic []]).length),o5,o6,o7]/\Run7 x y z (rs.drop j) s t/\WF x y z s/\PM μ' μ.length μ.length (μ.length+1) μ1.length (μ1++[MO.dic []]).length x y z s ps kvs/\ps.length<=j/\kvs.length<=j/\s.td.length<=1000 * j/\μ.length<=μ'.length/\Ch [] μ μ')
  ⟨s70,[],[],_,_,_,zac _,rfl,run,⟨λho hh e=>(by simp[s70] at e),λho hh v e=>(by simp[s70] at e)⟩,P0,by simp,by simp,(by simp[s70]),(by simp;omega),(ch1.trans Ch.app).trans Ch.app⟩ ?_ ?_
 ·rintro j v τ μ' hx ⟨s,ps,kvs,o5,o6,o7,jl,rfl,rn,wf,P,h1,h2,h3,h4,h5⟩ N hN
  by_cases hj:j<rs.length
  ·rw[z8p (by rw[z8B];exact hj),z8U,z90 hj] at hx
   cases hx
   rw[za9 hj] at rn
   obtain⟨m,sp,rn⟩:=rn
   refine⟨_,rfl,?_⟩
   exact z05 sz hb P wf sp (by omega) (by omega) (by omega) h4 (by omega) (by omega) (by simp;omega) rfl h5 λμ2 ps' kvs' p6 p7 P2 e1 e2 e3 e4 e5=>hN _ _ ⟨m,ps',kvs',_,_,_,hj,rfl,rn,sp.wf sz wf,P2,by omega,by omega,by omega,e4,e5⟩
  ·have ej:j=rs.length:=by omega
   subst ej
   rw[z8r (by rw[z8B];omega),z8B,Nat.sub_self] at hx
   cases hx
   rw[zcD] at rn
   have e:t=s:=rn
   subst e
   refine⟨_,rfl,?_⟩
   refine bad _ _ _ _ _ _ _ _ _ _ _ _ P wf (by omega) (by omega) λfs τ μ2 ch2=>?_
   exact q fs μ2 (Ch.geS7 h5 ch2 (by simp;omega))
 ·rintro τ μ' ⟨s,ps,kvs,o5,o6,o7,jl,rfl,rn,_⟩
  simp at jl
  omega
end
section
variable {μ μ1 μ2:Mem}{K:T->Mem->Prop}{Z:Xp}{c g r i0:Nat}{x y z:Int}{ps qs:List Gp}
def WT(t:T):Prop:=∀(μ:Mem) (K:T->Mem->Prop) (Z:Xp),K (.bl false) μ->qt [t] μ K Z
def z2K(t:T):Prop:=∀(μ:Mem) (K:T->Mem->Prop) (Z:Xp),K (.bl false) μ->zY [t] μ K Z
def Uj(t:T):Prop:=∀(μ:Mem) (K:T->Mem->Prop) (Z:Xp),K (.bl false) μ->qH [t] μ K Z
noncomputable def Ue:T->Bool
 |.int _=>true|.bl _=>true|.str _=>true|.lst _=>true|.tup _=>true
 |_=>false
def Kg(y:Int)(t:T):Prop:=Ue t=true/\∀(μ:Mem) (K:T->Mem->Prop) (Z:Xp),K (.bl false) μ->qh [t,.int y] μ K Z
theorem Z5{t:T}(h:(match t with|.int _=>false|.mut _=>false|.clo _ _=>false|.exc _ _=>false|.obj _ _=>false|_=>true)=true):Uj t:=λμ K Z q=>by
 unfold qH
 refine⟨rfl,?_⟩
 exact wV h q
theorem vg{n:Int}(h:n<1):Uj (.int n):=λμ K Z q=>zL (by rw[decide_eq_false (by omega)];exact q)
theorem UX{t:T}(h:(match t with|.int _=>false|.mut _=>false|.clo _ _=>false|.exc _ _=>false|.obj _ _=>false|_=>true)=true)(hn:Ue t=true):Kg y t:=⟨hn,λμ K Z q=>by
 unfold qh
 refine⟨rfl,?_⟩
 exact wV h q⟩
theorem ZY{n:Int}(h:n<0\/y<=n):Kg y (.int n):=⟨rfl,λμ K Z q=>kL (by
 rcases h with h|h
 ·rw[decide_eq_false (by omega)];exact q
 ·rw[decide_eq_false (show ¬n<y by omega),zbY];exact q)⟩
end
section
variable {μ μ1 μ2:Mem}{K:T->Mem->Prop}{Z:Xp}{x y z:Int}{i c g d w L:Nat}{kvs:List (Key×T)}{s t:S7}{ps:List Gp}{rs:List Row}{c0:Nat}
def Zn (x y z:Int)(t:S7)(u:T)(c0:Nat):Prop:=∀(E:En) (μ1:Mem) (L c g d w:Nat) (ps:List Gp) (kvs:List (Key×T)) (o1 o6 o7:Option T),PM μ1 L c g d w x y z t ps kvs->WF x y z t->ps.length<63->kvs.length<=1000->(∀fs τ μ2,Ch [d] μ1 μ2->E.ex c0 fs τ μ2)->zM Z3 [some (shp x y z),o1,some (.mut c),some (.mut d),some (.mut w),some u,o6,o7] μ1 E
theorem Q5{ho:T}(h:WT ho)(q:Z 17 [] μ):wm [.mut d,shp x y z,ho] μ K Z:=by
 unfold wm
 refine⟨rfl,?_⟩
 refine h _ _ _ ?_
 exact⟨by show (1:Nat)<=room;decide,q⟩
theorem z0X{a ho t2 t3:T}(h:WT ho):Zn x y z t (.tup [a,ho,t2,t3]) 17:=by
 intro E μ1 L c g d w ps kvs o1 o6 o7 P wf h1 h2 q
 refine⟨_,rfl,?_⟩
 exact Q5 h (q _ _ _ Ch.refl)
theorem z1X{a ho t2 t3 t4:T}(h:WT ho):Zn x y z t (.tup [a,ho,t2,t3,t4]) 17:=by
 intro E μ1 L c g d w ps kvs o1 o6 o7 P wf h1 h2 q
 refine⟨_,rfl,?_⟩
 exact Q5 h (q _ _ _ Ch.refl)
theorem Wx{E:En}{ho:Str}{hs mo sp:T}{l:Option Ls}{mm nn:Option Int}{o0 o1:Option T}(B:Bk μ c g (shp x y z) ps)(hi:μ[i]?=some (hs7 x y z l mm nn))
  (lb:∀(K:T->Mem->Prop) (Z:Xp),(∀μ',Ch [] μ μ'->Z c0 [] μ')->zw [.mut c,.str ho,hs,mo,sp] μ K Z) (q:∀fs τ μ',Ch [] μ μ'->E.ex c0 fs τ μ') :
  zM (Z3.drop 2) [o0,o1,some (.mut c),some (.mut d),some (.mut w),some (.tup [.str "lease",.str ho,hs,mo,sp]),some (.str ho),some (.mut i)] μ E:=by
 refine⟨_,rfl,?_⟩
 refine⟨_,hi,?_⟩
 refine⟨_,B.com,?_⟩
 refine⟨_,rfl,_,rfl,_,rfl,?_⟩
 exact lb _ _ λμ' ch=>q _ _ μ' ch
theorem ku{ho:Str}{hs mo sp:T}(o:HoOk ho)
  (lb:∀(μ:Mem) (c g:Nat) (ps:List Gp) (K:T->Mem->Prop) (Z:Xp),Bk μ c g (shp x y z) ps->μ[0]?=some (.tab 0)->ps.length<64->(∀μ',Ch [] μ μ'->Z c0 [] μ')->zw [.mut c,.str ho,hs,mo,sp] μ K Z):Zn x y z t (.tup [.str "lease",.str ho,hs,mo,sp]) c0:=by
 intro E μ1 L c g d w ps kvs o1 o6 o7 P wf h1 h2 q
 have dg:d≠g:=λe=>by have:=P.hd;rw[e,P.B.lst] at this;cases this
 refine⟨_,rfl,?_⟩
 refine wO P.H P.hd h2 o (λi hi=>?_) λhno μ2 ch1 d1 h3=>?_
 ·cases e:t.hm ho with
  |none=>rw[P.H.no ho e] at hi;cases hi
  |some hh0=>
   obtain⟨i',mm,i1,i2,i3⟩:=P.H.so ho hh0 e
   rw[hi] at i1;cases i1
   exact Wx P.B i2 (λK Z k=>lb _ _ _ _ _ _ P.B P.tab (by omega) k) λfs τ μ' ch=>q fs τ μ' (ch.mono (by simp))
 ·have gd:g∉[d]:=by simpa using dg.symm
  have cd:c∉[d]:=λe=>by have:=P.B.com;rw[z8l.mp e,P.hd] at this;cases this
  have B1:=P.B.ch ch1 cd gd λp hp e=>by have:=P.B.at_ p hp;rw[z8l.mp e,P.hd] at this;cases this
  have t1:=ch1.get P.tab (λe=>by have:=P.hd;rw[←z8l.mp e,P.tab] at this;cases this)
  exact Wx B1 h3 (λK Z k=>lb _ _ _ _ _ _ B1 t1 (by omega) k) λfs τ μ' ch=>q fs τ μ' (ch1.trans (ch.mono (by simp)))
end
section
variable {μ μ1 μ2:Mem}{K:T->Mem->Prop}{Z:Xp}{x y z:Int}{i c g d w L:Nat}{ps:List Gp}{ho:Str}
theorem z2b{hs mo sp:T}(o:HoOk ho)(h:Kg y hs)(B:Bk μ c g (shp x y z) ps)(q:∀μ',Ch [] μ μ'->Z 13 [] μ'):zw [.mut c,.str ho,hs,mo,sp] μ K Z:=by
 unfold zw
 refine⟨rfl,?_⟩
 refine⟨_,B.com,?_⟩
 unfold zG
 refine⟨rfl,?_⟩
 refine qc o.l o.h ?_
 obtain⟨h1,h2⟩:=h
 cases hs<;>first|(cases h1;done)|(refine⟨_,_,_,B.com,rfl,?_⟩;refine h2 _ _ _ ?_;exact⟨by show (1:Nat)<=room;decide,q μ Ch.refl⟩)
theorem z1E{h:Int}{mo sp:T}(o:HoOk ho)(a:0<=h)(b:h<y)(hs:Uj sp)(B:Bk μ c g (shp x y z) ps)(q:∀μ',Ch [] μ μ'->Z 16 [] μ'):zw [.mut c,.str ho,.int h,mo,sp] μ K Z:=by
 unfold zw
 refine⟨rfl,?_⟩
 refine⟨_,B.com,?_⟩
 unfold zG
 refine⟨rfl,?_⟩
 refine qc o.l o.h ?_
 refine⟨_,_,_,B.com,rfl,?_⟩
 refine wR a b ?_
 refine hs _ _ _ ?_
 exact⟨by show (1:Nat)<=room;decide,q μ Ch.refl⟩
theorem z68{mo:T}{n:Int}(o:HoOk ho)(n1:1<=n)(hm:z2K mo)(B:Bk μ c g (shp x y z) ps)(q:∀μ',Ch [] μ μ'->Z 16 [] μ'):zw [.mut c,.str ho,.non,mo,.int n] μ K Z:=by
 unfold zw
 refine⟨rfl,?_⟩
 refine⟨_,B.com,?_⟩
 unfold zG
 refine⟨rfl,?_⟩
 refine qc o.l o.h ?_
 refine zL ?_
 refine Wg n1 ?_
 refine hm _ _ _ ?_
 exact⟨by show (1:Nat)<=room;decide,q μ Ch.refl⟩
theorem z1B(o:HoOk ho)(x1:0<=x)(B:Bk μ c g (shp x y z) ps)(ht:μ[0]?=some (.tab 0))(hl:ps.length<64)(q:∀μ',Ch [] μ μ'->Z 19 [] μ'):zw [.mut c,.str ho,.non,.int 0,.int (x+1)] μ K Z:=by
 refine uu B ht hl o.l o.h (.inl rfl) (by omega) (λh b μ' _ _ ch=>q μ' ch) λh b μ' a _ _ b0 b1=>?_
 omega
theorem z2f(o:HoOk ho)(x1:0<=x)(y1:1<=y)(B:Bk μ c g (shp x y z) ps)(ht:μ[0]?=some (.tab 0))(hl:ps.length<64)(q:∀μ',Ch [] μ μ'->Z 19 [] μ'):zw [.mut c,.str ho,.int 0,.int x,.int 1] μ K Z:=by
 refine uu B ht hl o.l o.h (.inr ⟨0,rfl,by omega,by omega⟩) (by omega) (λh b μ' _ _ ch=>q μ' ch) λh b μ' a _ _ b0 b1 lz=>?_
 rcases lz with⟨e,_⟩|⟨_,e0,_⟩
 ·cases e
 ·rw[if_neg (by omega)] at e0
  omega
end
section
variable {μ μ1 μ2:Mem}{K:T->Mem->Prop}{Z:Xp}{x y z h:Int}{i bi:Nat}{sh kp bt r0 m0:T}{ah sd:Int}{l l':Option Ls}{m m' n:Option Int}{a:Ls}{r k:Int}{c:Nat}{fs:List (Nat×T)}{w:Str}
theorem z26(ho:μ[i]?=some (hsO sh ah sd kp l m n bt false))(hb:∀(K:T->Mem->Prop) (Z:Xp),Z c fs μ->zd [.mut i,r0,m0] μ K Z)(q:Z c fs μ):zO [.mut i,r0,m0] μ K Z:=by
 unfold zO
 refine⟨rfl,?_⟩
 refine⟨_,ho,?_⟩
 refine vS ho ?_
 refine⟨_,ho,?_⟩
 exact hb _ _ q
def z6C (z:Int)(t:T):Prop:=(∀(μ:Mem) (K:T->Mem->Prop) (Z:Xp),K (.bl false) μ->qH [t] μ K Z)\/∃k:Int,t=.int k/\1<=k/\z<k
def z6l (t:T):Prop:=∀(μ:Mem) (K:T->Mem->Prop) (Z:Xp),K (.bl false) μ->zY [t] μ K Z
theorem xw(ho:μ[i]?=some (hsO (shp x y z) ah sd kp l m n bt false))(hb:z6C z m0)(q:Z 20 [] μ):zd [.mut i,r0,m0] μ K Z:=by
 unfold zd
 refine⟨rfl,?_⟩
 rcases hb with hb|⟨k,rfl,k1,k2⟩
 ·refine hb _ _ _ ?_
  exact⟨by show (1:Nat)<=room;decide,q⟩
 ·refine zL ?_
  rw[decide_eq_true k1]
  refine⟨_,_,_,ho,rfl,?_⟩
  refine jU k2 ?_
  exact⟨by show (1:Nat)<=room;decide,q⟩
theorem Xo(ho:μ[i]?=some (hsO (shp x y z) ah sd kp l m n bt false))(k1:1<=k)(k2:k<=z)(hr:z6l r0)(q:Z 16 [] μ):zd [.mut i,r0,.int k] μ K Z:=by
 unfold zd
 refine⟨rfl,?_⟩
 refine zL ?_
 rw[decide_eq_true k1]
 refine⟨_,_,_,ho,rfl,?_⟩
 refine jM (by omega) ?_
 refine hr _ _ _ ?_
 exact⟨by show (1:Nat)<=room;decide,q⟩
theorem XR(ho:μ[i]?=some (hsO (shp x y z) ah sd kp none m n bt false))(k1:1<=k)(k2:k<=z)(q:Z 18 [] μ):zd [.mut i,.int r,.int k] μ K Z:=by
 unfold zd
 refine⟨rfl,?_⟩
 refine zL ?_
 rw[decide_eq_true k1]
 refine⟨_,_,_,ho,rfl,?_⟩
 refine jM (by omega) ?_
 refine zK ?_
 refine⟨_,ho,?_⟩
 unfold zE
 refine⟨rfl,?_⟩
 refine⟨_,_,_,ho,rfl,?_⟩
 exact⟨by show (1:Nat)<=room;decide,q⟩
end
section
variable {μ μ1 μ2:Mem}{K:T->Mem->Prop}{Z:Xp}{x y z:Int}{i c g d w L:Nat}{kvs:List (Key×T)}{s t:S7}{ps:List Gp}{c0:Nat}{fs:List (Nat×T)}{ho:Str}{r0 m0:T}{sh kp bt:T}{ah sd:Int}{l:Option Ls}{m n:Option Int}
theorem z2c(hh:μ[i]?=some (hsO sh ah sd kp l m n bt false))(hb:∀(K:T->Mem->Prop) (Z:Xp),Z c0 fs μ->zd [.mut i,r0,m0] μ K Z)(q:Z c0 fs μ):qq [.mut i,r0,m0] μ K Z:=by
 unfold qq
 refine⟨rfl,?_⟩
 refine⟨_,hh,?_⟩
 exact z26 hh hb q
theorem Vg{E:En}{o0 o1:Option T}{td:List (Str×Int)}(hi:μ[i]?=some (hs7 x y z l m n))(tw:μ[w]?=some (.lst (td.map prT)))
  (hb:∀(K:T->Mem->Prop) (Z:Xp),Z c0 fs μ->zd [.mut i,r0,m0] μ K Z) (q:∀τ,E.ex c0 fs τ μ) :
  zM (Z3.drop 2) [o0,o1,some (.mut c),some (.mut d),some (.mut w),some (.tup [.str "ask",.str ho,r0,m0]),some (.str ho),some (.mut i)] μ E:=by
 refine⟨_,rfl,?_⟩
 refine⟨⟨_,tw⟩,?_⟩
 refine⟨_,hi,?_⟩
 refine⟨_,rfl,_,rfl,?_⟩
 exact z2c hi hb (q _)
theorem yp(o:HoOk ho)
  (h1:∀(μ:Mem) (i:Nat) hh mm,t.hm ho=some hh->(hh.n=none->mm=none)->μ[i]?=some (hs7 x y z (some hh.a) mm hh.n)->∀(K:T->Mem->Prop) (Z:Xp),Z c0 fs μ->zd [.mut i,r0,m0] μ K Z)
  (h2:∀(μ:Mem) (i:Nat),t.hm ho=none->μ[i]?=some (hs7 x y z none none none)->∀(K:T->Mem->Prop) (Z:Xp),Z c0 fs μ->zd [.mut i,r0,m0] μ K Z):Zn x y z t (.tup [.str "ask",.str ho,r0,m0]) c0:=by
 intro E μ1 L c g d w ps kvs o1 o6 o7 P wf k1 k2 q
 refine⟨_,rfl,?_⟩
 refine wO P.H P.hd k2 o (λi hi=>?_) λhno μ2 ch1 d1 h3=>?_
 ·cases e:t.hm ho with
  |none=>rw[P.H.no ho e] at hi;cases hi
  |some hh0=>
   obtain⟨i',mm,i1,i2,i3⟩:=P.H.so ho hh0 e
   rw[hi] at i1;cases i1
   exact Vg i2 P.tw (h1 _ _ _ _ e i3 i2) λτ=>q fs τ μ1 Ch.refl
 ·have w1:=ch1.get P.tw (λe=>by have:=P.hd;rw[←z8l.mp e,P.tw] at this;cases this)
  exact Vg h3 w1 (h2 _ _ hno h3) λτ=>q fs τ μ2 ch1
end
section
variable {μ μ1 μ2:Mem}{K:T->Mem->Prop}{Z:Xp}{x y z:Int}{i:Nat}{kp bt:T}{ah sd:Int}{a:Ls}{m n:Option Int}{r k:Int}
def xD (y z:Int)(a:Ls)(n m:Option Int)(r:Int):Int:=if xY y z a.1 n m<(if a.2.1<r then r else a.2.1) * z then (if a.2.1<r then r else a.2.1) * z else xY y z a.1 n m
theorem vk(s:Hz x y z)(ho:μ[i]?=some (hsO (shp x y z) ah sd kp (some a) m n bt false))(hn:∀k,n=some k->0<=k/\k<x * y * z)(k1:1<=k)(k2:k<=z)
  (h:(a.2.2 * z<xD y z a n m r+k/\Z 18 [] μ)\/(xD y z a n m r+k<=a.2.2 * z/\0<(xD y z a n m r+k-1) / z-(r+ah)/\((xD y z a n m r+k-1) / z-(r+ah)).natAbs.log2<1920/\Z 21 [(29,.int ((xD y z a n m r+k-1) / z-(r+ah)))] μ)) :
  zd [.mut i,.int r,.int k] μ K Z:=by
 obtain⟨x1,y1,y2,z1,z2⟩:=id s
 have fin:∀B L:Int,B=xD y z a n m r->zM (qf.drop 5) [some (.mut i),some (.int r),some (.int k),some (.int L),some (.int B),none,none] μ (En.fn K Z):=by
  intro B L hB
  subst hB
  refine⟨_,_,_,ho,rfl,?_⟩
  refine⟨_,rfl,?_⟩
  refine⟨_,_,_,ho,rfl,?_⟩
  refine⟨.inr ⟨by unfold big;omega,by unfold big;omega⟩,?_⟩
  rcases h with⟨h1,q⟩|⟨h1,h2,h3,q⟩
  ·refine jU h1 ?_
   exact⟨by show (1:Nat)<=room;decide,q⟩
  ·refine jM (by omega) ?_
   refine⟨_,_,_,ho,rfl,?_⟩
   refine⟨⟨by omega,by omega⟩,?_⟩
   refine⟨_,_,_,ho,rfl,?_⟩
   refine jU h2 ?_
   exact⟨h3,q⟩
 unfold zd
 refine⟨rfl,?_⟩
 refine zL ?_
 rw[decide_eq_true k1]
 refine⟨_,_,_,ho,rfl,?_⟩
 refine jM (by omega) ?_
 refine zK ?_
 refine⟨_,ho,?_⟩
 unfold zE
 refine⟨rfl,?_⟩
 refine⟨_,_,_,ho,rfl,?_⟩
 refine⟨_,_,_,ho,rfl,?_⟩
 refine⟨_,rfl,?_⟩
 refine⟨_,_,_,ho,rfl,?_⟩
 refine⟨.inr ⟨by unfold big;omega,by unfold big;omega⟩,?_⟩
 refine⟨_,ho,?_⟩
 refine y4 s ho hn ?_
 exact fin _ _ rfl
end
section
variable {μ μ1 μ2:Mem}{K:T->Mem->Prop}{Z:Xp}{x y z:Int}
def vQ (u:T):Prop:=∀(μ:Mem) (K:T->Mem->Prop) (Z:Xp),K (.bl false) μ->zk [u] μ K Z
theorem z62:vQ .non:=λμ K Z q=>by unfold zk;exact⟨rfl,q⟩
theorem z4i:vQ (.int 7):=λμ K Z q=>by unfold zk;exact⟨rfl,q⟩
theorem z3N:vQ (.tup []):=λμ K Z q=>by unfold zk;exact⟨rfl,q⟩
theorem z4t:vQ (.lst [.str "ask",.str "anna",.int 0,.int 1]):=λμ K Z q=>by unfold zk;exact⟨rfl,q⟩
theorem z4W:vQ (.str "ask"):=λμ K Z q=>by unfold zk;exact⟨rfl,q⟩
theorem z3V:vQ (.tup [.str "lease"]):=λμ K Z q=>by
 unfold zk
 refine⟨rfl,?_⟩
 refine⟨_,rfl,?_⟩
 refine⟨_,rfl,?_⟩
 refine⟨_,rfl,by intro t ht;simp at ht;rcases ht with rfl|rfl<;>rfl,?_⟩
 exact q
theorem z4h:vQ (.tup [.str "ask",.str "anna",.int 0]):=λμ K Z q=>by
 unfold zk
 refine⟨rfl,?_⟩
 refine⟨_,rfl,?_⟩
 refine⟨_,rfl,?_⟩
 refine⟨_,rfl,by intro t ht;simp at ht;rcases ht with rfl|rfl<;>rfl,?_⟩
 exact q
theorem z4b:vQ (.tup [.str "lease",.str "anna",.int 0,.int 0]):=λμ K Z q=>by
 unfold zk
 refine⟨rfl,?_⟩
 refine⟨_,rfl,?_⟩
 refine⟨_,rfl,?_⟩
 refine⟨_,rfl,by intro t ht;simp at ht;rcases ht with rfl|rfl<;>rfl,?_⟩
 exact q
theorem z3K:vQ (.tup [.str "asks",.str "anna",.int 0,.int 1]):=λμ K Z q=>by
 unfold zk
 refine⟨rfl,?_⟩
 refine⟨_,rfl,?_⟩
 refine⟨_,rfl,?_⟩
 refine⟨_,rfl,by intro t ht;simp at ht;rcases ht with rfl|rfl<;>rfl,?_⟩
 exact q
theorem z5o:vQ (.tup [.str "ask",.str "anna",.int 0,.int 1,.int 1]):=λμ K Z q=>by
 unfold zk
 refine⟨rfl,?_⟩
 refine⟨_,rfl,?_⟩
 refine⟨_,rfl,?_⟩
 refine⟨_,rfl,by intro t ht;simp at ht;rcases ht with rfl|rfl<;>rfl,?_⟩
 exact q
theorem z5H:vQ (.tup [.str "lease",.str "anna",.int 0,.int 0,.int 1,.int 1]):=λμ K Z q=>by
 unfold zk
 refine⟨rfl,?_⟩
 refine⟨_,rfl,?_⟩
 refine⟨_,rfl,?_⟩
 refine⟨_,rfl,by intro t ht;simp at ht;rcases ht with rfl|rfl<;>rfl,?_⟩
 exact q
theorem ZQ{cell:Int}(q:∀u,vQ u->K u μ):wd [.int cell] μ K Z:=by
 unfold wd
 refine⟨rfl,?_⟩
 refine⟨by decide,?_⟩
 refine zq (by decide) λd0 d00=>?_
 refine⟨by decide,?_⟩
 have n0:=z8C d0 (show (11:Int)≠0 by decide)
 have n1:=z8z d0 (show (0:Int)<11 by decide)
 generalize d0 % 11=v at n0 n1 ⊢
 have:v=0\/v=1\/v=2\/v=3\/v=4\/v=5\/v=6\/v=7\/v=8\/v=9\/v=10:=by omega
 rcases this with rfl|rfl|rfl|rfl|rfl|rfl|rfl|rfl|rfl|rfl|rfl
 ·exact⟨_,rfl,q _ z62⟩
 ·exact⟨_,rfl,q _ z4i⟩
 ·exact⟨_,rfl,q _ z3N⟩
 ·exact⟨_,rfl,q _ z3V⟩
 ·exact⟨_,rfl,q _ z4t⟩
 ·exact⟨_,rfl,q _ z4h⟩
 ·exact⟨_,rfl,q _ z4b⟩
 ·exact⟨_,rfl,q _ z4W⟩
 ·exact⟨_,rfl,q _ z3K⟩
 ·exact⟨_,rfl,q _ z5o⟩
 ·exact⟨_,rfl,q _ z5H⟩
end
section
variable {μ μ1 μ2:Mem}{K:T->Mem->Prop}{Z:Xp}{x y z:Int}
def Qr (u:T):Prop:=∀(μ:Mem) (K:T->Mem->Prop) (Z:Xp),K (.bl true) μ->zk [u] μ K Z
theorem rw5{a b c d:T}:Qr (.tup [.str "lease",a,b,c,d]):=λμ K Z q=>by
 unfold zk
 refine⟨rfl,?_⟩
 refine⟨_,rfl,?_⟩
 refine⟨_,rfl,?_⟩
 refine⟨_,rfl,by intro t ht;simp at ht;rcases ht with rfl|rfl<;>rfl,?_⟩
 exact q
theorem rw4{a b c:T}:Qr (.tup [.str "ask",a,b,c]):=λμ K Z q=>by
 unfold zk
 refine⟨rfl,?_⟩
 refine⟨_,rfl,?_⟩
 refine⟨_,rfl,?_⟩
 refine⟨_,rfl,by intro t ht;simp at ht;rcases ht with rfl|rfl<;>rfl,?_⟩
 exact q
theorem w4:HoOk "new":=⟨by decide,by decide +kernel⟩
theorem wz:HoOk "fresh":=⟨by decide,by decide +kernel⟩
theorem z5v{d:Int}(h0:0<=d)(h1:d<8):∃t,wD [T.str "",.str "Anna",.str "abcdefghi",.non,.int 7,.bl true,.lst [.str "a"],.tup [.str "a"]] d=some t/\WT t:=by
 have:d=0\/d=1\/d=2\/d=3\/d=4\/d=5\/d=6\/d=7:=by omega
 have no:∀t:T,(∀(μ:Mem) (K:T->Mem->Prop) (Z:Xp),K (.bl false) μ->qt [t] μ K Z)->WT t:=λt h=>h
 rcases this with rfl|rfl|rfl|rfl|rfl|rfl|rfl|rfl
 ·exact⟨_,rfl,λμ K Z q=>qc (by decide) (by decide +kernel) q⟩
 ·exact⟨_,rfl,λμ K Z q=>qc (by decide) (by decide +kernel) q⟩
 ·exact⟨_,rfl,λμ K Z q=>qc (by decide) (by decide +kernel) q⟩
 all_goals exact⟨_,rfl,λμ K Z q=>by unfold qt;exact⟨rfl,q⟩⟩
theorem z7X{d:Int}(h0:0<=d)(h1:d<4):∃t,wD [T.non,.bl true,.str "1",.lst [.int 1]] d=some t/\z2K t:=by
 have:d=0\/d=1\/d=2\/d=3:=by omega
 rcases this with rfl|rfl|rfl|rfl
 all_goals exact⟨_,rfl,λμ K Z q=>wV rfl q⟩
theorem z8c{d:Int}(y1:1<=y)(h0:0<=d)(h1:d<4):∃t,wD [T.int (-1),.int y,.bl true,.str "0"] d=some t/\Kg y t:=by
 have:d=0\/d=1\/d=2\/d=3:=by omega
 rcases this with rfl|rfl|rfl|rfl
 ·exact⟨_,rfl,ZY (.inl (by decide))⟩
 ·exact⟨_,rfl,ZY (.inr (z9q _))⟩
 all_goals exact⟨_,rfl,UX rfl rfl⟩
theorem z5O {far cell:Int} (sz:Hz x y z) (q:∀w u c,W72 w c->Qr u->(∀t:S7,t.hm "new"=none->Zn x y z t u c)->K (.tup [.str w,u]) μ):kJ [shp x y z,.int far,.int cell] μ K Z:=by
 obtain⟨x1,y1,y2,z1,z2⟩:=id sz
 unfold kJ
 refine⟨rfl,?_⟩
 refine zq (by decide) λd1 d10=>?_
 refine⟨by decide,?_⟩
 obtain⟨nb,e1,hnb⟩:=z5v (z8C d1 (show (8:Int)≠0 by decide)) (z8z d1 (by decide))
 refine⟨_,e1,?_⟩
 refine zq (by decide) λd2 d20=>?_
 refine⟨by decide,?_⟩
 obtain⟨od,e2,hod⟩:=z7X (z8C d2 (show (4:Int)≠0 by decide)) (z8z d2 (by decide))
 refine⟨_,e2,?_⟩
 refine zq (by decide) λd3 d30=>?_
 refine⟨by decide,?_⟩
 obtain⟨hh,e3,hhh⟩:=z8c y1 (z8C d3 (show (4:Int)≠0 by decide)) (z8z d3 (by decide))
 refine⟨_,e3,?_⟩
 refine⟨by show (3:Nat)<=room;decide,?_⟩
 refine⟨by show (5:Nat)<=room;decide,?_⟩
 refine⟨by show (7:Nat)<=room;decide,?_⟩
 refine⟨by show (9:Nat)<=room;decide,?_⟩
 refine zq (by decide) λd4 d40=>?_
 refine⟨by decide,?_⟩
 have n0:=z8C d4 (show (9:Int)≠0 by decide)
 have n1:=z8z d4 (show (0:Int)<9 by decide)
 generalize d4 % 9=v at n0 n1 ⊢
 have:v=0\/v=1\/v=2\/v=3\/v=4\/v=5\/v=6\/v=7\/v=8:=by omega
 rcases this with rfl|rfl|rfl|rfl|rfl|rfl|rfl|rfl|rfl
 ·exact⟨_,rfl,q "holder" _ 17 (.inr (.inl ⟨rfl,rfl⟩)) rw5 λt _=>z1X hnb⟩
 ·exact⟨_,rfl,q "holder" _ 17 (.inr (.inl ⟨rfl,rfl⟩)) rw4 λt _=>z0X hnb⟩
 ·exact⟨_,rfl,q "name" _ 13 (.inr (.inr (.inl ⟨rfl,rfl⟩))) rw5 λt _=>ku w4 λμ c g ps K Z B _ _ k=>z2b w4 hhh B k⟩
 ·exact⟨_,rfl,q "time" _ 16 (.inr (.inr (.inr (.inl ⟨rfl,rfl⟩)))) rw5 λt _=>ku w4 λμ c g ps K Z B _ _ k=>z68 w4 (by decide) hod B k⟩
 ·exact⟨_,rfl,q "time" _ 16 (.inr (.inr (.inr (.inl ⟨rfl,rfl⟩)))) rw5 λt _=>ku w4 λμ c g ps K Z B _ _ k=>z1E w4 (by decide) (by omega) (vg (by decide)) B k⟩
 ·exact⟨_,rfl,q "ended" _ 19 (.inr (.inr (.inr (.inr (.inl ⟨rfl,rfl⟩))))) rw5 λt _=>ku w4 λμ c g ps K Z B ht hl k=>z1B w4 (by omega) B ht hl k⟩
 ·exact⟨_,rfl,q "lease" _ 18 (.inr (.inr (.inr (.inr (.inr (.inl ⟨rfl,rfl⟩)))))) rw4 λt hn=>yp (fs:=[]) w4 (λμ i hh mm e=>by rw[hn] at e;cases e) λμ i _ hi K Z k=>XR hi (by decide) (by omega) k⟩
 ·exact⟨_,rfl,q "ended" _ 19 (.inr (.inr (.inr (.inr (.inl ⟨rfl,rfl⟩))))) rw5 λt _=>ku w4 λμ c g ps K Z B ht hl k=>z2f w4 (by omega) y1 B ht hl k⟩
 ·exact⟨_,rfl,q "many" _ 20 (.inr (.inr (.inr (.inr (.inr (.inr (.inl ⟨rfl,rfl⟩))))))) rw4 λt _=>yp (fs:=[]) w4 (λμ i hh mm _ _ hi K Z k=>xw hi (.inl (vg (by decide))) k) λμ i _ hi K Z k=>xw hi (.inl (vg (by decide))) k⟩
end
section
variable {μ μ1 μ2:Mem}{K:T->Mem->Prop}{Z:Xp}{x y z:Int}{t:S7}{f:Int}{c0:Nat}{fs:List (Nat×T)}{r0 m0:T}
theorem kZ {a:Ls} (ht:t.hm "fresh"=some ⟨a,none⟩)
  (h1:∀(μ:Mem) (i:Nat),μ[i]?=some (hs7 x y z (some a) none none)->∀(K:T->Mem->Prop) (Z:Xp),Z c0 fs μ->zd [.mut i,r0,m0] μ K Z):Zn x y z t (.tup [.str "ask",.str "fresh",r0,m0]) c0:=
 yp wz (λμ i hh mm e n hi=>by
  rw[ht] at e;cases e
  rw[n rfl] at hi
  exact h1 μ i hi) λμ i e=>by rw[ht] at e;cases e
theorem z8a{d e:Int}(z1:1<=z)(e0:0<=e)(h0:0<=d)(h1:d<7):∃t,wD [T.int 0,.int (-1),.int (z+1),.bl true,.non,.str "1",.int (z+e+1)] d=some t/\z6C z t:=by
 have:d=0\/d=1\/d=2\/d=3\/d=4\/d=5\/d=6:=by omega
 rcases this with rfl|rfl|rfl|rfl|rfl|rfl|rfl
 ·exact⟨_,rfl,.inl (vg (by decide))⟩
 ·exact⟨_,rfl,.inl (vg (by decide))⟩
 ·exact⟨_,rfl,.inr ⟨z+1,rfl,by omega,by omega⟩⟩
 ·exact⟨_,rfl,.inl (Z5 rfl)⟩
 ·exact⟨_,rfl,.inl (Z5 rfl)⟩
 ·exact⟨_,rfl,.inl (Z5 rfl)⟩
 ·exact⟨_,rfl,.inr ⟨z+e+1,rfl,by omega,by omega⟩⟩
theorem z7G{d:Int}(h0:0<=d)(h1:d<5):∃t,wD [T.non,.bl true,.str "1",.lst [.int 1],.tup [.int 1]] d=some t/\z6l t:=by
 have:d=0\/d=1\/d=2\/d=3\/d=4:=by omega
 rcases this with rfl|rfl|rfl|rfl|rfl
 all_goals exact⟨_,rfl,λμ K Z q=>wV rfl q⟩
theorem Vf{a:Ls}{r:Int}(z1:1<=z)(f0:0<=a.2.1):xD y z a none none r=(if a.2.1<r then r else a.2.1) * z:=by
 unfold xD
 show (if (0:Int)<_ then _ else (0:Int))=_
 have:0<=(if a.2.1<r then r else a.2.1) * z:=z9L (by split<;>omega) (by omega)
 by_cases e:0<(if a.2.1<r then r else a.2.1) * z
 ·rw[if_pos e]
 ·rw[if_neg e];omega
theorem Jo{cell:Int}(sz:Hz x y z)(f0:0<=f)
  (q1:∀u,vQ u->K (.tup [.str "row",u]) μ)
  (q2:∀w u c,W72 w c->Qr u->(∀t:S7,t.hm "fresh"=some ⟨(0,f,f+1),none⟩->Zn x y z t u c)->K (.tup [.str w,u]) μ) :
  v7 [shp x y z,.tup [.int 0,.int f,.int (f+1)],.non,.str "fresh",.int cell] μ K Z:=by
 obtain⟨x1,y1,y2,z1,z2⟩:=id sz
 unfold v7
 refine⟨rfl,?_⟩
 refine⟨_,rfl,?_⟩
 refine zq (by decide) λd1 d10=>?_
 refine⟨by decide,?_⟩
 refine zH (λe=>?_) (λe=>?_)
 ·refine zq (by decide) λd2 d20=>?_
  refine zq (by decide) λd3 d30=>?_
  refine⟨by decide,?_⟩
  obtain⟨mm,e1,hm⟩:=z8a z1 d20 (z8C d3 (show (7:Int)≠0 by decide)) (z8z d3 (by decide))
  refine⟨_,e1,?_⟩
  exact q2 "many" _ 20 (.inr (.inr (.inr (.inr (.inr (.inr (.inl ⟨rfl,rfl⟩))))))) rw4 λt ht=>kZ (fs:=[]) ht λμ i hi K Z k=>xw hi hm k
 refine zH (λe1=>?_) (λe1=>?_)
 ·refine zq (by decide) λd2 d20=>?_
  refine⟨by decide,?_⟩
  obtain⟨rr,e2,hr⟩:=z7G (z8C d2 (show (5:Int)≠0 by decide)) (z8z d2 (by decide))
  refine⟨_,e2,?_⟩
  exact q2 "time" _ 16 (.inr (.inr (.inr (.inl ⟨rfl,rfl⟩)))) rw4 λt ht=>kZ (fs:=[]) ht λμ i hi K Z k=>Xo hi (by decide) (by omega) hr k
 refine zH (λe2=>?_) (λe2=>?_)
 ·refine zq (by decide) λd2 d20=>?_
  refine⟨by decide,?_⟩
  have n0:=z8C d2 (show (9:Int)≠0 by decide)
  refine q2 "lease" _ 18 (.inr (.inr (.inr (.inr (.inr (.inl ⟨rfl,rfl⟩)))))) rw4 λt ht=>kZ (fs:=[]) ht λμ i hi K Z k=>?_
  refine vk sz hi (λk e=>by cases e) (by decide) (by omega) (.inl ⟨?_,k⟩)
  rw[Vf z1 f0]
  show (f+1) * z<(if f<f+1+d2 % 9 then f+1+d2 % 9 else f) * z+1
  rw[if_pos (by omega)]
  have:=z8I (show f+1<=f+1+d2 % 9 by omega) (show 0<=z by omega)
  omega
 refine zH (λe3=>?_) (λe3=>?_)
 ·have e3:0<f:=e3
  refine q2 "wait" _ 21 (.inr (.inr (.inr (.inr (.inr (.inr (.inr ⟨rfl,rfl⟩))))))) rw4 λt ht=>kZ (fs:=[(29,.int 1)]) ht λμ i hi K Z k=>?_
  have eb:xD y z ((0:Int),f,f+1) none none (f-1)=f * z:=by
   rw[Vf z1 f0]
   show (if f<f-1 then f-1 else f) * z=_
   rw[if_neg (by omega)]
  have ed:(f * z+1-1) / z-(f-1+0)=1:=by
   rw[show f * z+1-1=0+f * z by omega,zaB _ _ (by omega)]
   have:(0:Int) / z=0:=Int.zero_ediv z
   omega
  have e9:(f+1) * z=f * z+z:=by rw[z9Z,z9_]
  refine vk sz hi (λk e=>by cases e) (by decide) (by omega) (.inr ⟨?_,?_,?_,?_⟩)
  ·rw[eb];show f * z+1<=(f+1) * z;omega
  ·rw[eb,ed];decide
  ·rw[eb,ed];decide
  ·rw[eb,ed];exact k
 ·exact ZQ λu hu=>q1 u hu
end
section
variable {μ μ1 μ2:Mem}{K:T->Mem->Prop}{Z:Xp}{x y z:Int}{f:Int}
theorem z2V{h p:Int}(s:Hz x y z)(h0:0<=h)(h1:h<y):plA y z h (nmA y z h p)=p+1:=by
 have e:∀q,plA y z h (nmA y z h p)<=q↔p<q:=λq=>by
  rw[←z3h s h0 h1]
  constructor
  ·intro w
   rcases Int.lt_or_le p q with v|v
   ·exact v
   ·rcases Int.lt_or_eq_of_le v with v|v
    ·have:=Kf s h0 h1 v;omega
    ·rw[v] at w;omega
  ·exact λw=>Kf s h0 h1 w
 have a:=(e (plA y z h (nmA y z h p))).mp (z9q _)
 have b:=(e (p+1)).mpr (by omega)
 omega
theorem z7p{r k:Int}(sz:Hz x y z)(f0:0<=f)(fx:f+2<=x)(r0:f<=r)(r1:r<f+2)(k1:1<=k)(k2:k<=z)(zl:z<=1000) :
  ∃t:S7,Run7 x y z [.lease "fresh" (some 0) f 2,.ask "fresh" r k] s70 t/\t.hm "fresh"=some ⟨(0,f,f+2),some (nmA y z 0 (r * z+0+k-1))⟩:=by
 obtain⟨x1,y1,y2,z1,z2⟩:=id sz
 have rz:0<=r * z:=z9L (by omega) (by omega)
 refine⟨_,⟨_,⟨wz,λh e=>by cases e;exact⟨by decide,by omega⟩,by decide,0,f,by decide,by omega,f0,fx,?_,rfl⟩,_,⟨wz,⟨(0,f,f+2),none⟩,0,?_,r0,r1,k1,by omega,by omega,.inl ⟨rz,rfl⟩,rfl⟩,rfl⟩,?_⟩
 ·rw[if_neg (by omega)]
  exact .inr ⟨rfl,z9q _,λp hp=>(by simp[s70] at hp),λb' h1 h2=>by omega⟩
 ·simp[upH,s70]
 ·simp[upH,s70]
theorem yF {t:S7} {a:Ls} {v:Int} {c0:Nat} {fs:List (Nat×T)} {r0 m0:T} (ht:t.hm "fresh"=some ⟨a,some v⟩)
  (h1:∀(μ:Mem) (i:Nat) mm,μ[i]?=some (hs7 x y z (some a) mm (some v))->∀(K:T->Mem->Prop) (Z:Xp),Z c0 fs μ->zd [.mut i,r0,m0] μ K Z):Zn x y z t (.tup [.str "ask",.str "fresh",r0,m0]) c0:=
 yp wz (λμ i hh mm e n hi=>by
  rw[ht] at e;cases e
  exact h1 μ i mm hi) λμ i e=>by rw[ht] at e;cases e
theorem z3y{cell:Int}(sz:Hz x y z)(zl:z<=20)(f0:0<=f)(fx:f+2<=x)
  (q:∀w rs u c t,W72 w c->Run7 x y z rs s70 t->rs.length<=3->Qr u->Zn x y z t u c->K (.tup [.str w,.lst (rs.map Row.t++[u])]) μ):wa [shp x y z,.int f,.int cell] μ K Z:=by
 obtain⟨x1,y1,y2,z1,z2⟩:=id sz
 have fz:0<=f * z:=z9L f0 (by omega)
 have e1:(f+1) * z=f * z+z:=by rw[z9Z,z9_]
 have e2:(f+2) * z=f * z+z+z:=by rw[show f+2=f+1+1 by omega,z9Z,e1,z9_]
 have vb:∀{p:Int},0<=p->p<(f+2) * z->0<=nmA y z 0 p/\nmA y z 0 p<x * y * z:=λ{p} p0 p1=>by
  have:=z8I fx (show 0<=z by omega)
  exact z2F sz (by decide) (by omega) p0 (by omega)
 have dv:∀{p:Int},f * z+z<=p->p<f * z+z+z->p / z=f+1:=λ{p} h1 h2=>by
  rw[show p=(p-(f * z+z))+(f+1) * z by rw[e1];omega,zaB _ _ (by omega),zbk (by omega) (by omega)]
  omega
 unfold wa
 refine⟨rfl,?_⟩
 refine zq (by decide) λd1 d10=>?_
 refine⟨by decide,?_⟩
 refine zH (λe=>?_) (λe=>?_)
 ·refine zq (by decide) λd2 d20=>?_
  refine⟨by show 0<z;omega,?_⟩
  have a0:=z8C d2 (show z≠0 by omega)
  have a1:=z8z d2 (show 0<z by omega)
  refine zq (by decide) λd3 d30=>?_
  refine⟨by omega,?_⟩
  have b0:=z8C d3 (show 1+d2 % z≠0 by omega)
  have b1:=z8z d3 (show 0<1+d2 % z by omega)
  generalize d3 % (1+d2 % z)=e3 at b0 b1 ⊢
  generalize d2 % z=e4 at a0 a1 b1 ⊢
  obtain⟨t,run,ht⟩:=z7p (r:=f) (k:=1+e4) sz f0 fx (z9q _) (by omega) (by omega) (by omega) (by omega)
  refine q "wait" [.lease "fresh" (some 0) f 2,.ask "fresh" f (1+e4)] (.tup [.str "ask",.str "fresh",.int f,.int (z-e3)]) 21 t (.inr (.inr (.inr (.inr (.inr (.inr (.inr ⟨rfl,rfl⟩))))))) run (by show (2:Nat)<=3;decide) rw4 (yF (fs:=[(29,.int 1)]) ht λμ i mm hi K Z k=>?_)
  have eb:xD y z ((0:Int),f,f+2) (some (nmA y z 0 (f * z+0+(1+e4)-1))) mm f=f * z+(1+e4):=by
   unfold xD
   show (if plA y z 0 (nmA y z 0 (f * z+0+(1+e4)-1))<(if f<f then f else f) * z then _ else plA y z 0 (nmA y z 0 (f * z+0+(1+e4)-1)))=_
   rw[z2V sz (by decide) (by omega),if_neg (by rw[if_neg (by omega)];omega)]
   omega
  have ed:(f * z+(1+e4)+(z-e3)-1) / z-(f+0)=1:=by rw[dv (by omega) (by omega)];omega
  have vv:=vb (p:=f * z+0+(1+e4)-1) (by omega) (by omega)
  refine vk sz hi (λk e=>by cases e;exact vv) (by omega) (by omega) (.inr ⟨?_,?_,?_,?_⟩)
  ·rw[eb];show f * z+(1+e4)+(z-e3)<=(f+2) * z;omega
  ·rw[eb,ed];decide
  ·rw[eb,ed];decide
  ·rw[eb,ed];exact k
 ·obtain⟨t,run,ht⟩:=z7p (r:=f+1) (k:=1) sz f0 fx (by omega) (by omega) (by decide) (by omega) (by omega)
  have eb:∀mm,xD y z ((0:Int),f,f+2) (some (nmA y z 0 ((f+1) * z+0+1-1))) mm f=f * z+z+1:=λmm=>by
   unfold xD
   show (if plA y z 0 (nmA y z 0 ((f+1) * z+0+1-1))<(if f<f then f else f) * z then _ else plA y z 0 (nmA y z 0 ((f+1) * z+0+1-1)))=_
   rw[z2V sz (by decide) (by omega),if_neg (by rw[if_neg (by omega)];omega)]
   omega
  have vv:=vb (p:=(f+1) * z+0+1-1) (by omega) (by omega)
  by_cases w:1<z
  ·have ix:wD [T.str "lease",T.str "wait"] (if decide (1<z) then 1 else 0)=some (.str "wait"):=by rw[decide_eq_true w];rfl
   refine⟨_,ix,?_⟩
   refine q "wait" [.lease "fresh" (some 0) f 2,.ask "fresh" (f+1) 1] (.tup [.str "ask",.str "fresh",.int f,.int 1]) 21 t (.inr (.inr (.inr (.inr (.inr (.inr (.inr ⟨rfl,rfl⟩))))))) run (by show (2:Nat)<=3;decide) rw4 (yF (fs:=[(29,.int 1)]) ht λμ i mm hi K Z k=>?_)
   have ed:(f * z+z+1+1-1) / z-(f+0)=1:=by rw[dv (by omega) (by omega)];omega
   refine vk sz hi (λk e=>by cases e;exact vv) (by decide) (by omega) (.inr ⟨?_,?_,?_,?_⟩)
   ·rw[eb];show f * z+z+1+1<=(f+2) * z;omega
   ·rw[eb,ed];decide
   ·rw[eb,ed];decide
   ·rw[eb,ed];exact k
  ·have ix:wD [T.str "lease",T.str "wait"] (if decide (1<z) then 1 else 0)=some (.str "lease"):=by rw[decide_eq_false w];rfl
   refine⟨_,ix,?_⟩
   refine q "lease" [.lease "fresh" (some 0) f 2,.ask "fresh" (f+1) 1] (.tup [.str "ask",.str "fresh",.int f,.int 1]) 18 t (.inr (.inr (.inr (.inr (.inr (.inl ⟨rfl,rfl⟩)))))) run (by show (2:Nat)<=3;decide) rw4 (yF (fs:=[]) ht λμ i mm hi K Z k=>?_)
   refine vk sz hi (λk e=>by cases e;exact vv) (by decide) (by omega) (.inl ⟨?_,k⟩)
   rw[eb];show (f+2) * z<f * z+z+1+1;omega
end
section
variable {μ μ1 μ2:Mem}{K:T->Mem->Prop}{Z:Xp}{x y z:Int}{o0 o1 o2 o3 o4 o5 o6 o7 o8 o9 o10 o11 o12:Option T}{us:List T}{w:Str}{f:Int}
def P72 (x y z:Int)(us:List T)(w:Str):Prop:=∃c,W72 w c/\∀(μ:Mem) (K:T->Mem->Prop) (Z:Xp),μ[0]?=some (.tab 0)->(∀μ' fs,Ch [] μ μ'->Z c fs μ')->qO [shp x y z,.lst us] μ K Z
structure G72(x y z:Int)(us:List T)(w:Str):Prop where
 l:us.length<=100
 r:∀u∈us,Qr u\/vQ u
 p:P72 x y z us w
open Classical in
noncomputable def nrB(u:T):Bool:=if vQ u then false else true
theorem Ug(hl:us.length<=1000)(hr:∀u∈us,Qr u\/vQ u){u:T}(hu:u∈us)(hn:vQ u):P72 x y z us "row":=by
 refine⟨25,.inl ⟨rfl,rfl⟩,λμ K Z _ q=>?_⟩
 refine Xz nrB (λv hv K Z k=>?_) (by omega) ?_ (q _ _ Ch.refl)
 ·by_cases e:vQ v
  ·have:nrB v=false:=if_pos e
   rw[this] at k;exact e _ _ _ k
  ·have:nrB v=true:=if_neg e
   rw[this] at k
   rcases hr v hv with h|h
   ·exact h _ _ _ k
   ·exact absurd h e
 ·rw[List.all_eq_false]
  exact⟨u,hu,by have:nrB u=false:=if_pos hn;rw[this];decide⟩
theorem V0{r:Row}:Qr r.t:=λμ K Z q=>jO q
theorem Jf{rs:List Row}{t:S7}{u:T}{c0:Nat}(sz:Hz x y z)(hb:x * z<ZD)(hl:rs.length<=41)(run:Run7 x y z rs s70 t)(hw:W72 w c0)(hu:Qr u)(bad:Zn x y z t u c0):G72 x y z (rs.map Row.t++[u]) w:=by
 refine⟨by simp;omega,λv hv=>?_,c0,hw,λμ K Z tab q=>?_⟩
 ·rcases z8v.mp hv with hv|hv
  ·obtain⟨r,_,rfl⟩:=z9b.mp hv
   exact .inl V0
  ·rw[z8l.mp hv];exact .inl hu
 ·exact Xq sz hb tab hl run hu bad λfs μ' ch=>q μ' fs ch
theorem WQ{α:Type}{xs:List α}{lo hi:Option Int}:(xx xs lo hi).length<=xs.length:=by
 unfold xx
 rw[zap,zcv]
 omega
abbrev Qy:List Ds:=[(sIf (tE (zr .Eq (zb .Mod (z7 zm [(eV 6),(eC (.int 31))]) (eC (.int 3))) (eC (.int 1)))) [(zj 11 (zb .Mod (z7 zm [(eV 6),(eC (.int 32))]) (zb .Add (eB1 yi (eV 10)) (eC (.int 1))))),(zj 10 (zb .Add (zb .Add (eSl (eV 10) pN (pS (eV 11))) (zR [(z7 wd [(eV 6)])])) (eSl (eV 10) (pS (eV 11)) pN))),(zj 7 (eC (.str "row")))] []),(sIf (tE (zr .NotEq (z7 qK [(eV 1),(eV 10)]) (eV 7))) [(zt (eC (.bl false)))] [])]
theorem Wf{E:En}{cell:Int}(g:G72 x y z us w)(tab:μ[0]?=some (.tab 0))
  (q:∀μ' p7 p10 p11,Ch [] μ μ'->E.nx [o0,some (shp x y z),o2,o3,o4,o5,some (.int cell),p7,o8,o9,p10,p11,o12] μ') :
  zM Qy [o0,some (shp x y z),o2,o3,o4,o5,some (.int cell),some (.str w),o8,o9,some (.lst us),o11,o12] μ E:=by
 have go:∀{us:List T} {w:Str} {p11:Option T},P72 x y z us w->zM (Qy.drop 1) [o0,some (shp x y z),o2,o3,o4,o5,some (.int cell),some (.str w),o8,o9,some (.lst us),p11,o12] μ E:=λ{us w p11} g=>by
  obtain⟨c,hw,hp⟩:=g
  refine z1n (λK' Z' k=>hp _ _ _ tab k) hw λμ' ch=>?_
  refine z4q (by simp) ?_
  exact q _ _ _ _ ch
 refine zq (by decide) λd1 d10=>?_
 refine⟨by decide,?_⟩
 refine zH (λe=>?_) (λe=>?_)
 ·refine zq (by decide) λd2 d20=>?_
  refine⟨by omega,?_⟩
  refine ZQ λu hu=>?_
  have l1:=WQ (xs:=us) (lo:=none) (hi:=some (d2 % ((us.length:Int)+1)))
  have l2:=WQ (xs:=us) (lo:=some (d2 % ((us.length:Int)+1))) (hi:=none)
  have l0:=g.l
  refine⟨by simp only[z8Z,zaG];unfold room;omega,?_⟩
  refine⟨by simp only[z8Z,zaG];unfold room;omega,?_⟩
  refine go (Ug (u:=u) ?_ (λv hv=>?_) (by simp) hu)
  ·simp only[z8Z,zaG];omega
  ·rcases z8v.mp hv with hv|hv
   ·rcases z8v.mp hv with hv|hv
    ·exact g.r _ (Vd hv)
    ·rw[z8l.mp hv];exact .inr hu
   ·exact g.r _ (Vd hv)
 ·exact go g.p
end
section
variable {μ μ1 μ2:Mem}{K:T->Mem->Prop}{Z:Xp}{x y z:Int}{o0 o1 o2 o3 o4 o5 o6 o7 o8 o9 o10 o11 o12:Option T}{us:List T}{w:Str}{f:Int}
theorem Q8{h b:Int}(f0:0<=f)(l:Lease [] (.int 0) (if f<0 then 0 else f) 1 h b):h=0/\b=f:=by
 rcases l with⟨z,_⟩|⟨z,g0,_,g2⟩
 ·cases z
 ·cases z
  refine⟨rfl,?_⟩
  rw[if_neg (by omega)] at g0 g2
  by_cases w:b=f
  ·exact w
  ·obtain⟨p,hp,_⟩:=g2 f (z9q _) (by omega)
   cases hp
theorem z8b(sz:Hz x y z)(f0:0<=f)(fx:f+1<=x) :
  ∃t:S7,Run7 x y z [.lease "fresh" (some 0) f 1] s70 t/\t.hm "fresh"=some ⟨(0,f,f+1),none⟩:=by
 obtain⟨x1,y1,y2,z1,z2⟩:=id sz
 refine⟨_,⟨_,⟨wz,λh e=>by cases e;exact⟨by decide,by omega⟩,by decide,0,f,by decide,by omega,f0,fx,?_,rfl⟩,rfl⟩,?_⟩
 ·rw[if_neg (by omega)]
  exact .inr ⟨rfl,z9q _,λp hp=>(by simp[s70] at hp),λb' h1 h2=>by omega⟩
 ·simp[upH,s70]
abbrev z5I:List Ds:=[(jh [7,8] (z7 kJ [(eV 1),(eV 2),(eV 6)])),(sIf (tE (zr .Eq (zb .Mod (z7 zm [(eV 6),(eC (.int 30))]) (eC (.int 3))) (eC (.int 1)))) [(zj 9 (qd 43 zw (VP 43 ql [(eV 1)]) [(eC (.str "fresh")),(eC (.int 0)),(eV 2),(eC (.int 1))])),(jh [7,8] (z7 v7 [(eV 1),(eV 9),(eC .non),(eC (.str "fresh")),(eV 6)])),(zj 10 (zR [(zy [(eC (.str "lease")),(eC (.str "fresh")),(eC (.int 0)),(eV 2),(eC (.int 1))]),(eV 8)]))] [(sIf (wc (tE (zr .Eq (zb .Mod (z7 zm [(eV 6),(eC (.int 30))]) (eC (.int 3))) (eC (.int 2)))) (tE (zr .Gt (eV 3) (eC (.int 1))))) [(jh [7,10] (z7 wa [(eV 1),(eV 2),(eV 6)]))] [(zj 10 (zb .Add (eV 4) (zR [(eV 8)])))])]),(sIf (tE (zr .Eq (zb .Mod (z7 zm [(eV 6),(eC (.int 31))]) (eC (.int 3))) (eC (.int 1)))) [(zj 11 (zb .Mod (z7 zm [(eV 6),(eC (.int 32))]) (zb .Add (eB1 yi (eV 10)) (eC (.int 1))))),(zj 10 (zb .Add (zb .Add (eSl (eV 10) pN (pS (eV 11))) (zR [(z7 wd [(eV 6)])])) (eSl (eV 10) (pS (eV 11)) pN))),(zj 7 (eC (.str "row")))] []),(sIf (tE (zr .NotEq (z7 qK [(eV 1),(eV 10)]) (eV 7))) [(zt (eC (.bl false)))] [])]
theorem z54 {E:En} {cell many:Int} {wr:Nat} {rs:List Row} {s:S7} (sz:Hz x y z) (zl:z<=20) (hb:x * z<ZD) (f0:0<=f) (m1:1<=many) (ex:x=f+many) (tab:μ[0]?=some (.tab 0)) (hr:μ[wr]?=some (.lst (rs.map Row.t))) (rl:rs.length<=40) (run:Run7 x y z rs s70 s) (hn:s.hm "new"=none)
  (q:∀μ' p7 p8 p9 p10 p11,Ch [] μ μ'->E.nx [o0,some (shp x y z),some (.int f),some (.int many),some (.mut wr),o5,some (.int cell),p7,p8,p9,p10,p11,o12] μ') :
  zM z5I [o0,some (shp x y z),some (.int f),some (.int many),some (.mut wr),o5,some (.int cell),o7,o8,o9,o10,o11,o12] μ E:=by
 obtain⟨x1,y1,y2,z1,z2⟩:=id sz
 refine z5O sz λw u c hw hu bad=>?_
 refine⟨_,rfl,?_⟩
 refine zq (by decide) λd1 d10=>?_
 refine⟨by decide,?_⟩
 refine zH (λe=>?_) (λe=>?_)
 ·refine qI ?_
  refine⟨rfl,?_⟩
  generalize hμ:μ++[MO.obj 43 [(9,shp x y z),(10,.mut (μ.length+1))],.lst []]=μ1
  have ch1:Ch [] μ μ1:=by
   rw[←hμ]
   exact⟨by simp,λj hj _=>z8p hj⟩
  have g1:μ1[μ.length]?=some (MO.obj 43 [(9,shp x y z),(10,.mut (μ.length+1))]):=by
   rw[←hμ,z8r (z8n _)];simp
  have g2:μ1[μ.length+1]?=some (MO.lst []):=by
   rw[←hμ,z8r (by omega)];simp
  have B:Bk μ1 μ.length (μ.length+1) (shp x y z) []:=⟨g1,g2,by simp,by simp⟩
  have t1:=ch1.get tab (by simp)
  refine⟨_,g1,?_⟩
  refine uu B t1 (by decide) wz.l wz.h (.inr ⟨0,rfl,by omega,by omega⟩) (by decide) (λh b μ' l e ch=>?_) λh b μ2 a _ _ _ _ l _ ch _=>?_
  ·obtain⟨rfl,rfl⟩:=Q8 f0 l
   omega
  obtain⟨rfl,rfl⟩:=Q8 f0 l
  have ch2:Ch [] μ μ2:=Ch.geS7 ch1 ch (by simp)
  have t2:=ch2.get tab (by simp)
  refine Jo sz f0 (λv hv=>?_) λw' v c' hw' hv bad'=>?_
  ·refine⟨_,rfl,?_⟩
   refine Wf (us:=[Row.t (.lease "fresh" (some 0) b 1),v]) ⟨by simp,?_,Ug (u:=v) (by simp) ?_ (by simp) hv⟩ t2 λμ3 p7 p10 p11 ch3=>q _ _ _ _ _ _ (ch2.trans ch3)
   all_goals
    intro u hu
    rcases z8T.mp hu with rfl|hu
    ·exact .inl V0
    ·rw[z8l.mp hu];exact .inr hv
  ·refine⟨_,rfl,?_⟩
   obtain⟨t,rn,ht⟩:=z8b sz f0 (by omega)
   exact Wf (Jf sz hb (by simp) rn hw' hv (bad' t ht)) t2 λμ3 p7 p10 p11 ch3=>q _ _ _ _ _ _ (ch2.trans ch3)
 refine zq (by decide) λd2 d20=>?_
 refine⟨by decide,?_⟩
 have go:zM (zj 10 (zb .Add (eV 4) (zR [(eV 8)]))::Qy) [o0,some (shp x y z),some (.int f),some (.int many),some (.mut wr),o5,some (.int cell),some (.str w),some u,o9,o10,o11,o12] μ E:=by
  refine⟨_,hr,?_⟩
  refine⟨by simp;unfold room;omega,?_⟩
  exact Wf (Jf sz hb (by omega) run hw hu (bad s hn)) tab λμ3 p7 p10 p11 ch3=>q _ _ _ _ _ _ ch3
 refine zH (λe2=>?_) (λe2=>?_)
 ·refine zH (λe3=>?_) (λe3=>?_)
  ·refine z3y sz zl f0 (by have:1<many:=e3;omega) λw' rs' u' c' t' hw' rn' rl' hu' bad'=>?_
   refine⟨_,rfl,?_⟩
   exact Wf (Jf sz hb (by omega) rn' hw' hu' bad') tab λμ3 p7 p10 p11 ch3=>q _ _ _ _ _ _ ch3
  ·exact go
 ·exact go
end
section
variable {μ μ1 μ2:Mem}{K:T->Mem->Prop}{Z:Xp}{x y z:Int}{i c g d w L r0:Nat}{kvs:List (Key×T)}{s t:S7}{ps:List Gp}{rs:List Row}
theorem Sp7.glen{r:Row}(h:Sp7 x y z r s t):s.G.length<=t.G.length:=by
 cases r with
 |lease ho hs m n=>
  obtain⟨_,_,_,h,b,_,_,_,_,_,rfl⟩:=h
  simp
 |ask ho r k=>
  obtain⟨_,hh,c,_,_,_,_,_,_,_,rfl⟩:=h
  exact z8n _
theorem Run7.glen{t:S7}:∀{rs:List Row} {s:S7},Run7 x y z rs s t->s.G.length<=t.G.length
 |[],s,h=>by cases h;exact z8n _
 |r::rs,s,⟨u,h1,h2⟩=>z8G h1.glen (Run7.glen h2)
theorem QG{rs:List Row}(hr:μ[r0]?=some (.lst (rs.map Row.t)))(hl:rs.length<=1000)(q:K (.bl true) μ):zI [.mut r0] μ K Z:=by
 unfold zI
 refine⟨rfl,?_⟩
 refine⟨_,hr,?_⟩
 refine⟨_,hr,by rw[z8B];unfold room;omega,?_⟩
 refine qC Row.t (λ_=>some (.bl true)) (λr _ kk hkk=>⟨_,rfl,jO hkk⟩) ?_ hr
 rw[z9h]
 refine⟨_,j9 (λ_=>true) rs,?_⟩
 have q:K (.bl ((rs.map λ_=>true).all id)) μ:=by
  rw[show (rs.map λ_=>true).all id=true by simp];exact q
 exact q
theorem Jt(sz:Hz x y z)(hb:x * z<ZD)(tab:μ[0]?=some (.tab 0))(hr:μ[r0]?=some (.lst (rs.map Row.t)))(hl:rs.length<=200)(hG:t.G.length<=62)(run:Run7 x y z rs s70 t)(q:∀μ' j,Ch [] μ μ'->μ.length<=j->μ'[j]?=some (.lst (t.td.map prT))->t.td.length<=200000->K (.mut j) μ'):qO [shp x y z,.mut r0] μ K Z:=by
 unfold qO
 refine⟨rfl,?_⟩
 refine QG hr (by omega) ?_
 refine qI ?_
 refine⟨rfl,?_⟩
 generalize hμ:μ++[MO.obj 43 [(9,shp x y z),(10,.mut (μ.length+1))],.lst []]=μ1
 have l1:μ1.length=μ.length+2:=by rw[←hμ];simp
 have ch1:Ch [] μ μ1:=by
  rw[←hμ]
  exact⟨by simp,λj hj _=>z8p hj⟩
 have g1:μ1[μ.length]?=some (MO.obj 43 [(9,shp x y z),(10,.mut (μ.length+1))]):=by
  rw[←hμ,z8r (z8n _)];simp
 have g2:μ1[μ.length+1]?=some (MO.lst []):=by
  rw[←hμ,z8r (by omega)];simp
 have P0:PM (μ1++[MO.dic []]++[.lst []]) μ.length μ.length (μ.length+1) μ1.length (μ1++[MO.dic []]).length x y z s70 [] []:=by
  refine⟨⟨ze (ze g1),ze (ze g2),by simp,by simp⟩,rfl,ze zF,⟨λ_ _=>rfl,λho hh e=>(by simp[s70] at e),λho ho' i e=>(by cases e)⟩,λho i e=>(by cases e),zF,(by simp;omega),ze (ze (ch1.get tab (by simp)))⟩
 refine⟨_,ze (ze (ch1.get hr (by simp))),?_⟩
 refine we (λj τ μ'=>∃(s:S7) (ps:List Gp) (kvs:List (Key×T)) (o5 o6 o7:Option T),τ=[some (shp x y z),some (.mut r0),some (.mut μ.length),some (.mut μ1.length),some (.mut (μ1++[MO.dic []]).length),o5,o6,o7]/\Run7 x y z (rs.drop j) s t/\WF x y z s/\PM μ' μ.length μ.length (μ.length+1) μ1.length (μ1++[MO.dic []]).length x y z s ps kvs/\kvs.length<=j/\s.td.length<=1000 * j/\μ.length<=μ'.length/\Ch [] μ μ')
  ⟨s70,[],[],_,_,_,rfl,run,⟨λho hh e=>(by simp[s70] at e),λho hh v e=>(by simp[s70] at e)⟩,P0,by simp,(by simp[s70]),(by simp;omega),(ch1.trans Ch.app).trans Ch.app⟩ ?_ ?_ ?_
 ·rintro j u τ μ' hx ⟨s,ps,kvs,o5,o6,o7,rfl,rn,wf,P,h2,h3,h4,h5⟩ N hN
  rw[z8U] at hx
  obtain⟨r,hr,rfl⟩:=z9y.mp hx
  obtain⟨hj,er⟩:=z8h.mp hr
  have gl:=rn.glen
  have pl:ps.length=s.G.length:=by rw[←P.eG];show _=(List.map _ ps).length;rw[z8B]
  rw[za9 hj,er] at rn
  obtain⟨m,sp,rn⟩:=rn
  refine⟨_,rfl,?_⟩
  exact z05 sz hb P wf sp (by omega) (by omega) (by omega) h4 (by omega) (by omega) (by simp;omega) rfl h5 λμ2 ps' kvs' p6 p7 P2 e1 e2 e3 e4 e5=>hN _ _ ⟨m,ps',kvs',_,_,_,rfl,rn,sp.wf sz wf,P2,by omega,by omega,e4,e5⟩
 ·rintro τ μ' ⟨s,ps,kvs,o5,o6,o7,rfl,rn,wf,P,h2,h3,h4,h5⟩
  rw[z8B] at rn h3
  rw[zcD] at rn
  have e:t=s:=rn
  rw[e] at q
  exact q μ' _ h5 (by simp;omega) P.tw (by omega)
 ·rintro j τ μ' ⟨s,ps,kvs,o5,o6,o7,rfl,rn,wf,P,h2,h3,h4,h5⟩
  exact h5.get hr (by simp)
end
end NH.P
section
namespace NH.P
open PySem L2 NH
variable {μ μ1 μ2:Mem}{K:T->Mem->Prop}{Z:Xp}{x y z:Int}
theorem Sp7.g1{r:Row}{s t:S7}(h:Sp7 x y z r s t):t.G.length<=s.G.length+1:=by
 cases r with
 |lease ho hs m n=>
  obtain⟨_,_,_,h,b,_,_,_,_,_,rfl⟩:=h
  simp
 |ask ho r k=>
  obtain⟨_,hh,c,_,_,_,_,_,_,_,rfl⟩:=h
  simp
theorem Run7.g1{t:S7}:∀{rs:List Row} {s:S7},Run7 x y z rs s t->t.G.length<=s.G.length+rs.length
 |[],s,h=>by cases h;exact z8n _
 |r::rs,s,⟨u,h1,h2⟩=>by
  have a:=Sp7.g1 h1
  have b:=Run7.g1 h2
  simp only[z8L]
  omega
theorem z6f{α:Type}{xs:List α}:(xx xs (some 1) (some 13)).length<=40:=by
 unfold xx UQ
 rw[zap]
 simp
 omega
theorem Xg{v:T}(h:∀(K:T->Mem->Prop) (Z:Xp),K (.bl false) μ->zI [v] μ K Z)(q:Z 25 [] μ):qO [shp x y z,v] μ K Z:=by
 unfold qO
 refine⟨rfl,?_⟩
 refine h _ _ ?_
 exact⟨by show (1:Nat)<=room;decide,q⟩
theorem z1I {v:T} (h:∀(K:T->Mem->Prop) (Z:Xp),K (.bl false) μ->zI [v] μ K Z) (q:K (.str "row") μ):qK [shp x y z,v] μ K Z:=by
 unfold qK
 refine⟨rfl,?_⟩
 refine Xg h ?_
 exact vC (.inl ⟨rfl,rfl⟩) q
theorem UG{vs:List T}:∀v∈[T.non,.int 7,.tup [],.str "ask",.tup vs],∀(K:T->Mem->Prop) (Z:Xp),K (.bl false) μ->zI [v] μ K Z:=by
 intro v hv K Z q
 simp only[z8T,List.not_mem_nil,or_false] at hv
 rcases hv with rfl|rfl|rfl|rfl|rfl
 all_goals
  unfold zI
  exact⟨rfl,q⟩
theorem z23:Jm kF:=by
 intro ns hns
 unfold kF
 refine⟨rfl,?_⟩
 refine QT (by decide) λc0=>?_
 refine Zv λx y z far many sz zl hb m1 f0 ex=>?_
 refine⟨_,rfl,?_⟩
 refine z0H (Q4 _ _ _ _) ?_
 refine X2 sz (by omega) m1 rfl z6f λμ1 wr wg rs s hr hg tab rl tl run hn _=>?_
 refine⟨_,rfl,?_⟩
 refine we (λj τ μ'=>∃(o6 o7 o8 o9 o10 o11:Option T),τ=[some (.lst (ns.map T.int)),some (shp x y z),some (.int far),some (.int many),some (.mut wr),some (.mut wg),o6,o7,o8,o9,o10,o11,none]/\Ch [] μ1 μ')
  ⟨_,_,_,_,_,_,rfl,Ch.refl⟩ ?_ ?_
 ·rintro j u τ μ' hx ⟨o6,o7,o8,o9,o10,o11,rfl,ch⟩ N hN
  rw[Q4,z8U] at hx
  obtain⟨v,hv,rfl⟩:=z9y.mp hx
  refine⟨_,rfl,?_⟩
  exact z54 sz zl hb f0 m1 ex (ch.get tab (by simp)) (ch.get hr (by simp)) rl run hn λμ2 p7 p8 p9 p10 p11 ch2=>hN _ _ ⟨_,_,_,_,_,_,rfl,ch.trans ch2⟩
 ·rintro τ μ' ⟨o6,o7,o8,o9,o10,o11,rfl,ch⟩
  have hr':=ch.get hr (by simp)
  have hg':=ch.get hg (by simp)
  have tab':=ch.get tab (by simp)
  refine⟨_,hr',?_⟩
  refine⟨by show (5:Nat)<=room;decide,?_⟩
  have e:[T.non,.int 7,.tup [],.str "ask",.tup (rs.map Row.t)]=[T.non,.int 7,.tup [],.str "ask",.tup (rs.map Row.t)].map id:=rfl
  refine qC (id:T->T) (λu=>some (.str "row")) (λu hu kk hkk=>⟨_,rfl,z1I (UG u hu) hkk⟩) ?_ trivial
  refine⟨by decide,?_⟩
  refine⟨by show (0:Nat)<=40;decide,_,rfl,?_⟩
  have hG:s.G.length<=62:=by
   have:=Run7.g1 run
   have e0:s70.G.length=0:=rfl
   omega
  refine Jt sz hb tab' hr' (by omega) hG run λμ2 j ch2 lj hj _=>?_
  have hg2:=ch2.get hg' (by simp)
  refine⟨(_,_),⟨hj,hg2⟩,z5G _,_,Vs (λ_=>z6m) _,?_⟩
  rfl
end NH.P
namespace NH.K72
open PySem L2 NH NH.P
theorem tells:Jm kF:=z23
end NH.K72
end
namespace NH.K72
open PySem PySem.Spec PyProof.Rows L2 NH NH.P PySem.W
theorem z6h{P:List Value->Prop}(h:∀a0,P [a0]):∀us:List Value,us.length=1->P us:=PL.all (n:=1) h
theorem z6u{P:List Value->Prop}(h:∀a0 a1,P [a0,a1]):∀us:List Value,us.length=2->P us:=PL.all (n:=2) h
theorem z3o{P:List Value->Prop}(h:∀a0 a1 a2,P [a0,a1,a2]):∀us:List Value,us.length=3->P us:=PL.all (n:=3) h
theorem z7K{P:List Value->Prop}(h:∀a0 a1 a2 a3 a4,P [a0,a1,a2,a3,a4]):∀us:List Value,us.length=5->P us:=PL.all (n:=5) h
theorem z7W{P:List Value->Prop}(h:∀a0 a1 a2 a3 a4 a5,P [a0,a1,a2,a3,a4,a5]):∀us:List Value,us.length=6->P us:=PL.all (n:=6) h
theorem z2H{P:List Value->Prop}(h:∀a0 a1,P [a0,a1]):∀us:List Value,us.length+1=3->P us:=λus e=>z6u h us (zem e)
theorem z7b{P:List Value->Prop}(h:∀a0 a1 a2 a3 a4,P [a0,a1,a2,a3,a4]):∀us:List Value,us.length+1=6->P us:=λus e=>z7K h us (zem e)
theorem all_mk {l:zeT} {w:z9c} {K:Frag} {h:Heap} {mg:Str->Option Value} {fa C0 C1 C2 C3 C4 C5 C6 C7 C8 C9 C10 C11 P0 cA0 f0 f3 N3 CC8 CC23 f25 CC27 CC35 f40 CC40 dt40 f50 dt50 f51 dt51 f69:Addr} {od0 an0 od3 an3 dd3 od25 an25 od40 an40 te40 od50 an50 te50 od51 an51 te51 od69 an69:Option Addr} {sl0 sl3 sl25 sl40 ts40 sl50 ts50 sl51 ts51 sl69:Array (Option Value)} {oc0 kV0 dc0 pm0 cd0 ct0 oc3 kV3 dc3 pm3 cd3 ct3 oc25 kV25 dc25 pm25 ct25 oc40 kV40 dc40 pm40 cd40 ct40 td40 oc50 kV50 dc50 pm50 cd50 ct50 td50 oc51 kV51 dc51 pm51 cd51 ct51 td51 oc69 kV69 dc69 pm69 cd69 ct69:Value} {nm3 qn3:Str} {bs3 sb3:List Value} {hd3 ab3:Bool} {sn3:List Str} {co3:Option Bool} {ka3 kb3 kc3 kd3 ke3:Option Value} {tk15 tk16 tk17 tk20 tk21 tz50 tz51:Tok} {tn40 tn50 tn51:Nat} (X:K.In h) (G:h.Ns z8D mg) (hfa:mg "law"=some (.ref fa))
  (e0:nsIn K z8D "HouseError"=some (some (.ref C0)))
  (e1:nsIn K z8D "NoShape"=some (some (.ref C1)))
  (e2:nsIn K z8D "NoName"=some (some (.ref C2)))
  (e3:nsIn K z8D "NoTime"=some (some (.ref C3)))
  (e4:nsIn K z8D "NoHolder"=some (some (.ref C4)))
  (e5:nsIn K z8D "NoLease"=some (some (.ref C5)))
  (e6:nsIn K z8D "Ended"=some (some (.ref C6)))
  (e7:nsIn K z8D "TooMany"=some (some (.ref C7)))
  (e8:nsIn K z8D "Wait"=some (some (.ref C8)))
  (e9:nsIn K z8D "NoNote"=some (some (.ref C9)))
  (e10:nsIn K z8D "Fallen"=some (some (.ref C10)))
  (e11:nsIn K z8D "NoRow"=some (some (.ref C11)))
  (a0:nsIn K z8D "forget"=some (some (.ref f0)))
  (l0:K.lookup f0=some ⟨oc0,od0,.func (fnOf "forget" "forget" (zD vZ) (z5 vZ) (zp vZ) .none kV0 dc0 pm0 an0 cd0 ct0),sl0⟩)
  (c0:zaO K cd0 "forget"=true)
  (k0:zao K (.ref f0)=true)
  (xa3:K.lookup C8=some (zag nm3 qn3 C8 N3 bs3 (.ref C0::zT) hd3 sn3 sb3 ab3 co3 dd3 ka3 kb3 kc3 kd3 ke3 "ValueError.__new__"))
  (xb3:zfb K N3=true)
  (xc3:nsIn K N3 "__init__"=some (some (.ref f3)))
  (xd3:zf0 K (.ref f3)=some (.type "function"))
  (xe3:z8N K (.ref C8) "__setattr__"=some (some (.builtin "object.__setattr__")))
  (xf3:z8N K (.ref C8) "by"=some none)
  (xg3:zab K C8=true)
  (xh3:zao K (.ref C8)=true)
  (ha0:zaf K (.ref C0) "__getattribute__"=some (some (.builtin "type.__getattribute__")))
  (ha1:zeN K C0 (.type "type")=true)
  (ha2:zeO K (.ref C0) (.type "type") "__init__"=some (.val (.builtin "ValueError.__init__")))
  (l3:K.lookup f3=some ⟨oc3,od3,.func (fnOf "__init__" "Wait.__init__" (zD wH) (z5 wH) (zp wH) .none kV3 dc3 pm3 an3 cd3 ct3),sl3⟩)
  (c3:zaO K cd3 "Wait.__init__"=true)
  (k3:zao K (.ref f3)=true)
  (p4:qa K "is_whole" yI)
  (p5:qa K "is_size" Qm)
  (p6:qa K "is_from_nought" ve)
  (p7:qa K "is_below" uX)
  (p8:Ya K CC8 "Shape" "Shape.__init__" ko)
  (p9:qa K "names_in" Z2)
  (p10:qa K "is_name" ZE)
  (p11:qa K "check_name" k7)
  (p12:qa K "check_part" km)
  (p13:qa K "name_of" Z_)
  (p14:qa K "parts_of" yK)
  (v15:nsIn K z8D "HOUSE"=some (some (.int 0 tk15)))
  (v16:nsIn K z8D "FIRST"=some (some (.int 1 tk16)))
  (v17:nsIn K z8D "UNTIL"=some (some (.int 2 tk17)))
  (p18:qa K "is_lease" uB)
  (p19:qa K "check_lease" jv)
  (v20:nsIn K z8D "LETTERS"=some (some (.str "abcdefghijklmnopqrstuvwxyz" tk20)))
  (v21:nsIn K z8D "LONGEST_HOLDER"=some (some (.int 8 tk21)))
  (p22:qa K "is_holder" yb)
  (p23:Ya K CC23 "Grant" "Grant.__init__" xf)
  (p24:qa K "meets" Kk)
  (a25:nsIn K z8D "least_begin"=some (some (.ref f25)))
  (l25:K.lookup f25=some ⟨oc25,od25,.func (fnOf "least_begin" "least_begin" (zD qy) (z5 qy) (zp qy) .none kV25 dc25 pm25 an25 (.ref cA0) ct25),sl25⟩)
  (c25:zaO K (.ref cA0) "least_begin"=true)
  (zt0:zeB K cA0 P0=true)
  (zk0:K.lookup P0=none)
  (zs0:P0≠zfg)
  (k25:zao K (.ref f25)=true)
  (p26:qa K "least_house" jw)
  (p27:Ya K CC27 "Common" "Common.__init__" jq)
  (p28:j4 K CC27 "check_let" "Common.check_let" wF)
  (p29:j4 K CC27 "grants_of" "Common.grants_of" wq)
  (p30:j4 K CC27 "free_lease" "Common.free_lease" w5)
  (p31:j4 K CC27 "let" "Common.let" kh)
  (p32:j4 K CC27 "uncut" "Common.uncut" j6)
  (p33:j4 K CC27 "cut" "Common.cut" kN)
  (p34:qa K "is_note" ZX)
  (p35:Ya K CC35 "Batch" "Batch.__init__" xc)
  (p36:qa K "name_at" ZT)
  (p37:qa K "names_of_batch" vj)
  (p38:qa K "size_of" y7)
  (p39:qa K "place_above" ju)
  (q40:nsIn K z8D "House"=some (some (.ref CC40)))
  (i40:z8N K (.ref CC40) "__init__"=some (some (.ref f40)))
  (j40:isFn K (.ref f40)=true)
  (l40:K.lookup f40=some ⟨oc40,od40,.func (fnOf "__init__" "House.__init__" (zD zJ) (z5 zJ) (zp zJ) (.ref dt40) kV40 dc40 pm40 an40 cd40 ct40),sl40⟩)
  (d40:K.lookup dt40=some ⟨td40,te40,.seq #[.none] tn40,ts40⟩)
  (c40:zaO K cd40 "House.__init__"=true)
  (k40:zao K (.ref f40)=true)
  (mk40:zeF K CC40=true)
  (kk40:zao K (.ref CC40)=true)
  (p41:j4 K CC40 "check_up" "House.check_up" v5)
  (p42:j4 K CC40 "note" "House.note" xb)
  (p43:j4 K CC40 "keep" "House.keep" k9)
  (p44:j4 K CC40 "take_lease" "House.take_lease" wt)
  (p45:j4 K CC40 "check_has_lease" "House.check_has_lease" qD)
  (p46:j4 K CC40 "free_place" "House.free_place" wB)
  (p47:j4 K CC40 "next_batch" "House.next_batch" wj)
  (p48:j4 K CC40 "mark_behind" "House.mark_behind" w6)
  (p49:j4 K CC40 "hand_out" "House.hand_out" vn)
  (i50:z8N K (.ref CC40) "ask"=some (some (.ref f50)))
  (j50:isFn K (.ref f50)=true)
  (l50:K.lookup f50=some ⟨oc50,od50,.func (fnOf "ask" "House.ask" (zD zN) (z5 zN) (zp zN) (.ref dt50) kV50 dc50 pm50 an50 cd50 ct50),sl50⟩)
  (d50:K.lookup dt50=some ⟨td50,te50,.seq #[.int 1 tz50] tn50,ts50⟩)
  (c50:zaO K cd50 "House.ask"=true)
  (k50:zao K (.ref f50)=true)
  (i51:z8N K (.ref CC40) "store"=some (some (.ref f51)))
  (j51:isFn K (.ref f51)=true)
  (l51:K.lookup f51=some ⟨oc51,od51,.func (fnOf "store" "House.store" (zD zz) (z5 zz) (zp zz) (.ref dt51) kV51 dc51 pm51 an51 cd51 ct51),sl51⟩)
  (d51:K.lookup dt51=some ⟨td51,te51,.seq #[.int 1 tz51] tn51,ts51⟩)
  (c51:zaO K cd51 "House.store"=true)
  (k51:zao K (.ref f51)=true)
  (p52:qa K "is_run_row" j_)
  (p53:qa K "are_run_rows" j5)
  (p54:qa K "house_of" yQ)
  (p55:qa K "played" Ws)
  (p56:qa K "_law_cell_at" xT)
  (p57:qa K "_law_draw" Wv)
  (p58:qa K "_law_far" Ke)
  (p59:qa K "_law_run_shape" jr)
  (p60:qa K "_law_lease_row" jn)
  (p61:qa K "_law_ask_row" yh)
  (p62:qa K "_law_run" KA)
  (p63:qa K "_law_word" jW)
  (p64:qa K "_law_told" yM)
  (p65:qa K "_law_no_row" uA)
  (p66:qa K "_law_bad" ZM)
  (p67:qa K "_law_bad_ask" xS)
  (p68:qa K "_law_two_asks" kC)
  (a69:nsIn K z8D "law"=some (some (.ref f69)))
  (l69:K.lookup f69=some ⟨oc69,od69,.func (fnOf "law" "law" (zD qF) (z5 qF) (zp qF) .none kV69 dc69 pm69 an69 cd69 ct69),sl69⟩)
  (c69:zaO K cd69 "law"=true)
  (k69:zao K (.ref f69)=true)
  (x0:za_ K C0 zT "ValueError.__new__"=true)
  (x1:za_ K C1 zT "ValueError.__new__"=true)
  (x2:za_ K C2 zT "ValueError.__new__"=true)
  (x3:za_ K C3 zT "ValueError.__new__"=true)
  (x4:za_ K C4 zT "ValueError.__new__"=true)
  (x5:za_ K C5 zT "ValueError.__new__"=true)
  (x6:za_ K C6 zT "ValueError.__new__"=true)
  (x7:za_ K C7 zT "ValueError.__new__"=true)
  (x9:za_ K C9 zT "ValueError.__new__"=true)
  (x10:za_ K C10 zT "ValueError.__new__"=true)
  (x11:za_ K C11 zT "ValueError.__new__"=true)
  (zl:JX K=true)
  (zc:chk K ⟨[(10,C0),(12,C1),(13,C2),(16,C3),(17,C4),(18,C5),(19,C6),(20,C7),(21,C8),(23,C9),(24,C10),(25,C11)],[(40,CC8),(42,CC23),(43,CC27),(44,CC35),(45,CC40)]⟩ cls fld=true)
  (zg:YN K ⟨[(10,C0),(12,C1),(13,C2),(16,C3),(17,C4),(18,C5),(19,C6),(20,C7),(21,C8),(23,C9),(24,C10),(25,C11)],[(40,CC8),(42,CC23),(43,CC27),(44,CC35),(45,CC40)]⟩ ["ValueError","all","bool","int","isinstance","len","list","max","min","range","sorted","str","sum","tuple"] [("HouseError",10),("NoShape",12),("NoName",13),("NoTime",16),("NoHolder",17),("NoLease",18),("Ended",19),("TooMany",20),("NoNote",23),("Fallen",24),("NoRow",25)] [("Wait",21,29)]=true) :
  (JX K=true/\K.lookup P0=none/\P0≠zfg/\∃c,zeB K c P0=true)/\∃fd:z9t,(∀(s:z8k) (v:Value),zca s fd ⟨[v],[]⟩ [("_law_script",v)])/\∀base:Heap,K.In base->base.Ns z8D mg->base.BuiltinsAt mg P0->FnOk l.prog w K mg base (CX1 l.prog w) 69 fa fd ["_law_script"] (Jw K P0):=by
 have e:=hfa.symm.trans (zbI X G a69)
 cases e
 have F0:=jR (st:=vZ) l0 c0 k0
 have b0:=F0.binds (ps:=["note"]) λ_ _ _ _ _ _=>z6h λ_=>rfl
 have F3:=jR (st:=wH) l3 c3 k3
 have b3:=F3.binds (ps:=["self","by"]) λ_ _ _ _ _ _=>z6u λ_ _=>rfl
 have F25:=jR (st:=qy) l25 c25 k25
 have b25:=F25.binds (ps:=["grants","moment","span"]) λ_ _ _ _ _ _=>z3o λ_ _ _=>rfl
 have b40:=xB (K:=K) (fd:=fnOf "__init__" "House.__init__" (zD zJ) (z5 zJ) (zp zJ) (.ref dt40) kV40 dc40 pm40 an40 cd40 ct40) (ps:=["self","shape","ahead","stride","keeper","note"]) rfl d40 rfl <| z7W λ_ _ _ _ _ _=>⟨_,rfl,rfl⟩
 have bd40:=xv (K:=K) (d:=.none) (fd:=fnOf "__init__" "House.__init__" (zD zJ) (z5 zJ) (zp zJ) (.ref dt40) kV40 dc40 pm40 an40 cd40 ct40) (ps:=["self","shape","ahead","stride","keeper","note"]) rfl d40 rfl <| z7b λ_ _ _ _ _=>⟨_,rfl,rfl⟩
 have b50:=xB (K:=K) (fd:=fnOf "ask" "House.ask" (zD zN) (z5 zN) (zp zN) (.ref dt50) kV50 dc50 pm50 an50 cd50 ct50) (ps:=["self","reading","many"]) rfl d50 rfl <| z3o λ_ _ _=>⟨_,rfl,rfl⟩
 have bd50:=xv (K:=K) (d:=.int 1 tz50) (fd:=fnOf "ask" "House.ask" (zD zN) (z5 zN) (zp zN) (.ref dt50) kV50 dc50 pm50 an50 cd50 ct50) (ps:=["self","reading","many"]) rfl d50 rfl <| z2H λ_ _=>⟨_,rfl,rfl⟩
 have b51:=xB (K:=K) (fd:=fnOf "store" "House.store" (zD zz) (z5 zz) (zp zz) (.ref dt51) kV51 dc51 pm51 an51 cd51 ct51) (ps:=["self","reading","many"]) rfl d51 rfl <| z3o λ_ _ _=>⟨_,rfl,rfl⟩
 have bd51:=xv (K:=K) (d:=.int 1 tz51) (fd:=fnOf "store" "House.store" (zD zz) (z5 zz) (zp zz) (.ref dt51) kV51 dc51 pm51 an51 cd51 ct51) (ps:=["self","reading","many"]) rfl d51 rfl <| z2H λ_ _=>⟨_,rfl,rfl⟩
 have F69:=jR (st:=qF) l69 c69 k69
 have b69:=F69.binds (ps:=["_law_script"]) λ_ _ _ _ _ _=>z6h λ_=>rfl
 refine⟨⟨zl,zk0,zs0,cA0,zt0⟩,⟨fnOf "law" "law" (zD qF) (z5 qF) (zp qF) .none kV69 dc69 pm69 an69 cd69 ct69,λs v=>.of_eq rfl,λbase kb nb nbt=>?_⟩⟩
 let B:=@GsB l w K mg base
 have Z:Pk RU K mg base _ _ _:=⟨yP,kb,nb,zc⟩
 have g0:GsOk l.prog w K mg base ⟨[(10,C0),(12,C1),(13,C2),(16,C3),(17,C4),(18,C5),(19,C6),(20,C7),(21,C8),(23,C9),(24,C10),(25,C11)],[(40,CC8),(42,CC23),(43,CC27),(44,CC35),(45,CC40)]⟩ (yG (([(P0,[⟨100,36,100,64⟩],((("least_begin":Str)++".<locals>.")++"<lambda>"))]:List (Addr×List Pos×Str)).map (·.2.2)) (some f0)) 0 gs0 (λj=>([(P0,[⟨100,36,100,64⟩],((("least_begin":Str)++".<locals>.")++"<lambda>"))]:List (Addr×List Pos×Str))[j]?):=Jj kb nb zg ⟨⟨C0,rfl,x0⟩,⟨C1,rfl,x1⟩,⟨C2,rfl,x2⟩,⟨C3,rfl,x3⟩,⟨C4,rfl,x4⟩,⟨C5,rfl,x5⟩,⟨C6,rfl,x6⟩,⟨C7,rfl,x7⟩,⟨C9,rfl,x9⟩,⟨C10,rfl,x10⟩,⟨C11,rfl,x11⟩,trivial⟩
 have W0:FnOk l.prog w K mg base (CX1 l.prog w) 1 f0 _ ["note"] (spN _ 1 forget):=vB (m:=0) yP (yd (N:=["note"]) (G:=[]) (cel:=[]) (own:=[]) (lam:=none) kb nb zc g0) l0 c0 rfl rfl Uo
 have g1:B 1 gs1:=GsOk.add (g0.mono (by decide)) ⟨f0,zbI kb nb a0,_,_,1,k0,b0,by decide,W0,qA⟩ rfl
 have g2:B 1 gs2:=GsOk.add (g1.mono (by decide)) (z5q (tbs:=([(P0,[⟨100,36,100,64⟩],((("least_begin":Str)++".<locals>.")++"<lambda>"))]:List (Addr×List Pos×Str))) l0 b0 (by decide) W0 (λt μ K Z q=>⟨rfl,q⟩)) rfl
 have g3:B 1 gs3:=GsOk.add (x:="forget") g2 ⟨_,.ref f0,zbI kb nb a0,rfl,λφ α H=>⟨f0,none,[],rfl,.inr (.inr ⟨rfl,rfl,rfl,rfl⟩),λo e=>(by cases e),rfl⟩⟩ rfl
 have XI3:XIn K C8 C0 f3 "by":=⟨⟨N3,nm3,qn3,bs3,hd3,sn3,sb3,ab3,co3,dd3,ka3,kb3,kc3,kd3,ke3,xa3,xb3,xc3⟩,x0,xd3,xe3,xf3,xg3,xh3⟩
 have W3:FnOk l.prog w K mg base (CX1 l.prog w) 2 f3 _ ["self","by"] (spI C8 "by"):=z6Z XI3 ⟨zbI kb nb e0,ha0,ha1,ha2⟩ l3 c3 (by first|exact⟨_,_,_,_,_,_,_,_,_,_,_,rfl,rfl,.inl ⟨_,_,_,_,_,_,_,_,rfl,by decide,by decide⟩⟩|exact⟨_,_,_,_,_,_,_,_,_,_,_,rfl,rfl,.inr ⟨_,_,_,_,_,rfl,by decide⟩⟩) rfl
 have g4:B 3 gs4:=GsOk.add (g3.mono (by decide)) ⟨C8,C0,f3,_,_,2,rfl,zbI kb nb e8,rfl,XI3,b3,by decide,W3⟩ rfl
 have g5:B 3 gs5:=GsOk.add g4 ⟨C8,C0,f3,_,_,2,rfl,zbI kb nb e8,rfl,XI3,b3,by decide,W3⟩ rfl
 have g6:B 4 gs6:=Z.fn (ps:=["thing"]) p4 g5 VT rfl rfl (λ_ _ _ _ _ _ _=>rfl) rfl
 have g7:B 5 gs7:=Z.fn (ps:=["thing"]) p5 g6 XE rfl rfl (λ_ _ _ _ _ _ _=>rfl) rfl
 have g8:B 6 gs8:=Z.fn (ps:=["thing"]) p6 g7 xj rfl rfl (λ_ _ _ _ _ _ _=>rfl) rfl
 have g9:B 7 gs9:=Z.fn (ps:=["thing","bound"]) p7 g8 JL rfl rfl (λ_ _ _ _ _ _ _ _=>rfl) rfl
 have g10:B 9 z46:=Z.cl (ps:=["self","moments","houses","counts"]) p8 g9 QW rfl rfl rfl (λ_ _ _ _ _ _ _ _ _ _=>rfl) rfl
 have g11:B 10 z5n:=Z.fn (ps:=["shape"]) p9 g10 JI rfl rfl (λ_ _ _ _ _ _ _=>rfl) rfl
 have g12:B 11 z5V:=Z.fn (ps:=["shape","thing"]) p10 g11 X_ rfl rfl (λ_ _ _ _ _ _ _ _=>rfl) rfl
 have g13:B 12 z3R:=Z.fn (ps:=["shape","thing"]) p11 g12 QN rfl rfl (λ_ _ _ _ _ _ _ _=>rfl) rfl
 have g14:B 13 z4j:=Z.fn (ps:=["thing","bound"]) p12 g13 W7 rfl rfl (λ_ _ _ _ _ _ _ _=>rfl) rfl
 have g15:B 14 z53:=Z.fn (ps:=["shape","moment","house","count"]) p13 g14 XG rfl rfl (λ_ _ _ _ _ _ _ _ _ _=>rfl) rfl
 have g16:B 15 z7C:=Z.fn (ps:=["shape","name"]) p14 g15 Js rfl rfl (λ_ _ _ _ _ _ _ _=>rfl) rfl
 have g17:B 15 z6n:=GsOk.add g16 ⟨_,(.int 0),zbI kb nb v15,⟨_,rfl⟩,λ_ _ _=>rfl⟩ rfl
 have g18:B 15 z6p:=GsOk.add g17 ⟨_,(.int 1),zbI kb nb v16,⟨_,rfl⟩,λ_ _ _=>rfl⟩ rfl
 have g19:B 15 z3s:=GsOk.add g18 ⟨_,(.int 2),zbI kb nb v17,⟨_,rfl⟩,λ_ _ _=>rfl⟩ rfl
 have g20:B 16 z4x:=Z.fn (ps:=["shape","thing"]) p18 g19 Je rfl rfl (λ_ _ _ _ _ _ _ _=>rfl) rfl
 have g21:B 17 z7k:=Z.fn (ps:=["shape","thing"]) p19 g20 Ze rfl rfl (λ_ _ _ _ _ _ _ _=>rfl) rfl
 have g22:B 17 z7i:=GsOk.add g21 ⟨_,(.str "abcdefghijklmnopqrstuvwxyz"),zbI kb nb v20,⟨_,rfl⟩,λ_ _ _=>rfl⟩ rfl
 have g23:B 17 z4o:=GsOk.add g22 ⟨_,(.int 8),zbI kb nb v21,⟨_,rfl⟩,λ_ _ _=>rfl⟩ rfl
 have g24:B 18 z5c:=Z.fn (ps:=["thing"]) p22 g23 WD rfl rfl (λ_ _ _ _ _ _ _=>rfl) rfl
 have g25:B 20 z5x:=Z.cl (ps:=["self","holder","lease"]) p23 g24 QB rfl rfl rfl (λ_ _ _ _ _ _ _ _ _=>rfl) rfl
 have g26:B 21 z3H:=Z.fn (ps:=["grant","first","until"]) p24 g25 z2t rfl rfl (λ_ _ _ _ _ _ _ _ _=>rfl) rfl
 have W25:FnOk l.prog w K mg base (CX1 l.prog w) 22 f25 _ ["grants","moment","span"] (spN _ 3 qZ):=vB (m:=2) yP (yd (N:=["grants","moment","span","begin","grant"]) (G:=["sorted","meets"]) (cel:=[]) (own:=[]) (lam:=some (0,[⟨100,36,100,64⟩])) kb nb zc g26) l25 c25 rfl rfl Zl (λj pos e=>by cases e;exact⟨by decide,cA0,P0,rfl,codeHd_of_K kb zt0,nbt,rfl⟩)
 have g27:B 22 z4H:=GsOk.add (g26.mono (by decide)) ⟨f25,zbI kb nb a25,_,_,22,k25,b25,by decide,W25,qA⟩ rfl
 have g28:B 23 z4J:=Z.fn (ps:=["grants","moment","span"]) p26 g27 Zc rfl rfl (λ_ _ _ _ _ _ _ _ _=>rfl) rfl
 have g29:B 25 z43:=Z.cl (ps:=["self","shape"]) p27 g28 Zs rfl rfl rfl (λ_ _ _ _ _ _ _ _=>rfl) rfl
 have g30:B 26 z6a:=Z.met (ps:=["self","holder","house","moment","span"]) p28 g29 jY rfl rfl rfl rfl (λ_ _ _ _ _ _ _ _ _ _ _=>rfl) rfl
 have g31:B 27 z4_:=Z.met (ps:=["self","house"]) p29 g30 jK rfl rfl rfl rfl (λ_ _ _ _ _ _ _ _=>rfl) rfl
 have g32:B 28 z4a:=Z.met (ps:=["self","house","moment","span"]) p30 g31 jk rfl rfl rfl rfl (λ_ _ _ _ _ _ _ _ _ _=>rfl) rfl
 have g33:B 29 z4e:=Z.met (ps:=["self","holder","house","moment","span"]) p31 g32 QJ rfl rfl rfl rfl (λ_ _ _ _ _ _ _ _ _ _ _=>rfl) rfl
 have g34:B 30 z3z:=Z.met (ps:=["self","lease"]) p32 g33 uN rfl rfl rfl rfl (λ_ _ _ _ _ _ _ _=>rfl) rfl
 have g35:B 31 z3J:=Z.met (ps:=["self","lease","used"]) p33 g34 QL rfl rfl rfl rfl (λ_ _ _ _ _ _ _ _ _=>rfl) rfl
 have g36:B 32 z49:=Z.fn (ps:=["shape","thing"]) p34 g35 Y0 rfl rfl (λ_ _ _ _ _ _ _ _=>rfl) rfl
 have g37:B 34 z3n:=Z.cl (ps:=["self","house","begin","end"]) p35 g36 QY rfl rfl rfl (λ_ _ _ _ _ _ _ _ _ _=>rfl) rfl
 have g38:B 35 z5Q:=Z.fn (ps:=["shape","house","place"]) p36 g37 Xe rfl rfl (λ_ _ _ _ _ _ _ _ _=>rfl) rfl
 have g39:B 36 z5A:=Z.fn (ps:=["shape","batch"]) p37 g38 xh rfl rfl (λ_ _ _ _ _ _ _ _=>rfl) rfl
 have g40:B 37 z5E:=Z.fn (ps:=["batches"]) p38 g39 Vi rfl rfl (λ_ _ _ _ _ _ _=>rfl) rfl
 have g41:B 38 z5U:=Z.fn (ps:=["shape","house","name"]) p39 g40 Zp rfl rfl (λ_ _ _ _ _ _ _ _ _=>rfl) rfl
 have W40:FnOk l.prog w K mg base (CX1 l.prog w) 39 f40 _ ["self","shape","ahead","stride","keeper","note"] (spN _ 6 qN):=vB (m:=0) yP (yd (N:=["self","shape","ahead","stride","keeper","note"]) (G:=["is_from_nought","NoTime","is_note","NoNote"]) (cel:=[]) (own:=[]) (lam:=none) kb nb zc g41) l40 c40 rfl rfl W6
 have g42:B 40 z6A:=GsOk.add (g41.mono (by decide)) ⟨CC40,f40,_,_,39,rfl,zbI kb nb q40,⟨mk40,i40,j40,kk40⟩,b40,by decide,W40,qA⟩ rfl
 have g43:B 40 z47:=GsOk.add (x:=til "House") g42 ⟨CC40,f40,_,_,39,rfl,zbI kb nb q40,⟨mk40,i40,j40,kk40⟩,bd40,by decide,W40,qA,rfl⟩ rfl
 have g44:B 41 z5L:=Z.met (ps:=["self"]) p41 g43 xM rfl rfl rfl rfl (λ_ _ _ _ _ _ _=>rfl) rfl
 have g45:B 42 z6c:=Z.met (ps:=["self"]) p42 g44 We rfl rfl rfl rfl (λ_ _ _ _ _ _ _=>rfl) rfl
 have g46:B 43 z5M:=Z.met (ps:=["self","lease","mark"]) p43 g45 Wl rfl rfl rfl rfl (λ_ _ _ _ _ _ _ _ _=>rfl) rfl
 have g47:B 44 z3T:=Z.met (ps:=["self","lease"]) p44 g46 jV rfl rfl rfl rfl (λ_ _ _ _ _ _ _ _=>rfl) rfl
 have g48:B 45 z3k:=Z.met (ps:=["self"]) p45 g47 vq rfl rfl rfl rfl (λ_ _ _ _ _ _ _=>rfl) rfl
 have g49:B 46 z4l:=Z.met (ps:=["self"]) p46 g48 jE rfl rfl rfl rfl (λ_ _ _ _ _ _ _=>rfl) rfl
 have g50:B 47 z60:=Z.met (ps:=["self","reading","many"]) p47 g49 jH rfl rfl rfl rfl (λ_ _ _ _ _ _ _ _ _=>rfl) rfl
 have g51:B 48 z4f:=Z.met (ps:=["self","moment"]) p48 g50 jj rfl rfl rfl rfl (λ_ _ _ _ _ _ _ _=>rfl) rfl
 have g52:B 49 z3f:=Z.met (ps:=["self","reading","many"]) p49 g51 xG rfl rfl rfl rfl (λ_ _ _ _ _ _ _ _ _=>rfl) rfl
 have W50:FnOk l.prog w K mg base (CX1 l.prog w) 50 f50 _ ["self","reading","many"] (spN _ 3 qq):=vB (m:=1) yP (yd (N:=["self","reading","many","batch"]) (G:=["names_of_batch"]) (cel:=[]) (own:=[]) (lam:=none) kb nb zc g52) l50 c50 rfl rfl WS
 have g53:B 50 z7y:=GsOk.add (g52.mono (by decide)) ⟨CC40,f50,_,_,50,rfl,ua (c:=45) zc rfl,⟨i50,j50,k50⟩,λi h=>absurd (z8F (show FLD[i]?=some "ask" from h)) (by decide +kernel),b50,by decide,W50,qA⟩ rfl
 have g54:B 50 z3P:=GsOk.add (x:=til (dot "ask")) g53 ⟨CC40,f50,_,_,50,_,(.int 1),rfl,ua (c:=45) zc rfl,⟨i50,j50,k50⟩,λi h=>absurd (z8F (show FLD[i]?=some "ask" from h)) (by decide +kernel),bd50,⟨_,rfl⟩,λ_ _ _=>rfl,by decide,W50,qA,rfl⟩ rfl
 have W51:FnOk l.prog w K mg base (CX1 l.prog w) 51 f51 _ ["self","reading","many"] (spN _ 3 wY):=vB (m:=1) yP (yd (N:=["self","reading","many","batch"]) (G:=["size_of"]) (cel:=[]) (own:=[]) (lam:=none) kb nb zc g54) l51 c51 rfl rfl yn
 have g55:B 51 z78:=GsOk.add (g54.mono (by decide)) ⟨CC40,f51,_,_,51,rfl,ua (c:=45) zc rfl,⟨i51,j51,k51⟩,λi h=>absurd (z8F (show FLD[i]?=some "store" from h)) (by decide +kernel),b51,by decide,W51,qA⟩ rfl
 have g56:B 51 z5p:=GsOk.add (x:=til (dot "store")) g55 ⟨CC40,f51,_,_,51,_,(.int 1),rfl,ua (c:=45) zc rfl,⟨i51,j51,k51⟩,λi h=>absurd (z8F (show FLD[i]?=some "store" from h)) (by decide +kernel),bd51,⟨_,rfl⟩,λ_ _ _=>rfl,by decide,W51,qA,rfl⟩ rfl
 have g57:B 52 z4N:=Z.fn (ps:=["thing"]) p52 g56 Qx rfl rfl (λ_ _ _ _ _ _ _=>rfl) rfl
 have g58:B 53 z6d:=Z.fn (ps:=["thing"]) p53 g57 yD rfl rfl (λ_ _ _ _ _ _ _=>rfl) rfl
 have g59:B 54 z65:=Z.fn (ps:=["houses","shape","holder"]) p54 g58 VI rfl rfl (λ_ _ _ _ _ _ _ _ _=>rfl) rfl
 have g60:B 55 z63:=Z.fn (ps:=["shape","rows"]) p55 g59 Ut rfl rfl (λ_ _ _ _ _ _ _ _=>rfl) rfl
 have g61:B 56 z4g:=Z.fn (ps:=["_law_script","_law_k"]) p56 g60 WC rfl rfl (λ_ _ _ _ _ _ _ _=>rfl) rfl
 have g62:B 57 z57:=Z.fn (ps:=["_law_cell","_law_k"]) p57 g61 Yo rfl rfl (λ_ _ _ _ _ _ _ _=>rfl) rfl
 have g63:B 58 z4v:=Z.fn (ps:=["_law_cell","_law_k","_law_most"]) p58 g62 z0U rfl rfl (λ_ _ _ _ _ _ _ _ _=>rfl) rfl
 have g64:B 59 z4n:=Z.fn (ps:=["_law_cell"]) p59 g63 Zh rfl rfl (λ_ _ _ _ _ _ _=>rfl) rfl
 have g65:B 60 z5d:=Z.fn (ps:=["_law_common","_law_holder","_law_far_here","_law_many","_law_cell"]) p60 g64 Zw rfl rfl (λ_ _ _ _ _ _ _ _ _ _ _=>rfl) rfl
 have g66:B 61 z64:=Z.fn (ps:=["_law_shape","_law_lease","_law_last","_law_holder","_law_cell"]) p61 g65 Va rfl rfl (λ_ _ _ _ _ _ _ _ _ _ _=>rfl) rfl
 have g67:B 62 z4k:=Z.fn (ps:=["_law_shape","_law_far_here","_law_many","_law_cells"]) p62 g66 z2A rfl rfl (λ_ _ _ _ _ _ _ _ _ _=>rfl) rfl
 have g68:B 63 z77:=Z.fn (ps:=["_law_e"]) p63 g67 Jn rfl rfl (λ_ _ _ _ _ _ _=>rfl) rfl
 have g69:B 63 z4Z:=Z.fnh (ps:=["_law_e"]) p63 g67 g68 VD rfl rfl (λ_ _ _ _ _ _ _=>rfl) rfl
 have g70:B 64 z4M:=Z.fn (ps:=["_law_shape","_law_rows"]) p64 g69 VJ rfl rfl (λ_ _ _ _ _ _ _ _=>rfl) rfl
 have g71:B 65 z4G:=Z.fn (ps:=["_law_cell"]) p65 g70 JT rfl rfl (λ_ _ _ _ _ _ _=>rfl) rfl
 have g72:B 66 z3l:=Z.fn (ps:=["_law_shape","_law_far_here","_law_cell"]) p66 g71 K_ rfl rfl (λ_ _ _ _ _ _ _ _ _=>rfl) rfl
 have g73:B 67 z3q:=Z.fn (ps:=["_law_shape","_law_lease","_law_last","_law_holder","_law_cell"]) p67 g72 Ve rfl rfl (λ_ _ _ _ _ _ _ _ _ _ _=>rfl) rfl
 have g74:B 68 z6O:=Z.fn (ps:=["_law_shape","_law_far_here","_law_cell"]) p68 g73 Wi rfl rfl (λ_ _ _ _ _ _ _ _ _=>rfl) rfl
 have W69:FnOk l.prog w K mg base (CX1 l.prog w) 69 fa _ ["_law_script"] (spN _ 1 kF):=vB (m:=12) yP (yd (N:=["_law_script","_law_shape","_law_far_here","_law_many","_law_rows","_law_due","_law_cell","_law_word_here","_law_row","_law_lease","_law_worse","_law_at","_law_no_list"]) (G:=["_law_run_shape","_law_cell_at","_law_run","_law_bad","_law_draw","Common","_law_bad_ask","_law_two_asks","len","_law_no_row","_law_told","tuple","played"]) (cel:=["_law_shape"]) (own:=[]) (lam:=none) kb nb zc g74) l69 c69 rfl rfl Y4
 exact z1Z (f:=kF) tells rfl W69
end NH.K72
section
open PySem PySem.W PyProof.Rows
set_option maxRecDepth 100000 in
set_option maxHeartbeats 0 in
theorem PySem.Challenge.cw_namehouses_k72_runs_refused_holds : PySem.Challenge.rw_namehouses_k72_runs_refused.Holds := by
 w_on;o_law;k_head;(case hw=>w_witness2)
 k_fill
 refine NH.walkT2 (l:=PySem.Challenge.rw_namehouses_k72_runs_refused) (k:=69) (x:="_law_script") (by decide) rfl rfl (λw h Y=>PySem.W.km_in_of Y) (λw h Y=>PySem.W.km_tabs_of Y _ (.head _)) ?F
 case F=>
  intro w mg fa h KX G hmg
  refine' NH.K72.all_mk KX G hmg ?ze0 ?ze1 ?ze2 ?ze3 ?ze4 ?ze5 ?ze6 ?ze7 ?ze8 ?ze9 ?ze10 ?ze11 ?za0 ?zl0 ?zc0 ?zk0 ?zxa3 ?zxb3 ?zxc3 ?zxd3 ?zxe3 ?zxf3 ?zxg3 ?zxh3 ?zha0 ?zha1 ?zha2 ?zl3 ?zc3 ?zk3 ?zp4 ?zp5 ?zp6 ?zp7 ?zp8 ?zp9 ?zp10 ?zp11 ?zp12 ?zp13 ?zp14 ?zv15 ?zv16 ?zv17 ?zp18 ?zp19 ?zv20 ?zv21 ?zp22 ?zp23 ?zp24 ?za25 ?zl25 ?zc25 ?zzt0 ?zzk0 ?zzs0 ?zk25 ?zp26 ?zp27 ?zp28 ?zp29 ?zp30 ?zp31 ?zp32 ?zp33 ?zp34 ?zp35 ?zp36 ?zp37 ?zp38 ?zp39 ?zq40 ?zi40 ?zj40 ?zl40 ?zd40 ?zc40 ?zk40 ?zmk40 ?zkk40 ?zp41 ?zp42 ?zp43 ?zp44 ?zp45 ?zp46 ?zp47 ?zp48 ?zp49 ?zi50 ?zj50 ?zl50 ?zd50 ?zc50 ?zk50 ?zi51 ?zj51 ?zl51 ?zd51 ?zc51 ?zk51 ?zp52 ?zp53 ?zp54 ?zp55 ?zp56 ?zp57 ?zp58 ?zp59 ?zp60 ?zp61 ?zp62 ?zp63 ?zp64 ?zp65 ?zp66 ?zp67 ?zp68 ?za69 ?zl69 ?zc69 ?zk69 ?zx0 ?zx1 ?zx2 ?zx3 ?zx4 ?zx5 ?zx6 ?zx7 ?zx9 ?zx10 ?zx11 ?zzl ?zzc ?zzg
  (case ze0=>k_is)
  (case ze1=>k_is)
  (case ze2=>k_is)
  (case ze3=>k_is)
  (case ze4=>k_is)
  (case ze5=>k_is)
  (case ze6=>k_is)
  (case ze7=>k_is)
  (case ze8=>k_is)
  (case ze9=>k_is)
  (case ze10=>k_is)
  (case ze11=>k_is)
  (case za0=>k_is)
  (case zl0=>k_is)
  (case zc0=>k_is)
  (case zk0=>k_is)
  (case zxa3=>k_is)
  (case zxb3=>kernel_rfl)
  (case zxc3=>k_is)
  (case zxd3=>k_is)
  (case zxe3=>k_is)
  (case zxf3=>k_is)
  (case zxg3=>k_is)
  (case zxh3=>k_is)
  (case zha0=>k_is)
  (case zha1=>k_is)
  (case zha2=>k_is)
  (case zl3=>k_is)
  (case zc3=>k_is)
  (case zk3=>k_is)
  (case zp4=>exact NH.dfp (by k_is) (by k_is) (by k_is) (by k_is))
  (case zp5=>exact NH.dfp (by k_is) (by k_is) (by k_is) (by k_is))
  (case zp6=>exact NH.dfp (by k_is) (by k_is) (by k_is) (by k_is))
  (case zp7=>exact NH.dfp (by k_is) (by k_is) (by k_is) (by k_is))
  (case zp8=>exact NH.clp (by k_is) (by k_is) (by k_is) (by k_is) (by k_is) (by k_is) (by k_is) (by k_is))
  (case zp9=>exact NH.dfp (by k_is) (by k_is) (by k_is) (by k_is))
  (case zp10=>exact NH.dfp (by k_is) (by k_is) (by k_is) (by k_is))
  (case zp11=>exact NH.dfp (by k_is) (by k_is) (by k_is) (by k_is))
  (case zp12=>exact NH.dfp (by k_is) (by k_is) (by k_is) (by k_is))
  (case zp13=>exact NH.dfp (by k_is) (by k_is) (by k_is) (by k_is))
  (case zp14=>exact NH.dfp (by k_is) (by k_is) (by k_is) (by k_is))
  (case zv15=>k_is)
  (case zv16=>k_is)
  (case zv17=>k_is)
  (case zp18=>exact NH.dfp (by k_is) (by k_is) (by k_is) (by k_is))
  (case zp19=>exact NH.dfp (by k_is) (by k_is) (by k_is) (by k_is))
  (case zv20=>k_is)
  (case zv21=>k_is)
  (case zp22=>exact NH.dfp (by k_is) (by k_is) (by k_is) (by k_is))
  (case zp23=>exact NH.clp (by k_is) (by k_is) (by k_is) (by k_is) (by k_is) (by k_is) (by k_is) (by k_is))
  (case zp24=>exact NH.dfp (by k_is) (by k_is) (by k_is) (by k_is))
  (case za25=>k_is)
  (case zl25=>k_is)
  (case zc25=>k_is)
  (case zzt0=>exact rfl)
  (case zzk0=>exact rfl)
  (case zzs0=>decide)
  (case zk25=>k_is)
  (case zp26=>exact NH.dfp (by k_is) (by k_is) (by k_is) (by k_is))
  (case zp27=>exact NH.clp (by k_is) (by k_is) (by k_is) (by k_is) (by k_is) (by k_is) (by k_is) (by k_is))
  (case zp28=>exact NH.mtp (by k_is) (by k_is) (by k_is) (by k_is) (by k_is))
  (case zp29=>exact NH.mtp (by k_is) (by k_is) (by k_is) (by k_is) (by k_is))
  (case zp30=>exact NH.mtp (by k_is) (by k_is) (by k_is) (by k_is) (by k_is))
  (case zp31=>exact NH.mtp (by k_is) (by k_is) (by k_is) (by k_is) (by k_is))
  (case zp32=>exact NH.mtp (by k_is) (by k_is) (by k_is) (by k_is) (by k_is))
  (case zp33=>exact NH.mtp (by k_is) (by k_is) (by k_is) (by k_is) (by k_is))
  (case zp34=>exact NH.dfp (by k_is) (by k_is) (by k_is) (by k_is))
  (case zp35=>exact NH.clp (by k_is) (by k_is) (by k_is) (by k_is) (by k_is) (by k_is) (by k_is) (by k_is))
  (case zp36=>exact NH.dfp (by k_is) (by k_is) (by k_is) (by k_is))
  (case zp37=>exact NH.dfp (by k_is) (by k_is) (by k_is) (by k_is))
  (case zp38=>exact NH.dfp (by k_is) (by k_is) (by k_is) (by k_is))
  (case zp39=>exact NH.dfp (by k_is) (by k_is) (by k_is) (by k_is))
  (case zq40=>k_is)
  (case zi40=>k_is)
  (case zj40=>k_is)
  (case zl40=>k_is)
  (case zd40=>k_is)
  (case zc40=>k_is)
  (case zk40=>k_is)
  (case zmk40=>k_is)
  (case zkk40=>k_is)
  (case zp41=>exact NH.mtp (by k_is) (by k_is) (by k_is) (by k_is) (by k_is))
  (case zp42=>exact NH.mtp (by k_is) (by k_is) (by k_is) (by k_is) (by k_is))
  (case zp43=>exact NH.mtp (by k_is) (by k_is) (by k_is) (by k_is) (by k_is))
  (case zp44=>exact NH.mtp (by k_is) (by k_is) (by k_is) (by k_is) (by k_is))
  (case zp45=>exact NH.mtp (by k_is) (by k_is) (by k_is) (by k_is) (by k_is))
  (case zp46=>exact NH.mtp (by k_is) (by k_is) (by k_is) (by k_is) (by k_is))
  (case zp47=>exact NH.mtp (by k_is) (by k_is) (by k_is) (by k_is) (by k_is))
  (case zp48=>exact NH.mtp (by k_is) (by k_is) (by k_is) (by k_is) (by k_is))
  (case zp49=>exact NH.mtp (by k_is) (by k_is) (by k_is) (by k_is) (by k_is))
  (case zi50=>k_is)
  (case zj50=>k_is)
  (case zl50=>k_is)
  (case zd50=>k_is)
  (case zc50=>k_is)
  (case zk50=>k_is)
  (case zi51=>k_is)
  (case zj51=>k_is)
  (case zl51=>k_is)
  (case zd51=>k_is)
  (case zc51=>k_is)
  (case zk51=>k_is)
  (case zp52=>exact NH.dfp (by k_is) (by k_is) (by k_is) (by k_is))
  (case zp53=>exact NH.dfp (by k_is) (by k_is) (by k_is) (by k_is))
  (case zp54=>exact NH.dfp (by k_is) (by k_is) (by k_is) (by k_is))
  (case zp55=>exact NH.dfp (by k_is) (by k_is) (by k_is) (by k_is))
  (case zp56=>exact NH.dfp (by k_is) (by k_is) (by k_is) (by k_is))
  (case zp57=>exact NH.dfp (by k_is) (by k_is) (by k_is) (by k_is))
  (case zp58=>exact NH.dfp (by k_is) (by k_is) (by k_is) (by k_is))
  (case zp59=>exact NH.dfp (by k_is) (by k_is) (by k_is) (by k_is))
  (case zp60=>exact NH.dfp (by k_is) (by k_is) (by k_is) (by k_is))
  (case zp61=>exact NH.dfp (by k_is) (by k_is) (by k_is) (by k_is))
  (case zp62=>exact NH.dfp (by k_is) (by k_is) (by k_is) (by k_is))
  (case zp63=>exact NH.dfp (by k_is) (by k_is) (by k_is) (by k_is))
  (case zp64=>exact NH.dfp (by k_is) (by k_is) (by k_is) (by k_is))
  (case zp65=>exact NH.dfp (by k_is) (by k_is) (by k_is) (by k_is))
  (case zp66=>exact NH.dfp (by k_is) (by k_is) (by k_is) (by k_is))
  (case zp67=>exact NH.dfp (by k_is) (by k_is) (by k_is) (by k_is))
  (case zp68=>exact NH.dfp (by k_is) (by k_is) (by k_is) (by k_is))
  (case za69=>k_is)
  (case zl69=>k_is)
  (case zc69=>k_is)
  (case zk69=>k_is)
  (case zx0=>k_exc)
  (case zx1=>k_exc)
  (case zx2=>k_exc)
  (case zx3=>k_exc)
  (case zx4=>k_exc)
  (case zx5=>k_exc)
  (case zx6=>k_exc)
  (case zx7=>k_exc)
  (case zx9=>k_exc)
  (case zx10=>k_exc)
  (case zx11=>k_exc)
  (case zzl=>exact rfl)
  (case zzc=>exact rfl)
  (case zzg=>exact rfl)
end
