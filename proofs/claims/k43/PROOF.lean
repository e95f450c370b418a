import PyProof.Rows.All
import Wide.All
import OpenK.AllK
import Wide.FinOn
import Lean
import PyProof.EqAt
import PyProof.EqKinds
import PyProof.TupleCall
import PyProof.StationsW
import PySem.Syntax
import KE.KLam
import PyProof.StrBlockH
import KE.KRevIter
import PyProof.JoinWalk
import PyProof.CollectIter
import PyProof.StrCalls
import PyProof.DictStraight
import PyProof.Rows.Range3
import PyProof.StrWalks
import PyProof.LongRange
import KE.KTryMore
import KE.KItem
import PyProof.NsDelKeeps
import PyProof.DictTable
import PyProof.WalkInts
import PyProof.Rows.SortStr
import PyProof.Rows.SortWalk
import PyProof.EnumMake
import PyProof.EnumFor
import KE.KRevSl
import PyProof.Rows.StrNews
import KE.KMinBuiltin
import KE.KSortKey
import PyProof.ZipIter
import PyProof.ExcInit
import PyProof.ExcClass2
import PyProof.InstStoreFacts
import PyProof.FString
import KE.LcSums
import PyProof.AttrMissHeap
import PyProof.Rows.SetFrom
import KE.KDictOf
import KE.KIntText
import PyProof.StrBlock2
import PyProof.StrReplace2
import PyProof.ExcFactsAll.LookupError
import PyProof.ExcFactsAll.ZeroDivisionError
import PyProof.FactsTree
import PyProof.DictUpdate
import PyProof.DictTruth
import PySem.Challenge.RW_namehouses_k43_keepers_that_raise
set_option Elab.async false
open PySem renaming wpAny_bind→z5z,Shared→z5D,wpAny_pure→z5E,wpAny→z5K,model→z5N,mainGlobals→z5V,wpAny_holding→z60,Around→z6e,Program→z6f,wpAny_truthy_bool→z6h,wpAny_mono→z6j,starEach→z6o,wpAny_standAt→z6p,sizeLine_eq→z6t,mem_of_lookup→z6u,rawInt→z6v,World→z6w,compareOp→z6B,wpAny_Call_Name_kw→z6F,foldedSetIterable→z6J,bootBuiltins→z6U,relabel→z6Y,wpAny_newObj_type→z6_,wpAny_call→z73,codeAny_mono→z76,wpAny_field→z7c,binaryOp→z7l,codeAny→z7n,excClassObj→z7q,backTo→z7u,assignEach→z7v,methodCallPos→z7x,CmpOp→z7B,keywordEach→z7J,wpAny_of_eq→z7K,codeAny_builtin→z7Q,codeAmong→z7R,wpAny_pyIter_list→z7V,wpAny_loadPart_at→z7X,codeAny_call_builtin→z81,compEnvC→z82,wpAny_tryCatch→z84,isSubtype_type→z85,ExceptHandler→z8f,plainId_quiet→z8g,letOwnedTupleGo→z8j,wpAny_passesOwn→z8k,sysModules→z8n,builtinsNs→z8o,wpAny_callSpecial?_slot→z8t,sliceBounds→z8u,TriplesOk→z8v,wpAny_typeOf→z8B,plainObj_wpAny_Assign_Attribute→z8H,codeAny_call_function→z8J,swapsWith→z8N,checkBuiltinCall→z8O,methodCall→z8Q,attributeBase→z8R,strLen_append→z8T,backToKw→z8V,Model→z91,Builtin→z99,Keyword→z9a,bindArgs→z9j,NameKind→z9k,wpAny_newFunctionEnv_cells→z9m,wpAny_setField→z9p,closureFor→z9r,wpAny_FormattedValue_plain→z9v,wpAny_seqItems→z9w,codeAny_call_builtin_code→z9z,wpAny_letGo→z9H,assign→z9K,comprehension→z9L,arm_eval_Call→z9O,wpAny_execs_cons→z9R,noFill_tuple_add→z9T,wpAny_call_entry→z9V,setFlight→z9W,wpAny_comp_letGo→za0,seqItems?→za1,holding→za9,IsPart→zaa,getItem→zab,wpAny_rule→zad,makeFunction→zag,wpAny_execs_nil→zak,wpAny_updateSeq→zaq,ofString_length→zav,wpAny_formatField_int→zaw,builtinLookup_eq_fast→zax,pyNext→zaA,wpAny_loadPart→zaB,wpAny_newFunctionEnv→zaG,methodCallForm→zaI,OwnTail→zaM,wpAny_Tuple_spliced→zaN,wpAny_isSubtype_exc→zaR,swapsWithSole→zaT,swappedStores→zaU,behindInMarks→zaV,seq_tuple_add→zaW,wpAny_attempt→zaX,wpAny_newList→zaY,Paired→zb0,typeLookup→zb6,int_text_length_le→zbb,getattributeRaised→zbc,Within→zbd,BindsTo→zbk,codeAny_func→zbm,concat_meets→zbn,wpAny_sequenceKey→zbp,slot_list_getitem→zbq,ExcBaseFacts→zby,wpAny_Call_ofName→zbz,cStatics→zbA,fastTable_eq_tree→zbC,PassesOwn→zbL,wpAny_lookBehind→zbN,pastItsLine_dict→zbO,cellsFrom→zbP,noteFrame→zbR,isSubtype→zbV,richCompare→zbX,wpAny_loadPart'→zc1,getAttrByItsOwn→zc4,codeAny_of_tree→zc7,wpAny_JoinedStr→zc9,typeLookup_type→zcd,callerA→zcf,notedBy→zcg,wpAny_Name→zci,Result→zcm,bindL→zco,bindC→zcp,typeIs_str→zcq,typeIs_int→zcr,call_meets→zcs,Operator→zcu,getAttr?→zcx,isInstance→zcy,getMethod→zda,leaving→zdd,passOn→zdj,argsOk→zdk,call→zdE
open List renaming getElem?_eq_some_iff→z5A,getElem?_append_left→z5I,mem_singleton→z5J,getElem?_set_ne→z5L,mem_cons_of_mem→z5M,mem_append_right→z5P,mem_append→z5Q,length_map→z5R,mem_of_getElem?→z5T,getElem?_append_right→z5U,size_toArray→z5W,mem_append_left→z5X,mem_cons_self→z5_,length_append→z63,mem_cons→z65,getElem?_map→z67,length_cons→z68,contains_iff_mem→z6a,lookup_cons→z6b,all_eq_true→z6i,mem_filter→z6m,append_nil→z6n,all_cons→z6s,mem_map→z6y,mem_iff_getElem?→z6C,getElem?_eq_getElem→z6D,mem_of_mem_take→z6H,lookup→z6O,range→z6R,map_cons→z6V,length_nil→z72,take_of_length_le→z78,map_append→z7k,rec→z7o,take_add_one→z7t,length_take→z7D,getElem?_replicate→z7E,getElem?_cons_succ→z7F,mem_filterMap→z7M,filterMap_eq_map'→z7P,nodup_append→z7U,flatMap_cons→z7Y,append_assoc→z7Z,replicate→z7_,filterMap_cons_none→z8h,filterMap_cons_some→z8i,nodup_cons→z8m,getElem?_set_self'→z8w,getElem?_set_self→z8y,getElem?_eq_none→z8K,take_append_drop→z8L,getElem_inj→z8M,of_mem_zip→z8W,nil_append→z8_,filterMap_cons→z90,map_congr_left→z94,flatMap_append→z96,mem_range→z9f,contains_cons→z9u,drop_eq_getElem_cons→z9y,any_eq_false→z9C,pairwise_map→z9I,length_drop→z9U,getElem?_cons_zero→z9X,take_length→za2,filter_cons_of_pos→za5,filter_cons_of_neg→za6,forIn_cons→zao,length_replicate→zas,set_append_right→zaz,mem_of_mem_drop→zaF,zip_cons_cons→zb4,take_sublist→zbl,all_map→zbt,map_map→zbH,cons_append→zbS,length→zbW,map_nil→zde
open Bool renaming and_eq_true→z5B,false_ne_true→z66,not_eq_true'→z70,eq_iff_iff→z8l,false_eq_true→z8p,or_eq_true→z8Z,and_false→zaD,eq_false_iff→zbu,or_true→zbw,false_and→zcj,rec→zct,and_true→zd5
open PySem.Heap renaming get?_push_of_some→z5C,lt_size→z5O,get?_push_size→z5Y,get?_none_of_le→z6d,get?_update_other→z6q,SameBut→z6x,size_push→z6K,get?_update_self→z7i,MadeExcOf→z8C,get?_push_at→z8E,MadeExc→z9d,size_update→za4,get?_update_ne→zaS,get?_push_ne→zbG
open Option.some renaming inj→z5F,injEq→z9G
open PySem.W renaming Frag→z5G,findIn→z64,fnOf→z6g,emptyDict→z6A,mroIn→z6I,codeIn→z6L,callWith_K→z6S,exmOne→z6Z,instObj→z71,CodeHd→z7h,hasDictIn→z7m,specialIn→z7p,plainGet_of→z7y,callWith_K0→z7z,keepIn→z7C,tabObj→z7G,subIn→z7S,plainGet→z89,excIn→z8e,cellsFrom_some→z8z,nsIn→z8D,clsIn→z8S,takesIn→z8X,looks_clsIn→z93,lookIn→z9i,kitOne→z9q,isNs_of_in→z9t,methodObj→z9A,plainOver→z9D,kitx_dict→z9F,Looks→z9N,any_some→z9S,KitX→zae,takerIn→zal,kla_obj→zan,looks_findIn→zaC,kitAny→zaE,kitCls→zaH,mg_of→zaJ,codeRec_of→zb2,mg_none_of→zba,isFn→zbe,set_plain→zbf,kitx_list→zbv,handedIn→zbM,codeHdIn→zbU,makesIn→zc0,kitMeta→zc5,readsIn→zca,findCls→zcb,binds_K→zcc,OpenLaw→zce,InstAt→zcl,typeIn→zcn,nsOkIn→zcw,exmAny→zcC,fnMade→zcD,FnAt→zdh
open Nat renaming le_refl→z5H,lt_of_lt_of_le→z5S,ne_of_lt→z5Z,le_trans→z62,lt_succ_self→z6G,beq→z6X,lt_irrefl→z7b,le_succ→z7r,ne_of_gt→z7L,eq_of_beq_eq_true→z7T,lt_succ_of_lt→z7W,zero_le→z8r,le_of_lt→z97,le_of_eq→z98,lt_of_le_of_lt→z9s,ble→zbr,lt_trans→zbx,sub_self→zbB,zero_add→zbF,rec→zdf,lt_or_ge→zdi,sub_zero→zdn,log2_lt→zdw
open PySem.Value renaming ref→z61,none→z6E,bool→za7,type→za8,int→zbK,builtin→zd6,str→zd9,isInt→zdr,bytes→zdt,float→zdu
open False renaming elim→z69
open Int renaming mul_le_mul_of_nonneg_right→z6c,emod_lt_of_pos→z6l,emod_nonneg→z6r,mul_ediv_add_emod→z6Q,mul_comm→z7a,ediv_emod_unique→z86,mul_nonneg→z87,add_mul→z88,ediv_nonneg→z8Y,fdiv_eq_ediv_of_nonneg→z9h,le_refl→z9J,add_comm→zaj,ediv_lt_of_lt_mul→zay,ediv_one→zbo,toNat_natCast→zbs,le_trans→zbI,one_mul→zb_,le_of_eq→zdo,le_of_lt→zdp
open Ne renaming symm→z6k
open PySem.F renaming plain_max_loop→z6z,excBase_ValueError→z6N,excCall_LookupError→z79,slot_list_getattribute→z7I,args_tuple_add_2→z8c,entry_tuple_add→z8s,slot_tuple_add→z8A,entry_max_loop→z8G,store_ValueError→z9Q,attr_ValueError→z9Z,plainAttrs_list→z9_
open Array renaming getElem?_eq_some_iff→z6M,getElem?_setIfInBounds_ne→z8I,length_toList→z92,getElem?_toList→zau,toList_append→zaQ,find?_toList→zb1,toList→zdc
open PyProof.Rows renaming slot_tuple_getitem→z6P,callWith_builtin1→z6T,IntsAre→z75,callWith_type1→z77,seqObj→z83,envOfC→z9l,wpS_bind→z9x,AllBare→z9B,subscriptTail_builtinR→zac,pairsOf→zai,get?_update_seq→zar,entry_tuple_getitem→zaO,args_tuple_getitem→zb5,wpS_pure→zbD,failedOf→zbE,arrOf→zbZ,IsTup→zch,boot_range→zcA,K→zcF,SortSt→zdm,lt_int→zdz
open PySem.Str renaming ofString→z6W,empty→z9e
open ForInStep renaming yield→z74
open PySem.Obj renaming mapFields→z7d,mapSeq→z7g,isFreed_of_fields→zat,data_mapFields→zb7
open PySem.W.Looks renaming here→z7e,of_pure→zdq,ld→zdN
open True renaming intro→z7f
open PySem.Builtin.Slice renaming slicePlaces→z7j,sliceAdjust→z8a,sliceApplied→z9n,slicePartIndex→zc3,sliceFields→zcQ
open PySem.Around renaming under_plainId→z7s,frames_deeper→z8U,under→zbh
open PySem.Builtin.Tuple renaming tupleExact→z7w,tupleItemsOf→z9o,tupleCompareSizes→zbJ,tupleIsExact→zcz,tupleHashOf→zcR
open PySem.Builtin.Str renaming occurrences→z7A
open PySem.Builtin.ObjectAttr renaming storeInDict→z7H,attrName→z9b,newKeyGuard→zbT,noDictFor→zc8,bindTo→zcS
open PySem.Calls renaming spliced_cons→z7N,evalArgs_plain→z80,Name_function_global→z9g,spliced_nil→zbj
open PySem.SeqAt renaming EqAt→z7O,RcAt→zb8,RcNeAt→zdg
open Option renaming isSome_iff_exists→z8b,map_eq_some_iff→z8F,bind_some→z8P,getD_some→z9Y,map_some→zap,getD_none→zbQ
open PySem.Builtin.List renaming listTooLong→z8d,listUpdate→zdb
open PySem.Code renaming quiet_builtin→z8q,isFrame→zbi,frames→zdv
open PySem.Builtin.Range renaming rangeSize→z8x,small→zdB
open PySem.Heap.SameBut renaming update→z95
open PySem.Builtin.Builtins renaming bindParams→z9c
open Function renaming comp_def→z9E
open PySem.NameKind renaming free→z9M
open PySem.Shared renaming TypeIs→z9P
open PySem.Builtin.Dict renaming updateFrom→za3,selfAndRest→zd8,pairItems→zdl
open PySem.Walks renaming list→zaf
open Nat.succ renaming inj→zah
open PySem.SeqAt.EqAt renaming same→zam,int_str→zaZ,str_int→za_,int_int→zb3,of_refs→zb9
open Sum renaming inl→zaK,inr→zaL
open PySem.EntryCells renaming newEntry→zaP
open PySem.Heap.Ns1 renaming of_empty→zbg
open PySem.Builtin.BaseException renaming bexcPut→zbY
open List.cons renaming injEq→zc6
open PySem.Builtin renaming bitAnd→zck
open PySem.SeqAt.RcNeAt renaming lists_lengths→zcv,tuples→zdA,lists→zdF
open PySem.Env renaming kindOf→zcB
open PySem.Manifest renaming find?→zcE
open PySem.EqNone renaming eq_none_none→zcG,eq_none_bool→zcH,eq_bool_none→zcI,ne_none_none→zcL,ne_none_bool→zcM,ne_bool_none→zcN,eq_none_int→zcU,eq_none_str→zcV,eq_int_none→zcW,eq_str_none→zcY,ne_none_int→zc_,ne_none_str→zd0,ne_int_none→zd1,ne_str_none→zd3
open PySem.EqMixed renaming eq_bool_str→zcJ,eq_str_bool→zcK,ne_bool_str→zcO,ne_str_bool→zcP,eq_int_str→zcX,eq_str_int→zcZ,ne_int_str→zd2,ne_str_int→zd4
open PySem.Paired renaming length→zcT
open List.Pairwise renaming imp_of_mem→zd7,nil→zdI,map→zdJ,imp→zdK
open Sum.inl renaming inj→zds
open PySem.Data renaming fields→zdx
open PySem.IsRange renaming new→zdy
open PySem.Heap.IsSliceOf renaming new→zdC
open PySem.W.WShape renaming has→zdD
open PyProof.Rows.SortSt renaming mk'→zdG
open PySem.Within renaming cons→zdH
open PyProof.Rows.IsTup renaming new→zdL
open PySem.W.WData renaming int→zdM
open PySem.Heap.DictOf renaming new→zdO
set_option linter.all false
set_option maxRecDepth 100000
set_option maxHeartbeats 4000000
set_option bootstrap.genMatcherCode false
noncomputable section
namespace PySem.W.Fast
theorem tw398008506916650330:True:=⟨⟩
theorem tw14288020158741941364:True:=⟨⟩
theorem tw10151001920037349471:True:=⟨⟩
theorem tw4741785042201742151:True:=⟨⟩
theorem tw15160411005009248104:True:=⟨⟩
theorem tw2452423633131292282:True:=⟨⟩
theorem tw12478847842728240643:True:=⟨⟩
theorem tw3350047892238938288:True:=⟨⟩
theorem tw7824261026054380648:True:=⟨⟩
theorem tw18029849308327106151:True:=⟨⟩
theorem tw17722563240200369158:True:=⟨⟩
theorem tw14045460242805249425:True:=⟨⟩
theorem tw6894199988683265587:True:=⟨⟩
theorem tw992710543624754603:True:=⟨⟩
theorem tw9467380047589901137:True:=⟨⟩
theorem tw5648609085205367032:True:=⟨⟩
theorem tw1695267812635221021:True:=⟨⟩
theorem tw17331076444407301742:True:=⟨⟩
theorem tw13698784047883276498:True:=⟨⟩
theorem tw2232774508227709049:True:=⟨⟩
theorem tw7988324663577020314:True:=⟨⟩
theorem tw12859945863942513888:True:=⟨⟩
theorem tw172506215913987841:True:=⟨⟩
theorem tw8630972252802636171:True:=⟨⟩
theorem tw7284867893674080360:True:=⟨⟩
theorem tw17055210661130818156:True:=⟨⟩
theorem tw8889889640260095525:True:=⟨⟩
theorem tw11523107368556923013:True:=⟨⟩
theorem tw6989354457703953111:True:=⟨⟩
theorem tw4005464429642204025:True:=⟨⟩
theorem tw8802305905443810402:True:=⟨⟩
theorem tw15243355969143864881:True:=⟨⟩
theorem tw3547963744447405009:True:=⟨⟩
theorem tw916235798265164526:True:=⟨⟩
theorem tw17501435171950032676:True:=⟨⟩
theorem tw15516449170654346514:True:=⟨⟩
theorem tw2680358385506830916:True:=⟨⟩
theorem tw5485310133171011275:True:=⟨⟩
theorem tw23931454484156086:True:=⟨⟩
theorem tw9098024106875885031:True:=⟨⟩
theorem tw15543589848537737694:True:=⟨⟩
theorem tw508070473859025516:True:=⟨⟩
theorem tw5358045646095084650:True:=⟨⟩
theorem tw1841100545623781321:True:=⟨⟩
theorem tw12748552181182552086:True:=⟨⟩
theorem tw1927946193828193866:True:=⟨⟩
theorem tw239885408852131650:True:=⟨⟩
theorem tw16555884398984157034:True:=⟨⟩
theorem tw6649830134150777611:True:=⟨⟩
theorem tw1834475109910044382:True:=⟨⟩
theorem tw13158676288997469835:True:=⟨⟩
theorem tw10991341793929877401:True:=⟨⟩
theorem tw3203925610105237191:True:=⟨⟩
theorem tw14902990697933058938:True:=⟨⟩
theorem tw9229021069217921118:True:=⟨⟩
theorem tw3722533186518728878:True:=⟨⟩
theorem tw12359430335637891611:True:=⟨⟩
theorem tw12721281069753393796:True:=⟨⟩
theorem tw5891398214051206870:True:=⟨⟩
theorem tw3434931914330150013:True:=⟨⟩
theorem tw15804697191883257668:True:=⟨⟩
theorem tw3220450832531713610:True:=⟨⟩
theorem tw1739000214321657555:True:=⟨⟩
theorem tw2154685044468153794:True:=⟨⟩
theorem tw11437917934296063103:True:=⟨⟩
theorem tw4708517189329056089:True:=⟨⟩
theorem tw5018431867261286434:True:=⟨⟩
theorem tw71213711596842222:True:=⟨⟩
theorem tw6200773495350094207:True:=⟨⟩
theorem tw5164258088461382296:True:=⟨⟩
theorem tw5807910383418907557:True:=⟨⟩
theorem tw17401153011693368227:True:=⟨⟩
theorem tw15612224797209742834:True:=⟨⟩
theorem tw16542901144596303949:True:=⟨⟩
theorem tw9797562212866274384:True:=⟨⟩
theorem tw7817295390313074166:True:=⟨⟩
theorem tw10352497008354612466:True:=⟨⟩
theorem tw15300669736975911546:True:=⟨⟩
theorem tw6474294887783544461:True:=⟨⟩
theorem tw6590500233034449663:True:=⟨⟩
theorem tw7855931405566100133:True:=⟨⟩
theorem tw9168747585692757568:True:=⟨⟩
theorem tw14413610591870562420:True:=⟨⟩
theorem tw12265788088968648549:True:=⟨⟩
theorem tw4726392910208227553:True:=⟨⟩
theorem tw9772702316613211508:True:=⟨⟩
theorem tw1856384245967030389:True:=⟨⟩
theorem tw13751117370044929950:True:=⟨⟩
theorem tw11851806733274966953:True:=⟨⟩
theorem tw17184678209893735940:True:=⟨⟩
theorem tw11772105145247086866:True:=⟨⟩
theorem tw3795005471839975811:True:=⟨⟩
theorem tw14308531839692025332:True:=⟨⟩
theorem tw2308416882906591539:True:=⟨⟩
theorem tw16757381077622168416:True:=⟨⟩
theorem tw10138976942241030063:True:=⟨⟩
theorem tw1179927179936482474:True:=⟨⟩
theorem tw14512923406130455065:True:=⟨⟩
theorem tw8078822927545634500:True:=⟨⟩
theorem tw14613317844695679850:True:=⟨⟩
theorem tw7894952466466422340:True:=⟨⟩
theorem tw15718945301644800267:True:=⟨⟩
theorem tw767151967926631776:True:=⟨⟩
theorem tw12102393071672431738:True:=⟨⟩
theorem tw12498779272946673929:True:=⟨⟩
theorem tw15998420954585163192:True:=⟨⟩
theorem tw17005706720765939428:True:=⟨⟩
theorem tw2121704122090994755:True:=⟨⟩
theorem tw6473671423433842479:True:=⟨⟩
theorem tw2697658751426758954:True:=⟨⟩
theorem tw12719603413367040406:True:=⟨⟩
theorem tw17719056815240532897:True:=⟨⟩
theorem tw5819169893405982174:True:=⟨⟩
theorem tw13652303008186979378:True:=⟨⟩
theorem tw12702478641060911251:True:=⟨⟩
theorem tw2608223753357889562:True:=⟨⟩
theorem tw2338446859271058394:True:=⟨⟩
theorem tw12080583011859556923:True:=⟨⟩
theorem tw11552035324464658220:True:=⟨⟩
theorem tw9188097142052860434:True:=⟨⟩
theorem tw8481501817921112105:True:=⟨⟩
theorem tw18044874705289353823:True:=⟨⟩
theorem tw3496834945133721843:True:=⟨⟩
theorem tw7915696538210811925:True:=⟨⟩
theorem tw13013142579166442585:True:=⟨⟩
theorem tw10151778410127500037:True:=⟨⟩
theorem tw4196070787245035123:True:=⟨⟩
theorem tw17015916354361593780:True:=⟨⟩
theorem tw1776290341598864553:True:=⟨⟩
theorem tw7780255032875885488:True:=⟨⟩
theorem tw5784253843072392874:True:=⟨⟩
theorem tw16129605887003135290:True:=⟨⟩
theorem tw9577782327001989443:True:=⟨⟩
theorem tw13774452343136456843:True:=⟨⟩
theorem tw10364117558231213160:True:=⟨⟩
theorem tw15245407712480878799:True:=⟨⟩
theorem tw13201458351454060112:True:=⟨⟩
theorem tw7176926974520883497:True:=⟨⟩
theorem tw13898706933608318651:True:=⟨⟩
theorem tw8516253513627852059:True:=⟨⟩
theorem tw15775847482389974227:True:=⟨⟩
theorem tw11173239258947841354:True:=⟨⟩
theorem tw268039157804254776:True:=⟨⟩
theorem tw2821239611827684991:True:=⟨⟩
theorem tw11163037476668542272:True:=⟨⟩
theorem tw888695744428245807:True:=⟨⟩
theorem tw8116208032014900842:True:=⟨⟩
theorem tw17760168445261614060:True:=⟨⟩
theorem tw10248630030185903658:True:=⟨⟩
theorem tw17237207379393261004:True:=⟨⟩
theorem tw12748218222158392294:True:=⟨⟩
theorem tw13651331317513982814:True:=⟨⟩
theorem tw2613995114545598318:True:=⟨⟩
theorem tw14031968725972659540:True:=⟨⟩
theorem tw636191233424480199:True:=⟨⟩
theorem tw14246416100849727860:True:=⟨⟩
theorem tw8296121340960404678:True:=⟨⟩
theorem tw13272929974137726799:True:=⟨⟩
theorem tw11553697297426935233:True:=⟨⟩
theorem tw2263004354549613385:True:=⟨⟩
theorem tw3421709088133894707:True:=⟨⟩
theorem tw8548882827087262476:True:=⟨⟩
theorem tw1874964377637826673:True:=⟨⟩
theorem tw16944265376484385635:True:=⟨⟩
theorem tw10190425554564973618:True:=⟨⟩
theorem tw18433260485831055915:True:=⟨⟩
theorem tw4632801253141678607:True:=⟨⟩
theorem tw2712200584131038183:True:=⟨⟩
theorem tw17703511329128467923:True:=⟨⟩
theorem tw17212117433945507158:True:=⟨⟩
theorem tw17452953085455061263:True:=⟨⟩
theorem tw2820607683392403508:True:=⟨⟩
theorem tw15507364714627120267:True:=⟨⟩
theorem tw17963536888923144601:True:=⟨⟩
theorem tw1067298242297284634:True:=⟨⟩
theorem tw17922156724548611329:True:=⟨⟩
theorem tw1110146879411485701:True:=⟨⟩
theorem tw17948583359584630256:True:=⟨⟩
theorem tw4562246425831209436:True:=⟨⟩
theorem tw13824925203631371625:True:=⟨⟩
theorem tw15896308787328053318:True:=⟨⟩
theorem tw18225916082806035588:True:=⟨⟩
theorem tw5002022611130138780:True:=⟨⟩
theorem tw12977732003805157147:True:=⟨⟩
theorem tw7231388913169483838:True:=⟨⟩
theorem tw2044860406961970139:True:=⟨⟩
theorem tw12824586965679875889:True:=⟨⟩
theorem tw17582722277261711236:True:=⟨⟩
theorem tw10910234404157720414:True:=⟨⟩
theorem tw3311250858863984284:True:=⟨⟩
theorem tw4958997566865356095:True:=⟨⟩
theorem tw3459957824945898623:True:=⟨⟩
theorem tw3990219133385394570:True:=⟨⟩
theorem tw7314755733319814014:True:=⟨⟩
theorem tw6656931136865703965:True:=⟨⟩
theorem tw14675448605184096025:True:=⟨⟩
theorem tw6444822753799117218:True:=⟨⟩
theorem tw17800245676894028536:True:=⟨⟩
theorem tw8372178803565211062:True:=⟨⟩
theorem tw1879871902622817241:True:=⟨⟩
theorem tw1776352625168391198:True:=⟨⟩
theorem tw4911838363205081473:True:=⟨⟩
theorem tw4431846087149289476:True:=⟨⟩
theorem tw3208389053434223308:True:=⟨⟩
theorem tw18226690217833351450:True:=⟨⟩
theorem tw18388478737532375715:True:=⟨⟩
theorem tw2910160215313492994:True:=⟨⟩
theorem tw18302641360487497080:True:=⟨⟩
theorem tw664885777670670059:True:=⟨⟩
theorem tw261523068134903799:True:=⟨⟩
theorem tw13240663463737906476:True:=⟨⟩
theorem tw15949035162700816858:True:=⟨⟩
theorem tw13137280726023270807:True:=⟨⟩
theorem tw17834446494014040736:True:=⟨⟩
theorem tw11360071623245696522:True:=⟨⟩
theorem tw14209697788509288603:True:=⟨⟩
theorem tw3871510624904189172:True:=⟨⟩
theorem tw4240527607188787022:True:=⟨⟩
theorem tw12007506154306574152:True:=⟨⟩
theorem tw17437809511445494238:True:=⟨⟩
theorem tw5285203314681802612:True:=⟨⟩
theorem tw3589657371938993593:True:=⟨⟩
theorem tw9142159167862322284:True:=⟨⟩
theorem tw5591362628711702587:True:=⟨⟩
theorem tw2567723768350936522:True:=⟨⟩
theorem tw15036089030587009336:True:=⟨⟩
theorem tw17293017074405092040:True:=⟨⟩
theorem tw12015439535633186176:True:=⟨⟩
theorem tw12858411239768588280:True:=⟨⟩
theorem tw10666606156490063575:True:=⟨⟩
theorem tw13659093323901150238:True:=⟨⟩
theorem tw17403668803684461079:True:=⟨⟩
theorem tw329396186736931230:True:=⟨⟩
theorem tw14360639937840172629:True:=⟨⟩
theorem tw16297762876574708539:True:=⟨⟩
theorem tw4319638847057567799:True:=⟨⟩
theorem tw15912109835838935131:True:=⟨⟩
theorem tw9755658968752279881:True:=⟨⟩
theorem tw5734747831473172224:True:=⟨⟩
theorem tw4244292840625186722:True:=⟨⟩
theorem tw13975615010212669816:True:=⟨⟩
theorem tw5775502812185436415:True:=⟨⟩
theorem tw14395982805153980897:True:=⟨⟩
theorem tw2057733410347713985:True:=⟨⟩
theorem tw10078087627847415225:True:=⟨⟩
theorem tw12329258321380465533:True:=⟨⟩
theorem tw17635733370482829527:True:=⟨⟩
theorem tw10635047438267202523:True:=⟨⟩
theorem tw5198227591113674820:True:=⟨⟩
theorem tw2008258370534134923:True:=⟨⟩
theorem tw14702334035165406603:True:=⟨⟩
theorem tw15102494599554641185:True:=⟨⟩
theorem tw5034996820739822077:True:=⟨⟩
theorem tw17811613668208673256:True:=⟨⟩
theorem tw8549860423104270872:True:=⟨⟩
theorem tw5692202233763287487:True:=⟨⟩
theorem tw4608465415846658325:True:=⟨⟩
theorem tw3082566036248107880:True:=⟨⟩
theorem tw2755234766790208467:True:=⟨⟩
theorem tw3401695268223658200:True:=⟨⟩
theorem tw4538424916029323387:True:=⟨⟩
theorem tw472947562701759333:True:=⟨⟩
theorem tw3849278885480288131:True:=⟨⟩
theorem tw10150365721951596207:True:=⟨⟩
theorem tw215531800949938029:True:=⟨⟩
theorem tw3573068833176490950:True:=⟨⟩
theorem tw4992054117263650983:True:=⟨⟩
theorem tw9272147210181611371:True:=⟨⟩
theorem tw4517979012845712741:True:=⟨⟩
theorem tw6170327228709312360:True:=⟨⟩
theorem tw10151406543597273236:True:=⟨⟩
theorem tw6703095284672383459:True:=⟨⟩
theorem tw17085138468291563419:True:=⟨⟩
theorem tw3258340662772979793:True:=⟨⟩
theorem tw16984273857214285715:True:=⟨⟩
theorem tw15536381672234874253:True:=⟨⟩
theorem tw15938640054613071147:True:=⟨⟩
theorem tw12278212070184526906:True:=⟨⟩
theorem tw1106576198374738577:True:=⟨⟩
theorem tw11185926717377882015:True:=⟨⟩
theorem tw9254438163199663306:True:=⟨⟩
theorem tw14772503699535839172:True:=⟨⟩
theorem tw14025570184695178971:True:=⟨⟩
theorem tw7420315910618596591:True:=⟨⟩
theorem tw5173520581373681103:True:=⟨⟩
theorem tw13085616495465621069:True:=⟨⟩
theorem tw3406286495660984954:True:=⟨⟩
theorem tw14162416274411694686:True:=⟨⟩
theorem tw2135260126300012359:True:=⟨⟩
theorem tw7937345574998192943:True:=⟨⟩
theorem tw144699193190740482:True:=⟨⟩
theorem tw343857248599441521:True:=⟨⟩
theorem tw9890849636809485126:True:=⟨⟩
theorem tw10440631437027113942:True:=⟨⟩
theorem tw15402752988768901151:True:=⟨⟩
theorem tw10243353834907924516:True:=⟨⟩
theorem tw14987132545441037916:True:=⟨⟩
theorem tw4751262359367698922:True:=⟨⟩
theorem tw10365331139654190133:True:=⟨⟩
theorem tw11939297320897662915:True:=⟨⟩
theorem tw7160623526224332383:True:=⟨⟩
theorem tw571384237387783967:True:=⟨⟩
theorem tw15802346936146967655:True:=⟨⟩
theorem tw3390115455317524054:True:=⟨⟩
theorem tw14013164667149611451:True:=⟨⟩
theorem tw17197077316197426080:True:=⟨⟩
theorem tw6583427575235507062:True:=⟨⟩
theorem tw7728217755107171672:True:=⟨⟩
theorem tw9679680144269540117:True:=⟨⟩
theorem tw249353111011976845:True:=⟨⟩
theorem tw10276973721442248970:True:=⟨⟩
theorem tw1935993247434581839:True:=⟨⟩
theorem tw11685672800667643537:True:=⟨⟩
theorem tw13055847858919794713:True:=⟨⟩
theorem tw16916680652191466814:True:=⟨⟩
theorem tw1759380572695407469:True:=⟨⟩
theorem tw13053544579891322258:True:=⟨⟩
theorem tw17433297474641544701:True:=⟨⟩
theorem tw473925748674642605:True:=⟨⟩
theorem tw15075625788694739490:True:=⟨⟩
theorem tw17041906524016341180:True:=⟨⟩
theorem tw14569091062196624487:True:=⟨⟩
theorem tw13424791764327317382:True:=⟨⟩
theorem tw11288813765729329165:True:=⟨⟩
theorem tw3480060354837619781:True:=⟨⟩
theorem tw4998132218028823271:True:=⟨⟩
theorem tw6875530510605689002:True:=⟨⟩
theorem tw1183728977162865887:True:=⟨⟩
theorem tw11673716146315599252:True:=⟨⟩
theorem tw17928359020093670756:True:=⟨⟩
theorem tw4200477703739768617:True:=⟨⟩
theorem tw14539793395098833156:True:=⟨⟩
theorem tw1357514021957683606:True:=⟨⟩
theorem tw9609038972384208484:True:=⟨⟩
theorem tw3533786417865773907:True:=⟨⟩
theorem tw16353295154969956844:True:=⟨⟩
theorem tw11409162509205402635:True:=⟨⟩
theorem tw274450783692532866:True:=⟨⟩
theorem tw15854958727756909106:True:=⟨⟩
theorem tw13545632417498398379:True:=⟨⟩
theorem tw1883439794912354609:True:=⟨⟩
theorem tw16230346737857706525:True:=⟨⟩
theorem tw15944200458206248385:True:=⟨⟩
end PySem.W.Fast
section
set_option Elab.async false
namespace L2
open PySem PySem.Spec PyProof.Rows
noncomputable abbrev Key:=Sum Int Str
noncomputable def VL:Key->Value->Bool
 |.inl k,v=>zdr k v
 |.inr x,v=>Value.isStrOf x v
noncomputable def z5g (w:z6w):Key->Int
 |.inl k=>hashInt k
 |.inr x=>hashStr w x
theorem zT:∀{k:Key} {v:Value},VL k v=true->(∃i t,k=zaK i/\v=zbK i t)\/(∃x t,k=zaL x/\v=zd9 x t)
 |.inl i,v,h=>by
  obtain⟨t,e⟩:=Value.isInt_shape (k:=i) (v:=v) h
  exact .inl ⟨i,t,rfl,e⟩
 |.inr x,v,h=>by
  obtain⟨t,e⟩:=Value.isStrOf_shape (x:=x) (v:=v) h
  exact .inr ⟨x,t,rfl,e⟩
theorem JL(i:Int)(t:Tok):VL (.inl i) (.int i t)=true:=by simp[VL,zdr]
theorem z1x(a b:Int):decide ((zaK a:Key)=zaK b)=(a == b):=by
 by_cases e:a=b
 ·subst e;simp
 ·have h:¬(zaK a:Key)=zaK b:=λq=>e (zds q)
  rw[decide_eq_false h]
  exact (beq_eq_false_iff_ne.mpr e).symm
theorem z1f(a b:Str):decide ((zaL a:Key)=zaL b)=decide (a=b):=by
 by_cases e:a=b
 ·subst e;simp
 ·have h:¬(zaL a:Key)=zaL b:=λq=>e (Sum.inr.inj q)
  rw[decide_eq_false h,decide_eq_false e]
theorem z21(a:Int)(b:Str):decide ((zaK a:Key)=zaL b)=false:=decide_eq_false (λq=>nomatch q)
theorem z2p(a:Str)(b:Int):decide ((zaL a:Key)=zaK b)=false:=decide_eq_false (λq=>nomatch q)
noncomputable def wz(prog:z6f)(w:z6w):PySem.KeyKind prog w Key where
 is:=VL
 hash:=z5g w
 inj:=λv a b ha hb=>by
  rcases zT ha with⟨i,t,rfl,rfl⟩|⟨x,t,rfl,rfl⟩
  ·rcases zT hb with⟨j,u,rfl,e⟩|⟨y,u,rfl,e⟩
   ·injection e with e1 _;rw[e1]
   ·exact nomatch e
  ·rcases zT hb with⟨j,u,rfl,e⟩|⟨y,u,rfl,e⟩
   ·exact nomatch e
   ·injection e with e1 _;rw[e1]
 byValue:=λk v h=>by
  rcases zT h with⟨i,t,rfl,rfl⟩|⟨x,t,rfl,rfl⟩<;>rfl
 pyHash:=λhv h=>by
  rcases zT hv with⟨i,t,rfl,rfl⟩|⟨x,t,rfl,rfl⟩
  ·exact wpAny_pyHash_int h
  ·exact wpAny_pyHash_str h
 eqBool:=λhu hv h=>by
  rcases zT hu with⟨i,t,rfl,rfl⟩|⟨x,t,rfl,rfl⟩
  ·rcases zT hv with⟨j,u,rfl,rfl⟩|⟨y,u,rfl,rfl⟩
   ·rw[z1x] at h;exact wpAny_eqBool_int h
   ·rw[z21] at h;exact zaZ i t y u _ _ _ _ h
  ·rcases zT hv with⟨j,u,rfl,rfl⟩|⟨y,u,rfl,rfl⟩
   ·rw[z2p] at h;exact za_ x t j u _ _ _ _ h
   ·rw[z1f] at h;exact wpAny_eqBool_str h
 «strs»:=λk x t v h=>by
  rcases zT h with⟨i,u,rfl,e⟩|⟨y,u,rfl,e⟩
  ·exact nomatch e
  ·injection e with e1 _
   subst e1
   cases v<;>rfl
theorem Qa(prog:z6f)(w:z6w)(i:Int)(t:Tok):(wz prog w).is (.inl i) (.int i t)=true:=JL i t
end L2
namespace L2
open PySem PySem.Spec PyProof.Rows
inductive V where
 |non|bl (b:Bool)|int (i:Int)|str (x:Str)|byt (b:Array UInt8)|flt (b:UInt64)|ref (a:Addr)|ty (n:String)
 deriving DecidableEq
noncomputable def RelV:V->Value->Prop
 |.non,u=>u=z6E
 |.bl b,u=>u=za7 b
 |.int i,u=>∃t,u=zbK i t
 |.str x,u=>∃t,u=zd9 x t
 |.byt b,u=>∃t,u=zdt b t
 |.flt b,u=>∃t,u=zdu b t
 |.ref a,u=>u=z61 a
 |.ty n,u=>u=za8 n
abbrev Vals:List V->List Value->Prop:=zb0 RelV
theorem Vals.length{xs:List V}{us:List Value}(r:Vals xs us):xs.length=us.length:=zcT r
theorem Vals.get:∀{xs:List V} {us:List Value} {i:Nat} {x:V},Vals xs us->xs[i]?=some x->∃u,us[i]?=some u/\RelV x u
 |_,_,_,_,.nil,e=>by simp at e
 |_,_,0,_,.cons r _,e=>by simp at e;subst e;exact⟨_,rfl,r⟩
 |_,_,i+1,x,.cons _ t,e=>by
  obtain⟨u,h1,h2⟩:=Vals.get (i:=i) (x:=x) t (by simpa using e)
  exact⟨u,by simpa using h1,h2⟩
theorem Vals.set{x:V}{u:Value}(r:RelV x u):∀{xs:List V} {us:List Value} (i:Nat),Vals xs us->Vals (xs.set i x) (us.set i u)
 |_,_,_,.nil=>.nil
 |_,_,0,.cons _ t=>.cons r t
 |_,_,i+1,.cons q t=>.cons q (Vals.set r i t)
theorem Vals.append:∀{xs ys:List V} {us ws:List Value},Vals xs us->Vals ys ws->Vals (xs++ys) (us++ws)
 |_,_,_,_,.nil,s=>s
 |_,_,_,_,.cons r t,s=>.cons r (Vals.append t s)
theorem Vals.take:∀{xs:List V} {us:List Value} (n:Nat),Vals xs us->Vals (xs.take n) (us.take n)
 |_,_,0,_=>.nil
 |_,_,_+1,.nil=>.nil
 |_,_,n+1,.cons r t=>.cons r (Vals.take n t)
theorem Vals.drop:∀{xs:List V} {us:List Value} (n:Nat),Vals xs us->Vals (xs.drop n) (us.drop n)
 |_,_,0,r=>r
 |_,_,_+1,.nil=>.nil
 |_,_,n+1,.cons _ t=>Vals.drop n t
noncomputable def RelO:Option V->Option Value->Prop
 |some v,some u=>RelV v u
 |none,none=>True
 |_,_=>False
noncomputable def KV {κ:Type}:List (κ×V)->List (κ×Value)->Prop:=zb0 λ(p:κ×V) (q:κ×Value)=>p.1=q.1/\RelV p.2 q.2
noncomputable def kV:Key->V
 |.inl i=>.int i
 |.inr x=>.str x
inductive HO where
 |lst (xs:List V)
 |tup (xs:List V)
 |dK (kvs:List (Key×V))|dT (kvs:List (List Key×V))
 |set (S:Int->Bool) (n:Nat)
 |ins (C dx:Addr) (fs:List (Str×V))
 |own (x:Addr)
 |xd (fs:List (Str×V))
 |met (f x:Addr)
 |rng (lo hi:Int)
 |frz (o:Obj) (u:HO)
 |tbl (ps:Array Value)
 |ext (φ:Heap->Prop)
noncomputable abbrev Hp:=Addr->Option HO
noncomputable def upd (H:Hp)(a:Addr)(o:HO):Hp:=λb=>if b=a then some o else H b
theorem zd{H:Hp}{a:Addr}{o:HO}:upd H a o a=some o:=by unfold upd;rw[if_pos rfl]
theorem za{H:Hp}{a b:Addr}{o:HO}(h:b≠a):upd H a o b=H b:=by unfold upd;rw[if_neg h]
theorem Zp{H:Hp}{a:Addr}{o u:HO}:upd (upd H a o) a u=upd H a u:=by
 funext b;unfold upd;split<;>rfl
theorem zS{H:Hp}{a b:Addr}{o:HO}(h:H a=some o)(h':H b=none):a≠b:=by
 intro e;subst e;rw[h] at h';cases h'
section
variable (P:Program)(w:World)
noncomputable def ObjOk(H:Hp)(h:Heap)(a:Addr):HO->Prop
 |.lst xs=>xs.length<=sizeLine/\∃(its:List Value) (n:Nat),Vals xs its/\h.get? a=some {cls:=.type "list",data:=.seq its.toArray n}
 |.tup xs=>xs.length<=sizeLine/\∃its:List Value,Vals xs its/\zch h a its.toArray
 |.dK kvs=>kvs.length<=sizeLine/\(a == z8n)=false/\∃vs,KV kvs vs/\h.DictOf (wz P w) a vs
 |.dT kvs=>kvs.length<=sizeLine/\(a == z8n)=false/\∃xs:List (List Key×Addr×Value),
   zb0 (λ(p:List Key×V) (q:List Key×Addr×Value)=>p.1=q.1/\H q.2.1=some (.tup (p.1.map kV))/\RelV p.2 q.2.2) kvs xs/\
   ∃o es ep,h.get? a=some o/\o.ExactDict/\o.data=.dict es ep/\es.toList=xs.map (entryOfKey (tupleKind (wz P w)))/\(xs.map (·.1)).Nodup
 |.set S n=>h.SetOf (intKind P w) a S n
 |.ins C dx fs=>H dx=some (.own a)/\fs.length<=1000/\dx≠a/\h.get? a=some (z71 C dx)/\
   ∃mA,h.Ns1 dx mA/\(∀f,RelO (fs.lookup f) (mA f))/\zbd mA (fs.map (·.1))
 |.own _=>∃o,h.get? a=some o
 |.xd fs=>∃mA,h.Ns1 a mA/\∀f,RelO (fs.lookup f) (mA f)
 |.rng lo hi=>∃t u v,h.get? a=some {cls:=.type "range",data:=.fields #[.int lo t,.int hi u,.int 1 v]}
 |.frz o u=>h.get? a=some o/\ObjOk H h a u
 |.tbl ps=>h.get? a=some {cls:=.none,data:=.fields ps}
 |.met f x=>h.get? a=some (z9A (.ref f) (.ref x))
 |.ext φ=>φ h/\(∃o,h.get? a=some o)/\∀h1 h2:Heap,φ h1->(∀o,h1.get? a=some o->h2.get? a=some o)->φ h2
noncomputable def HOk (H:Hp)(h:Heap):Prop:=∀a o,H a=some o->ObjOk P w H h a o
end
section
variable {P:Program}{w:World}{H H':Hp}{h h':Heap}{a:Addr}{o:HO}
theorem ObjOk.lt(x:ObjOk P w H h a o):a<h.objs.size:=by
 cases o with
 |lst xs=>obtain⟨_,_,_,_,e⟩:=x;exact z5O e
 |tup xs=>obtain⟨_,_,_,p⟩:=x;exact p.lt
 |dK kvs=>obtain⟨_,_,_,_,o,_,_,e,_⟩:=x;exact z5O e
 |dT kvs=>obtain⟨_,_,_,_,o,_,_,e,_⟩:=x;exact z5O e
 |set S n=>obtain⟨o,_,_,_,e,_⟩:=x;exact z5O e
 |ins C dx fs=>obtain⟨_,_,_,e,_⟩:=x;exact z5O e
 |own y=>obtain⟨_,e⟩:=x;exact z5O e
 |xd fs=>obtain⟨_,⟨_,_,_,e,_⟩,_⟩:=x;exact z5O e
 |rng lo hi=>obtain⟨_,_,_,e⟩:=x;exact z5O e
 |frz ob u=>obtain⟨e,_⟩:=x;exact z5O e
 |tbl ps=>exact z5O (show h.get? a=some _ from x)
 |met f y=>exact z5O (show h.get? a=some _ from x)
 |ext φ=>obtain⟨_,⟨_,e⟩,_⟩:=x;exact z5O e
theorem zb0.mapP{α β:Type}{F G:α->β->Prop}:∀{l₁:List α} {l₂:List β},zb0 F l₁ l₂->(∀a b,F a b->G a b)->zb0 G l₁ l₂
 |_,_,.nil,_=>.nil
 |_,_,.cons r t,f=>.cons (f _ _ r) (zb0.mapP t f)
theorem ObjOk.stay(x:ObjOk P w H h a o)(k:∀b u,(b=a\/H b=some (.own a))->h.get? b=some u->h'.get? b=some u)
  (ho:∀b,H b=some (.own a)->H' b=some (.own a)) (ht:∀b xs,H b=some (.tup xs)->H' b=some (.tup xs)):ObjOk P w H' h' a o:=by
 induction o with
 |lst xs=>obtain⟨z,its,n,r,e⟩:=x;exact⟨z,its,n,r,k _ _ (.inl rfl) e⟩
 |tup xs=>obtain⟨z,its,r,ob,e,c⟩:=x;exact⟨z,its,r,ob,k _ _ (.inl rfl) e,c⟩
 |dK kvs=>obtain⟨z,y,vs,r,ob,es,ep,e,c⟩:=x;exact⟨z,y,vs,r,ob,es,ep,k _ _ (.inl rfl) e,c⟩
 |dT kvs=>
  obtain⟨z,y,xs,r,ob,es,ep,e,c⟩:=x
  exact⟨z,y,xs,zb0.mapP r λp q z=>⟨z.1,ht _ _ z.2.1,z.2.2⟩,ob,es,ep,k _ _ (.inl rfl) e,c⟩
 |set S n=>obtain⟨ob,es,ep,t,e,c⟩:=x;exact⟨ob,es,ep,t,k _ _ (.inl rfl) e,c⟩
 |ins C dx fs=>
  obtain⟨d,z,ne,e,mA,⟨od,es,ep,e2,c⟩,r⟩:=x
  exact⟨ho _ d,z,ne,k _ _ (.inl rfl) e,mA,⟨od,es,ep,k _ _ (.inr d) e2,c⟩,r⟩
 |own y=>obtain⟨ob,e⟩:=x;exact⟨ob,k _ _ (.inl rfl) e⟩
 |xd fs=>obtain⟨mA,⟨od,es,ep,e,c⟩,r⟩:=x;exact⟨mA,⟨od,es,ep,k _ _ (.inl rfl) e,c⟩,r⟩
 |rng lo hi=>obtain⟨t,u,v,e⟩:=x;exact⟨t,u,v,k _ _ (.inl rfl) e⟩
 |frz ob u ih=>obtain⟨e,q⟩:=x;exact⟨k _ _ (.inl rfl) e,ih q⟩
 |tbl ps=>
  have e:h.get? a=some {cls:=.none,data:=.fields ps}:=x
  show h'.get? a=some {cls:=.none,data:=.fields ps}
  exact k a _ (.inl rfl) e
 |met f y=>
  have e:h.get? a=some (z9A (.ref f) (.ref y)):=x
  show h'.get? a=some (z9A (.ref f) (.ref y))
  exact k a _ (.inl rfl) e
 |ext φ=>obtain⟨p,⟨o,e⟩,st⟩:=x;exact⟨st _ _ p λo q=>k _ _ (.inl rfl) q,⟨o,k _ _ (.inl rfl) e⟩,st⟩
theorem HOk.lt(x:HOk P w H h)(e:H a=some o):a<h.objs.size:=(x a o e).lt
theorem HOk.fresh(x:HOk P w H h)(e:h.objs.size<=a):H a=none:=by
 cases q:H a with
 |none=>rfl
 |some u=>exact absurd (z5S (x.lt q) e) (z7b _)
theorem HOk.kept(x:HOk P w H h)(k:∀b u,h.get? b=some u->h'.get? b=some u):HOk P w H h':=λa o e=>
 (x a o e).stay (λb u _ q=>k b u q) (λ_ q=>q) λ_ _ q=>q
theorem HOk.laid(x:HOk P w H h)(k:∀b u,h.get? b=some u->h'.get? b=some u)(hp:h.objs.size<=a)(new:ObjOk P w (upd H a o) h' a o):HOk P w (upd H a o) h':=λb u e=>by
 have hn:=x.fresh hp
 by_cases hb:b=a
 ·subst hb;rw[zd] at e;cases e;exact new
 ·rw[za hb] at e
  exact (x b u e).stay (λc v _ q=>k c v q) (λc q=>by rw[za (zS q hn)];exact q) λc xs q=>by rw[za (zS q hn)];exact q
end
noncomputable def Rd (H:Hp)(a:Addr)(u:HO):Prop:=H a=some u\/∃o,H a=some (.frz o u)
theorem Rd.ok{P:z6f}{w:z6w}{H:Hp}{h:Heap}{a:Addr}{u:HO}(r:Rd H a u)(x:HOk P w H h):ObjOk P w H h a u:=by
 rcases r with r|⟨o,r⟩
 ·exact x a u r
 ·obtain⟨_,q⟩:=x a _ r
  exact q
noncomputable def Mut:Option HO->Prop
 |some (.lst _)=>True
 |some (.dK _)=>True
 |some (.dT _)=>True
 |some (.set _ _)=>True
 |some (.ins _ _ _)=>True
 |some (.ext _)=>True
 |_=>False
section
variable {P:Program}{w:World}{H:Hp}{h h':Heap}{x e:Addr}{o':HO}
theorem HOk.write(ok:HOk P w H h)(mu:Mut (H x))(he:e=x\/H e=some (.own x))(k:∀b u,b≠e->h.get? b=some u->h'.get? b=some u)(heo:∃u,h'.get? e=some u)
  (new:ObjOk P w (upd H x o') h' x o'):HOk P w (upd H x o') h':=λb u q=>by
 have nown:∀c y,H c=some (.own y)->c≠x:=λc y r z=>by subst z;rw[r] at mu;exact mu
 have ntup:∀c xs,H c=some (.tup xs)->c≠x:=λc xs r z=>by subst z;rw[r] at mu;exact mu
 by_cases hb:b=x
 ·subst hb;rw[zd] at q;cases q;exact new
 ·rw[za hb] at q
  by_cases hbe:b=e
  ·have q':H b=some (.own x):=by
    rcases he with z|z
    ·exact absurd (hbe.trans z) hb
    ·rw[hbe];exact z
   rw[q] at q';cases q'
   obtain⟨v,hv⟩:=heo
   exact⟨v,by rw[hbe];exact hv⟩
  ·refine (ok b u q).stay (λc v hc r=>k c v ?_ r) (λc r=>by rw[za (nown c b r)];exact r) λc xs r=>by rw[za (ntup c xs r)];exact r
   rcases hc with rfl|hc
   ·exact hbe
   ·rintro rfl
    rcases he with z|z
    ·exact nown c b hc z
    ·rw[hc] at z;cases z;exact hb rfl
end
structure Un(fs ex:List Addr)(H H':Hp)(h h':Heap):Prop where
 keep:∀b o,h.get? b=some o->H b=none->b∉fs->b∉ex->h'.get? b=some o
 slot:∀b o,h.get? b=some o->H b=none->b∈fs->b∉ex->∃sl,h'.get? b=some {o with slots:=sl}
 free:∀b o,h.get? b=some o->H b=none->b∉ex->H' b=none
 there:∀b o,h.get? b=some o->b∉ex->∃o',h'.get? b=some o'
 tups:∀b xs,H b=some (.tup xs)->H' b=some (.tup xs)
 frzs:∀b o u,H b=some (.frz o u)->H' b=some (.frz o u)
 tbls:∀b ps,H b=some (.tbl ps)->∃more,H' b=some (.tbl (ps++more))
section
variable {fs fs' ex ex':List Addr}{H H1 H2:Hp}{h h1 h2 h':Heap}{a x e:Addr}{o:HO}
theorem Un.any(u:Un fs ex H H1 h h1){b:Addr}{ob:Obj}(q:h.get? b=some ob)(n:H b=none)(hx:b∉ex):∃sl,h1.get? b=some {ob with slots:=sl}:=by
 by_cases hb:b∈fs
 ·exact u.slot b ob q n hb hx
 ·exact⟨ob.slots,u.keep b ob q n hb hx⟩
theorem Un.kept(k:∀b u,h.get? b=some u->h'.get? b=some u):Un fs ex H H h h':=
 ⟨λb ob q _ _ _=>k b ob q,λb ob q _ _ _=>⟨ob.slots,k b ob q⟩,λ_ _ _ n _=>n,λb ob q _=>⟨ob,k b ob q⟩,λ_ _ q=>q,λ_ _ _ q=>q,λ_ ps q=>⟨#[],by rw[q];simp⟩⟩
theorem Un.refl:Un fs ex H H h h:=Un.kept λ_ _ q=>q
theorem Un.laid(k:∀b u,h.get? b=some u->h'.get? b=some u)(hp:h.objs.size<=a)(hn:H a=none):Un fs ex H (upd H a o) h h' where
 keep:=λb u q _ _ _=>k b u q
 slot:=λb u q _ _ _=>⟨u.slots,k b u q⟩
 free:=λb u q n _=>by rw[za (z5Z (z5S (z5O q) hp))];exact n
 there:=λb u q _=>⟨u,k b u q⟩
 tups:=λb xs q=>by rw[za (zS q hn)];exact q
 frzs:=λb u xs q=>by rw[za (zS q hn)];exact q
 tbls:=λb ps q=>⟨#[],by rw[za (zS q hn),q];simp⟩
theorem Un.write(mu:Mut (H x))(he:e=x\/H e=some (.own x))(k:∀b u,b≠e->h.get? b=some u->h'.get? b=some u)(heo:∃u,h'.get? e=some u):Un fs ex H (upd H x o) h h':=by
 have hx:∀b,H b=none->b≠x:=λb n z=>by subst z;rw[n] at mu;exact mu
 have hb:∀b,H b=none->b≠e:=λb n z=>by
  subst z
  rcases he with r|r
  ·exact hx b n r
  ·rw[n] at r;cases r
 have hm:∀b u,H b=some u->¬Mut (some u)->b≠x:=λb u q nm z=>by subst z;rw[q] at mu;exact nm mu
 refine⟨λb u q n _ _=>k b u (hb b n) q,λb u q n _ _=>⟨u.slots,k b u (hb b n) q⟩,λb u q n _=>by rw[za (hx b n)];exact n,λb u q _=>?_,
  λb xs q=>by rw[za (hm b _ q λz=>z)];exact q,λb u xs q=>by rw[za (hm b _ q λz=>z)];exact q,λb ps q=>⟨#[],by rw[za (hm b _ q λz=>z),q];simp⟩⟩
 by_cases hbe:b=e
 ·subst hbe;exact heo
 ·exact⟨u,k b u hbe q⟩
end
noncomputable def trk (h:Heap)(H:Hp):List Addr:=(z6R h.objs.size).filter λa=>(H a).isSome
noncomputable def ub (h:Heap)(H:Hp):Heap:=PySem.W.hideAll h (trk h H)
theorem Jr(h:Heap)(H:Hp):(ub h H).objs.size=h.objs.size:=PySem.W.hideAll_size _ _
theorem KJ{h:Heap}{H:Hp}{b:Addr}{o:Obj}(e:h.get? b=some o)(n:H b=none):(ub h H).get? b=some o:=
 PySem.W.hideAll_get _ e λhm=>by
  have q:(H b).isSome=true:=(z6m.mp hm).2
  rw[n] at q;simp at q
theorem U8{h:Heap}{H:Hp}{b:Addr}{o:Obj}(e:(ub h H).get? b=some o):h.get? b=some o/\H b=none:=by
 have e':h.get? b=some o:=PySem.W.of_hideAll (trk h H) e
 refine⟨e',?_⟩
 cases q:H b with
 |none=>rfl
 |some x=>
  have hm:b∈trk h H:=z6m.mpr ⟨z9f.mpr (z5O e'),by simp[q]⟩
  have z:(ub h H).get? b=none:=PySem.W.hideAll_none (trk h H) hm
  rw[z] at e;cases e
noncomputable def Ud(g h:Heap)(L:Addr):List (Addr×Obj):=(z6R h.objs.size).filterMap λa=>if a=L\/(g.get? a).isSome=true then none else (h.get? a).map λo=>(a,o)
noncomputable def rest (g h:Heap)(L d:Addr):List (Addr×Obj):=(Ud g h L).filter λp=>decide (p.1≠d)
end L2
namespace L2
open PySem PySem.Spec PyProof.Rows
structure Mod(K:PySem.W.Frag)(mg:Str->Option Value)(base:Heap):Prop where
 kin:K.In base
 glob:base.Ns z5V mg
 blt:∃mb,base.Ns z8o mb/\∀x:Str,x≠"__name__"->mb x=z6U x
 nolimit:base.NoLimit
structure Cx where
 prog:z6f
 w:z6w
 K:z5G
 mg:Str->Option Value
 base:Heap
 A:z6e
 N:List Str
 s₀:z5D
 H₀:Hp
 env:Env
 outer:List Env
 stack:List Env
 ex:List Addr
 fn:Str->Bool
 calm:Bool
 pn:List (Addr×Obj)
 xe:Value->z5D->Prop
noncomputable def frs(l:List Env):List Addr:=l.filterMap (·.frame)
noncomputable abbrev Cx.fs(X:Cx):List Addr:=frs X.outer
noncomputable def Vis(sc:Scope)(x:Str):Prop:=sc.names.lookup x=some .local\/sc.names.lookup x=some .cell\/sc.names.lookup x=some .free
noncomputable def Loc(sc:Scope)(x:Str):Prop:=sc.names.lookup x=some .local\/sc.names.lookup x=some .cell
noncomputable def Look(env:Env)(h:Heap)(m:Str->Option Value)(x:Str)(u:Value):Prop:=
 (env.kindOf x=some .local/\m x=some u)\/((env.kindOf x=some .cell\/env.kindOf x=some .free)/\∃c,env.cells.lookup x=some c/\h.IsCell c (some u))
structure Cx.Ok(X:Cx):Prop where
 mod:Mod X.K X.mg X.base
 kind:X.env.scope.kind=.function
 glob:X.env.globals=z5V
 blt:X.env.builtins=z8o
 above:X.s₀.heap.objs.size<=X.env.locals
 inj:∀x y c,X.env.cells.lookup x=some c->X.env.cells.lookup y=some c->x=y
 has:∀x,(X.env.kindOf x=some .cell\/X.env.kindOf x=some .free)->∃c,X.env.cells.lookup x=some c
 cab:∀x c,X.fn x=true->X.env.cells.lookup x=some c->X.s₀.heap.objs.size<=c
 hd:X.calm=true->X.A.handled=none
 frames:X.A.frames=some X.stack
 stk:X.stack=X.outer\/(X.stack=X.env::X.outer/\X.env.frame=some X.env.locals)
 exf:∀b∈X.ex,b≠X.env.locals/\∀x c,X.env.cells.lookup x=some c->c≠b
 bs:∀b o,X.base.get? b=some o->X.s₀.heap.get? b=some o/\X.H₀ b=none
 bsz:X.base.objs.size<=X.s₀.heap.objs.size
 noex:∀b o,X.base.get? b=some o->b∉X.ex
 exfs:∀b∈X.ex,b∉X.fs
 funs:X.s₀.heap.FunFrames X.base X.outer
 frf:∀b∈X.fs,X.H₀ b=none
structure Inv(X:Cx)(pins:List (Addr×Obj))(σ:List (Option V))(H:Hp)(s:Shared):Prop where
 ok:X.Ok
 os:s.os=X.s₀.os
 bare:z9B s.gens
 base:Un X.fs X.ex X.H₀ H X.s₀.heap s.heap
 loc:∃m,s.heap.Ns X.env.locals m/\∀(i:Nat) (x:Str) (v:V),X.N[i]?=some x->σ[i]?=some (some v)->Vis X.env.scope x->∃u,RelV v u/\Look X.env s.heap m x u
 cell:∀x c,X.env.cells.lookup x=some c->∃v,s.heap.IsCell c v
 free:H X.env.locals=none
 freeC:∀x c,X.env.cells.lookup x=some c->H c=none\/(X.fn x=false/\∃o u,H c=some (.frz o u))
 pin:∀p∈X.pn++pins,s.heap.get? p.1=some p.2/\H p.1=none/\p.1≠X.env.locals/\p.1∉X.fs/\∀v,p.2.data≠.cell v
 hok:HOk X.prog X.w H s.heap
 len:σ.length=X.N.length
section
variable {X:Cx}{pins:List (Addr×Obj)}{σ:List (Option V)}{H H':Hp}{s:Shared}{h':Heap}
theorem Cx.Ok.nofr(ok:X.Ok){b:Addr}{o:Obj}(e:X.base.get? b=some o):b∉X.fs:=λhb=>by
 have:=(ok.funs.mem hb).1
 rw[e] at this;cases this
theorem Inv.bs(I:Inv X pins σ H s):∀b o,X.base.get? b=some o->s.heap.get? b=some o/\H b=none:=λb o e=>
 ⟨I.base.keep b o (I.ok.bs b o e).1 (I.ok.bs b o e).2 (I.ok.nofr e) (I.ok.noex b o e),I.base.free b o (I.ok.bs b o e).1 (I.ok.bs b o e).2 (I.ok.noex b o e)⟩
theorem Inv.bk(I:Inv X pins σ H s):∀b o,X.base.get? b=some o->s.heap.get? b=some o:=λb o e=>(I.bs b o e).1
theorem Inv.mod(I:Inv X pins σ H s):Mod X.K X.mg X.base:=I.ok.mod
theorem Inv.kIn(I:Inv X pins σ H s):X.K.In s.heap:=I.ok.mod.kin.keeps I.bk
theorem Inv.lt(I:Inv X pins σ H s):X.env.locals<s.heap.objs.size:=let ⟨_,hn,_⟩:=I.loc;hn.lt
theorem Inv.sz(I:Inv X pins σ H s):X.s₀.heap.objs.size<=s.heap.objs.size:=z62 I.ok.above (z97 I.lt)
theorem Inv.nofs(I:Inv X pins σ H s){a:Addr}(h:s.heap.objs.size<=a):a∉X.fs:=λhb=>by
 obtain⟨_,o,ho,_⟩:=I.ok.funs.mem hb
 exact absurd (z5S (z5O ho) (z62 I.sz h)) (z7b _)
theorem Inv.cne(I:Inv X pins σ H s):∀x c,X.env.cells.lookup x=some c->c≠X.env.locals:=λx c e z=>by
 obtain⟨v,o,ho,hd⟩:=I.cell x c e
 obtain⟨m,⟨o',es,ep,ho',hd',_⟩,_⟩:=I.loc
 rw[z,ho'] at ho;cases ho;rw[hd'] at hd;cases hd
theorem Inv.funs(I:Inv X pins σ H s):s.heap.FunFrames X.base X.outer:=by
 have all:∀(l:List Env),(∀b∈frs l,b∈X.fs)->X.s₀.heap.FunFrames X.base l->s.heap.FunFrames X.base l:=by
  intro l
  induction l with
  |nil=>intro _ _;trivial
  |cons env r ih=>
   intro hs hl
   obtain⟨hk,⟨L,o,hf,hn,ho,hd⟩,hr⟩:=hl
   have hL:L∈X.fs:=hs L (by unfold frs;rw[z90,hf];exact z5_)
   obtain⟨sl,e⟩:=I.base.slot L o ho (I.ok.frf L hL) hL λz=>I.ok.exfs L z hL
   exact⟨hk,⟨L,_,hf,hn,e,hd⟩,ih (λb hb=>hs b (by unfold frs;rw[z90,hf];exact z5M _ hb)) hr⟩
 exact all X.outer (λ_ hb=>hb) I.ok.funs
theorem Inv.stack(I:Inv X pins σ H s):s.heap.FunFrames X.base X.stack:=by
 rcases I.ok.stk with e|⟨e,hf⟩
 ·rw[e];exact I.funs
 ·rw[e]
  obtain⟨m,hn,_⟩:=I.loc
  refine .cons (by rw[I.ok.kind];decide) hf hn ?_ I.funs
  exact z6d (z62 I.ok.bsz I.ok.above)
theorem Inv.stkSub(I:Inv X pins σ H s):∀b∈frs X.stack,b∈X.env.locals::X.fs:=λb hb=>by
 rcases I.ok.stk with e|⟨e,hf⟩
 ·rw[e] at hb;exact z5M _ hb
 ·rw[e] at hb
  unfold frs at hb
  rw[z90,hf] at hb
  exact hb
theorem Inv.stkFree(I:Inv X pins σ H s):∀b∈frs X.stack,H b=none:=λb hb=>by
 rcases z65.mp (I.stkSub b hb) with e|hb
 ·rw[e];exact I.free
 ·obtain⟨_,o,ho,_⟩:=I.ok.funs.mem hb
  exact I.base.free b o ho (I.ok.frf b hb) λz=>I.ok.exfs b z hb
theorem Inv.step{g':Array GenState}{t':Nat}{d':Drawn}{ch:List Addr}(I:Inv X pins σ H s)
  (hch:∀b∈ch,(b∈X.ex\/X.s₀.heap.objs.size<=b)/\b≠X.env.locals/\(∀x c,X.env.cells.lookup x=some c->c≠b)/\∀p∈X.pn++pins,p.1≠b)
  (keep:∀b o,b≠X.env.locals->b∉X.fs->b∉ch->s.heap.get? b=some o->H b=none->h'.get? b=some o)
  (slot:∀b o,b≠X.env.locals->b∈X.fs->b∉ch->s.heap.get? b=some o->H b=none->∃sl,h'.get? b=some {o with slots:=sl}) (free:∀b o,b∉ch->s.heap.get? b=some o->H b=none->H' b=none)
  (there:∀b o,b∉ch->s.heap.get? b=some o->∃o',h'.get? b=some o')
  (tups:∀b xs,H b=some (.tup xs)->H' b=some (.tup xs)) (frzs:∀b o u,H b=some (.frz o u)->H' b=some (.frz o u)) (tbls:∀b ps,H b=some (.tbl ps)->∃more,H' b=some (.tbl (ps++more)))
  (ns:∀m,s.heap.Ns X.env.locals m->h'.Ns X.env.locals m) (hok:HOk X.prog X.w H' h') (hg:z9B g') :
  Inv X pins σ H' {s with heap:=h',gens:=g',drawn:=d',toks:=t'}:=by
 have neL:∀b o,X.s₀.heap.get? b=some o->b≠X.env.locals:=λb o e=>z5Z (z5S (z5O e) I.ok.above)
 have neC:∀b o,X.s₀.heap.get? b=some o->b∉X.ex->b∉ch:=λb o e hx hb=>by
  rcases (hch b hb).1 with z|z
  ·exact hx z
  ·exact absurd (z5S (z5O e) z) (z7b _)
 have cellK:∀x c,X.env.cells.lookup x=some c->∀v,s.heap.IsCell c v->h'.IsCell c v:=λx c e v ⟨o,ho,hd⟩=>by
  have nch:c∉ch:=λz=>(hch c z).2.2.1 x c e rfl
  rcases I.freeC x c e with f|⟨_,ob,u,f⟩
  ·by_cases hc:c∈X.fs
   ·obtain⟨sl,q⟩:=slot c o (I.cne x c e) hc nch ho f
    exact⟨_,q,hd⟩
   ·exact⟨o,keep c o (I.cne x c e) hc nch ho f,hd⟩
  ·have h1:=(I.hok c _ f).1
   rw[ho] at h1;cases h1
   exact⟨o,(hok c _ (frzs c _ u f)).1,hd⟩
 refine⟨I.ok,I.os,hg,⟨λb o e n hb hx=>?_,λb o e n hb hx=>?_,λb o e n hx=>?_,λb o e hx=>?_,λb xs e=>tups b xs (I.base.tups b xs e),λb o xs e=>frzs b o xs (I.base.frzs b o xs e),λb ps e=>?_⟩,?_,λx c e=>?_,?_,λx c e=>?_,λp hp=>?_,hok,I.len⟩
 ·exact keep b o (neL b o e) hb (neC b o e hx) (I.base.keep b o e n hb hx) (I.base.free b o e n hx)
 ·obtain⟨sl,e1⟩:=I.base.slot b o e n hb hx
  obtain⟨sl',e2⟩:=slot b _ (neL b o e) hb (neC b o e hx) e1 (I.base.free b o e n hx)
  exact⟨sl',e2⟩
 ·obtain⟨o',e1⟩:=I.base.there b o e hx
  exact free b o' (neC b o e hx) e1 (I.base.free b o e n hx)
 ·obtain⟨o',e1⟩:=I.base.there b o e hx
  exact there b o' (neC b o e hx) e1
 ·obtain⟨m1,e1⟩:=I.base.tbls b ps e
  obtain⟨m2,e2⟩:=tbls b _ e1
  exact⟨m1++m2,by rw[e2,Array.append_assoc]⟩
 ·obtain⟨m,hn,hl⟩:=I.loc
  refine⟨m,ns m hn,λi x v e1 e2 e3=>?_⟩
  obtain⟨u,r,l⟩:=hl i x v e1 e2 e3
  refine⟨u,r,?_⟩
  rcases l with l|⟨k,c,e,z⟩
  ·exact .inl l
  ·exact .inr ⟨k,c,e,cellK x c e _ z⟩
 ·obtain⟨v,z⟩:=I.cell x c e
  exact⟨v,cellK x c e v z⟩
 ·obtain⟨m,⟨o,_,_,ho,_⟩,_⟩:=I.loc
  exact free _ o (λz=>(hch _ z).2.1 rfl) ho I.free
 ·obtain⟨v,o,ho,hd⟩:=I.cell x c e
  exact (I.freeC x c e).imp (free c o (λz=>(hch c z).2.2.1 x c e rfl) ho) λ⟨n,ob,u,f⟩=>⟨n,ob,u,frzs c ob u f⟩
 ·obtain⟨e,n,ne,nf,d⟩:=I.pin p hp
  have nch:p.1∉ch:=λz=>(hch p.1 z).2.2.2 p hp rfl
  exact⟨keep p.1 p.2 ne nf nch e n,free p.1 p.2 nch e n,ne,nf,d⟩
theorem Inv.un{t':Nat}(I:Inv X pins σ H s)(u:Un X.fs [] H H' s.heap h')(hok:HOk X.prog X.w H' h'):Inv X pins σ H' {s with heap:=h',toks:=t'}:=by
 obtain⟨m,⟨o,es,ep,ho,r⟩,_⟩:=id I.loc
 obtain⟨sl,hL⟩:=u.any ho I.free (by simp)
 exact I.step (g':=s.gens) (d':=s.drawn) (ch:=[]) (λ_ z=>nomatch z) (λb o _ hb _ e n=>u.keep b o e n hb (by simp)) (λb o _ hb _ e n=>u.slot b o e n hb (by simp)) (λb o _ e n=>u.free b o e n (by simp)) (λb o _ e=>u.there b o e (by simp)) u.tups u.frzs u.tbls (λm' hm=>by
  obtain⟨o',es',ep',ho',r'⟩:=hm
  rw[ho] at ho';cases ho'
  exact⟨_,es',ep',hL,r'⟩) hok I.bare
theorem Inv.call{g':Array GenState}{t':Nat}{d':Drawn}{ch:List Addr}(I:Inv X pins σ H s)(u:Un (frs X.stack) ch H H' s.heap h')(hok:HOk X.prog X.w H' h')(hg:z9B g')
  (hch:∀b∈ch,(b∈X.ex\/X.s₀.heap.objs.size<=b)/\b≠X.env.locals/\(∀x c,X.env.cells.lookup x=some c->c≠b)/\∀p∈X.pn++pins,p.1≠b) :
  Inv X pins σ H' {s with heap:=h',gens:=g',drawn:=d',toks:=t'}:=by
 obtain⟨m,⟨o,es,ep,ho,r⟩,_⟩:=id I.loc
 obtain⟨sl,hL⟩:=u.any ho I.free λz=>(hch _ z).2.1 rfl
 exact I.step (ch:=ch) hch (λb o hL hb hc e n=>u.keep b o e n (λz=>(z65.mp (I.stkSub b z)).elim hL hb) hc) (λb o _ _ hc e n=>u.any e n hc) (λb o hc e n=>u.free b o e n hc) (λb o hc e=>u.there b o e hc) u.tups u.frzs u.tbls (λm' hm=>by
  obtain⟨o',es',ep',ho',r'⟩:=hm
  rw[ho] at ho';cases ho'
  exact⟨_,es',ep',hL,r'⟩) hok hg
theorem Inv.turned{t':Nat}{it:Addr}(I:Inv X pins σ H s)(k:∀b o,b≠it->s.heap.get? b=some o->h'.get? b=some o)(hn:H it=none)(hL:it≠X.env.locals)
  (h1:it∈X.ex\/X.s₀.heap.objs.size<=it) (h2:∀x c,X.env.cells.lookup x=some c->c≠it) (h3:∀p∈X.pn++pins,p.1≠it):Inv X pins σ H {s with heap:=h',toks:=t'}:=by
 have nit:∀b u,H b=some u->b≠it:=λb u e z=>by rw[z,hn] at e;cases e
 refine I.step (g':=s.gens) (d':=s.drawn) (ch:=[it]) (λb hb=>?_) (λb o _ _ hc e _=>k b o (λz=>hc (by simp[z])) e) (λb o _ _ hc e _=>⟨o.slots,k b o (λz=>hc (by simp[z])) e⟩) (λ_ _ _ _ n=>n)
  (λb o hc e=>⟨o,k b o (λz=>hc (by simp[z])) e⟩) (λ_ _ e=>e) (λ_ _ _ e=>e) (λb ps e=>⟨#[],by rw[e];simp⟩) (λm hm=>?_) (λb u e=>?_) I.bare
 ·have e:b=it:=by simpa using hb
  subst e
  exact⟨h1,hL,h2,h3⟩
 ·obtain⟨o,es,ep,ho,r⟩:=hm
  exact⟨o,es,ep,k _ o (z6k hL) ho,r⟩
 ·refine (I.hok b u e).stay (λc v hc q=>k c v ?_ q) (λ_ q=>q) λ_ _ q=>q
  rcases hc with z|z
  ·rw[z];exact nit b u e
  ·exact nit c _ z
theorem Inv.tok(I:Inv X pins σ H s)(t:Nat):Inv X pins σ H {s with toks:=t}:=I.un (h':=s.heap) (t':=t) Un.refl I.hok
theorem Inv.kept{t':Nat}(I:Inv X pins σ H s)(k:∀b u,s.heap.get? b=some u->h'.get? b=some u):Inv X pins σ H {s with heap:=h',toks:=t'}:=I.un (Un.kept k) (I.hok.kept k)
theorem Inv.laid{a:Addr}{o:HO}{t':Nat}(I:Inv X pins σ H s)(k:∀b u,s.heap.get? b=some u->h'.get? b=some u)(hp:s.heap.objs.size<=a)(new:ObjOk X.prog X.w (upd H a o) h' a o) :
  Inv X pins σ (upd H a o) {s with heap:=h',toks:=t'}:=I.un (Un.laid k hp (I.hok.fresh hp)) (I.hok.laid k hp new)
theorem Inv.write{x e:Addr}{o:HO}{t':Nat}(I:Inv X pins σ H s)(mu:Mut (H x))(he:e=x\/H e=some (.own x))(k:∀b u,b≠e->s.heap.get? b=some u->h'.get? b=some u)(heo:∃u,h'.get? e=some u)
  (new:ObjOk X.prog X.w (upd H x o) h' x o):Inv X pins σ (upd H x o) {s with heap:=h',toks:=t'}:=I.un (Un.write mu he k heo) (I.hok.write mu he k heo new)
theorem Inv.pins_of{pins':List (Addr×Obj)}(I:Inv X pins σ H s)(h:∀p∈pins',s.heap.get? p.1=some p.2/\H p.1=none/\p.1≠X.env.locals/\p.1∉X.fs/\∀v,p.2.data≠.cell v):Inv X pins' σ H s:=
 ⟨I.ok,I.os,I.bare,I.base,I.loc,I.cell,I.free,I.freeC,λp hp=>(z5Q.mp hp).elim (λz=>I.pin p (z5X _ z)) (h p),I.hok,I.len⟩
theorem jF{N:List Str}(hN:N.Nodup){i j:Nat}{x:Str}(a:N[i]?=some x)(b:N[j]?=some x):i=j:=by
 obtain⟨h1,e1⟩:=z5A.mp a
 obtain⟨h2,e2⟩:=z5A.mp b
 exact (z8M hN).mp (e1.trans e2.symm)
theorem JJ{M:z91}{A:z6e}{E:Value->z5D->Prop}{i:Nat}{x:Str}{v:V}{u:Value}{Q:Unit->z5D->Prop}(I:Inv X pins σ H s)(hN:X.N.Nodup)(hi:X.N[i]?=some x)(hx:Loc X.env.scope x)(r:RelV v u)
  (h:∀s',Inv X pins (σ.set i (some v)) H s'->(∃a,z6x a s.heap s'.heap/\(a=X.env.locals\/X.env.cells.lookup x=some a))->Q () s') (hf:X.fn x=true\/X.env.scope.names.lookup x=some .local:=by first|exact .inl rfl|exact .inr rfl|assumption):z5K M A (storeName X.env x u) Q E s:=by
 obtain⟨m,hn,hl⟩:=id I.loc
 have hcls:(X.env.scope.kind == .class || (X.env.scope.kind == .module&&X.env.locals != X.env.globals))=false:=by rw[I.ok.kind];rfl
 have hiσ:i<σ.length:=by rw[I.len];exact (z5A.mp hi).1
 have cne:=I.cne
 have tracked:∀{a:Addr} {h':Heap},(∃o,s.heap.get? a=some o/\H a=none)->z6x a s.heap h'->HOk X.prog X.w H h':=λ{a h'} ha hs b ob e=>by
  obtain⟨_,_,hfree⟩:=ha
  refine (I.hok b ob e).stay (λc w' hc q=>(hs.2 c ?_).trans q) (λ_ q=>q) λ_ _ q=>q
  rintro rfl
  rcases hc with rfl|hc
  ·rw[hfree] at e;cases e
  ·rw[hfree] at hc;cases hc
 rcases hx with hk|hk
 ·refine wpAny_storeName_local hk hn (λh' hn' hs=>?_) hcls
  obtain⟨oL,_,_,hoL,_⟩:=id hn
  refine h _ ⟨I.ok,I.os,I.bare,⟨λb o e n hb hx=>?_,λb o e n hb hx=>?_,I.base.free,λb o e hx=>?_,I.base.tups,I.base.frzs,I.base.tbls⟩,⟨_,hn',λj y v' e1 e2 e3=>?_⟩,λy c e=>?_,I.free,I.freeC,λp hp=>?_,tracked ⟨oL,hoL,I.free⟩ hs,by simpa using I.len⟩ ⟨_,hs,.inl rfl⟩
  ·exact (hs.2 b (z5Z (z5S (z5O e) I.ok.above))).trans (I.base.keep b o e n hb hx)
  ·obtain⟨sl,e1⟩:=I.base.slot b o e n hb hx
   exact⟨sl,(hs.2 b (z5Z (z5S (z5O e) I.ok.above))).trans e1⟩
  ·obtain⟨o',e1⟩:=I.base.there b o e hx
   exact⟨o',(hs.2 b (z5Z (z5S (z5O e) I.ok.above))).trans e1⟩
  ·by_cases hj:j=i
   ·subst hj
    rw[hi] at e1;cases e1
    rw[z8y hiσ] at e2
    cases e2
    exact⟨u,r,.inl ⟨hk,by simp⟩⟩
   ·rw[z5L (z6k hj)] at e2
    obtain⟨u',r',q⟩:=hl j y v' e1 e2 e3
    refine⟨u',r',?_⟩
    rcases q with⟨k,e⟩|⟨k,c,e,z⟩
    ·refine .inl ⟨k,?_⟩
     have:y≠x:=λe=>hj (jF hN e1 (e▸hi))
     simp[this,e]
    ·exact .inr ⟨k,c,e,z.sameBut hs (cne y c e)⟩
  ·obtain⟨w',z⟩:=I.cell y c e
   exact⟨w',z.sameBut hs (cne y c e)⟩
  ·obtain⟨e,n,ne,nf,d⟩:=I.pin p hp
   exact⟨(hs.2 p.1 ne).trans e,n,ne,nf,d⟩
 ·have hfn:X.fn x=true:=by
   rcases hf with z|z
   ·exact z
   ·rw[z] at hk;cases hk
  obtain⟨c,hc⟩:=I.ok.has x (.inl hk)
  obtain⟨w',z⟩:=I.cell x c hc
  refine wpAny_storeName_cell I.ok.kind hk hc z (λh' hc' hs=>?_)
  obtain⟨oc,hoc,hocd⟩:=id z
  refine h {s with heap:=h'} ⟨I.ok,I.os,I.bare,⟨λb o e n hb hx=>?_,λb o e n hb hx=>?_,I.base.free,λb o e hx=>?_,I.base.tups,I.base.frzs,I.base.tbls⟩,⟨m,hn.sameBut hs (z6k (cne x c hc)),λj y v' e1 e2 e3=>?_⟩,λy c' e=>?_,I.free,I.freeC,λp hp=>?_,tracked ⟨oc,hoc,(I.freeC x c hc).resolve_right λz=>by rw[hfn] at z;cases z.1⟩ hs,by simpa using I.len⟩ ⟨c,hs,.inr hc⟩
  ·exact (hs.2 b (z5Z (z5S (z5O e) (I.ok.cab x c hfn hc)))).trans (I.base.keep b o e n hb hx)
  ·obtain⟨sl,e1⟩:=I.base.slot b o e n hb hx
   exact⟨sl,(hs.2 b (z5Z (z5S (z5O e) (I.ok.cab x c hfn hc)))).trans e1⟩
  ·obtain⟨o',e1⟩:=I.base.there b o e hx
   exact⟨o',(hs.2 b (z5Z (z5S (z5O e) (I.ok.cab x c hfn hc)))).trans e1⟩
  ·by_cases hj:j=i
   ·subst hj
    rw[hi] at e1;cases e1
    rw[z8y hiσ] at e2
    cases e2
    exact⟨u,r,.inr ⟨.inl hk,c,hc,hc'⟩⟩
   ·rw[z5L (z6k hj)] at e2
    obtain⟨u',r',q⟩:=hl j y v' e1 e2 e3
    refine⟨u',r',?_⟩
    rcases q with q|⟨k,c',e,z'⟩
    ·exact .inl q
    ·refine .inr ⟨k,c',e,z'.sameBut hs ?_⟩
     rintro rfl
     exact hj (jF hN e1 (I.ok.inj _ _ _ e hc▸hi))
  ·by_cases hcc:c'=c
   ·subst hcc;exact⟨_,hc'⟩
   ·obtain⟨w2,z2⟩:=I.cell y c' e
    exact⟨w2,z2.sameBut hs hcc⟩
  ·obtain⟨e,n,ne,nf,d⟩:=I.pin p hp
   refine⟨(hs.2 p.1 ?_).trans e,n,ne,nf,d⟩
   intro q
   rw[q,hoc] at e
   have q':oc=p.2:=z5F e
   exact d w' (by rw[←q'];exact hocd)
theorem jD{M:z91}{A:z6e}{E:Value->z5D->Prop}{i:Nat}{x:Str}{v:V}{u:Value}{Q:Unit->z5D->Prop}(I:Inv X pins σ H s)(hN:X.N.Nodup)(hi:X.N[i]?=some x)(hx:Loc X.env.scope x)(r:RelV v u)
  (h:∀s',Inv X pins (σ.set i (some v)) H s'->Q () s') (hf:X.fn x=true\/X.env.scope.names.lookup x=some .local:=by first|exact .inl rfl|exact .inr rfl|assumption):z5K M A (storeName X.env x u) Q E s:=
 JJ I hN hi hx r (λs' I' _=>h s' I') hf
theorem Inv.call'{s':z5D}{ch:List Addr}(I:Inv X pins σ H s)(ho:s'.os=s.os)(u:Un (frs X.stack) ch H H' s.heap s'.heap)(hok:HOk X.prog X.w H' s'.heap)(hg:z9B s'.gens)
  (hch:∀b∈ch,(b∈X.ex\/X.s₀.heap.objs.size<=b)/\b≠X.env.locals/\(∀x c,X.env.cells.lookup x=some c->c≠b)/\∀p∈X.pn++pins,p.1≠b):Inv X pins σ H' s':=by
 obtain⟨h',g',d',t',o'⟩:=s'
 have e:o'=s.os:=ho
 subst e
 exact I.call (g':=g') (t':=t') (d':=d') u hok hg hch
end
noncomputable abbrev XK:=Value->Option Addr->Hp->Prop
noncomputable abbrev St:=List (Option V)
noncomputable abbrev VK:=V->Hp->Prop
noncomputable abbrev TE:=St->Hp->VK->Prop
noncomputable abbrev TT:=St->Hp->(Bool->Hp->Prop)->Prop
noncomputable abbrev TA:=St->Hp->(List V->Hp->Prop)->Prop
structure Ends where
 nx:St->Hp->Prop
 rt:VK
 bk:St->Hp->Prop:=λ_ _=>False
 ct:St->Hp->Prop:=λ_ _=>False
noncomputable abbrev TS:=Ends->St->Hp->Prop
inductive EP(X:Cx)(pins:List (Addr×Obj))(σ:St)(Q:VK)(u:Value)(s':Shared):Prop where
 |mk (v:V) (H':Hp) (i:Inv X pins σ H' s') (r:RelV v u) (q:Q v H')
inductive TP(X:Cx)(pins:List (Addr×Obj))(σ:St)(Q:Bool->Hp->Prop)(b:Bool)(s':Shared):Prop where
 |mk (H':Hp) (i:Inv X pins σ H' s') (q:Q b H')
inductive AP(X:Cx)(pins:List (Addr×Obj))(σ:St)(Q:List V->Hp->Prop)(us:List Value)(s':Shared):Prop where
 |mk (vs:List V) (H':Hp) (i:Inv X pins σ H' s') (r:Vals vs us) (q:Q vs H')
noncomputable def SP (X:Cx)(pins:List (Addr×Obj))(D:Ends)(f:Flow)(s':z5D):Prop:=
 match f with
 |.next=>∃σ' H',Inv X pins σ' H' s'/\D.nx σ' H'
 |.brk=>∃σ' H',Inv X pins σ' H' s'/\D.bk σ' H'
 |.cont=>∃σ' H',Inv X pins σ' H' s'/\D.ct σ' H'
 |.ret u=>∃v σ' H',Inv X pins σ' H' s'/\RelV v u/\D.rt v H'
noncomputable def PE (X:Cx)(e:Expr)(t:TE):Prop:=
 ∀(pins:List (Addr×Obj)) (s:z5D) (σ:St) (H:Hp) (Q:VK),Inv X pins σ H s->t σ H Q->z5K (z5N X.prog X.w) X.A (eval e X.env) (EP X pins σ Q) X.xe s
noncomputable def PT (X:Cx)(e:Expr)(t:TT):Prop:=
 ∀(pins:List (Addr×Obj)) (s:z5D) (σ:St) (H:Hp) (Q:Bool->Hp->Prop),Inv X pins σ H s->t σ H Q->z5K (z5N X.prog X.w) X.A (isTrue e X.env (eval e X.env)) (TP X pins σ Q) X.xe s
noncomputable def PW (X:Cx)(e:Expr)(t:TT):Prop:=
 ∀(whole:Sem Value) (pins:List (Addr×Obj)) (s:z5D) (σ:St) (H:Hp) (Q:Bool->Hp->Prop),Inv X pins σ H s->t σ H Q->z5K (z5N X.prog X.w) X.A (isTrue e X.env whole) (TP X pins σ Q) X.xe s
theorem PW.pt{X:Cx}{e:Expr}{t:TT}(h:PW X e t):PT X e t:=h _
noncomputable def PA (X:Cx)(es:List Expr)(t:TA):Prop:=
 ∀(pos:Pos) (pins:List (Addr×Obj)) (s:z5D) (σ:St) (H:Hp) (Q:List V->Hp->Prop),Inv X pins σ H s->t σ H Q->z5K (z5N X.prog X.w) X.A (spliced (z7u pos (z6o es X.env))) (AP X pins σ Q) X.xe s
noncomputable def PS (X:Cx)(st:Stmt)(t:TS):Prop:=
 ∀(pins:List (Addr×Obj)) (s:z5D) (σ:St) (H:Hp) (D:Ends),Inv X pins σ H s->t D σ H->z5K (z5N X.prog X.w) X.A (exec st X.env) (SP X pins D) X.xe s
noncomputable def PSs (X:Cx)(st:List Stmt)(t:TS):Prop:=
 ∀(pins:List (Addr×Obj)) (s:z5D) (σ:St) (H:Hp) (D:Ends),Inv X pins σ H s->t D σ H->z5K (z5N X.prog X.w) X.A (execs st X.env) (SP X pins D) X.xe s
theorem thn{α:Type}{t:Sem α}{Q Q':α->z5D->Prop}{M:z91}{A:z6e}{E:Value->z5D->Prop}{s:z5D}(h:z5K M A t Q E s)(hQ:∀a s,Q a s->Q' a s):z5K M A t Q' E s:=z6j h hQ λ_ _ x=>x
end L2
namespace L2
open PySem PySem.Spec PyProof.Rows
section
variable {X:Cx}
noncomputable def z5d (i:Nat):TE:=λσ H Q=>∃v,σ[i]?=some (some v)/\Q v H
noncomputable def tC (v:V):TE:=λ_ H Q=>Q v H
theorem kr {i:Nat} {x:Str} {pos:Pos} (hN:X.N[i]?=some x) (hv:Vis X.env.scope x) (hd:(x == ("__debug__":Str))=false:=by decide) (hcd:(x == ("__classdict__":Str))=false:=by decide):PE X (.Name x pos) (z5d i):=by
 intro pins s σ H Q I h
 obtain⟨v,e,h⟩:=h
 obtain⟨m,hn,hl⟩:=I.loc
 obtain⟨u,r,l⟩:=hl i x v hN e hv
 have fin:EP X pins σ Q u s:=⟨v,H,I,r,h⟩
 rcases l with⟨hk,hm⟩|⟨hk,c,hc,hcell⟩
 ·exact zci (wpAny_loadName_local I.ok.kind hk hn hm fin) hd
 ·rcases hk with hk|hk
  ·exact zci (wpAny_loadName_cell I.ok.kind hk hc hcell fin) hd
  ·exact zci (wpAny_loadName_free I.ok.kind hk hc hcell fin hcd) hd
theorem z24{i j pos}:PE X (.Constant (.int i) j pos) (tC (.int i)):=λ_ _ _ H _ I h=>wpAny_Constant_int ⟨.int i,H,I.tok _,⟨_,rfl⟩,h⟩
theorem z46{b j pos}:PE X (.Constant (.bool b) j pos) (tC (.bl b)):=λ_ _ _ H _ I h=>Constant_bool ⟨.bl b,H,I,rfl,h⟩
theorem z2g{j pos}:PE X (.Constant .none j pos) (tC .non):=λ_ _ _ H _ I h=>Constant_none ⟨.non,H,I,rfl,h⟩
theorem Zh{x j pos}:PE X (.Constant (.str x) j pos) (tC (.str x)):=λ_ _ _ H _ I h=>Calls.Constant_str ⟨.str x,H,I.tok _,⟨_,rfl⟩,h⟩
noncomputable def Gl(X:Cx)(x:Str):Prop:=X.env.kindOf x=some .globalImplicit
theorem wb{E:Value->z5D->Prop}{pins:List (Addr×Obj)}{s:z5D}{σ:St}{H:Hp}{x:Str}{u:Value}{pos:Pos}{Q:Value->z5D->Prop}(I:Inv X pins σ H s)(hg:Gl X x)(hm:X.mg x=some u)(h:Q u s)
  (hd:(x == ("__debug__":Str))=false:=by decide):z5K (z5N X.prog X.w) X.A (eval (.Name x pos) X.env) Q E s:=
 z9g I.ok.kind hg (Calls.loadGlobal_global (by rw[I.ok.glob];exact I.mod.glob.keeps I.bk) hm h) hd
theorem we{E:Value->z5D->Prop}{pins:List (Addr×Obj)}{s:z5D}{σ:St}{H:Hp}{x:Str}{u:Value}{pos:Pos}{Q:Value->z5D->Prop}(I:Inv X pins σ H s)(hg:Gl X x)(hm:X.mg x=none)(hv:z6U x=some u)(h:Q u s)
  (hn:x≠"__name__":=by decide) (hd:(x == ("__debug__":Str))=false:=by decide):z5K (z5N X.prog X.w) X.A (eval (.Name x pos) X.env) Q E s:=by
 obtain⟨mb,h1,h2⟩:=I.mod.blt
 exact z9g I.ok.kind hg (Calls.loadGlobal_builtin (by rw[I.ok.glob];exact I.mod.glob.keeps I.bk) hm (by rw[I.ok.blt];exact h1.keeps I.bk) ((h2 x hn).trans hv) h) hd
theorem Vu {x:Str} {v:V} {u:Value} {pos:Pos} (hg:Gl X x) (hm:X.mg x=some u) (r:RelV v u) (hd:(x == ("__debug__":Str))=false:=by decide):PE X (.Name x pos) (tC v):=
 λ_ _ _ H _ I h=>wb I hg hm ⟨v,H,I,r,h⟩ hd
theorem U6 {x:Str} {v:V} {u:Value} {pos:Pos} (hg:Gl X x) (hm:X.mg x=none) (hv:z6U x=some u) (r:RelV v u) (hn:x≠"__name__":=by decide) (hd:(x == ("__debug__":Str))=false:=by decide):PE X (.Name x pos) (tC v):=
 λ_ _ _ H _ I h=>we I hg hm hv ⟨v,H,I,r,h⟩ hn hd
variable {a b:Expr}{ta tb:TE}{pos:Pos}
variable {tA tB':TT}{rest:List Expr}
noncomputable def xh (t u:TT):TT:=λσ H Q=>t σ H λc H1=>if c=true then u σ H1 Q else Q false H1
noncomputable def tOr (t u:TT):TT:=λσ H Q=>t σ H λc H1=>if c=true then Q true H1 else u σ H1 Q
noncomputable def w_ (t:TT):TT:=λσ H Q=>t σ H λc H1=>Q (!c) H1
theorem z0f(ha:PT X a tA):PW X (.BoolOp .And [a] pos) tA:=by
 intro wh pins s σ H Q I h
 refine isTrue_and (thn (ha pins s σ H Q I h) λc s1 e=>?_)
 cases c with
 |true=>exact isTrue_and_nil e
 |false=>exact e
theorem z2w(ha:PT X a tA):PW X (.BoolOp .Or [a] pos) tA:=by
 intro wh pins s σ H Q I h
 refine isTrue_or (thn (ha pins s σ H Q I h) λc s1 e=>?_)
 cases c with
 |false=>exact isTrue_or_nil e
 |true=>exact e
theorem z2v(ha:PT X a tA)(hb:PW X (.BoolOp .And (b::rest) pos) tB'):PW X (.BoolOp .And (a::b::rest) pos) (xh tA tB'):=by
 intro wh pins s σ H Q I h
 refine isTrue_and (thn (ha pins s σ H _ I h) λc s1 ⟨H1,I1,q1⟩=>?_)
 cases c with
 |true=>exact hb wh pins s1 σ H1 Q I1 q1
 |false=>exact⟨H1,I1,q1⟩
theorem z3R(ha:PT X a tA)(hb:PW X (.BoolOp .Or (b::rest) pos) tB'):PW X (.BoolOp .Or (a::b::rest) pos) (tOr tA tB'):=by
 intro wh pins s σ H Q I h
 refine isTrue_or (thn (ha pins s σ H _ I h) λc s1 ⟨H1,I1,q1⟩=>?_)
 cases c with
 |true=>exact⟨H1,I1,q1⟩
 |false=>exact hb wh pins s1 σ H1 Q I1 q1
theorem z1Z(ha:PT X a tA):PT X (.UnaryOp .Not a pos) (w_ tA):=by
 intro pins s σ H Q I h
 exact isTrue_not (thn (ha pins s σ H (λc H1=>Q (!c) H1) I h) λc s' ⟨H',i,q⟩=>⟨H',i,q⟩)
theorem z2e{op}{t:TE}(h:PE X a t):PE X (.BoolOp op [a] pos) t:=λpins s σ H Q I hw=>BoolOp_one (h pins s σ H Q I hw)
end
end L2
namespace L2
open PySem PySem.Spec PyProof.Rows
noncomputable def SqL (K:z5G)(H:Hp)(a:Addr)(xs:List V):Prop:=
 Rd H a (.lst xs)\/
  ∃(o:Obj) (its:Array Value) (n:Nat),K.lookup a=some o/\o.cls=.type "list"/\o.dict=none/\o.data=.seq its n/\its.size<=sizeLine/\Vals xs its.toList
noncomputable def SqT (K:z5G)(H:Hp)(a:Addr)(xs:List V):Prop:=
 Rd H a (.tup xs)\/
  ∃(o:Obj) (its:Array Value) (n:Nat),K.lookup a=some o/\o.cls=.type "tuple"/\o.data=.seq its n/\its.size<=sizeLine/\Vals xs its.toList
noncomputable def z5j:Value->Option V
 |.none=>some .non
 |.bool b=>some (.bl b)
 |.int i _=>some (.int i)
 |.str x _=>some (.str x)
 |.bytes b _=>some (.byt b)
 |.float b _=>some (.flt b)
 |.ref a=>some (.ref a)
 |.type n=>some (.ty n)
 |_=>none
theorem RelV.abs{x:V}{u:Value}(r:RelV x u):z5j u=some x:=by
 cases x with
 |non=>cases r;rfl
 |bl _=>cases r;rfl
 |int _=>obtain⟨t,rfl⟩:=r;rfl
 |str _=>obtain⟨t,rfl⟩:=r;rfl
 |byt _=>obtain⟨t,rfl⟩:=r;rfl
 |flt _=>obtain⟨t,rfl⟩:=r;rfl
 |ref _=>cases r;rfl
 |ty _=>cases r;rfl
theorem RelV.inj{x y:V}{u:Value}(r:RelV x u)(q:RelV y u):x=y:=z5F (r.abs.symm.trans q.abs)
theorem Vals.inj:∀{xs ys:List V} {us:List Value},Vals xs us->Vals ys us->xs=ys
 |_,_,_,.nil,.nil=>rfl
 |_,_,_,.cons r t,.cons r' t'=>by rw[r.inj r',Vals.inj t t']
section
variable {X:Cx}{pins:List (Addr×Obj)}{σ:St}{H:Hp}{s:Shared}{a:Addr}{xs ys:List V}
theorem Inv.list(I:Inv X pins σ H s)(h:SqL X.K H a xs):∃its:List Value,Vals xs its/\PlainL s.heap a its.toArray/\xs.length<=sizeLine:=by
 rcases h with h|⟨o,its,n,hk,hc,hd,hs,hz,r⟩
 ·obtain⟨z,its,n,r,e⟩:=h.ok I.hok
  exact⟨its,r,⟨_,n,e,rfl,rfl,rfl⟩,z⟩
 ·refine⟨its.toList,r,⟨o,n,I.kIn a o hk,hc,hd,by simpa using hs⟩,?_⟩
  have e:=r.length
  simp only[z92] at e
  omega
theorem Inv.tuple(I:Inv X pins σ H s)(h:SqT X.K H a xs):∃its:List Value,Vals xs its/\zch s.heap a its.toArray/\xs.length<=sizeLine:=by
 rcases h with h|⟨o,its,n,hk,hc,hs,hz,r⟩
 ·obtain⟨z,its,r,p⟩:=h.ok I.hok
  exact⟨its,r,p,z⟩
 ·refine⟨its.toList,r,⟨o,I.kIn a o hk,hc,n,by simpa using hs⟩,?_⟩
  have e:=r.length
  simp only[z92] at e
  omega
theorem Inv.list_inj(I:Inv X pins σ H s)(h:SqL X.K H a xs)(h':SqL X.K H a ys):xs=ys:=by
 obtain⟨its,r,⟨o,n,e,_,_,d⟩,_⟩:=I.list h
 obtain⟨its',r',⟨o',n',e',_,_,d'⟩,_⟩:=I.list h'
 rw[e] at e';cases e'
 rw[d] at d'
 injection d' with d1 _
 have:its=its':=by simpa using congrArg zdc d1
 subst this
 exact r.inj r'
theorem Inv.tuple_inj(I:Inv X pins σ H s)(h:SqT X.K H a xs)(h':SqT X.K H a ys):xs=ys:=by
 obtain⟨its,r,⟨o,e,_,n,d⟩,_⟩:=I.tuple h
 obtain⟨its',r',⟨o',e',_,n',d'⟩,_⟩:=I.tuple h'
 rw[e] at e';cases e'
 rw[d] at d'
 injection d' with d1 _
 have:its=its':=by simpa using congrArg zdc d1
 subst this
 exact r.inj r'
end
noncomputable abbrev Cx.wish(X:Cx)(E:Value->z5D->Prop):Cx:={X with xe:=E}
theorem Cx.Ok.wish{X:Cx}(ok:X.Ok)(E:Value->z5D->Prop):(X.wish E).Ok:=
 ⟨ok.mod,ok.kind,ok.glob,ok.blt,ok.above,ok.inj,ok.has,ok.cab,ok.hd,ok.frames,ok.stk,ok.exf,ok.bs,ok.bsz,ok.noex,ok.exfs,ok.funs,ok.frf⟩
theorem Cx.Ok.unwish{X:Cx}{E:Value->z5D->Prop}(ok:(X.wish E).Ok):X.Ok:=
 ⟨ok.mod,ok.kind,ok.glob,ok.blt,ok.above,ok.inj,ok.has,ok.cab,ok.hd,ok.frames,ok.stk,ok.exf,ok.bs,ok.bsz,ok.noex,ok.exfs,ok.funs,ok.frf⟩
section
variable {X:Cx}{pins:List (Addr×Obj)}{σ:St}{H:Hp}{s:Shared}{E:Value->Shared->Prop}
theorem Inv.wish(I:Inv X pins σ H s)(E:Value->z5D->Prop):Inv (X.wish E) pins σ H s:=⟨I.ok.wish E,I.os,I.bare,I.base,I.loc,I.cell,I.free,I.freeC,I.pin,I.hok,I.len⟩
theorem Inv.unwish(I:Inv (X.wish E) pins σ H s):Inv X pins σ H s:=⟨I.ok.unwish,I.os,I.bare,I.base,I.loc,I.cell,I.free,I.freeC,I.pin,I.hok,I.len⟩
theorem SP.unwish{D:Ends}{f:Flow}{s':z5D}(h:SP (X.wish E) pins D f s'):SP X pins D f s':=by
 cases f with
 |next=>obtain⟨σ',H',I,q⟩:=h;exact⟨σ',H',I.unwish,q⟩
 |brk=>obtain⟨σ',H',I,q⟩:=h;exact⟨σ',H',I.unwish,q⟩
 |cont=>obtain⟨σ',H',I,q⟩:=h;exact⟨σ',H',I.unwish,q⟩
 |ret u=>obtain⟨v,σ',H',I,r,q⟩:=h;exact⟨v,σ',H',I.unwish,r,q⟩
end
section
variable {X:Cx}{st:Stmt}{rest:List Stmt}{t u:TS}{e:Expr}{te:TE}{pos:Pos}
noncomputable def z4r:TS:=λD σ H=>D.nx σ H
noncomputable def z4Y (t u:TS):TS:=λD σ H=>t {D with nx:=u D} σ H
theorem Vp:PSs X [] z4r:=λ_ _ σ H _ I h=>zak ⟨σ,H,I,h⟩
theorem yj(h1:PS X st t)(h2:PSs X rest u):PSs X (st::rest) (z4Y t u):=by
 intro pins s σ H D I h
 refine z9R (thn (h1 pins s σ H {D with nx:=u D} I h) λf s1 q=>?_)
 cases f with
 |next=>
  obtain⟨σ',H',I',q⟩:=q
  exact h2 pins s1 σ' H' D I' q
 |ret v=>exact q
 |brk=>exact q
 |cont=>exact q
theorem VD(h1:PS X st t):PSs X [st] t:=by
 intro pins s σ H D I h
 refine z9R (thn (h1 pins s σ H D I h) λf s1 q=>?_)
 cases f with
 |next=>exact zak q
 |ret v=>exact q
 |brk=>exact q
 |cont=>exact q
theorem Inv.quiet{pins:List (Addr×Obj)}{σ:St}{H:Hp}{s:z5D}(I:Inv X pins σ H s):interactive X.env=false:=by simp[interactive,I.ok.kind]
noncomputable def z3J(te:TE):TS:=λD σ H=>te σ H λ_ H1=>D.nx σ H1
theorem ZK(he:PE X e te)(hs:z8N e none pos.line X.env=pure false:=by rfl):PS X (.Expr e pos) (z3J te):=by
 intro pins s σ H D I h
 exact wpAny_Expr_any (thn (he pins s σ H _ I h) λv s1 ⟨x,H1,I1,r1,q1⟩=>⟨σ,H1,I1,q1⟩) I.quiet hs
noncomputable def z4X (te:TE):TS:=λD σ H=>te σ H D.rt
theorem z26(he:PE X e te):PS X (.Return (some e) pos) (z4X te):=by
 intro pins s σ H D I h
 exact wpAny_Return_some (thn (he pins s σ H _ I h) λv s1 ⟨x,H1,I1,r1,q1⟩=>⟨x,σ,H1,I1,r1,q1⟩)
noncomputable def z4i:TS:=λD _ H=>D.rt .non H
theorem Uo:PS X (.Return none pos) z4i:=λ_ _ σ H _ I h=>wpAny_Return_none ⟨.non,σ,H,I,rfl,h⟩
noncomputable def z52 (c:TT)(t u:TS):TS:=λD σ H=>c σ H λb H1=>if b=true then t D σ H1 else u D σ H1
theorem z48{c:Expr}{a b:List Stmt}{tc:TT}(hc:PT X c tc)(ha:PSs X a t)(hb:PSs X b u):PS X (.If c a b pos) (z52 tc t u):=by
 intro pins s σ H D I h
 refine wpAny_If (thn (hc pins s σ H _ I h) λd s1 ⟨H1,I1,q1⟩=>?_)
 cases d with
 |true=>exact ha pins s1 σ H1 D I1 q1
 |false=>exact hb pins s1 σ H1 D I1 q1
end
noncomputable abbrev TG:=V->St->Hp->(St->Hp->Prop)->Prop
noncomputable abbrev TGs:=List V->St->Hp->(St->Hp->Prop)->Prop
noncomputable def PG (X:Cx)(target:Expr)(t:TG):Prop:=
 ∀(pins:List (Addr×Obj)) (s:z5D) (σ:St) (H:Hp) (v:V) (u:Value) (Q:St->Hp->Prop),Inv X pins σ H s->RelV v u->t v σ H Q->
  z5K (z5N X.prog X.w) X.A (z9K target X.env u) (λ_ s'=>∃σ' H',Inv X pins σ' H' s'/\Q σ' H') X.xe s
noncomputable def PGs (X:Cx)(ts:List Expr)(t:TGs):Prop:=
 ∀(pins:List (Addr×Obj)) (s:z5D) (σ:St) (H:Hp) (vs:List V) (us:List Value) (Q:St->Hp->Prop),Inv X pins σ H s->Vals vs us->t vs σ H Q->
  z5K (z5N X.prog X.w) X.A (assignInOrder ((z7v ts X.env).map (·.2)) us) (λ_ s'=>∃σ' H',Inv X pins σ' H' s'/\Q σ' H') X.xe s
noncomputable abbrev z3i:=V->V->V->Hp->(Hp->Prop)->Prop
noncomputable def z3N (X:Cx)(t:z3i):Prop:=
 ∀(pins:List (Addr×Obj)) (s:z5D) (σ:St) (H:Hp) (o i v:V) (ov iv u:Value) (Q:Hp->Prop),Inv X pins σ H s->RelV o ov->RelV i iv->RelV v u->t o i v H Q->
  z5K (z5N X.prog X.w) X.A (setItem ov iv u) (λ_ s'=>∃H',Inv X pins σ H' s'/\Q H') X.xe s
section
variable {X:Cx}{pos:Pos}
noncomputable def VE(i:Nat):TG:=λv σ H Q=>Q (σ.set i (some v)) H
theorem Vt{i:Nat}{x:Str}(hN:X.N.Nodup)(hi:X.N[i]?=some x)(hx:Loc X.env.scope x)(hf:X.fn x=true\/X.env.scope.names.lookup x=some .local:=by first|exact .inl rfl|exact .inr rfl|assumption):PG X (.Name x pos) (VE i):=by
 intro pins s σ H v u Q I r h
 exact wpAny_assign_Name (jD I hN hi hx r (λs' I'=>⟨_,H,I',h⟩) hf)
noncomputable def z3T:TGs:=λvs σ H Q=>vs=[]/\Q σ H
noncomputable def z0A(t:TG)(u:TGs):TGs:=λvs σ H Q=>∃v r,vs=v::r/\t v σ H λσ' H'=>u r σ' H' Q
theorem UP:PGs X [] z3T:=by
 intro pins s σ H vs us Q I r h
 obtain⟨e,h⟩:=h
 subst e
 cases r
 exact assignInOrder_nil ⟨σ,H,I,h⟩
theorem Y4{e:Expr}{es:List Expr}{t:TG}{u:TGs}(h1:PG X e t)(h2:PGs X es u)
  (hs:(z7v (e::es) X.env).map (·.2)=z9K e X.env::(z7v es X.env).map (·.2):=by rfl):PGs X (e::es) (z0A t u):=by
 intro pins s σ H vs us Q I r h
 obtain⟨v,vr,e1,h⟩:=h
 subst e1
 cases r with
 |cons r rr=>
  rw[hs]
  refine assignInOrder_cons (thn (h1 pins s σ H _ _ _ I r h) λ_ s1 ⟨σ1,H1,I1,q1⟩=>?_)
  exact h2 pins s1 σ1 H1 _ _ Q I1 rr q1
noncomputable def z53 (K:z5G)(n:Nat)(t:TGs):TG:=λv σ H Q=>∃a xs,v=.ref a/\SqT K H a xs/\xs.length=n/\t xs σ H Q
theorem z2q{es:List Expr}{k:Nat}{t:TGs}{n:Nat}(hc:X.calm=true)(h:PGs X es t)
  (hn:(z7v es X.env).length=n:=by rfl) (hst:(z7v es X.env).findIdx? (·.1)=none:=by rfl):PG X (.Tuple es k pos) (z53 X.K n t):=by
 intro pins s σ H v u Q I r hw
 obtain⟨a,xs,e1,hq,hl,hw⟩:=hw
 subst e1
 cases r
 obtain⟨its,rv,ht,hz⟩:=I.tuple hq
 refine assign_Tuple_tuple (I.ok.hd hc) ht (by simp[hn,←hl,rv.length]) hst λh' hx=>?_
 have I1:Inv X pins σ H {s with heap:=h'}:=I.kept (t':=s.toks) λb o e=>hx b o (z5Z (z5O e)) e
 exact h pins _ σ H xs _ Q I1 (by simpa using rv) hw
noncomputable def z5m (to ti:TE)(t:z3i):TG:=λv σ H Q=>to σ H λo H1=>ti σ H1 λi H2=>t o i v H2 λH3=>Q σ H3
theorem z18{o i:Expr}{to ti:TE}{t:z3i}(ho:PE X o to)(hi:PE X i ti)(hs:z3N X t)
  (ha:∀v,z9K (.Subscript o i pos) X.env v=(do
   let ov ←za9 [v] (eval o X.env)
   let iv ←za9 [v,ov] (eval i X.env)
   standAt pos
   za9 [v,ov,iv] (setItem ov iv v)
   release [v,ov,iv] []):=by intro _;rfl):PG X (.Subscript o i pos) (z5m to ti t):=by
 intro pins s σ H v u Q I r h
 rw[ha]
 refine z5z (z60 (thn (ho pins s σ H _ I h) λov s1 ⟨x,H1,I1,r1,q1⟩=>?_))
 refine z5z (z60 (thn (hi pins s1 σ H1 _ I1 q1) λiv s2 ⟨y,H2,I2,r2,q2⟩=>?_))
 refine z5z (z6p (z5z (z60 (thn (hs pins s2 σ H2 x y v ov iv u _ I2 r1 r2 r q2) λ_ s3 ⟨H3,I3,q3⟩=>?_))))
 exact wpAny_release ⟨σ,H3,I3,q3⟩
noncomputable def z3Y (te:TE)(g:TG):TS:=λD σ H=>te σ H λx H1=>g x σ H1 D.nx
theorem K2{tg e:Expr}{te:TE}{g:TG}(he:PE X e te)(hg:PG X tg g)(hs:zaT [tg] e pos.line X.env=pure false:=by rfl)(hw:zaU [tg] e X.env=pure none:=by rfl)
  (h1:(z7v [tg] X.env).map (·.2)=[z9K tg X.env]:=by rfl):PS X (.Assign [tg] e pos) (z3Y te g):=by
 intro pins s σ H D I h
 refine wpAny_Assign_stores (thn (he pins s σ H _ I h) λv s1 ⟨x,H1,I1,r1,q1⟩=>?_) hs hw
 rw[h1]
 exact thn (hg pins s1 σ H1 x v _ I1 r1 q1) λ_ s2 q=>q
theorem z2S{i:Nat}{x:Str}{e:Expr}{te:TE}{pos':Pos}(hN:X.N.Nodup)(hi:X.N[i]?=some x)(hx:Loc X.env.scope x)(he:PE X e te)(hs:z8N e (some (.Name x pos')) pos.line X.env=pure false:=by rfl)(hf:X.fn x=true\/X.env.scope.names.lookup x=some .local:=by first|exact .inl rfl|exact .inr rfl|assumption) :
  PS X (.Assign [.Name x pos'] e pos) (z3Y te (VE i)):=by
 intro pins s σ H D I h
 refine wpAny_Assign_Name (thn (he pins s σ H _ I h) λv s1 ⟨y,H1,I1,r1,q1⟩=>?_) hs
 exact jD I1 hN hi hx r1 (λs2 I2=>⟨_,H1,I2,q1⟩) hf
end
structure It where
 go:Nat->Hp->Prop
 yld:Nat->Hp->V->Hp->Prop
 stop:Nat->Hp->Prop
noncomputable def Zv (X:Cx)(pins:List (Addr×Obj))(H:Hp)(b:Addr):Prop:=
 H b=none/\b≠X.env.locals/\b∉X.fs/\(b∈X.ex\/X.s₀.heap.objs.size<=b)/\(∀x c,X.env.cells.lookup x=some c->c≠b)/\∀p∈X.pn++pins,p.1≠b
theorem Inv.fpOk{X:Cx}{pins:List (Addr×Obj)}{σ:St}{H H':Hp}{s:z5D}{b:Addr}(I:Inv X pins σ H s)(hb:s.heap.objs.size<=b)(hn:H' b=none):Zv X pins H' b:=by
 refine⟨hn,z7L (z5S I.lt hb),I.nofs hb,.inr (z62 I.sz hb),λx c e z=>?_,λp hp z=>?_⟩
 ·obtain⟨v,q⟩:=I.cell x c e
  exact absurd (z5S q.lt (by rw[z];exact hb)) (z7b _)
 ·exact absurd (z5S (z5O (I.pin p hp).1) (by rw[z];exact hb)) (z7b _)
structure Turn(P:Program)(w:World)(K:PySem.W.Frag)(tg:Expr)(J:It)(fp:List Addr)(it:Addr)(tn:Nat->Heap->Prop):Prop where
 mem:it∈fp
 obj:∀i h,tn i h->∀b∈fp,∃o,h.get? b=some o/\∀v,o.data≠.cell v
 keep:∀i h h',tn i h->(∀b∈fp,∀o,h.get? b=some o->h'.get? b=some o)->tn i h'
 item:∀(X:Cx),X.prog=P->X.w=w->X.K=K->X.calm=true->∀(i:Nat) (pins:List (Addr×Obj)) (s:z5D) (σ:St) (H:Hp) (E:Value->z5D->Prop),Inv X pins σ H s->(∀b∈fp,Zv X pins H b)->tn i s.heap->J.go i H->
  z5K (z5N P w) X.A (zaA (.ref it)) (λr s1=>∃u,r=some u/\
   z5K (z5N P w) X.A (z8j tg (.ref it) u) (λ_ s2=>∃x H',Inv X pins σ H' s2/\RelV x u/\J.yld i H x H'/\tn (i+1) s2.heap/\∀b∈fp,H' b=none) E s1) E s
 done:∀(X:Cx),X.prog=P->X.w=w->X.K=K->X.calm=true->∀(i:Nat) (pins:List (Addr×Obj)) (s:z5D) (σ:St) (H:Hp) (E:Value->z5D->Prop),Inv X pins σ H s->(∀b∈fp,Zv X pins H b)->tn i s.heap->J.stop i H->
  z5K (z5N P w) X.A (zaA (.ref it)) (λr s1=>r=none/\Inv X pins σ H s1) E s
 self:∀(A:z6e) (i:Nat) (s:z5D) (Q:Value->z5D->Prop) (E:Value->z5D->Prop),tn i s.heap->Q (.ref it) s->z5K (z5N P w) A (pyIter (.ref it)) Q E s
noncomputable abbrev TI:=St->Hp->(It->Hp->Prop)->Prop
noncomputable def PIE (X:Cx)(pins:List (Addr×Obj))(σ:St)(tg:Expr)(R:It->Hp->Prop)(itv:Value)(s2:z5D):Prop:=
 ∃(it:Addr) (fp:List Addr) (tn:Nat->Heap->Prop) (J:It) (H':Hp),itv=.ref it/\Inv X pins σ H' s2/\Turn X.prog X.w X.K tg J fp it tn/\tn 0 s2.heap/\(∀b∈fp,Zv X pins H' b)/\R J H'
noncomputable def PI (X:Cx)(tg iter:Expr)(wi:TI):Prop:=
 ∀(pins:List (Addr×Obj)) (s:z5D) (σ:St) (H:Hp) (R:It->Hp->Prop),Inv X pins σ H s->wi σ H R->
  z5K (z5N X.prog X.w) X.A (eval iter X.env) (λv s1=>z5K (z5N X.prog X.w) X.A (pyIter v) (PIE X pins σ tg R) X.xe s1) X.xe s
theorem uk{M:z91}{A:z6e}{E:Value->z5D->Prop}{s:z5D}{tg:Expr}{it:Addr}{u:Value}{o:Obj}{n:String}{vs:Array Value}{Q:Unit->z5D->Prop}(ho:s.heap.get? it=some o)(hc:o.cls=.type n)(hd:o.data=.fields vs)
    (hn:["enumerate", "zip", "dict_itemiterator", "dict_reverseitemiterator", "odict_iterator", "itertools.zip_longest", "itertools.pairwise"].contains n=false) (hQ:Q () s):z5K M A (z8j tg (.ref it) u) Q E s:=by
  unfold z8j
  cases tg <;> first
    |exact z5E hQ
    | (cases u <;> first
        |exact z5E hQ
        | (refine z5z (wpAny_load ho ?_)
           rw[hc, hd]
           show z5K M A (if (["enumerate", "zip", "dict_itemiterator", "dict_reverseitemiterator", "odict_iterator", "itertools.zip_longest", "itertools.pairwise"].contains n&&vs[0]? == some (z6v _))=true then _ else _) Q E s
           rw[if_neg (by intro h;rw[hn, zcj] at h;cases h)]
           exact z5E hQ))
noncomputable def Itl (K:z5G)(a:Addr):It:=
 ⟨λi H=>∃xs x,SqL K H a xs/\xs[i]?=some x,λi H x H'=>H'=H/\∀xs,SqL K H a xs->xs[i]?=some x,λi H=>∃xs,SqL K H a xs/\xs.length<=i⟩
noncomputable def Itt (K:z5G)(a:Addr):It:=
 ⟨λi H=>∃xs x,SqT K H a xs/\xs[i]?=some x,λi H x H'=>H'=H/\∀xs,SqT K H a xs->xs[i]?=some x,λi H=>∃xs,SqT K H a xs/\xs.length<=i⟩
noncomputable def Itr(lo:Int)(n:Nat):It:=⟨λi _=>i<n,λi H x H'=>H'=H/\x=.int (lo+i),λi _=>n<=i⟩
theorem uQ{P:z6f}{w:z6w}{K:z5G}{tg:Expr}(a it:Addr):Turn P w K tg (Itl K a) [it] it (λi h=>h.IsListIter it a i) where
 mem:=by simp
 obj:=λi h st b hb=>by
  have e:b=it:=by simpa using hb
  subst e
  obtain⟨o,e,c,d⟩:=st
  exact⟨o,e,λv z=>by rw[d] at z;cases z⟩
 keep:=λi h h' st k=>st.at λo e=>k it (by simp) o e
 item:=by
  intro X hP hw hK hc i pins s σ H E I hf st hg
  subst hP hw hK
  obtain⟨xs,x,hq,hx⟩:=hg
  obtain⟨its,rv,p,hz⟩:=I.list hq
  obtain⟨u,hu,ru⟩:=rv.get hx
  obtain⟨f0,f1,f2,f3,f4,f5⟩:=hf it (by simp)
  refine wpAny_pyNext_list_item st p.isList (x:=u) (by simpa using hu) λh' st' sb=>?_
  have I1:Inv X pins σ H {s with heap:=h'}:=I.turned (t':=s.toks) (λb o hb e=>(sb.2 b hb).trans e) f0 f1 f3 f4 f5
  obtain⟨o,e,c,d⟩:=id st'
  exact⟨u,rfl,uk (s:={s with heap:=h'}) e c d (by decide) ⟨x,H,I1,ru,⟨rfl,λys hy=>by rw[I.list_inj hy hq];exact hx⟩,st',λb hb=>(hf b hb).1⟩⟩
 done:=by
  intro X hP hw hK hc i pins s σ H E I hf st hg
  subst hP hw hK
  obtain⟨xs,hq,hx⟩:=hg
  obtain⟨its,rv,p,hz⟩:=I.list hq
  obtain⟨f0,f1,f2,f3,f4,f5⟩:=hf it (by simp)
  have hl:=rv.length
  exact wpAny_pyNext_list_end (I.ok.hd hc) st p.isList (by simp;omega) λh' eb=>⟨rfl,I.turned (t':=s.toks) (λb o hb e=>eb b o hb e) f0 f1 f3 f4 f5⟩
 self:=λ_ _ _ _ _ st h=>wpAny_pyIter_listiter st h
theorem WK{P:z6f}{w:z6w}{K:z5G}{tg:Expr}(a it:Addr):Turn P w K tg (Itt K a) [it] it (λi h=>h.IsTupleIter it a i) where
 mem:=by simp
 obj:=λi h st b hb=>by
  have e:b=it:=by simpa using hb
  subst e
  obtain⟨o,e,c,d⟩:=st
  exact⟨o,e,λv z=>by rw[d] at z;cases z⟩
 keep:=λi h h' st k=>st.at λo e=>k it (by simp) o e
 item:=by
  intro X hP hw hK hc i pins s σ H E I hf st hg
  subst hP hw hK
  obtain⟨xs,x,hq,hx⟩:=hg
  obtain⟨its,rv,p,hz⟩:=I.tuple hq
  obtain⟨u,hu,ru⟩:=rv.get hx
  obtain⟨f0,f1,f2,f3,f4,f5⟩:=hf it (by simp)
  refine wpAny_pyNext_tuple_item st (show s.heap.IsTuple a its.toArray from p) (x:=u) (by simpa using hu) λh' st' sb=>?_
  have I1:Inv X pins σ H {s with heap:=h'}:=I.turned (t':=s.toks) (λb o hb e=>(sb.2 b hb).trans e) f0 f1 f3 f4 f5
  obtain⟨o,e,c,d⟩:=id st'
  exact⟨u,rfl,uk (s:={s with heap:=h'}) e c d (by decide) ⟨x,H,I1,ru,⟨rfl,λys hy=>by rw[I.tuple_inj hy hq];exact hx⟩,st',λb hb=>(hf b hb).1⟩⟩
 done:=by
  intro X hP hw hK hc i pins s σ H E I hf st hg
  subst hP hw hK
  obtain⟨xs,hq,hx⟩:=hg
  obtain⟨its,rv,p,hz⟩:=I.tuple hq
  obtain⟨f0,f1,f2,f3,f4,f5⟩:=hf it (by simp)
  have hl:=rv.length
  exact wpAny_pyNext_tuple_end (I.ok.hd hc) st (show s.heap.IsTuple a its.toArray from p) (by simp;omega) λh' eb=>⟨rfl,I.turned (t':=s.toks) (λb o hb e=>eb b o hb e) f0 f1 f3 f4 f5⟩
 self:=λ_ _ _ _ _ st h=>wpAny_pyIter_tupleiter st h
end L2
namespace L2
open PySem PySem.Spec PyProof.Rows
section
variable {X:Cx}{tg:Expr}
noncomputable def Vo(ta:TA):TI:=λσ H R=>ta σ H λvs H1=>∃i j:Int,vs=[.int i,.int j]/\(-(2 ^ 62)<=i/\i<2 ^ 62 /\ -(2 ^ 62)<=j/\j<2 ^ 62)/\R (Itr i (j-i).toNat) H1
noncomputable def z5r (wi:TI)(g:TG)(tb:TS):TS:=λD σ H=>wi σ H λJ H1=>∃W:Nat->Nat->St->Hp->Prop,(∃m,W 0 m σ H1)/\∀i m σ H,W i m σ H->
 (J.stop i H/\D.nx σ H)\/(J.go i H/\∃N:St->Hp->Prop,(∀σ' H',N σ' H'->∃m',m'<m/\W (i+1) m' σ' H')/\∀x H',J.yld i H x H'->g x σ H' λσ2 H2=>tb {D with nx:=N,ct:=N,bk:=D.nx} σ2 H2)
noncomputable def xS(fp:List Addr)(h:Heap):List (Addr×Obj):=fp.filterMap λb=>(h.get? b).map λo=>(b,o)
theorem vv{fp:List Addr}{h:Heap}{b:Addr}{o:Obj}(hb:b∈fp)(e:h.get? b=some o):(b,o)∈xS fp h:=z7M.mpr ⟨b,hb,by rw[e];rfl⟩
theorem Jg{fp:List Addr}{h:Heap}{p:Addr×Obj}(hp:p∈xS fp h):p.1∈fp/\h.get? p.1=some p.2:=by
 obtain⟨b,hb,e⟩:=z7M.mp hp
 cases q:h.get? b with
 |none=>rw[q] at e;cases e
 |some o=>
  rw[q] at e
  have e':(b,o)=p:=z5F e
  subst e'
  exact⟨hb,q⟩
theorem Inv.pinned{pins:List (Addr×Obj)}{σ:St}{H:Hp}{s:z5D}{fp:List Addr}(I:Inv X pins σ H s)(hf:∀b∈fp,Zv X pins H b)(ho:∀b∈fp,∃o,s.heap.get? b=some o/\∀v,o.data≠.cell v):Inv X (pins++xS fp s.heap) σ H s:=
 I.pins_of λp hp=>(z5Q.mp hp).elim (λz=>I.pin p (z5P _ z)) λz=>by
  obtain⟨hb,e⟩:=Jg z
  obtain⟨f0,f1,f2,_⟩:=hf p.1 hb
  obtain⟨o,e',d⟩:=ho p.1 hb
  rw[e] at e';cases e'
  exact⟨e,f0,f1,f2,d⟩
theorem Inv.unpinned{pins pl:List (Addr×Obj)}{σ:St}{H:Hp}{s:z5D}(I:Inv X (pins++pl) σ H s):Inv X pins σ H s:=I.pins_of λp hp=>I.pin p (z5P _ (z5X _ hp))
theorem z1W{iter:Expr}{body:List Stmt}{wi:TI}{g:TG}{tb:TS}{pos:Pos}(hp:zbL (z5N X.prog X.w) X.A X.env X.xe)(hc:X.calm=true)(hi:PI X tg iter wi)(hg:PG X tg g)(hb:PSs X body tb)
  (hs:∀x,z6J iter X.env x=pure x:=by intro _;rfl):PS X (.For tg iter body [] pos) (z5r wi g tb):=by
 intro pins s σ H D I h
 refine wpAny_For (thn (hi pins s σ H _ I h) λv s1 h1=>thn h1 λitv s2 h2=>?_) hs
 obtain⟨it,fp,tn,J,H2,e,I2,T,st2,f2,W,⟨m0,w0⟩,turn⟩:=h2
 subst e
 have stat:∀{H':Hp},(∀b∈fp,H' b=none)->∀b∈fp,Zv X pins H' b:=λhn b hb=>⟨hn b hb,(f2 b hb).2⟩
 refine codeAny_forLoop_any (λn s'=>∃i σ' H',Inv X pins σ' H' s'/\tn i s'.heap/\(∀b∈fp,H' b=none)/\W i n σ' H') ?_ m0 ⟨0,σ,H2,I2,st2,λb hb=>(f2 b hb).1,w0⟩
 rintro n s3 ⟨i,σ3,H3,I3,st3,fr3,w3⟩
 rcases turn i n σ3 H3 w3 with⟨stop,qn⟩|⟨go,N,hN,step⟩
 ·refine z8k hp (thn (T.done X rfl rfl rfl hc i pins s3 σ3 H3 X.xe I3 (stat fr3) st3 stop) λr s4 ⟨hr,I4⟩=>?_)
  subst hr
  exact zak ⟨σ3,H3,I4,qn⟩
 ·refine z8k hp (thn (T.item X rfl rfl rfl hc i pins s3 σ3 H3 X.xe I3 (stat fr3) st3 go) λr s4 ⟨u,hr,h4⟩=>?_)
  subst hr
  refine z8k hp (thn h4 λ_ s5 ⟨x,H5,I5,r5,y5,st5,fr5⟩=>?_)
  have I5':=I5.pinned (stat fr5) (T.obj _ _ st5)
  refine z8k hp (thn (hg _ s5 σ3 H5 x u _ I5' r5 (step x H5 y5)) λ_ s6 ⟨σ6,H6,I6,q6⟩=>?_)
  refine z8k hp (thn (hb _ s6 σ6 H6 _ I6 q6) λf s7 q7=>?_)
  have again:∀{σ7:St} {H7:Hp},Inv X (pins++xS fp s5.heap) σ7 H7 s7->N σ7 H7->∃m,m<n/\∃i σ' H',Inv X pins σ' H' s7/\tn i s7.heap/\(∀b∈fp,H' b=none)/\W i m σ' H':=λ{σ7 H7} I7 n7=>by
   obtain⟨m',hm,w7⟩:=hN σ7 H7 n7
   refine⟨m',hm,i+1,σ7,H7,I7.unpinned,T.keep _ _ _ st5 λb hb o e=>(I7.pin (b,o) (z5P _ (z5P _ (vv hb e)))).1,λb hb=>?_,w7⟩
   obtain⟨o,e,d⟩:=T.obj _ _ st5 b hb
   exact (I7.pin (b,o) (z5P _ (z5P _ (vv hb e)))).2.1
  cases f with
  |next=>obtain⟨σ7,H7,I7,n7⟩:=q7;exact again I7 n7
  |cont=>obtain⟨σ7,H7,I7,n7⟩:=q7;exact again I7 n7
  |brk=>obtain⟨σ7,H7,I7,q7⟩:=q7;exact⟨σ7,H7,I7.unpinned,q7⟩
  |ret v=>obtain⟨x7,σ7,H7,I7,r7,q7⟩:=q7;exact⟨x7,σ7,H7,I7.unpinned,r7,q7⟩
end
end L2
namespace L2
open PySem PySem.Spec PyProof.Rows
noncomputable abbrev R2:=V->V->Hp->VK->Prop
noncomputable def OpR (X:Cx)(f:Value->Value->Sem Value)(r:R2):Prop:=
 ∀(pins:List (Addr×Obj)) (s:z5D) (σ:St) (H:Hp) (x y:V) (v u:Value) (Q:VK),Inv X pins σ H s->RelV x v->RelV y u->r x y H Q->
  z5K (z5N X.prog X.w) X.A (f v u) (EP X pins σ Q) X.xe s
noncomputable def UnR (X:Cx)(f:Value->Sem Value)(r:V->Hp->VK->Prop):Prop:=
 ∀(pins:List (Addr×Obj)) (s:z5D) (σ:St) (H:Hp) (x:V) (v:Value) (Q:VK),Inv X pins σ H s->RelV x v->r x H Q->
  z5K (z5N X.prog X.w) X.A (f v) (EP X pins σ Q) X.xe s
noncomputable def z0w(X:Cx)(f:Value)(r:List V->Hp->VK->Prop):Prop:=
 ∀(pins:List (Addr×Obj)) (s:z5D) (σ:St) (H:Hp) (xs:List V) (us:List Value) (Q:VK),Inv X pins σ H s->Vals xs us->r xs H Q->
  z5K (z5N X.prog X.w) X.A (call f us) (EP X pins σ Q) X.xe s
noncomputable def rI (C:Int->Int->Prop)(g:Int->Int->V):R2:=λx y H Q=>∃i j,x=.int i/\y=.int j/\C i j/\Q (g i j) H
noncomputable def rI0 (g:Int->Int->V):R2:=λx y H Q=>∃i j,x=.int i/\y=.int j/\Q (g i j) H
noncomputable def rU (g:Int->V):V->Hp->VK->Prop:=λx H Q=>∃i,x=.int i/\Q (g i) H
section
variable {X:Cx}{a b c:Expr}{ta tb tc:TE}{pos:Pos}
theorem opI{f:Value->Value->Sem Value}{C:Int->Int->Prop}{g:Int->Int->Int}
  (rule:∀(i j:Int) (t u:Tok) (s:z5D) (Q:Value->z5D->Prop) (E:Value->z5D->Prop),C i j->Q (.int (g i j) s.toks) {s with toks:=s.toks+1}->z5K (z5N X.prog X.w) X.A (f (.int i t) (.int j u)) Q E s) :
  OpR X f (rI C λi j=>.int (g i j)):=by
 intro pins s σ H x y v u Q I rx ry h
 obtain⟨i,j,rfl,rfl,hc,q⟩:=h
 obtain⟨t,rfl⟩:=rx
 obtain⟨t',rfl⟩:=ry
 exact rule i j t t' s _ _ hc ⟨.int (g i j),H,I.tok _,⟨_,rfl⟩,q⟩
theorem z1z{f:Value->Value->Sem Value}{g:Int->Int->Int}
  (rule:∀(i j:Int) (t u:Tok) (s:z5D) (Q:Value->z5D->Prop) (E:Value->z5D->Prop),Q (.int (g i j) s.toks) {s with toks:=s.toks+1}->z5K (z5N X.prog X.w) X.A (f (.int i t) (.int j u)) Q E s) :
  OpR X f (rI0 λi j=>.int (g i j)):=by
 intro pins s σ H x y v u Q I rx ry h
 obtain⟨i,j,rfl,rfl,q⟩:=h
 obtain⟨t,rfl⟩:=rx
 obtain⟨t',rfl⟩:=ry
 exact rule i j t t' s _ _ ⟨.int (g i j),H,I.tok _,⟨_,rfl⟩,q⟩
theorem z0n{f:Value->Value->Sem Value}{g:Int->Int->Bool}
  (rule:∀(i j:Int) (t u:Tok) (s:z5D) (Q:Value->z5D->Prop) (E:Value->z5D->Prop),Q (.bool (g i j)) s->z5K (z5N X.prog X.w) X.A (f (.int i t) (.int j u)) Q E s) :
  OpR X f (rI0 λi j=>.bl (g i j)):=by
 intro pins s σ H x y v u Q I rx ry h
 obtain⟨i,j,rfl,rfl,q⟩:=h
 obtain⟨t,rfl⟩:=rx
 obtain⟨t',rfl⟩:=ry
 exact rule i j t t' s _ _ ⟨.bl (g i j),H,I,rfl,q⟩
noncomputable def z5u(i j:Int):Prop:=0<=j/\j<=1000000/\i.natAbs<2 ^ 64
noncomputable def CMul(i j:Int):Prop:=(-(2 ^ 64)<i/\i<2 ^ 64)\/(-(2 ^ 64)<j/\j<2 ^ 64)
theorem CMul.ok{i j:Int}(h:CMul i j):IntMulOk i j:=by
 rcases h with⟨h1,h2⟩|⟨h1,h2⟩
 ·exact .of_left (intBits_le_64 h1 h2)
 ·exact .of_right (intBits_le_64 h1 h2)
theorem Wn(k:Nat):(0:Int)<=2 ^ k:=by
 rw[two_pow_cast]
 exact Int.natCast_nonneg _
theorem z3n:OpR X (z7l .Add) (rI0 λi j=>.int (i+j)):=z1z λ_ _ _ _ _ _ _ q=>add_int q
theorem z0Y:OpR X (z7l .Sub) (rI0 λi j=>.int (i-j)):=z1z λ_ _ _ _ _ _ _ q=>sub_int q
theorem z0Z:OpR X (z7l .Mult) (rI CMul λi j=>.int (i * j)):=opI λ_ _ _ _ _ _ _ hc q=>mul_int q hc.ok
theorem z1t:OpR X (z7l .Mod) (rI (λ_ j=>0<j) λi j=>.int (i % j)):=opI λi j _ _ _ _ _ hc q=>by
 have h1:(0:Int)<j:=hc
 exact mod_int' (by omega) (by rw[Int.fmod_eq_emod_of_nonneg i (by omega)];exact q)
theorem z3t:OpR X (z7l .Pow) (rI z5u λi j=>.int (i ^ j.toNat)):=opI λ_ _ _ _ _ _ _ hc q=>pow_int_small hc.1 hc.2.1 hc.2.2 q
theorem z1X:OpR X (z7l .RShift) (rI (λ_ j=>0<=j) λi j=>.int (i / 2 ^ j.toNat)):=opI λi j _ _ _ _ _ hc q=>
 rshift_int hc (by rw[z9h i (Wn _)];exact q)
theorem z1N:OpR X (z7l .BitAnd) (rI0 λi j=>.int (zck i j)):=z1z λ_ _ _ _ _ _ _ q=>and_int q
theorem unI{f:Value->Sem Value}{g:Int->Int}
  (rule:∀(i:Int) (t:Tok) (s:z5D) (Q:Value->z5D->Prop) (E:Value->z5D->Prop),Q (.int (g i) s.toks) {s with toks:=s.toks+1}->z5K (z5N X.prog X.w) X.A (f (.int i t)) Q E s) :
  UnR X f (rU λi=>.int (g i)):=by
 intro pins s σ H x v Q I rx h
 obtain⟨i,rfl,q⟩:=h
 obtain⟨t,rfl⟩:=rx
 exact rule i t s _ _ ⟨.int (g i),H,I.tok _,⟨_,rfl⟩,q⟩
theorem z2m:UnR X (unaryOp .USub) (rU λi=>.int (-i)):=unI λ_ _ _ _ _ q=>neg_int q
end
noncomputable def UH:V->V->Bool
 |.non,.non=>true|.non,.int _=>true|.int _,.non=>true|.non,.bl _=>true|.bl _,.non=>true|.non,.str _=>true|.str _,.non=>true
 |.int _,.int _=>true|.bl _,.bl _=>true|.str _,.str _=>true|.byt _,.byt _=>true
 |.int _,.str _=>true|.str _,.int _=>true|.bl _,.str _=>true|.str _,.bl _=>true
 |_,_=>false
noncomputable def rEq:R2:=λx y H Q=>UH x y=true/\Q (.bl (decide (x=y))) H
noncomputable def rNe:R2:=λx y H Q=>UH x y=true/\Q (.bl (!decide (x=y))) H
theorem Vn{i j:Int}:decide (V.int i=V.int j)=(i == j):=by
 rw[z8l]
 simp
theorem Kh{i j:Bool}:decide (V.bl i=V.bl j)=(i == j):=by
 rw[z8l]
 simp
theorem V7{i j:Str}:decide (V.str i=V.str j)=(i == j):=by
 rw[z8l]
 simp
theorem Vb{i j:Array UInt8}:decide (V.byt i=V.byt j)=(i.toList == j.toList):=by
 rw[z8l]
 cases i
 cases j
 simp
section
variable {X:Cx}{a b c:Expr}{ta tb tc:TE}{pos:Pos}
theorem zw{pins:List (Addr×Obj)}{σ:St}{H:Hp}{s:z5D}{Q:VK}{k k':Bool}(I:Inv X pins σ H s)(q:Q (.bl k) H)(e:k=k'):EP X pins σ Q (.bool k') s:=by
 subst e
 exact⟨.bl k,H,I,rfl,q⟩
theorem z43:OpR X (z6B .Eq) rEq:=by
 intro pins s σ H x y v u Q I rx ry h
 obtain⟨hs,q⟩:=h
 cases x with
 |non=>
  cases rx
  cases y with
  |non=>cases ry;exact zcG (zw I q (by simp))
  |bl j=>cases ry;exact zcH (zw I q (by simp))
  |int j=>obtain⟨t',rfl⟩:=ry;exact zcU (zw I q (by simp))
  |str j=>obtain⟨t',rfl⟩:=ry;exact zcV (zw I q (by simp))
  |_=>exact absurd (show false=true from hs) z66
 |bl i=>
  cases rx
  cases y with
  |non=>cases ry;exact zcI (zw I q (by simp))
  |bl j=>cases ry;exact eq_bool (zw I q Kh)
  |str j=>obtain⟨t',rfl⟩:=ry;exact zcJ (zw I q (by simp))
  |_=>exact absurd (show false=true from hs) z66
 |int i=>
  obtain⟨t,rfl⟩:=rx
  cases y with
  |non=>cases ry;exact zcW (zw I q (by simp))
  |int j=>obtain⟨t',rfl⟩:=ry;exact eq_int (zw I q Vn)
  |str j=>obtain⟨t',rfl⟩:=ry;exact zcX (zw I q (by simp))
  |_=>exact absurd (show false=true from hs) z66
 |str i=>
  obtain⟨t,rfl⟩:=rx
  cases y with
  |non=>cases ry;exact zcY (zw I q (by simp))
  |bl j=>cases ry;exact zcK (zw I q (by simp))
  |int j=>obtain⟨t',rfl⟩:=ry;exact zcZ (zw I q (by simp))
  |str j=>obtain⟨t',rfl⟩:=ry;exact eq_str (zw I q V7)
  |_=>exact absurd (show false=true from hs) z66
 |byt i=>
  obtain⟨t,rfl⟩:=rx
  cases y with
  |byt j=>obtain⟨t',rfl⟩:=ry;exact PySem.W.eq_bytes (zw I q Vb)
  |_=>exact absurd (show false=true from hs) z66
 |_=>cases y<;>exact absurd (show false=true from hs) z66
theorem z4e:OpR X (z6B .NotEq) rNe:=by
 intro pins s σ H x y v u Q I rx ry h
 obtain⟨hs,q⟩:=h
 cases x with
 |non=>
  cases rx
  cases y with
  |non=>cases ry;exact zcL (zw I q (by simp))
  |bl j=>cases ry;exact zcM (zw I q (by simp))
  |int j=>obtain⟨t',rfl⟩:=ry;exact zc_ (zw I q (by simp))
  |str j=>obtain⟨t',rfl⟩:=ry;exact zd0 (zw I q (by simp))
  |_=>exact absurd (show false=true from hs) z66
 |bl i=>
  cases rx
  cases y with
  |non=>cases ry;exact zcN (zw I q (by simp))
  |bl j=>cases ry;exact ne_bool (zw I q (congrArg not Kh))
  |str j=>obtain⟨t',rfl⟩:=ry;exact zcO (zw I q (by simp))
  |_=>exact absurd (show false=true from hs) z66
 |int i=>
  obtain⟨t,rfl⟩:=rx
  cases y with
  |non=>cases ry;exact zd1 (zw I q (by simp))
  |int j=>obtain⟨t',rfl⟩:=ry;exact ne_int (zw I q (congrArg not Vn))
  |str j=>obtain⟨t',rfl⟩:=ry;exact zd2 (zw I q (by simp))
  |_=>exact absurd (show false=true from hs) z66
 |str i=>
  obtain⟨t,rfl⟩:=rx
  cases y with
  |non=>cases ry;exact zd3 (zw I q (by simp))
  |bl j=>cases ry;exact zcP (zw I q (by simp))
  |int j=>obtain⟨t',rfl⟩:=ry;exact zd4 (zw I q (by simp))
  |str j=>obtain⟨t',rfl⟩:=ry;exact ne_str (zw I q (congrArg not V7))
  |_=>exact absurd (show false=true from hs) z66
 |byt i=>
  obtain⟨t,rfl⟩:=rx
  cases y with
  |byt j=>obtain⟨t',rfl⟩:=ry;exact PySem.W.ne_bytes (zw I q (congrArg not Vb))
  |_=>exact absurd (show false=true from hs) z66
 |_=>cases y<;>exact absurd (show false=true from hs) z66
theorem z4k:OpR X (z6B .Lt) (rI0 λi j=>.bl (decide (i<j))):=z0n λ_ _ _ _ _ _ _ q=>zdz q
theorem z4p:OpR X (z6B .LtE) (rI0 λi j=>.bl (decide (i<=j))):=z0n λ_ _ _ _ _ _ _ q=>le_int q
theorem z3U:OpR X (z6B .Gt) (rI0 λi j=>.bl (decide (j<i))):=z0n λ_ _ _ _ _ _ _ q=>gt_int q
theorem z4g:OpR X (z6B .GtE) (rI0 λi j=>.bl (decide (j<=i))):=z0n λ_ _ _ _ _ _ _ q=>ge_int q
theorem JO:OpR X (z6B .In) (λx y H Q=>∃i j,x=.str i/\y=.str j/\Q (.bl (!(z7A j i 0 j.length 1).isEmpty)) H):=by
 intro pins s σ H x y v u Q I rx ry h
 obtain⟨i,j,rfl,rfl,q⟩:=h
 obtain⟨t,rfl⟩:=rx
 obtain⟨t',rfl⟩:=ry
 exact in_str (zw I q rfl)
theorem z36:OpR X (z6B .Is) (λx y H Q=>y=.non/\Q (.bl (decide (x=.non))) H):=by
 intro pins s σ H x y v u Q I rx ry h
 obtain⟨rfl,q⟩:=h
 cases ry
 refine is_none_gen (zw I q ?_)
 cases x<;>first
  |(cases rx;rfl)
  |(obtain⟨t,rfl⟩:=rx;rfl)
theorem Uu:OpR X (z6B .IsNot) (λx y H Q=>y=.non/\Q (.bl (!decide (x=.non))) H):=by
 intro pins s σ H x y v u Q I rx ry h
 obtain⟨rfl,q⟩:=h
 cases ry
 refine isnot_none_gen (zw I q ?_)
 cases x<;>first
  |(cases rx;rfl)
  |(obtain⟨t,rfl⟩:=rx;rfl)
theorem ZY:OpR X (z6B .NotIn) (λx y H Q=>∃i j,x=.str i/\y=.str j/\Q (.bl (!(!(z7A j i 0 j.length 1).isEmpty))) H):=by
 intro pins s σ H x y v u Q I rx ry h
 obtain⟨i,j,rfl,rfl,q⟩:=h
 obtain⟨t,rfl⟩:=rx
 obtain⟨t',rfl⟩:=ry
 exact notIn_str (zw I q rfl)
theorem Yk(b:Expr){op:z7B}(h:op≠.In:=by decide)(h2:op≠.NotIn:=by decide):zaV op b=false:=by
 have e1:(op == CmpOp.In)=false:=by cases op<;>first|rfl|exact absurd rfl h
 have e2:(op == CmpOp.NotIn)=false:=by cases op<;>first|rfl|exact absurd rfl h2
 cases b<;>simp[zaV,e1,e2]
theorem xF:(sizeLine:Nat)<2 ^ 63:=by rw[z6t];decide
theorem Wx:OpR X (z7l .Add) (λx y H Q=>∃i j,x=.str i/\y=.str j/\i.length+j.length<=sizeLine/\Q (.str (i++j)) H):=by
 intro pins s σ H x y v u Q I rx ry h
 obtain⟨i,j,rfl,rfl,hz,q⟩:=h
 obtain⟨t,rfl⟩:=rx
 obtain⟨t',rfl⟩:=ry
 exact add_str (λt' tk=>⟨.str (i++j),H,I.tok _,⟨_,rfl⟩,q⟩) hz
theorem vals1{x:V}{us:List Value}(r:Vals [x] us):∃u,us=[u]/\RelV x u:=by
 cases r with
 |cons r1 r2=>cases r2;exact⟨_,rfl,r1⟩
theorem vals2{x y:V}{us:List Value}(r:Vals [x,y] us):∃u w',us=[u,w']/\RelV x u/\RelV y w':=by
 cases r with
 |cons r1 r2=>
  cases r2 with
  |cons r3 r4=>cases r4;exact⟨_,_,rfl,r1,r3⟩
end
end L2
namespace L2
open PySem PySem.Spec PyProof.Rows
structure ObjM(h:Heap)(x dx C:Addr)(mA:Str->Option Value):Prop where
 obj:h.get? x=some (z71 C dx)
 ns:h.Ns1 dx mA
 ne:dx≠x
theorem JF{h:Heap}{dx:Addr}{mA:Str->Option Value}(n:h.Ns1 dx mA):∃od,h.get? dx=some od/\∀name,z9i name od=some (mA name):=by
 obtain⟨o,es,ep,ho,hd,hk,_,hm⟩:=n
 refine⟨o,ho,λname=>?_⟩
 have e:=hm name
 unfold nsFind findBy at e
 rw[←zb1] at e
 unfold z9i
 rw[hd]
 dsimp only
 split
 ·rename_i y q
  rw[q] at e
  exact congrArg some e
 ·rename_i q
  rw[q] at e
  have a:es.toList.any (·.refKey)=false:=by
   rw[z9C]
   intro y hy
   obtain⟨z,t,hkey⟩:=hk y (Array.mem_toList_iff.mp hy)
   simp[DictEntry.refKey,hkey]
  have a':¬es.toList.any (·.refKey)=true:=by rw[a];exact z66
  rw[if_neg a']
  exact congrArg some e
theorem ObjM.look{h:Heap}{x dx C:Addr}{mA:Str->Option Value}(I:ObjM h x dx C mA):∃od,zcl h x (z71 C dx) C (some od)/\∀name,z9i name od=some (mA name):=
 let ⟨od,ho,hl⟩:=JF I.ns
 ⟨od,⟨I.obj,rfl,rfl,ho⟩,hl⟩
section
variable {prog:Program}{w:World}{A:Around}{E:Value->Shared->Prop}{s:Shared}{K:PySem.W.Frag}{x dx C f:Addr}{mA:Str->Option Value}{name:Str}{v:Value}
theorem get_map{expr:Bool}{Q:Value->z5D->Prop}(X:K.In s.heap)(I:ObjM s.heap x dx C mA)(hg:z89 K C name=true)(hh:z7m K C=true)
  (ha:z64 K (.ref C) name=some none) (hv:mA name=some v) (hv':zbM v=true) (h:Q v {s with toks:=s.toks+1}) :
  z5K (z5N prog w) A (getAttr (.ref x) name expr) Q E s:=by
 obtain⟨od,J,hl⟩:=I.look
 exact PySem.W.get_value X J (z7y hg).1 (PySem.W.findObj_own hh ha rfl (by rw[hl,hv])) hv' h
theorem Xz{pl:Sem Bool}{Q:Value×List Value->z5D->Prop}(X:K.In s.heap)(I:ObjM s.heap x dx C mA)(hg:z89 K C name=true)
  (hf:z64 K (.ref C) name=some (some (.ref f))) (ht:zbe K (.ref f)=true) (hv:mA name=none) (h:Q (.ref f,[.ref x]) s) :
  z5K (z5N prog w) A (zda (.ref x) name pl) Q E s:=by
 obtain⟨od,J,hl⟩:=I.look
 exact PySem.W.method_fn X J (z7y hg).1 (z7y hg).2 hf (beq_iff_eq.mp ht) (by show (z9i name od).map (·.isSome)=some false;rw[hl,hv];rfl) h
theorem Ux{ns:List Str}{Q:Unit->z5D->Prop}(X:K.In s.heap)(I:ObjM s.heap x dx C mA)
  (hs:z64 K (.ref C) "__setattr__"=some (some (.builtin "object.__setattr__"))) (hp:z9D K C=true) (ht:zal K C name=some none) (hh:z7m K C=true)
  (hw:zbd mA ns) (hsz:ns.length<=sizeLine)
  (h:∀h',ObjM h' x dx C (λy=>if y=name then some v else mA y)->z6x dx s.heap h'->Q () {s with heap:=h',toks:=s.toks+2}) :
  z5K (z5N prog w) A (setAttr (.ref x) name v) Q E s:=by
 obtain⟨od,J,hl⟩:=I.look
 refine zbf X J hs (PySem.W.osa_open (s:={s with toks:=s.toks+1}) (r:=none) X J hp ht λb=>?_)
 obtain⟨cd,hc,hd'⟩:=z9S hh
 have hx:s.heap.get? x=some ⟨.ref C,some dx,.plain,#[]⟩:=I.obj
 refine z5z (z5E (z5z (z5z (zaB hx (z5z (z7e (s:={s with toks:=s.toks+1}) (z93 X hc) ?_))))))
 rw[hd']
 refine z5E (a:=some dx) (z5z (z5E (z5z ?_)))
 refine wpAny_nsSet1 (s:={s with toks:=s.toks+1}) I.ns λh' hn2 hs2=>?_
 obtain⟨oD,esD,epD,hoD,hdD,hcD⟩:=hn2.count (zdH name v hw)
 refine z5z (zbN hoD (by rw[hdD];exact zbO (z62 hcD (by rw[z68];omega))) ?_)
 exact z5E (h _ ⟨(hs2.2 _ (z6k I.ne)).trans I.obj,hn2,I.ne⟩ hs2)
theorem yn{R:zcm->z5D->Prop}{vs:List Value}{kw:List (Str×Value)}(X:K.In s.heap)(hm:zc0 K C=true)
  (hi:z64 K (.ref C) "__init__"=some (some (.ref f))) (hf:zcn K (.ref f)=some (.type "function"))
  (h:z7n (z5N prog w) (A.under (.builtin "type.__call__" ⟨.ref C::vs,kw⟩)) (.call (.ref f) ⟨.ref (s.heap.objs.size+1)::vs,kw⟩) (PySem.W.InitBack (s.heap.objs.size+1) R)
   {s with heap:=(s.heap.push z6A).push (z71 C s.heap.objs.size)}) :
  z7n (z5N prog w) A (.call (.ref C) ⟨vs,kw⟩) R s:=by
 obtain⟨hh,g,d,t,os⟩:=s
 exact PySem.W.make_core (PySem.W.makes_of X hm) (zaC X hi) (λself=>PySem.W.bind_fn X self hf) (.inl rfl) h
end
noncomputable def wM(f:Str)(v:V):List (Str×V)->List (Str×V)
 |[]=>[(f,v)]
 |(g,x)::r=>if g=f then (g,v)::r else (g,x)::wM f v r
theorem kN(f g:Str)(v:V):∀fs:List (Str×V),(wM f v fs).lookup g=if g=f then some v else fs.lookup g
 |[]=>by
  show z6O g [(f,v)]=_
  by_cases h:g=f
  ·have hb:(g == f)=true:=beq_iff_eq.mpr h
   simp only[z6O,hb,if_pos h]
  ·have hb:(g == f)=false:=beq_eq_false_iff_ne.mpr h
   simp only[z6O,hb,if_neg h]
 |(k,x)::r=>by
  have ih:=kN f g v r
  rw[show wM f v ((k,x)::r)=(if k=f then (k,v)::r else (k,x)::wM f v r) from rfl]
  by_cases hk:k=f
  ·rw[if_pos hk]
   by_cases h:g=k
   ·have hb:(g == k)=true:=beq_iff_eq.mpr h
    simp only[z6O,hb,if_pos (h.trans hk)]
   ·have hb:(g == k)=false:=beq_eq_false_iff_ne.mpr h
    simp only[z6O,hb,if_neg (λe:g=f=>h (e.trans hk.symm))]
  ·rw[if_neg hk]
   by_cases h:g=k
   ·have hb:(g == k)=true:=beq_iff_eq.mpr h
    simp only[z6O,hb,if_neg (λe:g=f=>hk (h.symm.trans e))]
   ·have hb:(g == k)=false:=beq_eq_false_iff_ne.mpr h
    simp only[z6O,hb]
    exact ih
theorem kA(f:Str)(v:V):∀fs:List (Str×V),f∈(wM f v fs).map (·.1)/\∀g,g∈fs.map (·.1)->g∈(wM f v fs).map (·.1)
 |[]=>⟨by simp[wM],λg h=>by simp at h⟩
 |(k,x)::r=>by
  obtain⟨i1,i2⟩:=kA f v r
  rw[show wM f v ((k,x)::r)=(if k=f then (k,v)::r else (k,x)::wM f v r) from rfl]
  by_cases hk:k=f
  ·rw[if_pos hk]
   subst hk
   exact⟨by simp,λg h=>by simpa using h⟩
  ·rw[if_neg hk]
   refine⟨?_,λg h=>?_⟩
   ·rw[z6V]
    exact z5M _ i1
   ·rw[z6V] at h ⊢
    rcases z65.mp h with e|e
    ·exact z65.mpr (.inl e)
    ·exact z5M _ (i2 g e)
theorem kL(f:Str)(v:V):∀fs:List (Str×V),(wM f v fs).length<=fs.length+1
 |[]=>by simp[wM]
 |(k,x)::r=>by
  have ih:=kL f v r
  rw[show wM f v ((k,x)::r)=(if k=f then (k,v)::r else (k,x)::wM f v r) from rfl]
  by_cases hk:k=f
  ·rw[if_pos hk,z68,z68];omega
  ·rw[if_neg hk,z68,z68];omega
theorem RelO.some_of{v:V}{o:Option Value}(r:RelO (some v) o):∃u,o=some u/\RelV v u:=by
 cases o with
 |none=>exact (show False from r).elim
 |some u=>exact⟨u,rfl,r⟩
theorem RelO.none_of{o:Option Value}(r:RelO none o):o=none:=by
 cases o with
 |none=>rfl
 |some u=>exact (show False from r).elim
theorem Jn{v:V}{u:Value}(r:RelV v u):zbM u=true:=by
 cases v with
 |non=>cases (show u=z6E from r);rfl
 |bl b=>cases (show u=za7 b from r);rfl
 |int i=>obtain⟨t,e⟩:=(show ∃t,u=zbK i t from r);cases e;rfl
 |str x=>obtain⟨t,e⟩:=(show ∃t,u=zd9 x t from r);cases e;rfl
 |byt b=>obtain⟨t,e⟩:=(show ∃t,u=zdt b t from r);cases e;rfl
 |flt b=>obtain⟨t,e⟩:=(show ∃t,u=zdu b t from r);cases e;rfl
 |ref a=>cases (show u=z61 a from r);rfl
 |ty n=>cases (show u=za8 n from r);rfl
section
variable {P:Program}{w:World}{H H':Hp}{h h':Heap}{a C dx:Addr}{fs fs':List (Str×V)}
theorem jR(hok:HOk P w H h)(e:H a=some (.ins C dx fs)):∃mA,ObjM h a dx C mA/\(∀f,RelO (fs.lookup f) (mA f))/\zbd mA (fs.map (·.1))/\fs.length<=1000/\H dx=some (.own a):=by
 obtain⟨d,z,ne,ob,mA,n,r,q⟩:=(show ObjOk P w H h a (.ins C dx fs) from hok a _ e)
 exact⟨mA,⟨ob,n,ne⟩,r,q,z,d⟩
end
structure Cls(K:PySem.W.Frag)(C:Addr):Prop where
 pg:z89 K C z9e=true
 hd:z7m K C=true
 po:z9D K C=true
 sa:z64 K (.ref C) "__setattr__"=some (some (.builtin "object.__setattr__"))
theorem Cls.get{K:z5G}{C:Addr}(c:Cls K C)(f:Str):z89 K C f=true:=c.pg
noncomputable def NoAttr(K:z5G)(C:Addr)(f:Str):Prop:=z64 K (.ref C) f=some none
theorem NoAttr.taker{K:z5G}{C:Addr}{f:Str}(n:NoAttr K C f):zal K C f=some none:=by
 unfold zal
 rw[show z64 K (.ref C) f=some none from n]
 rfl
structure Meth(K:PySem.W.Frag)(C:Addr)(m:Str)(f:Addr):Prop where
 at_:z64 K (.ref C) m=some (some (.ref f))
 fn:zbe K (.ref f)=true
 kp:z7C K (.ref f)=true
section
variable {X:Cx}{pins:List (Addr×Obj)}{σ:St}{H:Hp}{s:Shared}{a C dx:Addr}{fs:List (Str×V)}{f:Str}{v:V}{A:Around}{E:Value->Shared->Prop}
theorem y4{b:Bool}{Q:Value->z5D->Prop}(I:Inv X pins σ H s)(e:H a=some (.ins C dx fs))(c:Cls X.K C)(n:NoAttr X.K C f)(l:fs.lookup f=some v)
  (h:∀u s',Inv X pins σ H s'->RelV v u->Q u s'):z5K (z5N X.prog X.w) A (getAttr (.ref a) f b) Q E s:=by
 obtain⟨mA,O,r,_,_,_⟩:=jR I.hok e
 obtain⟨u,hu,ru⟩:=RelO.some_of (v:=v) (o:=mA f) (by rw[←l];exact r f)
 exact get_map I.kIn O (c.get f) c.hd n hu (Jn ru) (h u _ (I.tok _) ru)
theorem xO{m:Str}{g:Addr}{pl:Sem Bool}{Q:Value×List Value->z5D->Prop}(I:Inv X pins σ H s)(e:H a=some (.ins C dx fs))(c:Cls X.K C)(k:Meth X.K C m g)(l:fs.lookup m=none)
  (h:Q (.ref g,[.ref a]) s):z5K (z5N X.prog X.w) A (zda (.ref a) m pl) Q E s:=by
 obtain⟨mA,O,r,_,_,_⟩:=jR I.hok e
 have hn:mA m=none:=RelO.none_of (by rw[←l];exact r m)
 exact Xz I.kIn O (c.get m) k.at_ k.fn hn h
theorem Wl{y:V}{u:Value}{Q:Unit->z5D->Prop}(I:Inv X pins σ H s)(e:H a=some (.ins C dx fs))(c:Cls X.K C)(n:NoAttr X.K C f)(hl:fs.length<1000)(ry:RelV y u)
  (h:∀s',Inv X pins σ (upd H a (.ins C dx (wM f y fs))) s'->Q () s'):z5K (z5N X.prog X.w) A (setAttr (.ref a) f u) Q E s:=by
 obtain⟨mA,O,r,wi,_,ho⟩:=jR I.hok e
 have hz:(fs.map (·.1)).length<=sizeLine:=by rw[z5R,z6t];omega
 refine Ux I.kIn O c.sa c.po n.taker c.hd wi hz λh' O' sb=>h _ ?_
 have hd:∃o,h'.get? dx=some o:=let ⟨o,_,_,e',_⟩:=O'.ns;⟨o,e'⟩
 refine I.write (x:=a) (e:=dx) (by rw[e];exact z7f) (.inr ho) (λb q hb z=>(sb.2 b hb).trans z) hd ?_
 refine⟨by rw[za O.ne];exact ho,?_,O.ne,O'.obj,_,O'.ns,λg=>?_,λg hg=>?_⟩
 ·have:=kL f y fs;omega
 ·show RelO ((wM f y fs).lookup g) (if g=f then some u else mA g)
  rw[kN]
  by_cases q:g=f
  ·rw[if_pos q,if_pos q];exact ry
  ·rw[if_neg q,if_neg q];exact r g
 ·by_cases q:g=f
  ·rw[q];exact (kA f y fs).1
  ·refine (kA f y fs).2 g (wi g λz=>hg ?_)
   show (if g=f then some u else mA g)=none
   rw[if_neg q];exact z
theorem Inv.made(I:Inv X pins σ H s):Inv X pins σ (upd (upd H s.heap.objs.size (.own (s.heap.objs.size+1))) (s.heap.objs.size+1) (.ins C s.heap.objs.size []))
  {s with heap:=(s.heap.push z6A).push (z71 C s.heap.objs.size)}:=by
 have e1:(s.heap.push z6A).get? s.heap.objs.size=some z6A:=z5Y s.heap rfl
 have e2:((s.heap.push z6A).push (z71 C s.heap.objs.size)).get? (s.heap.objs.size+1)=some (z71 C s.heap.objs.size):=by
  have:=z5Y (s.heap.push z6A) (o:=z71 C s.heap.objs.size) rfl
  rwa[z6K] at this
 have e3:(s.heap.push z6A).Ns s.heap.objs.size (λ_=>none):=⟨z6A,#[],_,e1,rfl,(λe he=>absurd he (by simp)),λ_=>rfl⟩
 have I1:=I.laid (a:=s.heap.objs.size) (o:=.own (s.heap.objs.size+1)) (h':=s.heap.push z6A) (t':=s.toks) (λb u q=>z5C _ q) (z5H _) ⟨_,e1⟩
 refine I1.laid (a:=s.heap.objs.size+1) (o:=.ins C s.heap.objs.size []) (t':=s.toks) (λb u q=>z5C _ q) (z98 (z6K _ _)) ?_
 have ne:s.heap.objs.size≠s.heap.objs.size+1:=z5Z (z6G _)
 refine⟨by rw[za ne,zd],z8r _,ne,e2,λ_=>none,(zbg e3).at λo q=>z5C _ q,λ_=>z7f,λy hy=>absurd rfl hy⟩
theorem z0b{prog:z6f}{w:z6w}{env:Env}{e:Expr}{f:Str}{pos:Pos}{s:z5D}{Q:Value->z5D->Prop}(hb:z8R e f env (eval e env)=eval e env)
  (h:z5K (z5N prog w) A (eval e env) (λo s₁=>z5K (z5N prog w) A (getAttr o f true) Q E s₁) E s):z5K (z5N prog w) A (eval (.Attribute e f pos) env) Q E s:=
 Attribute_any_ h (by rw[arm_eval_Attribute,hb])
end
noncomputable def z56 (K:z5G)(ta:TE)(f:Str):TE:=λσ H Q=>ta σ H λx H1=>∃a C dx fs v,x=.ref a/\H1 a=some (.ins C dx fs)/\Cls K C/\NoAttr K C f/\fs.lookup f=some v/\Q v H1
noncomputable def qH (K:z5G)(ta tv:TE)(f:Str):TS:=λD σ H=>tv σ H λy H1=>ta σ H1 λx H2=>∃a C dx fs,x=.ref a/\H2 a=some (.ins C dx fs)/\Cls K C/\NoAttr K C f/\fs.length<1000/\
 D.nx σ (upd H2 a (.ins C dx (wM f y fs)))
section
variable {X:Cx}{o e value:Expr}{f:Str}{pos pos' tpos:Pos}{ta tv:TE}
theorem z1p(he:PE X e ta)(hb:z8R e f X.env (eval e X.env)=eval e X.env):PE X (.Attribute e f pos) (z56 X.K ta f):=by
 intro pins s σ H Q I h
 refine z0b hb (thn (he pins s σ H _ I h) λu s1 ⟨x,H1,I1,rx,a,C,dx,fs,v,ex,ea,c,n,l,q⟩=>?_)
 subst ex
 obtain rfl:u=z61 a:=rx
 exact y4 I1 ea c n l λu' s2 I2 ru=>⟨v,H1,I2,ru,q⟩
theorem z2O(ha:PE X o ta)(hv:PE X value tv)(hs:z8N value (some (.Attribute o f pos')) pos.line X.env=pure false):PS X (.Assign [.Attribute o f pos'] value pos) (qH X.K ta tv f):=by
 intro pins s σ H D I h
 refine z8H (thn (hv pins s σ H _ I h) λu s1 ⟨y,H1,I1,ry,q⟩=>thn (ha pins s1 σ H1 _ I1 q) λov s2 ⟨x,H2,I2,rx,a,C,dx,fs,ex,ea,c,n,l,q2⟩=>?_) hs
 subst ex
 obtain rfl:ov=z61 a:=rx
 exact Wl I2 ea c n l ry λs3 I3=>⟨σ,_,I3,q2⟩
noncomputable def z2G:V->V->Hp->VK->Prop:=λx y H Q=>∃i j,x=.int i/\y=.int j/\Q (.int (i-j)) H
end
end L2
namespace L2
open PySem PySem.Spec PyProof.Rows
structure Room(k:Nat)(A:Around):Prop where
 hd:A.handled=none
 dp:A.depth+3 * k+5<recursionLimit
 un:A.units+16 * k+200<cLine
theorem Room.mono{j k:Nat}{A:z6e}(r:Room k A)(h:j<=k):Room j A:=⟨r.hd,by have:=r.dp;omega,by have:=r.un;omega⟩
theorem Room.deeper{k:Nat}{A:z6e}(r:Room (k+1) A)(env:Env):Room k (A.deeper env):=
 ⟨r.hd,by have:=r.dp;show A.depth+1+3 * k+5<_;omega,by have:=r.un;show A.units+3+16 * k+200<_;omega⟩
theorem Wm{A:z6e}{C:Addr}{us:List Value}{kw:List (Str×Value)}:(A.under (.builtin "type.__call__" ⟨.ref C::us,kw⟩)).depth=A.depth+1:=by
 first|rfl|simp[zbh,Code.weight,Code.isCreation,Code.isGuard,Code.isCaller,zdv,zbi,guardIds]
theorem W5{A:z6e}{C:Addr}{us:List Value}{kw:List (Str×Value)}:(A.under (.builtin "type.__call__" ⟨.ref C::us,kw⟩)).units=A.units+1:=by
 first|rfl|simp[zbh,Code.cUnits,zdv,zbi]
theorem Room.make{k:Nat}{A:z6e}(r:Room (k+1) A)(C:Addr)(us:List Value)(kw:List (Str×Value)):Room k (A.under (.builtin "type.__call__" ⟨.ref C::us,kw⟩)):=
 ⟨r.hd,by have:=r.dp;rw[Wm];omega,by have:=r.un;rw[W5];omega⟩
theorem Room.depth{k:Nat}{A:z6e}(r:Room k A):A.depth<recursionLimit:=by have:=r.dp;omega
noncomputable def z54:TA:=λ_ H Q=>Q [] H
noncomputable def z4D(ta:TE)(tr:TA):TA:=λσ H Q=>ta σ H λx H1=>tr σ H1 λxs H2=>Q (x::xs) H2
section
variable {X:Cx}{e:Expr}{es:List Expr}{te:TE}{t:TA}{pos:Pos}
theorem qx:PA X [] z54:=λ_ _ _ _ H Q I h=>zbj ⟨[],H,I,.nil,h⟩
theorem zN(ha:PE X e te)(hr:PA X es t)(hs:z6o (e::es) X.env=(false,eval e X.env)::z6o es X.env:=by rfl):PA X (e::es) (z4D te t):=by
 intro pos pins s σ H Q I h
 rw[hs]
 show z5K _ _ (spliced ((false,eval e X.env)::z7u pos (z6o es X.env))) _ _ s
 refine z7N (thn (ha pins s σ H _ I h) λu s1 ⟨x,H1,I1,r1,q1⟩=>?_)
 exact thn (hr pos pins s1 σ H1 _ I1 q1) λus s2 ⟨xs,H2,I2,r2,q2⟩=>⟨x::xs,H2,I2,.cons r1 r2,q2⟩
noncomputable def z4_ (t:TA):TE:=λσ H Q=>t σ H λxs H1=>xs.length<=sizeLine/\∀p,H1 p=none->Q (.ref p) (upd H1 p (.tup xs))
noncomputable def z5k (t:TA):TE:=λσ H Q=>t σ H λxs H1=>xs.length<=sizeLine/\∀p,H1 p=none->Q (.ref p) (upd H1 p (.lst xs))
theorem JW{x1}(h:PA X es t):PE X (.Tuple es x1 pos) (z4_ t):=by
 intro pins s σ H Q I hq
 refine zaN (thn (h pos pins s σ H _ I hq) λus s1 ⟨xs,H1,I1,r,z,q⟩=>⟨by rw[←r.length];exact z,?_⟩)
 have hf:H1 s1.heap.objs.size=none:=I1.hok.fresh (z5H _)
 refine⟨.ref s1.heap.objs.size,upd H1 s1.heap.objs.size (.tup xs),I1.laid (t':=s1.toks) (λb u e=>z5C _ e) (z5H _) ?_,rfl,q _ hf⟩
 exact⟨z,us,r,⟨_,z5Y _ rfl,rfl,_,rfl⟩⟩
theorem Kn(h:PA X es t):PE X (.List es pos) (z5k t):=by
 intro pins s σ H Q I hq
 refine wpAny_List_spliced (thn (h pos pins s σ H _ I hq) λus s1 ⟨xs,H1,I1,r,z,q⟩=>⟨by rw[←r.length];exact z,?_⟩)
 have hf:H1 s1.heap.objs.size=none:=I1.hok.fresh (z5H _)
 refine⟨.ref s1.heap.objs.size,upd H1 s1.heap.objs.size (.lst xs),I1.laid (t':=s1.toks) (λb u e=>z5C _ e) (z5H _) ?_,rfl,q _ hf⟩
 exact⟨z,us,0,r,z5Y _ rfl⟩
end
noncomputable abbrev Sp:=List V->Hp->VK->XK->Prop
noncomputable abbrev CXT:=List Env->Hp->z5D->XK->Value->z5D->Prop
structure Env0(P:Program)(w:World)(K:PySem.W.Frag)(mg:Str->Option Value)(base:Heap)(A:Around)(outer:List Env)(s:Shared)(H:Hp):Prop where
 frames:A.frames=some outer
 mod:Mod K mg base
 bs:∀b o,base.get? b=some o->s.heap.get? b=some o/\H b=none
 bsz:base.objs.size<=s.heap.objs.size
 funs:s.heap.FunFrames base outer
 frf:∀b∈frs outer,H b=none
 hok:HOk P w H s.heap
 bare:z9B s.gens
inductive CE(outer:List Env)(P:Program)(w:World)(H:Hp)(s:Shared)(Q:VK)(u:Value)(s':Shared):Prop where
 |mk (v:V) (H':Hp) (o:s'.os=s.os) (b:z9B s'.gens) (n:Un (frs outer) [] H H' s.heap s'.heap) (k:HOk P w H' s'.heap) (r:RelV v u) (q:Q v H')
noncomputable def CR (CX:CXT)(outer:List Env)(P:z6f)(w:z6w)(H:Hp)(s:z5D)(Q:VK)(E:XK)(r:zcm)(s':z5D):Prop:=
 match r with
 |.ok (.ret u)=>CE outer P w H s Q u s'
 |.ok _=>False
 |.error e=>CX outer H s E e s'
structure FnOk(P:Program)(w:World)(K:PySem.W.Frag)(mg:Str->Option Value)(base:Heap)(CX:CXT)(k:Nat)(f:Addr)(fd:FuncData)(ps:List Str)(sp:Sp):Prop where
 len:∀vs H Q E,sp vs H Q E->vs.length=ps.length
 run:∀(A:z6e) (outer:List Env) (s:z5D) (H:Hp) (args:Args) (us:List Value) (vs:List V) (Q:VK) (E:XK),Room k A->Env0 P w K mg base A outer s H->zbk s fd args (ps.zip us)->Vals vs us->sp vs H Q E->
  z7n (z5N P w) A (.call (.ref f) args) (CR CX outer P w H s Q E) s
theorem FnOk.imp{P:z6f}{w:z6w}{K:z5G}{mg:Str->Option Value}{base:Heap}{CX:CXT}{k:Nat}{f:Addr}{fd:FuncData}{ps:List Str}{sp sp':Sp}(F:FnOk P w K mg base CX k f fd ps sp)
  (h:∀vs H Q E,sp' vs H Q E->sp vs H Q E):FnOk P w K mg base CX k f fd ps sp':=
 ⟨λvs H Q E q=>F.len vs H Q E (h _ _ _ _ q),λA outer s H args us vs Q E hr he hb hv hs=>F.run A outer s H args us vs Q E hr he hb hv (h _ _ _ _ hs)⟩
theorem Env0.make{P:z6f}{w:z6w}{K:z5G}{mg:Str->Option Value}{base:Heap}{A:z6e}{outer:List Env}{s:z5D}{H:Hp}(e:Env0 P w K mg base A outer s H)(C:Addr)(us:List Value)(kw:List (Str×Value)) :
  Env0 P w K mg base (A.under (.builtin "type.__call__" ⟨.ref C::us,kw⟩)) outer s H:=⟨by first|exact e.frames|(simpa[zbh,Code.envs,zbi,pushEnvs] using e.frames),e.mod,e.bs,e.bsz,e.funs,e.frf,e.hok,e.bare⟩
section
variable {X:Cx}{pins:List (Addr×Obj)}{σ:St}{H:Hp}{s s':Shared}
theorem Inv.env0(I:Inv X pins σ H s):Env0 X.prog X.w X.K X.mg X.base X.A X.stack s H:=
 ⟨I.ok.frames,I.ok.mod,I.bs,z62 I.ok.bsz I.sz,I.stack,I.stkFree,I.hok,I.bare⟩
theorem Inv.after{Q:VK}{u:Value}(I:Inv X pins σ H s)(h:CE X.stack X.prog X.w H s Q u s'):EP X pins σ Q u s':=by
 obtain⟨v,H',os,bare,un,hok,r,q⟩:=h
 obtain⟨hh,g,d,t,os'⟩:=s'
 obtain rfl:os'=s.os:=os
 exact⟨v,H',I.call (h':=hh) (g':=g) (d':=d) (t':=t) (ch:=[]) un hok bare (λb z=>absurd z (by simp)),r,q⟩
end
noncomputable def Binds(K:z5G)(fd:FuncData)(ps:List Str)(ds:List Value):Prop:=
 ∀(s:z5D) (us:List Value),K.In s.heap->(us++ds).length=ps.length->zbk s fd ⟨us,[]⟩ (ps.zip (us++ds))
theorem Binds.all{K:z5G}{fd:FuncData}{ps:List Str}(h:∀us:List Value,us.length=ps.length->z9j fd ⟨us,[]⟩=pure (ps.zip us)):Binds K fd ps []:=λs us _ hl=>by
 rw[z6n] at hl ⊢
 exact .of_eq (h us hl)
section
variable {X:Cx}{CX:CXT}{k:Nat}{f C:Addr}{fd:FuncData}{ps:List Str}{sp:Sp}{dvs:List V}{ds:List Value}{E:XK}{x m:Str}{p pos apos:Pos}{e o:Expr}{es:List Expr}{ta:TE}{t:TA}
structure Mk(K:PySem.W.Frag)(C f:Addr):Prop where
 makes:zc0 K C=true
 init:z64 K (.ref C) "__init__"=some (some (.ref f))
 fn:zbe K (.ref f)=true
 kp:z7C K (.ref C)=true
end
structure FnScope(N P:List Str)(sc:Scope):Prop where
 kind:sc.kind=.function
 co:sc.isCoroutine=false
 gen:sc.isGenerator=false
 nd:N.Nodup
 pre:N.take P.length=P
 par:∀x∈P,sc.names.lookup x=some .local\/sc.names.lookup x=some .cell
 nofree:∀y∈sc.names,y.2≠.free
theorem uo{kindOf:Str->Option z9k}{x:Str}:∀{binds:List (Str×Value)} {m:Str->Option Value},(∀v,(x,v)∉binds)->zco kindOf binds m x=m x
 |[],_,_=>rfl
 |(n,v)::r,m,h=>by
  unfold zco
  rw[uo λw hw=>h w (z5M _ hw)]
  split
  ·have:x≠n:=by rintro rfl;exact h v z5_
   simp[this]
  ·rfl
theorem uh{kindOf:Str->Option z9k}{x:Str}:∀{binds:List (Str×Value)} {m:Str->Option Value},(∀v,(x,v)∉binds)->zcp kindOf binds m x=m x
 |[],_,_=>rfl
 |(n,v)::r,m,h=>by
  unfold zcp
  rw[uh λw hw=>h w (z5M _ hw)]
  split
  ·rfl
  ·have:x≠n:=by rintro rfl;exact h v z5_
   simp[this]
theorem Z1{kindOf:Str->Option z9k}{x:Str}{v:Value}:∀{P:List Str} {vs:List Value} {i:Nat} {m:Str->Option Value},P.Nodup->P[i]?=some x->vs[i]?=some v->kindOf x=some .local->
  zco kindOf (P.zip vs) m x=some v
 |[],_,_,_,_,h,_,_=>by simp at h
 |_::_,[],_,_,_,_,h,_=>by simp at h
 |p::P,w::vs,0,m,nd,h1,h2,hk=>by
  simp at h1 h2;subst h1;subst h2
  show zco kindOf ((p,w)::P.zip vs) m p=_
  unfold zco
  rw[uo λv hv=>(z8m.mp nd).1 (z8W hv).1,if_pos hk]
  simp
 |p::P,w::vs,i+1,m,nd,h1,h2,hk=>by
  show zco kindOf ((p,w)::P.zip vs) m x=_
  unfold zco
  exact Z1 (i:=i) (z8m.mp nd).2 (by simpa using h1) (by simpa using h2) hk
theorem uy{kindOf:Str->Option z9k}{x:Str}{v:Value}:∀{P:List Str} {vs:List Value} {i:Nat} {m:Str->Option Value},P.Nodup->P[i]?=some x->vs[i]?=some v->kindOf x≠some .local->
  zcp kindOf (P.zip vs) m x=some v
 |[],_,_,_,_,h,_,_=>by simp at h
 |_::_,[],_,_,_,_,h,_=>by simp at h
 |p::P,w::vs,0,m,nd,h1,h2,hk=>by
  simp at h1 h2;subst h1;subst h2
  show zcp kindOf ((p,w)::P.zip vs) m p=_
  unfold zcp
  rw[uh λv hv=>(z8m.mp nd).1 (z8W hv).1,if_neg hk]
  simp
 |p::P,w::vs,i+1,m,nd,h1,h2,hk=>by
  show zcp kindOf ((p,w)::P.zip vs) m x=_
  unfold zcp
  exact uy (i:=i) (z8m.mp nd).2 (by simpa using h1) (by simpa using h2) hk
noncomputable def start(N:List Str)(vs:List V):St:=vs.map some++z7_ (N.length-vs.length) none
noncomputable def WV (CX:CXT)(P:z6f)(w:z6w)(K:z5G)(mg:Str->Option Value)(base:Heap)(N:List Str)(qual:Str)(scope:Scope)(f:Addr)(cd:Value)(A:z6e)(outer:List Env)(s:z5D)(H:Hp)(E:XK)(fnb:Str->Bool:=λ_=>true):Cx where
 prog:=P
 w:=w
 K:=K
 mg:=mg
 base:=base
 A:=A.deeper (z9l qual scope s.heap.objs.size f cd)
 N:=N
 s₀:=s
 H₀:=H
 env:=z9l qual scope s.heap.objs.size f cd
 outer:=outer
 stack:=z9l qual scope s.heap.objs.size f cd::outer
 ex:=[]
 calm:=true
 fn:=fnb
 pn:=[]
 xe:=λe s'=>z5K (z5N P w) (A.deeper (z9l qual scope s.heap.objs.size f cd)) (zdd (z9l qual scope s.heap.objs.size f cd) e) (λ_ s''=>CX outer H s E e s'') (λe' s''=>CX outer H s E e' s'') s'
theorem Qr{sc:Scope}{n:Nat}{x:Str}(h:sc.names.lookup x=some .cell):∃c,(zbP n sc.names []).lookup x=some c:=by
 have q:=z8z sc.names n [] (.inl h)
 exact z8b.mp q
theorem uv{CX:CXT}{P:z6f}{w:z6w}{K:z5G}{mg:Str->Option Value}{base:Heap}{N ps:List Str}{qual:Str}{scope:Scope}{f:Addr}{cd:Value}{A:z6e}{outer:List Env}{s s1:z5D}{H:Hp}{E:XK}{us:List Value}{vs:List V}{fnb:Str->Bool}
  (S:FnScope N ps scope) (hd:A.handled=none) (e0:Env0 P w K mg base A outer s H) (hl:vs.length=ps.length) (r:Vals vs us)
  (x:InCallC s s.heap.objs.size (zco (z9l qual scope s.heap.objs.size f cd).kindOf (ps.zip us) λ_=>none) (zbP (s.heap.objs.size+1) scope.names []) (zcp (z9l qual scope s.heap.objs.size f cd).kindOf (ps.zip us) λ_=>none) s1) :
  Inv (WV CX P w K mg base N qual scope f cd A outer s H E fnb) [] (start N vs) H s1:=by
 have hpl:ps.length<=N.length:=by have:=congrArg zbW S.pre;rw[z7D] at this;omega
 obtain⟨h1,tk,rfl,hk⟩:=x.done
 have noA:∀b:Addr,b∉(WV CX P w K mg base N qual scope f cd A outer s H E fnb).ex:=λb z=>absurd (show b∈([]:List Addr) from z) (by simp)
 refine⟨⟨e0.mod,S.kind,rfl,rfl,z5H _,λy z c h1 h2=>?_,λy hy=>?_,λy c _ h=>?_,λ_=>hd,z8U e0.frames,.inr ⟨rfl,rfl⟩,λb z=>absurd z (noA b),e0.bs,e0.bsz,λb _ _=>noA b,λb z=>absurd z (noA b),e0.funs,e0.frf⟩,
  rfl,e0.bare,Un.kept hk,⟨_,x.toInCall.ns,λi y v h1 h2 h3=>?_⟩,λy c h=>⟨_,x.cell y c h⟩,e0.hok.fresh (z5H _),λy c h=>?_,λp hp=>absurd (show p∈([]:List (Addr×Obj)) from hp) (by simp),e0.hok.kept hk,?_⟩
 ·exact name_of_addr x.apart (z6u h1) (z6u h2)
 ·have hy:scope.names.lookup y=some .cell\/scope.names.lookup y=some .free:=hy
  rcases hy with hy|hy
  ·exact Qr hy
  ·exact absurd rfl (S.nofree _ (z6u hy))
 ·exact z97 (x.above y c (z6u h))
 ·have hi:i<vs.length:=by
   unfold start at h2
   by_cases hi:i<vs.length
   ·exact hi
   ·rw[z5U (by simpa using hi)] at h2
    rw[z7E] at h2
    split at h2<;>cases h2
  have ha:vs[i]?=some v:=by
   unfold start at h2
   rw[z5I (by simpa using hi),z67] at h2
   cases e:vs[i]? with
   |none=>rw[e] at h2;cases h2
   |some a=>rw[e] at h2;cases h2;rfl
  obtain⟨u,hu,rv⟩:=r.get ha
  have hp:ps[i]?=some y:=by
   rw[←S.pre,List.getElem?_take_of_lt (by omega)];exact h1
  have ndP:ps.Nodup:=by rw[←S.pre];exact S.nd.sublist (zbl _ _)
  refine⟨u,rv,?_⟩
  rcases S.par y (z5T hp) with k|k
  ·exact .inl ⟨k,Z1 ndP hp hu k⟩
  ·obtain⟨c,e⟩:=Qr (n:=s.heap.objs.size+1) k
   refine .inr ⟨.inl k,c,e,?_⟩
   have q:=x.cell y c e
   rw[uy ndP hp hu (by show scope.names.lookup y≠_;rw[k];decide)] at q
   exact q
 ·exact .inl (e0.hok.fresh (z97 (x.above y c (z6u h))))
 ·unfold start
  show _=N.length
  rw[z63,z5R,zas]
  omega
theorem z0E{CX:CXT}{P:z6f}{w:z6w}{K:z5G}{mg:Str->Option Value}{base:Heap}{k:Nat}{f:Addr}{name qual:Str}{params:Arguments}{body:List Stmt}{scope:Scope}{dV kV doc pm cdv ct oc:Value}{an od:Option Addr}
  {osl:Array (Option Value)} {N ps:List Str} {sp:Sp} {fnb:Str->Bool} (lk:K.lookup f=some ⟨oc,od,.func (z6g name qual params body scope dV kV doc pm an cdv ct),osl⟩) (hcd:z6L K cdv qual=true) (S:FnScope N ps scope)
  (len:∀vs H Q E,sp vs H Q E->vs.length=ps.length)
  (hbody:∀(A:z6e) (outer:List Env) (s:z5D) (H:Hp) (vs:List V) (Q:VK) (E:XK),Room k (A.deeper (z9l qual scope s.heap.objs.size f cdv))->sp vs H Q E->(∀y c,(z9l qual scope s.heap.objs.size f cdv).cells.lookup y=some c->s.heap.objs.size<=c/\H c=none)->
   ∃t,PSs (WV CX P w K mg base N qual scope f cdv A outer s H E fnb) body t/\t {nx:=λ_ H'=>Q .non H',rt:=Q} (start N vs) H) :
  FnOk P w K mg base CX (k+1) f (z6g name qual params body scope dV kV doc pm an cdv ct) ps sp:=by
 refine⟨len,λA outer s H args us vs Q E hr e0 hb r hsp=>?_⟩
 have hl:=len _ _ _ _ hsp
 have KX:K.In s.heap:=e0.mod.kin.keeps λb o e=>(e0.bs b o e).1
 have lim:s.heap.NoLimit:=e0.mod.nolimit.keeps λb o e=>(e0.bs b o e).1
 have hkind:∀y∈ps.zip us,scope.names.lookup y.1=some .local\/(scope.names.lookup y.1=some .cell/\((zbP (s.heap.objs.size+1) scope.names []).lookup y.1).isSome=true):=λ⟨n,v⟩ hy=>by
  rcases S.par n (z8W hy).1 with q|q
  ·exact .inl q
  ·exact .inr ⟨q,z8z _ _ _ (.inl q)⟩
 refine z8J hr.depth (KX _ _ lk) rfl S.co S.gen rfl (zb2 KX hcd) (hb _ _ _ _ ?_)
 refine z9m S.kind hkind λenv he s1 x=>?_
 subst he
 refine⟨lim.keeps x.toInCall.keep,zbm ?_⟩
 obtain⟨t,ht,hq⟩:=hbody A outer s H vs Q E (hr.deeper _) hsp λy c h=>have l:=z97 (x.above y c (z6u h));⟨l,e0.hok.fresh l⟩
 have I:Inv (WV CX P w K mg base N qual scope f cdv A outer s H E fnb) [] (start N vs) H s1:=uv S hr.hd e0 hl r x
 refine z6j (ht [] s1 (start N vs) H _ I hq) (λfl s' hs=>?_) λe s' hs=>hs
 have fin:∀{σ':St} {H':Hp} {v:V} {u:Value},Inv (WV CX P w K mg base N qual scope f cdv A outer s H E fnb) [] σ' H' s'->RelV v u->Q v H'->CE outer P w H s Q u s':=
  λ{σ' H' v u} J rv q=>⟨v,H',J.os,J.bare,J.base,J.hok,rv,q⟩
 cases fl with
 |ret u=>
  obtain⟨v,σ',H',J,rv,q⟩:=hs
  exact fin J rv q
 |next=>
  obtain⟨σ',H',J,q⟩:=hs
  exact fin (v:=V.non) (u:=z6E) J rfl q
 |brk=>
  obtain⟨_,_,_,q⟩:=hs
  exact z69 q
 |cont=>
  obtain⟨_,_,_,q⟩:=hs
  exact z69 q
end L2
namespace HT
open PySem PyProof.Rows
noncomputable def lexLt:List Int->List Int->Bool
 |[],[]=>false
 |[],_::_=>true
 |_::_,[]=>false
 |x::xs,y::ys=>if x=y then lexLt xs ys else decide (x<y)
theorem Wo(x y:Int)(xs ys:List Int):lexLt (x::xs) (y::ys)=if x=y then lexLt xs ys else decide (x<y):=rfl
theorem yW:lexLt [] []=false:=rfl
theorem ym(y:Int)(ys:List Int):lexLt [] (y::ys)=true:=rfl
theorem yB(x:Int)(xs:List Int):lexLt (x::xs) []=false:=rfl
theorem yK(A:z6e)(s:z5D)(a:Int)(t:Tok)(c:Int)(u:Tok):∃e,z7O A s (.int a t) (.int c u) e/\(e=true↔a=c):=
 ⟨(a == c),zb3 a t c u,by simp⟩
theorem XB(A:z6e)(s:z5D)(a:Int)(t:Tok)(c:Int)(u:Tok)(prog:z6f)(w:z6w)(E:Value->z5D->Prop)(Q:Value->z5D->Prop)(h:Q (.bool (decide (a<c))) s) :
  z5K (z5N prog w) A (zbX .Lt (.int a t) (.int c u)) Q E s:=
 (zdz h:z5K (z5N prog w) A (z6B .Lt (.int a t) (.int c u)) Q E s)
section
open PySem.SeqAt
open PySem.AutoSeq1 (wpAny_loadPart')
open PySem.MeetsSeq PySem.MeetsSeq2 PySem.MeetsSeq3
theorem yY(l b:Addr)(items items2:Array Value)(n n2:Nat)(dd dd2:Option Addr)(sl sl2:Array (Option Value))(ns ms:List Int)(hi:z75 items.toList ns)(hj:z75 items2.toList ms) :
  Meets (z99.«tuple.__lt__» ⟨[.ref l,.ref b],[]⟩)
   (λ_ R s=>s.heap.get? l=some {cls:=.type "tuple",dict:=dd,data:=.seq items n,slots:=sl}/\s.heap.get? b=some {cls:=.type "tuple",dict:=dd2,data:=.seq items2 n2,slots:=sl2}/\
    R (.ok (.ret (.bool (lexLt ns ms)))) s):=
 .of_wp λprog w A R s h=>by
  obtain⟨hp,g,d,tk,os⟩:=s;obtain⟨hl,hb,h⟩:=h
  have f2:=AutoSeq1.sub_tuple_tuple
  have z1:items.size=ns.length:=by rw[←hi.length];simp
  have z2:items2.size=ms.length:=by rw[←hj.length];simp
  wp_walk using zc1 hl,zc1 hb,wpAny_forIn_list _ (λrest b s'=>b.1=none/\s'=⟨hp,g,d,tk,os⟩/\∃(vs ws:List Value) (ns' ms':List Int),rest=vs.zip ws/\
   z75 vs ns'/\z75 ws ms'/\ns'.length+items2.size=ms'.length+items.size/\R (.ok (.ret (.bool (lexLt ns' ms')))) ⟨hp,g,d,tk,os⟩) _
  case turn=>
   rintro⟨y,x⟩ rest b s' ⟨hb',rfl,vs,ws,ns',ms',hz,hvi,hwi,hlen,hR⟩
   cases hvi with
   |nil=>rw[List.zip_nil_left] at hz;cases hz
   |cons a t hvi'=>
    cases hwi with
    |nil=>rw[List.zip_nil_right] at hz;cases hz
    |cons c u hwi'=>
     rw[zb4] at hz
     injection hz with hyx hrest
     injection hyx with hy hx
     subst hy hx
     rw[Wo] at hR
     simp only[z68] at hlen
     obtain⟨e,he,hiff⟩:=yK A.in1 ⟨hp,g,d,tk,os⟩ a t c u
     refine z5z (he prog w _ _ ?_)
     cases e with
     |true=>
      rw[if_pos (hiff.mp rfl)] at hR
      wp_walk
      exact⟨rfl,rfl,_,_,_,_,hrest,hvi',hwi',by omega,hR⟩
     |false=>
      rw[if_neg (λq=>absurd (hiff.mpr q) z66)] at hR
      have hri:=XB A.in1 ⟨hp,g,d,tk,os⟩ a t c u prog w
      wp_walk using hri
      exact⟨_,rfl,by simpa using hR⟩
  case fin=>
   rintro⟨b1,b2⟩ s' ⟨hb',rfl,vs,ws,ns',ms',hz,hvi,hwi,hlen,hR⟩
   simp only at hb'
   subst hb'
   have hv:lexLt ns' ms'=decide (items.size<items2.size):=by
    cases hvi with
    |nil=>
     cases hwi with
     |nil=>
      simp only[z72] at hlen
      rw[yW]
      exact (decide_eq_false (by omega)).symm
     |cons c u hw=>
      simp only[z72,z68] at hlen
      rw[ym]
      exact (decide_eq_true (by omega)).symm
    |cons a t hv=>
     cases hwi with
     |nil=>
      simp only[z72,z68] at hlen
      rw[yB]
      exact (decide_eq_false (by omega)).symm
     |cons c u hw=>
      rw[zb4] at hz
      cases hz
   rw[hv] at hR
   wp_walk
   exact⟨_,rfl,by simpa[zbJ] using hR⟩
  case h=>
   exact⟨rfl,rfl,items.toList,items2.toList,ns,ms,rfl,hi,hj,by omega,h⟩
end
section
variable {prog:Program}{w:World}{A:Around}{E:Value->Shared->Prop}{s:Shared}
theorem lt_tupInts{l b:Addr}{items items2:Array Value}{ns ms:List Int}{Q:Value->z5D->Prop}(hl:zch s.heap l items)(hb:zch s.heap b items2)(hi:z75 items.toList ns)(hj:z75 items2.toList ms)
  (hu:A.units<cLine) (h:Q (.bool (lexLt ns ms)) s):z5K (z5N prog w) A (z6B .Lt (.ref l) (.ref b)) Q E s:=by
 obtain⟨⟨cls,dd,data,sl⟩,ho,hc,n,hd⟩:=id hl
 obtain⟨⟨cls2,dd2,data2,sl2⟩,ho2,hc2,n2,hd2⟩:=id hb
 simp only at hc hd hc2 hd2
 subst hc hd hc2 hd2
 exact richCompare_meets_room (op:=.Lt) ⟨_,ho,rfl⟩ ⟨_,ho2,rfl⟩ PySem.F.slot_tuple_lt PySem.F.entry_tuple_lt (PySem.F.args_tuple_lt_2 _ _) (yY l b items items2 n n2 dd dd2 sl sl2 ns ms hi hj)
  ⟨ho,ho2,show za7 (lexLt ns ms)≠Value.notImplemented/\Q (.bool (lexLt ns ms)) s from ⟨(λx=>nomatch x),h⟩⟩ hu
theorem cat_tup{t b:Addr}{vs ws:List Value}{Q:Value->z5D->Prop}(ht:zch s.heap t vs.toArray)(hb:zch s.heap b ws.toArray)(hv:vs≠[])
  (h1:ws=[]->Q (.ref t) s) (h2:ws≠[]->Q (.ref s.heap.objs.size) {s with heap:=s.heap.push {cls:=.type "tuple",data:=.seq (vs++ws).toArray}})
  (hsz:vs.length+ws.length<=sizeLine):z5K (z5N prog w) A (z7l .Add (.ref t) (.ref b)) Q E s:=by
 obtain⟨⟨cls,dd,data,sl⟩,ho,hc,n,hd⟩:=id ht
 obtain⟨⟨cls2,dd2,data2,sl2⟩,ho2,hc2,n2,hd2⟩:=id hb
 simp only at hc hd hc2 hd2
 subst hc hd hc2 hd2
 have e:vs.toArray++ws.toArray=(vs++ws).toArray:=by simp
 by_cases hw:ws=[]
 ·exact zbn ⟨_,ho,rfl⟩ ⟨_,ho2,rfl⟩ z9T zaW z8A z8s (z8c _ _)
   (tuple_addW1 t b vs.toArray ws.toArray n n2 dd dd2 sl sl2 (by simpa using hv) (by simp[hw])) ⟨ho,ho2,h1 hw⟩
 ·refine zbn ⟨_,ho,rfl⟩ ⟨_,ho2,rfl⟩ z9T zaW z8A z8s (z8c _ _)
   (tuple_addW2 t b vs.toArray ws.toArray n n2 dd dd2 sl sl2 (by simpa using hv) (by simpa using hw) (by rw[z5W,z5W];exact hsz)) ⟨ho,ho2,?_⟩
  rw[e]
  exact h2 hw
noncomputable def sIx(n d:Nat):Option Int->Nat
 |none=>d
 |some v=>if v<0 then (v+(n:Int)).toNat else min v.toNat n
theorem z2N(n d:Nat)(hd:d<=n)(o:Option Int):sIx n d o<=n:=by
 cases o with
 |none=>exact hd
 |some v=>
  show (if v<0 then (v+(n:Int)).toNat else min v.toNat n)<=n
  by_cases hv:v<0
  ·rw[if_pos hv];omega
  ·rw[if_neg hv];exact Nat.min_le_right _ _
theorem VC(v:Int)(n d:Nat):(if v<0 then max (v+(n:Int)) 0 else min v (n:Int))=((sIx n d (some v):Nat):Int):=by
 show (if v<0 then max (v+(n:Int)) 0 else min v (n:Int))=(((if v<0 then (v+(n:Int)).toNat else min v.toNat n):Nat):Int)
 by_cases hv:v<0
 ·simp only[if_pos hv];omega
 ·simp only[if_neg hv];omega
theorem Wy(lo hi:Option Int)(n:Nat):z8a lo hi 1 (n:Int)=(((sIx n 0 lo:Nat):Int),((sIx n n hi:Nat):Int)):=by
 have h1:¬((1:Int)<0):=by omega
 unfold z8a
 simp only[h1,if_false]
 refine Prod.ext ?_ ?_
 ·cases lo with
  |none=>rfl
  |some v=>exact VC v n 0
 ·cases hi with
  |none=>rfl
  |some v=>exact VC v n n
theorem Wd(i j:Nat):z7j (i:Int) (j:Int) 1=j-i:=by
 unfold z7j
 have h1:(1:Int) > 0:=by omega
 simp only[h1,if_true,zbo]
 split<;>omega
theorem xR{v:Value}{o:Option Int}{Q:Option Int->z5D->Prop}(p:zaa v o)(h:Q o s):z5K (z5N prog w) A (zc3 v) Q E s:=by
 cases p with
 |none=>exact slicePart_none h
 |int i t=>exact slicePart_int h
theorem sliceApplied_gen{sl:Addr}{vl vu:Value}{lo hi:Option Int}{n:Nat}{Q:Int×Int×Nat->z5D->Prop}(hs:s.heap.IsSliceOf sl vl vu .none)(pl:zaa vl lo)(pu:zaa vu hi)
  (h:Q (((sIx n 0 lo:Nat):Int),1,sIx n n hi-sIx n 0 lo) s):z5K (z5N prog w) A (z9n (.ref sl) (pure (n:Int))) Q E s:=by
 obtain⟨os,hos,hcs,hds⟩:=id hs
 unfold z9n zcQ
 refine z5z (z5z (z7c hos hds (x:=vl) rfl (z5z (z7c hos hds (x:=vu) rfl (z5z (z7c hos hds (x:=.none) rfl (z5E ?_)))))))
 refine z5z (slicePart_none ?_)
 show z5K _ _ (if ((1:Int) == 0)=true then _ else _) _ _ s
 rw[if_neg (by decide)]
 refine z5z (xR pl (z5z (xR pu (z5z (z5E ?_)))))
 show z5K _ _ (match z8a lo hi 1 (n:Int) with|(lo,hi)=>pure (lo,(1:Int),z7j lo hi 1)) _ _ s
 rw[Wy lo hi n]
 show z5K _ _ (pure (((sIx n 0 lo:Nat):Int),(1:Int),z7j ((sIx n 0 lo:Nat):Int) ((sIx n n hi:Nat):Int) 1)) _ _ s
 rw[Wd]
 exact z5E h
theorem Yj(xs:Array Value)(i k:Nat):((z6R k).filterMap λ(m:Nat)=>xs[((i:Int)+(m:Int) * 1).toNat]?).toArray=((xs.toList.drop i).take k).toArray:=by
 have e:(λ(m:Nat)=>xs[((i:Int)+(m:Int) * 1).toNat]?)=λm=>xs[i+m]?:=by
  funext m
  have:((i:Int)+(m:Int) * 1).toNat=i+m:=by omega
  rw[this]
 rw[e]
 have:=pick_run xs i k
 rw[List.filterMap_map] at this
 have e2:((λx=>xs[x]?) ∘ λx=>i+x)=λm=>xs[i+m]?:=rfl
 rw[e2] at this
 rw[this]
theorem getItem_tuple_cut{t sl:Addr}{items:Array Value}{vl vu:Value}{lo hi:Option Int}{Q:Value->z5D->Prop}(ht:zch s.heap t items)(hs:s.heap.IsSliceOf sl vl vu .none)(pl:zaa vl lo)(pu:zaa vu hi)
  (hw:¬(sIx items.size 0 lo=0/\sIx items.size items.size hi=items.size))
  (h:Q (.ref s.heap.objs.size) {s with heap:=s.heap.push {cls:=.type "tuple",data:=.seq ((items.toList.drop (sIx items.size 0 lo)).take (sIx items.size items.size hi-sIx items.size 0 lo)).toArray}})
  (hsz:items.size<=sizeLine):z5K (z5N prog w) A (zab (.ref t) (.ref sl)) Q E s:=by
 have htake:sizeOk (.seq ((items.toList.drop (sIx items.size 0 lo)).take (sIx items.size items.size hi-sIx items.size 0 lo)).toArray):=by
  show ((items.toList.drop (sIx items.size 0 lo)).take (sIx items.size items.size hi-sIx items.size 0 lo)).toArray.size<=sizeLine
  rw[z5W,z7D,z9U,z92]
  omega
 have hj:sIx items.size items.size hi<=items.size:=z2N _ _ (z5H _) hi
 obtain⟨os,hos,hcs,hds⟩:=id hs
 have hTs:s.TypeIs (.ref sl) "slice":=⟨os,hos,hcs⟩
 unfold zab
 try with_reducible refine z60 ?_
 first|refine z5z (z5E ?_)|skip
 refine z5z (zbp ht.typeIs (by decide) ?_)
 refine z5z (z8t (name:=z6W "__getitem__") ht.typeIs z6P
  (z9V z6P ht.typeIs zaO ?_ (zb5 _ _)))
 show z5K _ _ (z9o (.ref t) >>= _) _ _ s
 refine z5z (tupleItemsOf_ ht ?_)
 refine z5z (z8B hTs ?_)
 rw[if_pos (by decide)]
 refine z5z (sliceApplied_gen hs pl pu ?_)
 have hno:¬((((sIx items.size 0 lo:Nat):Int) == 0&&(1:Int) == 1&&(sIx items.size items.size hi-sIx items.size 0 lo) == items.size)=true):=by
  intro q
  rw[z5B,z5B] at q
  have q1:((sIx items.size 0 lo:Nat):Int)=0:=eq_of_beq q.1.1
  have q2:sIx items.size items.size hi-sIx items.size 0 lo=items.size:=eq_of_beq q.2
  exact hw ⟨by omega,by omega⟩
 show z5K _ _ (if (((sIx items.size 0 lo:Nat):Int) == 0&&(1:Int) == 1&&(sIx items.size items.size hi-sIx items.size 0 lo) == items.size)=true then _ else _) _ _ s
 rw[if_neg hno,Yj]
 first
  |exact z5z (m:=z7w _) (z6_ (z5E ⟨_,rfl,z5E h⟩) htake)
  |exact z5z (m:=z7w _) (z6_ (z5z (z5E (z5E ⟨_,rfl,z5E h⟩))) htake)
  |exact z5z (z5z (m:=z7w _) (z6_ (z5E (z5E ⟨_,rfl,z5E h⟩)) htake))
  |exact z5z (z5z (m:=z7w _) (z6_ (z5E ⟨_,rfl,z5E h⟩) htake))
end
end HT
namespace L2
open PySem PySem.Spec PyProof.Rows
noncomputable abbrev TO:=St->Hp->(Option Int->Hp->Prop)->Prop
noncomputable def PO (X:Cx)(e:Option Expr)(t:TO):Prop:=
 ∀(pins:List (Addr×Obj)) (s:z5D) (σ:St) (H:Hp) (Q:Option Int->Hp->Prop),Inv X pins σ H s->t σ H Q->
  z5K (z5N X.prog X.w) X.A (evalPart e X.env) (λu s'=>∃o H',Inv X pins σ H' s'/\zaa u o/\Q o H') X.xe s
noncomputable def Uv:TO:=λ_ H Q=>Q none H
noncomputable def z3E(t:TE):TO:=λσ H Q=>t σ H λx H1=>∃i,x=.int i/\Q (some i) H1
theorem intsAre_of{ns:List Int}:∀{us:List Value},Vals (ns.map V.int) us->z75 us ns:=by
 induction ns with
 |nil=>intro us r;rw[zde] at r;cases r;exact .nil
 |cons n ns ih=>
  intro us r
  rw[z6V] at r
  cases r with
  |cons r1 r2=>
   obtain⟨t,e⟩:=r1
   subst e
   exact .cons n t (ih r2)
section
variable {X:Cx}{e:Expr}{te:TE}{lo hi:Option Expr}{tl th:TO}{pos p2:Pos}
theorem YN:PO X none Uv:=by
 intro pins s σ H Q I h
 rw[evalPart_none]
 exact z5E ⟨none,H,I,.none,h⟩
theorem z0a(h:PE X e te):PO X (some e) (z3E te):=by
 intro pins s σ H Q I hw
 rw[evalPart_some]
 refine thn (h pins s σ H _ I hw) λu s1 ⟨x,H1,I1,r1,q1⟩=>?_
 obtain⟨i,rfl,q⟩:=q1
 obtain⟨t,rfl⟩:=r1
 exact⟨some i,H1,I1,.int i t,q⟩
noncomputable def SlR (X:Cx)(r:V->Option Int->Option Int->Hp->VK->Prop):Prop:=
 ∀(pins:List (Addr×Obj)) (s:z5D) (σ:St) (H:Hp) (x:V) (v vl vu:Value) (lo hi:Option Int) (sl:Addr) (Q:VK),Inv X pins σ H s->RelV x v->s.heap.IsSliceOf sl vl vu .none->zaa vl lo->zaa vu hi->r x lo hi H Q->
  ∃T id,zb6 (.type T) "__getitem__"=pure (some (.builtin id))/\s.TypeIs v T/\z5K (z5N X.prog X.w) X.A (zab v (.ref sl)) (EP X pins σ Q) X.xe s
theorem SlR.or{r r':V->Option Int->Option Int->Hp->VK->Prop}(h:SlR X r)(h':SlR X r'):SlR X (λx lo hi H Q=>r x lo hi H Q\/r' x lo hi H Q):=by
 intro pins s σ H x v vl vu lo hi sl Q I rx hs pl pu q
 rcases q with q|q
 ·exact h pins s σ H x v vl vu lo hi sl Q I rx hs pl pu q
 ·exact h' pins s σ H x v vl vu lo hi sl Q I rx hs pl pu q
noncomputable def tSl (r:V->Option Int->Option Int->Hp->VK->Prop)(te:TE)(tl th:TO):TE:=λσ H Q=>te σ H λx H1=>tl σ H1 λl H2=>th σ H2 λu H3=>r x l u H3 Q
theorem XO{r:V->Option Int->Option Int->Hp->VK->Prop}(hr:SlR X r)(he:PE X e te)(hl:PO X lo tl)(hu:PO X hi th):PE X (.Subscript e (.Slice lo hi none p2) pos) (tSl r te tl th):=by
 intro pins s σ H Q I h
 refine Subscript_ (thn (he pins s σ H _ I h) λv s1 ⟨x,H1,I1,r1,q1⟩=>?_)
 refine wpAny_Slice (thn (hl pins s1 σ H1 _ I1 q1) λvl s2 ⟨l,H2,I2,pl,q2⟩=>thn (hu pins s2 σ H2 _ I2 q2) λvu s3 ⟨u,H3,I3,pu,q3⟩=>?_)
 rw[evalPart_none]
 refine z5E ?_
 have I4:Inv X pins σ H3 {s3 with heap:=s3.heap.push {cls:=.type "slice",data:=.fields #[vl,vu,.none]}}:=I3.kept (t':=s3.toks) λb ob q=>z5C _ q
 obtain⟨T,id,hT,ht,hg⟩:=hr pins {s3 with heap:=s3.heap.push {cls:=.type "slice",data:=.fields #[vl,vu,.none]}} σ H3 x v vl vu l u s3.heap.objs.size Q I4 r1 (zdC ..) pl pu q3
 show z5K (z5N X.prog X.w) X.A (subscriptTail e (.Slice lo hi none p2) v (.ref s3.heap.objs.size)) (EP X pins σ Q) X.xe {s3 with heap:=s3.heap.push {cls:=.type "slice",data:=.fields #[vl,vu,.none]}}
 exact tail_any (ops:=[.ref s3.heap.objs.size,v]) ht hT hg (by with_unfolding_all rfl)
noncomputable def yP (xs:List V)(lo hi:Option Int):List V:=(xs.drop (HT.sIx xs.length 0 lo)).take (HT.sIx xs.length xs.length hi-HT.sIx xs.length 0 lo)
theorem kT(xs:List V)(lo hi:Option Int):(yP xs lo hi).length<=xs.length:=by
 unfold yP
 rw[z7D,z9U]
 omega
noncomputable def z4Z (K:z5G):V->Option Int->Option Int->Hp->VK->Prop:=λx lo hi H Q=>∃a xs,x=.ref a/\SqT K H a xs/\
 ¬(HT.sIx xs.length 0 lo=0/\HT.sIx xs.length xs.length hi=xs.length)/\∀p,H p=none->Q (.ref p) (upd H p (.tup (yP xs lo hi)))
theorem z35:SlR X (z4Z X.K):=by
 intro pins s σ H x v vl vu lo hi sl Q I rx hs pl pu h
 obtain⟨a,xs,rfl,hx,hw,q⟩:=h
 cases rx
 obtain⟨its,r,ht,hz⟩:=I.tuple hx
 have hlen:its.toArray.size=xs.length:=by rw[z5W];exact r.length.symm
 refine⟨"tuple",_,z6P.lookup,ht.typeIs,?_⟩
 refine HT.getItem_tuple_cut ht hs pl pu (by rw[hlen];exact hw) ?_ (by rw[hlen];exact hz)
 rw[hlen]
 refine⟨.ref s.heap.objs.size,_,I.laid (t':=s.toks) (o:=.tup (yP xs lo hi)) (λb ob q=>z5C _ q) (z5H _) ?_,rfl,q _ (I.hok.fresh (z5H _))⟩
 exact⟨z62 (kT xs lo hi) hz,_,(r.drop (HT.sIx xs.length 0 lo)).take (HT.sIx xs.length xs.length hi-HT.sIx xs.length 0 lo),zdL _ _⟩
noncomputable def z5p (K:z5G):R2:=λx y H Q=>∃a b ns ms,x=.ref a/\y=.ref b/\SqT K H a (ns.map V.int)/\SqT K H b (ms.map V.int)/\Q (.bl (HT.lexLt ns ms)) H
theorem z2W(hu:X.A.units<cLine):OpR X (z6B .Lt) (z5p X.K):=by
 intro pins s σ H x y v u Q I rx ry h
 obtain⟨a,b,ns,ms,rfl,rfl,ha,hb,q⟩:=h
 cases rx
 cases ry
 obtain⟨its,r1,p1,_⟩:=I.tuple ha
 obtain⟨its2,r2,p2,_⟩:=I.tuple hb
 have i1:z75 its.toArray.toList ns:=intsAre_of r1
 have i2:z75 its2.toArray.toList ms:=intsAre_of r2
 exact HT.lt_tupInts p1 p2 i1 i2 hu ⟨.bl (HT.lexLt ns ms),H,I,rfl,q⟩
noncomputable def z4v(K:z5G):R2:=λx y H Q=>∃a b xs ys,x=.ref a/\y=.ref b/\SqT K H a xs/\SqT K H b ys/\xs≠[]/\xs.length+ys.length<=sizeLine/\
 (ys=[]->Q (.ref a) H)/\(ys≠[]->∀p,H p=none->Q (.ref p) (upd H p (.tup (xs++ys))))
theorem Vals.nil_iff{xs:List V}{us:List Value}(r:Vals xs us):us=[]↔xs=[]:=by
 cases r with
 |nil=>simp
 |cons _ _=>simp
theorem UU:OpR X (z7l .Add) (z4v X.K):=by
 intro pins s σ H x y v u Q I rx ry h
 obtain⟨a,b,xs,ys,rfl,rfl,ha,hb,hx,hz,q1,q2⟩:=h
 cases rx
 cases ry
 obtain⟨its,r1,p1,_⟩:=I.tuple ha
 obtain⟨its2,r2,p2,_⟩:=I.tuple hb
 refine HT.cat_tup p1 p2 (λz=>hx (r1.nil_iff.mp z)) (λz=>⟨.ref a,H,I,rfl,q1 (r2.nil_iff.mp z)⟩) (λz=>?_) (by rw[←r1.length,←r2.length];exact hz)
 refine⟨.ref s.heap.objs.size,_,I.laid (t':=s.toks) (o:=.tup (xs++ys)) (λb ob q=>z5C _ q) (z5H _) ?_,rfl,q2 (λw=>z (r2.nil_iff.mpr w)) _ (I.hok.fresh (z5H _))⟩
 exact⟨by rw[z63];exact hz,_,r1.append r2,zdL _ _⟩
end
end L2
namespace L2
open PySem PySem.Spec PyProof.Rows
noncomputable def ixN(n:Nat)(i:Int):Option Nat:=if 0<=i then (if i<n then some i.toNat else none) else if -(n:Int)<=i then some (i+n).toNat else none
noncomputable def atI {α:Type}(xs:List α)(i:Int):Option α:=(ixN xs.length i).bind λj=>xs[j]?
theorem Uk{n:Nat}{i:Int}{j:Nat}(h:ixN n i=some j):seqIndex? i n=some j/\j<n /\ -(n:Int)<=i/\i<n:=by
 unfold ixN at h
 by_cases h0:0<=i
 ·rw[if_pos h0] at h
  by_cases h1:i<n
  ·rw[if_pos h1] at h
   have e:i.toNat=j:=z5F h
   exact⟨by rw[seqIndex_of h0 h1,e],by omega,by omega,h1⟩
  ·rw[if_neg h1] at h;cases h
 ·rw[if_neg h0] at h
  by_cases h1:-(n:Int)<=i
  ·rw[if_pos h1] at h
   have e:(i+n).toNat=j:=z5F h
   exact⟨by rw[seqIndex_neg (by omega) h1,e],by omega,h1,by omega⟩
  ·rw[if_neg h1] at h;cases h
theorem ZQ{α:Type}{xs:List α}{i:Int}{v:α}(h:atI xs i=some v):∃j,seqIndex? i xs.length=some j/\xs[j]?=some v/\j<xs.length /\ -(xs.length:Int)<=i/\i<xs.length:=by
 unfold atI at h
 cases e:ixN xs.length i with
 |none=>rw[e] at h;cases h
 |some j=>
  rw[e] at h
  obtain⟨h1,h2,h3,h4⟩:=Uk e
  exact⟨j,h1,h,h2,h3,h4⟩
noncomputable def Yz(b:Expr):Prop:=∀o i,subscripted b false o i=operate [o,i] (zab o i)
noncomputable def IxR (X:Cx)(r:R2):Prop:=
 ∀(value slice:Expr) (pins:List (Addr×Obj)) (s:z5D) (σ:St) (H:Hp) (x y:V) (v u:Value) (Q:VK),Inv X pins σ H s->RelV x v->RelV y u->r x y H Q->
  subscripted slice false v u=operate [v,u] (zab v u)->z5K (z5N X.prog X.w) X.A (subscriptTail value slice v u) (EP X pins σ Q) X.xe s
noncomputable def MtR (X:Cx)(id:String)(r:V->List V->Hp->VK->Prop):Prop:=
 ∀(pins:List (Addr×Obj)) (s:z5D) (σ:St) (H:Hp) (x:V) (xs:List V) (v:Value) (us:List Value) (Q:VK),Inv X pins σ H s->RelV x v->Vals xs us->r x xs H Q->
  z5K (z5N X.prog X.w) X.A (call (.builtin id) (v::us)) (EP X pins σ Q) X.xe s
section
variable {X:Cx}{a b:Expr}{ta tb:TE}{pos:Pos}
noncomputable def z5e (K:z5G):R2:=λx y H Q=>∃p xs i v,x=.ref p/\y=.int i/\SqL K H p xs/\atI xs i=some v/\Q v H
noncomputable def z55 (K:z5G):R2:=λx y H Q=>∃p xs i v,x=.ref p/\y=.int i/\SqT K H p xs/\atI xs i=some v/\Q v H
noncomputable def z5l:R2:=λx y H Q=>∃z i c,x=.str z/\y=.int i/\z.length<=sizeLine/\atI z.cps.toList i=some c/\Q (.str ⟨#[c]⟩) H
theorem Vd:IxR X (z5e X.K):=by
 intro value slice pins s σ H x y v u Q I rx ry h hs
 obtain⟨p,xs,i,z,rfl,rfl,hq,he,q⟩:=h
 cases rx
 obtain⟨t,rfl⟩:=ry
 obtain⟨its,r,pl,hz⟩:=I.list hq
 obtain⟨j,h1,h2,h3,h4,h5⟩:=ZQ he
 obtain⟨w,ew,rw'⟩:=r.get h2
 have hl:=r.length
 have hn:=xF
 have fin:EP X pins σ Q w s:=⟨z,H,I,rw',q⟩
 by_cases h0:0<=i
 ·have hj:i.toNat=j:=by
   rw[seqIndex_of h0 h5] at h1
   exact z5F h1
  exact item_listR pl.isList h0 (by omega) (by rw[hj];simpa using ew) fin hs
 ·have hj:(i+(its.toArray.size:Int)).toNat=j:=by
   rw[seqIndex_neg (by omega) h4] at h1
   rw[z5W,←hl]
   exact z5F h1
  exact zac (x:=w) pl.isList.typeIs zbq.lookup
   (wpAny_getItem_list_neg (Q:=λr s'=>r=w/\EP X pins σ Q r s') pl.isList (by omega) (by rw[z5W]<;>omega) (by omega) (by rw[hj];simpa using ew) ⟨rfl,fin⟩) hs
theorem z0W:IxR X (z55 X.K):=by
 intro value slice pins s σ H x y v u Q I rx ry h hs
 obtain⟨p,xs,i,z,rfl,rfl,hq,he,q⟩:=h
 cases rx
 obtain⟨t,rfl⟩:=ry
 obtain⟨its,r,pl,hz⟩:=I.tuple hq
 obtain⟨j,h1,h2,h3,h4,h5⟩:=ZQ he
 obtain⟨w,ew,rw'⟩:=r.get h2
 have hl:=r.length
 have hn:=xF
 have fin:EP X pins σ Q w s:=⟨z,H,I,rw',q⟩
 exact zac (x:=w) pl.typeIs z6P.lookup
  (getItem_tuple (j:=j) (Q:=λr s'=>r=w/\EP X pins σ Q r s') pl (by omega) (by omega) (by rw[z5W,←hl];exact h1) (by simpa using ew) ⟨rfl,fin⟩) hs
theorem z2P:IxR X z5l:=by
 intro value slice pins s σ H x y v u Q I rx ry h hs
 obtain⟨z,i,c,rfl,rfl,hz,he,q⟩:=h
 obtain⟨t,rfl⟩:=rx
 obtain⟨t',rfl⟩:=ry
 obtain⟨j,h1,h2,h3,h4,h5⟩:=ZQ he
 have hl:z.cps.toList.length=z.length:=by simp[Str.length]
 rw[hl] at h1 h4 h5
 have hn:=xF
 exact tail_any (zcq s z t) slot_str_getitem.lookup (getItem_str (c:=c) (by
  have e1:decide (i < -(2 ^ 63:Int))=false:=decide_eq_false (by omega)
  have e2:decide (i ≥ 2 ^ 63)=false:=decide_eq_false (by omega)
  rw[e1,e2,Bool.or_false]) (by rw[h1];simpa using h2) ⟨.str ⟨#[c]⟩,H,I.tok _,⟨_,rfl⟩,q⟩) hs
theorem Z8(lo hi:Option Int)(n:Nat):(z8u lo hi none n).1=((HT.sIx n 0 lo:Nat):Int)/\(z8u lo hi none n).2.1=((HT.sIx n n hi:Nat):Int)/\(z8u lo hi none n).2.2=1:=by
 refine⟨?_,?_,rfl⟩
 ·cases lo with
  |none=>simp[z8u,HT.sIx]
  |some i=>
   simp only[z8u,HT.sIx,zbQ,show (1:Int) > 0 by decide,if_true]
   by_cases h:i<0
   ·simp only[h,if_true]<;>omega
   ·simp only[h,if_false]<;>omega
 ·cases hi with
  |none=>simp[z8u,HT.sIx]
  |some i=>
   simp only[z8u,HT.sIx,zbQ,show (1:Int) > 0 by decide,if_true]
   by_cases h:i<0
   ·simp only[h,if_true]<;>omega
   ·simp only[h,if_false]<;>omega
theorem yU(its:List Value)(lo hi:Option Int):slicePick its.toArray lo hi none=((its.drop (HT.sIx its.length 0 lo)).take (HT.sIx its.length its.length hi-HT.sIx its.length 0 lo)).toArray:=by
 obtain⟨h1,h2,h3⟩:=Z8 lo hi its.toArray.size
 unfold slicePick
 rw[h1,h2,h3]
 simp only[sliceRange_one,pick_run,z5W]<;>rfl
noncomputable def z5c (K:z5G):V->Option Int->Option Int->Hp->VK->Prop:=λx lo hi H Q=>∃a xs,x=.ref a/\SqL K H a xs/\∀p,H p=none->Q (.ref p) (upd H p (.lst (yP xs lo hi)))
theorem z06:SlR X (z5c X.K):=by
 intro pins s σ H x v vl vu lo hi sl Q I rx hs pl pu h
 obtain⟨a,xs,rfl,hx,q⟩:=h
 cases rx
 obtain⟨its,r,ht,hz⟩:=I.list hx
 have hlen:=r.length
 refine⟨"list",_,zbq.lookup,ht.isList.typeIs,?_⟩
 refine wpAny_getItem_list_slice ht.isList hs pl pu .none (by simp) ?_ (by rw[z5W]<;>omega)
 rw[yU,←hlen]
 refine⟨.ref s.heap.objs.size,_,I.laid (t':=s.toks) (o:=.lst (yP xs lo hi)) (λb ob q=>z5C _ q) (z5H _) ?_,rfl,q _ (I.hok.fresh (z5H _))⟩
 exact⟨z62 (kT xs lo hi) hz,_,0,(r.drop (HT.sIx xs.length 0 lo)).take (HT.sIx xs.length xs.length hi-HT.sIx xs.length 0 lo),z5Y _ rfl⟩
theorem ve:z0w X (.builtin "len") (λxs H Q=>∃p ys,xs=[.ref p]/\(SqL X.K H p ys\/SqT X.K H p ys)/\Q (.int ys.length) H):=by
 intro pins s σ H xs us Q I r h
 obtain⟨p,ys,rfl,hq,q⟩:=h
 obtain⟨u,rfl,rx⟩:=vals1 r
 cases rx
 have hn:=xF
 rcases hq with hq|hq
 ·obtain⟨its,r',pl,hz⟩:=I.list hq
  have hlen:=r'.length
  exact Calls.call_len_list pl.isList (by simp only[z5W]<;>omega) ⟨.int ys.length,H,I.tok _,⟨s.toks+1,by rw[z5W,hlen]⟩,q⟩
 ·obtain⟨its,r',pl,hz⟩:=I.tuple hq
  have hlen:=r'.length
  exact len_tuple pl (by simp only[z5W]<;>omega) ⟨.int ys.length,H,I.tok _,⟨s.toks+1,by rw[z5W,hlen]⟩,q⟩
theorem ZN:z0w X (.builtin "len") (λxs H Q=>∃z,xs=[.str z]/\z.length<=sizeLine/\Q (.int z.length) H):=by
 intro pins s σ H xs us Q I r h
 obtain⟨z,rfl,hz,q⟩:=h
 obtain⟨u,rfl,t,rfl⟩:=vals1 r
 have hn:=xF
 exact len_str (by omega) ⟨.int z.length,H,I.tok _,⟨_,rfl⟩,q⟩
noncomputable def tyV (K:z5G)(T:String)(x:V)(H:Hp):Prop:=match x with
 |.str _=>T="str"
 |.int _=>T="int"
 |.ref p=>(T="list"/\∃xs,SqL K H p xs)\/(T="tuple"/\∃o,K.lookup p=some o/\o.cls=.type "tuple"/\o.dict=none)\/
   (T="dict"/\((∃kvs,H p=some (.dK kvs))\/∃kvs,H p=some (.dT kvs)))\/(T="set"/\∃S n,H p=some (.set S n))
 |_=>False
theorem z2E{pins:List (Addr×Obj)}{σ:St}{H:Hp}{s:z5D}{T:String}{x:V}{v:Value}(I:Inv X pins σ H s)(r:RelV x v)(ty:tyV X.K T x H) :
  s.TypeIs v T/\∀a,v=.ref a->∃ob,s.heap.get? a=some ob/\ob.dict=none:=by
 cases x with
 |str z=>
  obtain⟨t,rfl⟩:=r
  cases (show T="str" from ty)
  exact⟨zcq s z t,λ_ e=>nomatch e⟩
 |int i=>
  obtain⟨t,rfl⟩:=r
  cases (show T="int" from ty)
  exact⟨zcr s i t,λ_ e=>nomatch e⟩
 |ref p=>
  cases r
  rcases ty with⟨rfl,xs,hq⟩|⟨rfl,o,hk,hc,hd⟩|⟨rfl,hk⟩|⟨rfl,S,n,hk⟩
  ·obtain⟨its,_,pl,_⟩:=I.list hq
   refine⟨pl.isList.typeIs,λa e=>?_⟩
   cases e
   obtain⟨o,n,e,c,hd,_⟩:=pl
   exact⟨o,e,hd⟩
  ·refine⟨⟨o,I.kIn p o hk,hc⟩,λa e=>?_⟩
   cases e
   exact⟨o,I.kIn _ o hk,hd⟩
  ·have z:∃o,s.heap.get? p=some o/\o.ExactDict:=by
    rcases hk with⟨kvs,hk⟩|⟨kvs,hk⟩
    ·obtain⟨_,_,_,_,o,_,_,e,ex,_⟩:=I.hok p _ hk
     exact⟨o,e,ex⟩
    ·obtain⟨_,_,_,_,o,_,_,e,ex,_⟩:=I.hok p _ hk
     exact⟨o,e,ex⟩
   obtain⟨o,e,ex⟩:=z
   refine⟨⟨o,e,ex.1⟩,λa e2=>?_⟩
   cases e2
   exact⟨o,e,ex.2.1⟩
  ·obtain⟨o,_,_,_,e,ex,_⟩:=I.hok p _ hk
   refine⟨⟨o,e,ex.1⟩,λa e2=>?_⟩
   cases e2
   exact⟨o,e,ex.2.1⟩
 |_=>exact z69 ty
noncomputable def tBM (K:z5G)(T:String)(r:V->List V->Hp->VK->Prop)(to:TE)(t:TA):TE:=λσ H Q=>to σ H λx H1=>tyV K T x H1/\t σ H1 λxs H2=>r x xs H2 Q
variable {o e:Expr}{es:List Expr}{to:TE}{t:TA}{name:Str}{apos cpos:Pos}{T id:String}{r:V->List V->Hp->VK->Prop}
theorem z0z (pa:PlainAttrs T) (slot:Slot T name id) (hty:typeOf (.builtin id)=pure (.type "method_descriptor")) (hm:MtR X id r) (ho:PE X o to) (ha:PA X (e::es) t)
  (hbase:z8R o name X.env (eval o X.env)=eval o X.env:=by rfl)
  (hfew:((z7u cpos (z6o (e::es) X.env)).all (λx=>!x.1)&&(z8V cpos (z7J [] X.env)).all (λx=>x.1.isSome)
   &&decide ((e::es).length+([]:List z9a).length+(if ([]:List z9a).isEmpty then 0 else 1)<30))=true:=by rfl)
  (hline:(apos.endLine == cpos.line)=true:=by rfl) (hs:z6o (e::es) X.env=(false,eval e X.env)::z6o es X.env:=by rfl) (hplain:(z7u cpos (z6o es X.env)).any (·.1)=false:=by rfl) :
  PE X (.Call (.Attribute o name apos) (e::es) [] cpos) (tBM X.K T r to t):=by
 intro pins s σ H Q I h
 refine wpAny_Call_method_late hbase hfew hline rfl (thn (ho pins s σ H _ I h) λv s1 ⟨x,H1,I1,r1,ty,q1⟩=>?_)
 obtain⟨h1,h2⟩:=z2E I1 r1 ty
 refine⟨T,id,pa,slot,hty,h1,h2,?_⟩
 have hA:=ha cpos pins s1 σ H1 _ I1 q1
 rw[hs] at hA ⊢
 refine Calls.callWith_builtin (by show (false || (z7u cpos (z6o es X.env)).any (·.1))=false;rw[hplain]<;>rfl) (z80 ?_)
 exact thn hA λus s2 ⟨vs,H2,I2,r2,q2⟩=>hm pins s2 σ H2 x vs v us Q I2 r1 r2 q2
end
end L2
namespace L2
open PySem PySem.Spec PyProof.Rows
noncomputable def MtM (X:Cx)(id:String)(r:V->List V->Hp->VK->Prop):Prop:=
 ∀(pins:List (Addr×Obj)) (s:z5D) (σ:St) (H:Hp) (x:V) (xs:List V) (v:Value) (us:List Value) (Q:VK),Inv X pins σ H s->RelV x v->Vals xs us->r x xs H Q->
  z5K (z5N X.prog X.w) X.A (call (.builtin id) (v::us)) (EP X pins σ Q) X.xe s
theorem Vals.one:∀{x:V} {us:List Value},Vals [x] us->∃u,us=[u]/\RelV x u
 |_,_,.cons r .nil=>⟨_,rfl,r⟩
section
variable {X:Cx}{pins:List (Addr×Obj)}{σ:St}{H:Hp}{s:Shared}{l b:Addr}{xs ys zs:List V}
theorem Inv.lset{its its':List Value}{n:Nat}{f:Array Value->Array Value}{t':Nat}(I:Inv X pins σ H s)(hH:H l=some (.lst xs))
  (e:s.heap.get? l=some {cls:=.type "list",data:=.seq its.toArray n}) (hf:f its.toArray=its'.toArray) (hv:Vals ys its') (hz:ys.length<=sizeLine) :
  Inv X pins σ (upd H l (.lst ys)) {s with heap:=s.heap.update l (z7g f),toks:=t'}:=by
 have q:=PySem.IsL.update e f
 rw[hf] at q
 refine I.write (x:=l) (e:=l) (by rw[hH];exact trivial) (.inl rfl) (λb' u hb hu=>(z6q s.heap (z7g f) (z6k hb)).trans hu) ⟨_,q⟩ ?_
 exact⟨hz,its',_,hv,q⟩
theorem Inv.lnew{its:List Value}{t':Nat}(I:Inv X pins σ H s)(hv:Vals ys its)(hz:ys.length<=sizeLine) :
  Inv X pins σ (upd H s.heap.objs.size (.lst ys)) {s with heap:=s.heap.push {cls:=.type "list",data:=.seq its.toArray},toks:=t'}:=
 I.laid (λ_ _ q=>z5C _ q) (z5H _) ⟨hz,its,0,hv,z5Y _ rfl⟩
theorem Inv.fresh(I:Inv X pins σ H s):H s.heap.objs.size=none:=I.hok.fresh (z5H _)
theorem Inv.lstM(I:Inv X pins σ H s)(hH:H l=some (.lst xs)):xs.length<=sizeLine/\∃(its:List Value) (n:Nat),Vals xs its/\xs.length=its.length/\s.heap.get? l=some {cls:=.type "list",data:=.seq its.toArray n}:=by
 obtain⟨z,its,n,r,e⟩:=I.hok l _ hH
 exact⟨z,its,n,r,r.length,e⟩
theorem Xt{n:Nat}(h:n<=sizeLine):z8d n=false:=by
 unfold z8d
 exact decide_eq_false (by omega)
end
section
variable {X:Cx}
noncomputable def YH:V->List V->Hp->VK->Prop:=λx vs H Q=>∃l xs y,x=.ref l/\vs=[y]/\H l=some (.lst xs)/\xs.length<sizeLine/\Q .non (upd H l (.lst (xs++[y])))
theorem uj:MtM X "list.append" YH:=by
 intro pins s σ H x vs v us Q I rx rv h
 obtain⟨l,xs,y,rfl,rfl,hH,hz,q⟩:=h
 cases rx
 obtain⟨u,rfl,ru⟩:=rv.one
 obtain⟨z,its,n,r,hl,e⟩:=I.lstM hH
 refine zcs F.slot_list_append ⟨_,e,rfl⟩ F.entry_list_append (F.args_list_append_2 _ _) (PySem.list_append l its.toArray n u (by rw[z5W];omega)) ⟨e,?_⟩
 refine⟨.non,_,I.lset (its':=its++[u]) hH e (by simp) (r.append (.cons ru .nil)) ?_,rfl,q⟩
 rw[z63,List.length_singleton]
 omega
end
end L2
namespace Att
open PySem PySem.W PySem.Calls PyProof.Rows
theorem kZ{P:Params}{h:Heap}:∀(ns:List Int) (vs:List Value),WellAll P h vs (ns.map zdM)->z75 vs ns:=by
 intro ns
 induction ns with
 |nil=>
  intro vs w
  rw[zde] at w
  cases w
  exact .nil
 |cons n ns ih=>
  intro vs w
  rw[z6V] at w
  cases w with
  |cons a b=>
   cases a
   exact .cons _ _ (ih _ b)
theorem V_{l:zce}{n:Nat}(hn:l.most=some n){P:Params}{h:Heap}{args:List WData}{vals:List Value}
  (hpre:l.row.toRowW.claim.pre args=true) (hwl:WellAll P h vals args) :
  ∃a vs ns,vals=[z61 a]/\args=[WData.list (ns.map zdM)]/\h.get? a=some {cls:=.type "list",data:=.seq vs.toArray}/\z75 vs ns/\ns.length<=n:=by
 have hsh:WShape.hasAll [] args [.list .int]=true:=(pre_splitW hpre).1
 have hc:l.pre.holds [] {args:=args}=true:=(pre_splitW hpre).2
 obtain⟨d,r,rfl,h1,h2⟩:=hasAllW_cons hsh
 obtain rfl:=hasAllW_nil h2
 obtain⟨xs,rfl,h3⟩:=hasW_list h1
 obtain⟨ns,rfl⟩:=items_int h3
 have hlen:ns.length<=n:=by
  unfold OpenLaw.pre at hc
  have h4:(WTm.not (.lt (.lit (.int (n:Int))) (.len (.arg 0)))).holds [] {args:=[.list (ns.map .int)]}=true:=by
   have h4:=(holds_andW hc).1
   rw[hn] at h4
   exact h4
  have h5:=condW_of h4 (w_not (w_lt w_lit (w_len_list (w_arg rfl))))
  rw[z5R] at h5
  refine Nat.le_of_not_lt λq=>?_
  have q':(n:Int)<((ns.length:Nat):Int):=by omega
  first
   |(rw[decide_eq_true q'] at h5;exact absurd h5 (by decide))
   |(simp at h5;omega)
 cases hwl with
 |cons w1 w2=>
  cases w2
  cases w1 with
  |list ho hall=>exact⟨_,_,ns,rfl,rfl,ho,kZ ns _ hall,hlen⟩
theorem Ja(l:zce)(args:List WData):l.row.toRowW.claim.post args (.bool true) args=true:=
 postW_of (r:=l.row.toRowW) (X:=(true == true))
  (show zdD [] (.bool true) .bool=true by first|rfl|decide|simp[zdD,WShape.arms,WShape.armsAll])
  (show (WTm.eq .res (.lit (.bool true))).value [] {args:=args,res:=some (.bool true),after:=args}=some (.bool (true == true)) from w_eq_bool (w_res rfl) w_lit) rfl
theorem attach_call{l:zce}{n:Nat}{q:z6f}{loose:List Str}{XP:(Str->Option Value)->Heap->Prop}{YP:z6w->Heap->Prop}{d:DefRec}
  (hn:l.most=some n) (hdf:d.params.defaults=[])
  (call:∀(w:z6w) (s₀ s₁:z5D) (mg mb:Str->Option Value) (fa:Addr) (o:Obj) (pm cd doc:Value) (a:Addr) (vs:List Value) (ns:List Int),
   Ground q loose [] XP w s₀ mg mb s₁.heap->YP w s₁.heap->
   s₁.heap.get? fa=some o->o.data=.func (docDef d.name d.params d.body d.scope pm cd doc)->s₁.heap.CodeRec cd d.name->mg d.name=some (.ref fa)->
   s₁.heap.get? a=some {cls:=.type "list",data:=.seq vs.toArray}->z75 vs ns->ns.length<=n->s₁.gens=#[]->
   z7n (z5N l.prog w) zcf (.call (.ref fa) ⟨[.ref a],[]⟩) (λr s'=>r=.ok (.ret (.bool true))/\OldK s₁.heap s'.heap/\s'.os=s₁.os/\z9B s'.gens) s₁) :
  WalkO q loose XP YP l.row.toRowW d [] (λf vs=>zdE f vs):=by
 intro w s₀ s₁ mg mb G Y fa o pm cd doc dV kV ho hd hcd hD hmg hg args vals as hpre hlay hrd hwl hlo
 obtain rfl:dV=.none:=Dflts.none hD hdf
 obtain rfl:kV=.none:=Dflts.noKw hD
 obtain⟨a,vs,ns,rfl,rfl,hobj,hints,hlen⟩:=V_ hn hpre hwl
 refine enter_call (z76 (call w s₀ s₁ mg mb fa o pm cd doc a vs ns G Y ho (fd_plain hd) hcd hmg hobj hints hlen hg) λr s' hq=>?_)
 obtain⟨rfl,h2,h3,h4⟩:=hq
 exact⟨.inl ⟨.bool true,.bool true,[],rfl,λ_=>rfl,.bool true,Ja l _,λ_=>⟨zdI,λ_ hm=>(nomatch hm)⟩⟩,h2,h3,h4⟩
section
variable {prog:Program}{w:World}{A:Around}{E:Value->Shared->Prop}{s:Shared}{K:Frag}
noncomputable def ledger(h:Heap)(L d:Addr):List (Addr×Obj):=(z6R h.objs.size).filterMap λa=>if a=L\/a=d then none else (h.get? a).map λo=>(a,o)
end
end Att
namespace L2
open PySem PySem.Spec PyProof.Rows
theorem vals_ints:∀{vs:List Value} {ns:List Int},z75 vs ns->Vals (ns.map V.int) vs
 |_,_,.nil=>.nil
 |_,_,.cons n t h=>.cons ⟨t,rfl⟩ (vals_ints h)
end L2
namespace L2
open PySem PySem.Spec PyProof.Rows
noncomputable abbrev KOf{K:z5G}{h:Heap}(_:K.In h):z5G:=K
end L2
namespace L2
open PySem PySem.Spec PyProof.Rows
noncomputable def inClass(s:Stmt)(j:Nat):Stmt:=match s with
 |.ClassDef _ _ _ body _ _ _ _ _ _ _=>body.getD j (.Pass ⟨0,0,0,0⟩)
 |_=>.Pass ⟨0,0,0,0⟩
noncomputable def zC(s:Stmt):Arguments:=match s with
 |.FunctionDef _ a _ _ _ _ _ _ _ _=>a
 |_=>{posonlyargs:=[],args:=[],vararg:=none,kwonlyargs:=[],kw_defaults:=[],kwarg:=none,defaults:=[]}
noncomputable def z7(s:Stmt):List Stmt:=match s with
 |.FunctionDef _ _ b _ _ _ _ _ _ _=>b
 |_=>[]
noncomputable def zk(s:Stmt):Scope:=match s with
 |.FunctionDef _ _ _ _ _ _ sc _ _ _=>sc
 |_=>{kind:=.function,names:=[],isGenerator:=false,isCoroutine:=false}
structure Fun(K:PySem.W.Frag)(x qual:Str)(st:Stmt)(f:Addr)(fd:FuncData):Prop where
 ex:∃(oc:Value) (od:Option Addr) (kV doc pm:Value) (an:Option Addr) (cdv ct:Value) (osl:Array (Option Value)),
  fd=z6g x qual (zC st) (z7 st) (zk st) .none kV doc pm an cdv ct/\K.lookup f=some ⟨oc,od,.func fd,osl⟩/\z6L K cdv qual=true
 kp:z7C K (.ref f)=true
section
variable {P:Program}{w:World}{K:PySem.W.Frag}{mg:Str->Option Value}{base:Heap}
theorem Fun.binds{x qual:Str}{st:Stmt}{f:Addr}{fd:FuncData}{ps:List Str}(F:Fun K x qual st f fd)
  (h:∀(kV doc pm:Value) (an:Option Addr) (cdv ct:Value) (us:List Value),us.length=ps.length->z9j (z6g x qual (zC st) (z7 st) (zk st) .none kV doc pm an cdv ct) ⟨us,[]⟩=pure (ps.zip us)):Binds K fd ps []:=by
 obtain⟨oc,od,kV,doc,pm,an,cdv,ct,osl,rfl,lk,hcd⟩:=F.ex
 exact .all (h kV doc pm an cdv ct)
theorem kC{x qual:Str}{st:Stmt}{f:Addr}{oc:Value}{od an:Option Addr}{osl:Array (Option Value)}{kV doc pm cdv ct:Value}(l:K.lookup f=some ⟨oc,od,.func (z6g x qual (zC st) (z7 st) (zk st) .none kV doc pm an cdv ct),osl⟩)
  (c:z6L K cdv qual=true) (k:z7C K (.ref f)=true):Fun K x qual st f (z6g x qual (zC st) (z7 st) (zk st) .none kV doc pm an cdv ct):=⟨⟨oc,od,kV,doc,pm,an,cdv,ct,osl,rfl,l,c⟩,k⟩
end
noncomputable def vZ (H H':Hp):Prop:=∀b o,H b=some o->H' b=some o
end L2
end
namespace NH
open PySem
noncomputable def stC:Value->Value
 |.int i _=>.ref i.toNat
 |v=>v
noncomputable def z57 (h:Heap)(x:Addr)(cls:Value)(d:Option Addr):Prop:=∃oe vs a0,h.get? x=some oe/\(oe.cls=stC cls/\oe.dict=d)/\oe.data=.fields vs/\vs[0]?=some a0/\vs[1]?=some .none/\∀a,cls=.ref a->vs[2]?=some .none
inductive XTr(h:Heap)(x T:Addr)(cls:Value)(d:Option Addr)(fl:Value):Prop where
 |mk (oe:Obj) (vs:Array Value) (a0:Value) (oT:Obj) (ts:Array Value) (h1:h.get? x=some oe) (h2:oe.cls=stC cls/\oe.dict=d) (h3:oe.data=.fields vs) (h4:vs[0]?=some a0) (h5:vs[1]?=some (.ref T)) (h6:T≠x) (h7:h.get? T=some oT) (h8:oT.data=.fields ts) (h9:ts[3]?=some fl) (h10:∀a,cls=.ref a->vs[2]?=some .none)
noncomputable def z4x (h:Heap)(x:Addr)(cls:Value)(d:Option Addr):Option Addr->Value->Prop
 |none,fl=>z57 h x cls d/\fl=.none
 |some T,fl=>XTr h x T cls d fl
structure XMove(fs:List Addr)(x:Addr)(T T':Option Addr)(h h':Heap):Prop where
 keep:∀b o,h.get? b=some o->b∉fs->b≠x->b∉T.toList->h'.get? b=some o
 slot:∀b o,h.get? b=some o->b∈fs->b≠x->b∉T.toList->∃sl,h'.get? b=some {o with slots:=sl}
 newT:∀t∈T'.toList,t∈T.toList\/h.objs.size<=t
theorem XMove.refl(fs:List Addr)(x:Addr)(T:Option Addr)(h:Heap):XMove fs x T T h h:=⟨λ_ _ e _ _ _=>e,λ_ o e _ _ _=>⟨o.slots,e⟩,λ_ ht=>.inl ht⟩
theorem xK(o:Obj)(f:Array Value->Array Value):(z7d f o).dict=o.dict:=by
 obtain⟨c,d,dt,sl⟩:=o
 cases dt<;>rfl
section
variable {M:Model}{A:Around}{E:Value->Shared->Prop}{s:Shared}
theorem Ku{base:Heap}{env e0:Env}{outer:List Env}{L:Addr}{Q:Value->z5D->Prop}(hfr:A.frames=some (e0::outer))(hl:s.heap.FunFrames base (e0::outer))
  (hf:env.frame=some L) (h0:e0.frame=some L) (h:∀h',Heap.SlotsOnly ((e0::outer).filterMap (·.frame)) s.heap h'->Q (.ref L) {s with heap:=h'}):z5K M A (frameOf env) Q E s:=by
 unfold frameOf
 refine z5z (wpAny_frameEnvs hfr ?_)
 have hw:((e0::outer).dropWhile λy=>y.frame != env.frame)=e0::outer:=by simp[List.dropWhile,hf,h0]
 rw[hw]
 unfold frameObject
 refine z5z (z5z (wpAny_readyFrames_fun hl λh1 q1=>z5E ?_))
 rw[h0]
 exact z5E (h h1 q1)
theorem xW{base:Heap}{env e0:Env}{outer:List Env}{L x:Addr}{cls head:Value}{d T:Option Addr}{had:Bool}{oe:Obj}{vs:Array Value}{a0:Value}{Q:Unit->z5D->Prop}
  (hfr:A.frames=some (e0::outer)) (hl:s.heap.FunFrames base (e0::outer)) (hf:env.frame=some L) (h0:e0.frame=some L)
  (ho:s.heap.get? x=some oe) (hc:oe.cls=stC cls/\oe.dict=d) (hd:oe.data=.fields vs) (hv0:vs[0]?=some a0) (hsz:1<vs.size) (hv2:∀a,cls=.ref a->vs[2]?=some .none)
  (h:∀h' t,XTr h' x t cls d (z6v L)->XMove ((e0::outer).filterMap (·.frame)) x T (some t) s.heap h'->s.heap.objs.size<=t->Q () {s with heap:=h'}) :
  z5K M A (do let a ←frameOf env;let pl ←entryPlaceOf L had;let b ←zaP head a .none (z6v L) .none pl;setField (.ref x) 1 b) Q E s:=by
 have nin:x∉(e0::outer).filterMap (·.frame):=λhm=>by
  obtain⟨_,o,ho',nf⟩:=hl.mem hm
  rw[ho] at ho';cases ho';exact nf vs hd
 refine z5z (Ku hfr hl hf h0 λh1 q1=>?_)
 refine z5z (wpAny_entryPlaceOf λpl hpl=>?_)
 unfold zaP newFields
 refine z5z (z6_ ?_ (hpl.sizeOk5 _ _ _ _ _))
 have e1:h1.get? x=some oe:=(q1.2.1 x nin).trans ho
 generalize hob:({cls:=.type "traceback",dict:=none,data:=.fields ([head,.ref L,.none,z6v L,.none]++(if pl.isEmpty then z7_ 6 z6E else pl)).toArray}:Obj)=ob
 have e2:=z5C (h:=h1) ob e1
 have hdata:ob.data=.fields ([head,.ref L,.none,z6v L,.none]++(if pl.isEmpty then z7_ 6 z6E else pl)).toArray:=by rw[←hob]
 have hfree:ob.isFreed=false:=by rw[←hob];rfl
 refine z9p e2 hd hsz ?_
 have tx:h1.objs.size≠x:=z7L (z5O e1)
 have d3:=zb7 hd (·.setIfInBounds 1 (z61 h1.objs.size))
 have e3:=z7i (z7d (·.setIfInBounds 1 (z61 h1.objs.size))) e2 (zat d3)
 have other:∀b o,b≠x->h1.get? b=some o->((h1.push ob).update x (z7d (·.setIfInBounds 1 (z61 h1.objs.size)))).get? b=some o:=λb o hb e=>by
  rw[z6q _ _ (z6k hb)];exact z5C _ e
 refine h _ h1.objs.size ⟨_,_,a0,ob,_,e3,⟨(Obj.cls_mapFields _ _).trans hc.1,(xK _ _).trans hc.2⟩,d3,by rw[z8I (by decide)];exact hv0,by simp[hsz],tx,?_,hdata,?_,λa e=>by rw[z8I (by decide)];exact hv2 a e⟩ ⟨λb o e nb nx _=>?_,λb o e _ nx _=>?_,λt ht=>.inr ?_⟩ (z98 q1.1.symm)
 ·rw[z6q _ _ (z6k tx)];exact z5Y _ hfree
 ·first|(simp;done)|(rcases hpl with rfl|⟨_,_,_,_,_,_,_,rfl⟩<;>simp)
 ·exact other b o nx ((q1.2.1 b nb).trans e)
 ·obtain⟨sl,e'⟩:=q1.2.2 b o e
  exact⟨sl,other b _ nx e'⟩
 ·have:t=h1.objs.size:=by simpa using ht
  rw[this];exact z98 q1.1.symm
theorem KH{base:Heap}{env e0:Env}{outer:List Env}{L x:Addr}{cls:Value}{d T:Option Addr}{fl:Value}{Q:Unit->z5D->Prop}
  (hfr:A.frames=some (e0::outer)) (hl:s.heap.FunFrames base (e0::outer)) (hf:env.frame=some L) (h0:e0.frame=some L) (hx:z4x s.heap x cls d T fl) (hfl:fl=.none\/fl=z6v L)
  (h:∀h' t,XTr h' x t cls d (z6v L)->XMove ((e0::outer).filterMap (·.frame)) x T (some t) s.heap h'->Q () {s with heap:=h'}):z5K M A (zbR (.ref x) env) Q E s:=by
 unfold zbR
 simp only[hf]
 cases T with
 |none=>
  obtain⟨⟨oe,vs,a0,ho,hc,hd,hv0,hv1,hv2⟩,_⟩:=hx
  refine z5z (z7c ho hd hv1 ?_)
  rw[if_neg (by decide)]
  exact xW (T:=none) hfr hl hf h0 ho hc hd hv0 (z6M.mp hv1).1 hv2 λh' t a b _=>h h' t a b
 |some T=>
  obtain⟨oe,vs,a0,oT,ts,ho,hc,hd,hv0,hv1,hT,hoT,hdT,h3,hv2⟩:=hx
  refine z5z (z7c ho hd hv1 ?_)
  rw[if_pos (show (z61 T != z6E)=true from by simp)]
  refine z5z (z7c hoT hdT h3 ?_)
  by_cases hq:fl=z6v L
  ·subst hq
   rw[if_pos (show (z6v L == z6v L)=true from by simp)]
   exact z5E (h s.heap T ⟨oe,vs,a0,oT,ts,ho,hc,hd,hv0,hv1,hT,hoT,hdT,h3,hv2⟩ (XMove.refl _ _ _ _))
  ·obtain rfl:fl=.none:=hfl.resolve_right hq
   rw[if_neg (show ¬((z6E == z6v L)=true) from by simp[z6v])]
   refine z5z (z9p hoT hdT (z6M.mp h3).1 ?_)
   have oth:∀b,b≠T->(s.heap.update T (z7d (·.setIfInBounds 3 z6E))).get? b=s.heap.get? b:=λb hb=>z6q _ _ (z6k hb)
   have fr:∀b∈(e0::outer).filterMap (·.frame),b≠T:=λb hb z=>by
    obtain⟨_,o,ho',nf⟩:=hl.mem hb
    rw[z,hoT] at ho';cases ho';exact nf ts hdT
   refine xW (T:=some T) (s:={s with heap:=s.heap.update T (z7d (·.setIfInBounds 3 z6E))}) (base:=base) hfr (hl.of_keeps λb o e nf=>⟨o,(oth b λz=>?_).trans e,rfl⟩) hf h0 ((oth x (z6k hT)).trans ho) hc hd hv0 (z6M.mp hv1).1 hv2 λh' t a b c=>h h' t a ⟨?_,?_,?_⟩
   ·rw[z,hoT] at e;cases e;exact nf ts hdT
   ·exact λd o e n1 n2 n3=>b.keep d o ((oth d λz=>n3 (by simp[z])).trans e) n1 n2 n3
   ·exact λd o e n1 n2 n3=>b.slot d o ((oth d λz=>n3 (by simp[z])).trans e) n1 n2 n3
   ·intro t' ht'
    rcases b.newT t' ht' with z|z
    ·exact .inl z
    ·refine .inr (z62 (z98 ?_) z)
     exact (Heap.size_after_update ..).symm
theorem WC{x T:Addr}{cls fl:Value}{d fr:Option Addr}{fs:List Addr}{Q:Unit->z5D->Prop}(hx:XTr s.heap x T cls d fl)
  (h:∀h',XTr h' x T cls d (fr.elim .none λf=>z6v f)->XMove fs x (some T) (some T) s.heap h'->Q () {s with heap:=h'}):z5K M A (z9W (.ref x) fr) Q E s:=by
 obtain⟨oe,vs,a0,oT,ts,ho,hc,hd,hv0,hv1,hT,hoT,hdT,h3,hv2⟩:=hx
 have sz:3<ts.size:=(z6M.mp h3).1
 unfold z9W
 refine z5z (z7c ho hd hv1 ?_)
 rw[if_pos (show (z61 T != z6E)=true from by simp)]
 refine z9p hoT hdT sz ?_
 have oth:∀b,b≠T->(s.heap.update T (z7d (·.setIfInBounds 3 (fr.elim .none λf=>z6v f)))).get? b=s.heap.get? b:=λb hb=>z6q _ _ (z6k hb)
 have dT:=zb7 hdT (·.setIfInBounds 3 (fr.elim z6E λf=>z6v f))
 exact h _ ⟨oe,vs,a0,_,_,(oth x (z6k hT)).trans ho,hc,hd,hv0,hv1,hT,z7i _ hoT (zat dT),dT,by simp[sz],hv2⟩
  ⟨λb o e _ _ n=>(oth b λz=>n (by simp[z])).trans e,λb o e _ _ n=>⟨o.slots,(oth b λz=>n (by simp[z])).trans e⟩,λt ht=>.inl ht⟩
end
end NH
namespace NH
open PySem PySem.Spec PyProof.Rows L2
noncomputable abbrev St:=L2.St
theorem uT{P:z6f}{w:z6w}{H:Hp}{h:Heap}{a:Addr}{o:HO}(x:ObjOk P w H h a o):∃ob,h.get? a=some ob:=by
 cases o with
 |lst xs=>obtain⟨_,_,_,_,e⟩:=x;exact⟨_,e⟩
 |tup xs=>obtain⟨_,_,_,ob,e,_⟩:=x;exact⟨ob,e⟩
 |dK kvs=>obtain⟨_,_,_,_,o,_,_,e,_⟩:=x;exact⟨o,e⟩
 |dT kvs=>obtain⟨_,_,_,_,o,_,_,e,_⟩:=x;exact⟨o,e⟩
 |set S n=>obtain⟨o,_,_,_,e,_⟩:=x;exact⟨o,e⟩
 |ins C dx fs=>obtain⟨_,_,_,e,_⟩:=x;exact⟨_,e⟩
 |own y=>obtain⟨o,e⟩:=x;exact⟨o,e⟩
 |xd fs=>obtain⟨_,⟨o,_,_,e,_⟩,_⟩:=x;exact⟨o,e⟩
 |rng lo hi=>obtain⟨_,_,_,e⟩:=x;exact⟨_,e⟩
 |frz ob u=>obtain⟨e,_⟩:=x;exact⟨_,e⟩
 |tbl ps=>exact⟨_,(show h.get? a=some _ from x)⟩
 |met f y=>exact⟨_,(show h.get? a=some _ from x)⟩
 |ext φ=>obtain⟨_,⟨o,e⟩,_⟩:=x;exact⟨o,e⟩
structure XOk(X:Cx)(H:Hp)(b:Addr):Prop where
 free:H b=none
 loc:b≠X.env.locals
 nfs:b∉X.fs
 new:b∈X.ex\/X.s₀.heap.get? b=none
 cel:∀x c,X.env.cells.lookup x=some c->c≠b
 pin:∀p∈X.pn,p.1≠b
section
variable {X:Cx}{pins:List (Addr×Obj)}{σ:St}{H H':Hp}{s:Shared}{h':Heap}
theorem QI(I:Inv X pins σ H s){b:Addr}(e:s.heap.get? b=none):H b=none:=by
 cases q:H b with
 |none=>rfl
 |some o=>
  obtain⟨ob,z⟩:=uT (I.hok b o q)
  rw[e] at z;cases z
theorem wD(I:Inv X pins σ H s){b:Addr}(e:s.heap.get? b=none):XOk X H b:=by
 refine⟨QI I e,λz=>?_,λz=>?_,?_,λx c q z=>?_,λp hp z=>?_⟩
 ·obtain⟨m,⟨o,_,_,ho,_⟩,_⟩:=I.loc
  rw[←z,e] at ho;cases ho
 ·obtain⟨_,o,ho,_⟩:=I.funs.mem z
  rw[e] at ho;cases ho
 ·by_cases hx:b∈X.ex
  ·exact .inl hx
  ·refine .inr ?_
   cases q:X.s₀.heap.get? b with
   |none=>rfl
   |some o=>
    obtain⟨o',z⟩:=I.base.there b o q hx
    rw[e] at z;cases z
 ·obtain⟨v,o,ho,_⟩:=I.cell x c q
  rw[z,e] at ho;cases ho
 ·have:=(I.pin p (z5X _ hp)).1
  rw[z,e] at this;cases this
theorem Qp{ch:List Addr}(I:Inv X pins σ H s)(hch:∀b∈ch,XOk X H b/\∀p∈pins,p.1≠b)
  (keep:∀b o,b∉frs X.stack->b∉ch->s.heap.get? b=some o->h'.get? b=some o)
  (slot:∀b o,b∈frs X.stack->b∉ch->s.heap.get? b=some o->∃sl,h'.get? b=some {o with slots:=sl}) :
  Inv X pins σ H {s with heap:=h'}:=by
 have tr:∀b u,H b=some u->b∉ch:=λb u e z=>by rw[(hch b z).1.free] at e;cases e
 have trf:∀b u,H b=some u->b∉frs X.stack:=λb u e z=>by rw[I.stkFree b z] at e;cases e
 have any:∀b o,b∉ch->s.heap.get? b=some o->∃sl,h'.get? b=some {o with slots:=sl}:=λb o hb e=>by
  by_cases hf:b∈frs X.stack
  ·exact slot b o hf hb e
  ·exact⟨o.slots,keep b o hf hb e⟩
 have inf:∀b,b≠X.env.locals->b∉X.fs->b∉frs X.stack:=λb h1 h2 z=>(z65.mp (I.stkSub b z)).elim h1 h2
 have nec:∀b o,X.s₀.heap.get? b=some o->b∉X.ex->b∉ch:=λb o e hx z=>by
  rcases (hch b z).1.new with q|q
  ·exact hx q
  ·rw[e] at q;cases q
 have neL:∀b o,X.s₀.heap.get? b=some o->b≠X.env.locals:=λb o e=>z5Z (z5S (z5O e) I.ok.above)
 have cellK:∀x c,X.env.cells.lookup x=some c->∀v,s.heap.IsCell c v->h'.IsCell c v:=λx c e v ⟨o,ho,hd⟩=>by
  obtain⟨sl,q⟩:=any c o (λz=>(hch c z).1.cel x c e rfl) ho
  exact⟨_,q,hd⟩
 refine⟨I.ok,I.os,I.bare,⟨λb o e n hb hx=>?_,λb o e n hb hx=>?_,λb o e n hx=>I.base.free b o e n hx,λb o e hx=>?_,λb xs e=>I.base.tups b xs e,λb o xs e=>I.base.frzs b o xs e,λb ps e=>I.base.tbls b ps e⟩,?_,λx c e=>?_,I.free,λx c e=>I.freeC x c e,λp hp=>?_,λb u e=>?_,I.len⟩
 ·exact keep b o (inf b (neL b o e) hb) (nec b o e hx) (I.base.keep b o e n hb hx)
 ·obtain⟨sl,e1⟩:=I.base.slot b o e n hb hx
  obtain⟨sl',e2⟩:=any b _ (nec b o e hx) e1
  exact⟨sl',e2⟩
 ·obtain⟨o',e1⟩:=I.base.there b o e hx
  obtain⟨sl,e2⟩:=any b o' (nec b o e hx) e1
  exact⟨_,e2⟩
 ·obtain⟨m,⟨o,es,ep,ho,r⟩,hl⟩:=I.loc
  obtain⟨sl,hL⟩:=any X.env.locals o (λz=>(hch _ z).1.loc rfl) ho
  refine⟨m,⟨_,es,ep,hL,r⟩,λi x v e1 e2 e3=>?_⟩
  obtain⟨u,ru,l⟩:=hl i x v e1 e2 e3
  refine⟨u,ru,?_⟩
  rcases l with l|⟨k,c,e,z⟩
  ·exact .inl l
  ·exact .inr ⟨k,c,e,cellK x c e _ z⟩
 ·obtain⟨v,z⟩:=I.cell x c e
  exact⟨v,cellK x c e v z⟩
 ·obtain⟨e,n,ne,nf,d⟩:=I.pin p hp
  have nch:p.1∉ch:=λz=>by
   rcases z5Q.mp hp with q|q
   ·exact (hch p.1 z).1.pin p q rfl
   ·exact (hch p.1 z).2 p q rfl
  exact⟨keep p.1 p.2 (inf p.1 ne nf) nch e,n,ne,nf,d⟩
 ·refine (I.hok b u e).stay (λc v hc q=>?_) (λ_ q=>q) λ_ _ q=>q
  rcases hc with z|z
  ·subst z;exact keep c v (trf c u e) (tr c u e) q
  ·exact keep c v (trf c _ z) (tr c _ z) q
structure Frm(X:Cx)(e0:Env)(out:List Env)(L:Addr):Prop where
 stk:X.stack=e0::out
 f0:e0.frame=some L
 fe:X.env.frame=some L
noncomputable abbrev XW:=Value->Option Addr->St->Hp->Prop
inductive XP(X:Cx)(W:XW)(e:Value)(s:Shared):Prop where
 |mk (x:Addr) (cls:Value) (d:Option Addr) (σ:St) (H:Hp) (T:Option Addr) (fl:Value) (ee:e=.ref x) (i:Inv X [] σ H s) (ox:XOk X H x) (ot:∀t∈T.toList,XOk X H t) (r:z4x s.heap x cls d T fl) (hf:fl=.none\/∃L,X.env.frame=some L/\fl=z6v L) (w:W cls d σ H)
theorem Vw{x:Addr}{T:Option Addr}{t:Addr}(I:Inv X [] σ H s)(ox:XOk X H x)(ot:∀t∈T.toList,XOk X H t)(mv:XMove (frs X.stack) x T (some t) s.heap h') :
  Inv X [] σ H {s with heap:=h'}/\XOk X H t:=by
 refine⟨Qp (ch:=x::T.toList) I (λb hb=>⟨?_,λp hp=>absurd hp (by simp)⟩) (λb o hf hc e=>?_) (λb o hf hc e=>?_),?_⟩
 ·rcases z65.mp hb with z|z
  ·rw[z];exact ox
  ·exact ot b z
 ·exact mv.keep b o e hf (λz=>hc (by simp[z])) (λz=>hc (z5M _ z))
 ·exact mv.slot b o e hf (λz=>hc (by simp[z])) (λz=>hc (z5M _ z))
 ·rcases mv.newT t (by simp) with z|z
  ·exact ot t z
  ·exact wD I (z6d z)
theorem xm{M:z91}{A:z6e}{E:Value->z5D->Prop}{W:XW}{e:Value}{e0:Env}{out:List Env}{L:Addr}{Q:Unit->z5D->Prop}(F:Frm X e0 out L)(hfr:A.frames=some X.stack)(p:XP X W e s)
  (h:∀x cls d σ H T h',e=.ref x->Inv X [] σ H {s with heap:=h'}->XOk X H x->XOk X H T->XTr h' x T cls d (z6v L)->W cls d σ H->Q () {s with heap:=h'}):z5K M A (zbR e X.env) Q E s:=by
 obtain⟨x,cls,d,σ,H,T,fl,rfl,I,ox,ot,hr,hfl,w⟩:=p
 have hst:=I.stack
 rw[F.stk] at hfr hst
 refine KH hfr hst F.fe F.f0 hr (hfl.imp_right λ⟨L',e1,e2⟩=>by rw[F.fe] at e1;cases e1;exact e2) λh' t tr mv=>?_
 have mv':XMove (frs X.stack) x T (some t) s.heap h':=by rw[F.stk];exact mv
 obtain⟨I',o'⟩:=Vw I ox ot mv'
 exact h x cls d σ H t h' rfl I' ox o' tr w
theorem qB{M:z91}{A:z6e}{E:Value->z5D->Prop}{x T:Addr}{cls fl:Value}{d fr:Option Addr}{Q:Unit->z5D->Prop}(I:Inv X [] σ H s)(ox:XOk X H x)(oT:XOk X H T)(tr:XTr s.heap x T cls d fl)
  (h:∀h',Inv X [] σ H {s with heap:=h'}->XTr h' x T cls d (fr.elim .none λf=>z6v f)->Q () {s with heap:=h'}):z5K M A (z9W (.ref x) fr) Q E s:=by
 refine WC (fs:=frs X.stack) tr λh' tr' mv=>h h' (Vw (T:=some T) I ox (λt ht=>?_) mv).1 tr'
 have:t=T:=by simpa using ht
 rw[this];exact oT
theorem km{W:XW}{M:z91}{e0:Env}{out:List Env}{L:Addr}(F:Frm X e0 out L)(hfr:X.A.frames=some X.stack):zbL M X.A X.env (XP X W):=by
 intro e s p
 unfold zcg
 refine xm F hfr p λx cls d σ H T h' ee I ox oT tr w=>?_
 subst ee
 unfold cameBackBy
 obtain⟨oe,vs,a0,oT',ts,ho,hc,hd,hv0,hv1,hT,hoT,hdT,h3,_⟩:=id tr
 refine z5z (z7c ho hd hv1 ?_)
 rw[if_neg (show ¬((z61 T == z6E)=true) from by simp)]
 rw[F.fe]
 have go:z5K M X.A (z9W (.ref x) (some L)) (λ_ s''=>XP X W (.ref x) s'') (XP X W) {s with heap:=h'}:=
  qB (s:={s with heap:=h'}) I ox oT tr λh2 I2 tr2=>⟨x,cls,d,σ,H,some T,z6v L,rfl,I2,ox,λt ht=>by
   have:t=T:=by simpa using ht
   rw[this];exact oT,tr2,.inr ⟨L,F.fe,rfl⟩,w⟩
 first|exact go|exact z5z (z5E go)
inductive CXP(P:Program)(w:World)(outer:List Env)(H:Hp)(s:Shared)(E:XK)(e:Value)(s':Shared):Prop where
 |mk (x T:Addr) (cls:Value) (d:Option Addr) (H':Hp) (ee:e=.ref x) (o:s'.os=s.os) (b:z9B s'.gens) (n:Un (frs outer) [] H H' s.heap s'.heap) (k:HOk P w H' s'.heap) (h1:s.heap.get? x=none) (h2:s.heap.get? T=none) (h3:H' x=none) (h4:H' T=none) (t:XTr s'.heap x T cls d .none) (q:E cls d H')
noncomputable def CX1 (P:z6f)(w:z6w):CXT:=CXP P w
noncomputable def wOf (E:XK):XW:=λc d _ H=>E c d H
theorem Qu{M:z91}{E:XK}{e:Value}{e0:Env}{out:List Env}{L:Addr}{F2:Value->z5D->Prop}(F:Frm X e0 out L)(hfr:X.A.frames=some X.stack)(hex:X.ex=[])(p:XP X (wOf E) e s) :
  z5K M X.A (zdd X.env e) (λ_ s''=>CX1 X.prog X.w X.outer X.H₀ X.s₀ E e s'') F2 s:=by
 unfold zdd
 refine z5z (xm F hfr p λx cls d σ H T h' ee I ox oT tr w=>?_)
 subst ee
 refine qB (s:={s with heap:=h'}) I ox oT tr λh2 I2 tr2=>?_
 have nw:∀b,XOk X H b->X.s₀.heap.get? b=none:=λb o=>o.new.resolve_left (by rw[hex];simp)
 refine⟨x,T,cls,d,H,rfl,I2.os,I2.bare,?_,I2.hok,nw x ox,nw T oT,ox.free,oT.free,tr2,w⟩
 have:=I2.base
 rw[hex] at this
 exact this
theorem vP{E:XK}{W:XW}{e:Value}{s':z5D}(I:Inv X pins σ H s)(c:CX1 X.prog X.w X.stack H s E e s')(h:∀cls d H',E cls d H'->W cls d σ H'):XP X W e s':=by
 obtain⟨x,T,cls,d,H',rfl,os,bare,un,hok,nx,nT,fx,fT,tr,w⟩:=c
 have J:Inv X pins σ H' s':=I.call' (ch:=[]) os un hok bare λb z=>absurd z (by simp)
 have k:∀b,s.heap.get? b=none->H' b=none->XOk X H' b:=λb e f=>by
  have o:=wD I e
  exact⟨f,o.loc,o.nfs,o.new,o.cel,o.pin⟩
 refine⟨x,cls,d,σ,H',some T,.none,rfl,J.pins_of (λp hp=>absurd hp (by simp)),k x nx fx,λt ht=>?_,tr,.inl rfl,h cls d H' w⟩
 have:t=T:=by simpa using ht
 rw[this];exact k T nT fT
theorem UE{W:XW}{x C:Addr}{args:List Value}{h2:Heap}(I:Inv X pins σ H s)(mk:z8C s.heap h2 x (.ref C) args)(w:W (.ref C) none σ H):XP X W (.ref x) {s with heap:=h2}:=by
 have J:Inv X pins σ H {s with heap:=h2,toks:=s.toks}:=I.kept mk.keeps
 obtain⟨t,ho,_,_⟩:=mk.there
 exact⟨x,.ref C,none,σ,H,none,.none,rfl,J.pins_of (λp hp=>absurd hp (by simp)),wD I mk.new,λt ht=>absurd ht (by simp),⟨⟨_,_,.ref t,ho,⟨rfl,rfl⟩,rfl,rfl,rfl,λ_ _=>rfl⟩,rfl⟩,.inl rfl,w⟩
noncomputable abbrev Cx.pin'(X:Cx)(pins:List (Addr×Obj)):Cx:={X with pn:=X.pn++pins}
noncomputable abbrev Cx.han(X:Cx)(x:Addr):Cx:={X with A:=X.A.mark (some (.ref x)),calm:=false,xe:=λ_ _=>False}
theorem XZ(ok:X.Ok):(Cx.pin' X pins).Ok:=⟨ok.mod,ok.kind,ok.glob,ok.blt,ok.above,ok.inj,ok.has,ok.cab,ok.hd,ok.frames,ok.stk,ok.exf,ok.bs,ok.bsz,ok.noex,ok.exfs,ok.funs,ok.frf⟩
theorem Q7(ok:(Cx.pin' X pins).Ok):X.Ok:=⟨ok.mod,ok.kind,ok.glob,ok.blt,ok.above,ok.inj,ok.has,ok.cab,ok.hd,ok.frames,ok.stk,ok.exf,ok.bs,ok.bsz,ok.noex,ok.exfs,ok.funs,ok.frf⟩
theorem z2D{x:Addr}(ok:X.Ok):(Cx.han X x).Ok:=⟨ok.mod,ok.kind,ok.glob,ok.blt,ok.above,ok.inj,ok.has,ok.cab,(λh=>by cases h),ok.frames,ok.stk,ok.exf,ok.bs,ok.bsz,ok.noex,ok.exfs,ok.funs,ok.frf⟩
theorem QQ(I:Inv X pins σ H s):Inv (Cx.pin' X pins) [] σ H s:=⟨XZ I.ok,I.os,I.bare,I.base,I.loc,I.cell,I.free,I.freeC,λp hp=>I.pin p (by simpa using hp),I.hok,I.len⟩
theorem zV(I:Inv (Cx.pin' X pins) [] σ H s):Inv X pins σ H s:=⟨Q7 I.ok,I.os,I.bare,I.base,I.loc,I.cell,I.free,I.freeC,λp hp=>I.pin p (by simpa using hp),I.hok,I.len⟩
theorem ZI{x:Addr}(I:Inv X pins σ H s):Inv (Cx.han X x) pins σ H s:=⟨z2D I.ok,I.os,I.bare,I.base,I.loc,I.cell,I.free,I.freeC,I.pin,I.hok,I.len⟩
theorem k8{x:Addr}(ok:X.Ok)(I:Inv (Cx.han X x) pins σ H s):Inv X pins σ H s:=⟨ok,I.os,I.bare,I.base,I.loc,I.cell,I.free,I.freeC,I.pin,I.hok,I.len⟩
theorem vU{E:Value->z5D->Prop}{W:XW}{e:Value}(p:XP (X.wish E) W e s):XP X W e s:=by
 obtain⟨x,cls,d,σ,H,T,fl,a,I,b,c,r,r2,r3⟩:=p
 exact⟨x,cls,d,σ,H,T,fl,a,I.unwish,⟨b.free,b.loc,b.nfs,b.new,b.cel,b.pin⟩,λt ht=>let b:=c t ht;⟨b.free,b.loc,b.nfs,b.new,b.cel,b.pin⟩,r,r2,r3⟩
end
end NH
namespace NH
open PySem
inductive T where
 |non|bl (b:Bool)|int (i:Int)|str (x:Str)
 |tup (ts:List T)|lst (ts:List T)|obj (c:Nat) (fs:List (Nat×T))
 |mut (i:Nat)
 |exc (c:Nat) (fs:List (Nat×T))
 |dic (kvs:List (L2.Key×T))
 |clo (j:Nat) (cs:List T)
inductive MO where
 |lst (ts:List T)|obj (c:Nat) (fs:List (Nat×T))|dic (kvs:List (L2.Key×T))
 |tab (j:Nat)|dct (ks:List (Int×Int))
noncomputable abbrev z0M:MO->Bool
 |.tab _=>true
 |_=>false
noncomputable abbrev Mem:=List MO
noncomputable abbrev Sl:=List (Option T)
mutual
def vL:T->Bool
 |.mut _=>false
 |.tup ts=>yw ts
 |.lst ts=>yw ts
 |.obj _ fs=>kS fs
 |.exc _ fs=>kS fs
 |.dic kvs=>VA kvs
 |.clo _ cs=>yw cs
 |_=>true
def yw:List T->Bool
 |[]=>true
 |t::r=>vL t&&yw r
def kS:List (Nat×T)->Bool
 |[]=>true
 |p::r=>vL p.2&&kS r
def VA:List (L2.Key×T)->Bool
 |[]=>true
 |p::r=>vL p.2&&VA r
end
noncomputable abbrev Xp:=Nat->List (Nat×T)->Mem->Prop
noncomputable abbrev RE(β:Type):=(β->Mem->Prop)->Xp->Prop
noncomputable abbrev RE.ok{β:Type}(a:β)(μ:Mem):RE β:=λK _=>K a μ
noncomputable abbrev RE.st{β:Type}:RE β:=λ_ _=>False
noncomputable abbrev RE.bind{β γ:Type}(r:RE γ)(k:γ->Mem->RE β):RE β:=λK Z=>r (λa μ=>k a μ K Z) Z
noncomputable abbrev RE.grd{β:Type}(p:Prop)(r:RE β):RE β:=λK Z=>p/\r K Z
noncomputable abbrev RE.som{β γ:Type}(o:Option γ)(k:γ->RE β):RE β:=λK Z=>∃a,o=some a/\k a K Z
@[reducible] noncomputable def brW(b:Bool)(A B:Prop):Prop:=match b with
 |true=>A
 |false=>B
noncomputable abbrev RE.br{β:Type}(b:Bool)(r s:RE β):RE β:=λK Z=>brW b (r K Z) (s K Z)
structure En where
 nx:Sl->Mem->Prop
 rt:T->Mem->Prop
 bk:Sl->Mem->Prop
 ct:Sl->Mem->Prop
 ex:Nat->List (Nat×T)->Sl->Mem->Prop
noncomputable abbrev Out:=En->Prop
noncomputable abbrev En.nxt(E:En)(f:Sl->Mem->Prop):En:=⟨f,E.rt,E.bk,E.ct,E.ex⟩
noncomputable abbrev En.turn(E:En)(N:Sl->Mem->Prop):En:=⟨N,E.rt,E.nx,N,E.ex⟩
noncomputable abbrev En.tri(E:En)(X:Nat->List (Nat×T)->Sl->Mem->Prop):En:=⟨E.nx,E.rt,E.bk,E.ct,X⟩
noncomputable abbrev En.fn(K:T->Mem->Prop)(Z:Xp):En:=⟨λ_ μ1=>K .non μ1,K,λ_ _=>False,λ_ _=>False,λc fs _ μ1=>Z c fs μ1⟩
noncomputable abbrev Out.nx(τ:Sl)(μ:Mem):Out:=λE=>E.nx τ μ
noncomputable abbrev Out.rt(t:T)(μ:Mem):Out:=λE=>E.rt t μ
noncomputable abbrev Out.ex(c:Nat)(fs:List (Nat×T))(τ:Sl)(μ:Mem):Out:=λE=>E.ex c fs τ μ
noncomputable abbrev Out.st:Out:=λ_=>False
noncomputable abbrev Out.grd(p:Prop)(o:Out):Out:=λE=>p/\o E
noncomputable abbrev Out.som{γ:Type}(o:Option γ)(k:γ->Out):Out:=λE=>∃a,o=some a/\k a E
noncomputable abbrev Out.br(b:Bool)(r s:Out):Out:=λE=>brW b (r E) (s E)
noncomputable abbrev Out.seq(o:Out)(f:Sl->Mem->Out):Out:=λE=>o (E.nxt λτ μ=>f τ μ E)
noncomputable abbrev RE.out{β:Type}(r:RE β)(τ:Sl)(f:β->Mem->Out):Out:=λE=>r (λa μ=>f a μ E) (λc fs μ=>E.ex c fs τ μ)
noncomputable abbrev Fn:=List T->Mem->RE T
noncomputable abbrev De:=Sl->Mem->RE T
noncomputable abbrev Dt:=Sl->Mem->RE Bool
noncomputable abbrev Da:=Sl->Mem->RE (List T)
noncomputable abbrev Ds:=Sl->Mem->Out
noncomputable abbrev RI:=(List T->(Mem->Prop)->Mem->Prop)->Xp->Prop
noncomputable abbrev RI.ok(xs:List T)(o:Mem->Prop)(μ:Mem):RI:=λK _=>K xs o μ
noncomputable abbrev RI.st:RI:=λ_ _=>False
noncomputable abbrev RI.grd(p:Prop)(r:RI):RI:=λK Z=>p/\r K Z
noncomputable abbrev RI.go{β:Type}(r:RI)(k:List T->(Mem->Prop)->Mem->RE β):RE β:=λK Z=>r (λxs o μ=>k xs o μ K Z) Z
noncomputable abbrev RI.out(r:RI)(τ:Sl)(f:List T->(Mem->Prop)->Mem->Out):Out:=λE=>r (λxs o μ=>f xs o μ E) (λc fs μ=>E.ex c fs τ μ)
noncomputable abbrev RI.re(r:RI):RE (List T×(Mem->Prop)):=λK Z=>r (λxs o μ=>K (xs,o) μ) Z
noncomputable abbrev RE.it{β:Type}(r:RE β)(k:β->Mem->RI):RI:=λK Z=>r (λa μ=>k a μ K Z) Z
noncomputable abbrev Di:=Sl->Mem->RI
abbrev lvT:Mem->Prop:=λ_=>True
abbrev lvM(i:Nat)(xs:List T):Mem->Prop:=λμ=>μ[i]?=some (.lst xs)
structure LamD where
 jt:Nat
 qn:Str
 y:Str
 body:Expr
 sc:Scope
 fr:List Str
 g:De
 sb:Option (Str×List Stmt)
noncomputable abbrev Ws(j jt:Nat)(ts:List T):T:=.clo (300+j) (.clo (100+jt) []::ts.map λt=>.clo 200 [t])
inductive GM where
 |fn (f:Fn)
 |fnh (nm:Str) (f:Fn)
 |met (c:Nat) (nm:Str) (f:Fn)
 |mk (c:Nat) (frozen:Bool) (f:Fn)
 |cst (t:T)
 |xcl (c:Nat)
 |xcf (c:Nat) (f:Nat)
 |xbt (c:Nat) (n:String)
 |xin (c f:Nat) (nm fl:Str)
 |mkd (c:Nat) (nm:Str) (n:Nat) (f:Fn)
 |metd (c:Nat) (nm:Str) (n:Nat) (d:T) (f:Fn)
 |kpr
 |kap (ls:List LamD)
 |tbl (kvs:List (Str×Int))
 |none
 |bad
noncomputable abbrev Zd(τ:Sl):Nat->Option T:=z7o (motive:=λ_=>Nat->Option T) (λ_=>none) (λo _ ih i=>zdf (motive:=λ_=>Option T) o (λn _=>ih n) i) τ
noncomputable abbrev ji(τ:Sl):Nat->Option T->Sl:=z7o (motive:=λ_=>Nat->Option T->Sl) (λ_ _=>[]) (λo r ih i t=>zdf (motive:=λ_=>Sl) (t::r) (λn _=>o::ih n t) i) τ
theorem ZL:∀{τ:Sl} {i:Nat} {t:T},Zd τ i=some t↔τ[i]?=some (some t)
 |[],_,_=>by simp
 |o::r,0,t=>by show o=some t↔_;simp
 |o::r,n+1,t=>by
  show Zd r n=some t↔_
  rw[ZL (τ:=r) (i:=n)];simp
theorem xB:∀{τ:Sl} {i:Nat} {t:Option T},ji τ i t=τ.set i t
 |[],_,_=>by simp
 |o::r,0,t=>rfl
 |o::r,n+1,t=>by
  show o::ji r n t=_
  rw[xB (τ:=r) (i:=n)];simp
noncomputable abbrev W8(fs:List (Nat×T)):Nat->Option T:=z7o (motive:=λ_=>Nat->Option T) (λ_=>none) (λp _ ih i=>zct (motive:=λ_=>Option T) (ih i) (some p.2) (z6X p.1 i)) fs
noncomputable abbrev VY(f:Nat)(v:T)(fs:List (Nat×T)):List (Nat×T):=z7o (motive:=λ_=>List (Nat×T)) [(f,v)] (λp r ih=>zct (motive:=λ_=>List (Nat×T)) (p::ih) ((p.1,v)::r) (z6X p.1 f)) fs
theorem JD{p:Nat×T}{r:List (Nat×T)}{i:Nat}:W8 (p::r) i=match z6X p.1 i with
  |true=>some p.2
  |false=>W8 r i:=by
 show (zct (W8 r i) (some p.2) (z6X p.1 i):Option T)=_
 cases z6X p.1 i<;>rfl
theorem Jv{f:Nat}{v:T}{p:Nat×T}{r:List (Nat×T)}:VY f v (p::r)=match z6X p.1 f with
  |true=>(p.1,v)::r
  |false=>p::VY f v r:=by
 show (zct (p::VY f v r) ((p.1,v)::r) (z6X p.1 f):List (Nat×T))=_
 cases z6X p.1 f<;>rfl
noncomputable def idx:List Str->Str->Option Nat
 |[],_=>none
 |y::r,x=>if y=x then some 0 else (idx r x).map (·+1)
noncomputable abbrev tyN:T->Mem->Option Nat
 |.non,_=>some 0
 |.bl _,_=>some 1
 |.int _,_=>some 2
 |.str _,_=>some 3
 |.tup _,_=>some 4
 |.lst _,_=>some 5
 |.dic _,_=>some 6
 |.exc c _,_=>some c
 |.obj c _,_=>some c
 |_,_=>none
noncomputable abbrev tyO:MO->Nat
 |.lst _=>5
 |.obj c _=>c
 |.dic _=>6
 |.tab _=>99
 |.dct _=>6
noncomputable abbrev z0e(a b:Bool):Bool:=match a with
 |true=>b
 |false=>false
noncomputable abbrev bOr(a b:Bool):Bool:=match a with
 |true=>true
 |false=>b
noncomputable abbrev qp(a c:Nat):Bool:=bOr (z6X a c) (bOr (z0e (z6X a 1) (z6X c 2)) (z0e (zbr 10 a) (z0e (zbr a 39) (bOr (z6X c 11) (z0e (z6X c 10) (zbr 12 a))))))
noncomputable abbrev isAny(t:Nat)(cs:List Nat):Bool:=z7o (motive:=λ_=>Bool) false (λc _ ih=>bOr (qp t c) ih) cs
theorem vz{t c:Nat}{r:List Nat}:isAny t (c::r)=bOr (qp t c) (isAny t r):=rfl
noncomputable def big:Int:=18446744073709551616
noncomputable def room:Nat:=1000000
noncomputable abbrev z1R:T->T->Mem->RE T
 |.int i,.int j,μ=>.ok (.int (i+j)) μ
 |.str x,.str y,μ=>.grd (x.length+y.length<=room) (.ok (.str (x++y)) μ)
 |.lst xs,.lst ys,μ=>.grd (xs.length+ys.length<=room) (.ok (.lst (xs++ys)) μ)
 |.tup xs,.tup ys,μ=>.grd (xs.length+ys.length<=room) (.ok (.tup (xs++ys)) μ)
 |.mut i,.lst ys,μ=>λK _=>∃xs,μ[i]?=some (.lst xs)/\xs.length+ys.length<=room/\K (.lst (xs++ys)) μ
 |.lst xs,.mut j,μ=>λK _=>∃ys,μ[j]?=some (.lst ys)/\xs.length+ys.length<=room/\K (.lst (xs++ys)) μ
 |.mut i,.mut j,μ=>λK _=>∃p:List T×List T,(μ[i]?=some (.lst p.1)/\μ[j]?=some (.lst p.2))/\p.1.length+p.2.length<=room/\K (.lst (p.1++p.2)) μ
 |_,_,_=>.st
noncomputable abbrev Zs(f:Int->Int->Mem->RE T):T->T->Mem->RE T
 |.int i,.int j,μ=>f i j μ
 |_,_,_=>.st
noncomputable abbrev z4B:zcu->T->T->Mem->RE T
 |.Add=>z1R
 |.Sub=>Zs λi j μ=>.ok (.int (i-j)) μ
 |.Mult=>Zs λi j μ=>.grd ((-big<i/\i<big)\/(-big<j/\j<big)) (.ok (.int (i * j)) μ)
 |.FloorDiv=>Zs λi j μ=>.grd (0<j/\j<1606938044258990275541962092341162602522202993782792835301376) (.ok (.int (i / j)) μ)
 |.Mod=>Zs λi j μ=>.grd (0<j) (.ok (.int (i % j)) μ)
 |.Pow=>Zs λi j μ=>.grd (0<=j/\j<=1000000/\i.natAbs<18446744073709551616) (.ok (.int (i ^ j.toNat)) μ)
 |.RShift=>Zs λi j μ=>.grd (0<=j) (.ok (.int (i / 2 ^ j.toNat)) μ)
 |.BitAnd=>Zs λi j μ=>.ok (.int (zck i j)) μ
 |_=>λ_ _ _=>.st
mutual
def eqT:T->T->Option Bool
 |.int i,b=>match b with
  |.int j=>some (i == j)
  |.bl k=>some (i == (if k then 1 else 0))
  |.str _=>some false
  |.non=>some false
  |.tup _=>some false
  |.lst _=>some false
  |_=>none
 |.bl k,b=>match b with
  |.int j=>some ((if k then 1 else 0) == j)
  |.bl j=>some (k == j)
  |.str _=>some false
  |.non=>some false
  |.tup _=>some false
  |.lst _=>some false
  |_=>none
 |.str x,b=>match b with
  |.str y=>some (x == y)
  |.int _=>some false
  |.bl _=>some false
  |.non=>some false
  |.tup _=>some false
  |.lst _=>some false
  |_=>none
 |.non,b=>match b with
  |.non=>some true
  |.int _=>some false
  |.bl _=>some false
  |.str _=>some false
  |.tup _=>some false
  |.lst _=>some false
  |_=>none
 |.tup xs,b=>match b with
  |.tup ys=>eqL xs ys
  |.non=>some false
  |.int _=>some false
  |.bl _=>some false
  |.str _=>some false
  |.lst _=>some false
  |_=>none
 |.lst xs,b=>match b with
  |.lst ys=>eqL xs ys
  |.non=>some false
  |.int _=>some false
  |.bl _=>some false
  |.str _=>some false
  |.tup _=>some false
  |_=>none
 |_,_=>none
def eqL:List T->List T->Option Bool
 |[],[]=>some true
 |[],_::_=>some false
 |_::_,[]=>some false
 |x::xs,y::ys=>match eqT x y,eqL xs ys with
  |some a,some b=>some (a&&b)
  |_,_=>none
end
mutual
def je:T->Nat
 |.tup ts=>qS ts+1
 |.lst ts=>qS ts+1
 |_=>0
def qS:List T->Nat
 |[]=>0
 |t::r=>max (je t) (qS r)
end
noncomputable abbrev scT:T->T->Option Bool
 |.non,.non=>some true
 |.non,.int _=>some false|.int _,.non=>some false|.non,.bl _=>some false|.bl _,.non=>some false|.non,.str _=>some false|.str _,.non=>some false
 |.int i,.int j=>some (decide (i=j))|.bl i,.bl j=>some (decide (i=j))|.str i,.str j=>some (decide (i=j))
 |.int _,.str _=>some false|.str _,.int _=>some false|.bl _,.str _=>some false|.str _,.bl _=>some false
 |_,_=>none
noncomputable abbrev eqW(x y:T)(μ:Mem)(k:Bool->RE T):RE T:=match x,y with
 |.tup xs,.tup ys=>.grd (qS xs<=40) (.som (eqL xs ys) k)
 |.lst xs,.lst ys=>.grd (qS xs<=40) (.som (eqL xs ys) k)
 |.mut i,.lst ys=>λK Z=>∃xs,μ[i]?=some (.lst xs)/\RE.grd (qS xs<=40) (.som (eqL xs ys) k) K Z
 |.lst xs,.mut j=>λK Z=>∃ys,μ[j]?=some (.lst ys)/\RE.grd (qS xs<=40) (.som (eqL xs ys) k) K Z
 |.mut i,.mut j=>λK Z=>∃p:List T×List T,(μ[i]?=some (.lst p.1)/\μ[j]?=some (.lst p.2))/\RE.grd (qS p.1<=40) (.som (eqL p.1 p.2) k) K Z
 |x,y=>match scT x y with
  |some b=>k b
  |none=>.st
noncomputable def intsOf:List T->Option (List Int)
 |[]=>some []
 |.int i::r=>(intsOf r).map (i::·)
 |_::_=>none
noncomputable abbrev ltW(x y:T)(k:Bool->RE T):RE T:=match x,y with
 |.int i,.int j=>k (decide (i<j))
 |.tup xs,.tup ys=>.som (intsOf xs) λns=>.som (intsOf ys) λms=>k (HT.lexLt ns ms)
 |.str a,.str b=>k (decide (a.cps.toList<b.cps.toList))
 |_,_=>.st
noncomputable abbrev Zk(op:z7B)(x y:T)(μ:Mem):RE T:=
 match op with
 |.Eq=>eqW x y μ λb=>.ok (.bl b) μ
 |.NotEq=>eqW x y μ λb=>.ok (.bl (!b)) μ
 |.Lt=>ltW x y λb=>.ok (.bl b) μ
 |.LtE=>match x,y with|.int i,.int j=>.ok (.bl (decide (i<=j))) μ|_,_=>.st
 |.Gt=>match x,y with|.int i,.int j=>.ok (.bl (decide (j<i))) μ|_,_=>.st
 |.GtE=>match x,y with|.int i,.int j=>.ok (.bl (decide (j<=i))) μ|_,_=>.st
 |.Is=>(match y with
  |.non=>.ok (.bl (match x with|.non=>true|_=>false)) μ
  |.bl b=>(match x with|.bl a=>.ok (.bl (decide (a=b))) μ|_=>.st)
  |_=>.st)
 |.IsNot=>(match y with
  |.non=>.ok (.bl (match x with|.non=>false|_=>true)) μ
  |.bl b=>(match x with|.bl a=>.ok (.bl (!decide (a=b))) μ|_=>.st)
  |_=>.st)
 |.In=>(match x,y with|.str i,.str j=>.ok (.bl (!(z7A j i 0 j.length 1).isEmpty)) μ|_,_=>.st)
 |.NotIn=>(match x,y with|.str i,.str j=>.ok (.bl (!(!(z7A j i 0 j.length 1).isEmpty))) μ|_,_=>.st)
noncomputable abbrev ZE:T->Mem->RE Bool
 |.bl b,μ=>.ok b μ
 |_,_=>.st
noncomputable abbrev eC(t:T):De:=λ_ μ=>.ok t μ
noncomputable abbrev eV(i:Nat):De:=λτ μ=>match Zd τ i with
 |some t=>.ok t μ
 |none=>.st
noncomputable abbrev zo(op:zcu)(f g:De):De:=λτ μ=>(f τ μ).bind λx μ1=>(g τ μ1).bind λy μ2=>z4B op x y μ2
noncomputable abbrev z4u(f:De):De:=λτ μ=>(f τ μ).bind λx μ1=>match x with|.int i=>.ok (.int (-i)) μ1|_=>.st
noncomputable abbrev XD(f:De):De:=λτ μ=>(f τ μ).bind λx μ1=>match x with|.bl b=>.ok (.bl (!b)) μ1|_=>.st
noncomputable abbrev ZS(f g:De):De:=λτ μ=>(f τ μ).bind λx μ1=>match x with|.bl b=>.br b (g τ μ1) (.ok (.bl false) μ1)|_=>.st
noncomputable abbrev eOr(f g:De):De:=λτ μ=>(f τ μ).bind λx μ1=>match x with|.bl b=>.br b (.ok (.bl true) μ1) (g τ μ1)|_=>.st
noncomputable abbrev zt(op:z7B)(f g:De):De:=λτ μ=>(f τ μ).bind λx μ1=>(g τ μ1).bind λy μ2=>Zk op x y μ2
noncomputable abbrev chS(op:z7B)(last:Bool)(ih:T->Sl->Mem->RE T)(x y:T)(τ:Sl)(μ1:Mem):RE T:=match last with
 |true=>Zk op x y μ1
 |false=>(Zk op x y μ1).bind λk μ2=>match k with
  |.bl b=>.br b (ih y τ μ2) (.ok (.bl false) μ2)
  |_=>.st
noncomputable abbrev Kx(ps:List (z7B×De)):T->Sl->Mem->RE T:=z7o (motive:=λ_=>T->Sl->Mem->RE T) (λ_ _ _=>.st) (λp r ih x τ μ=>(p.2 τ μ).bind λy μ1=>chS p.1 r.isEmpty ih x y τ μ1) ps
noncomputable abbrev eCh(f:De)(ps:List (z7B×De)):De:=λτ μ=>(f τ μ).bind λx μ1=>Kx ps x τ μ1
noncomputable abbrev tE(f:De):Dt:=λτ μ=>(f τ μ).bind ZE
noncomputable abbrev xh(f g:Dt):Dt:=λτ μ=>(f τ μ).bind λb μ1=>.br b (g τ μ1) (.ok false μ1)
noncomputable abbrev tOr(f g:Dt):Dt:=λτ μ=>(f τ μ).bind λb μ1=>.br b (.ok true μ1) (g τ μ1)
noncomputable abbrev w_(f:Dt):Dt:=λτ μ=>(f τ μ).bind λb μ1=>.ok (!b) μ1
noncomputable abbrev eIf(c:Dt)(f g:De):De:=λτ μ=>(c τ μ).bind λb μ1=>.br b (f τ μ1) (g τ μ1)
noncomputable abbrev yC(t:T)(f:Nat)(μ:Mem):RE T:=match t with
 |.obj _ fs=>(match W8 fs f with|some v=>.ok v μ|none=>.st)
 |.mut i=>λK _=>∃c fs v,μ[i]?=some (.obj c fs)/\W8 fs f=some v/\K v μ
 |_=>.st
noncomputable abbrev zm(f:De)(n:Nat):De:=λτ μ=>(f τ μ).bind λt μ1=>yC t n μ1
noncomputable def YW(n:Nat)(i:Int):Option Nat:=if 0<=i then (if i<n then some i.toNat else none) else if -(n:Int)<=i then some (i+n).toNat else none
noncomputable def xf {α:Type}(xs:List α)(i:Int):Option α:=(YW xs.length i).bind λj=>xs[j]?
noncomputable abbrev z0R(t i:T)(μ:Mem):RE T:=match i with
 |.int k=>(match t with
  |.lst ts=>.som (xf ts k) λv=>.ok v μ
  |.tup ts=>.som (xf ts k) λv=>.ok v μ
  |.mut j=>λK _=>∃ts v,μ[j]?=some (.lst ts)/\xf ts k=some v/\K v μ
  |.str z=>.grd (z.length<=room) (.som (xf z.cps.toList k) λc=>.ok (.str ⟨#[c]⟩) μ)
  |_=>.st)
 |_=>.st
noncomputable abbrev eIx(f g:De):De:=λτ μ=>(f τ μ).bind λx μ1=>(g τ μ1).bind λy μ2=>z0R x y μ2
noncomputable def Km(n d:Nat):Option Int->Nat
 |none=>d
 |some v=>if v<0 then (v+(n:Int)).toNat else min v.toNat n
noncomputable def x_ {α:Type}(xs:List α)(lo hi:Option Int):List α:=(xs.drop (Km xs.length 0 lo)).take (Km xs.length xs.length hi-Km xs.length 0 lo)
noncomputable abbrev Dp:=Sl->Mem->RE (Option Int)
noncomputable abbrev pN:Dp:=λ_ μ=>.ok none μ
noncomputable abbrev pS(f:De):Dp:=λτ μ=>(f τ μ).bind λt μ1=>match t with|.int i=>.ok (some i) μ1|_=>.st
noncomputable abbrev z4A(x:T)(l h:Option Int)(μ:Mem):RE T:=match x with
 |.lst xs=>.ok (.lst (x_ xs l h)) μ
 |.tup xs=>.ok (.tup (x_ xs l h)) μ
 |.str z=>.grd (z.length<=room) (.ok (.str (Txt.slice z l h)) μ)
 |.mut i=>λK _=>∃ts,μ[i]?=some (.lst ts)/\K (.lst (x_ ts l h)) μ
 |_=>.st
noncomputable abbrev eSl(f:De)(lo hi:Dp):De:=λτ μ=>(f τ μ).bind λx μ1=>(lo τ μ1).bind λl μ2=>(hi τ μ2).bind λh μ3=>z4A x l h μ3
noncomputable abbrev evs(fs:List De):Da:=z7o (motive:=λ_=>Da) (λ_ μ=>.ok [] μ) (λf _ ih τ μ=>(f τ μ).bind λt μ1=>(ih τ μ1).bind λts μ2=>.ok (t::ts) μ2) fs
noncomputable abbrev kY(fs:List De):De:=λτ μ=>(evs fs τ μ).bind λts μ1=>.ok (.lst ts) μ1
noncomputable abbrev jh(fs:List De):De:=λτ μ=>(evs fs τ μ).bind λts μ1=>.ok (.tup ts) μ1
noncomputable abbrev kq(fs:List De):De:=λτ μ=>(evs fs τ μ).bind λts μ1=>.ok (.mut μ1.length) (μ1++[.lst ts])
noncomputable abbrev zf(g:Fn)(fs:List De):De:=λτ μ=>(evs fs τ μ).bind g
noncomputable abbrev Qo(c:Nat)(g:Fn)(ts:List T)(μ:Mem):RE T:=λK Z=>
 yw ts=true/\g (.mut 0::ts) [.obj c []] (λr μ1=>r=.non/\∃fs,μ1[0]?=some (.obj c fs)/\kS fs=true/\K (.obj c fs) μ) (λk fs _=>kS fs=true/\Z k fs μ)
noncomputable abbrev eMk(c:Nat)(g:Fn)(fs:List De):De:=λτ μ=>(evs fs τ μ).bind (Qo c g)
noncomputable abbrev XE(cs:List Nat)(x:T)(μ:Mem):RE T:=match x with
 |.mut i=>.som μ[i]? λo=>.br (z0M o) .st (.ok (.bl (isAny (tyO o) cs)) μ)
 |x=>match tyN x μ with
  |some t=>.ok (.bl (isAny t cs)) μ
  |none=>.st
noncomputable abbrev Zb(cs:List Nat)(f:De):De:=λτ μ=>(f τ μ).bind (XE cs)
noncomputable abbrev eB1(op:T->Mem->RE T)(f:De):De:=λτ μ=>(f τ μ).bind op
noncomputable abbrev ja(t:T)(μ:Mem):RE T:=match t with
 |.lst xs=>.ok (.int xs.length) μ
 |.tup xs=>.ok (.int xs.length) μ
 |.str s=>.grd (s.length<=room) (.ok (.int s.length) μ)
 |.mut i=>λK _=>∃xs,μ[i]?=some (.lst xs)/\K (.int xs.length) μ
 |_=>.st
noncomputable def bools:List T->Option (List Bool)
 |[]=>some []
 |.bl b::r=>(bools r).map (b::·)
 |_::_=>none
noncomputable abbrev JP(t:T)(μ:Mem):RE T:=match t with
 |.lst xs=>.som (bools xs) λbs=>.ok (.bl (bs.all id)) μ
 |_=>.st
noncomputable abbrev QL(o f:De):De:=λτ μ=>(o τ μ).bind λot μ1=>match ot with
 |.mut i=>λK Z=>(∃ts,μ1[i]?=some (.lst ts))/\f τ μ1 (λt μ2=>∃ts,μ2[i]?=some (.lst ts)/\ts.length<room/\K .non (μ2.set i (.lst (ts++[t])))) Z
 |_=>.st
noncomputable abbrev KA(z:Str):List T:=z.cps.toList.map λc=>T.str ⟨#[c]⟩
noncomputable abbrev z1r(t:T)(μ:Mem):RI:=match t with
 |.lst xs=>.ok xs lvT μ
 |.tup xs=>.ok xs lvT μ
 |.str z=>.ok (KA z) lvT μ
 |.mut i=>λK _=>∃xs,μ[i]?=some (.lst xs)/\K xs (lvM i xs) μ
 |_=>.st
noncomputable abbrev iE(f:De):Di:=λτ μ=>(f τ μ).it z1r
noncomputable def rangeT(n:Int):List T:=(z6R n.toNat).map λ(i:Nat)=>T.int i
noncomputable def kn(a b c:Int):List T:=(z6R (if a<b then (b-a-1) / c+1 else 0:Int).toNat).map λ(i:Nat)=>T.int (a+i * c)
noncomputable abbrev inL(a:Int):Prop := -1606938044258990275541962092341162602522202993782792835301376<=a/\a<1606938044258990275541962092341162602522202993782792835301376
noncomputable abbrev Xq(f:De):Di:=λτ μ=>(f τ μ).it λt μ1=>match t with
 |.int n=>.grd (inL n) (.ok (rangeT n) lvT μ1)
 |_=>.st
noncomputable abbrev Ye(x y z:T)(μ:Mem):RI:=match x,y,z with
 |.int a,.int b,.int c=>.grd (inL a/\inL b/\0<c/\c<1073741824) (.ok (kn a b c) lvT μ)
 |_,_,_=>.st
noncomputable abbrev z0y(f g h:De):Di:=λτ μ=>(f τ μ).it λx μ1=>(g τ μ1).it λy μ2=>(h τ μ2).it λz μ3=>Ye x y z μ3
noncomputable abbrev Vo(f g:De):Di:=λτ μ=>(f τ μ).it λx μ1=>(g τ μ1).it λy μ2=>match x,y with
 |.int a,.int b=>.grd (inL a/\inL b) (.ok (kn a b 1) lvT μ2)
 |_,_=>.st
inductive Tg where
 |one (i:Nat)|tup (is:List Nat)
noncomputable abbrev Q5(is:List Nat):List T->Sl->Option Sl:=z7o (motive:=λ_=>List T->Sl->Option Sl) (λts τ=>z7o (motive:=λ_=>Option Sl) (some τ) (λ_ _ _=>none) ts) (λi _ ih ts τ=>z7o (motive:=λ_=>Option Sl) none (λt ts' _=>ih ts' (ji τ i (some t))) ts) is
noncomputable abbrev asg:Tg->T->Sl->Option Sl
 |.one i,t,τ=>some (ji τ i (some t))
 |.tup is,.tup ts,τ=>Q5 is ts τ
 |_,_,_=>none
noncomputable def zW(tg:Tg)(g:Sl->Mem->RE (Option T))(lv:Mem->Prop)(τ:Sl):List T->Mem->RE (List T)
 |[],μ=>.ok [] μ
 |x::r,μ=>.som (asg tg x τ) λτ'=>(g τ' μ).bind λo μ1=>.grd (lv μ1) (match o with
  |some y=>(zW tg g lv τ r μ1).bind λys μ2=>.ok (y::ys) μ2
  |none=>zW tg g lv τ r μ1)
noncomputable abbrev xk(cs:List Dt)(f:De):Sl->Mem->RE (Option T):=z7o (motive:=λ_=>Sl->Mem->RE (Option T)) (λτ μ=>(f τ μ).bind λy μ1=>.ok (some y) μ1) (λc _ ih τ μ=>(c τ μ).bind λb μ1=>.br b (ih τ μ1) (.ok none μ1)) cs
noncomputable abbrev Wz(is:List Nat)(τ:Sl):Sl:=z7o (motive:=λ_=>Sl) [] (λi _ ih=>Zd τ i::ih) is
noncomputable abbrev blk(n:Nat)(fs:List Nat)(τ:Sl):Sl:=zdf (motive:=λ_=>Sl) (Wz fs τ) (λ_ ih=>none::ih) n
noncomputable abbrev qR(n:Nat)(fs:List Nat)(tg:Tg)(it:Di)(cs:List Dt)(f:De):De:=λτ μ=>(it τ μ).go λxs o μ1=>.grd (xs.length<=room) ((zW tg (xk cs f) o (blk n fs τ) xs μ1).bind λys μ2=>.ok (.lst ys) μ2)
noncomputable abbrev va(n:Nat)(fs:List Nat)(tg:Tg)(it:Di)(cs:List Dt)(f:De):De:=λτ μ=>(it τ μ).go λxs o μ1=>.grd (xs.length<=room) ((zW tg (xk cs f) o (blk n fs τ) xs μ1).bind λys μ2=>.ok (.mut μ2.length) (μ2++[.lst ys]))
noncomputable abbrev zA(f:De):Ds:=λτ μ=>(f τ μ).out τ λt μ1=>.rt t μ1
noncomputable abbrev Kl:Ds:=λ_ μ=>.rt .non μ
noncomputable abbrev zJ(f:De):Ds:=λτ μ=>(f τ μ).out τ λ_ μ1=>.nx τ μ1
noncomputable abbrev qF(ss:List Ds):Ds:=z7o (motive:=λ_=>Ds) (λτ μ=>.nx τ μ) (λs _ ih τ μ=>(s τ μ).seq ih) ss
noncomputable abbrev sIf(c:Dt)(a b:List Ds):Ds:=λτ μ=>(c τ μ).out τ λk μ1=>.br k (qF a τ μ1) (qF b τ μ1)
noncomputable abbrev zx(i:Nat)(f:De):Ds:=λτ μ=>(f τ μ).out τ λt μ1=>.nx (ji τ i (some t)) μ1
noncomputable abbrev z3V(is:List Nat)(f:De):Ds:=λτ μ=>(f τ μ).out τ λt μ1=>.som (asg (.tup is) t τ) λτ'=>.nx τ' μ1
noncomputable abbrev qH(o:De)(n:Nat)(f:De):Ds:=λτ μ=>(f τ μ).out τ λt μ1=>(o τ μ1).out τ λot μ2=>match ot with
 |.mut i=>λE=>∃c fs,μ2[i]?=some (.obj c fs)/\fs.length<900/\E.nx τ (μ2.set i (.obj c (VY n t fs)))
 |_=>.st
noncomputable abbrev Yu(o b f:De):Ds:=λτ μ=>(f τ μ).out τ λt μ1=>(o τ μ1).out τ λot μ2=>(b τ μ2).out τ λit μ3=>match ot,it with
 |.mut i,.int k=>λE=>∃ts,μ3[i]?=some (.lst ts)/\(0<=k/\k<ts.length/\k<9223372036854775808)/\E.nx τ (μ3.set i (.lst (ts.set k.toNat t)))
 |_,_=>.st
noncomputable def forM(tg:Tg)(body:Ds)(lv:Mem->Prop):List T->Ds
 |[],τ,μ=>.nx τ μ
 |x::r,τ,μ=>.som (asg tg x τ) λτ'=>λE=>body τ' μ (E.turn λτ2 μ2=>lv μ2/\forM tg body lv r τ2 μ2 E)
noncomputable abbrev K1(tg:Tg)(it:Di)(body:List Ds):Ds:=λτ μ=>(it τ μ).out τ λxs o μ1=>forM tg (qF body) o xs τ μ1
noncomputable abbrev zG(c:Nat)(fs:List De):Ds:=λτ μ=>(evs fs τ μ).out τ λts μ1=>.grd (ts.length<=room) (.ex c [] τ μ1)
noncomputable abbrev ZO(c f:Nat)(g:De):Ds:=λτ μ=>(g τ μ).out τ λt μ1=>match t with
 |.int i=>.grd (i.natAbs.log2<1920) (.ex c [(f,.int i)] τ μ1)
 |_=>.st
noncomputable abbrev z4w(i:Option Nat)(v:List Ds)(k:Nat)(fs:List (Nat×T))(τ:Sl)(μ:Mem):Out:=λE=>match i with
 |some j=>qF v (ji τ j (some (.exc k fs))) μ {nx:=λτ2 μ2=>E.nx (ji τ2 j none) μ2,rt:=E.rt,bk:=λ_ _=>False,ct:=λ_ _=>False,ex:=λ_ _ _ _=>False}
 |none=>qF v τ μ {nx:=E.nx,rt:=E.rt,bk:=λ_ _=>False,ct:=λ_ _=>False,ex:=λ_ _ _ _=>False}
noncomputable abbrev Ur(hs:List (List Nat×Option Nat×List Ds)):Nat->List (Nat×T)->Sl->Mem->Out:=z7o (motive:=λ_=>Nat->List (Nat×T)->Sl->Mem->Out) (λk fs τ μ=>.ex k fs τ μ) (λp _ ih k fs τ μ=>.br (isAny k p.1) (z4w p.2.1 p.2.2 k fs τ μ) (ih k fs τ μ)) hs
noncomputable abbrev X8(b:List Ds)(hs:List (List Nat×Option Nat×List Ds)):Ds:=λτ μ E=>qF b τ μ (E.tri λk fs τ1 μ1=>Ur hs k fs τ1 μ1 E)
noncomputable abbrev pad(n:Nat):Sl:=zdf (motive:=λ_=>Sl) [] (λ_ ih=>none::ih) n
noncomputable abbrev UO(ts:List T)(n:Nat):Sl:=z7o (motive:=λ_=>Sl) (pad n) (λt _ ih=>some t::ih) ts
noncomputable abbrev fnW(n m:Nat)(body:List Ds):Fn:=λts μ K Z=>ts.length=n/\qF body (UO ts m) μ (En.fn K Z)
end NH
namespace NH
open PySem PySem.Spec PyProof.Rows L2
section
structure DP where
 K:z5G
 adr:Nat->Option Addr
 cad:Nat->Option Addr
 fn:Nat->Option Str
 inj:∀i j x,fn i=some x->fn j=some x->i=j
 clo:Nat->Addr->Option HO->List V->Prop
 tabs:Nat->Option (Addr×List Pos×Str)
noncomputable def yR (a C:Addr)(d:Option Addr):Heap->Prop:=λh=>∃oe vs,h.get? a=some oe/\oe.cls=.ref C/\oe.data=.fields vs/\oe.dict=d
noncomputable def Ka(x:Int×Int):Int:=reduceHash (zcR [hashInt x.1,hashInt x.2])
noncomputable def z0F(a:Addr)(xs:List ((Int×Int)×Addr)):Heap->Prop:=λh=>∃o es ep,h.get? a=some o/\o.ExactDict/\o.data=.dict es ep/\es.toList=xs.map λx=>(⟨Ka x.1,.ref x.2,.bool true⟩:DictEntry)
noncomputable def qE(c:Addr)(qn:Str):Heap->Prop:=λh=>h.CodeRec (.ref c) qn
mutual
def Den (D:DP)(φ α:List Addr)(H:Hp):T->V->Prop
 |.non,v=>v=.non
 |.bl b,v=>v=.bl b
 |.int i,v=>v=.int i
 |.str x,v=>v=.str x
 |.mut i,v=>∃a,α[i]?=some a/\v=.ref a
 |.tup ts,v=>∃a xs,v=.ref a/\a∉φ/\a∉α/\Rd H a (.tup xs)/\DenL D φ α H ts xs
 |.lst ts,v=>∃a xs,v=.ref a/\a∉φ/\a∉α/\Rd H a (.lst xs)/\DenL D φ α H ts xs
 |.obj c fs,v=>∃a C dx gs,v=.ref a/\a∉φ/\a∉α/\D.cad c=some C/\H a=some (.ins C dx gs)/\DenF D φ α H fs gs
 |.exc c fs,v=>∃a C d,v=.ref a/\a∉φ/\a∉α/\D.adr c=some C/\H a=some (.ext (yR a C d))/\(match d with
  |none=>fs=[]
  |some dx=>∃gs,dx∉φ/\dx∉α/\H dx=some (.xd gs)/\DenF D φ α H fs gs)
 |.dic kvs,v=>∃a gs,v=.ref a/\a∉φ/\a∉α/\H a=some (.dK gs)/\DenK D φ α H kvs gs
 |.clo j cs,v=>∃a ob xs,v=.ref a/\D.clo j a ob xs/\(∀o,ob=some o->a∉φ/\a∉α/\H a=some o)/\DenL D φ α H cs xs
def DenL (D:DP)(φ α:List Addr)(H:Hp):List T->List V->Prop
 |[],vs=>vs=[]
 |t::ts,vs=>∃v r,vs=v::r/\Den D φ α H t v/\DenL D φ α H ts r
def DenF (D:DP)(φ α:List Addr)(H:Hp):List (Nat×T)->List (Str×V)->Prop
 |[],gs=>gs=[]
 |p::fs,gs=>∃x v r,D.fn p.1=some x/\gs=(x,v)::r/\Den D φ α H p.2 v/\DenF D φ α H fs r
def DenK (D:DP)(φ α:List Addr)(H:Hp):List (Key×T)->List (Key×V)->Prop
 |[],gs=>gs=[]
 |p::fs,gs=>∃v r,gs=(p.1,v)::r/\Den D φ α H p.2 v/\DenK D φ α H fs r
end
noncomputable def cvF (fs:List (Nat×T))(C:Addr):Value:=if fs.length<=1 then .ref C else .int (C:Int) 0
theorem ZX{fs:List (Nat×T)}{C:Addr}:stC (cvF fs C)=.ref C:=by
 unfold cvF
 split
 ·rfl
 ·show z61 (Int.toNat (C:Int))=_
  rw[zbs]
noncomputable def bxN(c:Nat):Option String:=if c=8 then some "KeyError" else if c=9 then some "ZeroDivisionError" else none
inductive XCv(D:DP)(c:Nat)(fs:List (Nat×T))(cv:Value):Prop where
 |own (C:Addr) (ad:D.adr c=some C) (e:cv=cvF fs C)
 |blt (n:String) (h:bxN c=some n) (hn:D.adr c=none) (e:cv=.type n)
noncomputable def XDict(D:DP)(φ α:List Addr)(H:Hp)(fs:List (Nat×T)):Option Addr->Prop
 |none=>fs=[]
 |some dx=>∃gs,dx∉φ/\dx∉α/\H dx=some (.xd gs)/\DenF D φ α H fs gs
noncomputable def DenO (D:DP)(φ α:List Addr)(H:Hp):MO->Addr->Prop
 |.lst ts,a=>∃xs,H a=some (.lst xs)/\DenL D φ α H ts xs
 |.obj c fs,a=>∃C dx gs,D.cad c=some C/\H a=some (.ins C dx gs)/\DenF D φ α H fs gs
 |.dic kvs,a=>∃gs,H a=some (.dK gs)/\DenK D φ α H kvs gs
 |.tab j,a=>∃poss qn ps,D.tabs j=some (a,poss,qn)/\H a=some (.tbl ps)/\z8v ps.toList/\∀pos∈poss,z7R pos ps.toList=none\/∃c,z7R pos ps.toList=some (.ref c)/\c∉φ/\c∉α/\H c=some (.ext (qE c qn))
 |.dct ks,a=>∃xs:List ((Int×Int)×Addr),ks=xs.map (·.1)/\ks.Nodup/\ks.length<=100000/\(a == z8n)=false/\H a=some (.ext (z0F a xs))/\∀x∈xs,x.2∉φ/\x.2∉α/\Rd H x.2 (.tup [.int x.1.1,.int x.1.2])
structure Stp(α:List Addr)(H:Hp)(α':List Addr)(H':Hp):Prop where
 ext:∃β,α'=α++β/\∀b∈β,H b=none
 keep:∀b o,b∉α->H b=some o->H' b=some o
 live:∀b,H' b=none->H b=none
theorem Stp.refl(α:List Addr)(H:Hp):Stp α H α H:=⟨⟨[],by simp,by simp⟩,λ_ _ _ e=>e,λ_ e=>e⟩
theorem Stp.trans{α α1 α2:List Addr}{H H1 H2:Hp}(a:Stp α H α1 H1)(b:Stp α1 H1 α2 H2):Stp α H α2 H2:=by
 obtain⟨β,rfl,hβ⟩:=a.ext
 obtain⟨γ,rfl,hγ⟩:=b.ext
 refine⟨⟨β++γ,by simp,λc hc=>?_⟩,λc o n e=>?_,λc e=>a.live c (b.live c e)⟩
 ·rcases z5Q.mp hc with h|h
  ·exact hβ c h
  ·exact a.live c (hγ c h)
 ·refine b.keep c o (λh=>?_) (a.keep c o n e)
  rcases z5Q.mp h with h|h
  ·exact n h
  ·rw[hβ c h] at e;cases e
theorem Stp.new{α:List Addr}{H H':Hp}(s:vZ H H'):Stp α H α H':=⟨⟨[],by simp,by simp⟩,λb o _ e=>s b o e,λb e=>by
 cases q:H b with
 |none=>rfl
 |some o=>rw[s b o q] at e;cases e⟩
theorem zj{H:Hp}{p:Addr}{o:HO}(h:H p=none):vZ H (upd H p o):=λb u e=>by rw[za (zS e h)];exact e
theorem Stp.out{α α':List Addr}{H H':Hp}(s:Stp α H α' H'){a:Addr}{o:HO}(n:a∉α)(e:H a=some o):a∉α':=by
 obtain⟨β,rfl,hβ⟩:=s.ext
 intro h
 rcases z5Q.mp h with h|h
 ·exact n h
 ·rw[hβ a h] at e;cases e
section
variable {D:DP}{φ φ' α α':List Addr}{H H':Hp}
structure Lk(φ α:List Addr)(H:Hp)(φ' α':List Addr)(H':Hp):Prop where
 ob:∀a o,a∉φ->a∉α->H a=some o->a∉φ'/\a∉α'/\H' a=some o
 st:∀(i:Nat) (a:Addr),α[i]?=some a->α'[i]?=some a
mutual
theorem Den.lk(h:Lk φ α H φ' α' H'):∀{t:T} {v:V},Den D φ α H t v->Den D φ' α' H' t v
 |.non,_,d=>d
 |.bl _,_,d=>d
 |.int _,_,d=>d
 |.str _,_,d=>d
 |.mut i,_,d=>by obtain⟨a,e,q⟩:=d;exact⟨a,h.st i a e,q⟩
 |.tup ts,_,d=>by
  obtain⟨a,xs,rfl,n1,n2,r,l⟩:=d
  rcases r with r|⟨o,r⟩
  ·obtain⟨m1,m2,e⟩:=h.ob a _ n1 n2 r
   exact⟨a,xs,rfl,m1,m2,.inl e,DenL.lk h l⟩
  ·obtain⟨m1,m2,e⟩:=h.ob a _ n1 n2 r
   exact⟨a,xs,rfl,m1,m2,.inr ⟨o,e⟩,DenL.lk h l⟩
 |.lst ts,_,d=>by
  obtain⟨a,xs,rfl,n1,n2,r,l⟩:=d
  rcases r with r|⟨o,r⟩
  ·obtain⟨m1,m2,e⟩:=h.ob a _ n1 n2 r
   exact⟨a,xs,rfl,m1,m2,.inl e,DenL.lk h l⟩
  ·obtain⟨m1,m2,e⟩:=h.ob a _ n1 n2 r
   exact⟨a,xs,rfl,m1,m2,.inr ⟨o,e⟩,DenL.lk h l⟩
 |.obj c fs,_,d=>by
  obtain⟨a,C,dx,gs,rfl,n1,n2,ad,e,l⟩:=d
  obtain⟨m1,m2,e⟩:=h.ob a _ n1 n2 e
  exact⟨a,C,dx,gs,rfl,m1,m2,ad,e,DenF.lk h l⟩
 |.exc c fs,_,d=>by
  obtain⟨a,C,d,rfl,n1,n2,ad,e,l⟩:=d
  obtain⟨m1,m2,e⟩:=h.ob a _ n1 n2 e
  refine⟨a,C,d,rfl,m1,m2,ad,e,?_⟩
  cases d with
  |none=>exact l
  |some dx=>
   obtain⟨gs,k1,k2,e2,l⟩:=l
   obtain⟨k1,k2,e2⟩:=h.ob dx _ k1 k2 e2
   exact⟨gs,k1,k2,e2,DenF.lk h l⟩
 |.dic kvs,_,d=>by
  obtain⟨a,gs,rfl,n1,n2,e,l⟩:=d
  obtain⟨m1,m2,e⟩:=h.ob a _ n1 n2 e
  exact⟨a,gs,rfl,m1,m2,e,DenK.lk h l⟩
 |.clo j cs,_,d=>by
  obtain⟨a,ob,xs,rfl,c,e,l⟩:=d
  exact⟨a,ob,xs,rfl,c,λo z=>let ⟨n1,n2,q⟩:=e o z;h.ob a o n1 n2 q,DenL.lk h l⟩
theorem DenL.lk(h:Lk φ α H φ' α' H'):∀{ts:List T} {vs:List V},DenL D φ α H ts vs->DenL D φ' α' H' ts vs
 |[],_,l=>l
 |t::ts,_,l=>by
  obtain⟨v,r,rfl,a,b⟩:=l
  exact⟨v,r,rfl,Den.lk h a,DenL.lk h b⟩
theorem DenF.lk(h:Lk φ α H φ' α' H'):∀{fs:List (Nat×T)} {gs:List (Str×V)},DenF D φ α H fs gs->DenF D φ' α' H' fs gs
 |[],_,l=>l
 |p::fs,_,l=>by
  obtain⟨x,v,r,e,rfl,a,b⟩:=l
  exact⟨x,v,r,e,rfl,Den.lk h a,DenF.lk h b⟩
theorem DenK.lk(h:Lk φ α H φ' α' H'):∀{fs:List (Key×T)} {gs:List (Key×V)},DenK D φ α H fs gs->DenK D φ' α' H' fs gs
 |[],_,l=>l
 |p::fs,_,l=>by
  obtain⟨v,r,rfl,a,b⟩:=l
  exact⟨v,r,rfl,Den.lk h a,DenK.lk h b⟩
end
theorem Stp.lk(s:Stp α H α' H'):Lk φ α H φ α' H':=⟨λa o n1 n2 e=>⟨n1,s.out n2 e,s.keep a o n2 e⟩,λi a e=>by
 obtain⟨β,rfl,_⟩:=s.ext
 rw[z5I (z5A.mp e).1];exact e⟩
theorem Den.step(s:Stp α H α' H'){t:T}{v:V}(d:Den D φ α H t v):Den D φ α' H' t v:=d.lk s.lk
theorem DenL.step(s:Stp α H α' H'){t:List T}{v:List V}(d:DenL D φ α H t v):DenL D φ α' H' t v:=d.lk s.lk
theorem DenF.step(s:Stp α H α' H'){t:List (Nat×T)}{v:List (Str×V)}(d:DenF D φ α H t v):DenF D φ α' H' t v:=d.lk s.lk
theorem XDict.lk{fs:List (Nat×T)}{d:Option Addr}(h:Lk φ α H φ' α' H')(x:XDict D φ α H fs d):XDict D φ' α' H' fs d:=by
 cases d with
 |none=>exact x
 |some dx=>
  obtain⟨gs,k1,k2,e2,l⟩:=x
  obtain⟨k1,k2,e2⟩:=h.ob dx _ k1 k2 e2
  exact⟨gs,k1,k2,e2,DenF.lk h l⟩
mutual
theorem Den.hide{β:List Addr}:∀{t:T} {v:V},vL t=true->Den D φ α H t v->(∀a,a∉φ->a∉α->a∉φ'/\a∉β)->Den D φ' β H t v
 |.non,_,_,h,_=>h
 |.bl _,_,_,h,_=>h
 |.int _,_,_,h,_=>h
 |.str _,_,_,h,_=>h
 |.mut i,_,p,_,_=>by simp[vL] at p
 |.tup ts,_,p,h,k=>by
  obtain⟨a,xs,rfl,n1,n2,r,l⟩:=h
  exact⟨a,xs,rfl,(k a n1 n2).1,(k a n1 n2).2,r,DenL.hide (by simpa[vL] using p) l k⟩
 |.lst ts,_,p,h,k=>by
  obtain⟨a,xs,rfl,n1,n2,r,l⟩:=h
  exact⟨a,xs,rfl,(k a n1 n2).1,(k a n1 n2).2,r,DenL.hide (by simpa[vL] using p) l k⟩
 |.obj c fs,_,p,h,k=>by
  obtain⟨a,C,dx,gs,rfl,n1,n2,ad,e,l⟩:=h
  exact⟨a,C,dx,gs,rfl,(k a n1 n2).1,(k a n1 n2).2,ad,e,DenF.hide (by simpa[vL] using p) l k⟩
 |.exc c fs,_,p,h,k=>by
  obtain⟨a,C,d,rfl,n1,n2,ad,e,l⟩:=h
  refine⟨a,C,d,rfl,(k a n1 n2).1,(k a n1 n2).2,ad,e,?_⟩
  cases d with
  |none=>exact l
  |some dx=>
   obtain⟨gs,k1,k2,e2,l⟩:=l
   exact⟨gs,(k dx k1 k2).1,(k dx k1 k2).2,e2,DenF.hide (by simpa[vL] using p) l k⟩
 |.dic kvs,_,p,h,k=>by
  obtain⟨a,gs,rfl,n1,n2,e,l⟩:=h
  exact⟨a,gs,rfl,(k a n1 n2).1,(k a n1 n2).2,e,DenK.hide (by simpa[vL] using p) l k⟩
 |.clo j cs,_,p,h,k=>by
  obtain⟨a,ob,xs,rfl,c,e,l⟩:=h
  exact⟨a,ob,xs,rfl,c,λo z=>let ⟨n1,n2,q⟩:=e o z;⟨(k a n1 n2).1,(k a n1 n2).2,q⟩,DenL.hide (by simpa[vL] using p) l k⟩
theorem DenL.hide{β:List Addr}:∀{ts:List T} {vs:List V},yw ts=true->DenL D φ α H ts vs->(∀a,a∉φ->a∉α->a∉φ'/\a∉β)->DenL D φ' β H ts vs
 |[],_,_,h,_=>h
 |t::ts,_,p,h,k=>by
  obtain⟨v,r,rfl,a,b⟩:=h
  simp only[yw,z5B] at p
  exact⟨v,r,rfl,Den.hide p.1 a k,DenL.hide p.2 b k⟩
theorem DenF.hide{β:List Addr}:∀{fs:List (Nat×T)} {gs:List (Str×V)},kS fs=true->DenF D φ α H fs gs->(∀a,a∉φ->a∉α->a∉φ'/\a∉β)->DenF D φ' β H fs gs
 |[],_,_,h,_=>h
 |q::fs,_,p,h,k=>by
  obtain⟨x,v,r,e,rfl,a,b⟩:=h
  simp only[kS,z5B] at p
  exact⟨x,v,r,e,rfl,Den.hide p.1 a k,DenF.hide p.2 b k⟩
theorem DenK.hide{β:List Addr}:∀{fs:List (Key×T)} {gs:List (Key×V)},VA fs=true->DenK D φ α H fs gs->(∀a,a∉φ->a∉α->a∉φ'/\a∉β)->DenK D φ' β H fs gs
 |[],_,_,h,_=>h
 |q::fs,_,p,h,k=>by
  obtain⟨v,r,rfl,a,b⟩:=h
  simp only[VA,z5B] at p
  exact⟨v,r,rfl,Den.hide p.1 a k,DenK.hide p.2 b k⟩
end
theorem XDict.hide{fs:List (Nat×T)}{d:Option Addr}{β:List Addr}(p:kS fs=true)(x:XDict D φ α H fs d)(k:∀a,a∉φ->a∉α->a∉φ'/\a∉β):XDict D φ' β H fs d:=by
 cases d with
 |none=>exact x
 |some dx=>
  obtain⟨gs,k1,k2,e2,l⟩:=x
  exact⟨gs,(k dx k1 k2).1,(k dx k1 k2).2,e2,DenF.hide p l k⟩
theorem z09:∀a:Addr,a∉φ->a∉α->a∉φ++α/\a∉([]:List Addr):=λa n1 n2=>⟨λz=>(z5Q.mp z).elim n1 n2,by simp⟩
theorem Qz{β:List Addr}:∀a:Addr,a∉φ++α->a∉β->a∉φ/\a∉α:=λa n1 _=>⟨λz=>n1 (z5X _ z),λz=>n1 (z5P _ z)⟩
theorem DenL.length:∀{ts:List T} {vs:List V},DenL D φ α H ts vs->ts.length=vs.length
 |[],_,h=>by have:_=[]:=h;subst this;rfl
 |t::ts,_,h=>by
  obtain⟨v,r,rfl,_,b⟩:=h
  simp[DenL.length b]
theorem DenL.get:∀{ts:List T} {vs:List V} {i:Nat} {t:T},DenL D φ α H ts vs->ts[i]?=some t->∃v,vs[i]?=some v/\Den D φ α H t v
 |[],_,_,_,_,e=>by simp at e
 |t::ts,_,0,_,h,e=>by
  obtain⟨v,r,rfl,a,b⟩:=h
  simp at e;subst e
  exact⟨v,rfl,a⟩
 |t::ts,_,i+1,u,h,e=>by
  obtain⟨v,r,rfl,a,b⟩:=h
  obtain⟨w,e',d⟩:=DenL.get (i:=i) (t:=u) b (by simpa using e)
  exact⟨w,by simpa using e',d⟩
theorem DenL.append:∀{ts us:List T} {vs ws:List V},DenL D φ α H ts vs->DenL D φ α H us ws->DenL D φ α H (ts++us) (vs++ws)
 |[],us,_,ws,h,k=>by have:_=[]:=h;subst this;exact k
 |t::ts,us,_,ws,h,k=>by
  obtain⟨v,r,rfl,a,b⟩:=h
  exact⟨v,r++ws,rfl,a,DenL.append b k⟩
theorem DenL.drop:∀(n:Nat) {ts:List T} {vs:List V},DenL D φ α H ts vs->DenL D φ α H (ts.drop n) (vs.drop n)
 |0,_,_,h=>h
 |n+1,[],_,h=>by have:_=[]:=h;subst this;exact rfl
 |n+1,t::ts,_,h=>by
  obtain⟨v,r,rfl,a,b⟩:=h
  exact DenL.drop n b
theorem DenL.take:∀(n:Nat) {ts:List T} {vs:List V},DenL D φ α H ts vs->DenL D φ α H (ts.take n) (vs.take n)
 |0,_,_,h=>by simp[DenL]
 |n+1,[],_,h=>by have:_=[]:=h;subst this;exact rfl
 |n+1,t::ts,_,h=>by
  obtain⟨v,r,rfl,a,b⟩:=h
  exact⟨v,r.take n,rfl,a,DenL.take n b⟩
theorem DenL.set:∀{ts:List T} {vs:List V} {i:Nat} {t:T} {v:V},DenL D φ α H ts vs->Den D φ α H t v->DenL D φ α H (ts.set i t) (vs.set i v)
 |[],vs,i,t,v,l,d=>by have l:vs=[]:=l;subst l;exact rfl
 |x::ts,_,0,t,v,l,d=>by
  obtain⟨w,r,rfl,dw,l⟩:=l
  exact⟨v,r,rfl,d,l⟩
 |x::ts,_,i+1,t,v,l,d=>by
  obtain⟨w,r,rfl,dw,l⟩:=l
  exact⟨w,r.set i v,rfl,dw,DenL.set l d⟩
theorem DenF.look:∀{fs:List (Nat×T)} {gs:List (Str×V)} {f:Nat} {t:T},DenF D φ α H fs gs->W8 fs f=some t->∃x v,D.fn f=some x/\gs.lookup x=some v/\Den D φ α H t v
 |[],_,_,_,_,e=>by simp[W8] at e
 |p::fs,_,f,t,h,e=>by
  obtain⟨x,v,r,ex,rfl,a,b⟩:=h
  rw[JD] at e
  cases q:z6X p.1 f with
  |true=>
   have q':=z7T q
   rw[q] at e
   have e:some p.2=some t:=e
   cases e
   exact⟨x,v,by rw[←q'];exact ex,by simp[z6b],a⟩
  |false=>
   rw[q] at e
   obtain⟨y,w,h1,h2,h3⟩:=DenF.look b e
   refine⟨y,w,h1,?_,h3⟩
   rw[z6b]
   have ne:(y == x)=false:=by
    refine beq_eq_false_iff_ne.mpr λz=>?_
    subst z
    have:=D.inj _ _ _ ex h1
    rw[this] at q
    simp at q
   rw[ne];exact h2
theorem DenF.put{f:Nat}{x:Str}{t:T}{w:V}(hx:D.fn f=some x):∀{fs:List (Nat×T)} {gs:List (Str×V)},DenF D φ α H fs gs->Den D φ α H t w->DenF D φ α H (VY f t fs) (wM x w gs)
 |[],gs,h,d=>by
  have:gs=[]:=h
  subst this
  exact⟨x,w,[],hx,rfl,d,rfl⟩
 |p::fs,gs,h,d=>by
  obtain⟨z,y,r,ez,rfl,dy,l⟩:=h
  rw[Jv]
  show DenF D φ α H _ (if z=x then (z,w)::r else (z,y)::wM x w r)
  cases q:z6X p.1 f with
  |true=>
   have q':=z7T q
   have:z=x:=by rw[q',hx] at ez;exact (z5F ez).symm
   rw[if_pos this]
   exact⟨z,w,r,ez,rfl,d,l⟩
  |false=>
   have:z≠x:=λe=>by
    subst e
    have:=D.inj _ _ _ ez hx
    rw[this] at q
    simp at q
   rw[if_neg this]
   exact⟨z,y,wM x w r,ez,rfl,dy,DenF.put hx l d⟩
theorem DenF.length:∀{fs:List (Nat×T)} {gs:List (Str×V)},DenF D φ α H fs gs->fs.length=gs.length
 |[],_,h=>by have:_=[]:=h;subst this;rfl
 |p::fs,_,h=>by
  obtain⟨x,v,r,_,rfl,_,b⟩:=h
  simp[DenF.length b]
noncomputable def noF:HO->Bool
 |.frz _ _=>false
 |_=>true
structure MRel(D:DP)(φ α:List Addr)(H:Hp)(μ:Mem):Prop where
 len:α.length=μ.length
 nd:α.Nodup
 dis:∀b∈α,b∉φ
 phi:∀b∈φ,∃o,H b=some o/\noF o=true
 ob:∀(i:Nat) (a:Addr) (o:MO),α[i]?=some a->μ[i]?=some o->DenO D φ α H o a
theorem DenO.lk{o:MO}{a:Addr}(s:Lk φ α H φ' α' H')(e:H' a=H a)(h:DenO D φ α H o a):DenO D φ' α' H' o a:=by
 cases o with
 |lst ts=>
  obtain⟨xs,q,l⟩:=h
  exact⟨xs,e.trans q,DenL.lk s l⟩
 |obj c fs=>
  obtain⟨C,dx,gs,ad,q,l⟩:=h
  exact⟨C,dx,gs,ad,e.trans q,DenF.lk s l⟩
 |dic kvs=>
  obtain⟨xs,q,l⟩:=h
  exact⟨xs,e.trans q,DenK.lk s l⟩
 |tab j=>
  obtain⟨pos,qn,ps,h1,h2,h3,h4⟩:=h
  refine⟨pos,qn,ps,h1,e.trans h2,h3,λp hp=>(h4 p hp).imp id λ⟨c,k1,k2,k3,k4⟩=>?_⟩
  obtain⟨m1,m2,m3⟩:=s.ob c _ k2 k3 k4
  exact⟨c,k1,m1,m2,m3⟩
 |dct ks=>
  obtain⟨xs,h1,h2,h3,h4,h5,h6⟩:=h
  refine⟨xs,h1,h2,h3,h4,e.trans h5,λx hx=>?_⟩
  obtain⟨k1,k2,k3⟩:=h6 x hx
  rcases k3 with k3|⟨o,k3⟩
  ·obtain⟨m1,m2,m3⟩:=s.ob _ _ k1 k2 k3
   exact⟨m1,m2,.inl m3⟩
  ·obtain⟨m1,m2,m3⟩:=s.ob _ _ k1 k2 k3
   exact⟨m1,m2,.inr ⟨o,m3⟩⟩
theorem DenO.step{o:MO}{a:Addr}(s:Stp α H α' H')(e:H' a=H a)(h:DenO D φ α H o a):DenO D φ α' H' o a:=h.lk s.lk e
theorem DenO.some{o:MO}{a:Addr}(h:DenO D φ α H o a):∃u,H a=Option.some u/\noF u=true:=by
 cases o with
 |lst ts=>obtain⟨xs,q,_⟩:=h;exact⟨_,q,rfl⟩
 |obj c fs=>obtain⟨C,dx,gs,_,q,_⟩:=h;exact⟨_,q,rfl⟩
 |dic ts=>obtain⟨xs,q,_⟩:=h;exact⟨_,q,rfl⟩
 |tab j=>obtain⟨_,_,ps,_,q,_⟩:=h;exact⟨_,q,rfl⟩
 |dct ks=>obtain⟨_,_,_,_,_,q,_⟩:=h;exact⟨_,q,rfl⟩
theorem MRel.new{μ:Mem}(m:MRel D φ α H μ)(s:vZ H H'):MRel D φ α H' μ:=
 ⟨m.len,m.nd,m.dis,λb hb=>let ⟨o,e,n⟩:=m.phi b hb;⟨o,s b o e,n⟩,λi a o e1 e2=>by
  have d:=m.ob i a o e1 e2
  obtain⟨u,q,_⟩:=d.some
  exact d.step (Stp.new s) ((s _ _ q).trans q.symm)⟩
theorem MRel.lk{μ:Mem}(h:Lk φ α H φ' α H')(hα:∀a∈α,H' a=H a/\a∉φ')(hφ:∀b∈φ',∃o,H' b=some o/\noF o=true)(m:MRel D φ α H μ):MRel D φ' α H' μ:=
 ⟨m.len,m.nd,λb hb=>(hα b hb).2,hφ,λi a o e1 e2=>(m.ob i a o e1 e2).lk h (hα a (z5T e1)).1⟩
structure SRel(D:DP)(φ α:List Addr)(H:Hp)(τ:Sl)(σ:St):Prop where
 len:τ.length=σ.length
 val:∀(i:Nat) (t:T),τ[i]?=some (some t)->∃v,σ[i]?=some (some v)/\Den D φ α H t v
theorem SRel.lk{τ:Sl}{σ:St}(r:SRel D φ α H τ σ)(s:Lk φ α H φ' α' H'):SRel D φ' α' H' τ σ:=⟨r.len,λi t e=>by
 obtain⟨v,q,d⟩:=r.val i t e
 exact⟨v,q,d.lk s⟩⟩
theorem SRel.step{τ:Sl}{σ:St}(r:SRel D φ α H τ σ)(s:Stp α H α' H'):SRel D φ α' H' τ σ:=r.lk s.lk
theorem SRel.set{τ:Sl}{σ:St}(r:SRel D φ α H τ σ){i:Nat}{t:T}{v:V}(d:Den D φ α H t v):SRel D φ α H (ji τ i (some t)) (σ.set i (some v)):=by
 rw[xB]
 refine⟨by simp[r.len],λj u e=>?_⟩
 by_cases h:i=j
 ·subst h
  rw[z8w] at e
  cases q:τ[i]? with
  |none=>rw[q] at e;cases e
  |some o=>
   rw[q] at e
   simp at e
   subst e
   have hl:i<σ.length:=by rw[←r.len];exact (z5A.mp q).1
   exact⟨v,by simp[hl],d⟩
 ·rw[z5L h] at e ⊢
  exact r.val j u e
theorem SRel.unset{τ:Sl}{σ:St}{i:Nat}(r:SRel D φ α H τ σ):SRel D φ α H (ji τ i none) (σ.set i none):=by
 rw[xB]
 refine⟨by simp[r.len],λj t e=>?_⟩
 by_cases h:i=j
 ·subst h
  rw[z8w] at e
  cases q:τ[i]? with
  |none=>rw[q] at e;cases e
  |some o=>rw[q] at e;cases e
 ·rw[z5L h] at e ⊢
  exact r.val j t e
theorem SRel.get{τ:Sl}{σ:St}(r:SRel D φ α H τ σ){i:Nat}{t:T}(e:Zd τ i=some t):∃v,σ[i]?=some (some v)/\Den D φ α H t v:=r.val i t (ZL.mp e)
end
theorem kh{φ α:List Addr}{H:Hp}{b:Addr}(hb:H b=none):Lk φ α H (φ++[b]) α H:=by
 refine⟨λa o n1 n2 e=>⟨λz=>?_,n2,e⟩,λ_ _ e=>e⟩
 rcases z5Q.mp z with z|z
 ·exact n1 z
 ·rw[z5J.mp z,hb] at e
  cases e
theorem Qx{φ α:List Addr}{H H':Hp}{b:Addr}(hb:H b=none)(s:vZ H H'):Lk φ α H (φ++[b]) α H':=⟨λa o n1 n2 e=>let ⟨q1,q2,q3⟩:=(kh hb).ob a o n1 n2 e;⟨q1,q2,s a o e⟩,λ_ _ e=>e⟩
theorem wN{φ α:List Addr}{H:Hp}{b:Addr}:Lk (φ++[b]) α H φ α H:=⟨λa o n1 n2 e=>⟨λz=>n1 (z5X _ z),n2,e⟩,λ_ _ e=>e⟩
theorem yf{φ α:List Addr}{H:Hp}{b:Addr}{u:HO}(hb:b∈φ):Lk φ α H φ α (upd H b u):=⟨λa o n1 n2 e=>⟨n1,n2,by rw[za (λz:a=b=>n1 (by rw[z];exact hb))];exact e⟩,λ_ _ e=>e⟩
end
inductive Post(D:DP)(W:XW)(φ α:List Addr)(H:Hp)(σ:St){β:Type}(R:β->Mem->List Addr->Hp->Prop)(r:RE β):Prop where
 |mk (K:β->Mem->Prop) (Z:Xp) (q:r K Z) (h:(∀a μ',K a μ'->∀α' H',Stp α H α' H'->MRel D φ α' H' μ'->R a μ' α' H')/\
  ∀c fs μ',Z c fs μ'->∀α' H' cv d,Stp α H α' H'->MRel D φ α' H' μ'->XCv D c fs cv->XDict D φ α' H' fs d->W cv d σ H')
inductive RdP(D:DP)(H:Hp)(σ:St)(P:List Addr->List Addr->Sl->Mem->Prop):Prop where
 |mk (φ α:List Addr) (τ:Sl) (μ:Mem) (sr:SRel D φ α H τ σ) (mr:MRel D φ α H μ) (p:P φ α τ μ)
section
variable {D:DP}{W:XW}{φ α α':List Addr}{H H':Hp}{σ:St}{β γ:Type}{R R':β->Mem->List Addr->Hp->Prop}{S:γ->Mem->List Addr->Hp->Prop}
theorem Post.mono{r:RE β}(p:Post D W φ α H σ R r)(h:∀a μ' α' H',Stp α H α' H'->MRel D φ α' H' μ'->R a μ' α' H'->R' a μ' α' H'):Post D W φ α H σ R' r:=by
 obtain⟨K,Z,q,k,z⟩:=p
 exact⟨K,Z,q,λa μ' e α' H' s m=>h a μ' α' H' s m (k a μ' e α' H' s m),z⟩
theorem Post.bind{r:RE γ}{k:γ->Mem->RE β}(p:Post D W φ α H σ R (r.bind k)):Post D W φ α H σ (λa μ' α' H'=>Post D W φ α' H' σ R (k a μ')) r:=by
 obtain⟨K,Z,q,h,z⟩:=p
 exact⟨λa μ=>k a μ K Z,Z,q,λa μ' e α' H' s m=>⟨K,Z,e,λb μ2 e2 α2 H2 s2 m2=>h b μ2 e2 α2 H2 (s.trans s2) m2,λc fs μ2 e2 α2 H2 C d s2 m2=>z c fs μ2 e2 α2 H2 C d (s.trans s2) m2⟩,z⟩
theorem Post.elim{C:Prop}(p:Post D W φ α H σ R RE.st):C:=by obtain⟨_,_,q,_⟩:=p;exact q.elim
theorem Post.grd{c:Prop}{r:RE β}(p:Post D W φ α H σ R (RE.grd c r)):c/\Post D W φ α H σ R r:=by
 obtain⟨K,Z,q,h⟩:=p
 exact⟨q.1,K,Z,q.2,h⟩
theorem Post.som{o:Option γ}{k:γ->RE β}(p:Post D W φ α H σ R (RE.som o k)):∃a,o=some a/\Post D W φ α H σ R (k a):=by
 obtain⟨K,Z,⟨a,e,q⟩,h⟩:=p
 exact⟨a,e,K,Z,q,h⟩
theorem Post.br{b:Bool}{r s:RE β}(p:Post D W φ α H σ R (RE.br b r s)):(b=true/\Post D W φ α H σ R r)\/(b=false/\Post D W φ α H σ R s):=by
 obtain⟨K,Z,q,h⟩:=p
 cases b with
 |true=>exact .inl ⟨rfl,K,Z,q,h⟩
 |false=>exact .inr ⟨rfl,K,Z,q,h⟩
theorem Post.ok{a:β}{μ:Mem}(p:Post D W φ α H σ R (RE.ok a μ)){α':List Addr}{H':Hp}(s:Stp α H α' H')(m:MRel D φ α' H' μ):R a μ α' H':=by
 obtain⟨K,Z,q,h,_⟩:=p
 exact h a μ q α' H' s m
theorem Post.step{r:RE β}(p:Post D W φ α H σ R r)(st:Stp α H α' H'):Post D W φ α' H' σ R r:=by
 obtain⟨K,Z,q,h,z⟩:=p
 exact⟨K,Z,q,λb μ2 e2 α2 H2 s2 m2=>h b μ2 e2 α2 H2 (st.trans s2) m2,λc fs μ2 e2 α2 H2 C d s2 m2=>z c fs μ2 e2 α2 H2 C d (st.trans s2) m2⟩
theorem Post.ex1{δ:Type}{P:δ->Prop}{k:δ->RE β}(p:Post D W φ α H σ R (λK Z=>∃x,P x/\k x K Z)):∃x,P x/\Post D W φ α H σ R (k x):=by
 obtain⟨K,Z,⟨x,hx,q⟩,h⟩:=p
 exact⟨x,hx,K,Z,q,h⟩
end
noncomputable def rdE (D:DP)(W:XW)(f:De):TE:=λσ H Q=>RdP D H σ λφ α τ μ=>Post D W φ α H σ (λt _ α' H'=>∀v,Den D φ α' H' t v->Q v H') (f τ μ)
noncomputable def rdT (D:DP)(W:XW)(f:Dt):TT:=λσ H Q=>RdP D H σ λφ α τ μ=>Post D W φ α H σ (λb _ _ H'=>Q b H') (f τ μ)
noncomputable def rdA (D:DP)(W:XW)(n:Nat)(f:Da):TA:=λσ H Q=>RdP D H σ λφ α τ μ=>Post D W φ α H σ (λts _ α' H'=>∀vs,DenL D φ α' H' ts vs->vs.length=n->Q vs H') (f τ μ)
section
variable {X:Cx}{D:DP}{W:XW}{pins:List (Addr×Obj)}{s:Shared}{σ:St}{H:Hp}{φ α:List Addr}{τ:Sl}{μ:Mem}{β:Type}{R:β->Mem->List Addr->Hp->Prop}
inductive SubP(X:Cx)(D:DP)(W:XW)(pins:List (Addr×Obj))(σ:St)(H:Hp)(φ α:List Addr)(τ:Sl){β:Type}(R:β->Mem->List Addr->Hp->Prop)(k:T->Mem->RE β)(u:Value)(s1:Shared):Prop where
 |mk (v:V) (H1:Hp) (t:T) (μ1:Mem) (α1:List Addr) (i:Inv X pins σ H1 s1) (r:RelV v u) (st:Stp α H α1 H1) (sr:SRel D φ α1 H1 τ σ) (mr:MRel D φ α1 H1 μ1) (d:Den D φ α1 H1 t v) (p:Post D W φ α1 H1 σ R (k t μ1))
inductive SubT(X:Cx)(D:DP)(W:XW)(pins:List (Addr×Obj))(σ:St)(H:Hp)(φ α:List Addr)(τ:Sl){β:Type}(R:β->Mem->List Addr->Hp->Prop)(k:Bool->Mem->RE β)(b:Bool)(s1:Shared):Prop where
 |mk (H1:Hp) (μ1:Mem) (α1:List Addr) (i:Inv X pins σ H1 s1) (st:Stp α H α1 H1) (sr:SRel D φ α1 H1 τ σ) (mr:MRel D φ α1 H1 μ1) (p:Post D W φ α1 H1 σ R (k b μ1))
inductive SubA(X:Cx)(D:DP)(W:XW)(pins:List (Addr×Obj))(σ:St)(H:Hp)(φ α:List Addr)(τ:Sl){β:Type}(R:β->Mem->List Addr->Hp->Prop)(n:Nat)(k:List T->Mem->RE β)(us:List Value)(s1:Shared):Prop where
 |mk (vs:List V) (H1:Hp) (ts:List T) (μ1:Mem) (α1:List Addr) (i:Inv X pins σ H1 s1) (r:Vals vs us) (st:Stp α H α1 H1) (sr:SRel D φ α1 H1 τ σ) (mr:MRel D φ α1 H1 μ1) (d:DenL D φ α1 H1 ts vs) (hn:vs.length=n) (p:Post D W φ α1 H1 σ R (k ts μ1))
theorem sub{a:Expr}{f:Sl->Mem->RE T}{k:T->Mem->RE β}(ha:PE X a (rdE D W f))(I:Inv X pins σ H s)(sr:SRel D φ α H τ σ)(mr:MRel D φ α H μ)(p:Post D W φ α H σ R ((f τ μ).bind k)) :
  z5K (z5N X.prog X.w) X.A (eval a X.env) (SubP X D W pins σ H φ α τ R k) X.xe s:=by
 refine thn (ha pins s σ H (λv H1=>∃t μ1 α1,Stp α H α1 H1/\SRel D φ α1 H1 τ σ/\MRel D φ α1 H1 μ1/\Den D φ α1 H1 t v/\Post D W φ α1 H1 σ R (k t μ1)) I ⟨φ,α,τ,μ,sr,mr,p.bind.mono λt μ' α' H' st m q v d=>⟨t,μ',α',st,sr.step st,m,d,q⟩⟩) ?_
 rintro u s1 ⟨v,H1,I1,r,t,μ1,α1,h1,h2,h3,h4,h⟩
 exact⟨v,H1,t,μ1,α1,I1,r,h1,h2,h3,h4,h⟩
theorem z3P{a:Expr}{f:Sl->Mem->RE Bool}{k:Bool->Mem->RE β}(ha:PT X a (rdT D W f))(I:Inv X pins σ H s)(sr:SRel D φ α H τ σ)(mr:MRel D φ α H μ)(p:Post D W φ α H σ R ((f τ μ).bind k)) :
  z5K (z5N X.prog X.w) X.A (isTrue a X.env (eval a X.env)) (SubT X D W pins σ H φ α τ R k) X.xe s:=by
 refine thn (ha pins s σ H (λb H1=>∃μ1 α1,Stp α H α1 H1/\SRel D φ α1 H1 τ σ/\MRel D φ α1 H1 μ1/\Post D W φ α1 H1 σ R (k b μ1)) I ⟨φ,α,τ,μ,sr,mr,p.bind.mono λb μ' α' H' st m q=>⟨μ',α',st,sr.step st,m,q⟩⟩) ?_
 rintro b s1 ⟨H1,I1,μ1,α1,h1,h2,h3,h⟩
 exact⟨H1,μ1,α1,I1,h1,h2,h3,h⟩
theorem VZ{es:List Expr}{n:Nat}{pos:Pos}{f:Da}{k:List T->Mem->RE β}(ha:PA X es (rdA D W n f))(I:Inv X pins σ H s)(sr:SRel D φ α H τ σ)(mr:MRel D φ α H μ)(p:Post D W φ α H σ R ((f τ μ).bind k)) :
  z5K (z5N X.prog X.w) X.A (spliced (z7u pos (z6o es X.env))) (SubA X D W pins σ H φ α τ R n k) X.xe s:=by
 refine thn (ha pos pins s σ H (λvs H1=>∃ts μ1 α1,Stp α H α1 H1/\SRel D φ α1 H1 τ σ/\MRel D φ α1 H1 μ1/\DenL D φ α1 H1 ts vs/\vs.length=n/\Post D W φ α1 H1 σ R (k ts μ1)) I ⟨φ,α,τ,μ,sr,mr,p.bind.mono λts μ' α' H' st m q vs d hn=>⟨ts,μ',α',st,sr.step st,m,d,hn,q⟩⟩) ?_
 rintro us s1 ⟨vs,H1,I1,r,ts,μ1,α1,h1,h2,h3,h4,h5,h⟩
 exact⟨vs,H1,ts,μ1,α1,I1,r,h1,h2,h3,h4,h5,h⟩
abbrev RV(D:DP)(φ:List Addr)(Q:VK):T->Mem->List Addr->Hp->Prop:=λt _ α' H'=>∀v,Den D φ α' H' t v->Q v H'
theorem Post.here{Q:VK}{t:T}{v:V}(p:Post D W φ α H σ (RV D φ Q) (.ok t μ))(mr:MRel D φ α H μ)(d:Den D φ α H t v):Q v H:=p.ok (Stp.refl _ _) mr v d
theorem Post.fresh{Q:VK}{t:T}{v:V}{H':Hp}(p:Post D W φ α H σ (RV D φ Q) (.ok t μ))(mr:MRel D φ α H μ)(sm:vZ H H')(d:Den D φ α H' t v):Q v H':=p.ok (Stp.new sm) (mr.new sm) v d
theorem zI{n:Nat}(h:n<=room):n<=sizeLine:=z62 h (by unfold room;decide)
theorem zp{α:List Addr}(mr:MRel D φ α H μ){p:Addr}(h:H p=none):p∉φ:=λz=>by
 obtain⟨o,e,_⟩:=mr.phi p z
 rw[h] at e;cases e
theorem zq{α:List Addr}(mr:MRel D φ α H μ){p:Addr}(h:H p=none):p∉α:=λz=>by
 obtain⟨i,hi⟩:=z6C.mp z
 have hl:i<μ.length:=by rw[←mr.len];exact (z5A.mp hi).1
 obtain⟨u,e,_⟩:=(mr.ob i p μ[i] hi (by simp[hl])).some
 rw[h] at e;cases e
theorem qC:∀{ts:List T} {ns:List Int} {vs:List V},intsOf ts=some ns->DenL D φ α H ts vs->vs=ns.map V.int
 |[],ns,vs,h,l=>by
  simp[intsOf] at h;subst h
  exact l
 |t::ts,ns,vs,h,l=>by
  obtain⟨v,r,rfl,d,l⟩:=l
  cases t with
  |int i=>
   simp only[intsOf] at h
   cases q:intsOf ts with
   |none=>rw[q] at h;cases h
   |some ms=>
    rw[q] at h;cases h
    rw[qC q l]
    have d:v=.int i:=d
    rw[d];rfl
  |_=>simp[intsOf] at h
theorem VN:OpR X (z7l .Add) (λx y H Q=>∃l b xs zs,x=.ref l/\y=.ref b/\Rd H l (.lst xs)/\Rd H b (.lst zs)/\xs.length+zs.length<=sizeLine/\∀p,H p=none->Q (.ref p) (upd H p (.lst (xs++zs)))):=by
 intro pins s σ H x y v u Q I rx ry h
 obtain⟨l,b,xs,zs,rfl,rfl,hH,hB,hz,q⟩:=h
 cases rx
 cases ry
 obtain⟨z,its,n,r,e⟩:=hH.ok I.hok
 obtain⟨z2,its2,n2,r2,e2⟩:=hB.ok I.hok
 refine PySem.P.add_list e e2 ?_ (by rw[z5W,z5W,←r.length,←r2.length];exact hz)
 rw[show its.toArray++its2.toArray=(its++its2).toArray by simp]
 exact⟨.ref _,_,I.lnew (t':=s.toks) (r.append r2) (by rw[z63];exact hz),rfl,q _ I.fresh⟩
theorem Ki:OpR X (z7l .Add) (λx y H Q=>∃a b ys,x=.ref a/\y=.ref b/\SqT X.K H a []/\SqT X.K H b ys/\Q (.ref b) H):=by
 intro pins s σ H x y v u Q I rx ry h
 obtain⟨a,b,ys,rfl,rfl,ha,hb,q⟩:=h
 cases rx
 cases ry
 obtain⟨its,r1,p1,_⟩:=I.tuple ha
 obtain⟨its2,r2,p2,_⟩:=I.tuple hb
 cases r1
 obtain⟨⟨cls,dd,data,sl⟩,ho,hc,n,hd⟩:=id p1
 obtain⟨⟨cls2,dd2,data2,sl2⟩,ho2,hc2,n2,hd2⟩:=id p2
 simp only at hc hd hc2 hd2
 subst hc hd hc2 hd2
 exact zbn ⟨_,ho,rfl⟩ ⟨_,ho2,rfl⟩ z9T zaW z8A z8s (z8c _ _)
  (tuple_addW0 a b #[] its2.toArray n n2 dd dd2 sl sl2 rfl) ⟨ho,ho2,⟨.ref b,H,I,rfl,q⟩⟩
theorem Xk:OpR X (z7l .FloorDiv) (rI (λ_ j=>0<j/\j<1606938044258990275541962092341162602522202993782792835301376) λi j=>.int (i / j)):=opI λi j _ _ _ _ _ hc q=>by
 have h1:(0:Int)<j:=hc.1
 have h2:j<1606938044258990275541962092341162602522202993782792835301376:=hc.2
 refine floordiv_int (by omega) (by rw[z9h i (by omega)];exact q) (.inl (PyProof.noPylong_of_log2 ?_))
 refine z5S ((zdw (by omega)).2 (show j.natAbs<2 ^ 200 by omega)) (by decide)
theorem vg{f:Int->Int->Mem->RE T}{x y:T}{Q:VK}(p:Post D W φ α H σ (RV D φ Q) (Zs f x y μ)):∃i j,x=.int i/\y=.int j/\Post D W φ α H σ (RV D φ Q) (f i j μ):=by
 unfold Zs at p
 split at p
 ·exact⟨_,_,rfl,rfl,p⟩
 ·exact p.elim
theorem z1C{op:zcu}{x y:T}{v1 v2:V}{u1 u2:Value}{Q:VK}(I:Inv X pins σ H s)(mr:MRel D φ α H μ)(d1:Den D φ α H x v1)(d2:Den D φ α H y v2)(r1:RelV v1 u1)(r2:RelV v2 u2)
  (p:Post D W φ α H σ (RV D φ Q) (z4B op x y μ)):z5K (z5N X.prog X.w) X.A (z7l op u1 u2) (EP X pins σ Q) X.xe s:=by
 have cat:∀{a b:Addr} {vs ws:List V} {xs ys:List T},Rd H a (.lst vs)->Rd H b (.lst ws)->DenL D φ α H xs vs->DenL D φ α H ys ws->v1=.ref a->v2=.ref b->xs.length+ys.length<=room->Post D W φ α H σ (RV D φ Q) (RE.ok (.lst (xs++ys)) μ)->z5K (z5N X.prog X.w) X.A (z7l .Add u1 u2) (EP X pins σ Q) X.xe s:=λ{a b vs ws xs ys} q1 q2 l1 l2 e1 e2 h p=>by
  subst e1 e2
  refine VN pins s σ H _ _ _ _ Q I r1 r2 ⟨a,b,vs,ws,rfl,rfl,q1,q2,by rw[←l1.length,←l2.length];exact zI h,λz hz=>?_⟩
  have sm:=zj (o:=.lst (vs++ws)) hz
  exact p.fresh mr sm ⟨z,_,rfl,zp mr hz,zq mr hz,.inl zd,(l1.step (Stp.new sm)).append (l2.step (Stp.new sm))⟩
 cases op with
 |Add=>
  replace p:Post D W φ α H σ (RV D φ Q) (z1R x y μ):=p
  unfold z1R at p
  split at p
  ·cases d1;cases d2
   exact z3n pins s σ H _ _ _ _ Q I r1 r2 ⟨_,_,rfl,rfl,p.here mr rfl⟩
  ·cases d1;cases d2
   obtain⟨h,p⟩:=p.grd
   exact Wx pins s σ H _ _ _ _ Q I r1 r2 ⟨_,_,rfl,rfl,zI h,p.here mr rfl⟩
  ·obtain⟨h,p⟩:=p.grd
   obtain⟨a,vs,rfl,n1,n2,q1,l1⟩:=d1
   obtain⟨b,ws,rfl,m1,m2,q2,l2⟩:=d2
   refine VN pins s σ H _ _ _ _ Q I r1 r2 ⟨a,b,vs,ws,rfl,rfl,q1,q2,by rw[←l1.length,←l2.length];exact zI h,λz hz=>?_⟩
   have sm:=zj (o:=.lst (vs++ws)) hz
   exact p.fresh mr sm ⟨z,_,rfl,zp mr hz,zq mr hz,.inl zd,(l1.step (Stp.new sm)).append (l2.step (Stp.new sm))⟩
  ·rename_i xs ys
   obtain⟨h,p⟩:=p.grd
   ·obtain⟨a,vs,rfl,n1,n2,q1,l1⟩:=d1
    obtain⟨b,ws,rfl,m1,m2,q2,l2⟩:=d2
    cases vs with
    |nil=>
     cases xs with
     |cons x xs=>obtain⟨_,_,e,_⟩:=l1;cases e
     |nil=>exact Ki pins s σ H _ _ _ _ Q I r1 r2 ⟨a,b,ws,rfl,rfl,.inl q1,.inl q2,p.here mr ⟨b,ws,rfl,m1,m2,q2,l2⟩⟩
    |cons v vs=>
     refine UU pins s σ H _ _ _ _ Q I r1 r2 ⟨a,b,v::vs,ws,rfl,rfl,.inl q1,.inl q2,by simp,by rw[←l1.length,←l2.length];exact zI h,λhw=>?_,λhw z hz=>?_⟩
     ·subst hw
      cases ys with
      |cons y ys=>obtain⟨_,_,e,_⟩:=l2;cases e
      |nil=>
       rw[z6n] at p
       exact p.here mr ⟨a,v::vs,rfl,n1,n2,q1,l1⟩
     ·have sm:=zj (o:=.tup (v::vs++ws)) hz
      exact p.fresh mr sm ⟨z,_,rfl,zp mr hz,zq mr hz,.inl zd,(l1.step (Stp.new sm)).append (l2.step (Stp.new sm))⟩
  ·obtain⟨xs,hi,p⟩:=p.ex1
   obtain⟨h,p⟩:=Post.grd p
   obtain⟨a,hi',rfl⟩:=d1
   obtain⟨vs,q1,l1⟩:=mr.ob _ a _ hi' hi
   obtain⟨b,ws,rfl,m1,m2,q2,l2⟩:=d2
   exact cat (.inl q1) q2 l1 l2 rfl rfl h p
  ·obtain⟨ys,hi,p⟩:=p.ex1
   obtain⟨h,p⟩:=Post.grd p
   obtain⟨a,hi',rfl⟩:=d2
   obtain⟨vs,q1,l1⟩:=mr.ob _ a _ hi' hi
   obtain⟨b,ws,rfl,m1,m2,q2,l2⟩:=d1
   exact cat q2 (.inl q1) l2 l1 rfl rfl h p
  ·obtain⟨pr,hi,p⟩:=p.ex1
   obtain⟨h,p⟩:=Post.grd p
   obtain⟨a,hi',rfl⟩:=d1
   obtain⟨vs,q1,l1⟩:=mr.ob _ a _ hi' hi.1
   obtain⟨b,hj',rfl⟩:=d2
   obtain⟨ws,q2,l2⟩:=mr.ob _ b _ hj' hi.2
   exact cat (.inl q1) (.inl q2) l1 l2 rfl rfl h p
  ·exact p.elim
 |Sub=>
  obtain⟨i,j,rfl,rfl,p⟩:=vg p
  cases d1;cases d2
  exact z0Y pins s σ H _ _ _ _ Q I r1 r2 ⟨_,_,rfl,rfl,p.here mr rfl⟩
 |Mult=>
  obtain⟨i,j,rfl,rfl,p⟩:=vg p
  cases d1;cases d2
  obtain⟨h,p⟩:=p.grd
  exact z0Z pins s σ H _ _ _ _ Q I r1 r2 ⟨_,_,rfl,rfl,by simpa[CMul,big] using h,p.here mr rfl⟩
 |FloorDiv=>
  obtain⟨i,j,rfl,rfl,p⟩:=vg p
  cases d1;cases d2
  obtain⟨h,p⟩:=p.grd
  exact Xk pins s σ H _ _ _ _ Q I r1 r2 ⟨_,_,rfl,rfl,h,p.here mr rfl⟩
 |Mod=>
  obtain⟨i,j,rfl,rfl,p⟩:=vg p
  cases d1;cases d2
  obtain⟨h,p⟩:=p.grd
  exact z1t pins s σ H _ _ _ _ Q I r1 r2 ⟨_,_,rfl,rfl,h,p.here mr rfl⟩
 |Pow=>
  obtain⟨i,j,rfl,rfl,p⟩:=vg p
  cases d1;cases d2
  obtain⟨h,p⟩:=p.grd
  exact z3t pins s σ H _ _ _ _ Q I r1 r2 ⟨_,_,rfl,rfl,⟨h.1,h.2.1,by simpa using h.2.2⟩,p.here mr rfl⟩
 |RShift=>
  obtain⟨i,j,rfl,rfl,p⟩:=vg p
  cases d1;cases d2
  obtain⟨h,p⟩:=p.grd
  exact z1X pins s σ H _ _ _ _ Q I r1 r2 ⟨_,_,rfl,rfl,h,p.here mr rfl⟩
 |BitAnd=>
  obtain⟨i,j,rfl,rfl,p⟩:=vg p
  cases d1;cases d2
  exact z1N pins s σ H _ _ _ _ Q I r1 r2 ⟨_,_,rfl,rfl,p.here mr rfl⟩
 |_=>exact (show Post D W φ α H σ (RV D φ Q) .st from p).elim
end
section
section
variable {D:DP}{φ α:List Addr}{H:Hp}
theorem Rd.inj{a:Addr}{u w:HO}(hu:∀o z,u≠.frz o z)(hw:∀o z,w≠.frz o z)(r:Rd H a u)(q:Rd H a w):u=w:=by
 rcases r with r|⟨o,r⟩<;>rcases q with q|⟨o',q⟩<;>rw[r] at q
 ·exact z5F q
 ·exact absurd (z5F q) (hu _ _)
 ·exact absurd (z5F q).symm (hw _ _)
 ·injection z5F q
mutual
theorem yG:∀{t u:T} {v:V} {k:Bool},Den D φ α H t v->Den D φ α H u v->eqT t u=some k->k=true
 |.int i,u,_,k,h1,h2,e=>by
  have h1:_=V.int i:=h1
  subst h1
  cases u with
  |int j=>have h2:V.int i=V.int j:=h2;injection h2 with h2;subst h2;rw[←z5F e];simp
  |bl b=>have h2:V.int i=V.bl b:=h2;cases h2
  |str b=>have h2:V.int i=V.str b:=h2;cases h2
  |non=>have h2:V.int i=V.non:=h2;cases h2
  |tup b=>obtain⟨_,_,h2,_⟩:=h2;cases h2
  |lst b=>obtain⟨_,_,h2,_⟩:=h2;cases h2
  |_=>cases e
 |.bl i,u,_,k,h1,h2,e=>by
  have h1:_=V.bl i:=h1
  subst h1
  cases u with
  |bl j=>have h2:V.bl i=V.bl j:=h2;injection h2 with h2;subst h2;rw[←z5F e];simp
  |int b=>have h2:V.bl i=V.int b:=h2;cases h2
  |str b=>have h2:V.bl i=V.str b:=h2;cases h2
  |non=>have h2:V.bl i=V.non:=h2;cases h2
  |tup b=>obtain⟨_,_,h2,_⟩:=h2;cases h2
  |lst b=>obtain⟨_,_,h2,_⟩:=h2;cases h2
  |_=>cases e
 |.str i,u,_,k,h1,h2,e=>by
  have h1:_=V.str i:=h1
  subst h1
  cases u with
  |str j=>have h2:V.str i=V.str j:=h2;injection h2 with h2;subst h2;rw[←z5F e];simp
  |int b=>have h2:V.str i=V.int b:=h2;cases h2
  |bl b=>have h2:V.str i=V.bl b:=h2;cases h2
  |non=>have h2:V.str i=V.non:=h2;cases h2
  |tup b=>obtain⟨_,_,h2,_⟩:=h2;cases h2
  |lst b=>obtain⟨_,_,h2,_⟩:=h2;cases h2
  |_=>cases e
 |.non,u,_,k,h1,h2,e=>by
  have h1:_=V.non:=h1
  subst h1
  cases u with
  |non=>exact (z5F e).symm
  |int b=>have h2:V.non=V.int b:=h2;cases h2
  |bl b=>have h2:V.non=V.bl b:=h2;cases h2
  |str b=>have h2:V.non=V.str b:=h2;cases h2
  |tup b=>obtain⟨_,_,h2,_⟩:=h2;cases h2
  |lst b=>obtain⟨_,_,h2,_⟩:=h2;cases h2
  |_=>cases e
 |.tup ts,u,_,k,h1,h2,e=>by
  obtain⟨a,xs,rfl,_,_,r,l⟩:=h1
  cases u with
  |tup us=>
   obtain⟨b,ys,e2,_,_,r',l'⟩:=h2
   cases e2
   have:=Rd.inj (by intro _ _ z;cases z) (by intro _ _ z;cases z) r r'
   injection this with this
   subst this
   exact kD l l' e
  |lst us=>
   obtain⟨b,ys,e2,_,_,r',l'⟩:=h2
   cases e2
   have:=Rd.inj (by intro _ _ z;cases z) (by intro _ _ z;cases z) r r'
   cases this
  |int b=>have h2:V.ref a=V.int b:=h2;cases h2
  |bl b=>have h2:V.ref a=V.bl b:=h2;cases h2
  |str b=>have h2:V.ref a=V.str b:=h2;cases h2
  |non=>have h2:V.ref a=V.non:=h2;cases h2
  |_=>cases e
 |.lst ts,u,_,k,h1,h2,e=>by
  obtain⟨a,xs,rfl,_,_,r,l⟩:=h1
  cases u with
  |lst us=>
   obtain⟨b,ys,e2,_,_,r',l'⟩:=h2
   cases e2
   have:=Rd.inj (by intro _ _ z;cases z) (by intro _ _ z;cases z) r r'
   injection this with this
   subst this
   exact kD l l' e
  |tup us=>
   obtain⟨b,ys,e2,_,_,r',l'⟩:=h2
   cases e2
   have:=Rd.inj (by intro _ _ z;cases z) (by intro _ _ z;cases z) r r'
   cases this
  |int b=>have h2:V.ref a=V.int b:=h2;cases h2
  |bl b=>have h2:V.ref a=V.bl b:=h2;cases h2
  |str b=>have h2:V.ref a=V.str b:=h2;cases h2
  |non=>have h2:V.ref a=V.non:=h2;cases h2
  |_=>cases e
 |.obj _ _,_,_,_,_,_,e=>by cases e
 |.mut _,_,_,_,_,_,e=>by cases e
 |.exc _ _,_,_,_,_,_,e=>by cases e
 |.dic _,_,_,_,_,_,e=>by cases e
 |.clo _ _,_,_,_,_,_,e=>by cases e
theorem kD:∀{ts us:List T} {vs:List V} {k:Bool},DenL D φ α H ts vs->DenL D φ α H us vs->eqL ts us=some k->k=true
 |[],[],_,k,_,_,e=>by simpa[eqL] using e.symm
 |[],_::_,_,k,h1,h2,e=>by
  have h1:_=[]:=h1
  obtain⟨_,_,h2,_⟩:=h2
  rw[h1] at h2;cases h2
 |_::_,[],_,k,h1,h2,e=>by
  have h2:_=[]:=h2
  obtain⟨_,_,h1,_⟩:=h1
  rw[h2] at h1;cases h1
 |t::ts,u::us,_,k,h1,h2,e=>by
  obtain⟨v,r,rfl,a1,b1⟩:=h1
  obtain⟨v',r',q,a2,b2⟩:=h2
  injection q with q1 q2
  subst q1 q2
  cases h:eqT t u with
  |none=>simp[eqL,h] at e
  |some x=>
   cases h':eqL ts us with
   |none=>simp[eqL,h,h'] at e
   |some y=>
    have e1:=yG a1 a2 h
    have e2:=kD b1 b2 h'
    subst e1 e2
    simpa[eqL,h,h'] using e.symm
end
end
section
variable {X:Cx}{D:DP}{pins:List (Addr×Obj)}{s:Shared}{σ:St}{H:Hp}{φ α:List Addr}
theorem xY:∀{ts us:List T} {k:Bool},eqL ts us=some k->(∀j (h1:j<ts.length) (h2:j<us.length),∃b,eqT ts[j] us[j]=some b)/\
  k=((z6R (min ts.length us.length)).all (λj=>match ts[j]?,us[j]? with|some t,some u=>(eqT t u).getD false|_,_=>false)&&ts.length == us.length)
 |[],[],k,e=>by
  simp[eqL] at e;subst e
  exact⟨λj h1=>by simp at h1,by simp⟩
 |[],u::us,k,e=>by
  simp[eqL] at e;subst e
  exact⟨λj h1=>by simp at h1,by simp⟩
 |t::ts,[],k,e=>by
  simp[eqL] at e;subst e
  exact⟨λj h1 h2=>by simp at h2,by simp⟩
 |t::ts,u::us,k,e=>by
  cases h:eqT t u with
  |none=>simp[eqL,h] at e
  |some x=>
   cases h':eqL ts us with
   |none=>simp[eqL,h,h'] at e
   |some y=>
    obtain⟨g,ih⟩:=xY h'
    simp[eqL,h,h'] at e
    subst e
    refine⟨λj h1 h2=>?_,?_⟩
    ·cases j with
     |zero=>exact⟨x,h⟩
     |succ j=>exact g j (by simpa using h1) (by simpa using h2)
    ·rw[ih]
     have e1:min (t::ts).length (u::us).length=min ts.length us.length+1:=by simp[Nat.succ_min_succ]
     rw[e1,List.range_succ_eq_map,z6s,zbt]
     simp only[z9X,h,z9Y,z9E,z7F,z68]
     rw[Bool.and_assoc]
     congr 2
     simp
theorem in1_units(A:z6e):A.in1.units=A.units+1:=by first|rfl|simp[Around.in1,Around.units]
theorem yK(I:Inv X pins σ H s){i:Int}{u:T}{v w:V}{a b:Value}{k:Bool}{A:z6e}(h1:Den D φ α H (.int i) v)(h2:Den D φ α H u w)(r1:RelV v a)(r2:RelV w b)(e:eqT (.int i) u=some k)(hu:A.units+je (.int i)+1<cLine):z7O A s a b k:=by
 have h1:_=V.int i:=h1
 subst h1
 obtain⟨t1,rfl⟩:=r1
 cases u with
 |int j=>have h2:w=V.int j:=h2;subst h2;obtain⟨t2,rfl⟩:=r2;cases z5F e;exact zb3 _ _ _ _
 |bl j=>have h2:w=V.bl j:=h2;subst h2;cases r2;cases z5F e;exact SeqAt.EqAt.int_bool _ _ _
 |str j=>have h2:w=V.str j:=h2;subst h2;obtain⟨t2,rfl⟩:=r2;cases z5F e;exact zaZ _ _ _ _
 |non=>have h2:w=V.non:=h2;subst h2;cases r2;cases z5F e;exact SeqAt.EqAt.int_none _ _
 |tup ys=>obtain⟨c,xs,rfl,_,_,r,_⟩:=h2;cases r2;obtain⟨its,_,p,_⟩:=I.tuple (.inl r);cases z5F e;exact SeqAt.EqAt.int_tuple _ _ p (by omega)
 |lst ys=>obtain⟨c,xs,rfl,_,_,r,_⟩:=h2;cases r2;obtain⟨its,_,p,_⟩:=I.list (.inl r);cases z5F e;exact SeqAt.EqAt.int_list _ _ p.isList (by omega)
 |_=>cases e
theorem Us(I:Inv X pins σ H s){i:Bool}{u:T}{v w:V}{a b:Value}{k:Bool}{A:z6e}(h1:Den D φ α H (.bl i) v)(h2:Den D φ α H u w)(r1:RelV v a)(r2:RelV w b)(e:eqT (.bl i) u=some k)(hu:A.units+je (.bl i)+1<cLine):z7O A s a b k:=by
 have h1:_=V.bl i:=h1
 subst h1
 cases r1
 cases u with
 |int j=>have h2:w=V.int j:=h2;subst h2;obtain⟨t2,rfl⟩:=r2;cases z5F e;exact SeqAt.EqAt.bool_int _ _ _
 |bl j=>have h2:w=V.bl j:=h2;subst h2;cases r2;cases z5F e;exact SeqAt.EqAt.bool_bool _ _
 |str j=>have h2:w=V.str j:=h2;subst h2;obtain⟨t2,rfl⟩:=r2;cases z5F e;exact SeqAt.EqAt.bool_str _ _ _
 |non=>have h2:w=V.non:=h2;subst h2;cases r2;cases z5F e;exact SeqAt.EqAt.bool_none _
 |tup ys=>obtain⟨c,xs,rfl,_,_,r,_⟩:=h2;cases r2;obtain⟨its,_,p,_⟩:=I.tuple (.inl r);cases z5F e;exact SeqAt.EqAt.bool_tuple _ p (by omega)
 |lst ys=>obtain⟨c,xs,rfl,_,_,r,_⟩:=h2;cases r2;obtain⟨its,_,p,_⟩:=I.list (.inl r);cases z5F e;exact SeqAt.EqAt.bool_list _ p.isList (by omega)
 |_=>cases e
theorem Xx(I:Inv X pins σ H s){i:Str}{u:T}{v w:V}{a b:Value}{k:Bool}{A:z6e}(h1:Den D φ α H (.str i) v)(h2:Den D φ α H u w)(r1:RelV v a)(r2:RelV w b)(e:eqT (.str i) u=some k)(hu:A.units+je (.str i)+1<cLine):z7O A s a b k:=by
 have h1:_=V.str i:=h1
 subst h1
 obtain⟨t1,rfl⟩:=r1
 cases u with
 |int j=>have h2:w=V.int j:=h2;subst h2;obtain⟨t2,rfl⟩:=r2;cases z5F e;exact za_ _ _ _ _
 |bl j=>have h2:w=V.bl j:=h2;subst h2;cases r2;cases z5F e;exact SeqAt.EqAt.str_bool _ _ _
 |str j=>have h2:w=V.str j:=h2;subst h2;obtain⟨t2,rfl⟩:=r2;cases z5F e;exact SeqAt.EqAt.str_str _ _ _ _
 |non=>have h2:w=V.non:=h2;subst h2;cases r2;cases z5F e;exact SeqAt.EqAt.str_none _ _
 |tup ys=>obtain⟨c,xs,rfl,_,_,r,_⟩:=h2;cases r2;obtain⟨its,_,p,_⟩:=I.tuple (.inl r);cases z5F e;exact SeqAt.EqAt.str_tuple _ _ p (by omega)
 |lst ys=>obtain⟨c,xs,rfl,_,_,r,_⟩:=h2;cases r2;obtain⟨its,_,p,_⟩:=I.list (.inl r);cases z5F e;exact SeqAt.EqAt.str_list _ _ p.isList (by omega)
 |_=>cases e
theorem JQ(I:Inv X pins σ H s){u:T}{v w:V}{a b:Value}{k:Bool}{A:z6e}(h1:Den D φ α H .non v)(h2:Den D φ α H u w)(r1:RelV v a)(r2:RelV w b)(e:eqT .non u=some k)(hu:A.units+je .non+1<cLine):z7O A s a b k:=by
 have h1:_=V.non:=h1
 subst h1
 cases r1
 cases u with
 |int j=>have h2:w=V.int j:=h2;subst h2;obtain⟨t2,rfl⟩:=r2;cases z5F e;exact SeqAt.EqAt.none_int _ _
 |bl j=>have h2:w=V.bl j:=h2;subst h2;cases r2;cases z5F e;exact SeqAt.EqAt.none_bool _
 |str j=>have h2:w=V.str j:=h2;subst h2;obtain⟨t2,rfl⟩:=r2;cases z5F e;exact SeqAt.EqAt.none_str _ _
 |non=>have h2:w=V.non:=h2;subst h2;cases r2;cases z5F e;exact zam _
 |tup ys=>obtain⟨c,xs,rfl,_,_,r,_⟩:=h2;cases r2;obtain⟨its,_,p,_⟩:=I.tuple (.inl r);cases z5F e;exact SeqAt.EqAt.none_tuple p (by omega)
 |lst ys=>obtain⟨c,xs,rfl,_,_,r,_⟩:=h2;cases r2;obtain⟨its,_,p,_⟩:=I.list (.inl r);cases z5F e;exact SeqAt.EqAt.none_list p.isList (by omega)
 |_=>cases e
theorem WS(I:Inv X pins σ H s){ts:List T}{u:T}{v0 w:V}{a b:Value}{k:Bool}{A:z6e}(hn:∀us,u≠.tup us)(h1:Den D φ α H (.tup ts) v0)(h2:Den D φ α H u w)(r1:RelV v0 a)(r2:RelV w b)(e:eqT (.tup ts) u=some k)(hu:A.units+je (.tup ts)+1<cLine):z7O A s a b k:=by
 cases u with
 |tup us=>exact absurd rfl (hn us)
 |lst us=>
  obtain⟨c,xs,rfl,_,_,r,l⟩:=h1
  obtain⟨d,ys,rfl,_,_,r',l'⟩:=h2
  cases r1;cases r2
  obtain⟨_,_,p,_⟩:=I.tuple (.inl r)
  obtain⟨_,_,p',_⟩:=I.list (.inl r')
  cases z5F e
  exact SeqAt.EqAt.tuple_list p p'.isList (by omega)
 |int j=>have h2:w=V.int j:=h2;subst h2;obtain⟨t2,rfl⟩:=r2;obtain⟨c,xs,rfl,_,_,r,_⟩:=h1;cases r1;obtain⟨its,_,p,_⟩:=I.tuple (.inl r);cases z5F e;exact SeqAt.EqAt.tuple_int _ _ p (by omega)
 |bl j=>have h2:w=V.bl j:=h2;subst h2;cases r2;obtain⟨c,xs,rfl,_,_,r,_⟩:=h1;cases r1;obtain⟨its,_,p,_⟩:=I.tuple (.inl r);cases z5F e;exact SeqAt.EqAt.tuple_bool _ p (by omega)
 |str j=>have h2:w=V.str j:=h2;subst h2;obtain⟨t2,rfl⟩:=r2;obtain⟨c,xs,rfl,_,_,r,_⟩:=h1;cases r1;obtain⟨its,_,p,_⟩:=I.tuple (.inl r);cases z5F e;exact SeqAt.EqAt.tuple_str _ _ p (by omega)
 |non=>have h2:w=V.non:=h2;subst h2;cases r2;obtain⟨c,xs,rfl,_,_,r,_⟩:=h1;cases r1;obtain⟨its,_,p,_⟩:=I.tuple (.inl r);cases z5F e;exact SeqAt.EqAt.tuple_none p (by omega)
 |_=>cases e
theorem Wk(I:Inv X pins σ H s){ts:List T}{u:T}{v0 w:V}{a b:Value}{k:Bool}{A:z6e}(hn:∀us,u≠.lst us)(h1:Den D φ α H (.lst ts) v0)(h2:Den D φ α H u w)(r1:RelV v0 a)(r2:RelV w b)(e:eqT (.lst ts) u=some k)(hu:A.units+je (.lst ts)+1<cLine):z7O A s a b k:=by
 cases u with
 |lst us=>exact absurd rfl (hn us)
 |tup us=>
  obtain⟨c,xs,rfl,_,_,r,l⟩:=h1
  obtain⟨d,ys,rfl,_,_,r',l'⟩:=h2
  cases r1;cases r2
  obtain⟨_,_,p,_⟩:=I.list (.inl r)
  obtain⟨_,_,p',_⟩:=I.tuple (.inl r')
  cases z5F e
  exact SeqAt.EqAt.list_tuple p.isList p' (by omega)
 |int j=>have h2:w=V.int j:=h2;subst h2;obtain⟨t2,rfl⟩:=r2;obtain⟨c,xs,rfl,_,_,r,_⟩:=h1;cases r1;obtain⟨its,_,p,_⟩:=I.list (.inl r);cases z5F e;exact SeqAt.EqAt.list_int _ _ p.isList (by omega)
 |bl j=>have h2:w=V.bl j:=h2;subst h2;cases r2;obtain⟨c,xs,rfl,_,_,r,_⟩:=h1;cases r1;obtain⟨its,_,p,_⟩:=I.list (.inl r);cases z5F e;exact SeqAt.EqAt.list_bool _ p.isList (by omega)
 |str j=>have h2:w=V.str j:=h2;subst h2;obtain⟨t2,rfl⟩:=r2;obtain⟨c,xs,rfl,_,_,r,_⟩:=h1;cases r1;obtain⟨its,_,p,_⟩:=I.list (.inl r);cases z5F e;exact SeqAt.EqAt.list_str _ _ p.isList (by omega)
 |non=>have h2:w=V.non:=h2;subst h2;cases r2;obtain⟨c,xs,rfl,_,_,r,_⟩:=h1;cases r1;obtain⟨its,_,p,_⟩:=I.list (.inl r);cases z5F e;exact SeqAt.EqAt.list_none p.isList (by omega)
 |_=>cases e
noncomputable def EqN (D:DP)(φ α:List Addr)(H:Hp)(s:z5D)(n:Nat):Prop:=∀(t u:T) (v w:V) (a b:Value) (k:Bool) (A:z6e),je t<n->Den D φ α H t v->Den D φ α H u w->RelV v a->RelV w b->eqT t u=some k->A.units+je t+1<cLine->z7O A s a b k
theorem wA{n:Nat}(ih:EqN D φ α H s n):∀{ts us:List T} {xs ys:List V} {its its2:List Value} {A:z6e},qS ts<n->DenL D φ α H ts xs->DenL D φ α H us ys->Vals xs its->Vals ys its2->A.units+qS ts+1<cLine->
  ∀(j:Nat) (h1:j<its.length) (h2:j<its2.length),(∀(g1:j<ts.length) (g2:j<us.length),∃b,eqT ts[j] us[j]=some b)->z7O A s its[j] its2[j] (match ts[j]?,us[j]? with|some t,some u=>(eqT t u).getD false|_,_=>false)
 |[],_,xs,_,its,_,A,_,l,_,rv,_,_,j,h1,_,_=>by
  have l:xs=[]:=l
  subst l
  cases rv
  simp at h1
 |t::ts,us,xs,ys,its,its2,A,hd,l,l',rv,rv',hu,j,h1,h2,g=>by
  obtain⟨v,r,rfl,d1,l⟩:=l
  cases rv with
  | @cons _ u0 _ us0 r0 rv=>
  cases us with
  |nil=>
   have l':ys=[]:=l'
   subst l'
   cases rv'
   simp at h2
  |cons u us=>
   obtain⟨w,r',rfl,d2,l'⟩:=l'
   cases rv' with
   | @cons _ u0' _ us0' r0' rv'=>
   simp only[qS] at hu hd
   cases j with
   |zero=>
    obtain⟨b,hb⟩:=g (by simp) (by simp)
    have hb':eqT t u=some b:=by simpa using hb
    simp only[z9X,hb',z9Y,List.getElem_cons_zero]
    exact ih _ _ _ _ _ _ _ _ (by omega) d1 d2 r0 r0' hb' (by omega)
   |succ j=>
    simp only[z7F,List.getElem_cons_succ]
    exact wA ih (by omega) l l' rv rv' (by omega) j (by simpa using h1) (by simpa using h2) λg1 g2=>by
     obtain⟨b,hb⟩:=g (by simpa using g1) (by simpa using g2)
     exact⟨b,by simpa using hb⟩
theorem uf(I:Inv X pins σ H s){n:Nat}(ih:EqN D φ α H s n){ts us:List T}{xs ys:List V}{c d:Addr}{k:Bool}{A:z6e}(hd:qS ts<n)(l:DenL D φ α H ts xs)(l':DenL D φ α H us ys)(r:Rd H c (.tup xs))(r':Rd H d (.tup ys))(e:eqL ts us=some k)(hu:A.units+qS ts+2<cLine):zb8 A s (.ref c) (.ref d) k:=by
 obtain⟨its,rv,p,_⟩:=I.tuple (.inl r)
 obtain⟨its2,rv',p',_⟩:=I.tuple (.inl r')
 obtain⟨g,rfl⟩:=xY e
 have h1:ts.length=its.length:=l.length.trans rv.length
 have h2:us.length=its2.length:=l'.length.trans rv'.length
 have:=SeqAt.RcAt.tuples (A:=A) (e:=λj=>match ts[j]?,us[j]? with|some t,some u=>(eqT t u).getD false|_,_=>false) p p' (by omega) λj q1 q2=>by
  have:=wA (A:=A.in1) ih hd l l' rv rv' (by rw[in1_units];omega) j (by simpa using q1) (by simpa using q2) λg1 g2=>g j g1 g2
  simpa using this
 simpa[h1,h2] using this
theorem Z2(I:Inv X pins σ H s){n:Nat}(ih:EqN D φ α H s n){ts us:List T}{xs ys:List V}{c d:Addr}{k:Bool}{A:z6e}(hd:qS ts<n)(l:DenL D φ α H ts xs)(l':DenL D φ α H us ys)(r:Rd H c (.lst xs))(r':Rd H d (.lst ys))(e:eqL ts us=some k)(hu:A.units+qS ts+2<cLine):zb8 A s (.ref c) (.ref d) k:=by
 obtain⟨its,rv,p,_⟩:=I.list (.inl r)
 obtain⟨its2,rv',p',_⟩:=I.list (.inl r')
 obtain⟨g,rfl⟩:=xY e
 have h1:ts.length=its.length:=l.length.trans rv.length
 have h2:us.length=its2.length:=l'.length.trans rv'.length
 by_cases hl:ts.length=us.length
 ·have:=SeqAt.RcAt.lists (A:=A) (e:=λj=>match ts[j]?,us[j]? with|some t,some u=>(eqT t u).getD false|_,_=>false) p.isList p'.isList (by simp;omega) (by omega) λj q1 q2=>by
   have:=wA (A:=A.in1) ih hd l l' rv rv' (by rw[in1_units];omega) j (by simpa using q1) (by simpa using q2) λg1 g2=>g j g1 g2
   simpa using this
  have e2:min ts.length us.length=its.length:=by omega
  have e3:(ts.length == us.length)=true:=by simpa using hl
  rw[e2,e3,zd5]
  simpa using this
 ·have e3:(ts.length == us.length)=false:=by simpa using hl
  rw[e3,zaD]
  exact SeqAt.RcAt.lists_lengths p.isList p'.isList (by simp;omega) (by omega)
theorem ZU(I:Inv X pins σ H s):∀n,EqN D φ α H s n
 |0=>λ_ _ _ _ _ _ _ _ hn=>absurd hn (by omega)
 |n+1=>λt u v w a b k A hn h1 h2 r1 r2 e hu=>by
  have ih:=ZU I n
  cases t with
  |int i=>exact yK I h1 h2 r1 r2 e hu
  |bl i=>exact Us I h1 h2 r1 r2 e hu
  |str i=>exact Xx I h1 h2 r1 r2 e hu
  |non=>exact JQ I h1 h2 r1 r2 e hu
  |tup ts=>
   cases u with
   |tup us=>
    have hs:=λ(q:w=v)=>yG h1 (q▸h2) e
    obtain⟨c,xs,rfl,_,_,r,l⟩:=h1
    obtain⟨d,ys,rfl,_,_,r',l'⟩:=h2
    cases r1;cases r2
    by_cases hcd:c=d
    ·subst hcd
     rw[hs rfl]
     exact zam _
    ·refine zb9 hcd ?_
     exact uf I ih (by simp only[je] at hn;omega) l l' r r' e (by simp only[je] at hu;omega)
   |_=>exact WS I (by intro _ z;cases z) h1 h2 r1 r2 e hu
  |lst ts=>
   cases u with
   |lst us=>
    have hs:=λ(q:w=v)=>yG h1 (q▸h2) e
    obtain⟨c,xs,rfl,_,_,r,l⟩:=h1
    obtain⟨d,ys,rfl,_,_,r',l'⟩:=h2
    cases r1;cases r2
    by_cases hcd:c=d
    ·subst hcd
     rw[hs rfl]
     exact zam _
    ·refine zb9 hcd ?_
     exact Z2 I ih (by simp only[je] at hn;omega) l l' r r' e (by simp only[je] at hu;omega)
   |_=>exact Wk I (by intro _ z;cases z) h1 h2 r1 r2 e hu
  |_=>cases e
theorem XM(I:Inv X pins σ H s){ts us:List T}{xs ys:List V}{c d:Addr}{k:Bool}{A:z6e}(l:DenL D φ α H ts xs)(l':DenL D φ α H us ys)(r:Rd H c (.tup xs))(r':Rd H d (.tup ys))(e:eqL ts us=some k)(hu:A.units+qS ts+2<cLine):zb8 A s (.ref c) (.ref d) k:=uf I (ZU I _) (z6G _) l l' r r' e hu
theorem XF(I:Inv X pins σ H s){ts us:List T}{xs ys:List V}{c d:Addr}{k:Bool}{A:z6e}(l:DenL D φ α H ts xs)(l':DenL D φ α H us ys)(r:Rd H c (.lst xs))(r':Rd H d (.lst ys))(e:eqL ts us=some k)(hu:A.units+qS ts+2<cLine):zb8 A s (.ref c) (.ref d) k:=Z2 I (ZU I _) (z6G _) l l' r r' e hu
theorem yb(I:Inv X pins σ H s):∀{ts us:List T} {xs ys:List V} {its its2:List Value} {A:z6e},DenL D φ α H ts xs->DenL D φ α H us ys->Vals xs its->Vals ys its2->A.units+qS ts+1<cLine->
  ∀(j:Nat) (h1:j<its.length) (h2:j<its2.length),(∀(g1:j<ts.length) (g2:j<us.length),∃b,eqT ts[j] us[j]=some b)->z7O A s its[j] its2[j] (match ts[j]?,us[j]? with|some t,some u=>(eqT t u).getD false|_,_=>false):=λl l' rv rv' hu=>wA (ZU I _) (z6G _) l l' rv rv' hu
theorem K6(I:Inv X pins σ H s){ts us:List T}{xs ys:List V}{c d:Addr}{k:Bool}{A:z6e}(l:DenL D φ α H ts xs)(l':DenL D φ α H us ys)(r:Rd H c (.tup xs))(r':Rd H d (.tup ys))(e:eqL ts us=some k)(hu:A.units+qS ts+2<cLine):zdg A s (.ref c) (.ref d) (!k):=by
 obtain⟨its,rv,p,_⟩:=I.tuple (.inl r)
 obtain⟨its2,rv',p',_⟩:=I.tuple (.inl r')
 obtain⟨g,rfl⟩:=xY e
 have h1:ts.length=its.length:=l.length.trans rv.length
 have h2:us.length=its2.length:=l'.length.trans rv'.length
 have:=zdA (A:=A) (e:=λj=>match ts[j]?,us[j]? with|some t,some u=>(eqT t u).getD false|_,_=>false) p p' (by omega) λj q1 q2=>by
  have:=yb (A:=A.in1) I l l' rv rv' (by rw[in1_units];omega) j (by simpa using q1) (by simpa using q2) λg1 g2=>g j g1 g2
  simpa using this
 simpa[h1,h2] using this
theorem X9(I:Inv X pins σ H s){ts us:List T}{xs ys:List V}{c d:Addr}{k:Bool}{A:z6e}(l:DenL D φ α H ts xs)(l':DenL D φ α H us ys)(r:Rd H c (.lst xs))(r':Rd H d (.lst ys))(e:eqL ts us=some k)(hu:A.units+qS ts+2<cLine):zdg A s (.ref c) (.ref d) (!k):=by
 obtain⟨its,rv,p,_⟩:=I.list (.inl r)
 obtain⟨its2,rv',p',_⟩:=I.list (.inl r')
 obtain⟨g,rfl⟩:=xY e
 have h1:ts.length=its.length:=l.length.trans rv.length
 have h2:us.length=its2.length:=l'.length.trans rv'.length
 by_cases hl:ts.length=us.length
 ·have:=zdF (A:=A) (e:=λj=>match ts[j]?,us[j]? with|some t,some u=>(eqT t u).getD false|_,_=>false) p.isList p'.isList (by simp;omega) (by omega) λj q1 q2=>by
   have:=yb (A:=A.in1) I l l' rv rv' (by rw[in1_units];omega) j (by simpa using q1) (by simpa using q2) λg1 g2=>g j g1 g2
   simpa using this
  have e2:min ts.length us.length=its.length:=by omega
  have e3:(ts.length == us.length)=true:=by simpa using hl
  rw[e2,e3,zd5]
  simpa using this
 ·have e3:(ts.length == us.length)=false:=by simpa using hl
  rw[e3,zaD]
  exact zcv p.isList p'.isList (by simp;omega) (by omega)
end
end
noncomputable def spM (D:DP)(f:Fn):Sp:=λvs H Q E=>∃φ α ts μ,DenL D φ α H ts vs/\MRel D φ α H μ/\Post D (wOf E) φ α H [] (λt _ α' H'=>∀v,Den D φ α' H' t v->Q v H') (f ts μ)
noncomputable def spN (D:DP)(n:Nat)(f:Fn):Sp:=λvs H Q E=>vs.length=n/\spM D f vs H Q E
noncomputable def QP(D:DP)(t:Nat)(u:Value):Prop:=
 (t=0/\u=.type "NoneType")\/(t=1/\u=.type "bool")\/(t=2/\u=.type "int")\/(t=3/\u=.type "str")\/(t=4/\u=.type "tuple")\/(t=5/\u=.type "list")\/(∃C,D.adr t=some C/\u=.ref C)\/(t=6/\u=.type "dict")\/(∃C,D.cad t=some C/\u=.ref C)
noncomputable def yo(mg:Str->Option Value)(c:Str)(u:Value):Prop:=mg c=some u\/(mg c=none/\z6U c=some u/\c≠"__name__")
abbrev Xe(X:Cx)(c:Str)(u:Value):Prop:=yo X.mg c u
noncomputable def ClsV(v:V)(u:Value):Prop:=(∃C,v=.ref C/\u=.ref C)\/∃n,v=.ty n/\u=.type n
theorem ClsV.rel{v:V}{u:Value}(h:ClsV v u):L2.RelV v u:=by
 rcases h with⟨C,rfl,rfl⟩|⟨n,rfl,rfl⟩<;>rfl
theorem ClsV.only{v:V}{u u':Value}(h:ClsV v u)(r:L2.RelV v u'):u'=u:=by
 rcases h with⟨C,rfl,rfl⟩|⟨n,rfl,rfl⟩<;>exact r
structure XCls(K:PySem.W.Frag)(C:Addr):Prop where
 ga:z64 K (.ref C) "__getattribute__"=some (some (.builtin "BaseException.__getattribute__"))
 hk:z64 K (.ref C) "__getattr__"=some none
 fi:z64 K (.ref C) "__class__"=some (some (.builtin "object.__class__"))
 sp:z7p K (.builtin "object.__class__") "__get__"=some (some (.builtin "getset_descriptor.__get__"))
 tk:z8X K (.builtin "object.__class__")=some true
 ob:z6I K C (.type "object")=some true
 bx:z6I K C (.type "BaseException")=some true
 nb:z6I K C (.type "KeyError")=some false/\z6I K C (.type "ZeroDivisionError")=some false
 cl:(z8S K C).isSome=true
structure OCls(K:PySem.W.Frag)(C:Addr):Prop where
 cl:Cls K C
 fi:z64 K (.ref C) "__class__"=some (some (.builtin "object.__class__"))
 sp:z7p K (.builtin "object.__class__") "__get__"=some (some (.builtin "getset_descriptor.__get__"))
 tk:z8X K (.builtin "object.__class__")=some true
 ob:z6I K C (.type "object")=some true
abbrev zX:List Value:=[.type "ValueError",.type "Exception",.type "BaseException",.type "object"]
noncomputable def FOk (D:DP)(P:z6f)(w:z6w)(K:z5G)(mg:Str->Option Value)(base:Heap)(k:Nat)(fa:Addr)(f:Fn):Prop:=
 ∃fd ps kk,z7C K (.ref fa)=true/\Binds K fd ps []/\kk<=k/\FnOk P w K mg base (CX1 P w) kk fa fd ps (spN D ps.length f)/\∀ts μ K Z,f ts μ K Z->ts.length=ps.length
structure RoomH(k:Nat)(A:Around):Prop where
 dp:A.depth+3 * k+5<recursionLimit
 un:A.units+16 * k+200<cLine
theorem RoomH.units{k:Nat}{A:z6e}(r:RoomH k A):A.units+64<cLine:=by have:=r.un;omega
noncomputable def ue(P:z6f)(w:z6w)(K:z5G)(mg:Str->Option Value)(base:Heap)(k:Nat)(f:Addr)(fd:FuncData)(ps:List Str)(sp:Sp):Prop:=
 ∀(A:z6e) (outer:List Env) (s:z5D) (H:Hp) (args:Args) (us:List Value) (vs:List V) (Q:VK),RoomH k A->Env0 P w K mg base A outer s H->zbk s fd args (ps.zip us)->Vals vs us->sp vs H Q (λ_ _ _=>False)->
  z7n (z5N P w) A (.call (.ref f) args) (CR (λ_ _ _ _ _ _=>False) outer P w H s Q (λ_ _ _=>False)) s
noncomputable def xa (x C:Addr):Heap->Prop:=λh=>∃t,h.get? x=some {cls:=.ref C,data:=.fields #[.ref t,.none,.none,.none,.bool false,.none]}
noncomputable def ye(x C dx:Addr):Heap->Prop:=λh=>∃t,h.get? x=some {cls:=.ref C,dict:=some dx,data:=.fields #[.ref t,.none,.none,.none,.bool false,.none]}
structure XIn(K:PySem.W.Frag)(C HE fI:Addr)(fl:Str):Prop where
 cls:∃N nm q bs hd sn sub ab col dd k0 k1 k2 k3 k5,K.lookup C=some (z7q nm q C N bs (.ref HE::zX) hd sn sub ab col dd k0 k1 k2 k3 k5 "ValueError.__new__")/\zcw K N=true/\z8D K N "__init__"=some (some (.ref fI))
 he:z8e K HE zX "ValueError.__new__"=true
 fn:zcn K (.ref fI)=some (.type "function")
 sa:z64 K (.ref C) "__setattr__"=some (some (.builtin "object.__setattr__"))
 no:z64 K (.ref C) fl=some none
 dct:z7m K C=true
 kp:z7C K (.ref C)=true
noncomputable def spI (C:Addr)(fl:Str):Sp:=λvs H Q E=>∃(x:Addr) (i:Int),vs=[.ref x,.int i]/\i.natAbs.log2<1920/\H x=some (.ext (xa x C))/\∀dx,H dx=none->dx≠x->Q .non (upd (upd H x (.ext (ye x C dx))) dx (.xd [(fl,.int i)]))
noncomputable def z0o(y:Str)(sc:Scope):Bool:=(sc.kind == .function)&&!sc.isCoroutine&&!sc.isGenerator&&sc.names.all (λy=>y.2 != .free)&&(sc.names.lookup y == some .local)&&y != ("__debug__":Str)&&y != ("__classdict__":Str)
noncomputable def z3A(a c:Addr)(qn:Str):Heap->Prop:=λh=>∃(y:Str) (pa:Pos) (kk:Nat) (bp:Pos) (sc:Scope) (pm ctv:Value),z0o y sc=true/\h.get? a=some (zan "<lambda>" qn ⟨[],[⟨y,none,pa⟩],none,[],[],none,[]⟩ (.Constant .none kk bp) sc [] pm c ctv)
noncomputable def z3C(t:T):Prop:=t=.clo 0 [.clo 100 []]\/t=.clo 1 []\/t=.clo 2 [.clo 101 []]
noncomputable def z58 (D:DP)(P:z6f)(w:z6w)(K:z5G)(mg:Str->Option Value)(base:Heap)(k:Nat):Prop:=
 ∀(t:T) (φ α:List Addr) (H:Hp) (v:V),z3C t->Den D φ α H t v->∃a kk,v=.ref a/\kk<=k/\∀(A:z6e) (outer:List Env) (s:z5D),Env0 P w K mg base A outer s H->zdh a s.heap/\(Room kk A->∀(u:Value) (x:V) (Q:VK) (t:T) (φ α:List Addr) (μ:Mem),RelV x u->Den D φ α H t x->MRel D φ α H μ->(∀α' H',Stp α H α' H'->MRel D φ α' H' μ->Q .non H')->
  z7n (z5N P w) A (.call (.ref a) ⟨[u],[]⟩) (CR (CX1 P w) outer P w H s Q (λ_ _ _=>False)) s)
noncomputable def LamD.fb(l:LamD):FuncBody:=match l.sb with|none=>.expr l.body|some q=>.stmts q.2
noncomputable def LamD.nm(l:LamD):Str:=match l.sb with|none=>"<lambda>" | some q=>q.1
noncomputable abbrev XG(name qual:Str)(params:Arguments)(fb:FuncBody)(scope:Scope)(cl:List (Str×Addr))(doc pm cdv ct:Value):FuncData:=
 {name,qualname:=qual,params,body:=fb,scope,globals:=z5V,closure:=cl,defaults:=.none,kwdefaults:=.none,doc:=doc,pyModule:=pm,annotations:=none,code:=cdv,closureTuple:=ct,builtins:=z8o}
noncomputable def j_(a c:Addr)(l:LamD)(cl:List (Str×Addr)):Heap->Prop:=λh=>∃(pa:Pos) (pm ctv doc:Value),h.get? a=some {cls:=.type "function",data:=.func (XG l.nm l.qn ⟨[],[⟨l.y,none,pa⟩],none,[],[],none,[]⟩ l.fb l.sc cl doc pm (.ref c) ctv)}
noncomputable def VV(fr:List Str)(cl:List (Str×Addr))(cs:List Addr):Prop:=fr.map (λx=>cl.lookup x)=cs.map some/\cs.Nodup/\∀x a,cl.lookup x=some a->x∈fr
noncomputable def z4l(D:DP)(P:z6f)(w:z6w)(K:z5G)(mg:Str->Option Value)(base:Heap)(k:Nat)(ls:List LamD):Prop:=
 ∀(j:Nat) (l:LamD) (ts:List T) (φ α:List Addr) (H:Hp) (v:V),ls[j]?=some l->Den D φ α H (Ws j l.jt ts) v->∃(a:Addr) (kk:Nat),v=.ref a/\kk<=k/\∀(A:z6e) (outer:List Env) (s:z5D),Env0 P w K mg base A outer s H->zdh a s.heap/\(Room kk A->
  ∀(u:Value) (x:V) (Q:VK) (t:T) (μ:Mem) (K0:T->Mem->Prop) (Z0:Xp) (E:XK),RelV x u->Den D φ α H t x->MRel D φ α H μ->l.g (some t::ts.map some) μ K0 Z0->(∀t' μ',K0 t' μ'->∀α' H' v',Stp α H α' H'->MRel D φ α' H' μ'->Den D φ α' H' t' v'->Q v' H')->(∀c fs μ',Z0 c fs μ'->∀α' H' cv d,Stp α H α' H'->MRel D φ α' H' μ'->XCv D c fs cv->XDict D φ α' H' fs d->E cv d H')->
  z7n (z5N P w) A (.call (.ref a) ⟨[u],[]⟩) (CR (CX1 P w) outer P w H s Q E) s)
structure KapMk(D:DP)(ls:List LamD):Prop where
 tb:∀(j:Nat) (l:LamD),ls[j]?=some l->∃P' pos,D.tabs l.jt=some (P',pos,l.qn)
 fn:∀(j:Nat) (l:LamD) (a c:Addr) (cl:List (Str×Addr)) (cs:List Addr),ls[j]?=some l->VV l.fr cl cs->D.clo (300+j) a (some (.ext (j_ a c l cl))) (.ref c::cs.map V.ref)
 ce:∀c (o:Obj) u x ob,o.data=.cell (some u)->RelV x u->D.clo 200 c (some (.frz o ob)) [x]
 co:∀j P' pos qn c,D.tabs j=some (P',pos,qn)->D.clo (100+j) c (some (.ext (qE c qn))) []
noncomputable def GlOkM(D:DP)(P:z6f)(w:z6w)(K:z5G)(mg:Str->Option Value)(base:Heap)(k:Nat)(x:Str):GM->Prop
 |.fn f=>∃fa,mg x=some (.ref fa)/\FOk D P w K mg base k fa f
 |.fnh nm f=>∃fa,mg nm=some (.ref fa)/\∃fd ps kk,z7C K (.ref fa)=true/\Binds K fd ps []/\kk<=k/\ue P w K mg base kk fa fd ps (spN D ps.length f)/\∀ts μ K Z,f ts μ K Z->ts.length=ps.length
 |.met c nm f=>∃C fI fd ps kk,D.cad c=some C/\Cls K C/\Meth K C nm fI/\(∀i,D.fn i≠some nm)/\Binds K fd ps []/\kk<=k/\FnOk P w K mg base (CX1 P w) kk fI fd ps (spN D ps.length f)/\∀ts μ K Z,f ts μ K Z->ts.length=ps.length
 |.mk c _ f=>∃C fI fd ps kk,D.cad c=some C/\mg x=some (.ref C)/\Mk K C fI/\Binds K fd ps []/\kk+1<=k/\FnOk P w K mg base (CX1 P w) kk fI fd ps (spN D ps.length f)/\∀ts μ K Z,f ts μ K Z->ts.length=ps.length
 |.cst t=>∃u v,mg x=some u/\RelV v u/\∀φ α H,Den D φ α H t v
 |.xcl c=>∃C,D.adr c=some C/\mg x=some (.ref C)/\z8e K C zX "ValueError.__new__"=true
 |.xcf c _=>∃C,D.adr c=some C/\mg x=some (.ref C)
 |.xbt c n=>mg x=none/\z6U x=some (.type n)/\x≠"__name__"/\bxN c=some n/\D.adr c=none
 |.xin c f nm fl=>∃C HE fI fd ps kk,D.adr c=some C/\mg nm=some (.ref C)/\D.fn f=some fl/\XIn K C HE fI fl/\Binds K fd ps []/\kk+1<=k/\FnOk P w K mg base (CX1 P w) kk fI fd ps (spI C fl)/\ue P w K mg base kk fI fd ps (spI C fl)
 |.mkd c nm n f=>∃C fI fd ps kk,D.cad c=some C/\mg nm=some (.ref C)/\Mk K C fI/\Binds K fd ps [.none]/\kk+1<=k/\FnOk P w K mg base (CX1 P w) kk fI fd ps (spN D ps.length f)/\(∀ts μ K Z,f ts μ K Z->ts.length=ps.length)/\ps.length=n+2
 |.metd c nm n d f=>∃C fI fd ps kk du dv,D.cad c=some C/\Cls K C/\Meth K C nm fI/\(∀i,D.fn i≠some nm)/\Binds K fd ps [du]/\RelV dv du/\(∀φ α H,Den D φ α H d dv)/\kk<=k/\FnOk P w K mg base (CX1 P w) kk fI fd ps (spN D ps.length f)/\(∀ts μ K Z,f ts μ K Z->ts.length=ps.length)/\ps.length=n+2
 |.kpr=>z58 D P w K mg base k/\∀j P' pos qn,j<2->D.tabs j=some (P',pos,qn)->∀a c,D.clo (2 * j) a (some (.ext (z3A a c qn))) [.ref c]/\D.clo (100+j) c (some (.ext (qE c qn))) []
 |.kap ls=>z4l D P w K mg base k ls/\KapMk D ls
 |.tbl kvs=>∃a vs,mg x=some (.ref a)/\(a == z8n)=false/\KV (kvs.map λp=>((.inr p.1:Key),V.int p.2)) vs/\∀h:Heap,K.In h->h.DictOf (wz P w) a vs
 |.none=>mg x=none
 |.bad=>True
abbrev z3K(D:DP)(X:Cx)(k:Nat)(x:Str)(g:GM):Prop:=GlOkM D X.prog X.w X.K X.mg X.base k x g
structure Cn where
 N:List Str
 G:List Str
 calm:Bool
 gl:Str->GM
 cls:List (Str×Nat)
 fld:List (Str×Nat)
 U:List Str
 cel:List Str
 own:List Str
 lam:Option (Nat×List Pos):=none
 lnm:Str:="<lambda>"
 fz:List Str:=[]
noncomputable def Cn.sto(Γ:Cn):List Str:=Γ.N.filter λx=>!Γ.fz.contains x
noncomputable def Cn.look(Γ:Cn)(x:Str):GM:=if Γ.G.contains x then Γ.gl x else .bad
noncomputable def LamOk(D:DP)(mg:Str->Option Value)(base:Heap)(code:Value)(qual:Str)(k:Nat)(l:Option (Nat×List Pos))(nm:Str):Prop:=∀j poss,l=some (j,poss)->2<=k/\∃c P,code=.ref c/\z7h base c P/\base.BuiltinsAt mg P/\D.tabs j=some (P,poss,qual++nm)
theorem LamOk.no{D:DP}{mg:Str->Option Value}{base:Heap}{code:Value}{qual:Str}{k:Nat}{l:Option (Nat×List Pos)}{nm:Str}(h:l=none):LamOk D mg base code qual k l nm:=λj pos e=>by rw[h] at e;cases e
structure Ck(D:DP)(W:XW)(Γ:Cn)(X:Cx)(k:Nat):Prop where
 hK:X.K=D.K
 hN:X.N=Γ.N
 nd:Γ.N.Nodup
 vis:∀x∈Γ.N,Vis X.env.scope x
 dbg:∀x∈Γ.N,(x == ("__debug__":Str))=false/\(x == ("__classdict__":Str))=false
 dbG:∀x∈Γ.G,(x == ("__debug__":Str))=false
 glb:∀x∈Γ.G,Gl X x
 glo:∀x∈Γ.G,z3K D X k x (Γ.gl x)
 glU:∀x∈Γ.U,z3K D X k x (Γ.gl x)/\(x == ("__debug__":Str))=false
 cel:∀x∈Γ.cel,X.env.kindOf x=some .cell\/X.env.kindOf x=some .free
 isi:∀t x c,(x,c)∈Γ.cls->∀u v,QP D t u->Xe X x v->z9q X.K u v=some (qp t c)
 fld:∀c C x f,D.cad c=some C->(x,f)∈Γ.fld->D.fn f=some x/\Cls X.K C/\NoAttr X.K C x
 xcx:∀c C,D.adr c=some C->XCls X.K C
 ocx:∀c C,D.cad c=some C->OCls X.K C
 clv:∀x c,(x,c)∈Γ.cls->∃u v,Xe X x u/\ClsV v u
 clm:Γ.calm=true->X.calm=true
 rom:Γ.calm=true->Room k X.A
 rmh:RoomH k X.A
 xe:∀e s,XP X W e s->X.xe e s
 frm:∃e0 out L,Frm X e0 out L
 lam:LamOk D X.mg X.base X.env.code X.env.qual k Γ.lam Γ.lnm
 kfz:Γ.lam.isSome=true->∀x∈Γ.fz,X.fn x=false/\∀c,X.env.cells.lookup x=some c->X.s₀.heap.objs.size<=c
theorem Ck.unt{D:DP}{W:XW}{Γ:Cn}{X:Cx}{k:Nat}(C:Ck D W Γ X k):X.A.units+64<cLine:=C.rmh.units
theorem qN:∀{N:List Str} {x:Str} {i:Nat},idx N x=some i->N[i]?=some x
 |[],_,_,h=>by simp[idx] at h
 |y::r,x,i,h=>by
  simp only[idx] at h
  split at h
  ·rename_i e;cases h;simp[e]
  ·cases q:idx r x with
   |none=>rw[q] at h;cases h
   |some j=>rw[q] at h;cases h;simpa using qN q
theorem qt{N:List Str}{x:Str}{i:Nat}(h:idx N x=some i):x∈N:=z5T (qN h)
section
variable {X:Cx}{D:DP}{W:XW}{Γ:Cn}{k:Nat}{pins:List (Addr×Obj)}{s:Shared}{σ:St}{H:Hp}{φ α:List Addr}{τ:Sl}{μ:Mem}{f g h:De}{a b c:Expr}{pos:Pos}
theorem PE.mono{e:Expr}{t t':TE}(h:PE X e t)(m:∀σ H Q,t' σ H Q->t σ H Q):PE X e t':=λpins s σ H Q I q=>h pins s σ H Q I (m σ H Q q)
theorem z2d{i j pos}:PE X (.Constant (.int i) j pos) (rdE D W (eC (.int i))):=PE.mono z24 λσ H Q ⟨φ,α,τ,μ,sr,mr,p⟩=>Post.here p mr rfl
theorem z3F{i j pos}:PE X (.Constant (.bool i) j pos) (rdE D W (eC (.bl i))):=PE.mono z46 λσ H Q ⟨φ,α,τ,μ,sr,mr,p⟩=>Post.here p mr rfl
theorem z1U{j pos}:PE X (.Constant .none j pos) (rdE D W (eC .non)):=PE.mono z2g λσ H Q ⟨φ,α,τ,μ,sr,mr,p⟩=>Post.here p mr rfl
theorem z1c{i j pos}:PE X (.Constant (.str i) j pos) (rdE D W (eC (.str i))):=PE.mono Zh λσ H Q ⟨φ,α,τ,μ,sr,mr,p⟩=>Post.here p mr rfl
theorem z3f(C:Ck D W Γ X k){x:Str}{i:Nat}(hi:idx Γ.N x=some i):PE X (.Name x pos) (rdE D W (eV i)):=by
 refine PE.mono (kr (i:=i) (by rw[C.hN];exact qN hi) (C.vis x (qt hi)) (C.dbg x (qt hi)).1 (C.dbg x (qt hi)).2) ?_
 rintro σ H Q ⟨φ,α,τ,μ,sr,mr,p⟩
 dsimp only[eV] at p
 split at p
 ·rename_i t e
  obtain⟨v,q,d⟩:=sr.get e
  exact⟨v,q,p.here mr d⟩
 ·exact p.elim
theorem z1I(C:Ck D W Γ X k){x:Str}{t:T}(hx:x∈Γ.G)(ht:Γ.gl x=.cst t):PE X (.Name x pos) (rdE D W (eC t)):=by
 have g:=C.glo x hx
 rw[ht] at g
 obtain⟨u,v,hm,r,d⟩:=g
 exact PE.mono (Vu (C.glb x hx) hm r (C.dbG x hx)) λσ H Q ⟨φ,α,τ,μ,sr,mr,p⟩=>Post.here p mr (d _ _ _)
theorem z2t{op:zcu}(ha:PE X a (rdE D W f))(hb:PE X b (rdE D W g)):PE X (.BinOp a op b pos) (rdE D W (zo op f g)):=by
 rintro pins s σ H Q I ⟨φ,α,τ,μ,sr,mr,p⟩
 refine wpAny_BinOp (thn (sub ha I sr mr p) ?_)
 rintro u s1 ⟨v,H1,t,μ1,α1,I1,r1,st1,sr1,mr1,d1,p1⟩
 refine thn (sub hb I1 sr1 mr1 p1) ?_
 rintro u' s2 ⟨v',H2,t',μ2,α2,I2,r2,st2,sr2,mr2,d2,p2⟩
 exact z1C I2 mr2 (d1.step st2) d2 r1 r2 p2
theorem z1n(ha:PE X a (rdE D W f)):PE X (.UnaryOp .USub a pos) (rdE D W (z4u f)):=by
 rintro pins s σ H Q I ⟨φ,α,τ,μ,sr,mr,p⟩
 refine UnaryOp_ (thn (sub ha I sr mr p) ?_)
 rintro u s1 ⟨v,H1,t,μ1,α1,I1,r1,st1,sr1,mr1,d1,p1⟩
 try dsimp only at p1
 split at p1
 ·cases d1
  exact z2m pins s1 σ H1 _ _ Q I1 r1 ⟨_,rfl,p1.here mr1 rfl⟩
 ·exact p1.elim
theorem z3v(ha:PE X a (rdE D W f)):PE X (.UnaryOp .Not a pos) (rdE D W (XD f)):=by
 rintro pins s σ H Q I ⟨φ,α,τ,μ,sr,mr,p⟩
 refine UnaryOp_ (thn (sub ha I sr mr p) ?_)
 rintro u s1 ⟨v,H1,t,μ1,α1,I1,r1,st1,sr1,mr1,d1,p1⟩
 try dsimp only at p1
 split at p1
 ·rename_i b
  cases d1
  cases r1
  exact not_of (z6h ⟨.bl (!b),H1,I1,rfl,p1.here mr1 rfl⟩)
 ·exact p1.elim
theorem z22{op:BoolOp}(ha:PE X a (rdE D W f)):PE X (.BoolOp op [a] pos) (rdE D W f):=z2e ha
theorem z3q{r:List Expr}(ha:PE X a (rdE D W f))(hb:PE X (.BoolOp .And (b::r) pos) (rdE D W g)):PE X (.BoolOp .And (a::b::r) pos) (rdE D W (ZS f g)):=by
 rintro pins s σ H Q I ⟨φ,α,τ,μ,sr,mr,p⟩
 refine BoolOp_and (thn (sub ha I sr mr p) ?_)
 rintro u s1 ⟨v,H1,t,μ1,α1,I1,r1,st1,sr1,mr1,d1,p1⟩
 try dsimp only at p1
 split at p1
 ·cases d1
  cases r1
  rcases p1.br with⟨rfl,p1⟩|⟨rfl,p1⟩
  ·exact z6h (hb pins s1 σ H1 Q I1 ⟨φ,α1,τ,μ1,sr1,mr1,p1⟩)
  ·exact z6h ⟨.bl false,H1,I1,rfl,p1.here mr1 rfl⟩
 ·exact p1.elim
theorem z4z{r:List Expr}(ha:PE X a (rdE D W f))(hb:PE X (.BoolOp .Or (b::r) pos) (rdE D W g)):PE X (.BoolOp .Or (a::b::r) pos) (rdE D W (eOr f g)):=by
 rintro pins s σ H Q I ⟨φ,α,τ,μ,sr,mr,p⟩
 refine BoolOp_or (thn (sub ha I sr mr p) ?_)
 rintro u s1 ⟨v,H1,t,μ1,α1,I1,r1,st1,sr1,mr1,d1,p1⟩
 try dsimp only at p1
 split at p1
 ·cases d1
  cases r1
  rcases p1.br with⟨rfl,p1⟩|⟨rfl,p1⟩
  ·exact z6h ⟨.bl true,H1,I1,rfl,p1.here mr1 rfl⟩
  ·exact z6h (hb pins s1 σ H1 Q I1 ⟨φ,α1,τ,μ1,sr1,mr1,p1⟩)
 ·exact p1.elim
theorem z39{x y:T}{v w:V}{b:Bool}(d1:Den D φ α H x v)(d2:Den D φ α H y w)(h:scT x y=some b):UH v w=true/\decide (v=w)=b:=by
 unfold scT at h
 split at h<;>first
  |(cases h;cases d1;cases d2;exact⟨rfl,by simp⟩)
  |cases h
theorem z1e:OpR X (z6B .Is) (λx y H Q=>∃a b,x=.bl a/\y=.bl b/\Q (.bl (decide (a=b))) H):=by
 intro pins s σ H x y v u Q I rx ry h
 obtain⟨a,b,rfl,rfl,q⟩:=h
 cases rx;cases ry
 refine wpAny_is_plain (by rfl) ⟨.bl (decide (a=b)),H,I,?_,q⟩
 cases a<;>cases b<;>rfl
theorem Xr:OpR X (z6B .IsNot) (λx y H Q=>∃a b,x=.bl a/\y=.bl b/\Q (.bl (!decide (a=b))) H):=by
 intro pins s σ H x y v u Q I rx ry h
 obtain⟨a,b,rfl,rfl,q⟩:=h
 cases rx;cases ry
 refine wpAny_isNot_plain (by rfl) ⟨.bl (!decide (a=b)),H,I,?_,q⟩
 cases a<;>cases b<;>rfl
theorem XQ{b:Bool}{C:Prop}{x y:T}{v w:V}{kk:Bool->RE T}{Q:VK}(I:Inv X pins σ H s)(hu:X.A.units+64<cLine)(mr:MRel D φ α H μ)(d1:Den D φ α H x v)(d2:Den D φ α H y w)(p:Post D W φ α H σ (RV D φ Q) (eqW x y μ kk))
  (h1:∀b,Post D W φ α H σ (RV D φ Q) (kk b)->UH v w=true/\decide (v=w)=b->C)
  (h2:∀b,Post D W φ α H σ (RV D φ Q) (kk b)->((∀u1 u2,RelV v u1->RelV w u2->∀{R:Value->z5D->Prop},R (.bool b) s->z5K (z5N X.prog X.w) X.A (z6B .Eq u1 u2) R X.xe s)/\(∀u1 u2,RelV v u1->RelV w u2->∀{R:Value->z5D->Prop},R (.bool (!b)) s->z5K (z5N X.prog X.w) X.A (z6B .NotEq u1 u2) R X.xe s))->C):C:=by
 have lst:∀{xs ys:List T} {c d:Addr} {vs ws:List V},v=.ref c->w=.ref d->Rd H c (.lst vs)->Rd H d (.lst ws)->DenL D φ α H xs vs->DenL D φ α H ys ws->Post D W φ α H σ (RV D φ Q) (RE.grd (qS xs<=40) (.som (eqL xs ys) kk))->C:=λ{xs ys c d vs ws} e1 e2 r r' l l' p=>by
  obtain⟨hd,p⟩:=p.grd
  obtain⟨b,hb,p⟩:=p.som
  subst e1 e2
  exact h2 b p ⟨λu1 u2 r1 r2 R q=>by cases r1;cases r2;exact XF I l l' r r' hb (by omega) _ _ _ _ q,λu1 u2 r1 r2 R q=>by cases r1;cases r2;exact X9 I l l' r r' hb (by omega) _ _ _ _ q⟩
 unfold eqW at p
 split at p
 ·obtain⟨hd,p⟩:=p.grd
  obtain⟨b,hb,p⟩:=p.som
  obtain⟨c,vs,rfl,_,_,r,l⟩:=d1
  obtain⟨d,ws,rfl,_,_,r',l'⟩:=d2
  exact h2 b p ⟨λu1 u2 r1 r2 R q=>by cases r1;cases r2;exact XM I l l' r r' hb (by omega) _ _ _ _ q,λu1 u2 r1 r2 R q=>by cases r1;cases r2;exact K6 I l l' r r' hb (by omega) _ _ _ _ q⟩
 ·obtain⟨c,vs,e1,_,_,r,l⟩:=d1
  obtain⟨d,ws,e2,_,_,r',l'⟩:=d2
  exact lst e1 e2 r r' l l' p
 ·obtain⟨xs,hi,p⟩:=p.ex1
  obtain⟨c,hc,e1⟩:=d1
  obtain⟨vs,q,l⟩:=mr.ob _ c _ hc hi
  obtain⟨d,ws,e2,_,_,r',l'⟩:=d2
  exact lst e1 e2 (.inl q) r' l l' p
 ·obtain⟨ys,hi,p⟩:=p.ex1
  obtain⟨c,hc,e2⟩:=d2
  obtain⟨vs,q,l⟩:=mr.ob _ c _ hc hi
  obtain⟨d,ws,e1,_,_,r',l'⟩:=d1
  exact lst e1 e2 r' (.inl q) l' l p
 ·obtain⟨z,hi,p⟩:=p.ex1
  obtain⟨c,hc,e1⟩:=d1
  obtain⟨vs,q,l⟩:=mr.ob _ c _ hc hi.1
  obtain⟨d,hd,e2⟩:=d2
  obtain⟨ws,q',l'⟩:=mr.ob _ d _ hd hi.2
  exact lst e1 e2 (.inl q) (.inl q') l l' p
 ·split at p
  ·rename_i hb
   exact h1 _ p (z39 d1 d2 hb)
  ·exact p.elim
theorem WO{op:z7B}{x y:T}{v w:V}{u1 u2:Value}{Q:VK}(I:Inv X pins σ H s)(hu:X.A.units+64<cLine)(mr:MRel D φ α H μ)(d1:Den D φ α H x v)(d2:Den D φ α H y w)(r1:RelV v u1)(r2:RelV w u2)
  (p:Post D W φ α H σ (RV D φ Q) (Zk op x y μ)):z5K (z5N X.prog X.w) X.A (z6B op u1 u2) (EP X pins σ Q) X.xe s:=by
 unfold Zk at p
 split at p
 ·refine XQ (b:=true) I hu mr d1 d2 p (λb q h=>?_) (λb q h=>?_)
  ·obtain⟨s1,s2⟩:=h
   exact z43 pins s σ H v w u1 u2 Q I r1 r2 ⟨s1,by rw[s2];exact Post.here q mr rfl⟩
  ·exact h.1 _ _ r1 r2 ⟨.bl b,H,I,rfl,Post.here q mr rfl⟩
 ·refine XQ (b:=false) I hu mr d1 d2 p (λb q h=>?_) (λb q h=>?_)
  ·obtain⟨s1,s2⟩:=h
   exact z4e pins s σ H v w u1 u2 Q I r1 r2 ⟨s1,by rw[s2];exact Post.here q mr rfl⟩
  ·exact h.2 _ _ r1 r2 ⟨.bl (!b),H,I,rfl,Post.here q mr rfl⟩
 ·unfold ltW at p
  split at p
  ·cases d1;cases d2
   exact z4k pins s σ H _ _ u1 u2 Q I r1 r2 ⟨_,_,rfl,rfl,Post.here p mr rfl⟩
  ·obtain⟨ns,h1,p⟩:=p.som
   obtain⟨ms,h2,p⟩:=p.som
   obtain⟨a,vs,rfl,_,_,q1,l1⟩:=d1
   obtain⟨c,ws,rfl,_,_,q2,l2⟩:=d2
   rw[qC h1 l1] at q1
   rw[qC h2 l2] at q2
   exact z2W (by omega) pins s σ H _ _ u1 u2 Q I r1 r2 ⟨a,c,ns,ms,rfl,rfl,.inl q1,.inl q2,Post.here p mr rfl⟩
  ·have d1:v=.str _:=d1
   have d2:w=.str _:=d2
   subst d1 d2
   obtain⟨t1,rfl⟩:=r1
   obtain⟨t2,rfl⟩:=r2
   exact PySem.P.lt_str ⟨.bl _,H,I,rfl,Post.here p mr rfl⟩
  ·exact p.elim
 ·split at p
  ·cases d1;cases d2
   exact z4p pins s σ H _ _ u1 u2 Q I r1 r2 ⟨_,_,rfl,rfl,p.here mr rfl⟩
  ·exact p.elim
 ·split at p
  ·cases d1;cases d2
   exact z3U pins s σ H _ _ u1 u2 Q I r1 r2 ⟨_,_,rfl,rfl,p.here mr rfl⟩
  ·exact p.elim
 ·split at p
  ·cases d1;cases d2
   exact z4g pins s σ H _ _ u1 u2 Q I r1 r2 ⟨_,_,rfl,rfl,p.here mr rfl⟩
  ·exact p.elim
 ·split at p
  ·cases d2
   refine z36 pins s σ H _ _ u1 u2 Q I r1 r2 ⟨rfl,?_⟩
   have q:=p.here mr rfl
   cases x<;>first
    |(have d1:v=_:=d1;subst d1;simpa using q)
    |(obtain⟨_,_,rfl,_⟩:=d1;simpa using q)
    |(obtain⟨_,_,_,_,rfl,_⟩:=d1;simpa using q)
    |(obtain⟨_,_,rfl⟩:=d1;simpa using q)
    |(obtain⟨_,_,_,rfl,_⟩:=d1;simpa using q)
  ·split at p
   ·have d1:v=.bl _:=d1
    have d2:w=.bl _:=d2
    subst d1 d2
    exact z1e pins s σ H _ _ u1 u2 Q I r1 r2 ⟨_,_,rfl,rfl,p.here mr rfl⟩
   ·exact p.elim
  ·exact p.elim
 ·split at p
  ·cases d2
   refine Uu pins s σ H _ _ u1 u2 Q I r1 r2 ⟨rfl,?_⟩
   have q:=p.here mr rfl
   cases x<;>first
    |(have d1:v=_:=d1;subst d1;simpa using q)
    |(obtain⟨_,_,rfl,_⟩:=d1;simpa using q)
    |(obtain⟨_,_,_,_,rfl,_⟩:=d1;simpa using q)
    |(obtain⟨_,_,rfl⟩:=d1;simpa using q)
    |(obtain⟨_,_,_,rfl,_⟩:=d1;simpa using q)
  ·split at p
   ·have d1:v=.bl _:=d1
    have d2:w=.bl _:=d2
    subst d1 d2
    exact Xr pins s σ H _ _ u1 u2 Q I r1 r2 ⟨_,_,rfl,rfl,p.here mr rfl⟩
   ·exact p.elim
  ·exact p.elim
 ·split at p
  ·have d1:v=.str _:=d1
   have d2:w=.str _:=d2
   subst d1 d2
   exact JO pins s σ H _ _ u1 u2 Q I r1 r2 ⟨_,_,rfl,rfl,p.here mr rfl⟩
  ·exact p.elim
 ·split at p
  ·have d1:v=.str _:=d1
   have d2:w=.str _:=d2
   subst d1 d2
   exact ZY pins s σ H _ _ u1 u2 Q I r1 r2 ⟨_,_,rfl,rfl,p.here mr rfl⟩
  ·exact p.elim
noncomputable def wG:Expr->Bool
 |.Name _ _=>true
 |.Constant _ _ _=>true
 |.BinOp _ _ _ _=>true
 |.UnaryOp _ _ _=>true
 |.Call _ _ _ _=>true
 |.Subscript _ _ _=>true
 |.Attribute _ _ _=>true
 |_=>false
noncomputable def wB:Expr->Bool
 |.Set _ _ _=>false
 |_=>true
noncomputable def jY:z7B->Bool
 |.In=>false|.NotIn=>false
 |_=>true
noncomputable def Qb(op:z7B)(b:Expr):Bool:=jY op || wB b
noncomputable def j9:z7B->Bool
 |.Lt=>true|.LtE=>true|.Gt=>true|.GtE=>true|.Eq=>true|.NotEq=>true
 |_=>false
theorem Vk{op:z7B}{b:Expr}(h:Qb op b=true):zaV op b=false:=by
 cases hp:jY op with
 |true=>exact Yk b (by rintro rfl;simp[jY] at hp) (by rintro rfl;simp[jY] at hp)
 |false=>
  have hb:wB b=true:=by unfold Qb at h;rw[hp] at h;exact h
  cases b<;>first|rfl|(simp[wB] at hb)
theorem z2l(C:Ck D W Γ X k){op:z7B}(ho:Qb op b=true)(ha:PE X a (rdE D W f))(hb:PE X b (rdE D W g)):PE X (.Compare a [op] [b] pos) (rdE D W (zt op f g)):=by
 rintro pins s σ H Q I ⟨φ,α,τ,μ,sr,mr,p⟩
 refine wpAny_Compare1 (thn (sub ha I sr mr p) ?_) (Vk ho)
 rintro u s1 ⟨v,H1,t,μ1,α1,I1,r1,st1,sr1,mr1,d1,p1⟩
 refine thn (sub hb I1 sr1 mr1 p1) ?_
 rintro u' s2 ⟨v',H2,t',μ2,α2,I2,r2,st2,sr2,mr2,d2,p2⟩
 exact WO I2 C.unt mr2 (d1.step st2) d2 r1 r2 p2
theorem xt{op:z7B}{β:Type}{R:β->Mem->List Addr->Hp->Prop}{kk:T->Mem->RE β}{x y:T}{v w:V}{u1 u2:Value}(I:Inv X pins σ H s)(hu:X.A.units+64<cLine)(mr:MRel D φ α H μ)(d1:Den D φ α H x v)(d2:Den D φ α H y w)(r1:RelV v u1)(r2:RelV w u2)
  (p:Post D W φ α H σ R ((Zk op x y μ).bind kk)):z5K (z5N X.prog X.w) X.A (z6B op u1 u2) (EP X pins σ λz H1=>∃t μ1 α1,Stp α H α1 H1/\MRel D φ α1 H1 μ1/\Den D φ α1 H1 t z/\Post D W φ α1 H1 σ R (kk t μ1)) X.xe s:=
 WO I hu mr d1 d2 r1 r2 (p.bind.mono λt μ' α' H' st m q v d=>⟨t,μ',α',st,m,d,q⟩)
theorem vc:∀{ops:List z7B} {es:List Expr},ops.all j9=true->lastMarks ops es=false
 |[],es,_=>by cases es<;>rfl
 |[op],[],_=>rfl
 |[op],[e],h=>Yk e (by rintro rfl;simp[j9] at h) (by rintro rfl;simp[j9] at h)
 |[op],_::_::_,_=>rfl
 |op::op'::ops,[],_=>rfl
 |op::op'::ops,e::es,h=>by
  have:lastMarks (op'::ops) es=false:=vc (by simp only[z6s,z5B] at h ⊢;exact h.2)
  cases es with
  |nil=>cases ops<;>rfl
  |cons e' es=>exact this
noncomputable def JE (X:Cx)(D:DP)(W:XW):List Expr->List (z7B×De)->Prop
 |[],[]=>True
 |e::es,p::ps=>PE X e (rdE D W p.2)/\JE X D W es ps
 |_,_=>False
theorem QY(hu:X.A.units+64<cLine){Q:VK}:∀{ps:List (z7B×De)} {es:List Expr} {s:z5D} {H:Hp} {α:List Addr} {μ:Mem} {x:T} {v:V} {u:Value},JE X D W es ps->Inv X pins σ H s->SRel D φ α H τ σ->MRel D φ α H μ->Den D φ α H x v->RelV v u->Post D W φ α H σ (RV D φ Q) (Kx ps x τ μ)->
  z5K (z5N X.prog X.w) X.A (compareChain pos u (ps.map (·.1)) (evalEach es X.env)) (EP X pins σ Q) X.xe s
 |[],_,_,_,_,_,_,_,_,_,_,_,_,_,_,p=>p.elim
 |[(op,g)],[],_,_,_,_,_,_,_,h,_,_,_,_,_,_=>h.elim
 |[(op,g)],[e],s,H,α,μ,x,v,u,h,I,sr,mr,d,r,p=>by
  refine chain_last (thn (sub h.1 I sr mr p) ?_)
  rintro u' s2 ⟨v',H2,t',μ2,α2,I2,r2,st2,sr2,mr2,d2,p2⟩
  exact WO I2 hu mr2 (d.step st2) d2 r r2 p2
 |[(op,g)],_::_::_,_,_,_,_,_,_,_,h,_,_,_,_,_,_=>h.2.elim
 |(op,g)::p'::ps,[],_,_,_,_,_,_,_,h,_,_,_,_,_,_=>h.elim
 |(op,g)::p'::ps,[e],_,_,_,_,_,_,_,h,_,_,_,_,_,_=>h.2.elim
 |(op,g)::(op',g')::ps,e::e'::es,s,H,α,μ,x,v,u,h,I,sr,mr,d,r,p=>by
  refine chain_link (thn (sub h.1 I sr mr p) ?_)
  rintro u' s2 ⟨v',H2,t',μ2,α2,I2,r2,st2,sr2,mr2,d2,p2⟩
  refine thn (xt I2 hu mr2 (d.step st2) d2 r r2 p2) ?_
  rintro dd s3 ⟨z,H3,I3,r3,t3,μ3,α3,st3,mr3,d3,p3⟩
  try dsimp only at p3
  split at p3
  ·cases d3
   cases r3
   rcases p3.br with⟨rfl,p3⟩|⟨rfl,p3⟩
   ·exact z6h (ite_tt (QY hu (ps:=(op',g')::ps) (es:=e'::es) h.2 I3 (sr2.step st3) mr3 (d2.step st3) r2 p3))
   ·exact z6h (ite_ff ⟨.bl false,H3,I3,rfl,p3.here mr3 rfl⟩)
  ·exact p3.elim
theorem Kr(C:Ck D W Γ X k){e1 e2:Expr}{es:List Expr}{p1 p2:z7B×De}{ps:List (z7B×De)}(ho:(p1::p2::ps).all (λp=>j9 p.1)=true)(ha:PE X a (rdE D W f))(h:JE X D W (e1::e2::es) (p1::p2::ps)):PE X (.Compare a (p1.1::p2.1::ps.map (·.1)) (e1::e2::es) pos) (rdE D W (eCh f (p1::p2::ps))):=by
 rintro pins s σ H Q I ⟨φ,α,τ,μ,sr,mr,p⟩
 refine Compare_chain (thn (sub ha I sr mr p) ?_) (vc (by simpa[zbt,z9E] using ho))
 rintro u s1 ⟨v,H1,t,μ1,α1,I1,r1,st1,sr1,mr1,d1,p1⟩
 exact QY C.unt h I1 sr1 mr1 d1 r1 p1
theorem VM(hu:X.A.units+64<cLine){β:Type}{R:β->Mem->List Addr->Hp->Prop}{kk:Bool->Mem->RE β}:∀{ps:List (z7B×De)} {es:List Expr} {s:z5D} {H:Hp} {α:List Addr} {μ:Mem} {x:T} {v:V} {u:Value} {Q:Bool->Hp->Prop},JE X D W es ps->Inv X pins σ H s->SRel D φ α H τ σ->MRel D φ α H μ->Den D φ α H x v->RelV v u->Post D W φ α H σ (λb _ _ H'=>Q b H') ((Kx ps x τ μ).bind ZE)->
  z5K (z5N X.prog X.w) X.A (testChain pos u (ps.map (·.1)) (evalEach es X.env)) (TP X pins σ Q) X.xe s
 |[],_,_,_,_,_,_,_,_,_,_,_,_,_,_,_,p=>Post.elim p
 |[(op,g)],[],_,_,_,_,_,_,_,_,h,_,_,_,_,_,_=>h.elim
 |[(op,g)],[e],s,H,α,μ,x,v,u,Q,h,I,sr,mr,d,r,p=>by
  have p:Post D W φ α H σ (λb _ _ H'=>Q b H') ((g τ μ).bind λy μ1=>(Zk op x y μ1).bind ZE):=p
  refine test_last (thn (sub h.1 I sr mr p) ?_)
  rintro u' s2 ⟨v',H2,t',μ2,α2,I2,r2,st2,sr2,mr2,d2,p2⟩
  refine thn (xt I2 hu mr2 (d.step st2) d2 r r2 p2) ?_
  rintro dd s3 ⟨z,H3,I3,r3,t3,μ3,α3,st3,mr3,d3,p3⟩
  unfold ZE at p3
  split at p3
  ·cases d3
   cases r3
   exact z6h ⟨H3,I3,p3.ok (Stp.refl _ _) mr3⟩
  ·exact p3.elim
 |[(op,g)],_::_::_,_,_,_,_,_,_,_,_,h,_,_,_,_,_,_=>h.2.elim
 |(op,g)::p'::ps,[],_,_,_,_,_,_,_,_,h,_,_,_,_,_,_=>h.elim
 |(op,g)::p'::ps,[e],_,_,_,_,_,_,_,_,h,_,_,_,_,_,_=>h.2.elim
 |(op,g)::(op',g')::ps,e::e'::es,s,H,α,μ,x,v,u,Q,h,I,sr,mr,d,r,p=>by
  have p:Post D W φ α H σ (λb _ _ H'=>Q b H') ((g τ μ).bind λy μ1=>(Zk op x y μ1).bind λk μ2=>(match k with|.bl b=>RE.br b (Kx ((op',g')::ps) y τ μ2) (.ok (.bl false) μ2)|_=>RE.st:RE T).bind ZE):=p
  refine test_link (thn (sub h.1 I sr mr p) ?_)
  rintro u' s2 ⟨v',H2,t',μ2,α2,I2,r2,st2,sr2,mr2,d2,p2⟩
  refine thn (xt I2 hu mr2 (d.step st2) d2 r r2 p2) ?_
  rintro dd s3 ⟨z,H3,I3,r3,t3,μ3,α3,st3,mr3,d3,p3⟩
  try dsimp only at p3
  split at p3
  ·rename_i bb
   cases d3
   cases r3
   cases bb with
   |true=>exact z6h (ite_tt (VM hu (kk:=kk) (R:=R) (ps:=(op',g')::ps) (es:=e'::es) h.2 I3 (sr2.step st3) mr3 (d2.step st3) r2 p3))
   |false=>
    have p3:Post D W φ α3 H3 σ (λb _ _ H'=>Q b H') (RE.ok false μ3):=p3
    exact z6h (ite_ff ⟨H3,I3,p3.ok (Stp.refl _ _) mr3⟩)
  ·have p3:Post D W φ α3 H3 σ (λb _ _ H'=>Q b H') RE.st:=p3
   exact p3.elim
end
section
variable {X:Cx}{D:DP}{W:XW}{Γ:Cn}{k:Nat}{pins:List (Addr×Obj)}{s:Shared}{σ:St}{H:Hp}{φ α:List Addr}{τ:Sl}{μ:Mem}{f g h:De}{ft gt:Dt}{a b c:Expr}{pos:Pos}
theorem VF(ha:PE X a (rdE D W f))(he:∀whole,isTrue a X.env whole=(do let v ←whole;standAt a.pos;za9 [v] (truthy v))):PT X a (rdT D W (tE f)):=by
 rintro pins s σ H Q I ⟨φ,α,τ,μ,sr,mr,p⟩
 rw[he]
 refine z5z (thn (sub ha I sr mr p) ?_)
 rintro u s1 ⟨v,H1,t,μ1,α1,I1,r1,st1,sr1,mr1,d1,p1⟩
 unfold ZE at p1
 split at p1
 ·cases d1
  cases r1
  exact z5z (z6p (z60 (z6h ⟨H1,I1,p1.ok (Stp.refl _ _) mr1⟩)))
 ·exact p1.elim
theorem We(C:Ck D W Γ X k){op:z7B}(ho:Qb op b=true)(ha:PE X a (rdE D W f))(hb:PE X b (rdE D W g)):PT X (.Compare a [op] [b] pos) (rdT D W (tE (zt op f g))):=by
 rintro pins s σ H Q I ⟨φ,α,τ,μ,sr,mr,p⟩
 have p:Post D W φ α H σ (λb _ _ H'=>Q b H') ((f τ μ).bind λx μ1=>(g τ μ1).bind λy μ2=>(Zk op x y μ2).bind ZE):=p
 refine wpAny_isTrue_Compare1 (thn (sub ha I sr mr p) ?_) (Vk ho)
 rintro u s1 ⟨v,H1,t,μ1,α1,I1,r1,st1,sr1,mr1,d1,p1⟩
 refine thn (sub hb I1 sr1 mr1 p1) ?_
 rintro u' s2 ⟨v',H2,t',μ2,α2,I2,r2,st2,sr2,mr2,d2,p2⟩
 refine thn (xt I2 C.unt mr2 (d1.step st2) d2 r1 r2 p2) ?_
 rintro d s3 ⟨z,H3,I3,r3,t3,μ3,α3,st3,mr3,d3,p3⟩
 unfold ZE at p3
 split at p3
 ·cases d3
  cases r3
  exact z6h ⟨H3,I3,p3.ok (Stp.refl _ _) mr3⟩
 ·exact p3.elim
theorem Q1(C:Ck D W Γ X k){e1 e2:Expr}{es:List Expr}{p1 p2:z7B×De}{ps:List (z7B×De)}(ho:(p1::p2::ps).all (λp=>j9 p.1)=true)(ha:PE X a (rdE D W f))(h:JE X D W (e1::e2::es) (p1::p2::ps)):PT X (.Compare a (p1.1::p2.1::ps.map (·.1)) (e1::e2::es) pos) (rdT D W (tE (eCh f (p1::p2::ps)))):=by
 rintro pins s σ H Q I ⟨φ,α,τ,μ,sr,mr,p⟩
 have p:Post D W φ α H σ (λb _ _ H'=>Q b H') ((f τ μ).bind λx μ1=>(Kx (p1::p2::ps) x τ μ1).bind ZE):=p
 refine isTrue_chain (thn (sub ha I sr mr p) ?_) (vc (by simpa[zbt,z9E] using ho))
 rintro u s1 ⟨v,H1,t,μ1,α1,I1,r1,st1,sr1,mr1,d1,p1⟩
 exact VM (kk:=λ_ _=>RE.st (β:=Bool)) (R:=λ_ _ _ _=>True) C.unt h I1 sr1 mr1 d1 r1 p1
theorem z1w{r:List Expr}(ha:PT X a (rdT D W ft))(hb:PW X (.BoolOp .And (b::r) pos) (rdT D W gt)):PW X (.BoolOp .And (a::b::r) pos) (rdT D W (xh ft gt)):=by
 intro whole pins s σ H Q I hq
 refine z2v ha hb whole pins s σ H Q I ?_
 obtain⟨φ,α,τ,μ,sr,mr,p⟩:=hq
 refine⟨φ,α,τ,μ,sr,mr,p.bind.mono λc μ' α' H' st m q=>?_⟩
 rcases q.br with⟨rfl,q⟩|⟨rfl,q⟩
 ·exact⟨φ,α',τ,μ',sr.step st,m,q⟩
 ·exact q.ok (Stp.refl _ _) m
theorem z45{r:List Expr}(ha:PT X a (rdT D W ft))(hb:PW X (.BoolOp .Or (b::r) pos) (rdT D W gt)):PW X (.BoolOp .Or (a::b::r) pos) (rdT D W (tOr ft gt)):=by
 intro whole pins s σ H Q I hq
 refine z3R ha hb whole pins s σ H Q I ?_
 obtain⟨φ,α,τ,μ,sr,mr,p⟩:=hq
 refine⟨φ,α,τ,μ,sr,mr,p.bind.mono λc μ' α' H' st m q=>?_⟩
 rcases q.br with⟨rfl,q⟩|⟨rfl,q⟩
 ·exact q.ok (Stp.refl _ _) m
 ·exact⟨φ,α',τ,μ',sr.step st,m,q⟩
theorem z3k(ha:PT X a (rdT D W ft)):PT X (.UnaryOp .Not a pos) (rdT D W (w_ ft)):=by
 intro pins s σ H Q I hq
 refine z1Z ha pins s σ H Q I ?_
 obtain⟨φ,α,τ,μ,sr,mr,p⟩:=hq
 exact⟨φ,α,τ,μ,sr,mr,p.bind.mono λc μ' α' H' st m q=>q.ok (Stp.refl _ _) m⟩
theorem z3_(hc:PT X c (rdT D W ft))(ha:PE X a (rdE D W f))(hb:PE X b (rdE D W g)):PE X (.IfExp c a b pos) (rdE D W (eIf ft f g)):=by
 rintro pins s σ H Q I ⟨φ,α,τ,μ,sr,mr,p⟩
 refine wpAny_IfExp (thn (z3P hc I sr mr p) ?_)
 rintro d s1 ⟨H1,μ1,α1,I1,st1,sr1,mr1,p1⟩
 rcases p1.br with⟨rfl,p1⟩|⟨rfl,p1⟩
 ·exact ha pins s1 σ H1 Q I1 ⟨φ,α1,τ,μ1,sr1,mr1,p1⟩
 ·exact hb pins s1 σ H1 Q I1 ⟨φ,α1,τ,μ1,sr1,mr1,p1⟩
noncomputable def qb:Expr->Bool
 |.Name _ _=>true
 |.Attribute _ _ _=>true
 |.Subscript _ _ _=>true
 |.Call (.Name x _) _ _ _=>x != ("super":Str)
 |.Call (.Attribute _ _ _) _ _ _=>true
 |_=>false
theorem Post.ex3{β δ1 δ2 δ3:Type}{R:β->Mem->List Addr->Hp->Prop}{P:δ1->δ2->Prop}{P2:δ1->δ2->δ3->Prop}{r:δ1->δ2->δ3->RE β}(p:Post D W φ α H σ R (λK Z=>∃x y z,P x y/\P2 x y z/\r x y z K Z)):∃x y z,P x y/\P2 x y z/\Post D W φ α H σ R (r x y z):=by
 obtain⟨K,Z,⟨x,y,z,h1,h2,q⟩,h⟩:=p
 exact⟨x,y,z,h1,h2,K,Z,q,h⟩
theorem Post.ex2{β δ1 δ2:Type}{R:β->Mem->List Addr->Hp->Prop}{P:δ1->Prop}{P2:δ1->δ2->Prop}{r:δ1->δ2->RE β}(p:Post D W φ α H σ R (λK Z=>∃x y,P x/\P2 x y/\r x y K Z)):∃x y,P x/\P2 x y/\Post D W φ α H σ R (r x y):=by
 obtain⟨K,Z,⟨x,y,h1,h2,q⟩,h⟩:=p
 exact⟨x,y,h1,h2,K,Z,q,h⟩
theorem vh{b:Expr}(h:wG b=true):Yz b:=by
 intro o i
 cases b<;>first|(simp[wG] at h;done)|rfl
theorem yu{D:DP}{ts:List T}{xs:List V}{i:Int}{t:T}(l:DenL D φ α H ts xs)(h:xf ts i=some t):∃v,atI xs i=some v/\Den D φ α H t v:=by
 unfold xf at h
 have e:ixN xs.length i=YW ts.length i:=by rw[l.length];rfl
 unfold atI
 rw[e]
 cases q:YW ts.length i with
 |none=>rw[q] at h;cases h
 |some j=>
  rw[q] at h
  exact l.get h
theorem z4c(hb':wG b=true)(hK:X.K=D.K)(ha:PE X a (rdE D W f))(hb:PE X b (rdE D W g)):PE X (.Subscript a b pos) (rdE D W (eIx f g)):=by
 rintro pins s σ H Q I ⟨φ,α,τ,μ,sr,mr,p⟩
 refine Subscript_ (thn (sub ha I sr mr p) ?_)
 rintro u s1 ⟨v,H1,t,μ1,α1,I1,r1,st1,sr1,mr1,d1,p1⟩
 refine thn (sub hb I1 sr1 mr1 p1) ?_
 rintro u' s2 ⟨v',H2,t',μ2,α2,I2,r2,st2,sr2,mr2,d2,p2⟩
 have d1:=d1.step st2
 unfold z0R at p2
 split at p2
 ·cases d2
  split at p2
  ·obtain⟨w,hw,p2⟩:=p2.som
   obtain⟨ad,xs,rfl,_,_,r,l⟩:=d1
   obtain⟨z,hz,dz⟩:=yu l hw
   exact Vd a b pins s2 σ H2 _ _ _ _ Q I2 r1 r2 ⟨ad,xs,_,z,rfl,rfl,.inl r,hz,p2.here mr2 dz⟩ (vh hb' _ _)
  ·obtain⟨w,hw,p2⟩:=p2.som
   obtain⟨ad,xs,rfl,_,_,r,l⟩:=d1
   obtain⟨z,hz,dz⟩:=yu l hw
   exact z0W a b pins s2 σ H2 _ _ _ _ Q I2 r1 r2 ⟨ad,xs,_,z,rfl,rfl,.inl r,hz,p2.here mr2 dz⟩ (vh hb' _ _)
  ·obtain⟨ts,w,hj,hw,p2⟩:=p2.ex2
   obtain⟨ad,hi',rfl⟩:=d1
   obtain⟨xs,e2,l⟩:=mr2.ob _ ad _ hi' hj
   obtain⟨z,hz,dz⟩:=yu l hw
   exact Vd a b pins s2 σ H2 _ _ _ _ Q I2 r1 r2 ⟨ad,xs,_,z,rfl,rfl,.inl (.inl e2),hz,Post.here p2 mr2 dz⟩ (vh hb' _ _)
  ·obtain⟨hl,p2⟩:=p2.grd
   obtain⟨c,hc,p2⟩:=p2.som
   have d1:v=.str _:=d1
   subst d1
   exact z2P a b pins s2 σ H2 _ _ _ _ Q I2 r1 r2 ⟨_,_,c,rfl,rfl,zI hl,hc,p2.here mr2 rfl⟩ (vh hb' _ _)
  ·exact p2.elim
 ·exact p2.elim
noncomputable def noStar:Expr->Bool
 |.Starred _ _=>false
 |_=>true
theorem z8{e:Expr}{es:List Expr}{env:Env}(h:noStar e=true):z6o (e::es) env=(false,eval e env)::z6o es env:=by
 cases e<;>first|(simp[noStar] at h;done)|rfl
theorem q9{es:List Expr}{env:Env}{pos:Pos}(h:es.all noStar=true):(z7u pos (z6o es env)).any (·.1)=false:=by
 induction es with
 |nil=>rfl
 |cons e es ih=>
  simp only[z6s,z5B] at h
  rw[z8 h.1]
  have:=ih h.2
  first
   |(simp[z7u] at this ⊢;exact this)
   |(simpa[z7u] using this)
theorem z3r:PA X [] (rdA D W 0 (evs [])):=by
 rintro pos pins s σ H Q I ⟨φ,α,τ,μ,sr,mr,p⟩
 exact qx pos pins s σ H Q I (Post.ok p (Stp.refl _ _) mr [] rfl rfl)
theorem Yw{e:Expr}{es:List Expr}{fs:List De}{n:Nat}(hs:noStar e=true)(ha:PE X e (rdE D W f))(hr:PA X es (rdA D W n (evs fs))):PA X (e::es) (rdA D W (n+1) (evs (f::fs))):=by
 intro pos pins s σ H Q I hq
 refine zN ha hr (z8 hs) pos pins s σ H Q I ?_
 obtain⟨φ,α,τ,μ,sr,mr,p⟩:=hq
 have p:Post D W φ α H σ _ ((f τ μ).bind λt μ1=>(evs fs τ μ1).bind λts μ2=>.ok (t::ts) μ2):=p
 refine⟨φ,α,τ,μ,sr,mr,p.bind.mono λt μ1 α1 H1 st m q v d=>?_⟩
 refine⟨φ,α1,τ,μ1,sr.step st,m,q.bind.mono λts μ2 α2 H2 st2 m2 q2 vs dl hn=>?_⟩
 exact q2.ok (Stp.refl _ _) m2 _ ⟨v,vs,rfl,d.step st2,dl⟩ (by simp[hn])
noncomputable def EsOk (X:Cx)(D:DP)(W:XW):List Expr->List De->Prop
 |[],[]=>True
 |e::es,f::fs=>noStar e=true/\PE X e (rdE D W f)/\EsOk X D W es fs
 |_,_=>False
theorem qX:∀{es:List Expr} {fs:List De},EsOk X D W es fs->PA X es (rdA D W es.length (evs fs))
 |[],[],_=>z3r
 |e::es,f::fs,h=>Yw h.1 h.2.1 (qX h.2.2)
 |[],_::_,h=>h.elim
 |_::_,[],h=>h.elim
theorem EsOk.stars:∀{es:List Expr} {fs:List De},EsOk X D W es fs->es.all noStar=true
 |[],[],_=>rfl
 |e::es,f::fs,h=>by simp[h.1,EsOk.stars h.2.2]
 |[],_::_,h=>h.elim
 |_::_,[],h=>h.elim
theorem z2o{es:List Expr}{fs:List De}(hl:es.length<=room)(h:EsOk X D W es fs):PE X (.List es pos) (rdE D W (kY fs)):=by
 refine PE.mono (Kn (qX h)) ?_
 rintro σ H Q ⟨φ,α,τ,μ,sr,mr,p⟩
 refine⟨φ,α,τ,μ,sr,mr,p.bind.mono λts μ1 α1 H1 st m q vs dl hn=>⟨by rw[hn];exact zI hl,λz hz=>?_⟩⟩
 exact q.fresh m (zj hz) ⟨z,vs,rfl,zp m hz,zq m hz,.inl zd,dl.step (Stp.new (zj hz))⟩
theorem JT{es:List Expr}{fs:List De}{kk:Nat}(hl:es.length<=room)(h:EsOk X D W es fs):PE X (.Tuple es kk pos) (rdE D W (jh fs)):=by
 refine PE.mono (JW (qX h)) ?_
 rintro σ H Q ⟨φ,α,τ,μ,sr,mr,p⟩
 refine⟨φ,α,τ,μ,sr,mr,p.bind.mono λts μ1 α1 H1 st m q vs dl hn=>⟨by rw[hn];exact zI hl,λz hz=>?_⟩⟩
 exact q.fresh m (zj hz) ⟨z,vs,rfl,zp m hz,zq m hz,.inl zd,dl.step (Stp.new (zj hz))⟩
end
section
open PySem.W
theorem uX{prog:z6f}{w:z6w}{A:z6e}{E:Value->z5D->Prop}{s:z5D}{K:Frag}{x D:Addr}{ox:Obj}{od:Option Obj}{Q:Option Value->z5D->Prop}(X:K.In s.heap)(I:InstAt s.heap x ox D od)
 (hga:z64 K (.ref D) "__getattribute__"=some (some (.builtin "BaseException.__getattribute__"))) (hk:z64 K (.ref D) "__getattr__"=some none)
 (hf:findObj K D od "__class__"=some (.bind (.builtin "getset_descriptor.__get__") (.builtin "object.__class__"))) (hm:z6I K D (.type "object")=some true) (hb:z6I K D (.type "BaseException")=some true)
 (h:Q (some (.ref D)) {s with toks:=s.toks+1}):z5K (z5N prog w) A (zcx (.ref x) "__class__") Q E s:=by
 obtain⟨hh,g,d,t,os⟩:=s
 have L0:=I.type (M:=z5N prog w)
 have L1:=zaC (M:=z5N prog w) X hga
 have L2:=zaC (M:=z5N prog w) X hk
 have L3:=looks_find (M:=z5N prog w) X I hf
 have L4:=looks_mroIn (M:=z5N prog w) X hb
 have f3:=z9Z.ga.bind (.ref x)
 unfold zcx getAttrBy? getAttrBy
 refine z5z (wpAny_mkText (z5z (zaX (z60 (z5z (L0.at (z5z (L1.at ?_))))))))
 show z5K _ _ (zc4 (.ref x) _ (.ref D) (.builtin "BaseException.__getattribute__") false false) _ _ _
 unfold zc4 hookBefore
 refine z5z ?_
 show z5K _ _ (zb6 (.ref D) "__getattr__") _ _ _
 refine L2.at ?_
 refine z5z (zaX (z60 ?_))
 unfold callGetattribute boundAndCalled
 show z5K _ _ (bindSpecial (.builtin "BaseException.__getattribute__") (.ref x) >>= _) _ _ _
 rw[f3]
 refine z5z (z5E ?_)
 show z5K _ _ (call (.builtin "BaseException.__getattribute__") [.ref x,.str "__class__" _]) _ _ _
 refine z73 (z81 z9Z.ga.plain PySem.F.entry_bexc_ga ?_)
 have hkd:builtinKind "BaseException.__getattribute__"=some .slot:=by decide +kernel
 have hsp:splitId "BaseException.__getattribute__"=some ("BaseException","__getattribute__"):=by decide +kernel
 have ha:=PySem.F.args_bexc_ga (.ref x) (.str "__class__" t)
 have LI:z9N (z5N prog w) hh (zcy (.ref x) (.type "BaseException")) true:=L0.andThen L4
 simp only[z8O,hkd,hsp]
 refine z5z (LI.at ?_)
 simp only[Bool.not_true,z8p,if_false]
 refine z7K (a:=()) ha ?_
 unfold z99.«object.__getattribute__»
 refine z5z (m:=slotArgs _ _ _) (z5E ?_)
 dsimp only
 refine z5z ?_
 show z5K _ _ (z9b (.str "__class__" t)) _ _ _
 first
  |exact z5E (z5z (L0.at (z5z (L3.at ?_))))
  |(refine z5E (z5z (L0.at (z5z (L3.at ?_)))))
  |(unfold z9b;refine z5E (z5z (L0.at (z5z (L3.at ?_)))))
 dsimp only
 unfold zcS
 show z5K _ _ (za9 [zd6 "object.__class__"] (call (.builtin "getset_descriptor.__get__") [.builtin "object.__class__",.ref x,.ref D]) >>= ret) _ _ _
 refine z5z (z60 (z73 (class_get (s:=⟨hh,g,d,t+1,os⟩) X I hm ?_)))
 refine z5E ?_
 exact handed_on rfl (z5E h)
theorem XCls.fo{K:Frag}{C:Addr}(h:XCls K C)(od:Option Obj):findObj K C od "__class__"=some (.bind (.builtin "getset_descriptor.__get__") (.builtin "object.__class__")):=by
 have hc:=h.cl
 obtain⟨cd,e⟩:=z8b.mp hc
 unfold findObj
 rw[e,h.fi]
 simp only[z8P]
 rw[h.sp]
 simp only[z8P]
 rw[h.tk]
 rfl
noncomputable def XcP (x C:Addr)(d:Option Addr)(h:Heap):Prop:=yR x C d h/\∀dx,d=some dx->∃o,h.get? dx=some o
theorem Kp{K:Frag}{x C:Addr}{d:Option Addr}(hC:XCls K C):KitX K (.ref x) (.ref C) (XcP x C d) where
 ty:=λM h _ p=>by
  obtain⟨⟨oe,vs,h1,h2,h3,h4⟩,_⟩:=p
  exact h2▸(zdN h1).andThen .now
 it:=λM h X _=>by
  have hcD:=hC.cl
  unfold z8S at hcD
  split at hcD
  ·rename_i c' d' cd' sl' ho
   intro A' Q' E' s' k q
   unfold isType loadHead
   exact z5z (zaB (k _ _ (X _ _ ho)) (z5E q))
  ·cases hcD
 ne:=λh tp dd its n sl X htp=>by
  refine zbu.mpr λq=>?_
  have e:C=tp:=Value.ref.inj (beq_iff_eq.mp q)
  subst e
  have hcD:=hC.cl
  unfold z8S at hcD
  split at hcD
  ·rename_i c' d' cd' sl' ho
   have z:=(X _ _ ho).symm.trans htp
   cases z
  ·cases hcD
 ca:=λX p k=>by
  obtain⟨⟨oe,vs,h1,h2,h3,h4⟩,h5⟩:=p
  cases d with
  |none=>
   refine uX (ox:=oe) (od:=none) X ⟨h1,h2,?_,?_⟩ hC.ga hC.hk (hC.fo _) hC.ob hC.bx k
   ·unfold notCls;rw[h3]
   ·rw[h4];trivial
  |some dx=>
   obtain⟨o,ho⟩:=h5 dx rfl
   refine uX (ox:=oe) (od:=some o) X ⟨h1,h2,?_,?_⟩ hC.ga hC.hk (hC.fo _) hC.ob hC.bx k
   ·unfold notCls;rw[h3]
   ·rw[h4];exact ho
end
section
variable {X:Cx}{D:DP}{W:XW}{Γ:Cn}{k:Nat}{pins:List (Addr×Obj)}{s:Shared}{σ:St}{H:Hp}{φ α:List Addr}{τ:Sl}{μ:Mem}{f g h:De}{a b c:Expr}{pos:Pos}{es:List Expr}{fs:List De}
theorem qO{e:Expr}{f:Str}{env:Env}(h:qb e=true):z8R e f env (eval e env)=eval e env:=by
 cases e with
 |Call g args kws p=>
  cases g with
  |Name x p0=>
   have hx:(x != ("super":Str))=true:=h
   cases args<;>cases kws<;>first|rfl|(unfold z8R;simp[hx])
  |Attribute _ _ _=>rfl
  |_=>exact absurd (show false=true from h) z66
 |_=>first|exact absurd (show false=true from h) z66|rfl
theorem XDict.ext{D:DP}{fs:List (Nat×T)}{d:Option Addr}(x:XDict D φ α H fs d)(I:Inv X pins σ H s):∀dx,d=some dx->∃o,s.heap.get? dx=some o:=λdx e=>by
 subst e
 obtain⟨gs,_,_,e,_⟩:=x
 exact uT (I.hok dx _ e)
noncomputable def rdO (D:DP)(W:XW)(f:Dp):TO:=λσ H Q=>RdP D H σ λφ α τ μ=>Post D W φ α H σ (λo _ _ H'=>Q o H') (f τ μ)
theorem Um:PO X none (rdO D W pN):=by
 rintro pins s σ H Q I ⟨φ,α,τ,μ,sr,mr,p⟩
 exact YN pins s σ H Q I (Post.ok p (Stp.refl _ _) mr)
theorem Yt(h:PE X a (rdE D W f)):PO X (some a) (rdO D W (pS f)):=by
 rintro pins s σ H Q I ⟨φ,α,τ,μ,sr,mr,p⟩
 refine z0a h pins s σ H Q I ⟨φ,α,τ,μ,sr,mr,p.bind.mono λt μ' α' H' st m q v d=>?_⟩
 split at q
 ·cases d
  exact⟨_,rfl,q.ok (Stp.refl _ _) m⟩
 ·exact q.elim
theorem jU{ts:List T}{xs:List V}(l:DenL D φ α H ts xs)(lo hi:Option Int):DenL D φ α H (x_ ts lo hi) (yP xs lo hi):=by
 have e:ts.length=xs.length:=l.length
 have e1:∀n d o,Km n d o=HT.sIx n d o:=λn d o=>by cases o<;>rfl
 unfold x_ yP
 rw[e1,e1,e]
 exact (l.drop _).take _
theorem jJ{prog:z6f}{w:z6w}{A:z6e}{E:Value->z5D->Prop}{s:z5D}{t sl:Addr}{items:Array Value}{vl vu:Value}{lo hi:Option Int}{Q:Value->z5D->Prop}(ht:zch s.heap t items)(hs:s.heap.IsSliceOf sl vl vu .none)(pl:zaa vl lo)(pu:zaa vu hi)
  (hw:HT.sIx items.size 0 lo=0/\HT.sIx items.size items.size hi=items.size) (h:Q (.ref t) s):z5K (z5N prog w) A (zab (.ref t) (.ref sl)) Q E s:=by
 obtain⟨os,hos,hcs,hds⟩:=id hs
 have hTs:s.TypeIs (.ref sl) "slice":=⟨os,hos,hcs⟩
 unfold zab
 try with_reducible refine z60 ?_
 first|refine z5z (z5E ?_)|skip
 refine z5z (zbp ht.typeIs (by decide) ?_)
 refine z5z (z8t (name:=z6W "__getitem__") ht.typeIs z6P (z9V z6P ht.typeIs zaO ?_ (zb5 _ _)))
 show z5K _ _ (z9o (.ref t) >>= _) _ _ s
 refine z5z (tupleItemsOf_ ht ?_)
 refine z5z (z8B hTs ?_)
 rw[if_pos (by decide)]
 refine z5z (HT.sliceApplied_gen hs pl pu ?_)
 show z5K _ _ (if (((HT.sIx items.size 0 lo:Nat):Int) == 0&&(1:Int) == 1&&(HT.sIx items.size items.size hi-HT.sIx items.size 0 lo) == items.size)=true then _ else _) _ _ s
 rw[if_pos (by rw[hw.1,hw.2];simp)]
 refine z5z ?_
 unfold zcz
 refine z5z (z8B ht.typeIs (z5E ?_))
 rw[if_pos (by decide)]
 first
  |exact z5z (zad (z5E ⟨_,rfl,z5E h⟩))
  |exact z5z (zad (z5z (z5E (z5E ⟨_,rfl,z5E h⟩))))
theorem U4:SlR X (λx lo hi H Q=>∃a xs,x=.ref a/\SqT X.K H a xs/\(HT.sIx xs.length 0 lo=0/\HT.sIx xs.length xs.length hi=xs.length)/\Q (.ref a) H):=by
 intro pins s σ H x v vl vu lo hi sl Q I rx hs pl pu h
 obtain⟨a,xs,rfl,hx,hw,q⟩:=h
 cases rx
 obtain⟨its,r,ht,hz⟩:=I.tuple hx
 have hlen:its.toArray.size=xs.length:=by rw[z5W];exact r.length.symm
 exact⟨"tuple",_,z6P.lookup,ht.typeIs,jJ ht hs pl pu (by rw[hlen];exact hw) ⟨.ref a,H,I,rfl,q⟩⟩
theorem z2i:SlR X (λx lo hi H Q=>∃z,x=.str z/\z.length<=sizeLine/\Q (.str (Txt.slice z lo hi)) H):=by
 intro pins s σ H x v vl vu lo hi sl Q I rx hs pl pu h
 obtain⟨z,rfl,hz,q⟩:=h
 obtain⟨t0,rfl⟩:=rx
 refine⟨"str",_,F.slot_str_getitem.lookup,zcq _ _ _,?_⟩
 obtain⟨o,h1,h2,h3⟩:=hs
 have fin:∀(l u:Option (Int×Tok)),vl=partValue l->vu=partValue u->lo=l.map (·.1)->hi=u.map (·.1)->z5K (z5N X.prog X.w) X.A (zab (.str z t0) (.ref sl)) (EP X pins σ Q) X.xe s:=by
  rintro l u rfl rfl rfl rfl
  exact wpAny_getItem_str_slice (l:=l) (u:=u) (st:=none) ⟨o,h1,h2,h3⟩ rfl (post_val_or_str ⟨z62 (Txt.slice_le z _ _) hz,λt' k=>⟨.str _,H,I.tok _,⟨t',rfl⟩,q⟩⟩)
 cases pl with
 |none=>
  cases pu with
  |none=>exact fin none none rfl rfl rfl rfl
  |int j u=>exact fin none (some (j,u)) rfl rfl rfl rfl
 |int i t=>
  cases pu with
  |none=>exact fin (some (i,t)) none rfl rfl rfl rfl
  |int j u=>exact fin (some (i,t)) (some (j,u)) rfl rfl rfl rfl
theorem Xw{lo hi:Option Expr}{fo go:Dp}{p2:Pos}(ha:PE X a (rdE D W f))(hl:PO X lo (rdO D W fo))(hu:PO X hi (rdO D W go)):PE X (.Subscript a (.Slice lo hi none p2) pos) (rdE D W (eSl f fo go)):=by
 refine PE.mono (XO (z06.or (z35.or (U4.or z2i))) ha hl hu) ?_
 rintro σ H Q ⟨φ,α,τ,μ,sr,mr,p⟩
 refine⟨φ,α,τ,μ,sr,mr,p.bind.mono λt μ1 α1 H1 st m q v d=>?_⟩
 refine⟨φ,α1,τ,μ1,sr.step st,m,q.bind.mono λl μ2 α2 H2 st2 m2 q2=>?_⟩
 refine⟨φ,α2,τ,μ2,(sr.step st).step st2,m2,q2.bind.mono λu μ3 α3 H3 st3 m3 q3=>?_⟩
 unfold z4A at q3
 split at q3
 ·obtain⟨ad,xs,rfl,_,_,r,dl⟩:=(d.step st2).step st3
  refine .inl ⟨ad,xs,rfl,.inl r,λz hz=>?_⟩
  exact q3.fresh m3 (zj hz) ⟨z,_,rfl,zp m3 hz,zq m3 hz,.inl zd,jU (dl.step (Stp.new (zj hz))) _ _⟩
 ·obtain⟨ad,xs,rfl,n1,n2,r,dl⟩:=(d.step st2).step st3
  by_cases hw:HT.sIx xs.length 0 l=0/\HT.sIx xs.length xs.length u=xs.length
  ·refine .inr (.inr (.inl ⟨ad,xs,rfl,.inl r,hw,?_⟩))
   have e:yP xs l u=xs:=by unfold yP;rw[hw.1,hw.2];simp
   have dd:=jU dl l u
   rw[e] at dd
   exact q3.here m3 ⟨ad,xs,rfl,n1,n2,r,dd⟩
  ·refine .inr (.inl ⟨ad,xs,rfl,.inl r,hw,λz hz=>?_⟩)
   exact q3.fresh m3 (zj hz) ⟨z,_,rfl,zp m3 hz,zq m3 hz,.inl zd,jU (dl.step (Stp.new (zj hz))) _ _⟩
 ·obtain⟨hz,q3⟩:=q3.grd
  have d:v=.str _:=d
  subst d
  exact .inr (.inr (.inr ⟨_,rfl,zI hz,q3.here m3 rfl⟩))
 ·obtain⟨ts,hj,q3⟩:=q3.ex1
  obtain⟨ad,hi',rfl⟩:=(d.step st2).step st3
  obtain⟨xs,e2,dl⟩:=m3.ob _ ad _ hi' hj
  refine .inl ⟨ad,xs,rfl,.inl (.inl e2),λz hz=>?_⟩
  exact Post.fresh q3 m3 (zj hz) ⟨z,_,rfl,zp m3 hz,zq m3 hz,.inl zd,jU (dl.step (Stp.new (zj hz))) _ _⟩
 ·exact q3.elim
theorem xC{g:Fn}{fa:Addr}{fd:FuncData}{ps:List Str}{kk:Nat}{us:List Value}{vs:List V}{ts:List T}{Q:VK}(C:Ck D W Γ X k)(F:FnOk X.prog X.w X.K X.mg X.base (CX1 X.prog X.w) kk fa fd ps (spN D ps.length g))
  (hr:Room kk X.A) (hb:Binds X.K fd ps []) (har:∀ts μ K Z,g ts μ K Z->ts.length=ps.length) (I:Inv X pins σ H s) (r:Vals vs us) (mr:MRel D φ α H μ) (d:DenL D φ α H ts vs) (p:Post D W φ α H σ (RV D φ Q) (g ts μ)) :
  z5K (z5N X.prog X.w) X.A (call (.ref fa) us) (EP X pins σ Q) X.xe s:=by
 obtain⟨K,Z,q,hq,hz⟩:=p
 have hl:ts.length=ps.length:=har ts μ K Z q
 have sp:spN D ps.length g vs H Q (λc d H'=>W c d σ H'):=⟨by rw[←d.length];exact hl,φ,α,ts,μ,d,mr,K,Z,q,hq,hz⟩
 have hl2:us.length=ps.length:=by rw[←r.length,←d.length];exact hl
 refine z73 (z76 (F.run X.A X.stack s H ⟨us,[]⟩ us vs Q (λc d H'=>W c d σ H') hr I.env0 (by simpa using hb s us I.kIn (by simpa using hl2)) r sp) λr s' hq=>?_)
 cases r with
 |error e=>exact C.xe e s' (vP (E:=λc d H'=>W c d σ H') I hq λcls d H' w=>w)
 |ok fl=>
  cases fl with
  |ret u=>exact I.after hq
  |next=>exact z69 hq
  |brk=>exact z69 hq
  |cont=>exact z69 hq
theorem UB(C:Ck D W Γ X k){x:Str}{g:Fn}{p0:Pos}(hx:x∈Γ.G)(hg:Γ.gl x=.fn g)(hc:Γ.calm=true)(ha:EsOk X D W es fs):PE X (.Call (.Name x p0) es [] pos) (rdE D W (zf g fs)):=by
 have q:=C.glo x hx
 rw[hg] at q
 obtain⟨fa,hm,fd,ps,kk,hk,hb,hkk,Fn,har⟩:=q
 have hr:=(C.rom hc).mono hkk
 have hs:=ha.stars
 have pa:=qX ha
 rintro pins s σ H Q I ⟨φ,α,τ,μ,sr,mr,p⟩
 refine z6F (wb I (C.glb x hx) hm ?_ (C.dbG x hx))
 cases es with
 |nil=>
  cases fs with
  |nil=>exact z7z I.kIn hk (xC (ts:=[]) C Fn hr hb har I .nil mr rfl p)
  |cons f fs=>exact ha.elim
 |cons e es=>
  simp only[z6s,z5B] at hs
  refine z6S (h₀:=X.base) I.ok.mod.kin hk (thn (VZ pa I sr mr p) ?_) (z8 hs.1) (q9 hs.2)
  rintro us s1 ⟨vs,H1,ts,μ1,α1,I1,r1,st1,sr1,mr1,d1,_,p1⟩
  exact⟨I1.kIn,xC C Fn hr hb har I1 r1 mr1 d1 p1⟩
theorem run_mk{c:Nat}{g:Fn}{C0 fI:Addr}{fd:FuncData}{ps:List Str}{kk:Nat}{us:List Value}{vs:List V}{ts:List T}{Q:VK}(C:Ck D W Γ X k)(ad:D.cad c=some C0)(M:Mk X.K C0 fI)(F:FnOk X.prog X.w X.K X.mg X.base (CX1 X.prog X.w) kk fI fd ps (spN D ps.length g))
  (hr:Room (kk+1) X.A) (hb:Binds X.K fd ps []) (har:∀ts μ K Z,g ts μ K Z->ts.length=ps.length) (I:Inv X pins σ H s) (r:Vals vs us) (mr:MRel D φ α H μ) (d:DenL D φ α H ts vs) (p:Post D W φ α H σ (RV D φ Q) (Qo c g ts μ)) :
  z5K (z5N X.prog X.w) X.A (call (.ref C0) us) (EP X pins σ Q) X.xe s:=by
 obtain⟨K,Z,⟨hp,hg⟩,hk,hz⟩:=p
 have hl:(T.mut 0::ts).length=ps.length:=har _ _ _ _ hg
 have hq:∀x dx,H x=none->H dx=none->dx≠x->spN D ps.length g (.ref x::(vs++[])) (upd (upd H dx (.own x)) x (.ins C0 dx [])) (λv H2=>v=.non/\Q (.ref x) H2) (λc d H'=>W c d σ H'):=by
  intro x dx hx hdx hne
  have sm:vZ H (upd (upd H dx (.own x)) x (.ins C0 dx [])):=λb o e=>by rw[za (zS e hx),za (zS e hdx)];exact e
  have st0:Stp [] H [x] (upd (upd H dx (.own x)) x (.ins C0 dx [])):=⟨⟨[x],rfl,λb hb'=>by rw[z5J.mp hb'];exact hx⟩,λb o _ e=>sm b o e,λb e=>by
   cases q:H b with
   |none=>rfl
   |some o=>rw[sm b o q] at e;cases e⟩
  have nx:x∉φ++α:=λz=>(z5Q.mp z).elim (zp mr hx) (zq mr hx)
  have ph:∀b∈φ++α,∃o,H b=some o/\noF o=true:=λb hb'=>(z5Q.mp hb').elim (mr.phi b) λz=>by
   obtain⟨i,hi⟩:=z6C.mp z
   have hl':i<μ.length:=by rw[←mr.len];exact (z5A.mp hi).1
   exact (mr.ob i b μ[i] hi (by simp[hl'])).some
  refine⟨by simp only[z68,z6n] at hl ⊢;rw[←d.length];exact hl,φ++α,[x],.mut 0::ts,[.obj c []],⟨.ref x,vs++[],rfl,⟨x,rfl,rfl⟩,by rw[z6n];exact (DenL.hide hp d z09).step st0⟩,⟨rfl,by simp,λb hb'=>by rw[z5J.mp hb'];exact nx,λb hb'=>let ⟨o,e,n⟩:=ph b hb';⟨o,sm b o e,n⟩,λi a o e1 e2=>?_⟩,?_⟩
  ·cases i with
   |zero=>simp at e1 e2;subst e1 e2;exact⟨C0,dx,[],ad,zd,rfl⟩
   |succ i=>simp at e1
  have back:∀{α2:List Addr} {H3:Hp},Stp [x] (upd (upd H dx (.own x)) x (.ins C0 dx [])) α2 H3->vZ H H3:=λst b o e=>st.keep b o (λz=>by rw[z5J.mp z,hx] at e;cases e) (sm b o e)
  refine⟨_,_,hg,?_,?_⟩
  ·rintro t μ2 ⟨rfl,fs,h0,hpf,q⟩ α2 H3 st m v dv
   refine⟨dv,?_⟩
   obtain⟨β,rfl,_⟩:=st.ext
   obtain⟨C1,dx1,gs,ad1,e1,lf⟩:=m.ob 0 x _ rfl h0
   have sm3:=back st
   exact hk _ _ q α H3 (Stp.new sm3) (mr.new sm3) _ ⟨x,C1,dx1,gs,rfl,zp mr hx,zq mr hx,ad1,e1,DenF.hide hpf lf Qz⟩
  ·rintro e fs μ2 ⟨hpf,q⟩ α2 H3 C1 d1 st m had xd
   have sm3:=back st
   exact hz _ _ _ q α H3 C1 d1 (Stp.new sm3) (mr.new sm3) had (XDict.hide hpf xd Qz)
 have hq1:=hq (s.heap.objs.size+1) s.heap.objs.size (I.hok.fresh (z7r _)) (I.hok.fresh (z5H _)) (z5Z (z6G _))
 have I2:=Inv.made (C:=C0) I
 have r2:Vals (V.ref (s.heap.objs.size+1)::(vs++[])) (z61 (s.heap.objs.size+1)::us):=.cons rfl (by rw[z6n];exact r)
 have hlu:(z61 (s.heap.objs.size+1)::us++[]).length=ps.length:=by
  rw[z6n,z68,←r.length,←d.length]
  exact hl
 refine z73 (yn (f:=fI) I.kIn M.makes M.init (beq_iff_eq.mp M.fn) (z76 (F.run _ X.stack _ _ ⟨z61 (s.heap.objs.size+1)::us,[]⟩ (z61 (s.heap.objs.size+1)::us) _ _ (λc d H'=>W c d σ H') (hr.make C0 us [])
  (I2.env0.make C0 us []) (by simpa using hb _ (z61 (s.heap.objs.size+1)::us) I2.kIn hlu) r2 hq1) λr s' hq'=>?_))
 cases r with
 |error e=>exact C.xe e s' (vP (E:=λc d H'=>W c d σ H') I2 hq' λcls d H' w=>w)
 |ok fl=>
  cases fl with
  |ret u=>
   obtain⟨v,H',I3,rv,ev,q3⟩:=I2.after hq'
   subst ev
   exact⟨rv,⟨V.ref (s.heap.objs.size+1),H',I3,rfl,q3⟩⟩
  |next=>exact z69 hq'
  |brk=>exact z69 hq'
  |cont=>exact z69 hq'
theorem U2(C:Ck D W Γ X k){x:Str}{c:Nat}{g:Fn}{p0:Pos}(hx:x∈Γ.G)(hg:Γ.gl x=.mk c true g)(hc:Γ.calm=true)(ha:EsOk X D W es fs):PE X (.Call (.Name x p0) es [] pos) (rdE D W (eMk c g fs)):=by
 have q:=C.glo x hx
 rw[hg] at q
 obtain⟨C0,fI,fd,ps,kk,ad,hm,M,hb,hkk,Fn,har⟩:=q
 have hr:=(C.rom hc).mono hkk
 have hs:=ha.stars
 have pa:=qX ha
 rintro pins s σ H Q I ⟨φ,α,τ,μ,sr,mr,p⟩
 refine z6F (wb I (C.glb x hx) hm ?_ (C.dbG x hx))
 cases es with
 |nil=>
  cases fs with
  |nil=>exact z7z I.kIn M.kp (run_mk (ts:=[]) C ad M Fn hr hb har I .nil mr rfl p)
  |cons f fs=>exact ha.elim
 |cons e es=>
  simp only[z6s,z5B] at hs
  refine z6S (h₀:=X.base) I.ok.mod.kin M.kp (thn (VZ pa I sr mr p) ?_) (z8 hs.1) (q9 hs.2)
  rintro us s1 ⟨vs,H1,ts,μ1,α1,I1,r1,st1,sr1,mr1,d1,_,p1⟩
  exact⟨I1.kIn,run_mk C ad M Fn hr hb har I1 r1 mr1 d1 p1⟩
theorem z1L(C:Ck D W Γ X k){x:Str}{n:Nat}(hp:qb a=true)(hn:(x,n)∈Γ.fld)(ha:PE X a (rdE D W f)):PE X (.Attribute a x pos) (rdE D W (zm f n)):=by
 refine PE.mono (z1p ha (qO hp)) ?_
 rintro σ H Q ⟨φ,α,τ,μ,sr,mr,p⟩
 refine⟨φ,α,τ,μ,sr,mr,p.bind.mono λt μ1 α1 H1 st m q v d=>?_⟩
 unfold yC at q
 split at q
 ·split at q
  ·rename_i c fs _ w hw
   obtain⟨ad,C0,dx,gs,rfl,_,_,e1,e2,l⟩:=d
   obtain⟨y,z,hy,hz,dz⟩:=l.look hw
   obtain⟨c0,c1,c2⟩:=C.fld c C0 x n e1 hn
   rw[hy] at c0;cases c0
   exact⟨ad,C0,dx,gs,z,rfl,e2,c1,c2,hz,q.here m dz⟩
  ·exact q.elim
 ·obtain⟨c,fs,w,hi,hw,q⟩:=q.ex3
  obtain⟨ad,hi',rfl⟩:=d
  obtain⟨C0,dx,gs,e1,e2,l⟩:=m.ob _ ad _ hi' hi
  obtain⟨y,z,hy,hz,dz⟩:=l.look hw
  obtain⟨c0,c1,c2⟩:=C.fld c C0 x n e1 hn
  rw[hy] at c0;cases c0
  exact⟨ad,C0,dx,gs,z,rfl,e2,c1,c2,hz,Post.here q m dz⟩
 ·exact q.elim
end
section
variable {X:Cx}{D:DP}{W:XW}{Γ:Cn}{k:Nat}{pins:List (Addr×Obj)}{s:Shared}{σ:St}{H:Hp}{φ α:List Addr}{τ:Sl}{μ:Mem}{f g h:De}{a b c:Expr}{pos:Pos}{es:List Expr}
theorem VO{B:Prop}(C:Ck D W Γ X k){c:Nat}{C0 dx ad:Addr}{gs:List (Str×V)}(I:Inv X pins σ H s)(e1:D.cad c=some C0)(ea:H ad=some (.ins C0 dx gs))
  (hh:∀tv P,QP D c tv->zae X.K (.ref ad) tv P->P s.heap->(z61 ad)≠.builtin "__main__.__loader__#opaque"->B):B:=by
 have o:=C.ocx c C0 e1
 obtain⟨mA,O,_⟩:=jR I.hok ea
 obtain⟨od,J,_⟩:=O.look
 exact hh _ _ (.inr (.inr (.inr (.inr (.inr (.inr (.inr (.inr ⟨C0,e1,rfl⟩)))))))) (PySem.W.kitx_own (o.cl.get _) o.cl.hd o.fi o.sp o.tk o.ob) J (λz=>nomatch z)
theorem z2c{B:Prop}(C:Ck D W Γ X k){t:T}{v:V}{u:Value}{n:Nat}(I:Inv X pins σ H s)(d:Den D φ α H t v)(r:RelV v u)(ht:tyN t μ=some n)
  (hh:∀tv P,QP D n tv->zae X.K u tv P->P s.heap->u≠.builtin "__main__.__loader__#opaque"->B):B:=by
 cases t with
 |non=>cases d;cases r;cases ht;exact hh _ _ (.inl ⟨rfl,rfl⟩) PySem.W.kitx_none z7f (λz=>nomatch z)
 |bl b=>cases d;cases r;cases ht;exact hh _ _ (.inr (.inl ⟨rfl,rfl⟩)) PySem.W.kitx_bool z7f (λz=>nomatch z)
 |int i=>cases d;obtain⟨t,rfl⟩:=r;cases ht;exact hh _ _ (.inr (.inr (.inl ⟨rfl,rfl⟩))) PySem.W.kitx_int z7f (λz=>nomatch z)
 |str i=>cases d;obtain⟨t,rfl⟩:=r;cases ht;exact hh _ _ (.inr (.inr (.inr (.inl ⟨rfl,rfl⟩)))) PySem.W.kitx_str z7f (λz=>nomatch z)
 |tup ts=>
  obtain⟨ad,xs,rfl,_,_,q,_⟩:=d;cases r;cases ht
  obtain⟨its,_,⟨o,h1,h2,_⟩,_⟩:=I.tuple (.inl q)
  exact hh _ _ (.inr (.inr (.inr (.inr (.inl ⟨rfl,rfl⟩))))) PySem.W.kitx_tuple ⟨o,h1,h2⟩ (λz=>nomatch z)
 |lst ts=>
  obtain⟨ad,xs,rfl,_,_,q,_⟩:=d;cases r;cases ht
  obtain⟨its,_,p,_⟩:=I.list (.inl q)
  obtain⟨o,h1,h2,_⟩:=p.isList
  exact hh _ _ (.inr (.inr (.inr (.inr (.inr (.inl ⟨rfl,rfl⟩)))))) zbv ⟨o,h1,h2⟩ (λz=>nomatch z)
 |exc c fs=>
  obtain⟨ad,C0,dd,rfl,_,_,e1,e2,xd⟩:=d;cases r;cases ht
  have hx:=C.xcx n C0 e1
  obtain⟨p,_⟩:=(show ObjOk X.prog X.w H s.heap ad (.ext (yR ad C0 dd)) from I.hok ad _ e2)
  have xd:XDict D φ α H fs dd:=by cases dd<;>exact xd
  exact hh _ _ (.inr (.inr (.inr (.inr (.inr (.inr (.inl ⟨C0,e1,rfl⟩))))))) (Kp hx) ⟨p,xd.ext I⟩ (λz=>nomatch z)
 |dic kvs=>
  obtain⟨ad,gs,rfl,_,_,e,_⟩:=d;cases r;cases ht
  obtain⟨_,_,vs,_,dd⟩:=(show ObjOk X.prog X.w H s.heap ad (.dK gs) from I.hok ad _ e)
  exact hh _ _ (.inr (.inr (.inr (.inr (.inr (.inr (.inr (.inl ⟨rfl,rfl⟩)))))))) z9F dd.typeIs (λz=>nomatch z)
 |obj c fs=>
  obtain⟨ad,C0,dx,gs,rfl,_,_,e1,e2,l⟩:=d;cases r;cases ht
  exact VO C I e1 e2 hh
 | «mut» i=>cases ht
 |clo j cs=>cases ht
theorem YJ{B:Prop}(C:Ck D W Γ X k){i:Nat}{v:V}{u:Value}{o:MO}(I:Inv X pins σ H s)(mr:MRel D φ α H μ)(d:Den D φ α H (.mut i) v)(r:RelV v u)(ht:μ[i]?=some o)(hnt:z0M o=false)
  (hh:∀tv P,QP D (tyO o) tv->zae X.K u tv P->P s.heap->u≠.builtin "__main__.__loader__#opaque"->B):B:=by
 obtain⟨ad,hi,rfl⟩:=d
 cases r
 have dd:=mr.ob i ad o hi ht
 cases o with
 |lst ts=>
  obtain⟨xs,q,_⟩:=dd
  obtain⟨its,_,p,_⟩:=I.list (.inl (.inl q))
  obtain⟨o,h1,h2,_⟩:=p.isList
  exact hh _ _ (.inr (.inr (.inr (.inr (.inr (.inl ⟨rfl,rfl⟩)))))) zbv ⟨o,h1,h2⟩ (λz=>nomatch z)
 |obj c fs=>
  obtain⟨C0,dx,gs,e1,e2,l⟩:=dd
  exact VO C I e1 e2 hh
 |dic kvs=>
  obtain⟨gs,e,_⟩:=dd
  obtain⟨_,_,vs,_,dd⟩:=(show ObjOk X.prog X.w H s.heap ad (.dK gs) from I.hok ad _ e)
  exact hh _ _ (.inr (.inr (.inr (.inr (.inr (.inr (.inr (.inl ⟨rfl,rfl⟩)))))))) z9F dd.typeIs (λz=>nomatch z)
 |tab j=>cases hnt
 |dct ks=>
  obtain⟨xs,_,_,_,_,q,_⟩:=dd
  obtain⟨⟨o,es,ep,h1,h2,_⟩,_⟩:=(show ObjOk X.prog X.w H s.heap ad (.ext (z0F ad xs)) from I.hok ad _ q)
  exact hh _ _ (.inr (.inr (.inr (.inr (.inr (.inr (.inr (.inl ⟨rfl,rfl⟩)))))))) z9F ⟨o,h1,h2.1⟩ (λz=>nomatch z)
theorem VG{B:Prop}(C:Ck D W Γ X k){t:T}{v:V}{u:Value}{cs:List Nat}{Q:VK}(I:Inv X pins σ H s)(mr:MRel D φ α H μ)(d:Den D φ α H t v)(r:RelV v u)(q:Post D W φ α H σ (RV D φ Q) (XE cs t μ))
  (hh:∀n tv P,Post D W φ α H σ (RV D φ Q) (.ok (.bl (isAny n cs)) μ)->QP D n tv->zae X.K u tv P->P s.heap->u≠.builtin "__main__.__loader__#opaque"->B):B:=by
 unfold XE at q
 split at q
 ·obtain⟨o,ho,q⟩:=q.som
  rcases q.br with⟨_,q⟩|⟨hb,q⟩
  ·exact q.elim
  ·exact YJ C I mr d r ho hb λtv P=>hh _ tv P q
 ·split at q
  ·rename_i tn htn
   exact z2c C I d r htn λtv P=>hh _ tv P q
  ·exact q.elim
noncomputable def vp(Γ:Cn):List Expr->Option (List Nat)
 |[]=>some []
 |e::r=>match e with
  |.Name x _=>if (idx Γ.N x).isNone&&Γ.G.contains x then (match Γ.cls.lookup x with
   |some c=>(vp Γ r).map (c::·)
   |none=>none) else none
  |_=>none
noncomputable def yE(Γ:Cn)(e:Expr):Option (List Nat):=match e with
 |.Name _ _=>vp Γ [e]
 |.Tuple es _ _=>if decide (es.length<=room) then vp Γ es else none
 |_=>none
theorem lookup_mem{β:Type}{x:Str}{v:β}:∀{l:List (Str×β)},l.lookup x=some v->(x,v)∈l
 |[],h=>by cases h
 |(y,w)::r,h=>by
  rw[z6b] at h
  cases q:x == y with
  |true=>rw[q] at h;cases h;rw[beq_iff_eq.mp q];exact z5_
  |false=>rw[q] at h;exact z5M _ (lookup_mem h)
theorem z1S(C:Ck D W Γ X k){x:Str}{c:Nat}(hc:x∈Γ.G)(hl:(x,c)∈Γ.cls):∃u v,Xe X x u/\ClsV v u/\∀p0,PE X (.Name x p0) (tC v):=by
 obtain⟨u,v,cv,r⟩:=C.clv x c hl
 refine⟨u,v,cv,r,λp0=>?_⟩
 rcases cv with h|⟨h,hb,hn⟩
 ·exact Vu (C.glb x hc) h r.rel (C.dbG x hc)
 ·exact U6 (C.glb x hc) h hb r.rel hn (C.dbG x hc)
theorem ZF(C:Ck D W Γ X k):∀{es:List Expr} {cs:List Nat},vp Γ es=some cs->∃us vs,(∀us',Vals vs us'->us'=us)/\vs.length=es.length/\es.all noStar=true/\PA X es (λ_ H Q=>Q vs H)/\∀t tv,QP D t tv->zaE X.K tv us=some (isAny t cs)
 |[],cs,h=>by
  simp[vp] at h;subst h
  exact⟨[],[],λus' r=>by cases r;rfl,rfl,rfl,λpos pins s σ H Q I q=>qx pos pins s σ H Q I q,λt tv _=>rfl⟩
 |e::es,cs,h=>by
  unfold vp at h
  split at h
  ·rename_i x p0
   split at h
   ·rename_i hc
    simp only[z5B,z6a] at hc
    split at h
    ·rename_i c hl
     cases hr:vp Γ es with
     |none=>rw[hr] at h;cases h
     |some cs'=>
      rw[hr] at h
      cases h
      have hm:=lookup_mem hl
      obtain⟨us,vs,rv,hl,hs,hp,hk⟩:=ZF C hr
      obtain⟨u,v,cv,r,pe⟩:=z1S C hc.2 hm
      refine⟨u::us,v::vs,λus' q=>by cases q with|cons q1 q2=>rw[r.only q1,rv _ q2],by simp[hl],by simp[noStar,hs],λpos pins s σ H Q I q=>zN (pe p0) hp (z8 rfl) pos pins s σ H Q I q,λt tv ht=>?_⟩
      have k1:=C.isi t x c hm tv u ht cv
      have k2:=hk t tv ht
      unfold zaE
      rw[k1]
      rw[vz]
      cases hb:qp t c with
      |true=>rfl
      |false=>exact k2
    ·cases h
   ·cases h
  ·cases h
theorem z17 (C:Ck D W Γ X k) {cs:List Nat} {p0:Pos} (hx:("isinstance":Str)∈Γ.G) (hg:Γ.gl "isinstance"=.none) (hs:noStar a=true) (hcs:yE Γ c=some cs) (ha:PE X a (rdE D W f)):PE X (.Call (.Name "isinstance" p0) [a,c] [] pos) (rdE D W (Zb cs f)):=by
 have hm:=C.glo _ hx
 rw[hg] at hm
 rintro pins s σ H Q I ⟨φ,α,τ,μ,sr,mr,p⟩
 refine z6F (we I (C.glb _ hx) hm boot_isinstance ?_ (by decide) (C.dbG _ hx))
 unfold yE at hcs
 split at hcs
 ·rename_i cn pc
  obtain⟨us0,vs0,hu,hl,hst,hp,hk⟩:=ZF C hcs
  refine z6T (thn (zN ha hp (z8 hs) pos pins s σ H (λvs H1=>∃v t μ1 α1,vs=v::vs0/\Stp α H α1 H1/\MRel D φ α1 H1 μ1/\Den D φ α1 H1 t v/\Post D W φ α1 H1 σ (RV D φ Q) (XE cs t μ1)) I ⟨φ,α,τ,μ,sr,mr,p.bind.mono λt μ' α' H' st m q v d=>⟨v,t,μ',α',rfl,st,m,d,q⟩⟩) ?_) (z8 hs) (q9 (by rfl))
  rintro us s1 ⟨vs,H1,I1,rv,v,t,μ1,α1,rfl,st,m,d,q⟩
  cases rv with
  | @cons _ u _ us' r1 r2=>
  obtain rfl:=hu us' r2
  have hlu:us'.length=1:=by rw[←r2.length];exact hl
  match us',hlu with
  |[uc],_=>
  refine VG C I1 m d r1 q λtn tv P q ht kx hP hne=>?_
  have kk:=hk tn tv ht
  have k1:z9q X.K tv uc=some (isAny tn cs):=by
   unfold zaE at kk
   split at kk
   ·rename_i hb;rw[hb];exact kk
   ·rename_i hb;rw[hb];exact kk
   ·cases kk
  exact PySem.W.kia_one kx I1.kIn hP k1 hne λtk=>⟨.bl _,H1,I1.tok tk,rfl,q.here m rfl⟩
 ·rename_i ees kk pc
  split at hcs
  case isFalse=>cases hcs
  rename_i hlen
  obtain⟨us0,vs0,hu,hl,hst,hp,hk⟩:=ZF C hcs
  refine z6T (thn (zN ha (zN (JW hp) qx (z8 rfl)) (z8 hs) pos pins s σ H (λvs H2=>∃v tp H1 t μ1 α1,vs=[v,.ref tp]/\H1 tp=none/\H2=upd H1 tp (.tup vs0)/\Stp α H α1 H1/\MRel D φ α1 H1 μ1/\Den D φ α1 H1 t v/\Post D W φ α1 H1 σ (RV D φ Q) (XE cs t μ1)) I ⟨φ,α,τ,μ,sr,mr,p.bind.mono λt μ' α' H' st m q v d=>⟨by rw[hl];exact zI (by simpa using hlen),λtp htp=>⟨v,tp,H',t,μ',α',rfl,htp,rfl,st,m,d,q⟩⟩⟩) ?_) (z8 hs) (q9 (by rfl))
  rintro us s1 ⟨vs,H2,I1,rv,v,tp,H1,t,μ1,α1,rfl,htp,rfl,st,m,d,q⟩
  obtain⟨u,ut,rfl,r1,r2⟩:=vals2 rv
  have r2:ut=z61 tp:=r2
  subst r2
  have sm:vZ H1 (upd H1 tp (.tup vs0)):=zj htp
  refine VG C I1 (m.new sm) (d.step (Stp.new sm)) r1 (q.step (Stp.new sm)) λtn tv P q ht kx hP hne=>?_
  obtain⟨_,its,rvs,⟨o,ho,hcl,n,hd⟩⟩:=(show ObjOk X.prog X.w _ s1.heap tp (.tup vs0) from I1.hok tp _ zd)
  obtain rfl:=hu its rvs
  obtain⟨oc,odd,odt,osl⟩:=o
  simp only at hcl hd
  subst hcl hd
  exact PySem.W.kia_tup kx I1.kIn hP ho (hk tn tv ht) hne λtk=>⟨.bl _,_,I1.tok tk,rfl,q.here (m.new sm) rfl⟩
 ·cases hcs
end
section
variable {X:Cx}{D:DP}{W:XW}{Γ:Cn}{k:Nat}{pins:List (Addr×Obj)}{s:Shared}{σ:St}{H:Hp}{φ α:List Addr}{τ:Sl}{μ:Mem}{f g h:De}{a b c:Expr}{pos:Pos}{es:List Expr}
noncomputable def B1 (X:Cx)(D:DP)(W:XW)(fv:Value)(op:T->Mem->RE T):Prop:=
 ∀(pins:List (Addr×Obj)) (s:z5D) (σ:St) (H:Hp) (φ α:List Addr) (μ:Mem) (t:T) (v:V) (u:Value) (Q:VK),Inv X pins σ H s->MRel D φ α H μ->Den D φ α H t v->RelV v u->Post D W φ α H σ (RV D φ Q) (op t μ)->
  z5K (z5N X.prog X.w) X.A (call fv [u]) (EP X pins σ Q) X.xe s
theorem uq (C:Ck D W Γ X k) {x:Str} {id:String} {op:T->Mem->RE T} {p0:Pos} (hx:x∈Γ.G) (hg:Γ.gl x=.none) (hv:z6U x=some (.builtin id)) (hn:x≠"__name__") (hs:noStar a=true) (hb:B1 X D W (.builtin id) op) (ha:PE X a (rdE D W f)) :
  PE X (.Call (.Name x p0) [a] [] pos) (rdE D W (eB1 op f)):=by
 have hm:=C.glo _ hx
 rw[hg] at hm
 rintro pins s σ H Q I ⟨φ,α,τ,μ,sr,mr,p⟩
 refine z6F (we I (C.glb _ hx) hm hv ?_ hn (C.dbG _ hx))
 refine z6T (thn (zN ha qx (z8 hs) pos pins s σ H (λvs H1=>∃v t μ1 α1,vs=[v]/\Stp α H α1 H1/\MRel D φ α1 H1 μ1/\Den D φ α1 H1 t v/\Post D W φ α1 H1 σ (RV D φ Q) (op t μ1)) I ⟨φ,α,τ,μ,sr,mr,p.bind.mono λt μ' α' H' st m q v d=>⟨v,t,μ',α',rfl,st,m,d,q⟩⟩) ?_) (z8 hs) (q9 (by rfl))
 rintro us s1 ⟨vs,H1,I1,rv,v,t,μ1,α1,rfl,st,m,d,q⟩
 obtain⟨u,rfl,r1⟩:=vals1 rv
 exact hb pins s1 σ H1 φ α1 μ1 t v u Q I1 m d r1 q
theorem z4M (C:Ck D W Γ X k) {x:Str} {id:String} {op:T->Mem->RE T} {p0:Pos} (hx:x∈Γ.G) (hg:Γ.gl x=.none) (hv:z6U x=some (.type id)) (hn:x≠"__name__") (hs:noStar a=true) (hb:B1 X D W (.type id) op) (ha:PE X a (rdE D W f)) :
  PE X (.Call (.Name x p0) [a] [] pos) (rdE D W (eB1 op f)):=by
 have hm:=C.glo _ hx
 rw[hg] at hm
 rintro pins s σ H Q I ⟨φ,α,τ,μ,sr,mr,p⟩
 refine z6F (we I (C.glb _ hx) hm hv ?_ hn (C.dbG _ hx))
 refine z77 (thn (zN ha qx (z8 hs) pos pins s σ H (λvs H1=>∃v t μ1 α1,vs=[v]/\Stp α H α1 H1/\MRel D φ α1 H1 μ1/\Den D φ α1 H1 t v/\Post D W φ α1 H1 σ (RV D φ Q) (op t μ1)) I ⟨φ,α,τ,μ,sr,mr,p.bind.mono λt μ' α' H' st m q v d=>⟨v,t,μ',α',rfl,st,m,d,q⟩⟩) ?_) (z8 hs) (q9 (by rfl))
 rintro us s1 ⟨vs,H1,I1,rv,v,t,μ1,α1,rfl,st,m,d,q⟩
 obtain⟨u,rfl,r1⟩:=vals1 rv
 exact hb pins s1 σ H1 φ α1 μ1 t v u Q I1 m d r1 q
theorem z4I:B1 X D W (.builtin "len") ja:=by
 intro pins s σ H φ α μ t v u Q I mr d r p
 unfold ja at p
 split at p
 ·obtain⟨ad,xs,rfl,_,_,q,l⟩:=d
  exact ve pins s σ H _ _ Q I (.cons r .nil) ⟨ad,xs,rfl,.inl (.inl q),by rw[←l.length];exact p.here mr rfl⟩
 ·obtain⟨ad,xs,rfl,_,_,q,l⟩:=d
  exact ve pins s σ H _ _ Q I (.cons r .nil) ⟨ad,xs,rfl,.inr (.inl q),by rw[←l.length];exact p.here mr rfl⟩
 ·cases d
  obtain⟨hl,p⟩:=p.grd
  exact ZN pins s σ H _ _ Q I (.cons r .nil) ⟨_,rfl,zI hl,p.here mr rfl⟩
 ·obtain⟨ts,hj,p⟩:=p.ex1
  obtain⟨ad,hi,rfl⟩:=d
  obtain⟨xs,q,l⟩:=mr.ob _ ad _ hi hj
  exact ve pins s σ H _ _ Q I (.cons r .nil) ⟨ad,xs,rfl,.inl (.inl (.inl q)),by rw[←l.length];exact Post.here p mr rfl⟩
 ·exact p.elim
theorem vn{p:Addr}{o:HO}(hp:H p=none):Stp α H (α++[p]) (upd H p o):=⟨⟨[p],rfl,by simpa using hp⟩,λb u _ e=>zj hp b u e,λb e=>by
 by_cases z:b=p
 ·rw[z,zd] at e;cases e
 ·rw[za z] at e;exact e⟩
theorem MRel.lay{p:Addr}{ts:List T}{vs:List V}(m:MRel D φ α H μ)(hp:H p=none)(l:DenL D φ α H ts vs):MRel D φ (α++[p]) (upd H p (.lst vs)) (μ++[.lst ts]):=by
 have st:Stp α H (α++[p]) (upd H p (.lst vs)):=vn hp
 have hl:=m.len
 refine⟨by simp[hl],?_,λb hb=>?_,λb hb=>?_,λi a o e1 e2=>?_⟩
 ·rw[z7U]
  refine⟨m.nd,by simp,λa ha b hb=>?_⟩
  rw[z5J.mp hb]
  intro z
  exact zq m hp (z▸ha)
 ·rcases z5Q.mp hb with h|h
  ·exact m.dis b h
  ·rw[z5J.mp h];exact zp m hp
 ·obtain⟨u,e,n⟩:=m.phi b hb
  exact⟨u,zj hp b u e,n⟩
 ·by_cases hi:i<α.length
  ·rw[z5I hi] at e1
   rw[z5I (by omega)] at e2
   have d:=m.ob i a o e1 e2
   obtain⟨u,q,_⟩:=d.some
   exact d.step st ((zj hp _ _ q).trans q.symm)
  ·rw[z5U (by omega)] at e1 e2
   have hi':i-α.length=0:=by
    by_cases z:i-α.length=0
    ·exact z
    ·rw[z8K (by simp;omega)] at e1;cases e1
   have hi2:i-μ.length=0:=by omega
   rw[hi'] at e1
   rw[hi2] at e2
   have e1:some p=some a:=e1
   have e2:some (MO.lst ts)=some o:=e2
   cases e1;cases e2
   exact⟨vs,zd,l.step st⟩
theorem Post.lay{Q:VK}{p:Addr}{ts:List T}{vs:List V}(q:Post D W φ α H σ (RV D φ Q) (.ok (.mut μ.length) (μ++[.lst ts])))(m:MRel D φ α H μ)(hp:H p=none)(l:DenL D φ α H ts vs):Q (.ref p) (upd H p (.lst vs)):=
 q.ok (vn hp) (m.lay hp l) _ ⟨p,by rw[←m.len,z5U (z5H _)];simp,rfl⟩
theorem z1j{fs:List De}(hl:es.length<=room)(ha:EsOk X D W es fs):PE X (.List es pos) (rdE D W (kq fs)):=by
 refine PE.mono (Kn (qX ha)) ?_
 rintro σ H Q ⟨φ,α,τ,μ,sr,mr,p⟩
 refine⟨φ,α,τ,μ,sr,mr,p.bind.mono λts μ1 α1 H1 st m q vs dl hn=>⟨by rw[hn];exact zI hl,λz hz=>q.lay m hz dl⟩⟩
theorem Qv:∀{ts:List T} {bs:List Bool} {vs:List V} {us:List Value},bools ts=some bs->DenL D φ α H ts vs->Vals vs us->us=bs.map za7
 |[],bs,vs,us,h,l,r=>by
  simp[bools] at h;subst h
  have l:vs=[]:=l
  subst l;cases r;rfl
 |t::ts,bs,vs,us,h,l,r=>by
  obtain⟨v,w,rfl,d,l⟩:=l
  cases t with
  |bl b=>
   simp only[bools] at h
   cases q:bools ts with
   |none=>rw[q] at h;cases h
   |some cs=>
    rw[q] at h;cases h
    cases r with
    |cons r1 r2=>
     cases d;cases r1
     rw[Qv q l r2];rfl
  |_=>simp[bools] at h
theorem z4R(hh:X.calm=true):B1 X D W (.builtin "all") JP:=by
 intro pins s σ H φ α μ t v u Q I mr d r p
 unfold JP at p
 split at p
 case h_2=>exact p.elim
 rename_i xs
 obtain⟨bs,hb,p⟩:=p.som
 obtain⟨ad,vs,rfl,_,_,q,l⟩:=d
 cases r
 obtain⟨its,rv,pl,hz⟩:=I.list (.inl q)
 have eb:=Qv hb l rv
 have hl:=pl.isList
 have hlt:ad<s.heap.objs.size:=by obtain⟨_,e,_⟩:=hl;exact z5O e
 refine call_all_walk (z7V hl ?_)
 refine⟨s.heap.objs.size,[s.heap.objs.size,ad],[s.heap.objs.size],its.toArray.size,_,_,λi=>(bs[i]?).getD true,rfl,zaf (A:=X.A.in1) (I.ok.hd hh) _ ad (z5Z hlt) its.toArray,
  ⟨⟨_,z5Y _ rfl,rfl,rfl⟩,hl.push _⟩,λi v s' Q' E' hP hQ=>?_,λh' tk hk=>?_⟩
 ·have hP':its[i]?=some v:=by simpa using hP
  rw[eb,z67] at hP'
  cases e:bs[i]? with
  |none=>rw[e] at hP';cases hP'
  |some b=>
   rw[e] at hP'
   simp at hP'
   subst hP'
   simp only[e,z9Y] at hQ
   exact z6h hQ
 ·have e:((z6R its.toArray.size).all λi=>(bs[i]?).getD true)=bs.all id:=by
   have hn:its.toArray.size=bs.length:=by simp[eb]
   rw[hn]
   rw[z8l]
   simp only[z6i,z9f,id_eq]
   constructor
   ·intro h b hb'
    obtain⟨i,hi,rfl⟩:=List.mem_iff_getElem.mp hb'
    have:=h i hi
    simpa[hi] using this
   ·intro h i hi
    have:=h bs[i] (List.getElem_mem hi)
    simpa[hi] using this
  rw[e]
  have kp:∀b x,s.heap.get? b=some x->h'.get? b=some x:=λb x e=>hk b x (λhm=>by rw[z5J.mp hm] at e;exact z7b _ (z5O e)) (z5C _ e)
  exact⟨.bl (bs.all id),H,I.kept (t':=tk) kp,rfl,p.here mr rfl⟩
theorem Stp.turn{x:Addr}{o:HO}(hx:x∈α)(hh:∃o',H x=some o'):Stp α H α (upd H x o):=by
 refine⟨⟨[],by simp,by simp⟩,λb u n e=>?_,λb e=>?_⟩
 ·rw[za (λ(z:b=x)=>n (by rw[z];exact hx))];exact e
 ·by_cases z:b=x
  ·rw[z,zd] at e;cases e
  ·rw[za z] at e;exact e
theorem MRel.turn{i:Nat}{x:Addr}{o:HO}{mo:MO}(m:MRel D φ α H μ)(hx:α[i]?=some x)(hi:i<μ.length)(st:Stp α H α (upd H x o))(d:DenO D φ α (upd H x o) mo x):MRel D φ α (upd H x o) (μ.set i mo):=by
 refine⟨by simp[m.len],m.nd,m.dis,λb hb=>?_,λj y o' e1 e2=>?_⟩
 ·obtain⟨u,hu,n⟩:=m.phi b hb
  exact⟨u,st.keep b u (λz=>m.dis b z hb) hu,n⟩
 ·by_cases q:i=j
  ·subst q
   rw[hx] at e1;cases e1
   rw[z8y hi] at e2;cases e2
   exact d
  ·rw[z5L q] at e2
   have ne:y≠x:=λz=>by
    subst z
    obtain⟨h1,e1'⟩:=z5A.mp e1
    obtain⟨h2,e2'⟩:=z5A.mp hx
    exact q ((z8M m.nd).mp (e2'.trans e1'.symm))
   exact DenO.step st (za ne) (m.ob j y o' e1 e2)
theorem XI{i:Nat}{x:Addr}{xs:List V}{ts:List T}{v:V}{t:T}(m2:MRel D φ α H μ)(hx2:α[i]?=some x)(hμ:μ[i]?=some (.lst ts))(hH:H x=some (.lst xs))(l:DenL D φ α H ts xs)(d:Den D φ α H t v) :
  Stp α H α (upd H x (.lst (xs++[v])))/\MRel D φ α (upd H x (.lst (xs++[v]))) (μ.set i (.lst (ts++[t]))):=by
 have st3:Stp α H α (upd H x (.lst (xs++[v]))):=Stp.turn (z5T hx2) ⟨_,hH⟩
 have hi:i<μ.length:=(z5A.mp hμ).1
 exact⟨st3,m2.turn hx2 hi st3 ⟨_,zd,(l.step st3).append ⟨v,[],rfl,d.step st3,rfl⟩⟩⟩
theorem z10{o:Expr}{pa pc:Pos}{go:De}(hp:qb o=true)(hs:noStar a=true)(hline:(pa.endLine == pc.line)=true)(ho:PE X o (rdE D W go))(ha:PE X a (rdE D W f)) :
  PE X (.Call (.Attribute o "append" pa) [a] [] pc) (rdE D W (QL go f)):=by
 have hb:z6o [a] X.env=[(false,eval a X.env)]:=z8 hs
 refine PE.mono (z0z z9_ PySem.F.slot_list_append PySem.F.type_list_append uj ho (zN ha qx (z8 hs)) (qO hp) (by rw[hb];rfl) hline (z8 hs) rfl) ?_
 rintro σ H Q ⟨φ,α,τ,μ,sr,mr,p⟩
 refine⟨φ,α,τ,μ,sr,mr,p.bind.mono λot μ1 α1 H1 st1 m1 q ov dv=>?_⟩
 split at q
 case h_2=>exact q.elim
 rename_i i
 obtain⟨K,Z,⟨⟨ts0,hμ0⟩,hf⟩,hk,hz⟩:=q
 obtain⟨x,hx,rfl⟩:=dv
 obtain⟨xs0,hH0,l0⟩:=m1.ob _ x _ hx hμ0
 refine⟨.inl ⟨rfl,_,.inl (.inl hH0)⟩,φ,α1,τ,μ1,sr.step st1,m1,_,Z,hf,?_,hz⟩
 rintro t μ2 ⟨ts,hμ,hl,q2⟩ α2 H2 st2 m2 v d
 obtain⟨β,e2,_⟩:=st2.ext
 have hx2:α2[i]?=some x:=by
  rw[e2,z5I (z5A.mp hx).1];exact hx
 obtain⟨xs,hH,l⟩:=m2.ob i x _ hx2 hμ
 obtain⟨st3,m3⟩:=XI m2 hx2 hμ hH l d
 refine⟨x,xs,v,rfl,rfl,hH,?_,?_⟩
 ·rw[←l.length];exact z5S hl (zI (z5H _))
 ·exact hk _ _ q2 α2 _ (st2.trans st3) m3 .non rfl
end
structure ItV(D:DP)(J:It)(Ok:List Addr->List Addr->Hp->Prop)(xs:List T):Prop where
 go:∀(i:Nat) φ α H,Ok φ α H->i<xs.length->J.go i H
 yld:∀(i:Nat) φ α H v H' t,Ok φ α H->xs[i]?=some t->J.yld i H v H'->vZ H H'/\Den D φ α H' t v
 stop:∀φ α H,Ok φ α H->J.stop xs.length H
noncomputable def OkI (D:DP)(φ α:List Addr)(H:Hp)(xs:List T)(lv:Mem->Prop)(Ok:List Addr->List Addr->Hp->Prop):Prop:=∀φ' α' H' μ',Lk φ α H φ' α' H'->MRel D φ' α' H' μ'->lv μ'->Ok φ' α' H'
noncomputable def rdI (D:DP)(W:XW)(f:Di):TI:=λσ H R=>RdP D H σ λφ α τ μ=>
 Post D W φ α H σ (λp μ' α' H'=>∀J Ok,ItV D J Ok p.1->OkI D φ α' H' p.1 p.2 Ok->p.2 μ'->R J H') (f τ μ).re
theorem Lk.trans{φ φ1 φ2 α α1 α2:List Addr}{H H1 H2:Hp}(a:Lk φ α H φ1 α1 H1)(b:Lk φ1 α1 H1 φ2 α2 H2):Lk φ α H φ2 α2 H2:=
 ⟨λx o n1 n2 e=>let ⟨m1,m2,e1⟩:=a.ob x o n1 n2 e;b.ob x o m1 m2 e1,λi x e=>b.st i x (a.st i x e)⟩
theorem VP{D:DP}{φ α:List Addr}{H:Hp}{γ:Type}{f:γ->T}{xs:List γ}{i:Nat}{t:T}(h:(xs.map f)[i]?=some t):∃a,xs[i]?=some a/\t=f a:=by
 rw[z67] at h
 cases q:xs[i]? with
 |none=>rw[q] at h;cases h
 |some a=>rw[q] at h;cases h;exact⟨a,rfl,rfl⟩
section
variable {X:Cx}{D:DP}{W:XW}{Γ:Cn}{k:Nat}{pins:List (Addr×Obj)}{s:Shared}{σ:St}{H:Hp}{φ α:List Addr}{τ:Sl}{μ:Mem}{f g h:De}{a b c tg:Expr}{pos:Pos}{es:List Expr}
theorem QA{K:z5G}{ad:Addr}{xs:List T}:ItV D (Itl K ad) (λφ α H=>∃vs,Rd H ad (.lst vs)/\DenL D φ α H xs vs) xs:=
 ⟨λi φ α H ⟨vs,ok,l⟩ hi=>⟨vs,vs[i]'(by rw[←l.length];exact hi),.inl ok,by simp⟩,λi φ α H v H' t ⟨vs,ok,l⟩ hi y=>by
  obtain⟨rfl,y⟩:=y
  obtain⟨x,hx,d⟩:=l.get hi
  have e:=y vs (.inl ok)
  rw[e] at hx;cases hx;exact⟨λ_ _ z=>z,d⟩,λφ α H ⟨vs,ok,l⟩=>⟨vs,.inl ok,by rw[l.length];exact z5H _⟩⟩
theorem z00{K:z5G}{ad:Addr}{xs:List T}:ItV D (Itt K ad) (λφ α H=>∃vs,Rd H ad (.tup vs)/\DenL D φ α H xs vs) xs:=
 ⟨λi φ α H ⟨vs,ok,l⟩ hi=>⟨vs,vs[i]'(by rw[←l.length];exact hi),.inl ok,by simp⟩,λi φ α H v H' t ⟨vs,ok,l⟩ hi y=>by
  obtain⟨rfl,y⟩:=y
  obtain⟨x,hx,d⟩:=l.get hi
  have e:=y vs (.inl ok)
  rw[e] at hx;cases hx;exact⟨λ_ _ z=>z,d⟩,λφ α H ⟨vs,ok,l⟩=>⟨vs,.inl ok,by rw[l.length];exact z5H _⟩⟩
theorem J3{n i j:Nat}(h:(z6R n)[i]?=some j):j=i:=by
 have:=(z5A.mp h).2
 simpa using this.symm
noncomputable def ItC(z:Str):It:=⟨λi _=>i<z.cps.toList.length,λi H x H'=>H'=H/\∃c,z.cps.toList[i]?=some c/\x=.str ⟨#[c]⟩,λi _=>z.cps.toList.length<=i⟩
theorem UI{z:Str}:ItV D (ItC z) (λ_ _ _=>True) (z.cps.toList.map λc=>T.str ⟨#[c]⟩):=
 ⟨λi φ α H _ hi=>by (show i<_);simpa using hi,λi φ α H v H' t _ hi y=>by
  obtain⟨j,hj,rfl⟩:=VP (D:=D) (φ:=φ) (α:=α) (H:=H) hi
  obtain⟨rfl,c,hc,rfl⟩:=y
  rw[hj] at hc;cases hc;exact⟨λ_ _ z=>z,rfl⟩,λφ α H _=>by show _<=_;simp⟩
theorem K8 {P:z6f} {w:z6w} {K:z5G} {tg:Expr} {kd:String} (hk:kd="str_ascii_iterator"\/kd="str_iterator") (it:Addr) (z:Str) (t0:Tok):Turn P w K tg (ItC z) [it] it (λi h=>h.IsStrIter it kd z t0 i) where
 mem:=by simp
 obj:=λi h st b hb=>by
  have e:b=it:=by simpa using hb
  subst e
  obtain⟨o,e,c,d⟩:=st
  exact⟨o,e,λv z=>by rw[d] at z;cases z⟩
 keep:=λi h h' st k=>let ⟨o,ho,r⟩:=st;⟨o,k it (by simp) o ho,r⟩
 item:=by
  intro X hP hw hK hc i pins s σ H E I hf st hg
  subst hP hw hK
  obtain⟨f0,f1,f2,f3,f4,f5⟩:=hf it (by simp)
  have hi:i<z.cps.size:=by simpa[ItC] using hg
  have hcx:z.cps[i]?=some z.cps[i]:=Array.getElem?_eq_getElem hi
  have hcl:z.cps.toList[i]?=some z.cps[i]:=by rw[zau];exact hcx
  rcases hk with rfl|rfl
  ·refine wpAny_pyNext_ascii_item st hcx λh' st' sb=>?_
   have I1:Inv X pins σ H {s with heap:=h',toks:=s.toks+1}:=I.turned (λb o hb e=>(sb.2 b hb).trans e) f0 f1 f3 f4 f5
   obtain⟨o,e,c,d⟩:=id st'
   exact⟨.str ⟨#[z.cps[i]]⟩ s.toks,rfl,uk (s:={s with heap:=h',toks:=s.toks+1}) e c d (by decide) ⟨.str ⟨#[z.cps[i]]⟩,H,I1,⟨_,rfl⟩,⟨rfl,z.cps[i],hcl,rfl⟩,st',λb hb=>(hf b hb).1⟩⟩
  ·refine wpAny_pyNext_wide_item st hcx λh' st' sb=>?_
   have I1:Inv X pins σ H {s with heap:=h',toks:=s.toks+1}:=I.turned (λb o hb e=>(sb.2 b hb).trans e) f0 f1 f3 f4 f5
   obtain⟨o,e,c,d⟩:=id st'
   exact⟨.str ⟨#[z.cps[i]]⟩ s.toks,rfl,uk (s:={s with heap:=h',toks:=s.toks+1}) e c d (by decide) ⟨.str ⟨#[z.cps[i]]⟩,H,I1,⟨_,rfl⟩,⟨rfl,z.cps[i],hcl,rfl⟩,st',λb hb=>(hf b hb).1⟩⟩
 done:=by
  intro X hP hw hK hc i pins s σ H E I hf st hg
  subst hP hw hK
  obtain⟨f0,f1,f2,f3,f4,f5⟩:=hf it (by simp)
  have hx:z.cps[i]?=none:=Array.getElem?_eq_none (by have:z.cps.toList.length<=i:=hg;simpa using this)
  rcases hk with rfl|rfl
  ·exact wpAny_pyNext_ascii_end (I.ok.hd hc) st hx λh' eb=>⟨rfl,I.turned (t':=s.toks) (λb o hb e=>eb b o hb e) f0 f1 f3 f4 f5⟩
  ·exact wpAny_pyNext_wide_end (I.ok.hd hc) st hx λh' eb=>⟨rfl,I.turned (t':=s.toks) (λb o hb e=>eb b o hb e) f0 f1 f3 f4 f5⟩
 self:=λ_ _ _ _ _ st h=>by
  rcases hk with rfl|rfl
  ·exact wpAny_pyIter_striter_ascii st h
  ·exact wpAny_pyIter_striter_wide st h
theorem z07(ha:PE X a (rdE D W f)):PI X tg a (rdI D W (iE f)):=by
 rintro pins s σ H R I ⟨φ,α,τ,μ,sr,mr,p⟩
 refine thn (sub ha I sr mr p) ?_
 rintro u s1 ⟨v,H1,t,μ1,α1,I1,r1,st1,sr1,mr1,d1,p1⟩
 cases t with
 |lst ts=>
  obtain⟨ad,vs,rfl,n1,n2,q,l⟩:=d1
  cases r1
  obtain⟨its,rv,pl,hz⟩:=I1.list (.inl q)
  refine z7V pl.isList ?_
  refine⟨s1.heap.objs.size,[s1.heap.objs.size],_,_,H1,rfl,I1.kept (t':=s1.toks) λb o e=>z5C _ e,uQ ad _,⟨_,z5Y _ rfl,rfl,rfl⟩,λb hb=>?_,?_⟩
  ·have e:b=s1.heap.objs.size:=by simpa using hb
   subst e
   exact I1.fpOk (z5H _) (I1.hok.fresh (z5H _))
  ·have p2:Post D W φ α1 H1 σ _ (RE.ok (ts,lvT) μ1):=p1
   exact p2.ok (Stp.refl _ _) mr1 _ _ QA (λφ' α' H' μ' lk _ _=>by
    obtain⟨a',ws,e,_,_,q',l'⟩:=Den.lk lk (show Den D φ α1 H1 (.lst ts) (.ref ad) from ⟨ad,vs,rfl,n1,n2,q,l⟩)
    cases e;exact⟨ws,q',l'⟩) trivial
 |tup ts=>
  obtain⟨ad,vs,rfl,n1,n2,q,l⟩:=d1
  cases r1
  obtain⟨its,rv,pl,hz⟩:=I1.tuple (.inl q)
  refine wpAny_pyIter_tuple (show s1.heap.IsTuple ad its.toArray from pl) ?_
  refine⟨s1.heap.objs.size,[s1.heap.objs.size],_,_,H1,rfl,I1.kept (t':=s1.toks) λb o e=>z5C _ e,WK ad _,⟨_,z5Y _ rfl,rfl,rfl⟩,λb hb=>?_,?_⟩
  ·have e:b=s1.heap.objs.size:=by simpa using hb
   subst e
   exact I1.fpOk (z5H _) (I1.hok.fresh (z5H _))
  ·have p2:Post D W φ α1 H1 σ _ (RE.ok (ts,lvT) μ1):=p1
   exact p2.ok (Stp.refl _ _) mr1 _ _ z00 (λφ' α' H' μ' lk _ _=>by
    obtain⟨a',ws,e,_,_,q',l'⟩:=Den.lk lk (show Den D φ α1 H1 (.tup ts) (.ref ad) from ⟨ad,vs,rfl,n1,n2,q,l⟩)
    cases e;exact⟨ws,q',l'⟩) trivial
 | «mut» j=>
  obtain⟨ad,hj,rfl⟩:=d1
  cases r1
  have p2:Post D W φ α1 H1 σ _ (λK _=>∃xs,μ1[j]?=some (.lst xs)/\K (xs,lvM j xs) μ1):=p1
  obtain⟨xs,hx,p2⟩:=p2.ex1
  obtain⟨vs,q,l⟩:=mr1.ob j ad _ hj hx
  obtain⟨its,rv,pl,hz⟩:=I1.list (.inl (.inl q))
  refine z7V pl.isList ?_
  refine⟨s1.heap.objs.size,[s1.heap.objs.size],_,_,H1,rfl,I1.kept (t':=s1.toks) λb o e=>z5C _ e,uQ ad _,⟨_,z5Y _ rfl,rfl,rfl⟩,λb hb=>?_,?_⟩
  ·have e:b=s1.heap.objs.size:=by simpa using hb
   subst e
   exact I1.fpOk (z5H _) (I1.hok.fresh (z5H _))
  ·have p2:Post D W φ α1 H1 σ _ (RE.ok (xs,lvM j xs) μ1):=p2
   exact p2.ok (Stp.refl _ _) mr1 _ _ QA (λφ' α' H' μ' lk m hl=>by
    obtain⟨ws,q',l'⟩:=m.ob j ad _ (lk.st j ad hj) hl
    exact⟨ws,.inl q',l'⟩) hx
 |str z=>
  have d1:v=.str z:=d1
  subst d1
  obtain⟨t0,rfl⟩:=r1
  have fin:∀{kd:String},(kd="str_ascii_iterator"\/kd="str_iterator")->PIE X pins σ tg R (.ref s1.heap.objs.size) {s1 with heap:=s1.heap.push {cls:=.type kd,data:=.fields #[.str z t0,.int 0 0]}}:=λ{kd} hk=>by
   refine⟨s1.heap.objs.size,[s1.heap.objs.size],_,_,H1,rfl,I1.kept (t':=s1.toks) λb o e=>z5C _ e,K8 hk _ z t0,⟨_,z5Y _ rfl,rfl,rfl⟩,λb hb=>?_,?_⟩
   ·have e:b=s1.heap.objs.size:=by simpa using hb
    subst e
    exact I1.fpOk (z5H _) (I1.hok.fresh (z5H _))
   ·have p2:Post D W φ α1 H1 σ _ (RE.ok (KA z,lvT) μ1):=p1
    exact p2.ok (Stp.refl _ _) mr1 _ _ UI (λ_ _ _ _ _ _ _=>z7f) trivial
  cases ha:z.cps.all (·<128) with
  |true=>exact wpAny_pyIter_ascii ha (fin (.inl rfl))
  |false=>exact wpAny_pyIter_wide ha (fin (.inr rfl))
 |_=>exact Post.elim p1
theorem Xd{x:V}{xs:List V}{us:List Value}(h:Vals (x::xs) us):∃u r,us=u::r/\RelV x u/\Vals xs r:=by
 cases h with
 |cons r q=>exact⟨_,_,rfl,r,q⟩
theorem vals3{x y z:V}{us:List Value}(h:Vals [x,y,z] us):∃u v w,us=[u,v,w]/\RelV x u/\RelV y v/\RelV z w:=by
 obtain⟨u,_,rfl,a,h⟩:=Xd h
 obtain⟨v,_,rfl,b,h⟩:=Xd h
 obtain⟨w,_,rfl,c,h⟩:=Xd h
 cases h
 exact⟨_,_,_,rfl,a,b,c⟩
noncomputable def ItS(lo c:Int)(n:Nat):It:=⟨λi _=>i<n,λi H x H'=>H'=H/\x=.int (lo+i * c),λi _=>n<=i⟩
theorem Qt{P:z6f}{w:z6w}{K:z5G}{tg:Expr}(it:Addr)(lo c:Int)(n:Nat):Turn P w K tg (ItS lo c n) [it] it (λi h=>IsRangeIter h it (lo+(i:Nat) * c) ((n:Int)-(i:Nat)) c) where
 mem:=by simp
 obj:=λi h st b hb=>by
  have e:b=it:=by simpa using hb
  subst e
  exact⟨_,st,λv z=>by cases (show zdx _=Data.cell v from z)⟩
 keep:=λi h h' st k=>k it (by simp) _ st
 item:=by
  intro X hP hw hK hc i pins s σ H E I hf st hg
  subst hP hw hK
  obtain⟨f0,f1,f2,f3,f4,f5⟩:=hf it (by simp)
  have W:=Walks.range (prog:=X.prog) (w:=X.w) (I.ok.hd hc) it lo c n
  refine W.item i s _ _ hg st λv h' tk hv st' kk=>?_
  obtain⟨t,rfl⟩:=hv
  have I1:Inv X pins σ H {s with heap:=h',toks:=tk}:=I.turned (λb o hb e=>kk b o (by simpa using hb) e) f0 f1 f3 f4 f5
  exact⟨_,rfl,uk (s:={s with heap:=h',toks:=tk}) (n:="range_iterator") st' rfl rfl (by decide) ⟨.int (lo+i * c),H,I1,⟨t,rfl⟩,⟨rfl,rfl⟩,st',λb hb=>(hf b hb).1⟩⟩
 done:=by
  intro X hP hw hK hc i pins s σ H E I hf st hg
  subst hP hw hK
  obtain⟨f0,f1,f2,f3,f4,f5⟩:=hf it (by simp)
  exact wpAny_pyNext_range_end (I.ok.hd hc) st (by have:n<=i:=hg;omega) λh' eb=>⟨rfl,I.turned (t':=s.toks) (λb o hb e=>eb b o hb e) f0 f1 f3 f4 f5⟩
 self:=λ_ _ _ _ _ st h=>wpAny_pyIter_rangeiter st h
theorem QU{P:z6f}{w:z6w}{K:z5G}{tg:Expr}(it:Addr)(lo c:Int)(n:Nat):Turn P w K tg (ItS lo c n) [it] it (λi h=>IsLongIter h it (lo+(i:Nat) * c) ((n:Int)-(i:Nat)) c) where
 mem:=by simp
 obj:=λi h st b hb=>by
  have e:b=it:=by simpa using hb
  subst e
  exact⟨_,st,λv z=>by cases (show zdx _=Data.cell v from z)⟩
 keep:=λi h h' st k=>k it (by simp) _ st
 item:=by
  intro X hP hw hK hc i pins s σ H E I hf st hg
  subst hP hw hK
  obtain⟨f0,f1,f2,f3,f4,f5⟩:=hf it (by simp)
  have W:=Walks.longrange (prog:=X.prog) (w:=X.w) (I.ok.hd hc) it lo c n
  refine W.item i s _ _ hg st λv h' tk hv st' kk=>?_
  obtain⟨t,rfl⟩:=hv
  have I1:Inv X pins σ H {s with heap:=h',toks:=tk}:=I.turned (λb o hb e=>kk b o (by simpa using hb) e) f0 f1 f3 f4 f5
  exact⟨_,rfl,uk (s:={s with heap:=h',toks:=tk}) (n:="longrange_iterator") st' rfl rfl (by decide) ⟨.int (lo+i * c),H,I1,⟨t,rfl⟩,⟨rfl,rfl⟩,st',λb hb=>(hf b hb).1⟩⟩
 done:=by
  intro X hP hw hK hc i pins s σ H E I hf st hg
  subst hP hw hK
  obtain⟨f0,f1,f2,f3,f4,f5⟩:=hf it (by simp)
  exact wpAny_pyNext_long_end (I.ok.hd hc) st (by have:n<=i:=hg;omega) λh' eb=>⟨rfl,I.turned (t':=s.toks) (λb o hb e=>eb b o hb e) f0 f1 f3 f4 f5⟩
 self:=λ_ _ _ _ _ st h=>wpAny_pyIter_longiter st h
theorem Ui{a b c:Int}(hc:0<c):z8x a b c=if a<b then (b-a-1) / c+1 else 0:=by
 unfold z8x
 rw[if_pos hc]
theorem ku{pins:List (Addr×Obj)}{σ:St}{H:Hp}{s:z5D}{R:It->Hp->Prop}{E:Value->z5D->Prop}{lo hi c:Int}{t u v:Tok}{tk:Nat}(I:Inv X pins σ H s)(h3:0<c)
  (q:R (ItS lo c (if lo<hi then (hi-lo-1) / c+1 else 0:Int).toNat) H):z5K (z5N X.prog X.w) X.A (pyIter (.ref s.heap.objs.size)) (PIE X pins σ tg R) E {s with heap:=s.heap.push {cls:=.type "range",data:=.fields #[.int lo t,.int hi u,.int c v]},toks:=tk}:=by
 have I1:Inv X pins σ H {s with heap:=s.heap.push {cls:=.type "range",data:=.fields #[.int lo t,.int hi u,.int c v]},toks:=tk}:=I.kept λb o e=>z5C _ e
 have e1:lo+((0:Nat):Int) * c=lo:=by simp
 have e2:(((if lo<hi then (hi-lo-1) / c+1 else 0:Int).toNat:Nat):Int)-((0:Nat):Int)=z8x lo hi c:=by
  rw[Ui h3]
  have:0<=(if lo<hi then (hi-lo-1) / c+1 else 0):=by
   split
   ·have h1:0<=(hi-lo-1) / c:=z8Y (by omega) (by omega)
    omega
   ·omega
  omega
 have fr:∀b∈[(s.heap.push {cls:=.type "range",data:=.fields #[.int lo t,.int hi u,.int c v]}).objs.size],b=(s.heap.push {cls:=.type "range",data:=.fields #[.int lo t,.int hi u,.int c v]}).objs.size:=λb hb=>by simpa using hb
 cases hsm:zdB lo hi c with
 |true=>
  refine wpAny_pyIter_range (zdy ..) hsm ?_
  refine⟨(s.heap.push {cls:=.type "range",data:=.fields #[.int lo t,.int hi u,.int c v]}).objs.size,[(s.heap.push {cls:=.type "range",data:=.fields #[.int lo t,.int hi u,.int c v]}).objs.size],_,_,H,rfl,
   I1.kept (t':=tk) λb o e=>z5C _ e,Qt _ lo c (if lo<hi then (hi-lo-1) / c+1 else 0:Int).toNat,?_,λb hb=>?_,q⟩
  ·show IsRangeIter _ _ (lo+((0:Nat):Int) * c) ((((if lo<hi then (hi-lo-1) / c+1 else 0:Int).toNat:Nat):Int)-((0:Nat):Int)) c
   rw[e1,e2]
   exact z5Y _ rfl
  ·rw[fr b hb]
   exact I1.fpOk (z5H _) (I1.hok.fresh (z5H _))
 |false=>
  refine wpAny_pyIter_longrange (zdy ..) hsm ?_
  refine⟨(s.heap.push {cls:=.type "range",data:=.fields #[.int lo t,.int hi u,.int c v]}).objs.size,[(s.heap.push {cls:=.type "range",data:=.fields #[.int lo t,.int hi u,.int c v]}).objs.size],_,_,H,rfl,
   I1.kept (t':=tk) λb o e=>z5C _ e,QU _ lo c (if lo<hi then (hi-lo-1) / c+1 else 0:Int).toNat,?_,λb hb=>?_,q⟩
  ·show IsLongIter _ _ (lo+((0:Nat):Int) * c) ((((if lo<hi then (hi-lo-1) / c+1 else 0:Int).toNat:Nat):Int)-((0:Nat):Int)) c
   rw[e1,e2]
   exact z5Y _ rfl
  ·rw[fr b hb]
   exact I1.fpOk (z5H _) (I1.hok.fresh (z5H _))
theorem jl{lo c:Int}{n:Nat}:ItV D (ItS lo c n) (λ_ _ _=>True) ((z6R n).map λ(i:Nat)=>T.int (lo+i * c)):=
 ⟨λi φ α H _ hi=>by (show i<n);simpa using hi,λi φ α H v H' t _ hi y=>by
  obtain⟨j,hj,rfl⟩:=VP (D:=D) (φ:=φ) (α:=α) (H:=H) hi
  rw[J3 hj]
  obtain⟨rfl,rfl⟩:=y
  exact⟨λ_ _ z=>z,rfl⟩,λφ α H _=>by show n<=_;simp⟩
theorem VS (C:Ck D W Γ X k) {p0:Pos} (hx:("range":Str)∈Γ.G) (hg:Γ.gl "range"=.none) (ha':noStar a=true) (hb':noStar b=true) (hc':noStar c=true) (ha:PE X a (rdE D W f)) (hb:PE X b (rdE D W g)) (hc:PE X c (rdE D W h)) :
  PI X tg (.Call (.Name "range" p0) [a,b,c] [] pos) (rdI D W (z0y f g h)):=by
 have hm:=C.glo _ hx
 rw[hg] at hm
 rintro pins s σ H R I ⟨φ,α,τ,μ,sr,mr,p⟩
 have s3:z6o [a,b,c] X.env=[(false,eval a X.env),(false,eval b X.env),(false,eval c X.env)]:=by
  rw[z8 ha',z8 hb',z8 hc'];rfl
 refine Call_ (we I (C.glb _ hx) hm zcA (z77 (thn (zN ha (zN hb (zN hc qx (z8 hc')) (z8 hb')) (z8 ha') pos pins s σ H (λvs H1=>∃i j l:Int,vs=[.int i,.int j,.int l]/\(0<l/\l<1073741824)/\R (ItS i l (if i<j then (j-i-1) / l+1 else 0:Int).toNat) H1) I ?_) ?_) (z8 ha') (q9 (by simp[hb',hc']))))
 ·refine⟨φ,α,τ,μ,sr,mr,p.bind.mono λx μ1 α1 H1 st1 m1 q1 v1 d1=>⟨φ,α1,τ,μ1,sr.step st1,m1,q1.bind.mono λy μ2 α2 H2 st2 m2 q2 v2 d2=>⟨φ,α2,τ,μ2,(sr.step st1).step st2,m2,q2.bind.mono λz μ3 α3 H3 st3 m3 q3 v3 d3=>?_⟩⟩⟩
  cases x with
  |int a=>
   cases y with
   |int b=>
    cases z with
    |int c=>
     have q3:Post D W φ α3 H3 σ _ (RE.grd (inL a/\inL b/\0<c/\c<1073741824) (RE.ok (kn a b c,lvT) μ3)):=q3
     obtain⟨hh,q3⟩:=q3.grd
     have d1:v1=.int _:=d1
     have d2:v2=.int _:=d2
     have d3:v3=.int _:=d3
     subst d1 d2 d3
     exact⟨_,_,_,rfl,hh.2.2,q3.ok (Stp.refl _ _) m3 _ _ jl (λ_ _ _ _ _ _ _=>z7f) trivial⟩
    |_=>exact Post.elim q3
   |_=>exact Post.elim q3
  |_=>exact Post.elim q3
 ·rintro us s1 ⟨vs,H1,I1,rv,i,j,l,rfl,h3,q⟩
  obtain⟨u1,u2,u3,rfl,r1,r2,r3⟩:=vals3 rv
  obtain⟨t1,rfl⟩:=r1
  obtain⟨t2,rfl⟩:=r2
  obtain⟨t3,rfl⟩:=r3
  exact call_range_3 (by omega) (ku I1 h3.1 q) (.inl (PyProof.noPylong_small (by omega)))
theorem Jk (C:Ck D W Γ X k) {p0:Pos} (hx:("range":Str)∈Γ.G) (hg:Γ.gl "range"=.none) (ha':noStar a=true) (hb':noStar b=true) (ha:PE X a (rdE D W f)) (hb:PE X b (rdE D W g)) :
  PI X tg (.Call (.Name "range" p0) [a,b] [] pos) (rdI D W (Vo f g)):=by
 have hm:=C.glo _ hx
 rw[hg] at hm
 rintro pins s σ H R I ⟨φ,α,τ,μ,sr,mr,p⟩
 refine Call_ (we I (C.glb _ hx) hm zcA (z77 (thn (zN ha (zN hb qx (z8 hb')) (z8 ha') pos pins s σ H (λvs H1=>∃i j:Int,vs=[.int i,.int j]/\R (ItS i 1 (if i<j then (j-i-1) / 1+1 else 0:Int).toNat) H1) I ?_) ?_) (by rw[z8 ha',z8 hb']) (by rw[z8 hb'];rfl)))
 ·refine⟨φ,α,τ,μ,sr,mr,p.bind.mono λx μ1 α1 H1 st1 m1 q1 v1 d1=>⟨φ,α1,τ,μ1,sr.step st1,m1,q1.bind.mono λy μ2 α2 H2 st2 m2 q2 v2 d2=>?_⟩⟩
  cases x with
  |int i=>
   cases y with
   |int j=>
    have q2:Post D W φ α2 H2 σ _ (RE.grd (inL i/\inL j) (RE.ok (kn i j 1,lvT) μ2)):=q2
    obtain⟨hh,q2⟩:=q2.grd
    have d1:v1=.int _:=d1
    have d2:v2=.int _:=d2
    subst d1 d2
    exact⟨_,_,rfl,q2.ok (Stp.refl _ _) m2 _ _ jl (λ_ _ _ _ _ _ _=>z7f) trivial⟩
   |_=>exact Post.elim q2
  |_=>exact Post.elim q2
 ·rintro us s1 ⟨vs,H1,I1,rv,i,j,rfl,q⟩
  cases rv with
  |cons r rr=>
   cases rr with
   |cons r' rr=>
    cases rr
    obtain⟨t,rfl⟩:=r
    obtain⟨t',rfl⟩:=r'
    exact call_range_2 (ku I1 (by omega) q)
theorem Xy (C:Ck D W Γ X k) {p0:Pos} (hx:("range":Str)∈Γ.G) (hg:Γ.gl "range"=.none) (hs:noStar a=true) (ha:PE X a (rdE D W f)) :
  PI X tg (.Call (.Name "range" p0) [a] [] pos) (rdI D W (Xq f)):=by
 have hm:=C.glo _ hx
 rw[hg] at hm
 rintro pins s σ H R I ⟨φ,α,τ,μ,sr,mr,p⟩
 refine Call_ (we I (C.glb _ hx) hm zcA (z77 (thn (zN ha qx (z8 hs) pos pins s σ H (λvs H1=>∃j:Int,vs=[.int j]/\R (ItS 0 1 (if 0<j then (j-0-1) / 1+1 else 0:Int).toNat) H1) I ?_) ?_) (z8 hs) rfl))
 ·refine⟨φ,α,τ,μ,sr,mr,p.bind.mono λt μ' α' H' st m q v d=>?_⟩
  cases t with
  |int n=>
   have d:v=.int _:=d
   subst d
   have q:Post D W φ α' H' σ _ (RE.grd (inL n) (RE.ok (rangeT n,lvT) μ')):=q
   obtain⟨hn,q⟩:=q.grd
   have e2:(if 0<n then (n-0-1) / 1+1 else 0:Int).toNat=n.toNat:=by
    split
    ·rw[zbo];congr 1;omega
    ·omega
   have e3:((z6R n.toNat).map λ(i:Nat)=>T.int (0+i * 1))=rangeT n:=by
    unfold rangeT
    refine z94 λi _=>?_
    simp
   refine⟨n,rfl,?_⟩
   rw[e2]
   exact q.ok (Stp.refl _ _) m _ _ (e3▸jl) (λ_ _ _ _ _ _ _=>z7f) trivial
  |_=>exact Post.elim q
 ·rintro us s1 ⟨vs,H1,I1,rv,j,rfl,q⟩
  cases rv with
  |cons r rr=>
   cases rr
   obtain⟨t,rfl⟩:=r
   exact call_range_1 (ku I1 (by omega) q)
noncomputable def idxs (N:List Str):List Expr->Option (List Nat)
 |[]=>some []
 |.Name x _::r=>match idx N x,idxs N r with
  |some i,some is=>some (i::is)
  |_,_=>none
 |_::_=>none
noncomputable def wy (N:List Str):Expr->Option Tg
 |.Name x _=>(idx N x).map Tg.one
 |.Tuple es _ _=>(idxs N es).map Tg.tup
 |_=>none
noncomputable def z9:Expr->List Str
 |.Name x _=>[x]
 |.Tuple es _ _=>es.filterMap λe=>match e with|.Name x _=>some x|_=>none
 |_=>[]
noncomputable def Sto (X:Cx)(S:List Str):Prop:=∀x∈S,Loc X.env.scope x/\(X.fn x=true\/X.env.scope.names.lookup x=some .local)
theorem Vh{S N:List Str}(hN:X.N=N)(nd:N.Nodup)(hS:Sto X S):∀{es:List Expr} {is:List Nat} {ts:List T} {τ τ':Sl},(∀e∈es,∀x p,e=.Name x p->x∈S)->idxs N es=some is->Q5 is ts τ=some τ'->
  ∃t,PGs X es t/\(z7v es X.env).length=ts.length/\(z7v es X.env).findIdx? (·.1)=none/\∀{σ:St} {vs:List V} {φ α H} {Q:St->Hp->Prop},SRel D φ α H τ σ->DenL D φ α H ts vs->(∀σ',SRel D φ α H τ' σ'->Q σ' H)->t vs σ H Q
 |[],is,ts,τ,τ',_,h0,h=>by
  simp[idxs] at h0;subst h0
  cases ts with
  |nil=>
   simp[Q5] at h;subst h
   exact⟨z3T,UP,rfl,rfl,λsr l q=>⟨l,q _ sr⟩⟩
  |cons _ _=>simp[Q5] at h
 |e::es,is,ts,τ,τ',hn,h0,h=>by
  cases e with
  |Name x p0=>
   simp only[idxs] at h0
   split at h0
   ·rename_i i is' hi his
    cases h0
    cases ts with
    |nil=>simp[Q5] at h
    |cons t ts=>
     have h:Q5 is' ts (ji τ i (some t))=some τ':=h
     have hx:=hn _ z5_ x p0 rfl
     have pg:PG X (.Name x p0) (VE i):=Vt (hN▸nd) (by rw[hN];exact qN hi) (hS x hx).1 (hS x hx).2
     obtain⟨u,pgs,hl,hf,hu⟩:=Vh hN nd hS (λe he=>hn e (z5M _ he)) his h
     refine⟨z0A (VE i) u,Y4 pg pgs rfl,by simpa[z7v] using hl,?_,λ{σ vs φ α H Q} sr l k=>?_⟩
     ·have e1:z7v (.Name x p0::es) X.env=(false,z9K (.Name x p0) X.env)::z7v es X.env:=rfl
      rw[e1,List.findIdx?_cons]
      simp[hf]
     ·obtain⟨v,r,rfl,d,l⟩:=l
      exact⟨v,r,rfl,hu (sr.set d) l k⟩
   ·cases h0
  |_=>simp[idxs] at h0
theorem Wj{S N:List Str}(hN:X.N=N)(nd:N.Nodup)(hS:Sto X S)(hc:X.calm=true){e:Expr}{tgt:Tg}{t:T}{τ τ':Sl}(hn:∀x∈z9 e,x∈S)(h0:wy N e=some tgt)(h:asg tgt t τ=some τ'){v:V}{u:Value}(I:Inv X pins σ H s)(sr:SRel D φ α H τ σ)(d:Den D φ α H t v)(r:RelV v u) :
  z5K (z5N X.prog X.w) X.A (z9K e X.env u) (λ_ s'=>∃σ',Inv X pins σ' H s'/\SRel D φ α H τ' σ') X.xe s:=by
 cases e with
 |Name x p0=>
  simp only[wy] at h0
  cases q:idx N x with
  |none=>rw[q] at h0;cases h0
  |some i=>
   rw[q] at h0;cases h0
   cases (z5F h:ji τ i (some t)=τ')
   have hx:x∈S:=hn x (by simp[z9])
   refine thn (Vt (i:=i) (hN▸nd) (by rw[hN];exact qN q) (hS x hx).1 (hS x hx).2 pins s σ H v u (λσ' H'=>H'=H/\σ'=σ.set i (some v)) I r ⟨rfl,rfl⟩) ?_
   rintro _ s1 ⟨σ',H',I1,rfl,rfl⟩
   exact⟨_,I1,sr.set d⟩
 |Tuple es kk p0=>
  simp only[wy] at h0
  cases q:idxs N es with
  |none=>rw[q] at h0;cases h0
  |some is=>
   rw[q] at h0;cases h0
   cases t with
   |tup ts=>
    obtain⟨g,pgs,hl,hf,hu⟩:=Vh (D:=D) hN nd hS (λe he x p hx=>hn x (by subst hx;exact z7M.mpr ⟨_,he,rfl⟩)) q h
    obtain⟨ad,xs,rfl,_,_,q,l⟩:=d
    refine thn (z2q (k:=kk) (pos:=p0) hc pgs hl hf pins s σ H (.ref ad) u (λσ' H'=>H'=H/\SRel D φ α H τ' σ') I r ⟨ad,xs,rfl,.inl q,l.length.symm,hu sr l λσ' sr'=>⟨rfl,sr'⟩⟩) ?_
    rintro _ s1 ⟨σ',H',I1,rfl,sr'⟩
    exact⟨σ',I1,sr'⟩
   |_=>cases h
 |_=>simp[wy] at h0
end
theorem YK(env:Env):∀(names:List (Str×z9k)) (cs:List (Str×Addr)),(∀p∈names,p.2=.free->∃c,env.cells.lookup p.1=some c)->
  ∃cl,(forIn names cs (λ(x:Str×z9k) r=>if (x.2 == .free)=true then do let a ←cellOf env x.1;pure (z74 ((x.1,a)::r)) else pure (z74 r)):Sem (List (Str×Addr)))=pure cl/\
   (∀x c,cl.lookup x=some c->cs.lookup x=some c\/(env.cells.lookup x=some c/\∃p∈names,p.1=x/\p.2=.free))/\(∀x c,cs.lookup x=some c->∃c',cl.lookup x=some c')/\∀p∈names,p.2=.free->∃c,cl.lookup p.1=some c:=by
 intro names
 induction names with
 |nil=>intro cs _;exact⟨cs,rfl,λx c h=>.inl h,λx c h=>⟨c,h⟩,λp hp=>absurd hp (by simp)⟩
 |cons p names ih=>
  intro cs h
  rw[zao]
  by_cases hp:p.2=.free
  ·obtain⟨c,hc⟩:=h p z5_ hp
   have e:cellOf env p.1=pure c:=by unfold cellOf;rw[hc]
   rw[if_pos (by simp[hp]),e]
   obtain⟨cl,e1,e2,e3,e4⟩:=ih ((p.1,c)::cs) λq hq=>h q (z5M _ hq)
   refine⟨cl,e1,λx c' hx=>?_,λx c' hx=>?_,λq hq hf=>?_⟩
   ·rcases e2 x c' hx with z|⟨z,q,hq,z1,z2⟩
    ·rw[z6b] at z
     cases hb:x == p.1 with
     |true=>
      simp[hb] at z
      subst z
      have hb':x=p.1:=by simpa using hb
      exact .inr ⟨by rw[hb'];exact hc,p,z5_,hb'.symm,hp⟩
     |false=>simp[hb] at z;exact .inl z
    ·exact .inr ⟨z,q,z5M _ hq,z1,z2⟩
   ·cases hb:x == p.1 with
    |true=>exact e3 x c (by simp[z6b,hb])
    |false=>exact e3 x c' (by simp[z6b,hb,hx])
   ·rcases z65.mp hq with rfl|hq
    ·exact e3 _ c (by simp[z6b])
    ·exact e4 q hq hf
  ·rw[if_neg (by simp[hp])]
   obtain⟨cl,e1,e2,e3,e4⟩:=ih cs λq hq=>h q (z5M _ hq)
   refine⟨cl,e1,λx c' hx=>?_,e3,λq hq hf=>?_⟩
   ·rcases e2 x c' hx with z|⟨z,q,hq,z1,z2⟩
    ·exact .inl z
    ·exact .inr ⟨z,q,z5M _ hq,z1,z2⟩
   ·rcases z65.mp hq with rfl|hq
    ·exact absurd hf hp
    ·exact e4 q hq hf
noncomputable def VB(sc:Scope):List Str:=(sc.names.filter λp=>p.2 == .globalImplicit).map (·.1)
noncomputable def frees(sc:Scope):List Str:=(sc.names.filter λp=>p.2 == .free).map (·.1)
theorem wY{sc:Scope}{x:Str}:x∈frees sc↔∃p∈sc.names,p.1=x/\p.2=.free:=by
 unfold frees
 simp only[z6y,z6m,beq_iff_eq]
 constructor
 ·rintro⟨p,⟨h1,h2⟩,h3⟩;exact⟨p,h1,h3,h2⟩
 ·rintro⟨p,h1,h3,h2⟩;exact⟨p,⟨h1,h2⟩,h3⟩
theorem xG{sc:Scope}{env:Env}(h:∀x∈frees sc,∃c,env.cells.lookup x=some c) :
  ∃cl,z9r sc env=pure cl/\(∀x c,cl.lookup x=some c->env.cells.lookup x=some c/\x∈frees sc)/\∀x∈frees sc,∃c,cl.lookup x=some c:=by
 obtain⟨cl,e1,e2,e3,e4⟩:=YK env sc.names [] λp hp hf=>h p.1 (wY.mpr ⟨p,hp,rfl,hf⟩)
 refine⟨cl,?_,λx c hx=>?_,λx hx=>?_⟩
 ·rw[←e1]
  unfold z9r
  simp
 ·rcases e2 x c hx with z|⟨z,p,hp,z1,z2⟩
  ·simp at z
  ·exact⟨z,wY.mpr ⟨p,hp,z1,z2⟩⟩
 ·obtain⟨p,hp,rfl,hf⟩:=wY.mp hx
  exact e4 p hp hf
section
variable {M:Model}{A:Around}{E:Value->Shared->Prop}{s:Shared}{env:Env}
noncomputable def ZG(M:z91)(A:z6e)(E:Value->z5D->Prop)(use:Option (Value->Sem Unit))(Q:Value->z5D->Prop)(acc:Value)(ce:Env):zcm->z5D->Prop
 |.ok _,t=>(match use with
  |none=>∃m,t.heap.Ns ce.locals m/\∀g,z6x ce.locals t.heap g->Q acc {t with heap:=g}
  |some u=>z5K M A (u acc) (λ_ t2=>∃m,t2.heap.Ns ce.locals m/\∀g,z6x ce.locals t2.heap g->Q .none {t2 with heap:=g}) E t)
 |.error x,t=>∃m,t.heap.Ns ce.locals m/\∀g,z6x ce.locals t.heap g->z5K M A (passOn "comprehension.variables-let-go" x ce:Sem Value) (λ_ _=>False) E {t with heap:=g}
theorem YO{e:Expr}{sc:Scope}{pos:Pos}{mk fst:Sem Value}{g:Comprehension}{gs:List Comprehension}{cl:List (Str×Addr)}{use:Option (Value->Sem Unit)}{Q:Value->z5D->Prop}
  (h1:clausesOf e=g::gs) (h2:∀x,z6J g.iter env x=pure x) (h3:z9r sc env=pure cl) (h4:sc.kind=.function) (h5:∀x∈sc.names,x.2=.local->sc.names.lookup x.1=some .local)
  (h:z5K M A fst (λx t1=>z5K M A (pyIter x) (λit t2=>z5K M A mk (λacc t3=>z5K M A (newFunctionEnv sc env.globals cl [] env.qual none .none (some env)) (λce t4=>
    z7n M A (.compStart e 0 it acc {ce with scope:=z6Y sc env}) (ZG M A E use Q acc {ce with scope:=z6Y sc env}) t4) E t3) E t2) E t1) E s) :
  z5K M A (z9L e sc env pos mk false fst use) Q E s:=by
 unfold z9L
 rw[h3,h1]
 have id2:∀(x:Value) (t:z5D),E x t->E x t:=λ_ _ z=>z
 refine z5z (z6j h (λx t1 q1=>?_) id2)
 refine z5z (z6p (z5z (z7K (h2 x) (z5z (z60 (z6j q1 (λit t2 q2=>?_) id2))))))
 refine wpAny_standIf (z5z (z6j q2 (λacc t3 q3=>?_) id2))
 refine z5z (z5E (z5z (z6j q3 (λce t4 q4=>?_) id2)))
 dsimp only
 have lc:∀y∈(sc.names.filter λx=>(x.2 == .local || x.2 == .cell)&&x.1 != (".0":Str)),y.2=.local->zcB {ce with scope:=z6Y sc env} y.1=some .local:=
  λy hy hl=>lookup_relabel_local (h5 y (z6m.mp hy).1 hl)
 have lr:∀y∈(sc.names.filter λx=>(x.2 == .local || x.2 == .cell)&&x.1 != (".0":Str)).reverse,y.2=.local->zcB {ce with scope:=z6Y sc env} y.1=some .local:=
  λy hy=>lc y (List.mem_reverse.mp hy)
 refine z60 (z5z (zaX (z60 (wpAny_run (z76 q4 λr t5 q5=>?_)))))
 cases r with
 |error x=>
  obtain⟨m,hn,q6⟩:=q5
  refine z5z (z60 (za0 (cenv:={ce with scope:=z6Y sc env}) h4 _ t5 m lr hn λg m' _ sb=>?_))
  exact z6j (q6 g sb) (λ_ _ z=>z.elim) id2
 |ok f=>
  cases use with
  |none=>
   obtain⟨m,hn,q6⟩:=q5
   exact z5z (z60 (za0 (cenv:={ce with scope:=z6Y sc env}) h4 _ t5 m lr hn λg m' _ sb=>z5E (q6 g sb)))
  |some u=>
   refine z5z (zad (z5z (z60 (z6j q5 (λ_ t6 q6=>?_) id2))))
   obtain⟨m,hn,q6⟩:=q6
   refine z5z (za0 (cenv:={ce with scope:=z6Y sc env}) h4 _ t6 m (λy hy=>?_) hn λg m' _ sb=>z5E (q6 g sb))
   rcases z5Q.mp hy with z|z
   ·exact lr y (zaF z)
   ·exact lr y (z6H z)
end
section
variable {prog:Program}{w:World}{A:Around}{R:Result->Shared->Prop}{s:Shared}
theorem Yc(elt target iter:Expr)(ifs:List Expr)(scope:Scope)(pos:Pos)(it acc:Value)(env:Env) :
  compTurn (.ListComp elt [⟨target,iter,ifs,0⟩] scope pos) 0 it acc env=(standAt iter.pos >>= λ_=>zaA it >>= λr=>match r with
   |none=>pure (.done .next)
   |some v=>z8j target it v >>= λ_=>z9K target env v >>= λ_=>
    (forIn ifs true λc s=>if s=true then isTrue c env (eval c env) >>= λok=>pure (z74 ok) else pure (z74 s)) >>= λok=>
     if ok=true then (eval elt env >>= λx=>call (.builtin "list.append") [acc,x] >>= λ_=>pure ()) >>= λ_=>
      again (.compLoop (.ListComp elt [⟨target,iter,ifs,0⟩] scope pos) 0 it acc env)
     else again (.compLoop (.ListComp elt [⟨target,iter,ifs,0⟩] scope pos) 0 it acc env)):=by rfl
noncomputable def kl(M:z91)(A:z6e)(env:Env)(E:Value->z5D->Prop):List Expr->(Bool->z5D->Prop)->z5D->Prop
 |[],Q,s=>Q true s
 |c::cs,Q,s=>z5K M A (isTrue c env (eval c env)) (λb s1=>if b=true then kl M A env E cs Q s1 else Q false s1) E s
theorem ui{M:z91}{env:Env}{E:Value->z5D->Prop}{Q:Bool->z5D->Prop}:∀(cs:List Expr) {s:z5D},Q false s->
  z5K M A (forIn cs false λc s=>if s=true then isTrue c env (eval c env) >>= λok=>pure (z74 ok) else pure (z74 s)) Q E s
 |[],s,h=>z5E h
 |c::cs,s,h=>by
  rw[zao]
  refine z5z ?_
  rw[if_neg (by decide)]
  exact z5E (ui cs h)
theorem QG{M:z91}{env:Env}{E:Value->z5D->Prop}{Q:Bool->z5D->Prop}:∀(cs:List Expr) {s:z5D},kl M A env E cs Q s->
  z5K M A (forIn cs true λc s=>if s=true then isTrue c env (eval c env) >>= λok=>pure (z74 ok) else pure (z74 s)) Q E s
 |[],s,h=>z5E h
 |c::cs,s,h=>by
  rw[zao]
  refine z5z ?_
  rw[if_pos rfl]
  refine z5z (thn h λb s1 h1=>z5E ?_)
  cases b with
  |true=>rw[if_pos rfl] at h1;exact QG cs h1
  |false=>rw[if_neg (by decide)] at h1;exact ui cs h1
theorem Jh{elt target iter:Expr}{ifs:List Expr}{scope:Scope}{pos:Pos}{it acc:Value}{env:Env}(I:Nat->z5D->Prop)
  (turn:∀n s,I n s->z5K (z5N prog w) A (zaA it) (λr s₁=>match r with
   |none=>R (.ok .next) s₁
   |some v=>z5K (z5N prog w) A (z8j target it v) (λ_ s₂=>z5K (z5N prog w) A (z9K target env v) (λ_ s₃=>kl (z5N prog w) A env (zcg (z5N prog w) A env λx s'=>R (.error x) s') ifs (λb s₄=>
     if b=true then z5K (z5N prog w) A (eval elt env) (λx s₅=>z5K (z5N prog w) A (call (.builtin "list.append") [acc,x]) (λ_ s₆=>∃m,m<n/\I m s₆) (λ_ _=>False) s₅) (zcg (z5N prog w) A env λx s'=>R (.error x) s') s₄ else ∃m,m<n/\I m s₄) s₃) (λ_ _=>False) s₂) (λ_ _=>False) s₁) (λ_ _=>False) s)
  (n:Nat) (h:I n s):z7n (z5N prog w) A (.compLoop (.ListComp elt [⟨target,iter,ifs,0⟩] scope pos) 0 it acc env) R s:=by
 refine codeAny_loop rfl I (λn s hI=>?_) n h
 show z5K _ _ ((compTurn (.ListComp elt [⟨target,iter,ifs,0⟩] scope pos) 0 it acc env).onRaise (λx=>do zbR x env;theTreesLotGoes x)) _ _ s
 refine wpAny_noted ?_
 rw[Yc]
 have nx:∀{α:Type} {t:Sem α} {Q:α->z5D->Prop} {s:z5D} {N:Value->z5D->Prop},z5K (z5N prog w) A t Q (λ_ _=>False) s->z5K (z5N prog w) A t Q N s:=λh=>z6j h (λ_ _ q=>q) λ_ _ z=>z.elim
 refine z5z (z6p (z5z (nx (thn (turn n s hI) λr s₁ h₁=>?_))))
 cases r with
 |none=>exact z5E h₁
 |some v=>
  refine z5z (nx (thn h₁ λ_ s₂ h₂=>?_))
  refine z5z (nx (thn h₂ λ_ s₃ h₃=>?_))
  refine z5z (thn (QG ifs h₃) λb s₄ h₄=>?_)
  cases b with
  |true=>
   rw[if_pos rfl] at h₄ ⊢
   exact z5z (z5z (thn h₄ λx s₅ h₅=>z5z (nx (thn h₅ λ_ s₆ h₆=>z5E (z5E ⟨rfl,h₆⟩)))))
  |false=>
   rw[if_neg (by decide)] at h₄ ⊢
   exact z5E ⟨rfl,h₄⟩
end
noncomputable abbrev noW:XW:=λ_ _ _ _=>False
noncomputable def cxC (X:Cx)(N:List Str)(sc:Scope)(cl:List (Str×Addr))(C0:Addr)(s3:z5D)(H3:Hp)(fp:List Addr):Cx:=
 {X with N:=N,s₀:=s3,H₀:=H3,env:=z82 sc cl C0 X.env,outer:=X.stack,ex:=fp,fn:=λ_=>false,pn:=[],xe:=λ_ _=>False}
noncomputable def W7(N cel:List Str)(tg:Expr)(sc:Scope):Bool:=
 (sc.kind == .function)&&sc.names.all (λp=>p.2 != .cell)&&sc.names.all (λp=>p.2 != .local || sc.names.lookup p.1 == some .local)&&
 (z9 tg).all (λx=>sc.names.lookup x == some .local&&x != ("__debug__":Str)&&x != ("__classdict__":Str))&&(frees sc).all (λx=>(idx N x).isSome&&sc.names.lookup x == some .free&&cel.contains x&&x != ("__debug__":Str)&&x != ("__classdict__":Str))&&decide ((z9 tg++frees sc).Nodup)&&
 (VB sc).all (λx=>sc.names.lookup x == some .globalImplicit)
structure CompOk(N cel:List Str)(tg:Expr)(sc:Scope):Prop where
 kind:sc.kind=.function
 noc:∀p∈sc.names,p.2≠.cell
 lcl:∀p∈sc.names,p.2=.local->sc.names.lookup p.1=some .local
 own:∀x∈z9 tg,sc.names.lookup x=some .local/\(x == ("__debug__":Str))=false/\(x == ("__classdict__":Str))=false
 fre:∀x∈frees sc,(∃i,idx N x=some i)/\sc.names.lookup x=some .free/\x∈cel/\(x == ("__debug__":Str))=false/\(x == ("__classdict__":Str))=false
 nd:(z9 tg++frees sc).Nodup
 glb:∀x∈VB sc,sc.names.lookup x=some .globalImplicit
theorem JN{N cel:List Str}{tg:Expr}{sc:Scope}(h:W7 N cel tg sc=true):CompOk N cel tg sc:=by
 unfold W7 at h
 simp only[z5B,z6i,beq_iff_eq,bne_iff_ne,z8Z,decide_eq_true_eq,z6a,z8b,ne_eq] at h
 obtain⟨⟨⟨⟨⟨⟨h1,h2⟩,h3⟩,h4⟩,h5⟩,h6⟩,h7⟩:=h
 refine⟨h1,h2,λp hp hl=>?_,λx hx=>?_,λx hx=>?_,h6,h7⟩
 ·rcases h3 p hp with z|z
  ·exact absurd hl z
  ·exact z
 ·obtain⟨⟨a,b⟩,c⟩:=h4 x hx
  exact⟨a,by simpa using b,by simpa using c⟩
 ·obtain⟨⟨⟨⟨a,b⟩,c⟩,d⟩,e⟩:=h5 x hx
  exact⟨a,b,c,by simpa using d,by simpa using e⟩
theorem zY{env:Env}{x:Str}:∀{names:List (Str×z9k)} {kd:z9k},names.lookup x=some kd->
  (names.map λ(n,k)=>if (k == z9M&&env.scope.kind == .function&&env.kindOf n == some .cell) then (n,NameKind.cell) else (n,k)).lookup x=some (if (kd == z9M&&env.scope.kind == .function&&env.kindOf x == some .cell) then .cell else kd)
 |[],_,h=>by simp at h
 |(n,k)::r,kd,h=>by
  have ih:=@zY env x r kd
  rw[z6V]
  rw[z6b] at h
  cases hx:x == n with
  |true=>
   have hx':x=n:=by simpa using hx
   subst hx'
   simp at h
   subst h
   dsimp only
   split<;>simp_all[z6b]
  |false=>
   simp only[hx] at h
   dsimp only
   split
   ·rw[z6b];simp only[hx];exact ih h
   ·rw[z6b];simp only[hx];exact ih h
section
variable {X:Cx}{D:DP}{W:XW}{Γ:Cn}{k:Nat}{pins:List (Addr×Obj)}{s2:Shared}{σ:St}{H2:Hp}{φ α:List Addr}{τ:Sl}{μ:Mem}{tg:Expr}{sc:Scope}{cl:List (Str×Addr)}{fp:List Addr}
noncomputable def Qg (N:List Str)(σ:St)(fs:List Str):St:=fs.map λx=>(idx N x).bind λi=>(σ[i]?).join
noncomputable def vo (N:List Str):List Str->Option (List Nat)
 |[]=>some []
 |x::r=>match idx N x,vo N r with
  |some i,some is=>some (i::is)
  |_,_=>none
theorem ZD:∀(n:Nat) {fs:List Nat} {τ:Sl},blk n fs τ=z7_ n none++Wz fs τ
 |0,_,_=>rfl
 |n+1,fs,τ=>by
  show none::blk n fs τ=_
  rw[ZD n];rfl
theorem yq:∀{fs:List Nat} {τ:Sl},(Wz fs τ).length=fs.length
 |[],_=>rfl
 |i::r,τ=>by show (Wz r τ).length+1=_;rw[yq];rfl
theorem y3:∀{N xs:List Str} {fs:List Nat},vo N xs=some fs->fs.length=xs.length
 |N,[],fs,h=>by cases h;rfl
 |N,x::r,fs,h=>by
  simp only[vo] at h
  split at h
  ·rename_i i is h1 h2
   cases h
   simp[y3 h2]
  ·cases h
theorem Qs{N:List Str}{H:Hp}(sr:SRel D φ α H τ σ):∀{xs:List Str} {fs:List Nat},vo N xs=some fs->∀(j:Nat) (t:T),(Wz fs τ)[j]?=some (some t)->∃v,(Qg N σ xs)[j]?=some (some v)/\Den D φ α H t v
 |[],fs,h,j,t,e=>by cases h;simp[Wz] at e
 |x::r,fs,h,j,t,e=>by
  simp only[vo] at h
  split at h
  ·rename_i i is h1 h2
   cases h
   cases j with
   |zero=>
    have e:some (Zd τ i)=some (some t):=e
    obtain⟨v,hv,d⟩:=sr.get (z5F e)
    exact⟨v,by simp[Qg,h1,hv],d⟩
   |succ j=>
    have e:(Wz is τ)[j]?=some (some t):=e
    obtain⟨v,hv,d⟩:=Qs sr h2 j t e
    exact⟨v,by simpa[Qg] using hv,d⟩
  ·cases h
theorem YX{N:List Str}{H:Hp}{ns xs:List Str}{fs:List Nat}(sr:SRel D φ α H τ σ)(h:vo N xs=some fs):SRel D φ α H (blk ns.length fs τ) (ns.map (λ_=>none)++Qg N σ xs):=by
 rw[ZD]
 refine⟨by simp[yq,y3 h,Qg],λj t e=>?_⟩
 rcases zdi j ns.length with hj|hj
 ·rw[z5I (by simpa using hj),z7E] at e
  split at e<;>cases e
 ·rw[z5U (by simpa using hj)] at e
  rw[z5U (by simpa using hj)]
  simp only[z5R,zas] at e ⊢
  exact Qs sr h _ t e
theorem WX(C:Ck D W Γ X k)(ok:CompOk Γ.N Γ.cel tg sc)(I2:Inv X pins σ H2 s2)(hf:∀b∈fp,Zv X pins H2 b)(hfo:∀b∈fp,∃o,s2.heap.get? b=some o)(hcl:∀x c,cl.lookup x=some c->X.env.cells.lookup x=some c/\x∈frees sc)(hcl2:∀x∈frees sc,∃c,cl.lookup x=some c)
  {h1:Heap} (hns:h1.Ns (s2.heap.objs.size+1) (λ_=>none)) (hsb:z6x (s2.heap.objs.size+1) ((s2.heap.push {cls:=.type "list",data:=.seq ([]:List Value).toArray}).push {cls:=.type "dict",data:=.dict #[]}) h1) {tk:Nat} :
  Inv X pins σ (upd H2 s2.heap.objs.size (.lst [])) {s2 with heap:=s2.heap.push {cls:=.type "list",data:=.seq ([]:List Value).toArray}}/\
  Inv (cxC X (z9 tg++frees sc) sc cl (s2.heap.objs.size+1) {s2 with heap:=s2.heap.push {cls:=.type "list",data:=.seq ([]:List Value).toArray}} (upd H2 s2.heap.objs.size (.lst [])) fp) []
   ((z9 tg).map (λ_=>none)++Qg Γ.N σ (frees sc)) (upd H2 s2.heap.objs.size (.lst [])) {s2 with heap:=h1,toks:=tk}:=by
 have I3:Inv X pins σ (upd H2 s2.heap.objs.size (.lst [])) {s2 with heap:=s2.heap.push {cls:=.type "list",data:=.seq ([]:List Value).toArray}}:=I2.lnew (its:=[]) (t':=s2.toks) .nil (by simp)
 refine⟨I3,?_⟩
 generalize hA:s2.heap.push {cls:=.type "list",data:=.seq ([]:List Value).toArray}=HA at hsb I3 ⊢
 have szA:HA.objs.size=s2.heap.objs.size+1:=by rw[←hA,z6K]
 have old:∀b o,HA.get? b=some o->h1.get? b=some o:=λb o e=>hsb.extBut b o (by rw[←szA];exact z5Z (z5O e)) (z5C _ e)
 have fresh:(upd H2 s2.heap.objs.size (.lst [])) (s2.heap.objs.size+1)=none:=by rw[←szA];exact I3.hok.fresh (z5H _)
 have kindC:∀x∈frees sc,(cxC X (z9 tg++frees sc) sc cl (s2.heap.objs.size+1) {s2 with heap:=HA} (upd H2 s2.heap.objs.size (.lst [])) fp).env.kindOf x=some .cell\/(cxC X (z9 tg++frees sc) sc cl (s2.heap.objs.size+1) {s2 with heap:=HA} (upd H2 s2.heap.objs.size (.lst [])) fp).env.kindOf x=some .free:=λx hx=>by
  have:=zY (env:=X.env) (ok.fre x hx).2.1
  show (z6Y sc X.env).names.lookup x=some .cell\/(z6Y sc X.env).names.lookup x=some .free
  unfold z6Y
  dsimp only
  rw[this]
  split
  ·exact .inl rfl
  ·exact .inr rfl
 refine⟨⟨I2.ok.mod,ok.kind,I2.ok.glob,I2.ok.blt,?_,?_,?_,λx c h=>absurd h (by simp[cxC]),I2.ok.hd,I2.ok.frames,.inl rfl,?_,?_,?_,?_,?_,?_,?_⟩,rfl,I2.bare,Un.kept old,⟨_,hns,?_⟩,?_,fresh,?_,λp hp=>absurd hp (by simp[cxC]),I3.hok.kept old,?_⟩
 ·show HA.objs.size<=s2.heap.objs.size+1
  omega
 ·intro x y c h1 h2
  exact I2.ok.inj x y c (hcl x c h1).1 (hcl y c h2).1
 ·intro x hx
  have hx':(z6Y sc X.env).names.lookup x=some .cell\/(z6Y sc X.env).names.lookup x=some .free:=hx
  by_cases hm:x∈frees sc
  ·exact hcl2 x hm
  ·exfalso
   cases q:sc.names.lookup x with
   |none=>
    have:(z6Y sc X.env).names.lookup x=none:=by
     unfold z6Y
     dsimp only
     rw[List.lookup_eq_none_iff] at q ⊢
     intro p hp
     obtain⟨p0,hp0,rfl⟩:=z6y.mp hp
     have:=q p0 hp0
     try dsimp only
     split<;>exact this
    rw[this] at hx'
    rcases hx' with z|z<;>cases z
   |some kd=>
    have hr:=zY (env:=X.env) q
    have hx2:=hx'
    unfold z6Y at hx2
    dsimp only at hx2
    rw[hr] at hx2
    have hmem:(x,kd)∈sc.names:=z6u q
    by_cases hkf:kd=.free
    ·exact hm (wY.mpr ⟨_,hmem,rfl,hkf⟩)
    ·have e:(kd == z9M)=false:=by simpa using hkf
     rw[e] at hx2
     simp only[zcj,z8p,if_false,z9G] at hx2
     rcases hx2 with z|z
     ·exact ok.noc _ hmem z
     ·exact hkf z
 ·intro b hb
  obtain⟨f0,f1,f2,f3,f4,f5⟩:=hf b hb
  obtain⟨o,ho⟩:=hfo b hb
  refine⟨?_,λx c h=>f4 x c (hcl x c h).1⟩
  show b≠s2.heap.objs.size+1
  exact z5Z (z7W (z5O ho))
 ·intro b o e
  exact I3.bs b o e
 ·exact z62 I3.ok.bsz I3.sz
 ·intro b o e hb
  obtain⟨f0,f1,f2,f3,f4,f5⟩:=hf b hb
  rcases f3 with z|z
  ·exact I2.ok.noex b o e z
  ·exact absurd (z5S (z5O e) (z62 I2.ok.bsz z)) (z7b _)
 ·intro b hb hfs
  obtain⟨f0,f1,f2,f3,f4,f5⟩:=hf b hb
  rcases z65.mp (I2.stkSub b hfs) with z|z
  ·exact f1 z
  ·exact f2 z
 ·exact I3.stack
 ·intro b hb
  exact I3.stkFree b hb
 ·intro i x v hN hσ hv
  obtain⟨m,hn,hl⟩:=I2.loc
  by_cases hi:i<(z9 tg).length
  ·exfalso
   rw[z5I (by simpa using hi),z67] at hσ
   cases q:(z9 tg)[i]? with
   |none=>rw[q] at hσ;cases hσ
   |some y=>rw[q] at hσ;cases hσ
  ·have hN':(frees sc)[i-(z9 tg).length]?=some x:=by
    have:(z9 tg++frees sc)[i]?=some x:=hN
    rwa[z5U (by omega)] at this
   rw[z5U (by simpa using hi)] at hσ
   simp only[z5R] at hσ
   unfold Qg at hσ
   rw[z67,hN'] at hσ
   simp only[zap,z9G] at hσ
   have hx:x∈frees sc:=z5T hN'
   obtain⟨⟨j,hj⟩,_,hcelm,_⟩:=ok.fre x hx
   rw[hj] at hσ
   simp only[z8P] at hσ
   cases u:σ[j]? with
   |none=>rw[u] at hσ;cases hσ
   |some o=>
    rw[u] at hσ
    simp only[Option.join_some] at hσ
    subst hσ
    obtain⟨w,rw',lk⟩:=hl j x v (by rw[C.hN];exact qN hj) u (C.vis x (qt hj))
    refine⟨w,rw',.inr ⟨kindC x hx,?_⟩⟩
    have kx:=C.cel x hcelm
    rcases lk with⟨z,_⟩|⟨_,c,hc,hcell⟩
    ·rw[z] at kx
     rcases kx with kx|kx<;>cases kx
    ·obtain⟨c',hc'⟩:=hcl2 x hx
     have:=(hcl x c' hc').1
     rw[hc] at this
     cases this
     refine⟨c,hc',?_⟩
     obtain⟨oc,ho,hd⟩:=hcell
     exact⟨oc,old c oc (by rw[←hA];exact z5C _ ho),hd⟩
 ·intro x c h
  obtain⟨v,oc,ho,hd⟩:=I2.cell x c (hcl x c h).1
  exact⟨v,oc,old c oc (by rw[←hA];exact z5C _ ho),hd⟩
 ·intro x c h
  exact (I3.freeC x c (hcl x c h).1).imp id λz=>⟨rfl,z.2⟩
 ·show _=(z9 tg++frees sc).length
  simp[Qg]
end
section
variable {X:Cx}{D:DP}{W:XW}{Γ:Cn}{k:Nat}{pins:List (Addr×Obj)}{s:Shared}{σ:St}{H:Hp}{φ α:List Addr}{τ:Sl}{μ:Mem}{tg iter elt:Expr}{sc:Scope}{fp:List Addr}{pos pos':Pos}
noncomputable def inComp(Γ:Cn)(tg:Expr)(sc:Scope):Cn:={Γ with N:=z9 tg++frees sc,G:=(VB sc).filter Γ.U.contains,cel:=frees sc,lam:=none}
theorem Uz{W':XW}{pn:List (Addr×Obj)}{xe:Value->z5D->Prop}(C:Ck D W Γ X k)(ok:CompOk Γ.N Γ.cel tg sc){cl:List (Str×Addr)}{C0:Addr}{s3:z5D}{H3:Hp}
  (hxe:∀e s,XP {(cxC X (z9 tg++frees sc) sc cl C0 s3 H3 fp) with pn:=pn,xe:=xe} W' e s->xe e s):Ck D W' (inComp Γ tg sc) {(cxC X (z9 tg++frees sc) sc cl C0 s3 H3 fp) with pn:=pn,xe:=xe} k:=by
 have kindC:∀x∈frees sc,(z6Y sc X.env).names.lookup x=some .cell\/(z6Y sc X.env).names.lookup x=some .free:=λx hx=>by
  have:=zY (env:=X.env) (ok.fre x hx).2.1
  unfold z6Y
  dsimp only
  rw[this]
  split
  ·exact .inl rfl
  ·exact .inr rfl
 have other:∀{x kd},sc.names.lookup x=some kd->kd≠.free->(z6Y sc X.env).names.lookup x=some kd:=λ{x kd} h hk=>by
  have:=zY (env:=X.env) h
  unfold z6Y
  dsimp only
  rw[this]
  have e:(kd == z9M)=false:=by simpa using hk
  simp[e]
 refine⟨C.hK,rfl,ok.nd,λx hx=>?_,λx hx=>?_,λx hx=>?_,λx hx=>?_,λx hx=>?_,C.glU,kindC,C.isi,C.fld,C.xcx,C.ocx,C.clv,C.clm,C.rom,C.rmh,hxe,?_,LamOk.no rfl,λh=>by cases h⟩
 ·rcases z5Q.mp hx with h|h
  ·exact .inl (other (ok.own x h).1 (by decide))
  ·rcases kindC x h with z|z
   ·exact .inr (.inl z)
   ·exact .inr (.inr z)
 ·rcases z5Q.mp hx with h|h
  ·exact (ok.own x h).2
  ·exact (ok.fre x h).2.2.2
 ·exact (C.glU x (by have:=(z6m.mp hx).2;simpa using this)).2
 ·exact other (ok.glb x (z6m.mp hx).1) (by decide)
 ·exact (C.glU x (by have:=(z6m.mp hx).2;simpa using this)).1
 ·obtain⟨e0,out,L,F⟩:=C.frm
  exact⟨e0,out,L,⟨F.stk,F.f0,F.fe⟩⟩
theorem K3(ok:CompOk Γ.N Γ.cel tg sc){cl:List (Str×Addr)}{C0:Addr}{s3:z5D}{H3:Hp}:Sto (cxC X (z9 tg++frees sc) sc cl C0 s3 H3 fp) (z9 tg):=λx hx=>by
 have e:=zY (env:=X.env) (ok.own x hx).1
 have e':(z6Y sc X.env).names.lookup x=some .local:=by
  unfold z6Y
  dsimp only
  rw[e]
  rfl
 exact⟨.inl e',.inr e'⟩
theorem QZ{M:List Str}{x:Str}:∀{L:List Str} {i:Nat},x∈L->idx (L++M) x=some i->i<L.length
 |[],_,h,_=>absurd h (by simp)
 |y::L,i,h,e=>by
  rw[zbS] at e
  simp only[idx] at e
  split at e
  ·cases e;simp
  ·rename_i hn
   have hm:x∈L:=(z65.mp h).resolve_left λz=>hn z.symm
   cases q:idx (L++M) x with
   |none=>rw[q] at e;cases e
   |some j=>rw[q] at e;cases e;simpa using QZ hm q
theorem uL{n i:Nat}{t:Option T}{τ:Sl}(h:i<n):∀j,n<=j->(ji τ i t)[j]?=τ[j]?:=λj hj=>by
 rw[xB,z5L (by omega)]
theorem uU{L M:List Str}:∀{es:List Expr} {is:List Nat} {ts:List T} {τ τ':Sl},(∀e∈es,∀x p,e=.Name x p->x∈L)->idxs (L++M) es=some is->Q5 is ts τ=some τ'->∀j,L.length<=j->τ'[j]?=τ[j]?
 |[],is,ts,τ,τ',_,h0,h=>by
  cases h0
  cases ts with
  |nil=>cases h;exact λ_ _=>rfl
  |cons _ _=>cases h
 |e::es,is,ts,τ,τ',hn,h0,h=>by
  cases e with
  |Name x p0=>
   simp only[idxs] at h0
   split at h0
   ·rename_i i is' hi his
    cases h0
    cases ts with
    |nil=>cases h
    |cons t ts=>
     intro j hj
     rw[uU (λe he=>hn e (z5M _ he)) his (show Q5 is' ts (ji τ i (some t))=some τ' from h) j hj]
     exact uL (QZ (hn _ z5_ x p0 rfl) hi) j hj
   ·cases h0
  |_=>simp[idxs] at h0
theorem K7{M:List Str}{e:Expr}{tgt:Tg}{t:T}{τ τ':Sl}(h0:wy (z9 e++M) e=some tgt)(h:asg tgt t τ=some τ'):∀j,(z9 e).length<=j->τ'[j]?=τ[j]?:=by
 cases e with
 |Name x p0=>
  simp only[wy] at h0
  cases q:idx (z9 (.Name x p0)++M) x with
  |none=>rw[q] at h0;cases h0
  |some i=>
   rw[q] at h0;cases h0
   cases (z5F h:ji τ i (some t)=τ')
   exact uL (QZ (by simp[z9]) q)
 |Tuple es kk p0=>
  simp only[wy] at h0
  cases q:idxs (z9 (.Tuple es kk p0)++M) es with
  |none=>rw[q] at h0;cases h0
  |some is=>
   rw[q] at h0;cases h0
   cases t with
   |tup ts=>exact uU (λe he x p hx=>by subst hx;exact z7M.mpr ⟨_,he,rfl⟩) q h
   |_=>cases h
 |_=>simp[wy] at h0
noncomputable def Wc (X:Cx)(D:DP)(W:XW):List Expr->List Dt->Prop
 |[],[]=>True
 |e::es,f::fs=>PT X e (rdT D W f)/\Wc X D W es fs
 |_,_=>False
theorem KP{M:z91}{A:z6e}{β:Type}{R:β->Mem->List Addr->Hp->Prop}{fe:De}{kk:Option T->Mem->RE β}{Qf:Bool->z5D->Prop}:∀{cs:List Expr} {fs:List Dt} {s:z5D} {H:Hp} {α:List Addr} {μ:Mem},Wc X D W cs fs->Inv X pins σ H s->SRel D φ α H τ σ->MRel D φ α H μ->Post D W φ α H σ R ((xk fs fe τ μ).bind kk)->
  (∀s' H' α' μ',Inv X pins σ H' s'->Stp α H α' H'->SRel D φ α' H' τ σ->MRel D φ α' H' μ'->Post D W φ α' H' σ R ((fe τ μ').bind λy μ1=>kk (some y) μ1)->Qf true s')->
  (∀s' H' α' μ',Inv X pins σ H' s'->Stp α H α' H'->SRel D φ α' H' τ σ->MRel D φ α' H' μ'->Post D W φ α' H' σ R (kk none μ')->Qf false s')->
  kl (z5N X.prog X.w) X.A X.env X.xe cs Qf s
 |[],[],s,H,α,μ,_,I,sr,mr,p,h1,_=>h1 s H α μ I (Stp.refl _ _) sr mr p
 |[],_::_,_,_,_,_,h,_,_,_,_,_,_=>h.elim
 |_::_,[],_,_,_,_,h,_,_,_,_,_,_=>h.elim
 |c::cs,f::fs,s,H,α,μ,h,I,sr,mr,p,h1,h2=>by
  have p:Post D W φ α H σ R ((f τ μ).bind λb μ1=>(RE.br b (xk fs fe τ μ1) (.ok none μ1)).bind kk):=p
  refine thn (z3P h.1 I sr mr p) ?_
  rintro b s1 ⟨H1,μ1,α1,I1,st1,sr1,mr1,p1⟩
  cases b with
  |true=>
   rw[if_pos rfl]
   exact KP (M:=M) (A:=A) h.2 I1 sr1 mr1 p1 (λs' H' α' μ' a b=>h1 s' H' α' μ' a (st1.trans b)) (λs' H' α' μ' a b=>h2 s' H' α' μ' a (st1.trans b))
  |false=>
   rw[if_neg (by decide)]
   exact h2 s1 H1 α1 μ1 I1 st1 sr1 mr1 p1
end
section
variable {X:Cx}{D:DP}{W:XW}{Γ:Cn}{k:Nat}{pins:List (Addr×Obj)}{s:Shared}{σ:St}{H:Hp}{φ α:List Addr}{τ:Sl}{μ:Mem}{tg iter elt:Expr}{sc:Scope}{fp:List Addr}{pos pos':Pos}
theorem kM{M:z91}{A:z6e}{env:Env}{E E':Value->z5D->Prop}{Q:Bool->z5D->Prop}(h:∀e s,E e s->E' e s):∀{cs:List Expr} {s:z5D},kl M A env E cs Q s->kl M A env E' cs Q s
 |[],_,q=>q
 |c::cs,s,q=>z6j q (λb s1 q1=>by
  cases b with
  |true=>rw[if_pos rfl] at q1 ⊢;exact kM h q1
  |false=>rw[if_neg (by decide)] at q1 ⊢;exact q1) h
theorem XTr.but{C0 x T:Addr}{cls fl:Value}{d:Option Addr}{h g:Heap}(t:XTr h x T cls d fl)(sb:z6x C0 h g)(hx:x≠C0)(hT:T≠C0):XTr g x T cls d fl:=by
 obtain⟨oe,vs,a0,oT,ts,ho,hc,hd,hv0,hv1,hTx,hoT,hdT,h3,hv2⟩:=t
 exact⟨oe,vs,a0,oT,ts,sb.extBut x oe hx ho,hc,hd,hv0,hv1,hTx,sb.extBut T oT hT hoT,hdT,h3,hv2⟩
theorem xr{C0:Addr}{h':Heap}(I:Inv X pins σ H s)(xo:XOk X H C0)(hp:∀q∈pins,q.1≠C0)(sb:z6x C0 s.heap h'):Inv X pins σ H {s with heap:=h'}:=
 Qp (ch:=[C0]) I (λb hb=>by rw[z5J.mp hb];exact⟨xo,hp⟩) (λb o _ hc e=>sb.extBut b o (λz=>hc (by simp[z])) e) λb o _ hc e=>⟨o.slots,sb.extBut b o (λz=>hc (by simp[z])) e⟩
inductive CompI(D:DP)(Xb:Cx)(tn:Nat->Heap->Prop)(fp φ1 α1:List Addr)(H2:Hp)(acc:Addr)(bl:Sl)(xs:List T)(P:Nat->List T->Mem->Prop)(n:Nat)(s':Shared):Prop where
 |mk (i:Nat) (σ':St) (H':Hp) (α':List Addr) (μ':Mem) (yT:List T) (yV:List V) (e:n=xs.length-i) (hi:i<=xs.length) (iv:Inv Xb [] σ' H' s') (t:tn i s'.heap) (fr:∀b∈fp,H' b=none) (st:Stp α1 H2 α' H') (mr:MRel D φ1 α' H' μ') (sr:SRel D φ1 α' H' bl σ') (ac:H' acc=some (.lst yV)) (dl:DenL D φ1 α' H' yT yV) (hy:yT.length<=i) (q:P i yT μ')
inductive CompX(D:DP)(φ1 α1:List Addr)(H2:Hp)(Z0:Xp)(cls:Value)(d:Option Addr)(_:St)(He:Hp):Prop where
 |mk (c:Nat) (fs':List (Nat×T)) (μ':Mem) (α':List Addr) (z:Z0 c fs' μ') (st:Stp α1 H2 α' He) (m:MRel D φ1 α' He μ') (ad:XCv D c fs' cls) (xd:XDict D φ1 α' He fs' d)
structure XbOk(Xb X:Cx)(env:Env)(N:List Str):Prop where
 pr:Xb.prog=X.prog
 w:Xb.w=X.w
 K:Xb.K=X.K
 A:Xb.A=X.A
 en:Xb.env=env
 ca:Xb.calm=X.calm
 st:Xb.stack=X.stack
 N:Xb.N=N
theorem kB{β:Type}{R:β->Mem->List Addr->Hp->Prop}{fi:Di}{fs:List Nat}{tgt:Tg}{ifs:List Expr}{cs:List Dt}{fe:De}{kk:List T->Mem->RE β}{use:Option (Value->Sem Unit)}{Qf:Value->z5D->Prop}
  (C:Ck D W Γ X k) (hc:Γ.calm=true) (ok:CompOk Γ.N Γ.cel tg sc) (hfs:vo Γ.N (frees sc)=some fs) (htg:wy (z9 tg++frees sc) tg=some tgt) (hi:PI X tg iter (rdI D W fi)) (hel:∀X' W',Ck D W' (inComp Γ tg sc) X' k->PE X' elt (rdE D W' fe)) (hts:∀X' W',Ck D W' (inComp Γ tg sc) X' k->Wc X' D W' ifs cs) (hs:∀x,z6J iter X.env x=pure x)
  (I:Inv X pins σ H s) (sr:SRel D φ α H τ σ) (mr:MRel D φ α H μ)
  (p:Post D W φ α H σ R ((fi τ μ).go λxs o μ1=>.grd (xs.length<=room) ((zW tgt (xk cs fe) o (blk (z9 tg).length fs τ) xs μ1).bind kk)))
  (Kq:∀acc C0 s' α1 H1 H' α' ys vs μ',Inv X pins σ H' s'->Stp α H α1 H1->Stp α1 H1 α' H'->H1 acc=none->acc∉φ->acc∉α1->SRel D (φ++[acc]) α' H' τ σ->MRel D (φ++[acc]) α' H' μ'->H' acc=some (.lst vs)->DenL D (φ++[acc]) α' H' ys vs->Post D W φ α1 H1 σ R (kk ys μ')->XOk X H' C0->(∀q∈pins,q.1≠C0)->(∃m,s'.heap.Ns C0 m)->
   (match use with
    |none=>∃m,s'.heap.Ns C0 m/\∀g,z6x C0 s'.heap g->Qf (.ref acc) {s' with heap:=g}
    |some u=>z5K (z5N X.prog X.w) X.A (u (.ref acc)) (λ_ t2=>∃m,t2.heap.Ns C0 m/\∀g,z6x C0 t2.heap g->Qf .none {t2 with heap:=g}) X.xe s')) :
  z5K (z5N X.prog X.w) X.A (z9L (.ListComp elt [⟨tg,iter,ifs,0⟩] sc pos) sc X.env pos' (newList []) false (eval iter X.env) use) Qf X.xe s:=by
 obtain⟨cl,hclos,hcl,hcl2⟩:=xG (sc:=sc) (env:=X.env) λx hx=>I.ok.has x (C.cel x (ok.fre x hx).2.2.1)
 refine YO (use:=use) rfl hs hclos ok.kind ok.lcl (thn (hi pins s σ H (λJ H2=>∃xs o μ1 α1 Ok,ItV D J Ok xs/\OkI D φ α1 H2 xs o Ok/\o μ1/\Stp α H α1 H2/\MRel D φ α1 H2 μ1/\
  Post D W φ α1 H2 σ R (.grd (xs.length<=room) ((zW tgt (xk cs fe) o (blk (z9 tg).length fs τ) xs μ1).bind kk))) I
  ⟨φ,α,τ,μ,sr,mr,(show Post D W φ α H σ R ((fi τ μ).re.bind λpr μ1=>.grd (pr.1.length<=room) ((zW tgt (xk cs fe) pr.2 (blk (z9 tg).length fs τ) pr.1 μ1).bind kk)) from p).bind.mono λpr μ' α' H' st m q J Ok iv okk lv=>⟨pr.1,pr.2,μ',α',Ok,iv,okk,lv,st,m,q⟩⟩) λv s1 h1=>thn h1 λitv s2 h2=>?_)
 obtain⟨it,fp,tn,J,H2,rfl,I2,Tn,tn0,f2,xs,Lv,μ1,α1,Ok,iv,okk,lv1,st1,mr1,p1⟩:=h2
 obtain⟨hroom,K0,Z0,q0,hk0,hz0⟩:=p1.grd
 have fo:∀b∈fp,∃o,s2.heap.get? b=some o:=λb hb=>let ⟨o,e,_⟩:=Tn.obj 0 _ tn0 b hb;⟨o,e⟩
 refine z6_ (zaG ok.noc (by intro y hy;simp at hy) (λh₁ hns₁ hsb₁=>?_) ok.kind)
 have sz:(s2.heap.push {cls:=.type "list",dict:=none,data:=.seq ([]:List Value).toArray}).objs.size=s2.heap.objs.size+1:=z6K ..
 dsimp only at hns₁ hsb₁ ⊢
 rw[sz] at hns₁ hsb₁ ⊢
 have hns:h₁.Ns (s2.heap.objs.size+1) (λ_=>none):=by simpa using hns₁
 obtain⟨I3,J0⟩:=WX (tk:=s2.toks+([]:List (Str×Value)).length) C ok I2 f2 fo hcl hcl2 hns hsb₁
 have hD:H2 s2.heap.objs.size=none:=I2.hok.fresh (z5H _)
 have nph:s2.heap.objs.size∉φ:=zp mr1 hD
 have nal:s2.heap.objs.size∉α1:=zq mr1 hD
 have old:∀b o,s2.heap.get? b=some o->h₁.get? b=some o:=λb o e=>hsb₁.extBut b o (z5Z (z7W (z5O e))) (z5C _ (z5C _ e))
 have n3:({s2 with heap:=s2.heap.push {cls:=.type "list",data:=.seq ([]:List Value).toArray}}:z5D).heap.get? (s2.heap.objs.size+1)=none:=z6d (by show (s2.heap.push _).objs.size<=_;rw[z6K];exact z5H _)
 have xo0:=wD I3 n3
 have pn3:∀q∈pins,q.1≠s2.heap.objs.size+1:=λq hq z=>by
  have:=(I3.pin q (z5P _ hq)).1
  rw[z,n3] at this;cases this
 generalize hS3:({s2 with heap:=s2.heap.push {cls:=.type "list",data:=.seq ([]:List Value).toArray}}:z5D)=S3 at I3 J0 n3
 generalize hH3:upd H2 s2.heap.objs.size (.lst [])=H3 at I3 J0 xo0
 generalize hXb:cxC X (z9 tg++frees sc) sc cl (s2.heap.objs.size+1) S3 H3 fp=Xb at J0
 have hXb':XbOk Xb X (z82 sc cl (s2.heap.objs.size+1) X.env) (z9 tg++frees sc):=by subst hXb;exact⟨rfl,rfl,rfl,rfl,rfl,rfl,rfl,rfl⟩
 have sto:Sto Xb (z9 tg):=by subst hXb;exact K3 (Γ:=Γ) ok
 have cm:Xb.calm=true:=by rw[hXb'.ca];exact C.clm hc
 have back:∀{s4:z5D} {σ4:St} {H4:Hp} {pp:List (Addr×Obj)},Inv Xb pp σ4 H4 s4->Inv X pins σ H4 s4:=λ{s4 σ4 H4 pp} I4=>by
  subst hXb
  exact I3.call' (ch:=fp) I4.os I4.base I4.hok I4.bare λb hb=>by
   obtain⟨f0,f1,f2',f3,f4,f5⟩:=f2 b hb
   exact⟨f3,f1,f4,f5⟩
 have fpk:∀{H':Hp},(∀b∈fp,H' b=none)->∀b∈fp,Zv Xb [] H' b:=λhn b hb=>by
  obtain⟨f0,f1,f2',f3,f4,f5⟩:=f2 b hb
  obtain⟨o,ho⟩:=fo b hb
  subst hXb
  refine⟨hn b hb,z5Z (z7W (z5O ho)),λz=>?_,.inl hb,λx c h=>f4 x c (hcl x c h).1,λq hq=>absurd hq (by simp[cxC])⟩
  rcases z65.mp (I2.stkSub b z) with z|z
  ·exact f1 z
  ·exact f2' z
 have TnI:=Tn.item Xb hXb'.pr hXb'.w hXb'.K cm
 have TnD:=Tn.done Xb hXb'.pr hXb'.w hXb'.K cm
 obtain⟨e0,out,L,F⟩:=C.frm
 have ce:(z82 sc cl (s2.heap.objs.size+1) X.env).frame=some L:=F.fe
 obtain⟨NB,hNB⟩:∃NB:Value->z5D->Prop,NB=zcg (z5N X.prog X.w) X.A (z82 sc cl (s2.heap.objs.size+1) X.env) (λx s'=>ZG (z5N X.prog X.w) X.A X.xe use Qf (.ref s2.heap.objs.size) (z82 sc cl (s2.heap.objs.size+1) X.env) (.error x) s'):=⟨_,rfl⟩
 have leave:∀{pp:List (Addr×Obj)} {e:Value} {t:z5D},(∀b∈fp,∃o,(b,o)∈pp)->XP (Cx.pin' Xb pp) (CompX D (φ++[s2.heap.objs.size]) α1 H2 Z0) e t->
   NB e t:=λ{pp e t} hpp xp=>by
  have Fb:Frm (Cx.pin' Xb pp) e0 out L:=⟨by show Xb.stack=_;rw[hXb'.st];exact F.stk,F.f0,by show Xb.env.frame=_;rw[hXb'.en];exact ce⟩
  have hfr:X.A.frames=some (Cx.pin' Xb pp).stack:=by show _=some Xb.stack;rw[hXb'.st];exact I.ok.frames
  rw[hNB]
  unfold zcg
  rw[show z82 sc cl (s2.heap.objs.size+1) X.env=(Cx.pin' Xb pp).env from hXb'.en.symm]
  refine xm (X:=Cx.pin' Xb pp) Fb hfr xp λx cls d σe He T h' ee Ie ox oT tr w=>?_
  subst ee
  have en:(Cx.pin' Xb pp).env=z82 sc cl (s2.heap.objs.size+1) X.env:=hXb'.en
  rw[en]
  have Iu:Inv Xb pp σe He {t with heap:=h'}:=zV Ie
  have IX:=back Iu
  have nw:∀b,XOk (Cx.pin' Xb pp) He b->XOk X He b/\b≠s2.heap.objs.size+1:=λb o=>by
   have hb:b∉fp:=λz=>by
    obtain⟨ob,hm⟩:=hpp b z
    exact o.pin (b,ob) (z5P _ hm) rfl
   have h3:S3.heap.get? b=none:=by
    have:=o.new
    subst hXb
    exact this.resolve_left hb
   have q:=wD I3 h3
   refine⟨⟨o.free,q.loc,q.nfs,q.new,q.cel,q.pin⟩,?_⟩
   have:=o.loc
   have e2:(Cx.pin' Xb pp).env.locals=s2.heap.objs.size+1:=by rw[en];rfl
   rw[e2] at this;exact this
  have xoC:XOk X He (s2.heap.objs.size+1):=⟨by have:=Iu.free;rw[hXb'.en] at this;exact this,xo0.loc,xo0.nfs,xo0.new,xo0.cel,xo0.pin⟩
  obtain⟨m,hm,_⟩:=Iu.loc
  rw[hXb'.en] at hm
  refine⟨m,hm,λg sb=>?_⟩
  have sb':z6x (s2.heap.objs.size+1) h' g:=sb
  have Ig:Inv X [] σ He {t with heap:=g}:=(xr IX xoC pn3 sb').pins_of λp hp=>absurd hp (by simp)
  have tg':=tr.but sb' (nw x ox).2 (nw T oT).2
  unfold zdj
  obtain⟨oe,vs',a0,oT',ts,ho,hcc,hd,hv0,hv1,hT,hoT,hdT,h3,_⟩:=id tg'
  refine z5z (z7c ho hd hv1 ?_)
  rw[if_neg (show ¬((z61 T == z6E)=true) from by simp)]
  have go:∀{t2:z5D},XP X W (.ref x) t2->z5K (z5N X.prog X.w) X.A (throw (z61 x):Sem Value) (λ_ _=>False) X.xe t2:=λ{t2} xp=>wpAny_throw (C.xe _ _ xp)
  have fin:z5K (z5N X.prog X.w) X.A (z9W (.ref x) (z82 sc cl (s2.heap.objs.size+1) X.env).frame) (λ_ t2=>XP X W (.ref x) t2) X.xe {t with heap:=g}:=by
   refine qB (s:={t with heap:=g}) Ig (nw x ox).1 (nw T oT).1 tg' λh4 I4 tr4=>?_
   obtain⟨c,fs',μ',α',z,stp,m',ad,xd⟩:=w
   refine⟨x,cls,d,σ,He,some T,z6v L,rfl,I4,(nw x ox).1,λt ht=>?_,?_,.inr ⟨L,F.fe,rfl⟩,?_⟩
   ·have:t=T:=by simpa using ht
    rw[this];exact (nw T oT).1
   ·rw[ce] at tr4;exact tr4
   ·refine hz0 c fs' μ' z α' He cls d stp (m'.lk wN (λa ha=>⟨rfl,λz=>m'.dis a ha (z5X _ z)⟩) λb hb=>m'.phi b (z5X _ hb)) ad (xd.lk wN)
  first
   |exact z5z (thn fin λ_ t2 xp=>go xp)
   |exact z5z (z5E (z5z (thn fin λ_ t2 xp=>go xp)))
 have loop:z7n (z5N X.prog X.w) X.A (.compLoop (.ListComp elt [⟨tg,iter,ifs,0⟩] sc pos) 0 (.ref it) (.ref s2.heap.objs.size) (z82 sc cl (s2.heap.objs.size+1) X.env)) (ZG (z5N X.prog X.w) X.A X.xe use Qf (.ref s2.heap.objs.size) (z82 sc cl (s2.heap.objs.size+1) X.env)) {s2 with heap:=h₁,toks:=s2.toks+([]:List (Str×Value)).length}:=by
  obtain⟨LI,hLI⟩:∃LI:Nat->z5D->Prop,LI=CompI D Xb tn fp (φ++[s2.heap.objs.size]) α1 H2 s2.heap.objs.size (blk (z9 tg).length fs τ) xs (λi yT μ'=>Lv μ'/\zW tgt (xk cs fe) Lv (blk (z9 tg).length fs τ) (xs.drop i) μ' (λrest μ2=>kk (yT++rest) μ2 K0 Z0) Z0):=⟨_,rfl⟩
  refine Jh LI ?_ xs.length ?_
  ·intro n s' h0
   rw[hLI] at h0
   obtain⟨i,σ',H',α',μ',yT,yV,rfl,hi',Iv,tni,fr,stp,mr',sr',hacc,dly,hyl,lv',hcmi⟩:=h0
   have okH:Ok (φ++[s2.heap.objs.size]) α' H':=okk _ α' H' μ' ((kh hD).trans stp.lk) mr' lv'
   by_cases hlt:i<xs.length
   ·have TI:=TnI i [] s' σ' H' (λ_ _=>False) Iv (fpk fr) tni (iv.go i _ _ H' okH (by omega))
    rw[hXb'.A] at TI
    refine thn TI ?_
    rintro r s4 ⟨u,rfl,h4⟩
    refine thn h4 ?_
    rintro _ s5 ⟨x,H5,I5,r5,y5,tn5,fr5⟩
    obtain⟨sm5,dx'⟩:=iv.yld i _ _ H' x H5 xs[i] okH (by simp[hlt]) y5
    have stp:=stp.trans (Stp.new (α:=α') sm5)
    have sr':=sr'.step (Stp.new (α:=α') sm5)
    have mr':=mr'.new sm5
    have hacc:=sm5 _ _ hacc
    have dly:=dly.step (Stp.new (α:=α') sm5)
    have hdr:xs.drop i=xs[i]::xs.drop (i+1):=z9y hlt
    rw[hdr] at hcmi
    obtain⟨τ',ha,hfe⟩:=hcmi
    have I5':=I5.pinned (fpk fr5) (Tn.obj _ _ tn5)
    have A6:=Wj (S:=z9 tg) (X:=Xb) hXb'.N ok.nd sto cm (λx h=>h) htg ha I5' sr' dx' r5
    rw[hXb'.pr,hXb'.w,hXb'.A,hXb'.en,show Xb.xe=λ_ _=>False by subst hXb;rfl] at A6
    refine thn A6 ?_
    rintro _ s6 ⟨σ6,I6,sr6⟩
    generalize hpp:([]++xS fp s5.heap:List (Addr×Obj))=pp at I6
    have hppm:∀b∈fp,∃o,(b,o)∈pp:=λb hb=>by
     obtain⟨o,e,_⟩:=Tn.obj _ _ tn5 b hb
     exact⟨o,by rw[←hpp];exact z5P _ (vv hb e)⟩
    generalize hW1:CompX D (φ++[s2.heap.objs.size]) α1 H2 Z0=W1
    have lv:∀e t,XP (Cx.pin' Xb pp) W1 e t->NB e t:=λe t xp=>by
     rw[←hW1] at xp;exact leave hppm xp
    have ck:Ck D W1 (inComp Γ tg sc) ((Cx.pin' Xb pp).wish (XP (Cx.pin' Xb pp) W1)) k:=by
     subst hXb
     exact Uz (W':=W1) (pn:=[]++pp) (xe:=XP (Cx.pin' (cxC X (z9 tg++frees sc) sc cl (s2.heap.objs.size+1) S3 H3 fp) pp) W1) C ok λe s p=>vU (X:=Cx.pin' (cxC X (z9 tg++frees sc) sc cl (s2.heap.objs.size+1) S3 H3 fp) pp) p
    have I6':Inv ((Cx.pin' Xb pp).wish (XP (Cx.pin' Xb pp) W1)) [] σ6 H5 s6:=(QQ I6).wish _
    have next:∀{s7:z5D} {H7:Hp} {α7:List Addr} {μ7:Mem} {yT':List T} {yV':List V},Inv ((Cx.pin' Xb pp).wish (XP (Cx.pin' Xb pp) W1)) [] σ6 H7 s7->Stp α1 H2 α7 H7->MRel D (φ++[s2.heap.objs.size]) α7 H7 μ7->SRel D (φ++[s2.heap.objs.size]) α7 H7 τ' σ6->H7 s2.heap.objs.size=some (.lst yV')->DenL D (φ++[s2.heap.objs.size]) α7 H7 yT' yV'->yT'.length<=i+1->
      Lv μ7->zW tgt (xk cs fe) Lv (blk (z9 tg).length fs τ) (xs.drop (i+1)) μ7 (λrest μ2=>kk (yT'++rest) μ2 K0 Z0) Z0->
      ∃m,m<xs.length-i/\LI m s7:=λ{s7 H7 α7 μ7 yT' yV'} I7 st7 m7 sr7 ac7 dy7 hy7 lv7 q7=>by
     have I7u:Inv Xb pp σ6 H7 s7:=zV I7.unwish
     have pinned:∀b∈fp,∃o,s5.heap.get? b=some o/\s7.heap.get? b=some o/\H7 b=none:=λb hb=>by
      obtain⟨o,e,_⟩:=Tn.obj _ _ tn5 b hb
      have:=I7u.pin (b,o) (z5P _ (by rw[←hpp];exact z5P _ (vv hb e)))
      exact⟨o,e,this.1,this.2.1⟩
     refine⟨xs.length-(i+1),by omega,?_⟩
     rw[hLI]
     refine⟨i+1,σ6,H7,α7,μ7,yT',yV',rfl,hlt,I7u.pins_of (λp hp=>absurd hp (by simp)),Tn.keep _ _ _ tn5 (λb hb o e=>?_),λb hb=>(pinned b hb).choose_spec.2.2,st7,m7,⟨?_,λj t e=>?_⟩,ac7,dy7,hy7,lv7,q7⟩
     ·obtain⟨o',e1,e2,_⟩:=pinned b hb
      rw[e] at e1;cases e1;exact e2
     ·have:=I7u.len
      rw[hXb'.N] at this
      rw[ZD,this]
      simp[yq,y3 hfs]
     ·have hj:(z9 tg).length<=j:=by
       rcases zdi j (z9 tg).length with h|h
       ·rw[ZD,z5I (by simpa using h),z7E] at e
        split at e<;>cases e
       ·exact h
      exact sr7.val j t (by rw[K7 htg ha j hj];exact e)
    have P0:Post D W1 (φ++[s2.heap.objs.size]) α' H5 σ6 (λ(o:Option T) μ7 α7 H7=>match o with
      |some y=>∀v,Den D (φ++[s2.heap.objs.size]) α7 H7 y v->Lv μ7/\zW tgt (xk cs fe) Lv (blk (z9 tg).length fs τ) (xs.drop (i+1)) μ7 (λys μ2=>kk (yT++y::ys) μ2 K0 Z0) Z0
      |none=>Lv μ7/\zW tgt (xk cs fe) Lv (blk (z9 tg).length fs τ) (xs.drop (i+1)) μ7 (λys μ2=>kk (yT++ys) μ2 K0 Z0) Z0) ((xk cs fe τ' μ').bind λo μ7=>RE.ok o μ7):=by
     refine⟨_,Z0,hfe,λo μ7 e α7 H7 st m=>?_,λc fs' μ7 z α7 H7 cv d st m ad xd=>?_⟩
     ·cases o with
      |some y=>exact λv _=>e
      |none=>exact e
     ·rw[←hW1];exact⟨c,fs',μ7,α7,z,stp.trans st,m,ad,xd⟩
    have ep:((Cx.pin' Xb pp).wish (XP (Cx.pin' Xb pp) W1)).prog=X.prog:=hXb'.pr
    have ew:((Cx.pin' Xb pp).wish (XP (Cx.pin' Xb pp) W1)).w=X.w:=hXb'.w
    have eA:((Cx.pin' Xb pp).wish (XP (Cx.pin' Xb pp) W1)).A=X.A:=hXb'.A
    have ee:((Cx.pin' Xb pp).wish (XP (Cx.pin' Xb pp) W1)).env=z82 sc cl (s2.heap.objs.size+1) X.env:=hXb'.en
    have nD:s2.heap.objs.size∉α':=λz=>mr'.dis _ z (by simp)
    have G:=KP (X:=(Cx.pin' Xb pp).wish (XP (Cx.pin' Xb pp) W1)) (M:=z5N X.prog X.w) (A:=X.A) (Qf:=λb s₄=>if b=true then z5K (z5N X.prog X.w) X.A (eval elt (z82 sc cl (s2.heap.objs.size+1) X.env)) (λx s₅=>z5K (z5N X.prog X.w) X.A (call (.builtin "list.append") [.ref s2.heap.objs.size,x]) (λ_ s₆=>∃m,m<xs.length-i/\LI m s₆) (λ_ _=>False) s₅) NB s₄ else ∃m,m<xs.length-i/\LI m s₄) (hts _ W1 ck) I6' sr6 mr' P0 (λs7 H7 α7 μ7 I7 st7 sr7 m7 p7=>?_) (λs7 H7 α7 μ7 I7 st7 sr7 m7 p7=>?_)
    ·rw[ep,ew,eA,ee] at G
     rw[←hNB]
     exact kM (λe t h=>lv e t h) G
    ·rw[if_pos rfl]
     have E7:=sub (hel _ W1 ck) I7 sr7 m7 p7
     rw[ep,ew,eA,ee] at E7
     refine z6j E7 (λx8 s8 h8=>?_) λe t h=>lv e t h
     obtain⟨v8,H8,y8,μ8,α8,I8,r8,st8,sr8,m8,d8,p8⟩:=h8
     have q8:=p8.ok (Stp.refl _ _) m8 v8 d8
     have acc8:H8 s2.heap.objs.size=some (.lst yV):=st8.keep _ _ (λz=>m7.dis _ z (by simp)) (st7.keep _ _ nD hacc)
     have hyv:yV.length<=i:=by rw[←dly.length];exact hyl
     have AP:=uj (X:=Cx.pin' Xb pp) [] s8 σ6 H8 (.ref s2.heap.objs.size) [v8] (.ref s2.heap.objs.size) [x8] (λ_ H9=>H9=upd H8 s2.heap.objs.size (.lst (yV++[v8]))) I8.unwish rfl (.cons r8 .nil) ⟨_,yV,v8,rfl,rfl,acc8,z9s hyv (z5S hlt (zI hroom)),rfl⟩
     rw[show (Cx.pin' Xb pp).prog=X.prog from hXb'.pr,show (Cx.pin' Xb pp).w=X.w from hXb'.w,show (Cx.pin' Xb pp).A=X.A from hXb'.A,show (Cx.pin' Xb pp).xe=λ_ _=>False by subst hXb;rfl] at AP
     refine thn AP ?_
     rintro x9 s9 ⟨v9,H9,I9,r9,rfl⟩
     have inphi:s2.heap.objs.size∈φ++[s2.heap.objs.size]:=by simp
     have t:=(stp.trans st7).trans st8
     have one:DenL D (φ++[s2.heap.objs.size]) α8 H8 [y8] [v8]:=⟨v8,[],rfl,d8,rfl⟩
     refine next (I9.wish _) ⟨t.ext,λb o n e=>?_,λb e=>t.live b ?_⟩ (m8.lk (yf inphi) (λa ha'=>⟨by rw[za (λz=>m8.dis a ha' (by rw[z];simp))],m8.dis a ha'⟩) (λb hb=>?_)) (sr8.lk (yf inphi)) zd ((((dly.step st7).step st8).append one).lk (yf inphi)) (by simp;omega) q8.1 (by simpa using q8.2)
     ·rw[za (zS e hD)];exact t.keep b o n e
     ·by_cases hb:b=s2.heap.objs.size
      ·rw[hb,zd] at e;cases e
      ·rw[za hb] at e;exact e
     ·by_cases hb':b=s2.heap.objs.size
      ·rw[hb',zd];exact⟨_,rfl,rfl⟩
      ·rw[za hb'];exact m8.phi b hb
    ·rw[if_neg (by decide)]
     exact next I7 (stp.trans st7) m7 sr7 (st7.keep _ _ nD hacc) (dly.step st7) (by omega) (p7.ok (Stp.refl _ _) m7).1 (p7.ok (Stp.refl _ _) m7).2
   ·have hie:i=xs.length:=by omega
    have TD:=TnD i [] s' σ' H' (λ_ _=>False) Iv (fpk fr) tni (by rw[hie];exact iv.stop _ _ H' okH)
    rw[hXb'.A] at TD
    refine thn TD ?_
    rintro r s4 ⟨rfl,I4⟩
    have hdr:xs.drop i=[]:=by rw[hie];simp
    rw[hdr] at hcmi
    have q4:kk yT μ' K0 Z0:=by
     have:kk (yT++[]) μ' K0 Z0:=hcmi
     simpa using this
    have I5:=back I4
    obtain⟨m,hm,_⟩:=I4.loc
    rw[hXb'.en] at hm
    exact Kq s2.heap.objs.size (s2.heap.objs.size+1) s4 α1 H2 H' α' yT yV μ' I5 st1 stp hD nph nal (((sr.step st1).lk (kh hD)).step stp) mr' hacc dly ⟨K0,Z0,q4,hk0,hz0⟩ ⟨by have:=I4.free;rw[hXb'.en] at this;exact this,xo0.loc,xo0.nfs,xo0.new,xo0.cel,xo0.pin⟩ pn3 ⟨m,hm⟩
  ·have sm:vZ H2 H3:=by rw[←hH3];exact zj hD
   rw[hLI]
   refine⟨0,_,_,α1,μ1,[],[],rfl,z8r _,J0,Tn.keep _ _ _ tn0 λb hb o e=>old b o e,λb hb=>?_,Stp.new sm,?_,?_,by rw[←hH3];exact zd,rfl,z5H _,lv1,by simpa using q0⟩
   ·obtain⟨o,ho⟩:=fo b hb
    rw[←hH3,za (z5Z (z5O ho))]
    exact (f2 b hb).1
   ·refine mr1.lk (Qx hD sm) (λa ha=>?_) λb hb=>?_
    ·have na:a≠s2.heap.objs.size:=λz=>nal (z▸ha)
     exact⟨by rw[←hH3];exact za na,λz=>(z5Q.mp z).elim (mr1.dis a ha) λz=>na (z5J.mp z)⟩
    ·rcases z5Q.mp hb with z|z
     ·obtain⟨o,e,n⟩:=mr1.phi b z
      exact⟨o,sm b o e,n⟩
     ·rw[z5J.mp z,←hH3,zd];exact⟨_,rfl,rfl⟩
   ·exact (YX (sr.step st1) hfs).lk (Qx hD sm)
 exact codeAny_compStart_list loop (z6j (Tn.self _ 0 _ _ _ (Tn.keep _ _ _ tn0 λb hb o e=>old b o e) loop) (λ_ _ q=>q) λ_ _ q=>q)
end
section
variable {X:Cx}{D:DP}{W:XW}{Γ:Cn}{k:Nat}{pins:List (Addr×Obj)}{s:Shared}{σ:St}{H:Hp}{φ α:List Addr}{τ:Sl}{μ:Mem}{tg iter elt:Expr}{sc:Scope}{pos:Pos}{fi:Di}{fs:List Nat}{tgt:Tg}{ifs:List Expr}{cs:List Dt}{fe:De}
theorem Ql{β:Type}{R:β->Mem->List Addr->Hp->Prop}{kk:T->Mem->RE β}{acc:Addr}{α1 α':List Addr}{H1 H':Hp}{ys:List T}{vs:List V}{μ':Mem}(st:Stp α1 H1 α' H')(hn:H1 acc=none)(nph:acc∉φ)(mr:MRel D (φ++[acc]) α' H' μ')(ha:H' acc=some (.lst vs))(dl:DenL D (φ++[acc]) α' H' ys vs)(p:Post D W φ α1 H1 σ R (kk (.lst ys) μ')) :
  MRel D φ α' H' μ'/\Den D φ α' H' (.lst ys) (.ref acc)/\Post D W φ α' H' σ R (kk (.lst ys) μ'):=
 ⟨mr.lk wN (λa ha=>⟨rfl,λz=>mr.dis a ha (z5X _ z)⟩) λb hb=>mr.phi b (z5X _ hb),⟨acc,vs,rfl,nph,λz=>mr.dis _ z (by simp),.inl ha,dl.lk wN⟩,p.step st⟩
theorem jx{acc:Addr}{α':List Addr}{H':Hp}:Lk (φ++[acc]) α' H' φ (α'++[acc]) H':=⟨λa o n1 n2 e=>⟨λz=>n1 (z5X _ z),λz=>(z5Q.mp z).elim n2 λz=>n1 (by rw[z5J.mp z];simp),e⟩,λi a e=>by
 rw[z5I (z5A.mp e).1];exact e⟩
theorem uS{acc:Addr}{α1 α':List Addr}{H1 H':Hp}{ys:List T}{vs:List V}{μ':Mem}(st:Stp α1 H1 α' H')(hn:H1 acc=none)(nph:acc∉φ)(mr:MRel D (φ++[acc]) α' H' μ')(ha:H' acc=some (.lst vs))(dl:DenL D (φ++[acc]) α' H' ys vs) :
  Stp α1 H1 (α'++[acc]) H'/\MRel D φ (α'++[acc]) H' (μ'++[.lst ys])/\Den D φ (α'++[acc]) H' (.mut μ'.length) (.ref acc):=by
 have nal:acc∉α':=λz=>mr.dis _ z (by simp)
 refine⟨?_,⟨by simp[mr.len],?_,λb hb=>?_,λb hb=>mr.phi b (z5X _ hb),λi a o e1 e2=>?_⟩,acc,by rw[←mr.len,z5U (z5H _)];simp,rfl⟩
 ·obtain⟨β,e,hβ⟩:=st.ext
  exact⟨⟨β++[acc],by rw[e];simp,λb hb=>(z5Q.mp hb).elim (hβ b) λz=>by rw[z5J.mp z];exact hn⟩,st.keep,st.live⟩
 ·rw[z7U]
  exact⟨mr.nd,by simp,λa ha b hb z=>nal (by rw[z5J.mp hb] at z;exact z▸ha)⟩
 ·rcases z5Q.mp hb with h|h
  ·exact λz=>mr.dis b h (z5X _ z)
  ·rw[z5J.mp h];exact nph
 ·by_cases hi:i<α'.length
  ·rw[z5I hi] at e1
   rw[z5I (by rw[←mr.len];exact hi)] at e2
   exact (mr.ob i a o e1 e2).lk jx rfl
  ·have hl:=mr.len
   rw[z5U (by omega)] at e1 e2
   have hi':i-α'.length=0:=by
    by_cases z:i-α'.length=0
    ·exact z
    ·rw[z8K (by simp;omega)] at e1;cases e1
   have hi2:i-μ'.length=0:=by omega
   rw[hi'] at e1
   rw[hi2] at e2
   have e1:some acc=some a:=e1
   have e2:some (MO.lst ys)=some o:=e2
   cases e1;cases e2
   exact⟨vs,ha,dl.lk jx⟩
theorem VI(C:Ck D W Γ X k)(hc:Γ.calm=true)(ok:CompOk Γ.N Γ.cel tg sc)(hfs:vo Γ.N (frees sc)=some fs)(htg:wy (z9 tg++frees sc) tg=some tgt)(hi:PI X tg iter (rdI D W fi))(hel:∀X' W',Ck D W' (inComp Γ tg sc) X' k->PE X' elt (rdE D W' fe))(hts:∀X' W',Ck D W' (inComp Γ tg sc) X' k->Wc X' D W' ifs cs)(hs:∀x,z6J iter X.env x=pure x) :
  PE X (.ListComp elt [⟨tg,iter,ifs,0⟩] sc pos) (rdE D W (qR (z9 tg).length fs tgt fi cs fe)):=by
 rintro pins s σ H Q I ⟨φ,α,τ,μ,sr,mr,p⟩
 rw[eval_ListComp]
 refine kB (kk:=λys μ=>RE.ok (T.lst ys) μ) (use:=none) (Qf:=EP X pins σ Q) C hc ok hfs htg hi hel hts hs I sr mr p ?_
 rintro acc C0 s' α1 H1 H' α' ys vs μ' I' st1 st hn nph nal sr' m ha dl post xo hp ⟨mm,hm⟩
 obtain⟨m2,d,post⟩:=Ql (kk:=λt μ=>RE.ok t μ) st hn nph m ha dl post
 exact⟨mm,hm,λg sb=>⟨.ref acc,H',xr I' xo hp sb,rfl,post.here m2 d⟩⟩
theorem Qm(C:Ck D W Γ X k)(hc:Γ.calm=true)(ok:CompOk Γ.N Γ.cel tg sc)(hfs:vo Γ.N (frees sc)=some fs)(htg:wy (z9 tg++frees sc) tg=some tgt)(hi:PI X tg iter (rdI D W fi))(hel:∀X' W',Ck D W' (inComp Γ tg sc) X' k->PE X' elt (rdE D W' fe))(hts:∀X' W',Ck D W' (inComp Γ tg sc) X' k->Wc X' D W' ifs cs)(hs:∀x,z6J iter X.env x=pure x) :
  PE X (.ListComp elt [⟨tg,iter,ifs,0⟩] sc pos) (rdE D W (va (z9 tg).length fs tgt fi cs fe)):=by
 rintro pins s σ H Q I ⟨φ,α,τ,μ,sr,mr,p⟩
 rw[eval_ListComp]
 refine kB (kk:=λys μ=>RE.ok (T.mut μ.length) (μ++[MO.lst ys])) (use:=none) (Qf:=EP X pins σ Q) C hc ok hfs htg hi hel hts hs I sr mr p ?_
 rintro acc C0 s' α1 H1 H' α' ys vs μ' I' st1 st hn nph nal sr' m ha dl post xo hp ⟨mm,hm⟩
 obtain⟨st2,m2,d⟩:=uS st hn nph m ha dl
 exact⟨mm,hm,λg sb=>⟨.ref acc,H',xr I' xo hp sb,rfl,post.ok st2 m2 _ d⟩⟩
theorem wc{x:Str}{g:GM}(h:Γ.look x=g)(hg:g≠.bad):x∈Γ.G/\Γ.gl x=g:=by
 unfold Cn.look at h
 split at h
 ·rename_i hm
  exact⟨by simpa using hm,h⟩
 ·exact absurd h.symm hg
theorem uu{iter:Expr}(h:wB iter=true):∀x,z6J iter X.env x=pure x:=by
 intro x
 cases iter<;>first|rfl|(simp[wB] at h)
end
structure PostH(D:DP)(W:XW)(φ α:List Addr)(H:Hp)(E:Ends)(Q:En):Prop where
 nx:∀τ μ,Q.nx τ μ->∀α' H' σ',Stp α H α' H'->MRel D φ α' H' μ->SRel D φ α' H' τ σ'->E.nx σ' H'
 bk:∀τ μ,Q.bk τ μ->∀α' H' σ',Stp α H α' H'->MRel D φ α' H' μ->SRel D φ α' H' τ σ'->E.bk σ' H'
 ct:∀τ μ,Q.ct τ μ->∀α' H' σ',Stp α H α' H'->MRel D φ α' H' μ->SRel D φ α' H' τ σ'->E.ct σ' H'
 rt:∀t μ,Q.rt t μ->∀α' H' v,Stp α H α' H'->MRel D φ α' H' μ->Den D φ α' H' t v->E.rt v H'
 ex:∀c fs τ μ,Q.ex c fs τ μ->∀α' H' σ' cv d,Stp α H α' H'->MRel D φ α' H' μ->SRel D φ α' H' τ σ'->XCv D c fs cv->XDict D φ α' H' fs d->W cv d σ' H'
inductive PostS(D:DP)(W:XW)(φ α:List Addr)(H:Hp)(E:Ends)(o:Out):Prop where
 |mk (Q:En) (q:o Q) (h:PostH D W φ α H E Q)
noncomputable def rdS (D:DP)(W:XW)(f:Ds):TS:=λE σ H=>RdP D H σ λφ α τ μ=>PostS D W φ α H E (f τ μ)
structure Sk(D:DP)(W:XW)(Γ:Cn)(X:Cx)(k:Nat):Prop extends Ck D W Γ X k where
 sto:Sto X Γ.sto
 lcl:∀x∈Γ.N,Γ.cel.contains x=false->X.env.scope.names.lookup x=some .local
 pso:zbL (z5N X.prog X.w) X.A X.env X.xe
 xmt:∀t x c,(x,c)∈Γ.cls->c<40->∀Ct Cc,D.adr t=some Ct->X.mg x=some (.ref Cc)->z6Z X.K (.ref Ct) (.ref Cc)=some (qp t c)
section
variable {X:Cx}{D:DP}{W:XW}{Γ:Cn}{k:Nat}{pins:List (Addr×Obj)}{s:Shared}{σ:St}{H:Hp}{φ α:List Addr}{τ:Sl}{μ:Mem}{f g:De}{a b c e:Expr}{pos:Pos}{E:Ends}{u v:Ds}
theorem PostS.step{α':List Addr}{H':Hp}{o:Out}(p:PostS D W φ α H E o)(st:Stp α H α' H'):PostS D W φ α' H' E o:=by
 obtain⟨Q,q,h1,h2,h3,h4,h5⟩:=p
 exact⟨Q,q,λτ μ z α2 H2 σ2 s2=>h1 τ μ z α2 H2 σ2 (st.trans s2),λτ μ z α2 H2 σ2 s2=>h2 τ μ z α2 H2 σ2 (st.trans s2),λτ μ z α2 H2 σ2 s2=>h3 τ μ z α2 H2 σ2 (st.trans s2),λτ μ z α2 H2 σ2 s2=>h4 τ μ z α2 H2 σ2 (st.trans s2),λc fs τ μ z α2 H2 σ2 C d s2=>h5 c fs τ μ z α2 H2 σ2 C d (st.trans s2)⟩
theorem PostS.elim{C:Prop}(p:PostS D W φ α H E Out.st):C:=by obtain⟨_,q,_⟩:=p;exact q.elim
theorem PostS.nx{τ:Sl}{μ:Mem}(p:PostS D W φ α H E (.nx τ μ)){α':List Addr}{H':Hp}{σ':St}(s:Stp α H α' H')(m:MRel D φ α' H' μ)(r:SRel D φ α' H' τ σ'):E.nx σ' H':=by
 obtain⟨Q,q,h1,_⟩:=p
 exact h1 τ μ q α' H' σ' s m r
theorem PostS.rt{t:T}{μ:Mem}(p:PostS D W φ α H E (.rt t μ)){α':List Addr}{H':Hp}{v:V}(s:Stp α H α' H')(m:MRel D φ α' H' μ)(r:Den D φ α' H' t v):E.rt v H':=by
 obtain⟨Q,q,_,_,_,h,_⟩:=p
 exact h t μ q α' H' v s m r
theorem PostS.ex{c:Nat}{fs:List (Nat×T)}{τ:Sl}{μ:Mem}(p:PostS D W φ α H E (.ex c fs τ μ)){α':List Addr}{H':Hp}{σ':St}{cv:Value}{d:Option Addr}(s:Stp α H α' H')(m:MRel D φ α' H' μ)(r:SRel D φ α' H' τ σ')(ad:XCv D c fs cv)(x:XDict D φ α' H' fs d):W cv d σ' H':=by
 obtain⟨Q,q,_,_,_,_,h⟩:=p
 exact h c fs τ μ q α' H' σ' cv d s m r ad x
theorem PostS.grd{c:Prop}{o:Out}(p:PostS D W φ α H E (Out.grd c o)):c/\PostS D W φ α H E o:=by
 obtain⟨Q,q,h⟩:=p
 exact⟨q.1,Q,q.2,h⟩
theorem PostS.som{γ:Type}{o:Option γ}{k:γ->Out}(p:PostS D W φ α H E (Out.som o k)):∃a,o=some a/\PostS D W φ α H E (k a):=by
 obtain⟨Q,⟨a,e,q⟩,h⟩:=p
 exact⟨a,e,Q,q,h⟩
theorem PostS.br{b:Bool}{r s:Out}(p:PostS D W φ α H E (Out.br b r s)):(b=true/\PostS D W φ α H E r)\/(b=false/\PostS D W φ α H E s):=by
 obtain⟨Q,q,h⟩:=p
 cases b with
 |true=>exact .inl ⟨rfl,Q,q,h⟩
 |false=>exact .inr ⟨rfl,Q,q,h⟩
theorem PostS.ex2{δ1 δ2:Type}{P P2:δ1->δ2->Prop}{r:δ1->δ2->Out}(p:PostS D W φ α H E (λQ=>∃x y,P x y/\P2 x y/\r x y Q)):∃x y,P x y/\P2 x y/\PostS D W φ α H E (r x y):=by
 obtain⟨Q,⟨x,y,h1,h2,q⟩,h⟩:=p
 exact⟨x,y,h1,h2,Q,q,h⟩
theorem PostS.ex1{δ1:Type}{P P2:δ1->Prop}{r:δ1->Out}(p:PostS D W φ α H E (λQ=>∃x,P x/\P2 x/\r x Q)):∃x,P x/\P2 x/\PostS D W φ α H E (r x):=by
 obtain⟨Q,⟨x,h1,h2,q⟩,h⟩:=p
 exact⟨x,h1,h2,Q,q,h⟩
theorem PostS.out{β:Type}{r:RE β}{kk:β->Mem->Out}(sr:SRel D φ α H τ σ)(p:PostS D W φ α H E (r.out τ kk)):Post D W φ α H σ (λt μ' α' H'=>PostS D W φ α' H' E (kk t μ')) r:=by
 obtain⟨Q,q,h⟩:=p
 refine⟨_,_,q,λa μ' e α' H' st m=>PostS.step ⟨Q,e,h⟩ st,λc fs μ' e α' H' C d st m ad xd=>?_⟩
 exact h.ex c fs τ μ' e α' H' σ C d st m (sr.step st) ad xd
theorem z1M(ha:PE X a (rdE D W f)):PS X (.Return (some a) pos) (rdS D W (zA f)):=by
 rintro pins s σ H E I ⟨φ,α,τ,μ,sr,mr,p⟩
 refine z26 ha pins s σ H E I ⟨φ,α,τ,μ,sr,mr,(PostS.out sr p).mono λt μ' α' H' st m q v d=>PostS.rt q (Stp.refl _ _) m d⟩
theorem UJ:PS X (.Return none pos) (rdS D W Kl):=by
 rintro pins s σ H E I ⟨φ,α,τ,μ,sr,mr,p⟩
 exact Uo pins s σ H E I (PostS.rt p (Stp.refl _ _) mr rfl)
theorem UN(hs:z8N a none pos.line X.env=pure false)(ha:PE X a (rdE D W f)):PS X (.Expr a pos) (rdS D W (zJ f)):=by
 rintro pins s σ H E I ⟨φ,α,τ,μ,sr,mr,p⟩
 refine ZK ha hs pins s σ H E I ⟨φ,α,τ,μ,sr,mr,(PostS.out sr p).mono λt μ' α' H' st m q v d=>PostS.nx q (Stp.refl _ _) m (sr.step st)⟩
theorem Uc:PSs X [] (rdS D W (qF [])):=by
 rintro pins s σ H E I ⟨φ,α,τ,μ,sr,mr,p⟩
 exact Vp pins s σ H E I (PostS.nx p (Stp.refl _ _) mr sr)
theorem JR{st:Stmt}{r:List Stmt}{fs:List Ds}(h1:PS X st (rdS D W u))(h2:PSs X r (rdS D W (qF fs))):PSs X (st::r) (rdS D W (qF (u::fs))):=by
 rintro pins s σ H E I ⟨φ,α,τ,μ,sr,mr,Q,q,h3,h4,h5,h6,h7⟩
 refine yj h1 h2 pins s σ H E I ⟨φ,α,τ,μ,sr,mr,_,q,λτ1 μ1 e α' H' σ' st m sr'=>?_,h4,h5,h6,h7⟩
 exact⟨φ,α',τ1,μ1,sr',m,PostS.step ⟨Q,e,h3,h4,h5,h6,h7⟩ st⟩
noncomputable def ua (X:Cx)(D:DP)(W:XW):List Stmt->List Ds->Prop
 |[],[]=>True
 |e::es,f::fs=>PS X e (rdS D W f)/\ua X D W es fs
 |_,_=>False
theorem wd:∀{sts:List Stmt} {fs:List Ds},ua X D W sts fs->PSs X sts (rdS D W (qF fs))
 |[],[],_=>Uc
 |st::r,f::fs,h=>JR h.1 (wd h.2)
 |[],_::_,h=>h.elim
 |_::_,[],h=>h.elim
theorem z4h{ft:Dt}{as bs:List Stmt}{us vs:List Ds}(hc:PT X c (rdT D W ft))(ha:ua X D W as us)(hb:ua X D W bs vs):PS X (.If c as bs pos) (rdS D W (sIf ft us vs)):=by
 rintro pins s σ H E I ⟨φ,α,τ,μ,sr,mr,p⟩
 refine z48 hc (wd ha) (wd hb) pins s σ H E I ⟨φ,α,τ,μ,sr,mr,(PostS.out sr p).mono λb μ' α' H' st m q=>?_⟩
 rcases PostS.br q with⟨rfl,q⟩|⟨rfl,q⟩
 ·exact⟨φ,α',τ,μ',sr.step st,m,q⟩
 ·exact⟨φ,α',τ,μ',sr.step st,m,q⟩
noncomputable def nFz (Γ:Cn)(tg:Expr):Bool:=(z9 tg).all λx=>!Γ.fz.contains x
theorem Zc{tg:Expr}(h:nFz Γ tg=true)(m:∀x∈z9 tg,x∈Γ.N):∀x∈z9 tg,x∈Γ.sto:=λx hx=>z6m.mpr ⟨m x hx,z6i.mp h x hx⟩
theorem X_(C:Sk D W Γ X k){x:Str}{i:Nat}{p0:Pos}(hi:idx Γ.N x=some i)(hz:nFz Γ (.Name x p0)=true)(hs:z8N a (some (.Name x p0)) pos.line X.env=pure false)(ha:PE X a (rdE D W f)):PS X (.Assign [.Name x p0] a pos) (rdS D W (zx i f)):=by
 rintro pins s σ H E I ⟨φ,α,τ,μ,sr,mr,p⟩
 have hx:=Zc hz (λy hy=>by rw[z5J.mp hy];exact qt hi) x (z5J.mpr rfl)
 refine z2S (i:=i) (X:=X) (by rw[C.hN];exact C.nd) (by rw[C.hN];exact qN hi) (C.sto x hx).1 ha hs (C.sto x hx).2 pins s σ H E I ⟨φ,α,τ,μ,sr,mr,(PostS.out sr p).mono λt μ' α' H' st m q v d=>?_⟩
 exact PostS.nx q (Stp.refl _ _) m ((sr.step st).set d)
theorem Qe{N:List Str}:∀{es:List Expr} {is:List Nat},idxs N es=some is->∀e∈es,∀x p,e=.Name x p->x∈N
 |[],_,_,e,he,_,_,_=>absurd he (by simp)
 |e0::es,is,h,e,he,x,p,hx=>by
  cases e0 with
  |Name y p0=>
   simp only[idxs] at h
   split at h
   ·rename_i i is' hi his
    rcases z65.mp he with rfl|he
    ·cases hx;exact qt hi
    ·exact Qe his e he x p hx
   ·cases h
  |_=>simp[idxs] at h
theorem Ym{N:List Str}{e:Expr}{tgt:Tg}(h:wy N e=some tgt):∀x∈z9 e,x∈N:=by
 intro x hx
 cases e with
 |Name y p=>
  simp[z9] at hx
  subst hx
  simp only[wy] at h
  cases q:idx N x with
  |none=>rw[q] at h;cases h
  |some i=>exact qt q
 |Tuple es kk p=>
  obtain⟨e,he,q⟩:=z7M.mp hx
  simp only[wy] at h
  cases q2:idxs N es with
  |none=>rw[q2] at h;cases h
  |some is=>
   cases e with
   |Name y p0=>
    have q:some y=some x:=q
    cases q
    exact Qe q2 _ he x p0 rfl
   |_=>cases q
 |_=>simp[z9] at hx
theorem z0K(C:Sk D W Γ X k)(hc:X.calm=true){tg:Expr}{tgt:Tg}(ht:wy Γ.N tg=some tgt)(hz:nFz Γ tg=true):PG X tg (λv σ H Q=>∃φ α τ t τ',SRel D φ α H τ σ/\Den D φ α H t v/\asg tgt t τ=some τ'/\∀σ',SRel D φ α H τ' σ'->Q σ' H):=by
 rintro pins s σ H v u Q I r ⟨φ,α,τ,t,τ',sr,d,ha,q⟩
 refine thn (Wj (S:=Γ.sto) C.hN C.nd C.sto hc (Zc hz (Ym ht)) ht ha I sr d r) ?_
 rintro _ s1 ⟨σ',I1,sr'⟩
 exact⟨σ',H,I1,q σ' sr'⟩
noncomputable def jS:Expr->Bool
 |.Call _ _ _ _=>true
 |.Name _ _=>true
 |.Subscript _ _ _=>true
 |.Attribute _ _ _=>true
 |_=>false
theorem z2x(C:Sk D W Γ X k)(hc:Γ.calm=true){es:List Expr}{is:List Nat}{kk:Nat}{p0:Pos}(hp:jS a=true)(hn:idxs Γ.N es=some is)(hz:nFz Γ (.Tuple es kk p0)=true)(ha:PE X a (rdE D W f)):PS X (.Assign [.Tuple es kk p0] a pos) (rdS D W (z3V is f)):=by
 rintro pins s σ H E I ⟨φ,α,τ,μ,sr,mr,p⟩
 have h1:zaT [.Tuple es kk p0] a pos.line X.env=pure false:=by cases a<;>first|(simp[jS] at hp;done)|rfl
 have h2:zaU [.Tuple es kk p0] a X.env=pure none:=by cases a<;>first|(simp[jS] at hp;done)|rfl
 refine K2 ha (z0K C (C.clm hc) (tg:=.Tuple es kk p0) (tgt:=.tup is) (by simp[wy,hn]) hz) h1 h2 rfl pins s σ H E I ⟨φ,α,τ,μ,sr,mr,(PostS.out sr p).mono λt μ' α' H' st m q v d=>?_⟩
 obtain⟨τ',h,q⟩:=PostS.som q
 exact⟨φ,α',τ,t,τ',sr.step st,d,h,λσ' sr'=>PostS.nx q (Stp.refl _ _) m sr'⟩
theorem z2I(C:Sk D W Γ X k){o:Expr}{x:Str}{n:Nat}{p1:Pos}{go:De}(hn:(x,n)∈Γ.fld)(ha:PE X a (rdE D W f))(ho:PE X o (rdE D W go)) :
  PS X (.Assign [.Attribute o x p1] a pos) (rdS D W (qH go n f)):=by
 rintro pins s σ H E I ⟨φ,α,τ,μ,sr,mr,p⟩
 have hs:z8N a (some (.Attribute o x p1)) pos.line X.env=pure false:=by cases a<;>rfl
 refine z2O ho ha hs pins s σ H E I ⟨φ,α,τ,μ,sr,mr,(PostS.out sr p).mono λt μ1 α1 H1 st1 m1 q v d=>?_⟩
 have sr1:=sr.step st1
 refine⟨φ,α1,τ,μ1,sr1,m1,(PostS.out sr1 q).mono λot μ2 α2 H2 st2 m2 q2 ov dv=>?_⟩
 split at q2
 case h_2=>exact PostS.elim q2
 rename_i i
 obtain⟨c,fs,hμ,hl,q2⟩:=PostS.ex2 q2
 obtain⟨y,hx,rfl⟩:=dv
 obtain⟨C0,dx,gs,ad,hH,df⟩:=m2.ob i y _ hx hμ
 obtain⟨fx,cl,na⟩:=C.fld c C0 x n ad hn
 refine⟨y,C0,dx,gs,rfl,hH,cl,na,by rw[←df.length];omega,?_⟩
 have st3:Stp α2 H2 α2 (upd H2 y (.ins C0 dx (wM x v gs))):=Stp.turn (z5T hx) ⟨_,hH⟩
 have hi:i<μ2.length:=(z5A.mp hμ).1
 exact PostS.nx q2 st3 (m2.turn hx hi st3 ⟨C0,dx,_,ad,zd,DenF.put fx (df.step st3) ((d.step st2).step st3)⟩) ((sr1.step st2).step st3)
theorem set_list:z3N X (λo i v H Q=>∃l k xs,o=.ref l/\i=.int k/\H l=some (.lst xs)/\0<=k/\k<xs.length/\k<9223372036854775808/\Q (upd H l (.lst (xs.set k.toNat v)))):=by
 intro pins s σ H o i v ov iv u Q I ro ri rv h
 obtain⟨l,k,xs,rfl,rfl,hH,h0,h1,h2,q⟩:=h
 cases ro
 obtain⟨t,rfl⟩:=ri
 obtain⟨z,its,n,r,hl,e⟩:=I.lstM hH
 refine PySem.W.ki_setAt (n:=n) (items:=its.toArray) e h0 (by simpa using h2) (by rw[z5W,←hl];exact h1) ?_
 exact⟨_,I.lset (t':=s.toks) (ys:=xs.set k.toNat v) (its':=its.set k.toNat u) (f:=λa=>a.setIfInBounds k.toNat u) hH e (by simp) (Vals.set rv _ r) (by rw[List.length_set];exact z),q⟩
theorem z1P(C:Sk D W Γ X k){o:Expr}{p1:Pos}{fo fb:De}(hb':wG b=true)(ha:PE X a (rdE D W f))(ho:PE X o (rdE D W fo))(hb:PE X b (rdE D W fb)) :
  PS X (.Assign [.Subscript o b p1] a pos) (rdS D W (Yu fo fb f)):=by
 rintro pins s σ H E I ⟨φ,α,τ,μ,sr,mr,p⟩
 have h1:zaT [.Subscript o b p1] a pos.line X.env=pure false:=by cases a<;>rfl
 have h2:zaU [.Subscript o b p1] a X.env=pure none:=by cases a<;>rfl
 refine K2 ha (z18 ho hb set_list (λv=>by cases b<;>first|(simp[wG] at hb';done)|rfl)) h1 h2 rfl pins s σ H E I ⟨φ,α,τ,μ,sr,mr,(PostS.out sr p).mono λt μ1 α1 H1 st1 m1 q v d=>?_⟩
 have sr1:=sr.step st1
 refine⟨φ,α1,τ,μ1,sr1,m1,(PostS.out sr1 q).mono λot μ2 α2 H2 st2 m2 q2 ov dv=>?_⟩
 have sr2:=sr1.step st2
 refine⟨φ,α2,τ,μ2,sr2,m2,(PostS.out sr2 q2).mono λit μ3 α3 H3 st3 m3 q3 iv di=>?_⟩
 have d3:=(d.step st2).step st3
 split at q3
 case h_2=>exact PostS.elim q3
 rename_i i kk
 have dv:=dv.step st3
 obtain⟨ts,hμ,hk,q3⟩:=PostS.ex1 q3
 obtain⟨x,hx,rfl⟩:=dv
 have di:iv=.int kk:=di
 subst di
 obtain⟨xs,hH,l⟩:=m3.ob i x _ hx hμ
 have st4:Stp α3 H3 α3 (upd H3 x (.lst (xs.set kk.toNat v))):=Stp.turn (z5T hx) ⟨_,hH⟩
 have hi:i<μ3.length:=(z5A.mp hμ).1
 exact⟨x,kk,xs,rfl,rfl,hH,hk.1,by rw[←l.length];exact hk.2.1,hk.2.2,PostS.nx q3 st4 (m3.turn hx hi st4 ⟨_,zd,DenL.set (l.step st4) (d3.step st4)⟩) ((sr2.step st3).step st4)⟩
theorem z0T(C:Sk D W Γ X k)(hc:Γ.calm=true){tg iter:Expr}{tgt:Tg}(ht:wy Γ.N tg=some tgt)(hz:nFz Γ tg=true){fi:Di}{body:List Stmt}{vs:List Ds}(hi:PI X tg iter (rdI D W fi))(hb:ua X D W body vs)(hs:∀x,z6J iter X.env x=pure x) :
  PS X (.For tg iter body [] pos) (rdS D W (K1 tgt fi vs)):=by
 rintro pins s σ H E I ⟨φ,α,τ,μ,sr,mr,p⟩
 refine z1W C.pso (C.clm hc) hi (z0K C (C.clm hc) ht hz) (wd hb) hs pins s σ H E I ⟨φ,α,τ,μ,sr,mr,(PostS.out sr (show PostS D W φ α H E ((fi τ μ).re.out τ λpr μ1=>forM tgt (qF vs) pr.2 pr.1 τ μ1) from p)).mono λpr μ1 α1 H1 st1 m1 q J Ok iv okk lv1=>?_⟩
 obtain⟨xs,o⟩:=pr
 obtain⟨Q,q,h1,h2,h3,h4,h5⟩:=q
 refine⟨λi m σ' H'=>m=xs.length-i/\i<=xs.length/\∃α' τ' μ',Stp α1 H1 α' H'/\MRel D φ α' H' μ'/\SRel D φ α' H' τ' σ'/\o μ'/\forM tgt (qF vs) o (xs.drop i) τ' μ' Q,⟨xs.length,by simp,z8r _,α1,τ,μ1,Stp.refl _ _,m1,sr.step st1,lv1,by simpa using q⟩,?_⟩
 rintro i m σ' H' ⟨rfl,hi',α',τ',μ',stp,mr',sr',lv',pf⟩
 have okH:Ok φ α' H':=okk _ α' H' μ' stp.lk mr' lv'
 by_cases hlt:i<xs.length
 ·refine .inr ⟨iv.go i _ _ H' okH hlt,λσ2 H2=>∃α2 τ2 μ2,Stp α1 H1 α2 H2/\MRel D φ α2 H2 μ2/\SRel D φ α2 H2 τ2 σ2/\o μ2/\forM tgt (qF vs) o (xs.drop (i+1)) τ2 μ2 Q,λσ2 H2 h2=>⟨xs.length-(i+1),by omega,rfl,hlt,h2⟩,λx H2 y=>?_⟩
  obtain⟨sm,dx⟩:=iv.yld i _ _ H' x H2 xs[i] okH (by simp[hlt]) y
  have stp:=stp.trans (Stp.new (α:=α') sm)
  have sr':=sr'.step (Stp.new (α:=α') sm)
  have mr':=mr'.new sm
  rw[z9y hlt] at pf
  obtain⟨τ3,ha,pf⟩:=pf
  refine⟨φ,α',τ',xs[i],τ3,sr',dx,ha,λσ3 sr3=>⟨φ,α',τ3,μ',sr3,mr',_,pf,?_,?_,?_,?_,?_⟩⟩
  ·exact λτ4 μ4 e α4 H4 σ4 st4 m4 sr4=>⟨α4,τ4,μ4,stp.trans st4,m4,sr4,e⟩
  ·exact λτ4 μ4 e α4 H4 σ4 st4 m4 sr4=>h1 τ4 μ4 e α4 H4 σ4 (stp.trans st4) m4 sr4
  ·exact λτ4 μ4 e α4 H4 σ4 st4 m4 sr4=>⟨α4,τ4,μ4,stp.trans st4,m4,sr4,e⟩
  ·exact λt μ4 e α4 H4 v st4 m4 d4=>h4 t μ4 e α4 H4 v (stp.trans st4) m4 d4
  ·exact λc fs τ4 μ4 e α4 H4 σ4 Cc d st4 m4 sr4=>h5 c fs τ4 μ4 e α4 H4 σ4 Cc d (stp.trans st4) m4 sr4
 ·have hie:i=xs.length:=by omega
  rw[hie,List.drop_length] at pf
  exact .inl ⟨by rw[hie];exact iv.stop _ _ H' okH,h1 τ' μ' pf α' H' σ' stp mr' sr'⟩
theorem z05(C:Sk D W Γ X k)(hc:Γ.calm=true){tg iter elt:Expr}{sc:Scope}{fi:Di}{fs:List Nat}{tgt:Tg}{ifs:List Expr}{cs:List Dt}{fe:De}{x:Str}{ix:Nat}{p0 p1:Pos}(hix:idx Γ.N x=some ix)(hz:nFz Γ (.Name x p0)=true)(ok:CompOk Γ.N Γ.cel tg sc)(hfs:vo Γ.N (frees sc)=some fs)(htg:wy (z9 tg++frees sc) tg=some tgt)(hi:PI X tg iter (rdI D W fi))(hel:∀X' W',Ck D W' (inComp Γ tg sc) X' k->PE X' elt (rdE D W' fe))(hts:∀X' W',Ck D W' (inComp Γ tg sc) X' k->Wc X' D W' ifs cs)(hs:∀x,z6J iter X.env x=pure x)
  (own:Bool) (hsw:z8N (.ListComp elt [⟨tg,iter,ifs,0⟩] sc p1) (some (.Name x p0)) pos.line X.env=pure true) :
  PS X (.Assign [.Name x p0] (.ListComp elt [⟨tg,iter,ifs,0⟩] sc p1) pos) (rdS D W (zx ix (match own with|true=>va (z9 tg).length fs tgt fi cs fe|false=>qR (z9 tg).length fs tgt fi cs fe))):=by
 rintro pins s σ H E I ⟨φ,α,τ,μ,sr,mr,p⟩
 rw[exec_Assign_Name_used _ _ _ _ hsw]
 refine z5z (z6p (z5z ?_))
 show z5K _ _ (do let _ ←z9L (.ListComp elt [⟨tg,iter,ifs,0⟩] sc p1) sc X.env _ (newList []) false (eval iter X.env) (some (z9K (.Name x p0) X.env))) _ _ s
 refine z5z (thn (kB (kk:=λys μ=>match own with|true=>RE.ok (T.mut μ.length) (μ++[MO.lst ys])|false=>RE.ok (T.lst ys) μ) (use:=some (z9K (.Name x p0) X.env)) (Qf:=λ_ s'=>∃σ' H',Inv X pins σ' H' s'/\E.nx σ' H') C.toCk hc ok hfs htg hi hel hts hs I sr mr (PostS.out sr (by cases own<;>exact p)) ?_) λ_ s' hq=>z5E (z5E hq))
 rintro acc C0 s' α1 H1 H' α' ys vs μ' I' st1 st hn nph nal sr' m ha dl post xo hp ⟨mm,hm⟩
 have hx:=qt hix
 obtain⟨oc,es,ep,hoc,hdc,hrest⟩:=hm
 have I2:Inv X (pins++[(C0,oc)]) σ H' s':=I'.pins_of λp hp'=>(z5Q.mp hp').elim (λz=>I'.pin p (z5P _ z)) λz=>by
  rw[z5J.mp z]
  exact⟨hoc,xo.free,xo.loc,xo.nfs,λv e=>by rw[hdc] at e;cases e⟩
 have fin:∀{α'':List Addr} {t:T} {μ2:Mem},SRel D φ α'' H' τ σ->Den D φ α'' H' t (.ref acc)->(∀σ',SRel D φ α'' H' (ji τ ix (some t)) σ'->E.nx σ' H')->z5K (z5N X.prog X.w) X.A (z9K (.Name x p0) X.env (.ref acc)) (λ_ t2=>∃m,t2.heap.Ns C0 m/\∀g,z6x C0 t2.heap g->∃σ' H',Inv X pins σ' H' {t2 with heap:=g}/\E.nx σ' H') X.xe s':=λ{α'' t μ2} sr2 d q=>by
  refine thn (Wj (e:=.Name x p0) (S:=Γ.sto) (tgt:=.one ix) (t:=t) (τ:=τ) C.hN C.nd C.sto (C.clm hc) (Zc hz λy hy=>by rw[z5J.mp hy];exact hx) (by simp[wy,hix]) rfl I2 sr2 d (show RelV (.ref acc) (.ref acc) from rfl)) ?_
  rintro _ s2 ⟨σ',I3,sr3⟩
  have hpin:=(I3.pin (C0,oc) (z5P _ (z5P _ (z5J.mpr rfl)))).1
  refine⟨mm,⟨oc,es,ep,hpin,hdc,hrest⟩,λg sb=>⟨σ',H',?_,q σ' sr3⟩⟩
  exact xr (I3.pins_of λp hp'=>I3.pin p (z5P _ (z5X _ hp'))) xo hp sb
 cases own with
 |false=>
  obtain⟨m2,d,post⟩:=Ql (kk:=λt μ=>RE.ok t μ) st hn nph m ha dl post
  exact fin (μ2:=μ') (sr'.lk wN) d λσ' sr3=>PostS.nx (post.ok (Stp.refl _ _) m2) (Stp.refl _ _) m2 sr3
 |true=>
  obtain⟨st2,m2,d⟩:=uS st hn nph m ha dl
  exact fin (μ2:=μ') (sr'.lk jx) d λσ' sr3=>PostS.nx (post.ok st2 m2) (Stp.refl _ _) m2 sr3
end
noncomputable def z3L(C:Addr)(h:Heap):Prop:=∃tl N nm q bs hd sn sub ab col dd k0 k1 k2 k3 k5 mN,h.get? C=some (z7q nm q C N bs tl hd sn sub ab col dd k0 k1 k2 k3 k5 "ValueError.__new__")/\h.Ns N mN/\mN "__init__"=none/\zaM h zX tl
theorem Qc {K:z5G} {h:Heap} {C:Addr} (kin:K.In h) (e:z8e K C zX "ValueError.__new__"=true):z3L C h:=by
 simp only[z8e] at e
 revert e
 cases hk:K.lookup C with
 |none=>intro e;cases e
 |some o=>
  intro e
  split at e
  case h_2=>cases e
  rename_i dd cd sl ho
  cases ho
  split at e
  case h_2=>cases e
  rename_i C' tl k0 k1 k2 k3 n k5 hm hs
  simp only[z5B,beq_iff_eq,z70] at e
  obtain⟨⟨⟨⟨⟨e1,e2⟩,e3⟩,e4⟩,e5⟩,e6⟩:=e
  cases cd
  rename_i nm bs mro ns qn hd sn sub ab col del
  simp only at hm e3 e5 e6
  cases e1;cases e2;cases hm;cases e3
  have hsl:sl=#[k0,k1,k2,k3,some (.builtin "ValueError.__new__"),k5]:=by
   cases sl;simp only at hs;rw[hs]
  cases hsl
  exact⟨tl,ns,nm,qn,bs,hd,sn,sub,ab,col,dd,k0,k1,k2,k3,k5,h.nsMap ns,kin _ _ hk,.of_isNs (z9t kin e5),PySem.W.nsMap_none_of_in kin e5 e6,PySem.W.tail_of_in kin e4⟩
section
variable {X:Cx}{pins:List (Addr×Obj)}{s:Shared}{σ:St}{H:Hp}
theorem J9{i:Nat}{x:Str}{m:Str->Option Value}{h':Heap}{u:Option Value}{tk:Nat}(I:Inv X pins σ H s)(hN:X.N.Nodup)(hi:X.N[i]?=some x)
  (hm:∀(i:Nat) (x:Str) (v:V),X.N[i]?=some x->σ[i]?=some (some v)->Vis X.env.scope x->∃u,RelV v u/\Look X.env s.heap m x u)
  (hn:h'.Ns X.env.locals λy=>if y=x then u else m y) (hs:z6x X.env.locals s.heap h'):Inv X pins (σ.set i none) H {s with heap:=h',toks:=tk}:=by
 have cne:=I.cne
 have low:∀b o,X.s₀.heap.get? b=some o->b≠X.env.locals:=λb o e=>z5Z (z5S (z5O e) I.ok.above)
 refine⟨I.ok,I.os,I.bare,⟨λb o e n hb hx=>?_,λb o e n hb hx=>?_,I.base.free,λb o e hx=>?_,I.base.tups,I.base.frzs,I.base.tbls⟩,⟨_,hn,λj y v e1 e2 e3=>?_⟩,λy c e=>?_,I.free,I.freeC,λp hp=>?_,λb ob e=>?_,by simpa using I.len⟩
 ·exact (hs.2 b (low b o e)).trans (I.base.keep b o e n hb hx)
 ·obtain⟨sl,e1⟩:=I.base.slot b o e n hb hx
  exact⟨sl,(hs.2 b (low b o e)).trans e1⟩
 ·obtain⟨o',e1⟩:=I.base.there b o e hx
  exact⟨o',(hs.2 b (low b o e)).trans e1⟩
 ·by_cases hj:j=i
  ·subst hj
   rw[z8w] at e2
   cases q:σ[j]? with
   |none=>rw[q] at e2;cases e2
   |some w=>rw[q] at e2;cases e2
  ·rw[z5L (z6k hj)] at e2
   obtain⟨w,r,q⟩:=hm j y v e1 e2 e3
   refine⟨w,r,?_⟩
   rcases q with⟨k,e⟩|⟨k,c,e,z⟩
   ·have:y≠x:=λz=>hj (jF hN e1 (by rw[z];exact hi))
    exact .inl ⟨k,by simp[this,e]⟩
   ·exact .inr ⟨k,c,e,z.sameBut hs (cne y c e)⟩
 ·obtain⟨w,z⟩:=I.cell y c e
  exact⟨w,z.sameBut hs (cne y c e)⟩
 ·obtain⟨e,n,ne,nf,d⟩:=I.pin p hp
  exact⟨(hs.2 p.1 ne).trans e,n,ne,nf,d⟩
 ·refine (I.hok b ob e).stay (λc w hc q=>(hs.2 c ?_).trans q) (λ_ q=>q) λ_ _ q=>q
  rintro rfl
  rcases hc with rfl|hc
  ·rw[I.free] at e;cases e
  ·rw[I.free] at hc;cases hc
theorem Jz{x C:Addr}{d:Option Addr}(I:Inv X pins σ H s)(ox:XOk X H x)(hp:∀p∈pins,p.1≠x)(hx:yR x C d s.heap):Inv X pins σ (upd H x (.ext (yR x C d))) s:=by
 have ne:∀b,H b≠none->b≠x:=λb h z=>h (by rw[z];exact ox.free)
 refine⟨I.ok,I.os,I.bare,⟨I.base.keep,I.base.slot,λb o e n hx'=>?_,I.base.there,λb xs e=>?_,λb o u e=>?_,λb ps e=>?_⟩,I.loc,I.cell,?_,λy c e=>?_,λp hp'=>?_,λb ob e=>?_,I.len⟩
 ·have:b≠x:=λz=>by
   rcases ox.new with q|q
   ·exact hx' (by rw[z];exact q)
   ·rw[←z,e] at q;cases q
  rw[za this];exact I.base.free b o e n hx'
 ·have q:=I.base.tups b xs e
  rw[za (ne b (by rw[q];simp))];exact q
 ·have q:=I.base.frzs b o u e
  rw[za (ne b (by rw[q];simp))];exact q
 ·obtain⟨more,q⟩:=I.base.tbls b ps e
  exact⟨more,by rw[za (ne b (by rw[q];simp))];exact q⟩
 ·rw[za (z6k ox.loc)];exact I.free
 ·rw[za (ox.cel y c e)];exact I.freeC y c e
 ·obtain⟨e,n,r⟩:=I.pin p hp'
  have:p.1≠x:=(z5Q.mp hp').elim (ox.pin p) (hp p)
  exact⟨e,by rw[za this];exact n,r⟩
 ·by_cases z:b=x
  ·subst z
   rw[zd] at e
   cases e
   obtain⟨oe,vs,h1,h2⟩:=id hx
   refine⟨hx,⟨oe,h1⟩,λg1 g2 p k=>?_⟩
   obtain⟨oe',vs',h1',h2'⟩:=p
   exact⟨oe',vs',k _ h1',h2'⟩
  ·rw[za z] at e
   have sm:∀c o,H c=some o->upd H x (.ext (yR x C d)) c=some o:=λc o q=>by rw[za (ne c (by rw[q];simp))];exact q
   exact (I.hok b ob e).stay (λ_ _ _ q=>q) (λc q=>sm c _ q) λc xs q=>sm c _ q
end
section
variable {X:Cx}{D:DP}{W:XW}{Γ:Cn}{k:Nat}{pins:List (Addr×Obj)}{s:Shared}{σ:St}{H:Hp}{φ α:List Addr}{τ:Sl}{μ:Mem}{a b c e:Expr}{pos:Pos}{E:Ends}{es:List Expr}{fs:List De}
theorem X1(C:Sk D W Γ X k)(hc:Γ.calm=true){x:Str}{n:Nat}{p0 p1:Pos}(hx:x∈Γ.G)(hg:Γ.gl x=.xcl n)(ha:EsOk X D W (a::es) fs) :
  PS X (.Raise (some (.Call (.Name x p0) (a::es) [] p1)) none pos) (rdS D W (zG n fs)):=by
 rintro pins s σ H E I ⟨φ,α,τ,μ,sr,mr,p⟩
 have q:=C.glo x hx
 rw[hg] at q
 obtain⟨C0,ad,hm,hex⟩:=q
 have hs:=ha.stars
 obtain⟨tl,N,nm,qn,bs,hd,sn,sub,ab,col,dd,k0,k1,k2,k3,k5,mN,o1,o2,o3,o4⟩:=Qc I.ok.mod.kin hex
 have hb:tl.contains (.type "BaseException")=true:=o4.hasType z6N.hasBase
 have hp:(z7u p1 (z6o (a::es) X.env)).any (·.1)=false:=q9 hs
 refine wpAny_Raise_call_subT (nm:=nm) (q:=qn) (C:=C0) (N:=N) (bs:=bs) (bm:=tl) (hdct:=hd) (sn:=sn) (sub:=sub) (ab:=ab) (col:=col) (dd:=dd) (k0:=k0) (k1:=k1) (k2:=k2) (k3:=k3) (k5:=k5) (mN:=mN) z6N hb (I.ok.hd (C.clm hc)) hp o3 ?_
 refine wb I (C.glb x hx) hm ⟨rfl,?_⟩ (C.dbG x hx)
 have hs1:noStar a=true:=by simp only[z6s,z5B] at hs;exact hs.1
 have sA:=thn (qX ha p1 pins s σ H (λvs H1=>∃ts μ1 α1,Stp α H α1 H1/\SRel D φ α1 H1 τ σ/\MRel D φ α1 H1 μ1/\DenL D φ α1 H1 ts vs/\PostS D W φ α1 H1 E (.grd (ts.length<=room) (.ex n [] τ μ1))) I ⟨φ,α,τ,μ,sr,mr,(PostS.out sr p).mono λts μ' α' H' st m q vs d _=>⟨ts,μ',α',st,sr.step st,m,d,q⟩⟩) (Q':=λus s1=>us.length<=sizeLine/\s1.heap.get? C0=some (z7q nm qn C0 N bs tl hd sn sub ab col dd k0 k1 k2 k3 k5 "ValueError.__new__")/\s1.heap.Ns N mN/\zaM s1.heap zX tl/\∀h' e,z8C s1.heap h' e (.ref C0) us->X.xe (.ref e) {s1 with heap:=h'}) ?_
 ·rw[z8 hs1] at sA ⊢
  exact z80 (thn sA λus s1 h1=>⟨rfl,h1⟩)
 ·rintro us s1 ⟨vs,H1,I1,r,ts,μ1,α1,st,sr1,m1,dl,q⟩
  obtain⟨hl,q⟩:=PostS.grd q
  refine⟨?_,I1.bk _ _ o1,o2.keeps I1.bk,o4.keeps I1.bk,λh' e mk=>?_⟩
  ·have e1:=dl.length
   have e2:=r.length
   have:=zI hl
   rw[←e2,←e1]
   exact this
  ·exact C.xe _ _ (UE I1 mk (PostS.ex q (Stp.refl _ _) m1 sr1 (.own C0 ad rfl) rfl))
theorem XTr.at{h:Heap}{x T C:Addr}{xfs:List (Nat×NH.T)}{d:Option Addr}{fl:Value}(t:XTr h x T (cvF xfs C) d fl):yR x C d h:=by
 obtain⟨oe,vs,a0,oT,ts,h1,⟨h2,h3⟩,h4,_⟩:=t
 exact⟨oe,vs,h1,h2.trans ZX,h4,h3⟩
theorem XTr.ty{M:z91}{h:Heap}{x T:Addr}{cls:Value}{d:Option Addr}{fl:Value}(t:XTr h x T cls d fl):z9N M h (typeOf (.ref x)) (stC cls):=by
 obtain⟨oe,vs,a0,oT,ts,h1,⟨h2,h3⟩,h4,_⟩:=t
 exact h2▸(zdN h1).andThen .now
theorem XTr.keeps{h g:Heap}{x T:Addr}{cls:Value}{d:Option Addr}{fl:Value}(t:XTr h x T cls d fl)(k:∀b o,h.get? b=some o->g.get? b=some o):XTr g x T cls d fl:=by
 obtain⟨oe,vs,a0,oT,ts,h1,h2,h3,h4,h5,h6,h7,h8,h9,h10⟩:=t
 exact⟨oe,vs,a0,oT,ts,k _ _ h1,h2,h3,h4,h5,h6,k _ _ h7,h8,h9,h10⟩
noncomputable def HcOk (Γ:Cn)(x:Str)(c:Nat):Prop:=x∈Γ.G/\(x,c)∈Γ.cls/\((∃f,Γ.gl x=.xcf c f)\/Γ.gl x=.xcl c)/\c<40
noncomputable def JC(Γ:Cn)(x:Str)(c:Nat):Prop:=∃n,x∈Γ.G/\Γ.gl x=.xbt c n
noncomputable def z5a (Γ:Cn):Option Str->Option Nat->Prop
 |none,none=>True
 |some e,some j=>idx Γ.N e=some j/\Γ.cel.contains e=false
 |_,_=>False
noncomputable def z0X (Γ:Cn)(t:Expr)(cs:List Nat):Prop:=(∃x p c,t=.Name x p/\cs=[c]/\HcOk Γ x c)\/
 ∃x1 x2 x3 x4 p1 p2 p3 p4 c1 c2 c3 c4 kt pt,t=.Tuple [.Name x1 p1,.Name x2 p2,.Name x3 p3,.Name x4 p4] kt pt/\cs=[c1,c2,c3,c4]/\(HcOk Γ x1 c1\/JC Γ x1 c1)/\(HcOk Γ x2 c2\/JC Γ x2 c2)/\(HcOk Γ x3 c3\/JC Γ x3 c3)/\(HcOk Γ x4 c4\/JC Γ x4 c4)
noncomputable def z0m (D:DP)(Γ:Cn)(k:Nat):List z8f->List (List Nat×Option Nat×List Ds)->Prop
 |[],[]=>True
 |h::hs,g::r=>(∃t nm b0 suite pp cs i vs,h=.ExceptHandler (some t) nm (b0::suite) pp/\g=(cs,i,vs)/\z0X Γ t cs/\(nm=none\/∃x p c,t=.Name x p/\cs=[c]/\HcOk Γ x c)/\z5a Γ nm i/\∀X',Sk D noW {Γ with calm:=false} X' k->ua X' D noW (b0::suite) vs)/\z0m D Γ k hs r
 |_,_=>False
theorem HcOk.mg(C:Sk D W Γ X k){x:Str}{c:Nat}(h:HcOk Γ x c):∃Cc,X.mg x=some (.ref Cc)/\D.adr c=some Cc:=by
 have q:=C.glo x h.1
 rcases h.2.2.1 with⟨f,g⟩|g
 ·rw[g] at q
  obtain⟨Cc,ad,hm⟩:=q
  exact⟨Cc,hm,ad⟩
 ·rw[g] at q
  obtain⟨Cc,ad,hm,_⟩:=q
  exact⟨Cc,hm,ad⟩
theorem Yb{c kk:Nat}{n:String}(h:bxN kk=some n)(ne:c≠kk):qp kk c=false:=by
 have e:kk=8\/kk=9:=by
  unfold bxN at h
  split at h
  ·exact .inl ‹_›
  ·split at h
   ·exact .inr ‹_›
   ·cases h
 have nb:z6X kk c=false:=by
  cases q:z6X kk c with
  |false=>rfl
  |true=>exact absurd (z7T q).symm ne
 rcases e with rfl|rfl<;>(show bOr (z6X _ c) _=false;rw[nb])
theorem YB(C:Sk D W Γ X k){x:Str}{c kk:Nat}{cv:Value}{xfs:List (Nat×T)}{Cc:Addr}(ad:XCv D kk xfs cv)(hc:HcOk Γ x c)(hm:X.mg x=some (.ref Cc))(hac:D.adr c=some Cc):z6Z X.K (stC cv) (.ref Cc)=some (qp kk c):=by
 cases ad with
 |own Ck ad e=>rw[e,ZX];exact C.xmt kk x c hc.2.1 hc.2.2.2 Ck Cc ad hm
 |blt n h hn e=>
  have ne:c≠kk:=λz=>by rw[z,hn] at hac;cases hac
  rw[Yb h ne,e]
  have q:=C.xmt c x c hc.2.1 hc.2.2.2 Cc Cc hac hm
  unfold z6Z at q ⊢
  split at q
  ·rename_i q1
   rw[if_pos q1]
   unfold zaH at q ⊢
   dsimp only at q ⊢
   split at q
   ·rename_i q2
    rw[if_pos q2]
    unfold bxN at h
    split at h
    ·cases h;rfl
    ·split at h
     ·cases h;rfl
     ·cases h
   ·cases q
  ·cases q
theorem vC{K:z5G}:z7S K (.type "KeyError") (.type "BaseException")=some true/\z7S K (.type "ZeroDivisionError") (.type "BaseException")=some true/\z7S K (.type "KeyError") (.type "KeyError")=some true/\z7S K (.type "KeyError") (.type "ZeroDivisionError")=some false/\z7S K (.type "ZeroDivisionError") (.type "KeyError")=some false/\z7S K (.type "ZeroDivisionError") (.type "ZeroDivisionError")=some true:=by
 refine⟨?_,?_,?_,?_,?_,?_⟩<;>(simp only[z7S];kernel_rfl)
theorem xx:zc5 "KeyError"=true/\zc5 "ZeroDivisionError"=true:=by decide +kernel
theorem z3e{kk c:Nat}(hc:c=8\/c=9)(ne:kk≠c):qp kk c=false:=by
 have nb:z6X kk c=false:=by
  cases q:z6X kk c with
  |false=>rfl
  |true=>exact absurd (z7T q) ne
 show bOr (z6X kk c) _=false
 rw[nb]
 rcases hc with rfl|rfl<;>(cases z6X kk 1<;>cases zbr 10 kk<;>cases zbr kk 39<;>rfl)
theorem UR(C:Sk D W Γ X k){c kk:Nat}{n:String}{cv:Value}{xfs:List (Nat×T)}(ad:XCv D kk xfs cv)(hb:bxN c=some n)(hn:D.adr c=none):z6Z X.K (stC cv) (.type n)=some (qp kk c):=by
 have e8:(c=8/\n="KeyError")\/(c=9/\n="ZeroDivisionError"):=by
  unfold bxN at hb
  split at hb
  ·cases hb;exact .inl ⟨‹_›,rfl⟩
  ·split at hb
   ·cases hb;exact .inr ⟨‹_›,rfl⟩
   ·cases hb
 cases ad with
 |own Ck ad e=>
  rw[e,ZX]
  have xc:=C.xcx _ _ ad
  have ne:kk≠c:=λz=>by rw[z,hn] at ad;cases ad
  rw[z3e (e8.imp (·.1) (·.1)) ne]
  unfold z6Z zaH
  rcases e8 with⟨_,rfl⟩|⟨_,rfl⟩
  ·rw[vC.1,if_pos (show (some true == some true)=true from rfl)]
   dsimp only
   rw[if_pos xx.1]
   exact xc.nb.1
  ·rw[vC.2.1,if_pos (show (some true == some true)=true from rfl)]
   dsimp only
   rw[if_pos xx.2]
   exact xc.nb.2
 |blt m h hm e=>
  have e9:(kk=8/\m="KeyError")\/(kk=9/\m="ZeroDivisionError"):=by
   unfold bxN at h
   split at h
   ·cases h;exact .inl ⟨‹_›,rfl⟩
   ·split at h
    ·cases h;exact .inr ⟨‹_›,rfl⟩
    ·cases h
  rw[e]
  unfold z6Z zaH
  rcases e8 with⟨rfl,rfl⟩|⟨rfl,rfl⟩
  ·rw[vC.1,if_pos (show (some true == some true)=true from rfl)]
   dsimp only
   rw[if_pos xx.1]
   rcases e9 with⟨rfl,rfl⟩|⟨rfl,rfl⟩
   ·exact vC.2.2.1
   ·exact vC.2.2.2.2.1
  ·rw[vC.2.1,if_pos (show (some true == some true)=true from rfl)]
   dsimp only
   rw[if_pos xx.2]
   rcases e9 with⟨rfl,rfl⟩|⟨rfl,rfl⟩
   ·exact vC.2.2.2.1
   ·exact vC.2.2.2.2.2
theorem Yq(C:Sk D W Γ X k){x:Str}{c kk:Nat}{cv:Value}{xfs:List (Nat×T)}(ad:XCv D kk xfs cv)(h:HcOk Γ x c\/JC Γ x c):∃u:Value,z6Z X.K (stC cv) u=some (qp kk c)/\∀{p:Pos} {x0:Addr} {s:z5D} {σ:St} {H:Hp} {Q:Value->z5D->Prop} {E:Value->z5D->Prop},Inv (Cx.han (Cx.pin' X pins) x0) [] σ H s->Q u s->z5K (z5N X.prog X.w) (X.A.mark (some (.ref x0))) (eval (.Name x p) X.env) Q E s:=by
 rcases h with h|⟨n,hx,hg⟩
 ·obtain⟨Cc,hm,hac⟩:=h.mg C
  exact⟨.ref Cc,YB C ad h hm hac,λI q=>wb (X:=Cx.han (Cx.pin' X pins) _) I (C.glb x h.1) hm q (C.dbG x h.1)⟩
 ·have q:=C.glo x hx
  rw[hg] at q
  obtain⟨q1,q2,q3,q4,q5⟩:=q
  exact⟨.type n,UR C ad q4 q5,λI q=>we (X:=Cx.han (Cx.pin' X pins) _) I (C.glb x hx) q1 q2 q q3 (C.dbG x hx)⟩
theorem Ue(C:Sk D W Γ X k){x:Addr}{cv:Value}{kk:Nat}{xfs:List (Nat×T)}{t:Expr}{cs:List Nat}{s:z5D}{σ:St}{H:Hp}{Q:Bool->z5D->Prop}{E F:Value->z5D->Prop}(ad:XCv D kk xfs cv)(ht:z0X Γ t cs)(I:Inv (Cx.han (Cx.pin' X pins) x) [] σ H s)(ty:z9N (z5N X.prog X.w) s.heap (typeOf (.ref x)) (stC cv))
  (q:∀h',(∀b o,s.heap.get? b=some o->h'.get? b=some o)->Q (isAny kk cs) {s with heap:=h'}):z5K (z5N X.prog X.w) (X.A.mark (some (.ref x))) (eval t X.env) (λc s₁=>z5K (z5N X.prog X.w) (X.A.mark (some (.ref x))) (excMatches (.ref x) c) Q E s₁) F s:=by
 rcases ht with⟨y,p,c,rfl,rfl,hc⟩|⟨x1,x2,x3,x4,p1,p2,p3,p4,c1,c2,c3,c4,kt,pt,rfl,rfl,h1,h2,h3,h4⟩
 ·obtain⟨u,hu,ld⟩:=Yq (pins:=pins) C ad (.inl hc)
  refine ld I ?_
  refine (PySem.W.exm_one (M:=z5N X.prog X.w) I.kIn ty hu).at ?_
  have e:isAny kk [c]=qp kk c:=by
   rw[vz];show bOr _ false=_
   cases qp kk c<;>rfl
  have:=q s.heap λ_ _ e=>e
  rw[e] at this
  exact this
 ·obtain⟨u1,e1,d1⟩:=Yq (pins:=pins) C ad h1
  obtain⟨u2,e2,d2⟩:=Yq (pins:=pins) C ad h2
  obtain⟨u3,e3,d3⟩:=Yq (pins:=pins) C ad h3
  obtain⟨u4,e4,d4⟩:=Yq (pins:=pins) C ad h4
  refine zaN ?_
  refine z7N (d1 I (z7N (d2 I (z7N (d3 I (z7N (d4 I (zbj ⟨by rw[z6t];show 4<=_;omega,?_⟩))))))))
  have kp:∀b o,s.heap.get? b=some o->(s.heap.push {cls:=.type "tuple",data:=.seq [u1,u2,u3,u4].toArray}).get? b=some o:=λb o e=>z5C _ e
  have hx:zcC X.K (stC cv) [u1,u2,u3,u4]=some (isAny kk [c1,c2,c3,c4]):=by
   simp only[zcC,e1,e2,e3,e4,vz]
   show some _=some (bOr _ (bOr _ (bOr _ (bOr _ false))))
   cases qp kk c1<;>cases qp kk c2<;>cases qp kk c3<;>cases qp kk c4<;>rfl
  refine (PySem.W.exm_tup4 (M:=z5N X.prog X.w) (h:=s.heap.push {cls:=.type "tuple",data:=.seq [u1,u2,u3,u4].toArray}) (tp:=s.heap.objs.size) (I.kIn.keeps kp) (ty.keeps kp) (z8E rfl rfl) hx).at ?_
  exact q _ kp
theorem XR(C:Sk D W Γ X k){x Tt:Addr}{cv:Value}{d:Option Addr}{kk:Nat}{xfs:List (Nat×T)}(ad:XCv D kk xfs cv):∀{hs:List z8f} {r:List (List Nat×Option Nat×List Ds)} {s1:z5D} {σ1:St} {H1:Hp} {α1:List Addr} {τ1:Sl} {μ1:Mem},z0m D Γ k hs r->Inv (Cx.pin' X pins) [] σ1 H1 s1->XOk (Cx.pin' X pins) H1 x->XOk (Cx.pin' X pins) H1 Tt->XTr s1.heap x Tt cv d .none->
  XDict D φ α1 H1 xfs d->MRel D φ α1 H1 μ1->SRel D φ α1 H1 τ1 σ1->PostS D W φ α1 H1 E (Ur r kk xfs τ1 μ1)->z5K (z5N X.prog X.w) X.A (handleBy (.ref x) X.env hs) (SP X pins E) X.xe s1
 |[],[],s1,σ1,H1,α1,τ1,μ1,_,I1,ox,oT,tr,xd,m1,sr1,p=>by
  obtain⟨e0,out,L,F⟩:=C.frm
  refine wpAny_handleBy_nil ?_
  unfold zdj
  obtain⟨oe,vs',a0,oT',ts,ho,hcc,hd,hv0,hv1,hT,hoT,hdT,h3,_⟩:=id tr
  refine z5z (z7c ho hd hv1 ?_)
  rw[if_neg (show ¬((z61 Tt == z6E)=true) from by simp)]
  have go:∀{t2:z5D},XP X W (.ref x) t2->z5K (z5N X.prog X.w) X.A (throw (z61 x):Sem Flow) (SP X pins E) X.xe t2:=λ{t2} xp=>wpAny_throw (C.xe _ _ xp)
  have un:∀b,XOk (Cx.pin' X pins) H1 b->XOk X H1 b:=λb o=>⟨o.free,o.loc,o.nfs,o.new,o.cel,λp hp=>o.pin p (z5X _ hp)⟩
  have fin:z5K (z5N X.prog X.w) X.A (z9W (.ref x) X.env.frame) (λ_ t2=>XP X W (.ref x) t2) X.xe s1:=by
   refine qB ((zV I1).pins_of λp hp=>absurd hp (by simp)) (un x ox) (un Tt oT) tr λh4 I4 tr4=>?_
   refine⟨x,cv,d,σ1,H1,some Tt,z6v L,rfl,I4,un x ox,λt ht=>?_,?_,.inr ⟨L,F.fe,rfl⟩,PostS.ex p (Stp.refl _ _) m1 sr1 ad xd⟩
   ·have:t=Tt:=by simpa using ht
    rw[this];exact un Tt oT
   ·rw[F.fe] at tr4;exact tr4
  first
   |exact z5z (thn fin λ_ t2 xp=>go xp)
   |exact z5z (z5E (z5z (thn fin λ_ t2 xp=>go xp)))
 |[],_::_,_,_,_,_,_,_,h,_,_,_,_,_,_,_,_=>h.elim
 |_::_,[],_,_,_,_,_,_,h,_,_,_,_,_,_,_,_=>h.elim
 |hd::hs',g::r',s1,σ1,H1,α1,τ1,μ1,h,I1,ox,oT,tr,xd,m1,sr1,p=>by
   obtain⟨⟨t,nm,b0,suite',pp,cs,i,vs,rfl,rfl,ht,hown,hnm,hsu⟩,hrest⟩:=h
   have IX:Inv (Cx.han (Cx.pin' X pins) x) [] σ1 H1 s1:=ZI I1
   refine wpAny_handleBy_cons (codeAny_handlers_test (Ue C ad ht IX (XTr.ty tr) λh' hkp=>?_)) (λq=>by cases q)
   have I1:Inv (Cx.pin' X pins) [] σ1 H1 {s1 with heap:=h'}:=I1.kept (t':=s1.toks) hkp
   have tr:=tr.keeps hkp
   have p:PostS D W φ α1 H1 E (.br (isAny kk cs) (z4w i vs kk xfs τ1 μ1) (Ur r' kk xfs τ1 μ1)):=p
   rcases PostS.br p with⟨hb,p⟩|⟨hb,p⟩
   ·rw[hb]
    obtain⟨Q,q,h1,h2,h3,h4,h5⟩:=p
    have C2:∀{X':Cx},X'=Cx.han (Cx.pin' X pins) x->Sk D noW {Γ with calm:=false} X' k:=λ{X'} hX'=>by
     subst hX'
     obtain⟨e0,out,L,F⟩:=C.frm
     exact {hK:=C.hK,hN:=C.hN,nd:=C.nd,vis:=C.vis,dbg:=C.dbg,dbG:=C.dbG,glb:=C.glb,glo:=C.glo,glU:=C.glU,cel:=C.cel,isi:=C.isi,fld:=C.fld,xcx:=C.xcx,ocx:=C.ocx,clv:=C.clv,clm:=(λz=>by cases z),rom:=(λz=>by cases z),rmh:=⟨C.rmh.dp,C.rmh.un⟩,xe:=(λe s p=>by obtain⟨_,_,_,_,_,_,_,_,_,_,_,_,_,z⟩:=p;exact z),frm:=⟨e0,out,L,F.stk,F.f0,F.fe⟩,lam:=C.lam,kfz:=C.kfz,sto:=C.sto,lcl:=C.lcl,pso:=PassesOwn.never,xmt:=C.xmt}
    have okX:X.Ok:=Q7 I1.ok
    cases nm with
    |none=>
     cases i with
     |some j=>exact z69 hnm
     |none=>
      refine codeAny_handlers_suite (qB (X:=Cx.pin' X pins) I1 ox oT tr λh3' I3 tr3=>?_)
      have S:=wd (hsu _ (C2 rfl)) [] _ _ _ {nx:=E.nx,rt:=E.rt} (ZI (x:=x) I3) ⟨φ,α1,τ1,μ1,sr1,m1,_,q,h1,(λ_ _ z=>z.elim),(λ_ _ z=>z.elim),h4,(λ_ _ _ _ z=>z.elim)⟩
      refine z6j S (λf s6 h6=>?_) (λ_ _ z=>z.elim)
      cases f with
      |next=>obtain⟨σ',H',I',q'⟩:=h6;exact⟨σ',H',zV (k8 I1.ok I'),q'⟩
      |brk=>obtain⟨σ',H',I',q'⟩:=h6;exact q'.elim
      |cont=>obtain⟨σ',H',I',q'⟩:=h6;exact q'.elim
      |ret w=>obtain⟨y,σ',H',I',r,q'⟩:=h6;exact⟨y,σ',H',zV (k8 I1.ok I'),r,q'⟩
    |some e=>
     cases i with
     |none=>exact z69 hnm
     |some j=>
      obtain⟨hidx,hce⟩:=hnm
      obtain⟨Ck,adk,ecv⟩:∃Ck,D.adr kk=some Ck/\cv=cvF xfs Ck:=by
       cases ad with
       |own Ck ad e=>exact⟨Ck,ad,e⟩
       |blt n hn1 hn2 e=>
        rcases hown with z|⟨x0,p0,c,_,rfl,hc⟩
        ·cases z
        ·obtain⟨Cc,_,hac⟩:=hc.mg C
         have:isAny kk [c]=false:=by
          rw[vz,Yb hn1 (λz=>by rw[z,hn2] at hac;cases hac)]
         rw[this] at hb;cases hb
      subst ecv
      refine codeAny_handlers_suite_as (qB (X:=Cx.pin' X pins) I1 ox oT tr λh3' I3 tr3=>?_)
      have I4:=Jz (C:=Ck) (d:=d) I3 ox (λp hp=>absurd hp (by simp)) (XTr.at tr3)
      have st2:Stp α1 H1 α1 (upd H1 x (.ext (yR x Ck d))):=Stp.new (zj ox.free)
      have hloc:X.env.scope.names.lookup e=some .local:=C.lcl e (qt hidx) hce
      have hNd:X.N.Nodup:=by rw[C.hN];exact C.nd
      have hNi:X.N[j]?=some e:=by rw[C.hN];exact qN hidx
      refine jD (X:=Cx.han (Cx.pin' X pins) x) (i:=j) (v:=.ref x) (ZI I4) hNd hNi (.inl hloc) rfl (λs5 I5=>?_) (.inr hloc)
      have xd5:=xd.lk (st2.lk (φ:=φ))
      have den:Den D φ α1 (upd H1 x (.ext (yR x Ck d))) (.exc kk xfs) (.ref x):=⟨x,Ck,d,rfl,zp m1 ox.free,zq m1 ox.free,adk,zd,by cases d<;>exact xd5⟩
      have sr5:=(sr1.step st2).set (i:=j) den
      have m5:=m1.new (zj (o:=HO.ext (yR x Ck d)) ox.free)
      have S:=wd (hsu _ (C2 rfl)) [] s5 _ _ {nx:=λσ' H'=>E.nx (σ'.set j none) H',rt:=E.rt} I5 ⟨φ,α1,_,μ1,sr5,m5,_,q,(λτ2 μ2 z α' H' σ' st m r=>h1 _ μ2 z α' H' _ (st2.trans st) m r.unset),(λ_ _ z=>z.elim),(λ_ _ z=>z.elim),(λt μ2 z α' H' v st m dd=>h4 t μ2 z α' H' v (st2.trans st) m dd),(λ_ _ _ _ z=>z.elim)⟩
      have hkf:(X.env.scope.kind == .class || (X.env.scope.kind == .module&&X.env.locals != X.env.globals))=false:=by rw[okX.kind];rfl
      refine z6j S (λf s6 h6=>?_) (λ_ _ z=>z.elim)
      have fin:∀{σ6 H6},Inv (Cx.han (Cx.pin' X pins) x) [] σ6 H6 s6->(∀s7,Inv X pins (σ6.set j none) H6 s7->SP X pins E f s7)->z5K (z5N X.prog X.w) X.A (do bindName X.env e .none;unbindBehindTheSuite X.env e pp) (λ_ s7=>SP X pins E f s7) X.xe s6:=λ{σ6 H6} I6 q=>by
       have I7:Inv X pins σ6 H6 s6:=zV (k8 (XZ okX) I6)
       obtain⟨m,hn,hl⟩:=I7.loc
       refine wpAny_nameGoes_keeps hloc hn hkf λh7 u7 hn7 hs7=>?_
       exact q _ (J9 I7 hNd hNi hl hn7 hs7)
      cases f with
      |next=>obtain⟨σ',H',I',q'⟩:=h6;exact fin I' λs7 I7=>⟨_,H',I7,q'⟩
      |brk=>obtain⟨σ',H',I',q'⟩:=h6;exact q'.elim
      |cont=>obtain⟨σ',H',I',q'⟩:=h6;exact q'.elim
      |ret w=>obtain⟨y,σ',H',I',r,q'⟩:=h6;exact fin I' λs7 I7=>⟨y,_,H',I7,r,q'⟩
   ·rw[hb]
    exact XR C ad hrest I1 ox oT tr xd m1 sr1 p
theorem z2k(C:Sk D W Γ X k)(hc:Γ.calm=true){body:List Stmt}{us:List Ds}{h0:z8f}{hs:List z8f}{r:List (List Nat×Option Nat×List Ds)}(hb:∀X' W',Sk D W' Γ X' k->ua X' D W' body us)(hh:z0m D Γ k (h0::hs) r) :
  PS X (.Try body (h0::hs) [] [] pos) (rdS D W (X8 us r)):=by
 rintro pins s σ H E I ⟨φ,α,τ,μ,sr,mr,Q,q,h1,h2,h3,h4,h5⟩
 obtain⟨e0,out,L,F⟩:=C.frm
 have F0:Frm (Cx.pin' X pins) e0 out L:=⟨F.stk,F.f0,F.fe⟩
 generalize hW:(λ(cls:Value) (d:Option Addr) (σ':St) (H':Hp)=>∃kk fs τ1 μ1 α1,Ur r kk fs τ1 μ1 Q/\XCv D kk fs cls/\Stp α H α1 H'/\MRel D φ α1 H' μ1/\SRel D φ α1 H' τ1 σ'/\XDict D φ α1 H' fs d:XW)=W1
 have C1:Sk D W1 Γ ((Cx.pin' X pins).wish (XP (Cx.pin' X pins) W1)) k:={hK:=C.hK,hN:=C.hN,nd:=C.nd,vis:=C.vis,dbg:=C.dbg,dbG:=C.dbG,glb:=C.glb,glo:=C.glo,glU:=C.glU,cel:=C.cel,isi:=C.isi,fld:=C.fld,xcx:=C.xcx,ocx:=C.ocx,clv:=C.clv,clm:=C.clm,rom:=C.rom,rmh:=⟨C.rmh.dp,C.rmh.un⟩,xe:=λe s p=>vU p,frm:=⟨e0,out,L,F.stk,F.f0,F.fe⟩,lam:=C.lam,kfz:=C.kfz,sto:=C.sto,lcl:=C.lcl,pso:=km F0 I.ok.frames,xmt:=C.xmt}
 have B:=wd (hb _ W1 C1) [] s σ H E ((QQ I).wish _) ⟨φ,α,τ,μ,sr,mr,_,q,h1,h2,h3,h4,λkk fs τ1 μ1 z α' H' σ' cv d st m sr' ad xd=>by rw[←hW];exact⟨kk,fs,τ1,μ1,α',z,ad,st,m,sr',xd⟩⟩
 refine wpAny_Try_except (z6j B (λf s1 h1=>?_) (λe1 s1 hx=>?_))
 ·cases f with
  |next=>obtain⟨σ',H',I',q⟩:=h1;exact Vp pins s1 σ' H' E (zV I'.unwish) q
  |brk=>obtain⟨σ',H',I',q⟩:=h1;exact⟨σ',H',zV I'.unwish,q⟩
  |cont=>obtain⟨σ',H',I',q⟩:=h1;exact⟨σ',H',zV I'.unwish,q⟩
  |ret w=>obtain⟨y,σ',H',I',r,q⟩:=h1;exact⟨y,σ',H',zV I'.unwish,r,q⟩
 have hx:XP (Cx.pin' X pins) W1 e1 s1:=hx
 refine xm (X:=Cx.pin' X pins) F0 I.ok.frames hx λx cls d σ1 H1 Tt h' ee I1 ox oT tr w=>?_
 subst ee
 refine qB (X:=Cx.pin' X pins) (s:={s1 with heap:=h'}) I1 ox oT tr λh2' I2 tr2=>?_
 rw[←hW] at w
 obtain⟨kk,fs,τ1,μ1,α1,z,ad,st1,m1,sr1,xd⟩:=w
 exact XR C ad hh I2 ox oT tr2 xd m1 sr1 (PostS.step ⟨Q,z,h1,h2,h3,h4,h5⟩ st1)
end
structure Rec where
 e:Cn->Expr->Option De
 t:Cn->Expr->Option Dt
 w:Cn->Expr->Option Dt
 i:Cn->Expr->Option Di
 o:Cn->Expr->Option De
 s:Cn->Stmt->Option Ds
noncomputable abbrev ER:=Rec->Cn->Expr->Option De
noncomputable abbrev TR:=Rec->Cn->Expr->Option Dt
noncomputable abbrev IR:=Rec->Cn->Expr->Option Di
noncomputable abbrev SR:=Rec->Cn->Stmt->Option Ds
structure Rules where
 e:List ER
 t:List TR
 w:List TR
 i:List IR
 o:List ER
 s:List SR
noncomputable def Zz {α β:Type}:List (Rec->Cn->α->Option β)->Rec->Cn->α->Option β
 |[],_,_,_=>none
 |f::fs,r,Γ,e=>match f r Γ e with
  |some d=>some d
  |none=>Zz fs r Γ e
noncomputable def comp (R:Rules):Nat->Rec
 |0=>⟨λ_ _=>none,λ_ _=>none,λ_ _=>none,λ_ _=>none,λ_ _=>none,λ_ _=>none⟩
 |n+1=>⟨Zz R.e (comp R n),Zz R.t (comp R n),Zz R.w (comp R n),Zz R.i (comp R n),Zz R.o (comp R n),Zz R.s (comp R n)⟩
noncomputable def Yh(tg e:Expr):Bool:=match e with
 |.Call (.Name x _) _ _ _=>(x != ("enumerate":Str)&&x != ("zip":Str)) || (match tg with|.Tuple _ _ _=>true|_=>false)
 |_=>true
structure RecOk(D:DP)(r:Rec):Prop where
 e:∀{X W Γ k e f},Ck D W Γ X k->r.e Γ e=some f->PE X e (rdE D W f)
 t:∀{X W Γ k e f},Ck D W Γ X k->r.t Γ e=some f->PT X e (rdT D W f)
 w:∀{X W Γ k e f},Ck D W Γ X k->r.w Γ e=some f->PW X e (rdT D W f)
 i:∀{X W Γ k tg e f},Ck D W Γ X k->Yh tg e=true->r.i Γ e=some f->PI X tg e (rdI D W f)
 o:∀{X W Γ k e f},Ck D W Γ X k->r.o Γ e=some f->PE X e (rdE D W f)
 s:∀{X W Γ k e f},Sk D W Γ X k->r.s Γ e=some f->PS X e (rdS D W f)
noncomputable def EOk (D:DP)(f:ER):Prop:=∀r,RecOk D r->∀{X W Γ k e d},Ck D W Γ X k->f r Γ e=some d->PE X e (rdE D W d)
noncomputable def TOk (D:DP)(f:TR):Prop:=∀r,RecOk D r->∀{X W Γ k e d},Ck D W Γ X k->f r Γ e=some d->PT X e (rdT D W d)
noncomputable def WOk (D:DP)(f:TR):Prop:=∀r,RecOk D r->∀{X W Γ k e d},Ck D W Γ X k->f r Γ e=some d->PW X e (rdT D W d)
noncomputable def IOk (D:DP)(f:IR):Prop:=∀r,RecOk D r->∀{X W Γ k tg e d},Ck D W Γ X k->Yh tg e=true->f r Γ e=some d->PI X tg e (rdI D W d)
noncomputable def SOk (D:DP)(f:SR):Prop:=∀r,RecOk D r->∀{X W Γ k e d},Sk D W Γ X k->f r Γ e=some d->PS X e (rdS D W d)
noncomputable def kG{α:Type}(P:α->Prop):List α->Prop
 |[]=>True
 |f::fs=>P f/\kG P fs
structure RulesOk(D:DP)(R:Rules):Prop where
 e:kG (EOk D) R.e
 t:kG (TOk D) R.t
 w:kG (WOk D) R.w
 i:kG (IOk D) R.i
 o:kG (EOk D) R.o
 s:kG (SOk D) R.s
theorem vt{α β:Type}{P:(Rec->Cn->α->Option β)->Prop}{C:Prop}{r:Rec}{Γ:Cn}{e:α}{d:β}:∀{fs:List (Rec->Cn->α->Option β)},kG P fs->(∀f,P f->f r Γ e=some d->C)->Zz fs r Γ e=some d->C
 |[],_,_,h=>by cases h
 |f::fs,a,k,h=>by
  unfold Zz at h
  cases q:f r Γ e with
  |some d'=>rw[q] at h;cases h;exact k f a.1 q
  |none=>rw[q] at h;exact vt a.2 k h
theorem qK{D:DP}{R:Rules}(H:RulesOk D R):∀n,RecOk D (comp R n)
 |0=>⟨λ_ h=>(by cases h),λ_ h=>(by cases h),λ_ h=>(by cases h),λ_ _ h=>(by cases h),λ_ h=>(by cases h),λ_ h=>(by cases h)⟩
 |n+1=>⟨λC h=>vt H.e (λf p q=>p _ (qK H n) C q) h,λC h=>vt H.t (λf p q=>p _ (qK H n) C q) h,λC h=>vt H.w (λf p q=>p _ (qK H n) C q) h,λC ht h=>vt H.i (λf p q=>p _ (qK H n) C ht q) h,λC h=>vt H.o (λf p q=>p _ (qK H n) C q) h,λC h=>vt H.s (λf p q=>p _ (qK H n) C q) h⟩
noncomputable def gd{α:Type}(b:Bool)(o:Option α):Option α:=match b with
 |true=>o
 |false=>none
theorem zr{α:Type}{b:Bool}{o:Option α}{x:α}(h:gd b o=some x):b=true/\o=some x:=by
 cases b with
 |true=>exact⟨rfl,h⟩
 |false=>cases h
theorem bnd{α β:Type}{o:Option α}{f:α->Option β}{x:β}(h:o.bind f=some x):∃a,o=some a/\f a=some x:=Option.bind_eq_some_iff.mp h
noncomputable def zu {α β:Type}(f:α->Option β):List α->Option (List β)
 |[]=>some []
 |a::r=>(f a).bind λb=>(zu f r).bind λbs=>some (b::bs)
noncomputable def cEs (r:Rec)(Γ:Cn)(es:List Expr):Option (List De):=zu (λe=>gd (noStar e) (r.e Γ e)) es
section
variable {D:DP}{r:Rec}{X:Cx}{W:XW}{Γ:Cn}{k:Nat}
theorem qW(h:RecOk D r)(C:Ck D W Γ X k):∀{es:List Expr} {fs:List De},cEs r Γ es=some fs->EsOk X D W es fs
 |[],fs,e=>by cases e;trivial
 |a::es,fs,e=>by
  obtain⟨f,h1,e⟩:=bnd e
  obtain⟨gs,h2,e⟩:=bnd e
  cases e
  obtain⟨h3,h4⟩:=zr h1
  exact⟨h3,h.e C h4,qW h C h2⟩
theorem vS(h:RecOk D r)(C:Ck D W Γ X k):∀{es:List Expr} {fs:List Dt},zu (r.t Γ) es=some fs->Wc X D W es fs
 |[],fs,e=>by cases e;trivial
 |a::es,fs,e=>by
  obtain⟨f,h1,e⟩:=bnd e
  obtain⟨gs,h2,e⟩:=bnd e
  cases e
  exact⟨h.t C h1,vS h C h2⟩
theorem qM(h:RecOk D r)(C:Sk D W Γ X k):∀{es:List Stmt} {fs:List Ds},zu (r.s Γ) es=some fs->ua X D W es fs
 |[],fs,e=>by cases e;trivial
 |a::es,fs,e=>by
  obtain⟨f,h1,e⟩:=bnd e
  obtain⟨gs,h2,e⟩:=bnd e
  cases e
  exact⟨h.s C h1,qM h C h2⟩
end
noncomputable def z4U:ER:=λ_ _ e=>match e with
 |.Constant c _ _=>(match c with
  |.int i=>some (eC (.int i))
  |.bool b=>some (eC (.bl b))
  |.none=>some (eC .non)
  |.str x=>some (eC (.str x))
  |_=>none)
 |_=>none
theorem UA{D:DP}:EOk D z4U:=by
 intro r H X W Γ k e d C h
 cases e with
 |Constant c j p=>
  cases c with
  |int i=>cases h;exact z2d
  |bool i=>cases h;exact z3F
  |none=>cases h;exact z1U
  |str i=>cases h;exact z1c
  |_=>cases h
 |_=>cases h
noncomputable def z29:ER:=λ_ Γ e=>match e with
 |.Name x _=>(match idx Γ.N x with
  |some i=>some (eV i)
  |none=>(match Γ.look x with
   |.cst t=>some (eC t)
   |_=>none))
 |_=>none
theorem z04{D:DP}:EOk D z29:=by
 intro r H X W Γ k e d C h
 cases e with
 |Name x p=>
  simp only[z29] at h
  cases q:idx Γ.N x with
  |some i=>rw[q] at h;cases h;exact z3f C q
  |none=>
   rw[q] at h
   cases hl:Γ.look x with
   |cst t=>
    simp only[hl] at h
    cases h
    obtain⟨hx,hg⟩:=wc hl (by intro z;cases z)
    exact z1I C hx hg
   |_=>simp[hl] at h
 |_=>cases h
noncomputable def z49:ER:=λr Γ e=>match e with
 |.BinOp a op b _=>(r.e Γ a).bind λf=>(r.e Γ b).bind λg=>some (zo op f g)
 |_=>none
theorem UD{D:DP}:EOk D z49:=by
 intro r H X W Γ k e d C h
 cases e with
 |BinOp a op b p=>
  obtain⟨f,h1,h⟩:=bnd h
  obtain⟨g,h2,h⟩:=bnd h
  cases h
  exact z2t (H.e C h1) (H.e C h2)
 |_=>cases h
noncomputable def rUn:ER:=λr Γ e=>match e with
 |.UnaryOp op a _=>(r.e Γ a).bind λf=>(match op with
  |.USub=>some (z4u f)
  |.Not=>some (XD f)
  |_=>none)
 |_=>none
theorem z2J{D:DP}:EOk D rUn:=by
 intro r H X W Γ k e d C h
 cases e with
 |UnaryOp op a p=>
  obtain⟨f,h1,h⟩:=bnd h
  cases op with
  |USub=>cases h;exact z1n (H.e C h1)
  |Not=>cases h;exact z3v (H.e C h1)
  |_=>cases h
 |_=>cases h
noncomputable def z0L:ER:=λr Γ e=>match e with
 |.BoolOp op es p=>(match es with
  |[a]=>r.e Γ a
  |a::b::l=>(r.e Γ a).bind λf=>(r.e Γ (.BoolOp op (b::l) p)).bind λg=>some (match op with|.And=>ZS f g|.Or=>eOr f g)
  |[]=>none)
 |_=>none
theorem XH{D:DP}:EOk D z0L:=by
 intro r H X W Γ k e d C h
 cases e with
 |BoolOp op es p=>
  match es with
  |[]=>cases h
  |[a]=>exact z22 (H.e C h)
  |a::b::l=>
   obtain⟨f,h1,h⟩:=bnd h
   obtain⟨g,h2,h⟩:=bnd h
   cases h
   cases op with
   |And=>exact z3q (H.e C h1) (H.e C h2)
   |Or=>exact z4z (H.e C h1) (H.e C h2)
 |_=>cases h
noncomputable def chs (r:Rec)(Γ:Cn):List z7B->List Expr->Option (List (z7B×De))
 |[],[]=>some []
 |op::ops,e::es=>gd (j9 op) ((r.e Γ e).bind λf=>(chs r Γ ops es).bind λps=>some ((op,f)::ps))
 |_,_=>none
theorem KN{D:DP}{r:Rec}{X:Cx}{W:XW}{Γ:Cn}{k:Nat}(H:RecOk D r)(C:Ck D W Γ X k):∀{ops:List z7B} {es:List Expr} {ps:List (z7B×De)},chs r Γ ops es=some ps->JE X D W es ps/\ps.map (·.1)=ops/\ps.all (λp=>j9 p.1)=true
 |[],[],ps,h=>by cases h;exact⟨trivial,rfl,rfl⟩
 |[],_::_,ps,h=>by cases h
 |_::_,[],ps,h=>by cases h
 |op::ops,e::es,ps,h=>by
  obtain⟨hb,h⟩:=zr h
  obtain⟨f,h1,h⟩:=bnd h
  obtain⟨qs,h2,h⟩:=bnd h
  cases h
  obtain⟨k1,k2,k3⟩:=KN H C h2
  exact⟨⟨H.e C h1,k1⟩,by simp[k2],by simp[hb,k3]⟩
noncomputable def z2s (r:Rec)(Γ:Cn)(a:Expr)(ops:List z7B)(es:List Expr):Option De:=(r.e Γ a).bind λf=>(match ops,es with
 |[op],[b]=>gd (Qb op b) ((r.e Γ b).bind λg=>some (zt op f g))
 |_::_::_,_::_::_=>(chs r Γ ops es).bind λps=>some (eCh f ps)
 |_,_=>none)
theorem VH{D:DP}{r:Rec}{X:Cx}{W:XW}{Γ:Cn}{k:Nat}(H:RecOk D r)(C:Ck D W Γ X k){a:Expr}{ops:List z7B}{es:List Expr}{p:Pos}{d:De}(h:z2s r Γ a ops es=some d):PE X (.Compare a ops es p) (rdE D W d)/\PT X (.Compare a ops es p) (rdT D W (tE d)):=by
 obtain⟨f,h1,h⟩:=bnd h
 match ops,es with
 |[op],[b]=>
  obtain⟨ho,h⟩:=zr h
  obtain⟨g,h2,h⟩:=bnd h
  cases h
  exact⟨z2l C ho (H.e C h1) (H.e C h2),We C ho (H.e C h1) (H.e C h2)⟩
 |op::op'::ops,e::e'::es=>
  obtain⟨ps,h2,h⟩:=bnd h
  cases h
  obtain⟨k1,k2,k3⟩:=KN H C h2
  match ps with
  |[]=>cases k2
  |[p1]=>simp at k2
  |p1::p2::ps=>
   simp only[z6V,zc6] at k2
   obtain⟨rfl,rfl,rfl⟩:=k2
   exact⟨Kr C k3 (H.e C h1) k1,Q1 C k3 (H.e C h1) k1⟩
 |[],es=>cases h
 |[_],[]=>cases h
 |[_],_::_::_=>cases h
 |_::_::_,[]=>cases h
 |_::_::_,[_]=>cases h
noncomputable def z3Q:ER:=λr Γ e=>match e with
 |.Compare a ops es _=>z2s r Γ a ops es
 |_=>none
theorem UW{D:DP}:EOk D z3Q:=by
 intro r H X W Γ k e d C h
 cases e with
 |Compare a ops es p=>exact (VH H C h).1
 |_=>cases h
noncomputable def z44:ER:=λr Γ e=>match e with
 |.IfExp c a b _=>(r.t Γ c).bind λt=>(r.e Γ a).bind λf=>(r.e Γ b).bind λg=>some (eIf t f g)
 |_=>none
theorem Uj{D:DP}:EOk D z44:=by
 intro r H X W Γ k e d C h
 cases e with
 |IfExp c a b p=>
  obtain⟨t,h0,h⟩:=bnd h
  obtain⟨f,h1,h⟩:=bnd h
  obtain⟨g,h2,h⟩:=bnd h
  cases h
  exact z3_ (H.t C h0) (H.e C h1) (H.e C h2)
 |_=>cases h
noncomputable def z3W:ER:=λr Γ e=>match e with
 |.Attribute a x _=>gd (qb a) ((r.e Γ a).bind λf=>(Γ.fld.lookup x).bind λn=>some (zm f n))
 |_=>none
theorem YU{D:DP}:EOk D z3W:=by
 intro r H X W Γ k e d C h
 cases e with
 |Attribute a x p=>
  obtain⟨hp,h⟩:=zr h
  obtain⟨f,h1,h⟩:=bnd h
  obtain⟨n,h2,h⟩:=bnd h
  cases h
  exact z1L C hp (lookup_mem h2) (H.e C h1)
 |_=>cases h
noncomputable def prt (r:Rec)(Γ:Cn):Option Expr->Option Dp
 |none=>some pN
 |some e=>(r.e Γ e).bind λf=>some (pS f)
theorem XU{D:DP}{r:Rec}{X:Cx}{W:XW}{Γ:Cn}{k:Nat}(H:RecOk D r)(C:Ck D W Γ X k){o:Option Expr}{d:Dp}(h:prt r Γ o=some d):PO X o (rdO D W d):=by
 cases o with
 |none=>cases h;exact Um
 |some e=>
  obtain⟨f,h1,h⟩:=bnd h
  cases h
  exact Yt (H.e C h1)
noncomputable def z2G:ER:=λr Γ e=>match e with
 |.Subscript a b _=>(match b with
  |.Slice lo hi st _=>(match st with
   |none=>(r.e Γ a).bind λf=>(prt r Γ lo).bind λl=>(prt r Γ hi).bind λu=>some (eSl f l u)
   |some _=>none)
  |b=>gd (wG b) ((r.e Γ a).bind λf=>(r.e Γ b).bind λg=>some (eIx f g)))
 |_=>none
theorem Yr{D:DP}:EOk D z2G:=by
 intro r H X W Γ k e d C h
 cases e with
 |Subscript a b p=>
  have gen:∀{b},gd (wG b) ((r.e Γ a).bind λf=>(r.e Γ b).bind λg=>some (eIx f g))=some d->PE X (.Subscript a b p) (rdE D W d):=λ{b} h=>by
   obtain⟨hp,h⟩:=zr h
   obtain⟨f,h1,h⟩:=bnd h
   obtain⟨g,h2,h⟩:=bnd h
   cases h
   exact z4c hp C.hK (H.e C h1) (H.e C h2)
  cases b with
  |Slice lo hi st p2=>
   cases st with
   |some _=>cases h
   |none=>
    obtain⟨f,h1,h⟩:=bnd h
    obtain⟨l,h2,h⟩:=bnd h
    obtain⟨u,h3,h⟩:=bnd h
    cases h
    exact Xw (H.e C h1) (XU H C h2) (XU H C h3)
  |_=>exact gen h
 |_=>cases h
noncomputable def z4N:ER:=λr Γ e=>match e with
 |.List es _=>gd (decide (es.length<=room)) ((cEs r Γ es).bind λfs=>some (kY fs))
 |.Tuple es _ _=>gd (decide (es.length<=room)) ((cEs r Γ es).bind λfs=>some (jh fs))
 |_=>none
theorem Ug{D:DP}:EOk D z4N:=by
 intro r H X W Γ k e d C h
 cases e with
 |List es p=>
  obtain⟨hl,h⟩:=zr h
  obtain⟨fs,h1,h⟩:=bnd h
  cases h
  exact z2o (of_decide_eq_true hl) (qW H C h1)
 |Tuple es kk p=>
  obtain⟨hl,h⟩:=zr h
  obtain⟨fs,h1,h⟩:=bnd h
  cases h
  exact JT (of_decide_eq_true hl) (qW H C h1)
 |_=>cases h
noncomputable def z2H:ER:=λr Γ e=>match e with
 |.Call (.Name x _) es [] _=>gd ((idx Γ.N x).isNone&&Γ.calm) ((cEs r Γ es).bind λfs=>(match Γ.look x with
  |.fn g=>some (zf g fs)
  |.mk c true g=>some (eMk c g fs)
  |_=>none))
 |_=>none
theorem UT{D:DP}:EOk D z2H:=by
 intro r H X W Γ k e d C h
 unfold z2H at h
 split at h
 ·rename_i x p0 es pos
  obtain⟨hb,h⟩:=zr h
  simp only[z5B] at hb
  obtain⟨fs,h1,h⟩:=bnd h
  cases hl:Γ.look x with
  |fn g=>
   simp only[hl] at h
   cases h
   obtain⟨hx,hg⟩:=wc hl (by intro z;cases z)
   exact UB C hx hg hb.2 (qW H C h1)
  |mk c z g=>
   cases z with
   |true=>
    simp only[hl] at h
    cases h
    obtain⟨hx,hg⟩:=wc hl (by intro z;cases z)
    exact U2 C hx hg hb.2 (qW H C h1)
   |false=>simp[hl] at h
  |_=>simp[hl] at h
 ·cases h
noncomputable def rB1 (nm:Str)(op:T->Mem->RE T)(cl:Bool):ER:=λr Γ e=>match e with
 |.Call (.Name x _) [a] [] _=>gd (x == nm&&(idx Γ.N x).isNone&&noStar a&&(!cl || Γ.calm)) ((r.e Γ a).bind λf=>(match Γ.look x with
  |.none=>some (eB1 op f)
  |_=>none))
 |_=>none
theorem jv{D:DP}{nm:Str}{op:T->Mem->RE T}{cl:Bool}(H1:∀{X:Cx} {W:XW} {Γ:Cn} {k:Nat} {a:Expr} {f:De} {p0 pos:Pos},Ck D W Γ X k->nm∈Γ.G->Γ.gl nm=.none->(cl=true->Γ.calm=true)->noStar a=true->PE X a (rdE D W f)->PE X (.Call (.Name nm p0) [a] [] pos) (rdE D W (eB1 op f))):EOk D (rB1 nm op cl):=by
 intro r H X W Γ k e d C h
 unfold rB1 at h
 split at h
 ·rename_i x p0 a pos
  have hh:=zr h
  clear h
  obtain⟨hb,h⟩:=hh
  simp only[z5B,beq_iff_eq,z8Z,z70] at hb
  obtain⟨⟨⟨rfl,h2⟩,h3⟩,h4⟩:=hb
  obtain⟨f,h1,h⟩:=bnd h
  cases hl:Γ.look x with
  |none=>
   simp only[hl] at h
   cases h
   obtain⟨hx,hg⟩:=wc hl (by intro z;cases z)
   exact H1 C hx hg (λz=>h4.resolve_left (by rw[z];simp)) h3 (H.e C h1)
  |_=>simp[hl] at h
 ·cases h
noncomputable def z4P:ER:=rB1 "len" ja false
theorem YC{D:DP}:EOk D z4P:=jv λC hx hg _ hs ha=>uq C hx hg boot_len (by decide) hs z4I ha
noncomputable def z3I:ER:=rB1 "all" JP true
theorem Ut{D:DP}:EOk D z3I:=jv λC hx hg hc hs ha=>uq C hx hg boot_all (by decide) hs (z4R (C.clm (hc rfl))) ha
noncomputable def z2b:ER:=λr Γ e=>match e with
 |.Call (.Name x _) [a,c] [] _=>gd (x == ("isinstance":Str)&&(idx Γ.N x).isNone&&noStar a) ((r.e Γ a).bind λf=>(yE Γ c).bind λcs=>(match Γ.look x with
  |.none=>some (Zb cs f)
  |_=>none))
 |_=>none
theorem Uh{D:DP}:EOk D z2b:=by
 intro r H X W Γ k e d C h
 unfold z2b at h
 split at h
 ·rename_i x p0 a c pos
  have hh:=zr h
  clear h
  obtain⟨hb,h⟩:=hh
  simp only[z5B,beq_iff_eq] at hb
  obtain⟨⟨rfl,h2⟩,h3⟩:=hb
  obtain⟨f,h1,h⟩:=bnd h
  obtain⟨cs,h4,h⟩:=bnd h
  cases hl:Γ.look "isinstance" with
  |none=>
   simp only[hl] at h
   cases h
   obtain⟨hx,hg⟩:=wc hl (by intro z;cases z)
   exact z17 C hx hg h3 h4 (H.e C h1)
  |_=>simp[hl] at h
 ·cases h
noncomputable def rM1 (nm:Str)(cb:De->De->De):ER:=λr Γ e=>match e with
 |.Call (.Attribute o m pa) [a] [] pc=>gd (m == nm&&qb o&&noStar a&&pa.endLine == pc.line) ((r.e Γ o).bind λf=>(r.e Γ a).bind λg=>some (cb f g))
 |_=>none
theorem z0_{D:DP}{nm:Str}{cb:De->De->De}(H1:∀{X:Cx} {W:XW} {Γ:Cn} {k:Nat} {o a:Expr} {f g:De} {pa pc:Pos},Ck D W Γ X k->qb o=true->noStar a=true->(pa.endLine == pc.line)=true->PE X o (rdE D W f)->PE X a (rdE D W g)->PE X (.Call (.Attribute o nm pa) [a] [] pc) (rdE D W (cb f g))):EOk D (rM1 nm cb):=by
 intro r H X W Γ k e d C h
 unfold rM1 at h
 split at h
 ·have hh:=zr h
  clear h
  obtain⟨hb,h⟩:=hh
  simp only[z5B] at hb
  obtain⟨⟨⟨h0,h2⟩,h3⟩,h4⟩:=hb
  have h0:=beq_iff_eq.mp h0
  subst h0
  obtain⟨f,h1,h⟩:=bnd h
  obtain⟨g,h5,h⟩:=bnd h
  cases h
  exact H1 C h2 h3 h4 (H.e C h1) (H.e C h5)
 ·cases h
noncomputable def z4f:ER:=rM1 "append" QL
theorem U_{D:DP}:EOk D z4f:=z0_ λC hp hs hl ho ha=>z10 hp hs hl ho ha
noncomputable def Ub (r:Rec)(Γ:Cn)(elt tg iter:Expr)(ifs:List Expr)(sc:Scope)(mk:Nat->List Nat->Tg->Di->List Dt->De->De):Option De:=
 gd (Γ.calm&&W7 Γ.N Γ.cel tg sc&&wB iter&&Yh tg iter) ((vo Γ.N (frees sc)).bind λfs=>(wy (z9 tg++frees sc) tg).bind λtgt=>(r.i Γ iter).bind λfi=>(zu (r.t (inComp Γ tg sc)) ifs).bind λcs=>(r.e (inComp Γ tg sc) elt).bind λfe=>some (mk (z9 tg).length fs tgt fi cs fe))
theorem ZA{r:Rec}{Γ:Cn}{elt tg iter:Expr}{ifs:List Expr}{sc:Scope}{mk:Nat->List Nat->Tg->Di->List Dt->De->De}{d:De}(h:Ub r Γ elt tg iter ifs sc mk=some d) :
  ∃fs tgt fi cs fe,Γ.calm=true/\CompOk Γ.N Γ.cel tg sc/\(wB iter=true/\Yh tg iter=true)/\vo Γ.N (frees sc)=some fs/\wy (z9 tg++frees sc) tg=some tgt/\r.i Γ iter=some fi/\zu (r.t (inComp Γ tg sc)) ifs=some cs/\r.e (inComp Γ tg sc) elt=some fe/\d=mk (z9 tg).length fs tgt fi cs fe:=by
 obtain⟨hb,h⟩:=zr h
 simp only[z5B] at hb
 obtain⟨fs,h1,h⟩:=bnd h
 obtain⟨tgt,h2,h⟩:=bnd h
 obtain⟨fi,h3,h⟩:=bnd h
 obtain⟨cs,h4,h⟩:=bnd h
 obtain⟨fe,h5,h⟩:=bnd h
 cases h
 exact⟨fs,tgt,fi,cs,fe,hb.1.1.1,JN hb.1.1.2,⟨hb.1.2,hb.2⟩,h1,h2,h3,h4,h5,rfl⟩
noncomputable def Xv:ER:=λr Γ e=>match e with
 |.ListComp elt [⟨tg,iter,ifs,z⟩] sc _=>gd (z == 0) (Ub r Γ elt tg iter ifs sc qR)
 |_=>none
theorem Ke{D:DP}:EOk D Xv:=by
 intro r H X W Γ k e d C h
 unfold Xv at h
 split at h
 ·have hh:=zr h
  clear h
  obtain⟨hz,h⟩:=hh
  have hz:=beq_iff_eq.mp hz
  subst hz
  obtain⟨fs,tgt,fi,cs,fe,h1,h2,h3,h4,h5,h6,h7,h8,rfl⟩:=ZA h
  exact VI C h1 h2 h4 h5 (H.i C h3.2 h6) (λX' W' C'=>H.e C' h8) (λX' W' C'=>vS H C' h7) (uu h3.1)
 ·cases h
noncomputable def z0Q:TR:=λr Γ e=>match e with
 |.Name _ _=>(r.e Γ e).bind λf=>some (tE f)
 |.Call _ _ _ _=>(r.e Γ e).bind λf=>some (tE f)
 |.Subscript _ _ _=>(r.e Γ e).bind λf=>some (tE f)
 |.Attribute _ _ _=>(r.e Γ e).bind λf=>some (tE f)
 |.Compare a ops es _=>(z2s r Γ a ops es).bind λf=>some (tE f)
 |.UnaryOp op a _=>(match op with
  |.Not=>(r.t Γ a).bind λf=>some (w_ f)
  |_=>none)
 |.BoolOp _ _ _=>r.w Γ e
 |_=>none
theorem Ko{D:DP}:TOk D z0Q:=by
 intro r H X W Γ k e d C h
 cases e with
 |Name x p=>
  obtain⟨f,h1,h⟩:=bnd h
  cases h
  exact VF (H.e C h1) λ_=>rfl
 |Call f args kws p=>
  obtain⟨f,h1,h⟩:=bnd h
  cases h
  exact VF (H.e C h1) λ_=>rfl
 |Subscript a b p=>
  obtain⟨f,h1,h⟩:=bnd h
  cases h
  exact VF (H.e C h1) λ_=>rfl
 |Attribute a b p=>
  obtain⟨f,h1,h⟩:=bnd h
  cases h
  exact VF (H.e C h1) λ_=>rfl
 |Compare a ops es p=>
  obtain⟨f,h1,h⟩:=bnd h
  cases h
  exact (VH H C h1).2
 |UnaryOp op a p=>
  cases op with
  |Not=>
   obtain⟨f,h1,h⟩:=bnd h
   cases h
   exact z3k (H.t C h1)
  |_=>cases h
 |BoolOp op es p=>exact (H.w C h).pt
 |_=>cases h
noncomputable def Kz:TR:=λr Γ e=>match e with
 |.BoolOp op es p=>(match es with
  |[a]=>r.t Γ a
  |a::b::l=>(r.t Γ a).bind λf=>(r.w Γ (.BoolOp op (b::l) p)).bind λg=>some (match op with|.And=>xh f g|.Or=>tOr f g)
  |[]=>none)
 |_=>none
theorem JM{D:DP}:WOk D Kz:=by
 intro r H X W Γ k e d C h
 cases e with
 |BoolOp op es p=>
  match es with
  |[]=>cases h
  |[a]=>
   cases op with
   |And=>exact z0f (H.t C h)
   |Or=>exact z2w (H.t C h)
  |a::b::l=>
   obtain⟨f,h1,h⟩:=bnd h
   obtain⟨g,h2,h⟩:=bnd h
   cases h
   cases op with
   |And=>exact z1w (H.t C h1) (H.w C h2)
   |Or=>exact z45 (H.t C h1) (H.w C h2)
 |_=>cases h
noncomputable def KR:IR:=λr Γ e=>match e with
 |.Call (.Name x _) as [] _=>gd (x == ("range":Str)&&(idx Γ.N x).isNone&&as.all noStar) (match Γ.look x with
  |.none=>(match as with
   |[a]=>(r.e Γ a).bind λf=>some (Xq f)
   |[a,b]=>(r.e Γ a).bind λf=>(r.e Γ b).bind λg=>some (Vo f g)
   |[a,b,c]=>(r.e Γ a).bind λf=>(r.e Γ b).bind λg=>(r.e Γ c).bind λh=>some (z0y f g h)
   |_=>none)
  |_=>none)
 |_=>none
theorem Kg{D:DP}:IOk D KR:=by
 intro r H X W Γ k tg e d C ht h
 unfold KR at h
 split at h
 ·rename_i x p0 as pos
  have hh:=zr h
  clear h
  obtain⟨hb,h⟩:=hh
  simp only[z5B] at hb
  obtain⟨⟨h0,h2⟩,h3⟩:=hb
  have h0:=beq_iff_eq.mp h0
  subst h0
  cases hl:Γ.look "range" with
  |none=>
   obtain⟨hx,hg⟩:=wc hl (by intro z;cases z)
   simp only[hl] at h
   match as with
   |[]=>cases h
   |[a]=>
    simp only[z6s,z5B] at h3
    obtain⟨f,h1,h⟩:=bnd h
    cases h
    exact Xy C hx hg h3.1 (H.e C h1)
   |[a,b]=>
    simp only[z6s,z5B] at h3
    obtain⟨f,h1,h⟩:=bnd h
    obtain⟨g,h4,h⟩:=bnd h
    cases h
    exact Jk C hx hg h3.1 h3.2.1 (H.e C h1) (H.e C h4)
   |[a,b,c]=>
    simp only[z6s,z5B] at h3
    obtain⟨f,h1,h⟩:=bnd h
    obtain⟨g,h4,h⟩:=bnd h
    obtain⟨g2,h5,h⟩:=bnd h
    cases h
    exact VS C hx hg h3.1 h3.2.1 h3.2.2.1 (H.e C h1) (H.e C h4) (H.e C h5)
   |_::_::_::_::_=>cases h
  |_=>simp[hl] at h
 ·cases h
noncomputable def riE:IR:=λr Γ e=>(r.e Γ e).bind λf=>some (iE f)
theorem z2y{D:DP}:IOk D riE:=by
 intro r H X W Γ k tg e d C ht h
 obtain⟨f,h1,h⟩:=bnd h
 cases h
 exact z07 (H.e C h1)
noncomputable def K_:ER:=λr Γ e=>match e with
 |.List es _=>gd (decide (es.length<=room)) ((cEs r Γ es).bind λfs=>some (kq fs))
 |_=>none
theorem Qn{D:DP}:EOk D K_:=by
 intro r H X W Γ k e d C h
 cases e with
 |List es p=>
  obtain⟨hl,h⟩:=zr h
  obtain⟨fs,h1,h⟩:=bnd h
  cases h
  exact z1j (of_decide_eq_true hl) (qW H C h1)
 |_=>cases h
noncomputable def WW:ER:=λr Γ e=>match e with
 |.ListComp elt [⟨tg,iter,ifs,z⟩] sc _=>gd (z == 0) (Ub r Γ elt tg iter ifs sc va)
 |_=>none
theorem JK{D:DP}:EOk D WW:=by
 intro r H X W Γ k e d C h
 unfold WW at h
 split at h
 ·have hh:=zr h
  clear h
  obtain⟨hz,h⟩:=hh
  have hz:=beq_iff_eq.mp hz
  subst hz
  obtain⟨fs,tgt,fi,cs,fe,h1,h2,h3,h4,h5,h6,h7,h8,rfl⟩:=ZA h
  exact Qm C h1 h2 h4 h5 (H.i C h3.2 h6) (λX' W' C'=>H.e C' h8) (λX' W' C'=>vS H C' h7) (uu h3.1)
 ·cases h
noncomputable def JH (r:Rec)(Γ:Cn)(x:Str)(e:Expr):Option De:=match Γ.own.contains x with
 |true=>r.o Γ e
 |false=>r.e Γ e
theorem Zi{D:DP}{r:Rec}{X:Cx}{W:XW}{Γ:Cn}{k:Nat}(H:RecOk D r)(C:Ck D W Γ X k){x:Str}{e:Expr}{d:De}(h:JH r Γ x e=some d):PE X e (rdE D W d):=by
 unfold JH at h
 cases q:Γ.own.contains x with
 |true=>rw[q] at h;exact H.o C h
 |false=>rw[q] at h;exact H.e C h
noncomputable def z0I:SR:=λr Γ s=>match s with
 |.Return o _=>(match o with
  |some e=>(JH r Γ "return" e).bind λf=>some (zA f)
  |none=>some Kl)
 |_=>none
theorem Y3{D:DP}:SOk D z0I:=by
 intro r H X W Γ k e d C h
 cases e with
 |Return o p=>
  cases o with
  |none=>cases h;exact UJ
  |some e=>
   obtain⟨f,h1,h⟩:=bnd h
   cases h
   exact z1M (Zi H C.toCk h1)
 |_=>cases h
noncomputable def isCall:Expr->Bool
 |.Call _ _ _ _=>true
 |.Constant _ _ _=>true
 |_=>false
noncomputable def z0B:SR:=λr Γ s=>match s with
 |.Expr e _=>gd (isCall e) ((r.e Γ e).bind λf=>some (zJ f))
 |_=>none
theorem JX{D:DP}:SOk D z0B:=by
 intro r H X W Γ k e d C h
 cases e with
 |Expr e p=>
  obtain⟨hb,h⟩:=zr h
  obtain⟨f,h1,h⟩:=bnd h
  cases h
  exact UN (by cases e<;>first|(simp[isCall] at hb;done)|rfl) (H.e C.toCk h1)
 |_=>cases h
noncomputable def z3S:SR:=λr Γ s=>match s with
 |.If c a b _=>(r.t Γ c).bind λt=>(zu (r.s Γ) a).bind λus=>(zu (r.s Γ) b).bind λvs=>some (sIf t us vs)
 |_=>none
theorem Uw{D:DP}:SOk D z3S:=by
 intro r H X W Γ k e d C h
 cases e with
 |If c a b p=>
  obtain⟨t,h1,h⟩:=bnd h
  obtain⟨us,h2,h⟩:=bnd h
  obtain⟨vs,h3,h⟩:=bnd h
  cases h
  exact z4h (H.t C.toCk h1) (qM H C h2) (qM H C h3)
 |_=>cases h
noncomputable def ZV:Expr->Bool
 |.ListComp _ _ _ _=>true
 |.SetComp _ _ _ _=>true
 |.DictComp _ _ _ _ _=>true
 |_=>false
noncomputable def z3Z (r:Rec)(Γ:Cn)(t e:Expr):Option Ds:=gd (nFz Γ t) (match t with
 |.Name x _=>(idx Γ.N x).bind λi=>(match e with
  |.ListComp elt gs sc _=>(match gs with
   |[g]=>gd (g.is_async == 0) ((Ub r Γ elt g.target g.iter g.ifs sc (match Γ.own.contains x with|true=>va|false=>qR)).bind λf=>some (zx i f))
   |_=>none)
  |e=>gd (!ZV e) ((JH r Γ x e).bind λf=>some (zx i f)))
 |.Tuple es _ _=>gd (Γ.calm&&jS e) ((idxs Γ.N es).bind λis=>(r.e Γ e).bind λf=>some (z3V is f))
 |.Attribute o x _=>(Γ.fld.lookup x).bind λn=>(JH r Γ x e).bind λf=>(r.e Γ o).bind λgo=>some (qH go n f)
 |.Subscript o b _=>gd (wG b) ((r.e Γ e).bind λf=>(r.e Γ o).bind λgo=>(r.e Γ b).bind λgb=>some (Yu go gb f))
 |_=>none)
noncomputable def z0D:SR:=λr Γ s=>match s with
 |.Assign ts e _=>(match ts with
  |[t]=>z3Z r Γ t e
  |_=>none)
 |_=>none
theorem YY{D:DP}{r:Rec}(H:RecOk D r){X:Cx}{W:XW}{Γ:Cn}{k:Nat}{t e:Expr}{pos:Pos}{d:Ds}(C:Sk D W Γ X k)(h:z3Z r Γ t e=some d):PS X (.Assign [t] e pos) (rdS D W d):=by
 have hh0:=zr h
 clear h
 obtain⟨hfz,h⟩:=hh0
 cases t with
 |Name x p=>
  obtain⟨i,hi,h⟩:=bnd h
  have gen:ZV e=false->gd (!ZV e) ((JH r Γ x e).bind λf=>some (zx i f))=some d->PS X (.Assign [.Name x p] e pos) (rdS D W d):=λhc h=>by
   obtain⟨_,h⟩:=zr h
   obtain⟨f,h1,h⟩:=bnd h
   cases h
   exact X_ C hi hfz (by cases e<;>first|(simp[ZV] at hc;done)|rfl) (Zi H C.toCk h1)
  cases e with
  |ListComp elt gs sc pc=>
   match gs with
   |[]=>cases h
   |_::_::_=>cases h
   |[⟨tg,iter,ifs,z⟩]=>
    have hh:=zr h
    clear h gen
    obtain⟨hz,h⟩:=hh
    have hz:z=0:=beq_iff_eq.mp hz
    subst hz
    obtain⟨f,h1,h⟩:=bnd h
    cases h
    obtain⟨fs,tgt,fi,cs,fe,q1,q2,q3,q4,q5,q6,q7,q8,rfl⟩:=ZA h1
    have he:(match Γ.own.contains x with|true=>va|false=>qR) (z9 tg).length fs tgt fi cs fe=(match Γ.own.contains x with|true=>va (z9 tg).length fs tgt fi cs fe|false=>qR (z9 tg).length fs tgt fi cs fe):=by cases Γ.own.contains x<;>rfl
    have key:∀bb,z8N (.ListComp elt [⟨tg,iter,ifs,0⟩] sc pc) (some (.Name x p)) pos.line X.env=pure bb->PS X (.Assign [.Name x p] (.ListComp elt [⟨tg,iter,ifs,0⟩] sc pc) pos) (rdS D W (zx i (match Γ.own.contains x with|true=>va (z9 tg).length fs tgt fi cs fe|false=>qR (z9 tg).length fs tgt fi cs fe))):=λbb hsw=>by
     cases bb with
     |true=>exact z05 C q1 hi hfz q2 q4 q5 (H.i C.toCk q3.2 q6) (λX' W' C'=>H.e C' q8) (λX' W' C'=>vS H C' q7) (uu q3.1) _ hsw
     |false=>
      refine X_ C hi hfz hsw ?_
      cases Γ.own.contains x with
      |true=>exact Qm C.toCk q1 q2 q4 q5 (H.i C.toCk q3.2 q6) (λX' W' C'=>H.e C' q8) (λX' W' C'=>vS H C' q7) (uu q3.1)
      |false=>exact VI C.toCk q1 q2 q4 q5 (H.i C.toCk q3.2 q6) (λX' W' C'=>H.e C' q8) (λX' W' C'=>vS H C' q7) (uu q3.1)
    rw[he]
    exact key _ rfl
  |SetComp _ _ _ _=>cases h
  |DictComp _ _ _ _ _=>cases h
  |_=>exact gen rfl h
 |Tuple es kk p=>
  obtain⟨hb,h⟩:=zr h
  simp only[z5B] at hb
  obtain⟨is,h1,h⟩:=bnd h
  obtain⟨f,h2,h⟩:=bnd h
  cases h
  exact z2x C hb.1 hb.2 h1 hfz (H.e C.toCk h2)
 |Attribute o x p=>
  obtain⟨n,h1,h⟩:=bnd h
  obtain⟨f,h2,h⟩:=bnd h
  obtain⟨go,h3,h⟩:=bnd h
  cases h
  exact z2I C (lookup_mem h1) (Zi H C.toCk h2) (H.e C.toCk h3)
 |Subscript o b p=>
  obtain⟨hb,h⟩:=zr h
  obtain⟨f,h1,h⟩:=bnd h
  obtain⟨go,h2,h⟩:=bnd h
  obtain⟨gb,h3,h⟩:=bnd h
  cases h
  exact z1P C hb (H.e C.toCk h1) (H.e C.toCk h2) (H.e C.toCk h3)
 |_=>cases h
theorem XS{D:DP}:SOk D z0D:=by
 intro r H X W Γ k e d C h
 cases e with
 |Assign ts e p=>
  match ts with
  |[]=>cases h
  |[t]=>exact YY H C h
  |_::_::_=>cases h
 |_=>cases h
noncomputable def z0P:SR:=λr Γ s=>match s with
 |.For tg it b els _=>gd (Γ.calm&&wB it&&els.isEmpty&&Yh tg it&&nFz Γ tg) ((wy Γ.N tg).bind λtgt=>(r.i Γ it).bind λfi=>(zu (r.s Γ) b).bind λvs=>some (K1 tgt fi vs))
 |_=>none
theorem Ky{D:DP}:SOk D z0P:=by
 intro r H X W Γ k e d C h
 cases e with
 |For tg it b els p=>
  obtain⟨hb,h⟩:=zr h
  simp only[z5B] at hb
  obtain⟨tgt,h1,h⟩:=bnd h
  obtain⟨fi,h2,h⟩:=bnd h
  obtain⟨vs,h3,h⟩:=bnd h
  cases h
  cases els with
  |nil=>exact z0T C hb.1.1.1.1 h1 hb.2 (H.i C.toCk hb.1.2 h2) (qM H C h3) (uu hb.1.1.1.2)
  |cons _ _=>simp at hb
 |_=>cases h
noncomputable def KU:Stmt->Option Expr
 |.Raise (some e) none _=>some e
 |_=>none
theorem ZT{s:Stmt}{e:Expr}(h:KU s=some e):∃p,s=.Raise (some e) none p:=by
 unfold KU at h
 split at h
 ·cases h;exact⟨_,rfl⟩
 ·cases h
noncomputable def Z_:Expr->Option (Str×List Expr)
 |.Call (.Name x _) as [] _=>some (x,as)
 |_=>none
theorem xH{e:Expr}{q:Str×List Expr}(h:Z_ e=some q):∃p0 p1,e=.Call (.Name q.1 p0) q.2 [] p1:=by
 unfold Z_ at h
 split at h
 ·cases h;exact⟨_,_,rfl⟩
 ·cases h
noncomputable def KS:SR:=λr Γ s=>(KU s).bind λe=>(Z_ e).bind λq=>gd (Γ.calm&&(idx Γ.N q.1).isNone&&!q.2.isEmpty) ((cEs r Γ q.2).bind λfs=>(match Γ.look q.1 with
  |.xcl c=>some (zG c fs)
  |_=>none))
theorem KZ{D:DP}:SOk D KS:=by
 intro r H X W Γ k e d C h
 unfold KS at h
 obtain⟨e',h0,h⟩:=bnd h
 obtain⟨⟨x,as⟩,h2,h⟩:=bnd h
 obtain⟨p2,rfl⟩:=ZT h0
 obtain⟨p0,p1,rfl⟩:=xH h2
 obtain⟨hb,h⟩:=zr h
 simp only[z5B] at hb
 cases as with
 |nil=>exact absurd hb.2 (by simp)
 |cons a as=>
  obtain⟨fs,h1,h⟩:=bnd h
  cases hl:Γ.look x with
  |xcl c=>
   simp only[hl] at h
   cases h
   obtain⟨hx,hg⟩:=wc hl (by intro z;cases z)
   exact X1 C hb.1.1 hx hg (qW H C.toCk h1)
  |_=>simp[hl] at h
noncomputable def nm1:Expr->Option Str
 |.Name x _=>some x
 |_=>none
theorem KO{e:Expr}{x:Str}(h:nm1 e=some x):∃p,e=.Name x p:=by
 unfold nm1 at h
 split at h
 ·cases h;exact⟨_,rfl⟩
 ·cases h
noncomputable def Ys (Γ:Cn)(x:Str):Option Nat:=gd ((idx Γ.N x).isNone&&Γ.G.contains x&&(match Γ.gl x with|.xcl c=>Γ.cls.lookup x == some c&&Nat.blt c 40|.xcf c _=>Γ.cls.lookup x == some c&&Nat.blt c 40|_=>false)) (Γ.cls.lookup x)
theorem Vx{Γ:Cn}{x:Str}{c:Nat}(h:Ys Γ x=some c):HcOk Γ x c:=by
 obtain⟨hb,hc⟩:=zr h
 simp only[z5B] at hb
 refine⟨by simpa using hb.1.2,lookup_mem hc,?_⟩
 have h4:=hb.2
 rw[hc] at h4
 cases hg:Γ.gl x with
 |xcl c'=>
  simp only[hg,z5B] at h4
  have:c=c':=z5F (beq_iff_eq.mp h4.1)
  rw[this];exact⟨.inr rfl,Nat.blt_eq.mp h4.2⟩
 |xcf c' f=>
  simp only[hg,z5B] at h4
  have:c=c':=z5F (beq_iff_eq.mp h4.1)
  rw[this];exact⟨.inl ⟨f,rfl⟩,Nat.blt_eq.mp h4.2⟩
 |_=>rw[hg] at h4;cases h4
noncomputable def z2F:GM->Option Nat
 |.xbt c _=>some c
 |_=>none
theorem Vc{g:GM}{c:Nat}(h:z2F g=some c):∃n,g=.xbt c n:=by
 cases g<;>first|(cases h;exact⟨_,rfl⟩)|cases h
noncomputable def KL (Γ:Cn)(e:Expr):Option Nat:=(nm1 e).bind λx=>match Ys Γ x with
 |some c=>some c
 |none=>gd (Γ.G.contains x) (z2F (Γ.gl x))
theorem xD{Γ:Cn}{e:Expr}{c:Nat}(h:KL Γ e=some c):∃x p,e=.Name x p/\(HcOk Γ x c\/JC Γ x c):=by
 obtain⟨x,h1,w⟩:=bnd h
 obtain⟨p,hp⟩:=KO h1
 refine⟨x,p,hp,?_⟩
 cases q:Ys Γ x with
 |some c'=>simp only[q] at w;cases w;exact .inl (Vx q)
 |none=>
  simp only[q] at w
  obtain⟨h2,h3⟩:=zr w
  obtain⟨n,hn⟩:=Vc h3
  exact .inr ⟨n,by simpa using h2,hn⟩
noncomputable def z2T:Expr->Option (Expr×Expr×Expr×Expr)
 |.Tuple [a,b,c,d] _ _=>some (a,b,c,d)
 |_=>none
theorem YT{e:Expr}{q:Expr×Expr×Expr×Expr}(h:z2T e=some q):∃k p,e=.Tuple [q.1,q.2.1,q.2.2.1,q.2.2.2] k p:=by
 unfold z2T at h
 split at h
 ·cases h;exact⟨_,_,rfl⟩
 ·cases h
noncomputable def htB (Γ:Cn)(t:Expr):Option (List Nat):=match nm1 t with
 |some x=>(Ys Γ x).bind λc=>some [c]
 |none=>(z2T t).bind λq=>(KL Γ q.1).bind λa=>(KL Γ q.2.1).bind λb=>(KL Γ q.2.2.1).bind λc=>(KL Γ q.2.2.2).bind λd=>some [a,b,c,d]
theorem z1m{Γ:Cn}{t:Expr}{cs:List Nat}(h:htB Γ t=some cs):z0X Γ t cs/\((nm1 t).isSome=true->∃x p c,t=.Name x p/\cs=[c]/\HcOk Γ x c):=by
 unfold htB at h
 cases q:nm1 t with
 |some x=>
  simp only[q] at h
  obtain⟨c,h1,h⟩:=bnd h
  cases h
  obtain⟨p,rfl⟩:=KO q
  have hc:=Vx h1
  exact⟨.inl ⟨x,p,c,rfl,rfl,hc⟩,λ_=>⟨x,p,c,rfl,rfl,hc⟩⟩
 |none=>
  simp only[q] at h
  obtain⟨⟨e1,e2,e3,e4⟩,h0,w1⟩:=bnd h
  obtain⟨c1,h1,w2⟩:=bnd w1
  obtain⟨c2,h2,w3⟩:=bnd w2
  obtain⟨c3,h3,w4⟩:=bnd w3
  obtain⟨c4,h4,w5⟩:=bnd w4
  cases w5
  obtain⟨k,p,rfl⟩:=YT h0
  obtain⟨x1,p1,g1,k1⟩:=xD h1
  obtain⟨x2,p2,g2,k2⟩:=xD h2
  obtain⟨x3,p3,g3,k3⟩:=xD h3
  obtain⟨x4,p4,g4,k4⟩:=xD h4
  dsimp only at g1 g2 g3 g4
  subst g1 g2 g3 g4
  exact⟨.inr ⟨x1,x2,x3,x4,p1,p2,p3,p4,c1,c2,c3,c4,k,p,rfl,rfl,k1,k2,k3,k4⟩,λh=>by cases h⟩
noncomputable def hdl (r:Rec)(Γ:Cn):z8f->Option (List Nat×Option Nat×List Ds)
 |.ExceptHandler t nm suite _=>t.bind λt=>gd (!suite.isEmpty&&(nm.isNone || (nm1 t).isSome)) ((htB Γ t).bind λcs=>(zu (r.s {Γ with calm:=false}) suite).bind λvs=>(match nm with
   |none=>some (cs,none,vs)
   |some e=>gd (!Γ.cel.contains e) ((idx Γ.N e).bind λj=>some (cs,some j,vs))))
theorem Y2{D:DP}{r:Rec}(H:RecOk D r){Γ:Cn}{k:Nat}:∀{hs:List z8f} {gs:List (List Nat×Option Nat×List Ds)},zu (hdl r Γ) hs=some gs->z0m D Γ k hs gs
 |[],gs,h=>by cases h;trivial
 |.ExceptHandler t nm suite p::hs,gs,h=>by
  obtain⟨g,h1,w1⟩:=bnd h
  obtain⟨gs',h2,w2⟩:=bnd w1
  cases w2
  have ih:=Y2 (k:=k) H h2
  obtain⟨t',ht',w3⟩:=bnd h1
  subst ht'
  obtain⟨hb,w4⟩:=zr w3
  obtain⟨cs,h3,w5⟩:=bnd w4
  obtain⟨vs,hv,w6⟩:=bnd w5
  simp only[z5B,z8Z] at hb
  obtain⟨ht,hn⟩:=z1m h3
  cases suite with
  |nil=>simp at hb
  |cons b0 suite=>
   cases nm with
   |none=>
    cases w6
    exact⟨⟨_,_,_,_,_,_,_,_,rfl,rfl,ht,.inl rfl,trivial,λX' C'=>qM H C' hv⟩,ih⟩
   |some e=>
    obtain⟨he,w7⟩:=zr w6
    obtain⟨j,hj,w8⟩:=bnd w7
    cases w8
    exact⟨⟨_,_,_,_,_,_,_,_,rfl,rfl,ht,.inr (hn (hb.2.resolve_left (by simp))),⟨hj,by simpa using he⟩,λX' C'=>qM H C' hv⟩,ih⟩
noncomputable def z0C:SR:=λr Γ s=>match s with
 |.Try b hs els fin _=>gd (Γ.calm&&!hs.isEmpty&&els.isEmpty&&fin.isEmpty) ((zu (r.s Γ) b).bind λus=>(zu (hdl r Γ) hs).bind λgs=>some (X8 us gs))
 |_=>none
theorem Y1{D:DP}:SOk D z0C:=by
 intro r H X W Γ k e d C h
 cases e with
 |Try b hs els fin p=>
  obtain⟨hb,h⟩:=zr h
  simp only[z5B] at hb
  obtain⟨us,h1,h⟩:=bnd h
  obtain⟨gs,h2,h⟩:=bnd h
  cases h
  cases els with
  |cons _ _=>simp at hb
  |nil=>
   cases fin with
   |cons _ _=>simp at hb
   |nil=>
    cases hs with
    |nil=>simp at hb
    |cons h0 hs=>exact z2k C hb.1.1.1 (λX' W' C'=>qM H C' h1) (Y2 H h2)
 |_=>cases h
structure MdOk(D:DP)(P:Program)(w:World)(K:PySem.W.Frag)(mg:Str->Option Value)(base:Heap)(Γ:Cn)(k:Nat):Prop where
 hK:K=D.K
 glo:∀x∈Γ.U,GlOkM D P w K mg base k x (Γ.gl x)/\(x == ("__debug__":Str))=false
 isi:∀t x c,(x,c)∈Γ.cls->∀u v,QP D t u->yo mg x v->z9q K u v=some (qp t c)
 fld:∀c C x f,D.cad c=some C->(x,f)∈Γ.fld->D.fn f=some x/\Cls K C/\NoAttr K C x
 xcx:∀c C,D.adr c=some C->XCls K C
 ocx:∀c C,D.cad c=some C->OCls K C
 clv:∀x c,(x,c)∈Γ.cls->∃u v,yo mg x u/\ClsV v u
 xmt:∀t x c,(x,c)∈Γ.cls->c<40->∀Ct Cc,D.adr t=some Ct->mg x=some (.ref Cc)->z6Z K (.ref Ct) (.ref Cc)=some (qp t c)
noncomputable def Q8(Γ:Cn)(ps:List Str)(sc:Scope):Bool:=
 (sc.kind == .function)&&!sc.isCoroutine&&!sc.isGenerator&&decide (Γ.N.Nodup)&&(Γ.N.take ps.length == ps)&&sc.names.all (λy=>y.2 != .free)&&
 Γ.N.all (λx=>x != ("__debug__":Str)&&x != ("__classdict__":Str)&&(if Γ.cel.contains x then sc.names.lookup x == some .cell else sc.names.lookup x == some .local))&&
 Γ.G.all (λx=>Γ.U.contains x&&sc.names.lookup x == some .globalImplicit)&&Γ.cel.all (λx=>Γ.N.contains x)&&Γ.calm
theorem vQ{X:Cx}{W:XW}{e:Value}{s:z5D}(p:XP X W e s):X.A.frames=some X.stack:=by
 obtain⟨_,_,_,_,_,_,_,_,I,_⟩:=p
 exact I.ok.frames
theorem Vr:∀(ts:List T) (n:Nat),UO ts n=ts.map some++z7_ n none
 |[],n=>by
  have:∀n,pad n=z7_ n none:=λn=>by
   induction n with
   |zero=>rfl
   |succ n ih=>show none::pad n=_;rw[ih];rfl
  exact this n
 |t::r,n=>by show some t::UO r n=_;rw[Vr r n];rfl
section
variable {D:DP}{P:Program}{w:World}{K:PySem.W.Frag}{mg:Str->Option Value}{base:Heap}{Γ:Cn}{k n:Nat}
theorem WN{φ α:List Addr}{H:Hp}{N:List Str}{ts:List T}{vs:List V}(d:DenL D φ α H ts vs):SRel D φ α H (UO ts (N.length-ts.length)) (L2.start N vs):=by
 have hl:=d.length
 rw[Vr]
 refine⟨by simp[L2.start,hl],λi t e=>?_⟩
 by_cases hi:i<ts.length
 ·rw[z5I (by simpa using hi),z67] at e
  cases q:ts[i]? with
  |none=>rw[q] at e;cases e
  |some t'=>
   rw[q] at e
   have e:some (some t')=some (some t):=e
   cases e
   obtain⟨v,hv,dv⟩:=d.get q
   refine⟨v,?_,dv⟩
   unfold L2.start
   rw[z5I (by rw[z5R,←hl];exact hi),z67,hv]
   rfl
 ·rw[z5U (by simpa using hi),z7E] at e
  split at e<;>cases e
noncomputable def kno (X:Cx)(f:Str->Bool):Cx:={X with fn:=f}
theorem z3g{X:Cx}{f g:Str->Bool}(hf:∀x,f x=true->g x=true)(ok:(kno X g).Ok):(kno X f).Ok:=⟨ok.mod,ok.kind,ok.glob,ok.blt,ok.above,ok.inj,ok.has,λx c e=>ok.cab x c (hf x e),ok.hd,ok.frames,ok.stk,ok.exf,ok.bs,ok.bsz,ok.noex,ok.exfs,ok.funs,ok.frf⟩
theorem xy{X:Cx}{f g:Str->Bool}{pins:List (Addr×Obj)}{σ:St}{H:Hp}{s:z5D}(hf:∀x,f x=true->g x=true)(I:Inv (kno X g) pins σ H s):Inv (kno X f) pins σ H s:=
 ⟨z3g hf I.ok,I.os,I.bare,I.base,I.loc,I.cell,I.free,λx c e=>(I.freeC x c e).imp id λz=>⟨zbu.mpr λq=>Bool.noConfusion ((hf x q).symm.trans (show g x=false from z.1)),z.2⟩,I.pin,I.hok,I.len⟩
theorem z2V{X:Cx}{f g:Str->Bool}{W:XW}{e:Value}{s:z5D}(hf:∀x,f x=true->g x=true)(p:XP (kno X g) W e s):XP (kno X f) W e s:=by
 obtain⟨x,cls,d,σ,H,T,fl,a,I,b,c,r,r2,r3⟩:=p
 exact⟨x,cls,d,σ,H,T,fl,a,xy hf I,⟨b.free,b.loc,b.nfs,b.new,b.cel,b.pin⟩,λt ht=>let b:=c t ht;⟨b.free,b.loc,b.nfs,b.new,b.cel,b.pin⟩,r,r2,r3⟩
theorem V5{X:Cx}{f g:Str->Bool}{pins:List (Addr×Obj)}{E:Ends}{fl:Flow}{s:z5D}(hf:∀x,f x=true->g x=true)(h:SP (kno X g) pins E fl s):SP (kno X f) pins E fl s:=by
 cases fl with
 |ret v=>obtain⟨v,σ',H',I',r⟩:=h;exact⟨v,σ',H',xy hf I',r⟩
 |_=>obtain⟨σ',H',I',r⟩:=h;exact⟨σ',H',xy hf I',r⟩
theorem V9{D:DP}{W:XW}{X:Cx}{f:Str->Bool}{b2:List Stmt}{ds2:List Ds}(h2:ua (kno X f) D W b2 ds2):∀{b1:List Stmt} {ds1:List Ds},ua (kno X λ_=>true) D W b1 ds1->
  ∀(pins:List (Addr×Obj)) (s:z5D) (σ:St) (H:Hp) (E:Ends),Inv (kno X λ_=>true) pins σ H s->rdS D W (qF (ds1++ds2)) E σ H->z5K (z5N X.prog X.w) X.A (execs (b1++b2) X.env) (SP (kno X f) pins E) X.xe s
 |[],[],_,pins,s,σ,H,E,I,q=>wd h2 pins s σ H E (xy (λ_ _=>rfl) I) q
 |st::r,u::us,h,pins,s,σ,H,E,I,q=>by
  obtain⟨φ,α,τ,μ,sr,mr,Q,q,h3,h4,h5,h6,h7⟩:=q
  refine z9R (thn (h.1 pins s σ H {E with nx:=λσ' H'=>rdS D W (qF (us++ds2)) E σ' H'} I ⟨φ,α,τ,μ,sr,mr,_,q,λτ1 μ1 e α' H' σ' st m sr'=>?_,h4,h5,h6,h7⟩) λfl s1 z=>?_)
  ·exact⟨φ,α',τ1,μ1,sr',m,PostS.step ⟨Q,e,h3,h4,h5,h6,h7⟩ st⟩
  ·cases fl with
   |next=>
    obtain⟨σ',H',I',q'⟩:=z
    exact V9 h2 h.2 pins s1 σ' H' E I' q'
   |ret v=>exact V5 (fl:=.ret v) (E:=E) (λ_ _=>rfl) z
   |brk=>exact V5 (fl:=.brk) (E:=E) (λ_ _=>rfl) z
   |cont=>exact V5 (fl:=.cont) (E:=E) (λ_ _=>rfl) z
 |[],_::_,h,_,_,_,_,_,_,_=>h.elim
 |_::_,[],h,_,_,_,_,_,_,_=>h.elim
theorem Qk{R:Rules}(HR:RulesOk D R){f:Addr}{name qual:Str}{params:Arguments}{body b1 b2:List Stmt}{scope:Scope}{dV kV doc pm cdv ct oc:Value}{an od:Option Addr}{osl:Array (Option Value)}{ps:List Str}{m:Nat}{ds1 ds2:List Ds}
    (M:MdOk D P w K mg base Γ k) (lk:K.lookup f=some ⟨oc,od,.func (z6g name qual params body scope dV kV doc pm an cdv ct),osl⟩) (hcd:z6L K cdv qual=true) (hs:Q8 Γ ps scope=true) (hm:Γ.N.length=ps.length+m) (hbo:body=b1++b2) (hd1:zu ((comp R n).s {Γ with fz:=[]}) b1=some ds1) (hds:zu ((comp R n).s Γ) b2=some ds2) (hlam:LamOk D mg base cdv (qual++".<locals>.") k Γ.lam Γ.lnm:=by exact LamOk.no rfl) :
    FnOk P w K mg base (CX1 P w) (k+1) f (z6g name qual params body scope dV kV doc pm an cdv ct) ps (spN D ps.length (fnW ps.length m (ds1++ds2))):=by
  subst hbo
  simp only[Q8,z5B,z6i,beq_iff_eq,z70,decide_eq_true_eq,bne_iff_ne,ne_eq] at hs
  obtain⟨⟨⟨⟨⟨⟨⟨⟨⟨h1,h2⟩,h3⟩,h4⟩,h5⟩,h6⟩,h7⟩,h8⟩,h9⟩,h10⟩:=hs
  have kin:∀x∈Γ.N,(Γ.cel.contains x=true/\scope.names.lookup x=some .cell)\/(Γ.cel.contains x=false/\scope.names.lookup x=some .local):=λx hx=>by
    have q:=(h7 x hx).2
    cases hc:Γ.cel.contains x with
    |true=>rw[hc,if_pos rfl] at q;exact .inl ⟨rfl,beq_iff_eq.mp q⟩
    |false=>rw[hc] at q;exact .inr ⟨rfl,beq_iff_eq.mp q⟩
  have loc:∀x∈Γ.N,scope.names.lookup x=some .local\/scope.names.lookup x=some .cell:=λx hx=>(kin x hx).elim (λz=>.inr z.2) λz=>.inl z.2
  have S:FnScope Γ.N ps scope:=⟨h1,h2,h3,h4,h5,λx hx=>loc x (by rw[←h5] at hx;exact z6H hx),h6⟩
  refine z0E (fnb:=λx=>!Γ.fz.contains x) lk hcd S (λvs H Q E q=>q.1) λA outer s H vs Q E hr hsp hfree=>?_
  obtain⟨hl,φ,α,ts,μ,d,mr,K0,Z0,⟨hle,q⟩,hk0,hz0⟩:=hsp
  generalize hX:WV (CX1 P w) P w K mg base Γ.N qual scope f cdv A outer s H E (λx=>!Γ.fz.contains x)=X
  have F:Frm X (z9l qual scope s.heap.objs.size f cdv) outer s.heap.objs.size:=by rw[←hX];exact⟨rfl,rfl,rfl⟩
  have hfn:X.fn=λx=>!Γ.fz.contains x:=by rw[←hX];rfl
  have CK:∀(l:List Str),(∀x∈l,x∈Γ.fz)->Sk D (wOf E) {Γ with fz:=l} (kno (X.wish (XP X (wOf E))) λx=>!l.contains x || !Γ.fz.contains x) k:=λl hl'=>by
    have xe:∀e s,XP (kno (X.wish (XP X (wOf E))) λx=>!l.contains x || !Γ.fz.contains x) (wOf E) e s->XP X (wOf E) e s:=λe s p=>by
      have p2:XP (kno (X.wish (XP X (wOf E))) λx=>!Γ.fz.contains x) (wOf E) e s:=z2V (λx hx=>by rw[hx,zbw]) p
      exact vU (show XP (X.wish (XP X (wOf E))) (wOf E) e s by rw[←hfn] at p2;exact p2)
    have pso:zbL (z5N X.prog X.w) X.A X.env (XP X (wOf E)):=λe s p=>km F (vQ p) e s p
    subst hX
    exact { hK := M.hK,hN := rfl,nd := h4,vis := fun x hx => (loc x hx).elim .inl fun z => .inr (.inl z),dbg := fun x hx => ⟨beq_eq_false_iff_ne.mpr (h7 x hx).1.1,beq_eq_false_iff_ne.mpr (h7 x hx).1.2⟩,
            dbG:=λx hx=>(M.glo x (by simpa using (h8 x hx).1)).2,glb:=λx hx=>(h8 x hx).2,glo:=λx hx=>(M.glo x (by simpa using (h8 x hx).1)).1,glU:=M.glo,
            cel:=λx hx=>.inl ((kin x (by simpa using h9 x hx)).elim (λz=>z.2) λz=>by have:=z.1;rw[z6a.mpr hx] at this;cases this),
            isi:=M.isi,fld:=M.fld,xcx:=M.xcx,ocx:=M.ocx,clv:=M.clv,clm:=λ_=>rfl,rom:=λ_=>hr,rmh:=⟨hr.dp,hr.un⟩,xe:=xe,frm:=⟨_,_,_,F.stk,F.f0,F.fe⟩,lam:=hlam,kfz:=λ_ x hx=>⟨by show (!l.contains x || !Γ.fz.contains x)=false;rw[z6a.mpr hx,z6a.mpr (hl' x hx)];rfl,λc e=>(hfree x c e).1⟩,
            sto:=λx hx=>by
              obtain⟨z1,z2⟩:=z6m.mp hx
              exact⟨loc x z1,.inl (by show (!l.contains x || _)=true;rw[show (!l.contains x)=true from z2];rfl)⟩,lcl:=λx hx hc=>(kin x hx).elim (λz=>by rw[z.1] at hc;cases hc) λz=>z.2,pso:=pso,xmt:=M.xmt}
  have B:PSs X (b1++b2) (λE1 σ1 H1=>(∀y c,X.env.cells.lookup y=some c->X.s₀.heap.objs.size<=c/\H1 c=none)/\rdS D (wOf E) (qF (ds1++ds2)) E1 σ1 H1):=λpins s1 σ1 H1 E1 I1 ⟨hf,q⟩=>by
    have I2:Inv (kno (X.wish (XP X (wOf E))) λ_=>true) pins σ1 H1 s1:=by
      have J:=I1.wish (XP X (wOf E))
      subst hX
      exact⟨⟨J.ok.mod,J.ok.kind,J.ok.glob,J.ok.blt,J.ok.above,J.ok.inj,J.ok.has,λx c _ e=>(hf x c e).1,J.ok.hd,J.ok.frames,J.ok.stk,J.ok.exf,J.ok.bs,J.ok.bsz,J.ok.noex,J.ok.exfs,J.ok.funs,J.ok.frf⟩,J.os,J.bare,J.base,J.loc,J.cell,J.free,λx c e=>.inl (hf x c e).2,J.pin,J.hok,J.len⟩
    have C1:=qM (qK HR n) (CK [] (by simp)) hd1
    have C2:=qM (qK HR n) (CK Γ.fz λ_ h=>h) hds
    have e1:(λx=>!([]:List Str).contains x || !Γ.fz.contains x)=λ_=>true:=by funext x;rfl
    have e2:(λx=>!Γ.fz.contains x || !Γ.fz.contains x)=X.fn:=by rw[hfn];funext x;exact Bool.or_self _
    rw[e1] at C1
    rw[e2] at C2
    refine z6j (V9 (X:=X.wish (XP X (wOf E))) C2 C1 pins s1 σ1 H1 E1 I2 q) (λf s' q=>SP.unwish q) λe s' p=>?_
    have p:XP X (wOf E) e s':=p
    have:=Qu (M:=z5N X.prog X.w) (F2:=λe' s''=>CX1 X.prog X.w X.outer X.H₀ X.s₀ E e' s'') F (vQ p) (by rw[←hX];rfl) p
    subst hX
    exact this
  have hmm:Γ.N.length-ts.length=m:=by omega
  refine⟨_,B,by rw[←hX];exact hfree,φ,α,_,μ,WN d,mr,{nx:=λ_ μ1=>K0 .non μ1,rt:=K0,bk:=λ_ _=>False,ct:=λ_ _=>False,ex:=λc fs _ μ1=>Z0 c fs μ1},by rw[hmm];exact q,λ_ μ1 z α' H' σ' st m _=>hk0 _ _ z α' H' st m .non rfl,λ_ _ z=>z.elim,λ_ _ z=>z.elim,λt μ1 z α' H' v st m dv=>hk0 _ _ z α' H' st m v dv,λc fs _ μ1 z α' H' σ' C1 dd st m _ ad xd=>hz0 c fs μ1 z α' H' C1 dd st m ad xd⟩
theorem jX{R:Rules}(HR:RulesOk D R){f:Addr}{name qual:Str}{params:Arguments}{body:List Stmt}{scope:Scope}{dV kV doc pm cdv ct oc:Value}{an od:Option Addr}{osl:Array (Option Value)}{ps:List Str}{m:Nat}{ds:List Ds}
  (M:MdOk D P w K mg base Γ k) (lk:K.lookup f=some ⟨oc,od,.func (z6g name qual params body scope dV kV doc pm an cdv ct),osl⟩) (hcd:z6L K cdv qual=true) (hs:Q8 Γ ps scope=true) (hm:Γ.N.length=ps.length+m) (hds:zu ((comp R n).s Γ) body=some ds) (hlam:LamOk D mg base cdv (qual++".<locals>.") k Γ.lam Γ.lnm:=by exact LamOk.no rfl) :
  FnOk P w K mg base (CX1 P w) (k+1) f (z6g name qual params body scope dV kV doc pm an cdv ct) ps (spN D ps.length (fnW ps.length m ds)):=Qk (b1:=[]) (ds1:=[]) HR M lk hcd hs hm rfl rfl hds hlam
theorem qm{n m:Nat}{ds:List Ds}:∀ts μ K Z,fnW n m ds ts μ K Z->ts.length=n:=λ_ _ _ _ h=>h.1
end
noncomputable def WI:z5G->Bool
 |[]=>true
 |p::r=>(match p.2.cls with|.type t=>t != "list" | _=>true)&&WI r
theorem Ve:∀{K:z5G} {a:Addr} {o:Obj},WI K=true->K.lookup a=some o->o.cls≠.type "list"
 |[],_,_,_,h=>by cases h
 |(b,p)::r,a,o,hn,h=>by
  simp only[WI,z5B] at hn
  rw[z6b] at h
  cases q:a == b with
  |true=>
   rw[q] at h
   cases h
   intro e
   have h1:=hn.1
   rw[e] at h1
   exact absurd h1 (by decide)
  |false=>rw[q] at h;exact Ve hn.2 h
theorem uB{D:DP}{φ α:List Addr}{H:Hp}:∀(ns:List Int),DenL D φ α H (ns.map T.int) (ns.map V.int)
 |[]=>rfl
 |n::r=>⟨.int n,r.map V.int,rfl,rfl,uB r⟩
noncomputable def FLD:List Str:=["moments","houses","counts","start","turns","holder","lease","until","is_cut","shape","grants","house","begin","end","ahead","stride","keeper","mark","newest","batches","has_fallen","clock","kept","common","given","now","seats","world","line","by"]
theorem z2a:FLD.Nodup:=by decide +kernel
structure Ads where
 xs:List (Nat×Addr)
 cs:List (Nat×Addr)
noncomputable def mkD (K:z5G)(A:Ads)(clo:Nat->Addr->Option HO->List V->Prop)(tabs:Nat->Option (Addr×List Pos×Str):=λ_=>none):DP:=⟨K,λc=>A.xs.lookup c,λc=>A.cs.lookup c,λi=>FLD[i]?,λi j x h1 h2=>jF z2a h1 h2,clo,tabs⟩
noncomputable def cn (cls fld:List (Str×Nat)) (gs:List (Str×GM)) (N G cel own:List Str) (lam:Option (Nat×List Pos):=none) (lnm:Str:="<lambda>"):Cn where
 N:=N
 G:=G
 calm:=true
 gl:=λx=>(gs.lookup x).getD .bad
 cls:=cls
 fld:=fld
 U:=gs.map (·.1)
 cel:=cel
 own:=own
 lam:=lam
 lnm:=lnm
noncomputable def tys(A:Ads):List (Nat×Value):=[(0,.type "NoneType"),(1,.type "bool"),(2,.type "int"),(3,.type "str"),(4,.type "tuple"),(5,.type "list"),(6,.type "dict")]++(A.xs.map λp=>(p.1,z61 p.2))++A.cs.map λp=>(p.1,z61 p.2)
noncomputable def Xh(K:z5G)(c:Str):Option Value:=match z8D K z5V c with
 |some (some v)=>some v
 |some none=>if c == ("__name__":Str) then none else z6U c
 |none=>none
noncomputable def z3z:Value->Bool
 |.ref _=>true
 |.type _=>true
 |_=>false
noncomputable def isC(o:Option (Option Value))(s:String):Bool:=match o with
 |some (some (.builtin x))=>x == s
 |_=>false
theorem yt{o:Option (Option Value)}{s:String}(h:isC o s=true):o=some (some (.builtin s)):=by
 unfold isC at h
 split at h
 ·rw[beq_iff_eq.mp h]
 ·cases h
noncomputable def Yp(o:Option (Option Value)):Bool:=match o with
 |some none=>true
 |_=>false
theorem ZR{o:Option (Option Value)}(h:Yp o=true):o=some none:=by
 unfold Yp at h
 split at h
 ·rfl
 ·cases h
noncomputable def isB(o:Option Bool)(b:Bool):Bool:=match o with|some c=>c == b|none=>false
theorem jd{o:Option Bool}{b:Bool}(h:isB o b=true):o=some b:=by
 cases o with
 |none=>cases h
 |some c=>have:(c == b)=true:=h;rw[beq_iff_eq.mp this]
noncomputable def UX (K:z5G)(C:Addr):Bool:=isC (z64 K (.ref C) "__class__") "object.__class__"&&isC (z7p K (.builtin "object.__class__") "__get__") "getset_descriptor.__get__"&&isB (z8X K (.builtin "object.__class__")) true&&isB (z6I K C (.type "object")) true
noncomputable def z0G(K:z5G)(C:Addr):Bool:=UX K C&&isC (z64 K (.ref C) "__getattribute__") "BaseException.__getattribute__"&&Yp (z64 K (.ref C) "__getattr__")&&isB (z6I K C (.type "BaseException")) true&&(isB (z6I K C (.type "KeyError")) false&&isB (z6I K C (.type "ZeroDivisionError")) false)&&(z8S K C).isSome
noncomputable def Kb(K:z5G)(C:Addr):Bool:=UX K C&&z89 K C z9e&&z7m K C&&z9D K C&&isC (z64 K (.ref C) "__setattr__") "object.__setattr__"
noncomputable def chk (K:z5G)(A:Ads)(cls fld:List (Str×Nat)):Bool:=
 cls.all (λp=>match Xh K p.1 with
  |some v=>z3z v&&(tys A).all (λq=>isB (z9q K q.2 v) (qp q.1 p.2))&&(zbr 40 p.2 || (match v with|.ref C=>A.xs.all (λq=>isB (z6Z K (.ref q.2) (.ref C)) (qp q.1 p.2))|_=>true))
  |none=>false)&&
 A.xs.all (λq=>z0G K q.2)&&A.cs.all (λq=>Kb K q.2&&fld.all (λp=>Yp (z64 K (.ref q.2) p.1)))&&fld.all (λp=>match FLD[p.2]? with|some x=>x == p.1|none=>false)
theorem yc{K:z5G}{h:Heap}{mg:Str->Option Value}{c:Str}{v:Value}(X:K.In h)(G:h.Ns z5V mg)(e:Xh K c=some v):yo mg c v/\∀u,yo mg c u->u=v:=by
 unfold Xh at e
 split at e
 ·rename_i v' q
  cases e
  have m:=zaJ X G q
  refine⟨.inl m,λu z=>?_⟩
  rcases z with z|⟨z,_⟩
  ·rw[m] at z;cases z;rfl
  ·rw[m] at z;cases z
 ·rename_i q
  have m:=zba X G q
  split at e
  ·cases e
  ·rename_i hn
   refine⟨.inr ⟨m,e,λz=>hn (by rw[z];rfl)⟩,λu z=>?_⟩
   rcases z with z|⟨_,z,_⟩
   ·rw[m] at z;cases z
   ·rw[e] at z;cases z;rfl
 ·cases e
theorem qj{α β:Type}[BEq α][LawfulBEq α]{x:α}{v:β}:∀{l:List (α×β)},l.lookup x=some v->(x,v)∈l
 |[],h=>by cases h
 |(y,w)::r,h=>by
  rw[z6b] at h
  cases q:x == y with
  |true=>rw[q] at h;cases h;rw[beq_iff_eq.mp q];exact z5_
  |false=>rw[q] at h;exact z5M _ (qj h)
theorem lookup_some{α:Type}{x:Str}:∀{l:List (Str×α)},x∈l.map (·.1)->∃v,l.lookup x=some v
 |[],h=>by simp at h
 |(y,w)::r,h=>by
  rw[z6b]
  cases q:x == y with
  |true=>exact⟨w,rfl⟩
  |false=>
   rcases z65.mp h with z|z
   ·have z:x=y:=z
    rw[z] at q;simp at q
   ·exact lookup_some z
section
variable {P:Program}{w:World}{K:PySem.W.Frag}{mg:Str->Option Value}{base:Heap}{A:Ads}{clo:Nat->Addr->Option HO->List V->Prop}{cls fld:List (Str×Nat)}{gs:List (Str×GM)}{N G cel own:List Str}{k:Nat}{lam:Option (Nat×List Pos)}{tabs:Nat->Option (Addr×List Pos×Str)}
theorem z14{t:Nat}{u:Value}(h:QP (mkD K A clo tabs) t u):(t,u)∈tys A:=by
 unfold tys
 rcases h with⟨rfl,rfl⟩|⟨rfl,rfl⟩|⟨rfl,rfl⟩|⟨rfl,rfl⟩|⟨rfl,rfl⟩|⟨rfl,rfl⟩|⟨C,h,rfl⟩|⟨rfl,rfl⟩|⟨C,h,rfl⟩
 ·simp
 ·simp
 ·simp
 ·simp
 ·simp
 ·simp
 ·exact z5X _ (z5P _ (z6y.mpr ⟨(t,C),qj h,rfl⟩))
 ·simp
 ·exact z5P _ (z6y.mpr ⟨(t,C),qj h,rfl⟩)
noncomputable def GsOk (P:z6f)(w:z6w)(K:z5G)(mg:Str->Option Value)(base:Heap)(A:Ads)(clo:Nat->Addr->Option HO->List V->Prop)(k:Nat)(gs:List (Str×GM))(tabs:Nat->Option (Addr×List Pos×Str):=λ_=>none):Prop:=∀p∈gs,GlOkM (mkD K A clo tabs) P w K mg base k p.1 p.2/\(p.1 == ("__debug__":Str))=false
theorem GlOkM.mono{D:DP}{j k:Nat}{x:Str}{g:GM}(h:j<=k)(q:GlOkM D P w K mg base j x g):GlOkM D P w K mg base k x g:=by
 cases g with
 |fn f=>obtain⟨fa,a,fd,ps,kk,b,c,d,r⟩:=q;exact⟨fa,a,fd,ps,kk,b,c,z62 d h,r⟩
 |fnh nm f=>obtain⟨fa,a,fd,ps,kk,b,c,d,r⟩:=q;exact⟨fa,a,fd,ps,kk,b,c,z62 d h,r⟩
 |met c nm f=>obtain⟨C,fI,fd,ps,kk,a,b,c,d,e,f1,r⟩:=q;exact⟨C,fI,fd,ps,kk,a,b,c,d,e,z62 f1 h,r⟩
 |mk c z f=>obtain⟨C,fI,fd,ps,kk,a,b,c,d,e,r⟩:=q;exact⟨C,fI,fd,ps,kk,a,b,c,d,z62 e h,r⟩
 |xin c f nm fl=>obtain⟨C,HE,fI,fd,ps,kk,a1,a2,a3,a4,a5,a6,r⟩:=q;exact⟨C,HE,fI,fd,ps,kk,a1,a2,a3,a4,a5,z62 a6 h,r⟩
 |mkd c nm n f=>obtain⟨C,fI,fd,ps,kk,a,b,c,d,e,r⟩:=q;exact⟨C,fI,fd,ps,kk,a,b,c,d,z62 e h,r⟩
 |metd c nm n d f=>obtain⟨C,fI,fd,ps,kk,du,dv,a1,a2,a3,a4,a5,a6,a7,a8,r⟩:=q;exact⟨C,fI,fd,ps,kk,du,dv,a1,a2,a3,a4,a5,a6,a7,z62 a8 h,r⟩
 |kap ls=>exact⟨λj l ts φ α H v e d=>let ⟨a,kk,h1,h3,h4⟩:=q.1 j l ts φ α H v e d;⟨a,kk,h1,z62 h3 h,h4⟩,q.2⟩
 |kpr=>exact⟨λt φ α H v hj d=>let ⟨a,kk,h1,h2,h3⟩:=q.1 t φ α H v hj d;⟨a,kk,h1,z62 h2 h,h3⟩,q.2⟩
 |_=>exact q
theorem GsOk.mono{j k:Nat}(h:j<=k)(q:GsOk P w K mg base A clo j gs tabs):GsOk P w K mg base A clo k gs tabs:=λp hp=>⟨(q p hp).1.mono h,(q p hp).2⟩
theorem GsOk.add {x:Str} {g:GM} (q:GsOk P w K mg base A clo k gs tabs) (h:GlOkM (mkD K A clo tabs) P w K mg base k x g) (hx:(x == ("__debug__":Str))=false):GsOk P w K mg base A clo k ((x,g)::gs) tabs:=λp hp=>by
 rcases z65.mp hp with rfl|z
 ·exact⟨h,hx⟩
 ·exact q p z
noncomputable def Vv(bs:List Str)(xs:List (Str×Nat))(ys:List (Str×Nat×Nat)):List (Str×GM):=bs.map (λx=>(x,GM.none))++xs.map (λx=>(x.1,GM.xcl x.2))++ys.map (λx=>(x.1,GM.xcf x.2.1 x.2.2))
noncomputable def atA(K:z5G)(A:Ads)(x:Str)(c:Nat):Bool:=match A.xs.lookup c,z8D K z5V x with
 |some C,some (some (.ref C'))=>C == C'
 |_,_=>false
noncomputable def K4(K:z5G)(A:Ads)(bs:List Str)(xs:List (Str×Nat))(ys:List (Str×Nat×Nat)):Bool:=
 bs.all (λx=>x != ("__debug__":Str)&&Yp (z8D K z5V x))&&
 xs.all (λx=>x.1 != ("__debug__":Str)&&atA K A x.1 x.2)&&ys.all (λx=>x.1 != ("__debug__":Str)&&atA K A x.1 x.2.1)
theorem X5{x:Str}{c:Nat}(X:K.In base)(Gm:base.Ns z5V mg)(h:atA K A x c=true):∃C,A.xs.lookup c=some C/\mg x=some (.ref C):=by
 unfold atA at h
 split at h
 ·rename_i C C' q1 q2
  have h:C=C':=beq_iff_eq.mp h
  subst h
  exact⟨C,q1,zaJ X Gm q2⟩
 ·cases h
noncomputable def XOkL (K:z5G)(A:Ads):List (Str×Nat)->Prop
 |[]=>True
 |p::r=>(∃C,A.xs.lookup p.2=some C/\z8e K C zX "ValueError.__new__"=true)/\XOkL K A r
theorem XOkL.at:∀{xs:List (Str×Nat)} {p:Str×Nat},XOkL K A xs->p∈xs->∀C,A.xs.lookup p.2=some C->z8e K C zX "ValueError.__new__"=true
 |q::r,p,h,hp,C,e=>by
  rcases z65.mp hp with rfl|z
  ·obtain⟨C',e',x⟩:=h.1
   rw[e'] at e;cases e;exact x
  ·exact XOkL.at h.2 z C e
theorem WT{bs:List Str}{xs:List (Str×Nat)}{ys:List (Str×Nat×Nat)}(X:K.In base)(Gm:base.Ns z5V mg)(h:K4 K A bs xs ys=true)(hX:XOkL K A xs):GsOk P w K mg base A clo k (Vv bs xs ys) tabs:=by
 simp only[K4,z5B,z6i,bne_iff_ne,ne_eq] at h
 intro p hp
 rcases z5Q.mp hp with z|z
 ·rcases z5Q.mp z with z|z
  ·obtain⟨x,hx,rfl⟩:=z6y.mp z
   obtain⟨h1,h2⟩:=h.1.1 x hx
   exact⟨zba X Gm (ZR h2),beq_eq_false_iff_ne.mpr h1⟩
  ·obtain⟨x,hx,rfl⟩:=z6y.mp z
   obtain⟨h1,h2⟩:=h.1.2 x hx
   obtain⟨C,q1,q2⟩:=X5 X Gm h2
   exact⟨⟨C,q1,q2,XOkL.at hX hx C q1⟩,beq_eq_false_iff_ne.mpr h1⟩
 ·obtain⟨x,hx,rfl⟩:=z6y.mp z
  obtain⟨h1,h2⟩:=h.2 x hx
  obtain⟨C,q1,q2⟩:=X5 X Gm h2
  exact⟨⟨C,q1,q2⟩,beq_eq_false_iff_ne.mpr h1⟩
theorem kI{lnm:Str}(X:K.In base)(Gm:base.Ns z5V mg)(hc:chk K A cls fld=true)(q:GsOk P w K mg base A clo k gs tabs):MdOk (mkD K A clo tabs) P w K mg base (cn cls fld gs N G cel own lam lnm) k:=by
 simp only[chk,z5B,z6i] at hc
 obtain⟨⟨⟨c1,c2⟩,c3⟩,c4⟩:=hc
 have cb:∀{C},UX K C=true->z64 K (.ref C) "__class__"=some (some (.builtin "object.__class__"))/\z7p K (.builtin "object.__class__") "__get__"=some (some (.builtin "getset_descriptor.__get__"))/\z8X K (.builtin "object.__class__")=some true/\z6I K C (.type "object")=some true:=λ{C} h=>by
  simp only[UX,z5B] at h
  exact⟨yt h.1.1.1,yt h.1.1.2,jd h.1.2,jd h.2⟩
 have oc:∀c C,A.cs.lookup c=some C->OCls K C:=λc C h=>by
  have h':=(c3 _ (qj h)).1
  simp only[Kb,z5B] at h'
  obtain⟨⟨⟨⟨h1,h2⟩,h3⟩,h4⟩,h5⟩:=h'
  obtain⟨k1,k2,k3,k4⟩:=cb h1
  exact⟨⟨h2,h3,h4,yt h5⟩,k1,k2,k3,k4⟩
 refine⟨rfl,λx hx=>?_,λt x c hxc u v hu hv=>?_,λc C x f hC hf=>?_,λc C hC=>?_,oc,λx c hxc=>?_,λt x c hxc hlt Ct Cc hCt hCc=>?_⟩
 ·obtain⟨g,hg⟩:=lookup_some (l:=gs) hx
  have:=q _ (qj hg)
  refine⟨?_,this.2⟩
  show GlOkM _ P w K mg base k x ((gs.lookup x).getD .bad)
  rw[hg]
  exact this.1
 ·have h':=c1 _ hxc
  dsimp only at h'
  split at h'
  ·rename_i v' q'
   simp only[z5B,z6i] at h'
   have e:=(yc X Gm q').2 v hv
   subst e
   exact jd (h'.1.2 _ (z14 hu))
  ·cases h'
 ·have h':=c4 _ hf
  dsimp only at h'
  refine⟨?_,(oc c C hC).cl,ZR ((c3 _ (qj hC)).2 _ hf)⟩
  split at h'
  ·rename_i y hy
   show FLD[f]?=some x
   rw[hy,beq_iff_eq.mp h']
  ·cases h'
 ·have h':=c2 _ (qj hC)
  simp only[z0G,z5B] at h'
  obtain⟨⟨⟨⟨⟨h1,h2⟩,h3⟩,h4⟩,h6⟩,h5⟩:=h'
  obtain⟨k1,k2,k3,k4⟩:=cb h1
  exact⟨yt h2,ZR h3,k1,k2,k3,k4,jd h4,⟨jd h6.1,jd h6.2⟩,h5⟩
 ·have h':=c1 _ hxc
  dsimp only at h'
  split at h'
  ·rename_i v q'
   simp only[z5B] at h'
   have hcv:=h'.1.1
   refine⟨v,(match v with|.ref C=>V.ref C|.type n=>V.ty n|_=>V.non),(yc X Gm q').1,?_⟩
   cases v with
   |ref C=>exact .inl ⟨C,rfl,rfl⟩
   |type n=>exact .inr ⟨n,rfl,rfl⟩
   |_=>cases hcv
  ·cases h'
 ·have h':=c1 _ hxc
  dsimp only at h'
  split at h'
  ·rename_i v q'
   simp only[z5B,z8Z] at h'
   have e:=(yc X Gm q').2 (.ref Cc) (.inl hCc)
   subst e
   have h3:=h'.2.resolve_left (λz=>by have:=Nat.le_of_ble_eq_true z;omega)
   simp only[z6i] at h3
   exact jd (h3 _ (qj hCt))
  ·cases h'
end
section
variable {X:Cx}{D:DP}{W:XW}{Γ:Cn}{k:Nat}{pins:List (Addr×Obj)}{s:Shared}{σ:St}{H:Hp}{φ α:List Addr}{τ:Sl}{μ:Mem}{pos:Pos}
theorem MRel.layO{p:Addr}{u:HO}{mo:MO}(m:MRel D φ α H μ)(hp:H p=none)(d:DenO D φ (α++[p]) (upd H p u) mo p):MRel D φ (α++[p]) (upd H p u) (μ++[mo]):=by
 have st:Stp α H (α++[p]) (upd H p u):=vn hp
 have hl:=m.len
 refine⟨by simp[hl],?_,λb hb=>?_,λb hb=>?_,λi a o e1 e2=>?_⟩
 ·rw[z7U]
  refine⟨m.nd,by simp,λa ha b hb=>?_⟩
  rw[z5J.mp hb]
  intro z
  exact zq m hp (z▸ha)
 ·rcases z5Q.mp hb with h|h
  ·exact m.dis b h
  ·rw[z5J.mp h];exact zp m hp
 ·obtain⟨u,e,n⟩:=m.phi b hb
  exact⟨u,zj hp b u e,n⟩
 ·by_cases hi:i<α.length
  ·rw[z5I hi] at e1
   rw[z5I (by omega)] at e2
   have d:=m.ob i a o e1 e2
   obtain⟨u,q,_⟩:=d.some
   exact d.step st ((zj hp _ _ q).trans q.symm)
  ·rw[z5U (by omega)] at e1 e2
   have hi':i-α.length=0:=by
    by_cases z:i-α.length=0
    ·exact z
    ·rw[z8K (by simp;omega)] at e1;cases e1
   have hi2:i-μ.length=0:=by omega
   rw[hi'] at e1
   rw[hi2] at e2
   have e1:some p=some a:=e1
   have e2:some mo=some o:=e2
   cases e1;cases e2
   exact d
end
noncomputable abbrev eB2(op:T->T->Mem->RE T)(f g:De):De:=λτ μ=>(f τ μ).bind λx μ1=>(g τ μ1).bind λy μ2=>op x y μ2
noncomputable abbrev uD(x y:T)(μ:Mem):RE T:=match x,y with
 |.int a,.int b=>.ok (.int (if b<a then b else a)) μ
 |_,_=>.st
noncomputable abbrev QJ(x y:T)(μ:Mem):RE T:=match x,y with
 |.int a,.int b=>.ok (.int (if a<b then b else a)) μ
 |_,_=>.st
section
variable {X:Cx}{D:DP}{W:XW}{Γ:Cn}{k:Nat}{pins:List (Addr×Obj)}{s:Shared}{σ:St}{H:Hp}{φ α:List Addr}{τ:Sl}{μ:Mem}{f g h:De}{a b c:Expr}{pos:Pos}{es:List Expr}
noncomputable def B2 (X:Cx)(D:DP)(W:XW)(fv:Value)(op:T->T->Mem->RE T):Prop:=
 ∀(pins:List (Addr×Obj)) (s:z5D) (σ:St) (H:Hp) (φ α:List Addr) (μ:Mem) (t t':T) (v v':V) (u u':Value) (Q:VK),Inv X pins σ H s->MRel D φ α H μ->Den D φ α H t v->Den D φ α H t' v'->RelV v u->RelV v' u'->Post D W φ α H σ (RV D φ Q) (op t t' μ)->
  z5K (z5N X.prog X.w) X.A (call fv [u,u']) (EP X pins σ Q) X.xe s
theorem z0x (C:Ck D W Γ X k) {x:Str} {id:String} {op:T->T->Mem->RE T} {p0:Pos} (hx:x∈Γ.G) (hg:Γ.gl x=.none) (hv:z6U x=some (.builtin id)) (hn:x≠"__name__") (ha':noStar a=true) (hb':noStar b=true) (hB:B2 X D W (.builtin id) op) (ha:PE X a (rdE D W f)) (hb:PE X b (rdE D W g)) :
  PE X (.Call (.Name x p0) [a,b] [] pos) (rdE D W (eB2 op f g)):=by
 have hm:=C.glo _ hx
 rw[hg] at hm
 rintro pins s σ H Q I ⟨φ,α,τ,μ,sr,mr,p⟩
 refine z6F (we I (C.glb _ hx) hm hv ?_ hn (C.dbG _ hx))
 refine z6T (thn (zN ha (zN hb qx (z8 hb')) (z8 ha') pos pins s σ H (λvs H2=>∃v1 v2 t1 t2 μ2 α2,vs=[v1,v2]/\MRel D φ α2 H2 μ2/\Den D φ α2 H2 t1 v1/\Den D φ α2 H2 t2 v2/\Post D W φ α2 H2 σ (RV D φ Q) (op t1 t2 μ2)) I
  ⟨φ,α,τ,μ,sr,mr,p.bind.mono λt1 μ1 α1 H1 st1 m1 q1 v1 d1=>⟨φ,α1,τ,μ1,sr.step st1,m1,q1.bind.mono λt2 μ2 α2 H2 st2 m2 q2 v2 d2=>⟨v1,v2,t1,t2,μ2,α2,rfl,m2,d1.step st2,d2,q2⟩⟩⟩) ?_) (z8 ha') (q9 (by simp[hb']))
 rintro us s1 ⟨vs,H1,I1,rv,v1,v2,t1,t2,μ2,α2,rfl,m,d1,d2,q⟩
 obtain⟨u1,u2,rfl,r1,r2⟩:=vals2 rv
 exact hB pins s1 σ H1 φ α2 μ2 t1 t2 v1 v2 u1 u2 Q I1 m d1 d2 r1 r2 q
theorem z3s(hc:X.calm=true):B2 X D W (.builtin "min") uD:=by
 intro pins s σ H φ α μ t t' v v' u u' Q I mr d d' r r' p
 unfold uD at p
 split at p
 ·cases d;cases d'
  obtain⟨t1,rfl⟩:=r
  obtain⟨t2,rfl⟩:=r'
  refine min_two_ints (I.ok.hd hc) λh' tk kp=>?_
  have I1:Inv X pins σ H {s with heap:=h',toks:=tk}:=I.kept kp
  rename_i i j
  by_cases z:j<i
  ·rw[if_pos z] at p ⊢
   exact⟨.int j,H,I1,⟨_,rfl⟩,p.here mr rfl⟩
  ·rw[if_neg z] at p ⊢
   exact⟨.int i,H,I1,⟨_,rfl⟩,p.here mr rfl⟩
 ·exact p.elim
theorem z1a(hc:X.calm=true):B2 X D W (.builtin "max") QJ:=by
 intro pins s σ H φ α μ t t' v v' u u' Q I mr d d' r r' p
 unfold QJ at p
 split at p
 ·cases d;cases d'
  obtain⟨t1,rfl⟩:=r
  obtain⟨t2,rfl⟩:=r'
  refine max_two_ints (I.ok.hd hc) λh' tk kp=>?_
  have I1:Inv X pins σ H {s with heap:=h',toks:=tk}:=I.kept kp
  rename_i i j
  by_cases z:i<j
  ·rw[if_pos z] at p
   rw[if_pos (show j > i from z)]
   exact⟨.int j,H,I1,⟨_,rfl⟩,p.here mr rfl⟩
  ·rw[if_neg z] at p
   rw[if_neg (show ¬j > i from z)]
   exact⟨.int i,H,I1,⟨_,rfl⟩,p.here mr rfl⟩
 ·exact p.elim
theorem intsAre_of:∀{ns:List Int} {us:List Value},Vals (ns.map V.int) us->z75 us ns
 |[],_,.nil=>.nil
 |n::ns,_,.cons r q=>by
  obtain⟨t,rfl⟩:=r
  exact .cons n t (intsAre_of q)
theorem Qd:∀{ns:List Int},DenL D φ α H (ns.map T.int) (ns.map V.int)
 |[]=>rfl
 |n::ns=>⟨V.int n,_,rfl,rfl,Qd⟩
end
noncomputable def rB2 (nm:Str)(op:T->T->Mem->RE T):ER:=λr Γ e=>match e with
 |.Call (.Name x _) [a,b] [] _=>gd (x == nm&&(idx Γ.N x).isNone&&noStar a&&noStar b&&Γ.calm) ((r.e Γ a).bind λf=>(r.e Γ b).bind λg=>(match Γ.look x with
  |.none=>some (eB2 op f g)
  |_=>none))
 |_=>none
theorem XN{D:DP}{nm:Str}{op:T->T->Mem->RE T}(H1:∀{X:Cx} {W:XW} {Γ:Cn} {k:Nat} {a b:Expr} {f g:De} {p0 pos:Pos},Ck D W Γ X k->nm∈Γ.G->Γ.gl nm=.none->Γ.calm=true->noStar a=true->noStar b=true->PE X a (rdE D W f)->PE X b (rdE D W g)->PE X (.Call (.Name nm p0) [a,b] [] pos) (rdE D W (eB2 op f g))):EOk D (rB2 nm op):=by
 intro r H X W Γ k e d C h
 unfold rB2 at h
 split at h
 ·rename_i x p0 a b pos
  have hh:=zr h
  clear h
  obtain⟨hb,h⟩:=hh
  simp only[z5B,beq_iff_eq] at hb
  obtain⟨⟨⟨⟨rfl,h2⟩,h3⟩,h4⟩,h5⟩:=hb
  obtain⟨f,h1,h⟩:=bnd h
  obtain⟨g,h6,h⟩:=bnd h
  cases hl:Γ.look x with
  |none=>
   simp only[hl] at h
   cases h
   obtain⟨hx,hg⟩:=wc hl (by intro z;cases z)
   exact H1 C hx hg h5 h3 h4 (H.e C h1) (H.e C h6)
  |_=>simp[hl] at h
 ·cases h
noncomputable def z0v:ER:=rB2 "min" uD
theorem Xi{D:DP}:EOk D z0v:=XN λC hx hg hc h1 h2 ha hb=>z0x C hx hg (by decide +kernel) (by decide) h1 h2 (z3s (C.clm hc)) ha hb
noncomputable def z0H:ER:=rB2 "max" QJ
theorem Yi{D:DP}:EOk D z0H:=XN λC hx hg hc h1 h2 ha hb=>z0x C hx hg (by decide +kernel) (by decide) h1 h2 (z1a (C.clm hc)) ha hb
noncomputable abbrev xA(c:Nat)(g:Fn)(ts:List T)(μ:Mem):RE T:=λK Z=>g (.mut μ.length::ts) (μ++[.obj c []]) (λr μ1=>r=.non/\K (.mut μ.length) μ1) Z
noncomputable abbrev z0j(c:Nat)(g:Fn)(fs:List De):De:=λτ μ=>(evs fs τ μ).bind (xA c g)
noncomputable abbrev zR(c:Nat)(g:Fn)(o:De)(as:List De):De:=λτ μ=>(o τ μ).bind λt μ1=>match t with
 |.obj c' fs=>.grd (c'=c) ((evs as τ μ1).bind λts μ2=>g (.obj c' fs::ts) μ2)
 |.mut i=>λK Z=>∃fs,μ1[i]?=some (.obj c fs)/\(evs as τ μ1).bind (λts μ2=>g (.mut i::ts) μ2) K Z
 |_=>.st
section
variable {X:Cx}{D:DP}{W:XW}{Γ:Cn}{k:Nat}{pins:List (Addr×Obj)}{s:Shared}{σ:St}{H:Hp}{φ α:List Addr}{τ:Sl}{μ:Mem}{fs:List De}{a b c:Expr}{pos:Pos}{es:List Expr}
theorem Vz{c:Nat}{g:Fn}{C0 fI:Addr}{fd:FuncData}{ps:List Str}{kk:Nat}{us:List Value}{vs:List V}{ts:List T}{Q:VK}(C:Ck D W Γ X k)(ad:D.cad c=some C0)(M:Mk X.K C0 fI)(F:FnOk X.prog X.w X.K X.mg X.base (CX1 X.prog X.w) kk fI fd ps (spN D ps.length g))
  (hr:Room (kk+1) X.A) (hb:Binds X.K fd ps []) (har:∀ts μ K Z,g ts μ K Z->ts.length=ps.length) (I:Inv X pins σ H s) (r:Vals vs us) (mr:MRel D φ α H μ) (d:DenL D φ α H ts vs) (p:Post D W φ α H σ (RV D φ Q) (xA c g ts μ)) :
  z5K (z5N X.prog X.w) X.A (call (.ref C0) us) (EP X pins σ Q) X.xe s:=by
 obtain⟨K,Z,hg,hk,hz⟩:=p
 have hl:(T.mut μ.length::ts).length=ps.length:=har _ _ _ _ hg
 have hq:∀x dx,H x=none->H dx=none->dx≠x->spN D ps.length g (.ref x::(vs++[])) (upd (upd H dx (.own x)) x (.ins C0 dx [])) (λv H2=>v=.non/\Q (.ref x) H2) (λc d H'=>W c d σ H'):=by
  intro x dx hx hdx hne
  have sm1:vZ H (upd H dx (.own x)):=zj hdx
  have hx1:upd H dx (.own x) x=none:=by rw[za (z6k hne)];exact hx
  have mr1:MRel D φ α (upd H dx (.own x)) μ:=mr.new sm1
  have st0:Stp α H (α++[x]) (upd (upd H dx (.own x)) x (.ins C0 dx [])):=(Stp.new sm1).trans (vn hx1)
  have mr2:MRel D φ (α++[x]) (upd (upd H dx (.own x)) x (.ins C0 dx [])) (μ++[.obj c []]):=mr1.layO hx1 ⟨C0,dx,[],ad,zd,rfl⟩
  have hget:(α++[x])[μ.length]?=some x:=by rw[←mr.len,z5U (z5H _)];simp
  refine⟨by simp only[z68,z6n] at hl ⊢;rw[←d.length];exact hl,φ,α++[x],.mut μ.length::ts,μ++[.obj c []],⟨.ref x,vs++[],rfl,⟨x,hget,rfl⟩,by rw[z6n];exact d.step st0⟩,mr2,_,_,hg,?_,?_⟩
  ·rintro t μ2 ⟨rfl,q⟩ α2 H3 st m v dv
   refine⟨dv,?_⟩
   obtain⟨β,e,_⟩:=st.ext
   refine hk _ _ q α2 H3 (st0.trans st) m _ ⟨x,?_,rfl⟩
   rw[e,z5I (z5A.mp hget).1];exact hget
  ·rintro e fs μ2 q α2 H3 C1 d1 st m had xd
   exact hz _ _ _ q α2 H3 C1 d1 (st0.trans st) m had xd
 have hq1:=hq (s.heap.objs.size+1) s.heap.objs.size (I.hok.fresh (z7r _)) (I.hok.fresh (z5H _)) (z5Z (z6G _))
 have I2:=Inv.made (C:=C0) I
 have r2:Vals (V.ref (s.heap.objs.size+1)::(vs++[])) (z61 (s.heap.objs.size+1)::us):=.cons rfl (by rw[z6n];exact r)
 have hlu:(z61 (s.heap.objs.size+1)::us++[]).length=ps.length:=by
  rw[z6n,z68,←r.length,←d.length]
  exact hl
 refine z73 (yn (f:=fI) I.kIn M.makes M.init (beq_iff_eq.mp M.fn) (z76 (F.run _ X.stack _ _ ⟨z61 (s.heap.objs.size+1)::us,[]⟩ (z61 (s.heap.objs.size+1)::us) _ _ (λc d H'=>W c d σ H') (hr.make C0 us [])
  (I2.env0.make C0 us []) (by simpa using hb _ (z61 (s.heap.objs.size+1)::us) I2.kIn hlu) r2 hq1) λr s' hq'=>?_))
 cases r with
 |error e=>exact C.xe e s' (vP (E:=λc d H'=>W c d σ H') I2 hq' λcls d H' w=>w)
 |ok fl=>
  cases fl with
  |ret u=>
   obtain⟨v,H',I3,rv,ev,q3⟩:=I2.after hq'
   subst ev
   exact⟨rv,⟨V.ref (s.heap.objs.size+1),H',I3,rfl,q3⟩⟩
  |next=>exact z69 hq'
  |brk=>exact z69 hq'
  |cont=>exact z69 hq'
theorem Yf(C:Ck D W Γ X k){x:Str}{c:Nat}{g:Fn}{p0:Pos}(hx:x∈Γ.G)(hg:Γ.gl x=.mk c false g)(hc:Γ.calm=true)(ha:EsOk X D W es fs):PE X (.Call (.Name x p0) es [] pos) (rdE D W (z0j c g fs)):=by
 have q:=C.glo x hx
 rw[hg] at q
 obtain⟨C0,fI,fd,ps,kk,ad,hm,M,hb,hkk,Fn,har⟩:=q
 have hr:=(C.rom hc).mono hkk
 have hs:=ha.stars
 have pa:=qX ha
 rintro pins s σ H Q I ⟨φ,α,τ,μ,sr,mr,p⟩
 refine z6F (wb I (C.glb x hx) hm ?_ (C.dbG x hx))
 cases es with
 |nil=>
  cases fs with
  |nil=>exact z7z I.kIn M.kp (Vz (ts:=[]) C ad M Fn hr hb har I .nil mr rfl p)
  |cons f fs=>exact ha.elim
 |cons e es=>
  simp only[z6s,z5B] at hs
  refine z6S (h₀:=X.base) I.ok.mod.kin M.kp (thn (VZ pa I sr mr p) ?_) (z8 hs.1) (q9 hs.2)
  rintro us s1 ⟨vs,H1,ts,μ1,α1,I1,r1,st1,sr1,mr1,d1,_,p1⟩
  exact⟨I1.kIn,Vz C ad M Fn hr hb har I1 r1 mr1 d1 p1⟩
theorem vK{nm:Str}(hf:∀i,D.fn i≠some nm):∀{fs:List (Nat×T)} {gs:List (Str×V)},DenF D φ α H fs gs->gs.lookup nm=none
 |[],_,h=>by cases h;rfl
 |p::r,_,h=>by
  obtain⟨x,v,q,e,rfl,_,l⟩:=h
  rw[z6b]
  have:(nm == x)=false:=by
   apply beq_false_of_ne
   intro z
   exact hf p.1 (by rw[z];exact e)
  rw[this]
  exact vK hf l
theorem Wa {es : List Expr} {pos : Pos} {env : Env} (hs : es.all noStar = true) (hl : es.length < 30) : ((z7u pos (z6o es env)).all (fun x => !x.1) && (z8V pos (z7J [] env)).all (fun x => x.1.isSome)
      &&decide (es.length+([]:List z9a).length+(if ([]:List z9a).isEmpty then 0 else 1)<30))=true:=by
  have h1:=q9 (env:=env) (pos:=pos) hs
  have h2:(z7u pos (z6o es env)).all (λx=>!x.1)=true:=by
    rw[z6i]
    intro x hx
    have:=z9C.mp h1 x hx
    simpa using this
  rw[h2]
  have h3:(z8V pos (z7J [] env)).all (λx=>x.1.isSome)=true:=rfl
  rw[h3]
  simpa using hl
theorem U0(C:Ck D W Γ X k){x m:Str}{c:Nat}{g:Fn}{o:Expr}{go:De}{apos:Pos}(hU:x∈Γ.U)(hg:Γ.gl x=.met c m g)(hc:Γ.calm=true)(hp:qb o=true)(hline:(apos.endLine == pos.line)=true)(hl:es.length<30)(ho:PE X o (rdE D W go))(ha:EsOk X D W es fs) :
  PE X (.Call (.Attribute o m apos) es [] pos) (rdE D W (zR c g go fs)):=by
 have q:=(C.glU x hU).1
 rw[hg] at q
 obtain⟨C0,fI,fd,ps,kk,ad,cl,M,hnf,hb,hkk,Fn,har⟩:=q
 have hr:=(C.rom hc).mono hkk
 have hs:=ha.stars
 have pa:=qX ha
 rintro pins s σ H Q I ⟨φ,α,τ,μ,sr,mr,p⟩
 rw[z9O,qO hp]
 refine z5z (thn (sub ho I sr mr p) ?_)
 rintro u s1 ⟨v,H1,t,μ1,α1,I1,r1,st1,sr1,mr1,d1,p1⟩
 refine z5z (z6p ?_)
 have hform:zaI (es.length+([]:List z9a).length) (z7u pos (z6o es X.env)) (z8V pos (z7J [] X.env))=true:=Wa hs hl
 have hpos:z7x true o X.env apos pos=pure pos:=by unfold z7x;simp[hline]
 have go:∀{ad0 dx:Addr} {gs:List (Str×V)} {t0:T},H1 ad0=some (.ins C0 dx gs)->gs.lookup m=none->u=.ref ad0->(∀α2 H2,Stp α1 H1 α2 H2->Den D φ α2 H2 t0 (.ref ad0))->Post D W φ α1 H1 σ (RV D φ Q) ((evs fs τ μ1).bind λts μ2=>g (t0::ts) μ2)->
   z5K (z5N X.prog X.w) X.A (z8Q o m apos pos X.env u (es.length+([]:List z9a).length) (z7u pos (z6o es X.env)) (z8V pos (z7J [] X.env))) (EP X pins σ Q) X.xe s1:=λ{ad0 dx gs t0} e1 lk hu hd p2=>by
  subst hu
  unfold z8Q
  rw[hform]
  refine z5z (z60 (xO I1 e1 cl M lk ?_))
  refine z5z (z7K hpos ?_)
  have d0:=hd α1 H1 (Stp.refl _ _)
  cases es with
  |nil=>
   cases fs with
   |nil=>exact z7z (first:=[.ref ad0]) I1.kIn M.kp (xC (ts:=[t0]) (us:=[.ref ad0]) (vs:=[.ref ad0]) C Fn hr hb har I1 (.cons rfl .nil) mr1 ⟨_,_,rfl,d0,rfl⟩ p2)
   |cons f fs=>exact ha.elim
  |cons e es=>
   simp only[z6s,z5B] at hs
   refine z6S (first:=[.ref ad0]) (h₀:=X.base) I1.ok.mod.kin M.kp (thn (VZ pa I1 sr1 mr1 p2) ?_) (z8 hs.1) (q9 hs.2)
   rintro us s2 ⟨vs,H2,ts,μ2,α2,I2,r2,st2,sr2,mr2,d2,_,p3⟩
   exact⟨I2.kIn,xC (ts:=t0::ts) (us:=.ref ad0::us) (vs:=.ref ad0::vs) C Fn hr hb har I2 (.cons rfl r2) mr2 ⟨_,_,rfl,hd α2 H2 st2,d2⟩ p3⟩
 cases t with
 |obj c' gf=>
  obtain⟨hcc,p2⟩:=Post.grd p1
  subst hcc
  obtain⟨ad0,C1,dx,gs,rfl,n1,n2,ad1,e1,l⟩:=id d1
  rw[ad] at ad1;cases ad1
  exact go e1 (vK hnf l) r1 (λα2 H2 st=>d1.step st) p2
 | «mut» i=>
  obtain⟨gf,hi,p2⟩:=Post.ex1 p1
  obtain⟨ad0,hi',rfl⟩:=id d1
  obtain⟨C1,dx,gs,ad1,e1,l⟩:=mr1.ob i ad0 _ hi' hi
  rw[ad] at ad1;cases ad1
  exact go e1 (vK hnf l) r1 (λα2 H2 st=>d1.step st) p2
 |_=>exact Post.elim p1
end
theorem jk{K:z5G}{A:Ads}{cls fld:List (Str×Nat)}{c:Nat}{C:Addr}(hc:chk K A cls fld=true)(h:A.cs.lookup c=some C):Cls K C:=by
 simp only[chk,z5B,z6i] at hc
 obtain⟨⟨⟨c1,c2⟩,c3⟩,c4⟩:=hc
 have h':=(c3 _ (qj h)).1
 simp only[Kb,z5B] at h'
 obtain⟨⟨⟨⟨h1,h2⟩,h3⟩,h4⟩,h5⟩:=h'
 exact⟨h2,h3,h4,yt h5⟩
noncomputable def z3o:ER:=λr Γ e=>match e with
 |.Call (.Name x _) es [] _=>gd ((idx Γ.N x).isNone&&Γ.calm) ((cEs r Γ es).bind λfs=>(match Γ.look x with
  |.mk c false g=>some (z0j c g fs)
  |_=>none))
 |_=>none
theorem YI{D:DP}:EOk D z3o:=by
 intro r H X W Γ k e d C h
 unfold z3o at h
 split at h
 ·rename_i x p0 es pos
  have hh:=zr h
  clear h
  obtain⟨hb,h⟩:=hh
  simp only[z5B] at hb
  obtain⟨fs,h1,h⟩:=bnd h
  cases hl:Γ.look x with
  |mk c b g=>
   cases b with
   |false=>
    simp only[hl] at h
    cases h
    obtain⟨hx,hg⟩:=wc hl (by intro z;cases z)
    exact Yf C hx hg hb.2 (qW H C h1)
   |true=>simp[hl] at h
  |_=>simp[hl] at h
 ·cases h
noncomputable def dot(m:Str):Str:=⟨#[46]++m.cps⟩
noncomputable def z1A:ER:=λr Γ e=>match e with
 |.Call (.Attribute o m pa) es [] pc=>gd (qb o&&pa.endLine == pc.line&&Γ.calm&&decide (es.length<30)&&Γ.U.contains (dot m)) ((r.e Γ o).bind λgo=>(cEs r Γ es).bind λfs=>(match Γ.gl (dot m) with
  |.met c nm g=>gd (nm == m) (some (zR c g go fs))
  |_=>none))
 |_=>none
theorem U9{D:DP}:EOk D z1A:=by
 intro r H X W Γ k e d C h
 unfold z1A at h
 split at h
 ·rename_i o m pa es pc
  have hh:=zr h
  clear h
  obtain⟨hb,h⟩:=hh
  simp only[z5B] at hb
  obtain⟨⟨⟨⟨h0,h2⟩,h3⟩,h4⟩,h5⟩:=hb
  obtain⟨go,h1,h⟩:=bnd h
  obtain⟨fs,h6,h⟩:=bnd h
  cases hl:Γ.gl (dot m) with
  |met c nm g=>
   simp only[hl] at h
   obtain⟨h7,h8⟩:=zr h
   have h7:=beq_iff_eq.mp h7
   subst h7
   cases h8
   exact U0 C (by simpa using h5) hl h3 h0 h2 (of_decide_eq_true h4) (H.e C h1) (qW H C h6)
  |_=>simp[hl] at h
 ·cases h
section
variable {X:Cx}{pins:List (Addr×Obj)}{s:Shared}{σ:St}{H:Hp}
theorem jc{x:Addr}{o:HO}(I:Inv X pins σ H s)(ox:XOk X H x)(hp:∀p∈pins,p.1≠x)(hx:ObjOk X.prog X.w (upd H x o) s.heap x o):Inv X pins σ (upd H x o) s:=by
 have ne:∀b,H b≠none->b≠x:=λb h z=>h (by rw[z];exact ox.free)
 refine⟨I.ok,I.os,I.bare,⟨I.base.keep,I.base.slot,λb o e n hx'=>?_,I.base.there,λb xs e=>?_,λb o u e=>?_,λb ps e=>?_⟩,I.loc,I.cell,?_,λy c e=>?_,λp hp'=>?_,λb ob e=>?_,I.len⟩
 ·have:b≠x:=λz=>by
   rcases ox.new with q|q
   ·exact hx' (by rw[z];exact q)
   ·rw[←z,e] at q;cases q
  rw[za this];exact I.base.free b o e n hx'
 ·have q:=I.base.tups b xs e
  rw[za (ne b (by rw[q];simp))];exact q
 ·have q:=I.base.frzs b o u e
  rw[za (ne b (by rw[q];simp))];exact q
 ·obtain⟨more,q⟩:=I.base.tbls b ps e
  exact⟨more,by rw[za (ne b (by rw[q];simp))];exact q⟩
 ·rw[za (z6k ox.loc)];exact I.free
 ·rw[za (ox.cel y c e)];exact I.freeC y c e
 ·obtain⟨e,n,r⟩:=I.pin p hp'
  have:p.1≠x:=(z5Q.mp hp').elim (ox.pin p) (hp p)
  exact⟨e,by rw[za this];exact n,r⟩
 ·by_cases z:b=x
  ·subst z
   rw[zd] at e
   cases e
   exact hx
  ·rw[za z] at e
   exact (I.hok b ob e).stay (λ_ _ _ q=>q) (λc q=>by
    by_cases w:c=x
    ·rw[w,ox.free] at q;cases q
    ·rw[za w];exact q) λc _ q=>by
    by_cases w:c=x
    ·rw[w,ox.free] at q;cases q
    ·rw[za w];exact q
theorem Yo{b:Addr}(f:Zv X pins H b):XOk X H b/\∀p∈pins,p.1≠b:=
 ⟨⟨f.1,f.2.1,f.2.2.1,f.2.2.2.1.imp id λh=>z6d h,f.2.2.2.2.1,λp hp=>f.2.2.2.2.2 p (z5X _ hp)⟩,λp hp=>f.2.2.2.2.2 p (z5P _ hp)⟩
end
end NH
namespace L2
open PySem PySem.Spec PyProof.Rows
section
variable {κ:Type}[DecidableEq κ]
theorem KV.length{kvs:List (κ×V)}{vs:List (κ×Value)}(r:KV kvs vs):kvs.length=vs.length:=zcT r
end
section
variable {P:Program}{w:World}{H:Hp}{h:Heap}{a:Addr}
theorem z4C{u:HO}(ok:HOk P w H h)(e:Rd H a u):ObjOk P w H h a u:=e.ok ok
theorem z4J{kvs:List (Key×V)}(ok:HOk P w H h)(e:Rd H a (.dK kvs)):kvs.length<=sizeLine/\(a == z8n)=false/\∃vs,KV kvs vs/\h.DictOf (wz P w) a vs:=
 show ObjOk P w H h a (.dK kvs) from z4C ok e
theorem z4d{kvs:List (Key×V)}(ok:HOk P w H h)(e:H a=some (.dK kvs)):kvs.length<=sizeLine/\(a == z8n)=false/\∃vs,KV kvs vs/\h.DictOf (wz P w) a vs:=z4J ok (.inl e)
end
section
variable {X:Cx}{pins:List (Addr×Obj)}{σ:St}{H:Hp}{s:Shared}{a:Addr}{y v:V}{u r:Value}{o:Option V}{A:Around}{E:Value->Shared->Prop}
theorem Inv.big(I:Inv X pins σ H s):z8n<s.heap.objs.size:=by
 have h:z5V<s.heap.objs.size:=(I.mod.glob.keeps I.bk).lt
 exact zbx (by decide) h
end
end L2
namespace NH
open PySem PySem.Spec PyProof.Rows L2
noncomputable abbrev z5w:De:=λ_ μ=>.ok (.dic []) μ
noncomputable abbrev z5x(o f g:De):De:=λτ μ=>(o τ μ).bind λot μ1=>match ot with
 |.mut i=>λK Z=>(∃ts,μ1[i]?=some (.lst ts))/\f τ μ1 (λkt μ2=>g τ μ2 (λt μ3=>match kt with
  |.int k=>∃ts,μ3[i]?=some (.lst ts)/\(0<=k/\k<=ts.length/\ts.length<room)/\K .non (μ3.set i (.lst (ts.take k.toNat++t::ts.drop k.toNat)))
  |_=>False) Z) Z
 |_=>.st
section
variable {X:Cx}{D:DP}{W:XW}{Γ:Cn}{k:Nat}{pins:List (Addr×Obj)}{s:Shared}{σ:St}{H:Hp}{φ α:List Addr}{τ:Sl}{μ:Mem}{f g:De}{a b:Expr}{pos:Pos}
theorem QS:∀{kvs:List (Key×T)} {gs:List (Key×V)},DenK D φ α H kvs gs->gs.length=kvs.length
 |[],_,h=>by cases h;rfl
 |p::r,_,h=>by
  obtain⟨v,q,rfl,d,l⟩:=h
  rw[z68,z68,QS l]
end
end NH
namespace NH.P
open PySem L2 NH
@[reducible] noncomputable def ya:List Ds:=[(zA (ZS (Zb [2] (eV 0)) (XD (Zb [1] (eV 0)))))]
noncomputable def qQ:Fn:=fnW 1 0 ya
@[reducible] noncomputable def Z6:List Ds:=[(zA (ZS (zf qQ [(eV 0)]) (zt .GtE (eV 0) (eC (.int 1)))))]
noncomputable def wF:Fn:=fnW 1 0 Z6
@[reducible] noncomputable def xZ:List Ds:=[(zA (ZS (zf qQ [(eV 0)]) (eCh (eC (.int 0)) [(.LtE,(eV 0)),(.Lt,(eV 1))])))]
noncomputable def qz:Fn:=fnW 2 0 xZ
@[reducible] noncomputable def jP:List Ds:=[(sIf (w_ (xh (tE (zf wF [(eV 1)])) (xh (tE (zf wF [(eV 2)])) (tE (zf wF [(eV 3)]))))) [(zG 12 [(eC (.str "a shape has three whole numbers from 1 on"))])] []),(qH (eV 0) 0 (eV 1)),(qH (eV 0) 1 (eV 2)),(qH (eV 0) 2 (eV 3))]
noncomputable def vf:Fn:=fnW 4 0 jP
@[reducible] noncomputable def yI:List Ds:=[(zA (zo .Mult (zo .Mult (zm (eV 0) 0) (zm (eV 0) 1)) (zm (eV 0) 2)))]
noncomputable def jG:Fn:=fnW 1 0 yI
@[reducible] noncomputable def Z5:List Ds:=[(zA (zf qz [(eV 1),(zf jG [(eV 0)])]))]
noncomputable def xv:Fn:=fnW 2 0 Z5
@[reducible] noncomputable def jZ:List Ds:=[(sIf (w_ (tE (zf xv [(eV 0),(eV 1)]))) [(zG 13 [(eC (.str "no name of the shape"))])] [])]
noncomputable def vd:Fn:=fnW 2 0 jZ
@[reducible] noncomputable def kQ:List Ds:=[(sIf (tE (zt .Lt (eV 1) (eB1 ja (eV 0)))) [(zA (eIx (eV 0) (eV 1)))] []),(zA (eC (.int 0)))]
noncomputable def wW:Fn:=fnW 2 0 kQ
@[reducible] noncomputable def xN:List Ds:=[(zJ (zf vd [(eV 0),(eV 1)])),(zx 2 (zo .Mod (eV 1) (zm (eV 0) 2))),(zx 3 (zo .FloorDiv (eV 1) (zm (eV 0) 2))),(zA (jh [(zo .FloorDiv (eV 3) (zm (eV 0) 1)),(zo .Mod (eV 3) (zm (eV 0) 1)),(eV 2)]))]
noncomputable def vE:Fn:=fnW 2 2 xN
end NH.P
namespace NH
open PySem PySem.Spec PyProof.Rows L2
section
variable {X:Cx}{D:DP}{W:XW}{Γ:Cn}{k:Nat}{pins:List (Addr×Obj)}{s:Shared}{σ:St}{H:Hp}{φ α:List Addr}{τ:Sl}{μ:Mem}
theorem QO{q:Addr}{o:Obj}(I:Inv X pins σ H s)(h1:s.heap.get? q=some o)(h2:H q=none)(h3:q≠X.env.locals)(h4:q∉X.fs)(h5:∀v,o.data≠.cell v):Inv X ((q,o)::pins) σ H s:=
 ⟨I.ok,I.os,I.bare,I.base,I.loc,I.cell,I.free,I.freeC,λp hp=>by
  rcases z5Q.mp hp with z|z
  ·exact I.pin p (z5X _ z)
  ·rcases z65.mp z with rfl|z
   ·exact⟨h1,h2,h3,h4,h5⟩
   ·exact I.pin p (z5P _ z),I.hok,I.len⟩
theorem Q_{p:Addr×Obj}(I:Inv X (p::pins) σ H s):Inv X pins σ H s:=
 ⟨I.ok,I.os,I.bare,I.base,I.loc,I.cell,I.free,I.freeC,λp hp=>by
  rcases z5Q.mp hp with z|z
  ·exact I.pin p (z5X _ z)
  ·exact I.pin p (z5P _ (z5M _ z)),I.hok,I.len⟩
theorem Ju{P:z6f}{w:z6w}{H:Hp}{h:Heap}{c:Addr}{qn:Str}(r:h.CodeRec (.ref c) qn):ObjOk P w H h c (.ext (qE c qn)):=by
 obtain⟨c',oc,vs,tq,e1,e2,e3,e4⟩:=id r
 cases e1
 refine⟨r,⟨oc,e2⟩,λh1 h2 p kk=>?_⟩
 obtain⟨c',oc,vs,tq,e1,e2,e3,e4⟩:=p
 cases e1
 exact⟨c,oc,vs,tq,rfl,kk _ e2,e3,e4⟩
theorem jI{a b c:Value}:∀(l:List Value),z8v l->∀{x y:Int} {t u:Tok},z8v (l++[.int x t,.int y u,c])
 |[],_,_,_,_,_=>trivial
 |[_],h,_,_,_,_=>by simp[z8v] at h
 |[_,_],h,_,_,_,_=>by simp[z8v] at h
 |p::q::r::l,h,x,y,t,u=>by
  cases p with
  |int _ _=>
   cases q with
   |int _ _=>exact jI (a:=a) (b:=b) l h
   |_=>exact h.elim
  |_=>exact h.elim
theorem Wg{pos p:Pos}{c:Value}:∀(l:List Value),z8v l->z7R pos l=none->z7R p (l++[z6v pos.line,z6v pos.col,c])=some c\/z7R p (l++[z6v pos.line,z6v pos.col,c])=z7R p l:=by
 intro l h hn
 fun_induction z8v l with
 |case1=>
  by_cases q:((pos.line:Int) == (p.line:Int)&&(pos.col:Int) == (p.col:Int))=true
  ·left;simp only[z8_,z7R,z6v];rw[if_pos q]
  ·right;simp only[z8_,z7R,z6v];rw[if_neg q]
 |case2 a t b u x rest ih=>
  simp only[zbS,z7R] at hn ⊢
  split at hn
  ·cases hn
  ·split
   ·exact .inr rfl
   ·exact ih h hn
 |case3 l h1 h2=>exact h.elim
theorem QR{t0:Sem Value}{ob:Addr->Value->Value->Obj}{pos:Pos}{i j:Nat}{qn:Str}{c P:Addr}{Q:Value->z5D->Prop}(I:Inv X pins σ H s)(mr:MRel D φ α H μ)(hi:μ[i]?=some (.tab j)){poss:List Pos}(hD:D.tabs j=some (P,poss,qn))(hpp:pos∈poss)
  (hC:z7h X.base c P) (hB:X.base.BuiltinsAt X.mg P) (hob:∀a b d,(ob a b d).isFreed=false/\∀v,(ob a b d).data≠.cell v)
  (miss:∀{ps:Array Value} {Q:Value->z5D->Prop},s.heap.Ns z5V X.mg->z7h s.heap c P->s.heap.get? P=some (z7G ps)->z8v ps.toList->z7R pos ps.toList=none->z5V≠P->s.heap.BuiltinsAt X.mg P->(∀(c':Addr) (ctv doc:Value) (h':Heap) (tk:Tok),Heap.ExtBut P s.heap h'->s.heap.objs.size<=c'->c'<h'.objs.size->h'.CodeRec (.ref c') qn->h'.get? P=some (z7G (ps++#[z6v pos.line,z6v pos.col,.ref c']))->Q (.ref h'.objs.size) {s with heap:=h'.push (ob c' ctv doc),toks:=tk})->z5K (z5N X.prog X.w) X.A t0 Q X.xe s)
  (hit:∀{ps:Array Value} {c':Addr} {Q:Value->z5D->Prop},s.heap.Ns z5V X.mg->z7h s.heap c P->s.heap.get? P=some (z7G ps)->z8v ps.toList->z7R pos ps.toList=some (.ref c')->s.heap.BuiltinsAt X.mg P->(∀(ctv doc:Value) (h':Heap) (tk:Tok),(∀b o,s.heap.get? b=some o->h'.get? b=some o)->s.heap.objs.size<=h'.objs.size->Q (.ref h'.objs.size) {s with heap:=h'.push (ob c' ctv doc),toks:=tk})->z5K (z5N X.prog X.w) X.A t0 Q X.xe s)
  (h:∀q c' ctv doc H' s',Inv X ((q,ob c' ctv doc)::pins) σ H' s'->Stp α H α H'->MRel D φ α H' μ->c'∉α->H' c'=some (.ext (qE c' qn))->(c'∉φ/\XOk X H' q/\∀p∈pins,p.1≠q)->Q (.ref q) s') :
  z5K (z5N X.prog X.w) X.A t0 Q X.xe s:=by
 have hia:∃a,α[i]?=some a:=⟨_,z6D (by rw[mr.len];exact (z5A.mp hi).1)⟩
 obtain⟨a,ha⟩:=hia
 obtain⟨pos',qn',ps,hD',hH,htr,hall⟩:=mr.ob i a _ ha hi
 rw[hD] at hD'
 cases hD'
 have hcase:=hall pos hpp
 have hP:s.heap.get? P=some (z7G ps):=I.hok P _ hH
 have hg:s.heap.Ns z5V X.mg:=I.ok.mod.glob.keeps I.bk
 have hCs:z7h s.heap c P:=hC.keeps I.bk
 have hBs:s.heap.BuiltinsAt X.mg P:=by
  obtain⟨bm,o,b1,b2,b3,b4,b5,b6⟩:=hB
  exact⟨bm,o,b1,b2,b3,b4,I.bk _ _ b5,b6⟩
 have hPa:P∈α:=z5T ha
 have nL:X.env.locals≠P:=λz=>by have:=I.free;rw[z,hH] at this;cases this
 rcases hcase with hmiss|⟨c',hhit,n1,n2,hc'⟩
 ·have hgP:z5V≠P:=λz=>by
   obtain⟨o,es,ep,e,hd,_⟩:=hg
   rw[z,hP] at e;cases e;cases hd
  refine miss hg hCs hP htr hmiss hgP hBs λc' ctv doc h' tk hx hge hlt hrec htb=>?_
  have hc0:H c'=none:=I.hok.fresh hge
  have hcP:c'≠P:=λz=>by rw[z,hH] at hc0;cases hc0
  have lt_of:∀{b o},s.heap.get? b=some o->b≠c':=λ{b o} e z=>absurd (z5S (z5O e) hge) (by rw[z];exact z7b _)
  generalize hH':upd (upd H c' (.ext (qE c' qn))) P (.tbl (ps++#[z6v pos.line,z6v pos.col,.ref c']))=H'
  have HP:H' P=some (.tbl (ps++#[z6v pos.line,z6v pos.col,.ref c'])):=by rw[←hH'];exact zd
  have Hc:H' c'=some (.ext (qE c' qn)):=by rw[←hH',za hcP];exact zd
  have Ho:∀b,b≠P->b≠c'->H' b=H b:=λb h1 h2=>by rw[←hH',za h1,za h2]
  have Hs:∀b o,b≠P->H b=some o->H' b=some o:=λb o h1 e=>by rw[Ho b h1 (zS e hc0)];exact e
  have rec2:(h'.push (ob c' ctv doc)).CodeRec (.ref c') qn:=by
   obtain⟨c2,oc,vs,tq,e1,e2,e3⟩:=hrec
   exact⟨c2,oc,vs,tq,e1,z5C _ e2,e3⟩
  have J:Inv X pins σ H' {s with heap:=h'.push (ob c' ctv doc),toks:=tk}:=by
   refine I.step (g':=s.gens) (d':=s.drawn) (ch:=[]) (λ_ z=>nomatch z) (λb o _ _ _ e n=>?_) (λb o _ _ _ e n=>⟨o.slots,?_⟩) (λb o _ e n=>?_) (λb o _ e=>?_) (λb xs e=>?_) (λb o u e=>?_) (λb qs e=>?_) (λm hm=>?_) (λb u e=>?_) I.bare
   ·exact z5C _ (hx b o (λz=>by rw[z,hH] at n;cases n) e)
   ·exact z5C _ (hx b o (λz=>by rw[z,hH] at n;cases n) e)
   ·rw[Ho b (λz=>by rw[z,hH] at n;cases n) (lt_of e)];exact n
   ·by_cases z:b=P
    ·rw[z];exact⟨_,z5C _ htb⟩
    ·exact⟨o,z5C _ (hx b o z e)⟩
   ·exact Hs b _ (λz=>by rw[z,hH] at e;cases e) e
   ·exact Hs b _ (λz=>by rw[z,hH] at e;cases e) e
   ·by_cases z:b=P
    ·rw[z,hH] at e;cases e;rw[z];exact⟨_,HP⟩
    ·exact⟨#[],by rw[Hs b _ z e];simp⟩
   ·exact (hm.extBut hx nL).push _
   ·by_cases z:b=P
    ·subst z
     rw[HP] at e;cases e
     exact z5C _ htb
    ·by_cases z2:b=c'
     ·subst z2
      rw[Hc] at e;cases e
      exact Ju rec2
     ·rw[Ho b z z2] at e
      refine (I.hok b u e).stay (λc v hc q=>?_) (λc q=>?_) λc xs q=>?_
      ·refine z5C _ (hx c v (λw=>?_) q)
       rcases hc with hc|hc
       ·exact z (hc▸w)
       ·rw[w,hH] at hc;cases hc
      ·exact Hs c _ (λw=>by rw[w,hH] at q;cases q) q
      ·exact Hs c _ (λw=>by rw[w,hH] at q;cases q) q
  have fresh:s.heap.objs.size<=h'.objs.size:=z97 (z9s hge hlt)
  have hqP:h'.objs.size≠P:=λz=>absurd (z5O htb) (by rw[←z];exact z7b _)
  have hqc:h'.objs.size≠c':=z7L hlt
  have nq:H' h'.objs.size=none:=by rw[Ho _ hqP hqc];exact I.hok.fresh fresh
  have st:Stp α H α H':=⟨⟨[],by simp,by simp⟩,λb o n e=>Hs b o (λz=>n (z▸hPa)) e,λb e=>by
   by_cases z:b=P
   ·rw[z,HP] at e;cases e
   ·by_cases z2:b=c'
    ·rw[z2];exact hc0
    ·rw[Ho b z z2] at e;exact e⟩
  refine h h'.objs.size c' ctv doc H' _ (QO J (z5Y _ (hob _ _ _).1) nq (z7L (z5S I.lt fresh)) (I.nofs fresh) (hob _ _ _).2) st ?_ (zq mr hc0) Hc ⟨zp mr hc0,Yo (I.fpOk fresh nq)⟩
  refine⟨mr.len,mr.nd,mr.dis,λb hb=>?_,λi' a' o' e1 e2=>?_⟩
  ·obtain⟨u,hu,n⟩:=mr.phi b hb
   exact⟨u,st.keep b u (λz=>mr.dis b z hb) hu,n⟩
  ·by_cases z:i'=i
   ·subst z
    rw[ha] at e1;cases e1
    rw[hi] at e2;cases e2
    refine⟨poss,qn,_,hD,HP,?_,λp2 hp2=>?_⟩
    ·rw[zaQ]
     exact jI (a:=.none) (b:=.none) _ htr
    ·rw[zaQ]
     rcases Wg (p:=p2) (c:=.ref c') _ htr hmiss with w|w
     ·exact .inr ⟨c',w,zp mr hc0,zq mr hc0,Hc⟩
     ·rw[show (#[z6v pos.line,z6v pos.col,.ref c']:Array Value).toList=[z6v pos.line,z6v pos.col,.ref c'] from rfl,w]
      refine (hall p2 hp2).imp id λ⟨c2,k1,k2,k3,k4⟩=>⟨c2,k1,k2,k3,?_⟩
      exact Hs c2 _ (λz=>k3 (z▸hPa)) k4
   ·have ne:a'≠P:=λw=>by
     obtain⟨q1,q2⟩:=z5A.mp e1
     obtain⟨q3,q4⟩:=z5A.mp ha
     exact z ((z8M mr.nd).mp (q2.trans (w.trans q4.symm)))
    have d:=mr.ob i' a' o' e1 e2
    obtain⟨u,hu,_⟩:=d.some
    exact DenO.step st ((Hs a' u ne hu).trans hu.symm) d
 ·refine hit hg hCs hP htr hhit hBs λctv doc h' tk hk hsz=>?_
  have J:Inv X pins σ H {s with heap:=h'.push (ob c' ctv doc),toks:=tk}:=I.kept λb u e=>z5C _ (hk b u e)
  exact h h'.objs.size c' ctv doc H _ (QO J (z5Y _ (hob _ _ _).1) (I.hok.fresh hsz) (z7L (z5S I.lt hsz)) (I.nofs hsz) (hob _ _ _).2) (Stp.refl _ _) mr n2 hc' ⟨n1,Yo (I.fpOk hsz (I.hok.fresh hsz))⟩
theorem Kt{params:Arguments}{body:Expr}{scope:Scope}{pos:Pos}{line i j:Nat}{qn:Str}{c P:Addr}{Q:Value->z5D->Prop}(I:Inv X pins σ H s)(mr:MRel D φ α H μ)(hi:μ[i]?=some (.tab j)){poss:List Pos}(hD:D.tabs j=some (P,poss,qn))(hpp:pos∈poss)
  (hcode:X.env.code=.ref c) (hC:z7h X.base c P) (hB:X.base.BuiltinsAt X.mg P) {cl:List (Str×Addr)} (hcl:z9r scope X.env=pure cl)
  (h:∀q c' ctv H' s',Inv X ((q,zan "<lambda>" qn params body scope cl ((X.mg "__name__").getD .none) c' ctv)::pins) σ H' s'->Stp α H α H'->MRel D φ α H' μ->c'∉α->H' c'=some (.ext (qE c' qn))->(c'∉φ/\XOk X H' q/\∀p∈pins,p.1≠q)->Q (.ref q) s') :
  z5K (z5N X.prog X.w) X.A (zag "<lambda>" qn params (.expr body) scope X.env [] [] [] pos line) Q X.xe s:=by
 exact QR (ob:=λc' ctv _=>zan "<lambda>" qn params body scope cl ((X.mg "__name__").getD .none) c' ctv) I mr hi hD hpp hC hB (λ_ _ _=>⟨rfl,λv z=>by cases z⟩) (λhg hCs hP htr hm hgP hBs k=>PySem.W.kla_makeFunction (mg:=X.mg) hcl I.ok.glob hg hcode hCs hP htr hm hgP hBs λc' ctv h' tk=>k c' ctv .none h' tk) (λhg hCs hP htr hh hBs k=>PySem.W.kla_makeFunctionHit (mg:=X.mg) hcl I.ok.glob hg hcode hCs hP htr hh hBs λctv h' tk=>k ctv .none h' tk) λq c' ctv _ H' s'=>h q c' ctv H' s'
theorem XJ{name:Str}{params:Arguments}{body:List Stmt}{scope:Scope}{pos:Pos}{line i j:Nat}{qn:Str}{c P:Addr}{Q:Value->z5D->Prop}(I:Inv X pins σ H s)(mr:MRel D φ α H μ)(hi:μ[i]?=some (.tab j)){poss:List Pos}(hD:D.tabs j=some (P,poss,qn))(hpp:pos∈poss)
  (hcode:X.env.code=.ref c) (hC:z7h X.base c P) (hB:X.base.BuiltinsAt X.mg P) {cl:List (Str×Addr)} (hcl:z9r scope X.env=pure cl)
  (h:∀q c' ctv doc H' s',Inv X ((q,zcD name qn params body scope cl doc ((X.mg "__name__").getD .none) c' ctv)::pins) σ H' s'->Stp α H α H'->MRel D φ α H' μ->c'∉α->H' c'=some (.ext (qE c' qn))->(c'∉φ/\XOk X H' q/\∀p∈pins,p.1≠q)->Q (.ref q) s') :
  z5K (z5N X.prog X.w) X.A (zag name qn params (.stmts body) scope X.env [] [] [] pos line) Q X.xe s:=
 QR (ob:=λc' ctv doc=>zcD name qn params body scope cl doc ((X.mg "__name__").getD .none) c' ctv) I mr hi hD hpp hC hB (λ_ _ _=>⟨rfl,λv z=>by cases z⟩) (λhg hCs hP htr hm hgP hBs k=>PySem.W.makeFunction_K (mg:=X.mg) hcl I.ok.glob hg hcode hCs hP htr hm hgP hBs k) (λhg hCs hP htr hh hBs k=>PySem.W.makeFunction_hit (mg:=X.mg) hcl I.ok.glob hg hcode hCs hP htr hh hBs k) h
end
noncomputable def z5s (g:De)(μ:Mem):List T->List Int->Prop
 |[],[]=>True
 |t::ts,z::zs=>g [some t] μ (λt' μ'=>t'=.int z/\μ'=μ) (λ_ _ _=>False)/\z5s g μ ts zs
 |_,_=>False
section
variable {X:Cx}{D:DP}{W:XW}{Γ:Cn}{k n:Nat}{pins:List (Addr×Obj)}{s:Shared}{σ:St}{H:Hp}{φ α:List Addr}{τ:Sl}{μ:Mem}
theorem bind1{fd:FuncData}{y:Str}{pa:Pos}{u:Value}(hp:fd.params=⟨[],[⟨y,none,pa⟩],none,[],[],none,[]⟩)(hd:fd.defaults=.none):z9j fd ⟨[u],[]⟩=pure [(y,u)]:=by
 have e:z6O y [(y,u)]=some u:=by simp[z6O]
 unfold z9j
 rw[hp,hd]
 simp[e,za1]
 rfl
end
noncomputable def z4L:Arg->Option Str
 |⟨y,none,_⟩=>some y
 |_=>none
noncomputable def z1O:Arguments->Option Str
 |⟨[],[p],none,[],[],none,[]⟩=>z4L p
 |_=>none
theorem YS{a:Arguments}{y:Str}(h:z1O a=some y):∃p,a=⟨[],[⟨y,none,p⟩],none,[],[],none,[]⟩:=by
 unfold z1O at h
 split at h
 ·unfold z4L at h
  split at h
  ·cases h;exact⟨_,rfl⟩
  ·cases h
 ·cases h
end NH
namespace NH.P
open PySem L2 NH
@[reducible] noncomputable def jy:List Ds:=[(sIf (w_ (tE (zf qz [(eV 0),(eV 1)]))) [(zG 13 [(eC (.str "no moment, house or count of the shape"))])] [])]
noncomputable def qJ:Fn:=fnW 2 0 jy
@[reducible] noncomputable def uF:List Ds:=[(zJ (zf qJ [(eV 1),(zm (eV 0) 0)])),(zJ (zf qJ [(eV 2),(zm (eV 0) 1)])),(zJ (zf qJ [(eV 3),(zm (eV 0) 2)])),(zA (zo .Add (zo .Mult (zo .Add (zo .Mult (eV 1) (zm (eV 0) 1)) (eV 2)) (zm (eV 0) 2)) (eV 3)))]
noncomputable def xw:Fn:=fnW 4 0 uF
@[reducible] noncomputable def yr:List Ds:=[(sIf (tOr (w_ (tE (Zb [4] (eV 1)))) (tE (zt .NotEq (eB1 ja (eV 1)) (eC (.int 3))))) [(zA (eC (.bl false)))] []),(sIf (w_ (xh (tE (zf qz [(eIx (eV 1) (eC (.int 0))),(zm (eV 0) 1)])) (xh (tE (zf qQ [(eIx (eV 1) (eC (.int 1)))])) (tE (zf qQ [(eIx (eV 1) (eC (.int 2)))]))))) [(zA (eC (.bl false)))] []),(zA (eCh (eC (.int 0)) [(.LtE,(eIx (eV 1) (eC (.int 1)))),(.Lt,(eIx (eV 1) (eC (.int 2)))),(.LtE,(zm (eV 0) 0))]))]
noncomputable def vG:Fn:=fnW 2 0 yr
@[reducible] noncomputable def j5:List Ds:=[(sIf (w_ (tE (zf vG [(eV 0),(eV 1)]))) [(zG 18 [(eC (.str "no lease of the shape"))])] [])]
noncomputable def wI:Fn:=fnW 2 0 j5
end NH.P
namespace NH
open PySem PySem.Spec PyProof.Rows L2
section
variable {prog:Program}{w:World}{A:Around}{E:Value->Shared->Prop}{h:Heap}{g:Array GenState}{d:Drawn}{t:Nat}{os:OsState}
variable {nm q:Str}{C N:Addr}{bs bm bmB:List Value}{hdct:Bool}{sn:List Str}{sub:List Value}{ab:Bool}{col:Option Bool}{dd:Option Addr}{k0 k1 k2 k3 k5:Option Value}{B newId initId:String}
theorem JB(F:zby B newId initId bmB)(T0:zaM h bmB bm){mN:Str->Option Value}{us:List Value}{fI:Addr}{oI:Obj}{Q:Fin->z5D->Prop}
  (gC:h.get? C=some (z7q nm q C N bs bm hdct sn sub ab col dd k0 k1 k2 k3 k5 newId)) (gN:h.Ns N mN) (gI:mN "__init__"=some (.ref fI)) (gf:h.get? fI=some oI) (gc:oI.cls=.type "function")
  (go:∀h1 x,z8C h h1 x (.ref C) us->z5K (z5N prog w) A (call (.ref fI) (.ref x::us)) (λr s1=>r=.none/\Q (.done (.ret (.ref x))) s1) E ⟨h1,g,d,t,os⟩) (hus:us.length<=sizeLine) :
  z5K (z5N prog w) A (z99.«type.__call__» ⟨.ref C::us,[]⟩) Q E ⟨h,g,d,t,os⟩:=by
 repeat (first|(with_reducible refine z7X gC ?_)|(with_reducible refine wpAny_madeBy_exc gC ?_)|wp_step)
 refine z9z (z8q _ F.quiet) (wpAny_check_new_subT F T0 gC (codeAny_exc_new_subT F T0 gC ?_ hus))
 show z5K _ _ _ _ _ _
 let tu:Obj:={cls:=.type "tuple",data:=.seq us.toArray}
 let xo:Obj:={cls:=.ref C,data:=.fields #[.ref h.objs.size,.none,.none,.none,.bool false,.none]}
 have up:∀b o,h.get? b=some o->((h.push tu).push xo).get? b=some o:=λb o e=>z5C _ (z5C _ e)
 have gC1:=up _ _ gC
 have gf1:=up _ _ gf
 have gN1:((h.push tu).push xo).Ns N mN:=by
  obtain⟨o,es,ep,e,r⟩:=gN
  exact⟨o,es,ep,up _ _ e,r⟩
 have gx:((h.push tu).push xo).get? (h.objs.size+1)=some xo:=by
  have:=z5Y (h.push tu) (o:=xo) rfl
  rw[z6K] at this
  exact this
 have own:(z61 C::bm).contains (.ref C)=true:=by simp
 have T1:zaM ((h.push tu).push xo) bmB bm:=T0.keeps up
 unfold zcy
 repeat (first|(with_reducible refine z7X gx ?_)|(with_reducible refine zaR gC1 ?_;rw[own])|wp_step)
 show z5K _ _ (zb6 (.ref C) _) _ _ _
 refine wpAny_typeLookup_tail gC1 gN1 T1 F.mroIs F.init.lookup ?_
 rw[gI]
 refine z60 (z5z ?_)
 unfold bindSpecial
 refine z5z (z8B (T:="function") ⟨_,gf1,gc⟩ ?_)
 rw[if_pos (by decide)]
 have mk:z8C h ((h.push tu).push xo) (h.objs.size+1) (.ref C) us:=⟨up,z6d (z7r _),h.objs.size,gx,z6d (z5H _),z5C _ (z8E rfl rfl)⟩
 refine z5E (z5z (z6j (go _ _ mk) (λr s1 hr=>?_) λ_ _ z=>z))
 obtain⟨rfl,hr⟩:=hr
 wp_walk
 exact hr
theorem J8(F:zby B newId initId bmB)(T0:zaM h bmB bm){mN:Str->Option Value}{us:List Value}{fI:Addr}{oI:Obj}{Q:Value->z5D->Prop}
  (gC:h.get? C=some (z7q nm q C N bs bm hdct sn sub ab col dd k0 k1 k2 k3 k5 newId)) (gN:h.Ns N mN) (gI:mN "__init__"=some (.ref fI)) (gf:h.get? fI=some oI) (gc:oI.cls=.type "function")
  (go:∀h1 x,z8C h h1 x (.ref C) us->z5K (z5N prog w) (A.under (.builtin "type.__call__" ⟨.ref C::us,[]⟩)) (call (.ref fI) (.ref x::us)) (λr s1=>r=.none/\Q (.ref x) s1) E ⟨h1,g,d,t,os⟩) (hus:us.length<=sizeLine) :
  z5K (z5N prog w) A (call (.ref C) us) Q E ⟨h,g,d,t,os⟩:=by
 have i1:=tc_lookup
 have i2:=tc_bind (.ref C)
 have tp:z9P ⟨h,g,d,t,os⟩ (.ref C) "type":=⟨_,gC,rfl⟩
 refine z73 (zc7 ?_)
 show z5K _ _ (callAny (.ref C) _) _ _ _
 repeat (any_goals (first|assumption|(with_reducible refine z7X gC ?_)|wp_step))
 refine⟨rfl,codeAny_call_builtin_at (z8q _ (by decide +kernel)) entry_typeCall (wpAny_check_type_call_sub gC ?_)⟩
 exact JB F T0 gC gN gI gf gc (λh1 x mk=>go h1 x mk) hus
theorem y7 {M:z91} {env:Env} {s:z5D} {x:Sem Value} {Q:Flow->z5D->Prop} (hbase:bm.contains (.type "BaseException")=true) (hh:A.handled=none)
  (go:z5K M A x (λv s1=>∃e t dx,v=.ref e/\s1.heap.get? C=some (z7q nm q C N bs bm hdct sn sub ab col dd k0 k1 k2 k3 k5 newId)/\
   s1.heap.get? e=some {cls:=.ref C,dict:=dx,data:=.fields #[.ref t,.none,.none,.none,.bool false,.none]}/\E (.ref e) s1) E s) :
  z5K M A (raiseStmt env (some x) none) Q E s:=by
 have isB:(z61 C::bm).contains (.type "BaseException")=true:=by rw[z9u,hbase];simp
 unfold raiseStmt
 refine z5z (z6j go (λv s1 k=>?_) λ_ _ z=>z)
 obtain⟨e,t,dx,rfl,gC,ge,gE⟩:=k
 obtain⟨h1,g1,d1,t1,o1⟩:=s1
 repeat (first|(with_reducible refine z7X ge ?_)|(with_reducible refine z7X gC ?_)|(with_reducible refine zaR gC ?_;rw[isB])|wp_step)
 exact wpAny_raiseNew_none hh gE
end
section
variable {prog:Program}{w:World}{A:Around}{E:Value->Shared->Prop}{s:Shared}
variable {nm q:Str}{C N:Addr}{bs bm bmB:List Value}{hdct:Bool}{sn:List Str}{sub:List Value}{ab:Bool}{col:Option Bool}{dd:Option Addr}{k0 k1 k2 k3 k5:Option Value}{B newId initId:String}
theorem Xf(F:zby B newId initId bmB)(T0:zaM s.heap bmB bm){e:Addr}{ob:Obj}{vs:Array Value}{t0:Addr}{rest:List Value}{Q:Value->z5D->Prop}
  (gC:s.heap.get? C=some (z7q nm q C N bs bm hdct sn sub ab col dd k0 k1 k2 k3 k5 newId)) (he:s.heap.get? e=some ob) (hcls:ob.cls=.ref C) (hd:ob.data=.fields vs) (h0:vs[0]?=some (.ref t0))
  (h:Q .none {s with heap:=(s.heap.push {cls:=.type "tuple",data:=.seq rest.toArray}).update e (z7d (·.setIfInBounds 0 (.ref s.heap.objs.size)))}) (hrest:rest.length<=sizeLine) :
  z5K (z5N prog w) A (call (.builtin initId) (.ref e::rest)) Q E s:=by
 obtain⟨hh,g,d,t,os⟩:=s
 refine z73 (z81 F.init.plain F.initEntry (wpAny_check_init_subT F T0 gC he hcls ?_))
 unfold z99.«BaseException.__init__»
 dsimp only
 rw[if_neg (by simp)]
 unfold newTuple zbY
 have hsz:0<vs.size:=(z6M.mp h0).1
 have he₁:=z5C (h:=hh) {cls:=.type "tuple",data:=.seq rest.toArray} he
 refine z5z (z6_ (z5z (z5z (z7c he₁ hd h0 (z5z (z9p he₁ hd hsz ?_))))) (by show rest.toArray.size<=sizeLine;rw[z5W];exact hrest))
 exact z9H (z5E h)
end
noncomputable def vx:List Value->Bool
 |.ref _::r=>vx r
 |l=>l == zX
theorem vD(self:Value):∀{l:List Value},vx l=true->PySem.refuseLoop self "__setattr__" l=pure ()
 |.ref c::r,e=>by rw[refuseLoop_ref];exact vD self e
 |.type n::r,e=>by rw[show za8 n::r=zX from beq_iff_eq.mp e];exact z9Q.passes self
 |[],e=>by cases e
 |v::r,e=>by
  unfold vx at e
  split at e
  ·rename_i h;cases h;rw[refuseLoop_ref];exact vD self e
  ·rw[beq_iff_eq.mp e];exact z9Q.passes self
theorem jw:∀{l:List Value},vx l=true->l.contains (.type "object")=true
 |.ref c::r,e=>by rw[z9u,jw (l:=r) e,zbw]
 |[],e=>by cases e
 |v::r,e=>by
  unfold vx at e
  split at e
  ·rename_i h;cases h;rw[z9u,jw (l:=_) e,zbw]
  ·rw[beq_iff_eq.mp e];decide
section
variable {prog:Program}{w:World}{A:Around}{E:Value->Shared->Prop}{s:Shared}{K:PySem.W.Frag}{C x:Addr}
theorem YE{ox:Obj}{name:Str}{v:Value}{Q:Unit->z5D->Prop}(X:K.In s.heap)(hx:s.heap.get? x=some ox)(hc:ox.cls=.ref C)(hnc:PySem.W.notCls ox=true)(hd:ox.dict=none)
  (hs:z64 K (.ref C) "__setattr__"=some (some (.builtin "object.__setattr__"))) (hp:((z8S K C).any λcd=>vx cd.mro)=true) (ht:z64 K (.ref C) name=some none) (hh:z7m K C=true)
  (h:∀h' tk,h'.get? x=some {ox with dict:=some s.heap.objs.size}->h'.Ns1 s.heap.objs.size (λy=>if y=name then some v else none)->(∀b o,b≠x->s.heap.get? b=some o->h'.get? b=some o)->Q () {s with heap:=h',toks:=tk}) :
  z5K (z5N prog w) A (setAttr (.ref x) name v) Q E s:=by
 have J:zcl s.heap x ox C none:=⟨hx,hc,hnc,by rw[hd];trivial⟩
 refine zbf X J hs ?_
 have SF:=PySem.F.store_object
 obtain⟨cd,hcd,ho⟩:=z9S hp
 obtain⟨cd',hcd',hdict⟩:=z9S hh
 rw[hcd] at hcd'
 cases hcd'
 have ne:cd.mro.isEmpty=false:=by cases q:cd.mro with|nil=>rw[q] at ho;cases ho|cons _ _=>rfl
 have sub:z9N (z5N prog w) s.heap (zcy (.ref x) (.type "object")) true:=J.type.andThen (PySem.W.looks_mroIn X (by unfold z6I;rw[hcd,z8P,if_neg (by rw[ne];decide),jw ho]))
 refine z81 SF.slot.plain SF.entry (@PySem.W.check_slot (z5N prog w) _ _ {s with toks:=s.toks+1} "object.__setattr__" "object" "__setattr__" (.ref x) [.str name s.toks,v] [] _ SF.kind SF.split sub (SF.args (.ref x) (.str name s.toks) v) ?_)
 have hm:z9N (z5N prog w) s.heap (mroOf (.ref C)) cd.mro:=(z93 X hcd).andThen .now
 rw[PySem.W.osa_eq,refuse_eq]
 refine z5z (z5z (z7e (s:={s with toks:=s.toks+1}) J.type (z5z (z7e (s:={s with toks:=s.toks+1}) hm ?_))))
 rw[vD _ ho]
 refine z5E (z5z (z7e (s:={s with toks:=s.toks+1}) J.type (z5z (z7e (s:={s with toks:=s.toks+1}) (zaC X ht) (z5z (z5E ?_))))))
 obtain⟨hh0,g,dr,t,os⟩:=s
 obtain⟨oc,odi,oda,osl⟩:=ox
 dsimp only at hc hd hx
 subst hc hd
 have hnc':∀c,oda≠.cls c:=λc z=>by subst z;cases hnc
 refine z5z (z5E (z5z (z5z (zaB hx (z5z (z7e (s:=⟨hh0,g,dr,t+1,os⟩) (z93 X hcd) ?_))))))
 rw[hdict]
 have hx₁:(hh0.push {cls:=.type "dict",data:=.dict #[]}).get? x=some ⟨.ref C,none,oda,osl⟩:=z5C _ hx
 have hxs:x≠hh0.objs.size:=z5Z (z5O hx)
 have go:z5K (z5N prog w) A.in1 (do
   let d ←alloc {cls:=.type "dict",data:=.dict #[]}
   update x λo=>{o with dict:=some d}
   dictMade (.ref C) x d) (λa s'=>z5K (z5N prog w) A.in1 (match a with
    |some d=>z7H d (.str name t) name v
    |none=>zc8 (.ref x) (.ref C) name false) (λfin s'=>match fin with|.done f=>(match (Except.ok f:zcm) with|.ok (.ret _)=>Q () s'|.ok _=>False|.error e=>E e s')|.again c'=>c'.quiet=true/\z7n (z5N prog w) A c' (λr s'=>match r with|.ok (.ret _)=>Q () s'|.ok _=>False|.error e=>E e s') s') (λe s'=>E e s') s') (λe s'=>E e s') ⟨hh0,g,dr,t+1,os⟩:=by
  refine z5z (wpAny_alloc' ?_)
  refine z5z (wpAny_update' hx₁ ?_)
  refine z5E ?_
  have hgd:((hh0.push {cls:=.type "dict",data:=.dict #[]}).update x λo=>{cls:=o.cls,dict:=some hh0.objs.size,data:=o.data,slots:=o.slots}).get? hh0.objs.size
    = some {cls:=.type "dict",data:=.dict #[]}:=
   (zaS _ _ _ _ hxs.symm).trans (z8E rfl rfl)
  have hnd:((hh0.push {cls:=.type "dict",data:=.dict #[]}).update x λo=>{cls:=o.cls,dict:=some hh0.objs.size,data:=o.data,slots:=o.slots}).Ns hh0.objs.size (λ_=>none):=
   ⟨_,#[],_,hgd,rfl,λe he=>absurd he (by simp),λ_=>rfl⟩
  show z5K _ _ (z7H hh0.objs.size (.str name t) name v) _ _ _
  unfold z7H zbT
  refine z5z (z5E (z5z (wpAny_nsSet1 (zbg hnd) λh' hn' hs=>?_)))
  obtain⟨oD,esD,epD,hoD,hdD,hcD⟩:=hn'.count (zdH name v Within.nil)
  refine z5z (zbN hoD (by rw[hdD];exact zbO (z62 hcD (by rw[z68,z72,z6t];omega))) ?_)
  refine z5E (h h' _ ?_ ?_ ?_)
  ·refine (hs.2 x hxs).trans (z7i _ hx₁ ?_)
   have hfr:=(Heap.get?_some_iff.mp hx).2
   cases oda<;>first|rfl|exact hfr
  ·obtain⟨o',es,ep,e1,e2,e3,eu,e4⟩:=hn'
   exact⟨o',es,ep,e1,e2,e3,eu,λy=>by rw[e4 y]⟩
  ·intro b o hbx hb
   exact (hs.2 b (z5Z (z5O hb))).trans ((zaS _ _ _ _ hbx).trans (z5C _ hb))
 cases oda<;>first|exact absurd rfl (hnc' _)|exact go
end
theorem ke{K:z5G}{h:Heap}{N:Addr}{x:Str}{v:Value}(X:K.In h)(e:zcw K N=true)(q:z8D K N x=some (some v)):h.nsMap N x=some v:=by
 obtain⟨o,es,ep,ho,hd,_,hf⟩:=(Heap.Ns.of_isNs (z9t X e):h.Ns N (h.nsMap N))
 unfold z8D at q
 split at q
 ·rename_i c d es' n' sl q'
  have:=X _ _ q'
  rw[ho] at this
  cases this
  cases hd
  split at q
  ·rename_i he
   cases q
   rw[←hf]
   unfold nsFind findBy
   rw[←zb1,he]
   rfl
  ·split at q<;>cases q
 ·cases q
theorem XIn.mro{K:z5G}{C HE fI:Addr}{fl:Str}(x:XIn K C HE fI fl):((z8S K C).any λcd=>vx cd.mro)=true:=by
 obtain⟨N,nm,q,bs,hd,sn,sub,ab,col,dd,k0,k1,k2,k3,k5,h,_⟩:=x.cls
 unfold z8S
 rw[h]
 show vx (.ref C::.ref HE::zX)=true
 show vx zX=true
 decide
theorem XIn.at_{K:z5G}{C HE fI:Addr}{fl:Str}{h:Heap}(x:XIn K C HE fI fl)(X:K.In h):∃N nm q bs hd sn sub ab col dd k0 k1 k2 k3 k5,h.get? C=some (z7q nm q C N bs (.ref HE::zX) hd sn sub ab col dd k0 k1 k2 k3 k5 "ValueError.__new__")/\h.Ns N (h.nsMap N)/\h.nsMap N "__init__"=some (.ref fI)/\zaM h zX (.ref HE::zX):=by
 obtain⟨N,nm,q,bs,hd,sn,sub,ab,col,dd,k0,k1,k2,k3,k5,h1,h2,h3⟩:=x.cls
 obtain⟨tl,N',nm',q',bs',hd',sn',sub',ab',col',dd',k0',k1',k2',k3',k5',mN,g1,g2,g3,g4⟩:=Qc X x.he
 exact⟨N,nm,q,bs,hd,sn,sub,ab,col,dd,k0,k1,k2,k3,k5,X _ _ h1,.of_isNs (z9t X h2),ke X h2 h3,.own g1 g2 g3 .base⟩
section
variable {X:Cx}{pins:List (Addr×Obj)}{s:Shared}{σ:St}{H:Hp}{C HE fI:Addr}{fl:Str}
theorem UC {a b par:Str} {ka kb:Nat} {p1 p2 p3 p4 p5:Pos} (hN:X.N[1]?=some par) (hv:Vis X.env.scope par) (hd:(par == ("__debug__":Str))=false) (hcd:(par == ("__classdict__":Str))=false) (ha:a.length<=1000) (hb:b.length<=1000) :
  PE X (.JoinedStr [.Constant (.str a) ka p1,.FormattedValue (.Name par p2) (-1) none p3,.Constant (.str b) kb p4] p5) (λσ H Q=>∃i:Int,σ[1]?=some (some (.int i))/\i.natAbs.log2<1920/\∀z,Q (.str z) H):=by
 rintro pins s σ H Q I ⟨i,hi,hlog,q⟩
 have e:=zbb (k:=1920) (by decide) hlog
 have e2:(z6W (toString i)).length<=1921:=by rw[zav];exact e
 refine zc9 ?_
 refine thn (Zh (x:=a) pins s σ H (λv H1=>v=.str a/\H1=H) I ⟨rfl,rfl⟩) ?_
 rintro u s1 ⟨v,H1,I1,r,rfl,rfl⟩
 obtain⟨t1,rfl⟩:=r
 have l0:(z9e++a).length<=1000:=by rw[z8T];show 0+a.length<=1000;omega
 refine⟨_,_,rfl,by rw[z6t];omega,?_⟩
 refine z9v (thn (kr (i:=1) hN hv hd hcd pins s1 σ H1 (λv H2=>v=.int i/\H2=H1) I1 ⟨_,hi,rfl,rfl⟩) ?_)
 rintro u s2 ⟨v,H2,I2,r,rfl,rfl⟩
 obtain⟨t2,rfl⟩:=r
 refine zaw hlog ?_
 have l1:(z9e++a++z6W (toString i)).length<=3000:=by rw[z8T];omega
 refine⟨_,_,rfl,by rw[z6t];omega,?_⟩
 have I3:Inv X pins σ H2 {s2 with toks:=s2.toks+1+1}:=I2.kept (h':=s2.heap) λ_ _ q=>q
 refine thn (Zh (x:=b) pins _ σ H2 (λv H1=>v=.str b/\H1=H2) I3 ⟨rfl,rfl⟩) ?_
 rintro u s4 ⟨v,H4,I4,r,rfl,rfl⟩
 obtain⟨t4,rfl⟩:=r
 have l2:(z9e++a++z6W (toString i)++b).length<=5000:=by rw[z8T];omega
 refine⟨_,_,rfl,by rw[z6t];omega,by rw[z6t];omega,?_⟩
 exact⟨.str _,H4,I4.kept (h':=s4.heap) λ_ _ q=>q,⟨_,rfl⟩,q _⟩
theorem Y9 {a par:Str} {ka:Nat} {p1 p2 p3 p5:Pos} (hN:X.N[1]?=some par) (hv:Vis X.env.scope par) (hd:(par == ("__debug__":Str))=false) (hcd:(par == ("__classdict__":Str))=false) (ha:a.length<=1000) :
  PE X (.JoinedStr [.Constant (.str a) ka p1,.FormattedValue (.Name par p2) (-1) none p3] p5) (λσ H Q=>∃i:Int,σ[1]?=some (some (.int i))/\i.natAbs.log2<1920/\∀z,Q (.str z) H):=by
 rintro pins s σ H Q I ⟨i,hi,hlog,q⟩
 have e:=zbb (k:=1920) (by decide) hlog
 have e2:(z6W (toString i)).length<=1921:=by rw[zav];exact e
 refine zc9 ?_
 refine thn (Zh (x:=a) pins s σ H (λv H1=>v=.str a/\H1=H) I ⟨rfl,rfl⟩) ?_
 rintro u s1 ⟨v,H1,I1,r,rfl,rfl⟩
 obtain⟨t1,rfl⟩:=r
 have l0:(z9e++a).length<=1000:=by rw[z8T];show 0+a.length<=1000;omega
 refine⟨_,_,rfl,by rw[z6t];omega,?_⟩
 refine z9v (thn (kr (i:=1) hN hv hd hcd pins s1 σ H1 (λv H2=>v=.int i/\H2=H1) I1 ⟨_,hi,rfl,rfl⟩) ?_)
 rintro u s2 ⟨v,H2,I2,r,rfl,rfl⟩
 obtain⟨t2,rfl⟩:=r
 refine zaw hlog ?_
 have l1:(z9e++a++z6W (toString i)).length<=3000:=by rw[z8T];omega
 refine⟨_,_,rfl,by rw[z6t];omega,by rw[z6t];omega,?_⟩
 exact⟨.str _,H2,I2.kept (h':=s2.heap) λ_ _ q=>q,⟨_,rfl⟩,q _⟩
noncomputable def Wh(par:Str)(parts:List Expr):Prop:=
 (∃(a b:Str) (ka kb:Nat) (p1 p2 p3 p4:Pos),parts=[.Constant (.str a) ka p1,.FormattedValue (.Name par p2) (-1) none p3,.Constant (.str b) kb p4]/\a.length<=1000/\b.length<=1000)\/
 ∃(a:Str) (ka:Nat) (p1 p2 p3:Pos),parts=[.Constant (.str a) ka p1,.FormattedValue (.Name par p2) (-1) none p3]/\a.length<=1000
theorem Xl {par:Str} {parts:List Expr} {p5:Pos} (hN:X.N[1]?=some par) (hv:Vis X.env.scope par) (hd:(par == ("__debug__":Str))=false) (hcd:(par == ("__classdict__":Str))=false) (h:Wh par parts) :
  PE X (.JoinedStr parts p5) (λσ H Q=>∃i:Int,σ[1]?=some (some (.int i))/\i.natAbs.log2<1920/\∀z,Q (.str z) H):=by
 rcases h with⟨a,b,ka,kb,p1,p2,p3,p4,rfl,h1,h2⟩|⟨a,ka,p1,p2,p3,rfl,h1⟩
 ·exact UC hN hv hd hcd h1 h2
 ·exact Y9 hN hv hd hcd h1
theorem Vl {par slf B:Str} {parts:List Expr} {p5 q0 q1 q2 q4:Pos} (xi:XIn X.K C HE fI fl) (hN0:X.N[0]?=some slf) (hv0:Vis X.env.scope slf) (hd0:(slf == ("__debug__":Str))=false) (hcd0:(slf == ("__classdict__":Str))=false)
  (hN:X.N[1]?=some par) (hv:Vis X.env.scope par) (hd:(par == ("__debug__":Str))=false) (hcd:(par == ("__classdict__":Str))=false) (hfp:Wh par parts)
  (hB:Gl X B) (hm:X.mg B=some (.ref HE)) (hBd:(B == ("__debug__":Str))=false) (hga:z7p X.K (.ref HE) "__getattribute__"=some (some (.builtin "type.__getattribute__"))) (hr:zca X.K HE (.type "type")=true)
  (hf:zcb X.K (.ref HE) (.type "type") "__init__"=some (.val (.builtin "ValueError.__init__"))) (hline:(q1.endLine == q4.line)=true) :
  PE X (.Call (.Attribute (.Name B q0) "__init__" q1) [.Name slf q2,.JoinedStr parts p5] [] q4) (λσ H Q=>∃(x:Addr) (i:Int),σ[0]?=some (some (.ref x))/\σ[1]?=some (some (.int i))/\i.natAbs.log2<1920/\H x=some (.ext (xa x C))/\Q .non (upd H x (.ext (xa x C)))):=by
 rintro pins s σ H Q I ⟨x,i,h0,h1,hlog,hx,q⟩
 rw[z9O]
 refine z5z (wb I hB hm ?_ hBd)
 refine z5z (z6p ?_)
 have hpos:z7x true (.Name B q0) X.env q1 q4=pure q4:=by unfold z7x;simp[hline]
 unfold z8Q
 refine z5z (z60 (PySem.W.method_cls I.kIn hga (PySem.W.cls_value I.kIn hr hf rfl ?_)))
 refine z5z (z7K hpos ?_)
 have I1:Inv X pins σ H {s with toks:=s.toks+1}:=I.kept (h':=s.heap) λ_ _ q=>q
 have pa:PA X [.Name slf q2,.JoinedStr parts p5] _:=zN (kr (i:=0) hN0 hv0 hd0 hcd0) (zN (Xl hN hv hd hcd hfp) qx)
 refine PySem.W.callWith_of (P:=λ_=>True) (first:=[]) rfl (λh _=>⟨.machine,.inr (.inl rfl),zdq rfl⟩) (z80 (thn (pa q4 pins _ σ H (λvs H1=>∃z,vs=[.ref x,.str z]/\H1=H) I1 ⟨_,h0,i,h1,hlog,λz=>⟨z,rfl,rfl⟩⟩) ?_))
 rintro us s2 ⟨vs,H2,I2,rv,z,rfl,rfl⟩
 obtain⟨u1,rfl⟩:∃u1,us=[.ref x,u1]:=by
  cases rv with
  |cons r1 r2=>cases r2 with
   |cons r3 r4=>cases r4;cases r1;exact⟨_,rfl⟩
 refine⟨trivial,?_⟩
 obtain⟨N,nm,qn,bs,hdd,sn,sub,ab,col,dd,k0,k1,k2,k3,k5,g1,g2,g3,g4⟩:=xi.at_ I2.kIn
 obtain⟨t,ex⟩:xa x C s2.heap:=(show ObjOk X.prog X.w H2 s2.heap x (.ext (xa x C)) from I2.hok _ _ hx).1
 refine Xf (rest:=[u1]) z6N g4 g1 ex rfl rfl rfl ?_ (by rw[z6t];show 1<=_;omega)
 have lt:x<s2.heap.objs.size:=z5O ex
 have ex1:=z5C (h:=s2.heap) {cls:=.type "tuple",data:=.seq [u1].toArray} ex
 have k1:∀b u,b≠x->s2.heap.get? b=some u->((s2.heap.push {cls:=.type "tuple",data:=.seq [u1].toArray}).update x (z7d (·.setIfInBounds 0 (.ref s2.heap.objs.size)))).get? b=some u:=λb u hb hu=>by
  rw[z6q _ _ (z6k hb)]
  exact z5C _ hu
 have ex2:((s2.heap.push {cls:=.type "tuple",data:=.seq [u1].toArray}).update x (z7d (·.setIfInBounds 0 (.ref s2.heap.objs.size)))).get? x=some {cls:=.ref C,data:=.fields #[.ref s2.heap.objs.size,.none,.none,.none,.bool false,.none]}:=by
  rw[z7i _ ex1 rfl];rfl
 exact⟨.non,_,I2.write (x:=x) (e:=x) (o:=.ext (xa x C)) (t':=s2.toks) (by rw[hx];exact z7f) (.inl rfl) k1 ⟨_,ex2⟩ ⟨⟨_,ex2⟩,⟨_,ex2⟩,λh1 h2 ⟨t,e⟩ k=>⟨t,k _ e⟩⟩,rfl,q⟩
theorem QW {par slf:Str} {q0 q1 q2 q3:Pos} (xi:XIn X.K C HE fI fl) (hN0:X.N[0]?=some slf) (hv0:Vis X.env.scope slf) (hd0:(slf == ("__debug__":Str))=false) (hcd0:(slf == ("__classdict__":Str))=false)
  (hN:X.N[1]?=some par) (hv:Vis X.env.scope par) (hd:(par == ("__debug__":Str))=false) (hcd:(par == ("__classdict__":Str))=false) :
  PS X (.Assign [.Attribute (.Name slf q0) fl q1] (.Name par q2) q3) (λD σ H=>∃(x:Addr) (i:Int),σ[0]?=some (some (.ref x))/\σ[1]?=some (some (.int i))/\H x=some (.ext (xa x C))/\∀dx,H dx=none->dx≠x->D.nx σ (upd (upd H x (.ext (ye x C dx))) dx (.xd [(fl,.int i)]))):=by
 rintro pins s σ H D I ⟨x,i,h0,h1,hx,q⟩
 refine z8H (thn (kr (i:=1) hN hv hd hcd pins s σ H (λv H1=>v=.int i/\H1=H) I ⟨_,h1,rfl,rfl⟩) ?_) rfl
 rintro u s1 ⟨v,H1,I1,r,rfl,rfl⟩
 refine thn (kr (i:=0) hN0 hv0 hd0 hcd0 pins s1 σ H1 (λv H2=>v=.ref x/\H2=H1) I1 ⟨_,h0,rfl,rfl⟩) ?_
 rintro ov s2 ⟨v,H2,I2,r2,rfl,rfl⟩
 cases r2
 obtain⟨t,ex⟩:xa x C s2.heap:=(show ObjOk X.prog X.w H2 s2.heap x (.ext (xa x C)) from I2.hok _ _ hx).1
 refine YE I2.kIn ex rfl rfl rfl xi.sa xi.mro xi.no xi.dct λh' tk e1 e2 e3=>?_
 have lt:x<s2.heap.objs.size:=z5O ex
 have hf:H2 s2.heap.objs.size=none:=I2.hok.fresh (z5H _)
 have ne:s2.heap.objs.size≠x:=z7L lt
 refine⟨σ,_,?_,q _ hf ne⟩
 have ox:XOk X H2 s2.heap.objs.size:=wD I2 (z6d (z5H _))
 have hpn:∀p∈pins,p.1≠s2.heap.objs.size:=λp hp z=>by
  have:=(I2.pin p (z5P _ hp)).1
  rw[z,z6d (z5H _)] at this;cases this
 have I3:Inv X pins σ (upd H2 x (.ext (ye x C s2.heap.objs.size))) {s2 with heap:=h',toks:=tk}:=I2.write (x:=x) (e:=x) (by rw[hx];exact z7f) (.inl rfl) (λb u hb hu=>e3 b u hb hu) ⟨_,e1⟩ ⟨⟨t,e1⟩,⟨_,e1⟩,λh1 h2 ⟨t,e⟩ k=>⟨t,k _ e⟩⟩
 have ox3:XOk X (upd H2 x (.ext (ye x C s2.heap.objs.size))) s2.heap.objs.size:=⟨by rw[za ne];exact ox.free,ox.loc,ox.nfs,ox.new,ox.cel,ox.pin⟩
 refine jc I3 ox3 hpn ⟨_,e2,λf=>?_⟩
 show RelO (z6O f [(fl,V.int i)]) (if f=fl then some u else none)
 by_cases z:f=fl
 ·subst z
  rw[if_pos rfl]
  simp only[z6O,beq_self_eq_true]
  exact r
 ·rw[if_neg z]
  have:(f == fl)=false:=beq_eq_false_iff_ne.mpr z
  simp only[z6O,this]
  exact trivial
end
noncomputable def Xo(body:List Stmt)(B slf par fl:Str):Prop:=∃(q0 q1 q2 p5 q4 q5 r0 r1 r2 r3:Pos) (parts:List Expr),
 body=[.Expr (.Call (.Attribute (.Name B q0) "__init__" q1) [.Name slf q2,.JoinedStr parts p5] [] q4) q5,.Assign [.Attribute (.Name slf r0) fl r1] (.Name par r2) r3]/\(q1.endLine == q4.line)=true/\Wh par parts
noncomputable def scI(slf par B:Str)(sc:Scope):Bool:=(sc.kind == .function)&&!sc.isCoroutine&&!sc.isGenerator&&(slf != par)&&(sc.names.lookup slf == some .local)&&(sc.names.lookup par == some .local)&&sc.names.all (λy=>y.2 != .free)&&(sc.names.lookup B == some .globalImplicit)&&
 (slf != ("__debug__":Str))&&(slf != ("__classdict__":Str))&&(par != ("__debug__":Str))&&(par != ("__classdict__":Str))&&(B != ("__debug__":Str))
section
variable {P:Program}{w:World}{K:PySem.W.Frag}{mg:Str->Option Value}{base:Heap}{C HE fI:Addr}{fl:Str}{k:Nat}
structure HIn(K:PySem.W.Frag)(mg:Str->Option Value)(HE:Addr)(B:Str):Prop where
 mg:mg B=some (.ref HE)
 ga:z7p K (.ref HE) "__getattribute__"=some (some (.builtin "type.__getattribute__"))
 rd:zca K HE (.type "type")=true
 fc:zcb K (.ref HE) (.type "type") "__init__"=some (.val (.builtin "ValueError.__init__"))
theorem z4s{CX:CXT}{name qual slf par B:Str}{params:Arguments}{body:List Stmt}{scope:Scope}{dV kV doc pm cdv ct oc:Value}{an od:Option Addr}{osl:Array (Option Value)}
  (xi:XIn K C HE fI fl) (hi:HIn K mg HE B) (lk:K.lookup fI=some ⟨oc,od,.func (z6g name qual params body scope dV kV doc pm an cdv ct),osl⟩) (hcd:z6L K cdv qual=true) (hf:Xo body B slf par fl) (hs:scI slf par B scope=true) :
  FnOk P w K mg base CX (k+1) fI (z6g name qual params body scope dV kV doc pm an cdv ct) [slf,par] (spI C fl):=by
 simp only[scI,z5B,z6i,beq_iff_eq,z70,bne_iff_ne,ne_eq] at hs
 obtain⟨⟨⟨⟨⟨⟨⟨⟨⟨⟨⟨⟨h1,h2⟩,h3⟩,h4⟩,h5⟩,h6⟩,h7⟩,h8⟩,h9⟩,h10⟩,h11⟩,h12⟩,h13⟩:=hs
 have S:FnScope [slf,par] [slf,par] scope:=⟨h1,h2,h3,by simp[h4],rfl,λx hx=>by
  rcases z65.mp hx with rfl|hx
  ·exact .inl h5
  ·rw[z5J.mp hx];exact .inl h6,h7⟩
 obtain⟨q0,q1,q2,p5,q4,q5,r0,r1,r2,r3,parts,rfl,c5,c6⟩:=hf
 refine z0E (fnb:=λ_=>true) lk hcd S (λvs H Q E q=>by obtain⟨x,i,rfl,_⟩:=q;rfl) λA outer s H vs Q E hr hsp _=>?_
 obtain⟨x,i,rfl,hlog,hx,q⟩:=hsp
 have hd0:(slf == ("__debug__":Str))=false:=beq_eq_false_iff_ne.mpr h9
 have hc0:(slf == ("__classdict__":Str))=false:=beq_eq_false_iff_ne.mpr h10
 have hd1:(par == ("__debug__":Str))=false:=beq_eq_false_iff_ne.mpr h11
 have hc1:(par == ("__classdict__":Str))=false:=beq_eq_false_iff_ne.mpr h12
 have hdB:(B == ("__debug__":Str))=false:=beq_eq_false_iff_ne.mpr h13
 refine⟨_,yj (ZK (Vl (C:=C) (HE:=HE) (fI:=fI) (fl:=fl) xi rfl (.inl h5) hd0 hc0 rfl (.inl h6) hd1 hc1 c6 h8 hi.mg hdB hi.ga hi.rd hi.fc c5)) (VD (QW (C:=C) (HE:=HE) (fI:=fI) xi rfl (.inl h5) hd0 hc0 rfl (.inl h6) hd1 hc1)),?_⟩
 refine⟨x,i,rfl,rfl,hlog,hx,x,i,rfl,rfl,zd,λdx hdx ne=>?_⟩
 rw[Zp]
 exact q dx (by rw[za ne] at hdx;exact hdx) ne
end
section
variable {P:Program}{w:World}{K:PySem.W.Frag}{mg:Str->Option Value}{base:Heap}{C HE fI:Addr}{fl:Str}{k:Nat}
theorem z27{f:Addr}{name qual:Str}{params:Arguments}{body:List Stmt}{scope:Scope}{dV kV doc pm cdv ct oc:Value}{an od:Option Addr}
  {osl:Array (Option Value)} {N ps:List Str} {sp:Sp} (lk:K.lookup f=some ⟨oc,od,.func (z6g name qual params body scope dV kV doc pm an cdv ct),osl⟩) (hcd:z6L K cdv qual=true) (S:FnScope N ps scope)
  (len:∀vs H Q E,sp vs H Q E->vs.length=ps.length)
  (hbody:∀(X:Cx) (H:Hp) (vs:List V) (Q:VK),X.K=K->X.mg=mg->X.N=N->X.env.scope=scope->sp vs H Q (λ_ _ _=>False)->
   ∃t,PSs X body t/\t {nx:=λ_ H'=>Q .non H',rt:=Q} (start N vs) H) :
  ue P w K mg base (k+1) f (z6g name qual params body scope dV kV doc pm an cdv ct) ps sp:=by
 intro A outer s H args us vs Q hr e0 hb r hsp
 have hl:=len _ _ _ _ hsp
 have KX:K.In s.heap:=e0.mod.kin.keeps λb o e=>(e0.bs b o e).1
 have lim:s.heap.NoLimit:=e0.mod.nolimit.keeps λb o e=>(e0.bs b o e).1
 have hpar:∀y∈ps.zip us,scope.names.lookup y.1=some .local\/(scope.names.lookup y.1=some .cell/\((zbP (s.heap.objs.size+1) scope.names []).lookup y.1).isSome=true):=by
  rintro⟨y,v⟩ hy
  rcases S.par y (z8W hy).1 with z|z
  ·exact .inl z
  ·exact .inr ⟨z,z8z _ _ _ (.inl z)⟩
 have hdp:A.depth<recursionLimit:=by have:=hr.dp;omega
 refine z8J hdp (KX _ _ lk) rfl S.co S.gen rfl (zb2 KX hcd) (hb _ _ _ _ (z9m S.kind hpar λenv he s1 x=>?_))
 subst he
 refine⟨lim.keeps x.toInCall.keep,zbm ?_⟩
 have e0':Env0 P w K mg base {A with handled:=none} outer s H:=⟨e0.frames,e0.mod,e0.bs,e0.bsz,e0.funs,e0.frf,e0.hok,e0.bare⟩
 have I0:=uv (fnb:=λ_=>true) (CX:=λ_ _ _ _ _ _=>False) (E:=λ_ _ _=>False) (f:=f) (cd:=cdv) (qual:=qual) (A:={A with handled:=none}) S rfl e0' hl r x
 generalize hX:({WV (λ_ _ _ _ _ _=>False) P w K mg base N qual scope f cdv A outer s H (λ_ _ _=>False) with calm:=false,xe:=λ_ _=>False}:Cx)=X
 have I:Inv X [] (start N vs) H s1:=by
  subst hX
  exact⟨⟨I0.ok.mod,I0.ok.kind,I0.ok.glob,I0.ok.blt,I0.ok.above,I0.ok.inj,I0.ok.has,I0.ok.cab,(λh=>by cases h),z8U e0.frames,I0.ok.stk,I0.ok.exf,I0.ok.bs,I0.ok.bsz,I0.ok.noex,I0.ok.exfs,I0.ok.funs,I0.ok.frf⟩,I0.os,I0.bare,I0.base,I0.loc,I0.cell,I0.free,I0.freeC,I0.pin,I0.hok,I0.len⟩
 obtain⟨t,ht,hq⟩:=hbody X H vs Q (by subst hX;rfl) (by subst hX;rfl) (by subst hX;rfl) (by subst hX;rfl) hsp
 have B:=ht [] s1 (start N vs) H _ I hq
 have XA:X.A=A.deeper (z9l qual scope s.heap.objs.size f cdv):=by rw[←hX];rfl
 have Xp:X.prog=P/\X.w=w/\X.env=z9l qual scope s.heap.objs.size f cdv/\(∀e s,X.xe e s->False)/\X.fs=frs outer/\X.H₀=H/\X.s₀=s/\X.ex=[]:=by
  subst hX;exact⟨rfl,rfl,rfl,λ_ _ z=>z,rfl,rfl,rfl,rfl⟩
 obtain⟨x1,x2,x3,x4,x5,x6,x7,x8⟩:=Xp
 rw[XA,x1,x2,x3] at B
 refine z6j B (λfl s' hs=>?_) λe s' z=>(x4 e s' z).elim
 have fin:∀{σ':St} {H':Hp} {v:V} {u:Value},Inv X [] σ' H' s'->RelV v u->Q v H'->CE outer P w H s Q u s':=λ{σ' H' v u} J rv q=>by
  have b:=J.base
  have o:=J.os
  have h:=J.hok
  rw[x5,x6,x7,x8] at b
  rw[x7] at o
  rw[x1,x2] at h
  exact⟨v,H',o,J.bare,b,h,rv,q⟩
 cases fl with
 |ret u=>obtain⟨v,σ',H',J,rv,q⟩:=hs;exact fin J rv q
 |next=>obtain⟨σ',H',J,q⟩:=hs;exact fin (v:=V.non) (u:=z6E) J rfl q
 |brk=>obtain⟨_,_,_,q⟩:=hs;exact q.elim
 |cont=>obtain⟨_,_,_,q⟩:=hs;exact q.elim
theorem z2U{name qual slf par B:Str}{params:Arguments}{body:List Stmt}{scope:Scope}{dV kV doc pm cdv ct oc:Value}{an od:Option Addr}{osl:Array (Option Value)}
  (xi:XIn K C HE fI fl) (hi:HIn K mg HE B) (lk:K.lookup fI=some ⟨oc,od,.func (z6g name qual params body scope dV kV doc pm an cdv ct),osl⟩) (hcd:z6L K cdv qual=true) (hf:Xo body B slf par fl) (hs:scI slf par B scope=true) :
  ue P w K mg base (k+1) fI (z6g name qual params body scope dV kV doc pm an cdv ct) [slf,par] (spI C fl):=by
 simp only[scI,z5B,z6i,beq_iff_eq,z70,bne_iff_ne,ne_eq] at hs
 obtain⟨⟨⟨⟨⟨⟨⟨⟨⟨⟨⟨⟨h1,h2⟩,h3⟩,h4⟩,h5⟩,h6⟩,h7⟩,h8⟩,h9⟩,h10⟩,h11⟩,h12⟩,h13⟩:=hs
 have S:FnScope [slf,par] [slf,par] scope:=⟨h1,h2,h3,by simp[h4],rfl,λx hx=>by
  rcases z65.mp hx with rfl|hx
  ·exact .inl h5
  ·rw[z5J.mp hx];exact .inl h6,h7⟩
 obtain⟨q0,q1,q2,p5,q4,q5,r0,r1,r2,r3,parts,rfl,c5,c6⟩:=hf
 refine z27 lk hcd S (λvs H Q E q=>by obtain⟨x,i,rfl,_⟩:=q;rfl) λX H vs Q e1 e2 e3 e4 hsp=>?_
 obtain⟨x,i,rfl,hlog,hx,q⟩:=hsp
 have hd0:(slf == ("__debug__":Str))=false:=beq_eq_false_iff_ne.mpr h9
 have hc0:(slf == ("__classdict__":Str))=false:=beq_eq_false_iff_ne.mpr h10
 have hd1:(par == ("__debug__":Str))=false:=beq_eq_false_iff_ne.mpr h11
 have hc1:(par == ("__classdict__":Str))=false:=beq_eq_false_iff_ne.mpr h12
 have hdB:(B == ("__debug__":Str))=false:=beq_eq_false_iff_ne.mpr h13
 subst e1 e2 e4
 refine⟨_,yj (ZK (Vl (C:=C) (HE:=HE) (fI:=fI) (fl:=fl) xi (by rw[e3];rfl) (.inl h5) hd0 hc0 (by rw[e3];rfl) (.inl h6) hd1 hc1 c6 h8 hi.mg hdB hi.ga hi.rd hi.fc c5)) (VD (QW (C:=C) (HE:=HE) (fI:=fI) xi (by rw[e3];rfl) (.inl h5) hd0 hc0 (by rw[e3];rfl) (.inl h6) hd1 hc1)),?_⟩
 refine⟨x,i,rfl,rfl,hlog,hx,x,i,rfl,rfl,zd,λdx hdx ne=>?_⟩
 rw[Zp]
 exact q dx (by rw[za ne] at hdx;exact hdx) ne
theorem z1F{CX:CXT}{name qual slf par B:Str}{params:Arguments}{body:List Stmt}{scope:Scope}{dV kV doc pm cdv ct oc:Value}{an od:Option Addr}{osl:Array (Option Value)}
  (xi:XIn K C HE fI fl) (hi:HIn K mg HE B) (lk:K.lookup fI=some ⟨oc,od,.func (z6g name qual params body scope dV kV doc pm an cdv ct),osl⟩) (hcd:z6L K cdv qual=true) (hf:Xo body B slf par fl) (hs:scI slf par B scope=true) :
  FnOk P w K mg base CX (k+1) fI (z6g name qual params body scope dV kV doc pm an cdv ct) [slf,par] (spI C fl)/\ue P w K mg base (k+1) fI (z6g name qual params body scope dV kV doc pm an cdv ct) [slf,par] (spI C fl):=⟨z4s xi hi lk hcd hf hs,z2U xi hi lk hcd hf hs⟩
end
section
variable {X:Cx}{pins:List (Addr×Obj)}{s:Shared}{σ:St}{H:Hp}
theorem Q6{x:Addr}{φ:Heap->Prop}(I:Inv X pins σ (upd H x (.ext φ)) s)(hx:H x=none):Inv X pins σ H s:=by
 have nn:∀b,upd H x (.ext φ) b=none->H b=none:=λb e=>by
  by_cases z:b=x
  ·rw[z];exact hx
  ·rw[za z] at e;exact e
 have so:∀b o,upd H x (.ext φ) b=some o->(∀ψ,o≠.ext ψ)->H b=some o:=λb o e n=>by
  by_cases z:b=x
  ·rw[z,zd] at e;cases e;exact absurd rfl (n φ)
  ·rw[za z] at e;exact e
 refine⟨I.ok,I.os,I.bare,⟨I.base.keep,I.base.slot,λb o e n hx'=>nn b (I.base.free b o e n hx'),I.base.there,λb xs e=>so b _ (I.base.tups b xs e) (λψ z=>by cases z),λb o u e=>so b _ (I.base.frzs b o u e) (λψ z=>by cases z),λb ps e=>?_⟩,I.loc,I.cell,nn _ I.free,λy c e=>(I.freeC y c e).imp (nn _) λ⟨n,o,u,f⟩=>⟨n,o,u,so c _ f (λψ z=>by cases z)⟩,λp hp=>?_,λb ob e=>?_,I.len⟩
 ·obtain⟨more,q⟩:=I.base.tbls b ps e
  exact⟨more,so b _ q (λψ z=>by cases z)⟩
 ·obtain⟨e,n,r⟩:=I.pin p hp
  exact⟨e,nn _ n,r⟩
 ·have ne:b≠x:=λz=>by rw[z,hx] at e;cases e
  have q:=I.hok b ob (by rw[za ne];exact e)
  exact q.stay (λ_ _ _ q=>q) (λc q=>so c _ q (λψ z=>by cases z)) λc xs q=>so c _ q (λψ z=>by cases z)
end
section
variable {X:Cx}{D:DP}{W:XW}{Γ:Cn}{k:Nat}{pins:List (Addr×Obj)}{s:Shared}{σ:St}{H:Hp}{φ α:List Addr}{τ:Sl}{μ:Mem}{a:Expr}{pos:Pos}{E:Ends}{g:De}
theorem Yg{H:Hp}{x y:Addr}{a b:HO}(h:x≠y):upd (upd H x a) y b=upd (upd H y b) x a:=by
 funext c
 by_cases z:c=y
 ·subst z;rw[zd,za (z6k h),zd]
 ·rw[za z]
  by_cases z2:c=x
  ·subst z2;rw[zd,zd]
  ·rw[za z2,za z2,za z]
theorem z01{C HE fI:Addr}{fl:Str}{fd:FuncData}{ps:List Str}{kk:Nat}{u:Value}{i:Int}{Q:Value->z5D->Prop}(xi:XIn X.K C HE fI fl)(hb:Binds X.K fd ps [])(hr:Room (kk+1) X.A)
  (F:FnOk X.prog X.w X.K X.mg X.base (CX1 X.prog X.w) kk fI fd ps (spI C fl)) (I:Inv X pins σ H s) (r:RelV (.int i) u) (hlog:i.natAbs.log2<1920)
  (q:∀x dx t s',Inv X pins σ (upd H dx (.xd [(fl,.int i)])) s'->H dx=none->XOk X H x->dx≠x->s'.heap.get? x=some {cls:=.ref C,dict:=some dx,data:=.fields #[.ref t,.none,.none,.none,.bool false,.none]}->Q (.ref x) s') :
  z5K (z5N X.prog X.w) X.A (call (.ref C) [u]) Q X.xe s:=by
 obtain⟨N,nm,qn,bs,hdd,sn,sub,ab,col,dd,k0,k1,k2,k3,k5,g1,g2,g3,g4⟩:=xi.at_ I.kIn
 obtain⟨oI,gf,gc⟩:∃oI,s.heap.get? fI=some oI/\oI.cls=.type "function":=by
  obtain⟨o,ho,e⟩:=z8F.mp xi.fn
  exact⟨o,I.kIn _ _ ho,e⟩
 obtain⟨hh,gg,d,tk,os⟩:=s
 refine J8 z6N g4 g1 g2 g3 gf gc (λh1 x mk=>?_) (by rw[z6t];show 1<=_;omega)
 have J:Inv X pins σ H ⟨h1,gg,d,tk,os⟩:=I.kept (t':=tk) mk.keeps
 have ox:XOk X H x:=wD I mk.new
 have hpn:∀p∈pins,p.1≠x:=λp hp z=>by
  have:=(I.pin p (z5P _ hp)).1
  rw[z,mk.new] at this;cases this
 obtain⟨t,ho,_,_⟩:=mk.there
 have I2:Inv X pins σ (upd H x (.ext (xa x C))) ⟨h1,gg,d,tk,os⟩:=jc J ox hpn ⟨⟨t,ho⟩,⟨_,ho⟩,λh1 h2 ⟨t,e⟩ k=>⟨t,k _ e⟩⟩
 have rv:Vals [.ref x,.int i] [.ref x,u]:=.cons rfl (.cons r .nil)
 have hl:([z61 x,u]++[]).length=ps.length:=by
  have:=F.len [.ref x,.int i] (upd H x (.ext (xa x C))) (λ_ _=>True) (λ_ _ _=>False) ⟨x,i,rfl,hlog,zd,λ_ _ _=>trivial⟩
  exact this
 refine z73 (z76 (F.run _ X.stack ⟨h1,gg,d,tk,os⟩ (upd H x (.ext (xa x C))) ⟨[.ref x,u],[]⟩ [.ref x,u] [.ref x,.int i] (λv H'=>v=.non/\∃dx,H dx=none/\dx≠x/\H'=upd (upd H x (.ext (ye x C dx))) dx (.xd [(fl,.int i)])) (λ_ _ _=>False) (hr.make C [u] []) (I2.env0.make C [u] []) (by simpa using hb _ [.ref x,u] I2.kIn hl) rv
  ⟨x,i,rfl,hlog,zd,λdx hdx ne=>⟨rfl,dx,by rw[za ne] at hdx;exact hdx,ne,by rw[Zp]⟩⟩) λres s' hq=>?_)
 cases res with
 |error e=>
  obtain⟨_,_,_,_,_,_,_,_,_,_,_,_,_,_,_,z⟩:=hq
  exact z.elim
 |ok flw=>
  cases flw with
  |ret v=>
   obtain⟨v',H',I3,rv',⟨rfl,dx,hdx,ne,rfl⟩⟩:=I2.after hq
   refine⟨rv',?_⟩
   obtain⟨t',e'⟩:ye x C dx s'.heap:=(show ObjOk X.prog X.w _ s'.heap x (.ext (ye x C dx)) from I3.hok x _ (by rw[za (z6k ne),zd])).1
   rw[Yg (z6k ne)] at I3
   have I4:=Q6 I3 (by rw[za (z6k ne)];exact ox.free)
   exact q x dx t' s' I4 hdx ox ne e'
  |next=>exact z69 hq
  |brk=>exact z69 hq
  |cont=>exact z69 hq
noncomputable def hash(m:Str):Str:=⟨#[35]++m.cps⟩
theorem VW(C:Sk D W Γ X k)(hc:Γ.calm=true){x fl:Str}{n f:Nat}{p0 p1:Pos}(hx:x∈Γ.G)(hU:hash x∈Γ.U)(hg:Γ.gl (hash x)=.xin n f x fl)(hst:noStar a=true)(ha:PE X a (rdE D W g)) :
  PS X (.Raise (some (.Call (.Name x p0) [a] [] p1)) none pos) (rdS D W (ZO n f g)):=by
 rintro pins s σ H E I ⟨φ,α,τ,μ,sr,mr,p⟩
 have q:=(C.glU _ hU).1
 rw[hg] at q
 obtain⟨C0,HE,fI,fd,ps,kk,ad,hm,hfl,xi,hb,hkk,F,_⟩:=q
 have hr:=(C.rom hc).mono hkk
 obtain⟨N,nm,qn,bs,hdd,sn,sub,ab,col,dd,k0,k1,k2,k3,k5,g1,g2,g3,g4⟩:=xi.at_ I.ok.mod.kin
 have hbase:(z61 HE::zX).contains (.type "BaseException")=true:=g4.hasType z6N.hasBase
 have body:z5K (z5N X.prog X.w) X.A (eval (.Call (.Name x p0) [a] [] p1) X.env) (λv s1=>∃e t dx,v=.ref e/\s1.heap.get? C0=some (z7q nm qn C0 N bs (.ref HE::zX) hdd sn sub ab col dd k0 k1 k2 k3 k5 "ValueError.__new__")/\
   s1.heap.get? e=some {cls:=.ref C0,dict:=dx,data:=.fields #[.ref t,.none,.none,.none,.bool false,.none]}/\X.xe (.ref e) s1) X.xe s:=by
  refine zbz (wb I (C.glb x hx) hm ?_ (C.dbG x hx))
  refine z6S (K:=X.K) (first:=[]) (h₀:=X.base) I.ok.mod.kin xi.kp (thn (zN ha qx (z8 hst) p1 pins s σ H (λvs H1=>∃v t μ1 α1,vs=[v]/\Stp α H α1 H1/\SRel D φ α1 H1 τ σ/\MRel D φ α1 H1 μ1/\Den D φ α1 H1 t v/\PostS D W φ α1 H1 E ((match t with
   |.int i=>.grd (i.natAbs.log2<1920) (.ex n [(f,.int i)] τ μ1)
   |_=>.st:Out))) I ⟨φ,α,τ,μ,sr,mr,(PostS.out sr p).mono λt μ' α' H' st m q v d=>⟨v,t,μ',α',rfl,st,sr.step st,m,d,q⟩⟩) ?_) (z8 hst) rfl
  rintro us s1 ⟨vs,H1,I1,rv,v,t,μ1,α1,rfl,st1,sr1,mr1,d1,p1⟩
  obtain⟨u,rfl,r⟩:∃u,us=[u]/\RelV v u:=by
   cases rv with
   |cons r1 r2=>cases r2;exact⟨_,rfl,r1⟩
  refine⟨I1.kIn,?_⟩
  cases t<;>first|(obtain⟨Q,q,_⟩:=p1;exact q.elim)|skip
  rename_i i
  obtain⟨hlog,p2⟩:=PostS.grd p1
  cases d1
  refine z01 xi hb hr F I1 r hlog λe dx t s' I2 hdx oe ne he=>?_
  refine⟨e,t,some dx,rfl,I2.bk _ _ g1,he,C.xe _ _ ?_⟩
  have sm:vZ H1 (upd H1 dx (.xd [(fl,.int i)])):=zj hdx
  have st2:Stp α1 H1 α1 (upd H1 dx (.xd [(fl,.int i)])):=Stp.new sm
  refine⟨e,.ref C0,some dx,σ,_,none,.none,rfl,I2.pins_of (λp hp=>absurd hp (by simp)),⟨by rw[za (z6k ne)];exact oe.free,oe.loc,oe.nfs,oe.new,oe.cel,oe.pin⟩,λt ht=>absurd ht (by simp),⟨⟨_,_,.ref t,he,⟨rfl,rfl⟩,rfl,rfl,rfl,λ_ _=>rfl⟩,rfl⟩,.inl rfl,?_⟩
  refine PostS.ex p2 st2 (mr1.new sm) (sr1.step st2) (.own C0 ad rfl) ⟨_,zp mr1 hdx,zq mr1 hdx,zd,?_⟩
  exact⟨fl,.int i,[],hfl,rfl,rfl,rfl⟩
 rw[arm_exec_Raise]
 first
  |exact z5z (z6p (y7 hbase (I.ok.hd (C.clm hc)) (z5z (z6j body (λv s₃ h₃=>z5z (z6p (z5E h₃))) λ_ _ x=>x))))
  |(simp only[evalOpt,Option.map];exact z5z (z6p (y7 hbase (I.ok.hd (C.clm hc)) (z5z (z6j body (λv s₃ h₃=>z5z (z6p (z5E h₃))) λ_ _ x=>x)))))
end
noncomputable def z5b:List Expr->Option Expr
 |[a]=>some a
 |_=>none
noncomputable def WA:SR:=λr Γ s=>(KU s).bind λe=>(Z_ e).bind λq=>(z5b q.2).bind λa=>gd (Γ.calm&&(idx Γ.N q.1).isNone&&Γ.G.contains q.1&&Γ.U.contains (hash q.1)&&noStar a) ((r.e Γ a).bind λg=>(match Γ.gl (hash q.1) with
  |.xin c f nm _=>gd (nm == q.1) (some (ZO c f g))
  |_=>none))
theorem J1{D:DP}:SOk D WA:=by
 intro r H X W Γ k e d C h
 unfold WA at h
 obtain⟨e',z0,z1⟩:=bnd h
 obtain⟨⟨x,as⟩,z2,z3⟩:=bnd z1
 obtain⟨a,ha,z4⟩:=bnd z3
 clear h z1 z3
 obtain⟨p2,rfl⟩:=ZT z0
 obtain⟨p0,p1,rfl⟩:=xH z2
 obtain⟨hb,h⟩:=zr z4
 simp only[z5B] at hb
 obtain⟨⟨⟨⟨h0,h2⟩,h3⟩,h4⟩,h5⟩:=hb
 obtain⟨g,h6,h⟩:=bnd h
 have ea:as=[a]:=by
  cases as with
  |nil=>cases ha
  |cons b r=>cases r with
   |nil=>cases ha;rfl
   |cons _ _=>cases ha
 subst ea
 cases hl:Γ.gl (hash x) with
 |xin c f nm fl=>
  simp only[hl] at h
  obtain⟨h7,h8⟩:=zr h
  have h7:=beq_iff_eq.mp h7
  subst h7
  cases h8
  exact VW C h0 (by simpa using h3) (by simpa using h4) hl h5 (H.e C.toCk h6)
 |_=>simp[hl] at h
noncomputable abbrev z4K(n:Nat)(o f:De):De:=λτ μ=>(o τ μ).bind λt μ1=>(yC t n μ1).bind λw μ2=>.grd (z3C w) ((f τ μ2).bind λ_ μ3=>.ok .non μ3)
noncomputable abbrev z4H(j:Nat):De:=λ_ (μ:Mem) K _=>(∃i:Nat,μ[i]?=some (MO.tab j))/\K (.clo (2 * j) [.clo (100+j) []]) μ
noncomputable abbrev YA(c:Nat)(g:Fn)(fs:List De):De:=λτ μ=>(evs fs τ μ).bind (xA c λts μ=>g (ts++[.non]) μ)
noncomputable def YR:Str:=⟨#[37]⟩
noncomputable def til(m:Str):Str:=⟨#[126]++m.cps⟩
section
variable {X:Cx}{D:DP}{W:XW}{Γ:Cn}{k:Nat}{pins:List (Addr×Obj)}{s:Shared}{σ:St}{H:Hp}{φ α:List Addr}{τ:Sl}{μ:Mem}{f g:De}{fs:List De}{a b c:Expr}{pos:Pos}{es:List Expr}
theorem QX{A:z6e}{E:Value->z5D->Prop}{ad C0 dx:Addr}{gs:List (Str×V)}{m:Str}{v:V}{pl:Sem Bool}{Q:Value×List Value->z5D->Prop}(I:Inv X pins σ H s)(e:H ad=some (.ins C0 dx gs))(c:Cls X.K C0)(n:NoAttr X.K C0 m)(l:gs.lookup m=some v)
  (h:∀u s',Inv X pins σ H s'->RelV v u->Q (u,[]) s'):z5K (z5N X.prog X.w) A (zda (.ref ad) m pl) Q E s:=by
 obtain⟨mA,O,r,_,_,_⟩:=jR I.hok e
 obtain⟨od,J,hl⟩:=O.look
 exact PySem.W.method_usual I.kIn J (z7y (c.get m)).1 (z7y (c.get m)).2 n rfl (y4 I e c n l h)
theorem U1{c:Nat}{g:Fn}{C0 fI:Addr}{fd:FuncData}{ps:List Str}{kk:Nat}{us:List Value}{vs:List V}{ts:List T}{Q:VK}(C:Ck D W Γ X k)(ad:D.cad c=some C0)(M:Mk X.K C0 fI)(F:FnOk X.prog X.w X.K X.mg X.base (CX1 X.prog X.w) kk fI fd ps (spN D ps.length g))
  (hr:Room (kk+1) X.A) (hb:Binds X.K fd ps [.none]) (har:∀ts μ K Z,g ts μ K Z->ts.length=ps.length) (I:Inv X pins σ H s) (r:Vals vs us) (mr:MRel D φ α H μ) (d:DenL D φ α H ts vs) (p:Post D W φ α H σ (RV D φ Q) (xA c (λts μ=>g (ts++[.non]) μ) ts μ)) :
  z5K (z5N X.prog X.w) X.A (call (.ref C0) us) (EP X pins σ Q) X.xe s:=by
 obtain⟨K,Z,hg,hk,hz⟩:=p
 have hl:(T.mut μ.length::ts++[T.non]).length=ps.length:=har _ _ _ _ hg
 have hlv:(V.ref 0::(vs++[V.non])).length=ps.length:=by
  have:=d.length
  simp only[z68,z63,z72] at hl ⊢;omega
 have hq:∀x dx,H x=none->H dx=none->dx≠x->spN D ps.length g (.ref x::(vs++[.non])) (upd (upd H dx (.own x)) x (.ins C0 dx [])) (λv H2=>v=.non/\Q (.ref x) H2) (λc d H'=>W c d σ H'):=by
  intro x dx hx hdx hne
  have sm1:vZ H (upd H dx (.own x)):=zj hdx
  have hx1:upd H dx (.own x) x=none:=by rw[za (z6k hne)];exact hx
  have mr1:MRel D φ α (upd H dx (.own x)) μ:=mr.new sm1
  have st0:Stp α H (α++[x]) (upd (upd H dx (.own x)) x (.ins C0 dx [])):=(Stp.new sm1).trans (vn hx1)
  have mr2:MRel D φ (α++[x]) (upd (upd H dx (.own x)) x (.ins C0 dx [])) (μ++[.obj c []]):=mr1.layO hx1 ⟨C0,dx,[],ad,zd,rfl⟩
  have hget:(α++[x])[μ.length]?=some x:=by rw[←mr.len,z5U (z5H _)];simp
  refine⟨hlv,φ,α++[x],.mut μ.length::(ts++[T.non]),μ++[MO.obj c []],⟨.ref x,vs++[.non],rfl,⟨x,hget,rfl⟩,DenL.append (d.step st0) (show DenL D φ (α++[x]) _ [T.non] [V.non] from ⟨.non,[],rfl,rfl,rfl⟩)⟩,mr2,_,_,hg,?_,?_⟩
  ·rintro t μ2 ⟨rfl,q⟩ α2 H3 st m v dv
   refine⟨dv,?_⟩
   obtain⟨β,e,_⟩:=st.ext
   refine hk _ _ q α2 H3 (st0.trans st) m _ ⟨x,?_,rfl⟩
   rw[e,z5I (z5A.mp hget).1];exact hget
  ·rintro e fs μ2 q α2 H3 C1 d1 st m had xd
   exact hz _ _ _ q α2 H3 C1 d1 (st0.trans st) m had xd
 have hq1:=hq (s.heap.objs.size+1) s.heap.objs.size (I.hok.fresh (z7r _)) (I.hok.fresh (z5H _)) (z5Z (z6G _))
 have I2:=Inv.made (C:=C0) I
 have r2:Vals (V.ref (s.heap.objs.size+1)::(vs++[V.non])) (z61 (s.heap.objs.size+1)::us++[.none]):=.cons rfl (r.append (.cons rfl .nil))
 have hlu:(z61 (s.heap.objs.size+1)::us++[z6E]).length=ps.length:=by
  have:=r2.length
  rw[←this]
  simpa using hlv
 refine z73 (yn (f:=fI) I.kIn M.makes M.init (beq_iff_eq.mp M.fn) (z76 (F.run _ X.stack _ _ ⟨z61 (s.heap.objs.size+1)::us,[]⟩ (z61 (s.heap.objs.size+1)::us++[.none]) _ _ (λc d H'=>W c d σ H') (hr.make C0 us [])
  (I2.env0.make C0 us []) (by simpa using hb _ (z61 (s.heap.objs.size+1)::us) I2.kIn hlu) r2 hq1) λr s' hq'=>?_))
 cases r with
 |error e=>exact C.xe e s' (vP (E:=λc d H'=>W c d σ H') I2 hq' λcls d H' w=>w)
 |ok fl=>
  cases fl with
  |ret u=>
   obtain⟨v,H',I3,rv,ev,q3⟩:=I2.after hq'
   subst ev
   exact⟨rv,⟨V.ref (s.heap.objs.size+1),H',I3,rfl,q3⟩⟩
  |next=>exact z69 hq'
  |brk=>exact z69 hq'
  |cont=>exact z69 hq'
theorem KI(C:Ck D W Γ X k){x:Str}{c n:Nat}{g:Fn}{p0:Pos}(hx:x∈Γ.G)(hU:til x∈Γ.U)(hg:Γ.gl (til x)=.mkd c x n g)(hc:Γ.calm=true)(ha:EsOk X D W (a::es) fs):PE X (.Call (.Name x p0) (a::es) [] pos) (rdE D W (YA c g fs)):=by
 have q:=(C.glU _ hU).1
 rw[hg] at q
 obtain⟨C0,fI,fd,ps,kk,ad,hm,M,hb,hkk,Fn,har,_⟩:=q
 have hr:=(C.rom hc).mono hkk
 have hs:=ha.stars
 have pa:=qX ha
 rintro pins s σ H Q I ⟨φ,α,τ,μ,sr,mr,p⟩
 refine z6F (wb I (C.glb x hx) hm ?_ (C.dbG x hx))
 simp only[z6s,z5B] at hs
 refine z6S (h₀:=X.base) I.ok.mod.kin M.kp (thn (VZ pa I sr mr p) ?_) (z8 hs.1) (q9 hs.2)
 rintro us s1 ⟨vs,H1,ts,μ1,α1,I1,r1,st1,sr1,mr1,d1,_,p1⟩
 exact⟨I1.kIn,U1 C ad M Fn hr hb har I1 r1 mr1 d1 p1⟩
end
noncomputable def z5y:ER:=λr Γ e=>match e with
 |.Lambda ⟨[],[⟨y,none,_⟩],none,[],[],none,[]⟩ (.Constant .none _ _) sc pl=>gd (z0o y sc&&Γ.U.contains YR) (match Γ.gl YR,Γ.lam with
  |.kpr,some (j,poss)=>gd (decide (pl∈poss)&&decide (j<2)&&Γ.lnm == ("<lambda>":Str)) (some (z4H j))
  |_,_=>none)
 |_=>none
noncomputable def z5v:ER:=λr Γ e=>match e with
 |.Call (.Attribute o m pa) [a] [] pc=>gd (qb o&&pa.endLine == pc.line&&Γ.calm&&noStar a&&Γ.U.contains YR&&m == ("keeper":Str)) ((r.e Γ o).bind λgo=>(r.e Γ a).bind λf=>(match Γ.gl YR,Γ.fld.lookup m with
  |.kpr,some n=>some (z4K n go f)
  |_,_=>none))
 |_=>none
theorem yx{x:Str}{n:Nat}:∀{l:List (Str×Nat)},l.lookup x=some n->(x,n)∈l
 |[],h=>by cases h
 |(y,m)::r,h=>by
  rw[z6b] at h
  split at h
  ·rename_i e
   have e:=beq_iff_eq.mp e
   cases h
   rw[e];exact z5_
  ·exact z5M _ (yx h)
noncomputable def z1u:ER:=λr Γ e=>match e with
 |.Call (.Name x _) (a::es) [] _=>gd ((idx Γ.N x).isNone&&Γ.calm&&Γ.G.contains x&&Γ.U.contains (til x)) ((cEs r Γ (a::es)).bind λfs=>(match Γ.gl (til x) with
  |.mkd c nm n g=>gd (nm == x&&decide (es.length+1=n)) (some (YA c g fs))
  |_=>none))
 |_=>none
theorem UY{D:DP}:EOk D z1u:=by
 intro r H X W Γ k e d C h
 unfold z1u at h
 split at h
 ·rename_i x p0 a es pos
  have hh:=zr h
  clear h
  obtain⟨hb,h⟩:=hh
  simp only[z5B] at hb
  obtain⟨⟨⟨h0,h1⟩,h2⟩,h3⟩:=hb
  obtain⟨fs,e1,h⟩:=bnd h
  cases hl:Γ.gl (til x) with
  |mkd c nm n g=>
   simp only[hl] at h
   obtain⟨h4,h5⟩:=zr h
   simp only[z5B] at h4
   have h4:=beq_iff_eq.mp h4.1
   subst h4
   cases h5
   exact KI C (by simpa using h2) (by simpa using h3) hl h1 (qW H C e1)
  |_=>simp[hl] at h
 ·cases h
section
variable {P:Program}{w:World}{K:PySem.W.Frag}{mg:Str->Option Value}{base:Heap}{D:DP}{k n:Nat}
theorem vO{fd:FuncData}{ps:List Str}{T0:Addr}{o:Obj}{items:Array Value}{n:Nat}(hd:fd.defaults=.ref T0)(ho:K.lookup T0=some o)(hs:o.data=.seq items n)(h:∀us:List Value,us.length=ps.length->∃k,z9j fd ⟨us,[]⟩=za1 fd.defaults >>= k/\k (some items)=pure (ps.zip us)):Binds K fd ps []:=λs us X hl=>by
 rw[z6n] at hl ⊢
 obtain⟨k,h1,h2⟩:=h us hl
 exact zcc X hd ho hs h1 h2
theorem vV{fd:FuncData}{ps:List Str}{T0:Addr}{o:Obj}{items:Array Value}{n:Nat}{d:Value}(hd:fd.defaults=.ref T0)(ho:K.lookup T0=some o)(hs:o.data=.seq items n)(h:∀us:List Value,us.length+1=ps.length->∃k,z9j fd ⟨us,[]⟩=za1 fd.defaults >>= k/\k (some items)=pure (ps.zip (us++[d]))):Binds K fd ps [d]:=λs us X hl=>by
 obtain⟨k,h1,h2⟩:=h us (by simpa using hl)
 exact zcc X hd ho hs h1 h2
end
end NH
namespace NH.P
open PySem L2 NH
@[reducible] noncomputable def v7:List Ds:=[(zA (ZS (zf qQ [(eV 0)]) (zt .GtE (eV 0) (eC (.int 0)))))]
noncomputable def qe:Fn:=fnW 1 0 v7
@[reducible] noncomputable def kF:List Ds:=[(sIf (tOr (w_ (tE (Zb [4] (eV 1)))) (tE (zt .NotEq (eB1 ja (eV 1)) (eC (.int 2))))) [(zA (eC (.bl false)))] []),(sIf (w_ (tOr (tE (zt .Is (eIx (eV 1) (eC (.int 0))) (eC .non))) (tE (zf vG [(eV 0),(eIx (eV 1) (eC (.int 0)))])))) [(zA (eC (.bl false)))] []),(zA (eOr (zt .Is (eIx (eV 1) (eC (.int 1))) (eC .non)) (zf qz [(eIx (eV 1) (eC (.int 1))),(zm (eV 0) 0)])))]
noncomputable def xn:Fn:=fnW 2 0 kF
@[reducible] noncomputable def jL:List Ds:=[(qH (eV 0) 11 (eV 1)),(qH (eV 0) 12 (eV 2)),(qH (eV 0) 13 (eV 3))]
noncomputable def qI:Fn:=fnW 4 0 jL
@[reducible] noncomputable def uW:List Ds:=[(zA (zf xw [(eV 0),(zo .FloorDiv (eV 2) (zm (eV 0) 2)),(eV 1),(zo .Mod (eV 2) (zm (eV 0) 2))]))]
noncomputable def jV:Fn:=fnW 3 0 uW
@[reducible] noncomputable def j6:List Ds:=[(zx 3 (zf vE [(eV 0),(eV 2)])),(sIf (tE (zt .Lt (eIx (eV 3) (eC (.int 1))) (eV 1))) [(zA (zo .Mult (eIx (eV 3) (eC (.int 0))) (zm (eV 0) 2)))] []),(sIf (tE (zt .Gt (eIx (eV 3) (eC (.int 1))) (eV 1))) [(zA (zo .Mult (zo .Add (eIx (eV 3) (eC (.int 0))) (eC (.int 1))) (zm (eV 0) 2)))] []),(zA (zo .Add (zo .Add (zo .Mult (eIx (eV 3) (eC (.int 0))) (zm (eV 0) 2)) (eIx (eV 3) (eC (.int 2)))) (eC (.int 1))))]
noncomputable def wC:Fn:=fnW 3 1 j6
@[reducible] noncomputable def wZ:List Ds:=[(sIf (tE (zm (eV 0) 20)) [(zG 24 [(eC (.str "the house has fallen"))])] [])]
noncomputable def zF:Fn:=fnW 1 0 wZ
@[reducible] noncomputable def jA:List Ds:=[(zA (jh [(zm (eV 0) 6),(zm (eV 0) 17)]))]
noncomputable def vy:Fn:=fnW 1 0 jA
@[reducible] noncomputable def qo:List Ds:=[(sIf (tE (zt .Is (zm (eV 0) 6) (eC .non))) [(zG 18 [(eC (.str "the house has no lease"))])] [])]
noncomputable def zK:Fn:=fnW 1 0 qo
@[reducible] noncomputable def wm:List Ds:=[(sIf (tE (zt .IsNot (zm (eV 0) 18) (eC .non))) [(zA (zf wC [(zm (eV 0) 9),(eIx (zm (eV 0) 6) (eC (.int 0))),(zm (eV 0) 18)]))] []),(sIf (tE (zt .IsNot (zm (eV 0) 17) (eC .non))) [(zA (zo .Mult (zo .Add (zm (eV 0) 17) (eC (.int 1))) (zm (zm (eV 0) 9) 2)))] []),(zA (eC (.int 0)))]
noncomputable def qk:Fn:=fnW 1 0 wm
@[reducible] noncomputable def wg:List Ds:=[(sIf (tOr (w_ (tE (zf wF [(eV 2)]))) (tE (zt .Gt (eV 2) (zm (zm (eV 0) 9) 2)))) [(zG 20 [(eC (.str "so many are whole numbers from 1 on up to the shape's counts"))])] []),(sIf (w_ (tE (zf qQ [(eV 1)]))) [(zG 16 [(eC (.str "a reading is a whole number"))])] []),(zJ (zR 45 zK (eV 0) [])),(zx 3 (zo .Mult (eB2 QJ (eIx (zm (eV 0) 6) (eC (.int 1))) (eV 1)) (zm (zm (eV 0) 9) 2))),(zx 4 (eB2 QJ (zR 45 qk (eV 0) []) (eV 3))),(zx 5 (zo .Add (eV 4) (eV 2))),(sIf (tE (zt .Gt (eV 5) (zo .Mult (eIx (zm (eV 0) 6) (eC (.int 2))) (zm (zm (eV 0) 9) 2)))) [(zG 18 [(eC (.str "the lease has not so many names"))])] []),(zx 6 (zo .Sub (zo .FloorDiv (zo .Sub (eV 5) (eC (.int 1))) (zm (zm (eV 0) 9) 2)) (zo .Add (eV 1) (zm (eV 0) 14)))),(sIf (tE (zt .Gt (eV 6) (eC (.int 0)))) [(ZO 21 29 (eV 6))] []),(zA (eMk 44 qI [(eIx (zm (eV 0) 6) (eC (.int 0))),(eV 4),(eV 5)]))]
noncomputable def qh:Fn:=fnW 3 4 wg
@[reducible] noncomputable def ql:List Ds:=[(sIf (xh (tE (zt .IsNot (zm (eV 0) 17) (eC .non))) (tE (zt .LtE (eV 1) (zm (eV 0) 17)))) [(zA (zm (eV 0) 17))] []),(zA (eB2 uD (zo .Add (eV 1) (zm (eV 0) 15)) (zo .Sub (zm (zm (eV 0) 9) 0) (eC (.int 1)))))]
noncomputable def qc:Fn:=fnW 2 0 ql
@[reducible] noncomputable def jC:List Ds:=[(zA (zm (eV 0) 18))]
noncomputable def WH:Fn:=fnW 1 0 jC
@[reducible] noncomputable def uG:List Ds:=[(zx 2 (zo .Mod (zo .Mult (zo .Add (zo .Add (zo .Mod (eV 0) (eC (.int 2147483629))) (zo .Mult (eC (.int 69621)) (eV 1))) (eC (.int 1))) (eC (.int 48271))) (eC (.int 2147483629)))),(zx 2 (zo .Mod (zo .Mult (eV 2) (zo .Add (zo .FloorDiv (eV 2) (eC (.int 1009))) (eC (.int 69621)))) (eC (.int 2147483629)))),(zx 2 (zo .Mod (zo .Mult (eV 2) (zo .Add (zo .Add (zo .FloorDiv (eV 2) (eC (.int 907))) (eC (.int 16807))) (eV 1))) (eC (.int 2147483629)))),(zA (zo .Mod (zo .Mult (eV 2) (zo .Add (zo .FloorDiv (eV 2) (eC (.int 1201))) (eC (.int 30011)))) (eC (.int 2147483629))))]
noncomputable def xE:Fn:=fnW 2 1 uG
@[reducible] noncomputable def xU:List Ds:=[(zA (kq [(zo .Mult (zo .FloorDiv (eV 0) (eC (.int 2))) (zo .Sub (eC (.int 1)) (zo .Mod (eV 0) (eC (.int 2))))),(eV 0),(eC (.int 0))]))]
noncomputable def wX:Fn:=fnW 1 0 xU
@[reducible] noncomputable def yy:List Ds:=[(sIf (tE (zt .Gt (eIx (eV 0) (eC (.int 0))) (eC (.int 0)))) [(zx 2 (zo .Mod (eIx (eV 0) (eC (.int 0))) (eV 1))),(Yu (eV 0) (eC (.int 0)) (zo .FloorDiv (eIx (eV 0) (eC (.int 0))) (eV 1))),(zA (eV 2))] []),(Yu (eV 0) (eC (.int 2)) (zo .Add (eIx (eV 0) (eC (.int 2))) (eC (.int 1)))),(zA (zo .Mod (zf xE [(eIx (eV 0) (eC (.int 1))),(eIx (eV 0) (eC (.int 2)))]) (eV 1)))]
noncomputable def zB:Fn:=fnW 2 1 yy
end NH.P
namespace NH
open PySem PySem.Spec PyProof.Rows L2
noncomputable abbrev z3p(ts:List T)(μ:Mem):RE T:=.som (intsOf ts) λns=>.ok (.int ns.sum) μ
noncomputable abbrev U7(t:T)(μ:Mem):RE T:=match t with
 |.lst ts=>z3p ts μ
 |.mut i=>λK Z=>∃ts,μ[i]?=some (.lst ts)/\z3p ts μ K Z
 |_=>.st
noncomputable def z0r(i:Nat)(t:T)(μ:Mem)(zs:List T):Prop:=t=.lst zs\/∃j,t=.mut j/\j≠i/\μ[j]?=some (.lst zs)
noncomputable abbrev KD(o f:De):De:=λτ μ=>(o τ μ).bind λot μ1=>match ot with
 |.mut i=>λK Z=>(∃ts,μ1[i]?=some (.lst ts))/\f τ μ1 (λt μ2=>∃ts zs,μ2[i]?=some (.lst ts)/\z0r i t μ2 zs/\ts.length+zs.length<=room/\K .non (μ2.set i (.lst (ts++zs)))) Z
 |_=>.st
noncomputable abbrev Vi(c:Nat)(g:Fn)(d:T)(o:De)(as:List De):De:=zR c (λts μ=>g (ts++[d]) μ) o as
section
variable {X:Cx}{D:DP}{W:XW}{Γ:Cn}{k:Nat}{pins:List (Addr×Obj)}{s:Shared}{σ:St}{H:Hp}{φ α:List Addr}{τ:Sl}{μ:Mem}{f g:De}{fs:List De}{a b c:Expr}{pos:Pos}{es:List Expr}
theorem z3u{A:z6e}{E:Value->z5D->Prop}{prog:z6f}{w:z6w}{l:Addr}{vs:List Value}{ns:List Int}{Q:Value->z5D->Prop}(hh:A.handled=none)(hl:s.heap.IsList l vs.toArray)(hi:z75 vs ns)
  (h:∀h' tk t',(∀b o,s.heap.get? b=some o->h'.get? b=some o)->Q (.int ns.sum t') {s with heap:=h',toks:=tk}):z5K (z5N prog w) A (call (.builtin "sum") [.ref l]) Q E s:=by
 obtain⟨xs,hx⟩:=hi.allInts.items
 have hl':s.heap.IsList l (intItems xs):=hx▸hl
 refine sum_intListG hh hl' λh' tk t' hk=>?_
 have e1:ns=xs.toList.map (·.1):=by
  rw[←nums_intItems,←hx]
  exact (show numsOf vs.toArray.toList=ns from hi.numsOf).symm
 have e2:preSum (numAt xs) xs.size=ns.sum:=by
  rw[preSum_eq,z78 (by simp),e1]
 rw[e2]
 exact h h' tk t' hk
theorem Kj{ad:Addr}{xs:List T}{ws:List V}{Q:VK}(hc:X.calm=true)(I:Inv X pins σ H s)(mr:MRel D φ α H μ)(q:Rd H ad (.lst ws))(l:DenL D φ α H xs ws)(p:Post D W φ α H σ (RV D φ Q) (z3p xs μ)) :
  z5K (z5N X.prog X.w) X.A (call (.builtin "sum") [.ref ad]) (EP X pins σ Q) X.xe s:=by
 obtain⟨its,rv,pl,hz⟩:=I.list (.inl q)
 obtain⟨ns,hns,p⟩:=Post.som p
 have ey:=qC hns l
 subst ey
 refine z3u (I.ok.hd hc) pl.isList (intsAre_of rv) λh' tk t' kp=>?_
 exact⟨.int ns.sum,H,I.kept kp,⟨_,rfl⟩,Post.here p mr rfl⟩
theorem z34(hc:X.calm=true):B1 X D W (.builtin "sum") U7:=by
 intro pins s σ H φ α μ t v u Q I mr d r p
 unfold U7 at p
 split at p
 ·obtain⟨ad,xs,rfl,_,_,q,l⟩:=d
  cases r
  exact Kj hc I mr q l p
 ·obtain⟨ts,hj,p⟩:=p.ex1
  obtain⟨ad,hi,rfl⟩:=d
  cases r
  obtain⟨xs,q,l⟩:=mr.ob _ ad _ hi hj
  exact Kj hc I mr (.inl q) l p
 ·exact p.elim
theorem Wb:MtR X "list.extend" (λx vs H Q=>∃l b xs zs,x=.ref l/\vs=[.ref b]/\H l=some (.lst xs)/\Rd H b (.lst zs)/\xs.length+zs.length<=sizeLine/\Q .non (upd H l (.lst (xs++zs)))):=by
 intro pins s σ H x vs v us Q I rx rv h
 obtain⟨l,b,xs,zs,rfl,rfl,hH,hB,hz,q⟩:=h
 cases rx
 obtain⟨u,rfl,ru⟩:=vals1 rv
 cases ru
 obtain⟨z,its,n,r,hl,e⟩:=I.lstM hH
 obtain⟨z2,its2,n2,r2,e2⟩:=hB.ok I.hok
 have hl2:=r2.length
 have hsz:its.toArray.size+its2.toArray.size<=sizeLine:=by rw[z5W,z5W];omega
 have hlong:¬(!its.toArray.isEmpty&&z8d (its.toArray.size+its2.toArray.size))=true:=by
  rw[Xt hsz,zaD]
  exact z66
 refine zcs F.slot_list_extend ⟨_,e,rfl⟩ F.entry_list_extend (F.args_list_extend_2 _ _)
  (AutoSeq1.list_extend_list_list_0 l its.toArray n b its2.toArray n2 hlong (by rw[z5W];omega) (by omega)) ⟨e,e2,?_⟩
 refine⟨.non,_,I.lset (its':=its++its2) hH e (by simp) (r.append r2) ?_,rfl,q⟩
 rw[z63]
 omega
theorem z38{o:Expr}{pa pc:Pos}{go:De}(hp:qb o=true)(hs:noStar a=true)(hline:(pa.endLine == pc.line)=true)(ho:PE X o (rdE D W go))(ha:PE X a (rdE D W f)) :
  PE X (.Call (.Attribute o "extend" pa) [a] [] pc) (rdE D W (KD go f)):=by
 have hb:z6o [a] X.env=[(false,eval a X.env)]:=z8 hs
 refine PE.mono (z0z z9_ PySem.F.slot_list_extend PySem.F.type_list_extend Wb ho (zN ha qx (z8 hs)) (qO hp) (by rw[hb];rfl) hline (z8 hs) rfl) ?_
 rintro σ H Q ⟨φ,α,τ,μ,sr,mr,p⟩
 refine⟨φ,α,τ,μ,sr,mr,p.bind.mono λot μ1 α1 H1 st1 m1 q ov dv=>?_⟩
 split at q
 case h_2=>exact q.elim
 rename_i i
 obtain⟨K,Z,⟨⟨ts0,hμ0⟩,hf⟩,hk,hz⟩:=q
 obtain⟨x,hx,rfl⟩:=dv
 obtain⟨xs0,hH0,l0⟩:=m1.ob _ x _ hx hμ0
 refine⟨.inl ⟨rfl,_,.inl (.inl hH0)⟩,φ,α1,τ,μ1,sr.step st1,m1,_,Z,hf,?_,hz⟩
 rintro t μ2 ⟨ts,zs,hμ,hl,hr,q2⟩ α2 H2 st2 m2 v d
 obtain⟨β,e2,_⟩:=st2.ext
 have hx2:α2[i]?=some x:=by
  rw[e2,z5I (z5A.mp hx).1];exact hx
 obtain⟨xs,hH,l⟩:=m2.ob i x _ hx2 hμ
 have hv:∃y ws,v=.ref y/\Rd H2 y (.lst ws)/\DenL D φ α2 H2 zs ws:=by
  rcases hl with rfl|⟨j,rfl,hj,hμj⟩
  ·obtain⟨y,ws,rfl,_,_,r,dl⟩:=d
   exact⟨y,ws,rfl,r,dl⟩
  ·obtain⟨y,hy,rfl⟩:=d
   obtain⟨ws,hw,dl⟩:=m2.ob j y _ hy hμj
   exact⟨y,ws,rfl,.inl hw,dl⟩
 obtain⟨y,ws,rfl,hr2,dl⟩:=hv
 have st4:Stp α2 H2 α2 (upd H2 x (.lst (xs++ws))):=Stp.turn (z5T hx2) ⟨_,hH⟩
 have hi:i<μ2.length:=(z5A.mp hμ).1
 refine⟨x,y,xs,ws,rfl,rfl,hH,hr2,?_,?_⟩
 ·rw[←l.length,←dl.length];exact z62 hr (zI (z5H _))
 ·exact hk _ _ q2 α2 _ (st2.trans st4) (m2.turn hx2 hi st4 ⟨_,zd,(l.step st4).append (dl.step st4)⟩) .non rfl
theorem Q4{g:Fn}{fa:Addr}{fd:FuncData}{ps:List Str}{kk:Nat}{us:List Value}{vs:List V}{ts:List T}{Q:VK}{du:Value}{dv:V}{dt:T}(C:Ck D W Γ X k)(F:FnOk X.prog X.w X.K X.mg X.base (CX1 X.prog X.w) kk fa fd ps (spN D ps.length g))
  (hr:Room kk X.A) (hb:Binds X.K fd ps [du]) (hrd:RelV dv du) (hdd:∀φ α H,Den D φ α H dt dv) (har:∀ts μ K Z,g ts μ K Z->ts.length=ps.length) (I:Inv X pins σ H s) (r:Vals vs us) (mr:MRel D φ α H μ) (d:DenL D φ α H ts vs) (p:Post D W φ α H σ (RV D φ Q) (g (ts++[dt]) μ)) :
  z5K (z5N X.prog X.w) X.A (call (.ref fa) us) (EP X pins σ Q) X.xe s:=by
 obtain⟨K,Z,q,hq,hz⟩:=p
 have hl:(ts++[dt]).length=ps.length:=har _ μ K Z q
 have d2:DenL D φ α H (ts++[dt]) (vs++[dv]):=DenL.append d (show DenL D φ α H [dt] [dv] from ⟨dv,[],rfl,hdd _ _ _,rfl⟩)
 have r2:Vals (vs++[dv]) (us++[du]):=r.append (.cons hrd .nil)
 have sp:spN D ps.length g (vs++[dv]) H Q (λc d H'=>W c d σ H'):=⟨by rw[←d2.length];exact hl,φ,α,_,μ,d2,mr,K,Z,q,hq,hz⟩
 have hl2:(us++[du]).length=ps.length:=by rw[←r2.length,←d2.length];exact hl
 refine z73 (z76 (F.run X.A X.stack s H ⟨us,[]⟩ (us++[du]) (vs++[dv]) Q (λc d H'=>W c d σ H') hr I.env0 (hb s us I.kIn hl2) r2 sp) λr s' hq=>?_)
 cases r with
 |error e=>exact C.xe e s' (vP (E:=λc d H'=>W c d σ H') I hq λcls d H' w=>w)
 |ok fl=>
  cases fl with
  |ret u=>exact I.after hq
  |next=>exact z69 hq
  |brk=>exact z69 hq
  |cont=>exact z69 hq
theorem U3(C:Ck D W Γ X k){x m:Str}{c n:Nat}{g:Fn}{dt:T}{o:Expr}{go:De}{apos:Pos}(hU:x∈Γ.U)(hg:Γ.gl x=.metd c m n dt g)(hc:Γ.calm=true)(hp:qb o=true)(hline:(apos.endLine == pos.line)=true)(hl:es.length<30)(ho:PE X o (rdE D W go))(ha:EsOk X D W es fs) :
  PE X (.Call (.Attribute o m apos) es [] pos) (rdE D W (Vi c g dt go fs)):=by
 have q:=(C.glU x hU).1
 rw[hg] at q
 obtain⟨C0,fI,fd,ps,kk,du,dvv,ad,cl,M,hnf,hb,hrd,hdd,hkk,Fn,har,_⟩:=q
 have hr:=(C.rom hc).mono hkk
 have hs:=ha.stars
 have pa:=qX ha
 rintro pins s σ H Q I ⟨φ,α,τ,μ,sr,mr,p⟩
 rw[z9O,qO hp]
 refine z5z (thn (sub ho I sr mr p) ?_)
 rintro u s1 ⟨v,H1,t,μ1,α1,I1,r1,st1,sr1,mr1,d1,p1⟩
 refine z5z (z6p ?_)
 have hform:zaI (es.length+([]:List z9a).length) (z7u pos (z6o es X.env)) (z8V pos (z7J [] X.env))=true:=Wa hs hl
 have hpos:z7x true o X.env apos pos=pure pos:=by unfold z7x;simp[hline]
 have go:∀{ad0 dx:Addr} {gs:List (Str×V)} {t0:T},H1 ad0=some (.ins C0 dx gs)->gs.lookup m=none->u=.ref ad0->(∀α2 H2,Stp α1 H1 α2 H2->Den D φ α2 H2 t0 (.ref ad0))->Post D W φ α1 H1 σ (RV D φ Q) ((evs fs τ μ1).bind λts μ2=>g (t0::ts++[dt]) μ2)->
   z5K (z5N X.prog X.w) X.A (z8Q o m apos pos X.env u (es.length+([]:List z9a).length) (z7u pos (z6o es X.env)) (z8V pos (z7J [] X.env))) (EP X pins σ Q) X.xe s1:=λ{ad0 dx gs t0} e1 lk hu hd p2=>by
  subst hu
  unfold z8Q
  rw[hform]
  refine z5z (z60 (xO I1 e1 cl M lk ?_))
  refine z5z (z7K hpos ?_)
  have d0:=hd α1 H1 (Stp.refl _ _)
  cases es with
  |nil=>
   cases fs with
   |nil=>exact z7z (first:=[.ref ad0]) I1.kIn M.kp (Q4 (ts:=[t0]) (us:=[.ref ad0]) (vs:=[.ref ad0]) C Fn hr hb hrd hdd har I1 (.cons rfl .nil) mr1 ⟨_,_,rfl,d0,rfl⟩ p2)
   |cons f fs=>exact ha.elim
  |cons e es=>
   simp only[z6s,z5B] at hs
   refine z6S (first:=[.ref ad0]) (h₀:=X.base) I1.ok.mod.kin M.kp (thn (VZ pa I1 sr1 mr1 p2) ?_) (z8 hs.1) (q9 hs.2)
   rintro us s2 ⟨vs,H2,ts,μ2,α2,I2,r2,st2,sr2,mr2,d2,_,p3⟩
   exact⟨I2.kIn,Q4 (ts:=t0::ts) (us:=.ref ad0::us) (vs:=.ref ad0::vs) C Fn hr hb hrd hdd har I2 (.cons rfl r2) mr2 ⟨_,_,rfl,hd α2 H2 st2,d2⟩ p3⟩
 cases t with
 |obj c' gf=>
  obtain⟨hcc,p2⟩:=Post.grd p1
  subst hcc
  obtain⟨ad0,C1,dx,gs,rfl,n1,n2,ad1,e1,l⟩:=id d1
  rw[ad] at ad1;cases ad1
  exact go e1 (vK hnf l) r1 (λα2 H2 st=>d1.step st) p2
 | «mut» i=>
  obtain⟨gf,hi,p2⟩:=Post.ex1 p1
  obtain⟨ad0,hi',rfl⟩:=id d1
  obtain⟨C1,dx,gs,ad1,e1,l⟩:=mr1.ob _ ad0 _ hi' hi
  rw[ad] at ad1;cases ad1
  exact go e1 (vK hnf l) r1 (λα2 H2 st=>d1.step st) p2
 |_=>exact Post.elim p1
end
noncomputable def z4n:ER:=rB1 "sum" U7 true
theorem YD{D:DP}:EOk D z4n:=jv λC hx hg hc hs ha=>uq C hx hg (by decide +kernel) (by decide) hs (z34 (C.clm (hc rfl))) ha
noncomputable def z2h:ER:=λr Γ e=>match e with
 |.Call (.Attribute o m pa) [a] [] pc=>gd (m == ("extend":Str)&&qb o&&noStar a&&pa.endLine == pc.line) ((r.e Γ o).bind λgo=>(r.e Γ a).bind λf=>some (KD go f))
 |_=>none
theorem z0k{D:DP}:EOk D z2h:=by
 intro r H X W Γ k e d C h
 unfold z2h at h
 split at h
 ·obtain⟨hb,h1⟩:=zr h
  clear h
  simp only[z5B] at hb
  obtain⟨⟨⟨h0,h2⟩,h3⟩,h4⟩:=hb
  have h0:=beq_iff_eq.mp h0
  subst h0
  obtain⟨go,e1,h1⟩:=bnd h1
  obtain⟨f,e2,h1⟩:=bnd h1
  cases h1
  exact z38 h2 h3 h4 (H.e C e1) (H.e C e2)
 ·cases h
noncomputable def WR:ER:=λr Γ e=>match e with
 |.Tuple [a,b] _ _=>gd (noStar a&&noStar b) ((r.e Γ a).bind λf=>(r.o Γ b).bind λg=>some (jh [f,g]))
 |_=>none
theorem Jo{D:DP}:EOk D WR:=by
 intro r H X W Γ k e d C h
 unfold WR at h
 split at h
 ·obtain⟨hb,h⟩:=zr h
  simp only[z5B] at hb
  obtain⟨f,h1,h⟩:=bnd h
  obtain⟨g,h2,h⟩:=bnd h
  cases h
  exact JT (by show (2:Nat)<=room;decide) ⟨hb.1,H.e C h1,hb.2,H.o C h2,trivial⟩
 ·cases h
noncomputable def XY:ER:=λr Γ e=>match e with
 |.Call (.Attribute o m pa) es [] pc=>gd (qb o&&pa.endLine == pc.line&&Γ.calm&&decide (es.length<30)&&Γ.U.contains (til (dot m))) ((r.e Γ o).bind λgo=>(cEs r Γ es).bind λfs=>(match Γ.gl (til (dot m)) with
  |.metd c nm n dt g=>gd (nm == m&&decide (es.length=n)) (some (Vi c g dt go fs))
  |_=>none))
 |_=>none
theorem Kf{D:DP}:EOk D XY:=by
 intro r H X W Γ k e d C h
 unfold XY at h
 split at h
 ·rename_i o m pa es pc
  have hh:=zr h
  clear h
  obtain⟨hb,h⟩:=hh
  simp only[z5B,decide_eq_true_eq] at hb
  obtain⟨⟨⟨⟨h0,h1⟩,h2⟩,h3⟩,h4⟩:=hb
  obtain⟨go,e1,h⟩:=bnd h
  obtain⟨fs,e2,h⟩:=bnd h
  cases hl:Γ.gl (til (dot m)) with
  |metd c nm n dt g=>
   simp only[hl] at h
   obtain⟨h5,h6⟩:=zr h
   simp only[z5B] at h5
   have h5:=beq_iff_eq.mp h5.1
   subst h5
   cases h6
   exact U3 C (by simpa using h4) hl h2 h0 h1 h3 (H.e C e1) (qW H C e2)
  |_=>simp[hl] at h
 ·cases h
end NH
namespace NH.P
open PySem L2 NH
@[reducible] noncomputable def wt:List Ds:=[(zA (va 1 [1,0] (.one 0) (Vo (zm (eV 1) 12) (zm (eV 1) 13)) [] (zf jV [(eV 2),(zm (eV 1) 11),(eV 0)])))]
noncomputable def zZ:Fn:=fnW 2 0 wt
@[reducible] noncomputable def kK:List Ds:=[(zA (eB1 U7 (qR 1 [] (.one 0) (iE (eV 0)) [] (zo .Sub (zm (eV 0) 13) (zm (eV 0) 12)))))]
noncomputable def wV:Fn:=fnW 1 0 kK
@[reducible] noncomputable def Qi:List Ds:=[(zx 2 (kq [])),(zx 3 (kq [])),(zx 4 (eV 1)),(K1 (.one 5) (iE (eV 0)) [(zx 6 (eB2 uD (zo .Add (zm (eV 5) 12) (eV 4)) (zm (eV 5) 13))),(zx 4 (zo .Sub (eV 4) (zo .Sub (eV 6) (zm (eV 5) 12)))),(zJ (QL (eV 2) (eMk 44 qI [(zm (eV 5) 11),(zm (eV 5) 12),(eV 6)]))),(zJ (QL (eV 3) (eMk 44 qI [(zm (eV 5) 11),(eV 6),(zm (eV 5) 13)])))]),(zA (jh [(eV 2),(va 1 [] (.one 0) (iE (eV 3)) [(tE (zt .Lt (zm (eV 0) 12) (zm (eV 0) 13)))] (eV 0))]))]
noncomputable def parted:Fn:=fnW 2 5 Qi
@[reducible] noncomputable def vI:List Ds:=[(sIf (w_ (xh (tE (zf qe [(eV 2)])) (tE (zf qe [(eV 3)])))) [(zG 16 [(eC (.str "ahead and stride are whole numbers from 0 on"))])] []),(sIf (xh (tE (zt .IsNot (eV 5) (eC .non))) (w_ (tE (zf xn [(eV 1),(eV 5)])))) [(zG 23 [(eC (.str "no note of the shape"))])] []),(qH (eV 0) 9 (eV 1)),(qH (eV 0) 14 (eV 2)),(qH (eV 0) 15 (eV 3)),(qH (eV 0) 16 (eV 4)),(qH (eV 0) 6 (eIf (tE (zt .Is (eV 5) (eC .non))) (eC .non) (eIx (eV 5) (eC (.int 0))))),(qH (eV 0) 17 (eIf (tE (zt .Is (eV 5) (eC .non))) (eC .non) (eIx (eV 5) (eC (.int 1))))),(qH (eV 0) 18 (eC .non)),(qH (eV 0) 19 (kq [])),(qH (eV 0) 20 (eC (.bl false)))]
noncomputable def zE:Fn:=fnW 6 0 vI
@[reducible] noncomputable def vm:List Ds:=[(zJ (zR 45 zF (eV 0) [])),(sIf (w_ (tE (zf wF [(eV 1)]))) [(zG 20 [(eC (.str "so many are whole numbers from 1 on"))])] []),(sIf (tE (zt .Lt (zf wV [(zm (eV 0) 19)]) (eV 1))) [(zG 22 [(eC (.str "fewer are in store"))])] []),(zx 2 (zf parted [(zm (eV 0) 19),(eV 1)])),(qH (eV 0) 19 (eIx (eV 2) (eC (.int 1)))),(zx 3 (kq [])),(K1 (.one 4) (iE (eIx (eV 2) (eC (.int 0)))) [(zJ (KD (eV 3) (zf zZ [(zm (eV 0) 9),(eV 4)])))]),(zA (eV 3))]
noncomputable def zU:Fn:=fnW 2 3 vm
end NH.P
namespace NH
open PySem PySem.Spec PyProof.Rows L2
noncomputable def DfO:List (Str×Value)->Prop:=λkw=>kw=[]\/kw=[(z6W "default",.none)]
section
variable {prog:Program}{w:World}{A:Around}{E:Value->Shared->Prop}{s:Shared}{l I S:Addr}{vs:List Value}{R:Result->Shared->Prop}{Q:Value->Shared->Prop}{κ:Type}
noncomputable def Ks(prog:z6f)(w:z6w)(A:z6e)(s:z5D)(vs:List Value)(ks:List κ)(gt:κ->κ->Bool):Prop:=
 ∀(E:Value->z5D->Prop) (i j:Nat) vi vj ki kj h' (tk':Nat) (Q:Value->z5D->Prop),vs[i]?=some vi->ks[i]?=some ki->vs[j]?=some vj->ks[j]?=some kj->(∀b o,s.heap.get? b=some o->h'.get? b=some o)->
  Q (.bool (gt ki kj)) {s with heap:=h',toks:=tk'}->z5K (z5N prog w) A.in1 (zbX .Gt vi vj) Q E {s with heap:=h',toks:=tk'}
theorem Jy{ks:List κ}{gt:κ->κ->Bool}{kw:List (Str×Value)}(irr:∀a,gt a a=false)(key:∀a b c,gt a b=true->gt c b=false->gt c a=false)(hcmp:Ks prog w A s vs ks gt)(hh:A.handled=none)(hl:s.heap.IsList l vs.toArray)(hI:s.heap.get? I=none)(hS:s.heap.get? S=none)(hSI:S≠I)(hlen:ks.length=vs.length)
  (hR:∀(i:Nat) v kk h' tk',vs[i]?=some v->ks[i]?=some kk->(∀m∈ks,gt m kk=false)->(∀b o,s.heap.get? b=some o->h'.get? b=some o)->R (.ok (.ret v)) {s with heap:=h',toks:=tk'}) :
  ∀(r j i:Nat) (h:Heap) (tk:Nat) (vb:Value) (nb:κ) (c:Nat),vs.length-(j+1)=r->j+1<=vs.length->(∀b o,s.heap.get? b=some o->h.get? b=some o)->
   h.get? S=some (z83 "list" #[vb,vb] c)->h.IsListIter I l (j+1)->vs[i]?=some vb->ks[i]?=some nb->(∀m∈ks.take (j+1),gt m nb=false)->
   z7n (z5N prog w) A (.builtin "max.loop" ⟨[.ref I,.none,.ref S],kw⟩) R {s with heap:=h,toks:=tk}:=by
 have hname:(toString "max"++toString ".loop":String)="max.loop":=by decide
 have old:∀{b:Addr} {o:Obj},s.heap.get? b=some o->b≠I/\b≠S:=λ{b o} e=>⟨λz=>(by rw[z,hI] at e;cases e),λz=>(by rw[z,hS] at e;cases e)⟩
 have hlI:l≠I:=by obtain⟨o,ho,_⟩:=id hl;exact (old ho).1
 have W:=zaf (prog:=prog) (w:=w) (A:=A.in1) hh I l hlI vs.toArray
 have hsz:vs.toArray.size=vs.length:=z5W ..
 have lst:∀{h:Heap},(∀b o,s.heap.get? b=some o->h.get? b=some o)->h.IsList l vs.toArray:=λ{h} k=>by
  obtain⟨o,ho,hc⟩:=hl
  exact⟨o,k _ _ ho,hc⟩
 intro r
 induction r with
 |zero=>
  intro j i h tk vb nb c hr hj kp hSh hit hvb hnb hbest
  have hin:j+1=vs.length:=by omega
  refine z7Q z8G ?_
  rw[z7s z6z _]
  show z5K _ A.in1 (za1 (.ref S) >>= _) _ _ _
  refine z5z (z9w hSh rfl ?_)
  show z5K _ A.in1 (tryCatch (zaA (.ref I)) _ >>= _) _ _ _
  refine z5z (z84 (W.done _ _ _ ⟨by rw[hsz,←hin];exact hit,lst kp⟩ λh' tk' hk'=>?_))
  have kp':∀b o,s.heap.get? b=some o->h'.get? b=some o:=λb o e=>hk' b o (by simpa using (old e).1) (kp b o e)
  have hS':=hk' S _ (by simpa using hSI) hSh
  have s1:=z95 h' S (z7g λ_=>(#[]:Array Value))
  show z5K _ A.in1 (updateSeq S (λ_=>#[]) >>= _) _ _ _
  refine z5z ?_
  refine zaq hS' rfl (z5z (z9H (z5E ?_)))
  refine hR i vb nb _ _ hvb hnb ?_ λb o e=>(s1.2 b (old e).2).trans (kp' b o e)
  rw[hin,←hlen,za2] at hbest
  exact hbest
 |succ r ih=>
  intro j i h tk vb nb c hr hj kp hSh hit hvb hnb hbest
  have hlt:j+1<vs.length:=by omega
  refine z7Q z8G ?_
  rw[z7s z6z _]
  show z5K _ A.in1 (za1 (.ref S) >>= _) _ _ _
  refine z5z (z9w hSh rfl ?_)
  show z5K _ A.in1 (tryCatch (zaA (.ref I)) _ >>= _) _ _ _
  refine z5z (z84 (W.item (j+1) _ _ _ (by rw[hsz];exact hlt) ⟨hit,lst kp⟩ λv h' tk' hP hst' hk'=>?_))
  have hv:vs[j+1]?=some v:=by simpa using hP
  have kp':∀b o,s.heap.get? b=some o->h'.get? b=some o:=λb o e=>hk' b o (by simpa using (old e).1) (kp b o e)
  have hS':=hk' S _ (by simpa using hSI) hSh
  have hn:∃ns,ks[j+1]?=some ns:=⟨_,z6D (by omega)⟩
  obtain⟨ns,hns⟩:=hn
  have tk1:ks.take (j+1+1)=ks.take (j+1)++[ns]:=by rw[z7t,hns];rfl
  show z5K _ A.in1 (tryCatch (za9 [v,v] (zbX .Gt v vb >>= _)) _ >>= _) _ _ _
  refine z5z (z84 (z60 (z5z (hcmp _ (j+1) i v vb ns nb h' tk' _ hv hns hvb hnb kp' ?_))))
  refine z5z (z60 (z6h ?_))
  refine z5z (z9H (z5E ?_))
  cases hb':gt ns nb with
  |true=>
   have s1:=z95 h' S (z7g λ_=>#[v,v])
   obtain⟨c2,hc2⟩:∃c2,(h'.update S (z7g λ_=>#[v,v])).get? S=some (z83 "list" #[v,v] c2):=⟨_,zar hS' λ_=>#[v,v]⟩
   simp only[if_true]
   refine z5z ?_
   refine zaq hS' rfl (z5z (z9H ?_))
   rw[hname]
   obtain⟨oI',hoI',hoc,hod⟩:=id hst'.1
   refine z5E ⟨z8g z6z _,ih (j+1) (j+1) _ _ v ns c2 (by omega) hlt (λb o e=>(s1.2 b (old e).2).trans (kp' b o e)) hc2 ⟨oI',(s1.2 I hSI.symm).trans hoI',hoc,hod⟩ hv hns ?_⟩
   rw[tk1]
   intro ms hm
   rcases z5Q.mp hm with z|z
   ·exact key _ _ _ hb' (hbest ms z)
   ·rw[z5J.mp z];exact irr ns
  |false=>
   simp only[z8p,if_false]
   refine z5z (z9H ?_)
   rw[hname]
   refine z5E ⟨z8g z6z _,ih (j+1) i _ _ vb nb c (by omega) hlt kp' hS' hst'.1 hvb hnb ?_⟩
   rw[tk1]
   intro ms hm
   rcases z5Q.mp hm with z|z
   ·exact hbest ms z
   ·rw[z5J.mp z];exact hb'
theorem UM(a:Value):zdk "max" ⟨[a],[]⟩:=by unfold zdk;kernel_rfl
theorem YQ(a:Value):zdk "max" ⟨[a],[(z6W "default",.none)]⟩:=by unfold zdk;kernel_rfl
theorem Xu {ks:List κ} {gt:κ->κ->Bool} {kw:List (Str×Value)} (irr:∀a,gt a a=false) (key:∀a b c,gt a b=true->gt c b=false->gt c a=false) (hcmp:Ks prog w A s vs ks gt) (hkw:DfO kw) (hh:A.handled=none) (hl:s.heap.IsList l vs.toArray) (hlen:ks.length=vs.length) (hne:vs=[]->kw=[(z6W "default",.none)])
  (hE:vs=[]->∀h' tk',(∀b o,s.heap.get? b=some o->h'.get? b=some o)->Q .none {s with heap:=h',toks:=tk'})
  (hQ:∀(i:Nat) v kk h' tk',vs[i]?=some v->ks[i]?=some kk->(∀m∈ks,gt m kk=false)->(∀b o,s.heap.get? b=some o->h'.get? b=some o)->Q v {s with heap:=h',toks:=tk'}) :
  z5K (z5N prog w) A (call (.builtin "max") [.ref l] kw) Q E s:=by
 have hname:(toString "max"++toString ".loop":String)="max.loop":=by decide
 have hargs:zdk "max" ⟨[.ref l],kw⟩:=by rcases hkw with rfl|rfl;exact UM _;exact YQ _
 have hbp:∃df:Option Value,z9c "max" ["key","default"] 0 ⟨[],kw⟩=pure [none,df]/\df.toList.map (λd=>(("default":Str),d))=kw:=by
  rcases hkw with rfl|rfl
  ·exact⟨none,rfl,rfl⟩
  ·exact⟨some .none,rfl,rfl⟩
 obtain⟨df,hb1,hb2⟩:=hbp
 refine kmb_tree PySem.F.kind_max PySem.F.plain_max PySem.F.entry_max hargs ?_
 show z5K _ A.in1 (z9c "max" ["key","default"] 0 ⟨[],kw⟩ >>= _) _ _ s
 refine z5z (z7K hb1 ?_)
 refine z5z (z5E ?_)
 refine z5z (z7V hl ?_)
 refine z5z (zaY ?_ (z8r _))
 rw[hname]
 show z5K _ A.in1 (pure _) _ _ _
 rw[hb2]
 refine z5E ⟨z8g z6z _,?_⟩
 let oI:Obj:={cls:=.type "list_iterator",data:=.fields #[.ref l,.int 0 0]}
 let oS:Obj:=z83 "list" #[] 0
 have e1:(s.heap.push oI).objs.size=s.heap.objs.size+1:=z6K ..
 have up:∀b o,s.heap.get? b=some o->((s.heap.push oI).push oS).get? b=some o:=λb o e=>z5C _ (z5C _ e)
 have gI:((s.heap.push oI).push oS).get? s.heap.objs.size=some oI:=z5C _ (z5Y _ rfl)
 have gS:((s.heap.push oI).push oS).get? (s.heap.push oI).objs.size=some oS:=z5Y _ rfl
 have hI:s.heap.get? s.heap.objs.size=none:=z6d (z5H _)
 have hS:s.heap.get? (s.heap.push oI).objs.size=none:=z6d (by rw[e1];exact z7r _)
 have hSI:(s.heap.push oI).objs.size≠s.heap.objs.size:=by rw[e1];exact z7L (z6G _)
 have old:∀{b:Addr} {o:Obj},s.heap.get? b=some o->b≠s.heap.objs.size/\b≠(s.heap.push oI).objs.size:=λ{b o} e=>⟨λz=>(by rw[z,hI] at e;cases e),λz=>(by rw[z,hS] at e;cases e)⟩
 have hlI:l≠s.heap.objs.size:=by obtain⟨o,ho,_⟩:=id hl;exact (old ho).1
 have lst:∀{h:Heap},(∀b o,s.heap.get? b=some o->h.get? b=some o)->h.IsList l vs.toArray:=λ{h} k=>by
  obtain⟨o,ho,hc⟩:=hl
  exact⟨o,k _ _ ho,hc⟩
 have W:=zaf (prog:=prog) (w:=w) (A:=A.in1) hh s.heap.objs.size l hlI vs.toArray
 have hsz:vs.toArray.size=vs.length:=z5W ..
 refine z7Q z8G ?_
 rw[z7s z6z _]
 show z5K _ A.in1 (za1 (.ref _) >>= _) _ _ _
 refine z5z (z9w gS rfl ?_)
 show z5K _ A.in1 (tryCatch (zaA (.ref s.heap.objs.size)) _ >>= _) _ _ _
 by_cases hne0:vs=[]
 ·have hk:=hne hne0
  refine z5z (z84 (W.done _ _ _ ⟨by rw[hsz,hne0];exact⟨_,gI,rfl,rfl⟩,lst up⟩ λh' tk' hk'=>?_))
  have kp':∀b o,s.heap.get? b=some o->h'.get? b=some o:=λb o e=>hk' b o (by simpa using (old e).1) (up b o e)
  subst hk
  show z5K _ A.in1 (rule _ >>= _) _ _ _
  refine z5z (zad ?_)
  exact z5E (hE hne0 _ _ kp')
 have hne:0<vs.length:=by cases vs with|nil=>exact absurd rfl hne0|cons _ _=>simp
 refine z5z (z84 (W.item 0 _ _ _ (by rw[hsz];exact hne) ⟨⟨_,gI,rfl,rfl⟩,lst up⟩ λv h' tk' hP hst' hk'=>?_))
 have hv:vs[0]?=some v:=by simpa using hP
 have kp':∀b o,s.heap.get? b=some o->h'.get? b=some o:=λb o e=>hk' b o (by simpa using (old e).1) (up b o e)
 have hS':=hk' _ _ (by simpa using hSI) gS
 have hn:∃ns,ks[0]?=some ns:=⟨_,z6D (by omega)⟩
 obtain⟨ns,hns⟩:=hn
 have s1:=z95 h' (s.heap.push oI).objs.size (z7g λ_=>#[v,v])
 obtain⟨c2,hc2⟩:∃c2,(h'.update (s.heap.push oI).objs.size (z7g λ_=>#[v,v])).get? (s.heap.push oI).objs.size=some (z83 "list" #[v,v] c2):=⟨_,zar hS' λ_=>#[v,v]⟩
 refine z5z (z5E ?_)
 show z5K _ A.in1 (updateSeq _ _ >>= _) _ _ _
 refine z5z ?_
 refine zaq (s:={s with heap:=h',toks:=tk'}) (f:=λ_=>#[v,v]) (xs:=#[]) (n:=0) (o:=z83 "list" #[] 0) hS' rfl ?_ (z8r _) (by show 2<=sizeLine+1;decide)
 rw[hname]
 obtain⟨oI',hoI',hoc,hod⟩:=id hst'.1
 refine z5E ⟨z8g z6z _,Jy irr key hcmp hh hl hI hS hSI hlen (λi v ns h' tk' a b c d=>hQ i v ns h' tk' a b c d) _ 0 0 _ _ v ns c2 rfl (by omega) (λb o e=>(s1.2 b (old e).2).trans (kp' b o e)) hc2 ⟨oI',(s1.2 _ hSI.symm).trans hoI',hoc,hod⟩ hv hns ?_⟩
 rw[z7t,hns]
 intro ms hm
 have:ms=ns:=by simpa using hm
 rw[this];exact irr ns
end
theorem X3{prog:z6f}{w:z6w}{A:z6e}{s:z5D}{vs:List Value}{ns:List Int}(hi:z75 vs ns):Ks prog w A s vs ns (λa b=>decide (b<a)):=by
 intro E i j vi vj ki kj h' tk' Q h1 h2 h3 h4 kp q
 obtain⟨n,t,rfl,e1⟩:=IntsAre.at hi i vi h1
 obtain⟨m,u,rfl,e2⟩:=IntsAre.at hi j vj h3
 rw[h2] at e1;cases e1
 rw[h4] at e2;cases e2
 exact richCompare_gives (op:=.Gt) (zcr _ _ t) (zcr _ _ u) PySem.F.slot_int_gt PySem.F.entry_int_gt (PySem.F.args_int_gt_2 _ _) (gives_int_gt _ _ t u) (λx=>nomatch x) q
noncomputable abbrev z4F(xs:List T)(μ:Mem):RE T:=λK _=>∃ns,intsOf xs=some ns/\0<xs.length/\∀n∈ns,(∀m∈ns,m<=n)->K (.int n) μ
noncomputable abbrev Xm(t:T)(μ:Mem):RE T:=match t with
 |.lst xs=>z4F xs μ
 |.mut i=>λK Z=>∃xs,μ[i]?=some (.lst xs)/\z4F xs μ K Z
 |_=>.st
section
variable {X:Cx}{D:DP}{W:XW}{Γ:Cn}{k:Nat}{pins:List (Addr×Obj)}{s:Shared}{σ:St}{H:Hp}{φ α:List Addr}{τ:Sl}{μ:Mem}{f:De}
theorem JY {ad:Addr} {xs:List T} {ws:List V} {Q:VK} {kw:List (Str×Value)} {K0:T->Mem->Prop} (hc:X.calm=true) (I:Inv X pins σ H s) (mr:MRel D φ α H μ) (q:Rd H ad (.lst ws)) (l:DenL D φ α H xs ws) {ns:List Int} (hn:intsOf xs=some ns) (hkw:DfO kw) (hne:xs=[]->kw=[(z6W "default",.none)])
  (hE:xs=[]->K0 .non μ) (hK:∀n∈ns,(∀m∈ns,m<=n)->K0 (.int n) μ) (k1:∀t μ',K0 t μ'->∀α' H',Stp α H α' H'->MRel D φ α' H' μ'->RV D φ Q t μ' α' H') :
  z5K (z5N X.prog X.w) X.A (call (.builtin "max") [.ref ad] kw) (EP X pins σ Q) X.xe s:=by
 obtain⟨its,rv,pl,hz⟩:=I.list (.inl q)
 have ev:=qC hn l
 subst ev
 have hi:=intsAre_of rv
 have e1:=rv.length
 have e2:=l.length
 have nil:its=[]->xs=[]:=λz=>by
  rw[z] at e1
  exact List.length_eq_zero_iff.mp (by rw[e2,e1];rfl)
 refine Xu (ks:=ns) (gt:=λa b=>decide (b<a)) (λa=>decide_eq_false (by omega)) (λa b c h1 h2=>decide_eq_false (by have:=of_decide_eq_true h1;have:=of_decide_eq_false h2;omega)) (X3 hi) hkw (I.ok.hd hc) pl.isList (by rw[←e1,z5R]) (λz=>hne (nil z)) (λz h' tk' kp=>?_) λi v n h' tk' hv hn' hb kp=>?_
 ·exact⟨.non,H,I.kept kp,rfl,k1 _ _ (hE (nil z)) α H (Stp.refl _ _) mr _ rfl⟩
 ·obtain⟨n2,t,rfl,e3⟩:=IntsAre.at hi i v hv
  rw[hn'] at e3;cases e3
  exact⟨.int n,H,I.kept kp,⟨t,rfl⟩,k1 _ _ (hK n (z5T hn') λm hm=>by have:=of_decide_eq_false (hb m hm);omega) α H (Stp.refl _ _) mr _ rfl⟩
theorem z3b(hc:X.calm=true):B1 X D W (.builtin "max") Xm:=by
 intro pins s σ H φ α μ t v u Q I mr d r p
 unfold Xm at p
 split at p
 ·obtain⟨K0,Z0,⟨ns,hn,hne,hk⟩,k1,k2⟩:=p
  obtain⟨ad,xs,rfl,_,_,q,l⟩:=d
  cases r
  exact JY hc I mr q l hn (.inl rfl) (λz=>by rw[z] at hne;exact absurd hne (by simp)) (λz=>by rw[z] at hne;exact absurd hne (by simp)) hk k1
 ·obtain⟨K0,Z0,⟨xs,hj,ns,hn,hne,hk⟩,k1,k2⟩:=p
  obtain⟨ad,hi,rfl⟩:=d
  cases r
  obtain⟨ws,q,l⟩:=mr.ob _ ad _ hi hj
  exact JY hc I mr (.inl q) l hn (.inl rfl) (λz=>by rw[z] at hne;exact absurd hne (by simp)) (λz=>by rw[z] at hne;exact absurd hne (by simp)) hk k1
 ·exact p.elim
end
noncomputable def z0J:ER:=rB1 "max" Xm true
theorem Y7{D:DP}:EOk D z0J:=jv λC hx hg hc hs ha=>uq C hx hg (by decide +kernel) (by decide) hs (z3b (C.clm (hc rfl))) ha
end NH
namespace NH.P
open PySem L2 NH
@[reducible] noncomputable def uR:List Ds:=[(sIf (tOr (tE (zt .Is (eV 1) (eC .non))) (tE (zt .Lt (eV 1) (eIx (eV 0) (eC (.int 1)))))) [(zA (eC .non))] []),(zA (eB2 uD (eV 1) (zo .Sub (eIx (eV 0) (eC (.int 2))) (eC (.int 1)))))]
noncomputable def xu:Fn:=fnW 2 0 uR
@[reducible] noncomputable def qZ:List Ds:=[(sIf (tE (zt .Is (zm (eV 0) 18) (eC .non))) [(zA (zm (eV 0) 17))] []),(zA (eIx (zf vE [(zm (eV 0) 9),(zm (eV 0) 18)]) (eC (.int 0))))]
noncomputable def qd:Fn:=fnW 1 0 qZ
end NH.P
namespace NH
open PySem PySem.Spec PyProof.Rows L2
theorem V4{P:z6f}{w:z6w}{K:z5G}{mg mb:Str->Option Value}{CX:CXT}{k:Nat}{fa a:Addr}{Ps:List Addr}{fd:FuncData}{x:Str}{sp:Sp}{s₁:z5D}{vs:List Value}{ns:List Int}
  (KX:K.In s₁.heap) (hns:s₁.heap.Ns z5V mg) (hb:s₁.heap.Ns z8o mb) (hbb:∀x:Str,x≠"__name__"->mb x=z6U x) (hlim:s₁.heap.NoLimit) (hg:s₁.gens=#[])
  (hbm:∃bm ob,mg "__builtins__"=some (.ref bm)/\bm≠z8o/\s₁.heap.get? bm=some ob/\ob.cls=.type "module"/\ob.dict=some z8o/\ob.data=.plain)
  (hnl:WI K=true) (hPt:∀P0∈Ps,s₁.heap.get? P0=some (z7G #[])) (hKP:∀P0∈Ps,K.lookup P0=none/\P0≠zbA/\∃c,zbU K c P0=true)
  (ha:s₁.heap.get? a=some {cls:=.type "list",data:=.seq vs.toArray}) (hi:z75 vs ns) (hl:ns.length<=sizeLine) (hr:Room k zcf)
  (F:∀base:Heap,K.In base->base.Ns z5V mg->(∀P0∈Ps,base.BuiltinsAt mg P0)->FnOk P w K mg base CX k fa fd [x] sp) (hbind:∀(s:z5D) (u:Value),zbk s fd ⟨[u],[]⟩ [(x,u)])
  (hsp:∀H:Hp,Rd H a (.lst (ns.map V.int))->(∀P0∈Ps,H P0=some (.tbl #[]))->a∉Ps->sp [.ref a] H (λv _=>v=.bl true) λ_ _ _=>False)
  (hCX:∀H e s',CX [] H s₁ (λ_ _ _=>False) e s'->False) :
  z7n (z5N P w) zcf (.call (.ref fa) ⟨[.ref a],[]⟩) (λr s'=>r=.ok (.ret (.bool true))/\OldK s₁.heap s'.heap/\s'.os=s₁.os/\z9B s'.gens) s₁:=by
 have rv:=L2.vals_ints hi
 have lenV:=hi.length
 have naP:a∉Ps:=λz=>by have:=hPt a z;rw[this] at ha;cases ha
 have hKa:K.lookup a=none:=by
  cases q:K.lookup a with
  |none=>rfl
  |some o=>
   have e:=KX a o q
   rw[ha] at e;cases e
   exact absurd rfl (Ve hnl q)
 obtain⟨H,hH⟩:∃H:Hp,H=λb=>if b=a then some (.frz {cls:=.type "list",data:=.seq vs.toArray} (.lst (ns.map V.int))) else if b∈Ps then some (.tbl #[]) else none:=⟨_,rfl⟩
 have Ha:H a=some (.frz {cls:=.type "list",data:=.seq vs.toArray} (.lst (ns.map V.int))):=by rw[hH];simp
 have HP:∀P0∈Ps,H P0=some (.tbl #[]):=λP0 hP=>by
  rw[hH];exact (if_neg (λz:P0=a=>naP (z▸hP))).trans (if_pos hP)
 have Ho:∀b,b≠a->b∉Ps->H b=none:=λb h1 h2=>by
  rw[hH];exact (if_neg h1).trans (if_neg h2)
 have hok:HOk P w H s₁.heap:=λb u e=>by
  by_cases h1:b=a
  ·subst h1
   rw[Ha] at e;cases e
   exact⟨ha,by rw[z5R];exact hl,vs,_,rv,ha⟩
  ·by_cases h2:b∈Ps
   ·rw[HP b h2] at e;cases e
    exact hPt b h2
   ·rw[Ho b h1 h2] at e;cases e
 have un:∀{b:Addr} {o:Obj},s₁.heap.get? b=some o->o.cls≠.none->o.cls≠.type "list"->H b=none:=λ{b o} e n1 n2=>Ho b (λz=>by rw[z,ha] at e;cases e;exact n2 rfl) λz=>by rw[hPt b z] at e;cases e;exact n1 rfl
 have noA:∀{b:Addr} {o:Obj} {es:Array DictEntry} {ep:Nat},s₁.heap.get? b=some o->o.data=.dict es ep->H b=none:=λ{b o es ep} e d=>Ho b (λz=>by rw[z,ha] at e;cases e;cases d) λz=>by rw[hPt b z] at e;cases e;cases d
 have qO:∀{b:Addr} {o:Obj},s₁.heap.get? b=some o->H b=none->(ub s₁.heap H).get? b=some o:=λe n=>KJ e n
 have nsK:∀{b:Addr} {m:Str->Option Value},s₁.heap.Ns b m->(ub s₁.heap H).Ns b m:=λ{b m} ⟨o,es,ep,e,d,r⟩=>⟨o,es,ep,qO e (noA e d),d,r⟩
 have hKf:∀b o,K.lookup b=some o->H b=none:=λb o e=>Ho b (λz=>by rw[z,hKa] at e;cases e) λz=>by rw[(hKP b z).1] at e;cases e
 have hKb:K.In (ub s₁.heap H):=λb o e=>qO (KX b o e) (hKf b o e)
 have hM:Mod K mg (ub s₁.heap H):=⟨hKb,nsK hns,⟨mb,nsK hb,hbb⟩,let ⟨mc,h1,h2⟩:=hlim;⟨mc,nsK h1,h2⟩⟩
 have hB:∀P0∈Ps,(ub s₁.heap H).BuiltinsAt mg P0:=λP0 hP=>by
  obtain⟨bm,ob,b1,b2,b3,b4,b5,b6⟩:=hbm
  refine⟨bm,ob,b1,b2,λz=>?_,λz=>?_,qO b3 (un b3 (by rw[b4];exact λz=>by cases z) (by rw[b4];exact λz=>absurd (Value.type.inj z) (by decide))),b4,b5,b6⟩
  ·obtain⟨o,es,ep,e,d,_⟩:=hns
   rw[z,e] at b3;cases b3;rw[d] at b6;cases b6
  ·rw[z,hPt P0 hP] at b3;cases b3;cases b4
 have e0:Env0 P w K mg (ub s₁.heap H) zcf [] s₁ H:=⟨rfl,hM,λb o e=>U8 e,z98 (Jr _ _),trivial,λb hb=>absurd (show b∈([]:List Addr) from hb) (by simp),hok,.of_eq hg⟩
 refine z76 ((F _ hKb (nsK hns) hB).run zcf [] s₁ H ⟨[.ref a],[]⟩ [.ref a] [.ref a] _ _ hr e0 (hbind s₁ (.ref a)) (.cons rfl .nil) (hsp H (.inr ⟨_,Ha⟩) HP naP)) λr s' h=>?_
 cases r with
 |error e=>exact (hCX H e s' h).elim
 |ok fl=>
  cases fl with
  |next=>exact z69 h
  |brk=>exact z69 h
  |cont=>exact z69 h
  |ret u=>
   obtain⟨v,H',os,bare,un,hok',r',q⟩:=h
   have q':v=.bl true:=q
   subst q'
   obtain rfl:u=za7 true:=r'
   have kp:∀b o,H b=none->s₁.heap.get? b=some o->s'.heap.get? b=some o:=λb o n e=>un.keep b o e n (by intro z;exact absurd (show b∈([]:List Addr) from z) (by simp)) (by simp)
   have kpA:∀o,s₁.heap.get? a=some o->s'.heap.get? a=some o:=λo e=>by
    have z2:=un.frzs a _ _ Ha
    obtain⟨e2,_⟩:=hok' a _ z2
    rw[ha] at e;cases e
    exact e2
   refine⟨rfl,⟨λb o e=>?_,λb o e=>?_⟩,os,bare⟩
   ·by_cases h1:b∈Ps
    ·obtain⟨more,hm⟩:=un.tbls b _ (HP b h1)
     have hP':s'.heap.get? b=some (z7G (#[]++more)):=hok' b _ hm
     obtain⟨k1,k2,c,k3⟩:=hKP b h1
     have cd:=PySem.W.codeHd_of_K KX k3
     rw[hPt b h1] at e;cases e
     exact .inr (.inl ⟨(cd.tab (hPt b h1)).isCodeTable,rfl,#[],more,rfl,hP'⟩)
    ·by_cases h2:b=a
     ·subst h2;exact .inl (kpA o e)
     ·exact .inl (kp b o (Ho b h2 h1) e)
   ·by_cases h1:b∈Ps
    ·obtain⟨more,hm⟩:=un.tbls b _ (HP b h1)
     exact⟨_,hok' b _ hm⟩
    ·by_cases h2:b=a
     ·subst h2;exact⟨_,kpA o e⟩
     ·exact⟨_,kp b o (Ho b h2 h1) e⟩
noncomputable def Zx(Ps:List Addr):Sp:=λvs H Q _=>∃(a:Addr) (ns:List Int),vs=[.ref a]/\Rd H a (.lst (ns.map V.int))/\(∀P0∈Ps,H P0=some (.tbl #[]))/\a∉Ps/\ns.length<=63/\∀H',Q (.bl true) H'
noncomputable def Zw(f:Fn):Prop:=∀ns:List Int,ns.length<=63->f [.lst (ns.map T.int)] [.tab 0,.tab 1] (λt _=>t=.bl true) (λ_ _ _=>False)
theorem Xj{D:DP}{P:z6f}{w:z6w}{K:z5G}{mg:Str->Option Value}{base:Heap}{k:Nat}{fa P0 P1:Addr}{fd:FuncData}{x:Str}{f:Fn}{poss poss1:List Pos}{qn qn1:Str}(ht:Zw f)(hD:D.tabs 0=some (P0,poss,qn))(hD1:D.tabs 1=some (P1,poss1,qn1))(hne:P0≠P1)
  (F:FnOk P w K mg base (CX1 P w) k fa fd [x] (spN D 1 f)):FnOk P w K mg base (CX1 P w) k fa fd [x] (Zx [P0,P1]):=by
 refine F.imp ?_
 rintro vs H Q E ⟨a,ns,rfl,r,hP,hna,hn,q⟩
 refine⟨rfl,[],[P0,P1],[.lst (ns.map T.int)],[.tab 0,.tab 1],⟨.ref a,[],rfl,⟨a,_,rfl,by simp,by simpa using hna,r,uB ns⟩,rfl⟩,⟨rfl,by simpa using hne,by simp,by simp,λi a' o e1 e2=>?_⟩,_,_,ht ns hn,?_,?_⟩
 ·cases i with
  |succ i=>
   cases i with
   |succ i=>simp at e1
   |zero=>
    have e1:P1=a':=by simpa using e1
    have e2:MO.tab 1=o:=by simpa using e2
    subst e1;subst e2
    exact⟨poss1,qn1,#[],hD1,hP _ (by simp),trivial,λ_ _=>.inl rfl⟩
  |zero=>
   have e1:P0=a':=by simpa using e1
   have e2:MO.tab 0=o:=by simpa using e2
   subst e1;subst e2
   exact⟨poss,qn,#[],hD,hP _ (by simp),trivial,λ_ _=>.inl rfl⟩
 ·rintro t μ rfl α' H' st m v d
  have d:v=.bl true:=d
  rw[d]
  exact q H'
 ·exact λ_ _ _ z=>z.elim
theorem walkTs{l:zce}{q:z6f}{loose:List Str}{XP:(Str->Option Value)->Heap->Prop}{YP:z6w->Heap->Prop}{d:DefRec}{K:Params->z5G}{x:Str}{k:Nat}{Ps:List Addr}(hk:k<=90)(hn:l.most=some 63)(hdf:d.params.defaults=[])
  (hY:∀(w:z6w) (h:Heap),YP w h->(K w.params).In h) (hT:∀(w:z6w) (h:Heap),YP w h->∀P0∈Ps,h.get? P0=some (z7G #[]))
  (F:∀(w:z6w) (mg:Str->Option Value) (fa:Addr) (h:Heap),(K w.params).In h->h.Ns z5V mg->mg d.name=some (.ref fa)->
   (WI (K w.params)=true/\∀P0∈Ps,(K w.params).lookup P0=none/\P0≠zbA/\∃c,zbU (K w.params) c P0=true)/\∃fd:FuncData,(∀(s:z5D) (u:Value),zbk s fd ⟨[u],[]⟩ [(x,u)])/\∀base:Heap,(K w.params).In base->base.Ns z5V mg->(∀P0∈Ps,base.BuiltinsAt mg P0)->FnOk l.prog w (K w.params) mg base (CX1 l.prog w) k fa fd [x] (Zx Ps)) :
  PySem.W.WalkO q loose XP YP l.row.toRowW d [] (λf vs=>zdE f vs):=by
 refine Att.attach_call hn hdf λw s₀ s₁ mg mb fa o pm cd doc a vs ns G Y ho hd hcd hmg hobj hints hlen hg=>?_
 have KX:=hY w _ Y
 obtain⟨⟨f1,f2⟩,fd,hb,hF⟩:=F w mg fa _ KX G.T.g hmg
 exact V4 KX G.T.g G.T.b G.T.builtins G.T.nolimit hg G.T.bmain f1 (hT w _ Y) f2 hobj hints (z62 hlen (by decide)) (Room.mono (k:=90) ⟨rfl,by decide,by decide⟩ hk) hF hb (λH hr hP hne=>⟨a,ns,rfl,hr,hP,hne,hlen,λ_=>rfl⟩) λH e s' z=>by
  obtain⟨_,_,_,_,_,_,_,_,_,_,_,_,_,_,_,z⟩:=z
  exact z
noncomputable abbrev z0V(js:List (Nat×De))(n:Nat)(o f:De):De:=λτ μ=>(o τ μ).bind λt μ1=>(yC t n μ1).bind λw μ2 K Z=>∃p:Nat×(Nat×De)×List T,(js[p.1]?=some p.2.1/\w=Ws p.1 p.2.1.1 p.2.2)/\((f τ μ2).bind λx μ3=>p.2.1.2 (some x::p.2.2.map some) μ3) K Z
noncomputable abbrev K5(ds:List Ds):De:=λτ μ K Z=>qF ds τ μ (En.fn K Z)
noncomputable abbrev xX(jt j:Nat)(fs:List Nat):De:=λτ (μ:Mem) K _=>(∃i:Nat,μ[i]?=some (MO.tab jt))/\∃ts:List T,fs.map (Zd τ)=ts.map some/\K (Ws j jt ts) μ
noncomputable def jr:Str:=⟨#[38]⟩
section
variable {X:Cx}{D:DP}{W:XW}{Γ:Cn}{k:Nat}{pins:List (Addr×Obj)}{s:Shared}{σ:St}{H:Hp}{φ α:List Addr}{τ:Sl}{μ:Mem}{f g:De}{a b c:Expr}{pos:Pos}
theorem Y0{x:Str}{c:Addr}{o:Obj}{v:Option Value}(I:Inv X pins σ H s)(hx:X.env.cells.lookup x=some c)(hf:X.fn x=false)(hs:X.s₀.heap.objs.size<=c)(hn:H c=none)(ho:s.heap.get? c=some o)(hd:o.data=.cell v):Inv X pins σ (upd H c (.frz o (.ext λ_=>True))) s:=by
 have st:∀b u,H b=some u->upd H c (.frz o (.ext λ_=>True)) b=some u:=λb u q=>by rw[za (zS q hn)];exact q
 refine⟨I.ok,I.os,I.bare,⟨I.base.keep,I.base.slot,λb o' e n hx'=>?_,I.base.there,λb xs e=>st b _ (I.base.tups b xs e),λb o' u e=>st b _ (I.base.frzs b o' u e),λb ps e=>?_⟩,I.loc,I.cell,?_,λy c' e=>?_,λp hp=>?_,λb ob e=>?_,I.len⟩
 ·rw[za (z5Z (z5S (z5O e) hs))];exact I.base.free b o' e n hx'
 ·obtain⟨more,q⟩:=I.base.tbls b ps e
  exact⟨more,st b _ q⟩
 ·rw[za (z6k (I.cne x c hx))];exact I.free
 ·by_cases z:c'=c
  ·subst z
   rw[I.ok.inj _ _ _ e hx]
   exact .inr ⟨hf,o,_,zd⟩
  ·rw[za z];exact I.freeC y c' e
 ·obtain⟨e,n,ne,nf,d⟩:=I.pin p hp
  have:p.1≠c:=λz=>by rw[z,ho] at e;cases e;exact d _ hd
  exact⟨e,by rw[za this];exact n,ne,nf,d⟩
 ·by_cases z:b=c
  ·subst z
   rw[zd] at e;cases e
   exact⟨ho,trivial,⟨o,ho⟩,λ_ _ _ _=>trivial⟩
  ·rw[za z] at e
   exact (I.hok b ob e).stay (λ_ _ _ q=>q) (λb q=>st b _ q) λb xs q=>st b _ q
theorem QK(C:Ck D W Γ X k){ls:List LamD}(KM:KapMk D ls)(hl:Γ.lam.isSome=true):∀{fr:List Str} {fs:List Nat} {ts:List T} {H:Hp},(∀x∈fr,x∈Γ.fz/\x∈Γ.cel)->vo Γ.N fr=some fs->fs.map (Zd τ)=ts.map some->Inv X pins σ H s->SRel D φ α H τ σ->MRel D φ α H μ->
  ∃(H':Hp) (cs:List Addr),Inv X pins σ H' s/\vZ H H'/\fr.map (λx=>X.env.cells.lookup x)=cs.map some/\DenL D φ α H' (ts.map λt=>.clo 200 [t]) (cs.map V.ref)
 |[],fs,ts,H,_,h2,h3,I,sr,mr=>by
  cases h2
  cases ts with
  |nil=>exact⟨H,[],I,λ_ _ e=>e,rfl,rfl⟩
  |cons _ _=>cases h3
 |x::fr,fs,ts,H,h1,h2,h3,I,sr,mr=>by
  simp only[vo] at h2
  split at h2
  ·rename_i i is hi his
   cases h2
   cases ts with
   |nil=>cases h3
   |cons t ts=>
    have h3':=h3
    simp only[z6V,zc6] at h3'
    obtain⟨ht,hts⟩:=h3'
    obtain⟨hz,hc⟩:=h1 x z5_
    obtain⟨v,hv,d⟩:=sr.val i t (ZL.mp ht)
    obtain⟨hf,hsz⟩:=C.kfz hl x hz
    obtain⟨m,_,hlc⟩:=I.loc
    obtain⟨u,ru,lk⟩:=hlc i x v (by rw[C.hN];exact qN hi) hv (C.vis x (qt hi))
    have kd:=C.cel x hc
    rcases lk with⟨z,_⟩|⟨_,c,ec,o,ho,hd⟩
    ·rcases kd with q|q<;>(rw[z] at q;cases q)
    ·obtain⟨H1,ob,I1,sm,e1,n1,n2⟩:∃H1 ob,Inv X pins σ H1 s/\vZ H H1/\H1 c=some (.frz o ob)/\c∉φ/\c∉α:=by
      rcases I.freeC x c ec with q|⟨_,o',u',q⟩
      ·exact⟨_,_,Y0 I ec hf (hsz c ec) q ho hd,zj q,zd,zp mr q,zq mr q⟩
      ·have h0:s.heap.get? c=some o':=(I.hok c _ q).1
       rw[ho] at h0;cases h0
       refine⟨H,u',I,λ_ _ e=>e,q,λz=>?_,λz=>?_⟩
       ·obtain⟨w,e,n⟩:=mr.phi c z
        rw[q] at e;cases e;cases n
       ·obtain⟨i',hi'⟩:=z6C.mp z
        have hl':i'<μ.length:=by rw[←mr.len];exact (z5A.mp hi').1
        obtain⟨w,e,n⟩:=(mr.ob i' c μ[i'] hi' (by simp[hl'])).some
        rw[q] at e;cases e;cases n
     have st:=Stp.new (α:=α) sm
     obtain⟨H2,cs,I2,sm2,hcs,dl⟩:=QK C KM hl (fr:=fr) (fs:=is) (ts:=ts) (λy hy=>h1 y (z5M _ hy)) his hts I1 (sr.step st) (mr.new sm)
     refine⟨H2,c::cs,I2,λb o e=>sm2 b o (sm b o e),by simp[ec,hcs],⟨.ref c,cs.map V.ref,rfl,⟨c,some (.frz o ob),[v],rfl,KM.ce c o u v ob hd ru,λo' e=>?_,v,[],rfl,(d.step st).step (Stp.new sm2),rfl⟩,dl⟩⟩
     cases e
     exact⟨n1,n2,sm2 _ _ e1⟩
  ·cases h2
theorem XC{P:z6f}{w:z6w}{h:Heap}{q c:Addr}{l:LamD}{cl:List (Str×Addr)}(p:j_ q c l cl h):ObjOk P w H h q (.ext (j_ q c l cl)):=by
 obtain⟨pa,pm,ctv,doc,h2⟩:=id p
 refine⟨p,⟨_,h2⟩,λg1 g2 p kk'=>?_⟩
 obtain⟨pa,pm,ctv,doc,h2⟩:=p
 exact⟨pa,pm,ctv,doc,kk' _ h2⟩
theorem z1s{l:LamD}{pa:Pos}{pos:Pos}{line i:Nat}{c P:Addr}{Q:Value->z5D->Prop}(I:Inv X pins σ H s)(mr:MRel D φ α H μ)(hi:μ[i]?=some (.tab l.jt)){poss:List Pos}(hD:D.tabs l.jt=some (P,poss,l.qn))(hpp:pos∈poss)
  (hcode:X.env.code=.ref c) (hC:z7h X.base c P) (hB:X.base.BuiltinsAt X.mg P) {cl:List (Str×Addr)} (hcl:z9r l.sc X.env=pure cl)
  (h:∀q c' ctv doc H' s',Inv X ((q,{cls:=.type "function",data:=.func (XG l.nm l.qn ⟨[],[⟨l.y,none,pa⟩],none,[],[],none,[]⟩ l.fb l.sc cl doc ((X.mg "__name__").getD .none) (.ref c') ctv)})::pins) σ H' s'->Stp α H α H'->MRel D φ α H' μ->c'∉α->H' c'=some (.ext (qE c' l.qn))->(c'∉φ/\XOk X H' q/\∀p∈pins,p.1≠q)->Q (.ref q) s') :
  z5K (z5N X.prog X.w) X.A (zag l.nm l.qn ⟨[],[⟨l.y,none,pa⟩],none,[],[],none,[]⟩ l.fb l.sc X.env [] [] [] pos line) Q X.xe s:=by
 obtain⟨jt,qn,y,body,sc,fr,g,sb⟩:=l
 cases sb with
 |none=>exact Kt I mr hi hD hpp hcode hC hB hcl λq c' ctv H' s'=>h q c' ctv .none H' s'
 |some nb=>exact XJ I mr hi hD hpp hcode hC hB hcl λq c' ctv doc H' s'=>h q c' ctv doc H' s'
theorem ur(C:Ck D W Γ X k){l:LamD}{ls:List LamD}{pa pl:Pos}{j line i:Nat}{poss:List Pos}{fs:List Nat}{ts:List T}(hlm:Γ.lam=some (l.jt,poss))(hpp:pl∈poss)(hU:jr∈Γ.U)(hg:Γ.gl jr=.kap ls)(hj:ls[j]?=some l)(hfr:frees l.sc=l.fr)(hnd:l.fr.Nodup)(hfz:∀x∈l.fr,x∈Γ.fz/\x∈Γ.cel)(hfs:vo Γ.N l.fr=some fs)
  (I:Inv X pins σ H s) (sr:SRel D φ α H τ σ) (mr:MRel D φ α H μ) (hi:μ[i]?=some (.tab l.jt)) (hts:fs.map (Zd τ)=ts.map some):X.env.qual++Γ.lnm=l.qn/\
  z5K (z5N X.prog X.w) X.A (zag l.nm l.qn ⟨[],[⟨l.y,none,pa⟩],none,[],[],none,[]⟩ l.fb l.sc X.env [] [] [] pl line) (λv s'=>∃q H',v=.ref q/\Inv X pins σ H' s'/\Stp α H α H'/\MRel D φ α H' μ/\Den D φ α H' (Ws j l.jt ts) (.ref q)) X.xe s:=by
 obtain⟨hk,c,P,hcode,hC,hB,hD⟩:=C.lam _ poss hlm
 have gq:=(C.glU _ hU).1
 rw[hg] at gq
 have KM:=gq.2
 obtain⟨P',pos',hD'⟩:=KM.tb j l hj
 have hqn:X.env.qual++Γ.lnm=l.qn:=by
  have:=hD.symm.trans hD'
  simp only[z9G,Prod.mk.injEq] at this
  exact this.2.2
 refine⟨hqn,?_⟩
 rw[hqn] at hD
 obtain⟨H1,cs,I1,sm1,hcs,dl⟩:=QK C KM (by rw[hlm];rfl) hfz hfs hts I sr mr
 have hcel:∀x∈frees l.sc,∃c,X.env.cells.lookup x=some c:=λx hx=>I.ok.has x (C.cel x (hfz x (by rw[←hfr];exact hx)).2)
 obtain⟨cl,hcl,hc1,hc2⟩:=xG hcel
 have cat:VV l.fr cl cs:=by
  refine⟨?_,?_,λx a e=>by rw[←hfr];exact (hc1 x a e).2⟩
  ·rw[←hcs]
   refine z94 λx hx=>?_
   obtain⟨c,e⟩:=hc2 x (by rw[hfr];exact hx)
   rw[e,(hc1 x c e).1]
  ·have q:(cs.map some).Pairwise (·≠·):=by
    rw[←hcs,z9I]
    refine zd7 (λ{a b} ha hb hne e=>hne ?_) hnd
    obtain⟨c,e1⟩:=hcel a (by rw[hfr];exact ha)
    exact I.ok.inj a b c e1 (by rw[←e];exact e1)
   rw[z9I] at q
   exact q.imp λh e=>h (congrArg some e)
 refine z1s I1 (mr.new sm1) hi hD hpp hcode hC hB hcl λq c' ctv doc H2 s2 I2 st2 m2 hca hcc hx=>?_
 have ho:=(I2.pin _ (z5P _ z5_)).1
 have np:j_ q c' l cl s2.heap:=⟨pa,_,ctv,doc,ho⟩
 have I4:=jc (o:=.ext (j_ q c' l cl)) (Q_ I2) hx.2.1 hx.2.2 (XC np)
 have fr0:=hx.2.1.free
 have sm:vZ H2 (upd H2 q (.ext (j_ q c' l cl))):=zj fr0
 refine⟨q,_,rfl,I4,(Stp.new sm1).trans (st2.trans (Stp.new sm)),m2.new sm,?_⟩
 refine⟨q,_,_,rfl,KM.fn j l q c' cl cs hj cat,λo e=>?_,.ref c',cs.map V.ref,rfl,⟨c',_,[],rfl,KM.co _ _ _ _ c' hD,λo e=>?_,rfl⟩,(dl.step st2).step (Stp.new sm)⟩
 ·cases e
  exact⟨zp m2 fr0,zq m2 fr0,zd⟩
 ·cases e
  exact⟨hx.1,hca,sm _ _ hcc⟩
theorem US (C:Ck D W Γ X k) {l:LamD} {ls:List LamD} {pa pl:Pos} {j:Nat} {poss:List Pos} {fs:List Nat} (hsb:l.sb=none) (hnm:Γ.lnm="<lambda>") (hlm:Γ.lam=some (l.jt,poss)) (hpp:pl∈poss) (hU:jr∈Γ.U) (hg:Γ.gl jr=.kap ls) (hj:ls[j]?=some l) (hfr:frees l.sc=l.fr) (hnd:l.fr.Nodup) (hfz:∀x∈l.fr,x∈Γ.fz/\x∈Γ.cel) (hfs:vo Γ.N l.fr=some fs) :
  PE X (.Lambda ⟨[],[⟨l.y,none,pa⟩],none,[],[],none,[]⟩ l.body l.sc pl) (rdE D W (xX l.jt j fs)):=by
 rintro pins s σ H Q I ⟨φ,α,τ,μ,sr,mr,K0,Z0,⟨⟨i,hi⟩,ts,hts,q0⟩,k1,k2⟩
 obtain⟨hqn,core⟩:=ur (pa:=pa) (line:=pl.line) C hlm hpp hU hg hj hfr hnd hfz hfs I sr mr hi hts
 have e1:l.nm="<lambda>":=by unfold LamD.nm;rw[hsb]
 have e2:l.fb=.expr l.body:=by unfold LamD.fb;rw[hsb]
 rw[e1,e2,←hqn,hnm] at core
 refine PySem.W.kla_eval rfl (thn core ?_)
 rintro v s' ⟨q,H',rfl,I',st,m,d⟩
 exact⟨.ref q,H',I',rfl,k1 _ _ q0 α _ st m _ d⟩
theorem YZ(C:Sk D W Γ X k){l:LamD}{ls:List LamD}{pa pl:Pos}{j ix:Nat}{nm:Str}{body:List Stmt}{poss:List Pos}{fs:List Nat}(hsb:l.sb=some (nm,body))(hnm:Γ.lnm=nm)(hix:idx Γ.N nm=some ix)(hce:Γ.cel.contains nm=false)(hlm:Γ.lam=some (l.jt,poss))(hpp:pl∈poss)(hU:jr∈Γ.U)(hg:Γ.gl jr=.kap ls)(hj:ls[j]?=some l)(hfr:frees l.sc=l.fr)(hnd:l.fr.Nodup)(hfz:∀x∈l.fr,x∈Γ.fz/\x∈Γ.cel)(hfs:vo Γ.N l.fr=some fs) :
  PS X (.FunctionDef nm ⟨[],[⟨l.y,none,pa⟩],none,[],[],none,[]⟩ body [] none [] l.sc none nm pl) (rdS D W (zx ix (xX l.jt j fs))):=by
 rintro pins s σ H E I ⟨φ,α,τ,μ,sr,mr,p⟩
 obtain⟨K0,Z0,⟨⟨i,hi⟩,ts,hts,q0⟩,k1,k2⟩:=PostS.out sr p
 obtain⟨hqn,core⟩:=ur (pa:=pa) (line:=pl.line) C.toCk hlm hpp hU hg hj hfr hnd hfz hfs I sr mr hi hts
 have e1:l.nm=nm:=by unfold LamD.nm;rw[hsb]
 have e2:l.fb=.stmts body:=by unfold LamD.fb;rw[hsb]
 have hloc:X.env.scope.names.lookup nm=some .local:=C.lcl nm (qt hix) hce
 have e3:qualnameIn X.env nm nm=l.qn:=by
  unfold qualnameIn zcB
  rw[hloc,if_neg (by decide),←hqn,hnm]
 rw[e1,e2,←e3] at core
 rw[exec_def]
 refine z5z (z6p (z5z (z60 ?_)))
 refine z5z (z5E (z5z (z60 (z5E (z60 (z5z (z5E (thn core ?_))))))))
 rintro v s' ⟨q,H',rfl,I',st,m,d⟩
 refine z5z (z6p (z5z (wpAny_bindName (jD (X:=X) (i:=ix) (v:=.ref q) I' (by rw[C.hN];exact C.nd) (by rw[C.hN];exact qN hix) (.inl hloc) rfl (λs5 I5=>z5E ?_) (.inr hloc)))))
 have pp:=k1 _ _ q0 α _ st m
 exact⟨_,_,I5,PostS.nx pp (Stp.refl _ _) m ((sr.step st).set d)⟩
end
section
variable {D:DP}{φ α:List Addr}{H:Hp}
structure CellK(H:Hp)(c:Addr)(x:V):Prop where
 ex:∃(o:Obj) (ob:HO) (u:Value),H c=some (.frz o ob)/\o.data=.cell (some u)/\RelV x u
noncomputable def z0l(D:DP):Prop:=∀c ob xs,D.clo 200 c ob xs->∃(x:V) (u:Value) (o:Obj) (u':HO),xs=[x]/\RelV x u/\Obj.data o=.cell (some u)/\ob=some (HO.frz o u')
theorem uZ(hinv:z0l D):∀{ts:List T} {cs:List Addr},DenL D φ α H (ts.map λt=>.clo 200 [t]) (cs.map V.ref)->∃vs:List V,DenL D φ α H ts vs/\vs.length=cs.length/\∀(i:Nat) (c:Addr),cs[i]?=some c->∃x,vs[i]?=some x/\CellK H c x
 |[],[],_=>⟨[],rfl,rfl,λi c e=>by simp at e⟩
 |[],_::_,h=>by cases (show _=[] from h)
 |t::ts,[],h=>by obtain⟨_,_,e,_⟩:=h;cases e
 |t::ts,c::cs,h=>by
  obtain⟨v,r,e,⟨a,ob,xs,e2,hc,hob,dl⟩,h2⟩:=h
  cases e
  cases e2
  obtain⟨vs,h3,h4,h5⟩:=uZ hinv h2
  obtain⟨x,u,o,u',rfl,r,hd,rfl⟩:=hinv _ _ _ hc
  obtain⟨x',r',e3,d,e4⟩:=dl
  cases e3
  refine⟨x::vs,⟨x,vs,rfl,d,h3⟩,by simp[h4],λi c' e=>?_⟩
  cases i with
  |zero=>cases e;exact⟨x,rfl,⟨o,u',u,(hob _ rfl).2.2,hd,r⟩⟩
  |succ i=>exact h5 i c' (by simpa using e)
theorem Z9{fr:List Str}{cl:List (Str×Addr)}{cs:List Addr}(h:VV fr cl cs){x:Str}{c:Addr}(e:cl.lookup x=some c):∃i:Nat,fr[i]?=some x/\cs[i]?=some c:=by
 obtain⟨i,hi⟩:=z6C.mp (h.2.2 x c e)
 refine⟨i,hi,?_⟩
 have:=congrArg (λl=>l[i]?) h.1
 simp only[z67,hi,zap,e] at this
 cases q:cs[i]? with
 |none=>rw[q] at this;cases this
 |some c'=>rw[q] at this;cases this;rfl
theorem VJ{fr:List Str}{cl:List (Str×Addr)}{cs:List Addr}(h:VV fr cl cs){x:Str}{i:Nat}(e:fr[i]?=some x):∃c,cl.lookup x=some c/\cs[i]?=some c:=by
 have:=congrArg (λl=>l[i]?) h.1
 simp only[z67,e,zap] at this
 cases q:cs[i]? with
 |none=>rw[q] at this;cases this
 |some c'=>rw[q] at this;exact⟨c',by simpa using this,rfl⟩
noncomputable def Vy(Γ:Cn)(l:LamD):Bool:=
 (l.sc.kind == .function)&&!l.sc.isCoroutine&&!l.sc.isGenerator&&l.sc.names.all (λp=>p.2 != .cell)&&(frees l.sc == l.fr)&&decide ((l.y::l.fr).Nodup)&&(l.sc.names.lookup l.y == some .local)&&l.fr.all (λx=>l.sc.names.lookup x == some .free)&&
 (l.y::l.fr).all (λx=>x != ("__debug__":Str)&&x != ("__classdict__":Str))&&Γ.G.all (λx=>Γ.U.contains x&&l.sc.names.lookup x == some .globalImplicit)
noncomputable def kH(Γ:Cn)(l:LamD)(G:List Str):Cn:={Γ with N:=l.y::l.fr,G:=G,cel:=l.fr,own:=[],lam:=none,fz:=l.fr,calm:=true}
noncomputable def z1q (R:Rules)(n:Nat)(Γ:Cn)(l:LamD):Prop:=(l.sb=none/\(comp R n).e Γ l.body=some l.g)\/∃q ds,l.sb=some q/\zu ((comp R n).s Γ) q.2=some ds/\l.g=K5 ds
theorem KQ{R:Rules}{P:z6f}{w:z6w}{K:z5G}{mg:Str->Option Value}{base:Heap}{Γ:Cn}{G:List Str}(HR:RulesOk D R){n k0:Nat}{l:LamD}(M:MdOk D P w K mg base Γ k0)(hsc:Vy (kH Γ l G) l=true)(hE:z1q R n (kH Γ l G) l)
  {A:z6e} {outer:List Env} {s:z5D} {a c:Addr} {cl:List (Str×Addr)} {cs:List Addr} (hr:Room (k0+1) A) (e0:Env0 P w K mg base A outer s H) (ho:j_ a c l cl s.heap) (hrec:s.heap.CodeRec (.ref c) l.qn) (cat:VV l.fr cl cs)
  {ts:List T} {vs:List V} (dts:DenL D φ α H ts vs) (hvl:vs.length=cs.length) (hcv:∀(i:Nat) (c:Addr),cs[i]?=some c->∃x,vs[i]?=some x/\CellK H c x)
  {u:Value} {x:V} {Q:VK} {t:T} {μ:Mem} {K0:T->Mem->Prop} {Z0:Xp} {E:XK} (r:RelV x u) (d:Den D φ α H t x) (mr:MRel D φ α H μ) (p:l.g (some t::ts.map some) μ K0 Z0) (hK0:∀t' μ',K0 t' μ'->∀α' H' v',Stp α H α' H'->MRel D φ α' H' μ'->Den D φ α' H' t' v'->Q v' H') (hZ0:∀c fs μ',Z0 c fs μ'->∀α' H' cv d,Stp α H α' H'->MRel D φ α' H' μ'->XCv D c fs cv->XDict D φ α' H' fs d->E cv d H') :
  z7n (z5N P w) A (.call (.ref a) ⟨[u],[]⟩) (CR (CX1 P w) outer P w H s Q E) s:=by
 obtain⟨pa,pm,ctv,doc,ho⟩:=ho
 simp only[Vy,z5B,z6i,beq_iff_eq,z70,decide_eq_true_eq,bne_iff_ne,ne_eq] at hsc
 obtain⟨⟨⟨⟨⟨⟨⟨⟨⟨h1,h2⟩,h3⟩,h4⟩,h5⟩,h6⟩,h7⟩,h8⟩,h9⟩,h10⟩:=hsc
 have lim:s.heap.NoLimit:=e0.mod.nolimit.keeps λb o e=>(e0.bs b o e).1
 have hfl:l.fr.length=cs.length:=by have:=congrArg zbW cat.1;simpa using this
 have cellK:∀z c',cl.lookup z=some c'->∃(i:Nat) (v:V),l.fr[i]?=some z/\vs[i]?=some v/\CellK H c' v:=λz c' e=>by
  obtain⟨i,e1,e2⟩:=Z9 cat e
  obtain⟨v,e3,e4⟩:=hcv i c' e2
  exact⟨i,v,e1,e3,e4⟩
 let env:Env:=newEnv l.sc s.heap.objs.size z5V cl (l.qn++".<locals>.") (some a) (.ref c) none z8o
 let Y:Cx:={prog:=P,w:=w,K:=K,mg:=mg,base:=base,A:=A.deeper env,N:=l.y::l.fr,s₀:=s,H₀:=H,env:=env,outer:=outer,stack:=env::outer,ex:=[],fn:=λ_=>false,calm:=true,pn:=[],xe:=λ_ _=>False}
 have go:∀(cd:Env->Code) {R:zcm->z5D->Prop},(∀hh,Inv Y [] (some x::vs.map some) H {s with heap:=hh,toks:=s.toks+[(l.y,u)].length}->z7n (z5N P w) A (cd env) R {s with heap:=hh,toks:=s.toks+[(l.y,u)].length})->
   z5K (z5N P w) A.in1 (z9j (XG l.nm l.qn ⟨[],[⟨l.y,none,pa⟩],none,[],[],none,[]⟩ l.fb l.sc cl doc pm (.ref c) ctv) ⟨[u],[]⟩) (λbinds s₁=>z5K (z5N P w) A.in1 (newFunctionEnv l.sc z5V cl binds (l.qn++".<locals>.") (some a) (.ref c) none z8o) (λenv s₂=>s₂.heap.NoLimit/\z7n (z5N P w) A (cd env) R s₂) (λe s'=>R (.error e) s') s₁) (λe s'=>R (.error e) s') s:=λcd R kk=>by
  refine z7K (bind1 rfl rfl) (zaG h4 (λz hz=>?_) (λhh hns hsb=>?_) h1)
  ·rw[z5J.mp hz];exact h7
  have old:∀b o,s.heap.get? b=some o->hh.get? b=some o:=λb o e=>hsb.extBut b o (z5Z (z5O e)) (z5C _ e)
  refine⟨lim.keeps old,kk hh ?_⟩
  refine⟨⟨e0.mod,h1,rfl,rfl,z5H _,λy z c' q1 q2=>?_,λy hy=>?_,λy c' z=>(by cases z),λ_=>hr.hd,z8U e0.frames,.inr ⟨rfl,rfl⟩,λb z=>absurd z (by simp[Y]),e0.bs,e0.bsz,λb _ _=>(by simp[Y]),λb z=>absurd z (by simp[Y]),e0.funs,e0.frf⟩,
   rfl,e0.bare,Un.kept old,⟨_,hns,λi y v q1 q2 q3=>?_⟩,λy c' q=>?_,e0.hok.fresh (z5H _),λy c' q=>?_,λp hp=>absurd hp (by simp[Y]),e0.hok.kept old,by simp[Y,hvl,hfl]⟩
  ·obtain⟨i1,a1,a2⟩:=Z9 cat q1
   obtain⟨i2,b1,b2⟩:=Z9 cat q2
   have:i1=i2:=by
    obtain⟨l1,g1⟩:=z5A.mp a2
    obtain⟨l2,g2⟩:=z5A.mp b2
    exact (z8M cat.2.1).mp (g1.trans g2.symm)
   rw[this,b1] at a1;exact (z5F a1).symm
  ·rcases hy with hy|hy
   ·exact absurd rfl (h4 _ (z6u hy))
   ·obtain⟨i,hi⟩:=z6C.mp (show y∈l.fr by rw[←h5];exact wY.mpr ⟨_,z6u hy,rfl,rfl⟩)
    obtain⟨c',e,_⟩:=VJ cat hi
    exact⟨c',e⟩
  ·cases i with
   |zero=>
    cases q1
    cases q2
    exact⟨u,r,.inl ⟨h7,by simp[z6O]⟩⟩
   |succ i=>
    have q1:l.fr[i]?=some y:=q1
    obtain⟨c',e1,e2⟩:=VJ cat q1
    obtain⟨v',e3,⟨o,ob,u',k1,k2,k3⟩⟩:=hcv i c' e2
    have q2:(vs.map some)[i]?=some (some v):=q2
    rw[z67,e3] at q2
    cases q2
    exact⟨u',k3,.inr ⟨.inr (h8 y (z5T q1)),c',e1,o,old _ _ (e0.hok c' _ k1).1,k2⟩⟩
  ·obtain⟨i,v,_,_,⟨o,ob,u',k1,k2,k3⟩⟩:=cellK y c' q
   exact⟨some u',o,old _ _ (e0.hok c' _ k1).1,k2⟩
  ·obtain⟨i,v,_,_,⟨o,ob,u',k1,k2,k3⟩⟩:=cellK y c' q
   exact .inr ⟨rfl,o,ob,k1⟩
 have F:Frm Y env outer s.heap.objs.size:=⟨rfl,rfl,rfl⟩
 have hr':Room k0 Y.A:=hr.deeper env
 have kd:∀z∈l.y::l.fr,Vis l.sc z:=λz hz=>(z65.mp hz).elim (λq=>.inl (by rw[q];exact h7)) λq=>.inr (.inr (h8 z q))
 have hyf:l.y∉l.fr:=by have:=h6;rw[z8m] at this;exact this.1
 have sto0:Sto (Y.wish (XP Y (wOf E))) (kH Γ l G).sto:=λz hz=>by
  obtain⟨z1,z2⟩:=z6m.mp hz
  have e:z=l.y:=(z65.mp z1).resolve_right λq=>by
   have:(!l.fr.contains z)=true:=z2
   rw[z6a.mpr q] at this;cases this
  rw[e];exact⟨.inl h7,.inr h7⟩
 have lcl0:∀z∈l.y::l.fr,l.fr.contains z=false->l.sc.names.lookup z=some .local:=λz hz hc=>by
  have e:z=l.y:=(z65.mp hz).resolve_right λq=>by
   rw[z6a.mpr q] at hc;cases hc
  rw[e];exact h7
 have C2:Sk D (wOf E) (kH Γ l G) (Y.wish (XP Y (wOf E))) k0:={hK:=M.hK,hN:=rfl,nd:=h6,vis:=kd,dbg:=λz hz=>⟨beq_eq_false_iff_ne.mpr (h9 z hz).1,beq_eq_false_iff_ne.mpr (h9 z hz).2⟩,dbG:=λz hz=>(M.glo z (z6a.mp (h10 z hz).1)).2,glb:=λz hz=>(h10 z hz).2,glo:=λz hz=>(M.glo z (z6a.mp (h10 z hz).1)).1,glU:=M.glo,cel:=λz hz=>.inr (h8 z hz),isi:=M.isi,fld:=M.fld,xcx:=M.xcx,ocx:=M.ocx,clv:=M.clv,clm:=λ_=>rfl,rom:=λ_=>hr',rmh:=⟨hr'.dp,hr'.un⟩,xe:=λe s p=>vU p,frm:=⟨_,_,_,F.stk,F.f0,F.fe⟩,lam:=LamOk.no rfl,kfz:=(λh=>by cases h),sto:=sto0,lcl:=lcl0,pso:=λe s p=>km F (vQ p) e s p,xmt:=M.xmt}
 have sr:SRel D φ α H (some t::ts.map some) (some x::vs.map some):=by
  refine⟨by simp[dts.length],λi t' e=>?_⟩
  cases i with
  |zero=>cases e;exact⟨x,rfl,d⟩
  |succ i=>
   have e:(ts.map some)[i]?=some (some t'):=e
   rw[z67] at e
   cases q:ts[i]? with
   |none=>rw[q] at e;cases e
   |some t2=>
    rw[q] at e;cases e
    obtain⟨v,hv,dv⟩:=dts.get q
    exact⟨v,by show (vs.map some)[i]?=_;rw[z67,hv];rfl,dv⟩
 have leave:∀e s',XP Y (wOf E) e s'->z5K (z5N P w) (A.deeper env) (zdd env e) (λ_ s''=>CR (CX1 P w) outer P w H s Q E (.error e) s'') (λe' s''=>CR (CX1 P w) outer P w H s Q E (.error e') s'') s':=λe s' p=>Qu (M:=z5N P w) (F2:=λe' s''=>CX1 Y.prog Y.w Y.outer Y.H₀ Y.s₀ E e' s'') F (vQ p) rfl p
 rcases hE with⟨hs0,hE⟩|⟨q,ds,hs0,hds,hgq⟩
 ·refine PySem.W.kla_callFunE hr.depth ho rfl h2 h3 (show l.fb=.expr l.body by unfold LamD.fb;rw[hs0]) hrec (go (λenv=>.expr l.body env) λhh I=>?_)
  have B:=(qK HR n).e C2.toCk hE [] _ _ H Q (I.wish _) ⟨φ,α,_,μ,sr,mr,_,_,p,λa μ' e α' H' st m v' dv=>hK0 a μ' e α' H' v' st m dv,λc fs μ' z α' H' cv dd st m ad xd=>hZ0 c fs μ' z α' H' cv dd st m ad xd⟩
  refine PySem.W.kla_codeExpr (z6j B (λv s' hs=>?_) leave)
  obtain⟨v',H',J,rv,q'⟩:=hs
  exact⟨v',H',J.os,J.bare,J.base,J.hok,rv,q'⟩
 ·rw[hgq] at p
  refine z8J hr.depth ho rfl h2 h3 (show l.fb=.stmts q.2 by unfold LamD.fb;rw[hs0]) hrec (go (λenv=>.func q.2 env) λhh I=>?_)
  have B:=wd (qM (qK HR n) C2 hds) [] _ _ H {nx:=λ_ H'=>Q .non H',rt:=Q} (I.wish _) ⟨φ,α,_,μ,sr,mr,_,p,λ_ μ1 z α' H' σ' st m _=>hK0 _ _ z α' H' .non st m rfl,λ_ _ z=>z.elim,λ_ _ z=>z.elim,λt μ1 z α' H' v st m dv=>hK0 _ _ z α' H' v st m dv,λc fs _ μ1 z α' H' σ' cv dd st m _ ad xd=>hZ0 c fs μ1 z α' H' cv dd st m ad xd⟩
  refine zbm (z6j B (λfl s' hs=>?_) leave)
  cases fl with
  |ret u=>obtain⟨v',σ',H',J,rv,q'⟩:=hs;exact⟨v',H',J.os,J.bare,J.base,J.hok,rv,q'⟩
  |next=>obtain⟨σ',H',J,q'⟩:=hs;exact⟨.non,H',J.os,J.bare,J.base,J.hok,rfl,q'⟩
  |brk=>obtain⟨_,_,_,q'⟩:=hs;exact q'.elim
  |cont=>obtain⟨_,_,_,q'⟩:=hs;exact q'.elim
end
section
variable {X:Cx}{D:DP}{W:XW}{Γ:Cn}{k:Nat}{pins:List (Addr×Obj)}{s:Shared}{σ:St}{H:Hp}{φ α:List Addr}{τ:Sl}{μ:Mem}{f g:De}{a b c:Expr}{pos:Pos}
theorem z1h(C:Ck D W Γ X k){m:Str}{n:Nat}{o:Expr}{go:De}{apos:Pos}{ls:List LamD}(hU:jr∈Γ.U)(hg:Γ.gl jr=.kap ls)(hn:(m,n)∈Γ.fld)(hc:Γ.calm=true)(hp:qb o=true)(hline:(apos.endLine == pos.line)=true)(hst:noStar a=true)(ho:PE X o (rdE D W go))(ha:PE X a (rdE D W f)) :
  PE X (.Call (.Attribute o m apos) [a] [] pos) (rdE D W (z0V (ls.map λl=>(l.jt,l.g)) n go f)):=by
 have gq:=(C.glU _ hU).1
 rw[hg] at gq
 rintro pins s σ H Q I ⟨φ,α,τ,μ,sr,mr,p⟩
 rw[z9O,qO hp]
 refine z5z (thn (sub ho I sr mr p) ?_)
 rintro u s1 ⟨v,H1,t,μ1,α1,I1,r1,st1,sr1,mr1,d1,p1⟩
 refine z5z (z6p ?_)
 have hform:zaI ([a].length+([]:List z9a).length) (z7u pos (z6o [a] X.env)) (z8V pos (z7J [] X.env))=true:=Wa (by simp[hst]) (by show (1:Nat)<30;decide)
 have hpos:z7x true o X.env apos pos=pure pos:=by unfold z7x;simp[hline]
 have run:∀{ad0 C0 dx:Addr} {gs:List (Str×V)} {z:V} {t0:T},H1 ad0=some (.ins C0 dx gs)->Cls X.K C0->NoAttr X.K C0 m->gs.lookup m=some z->u=.ref ad0->Den D φ α1 H1 t0 z->Post D W φ α1 H1 σ (RV D φ Q) (λK Z=>∃p:Nat×(Nat×De)×List T,((ls.map λl=>(l.jt,l.g))[p.1]?=some p.2.1/\t0=Ws p.1 p.2.1.1 p.2.2)/\((f τ μ1).bind λx μ3=>p.2.1.2 (some x::p.2.2.map some) μ3) K Z)->
   z5K (z5N X.prog X.w) X.A (z8Q o m apos pos X.env u ([a].length+([]:List z9a).length) (z7u pos (z6o [a] X.env)) (z8V pos (z7J [] X.env))) (EP X pins σ Q) X.xe s1:=λ{ad0 C0 dx gs z t0} e1 cl na lk hu dz p=>by
  subst hu
  obtain⟨⟨j,⟨jt,gg⟩,ts⟩,⟨hj,rfl⟩,p2⟩:=p.ex1
  rw[z67] at hj
  obtain⟨l,hl,e⟩:=z8F.mp hj
  cases e
  obtain⟨fa,kk,rfl,hkk,hF⟩:=gq.1 j l ts φ α1 H1 z hl dz
  unfold z8Q
  rw[hform]
  refine z5z (z60 (QX I1 e1 cl na lk λu' s1' I1' r'=>?_))
  cases (show u'=z61 fa from r')
  refine z5z (z7K hpos ?_)
  refine PySem.W.callWith_F (first:=[]) (hF X.A X.stack s1' I1'.env0).1 (thn (zN ha qx (z8 hst) pos pins s1' σ H1 (λvs H2=>∃v t μ2 α2,vs=[v]/\Stp α1 H1 α2 H2/\MRel D φ α2 H2 μ2/\Den D φ α2 H2 t v/\Post D W φ α2 H2 σ (RV D φ Q) (l.g (some t::ts.map some) μ2)) I1' ⟨φ,α1,τ,μ1,sr1,mr1,p2.bind.mono λt μ' α' H' st m q v d=>⟨v,t,μ',α',rfl,st,m,d,q⟩⟩) ?_) (z8 hst) rfl
  rintro us s2 ⟨vs,H2,I2,rv,v2,t2,μ2,α2,rfl,st2,m2,d2,K0,Z0,q6,k1,k2⟩
  obtain⟨ux,rfl,rx⟩:=vals1 rv
  obtain⟨fa',kk',e',hkk',hF'⟩:=gq.1 j l ts φ α2 H2 _ hl (dz.step st2)
  cases e'
  have hE:=hF' X.A X.stack s2 I2.env0
  refine⟨hE.1,z73 (z76 (hE.2 ((C.rom hc).mono hkk') ux v2 Q t2 μ2 K0 Z0 (λcv d H'=>W cv d σ H') rx d2 m2 q6 (λt' μ' z α' H' v' st m dv=>k1 t' μ' z α' H' st m v' dv) (λc fs μ' z α' H' cv d st m ad xd=>k2 c fs μ' z α' H' cv d st m ad xd)) λr s' hq=>?_)⟩
  cases r with
  |error e=>exact C.xe _ _ (vP I2 hq λcls d H' q=>q)
  |ok fl=>
   cases fl with
   |ret u=>exact I2.after hq
   |next=>exact z69 hq
   |brk=>exact z69 hq
   |cont=>exact z69 hq
 unfold yC at p1
 split at p1
 ·split at p1
  ·rename_i c fs _ w hw
   obtain⟨ad,C0,dx,gs,rfl,_,_,e1,e2,l⟩:=d1
   obtain⟨y,z,hy,hz,dz⟩:=l.look hw
   obtain⟨c0,c1,c2⟩:=C.fld c C0 m n e1 hn
   rw[hy] at c0;cases c0
   exact run e2 c1 c2 hz r1 dz p1
  ·exact Post.elim p1
 ·obtain⟨c,fs,w,hi,hw,q⟩:=Post.ex3 p1
  obtain⟨ad,hi',rfl⟩:=d1
  obtain⟨C0,dx,gs,e1,e2,l⟩:=mr1.ob _ ad _ hi' hi
  obtain⟨y,z,hy,hz,dz⟩:=l.look hw
  obtain⟨c0,c1,c2⟩:=C.fld c C0 m n e1 hn
  rw[hy] at c0;cases c0
  exact run e2 c1 c2 hz r1 dz q
 ·exact Post.elim p1
end
noncomputable def z2B (ls:List LamD)(tbs:List (Addr×List Pos×Str)):Nat->Addr->Option HO->List V->Prop:=λn a ob xs=>
 (∃(j:Nat) (l:LamD) (c:Addr) (cl:List (Str×Addr)) (cs:List Addr),ls[j]?=some l/\n=300+j/\VV l.fr cl cs/\xs=.ref c::cs.map V.ref/\ob=some (.ext (j_ a c l cl)))\/
 (n=200/\∃(x:V) (u:Value) (o:Obj) (u':HO),xs=[x]/\RelV x u/\o.data=.cell (some u)/\ob=some (.frz o u'))\/
 ∃(j:Nat) (q:Addr×List Pos×Str),tbs[j]?=some q/\j<100/\n=100+j/\xs=[]/\ob=some (.ext (qE a q.2.2))
section
variable {P:Program}{w:World}{K:PySem.W.Frag}{mg:Str->Option Value}{base:Heap}{n k0:Nat}
theorem z0i{A0:Ads}{x:Str}{tbs:List (Addr×List Pos×Str)}{ls:List LamD}{R:Rules}{Γ:Cn}{G:LamD->List Str}(HR:∀{D:DP},RulesOk D R)(hb:tbs.length<=100)(htb:∀l∈ls,(tbs[l.jt]?).map (·.2.2)=some l.qn)
  (M:MdOk (mkD K A0 (z2B ls tbs) λj=>tbs[j]?) P w K mg base Γ k0) (h:∀l∈ls,Vy (kH Γ l (G l)) l=true/\z1q R n (kH Γ l (G l)) l):GlOkM (mkD K A0 (z2B ls tbs) λj=>tbs[j]?) P w K mg base (k0+1) x (.kap ls):=by
 have tq:∀{j:Nat} {l:LamD},ls[j]?=some l->∃P' pos,tbs[l.jt]?=some (P',pos,l.qn):=λ{j l} e=>by
  obtain⟨⟨p1,p2,p3⟩,q1,q2⟩:=z8F.mp (htb l (z5T e))
  cases q2
  exact⟨p1,p2,q1⟩
 have lt:∀{j:Nat} {q:Addr×List Pos×Str},tbs[j]?=some q->j<100:=λe=>z5S (z5A.mp e).1 hb
 refine⟨λj l ts φ α H v hl d=>?_,⟨λj l e=>tq e,λj l a c cl cs e h=>.inl ⟨j,l,c,cl,cs,e,rfl,h,rfl,rfl⟩,λc o u x ob h1 h2=>.inr (.inl ⟨rfl,x,u,o,ob,rfl,h2,h1,rfl⟩),λj P' pos qn c e=>.inr (.inr ⟨j,_,e,lt e,rfl,rfl,rfl⟩)⟩⟩
 obtain⟨a,ob,xs,rfl,hc,hob,v,q,hv,⟨c,ob2,xs2,hcv,hc2,hob2,_⟩,dl⟩:=d
 rcases hc with⟨j',l',c',cl,cs,e1,e2,cat,e3,rfl⟩|⟨z,_⟩|⟨j',q',_,hj',z,_⟩
 ·have:j=j':=by omega
  subst this
  rw[hl] at e1;cases e1
  rw[hv] at e3
  injection e3 with e4 e5
  rw[e4] at hcv
  cases hcv
  subst e5
  have hrec:ob2=some (.ext (qE c l.qn)):=by
   obtain⟨P',pos',hq⟩:=tq hl
   have:=lt hq
   rcases hc2 with⟨j2,_,_,_,_,_,z,_⟩|⟨z,_⟩|⟨j2,q2,hq2,_,z,_,e⟩
   ·omega
   ·omega
   ·have:l.jt=j2:=by omega
    subst this
    rw[hq] at hq2;cases hq2
    exact e
  subst hrec
  refine⟨a,k0+1,rfl,z5H _,λA outer s e0=>?_⟩
  have ha:=(hob _ rfl).2.2
  have hcc:=(hob2 _ rfl).2.2
  obtain⟨np,_⟩:=(show ObjOk P w H s.heap a (.ext (j_ a c l cl)) from e0.hok a _ ha)
  obtain⟨cr,_⟩:=(show ObjOk P w H s.heap c (.ext (qE c l.qn)) from e0.hok c _ hcc)
  refine⟨?_,λhr u x Q t μ K0 Z0 E r dx mr p hK0 hZ0=>?_⟩
  ·obtain⟨_,_,_,_,h2⟩:=np
   exact⟨_,_,_,_,h2⟩
  ·obtain⟨vs,h3,h4,h5⟩:=uZ (λc ob xs hc=>by
    rcases hc with⟨j2,_,_,_,_,_,z,_⟩|⟨_,z⟩|⟨j2,q2,_,z2,z,_⟩
    ·omega
    ·exact z
    ·omega) dl
   obtain⟨g1,g2⟩:=h l (z5T hl)
   exact KQ HR M g1 g2 hr e0 np cr cat h3 h4 h5 r dx mr p hK0 hZ0
 ·omega
 ·omega
end
noncomputable def eqE:Expr->Expr->Bool
 |.Name x p,.Name y q=>x == y&&p == q
 |.Attribute o x p,.Attribute u y q=>eqE o u&&x == y&&p == q
 |.Tuple [a,b] k p,.Tuple [c,d] j q=>eqE a c&&eqE b d&&k == j&&p == q
 |.Call f [a] [] p,.Call g [b] [] q=>eqE f g&&eqE a b&&p == q
 |.Constant .none k p,.Constant .none j q=>k == j&&p == q
 |_,_=>false
theorem z2C:∀{a b:Expr},eqE a b=true->a=b:=by
 intro a b h
 fun_induction eqE a b with
 |case1 x p y q=>simp only[z5B,beq_iff_eq] at h;rw[h.1,h.2]
 |case2 o x p u y q ih=>simp only[z5B,beq_iff_eq] at h;rw[ih h.1.1,h.1.2,h.2]
 |case3 a b k p c d j q ih1 ih2=>simp only[z5B,beq_iff_eq] at h;rw[ih1 h.1.1.1,ih2 h.1.1.2,h.1.2,h.2]
 |case4 f a p g b q ih1 ih2=>simp only[z5B,beq_iff_eq] at h;rw[ih1 h.1.1,ih2 h.1.2,h.2]
 |case5 k p j q=>simp only[z5B,beq_iff_eq] at h;rw[h.1,h.2]
 |case6=>cases h
noncomputable def Vq(y:Str)(body:Expr)(sc:Scope):List LamD->Nat->Option (Nat×LamD)
 |[],_=>none
 |l::r,i=>match l.sb.isNone&&l.y == y&&l.sc == sc&&eqE l.body body with
  |true=>some (i,l)
  |false=>Vq y body sc r (i+1)
theorem Q3{y:Str}{body:Expr}{sc:Scope}{l:LamD}:∀{ls:List LamD} {i j:Nat},Vq y body sc ls i=some (j,l)->i<=j/\ls[j-i]?=some l/\l.y=y/\l.sc=sc/\l.body=body/\l.sb=none
 |[],_,_,h=>by cases h
 |l'::r,i,j,h=>by
  unfold Vq at h
  split at h
  ·rename_i q
   cases h
   simp only[z5B,beq_iff_eq] at q
   exact⟨z5H _,by simp,q.1.1.2,q.1.2,z2C q.2,by simpa using q.1.1.1⟩
  ·obtain⟨h1,h2,h3⟩:=Q3 h
   refine⟨by omega,?_,h3⟩
   rw[show j-i=(j-(i+1))+1 by omega,z7F];exact h2
noncomputable def z1d:Expr->Option (Str×Expr×Scope×Pos)
 |.Lambda ⟨[],[⟨y,none,_⟩],none,[],[],none,[]⟩ body sc pl=>some (y,body,sc,pl)
 |_=>none
theorem z02{e:Expr}{q:Str×Expr×Scope×Pos}(h:z1d e=some q):∃pa,e=.Lambda ⟨[],[⟨q.1,none,pa⟩],none,[],[],none,[]⟩ q.2.1 q.2.2.1 q.2.2.2:=by
 unfold z1d at h
 split at h
 ·cases h;exact⟨_,rfl⟩
 ·cases h
noncomputable def Y_:GM->Option (List LamD)
 |.kap ls=>some ls
 |_=>none
theorem ZW{g:GM}{ls:List LamD}(h:Y_ g=some ls):g=.kap ls:=by
 cases g<;>first|(cases h;rfl)|cases h
noncomputable def KW:ER:=λr Γ e=>(z1d e).bind λq=>(Y_ (Γ.gl jr)).bind λls=>(Vq q.1 q.2.1 q.2.2.1 ls 0).bind λz=>Γ.lam.bind λp=>(vo Γ.N z.2.fr).bind λfs=>
 gd (Γ.lnm == ("<lambda>":Str)&&Γ.U.contains jr&&p.1 == z.2.jt&&decide (q.2.2.2∈p.2)&&frees z.2.sc == z.2.fr&&decide (z.2.fr.Nodup)&&z.2.fr.all (λx=>Γ.fz.contains x&&Γ.cel.contains x)) (some (xX z.2.jt z.1 fs))
theorem JV{D:DP}:EOk D KW:=by
 intro r H X W Γ k e d C h
 unfold KW at h
 obtain⟨q,h1,h⟩:=bnd h
 obtain⟨ls,h2,h⟩:=bnd h
 obtain⟨⟨j,l⟩,h3,h⟩:=bnd h
 obtain⟨⟨jt,poss⟩,h4,h⟩:=bnd h
 obtain⟨fs,h5,h⟩:=bnd h
 obtain⟨hb,h⟩:=zr h
 cases h
 simp only[z5B,beq_iff_eq,decide_eq_true_eq,z6i,z6a] at hb
 obtain⟨⟨⟨⟨⟨⟨b0,b1⟩,b2⟩,b3⟩,b4⟩,b5⟩,b6⟩:=hb
 obtain⟨pa,rfl⟩:=z02 h1
 obtain⟨_,e1,e2,e3,e4,e5⟩:=Q3 h3
 subst b2
 rw[←e2,←e3,←e4]
 exact US C e5 b0 h4 b3 b1 (ZW h2) (by simpa using e1) b4 b5 b6 h5
noncomputable def z2r:ER:=λr Γ e=>match e with
 |.Call (.Attribute o m pa) [a] [] pc=>(Y_ (Γ.gl jr)).bind λls=>gd (qb o&&pa.endLine == pc.line&&Γ.calm&&noStar a&&Γ.U.contains jr&&m == ("keeper":Str)) ((r.e Γ o).bind λgo=>(r.e Γ a).bind λf=>(Γ.fld.lookup m).bind λn=>some (z0V (ls.map λl=>(l.jt,l.g)) n go f))
 |_=>none
theorem Ul{D:DP}:EOk D z2r:=by
 intro r H X W Γ k e d C h
 unfold z2r at h
 split at h
 ·obtain⟨ls,h1,h⟩:=bnd h
  obtain⟨hb,h⟩:=zr h
  simp only[z5B] at hb
  obtain⟨⟨⟨⟨⟨h0,h1'⟩,h2⟩,h3⟩,h4⟩,h5⟩:=hb
  obtain⟨go,e1,h⟩:=bnd h
  obtain⟨f,e2,h⟩:=bnd h
  obtain⟨n,e3,h⟩:=bnd h
  cases h
  exact z1h C (by simpa using h4) (ZW h1) (yx e3) h2 h0 h1' h3 (H.e C e1) (H.e C e2)
 ·cases h
end NH
namespace NH
open PySem PySem.Spec PyProof.Rows L2 PySem.W
noncomputable def qA (K:Frag)(x:Str)(st:Stmt):Prop:=∃f fd,nsIn K z5V x=some (some (.ref f))/\Fun K x x st f fd
noncomputable def jH (K:Frag)(C:Addr)(x q:Str)(st:Stmt):Prop:=∃f fd,z64 K (.ref C) x=some (some (.ref f))/\isFn K (.ref f)=true/\Fun K x q st f fd
noncomputable def z08 (K:Frag)(C:Addr)(x q:Str)(st:Stmt):Prop:=∃f fd,nsIn K z5V x=some (some (.ref C))/\z64 K (.ref C) "__init__"=some (some (.ref f))/\isFn K (.ref f)=true/\Fun K "__init__" q st f fd/\zc0 K C=true/\z7C K (.ref C)=true
theorem dfp{K:Frag}{x:Str}{st:Stmt}{f:Addr}{oc:Value}{od an:Option Addr}{osl:Array (Option Value)}{kV doc pm cdv ct:Value}(a:nsIn K z5V x=some (some (.ref f)))(l:K.lookup f=some ⟨oc,od,.func (fnOf x x (zC st) (z7 st) (zk st) .none kV doc pm an cdv ct),osl⟩)(c:z6L K cdv x=true)(k:z7C K (.ref f)=true):qA K x st:=⟨f,_,a,kC l c k⟩
theorem mtp{K:Frag}{x q:Str}{st:Stmt}{f C:Addr}{oc:Value}{od an:Option Addr}{osl:Array (Option Value)}{kV doc pm cdv ct:Value}(a:z64 K (.ref C) x=some (some (.ref f)))(j:isFn K (.ref f)=true)(l:K.lookup f=some ⟨oc,od,.func (fnOf x q (zC st) (z7 st) (zk st) .none kV doc pm an cdv ct),osl⟩)(c:z6L K cdv q=true)(k:z7C K (.ref f)=true):jH K C x q st:=⟨f,_,a,j,kC l c k⟩
theorem clp {K:Frag} {x q:Str} {st:Stmt} {f C:Addr} {oc:Value} {od an:Option Addr} {osl:Array (Option Value)} {kV doc pm cdv ct:Value} (a:nsIn K z5V x=some (some (.ref C))) (i:z64 K (.ref C) "__init__"=some (some (.ref f))) (j:isFn K (.ref f)=true) (l:K.lookup f=some ⟨oc,od,.func (fnOf "__init__" q (zC st) (z7 st) (zk st) .none kV doc pm an cdv ct),osl⟩) (c:z6L K cdv q=true) (k:z7C K (.ref f)=true) (m:zc0 K C=true) (kk:z7C K (.ref C)=true):z08 K C x q st:=⟨f,_,a,i,j,kC l c k,m,kk⟩
noncomputable def PL:Nat->(List Value->Prop)->Prop
 |0,P=>P []
 |n+1,P=>∀a,PL n λl=>P (a::l)
theorem PL.all:∀{n:Nat} {P:List Value->Prop},PL n P->∀us:List Value,us.length=n->P us
 |0,_,h,[],_=>h
 |_+1,_,h,a::l,e=>PL.all (h a) l (zah e)
abbrev BdP(x q:Str)(st:Stmt)(ps:List Str):Prop:=∀(kV doc pm:Value) (an:Option Addr) (cdv ct:Value),PL ps.length λus=>z9j (fnOf x q (zC st) (z7 st) (zk st) .none kV doc pm an cdv ct) ⟨us,[]⟩=pure (ps.zip us)
abbrev GsB(l:zce)(w:z6w)(K:Frag)(mg:Str->Option Value)(base:Heap)(k:Nat)(gs:List (Str×GM)){A:Ads}{clo:Nat->Addr->Option HO->List V->Prop}{tabs:Nat->Option (Addr×List Pos×Str)}:Prop:=GsOk l.prog w K mg base A clo k gs tabs
structure Pk(R:Rules)(K:Frag)(mg:Str->Option Value)(base:Heap)(A:Ads)(cls fld:List (Str×Nat)):Prop where
 r:∀{D},RulesOk D R
 i:K.In base
 n:base.Ns z5V mg
 c:chk K A cls fld=true
section
variable {R:Rules}{P:Program}{w:World}{K:Frag}{mg:Str->Option Value}{base:Heap}{A:Ads}{cls fld:List (Str×Nat)}{clo:Nat->Addr->Option HO->List V->Prop}{gs:List (Str×GM)}{tabs:Nat->Option (Addr×List Pos×Str)}{k:Nat}{x qu:Str}{st:Stmt}{f C:Addr}{fd:FuncData}{ps N G cel own:List Str}{m n:Nat}{ds:List Ds}
theorem Pk.ok(Z:Pk R K mg base A cls fld)(F:Fun K x qu st f fd)(q:GsOk P w K mg base A clo k gs tabs)(hds:zu ((comp R n).s (cn cls fld gs N G cel own none)) (z7 st)=some ds)(hs:Q8 (cn cls fld gs N G cel own none) ps (zk st)=true)(hm:N.length=ps.length+m) :
  FnOk P w K mg base (CX1 P w) (k+1) f fd ps (spN (mkD K A clo tabs) ps.length (fnW ps.length m ds)):=by
 obtain⟨oc,od,kV,doc,pm,an,cdv,ct,osl,rfl,lk,hcd⟩:=F.ex
 exact jX Z.r (kI Z.i Z.n Z.c q) lk hcd hs hm hds
theorem Pk.fn (Z:Pk R K mg base A cls fld) (p:qA K x st) (q:GsOk P w K mg base A clo k gs tabs) (hds:zu ((comp R n).s (cn cls fld gs N G cel own none)) (z7 st)=some ds) (hs:Q8 (cn cls fld gs N G cel own none) ps (zk st)=true) (hm:N.length=ps.length+m) (hb:BdP x x st ps) (hx:(x == ("__debug__":Str))=false) :
  GsOk P w K mg base A clo (k+1) ((x,GM.fn (fnW ps.length m ds))::gs) tabs:=by
 obtain⟨f,fd,a,F⟩:=p
 exact GsOk.add (q.mono (z7r k)) ⟨f,zaJ Z.i Z.n a,fd,ps,k+1,F.kp,F.binds λkV dc pm an cd ct=>(hb kV dc pm an cd ct).all,z5H _,Z.ok F q hds hs hm,qm⟩ hx
theorem Pk.met {c:Nat} (Z:Pk R K mg base A cls fld) (p:jH K C x qu st) (q:GsOk P w K mg base A clo k gs tabs) (hds:zu ((comp R n).s (cn cls fld gs N G cel own none)) (z7 st)=some ds) (hc:A.cs.lookup c=some C) (hn:(FLD.contains x)=false) (hs:Q8 (cn cls fld gs N G cel own none) ps (zk st)=true) (hm:N.length=ps.length+m) (hb:BdP x qu st ps) (hx:(dot x == ("__debug__":Str))=false) :
  GsOk P w K mg base A clo (k+1) ((dot x,GM.met c x (fnW ps.length m ds))::gs) tabs:=by
 obtain⟨f,fd,i,j,F⟩:=p
 refine GsOk.add (q.mono (z7r k)) ⟨C,f,fd,ps,k+1,hc,jk Z.c hc,⟨i,j,F.kp⟩,λi h=>?_,F.binds λkV dc pm an cd ct=>(hb kV dc pm an cd ct).all,z5H _,Z.ok F q hds hs hm,qm⟩ hx
 have:=z6a.mpr (z5T (show FLD[i]?=some x from h))
 rw[hn] at this;cases this
theorem Pk.cl {c:Nat} {b:Bool} (Z:Pk R K mg base A cls fld) (p:z08 K C x qu st) (q:GsOk P w K mg base A clo k gs tabs) (hds:zu ((comp R n).s (cn cls fld gs N G cel own none)) (z7 st)=some ds) (hc:A.cs.lookup c=some C) (hs:Q8 (cn cls fld gs N G cel own none) ps (zk st)=true) (hm:N.length=ps.length+m) (hb:BdP "__init__" qu st ps) (hx:(x == ("__debug__":Str))=false) :
  GsOk P w K mg base A clo (k+2) ((x,GM.mk c b (fnW ps.length m ds))::gs) tabs:=by
 obtain⟨f,fd,a,i,j,F,mk,kk⟩:=p
 exact GsOk.add (q.mono (Nat.le_add_right k 2)) ⟨C,f,fd,ps,k+1,hc,zaJ Z.i Z.n a,⟨mk,i,j,kk⟩,F.binds λkV dc pm an cd ct=>(hb kV dc pm an cd ct).all,z5H _,Z.ok F q hds hs hm,qm⟩ hx
end
end NH
namespace NH
open PySem PySem.Spec PyProof.Rows L2
noncomputable def sIx(l:List Stmt)(i:Nat):Stmt:=l.getD i (.Pass ⟨0,0,0,0⟩)
noncomputable def z51:Stmt->Expr
 |.Assign _ e _=>e
 |.Return (some e) _=>e
 |.Expr e _=>e
 |_=>.Name "" ⟨0,0,0,0⟩
noncomputable def subB:Stmt->List Stmt
 |.For _ _ b _ _=>b
 |.If _ b _ _=>b
 |_=>[]
noncomputable def z5t(e:Expr)(i:Nat):Expr:=match e with
 |.Call _ as _ _=>as.getD i e
 |_=>e
noncomputable def z50:Expr->Expr
 |.Lambda _ b _ _=>b
 |e=>e
noncomputable def z5o:Expr->Scope
 |.Lambda _ _ s _=>s
 |_=>⟨.function,[],false,false,[]⟩
noncomputable def AllL{β:Type}(P:β->Prop):List β->Prop
 |[]=>True
 |a::r=>P a/\AllL P r
theorem AllL.mem{β:Type}{P:β->Prop}:∀{ls:List β},AllL P ls->∀l∈ls,P l
 |[],_,_,h=>absurd h (by simp)
 |a::r,q,l,h=>(z65.mp h).elim (λe=>e▸q.1) λh=>AllL.mem q.2 l h
theorem z0t{D:DP}{P:z6f}{w:z6w}{K:z5G}{mg:Str->Option Value}{base:Heap}{Γ:Cn}{k:Nat}{F:List Str}(M:MdOk D P w K mg base Γ k):MdOk D P w K mg base {Γ with fz:=F} k:=⟨M.hK,M.glo,M.isi,M.fld,M.xcx,M.ocx,M.clv,M.xmt⟩
theorem JS{R:Rules}{D:DP}{P:z6f}{w:z6w}{K:z5G}{mg:Str->Option Value}{base:Heap}{Γ:Cn}{n k:Nat}(HR:RulesOk D R){f:Addr}{name qual:Str}{params:Arguments}{body:List Stmt}{scope:Scope}{dV kV doc pm cdv ct oc:Value}{an od:Option Addr}{osl:Array (Option Value)}{ps:List Str}{m cut:Nat}{ds:List Ds}
  (M:MdOk D P w K mg base Γ k) (lk:K.lookup f=some ⟨oc,od,.func (z6g name qual params body scope dV kV doc pm an cdv ct),osl⟩) (hcd:z6L K cdv qual=true) (hs:Q8 Γ ps scope=true) (hm:Γ.N.length=ps.length+m) (hd1:zu ((comp R n).s {Γ with fz:=[]}) (body.take cut)=some (ds.take cut)) (hds:zu ((comp R n).s Γ) (body.drop cut)=some (ds.drop cut)) (hlam:LamOk D mg base cdv (qual++".<locals>.") k Γ.lam Γ.lnm) :
  FnOk P w K mg base (CX1 P w) (k+1) f (z6g name qual params body scope dV kV doc pm an cdv ct) ps (spN D ps.length (fnW ps.length m ds)):=by
 have:=Qk HR M lk hcd hs hm (z8L cut body).symm hd1 hds hlam
 rwa[z8L] at this
noncomputable def emL(e:Expr):Bool:=match e with
 |.List [] _=>true
 |_=>false
noncomputable def z0s:ER:=λr Γ e=>gd (emL e&&Γ.own.contains ⟨#[91,93]⟩) (K_ r Γ e)
theorem X2{D:DP}:EOk D z0s:=by
 intro r H X W Γ k e d C h
 exact Qn r H C (zr h).2
theorem Zf:zb6 (.type "list") "keys"=pure none:=by rw[zcd,zax];kernel_rfl
theorem J6{prog:z6f}{w:z6w}{A:z6e}{E:Value->z5D->Prop}{s:z5D}{a:Addr}{o:Obj}{xs:Array Value}{k:Nat}{Q:Option Value->z5D->Prop}
  (hx:s.heap.get? a=some o) (hc:o.cls=.type "list") (hdat:o.data=.seq xs k) (hd:o.dict=none) (hA:A.handled=none)
  (h:∀h' tk,(∀b u,s.heap.get? b=some u->h'.get? b=some u)->Q none {s with heap:=h',toks:=tk}) :
  z5K (z5N prog w) A (zcx (.ref a) "keys") Q E s:=by
 obtain⟨c,dct,dat,sl⟩:=o
 simp only at hc hdat hd
 subst hc hdat hd
 obtain⟨hp,g,d,tk,os⟩:=s
 have hT:∀tk',(⟨hp,g,d,tk',os⟩:z5D).TypeIs (.ref a) "list":=λ_=>⟨_,hx,rfl⟩
 have f1:=sub_AttributeError
 have f3:=z7I.lookup
 have f4:=z7I.bind (.ref a)
 have f5:=am_list_getattr_none
 unfold zcx getAttrBy? getAttrBy
 repeat (any_goals (first|assumption|exact hT _|((with_reducible show z5K _ _ (call (zd6 "list.__getattribute__") _ _) _ _ _);refine zcs z7I (hT _) am_entry_list_getattribute (PySem.F.args_list_getattribute_2 _ _) (meets_getattribute_miss_list a xs k sl "keys" _ Zf (by decide) (by decide)) ⟨hx,hA,λh' tk' e hx'=>?_⟩)|wp_step))
 obtain⟨t',u',he⟩:=hx'.there
 show z5K _ _ (zbc _ _ _ _ _ _ _) _ _ _
 unfold zbc
 repeat (any_goals (first|assumption|wp_step))
 exact h _ _ λb u e=>hx'.of.keeps b u e
theorem vB:entryFor table "dict.update.loop"=some z99.«dict.update.loop»:=entryFor_of_tree (by kernel_rfl)
theorem qv:plainId "dict.update.loop"=true:=by decide +kernel
section
variable {X:Cx}{D:DP}{W:XW}{Γ:Cn}{k:Nat}{pins:List (Addr×Obj)}{s:Shared}{σ:St}{H:Hp}{φ α:List Addr}{τ:Sl}{μ:Mem}{f g:De}{a b:Expr}{pos:Pos}{A:Around}{E:Value->Shared->Prop}
theorem MRel.add{p:Addr}{u:HO}{mo:MO}(m:MRel D φ α H μ)(hp:H p=none)(l:DenO D φ (α++[p]) (upd H p u) mo p):MRel D φ (α++[p]) (upd H p u) (μ++[mo]):=by
 have st:Stp α H (α++[p]) (upd H p u):=vn hp
 have hl:=m.len
 refine⟨by simp[hl],?_,λb hb=>?_,λb hb=>?_,λi a o e1 e2=>?_⟩
 ·rw[z7U]
  refine⟨m.nd,by simp,λa ha b hb z=>?_⟩
  rw[z5J.mp hb] at z
  exact zq m hp (z▸ha)
 ·rcases z5Q.mp hb with h|h
  ·exact m.dis b h
  ·rw[z5J.mp h];exact zp m hp
 ·obtain⟨v,e,n⟩:=m.phi b hb
  exact⟨v,zj hp b v e,n⟩
 ·by_cases hi:i<α.length
  ·rw[z5I hi] at e1
   rw[z5I (by omega)] at e2
   have d:=m.ob i a o e1 e2
   obtain⟨v,q,_⟩:=d.some
   exact d.step st ((zj hp _ _ q).trans q.symm)
  ·have hlt:=(z5A.mp e1).1
   simp only[z63,z68,z72] at hlt
   have hi':i=α.length:=by omega
   subst hi'
   rw[z5U (z5H _),zbB] at e1
   rw[hl,z5U (z5H _),zbB] at e2
   have e1:some p=some a:=e1
   have e2:some mo=some o:=e2
   cases e1;cases e2
   exact l
end
end NH
section
namespace NH
open PySem
section
variable {prog:Program}{w:World}{A:Around}{R:Result->Shared->Prop}{hp:Heap}{g:Array GenState}{d:Drawn}{tk:Nat}{os:OsState}{us:List Value}
theorem z16:zbV (.type "KeyError") (.type "LookupError")=pure true:=by rw[z85];kernel_rfl
theorem Vs:zbV (.type "KeyError") (.type "KeyError")=pure true:=by rw[z85];kernel_rfl
theorem z4b:zbV (.type "KeyError") (.type "AttributeError")=pure false:=by rw[z85];kernel_rfl
theorem z41:zbV (.type "KeyError") (.type "NameError")=pure false:=by rw[z85];kernel_rfl
theorem UG:Bind.madeHere "BaseException.__new__" (.type "KeyError")=pure ():=by kernel_rfl
theorem z4T:Bind.madeBy (.type "KeyError")=pure (some "LookupError.__new__"):=by kernel_rfl
theorem z2n (hus:us.length<=sizeLine) (q:R (.ok (.ret (.ref (hp.objs.size+1)))) ⟨(hp.push {cls:=.type "tuple",data:=.seq us.toArray}).push {cls:=.type "KeyError",data:=.fields #[.ref hp.objs.size,.none,.none,.none,.bool false,.none]},g,d,tk,os⟩) :
  z7n (z5N prog w) A (.builtin "LookupError.__new__" ⟨.type "KeyError"::us,[]⟩) R ⟨hp,g,d,tk,os⟩:=by
 have o1:=z79.owner
 have o2:=z79.ends
 have hsub:=z16
 have hna:=z4b
 have hnn:=z41
 have hmade:=UG
 refine codeAny_builtinAt z79.entry ?_
 unfold z99.«BaseException.__new__»
 refine wpAt_bind ?_
 show wpAt _ _ _ (stack >>= _) _ _ _
 refine wpAt_bind (wpAt_stack λp below=>wpAt_of_wpAny ?_)
 wp_walk
 refine wpAt_of_wpAny ?_
 rw[o1]
 wp_walk
 show R _ _
 rw[z6K]
 exact q
theorem Vg:Slot "KeyError" "__init__" "KeyError.__init__":=.of (owner:="KeyError") (n:="__init__") (by rw[zcd,zax];kernel_rfl) (by decide +kernel) (by decide +kernel) (by decide +kernel) (by first|exact .inl (by decide +kernel)|exact .inr (by decide +kernel)) (by rw[z85];kernel_rfl)
theorem z3m:entryFor table "KeyError.__init__"=some z99.«BaseException.__init__»:=entryFor_alias (id':="BaseException.__init__") (by rw[zbC];kernel_rfl) (by first|rfl|decide +kernel) (by decide +kernel) (by rw[zbC];kernel_rfl)
theorem z1l {M:z91} {self:Value} {E:Value->z5D->Prop} {Q:Unit->z5D->Prop} (hT:z9P ⟨hp,g,d,tk,os⟩ self "KeyError") (q:Q () ⟨hp,g,d,tk,os⟩):z5K M A (z8O "KeyError.__init__" ⟨self::us,[]⟩) Q E ⟨hp,g,d,tk,os⟩:=by
 have s1:builtinKind "KeyError.__init__"=some .slot:=by kernel_rfl
 have s2:splitId "KeyError.__init__"=some ("KeyError","__init__"):=by kernel_rfl
 have s3:Manifest.signature? "KeyError.__init__"=some ⟨.positional,"*","KeyError",.self,[⟨"args",.varPos,false⟩]⟩:=by kernel_rfl
 have hsub:=Vs
 have hshort:("KeyError" != "*")=true:=by decide +kernel
 simp only[z8O,s1,s2,s3]
 wp_walk
 refine wpAny_onRaise ?_
 have e:∀(a b:String) (n:Nat),Bind.check ⟨.positional,"*","KeyError",.self,[⟨"args",.varPos,false⟩]⟩ a b n (List.map (λx=>x.fst) ({pos:=self::us}:Args).kw)=pure ():=λa b n=>check_star_args _ _ _ _ _ _
 rw[e]
 exact z5E q
theorem Yx {E:Value->z5D->Prop} {Q:Value->z5D->Prop} (hus:us.length<=sizeLine) (q:∀h' e,z9d hp h' e "KeyError" us->Q (.ref e) ⟨h',g,d,tk,os⟩):z5K (z5N prog w) A (call (.type "KeyError") us) Q E ⟨hp,g,d,tk,os⟩:=by
 refine z73 (zc7 ?_)
 show z5K _ _ (again (.builtin "type.__call__" ⟨.type "KeyError"::us,[]⟩)) _ _ _
 refine z5E ⟨z8q _ (by decide +kernel),z7Q entry_typeCall ?_⟩
 have t1:(za8 "KeyError" == za8 "type")=false:=by decide +kernel
 have t2:((zcE "KeyError").bind λx=>List.findSome? (λt=>(zcE t).bind λb=>if b.noNew=true then some true else if (b.attrs.any λx=>x.fst == "__new__")=true then some false else none) x.mro).getD false=false:=by kernel_rfl
 have t3:checkTypeCall "KeyError" ⟨us,[]⟩=pure ():=by kernel_rfl
 have t4:mroOf (.type "KeyError")=pure [.type "KeyError",.type "LookupError",.type "Exception",.type "BaseException",.type "object"]:=by rw[mroOf_type];kernel_rfl
 have t5:=z4T
 wp_walk
 have t6:∀us,z8O "LookupError.__new__" ⟨.type "KeyError"::us,[]⟩=pure ():=λus=>by kernel_rfl
 refine z9z (z8q _ z79.quiet) (z7K (t6 us) (z2n hus ?_))
 show z5K _ _ _ _ _ _
 have gx:((hp.push {cls:=.type "tuple",data:=.seq us.toArray}).push {cls:=.type "KeyError",data:=.fields #[.ref hp.objs.size,.none,.none,.none,.bool false,.none]}).get? (hp.objs.size+1)=some {cls:=.type "KeyError",data:=.fields #[.ref hp.objs.size,.none,.none,.none,.bool false,.none]}:=by heap_get
 refine z5z (wpAny_isInstance ⟨_,gx,rfl⟩ Vs ?_)
 wp_step
 refine z5z (z60 (z8t ⟨_,gx,rfl⟩ Vg (z73 (z81 Vg.plain z3m (z1l ⟨_,gx,rfl⟩ ?_)))))
 wp_walk
 have lt:∀{b o},hp.get? b=some o->b<hp.objs.size:=λe=>z5O e
 refine q _ _ ⟨λb o hb=>?_,z6d (z7r _),hp.objs.size+2,?_,z6d (by omega),?_⟩
 ·rw[z6q _ _ (z6k (z5Z (z7W (lt hb))))]
  exact z5C _ (z5C _ (z5C _ hb))
 ·rw[z7i _ (z5C _ gx) rfl]
  simp only[z6K]
  rfl
 ·rw[z6q _ _ (z5Z (z6G _))]
  exact z8E (by simp only[z6K]) rfl
theorem z4y:ExcRaiseFacts "KeyError" where
 isExc:=by rw[z85];kernel_rfl
 plainMeta:=by kernel_rfl
theorem X7{env:Env}{x:Str}{np cpos pos:Pos}{es:List Expr}{s:z5D}{E:Value->z5D->Prop}{Q:Flow->z5D->Prop}(hh:A.handled=none)(hpl:(z7u cpos (z6o es env)).any (·.1)=false)
  (h:z5K (z5N prog w) A (eval (.Name x np) env) (λf s1=>f=.type "KeyError"/\z5K (z5N prog w) A (evalArgs (.type "KeyError") true (z7u cpos (z6o es env)) []) (λa s2=>a.kw=[]/\a.pos.length<=sizeLine/\∀h' e,z9d s2.heap h' e "KeyError" a.pos->E (.ref e) {s2 with heap:=h'}) E s1) E s) :
  z5K (z5N prog w) A (exec (.Raise (some (.Call (.Name x np) es [] cpos)) none pos) env) Q E s:=by
 refine wpAny_Raise_made z4y hh (zbz (z6j h (λf s1 h1=>?_) λ_ _ z=>z))
 obtain⟨rfl,h1⟩:=h1
 refine callWith_excType hpl (z6j h1 (λa s2 h2=>?_) λ_ _ z=>z)
 obtain⟨ap,ak⟩:=a
 obtain⟨hk,hl,h2⟩:=h2
 obtain rfl:ak=[]:=hk
 obtain⟨hp,g,d,tk,os⟩:=s2
 refine Yx hl λh' e hm=>?_
 obtain⟨t,ht,_,_⟩:=hm.there
 exact⟨e,t,rfl,ht,h2 h' e hm⟩
end
end NH
namespace NH
open PySem PySem.Spec PyProof.Rows L2
section
variable {X:Cx}{D:DP}{W:XW}{Γ:Cn}{k:Nat}{pins:List (Addr×Obj)}{s:Shared}{σ:St}{H:Hp}{φ α:List Addr}{τ:Sl}{μ:Mem}{a:Expr}{pos:Pos}{E:Ends}{es:List Expr}{fs:List De}
theorem XT{W:XW}{x:Addr}{n:String}{args:List Value}{h2:Heap}(I:Inv X pins σ H s)(mk:z9d s.heap h2 x n args)(w:W (.type n) none σ H):XP X W (.ref x) {s with heap:=h2}:=by
 have J:Inv X pins σ H {s with heap:=h2,toks:=s.toks}:=I.kept mk.keeps
 obtain⟨t,ho,_,_⟩:=mk.there
 exact⟨x,.type n,none,σ,H,none,.none,rfl,J.pins_of (λp hp=>absurd hp (by simp)),wD I mk.new,λt ht=>absurd ht (by simp),⟨⟨_,_,.ref t,ho,⟨rfl,rfl⟩,rfl,rfl,rfl,λ_ z=>by cases z⟩,rfl⟩,.inl rfl,w⟩
theorem Jp(C:Sk D W Γ X k)(hc:Γ.calm=true){x:Str}{c:Nat}{n:String}{p0 p1:Pos}(hx:x∈Γ.G)(hg:Γ.gl x=.xbt c n)(ha:EsOk X D W (a::es) fs) :
  PS X (.Raise (some (.Call (.Name x p0) (a::es) [] p1)) none pos) (rdS D W (zG c fs)):=by
 rintro pins s σ H E I ⟨φ,α,τ,μ,sr,mr,p⟩
 have q:=C.glo x hx
 rw[hg] at q
 obtain⟨q1,q2,q3,q4,q5⟩:=q
 have hs:=ha.stars
 have hp:(z7u p1 (z6o (a::es) X.env)).any (·.1)=false:=q9 hs
 have hs1:noStar a=true:=by simp only[z6s,z5B] at hs;exact hs.1
 have sA:z5K (z5N X.prog X.w) X.A (evalArgs (.type n) true (z7u p1 (z6o (a::es) X.env)) []) (λa s2=>a.kw=[]/\a.pos.length<=sizeLine/\∀h' e,z9d s2.heap h' e n a.pos->X.xe (.ref e) {s2 with heap:=h'}) X.xe s:=by
  have sA:=thn (qX ha p1 pins s σ H (λvs H1=>∃ts μ1 α1,Stp α H α1 H1/\SRel D φ α1 H1 τ σ/\MRel D φ α1 H1 μ1/\DenL D φ α1 H1 ts vs/\PostS D W φ α1 H1 E (.grd (ts.length<=room) (.ex c [] τ μ1))) I ⟨φ,α,τ,μ,sr,mr,(PostS.out sr p).mono λts μ' α' H' st m q vs d _=>⟨ts,μ',α',st,sr.step st,m,d,q⟩⟩) (Q':=λus s1=>us.length<=sizeLine/\∀h' e,z9d s1.heap h' e n us->X.xe (.ref e) {s1 with heap:=h'}) ?_
  ·rw[z8 hs1] at sA ⊢
   exact z80 (thn sA λus s1 h1=>⟨rfl,h1⟩)
  ·rintro us s1 ⟨vs,H1,I1,r,ts,μ1,α1,st,sr1,m1,dl,q⟩
   obtain⟨hl,q⟩:=PostS.grd q
   refine⟨?_,λh' e mk=>?_⟩
   ·have e1:=dl.length
    have e2:=r.length
    have:=zI hl
    rw[←e2,←e1]
    exact this
   ·exact C.xe _ _ (XT I1 mk (PostS.ex q (Stp.refl _ _) m1 sr1 (.blt n q4 q5 rfl) rfl))
 have hn:n="KeyError"\/n="ZeroDivisionError":=by
  unfold bxN at q4
  split at q4
  ·cases q4;exact .inl rfl
  ·split at q4
   ·cases q4;exact .inr rfl
   ·cases q4
 rcases hn with rfl|rfl
 ·exact X7 (I.ok.hd (C.clm hc)) hp (we I (C.glb x hx) q1 q2 ⟨rfl,sA⟩ q3 (C.dbG x hx))
 ·exact wpAny_Raise_call PySem.F.excCall_ZeroDivisionError PySem.F.excRaise_ZeroDivisionError (I.ok.hd (C.clm hc)) hp (we I (C.glb x hx) q1 q2 ⟨rfl,sA⟩ q3 (C.dbG x hx))
end
noncomputable def WL:SR:=λr Γ s=>(KU s).bind λe=>(Z_ e).bind λq=>gd (Γ.calm&&Γ.G.contains q.1&&!q.2.isEmpty) ((z2F (Γ.gl q.1)).bind λc=>(cEs r Γ q.2).bind λfs=>some (zG c fs))
theorem JI{D:DP}:SOk D WL:=by
 intro r H X W Γ k e d C h
 unfold WL at h
 obtain⟨e',z0,z1⟩:=bnd h
 obtain⟨⟨x,as⟩,z2,z3⟩:=bnd z1
 obtain⟨hb,z4⟩:=zr z3
 obtain⟨c,h1,z5⟩:=bnd z4
 obtain⟨fs,h2,z6⟩:=bnd z5
 cases z6
 obtain⟨p2,rfl⟩:=ZT z0
 obtain⟨p0,p1,rfl⟩:=xH z2
 simp only[z5B] at hb
 obtain⟨n,hn⟩:=Vc h1
 cases as with
 |nil=>simp at hb
 |cons a as=>exact Jp C hb.1.1 (by simpa using hb.1.2) hn (qW H C.toCk h2)
end NH
end
namespace NH
open PySem PySem.Spec PyProof.Rows L2
noncomputable def yQ:Expr->Expr->Bool
 |.Name x p,.Name y q=>x == y&&p == q
 |.Attribute o x p,.Attribute u y q=>yQ o u&&x == y&&p == q
 |.Call f [a] [] p,.Call g [b] [] q=>yQ f g&&yQ a b&&p == q
 |.Compare a [o] [b] p,.Compare c [u] [d] q=>yQ a c&&decide (o=u)&&yQ b d&&p == q
 |.Constant u k p,.Constant v j q=>decide (u=v)&&k == j&&p == q
 |_,_=>false
theorem Zj:∀{a b:Expr},yQ a b=true->a=b:=by
 intro a b h
 fun_induction yQ a b with
 |case1 x p y q=>simp only[z5B,beq_iff_eq] at h;rw[h.1,h.2]
 |case2 o x p u y q ih=>simp only[z5B,beq_iff_eq] at h;rw[ih h.1.1,h.1.2,h.2]
 |case3 f a p g b q ih1 ih2=>simp only[z5B,beq_iff_eq] at h;rw[ih1 h.1.1,ih2 h.1.2,h.2]
 |case4 a o b p c u d q ih1 ih2=>simp only[z5B,beq_iff_eq,decide_eq_true_eq] at h;rw[ih1 h.1.1.1,h.1.1.2,ih2 h.1.2,h.2]
 |case5 u k p v j q=>simp only[z5B,beq_iff_eq,decide_eq_true_eq] at h;rw[h.1.1,h.1.2,h.2]
 |case6=>cases h
noncomputable def YM (f:List Stmt->List Stmt->Bool):Stmt->Stmt->Bool
 |.Expr a p,.Expr b q=>yQ a b&&p == q
 |.Raise (some a) none p,.Raise (some b) none q=>yQ a b&&p == q
 |.If a x [] p,.If b y [] q=>yQ a b&&f x y&&p == q
 |_,_=>false
theorem YF{f:List Stmt->List Stmt->Bool}(hf:∀{x y},f x y=true->x=y){a b:Stmt}(h:YM f a b=true):a=b:=by
 unfold YM at h
 split at h
 ·simp only[z5B,beq_iff_eq] at h;rw[Zj h.1,h.2]
 ·simp only[z5B,beq_iff_eq] at h;rw[Zj h.1,h.2]
 ·simp only[z5B,beq_iff_eq] at h;rw[Zj h.1.1,hf h.1.2,h.2]
 ·cases h
noncomputable def WM:Nat->List Stmt->List Stmt->Bool
 |n+1,a::r,b::t=>YM (WM n) a b&&WM n r t
 |_+1,[],[]=>true
 |_,_,_=>false
theorem ZZ:∀{n:Nat} {a b:List Stmt},WM n a b=true->a=b
 |0,a,b,h=>by cases a<;>cases b<;>cases h
 |n+1,[],[],_=>rfl
 |n+1,a::r,b::t,h=>by
  have h:(YM (WM n) a b&&WM n r t)=true:=h
  simp only[z5B] at h
  rw[YF (λh=>ZZ (n:=n) h) h.1,ZZ (n:=n) h.2]
 |n+1,[],_::_,h=>by cases h
 |n+1,_::_,[],h=>by cases h
noncomputable def fdP:Stmt->Option (Str×Arguments×List Stmt×Scope×Pos)
 |.FunctionDef nm a b [] none [] sc none bd pl=>gd (nm == bd) (some (nm,a,b,sc,pl))
 |_=>none
theorem z1y{s:Stmt}{q:Str×Arguments×List Stmt×Scope×Pos}(h:fdP s=some q):s=.FunctionDef q.1 q.2.1 q.2.2.1 [] none [] q.2.2.2.1 none q.1 q.2.2.2.2:=by
 unfold fdP at h
 split at h
 ·obtain⟨h1,h2⟩:=zr h
  cases h2
  rw[beq_iff_eq.mp h1]
 ·cases h
noncomputable def Vm(nm y:Str)(body:List Stmt)(sc:Scope):List LamD->Nat->Option (Nat×LamD)
 |[],_=>none
 |l::r,i=>match l.sb.elim false (λq=>q.1 == nm&&WM 12 q.2 body)&&l.y == y&&l.sc == sc with
  |true=>some (i,l)
  |false=>Vm nm y body sc r (i+1)
theorem QT{nm y:Str}{body:List Stmt}{sc:Scope}{l:LamD}:∀{ls:List LamD} {i j:Nat},Vm nm y body sc ls i=some (j,l)->i<=j/\ls[j-i]?=some l/\l.y=y/\l.sc=sc/\l.sb=some (nm,body)
 |[],_,_,h=>by cases h
 |l'::r,i,j,h=>by
  unfold Vm at h
  split at h
  ·rename_i q
   cases h
   simp only[z5B,beq_iff_eq] at q
   refine⟨z5H _,by simp,q.1.2,q.2,?_⟩
   have q1:=q.1.1
   cases hs:l.sb with
   |none=>rw[hs] at q1;cases q1
   |some z=>
    rw[hs] at q1
    have q1:(z.1 == nm&&WM 12 z.2 body)=true:=q1
    simp only[z5B,beq_iff_eq] at q1
    obtain⟨z1,z2⟩:=z
    have e1:z1=nm:=q1.1
    have e2:z2=body:=ZZ q1.2
    rw[e1,e2]
  ·obtain⟨h1,h2,h3⟩:=QT h
   refine⟨by omega,?_,h3⟩
   rw[show j-i=(j-(i+1))+1 by omega,z7F];exact h2
noncomputable def J_:SR:=λr Γ s=>(fdP s).bind λq=>(z1O q.2.1).bind λy=>(Y_ (Γ.gl jr)).bind λls=>(Vm q.1 y q.2.2.1 q.2.2.2.1 ls 0).bind λz=>Γ.lam.bind λp=>(vo Γ.N z.2.fr).bind λfs=>(idx Γ.N q.1).bind λix=>
 gd (Γ.lnm == q.1&&!Γ.cel.contains q.1&&Γ.U.contains jr&&p.1 == z.2.jt&&decide (q.2.2.2.2∈p.2)&&frees z.2.sc == z.2.fr&&decide (z.2.fr.Nodup)&&z.2.fr.all (λx=>Γ.fz.contains x&&Γ.cel.contains x)) (some (zx ix (xX z.2.jt z.1 fs)))
theorem JU{D:DP}:SOk D J_:=by
 intro r H X W Γ k e d C h
 unfold J_ at h
 obtain⟨⟨nm,ar,body,sc,pl⟩,h1,w1⟩:=bnd h
 obtain⟨y,h2,w2⟩:=bnd w1
 obtain⟨ls,h3,w3⟩:=bnd w2
 obtain⟨⟨j,l⟩,h4,w4⟩:=bnd w3
 obtain⟨⟨jt,poss⟩,h5,w5⟩:=bnd w4
 obtain⟨fs,h6,w6⟩:=bnd w5
 obtain⟨ix,h7,w7⟩:=bnd w6
 obtain⟨hb,w8⟩:=zr w7
 cases w8
 simp only[z5B,beq_iff_eq,decide_eq_true_eq,z6i,z6a,z70] at hb
 obtain⟨⟨⟨⟨⟨⟨⟨b0,bc⟩,b1⟩,b2⟩,b3⟩,b4⟩,b5⟩,b6⟩:=hb
 have e0:=z1y h1
 dsimp only at e0 h2 h4 h7 b0 bc b3
 subst e0
 obtain⟨pa,rfl⟩:=YS h2
 obtain⟨_,e1,e2,e3,e5⟩:=QT h4
 subst b2
 rw[←e2,←e3]
 exact YZ C e5 b0 h7 bc h5 b3 b1 (ZW h3) (by simpa using e1) b4 b5 b6 h6
theorem Yd {D:DP} {P:z6f} {w:z6w} {K:z5G} {mg:Str->Option Value} {base:Heap} {k:Nat} {x:Str} {c:Nat} {n:String} (h:GlOkM D P w K mg base k x .none) (h1:z6U x=some (.type n)) (h2:x≠"__name__") (h3:bxN c=some n) (h4:D.adr c=none):GlOkM D P w K mg base k x (.xbt c n):=⟨h,h1,h2,h3,h4⟩
noncomputable def Yl(h:Heap)(v kv u:Value):Prop:=∃t o n,v=.ref t/\h.get? t=some o/\o.cls=.type "tuple"/\o.data=.seq #[kv,u] n
noncomputable abbrev pr2{K:Type}(x:K×Value×Value):K×Value:=(x.1,x.2.2)
section
variable {prog:Program}{w:World}{K:Type}[DecidableEq K]{knd:PySem.KeyKind prog w K}{A:Around}{E:Value->Shared->Prop}{s:Shared}
theorem Wu(hh:A.in1.handled=none){R:zcm->z5D->Prop}{d I l:Addr}{items:Array Value}{ys:List (K×Value×Value)}(hdI:d≠I)(hdl:d≠l)(hlI:l≠I)(hn:(ys.map (·.1)).Nodup)(hsz:ys.length<=sizeLine)(hlen:items.size=ys.length)(h0:Heap)
  (hpr:∀(i:Nat) (y:K×Value×Value),ys[i]?=some y->∃v,items[i]?=some v/\Yl h0 v y.2.1 y.2.2/\v≠.ref d/\v≠.ref I) (hky:∀y∈ys,knd.is y.1 y.2.1=true) :
  ∀(k i:Nat) (s:z5D) (t:Tok),ys.length-i=k->i<=ys.length->s.heap.IsListIter I l i->s.heap.IsList l items->s.heap.DictOf knd d ((ys.take i).map pr2)->(∀b u,b≠d->b≠I->h0.get? b=some u->s.heap.get? b=some u)->
   (∀h' tk,h'.DictOf knd d (ys.map pr2)->(∀b u,b≠d->b≠I->s.heap.get? b=some u->h'.get? b=some u)->R (.ok (.ret .none)) {s with heap:=h',toks:=tk})->
   z7n (z5N prog w) A (.builtin "dict.update.loop" ⟨[.ref d,.ref I,.int i t,.none],[]⟩) R s:=by
 intro k
 induction k with
 |zero=>
  intro i s t hk hi hit hls hd hs0 hR
  have hin:i=ys.length:=by omega
  subst hin
  refine z7Q vB ?_
  rw[z7s qv _]
  show z5K _ A.in1 (zaA (.ref I) >>= _) _ _ s
  refine z5z ((zaf hh I l hlI items).toS.done s _ _ ⟨by rw[hlen];exact hit,hls⟩ λs' hm=>?_)
  obtain⟨h',g',d',tk',os'⟩:=s'
  have eg:g'=s.gens:=hm.gens
  have ed:d'=s.drawn:=hm.drawn
  have eo:os'=s.os:=hm.os
  subst eg ed eo
  rw[za2] at hd
  obtain⟨o,es,ep,ho,hc,hdd,he,hnn⟩:=hd
  have kp:∀b u,b≠d->b≠I->s.heap.get? b=some u->h'.get? b=some u:=λb u _ h2 e=>hm.heap b u (by simp[h2]) e
  refine z5z (z5E ?_)
  refine z5E (hR h' tk' ⟨o,es,ep,hm.heap d o (by simp[hdI]) ho,hc,hdd,he,hnn⟩ kp)
 |succ k ih=>
  intro i s t hk hi hit hls hd hs0 hR
  have hlt:i<ys.length:=by omega
  obtain⟨⟨ky,b,u⟩,hy⟩:∃y,ys[i]?=some y:=⟨ys[i],z6D hlt⟩
  obtain⟨v0,hv0,hpa,nd,nI⟩:=hpr i _ hy
  refine z7Q vB ?_
  rw[z7s qv _]
  show z5K _ A.in1 (zaA (.ref I) >>= _) _ _ s
  refine z5z ((zaf hh I l hlI items).toS.item i s _ _ (by omega) ⟨hit,hls⟩ λv s' hP hst' hm=>?_)
  have hP:items[i]?=some v:=hP
  rw[hv0] at hP
  cases hP
  obtain⟨h',g',d',tk',os'⟩:=s'
  have eg:g'=s.gens:=hm.gens
  have ed:d'=s.drawn:=hm.drawn
  have eo:os'=s.os:=hm.os
  subst eg ed eo
  have kp:∀b u,b≠d->b≠I->s.heap.get? b=some u->h'.get? b=some u:=λb u _ h2 e=>hm.heap b u (by simp[h2]) e
  have kp0:∀b u,b≠d->b≠I->h0.get? b=some u->h'.get? b=some u:=λb u h1 h2 e=>kp b u h1 h2 (hs0 b u h1 h2 e)
  obtain⟨tp,o,n,rfl,ho,hc,hdt⟩:=hpa
  have ho':=kp0 tp o (λz=>nd (by rw[z])) (λz=>nI (by rw[z])) ho
  have hT:z9P ⟨h',s.gens,s.drawn,tk',s.os⟩ (.ref tp) "tuple":=⟨o,ho',hc⟩
  have hD:h'.DictOf knd d ((ys.take i).map pr2):=by
   obtain⟨od,es,ep,g1,g2⟩:=hd
   exact⟨od,es,ep,hm.heap d od (by simp[hdI]) g1,g2⟩
  have hnot:ky∉(ys.take i).map (·.1):=by
   have z:(ys.take i++[(ky,b,u)]).map (·.1) |>.Nodup:=by
    rw[show ys.take i++[(ky,b,u)]=ys.take (i+1) by rw[z7t,hy];rfl]
    exact hn.sublist ((zbl _ _).map _)
   rw[z7k,z7U] at z
   exact λm=>z.2.2 ky m ky (by simp) rfl
  have tk1:stored ((ys.take i).map pr2) ky u=(ys.take (i+1)).map pr2:=by
   unfold stored
   have:((ys.take i).map pr2).any (λkv=>decide (kv.1=ky))=false:=by
    rw[z9C]
    intro kv hkv
    obtain⟨z,hz,rfl⟩:=z6y.mp hkv
    simp only[decide_eq_true_eq]
    exact λe=>hnot (z6y.mpr ⟨z,hz,e⟩)
   rw[this,if_neg (by decide),z7t,hy,z7k]
   rfl
  show z5K _ A.in1 (za9 [z61 tp] _ >>= _) _ _ _
  refine z5z (z60 ?_)
  refine z5z (z84 ?_)
  unfold zdl
  refine z5z (z8B hT ?_)
  rw[if_pos (by decide)]
  refine z5z (z9w ho' hdt (z5E ?_))
  show z5K _ A.in1 (za9 [b,u] (dictSet d b u)) _ _ _
  refine z60 (wpAny_dictSet_pairs (hsz:=by rw[z5R,z7D];omega) (hky _ (z5T hy)) hD λh2 hD2 sb=>?_)
  rw[tk1] at hD2
  have kp2:∀b u,b≠d->b≠I->h'.get? b=some u->h2.get? b=some u:=λb u h1 _ e=>(sb.2 b h1).trans e
  have hI2:h2.IsListIter I l (i+1):=by
   obtain⟨oi,e1,e2⟩:=hst'.1
   exact⟨oi,(sb.2 I (z6k hdI)).trans e1,e2⟩
  have hL2:h2.IsList l items:=by
   obtain⟨oi,e1,e2⟩:=hst'.2
   exact⟨oi,(sb.2 l (z6k hdl)).trans e1,e2⟩
  refine z5E ⟨z8g qv _,?_⟩
  have J:=ih (i+1) ⟨h2,s.gens,s.drawn,tk'+1,s.os⟩ 0 (by omega) hlt hI2 hL2 hD2 (λb u h1 h2' e=>kp2 b u h1 h2' (kp0 b u h1 h2' e)) λh3 tk3 hD3 kp3=>hR h3 tk3 hD3 λb u h1 h2' e=>kp3 b u h1 h2' (kp2 b u h1 h2' (kp b u h1 h2' e))
  exact J
theorem Qj {l:Addr} {items:Array Value} {n:Nat} {ys:List (K×Value×Value)} {Q:Value->z5D->Prop} (hh:A.handled=none) (hl:s.heap.get? l=some {cls:=.type "list",data:=.seq items n})
  (hn:(ys.map (·.1)).Nodup) (hsz:ys.length<=sizeLine) (hlen:items.size=ys.length)
  (hpr:∀(i:Nat) (y:K×Value×Value),ys[i]?=some y->∃v,items[i]?=some v/\Yl s.heap v y.2.1 y.2.2)
  (hky:∀y∈ys,knd.is y.1 y.2.1=true)
  (h:∀h' tk,h'.DictOf knd s.heap.objs.size (ys.map pr2)->(∀b u,s.heap.get? b=some u->h'.get? b=some u)->Q (.ref s.heap.objs.size) {s with heap:=h',toks:=tk}) :
  z5K (z5N prog w) A (call (.type "dict") [.ref l]) Q E s:=by
 refine callType_codes (Q₁:=λobj s₁=>obj=.ref s.heap.objs.size/\s₁={s with heap:=s.heap.push {cls:=.type "dict",data:=.dict #[]}}) PySem.F.kt_called_dict (PySem.F.kt_typeCall_dict_1 _) PySem.F.entry_dict_init (kt_code_dict_new _ ⟨rfl,rfl⟩) ?_
 rintro obj s₁ ⟨rfl,rfl⟩
 have ll:=z5O hl
 have hnew:(s.heap.push {cls:=.type "dict",data:=.dict #[]}).DictOf knd s.heap.objs.size []:=zdO s.heap
 have hl1:=z5C (h:=s.heap) {cls:=.type "dict",data:=.dict #[]} hl
 have hT1:z9P {s with heap:=s.heap.push {cls:=.type "dict",data:=.dict #[]}} (.ref l) "list":=⟨_,hl1,rfl⟩
 refine⟨hnew.typeIs,PySem.F.args_dict_init_2 _ _,?_⟩
 unfold z99.«dict.__init__»
 refine z5z ?_
 unfold zd8
 refine z5z (wpAny_notOrdered_dict hnew.typeIs ?_)
 show z5K _ _ (pure (s.heap.objs.size,[z61 l])) _ _ _
 refine z5E ?_
 show z5K _ _ (za3 "dict.__init__" s.heap.objs.size (.ref l) [] .none) _ _ _
 unfold za3
 refine z5z (z8B hT1 ?_)
 rw[if_pos (by decide)]
 have hA:A.in1.in1.handled=none:=by simp[hh]
 refine z5z (J6 (A:=A.in1.in1) hl1 rfl rfl rfl hA λh2 tk2 k2=>?_)
 have hl2:=k2 _ _ hl1
 have hL2:h2.IsList l items:=⟨_,hl2,rfl,n,rfl⟩
 have lt2:s.heap.objs.size<h2.objs.size:=by
  obtain⟨o,_,_,e,_⟩:=id hnew
  exact z5O (k2 _ _ e)
 simp only[Option.isNone_none,if_true]
 refine z5z (zad ?_)
 refine z5z (z7V hL2 ?_)
 refine z5E ⟨z8g qv _,?_⟩
 have kall:∀b u,s.heap.get? b=some u->(h2.push {cls:=.type "list_iterator",data:=.fields #[.ref l,.int 0 0]}).get? b=some u:=λb u e=>z5C _ (k2 _ _ (z5C _ e))
 have old:∀b u,s.heap.get? b=some u->b≠s.heap.objs.size/\b≠h2.objs.size:=λb u e=>by
  have:=z5O e
  constructor
  ·exact z5Z this
  ·exact z5Z (zbx this lt2)
 have hD:(h2.push {cls:=.type "list_iterator",data:=.fields #[.ref l,.int 0 0]}).DictOf knd s.heap.objs.size ((ys.take 0).map pr2):=by
  obtain⟨o,es,ep,e1,e2⟩:=id hnew
  exact⟨o,es,ep,z5C _ (k2 _ _ e1),e2⟩
 refine Wu (A:=A.in1) (l:=l) (items:=items) (ys:=ys) hA (z5Z lt2) (z7L ll) (z5Z (zbx ll lt2)) hn hsz hlen s.heap (λi y hy=>?_) hky ys.length 0 _ 0 (by omega) (z8r _) ⟨_,z5Y _ rfl,rfl,rfl⟩ (hL2.push _) hD (λb u _ _ e=>kall b u e) λh3 tk3 hD3 k3=>⟨rfl,h h3 tk3 hD3 λb u e=>k3 b u (old b u e).1 (old b u e).2 (kall b u e)⟩
 obtain⟨v,h1,h2'⟩:=hpr i y hy
 refine⟨v,h1,h2',λz=>?_,λz=>?_⟩
 ·obtain⟨t,o,m,rfl,e,_⟩:=h2'
  cases z
  exact (old _ _ e).1 rfl
 ·obtain⟨t,o,m,rfl,e,_⟩:=h2'
  cases z
  exact (old _ _ e).2 rfl
end
noncomputable abbrev z0d(t:T)(μ:Mem):RE T:=λK _=>∃ns:List Int,t=.lst (ns.map λn=>.tup [.int n,.int 1])/\ns.Nodup/\ns.length<=1000/\K (.mut μ.length) (μ++[.dic (ns.map λn=>(.inl n,.int 1))])
noncomputable abbrev um(t:T)(μ:Mem):RE T:=match t with
 |.mut i=>λK _=>∃kvs,μ[i]?=some (.dic kvs)/\K (.int kvs.length) μ
 |_=>.st
section
variable {X:Cx}{D:DP}{W:XW}{Γ:Cn}{k:Nat}{pins:List (Addr×Obj)}{s:Shared}{σ:St}{H:Hp}{φ α:List Addr}{τ:Sl}{μ:Mem}{a:Expr}{pos:Pos}{f:De}
theorem Y5{a b:V}{us:List Value}(r:Vals [a,b] us):∃u1 u2,us=[u1,u2]/\RelV a u1/\RelV b u2:=by
 cases r with
 |cons e1 e2=>cases e2 with
  |cons e3 e4=>cases e4;exact⟨_,_,rfl,e1,e3⟩
theorem QC{P:z6f}{w:z6w}{h:Heap}(ok:HOk P w H h):∀{ns:List Int} {ws:List V} {us:List Value},DenL D φ α H (ns.map λn=>T.tup [.int n,.int 1]) ws->Vals ws us->∃ys:List (Key×Value×Value),ys.map (·.1)=ns.map .inl/\us.length=ys.length/\(∀(i:Nat) y,ys[i]?=some y->∃v,us[i]?=some v/\Yl h v y.2.1 y.2.2)/\∀y∈ys,(wz P w).is y.1 y.2.1=true/\RelV (.int 1) y.2.2
 |[],ws,us,l,r=>by
  have l:ws=[]:=l
  subst l
  cases r
  exact⟨[],rfl,rfl,by simp,by simp⟩
 |p::ns,_,_,l,r=>by
  obtain⟨v,ws,rfl,d,l⟩:=l
  cases r with
  |cons r1 r2=>
   rename_i u us
   obtain⟨ys,h1,h2,h3,h4⟩:=QC ok l r2
   obtain⟨t,zs,rfl,_,_,rt,ly⟩:=d
   obtain⟨v1,q1,rfl,d1,v2,q2,rfl,d2,d3⟩:=ly
   have d1:v1=.int p:=d1
   have d2:v2=.int 1:=d2
   have d3:q2=[]:=d3
   subst d1 d2 d3
   cases r1
   obtain⟨_,its,rv,o,g1,g2,m,g3⟩:=(show ObjOk P w H h t (.tup [.int p,.int 1]) from rt.ok ok)
   obtain⟨u1,u2,rfl,⟨tk1,rfl⟩,e3⟩:=Y5 rv
   refine⟨(.inl p,.int p tk1,u2)::ys,by rw[z6V,h1];rfl,by simp[h2],λi y hy=>?_,λy hy=>?_⟩
   ·cases i with
    |zero=>
     have hy:((.inl p:Key),zbK p tk1,u2)=y:=by simpa using hy
     subst hy
     exact⟨.ref t,rfl,t,o,m,rfl,g1,g2,g3⟩
    |succ i=>exact h3 i y (by simpa using hy)
   ·rcases z65.mp hy with rfl|hy
    ·exact⟨Qa P w p tk1,e3⟩
    ·exact h4 y hy
theorem V8:∀{ns:List Int} {ys:List (Key×Value×Value)},ys.map (·.1)=ns.map .inl->(∀y∈ys,RelV (.int 1) y.2.2)->KV (ns.map λn=>((.inl n:Key),V.int 1)) (ys.map pr2)
 |[],[],_,_=>.nil
 |[],_::_,e,_=>by cases e
 |_::_,[],e,_=>by cases e
 |n::ns,y::ys,e,h=>by
  obtain⟨e1,e2⟩:=List.cons.inj e
  exact .cons ⟨e1.symm,h y z5_⟩ (V8 e2 λz hz=>h z (z5M _ hz))
theorem uV:∀{ns:List Int},DenK D φ α H (ns.map λn=>((.inl n:Key),T.int 1)) (ns.map λn=>((.inl n:Key),V.int 1))
 |[]=>rfl
 |n::ns=>⟨.int 1,_,rfl,rfl,uV⟩
theorem z3h(hc:X.calm=true):B1 X D W (.type "dict") z0d:=by
 intro pins s σ H φ α μ t v u Q I mr d r p
 obtain⟨K,Z,⟨ns,rfl,nd,n1,hK⟩,hk,hz⟩:=p
 obtain⟨ad,ws,rfl,_,_,rd,l⟩:=d
 cases r
 obtain⟨z,its,m,rv,hl⟩:=(show ObjOk X.prog X.w H s.heap ad (.lst ws) from rd.ok I.hok)
 obtain⟨ys,e1,e2,e3,e4⟩:=QC I.hok l rv
 have ln:ys.length=ns.length:=by rw[←z5R (f:=(·.1)),e1,z5R]
 have hp:H s.heap.objs.size=none:=I.hok.fresh (z5H _)
 refine Qj (knd:=wz X.prog X.w) (ys:=ys) (I.ok.hd hc) hl (by rw[e1];exact zdJ _ (λa b h e=>h (zds e)) nd) (by rw[ln];exact z62 n1 (by decide)) (by rw[z5W];exact e2) (λi y hy=>?_) (λy hy=>(e4 y hy).1) λh' tk dd kp=>?_
 ·obtain⟨v,hv,hp⟩:=e3 i y hy
  exact⟨v,by simpa using hv,hp⟩
 ·have sz:(s.heap.objs.size == z8n)=false:=beq_eq_false_iff_ne.mpr (z6k (z5Z I.big))
  refine⟨.ref s.heap.objs.size,_,I.laid (a:=s.heap.objs.size) (o:=.dK (ns.map λn=>((.inl n:Key),V.int 1))) (t':=tk) kp (z5H _) ⟨by rw[z5R];exact z62 n1 (by decide),sz,_,V8 e1 λy hy=>(e4 y hy).2,dd⟩,rfl,?_⟩
  exact hk _ _ hK _ _ (vn hp) (mr.add (u:=.dK (ns.map λn=>((.inl n:Key),V.int 1))) hp ⟨_,zd,uV⟩) _ ⟨_,by rw[←mr.len,z5U (z5H _)];simp,rfl⟩
theorem z3c:B1 X D W (.builtin "len") um:=by
 intro pins s σ H φ α μ t v u Q I mr d r p
 unfold um at p
 split at p
 ·rename_i i
  obtain⟨K,Z,⟨kvs,hi,hK⟩,hk,hz⟩:=p
  obtain⟨ad,hi',rfl⟩:=d
  cases r
  obtain⟨gs,h1,h2⟩:=mr.ob i ad _ hi' hi
  obtain⟨g1,g2,vs,g3,g4⟩:=z4d I.hok h1
  have e1:gs.length=kvs.length:=QS h2
  have e2:vs.length=gs.length:=g3.length.symm
  refine call_len_dict g2 g4 (by rw[e2];have:gs.length<2 ^ 62:=z9s g1 (by rw[z6t];decide);omega) ?_
  refine⟨.int vs.length,H,I.kept (h':=s.heap) λ_ _ q=>q,⟨_,rfl⟩,?_⟩
  rw[e2,e1]
  exact hk _ _ hK α H (Stp.refl _ _) mr _ rfl
 ·exact Post.elim p
end
noncomputable def z1H:Expr->Bool
 |.Call (.Name x _) _ _ _=>x == ("dict":Str)
 |_=>false
noncomputable def z0q:ER:=rB1 "dict" z0d true
theorem XX{D:DP}:EOk D z0q:=jv λC hx hg hc hs ha=>z4M C hx hg (by decide +kernel) (by decide) hs (z3h (C.clm (hc rfl))) ha
noncomputable def z5n:Expr->Bool
 |.Call _ [a] _ _=>z1H a
 |_=>false
noncomputable def z0O:ER:=λr Γ e=>gd (z5n e) (rB1 "len" um false r Γ e)
theorem Kd{D:DP}:EOk D z0O:=by
 intro r H X W Γ k e d C h
 obtain⟨_,h⟩:=zr h
 exact jv (nm:="len") (op:=um) (cl:=false) (λC hx hg hc hs ha=>uq C hx hg (by decide +kernel) (by decide) hs z3c ha) r H C h
theorem uO:∀(f n r:Nat),r<=1->minRun' f n r<=n+r
 |0,n,r,_=>z5H _
 |f+1,n,r,h=>by
  rw[minRun'_succ]
  split
  ·exact z5H _
  ·have h1:max r (n % 2)<=1:=by omega
   have:=uO f (n / 2) (max r (n % 2)) h1
   omega
section
variable {prog:Program}{w:World}{A:Around}{E:Value->Shared->Prop}{s:Shared}{a₀:Array Keyed}
theorem Y6{st:zdm}{Q:Option Nat->zdm->Prop}(h0:IntKeys a₀)(h1:1<=a₀.size)(hB:SBase a₀ st)(hs:SortedTo (zbZ st) a₀.size)(q:Q (some a₀.size) st) :
  wpS (z5N prog w) A E s (countRun' 0 a₀.size) Q st:=by
 rw[countRun0_eq]
 refine z9x (wpS_ascLoop h0 (z5H _) (z5H 1) h1 hB (λi j hij hj=>by
  have:i=j:=by omega
  subst this;exact z9J _) λn n1 n2 _ o=>?_)
 have e:n=a₀.size:=by
  by_cases c:n=a₀.size
  ·exact c
  ·have:=hs (n-1) n (by omega) (by omega)
   have:=o.resolve_left c
   omega
 subst e
 dsimp only
 rw[if_pos (by simp)]
 exact zbD q
theorem Uq{st:zdm}{Q:Unit->zdm->Prop}(h0:IntKeys a₀)(h1:1<=a₀.size)(hB:SBase a₀ st)(hs:SortedTo (zbZ st) a₀.size)(q:∀st',zbZ st'=zbZ st->zbE st'=none->Q () st') :
  wpS (z5N prog w) A E s sortRuns' Q st:=by
 rw[sortRuns'_eq]
 refine z9x (wpS_get ?_)
 dsimp only
 rw[hB.size]
 have mr:minRun' a₀.size a₀.size 0<=a₀.size:=uO _ _ 0 (by omega)
 generalize minRun' a₀.size a₀.size 0=mn at mr
 generalize hfin:setPending st #[(0,a₀.size,0)]=fin
 have f1:zbZ fin=zbZ st:=by rw[←hfin]
 have f2:zbE fin=none:=by rw[←hfin];exact hB.failed
 have f3:pendingOf fin=#[(0,a₀.size,0)]:=by rw[←hfin]
 refine z9x (wpS_mono (wpS_forRange
  (I:=λx c st'=>(x=0/\c=(none,0)/\st'=st)\/(1<=x/\c=(none,a₀.size)/\st'=fin))
  (Q:=λc st'=>c=(none,a₀.size)/\st'=fin) ?step ?last (.inl ⟨rfl,rfl,rfl⟩)) ?post)
 case last=>
  rintro c st' (⟨hx,_,_⟩|⟨_,hc,hD⟩)
  ·omega
  ·exact⟨hc,hD⟩
 case step=>
  rintro x c st' _ hx (⟨rfl,rfl,rfl⟩|⟨hx1,rfl,rfl⟩)
  ·dsimp only
   rw[if_neg (by omega)]
   simp only[zdn,zbF]
   refine z9x (Y6 h0 h1 hB hs ?_)
   dsimp only
   rw[if_neg (by omega)]
   refine z9x (wpS_get ?_)
   have hb:(pendingOf st').back?=none:=by rw[hB.pend];rfl
   rw[hb]
   dsimp only
   refine z9x (wpS_modify (zbD (.inr ⟨by omega,rfl,?_⟩)))
   rw[←hfin,hB.pend]
   rfl
  ·dsimp only
   rw[if_pos (z5H _)]
   exact zbD ⟨rfl,rfl⟩
 case post=>
  rintro c st' ⟨rfl,rfl⟩
  dsimp only
  refine z9x (wpS_mono (wpS_forRange (I:=λ_ c st''=>st''=st'/\c=(none,())) (Q:=λc st''=>st''=st'/\c=(none,())) ?_ (λ_ _ hh=>hh) ⟨rfl,rfl⟩) ?_)
  ·rintro x c st'' _ _ ⟨rfl,rfl⟩
   refine z9x (wpS_get ?_)
   rw[if_pos (by rw[f3];exact z5H 1)]
   exact zbD ⟨rfl,rfl⟩
  ·rintro c st'' ⟨rfl,rfl⟩
   exact zbD (q _ f1 f2)
theorem Ya{vs:List Value}{ns:List Int}(hI:z75 vs ns)(hp:ns.Pairwise (·<=·)):SortedTo (zai vs) (zai vs).size:=by
 intro i j hij hj
 rw[pairsOf_size] at hj
 have key:∀k,k<vs.length->∃n:Int,ns[k]?=some n/\zcF (zai vs) k=n:=λk hk=>by
  have e:(zai vs)[k]?=some (vs[k],vs[k]):=by
   rw[←zau,pairsOf_toList]
   simp[List.getElem?_zip_eq_some,hk]
  obtain⟨n,t,e1,e2⟩:=IntsAre.at hI k vs[k] (z6D hk)
  refine⟨n,e2,?_⟩
  unfold zcF
  rw[e,e1]
  rfl
 obtain⟨n,e1,e2⟩:=key i (by omega)
 obtain⟨m,e3,e4⟩:=key j hj
 rw[e2,e4]
 obtain⟨l1,g1⟩:=z5A.mp e1
 obtain⟨l2,g2⟩:=z5A.mp e3
 by_cases c:i=j
 ·subst c;rw[e1] at e3;cases e3;exact z9J _
 ·have:=List.pairwise_iff_getElem.mp hp i j l1 l2 (by omega)
  rw[g1,g2] at this
  exact this
theorem J7(vs:List Value):(zai vs).map (·.2)=vs.toArray:=by
 apply Array.toList_inj.mp
 rw[Array.toList_map,pairsOf_toList]
 simp[List.map_snd_zip]
theorem YV {a:Addr} {vs:List Value} {ns:List Int} {n:Nat} {P:Fin->z5D->Prop} (ho:s.heap.get? a=some (z83 "list" vs.toArray n)) (hI:z75 vs ns) (hp:ns.Pairwise (·<=·)) (hl:vs.length<=1000)
  (q:P (.done (.ret .none)) {s with heap:=sortedHeap s.heap a vs vs.toArray}):z5K (z5N prog w) A (z99.«list.sort» ⟨[.ref a],[]⟩) P E s:=by
 rw[list_sort_plain]
 have ha:a<s.heap.objs.size:=z5O ho
 have z1:∀m:Nat,m<=1000->m<=sizeLine:=λm h=>by rw[z6t];omega
 refine z5z (listItems_at ho rfl ?_)
 refine z5z (listUpdate_at ho rfl ?_ (by rw[z5W];exact z1 _ hl))
 obtain⟨e1,o1⟩:∃e1,(s.heap.update a (z7g λ_=>#[])).get? a=some (z83 "list" #[] e1):=⟨_,zar ho (λ_=>#[])⟩
 refine z5z (seqEpoch_at o1 rfl ?_)
 refine z5z (wpAny_newTuple ?_)
 refine z5z (zaY ?_)
 refine z60 ?_
 have o2:(((s.heap.update a (z7g λ_=>#[])).push (z83 "tuple" vs.toArray 0)).push (z83 "list" #[] 0)).get? a=some (z83 "list" #[] e1):=by
  rw[zbG,zbG]
  ·exact o1
  ·rw[za4];exact z5Z ha
  ·rw[size_push',za4];exact z5Z (z7W ha)
 show z5K (z5N prog w) A _ P E {s with heap:=((s.heap.update a (z7g λ_=>#[])).push (z83 "tuple" vs.toArray 0)).push (z83 "list" #[] 0)}
 dsimp only
 have back:∀st':zdm,zbZ st'=zai vs->zbE st'=none->z5K (z5N prog w) A (do
   let sorted:=(zbZ st').map (·.2)
   let touched:=(←seqEpoch a) != e1
   zdb (.ref a) λ_=>sorted
   if let some e:=zbE st' then rule "list.sort.comparison-raised";throw e
   if touched then rule "list.sort.modified";raiseError "ValueError" "list modified during sort"
   ret .none) P E {s with heap:=((s.heap.update a (z7g λ_=>#[])).push (z83 "tuple" vs.toArray 0)).push (z83 "list" #[] 0)}:=by
  intro st' h1 h2
  dsimp only
  refine z5z (seqEpoch_at o2 rfl ?_)
  rw[h1,J7]
  refine z5z (listUpdate_at o2 rfl ?_ (hsz2:=by rw[z5W];exact Nat.le_succ_of_le (z1 _ hl)))
  rw[h2]
  simp only[bne_self_eq_false,z8p,if_false]
  exact z5E q
 by_cases c:vs.toArray.size<2
 ·rw[if_pos c,if_pos c]
  refine z5z (z5E ?_)
  rw[StateT.run_pure]
  refine z5z (z5E ?_)
  exact back (zdG general' (vs.toArray.zip vs.toArray) #[] 7 none) rfl rfl
 ·rw[if_neg c,if_neg c]
  obtain⟨v1,v2,r,rfl⟩:∃v1 v2 r,vs=v1::v2::r:=by
   rcases vs with _|⟨v1,_|⟨v2,r⟩⟩
   ·simp at c
   ·simp at c
   ·exact⟨v1,v2,r,rfl⟩
  rw[keyKind_ints hI]
  refine z5z (z5E ?_)
  refine z5z (z6j (Uq (a₀:=zai (v1::v2::r)) (st:=zdG oneType' ((v1::v2::r).toArray.zip (v1::v2::r).toArray) #[] 7 none)
   (Q:=λ_ st'=>zbZ st'=zai (v1::v2::r)/\zbE st'=none) hI.intKeys (by rw[pairsOf_size];simp) ⟨Array.Perm.refl _,rfl,rfl,rfl⟩ (Ya hI hp) λst' a1 a2=>⟨a1,a2⟩) ?_ λ_ _ e=>e)
  rintro⟨⟨⟩,st'⟩ s' ⟨rfl,h1,h2⟩
  exact back st' h1 h2
theorem VX{l:Addr}{vs:List Value}{ns:List Int}{Q:Value->z5D->Prop}(hl:s.heap.IsList l vs.toArray)(hI:z75 vs ns)(hp:ns.Pairwise (·<=·))(hz:vs.length<=1000)
  (q:Q (.ref (s.heap.objs.size+1)) {s with heap:=sortedAll s.heap vs vs.toArray}):z5K (z5N prog w) A (call (.builtin "sorted") [.ref l]) Q E s:=by
 refine Calls.call_function_entry kind_sorted plain_sorted entry_sorted (args_sorted1 _) ?_
 unfold z99.«sorted»
 refine z5z (m:=checkCount "sorted" 1 1 _) (z5E ?_)
 refine z5z (collect_list hl ?_ (by rw[z6t];omega))
 refine z5z (zaY ?_)
 generalize eh:(s.heap.push (z83 "list" #[] 0)).update s.heap.objs.size (z7g (·++vs.toArray))=h
 have es:h.objs.size=s.heap.objs.size+1:=by rw[←eh,za4,size_push']
 show z5K _ _ _ _ _ {s with heap:=h.push (z83 "list" vs.toArray 0)}
 have o:(h.push (z83 "list" vs.toArray 0)).get? (s.heap.objs.size+1)=some (z83 "list" vs.toArray 0):=by rw[←es];exact z5Y _ rfl
 rw[es]
 refine z5z (z60 (z9V slot_list_sort ⟨_,o,rfl⟩ entry_list_sort (YV o hI hp hz ⟨_,rfl,?_⟩) (args_list_sort _)))
 refine z5E ⟨_,rfl,?_⟩
 unfold sortedAll at q
 rw[eh] at q
 exact q
end
noncomputable abbrev xT(t:T)(μ:Mem):RE T:=match t with
 |.mut i=>λK _=>∃ns:List Int,μ[i]?=some (.lst (ns.map T.int))/\ns.Pairwise (·<=·)/\ns.length<=1000/\K (.lst (ns.map T.int)) μ
 |_=>.st
theorem kO:∀ns:List Int,intsOf (ns.map T.int)=some ns
 |[]=>rfl
 |n::ns=>by show (intsOf (ns.map T.int)).map (n::·)=_;rw[kO ns];rfl
section
variable {X:Cx}{D:DP}{W:XW}{Γ:Cn}{k:Nat}{pins:List (Addr×Obj)}{s:Shared}{σ:St}{H:Hp}{φ α:List Addr}{τ:Sl}{μ:Mem}
theorem Uy:B1 X D W (.builtin "sorted") xT:=by
 intro pins s σ H φ α μ t v u Q I mr d r p
 unfold xT at p
 split at p
 ·obtain⟨K0,Z0,⟨ns,hj,hp,hl,hk⟩,k1,k2⟩:=p
  obtain⟨ad,hi,rfl⟩:=d
  cases r
  obtain⟨xs,q,l⟩:=mr.ob _ ad _ hi hj
  obtain⟨its,rv,pl,hz⟩:=I.list (.inl (.inl q))
  have ev:=qC (kO ns) l
  subst ev
  have el:=rv.length
  rw[z5R] at el
  refine VX pl.isList (intsAre_of rv) hp (by omega) ?_
  obtain⟨e,he⟩:=sortedAll_at s.heap its its.toArray
  have hf:H (s.heap.objs.size+1)=none:=I.hok.fresh (z7r _)
  refine⟨.ref (s.heap.objs.size+1),upd H (s.heap.objs.size+1) (.lst (ns.map V.int)),I.laid (t':=s.toks) (λb o e=>sortedAll_old e) (z7r _) (show ObjOk X.prog X.w _ _ _ (.lst (ns.map V.int)) from ⟨by rw[z5R,z6t];omega,its,e,rv,he⟩),rfl,?_⟩
  exact k1 _ μ hk α _ (Stp.new (zj hf)) (mr.new (zj hf)) _ ⟨_,_,rfl,zp mr hf,zq mr hf,.inl zd,Qd⟩
 ·exact p.elim
end
noncomputable def Xn:ER:=rB1 "sorted" xT false
theorem VU{D:DP}:EOk D Xn:=jv λC hx hg _ hs ha=>uq C hx hg (by decide +kernel) (by decide) hs Uy ha
end NH
namespace NH.P
open PySem L2 NH
@[reducible] noncomputable def vN:List Ds:=[(sIf (tE (zt .Eq (jh [(eV 1),(eV 2)]) (zR 45 vy (eV 0) []))) [Kl] []),(qH (eV 0) 20 (eC (.bl true))),(zJ (z0V [(0,(K5 [(zJ (QL (eV 2) (eV 0))),(sIf (tE (zt .Eq (eB1 ja (eV 2)) (eV 1))) [(sIf (tE (zt .Eq (eV 3) (eC (.int 0)))) [(zG 8 [(eC (.str "fall"))])] []),(sIf (tE (zt .Eq (eV 3) (eC (.int 1)))) [(zG 16 [(eC (.str "fall"))])] []),(sIf (tE (zt .Eq (eV 3) (eC (.int 2)))) [(zG 24 [(eC (.str "fall"))])] []),(zG 9 [(eC (.str "fall"))])] [])])),(1,(eC .non))] 16 (eV 0) (jh [(eV 1),(eV 2)]))),(qH (eV 0) 20 (eC (.bl false))),(qH (eV 0) 6 (eV 1)),(qH (eV 0) 17 (eV 2))]
noncomputable def qa:Fn:=fnW 3 0 vN
@[reducible] noncomputable def qV:List Ds:=[(zJ (zR 45 zF (eV 0) [])),(zJ (zf wI [(zm (eV 0) 9),(eV 1)])),(zJ (zR 45 qa (eV 0) [(eV 1),(zm (eV 0) 17)]))]
noncomputable def zh:Fn:=fnW 2 0 qV
@[reducible] noncomputable def wx:List Ds:=[(zJ (zR 45 zF (eV 0) [])),(zx 3 (zR 45 qh (eV 0) [(eV 1),(eV 2)])),(zJ (zR 45 qa (eV 0) [(zm (eV 0) 6),(zR 45 qc (eV 0) [(zo .FloorDiv (zo .Sub (zm (eV 3) 13) (eC (.int 1))) (zm (zm (eV 0) 9) 2))])])),(qH (eV 0) 18 (zf jV [(zm (eV 0) 9),(zm (eV 3) 11),(zo .Sub (zm (eV 3) 13) (eC (.int 1)))])),(zA (eV 3))]
noncomputable def zL:Fn:=fnW 3 1 wx
@[reducible] noncomputable def j4:List Ds:=[(zx 3 (zR 45 zL (eV 0) [(eV 1),(eV 2)])),(qH (eV 0) 19 (kq [])),(zA (zf zZ [(zm (eV 0) 9),(eV 3)]))]
noncomputable def zQ:Fn:=fnW 3 1 j4
@[reducible] noncomputable def vA:List Ds:=[(zx 3 (zR 45 zL (eV 0) [(eV 1),(eV 2)])),(zJ (QL (zm (eV 0) 19) (eV 3))),(zA (zf wV [(zm (eV 0) 19)]))]
noncomputable def zO:Fn:=fnW 3 1 vA
@[reducible] noncomputable def q_:List Ds:=[(zJ (zR 45 zF (eV 0) [])),(zJ (zR 45 zK (eV 0) [])),(zx 1 (jh [(zm (eV 0) 6),(zf xu [(zm (eV 0) 6),(zR 45 qd (eV 0) [])])])),(zJ (zR 45 qa (eV 0) [(eC .non),(zm (eV 0) 17)])),(qH (eV 0) 19 (kq [])),(zA (eV 1))]
noncomputable def zH:Fn:=fnW 1 1 q_
@[reducible] noncomputable def vk:List Ds:=[(zx 3 (xX 0 0 [0,2,1])),(zA (eV 3))]
noncomputable def wO:Fn:=fnW 3 1 vk
@[reducible] noncomputable def y0:List Ds:=[(X8 [(sIf (tE (zt .Eq (eV 1) (eC (.int 0)))) [(zJ (zR 45 zQ (eV 0) [(eC (.int 5)),(eC (.int 1))]))] [(sIf (tE (zt .Eq (eV 1) (eC (.int 1)))) [(zJ (zR 45 zQ (eV 0) [(eC .non),(eC (.int 0))]))] [(sIf (tE (zt .Eq (eV 1) (eC (.int 2)))) [(zJ (Vi 45 zO (.int 1) (eV 0) [(eC (.int 5))]))] [(sIf (tE (zt .Eq (eV 1) (eC (.int 3)))) [(zJ (zR 45 zU (eV 0) [(eC (.int 0))]))] [(sIf (tE (zt .Eq (eV 1) (eC (.int 4)))) [(zJ (Vi 45 zU (.int 1) (eV 0) []))] [(sIf (tE (zt .Eq (eV 1) (eC (.int 5)))) [(zJ (zR 45 zH (eV 0) []))] [(sIf (tE (zt .Eq (eV 1) (eC (.int 6)))) [(zJ (zR 45 zh (eV 0) [(eC .non)]))] [(zJ (zR 45 zh (eV 0) [(eV 2)]))])])])])])])])] [([24],some 3,[(zA (ZS (Zb [11] (eV 3)) (ZS (XD (Zb [20] (eV 3))) (XD (Zb [16] (eV 3))))))])]),(zA (eC (.bl false)))]
noncomputable def wQ:Fn:=fnW 3 1 y0
@[reducible] noncomputable def yd:List Ds:=[(X8 [(sIf (tE (zt .Lt (eV 1) (eC (.int 3)))) [(zA (zR 45 zQ (eV 0) [(eV 2),(eV 3)]))] []),(sIf (tE (zt .Lt (eV 1) (eC (.int 5)))) [(zA (eSl (zR 45 zU (eV 0) [(zR 45 zO (eV 0) [(eV 2),(eV 3)])]) pN (pS (eV 3))))] []),(zJ (zR 45 zh (eV 0) [(eV 4)]))] [([21],none,[(zA (kY []))]),([8,9,16,24],none,[(zA (eC .non))])]),(zA (kY []))]
noncomputable def qy:Fn:=fnW 5 0 yd
@[reducible] noncomputable def k7:List Ds:=[(zx 4 (YA 45 zE [(eV 0),(eC (.int 3)),(eC (.int 0)),(zf wO [(zo .Add (eC (.int 1)) (eV 3)),(eV 2),(kq [])])])),(zx 5 (zf qy [(eV 4),(eC (.int 5)),(eC (.int 0)),(eC (.int 1)),(eV 1)])),(sIf (xh (tE (zt .Eq (eV 3) (eC (.int 1)))) (tE (zt .Eq (eV 5) (kq [])))) [(X8 [(zJ (zR 45 zH (eV 4) []))] [([8,9,16,24],none,[(zx 5 (eC .non))])])] []),(zA (ZS (zt .Is (eV 5) (eC .non)) (eB1 JP (qR 1 [4,1] (.one 0) (Xq (eC (.int 8))) [] (zf wQ [(eV 1),(eV 0),(eV 2)])))))]
noncomputable def xq:Fn:=fnW 4 2 k7
@[reducible] noncomputable def vR:List Ds:=[(zx 1 (zf wX [(zf wW [(eV 0),(eC (.int 0))])])),(zx 2 (zo .Add (eC (.int 1)) (zf zB [(eV 1),(eC (.int 5))]))),(zx 3 (zf zB [(eV 1),(eC (.int 3))])),(zx 4 (eC (.int 900))),(zx 5 (eMk 40 vf [(eV 4),(eC (.int 3)),(eV 2)])),(zx 6 (eIx (kY [(eC (.int 0)),(zf zB [(eV 1),(eC (.int 4))])]) (zf zB [(eV 1),(eC (.int 2))]))),(zx 7 (zo .Add (eC (.int 2)) (zf zB [(eV 1),(eC (.int 5))]))),(zx 8 (kq [])),(zx 9 (YA 45 zE [(eV 5),(eC (.int 3)),(eV 6),(zf wO [(eV 7),(zf zB [(eV 1),(eC (.int 4))]),(eV 8)])])),(zJ (zR 45 zh (eV 9) [(jh [(eV 3),(eC (.int 0)),(eV 4)])])),(sIf (w_ (tE (zf xq [(eV 5),(jh [(eV 3),(eC (.int 0)),(eV 4)]),(zf zB [(eV 1),(eC (.int 4))]),(zf zB [(eV 1),(eC (.int 2))])]))) [(zA (eC (.bl false)))] []),(zx 10 (zf zB [(eV 1),(eC (.int 2))])),(zx 11 (kq [])),(zx 12 (eC (.int 0))),(zx 13 (eC (.bl false))),(K1 (.one 14) (iE (zo .Add (kY [(zf wW [(eV 0),(eC (.int 1))])]) (eSl (eV 0) (pS (eC (.int 2))) (pS (eC (.int 24)))))) [(zx 1 (zf wX [(eV 14)])),(zx 12 (zo .Add (eV 12) (zf zB [(eV 1),(eC (.int 5))]))),(zx 15 (zo .Add (eC (.int 1)) (zf zB [(eV 1),(eV 2)]))),(zx 16 (jh [(eV 3),(eC (.int 0)),(zo .Sub (eV 4) (zf zB [(eV 1),(eC (.int 9))]))])),(zx 17 (zf qy [(eV 9),(zf zB [(eV 1),(eC (.int 6))]),(eV 12),(eV 15),(eV 16)])),(sIf (tE (zt .Is (eV 17) (eC .non))) [(sIf (tOr (tE (eV 13)) (tOr (tE (zt .NotEq (eB1 ja (eV 8)) (eV 7))) (w_ (tE (eB1 JP (qR 1 [9,16] (.one 0) (Xq (eC (.int 8))) [] (zf wQ [(eV 1),(eV 0),(eV 2)]))))))) [(zA (eC (.bl false)))] []),(zx 13 (eC (.bl true))),(zx 18 (eIx (eV 8) (zo .Sub (zo .Sub (eV 7) (eC (.int 1))) (eV 10)))),(zx 9 (z0j 45 zE [(eV 5),(eC (.int 3)),(eV 6),(xX 1 1 []),(eV 18)])),(zx 12 (eB1 Xm (zo .Add (kY [(eV 12)]) (qR 1 [] (.one 0) (iE (kY [(eIx (eV 18) (eC (.int 1)))])) [(tE (zt .IsNot (eV 0) (eC .non)))] (zo .Add (eV 0) (eC (.int 1)))))))] [(zJ (KD (eV 11) (eV 17)))])]),(sIf (tOr (tE (zt .NotEq (eV 13) (zt .GtE (eB1 ja (eV 8)) (eV 7)))) (tOr (tE (zt .NotEq (eB1 xT (eV 11)) (eV 11))) (tE (zt .NotEq (eB1 ja (eV 11)) (eB1 um (eB1 z0d (qR 1 [] (.one 0) (iE (eV 11)) [] (jh [(eV 0),(eC (.int 1))])))))))) [(zA (eC (.bl false)))] []),(zA (zt .Eq (qR 1 [2,3] (.one 0) (iE (eV 11)) [(tE (zt .NotEq (zo .Mod (zo .FloorDiv (eV 0) (eV 1)) (eC (.int 3))) (eV 2)))] (eV 0)) (kY [])))]
noncomputable def k6:Fn:=fnW 1 18 vR
end NH.P
namespace NH.K43
open PySem PySem.Spec PyProof.Rows L2 NH NH.P
noncomputable def st(i:Nat):Stmt:=PySem.Challenge.pw_namehouses_k43_keepers_that_raise.main.body.getD i (.Pass ⟨0,0,0,0⟩)
noncomputable def cls:List (Str×Nat):=[("Fallen",24),("NoTime",16),("TooMany",20),("ValueError",11),("Wait",21),("bool",1),("int",2),("tuple",4)]
noncomputable def fld:List (Str×Nat):=[("moments",0),("houses",1),("counts",2),("lease",6),("shape",9),("house",11),("begin",12),("end",13),("ahead",14),("stride",15),("keeper",16),("mark",17),("newest",18),("batches",19),("has_fallen",20),("by",29)]
noncomputable def RU:Rules:=⟨[z0O,z0q,z0s,z2r,KW,z1u,z4U,z29,z49,rUn,z0L,z3Q,z44,z3W,z2G,z4N,z2H,z4P,z3I,z2b,z4f,Xv,z0v,z0H,Xn,z3o,XY,z4n,z2h,z1A,z0J],[z0Q],[Kz],[KR,riE],[WR,K_,WW],[z0I,z0B,z3S,z0D,z0P,KS,WA,WL,z0C,J_]⟩
theorem kW{D:DP}:RulesOk D RU:=⟨⟨Kd,XX,X2,Ul,JV,UY,UA,z04,UD,z2J,XH,UW,Uj,YU,Yr,Ug,UT,YC,Ut,Uh,U_,Ke,Xi,Yi,VU,YI,Kf,YD,z0k,U9,Y7,trivial⟩,⟨Ko,trivial⟩,⟨JM,trivial⟩,⟨Kg,z2y,trivial⟩,⟨Jo,Qn,JK,trivial⟩,⟨Y3,JX,Uw,XS,Ky,KZ,J1,JI,Y1,JU,trivial⟩⟩
noncomputable def gs0:List (Str×GM):=Vv ["KeyError","ValueError","ZeroDivisionError","all","bool","dict","int","isinstance","len","max","min","range","sorted","sum","tuple"] [("HouseError",10),("NoShape",12),("NoName",13),("NoTime",16),("NoLease",18),("TooMany",20),("Empty",22),("NoNote",23),("Fallen",24)] [("Wait",21,29)]
noncomputable def gs1:List (Str×GM):=("KeyError",GM.xbt 8 "KeyError")::gs0
noncomputable def gs2:List (Str×GM):=("ZeroDivisionError",GM.xbt 9 "ZeroDivisionError")::gs1
noncomputable def wH:=inClass (st 7) 0
noncomputable def gs3:List (Str×GM):=(hash "Wait",GM.xin 21 29 "Wait" "by")::gs2
noncomputable def gs4:List (Str×GM):=(hash "by",GM.xin 21 29 "Wait" "by")::gs3
noncomputable def yJ:=st 12
noncomputable def Wq:Cn:=cn cls fld gs4 ["thing"] ["isinstance","int","bool"] [] []
theorem WJ:zu ((comp RU 60).s Wq) (z7 yJ)=some ya:=by kernel_rfl
noncomputable def gs5:List (Str×GM):=("is_whole",GM.fn qQ)::gs4
noncomputable def uw:=st 13
noncomputable def Ji:Cn:=cn cls fld gs5 ["thing"] ["is_whole"] [] []
theorem J4:zu ((comp RU 60).s Ji) (z7 uw)=some Z6:=by kernel_rfl
noncomputable def gs6:List (Str×GM):=("is_size",GM.fn wF)::gs5
noncomputable def wU:=st 14
noncomputable def kE:Cn:=cn cls fld gs6 ["thing"] ["is_whole"] [] []
theorem ko:zu ((comp RU 60).s kE) (z7 wU)=some v7:=by kernel_rfl
noncomputable def gs7:List (Str×GM):=("is_from_nought",GM.fn qe)::gs6
noncomputable def yA:=st 15
noncomputable def W_:Cn:=cn cls fld gs7 ["thing","bound"] ["is_whole"] [] []
theorem WY:zu ((comp RU 60).s W_) (z7 yA)=some xZ:=by kernel_rfl
noncomputable def gs8:List (Str×GM):=("is_below",GM.fn qz)::gs7
noncomputable def jE:=inClass (st 16) 0
noncomputable def Zt:Cn:=cn cls fld gs8 ["self","moments","houses","counts"] ["is_size","NoShape"] [] []
theorem Za:zu ((comp RU 60).s Zt) (z7 jE)=some jP:=by kernel_rfl
noncomputable def gs9:List (Str×GM):=("Shape",GM.mk 40 true vf)::gs8
noncomputable def xM:=st 17
noncomputable def Wi:Cn:=cn cls fld gs9 ["shape"] [] [] []
theorem W0:zu ((comp RU 60).s Wi) (z7 xM)=some yI:=by kernel_rfl
noncomputable def z2M:List (Str×GM):=("names_in",GM.fn jG)::gs9
noncomputable def uE:=st 18
noncomputable def J5:Cn:=cn cls fld z2M ["shape","thing"] ["is_below","names_in"] [] []
theorem Jx:zu ((comp RU 60).s J5) (z7 uE)=some Z5:=by kernel_rfl
noncomputable def z2Q:List (Str×GM):=("is_name",GM.fn xv)::z2M
noncomputable def jM:=st 19
noncomputable def ZM:Cn:=cn cls fld z2Q ["shape","thing"] ["is_name","NoName"] [] []
theorem Zl:zu ((comp RU 60).s ZM) (z7 jM)=some jZ:=by kernel_rfl
noncomputable def z3j:List (Str×GM):=("check_name",GM.fn vd)::z2Q
noncomputable def jT:=st 20
noncomputable def ZP:Cn:=cn cls fld z3j ["thing","bound"] ["is_below","NoName"] [] []
theorem Zr:zu ((comp RU 60).s ZP) (z7 jT)=some jy:=by kernel_rfl
noncomputable def z1K:List (Str×GM):=("check_part",GM.fn qJ)::z3j
noncomputable def Z3:=st 21
noncomputable def Jl:Cn:=cn cls fld z1K ["shape","moment","house","count"] ["check_part"] [] []
theorem Jd:zu ((comp RU 60).s Jl) (z7 Z3)=some uF:=by kernel_rfl
noncomputable def z2X:List (Str×GM):=("name_of",GM.fn xw)::z1K
noncomputable def yv:=st 22
noncomputable def Wf:Cn:=cn cls fld z2X ["shape","name","count","above"] ["check_name"] [] []
theorem W3:zu ((comp RU 60).s Wf) (z7 yv)=some xN:=by kernel_rfl
noncomputable def z4Q:List (Str×GM):=("parts_of",GM.fn vE)::z2X
noncomputable def z3B:List (Str×GM):=("HOUSE",GM.cst (.int 0))::z4Q
noncomputable def z47:List (Str×GM):=("FIRST",GM.cst (.int 1))::z3B
noncomputable def z37:List (Str×GM):=("UNTIL",GM.cst (.int 2))::z47
noncomputable def yk:=st 27
noncomputable def V6:Cn:=cn cls fld z37 ["shape","thing"] ["isinstance","tuple","len","is_below","HOUSE","is_whole","FIRST","UNTIL"] [] []
theorem WQ:zu ((comp RU 60).s V6) (z7 yk)=some yr:=by kernel_rfl
noncomputable def z20:List (Str×GM):=("is_lease",GM.fn vG)::z37
noncomputable def j7:=st 28
noncomputable def ud:Cn:=cn cls fld z20 ["shape","thing"] ["is_lease","NoLease"] [] []
theorem yX:zu ((comp RU 60).s ud) (z7 j7)=some j5:=by kernel_rfl
noncomputable def z30:List (Str×GM):=("check_lease",GM.fn wI)::z20
noncomputable def uI:=st 29
noncomputable def VR:Cn:=cn cls fld z30 ["lease","moment"] ["FIRST","min","UNTIL"] [] []
theorem Jj:zu ((comp RU 60).s VR) (z7 uI)=some uR:=by kernel_rfl
noncomputable def z15:List (Str×GM):=("used_of",GM.fn xu)::z30
noncomputable def uP:=st 31
noncomputable def JG:Cn:=cn cls fld z15 ["shape","thing"] ["isinstance","tuple","len","is_lease","is_below"] [] []
theorem J2:zu ((comp RU 60).s JG) (z7 uP)=some kF:=by kernel_rfl
noncomputable def z2_:List (Str×GM):=("is_note",GM.fn xn)::z15
noncomputable def jQ:=inClass (st 32) 0
noncomputable def ZC:Cn:=cn cls fld z2_ ["self","house","begin","end"] [] [] []
theorem ZJ:zu ((comp RU 60).s ZC) (z7 jQ)=some jL:=by kernel_rfl
noncomputable def z2A:List (Str×GM):=("Batch",GM.mk 44 true qI)::z2_
noncomputable def uN:=st 33
noncomputable def Jf:Cn:=cn cls fld z2A ["shape","house","place"] ["name_of"] [] []
theorem VQ:zu ((comp RU 60).s Jf) (z7 uN)=some uW:=by kernel_rfl
noncomputable def z2R:List (Str×GM):=("name_at",GM.fn jV)::z2A
noncomputable def wo:=st 34
noncomputable def jn:Cn:=cn cls fld z2R ["shape","batch"] ["range"] ["shape","batch"] ["return"]
theorem j8:zu ((comp RU 60).s jn) (z7 wo)=some wt:=by kernel_rfl
noncomputable def z1G:List (Str×GM):=("names_of_batch",GM.fn zZ)::z2R
noncomputable def kU:=st 35
noncomputable def Qh:Cn:=cn cls fld z1G ["batches"] ["sum"] [] []
theorem QM:zu ((comp RU 60).s Qh) (z7 kU)=some kK:=by kernel_rfl
noncomputable def z1Y:List (Str×GM):=("size_of",GM.fn wV)::z1G
noncomputable def Q0:=st 36
noncomputable def JZ:Cn:=cn cls fld z1Y ["batches","many","firsts","others","rest","batch","middle"] ["min","Batch"] [] ["firsts","others","return"]
theorem Xg:zu ((comp RU 60).s JZ) (z7 Q0)=some Qi:=by kernel_rfl
noncomputable def z1o:List (Str×GM):=("parted",GM.fn parted)::z1Y
noncomputable def j3:=st 37
noncomputable def yN:Cn:=cn cls fld z1o ["shape","house","name","parts"] ["parts_of"] [] []
theorem yO:zu ((comp RU 60).s yN) (z7 j3)=some j6:=by kernel_rfl
noncomputable def z1k:List (Str×GM):=("place_above",GM.fn wC)::z1o
noncomputable def z3M:Stmt:=(sIx (z7 (st 44)) 0)
noncomputable def z4E:LamD:=⟨0,((("_law_keeper":Str)++".<locals>.")++"_law_keep"),"_law_note",(.Constant .none 0 ⟨0,0,0,0⟩),zk z3M,["_law_at","_law_calls","_law_kind"],(K5 [(zJ (QL (eV 2) (eV 0))),(sIf (tE (zt .Eq (eB1 ja (eV 2)) (eV 1))) [(sIf (tE (zt .Eq (eV 3) (eC (.int 0)))) [(zG 8 [(eC (.str "fall"))])] []),(sIf (tE (zt .Eq (eV 3) (eC (.int 1)))) [(zG 16 [(eC (.str "fall"))])] []),(sIf (tE (zt .Eq (eV 3) (eC (.int 2)))) [(zG 24 [(eC (.str "fall"))])] []),(zG 9 [(eC (.str "fall"))])] [])]),some ("_law_keep",z7 z3M)⟩
noncomputable def z42:Expr:=(z5t (z51 (sIx (subB (sIx (subB (sIx (z7 (st 48)) 15)) 5)) 3)) 3)
noncomputable def z3X:LamD:=⟨1,((("law":Str)++".<locals>.")++"<lambda>"),"_law_one",z50 z42,z5o z42,[],(eC .non),none⟩
noncomputable def UQ:List LamD:=[z4E,z3X]
noncomputable def Y8:Cn:=cn cls fld z1k [] ["Fallen","KeyError","NoTime","ZeroDivisionError","len"] [] []
noncomputable def z1V (l:LamD):List Str:=(VB l.sc).filter λx=>(["Fallen","KeyError","NoTime","ZeroDivisionError","len"]:List Str).contains x
theorem z1_:AllL (λl=>Vy (kH Y8 l (z1V l)) l=true/\z1q RU 60 (kH Y8 l (z1V l)) l) UQ:=⟨⟨by kernel_rfl,.inr ⟨_,[(zJ (QL (eV 2) (eV 0))),(sIf (tE (zt .Eq (eB1 ja (eV 2)) (eV 1))) [(sIf (tE (zt .Eq (eV 3) (eC (.int 0)))) [(zG 8 [(eC (.str "fall"))])] []),(sIf (tE (zt .Eq (eV 3) (eC (.int 1)))) [(zG 16 [(eC (.str "fall"))])] []),(sIf (tE (zt .Eq (eV 3) (eC (.int 2)))) [(zG 24 [(eC (.str "fall"))])] []),(zG 9 [(eC (.str "fall"))])] [])],rfl,by kernel_rfl,rfl⟩⟩,⟨by kernel_rfl,.inl ⟨rfl,by kernel_rfl⟩⟩,trivial⟩
noncomputable def z11:List (Str×GM):=(jr,GM.kap UQ)::z1k
noncomputable def zz:=inClass (st 38) 0
noncomputable def xV:Cn:=cn cls fld z11 ["self","shape","ahead","stride","keeper","note"] ["is_from_nought","NoTime","is_note","NoNote"] [] ["batches"]
theorem yF:zu ((comp RU 60).s xV) (z7 zz)=some vI:=by kernel_rfl
noncomputable def z3O:List (Str×GM):=("House",GM.mk 45 false zE)::z11
noncomputable def z1D:List (Str×GM):=(til "House",GM.mkd 45 "House" 4 zE)::z3O
noncomputable def wR:=inClass (st 38) 8
noncomputable def kg:Cn:=cn cls fld z1D ["self"] ["Fallen"] [] []
theorem kz:zu ((comp RU 60).s kg) (z7 wR)=some wZ:=by kernel_rfl
noncomputable def z28:List (Str×GM):=(dot "check_up",GM.met 45 "check_up" zF)::z1D
noncomputable def jB:=inClass (st 38) 7
noncomputable def Zu:Cn:=cn cls fld z28 ["self"] [] [] []
theorem Zg:zu ((comp RU 60).s Zu) (z7 jB)=some jA:=by kernel_rfl
noncomputable def z2L:List (Str×GM):=(dot "note",GM.met 45 "note" vy)::z28
noncomputable def vH:=inClass (st 38) 15
noncomputable def yD:Cn:=cn cls fld z2L ["self","lease","mark"] [] [] []
theorem yz:zu ((comp RU 60).s yD) (z7 vH)=some vN:=by kernel_rfl
noncomputable def z0U:List (Str×GM):=(dot "keep",GM.met 45 "keep" qa)::z2L
noncomputable def qT:=inClass (st 38) 1
noncomputable def vM:Cn:=cn cls fld z0U ["self","lease"] ["check_lease"] [] []
theorem vJ:zu ((comp RU 60).s vM) (z7 qT)=some qV:=by kernel_rfl
noncomputable def z13:List (Str×GM):=(dot "take_lease",GM.met 45 "take_lease" zh)::z0U
noncomputable def qr:=inClass (st 38) 9
noncomputable def wL:Cn:=cn cls fld z13 ["self"] ["NoLease"] [] []
theorem wK:zu ((comp RU 60).s wL) (z7 qr)=some qo:=by kernel_rfl
noncomputable def z33:List (Str×GM):=(dot "check_has_lease",GM.met 45 "check_has_lease" zK)::z13
noncomputable def wj:=inClass (st 38) 13
noncomputable def ju:Cn:=cn cls fld z33 ["self"] ["place_above","HOUSE"] [] []
theorem jg:zu ((comp RU 60).s ju) (z7 wj)=some wm:=by kernel_rfl
noncomputable def z3d:List (Str×GM):=(dot "free_place",GM.met 45 "free_place" qk)::z33
noncomputable def wu:=inClass (st 38) 12
noncomputable def jo:Cn:=cn cls fld z3d ["self","reading","many","least","begin","end","by"] ["is_size","TooMany","is_whole","NoTime","max","FIRST","UNTIL","NoLease","Wait","Batch","HOUSE"] [] []
theorem jq:zu ((comp RU 60).s jo) (z7 wu)=some wg:=by kernel_rfl
noncomputable def z3w:List (Str×GM):=(dot "next_batch",GM.met 45 "next_batch" qh)::z3d
noncomputable def w9:=inClass (st 38) 14
noncomputable def j0:Cn:=cn cls fld z3w ["self","moment"] ["min"] [] []
theorem j1:zu ((comp RU 60).s j0) (z7 w9)=some ql:=by kernel_rfl
noncomputable def z1B:List (Str×GM):=(dot "mark_behind",GM.met 45 "mark_behind" qc)::z3w
noncomputable def wk:=inClass (st 38) 11
noncomputable def jj:Cn:=cn cls fld z1B ["self","reading","many","batch"] ["name_at"] [] []
theorem jm:zu ((comp RU 60).s jj) (z7 wk)=some wx:=by kernel_rfl
noncomputable def z2j:List (Str×GM):=(dot "hand_out",GM.met 45 "hand_out" zL)::z1B
noncomputable def zD:=inClass (st 38) 2
noncomputable def yZ:Cn:=cn cls fld z2j ["self","reading","many","batch"] ["names_of_batch"] [] ["batches"]
theorem y_:zu ((comp RU 60).s yZ) (z7 zD)=some j4:=by kernel_rfl
noncomputable def z4S:List (Str×GM):=(dot "ask",GM.met 45 "ask" zQ)::z2j
noncomputable def z12:List (Str×GM):=(til (dot "ask"),GM.metd 45 "ask" 1 (.int 1) zQ)::z4S
noncomputable def zv:=inClass (st 38) 3
noncomputable def k_:Cn:=cn cls fld z12 ["self","reading","many","batch"] ["size_of"] [] []
theorem xg:zu ((comp RU 60).s k_) (z7 zv)=some vA:=by kernel_rfl
noncomputable def z3G:List (Str×GM):=(dot "store",GM.met 45 "store" zO)::z12
noncomputable def z31:List (Str×GM):=(til (dot "store"),GM.metd 45 "store" 1 (.int 1) zO)::z3G
noncomputable def zP:=inClass (st 38) 4
noncomputable def Zn:Cn:=cn cls fld z31 ["self","many","parts","names","batch"] ["is_size","TooMany","size_of","Empty","parted","names_of_batch"] [] ["names"]
theorem Zo:zu ((comp RU 60).s Zn) (z7 zP)=some vm:=by kernel_rfl
noncomputable def z4W:List (Str×GM):=(dot "take",GM.met 45 "take" zU)::z31
noncomputable def z3a:List (Str×GM):=(til (dot "take"),GM.metd 45 "take" 0 (.int 1) zU)::z4W
noncomputable def wa:=inClass (st 38) 10
noncomputable def vX:Cn:=cn cls fld z3a ["self"] ["parts_of"] [] []
theorem vY:zu ((comp RU 60).s vX) (z7 wa)=some qZ:=by kernel_rfl
noncomputable def z2u:List (Str×GM):=(dot "last_moment",GM.met 45 "last_moment" qd)::z3a
noncomputable def qY:=inClass (st 38) 5
noncomputable def v_:Cn:=cn cls fld z2u ["self","told"] ["used_of"] [] ["batches"]
theorem vW:zu ((comp RU 60).s v_) (z7 qY)=some q_:=by kernel_rfl
noncomputable def z1v:List (Str×GM):=(dot "give_back",GM.met 45 "give_back" zH)::z2u
noncomputable def jz:=inClass (st 38) 6
noncomputable def Zy:Cn:=cn cls fld z1v ["self"] [] [] []
theorem Z7:zu ((comp RU 60).s Zy) (z7 jz)=some jC:=by kernel_rfl
noncomputable def z1Q:List (Str×GM):=(dot "last",GM.met 45 "last" WH)::z1v
noncomputable def kR:=st 40
noncomputable def Qq:Cn:=cn cls fld z1Q ["_law_script","_law_k"] ["len"] [] []
theorem Q2:zu ((comp RU 60).s Qq) (z7 kR)=some kQ:=by kernel_rfl
noncomputable def z19:List (Str×GM):=("_law_cell_at",GM.fn wW)::z1Q
noncomputable def uJ:=st 41
noncomputable def Js:Cn:=cn cls fld z19 ["_law_cell","_law_k","_law_number"] [] [] []
theorem Jt:zu ((comp RU 60).s Js) (z7 uJ)=some uG:=by kernel_rfl
noncomputable def z1b:List (Str×GM):=("_law_mixed",GM.fn xE)::z19
noncomputable def y6:=st 42
noncomputable def V2:Cn:=cn cls fld z1b ["_law_cell"] [] [] ["return"]
theorem WB:zu ((comp RU 60).s V2) (z7 y6)=some xU:=by kernel_rfl
noncomputable def z1E:List (Str×GM):=("_law_digits",GM.fn wX)::z1b
noncomputable def xJ:=st 43
noncomputable def Wt:Cn:=cn cls fld z1E ["_law_source","_law_many","_law_found"] ["_law_mixed"] [] []
theorem Wv:zu ((comp RU 60).s Wt) (z7 xJ)=some yy:=by kernel_rfl
noncomputable def z2f:List (Str×GM):=("_law_next",GM.fn zB)::z1E
noncomputable def qG:=st 44
noncomputable def yp:Cn:={(cn cls fld z2f ["_law_at","_law_kind","_law_calls","_law_keep"] [] ["_law_at","_law_kind","_law_calls"] [] (some (0,[⟨251,4,260,43⟩])) "_law_keep") with fz:=["_law_at","_law_calls","_law_kind"]}
theorem QH:zu ((comp RU 60).s {yp with fz:=[]}) ((z7 qG).take 0)=some (vk.take 0):=by kernel_rfl
theorem WU:zu ((comp RU 60).s yp) ((z7 qG).drop 0)=some (vk.drop 0):=by kernel_rfl
noncomputable def z1i:List (Str×GM):=("_law_keeper",GM.fn wO)::z2f
noncomputable def xP:=st 45
noncomputable def V1:Cn:=cn cls fld z1i ["_law_house","_law_way","_law_lease","e"] ["Fallen","isinstance","ValueError","TooMany","NoTime"] [] []
theorem Wr:zu ((comp RU 60).s V1) (z7 xP)=some y0:=by kernel_rfl
noncomputable def z1J:List (Str×GM):=("_law_fallen",GM.fn wQ)::z1i
noncomputable def xI:=st 46
noncomputable def WE:Cn:=cn cls fld z1J ["_law_house","_law_way","_law_reading","_law_many","_law_lease"] ["Wait","KeyError","ZeroDivisionError","NoTime","Fallen"] [] []
theorem W6:zu ((comp RU 60).s WE) (z7 xI)=some yd:=by kernel_rfl
noncomputable def z1g:List (Str×GM):=("_law_deed",GM.fn qy)::z1J
noncomputable def uM:=st 47
noncomputable def Jm:Cn:=cn cls fld z1g ["_law_made","_law_lease","_law_kind","_law_back","_law_house","_law_told"] ["House","_law_keeper","_law_deed","KeyError","ZeroDivisionError","NoTime","Fallen","all","range"] ["_law_lease","_law_house"] ["[]"]
theorem Je:zu ((comp RU 60).s Jm) (z7 uM)=some k7:=by kernel_rfl
noncomputable def z4j:List (Str×GM):=("_law_short",GM.fn xq)::z1g
noncomputable def qi:=st 48
noncomputable def uY:Cn:={(cn cls fld z4j ["_law_script","_law_source","_law_counts","_law_number","_law_moments","_law_made","_law_stride","_law_at","_law_calls","_law_house","_law_lower","_law_given","_law_reading","_law_fell","_law_cell","_law_many","_law_lease","_law_told","_law_note"] ["_law_digits","_law_cell_at","_law_next","Shape","House","_law_keeper","_law_short","_law_deed","len","all","range","max","sorted","dict"] ["_law_counts","_law_number","_law_house","_law_lease"] ["_law_calls","_law_given"] (some (1,[⟨332,58,332,79⟩]))) with fz:=[]}
theorem W9:zu ((comp RU 60).s {uY with fz:=[]}) ((z7 qi).take 15)=some (vR.take 15):=by kernel_rfl
theorem Jb:zu ((comp RU 60).s uY) ((z7 qi).drop 15)=some (vR.drop 15):=by kernel_rfl
end NH.K43
namespace NH
open PySem PySem.Spec PyProof.Rows L2
theorem zM{p:Prop}{i:Decidable p}{A B:Prop}(h1:p->A)(h2:¬p->B):brW (decide p) A B:=by
 cases i with
 |isTrue h=>exact h1 h
 |isFalse h=>exact h2 h
theorem vq{p:Prop}{i:Decidable p}{A B:Prop}(h:p)(a:A):brW (decide p) A B:=zM (λ_=>a) λn=>absurd h n
theorem kf{p:Prop}{i:Decidable p}{A B:Prop}(h:¬p)(b:B):brW (decide p) A B:=zM (λy=>absurd y h) λ_=>b
theorem z03{p:Prop}{i:Decidable p}{A B:Prop}(h1:p->B)(h2:¬p->A):brW (!decide p) A B:=by
 cases i with
 |isTrue h=>exact h1 h
 |isFalse h=>exact h2 h
theorem qL{p:Prop}{i:Decidable p}{A B:Prop}(h:p)(b:B):brW (!decide p) A B:=z03 (λ_=>b) λn=>absurd h n
theorem Xc{b:Bool}{A B:Prop}(h1:b=true->A)(h2:b=false->B):brW b A B:=by
 cases b with
 |true=>exact h1 rfl
 |false=>exact h2 rfl
theorem W4{tg:Tg}{g:Sl->Mem->RE (Option T)}{lv:Mem->Prop}{τ:Sl}{μ:Mem}{Z:Xp}(f:T->Option T){xs:List T}{K:List T->Mem->Prop}
  (h:∀x∈xs,∀k:Option T->Mem->Prop,k (f x) μ->∃τ',asg tg x τ=some τ'/\g τ' μ k Z) (k:K (xs.filterMap f) μ) (hl:lv μ:=by trivial):zW tg g lv τ xs μ K Z:=by
 induction xs generalizing K with
 |nil=>exact k
 |cons x r ih=>
  unfold zW
  obtain⟨τ',e,hg⟩:=h x z5_ (λo μ1=>lv μ1/\(match o with
   |some y=>(zW tg g lv τ r μ1).bind λys μ2=>RE.ok (y::ys) μ2
   |none=>zW tg g lv τ r μ1) K Z) (by
    refine⟨hl,?_⟩
    cases q:f x with
    |none=>
     rw[z8h q] at k
     exact ih (λy hy=>h y (z5M _ hy)) k
    |some y=>
     rw[z8i q] at k
     exact ih (K:=λys μ2=>K (y::ys) μ2) (λy hy=>h y (z5M _ hy)) k)
  exact⟨τ',e,hg⟩
theorem uC{tg:Tg}{g:Sl->Mem->RE (Option T)}{lv:Mem->Prop}{τ:Sl}{μ:Mem}{Z:Xp}(f:T->T){xs:List T}{K:List T->Mem->Prop}
  (h:∀x∈xs,∀k:Option T->Mem->Prop,k (some (f x)) μ->∃τ',asg tg x τ=some τ'/\g τ' μ k Z) (k:K (xs.map f) μ) (hl:lv μ:=by trivial):zW tg g lv τ xs μ K Z:=
 W4 (λx=>some (f x)) h (by rw[z7P];exact k) hl
theorem yh{tg:Tg}{body:Ds}{lv:Mem->Prop}{xs:List T}{τ:Sl}{μ:Mem}{E:En}(I:Nat->Sl->Mem->Prop)(h0:I 0 τ μ)
  (h:∀i x τ μ,xs[i]?=some x->I i τ μ->∀N:Sl->Mem->Prop,(∀τ μ,I (i+1) τ μ->N τ μ)->∃τ',asg tg x τ=some τ'/\body τ' μ (E.turn N))
  (k:∀τ μ,I xs.length τ μ->E.nx τ μ) (hl:∀i τ μ,I i τ μ->lv μ:=by intros;trivial):forM tg body lv xs τ μ E:=by
 have go:∀(rest:List T) (i:Nat) (τ:Sl) (μ:Mem),xs.drop i=rest->i<=xs.length->I i τ μ->forM tg body lv rest τ μ E:=by
  intro rest
  induction rest with
  |nil=>
   intro i τ μ hd hi hI
   have:i=xs.length:=by
    have:=congrArg zbW hd
    simp at this;omega
   subst this
   exact k τ μ hI
  |cons x r ih=>
   intro i τ μ hd hi hI
   have hx:xs[i]?=some x:=by
    have:(xs.drop i)[0]?=some x:=by rw[hd];rfl
    simpa using this
   have hlt:i<xs.length:=(z5A.mp hx).1
   have hd':xs.drop (i+1)=r:=by
    have:(xs.drop i).tail=r:=by rw[hd];rfl
    simpa using this
   exact h i x τ μ hx hI _ λτ2 μ2 z=>⟨hl _ _ _ z,ih (i+1) τ2 μ2 hd' hlt z⟩
 exact go xs 0 τ μ rfl (z8r _) h0
end NH
namespace NH.P
open PySem L2 NH
section
local macro_rules | `(tactic| walk_at "grd") => `(tactic| first | decide | exact Or.inl (by decide) | exact Or.inr (by decide) | omega | (simp only [big, room]; omega) | fail)
local macro_rules | `(tactic| walk_at "go") => `(tactic| repeat' (first | (with_reducible refine ⟨_, rfl, ?_⟩) | (with_reducible refine ⟨?w, ?h, ?_⟩; case h => exact rfl) | (with_reducible refine And.intro ?_ ?_; walk_at "grd") | (with_reducible refine qL ?_ ?_; rfl) | (with_reducible refine vq ?_ ?_; rfl) | (with_reducible refine brn_neg ?_ ?_; decide) | (with_reducible refine kf ?_ ?_; decide) | fail))
variable {μ:Mem}{K:T->Mem->Prop}{Z:Xp}
theorem z_{i:Int}(k:K (.bl true) μ):qQ [.int i] μ K Z:=⟨rfl,k⟩
theorem yg{n:Int}{i:Nat}{x:T}(h:(rangeT n)[i]?=some x):x=.int i/\(i:Int)<n:=by
 unfold rangeT at h
 rw[z67] at h
 cases q:(z6R n.toNat)[i]? with
 |none=>rw[q] at h;cases h
 |some j=>
  rw[q] at h
  obtain⟨hl,e⟩:=z5A.mp q
  have e:i=j:=by simpa using e
  subst e
  cases h
  simp at hl
  exact⟨rfl,by omega⟩
theorem uA{α:Type}(f:α->Bool):∀xs:List α,bools (xs.map λx=>T.bl (f x))=some (xs.map f)
 |[]=>rfl
 |x::r=>by simp[bools,uA f r]
theorem y9{α:Type}{xs:List α}{k:Int}(h0:0<=k)(h1:k<xs.length):xf xs k=xs[k.toNat]?:=by
 unfold xf YW
 rw[if_pos h0,if_pos h1]
 rfl
theorem Xa{α:Type}{xs:List α}{lo hi:Option Int}{x:α}(h:x∈x_ xs lo hi):x∈xs:=zaF (z6H h)
end
section
local macro_rules | `(tactic| walk_at "grd") => `(tactic| first | decide | exact Or.inl (by decide) | exact Or.inr (by decide) | omega | (simp only [big, room]; omega) | fail)
local macro_rules | `(tactic| walk_at "go") => `(tactic| repeat' (first | (with_reducible refine ⟨_, rfl, ?_⟩) | (with_reducible refine ⟨?w, ?h, ?_⟩; case h => exact rfl) | (with_reducible refine And.intro ?_ ?_; walk_at "grd") | (with_reducible refine qL ?_ ?_; rfl) | (with_reducible refine vq ?_ ?_; rfl) | (with_reducible refine brn_neg ?_ ?_; decide) | (with_reducible refine kf ?_ ?_; decide) | fail))
variable {μ μ1 μ2:Mem}{K:T->Mem->Prop}{Z:Xp}
noncomputable def St (μ:Mem)(i:Nat):Prop:=∃a b c:Int,μ[i]?=some (.lst [.int a,.int b,.int c])
structure Up(μ:Mem)(i:Nat)(μ':Mem):Prop where
 len:μ'.length=μ.length
 ot:∀j,j≠i->μ'[j]?=μ[j]?
 st:St μ' i
theorem Up.trans{i:Nat}(a:Up μ i μ1)(b:Up μ1 i μ2):Up μ i μ2:=⟨b.len.trans a.len,λj h=>(b.ot j h).trans (a.ot j h),b.st⟩
theorem get_set{i:Nat}{x y:MO}(h:μ[i]?=some x):(μ.set i y)[i]?=some y:=by
 have:=(z5A.mp h).1
 simp[this]
theorem Up.set{i:Nat}{x:MO}{a b c:Int}(h:μ[i]?=some x):Up μ i (μ.set i (.lst [.int a,.int b,.int c])):=⟨by simp,λj hj=>by rw[z5L (z6k hj)],a,b,c,get_set h⟩
theorem zy{x:MO}:(μ++[x])[μ.length]?=some x:=by rw[z5U (z5H _)];simp
theorem zi{i:Nat}{x o:MO}(h:μ[i]?=some o):(μ++[x])[i]?=some o:=by
 rw[z5I (z5A.mp h).1];exact h
noncomputable abbrev shp(x y z:Int):T:=.obj 40 [(0,.int x),(1,.int y),(2,.int z)]
theorem qP{n:Int}(k:K (.bl (decide (1<=n))) μ):wF [.int n] μ K Z:=by
 unfold wF
 refine⟨rfl,?_⟩
 refine z_ ?_
 exact k
theorem yM{x y z:Int}(hx:1<=x)(hy:1<=y)(hz:1<=z)(q:K .non [.obj 40 [(0,.int x),(1,.int y),(2,.int z)]]):vf [.mut 0,.int x,.int y,.int z] [.obj 40 []] K Z:=by
 unfold vf
 refine⟨rfl,?_⟩
 refine qP ?_
 refine vq hx ?_
 refine qP ?_
 refine vq hy ?_
 refine qP ?_
 refine qL hz ?_
 refine⟨_,_,rfl,by decide,?_⟩
 refine⟨_,_,rfl,(by (show (1:Nat)<900);decide),?_⟩
 refine⟨_,_,rfl,(by (show (2:Nat)<900);decide),?_⟩
 exact q
end
section
local macro_rules | `(tactic| walk_at "grd") => `(tactic| first | decide | exact Or.inl (by decide) | exact Or.inr (by decide) | omega | (simp only [big, room]; omega) | fail)
local macro_rules | `(tactic| walk_at "go") => `(tactic| repeat' (first | (with_reducible refine ⟨_, rfl, ?_⟩) | (with_reducible refine ⟨?w, ?h, ?_⟩; case h => exact rfl) | (with_reducible refine And.intro ?_ ?_; walk_at "grd") | (with_reducible refine qL ?_ ?_; rfl) | (with_reducible refine vq ?_ ?_; rfl) | (with_reducible refine brn_neg ?_ ?_; decide) | (with_reducible refine kf ?_ ?_; decide) | fail))
variable {μ μ1 μ2:Mem}{K:T->Mem->Prop}{Z:Xp}
theorem uK:∀ns:List Int,qS (ns.map T.int)=0
 |[]=>rfl
 |n::r=>by simp[qS,je,uK r]
theorem jN{ns:List Int}{k:Int}(hk:0<=k)(q:∀c,K (.int c) μ):wW [.lst (ns.map T.int),.int k] μ K Z:=by
 unfold wW
 refine⟨rfl,?_⟩
 refine zM (λh=>?_) (λh=>?_)
 ·have hl:k.toNat<ns.length:=by
   rw[z5R] at h;omega
  refine⟨.int ns[k.toNat],?_,q _⟩
  rw[y9 hk h,z67,z6D hl]
  rfl
 ·exact q _
end
section
local macro_rules | `(tactic| walk_at "grd") => `(tactic| first | decide | exact Or.inl (by decide) | exact Or.inr (by decide) | omega | (simp only [big, room]; omega) | fail)
local macro_rules | `(tactic| walk_at "go") => `(tactic| repeat' (first | (with_reducible refine ⟨_, rfl, ?_⟩) | (with_reducible refine ⟨?w, ?h, ?_⟩; case h => exact rfl) | (with_reducible refine And.intro ?_ ?_; walk_at "grd") | (with_reducible refine qL ?_ ?_; rfl) | (with_reducible refine vq ?_ ?_; rfl) | (with_reducible refine brn_neg ?_ ?_; decide) | (with_reducible refine kf ?_ ?_; decide) | fail))
variable {μ μ1 μ2:Mem}{K:T->Mem->Prop}{Z:Xp}
theorem Ww{tg:Tg}{g:Sl->Mem->RE (Option T)}{lv:Mem->Prop}{τ:Sl}{x:T}{r:List T}{K:List T->Mem->Prop}(h:∃τ',asg tg x τ=some τ'/\g τ' μ (λo μ1=>lv μ1/\(match o with
  |some y=>zW tg g lv τ r μ1 (λys μ2=>K (y::ys) μ2) Z
  |none=>zW tg g lv τ r μ1 K Z)) Z):zW tg g lv τ (x::r) μ K Z:=by
 obtain⟨τ',e,h⟩:=h
 unfold zW
 refine⟨τ',e,?_⟩
 have:(λ(o:Option T) μ1=>lv μ1/\(match o with
  |some y=>zW tg g lv τ r μ1 (λys μ2=>K (y::ys) μ2) Z
  |none=>zW tg g lv τ r μ1 K Z))=λo μ1=>lv μ1/\(match o with
   |some y=>(zW tg g lv τ r μ1).bind λys μ2=>RE.ok (y::ys) μ2
   |none=>zW tg g lv τ r μ1) K Z:=by
  funext o μ1
  cases o<;>rfl
 rw[this] at h
 exact h
theorem Jc{tg:Tg}{g:Sl->Mem->RE (Option T)}{lv:Mem->Prop}{τ:Sl}{K:List T->Mem->Prop}(h:K [] μ):zW tg g lv τ [] μ K Z:=by
 unfold zW
 exact h
structure Sy(y z:Int):Prop where
 y1:1<=y
 y2:y<=10000000000
 z1:1<=z
 z2:z<=10000000000
theorem QF{x y z:Int}(s:Sy y z)(q:K (.int (x * y * z)) μ):jG [shp x y z] μ K Z:=by
 obtain⟨y1,y2,z1,z2⟩:=s
 unfold jG
 refine⟨rfl,?_⟩
 exact⟨.inr ⟨by unfold big;omega,by unfold big;omega⟩,.inr ⟨by unfold big;omega,by unfold big;omega⟩,q⟩
theorem QV{x y z n:Int}{b:Bool}(s:Sy y z)(hb:(decide (0<=n)&&decide (n<x * y * z))=b)(q:K (.bl b) μ):xv [shp x y z,.int n] μ K Z:=by
 subst hb
 unfold xv
 refine⟨rfl,?_⟩
 refine QF s ?_
 unfold qz
 refine⟨rfl,?_⟩
 refine z_ ?_
 refine zM (λh=>?_) (λh=>?_)
 ·have q:K (.bl (decide (n<x * y * z))) μ:=by simpa[h] using q
  exact q
 ·have q:K (.bl false) μ:=by simpa[h] using q
  exact q
theorem all_map{α:Type}(g:α->Bool)(xs:List α):bools (xs.map λx=>T.bl (g x))=some (xs.map g):=uA g xs
theorem yS{x y z n:Int}(s:Sy y z)(h:(decide (0<=n)&&decide (n<x * y * z))=true)(q:K .non μ):vd [shp x y z,.int n] μ K Z:=by
 unfold vd
 refine⟨rfl,?_⟩
 refine QV s h ?_
 exact q
end
section
local macro_rules | `(tactic| walk_at "grd") => `(tactic| first | decide | exact Or.inl (by decide) | exact Or.inr (by decide) | omega | (simp only [big, room]; omega) | fail)
local macro_rules | `(tactic| walk_at "go") => `(tactic| repeat' (first | (with_reducible refine ⟨_, rfl, ?_⟩) | (with_reducible refine ⟨?w, ?h, ?_⟩; case h => exact rfl) | (with_reducible refine And.intro ?_ ?_; walk_at "grd") | (with_reducible refine qL ?_ ?_; rfl) | (with_reducible refine vq ?_ ?_; rfl) | (with_reducible refine brn_neg ?_ ?_; decide) | (with_reducible refine kf ?_ ?_; decide) | fail))
variable {μ μ1 μ2:Mem}{K:T->Mem->Prop}{Z:Xp}
structure Ch(S:List Nat)(μ μ':Mem):Prop where
 len:μ.length<=μ'.length
 ot:∀i,i<μ.length->i∉S->μ'[i]?=μ[i]?
theorem Ch.refl{S:List Nat}:Ch S μ μ:=⟨z5H _,λ_ _ _=>rfl⟩
theorem Ch.trans{S:List Nat}(a:Ch S μ μ1)(b:Ch S μ1 μ2):Ch S μ μ2:=⟨z62 a.len b.len,λi h n=>(b.ot i (z5S h a.len) n).trans (a.ot i h n)⟩
theorem Ch.mono{S S':List Nat}(a:Ch S μ μ1)(h:∀x∈S,x∈S'):Ch S' μ μ1:=⟨a.len,λi hi n=>a.ot i hi λz=>n (h i z)⟩
theorem Ch.app{x:MO}:Ch [] μ (μ++[x]):=⟨by simp,λi h _=>z5I h⟩
theorem Ch.set{i:Nat}{x:MO}:Ch [i] μ (μ.set i x):=⟨by simp,λj h n=>by rw[z5L];rintro rfl;exact n (by simp)⟩
theorem Ch.get{S:List Nat}{i:Nat}{x:MO}(a:Ch S μ μ1)(h:μ[i]?=some x)(n:i∉S):μ1[i]?=some x:=(a.ot i (z5A.mp h).1 n).trans h
theorem qD{β:Type}{tg:Tg}{g:Sl->Mem->RE (Option T)}{lv:Mem->Prop}{τ:Sl}(t:β->T)(f:β->Option T){ps:List β}{K:List T->Mem->Prop}
  (h:∀p∈ps,∀k:Option T->Mem->Prop,k (f p) μ->∃τ',asg tg (t p) τ=some τ'/\g τ' μ k Z) (k:K (ps.filterMap f) μ) (hl:lv μ:=by trivial):zW tg g lv τ (ps.map t) μ K Z:=by
 induction ps generalizing K with
 |nil=>exact Jc k
 |cons x r ih=>
  refine Ww ?_
  refine h x z5_ _ ⟨hl,?_⟩
  cases q:f x with
  |none=>
   rw[z8h q] at k
   exact ih (λy hy=>h y (z5M _ hy)) k
  |some y=>
   rw[z8i q] at k
   exact ih (K:=λys μ2=>K (y::ys) μ2) (λy hy=>h y (z5M _ hy)) k
end
section
variable {μ μ1 μ2:Mem}{K:T->Mem->Prop}{Z:Xp}{c g i0:Nat}{x y z:Int}{ps:List Gp}
theorem ZH{n b:Int}(q:K (.bl (decide (0<=n)&&decide (n<b))) μ):qz [.int n,.int b] μ K Z:=by
 unfold qz
 refine⟨rfl,?_⟩
 refine z_ ?_
 refine zM (λh=>?_) (λh=>?_)
 ·have q:K (.bl (decide (n<b))) μ:=by simpa[h] using q
  exact q
 ·have q:K (.bl false) μ:=by simpa[h] using q
  exact q
theorem vF{n b:Int}(h0:0<=n)(h1:n<b)(q:K (.bl true) μ):qz [.int n,.int b] μ K Z:=ZH (by simpa[h0,h1] using q)
end
section
variable {μ μ1 μ2:Mem}{K:T->Mem->Prop}{Z:Xp}{c g i0:Nat}{x y z:Int}{ps:List Gp}
theorem z5i{a b c d e f:Int}:eqL [.int a,.int b,.int c] [.int d,.int e,.int f]=some (decide (a=d)&&(decide (b=e)&&decide (c=f))):=by
 have h:∀i j:Int,(i == j)=decide (i=j):=λi j=>by
  by_cases z:i=j<;>simp[z]
 simp[eqL,eqT,h]
theorem kP{h f u:Int}(h0:0<=h)(h1:h<y)(f0:0<=f)(fu:f<u)(ux:u<=x)(q:K (.bl true) μ):vG [shp x y z,.tup [.int h,.int f,.int u]] μ K Z:=by
 unfold vG
 refine⟨rfl,?_⟩
 refine⟨_,rfl,?_⟩
 refine vF h0 h1 ?_
 refine⟨_,rfl,?_⟩
 refine z_ ?_
 refine⟨_,rfl,?_⟩
 refine z_ ?_
 refine⟨_,rfl,?_⟩
 refine vq f0 ?_
 refine⟨_,rfl,?_⟩
 refine vq fu ?_
 have q:K (.bl (decide (u<=x))) μ:=by rw[decide_eq_true ux];exact q
 exact q
end
section
variable {μ μ1 μ2:Mem}{K:T->Mem->Prop}{Z:Xp}{c g r i0:Nat}{x y z:Int}{ps:List Gp}
theorem wJ{n b:Int}(h0:0<=n)(h1:n<b)(q:K .non μ):qJ [.int n,.int b] μ K Z:=by
 unfold qJ
 refine⟨rfl,?_⟩
 refine vF h0 h1 ?_
 exact q
theorem WD{m h k:Int}(m0:0<=m)(m1:m<x)(h0:0<=h)(h1:h<y)(k0:0<=k)(k1:k<z):0<=(m * y+h) * z+k/\(m * y+h) * z+k<x * y * z/\((m * y+h) * z+k) / z=m * y+h/\(m * y+h) / y=m/\(m * y+h) % y=h:=by
 have a:((m * y+h) * z+k) / z=m * y+h/\((m * y+h) * z+k) % z=k:=(z86 (by omega)).mpr ⟨by rw[z7a z,zaj],k0,k1⟩
 have b:(m * y+h) / y=m/\(m * y+h) % y=h:=(z86 (by omega)).mpr ⟨by rw[z7a y,zaj],h0,h1⟩
 have n0:0<=m * y:=z87 m0 (by omega)
 have n1:0<=(m * y+h) * z:=z87 (by omega) (by omega)
 have n2:m * y+y<=x * y:=by
  have:=z6c (show m+1<=x by omega) (show 0<=y by omega)
  rw[z88,zb_] at this
  exact this
 have n3:(m * y+h) * z+z<=x * y * z:=by
  have:=z6c (show m * y+h+1<=x * y by omega) (show 0<=z by omega)
  rw[z88,zb_] at this
  exact this
 exact⟨by omega,by omega,a.1,b.1,b.2⟩
end
section
variable {μ μ1 μ2:Mem}{K:T->Mem->Prop}{Z:Xp}{x y z:Int}{i:Nat}{sh kp bt:T}{ah sd:Int}
noncomputable abbrev Ls:=Int×Int×Int
noncomputable def lsT:Option Ls->T
 |none=>.non
 |some l=>.tup [.int l.1,.int l.2.1,.int l.2.2]
noncomputable def opT:Option Int->T
 |none=>.non
 |some m=>.int m
noncomputable abbrev hsF(sh:T)(ah sd:Int)(kp:T)(l:Option Ls)(m n:Option Int)(bt:T)(fl:Bool):List (Nat×T):=[(9,sh),(14,.int ah),(15,.int sd),(16,kp),(6,lsT l),(17,opT m),(18,opT n),(19,bt),(20,.bl fl)]
noncomputable abbrev hsO(sh:T)(ah sd:Int)(kp:T)(l:Option Ls)(m n:Option Int)(bt:T)(fl:Bool):MO:=.obj 45 (hsF sh ah sd kp l m n bt fl)
theorem z4t:∀(l l':Option Ls),eqT (lsT l) (lsT l')=some (decide (l=l'))
 |none,none=>by simp[lsT,eqT]
 |none,some b=>by simp[lsT,eqT]
 |some a,none=>by simp[lsT,eqT]
 |some (a,b,c),some (d,e,f)=>by
  show eqT (.tup _) (.tup _)=_
  simp only[eqT]
  rw[z5i]
  simp[Bool.decide_and]
theorem z4q:∀(l l':Option Int),eqT (opT l) (opT l')=some (decide (l=l'))
 |none,none=>by simp[opT,eqT]
 |none,some b=>by simp[opT,eqT]
 |some a,none=>by simp[opT,eqT]
 |some a,some b=>by
  by_cases h:a=b
  ·simp[opT,eqT,h]
  ·simp[opT,eqT,h]
theorem Yv{l l':Option Ls}{m m':Option Int}:eqL [lsT l,opT m] [lsT l',opT m']=some (decide (l=l')&&decide (m=m')):=by
 simp[eqL,z4t,z4q]
theorem KY{l:Option Ls}{m:Option Int}:qS [lsT l,opT m]<=40:=by
 cases l<;>cases m<;>simp[lsT,opT,qS,je]
variable {l l':Option Ls}{m m' n:Option Int}
theorem qq(h:μ[i]?=some (hsO sh ah sd kp l m n bt false))(q:K .non μ):zF [.mut i] μ K Z:=by
 unfold zF
 refine⟨rfl,?_⟩
 refine⟨_,_,_,h,rfl,?_⟩
 exact q
theorem Ua(h:μ[i]?=some (hsO sh ah sd kp l m n bt false))(q:K (.tup [lsT l,opT m]) μ):vy [.mut i] μ K Z:=by
 unfold vy
 refine⟨rfl,?_⟩
 refine⟨_,_,_,h,rfl,?_⟩
 refine⟨_,_,_,h,rfl,?_⟩
 exact q
theorem wq{h f u:Int}(h0:0<=h)(h1:h<y)(f0:0<=f)(fu:f<u)(ux:u<=x)(q:K .non μ):wI [shp x y z,.tup [.int h,.int f,.int u]] μ K Z:=by
 unfold wI
 refine⟨rfl,?_⟩
 refine kP h0 h1 f0 fu ux ?_
 exact q
structure LsOk(x y:Int)(l:Ls):Prop where
 h0:0<=l.1
 h1:l.1<y
 f0:0<=l.2.1
 fu:l.2.1<l.2.2
 ux:l.2.2<=x
theorem vw{a:Int}(h:0<=a)(q:K (.bl true) μ):qe [.int a] μ K Z:=by
 unfold qe
 refine⟨rfl,?_⟩
 refine z_ ?_
 have q:K (.bl (decide (0<=a))) μ:=by rw[decide_eq_true h];exact q
 exact q
structure Hz(x y z:Int):Prop where
 x1:1<=x
 y1:1<=y
 y2:y<=1000000
 z1:1<=z
 z2:z<=1000000
theorem Hz.sy(s:Hz x y z):Sy y z:=⟨s.y1,by have:=s.y2;omega,s.z1,by have:=s.z2;omega⟩
theorem kX{k:Int}(s:Hz x y z)(h0:0<=k)(h1:k<x * y * z)(q:K (.tup [.int (k / z / y),.int (k / z % y),.int (k % z)]) μ):vE [shp x y z,.int k] μ K Z:=by
 obtain⟨x1,y1,y2,z1,z2⟩:=id s
 unfold vE
 refine⟨rfl,?_⟩
 refine yS s.sy (by rw[decide_eq_true h0,decide_eq_true h1];rfl) ?_
 refine⟨by omega,⟨by omega,by omega⟩,⟨by omega,by omega⟩,by omega,?_⟩
 exact q
noncomputable def plA(y z h k:Int):Int:=if k / z % y<h then k / z / y * z else if h<k / z % y then (k / z / y+1) * z else k / z / y * z+k % z+1
theorem yl{h k:Int}(s:Hz x y z)(h0:0<=k)(h1:k<x * y * z)(q:K (.int (plA y z h k)) μ):wC [shp x y z,.int h,.int k] μ K Z:=by
 obtain⟨x1,y1,y2,z1,z2⟩:=id s
 unfold wC
 refine⟨rfl,?_⟩
 refine kX s h0 h1 ?_
 refine⟨_,rfl,?_⟩
 unfold plA at q
 refine zM (λe=>?_) (λe=>?_)
 ·rw[if_pos e] at q
  refine⟨_,rfl,.inr ⟨by unfold big;omega,by unfold big;omega⟩,?_⟩
  exact q
 ·rw[if_neg e] at q
  refine⟨_,rfl,?_⟩
  refine zM (λe=>?_) (λe=>?_)
  ·rw[if_pos e] at q
   refine⟨_,rfl,.inr ⟨by unfold big;omega,by unfold big;omega⟩,?_⟩
   exact q
  ·rw[if_neg e] at q
   refine⟨_,rfl,.inr ⟨by unfold big;omega,by unfold big;omega⟩,?_⟩
   refine⟨_,rfl,?_⟩
   exact q
noncomputable abbrev byP(z r ah e:Int):Int:=(e-1) / z-(r+ah)
noncomputable abbrev xj(h b e:Int):T:=.obj 44 [(11,.int h),(12,.int b),(13,.int e)]
end
section
variable {μ μ1 μ2:Mem}{K:T->Mem->Prop}{Z:Xp}{x y z:Int}{i:Nat}{sh kp bt:T}{ah sd:Int}{l l':Option Ls}{m m' n:Option Int}
noncomputable def nmA(y z h p:Int):Int:=(p / z * y+h) * z+p % z
noncomputable def nmL (y z h b k:Int):List Int:=(z6R k.toNat).map λ(j:Nat)=>nmA y z h (b+j)
theorem V0{mo h k:Int}(s:Hz x y z)(m0:0<=mo)(m1:mo<x)(h0:0<=h)(h1:h<y)(k0:0<=k)(k1:k<z)(q:K (.int ((mo * y+h) * z+k)) μ):xw [shp x y z,.int mo,.int h,.int k] μ K Z:=by
 obtain⟨x1,y1,y2,z1,z2⟩:=id s
 unfold xw
 refine⟨rfl,?_⟩
 refine wJ m0 m1 ?_
 refine wJ h0 h1 ?_
 refine wJ k0 k1 ?_
 refine⟨.inr ⟨by unfold big;omega,by unfold big;omega⟩,?_⟩
 refine⟨.inr ⟨by unfold big;omega,by unfold big;omega⟩,?_⟩
 exact q
theorem place_lt{p:Int}(s:Hz x y z)(h1:p<x * z):p / z<x:=by
 have:=s.z1
 exact zay (by omega) h1
theorem yH{h p:Int}(s:Hz x y z)(p0:0<=p)(p1:p<x * z)(h0:0<=h)(h1:h<y)(q:K (.int (nmA y z h p)) μ):jV [shp x y z,.int h,.int p] μ K Z:=by
 obtain⟨x1,y1,y2,z1,z2⟩:=id s
 unfold jV
 refine⟨rfl,?_⟩
 refine⟨⟨by omega,by omega⟩,?_⟩
 refine⟨by omega,?_⟩
 exact V0 s (z8Y p0 (by omega)) (place_lt s p1) h0 h1 (z6r _ (by omega)) (z6l _ (by omega)) q
theorem uH{c:Int}(q:∀a b,K (.mut μ.length) (μ++[.lst [.int a,.int b,.int 0]])):wX [.int c] μ K Z:=by
 unfold wX
 refine⟨rfl,?_⟩
 refine⟨by decide,?_⟩
 refine⟨by decide,?_⟩
 have m0:=z6r c (show (2:Int)≠0 by decide)
 have m1:=z6l c (show (0:Int)<2 by decide)
 refine⟨.inr ⟨by unfold big;omega,by unfold big;omega⟩,?_⟩
 exact q _ _
theorem X6{c k:Int}(q:∀v:Int,K (.int v) μ):xE [.int c,.int k] μ K Z:=by
 unfold xE
 refine⟨rfl,?_⟩
 refine⟨by decide,?_⟩
 refine⟨.inl (by unfold big;decide),?_⟩
 refine⟨.inr (by unfold big;decide),?_⟩
 refine⟨by decide,?_⟩
 refine⟨by decide,?_⟩
 have b1:∀a:Int,0<=a % 2147483629/\a % 2147483629<2147483629:=λa=>⟨z6r _ (by decide),z6l _ (by decide)⟩
 have bb:=λa=>b1 a
 refine⟨.inl ⟨by have:=(b1 ((c % 2147483629+69621 * k+1) * 48271));unfold big;omega,by have:=(b1 ((c % 2147483629+69621 * k+1) * 48271));unfold big;omega⟩,?_⟩
 refine⟨by decide,?_⟩
 refine⟨by decide,?_⟩
 refine⟨.inl ⟨by have:=b1 ((c % 2147483629+69621 * k+1) * 48271 % 2147483629 * ((c % 2147483629+69621 * k+1) * 48271 % 2147483629 / 1009+69621));unfold big;omega,by have:=b1 ((c % 2147483629+69621 * k+1) * 48271 % 2147483629 * ((c % 2147483629+69621 * k+1) * 48271 % 2147483629 / 1009+69621));unfold big;omega⟩,?_⟩
 refine⟨by decide,?_⟩
 refine⟨by decide,?_⟩
 generalize hA:(c % 2147483629+69621 * k+1) * 48271 % 2147483629 * ((c % 2147483629+69621 * k+1) * 48271 % 2147483629 / 1009+69621) % 2147483629 * ((c % 2147483629+69621 * k+1) * 48271 % 2147483629 * ((c % 2147483629+69621 * k+1) * 48271 % 2147483629 / 1009+69621) % 2147483629 / 907+16807+k)=A
 refine⟨.inl ⟨by have:=b1 A;unfold big;omega,by have:=b1 A;unfold big;omega⟩,?_⟩
 refine⟨by decide,?_⟩
 exact q _
theorem qg{i:Nat}{base:Int}(hs:St μ i)(h0:0<base)(h1:base<1000000000000000000000000000000000000000000000000000000000000)(q:∀v μ',0<=v->v<base->Up μ i μ'->K (.int v) μ'):zB [.mut i,.int base] μ K Z:=by
 obtain⟨a,b,c,h⟩:=hs
 have mn:∀x:Int,0<=x % base/\x % base<base:=λx=>⟨z6r _ (by omega),z6l _ h0⟩
 unfold zB
 refine⟨rfl,?_⟩
 refine⟨_,_,h,rfl,?_⟩
 refine zM (λh2=>?_) (λh2=>?_)
 ·refine⟨_,_,h,rfl,h0,?_⟩
  refine⟨_,_,h,rfl,⟨h0,by omega⟩,?_⟩
  refine⟨_,h,by simp,?_⟩
  exact q _ _ (mn _).1 (mn _).2 (Up.set h)
 ·refine⟨_,_,h,rfl,?_⟩
  refine⟨_,h,by simp,?_⟩
  refine⟨_,_,get_set h,rfl,?_⟩
  refine⟨_,_,get_set h,rfl,?_⟩
  refine X6 λv=>?_
  refine⟨h0,?_⟩
  exact q _ _ (mn _).1 (mn _).2 (Up.set h)
end
section
variable {μ μ1 μ2:Mem}{K:T->Mem->Prop}{Z:Xp}{x y z:Int}{i:Nat}{sh kp bt:T}{ah sd:Int}{l l':Option Ls}{m m' n:Option Int}
theorem QE{z a b c d:Int}(c0:0<=c)(c1:c<z)(d0:0<=d)(d1:d<z):a * z+c<b * z+d↔a<b\/(a=b/\c<d):=by
 have up:∀{p q:Int},p<q->p * z+z<=q * z:=λ{p q} h=>by
  have:=z6c (show p+1<=q by omega) (show 0<=z by omega)
  rw[z88,zb_] at this
  exact this
 constructor
 ·intro h
  by_cases e:a<b
  ·exact .inl e
  ·by_cases e2:a=b
   ·subst e2;exact .inr ⟨rfl,by omega⟩
   ·have:=up (show b<a by omega);omega
 ·rintro (h|⟨rfl,h⟩)
  ·have:=up h;omega
  ·omega
theorem Yn(k:Int)(y z:Int):k=(k / z / y * y+k / z % y) * z+k % z:=by
 have e1:=z6Q k z
 have e2:=z6Q (k / z) y
 rw[z7a (k / z / y) y,e2,z7a (k / z) z]
 exact e1.symm
theorem K9{h k p:Int}(s:Hz x y z)(h0:0<=h)(h1:h<y):k<nmA y z h p↔plA y z h k<=p:=by
 obtain⟨x1,y1,y2,z1,z2⟩:=id s
 have c0:=z6r k (show z≠0 by omega)
 have c1:=z6l k (show 0<z by omega)
 have d0:=z6r p (show z≠0 by omega)
 have d1:=z6l p (show 0<z by omega)
 have a0:=z6r (k / z) (show y≠0 by omega)
 have a1:=z6l (k / z) (show 0<y by omega)
 have ep:=z6Q p z
 have ek:=Yn k y z
 unfold nmA plA
 conv=>lhs;lhs;rw[ek]
 rw[QE c0 c1 d0 d1,QE a0 a1 h0 h1]
 have le:∀A:Int,A * z<=p↔A<=p / z:=λA=>(Int.le_ediv_iff_mul_le (by omega)).symm
 have eqA:∀A B:Int,A * y+k / z % y=B * y+h↔A=B/\k / z % y=h:=λA B=>by
  have l1:=QE (z:=y) (a:=A) (b:=B) (c:=k / z % y) (d:=h) a0 a1 h0 h1
  have l2:=QE (z:=y) (a:=B) (b:=A) (c:=h) (d:=k / z % y) h0 h1 a0 a1
  constructor
  ·intro e
   have n1:¬(A<B\/(A=B/\k / z % y<h)):=λw=>by have:=l1.mpr w;omega
   have n2:¬(B<A\/(B=A/\h<k / z % y)):=λw=>by have:=l2.mpr w;omega
   omega
  ·rintro⟨rfl,e⟩;rw[e]
 rw[eqA]
 split
 ·rename_i e
  rw[le];omega
 ·split
  ·rename_i e1 e2
   rw[le];omega
  ·rename_i e1 e2
   have e3:k / z % y=h:=by omega
   have lx:=QE (z:=z) (a:=k / z / y) (b:=p / z) (c:=k % z) (d:=p % z) c0 c1 d0 d1
   have:p=p / z * z+p % z:=by rw[z7a];exact ep.symm
   constructor
   ·intro w
    have:=lx.mpr (by omega)
    omega
   ·intro w
    have:=lx.mp (by omega)
    omega
theorem Zq{h p q:Int}(s:Hz x y z)(h0:0<=h)(h1:h<y)(pq:p<q):nmA y z h p<nmA y z h q:=by
 obtain⟨x1,y1,y2,z1,z2⟩:=id s
 have c0:=z6r p (show z≠0 by omega)
 have c1:=z6l p (show 0<z by omega)
 have d0:=z6r q (show z≠0 by omega)
 have d1:=z6l q (show 0<z by omega)
 have e1:p=p / z * z+p % z:=by rw[z7a];exact (z6Q p z).symm
 have e2:q=q / z * z+q % z:=by rw[z7a];exact (z6Q q z).symm
 have lx:=(QE (z:=z) (a:=p / z) (b:=q / z) (c:=p % z) (d:=q % z) c0 c1 d0 d1).mp (by omega)
 unfold nmA
 rw[QE c0 c1 d0 d1]
 rcases lx with w|⟨w,v⟩
 ·have:=(QE (z:=y) (a:=p / z) (b:=q / z) (c:=h) (d:=h) h0 h1 h0 h1).mpr (.inl w)
  exact .inl this
 ·rw[w];exact .inr ⟨rfl,v⟩
theorem Kv{h p:Int}(s:Hz x y z)(h0:0<=h)(h1:h<y):nmA y z h p / z / y=p / z/\nmA y z h p / z % y=h/\nmA y z h p % z=p % z:=by
 obtain⟨x1,y1,y2,z1,z2⟩:=id s
 have c0:=z6r p (show z≠0 by omega)
 have c1:=z6l p (show 0<z by omega)
 have a:((p / z * y+h) * z+p % z) / z=p / z * y+h/\((p / z * y+h) * z+p % z) % z=p % z:=(z86 (by omega)).mpr ⟨by rw[z7a z,zaj],c0,c1⟩
 have b:(p / z * y+h) / y=p / z/\(p / z * y+h) % y=h:=(z86 (by omega)).mpr ⟨by rw[z7a y,zaj],h0,h1⟩
 unfold nmA
 rw[a.1,b.1,b.2,a.2]
 exact⟨rfl,rfl,rfl⟩
theorem z40{h p:Int}(s:Hz x y z)(h0:0<=h)(h1:h<y)(p0:0<=p)(p1:p<x * z):0<=nmA y z h p/\nmA y z h p<x * y * z:=by
 obtain⟨x1,y1,y2,z1,z2⟩:=id s
 have:=WD (x:=x) (y:=y) (z:=z) (z8Y p0 (show 0<=z by omega)) (place_lt s p1) h0 h1 (z6r p (show z≠0 by omega)) (z6l p (show 0<z by omega))
 exact⟨this.1,this.2.1⟩
variable {a:Ls}{r k:Int}{c:Nat}
end
section
variable {μ μ1 μ2:Mem}{K:T->Mem->Prop}{Z:Xp}{x y z:Int}{i:Nat}{sh kp bt:T}{ah sd:Int}{l l':Option Ls}{m m' n:Option Int}{a:Ls}{r k:Int}{c:Nat}
theorem QN:∀zs:List Int,eqL (zs.map T.int) (zs.map T.int)=some true
 |[]=>rfl
 |k::r=>by simp[eqL,eqT,QN r]
end
section
variable {μ μ1 μ2:Mem}{K:T->Mem->Prop}{Z:Xp}{x y z h:Int}{i:Nat}{sh kp bt:T}{ah sd:Int}{l l':Option Ls}{m m' n:Option Int}{a:Ls}{r k:Int}{c:Nat}
noncomputable abbrev Bt:=Int×Int
noncomputable abbrev btT(h:Int)(p:Bt):T:=xj h p.1 p.2
noncomputable def nmB (y z h:Int)(bs:List Bt):List Int:=bs.flatMap λp=>nmL y z h p.1 (p.2-p.1)
structure BOk(x z:Int)(bs:List Bt):Prop where
 b0:∀p∈bs,0<=p.1
 be:∀p∈bs,p.1<=p.2
 ex:∀p∈bs,p.2<=x * z
 sz:∀p∈bs,p.2-p.1<=1000
theorem vT{b:Int}:(nmL y z h b k).length=k.toNat:=by unfold nmL;simp
theorem Yy{b k1 k2:Int}(h1:0<=k1)(h2:0<=k2):nmL y z h b (k1+k2)=nmL y z h b k1++nmL y z h (b+k1) k2:=by
 unfold nmL
 have e:(k1+k2).toNat=k1.toNat+k2.toNat:=by omega
 rw[e,List.range_add,z7k,zbH]
 congr 1
 refine z94 λj _=>?_
 show nmA y z h (b+((k1.toNat+j:Nat):Int))=nmA y z h (b+k1+(j:Int))
 congr 1
 push_cast
 omega
theorem QB{b:Int}:nmL y z h b 0=[]:=rfl
theorem Jq{b e:Int}(hk:b<=e):kn b e 1=(z6R (e-b).toNat).map λ(j:Nat)=>T.int (b+j):=by
 unfold kn
 by_cases c:b<e
 ·rw[if_pos c]
  have:(e-b-1) / 1+1=e-b:=by rw[zbo];omega
  rw[this]
  simp
 ·rw[if_neg c]
  have:(e-b).toNat=(0:Int).toNat:=by omega
  rw[this];rfl
theorem kJ{b e:Int}(s:Hz x y z)(hb:x * z<1000000000000000000000000000000000000000000000000000000000000)(b0:0<=b)(be:b<=e)(k2:e-b<=1000)(ex:e<=x * z)(h0:0<=h)(h1:h<y)(q:K (.mut μ.length) (μ++[.lst ((nmL y z h b (e-b)).map T.int)])):zZ [shp x y z,xj h b e] μ K Z:=by
 unfold zZ
 refine⟨rfl,?_⟩
 refine⟨⟨⟨by omega,by omega⟩,⟨by omega,by omega⟩⟩,?_⟩
 rw[Jq be]
 refine⟨by rw[z5R,List.length_range];unfold room;omega,?_⟩
 refine qD (λ(j:Nat)=>T.int (b+j)) (λ(j:Nat)=>some (T.int (nmA y z h (b+j)))) (λj hj kk hkk=>?_) ?_ trivial
 ·have hj:j<(e-b).toNat:=z9f.mp hj
  refine⟨_,rfl,?_⟩
  exact yH s (by omega) (by omega) h0 h1 hkk
 ·rw[z7P]
  unfold nmL at q
  rw[zbH] at q
  exact q
theorem Vf:∀{bs:List Bt},(∀p∈bs,p.1<=p.2)->((nmB y z h bs).length:Int)=(bs.map λp=>p.2-p.1).sum
 |[],_=>rfl
 |p::r,hb=>by
  have ih:=Vf (bs:=r) λq hq=>hb q (z5M _ hq)
  have:=hb p z5_
  unfold nmB at ih ⊢
  rw[z7Y,z63,z6V,List.sum_cons,vT]
  push_cast
  rw[ih]
  omega
theorem jK:∀ns:List Int,intsOf (ns.map T.int)=some ns
 |[]=>rfl
 |n::r=>by show (intsOf (r.map T.int)).map (n::·)=_;rw[jK r];rfl
theorem yL{bs:List Bt}(hi:μ[i]?=some (.lst (bs.map (btT h))))(hl:bs.length<=1000)(hb:∀p∈bs,p.1<=p.2)(q:K (.int ((nmB y z h bs).length:Int)) μ):wV [.mut i] μ K Z:=by
 unfold wV
 refine⟨rfl,?_⟩
 refine⟨_,hi,?_⟩
 refine⟨by rw[z5R];unfold room;omega,?_⟩
 refine qD (btT h) (λp=>some (T.int (p.2-p.1))) (λp hp kk hkk=>⟨_,rfl,hkk⟩) ?_ hi
 rw[z7P]
 rw[Vf hb] at q
 refine⟨bs.map λp=>p.2-p.1,?_,q⟩
 have:=jK (bs.map λp=>p.2-p.1)
 rw[zbH] at this
 exact this
structure Pt where
 r:Int
 fs:List Bt
 os:List Bt
noncomputable def Pt.step(s:Pt)(p:Bt):Pt:=
 let m:=if p.2<p.1+s.r then p.2 else p.1+s.r
 ⟨s.r-(m-p.1),s.fs++[(p.1,m)],s.os++[(m,p.2)]⟩
structure PtOk(x y z h:Int)(s0 s:Pt)(bs:List Bt):Prop where
 r0:0<=s.r
 fo:BOk x z s0.fs->BOk x z s.fs
 oo:BOk x z s0.os->BOk x z s.os
 fn:nmB y z h s.fs=nmB y z h s0.fs++(nmB y z h bs).take s0.r.toNat
 on:nmB y z h s.os=nmB y z h s0.os++(nmB y z h bs).drop s0.r.toNat
 fl:s.fs.length=s0.fs.length+bs.length
 ol:s.os.length=s0.os.length+bs.length
theorem BOk.snoc{bs:List Bt}{p:Bt}(B:BOk x z bs)(h1:0<=p.1)(h2:p.1<=p.2)(h3:p.2<=x * z)(h4:p.2-p.1<=1000):BOk x z (bs++[p]):=by
 refine⟨λq hq=>?_,λq hq=>?_,λq hq=>?_,λq hq=>?_⟩<;>(rcases z5Q.mp hq with hq|hq)<;>first|exact B.b0 q hq|exact B.be q hq|exact B.ex q hq|exact B.sz q hq|(rw[z5J.mp hq];assumption)
theorem jO{bs:List Bt}{p:Bt}:nmB y z h (bs++[p])=nmB y z h bs++nmL y z h p.1 (p.2-p.1):=by
 unfold nmB
 rw[z96]
 simp
theorem yi{α:Type}(A B C:List α)(n a:Nat)(ha:A.length=a)(hc:(B=[]/\a<=n)\/n=a):(A++(B++C)).take n=A++C.take (n-a)/\(A++(B++C)).drop n=B++C.drop (n-a):=by
 subst ha
 rcases hc with⟨rfl,h⟩|rfl
 ·rw[z8_,List.take_append,List.drop_append,z78 h,List.drop_of_length_le h]
  exact⟨rfl,rfl⟩
 ·rw[zbB,List.take_left,List.drop_left]
  simp
theorem KC:∀{bs:List Bt} {s0:Pt},BOk x z bs->0<=s0.r->PtOk x y z h s0 (bs.foldl Pt.step s0) bs
 |[],s0,_,h0=>⟨h0,id,id,by simp[nmB],by simp[nmB],by simp,by simp⟩
 |p::bs,s0,B,h0=>by
  have b0:=B.b0 p z5_
  have be:=B.be p z5_
  have ex:=B.ex p z5_
  have sz:=B.sz p z5_
  have B':BOk x z bs:=⟨λq hq=>B.b0 q (z5M _ hq),λq hq=>B.be q (z5M _ hq),λq hq=>B.ex q (z5M _ hq),λq hq=>B.sz q (z5M _ hq)⟩
  obtain⟨mm,hm⟩:∃mm,mm=if p.2<p.1+s0.r then p.2 else p.1+s0.r:=⟨_,rfl⟩
  have e1:s0.step p=⟨s0.r-(mm-p.1),s0.fs++[(p.1,mm)],s0.os++[(mm,p.2)]⟩:=by rw[hm];rfl
  have hm':(p.2<p.1+s0.r/\mm=p.2)\/(¬p.2<p.1+s0.r/\mm=p.1+s0.r):=by
   rw[hm];split
   ·exact .inl ⟨by assumption,rfl⟩
   ·exact .inr ⟨by assumption,rfl⟩
  have ih:=KC (bs:=bs) (s0:=s0.step p) B' (by rw[e1];show 0<=s0.r-(mm-p.1);omega)
  rw[e1] at ih
  obtain⟨i1,i2,i3,i4,i5,i6,i7⟩:=ih
  have split1:nmL y z h p.1 (p.2-p.1)=nmL y z h p.1 (mm-p.1)++nmL y z h mm (p.2-mm):=by
   have:=Yy (y:=y) (z:=z) (h:=h) (b:=p.1) (k1:=mm-p.1) (k2:=p.2-mm) (by omega) (by omega)
   rw[show mm-p.1+(p.2-mm)=p.2-p.1 by omega,show p.1+(mm-p.1)=mm by omega] at this
   exact this
  have hcons:nmB y z h (p::bs)=nmL y z h p.1 (p.2-p.1)++nmB y z h bs:=by unfold nmB;rw[z7Y]
  have cs:(nmL y z h mm (p.2-mm)=[]/\(mm-p.1).toNat<=s0.r.toNat)\/s0.r.toNat=(mm-p.1).toNat:=by
   rcases hm' with⟨w1,w2⟩|⟨w1,w2⟩
   ·refine .inl ⟨?_,by omega⟩
    rw[w2,show p.2-p.2=0 by omega];exact QB
   ·exact .inr (by omega)
  rw[List.foldl_cons,e1]
  refine⟨i1,λF=>i2 (F.snoc b0 (by show p.1<=mm;omega) (by show mm<=x * z;omega) (by show mm-p.1<=1000;omega)),λF=>i3 (F.snoc (by show 0<=mm;omega) (by show mm<=p.2;omega) ex (by show p.2-mm<=1000;omega)),?_,?_,by simp at i6 ⊢;omega,by simp at i7 ⊢;omega⟩
  ·have tk:=(yi (nmL y z h p.1 (mm-p.1)) (nmL y z h mm (p.2-mm)) (nmB y z h bs) s0.r.toNat (mm-p.1).toNat vT cs).1
   rw[i4,jO,hcons,split1,z7Z (nmL y z h p.1 (mm-p.1)),tk,←z7Z]
   show nmB y z h s0.fs++nmL y z h p.1 (mm-p.1)++(nmB y z h bs).take (s0.r-(mm-p.1)).toNat=_
   rw[show s0.r.toNat-(mm-p.1).toNat=(s0.r-(mm-p.1)).toNat by omega]
  ·have tk:=(yi (nmL y z h p.1 (mm-p.1)) (nmL y z h mm (p.2-mm)) (nmB y z h bs) s0.r.toNat (mm-p.1).toNat vT cs).2
   rw[i5,jO,hcons,split1,z7Z (nmL y z h p.1 (mm-p.1)),tk,←z7Z]
   show nmB y z h s0.os++nmL y z h mm (p.2-mm)++(nmB y z h bs).drop (s0.r-(mm-p.1)).toNat=_
   rw[show s0.r.toNat-(mm-p.1).toNat=(s0.r-(mm-p.1)).toNat by omega]
end
section
variable {μ μ1 μ2:Mem}{K:T->Mem->Prop}{Z:Xp}{x y z h:Int}{i:Nat}{sh kp bt:T}{ah sd:Int}{l l':Option Ls}{m m' n:Option Int}{a:Ls}{r k:Int}{c:Nat}
local macro_rules | `(tactic| walk_at "bat") => `(tactic| (refine ⟨rfl, ?_⟩; (try unfold qI); refine ⟨rfl, ?_⟩; refine ⟨_, _, rfl, by show (0 : Nat) < 900; decide, ?_⟩; refine ⟨_, _, rfl, by show (1 : Nat) < 900; decide, ?_⟩; refine ⟨_, _, rfl, by show (2 : Nat) < 900; decide, ?_⟩; refine ⟨rfl, _, rfl, rfl, ?_⟩))
theorem z4m{A A' B:MO}:(μ++[A]++[B]).set μ.length A'=μ++[A']++[B]:=by
 rw[z7Z,zaz _ _ (z5H _)];simp
theorem z3H{A B B':MO}:(μ++[A]++[B]).set (μ++[A]).length B'=μ++[A]++[B']:=by
 rw[zaz _ _ (z5H _)];simp
theorem Xs:∀{bs:List Bt},(bs.filterMap λp=>if p.1<p.2 then some (btT h p) else none)=(bs.filter λp=>decide (p.1<p.2)).map (btT h)
 |[]=>rfl
 |p::r=>by
  have ih:=Xs (bs:=r)
  by_cases c:p.1<p.2
  ·rw[z8i (b:=btT h p) (by rw[if_pos c]),za5 (by simpa using c),z6V,ih]
  ·rw[z8h (by rw[if_neg c]),za6 (by simpa using c),ih]
theorem KG:∀{bs:List Bt},(∀p∈bs,p.1<=p.2)->nmB y z h (bs.filter λp=>decide (p.1<p.2))=nmB y z h bs
 |[],_=>rfl
 |p::r,hb=>by
  have ih:=KG (bs:=r) λq hq=>hb q (z5M _ hq)
  have be:=hb p z5_
  by_cases c:p.1<p.2
  ·rw[za5 (by simpa using c)]
   unfold nmB at ih ⊢
   rw[z7Y,z7Y,ih]
  ·rw[za6 (by simpa using c),ih]
   unfold nmB
   rw[z7Y,show p.2-p.1=0 by omega,QB,z8_]
theorem BOk.fil{bs:List Bt}(B:BOk x z bs):BOk x z (bs.filter λp=>decide (p.1<p.2)):=
 ⟨λp hp=>B.b0 p (z6m.mp hp).1,λp hp=>B.be p (z6m.mp hp).1,λp hp=>B.ex p (z6m.mp hp).1,λp hp=>B.sz p (z6m.mp hp).1⟩
theorem BOk.nil:BOk x z []:=⟨by simp,by simp,by simp,by simp⟩
theorem JA{bs:List Bt}(hi:μ[i]?=some (.lst (bs.map (btT h))))(hl:bs.length<=1000)(k0:0<=k)(B:BOk x z bs)
  (q:∀fs os μ' f1 f2,BOk x z fs->BOk x z os->nmB y z h fs=(nmB y z h bs).take k.toNat->nmB y z h os=(nmB y z h bs).drop k.toNat->fs.length<=bs.length->os.length<=bs.length->Ch [] μ μ'->μ.length<=f1->μ.length<=f2->f1≠f2->
   μ'[f1]?=some (.lst (fs.map (btT h)))->μ'[f2]?=some (.lst (os.map (btT h)))->K (.tup [.mut f1,.mut f2]) μ'):parted [.mut i,.int k] μ K Z:=by
 have hil:=(z5A.mp hi).1
 unfold parted
 refine⟨rfl,?_⟩
 refine⟨_,zi (zi hi),?_⟩
 refine yh (λj τ μ'=>∃o5 o6,τ=[some (.mut i),some (.int k),some (.mut μ.length),some (.mut (μ++[MO.lst []]).length),some (.int ((bs.take j).foldl Pt.step ⟨k,[],[]⟩).r),o5,o6]/\μ'=μ++[.lst (((bs.take j).foldl Pt.step ⟨k,[],[]⟩).fs.map (btT h))]++[.lst (((bs.take j).foldl Pt.step ⟨k,[],[]⟩).os.map (btT h))]) ⟨none,none,rfl,rfl⟩ ?_ ?_ ?_
 ·rintro j t τ μ' hx ⟨o5,o6,rfl,rfl⟩ N hN
  rw[z67] at hx
  cases hqi:bs[j]? with
  |none=>rw[hqi] at hx;cases hx
  |some p=>
   rw[hqi] at hx
   cases hx
   have et:bs.take (j+1)=bs.take j++[p]:=by rw[z7t,hqi];rfl
   have hjl:j<bs.length:=(z5A.mp hqi).1
   have B1:BOk x z (bs.take j):=⟨λp hp=>B.b0 p (z6H hp),λp hp=>B.be p (z6H hp),λp hp=>B.ex p (z6H hp),λp hp=>B.sz p (z6H hp)⟩
   have P:=KC (x:=x) (y:=y) (z:=z) (h:=h) (s0:=⟨k,[],[]⟩) B1 k0
   generalize hS:(bs.take j).foldl Pt.step ⟨k,[],[]⟩=S at P ⊢
   have P1:=P.fl
   have P2:=P.ol
   simp only[z72,zbF,z7D] at P1 P2
   have hS2:(bs.take (j+1)).foldl Pt.step ⟨k,[],[]⟩=S.step p:=by rw[et,List.foldl_append,hS];rfl
   refine⟨_,rfl,?_⟩
   have l1:(μ++[MO.lst []]).length=(μ++[MO.lst (S.fs.map (btT h))]).length:=by simp
   refine⟨⟨_,zi zy⟩,?_⟩
   walk_at "bat"
   refine⟨_,zi zy,by rw[z5R];unfold room;omega,?_⟩
   rw[z4m]
   have g2:(μ++[MO.lst (S.fs.map (btT h)++[xj h p.1 (if p.2<p.1+S.r then p.2 else p.1+S.r)])]++[MO.lst (S.os.map (btT h))])[(μ++[MO.lst []]).length]?=some (MO.lst (S.os.map (btT h))):=by
    have:(μ++[MO.lst []]).length=(μ++[MO.lst (S.fs.map (btT h)++[xj h p.1 (if p.2<p.1+S.r then p.2 else p.1+S.r)])]).length:=by simp
    rw[this];exact zy
   refine⟨⟨_,g2⟩,?_⟩
   walk_at "bat"
   refine⟨_,g2,by rw[z5R];unfold room;omega,?_⟩
   refine hN _ _ ⟨some (btT h p),some (.int (if p.2<p.1+S.r then p.2 else p.1+S.r)),?_,?_⟩
   ·rw[hS2];rfl
   ·show (μ++[MO.lst (S.fs.map (btT h)++[xj h p.1 (if p.2<p.1+S.r then p.2 else p.1+S.r)])]++[MO.lst (S.os.map (btT h))]).set (μ++[MO.lst []]).length (MO.lst (S.os.map (btT h)++[xj h (if p.2<p.1+S.r then p.2 else p.1+S.r) p.2]))=_
    have:(μ++[MO.lst []]).length=(μ++[MO.lst (S.fs.map (btT h)++[xj h p.1 (if p.2<p.1+S.r then p.2 else p.1+S.r)])]).length:=by simp
    rw[this,z3H,hS2]
    show _=μ++[MO.lst ((S.fs++[(p.1,if p.2<p.1+S.r then p.2 else p.1+S.r)]).map (btT h))]++[MO.lst ((S.os++[(if p.2<p.1+S.r then p.2 else p.1+S.r,p.2)]).map (btT h))]
    rw[z7k,z7k]
    rfl
 ·rintro τ μ' ⟨o5,o6,rfl,rfl⟩
  rw[z5R,z78 (z5H _)]
  have P:=KC (x:=x) (y:=y) (z:=z) (h:=h) (s0:=⟨k,[],[]⟩) B k0
  generalize bs.foldl Pt.step ⟨k,[],[]⟩=S at P ⊢
  have P1:=P.fl
  have P2:=P.ol
  simp only[z72,zbF] at P1 P2
  have le:(μ++[MO.lst []]).length=(μ++[MO.lst (S.fs.map (btT h))]).length:=by simp
  have fo:=P.fo BOk.nil
  have oo:=P.oo BOk.nil
  have fn:nmB y z h S.fs=(nmB y z h bs).take k.toNat:=by have:=P.fn;simpa[nmB] using this
  have on:nmB y z h S.os=(nmB y z h bs).drop k.toNat:=by have:=P.on;simpa[nmB] using this
  have g2:(μ++[MO.lst (S.fs.map (btT h))]++[MO.lst (S.os.map (btT h))])[(μ++[MO.lst []]).length]?=some (MO.lst (S.os.map (btT h))):=by rw[le];exact zy
  refine⟨_,g2,?_⟩
  refine⟨by rw[z5R];unfold room;omega,?_⟩
  refine qD (btT h) (λp=>if p.1<p.2 then some (btT h p) else none) (λp hp kk hkk=>⟨_,rfl,?_⟩) ?_ g2
  ·refine zM (λc=>?_) (λc=>?_)
   ·rw[if_pos c] at hkk;exact hkk
   ·rw[if_neg c] at hkk;exact hkk
  ·rw[Xs]
   have ll:(μ++[MO.lst (S.fs.map (btT h))]++[MO.lst (S.os.map (btT h))]).length=μ.length+2:=by simp
   refine q S.fs (S.os.filter λp=>decide (p.1<p.2)) _ _ _ fo oo.fil fn ?_ (by omega) ?_ ⟨by simp,λj hj _=>?_⟩ (z5H _) (by omega) (by omega) (zi (zi zy)) ?_
   ·rw[KG oo.be];exact on
   ·have:=List.length_filter_le (λp:Bt=>decide (p.1<p.2)) S.os;omega
   ·rw[z5I (by simp;omega),z5I (by simp;omega),z5I (by omega)]
   ·rw[ll]
    have:=zy (μ:=μ++[MO.lst (S.fs.map (btT h))]++[MO.lst (S.os.map (btT h))]) (x:=MO.lst ((S.os.filter λp=>decide (p.1<p.2)).map (btT h)))
    rw[ll] at this
    exact this
 ·rintro j τ μ' ⟨o5,o6,rfl,rfl⟩
  exact zi (zi hi)
end
section
variable {μ μ1 μ2:Mem}{K:T->Mem->Prop}{Z:Xp}{x y z h:Int}{i bi:Nat}{sh kp bt:T}{ah sd:Int}{l l':Option Ls}{m m' n:Option Int}{a:Ls}{r k:Int}{c:Nat}
theorem Ch.ge{S:List Nat}(a:Ch [] μ μ1)(b:Ch S μ1 μ2)(h:∀j∈S,μ.length<=j):Ch [] μ μ2:=
 ⟨z62 a.len b.len,λj hj _=>(b.ot j (z5S hj a.len) λw=>absurd (h j w) (by omega)).trans (a.ot j hj (by simp))⟩
theorem YL{bs:List Bt}(s:Hz x y z)(hb:x * z<1000000000000000000000000000000000000000000000000000000000000)(h0:0<=h)(h1:h<y)(ho:μ[i]?=some (hsO (shp x y z) ah sd kp l m n (.mut bi) false))(hbi:μ[bi]?=some (.lst (bs.map (btT h))))(hl:bs.length<=1000)(B:BOk x z bs)(hn:(nmB y z h bs).length<=100000)(k1:1<=k)
  (q1:((nmB y z h bs).length:Int)<k->Z 22 [] μ)
  (q2:k<=((nmB y z h bs).length:Int)->∀os μ' j f2,BOk x z os->nmB y z h os=(nmB y z h bs).drop k.toNat->os.length<=bs.length->Ch [i] μ μ'->μ.length<=j->μ.length<=f2->j≠f2->μ'[i]?=some (hsO (shp x y z) ah sd kp l m n (.mut f2) false)->μ'[f2]?=some (.lst (os.map (btT h)))->μ'[j]?=some (.lst (((nmB y z h bs).take k.toNat).map T.int))->K (.mut j) μ') :
  zU [.mut i,.int k] μ K Z:=by
 have hil:=(z5A.mp ho).1
 unfold zU
 refine⟨rfl,?_⟩
 refine⟨_,ho,?_⟩
 refine qq ho ?_
 refine qP ?_
 rw[decide_eq_true k1]
 refine⟨_,_,_,ho,rfl,?_⟩
 refine yL (y:=y) (z:=z) hbi hl B.be ?_
 refine zM (λe=>?_) (λe=>?_)
 ·exact⟨by show (1:Nat)<=room;decide,q1 e⟩
 ·refine⟨_,_,_,ho,rfl,?_⟩
  refine JA (y:=y) hbi hl (by omega) B λfs os μ1 f1 f2 Bf Bo fn on fl ol ch1 l1 l2 ne g1 g2=>?_
  have ho1:=ch1.get ho (by simp)
  refine⟨_,rfl,?_⟩
  refine⟨_,_,ho1,by show (9:Nat)<900;decide,?_⟩
  have ho2:=get_set (y:=hsO (shp x y z) ah sd kp l m n (.mut f2) false) ho1
  have ch2:Ch [i] μ (μ1.set i (hsO (shp x y z) ah sd kp l m n (.mut f2) false)):=(ch1.mono (by simp)).trans Ch.set
  have ne1:f1≠i:=by omega
  have ne2:f2≠i:=by omega
  have g1':(μ1.set i (hsO (shp x y z) ah sd kp l m n (.mut f2) false))[f1]?=some (.lst (fs.map (btT h))):=by rw[z5L (z6k ne1)];exact g1
  have g2':(μ1.set i (hsO (shp x y z) ah sd kp l m n (.mut f2) false))[f2]?=some (.lst (os.map (btT h))):=by rw[z5L (z6k ne2)];exact g2
  generalize hμ:μ1.set i (hsO (shp x y z) ah sd kp l m n (.mut f2) false)=μ3 at ho2 ch2 g1' g2'
  have hμ':μ1.set i (.obj 45 (VY 19 (.mut f2) (hsF (shp x y z) ah sd kp l m n (.mut bi) false)))=μ3:=hμ
  have step:qF (vm.drop 5) [some (.mut i),some (.int k),some (.tup [.mut f1,.mut f2]),none,none] μ3 (En.fn K Z):=by
   refine⟨_,rfl,?_⟩
   refine⟨_,zi g1',?_⟩
   have hf1:=(z5A.mp g1').1
   have hf2:=(z5A.mp g2').1
   have hi3:=(z5A.mp ho2).1
   refine yh (λj τ μ'=>∃o4,τ=[some (.mut i),some (.int k),some (.tup [.mut f1,.mut f2]),some (.mut μ3.length),o4]/\Ch [] μ3 μ'/\μ'[μ3.length]?=some (.lst ((nmB y z h (fs.take j)).map T.int))) ⟨none,rfl,Ch.app,zy⟩ ?_ ?_ ?_
   ·rintro j t τ μ' hx ⟨o4,rfl,ch,gn⟩ N hN
    rw[z67] at hx
    cases hqi:fs[j]? with
    |none=>rw[hqi] at hx;cases hx
    |some p=>
     rw[hqi] at hx
     cases hx
     have hp:p∈fs:=z5T hqi
     have et:fs.take (j+1)=fs.take j++[p]:=by rw[z7t,hqi];rfl
     refine⟨_,rfl,?_⟩
     refine⟨⟨_,gn⟩,?_⟩
     refine⟨_,_,_,ch.get ho2 (by simp),rfl,?_⟩
     refine kJ s hb (Bf.b0 p hp) (Bf.be p hp) (Bf.sz p hp) (Bf.ex p hp) h0 h1 ?_
     have ln:μ3.length<μ'.length:=(z5A.mp gn).1
     have small:((nmB y z h (fs.take j)).map T.int).length+((nmL y z h p.1 (p.2-p.1)).map T.int).length<=room:=by
      rw[z5R,z5R]
      have e1:nmB y z h fs=nmB y z h (fs.take (j+1))++nmB y z h (fs.drop (j+1)):=by
       unfold nmB
       rw[←z96,z8L]
      have e2:(nmB y z h fs).length<=(nmB y z h bs).length:=by rw[fn];exact List.length_take_le' _ _
      rw[e1,et,jO,z63,z63] at e2
      unfold room
      omega
     refine⟨_,_,zi gn,.inr ⟨_,rfl,by omega,zy⟩,small,?_⟩
     refine hN _ _ ⟨_,rfl,?_,?_⟩
     ·exact (Ch.ge (Ch.ge ch Ch.app (by simp)) Ch.set (by simp))
     ·rw[et,jO,z7k]
      exact get_set (zi gn)
   ·rintro τ μ' ⟨o4,rfl,ch,gn⟩
    rw[z5R,z78 (z5H _),fn] at gn
    refine q2 (by omega) os μ' _ f2 Bo on ol (ch2.trans (ch.mono (by simp))) ?_ l2 (by omega) (ch.get ho2 (by simp)) (ch.get g2' (by simp)) gn
    exact ch2.len
   ·rintro j τ μ' ⟨o4,rfl,ch,gn⟩
    exact ch.get g1' (by simp)
  rw[←hμ'] at step
  exact step
theorem QD(ho:μ[i]?=some (.obj 45 []))(ha:0<=ah)(hs:0<=sd)(q:∀μ' bi,Ch [i] μ μ'->μ.length<=bi->μ'[i]?=some (hsO sh ah sd kp none none none (.mut bi) false)->μ'[bi]?=some (.lst [])->K .non μ') :
  zE [.mut i,sh,.int ah,.int sd,kp,.non] μ K Z:=by
 have hil:=(z5A.mp ho).1
 unfold zE
 refine⟨rfl,?_⟩
 refine vw ha ?_
 refine vw hs ?_
 refine⟨_,_,ho,by show (0:Nat)<900;decide,?_⟩
 refine⟨_,_,get_set ho,by show (1:Nat)<900;decide,?_⟩
 refine⟨_,_,get_set (get_set ho),by show (2:Nat)<900;decide,?_⟩
 refine⟨_,_,get_set (get_set (get_set ho)),by show (3:Nat)<900;decide,?_⟩
 refine⟨_,_,get_set (get_set (get_set (get_set ho))),by show (4:Nat)<900;decide,?_⟩
 refine⟨_,_,get_set (get_set (get_set (get_set (get_set ho)))),by show (5:Nat)<900;decide,?_⟩
 refine⟨_,_,get_set (get_set (get_set (get_set (get_set (get_set ho))))),by show (6:Nat)<900;decide,?_⟩
 have h7:=get_set (y:=.obj 45 [(9,sh),(14,.int ah),(15,.int sd),(16,kp),(6,.non),(17,.non),(18,.non)]) (get_set (y:=.obj 45 [(9,sh),(14,.int ah),(15,.int sd),(16,kp),(6,.non),(17,.non)]) (get_set (y:=.obj 45 [(9,sh),(14,.int ah),(15,.int sd),(16,kp),(6,.non)]) (get_set (y:=.obj 45 [(9,sh),(14,.int ah),(15,.int sd),(16,kp)]) (get_set (y:=.obj 45 [(9,sh),(14,.int ah),(15,.int sd)]) (get_set (y:=.obj 45 [(9,sh),(14,.int ah)]) (get_set (y:=.obj 45 [(9,sh)]) ho))))))
 refine⟨_,_,zi h7,by show (7:Nat)<900;decide,?_⟩
 refine⟨_,_,get_set (zi h7),by show (8:Nat)<900;decide,?_⟩
 refine q _ _ ((((((((((Ch.set.trans Ch.set).trans Ch.set).trans Ch.set).trans Ch.set).trans Ch.set).trans Ch.set).trans (Ch.app.mono (by simp))).trans Ch.set).trans Ch.set)) ?_ (get_set (get_set (zi h7))) ?_
 ·simp
 ·rw[z5L (by simp;omega),z5L (by simp;omega)]
  exact zy
end
section
variable {μ μ1 μ2:Mem}{K:T->Mem->Prop}{Z:Xp}{x y z:Int}{i bi:Nat}{sh kp bt:T}{ah sd:Int}{l l':Option Ls}{m m' n:Option Int}{a:Ls}{r k h c:Int}
noncomputable def qU(y z h:Int)(n m:Option Int):Int:=match n with
 |some k=>plA y z h k
 |none=>(match m with|none=>0|some mm=>(mm+1) * z)
theorem Qy(s:Hz x y z)(ho:μ[i]?=some (hsO (shp x y z) ah sd kp (some a) m n bt false))(hn:∀k,n=some k->0<=k/\k<x * y * z)(q:K (.int (qU y z a.1 n m)) μ):qk [.mut i] μ K Z:=by
 obtain⟨x1,y1,y2,z1,z2⟩:=id s
 unfold qk
 refine⟨rfl,?_⟩
 refine⟨_,_,_,ho,rfl,?_⟩
 cases n with
 |some k=>
  refine⟨_,_,_,ho,rfl,?_⟩
  refine⟨_,_,_,ho,rfl,?_⟩
  refine⟨_,rfl,?_⟩
  refine⟨_,_,_,ho,rfl,?_⟩
  exact yl s (hn k rfl).1 (hn k rfl).2 q
 |none=>
  refine⟨_,_,_,ho,rfl,?_⟩
  cases m with
  |none=>exact q
  |some mm=>
   refine⟨_,_,_,ho,rfl,?_⟩
   refine⟨_,_,_,ho,rfl,?_⟩
   refine⟨.inr ⟨by unfold big;omega,by unfold big;omega⟩,?_⟩
   exact q
theorem V3(hm:∀v,m=some v->0<=v/\v<x)(hl:∀v,l=some v->LsOk x y v)(q:K (.bl true) μ):xn [shp x y z,.tup [lsT l,opT m]] μ K Z:=by
 unfold xn
 refine⟨rfl,?_⟩
 refine⟨_,rfl,?_⟩
 have fin:qF (kF.drop 2) [some (shp x y z),some (.tup [lsT l,opT m])] μ (En.fn K Z):=by
  refine⟨_,rfl,?_⟩
  cases m with
  |none=>exact q
  |some v=>
   refine⟨_,rfl,?_⟩
   exact vF (hm v rfl).1 (hm v rfl).2 q
 cases l with
 |none=>exact fin
 |some v=>
  have ok:=hl v rfl
  refine⟨_,rfl,?_⟩
  exact kP ok.h0 ok.h1 ok.f0 ok.fu ok.ux fin
theorem Jw(ho:μ[i]?=some (.obj 45 []))(ha:0<=ah)(hs:0<=sd)(hm:∀v,m=some v->0<=v/\v<x)(hl:∀v,l=some v->LsOk x y v)(q:∀μ' bi,Ch [i] μ μ'->μ.length<=bi->μ'[i]?=some (hsO (shp x y z) ah sd kp l m none (.mut bi) false)->μ'[bi]?=some (.lst [])->K .non μ') :
  zE [.mut i,shp x y z,.int ah,.int sd,kp,.tup [lsT l,opT m]] μ K Z:=by
 have hil:=(z5A.mp ho).1
 unfold zE
 refine⟨rfl,?_⟩
 refine vw ha ?_
 refine vw hs ?_
 refine V3 hm hl ?_
 refine⟨_,_,ho,by show (0:Nat)<900;decide,?_⟩
 refine⟨_,_,get_set ho,by show (1:Nat)<900;decide,?_⟩
 refine⟨_,_,get_set (get_set ho),by show (2:Nat)<900;decide,?_⟩
 refine⟨_,_,get_set (get_set (get_set ho)),by show (3:Nat)<900;decide,?_⟩
 refine⟨_,rfl,?_⟩
 refine⟨_,_,get_set (get_set (get_set (get_set ho))),by show (4:Nat)<900;decide,?_⟩
 refine⟨_,rfl,?_⟩
 refine⟨_,_,get_set (get_set (get_set (get_set (get_set ho)))),by show (5:Nat)<900;decide,?_⟩
 refine⟨_,_,get_set (get_set (get_set (get_set (get_set (get_set ho))))),by show (6:Nat)<900;decide,?_⟩
 have h7:=get_set (y:=.obj 45 [(9,shp x y z),(14,.int ah),(15,.int sd),(16,kp),(6,lsT l),(17,opT m),(18,.non)]) (get_set (y:=.obj 45 [(9,shp x y z),(14,.int ah),(15,.int sd),(16,kp),(6,lsT l),(17,opT m)]) (get_set (y:=.obj 45 [(9,shp x y z),(14,.int ah),(15,.int sd),(16,kp),(6,lsT l)]) (get_set (y:=.obj 45 [(9,shp x y z),(14,.int ah),(15,.int sd),(16,kp)]) (get_set (y:=.obj 45 [(9,shp x y z),(14,.int ah),(15,.int sd)]) (get_set (y:=.obj 45 [(9,shp x y z),(14,.int ah)]) (get_set (y:=.obj 45 [(9,shp x y z)]) ho))))))
 refine⟨_,_,zi h7,by show (7:Nat)<900;decide,?_⟩
 refine⟨_,_,get_set (zi h7),by show (8:Nat)<900;decide,?_⟩
 refine q _ _ ((((((((((Ch.set.trans Ch.set).trans Ch.set).trans Ch.set).trans Ch.set).trans Ch.set).trans Ch.set).trans (Ch.app.mono (by simp))).trans Ch.set).trans Ch.set)) ?_ (get_set (get_set (zi h7))) ?_
 ·simp
 ·rw[z5L (by simp;omega),z5L (by simp;omega)]
  exact zy
noncomputable def z4a(f u:Int):Option Int->Option Int
 |none=>none
 |some v=>if v<f then none else some (if u-1<v then u-1 else v)
theorem WG{o:Option Int}(q:K (opT (z4a a.2.1 a.2.2 o)) μ):xu [lsT (some a),opT o] μ K Z:=by
 unfold xu
 refine⟨rfl,?_⟩
 cases o with
 |none=>exact q
 |some v=>
  refine⟨_,rfl,?_⟩
  have q:K (opT (if v<a.2.1 then none else some (if a.2.2-1<v then a.2.2-1 else v))) μ:=q
  refine zM (λe=>?_) (λe=>?_)
  ·rw[if_pos e] at q;exact q
  ·rw[if_neg e] at q
   refine⟨_,rfl,?_⟩
   exact q
noncomputable def z2Z(y z:Int)(n m:Option Int):Option Int:=match n with
 |none=>m
 |some k=>some (k / z / y)
theorem xQ(s:Hz x y z)(ho:μ[i]?=some (hsO (shp x y z) ah sd kp l m n bt false))(hn:∀k,n=some k->0<=k/\k<x * y * z)(q:K (opT (z2Z y z n m)) μ):qd [.mut i] μ K Z:=by
 unfold qd
 refine⟨rfl,?_⟩
 refine⟨_,_,_,ho,rfl,?_⟩
 cases n with
 |none=>
  refine⟨_,_,_,ho,rfl,?_⟩
  exact q
 |some k=>
  refine⟨_,_,_,ho,rfl,?_⟩
  refine⟨_,_,_,ho,rfl,?_⟩
  refine kX s (hn k rfl).1 (hn k rfl).2 ?_
  refine⟨_,rfl,?_⟩
  exact q
end
section
variable {μ μ1 μ2:Mem}{K:T->Mem->Prop}{Z:Xp}{x y z:Int}{i bi ci ti:Nat}{sh kp bt:T}{ah sd:Int}{l l':Option Ls}{m m' n:Option Int}{a:Ls}{r k h t:Int}{cs ts:List T}{bs:List Bt}
noncomputable def mnI(a b:Int):Int:=if b<a then b else a
noncomputable def mbI (x sd:Int)(m:Option Int)(mo:Int):Int:=match m with
 |none=>mnI (mo+sd) (x-1)
 |some v=>if mo<=v then v else mnI (mo+sd) (x-1)
theorem UL{mo:Int}(ho:μ[i]?=some (hsO (shp x y z) ah sd kp l m n bt false))(q:K (.int (mbI x sd m mo)) μ):qc [.mut i,.int mo] μ K Z:=by
 unfold qc
 refine⟨rfl,?_⟩
 refine⟨_,_,_,ho,rfl,?_⟩
 have fin:∀τ:Sl,τ=[some (.mut i),some (.int mo)]->K (.int (mnI (mo+sd) (x-1))) μ->qF (ql.drop 1) τ μ (En.fn K Z):=λτ e q=>by
  subst e
  refine⟨_,_,_,ho,rfl,?_⟩
  refine⟨_,_,_,ho,rfl,?_⟩
  exact q
 cases m with
 |none=>exact fin _ rfl q
 |some mm=>
  refine⟨_,_,_,ho,rfl,?_⟩
  have q:K (.int (if mo<=mm then mm else mnI (mo+sd) (x-1))) μ:=q
  refine zM (λe=>?_) (λe=>?_)
  ·rw[if_pos e] at q
   refine⟨_,_,_,ho,rfl,?_⟩
   exact q
  ·rw[if_neg e] at q
   exact fin _ rfl q
end
section
variable {μ μ1 μ2:Mem}{K:T->Mem->Prop}{Z:Xp}{x y z:Int}{i bi ci:Nat}{sh kp bt:T}{ah sd:Int}{l l':Option Ls}{m m' n:Option Int}{a:Ls}{r k h t:Int}{cs:List T}
noncomputable def ze (y z:Int)(a:Ls)(n m:Option Int)(r:Int):Int:=if qU y z a.1 n m<(if a.2.1<r then r else a.2.1) * z then (if a.2.1<r then r else a.2.1) * z else qU y z a.1 n m
theorem Kk(s:Hz x y z)(h:μ[i]?=some (hsO (shp x y z) ah sd kp (some a) m n bt false))(hn:∀k,n=some k->0<=k/\k<x * y * z)(k1:1<=k)(k2:k<=z)
  (q1:a.2.2 * z<ze y z a n m r+k->Z 18 [] μ)
  (q2:ze y z a n m r+k<=a.2.2 * z->0<byP z r ah (ze y z a n m r+k)->(byP z r ah (ze y z a n m r+k)).natAbs.log2<1920/\Z 21 [(29,.int (byP z r ah (ze y z a n m r+k)))] μ)
  (q3:ze y z a n m r+k<=a.2.2 * z->byP z r ah (ze y z a n m r+k)<=0->K (xj a.1 (ze y z a n m r) (ze y z a n m r+k)) μ) :
  qh [.mut i,.int r,.int k] μ K Z:=by
 obtain⟨x1,y1,y2,z1,z2⟩:=id s
 unfold qh
 refine⟨rfl,?_⟩
 refine qP ?_
 rw[decide_eq_true k1]
 refine⟨_,_,_,h,rfl,?_⟩
 refine kf (by omega) ?_
 refine z_ ?_
 refine⟨_,h,?_⟩
 unfold zK
 refine⟨rfl,?_⟩
 refine⟨_,_,_,h,rfl,?_⟩
 refine⟨_,_,_,h,rfl,?_⟩
 refine⟨_,rfl,?_⟩
 refine⟨_,_,_,h,rfl,?_⟩
 refine⟨.inr ⟨by unfold big;omega,by unfold big;omega⟩,?_⟩
 refine⟨_,h,?_⟩
 refine Qy s h hn ?_
 refine⟨_,_,_,h,rfl,?_⟩
 refine⟨_,rfl,?_⟩
 refine⟨_,_,_,h,rfl,?_⟩
 refine⟨.inr ⟨by unfold big;omega,by unfold big;omega⟩,?_⟩
 refine zM (λe=>?_) (λe=>?_)
 ·exact⟨by show (1:Nat)<=room;decide,q1 e⟩
 ·have e:ze y z a n m r+k<=a.2.2 * z:=by
   have:¬a.2.2 * z<ze y z a n m r+k:=e
   omega
  refine⟨_,_,_,h,rfl,?_⟩
  refine⟨⟨by omega,by omega⟩,?_⟩
  refine⟨_,_,_,h,rfl,?_⟩
  refine zM (λe2=>?_) (λe2=>?_)
  ·exact q2 e e2
  ·refine⟨_,_,_,h,rfl,?_⟩
   refine⟨_,rfl,?_⟩
   refine⟨rfl,?_⟩
   unfold qI
   refine⟨rfl,?_⟩
   refine⟨_,_,rfl,by show (0:Nat)<900;decide,?_⟩
   refine⟨_,_,rfl,by show (1:Nat)<900;decide,?_⟩
   refine⟨_,_,rfl,by show (2:Nat)<900;decide,?_⟩
   refine⟨rfl,_,rfl,rfl,?_⟩
   refine q3 e ?_
   have e2:¬0<byP z r ah (ze y z a n m r+k):=e2
   omega
theorem xl(s:Hz x y z)(ok:LsOk x y a):0<=ze y z a n m r:=by
 obtain⟨x1,y1,y2,z1,z2⟩:=id s
 have f0:=ok.f0
 have w:0<=(if a.2.1<r then r else a.2.1) * z:=z87 (by split<;>omega) (by omega)
 unfold ze
 by_cases e:qU y z a.1 n m<(if a.2.1<r then r else a.2.1) * z
 ·rw[if_pos e];exact w
 ·rw[if_neg e];exact zbI w (Int.not_lt.mp e)
end
section
variable {μ μ1 μ2:Mem}{K:T->Mem->Prop}{Z:Xp}{x y z:Int}{i bi ci:Nat}{sh bt:T}{ah sd:Int}{l l':Option Ls}{m m' n:Option Int}{a:Ls}{r k h:Int}{at_ kd:Int}{nop:Bool}
noncomputable abbrev Nt:=Option Ls×Option Int
noncomputable abbrev ntT(p:Nt):T:=.tup [lsT p.1,opT p.2]
noncomputable abbrev kpX(nop:Bool)(at_ kd:Int)(ci:Nat):T:=match nop with
 |false=>Ws 0 0 [.int at_,.mut ci,.int kd]
 |true=>Ws 1 1 []
noncomputable abbrev z59(nop:Bool)(cs:List Nt)(p:Nt):List Nt:=match nop with
 |false=>cs++[p]
 |true=>cs
noncomputable def Kc(c:Nat):Prop:=c=8\/c=9\/c=16\/c=24
theorem jW{cs:List Nt}(ho:μ[i]?=some (hsO sh ah sd (kpX nop at_ kd ci) l m n bt false))(hc:μ[ci]?=some (.lst (cs.map ntT)))(hcl:cs.length<=1000)
  (q1:l'=l->m'=m->K .non μ)
  (q2:¬(l'=l/\m'=m)->(nop=true\/(cs.length:Int)+1≠at_)->∀μ',Ch [i,ci] μ μ'->μ'.length=μ.length->μ'[i]?=some (hsO sh ah sd (kpX nop at_ kd ci) l' m' n bt false)->μ'[ci]?=some (.lst ((z59 nop cs (l',m')).map ntT))->K .non μ')
  (q3:¬(l'=l/\m'=m)->nop=false->(cs.length:Int)+1=at_->∀μ' c,Kc c->Ch [i,ci] μ μ'->μ'.length=μ.length->μ'[i]?=some (hsO sh ah sd (kpX nop at_ kd ci) l m n bt true)->μ'[ci]?=some (.lst ((cs++[(l',m')]).map ntT))->Z c [] μ') :
  qa [.mut i,lsT l',opT m'] μ K Z:=by
 have n1:ci≠i:=λw=>by rw[w,ho] at hc;cases hc
 unfold qa
 refine⟨rfl,?_⟩
 refine⟨_,ho,?_⟩
 refine Ua ho ?_
 refine⟨KY,_,Yv,?_⟩
 refine Xc (λe=>?_) (λe=>?_)
 ·simp only[z5B,decide_eq_true_eq] at e
  exact q1 e.1 e.2
 ·have e:¬(l'=l/\m'=m):=λw=>by simp[w.1,w.2] at e
  refine⟨_,_,ho,by show (9:Nat)<900;decide,?_⟩
  have h1:=get_set (y:=hsO sh ah sd (kpX nop at_ kd ci) l m n bt true) ho
  have c1:(μ.set i (hsO sh ah sd (kpX nop at_ kd ci) l m n bt true))[ci]?=some (.lst (cs.map ntT)):=by rw[z5L (z6k n1)];exact hc
  cases nop with
  |true=>
   refine⟨_,_,_,h1,rfl,⟨1,(1,_),[]⟩,⟨rfl,rfl⟩,?_⟩
   refine⟨_,_,h1,by show (9:Nat)<900;decide,?_⟩
   refine⟨_,_,get_set h1,by show (9:Nat)<900;decide,?_⟩
   refine⟨_,_,get_set (get_set h1),by show (9:Nat)<900;decide,?_⟩
   refine q2 e (.inl rfl) _ ((((Ch.set.mono (by simp)).trans (Ch.set.mono (by simp))).trans (Ch.set.mono (by simp))).trans (Ch.set.mono (by simp))) (by simp) (get_set (get_set (get_set h1))) ?_
   rw[z5L (z6k n1),z5L (z6k n1),z5L (z6k n1)]
   exact c1
  |false=>
   refine⟨_,_,_,h1,rfl,⟨0,(0,_),[.int at_,.mut ci,.int kd]⟩,⟨rfl,rfl⟩,?_⟩
   refine⟨⟨_,c1⟩,_,c1,by rw[z5R];unfold room;omega,?_⟩
   have ec:(cs.map ntT++[T.tup [lsT l',opT m']])=(cs++[(l',m')]).map ntT:=by simp
   have h2:((μ.set i (hsO sh ah sd (kpX false at_ kd ci) l m n bt true)).set ci (.lst (cs.map ntT++[T.tup [lsT l',opT m']])))[i]?=some (hsO sh ah sd (kpX false at_ kd ci) l m n bt true):=by rw[z5L n1];exact h1
   have c2:((μ.set i (hsO sh ah sd (kpX false at_ kd ci) l m n bt true)).set ci (.lst (cs.map ntT++[T.tup [lsT l',opT m']])))[ci]?=some (.lst ((cs++[(l',m')]).map ntT)):=by rw[←ec];exact get_set c1
   refine⟨_,c2,?_⟩
   have el:(((cs++[(l',m')]).map ntT).length:Int)=(cs.length:Int)+1:=by simp
   refine zM (λw=>?_) (λw=>?_)
   ·rw[el] at w
    have q3':=λc hc=>q3 e rfl w _ c hc ((Ch.set.mono (by simp)).trans (Ch.set.mono (by simp))) (by simp) h2 c2
    refine zM (λ_=>?_) (λ_=>?_)
    ·exact⟨by show (1:Nat)<=room;decide,q3' 8 (.inl rfl)⟩
    ·refine zM (λ_=>?_) (λ_=>?_)
     ·exact⟨by show (1:Nat)<=room;decide,q3' 16 (.inr (.inr (.inl rfl)))⟩
     ·refine zM (λ_=>?_) (λ_=>?_)
      ·exact⟨by show (1:Nat)<=room;decide,q3' 24 (.inr (.inr (.inr rfl)))⟩
      ·exact⟨by show (1:Nat)<=room;decide,q3' 9 (.inr (.inl rfl))⟩
   ·rw[el] at w
    refine⟨_,_,h2,by show (9:Nat)<900;decide,?_⟩
    refine⟨_,_,get_set h2,by show (9:Nat)<900;decide,?_⟩
    refine⟨_,_,get_set (get_set h2),by show (9:Nat)<900;decide,?_⟩
    refine q2 e (.inr w) _ (((((Ch.set.mono (by simp)).trans (Ch.set.mono (by simp))).trans (Ch.set.mono (by simp))).trans (Ch.set.mono (by simp))).trans (Ch.set.mono (by simp))) (by simp) (get_set (get_set (get_set h2))) ?_
    rw[z5L (z6k n1),z5L (z6k n1),z5L (z6k n1)]
    exact c2
end
section
variable {μ μ1 μ2:Mem}{K:T->Mem->Prop}{Z:Xp}{x y z:Int}{i bi ci:Nat}{sh bt:T}{ah sd:Int}{l l':Option Ls}{m m' n:Option Int}{a:Ls}{r k h:Int}{at_ kd:Int}{nop:Bool}{cs:List Nt}
noncomputable def CI (nop:Bool)(at_:Int)(cs:List Nt)(l:Option Ls)(m:Option Int):Prop:=match nop with
 |true=>(cs.length:Int)=at_
 |false=>(cs.length:Int)<at_/\cs.getLast?=some (l,m)
theorem CI.le{nop:Bool}{at_:Int}(h:CI nop at_ cs l m):(cs.length:Int)<=at_:=by
 cases nop with
 |true=>exact zdo h
 |false=>exact zdp h.1
theorem z0S(ho:μ[i]?=some (hsO sh ah sd (kpX nop at_ kd ci) l m n bt false))(hc:μ[ci]?=some (.lst (cs.map ntT)))(hat:at_<=900)(C:CI nop at_ cs l m)
  (q:∀μ' cs',Ch [i,ci] μ μ'->μ'.length=μ.length->μ'[i]?=some (hsO sh ah sd (kpX nop at_ kd ci) l' m' n bt false)->μ'[ci]?=some (.lst (cs'.map ntT))->CI nop at_ cs' l' m'->K .non μ')
  (qf:nop=false->(cs.length:Int)+1=at_->∀μ' c,Kc c->Ch [i,ci] μ μ'->μ'.length=μ.length->μ'[i]?=some (hsO sh ah sd (kpX nop at_ kd ci) l m n bt true)->μ'[ci]?=some (.lst ((cs++[(l',m')]).map ntT))->Z c [] μ') :
  qa [.mut i,lsT l',opT m'] μ K Z:=by
 have le:=C.le
 refine jW ho hc (by omega) (λe1 e2=>q μ cs Ch.refl rfl (by rw[e1,e2];exact ho) hc (by rw[e1,e2];exact C)) (λe w μ' ch ln g1 g2=>q μ' _ ch ln g1 g2 ?_) (λe w1 w2 μ' c hc ch ln g1 g2=>qf w1 w2 μ' c hc ch ln g1 g2)
 cases nop with
 |true=>exact C
 |false=>
  have w:(cs.length:Int)+1≠at_:=w.resolve_left (by decide)
  have C1:(cs.length:Int)<at_:=C.1
  exact⟨by show (((cs++[(l',m')]).length:Nat):Int)<at_;simp;omega,by show (cs++[(l',m')]).getLast?=_;simp⟩
theorem z2K(ho:μ[i]?=some (hsO (shp x y z) ah sd (kpX nop at_ kd ci) l m n bt false))(hc:μ[ci]?=some (.lst (cs.map ntT)))(hat:at_<=900)(C:CI nop at_ cs l m)(ok:LsOk x y a)
  (q:∀μ' cs',Ch [i,ci] μ μ'->μ'.length=μ.length->μ'[i]?=some (hsO (shp x y z) ah sd (kpX nop at_ kd ci) (some a) m n bt false)->μ'[ci]?=some (.lst (cs'.map ntT))->CI nop at_ cs' (some a) m->K .non μ')
  (qf:nop=false->(cs.length:Int)+1=at_->∀μ' c,Kc c->Ch [i,ci] μ μ'->μ'.length=μ.length->μ'[i]?=some (hsO (shp x y z) ah sd (kpX nop at_ kd ci) l m n bt true)->μ'[ci]?=some (.lst ((cs++[(some a,m)]).map ntT))->Z c [] μ') :
  zh [.mut i,lsT (some a)] μ K Z:=by
 unfold zh
 refine⟨rfl,?_⟩
 refine⟨_,ho,?_⟩
 refine qq ho ?_
 refine⟨_,_,_,ho,rfl,?_⟩
 refine wq ok.h0 ok.h1 ok.f0 ok.fu ok.ux ?_
 refine⟨_,ho,?_⟩
 refine⟨_,_,_,ho,rfl,?_⟩
 exact z0S ho hc hat C q qf
noncomputable abbrev mkG(x y z sd:Int)(a:Ls)(n m:Option Int)(r k:Int):Int:=mbI x sd m ((ze y z a n m r+k-1) / z)
noncomputable abbrev nwG(y z:Int)(a:Ls)(n m:Option Int)(r k:Int):Int:=nmA y z a.1 (ze y z a n m r+k-1)
theorem z0u(s:Hz x y z)(ok:LsOk x y a)(ho:μ[i]?=some (hsO (shp x y z) ah sd (kpX nop at_ kd ci) (some a) m n bt false))(hc:μ[ci]?=some (.lst (cs.map ntT)))(hat:at_<=900)(C:CI nop at_ cs (some a) m)(hn:∀k,n=some k->0<=k/\k<x * y * z)(k1:1<=k)(k2:k<=z)(e1:ze y z a n m r+k<=a.2.2 * z)(ha:0<=ah)
  (hlog:0<byP z r ah (ze y z a n m r+k)->(byP z r ah (ze y z a n m r+k)).natAbs.log2<1920)
  (qw:0<byP z r ah (ze y z a n m r+k)->∀v,Z 21 [(29,v)] μ)
  (q:byP z r ah (ze y z a n m r+k)<=0->∀μ' cs',Ch [i,ci] μ μ'->μ'.length=μ.length->μ'[i]?=some (hsO (shp x y z) ah sd (kpX nop at_ kd ci) (some a) (some (mkG x y z sd a n m r k)) (some (nwG y z a n m r k)) bt false)->μ'[ci]?=some (.lst (cs'.map ntT))->CI nop at_ cs' (some a) (some (mkG x y z sd a n m r k))->K (xj a.1 (ze y z a n m r) (ze y z a n m r+k)) μ')
  (qf:byP z r ah (ze y z a n m r+k)<=0->nop=false->(cs.length:Int)+1=at_->∀μ' c,Kc c->Ch [i,ci] μ μ'->μ'.length=μ.length->μ'[i]?=some (hsO (shp x y z) ah sd (kpX nop at_ kd ci) (some a) m n bt true)->μ'[ci]?=some (.lst ((cs++[(some a,some (mkG x y z sd a n m r k))]).map ntT))->Z c [] μ') :
  zL [.mut i,.int r,.int k] μ K Z:=by
 obtain⟨x1,y1,y2,z1,z2⟩:=id s
 have bn:=xl (n:=n) (m:=m) (r:=r) s ok
 have ux:=ok.ux
 have h0:=ok.h0
 have h1:=ok.h1
 have uz:a.2.2 * z<=x * z:=z6c ux (by omega)
 unfold zL
 refine⟨rfl,?_⟩
 refine⟨_,ho,?_⟩
 refine qq ho ?_
 refine⟨_,ho,?_⟩
 refine Kk s ho hn k1 k2 (λe=>absurd e (by omega)) (λ_ e=>⟨hlog e,qw e _⟩) λ_ e2=>?_
 refine⟨_,ho,?_⟩
 refine⟨_,_,_,ho,rfl,?_⟩
 refine⟨_,ho,?_⟩
 refine⟨_,_,_,ho,rfl,?_⟩
 refine⟨⟨by omega,by omega⟩,?_⟩
 refine UL ho ?_
 refine z0S (l':=some a) (m':=some (mkG x y z sd a n m r k)) ho hc hat C (λμ' cs' ch ln g1 g2 C'=>?_) (λw1 w2 μ' c kc ch ln g1 g2=>qf e2 w1 w2 μ' c kc ch ln g1 g2)
 refine⟨_,_,_,g1,rfl,?_⟩
 refine yH s (by omega) (by omega) h0 h1 ?_
 refine⟨_,_,g1,by show (9:Nat)<900;decide,?_⟩
 have nci:ci≠i:=λw=>by rw[w,ho] at hc;cases hc
 refine q e2 _ cs' (ch.trans (Ch.set.mono (by simp))) (by simp[ln]) (get_set g1) ?_ C'
 rw[z5L (z6k nci)]
 exact g2
end
section
variable {μ μ1 μ2:Mem}{K:T->Mem->Prop}{Z:Xp}{x y z:Int}{i bi ci:Nat}{sh bt:T}{ah sd:Int}{l l':Option Ls}{m m' n:Option Int}{a:Ls}{r k h:Int}{at_ kd:Int}{nop:Bool}{cs:List Nt}{bs:List Bt}
theorem z5f(s:Hz x y z)(xb:x<=1000)(zb:z<=9)(ok:LsOk x y a)(ho:μ[i]?=some (hsO (shp x y z) ah sd (kpX nop at_ kd ci) (some a) m n bt false))(hc:μ[ci]?=some (.lst (cs.map ntT)))(hat:at_<=900)(C:CI nop at_ cs (some a) m)(hn:∀k,n=some k->0<=k/\k<x * y * z)(k1:1<=k)(k2:k<=z)(e1:ze y z a n m r+k<=a.2.2 * z)(ha:0<=ah)
  (hlog:0<byP z r ah (ze y z a n m r+k)->(byP z r ah (ze y z a n m r+k)).natAbs.log2<1920)
  (qw:0<byP z r ah (ze y z a n m r+k)->∀v,Z 21 [(29,v)] μ)
  (q:byP z r ah (ze y z a n m r+k)<=0->∀μ' cs' j b',Ch [i,ci] μ μ'->μ.length<=j->μ.length<=b'->j≠b'->μ'[i]?=some (hsO (shp x y z) ah sd (kpX nop at_ kd ci) (some a) (some (mkG x y z sd a n m r k)) (some (nwG y z a n m r k)) (.mut b') false)->μ'[b']?=some (.lst [])->μ'[ci]?=some (.lst (cs'.map ntT))->CI nop at_ cs' (some a) (some (mkG x y z sd a n m r k))->μ'[j]?=some (.lst ((nmL y z a.1 (ze y z a n m r) k).map T.int))->K (.mut j) μ')
  (qf:byP z r ah (ze y z a n m r+k)<=0->nop=false->(cs.length:Int)+1=at_->∀μ' c,Kc c->Ch [i,ci] μ μ'->μ'.length=μ.length->μ'[i]?=some (hsO (shp x y z) ah sd (kpX nop at_ kd ci) (some a) m n bt true)->μ'[ci]?=some (.lst ((cs++[(some a,some (mkG x y z sd a n m r k))]).map ntT))->Z c [] μ') :
  zQ [.mut i,.int r,.int k] μ K Z:=by
 obtain⟨x1,y1,y2,z1,z2⟩:=id s
 have bn:=xl (n:=n) (m:=m) (r:=r) s ok
 have ux:=ok.ux
 have uz:a.2.2 * z<=x * z:=z6c ux (by omega)
 have xz:x * z<=1000 * 9:=Int.mul_le_mul xb zb (by omega) (by omega)
 have nci:ci≠i:=λw=>by rw[w,ho] at hc;cases hc
 unfold zQ
 refine⟨rfl,?_⟩
 refine⟨_,ho,?_⟩
 refine z0u s ok ho hc hat C hn k1 k2 e1 ha hlog qw (λe2 μ' cs' ch ln g1 g2 C'=>?_) qf
 have il:=(z5A.mp g1).1
 have cl:=(z5A.mp g2).1
 refine⟨_,_,zi g1,by show (9:Nat)<900;decide,?_⟩
 refine⟨_,_,_,get_set (zi g1),rfl,?_⟩
 refine kJ s (by omega) bn (by omega) (by omega) (by omega) ok.h0 ok.h1 ?_
 rw[show ze y z a n m r+k-ze y z a n m r=k by omega]
 refine q e2 _ cs' _ _ (((ch.trans (Ch.app.mono (by simp))).trans (Ch.set.mono (by simp))).trans (Ch.app.mono (by simp))) (by simp;omega) (by omega) (by simp) (zi (get_set (zi g1))) ?_ ?_ C' zy
 ·refine zi ?_
  rw[z5L (by omega)]
  exact zy
 ·refine zi ?_
  rw[z5L (z6k nci)]
  exact zi g2
theorem z25(s:Hz x y z)(ok:LsOk x y a)(ho:μ[i]?=some (hsO (shp x y z) ah sd (kpX nop at_ kd ci) (some a) m n (.mut bi) false))(hbi:μ[bi]?=some (.lst (bs.map (btT a.1))))(bc:bi≠ci)(hl:bs.length<=900)(hbe:∀p∈bs,p.1<=p.2)(hc:μ[ci]?=some (.lst (cs.map ntT)))(hat:at_<=900)(C:CI nop at_ cs (some a) m)(hn:∀k,n=some k->0<=k/\k<x * y * z)(k1:1<=k)(k2:k<=z)(e1:ze y z a n m r+k<=a.2.2 * z)(ha:0<=ah)
  (hlog:0<byP z r ah (ze y z a n m r+k)->(byP z r ah (ze y z a n m r+k)).natAbs.log2<1920)
  (qw:0<byP z r ah (ze y z a n m r+k)->∀v,Z 21 [(29,v)] μ)
  (q:byP z r ah (ze y z a n m r+k)<=0->∀μ' cs',Ch [i,ci,bi] μ μ'->μ'.length=μ.length->μ'[i]?=some (hsO (shp x y z) ah sd (kpX nop at_ kd ci) (some a) (some (mkG x y z sd a n m r k)) (some (nwG y z a n m r k)) (.mut bi) false)->μ'[bi]?=some (.lst ((bs++[(ze y z a n m r,ze y z a n m r+k)]).map (btT a.1)))->μ'[ci]?=some (.lst (cs'.map ntT))->CI nop at_ cs' (some a) (some (mkG x y z sd a n m r k))->K (.int ((nmB y z a.1 (bs++[(ze y z a n m r,ze y z a n m r+k)])).length:Int)) μ')
  (qf:byP z r ah (ze y z a n m r+k)<=0->nop=false->(cs.length:Int)+1=at_->∀μ' c,Kc c->Ch [i,ci] μ μ'->μ'.length=μ.length->μ'[i]?=some (hsO (shp x y z) ah sd (kpX nop at_ kd ci) (some a) m n (.mut bi) true)->μ'[ci]?=some (.lst ((cs++[(some a,some (mkG x y z sd a n m r k))]).map ntT))->Z c [] μ') :
  zO [.mut i,.int r,.int k] μ K Z:=by
 have ne:bi≠i:=λw=>by rw[w,ho] at hbi;cases hbi
 have nci:ci≠i:=λw=>by rw[w,ho] at hc;cases hc
 unfold zO
 refine⟨rfl,?_⟩
 refine⟨_,ho,?_⟩
 refine z0u s ok ho hc hat C hn k1 k2 e1 ha hlog qw (λe2 μ' cs' ch ln g1 g2 C'=>?_) qf
 have hb':μ'[bi]?=some (.lst (bs.map (btT a.1))):=ch.get hbi (by simp[ne,bc])
 refine⟨_,_,_,g1,rfl,?_⟩
 refine⟨⟨_,hb'⟩,?_⟩
 refine⟨_,hb',by rw[z5R];unfold room;omega,?_⟩
 have hi2:(μ'.set bi (.lst (bs.map (btT a.1)++[xj a.1 (ze y z a n m r) (ze y z a n m r+k)])))[i]?=some (hsO (shp x y z) ah sd (kpX nop at_ kd ci) (some a) (some (mkG x y z sd a n m r k)) (some (nwG y z a n m r k)) (.mut bi) false):=by rw[z5L ne];exact g1
 refine⟨_,_,_,hi2,rfl,?_⟩
 have eb:bs.map (btT a.1)++[xj a.1 (ze y z a n m r) (ze y z a n m r+k)]=(bs++[(ze y z a n m r,ze y z a n m r+k)]).map (btT a.1):=by simp
 have hb2:(μ'.set bi (.lst (bs.map (btT a.1)++[xj a.1 (ze y z a n m r) (ze y z a n m r+k)])))[bi]?=some (.lst ((bs++[(ze y z a n m r,ze y z a n m r+k)]).map (btT a.1))):=by rw[←eb];exact get_set hb'
 refine yL (y:=y) (z:=z) hb2 (by simp;omega) (λp hp=>?_) ?_
 ·rcases z5Q.mp hp with hp|hp
  ·exact hbe p hp
  ·rw[z5J.mp hp];show ze y z a n m r<=ze y z a n m r+k;omega
 ·refine q e2 _ cs' ((ch.mono (by simp)).trans (Ch.set.mono (by simp))) (by simp[ln]) hi2 hb2 ?_ C'
  rw[z5L bc]
  exact g2
end
section
variable {μ μ1 μ2:Mem}{K:T->Mem->Prop}{Z:Xp}{z:Int}{i bi ci:Nat}{sh bt:T}{sd:Int}{l l':Option Ls}{m m' n:Option Int}{a b:Ls}{r k h w:Int}{at_ kd:Int}{nop:Bool}{cs:List Nt}{bs:List Bt}
structure HS(μ:Mem)(i bi ci:Nat)(nop:Bool)(at_ kd sd z:Int)(a:Ls)(m n:Option Int)(cs:List Nt)(bs:List Bt):Prop where
 ho:μ[i]?=some (hsO (shp 900 3 z) 3 sd (kpX nop at_ kd ci) (some a) m n (.mut bi) false)
 hb:μ[bi]?=some (.lst (bs.map (btT a.1)))
 hc:μ[ci]?=some (.lst (cs.map ntT))
 bc:bi≠ci
 C:CI nop at_ cs (some a) m
 hn:∀k,n=some k->0<=k/\k<900 * 3 * z
 ok:LsOk 900 3 a
 B:BOk 900 z bs
 be:nmB 3 z a.1 bs=[]
noncomputable def Fal (μ:Mem)(i:Nat):Prop:=∃sh ah sd kp l m n bt,μ[i]?=some (hsO sh ah sd kp l m n bt true)
noncomputable def TV (L:Nat)(μ:Mem)(tv:T)(names:List Int):Prop:=tv=.lst (names.map T.int)\/∃j,tv=.mut j/\L<=j/\μ[j]?=some (.lst (names.map T.int))
noncomputable def Nx (z sd r k:Int)(b a:Ls)(m n:Option Int)(a':Ls)(m' n':Option Int)(names:List Int):Prop:=
 (names=[]/\a'=b/\m'=m/\n'=n)\/(names=nmL 3 z a.1 (ze 3 z a n m r) k/\a'=a/\m'=some (mkG 900 3 z sd a n m r k)/\n'=some (nwG 3 z a n m r k)/\byP z r 3 (ze 3 z a n m r+k)<=0)
noncomputable def Fp (z sd r k:Int)(b a:Ls)(m n:Option Int)(p:Nt):Prop:=p=(some b,m)\/(p=(some a,some (mkG 900 3 z sd a n m r k))/\byP z r 3 (ze 3 z a n m r+k)<=0)
theorem z32(s:Hz 900 3 z)(ok:LsOk 900 3 a)(k1:1<=k)(e1:ze 3 z a n m r+k<=a.2.2 * z):0<=nwG 3 z a n m r k/\nwG 3 z a n m r k<900 * 3 * z:=by
 have bn:=xl (n:=n) (m:=m) (r:=r) s ok
 have ux:=ok.ux
 have z1:=s.z1
 have uz:a.2.2 * z<=900 * z:=z6c ux (by omega)
 exact z40 s ok.h0 ok.h1 (by omega) (by omega)
theorem UK{q:Bt}(h:nmB 3 z (a.1) bs=[]):nmB 3 z a.1 (bs++[q])=nmL 3 z a.1 q.1 (q.2-q.1):=by
 unfold nmB at h ⊢
 rw[z96,h]
 simp
theorem z0g{xs:List T}{k:Int}(h0:0<=k)(h:xs.length=k.toNat):x_ xs none (some k)=xs:=by
 show (xs.drop 0).take ((if k<0 then (k+(xs.length:Int)).toNat else min k.toNat xs.length)-0)=xs
 rw[if_neg (by omega),←h,Nat.min_self,List.drop_zero,zdn,za2]
theorem z3D(s:Hz 900 3 z)(zb:z<=5)(H:HS μ i bi ci nop at_ kd sd z a m n cs bs)(hat:at_<=900)(hl:bs.length<=800)(okb:LsOk 900 3 b)(b1:b.1=a.1)(k1:1<=k)(k2:k<=z)(e1:ze 3 z a n m r+k<=a.2.2 * z)
  (hlog:(byP z r 3 (ze 3 z a n m r+k)).natAbs.log2<1920)
  (qw:K (.lst []) μ)
  (qok:∀μ' bi' a' m' n' cs' bs' tv names,HS μ' i bi' ci nop at_ kd sd z a' m' n' cs' bs'->(bi'=bi\/μ.length<=bi')->bs'.length<=bs.length+1->Ch [i,ci,bi] μ μ'->TV μ.length μ' tv names->Nx z sd r k b a m n a' m' n' names->K tv μ')
  (qf:nop=false->(cs.length:Int)+1=at_->∀μ' p,Ch [i,ci,bi] μ μ'->Fal μ' i->μ'[ci]?=some (.lst ((cs++[p]).map ntT))->Fp z sd r k b a m n p->K .non μ') :
  qy [.mut i,.int w,.int r,.int k,lsT (some b)] μ K Z:=by
 obtain⟨ho,hb,hc,bc,C,hn,ok,B,be⟩:=id H
 have z1:=s.z1
 have ne:bi≠i:=λw=>by rw[w,ho] at hb;cases hb
 have nci:ci≠i:=λw=>by rw[w,ho] at hc;cases hc
 have il:=(z5A.mp ho).1
 have bl:=(z5A.mp hb).1
 have cl:=(z5A.mp hc).1
 have bn:=xl (n:=n) (m:=m) (r:=r) s ok
 have nw:=z32 (n:=n) (m:=m) (r:=r) s ok k1 e1
 have hn':∀j,some (nwG 3 z a n m r k)=some j->0<=j/\j<900 * 3 * z:=λj e=>by cases e;exact nw
 unfold qy
 refine⟨rfl,?_⟩
 refine zM (λw1=>?_) (λw1=>?_)
 ·refine⟨_,ho,?_⟩
  refine z5f s (by decide) (by omega) ok ho hc hat C hn k1 k2 e1 (by decide) (λ_=>hlog) (λ_ v=>?_) (λe2 μ' cs' j b' ch lj lb jb g1 g2 g3 C' g4=>?_) (λe2 f1 f2 μ' c kc ch ln g1 g2=>?_)
  ·exact qw
  ·exact qok μ' b' a _ _ cs' [] (.mut j) _ ⟨g1,g2,g3,by omega,C',hn',ok,⟨by simp,by simp,by simp,by simp⟩,rfl⟩ (.inr lb) (by simp) (ch.mono (by simp)) (.inr ⟨j,rfl,lj,g4⟩) (.inr ⟨rfl,rfl,rfl,rfl,e2⟩)
  ·have q':=qf f1 f2 μ' _ (ch.mono (by simp)) ⟨_,_,_,_,_,_,_,_,g1⟩ g2 (.inr ⟨rfl,e2⟩)
   rcases kc with rfl|rfl|rfl|rfl<;>exact q'
 ·refine zM (λw2=>?_) (λw2=>?_)
  ·refine⟨_,ho,?_⟩
   refine⟨_,ho,?_⟩
   refine z25 s ok ho hb bc (by omega) (λp hp=>B.be p hp) hc hat C hn k1 k2 e1 (by decide) (λ_=>hlog) (λ_ v=>?_) (λe2 μ' cs' ch ln g1 g2 g3 C'=>?_) (λe2 f1 f2 μ' c kc ch ln g1 g2=>?_)
   ·exact qw
   ·have eN:=UK (z:=z) (q:=(ze 3 z a n m r,ze 3 z a n m r+k)) be
    have ek:(ze 3 z a n m r+k)-ze 3 z a n m r=k:=by omega
    have eN:nmB 3 z a.1 (bs++[(ze 3 z a n m r,ze 3 z a n m r+k)])=nmL 3 z a.1 (ze 3 z a n m r) k:=by rw[eN];show nmL 3 z a.1 (ze 3 z a n m r) (ze 3 z a n m r+k-ze 3 z a n m r)=_;rw[ek]
    have lN:(nmB 3 z a.1 (bs++[(ze 3 z a n m r,ze 3 z a n m r+k)])).length=k.toNat:=by rw[eN,vT]
    have B2:BOk 900 z (bs++[(ze 3 z a n m r,ze 3 z a n m r+k)]):=by
     have ux:=ok.ux
     have uz:a.2.2 * z<=900 * z:=z6c ux (by omega)
     refine⟨λp hp=>?_,λp hp=>?_,λp hp=>?_,λp hp=>?_⟩
     all_goals rcases z5Q.mp hp with hp|hp
     ·exact B.b0 p hp
     ·rw[z5J.mp hp];exact bn
     ·exact B.be p hp
     ·rw[z5J.mp hp];show ze 3 z a n m r<=ze 3 z a n m r+k;omega
     ·exact B.ex p hp
     ·rw[z5J.mp hp];show ze 3 z a n m r+k<=900 * z;omega
     ·exact B.sz p hp
     ·rw[z5J.mp hp];show ze 3 z a n m r+k-ze 3 z a n m r<=1000;omega
    refine YL (h:=a.1) s (by omega) ok.h0 ok.h1 g1 g2 (by simp;omega) B2 (by rw[lN];omega) (by rw[lN];omega) (λe=>absurd e (by omega)) λ_ os μ2 j f2 Bo eo lo ch2 lj lf jf t1 t2 t3=>?_
    have cl':=(z5A.mp g3).1
    have eo:nmB 3 z a.1 os=[]:=by rw[eo];exact List.drop_eq_nil_of_le (by omega)
    have et:(nmB 3 z a.1 (bs++[(ze 3 z a n m r,ze 3 z a n m r+k)])).take ((((nmB 3 z a.1 (bs++[(ze 3 z a n m r,ze 3 z a n m r+k)])).length:Nat):Int)).toNat=nmL 3 z a.1 (ze 3 z a n m r) k:=by rw[z78 (by omega),eN]
    rw[et] at t3
    refine⟨_,t3,?_⟩
    rw[z0g (by omega) (by rw[z5R,vT])]
    have c2:μ2[ci]?=some (.lst (cs'.map ntT)):=ch2.get g3 (by simp[nci])
    exact qok μ2 f2 a _ _ cs' os _ _ ⟨t1,t2,c2,by omega,C',hn',ok,Bo,eo⟩ (.inr (by have:=ch.len;omega)) (by simpa using lo) (ch.trans (ch2.mono (by simp))) (.inl rfl) (.inr ⟨rfl,rfl,rfl,rfl,e2⟩)
   ·have q':=qf f1 f2 μ' _ (ch.mono (by simp)) ⟨_,_,_,_,_,_,_,_,g1⟩ g2 (.inr ⟨rfl,e2⟩)
    rcases kc with rfl|rfl|rfl|rfl<;>exact q'
  ·refine⟨_,ho,?_⟩
   refine z2K ho hc hat C okb (λμ' cs' ch ln g1 g2 C'=>?_) (λf1 f2 μ' c kc ch ln g1 g2=>?_)
   ·have hb':μ'[bi]?=some (.lst (bs.map (btT a.1))):=ch.get hb (by simp[ne,bc])
    exact qok μ' bi b m n cs' bs (.lst []) [] ⟨g1,by rw[b1];exact hb',g2,bc,C',hn,okb,B,by rw[b1];exact be⟩ (.inl rfl) (by omega) (ch.mono (by simp)) (.inl rfl) (.inl ⟨rfl,rfl,rfl,rfl⟩)
   ·have q':=qf f1 f2 μ' _ (ch.mono (by simp)) ⟨_,_,_,_,_,_,_,_,g1⟩ g2 (.inl rfl)
    rcases kc with rfl|rfl|rfl|rfl<;>exact q'
end
section
variable {μ μ1 μ2:Mem}{K:T->Mem->Prop}{Z:Xp}{z:Int}{i bi ci:Nat}{b:Ls}{w:Int}{t1 t2:T}
theorem Ze(f:Fal μ i)(q:Z 24 [] μ):zF [.mut i] μ K Z:=by
 obtain⟨sh,ah,sd,kp,l,m,n,bt,ho⟩:=f
 unfold zF
 refine⟨rfl,?_⟩
 refine⟨_,_,_,ho,rfl,?_⟩
 exact⟨by show (1:Nat)<=room;decide,q⟩
theorem Fal.at(f:Fal μ i):∃o,μ[i]?=some (.obj 45 o):=by
 obtain⟨sh,ah,sd,kp,l,m,n,bt,ho⟩:=f
 exact⟨_,ho⟩
theorem Q9(f:Fal μ i)(q:Z 24 [] μ):zL [.mut i,t1,t2] μ K Z:=by
 obtain⟨o,ho⟩:=f.at
 unfold zL
 exact⟨rfl,_,ho,Ze f q⟩
theorem Vj(f:Fal μ i)(q:Z 24 [] μ):zQ [.mut i,t1,t2] μ K Z:=by
 obtain⟨o,ho⟩:=f.at
 unfold zQ
 exact⟨rfl,_,ho,Q9 f q⟩
theorem VT(f:Fal μ i)(q:Z 24 [] μ):zO [.mut i,t1,t2] μ K Z:=by
 obtain⟨o,ho⟩:=f.at
 unfold zO
 exact⟨rfl,_,ho,Q9 f q⟩
theorem Qw(f:Fal μ i)(q:Z 24 [] μ):zU [.mut i,t1] μ K Z:=by
 obtain⟨o,ho⟩:=f.at
 unfold zU
 exact⟨rfl,_,ho,Ze f q⟩
theorem X4(f:Fal μ i)(q:Z 24 [] μ):zH [.mut i] μ K Z:=by
 obtain⟨o,ho⟩:=f.at
 unfold zH
 exact⟨rfl,_,ho,Ze f q⟩
theorem ug(f:Fal μ i)(q:Z 24 [] μ):zh [.mut i,t1] μ K Z:=by
 obtain⟨o,ho⟩:=f.at
 unfold zh
 exact⟨rfl,_,ho,Ze f q⟩
theorem Z4(f:Fal μ i)(q:K (.bl true) μ):wQ [.mut i,.int w,t1] μ K Z:=by
 obtain⟨o,ho⟩:=f.at
 unfold wQ
 refine⟨rfl,?_⟩
 refine zM (λ_=>⟨_,ho,Vj f q⟩) (λ_=>?_)
 refine zM (λ_=>⟨_,ho,Vj f q⟩) (λ_=>?_)
 refine zM (λ_=>⟨_,ho,VT f q⟩) (λ_=>?_)
 refine zM (λ_=>⟨_,ho,Qw f q⟩) (λ_=>?_)
 refine zM (λ_=>⟨_,ho,Qw f q⟩) (λ_=>?_)
 refine zM (λ_=>⟨_,ho,X4 f q⟩) (λ_=>?_)
 refine zM (λ_=>⟨_,ho,ug f q⟩) (λ_=>?_)
 exact⟨_,ho,ug f q⟩
end
section
variable {μ μ1 μ2:Mem}{K:T->Mem->Prop}{Z:Xp}{z:Int}{i bi ci:Nat}{a:Ls}{sd kd:Int}{t1 t2:T}
theorem u_{at_:Int}(ht:∃j:Nat,μ[j]?=some (MO.tab 0))(q:K (kpX false at_ kd ci) μ):wO [.int at_,.int kd,.mut ci] μ K Z:=by
 unfold wO
 refine⟨rfl,?_⟩
 exact⟨ht,[.int at_,.mut ci,.int kd],rfl,q⟩
theorem z4o{at_:Int}(ho:μ[i]?=some (hsO (shp 900 3 z) 3 sd (kpX false at_ kd ci) none none none (.mut bi) false))(hc:μ[ci]?=some (.lst []))(ok:LsOk 900 3 a)
  (q1:at_≠1->∀μ',Ch [i,ci] μ μ'->μ'[i]?=some (hsO (shp 900 3 z) 3 sd (kpX false at_ kd ci) (some a) none none (.mut bi) false)->μ'[ci]?=some (.lst (([(some a,none)]:List Nt).map ntT))->K (.lst []) μ')
  (q2:at_=1->∀μ',Ch [i,ci] μ μ'->Fal μ' i->K .non μ'):qy [.mut i,.int 5,.int 0,.int 1,lsT (some a)] μ K Z:=by
 unfold qy
 refine⟨rfl,?_⟩
 refine⟨_,ho,?_⟩
 unfold zh
 refine⟨rfl,?_⟩
 refine⟨_,ho,?_⟩
 refine qq ho ?_
 refine⟨_,_,_,ho,rfl,?_⟩
 refine wq ok.h0 ok.h1 ok.f0 ok.fu ok.ux ?_
 refine⟨_,ho,?_⟩
 refine⟨_,_,_,ho,rfl,?_⟩
 refine jW (l':=some a) (m':=none) (cs:=[]) ho hc (by simp) (λe _=>by cases e) (λ_ w μ' ch ln g1 g2=>?_) (λ_ _ w μ' c kc ch ln g1 g2=>?_)
 ·have w:((([]:List Nt).length:Nat):Int)+1≠at_:=w.resolve_left (by decide)
  exact q1 (λe=>w (by rw[e];rfl)) μ' ch g1 g2
 ·have q':=q2 (by rw[←w];rfl) μ' ch ⟨_,_,_,_,_,_,_,_,g1⟩
  rcases kc with rfl|rfl|rfl|rfl<;>exact q'
theorem WZ{cs:List Nt}(s:Hz 900 3 z)(ho:μ[i]?=some (hsO (shp 900 3 z) 3 sd (kpX false 2 kd ci) (some a) none none (.mut bi) false))(hc:μ[ci]?=some (.lst (cs.map ntT)))(h1:cs.length=1)
  (q:∀μ' c,Kc c->Ch [i,ci] μ μ'->Fal μ' i->Z c [] μ'):zH [.mut i] μ K Z:=by
 unfold zH
 refine⟨rfl,?_⟩
 refine⟨_,ho,?_⟩
 refine qq ho ?_
 refine⟨_,ho,?_⟩
 unfold zK
 refine⟨rfl,?_⟩
 refine⟨_,_,_,ho,rfl,?_⟩
 refine⟨_,_,_,ho,rfl,?_⟩
 refine⟨_,_,_,ho,rfl,?_⟩
 refine⟨_,ho,?_⟩
 refine xQ s ho (λk e=>by cases e) ?_
 refine WG ?_
 refine⟨_,ho,?_⟩
 refine⟨_,_,_,ho,rfl,?_⟩
 refine jW (l':=none) (m':=none) ho hc (by omega) (λe _=>by cases e) (λ_ w=>absurd w ?_) (λ_ _ _ μ' c kc ch ln g1 g2=>q μ' c kc ch ⟨_,_,_,_,_,_,_,_,g1⟩)
 rw[h1]
 simp
theorem Ch.fresh{S:List Nat}(a:Ch S μ μ1)(h:∀x∈S,μ.length<=x):Ch [] μ μ1:=⟨a.len,λi hi _=>a.ot i hi λz=>by have:=h i z;omega⟩
theorem z0p{sh lt k1 k2:T}(f:Fal μ i)(q:K (.bl true) μ):qF (k7.drop 3) [some sh,some lt,some k1,some k2,some (.mut i),some .non] μ (En.fn K Z):=by
 refine⟨⟨by decide,by decide⟩,?_⟩
 refine⟨by show (8:Nat)<=room;decide,?_⟩
 refine uC (λ_=>.bl true) (λt ht k hk=>?_) ?_
 ·obtain⟨j,hj⟩:=z6C.mp ht
  obtain⟨rfl,_⟩:=yg hj
  exact⟨_,rfl,Z4 f hk⟩
 ·exact⟨_,all_map (λ_=>true) _,q⟩
theorem Kw(s:Hz 900 3 z)(ht:∃j:Nat,μ[j]?=some (MO.tab 0))(ok:LsOk 900 3 a){bk:Int}(b0:0<=bk)(b1:bk<2)(q:∀μ',Ch [] μ μ'->K (.bl true) μ'):xq [shp 900 3 z,lsT (some a),.int kd,.int bk] μ K Z:=by
 unfold xq
 refine⟨rfl,?_⟩
 obtain⟨j,hj⟩:=ht
 refine u_ ⟨j,zi hj⟩ ?_
 have hi0:(μ++[MO.lst []]).length=μ.length+1:=by simp
 refine QD zy (by decide) (by decide) λμ1 bi ch1 hbi h1 g1=>?_
 refine⟨rfl,?_⟩
 have c1:μ1[μ.length]?=some (.lst []):=ch1.get (zi zy) (by simp)
 have ch0:Ch [(μ++[MO.lst []]).length,μ.length] μ μ1:=(Ch.app.mono (by simp)).trans ((Ch.app.mono (by simp)).trans (ch1.mono (by simp)))
 refine z4o h1 c1 ok (λw μ2 ch2 h2 c2=>?_) (λw μ2 ch2 f2=>?_)
 ·have hbk:bk=1:=by omega
  subst hbk
  refine⟨_,zy,by decide,_,rfl,?_⟩
  refine⟨_,zi h2,?_⟩
  refine WZ s (zi h2) (zi c2) rfl λμ3 c kc ch3 f3=>?_
  have fin:=z0p (K:=K) (Z:=Z) (sh:=shp 900 3 z) (lt:=lsT (some a)) (k1:=.int kd) (k2:=.int 1) f3 (q μ3 ((((ch0.trans ch2).trans (Ch.app.mono (by simp))).trans ch3).fresh (by simp)))
  rcases kc with rfl|rfl|rfl|rfl<;>exact fin
 ·have hbk:bk=0:=by omega
  subst hbk
  exact z0p f2 (q μ2 ((ch0.trans ch2).fresh (by simp)))
end
section
variable {z sd h r k:Int}{a b:Ls}{m n:Option Int}{gs:List Int}
theorem z4V(s:Hz 900 3 z)(h0:0<=h)(h1:h<3)(p:Int):plA 3 z h (nmA 3 z h p)=p+1:=by
 have a1:=(K9 (x:=900) (k:=nmA 3 z h p) (p:=p+1) s h0 h1).mp (Zq s h0 h1 (by omega))
 have a2:¬plA 3 z h (nmA 3 z h p)<=p:=λw=>by
  have:=(K9 (x:=900) s h0 h1).mpr w
  omega
 omega
theorem UZ{p q z:Int}(z1:1<=z)(h:p<=q):p * z<=q * z:=z6c h (by omega)
structure A43(z sd h r:Int)(a:Ls)(m n:Option Int)(gs:List Int):Prop where
 z1:1<=z
 z5:z<=5
 s0:0<=sd
 s3:sd<=3
 h0:0<=h
 h3:h<3
 a1:a.1=h
 a2:a.2.1=0
 u0:892<=a.2.2
 u1:a.2.2<=900
 r0:0<=r
 r1:r<=110
 m0:∀v,m=some v->0<=v/\v<=r+6/\qU 3 z h n m<=(v+1) * z
 mn:m=none->qU 3 z h n m=0
 f0:0<=qU 3 z h n m
 gp:∀g∈gs,∃p,0<=p/\p<qU 3 z h n m/\g=nmA 3 z h p
 gr:gs.Pairwise (·<·)
theorem A43.hz(A:A43 z sd h r a m n gs):Hz 900 3 z:=⟨by decide,by decide,by decide,A.z1,by have:=A.z5;omega⟩
theorem A43.ok(A:A43 z sd h r a m n gs):LsOk 900 3 a:=⟨by rw[A.a1];exact A.h0,by rw[A.a1];exact A.h3,by rw[A.a2];decide,by rw[A.a2];have:=A.u0;omega,A.u1⟩
theorem A43.beg(A:A43 z sd h r a m n gs):qU 3 z h n m<=ze 3 z a n m r/\0<=ze 3 z a n m r/\ze 3 z a n m r<=(r+7) * z/\r * z<=ze 3 z a n m r:=by
 have z1:=A.z1
 have r0:=A.r0
 have f0:=A.f0
 have e:ze 3 z a n m r=if qU 3 z h n m<r * z then r * z else qU 3 z h n m:=by
  unfold ze
  rw[A.a1,A.a2]
  have:(if (0:Int)<r then r else 0)=r:=by split<;>omega
  rw[this]
 have fb:qU 3 z h n m<=(r+7) * z:=by
  cases hm:m with
  |none=>have:=A.mn hm;rw[hm] at this;rw[this];exact z87 (by omega) (by omega)
  |some v=>
   obtain⟨v0,v1,v2⟩:=A.m0 v hm
   rw[hm] at v2
   exact zbI v2 (UZ z1 (by omega))
 have rz:r * z<=(r+7) * z:=UZ z1 (by omega)
 have rn:0<=r * z:=z87 r0 (by omega)
 rw[e]
 split<;>omega
theorem A43.e1(A:A43 z sd h r a m n gs)(k2:k<=z):ze 3 z a n m r+k<=a.2.2 * z:=by
 have b:=A.beg.2.2.1
 have r1:=A.r1
 have z1:=A.z1
 have u0:=A.u0
 have w:(r+7) * z+z=(r+8) * z:=by rw[z88,z88];omega
 have:=UZ z1 (show r+8<=a.2.2 by omega)
 omega
theorem A43.mo(A:A43 z sd h r a m n gs)(k1:1<=k)(k2:k<=z):0<=(ze 3 z a n m r+k-1) / z/\(ze 3 z a n m r+k-1) / z<=r+8/\ze 3 z a n m r+k<=((ze 3 z a n m r+k-1) / z+1) * z:=by
 obtain⟨_,b0,b1,_⟩:=A.beg
 have z1:=A.z1
 have w:(r+7) * z+z=(r+8) * z:=by rw[z88,z88];omega
 have d:=z6Q (ze 3 z a n m r+k-1) z
 have m1:=z6l (ze 3 z a n m r+k-1) (show 0<z by omega)
 have m0:=z6r (ze 3 z a n m r+k-1) (show z≠0 by omega)
 refine⟨z8Y (by omega) (by omega),?_,?_⟩
 ·have:(ze 3 z a n m r+k-1) / z<r+8:=zay (by omega) (by omega)
  omega
 ·rw[z88,z7a ((ze 3 z a n m r+k-1) / z) z];omega
theorem A43.log(A:A43 z sd h r a m n gs)(k1:1<=k)(k2:k<=z):(byP z r 3 (ze 3 z a n m r+k)).natAbs.log2<1920:=by
 obtain⟨c0,c1,_⟩:=A.mo k1 k2
 have r0:=A.r0
 have r1:=A.r1
 have e:(byP z r 3 (ze 3 z a n m r+k)).natAbs<2 ^ 8:=by show ((ze 3 z a n m r+k-1) / z-(r+3)).natAbs<256;omega
 by_cases c:(byP z r 3 (ze 3 z a n m r+k)).natAbs=0
 ·rw[c];decide
 ·have:=(zdw c).mpr e;omega
theorem A43.mkk(A:A43 z sd h r a m n gs)(k1:1<=k)(k2:k<=z)(by0:byP z r 3 (ze 3 z a n m r+k)<=0):0<=mkG 900 3 z sd a n m r k/\mkG 900 3 z sd a n m r k<=r+6/\ze 3 z a n m r+k<=(mkG 900 3 z sd a n m r k+1) * z/\∀v,m=some v->v<=mkG 900 3 z sd a n m r k:=by
 obtain⟨c0,c1,c2⟩:=A.mo k1 k2
 have by0:(ze 3 z a n m r+k-1) / z-(r+3)<=0:=by0
 have s0:=A.s0
 have s3:=A.s3
 have r1:=A.r1
 have z1:=A.z1
 have go:∀mo:Int,mo=(ze 3 z a n m r+k-1) / z->(ze 3 z a n m r+k-1) / z<=mbI 900 sd m mo/\0<=mbI 900 sd m mo/\mbI 900 sd m mo<=r+6/\∀v,m=some v->v<=mbI 900 sd m mo:=by
  rintro mo rfl
  have mn:mnI ((ze 3 z a n m r+k-1) / z+sd) (900-1)=(ze 3 z a n m r+k-1) / z+sd:=by unfold mnI;rw[if_neg (by omega)]
  cases hm:m with
  |none=>
   subst hm
   show _<=mnI _ _/\0<=mnI _ _/\mnI _ _<=r+6/\_
   rw[mn]
   exact⟨by omega,by omega,by omega,λv e=>by cases e⟩
  |some v=>
   obtain⟨v0,v1,_⟩:=A.m0 v hm
   subst hm
   show _<=(if _<=v then v else mnI _ _)/\0<=(if _<=v then v else mnI _ _)/\(if _<=v then v else mnI _ _)<=r+6/\∀v',some v=some v'->v'<=(if _<=v then v else mnI _ _)
   rw[mn]
   split
   ·exact⟨by omega,by omega,by omega,λv' e=>by cases e;omega⟩
   ·exact⟨by omega,by omega,by omega,λv' e=>by cases e;omega⟩
 obtain⟨g1,g2,g3,g4⟩:=go _ rfl
 exact⟨g2,g3,zbI c2 (UZ z1 (Int.add_le_add_right g1 1)),g4⟩
theorem A43.names(A:A43 z sd h r a m n gs)(k1:1<=k)(k2:k<=z)(by0:byP z r 3 (ze 3 z a n m r+k)<=0):A43 z sd h r a (some (mkG 900 3 z sd a n m r k)) (some (nwG 3 z a n m r k)) (gs++nmL 3 z a.1 (ze 3 z a n m r) k):=by
 obtain⟨b1,b2,b3,_⟩:=A.beg
 obtain⟨g1,g2,g3,g4⟩:=A.mkk k1 k2 by0
 have s:=A.hz
 have e:qU 3 z h (some (nwG 3 z a n m r k)) (some (mkG 900 3 z sd a n m r k))=ze 3 z a n m r+k:=by
  show plA 3 z h (nmA 3 z a.1 (ze 3 z a n m r+k-1))=_
  rw[A.a1,z4V s A.h0 A.h3];omega
 refine⟨A.z1,A.z5,A.s0,A.s3,A.h0,A.h3,A.a1,A.a2,A.u0,A.u1,A.r0,A.r1,λv hv=>?_,λw=>(by cases w),by rw[e];omega,λg hg=>?_,?_⟩
 ·cases hv
  rw[e]
  exact⟨g1,g2,g3⟩
 ·rw[e]
  rcases z5Q.mp hg with hg|hg
  ·obtain⟨p,p0,p1,rfl⟩:=A.gp g hg
   exact⟨p,p0,by omega,rfl⟩
  ·unfold nmL at hg
   obtain⟨j,hj,rfl⟩:=z6y.mp hg
   have:=z9f.mp hj
   exact⟨ze 3 z a n m r+j,by omega,by omega,by rw[A.a1]⟩
 ·rw[List.pairwise_append]
  refine⟨A.gr,?_,λg hg g' hg'=>?_⟩
  ·unfold nmL
   rw[z9I]
   refine zdK (λ{p q} pq=>?_) List.pairwise_lt_range
   rw[A.a1]
   exact Zq s A.h0 A.h3 (by omega)
  ·obtain⟨p,p0,p1,rfl⟩:=A.gp g hg
   unfold nmL at hg'
   obtain⟨j,_,rfl⟩:=z6y.mp hg'
   rw[A.a1]
   exact Zq s A.h0 A.h3 (by omega)
theorem A43.lease(A:A43 z sd h r a m n gs)(b1:b.1=h)(b2:b.2.1=0)(b3:892<=b.2.2)(b4:b.2.2<=900):A43 z sd h r b m n gs:=
 ⟨A.z1,A.z5,A.s0,A.s3,A.h0,A.h3,b1,b2,b3,b4,A.r0,A.r1,A.m0,A.mn,A.f0,A.gp,A.gr⟩
theorem A43.read{r':Int}(A:A43 z sd h r a m n gs)(h1:r<=r')(h2:r'<=110):A43 z sd h r' a m n gs:=
 ⟨A.z1,A.z5,A.s0,A.s3,A.h0,A.h3,A.a1,A.a2,A.u0,A.u1,by have:=A.r0;omega,h2,λv e=>by obtain⟨v0,v1,v2⟩:=A.m0 v e;exact⟨v0,by omega,v2⟩,A.mn,A.f0,A.gp,A.gr⟩
theorem A43.again{m':Option Int}{r':Int}(A:A43 z sd h r a m n gs)(b1:b.1=h)(b2:b.2.1=0)(b3:892<=b.2.2)(b4:b.2.2<=900)(h1:r<=r')(h2:r'<=110)
  (hm:(m'=m)\/∃v,m'=some v/\0<=v/\v<=r+6/\qU 3 z h n m<=(v+1) * z):A43 z sd h r' b m' none gs:=by
 have z1:=A.z1
 have key:(m'=none/\m=none)\/∃v,m'=some v/\0<=v/\v<=r+6/\qU 3 z h n m<=(v+1) * z:=by
  rcases hm with e|e
  ·cases hmm:m with
   |none=>rw[hmm] at e;exact .inl ⟨e,rfl⟩
   |some v=>
    obtain⟨v0,v1,v2⟩:=A.m0 v hmm
    exact .inr ⟨v,by rw[e,hmm],v0,v1,by rw[hmm] at v2;exact v2⟩
  ·exact .inr e
 rcases key with⟨e1,e2⟩|⟨v,e1,v0,v1,v2⟩
 ·have f:=A.mn e2
  subst e1
  refine⟨A.z1,A.z5,A.s0,A.s3,A.h0,A.h3,b1,b2,b3,b4,by have:=A.r0;omega,h2,λv e=>(by cases e),λ_=>rfl,z9J _,λg hg=>?_,A.gr⟩
  obtain⟨p,p0,p1,_⟩:=A.gp g hg
  rw[f] at p1;omega
 ·subst e1
  have fe:qU 3 z h none (some v)=(v+1) * z:=rfl
  refine⟨A.z1,A.z5,A.s0,A.s3,A.h0,A.h3,b1,b2,b3,b4,by have:=A.r0;omega,h2,λv' e=>?_,λw=>(by cases w),by rw[fe];exact z87 (by omega) (by omega),λg hg=>?_,A.gr⟩
  ·cases e
   exact⟨v0,by omega,zdo fe⟩
  ·obtain⟨p,p0,p1,e⟩:=A.gp g hg
   exact⟨p,p0,by rw[fe];omega,e⟩
end
section
variable {μ μ1 μ2:Mem}{K:T->Mem->Prop}{Z:Xp}{z:Int}{i bi ci gi:Nat}{sh bt:T}{sd:Int}{l l':Option Ls}{m m' n:Option Int}{a b:Ls}{r k h w lo:Int}{at_ kd:Int}{nop:Bool}{cs:List Nt}{bs:List Bt}{gs:List Int}{scr:T}{o1 o14 o15 o16 o17 o18:Option T}{E:En}
noncomputable abbrev t43(scr:T)(o1:Option T)(z h sd at_:Int)(ci i:Nat)(lo:Int)(gi:Nat)(r:Int)(nop:Bool)(o14 o15 o16 o17 o18:Option T):Sl:=
 [some scr,o1,some (.int z),some (.int h),some (.int 900),some (shp 900 3 z),some (.int sd),some (.int at_),some (.mut ci),some (.mut i),some (.int lo),some (.mut gi),some (.int r),some (.bl nop),o14,o15,o16,o17,o18]
structure I43(μ:Mem)(i bi ci gi:Nat)(nop:Bool)(at_ kd sd z h:Int)(a:Ls)(m n:Option Int)(cs:List Nt)(bs:List Bt)(gs:List Int)(r:Int)(nn:Nat):Prop where
 H:HS μ i bi ci nop at_ kd sd z a m n cs bs
 A:A43 z sd h r a m n gs
 hg:μ[gi]?=some (.lst (gs.map T.int))
 g1:gi≠i
 g2:gi≠bi
 g3:gi≠ci
 tb:μ[1]?=some (.tab 1)
 bl:bs.length<=nn
 gl:gs.length<=5 * nn
 rl:r<=4 * (nn:Int)+(if nop=true then 7 else 0)
@[reducible] noncomputable def Zm:List Ds:=[(zx 1 (zf wX [(eV 14)])),(zx 12 (zo .Add (eV 12) (zf zB [(eV 1),(eC (.int 5))]))),(zx 15 (zo .Add (eC (.int 1)) (zf zB [(eV 1),(eV 2)]))),(zx 16 (jh [(eV 3),(eC (.int 0)),(zo .Sub (eV 4) (zf zB [(eV 1),(eC (.int 9))]))])),(zx 17 (zf qy [(eV 9),(zf zB [(eV 1),(eC (.int 6))]),(eV 12),(eV 15),(eV 16)])),(sIf (tE (zt .Is (eV 17) (eC .non))) [(sIf (tOr (tE (eV 13)) (tOr (tE (zt .NotEq (eB1 ja (eV 8)) (eV 7))) (w_ (tE (eB1 JP (qR 1 [9,16] (.one 0) (Xq (eC (.int 8))) [] (zf wQ [(eV 1),(eV 0),(eV 2)]))))))) [(zA (eC (.bl false)))] []),(zx 13 (eC (.bl true))),(zx 18 (eIx (eV 8) (zo .Sub (zo .Sub (eV 7) (eC (.int 1))) (eV 10)))),(zx 9 (z0j 45 zE [(eV 5),(eC (.int 3)),(eV 6),(xX 1 1 []),(eV 18)])),(zx 12 (eB1 Xm (zo .Add (kY [(eV 12)]) (qR 1 [] (.one 0) (iE (kY [(eIx (eV 18) (eC (.int 1)))])) [(tE (zt .IsNot (eV 0) (eC .non)))] (zo .Add (eV 0) (eC (.int 1)))))))] [(zJ (KD (eV 11) (eV 17)))])]
@[reducible] noncomputable def z3x:List Ds:=[(sIf (tOr (tE (zt .NotEq (eV 13) (zt .GtE (eB1 ja (eV 8)) (eV 7)))) (tOr (tE (zt .NotEq (eB1 xT (eV 11)) (eV 11))) (tE (zt .NotEq (eB1 ja (eV 11)) (eB1 um (eB1 z0d (qR 1 [] (.one 0) (iE (eV 11)) [] (jh [(eV 0),(eC (.int 1))])))))))) [(zA (eC (.bl false)))] []),(zA (zt .Eq (qR 1 [2,3] (.one 0) (iE (eV 11)) [(tE (zt .NotEq (zo .Mod (zo .FloorDiv (eV 0) (eV 1)) (eC (.int 3))) (eV 2)))] (eV 0)) (kY [])))]
theorem X0(s:Hz 900 3 z)(h0:0<=h)(h3:h<3){p:Int}:nmA 3 z h p / z % 3=h:=(Kv s h0 h3).2.1
theorem CI.fell(C:CI nop at_ cs l m):decide (((cs.map ntT).length:Int) ≥ at_)=nop:=by
 rw[z5R]
 cases nop with
 |true=>have C:(cs.length:Int)=at_:=C;exact decide_eq_true (by omega)
 |false=>have C:(cs.length:Int)<at_:=C.1;exact decide_eq_false (by omega)
theorem z2Y{nn:Nat}(I:I43 μ i bi ci gi nop at_ kd sd z h a m n cs bs gs r nn)(hn:nn<=23)(q:∀μ',E.rt (.bl true) μ')(τ:Sl)(e:τ=t43 scr o1 z h sd at_ ci i lo gi r nop o14 o15 o16 o17 o18):qF z3x τ μ E:=by
 subst e
 have gl:=I.gl
 have z1:=I.A.z1
 have z5:=I.A.z5
 have hg:=I.hg
 have gr:gs.Pairwise (·<·):=I.A.gr
 refine⟨_,I.H.hc,?_⟩
 refine qL I.H.C.fell.symm ?_
 refine⟨gs,hg,gr.imp (λh=>zdp h),by omega,?_⟩
 refine⟨_,hg,?_⟩
 refine⟨by rw[uK];omega,true,QN _,?_⟩
 refine⟨_,hg,?_⟩
 refine⟨_,hg,?_⟩
 refine⟨by rw[z5R];unfold room;omega,?_⟩
 refine qD T.int (λn=>some (.tup [.int n,.int 1])) (λp hp kk hkk=>⟨_,rfl,hkk⟩) ?_ hg
 refine⟨gs,by rw[z7P],gr.imp (λh=>by omega),by omega,?_⟩
 refine⟨_,zy,?_⟩
 refine qL (by rw[z5R,z5R]) ?_
 refine⟨_,zi hg,?_⟩
 refine⟨by rw[z5R];unfold room;omega,?_⟩
 refine qD T.int (λ_=>none) (λp hp kk hkk=>⟨_,rfl,?_⟩) ?_ (zi hg)
 ·obtain⟨p',_,_,rfl⟩:=I.A.gp p hp
  refine⟨by omega,?_⟩
  refine⟨by decide,?_⟩
  refine qL (X0 I.A.hz I.A.h0 I.A.h3) ?_
  exact hkk
 ·rw[show ∀l:List Int,l.filterMap (λ_=>(none:Option T))=[] from λl=>by induction l<;>simp_all]
  refine⟨by simp[qS],true,rfl,?_⟩
  exact q _
end
section
variable {μ μ1 μ2:Mem}{K:T->Mem->Prop}{Z:Xp}{z:Int}{i bi ci gi:Nat}{sh bt:T}{sd:Int}{l l':Option Ls}{m m' n:Option Int}{a b:Ls}{r k h w lo:Int}{at_ kd:Int}{nop:Bool}{cs:List Nt}{bs:List Bt}{gs:List Int}{scr:T}{o1 o14 o15 o16 o17 o18:Option T}{E:En}{nn:Nat}
theorem HS.ne(H:HS μ i bi ci nop at_ kd sd z a m n cs bs):i≠ci/\i≠bi/\i<μ.length/\bi<μ.length/\ci<μ.length:=by
 refine⟨λw=>?_,λw=>?_,(z5A.mp H.ho).1,(z5A.mp H.hb).1,(z5A.mp H.hc).1⟩
 ·have:=H.ho;rw[w,H.hc] at this;cases this
 ·have:=H.ho;rw[w,H.hb] at this;cases this
theorem HS.ot(H:HS μ i bi ci nop at_ kd sd z a m n cs bs)(h1:μ1[i]?=μ[i]?)(h2:μ1[bi]?=μ[bi]?)(h3:μ1[ci]?=μ[ci]?):HS μ1 i bi ci nop at_ kd sd z a m n cs bs:=
 ⟨h1.trans H.ho,h2.trans H.hb,h3.trans H.hc,H.bc,H.C,H.hn,H.ok,H.B,H.be⟩
theorem Va{tv:T}{names:List Int}{nn:Nat}(H:HS μ1 i bi ci nop at_ kd sd z a m n cs bs)(A:A43 z sd h r a m n (gs++names))(hg:μ1[gi]?=some (.lst (gs.map T.int)))(g1:gi≠i)(g2:gi≠bi)(g3:gi≠ci)(tb:μ1[1]?=some (.tab 1))(bl:bs.length<=nn+1)(gl:(gs++names).length<=5 * (nn+1))(rl:r<=4 * ((nn+1:Nat):Int)+(if nop=true then 7 else 0))(hn:nn<=22)
  (tn:tv=.lst (names.map T.int)\/∃j,tv=.mut j/\j≠gi/\μ1[j]?=some (.lst (names.map T.int)))
  (q:∀μ',I43 μ' i bi ci gi nop at_ kd sd z h a m n cs bs (gs++names) r (nn+1)->E.nx (t43 scr o1 z h sd at_ ci i lo gi r nop o14 o15 o16 (some tv) o18) μ') (τ:Sl) (e:τ=t43 scr o1 z h sd at_ ci i lo gi r nop o14 o15 o16 (some tv) o18):qF (Zm.drop 5) τ μ1 E:=by
 subst e
 have fin:z0r gi tv μ1 (names.map T.int):=by
  rcases tn with e|⟨j,e1,e2,e3⟩
  ·exact .inl e
  ·exact .inr ⟨j,e1,e2,e3⟩
 have go:E.nx (t43 scr o1 z h sd at_ ci i lo gi r nop o14 o15 o16 (some tv) o18) (μ1.set gi (.lst (gs.map T.int++names.map T.int))):=by
  refine q _ ⟨H.ot (z5L g1) (z5L g2) (z5L g3),A,by rw[get_set hg,z7k],g1,g2,g3,?_,bl,gl,rl⟩
  rw[z5L]
  ·exact tb
  ·intro w;rw[w,tb] at hg;cases hg
 have sz:(gs.map T.int).length+(names.map T.int).length<=room:=by
  rw[z63] at gl
  rw[z5R,z5R];unfold room;omega
 rcases tn with e|⟨j,e1,e2,e3⟩
 ·subst e
  exact⟨⟨_,hg⟩,_,_,hg,fin,sz,go⟩
 ·subst e1
  exact⟨⟨_,hg⟩,_,_,hg,fin,sz,go⟩
theorem z1T{p:Nt}(I:I43 μ i bi ci gi false at_ kd sd z h a m n cs bs gs r nn)(hn:nn<=23)(ch:Ch [i,ci,bi] μ μ1)(f:Fal μ1 i)(hc:μ1[ci]?=some (.lst ((cs++[p]).map ntT)))(ea:(cs.length:Int)+1=at_)(a2:2<=at_)(l0:0<=lo)(l1:lo<2)(sd0:0<=sd)
  (okb:LsOk 900 3 b) (b1:b.1=h) (b2:b.2.1=0) (b3:892<=b.2.2) (b4:b.2.2<=900) (k1:1<=k) (k2:k<=z) (hp:Fp z sd r k b a m n p)
  (q:∀μ' i' bi' a' m' cs' r' o18,I43 μ' i' bi' ci gi true at_ kd sd z h a' m' none cs' [] gs r' nn->E.nx (t43 scr o1 z h sd at_ ci i' lo gi r' true o14 o15 (some (lsT (some b))) (some .non) o18) μ')
  (τ:Sl) (e:τ=t43 scr o1 z h sd at_ ci i lo gi r false o14 o15 (some (lsT (some b))) (some .non) o18):qF (Zm.drop 5) τ μ1 E:=by
 subst e
 have A:=I.A
 have rl:r<=4 * (nn:Int)+0:=I.rl
 obtain⟨n1,n2,il,bl,cl⟩:=I.H.ne
 have gl:=(z5A.mp I.hg).1
 have hg:μ1[gi]?=some (.lst (gs.map T.int)):=ch.get I.hg (by simp[I.g1,I.g2,I.g3])
 have tb:μ1[1]?=some (.tab 1):=ch.get I.tb (by
  have h1:1≠i:=λw=>by have:=I.H.ho;rw[←w,I.tb] at this;cases this
  have h2:1≠ci:=λw=>by have:=I.H.hc;rw[←w,I.tb] at this;cases this
  have h3:1≠bi:=λw=>by have:=I.H.hb;rw[←w,I.tb] at this;cases this
  simp[h1,h2,h3])
 have el:(((cs++[p]).map ntT).length:Int)=at_:=by simp;omega
 have note:∃(a':Ls) (m':Option Int),xf ((cs++[p]).map ntT) (at_-1-lo)=some (ntT (some a',m'))/\LsOk 900 3 a'/\a'.1=h/\a'.2.1=0/\892<=a'.2.2/\a'.2.2<=900/\(m'=m\/∃v,m'=some v/\0<=v/\v<=r+6/\qU 3 z h n m<=(v+1) * z):=by
  have hb:=A.beg
  have opts:lo=0\/lo=1:=by omega
  rcases opts with rfl|rfl
  ·have ex:xf ((cs++[p]).map ntT) (at_-1-0)=some (ntT p):=by
    rw[show at_-1-0=((cs.length:Nat):Int) by omega,y9 (by omega) (by simp;omega)]
    simp
   rcases hp with rfl|⟨rfl,by0⟩
   ·exact⟨b,m,ex,okb,b1,b2,b3,b4,.inl rfl⟩
   ·obtain⟨c1,c2,c3,c4⟩:=A.mkk k1 k2 by0
    exact⟨a,_,ex,A.ok,A.a1,A.a2,A.u0,A.u1,.inr ⟨_,rfl,c1,c2,by omega⟩⟩
  ·obtain⟨c,C⟩:=I.H.C
   have le:cs≠[]:=λw=>by rw[w] at ea;simp at ea;omega
   have ex:xf ((cs++[p]).map ntT) (at_-1-1)=some (ntT (some a,m)):=by
    have hl:0<cs.length:=List.length_pos_iff.mpr le
    rw[show at_-1-1=((cs.length-1:Nat):Int) by omega,y9 (by omega) (by simp;omega)]
    rw[List.getLast?_eq_getElem?] at C
    simp only[zbs,z67]
    rw[z5I (by omega),C]
    rfl
   exact⟨a,m,ex,A.ok,A.a1,A.a2,A.u0,A.u1,.inl rfl⟩
 obtain⟨a',m',ex,oka,x1,x2,x3,x4,hm⟩:=note
 have m6:∀v,m'=some v->0<=v/\v<=r+6:=λv e=>by
  rcases hm with w|⟨v',w,v0,v1,_⟩
  ·obtain⟨w1,w2,_⟩:=A.m0 v (by rw[←w];exact e)
   exact⟨w1,w2⟩
  ·rw[w] at e;cases e;exact⟨v0,v1⟩
 refine⟨_,hc,?_⟩
 refine qL el ?_
 refine⟨⟨by decide,by decide⟩,?_⟩
 refine⟨by show (8:Nat)<=room;decide,?_⟩
 refine uC (λ_=>.bl true) (λt ht k hk=>?_) ?_
 ·obtain⟨j,hj⟩:=z6C.mp ht
  obtain⟨rfl,_⟩:=yg hj
  exact⟨_,rfl,Z4 f hk⟩
 refine⟨_,all_map (λ_=>true) _,?_⟩
 refine⟨_,_,hc,ex,?_⟩
 refine⟨⟨1,tb⟩,[],rfl,?_⟩
 refine Jw zy (by decide) sd0 (λv e=>by have:=m6 v e;have:=A.r1;omega) (λv e=>by cases e;exact oka) λμ2 b2 ch2 hb2 h2 g2=>?_
 refine⟨rfl,?_⟩
 have ne2:∀j,j<μ1.length->μ2[j]?=μ1[j]?:=λj hj=>(ch2.ot j (by rw[z63];omega) (by simp;omega)).trans (z5I hj)
 have l1':=ch.len
 have hb2':μ1.length+1<=b2:=by rw[z63] at hb2;exact hb2
 have fin:∀r',r<=r'->r'<=r+7->E.nx (t43 scr o1 z h sd at_ ci μ1.length lo gi r' true o14 o15 (some (lsT (some b))) (some .non) (some (ntT (some a',m')))) μ2:=by
  intro r' r1 r2
  refine q _ _ b2 a' m' (cs++[p]) r' _ ⟨⟨h2,g2,?_,by omega,?_,λk e=>(by cases e),oka,⟨by simp,by simp,by simp,by simp⟩,rfl⟩,?_,?_,by omega,by omega,I.g3,?_,by simp,?_,?_⟩
  ·rw[ne2 ci (by omega)];exact hc
  ·show (((cs++[p]).length:Nat):Int)=at_
   simp;omega
  ·exact A.again x1 x2 x3 x4 r1 (by omega) hm
  ·rw[ne2 gi (by omega)];exact hg
  ·rw[ne2 1 (z5A.mp tb).1];exact tb
  ·have:=I.gl;omega
  ·rw[if_pos rfl];omega
 refine⟨_,rfl,?_⟩
 refine⟨by show (1:Nat)<=room;decide,?_⟩
 cases m' with
 |none=>
  refine qD (ps:=[()]) (λ_=>T.non) (λ_=>none) (λp hp kk hkk=>⟨_,rfl,hkk⟩) ?_
  refine⟨by show (1:Nat)<=room;decide,?_⟩
  refine⟨[r],rfl,by simp,λn hn hm=>?_⟩
  rw[z5J.mp hn]
  exact fin r (z9J _) (by omega)
 |some v=>
  obtain⟨v0,v1⟩:=m6 v rfl
  refine qD (ps:=[()]) (λ_=>T.int v) (λ_=>some (T.int (v+1))) (λp hp kk hkk=>⟨_,rfl,hkk⟩) ?_
  refine⟨by show (2:Nat)<=room;decide,?_⟩
  refine⟨[r,v+1],rfl,by simp,λn hn hm=>?_⟩
  have h1:=hm r (by simp)
  refine fin n h1 ?_
  rcases z65.mp hn with e|e
  ·omega
  ·have:=z5J.mp e;omega
end
end NH.P
section
namespace NH.P
open PySem L2 NH
variable {μ μ1 μ2:Mem}{K:T->Mem->Prop}{Z:Xp}{z:Int}{i bi ci gi:Nat}{sh bt:T}{sd:Int}{l l':Option Ls}{m m' n:Option Int}{a b:Ls}{r k h w lo:Int}{at_ kd:Int}{nop:Bool}{cs:List Nt}{bs:List Bt}{gs:List Int}{scr:T}{o1 o14 o15 o16 o17 o18:Option T}{E:En}{nn:Nat}
theorem I43.up{μ1:Mem}(I:I43 μ i bi ci gi nop at_ kd sd z h a m n cs bs gs r nn)(u:∀j,j<μ.length->μ1[j]?=μ[j]?):I43 μ1 i bi ci gi nop at_ kd sd z h a m n cs bs gs r nn:=by
 obtain⟨n1,n2,il,bl,cl⟩:=I.H.ne
 exact⟨I.H.ot (u _ il) (u _ bl) (u _ cl),I.A,(u _ (z5A.mp I.hg).1).trans I.hg,I.g1,I.g2,I.g3,(u _ (z5A.mp I.tb).1).trans I.tb,I.bl,I.gl,I.rl⟩
theorem z23{cell:Int}(I:I43 μ i bi ci gi nop at_ kd sd z h a m n cs bs gs r nn)(hn:nn<=22)(a2:2<=at_)(a6:at_<=900)(l0:0<=lo)(l1:lo<2)
  (q:∀μ' i' bi' nop' a' m' n' cs' bs' gs' r' o1 o15 o16 o17 o18,I43 μ' i' bi' ci gi nop' at_ kd sd z h a' m' n' cs' bs' gs' r' (nn+1)->E.nx (t43 scr o1 z h sd at_ ci i' lo gi r' nop' (some (.int cell)) o15 o16 o17 o18) μ') :
  qF Zm (t43 scr o1 z h sd at_ ci i lo gi r nop (some (.int cell)) o15 o16 o17 o18) μ E:=by
 have z1:=I.A.z1
 have z5:=I.A.z5
 refine uH λd1 d2=>?_
 have st0:St (μ++[.lst [.int d1,.int d2,.int 0]]) μ.length:=⟨d1,d2,0,zy⟩
 refine qg st0 (by decide) (by decide) λv1 μ1 v10 v11 u1=>?_
 refine qg u1.st (by omega) (by omega) λv2 μ2 v20 v21 u2=>?_
 refine qg u2.st (by decide) (by decide) λv3 μ3 v30 v31 u3=>?_
 refine qg u3.st (by decide) (by decide) λv4 μ4 v40 v41 u4=>?_
 have U:=((u1.trans u2).trans u3).trans u4
 have hu:∀p,p<μ.length->μ4[p]?=μ[p]?:=λp hp=>(U.ot p (by omega)).trans (z5I hp)
 have I4:=I.up hu
 have rl:=I.rl
 have r0:=I.A.r0
 have r7:(if nop=true then (7:Int) else 0)<=7:=by split<;>decide
 have A4:=I4.A.read (r':=r+v1) (by omega) (by omega)
 generalize hb:((h,0,900-v3):Ls)=b
 have b1:b.1=h:=by rw[←hb]
 have b2:b.2.1=0:=by rw[←hb]
 have b3:892<=b.2.2:=by rw[←hb];show 892<=900-v3;omega
 have b4:b.2.2<=900:=by rw[←hb];show 900-v3<=900;omega
 have okb:LsOk 900 3 b:=(A4.lease b1 b2 b3 b4).ok
 have eb:T.tup [.int h,.int 0,.int (900-v3)]=lsT (some b):=by rw[←hb];rfl
 have step:∀(r' k':Int) (bt:T),r'=r+v1->k'=1+v2->bt=lsT (some b)->qy [.mut i,.int v4,.int r',.int k',bt] μ4 (λt μ'=>qF (Zm.drop 5) (t43 scr (some (.mut μ.length)) z h sd at_ ci i lo gi r' nop (some (.int cell)) (some (.int k')) (some bt) (some t) o18) μ' E) (λc fs μ'=>E.ex c fs (t43 scr (some (.mut μ.length)) z h sd at_ ci i lo gi r' nop (some (.int cell)) (some (.int k')) (some bt) o17 o18) μ'):=by
  rintro _ _ _ rfl rfl rfl
  have k1:1<=1+v2:=by omega
  have k2:1+v2<=z:=by omega
  have bl:=I.bl
  have gl:=I.gl
  obtain⟨n1,n2,il,bil,cl⟩:=I4.H.ne
  have gil:=(z5A.mp I4.hg).1
  have nt:1≠i/\1≠ci/\1≠bi:=⟨λw=>(by have:=I4.H.ho;rw[←w,I4.tb] at this;cases this),λw=>(by have:=I4.H.hc;rw[←w,I4.tb] at this;cases this),λw=>(by have:=I4.H.hb;rw[←w,I4.tb] at this;cases this)⟩
  refine z3D (w:=v4) A4.hz z5 I4.H a6 (by omega) okb (by rw[b1,A4.a1]) k1 k2 (A4.e1 k2) (A4.log k1 k2) ?_ (λμ' bi' a' m' n' cs' bs' tv names H' hbi hbl ch tn nx=>?_) (λf1 f2 μ' p ch fal hc fp=>?_)
  ·exact Va (nn:=nn) (names:=[]) I4.H (by rw[z6n];exact A4) I4.hg I4.g1 I4.g2 I4.g3 I4.tb (by omega) (by rw[z6n];omega) (by push_cast;omega) hn (.inl rfl) (λμ' I'=>q _ _ _ _ _ _ _ _ _ _ _ _ _ _ _ _ I') _ rfl
  ·have hg':μ'[gi]?=some (.lst (gs.map T.int)):=ch.get I4.hg (by simp[I4.g1,I4.g2,I4.g3])
   have tb':μ'[1]?=some (.tab 1):=ch.get I4.tb (by simp[nt.1,nt.2.1,nt.2.2])
   have gb:gi≠bi':=by
    rcases hbi with rfl|w
    ·exact I4.g2
    ·omega
   have tn':tv=.lst (names.map T.int)\/∃j,tv=.mut j/\j≠gi/\μ'[j]?=some (.lst (names.map T.int)):=by
    rcases tn with e|⟨j,e1,e2,e3⟩
    ·exact .inl e
    ·exact .inr ⟨j,e1,by omega,e3⟩
   have A':A43 z sd h (r+v1) a' m' n' (gs++names)/\names.length<=5:=by
    rcases nx with⟨rfl,rfl,rfl,rfl⟩|⟨rfl,rfl,rfl,rfl,by0⟩
    ·exact⟨by rw[z6n];exact A4.lease b1 b2 b3 b4,by simp⟩
    ·exact⟨A4.names k1 k2 by0,by rw[vT];omega⟩
   exact Va (nn:=nn) H' A'.1 hg' I4.g1 gb I4.g3 tb' (by omega) (by rw[z63];have:=A'.2;omega) (by push_cast;omega) hn tn' (λμ' I'=>q _ _ _ _ _ _ _ _ _ _ _ _ _ _ _ _ I') _ rfl
  ·subst f1
   have If:I43 μ4 i bi ci gi false at_ kd sd z h a m n cs bs gs (r+v1) (nn+1):=⟨I4.H,A4,I4.hg,I4.g1,I4.g2,I4.g3,I4.tb,by omega,by omega,by push_cast;simp at rl ⊢;omega⟩
   exact z1T If (by omega) ch fal hc f2 a2 l0 l1 A4.s0 okb b1 b2 b3 b4 k1 k2 fp (λμ' i' bi' a' m' cs' r' o18 I'=>q _ _ _ _ _ _ _ _ _ _ _ _ _ _ _ _ I') _ rfl
 exact step _ _ _ rfl rfl eb
theorem z0c(ho:μ[i]?=some (hsO (shp 900 3 z) 3 sd (kpX false at_ kd ci) none none none (.mut bi) false))(hc:μ[ci]?=some (.lst []))(ok:LsOk 900 3 a)(a2:2<=at_)
  (q:∀μ',Ch [i,ci] μ μ'->μ'[i]?=some (hsO (shp 900 3 z) 3 sd (kpX false at_ kd ci) (some a) none none (.mut bi) false)->μ'[ci]?=some (.lst (([(some a,none)]:List Nt).map ntT))->K .non μ'):zh [.mut i,lsT (some a)] μ K Z:=by
 unfold zh
 refine⟨rfl,?_⟩
 refine⟨_,ho,?_⟩
 refine qq ho ?_
 refine⟨_,_,_,ho,rfl,?_⟩
 refine wq ok.h0 ok.h1 ok.f0 ok.fu ok.ux ?_
 refine⟨_,ho,?_⟩
 refine⟨_,_,_,ho,rfl,?_⟩
 refine jW (l':=some a) (m':=none) (cs:=[]) ho hc (by simp) (λe _=>by cases e) (λ_ w μ' ch ln g1 g2=>q μ' ch g1 g2) (λ_ _ w=>?_)
 have w:(0:Int)+1=at_:=w
 omega
theorem z0h{ns:List Int}{c0:Int}{j:Nat}{t:T}{lo hi:Option Int}(h:([T.int c0]++x_ (ns.map T.int) lo hi)[j]?=some t):∃c,t=.int c:=by
 rcases z5Q.mp (z5T h) with h|h
 ·exact⟨c0,z5J.mp h⟩
 ·obtain⟨n,_,e⟩:=z6y.mp (Xa h)
  exact⟨n,e.symm⟩
theorem YG:Zw k6:=by
 intro ns hns
 unfold k6
 refine⟨rfl,?_⟩
 refine jN (by decide) λc0=>?_
 refine uH λd1 d2=>?_
 have st0:St ([MO.tab 0,MO.tab 1]++[.lst [.int d1,.int d2,.int 0]]) 2:=⟨d1,d2,0,rfl⟩
 refine qg st0 (by decide) (by decide) λv1 μ1 v10 v11 u1=>?_
 refine qg u1.st (by decide) (by decide) λh μ2 h0 h3 u2=>?_
 refine⟨rfl,?_⟩
 refine yM (by decide) (by decide) (by omega) ?_
 refine⟨rfl,_,rfl,rfl,?_⟩
 refine qg u2.st (by decide) (by decide) λv3 μ3 v30 v31 u3=>?_
 refine qg u3.st (by decide) (by decide) λv4 μ4 v40 v41 u4=>?_
 have ix:∃sd:Int,xf [T.int 0,T.int v3] v4=some (.int sd)/\0<=sd/\sd<=3:=by
  have:v4=0\/v4=1:=by omega
  rcases this with rfl|rfl
  ·exact⟨0,rfl,by decide,by decide⟩
  ·exact⟨v3,rfl,v30,by omega⟩
 obtain⟨sd,esd,sd0,sd3⟩:=ix
 refine⟨_,esd,?_⟩
 refine qg u4.st (by decide) (by decide) λv5 μ5 v50 v51 u5=>?_
 have U5:=(((u1.trans u2).trans u3).trans u4).trans u5
 have l5:μ5.length=3:=U5.len
 generalize hz:(1:Int)+v1=z
 have st6:St (μ5++[MO.lst []]) 2:=by
  obtain⟨p,q,r,hh⟩:=U5.st
  exact⟨p,q,r,zi hh⟩
 refine qg st6 (by decide) (by decide) λkd μ6 kd0 kd1 u6=>?_
 have l6:μ6.length=4:=by rw[u6.len,z63,l5];rfl
 have t06:μ6[0]?=some (.tab 0):=(u6.ot 0 (by decide)).trans (zi ((U5.ot 0 (by decide)).trans rfl))
 have t16:μ6[1]?=some (.tab 1):=(u6.ot 1 (by decide)).trans (zi ((U5.ot 1 (by decide)).trans rfl))
 have c6:μ6[μ5.length]?=some (.lst []):=(u6.ot _ (by rw[l5];decide)).trans zy
 refine u_ ⟨0,t06⟩ ?_
 refine QD zy (by decide) sd0 λμ7 bi ch7 hbi h7 g7=>?_
 refine⟨rfl,?_⟩
 have lb:5<=bi:=by rw[z63,l6] at hbi;exact hbi
 have get7:∀{j:Nat} {o:MO},μ6[j]?=some o->μ7[j]?=some o:=λ{j o} e=>ch7.get (zi e) (by
  have:=(z5A.mp e).1
  simp;omega)
 have s:Hz 900 3 z:=⟨by decide,by decide,by decide,by omega,by omega⟩
 have ok:LsOk 900 3 (h,0,900):=⟨h0,h3,(by decide:(0:Int)<=0),(by decide:(0:Int)<900),(by decide:(900:Int)<=900)⟩
 refine⟨_,h7,?_⟩
 refine z0c (a:=(h,0,900)) h7 (get7 c6) ok (by omega) λμ8 ch8 h8 c8=>?_
 have get8:∀{j:Nat} {o:MO},μ7[j]?=some o->j≠4->j≠3->μ8[j]?=some o:=λ{j o} e n1 n2=>ch8.get e (by simp[l6,l5];omega)
 have st8:St μ8 2:=by
  obtain⟨p,q,r,hh⟩:=u6.st
  exact⟨p,q,r,get8 (get7 hh) (by decide) (by decide)⟩
 have g8:=get8 g7 (by omega) (by omega)
 have t08:=get8 (get7 t06) (by decide) (by decide)
 have t18:=get8 (get7 t16) (by decide) (by decide)
 refine qg st8 (by decide) (by decide) λk9 μ9 _ _ u9=>?_
 refine qg u9.st (by decide) (by decide) λbk μ10 bk0 bk1 u10=>?_
 have U10:=u9.trans u10
 have t010:=(U10.ot 0 (by decide)).trans t08
 refine Kw (a:=(h,0,900)) s ⟨0,t010⟩ ok bk0 bk1 λμ11 ch11=>?_
 have st11:St μ11 2:=by
  obtain⟨p,q,r,hh⟩:=U10.st
  exact⟨p,q,r,ch11.get hh (by simp)⟩
 refine qg st11 (by decide) (by decide) λlo μ12 lo0 lo1 u12=>?_
 have get12:∀{j:Nat} {o:MO},μ8[j]?=some o->j≠2->μ12[j]?=some o:=λ{j o} e n=>(u12.ot j n).trans (ch11.get ((U10.ot j n).trans e) (by simp))
 have h12:=get12 h8 (by rw[l6];decide)
 have c12:=get12 c8 (by rw[l5];decide)
 have g12:=get12 g8 (by omega)
 have t12:=get12 t18 (by decide)
 have L12:5<=μ12.length:=by have:=(z5A.mp g12).1;omega
 refine jN (by decide) λc1=>?_
 have hcl:(x_ (ns.map T.int) (some 2) (some 24)).length<=22:=by
  unfold x_ Km
  simp only[z7D,z9U]
  simp
  omega
 refine⟨by show 1+(x_ (ns.map T.int) (some 2) (some 24)).length<=room;unfold room;omega,?_⟩
 have I0:I43 (μ12++[MO.lst []]) μ6.length bi μ5.length μ12.length false (2+v5) kd sd z h (h,0,900) none none [(some (h,0,900),none)] [] [] 0 0:=by
  have bl:=(z5A.mp g12).1
  refine⟨⟨zi h12,zi g12,zi c12,by omega,⟨by show (1:Int)<2+v5;omega,rfl⟩,λk e=>(by cases e),ok,⟨by simp,by simp,by simp,by simp⟩,rfl⟩,?_,zy,by omega,by omega,by omega,zi t12,by simp,by simp,by simp⟩
  exact⟨by omega,by omega,sd0,sd3,h0,h3,rfl,rfl,(by decide:(892:Int)<=900),(by decide:(900:Int)<=900),by decide,by decide,λv e=>(by cases e),λ_=>rfl,z9J _,by simp,by simp⟩
 refine yh (λnn τ μ'=>∃i bi nop a m n cs bs gs r o1 o14 o15 o16 o17 o18,τ=t43 (.lst (ns.map T.int)) o1 z h sd (2+v5) μ5.length i lo μ12.length r nop o14 o15 o16 o17 o18/\I43 μ' i bi μ5.length μ12.length nop (2+v5) kd sd z h a m n cs bs gs r nn) ⟨_,_,_,_,_,_,_,_,_,_,_,_,_,_,_,_,rfl,I0⟩ ?_ ?_
 ·rintro nn t τ μ' hx ⟨i,bi,nop,a,m,n,cs,bs,gs,r,o1,o14,o15,o16,o17,o18,rfl,I⟩ N hN
  have hnn:nn<23:=by
   have:=(z5A.mp hx).1
   rw[z63] at this
   simp at this
   omega
  obtain⟨cell,rfl⟩:=z0h hx
  refine⟨_,rfl,?_⟩
  exact z23 I (by omega) (by omega) (by omega) lo0 lo1 λμ' i' bi' nop' a' m' n' cs' bs' gs' r' p1 p15 p16 p17 p18 I'=>hN _ _ ⟨_,_,_,_,_,_,_,_,_,_,_,_,_,_,_,_,rfl,I'⟩
 ·rintro τ μ' ⟨i,bi,nop,a,m,n,cs,bs,gs,r,o1,o14,o15,o16,o17,o18,rfl,I⟩
  refine z2Y I ?_ (λμ'=>rfl) _ rfl
  rw[z63]
  simp
  omega
end NH.P
namespace NH.K43
open PySem L2 NH NH.P
theorem tells:Zw k6:=YG
end NH.K43
end
namespace NH.K43
open PySem PySem.Spec PyProof.Rows L2 NH NH.P PySem.W
theorem z3y{P:List Value->Prop}(h:∀a0,P [a0]):∀us:List Value,us.length=1->P us:=PL.all (n:=1) h
theorem z3l{P:List Value->Prop}(h:∀a0 a1,P [a0,a1]):∀us:List Value,us.length=2->P us:=PL.all (n:=2) h
theorem z2z{P:List Value->Prop}(h:∀a0 a1 a2,P [a0,a1,a2]):∀us:List Value,us.length=3->P us:=PL.all (n:=3) h
theorem z5h{P:List Value->Prop}(h:∀a0 a1 a2 a3 a4,P [a0,a1,a2,a3,a4]):∀us:List Value,us.length=5->P us:=PL.all (n:=5) h
theorem z5q{P:List Value->Prop}(h:∀a0 a1 a2 a3 a4 a5,P [a0,a1,a2,a3,a4,a5]):∀us:List Value,us.length=6->P us:=PL.all (n:=6) h
theorem z4G{P:List Value->Prop}(h:∀a0,P [a0]):∀us:List Value,us.length+1=2->P us:=λus e=>z3y h us (zah e)
theorem z0N{P:List Value->Prop}(h:∀a0 a1,P [a0,a1]):∀us:List Value,us.length+1=3->P us:=λus e=>z3l h us (zah e)
theorem z4O{P:List Value->Prop}(h:∀a0 a1 a2 a3 a4,P [a0,a1,a2,a3,a4]):∀us:List Value,us.length+1=6->P us:=λus e=>z5h h us (zah e)
theorem all_mk {l:zce} {w:z6w} {K:Frag} {h:Heap} {mg:Str->Option Value} {fa C0 C1 C2 C3 C4 C5 C6 C7 C8 C9 P0 cA0 P1 cA1 f2 N2 CC7 CC21 f28 CC28 dt28 f38 dt38 f39 dt39 f40 dt40 f48 f52:Addr} {od2 an2 dd2 od28 an28 te28 od38 an38 te38 od39 an39 te39 od40 an40 te40 od48 an48 od52 an52:Option Addr} {sl2 sl28 ts28 sl38 ts38 sl39 ts39 sl40 ts40 sl48 sl52:Array (Option Value)} {oc2 kV2 dc2 pm2 cd2 ct2 oc28 kV28 dc28 pm28 cd28 ct28 td28 oc38 kV38 dc38 pm38 cd38 ct38 td38 oc39 kV39 dc39 pm39 cd39 ct39 td39 oc40 kV40 dc40 pm40 cd40 ct40 td40 oc48 kV48 dc48 pm48 ct48 oc52 kV52 dc52 pm52 ct52:Value} {nm2 qn2:Str} {bs2 sb2:List Value} {hd2 ab2:Bool} {sn2:List Str} {co2:Option Bool} {ka2 kb2 kc2 kd2 ke2:Option Value} {tk14 tk15 tk16 tz38 tz39 tz40:Tok} {tn28 tn38 tn39 tn40:Nat} (X:K.In h) (G:h.Ns z5V mg) (hfa:mg "law"=some (.ref fa))
  (e0:nsIn K z5V "HouseError"=some (some (.ref C0)))
  (e1:nsIn K z5V "NoShape"=some (some (.ref C1)))
  (e2:nsIn K z5V "NoName"=some (some (.ref C2)))
  (e3:nsIn K z5V "NoTime"=some (some (.ref C3)))
  (e4:nsIn K z5V "NoLease"=some (some (.ref C4)))
  (e5:nsIn K z5V "TooMany"=some (some (.ref C5)))
  (e6:nsIn K z5V "Wait"=some (some (.ref C6)))
  (e7:nsIn K z5V "Empty"=some (some (.ref C7)))
  (e8:nsIn K z5V "NoNote"=some (some (.ref C8)))
  (e9:nsIn K z5V "Fallen"=some (some (.ref C9)))
  (xa2:K.lookup C6=some (z7q nm2 qn2 C6 N2 bs2 (.ref C0::zX) hd2 sn2 sb2 ab2 co2 dd2 ka2 kb2 kc2 kd2 ke2 "ValueError.__new__"))
  (xb2:zcw K N2=true)
  (xc2:nsIn K N2 "__init__"=some (some (.ref f2)))
  (xd2:zcn K (.ref f2)=some (.type "function"))
  (xe2:z64 K (.ref C6) "__setattr__"=some (some (.builtin "object.__setattr__")))
  (xf2:z64 K (.ref C6) "by"=some none)
  (xg2:z7m K C6=true)
  (xh2:z7C K (.ref C6)=true)
  (ha0:z7p K (.ref C0) "__getattribute__"=some (some (.builtin "type.__getattribute__")))
  (ha1:zca K C0 (.type "type")=true)
  (ha2:zcb K (.ref C0) (.type "type") "__init__"=some (.val (.builtin "ValueError.__init__")))
  (l2:K.lookup f2=some ⟨oc2,od2,.func (fnOf "__init__" "Wait.__init__" (zC wH) (z7 wH) (zk wH) .none kV2 dc2 pm2 an2 cd2 ct2),sl2⟩)
  (c2:z6L K cd2 "Wait.__init__"=true)
  (k2:z7C K (.ref f2)=true)
  (p3:qA K "is_whole" yJ)
  (p4:qA K "is_size" uw)
  (p5:qA K "is_from_nought" wU)
  (p6:qA K "is_below" yA)
  (p7:z08 K CC7 "Shape" "Shape.__init__" jE)
  (p8:qA K "names_in" xM)
  (p9:qA K "is_name" uE)
  (p10:qA K "check_name" jM)
  (p11:qA K "check_part" jT)
  (p12:qA K "name_of" Z3)
  (p13:qA K "parts_of" yv)
  (v14:nsIn K z5V "HOUSE"=some (some (.int 0 tk14)))
  (v15:nsIn K z5V "FIRST"=some (some (.int 1 tk15)))
  (v16:nsIn K z5V "UNTIL"=some (some (.int 2 tk16)))
  (p17:qA K "is_lease" yk)
  (p18:qA K "check_lease" j7)
  (p19:qA K "used_of" uI)
  (p20:qA K "is_note" uP)
  (p21:z08 K CC21 "Batch" "Batch.__init__" jQ)
  (p22:qA K "name_at" uN)
  (p23:qA K "names_of_batch" wo)
  (p24:qA K "size_of" kU)
  (p25:qA K "parted" Q0)
  (p26:qA K "place_above" j3)
  (q28:nsIn K z5V "House"=some (some (.ref CC28)))
  (i28:z64 K (.ref CC28) "__init__"=some (some (.ref f28)))
  (j28:isFn K (.ref f28)=true)
  (l28:K.lookup f28=some ⟨oc28,od28,.func (fnOf "__init__" "House.__init__" (zC zz) (z7 zz) (zk zz) (.ref dt28) kV28 dc28 pm28 an28 cd28 ct28),sl28⟩)
  (d28:K.lookup dt28=some ⟨td28,te28,.seq #[.none] tn28,ts28⟩)
  (c28:z6L K cd28 "House.__init__"=true)
  (k28:z7C K (.ref f28)=true)
  (mk28:zc0 K CC28=true)
  (kk28:z7C K (.ref CC28)=true)
  (p29:jH K CC28 "check_up" "House.check_up" wR)
  (p30:jH K CC28 "note" "House.note" jB)
  (p31:jH K CC28 "keep" "House.keep" vH)
  (p32:jH K CC28 "take_lease" "House.take_lease" qT)
  (p33:jH K CC28 "check_has_lease" "House.check_has_lease" qr)
  (p34:jH K CC28 "free_place" "House.free_place" wj)
  (p35:jH K CC28 "next_batch" "House.next_batch" wu)
  (p36:jH K CC28 "mark_behind" "House.mark_behind" w9)
  (p37:jH K CC28 "hand_out" "House.hand_out" wk)
  (i38:z64 K (.ref CC28) "ask"=some (some (.ref f38)))
  (j38:isFn K (.ref f38)=true)
  (l38:K.lookup f38=some ⟨oc38,od38,.func (fnOf "ask" "House.ask" (zC zD) (z7 zD) (zk zD) (.ref dt38) kV38 dc38 pm38 an38 cd38 ct38),sl38⟩)
  (d38:K.lookup dt38=some ⟨td38,te38,.seq #[.int 1 tz38] tn38,ts38⟩)
  (c38:z6L K cd38 "House.ask"=true)
  (k38:z7C K (.ref f38)=true)
  (i39:z64 K (.ref CC28) "store"=some (some (.ref f39)))
  (j39:isFn K (.ref f39)=true)
  (l39:K.lookup f39=some ⟨oc39,od39,.func (fnOf "store" "House.store" (zC zv) (z7 zv) (zk zv) (.ref dt39) kV39 dc39 pm39 an39 cd39 ct39),sl39⟩)
  (d39:K.lookup dt39=some ⟨td39,te39,.seq #[.int 1 tz39] tn39,ts39⟩)
  (c39:z6L K cd39 "House.store"=true)
  (k39:z7C K (.ref f39)=true)
  (i40:z64 K (.ref CC28) "take"=some (some (.ref f40)))
  (j40:isFn K (.ref f40)=true)
  (l40:K.lookup f40=some ⟨oc40,od40,.func (fnOf "take" "House.take" (zC zP) (z7 zP) (zk zP) (.ref dt40) kV40 dc40 pm40 an40 cd40 ct40),sl40⟩)
  (d40:K.lookup dt40=some ⟨td40,te40,.seq #[.int 1 tz40] tn40,ts40⟩)
  (c40:z6L K cd40 "House.take"=true)
  (k40:z7C K (.ref f40)=true)
  (p41:jH K CC28 "last_moment" "House.last_moment" wa)
  (p42:jH K CC28 "give_back" "House.give_back" qY)
  (p43:jH K CC28 "last" "House.last" jz)
  (p44:qA K "_law_cell_at" kR)
  (p45:qA K "_law_mixed" uJ)
  (p46:qA K "_law_digits" y6)
  (p47:qA K "_law_next" xJ)
  (a48:nsIn K z5V "_law_keeper"=some (some (.ref f48)))
  (l48:K.lookup f48=some ⟨oc48,od48,.func (fnOf "_law_keeper" "_law_keeper" (zC qG) (z7 qG) (zk qG) .none kV48 dc48 pm48 an48 (.ref cA0) ct48),sl48⟩)
  (c48:z6L K (.ref cA0) "_law_keeper"=true)
  (zt0:zbU K cA0 P0=true)
  (zk0:K.lookup P0=none)
  (zs0:P0≠zbA)
  (k48:z7C K (.ref f48)=true)
  (p49:qA K "_law_fallen" xP)
  (p50:qA K "_law_deed" xI)
  (p51:qA K "_law_short" uM)
  (a52:nsIn K z5V "law"=some (some (.ref f52)))
  (l52:K.lookup f52=some ⟨oc52,od52,.func (fnOf "law" "law" (zC qi) (z7 qi) (zk qi) .none kV52 dc52 pm52 an52 (.ref cA1) ct52),sl52⟩)
  (c52:z6L K (.ref cA1) "law"=true)
  (zt1:zbU K cA1 P1=true)
  (zk1:K.lookup P1=none)
  (zs1:P1≠zbA)
  (k52:z7C K (.ref f52)=true)
  (x0:z8e K C0 zX "ValueError.__new__"=true)
  (x1:z8e K C1 zX "ValueError.__new__"=true)
  (x2:z8e K C2 zX "ValueError.__new__"=true)
  (x3:z8e K C3 zX "ValueError.__new__"=true)
  (x4:z8e K C4 zX "ValueError.__new__"=true)
  (x5:z8e K C5 zX "ValueError.__new__"=true)
  (x7:z8e K C7 zX "ValueError.__new__"=true)
  (x8:z8e K C8 zX "ValueError.__new__"=true)
  (x9:z8e K C9 zX "ValueError.__new__"=true)
  (zn:P0≠P1)
  (zl:WI K=true)
  (zc:chk K ⟨[(10,C0),(12,C1),(13,C2),(16,C3),(18,C4),(20,C5),(21,C6),(22,C7),(23,C8),(24,C9)],[(40,CC7),(44,CC21),(45,CC28)]⟩ cls fld=true)
  (zg:K4 K ⟨[(10,C0),(12,C1),(13,C2),(16,C3),(18,C4),(20,C5),(21,C6),(22,C7),(23,C8),(24,C9)],[(40,CC7),(44,CC21),(45,CC28)]⟩ ["KeyError","ValueError","ZeroDivisionError","all","bool","dict","int","isinstance","len","max","min","range","sorted","sum","tuple"] [("HouseError",10),("NoShape",12),("NoName",13),("NoTime",16),("NoLease",18),("TooMany",20),("Empty",22),("NoNote",23),("Fallen",24)] [("Wait",21,29)]=true) :
  (WI K=true/\∀P∈[P0,P1],K.lookup P=none/\P≠zbA/\∃c,zbU K c P=true)/\∃fd:FuncData,(∀(s:z5D) (v:Value),zbk s fd ⟨[v],[]⟩ [("_law_script",v)])/\∀base:Heap,K.In base->base.Ns z5V mg->(∀P∈[P0,P1],base.BuiltinsAt mg P)->FnOk l.prog w K mg base (CX1 l.prog w) 52 fa fd ["_law_script"] (Zx [P0,P1]):=by
 have e:=hfa.symm.trans (zaJ X G a52)
 cases e
 have F2:=kC (st:=wH) l2 c2 k2
 have b2:=F2.binds (ps:=["self","by"]) λ_ _ _ _ _ _=>z3l λ_ _=>rfl
 have b28:=vO (K:=K) (fd:=fnOf "__init__" "House.__init__" (zC zz) (z7 zz) (zk zz) (.ref dt28) kV28 dc28 pm28 an28 cd28 ct28) (ps:=["self","shape","ahead","stride","keeper","note"]) rfl d28 rfl <| z5q λ_ _ _ _ _ _=>⟨_,rfl,rfl⟩
 have bd28:=vV (K:=K) (d:=.none) (fd:=fnOf "__init__" "House.__init__" (zC zz) (z7 zz) (zk zz) (.ref dt28) kV28 dc28 pm28 an28 cd28 ct28) (ps:=["self","shape","ahead","stride","keeper","note"]) rfl d28 rfl <| z4O λ_ _ _ _ _=>⟨_,rfl,rfl⟩
 have b38:=vO (K:=K) (fd:=fnOf "ask" "House.ask" (zC zD) (z7 zD) (zk zD) (.ref dt38) kV38 dc38 pm38 an38 cd38 ct38) (ps:=["self","reading","many"]) rfl d38 rfl <| z2z λ_ _ _=>⟨_,rfl,rfl⟩
 have bd38:=vV (K:=K) (d:=.int 1 tz38) (fd:=fnOf "ask" "House.ask" (zC zD) (z7 zD) (zk zD) (.ref dt38) kV38 dc38 pm38 an38 cd38 ct38) (ps:=["self","reading","many"]) rfl d38 rfl <| z0N λ_ _=>⟨_,rfl,rfl⟩
 have b39:=vO (K:=K) (fd:=fnOf "store" "House.store" (zC zv) (z7 zv) (zk zv) (.ref dt39) kV39 dc39 pm39 an39 cd39 ct39) (ps:=["self","reading","many"]) rfl d39 rfl <| z2z λ_ _ _=>⟨_,rfl,rfl⟩
 have bd39:=vV (K:=K) (d:=.int 1 tz39) (fd:=fnOf "store" "House.store" (zC zv) (z7 zv) (zk zv) (.ref dt39) kV39 dc39 pm39 an39 cd39 ct39) (ps:=["self","reading","many"]) rfl d39 rfl <| z0N λ_ _=>⟨_,rfl,rfl⟩
 have b40:=vO (K:=K) (fd:=fnOf "take" "House.take" (zC zP) (z7 zP) (zk zP) (.ref dt40) kV40 dc40 pm40 an40 cd40 ct40) (ps:=["self","many"]) rfl d40 rfl <| z3l λ_ _=>⟨_,rfl,rfl⟩
 have bd40:=vV (K:=K) (d:=.int 1 tz40) (fd:=fnOf "take" "House.take" (zC zP) (z7 zP) (zk zP) (.ref dt40) kV40 dc40 pm40 an40 cd40 ct40) (ps:=["self","many"]) rfl d40 rfl <| z4G λ_=>⟨_,rfl,rfl⟩
 have F48:=kC (st:=qG) l48 c48 k48
 have b48:=F48.binds (ps:=["_law_at","_law_kind","_law_calls"]) λ_ _ _ _ _ _=>z2z λ_ _ _=>rfl
 have F52:=kC (st:=qi) l52 c52 k52
 have b52:=F52.binds (ps:=["_law_script"]) λ_ _ _ _ _ _=>z3y λ_=>rfl
 refine⟨⟨zl,λP hP=>by rcases z65.mp hP with rfl|hP;exact⟨zk0,zs0,cA0,zt0⟩;rw[z5J.mp hP];exact⟨zk1,zs1,cA1,zt1⟩⟩,⟨fnOf "law" "law" (zC qi) (z7 qi) (zk qi) .none kV52 dc52 pm52 an52 (.ref cA1) ct52,λs v=>.of_eq rfl,λbase kb nb nbt=>?_⟩⟩
 let B:=@GsB l w K mg base
 have Z:Pk RU K mg base _ _ _:=⟨kW,kb,nb,zc⟩
 have g0:GsOk l.prog w K mg base ⟨[(10,C0),(12,C1),(13,C2),(16,C3),(18,C4),(20,C5),(21,C6),(22,C7),(23,C8),(24,C9)],[(40,CC7),(44,CC21),(45,CC28)]⟩ (z2B UQ ([(P0,[⟨251,4,260,43⟩],((("_law_keeper":Str)++".<locals>.")++"_law_keep")),(P1,[⟨332,58,332,79⟩],((("law":Str)++".<locals>.")++"<lambda>"))]:List (Addr×List Pos×Str))) 0 gs0 (λj=>([(P0,[⟨251,4,260,43⟩],((("_law_keeper":Str)++".<locals>.")++"_law_keep")),(P1,[⟨332,58,332,79⟩],((("law":Str)++".<locals>.")++"<lambda>"))]:List (Addr×List Pos×Str))[j]?):=WT kb nb zg ⟨⟨C0,rfl,x0⟩,⟨C1,rfl,x1⟩,⟨C2,rfl,x2⟩,⟨C3,rfl,x3⟩,⟨C4,rfl,x4⟩,⟨C5,rfl,x5⟩,⟨C7,rfl,x7⟩,⟨C8,rfl,x8⟩,⟨C9,rfl,x9⟩,trivial⟩
 have g1:B 0 gs1:=GsOk.add g0 (Yd (c:=8) (n:="KeyError") (g0 _ (z5X _ (z5X _ (z6y.mpr ⟨"KeyError",by decide,rfl⟩)))).1 (by decide +kernel) (by decide) rfl rfl) rfl
 have g2:B 0 gs2:=GsOk.add g1 (Yd (c:=9) (n:="ZeroDivisionError") (g0 _ (z5X _ (z5X _ (z6y.mpr ⟨"ZeroDivisionError",by decide,rfl⟩)))).1 (by decide +kernel) (by decide) rfl rfl) rfl
 have XI2:XIn K C6 C0 f2 "by":=⟨⟨N2,nm2,qn2,bs2,hd2,sn2,sb2,ab2,co2,dd2,ka2,kb2,kc2,kd2,ke2,xa2,xb2,xc2⟩,x0,xd2,xe2,xf2,xg2,xh2⟩
 have W2:FnOk l.prog w K mg base (CX1 l.prog w) 1 f2 _ ["self","by"] (spI C6 "by")/\ue l.prog w K mg base 1 f2 _ ["self","by"] (spI C6 "by"):=z1F XI2 ⟨zaJ kb nb e0,ha0,ha1,ha2⟩ l2 c2 (by first|exact⟨_,_,_,_,_,_,_,_,_,_,_,rfl,rfl,.inl ⟨_,_,_,_,_,_,_,_,rfl,by decide,by decide⟩⟩|exact⟨_,_,_,_,_,_,_,_,_,_,_,rfl,rfl,.inr ⟨_,_,_,_,_,rfl,by decide⟩⟩) rfl
 have g3:B 2 gs3:=GsOk.add (g2.mono (by decide)) ⟨C6,C0,f2,_,_,1,rfl,zaJ kb nb e6,rfl,XI2,b2,by decide,W2.1,W2.2⟩ rfl
 have g4:B 2 gs4:=GsOk.add g3 ⟨C6,C0,f2,_,_,1,rfl,zaJ kb nb e6,rfl,XI2,b2,by decide,W2.1,W2.2⟩ rfl
 have g5:B 3 gs5:=Z.fn (ps:=["thing"]) p3 g4 WJ rfl rfl (λ_ _ _ _ _ _ _=>rfl) rfl
 have g6:B 4 gs6:=Z.fn (ps:=["thing"]) p4 g5 J4 rfl rfl (λ_ _ _ _ _ _ _=>rfl) rfl
 have g7:B 5 gs7:=Z.fn (ps:=["thing"]) p5 g6 ko rfl rfl (λ_ _ _ _ _ _ _=>rfl) rfl
 have g8:B 6 gs8:=Z.fn (ps:=["thing","bound"]) p6 g7 WY rfl rfl (λ_ _ _ _ _ _ _ _=>rfl) rfl
 have g9:B 8 gs9:=Z.cl (ps:=["self","moments","houses","counts"]) p7 g8 Za rfl rfl rfl (λ_ _ _ _ _ _ _ _ _ _=>rfl) rfl
 have g10:B 9 z2M:=Z.fn (ps:=["shape"]) p8 g9 W0 rfl rfl (λ_ _ _ _ _ _ _=>rfl) rfl
 have g11:B 10 z2Q:=Z.fn (ps:=["shape","thing"]) p9 g10 Jx rfl rfl (λ_ _ _ _ _ _ _ _=>rfl) rfl
 have g12:B 11 z3j:=Z.fn (ps:=["shape","thing"]) p10 g11 Zl rfl rfl (λ_ _ _ _ _ _ _ _=>rfl) rfl
 have g13:B 12 z1K:=Z.fn (ps:=["thing","bound"]) p11 g12 Zr rfl rfl (λ_ _ _ _ _ _ _ _=>rfl) rfl
 have g14:B 13 z2X:=Z.fn (ps:=["shape","moment","house","count"]) p12 g13 Jd rfl rfl (λ_ _ _ _ _ _ _ _ _ _=>rfl) rfl
 have g15:B 14 z4Q:=Z.fn (ps:=["shape","name"]) p13 g14 W3 rfl rfl (λ_ _ _ _ _ _ _ _=>rfl) rfl
 have g16:B 14 z3B:=GsOk.add g15 ⟨_,(.int 0),zaJ kb nb v14,⟨_,rfl⟩,λ_ _ _=>rfl⟩ rfl
 have g17:B 14 z47:=GsOk.add g16 ⟨_,(.int 1),zaJ kb nb v15,⟨_,rfl⟩,λ_ _ _=>rfl⟩ rfl
 have g18:B 14 z37:=GsOk.add g17 ⟨_,(.int 2),zaJ kb nb v16,⟨_,rfl⟩,λ_ _ _=>rfl⟩ rfl
 have g19:B 15 z20:=Z.fn (ps:=["shape","thing"]) p17 g18 WQ rfl rfl (λ_ _ _ _ _ _ _ _=>rfl) rfl
 have g20:B 16 z30:=Z.fn (ps:=["shape","thing"]) p18 g19 yX rfl rfl (λ_ _ _ _ _ _ _ _=>rfl) rfl
 have g21:B 17 z15:=Z.fn (ps:=["lease","moment"]) p19 g20 Jj rfl rfl (λ_ _ _ _ _ _ _ _=>rfl) rfl
 have g22:B 18 z2_:=Z.fn (ps:=["shape","thing"]) p20 g21 J2 rfl rfl (λ_ _ _ _ _ _ _ _=>rfl) rfl
 have g23:B 20 z2A:=Z.cl (ps:=["self","house","begin","end"]) p21 g22 ZJ rfl rfl rfl (λ_ _ _ _ _ _ _ _ _ _=>rfl) rfl
 have g24:B 21 z2R:=Z.fn (ps:=["shape","house","place"]) p22 g23 VQ rfl rfl (λ_ _ _ _ _ _ _ _ _=>rfl) rfl
 have g25:B 22 z1G:=Z.fn (ps:=["shape","batch"]) p23 g24 j8 rfl rfl (λ_ _ _ _ _ _ _ _=>rfl) rfl
 have g26:B 23 z1Y:=Z.fn (ps:=["batches"]) p24 g25 QM rfl rfl (λ_ _ _ _ _ _ _=>rfl) rfl
 have g27:B 24 z1o:=Z.fn (ps:=["batches","many"]) p25 g26 Xg rfl rfl (λ_ _ _ _ _ _ _ _=>rfl) rfl
 have g28:B 25 z1k:=Z.fn (ps:=["shape","house","name"]) p26 g27 yO rfl rfl (λ_ _ _ _ _ _ _ _ _=>rfl) rfl
 have g29:B 26 z11:=GsOk.add (g28.mono (by decide)) (z0i (n:=60) (tbs:=([(P0,[⟨251,4,260,43⟩],((("_law_keeper":Str)++".<locals>.")++"_law_keep")),(P1,[⟨332,58,332,79⟩],((("law":Str)++".<locals>.")++"<lambda>"))]:List (Addr×List Pos×Str))) (G:=z1V) kW (by show 2<=100;decide) (AllL.mem (ls:=UQ) ⟨rfl,rfl,trivial⟩) (kI (N:=[]) (G:=["Fallen","KeyError","NoTime","ZeroDivisionError","len"]) (cel:=[]) (own:=[]) (lam:=none) kb nb zc g28) z1_.mem) rfl
 have W28:FnOk l.prog w K mg base (CX1 l.prog w) 27 f28 _ ["self","shape","ahead","stride","keeper","note"] (spN _ 6 zE):=jX (m:=0) kW (kI (N:=["self","shape","ahead","stride","keeper","note"]) (G:=["is_from_nought","NoTime","is_note","NoNote"]) (cel:=[]) (own:=["batches"]) (lam:=none) kb nb zc g29) l28 c28 rfl rfl yF
 have g30:B 28 z3O:=GsOk.add (g29.mono (by decide)) ⟨CC28,f28,_,_,27,rfl,zaJ kb nb q28,⟨mk28,i28,j28,kk28⟩,b28,by decide,W28,qm⟩ rfl
 have g31:B 28 z1D:=GsOk.add (x:=til "House") g30 ⟨CC28,f28,_,_,27,rfl,zaJ kb nb q28,⟨mk28,i28,j28,kk28⟩,bd28,by decide,W28,qm,rfl⟩ rfl
 have g32:B 29 z28:=Z.met (ps:=["self"]) p29 g31 kz rfl rfl rfl rfl (λ_ _ _ _ _ _ _=>rfl) rfl
 have g33:B 30 z2L:=Z.met (ps:=["self"]) p30 g32 Zg rfl rfl rfl rfl (λ_ _ _ _ _ _ _=>rfl) rfl
 have g34:B 31 z0U:=Z.met (ps:=["self","lease","mark"]) p31 g33 yz rfl rfl rfl rfl (λ_ _ _ _ _ _ _ _ _=>rfl) rfl
 have g35:B 32 z13:=Z.met (ps:=["self","lease"]) p32 g34 vJ rfl rfl rfl rfl (λ_ _ _ _ _ _ _ _=>rfl) rfl
 have g36:B 33 z33:=Z.met (ps:=["self"]) p33 g35 wK rfl rfl rfl rfl (λ_ _ _ _ _ _ _=>rfl) rfl
 have g37:B 34 z3d:=Z.met (ps:=["self"]) p34 g36 jg rfl rfl rfl rfl (λ_ _ _ _ _ _ _=>rfl) rfl
 have g38:B 35 z3w:=Z.met (ps:=["self","reading","many"]) p35 g37 jq rfl rfl rfl rfl (λ_ _ _ _ _ _ _ _ _=>rfl) rfl
 have g39:B 36 z1B:=Z.met (ps:=["self","moment"]) p36 g38 j1 rfl rfl rfl rfl (λ_ _ _ _ _ _ _ _=>rfl) rfl
 have g40:B 37 z2j:=Z.met (ps:=["self","reading","many"]) p37 g39 jm rfl rfl rfl rfl (λ_ _ _ _ _ _ _ _ _=>rfl) rfl
 have W38:FnOk l.prog w K mg base (CX1 l.prog w) 38 f38 _ ["self","reading","many"] (spN _ 3 zQ):=jX (m:=1) kW (kI (N:=["self","reading","many","batch"]) (G:=["names_of_batch"]) (cel:=[]) (own:=["batches"]) (lam:=none) kb nb zc g40) l38 c38 rfl rfl y_
 have g41:B 38 z4S:=GsOk.add (g40.mono (by decide)) ⟨CC28,f38,_,_,38,rfl,jk (c:=45) zc rfl,⟨i38,j38,k38⟩,λi h=>absurd (z5T (show FLD[i]?=some "ask" from h)) (by decide +kernel),b38,by decide,W38,qm⟩ rfl
 have g42:B 38 z12:=GsOk.add (x:=til (dot "ask")) g41 ⟨CC28,f38,_,_,38,_,(.int 1),rfl,jk (c:=45) zc rfl,⟨i38,j38,k38⟩,λi h=>absurd (z5T (show FLD[i]?=some "ask" from h)) (by decide +kernel),bd38,⟨_,rfl⟩,λ_ _ _=>rfl,by decide,W38,qm,rfl⟩ rfl
 have W39:FnOk l.prog w K mg base (CX1 l.prog w) 39 f39 _ ["self","reading","many"] (spN _ 3 zO):=jX (m:=1) kW (kI (N:=["self","reading","many","batch"]) (G:=["size_of"]) (cel:=[]) (own:=[]) (lam:=none) kb nb zc g42) l39 c39 rfl rfl xg
 have g43:B 39 z3G:=GsOk.add (g42.mono (by decide)) ⟨CC28,f39,_,_,39,rfl,jk (c:=45) zc rfl,⟨i39,j39,k39⟩,λi h=>absurd (z5T (show FLD[i]?=some "store" from h)) (by decide +kernel),b39,by decide,W39,qm⟩ rfl
 have g44:B 39 z31:=GsOk.add (x:=til (dot "store")) g43 ⟨CC28,f39,_,_,39,_,(.int 1),rfl,jk (c:=45) zc rfl,⟨i39,j39,k39⟩,λi h=>absurd (z5T (show FLD[i]?=some "store" from h)) (by decide +kernel),bd39,⟨_,rfl⟩,λ_ _ _=>rfl,by decide,W39,qm,rfl⟩ rfl
 have W40:FnOk l.prog w K mg base (CX1 l.prog w) 40 f40 _ ["self","many"] (spN _ 2 zU):=jX (m:=3) kW (kI (N:=["self","many","parts","names","batch"]) (G:=["is_size","TooMany","size_of","Empty","parted","names_of_batch"]) (cel:=[]) (own:=["names"]) (lam:=none) kb nb zc g44) l40 c40 rfl rfl Zo
 have g45:B 40 z4W:=GsOk.add (g44.mono (by decide)) ⟨CC28,f40,_,_,40,rfl,jk (c:=45) zc rfl,⟨i40,j40,k40⟩,λi h=>absurd (z5T (show FLD[i]?=some "take" from h)) (by decide +kernel),b40,by decide,W40,qm⟩ rfl
 have g46:B 40 z3a:=GsOk.add (x:=til (dot "take")) g45 ⟨CC28,f40,_,_,40,_,(.int 1),rfl,jk (c:=45) zc rfl,⟨i40,j40,k40⟩,λi h=>absurd (z5T (show FLD[i]?=some "take" from h)) (by decide +kernel),bd40,⟨_,rfl⟩,λ_ _ _=>rfl,by decide,W40,qm,rfl⟩ rfl
 have g47:B 41 z2u:=Z.met (ps:=["self"]) p41 g46 vY rfl rfl rfl rfl (λ_ _ _ _ _ _ _=>rfl) rfl
 have g48:B 42 z1v:=Z.met (ps:=["self"]) p42 g47 vW rfl rfl rfl rfl (λ_ _ _ _ _ _ _=>rfl) rfl
 have g49:B 43 z1Q:=Z.met (ps:=["self"]) p43 g48 Z7 rfl rfl rfl rfl (λ_ _ _ _ _ _ _=>rfl) rfl
 have g50:B 44 z19:=Z.fn (ps:=["_law_script","_law_k"]) p44 g49 Q2 rfl rfl (λ_ _ _ _ _ _ _ _=>rfl) rfl
 have g51:B 45 z1b:=Z.fn (ps:=["_law_cell","_law_k"]) p45 g50 Jt rfl rfl (λ_ _ _ _ _ _ _ _=>rfl) rfl
 have g52:B 46 z1E:=Z.fn (ps:=["_law_cell"]) p46 g51 WB rfl rfl (λ_ _ _ _ _ _ _=>rfl) rfl
 have g53:B 47 z2f:=Z.fn (ps:=["_law_source","_law_many"]) p47 g52 Wv rfl rfl (λ_ _ _ _ _ _ _ _=>rfl) rfl
 have W48:FnOk l.prog w K mg base (CX1 l.prog w) 48 f48 _ ["_law_at","_law_kind","_law_calls"] (spN _ 3 wO):=JS (m:=1) (cut:=0) (ds:=vk) kW (z0t (F:=["_law_at","_law_calls","_law_kind"]) (kI (N:=["_law_at","_law_kind","_law_calls","_law_keep"]) (G:=[]) (cel:=["_law_at","_law_kind","_law_calls"]) (own:=[]) (lam:=some (0,[⟨251,4,260,43⟩])) (lnm:="_law_keep") kb nb zc g53)) l48 c48 rfl rfl QH WU (λj pos e=>by cases e;exact⟨by decide,cA0,P0,rfl,codeHd_of_K kb zt0,nbt _ (.head _),rfl⟩)
 have g54:B 48 z1i:=GsOk.add (g53.mono (by decide)) ⟨f48,zaJ kb nb a48,_,_,48,k48,b48,by decide,W48,qm⟩ rfl
 have g55:B 49 z1J:=Z.fn (ps:=["_law_house","_law_way","_law_lease"]) p49 g54 Wr rfl rfl (λ_ _ _ _ _ _ _ _ _=>rfl) rfl
 have g56:B 50 z1g:=Z.fn (ps:=["_law_house","_law_way","_law_reading","_law_many","_law_lease"]) p50 g55 W6 rfl rfl (λ_ _ _ _ _ _ _ _ _ _ _=>rfl) rfl
 have g57:B 51 z4j:=Z.fn (ps:=["_law_made","_law_lease","_law_kind","_law_back"]) p51 g56 Je rfl rfl (λ_ _ _ _ _ _ _ _ _ _=>rfl) rfl
 have W52:FnOk l.prog w K mg base (CX1 l.prog w) 52 fa _ ["_law_script"] (spN _ 1 k6):=JS (m:=18) (cut:=15) (ds:=vR) kW (z0t (F:=[]) (kI (N:=["_law_script","_law_source","_law_counts","_law_number","_law_moments","_law_made","_law_stride","_law_at","_law_calls","_law_house","_law_lower","_law_given","_law_reading","_law_fell","_law_cell","_law_many","_law_lease","_law_told","_law_note"]) (G:=["_law_digits","_law_cell_at","_law_next","Shape","House","_law_keeper","_law_short","_law_deed","len","all","range","max","sorted","dict"]) (cel:=["_law_counts","_law_number","_law_house","_law_lease"]) (own:=["_law_calls","_law_given"]) (lam:=some (1,[⟨332,58,332,79⟩])) kb nb zc g57)) l52 c52 rfl rfl W9 Jb (λj pos e=>by cases e;exact⟨by decide,cA1,P1,rfl,codeHd_of_K kb zt1,nbt _ (.tail _ (.head _)),rfl⟩)
 exact Xj (f:=k6) tells rfl rfl zn W52
end NH.K43
section
open PySem PySem.W PyProof.Rows
set_option maxRecDepth 100000 in
set_option maxHeartbeats 0 in
theorem PySem.Challenge.cw_namehouses_k43_keepers_that_raise_holds : PySem.Challenge.rw_namehouses_k43_keepers_that_raise.Holds := by
 w_on;o_law;k_head;(case hw=>w_witness2)
 k_fill
 refine NH.walkTs (l:=PySem.Challenge.rw_namehouses_k43_keepers_that_raise) (k:=52) (x:="_law_script") (by decide) rfl rfl (λw h Y=>PySem.W.km_in_of Y) (λw h Y=>PySem.W.km_tabs_of Y) ?F
 case F=>
  intro w mg fa h KX G hmg
  refine' NH.K43.all_mk KX G hmg ?ze0 ?ze1 ?ze2 ?ze3 ?ze4 ?ze5 ?ze6 ?ze7 ?ze8 ?ze9 ?zxa2 ?zxb2 ?zxc2 ?zxd2 ?zxe2 ?zxf2 ?zxg2 ?zxh2 ?zha0 ?zha1 ?zha2 ?zl2 ?zc2 ?zk2 ?zp3 ?zp4 ?zp5 ?zp6 ?zp7 ?zp8 ?zp9 ?zp10 ?zp11 ?zp12 ?zp13 ?zv14 ?zv15 ?zv16 ?zp17 ?zp18 ?zp19 ?zp20 ?zp21 ?zp22 ?zp23 ?zp24 ?zp25 ?zp26 ?zq28 ?zi28 ?zj28 ?zl28 ?zd28 ?zc28 ?zk28 ?zmk28 ?zkk28 ?zp29 ?zp30 ?zp31 ?zp32 ?zp33 ?zp34 ?zp35 ?zp36 ?zp37 ?zi38 ?zj38 ?zl38 ?zd38 ?zc38 ?zk38 ?zi39 ?zj39 ?zl39 ?zd39 ?zc39 ?zk39 ?zi40 ?zj40 ?zl40 ?zd40 ?zc40 ?zk40 ?zp41 ?zp42 ?zp43 ?zp44 ?zp45 ?zp46 ?zp47 ?za48 ?zl48 ?zc48 ?zzt0 ?zzk0 ?zzs0 ?zk48 ?zp49 ?zp50 ?zp51 ?za52 ?zl52 ?zc52 ?zzt1 ?zzk1 ?zzs1 ?zk52 ?zx0 ?zx1 ?zx2 ?zx3 ?zx4 ?zx5 ?zx7 ?zx8 ?zx9 ?zzn ?zzl ?zzc ?zzg
  (case ze0=>k_is)
  (case ze1=>k_is)
  (case ze2=>k_is)
  (case ze3=>k_is)
  (case ze4=>k_is)
  (case ze5=>k_is)
  (case ze6=>k_is)
  (case ze7=>k_is)
  (case ze8=>k_is)
  (case ze9=>k_is)
  (case zxa2=>k_is)
  (case zxb2=>kernel_rfl)
  (case zxc2=>k_is)
  (case zxd2=>k_is)
  (case zxe2=>k_is)
  (case zxf2=>k_is)
  (case zxg2=>k_is)
  (case zxh2=>k_is)
  (case zha0=>k_is)
  (case zha1=>k_is)
  (case zha2=>k_is)
  (case zl2=>k_is)
  (case zc2=>k_is)
  (case zk2=>k_is)
  (case zp3=>exact NH.dfp (by k_is) (by k_is) (by k_is) (by k_is))
  (case zp4=>exact NH.dfp (by k_is) (by k_is) (by k_is) (by k_is))
  (case zp5=>exact NH.dfp (by k_is) (by k_is) (by k_is) (by k_is))
  (case zp6=>exact NH.dfp (by k_is) (by k_is) (by k_is) (by k_is))
  (case zp7=>exact NH.clp (by k_is) (by k_is) (by k_is) (by k_is) (by k_is) (by k_is) (by k_is) (by k_is))
  (case zp8=>exact NH.dfp (by k_is) (by k_is) (by k_is) (by k_is))
  (case zp9=>exact NH.dfp (by k_is) (by k_is) (by k_is) (by k_is))
  (case zp10=>exact NH.dfp (by k_is) (by k_is) (by k_is) (by k_is))
  (case zp11=>exact NH.dfp (by k_is) (by k_is) (by k_is) (by k_is))
  (case zp12=>exact NH.dfp (by k_is) (by k_is) (by k_is) (by k_is))
  (case zp13=>exact NH.dfp (by k_is) (by k_is) (by k_is) (by k_is))
  (case zv14=>k_is)
  (case zv15=>k_is)
  (case zv16=>k_is)
  (case zp17=>exact NH.dfp (by k_is) (by k_is) (by k_is) (by k_is))
  (case zp18=>exact NH.dfp (by k_is) (by k_is) (by k_is) (by k_is))
  (case zp19=>exact NH.dfp (by k_is) (by k_is) (by k_is) (by k_is))
  (case zp20=>exact NH.dfp (by k_is) (by k_is) (by k_is) (by k_is))
  (case zp21=>exact NH.clp (by k_is) (by k_is) (by k_is) (by k_is) (by k_is) (by k_is) (by k_is) (by k_is))
  (case zp22=>exact NH.dfp (by k_is) (by k_is) (by k_is) (by k_is))
  (case zp23=>exact NH.dfp (by k_is) (by k_is) (by k_is) (by k_is))
  (case zp24=>exact NH.dfp (by k_is) (by k_is) (by k_is) (by k_is))
  (case zp25=>exact NH.dfp (by k_is) (by k_is) (by k_is) (by k_is))
  (case zp26=>exact NH.dfp (by k_is) (by k_is) (by k_is) (by k_is))
  (case zq28=>k_is)
  (case zi28=>k_is)
  (case zj28=>k_is)
  (case zl28=>k_is)
  (case zd28=>k_is)
  (case zc28=>k_is)
  (case zk28=>k_is)
  (case zmk28=>k_is)
  (case zkk28=>k_is)
  (case zp29=>exact NH.mtp (by k_is) (by k_is) (by k_is) (by k_is) (by k_is))
  (case zp30=>exact NH.mtp (by k_is) (by k_is) (by k_is) (by k_is) (by k_is))
  (case zp31=>exact NH.mtp (by k_is) (by k_is) (by k_is) (by k_is) (by k_is))
  (case zp32=>exact NH.mtp (by k_is) (by k_is) (by k_is) (by k_is) (by k_is))
  (case zp33=>exact NH.mtp (by k_is) (by k_is) (by k_is) (by k_is) (by k_is))
  (case zp34=>exact NH.mtp (by k_is) (by k_is) (by k_is) (by k_is) (by k_is))
  (case zp35=>exact NH.mtp (by k_is) (by k_is) (by k_is) (by k_is) (by k_is))
  (case zp36=>exact NH.mtp (by k_is) (by k_is) (by k_is) (by k_is) (by k_is))
  (case zp37=>exact NH.mtp (by k_is) (by k_is) (by k_is) (by k_is) (by k_is))
  (case zi38=>k_is)
  (case zj38=>k_is)
  (case zl38=>k_is)
  (case zd38=>k_is)
  (case zc38=>k_is)
  (case zk38=>k_is)
  (case zi39=>k_is)
  (case zj39=>k_is)
  (case zl39=>k_is)
  (case zd39=>k_is)
  (case zc39=>k_is)
  (case zk39=>k_is)
  (case zi40=>k_is)
  (case zj40=>k_is)
  (case zl40=>k_is)
  (case zd40=>k_is)
  (case zc40=>k_is)
  (case zk40=>k_is)
  (case zp41=>exact NH.mtp (by k_is) (by k_is) (by k_is) (by k_is) (by k_is))
  (case zp42=>exact NH.mtp (by k_is) (by k_is) (by k_is) (by k_is) (by k_is))
  (case zp43=>exact NH.mtp (by k_is) (by k_is) (by k_is) (by k_is) (by k_is))
  (case zp44=>exact NH.dfp (by k_is) (by k_is) (by k_is) (by k_is))
  (case zp45=>exact NH.dfp (by k_is) (by k_is) (by k_is) (by k_is))
  (case zp46=>exact NH.dfp (by k_is) (by k_is) (by k_is) (by k_is))
  (case zp47=>exact NH.dfp (by k_is) (by k_is) (by k_is) (by k_is))
  (case za48=>k_is)
  (case zl48=>k_is)
  (case zc48=>k_is)
  (case zzt0=>exact rfl)
  (case zzk0=>exact rfl)
  (case zzs0=>decide)
  (case zk48=>k_is)
  (case zp49=>exact NH.dfp (by k_is) (by k_is) (by k_is) (by k_is))
  (case zp50=>exact NH.dfp (by k_is) (by k_is) (by k_is) (by k_is))
  (case zp51=>exact NH.dfp (by k_is) (by k_is) (by k_is) (by k_is))
  (case za52=>k_is)
  (case zl52=>k_is)
  (case zc52=>k_is)
  (case zzt1=>exact rfl)
  (case zzk1=>exact rfl)
  (case zzs1=>decide)
  (case zk52=>k_is)
  (case zx0=>k_exc)
  (case zx1=>k_exc)
  (case zx2=>k_exc)
  (case zx3=>k_exc)
  (case zx4=>k_exc)
  (case zx5=>k_exc)
  (case zx7=>k_exc)
  (case zx8=>k_exc)
  (case zx9=>k_exc)
  (case zzn=>decide)
  (case zzl=>exact rfl)
  (case zzc=>exact rfl)
  (case zzg=>exact rfl)
end
