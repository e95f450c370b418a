import PyProof.Rows.All
import Wide.All
import OpenK.AllK
import Wide.FinOn
import Lean
import PyProof.EqAt
import PyProof.EqKinds
import PyProof.TupleCall
import PyProof.StationsW
import PySem.Syntax
import KE.KLam
import PyProof.StrBlockH
import KE.KRevIter
import PyProof.JoinWalk
import PyProof.CollectIter
import PyProof.StrCalls
import PyProof.DictStraight
import PyProof.Rows.Range3
import PyProof.StrWalks
import PyProof.LongRange
import KE.KTryMore
import KE.KItem
import PyProof.NsDelKeeps
import PyProof.DictTable
import PyProof.WalkInts
import PyProof.Rows.SortStr
import PyProof.Rows.SortWalk
import PyProof.EnumMake
import PyProof.EnumFor
import KE.KRevSl
import PyProof.Rows.StrNews
import KE.KMinBuiltin
import KE.KSortKey
import PyProof.ZipIter
import PyProof.ExcInit
import PyProof.ExcClass2
import PyProof.InstStoreFacts
import PyProof.FString
import KE.LcSums
import PySem.Challenge.RW_namehouses_k90_whole_one_house
set_option Elab.async false
open List renaming getElem?_eq_some_iff→z6v,getElem?_append_left→z6B,getElem?_set_ne→z6D,mem_append_left→z6G,mem_cons_of_mem→z6H,mem_singleton→z6J,mem_append→z6K,mem_of_getElem?→z6M,mem_append_right→z6O,length_map→z6Q,getElem?_append_right→z6S,mem_cons_self→z6U,size_toArray→z6V,length_cons→z6Y,length_append→z72,append_nil→z74,mem_cons→z75,getElem?_map→z78,lookup_cons→z79,mem_filter→z7d,map_cons→z7g,contains_iff_mem→z7i,map_append→z7j,all_eq_true→z7k,mem_of_mem_take→z7l,length_nil→z7s,all_cons→z7y,append_assoc→z7E,lookup→z7F,mem_map→z7K,pairwise_append→z7P,take_of_length_le→z7V,range→z7_,rec→z81,mem_iff_getElem?→z83,getElem?_eq_getElem→z8i,length_take→z8m,getElem?_replicate→z8n,mem_filterMap→z8t,find?_cons→z8y,getElem?_eq_none→z8B,take_append_drop→z8C,flatMap_cons→z8G,mem_range→z8H,replicate→z8K,length_drop→z8Q,getElem?_set_self'→z97,getElem?_cons_succ→z98,getElem?_set_self→z9b,nodup_append→z9g,set_append_right→z9k,getElem_inj→z9l,any_cons→z9q,nodup_cons→z9v,nil_append→z9y,filterMap_cons→z9z,map_congr_left→z9C,contains_cons→z9X,drop_eq_getElem_cons→z9Z,pairwise_map→za5,filterMap_cons_none→zaf,filterMap_cons_some→zag,getElem?_cons_zero→zan,filter_cons_of_pos→zaq,filter_cons_of_neg→zar,filterMap_eq_map'→zaF,of_mem_zip→zaJ,forIn_cons→zaL,length_replicate→zaO,length→zaX,mem_of_mem_drop→zb2,flatMap_append→zbg,zip_cons_cons→zbu,any_eq_false→zbH,map_nil→zbS,all_map→zbU,map_map→zc2,length_range→zc3,take_add_one→zc4,cons_append→zci,not_mem_nil→zcm
open PySem renaming wpAny_bind→z6w,Shared→z6z,wpAny_pure→z6F,wpAny→z6I,model→z6L,mainGlobals→z6T,wpAny_holding→z77,Program→z7a,Around→z7b,wpAny_truthy_bool→z7e,wpAny_mono→z7f,starEach→z7m,mem_of_lookup→z7n,World→z7o,rawInt→z7t,compareOp→z7u,wpAny_standAt→z7x,foldedSetIterable→z7A,wpAny_Call_Name_kw→z7I,relabel→z7L,sizeLine_eq→z7N,wpAny_newObj_type→z7Q,FuncData→z7T,wpAny_field→z7W,CmpOp→z85,binaryOp→z88,codeAny_mono→z8a,excClassObj→z8c,assignEach→z8f,wpAny_call→z8h,sysModules→z8r,bootBuiltins→z8s,wpAny_loadPart_at→z8F,backTo→z8I,keywordEach→z8L,codeAny_call_builtin→z8N,compEnvC→z8O,attributeBase→z8U,ExceptHandler→z8Z,methodCallPos→z8_,letOwnedTupleGo→z90,wpAny_passesOwn→z91,codeAny→z92,sliceBounds→z95,codeAmong→z96,wpAny_of_eq→z99,plainObj_wpAny_Assign_Attribute→z9j,swapsWith→z9m,getItem→z9o,strLen_append→z9r,getAttrByItsOwn→z9x,Keyword→z9F,TriplesOk→z9H,builtinsNs→z9I,Model→z9J,NameKind→z9N,backToKw→z9Q,wpAny_setField→z9R,wpAny_FormattedValue_plain→z9Y,assign→za7,swapsWithSole→za8,swappedStores→za9,wpAny_attempt→zaa,comprehension→zab,wpAny_execs_cons→zah,bindArgs→zaj,noFill_tuple_add→zak,wpAny_callSpecial?_slot→zal,setFlight→zam,wpAny_comp_letGo→zap,Paired→zas,IsPart→zav,wpAny_typeOf→zaw,typeLookup→zax,methodCall→zaC,wpAny_execs_nil→zaH,wpAny_isTrue_Compare1→zaR,ofString_length→zaT,wpAny_formatField_int→zaU,wpAny_loadPart→zaW,subscripted→zaZ,wpAny_newFunctionEnv→zb3,tupleKind→zb7,OwnTail→zb8,valueAt→zb9,wpAny_isSubtype_exc→zbe,behindInMarks→zbi,seq_tuple_add→zbj,arm_eval_Call→zbm,isInstance→zbz,closureFor→zbA,tupleKind_room_in1→zbD,int_text_length_le→zbF,Within→zbG,BindsTo→zbO,concat_meets→zbP,wpAny_sequenceKey→zbR,slot_list_getitem→zbT,wpAny_pyIter_list→zbY,ExcBaseFacts→zb_,PassesOwn→zc8,wpAny_lookBehind→zca,pastItsLine_dict→zcb,wpAny_call_entry→zcc,noteFrame→zce,callGetattribute→zcg,checkBuiltinCall→zch,bindSpecial→zcn,atKey→zco,wpAny_loadPart'→zcs,wpAny_JoinedStr→zcw,holding→zcA,getAttr→zcB,Builtin→zcC,callerA→zcE,notedBy→zcF,wpAny_Name→zcI,bindL→zcM,bindC→zcN,typeIs_str→zcP,Operator→zcR,wpAny_rule→zcV,cStatics→zcX,getMethod→zds,cellsFrom→zdt,seqItems?→zdu,passOn→zdC,call→zdT
open Bool renaming and_eq_true→z6x,false_ne_true→z6_,not_eq_true'→z8d,eq_iff_iff→z9u,false_eq_true→z9U,or_eq_true→zaM,and_false→za_,eq_false_iff→zbV,or_true→zbZ,false_and→zcJ,rec→zcQ,and_true→zdo,not_true→zdp
open PySem.Heap renaming get?_push_of_some→z6y,lt_size→z6R,get?_push_size→z71,SameBut→z7p,get?_none_of_le→z7q,get?_update_other→z7B,get?_update_self→z8A,size_push→z8J,MadeExcOf→z9e,get?_update_ne→zbf,get?_push_at→zc1
open Option.some renaming inj→z6A,injEq→za3
open PySem.W renaming Frag→z6C,findIn→z70,fnOf→z7v,emptyDict→z7w,instObj→z7R,callWith_K→z82,hasDictIn→z89,specialIn→z8b,plainGet_of→z8j,keepIn→z8l,codeIn→z8o,kla_obj→z8x,mroIn→z8z,plainGet→z8P,callWith_K0→z8T,excIn→z8Y,nsIn→z9f,clsIn→z9p,takesIn→z9w,looks_clsIn→z9B,lookIn→z9M,CodeHd→z9S,kitOne→z9T,isNs_of_in→z9V,tabObj→z9W,methodObj→z9_,plainOver→za1,any_some→zai,cellsFrom_some→zau,looks_findIn→zaA,KitX→zaB,takerIn→zaI,InstAt→zaV,kitAny→zb1,exmOne→zb4,findObj_own→zba,Looks→zbl,mg_of→zbn,mg_none_of→zbC,isFn→zbI,set_plain→zbJ,kitx_list→zbW,kitx_dict→zbX,handedIn→zc9,codeHdIn→zcj,makesIn→zcr,readsIn→zcx,findCls→zcy,binds_K→zcz,OpenLaw→zcD,typeIn→zcL,nsOkIn→zcT,notCls→zcZ,FnAt→zdz,findObj→zdA
open Nat renaming le_refl→z6E,lt_of_lt_of_le→z6N,le_trans→z6X,ne_of_lt→z73,lt_succ_self→z7Z,lt_irrefl→z8e,beq→z8D,ne_of_gt→z9c,zero_le→z9s,le_succ→z9t,le_of_lt→z9D,le_of_eq→z9E,lt_succ_of_lt→za4,eq_of_beq_eq_true→zaQ,lt_of_le_of_lt→zbB,rec→zdw,ble→zdx,lt_or_ge→zdB,zero_add→zdD,log2_lt→zdJ
open Int renaming mul_le_mul_of_nonneg_right→z6P,emod_lt_of_pos→z76,emod_nonneg→z7h,ediv_lt_of_lt_mul→z7H,mul_comm→z7M,ediv_emod_unique→z7O,add_mul→z7Y,mul_ediv_add_emod→z84,ediv_nonneg→z87,lt_of_le_of_lt→z93,add_comm→z9h,mul_nonneg→z9i,fdiv_eq_ediv_of_nonneg→z9L,one_mul→za6,le_ediv_iff_mul_le→zaE,le_of_lt→zaG,ediv_one→zbQ,toNat→zcl,le_refl→zcq,mul_pos→zdN
open PySem.Value renaming ref→z6W,none→z7z,bool→zbq,int→zc6,str→zc7,type→zcG,isStrOf→zdb,builtin→zdq,isInt→zdF,bytes→zdG,float→zdH
open Ne renaming symm→z6Z
open False renaming elim→z7c
open True renaming intro→z7r
open Array renaming getElem?_eq_some_iff→z7C,length_toList→z9A,toList_append→zbd,find?_toList→zbr,toList→zdv
open PySem.F renaming excBase_ValueError→z7D,attr_ValueError→z8p,args_tuple_add_2→z8W,entry_tuple_add→z94,slot_tuple_add→z9d,store_ValueError→zad,slot_dict_update→zae,plainAttrs_list→zao,entry_bexc_ga→zaS,args_bexc_ga→zb0
open PyProof.Rows renaming slot_tuple_getitem→z7G,callWith_builtin1→z7J,IntsAre→z8v,callWith_type1→z8E,AllBare→za0,envOfC→zat,subscriptTail_builtinR→zay,entry_tuple_getitem→zbb,subscriptTail→zbk,args_tuple_getitem→zbv,IsTup→zcH,Subscript_→zcO,boot_range→zcW,lt_int→zdO
open ForInStep renaming yield→z7S
open PySem.Builtin.ObjectAttr renaming attrName→z7U,storeInDict→z8q,newKeyGuard→zck,noDictFor→zcv,bindTo→zda
open PySem.Obj renaming mapFields→z7X,isFreed_of_fields→zaP,data_mapFields→zbw
open PySem.W.Looks renaming here→z80,of_pure→zdE,ld→zd_
open PySem.Builtin.Slice renaming slicePlaces→z86,sliceAdjust→z8S,sliceApplied→z9O,slicePartIndex→zct,sliceFields→zd9
open PySem.Builtin.Tuple renaming tupleExact→z8g,tupleItemsOf→z9P,tupleCompareSizes→zc5,tupleIsExact→zcU
open PySem.Builtin.Str renaming occurrences→z8k
open PySem.SeqAt renaming EqAt→z8u,RcAt→zbx,RcNeAt→zdy
open Option renaming map_eq_some_iff→z8w,isSome_iff_exists→z8V,bind_some→z9n,map_some→zaN,getD_none→zcd,getD_some→zcf
open PySem.Calls renaming evalArgs_plain→z8M,Name_function_global→z9K,callWith_builtin→zaz,spliced_cons→zbs,spliced_nil→zbN
open PySem.Str renaming ofString→z8R,empty→z9G
open PySem.Builtin.List renaming listTooLong→z8X
open PySem.Builtin.Range renaming rangeSize→z9a,small→zdQ
open Function renaming comp_def→za2
open PySem.NameKind renaming free→zac
open Nat.succ renaming inj→zaD
open PySem.SeqAt.EqAt renaming same→zaK,int_str→zbo,str_int→zbp,int_int→zbt,of_refs→zby
open PySem.Around renaming frames_deeper→zaY,under→zbL
open Sum renaming inl→zb5,inr→zb6
open PySem.EntryCells renaming newEntry→zbc
open PySem.Paired renaming length→zbh,snoc→zdM
open PySem.Code renaming quiet_builtin→zbE,isFrame→zbM,frames→zdI
open PySem.Heap.Ns1 renaming of_empty→zbK
open PySem.Builtin.BaseException renaming bexcPut→zcp
open List.cons renaming injEq→zcu
open PySem.Builtin renaming bitAnd→zcK
open PySem.SeqAt.RcNeAt renaming lists_lengths→zcS,tuples→zdP,lists→zdU
open PySem.Value.type renaming inj→zcY
open PySem.EqNone renaming eq_none_none→zc_,eq_none_bool→zd0,eq_bool_none→zd1,ne_none_none→zd4,ne_none_bool→zd5,ne_bool_none→zd6,eq_none_int→zdc,eq_none_str→zdd,eq_int_none→zde,eq_str_none→zdg,ne_none_int→zdi,ne_none_str→zdj,ne_int_none→zdk,ne_str_none→zdm
open PySem.EqMixed renaming eq_bool_str→zd2,eq_str_bool→zd3,ne_bool_str→zd7,ne_str_bool→zd8,eq_int_str→zdf,eq_str_int→zdh,ne_int_str→zdl,ne_str_int→zdn
open List.Pairwise renaming imp_of_mem→zdr,nil→zdW,imp→zdX
open PySem.Data renaming fields→zdK
open PySem.IsRange renaming new→zdL
open PySem.Heap.IsSliceOf renaming new→zdR
open PySem.W.WShape renaming has→zdS
open PySem.Within renaming cons→zdV
open PyProof.Rows.IsTup renaming new→zdY
open PySem.W.WData renaming int→zdZ
open PySem.Heap.DictOf renaming new→zea
set_option linter.all false
set_option maxRecDepth 100000
set_option maxHeartbeats 4000000
set_option bootstrap.genMatcherCode false
noncomputable section
namespace PySem.W.Fast
theorem tw11451381561507570882:True:=⟨⟩
theorem tw8845355265354633905:True:=⟨⟩
theorem tw12756419764379704388:True:=⟨⟩
theorem tw17486450533566261226:True:=⟨⟩
theorem tw16671170133222989100:True:=⟨⟩
theorem tw6113616271419529419:True:=⟨⟩
theorem tw17348979981912234217:True:=⟨⟩
theorem tw12241874067616130258:True:=⟨⟩
theorem tw17703566486830755488:True:=⟨⟩
theorem tw12310528068300897227:True:=⟨⟩
theorem tw4344081278468026956:True:=⟨⟩
theorem tw9285425077657584749:True:=⟨⟩
theorem tw8846240644129563426:True:=⟨⟩
theorem tw1905823428552421389:True:=⟨⟩
theorem tw8490525302814277894:True:=⟨⟩
theorem tw17128844102565382216:True:=⟨⟩
theorem tw2090042679098582242:True:=⟨⟩
theorem tw5013362832367080304:True:=⟨⟩
theorem tw12887557281519152464:True:=⟨⟩
theorem tw497598097893379637:True:=⟨⟩
theorem tw13889598311648717477:True:=⟨⟩
theorem tw18203821357297088481:True:=⟨⟩
theorem tw5604274967317549577:True:=⟨⟩
theorem tw4432940483121504618:True:=⟨⟩
theorem tw14447496036644512754:True:=⟨⟩
theorem tw18206191155861464682:True:=⟨⟩
theorem tw852504261644368451:True:=⟨⟩
theorem tw1950072487751337000:True:=⟨⟩
theorem tw11531465243468246987:True:=⟨⟩
theorem tw8736524669240355774:True:=⟨⟩
theorem tw13613163754782417031:True:=⟨⟩
theorem tw8702952783569599518:True:=⟨⟩
theorem tw4668196145758158876:True:=⟨⟩
theorem tw12457171795704446329:True:=⟨⟩
theorem tw16259685504581743638:True:=⟨⟩
theorem tw4459537249733454063:True:=⟨⟩
theorem tw1627791977758058338:True:=⟨⟩
theorem tw2788495364955005277:True:=⟨⟩
theorem tw1987650229611266653:True:=⟨⟩
theorem tw4511761673473693149:True:=⟨⟩
theorem tw16252562935595207999:True:=⟨⟩
theorem tw1813595393595987489:True:=⟨⟩
theorem tw13207627929820569077:True:=⟨⟩
theorem tw8088405025966479831:True:=⟨⟩
theorem tw9317547932639209832:True:=⟨⟩
theorem tw18338669534309292382:True:=⟨⟩
theorem tw5939369330777323410:True:=⟨⟩
theorem tw4125221735046092560:True:=⟨⟩
theorem tw9551719631621545856:True:=⟨⟩
theorem tw4438519424602029480:True:=⟨⟩
theorem tw11917856595162247002:True:=⟨⟩
theorem tw661286320723027394:True:=⟨⟩
theorem tw945463662591624025:True:=⟨⟩
theorem tw5950351201552715097:True:=⟨⟩
theorem tw18259099135022920625:True:=⟨⟩
theorem tw14622159963621551912:True:=⟨⟩
theorem tw14531621263813094599:True:=⟨⟩
theorem tw9540907174660938890:True:=⟨⟩
theorem tw13622490747053226985:True:=⟨⟩
theorem tw5541665202311358149:True:=⟨⟩
theorem tw7716094443624783477:True:=⟨⟩
theorem tw14646329136689849176:True:=⟨⟩
theorem tw12136968638756927562:True:=⟨⟩
theorem tw1793691547064859710:True:=⟨⟩
theorem tw18310313769825349302:True:=⟨⟩
theorem tw9892771254458558109:True:=⟨⟩
theorem tw8042063864634358285:True:=⟨⟩
theorem tw9724801450876979216:True:=⟨⟩
theorem tw2356350442682490818:True:=⟨⟩
theorem tw10041637277627886425:True:=⟨⟩
theorem tw2085000197647971182:True:=⟨⟩
theorem tw153560850060615634:True:=⟨⟩
theorem tw10042775042576560177:True:=⟨⟩
theorem tw4932252954789765629:True:=⟨⟩
theorem tw5611092261424146225:True:=⟨⟩
theorem tw1745441380591272081:True:=⟨⟩
theorem tw5922896525754760373:True:=⟨⟩
theorem tw5331537468923617892:True:=⟨⟩
theorem tw1703114285347808612:True:=⟨⟩
theorem tw15559773093096792894:True:=⟨⟩
theorem tw17672575320267615067:True:=⟨⟩
theorem tw1989898371394890669:True:=⟨⟩
theorem tw2918729928702740032:True:=⟨⟩
theorem tw17566881876454356225:True:=⟨⟩
theorem tw17547031608698553268:True:=⟨⟩
theorem tw7197491034124211433:True:=⟨⟩
theorem tw9496577338732644816:True:=⟨⟩
theorem tw9436481470915361555:True:=⟨⟩
theorem tw4128610521749810689:True:=⟨⟩
theorem tw10690769386450802662:True:=⟨⟩
theorem tw5271971833759011366:True:=⟨⟩
theorem tw14344653928125218749:True:=⟨⟩
theorem tw1977755867442201894:True:=⟨⟩
theorem tw1281014857526618977:True:=⟨⟩
theorem tw7870943013391801598:True:=⟨⟩
theorem tw11264567823725067423:True:=⟨⟩
theorem tw11175321543400421679:True:=⟨⟩
theorem tw6361418210274409379:True:=⟨⟩
theorem tw12414567161208362031:True:=⟨⟩
theorem tw10471870205875001006:True:=⟨⟩
theorem tw16625361576370065925:True:=⟨⟩
theorem tw3016340791255983271:True:=⟨⟩
theorem tw8306909020367541791:True:=⟨⟩
theorem tw664000617163071319:True:=⟨⟩
theorem tw3138896569681109818:True:=⟨⟩
theorem tw9619688516024708598:True:=⟨⟩
theorem tw3250094869157437472:True:=⟨⟩
theorem tw5699221274380563581:True:=⟨⟩
theorem tw3227077408053565103:True:=⟨⟩
theorem tw832339777065156537:True:=⟨⟩
theorem tw8887609967341353072:True:=⟨⟩
theorem tw3288752214554555636:True:=⟨⟩
theorem tw12258337738937895107:True:=⟨⟩
theorem tw646731411152361055:True:=⟨⟩
theorem tw9174237840748427399:True:=⟨⟩
theorem tw11989975414584786186:True:=⟨⟩
theorem tw2513564084615042984:True:=⟨⟩
theorem tw4194396596322701945:True:=⟨⟩
theorem tw8548829708152078490:True:=⟨⟩
theorem tw15918636987410717439:True:=⟨⟩
theorem tw8045372063979021881:True:=⟨⟩
theorem tw9716142390386495948:True:=⟨⟩
theorem tw15078501649181809385:True:=⟨⟩
theorem tw9671286109617661039:True:=⟨⟩
theorem tw9174847878202041056:True:=⟨⟩
theorem tw9751480281354504820:True:=⟨⟩
theorem tw4037154381134263929:True:=⟨⟩
theorem tw8062421284827198075:True:=⟨⟩
theorem tw11067927874168653125:True:=⟨⟩
theorem tw13567598302201378373:True:=⟨⟩
theorem tw14843323919331869842:True:=⟨⟩
theorem tw3786706996786542913:True:=⟨⟩
theorem tw17383774520357296477:True:=⟨⟩
theorem tw14695631800213156167:True:=⟨⟩
theorem tw9299462175788772374:True:=⟨⟩
theorem tw5661501854059402672:True:=⟨⟩
theorem tw7930665170379596664:True:=⟨⟩
theorem tw14102559345787467679:True:=⟨⟩
theorem tw16427854742791505828:True:=⟨⟩
theorem tw15390821968686522810:True:=⟨⟩
theorem tw6735295336712986080:True:=⟨⟩
theorem tw2988368884538797008:True:=⟨⟩
theorem tw2184124811837080654:True:=⟨⟩
theorem tw9920097995224752417:True:=⟨⟩
theorem tw11213116959099664964:True:=⟨⟩
theorem tw5484286624748400373:True:=⟨⟩
theorem tw16251470271737935518:True:=⟨⟩
theorem tw5472432002747250887:True:=⟨⟩
theorem tw12735768143843531322:True:=⟨⟩
theorem tw16679515419953942643:True:=⟨⟩
theorem tw5780296065006006458:True:=⟨⟩
theorem tw10952893391019828665:True:=⟨⟩
theorem tw13205146656779816232:True:=⟨⟩
theorem tw18242905532658067034:True:=⟨⟩
theorem tw1237386144608611860:True:=⟨⟩
theorem tw4383591117551735469:True:=⟨⟩
theorem tw16766242182364455187:True:=⟨⟩
theorem tw3072218623442975821:True:=⟨⟩
theorem tw67218423463082674:True:=⟨⟩
theorem tw14809009878734127376:True:=⟨⟩
theorem tw6556231276297407739:True:=⟨⟩
theorem tw8886623235543035211:True:=⟨⟩
theorem tw1858686508655571472:True:=⟨⟩
theorem tw15232734046973191861:True:=⟨⟩
theorem tw4141867765612510297:True:=⟨⟩
theorem tw8870079467992441046:True:=⟨⟩
theorem tw15017213370260919924:True:=⟨⟩
theorem tw14623464675690657077:True:=⟨⟩
theorem tw3772129409782211914:True:=⟨⟩
theorem tw3317864085547707555:True:=⟨⟩
theorem tw3784029064462770695:True:=⟨⟩
theorem tw3750757112770703448:True:=⟨⟩
theorem tw759055236372365816:True:=⟨⟩
theorem tw13450043982848875385:True:=⟨⟩
theorem tw5484017152453028153:True:=⟨⟩
theorem tw5416712370841858095:True:=⟨⟩
theorem tw67979813327323561:True:=⟨⟩
theorem tw5824239596744382320:True:=⟨⟩
theorem tw6926318292433603525:True:=⟨⟩
theorem tw7073839711458947290:True:=⟨⟩
theorem tw6516891859349553679:True:=⟨⟩
theorem tw8118722086114769197:True:=⟨⟩
theorem tw13820597592729358996:True:=⟨⟩
theorem tw10967997898058451968:True:=⟨⟩
theorem tw6840471411699250604:True:=⟨⟩
theorem tw2672467819266373347:True:=⟨⟩
theorem tw6457489106664803134:True:=⟨⟩
theorem tw17475127711626348546:True:=⟨⟩
theorem tw8139236792683284801:True:=⟨⟩
theorem tw4853098545388094005:True:=⟨⟩
theorem tw6976700215572515487:True:=⟨⟩
theorem tw16344105819847730776:True:=⟨⟩
theorem tw15853671322250378377:True:=⟨⟩
theorem tw14807232300890789656:True:=⟨⟩
theorem tw7599391331745091251:True:=⟨⟩
theorem tw15940318070723240733:True:=⟨⟩
theorem tw5894766946540532362:True:=⟨⟩
theorem tw1008897330997817319:True:=⟨⟩
theorem tw4700882629612050159:True:=⟨⟩
theorem tw7664094099311234810:True:=⟨⟩
theorem tw3961085131500875415:True:=⟨⟩
theorem tw15159051769863089495:True:=⟨⟩
theorem tw245674116736431781:True:=⟨⟩
theorem tw3528318950283418335:True:=⟨⟩
theorem tw9233268453791094725:True:=⟨⟩
theorem tw4285543930898532034:True:=⟨⟩
theorem tw11629757095708620053:True:=⟨⟩
theorem tw5126671638949958996:True:=⟨⟩
theorem tw4225530965730304073:True:=⟨⟩
theorem tw2723065264953943071:True:=⟨⟩
theorem tw8647349797324207096:True:=⟨⟩
theorem tw1015645035867051849:True:=⟨⟩
theorem tw13496712545720824200:True:=⟨⟩
theorem tw3344940189040651678:True:=⟨⟩
theorem tw9570328603166030110:True:=⟨⟩
theorem tw10330228347304594840:True:=⟨⟩
theorem tw10296240112712542424:True:=⟨⟩
theorem tw5169874259459073856:True:=⟨⟩
theorem tw9409016394716595958:True:=⟨⟩
theorem tw14494055765314479077:True:=⟨⟩
theorem tw17355515694044972764:True:=⟨⟩
theorem tw12633551450542474703:True:=⟨⟩
theorem tw15070569282027724859:True:=⟨⟩
theorem tw6019795848139180643:True:=⟨⟩
theorem tw9876495030441636583:True:=⟨⟩
theorem tw15023649355752211260:True:=⟨⟩
theorem tw5879367086615395209:True:=⟨⟩
theorem tw1601982795631716485:True:=⟨⟩
theorem tw5308208745683502809:True:=⟨⟩
theorem tw9948470023790081514:True:=⟨⟩
theorem tw17019779625215643851:True:=⟨⟩
theorem tw11327196647255206469:True:=⟨⟩
theorem tw13968368680526828304:True:=⟨⟩
theorem tw6122993814569145458:True:=⟨⟩
theorem tw8610872882878808345:True:=⟨⟩
theorem tw16823731015278319446:True:=⟨⟩
theorem tw5062677507933433989:True:=⟨⟩
theorem tw2064232379353793483:True:=⟨⟩
theorem tw2978294795181694460:True:=⟨⟩
theorem tw2067724145458969083:True:=⟨⟩
theorem tw3506956058572002685:True:=⟨⟩
theorem tw8062095612988986962:True:=⟨⟩
theorem tw10532917691408309844:True:=⟨⟩
theorem tw7516651050115200028:True:=⟨⟩
theorem tw7724203756288572057:True:=⟨⟩
theorem tw6978880538448173099:True:=⟨⟩
theorem tw5708253230021306378:True:=⟨⟩
theorem tw8474710106886721194:True:=⟨⟩
theorem tw17974505693562716120:True:=⟨⟩
theorem tw199835564237498883:True:=⟨⟩
theorem tw1578345559228371030:True:=⟨⟩
theorem tw7089434509844889948:True:=⟨⟩
theorem tw12711399166439633038:True:=⟨⟩
theorem tw5614147101473549692:True:=⟨⟩
theorem tw11921864124903530715:True:=⟨⟩
theorem tw3265024469440191096:True:=⟨⟩
theorem tw9932783794014334907:True:=⟨⟩
theorem tw3745479364870910051:True:=⟨⟩
theorem tw5089239990089392780:True:=⟨⟩
theorem tw13739828395338598628:True:=⟨⟩
theorem tw16208788656408450731:True:=⟨⟩
theorem tw3337233104780355282:True:=⟨⟩
theorem tw16732468891801085457:True:=⟨⟩
theorem tw3927088754093498395:True:=⟨⟩
theorem tw12517951472341166314:True:=⟨⟩
theorem tw6258622024266655220:True:=⟨⟩
theorem tw3165291302914117602:True:=⟨⟩
theorem tw3074432398489876485:True:=⟨⟩
theorem tw15146302487711818811:True:=⟨⟩
theorem tw12197216890474091302:True:=⟨⟩
theorem tw6558575149510594459:True:=⟨⟩
theorem tw3118836592804762330:True:=⟨⟩
theorem tw2202036119774976588:True:=⟨⟩
theorem tw16150591548569769526:True:=⟨⟩
theorem tw10361478347276720672:True:=⟨⟩
theorem tw12881802725879079166:True:=⟨⟩
theorem tw7389992586260242802:True:=⟨⟩
theorem tw9174107644810307786:True:=⟨⟩
theorem tw18106325917160990226:True:=⟨⟩
theorem tw5840902527685067337:True:=⟨⟩
theorem tw2747124066366102984:True:=⟨⟩
theorem tw3369565699224590893:True:=⟨⟩
theorem tw9087327929181097875:True:=⟨⟩
theorem tw10375691857756637480:True:=⟨⟩
theorem tw14163720619094388232:True:=⟨⟩
theorem tw8076036161628016036:True:=⟨⟩
theorem tw8951697995009098769:True:=⟨⟩
theorem tw15105249965619590936:True:=⟨⟩
theorem tw7534223130153029894:True:=⟨⟩
theorem tw9284663637240837586:True:=⟨⟩
theorem tw9672096749589024426:True:=⟨⟩
theorem tw5174847048542447951:True:=⟨⟩
theorem tw8734215192800242896:True:=⟨⟩
theorem tw17122454789362991435:True:=⟨⟩
theorem tw4359293542757233759:True:=⟨⟩
theorem tw5364751489214572390:True:=⟨⟩
theorem tw16476007992058602311:True:=⟨⟩
theorem tw15543746607518937468:True:=⟨⟩
theorem tw1582991834043938856:True:=⟨⟩
theorem tw682429472976880234:True:=⟨⟩
theorem tw1637276180606894926:True:=⟨⟩
theorem tw6551919289839159836:True:=⟨⟩
theorem tw15933048369879116416:True:=⟨⟩
theorem tw11773646492699709063:True:=⟨⟩
theorem tw5967047952797641385:True:=⟨⟩
theorem tw17974587510219766987:True:=⟨⟩
theorem tw9244954117290672541:True:=⟨⟩
theorem tw8906871431591069297:True:=⟨⟩
theorem tw4792444446672837172:True:=⟨⟩
theorem tw3858084331323415191:True:=⟨⟩
theorem tw7646083502432710178:True:=⟨⟩
theorem tw2172731410158184324:True:=⟨⟩
theorem tw16126185132546013145:True:=⟨⟩
theorem tw6805339078821507348:True:=⟨⟩
theorem tw17133775825244620036:True:=⟨⟩
theorem tw5258038552106798104:True:=⟨⟩
theorem tw12235953407086547804:True:=⟨⟩
theorem tw16907223774429285380:True:=⟨⟩
theorem tw17083208046002775237:True:=⟨⟩
theorem tw7913742446421204920:True:=⟨⟩
theorem tw9149012401094596525:True:=⟨⟩
theorem tw15606178331955553908:True:=⟨⟩
theorem tw2168416744675805796:True:=⟨⟩
theorem tw8584475667351566338:True:=⟨⟩
theorem tw16638612952321676521:True:=⟨⟩
theorem tw10610248052750965215:True:=⟨⟩
theorem tw4454984936734179095:True:=⟨⟩
theorem tw9060390232184456441:True:=⟨⟩
theorem tw17676251878830488639:True:=⟨⟩
theorem tw5901081978793988206:True:=⟨⟩
theorem tw860451856839986756:True:=⟨⟩
theorem tw4706773679677305522:True:=⟨⟩
theorem tw11092509281546632268:True:=⟨⟩
theorem tw15881830552089551968:True:=⟨⟩
theorem tw4675998912558390351:True:=⟨⟩
theorem tw11340332055603182241:True:=⟨⟩
theorem tw3381993220135190102:True:=⟨⟩
theorem tw11432122367735662926:True:=⟨⟩
theorem tw12550441978934020195:True:=⟨⟩
theorem tw5693197666720217629:True:=⟨⟩
theorem tw4084270595585005106:True:=⟨⟩
theorem tw5769834379597473655:True:=⟨⟩
theorem tw16789054360347496081:True:=⟨⟩
theorem tw5729872061481285386:True:=⟨⟩
theorem tw13255632470307557942:True:=⟨⟩
theorem tw955074806464222968:True:=⟨⟩
theorem tw587951041414725702:True:=⟨⟩
theorem tw17379857878113325716:True:=⟨⟩
theorem tw8504058356039031884:True:=⟨⟩
theorem tw5089617428214695066:True:=⟨⟩
theorem tw12522512760344346590:True:=⟨⟩
theorem tw16550816684716009599:True:=⟨⟩
theorem tw13470131905254373725:True:=⟨⟩
theorem tw3121353283389395743:True:=⟨⟩
theorem tw10168823552416377530:True:=⟨⟩
theorem tw12717453507352819537:True:=⟨⟩
theorem tw8649787964945956262:True:=⟨⟩
theorem tw4819164035213562809:True:=⟨⟩
theorem tw5491800785218905744:True:=⟨⟩
theorem tw11262915592546077892:True:=⟨⟩
theorem tw9581820296796817791:True:=⟨⟩
theorem tw11036732395630590668:True:=⟨⟩
theorem tw16191762342260093187:True:=⟨⟩
theorem tw16445727605735301670:True:=⟨⟩
theorem tw17676982249564201201:True:=⟨⟩
theorem tw6976329318359223490:True:=⟨⟩
theorem tw9253401321032556360:True:=⟨⟩
theorem tw14929885293182749703:True:=⟨⟩
theorem tw16845302212379911705:True:=⟨⟩
theorem tw11421296254605347237:True:=⟨⟩
theorem tw18074464384050464061:True:=⟨⟩
theorem tw9479924961604266284:True:=⟨⟩
theorem tw3404090383703938216:True:=⟨⟩
end PySem.W.Fast
section
set_option Elab.async false
namespace L2
open PySem PySem.Spec PyProof.Rows
noncomputable abbrev Key:=Sum Int Str
noncomputable def Z3:Key->Value->Bool
 |.inl k,v=>zdF k v
 |.inr x,v=>zdb x v
noncomputable def z6n (w:z7o):Key->Int
 |.inl k=>hashInt k
 |.inr x=>hashStr w x
theorem zP:∀{k:Key} {v:Value},Z3 k v=true->(∃i t,k=zb5 i/\v=zc6 i t)\/(∃x t,k=zb6 x/\v=zc7 x t)
 |.inl i,v,h=>by
  obtain⟨t,e⟩:=Value.isInt_shape (k:=i) (v:=v) h
  exact .inl ⟨i,t,rfl,e⟩
 |.inr x,v,h=>by
  obtain⟨t,e⟩:=Value.isStrOf_shape (x:=x) (v:=v) h
  exact .inr ⟨x,t,rfl,e⟩
theorem JD(i:Int)(t:Tok):Z3 (.inl i) (.int i t)=true:=by simp[Z3,zdF]
theorem Kf(x:Str)(t:Tok):Z3 (.inr x) (.str x t)=true:=by simp[Z3,zdb]
theorem z2w(a b:Int):decide ((zb5 a:Key)=zb5 b)=(a == b):=by
 by_cases e:a=b
 ·subst e;simp
 ·have h:¬(zb5 a:Key)=zb5 b:=λq=>e (Sum.inl.inj q)
  rw[decide_eq_false h]
  exact (beq_eq_false_iff_ne.mpr e).symm
theorem z2c(a b:Str):decide ((zb6 a:Key)=zb6 b)=decide (a=b):=by
 by_cases e:a=b
 ·subst e;simp
 ·have h:¬(zb6 a:Key)=zb6 b:=λq=>e (Sum.inr.inj q)
  rw[decide_eq_false h,decide_eq_false e]
theorem z45(a:Int)(b:Str):decide ((zb5 a:Key)=zb6 b)=false:=decide_eq_false (λq=>nomatch q)
theorem z2Z(a:Str)(b:Int):decide ((zb6 a:Key)=zb5 b)=false:=decide_eq_false (λq=>nomatch q)
noncomputable def zN(prog:z7a)(w:z7o):PySem.KeyKind prog w Key where
 is:=Z3
 hash:=z6n w
 inj:=λv a b ha hb=>by
  rcases zP ha with⟨i,t,rfl,rfl⟩|⟨x,t,rfl,rfl⟩
  ·rcases zP hb with⟨j,u,rfl,e⟩|⟨y,u,rfl,e⟩
   ·injection e with e1 _;rw[e1]
   ·exact nomatch e
  ·rcases zP hb with⟨j,u,rfl,e⟩|⟨y,u,rfl,e⟩
   ·exact nomatch e
   ·injection e with e1 _;rw[e1]
 byValue:=λk v h=>by
  rcases zP h with⟨i,t,rfl,rfl⟩|⟨x,t,rfl,rfl⟩<;>rfl
 pyHash:=λhv h=>by
  rcases zP hv with⟨i,t,rfl,rfl⟩|⟨x,t,rfl,rfl⟩
  ·exact wpAny_pyHash_int h
  ·exact wpAny_pyHash_str h
 eqBool:=λhu hv h=>by
  rcases zP hu with⟨i,t,rfl,rfl⟩|⟨x,t,rfl,rfl⟩
  ·rcases zP hv with⟨j,u,rfl,rfl⟩|⟨y,u,rfl,rfl⟩
   ·rw[z2w] at h;exact wpAny_eqBool_int h
   ·rw[z45] at h;exact zbo i t y u _ _ _ _ h
  ·rcases zP hv with⟨j,u,rfl,rfl⟩|⟨y,u,rfl,rfl⟩
   ·rw[z2Z] at h;exact zbp x t j u _ _ _ _ h
   ·rw[z2c] at h;exact wpAny_eqBool_str h
 «strs»:=λk x t v h=>by
  rcases zP h with⟨i,u,rfl,e⟩|⟨y,u,rfl,e⟩
  ·exact nomatch e
  ·injection e with e1 _
   subst e1
   cases v<;>rfl
theorem xj(prog:z7a)(w:z7o)(i:Int)(t:Tok):(zN prog w).is (.inl i) (.int i t)=true:=JD i t
theorem xa(prog:z7a)(w:z7o)(x:Str)(t:Tok):(zN prog w).is (.inr x) (.str x t)=true:=Kf x t
end L2
namespace L2
open PySem PySem.Spec PyProof.Rows
inductive V where
 |non|bl (b:Bool)|int (i:Int)|str (x:Str)|byt (b:Array UInt8)|flt (b:UInt64)|ref (a:Addr)|ty (n:String)
 deriving DecidableEq
noncomputable def RelV:V->Value->Prop
 |.non,u=>u=z7z
 |.bl b,u=>u=zbq b
 |.int i,u=>∃t,u=zc6 i t
 |.str x,u=>∃t,u=zc7 x t
 |.byt b,u=>∃t,u=zdG b t
 |.flt b,u=>∃t,u=zdH b t
 |.ref a,u=>u=z6W a
 |.ty n,u=>u=zcG n
abbrev Vals:List V->List Value->Prop:=zas RelV
theorem Vals.length{xs:List V}{us:List Value}(r:Vals xs us):xs.length=us.length:=zbh r
theorem Vals.get:∀{xs:List V} {us:List Value} {i:Nat} {x:V},Vals xs us->xs[i]?=some x->∃u,us[i]?=some u/\RelV x u
 |_,_,_,_,.nil,e=>by simp at e
 |_,_,0,_,.cons r _,e=>by simp at e;subst e;exact⟨_,rfl,r⟩
 |_,_,i+1,x,.cons _ t,e=>by
  obtain⟨u,h1,h2⟩:=Vals.get (i:=i) (x:=x) t (by simpa using e)
  exact⟨u,by simpa using h1,h2⟩
theorem Vals.set{x:V}{u:Value}(r:RelV x u):∀{xs:List V} {us:List Value} (i:Nat),Vals xs us->Vals (xs.set i x) (us.set i u)
 |_,_,_,.nil=>.nil
 |_,_,0,.cons _ t=>.cons r t
 |_,_,i+1,.cons q t=>.cons q (Vals.set r i t)
theorem Vals.append:∀{xs ys:List V} {us ws:List Value},Vals xs us->Vals ys ws->Vals (xs++ys) (us++ws)
 |_,_,_,_,.nil,s=>s
 |_,_,_,_,.cons r t,s=>.cons r (Vals.append t s)
theorem Vals.take:∀{xs:List V} {us:List Value} (n:Nat),Vals xs us->Vals (xs.take n) (us.take n)
 |_,_,0,_=>.nil
 |_,_,_+1,.nil=>.nil
 |_,_,n+1,.cons r t=>.cons r (Vals.take n t)
theorem Vals.drop:∀{xs:List V} {us:List Value} (n:Nat),Vals xs us->Vals (xs.drop n) (us.drop n)
 |_,_,0,r=>r
 |_,_,_+1,.nil=>.nil
 |_,_,n+1,.cons _ t=>Vals.drop n t
noncomputable def RelO:Option V->Option Value->Prop
 |some v,some u=>RelV v u
 |none,none=>True
 |_,_=>False
noncomputable def KV {κ:Type}:List (κ×V)->List (κ×Value)->Prop:=zas λ(p:κ×V) (q:κ×Value)=>p.1=q.1/\RelV p.2 q.2
noncomputable def kV:Key->V
 |.inl i=>.int i
 |.inr x=>.str x
inductive HO where
 |lst (xs:List V)
 |tup (xs:List V)
 |dK (kvs:List (Key×V))|dT (kvs:List (List Key×V))
 |set (S:Int->Bool) (n:Nat)
 |ins (C dx:Addr) (fs:List (Str×V))
 |own (x:Addr)
 |xd (fs:List (Str×V))
 |met (f x:Addr)
 |rng (lo hi:Int)
 |frz (o:Obj) (u:HO)
 |tbl (ps:Array Value)
 |ext (φ:Heap->Prop)
noncomputable abbrev Hp:=Addr->Option HO
noncomputable def upd (H:Hp)(a:Addr)(o:HO):Hp:=λb=>if b=a then some o else H b
theorem z6{H:Hp}{a:Addr}{o:HO}:upd H a o a=some o:=by unfold upd;rw[if_pos rfl]
theorem z7{H:Hp}{a b:Addr}{o:HO}(h:b≠a):upd H a o b=H b:=by unfold upd;rw[if_neg h]
theorem VN{H:Hp}{a:Addr}{o u:HO}:upd (upd H a o) a u=upd H a u:=by
 funext b;unfold upd;split<;>rfl
theorem z5n{H:Hp}{a b:Addr}{o u:HO}(h:H a=some o)(h':H b=some u)(d:o≠u):a≠b:=by
 intro e;subst e;rw[h] at h';exact d (z6A h')
theorem zJ{H:Hp}{a b:Addr}{o:HO}(h:H a=some o)(h':H b=none):a≠b:=by
 intro e;subst e;rw[h] at h';cases h'
section
variable (P:Program)(w:World)
noncomputable def ObjOk(H:Hp)(h:Heap)(a:Addr):HO->Prop
 |.lst xs=>xs.length<=sizeLine/\∃(its:List Value) (n:Nat),Vals xs its/\h.get? a=some {cls:=.type "list",data:=.seq its.toArray n}
 |.tup xs=>xs.length<=sizeLine/\∃its:List Value,Vals xs its/\zcH h a its.toArray
 |.dK kvs=>kvs.length<=sizeLine/\(a == z8r)=false/\∃vs,KV kvs vs/\h.DictOf (zN P w) a vs
 |.dT kvs=>kvs.length<=sizeLine/\(a == z8r)=false/\∃xs:List (List Key×Addr×Value),
   zas (λ(p:List Key×V) (q:List Key×Addr×Value)=>p.1=q.1/\H q.2.1=some (.tup (p.1.map kV))/\RelV p.2 q.2.2) kvs xs/\
   ∃o es ep,h.get? a=some o/\o.ExactDict/\o.data=.dict es ep/\es.toList=xs.map (entryOfKey (zb7 (zN P w)))/\(xs.map (·.1)).Nodup
 |.set S n=>h.SetOf (intKind P w) a S n
 |.ins C dx fs=>H dx=some (.own a)/\fs.length<=1000/\dx≠a/\h.get? a=some (z7R C dx)/\
   ∃mA,h.Ns1 dx mA/\(∀f,RelO (fs.lookup f) (mA f))/\zbG mA (fs.map (·.1))
 |.own _=>∃o,h.get? a=some o
 |.xd fs=>∃mA,h.Ns1 a mA/\∀f,RelO (fs.lookup f) (mA f)
 |.rng lo hi=>∃t u v,h.get? a=some {cls:=.type "range",data:=.fields #[.int lo t,.int hi u,.int 1 v]}
 |.frz o u=>h.get? a=some o/\ObjOk H h a u
 |.tbl ps=>h.get? a=some {cls:=.none,data:=.fields ps}
 |.met f x=>h.get? a=some (z9_ (.ref f) (.ref x))
 |.ext φ=>φ h/\(∃o,h.get? a=some o)/\∀h1 h2:Heap,φ h1->(∀o,h1.get? a=some o->h2.get? a=some o)->φ h2
noncomputable def HOk (H:Hp)(h:Heap):Prop:=∀a o,H a=some o->ObjOk P w H h a o
end
section
variable {P:Program}{w:World}{H H':Hp}{h h':Heap}{a:Addr}{o:HO}
theorem ObjOk.lt(x:ObjOk P w H h a o):a<h.objs.size:=by
 cases o with
 |lst xs=>obtain⟨_,_,_,_,e⟩:=x;exact z6R e
 |tup xs=>obtain⟨_,_,_,p⟩:=x;exact p.lt
 |dK kvs=>obtain⟨_,_,_,_,o,_,_,e,_⟩:=x;exact z6R e
 |dT kvs=>obtain⟨_,_,_,_,o,_,_,e,_⟩:=x;exact z6R e
 |set S n=>obtain⟨o,_,_,_,e,_⟩:=x;exact z6R e
 |ins C dx fs=>obtain⟨_,_,_,e,_⟩:=x;exact z6R e
 |own y=>obtain⟨_,e⟩:=x;exact z6R e
 |xd fs=>obtain⟨_,⟨_,_,_,e,_⟩,_⟩:=x;exact z6R e
 |rng lo hi=>obtain⟨_,_,_,e⟩:=x;exact z6R e
 |frz ob u=>obtain⟨e,_⟩:=x;exact z6R e
 |tbl ps=>exact z6R (show h.get? a=some _ from x)
 |met f y=>exact z6R (show h.get? a=some _ from x)
 |ext φ=>obtain⟨_,⟨_,e⟩,_⟩:=x;exact z6R e
theorem zas.mapP{α β:Type}{F G:α->β->Prop}:∀{l₁:List α} {l₂:List β},zas F l₁ l₂->(∀a b,F a b->G a b)->zas G l₁ l₂
 |_,_,.nil,_=>.nil
 |_,_,.cons r t,f=>.cons (f _ _ r) (zas.mapP t f)
theorem ObjOk.stay(x:ObjOk P w H h a o)(k:∀b u,(b=a\/H b=some (.own a))->h.get? b=some u->h'.get? b=some u)
  (ho:∀b,H b=some (.own a)->H' b=some (.own a)) (ht:∀b xs,H b=some (.tup xs)->H' b=some (.tup xs)):ObjOk P w H' h' a o:=by
 induction o with
 |lst xs=>obtain⟨z,its,n,r,e⟩:=x;exact⟨z,its,n,r,k _ _ (.inl rfl) e⟩
 |tup xs=>obtain⟨z,its,r,ob,e,c⟩:=x;exact⟨z,its,r,ob,k _ _ (.inl rfl) e,c⟩
 |dK kvs=>obtain⟨z,y,vs,r,ob,es,ep,e,c⟩:=x;exact⟨z,y,vs,r,ob,es,ep,k _ _ (.inl rfl) e,c⟩
 |dT kvs=>
  obtain⟨z,y,xs,r,ob,es,ep,e,c⟩:=x
  exact⟨z,y,xs,zas.mapP r λp q z=>⟨z.1,ht _ _ z.2.1,z.2.2⟩,ob,es,ep,k _ _ (.inl rfl) e,c⟩
 |set S n=>obtain⟨ob,es,ep,t,e,c⟩:=x;exact⟨ob,es,ep,t,k _ _ (.inl rfl) e,c⟩
 |ins C dx fs=>
  obtain⟨d,z,ne,e,mA,⟨od,es,ep,e2,c⟩,r⟩:=x
  exact⟨ho _ d,z,ne,k _ _ (.inl rfl) e,mA,⟨od,es,ep,k _ _ (.inr d) e2,c⟩,r⟩
 |own y=>obtain⟨ob,e⟩:=x;exact⟨ob,k _ _ (.inl rfl) e⟩
 |xd fs=>obtain⟨mA,⟨od,es,ep,e,c⟩,r⟩:=x;exact⟨mA,⟨od,es,ep,k _ _ (.inl rfl) e,c⟩,r⟩
 |rng lo hi=>obtain⟨t,u,v,e⟩:=x;exact⟨t,u,v,k _ _ (.inl rfl) e⟩
 |frz ob u ih=>obtain⟨e,q⟩:=x;exact⟨k _ _ (.inl rfl) e,ih q⟩
 |tbl ps=>
  have e:h.get? a=some {cls:=.none,data:=.fields ps}:=x
  show h'.get? a=some {cls:=.none,data:=.fields ps}
  exact k a _ (.inl rfl) e
 |met f y=>
  have e:h.get? a=some (z9_ (.ref f) (.ref y)):=x
  show h'.get? a=some (z9_ (.ref f) (.ref y))
  exact k a _ (.inl rfl) e
 |ext φ=>obtain⟨p,⟨o,e⟩,st⟩:=x;exact⟨st _ _ p λo q=>k _ _ (.inl rfl) q,⟨o,k _ _ (.inl rfl) e⟩,st⟩
theorem HOk.lt(x:HOk P w H h)(e:H a=some o):a<h.objs.size:=(x a o e).lt
theorem HOk.fresh(x:HOk P w H h)(e:h.objs.size<=a):H a=none:=by
 cases q:H a with
 |none=>rfl
 |some u=>exact absurd (z6N (x.lt q) e) (z8e _)
theorem HOk.kept(x:HOk P w H h)(k:∀b u,h.get? b=some u->h'.get? b=some u):HOk P w H h':=λa o e=>
 (x a o e).stay (λb u _ q=>k b u q) (λ_ q=>q) λ_ _ q=>q
theorem HOk.laid(x:HOk P w H h)(k:∀b u,h.get? b=some u->h'.get? b=some u)(hp:h.objs.size<=a)(new:ObjOk P w (upd H a o) h' a o):HOk P w (upd H a o) h':=λb u e=>by
 have hn:=x.fresh hp
 by_cases hb:b=a
 ·subst hb;rw[z6] at e;cases e;exact new
 ·rw[z7 hb] at e
  exact (x b u e).stay (λc v _ q=>k c v q) (λc q=>by rw[z7 (zJ q hn)];exact q) λc xs q=>by rw[z7 (zJ q hn)];exact q
end
noncomputable def Rd (H:Hp)(a:Addr)(u:HO):Prop:=H a=some u\/∃o,H a=some (.frz o u)
theorem Rd.ok{P:z7a}{w:z7o}{H:Hp}{h:Heap}{a:Addr}{u:HO}(r:Rd H a u)(x:HOk P w H h):ObjOk P w H h a u:=by
 rcases r with r|⟨o,r⟩
 ·exact x a u r
 ·obtain⟨_,q⟩:=x a _ r
  exact q
noncomputable def Mut:Option HO->Prop
 |some (.lst _)=>True
 |some (.dK _)=>True
 |some (.dT _)=>True
 |some (.set _ _)=>True
 |some (.ins _ _ _)=>True
 |some (.ext _)=>True
 |_=>False
section
variable {P:Program}{w:World}{H:Hp}{h h':Heap}{x e:Addr}{o':HO}
theorem HOk.write(ok:HOk P w H h)(mu:Mut (H x))(he:e=x\/H e=some (.own x))(k:∀b u,b≠e->h.get? b=some u->h'.get? b=some u)(heo:∃u,h'.get? e=some u)
  (new:ObjOk P w (upd H x o') h' x o'):HOk P w (upd H x o') h':=λb u q=>by
 have nown:∀c y,H c=some (.own y)->c≠x:=λc y r z=>by subst z;rw[r] at mu;exact mu
 have ntup:∀c xs,H c=some (.tup xs)->c≠x:=λc xs r z=>by subst z;rw[r] at mu;exact mu
 by_cases hb:b=x
 ·subst hb;rw[z6] at q;cases q;exact new
 ·rw[z7 hb] at q
  by_cases hbe:b=e
  ·have q':H b=some (.own x):=by
    rcases he with z|z
    ·exact absurd (hbe.trans z) hb
    ·rw[hbe];exact z
   rw[q] at q';cases q'
   obtain⟨v,hv⟩:=heo
   exact⟨v,by rw[hbe];exact hv⟩
  ·refine (ok b u q).stay (λc v hc r=>k c v ?_ r) (λc r=>by rw[z7 (nown c b r)];exact r) λc xs r=>by rw[z7 (ntup c xs r)];exact r
   rcases hc with rfl|hc
   ·exact hbe
   ·rintro rfl
    rcases he with z|z
    ·exact nown c b hc z
    ·rw[hc] at z;cases z;exact hb rfl
end
structure Un(fs ex:List Addr)(H H':Hp)(h h':Heap):Prop where
 keep:∀b o,h.get? b=some o->H b=none->b∉fs->b∉ex->h'.get? b=some o
 slot:∀b o,h.get? b=some o->H b=none->b∈fs->b∉ex->∃sl,h'.get? b=some {o with slots:=sl}
 free:∀b o,h.get? b=some o->H b=none->b∉ex->H' b=none
 there:∀b o,h.get? b=some o->b∉ex->∃o',h'.get? b=some o'
 tups:∀b xs,H b=some (.tup xs)->H' b=some (.tup xs)
 frzs:∀b o u,H b=some (.frz o u)->H' b=some (.frz o u)
 tbls:∀b ps,H b=some (.tbl ps)->∃more,H' b=some (.tbl (ps++more))
section
variable {fs fs' ex ex':List Addr}{H H1 H2:Hp}{h h1 h2 h':Heap}{a x e:Addr}{o:HO}
theorem Un.any(u:Un fs ex H H1 h h1){b:Addr}{ob:Obj}(q:h.get? b=some ob)(n:H b=none)(hx:b∉ex):∃sl,h1.get? b=some {ob with slots:=sl}:=by
 by_cases hb:b∈fs
 ·exact u.slot b ob q n hb hx
 ·exact⟨ob.slots,u.keep b ob q n hb hx⟩
theorem Un.kept(k:∀b u,h.get? b=some u->h'.get? b=some u):Un fs ex H H h h':=
 ⟨λb ob q _ _ _=>k b ob q,λb ob q _ _ _=>⟨ob.slots,k b ob q⟩,λ_ _ _ n _=>n,λb ob q _=>⟨ob,k b ob q⟩,λ_ _ q=>q,λ_ _ _ q=>q,λ_ ps q=>⟨#[],by rw[q];simp⟩⟩
theorem Un.refl:Un fs ex H H h h:=Un.kept λ_ _ q=>q
theorem Un.laid(k:∀b u,h.get? b=some u->h'.get? b=some u)(hp:h.objs.size<=a)(hn:H a=none):Un fs ex H (upd H a o) h h' where
 keep:=λb u q _ _ _=>k b u q
 slot:=λb u q _ _ _=>⟨u.slots,k b u q⟩
 free:=λb u q n _=>by rw[z7 (z73 (z6N (z6R q) hp))];exact n
 there:=λb u q _=>⟨u,k b u q⟩
 tups:=λb xs q=>by rw[z7 (zJ q hn)];exact q
 frzs:=λb u xs q=>by rw[z7 (zJ q hn)];exact q
 tbls:=λb ps q=>⟨#[],by rw[z7 (zJ q hn),q];simp⟩
theorem Un.write(mu:Mut (H x))(he:e=x\/H e=some (.own x))(k:∀b u,b≠e->h.get? b=some u->h'.get? b=some u)(heo:∃u,h'.get? e=some u):Un fs ex H (upd H x o) h h':=by
 have hx:∀b,H b=none->b≠x:=λb n z=>by subst z;rw[n] at mu;exact mu
 have hb:∀b,H b=none->b≠e:=λb n z=>by
  subst z
  rcases he with r|r
  ·exact hx b n r
  ·rw[n] at r;cases r
 have hm:∀b u,H b=some u->¬Mut (some u)->b≠x:=λb u q nm z=>by subst z;rw[q] at mu;exact nm mu
 refine⟨λb u q n _ _=>k b u (hb b n) q,λb u q n _ _=>⟨u.slots,k b u (hb b n) q⟩,λb u q n _=>by rw[z7 (hx b n)];exact n,λb u q _=>?_,
  λb xs q=>by rw[z7 (hm b _ q λz=>z)];exact q,λb u xs q=>by rw[z7 (hm b _ q λz=>z)];exact q,λb ps q=>⟨#[],by rw[z7 (hm b _ q λz=>z),q];simp⟩⟩
 by_cases hbe:b=e
 ·subst hbe;exact heo
 ·exact⟨u,k b u hbe q⟩
end
noncomputable def trk (h:Heap)(H:Hp):List Addr:=(z7_ h.objs.size).filter λa=>(H a).isSome
noncomputable def uv (h:Heap)(H:Hp):Heap:=PySem.W.hideAll h (trk h H)
theorem Jr(h:Heap)(H:Hp):(uv h H).objs.size=h.objs.size:=PySem.W.hideAll_size _ _
theorem Y_{h:Heap}{H:Hp}{b:Addr}{o:Obj}(e:h.get? b=some o)(n:H b=none):(uv h H).get? b=some o:=
 PySem.W.hideAll_get _ e λhm=>by
  have q:(H b).isSome=true:=(z7d.mp hm).2
  rw[n] at q;simp at q
theorem Um{h:Heap}{H:Hp}{b:Addr}{o:Obj}(e:(uv h H).get? b=some o):h.get? b=some o/\H b=none:=by
 have e':h.get? b=some o:=PySem.W.of_hideAll (trk h H) e
 refine⟨e',?_⟩
 cases q:H b with
 |none=>rfl
 |some x=>
  have hm:b∈trk h H:=z7d.mpr ⟨z8H.mpr (z6R e'),by simp[q]⟩
  have z:(uv h H).get? b=none:=PySem.W.hideAll_none (trk h H) hm
  rw[z] at e;cases e
noncomputable def UY(g h:Heap)(L:Addr):List (Addr×Obj):=(z7_ h.objs.size).filterMap λa=>if a=L\/(g.get? a).isSome=true then none else (h.get? a).map λo=>(a,o)
noncomputable def rest (g h:Heap)(L d:Addr):List (Addr×Obj):=(UY g h L).filter λp=>decide (p.1≠d)
end L2
namespace L2
open PySem PySem.Spec PyProof.Rows
structure Mod(K:PySem.W.Frag)(mg:Str->Option Value)(base:Heap):Prop where
 kin:K.In base
 glob:base.Ns z6T mg
 blt:∃mb,base.Ns z9I mb/\∀x:Str,x≠"__name__"->mb x=z8s x
 nolimit:base.NoLimit
structure Cx where
 prog:z7a
 w:z7o
 K:z6C
 mg:Str->Option Value
 base:Heap
 A:z7b
 N:List Str
 s₀:z6z
 H₀:Hp
 env:Env
 outer:List Env
 stack:List Env
 ex:List Addr
 fn:Str->Bool
 calm:Bool
 pn:List (Addr×Obj)
 xe:Value->z6z->Prop
noncomputable def frs(l:List Env):List Addr:=l.filterMap (·.frame)
noncomputable abbrev Cx.fs(X:Cx):List Addr:=frs X.outer
noncomputable def Vis(sc:Scope)(x:Str):Prop:=sc.names.lookup x=some .local\/sc.names.lookup x=some .cell\/sc.names.lookup x=some .free
noncomputable def Loc(sc:Scope)(x:Str):Prop:=sc.names.lookup x=some .local\/sc.names.lookup x=some .cell
noncomputable def Look(env:Env)(h:Heap)(m:Str->Option Value)(x:Str)(u:Value):Prop:=
 (env.kindOf x=some .local/\m x=some u)\/((env.kindOf x=some .cell\/env.kindOf x=some .free)/\∃c,env.cells.lookup x=some c/\h.IsCell c (some u))
structure Cx.Ok(X:Cx):Prop where
 mod:Mod X.K X.mg X.base
 kind:X.env.scope.kind=.function
 glob:X.env.globals=z6T
 blt:X.env.builtins=z9I
 above:X.s₀.heap.objs.size<=X.env.locals
 inj:∀x y c,X.env.cells.lookup x=some c->X.env.cells.lookup y=some c->x=y
 has:∀x,(X.env.kindOf x=some .cell\/X.env.kindOf x=some .free)->∃c,X.env.cells.lookup x=some c
 cab:∀x c,X.fn x=true->X.env.cells.lookup x=some c->X.s₀.heap.objs.size<=c
 hd:X.calm=true->X.A.handled=none
 frames:X.A.frames=some X.stack
 stk:X.stack=X.outer\/(X.stack=X.env::X.outer/\X.env.frame=some X.env.locals)
 exf:∀b∈X.ex,b≠X.env.locals/\∀x c,X.env.cells.lookup x=some c->c≠b
 bs:∀b o,X.base.get? b=some o->X.s₀.heap.get? b=some o/\X.H₀ b=none
 bsz:X.base.objs.size<=X.s₀.heap.objs.size
 noex:∀b o,X.base.get? b=some o->b∉X.ex
 exfs:∀b∈X.ex,b∉X.fs
 funs:X.s₀.heap.FunFrames X.base X.outer
 frf:∀b∈X.fs,X.H₀ b=none
structure Inv(X:Cx)(pins:List (Addr×Obj))(σ:List (Option V))(H:Hp)(s:Shared):Prop where
 ok:X.Ok
 os:s.os=X.s₀.os
 bare:za0 s.gens
 base:Un X.fs X.ex X.H₀ H X.s₀.heap s.heap
 loc:∃m,s.heap.Ns X.env.locals m/\∀(i:Nat) (x:Str) (v:V),X.N[i]?=some x->σ[i]?=some (some v)->Vis X.env.scope x->∃u,RelV v u/\Look X.env s.heap m x u
 cell:∀x c,X.env.cells.lookup x=some c->∃v,s.heap.IsCell c v
 free:H X.env.locals=none
 freeC:∀x c,X.env.cells.lookup x=some c->H c=none\/(X.fn x=false/\∃o u,H c=some (.frz o u))
 pin:∀p∈X.pn++pins,s.heap.get? p.1=some p.2/\H p.1=none/\p.1≠X.env.locals/\p.1∉X.fs/\∀v,p.2.data≠.cell v
 hok:HOk X.prog X.w H s.heap
 len:σ.length=X.N.length
section
variable {X:Cx}{pins:List (Addr×Obj)}{σ:List (Option V)}{H H':Hp}{s:Shared}{h':Heap}
theorem Cx.Ok.nofr(ok:X.Ok){b:Addr}{o:Obj}(e:X.base.get? b=some o):b∉X.fs:=λhb=>by
 have:=(ok.funs.mem hb).1
 rw[e] at this;cases this
theorem Inv.bs(I:Inv X pins σ H s):∀b o,X.base.get? b=some o->s.heap.get? b=some o/\H b=none:=λb o e=>
 ⟨I.base.keep b o (I.ok.bs b o e).1 (I.ok.bs b o e).2 (I.ok.nofr e) (I.ok.noex b o e),I.base.free b o (I.ok.bs b o e).1 (I.ok.bs b o e).2 (I.ok.noex b o e)⟩
theorem Inv.bk(I:Inv X pins σ H s):∀b o,X.base.get? b=some o->s.heap.get? b=some o:=λb o e=>(I.bs b o e).1
theorem Inv.mod(I:Inv X pins σ H s):Mod X.K X.mg X.base:=I.ok.mod
theorem Inv.kIn(I:Inv X pins σ H s):X.K.In s.heap:=I.ok.mod.kin.keeps I.bk
theorem Inv.lt(I:Inv X pins σ H s):X.env.locals<s.heap.objs.size:=let ⟨_,hn,_⟩:=I.loc;hn.lt
theorem Inv.sz(I:Inv X pins σ H s):X.s₀.heap.objs.size<=s.heap.objs.size:=z6X I.ok.above (z9D I.lt)
theorem Inv.nofs(I:Inv X pins σ H s){a:Addr}(h:s.heap.objs.size<=a):a∉X.fs:=λhb=>by
 obtain⟨_,o,ho,_⟩:=I.ok.funs.mem hb
 exact absurd (z6N (z6R ho) (z6X I.sz h)) (z8e _)
theorem Inv.cne(I:Inv X pins σ H s):∀x c,X.env.cells.lookup x=some c->c≠X.env.locals:=λx c e z=>by
 obtain⟨v,o,ho,hd⟩:=I.cell x c e
 obtain⟨m,⟨o',es,ep,ho',hd',_⟩,_⟩:=I.loc
 rw[z,ho'] at ho;cases ho;rw[hd'] at hd;cases hd
theorem Inv.funs(I:Inv X pins σ H s):s.heap.FunFrames X.base X.outer:=by
 have all:∀(l:List Env),(∀b∈frs l,b∈X.fs)->X.s₀.heap.FunFrames X.base l->s.heap.FunFrames X.base l:=by
  intro l
  induction l with
  |nil=>intro _ _;trivial
  |cons env r ih=>
   intro hs hl
   obtain⟨hk,⟨L,o,hf,hn,ho,hd⟩,hr⟩:=hl
   have hL:L∈X.fs:=hs L (by unfold frs;rw[z9z,hf];exact z6U)
   obtain⟨sl,e⟩:=I.base.slot L o ho (I.ok.frf L hL) hL λz=>I.ok.exfs L z hL
   exact⟨hk,⟨L,_,hf,hn,e,hd⟩,ih (λb hb=>hs b (by unfold frs;rw[z9z,hf];exact z6H _ hb)) hr⟩
 exact all X.outer (λ_ hb=>hb) I.ok.funs
theorem Inv.stack(I:Inv X pins σ H s):s.heap.FunFrames X.base X.stack:=by
 rcases I.ok.stk with e|⟨e,hf⟩
 ·rw[e];exact I.funs
 ·rw[e]
  obtain⟨m,hn,_⟩:=I.loc
  refine .cons (by rw[I.ok.kind];decide) hf hn ?_ I.funs
  exact z7q (z6X I.ok.bsz I.ok.above)
theorem Inv.stkSub(I:Inv X pins σ H s):∀b∈frs X.stack,b∈X.env.locals::X.fs:=λb hb=>by
 rcases I.ok.stk with e|⟨e,hf⟩
 ·rw[e] at hb;exact z6H _ hb
 ·rw[e] at hb
  unfold frs at hb
  rw[z9z,hf] at hb
  exact hb
theorem Inv.stkFree(I:Inv X pins σ H s):∀b∈frs X.stack,H b=none:=λb hb=>by
 rcases z75.mp (I.stkSub b hb) with e|hb
 ·rw[e];exact I.free
 ·obtain⟨_,o,ho,_⟩:=I.ok.funs.mem hb
  exact I.base.free b o ho (I.ok.frf b hb) λz=>I.ok.exfs b z hb
theorem Inv.step{g':Array GenState}{t':Nat}{d':Drawn}{ch:List Addr}(I:Inv X pins σ H s)
  (hch:∀b∈ch,(b∈X.ex\/X.s₀.heap.objs.size<=b)/\b≠X.env.locals/\(∀x c,X.env.cells.lookup x=some c->c≠b)/\∀p∈X.pn++pins,p.1≠b)
  (keep:∀b o,b≠X.env.locals->b∉X.fs->b∉ch->s.heap.get? b=some o->H b=none->h'.get? b=some o)
  (slot:∀b o,b≠X.env.locals->b∈X.fs->b∉ch->s.heap.get? b=some o->H b=none->∃sl,h'.get? b=some {o with slots:=sl}) (free:∀b o,b∉ch->s.heap.get? b=some o->H b=none->H' b=none)
  (there:∀b o,b∉ch->s.heap.get? b=some o->∃o',h'.get? b=some o')
  (tups:∀b xs,H b=some (.tup xs)->H' b=some (.tup xs)) (frzs:∀b o u,H b=some (.frz o u)->H' b=some (.frz o u)) (tbls:∀b ps,H b=some (.tbl ps)->∃more,H' b=some (.tbl (ps++more)))
  (ns:∀m,s.heap.Ns X.env.locals m->h'.Ns X.env.locals m) (hok:HOk X.prog X.w H' h') (hg:za0 g') :
  Inv X pins σ H' {s with heap:=h',gens:=g',drawn:=d',toks:=t'}:=by
 have neL:∀b o,X.s₀.heap.get? b=some o->b≠X.env.locals:=λb o e=>z73 (z6N (z6R e) I.ok.above)
 have neC:∀b o,X.s₀.heap.get? b=some o->b∉X.ex->b∉ch:=λb o e hx hb=>by
  rcases (hch b hb).1 with z|z
  ·exact hx z
  ·exact absurd (z6N (z6R e) z) (z8e _)
 have cellK:∀x c,X.env.cells.lookup x=some c->∀v,s.heap.IsCell c v->h'.IsCell c v:=λx c e v ⟨o,ho,hd⟩=>by
  have nch:c∉ch:=λz=>(hch c z).2.2.1 x c e rfl
  rcases I.freeC x c e with f|⟨_,ob,u,f⟩
  ·by_cases hc:c∈X.fs
   ·obtain⟨sl,q⟩:=slot c o (I.cne x c e) hc nch ho f
    exact⟨_,q,hd⟩
   ·exact⟨o,keep c o (I.cne x c e) hc nch ho f,hd⟩
  ·have h1:=(I.hok c _ f).1
   rw[ho] at h1;cases h1
   exact⟨o,(hok c _ (frzs c _ u f)).1,hd⟩
 refine⟨I.ok,I.os,hg,⟨λb o e n hb hx=>?_,λb o e n hb hx=>?_,λb o e n hx=>?_,λb o e hx=>?_,λb xs e=>tups b xs (I.base.tups b xs e),λb o xs e=>frzs b o xs (I.base.frzs b o xs e),λb ps e=>?_⟩,?_,λx c e=>?_,?_,λx c e=>?_,λp hp=>?_,hok,I.len⟩
 ·exact keep b o (neL b o e) hb (neC b o e hx) (I.base.keep b o e n hb hx) (I.base.free b o e n hx)
 ·obtain⟨sl,e1⟩:=I.base.slot b o e n hb hx
  obtain⟨sl',e2⟩:=slot b _ (neL b o e) hb (neC b o e hx) e1 (I.base.free b o e n hx)
  exact⟨sl',e2⟩
 ·obtain⟨o',e1⟩:=I.base.there b o e hx
  exact free b o' (neC b o e hx) e1 (I.base.free b o e n hx)
 ·obtain⟨o',e1⟩:=I.base.there b o e hx
  exact there b o' (neC b o e hx) e1
 ·obtain⟨m1,e1⟩:=I.base.tbls b ps e
  obtain⟨m2,e2⟩:=tbls b _ e1
  exact⟨m1++m2,by rw[e2,Array.append_assoc]⟩
 ·obtain⟨m,hn,hl⟩:=I.loc
  refine⟨m,ns m hn,λi x v e1 e2 e3=>?_⟩
  obtain⟨u,r,l⟩:=hl i x v e1 e2 e3
  refine⟨u,r,?_⟩
  rcases l with l|⟨k,c,e,z⟩
  ·exact .inl l
  ·exact .inr ⟨k,c,e,cellK x c e _ z⟩
 ·obtain⟨v,z⟩:=I.cell x c e
  exact⟨v,cellK x c e v z⟩
 ·obtain⟨m,⟨o,_,_,ho,_⟩,_⟩:=I.loc
  exact free _ o (λz=>(hch _ z).2.1 rfl) ho I.free
 ·obtain⟨v,o,ho,hd⟩:=I.cell x c e
  exact (I.freeC x c e).imp (free c o (λz=>(hch c z).2.2.1 x c e rfl) ho) λ⟨n,ob,u,f⟩=>⟨n,ob,u,frzs c ob u f⟩
 ·obtain⟨e,n,ne,nf,d⟩:=I.pin p hp
  have nch:p.1∉ch:=λz=>(hch p.1 z).2.2.2 p hp rfl
  exact⟨keep p.1 p.2 ne nf nch e n,free p.1 p.2 nch e n,ne,nf,d⟩
theorem Inv.un{t':Nat}(I:Inv X pins σ H s)(u:Un X.fs [] H H' s.heap h')(hok:HOk X.prog X.w H' h'):Inv X pins σ H' {s with heap:=h',toks:=t'}:=by
 obtain⟨m,⟨o,es,ep,ho,r⟩,_⟩:=id I.loc
 obtain⟨sl,hL⟩:=u.any ho I.free (by simp)
 exact I.step (g':=s.gens) (d':=s.drawn) (ch:=[]) (λ_ z=>nomatch z) (λb o _ hb _ e n=>u.keep b o e n hb (by simp)) (λb o _ hb _ e n=>u.slot b o e n hb (by simp)) (λb o _ e n=>u.free b o e n (by simp)) (λb o _ e=>u.there b o e (by simp)) u.tups u.frzs u.tbls (λm' hm=>by
  obtain⟨o',es',ep',ho',r'⟩:=hm
  rw[ho] at ho';cases ho'
  exact⟨_,es',ep',hL,r'⟩) hok I.bare
theorem Inv.call{g':Array GenState}{t':Nat}{d':Drawn}{ch:List Addr}(I:Inv X pins σ H s)(u:Un (frs X.stack) ch H H' s.heap h')(hok:HOk X.prog X.w H' h')(hg:za0 g')
  (hch:∀b∈ch,(b∈X.ex\/X.s₀.heap.objs.size<=b)/\b≠X.env.locals/\(∀x c,X.env.cells.lookup x=some c->c≠b)/\∀p∈X.pn++pins,p.1≠b) :
  Inv X pins σ H' {s with heap:=h',gens:=g',drawn:=d',toks:=t'}:=by
 obtain⟨m,⟨o,es,ep,ho,r⟩,_⟩:=id I.loc
 obtain⟨sl,hL⟩:=u.any ho I.free λz=>(hch _ z).2.1 rfl
 exact I.step (ch:=ch) hch (λb o hL hb hc e n=>u.keep b o e n (λz=>(z75.mp (I.stkSub b z)).elim hL hb) hc) (λb o _ _ hc e n=>u.any e n hc) (λb o hc e n=>u.free b o e n hc) (λb o hc e=>u.there b o e hc) u.tups u.frzs u.tbls (λm' hm=>by
  obtain⟨o',es',ep',ho',r'⟩:=hm
  rw[ho] at ho';cases ho'
  exact⟨_,es',ep',hL,r'⟩) hok hg
theorem Inv.turned{t':Nat}{it:Addr}(I:Inv X pins σ H s)(k:∀b o,b≠it->s.heap.get? b=some o->h'.get? b=some o)(hn:H it=none)(hL:it≠X.env.locals)
  (h1:it∈X.ex\/X.s₀.heap.objs.size<=it) (h2:∀x c,X.env.cells.lookup x=some c->c≠it) (h3:∀p∈X.pn++pins,p.1≠it):Inv X pins σ H {s with heap:=h',toks:=t'}:=by
 have nit:∀b u,H b=some u->b≠it:=λb u e z=>by rw[z,hn] at e;cases e
 refine I.step (g':=s.gens) (d':=s.drawn) (ch:=[it]) (λb hb=>?_) (λb o _ _ hc e _=>k b o (λz=>hc (by simp[z])) e) (λb o _ _ hc e _=>⟨o.slots,k b o (λz=>hc (by simp[z])) e⟩) (λ_ _ _ _ n=>n)
  (λb o hc e=>⟨o,k b o (λz=>hc (by simp[z])) e⟩) (λ_ _ e=>e) (λ_ _ _ e=>e) (λb ps e=>⟨#[],by rw[e];simp⟩) (λm hm=>?_) (λb u e=>?_) I.bare
 ·have e:b=it:=by simpa using hb
  subst e
  exact⟨h1,hL,h2,h3⟩
 ·obtain⟨o,es,ep,ho,r⟩:=hm
  exact⟨o,es,ep,k _ o (z6Z hL) ho,r⟩
 ·refine (I.hok b u e).stay (λc v hc q=>k c v ?_ q) (λ_ q=>q) λ_ _ q=>q
  rcases hc with z|z
  ·rw[z];exact nit b u e
  ·exact nit c _ z
theorem Inv.tok(I:Inv X pins σ H s)(t:Nat):Inv X pins σ H {s with toks:=t}:=I.un (h':=s.heap) (t':=t) Un.refl I.hok
theorem Inv.kept{t':Nat}(I:Inv X pins σ H s)(k:∀b u,s.heap.get? b=some u->h'.get? b=some u):Inv X pins σ H {s with heap:=h',toks:=t'}:=I.un (Un.kept k) (I.hok.kept k)
theorem Inv.laid{a:Addr}{o:HO}{t':Nat}(I:Inv X pins σ H s)(k:∀b u,s.heap.get? b=some u->h'.get? b=some u)(hp:s.heap.objs.size<=a)(new:ObjOk X.prog X.w (upd H a o) h' a o) :
  Inv X pins σ (upd H a o) {s with heap:=h',toks:=t'}:=I.un (Un.laid k hp (I.hok.fresh hp)) (I.hok.laid k hp new)
theorem Inv.write{x e:Addr}{o:HO}{t':Nat}(I:Inv X pins σ H s)(mu:Mut (H x))(he:e=x\/H e=some (.own x))(k:∀b u,b≠e->s.heap.get? b=some u->h'.get? b=some u)(heo:∃u,h'.get? e=some u)
  (new:ObjOk X.prog X.w (upd H x o) h' x o):Inv X pins σ (upd H x o) {s with heap:=h',toks:=t'}:=I.un (Un.write mu he k heo) (I.hok.write mu he k heo new)
theorem Inv.pins_of{pins':List (Addr×Obj)}(I:Inv X pins σ H s)(h:∀p∈pins',s.heap.get? p.1=some p.2/\H p.1=none/\p.1≠X.env.locals/\p.1∉X.fs/\∀v,p.2.data≠.cell v):Inv X pins' σ H s:=
 ⟨I.ok,I.os,I.bare,I.base,I.loc,I.cell,I.free,I.freeC,λp hp=>(z6K.mp hp).elim (λz=>I.pin p (z6G _ z)) (h p),I.hok,I.len⟩
theorem jR{N:List Str}(hN:N.Nodup){i j:Nat}{x:Str}(a:N[i]?=some x)(b:N[j]?=some x):i=j:=by
 obtain⟨h1,e1⟩:=z6v.mp a
 obtain⟨h2,e2⟩:=z6v.mp b
 exact (z9l hN).mp (e1.trans e2.symm)
theorem JC{M:z9J}{A:z7b}{E:Value->z6z->Prop}{i:Nat}{x:Str}{v:V}{u:Value}{Q:Unit->z6z->Prop}(I:Inv X pins σ H s)(hN:X.N.Nodup)(hi:X.N[i]?=some x)(hx:Loc X.env.scope x)(r:RelV v u)
  (h:∀s',Inv X pins (σ.set i (some v)) H s'->(∃a,z7p a s.heap s'.heap/\(a=X.env.locals\/X.env.cells.lookup x=some a))->Q () s') (hf:X.fn x=true\/X.env.scope.names.lookup x=some .local:=by first|exact .inl rfl|exact .inr rfl|assumption):z6I M A (storeName X.env x u) Q E s:=by
 obtain⟨m,hn,hl⟩:=id I.loc
 have hcls:(X.env.scope.kind == .class || (X.env.scope.kind == .module&&X.env.locals != X.env.globals))=false:=by rw[I.ok.kind];rfl
 have hiσ:i<σ.length:=by rw[I.len];exact (z6v.mp hi).1
 have cne:=I.cne
 have tracked:∀{a:Addr} {h':Heap},(∃o,s.heap.get? a=some o/\H a=none)->z7p a s.heap h'->HOk X.prog X.w H h':=λ{a h'} ha hs b ob e=>by
  obtain⟨_,_,hfree⟩:=ha
  refine (I.hok b ob e).stay (λc w' hc q=>(hs.2 c ?_).trans q) (λ_ q=>q) λ_ _ q=>q
  rintro rfl
  rcases hc with rfl|hc
  ·rw[hfree] at e;cases e
  ·rw[hfree] at hc;cases hc
 rcases hx with hk|hk
 ·refine wpAny_storeName_local hk hn (λh' hn' hs=>?_) hcls
  obtain⟨oL,_,_,hoL,_⟩:=id hn
  refine h _ ⟨I.ok,I.os,I.bare,⟨λb o e n hb hx=>?_,λb o e n hb hx=>?_,I.base.free,λb o e hx=>?_,I.base.tups,I.base.frzs,I.base.tbls⟩,⟨_,hn',λj y v' e1 e2 e3=>?_⟩,λy c e=>?_,I.free,I.freeC,λp hp=>?_,tracked ⟨oL,hoL,I.free⟩ hs,by simpa using I.len⟩ ⟨_,hs,.inl rfl⟩
  ·exact (hs.2 b (z73 (z6N (z6R e) I.ok.above))).trans (I.base.keep b o e n hb hx)
  ·obtain⟨sl,e1⟩:=I.base.slot b o e n hb hx
   exact⟨sl,(hs.2 b (z73 (z6N (z6R e) I.ok.above))).trans e1⟩
  ·obtain⟨o',e1⟩:=I.base.there b o e hx
   exact⟨o',(hs.2 b (z73 (z6N (z6R e) I.ok.above))).trans e1⟩
  ·by_cases hj:j=i
   ·subst hj
    rw[hi] at e1;cases e1
    rw[z9b hiσ] at e2
    cases e2
    exact⟨u,r,.inl ⟨hk,by simp⟩⟩
   ·rw[z6D (z6Z hj)] at e2
    obtain⟨u',r',q⟩:=hl j y v' e1 e2 e3
    refine⟨u',r',?_⟩
    rcases q with⟨k,e⟩|⟨k,c,e,z⟩
    ·refine .inl ⟨k,?_⟩
     have:y≠x:=λe=>hj (jR hN e1 (e▸hi))
     simp[this,e]
    ·exact .inr ⟨k,c,e,z.sameBut hs (cne y c e)⟩
  ·obtain⟨w',z⟩:=I.cell y c e
   exact⟨w',z.sameBut hs (cne y c e)⟩
  ·obtain⟨e,n,ne,nf,d⟩:=I.pin p hp
   exact⟨(hs.2 p.1 ne).trans e,n,ne,nf,d⟩
 ·have hfn:X.fn x=true:=by
   rcases hf with z|z
   ·exact z
   ·rw[z] at hk;cases hk
  obtain⟨c,hc⟩:=I.ok.has x (.inl hk)
  obtain⟨w',z⟩:=I.cell x c hc
  refine wpAny_storeName_cell I.ok.kind hk hc z (λh' hc' hs=>?_)
  obtain⟨oc,hoc,hocd⟩:=id z
  refine h {s with heap:=h'} ⟨I.ok,I.os,I.bare,⟨λb o e n hb hx=>?_,λb o e n hb hx=>?_,I.base.free,λb o e hx=>?_,I.base.tups,I.base.frzs,I.base.tbls⟩,⟨m,hn.sameBut hs (z6Z (cne x c hc)),λj y v' e1 e2 e3=>?_⟩,λy c' e=>?_,I.free,I.freeC,λp hp=>?_,tracked ⟨oc,hoc,(I.freeC x c hc).resolve_right λz=>by rw[hfn] at z;cases z.1⟩ hs,by simpa using I.len⟩ ⟨c,hs,.inr hc⟩
  ·exact (hs.2 b (z73 (z6N (z6R e) (I.ok.cab x c hfn hc)))).trans (I.base.keep b o e n hb hx)
  ·obtain⟨sl,e1⟩:=I.base.slot b o e n hb hx
   exact⟨sl,(hs.2 b (z73 (z6N (z6R e) (I.ok.cab x c hfn hc)))).trans e1⟩
  ·obtain⟨o',e1⟩:=I.base.there b o e hx
   exact⟨o',(hs.2 b (z73 (z6N (z6R e) (I.ok.cab x c hfn hc)))).trans e1⟩
  ·by_cases hj:j=i
   ·subst hj
    rw[hi] at e1;cases e1
    rw[z9b hiσ] at e2
    cases e2
    exact⟨u,r,.inr ⟨.inl hk,c,hc,hc'⟩⟩
   ·rw[z6D (z6Z hj)] at e2
    obtain⟨u',r',q⟩:=hl j y v' e1 e2 e3
    refine⟨u',r',?_⟩
    rcases q with q|⟨k,c',e,z'⟩
    ·exact .inl q
    ·refine .inr ⟨k,c',e,z'.sameBut hs ?_⟩
     rintro rfl
     exact hj (jR hN e1 (I.ok.inj _ _ _ e hc▸hi))
  ·by_cases hcc:c'=c
   ·subst hcc;exact⟨_,hc'⟩
   ·obtain⟨w2,z2⟩:=I.cell y c' e
    exact⟨w2,z2.sameBut hs hcc⟩
  ·obtain⟨e,n,ne,nf,d⟩:=I.pin p hp
   refine⟨(hs.2 p.1 ?_).trans e,n,ne,nf,d⟩
   intro q
   rw[q,hoc] at e
   have q':oc=p.2:=z6A e
   exact d w' (by rw[←q'];exact hocd)
theorem yy{M:z9J}{A:z7b}{E:Value->z6z->Prop}{i:Nat}{x:Str}{v:V}{u:Value}{Q:Unit->z6z->Prop}(I:Inv X pins σ H s)(hN:X.N.Nodup)(hi:X.N[i]?=some x)(hx:Loc X.env.scope x)(r:RelV v u)
  (h:∀s',Inv X pins (σ.set i (some v)) H s'->Q () s') (hf:X.fn x=true\/X.env.scope.names.lookup x=some .local:=by first|exact .inl rfl|exact .inr rfl|assumption):z6I M A (storeName X.env x u) Q E s:=
 JC I hN hi hx r (λs' I' _=>h s' I') hf
theorem Inv.call'{s':z6z}{ch:List Addr}(I:Inv X pins σ H s)(ho:s'.os=s.os)(u:Un (frs X.stack) ch H H' s.heap s'.heap)(hok:HOk X.prog X.w H' s'.heap)(hg:za0 s'.gens)
  (hch:∀b∈ch,(b∈X.ex\/X.s₀.heap.objs.size<=b)/\b≠X.env.locals/\(∀x c,X.env.cells.lookup x=some c->c≠b)/\∀p∈X.pn++pins,p.1≠b):Inv X pins σ H' s':=by
 obtain⟨h',g',d',t',o'⟩:=s'
 have e:o'=s.os:=ho
 subst e
 exact I.call (g':=g') (t':=t') (d':=d') u hok hg hch
end
noncomputable abbrev XK:=Value->Option Addr->Hp->Prop
noncomputable abbrev St:=List (Option V)
noncomputable abbrev VK:=V->Hp->Prop
noncomputable abbrev TE:=St->Hp->VK->Prop
noncomputable abbrev TT:=St->Hp->(Bool->Hp->Prop)->Prop
noncomputable abbrev TA:=St->Hp->(List V->Hp->Prop)->Prop
structure Ends where
 nx:St->Hp->Prop
 rt:VK
 bk:St->Hp->Prop:=λ_ _=>False
 ct:St->Hp->Prop:=λ_ _=>False
noncomputable abbrev TS:=Ends->St->Hp->Prop
inductive EP(X:Cx)(pins:List (Addr×Obj))(σ:St)(Q:VK)(u:Value)(s':Shared):Prop where
 |mk (v:V) (H':Hp) (i:Inv X pins σ H' s') (r:RelV v u) (q:Q v H')
inductive TP(X:Cx)(pins:List (Addr×Obj))(σ:St)(Q:Bool->Hp->Prop)(b:Bool)(s':Shared):Prop where
 |mk (H':Hp) (i:Inv X pins σ H' s') (q:Q b H')
inductive AP(X:Cx)(pins:List (Addr×Obj))(σ:St)(Q:List V->Hp->Prop)(us:List Value)(s':Shared):Prop where
 |mk (vs:List V) (H':Hp) (i:Inv X pins σ H' s') (r:Vals vs us) (q:Q vs H')
noncomputable def SP (X:Cx)(pins:List (Addr×Obj))(D:Ends)(f:Flow)(s':z6z):Prop:=
 match f with
 |.next=>∃σ' H',Inv X pins σ' H' s'/\D.nx σ' H'
 |.brk=>∃σ' H',Inv X pins σ' H' s'/\D.bk σ' H'
 |.cont=>∃σ' H',Inv X pins σ' H' s'/\D.ct σ' H'
 |.ret u=>∃v σ' H',Inv X pins σ' H' s'/\RelV v u/\D.rt v H'
noncomputable def PE (X:Cx)(e:Expr)(t:TE):Prop:=
 ∀(pins:List (Addr×Obj)) (s:z6z) (σ:St) (H:Hp) (Q:VK),Inv X pins σ H s->t σ H Q->z6I (z6L X.prog X.w) X.A (eval e X.env) (EP X pins σ Q) X.xe s
noncomputable def PT (X:Cx)(e:Expr)(t:TT):Prop:=
 ∀(pins:List (Addr×Obj)) (s:z6z) (σ:St) (H:Hp) (Q:Bool->Hp->Prop),Inv X pins σ H s->t σ H Q->z6I (z6L X.prog X.w) X.A (isTrue e X.env (eval e X.env)) (TP X pins σ Q) X.xe s
noncomputable def PW (X:Cx)(e:Expr)(t:TT):Prop:=
 ∀(whole:Sem Value) (pins:List (Addr×Obj)) (s:z6z) (σ:St) (H:Hp) (Q:Bool->Hp->Prop),Inv X pins σ H s->t σ H Q->z6I (z6L X.prog X.w) X.A (isTrue e X.env whole) (TP X pins σ Q) X.xe s
theorem PW.pt{X:Cx}{e:Expr}{t:TT}(h:PW X e t):PT X e t:=h _
noncomputable def PA (X:Cx)(es:List Expr)(t:TA):Prop:=
 ∀(pos:Pos) (pins:List (Addr×Obj)) (s:z6z) (σ:St) (H:Hp) (Q:List V->Hp->Prop),Inv X pins σ H s->t σ H Q->z6I (z6L X.prog X.w) X.A (spliced (z8I pos (z7m es X.env))) (AP X pins σ Q) X.xe s
noncomputable def PS (X:Cx)(st:Stmt)(t:TS):Prop:=
 ∀(pins:List (Addr×Obj)) (s:z6z) (σ:St) (H:Hp) (D:Ends),Inv X pins σ H s->t D σ H->z6I (z6L X.prog X.w) X.A (exec st X.env) (SP X pins D) X.xe s
noncomputable def PSs (X:Cx)(st:List Stmt)(t:TS):Prop:=
 ∀(pins:List (Addr×Obj)) (s:z6z) (σ:St) (H:Hp) (D:Ends),Inv X pins σ H s->t D σ H->z6I (z6L X.prog X.w) X.A (execs st X.env) (SP X pins D) X.xe s
theorem thn{α:Type}{t:Sem α}{Q Q':α->z6z->Prop}{M:z9J}{A:z7b}{E:Value->z6z->Prop}{s:z6z}(h:z6I M A t Q E s)(hQ:∀a s,Q a s->Q' a s):z6I M A t Q' E s:=z7f h hQ λ_ _ x=>x
end L2
namespace L2
open PySem PySem.Spec PyProof.Rows
section
variable {X:Cx}
noncomputable def z66 (i:Nat):TE:=λσ H Q=>∃v,σ[i]?=some (some v)/\Q v H
noncomputable def tC (v:V):TE:=λ_ H Q=>Q v H
theorem kG {i:Nat} {x:Str} {pos:Pos} (hN:X.N[i]?=some x) (hv:Vis X.env.scope x) (hd:(x == ("__debug__":Str))=false:=by decide) (hcd:(x == ("__classdict__":Str))=false:=by decide):PE X (.Name x pos) (z66 i):=by
 intro pins s σ H Q I h
 obtain⟨v,e,h⟩:=h
 obtain⟨m,hn,hl⟩:=I.loc
 obtain⟨u,r,l⟩:=hl i x v hN e hv
 have fin:EP X pins σ Q u s:=⟨v,H,I,r,h⟩
 rcases l with⟨hk,hm⟩|⟨hk,c,hc,hcell⟩
 ·exact zcI (wpAny_loadName_local I.ok.kind hk hn hm fin) hd
 ·rcases hk with hk|hk
  ·exact zcI (wpAny_loadName_cell I.ok.kind hk hc hcell fin) hd
  ·exact zcI (wpAny_loadName_free I.ok.kind hk hc hcell fin hcd) hd
theorem z29{i j pos}:PE X (.Constant (.int i) j pos) (tC (.int i)):=λ_ _ _ H _ I h=>wpAny_Constant_int ⟨.int i,H,I.tok _,⟨_,rfl⟩,h⟩
theorem z5l{b j pos}:PE X (.Constant (.bool b) j pos) (tC (.bl b)):=λ_ _ _ H _ I h=>Constant_bool ⟨.bl b,H,I,rfl,h⟩
theorem z2m{j pos}:PE X (.Constant .none j pos) (tC .non):=λ_ _ _ H _ I h=>Constant_none ⟨.non,H,I,rfl,h⟩
theorem Q1{x j pos}:PE X (.Constant (.str x) j pos) (tC (.str x)):=λ_ _ _ H _ I h=>Calls.Constant_str ⟨.str x,H,I.tok _,⟨_,rfl⟩,h⟩
noncomputable def Gl(X:Cx)(x:Str):Prop:=X.env.kindOf x=some .globalImplicit
theorem qV{E:Value->z6z->Prop}{pins:List (Addr×Obj)}{s:z6z}{σ:St}{H:Hp}{x:Str}{u:Value}{pos:Pos}{Q:Value->z6z->Prop}(I:Inv X pins σ H s)(hg:Gl X x)(hm:X.mg x=some u)(h:Q u s)
  (hd:(x == ("__debug__":Str))=false:=by decide):z6I (z6L X.prog X.w) X.A (eval (.Name x pos) X.env) Q E s:=
 z9K I.ok.kind hg (Calls.loadGlobal_global (by rw[I.ok.glob];exact I.mod.glob.keeps I.bk) hm h) hd
theorem jB{E:Value->z6z->Prop}{pins:List (Addr×Obj)}{s:z6z}{σ:St}{H:Hp}{x:Str}{u:Value}{pos:Pos}{Q:Value->z6z->Prop}(I:Inv X pins σ H s)(hg:Gl X x)(hm:X.mg x=none)(hv:z8s x=some u)(h:Q u s)
  (hn:x≠"__name__":=by decide) (hd:(x == ("__debug__":Str))=false:=by decide):z6I (z6L X.prog X.w) X.A (eval (.Name x pos) X.env) Q E s:=by
 obtain⟨mb,h1,h2⟩:=I.mod.blt
 exact z9K I.ok.kind hg (Calls.loadGlobal_builtin (by rw[I.ok.glob];exact I.mod.glob.keeps I.bk) hm (by rw[I.ok.blt];exact h1.keeps I.bk) ((h2 x hn).trans hv) h) hd
theorem VZ {x:Str} {v:V} {u:Value} {pos:Pos} (hg:Gl X x) (hm:X.mg x=some u) (r:RelV v u) (hd:(x == ("__debug__":Str))=false:=by decide):PE X (.Name x pos) (tC v):=
 λ_ _ _ H _ I h=>qV I hg hm ⟨v,H,I,r,h⟩ hd
theorem z0K {x:Str} {v:V} {u:Value} {pos:Pos} (hg:Gl X x) (hm:X.mg x=none) (hv:z8s x=some u) (r:RelV v u) (hn:x≠"__name__":=by decide) (hd:(x == ("__debug__":Str))=false:=by decide):PE X (.Name x pos) (tC v):=
 λ_ _ _ H _ I h=>jB I hg hm hv ⟨v,H,I,r,h⟩ hn hd
variable {a b:Expr}{ta tb:TE}{pos:Pos}
variable {tA tB':TT}{rest:List Expr}
noncomputable def vX (t u:TT):TT:=λσ H Q=>t σ H λc H1=>if c=true then u σ H1 Q else Q false H1
noncomputable def tOr (t u:TT):TT:=λσ H Q=>t σ H λc H1=>if c=true then Q true H1 else u σ H1 Q
noncomputable def vE (t:TT):TT:=λσ H Q=>t σ H λc H1=>Q (!c) H1
theorem UH(ha:PT X a tA):PW X (.BoolOp .And [a] pos) tA:=by
 intro wh pins s σ H Q I h
 refine isTrue_and (thn (ha pins s σ H Q I h) λc s1 e=>?_)
 cases c with
 |true=>exact isTrue_and_nil e
 |false=>exact e
theorem z3p(ha:PT X a tA):PW X (.BoolOp .Or [a] pos) tA:=by
 intro wh pins s σ H Q I h
 refine isTrue_or (thn (ha pins s σ H Q I h) λc s1 e=>?_)
 cases c with
 |false=>exact isTrue_or_nil e
 |true=>exact e
theorem z2X(ha:PT X a tA)(hb:PW X (.BoolOp .And (b::rest) pos) tB'):PW X (.BoolOp .And (a::b::rest) pos) (vX tA tB'):=by
 intro wh pins s σ H Q I h
 refine isTrue_and (thn (ha pins s σ H _ I h) λc s1 ⟨H1,I1,q1⟩=>?_)
 cases c with
 |true=>exact hb wh pins s1 σ H1 Q I1 q1
 |false=>exact⟨H1,I1,q1⟩
theorem z4B(ha:PT X a tA)(hb:PW X (.BoolOp .Or (b::rest) pos) tB'):PW X (.BoolOp .Or (a::b::rest) pos) (tOr tA tB'):=by
 intro wh pins s σ H Q I h
 refine isTrue_or (thn (ha pins s σ H _ I h) λc s1 ⟨H1,I1,q1⟩=>?_)
 cases c with
 |true=>exact⟨H1,I1,q1⟩
 |false=>exact hb wh pins s1 σ H1 Q I1 q1
theorem z4h(ha:PT X a tA):PT X (.UnaryOp .Not a pos) (vE tA):=by
 intro pins s σ H Q I h
 exact isTrue_not (thn (ha pins s σ H (λc H1=>Q (!c) H1) I h) λc s' ⟨H',i,q⟩=>⟨H',i,q⟩)
theorem z3n{op}{t:TE}(h:PE X a t):PE X (.BoolOp op [a] pos) t:=λpins s σ H Q I hw=>BoolOp_one (h pins s σ H Q I hw)
end
end L2
namespace L2
open PySem PySem.Spec PyProof.Rows
noncomputable def SqL (K:z6C)(H:Hp)(a:Addr)(xs:List V):Prop:=
 Rd H a (.lst xs)\/
  ∃(o:Obj) (its:Array Value) (n:Nat),K.lookup a=some o/\o.cls=.type "list"/\o.dict=none/\o.data=.seq its n/\its.size<=sizeLine/\Vals xs its.toList
noncomputable def SqT (K:z6C)(H:Hp)(a:Addr)(xs:List V):Prop:=
 Rd H a (.tup xs)\/
  ∃(o:Obj) (its:Array Value) (n:Nat),K.lookup a=some o/\o.cls=.type "tuple"/\o.data=.seq its n/\its.size<=sizeLine/\Vals xs its.toList
noncomputable def z5Y:Value->Option V
 |.none=>some .non
 |.bool b=>some (.bl b)
 |.int i _=>some (.int i)
 |.str x _=>some (.str x)
 |.bytes b _=>some (.byt b)
 |.float b _=>some (.flt b)
 |.ref a=>some (.ref a)
 |.type n=>some (.ty n)
 |_=>none
theorem RelV.abs{x:V}{u:Value}(r:RelV x u):z5Y u=some x:=by
 cases x with
 |non=>cases r;rfl
 |bl _=>cases r;rfl
 |int _=>obtain⟨t,rfl⟩:=r;rfl
 |str _=>obtain⟨t,rfl⟩:=r;rfl
 |byt _=>obtain⟨t,rfl⟩:=r;rfl
 |flt _=>obtain⟨t,rfl⟩:=r;rfl
 |ref _=>cases r;rfl
 |ty _=>cases r;rfl
theorem RelV.inj{x y:V}{u:Value}(r:RelV x u)(q:RelV y u):x=y:=z6A (r.abs.symm.trans q.abs)
theorem Vals.inj:∀{xs ys:List V} {us:List Value},Vals xs us->Vals ys us->xs=ys
 |_,_,_,.nil,.nil=>rfl
 |_,_,_,.cons r t,.cons r' t'=>by rw[r.inj r',Vals.inj t t']
section
variable {X:Cx}{pins:List (Addr×Obj)}{σ:St}{H:Hp}{s:Shared}{a:Addr}{xs ys:List V}
theorem Inv.list(I:Inv X pins σ H s)(h:SqL X.K H a xs):∃its:List Value,Vals xs its/\PlainL s.heap a its.toArray/\xs.length<=sizeLine:=by
 rcases h with h|⟨o,its,n,hk,hc,hd,hs,hz,r⟩
 ·obtain⟨z,its,n,r,e⟩:=h.ok I.hok
  exact⟨its,r,⟨_,n,e,rfl,rfl,rfl⟩,z⟩
 ·refine⟨its.toList,r,⟨o,n,I.kIn a o hk,hc,hd,by simpa using hs⟩,?_⟩
  have e:=r.length
  simp only[z9A] at e
  omega
theorem Inv.tuple(I:Inv X pins σ H s)(h:SqT X.K H a xs):∃its:List Value,Vals xs its/\zcH s.heap a its.toArray/\xs.length<=sizeLine:=by
 rcases h with h|⟨o,its,n,hk,hc,hs,hz,r⟩
 ·obtain⟨z,its,r,p⟩:=h.ok I.hok
  exact⟨its,r,p,z⟩
 ·refine⟨its.toList,r,⟨o,I.kIn a o hk,hc,n,by simpa using hs⟩,?_⟩
  have e:=r.length
  simp only[z9A] at e
  omega
theorem Inv.list_inj(I:Inv X pins σ H s)(h:SqL X.K H a xs)(h':SqL X.K H a ys):xs=ys:=by
 obtain⟨its,r,⟨o,n,e,_,_,d⟩,_⟩:=I.list h
 obtain⟨its',r',⟨o',n',e',_,_,d'⟩,_⟩:=I.list h'
 rw[e] at e';cases e'
 rw[d] at d'
 injection d' with d1 _
 have:its=its':=by simpa using congrArg zdv d1
 subst this
 exact r.inj r'
theorem Inv.tuple_inj(I:Inv X pins σ H s)(h:SqT X.K H a xs)(h':SqT X.K H a ys):xs=ys:=by
 obtain⟨its,r,⟨o,e,_,n,d⟩,_⟩:=I.tuple h
 obtain⟨its',r',⟨o',e',_,n',d'⟩,_⟩:=I.tuple h'
 rw[e] at e';cases e'
 rw[d] at d'
 injection d' with d1 _
 have:its=its':=by simpa using congrArg zdv d1
 subst this
 exact r.inj r'
end
noncomputable abbrev Cx.wish(X:Cx)(E:Value->z6z->Prop):Cx:={X with xe:=E}
theorem Cx.Ok.wish{X:Cx}(ok:X.Ok)(E:Value->z6z->Prop):(X.wish E).Ok:=
 ⟨ok.mod,ok.kind,ok.glob,ok.blt,ok.above,ok.inj,ok.has,ok.cab,ok.hd,ok.frames,ok.stk,ok.exf,ok.bs,ok.bsz,ok.noex,ok.exfs,ok.funs,ok.frf⟩
theorem Cx.Ok.unwish{X:Cx}{E:Value->z6z->Prop}(ok:(X.wish E).Ok):X.Ok:=
 ⟨ok.mod,ok.kind,ok.glob,ok.blt,ok.above,ok.inj,ok.has,ok.cab,ok.hd,ok.frames,ok.stk,ok.exf,ok.bs,ok.bsz,ok.noex,ok.exfs,ok.funs,ok.frf⟩
section
variable {X:Cx}{pins:List (Addr×Obj)}{σ:St}{H:Hp}{s:Shared}{E:Value->Shared->Prop}
theorem Inv.wish(I:Inv X pins σ H s)(E:Value->z6z->Prop):Inv (X.wish E) pins σ H s:=⟨I.ok.wish E,I.os,I.bare,I.base,I.loc,I.cell,I.free,I.freeC,I.pin,I.hok,I.len⟩
theorem Inv.unwish(I:Inv (X.wish E) pins σ H s):Inv X pins σ H s:=⟨I.ok.unwish,I.os,I.bare,I.base,I.loc,I.cell,I.free,I.freeC,I.pin,I.hok,I.len⟩
theorem SP.unwish{D:Ends}{f:Flow}{s':z6z}(h:SP (X.wish E) pins D f s'):SP X pins D f s':=by
 cases f with
 |next=>obtain⟨σ',H',I,q⟩:=h;exact⟨σ',H',I.unwish,q⟩
 |brk=>obtain⟨σ',H',I,q⟩:=h;exact⟨σ',H',I.unwish,q⟩
 |cont=>obtain⟨σ',H',I,q⟩:=h;exact⟨σ',H',I.unwish,q⟩
 |ret u=>obtain⟨v,σ',H',I,r,q⟩:=h;exact⟨v,σ',H',I.unwish,r,q⟩
end
section
variable {X:Cx}{st:Stmt}{rest:List Stmt}{t u:TS}{e:Expr}{te:TE}{pos:Pos}
noncomputable def z4R:TS:=λD σ H=>D.nx σ H
noncomputable def z6h (t u:TS):TS:=λD σ H=>t {D with nx:=u D} σ H
theorem J5:PSs X [] z4R:=λ_ _ σ H _ I h=>zaH ⟨σ,H,I,h⟩
theorem Qu(h1:PS X st t)(h2:PSs X rest u):PSs X (st::rest) (z6h t u):=by
 intro pins s σ H D I h
 refine zah (thn (h1 pins s σ H {D with nx:=u D} I h) λf s1 q=>?_)
 cases f with
 |next=>
  obtain⟨σ',H',I',q⟩:=q
  exact h2 pins s1 σ' H' D I' q
 |ret v=>exact q
 |brk=>exact q
 |cont=>exact q
theorem Ur(h1:PS X st t):PSs X [st] t:=by
 intro pins s σ H D I h
 refine zah (thn (h1 pins s σ H D I h) λf s1 q=>?_)
 cases f with
 |next=>exact zaH q
 |ret v=>exact q
 |brk=>exact q
 |cont=>exact q
theorem Inv.quiet{pins:List (Addr×Obj)}{σ:St}{H:Hp}{s:z6z}(I:Inv X pins σ H s):interactive X.env=false:=by simp[interactive,I.ok.kind]
noncomputable def z5v(te:TE):TS:=λD σ H=>te σ H λ_ H1=>D.nx σ H1
theorem Vz(he:PE X e te)(hs:z9m e none pos.line X.env=pure false:=by rfl):PS X (.Expr e pos) (z5v te):=by
 intro pins s σ H D I h
 exact wpAny_Expr_any (thn (he pins s σ H _ I h) λv s1 ⟨x,H1,I1,r1,q1⟩=>⟨σ,H1,I1,q1⟩) I.quiet hs
noncomputable def z6m (te:TE):TS:=λD σ H=>te σ H D.rt
theorem z1L(he:PE X e te):PS X (.Return (some e) pos) (z6m te):=by
 intro pins s σ H D I h
 exact wpAny_Return_some (thn (he pins s σ H _ I h) λv s1 ⟨x,H1,I1,r1,q1⟩=>⟨x,σ,H1,I1,r1,q1⟩)
noncomputable def z4t:TS:=λD _ H=>D.rt .non H
theorem UX:PS X (.Return none pos) z4t:=λ_ _ σ H _ I h=>wpAny_Return_none ⟨.non,σ,H,I,rfl,h⟩
noncomputable def z5X (c:TT)(t u:TS):TS:=λD σ H=>c σ H λb H1=>if b=true then t D σ H1 else u D σ H1
theorem z5y{c:Expr}{a b:List Stmt}{tc:TT}(hc:PT X c tc)(ha:PSs X a t)(hb:PSs X b u):PS X (.If c a b pos) (z5X tc t u):=by
 intro pins s σ H D I h
 refine wpAny_If (thn (hc pins s σ H _ I h) λd s1 ⟨H1,I1,q1⟩=>?_)
 cases d with
 |true=>exact ha pins s1 σ H1 D I1 q1
 |false=>exact hb pins s1 σ H1 D I1 q1
end
noncomputable abbrev TG:=V->St->Hp->(St->Hp->Prop)->Prop
noncomputable abbrev TGs:=List V->St->Hp->(St->Hp->Prop)->Prop
noncomputable def PG (X:Cx)(target:Expr)(t:TG):Prop:=
 ∀(pins:List (Addr×Obj)) (s:z6z) (σ:St) (H:Hp) (v:V) (u:Value) (Q:St->Hp->Prop),Inv X pins σ H s->RelV v u->t v σ H Q->
  z6I (z6L X.prog X.w) X.A (za7 target X.env u) (λ_ s'=>∃σ' H',Inv X pins σ' H' s'/\Q σ' H') X.xe s
noncomputable def PGs (X:Cx)(ts:List Expr)(t:TGs):Prop:=
 ∀(pins:List (Addr×Obj)) (s:z6z) (σ:St) (H:Hp) (vs:List V) (us:List Value) (Q:St->Hp->Prop),Inv X pins σ H s->Vals vs us->t vs σ H Q->
  z6I (z6L X.prog X.w) X.A (assignInOrder ((z8f ts X.env).map (·.2)) us) (λ_ s'=>∃σ' H',Inv X pins σ' H' s'/\Q σ' H') X.xe s
noncomputable abbrev z1V:=V->V->V->Hp->(Hp->Prop)->Prop
noncomputable def z2j (X:Cx)(t:z1V):Prop:=
 ∀(pins:List (Addr×Obj)) (s:z6z) (σ:St) (H:Hp) (o i v:V) (ov iv u:Value) (Q:Hp->Prop),Inv X pins σ H s->RelV o ov->RelV i iv->RelV v u->t o i v H Q->
  z6I (z6L X.prog X.w) X.A (setItem ov iv u) (λ_ s'=>∃H',Inv X pins σ H' s'/\Q H') X.xe s
section
variable {X:Cx}{pos:Pos}
noncomputable def V_(i:Nat):TG:=λv σ H Q=>Q (σ.set i (some v)) H
theorem VS{i:Nat}{x:Str}(hN:X.N.Nodup)(hi:X.N[i]?=some x)(hx:Loc X.env.scope x)(hf:X.fn x=true\/X.env.scope.names.lookup x=some .local:=by first|exact .inl rfl|exact .inr rfl|assumption):PG X (.Name x pos) (V_ i):=by
 intro pins s σ H v u Q I r h
 exact wpAny_assign_Name (yy I hN hi hx r (λs' I'=>⟨_,H,I',h⟩) hf)
noncomputable def z4s:TGs:=λvs σ H Q=>vs=[]/\Q σ H
noncomputable def z1m(t:TG)(u:TGs):TGs:=λvs σ H Q=>∃v r,vs=v::r/\t v σ H λσ' H'=>u r σ' H' Q
theorem z0D:PGs X [] z4s:=by
 intro pins s σ H vs us Q I r h
 obtain⟨e,h⟩:=h
 subst e
 cases r
 exact assignInOrder_nil ⟨σ,H,I,h⟩
theorem U6{e:Expr}{es:List Expr}{t:TG}{u:TGs}(h1:PG X e t)(h2:PGs X es u)
  (hs:(z8f (e::es) X.env).map (·.2)=za7 e X.env::(z8f es X.env).map (·.2):=by rfl):PGs X (e::es) (z1m t u):=by
 intro pins s σ H vs us Q I r h
 obtain⟨v,vr,e1,h⟩:=h
 subst e1
 cases r with
 |cons r rr=>
  rw[hs]
  refine assignInOrder_cons (thn (h1 pins s σ H _ _ _ I r h) λ_ s1 ⟨σ1,H1,I1,q1⟩=>?_)
  exact h2 pins s1 σ1 H1 _ _ Q I1 rr q1
noncomputable def z5V (K:z6C)(n:Nat)(t:TGs):TG:=λv σ H Q=>∃a xs,v=.ref a/\SqT K H a xs/\xs.length=n/\t xs σ H Q
theorem z40{es:List Expr}{k:Nat}{t:TGs}{n:Nat}(hc:X.calm=true)(h:PGs X es t)
  (hn:(z8f es X.env).length=n:=by rfl) (hst:(z8f es X.env).findIdx? (·.1)=none:=by rfl):PG X (.Tuple es k pos) (z5V X.K n t):=by
 intro pins s σ H v u Q I r hw
 obtain⟨a,xs,e1,hq,hl,hw⟩:=hw
 subst e1
 cases r
 obtain⟨its,rv,ht,hz⟩:=I.tuple hq
 refine assign_Tuple_tuple (I.ok.hd hc) ht (by simp[hn,←hl,rv.length]) hst λh' hx=>?_
 have I1:Inv X pins σ H {s with heap:=h'}:=I.kept (t':=s.toks) λb o e=>hx b o (z73 (z6R e)) e
 exact h pins _ σ H xs _ Q I1 (by simpa using rv) hw
noncomputable def z64 (to ti:TE)(t:z1V):TG:=λv σ H Q=>to σ H λo H1=>ti σ H1 λi H2=>t o i v H2 λH3=>Q σ H3
theorem Yi{o i:Expr}{to ti:TE}{t:z1V}(ho:PE X o to)(hi:PE X i ti)(hs:z2j X t)
  (ha:∀v,za7 (.Subscript o i pos) X.env v=(do
   let ov ←zcA [v] (eval o X.env)
   let iv ←zcA [v,ov] (eval i X.env)
   standAt pos
   zcA [v,ov,iv] (setItem ov iv v)
   release [v,ov,iv] []):=by intro _;rfl):PG X (.Subscript o i pos) (z64 to ti t):=by
 intro pins s σ H v u Q I r h
 rw[ha]
 refine z6w (z77 (thn (ho pins s σ H _ I h) λov s1 ⟨x,H1,I1,r1,q1⟩=>?_))
 refine z6w (z77 (thn (hi pins s1 σ H1 _ I1 q1) λiv s2 ⟨y,H2,I2,r2,q2⟩=>?_))
 refine z6w (z7x (z6w (z77 (thn (hs pins s2 σ H2 x y v ov iv u _ I2 r1 r2 r q2) λ_ s3 ⟨H3,I3,q3⟩=>?_))))
 exact wpAny_release ⟨σ,H3,I3,q3⟩
noncomputable def z5S (te:TE)(g:TG):TS:=λD σ H=>te σ H λx H1=>g x σ H1 D.nx
theorem WG{tg e:Expr}{te:TE}{g:TG}(he:PE X e te)(hg:PG X tg g)(hs:za8 [tg] e pos.line X.env=pure false:=by rfl)(hw:za9 [tg] e X.env=pure none:=by rfl)
  (h1:(z8f [tg] X.env).map (·.2)=[za7 tg X.env]:=by rfl):PS X (.Assign [tg] e pos) (z5S te g):=by
 intro pins s σ H D I h
 refine wpAny_Assign_stores (thn (he pins s σ H _ I h) λv s1 ⟨x,H1,I1,r1,q1⟩=>?_) hs hw
 rw[h1]
 exact thn (hg pins s1 σ H1 x v _ I1 r1 q1) λ_ s2 q=>q
theorem z3x{i:Nat}{x:Str}{e:Expr}{te:TE}{pos':Pos}(hN:X.N.Nodup)(hi:X.N[i]?=some x)(hx:Loc X.env.scope x)(he:PE X e te)(hs:z9m e (some (.Name x pos')) pos.line X.env=pure false:=by rfl)(hf:X.fn x=true\/X.env.scope.names.lookup x=some .local:=by first|exact .inl rfl|exact .inr rfl|assumption) :
  PS X (.Assign [.Name x pos'] e pos) (z5S te (V_ i)):=by
 intro pins s σ H D I h
 refine wpAny_Assign_Name (thn (he pins s σ H _ I h) λv s1 ⟨y,H1,I1,r1,q1⟩=>?_) hs
 exact yy I1 hN hi hx r1 (λs2 I2=>⟨_,H1,I2,q1⟩) hf
end
structure It where
 go:Nat->Hp->Prop
 yld:Nat->Hp->V->Hp->Prop
 stop:Nat->Hp->Prop
noncomputable def Q0 (X:Cx)(pins:List (Addr×Obj))(H:Hp)(b:Addr):Prop:=
 H b=none/\b≠X.env.locals/\b∉X.fs/\(b∈X.ex\/X.s₀.heap.objs.size<=b)/\(∀x c,X.env.cells.lookup x=some c->c≠b)/\∀p∈X.pn++pins,p.1≠b
theorem Inv.fpOk{X:Cx}{pins:List (Addr×Obj)}{σ:St}{H H':Hp}{s:z6z}{b:Addr}(I:Inv X pins σ H s)(hb:s.heap.objs.size<=b)(hn:H' b=none):Q0 X pins H' b:=by
 refine⟨hn,z9c (z6N I.lt hb),I.nofs hb,.inr (z6X I.sz hb),λx c e z=>?_,λp hp z=>?_⟩
 ·obtain⟨v,q⟩:=I.cell x c e
  exact absurd (z6N q.lt (by rw[z];exact hb)) (z8e _)
 ·exact absurd (z6N (z6R (I.pin p hp).1) (by rw[z];exact hb)) (z8e _)
structure Turn(P:Program)(w:World)(K:PySem.W.Frag)(tg:Expr)(J:It)(fp:List Addr)(it:Addr)(tn:Nat->Heap->Prop):Prop where
 mem:it∈fp
 obj:∀i h,tn i h->∀b∈fp,∃o,h.get? b=some o/\∀v,o.data≠.cell v
 keep:∀i h h',tn i h->(∀b∈fp,∀o,h.get? b=some o->h'.get? b=some o)->tn i h'
 item:∀(X:Cx),X.prog=P->X.w=w->X.K=K->X.calm=true->∀(i:Nat) (pins:List (Addr×Obj)) (s:z6z) (σ:St) (H:Hp) (E:Value->z6z->Prop),Inv X pins σ H s->(∀b∈fp,Q0 X pins H b)->tn i s.heap->J.go i H->
  z6I (z6L P w) X.A (pyNext (.ref it)) (λr s1=>∃u,r=some u/\
   z6I (z6L P w) X.A (z90 tg (.ref it) u) (λ_ s2=>∃x H',Inv X pins σ H' s2/\RelV x u/\J.yld i H x H'/\tn (i+1) s2.heap/\∀b∈fp,H' b=none) E s1) E s
 done:∀(X:Cx),X.prog=P->X.w=w->X.K=K->X.calm=true->∀(i:Nat) (pins:List (Addr×Obj)) (s:z6z) (σ:St) (H:Hp) (E:Value->z6z->Prop),Inv X pins σ H s->(∀b∈fp,Q0 X pins H b)->tn i s.heap->J.stop i H->
  z6I (z6L P w) X.A (pyNext (.ref it)) (λr s1=>r=none/\Inv X pins σ H s1) E s
 self:∀(A:z7b) (i:Nat) (s:z6z) (Q:Value->z6z->Prop) (E:Value->z6z->Prop),tn i s.heap->Q (.ref it) s->z6I (z6L P w) A (pyIter (.ref it)) Q E s
noncomputable abbrev TI:=St->Hp->(It->Hp->Prop)->Prop
noncomputable def PIE (X:Cx)(pins:List (Addr×Obj))(σ:St)(tg:Expr)(R:It->Hp->Prop)(itv:Value)(s2:z6z):Prop:=
 ∃(it:Addr) (fp:List Addr) (tn:Nat->Heap->Prop) (J:It) (H':Hp),itv=.ref it/\Inv X pins σ H' s2/\Turn X.prog X.w X.K tg J fp it tn/\tn 0 s2.heap/\(∀b∈fp,Q0 X pins H' b)/\R J H'
noncomputable def PI (X:Cx)(tg iter:Expr)(wi:TI):Prop:=
 ∀(pins:List (Addr×Obj)) (s:z6z) (σ:St) (H:Hp) (R:It->Hp->Prop),Inv X pins σ H s->wi σ H R->
  z6I (z6L X.prog X.w) X.A (eval iter X.env) (λv s1=>z6I (z6L X.prog X.w) X.A (pyIter v) (PIE X pins σ tg R) X.xe s1) X.xe s
theorem Z5{M:z9J}{A:z7b}{E:Value->z6z->Prop}{s:z6z}{tg:Expr}{it:Addr}{u:Value}{o:Obj}{n:String}{vs:Array Value}{Q:Unit->z6z->Prop}(ho:s.heap.get? it=some o)(hc:o.cls=.type n)(hd:o.data=.fields vs)
    (hn:["enumerate", "zip", "dict_itemiterator", "dict_reverseitemiterator", "odict_iterator", "itertools.zip_longest", "itertools.pairwise"].contains n=false) (hQ:Q () s):z6I M A (z90 tg (.ref it) u) Q E s:=by
  unfold z90
  cases tg <;> first
    |exact z6F hQ
    | (cases u <;> first
        |exact z6F hQ
        | (refine z6w (wpAny_load ho ?_)
           rw[hc, hd]
           show z6I M A (if (["enumerate", "zip", "dict_itemiterator", "dict_reverseitemiterator", "odict_iterator", "itertools.zip_longest", "itertools.pairwise"].contains n&&vs[0]? == some (z7t _))=true then _ else _) Q E s
           rw[if_neg (by intro h;rw[hn, zcJ] at h;cases h)]
           exact z6F hQ))
noncomputable def Itl (K:z6C)(a:Addr):It:=
 ⟨λi H=>∃xs x,SqL K H a xs/\xs[i]?=some x,λi H x H'=>H'=H/\∀xs,SqL K H a xs->xs[i]?=some x,λi H=>∃xs,SqL K H a xs/\xs.length<=i⟩
noncomputable def Itt (K:z6C)(a:Addr):It:=
 ⟨λi H=>∃xs x,SqT K H a xs/\xs[i]?=some x,λi H x H'=>H'=H/\∀xs,SqT K H a xs->xs[i]?=some x,λi H=>∃xs,SqT K H a xs/\xs.length<=i⟩
noncomputable def Itr(lo:Int)(n:Nat):It:=⟨λi _=>i<n,λi H x H'=>H'=H/\x=.int (lo+i),λi _=>n<=i⟩
theorem uG{P:z7a}{w:z7o}{K:z6C}{tg:Expr}(a it:Addr):Turn P w K tg (Itl K a) [it] it (λi h=>h.IsListIter it a i) where
 mem:=by simp
 obj:=λi h st b hb=>by
  have e:b=it:=by simpa using hb
  subst e
  obtain⟨o,e,c,d⟩:=st
  exact⟨o,e,λv z=>by rw[d] at z;cases z⟩
 keep:=λi h h' st k=>st.at λo e=>k it (by simp) o e
 item:=by
  intro X hP hw hK hc i pins s σ H E I hf st hg
  subst hP hw hK
  obtain⟨xs,x,hq,hx⟩:=hg
  obtain⟨its,rv,p,hz⟩:=I.list hq
  obtain⟨u,hu,ru⟩:=rv.get hx
  obtain⟨f0,f1,f2,f3,f4,f5⟩:=hf it (by simp)
  refine wpAny_pyNext_list_item st p.isList (x:=u) (by simpa using hu) λh' st' sb=>?_
  have I1:Inv X pins σ H {s with heap:=h'}:=I.turned (t':=s.toks) (λb o hb e=>(sb.2 b hb).trans e) f0 f1 f3 f4 f5
  obtain⟨o,e,c,d⟩:=id st'
  exact⟨u,rfl,Z5 (s:={s with heap:=h'}) e c d (by decide) ⟨x,H,I1,ru,⟨rfl,λys hy=>by rw[I.list_inj hy hq];exact hx⟩,st',λb hb=>(hf b hb).1⟩⟩
 done:=by
  intro X hP hw hK hc i pins s σ H E I hf st hg
  subst hP hw hK
  obtain⟨xs,hq,hx⟩:=hg
  obtain⟨its,rv,p,hz⟩:=I.list hq
  obtain⟨f0,f1,f2,f3,f4,f5⟩:=hf it (by simp)
  have hl:=rv.length
  exact wpAny_pyNext_list_end (I.ok.hd hc) st p.isList (by simp;omega) λh' eb=>⟨rfl,I.turned (t':=s.toks) (λb o hb e=>eb b o hb e) f0 f1 f3 f4 f5⟩
 self:=λ_ _ _ _ _ st h=>wpAny_pyIter_listiter st h
theorem V1{P:z7a}{w:z7o}{K:z6C}{tg:Expr}(a it:Addr):Turn P w K tg (Itt K a) [it] it (λi h=>h.IsTupleIter it a i) where
 mem:=by simp
 obj:=λi h st b hb=>by
  have e:b=it:=by simpa using hb
  subst e
  obtain⟨o,e,c,d⟩:=st
  exact⟨o,e,λv z=>by rw[d] at z;cases z⟩
 keep:=λi h h' st k=>st.at λo e=>k it (by simp) o e
 item:=by
  intro X hP hw hK hc i pins s σ H E I hf st hg
  subst hP hw hK
  obtain⟨xs,x,hq,hx⟩:=hg
  obtain⟨its,rv,p,hz⟩:=I.tuple hq
  obtain⟨u,hu,ru⟩:=rv.get hx
  obtain⟨f0,f1,f2,f3,f4,f5⟩:=hf it (by simp)
  refine wpAny_pyNext_tuple_item st (show s.heap.IsTuple a its.toArray from p) (x:=u) (by simpa using hu) λh' st' sb=>?_
  have I1:Inv X pins σ H {s with heap:=h'}:=I.turned (t':=s.toks) (λb o hb e=>(sb.2 b hb).trans e) f0 f1 f3 f4 f5
  obtain⟨o,e,c,d⟩:=id st'
  exact⟨u,rfl,Z5 (s:={s with heap:=h'}) e c d (by decide) ⟨x,H,I1,ru,⟨rfl,λys hy=>by rw[I.tuple_inj hy hq];exact hx⟩,st',λb hb=>(hf b hb).1⟩⟩
 done:=by
  intro X hP hw hK hc i pins s σ H E I hf st hg
  subst hP hw hK
  obtain⟨xs,hq,hx⟩:=hg
  obtain⟨its,rv,p,hz⟩:=I.tuple hq
  obtain⟨f0,f1,f2,f3,f4,f5⟩:=hf it (by simp)
  have hl:=rv.length
  exact wpAny_pyNext_tuple_end (I.ok.hd hc) st (show s.heap.IsTuple a its.toArray from p) (by simp;omega) λh' eb=>⟨rfl,I.turned (t':=s.toks) (λb o hb e=>eb b o hb e) f0 f1 f3 f4 f5⟩
 self:=λ_ _ _ _ _ st h=>wpAny_pyIter_tupleiter st h
end L2
namespace L2
open PySem PySem.Spec PyProof.Rows
section
variable {X:Cx}{tg:Expr}
noncomputable def uU(ta:TA):TI:=λσ H R=>ta σ H λvs H1=>∃i j:Int,vs=[.int i,.int j]/\(-(2 ^ 62)<=i/\i<2 ^ 62 /\ -(2 ^ 62)<=j/\j<2 ^ 62)/\R (Itr i (j-i).toNat) H1
noncomputable def z6p (wi:TI)(g:TG)(tb:TS):TS:=λD σ H=>wi σ H λJ H1=>∃W:Nat->Nat->St->Hp->Prop,(∃m,W 0 m σ H1)/\∀i m σ H,W i m σ H->
 (J.stop i H/\D.nx σ H)\/(J.go i H/\∃N:St->Hp->Prop,(∀σ' H',N σ' H'->∃m',m'<m/\W (i+1) m' σ' H')/\∀x H',J.yld i H x H'->g x σ H' λσ2 H2=>tb {D with nx:=N,ct:=N,bk:=D.nx} σ2 H2)
noncomputable def yL(fp:List Addr)(h:Heap):List (Addr×Obj):=fp.filterMap λb=>(h.get? b).map λo=>(b,o)
theorem vi{fp:List Addr}{h:Heap}{b:Addr}{o:Obj}(hb:b∈fp)(e:h.get? b=some o):(b,o)∈yL fp h:=z8t.mpr ⟨b,hb,by rw[e];rfl⟩
theorem Ki{fp:List Addr}{h:Heap}{p:Addr×Obj}(hp:p∈yL fp h):p.1∈fp/\h.get? p.1=some p.2:=by
 obtain⟨b,hb,e⟩:=z8t.mp hp
 cases q:h.get? b with
 |none=>rw[q] at e;cases e
 |some o=>
  rw[q] at e
  have e':(b,o)=p:=z6A e
  subst e'
  exact⟨hb,q⟩
theorem Inv.pinned{pins:List (Addr×Obj)}{σ:St}{H:Hp}{s:z6z}{fp:List Addr}(I:Inv X pins σ H s)(hf:∀b∈fp,Q0 X pins H b)(ho:∀b∈fp,∃o,s.heap.get? b=some o/\∀v,o.data≠.cell v):Inv X (pins++yL fp s.heap) σ H s:=
 I.pins_of λp hp=>(z6K.mp hp).elim (λz=>I.pin p (z6O _ z)) λz=>by
  obtain⟨hb,e⟩:=Ki z
  obtain⟨f0,f1,f2,_⟩:=hf p.1 hb
  obtain⟨o,e',d⟩:=ho p.1 hb
  rw[e] at e';cases e'
  exact⟨e,f0,f1,f2,d⟩
theorem Inv.unpinned{pins pl:List (Addr×Obj)}{σ:St}{H:Hp}{s:z6z}(I:Inv X (pins++pl) σ H s):Inv X pins σ H s:=I.pins_of λp hp=>I.pin p (z6O _ (z6G _ hp))
theorem z4m{iter:Expr}{body:List Stmt}{wi:TI}{g:TG}{tb:TS}{pos:Pos}(hp:zc8 (z6L X.prog X.w) X.A X.env X.xe)(hc:X.calm=true)(hi:PI X tg iter wi)(hg:PG X tg g)(hb:PSs X body tb)
  (hs:∀x,z7A iter X.env x=pure x:=by intro _;rfl):PS X (.For tg iter body [] pos) (z6p wi g tb):=by
 intro pins s σ H D I h
 refine wpAny_For (thn (hi pins s σ H _ I h) λv s1 h1=>thn h1 λitv s2 h2=>?_) hs
 obtain⟨it,fp,tn,J,H2,e,I2,T,st2,f2,W,⟨m0,w0⟩,turn⟩:=h2
 subst e
 have stat:∀{H':Hp},(∀b∈fp,H' b=none)->∀b∈fp,Q0 X pins H' b:=λhn b hb=>⟨hn b hb,(f2 b hb).2⟩
 refine codeAny_forLoop_any (λn s'=>∃i σ' H',Inv X pins σ' H' s'/\tn i s'.heap/\(∀b∈fp,H' b=none)/\W i n σ' H') ?_ m0 ⟨0,σ,H2,I2,st2,λb hb=>(f2 b hb).1,w0⟩
 rintro n s3 ⟨i,σ3,H3,I3,st3,fr3,w3⟩
 rcases turn i n σ3 H3 w3 with⟨stop,qn⟩|⟨go,N,hN,step⟩
 ·refine z91 hp (thn (T.done X rfl rfl rfl hc i pins s3 σ3 H3 X.xe I3 (stat fr3) st3 stop) λr s4 ⟨hr,I4⟩=>?_)
  subst hr
  exact zaH ⟨σ3,H3,I4,qn⟩
 ·refine z91 hp (thn (T.item X rfl rfl rfl hc i pins s3 σ3 H3 X.xe I3 (stat fr3) st3 go) λr s4 ⟨u,hr,h4⟩=>?_)
  subst hr
  refine z91 hp (thn h4 λ_ s5 ⟨x,H5,I5,r5,y5,st5,fr5⟩=>?_)
  have I5':=I5.pinned (stat fr5) (T.obj _ _ st5)
  refine z91 hp (thn (hg _ s5 σ3 H5 x u _ I5' r5 (step x H5 y5)) λ_ s6 ⟨σ6,H6,I6,q6⟩=>?_)
  refine z91 hp (thn (hb _ s6 σ6 H6 _ I6 q6) λf s7 q7=>?_)
  have again:∀{σ7:St} {H7:Hp},Inv X (pins++yL fp s5.heap) σ7 H7 s7->N σ7 H7->∃m,m<n/\∃i σ' H',Inv X pins σ' H' s7/\tn i s7.heap/\(∀b∈fp,H' b=none)/\W i m σ' H':=λ{σ7 H7} I7 n7=>by
   obtain⟨m',hm,w7⟩:=hN σ7 H7 n7
   refine⟨m',hm,i+1,σ7,H7,I7.unpinned,T.keep _ _ _ st5 λb hb o e=>(I7.pin (b,o) (z6O _ (z6O _ (vi hb e)))).1,λb hb=>?_,w7⟩
   obtain⟨o,e,d⟩:=T.obj _ _ st5 b hb
   exact (I7.pin (b,o) (z6O _ (z6O _ (vi hb e)))).2.1
  cases f with
  |next=>obtain⟨σ7,H7,I7,n7⟩:=q7;exact again I7 n7
  |cont=>obtain⟨σ7,H7,I7,n7⟩:=q7;exact again I7 n7
  |brk=>obtain⟨σ7,H7,I7,q7⟩:=q7;exact⟨σ7,H7,I7.unpinned,q7⟩
  |ret v=>obtain⟨x7,σ7,H7,I7,r7,q7⟩:=q7;exact⟨x7,σ7,H7,I7.unpinned,r7,q7⟩
end
end L2
namespace L2
open PySem PySem.Spec PyProof.Rows
noncomputable abbrev R2:=V->V->Hp->VK->Prop
noncomputable def OpR (X:Cx)(f:Value->Value->Sem Value)(r:R2):Prop:=
 ∀(pins:List (Addr×Obj)) (s:z6z) (σ:St) (H:Hp) (x y:V) (v u:Value) (Q:VK),Inv X pins σ H s->RelV x v->RelV y u->r x y H Q->
  z6I (z6L X.prog X.w) X.A (f v u) (EP X pins σ Q) X.xe s
noncomputable def UnR (X:Cx)(f:Value->Sem Value)(r:V->Hp->VK->Prop):Prop:=
 ∀(pins:List (Addr×Obj)) (s:z6z) (σ:St) (H:Hp) (x:V) (v:Value) (Q:VK),Inv X pins σ H s->RelV x v->r x H Q->
  z6I (z6L X.prog X.w) X.A (f v) (EP X pins σ Q) X.xe s
noncomputable def z1z(X:Cx)(f:Value)(r:List V->Hp->VK->Prop):Prop:=
 ∀(pins:List (Addr×Obj)) (s:z6z) (σ:St) (H:Hp) (xs:List V) (us:List Value) (Q:VK),Inv X pins σ H s->Vals xs us->r xs H Q->
  z6I (z6L X.prog X.w) X.A (call f us) (EP X pins σ Q) X.xe s
noncomputable def rI (C:Int->Int->Prop)(g:Int->Int->V):R2:=λx y H Q=>∃i j,x=.int i/\y=.int j/\C i j/\Q (g i j) H
noncomputable def rI0 (g:Int->Int->V):R2:=λx y H Q=>∃i j,x=.int i/\y=.int j/\Q (g i j) H
noncomputable def rU (g:Int->V):V->Hp->VK->Prop:=λx H Q=>∃i,x=.int i/\Q (g i) H
section
variable {X:Cx}{a b c:Expr}{ta tb tc:TE}{pos:Pos}
theorem opI{f:Value->Value->Sem Value}{C:Int->Int->Prop}{g:Int->Int->Int}
  (rule:∀(i j:Int) (t u:Tok) (s:z6z) (Q:Value->z6z->Prop) (E:Value->z6z->Prop),C i j->Q (.int (g i j) s.toks) {s with toks:=s.toks+1}->z6I (z6L X.prog X.w) X.A (f (.int i t) (.int j u)) Q E s) :
  OpR X f (rI C λi j=>.int (g i j)):=by
 intro pins s σ H x y v u Q I rx ry h
 obtain⟨i,j,rfl,rfl,hc,q⟩:=h
 obtain⟨t,rfl⟩:=rx
 obtain⟨t',rfl⟩:=ry
 exact rule i j t t' s _ _ hc ⟨.int (g i j),H,I.tok _,⟨_,rfl⟩,q⟩
theorem z1K{f:Value->Value->Sem Value}{g:Int->Int->Int}
  (rule:∀(i j:Int) (t u:Tok) (s:z6z) (Q:Value->z6z->Prop) (E:Value->z6z->Prop),Q (.int (g i j) s.toks) {s with toks:=s.toks+1}->z6I (z6L X.prog X.w) X.A (f (.int i t) (.int j u)) Q E s) :
  OpR X f (rI0 λi j=>.int (g i j)):=by
 intro pins s σ H x y v u Q I rx ry h
 obtain⟨i,j,rfl,rfl,q⟩:=h
 obtain⟨t,rfl⟩:=rx
 obtain⟨t',rfl⟩:=ry
 exact rule i j t t' s _ _ ⟨.int (g i j),H,I.tok _,⟨_,rfl⟩,q⟩
theorem UP{f:Value->Value->Sem Value}{g:Int->Int->Bool}
  (rule:∀(i j:Int) (t u:Tok) (s:z6z) (Q:Value->z6z->Prop) (E:Value->z6z->Prop),Q (.bool (g i j)) s->z6I (z6L X.prog X.w) X.A (f (.int i t) (.int j u)) Q E s) :
  OpR X f (rI0 λi j=>.bl (g i j)):=by
 intro pins s σ H x y v u Q I rx ry h
 obtain⟨i,j,rfl,rfl,q⟩:=h
 obtain⟨t,rfl⟩:=rx
 obtain⟨t',rfl⟩:=ry
 exact rule i j t t' s _ _ ⟨.bl (g i j),H,I,rfl,q⟩
noncomputable def z68(i j:Int):Prop:=0<=j/\j<=1000000/\i.natAbs<2 ^ 64
noncomputable def CMul(i j:Int):Prop:=(-(2 ^ 64)<i/\i<2 ^ 64)\/(-(2 ^ 64)<j/\j<2 ^ 64)
theorem CMul.ok{i j:Int}(h:CMul i j):IntMulOk i j:=by
 rcases h with⟨h1,h2⟩|⟨h1,h2⟩
 ·exact .of_left (intBits_le_64 h1 h2)
 ·exact .of_right (intBits_le_64 h1 h2)
theorem WX(k:Nat):(0:Int)<=2 ^ k:=by
 rw[two_pow_cast]
 exact Int.natCast_nonneg _
theorem z2G:OpR X (z88 .Add) (rI0 λi j=>.int (i+j)):=z1K λ_ _ _ _ _ _ _ q=>add_int q
theorem z2R:OpR X (z88 .Sub) (rI0 λi j=>.int (i-j)):=z1K λ_ _ _ _ _ _ _ q=>sub_int q
theorem z44:OpR X (z88 .Mult) (rI CMul λi j=>.int (i * j)):=opI λ_ _ _ _ _ _ _ hc q=>mul_int q hc.ok
theorem z26:OpR X (z88 .Mod) (rI (λ_ j=>0<j) λi j=>.int (i % j)):=opI λi j _ _ _ _ _ hc q=>by
 have h1:(0:Int)<j:=hc
 exact mod_int' (by omega) (by rw[Int.fmod_eq_emod_of_nonneg i (by omega)];exact q)
theorem z28:OpR X (z88 .Pow) (rI z68 λi j=>.int (i ^ j.toNat)):=opI λ_ _ _ _ _ _ _ hc q=>pow_int_small hc.1 hc.2.1 hc.2.2 q
theorem z1G:OpR X (z88 .RShift) (rI (λ_ j=>0<=j) λi j=>.int (i / 2 ^ j.toNat)):=opI λi j _ _ _ _ _ hc q=>
 rshift_int hc (by rw[z9L i (WX _)];exact q)
theorem z3_:OpR X (z88 .BitAnd) (rI0 λi j=>.int (zcK i j)):=z1K λ_ _ _ _ _ _ _ q=>and_int q
theorem unI{f:Value->Sem Value}{g:Int->Int}
  (rule:∀(i:Int) (t:Tok) (s:z6z) (Q:Value->z6z->Prop) (E:Value->z6z->Prop),Q (.int (g i) s.toks) {s with toks:=s.toks+1}->z6I (z6L X.prog X.w) X.A (f (.int i t)) Q E s) :
  UnR X f (rU λi=>.int (g i)):=by
 intro pins s σ H x v Q I rx h
 obtain⟨i,rfl,q⟩:=h
 obtain⟨t,rfl⟩:=rx
 exact rule i t s _ _ ⟨.int (g i),H,I.tok _,⟨_,rfl⟩,q⟩
theorem z46:UnR X (unaryOp .USub) (rU λi=>.int (-i)):=unI λ_ _ _ _ _ q=>neg_int q
end
noncomputable def z0w:V->V->Bool
 |.non,.non=>true|.non,.int _=>true|.int _,.non=>true|.non,.bl _=>true|.bl _,.non=>true|.non,.str _=>true|.str _,.non=>true
 |.int _,.int _=>true|.bl _,.bl _=>true|.str _,.str _=>true|.byt _,.byt _=>true
 |.int _,.str _=>true|.str _,.int _=>true|.bl _,.str _=>true|.str _,.bl _=>true
 |_,_=>false
noncomputable def rEq:R2:=λx y H Q=>z0w x y=true/\Q (.bl (decide (x=y))) H
noncomputable def rNe:R2:=λx y H Q=>z0w x y=true/\Q (.bl (!decide (x=y))) H
theorem Jh{i j:Int}:decide (V.int i=V.int j)=(i == j):=by
 rw[z9u]
 simp
theorem XC{i j:Bool}:decide (V.bl i=V.bl j)=(i == j):=by
 rw[z9u]
 simp
theorem VR{i j:Str}:decide (V.str i=V.str j)=(i == j):=by
 rw[z9u]
 simp
theorem Ji{i j:Array UInt8}:decide (V.byt i=V.byt j)=(i.toList == j.toList):=by
 rw[z9u]
 cases i
 cases j
 simp
section
variable {X:Cx}{a b c:Expr}{ta tb tc:TE}{pos:Pos}
theorem zx{pins:List (Addr×Obj)}{σ:St}{H:Hp}{s:z6z}{Q:VK}{k k':Bool}(I:Inv X pins σ H s)(q:Q (.bl k) H)(e:k=k'):EP X pins σ Q (.bool k') s:=by
 subst e
 exact⟨.bl k,H,I,rfl,q⟩
theorem z5i:OpR X (z7u .Eq) rEq:=by
 intro pins s σ H x y v u Q I rx ry h
 obtain⟨hs,q⟩:=h
 cases x with
 |non=>
  cases rx
  cases y with
  |non=>cases ry;exact zc_ (zx I q (by simp))
  |bl j=>cases ry;exact zd0 (zx I q (by simp))
  |int j=>obtain⟨t',rfl⟩:=ry;exact zdc (zx I q (by simp))
  |str j=>obtain⟨t',rfl⟩:=ry;exact zdd (zx I q (by simp))
  |_=>exact absurd (show false=true from hs) z6_
 |bl i=>
  cases rx
  cases y with
  |non=>cases ry;exact zd1 (zx I q (by simp))
  |bl j=>cases ry;exact eq_bool (zx I q XC)
  |str j=>obtain⟨t',rfl⟩:=ry;exact zd2 (zx I q (by simp))
  |_=>exact absurd (show false=true from hs) z6_
 |int i=>
  obtain⟨t,rfl⟩:=rx
  cases y with
  |non=>cases ry;exact zde (zx I q (by simp))
  |int j=>obtain⟨t',rfl⟩:=ry;exact eq_int (zx I q Jh)
  |str j=>obtain⟨t',rfl⟩:=ry;exact zdf (zx I q (by simp))
  |_=>exact absurd (show false=true from hs) z6_
 |str i=>
  obtain⟨t,rfl⟩:=rx
  cases y with
  |non=>cases ry;exact zdg (zx I q (by simp))
  |bl j=>cases ry;exact zd3 (zx I q (by simp))
  |int j=>obtain⟨t',rfl⟩:=ry;exact zdh (zx I q (by simp))
  |str j=>obtain⟨t',rfl⟩:=ry;exact eq_str (zx I q VR)
  |_=>exact absurd (show false=true from hs) z6_
 |byt i=>
  obtain⟨t,rfl⟩:=rx
  cases y with
  |byt j=>obtain⟨t',rfl⟩:=ry;exact PySem.W.eq_bytes (zx I q Ji)
  |_=>exact absurd (show false=true from hs) z6_
 |_=>cases y<;>exact absurd (show false=true from hs) z6_
theorem z5H:OpR X (z7u .NotEq) rNe:=by
 intro pins s σ H x y v u Q I rx ry h
 obtain⟨hs,q⟩:=h
 cases x with
 |non=>
  cases rx
  cases y with
  |non=>cases ry;exact zd4 (zx I q (by simp))
  |bl j=>cases ry;exact zd5 (zx I q (by simp))
  |int j=>obtain⟨t',rfl⟩:=ry;exact zdi (zx I q (by simp))
  |str j=>obtain⟨t',rfl⟩:=ry;exact zdj (zx I q (by simp))
  |_=>exact absurd (show false=true from hs) z6_
 |bl i=>
  cases rx
  cases y with
  |non=>cases ry;exact zd6 (zx I q (by simp))
  |bl j=>cases ry;exact ne_bool (zx I q (congrArg not XC))
  |str j=>obtain⟨t',rfl⟩:=ry;exact zd7 (zx I q (by simp))
  |_=>exact absurd (show false=true from hs) z6_
 |int i=>
  obtain⟨t,rfl⟩:=rx
  cases y with
  |non=>cases ry;exact zdk (zx I q (by simp))
  |int j=>obtain⟨t',rfl⟩:=ry;exact ne_int (zx I q (congrArg not Jh))
  |str j=>obtain⟨t',rfl⟩:=ry;exact zdl (zx I q (by simp))
  |_=>exact absurd (show false=true from hs) z6_
 |str i=>
  obtain⟨t,rfl⟩:=rx
  cases y with
  |non=>cases ry;exact zdm (zx I q (by simp))
  |bl j=>cases ry;exact zd8 (zx I q (by simp))
  |int j=>obtain⟨t',rfl⟩:=ry;exact zdn (zx I q (by simp))
  |str j=>obtain⟨t',rfl⟩:=ry;exact ne_str (zx I q (congrArg not VR))
  |_=>exact absurd (show false=true from hs) z6_
 |byt i=>
  obtain⟨t,rfl⟩:=rx
  cases y with
  |byt j=>obtain⟨t',rfl⟩:=ry;exact PySem.W.ne_bytes (zx I q (congrArg not Ji))
  |_=>exact absurd (show false=true from hs) z6_
 |_=>cases y<;>exact absurd (show false=true from hs) z6_
theorem z4K:OpR X (z7u .Lt) (rI0 λi j=>.bl (decide (i<j))):=UP λ_ _ _ _ _ _ _ q=>zdO q
theorem z5a:OpR X (z7u .LtE) (rI0 λi j=>.bl (decide (i<=j))):=UP λ_ _ _ _ _ _ _ q=>le_int q
theorem z58:OpR X (z7u .Gt) (rI0 λi j=>.bl (decide (j<i))):=UP λ_ _ _ _ _ _ _ q=>gt_int q
theorem z54:OpR X (z7u .GtE) (rI0 λi j=>.bl (decide (j<=i))):=UP λ_ _ _ _ _ _ _ q=>ge_int q
theorem K1:OpR X (z7u .In) (λx y H Q=>∃i j,x=.str i/\y=.str j/\Q (.bl (!(z8k j i 0 j.length 1).isEmpty)) H):=by
 intro pins s σ H x y v u Q I rx ry h
 obtain⟨i,j,rfl,rfl,q⟩:=h
 obtain⟨t,rfl⟩:=rx
 obtain⟨t',rfl⟩:=ry
 exact in_str (zx I q rfl)
theorem z32:OpR X (z7u .Is) (λx y H Q=>y=.non/\Q (.bl (decide (x=.non))) H):=by
 intro pins s σ H x y v u Q I rx ry h
 obtain⟨rfl,q⟩:=h
 cases ry
 refine is_none_gen (zx I q ?_)
 cases x<;>first
  |(cases rx;rfl)
  |(obtain⟨t,rfl⟩:=rx;rfl)
theorem Uw:OpR X (z7u .IsNot) (λx y H Q=>y=.non/\Q (.bl (!decide (x=.non))) H):=by
 intro pins s σ H x y v u Q I rx ry h
 obtain⟨rfl,q⟩:=h
 cases ry
 refine isnot_none_gen (zx I q ?_)
 cases x<;>first
  |(cases rx;rfl)
  |(obtain⟨t,rfl⟩:=rx;rfl)
theorem Q2:OpR X (z7u .NotIn) (λx y H Q=>∃i j,x=.str i/\y=.str j/\Q (.bl (!(!(z8k j i 0 j.length 1).isEmpty))) H):=by
 intro pins s σ H x y v u Q I rx ry h
 obtain⟨i,j,rfl,rfl,q⟩:=h
 obtain⟨t,rfl⟩:=rx
 obtain⟨t',rfl⟩:=ry
 exact notIn_str (zx I q rfl)
theorem Xt(b:Expr){op:z85}(h:op≠.In:=by decide)(h2:op≠.NotIn:=by decide):zbi op b=false:=by
 have e1:(op == CmpOp.In)=false:=by cases op<;>first|rfl|exact absurd rfl h
 have e2:(op == CmpOp.NotIn)=false:=by cases op<;>first|rfl|exact absurd rfl h2
 cases b<;>simp[zbi,e1,e2]
theorem y_:(sizeLine:Nat)<2 ^ 63:=by rw[z7N];decide
theorem WL:OpR X (z88 .Add) (λx y H Q=>∃i j,x=.str i/\y=.str j/\i.length+j.length<=sizeLine/\Q (.str (i++j)) H):=by
 intro pins s σ H x y v u Q I rx ry h
 obtain⟨i,j,rfl,rfl,hz,q⟩:=h
 obtain⟨t,rfl⟩:=rx
 obtain⟨t',rfl⟩:=ry
 exact add_str (λt' tk=>⟨.str (i++j),H,I.tok _,⟨_,rfl⟩,q⟩) hz
theorem vals1{x:V}{us:List Value}(r:Vals [x] us):∃u,us=[u]/\RelV x u:=by
 cases r with
 |cons r1 r2=>cases r2;exact⟨_,rfl,r1⟩
theorem vals2{x y:V}{us:List Value}(r:Vals [x,y] us):∃u w',us=[u,w']/\RelV x u/\RelV y w':=by
 cases r with
 |cons r1 r2=>
  cases r2 with
  |cons r3 r4=>cases r4;exact⟨_,_,rfl,r1,r3⟩
end
end L2
namespace L2
open PySem PySem.Spec PyProof.Rows
structure ObjM(h:Heap)(x dx C:Addr)(mA:Str->Option Value):Prop where
 obj:h.get? x=some (z7R C dx)
 ns:h.Ns1 dx mA
 ne:dx≠x
theorem Zs{h:Heap}{dx:Addr}{mA:Str->Option Value}(n:h.Ns1 dx mA):∃od,h.get? dx=some od/\∀name,z9M name od=some (mA name):=by
 obtain⟨o,es,ep,ho,hd,hk,_,hm⟩:=n
 refine⟨o,ho,λname=>?_⟩
 have e:=hm name
 unfold nsFind findBy at e
 rw[←zbr] at e
 unfold z9M
 rw[hd]
 dsimp only
 split
 ·rename_i y q
  rw[q] at e
  exact congrArg some e
 ·rename_i q
  rw[q] at e
  have a:es.toList.any (·.refKey)=false:=by
   rw[zbH]
   intro y hy
   obtain⟨z,t,hkey⟩:=hk y (Array.mem_toList_iff.mp hy)
   simp[DictEntry.refKey,hkey]
  have a':¬es.toList.any (·.refKey)=true:=by rw[a];exact z6_
  rw[if_neg a']
  exact congrArg some e
theorem ObjM.look{h:Heap}{x dx C:Addr}{mA:Str->Option Value}(I:ObjM h x dx C mA):∃od,zaV h x (z7R C dx) C (some od)/\∀name,z9M name od=some (mA name):=
 let ⟨od,ho,hl⟩:=Zs I.ns
 ⟨od,⟨I.obj,rfl,rfl,ho⟩,hl⟩
section
variable {prog:Program}{w:World}{A:Around}{E:Value->Shared->Prop}{s:Shared}{K:PySem.W.Frag}{x dx C f:Addr}{mA:Str->Option Value}{name:Str}{v:Value}
theorem get_map{expr:Bool}{Q:Value->z6z->Prop}(X:K.In s.heap)(I:ObjM s.heap x dx C mA)(hg:z8P K C name=true)(hh:z89 K C=true)
  (ha:z70 K (.ref C) name=some none) (hv:mA name=some v) (hv':zc9 v=true) (h:Q v {s with toks:=s.toks+1}) :
  z6I (z6L prog w) A (zcB (.ref x) name expr) Q E s:=by
 obtain⟨od,J,hl⟩:=I.look
 exact PySem.W.get_value X J (z8j hg).1 (zba hh ha rfl (by rw[hl,hv])) hv' h
theorem YI{pl:Sem Bool}{Q:Value×List Value->z6z->Prop}(X:K.In s.heap)(I:ObjM s.heap x dx C mA)(hg:z8P K C name=true)
  (hf:z70 K (.ref C) name=some (some (.ref f))) (ht:zbI K (.ref f)=true) (hv:mA name=none) (h:Q (.ref f,[.ref x]) s) :
  z6I (z6L prog w) A (zds (.ref x) name pl) Q E s:=by
 obtain⟨od,J,hl⟩:=I.look
 exact PySem.W.method_fn X J (z8j hg).1 (z8j hg).2 hf (beq_iff_eq.mp ht) (by show (z9M name od).map (·.isSome)=some false;rw[hl,hv];rfl) h
theorem z0N{ns:List Str}{Q:Unit->z6z->Prop}(X:K.In s.heap)(I:ObjM s.heap x dx C mA)
  (hs:z70 K (.ref C) "__setattr__"=some (some (.builtin "object.__setattr__"))) (hp:za1 K C=true) (ht:zaI K C name=some none) (hh:z89 K C=true)
  (hw:zbG mA ns) (hsz:ns.length<=sizeLine)
  (h:∀h',ObjM h' x dx C (λy=>if y=name then some v else mA y)->z7p dx s.heap h'->Q () {s with heap:=h',toks:=s.toks+2}) :
  z6I (z6L prog w) A (setAttr (.ref x) name v) Q E s:=by
 obtain⟨od,J,hl⟩:=I.look
 refine zbJ X J hs (PySem.W.osa_open (s:={s with toks:=s.toks+1}) (r:=none) X J hp ht λb=>?_)
 obtain⟨cd,hc,hd'⟩:=zai hh
 have hx:s.heap.get? x=some ⟨.ref C,some dx,.plain,#[]⟩:=I.obj
 refine z6w (z6F (z6w (z6w (zaW hx (z6w (z80 (s:={s with toks:=s.toks+1}) (z9B X hc) ?_))))))
 rw[hd']
 refine z6F (a:=some dx) (z6w (z6F (z6w ?_)))
 refine wpAny_nsSet1 (s:={s with toks:=s.toks+1}) I.ns λh' hn2 hs2=>?_
 obtain⟨oD,esD,epD,hoD,hdD,hcD⟩:=hn2.count (zdV name v hw)
 refine z6w (zca hoD (by rw[hdD];exact zcb (z6X hcD (by rw[z6Y];omega))) ?_)
 exact z6F (h _ ⟨(hs2.2 _ (z6Z I.ne)).trans I.obj,hn2,I.ne⟩ hs2)
theorem uh{R:Result->z6z->Prop}{vs:List Value}{kw:List (Str×Value)}(X:K.In s.heap)(hm:zcr K C=true)
  (hi:z70 K (.ref C) "__init__"=some (some (.ref f))) (hf:zcL K (.ref f)=some (.type "function"))
  (h:z92 (z6L prog w) (A.under (.builtin "type.__call__" ⟨.ref C::vs,kw⟩)) (.call (.ref f) ⟨.ref (s.heap.objs.size+1)::vs,kw⟩) (PySem.W.InitBack (s.heap.objs.size+1) R)
   {s with heap:=(s.heap.push z7w).push (z7R C s.heap.objs.size)}) :
  z92 (z6L prog w) A (.call (.ref C) ⟨vs,kw⟩) R s:=by
 obtain⟨hh,g,d,t,os⟩:=s
 exact PySem.W.make_core (PySem.W.makes_of X hm) (zaA X hi) (λself=>PySem.W.bind_fn X self hf) (.inl rfl) h
end
noncomputable def wQ(f:Str)(v:V):List (Str×V)->List (Str×V)
 |[]=>[(f,v)]
 |(g,x)::r=>if g=f then (g,v)::r else (g,x)::wQ f v r
theorem kZ(f g:Str)(v:V):∀fs:List (Str×V),(wQ f v fs).lookup g=if g=f then some v else fs.lookup g
 |[]=>by
  show z7F g [(f,v)]=_
  by_cases h:g=f
  ·have hb:(g == f)=true:=beq_iff_eq.mpr h
   simp only[z7F,hb,if_pos h]
  ·have hb:(g == f)=false:=beq_eq_false_iff_ne.mpr h
   simp only[z7F,hb,if_neg h]
 |(k,x)::r=>by
  have ih:=kZ f g v r
  rw[show wQ f v ((k,x)::r)=(if k=f then (k,v)::r else (k,x)::wQ f v r) from rfl]
  by_cases hk:k=f
  ·rw[if_pos hk]
   by_cases h:g=k
   ·have hb:(g == k)=true:=beq_iff_eq.mpr h
    simp only[z7F,hb,if_pos (h.trans hk)]
   ·have hb:(g == k)=false:=beq_eq_false_iff_ne.mpr h
    simp only[z7F,hb,if_neg (λe:g=f=>h (e.trans hk.symm))]
  ·rw[if_neg hk]
   by_cases h:g=k
   ·have hb:(g == k)=true:=beq_iff_eq.mpr h
    simp only[z7F,hb,if_neg (λe:g=f=>hk (h.symm.trans e))]
   ·have hb:(g == k)=false:=beq_eq_false_iff_ne.mpr h
    simp only[z7F,hb]
    exact ih
theorem kL(f:Str)(v:V):∀fs:List (Str×V),f∈(wQ f v fs).map (·.1)/\∀g,g∈fs.map (·.1)->g∈(wQ f v fs).map (·.1)
 |[]=>⟨by simp[wQ],λg h=>by simp at h⟩
 |(k,x)::r=>by
  obtain⟨i1,i2⟩:=kL f v r
  rw[show wQ f v ((k,x)::r)=(if k=f then (k,v)::r else (k,x)::wQ f v r) from rfl]
  by_cases hk:k=f
  ·rw[if_pos hk]
   subst hk
   exact⟨by simp,λg h=>by simpa using h⟩
  ·rw[if_neg hk]
   refine⟨?_,λg h=>?_⟩
   ·rw[z7g]
    exact z6H _ i1
   ·rw[z7g] at h ⊢
    rcases z75.mp h with e|e
    ·exact z75.mpr (.inl e)
    ·exact z6H _ (i2 g e)
theorem xg(f:Str)(v:V):∀fs:List (Str×V),(wQ f v fs).length<=fs.length+1
 |[]=>by simp[wQ]
 |(k,x)::r=>by
  have ih:=xg f v r
  rw[show wQ f v ((k,x)::r)=(if k=f then (k,v)::r else (k,x)::wQ f v r) from rfl]
  by_cases hk:k=f
  ·rw[if_pos hk,z6Y,z6Y];omega
  ·rw[if_neg hk,z6Y,z6Y];omega
theorem RelO.some_of{v:V}{o:Option Value}(r:RelO (some v) o):∃u,o=some u/\RelV v u:=by
 cases o with
 |none=>exact (show False from r).elim
 |some u=>exact⟨u,rfl,r⟩
theorem RelO.none_of{o:Option Value}(r:RelO none o):o=none:=by
 cases o with
 |none=>rfl
 |some u=>exact (show False from r).elim
theorem uK{v:V}{u:Value}(r:RelV v u):zc9 u=true:=by
 cases v with
 |non=>cases (show u=z7z from r);rfl
 |bl b=>cases (show u=zbq b from r);rfl
 |int i=>obtain⟨t,e⟩:=(show ∃t,u=zc6 i t from r);cases e;rfl
 |str x=>obtain⟨t,e⟩:=(show ∃t,u=zc7 x t from r);cases e;rfl
 |byt b=>obtain⟨t,e⟩:=(show ∃t,u=zdG b t from r);cases e;rfl
 |flt b=>obtain⟨t,e⟩:=(show ∃t,u=zdH b t from r);cases e;rfl
 |ref a=>cases (show u=z6W a from r);rfl
 |ty n=>cases (show u=zcG n from r);rfl
section
variable {P:Program}{w:World}{H H':Hp}{h h':Heap}{a C dx:Addr}{fs fs':List (Str×V)}
theorem k6(hok:HOk P w H h)(e:H a=some (.ins C dx fs)):∃mA,ObjM h a dx C mA/\(∀f,RelO (fs.lookup f) (mA f))/\zbG mA (fs.map (·.1))/\fs.length<=1000/\H dx=some (.own a):=by
 obtain⟨d,z,ne,ob,mA,n,r,q⟩:=(show ObjOk P w H h a (.ins C dx fs) from hok a _ e)
 exact⟨mA,⟨ob,n,ne⟩,r,q,z,d⟩
end
structure Cls(K:PySem.W.Frag)(C:Addr):Prop where
 pg:z8P K C z9G=true
 hd:z89 K C=true
 po:za1 K C=true
 sa:z70 K (.ref C) "__setattr__"=some (some (.builtin "object.__setattr__"))
theorem Cls.get{K:z6C}{C:Addr}(c:Cls K C)(f:Str):z8P K C f=true:=c.pg
noncomputable def NoAttr(K:z6C)(C:Addr)(f:Str):Prop:=z70 K (.ref C) f=some none
theorem NoAttr.taker{K:z6C}{C:Addr}{f:Str}(n:NoAttr K C f):zaI K C f=some none:=by
 unfold zaI
 rw[show z70 K (.ref C) f=some none from n]
 rfl
structure Meth(K:PySem.W.Frag)(C:Addr)(m:Str)(f:Addr):Prop where
 at_:z70 K (.ref C) m=some (some (.ref f))
 fn:zbI K (.ref f)=true
 kp:z8l K (.ref f)=true
section
variable {X:Cx}{pins:List (Addr×Obj)}{σ:St}{H:Hp}{s:Shared}{a C dx:Addr}{fs:List (Str×V)}{f:Str}{v:V}{A:Around}{E:Value->Shared->Prop}
theorem yz{b:Bool}{Q:Value->z6z->Prop}(I:Inv X pins σ H s)(e:H a=some (.ins C dx fs))(c:Cls X.K C)(n:NoAttr X.K C f)(l:fs.lookup f=some v)
  (h:∀u s',Inv X pins σ H s'->RelV v u->Q u s'):z6I (z6L X.prog X.w) A (zcB (.ref a) f b) Q E s:=by
 obtain⟨mA,O,r,_,_,_⟩:=k6 I.hok e
 obtain⟨u,hu,ru⟩:=RelO.some_of (v:=v) (o:=mA f) (by rw[←l];exact r f)
 exact get_map I.kIn O (c.get f) c.hd n hu (uK ru) (h u _ (I.tok _) ru)
theorem Vg{m:Str}{g:Addr}{pl:Sem Bool}{Q:Value×List Value->z6z->Prop}(I:Inv X pins σ H s)(e:H a=some (.ins C dx fs))(c:Cls X.K C)(k:Meth X.K C m g)(l:fs.lookup m=none)
  (h:Q (.ref g,[.ref a]) s):z6I (z6L X.prog X.w) A (zds (.ref a) m pl) Q E s:=by
 obtain⟨mA,O,r,_,_,_⟩:=k6 I.hok e
 have hn:mA m=none:=RelO.none_of (by rw[←l];exact r m)
 exact YI I.kIn O (c.get m) k.at_ k.fn hn h
theorem Vl{y:V}{u:Value}{Q:Unit->z6z->Prop}(I:Inv X pins σ H s)(e:H a=some (.ins C dx fs))(c:Cls X.K C)(n:NoAttr X.K C f)(hl:fs.length<1000)(ry:RelV y u)
  (h:∀s',Inv X pins σ (upd H a (.ins C dx (wQ f y fs))) s'->Q () s'):z6I (z6L X.prog X.w) A (setAttr (.ref a) f u) Q E s:=by
 obtain⟨mA,O,r,wi,_,ho⟩:=k6 I.hok e
 have hz:(fs.map (·.1)).length<=sizeLine:=by rw[z6Q,z7N];omega
 refine z0N I.kIn O c.sa c.po n.taker c.hd wi hz λh' O' sb=>h _ ?_
 have hd:∃o,h'.get? dx=some o:=let ⟨o,_,_,e',_⟩:=O'.ns;⟨o,e'⟩
 refine I.write (x:=a) (e:=dx) (by rw[e];exact z7r) (.inr ho) (λb q hb z=>(sb.2 b hb).trans z) hd ?_
 refine⟨by rw[z7 O.ne];exact ho,?_,O.ne,O'.obj,_,O'.ns,λg=>?_,λg hg=>?_⟩
 ·have:=xg f y fs;omega
 ·show RelO ((wQ f y fs).lookup g) (if g=f then some u else mA g)
  rw[kZ]
  by_cases q:g=f
  ·rw[if_pos q,if_pos q];exact ry
  ·rw[if_neg q,if_neg q];exact r g
 ·by_cases q:g=f
  ·rw[q];exact (kL f y fs).1
  ·refine (kL f y fs).2 g (wi g λz=>hg ?_)
   show (if g=f then some u else mA g)=none
   rw[if_neg q];exact z
theorem Inv.made(I:Inv X pins σ H s):Inv X pins σ (upd (upd H s.heap.objs.size (.own (s.heap.objs.size+1))) (s.heap.objs.size+1) (.ins C s.heap.objs.size []))
  {s with heap:=(s.heap.push z7w).push (z7R C s.heap.objs.size)}:=by
 have e1:(s.heap.push z7w).get? s.heap.objs.size=some z7w:=z71 s.heap rfl
 have e2:((s.heap.push z7w).push (z7R C s.heap.objs.size)).get? (s.heap.objs.size+1)=some (z7R C s.heap.objs.size):=by
  have:=z71 (s.heap.push z7w) (o:=z7R C s.heap.objs.size) rfl
  rwa[z8J] at this
 have e3:(s.heap.push z7w).Ns s.heap.objs.size (λ_=>none):=⟨z7w,#[],_,e1,rfl,(λe he=>absurd he (by simp)),λ_=>rfl⟩
 have I1:=I.laid (a:=s.heap.objs.size) (o:=.own (s.heap.objs.size+1)) (h':=s.heap.push z7w) (t':=s.toks) (λb u q=>z6y _ q) (z6E _) ⟨_,e1⟩
 refine I1.laid (a:=s.heap.objs.size+1) (o:=.ins C s.heap.objs.size []) (t':=s.toks) (λb u q=>z6y _ q) (z9E (z8J _ _)) ?_
 have ne:s.heap.objs.size≠s.heap.objs.size+1:=z73 (z7Z _)
 refine⟨by rw[z7 ne,z6],z9s _,ne,e2,λ_=>none,(zbK e3).at λo q=>z6y _ q,λ_=>z7r,λy hy=>absurd rfl hy⟩
theorem VH{prog:z7a}{w:z7o}{env:Env}{e:Expr}{f:Str}{pos:Pos}{s:z6z}{Q:Value->z6z->Prop}(hb:z8U e f env (eval e env)=eval e env)
  (h:z6I (z6L prog w) A (eval e env) (λo s₁=>z6I (z6L prog w) A (zcB o f true) Q E s₁) E s):z6I (z6L prog w) A (eval (.Attribute e f pos) env) Q E s:=
 Attribute_any_ h (by rw[arm_eval_Attribute,hb])
end
noncomputable def z62 (K:z6C)(ta:TE)(f:Str):TE:=λσ H Q=>ta σ H λx H1=>∃a C dx fs v,x=.ref a/\H1 a=some (.ins C dx fs)/\Cls K C/\NoAttr K C f/\fs.lookup f=some v/\Q v H1
noncomputable def qI (K:z6C)(ta tv:TE)(f:Str):TS:=λD σ H=>tv σ H λy H1=>ta σ H1 λx H2=>∃a C dx fs,x=.ref a/\H2 a=some (.ins C dx fs)/\Cls K C/\NoAttr K C f/\fs.length<1000/\
 D.nx σ (upd H2 a (.ins C dx (wQ f y fs)))
section
variable {X:Cx}{o e value:Expr}{f:Str}{pos pos' tpos:Pos}{ta tv:TE}
theorem z1Q(he:PE X e ta)(hb:z8U e f X.env (eval e X.env)=eval e X.env):PE X (.Attribute e f pos) (z62 X.K ta f):=by
 intro pins s σ H Q I h
 refine VH hb (thn (he pins s σ H _ I h) λu s1 ⟨x,H1,I1,rx,a,C,dx,fs,v,ex,ea,c,n,l,q⟩=>?_)
 subst ex
 obtain rfl:u=z6W a:=rx
 exact yz I1 ea c n l λu' s2 I2 ru=>⟨v,H1,I2,ru,q⟩
theorem z4p(ha:PE X o ta)(hv:PE X value tv)(hs:z9m value (some (.Attribute o f pos')) pos.line X.env=pure false):PS X (.Assign [.Attribute o f pos'] value pos) (qI X.K ta tv f):=by
 intro pins s σ H D I h
 refine z9j (thn (hv pins s σ H _ I h) λu s1 ⟨y,H1,I1,ry,q⟩=>thn (ha pins s1 σ H1 _ I1 q) λov s2 ⟨x,H2,I2,rx,a,C,dx,fs,ex,ea,c,n,l,q2⟩=>?_) hs
 subst ex
 obtain rfl:ov=z6W a:=rx
 exact Vl I2 ea c n l ry λs3 I3=>⟨σ,_,I3,q2⟩
noncomputable def z4b:V->V->Hp->VK->Prop:=λx y H Q=>∃i j,x=.int i/\y=.int j/\Q (.int (i-j)) H
end
end L2
namespace L2
open PySem PySem.Spec PyProof.Rows
structure Room(k:Nat)(A:Around):Prop where
 hd:A.handled=none
 dp:A.depth+3 * k+5<recursionLimit
 un:A.units+16 * k+200<cLine
theorem Room.mono{j k:Nat}{A:z7b}(r:Room k A)(h:j<=k):Room j A:=⟨r.hd,by have:=r.dp;omega,by have:=r.un;omega⟩
theorem Room.deeper{k:Nat}{A:z7b}(r:Room (k+1) A)(env:Env):Room k (A.deeper env):=
 ⟨r.hd,by have:=r.dp;show A.depth+1+3 * k+5<_;omega,by have:=r.un;show A.units+3+16 * k+200<_;omega⟩
theorem Va{A:z7b}{C:Addr}{us:List Value}{kw:List (Str×Value)}:(A.under (.builtin "type.__call__" ⟨.ref C::us,kw⟩)).depth=A.depth+1:=by
 first|rfl|simp[zbL,Code.weight,Code.isCreation,Code.isGuard,Code.isCaller,zdI,zbM,guardIds]
theorem W_{A:z7b}{C:Addr}{us:List Value}{kw:List (Str×Value)}:(A.under (.builtin "type.__call__" ⟨.ref C::us,kw⟩)).units=A.units+1:=by
 first|rfl|simp[zbL,Code.cUnits,zdI,zbM]
theorem Room.make{k:Nat}{A:z7b}(r:Room (k+1) A)(C:Addr)(us:List Value)(kw:List (Str×Value)):Room k (A.under (.builtin "type.__call__" ⟨.ref C::us,kw⟩)):=
 ⟨r.hd,by have:=r.dp;rw[Va];omega,by have:=r.un;rw[W_];omega⟩
theorem Room.depth{k:Nat}{A:z7b}(r:Room k A):A.depth<recursionLimit:=by have:=r.dp;omega
noncomputable def z6k:TA:=λ_ H Q=>Q [] H
noncomputable def z4X(ta:TE)(tr:TA):TA:=λσ H Q=>ta σ H λx H1=>tr σ H1 λxs H2=>Q (x::xs) H2
section
variable {X:Cx}{e:Expr}{es:List Expr}{te:TE}{t:TA}{pos:Pos}
theorem qH:PA X [] z6k:=λ_ _ _ _ H Q I h=>zbN ⟨[],H,I,.nil,h⟩
theorem zI(ha:PE X e te)(hr:PA X es t)(hs:z7m (e::es) X.env=(false,eval e X.env)::z7m es X.env:=by rfl):PA X (e::es) (z4X te t):=by
 intro pos pins s σ H Q I h
 rw[hs]
 show z6I _ _ (spliced ((false,eval e X.env)::z8I pos (z7m es X.env))) _ _ s
 refine zbs (thn (ha pins s σ H _ I h) λu s1 ⟨x,H1,I1,r1,q1⟩=>?_)
 exact thn (hr pos pins s1 σ H1 _ I1 q1) λus s2 ⟨xs,H2,I2,r2,q2⟩=>⟨x::xs,H2,I2,.cons r1 r2,q2⟩
noncomputable def z6d (t:TA):TE:=λσ H Q=>t σ H λxs H1=>xs.length<=sizeLine/\∀p,H1 p=none->Q (.ref p) (upd H1 p (.tup xs))
noncomputable def z69 (t:TA):TE:=λσ H Q=>t σ H λxs H1=>xs.length<=sizeLine/\∀p,H1 p=none->Q (.ref p) (upd H1 p (.lst xs))
theorem Xj{x1}(h:PA X es t):PE X (.Tuple es x1 pos) (z6d t):=by
 intro pins s σ H Q I hq
 refine wpAny_Tuple_spliced (thn (h pos pins s σ H _ I hq) λus s1 ⟨xs,H1,I1,r,z,q⟩=>⟨by rw[←r.length];exact z,?_⟩)
 have hf:H1 s1.heap.objs.size=none:=I1.hok.fresh (z6E _)
 refine⟨.ref s1.heap.objs.size,upd H1 s1.heap.objs.size (.tup xs),I1.laid (t':=s1.toks) (λb u e=>z6y _ e) (z6E _) ?_,rfl,q _ hf⟩
 exact⟨z,us,r,⟨_,z71 _ rfl,rfl,_,rfl⟩⟩
theorem X3(h:PA X es t):PE X (.List es pos) (z69 t):=by
 intro pins s σ H Q I hq
 refine wpAny_List_spliced (thn (h pos pins s σ H _ I hq) λus s1 ⟨xs,H1,I1,r,z,q⟩=>⟨by rw[←r.length];exact z,?_⟩)
 have hf:H1 s1.heap.objs.size=none:=I1.hok.fresh (z6E _)
 refine⟨.ref s1.heap.objs.size,upd H1 s1.heap.objs.size (.lst xs),I1.laid (t':=s1.toks) (λb u e=>z6y _ e) (z6E _) ?_,rfl,q _ hf⟩
 exact⟨z,us,0,r,z71 _ rfl⟩
end
noncomputable abbrev Sp:=List V->Hp->VK->XK->Prop
noncomputable abbrev CXT:=List Env->Hp->z6z->XK->Value->z6z->Prop
structure Env0(P:Program)(w:World)(K:PySem.W.Frag)(mg:Str->Option Value)(base:Heap)(A:Around)(outer:List Env)(s:Shared)(H:Hp):Prop where
 frames:A.frames=some outer
 mod:Mod K mg base
 bs:∀b o,base.get? b=some o->s.heap.get? b=some o/\H b=none
 bsz:base.objs.size<=s.heap.objs.size
 funs:s.heap.FunFrames base outer
 frf:∀b∈frs outer,H b=none
 hok:HOk P w H s.heap
 bare:za0 s.gens
inductive CE(outer:List Env)(P:Program)(w:World)(H:Hp)(s:Shared)(Q:VK)(u:Value)(s':Shared):Prop where
 |mk (v:V) (H':Hp) (o:s'.os=s.os) (b:za0 s'.gens) (n:Un (frs outer) [] H H' s.heap s'.heap) (k:HOk P w H' s'.heap) (r:RelV v u) (q:Q v H')
noncomputable def CR (CX:CXT)(outer:List Env)(P:z7a)(w:z7o)(H:Hp)(s:z6z)(Q:VK)(E:XK)(r:Result)(s':z6z):Prop:=
 match r with
 |.ok (.ret u)=>CE outer P w H s Q u s'
 |.ok _=>False
 |.error e=>CX outer H s E e s'
structure FnOk(P:Program)(w:World)(K:PySem.W.Frag)(mg:Str->Option Value)(base:Heap)(CX:CXT)(k:Nat)(f:Addr)(fd:FuncData)(ps:List Str)(sp:Sp):Prop where
 len:∀vs H Q E,sp vs H Q E->vs.length=ps.length
 run:∀(A:z7b) (outer:List Env) (s:z6z) (H:Hp) (args:Args) (us:List Value) (vs:List V) (Q:VK) (E:XK),Room k A->Env0 P w K mg base A outer s H->zbO s fd args (ps.zip us)->Vals vs us->sp vs H Q E->
  z92 (z6L P w) A (.call (.ref f) args) (CR CX outer P w H s Q E) s
theorem FnOk.imp{P:z7a}{w:z7o}{K:z6C}{mg:Str->Option Value}{base:Heap}{CX:CXT}{k:Nat}{f:Addr}{fd:z7T}{ps:List Str}{sp sp':Sp}(F:FnOk P w K mg base CX k f fd ps sp)
  (h:∀vs H Q E,sp' vs H Q E->sp vs H Q E):FnOk P w K mg base CX k f fd ps sp':=
 ⟨λvs H Q E q=>F.len vs H Q E (h _ _ _ _ q),λA outer s H args us vs Q E hr he hb hv hs=>F.run A outer s H args us vs Q E hr he hb hv (h _ _ _ _ hs)⟩
theorem Env0.make{P:z7a}{w:z7o}{K:z6C}{mg:Str->Option Value}{base:Heap}{A:z7b}{outer:List Env}{s:z6z}{H:Hp}(e:Env0 P w K mg base A outer s H)(C:Addr)(us:List Value)(kw:List (Str×Value)) :
  Env0 P w K mg base (A.under (.builtin "type.__call__" ⟨.ref C::us,kw⟩)) outer s H:=⟨by first|exact e.frames|(simpa[zbL,Code.envs,zbM,pushEnvs] using e.frames),e.mod,e.bs,e.bsz,e.funs,e.frf,e.hok,e.bare⟩
section
variable {X:Cx}{pins:List (Addr×Obj)}{σ:St}{H:Hp}{s s':Shared}
theorem Inv.env0(I:Inv X pins σ H s):Env0 X.prog X.w X.K X.mg X.base X.A X.stack s H:=
 ⟨I.ok.frames,I.ok.mod,I.bs,z6X I.ok.bsz I.sz,I.stack,I.stkFree,I.hok,I.bare⟩
theorem Inv.after{Q:VK}{u:Value}(I:Inv X pins σ H s)(h:CE X.stack X.prog X.w H s Q u s'):EP X pins σ Q u s':=by
 obtain⟨v,H',os,bare,un,hok,r,q⟩:=h
 obtain⟨hh,g,d,t,os'⟩:=s'
 obtain rfl:os'=s.os:=os
 exact⟨v,H',I.call (h':=hh) (g':=g) (d':=d) (t':=t) (ch:=[]) un hok bare (λb z=>absurd z (by simp)),r,q⟩
end
noncomputable def Binds(K:z6C)(fd:z7T)(ps:List Str)(ds:List Value):Prop:=
 ∀(s:z6z) (us:List Value),K.In s.heap->(us++ds).length=ps.length->zbO s fd ⟨us,[]⟩ (ps.zip (us++ds))
theorem Binds.all{K:z6C}{fd:z7T}{ps:List Str}(h:∀us:List Value,us.length=ps.length->zaj fd ⟨us,[]⟩=pure (ps.zip us)):Binds K fd ps []:=λs us _ hl=>by
 rw[z74] at hl ⊢
 exact .of_eq (h us hl)
section
variable {X:Cx}{CX:CXT}{k:Nat}{f C:Addr}{fd:FuncData}{ps:List Str}{sp:Sp}{dvs:List V}{ds:List Value}{E:XK}{x m:Str}{p pos apos:Pos}{e o:Expr}{es:List Expr}{ta:TE}{t:TA}
structure Mk(K:PySem.W.Frag)(C f:Addr):Prop where
 makes:zcr K C=true
 init:z70 K (.ref C) "__init__"=some (some (.ref f))
 fn:zbI K (.ref f)=true
 kp:z8l K (.ref C)=true
end
structure FnScope(N P:List Str)(sc:Scope):Prop where
 kind:sc.kind=.function
 co:sc.isCoroutine=false
 gen:sc.isGenerator=false
 nd:N.Nodup
 pre:N.take P.length=P
 par:∀x∈P,sc.names.lookup x=some .local\/sc.names.lookup x=some .cell
 nofree:∀y∈sc.names,y.2≠.free
theorem Zf{kindOf:Str->Option z9N}{x:Str}:∀{binds:List (Str×Value)} {m:Str->Option Value},(∀v,(x,v)∉binds)->zcM kindOf binds m x=m x
 |[],_,_=>rfl
 |(n,v)::r,m,h=>by
  unfold zcM
  rw[Zf λw hw=>h w (z6H _ hw)]
  split
  ·have:x≠n:=by rintro rfl;exact h v z6U
   simp[this]
  ·rfl
theorem uV{kindOf:Str->Option z9N}{x:Str}:∀{binds:List (Str×Value)} {m:Str->Option Value},(∀v,(x,v)∉binds)->zcN kindOf binds m x=m x
 |[],_,_=>rfl
 |(n,v)::r,m,h=>by
  unfold zcN
  rw[uV λw hw=>h w (z6H _ hw)]
  split
  ·rfl
  ·have:x≠n:=by rintro rfl;exact h v z6U
   simp[this]
theorem ZC{kindOf:Str->Option z9N}{x:Str}{v:Value}:∀{P:List Str} {vs:List Value} {i:Nat} {m:Str->Option Value},P.Nodup->P[i]?=some x->vs[i]?=some v->kindOf x=some .local->
  zcM kindOf (P.zip vs) m x=some v
 |[],_,_,_,_,h,_,_=>by simp at h
 |_::_,[],_,_,_,_,h,_=>by simp at h
 |p::P,w::vs,0,m,nd,h1,h2,hk=>by
  simp at h1 h2;subst h1;subst h2
  show zcM kindOf ((p,w)::P.zip vs) m p=_
  unfold zcM
  rw[Zf λv hv=>(z9v.mp nd).1 (zaJ hv).1,if_pos hk]
  simp
 |p::P,w::vs,i+1,m,nd,h1,h2,hk=>by
  show zcM kindOf ((p,w)::P.zip vs) m x=_
  unfold zcM
  exact ZC (i:=i) (z9v.mp nd).2 (by simpa using h1) (by simpa using h2) hk
theorem Zt{kindOf:Str->Option z9N}{x:Str}{v:Value}:∀{P:List Str} {vs:List Value} {i:Nat} {m:Str->Option Value},P.Nodup->P[i]?=some x->vs[i]?=some v->kindOf x≠some .local->
  zcN kindOf (P.zip vs) m x=some v
 |[],_,_,_,_,h,_,_=>by simp at h
 |_::_,[],_,_,_,_,h,_=>by simp at h
 |p::P,w::vs,0,m,nd,h1,h2,hk=>by
  simp at h1 h2;subst h1;subst h2
  show zcN kindOf ((p,w)::P.zip vs) m p=_
  unfold zcN
  rw[uV λv hv=>(z9v.mp nd).1 (zaJ hv).1,if_neg hk]
  simp
 |p::P,w::vs,i+1,m,nd,h1,h2,hk=>by
  show zcN kindOf ((p,w)::P.zip vs) m x=_
  unfold zcN
  exact Zt (i:=i) (z9v.mp nd).2 (by simpa using h1) (by simpa using h2) hk
noncomputable def start(N:List Str)(vs:List V):St:=vs.map some++z8K (N.length-vs.length) none
noncomputable def JO (CX:CXT)(P:z7a)(w:z7o)(K:z6C)(mg:Str->Option Value)(base:Heap)(N:List Str)(qual:Str)(scope:Scope)(f:Addr)(cd:Value)(A:z7b)(outer:List Env)(s:z6z)(H:Hp)(E:XK)(fnb:Str->Bool:=λ_=>true):Cx where
 prog:=P
 w:=w
 K:=K
 mg:=mg
 base:=base
 A:=A.deeper (zat qual scope s.heap.objs.size f cd)
 N:=N
 s₀:=s
 H₀:=H
 env:=zat qual scope s.heap.objs.size f cd
 outer:=outer
 stack:=zat qual scope s.heap.objs.size f cd::outer
 ex:=[]
 calm:=true
 fn:=fnb
 pn:=[]
 xe:=λe s'=>z6I (z6L P w) (A.deeper (zat qual scope s.heap.objs.size f cd)) (leaving (zat qual scope s.heap.objs.size f cd) e) (λ_ s''=>CX outer H s E e s'') (λe' s''=>CX outer H s E e' s'') s'
theorem Wa{sc:Scope}{n:Nat}{x:Str}(h:sc.names.lookup x=some .cell):∃c,(zdt n sc.names []).lookup x=some c:=by
 have q:=zau sc.names n [] (.inl h)
 exact z8V.mp q
theorem Kt{CX:CXT}{P:z7a}{w:z7o}{K:z6C}{mg:Str->Option Value}{base:Heap}{N ps:List Str}{qual:Str}{scope:Scope}{f:Addr}{cd:Value}{A:z7b}{outer:List Env}{s s1:z6z}{H:Hp}{E:XK}{us:List Value}{vs:List V}{fnb:Str->Bool}
  (S:FnScope N ps scope) (hd:A.handled=none) (e0:Env0 P w K mg base A outer s H) (hl:vs.length=ps.length) (r:Vals vs us)
  (x:InCallC s s.heap.objs.size (zcM (zat qual scope s.heap.objs.size f cd).kindOf (ps.zip us) λ_=>none) (zdt (s.heap.objs.size+1) scope.names []) (zcN (zat qual scope s.heap.objs.size f cd).kindOf (ps.zip us) λ_=>none) s1) :
  Inv (JO CX P w K mg base N qual scope f cd A outer s H E fnb) [] (start N vs) H s1:=by
 have hpl:ps.length<=N.length:=by have:=congrArg zaX S.pre;rw[z8m] at this;omega
 obtain⟨h1,tk,rfl,hk⟩:=x.done
 have noA:∀b:Addr,b∉(JO CX P w K mg base N qual scope f cd A outer s H E fnb).ex:=λb z=>absurd (show b∈([]:List Addr) from z) (by simp)
 refine⟨⟨e0.mod,S.kind,rfl,rfl,z6E _,λy z c h1 h2=>?_,λy hy=>?_,λy c _ h=>?_,λ_=>hd,zaY e0.frames,.inr ⟨rfl,rfl⟩,λb z=>absurd z (noA b),e0.bs,e0.bsz,λb _ _=>noA b,λb z=>absurd z (noA b),e0.funs,e0.frf⟩,
  rfl,e0.bare,Un.kept hk,⟨_,x.toInCall.ns,λi y v h1 h2 h3=>?_⟩,λy c h=>⟨_,x.cell y c h⟩,e0.hok.fresh (z6E _),λy c h=>?_,λp hp=>absurd (show p∈([]:List (Addr×Obj)) from hp) (by simp),e0.hok.kept hk,?_⟩
 ·exact name_of_addr x.apart (z7n h1) (z7n h2)
 ·have hy:scope.names.lookup y=some .cell\/scope.names.lookup y=some .free:=hy
  rcases hy with hy|hy
  ·exact Wa hy
  ·exact absurd rfl (S.nofree _ (z7n hy))
 ·exact z9D (x.above y c (z7n h))
 ·have hi:i<vs.length:=by
   unfold start at h2
   by_cases hi:i<vs.length
   ·exact hi
   ·rw[z6S (by simpa using hi)] at h2
    rw[z8n] at h2
    split at h2<;>cases h2
  have ha:vs[i]?=some v:=by
   unfold start at h2
   rw[z6B (by simpa using hi),z78] at h2
   cases e:vs[i]? with
   |none=>rw[e] at h2;cases h2
   |some a=>rw[e] at h2;cases h2;rfl
  obtain⟨u,hu,rv⟩:=r.get ha
  have hp:ps[i]?=some y:=by
   rw[←S.pre,List.getElem?_take_of_lt (by omega)];exact h1
  have ndP:ps.Nodup:=by rw[←S.pre];exact S.nd.sublist (List.take_sublist _ _)
  refine⟨u,rv,?_⟩
  rcases S.par y (z6M hp) with k|k
  ·exact .inl ⟨k,ZC ndP hp hu k⟩
  ·obtain⟨c,e⟩:=Wa (n:=s.heap.objs.size+1) k
   refine .inr ⟨.inl k,c,e,?_⟩
   have q:=x.cell y c e
   rw[Zt ndP hp hu (by show scope.names.lookup y≠_;rw[k];decide)] at q
   exact q
 ·exact .inl (e0.hok.fresh (z9D (x.above y c (z7n h))))
 ·unfold start
  show _=N.length
  rw[z72,z6Q,zaO]
  omega
theorem z1p{CX:CXT}{P:z7a}{w:z7o}{K:z6C}{mg:Str->Option Value}{base:Heap}{k:Nat}{f:Addr}{name qual:Str}{params:Arguments}{body:List Stmt}{scope:Scope}{dV kV doc pm cdv ct oc:Value}{an od:Option Addr}
  {osl:Array (Option Value)} {N ps:List Str} {sp:Sp} {fnb:Str->Bool} (lk:K.lookup f=some ⟨oc,od,.func (z7v name qual params body scope dV kV doc pm an cdv ct),osl⟩) (hcd:z8o K cdv qual=true) (S:FnScope N ps scope)
  (len:∀vs H Q E,sp vs H Q E->vs.length=ps.length)
  (hbody:∀(A:z7b) (outer:List Env) (s:z6z) (H:Hp) (vs:List V) (Q:VK) (E:XK),Room k (A.deeper (zat qual scope s.heap.objs.size f cdv))->sp vs H Q E->(∀y c,(zat qual scope s.heap.objs.size f cdv).cells.lookup y=some c->s.heap.objs.size<=c/\H c=none)->
   ∃t,PSs (JO CX P w K mg base N qual scope f cdv A outer s H E fnb) body t/\t {nx:=λ_ H'=>Q .non H',rt:=Q} (start N vs) H) :
  FnOk P w K mg base CX (k+1) f (z7v name qual params body scope dV kV doc pm an cdv ct) ps sp:=by
 refine⟨len,λA outer s H args us vs Q E hr e0 hb r hsp=>?_⟩
 have hl:=len _ _ _ _ hsp
 have KX:K.In s.heap:=e0.mod.kin.keeps λb o e=>(e0.bs b o e).1
 have lim:s.heap.NoLimit:=e0.mod.nolimit.keeps λb o e=>(e0.bs b o e).1
 have hkind:∀y∈ps.zip us,scope.names.lookup y.1=some .local\/(scope.names.lookup y.1=some .cell/\((zdt (s.heap.objs.size+1) scope.names []).lookup y.1).isSome=true):=λ⟨n,v⟩ hy=>by
  rcases S.par n (zaJ hy).1 with q|q
  ·exact .inl q
  ·exact .inr ⟨q,zau _ _ _ (.inl q)⟩
 refine codeAny_call_function hr.depth (KX _ _ lk) rfl S.co S.gen rfl (PySem.W.codeRec_of KX hcd) (hb _ _ _ _ ?_)
 refine wpAny_newFunctionEnv_cells S.kind hkind λenv he s1 x=>?_
 subst he
 refine⟨lim.keeps x.toInCall.keep,codeAny_func ?_⟩
 obtain⟨t,ht,hq⟩:=hbody A outer s H vs Q E (hr.deeper _) hsp λy c h=>have l:=z9D (x.above y c (z7n h));⟨l,e0.hok.fresh l⟩
 have I:Inv (JO CX P w K mg base N qual scope f cdv A outer s H E fnb) [] (start N vs) H s1:=Kt S hr.hd e0 hl r x
 refine z7f (ht [] s1 (start N vs) H _ I hq) (λfl s' hs=>?_) λe s' hs=>hs
 have fin:∀{σ':St} {H':Hp} {v:V} {u:Value},Inv (JO CX P w K mg base N qual scope f cdv A outer s H E fnb) [] σ' H' s'->RelV v u->Q v H'->CE outer P w H s Q u s':=
  λ{σ' H' v u} J rv q=>⟨v,H',J.os,J.bare,J.base,J.hok,rv,q⟩
 cases fl with
 |ret u=>
  obtain⟨v,σ',H',J,rv,q⟩:=hs
  exact fin J rv q
 |next=>
  obtain⟨σ',H',J,q⟩:=hs
  exact fin (v:=V.non) (u:=z7z) J rfl q
 |brk=>
  obtain⟨_,_,_,q⟩:=hs
  exact z7c q
 |cont=>
  obtain⟨_,_,_,q⟩:=hs
  exact z7c q
end L2
namespace HT
open PySem PyProof.Rows
noncomputable def lexLt:List Int->List Int->Bool
 |[],[]=>false
 |[],_::_=>true
 |_::_,[]=>false
 |x::xs,y::ys=>if x=y then lexLt xs ys else decide (x<y)
theorem Wy(x y:Int)(xs ys:List Int):lexLt (x::xs) (y::ys)=if x=y then lexLt xs ys else decide (x<y):=rfl
theorem uz:lexLt [] []=false:=rfl
theorem yP(y:Int)(ys:List Int):lexLt [] (y::ys)=true:=rfl
theorem ye(x:Int)(xs:List Int):lexLt (x::xs) []=false:=rfl
theorem ym(A:z7b)(s:z6z)(a:Int)(t:Tok)(c:Int)(u:Tok):∃e,z8u A s (.int a t) (.int c u) e/\(e=true↔a=c):=
 ⟨(a == c),zbt a t c u,by simp⟩
theorem U4(A:z7b)(s:z6z)(a:Int)(t:Tok)(c:Int)(u:Tok)(prog:z7a)(w:z7o)(E:Value->z6z->Prop)(Q:Value->z6z->Prop)(h:Q (.bool (decide (a<c))) s) :
  z6I (z6L prog w) A (richCompare .Lt (.int a t) (.int c u)) Q E s:=
 (zdO h:z6I (z6L prog w) A (z7u .Lt (.int a t) (.int c u)) Q E s)
section
open PySem.SeqAt
open PySem.AutoSeq1 (wpAny_loadPart')
open PySem.MeetsSeq PySem.MeetsSeq2 PySem.MeetsSeq3
theorem uo(l b:Addr)(items items2:Array Value)(n n2:Nat)(dd dd2:Option Addr)(sl sl2:Array (Option Value))(ns ms:List Int)(hi:z8v items.toList ns)(hj:z8v items2.toList ms) :
  Meets (zcC.«tuple.__lt__» ⟨[.ref l,.ref b],[]⟩)
   (λ_ R s=>s.heap.get? l=some {cls:=.type "tuple",dict:=dd,data:=.seq items n,slots:=sl}/\s.heap.get? b=some {cls:=.type "tuple",dict:=dd2,data:=.seq items2 n2,slots:=sl2}/\
    R (.ok (.ret (.bool (lexLt ns ms)))) s):=
 .of_wp λprog w A R s h=>by
  obtain⟨hp,g,d,tk,os⟩:=s;obtain⟨hl,hb,h⟩:=h
  have f2:=AutoSeq1.sub_tuple_tuple
  have z1:items.size=ns.length:=by rw[←hi.length];simp
  have z2:items2.size=ms.length:=by rw[←hj.length];simp
  wp_walk using zcs hl,zcs hb,wpAny_forIn_list _ (λrest b s'=>b.1=none/\s'=⟨hp,g,d,tk,os⟩/\∃(vs ws:List Value) (ns' ms':List Int),rest=vs.zip ws/\
   z8v vs ns'/\z8v ws ms'/\ns'.length+items2.size=ms'.length+items.size/\R (.ok (.ret (.bool (lexLt ns' ms')))) ⟨hp,g,d,tk,os⟩) _
  case turn=>
   rintro⟨y,x⟩ rest b s' ⟨hb',rfl,vs,ws,ns',ms',hz,hvi,hwi,hlen,hR⟩
   cases hvi with
   |nil=>rw[List.zip_nil_left] at hz;cases hz
   |cons a t hvi'=>
    cases hwi with
    |nil=>rw[List.zip_nil_right] at hz;cases hz
    |cons c u hwi'=>
     rw[zbu] at hz
     injection hz with hyx hrest
     injection hyx with hy hx
     subst hy hx
     rw[Wy] at hR
     simp only[z6Y] at hlen
     obtain⟨e,he,hiff⟩:=ym A.in1 ⟨hp,g,d,tk,os⟩ a t c u
     refine z6w (he prog w _ _ ?_)
     cases e with
     |true=>
      rw[if_pos (hiff.mp rfl)] at hR
      wp_walk
      exact⟨rfl,rfl,_,_,_,_,hrest,hvi',hwi',by omega,hR⟩
     |false=>
      rw[if_neg (λq=>absurd (hiff.mpr q) z6_)] at hR
      have hri:=U4 A.in1 ⟨hp,g,d,tk,os⟩ a t c u prog w
      wp_walk using hri
      exact⟨_,rfl,by simpa using hR⟩
  case fin=>
   rintro⟨b1,b2⟩ s' ⟨hb',rfl,vs,ws,ns',ms',hz,hvi,hwi,hlen,hR⟩
   simp only at hb'
   subst hb'
   have hv:lexLt ns' ms'=decide (items.size<items2.size):=by
    cases hvi with
    |nil=>
     cases hwi with
     |nil=>
      simp only[z7s] at hlen
      rw[uz]
      exact (decide_eq_false (by omega)).symm
     |cons c u hw=>
      simp only[z7s,z6Y] at hlen
      rw[yP]
      exact (decide_eq_true (by omega)).symm
    |cons a t hv=>
     cases hwi with
     |nil=>
      simp only[z7s,z6Y] at hlen
      rw[ye]
      exact (decide_eq_false (by omega)).symm
     |cons c u hw=>
      rw[zbu] at hz
      cases hz
   rw[hv] at hR
   wp_walk
   exact⟨_,rfl,by simpa[zc5] using hR⟩
  case h=>
   exact⟨rfl,rfl,items.toList,items2.toList,ns,ms,rfl,hi,hj,by omega,h⟩
end
section
variable {prog:Program}{w:World}{A:Around}{E:Value->Shared->Prop}{s:Shared}
theorem lt_tupInts{l b:Addr}{items items2:Array Value}{ns ms:List Int}{Q:Value->z6z->Prop}(hl:zcH s.heap l items)(hb:zcH s.heap b items2)(hi:z8v items.toList ns)(hj:z8v items2.toList ms)
  (hu:A.units<cLine) (h:Q (.bool (lexLt ns ms)) s):z6I (z6L prog w) A (z7u .Lt (.ref l) (.ref b)) Q E s:=by
 obtain⟨⟨cls,dd,data,sl⟩,ho,hc,n,hd⟩:=id hl
 obtain⟨⟨cls2,dd2,data2,sl2⟩,ho2,hc2,n2,hd2⟩:=id hb
 simp only at hc hd hc2 hd2
 subst hc hd hc2 hd2
 exact richCompare_meets_room (op:=.Lt) ⟨_,ho,rfl⟩ ⟨_,ho2,rfl⟩ PySem.F.slot_tuple_lt PySem.F.entry_tuple_lt (PySem.F.args_tuple_lt_2 _ _) (uo l b items items2 n n2 dd dd2 sl sl2 ns ms hi hj)
  ⟨ho,ho2,show zbq (lexLt ns ms)≠Value.notImplemented/\Q (.bool (lexLt ns ms)) s from ⟨(λx=>nomatch x),h⟩⟩ hu
theorem cat_tup{t b:Addr}{vs ws:List Value}{Q:Value->z6z->Prop}(ht:zcH s.heap t vs.toArray)(hb:zcH s.heap b ws.toArray)(hv:vs≠[])
  (h1:ws=[]->Q (.ref t) s) (h2:ws≠[]->Q (.ref s.heap.objs.size) {s with heap:=s.heap.push {cls:=.type "tuple",data:=.seq (vs++ws).toArray}})
  (hsz:vs.length+ws.length<=sizeLine):z6I (z6L prog w) A (z88 .Add (.ref t) (.ref b)) Q E s:=by
 obtain⟨⟨cls,dd,data,sl⟩,ho,hc,n,hd⟩:=id ht
 obtain⟨⟨cls2,dd2,data2,sl2⟩,ho2,hc2,n2,hd2⟩:=id hb
 simp only at hc hd hc2 hd2
 subst hc hd hc2 hd2
 have e:vs.toArray++ws.toArray=(vs++ws).toArray:=by simp
 by_cases hw:ws=[]
 ·exact zbP ⟨_,ho,rfl⟩ ⟨_,ho2,rfl⟩ zak zbj z9d z94 (z8W _ _)
   (tuple_addW1 t b vs.toArray ws.toArray n n2 dd dd2 sl sl2 (by simpa using hv) (by simp[hw])) ⟨ho,ho2,h1 hw⟩
 ·refine zbP ⟨_,ho,rfl⟩ ⟨_,ho2,rfl⟩ zak zbj z9d z94 (z8W _ _)
   (tuple_addW2 t b vs.toArray ws.toArray n n2 dd dd2 sl sl2 (by simpa using hv) (by simpa using hw) (by rw[z6V,z6V];exact hsz)) ⟨ho,ho2,?_⟩
  rw[e]
  exact h2 hw
noncomputable def sIx(n d:Nat):Option Int->Nat
 |none=>d
 |some v=>if v<0 then (v+(n:Int)).toNat else min v.toNat n
theorem z4g(n d:Nat)(hd:d<=n)(o:Option Int):sIx n d o<=n:=by
 cases o with
 |none=>exact hd
 |some v=>
  show (if v<0 then (v+(n:Int)).toNat else min v.toNat n)<=n
  by_cases hv:v<0
  ·rw[if_pos hv];omega
  ·rw[if_neg hv];exact Nat.min_le_right _ _
theorem VQ(v:Int)(n d:Nat):(if v<0 then max (v+(n:Int)) 0 else min v (n:Int))=((sIx n d (some v):Nat):Int):=by
 show (if v<0 then max (v+(n:Int)) 0 else min v (n:Int))=(((if v<0 then (v+(n:Int)).toNat else min v.toNat n):Nat):Int)
 by_cases hv:v<0
 ·simp only[if_pos hv];omega
 ·simp only[if_neg hv];omega
theorem WR(lo hi:Option Int)(n:Nat):z8S lo hi 1 (n:Int)=(((sIx n 0 lo:Nat):Int),((sIx n n hi:Nat):Int)):=by
 have h1:¬((1:Int)<0):=by omega
 unfold z8S
 simp only[h1,if_false]
 refine Prod.ext ?_ ?_
 ·cases lo with
  |none=>rfl
  |some v=>exact VQ v n 0
 ·cases hi with
  |none=>rfl
  |some v=>exact VQ v n n
theorem WQ(i j:Nat):z86 (i:Int) (j:Int) 1=j-i:=by
 unfold z86
 have h1:(1:Int) > 0:=by omega
 simp only[h1,if_true,zbQ]
 split<;>omega
theorem y9{v:Value}{o:Option Int}{Q:Option Int->z6z->Prop}(p:zav v o)(h:Q o s):z6I (z6L prog w) A (zct v) Q E s:=by
 cases p with
 |none=>exact slicePart_none h
 |int i t=>exact slicePart_int h
theorem sliceApplied_gen{sl:Addr}{vl vu:Value}{lo hi:Option Int}{n:Nat}{Q:Int×Int×Nat->z6z->Prop}(hs:s.heap.IsSliceOf sl vl vu .none)(pl:zav vl lo)(pu:zav vu hi)
  (h:Q (((sIx n 0 lo:Nat):Int),1,sIx n n hi-sIx n 0 lo) s):z6I (z6L prog w) A (z9O (.ref sl) (pure (n:Int))) Q E s:=by
 obtain⟨os,hos,hcs,hds⟩:=id hs
 unfold z9O zd9
 refine z6w (z6w (z7W hos hds (x:=vl) rfl (z6w (z7W hos hds (x:=vu) rfl (z6w (z7W hos hds (x:=.none) rfl (z6F ?_)))))))
 refine z6w (slicePart_none ?_)
 show z6I _ _ (if ((1:Int) == 0)=true then _ else _) _ _ s
 rw[if_neg (by decide)]
 refine z6w (y9 pl (z6w (y9 pu (z6w (z6F ?_)))))
 show z6I _ _ (match z8S lo hi 1 (n:Int) with|(lo,hi)=>pure (lo,(1:Int),z86 lo hi 1)) _ _ s
 rw[WR lo hi n]
 show z6I _ _ (pure (((sIx n 0 lo:Nat):Int),(1:Int),z86 ((sIx n 0 lo:Nat):Int) ((sIx n n hi:Nat):Int) 1)) _ _ s
 rw[WQ]
 exact z6F h
theorem KU(xs:Array Value)(i k:Nat):((z7_ k).filterMap λ(m:Nat)=>xs[((i:Int)+(m:Int) * 1).toNat]?).toArray=((xs.toList.drop i).take k).toArray:=by
 have e:(λ(m:Nat)=>xs[((i:Int)+(m:Int) * 1).toNat]?)=λm=>xs[i+m]?:=by
  funext m
  have:((i:Int)+(m:Int) * 1).toNat=i+m:=by omega
  rw[this]
 rw[e]
 have:=pick_run xs i k
 rw[List.filterMap_map] at this
 have e2:((λx=>xs[x]?) ∘ λx=>i+x)=λm=>xs[i+m]?:=rfl
 rw[e2] at this
 rw[this]
theorem getItem_tuple_cut{t sl:Addr}{items:Array Value}{vl vu:Value}{lo hi:Option Int}{Q:Value->z6z->Prop}(ht:zcH s.heap t items)(hs:s.heap.IsSliceOf sl vl vu .none)(pl:zav vl lo)(pu:zav vu hi)
  (hw:¬(sIx items.size 0 lo=0/\sIx items.size items.size hi=items.size))
  (h:Q (.ref s.heap.objs.size) {s with heap:=s.heap.push {cls:=.type "tuple",data:=.seq ((items.toList.drop (sIx items.size 0 lo)).take (sIx items.size items.size hi-sIx items.size 0 lo)).toArray}})
  (hsz:items.size<=sizeLine):z6I (z6L prog w) A (z9o (.ref t) (.ref sl)) Q E s:=by
 have htake:sizeOk (.seq ((items.toList.drop (sIx items.size 0 lo)).take (sIx items.size items.size hi-sIx items.size 0 lo)).toArray):=by
  show ((items.toList.drop (sIx items.size 0 lo)).take (sIx items.size items.size hi-sIx items.size 0 lo)).toArray.size<=sizeLine
  rw[z6V,z8m,z8Q,z9A]
  omega
 have hj:sIx items.size items.size hi<=items.size:=z4g _ _ (z6E _) hi
 obtain⟨os,hos,hcs,hds⟩:=id hs
 have hTs:s.TypeIs (.ref sl) "slice":=⟨os,hos,hcs⟩
 unfold z9o
 try with_reducible refine z77 ?_
 first|refine z6w (z6F ?_)|skip
 refine z6w (zbR ht.typeIs (by decide) ?_)
 refine z6w (zal (name:=z8R "__getitem__") ht.typeIs z7G
  (zcc z7G ht.typeIs zbb ?_ (zbv _ _)))
 show z6I _ _ (z9P (.ref t) >>= _) _ _ s
 refine z6w (tupleItemsOf_ ht ?_)
 refine z6w (zaw hTs ?_)
 rw[if_pos (by decide)]
 refine z6w (sliceApplied_gen hs pl pu ?_)
 have hno:¬((((sIx items.size 0 lo:Nat):Int) == 0&&(1:Int) == 1&&(sIx items.size items.size hi-sIx items.size 0 lo) == items.size)=true):=by
  intro q
  rw[z6x,z6x] at q
  have q1:((sIx items.size 0 lo:Nat):Int)=0:=eq_of_beq q.1.1
  have q2:sIx items.size items.size hi-sIx items.size 0 lo=items.size:=eq_of_beq q.2
  exact hw ⟨by omega,by omega⟩
 show z6I _ _ (if (((sIx items.size 0 lo:Nat):Int) == 0&&(1:Int) == 1&&(sIx items.size items.size hi-sIx items.size 0 lo) == items.size)=true then _ else _) _ _ s
 rw[if_neg hno,KU]
 first
  |exact z6w (m:=z8g _) (z7Q (z6F ⟨_,rfl,z6F h⟩) htake)
  |exact z6w (m:=z8g _) (z7Q (z6w (z6F (z6F ⟨_,rfl,z6F h⟩))) htake)
  |exact z6w (z6w (m:=z8g _) (z7Q (z6F (z6F ⟨_,rfl,z6F h⟩)) htake))
  |exact z6w (z6w (m:=z8g _) (z7Q (z6F ⟨_,rfl,z6F h⟩) htake))
end
end HT
namespace L2
open PySem PySem.Spec PyProof.Rows
noncomputable abbrev TO:=St->Hp->(Option Int->Hp->Prop)->Prop
noncomputable def PO (X:Cx)(e:Option Expr)(t:TO):Prop:=
 ∀(pins:List (Addr×Obj)) (s:z6z) (σ:St) (H:Hp) (Q:Option Int->Hp->Prop),Inv X pins σ H s->t σ H Q->
  z6I (z6L X.prog X.w) X.A (evalPart e X.env) (λu s'=>∃o H',Inv X pins σ H' s'/\zav u o/\Q o H') X.xe s
noncomputable def z0Z:TO:=λ_ H Q=>Q none H
noncomputable def z4E(t:TE):TO:=λσ H Q=>t σ H λx H1=>∃i,x=.int i/\Q (some i) H1
theorem intsAre_of{ns:List Int}:∀{us:List Value},Vals (ns.map V.int) us->z8v us ns:=by
 induction ns with
 |nil=>intro us r;rw[zbS] at r;cases r;exact .nil
 |cons n ns ih=>
  intro us r
  rw[z7g] at r
  cases r with
  |cons r1 r2=>
   obtain⟨t,e⟩:=r1
   subst e
   exact .cons n t (ih r2)
section
variable {X:Cx}{e:Expr}{te:TE}{lo hi:Option Expr}{tl th:TO}{pos p2:Pos}
theorem z0A:PO X none z0Z:=by
 intro pins s σ H Q I h
 rw[evalPart_none]
 exact z6F ⟨none,H,I,.none,h⟩
theorem Uq(h:PE X e te):PO X (some e) (z4E te):=by
 intro pins s σ H Q I hw
 rw[evalPart_some]
 refine thn (h pins s σ H _ I hw) λu s1 ⟨x,H1,I1,r1,q1⟩=>?_
 obtain⟨i,rfl,q⟩:=q1
 obtain⟨t,rfl⟩:=r1
 exact⟨some i,H1,I1,.int i t,q⟩
noncomputable def SlR (X:Cx)(r:V->Option Int->Option Int->Hp->VK->Prop):Prop:=
 ∀(pins:List (Addr×Obj)) (s:z6z) (σ:St) (H:Hp) (x:V) (v vl vu:Value) (lo hi:Option Int) (sl:Addr) (Q:VK),Inv X pins σ H s->RelV x v->s.heap.IsSliceOf sl vl vu .none->zav vl lo->zav vu hi->r x lo hi H Q->
  ∃T id,zax (.type T) "__getitem__"=pure (some (.builtin id))/\s.TypeIs v T/\z6I (z6L X.prog X.w) X.A (z9o v (.ref sl)) (EP X pins σ Q) X.xe s
theorem SlR.or{r r':V->Option Int->Option Int->Hp->VK->Prop}(h:SlR X r)(h':SlR X r'):SlR X (λx lo hi H Q=>r x lo hi H Q\/r' x lo hi H Q):=by
 intro pins s σ H x v vl vu lo hi sl Q I rx hs pl pu q
 rcases q with q|q
 ·exact h pins s σ H x v vl vu lo hi sl Q I rx hs pl pu q
 ·exact h' pins s σ H x v vl vu lo hi sl Q I rx hs pl pu q
noncomputable def tSl (r:V->Option Int->Option Int->Hp->VK->Prop)(te:TE)(tl th:TO):TE:=λσ H Q=>te σ H λx H1=>tl σ H1 λl H2=>th σ H2 λu H3=>r x l u H3 Q
theorem U5{r:V->Option Int->Option Int->Hp->VK->Prop}(hr:SlR X r)(he:PE X e te)(hl:PO X lo tl)(hu:PO X hi th):PE X (.Subscript e (.Slice lo hi none p2) pos) (tSl r te tl th):=by
 intro pins s σ H Q I h
 refine zcO (thn (he pins s σ H _ I h) λv s1 ⟨x,H1,I1,r1,q1⟩=>?_)
 refine wpAny_Slice (thn (hl pins s1 σ H1 _ I1 q1) λvl s2 ⟨l,H2,I2,pl,q2⟩=>thn (hu pins s2 σ H2 _ I2 q2) λvu s3 ⟨u,H3,I3,pu,q3⟩=>?_)
 rw[evalPart_none]
 refine z6F ?_
 have I4:Inv X pins σ H3 {s3 with heap:=s3.heap.push {cls:=.type "slice",data:=.fields #[vl,vu,.none]}}:=I3.kept (t':=s3.toks) λb ob q=>z6y _ q
 obtain⟨T,id,hT,ht,hg⟩:=hr pins {s3 with heap:=s3.heap.push {cls:=.type "slice",data:=.fields #[vl,vu,.none]}} σ H3 x v vl vu l u s3.heap.objs.size Q I4 r1 (zdR ..) pl pu q3
 show z6I (z6L X.prog X.w) X.A (zbk e (.Slice lo hi none p2) v (.ref s3.heap.objs.size)) (EP X pins σ Q) X.xe {s3 with heap:=s3.heap.push {cls:=.type "slice",data:=.fields #[vl,vu,.none]}}
 exact tail_any (ops:=[.ref s3.heap.objs.size,v]) ht hT hg (by with_unfolding_all rfl)
noncomputable def uF (xs:List V)(lo hi:Option Int):List V:=(xs.drop (HT.sIx xs.length 0 lo)).take (HT.sIx xs.length xs.length hi-HT.sIx xs.length 0 lo)
theorem xr(xs:List V)(lo hi:Option Int):(uF xs lo hi).length<=xs.length:=by
 unfold uF
 rw[z8m,z8Q]
 omega
noncomputable def z6o (K:z6C):V->Option Int->Option Int->Hp->VK->Prop:=λx lo hi H Q=>∃a xs,x=.ref a/\SqT K H a xs/\
 ¬(HT.sIx xs.length 0 lo=0/\HT.sIx xs.length xs.length hi=xs.length)/\∀p,H p=none->Q (.ref p) (upd H p (.tup (uF xs lo hi)))
theorem z3D:SlR X (z6o X.K):=by
 intro pins s σ H x v vl vu lo hi sl Q I rx hs pl pu h
 obtain⟨a,xs,rfl,hx,hw,q⟩:=h
 cases rx
 obtain⟨its,r,ht,hz⟩:=I.tuple hx
 have hlen:its.toArray.size=xs.length:=by rw[z6V];exact r.length.symm
 refine⟨"tuple",_,z7G.lookup,ht.typeIs,?_⟩
 refine HT.getItem_tuple_cut ht hs pl pu (by rw[hlen];exact hw) ?_ (by rw[hlen];exact hz)
 rw[hlen]
 refine⟨.ref s.heap.objs.size,_,I.laid (t':=s.toks) (o:=.tup (uF xs lo hi)) (λb ob q=>z6y _ q) (z6E _) ?_,rfl,q _ (I.hok.fresh (z6E _))⟩
 exact⟨z6X (xr xs lo hi) hz,_,(r.drop (HT.sIx xs.length 0 lo)).take (HT.sIx xs.length xs.length hi-HT.sIx xs.length 0 lo),zdY _ _⟩
noncomputable def z6a (K:z6C):R2:=λx y H Q=>∃a b ns ms,x=.ref a/\y=.ref b/\SqT K H a (ns.map V.int)/\SqT K H b (ms.map V.int)/\Q (.bl (HT.lexLt ns ms)) H
theorem z2Q(hu:X.A.units<cLine):OpR X (z7u .Lt) (z6a X.K):=by
 intro pins s σ H x y v u Q I rx ry h
 obtain⟨a,b,ns,ms,rfl,rfl,ha,hb,q⟩:=h
 cases rx
 cases ry
 obtain⟨its,r1,p1,_⟩:=I.tuple ha
 obtain⟨its2,r2,p2,_⟩:=I.tuple hb
 have i1:z8v its.toArray.toList ns:=intsAre_of r1
 have i2:z8v its2.toArray.toList ms:=intsAre_of r2
 exact HT.lt_tupInts p1 p2 i1 i2 hu ⟨.bl (HT.lexLt ns ms),H,I,rfl,q⟩
noncomputable def z5P(K:z6C):R2:=λx y H Q=>∃a b xs ys,x=.ref a/\y=.ref b/\SqT K H a xs/\SqT K H b ys/\xs≠[]/\xs.length+ys.length<=sizeLine/\
 (ys=[]->Q (.ref a) H)/\(ys≠[]->∀p,H p=none->Q (.ref p) (upd H p (.tup (xs++ys))))
theorem Vals.nil_iff{xs:List V}{us:List Value}(r:Vals xs us):us=[]↔xs=[]:=by
 cases r with
 |nil=>simp
 |cons _ _=>simp
theorem z0O:OpR X (z88 .Add) (z5P X.K):=by
 intro pins s σ H x y v u Q I rx ry h
 obtain⟨a,b,xs,ys,rfl,rfl,ha,hb,hx,hz,q1,q2⟩:=h
 cases rx
 cases ry
 obtain⟨its,r1,p1,_⟩:=I.tuple ha
 obtain⟨its2,r2,p2,_⟩:=I.tuple hb
 refine HT.cat_tup p1 p2 (λz=>hx (r1.nil_iff.mp z)) (λz=>⟨.ref a,H,I,rfl,q1 (r2.nil_iff.mp z)⟩) (λz=>?_) (by rw[←r1.length,←r2.length];exact hz)
 refine⟨.ref s.heap.objs.size,_,I.laid (t':=s.toks) (o:=.tup (xs++ys)) (λb ob q=>z6y _ q) (z6E _) ?_,rfl,q2 (λw=>z (r2.nil_iff.mpr w)) _ (I.hok.fresh (z6E _))⟩
 exact⟨by rw[z72];exact hz,_,r1.append r2,zdY _ _⟩
end
end L2
namespace L2
open PySem PySem.Spec PyProof.Rows
noncomputable def ixN(n:Nat)(i:Int):Option Nat:=if 0<=i then (if i<n then some i.toNat else none) else if -(n:Int)<=i then some (i+n).toNat else none
noncomputable def atI {α:Type}(xs:List α)(i:Int):Option α:=(ixN xs.length i).bind λj=>xs[j]?
theorem UC{n:Nat}{i:Int}{j:Nat}(h:ixN n i=some j):seqIndex? i n=some j/\j<n /\ -(n:Int)<=i/\i<n:=by
 unfold ixN at h
 by_cases h0:0<=i
 ·rw[if_pos h0] at h
  by_cases h1:i<n
  ·rw[if_pos h1] at h
   have e:i.toNat=j:=z6A h
   exact⟨by rw[seqIndex_of h0 h1,e],by omega,by omega,h1⟩
  ·rw[if_neg h1] at h;cases h
 ·rw[if_neg h0] at h
  by_cases h1:-(n:Int)<=i
  ·rw[if_pos h1] at h
   have e:(i+n).toNat=j:=z6A h
   exact⟨by rw[seqIndex_neg (by omega) h1,e],by omega,h1,by omega⟩
  ·rw[if_neg h1] at h;cases h
theorem ZG{α:Type}{xs:List α}{i:Int}{v:α}(h:atI xs i=some v):∃j,seqIndex? i xs.length=some j/\xs[j]?=some v/\j<xs.length /\ -(xs.length:Int)<=i/\i<xs.length:=by
 unfold atI at h
 cases e:ixN xs.length i with
 |none=>rw[e] at h;cases h
 |some j=>
  rw[e] at h
  obtain⟨h1,h2,h3,h4⟩:=UC e
  exact⟨j,h1,h,h2,h3,h4⟩
noncomputable def z0d(b:Expr):Prop:=∀o i,zaZ b false o i=operate [o,i] (z9o o i)
noncomputable def IxR (X:Cx)(r:R2):Prop:=
 ∀(value slice:Expr) (pins:List (Addr×Obj)) (s:z6z) (σ:St) (H:Hp) (x y:V) (v u:Value) (Q:VK),Inv X pins σ H s->RelV x v->RelV y u->r x y H Q->
  zaZ slice false v u=operate [v,u] (z9o v u)->z6I (z6L X.prog X.w) X.A (zbk value slice v u) (EP X pins σ Q) X.xe s
noncomputable def MtR (X:Cx)(id:String)(r:V->List V->Hp->VK->Prop):Prop:=
 ∀(pins:List (Addr×Obj)) (s:z6z) (σ:St) (H:Hp) (x:V) (xs:List V) (v:Value) (us:List Value) (Q:VK),Inv X pins σ H s->RelV x v->Vals xs us->r x xs H Q->
  z6I (z6L X.prog X.w) X.A (call (.builtin id) (v::us)) (EP X pins σ Q) X.xe s
section
variable {X:Cx}{a b:Expr}{ta tb:TE}{pos:Pos}
noncomputable def z6c (K:z6C):R2:=λx y H Q=>∃p xs i v,x=.ref p/\y=.int i/\SqL K H p xs/\atI xs i=some v/\Q v H
noncomputable def z6i (K:z6C):R2:=λx y H Q=>∃p xs i v,x=.ref p/\y=.int i/\SqT K H p xs/\atI xs i=some v/\Q v H
noncomputable def z6e:R2:=λx y H Q=>∃z i c,x=.str z/\y=.int i/\z.length<=sizeLine/\atI z.cps.toList i=some c/\Q (.str ⟨#[c]⟩) H
theorem VG:IxR X (z6c X.K):=by
 intro value slice pins s σ H x y v u Q I rx ry h hs
 obtain⟨p,xs,i,z,rfl,rfl,hq,he,q⟩:=h
 cases rx
 obtain⟨t,rfl⟩:=ry
 obtain⟨its,r,pl,hz⟩:=I.list hq
 obtain⟨j,h1,h2,h3,h4,h5⟩:=ZG he
 obtain⟨w,ew,rw'⟩:=r.get h2
 have hl:=r.length
 have hn:=y_
 have fin:EP X pins σ Q w s:=⟨z,H,I,rw',q⟩
 by_cases h0:0<=i
 ·have hj:i.toNat=j:=by
   rw[seqIndex_of h0 h5] at h1
   exact z6A h1
  exact item_listR pl.isList h0 (by omega) (by rw[hj];simpa using ew) fin hs
 ·have hj:(i+(its.toArray.size:Int)).toNat=j:=by
   rw[seqIndex_neg (by omega) h4] at h1
   rw[z6V,←hl]
   exact z6A h1
  exact zay (x:=w) pl.isList.typeIs zbT.lookup
   (wpAny_getItem_list_neg (Q:=λr s'=>r=w/\EP X pins σ Q r s') pl.isList (by omega) (by rw[z6V]<;>omega) (by omega) (by rw[hj];simpa using ew) ⟨rfl,fin⟩) hs
theorem z3t:IxR X (z6i X.K):=by
 intro value slice pins s σ H x y v u Q I rx ry h hs
 obtain⟨p,xs,i,z,rfl,rfl,hq,he,q⟩:=h
 cases rx
 obtain⟨t,rfl⟩:=ry
 obtain⟨its,r,pl,hz⟩:=I.tuple hq
 obtain⟨j,h1,h2,h3,h4,h5⟩:=ZG he
 obtain⟨w,ew,rw'⟩:=r.get h2
 have hl:=r.length
 have hn:=y_
 have fin:EP X pins σ Q w s:=⟨z,H,I,rw',q⟩
 exact zay (x:=w) pl.typeIs z7G.lookup
  (getItem_tuple (j:=j) (Q:=λr s'=>r=w/\EP X pins σ Q r s') pl (by omega) (by omega) (by rw[z6V,←hl];exact h1) (by simpa using ew) ⟨rfl,fin⟩) hs
theorem z4e:IxR X z6e:=by
 intro value slice pins s σ H x y v u Q I rx ry h hs
 obtain⟨z,i,c,rfl,rfl,hz,he,q⟩:=h
 obtain⟨t,rfl⟩:=rx
 obtain⟨t',rfl⟩:=ry
 obtain⟨j,h1,h2,h3,h4,h5⟩:=ZG he
 have hl:z.cps.toList.length=z.length:=by simp[Str.length]
 rw[hl] at h1 h4 h5
 have hn:=y_
 exact tail_any (zcP s z t) slot_str_getitem.lookup (getItem_str (c:=c) (by
  have e1:decide (i < -(2 ^ 63:Int))=false:=decide_eq_false (by omega)
  have e2:decide (i ≥ 2 ^ 63)=false:=decide_eq_false (by omega)
  rw[e1,e2,Bool.or_false]) (by rw[h1];simpa using h2) ⟨.str ⟨#[c]⟩,H,I.tok _,⟨_,rfl⟩,q⟩) hs
theorem ZO(lo hi:Option Int)(n:Nat):(z95 lo hi none n).1=((HT.sIx n 0 lo:Nat):Int)/\(z95 lo hi none n).2.1=((HT.sIx n n hi:Nat):Int)/\(z95 lo hi none n).2.2=1:=by
 refine⟨?_,?_,rfl⟩
 ·cases lo with
  |none=>simp[z95,HT.sIx]
  |some i=>
   simp only[z95,HT.sIx,zcd,show (1:Int) > 0 by decide,if_true]
   by_cases h:i<0
   ·simp only[h,if_true]<;>omega
   ·simp only[h,if_false]<;>omega
 ·cases hi with
  |none=>simp[z95,HT.sIx]
  |some i=>
   simp only[z95,HT.sIx,zcd,show (1:Int) > 0 by decide,if_true]
   by_cases h:i<0
   ·simp only[h,if_true]<;>omega
   ·simp only[h,if_false]<;>omega
theorem uq(its:List Value)(lo hi:Option Int):slicePick its.toArray lo hi none=((its.drop (HT.sIx its.length 0 lo)).take (HT.sIx its.length its.length hi-HT.sIx its.length 0 lo)).toArray:=by
 obtain⟨h1,h2,h3⟩:=ZO lo hi its.toArray.size
 unfold slicePick
 rw[h1,h2,h3]
 simp only[sliceRange_one,pick_run,z6V]<;>rfl
noncomputable def z6g (K:z6C):V->Option Int->Option Int->Hp->VK->Prop:=λx lo hi H Q=>∃a xs,x=.ref a/\SqL K H a xs/\∀p,H p=none->Q (.ref p) (upd H p (.lst (uF xs lo hi)))
theorem UJ:SlR X (z6g X.K):=by
 intro pins s σ H x v vl vu lo hi sl Q I rx hs pl pu h
 obtain⟨a,xs,rfl,hx,q⟩:=h
 cases rx
 obtain⟨its,r,ht,hz⟩:=I.list hx
 have hlen:=r.length
 refine⟨"list",_,zbT.lookup,ht.isList.typeIs,?_⟩
 refine wpAny_getItem_list_slice ht.isList hs pl pu .none (by simp) ?_ (by rw[z6V]<;>omega)
 rw[uq,←hlen]
 refine⟨.ref s.heap.objs.size,_,I.laid (t':=s.toks) (o:=.lst (uF xs lo hi)) (λb ob q=>z6y _ q) (z6E _) ?_,rfl,q _ (I.hok.fresh (z6E _))⟩
 exact⟨z6X (xr xs lo hi) hz,_,0,(r.drop (HT.sIx xs.length 0 lo)).take (HT.sIx xs.length xs.length hi-HT.sIx xs.length 0 lo),z71 _ rfl⟩
theorem vo:z1z X (.builtin "len") (λxs H Q=>∃p ys,xs=[.ref p]/\(SqL X.K H p ys\/SqT X.K H p ys)/\Q (.int ys.length) H):=by
 intro pins s σ H xs us Q I r h
 obtain⟨p,ys,rfl,hq,q⟩:=h
 obtain⟨u,rfl,rx⟩:=vals1 r
 cases rx
 have hn:=y_
 rcases hq with hq|hq
 ·obtain⟨its,r',pl,hz⟩:=I.list hq
  have hlen:=r'.length
  exact Calls.call_len_list pl.isList (by simp only[z6V]<;>omega) ⟨.int ys.length,H,I.tok _,⟨s.toks+1,by rw[z6V,hlen]⟩,q⟩
 ·obtain⟨its,r',pl,hz⟩:=I.tuple hq
  have hlen:=r'.length
  exact len_tuple pl (by simp only[z6V]<;>omega) ⟨.int ys.length,H,I.tok _,⟨s.toks+1,by rw[z6V,hlen]⟩,q⟩
theorem ZV:z1z X (.builtin "len") (λxs H Q=>∃z,xs=[.str z]/\z.length<=sizeLine/\Q (.int z.length) H):=by
 intro pins s σ H xs us Q I r h
 obtain⟨z,rfl,hz,q⟩:=h
 obtain⟨u,rfl,t,rfl⟩:=vals1 r
 have hn:=y_
 exact len_str (by omega) ⟨.int z.length,H,I.tok _,⟨_,rfl⟩,q⟩
noncomputable def tyV (K:z6C)(T:String)(x:V)(H:Hp):Prop:=match x with
 |.str _=>T="str"
 |.int _=>T="int"
 |.ref p=>(T="list"/\∃xs,SqL K H p xs)\/(T="tuple"/\∃o,K.lookup p=some o/\o.cls=.type "tuple"/\o.dict=none)\/
   (T="dict"/\((∃kvs,H p=some (.dK kvs))\/∃kvs,H p=some (.dT kvs)))\/(T="set"/\∃S n,H p=some (.set S n))
 |_=>False
theorem z2Y{pins:List (Addr×Obj)}{σ:St}{H:Hp}{s:z6z}{T:String}{x:V}{v:Value}(I:Inv X pins σ H s)(r:RelV x v)(ty:tyV X.K T x H) :
  s.TypeIs v T/\∀a,v=.ref a->∃ob,s.heap.get? a=some ob/\ob.dict=none:=by
 cases x with
 |str z=>
  obtain⟨t,rfl⟩:=r
  cases (show T="str" from ty)
  exact⟨zcP s z t,λ_ e=>nomatch e⟩
 |int i=>
  obtain⟨t,rfl⟩:=r
  cases (show T="int" from ty)
  exact⟨typeIs_int s i t,λ_ e=>nomatch e⟩
 |ref p=>
  cases r
  rcases ty with⟨rfl,xs,hq⟩|⟨rfl,o,hk,hc,hd⟩|⟨rfl,hk⟩|⟨rfl,S,n,hk⟩
  ·obtain⟨its,_,pl,_⟩:=I.list hq
   refine⟨pl.isList.typeIs,λa e=>?_⟩
   cases e
   obtain⟨o,n,e,c,hd,_⟩:=pl
   exact⟨o,e,hd⟩
  ·refine⟨⟨o,I.kIn p o hk,hc⟩,λa e=>?_⟩
   cases e
   exact⟨o,I.kIn _ o hk,hd⟩
  ·have z:∃o,s.heap.get? p=some o/\o.ExactDict:=by
    rcases hk with⟨kvs,hk⟩|⟨kvs,hk⟩
    ·obtain⟨_,_,_,_,o,_,_,e,ex,_⟩:=I.hok p _ hk
     exact⟨o,e,ex⟩
    ·obtain⟨_,_,_,_,o,_,_,e,ex,_⟩:=I.hok p _ hk
     exact⟨o,e,ex⟩
   obtain⟨o,e,ex⟩:=z
   refine⟨⟨o,e,ex.1⟩,λa e2=>?_⟩
   cases e2
   exact⟨o,e,ex.2.1⟩
  ·obtain⟨o,_,_,_,e,ex,_⟩:=I.hok p _ hk
   refine⟨⟨o,e,ex.1⟩,λa e2=>?_⟩
   cases e2
   exact⟨o,e,ex.2.1⟩
 |_=>exact z7c ty
noncomputable def tBM (K:z6C)(T:String)(r:V->List V->Hp->VK->Prop)(to:TE)(t:TA):TE:=λσ H Q=>to σ H λx H1=>tyV K T x H1/\t σ H1 λxs H2=>r x xs H2 Q
variable {o e:Expr}{es:List Expr}{to:TE}{t:TA}{name:Str}{apos cpos:Pos}{T id:String}{r:V->List V->Hp->VK->Prop}
theorem z17 (pa:PlainAttrs T) (slot:Slot T name id) (hty:typeOf (.builtin id)=pure (.type "method_descriptor")) (hm:MtR X id r) (ho:PE X o to) (ha:PA X (e::es) t)
  (hbase:z8U o name X.env (eval o X.env)=eval o X.env:=by rfl)
  (hfew:((z8I cpos (z7m (e::es) X.env)).all (λx=>!x.1)&&(z9Q cpos (z8L [] X.env)).all (λx=>x.1.isSome)
   &&decide ((e::es).length+([]:List z9F).length+(if ([]:List z9F).isEmpty then 0 else 1)<30))=true:=by rfl)
  (hline:(apos.endLine == cpos.line)=true:=by rfl) (hs:z7m (e::es) X.env=(false,eval e X.env)::z7m es X.env:=by rfl) (hplain:(z8I cpos (z7m es X.env)).any (·.1)=false:=by rfl) :
  PE X (.Call (.Attribute o name apos) (e::es) [] cpos) (tBM X.K T r to t):=by
 intro pins s σ H Q I h
 refine wpAny_Call_method_late hbase hfew hline rfl (thn (ho pins s σ H _ I h) λv s1 ⟨x,H1,I1,r1,ty,q1⟩=>?_)
 obtain⟨h1,h2⟩:=z2Y I1 r1 ty
 refine⟨T,id,pa,slot,hty,h1,h2,?_⟩
 have hA:=ha cpos pins s1 σ H1 _ I1 q1
 rw[hs] at hA ⊢
 refine zaz (by show (false || (z8I cpos (z7m es X.env)).any (·.1))=false;rw[hplain]<;>rfl) (z8M ?_)
 exact thn hA λus s2 ⟨vs,H2,I2,r2,q2⟩=>hm pins s2 σ H2 x vs v us Q I2 r1 r2 q2
end
end L2
namespace L2
open PySem PySem.Spec PyProof.Rows
noncomputable def MtM (X:Cx)(id:String)(r:V->List V->Hp->VK->Prop):Prop:=
 ∀(pins:List (Addr×Obj)) (s:z6z) (σ:St) (H:Hp) (x:V) (xs:List V) (v:Value) (us:List Value) (Q:VK),Inv X pins σ H s->RelV x v->Vals xs us->r x xs H Q->
  z6I (z6L X.prog X.w) X.A (call (.builtin id) (v::us)) (EP X pins σ Q) X.xe s
theorem Vals.one:∀{x:V} {us:List Value},Vals [x] us->∃u,us=[u]/\RelV x u
 |_,_,.cons r .nil=>⟨_,rfl,r⟩
section
variable {X:Cx}{pins:List (Addr×Obj)}{σ:St}{H:Hp}{s:Shared}{l b:Addr}{xs ys zs:List V}
theorem Inv.lset{its its':List Value}{n:Nat}{f:Array Value->Array Value}{t':Nat}(I:Inv X pins σ H s)(hH:H l=some (.lst xs))
  (e:s.heap.get? l=some {cls:=.type "list",data:=.seq its.toArray n}) (hf:f its.toArray=its'.toArray) (hv:Vals ys its') (hz:ys.length<=sizeLine) :
  Inv X pins σ (upd H l (.lst ys)) {s with heap:=s.heap.update l (Obj.mapSeq f),toks:=t'}:=by
 have q:=PySem.IsL.update e f
 rw[hf] at q
 refine I.write (x:=l) (e:=l) (by rw[hH];exact trivial) (.inl rfl) (λb' u hb hu=>(z7B s.heap (Obj.mapSeq f) (z6Z hb)).trans hu) ⟨_,q⟩ ?_
 exact⟨hz,its',_,hv,q⟩
theorem Inv.lnew{its:List Value}{t':Nat}(I:Inv X pins σ H s)(hv:Vals ys its)(hz:ys.length<=sizeLine) :
  Inv X pins σ (upd H s.heap.objs.size (.lst ys)) {s with heap:=s.heap.push {cls:=.type "list",data:=.seq its.toArray},toks:=t'}:=
 I.laid (λ_ _ q=>z6y _ q) (z6E _) ⟨hz,its,0,hv,z71 _ rfl⟩
theorem Inv.fresh(I:Inv X pins σ H s):H s.heap.objs.size=none:=I.hok.fresh (z6E _)
theorem Inv.lstM(I:Inv X pins σ H s)(hH:H l=some (.lst xs)):xs.length<=sizeLine/\∃(its:List Value) (n:Nat),Vals xs its/\xs.length=its.length/\s.heap.get? l=some {cls:=.type "list",data:=.seq its.toArray n}:=by
 obtain⟨z,its,n,r,e⟩:=I.hok l _ hH
 exact⟨z,its,n,r,r.length,e⟩
theorem YW{n:Nat}(h:n<=sizeLine):z8X n=false:=by
 unfold z8X
 exact decide_eq_false (by omega)
end
section
variable {X:Cx}
noncomputable def z0Q:V->List V->Hp->VK->Prop:=λx vs H Q=>∃l xs y,x=.ref l/\vs=[y]/\H l=some (.lst xs)/\xs.length<sizeLine/\Q .non (upd H l (.lst (xs++[y])))
theorem Za:MtM X "list.append" z0Q:=by
 intro pins s σ H x vs v us Q I rx rv h
 obtain⟨l,xs,y,rfl,rfl,hH,hz,q⟩:=h
 cases rx
 obtain⟨u,rfl,ru⟩:=rv.one
 obtain⟨z,its,n,r,hl,e⟩:=I.lstM hH
 refine call_meets F.slot_list_append ⟨_,e,rfl⟩ F.entry_list_append (F.args_list_append_2 _ _) (PySem.list_append l its.toArray n u (by rw[z6V];omega)) ⟨e,?_⟩
 refine⟨.non,_,I.lset (its':=its++[u]) hH e (by simp) (r.append (.cons ru .nil)) ?_,rfl,q⟩
 rw[z72,List.length_singleton]
 omega
end
end L2
namespace Att
open PySem PySem.W PySem.Calls PyProof.Rows
theorem xB{P:Params}{h:Heap}:∀(ns:List Int) (vs:List Value),WellAll P h vs (ns.map zdZ)->z8v vs ns:=by
 intro ns
 induction ns with
 |nil=>
  intro vs w
  rw[zbS] at w
  cases w
  exact .nil
 |cons n ns ih=>
  intro vs w
  rw[z7g] at w
  cases w with
  |cons a b=>
   cases a
   exact .cons _ _ (ih _ b)
theorem KA{l:zcD}{n:Nat}(hn:l.most=some n){P:Params}{h:Heap}{args:List WData}{vals:List Value}
  (hpre:l.row.toRowW.claim.pre args=true) (hwl:WellAll P h vals args) :
  ∃a vs ns,vals=[z6W a]/\args=[WData.list (ns.map zdZ)]/\h.get? a=some {cls:=.type "list",data:=.seq vs.toArray}/\z8v vs ns/\ns.length<=n:=by
 have hsh:WShape.hasAll [] args [.list .int]=true:=(pre_splitW hpre).1
 have hc:l.pre.holds [] {args:=args}=true:=(pre_splitW hpre).2
 obtain⟨d,r,rfl,h1,h2⟩:=hasAllW_cons hsh
 obtain rfl:=hasAllW_nil h2
 obtain⟨xs,rfl,h3⟩:=hasW_list h1
 obtain⟨ns,rfl⟩:=items_int h3
 have hlen:ns.length<=n:=by
  unfold OpenLaw.pre at hc
  have h4:(WTm.not (.lt (.lit (.int (n:Int))) (.len (.arg 0)))).holds [] {args:=[.list (ns.map .int)]}=true:=by
   have h4:=(holds_andW hc).1
   rw[hn] at h4
   exact h4
  have h5:=condW_of h4 (w_not (w_lt w_lit (w_len_list (w_arg rfl))))
  rw[z6Q] at h5
  refine Nat.le_of_not_lt λq=>?_
  have q':(n:Int)<((ns.length:Nat):Int):=by omega
  first
   |(rw[decide_eq_true q'] at h5;exact absurd h5 (by decide))
   |(simp at h5;omega)
 cases hwl with
 |cons w1 w2=>
  cases w2
  cases w1 with
  |list ho hall=>exact⟨_,_,ns,rfl,rfl,ho,xB ns _ hall,hlen⟩
theorem JY(l:zcD)(args:List WData):l.row.toRowW.claim.post args (.bool true) args=true:=
 postW_of (r:=l.row.toRowW) (X:=(true == true))
  (show zdS [] (.bool true) .bool=true by first|rfl|decide|simp[zdS,WShape.arms,WShape.armsAll])
  (show (WTm.eq .res (.lit (.bool true))).value [] {args:=args,res:=some (.bool true),after:=args}=some (.bool (true == true)) from w_eq_bool (w_res rfl) w_lit) rfl
theorem attach_call{l:zcD}{n:Nat}{q:z7a}{loose:List Str}{XP:(Str->Option Value)->Heap->Prop}{YP:z7o->Heap->Prop}{d:DefRec}
  (hn:l.most=some n) (hdf:d.params.defaults=[])
  (call:∀(w:z7o) (s₀ s₁:z6z) (mg mb:Str->Option Value) (fa:Addr) (o:Obj) (pm cd doc:Value) (a:Addr) (vs:List Value) (ns:List Int),
   Ground q loose [] XP w s₀ mg mb s₁.heap->YP w s₁.heap->
   s₁.heap.get? fa=some o->o.data=.func (docDef d.name d.params d.body d.scope pm cd doc)->s₁.heap.CodeRec cd d.name->mg d.name=some (.ref fa)->
   s₁.heap.get? a=some {cls:=.type "list",data:=.seq vs.toArray}->z8v vs ns->ns.length<=n->s₁.gens=#[]->
   z92 (z6L l.prog w) zcE (.call (.ref fa) ⟨[.ref a],[]⟩) (λr s'=>r=.ok (.ret (.bool true))/\OldK s₁.heap s'.heap/\s'.os=s₁.os/\za0 s'.gens) s₁) :
  WalkO q loose XP YP l.row.toRowW d [] (λf vs=>zdT f vs):=by
 intro w s₀ s₁ mg mb G Y fa o pm cd doc dV kV ho hd hcd hD hmg hg args vals as hpre hlay hrd hwl hlo
 obtain rfl:dV=.none:=Dflts.none hD hdf
 obtain rfl:kV=.none:=Dflts.noKw hD
 obtain⟨a,vs,ns,rfl,rfl,hobj,hints,hlen⟩:=KA hn hpre hwl
 refine enter_call (z8a (call w s₀ s₁ mg mb fa o pm cd doc a vs ns G Y ho (fd_plain hd) hcd hmg hobj hints hlen hg) λr s' hq=>?_)
 obtain⟨rfl,h2,h3,h4⟩:=hq
 exact⟨.inl ⟨.bool true,.bool true,[],rfl,λ_=>rfl,.bool true,JY l _,λ_=>⟨zdW,λ_ hm=>(nomatch hm)⟩⟩,h2,h3,h4⟩
section
variable {prog:Program}{w:World}{A:Around}{E:Value->Shared->Prop}{s:Shared}{K:Frag}
noncomputable def ledger(h:Heap)(L d:Addr):List (Addr×Obj):=(z7_ h.objs.size).filterMap λa=>if a=L\/a=d then none else (h.get? a).map λo=>(a,o)
end
end Att
namespace L2
open PySem PySem.Spec PyProof.Rows
theorem vals_ints:∀{vs:List Value} {ns:List Int},z8v vs ns->Vals (ns.map V.int) vs
 |_,_,.nil=>.nil
 |_,_,.cons n t h=>.cons ⟨t,rfl⟩ (vals_ints h)
end L2
namespace L2
open PySem PySem.Spec PyProof.Rows
noncomputable abbrev KOf{K:z6C}{h:Heap}(_:K.In h):z6C:=K
end L2
namespace L2
open PySem PySem.Spec PyProof.Rows
noncomputable def inClass(s:Stmt)(j:Nat):Stmt:=match s with
 |.ClassDef _ _ _ body _ _ _ _ _ _ _=>body.getD j (.Pass ⟨0,0,0,0⟩)
 |_=>.Pass ⟨0,0,0,0⟩
noncomputable def zC(s:Stmt):Arguments:=match s with
 |.FunctionDef _ a _ _ _ _ _ _ _ _=>a
 |_=>{posonlyargs:=[],args:=[],vararg:=none,kwonlyargs:=[],kw_defaults:=[],kwarg:=none,defaults:=[]}
noncomputable def z5(s:Stmt):List Stmt:=match s with
 |.FunctionDef _ _ b _ _ _ _ _ _ _=>b
 |_=>[]
noncomputable def zo(s:Stmt):Scope:=match s with
 |.FunctionDef _ _ _ _ _ _ sc _ _ _=>sc
 |_=>{kind:=.function,names:=[],isGenerator:=false,isCoroutine:=false}
structure Fun(K:PySem.W.Frag)(x qual:Str)(st:Stmt)(f:Addr)(fd:FuncData):Prop where
 ex:∃(oc:Value) (od:Option Addr) (kV doc pm:Value) (an:Option Addr) (cdv ct:Value) (osl:Array (Option Value)),
  fd=z7v x qual (zC st) (z5 st) (zo st) .none kV doc pm an cdv ct/\K.lookup f=some ⟨oc,od,.func fd,osl⟩/\z8o K cdv qual=true
 kp:z8l K (.ref f)=true
section
variable {P:Program}{w:World}{K:PySem.W.Frag}{mg:Str->Option Value}{base:Heap}
theorem Fun.binds{x qual:Str}{st:Stmt}{f:Addr}{fd:z7T}{ps:List Str}(F:Fun K x qual st f fd)
  (h:∀(kV doc pm:Value) (an:Option Addr) (cdv ct:Value) (us:List Value),us.length=ps.length->zaj (z7v x qual (zC st) (z5 st) (zo st) .none kV doc pm an cdv ct) ⟨us,[]⟩=pure (ps.zip us)):Binds K fd ps []:=by
 obtain⟨oc,od,kV,doc,pm,an,cdv,ct,osl,rfl,lk,hcd⟩:=F.ex
 exact .all (h kV doc pm an cdv ct)
theorem ua{x qual:Str}{st:Stmt}{f:Addr}{oc:Value}{od an:Option Addr}{osl:Array (Option Value)}{kV doc pm cdv ct:Value}(l:K.lookup f=some ⟨oc,od,.func (z7v x qual (zC st) (z5 st) (zo st) .none kV doc pm an cdv ct),osl⟩)
  (c:z8o K cdv qual=true) (k:z8l K (.ref f)=true):Fun K x qual st f (z7v x qual (zC st) (z5 st) (zo st) .none kV doc pm an cdv ct):=⟨⟨oc,od,kV,doc,pm,an,cdv,ct,osl,rfl,l,c⟩,k⟩
end
noncomputable def vz (H H':Hp):Prop:=∀b o,H b=some o->H' b=some o
end L2
end
namespace NH
open PySem
noncomputable def z6l (h:Heap)(x:Addr)(cls:Value)(d:Option Addr):Prop:=∃oe vs a0,h.get? x=some oe/\(oe.cls=cls/\oe.dict=d)/\oe.data=.fields vs/\vs[0]?=some a0/\vs[1]?=some .none
inductive XTr(h:Heap)(x T:Addr)(cls:Value)(d:Option Addr)(fl:Value):Prop where
 |mk (oe:Obj) (vs:Array Value) (a0:Value) (oT:Obj) (ts:Array Value) (h1:h.get? x=some oe) (h2:oe.cls=cls/\oe.dict=d) (h3:oe.data=.fields vs) (h4:vs[0]?=some a0) (h5:vs[1]?=some (.ref T)) (h6:T≠x) (h7:h.get? T=some oT) (h8:oT.data=.fields ts) (h9:ts[3]?=some fl)
noncomputable def z4C (h:Heap)(x:Addr)(cls:Value)(d:Option Addr):Option Addr->Value->Prop
 |none,fl=>z6l h x cls d/\fl=.none
 |some T,fl=>XTr h x T cls d fl
structure XMove(fs:List Addr)(x:Addr)(T T':Option Addr)(h h':Heap):Prop where
 keep:∀b o,h.get? b=some o->b∉fs->b≠x->b∉T.toList->h'.get? b=some o
 slot:∀b o,h.get? b=some o->b∈fs->b≠x->b∉T.toList->∃sl,h'.get? b=some {o with slots:=sl}
 newT:∀t∈T'.toList,t∈T.toList\/h.objs.size<=t
theorem XMove.refl(fs:List Addr)(x:Addr)(T:Option Addr)(h:Heap):XMove fs x T T h h:=⟨λ_ _ e _ _ _=>e,λ_ o e _ _ _=>⟨o.slots,e⟩,λ_ ht=>.inl ht⟩
theorem xW(o:Obj)(f:Array Value->Array Value):(z7X f o).dict=o.dict:=by
 obtain⟨c,d,dt,sl⟩:=o
 cases dt<;>rfl
section
variable {M:Model}{A:Around}{E:Value->Shared->Prop}{s:Shared}
theorem Xd{base:Heap}{env e0:Env}{outer:List Env}{L:Addr}{Q:Value->z6z->Prop}(hfr:A.frames=some (e0::outer))(hl:s.heap.FunFrames base (e0::outer))
  (hf:env.frame=some L) (h0:e0.frame=some L) (h:∀h',Heap.SlotsOnly ((e0::outer).filterMap (·.frame)) s.heap h'->Q (.ref L) {s with heap:=h'}):z6I M A (frameOf env) Q E s:=by
 unfold frameOf
 refine z6w (wpAny_frameEnvs hfr ?_)
 have hw:((e0::outer).dropWhile λy=>y.frame != env.frame)=e0::outer:=by simp[List.dropWhile,hf,h0]
 rw[hw]
 unfold frameObject
 refine z6w (z6w (wpAny_readyFrames_fun hl λh1 q1=>z6F ?_))
 rw[h0]
 exact z6F (h h1 q1)
theorem yM{base:Heap}{env e0:Env}{outer:List Env}{L x:Addr}{cls head:Value}{d T:Option Addr}{had:Bool}{oe:Obj}{vs:Array Value}{a0:Value}{Q:Unit->z6z->Prop}
  (hfr:A.frames=some (e0::outer)) (hl:s.heap.FunFrames base (e0::outer)) (hf:env.frame=some L) (h0:e0.frame=some L)
  (ho:s.heap.get? x=some oe) (hc:oe.cls=cls/\oe.dict=d) (hd:oe.data=.fields vs) (hv0:vs[0]?=some a0) (hsz:1<vs.size)
  (h:∀h' t,XTr h' x t cls d (z7t L)->XMove ((e0::outer).filterMap (·.frame)) x T (some t) s.heap h'->s.heap.objs.size<=t->Q () {s with heap:=h'}) :
  z6I M A (do let a ←frameOf env;let pl ←entryPlaceOf L had;let b ←zbc head a .none (z7t L) .none pl;setField (.ref x) 1 b) Q E s:=by
 have nin:x∉(e0::outer).filterMap (·.frame):=λhm=>by
  obtain⟨_,o,ho',nf⟩:=hl.mem hm
  rw[ho] at ho';cases ho';exact nf vs hd
 refine z6w (Xd hfr hl hf h0 λh1 q1=>?_)
 refine z6w (wpAny_entryPlaceOf λpl hpl=>?_)
 unfold zbc newFields
 refine z6w (z7Q ?_ (hpl.sizeOk5 _ _ _ _ _))
 have e1:h1.get? x=some oe:=(q1.2.1 x nin).trans ho
 generalize hob:({cls:=.type "traceback",dict:=none,data:=.fields ([head,.ref L,.none,z7t L,.none]++(if pl.isEmpty then z8K 6 z7z else pl)).toArray}:Obj)=ob
 have e2:=z6y (h:=h1) ob e1
 have hdata:ob.data=.fields ([head,.ref L,.none,z7t L,.none]++(if pl.isEmpty then z8K 6 z7z else pl)).toArray:=by rw[←hob]
 have hfree:ob.isFreed=false:=by rw[←hob];rfl
 refine z9R e2 hd hsz ?_
 have tx:h1.objs.size≠x:=z9c (z6R e1)
 have d3:=zbw hd (·.setIfInBounds 1 (z6W h1.objs.size))
 have e3:=z8A (z7X (·.setIfInBounds 1 (z6W h1.objs.size))) e2 (zaP d3)
 have other:∀b o,b≠x->h1.get? b=some o->((h1.push ob).update x (z7X (·.setIfInBounds 1 (z6W h1.objs.size)))).get? b=some o:=λb o hb e=>by
  rw[z7B _ _ (z6Z hb)];exact z6y _ e
 refine h _ h1.objs.size ⟨_,_,a0,ob,_,e3,⟨(Obj.cls_mapFields _ _).trans hc.1,(xW _ _).trans hc.2⟩,d3,by rw[Array.getElem?_setIfInBounds_ne (by decide)];exact hv0,by simp[hsz],tx,?_,hdata,?_⟩ ⟨λb o e nb nx _=>?_,λb o e _ nx _=>?_,λt ht=>.inr ?_⟩ (z9E q1.1.symm)
 ·rw[z7B _ _ (z6Z tx)];exact z71 _ hfree
 ·first|(simp;done)|(rcases hpl with rfl|⟨_,_,_,_,_,_,_,rfl⟩<;>simp)
 ·exact other b o nx ((q1.2.1 b nb).trans e)
 ·obtain⟨sl,e'⟩:=q1.2.2 b o e
  exact⟨sl,other b _ nx e'⟩
 ·have:t=h1.objs.size:=by simpa using ht
  rw[this];exact z9E q1.1.symm
theorem YY{base:Heap}{env e0:Env}{outer:List Env}{L x:Addr}{cls:Value}{d T:Option Addr}{fl:Value}{Q:Unit->z6z->Prop}
  (hfr:A.frames=some (e0::outer)) (hl:s.heap.FunFrames base (e0::outer)) (hf:env.frame=some L) (h0:e0.frame=some L) (hx:z4C s.heap x cls d T fl) (hfl:fl=.none\/fl=z7t L)
  (h:∀h' t,XTr h' x t cls d (z7t L)->XMove ((e0::outer).filterMap (·.frame)) x T (some t) s.heap h'->Q () {s with heap:=h'}):z6I M A (zce (.ref x) env) Q E s:=by
 unfold zce
 simp only[hf]
 cases T with
 |none=>
  obtain⟨⟨oe,vs,a0,ho,hc,hd,hv0,hv1⟩,_⟩:=hx
  refine z6w (z7W ho hd hv1 ?_)
  rw[if_neg (by decide)]
  exact yM (T:=none) hfr hl hf h0 ho hc hd hv0 (z7C.mp hv1).1 λh' t a b _=>h h' t a b
 |some T=>
  obtain⟨oe,vs,a0,oT,ts,ho,hc,hd,hv0,hv1,hT,hoT,hdT,h3⟩:=hx
  refine z6w (z7W ho hd hv1 ?_)
  rw[if_pos (show (z6W T != z7z)=true from by simp)]
  refine z6w (z7W hoT hdT h3 ?_)
  by_cases hq:fl=z7t L
  ·subst hq
   rw[if_pos (show (z7t L == z7t L)=true from by simp)]
   exact z6F (h s.heap T ⟨oe,vs,a0,oT,ts,ho,hc,hd,hv0,hv1,hT,hoT,hdT,h3⟩ (XMove.refl _ _ _ _))
  ·obtain rfl:fl=.none:=hfl.resolve_right hq
   rw[if_neg (show ¬((z7z == z7t L)=true) from by simp[z7t])]
   refine z6w (z9R hoT hdT (z7C.mp h3).1 ?_)
   have oth:∀b,b≠T->(s.heap.update T (z7X (·.setIfInBounds 3 z7z))).get? b=s.heap.get? b:=λb hb=>z7B _ _ (z6Z hb)
   have fr:∀b∈(e0::outer).filterMap (·.frame),b≠T:=λb hb z=>by
    obtain⟨_,o,ho',nf⟩:=hl.mem hb
    rw[z,hoT] at ho';cases ho';exact nf ts hdT
   refine yM (T:=some T) (s:={s with heap:=s.heap.update T (z7X (·.setIfInBounds 3 z7z))}) (base:=base) hfr (hl.of_keeps λb o e nf=>⟨o,(oth b λz=>?_).trans e,rfl⟩) hf h0 ((oth x (z6Z hT)).trans ho) hc hd hv0 (z7C.mp hv1).1 λh' t a b c=>h h' t a ⟨?_,?_,?_⟩
   ·rw[z,hoT] at e;cases e;exact nf ts hdT
   ·exact λd o e n1 n2 n3=>b.keep d o ((oth d λz=>n3 (by simp[z])).trans e) n1 n2 n3
   ·exact λd o e n1 n2 n3=>b.slot d o ((oth d λz=>n3 (by simp[z])).trans e) n1 n2 n3
   ·intro t' ht'
    rcases b.newT t' ht' with z|z
    ·exact .inl z
    ·refine .inr (z6X (z9E ?_) z)
     exact (Heap.size_after_update ..).symm
theorem WY{x T:Addr}{cls fl:Value}{d fr:Option Addr}{fs:List Addr}{Q:Unit->z6z->Prop}(hx:XTr s.heap x T cls d fl)
  (h:∀h',XTr h' x T cls d (fr.elim .none λf=>z7t f)->XMove fs x (some T) (some T) s.heap h'->Q () {s with heap:=h'}):z6I M A (zam (.ref x) fr) Q E s:=by
 obtain⟨oe,vs,a0,oT,ts,ho,hc,hd,hv0,hv1,hT,hoT,hdT,h3⟩:=hx
 have sz:3<ts.size:=(z7C.mp h3).1
 unfold zam
 refine z6w (z7W ho hd hv1 ?_)
 rw[if_pos (show (z6W T != z7z)=true from by simp)]
 refine z9R hoT hdT sz ?_
 have oth:∀b,b≠T->(s.heap.update T (z7X (·.setIfInBounds 3 (fr.elim .none λf=>z7t f)))).get? b=s.heap.get? b:=λb hb=>z7B _ _ (z6Z hb)
 have dT:=zbw hdT (·.setIfInBounds 3 (fr.elim z7z λf=>z7t f))
 exact h _ ⟨oe,vs,a0,_,_,(oth x (z6Z hT)).trans ho,hc,hd,hv0,hv1,hT,z8A _ hoT (zaP dT),dT,by simp[sz]⟩
  ⟨λb o e _ _ n=>(oth b λz=>n (by simp[z])).trans e,λb o e _ _ n=>⟨o.slots,(oth b λz=>n (by simp[z])).trans e⟩,λt ht=>.inl ht⟩
end
end NH
namespace NH
open PySem PySem.Spec PyProof.Rows L2
noncomputable abbrev St:=L2.St
theorem Zp{P:z7a}{w:z7o}{H:Hp}{h:Heap}{a:Addr}{o:HO}(x:ObjOk P w H h a o):∃ob,h.get? a=some ob:=by
 cases o with
 |lst xs=>obtain⟨_,_,_,_,e⟩:=x;exact⟨_,e⟩
 |tup xs=>obtain⟨_,_,_,ob,e,_⟩:=x;exact⟨ob,e⟩
 |dK kvs=>obtain⟨_,_,_,_,o,_,_,e,_⟩:=x;exact⟨o,e⟩
 |dT kvs=>obtain⟨_,_,_,_,o,_,_,e,_⟩:=x;exact⟨o,e⟩
 |set S n=>obtain⟨o,_,_,_,e,_⟩:=x;exact⟨o,e⟩
 |ins C dx fs=>obtain⟨_,_,_,e,_⟩:=x;exact⟨_,e⟩
 |own y=>obtain⟨o,e⟩:=x;exact⟨o,e⟩
 |xd fs=>obtain⟨_,⟨o,_,_,e,_⟩,_⟩:=x;exact⟨o,e⟩
 |rng lo hi=>obtain⟨_,_,_,e⟩:=x;exact⟨_,e⟩
 |frz ob u=>obtain⟨e,_⟩:=x;exact⟨_,e⟩
 |tbl ps=>exact⟨_,(show h.get? a=some _ from x)⟩
 |met f y=>exact⟨_,(show h.get? a=some _ from x)⟩
 |ext φ=>obtain⟨_,⟨o,e⟩,_⟩:=x;exact⟨o,e⟩
structure XOk(X:Cx)(H:Hp)(b:Addr):Prop where
 free:H b=none
 loc:b≠X.env.locals
 nfs:b∉X.fs
 new:b∈X.ex\/X.s₀.heap.get? b=none
 cel:∀x c,X.env.cells.lookup x=some c->c≠b
 pin:∀p∈X.pn,p.1≠b
section
variable {X:Cx}{pins:List (Addr×Obj)}{σ:St}{H H':Hp}{s:Shared}{h':Heap}
theorem QZ(I:Inv X pins σ H s){b:Addr}(e:s.heap.get? b=none):H b=none:=by
 cases q:H b with
 |none=>rfl
 |some o=>
  obtain⟨ob,z⟩:=Zp (I.hok b o q)
  rw[e] at z;cases z
theorem vt(I:Inv X pins σ H s){b:Addr}(e:s.heap.get? b=none):XOk X H b:=by
 refine⟨QZ I e,λz=>?_,λz=>?_,?_,λx c q z=>?_,λp hp z=>?_⟩
 ·obtain⟨m,⟨o,_,_,ho,_⟩,_⟩:=I.loc
  rw[←z,e] at ho;cases ho
 ·obtain⟨_,o,ho,_⟩:=I.funs.mem z
  rw[e] at ho;cases ho
 ·by_cases hx:b∈X.ex
  ·exact .inl hx
  ·refine .inr ?_
   cases q:X.s₀.heap.get? b with
   |none=>rfl
   |some o=>
    obtain⟨o',z⟩:=I.base.there b o q hx
    rw[e] at z;cases z
 ·obtain⟨v,o,ho,_⟩:=I.cell x c q
  rw[z,e] at ho;cases ho
 ·have:=(I.pin p (z6G _ hp)).1
  rw[z,e] at this;cases this
theorem QG{ch:List Addr}(I:Inv X pins σ H s)(hch:∀b∈ch,XOk X H b/\∀p∈pins,p.1≠b)
  (keep:∀b o,b∉frs X.stack->b∉ch->s.heap.get? b=some o->h'.get? b=some o)
  (slot:∀b o,b∈frs X.stack->b∉ch->s.heap.get? b=some o->∃sl,h'.get? b=some {o with slots:=sl}) :
  Inv X pins σ H {s with heap:=h'}:=by
 have tr:∀b u,H b=some u->b∉ch:=λb u e z=>by rw[(hch b z).1.free] at e;cases e
 have trf:∀b u,H b=some u->b∉frs X.stack:=λb u e z=>by rw[I.stkFree b z] at e;cases e
 have any:∀b o,b∉ch->s.heap.get? b=some o->∃sl,h'.get? b=some {o with slots:=sl}:=λb o hb e=>by
  by_cases hf:b∈frs X.stack
  ·exact slot b o hf hb e
  ·exact⟨o.slots,keep b o hf hb e⟩
 have inf:∀b,b≠X.env.locals->b∉X.fs->b∉frs X.stack:=λb h1 h2 z=>(z75.mp (I.stkSub b z)).elim h1 h2
 have nec:∀b o,X.s₀.heap.get? b=some o->b∉X.ex->b∉ch:=λb o e hx z=>by
  rcases (hch b z).1.new with q|q
  ·exact hx q
  ·rw[e] at q;cases q
 have neL:∀b o,X.s₀.heap.get? b=some o->b≠X.env.locals:=λb o e=>z73 (z6N (z6R e) I.ok.above)
 have cellK:∀x c,X.env.cells.lookup x=some c->∀v,s.heap.IsCell c v->h'.IsCell c v:=λx c e v ⟨o,ho,hd⟩=>by
  obtain⟨sl,q⟩:=any c o (λz=>(hch c z).1.cel x c e rfl) ho
  exact⟨_,q,hd⟩
 refine⟨I.ok,I.os,I.bare,⟨λb o e n hb hx=>?_,λb o e n hb hx=>?_,λb o e n hx=>I.base.free b o e n hx,λb o e hx=>?_,λb xs e=>I.base.tups b xs e,λb o xs e=>I.base.frzs b o xs e,λb ps e=>I.base.tbls b ps e⟩,?_,λx c e=>?_,I.free,λx c e=>I.freeC x c e,λp hp=>?_,λb u e=>?_,I.len⟩
 ·exact keep b o (inf b (neL b o e) hb) (nec b o e hx) (I.base.keep b o e n hb hx)
 ·obtain⟨sl,e1⟩:=I.base.slot b o e n hb hx
  obtain⟨sl',e2⟩:=any b _ (nec b o e hx) e1
  exact⟨sl',e2⟩
 ·obtain⟨o',e1⟩:=I.base.there b o e hx
  obtain⟨sl,e2⟩:=any b o' (nec b o e hx) e1
  exact⟨_,e2⟩
 ·obtain⟨m,⟨o,es,ep,ho,r⟩,hl⟩:=I.loc
  obtain⟨sl,hL⟩:=any X.env.locals o (λz=>(hch _ z).1.loc rfl) ho
  refine⟨m,⟨_,es,ep,hL,r⟩,λi x v e1 e2 e3=>?_⟩
  obtain⟨u,ru,l⟩:=hl i x v e1 e2 e3
  refine⟨u,ru,?_⟩
  rcases l with l|⟨k,c,e,z⟩
  ·exact .inl l
  ·exact .inr ⟨k,c,e,cellK x c e _ z⟩
 ·obtain⟨v,z⟩:=I.cell x c e
  exact⟨v,cellK x c e v z⟩
 ·obtain⟨e,n,ne,nf,d⟩:=I.pin p hp
  have nch:p.1∉ch:=λz=>by
   rcases z6K.mp hp with q|q
   ·exact (hch p.1 z).1.pin p q rfl
   ·exact (hch p.1 z).2 p q rfl
  exact⟨keep p.1 p.2 (inf p.1 ne nf) nch e,n,ne,nf,d⟩
 ·refine (I.hok b u e).stay (λc v hc q=>?_) (λ_ q=>q) λ_ _ q=>q
  rcases hc with z|z
  ·subst z;exact keep c v (trf c u e) (tr c u e) q
  ·exact keep c v (trf c _ z) (tr c _ z) q
structure Frm(X:Cx)(e0:Env)(out:List Env)(L:Addr):Prop where
 stk:X.stack=e0::out
 f0:e0.frame=some L
 fe:X.env.frame=some L
noncomputable abbrev XW:=Value->Option Addr->St->Hp->Prop
inductive XP(X:Cx)(W:XW)(e:Value)(s:Shared):Prop where
 |mk (x:Addr) (cls:Value) (d:Option Addr) (σ:St) (H:Hp) (T:Option Addr) (fl:Value) (ee:e=.ref x) (i:Inv X [] σ H s) (ox:XOk X H x) (ot:∀t∈T.toList,XOk X H t) (r:z4C s.heap x cls d T fl) (hf:fl=.none\/∃L,X.env.frame=some L/\fl=z7t L) (w:W cls d σ H)
theorem Jg{x:Addr}{T:Option Addr}{t:Addr}(I:Inv X [] σ H s)(ox:XOk X H x)(ot:∀t∈T.toList,XOk X H t)(mv:XMove (frs X.stack) x T (some t) s.heap h') :
  Inv X [] σ H {s with heap:=h'}/\XOk X H t:=by
 refine⟨QG (ch:=x::T.toList) I (λb hb=>⟨?_,λp hp=>absurd hp (by simp)⟩) (λb o hf hc e=>?_) (λb o hf hc e=>?_),?_⟩
 ·rcases z75.mp hb with z|z
  ·rw[z];exact ox
  ·exact ot b z
 ·exact mv.keep b o e hf (λz=>hc (by simp[z])) (λz=>hc (z6H _ z))
 ·exact mv.slot b o e hf (λz=>hc (by simp[z])) (λz=>hc (z6H _ z))
 ·rcases mv.newT t (by simp) with z|z
  ·exact ot t z
  ·exact vt I (z7q z)
theorem xK{M:z9J}{A:z7b}{E:Value->z6z->Prop}{W:XW}{e:Value}{e0:Env}{out:List Env}{L:Addr}{Q:Unit->z6z->Prop}(F:Frm X e0 out L)(hfr:A.frames=some X.stack)(p:XP X W e s)
  (h:∀x cls d σ H T h',e=.ref x->Inv X [] σ H {s with heap:=h'}->XOk X H x->XOk X H T->XTr h' x T cls d (z7t L)->W cls d σ H->Q () {s with heap:=h'}):z6I M A (zce e X.env) Q E s:=by
 obtain⟨x,cls,d,σ,H,T,fl,rfl,I,ox,ot,hr,hfl,w⟩:=p
 have hst:=I.stack
 rw[F.stk] at hfr hst
 refine YY hfr hst F.fe F.f0 hr (hfl.imp_right λ⟨L',e1,e2⟩=>by rw[F.fe] at e1;cases e1;exact e2) λh' t tr mv=>?_
 have mv':XMove (frs X.stack) x T (some t) s.heap h':=by rw[F.stk];exact mv
 obtain⟨I',o'⟩:=Jg I ox ot mv'
 exact h x cls d σ H t h' rfl I' ox o' tr w
theorem qG{M:z9J}{A:z7b}{E:Value->z6z->Prop}{x T:Addr}{cls fl:Value}{d fr:Option Addr}{Q:Unit->z6z->Prop}(I:Inv X [] σ H s)(ox:XOk X H x)(oT:XOk X H T)(tr:XTr s.heap x T cls d fl)
  (h:∀h',Inv X [] σ H {s with heap:=h'}->XTr h' x T cls d (fr.elim .none λf=>z7t f)->Q () {s with heap:=h'}):z6I M A (zam (.ref x) fr) Q E s:=by
 refine WY (fs:=frs X.stack) tr λh' tr' mv=>h h' (Jg (T:=some T) I ox (λt ht=>?_) mv).1 tr'
 have:t=T:=by simpa using ht
 rw[this];exact oT
theorem Zu{W:XW}{M:z9J}{e0:Env}{out:List Env}{L:Addr}(F:Frm X e0 out L)(hfr:X.A.frames=some X.stack):zc8 M X.A X.env (XP X W):=by
 intro e s p
 unfold zcF
 refine xK F hfr p λx cls d σ H T h' ee I ox oT tr w=>?_
 subst ee
 unfold cameBackBy
 obtain⟨oe,vs,a0,oT',ts,ho,hc,hd,hv0,hv1,hT,hoT,hdT,h3⟩:=id tr
 refine z6w (z7W ho hd hv1 ?_)
 rw[if_neg (show ¬((z6W T == z7z)=true) from by simp)]
 rw[F.fe]
 have go:z6I M X.A (zam (.ref x) (some L)) (λ_ s''=>XP X W (.ref x) s'') (XP X W) {s with heap:=h'}:=
  qG (s:={s with heap:=h'}) I ox oT tr λh2 I2 tr2=>⟨x,cls,d,σ,H,some T,z7t L,rfl,I2,ox,λt ht=>by
   have:t=T:=by simpa using ht
   rw[this];exact oT,tr2,.inr ⟨L,F.fe,rfl⟩,w⟩
 first|exact go|exact z6w (z6F go)
inductive CXP(P:Program)(w:World)(outer:List Env)(H:Hp)(s:Shared)(E:XK)(e:Value)(s':Shared):Prop where
 |mk (x T:Addr) (cls:Value) (d:Option Addr) (H':Hp) (ee:e=.ref x) (o:s'.os=s.os) (b:za0 s'.gens) (n:Un (frs outer) [] H H' s.heap s'.heap) (k:HOk P w H' s'.heap) (h1:s.heap.get? x=none) (h2:s.heap.get? T=none) (h3:H' x=none) (h4:H' T=none) (t:XTr s'.heap x T cls d .none) (q:E cls d H')
noncomputable def CX1 (P:z7a)(w:z7o):CXT:=CXP P w
noncomputable def wOf (E:XK):XW:=λc d _ H=>E c d H
theorem Yh{M:z9J}{E:XK}{e:Value}{e0:Env}{out:List Env}{L:Addr}{F2:Value->z6z->Prop}(F:Frm X e0 out L)(hfr:X.A.frames=some X.stack)(hex:X.ex=[])(p:XP X (wOf E) e s) :
  z6I M X.A (leaving X.env e) (λ_ s''=>CX1 X.prog X.w X.outer X.H₀ X.s₀ E e s'') F2 s:=by
 unfold leaving
 refine z6w (xK F hfr p λx cls d σ H T h' ee I ox oT tr w=>?_)
 subst ee
 refine qG (s:={s with heap:=h'}) I ox oT tr λh2 I2 tr2=>?_
 have nw:∀b,XOk X H b->X.s₀.heap.get? b=none:=λb o=>o.new.resolve_left (by rw[hex];simp)
 refine⟨x,T,cls,d,H,rfl,I2.os,I2.bare,?_,I2.hok,nw x ox,nw T oT,ox.free,oT.free,tr2,w⟩
 have:=I2.base
 rw[hex] at this
 exact this
theorem xQ{E:XK}{W:XW}{e:Value}{s':z6z}(I:Inv X pins σ H s)(c:CX1 X.prog X.w X.stack H s E e s')(h:∀cls d H',E cls d H'->W cls d σ H'):XP X W e s':=by
 obtain⟨x,T,cls,d,H',rfl,os,bare,un,hok,nx,nT,fx,fT,tr,w⟩:=c
 have J:Inv X pins σ H' s':=I.call' (ch:=[]) os un hok bare λb z=>absurd z (by simp)
 have k:∀b,s.heap.get? b=none->H' b=none->XOk X H' b:=λb e f=>by
  have o:=vt I e
  exact⟨f,o.loc,o.nfs,o.new,o.cel,o.pin⟩
 refine⟨x,cls,d,σ,H',some T,.none,rfl,J.pins_of (λp hp=>absurd hp (by simp)),k x nx fx,λt ht=>?_,tr,.inl rfl,h cls d H' w⟩
 have:t=T:=by simpa using ht
 rw[this];exact k T nT fT
theorem z04{W:XW}{x:Addr}{cls:Value}{args:List Value}{h2:Heap}(I:Inv X pins σ H s)(mk:z9e s.heap h2 x cls args)(w:W cls none σ H):XP X W (.ref x) {s with heap:=h2}:=by
 have J:Inv X pins σ H {s with heap:=h2,toks:=s.toks}:=I.kept mk.keeps
 obtain⟨t,ho,_,_⟩:=mk.there
 exact⟨x,cls,none,σ,H,none,.none,rfl,J.pins_of (λp hp=>absurd hp (by simp)),vt I mk.new,λt ht=>absurd ht (by simp),⟨⟨_,_,.ref t,ho,⟨rfl,rfl⟩,rfl,rfl,rfl⟩,rfl⟩,.inl rfl,w⟩
noncomputable abbrev Cx.pin'(X:Cx)(pins:List (Addr×Obj)):Cx:={X with pn:=X.pn++pins}
noncomputable abbrev Cx.han(X:Cx)(x:Addr):Cx:={X with A:=X.A.mark (some (.ref x)),calm:=false,xe:=λ_ _=>False}
theorem Ud(ok:X.Ok):(Cx.pin' X pins).Ok:=⟨ok.mod,ok.kind,ok.glob,ok.blt,ok.above,ok.inj,ok.has,ok.cab,ok.hd,ok.frames,ok.stk,ok.exf,ok.bs,ok.bsz,ok.noex,ok.exfs,ok.funs,ok.frf⟩
theorem Wi(ok:(Cx.pin' X pins).Ok):X.Ok:=⟨ok.mod,ok.kind,ok.glob,ok.blt,ok.above,ok.inj,ok.has,ok.cab,ok.hd,ok.frames,ok.stk,ok.exf,ok.bs,ok.bsz,ok.noex,ok.exfs,ok.funs,ok.frf⟩
theorem z1H{x:Addr}(ok:X.Ok):(Cx.han X x).Ok:=⟨ok.mod,ok.kind,ok.glob,ok.blt,ok.above,ok.inj,ok.has,ok.cab,(λh=>by cases h),ok.frames,ok.stk,ok.exf,ok.bs,ok.bsz,ok.noex,ok.exfs,ok.funs,ok.frf⟩
theorem Qk(I:Inv X pins σ H s):Inv (Cx.pin' X pins) [] σ H s:=⟨Ud I.ok,I.os,I.bare,I.base,I.loc,I.cell,I.free,I.freeC,λp hp=>I.pin p (by simpa using hp),I.hok,I.len⟩
theorem zU(I:Inv (Cx.pin' X pins) [] σ H s):Inv X pins σ H s:=⟨Wi I.ok,I.os,I.bare,I.base,I.loc,I.cell,I.free,I.freeC,λp hp=>I.pin p (by simpa using hp),I.hok,I.len⟩
theorem Q8{x:Addr}(I:Inv X pins σ H s):Inv (Cx.han X x) pins σ H s:=⟨z1H I.ok,I.os,I.bare,I.base,I.loc,I.cell,I.free,I.freeC,I.pin,I.hok,I.len⟩
theorem kP{x:Addr}(ok:X.Ok)(I:Inv (Cx.han X x) pins σ H s):Inv X pins σ H s:=⟨ok,I.os,I.bare,I.base,I.loc,I.cell,I.free,I.freeC,I.pin,I.hok,I.len⟩
theorem kO{E:Value->z6z->Prop}{W:XW}{e:Value}(p:XP (X.wish E) W e s):XP X W e s:=by
 obtain⟨x,cls,d,σ,H,T,fl,a,I,b,c,r,r2,r3⟩:=p
 exact⟨x,cls,d,σ,H,T,fl,a,I.unwish,⟨b.free,b.loc,b.nfs,b.new,b.cel,b.pin⟩,λt ht=>let b:=c t ht;⟨b.free,b.loc,b.nfs,b.new,b.cel,b.pin⟩,r,r2,r3⟩
end
end NH
namespace NH
open PySem
inductive T where
 |non|bl (b:Bool)|int (i:Int)|str (x:Str)
 |tup (ts:List T)|lst (ts:List T)|obj (c:Nat) (fs:List (Nat×T))
 |mut (i:Nat)
 |exc (c:Nat) (fs:List (Nat×T))
 |dic (kvs:List (L2.Key×T))
 |clo (j:Nat) (cs:List T)
inductive MO where
 |lst (ts:List T)|obj (c:Nat) (fs:List (Nat×T))|dic (kvs:List (L2.Key×T))
 |tab (j:Nat)
noncomputable abbrev z1i:MO->Bool
 |.tab _=>true
 |_=>false
noncomputable abbrev Mem:=List MO
noncomputable abbrev Sl:=List (Option T)
mutual
def wd:T->Bool
 |.mut _=>false
 |.tup ts=>j6 ts
 |.lst ts=>j6 ts
 |.obj _ fs=>xh fs
 |.exc _ fs=>xh fs
 |.dic kvs=>VU kvs
 |.clo _ cs=>j6 cs
 |_=>true
def j6:List T->Bool
 |[]=>true
 |t::r=>wd t&&j6 r
def xh:List (Nat×T)->Bool
 |[]=>true
 |p::r=>wd p.2&&xh r
def VU:List (L2.Key×T)->Bool
 |[]=>true
 |p::r=>wd p.2&&VU r
end
noncomputable abbrev Xp:=Nat->List (Nat×T)->Mem->Prop
noncomputable abbrev RE(β:Type):=(β->Mem->Prop)->Xp->Prop
noncomputable abbrev RE.ok{β:Type}(a:β)(μ:Mem):RE β:=λK _=>K a μ
noncomputable abbrev RE.st{β:Type}:RE β:=λ_ _=>False
noncomputable abbrev RE.bind{β γ:Type}(r:RE γ)(k:γ->Mem->RE β):RE β:=λK Z=>r (λa μ=>k a μ K Z) Z
noncomputable abbrev RE.grd{β:Type}(p:Prop)(r:RE β):RE β:=λK Z=>p/\r K Z
noncomputable abbrev RE.som{β γ:Type}(o:Option γ)(k:γ->RE β):RE β:=λK Z=>∃a,o=some a/\k a K Z
@[reducible] noncomputable def brW(b:Bool)(A B:Prop):Prop:=match b with
 |true=>A
 |false=>B
noncomputable abbrev RE.br{β:Type}(b:Bool)(r s:RE β):RE β:=λK Z=>brW b (r K Z) (s K Z)
structure En where
 nx:Sl->Mem->Prop
 rt:T->Mem->Prop
 bk:Sl->Mem->Prop
 ct:Sl->Mem->Prop
 ex:Nat->List (Nat×T)->Sl->Mem->Prop
noncomputable abbrev Out:=En->Prop
noncomputable abbrev En.nxt(E:En)(f:Sl->Mem->Prop):En:=⟨f,E.rt,E.bk,E.ct,E.ex⟩
noncomputable abbrev En.turn(E:En)(N:Sl->Mem->Prop):En:=⟨N,E.rt,E.nx,N,E.ex⟩
noncomputable abbrev En.tri(E:En)(X:Nat->List (Nat×T)->Sl->Mem->Prop):En:=⟨E.nx,E.rt,E.bk,E.ct,X⟩
noncomputable abbrev En.fn(K:T->Mem->Prop)(Z:Xp):En:=⟨λ_ μ1=>K .non μ1,K,λ_ _=>False,λ_ _=>False,λc fs _ μ1=>Z c fs μ1⟩
noncomputable abbrev Out.nx(τ:Sl)(μ:Mem):Out:=λE=>E.nx τ μ
noncomputable abbrev Out.rt(t:T)(μ:Mem):Out:=λE=>E.rt t μ
noncomputable abbrev Out.ex(c:Nat)(fs:List (Nat×T))(τ:Sl)(μ:Mem):Out:=λE=>E.ex c fs τ μ
noncomputable abbrev Out.st:Out:=λ_=>False
noncomputable abbrev Out.grd(p:Prop)(o:Out):Out:=λE=>p/\o E
noncomputable abbrev Out.som{γ:Type}(o:Option γ)(k:γ->Out):Out:=λE=>∃a,o=some a/\k a E
noncomputable abbrev Out.br(b:Bool)(r s:Out):Out:=λE=>brW b (r E) (s E)
noncomputable abbrev Out.seq(o:Out)(f:Sl->Mem->Out):Out:=λE=>o (E.nxt λτ μ=>f τ μ E)
noncomputable abbrev RE.out{β:Type}(r:RE β)(τ:Sl)(f:β->Mem->Out):Out:=λE=>r (λa μ=>f a μ E) (λc fs μ=>E.ex c fs τ μ)
noncomputable abbrev Fn:=List T->Mem->RE T
noncomputable abbrev De:=Sl->Mem->RE T
noncomputable abbrev Dt:=Sl->Mem->RE Bool
noncomputable abbrev Da:=Sl->Mem->RE (List T)
noncomputable abbrev Ds:=Sl->Mem->Out
noncomputable abbrev RI:=(List T->(Mem->Prop)->Mem->Prop)->Xp->Prop
noncomputable abbrev RI.ok(xs:List T)(o:Mem->Prop)(μ:Mem):RI:=λK _=>K xs o μ
noncomputable abbrev RI.st:RI:=λ_ _=>False
noncomputable abbrev RI.grd(p:Prop)(r:RI):RI:=λK Z=>p/\r K Z
noncomputable abbrev RI.go{β:Type}(r:RI)(k:List T->(Mem->Prop)->Mem->RE β):RE β:=λK Z=>r (λxs o μ=>k xs o μ K Z) Z
noncomputable abbrev RI.out(r:RI)(τ:Sl)(f:List T->(Mem->Prop)->Mem->Out):Out:=λE=>r (λxs o μ=>f xs o μ E) (λc fs μ=>E.ex c fs τ μ)
noncomputable abbrev RI.re(r:RI):RE (List T×(Mem->Prop)):=λK Z=>r (λxs o μ=>K (xs,o) μ) Z
noncomputable abbrev RE.it{β:Type}(r:RE β)(k:β->Mem->RI):RI:=λK Z=>r (λa μ=>k a μ K Z) Z
noncomputable abbrev Di:=Sl->Mem->RI
abbrev lvT:Mem->Prop:=λ_=>True
abbrev lvM(i:Nat)(xs:List T):Mem->Prop:=λμ=>μ[i]?=some (.lst xs)
structure LamD where
 jt:Nat
 qn:Str
 y:Str
 body:Expr
 sc:Scope
 fr:List Str
 g:De
noncomputable abbrev ZI(j jt:Nat)(ts:List T):T:=.clo (300+j) (.clo (100+jt) []::ts.map λt=>.clo 200 [t])
inductive GM where
 |fn (f:Fn)
 |fnh (nm:Str) (f:Fn)
 |met (c:Nat) (nm:Str) (f:Fn)
 |mk (c:Nat) (frozen:Bool) (f:Fn)
 |cst (t:T)
 |xcl (c:Nat)
 |xcf (c:Nat) (f:Nat)
 |xin (c f:Nat) (nm fl:Str)
 |mkd (c:Nat) (nm:Str) (n:Nat) (f:Fn)
 |metd (c:Nat) (nm:Str) (n:Nat) (d:T) (f:Fn)
 |kpr
 |kap (ls:List LamD)
 |none
 |bad
noncomputable abbrev Wq(τ:Sl):Nat->Option T:=z81 (motive:=λ_=>Nat->Option T) (λ_=>none) (λo _ ih i=>zdw (motive:=λ_=>Option T) o (λn _=>ih n) i) τ
noncomputable abbrev jz(τ:Sl):Nat->Option T->Sl:=z81 (motive:=λ_=>Nat->Option T->Sl) (λ_ _=>[]) (λo r ih i t=>zdw (motive:=λ_=>Sl) (t::r) (λn _=>o::ih n t) i) τ
theorem ZK:∀{τ:Sl} {i:Nat} {t:T},Wq τ i=some t↔τ[i]?=some (some t)
 |[],_,_=>by simp
 |o::r,0,t=>by show o=some t↔_;simp
 |o::r,n+1,t=>by
  show Wq r n=some t↔_
  rw[ZK (τ:=r) (i:=n)];simp
theorem xR:∀{τ:Sl} {i:Nat} {t:Option T},jz τ i t=τ.set i t
 |[],_,_=>by simp
 |o::r,0,t=>rfl
 |o::r,n+1,t=>by
  show o::jz r n t=_
  rw[xR (τ:=r) (i:=n)];simp
noncomputable abbrev Wb(fs:List (Nat×T)):Nat->Option T:=z81 (motive:=λ_=>Nat->Option T) (λ_=>none) (λp _ ih i=>zcQ (motive:=λ_=>Option T) (ih i) (some p.2) (z8D p.1 i)) fs
noncomputable abbrev JT(f:Nat)(v:T)(fs:List (Nat×T)):List (Nat×T):=z81 (motive:=λ_=>List (Nat×T)) [(f,v)] (λp r ih=>zcQ (motive:=λ_=>List (Nat×T)) (p::ih) ((p.1,v)::r) (z8D p.1 f)) fs
theorem Jm{p:Nat×T}{r:List (Nat×T)}{i:Nat}:Wb (p::r) i=match z8D p.1 i with
  |true=>some p.2
  |false=>Wb r i:=by
 show (zcQ (Wb r i) (some p.2) (z8D p.1 i):Option T)=_
 cases z8D p.1 i<;>rfl
theorem Ks{f:Nat}{v:T}{p:Nat×T}{r:List (Nat×T)}:JT f v (p::r)=match z8D p.1 f with
  |true=>(p.1,v)::r
  |false=>p::JT f v r:=by
 show (zcQ (p::JT f v r) ((p.1,v)::r) (z8D p.1 f):List (Nat×T))=_
 cases z8D p.1 f<;>rfl
noncomputable def idx:List Str->Str->Option Nat
 |[],_=>none
 |y::r,x=>if y=x then some 0 else (idx r x).map (·+1)
noncomputable abbrev tyN:T->Mem->Option Nat
 |.non,_=>some 0
 |.bl _,_=>some 1
 |.int _,_=>some 2
 |.str _,_=>some 3
 |.tup _,_=>some 4
 |.lst _,_=>some 5
 |.dic _,_=>some 6
 |.exc c _,_=>some c
 |.obj c _,_=>some c
 |_,_=>none
noncomputable abbrev tyO:MO->Nat
 |.lst _=>5
 |.obj c _=>c
 |.dic _=>6
 |.tab _=>99
noncomputable abbrev z0T(a b:Bool):Bool:=match a with
 |true=>b
 |false=>false
noncomputable abbrev bOr(a b:Bool):Bool:=match a with
 |true=>true
 |false=>b
noncomputable abbrev vx(a c:Nat):Bool:=bOr (z8D a c) (bOr (z0T (z8D a 1) (z8D c 2)) (z0T (zdx 10 a) (z0T (zdx a 39) (bOr (z8D c 11) (z0T (z8D c 10) (zdx 12 a))))))
noncomputable abbrev isAny(t:Nat)(cs:List Nat):Bool:=z81 (motive:=λ_=>Bool) false (λc _ ih=>bOr (vx t c) ih) cs
theorem yS{t c:Nat}{r:List Nat}:isAny t (c::r)=bOr (vx t c) (isAny t r):=rfl
noncomputable def big:Int:=18446744073709551616
noncomputable def room:Nat:=1000000
noncomputable abbrev z2q:T->T->Mem->RE T
 |.int i,.int j,μ=>.ok (.int (i+j)) μ
 |.str x,.str y,μ=>.grd (x.length+y.length<=room) (.ok (.str (x++y)) μ)
 |.lst xs,.lst ys,μ=>.grd (xs.length+ys.length<=room) (.ok (.lst (xs++ys)) μ)
 |.tup xs,.tup ys,μ=>.grd (xs.length+ys.length<=room) (.ok (.tup (xs++ys)) μ)
 |.mut i,.lst ys,μ=>λK _=>∃xs,μ[i]?=some (.lst xs)/\xs.length+ys.length<=room/\K (.lst (xs++ys)) μ
 |.lst xs,.mut j,μ=>λK _=>∃ys,μ[j]?=some (.lst ys)/\xs.length+ys.length<=room/\K (.lst (xs++ys)) μ
 |.mut i,.mut j,μ=>λK _=>∃p:List T×List T,(μ[i]?=some (.lst p.1)/\μ[j]?=some (.lst p.2))/\p.1.length+p.2.length<=room/\K (.lst (p.1++p.2)) μ
 |_,_,_=>.st
noncomputable abbrev Q6(f:Int->Int->Mem->RE T):T->T->Mem->RE T
 |.int i,.int j,μ=>f i j μ
 |_,_,_=>.st
noncomputable abbrev z5s:zcR->T->T->Mem->RE T
 |.Add=>z2q
 |.Sub=>Q6 λi j μ=>.ok (.int (i-j)) μ
 |.Mult=>Q6 λi j μ=>.grd ((-big<i/\i<big)\/(-big<j/\j<big)) (.ok (.int (i * j)) μ)
 |.FloorDiv=>Q6 λi j μ=>.grd (0<j/\j<1606938044258990275541962092341162602522202993782792835301376) (.ok (.int (i / j)) μ)
 |.Mod=>Q6 λi j μ=>.grd (0<j) (.ok (.int (i % j)) μ)
 |.Pow=>Q6 λi j μ=>.grd (0<=j/\j<=1000000/\i.natAbs<18446744073709551616) (.ok (.int (i ^ j.toNat)) μ)
 |.RShift=>Q6 λi j μ=>.grd (0<=j) (.ok (.int (i / 2 ^ j.toNat)) μ)
 |.BitAnd=>Q6 λi j μ=>.ok (.int (zcK i j)) μ
 |_=>λ_ _ _=>.st
mutual
def eqT:T->T->Option Bool
 |.int i,b=>match b with
  |.int j=>some (i == j)
  |.bl k=>some (i == (if k then 1 else 0))
  |.str _=>some false
  |.non=>some false
  |.tup _=>some false
  |.lst _=>some false
  |_=>none
 |.bl k,b=>match b with
  |.int j=>some ((if k then 1 else 0) == j)
  |.bl j=>some (k == j)
  |.str _=>some false
  |.non=>some false
  |.tup _=>some false
  |.lst _=>some false
  |_=>none
 |.str x,b=>match b with
  |.str y=>some (x == y)
  |.int _=>some false
  |.bl _=>some false
  |.non=>some false
  |.tup _=>some false
  |.lst _=>some false
  |_=>none
 |.non,b=>match b with
  |.non=>some true
  |.int _=>some false
  |.bl _=>some false
  |.str _=>some false
  |.tup _=>some false
  |.lst _=>some false
  |_=>none
 |.tup xs,b=>match b with
  |.tup ys=>eqL xs ys
  |.non=>some false
  |.int _=>some false
  |.bl _=>some false
  |.str _=>some false
  |.lst _=>some false
  |_=>none
 |.lst xs,b=>match b with
  |.lst ys=>eqL xs ys
  |.non=>some false
  |.int _=>some false
  |.bl _=>some false
  |.str _=>some false
  |.tup _=>some false
  |_=>none
 |_,_=>none
def eqL:List T->List T->Option Bool
 |[],[]=>some true
 |[],_::_=>some false
 |_::_,[]=>some false
 |x::xs,y::ys=>match eqT x y,eqL xs ys with
  |some a,some b=>some (a&&b)
  |_,_=>none
end
mutual
def qX:T->Nat
 |.tup ts=>qi ts+1
 |.lst ts=>qi ts+1
 |_=>0
def qi:List T->Nat
 |[]=>0
 |t::r=>max (qX t) (qi r)
end
noncomputable abbrev scT:T->T->Option Bool
 |.non,.non=>some true
 |.non,.int _=>some false|.int _,.non=>some false|.non,.bl _=>some false|.bl _,.non=>some false|.non,.str _=>some false|.str _,.non=>some false
 |.int i,.int j=>some (decide (i=j))|.bl i,.bl j=>some (decide (i=j))|.str i,.str j=>some (decide (i=j))
 |.int _,.str _=>some false|.str _,.int _=>some false|.bl _,.str _=>some false|.str _,.bl _=>some false
 |_,_=>none
noncomputable abbrev eqW(x y:T)(μ:Mem)(k:Bool->RE T):RE T:=match x,y with
 |.tup xs,.tup ys=>.grd (qi xs<=40) (.som (eqL xs ys) k)
 |.lst xs,.lst ys=>.grd (qi xs<=40) (.som (eqL xs ys) k)
 |.mut i,.lst ys=>λK Z=>∃xs,μ[i]?=some (.lst xs)/\RE.grd (qi xs<=40) (.som (eqL xs ys) k) K Z
 |.lst xs,.mut j=>λK Z=>∃ys,μ[j]?=some (.lst ys)/\RE.grd (qi xs<=40) (.som (eqL xs ys) k) K Z
 |.mut i,.mut j=>λK Z=>∃p:List T×List T,(μ[i]?=some (.lst p.1)/\μ[j]?=some (.lst p.2))/\RE.grd (qi p.1<=40) (.som (eqL p.1 p.2) k) K Z
 |x,y=>match scT x y with
  |some b=>k b
  |none=>.st
noncomputable def intsOf:List T->Option (List Int)
 |[]=>some []
 |.int i::r=>(intsOf r).map (i::·)
 |_::_=>none
noncomputable abbrev ltW(x y:T)(k:Bool->RE T):RE T:=match x,y with
 |.int i,.int j=>k (decide (i<j))
 |.tup xs,.tup ys=>.som (intsOf xs) λns=>.som (intsOf ys) λms=>k (HT.lexLt ns ms)
 |.str a,.str b=>k (decide (a.cps.toList<b.cps.toList))
 |_,_=>.st
noncomputable abbrev Q5(op:z85)(x y:T)(μ:Mem):RE T:=
 match op with
 |.Eq=>eqW x y μ λb=>.ok (.bl b) μ
 |.NotEq=>eqW x y μ λb=>.ok (.bl (!b)) μ
 |.Lt=>ltW x y λb=>.ok (.bl b) μ
 |.LtE=>match x,y with|.int i,.int j=>.ok (.bl (decide (i<=j))) μ|_,_=>.st
 |.Gt=>match x,y with|.int i,.int j=>.ok (.bl (decide (j<i))) μ|_,_=>.st
 |.GtE=>match x,y with|.int i,.int j=>.ok (.bl (decide (j<=i))) μ|_,_=>.st
 |.Is=>(match y with
  |.non=>.ok (.bl (match x with|.non=>true|_=>false)) μ
  |.bl b=>(match x with|.bl a=>.ok (.bl (decide (a=b))) μ|_=>.st)
  |_=>.st)
 |.IsNot=>(match y with
  |.non=>.ok (.bl (match x with|.non=>false|_=>true)) μ
  |.bl b=>(match x with|.bl a=>.ok (.bl (!decide (a=b))) μ|_=>.st)
  |_=>.st)
 |.In=>(match x,y with|.str i,.str j=>.ok (.bl (!(z8k j i 0 j.length 1).isEmpty)) μ|_,_=>.st)
 |.NotIn=>(match x,y with|.str i,.str j=>.ok (.bl (!(!(z8k j i 0 j.length 1).isEmpty))) μ|_,_=>.st)
noncomputable abbrev xv:T->Mem->RE Bool
 |.bl b,μ=>.ok b μ
 |_,_=>.st
noncomputable abbrev eC(t:T):De:=λ_ μ=>.ok t μ
noncomputable abbrev eV(i:Nat):De:=λτ μ=>match Wq τ i with
 |some t=>.ok t μ
 |none=>.st
noncomputable abbrev ze(op:zcR)(f g:De):De:=λτ μ=>(f τ μ).bind λx μ1=>(g τ μ1).bind λy μ2=>z5s op x y μ2
noncomputable abbrev WT(f:De):De:=λτ μ=>(f τ μ).bind λx μ1=>match x with|.int i=>.ok (.int (-i)) μ1|_=>.st
noncomputable abbrev z3s(f:De):De:=λτ μ=>(f τ μ).bind λx μ1=>match x with|.bl b=>.ok (.bl (!b)) μ1|_=>.st
noncomputable abbrev Jx(f g:De):De:=λτ μ=>(f τ μ).bind λx μ1=>match x with|.bl b=>.br b (g τ μ1) (.ok (.bl false) μ1)|_=>.st
noncomputable abbrev eOr(f g:De):De:=λτ μ=>(f τ μ).bind λx μ1=>match x with|.bl b=>.br b (.ok (.bl true) μ1) (g τ μ1)|_=>.st
noncomputable abbrev zv(op:z85)(f g:De):De:=λτ μ=>(f τ μ).bind λx μ1=>(g τ μ1).bind λy μ2=>Q5 op x y μ2
noncomputable abbrev chS(op:z85)(last:Bool)(ih:T->Sl->Mem->RE T)(x y:T)(τ:Sl)(μ1:Mem):RE T:=match last with
 |true=>Q5 op x y μ1
 |false=>(Q5 op x y μ1).bind λk μ2=>match k with
  |.bl b=>.br b (ih y τ μ2) (.ok (.bl false) μ2)
  |_=>.st
noncomputable abbrev Uc(ps:List (z85×De)):T->Sl->Mem->RE T:=z81 (motive:=λ_=>T->Sl->Mem->RE T) (λ_ _ _=>.st) (λp r ih x τ μ=>(p.2 τ μ).bind λy μ1=>chS p.1 r.isEmpty ih x y τ μ1) ps
noncomputable abbrev eCh(f:De)(ps:List (z85×De)):De:=λτ μ=>(f τ μ).bind λx μ1=>Uc ps x τ μ1
noncomputable abbrev tE(f:De):Dt:=λτ μ=>(f τ μ).bind xv
noncomputable abbrev vX(f g:Dt):Dt:=λτ μ=>(f τ μ).bind λb μ1=>.br b (g τ μ1) (.ok false μ1)
noncomputable abbrev tOr(f g:Dt):Dt:=λτ μ=>(f τ μ).bind λb μ1=>.br b (.ok true μ1) (g τ μ1)
noncomputable abbrev vE(f:Dt):Dt:=λτ μ=>(f τ μ).bind λb μ1=>.ok (!b) μ1
noncomputable abbrev eIf(c:Dt)(f g:De):De:=λτ μ=>(c τ μ).bind λb μ1=>.br b (f τ μ1) (g τ μ1)
noncomputable abbrev ya(t:T)(f:Nat)(μ:Mem):RE T:=match t with
 |.obj _ fs=>(match Wb fs f with|some v=>.ok v μ|none=>.st)
 |.mut i=>λK _=>∃c fs v,μ[i]?=some (.obj c fs)/\Wb fs f=some v/\K v μ
 |_=>.st
noncomputable abbrev zi(f:De)(n:Nat):De:=λτ μ=>(f τ μ).bind λt μ1=>ya t n μ1
noncomputable def JV(n:Nat)(i:Int):Option Nat:=if 0<=i then (if i<n then some i.toNat else none) else if -(n:Int)<=i then some (i+n).toNat else none
noncomputable def wG {α:Type}(xs:List α)(i:Int):Option α:=(JV xs.length i).bind λj=>xs[j]?
noncomputable abbrev z1c(t i:T)(μ:Mem):RE T:=match i with
 |.int k=>(match t with
  |.lst ts=>.som (wG ts k) λv=>.ok v μ
  |.tup ts=>.som (wG ts k) λv=>.ok v μ
  |.mut j=>λK _=>∃ts v,μ[j]?=some (.lst ts)/\wG ts k=some v/\K v μ
  |.str z=>.grd (z.length<=room) (.som (wG z.cps.toList k) λc=>.ok (.str ⟨#[c]⟩) μ)
  |_=>.st)
 |_=>.st
noncomputable abbrev eIx(f g:De):De:=λτ μ=>(f τ μ).bind λx μ1=>(g τ μ1).bind λy μ2=>z1c x y μ2
noncomputable def WH(n d:Nat):Option Int->Nat
 |none=>d
 |some v=>if v<0 then (v+(n:Int)).toNat else min v.toNat n
noncomputable def xy {α:Type}(xs:List α)(lo hi:Option Int):List α:=(xs.drop (WH xs.length 0 lo)).take (WH xs.length xs.length hi-WH xs.length 0 lo)
noncomputable abbrev Dp:=Sl->Mem->RE (Option Int)
noncomputable abbrev pN:Dp:=λ_ μ=>.ok none μ
noncomputable abbrev pS(f:De):Dp:=λτ μ=>(f τ μ).bind λt μ1=>match t with|.int i=>.ok (some i) μ1|_=>.st
noncomputable abbrev z5w(x:T)(l h:Option Int)(μ:Mem):RE T:=match x with
 |.lst xs=>.ok (.lst (xy xs l h)) μ
 |.tup xs=>.ok (.tup (xy xs l h)) μ
 |.str z=>.grd (z.length<=room) (.ok (.str (Txt.slice z l h)) μ)
 |.mut i=>λK _=>∃ts,μ[i]?=some (.lst ts)/\K (.lst (xy ts l h)) μ
 |_=>.st
noncomputable abbrev eSl(f:De)(lo hi:Dp):De:=λτ μ=>(f τ μ).bind λx μ1=>(lo τ μ1).bind λl μ2=>(hi τ μ2).bind λh μ3=>z5w x l h μ3
noncomputable abbrev evs(fs:List De):Da:=z81 (motive:=λ_=>Da) (λ_ μ=>.ok [] μ) (λf _ ih τ μ=>(f τ μ).bind λt μ1=>(ih τ μ1).bind λts μ2=>.ok (t::ts) μ2) fs
noncomputable abbrev jI(fs:List De):De:=λτ μ=>(evs fs τ μ).bind λts μ1=>.ok (.lst ts) μ1
noncomputable abbrev qZ(fs:List De):De:=λτ μ=>(evs fs τ μ).bind λts μ1=>.ok (.tup ts) μ1
noncomputable abbrev ji(fs:List De):De:=λτ μ=>(evs fs τ μ).bind λts μ1=>.ok (.mut μ1.length) (μ1++[.lst ts])
noncomputable abbrev zb(g:Fn)(fs:List De):De:=λτ μ=>(evs fs τ μ).bind g
noncomputable abbrev QD(c:Nat)(g:Fn)(ts:List T)(μ:Mem):RE T:=λK Z=>
 j6 ts=true/\g (.mut 0::ts) [.obj c []] (λr μ1=>r=.non/\∃fs,μ1[0]?=some (.obj c fs)/\xh fs=true/\K (.obj c fs) μ) (λk fs _=>xh fs=true/\Z k fs μ)
noncomputable abbrev eMk(c:Nat)(g:Fn)(fs:List De):De:=λτ μ=>(evs fs τ μ).bind (QD c g)
noncomputable abbrev Xh(cs:List Nat)(x:T)(μ:Mem):RE T:=match x with
 |.mut i=>.som μ[i]? λo=>.br (z1i o) .st (.ok (.bl (isAny (tyO o) cs)) μ)
 |x=>match tyN x μ with
  |some t=>.ok (.bl (isAny t cs)) μ
  |none=>.st
noncomputable abbrev xY(cs:List Nat)(f:De):De:=λτ μ=>(f τ μ).bind (Xh cs)
noncomputable abbrev eB1(op:T->Mem->RE T)(f:De):De:=λτ μ=>(f τ μ).bind op
noncomputable abbrev ur(t:T)(μ:Mem):RE T:=match t with
 |.lst xs=>.ok (.int xs.length) μ
 |.tup xs=>.ok (.int xs.length) μ
 |.str s=>.grd (s.length<=room) (.ok (.int s.length) μ)
 |.mut i=>λK _=>∃xs,μ[i]?=some (.lst xs)/\K (.int xs.length) μ
 |_=>.st
noncomputable abbrev y3(o f:De):De:=λτ μ=>(o τ μ).bind λot μ1=>match ot with
 |.mut i=>λK Z=>(∃ts,μ1[i]?=some (.lst ts))/\f τ μ1 (λt μ2=>∃ts,μ2[i]?=some (.lst ts)/\ts.length<room/\K .non (μ2.set i (.lst (ts++[t])))) Z
 |_=>.st
noncomputable abbrev Yb(z:Str):List T:=z.cps.toList.map λc=>T.str ⟨#[c]⟩
noncomputable abbrev z3C(t:T)(μ:Mem):RI:=match t with
 |.lst xs=>.ok xs lvT μ
 |.tup xs=>.ok xs lvT μ
 |.str z=>.ok (Yb z) lvT μ
 |.mut i=>λK _=>∃xs,μ[i]?=some (.lst xs)/\K xs (lvM i xs) μ
 |_=>.st
noncomputable abbrev iE(f:De):Di:=λτ μ=>(f τ μ).it z3C
noncomputable def rangeT(n:Int):List T:=(z7_ n.toNat).map λ(i:Nat)=>T.int i
noncomputable def jw(a b c:Int):List T:=(z7_ (if a<b then (b-a-1) / c+1 else 0:Int).toNat).map λ(i:Nat)=>T.int (a+i * c)
noncomputable abbrev inL(a:Int):Prop := -1606938044258990275541962092341162602522202993782792835301376<=a/\a<1606938044258990275541962092341162602522202993782792835301376
noncomputable abbrev z1I(f:De):Di:=λτ μ=>(f τ μ).it λt μ1=>match t with
 |.int n=>.grd (inL n) (.ok (rangeT n) lvT μ1)
 |_=>.st
noncomputable abbrev Yu(x y z:T)(μ:Mem):RI:=match x,y,z with
 |.int a,.int b,.int c=>.grd (inL a/\inL b/\0<c/\c<1073741824) (.ok (jw a b c) lvT μ)
 |_,_,_=>.st
noncomputable abbrev z1j(f g h:De):Di:=λτ μ=>(f τ μ).it λx μ1=>(g τ μ1).it λy μ2=>(h τ μ2).it λz μ3=>Yu x y z μ3
noncomputable abbrev uU(f g:De):Di:=λτ μ=>(f τ μ).it λx μ1=>(g τ μ1).it λy μ2=>match x,y with
 |.int a,.int b=>.grd (inL a/\inL b) (.ok (jw a b 1) lvT μ2)
 |_,_=>.st
inductive Tg where
 |one (i:Nat)|tup (is:List Nat)
noncomputable abbrev QS(is:List Nat):List T->Sl->Option Sl:=z81 (motive:=λ_=>List T->Sl->Option Sl) (λts τ=>z81 (motive:=λ_=>Option Sl) (some τ) (λ_ _ _=>none) ts) (λi _ ih ts τ=>z81 (motive:=λ_=>Option Sl) none (λt ts' _=>ih ts' (jz τ i (some t))) ts) is
noncomputable abbrev asg:Tg->T->Sl->Option Sl
 |.one i,t,τ=>some (jz τ i (some t))
 |.tup is,.tup ts,τ=>QS is ts τ
 |_,_,_=>none
noncomputable def qq(tg:Tg)(g:Sl->Mem->RE (Option T))(lv:Mem->Prop)(τ:Sl):List T->Mem->RE (List T)
 |[],μ=>.ok [] μ
 |x::r,μ=>.som (asg tg x τ) λτ'=>(g τ' μ).bind λo μ1=>.grd (lv μ1) (match o with
  |some y=>(qq tg g lv τ r μ1).bind λys μ2=>.ok (y::ys) μ2
  |none=>qq tg g lv τ r μ1)
noncomputable abbrev xx(cs:List Dt)(f:De):Sl->Mem->RE (Option T):=z81 (motive:=λ_=>Sl->Mem->RE (Option T)) (λτ μ=>(f τ μ).bind λy μ1=>.ok (some y) μ1) (λc _ ih τ μ=>(c τ μ).bind λb μ1=>.br b (ih τ μ1) (.ok none μ1)) cs
noncomputable abbrev V9(is:List Nat)(τ:Sl):Sl:=z81 (motive:=λ_=>Sl) [] (λi _ ih=>Wq τ i::ih) is
noncomputable abbrev blk(n:Nat)(fs:List Nat)(τ:Sl):Sl:=zdw (motive:=λ_=>Sl) (V9 fs τ) (λ_ ih=>none::ih) n
noncomputable abbrev ja(n:Nat)(fs:List Nat)(tg:Tg)(it:Di)(cs:List Dt)(f:De):De:=λτ μ=>(it τ μ).go λxs o μ1=>.grd (xs.length<=room) ((qq tg (xx cs f) o (blk n fs τ) xs μ1).bind λys μ2=>.ok (.lst ys) μ2)
noncomputable abbrev vk(n:Nat)(fs:List Nat)(tg:Tg)(it:Di)(cs:List Dt)(f:De):De:=λτ μ=>(it τ μ).go λxs o μ1=>.grd (xs.length<=room) ((qq tg (xx cs f) o (blk n fs τ) xs μ1).bind λys μ2=>.ok (.mut μ2.length) (μ2++[.lst ys]))
noncomputable abbrev zp(f:De):Ds:=λτ μ=>(f τ μ).out τ λt μ1=>.rt t μ1
noncomputable abbrev XQ:Ds:=λ_ μ=>.rt .non μ
noncomputable abbrev zF(f:De):Ds:=λτ μ=>(f τ μ).out τ λ_ μ1=>.nx τ μ1
noncomputable abbrev qd(ss:List Ds):Ds:=z81 (motive:=λ_=>Ds) (λτ μ=>.nx τ μ) (λs _ ih τ μ=>(s τ μ).seq ih) ss
noncomputable abbrev sIf(c:Dt)(a b:List Ds):Ds:=λτ μ=>(c τ μ).out τ λk μ1=>.br k (qd a τ μ1) (qd b τ μ1)
noncomputable abbrev zj(i:Nat)(f:De):Ds:=λτ μ=>(f τ μ).out τ λt μ1=>.nx (jz τ i (some t)) μ1
noncomputable abbrev Jy(is:List Nat)(f:De):Ds:=λτ μ=>(f τ μ).out τ λt μ1=>.som (asg (.tup is) t τ) λτ'=>.nx τ' μ1
noncomputable abbrev qI(o:De)(n:Nat)(f:De):Ds:=λτ μ=>(f τ μ).out τ λt μ1=>(o τ μ1).out τ λot μ2=>match ot with
 |.mut i=>λE=>∃c fs,μ2[i]?=some (.obj c fs)/\fs.length<900/\E.nx τ (μ2.set i (.obj c (JT n t fs)))
 |_=>.st
noncomputable abbrev z0S(o b f:De):Ds:=λτ μ=>(f τ μ).out τ λt μ1=>(o τ μ1).out τ λot μ2=>(b τ μ2).out τ λit μ3=>match ot,it with
 |.mut i,.int k=>λE=>∃ts,μ3[i]?=some (.lst ts)/\(0<=k/\k<ts.length/\k<9223372036854775808)/\E.nx τ (μ3.set i (.lst (ts.set k.toNat t)))
 |_,_=>.st
noncomputable def forM(tg:Tg)(body:Ds)(lv:Mem->Prop):List T->Ds
 |[],τ,μ=>.nx τ μ
 |x::r,τ,μ=>.som (asg tg x τ) λτ'=>λE=>body τ' μ (E.turn λτ2 μ2=>lv μ2/\forM tg body lv r τ2 μ2 E)
noncomputable abbrev Kr(tg:Tg)(it:Di)(body:List Ds):Ds:=λτ μ=>(it τ μ).out τ λxs o μ1=>forM tg (qd body) o xs τ μ1
noncomputable abbrev qx(c:Nat)(fs:List De):Ds:=λτ μ=>(evs fs τ μ).out τ λts μ1=>.grd (ts.length<=room) (.ex c [] τ μ1)
noncomputable abbrev ZN(c f:Nat)(g:De):Ds:=λτ μ=>(g τ μ).out τ λt μ1=>match t with
 |.int i=>.grd (i.natAbs.log2<1920) (.ex c [(f,.int i)] τ μ1)
 |_=>.st
noncomputable abbrev z4v(i:Option Nat)(v:List Ds)(k:Nat)(fs:List (Nat×T))(τ:Sl)(μ:Mem):Out:=λE=>match i with
 |some j=>qd v (jz τ j (some (.exc k fs))) μ {nx:=λτ2 μ2=>E.nx (jz τ2 j none) μ2,rt:=E.rt,bk:=λ_ _=>False,ct:=λ_ _=>False,ex:=λ_ _ _ _=>False}
 |none=>qd v τ μ {nx:=E.nx,rt:=E.rt,bk:=λ_ _=>False,ct:=λ_ _=>False,ex:=λ_ _ _ _=>False}
noncomputable abbrev z0n(hs:List (List Nat×Option Nat×List Ds)):Nat->List (Nat×T)->Sl->Mem->Out:=z81 (motive:=λ_=>Nat->List (Nat×T)->Sl->Mem->Out) (λk fs τ μ=>.ex k fs τ μ) (λp _ ih k fs τ μ=>.br (isAny k p.1) (z4v p.2.1 p.2.2 k fs τ μ) (ih k fs τ μ)) hs
noncomputable abbrev z2z(b:List Ds)(hs:List (List Nat×Option Nat×List Ds)):Ds:=λτ μ E=>qd b τ μ (E.tri λk fs τ1 μ1=>z0n hs k fs τ1 μ1 E)
noncomputable abbrev pad(n:Nat):Sl:=zdw (motive:=λ_=>Sl) [] (λ_ ih=>none::ih) n
noncomputable abbrev UW(ts:List T)(n:Nat):Sl:=z81 (motive:=λ_=>Sl) (pad n) (λt _ ih=>some t::ih) ts
noncomputable abbrev fnW(n m:Nat)(body:List Ds):Fn:=λts μ K Z=>ts.length=n/\qd body (UW ts m) μ (En.fn K Z)
end NH
namespace NH
open PySem PySem.Spec PyProof.Rows L2
section
structure DP where
 K:z6C
 adr:Nat->Option Addr
 cad:Nat->Option Addr
 fn:Nat->Option Str
 inj:∀i j x,fn i=some x->fn j=some x->i=j
 clo:Nat->Addr->Option HO->List V->Prop
 tabs:Nat->Option (Addr×List Pos×Str)
noncomputable def XcAt (a C:Addr)(d:Option Addr):Heap->Prop:=λh=>∃oe vs,h.get? a=some oe/\oe.cls=.ref C/\oe.data=.fields vs/\oe.dict=d
noncomputable def wI(c:Addr)(qn:Str):Heap->Prop:=λh=>h.CodeRec (.ref c) qn
mutual
def Den (D:DP)(φ α:List Addr)(H:Hp):T->V->Prop
 |.non,v=>v=.non
 |.bl b,v=>v=.bl b
 |.int i,v=>v=.int i
 |.str x,v=>v=.str x
 |.mut i,v=>∃a,α[i]?=some a/\v=.ref a
 |.tup ts,v=>∃a xs,v=.ref a/\a∉φ/\a∉α/\Rd H a (.tup xs)/\DenL D φ α H ts xs
 |.lst ts,v=>∃a xs,v=.ref a/\a∉φ/\a∉α/\Rd H a (.lst xs)/\DenL D φ α H ts xs
 |.obj c fs,v=>∃a C dx gs,v=.ref a/\a∉φ/\a∉α/\D.cad c=some C/\H a=some (.ins C dx gs)/\DenF D φ α H fs gs
 |.exc c fs,v=>∃a C d,v=.ref a/\a∉φ/\a∉α/\D.adr c=some C/\H a=some (.ext (XcAt a C d))/\(match d with
  |none=>fs=[]
  |some dx=>∃gs,dx∉φ/\dx∉α/\H dx=some (.xd gs)/\DenF D φ α H fs gs)
 |.dic kvs,v=>∃a gs,v=.ref a/\a∉φ/\a∉α/\H a=some (.dK gs)/\DenK D φ α H kvs gs
 |.clo j cs,v=>∃a ob xs,v=.ref a/\D.clo j a ob xs/\(∀o,ob=some o->a∉φ/\a∉α/\H a=some o)/\DenL D φ α H cs xs
def DenL (D:DP)(φ α:List Addr)(H:Hp):List T->List V->Prop
 |[],vs=>vs=[]
 |t::ts,vs=>∃v r,vs=v::r/\Den D φ α H t v/\DenL D φ α H ts r
def DenF (D:DP)(φ α:List Addr)(H:Hp):List (Nat×T)->List (Str×V)->Prop
 |[],gs=>gs=[]
 |p::fs,gs=>∃x v r,D.fn p.1=some x/\gs=(x,v)::r/\Den D φ α H p.2 v/\DenF D φ α H fs r
def DenK (D:DP)(φ α:List Addr)(H:Hp):List (Key×T)->List (Key×V)->Prop
 |[],gs=>gs=[]
 |p::fs,gs=>∃v r,gs=(p.1,v)::r/\Den D φ α H p.2 v/\DenK D φ α H fs r
end
noncomputable def XDict(D:DP)(φ α:List Addr)(H:Hp)(fs:List (Nat×T)):Option Addr->Prop
 |none=>fs=[]
 |some dx=>∃gs,dx∉φ/\dx∉α/\H dx=some (.xd gs)/\DenF D φ α H fs gs
noncomputable def DenO (D:DP)(φ α:List Addr)(H:Hp):MO->Addr->Prop
 |.lst ts,a=>∃xs,H a=some (.lst xs)/\DenL D φ α H ts xs
 |.obj c fs,a=>∃C dx gs,D.cad c=some C/\H a=some (.ins C dx gs)/\DenF D φ α H fs gs
 |.dic kvs,a=>∃gs,H a=some (.dK gs)/\DenK D φ α H kvs gs
 |.tab j,a=>∃poss qn ps,D.tabs j=some (a,poss,qn)/\H a=some (.tbl ps)/\z9H ps.toList/\∀pos∈poss,z96 pos ps.toList=none\/∃c,z96 pos ps.toList=some (.ref c)/\c∉φ/\c∉α/\H c=some (.ext (wI c qn))
structure Stp(α:List Addr)(H:Hp)(α':List Addr)(H':Hp):Prop where
 ext:∃β,α'=α++β/\∀b∈β,H b=none
 keep:∀b o,b∉α->H b=some o->H' b=some o
 live:∀b,H' b=none->H b=none
theorem Stp.refl(α:List Addr)(H:Hp):Stp α H α H:=⟨⟨[],by simp,by simp⟩,λ_ _ _ e=>e,λ_ e=>e⟩
theorem Stp.trans{α α1 α2:List Addr}{H H1 H2:Hp}(a:Stp α H α1 H1)(b:Stp α1 H1 α2 H2):Stp α H α2 H2:=by
 obtain⟨β,rfl,hβ⟩:=a.ext
 obtain⟨γ,rfl,hγ⟩:=b.ext
 refine⟨⟨β++γ,by simp,λc hc=>?_⟩,λc o n e=>?_,λc e=>a.live c (b.live c e)⟩
 ·rcases z6K.mp hc with h|h
  ·exact hβ c h
  ·exact a.live c (hγ c h)
 ·refine b.keep c o (λh=>?_) (a.keep c o n e)
  rcases z6K.mp h with h|h
  ·exact n h
  ·rw[hβ c h] at e;cases e
theorem Stp.new{α:List Addr}{H H':Hp}(s:vz H H'):Stp α H α H':=⟨⟨[],by simp,by simp⟩,λb o _ e=>s b o e,λb e=>by
 cases q:H b with
 |none=>rfl
 |some o=>rw[s b o q] at e;cases e⟩
theorem zk{H:Hp}{p:Addr}{o:HO}(h:H p=none):vz H (upd H p o):=λb u e=>by rw[z7 (zJ e h)];exact e
theorem Stp.out{α α':List Addr}{H H':Hp}(s:Stp α H α' H'){a:Addr}{o:HO}(n:a∉α)(e:H a=some o):a∉α':=by
 obtain⟨β,rfl,hβ⟩:=s.ext
 intro h
 rcases z6K.mp h with h|h
 ·exact n h
 ·rw[hβ a h] at e;cases e
section
variable {D:DP}{φ φ' α α':List Addr}{H H':Hp}
structure Lk(φ α:List Addr)(H:Hp)(φ' α':List Addr)(H':Hp):Prop where
 ob:∀a o,a∉φ->a∉α->H a=some o->a∉φ'/\a∉α'/\H' a=some o
 st:∀(i:Nat) (a:Addr),α[i]?=some a->α'[i]?=some a
mutual
theorem Den.lk(h:Lk φ α H φ' α' H'):∀{t:T} {v:V},Den D φ α H t v->Den D φ' α' H' t v
 |.non,_,d=>d
 |.bl _,_,d=>d
 |.int _,_,d=>d
 |.str _,_,d=>d
 |.mut i,_,d=>by obtain⟨a,e,q⟩:=d;exact⟨a,h.st i a e,q⟩
 |.tup ts,_,d=>by
  obtain⟨a,xs,rfl,n1,n2,r,l⟩:=d
  rcases r with r|⟨o,r⟩
  ·obtain⟨m1,m2,e⟩:=h.ob a _ n1 n2 r
   exact⟨a,xs,rfl,m1,m2,.inl e,DenL.lk h l⟩
  ·obtain⟨m1,m2,e⟩:=h.ob a _ n1 n2 r
   exact⟨a,xs,rfl,m1,m2,.inr ⟨o,e⟩,DenL.lk h l⟩
 |.lst ts,_,d=>by
  obtain⟨a,xs,rfl,n1,n2,r,l⟩:=d
  rcases r with r|⟨o,r⟩
  ·obtain⟨m1,m2,e⟩:=h.ob a _ n1 n2 r
   exact⟨a,xs,rfl,m1,m2,.inl e,DenL.lk h l⟩
  ·obtain⟨m1,m2,e⟩:=h.ob a _ n1 n2 r
   exact⟨a,xs,rfl,m1,m2,.inr ⟨o,e⟩,DenL.lk h l⟩
 |.obj c fs,_,d=>by
  obtain⟨a,C,dx,gs,rfl,n1,n2,ad,e,l⟩:=d
  obtain⟨m1,m2,e⟩:=h.ob a _ n1 n2 e
  exact⟨a,C,dx,gs,rfl,m1,m2,ad,e,DenF.lk h l⟩
 |.exc c fs,_,d=>by
  obtain⟨a,C,d,rfl,n1,n2,ad,e,l⟩:=d
  obtain⟨m1,m2,e⟩:=h.ob a _ n1 n2 e
  refine⟨a,C,d,rfl,m1,m2,ad,e,?_⟩
  cases d with
  |none=>exact l
  |some dx=>
   obtain⟨gs,k1,k2,e2,l⟩:=l
   obtain⟨k1,k2,e2⟩:=h.ob dx _ k1 k2 e2
   exact⟨gs,k1,k2,e2,DenF.lk h l⟩
 |.dic kvs,_,d=>by
  obtain⟨a,gs,rfl,n1,n2,e,l⟩:=d
  obtain⟨m1,m2,e⟩:=h.ob a _ n1 n2 e
  exact⟨a,gs,rfl,m1,m2,e,DenK.lk h l⟩
 |.clo j cs,_,d=>by
  obtain⟨a,ob,xs,rfl,c,e,l⟩:=d
  exact⟨a,ob,xs,rfl,c,λo z=>let ⟨n1,n2,q⟩:=e o z;h.ob a o n1 n2 q,DenL.lk h l⟩
theorem DenL.lk(h:Lk φ α H φ' α' H'):∀{ts:List T} {vs:List V},DenL D φ α H ts vs->DenL D φ' α' H' ts vs
 |[],_,l=>l
 |t::ts,_,l=>by
  obtain⟨v,r,rfl,a,b⟩:=l
  exact⟨v,r,rfl,Den.lk h a,DenL.lk h b⟩
theorem DenF.lk(h:Lk φ α H φ' α' H'):∀{fs:List (Nat×T)} {gs:List (Str×V)},DenF D φ α H fs gs->DenF D φ' α' H' fs gs
 |[],_,l=>l
 |p::fs,_,l=>by
  obtain⟨x,v,r,e,rfl,a,b⟩:=l
  exact⟨x,v,r,e,rfl,Den.lk h a,DenF.lk h b⟩
theorem DenK.lk(h:Lk φ α H φ' α' H'):∀{fs:List (Key×T)} {gs:List (Key×V)},DenK D φ α H fs gs->DenK D φ' α' H' fs gs
 |[],_,l=>l
 |p::fs,_,l=>by
  obtain⟨v,r,rfl,a,b⟩:=l
  exact⟨v,r,rfl,Den.lk h a,DenK.lk h b⟩
end
theorem Stp.lk(s:Stp α H α' H'):Lk φ α H φ α' H':=⟨λa o n1 n2 e=>⟨n1,s.out n2 e,s.keep a o n2 e⟩,λi a e=>by
 obtain⟨β,rfl,_⟩:=s.ext
 rw[z6B (z6v.mp e).1];exact e⟩
theorem Den.step(s:Stp α H α' H'){t:T}{v:V}(d:Den D φ α H t v):Den D φ α' H' t v:=d.lk s.lk
theorem DenL.step(s:Stp α H α' H'){t:List T}{v:List V}(d:DenL D φ α H t v):DenL D φ α' H' t v:=d.lk s.lk
theorem DenF.step(s:Stp α H α' H'){t:List (Nat×T)}{v:List (Str×V)}(d:DenF D φ α H t v):DenF D φ α' H' t v:=d.lk s.lk
theorem DenK.step(s:Stp α H α' H'){t:List (Key×T)}{v:List (Key×V)}(d:DenK D φ α H t v):DenK D φ α' H' t v:=d.lk s.lk
theorem XDict.lk{fs:List (Nat×T)}{d:Option Addr}(h:Lk φ α H φ' α' H')(x:XDict D φ α H fs d):XDict D φ' α' H' fs d:=by
 cases d with
 |none=>exact x
 |some dx=>
  obtain⟨gs,k1,k2,e2,l⟩:=x
  obtain⟨k1,k2,e2⟩:=h.ob dx _ k1 k2 e2
  exact⟨gs,k1,k2,e2,DenF.lk h l⟩
mutual
theorem Den.hide{β:List Addr}:∀{t:T} {v:V},wd t=true->Den D φ α H t v->(∀a,a∉φ->a∉α->a∉φ'/\a∉β)->Den D φ' β H t v
 |.non,_,_,h,_=>h
 |.bl _,_,_,h,_=>h
 |.int _,_,_,h,_=>h
 |.str _,_,_,h,_=>h
 |.mut i,_,p,_,_=>by simp[wd] at p
 |.tup ts,_,p,h,k=>by
  obtain⟨a,xs,rfl,n1,n2,r,l⟩:=h
  exact⟨a,xs,rfl,(k a n1 n2).1,(k a n1 n2).2,r,DenL.hide (by simpa[wd] using p) l k⟩
 |.lst ts,_,p,h,k=>by
  obtain⟨a,xs,rfl,n1,n2,r,l⟩:=h
  exact⟨a,xs,rfl,(k a n1 n2).1,(k a n1 n2).2,r,DenL.hide (by simpa[wd] using p) l k⟩
 |.obj c fs,_,p,h,k=>by
  obtain⟨a,C,dx,gs,rfl,n1,n2,ad,e,l⟩:=h
  exact⟨a,C,dx,gs,rfl,(k a n1 n2).1,(k a n1 n2).2,ad,e,DenF.hide (by simpa[wd] using p) l k⟩
 |.exc c fs,_,p,h,k=>by
  obtain⟨a,C,d,rfl,n1,n2,ad,e,l⟩:=h
  refine⟨a,C,d,rfl,(k a n1 n2).1,(k a n1 n2).2,ad,e,?_⟩
  cases d with
  |none=>exact l
  |some dx=>
   obtain⟨gs,k1,k2,e2,l⟩:=l
   exact⟨gs,(k dx k1 k2).1,(k dx k1 k2).2,e2,DenF.hide (by simpa[wd] using p) l k⟩
 |.dic kvs,_,p,h,k=>by
  obtain⟨a,gs,rfl,n1,n2,e,l⟩:=h
  exact⟨a,gs,rfl,(k a n1 n2).1,(k a n1 n2).2,e,DenK.hide (by simpa[wd] using p) l k⟩
 |.clo j cs,_,p,h,k=>by
  obtain⟨a,ob,xs,rfl,c,e,l⟩:=h
  exact⟨a,ob,xs,rfl,c,λo z=>let ⟨n1,n2,q⟩:=e o z;⟨(k a n1 n2).1,(k a n1 n2).2,q⟩,DenL.hide (by simpa[wd] using p) l k⟩
theorem DenL.hide{β:List Addr}:∀{ts:List T} {vs:List V},j6 ts=true->DenL D φ α H ts vs->(∀a,a∉φ->a∉α->a∉φ'/\a∉β)->DenL D φ' β H ts vs
 |[],_,_,h,_=>h
 |t::ts,_,p,h,k=>by
  obtain⟨v,r,rfl,a,b⟩:=h
  simp only[j6,z6x] at p
  exact⟨v,r,rfl,Den.hide p.1 a k,DenL.hide p.2 b k⟩
theorem DenF.hide{β:List Addr}:∀{fs:List (Nat×T)} {gs:List (Str×V)},xh fs=true->DenF D φ α H fs gs->(∀a,a∉φ->a∉α->a∉φ'/\a∉β)->DenF D φ' β H fs gs
 |[],_,_,h,_=>h
 |q::fs,_,p,h,k=>by
  obtain⟨x,v,r,e,rfl,a,b⟩:=h
  simp only[xh,z6x] at p
  exact⟨x,v,r,e,rfl,Den.hide p.1 a k,DenF.hide p.2 b k⟩
theorem DenK.hide{β:List Addr}:∀{fs:List (Key×T)} {gs:List (Key×V)},VU fs=true->DenK D φ α H fs gs->(∀a,a∉φ->a∉α->a∉φ'/\a∉β)->DenK D φ' β H fs gs
 |[],_,_,h,_=>h
 |q::fs,_,p,h,k=>by
  obtain⟨v,r,rfl,a,b⟩:=h
  simp only[VU,z6x] at p
  exact⟨v,r,rfl,Den.hide p.1 a k,DenK.hide p.2 b k⟩
end
theorem XDict.hide{fs:List (Nat×T)}{d:Option Addr}{β:List Addr}(p:xh fs=true)(x:XDict D φ α H fs d)(k:∀a,a∉φ->a∉α->a∉φ'/\a∉β):XDict D φ' β H fs d:=by
 cases d with
 |none=>exact x
 |some dx=>
  obtain⟨gs,k1,k2,e2,l⟩:=x
  exact⟨gs,(k dx k1 k2).1,(k dx k1 k2).2,e2,DenF.hide p l k⟩
theorem z0J:∀a:Addr,a∉φ->a∉α->a∉φ++α/\a∉([]:List Addr):=λa n1 n2=>⟨λz=>(z6K.mp z).elim n1 n2,by simp⟩
theorem W5{β:List Addr}:∀a:Addr,a∉φ++α->a∉β->a∉φ/\a∉α:=λa n1 _=>⟨λz=>n1 (z6G _ z),λz=>n1 (z6O _ z)⟩
theorem DenL.length:∀{ts:List T} {vs:List V},DenL D φ α H ts vs->ts.length=vs.length
 |[],_,h=>by have:_=[]:=h;subst this;rfl
 |t::ts,_,h=>by
  obtain⟨v,r,rfl,_,b⟩:=h
  simp[DenL.length b]
theorem DenL.get:∀{ts:List T} {vs:List V} {i:Nat} {t:T},DenL D φ α H ts vs->ts[i]?=some t->∃v,vs[i]?=some v/\Den D φ α H t v
 |[],_,_,_,_,e=>by simp at e
 |t::ts,_,0,_,h,e=>by
  obtain⟨v,r,rfl,a,b⟩:=h
  simp at e;subst e
  exact⟨v,rfl,a⟩
 |t::ts,_,i+1,u,h,e=>by
  obtain⟨v,r,rfl,a,b⟩:=h
  obtain⟨w,e',d⟩:=DenL.get (i:=i) (t:=u) b (by simpa using e)
  exact⟨w,by simpa using e',d⟩
theorem DenL.append:∀{ts us:List T} {vs ws:List V},DenL D φ α H ts vs->DenL D φ α H us ws->DenL D φ α H (ts++us) (vs++ws)
 |[],us,_,ws,h,k=>by have:_=[]:=h;subst this;exact k
 |t::ts,us,_,ws,h,k=>by
  obtain⟨v,r,rfl,a,b⟩:=h
  exact⟨v,r++ws,rfl,a,DenL.append b k⟩
theorem DenL.drop:∀(n:Nat) {ts:List T} {vs:List V},DenL D φ α H ts vs->DenL D φ α H (ts.drop n) (vs.drop n)
 |0,_,_,h=>h
 |n+1,[],_,h=>by have:_=[]:=h;subst this;exact rfl
 |n+1,t::ts,_,h=>by
  obtain⟨v,r,rfl,a,b⟩:=h
  exact DenL.drop n b
theorem DenL.take:∀(n:Nat) {ts:List T} {vs:List V},DenL D φ α H ts vs->DenL D φ α H (ts.take n) (vs.take n)
 |0,_,_,h=>by simp[DenL]
 |n+1,[],_,h=>by have:_=[]:=h;subst this;exact rfl
 |n+1,t::ts,_,h=>by
  obtain⟨v,r,rfl,a,b⟩:=h
  exact⟨v,r.take n,rfl,a,DenL.take n b⟩
theorem DenL.set:∀{ts:List T} {vs:List V} {i:Nat} {t:T} {v:V},DenL D φ α H ts vs->Den D φ α H t v->DenL D φ α H (ts.set i t) (vs.set i v)
 |[],vs,i,t,v,l,d=>by have l:vs=[]:=l;subst l;exact rfl
 |x::ts,_,0,t,v,l,d=>by
  obtain⟨w,r,rfl,dw,l⟩:=l
  exact⟨v,r,rfl,d,l⟩
 |x::ts,_,i+1,t,v,l,d=>by
  obtain⟨w,r,rfl,dw,l⟩:=l
  exact⟨w,r.set i v,rfl,dw,DenL.set l d⟩
theorem DenF.look:∀{fs:List (Nat×T)} {gs:List (Str×V)} {f:Nat} {t:T},DenF D φ α H fs gs->Wb fs f=some t->∃x v,D.fn f=some x/\gs.lookup x=some v/\Den D φ α H t v
 |[],_,_,_,_,e=>by simp[Wb] at e
 |p::fs,_,f,t,h,e=>by
  obtain⟨x,v,r,ex,rfl,a,b⟩:=h
  rw[Jm] at e
  cases q:z8D p.1 f with
  |true=>
   have q':=zaQ q
   rw[q] at e
   have e:some p.2=some t:=e
   cases e
   exact⟨x,v,by rw[←q'];exact ex,by simp[z79],a⟩
  |false=>
   rw[q] at e
   obtain⟨y,w,h1,h2,h3⟩:=DenF.look b e
   refine⟨y,w,h1,?_,h3⟩
   rw[z79]
   have ne:(y == x)=false:=by
    refine beq_eq_false_iff_ne.mpr λz=>?_
    subst z
    have:=D.inj _ _ _ ex h1
    rw[this] at q
    simp at q
   rw[ne];exact h2
theorem DenF.put{f:Nat}{x:Str}{t:T}{w:V}(hx:D.fn f=some x):∀{fs:List (Nat×T)} {gs:List (Str×V)},DenF D φ α H fs gs->Den D φ α H t w->DenF D φ α H (JT f t fs) (wQ x w gs)
 |[],gs,h,d=>by
  have:gs=[]:=h
  subst this
  exact⟨x,w,[],hx,rfl,d,rfl⟩
 |p::fs,gs,h,d=>by
  obtain⟨z,y,r,ez,rfl,dy,l⟩:=h
  rw[Ks]
  show DenF D φ α H _ (if z=x then (z,w)::r else (z,y)::wQ x w r)
  cases q:z8D p.1 f with
  |true=>
   have q':=zaQ q
   have:z=x:=by rw[q',hx] at ez;exact (z6A ez).symm
   rw[if_pos this]
   exact⟨z,w,r,ez,rfl,d,l⟩
  |false=>
   have:z≠x:=λe=>by
    subst e
    have:=D.inj _ _ _ ez hx
    rw[this] at q
    simp at q
   rw[if_neg this]
   exact⟨z,y,wQ x w r,ez,rfl,dy,DenF.put hx l d⟩
theorem DenF.length:∀{fs:List (Nat×T)} {gs:List (Str×V)},DenF D φ α H fs gs->fs.length=gs.length
 |[],_,h=>by have:_=[]:=h;subst this;rfl
 |p::fs,_,h=>by
  obtain⟨x,v,r,_,rfl,_,b⟩:=h
  simp[DenF.length b]
noncomputable def noF:HO->Bool
 |.frz _ _=>false
 |_=>true
structure MRel(D:DP)(φ α:List Addr)(H:Hp)(μ:Mem):Prop where
 len:α.length=μ.length
 nd:α.Nodup
 dis:∀b∈α,b∉φ
 phi:∀b∈φ,∃o,H b=some o/\noF o=true
 ob:∀(i:Nat) (a:Addr) (o:MO),α[i]?=some a->μ[i]?=some o->DenO D φ α H o a
theorem DenO.lk{o:MO}{a:Addr}(s:Lk φ α H φ' α' H')(e:H' a=H a)(h:DenO D φ α H o a):DenO D φ' α' H' o a:=by
 cases o with
 |lst ts=>
  obtain⟨xs,q,l⟩:=h
  exact⟨xs,e.trans q,DenL.lk s l⟩
 |obj c fs=>
  obtain⟨C,dx,gs,ad,q,l⟩:=h
  exact⟨C,dx,gs,ad,e.trans q,DenF.lk s l⟩
 |dic kvs=>
  obtain⟨xs,q,l⟩:=h
  exact⟨xs,e.trans q,DenK.lk s l⟩
 |tab j=>
  obtain⟨pos,qn,ps,h1,h2,h3,h4⟩:=h
  refine⟨pos,qn,ps,h1,e.trans h2,h3,λp hp=>(h4 p hp).imp id λ⟨c,k1,k2,k3,k4⟩=>?_⟩
  obtain⟨m1,m2,m3⟩:=s.ob c _ k2 k3 k4
  exact⟨c,k1,m1,m2,m3⟩
theorem DenO.step{o:MO}{a:Addr}(s:Stp α H α' H')(e:H' a=H a)(h:DenO D φ α H o a):DenO D φ α' H' o a:=h.lk s.lk e
theorem DenO.some{o:MO}{a:Addr}(h:DenO D φ α H o a):∃u,H a=Option.some u/\noF u=true:=by
 cases o with
 |lst ts=>obtain⟨xs,q,_⟩:=h;exact⟨_,q,rfl⟩
 |obj c fs=>obtain⟨C,dx,gs,_,q,_⟩:=h;exact⟨_,q,rfl⟩
 |dic ts=>obtain⟨xs,q,_⟩:=h;exact⟨_,q,rfl⟩
 |tab j=>obtain⟨_,_,ps,_,q,_⟩:=h;exact⟨_,q,rfl⟩
theorem MRel.new{μ:Mem}(m:MRel D φ α H μ)(s:vz H H'):MRel D φ α H' μ:=
 ⟨m.len,m.nd,m.dis,λb hb=>let ⟨o,e,n⟩:=m.phi b hb;⟨o,s b o e,n⟩,λi a o e1 e2=>by
  have d:=m.ob i a o e1 e2
  obtain⟨u,q,_⟩:=d.some
  exact d.step (Stp.new s) ((s _ _ q).trans q.symm)⟩
theorem MRel.lk{μ:Mem}(h:Lk φ α H φ' α H')(hα:∀a∈α,H' a=H a/\a∉φ')(hφ:∀b∈φ',∃o,H' b=some o/\noF o=true)(m:MRel D φ α H μ):MRel D φ' α H' μ:=
 ⟨m.len,m.nd,λb hb=>(hα b hb).2,hφ,λi a o e1 e2=>(m.ob i a o e1 e2).lk h (hα a (z6M e1)).1⟩
structure SRel(D:DP)(φ α:List Addr)(H:Hp)(τ:Sl)(σ:St):Prop where
 len:τ.length=σ.length
 val:∀(i:Nat) (t:T),τ[i]?=some (some t)->∃v,σ[i]?=some (some v)/\Den D φ α H t v
theorem SRel.lk{τ:Sl}{σ:St}(r:SRel D φ α H τ σ)(s:Lk φ α H φ' α' H'):SRel D φ' α' H' τ σ:=⟨r.len,λi t e=>by
 obtain⟨v,q,d⟩:=r.val i t e
 exact⟨v,q,d.lk s⟩⟩
theorem SRel.step{τ:Sl}{σ:St}(r:SRel D φ α H τ σ)(s:Stp α H α' H'):SRel D φ α' H' τ σ:=r.lk s.lk
theorem SRel.set{τ:Sl}{σ:St}(r:SRel D φ α H τ σ){i:Nat}{t:T}{v:V}(d:Den D φ α H t v):SRel D φ α H (jz τ i (some t)) (σ.set i (some v)):=by
 rw[xR]
 refine⟨by simp[r.len],λj u e=>?_⟩
 by_cases h:i=j
 ·subst h
  rw[z97] at e
  cases q:τ[i]? with
  |none=>rw[q] at e;cases e
  |some o=>
   rw[q] at e
   simp at e
   subst e
   have hl:i<σ.length:=by rw[←r.len];exact (z6v.mp q).1
   exact⟨v,by simp[hl],d⟩
 ·rw[z6D h] at e ⊢
  exact r.val j u e
theorem SRel.unset{τ:Sl}{σ:St}{i:Nat}(r:SRel D φ α H τ σ):SRel D φ α H (jz τ i none) (σ.set i none):=by
 rw[xR]
 refine⟨by simp[r.len],λj t e=>?_⟩
 by_cases h:i=j
 ·subst h
  rw[z97] at e
  cases q:τ[i]? with
  |none=>rw[q] at e;cases e
  |some o=>rw[q] at e;cases e
 ·rw[z6D h] at e ⊢
  exact r.val j t e
theorem SRel.get{τ:Sl}{σ:St}(r:SRel D φ α H τ σ){i:Nat}{t:T}(e:Wq τ i=some t):∃v,σ[i]?=some (some v)/\Den D φ α H t v:=r.val i t (ZK.mp e)
end
theorem kS{φ α:List Addr}{H:Hp}{b:Addr}(hb:H b=none):Lk φ α H (φ++[b]) α H:=by
 refine⟨λa o n1 n2 e=>⟨λz=>?_,n2,e⟩,λ_ _ e=>e⟩
 rcases z6K.mp z with z|z
 ·exact n1 z
 ·rw[z6J.mp z,hb] at e
  cases e
theorem yF{φ α:List Addr}{H H':Hp}{b:Addr}(hb:H b=none)(s:vz H H'):Lk φ α H (φ++[b]) α H':=⟨λa o n1 n2 e=>let ⟨q1,q2,q3⟩:=(kS hb).ob a o n1 n2 e;⟨q1,q2,s a o e⟩,λ_ _ e=>e⟩
theorem qy{φ α:List Addr}{H:Hp}{b:Addr}:Lk (φ++[b]) α H φ α H:=⟨λa o n1 n2 e=>⟨λz=>n1 (z6G _ z),n2,e⟩,λ_ _ e=>e⟩
theorem kh{φ α:List Addr}{H:Hp}{b:Addr}{u:HO}(hb:b∈φ):Lk φ α H φ α (upd H b u):=⟨λa o n1 n2 e=>⟨n1,n2,by rw[z7 (λz:a=b=>n1 (by rw[z];exact hb))];exact e⟩,λ_ _ e=>e⟩
end
inductive Post(D:DP)(W:XW)(φ α:List Addr)(H:Hp)(σ:St){β:Type}(R:β->Mem->List Addr->Hp->Prop)(r:RE β):Prop where
 |mk (K:β->Mem->Prop) (Z:Xp) (q:r K Z) (h:(∀a μ',K a μ'->∀α' H',Stp α H α' H'->MRel D φ α' H' μ'->R a μ' α' H')/\
  ∀c fs μ',Z c fs μ'->∀α' H' C d,Stp α H α' H'->MRel D φ α' H' μ'->D.adr c=some C->XDict D φ α' H' fs d->W (.ref C) d σ H')
inductive RdP(D:DP)(H:Hp)(σ:St)(P:List Addr->List Addr->Sl->Mem->Prop):Prop where
 |mk (φ α:List Addr) (τ:Sl) (μ:Mem) (sr:SRel D φ α H τ σ) (mr:MRel D φ α H μ) (p:P φ α τ μ)
section
variable {D:DP}{W:XW}{φ α α':List Addr}{H H':Hp}{σ:St}{β γ:Type}{R R':β->Mem->List Addr->Hp->Prop}{S:γ->Mem->List Addr->Hp->Prop}
theorem Post.mono{r:RE β}(p:Post D W φ α H σ R r)(h:∀a μ' α' H',Stp α H α' H'->MRel D φ α' H' μ'->R a μ' α' H'->R' a μ' α' H'):Post D W φ α H σ R' r:=by
 obtain⟨K,Z,q,k,z⟩:=p
 exact⟨K,Z,q,λa μ' e α' H' s m=>h a μ' α' H' s m (k a μ' e α' H' s m),z⟩
theorem Post.bind{r:RE γ}{k:γ->Mem->RE β}(p:Post D W φ α H σ R (r.bind k)):Post D W φ α H σ (λa μ' α' H'=>Post D W φ α' H' σ R (k a μ')) r:=by
 obtain⟨K,Z,q,h,z⟩:=p
 exact⟨λa μ=>k a μ K Z,Z,q,λa μ' e α' H' s m=>⟨K,Z,e,λb μ2 e2 α2 H2 s2 m2=>h b μ2 e2 α2 H2 (s.trans s2) m2,λc fs μ2 e2 α2 H2 C d s2 m2=>z c fs μ2 e2 α2 H2 C d (s.trans s2) m2⟩,z⟩
theorem Post.elim{C:Prop}(p:Post D W φ α H σ R RE.st):C:=by obtain⟨_,_,q,_⟩:=p;exact q.elim
theorem Post.grd{c:Prop}{r:RE β}(p:Post D W φ α H σ R (RE.grd c r)):c/\Post D W φ α H σ R r:=by
 obtain⟨K,Z,q,h⟩:=p
 exact⟨q.1,K,Z,q.2,h⟩
theorem Post.som{o:Option γ}{k:γ->RE β}(p:Post D W φ α H σ R (RE.som o k)):∃a,o=some a/\Post D W φ α H σ R (k a):=by
 obtain⟨K,Z,⟨a,e,q⟩,h⟩:=p
 exact⟨a,e,K,Z,q,h⟩
theorem Post.br{b:Bool}{r s:RE β}(p:Post D W φ α H σ R (RE.br b r s)):(b=true/\Post D W φ α H σ R r)\/(b=false/\Post D W φ α H σ R s):=by
 obtain⟨K,Z,q,h⟩:=p
 cases b with
 |true=>exact .inl ⟨rfl,K,Z,q,h⟩
 |false=>exact .inr ⟨rfl,K,Z,q,h⟩
theorem Post.ok{a:β}{μ:Mem}(p:Post D W φ α H σ R (RE.ok a μ)){α':List Addr}{H':Hp}(s:Stp α H α' H')(m:MRel D φ α' H' μ):R a μ α' H':=by
 obtain⟨K,Z,q,h,_⟩:=p
 exact h a μ q α' H' s m
theorem Post.step{r:RE β}(p:Post D W φ α H σ R r)(st:Stp α H α' H'):Post D W φ α' H' σ R r:=by
 obtain⟨K,Z,q,h,z⟩:=p
 exact⟨K,Z,q,λb μ2 e2 α2 H2 s2 m2=>h b μ2 e2 α2 H2 (st.trans s2) m2,λc fs μ2 e2 α2 H2 C d s2 m2=>z c fs μ2 e2 α2 H2 C d (st.trans s2) m2⟩
theorem Post.ex1{δ:Type}{P:δ->Prop}{k:δ->RE β}(p:Post D W φ α H σ R (λK Z=>∃x,P x/\k x K Z)):∃x,P x/\Post D W φ α H σ R (k x):=by
 obtain⟨K,Z,⟨x,hx,q⟩,h⟩:=p
 exact⟨x,hx,K,Z,q,h⟩
end
noncomputable def rdE (D:DP)(W:XW)(f:De):TE:=λσ H Q=>RdP D H σ λφ α τ μ=>Post D W φ α H σ (λt _ α' H'=>∀v,Den D φ α' H' t v->Q v H') (f τ μ)
noncomputable def rdT (D:DP)(W:XW)(f:Dt):TT:=λσ H Q=>RdP D H σ λφ α τ μ=>Post D W φ α H σ (λb _ _ H'=>Q b H') (f τ μ)
noncomputable def rdA (D:DP)(W:XW)(n:Nat)(f:Da):TA:=λσ H Q=>RdP D H σ λφ α τ μ=>Post D W φ α H σ (λts _ α' H'=>∀vs,DenL D φ α' H' ts vs->vs.length=n->Q vs H') (f τ μ)
section
variable {X:Cx}{D:DP}{W:XW}{pins:List (Addr×Obj)}{s:Shared}{σ:St}{H:Hp}{φ α:List Addr}{τ:Sl}{μ:Mem}{β:Type}{R:β->Mem->List Addr->Hp->Prop}
inductive SubP(X:Cx)(D:DP)(W:XW)(pins:List (Addr×Obj))(σ:St)(H:Hp)(φ α:List Addr)(τ:Sl){β:Type}(R:β->Mem->List Addr->Hp->Prop)(k:T->Mem->RE β)(u:Value)(s1:Shared):Prop where
 |mk (v:V) (H1:Hp) (t:T) (μ1:Mem) (α1:List Addr) (i:Inv X pins σ H1 s1) (r:RelV v u) (st:Stp α H α1 H1) (sr:SRel D φ α1 H1 τ σ) (mr:MRel D φ α1 H1 μ1) (d:Den D φ α1 H1 t v) (p:Post D W φ α1 H1 σ R (k t μ1))
inductive SubT(X:Cx)(D:DP)(W:XW)(pins:List (Addr×Obj))(σ:St)(H:Hp)(φ α:List Addr)(τ:Sl){β:Type}(R:β->Mem->List Addr->Hp->Prop)(k:Bool->Mem->RE β)(b:Bool)(s1:Shared):Prop where
 |mk (H1:Hp) (μ1:Mem) (α1:List Addr) (i:Inv X pins σ H1 s1) (st:Stp α H α1 H1) (sr:SRel D φ α1 H1 τ σ) (mr:MRel D φ α1 H1 μ1) (p:Post D W φ α1 H1 σ R (k b μ1))
inductive SubA(X:Cx)(D:DP)(W:XW)(pins:List (Addr×Obj))(σ:St)(H:Hp)(φ α:List Addr)(τ:Sl){β:Type}(R:β->Mem->List Addr->Hp->Prop)(n:Nat)(k:List T->Mem->RE β)(us:List Value)(s1:Shared):Prop where
 |mk (vs:List V) (H1:Hp) (ts:List T) (μ1:Mem) (α1:List Addr) (i:Inv X pins σ H1 s1) (r:Vals vs us) (st:Stp α H α1 H1) (sr:SRel D φ α1 H1 τ σ) (mr:MRel D φ α1 H1 μ1) (d:DenL D φ α1 H1 ts vs) (hn:vs.length=n) (p:Post D W φ α1 H1 σ R (k ts μ1))
theorem sub{a:Expr}{f:Sl->Mem->RE T}{k:T->Mem->RE β}(ha:PE X a (rdE D W f))(I:Inv X pins σ H s)(sr:SRel D φ α H τ σ)(mr:MRel D φ α H μ)(p:Post D W φ α H σ R ((f τ μ).bind k)) :
  z6I (z6L X.prog X.w) X.A (eval a X.env) (SubP X D W pins σ H φ α τ R k) X.xe s:=by
 refine thn (ha pins s σ H (λv H1=>∃t μ1 α1,Stp α H α1 H1/\SRel D φ α1 H1 τ σ/\MRel D φ α1 H1 μ1/\Den D φ α1 H1 t v/\Post D W φ α1 H1 σ R (k t μ1)) I ⟨φ,α,τ,μ,sr,mr,p.bind.mono λt μ' α' H' st m q v d=>⟨t,μ',α',st,sr.step st,m,d,q⟩⟩) ?_
 rintro u s1 ⟨v,H1,I1,r,t,μ1,α1,h1,h2,h3,h4,h⟩
 exact⟨v,H1,t,μ1,α1,I1,r,h1,h2,h3,h4,h⟩
theorem z4y{a:Expr}{f:Sl->Mem->RE Bool}{k:Bool->Mem->RE β}(ha:PT X a (rdT D W f))(I:Inv X pins σ H s)(sr:SRel D φ α H τ σ)(mr:MRel D φ α H μ)(p:Post D W φ α H σ R ((f τ μ).bind k)) :
  z6I (z6L X.prog X.w) X.A (isTrue a X.env (eval a X.env)) (SubT X D W pins σ H φ α τ R k) X.xe s:=by
 refine thn (ha pins s σ H (λb H1=>∃μ1 α1,Stp α H α1 H1/\SRel D φ α1 H1 τ σ/\MRel D φ α1 H1 μ1/\Post D W φ α1 H1 σ R (k b μ1)) I ⟨φ,α,τ,μ,sr,mr,p.bind.mono λb μ' α' H' st m q=>⟨μ',α',st,sr.step st,m,q⟩⟩) ?_
 rintro b s1 ⟨H1,I1,μ1,α1,h1,h2,h3,h⟩
 exact⟨H1,μ1,α1,I1,h1,h2,h3,h⟩
theorem Y5{es:List Expr}{n:Nat}{pos:Pos}{f:Da}{k:List T->Mem->RE β}(ha:PA X es (rdA D W n f))(I:Inv X pins σ H s)(sr:SRel D φ α H τ σ)(mr:MRel D φ α H μ)(p:Post D W φ α H σ R ((f τ μ).bind k)) :
  z6I (z6L X.prog X.w) X.A (spliced (z8I pos (z7m es X.env))) (SubA X D W pins σ H φ α τ R n k) X.xe s:=by
 refine thn (ha pos pins s σ H (λvs H1=>∃ts μ1 α1,Stp α H α1 H1/\SRel D φ α1 H1 τ σ/\MRel D φ α1 H1 μ1/\DenL D φ α1 H1 ts vs/\vs.length=n/\Post D W φ α1 H1 σ R (k ts μ1)) I ⟨φ,α,τ,μ,sr,mr,p.bind.mono λts μ' α' H' st m q vs d hn=>⟨ts,μ',α',st,sr.step st,m,d,hn,q⟩⟩) ?_
 rintro us s1 ⟨vs,H1,I1,r,ts,μ1,α1,h1,h2,h3,h4,h5,h⟩
 exact⟨vs,H1,ts,μ1,α1,I1,r,h1,h2,h3,h4,h5,h⟩
abbrev RV(D:DP)(φ:List Addr)(Q:VK):T->Mem->List Addr->Hp->Prop:=λt _ α' H'=>∀v,Den D φ α' H' t v->Q v H'
theorem Post.here{Q:VK}{t:T}{v:V}(p:Post D W φ α H σ (RV D φ Q) (.ok t μ))(mr:MRel D φ α H μ)(d:Den D φ α H t v):Q v H:=p.ok (Stp.refl _ _) mr v d
theorem Post.fresh{Q:VK}{t:T}{v:V}{H':Hp}(p:Post D W φ α H σ (RV D φ Q) (.ok t μ))(mr:MRel D φ α H μ)(sm:vz H H')(d:Den D φ α H' t v):Q v H':=p.ok (Stp.new sm) (mr.new sm) v d
theorem zA{n:Nat}(h:n<=room):n<=sizeLine:=z6X h (by unfold room;decide)
theorem zt{α:List Addr}(mr:MRel D φ α H μ){p:Addr}(h:H p=none):p∉φ:=λz=>by
 obtain⟨o,e,_⟩:=mr.phi p z
 rw[h] at e;cases e
theorem zu{α:List Addr}(mr:MRel D φ α H μ){p:Addr}(h:H p=none):p∉α:=λz=>by
 obtain⟨i,hi⟩:=z83.mp z
 have hl:i<μ.length:=by rw[←mr.len];exact (z6v.mp hi).1
 obtain⟨u,e,_⟩:=(mr.ob i p μ[i] hi (by simp[hl])).some
 rw[h] at e;cases e
theorem vv:∀{ts:List T} {ns:List Int} {vs:List V},intsOf ts=some ns->DenL D φ α H ts vs->vs=ns.map V.int
 |[],ns,vs,h,l=>by
  simp[intsOf] at h;subst h
  exact l
 |t::ts,ns,vs,h,l=>by
  obtain⟨v,r,rfl,d,l⟩:=l
  cases t with
  |int i=>
   simp only[intsOf] at h
   cases q:intsOf ts with
   |none=>rw[q] at h;cases h
   |some ms=>
    rw[q] at h;cases h
    rw[vv q l]
    have d:v=.int i:=d
    rw[d];rfl
  |_=>simp[intsOf] at h
theorem J4:OpR X (z88 .Add) (λx y H Q=>∃l b xs zs,x=.ref l/\y=.ref b/\Rd H l (.lst xs)/\Rd H b (.lst zs)/\xs.length+zs.length<=sizeLine/\∀p,H p=none->Q (.ref p) (upd H p (.lst (xs++zs)))):=by
 intro pins s σ H x y v u Q I rx ry h
 obtain⟨l,b,xs,zs,rfl,rfl,hH,hB,hz,q⟩:=h
 cases rx
 cases ry
 obtain⟨z,its,n,r,e⟩:=hH.ok I.hok
 obtain⟨z2,its2,n2,r2,e2⟩:=hB.ok I.hok
 refine PySem.P.add_list e e2 ?_ (by rw[z6V,z6V,←r.length,←r2.length];exact hz)
 rw[show its.toArray++its2.toArray=(its++its2).toArray by simp]
 exact⟨.ref _,_,I.lnew (t':=s.toks) (r.append r2) (by rw[z72];exact hz),rfl,q _ I.fresh⟩
theorem KI:OpR X (z88 .Add) (λx y H Q=>∃a b ys,x=.ref a/\y=.ref b/\SqT X.K H a []/\SqT X.K H b ys/\Q (.ref b) H):=by
 intro pins s σ H x y v u Q I rx ry h
 obtain⟨a,b,ys,rfl,rfl,ha,hb,q⟩:=h
 cases rx
 cases ry
 obtain⟨its,r1,p1,_⟩:=I.tuple ha
 obtain⟨its2,r2,p2,_⟩:=I.tuple hb
 cases r1
 obtain⟨⟨cls,dd,data,sl⟩,ho,hc,n,hd⟩:=id p1
 obtain⟨⟨cls2,dd2,data2,sl2⟩,ho2,hc2,n2,hd2⟩:=id p2
 simp only at hc hd hc2 hd2
 subst hc hd hc2 hd2
 exact zbP ⟨_,ho,rfl⟩ ⟨_,ho2,rfl⟩ zak zbj z9d z94 (z8W _ _)
  (tuple_addW0 a b #[] its2.toArray n n2 dd dd2 sl sl2 rfl) ⟨ho,ho2,⟨.ref b,H,I,rfl,q⟩⟩
theorem XA:OpR X (z88 .FloorDiv) (rI (λ_ j=>0<j/\j<1606938044258990275541962092341162602522202993782792835301376) λi j=>.int (i / j)):=opI λi j _ _ _ _ _ hc q=>by
 have h1:(0:Int)<j:=hc.1
 have h2:j<1606938044258990275541962092341162602522202993782792835301376:=hc.2
 refine floordiv_int (by omega) (by rw[z9L i (by omega)];exact q) (.inl (PyProof.noPylong_of_log2 ?_))
 refine z6N ((zdJ (by omega)).2 (show j.natAbs<2 ^ 200 by omega)) (by decide)
theorem w_{f:Int->Int->Mem->RE T}{x y:T}{Q:VK}(p:Post D W φ α H σ (RV D φ Q) (Q6 f x y μ)):∃i j,x=.int i/\y=.int j/\Post D W φ α H σ (RV D φ Q) (f i j μ):=by
 unfold Q6 at p
 split at p
 ·exact⟨_,_,rfl,rfl,p⟩
 ·exact p.elim
theorem z2g{op:zcR}{x y:T}{v1 v2:V}{u1 u2:Value}{Q:VK}(I:Inv X pins σ H s)(mr:MRel D φ α H μ)(d1:Den D φ α H x v1)(d2:Den D φ α H y v2)(r1:RelV v1 u1)(r2:RelV v2 u2)
  (p:Post D W φ α H σ (RV D φ Q) (z5s op x y μ)):z6I (z6L X.prog X.w) X.A (z88 op u1 u2) (EP X pins σ Q) X.xe s:=by
 have cat:∀{a b:Addr} {vs ws:List V} {xs ys:List T},Rd H a (.lst vs)->Rd H b (.lst ws)->DenL D φ α H xs vs->DenL D φ α H ys ws->v1=.ref a->v2=.ref b->xs.length+ys.length<=room->Post D W φ α H σ (RV D φ Q) (RE.ok (.lst (xs++ys)) μ)->z6I (z6L X.prog X.w) X.A (z88 .Add u1 u2) (EP X pins σ Q) X.xe s:=λ{a b vs ws xs ys} q1 q2 l1 l2 e1 e2 h p=>by
  subst e1 e2
  refine J4 pins s σ H _ _ _ _ Q I r1 r2 ⟨a,b,vs,ws,rfl,rfl,q1,q2,by rw[←l1.length,←l2.length];exact zA h,λz hz=>?_⟩
  have sm:=zk (o:=.lst (vs++ws)) hz
  exact p.fresh mr sm ⟨z,_,rfl,zt mr hz,zu mr hz,.inl z6,(l1.step (Stp.new sm)).append (l2.step (Stp.new sm))⟩
 cases op with
 |Add=>
  replace p:Post D W φ α H σ (RV D φ Q) (z2q x y μ):=p
  unfold z2q at p
  split at p
  ·cases d1;cases d2
   exact z2G pins s σ H _ _ _ _ Q I r1 r2 ⟨_,_,rfl,rfl,p.here mr rfl⟩
  ·cases d1;cases d2
   obtain⟨h,p⟩:=p.grd
   exact WL pins s σ H _ _ _ _ Q I r1 r2 ⟨_,_,rfl,rfl,zA h,p.here mr rfl⟩
  ·obtain⟨h,p⟩:=p.grd
   obtain⟨a,vs,rfl,n1,n2,q1,l1⟩:=d1
   obtain⟨b,ws,rfl,m1,m2,q2,l2⟩:=d2
   refine J4 pins s σ H _ _ _ _ Q I r1 r2 ⟨a,b,vs,ws,rfl,rfl,q1,q2,by rw[←l1.length,←l2.length];exact zA h,λz hz=>?_⟩
   have sm:=zk (o:=.lst (vs++ws)) hz
   exact p.fresh mr sm ⟨z,_,rfl,zt mr hz,zu mr hz,.inl z6,(l1.step (Stp.new sm)).append (l2.step (Stp.new sm))⟩
  ·rename_i xs ys
   obtain⟨h,p⟩:=p.grd
   ·obtain⟨a,vs,rfl,n1,n2,q1,l1⟩:=d1
    obtain⟨b,ws,rfl,m1,m2,q2,l2⟩:=d2
    cases vs with
    |nil=>
     cases xs with
     |cons x xs=>obtain⟨_,_,e,_⟩:=l1;cases e
     |nil=>exact KI pins s σ H _ _ _ _ Q I r1 r2 ⟨a,b,ws,rfl,rfl,.inl q1,.inl q2,p.here mr ⟨b,ws,rfl,m1,m2,q2,l2⟩⟩
    |cons v vs=>
     refine z0O pins s σ H _ _ _ _ Q I r1 r2 ⟨a,b,v::vs,ws,rfl,rfl,.inl q1,.inl q2,by simp,by rw[←l1.length,←l2.length];exact zA h,λhw=>?_,λhw z hz=>?_⟩
     ·subst hw
      cases ys with
      |cons y ys=>obtain⟨_,_,e,_⟩:=l2;cases e
      |nil=>
       rw[z74] at p
       exact p.here mr ⟨a,v::vs,rfl,n1,n2,q1,l1⟩
     ·have sm:=zk (o:=.tup (v::vs++ws)) hz
      exact p.fresh mr sm ⟨z,_,rfl,zt mr hz,zu mr hz,.inl z6,(l1.step (Stp.new sm)).append (l2.step (Stp.new sm))⟩
  ·obtain⟨xs,hi,p⟩:=p.ex1
   obtain⟨h,p⟩:=Post.grd p
   obtain⟨a,hi',rfl⟩:=d1
   obtain⟨vs,q1,l1⟩:=mr.ob _ a _ hi' hi
   obtain⟨b,ws,rfl,m1,m2,q2,l2⟩:=d2
   exact cat (.inl q1) q2 l1 l2 rfl rfl h p
  ·obtain⟨ys,hi,p⟩:=p.ex1
   obtain⟨h,p⟩:=Post.grd p
   obtain⟨a,hi',rfl⟩:=d2
   obtain⟨vs,q1,l1⟩:=mr.ob _ a _ hi' hi
   obtain⟨b,ws,rfl,m1,m2,q2,l2⟩:=d1
   exact cat q2 (.inl q1) l2 l1 rfl rfl h p
  ·obtain⟨pr,hi,p⟩:=p.ex1
   obtain⟨h,p⟩:=Post.grd p
   obtain⟨a,hi',rfl⟩:=d1
   obtain⟨vs,q1,l1⟩:=mr.ob _ a _ hi' hi.1
   obtain⟨b,hj',rfl⟩:=d2
   obtain⟨ws,q2,l2⟩:=mr.ob _ b _ hj' hi.2
   exact cat (.inl q1) (.inl q2) l1 l2 rfl rfl h p
  ·exact p.elim
 |Sub=>
  obtain⟨i,j,rfl,rfl,p⟩:=w_ p
  cases d1;cases d2
  exact z2R pins s σ H _ _ _ _ Q I r1 r2 ⟨_,_,rfl,rfl,p.here mr rfl⟩
 |Mult=>
  obtain⟨i,j,rfl,rfl,p⟩:=w_ p
  cases d1;cases d2
  obtain⟨h,p⟩:=p.grd
  exact z44 pins s σ H _ _ _ _ Q I r1 r2 ⟨_,_,rfl,rfl,by simpa[CMul,big] using h,p.here mr rfl⟩
 |FloorDiv=>
  obtain⟨i,j,rfl,rfl,p⟩:=w_ p
  cases d1;cases d2
  obtain⟨h,p⟩:=p.grd
  exact XA pins s σ H _ _ _ _ Q I r1 r2 ⟨_,_,rfl,rfl,h,p.here mr rfl⟩
 |Mod=>
  obtain⟨i,j,rfl,rfl,p⟩:=w_ p
  cases d1;cases d2
  obtain⟨h,p⟩:=p.grd
  exact z26 pins s σ H _ _ _ _ Q I r1 r2 ⟨_,_,rfl,rfl,h,p.here mr rfl⟩
 |Pow=>
  obtain⟨i,j,rfl,rfl,p⟩:=w_ p
  cases d1;cases d2
  obtain⟨h,p⟩:=p.grd
  exact z28 pins s σ H _ _ _ _ Q I r1 r2 ⟨_,_,rfl,rfl,⟨h.1,h.2.1,by simpa using h.2.2⟩,p.here mr rfl⟩
 |RShift=>
  obtain⟨i,j,rfl,rfl,p⟩:=w_ p
  cases d1;cases d2
  obtain⟨h,p⟩:=p.grd
  exact z1G pins s σ H _ _ _ _ Q I r1 r2 ⟨_,_,rfl,rfl,h,p.here mr rfl⟩
 |BitAnd=>
  obtain⟨i,j,rfl,rfl,p⟩:=w_ p
  cases d1;cases d2
  exact z3_ pins s σ H _ _ _ _ Q I r1 r2 ⟨_,_,rfl,rfl,p.here mr rfl⟩
 |_=>exact (show Post D W φ α H σ (RV D φ Q) .st from p).elim
end
section
section
variable {D:DP}{φ α:List Addr}{H:Hp}
theorem Rd.inj{a:Addr}{u w:HO}(hu:∀o z,u≠.frz o z)(hw:∀o z,w≠.frz o z)(r:Rd H a u)(q:Rd H a w):u=w:=by
 rcases r with r|⟨o,r⟩<;>rcases q with q|⟨o',q⟩<;>rw[r] at q
 ·exact z6A q
 ·exact absurd (z6A q) (hu _ _)
 ·exact absurd (z6A q).symm (hw _ _)
 ·injection z6A q
mutual
theorem yD:∀{t u:T} {v:V} {k:Bool},Den D φ α H t v->Den D φ α H u v->eqT t u=some k->k=true
 |.int i,u,_,k,h1,h2,e=>by
  have h1:_=V.int i:=h1
  subst h1
  cases u with
  |int j=>have h2:V.int i=V.int j:=h2;injection h2 with h2;subst h2;rw[←z6A e];simp
  |bl b=>have h2:V.int i=V.bl b:=h2;cases h2
  |str b=>have h2:V.int i=V.str b:=h2;cases h2
  |non=>have h2:V.int i=V.non:=h2;cases h2
  |tup b=>obtain⟨_,_,h2,_⟩:=h2;cases h2
  |lst b=>obtain⟨_,_,h2,_⟩:=h2;cases h2
  |_=>cases e
 |.bl i,u,_,k,h1,h2,e=>by
  have h1:_=V.bl i:=h1
  subst h1
  cases u with
  |bl j=>have h2:V.bl i=V.bl j:=h2;injection h2 with h2;subst h2;rw[←z6A e];simp
  |int b=>have h2:V.bl i=V.int b:=h2;cases h2
  |str b=>have h2:V.bl i=V.str b:=h2;cases h2
  |non=>have h2:V.bl i=V.non:=h2;cases h2
  |tup b=>obtain⟨_,_,h2,_⟩:=h2;cases h2
  |lst b=>obtain⟨_,_,h2,_⟩:=h2;cases h2
  |_=>cases e
 |.str i,u,_,k,h1,h2,e=>by
  have h1:_=V.str i:=h1
  subst h1
  cases u with
  |str j=>have h2:V.str i=V.str j:=h2;injection h2 with h2;subst h2;rw[←z6A e];simp
  |int b=>have h2:V.str i=V.int b:=h2;cases h2
  |bl b=>have h2:V.str i=V.bl b:=h2;cases h2
  |non=>have h2:V.str i=V.non:=h2;cases h2
  |tup b=>obtain⟨_,_,h2,_⟩:=h2;cases h2
  |lst b=>obtain⟨_,_,h2,_⟩:=h2;cases h2
  |_=>cases e
 |.non,u,_,k,h1,h2,e=>by
  have h1:_=V.non:=h1
  subst h1
  cases u with
  |non=>exact (z6A e).symm
  |int b=>have h2:V.non=V.int b:=h2;cases h2
  |bl b=>have h2:V.non=V.bl b:=h2;cases h2
  |str b=>have h2:V.non=V.str b:=h2;cases h2
  |tup b=>obtain⟨_,_,h2,_⟩:=h2;cases h2
  |lst b=>obtain⟨_,_,h2,_⟩:=h2;cases h2
  |_=>cases e
 |.tup ts,u,_,k,h1,h2,e=>by
  obtain⟨a,xs,rfl,_,_,r,l⟩:=h1
  cases u with
  |tup us=>
   obtain⟨b,ys,e2,_,_,r',l'⟩:=h2
   cases e2
   have:=Rd.inj (by intro _ _ z;cases z) (by intro _ _ z;cases z) r r'
   injection this with this
   subst this
   exact kM l l' e
  |lst us=>
   obtain⟨b,ys,e2,_,_,r',l'⟩:=h2
   cases e2
   have:=Rd.inj (by intro _ _ z;cases z) (by intro _ _ z;cases z) r r'
   cases this
  |int b=>have h2:V.ref a=V.int b:=h2;cases h2
  |bl b=>have h2:V.ref a=V.bl b:=h2;cases h2
  |str b=>have h2:V.ref a=V.str b:=h2;cases h2
  |non=>have h2:V.ref a=V.non:=h2;cases h2
  |_=>cases e
 |.lst ts,u,_,k,h1,h2,e=>by
  obtain⟨a,xs,rfl,_,_,r,l⟩:=h1
  cases u with
  |lst us=>
   obtain⟨b,ys,e2,_,_,r',l'⟩:=h2
   cases e2
   have:=Rd.inj (by intro _ _ z;cases z) (by intro _ _ z;cases z) r r'
   injection this with this
   subst this
   exact kM l l' e
  |tup us=>
   obtain⟨b,ys,e2,_,_,r',l'⟩:=h2
   cases e2
   have:=Rd.inj (by intro _ _ z;cases z) (by intro _ _ z;cases z) r r'
   cases this
  |int b=>have h2:V.ref a=V.int b:=h2;cases h2
  |bl b=>have h2:V.ref a=V.bl b:=h2;cases h2
  |str b=>have h2:V.ref a=V.str b:=h2;cases h2
  |non=>have h2:V.ref a=V.non:=h2;cases h2
  |_=>cases e
 |.obj _ _,_,_,_,_,_,e=>by cases e
 |.mut _,_,_,_,_,_,e=>by cases e
 |.exc _ _,_,_,_,_,_,e=>by cases e
 |.dic _,_,_,_,_,_,e=>by cases e
 |.clo _ _,_,_,_,_,_,e=>by cases e
theorem kM:∀{ts us:List T} {vs:List V} {k:Bool},DenL D φ α H ts vs->DenL D φ α H us vs->eqL ts us=some k->k=true
 |[],[],_,k,_,_,e=>by simpa[eqL] using e.symm
 |[],_::_,_,k,h1,h2,e=>by
  have h1:_=[]:=h1
  obtain⟨_,_,h2,_⟩:=h2
  rw[h1] at h2;cases h2
 |_::_,[],_,k,h1,h2,e=>by
  have h2:_=[]:=h2
  obtain⟨_,_,h1,_⟩:=h1
  rw[h2] at h1;cases h1
 |t::ts,u::us,_,k,h1,h2,e=>by
  obtain⟨v,r,rfl,a1,b1⟩:=h1
  obtain⟨v',r',q,a2,b2⟩:=h2
  injection q with q1 q2
  subst q1 q2
  cases h:eqT t u with
  |none=>simp[eqL,h] at e
  |some x=>
   cases h':eqL ts us with
   |none=>simp[eqL,h,h'] at e
   |some y=>
    have e1:=yD a1 a2 h
    have e2:=kM b1 b2 h'
    subst e1 e2
    simpa[eqL,h,h'] using e.symm
end
end
section
variable {X:Cx}{D:DP}{pins:List (Addr×Obj)}{s:Shared}{σ:St}{H:Hp}{φ α:List Addr}
theorem yB:∀{ts us:List T} {k:Bool},eqL ts us=some k->(∀j (h1:j<ts.length) (h2:j<us.length),∃b,eqT ts[j] us[j]=some b)/\
  k=((z7_ (min ts.length us.length)).all (λj=>match ts[j]?,us[j]? with|some t,some u=>(eqT t u).getD false|_,_=>false)&&ts.length == us.length)
 |[],[],k,e=>by
  simp[eqL] at e;subst e
  exact⟨λj h1=>by simp at h1,by simp⟩
 |[],u::us,k,e=>by
  simp[eqL] at e;subst e
  exact⟨λj h1=>by simp at h1,by simp⟩
 |t::ts,[],k,e=>by
  simp[eqL] at e;subst e
  exact⟨λj h1 h2=>by simp at h2,by simp⟩
 |t::ts,u::us,k,e=>by
  cases h:eqT t u with
  |none=>simp[eqL,h] at e
  |some x=>
   cases h':eqL ts us with
   |none=>simp[eqL,h,h'] at e
   |some y=>
    obtain⟨g,ih⟩:=yB h'
    simp[eqL,h,h'] at e
    subst e
    refine⟨λj h1 h2=>?_,?_⟩
    ·cases j with
     |zero=>exact⟨x,h⟩
     |succ j=>exact g j (by simpa using h1) (by simpa using h2)
    ·rw[ih]
     have e1:min (t::ts).length (u::us).length=min ts.length us.length+1:=by simp[Nat.succ_min_succ]
     rw[e1,List.range_succ_eq_map,z7y,zbU]
     simp only[zan,h,zcf,za2,z98,z6Y]
     rw[Bool.and_assoc]
     congr 2
     simp
theorem in1_units(A:z7b):A.in1.units=A.units+1:=by first|rfl|simp[Around.in1,Around.units]
theorem ym(I:Inv X pins σ H s){i:Int}{u:T}{v w:V}{a b:Value}{k:Bool}{A:z7b}(h1:Den D φ α H (.int i) v)(h2:Den D φ α H u w)(r1:RelV v a)(r2:RelV w b)(e:eqT (.int i) u=some k)(hu:A.units+qX (.int i)+1<cLine):z8u A s a b k:=by
 have h1:_=V.int i:=h1
 subst h1
 obtain⟨t1,rfl⟩:=r1
 cases u with
 |int j=>have h2:w=V.int j:=h2;subst h2;obtain⟨t2,rfl⟩:=r2;cases z6A e;exact zbt _ _ _ _
 |bl j=>have h2:w=V.bl j:=h2;subst h2;cases r2;cases z6A e;exact SeqAt.EqAt.int_bool _ _ _
 |str j=>have h2:w=V.str j:=h2;subst h2;obtain⟨t2,rfl⟩:=r2;cases z6A e;exact zbo _ _ _ _
 |non=>have h2:w=V.non:=h2;subst h2;cases r2;cases z6A e;exact SeqAt.EqAt.int_none _ _
 |tup ys=>obtain⟨c,xs,rfl,_,_,r,_⟩:=h2;cases r2;obtain⟨its,_,p,_⟩:=I.tuple (.inl r);cases z6A e;exact SeqAt.EqAt.int_tuple _ _ p (by omega)
 |lst ys=>obtain⟨c,xs,rfl,_,_,r,_⟩:=h2;cases r2;obtain⟨its,_,p,_⟩:=I.list (.inl r);cases z6A e;exact SeqAt.EqAt.int_list _ _ p.isList (by omega)
 |_=>cases e
theorem z0C(I:Inv X pins σ H s){i:Bool}{u:T}{v w:V}{a b:Value}{k:Bool}{A:z7b}(h1:Den D φ α H (.bl i) v)(h2:Den D φ α H u w)(r1:RelV v a)(r2:RelV w b)(e:eqT (.bl i) u=some k)(hu:A.units+qX (.bl i)+1<cLine):z8u A s a b k:=by
 have h1:_=V.bl i:=h1
 subst h1
 cases r1
 cases u with
 |int j=>have h2:w=V.int j:=h2;subst h2;obtain⟨t2,rfl⟩:=r2;cases z6A e;exact SeqAt.EqAt.bool_int _ _ _
 |bl j=>have h2:w=V.bl j:=h2;subst h2;cases r2;cases z6A e;exact SeqAt.EqAt.bool_bool _ _
 |str j=>have h2:w=V.str j:=h2;subst h2;obtain⟨t2,rfl⟩:=r2;cases z6A e;exact SeqAt.EqAt.bool_str _ _ _
 |non=>have h2:w=V.non:=h2;subst h2;cases r2;cases z6A e;exact SeqAt.EqAt.bool_none _
 |tup ys=>obtain⟨c,xs,rfl,_,_,r,_⟩:=h2;cases r2;obtain⟨its,_,p,_⟩:=I.tuple (.inl r);cases z6A e;exact SeqAt.EqAt.bool_tuple _ p (by omega)
 |lst ys=>obtain⟨c,xs,rfl,_,_,r,_⟩:=h2;cases r2;obtain⟨its,_,p,_⟩:=I.list (.inl r);cases z6A e;exact SeqAt.EqAt.bool_list _ p.isList (by omega)
 |_=>cases e
theorem U1(I:Inv X pins σ H s){i:Str}{u:T}{v w:V}{a b:Value}{k:Bool}{A:z7b}(h1:Den D φ α H (.str i) v)(h2:Den D φ α H u w)(r1:RelV v a)(r2:RelV w b)(e:eqT (.str i) u=some k)(hu:A.units+qX (.str i)+1<cLine):z8u A s a b k:=by
 have h1:_=V.str i:=h1
 subst h1
 obtain⟨t1,rfl⟩:=r1
 cases u with
 |int j=>have h2:w=V.int j:=h2;subst h2;obtain⟨t2,rfl⟩:=r2;cases z6A e;exact zbp _ _ _ _
 |bl j=>have h2:w=V.bl j:=h2;subst h2;cases r2;cases z6A e;exact SeqAt.EqAt.str_bool _ _ _
 |str j=>have h2:w=V.str j:=h2;subst h2;obtain⟨t2,rfl⟩:=r2;cases z6A e;exact SeqAt.EqAt.str_str _ _ _ _
 |non=>have h2:w=V.non:=h2;subst h2;cases r2;cases z6A e;exact SeqAt.EqAt.str_none _ _
 |tup ys=>obtain⟨c,xs,rfl,_,_,r,_⟩:=h2;cases r2;obtain⟨its,_,p,_⟩:=I.tuple (.inl r);cases z6A e;exact SeqAt.EqAt.str_tuple _ _ p (by omega)
 |lst ys=>obtain⟨c,xs,rfl,_,_,r,_⟩:=h2;cases r2;obtain⟨its,_,p,_⟩:=I.list (.inl r);cases z6A e;exact SeqAt.EqAt.str_list _ _ p.isList (by omega)
 |_=>cases e
theorem YH(I:Inv X pins σ H s){u:T}{v w:V}{a b:Value}{k:Bool}{A:z7b}(h1:Den D φ α H .non v)(h2:Den D φ α H u w)(r1:RelV v a)(r2:RelV w b)(e:eqT .non u=some k)(hu:A.units+qX .non+1<cLine):z8u A s a b k:=by
 have h1:_=V.non:=h1
 subst h1
 cases r1
 cases u with
 |int j=>have h2:w=V.int j:=h2;subst h2;obtain⟨t2,rfl⟩:=r2;cases z6A e;exact SeqAt.EqAt.none_int _ _
 |bl j=>have h2:w=V.bl j:=h2;subst h2;cases r2;cases z6A e;exact SeqAt.EqAt.none_bool _
 |str j=>have h2:w=V.str j:=h2;subst h2;obtain⟨t2,rfl⟩:=r2;cases z6A e;exact SeqAt.EqAt.none_str _ _
 |non=>have h2:w=V.non:=h2;subst h2;cases r2;cases z6A e;exact zaK _
 |tup ys=>obtain⟨c,xs,rfl,_,_,r,_⟩:=h2;cases r2;obtain⟨its,_,p,_⟩:=I.tuple (.inl r);cases z6A e;exact SeqAt.EqAt.none_tuple p (by omega)
 |lst ys=>obtain⟨c,xs,rfl,_,_,r,_⟩:=h2;cases r2;obtain⟨its,_,p,_⟩:=I.list (.inl r);cases z6A e;exact SeqAt.EqAt.none_list p.isList (by omega)
 |_=>cases e
theorem V3(I:Inv X pins σ H s){ts:List T}{u:T}{v0 w:V}{a b:Value}{k:Bool}{A:z7b}(hn:∀us,u≠.tup us)(h1:Den D φ α H (.tup ts) v0)(h2:Den D φ α H u w)(r1:RelV v0 a)(r2:RelV w b)(e:eqT (.tup ts) u=some k)(hu:A.units+qX (.tup ts)+1<cLine):z8u A s a b k:=by
 cases u with
 |tup us=>exact absurd rfl (hn us)
 |lst us=>
  obtain⟨c,xs,rfl,_,_,r,l⟩:=h1
  obtain⟨d,ys,rfl,_,_,r',l'⟩:=h2
  cases r1;cases r2
  obtain⟨_,_,p,_⟩:=I.tuple (.inl r)
  obtain⟨_,_,p',_⟩:=I.list (.inl r')
  cases z6A e
  exact SeqAt.EqAt.tuple_list p p'.isList (by omega)
 |int j=>have h2:w=V.int j:=h2;subst h2;obtain⟨t2,rfl⟩:=r2;obtain⟨c,xs,rfl,_,_,r,_⟩:=h1;cases r1;obtain⟨its,_,p,_⟩:=I.tuple (.inl r);cases z6A e;exact SeqAt.EqAt.tuple_int _ _ p (by omega)
 |bl j=>have h2:w=V.bl j:=h2;subst h2;cases r2;obtain⟨c,xs,rfl,_,_,r,_⟩:=h1;cases r1;obtain⟨its,_,p,_⟩:=I.tuple (.inl r);cases z6A e;exact SeqAt.EqAt.tuple_bool _ p (by omega)
 |str j=>have h2:w=V.str j:=h2;subst h2;obtain⟨t2,rfl⟩:=r2;obtain⟨c,xs,rfl,_,_,r,_⟩:=h1;cases r1;obtain⟨its,_,p,_⟩:=I.tuple (.inl r);cases z6A e;exact SeqAt.EqAt.tuple_str _ _ p (by omega)
 |non=>have h2:w=V.non:=h2;subst h2;cases r2;obtain⟨c,xs,rfl,_,_,r,_⟩:=h1;cases r1;obtain⟨its,_,p,_⟩:=I.tuple (.inl r);cases z6A e;exact SeqAt.EqAt.tuple_none p (by omega)
 |_=>cases e
theorem Vx(I:Inv X pins σ H s){ts:List T}{u:T}{v0 w:V}{a b:Value}{k:Bool}{A:z7b}(hn:∀us,u≠.lst us)(h1:Den D φ α H (.lst ts) v0)(h2:Den D φ α H u w)(r1:RelV v0 a)(r2:RelV w b)(e:eqT (.lst ts) u=some k)(hu:A.units+qX (.lst ts)+1<cLine):z8u A s a b k:=by
 cases u with
 |lst us=>exact absurd rfl (hn us)
 |tup us=>
  obtain⟨c,xs,rfl,_,_,r,l⟩:=h1
  obtain⟨d,ys,rfl,_,_,r',l'⟩:=h2
  cases r1;cases r2
  obtain⟨_,_,p,_⟩:=I.list (.inl r)
  obtain⟨_,_,p',_⟩:=I.tuple (.inl r')
  cases z6A e
  exact SeqAt.EqAt.list_tuple p.isList p' (by omega)
 |int j=>have h2:w=V.int j:=h2;subst h2;obtain⟨t2,rfl⟩:=r2;obtain⟨c,xs,rfl,_,_,r,_⟩:=h1;cases r1;obtain⟨its,_,p,_⟩:=I.list (.inl r);cases z6A e;exact SeqAt.EqAt.list_int _ _ p.isList (by omega)
 |bl j=>have h2:w=V.bl j:=h2;subst h2;cases r2;obtain⟨c,xs,rfl,_,_,r,_⟩:=h1;cases r1;obtain⟨its,_,p,_⟩:=I.list (.inl r);cases z6A e;exact SeqAt.EqAt.list_bool _ p.isList (by omega)
 |str j=>have h2:w=V.str j:=h2;subst h2;obtain⟨t2,rfl⟩:=r2;obtain⟨c,xs,rfl,_,_,r,_⟩:=h1;cases r1;obtain⟨its,_,p,_⟩:=I.list (.inl r);cases z6A e;exact SeqAt.EqAt.list_str _ _ p.isList (by omega)
 |non=>have h2:w=V.non:=h2;subst h2;cases r2;obtain⟨c,xs,rfl,_,_,r,_⟩:=h1;cases r1;obtain⟨its,_,p,_⟩:=I.list (.inl r);cases z6A e;exact SeqAt.EqAt.list_none p.isList (by omega)
 |_=>cases e
noncomputable def EqN (D:DP)(φ α:List Addr)(H:Hp)(s:z6z)(n:Nat):Prop:=∀(t u:T) (v w:V) (a b:Value) (k:Bool) (A:z7b),qX t<n->Den D φ α H t v->Den D φ α H u w->RelV v a->RelV w b->eqT t u=some k->A.units+qX t+1<cLine->z8u A s a b k
theorem wz{n:Nat}(ih:EqN D φ α H s n):∀{ts us:List T} {xs ys:List V} {its its2:List Value} {A:z7b},qi ts<n->DenL D φ α H ts xs->DenL D φ α H us ys->Vals xs its->Vals ys its2->A.units+qi ts+1<cLine->
  ∀(j:Nat) (h1:j<its.length) (h2:j<its2.length),(∀(g1:j<ts.length) (g2:j<us.length),∃b,eqT ts[j] us[j]=some b)->z8u A s its[j] its2[j] (match ts[j]?,us[j]? with|some t,some u=>(eqT t u).getD false|_,_=>false)
 |[],_,xs,_,its,_,A,_,l,_,rv,_,_,j,h1,_,_=>by
  have l:xs=[]:=l
  subst l
  cases rv
  simp at h1
 |t::ts,us,xs,ys,its,its2,A,hd,l,l',rv,rv',hu,j,h1,h2,g=>by
  obtain⟨v,r,rfl,d1,l⟩:=l
  cases rv with
  | @cons _ u0 _ us0 r0 rv=>
  cases us with
  |nil=>
   have l':ys=[]:=l'
   subst l'
   cases rv'
   simp at h2
  |cons u us=>
   obtain⟨w,r',rfl,d2,l'⟩:=l'
   cases rv' with
   | @cons _ u0' _ us0' r0' rv'=>
   simp only[qi] at hu hd
   cases j with
   |zero=>
    obtain⟨b,hb⟩:=g (by simp) (by simp)
    have hb':eqT t u=some b:=by simpa using hb
    simp only[zan,hb',zcf,List.getElem_cons_zero]
    exact ih _ _ _ _ _ _ _ _ (by omega) d1 d2 r0 r0' hb' (by omega)
   |succ j=>
    simp only[z98,List.getElem_cons_succ]
    exact wz ih (by omega) l l' rv rv' (by omega) j (by simpa using h1) (by simpa using h2) λg1 g2=>by
     obtain⟨b,hb⟩:=g (by simpa using g1) (by simpa using g2)
     exact⟨b,by simpa using hb⟩
theorem Z8(I:Inv X pins σ H s){n:Nat}(ih:EqN D φ α H s n){ts us:List T}{xs ys:List V}{c d:Addr}{k:Bool}{A:z7b}(hd:qi ts<n)(l:DenL D φ α H ts xs)(l':DenL D φ α H us ys)(r:Rd H c (.tup xs))(r':Rd H d (.tup ys))(e:eqL ts us=some k)(hu:A.units+qi ts+2<cLine):zbx A s (.ref c) (.ref d) k:=by
 obtain⟨its,rv,p,_⟩:=I.tuple (.inl r)
 obtain⟨its2,rv',p',_⟩:=I.tuple (.inl r')
 obtain⟨g,rfl⟩:=yB e
 have h1:ts.length=its.length:=l.length.trans rv.length
 have h2:us.length=its2.length:=l'.length.trans rv'.length
 have:=SeqAt.RcAt.tuples (A:=A) (e:=λj=>match ts[j]?,us[j]? with|some t,some u=>(eqT t u).getD false|_,_=>false) p p' (by omega) λj q1 q2=>by
  have:=wz (A:=A.in1) ih hd l l' rv rv' (by rw[in1_units];omega) j (by simpa using q1) (by simpa using q2) λg1 g2=>g j g1 g2
  simpa using this
 simpa[h1,h2] using this
theorem uI(I:Inv X pins σ H s){n:Nat}(ih:EqN D φ α H s n){ts us:List T}{xs ys:List V}{c d:Addr}{k:Bool}{A:z7b}(hd:qi ts<n)(l:DenL D φ α H ts xs)(l':DenL D φ α H us ys)(r:Rd H c (.lst xs))(r':Rd H d (.lst ys))(e:eqL ts us=some k)(hu:A.units+qi ts+2<cLine):zbx A s (.ref c) (.ref d) k:=by
 obtain⟨its,rv,p,_⟩:=I.list (.inl r)
 obtain⟨its2,rv',p',_⟩:=I.list (.inl r')
 obtain⟨g,rfl⟩:=yB e
 have h1:ts.length=its.length:=l.length.trans rv.length
 have h2:us.length=its2.length:=l'.length.trans rv'.length
 by_cases hl:ts.length=us.length
 ·have:=SeqAt.RcAt.lists (A:=A) (e:=λj=>match ts[j]?,us[j]? with|some t,some u=>(eqT t u).getD false|_,_=>false) p.isList p'.isList (by simp;omega) (by omega) λj q1 q2=>by
   have:=wz (A:=A.in1) ih hd l l' rv rv' (by rw[in1_units];omega) j (by simpa using q1) (by simpa using q2) λg1 g2=>g j g1 g2
   simpa using this
  have e2:min ts.length us.length=its.length:=by omega
  have e3:(ts.length == us.length)=true:=by simpa using hl
  rw[e2,e3,zdo]
  simpa using this
 ·have e3:(ts.length == us.length)=false:=by simpa using hl
  rw[e3,za_]
  exact SeqAt.RcAt.lists_lengths p.isList p'.isList (by simp;omega) (by omega)
theorem Q7(I:Inv X pins σ H s):∀n,EqN D φ α H s n
 |0=>λ_ _ _ _ _ _ _ _ hn=>absurd hn (by omega)
 |n+1=>λt u v w a b k A hn h1 h2 r1 r2 e hu=>by
  have ih:=Q7 I n
  cases t with
  |int i=>exact ym I h1 h2 r1 r2 e hu
  |bl i=>exact z0C I h1 h2 r1 r2 e hu
  |str i=>exact U1 I h1 h2 r1 r2 e hu
  |non=>exact YH I h1 h2 r1 r2 e hu
  |tup ts=>
   cases u with
   |tup us=>
    have hs:=λ(q:w=v)=>yD h1 (q▸h2) e
    obtain⟨c,xs,rfl,_,_,r,l⟩:=h1
    obtain⟨d,ys,rfl,_,_,r',l'⟩:=h2
    cases r1;cases r2
    by_cases hcd:c=d
    ·subst hcd
     rw[hs rfl]
     exact zaK _
    ·refine zby hcd ?_
     exact Z8 I ih (by simp only[qX] at hn;omega) l l' r r' e (by simp only[qX] at hu;omega)
   |_=>exact V3 I (by intro _ z;cases z) h1 h2 r1 r2 e hu
  |lst ts=>
   cases u with
   |lst us=>
    have hs:=λ(q:w=v)=>yD h1 (q▸h2) e
    obtain⟨c,xs,rfl,_,_,r,l⟩:=h1
    obtain⟨d,ys,rfl,_,_,r',l'⟩:=h2
    cases r1;cases r2
    by_cases hcd:c=d
    ·subst hcd
     rw[hs rfl]
     exact zaK _
    ·refine zby hcd ?_
     exact uI I ih (by simp only[qX] at hn;omega) l l' r r' e (by simp only[qX] at hu;omega)
   |_=>exact Vx I (by intro _ z;cases z) h1 h2 r1 r2 e hu
  |_=>cases e
theorem YF(I:Inv X pins σ H s){ts us:List T}{xs ys:List V}{c d:Addr}{k:Bool}{A:z7b}(l:DenL D φ α H ts xs)(l':DenL D φ α H us ys)(r:Rd H c (.tup xs))(r':Rd H d (.tup ys))(e:eqL ts us=some k)(hu:A.units+qi ts+2<cLine):zbx A s (.ref c) (.ref d) k:=Z8 I (Q7 I _) (z7Z _) l l' r r' e hu
theorem Xe(I:Inv X pins σ H s){ts us:List T}{xs ys:List V}{c d:Addr}{k:Bool}{A:z7b}(l:DenL D φ α H ts xs)(l':DenL D φ α H us ys)(r:Rd H c (.lst xs))(r':Rd H d (.lst ys))(e:eqL ts us=some k)(hu:A.units+qi ts+2<cLine):zbx A s (.ref c) (.ref d) k:=uI I (Q7 I _) (z7Z _) l l' r r' e hu
theorem yE(I:Inv X pins σ H s):∀{ts us:List T} {xs ys:List V} {its its2:List Value} {A:z7b},DenL D φ α H ts xs->DenL D φ α H us ys->Vals xs its->Vals ys its2->A.units+qi ts+1<cLine->
  ∀(j:Nat) (h1:j<its.length) (h2:j<its2.length),(∀(g1:j<ts.length) (g2:j<us.length),∃b,eqT ts[j] us[j]=some b)->z8u A s its[j] its2[j] (match ts[j]?,us[j]? with|some t,some u=>(eqT t u).getD false|_,_=>false):=λl l' rv rv' hu=>wz (Q7 I _) (z7Z _) l l' rv rv' hu
theorem W4(I:Inv X pins σ H s){ts us:List T}{xs ys:List V}{c d:Addr}{k:Bool}{A:z7b}(l:DenL D φ α H ts xs)(l':DenL D φ α H us ys)(r:Rd H c (.tup xs))(r':Rd H d (.tup ys))(e:eqL ts us=some k)(hu:A.units+qi ts+2<cLine):zdy A s (.ref c) (.ref d) (!k):=by
 obtain⟨its,rv,p,_⟩:=I.tuple (.inl r)
 obtain⟨its2,rv',p',_⟩:=I.tuple (.inl r')
 obtain⟨g,rfl⟩:=yB e
 have h1:ts.length=its.length:=l.length.trans rv.length
 have h2:us.length=its2.length:=l'.length.trans rv'.length
 have:=zdP (A:=A) (e:=λj=>match ts[j]?,us[j]? with|some t,some u=>(eqT t u).getD false|_,_=>false) p p' (by omega) λj q1 q2=>by
  have:=yE (A:=A.in1) I l l' rv rv' (by rw[in1_units];omega) j (by simpa using q1) (by simpa using q2) λg1 g2=>g j g1 g2
  simpa using this
 simpa[h1,h2] using this
theorem YX(I:Inv X pins σ H s){ts us:List T}{xs ys:List V}{c d:Addr}{k:Bool}{A:z7b}(l:DenL D φ α H ts xs)(l':DenL D φ α H us ys)(r:Rd H c (.lst xs))(r':Rd H d (.lst ys))(e:eqL ts us=some k)(hu:A.units+qi ts+2<cLine):zdy A s (.ref c) (.ref d) (!k):=by
 obtain⟨its,rv,p,_⟩:=I.list (.inl r)
 obtain⟨its2,rv',p',_⟩:=I.list (.inl r')
 obtain⟨g,rfl⟩:=yB e
 have h1:ts.length=its.length:=l.length.trans rv.length
 have h2:us.length=its2.length:=l'.length.trans rv'.length
 by_cases hl:ts.length=us.length
 ·have:=zdU (A:=A) (e:=λj=>match ts[j]?,us[j]? with|some t,some u=>(eqT t u).getD false|_,_=>false) p.isList p'.isList (by simp;omega) (by omega) λj q1 q2=>by
   have:=yE (A:=A.in1) I l l' rv rv' (by rw[in1_units];omega) j (by simpa using q1) (by simpa using q2) λg1 g2=>g j g1 g2
   simpa using this
  have e2:min ts.length us.length=its.length:=by omega
  have e3:(ts.length == us.length)=true:=by simpa using hl
  rw[e2,e3,zdo]
  simpa using this
 ·have e3:(ts.length == us.length)=false:=by simpa using hl
  rw[e3,za_]
  exact zcS p.isList p'.isList (by simp;omega) (by omega)
end
end
noncomputable def spM (D:DP)(f:Fn):Sp:=λvs H Q E=>∃φ α ts μ,DenL D φ α H ts vs/\MRel D φ α H μ/\Post D (wOf E) φ α H [] (λt _ α' H'=>∀v,Den D φ α' H' t v->Q v H') (f ts μ)
noncomputable def spN (D:DP)(n:Nat)(f:Fn):Sp:=λvs H Q E=>vs.length=n/\spM D f vs H Q E
noncomputable def QU(D:DP)(t:Nat)(u:Value):Prop:=
 (t=0/\u=.type "NoneType")\/(t=1/\u=.type "bool")\/(t=2/\u=.type "int")\/(t=3/\u=.type "str")\/(t=4/\u=.type "tuple")\/(t=5/\u=.type "list")\/(∃C,D.adr t=some C/\u=.ref C)\/(t=6/\u=.type "dict")\/(∃C,D.cad t=some C/\u=.ref C)
noncomputable def yA(mg:Str->Option Value)(c:Str)(u:Value):Prop:=mg c=some u\/(mg c=none/\z8s c=some u/\c≠"__name__")
abbrev YM(X:Cx)(c:Str)(u:Value):Prop:=yA X.mg c u
noncomputable def ClsV(v:V)(u:Value):Prop:=(∃C,v=.ref C/\u=.ref C)\/∃n,v=.ty n/\u=.type n
theorem ClsV.rel{v:V}{u:Value}(h:ClsV v u):L2.RelV v u:=by
 rcases h with⟨C,rfl,rfl⟩|⟨n,rfl,rfl⟩<;>rfl
theorem ClsV.only{v:V}{u u':Value}(h:ClsV v u)(r:L2.RelV v u'):u'=u:=by
 rcases h with⟨C,rfl,rfl⟩|⟨n,rfl,rfl⟩<;>exact r
structure XCls(K:PySem.W.Frag)(C:Addr):Prop where
 ga:z70 K (.ref C) "__getattribute__"=some (some (.builtin "BaseException.__getattribute__"))
 hk:z70 K (.ref C) "__getattr__"=some none
 fi:z70 K (.ref C) "__class__"=some (some (.builtin "object.__class__"))
 sp:z8b K (.builtin "object.__class__") "__get__"=some (some (.builtin "getset_descriptor.__get__"))
 tk:z9w K (.builtin "object.__class__")=some true
 ob:z8z K C (.type "object")=some true
 bx:z8z K C (.type "BaseException")=some true
 cl:(z9p K C).isSome=true
structure OCls(K:PySem.W.Frag)(C:Addr):Prop where
 cl:Cls K C
 fi:z70 K (.ref C) "__class__"=some (some (.builtin "object.__class__"))
 sp:z8b K (.builtin "object.__class__") "__get__"=some (some (.builtin "getset_descriptor.__get__"))
 tk:z9w K (.builtin "object.__class__")=some true
 ob:z8z K C (.type "object")=some true
abbrev zW:List Value:=[.type "ValueError",.type "Exception",.type "BaseException",.type "object"]
noncomputable def FOk (D:DP)(P:z7a)(w:z7o)(K:z6C)(mg:Str->Option Value)(base:Heap)(k:Nat)(fa:Addr)(f:Fn):Prop:=
 ∃fd ps kk,z8l K (.ref fa)=true/\Binds K fd ps []/\kk<=k/\FnOk P w K mg base (CX1 P w) kk fa fd ps (spN D ps.length f)/\∀ts μ K Z,f ts μ K Z->ts.length=ps.length
structure RoomH(k:Nat)(A:Around):Prop where
 dp:A.depth+3 * k+5<recursionLimit
 un:A.units+16 * k+200<cLine
theorem RoomH.units{k:Nat}{A:z7b}(r:RoomH k A):A.units+64<cLine:=by have:=r.un;omega
noncomputable def z5Q(P:z7a)(w:z7o)(K:z6C)(mg:Str->Option Value)(base:Heap)(k:Nat)(f:Addr)(fd:z7T)(ps:List Str)(sp:Sp):Prop:=
 ∀(A:z7b) (outer:List Env) (s:z6z) (H:Hp) (args:Args) (us:List Value) (vs:List V) (Q:VK),RoomH k A->Env0 P w K mg base A outer s H->zbO s fd args (ps.zip us)->Vals vs us->sp vs H Q (λ_ _ _=>False)->
  z92 (z6L P w) A (.call (.ref f) args) (CR (λ_ _ _ _ _ _=>False) outer P w H s Q (λ_ _ _=>False)) s
noncomputable def xC (x C:Addr):Heap->Prop:=λh=>∃t,h.get? x=some {cls:=.ref C,data:=.fields #[.ref t,.none,.none,.none,.bool false,.none]}
noncomputable def yU(x C dx:Addr):Heap->Prop:=λh=>∃t,h.get? x=some {cls:=.ref C,dict:=some dx,data:=.fields #[.ref t,.none,.none,.none,.bool false,.none]}
structure XIn(K:PySem.W.Frag)(C HE fI:Addr)(fl:Str):Prop where
 cls:∃N nm q bs hd sn sub ab col dd k0 k1 k2 k3 k5,K.lookup C=some (z8c nm q C N bs (.ref HE::zW) hd sn sub ab col dd k0 k1 k2 k3 k5 "ValueError.__new__")/\zcT K N=true/\z9f K N "__init__"=some (some (.ref fI))
 he:z8Y K HE zW "ValueError.__new__"=true
 fn:zcL K (.ref fI)=some (.type "function")
 sa:z70 K (.ref C) "__setattr__"=some (some (.builtin "object.__setattr__"))
 no:z70 K (.ref C) fl=some none
 dct:z89 K C=true
 kp:z8l K (.ref C)=true
noncomputable def spI (C:Addr)(fl:Str):Sp:=λvs H Q E=>∃(x:Addr) (i:Int),vs=[.ref x,.int i]/\i.natAbs.log2<1920/\H x=some (.ext (xC x C))/\∀dx,H dx=none->dx≠x->Q .non (upd (upd H x (.ext (yU x C dx))) dx (.xd [(fl,.int i)]))
noncomputable def z1q(y:Str)(sc:Scope):Bool:=(sc.kind == .function)&&!sc.isCoroutine&&!sc.isGenerator&&sc.names.all (λy=>y.2 != .free)&&(sc.names.lookup y == some .local)&&y != ("__debug__":Str)&&y != ("__classdict__":Str)
noncomputable def z5t(a c:Addr)(qn:Str):Heap->Prop:=λh=>∃(y:Str) (pa:Pos) (kk:Nat) (bp:Pos) (sc:Scope) (pm ctv:Value),z1q y sc=true/\h.get? a=some (z8x "<lambda>" qn ⟨[],[⟨y,none,pa⟩],none,[],[],none,[]⟩ (.Constant .none kk bp) sc [] pm c ctv)
noncomputable def z56(t:T):Prop:=t=.clo 0 [.clo 100 []]\/t=.clo 1 []\/t=.clo 2 [.clo 101 []]
noncomputable def z6j (D:DP)(P:z7a)(w:z7o)(K:z6C)(mg:Str->Option Value)(base:Heap)(k:Nat):Prop:=
 ∀(t:T) (φ α:List Addr) (H:Hp) (v:V),z56 t->Den D φ α H t v->∃a kk,v=.ref a/\kk<=k/\∀(A:z7b) (outer:List Env) (s:z6z),Env0 P w K mg base A outer s H->zdz a s.heap/\(Room kk A->∀(u:Value) (x:V) (Q:VK) (t:T) (φ α:List Addr) (μ:Mem),RelV x u->Den D φ α H t x->MRel D φ α H μ->(∀α' H',Stp α H α' H'->MRel D φ α' H' μ->Q .non H')->
  z92 (z6L P w) A (.call (.ref a) ⟨[u],[]⟩) (CR (CX1 P w) outer P w H s Q (λ_ _ _=>False)) s)
noncomputable def kf(a c:Addr)(l:LamD)(cl:List (Str×Addr)):Heap->Prop:=λh=>∃(pa:Pos) (pm ctv:Value),h.get? a=some (z8x "<lambda>" l.qn ⟨[],[⟨l.y,none,pa⟩],none,[],[],none,[]⟩ l.body l.sc cl pm c ctv)
noncomputable def Ju(fr:List Str)(cl:List (Str×Addr))(cs:List Addr):Prop:=fr.map (λx=>cl.lookup x)=cs.map some/\cs.Nodup/\∀x a,cl.lookup x=some a->x∈fr
noncomputable def z5U(D:DP)(P:z7a)(w:z7o)(K:z6C)(mg:Str->Option Value)(base:Heap)(k:Nat)(ls:List LamD):Prop:=
 ∀(j:Nat) (l:LamD) (ts:List T) (φ α:List Addr) (H:Hp) (v:V),ls[j]?=some l->Den D φ α H (ZI j l.jt ts) v->∃(a:Addr) (kk:Nat),v=.ref a/\kk<=k/\∀(A:z7b) (outer:List Env) (s:z6z),Env0 P w K mg base A outer s H->zdz a s.heap/\(Room kk A->
  ∀(u:Value) (x:V) (Q:VK) (t:T) (μ:Mem) (K0:T->Mem->Prop),RelV x u->Den D φ α H t x->MRel D φ α H μ->l.g (some t::ts.map some) μ K0 (λ_ _ _=>False)->(∀t' μ',K0 t' μ'->∀α' H' v',Stp α H α' H'->MRel D φ α' H' μ'->Den D φ α' H' t' v'->Q v' H')->
  z92 (z6L P w) A (.call (.ref a) ⟨[u],[]⟩) (CR (CX1 P w) outer P w H s Q (λ_ _ _=>False)) s)
structure KapMk(D:DP)(ls:List LamD):Prop where
 tb:∀(j:Nat) (l:LamD),ls[j]?=some l->∃P' pos,D.tabs l.jt=some (P',pos,l.qn)
 fn:∀(j:Nat) (l:LamD) (a c:Addr) (cl:List (Str×Addr)) (cs:List Addr),ls[j]?=some l->Ju l.fr cl cs->D.clo (300+j) a (some (.ext (kf a c l cl))) (.ref c::cs.map V.ref)
 ce:∀c (o:Obj) u x ob,o.data=.cell (some u)->RelV x u->D.clo 200 c (some (.frz o ob)) [x]
 co:∀j P' pos qn c,D.tabs j=some (P',pos,qn)->D.clo (100+j) c (some (.ext (wI c qn))) []
noncomputable def GlOkM(D:DP)(P:z7a)(w:z7o)(K:z6C)(mg:Str->Option Value)(base:Heap)(k:Nat)(x:Str):GM->Prop
 |.fn f=>∃fa,mg x=some (.ref fa)/\FOk D P w K mg base k fa f
 |.fnh nm f=>∃fa,mg nm=some (.ref fa)/\∃fd ps kk,z8l K (.ref fa)=true/\Binds K fd ps []/\kk<=k/\z5Q P w K mg base kk fa fd ps (spN D ps.length f)/\∀ts μ K Z,f ts μ K Z->ts.length=ps.length
 |.met c nm f=>∃C fI fd ps kk,D.cad c=some C/\Cls K C/\Meth K C nm fI/\(∀i,D.fn i≠some nm)/\Binds K fd ps []/\kk<=k/\FnOk P w K mg base (CX1 P w) kk fI fd ps (spN D ps.length f)/\∀ts μ K Z,f ts μ K Z->ts.length=ps.length
 |.mk c _ f=>∃C fI fd ps kk,D.cad c=some C/\mg x=some (.ref C)/\Mk K C fI/\Binds K fd ps []/\kk+1<=k/\FnOk P w K mg base (CX1 P w) kk fI fd ps (spN D ps.length f)/\∀ts μ K Z,f ts μ K Z->ts.length=ps.length
 |.cst t=>∃u v,mg x=some u/\RelV v u/\∀φ α H,Den D φ α H t v
 |.xcl c=>∃C,D.adr c=some C/\mg x=some (.ref C)/\z8Y K C zW "ValueError.__new__"=true
 |.xcf c _=>∃C,D.adr c=some C/\mg x=some (.ref C)
 |.xin c f nm fl=>∃C HE fI fd ps kk,D.adr c=some C/\mg nm=some (.ref C)/\D.fn f=some fl/\XIn K C HE fI fl/\Binds K fd ps []/\kk+1<=k/\FnOk P w K mg base (CX1 P w) kk fI fd ps (spI C fl)
 |.mkd c nm n f=>∃C fI fd ps kk,D.cad c=some C/\mg nm=some (.ref C)/\Mk K C fI/\Binds K fd ps [.none]/\kk+1<=k/\FnOk P w K mg base (CX1 P w) kk fI fd ps (spN D ps.length f)/\(∀ts μ K Z,f ts μ K Z->ts.length=ps.length)/\ps.length=n+2
 |.metd c nm n d f=>∃C fI fd ps kk du dv,D.cad c=some C/\Cls K C/\Meth K C nm fI/\(∀i,D.fn i≠some nm)/\Binds K fd ps [du]/\RelV dv du/\(∀φ α H,Den D φ α H d dv)/\kk<=k/\FnOk P w K mg base (CX1 P w) kk fI fd ps (spN D ps.length f)/\(∀ts μ K Z,f ts μ K Z->ts.length=ps.length)/\ps.length=n+2
 |.kpr=>z6j D P w K mg base k/\∀j P' pos qn,j<2->D.tabs j=some (P',pos,qn)->∀a c,D.clo (2 * j) a (some (.ext (z5t a c qn))) [.ref c]/\D.clo (100+j) c (some (.ext (wI c qn))) []
 |.kap ls=>z5U D P w K mg base k ls/\KapMk D ls
 |.none=>mg x=none
 |.bad=>True
abbrev z4Q(D:DP)(X:Cx)(k:Nat)(x:Str)(g:GM):Prop:=GlOkM D X.prog X.w X.K X.mg X.base k x g
structure Cn where
 N:List Str
 G:List Str
 calm:Bool
 gl:Str->GM
 cls:List (Str×Nat)
 fld:List (Str×Nat)
 U:List Str
 cel:List Str
 own:List Str
 lam:Option (Nat×List Pos):=none
 fz:List Str:=[]
noncomputable def Cn.sto(Γ:Cn):List Str:=Γ.N.filter λx=>!Γ.fz.contains x
noncomputable def Cn.look(Γ:Cn)(x:Str):GM:=if Γ.G.contains x then Γ.gl x else .bad
noncomputable def LamOk(D:DP)(mg:Str->Option Value)(base:Heap)(code:Value)(qual:Str)(k:Nat)(l:Option (Nat×List Pos)):Prop:=∀j poss,l=some (j,poss)->2<=k/\∃c P,code=.ref c/\z9S base c P/\base.BuiltinsAt mg P/\D.tabs j=some (P,poss,qual++"<lambda>")
theorem LamOk.no{D:DP}{mg:Str->Option Value}{base:Heap}{code:Value}{qual:Str}{k:Nat}{l:Option (Nat×List Pos)}(h:l=none):LamOk D mg base code qual k l:=λj pos e=>by rw[h] at e;cases e
structure Ck(D:DP)(W:XW)(Γ:Cn)(X:Cx)(k:Nat):Prop where
 hK:X.K=D.K
 hN:X.N=Γ.N
 nd:Γ.N.Nodup
 vis:∀x∈Γ.N,Vis X.env.scope x
 dbg:∀x∈Γ.N,(x == ("__debug__":Str))=false/\(x == ("__classdict__":Str))=false
 dbG:∀x∈Γ.G,(x == ("__debug__":Str))=false
 glb:∀x∈Γ.G,Gl X x
 glo:∀x∈Γ.G,z4Q D X k x (Γ.gl x)
 glU:∀x∈Γ.U,z4Q D X k x (Γ.gl x)/\(x == ("__debug__":Str))=false
 cel:∀x∈Γ.cel,X.env.kindOf x=some .cell\/X.env.kindOf x=some .free
 isi:∀t x c,(x,c)∈Γ.cls->∀u v,QU D t u->YM X x v->z9T X.K u v=some (vx t c)
 fld:∀c C x f,D.cad c=some C->(x,f)∈Γ.fld->D.fn f=some x/\Cls X.K C/\NoAttr X.K C x
 xcx:∀c C,D.adr c=some C->XCls X.K C
 ocx:∀c C,D.cad c=some C->OCls X.K C
 clv:∀x c,(x,c)∈Γ.cls->∃u v,YM X x u/\ClsV v u
 clm:Γ.calm=true->X.calm=true
 rom:Γ.calm=true->Room k X.A
 rmh:RoomH k X.A
 xe:∀e s,XP X W e s->X.xe e s
 frm:∃e0 out L,Frm X e0 out L
 lam:LamOk D X.mg X.base X.env.code X.env.qual k Γ.lam
 kfz:Γ.lam.isSome=true->∀x∈Γ.fz,X.fn x=false/\∀c,X.env.cells.lookup x=some c->X.s₀.heap.objs.size<=c
theorem Ck.unt{D:DP}{W:XW}{Γ:Cn}{X:Cx}{k:Nat}(C:Ck D W Γ X k):X.A.units+64<cLine:=C.rmh.units
theorem qW:∀{N:List Str} {x:Str} {i:Nat},idx N x=some i->N[i]?=some x
 |[],_,_,h=>by simp[idx] at h
 |y::r,x,i,h=>by
  simp only[idx] at h
  split at h
  ·rename_i e;cases h;simp[e]
  ·cases q:idx r x with
   |none=>rw[q] at h;cases h
   |some j=>rw[q] at h;cases h;simpa using qW q
theorem qL{N:List Str}{x:Str}{i:Nat}(h:idx N x=some i):x∈N:=z6M (qW h)
section
variable {X:Cx}{D:DP}{W:XW}{Γ:Cn}{k:Nat}{pins:List (Addr×Obj)}{s:Shared}{σ:St}{H:Hp}{φ α:List Addr}{τ:Sl}{μ:Mem}{f g h:De}{a b c:Expr}{pos:Pos}
theorem PE.mono{e:Expr}{t t':TE}(h:PE X e t)(m:∀σ H Q,t' σ H Q->t σ H Q):PE X e t':=λpins s σ H Q I q=>h pins s σ H Q I (m σ H Q q)
theorem z2V{i j pos}:PE X (.Constant (.int i) j pos) (rdE D W (eC (.int i))):=PE.mono z29 λσ H Q ⟨φ,α,τ,μ,sr,mr,p⟩=>Post.here p mr rfl
theorem z4P{i j pos}:PE X (.Constant (.bool i) j pos) (rdE D W (eC (.bl i))):=PE.mono z5l λσ H Q ⟨φ,α,τ,μ,sr,mr,p⟩=>Post.here p mr rfl
theorem z27{j pos}:PE X (.Constant .none j pos) (rdE D W (eC .non)):=PE.mono z2m λσ H Q ⟨φ,α,τ,μ,sr,mr,p⟩=>Post.here p mr rfl
theorem z3W{i j pos}:PE X (.Constant (.str i) j pos) (rdE D W (eC (.str i))):=PE.mono Q1 λσ H Q ⟨φ,α,τ,μ,sr,mr,p⟩=>Post.here p mr rfl
theorem z2e(C:Ck D W Γ X k){x:Str}{i:Nat}(hi:idx Γ.N x=some i):PE X (.Name x pos) (rdE D W (eV i)):=by
 refine PE.mono (kG (i:=i) (by rw[C.hN];exact qW hi) (C.vis x (qL hi)) (C.dbg x (qL hi)).1 (C.dbg x (qL hi)).2) ?_
 rintro σ H Q ⟨φ,α,τ,μ,sr,mr,p⟩
 dsimp only[eV] at p
 split at p
 ·rename_i t e
  obtain⟨v,q,d⟩:=sr.get e
  exact⟨v,q,p.here mr d⟩
 ·exact p.elim
theorem z2o(C:Ck D W Γ X k){x:Str}{t:T}(hx:x∈Γ.G)(ht:Γ.gl x=.cst t):PE X (.Name x pos) (rdE D W (eC t)):=by
 have g:=C.glo x hx
 rw[ht] at g
 obtain⟨u,v,hm,r,d⟩:=g
 exact PE.mono (VZ (C.glb x hx) hm r (C.dbG x hx)) λσ H Q ⟨φ,α,τ,μ,sr,mr,p⟩=>Post.here p mr (d _ _ _)
theorem z3r{op:zcR}(ha:PE X a (rdE D W f))(hb:PE X b (rdE D W g)):PE X (.BinOp a op b pos) (rdE D W (ze op f g)):=by
 rintro pins s σ H Q I ⟨φ,α,τ,μ,sr,mr,p⟩
 refine wpAny_BinOp (thn (sub ha I sr mr p) ?_)
 rintro u s1 ⟨v,H1,t,μ1,α1,I1,r1,st1,sr1,mr1,d1,p1⟩
 refine thn (sub hb I1 sr1 mr1 p1) ?_
 rintro u' s2 ⟨v',H2,t',μ2,α2,I2,r2,st2,sr2,mr2,d2,p2⟩
 exact z2g I2 mr2 (d1.step st2) d2 r1 r2 p2
theorem z2s(ha:PE X a (rdE D W f)):PE X (.UnaryOp .USub a pos) (rdE D W (WT f)):=by
 rintro pins s σ H Q I ⟨φ,α,τ,μ,sr,mr,p⟩
 refine UnaryOp_ (thn (sub ha I sr mr p) ?_)
 rintro u s1 ⟨v,H1,t,μ1,α1,I1,r1,st1,sr1,mr1,d1,p1⟩
 try dsimp only at p1
 split at p1
 ·cases d1
  exact z46 pins s1 σ H1 _ _ Q I1 r1 ⟨_,rfl,p1.here mr1 rfl⟩
 ·exact p1.elim
theorem z2J(ha:PE X a (rdE D W f)):PE X (.UnaryOp .Not a pos) (rdE D W (z3s f)):=by
 rintro pins s σ H Q I ⟨φ,α,τ,μ,sr,mr,p⟩
 refine UnaryOp_ (thn (sub ha I sr mr p) ?_)
 rintro u s1 ⟨v,H1,t,μ1,α1,I1,r1,st1,sr1,mr1,d1,p1⟩
 try dsimp only at p1
 split at p1
 ·rename_i b
  cases d1
  cases r1
  exact not_of (z7e ⟨.bl (!b),H1,I1,rfl,p1.here mr1 rfl⟩)
 ·exact p1.elim
theorem z2f{op:BoolOp}(ha:PE X a (rdE D W f)):PE X (.BoolOp op [a] pos) (rdE D W f):=z3n ha
theorem z3B{r:List Expr}(ha:PE X a (rdE D W f))(hb:PE X (.BoolOp .And (b::r) pos) (rdE D W g)):PE X (.BoolOp .And (a::b::r) pos) (rdE D W (Jx f g)):=by
 rintro pins s σ H Q I ⟨φ,α,τ,μ,sr,mr,p⟩
 refine BoolOp_and (thn (sub ha I sr mr p) ?_)
 rintro u s1 ⟨v,H1,t,μ1,α1,I1,r1,st1,sr1,mr1,d1,p1⟩
 try dsimp only at p1
 split at p1
 ·cases d1
  cases r1
  rcases p1.br with⟨rfl,p1⟩|⟨rfl,p1⟩
  ·exact z7e (hb pins s1 σ H1 Q I1 ⟨φ,α1,τ,μ1,sr1,mr1,p1⟩)
  ·exact z7e ⟨.bl false,H1,I1,rfl,p1.here mr1 rfl⟩
 ·exact p1.elim
theorem z4w{r:List Expr}(ha:PE X a (rdE D W f))(hb:PE X (.BoolOp .Or (b::r) pos) (rdE D W g)):PE X (.BoolOp .Or (a::b::r) pos) (rdE D W (eOr f g)):=by
 rintro pins s σ H Q I ⟨φ,α,τ,μ,sr,mr,p⟩
 refine BoolOp_or (thn (sub ha I sr mr p) ?_)
 rintro u s1 ⟨v,H1,t,μ1,α1,I1,r1,st1,sr1,mr1,d1,p1⟩
 try dsimp only at p1
 split at p1
 ·cases d1
  cases r1
  rcases p1.br with⟨rfl,p1⟩|⟨rfl,p1⟩
  ·exact z7e ⟨.bl true,H1,I1,rfl,p1.here mr1 rfl⟩
  ·exact z7e (hb pins s1 σ H1 Q I1 ⟨φ,α1,τ,μ1,sr1,mr1,p1⟩)
 ·exact p1.elim
theorem z2y{x y:T}{v w:V}{b:Bool}(d1:Den D φ α H x v)(d2:Den D φ α H y w)(h:scT x y=some b):z0w v w=true/\decide (v=w)=b:=by
 unfold scT at h
 split at h<;>first
  |(cases h;cases d1;cases d2;exact⟨rfl,by simp⟩)
  |cases h
theorem z3i:OpR X (z7u .Is) (λx y H Q=>∃a b,x=.bl a/\y=.bl b/\Q (.bl (decide (a=b))) H):=by
 intro pins s σ H x y v u Q I rx ry h
 obtain⟨a,b,rfl,rfl,q⟩:=h
 cases rx;cases ry
 refine wpAny_is_plain (by rfl) ⟨.bl (decide (a=b)),H,I,?_,q⟩
 cases a<;>cases b<;>rfl
theorem Xg:OpR X (z7u .IsNot) (λx y H Q=>∃a b,x=.bl a/\y=.bl b/\Q (.bl (!decide (a=b))) H):=by
 intro pins s σ H x y v u Q I rx ry h
 obtain⟨a,b,rfl,rfl,q⟩:=h
 cases rx;cases ry
 refine wpAny_isNot_plain (by rfl) ⟨.bl (!decide (a=b)),H,I,?_,q⟩
 cases a<;>cases b<;>rfl
theorem Ui{b:Bool}{C:Prop}{x y:T}{v w:V}{kk:Bool->RE T}{Q:VK}(I:Inv X pins σ H s)(hu:X.A.units+64<cLine)(mr:MRel D φ α H μ)(d1:Den D φ α H x v)(d2:Den D φ α H y w)(p:Post D W φ α H σ (RV D φ Q) (eqW x y μ kk))
  (h1:∀b,Post D W φ α H σ (RV D φ Q) (kk b)->z0w v w=true/\decide (v=w)=b->C)
  (h2:∀b,Post D W φ α H σ (RV D φ Q) (kk b)->((∀u1 u2,RelV v u1->RelV w u2->∀{R:Value->z6z->Prop},R (.bool b) s->z6I (z6L X.prog X.w) X.A (z7u .Eq u1 u2) R X.xe s)/\(∀u1 u2,RelV v u1->RelV w u2->∀{R:Value->z6z->Prop},R (.bool (!b)) s->z6I (z6L X.prog X.w) X.A (z7u .NotEq u1 u2) R X.xe s))->C):C:=by
 have lst:∀{xs ys:List T} {c d:Addr} {vs ws:List V},v=.ref c->w=.ref d->Rd H c (.lst vs)->Rd H d (.lst ws)->DenL D φ α H xs vs->DenL D φ α H ys ws->Post D W φ α H σ (RV D φ Q) (RE.grd (qi xs<=40) (.som (eqL xs ys) kk))->C:=λ{xs ys c d vs ws} e1 e2 r r' l l' p=>by
  obtain⟨hd,p⟩:=p.grd
  obtain⟨b,hb,p⟩:=p.som
  subst e1 e2
  exact h2 b p ⟨λu1 u2 r1 r2 R q=>by cases r1;cases r2;exact Xe I l l' r r' hb (by omega) _ _ _ _ q,λu1 u2 r1 r2 R q=>by cases r1;cases r2;exact YX I l l' r r' hb (by omega) _ _ _ _ q⟩
 unfold eqW at p
 split at p
 ·obtain⟨hd,p⟩:=p.grd
  obtain⟨b,hb,p⟩:=p.som
  obtain⟨c,vs,rfl,_,_,r,l⟩:=d1
  obtain⟨d,ws,rfl,_,_,r',l'⟩:=d2
  exact h2 b p ⟨λu1 u2 r1 r2 R q=>by cases r1;cases r2;exact YF I l l' r r' hb (by omega) _ _ _ _ q,λu1 u2 r1 r2 R q=>by cases r1;cases r2;exact W4 I l l' r r' hb (by omega) _ _ _ _ q⟩
 ·obtain⟨c,vs,e1,_,_,r,l⟩:=d1
  obtain⟨d,ws,e2,_,_,r',l'⟩:=d2
  exact lst e1 e2 r r' l l' p
 ·obtain⟨xs,hi,p⟩:=p.ex1
  obtain⟨c,hc,e1⟩:=d1
  obtain⟨vs,q,l⟩:=mr.ob _ c _ hc hi
  obtain⟨d,ws,e2,_,_,r',l'⟩:=d2
  exact lst e1 e2 (.inl q) r' l l' p
 ·obtain⟨ys,hi,p⟩:=p.ex1
  obtain⟨c,hc,e2⟩:=d2
  obtain⟨vs,q,l⟩:=mr.ob _ c _ hc hi
  obtain⟨d,ws,e1,_,_,r',l'⟩:=d1
  exact lst e1 e2 r' (.inl q) l' l p
 ·obtain⟨z,hi,p⟩:=p.ex1
  obtain⟨c,hc,e1⟩:=d1
  obtain⟨vs,q,l⟩:=mr.ob _ c _ hc hi.1
  obtain⟨d,hd,e2⟩:=d2
  obtain⟨ws,q',l'⟩:=mr.ob _ d _ hd hi.2
  exact lst e1 e2 (.inl q) (.inl q') l l' p
 ·split at p
  ·rename_i hb
   exact h1 _ p (z2y d1 d2 hb)
  ·exact p.elim
theorem Vu{op:z85}{x y:T}{v w:V}{u1 u2:Value}{Q:VK}(I:Inv X pins σ H s)(hu:X.A.units+64<cLine)(mr:MRel D φ α H μ)(d1:Den D φ α H x v)(d2:Den D φ α H y w)(r1:RelV v u1)(r2:RelV w u2)
  (p:Post D W φ α H σ (RV D φ Q) (Q5 op x y μ)):z6I (z6L X.prog X.w) X.A (z7u op u1 u2) (EP X pins σ Q) X.xe s:=by
 unfold Q5 at p
 split at p
 ·refine Ui (b:=true) I hu mr d1 d2 p (λb q h=>?_) (λb q h=>?_)
  ·obtain⟨s1,s2⟩:=h
   exact z5i pins s σ H v w u1 u2 Q I r1 r2 ⟨s1,by rw[s2];exact Post.here q mr rfl⟩
  ·exact h.1 _ _ r1 r2 ⟨.bl b,H,I,rfl,Post.here q mr rfl⟩
 ·refine Ui (b:=false) I hu mr d1 d2 p (λb q h=>?_) (λb q h=>?_)
  ·obtain⟨s1,s2⟩:=h
   exact z5H pins s σ H v w u1 u2 Q I r1 r2 ⟨s1,by rw[s2];exact Post.here q mr rfl⟩
  ·exact h.2 _ _ r1 r2 ⟨.bl (!b),H,I,rfl,Post.here q mr rfl⟩
 ·unfold ltW at p
  split at p
  ·cases d1;cases d2
   exact z4K pins s σ H _ _ u1 u2 Q I r1 r2 ⟨_,_,rfl,rfl,Post.here p mr rfl⟩
  ·obtain⟨ns,h1,p⟩:=p.som
   obtain⟨ms,h2,p⟩:=p.som
   obtain⟨a,vs,rfl,_,_,q1,l1⟩:=d1
   obtain⟨c,ws,rfl,_,_,q2,l2⟩:=d2
   rw[vv h1 l1] at q1
   rw[vv h2 l2] at q2
   exact z2Q (by omega) pins s σ H _ _ u1 u2 Q I r1 r2 ⟨a,c,ns,ms,rfl,rfl,.inl q1,.inl q2,Post.here p mr rfl⟩
  ·have d1:v=.str _:=d1
   have d2:w=.str _:=d2
   subst d1 d2
   obtain⟨t1,rfl⟩:=r1
   obtain⟨t2,rfl⟩:=r2
   exact PySem.P.lt_str ⟨.bl _,H,I,rfl,Post.here p mr rfl⟩
  ·exact p.elim
 ·split at p
  ·cases d1;cases d2
   exact z5a pins s σ H _ _ u1 u2 Q I r1 r2 ⟨_,_,rfl,rfl,p.here mr rfl⟩
  ·exact p.elim
 ·split at p
  ·cases d1;cases d2
   exact z58 pins s σ H _ _ u1 u2 Q I r1 r2 ⟨_,_,rfl,rfl,p.here mr rfl⟩
  ·exact p.elim
 ·split at p
  ·cases d1;cases d2
   exact z54 pins s σ H _ _ u1 u2 Q I r1 r2 ⟨_,_,rfl,rfl,p.here mr rfl⟩
  ·exact p.elim
 ·split at p
  ·cases d2
   refine z32 pins s σ H _ _ u1 u2 Q I r1 r2 ⟨rfl,?_⟩
   have q:=p.here mr rfl
   cases x<;>first
    |(have d1:v=_:=d1;subst d1;simpa using q)
    |(obtain⟨_,_,rfl,_⟩:=d1;simpa using q)
    |(obtain⟨_,_,_,_,rfl,_⟩:=d1;simpa using q)
    |(obtain⟨_,_,rfl⟩:=d1;simpa using q)
    |(obtain⟨_,_,_,rfl,_⟩:=d1;simpa using q)
  ·split at p
   ·have d1:v=.bl _:=d1
    have d2:w=.bl _:=d2
    subst d1 d2
    exact z3i pins s σ H _ _ u1 u2 Q I r1 r2 ⟨_,_,rfl,rfl,p.here mr rfl⟩
   ·exact p.elim
  ·exact p.elim
 ·split at p
  ·cases d2
   refine Uw pins s σ H _ _ u1 u2 Q I r1 r2 ⟨rfl,?_⟩
   have q:=p.here mr rfl
   cases x<;>first
    |(have d1:v=_:=d1;subst d1;simpa using q)
    |(obtain⟨_,_,rfl,_⟩:=d1;simpa using q)
    |(obtain⟨_,_,_,_,rfl,_⟩:=d1;simpa using q)
    |(obtain⟨_,_,rfl⟩:=d1;simpa using q)
    |(obtain⟨_,_,_,rfl,_⟩:=d1;simpa using q)
  ·split at p
   ·have d1:v=.bl _:=d1
    have d2:w=.bl _:=d2
    subst d1 d2
    exact Xg pins s σ H _ _ u1 u2 Q I r1 r2 ⟨_,_,rfl,rfl,p.here mr rfl⟩
   ·exact p.elim
  ·exact p.elim
 ·split at p
  ·have d1:v=.str _:=d1
   have d2:w=.str _:=d2
   subst d1 d2
   exact K1 pins s σ H _ _ u1 u2 Q I r1 r2 ⟨_,_,rfl,rfl,p.here mr rfl⟩
  ·exact p.elim
 ·split at p
  ·have d1:v=.str _:=d1
   have d2:w=.str _:=d2
   subst d1 d2
   exact Q2 pins s σ H _ _ u1 u2 Q I r1 r2 ⟨_,_,rfl,rfl,p.here mr rfl⟩
  ·exact p.elim
noncomputable def qC:Expr->Bool
 |.Name _ _=>true
 |.Constant _ _ _=>true
 |.BinOp _ _ _ _=>true
 |.UnaryOp _ _ _=>true
 |.Call _ _ _ _=>true
 |.Subscript _ _ _=>true
 |.Attribute _ _ _=>true
 |_=>false
noncomputable def wx:Expr->Bool
 |.Set _ _ _=>false
 |_=>true
noncomputable def ky:z85->Bool
 |.In=>false|.NotIn=>false
 |_=>true
noncomputable def jW(op:z85)(b:Expr):Bool:=ky op || wx b
noncomputable def jF:z85->Bool
 |.Lt=>true|.LtE=>true|.Gt=>true|.GtE=>true|.Eq=>true|.NotEq=>true
 |_=>false
theorem xV{op:z85}{b:Expr}(h:jW op b=true):zbi op b=false:=by
 cases hp:ky op with
 |true=>exact Xt b (by rintro rfl;simp[ky] at hp) (by rintro rfl;simp[ky] at hp)
 |false=>
  have hb:wx b=true:=by unfold jW at h;rw[hp] at h;exact h
  cases b<;>first|rfl|(simp[wx] at hb)
theorem z30(C:Ck D W Γ X k){op:z85}(ho:jW op b=true)(ha:PE X a (rdE D W f))(hb:PE X b (rdE D W g)):PE X (.Compare a [op] [b] pos) (rdE D W (zv op f g)):=by
 rintro pins s σ H Q I ⟨φ,α,τ,μ,sr,mr,p⟩
 refine wpAny_Compare1 (thn (sub ha I sr mr p) ?_) (xV ho)
 rintro u s1 ⟨v,H1,t,μ1,α1,I1,r1,st1,sr1,mr1,d1,p1⟩
 refine thn (sub hb I1 sr1 mr1 p1) ?_
 rintro u' s2 ⟨v',H2,t',μ2,α2,I2,r2,st2,sr2,mr2,d2,p2⟩
 exact Vu I2 C.unt mr2 (d1.step st2) d2 r1 r2 p2
theorem xI{op:z85}{β:Type}{R:β->Mem->List Addr->Hp->Prop}{kk:T->Mem->RE β}{x y:T}{v w:V}{u1 u2:Value}(I:Inv X pins σ H s)(hu:X.A.units+64<cLine)(mr:MRel D φ α H μ)(d1:Den D φ α H x v)(d2:Den D φ α H y w)(r1:RelV v u1)(r2:RelV w u2)
  (p:Post D W φ α H σ R ((Q5 op x y μ).bind kk)):z6I (z6L X.prog X.w) X.A (z7u op u1 u2) (EP X pins σ λz H1=>∃t μ1 α1,Stp α H α1 H1/\MRel D φ α1 H1 μ1/\Den D φ α1 H1 t z/\Post D W φ α1 H1 σ R (kk t μ1)) X.xe s:=
 Vu I hu mr d1 d2 r1 r2 (p.bind.mono λt μ' α' H' st m q v d=>⟨t,μ',α',st,m,d,q⟩)
theorem va:∀{ops:List z85} {es:List Expr},ops.all jF=true->lastMarks ops es=false
 |[],es,_=>by cases es<;>rfl
 |[op],[],_=>rfl
 |[op],[e],h=>Xt e (by rintro rfl;simp[jF] at h) (by rintro rfl;simp[jF] at h)
 |[op],_::_::_,_=>rfl
 |op::op'::ops,[],_=>rfl
 |op::op'::ops,e::es,h=>by
  have:lastMarks (op'::ops) es=false:=va (by simp only[z7y,z6x] at h ⊢;exact h.2)
  cases es with
  |nil=>cases ops<;>rfl
  |cons e' es=>exact this
noncomputable def Jl (X:Cx)(D:DP)(W:XW):List Expr->List (z85×De)->Prop
 |[],[]=>True
 |e::es,p::ps=>PE X e (rdE D W p.2)/\Jl X D W es ps
 |_,_=>False
theorem Wn(hu:X.A.units+64<cLine){Q:VK}:∀{ps:List (z85×De)} {es:List Expr} {s:z6z} {H:Hp} {α:List Addr} {μ:Mem} {x:T} {v:V} {u:Value},Jl X D W es ps->Inv X pins σ H s->SRel D φ α H τ σ->MRel D φ α H μ->Den D φ α H x v->RelV v u->Post D W φ α H σ (RV D φ Q) (Uc ps x τ μ)->
  z6I (z6L X.prog X.w) X.A (compareChain pos u (ps.map (·.1)) (evalEach es X.env)) (EP X pins σ Q) X.xe s
 |[],_,_,_,_,_,_,_,_,_,_,_,_,_,_,p=>p.elim
 |[(op,g)],[],_,_,_,_,_,_,_,h,_,_,_,_,_,_=>h.elim
 |[(op,g)],[e],s,H,α,μ,x,v,u,h,I,sr,mr,d,r,p=>by
  refine chain_last (thn (sub h.1 I sr mr p) ?_)
  rintro u' s2 ⟨v',H2,t',μ2,α2,I2,r2,st2,sr2,mr2,d2,p2⟩
  exact Vu I2 hu mr2 (d.step st2) d2 r r2 p2
 |[(op,g)],_::_::_,_,_,_,_,_,_,_,h,_,_,_,_,_,_=>h.2.elim
 |(op,g)::p'::ps,[],_,_,_,_,_,_,_,h,_,_,_,_,_,_=>h.elim
 |(op,g)::p'::ps,[e],_,_,_,_,_,_,_,h,_,_,_,_,_,_=>h.2.elim
 |(op,g)::(op',g')::ps,e::e'::es,s,H,α,μ,x,v,u,h,I,sr,mr,d,r,p=>by
  refine chain_link (thn (sub h.1 I sr mr p) ?_)
  rintro u' s2 ⟨v',H2,t',μ2,α2,I2,r2,st2,sr2,mr2,d2,p2⟩
  refine thn (xI I2 hu mr2 (d.step st2) d2 r r2 p2) ?_
  rintro dd s3 ⟨z,H3,I3,r3,t3,μ3,α3,st3,mr3,d3,p3⟩
  try dsimp only at p3
  split at p3
  ·cases d3
   cases r3
   rcases p3.br with⟨rfl,p3⟩|⟨rfl,p3⟩
   ·exact z7e (ite_tt (Wn hu (ps:=(op',g')::ps) (es:=e'::es) h.2 I3 (sr2.step st3) mr3 (d2.step st3) r2 p3))
   ·exact z7e (ite_ff ⟨.bl false,H3,I3,rfl,p3.here mr3 rfl⟩)
  ·exact p3.elim
theorem Ye(C:Ck D W Γ X k){e1 e2:Expr}{es:List Expr}{p1 p2:z85×De}{ps:List (z85×De)}(ho:(p1::p2::ps).all (λp=>jF p.1)=true)(ha:PE X a (rdE D W f))(h:Jl X D W (e1::e2::es) (p1::p2::ps)):PE X (.Compare a (p1.1::p2.1::ps.map (·.1)) (e1::e2::es) pos) (rdE D W (eCh f (p1::p2::ps))):=by
 rintro pins s σ H Q I ⟨φ,α,τ,μ,sr,mr,p⟩
 refine Compare_chain (thn (sub ha I sr mr p) ?_) (va (by simpa[zbU,za2] using ho))
 rintro u s1 ⟨v,H1,t,μ1,α1,I1,r1,st1,sr1,mr1,d1,p1⟩
 exact Wn C.unt h I1 sr1 mr1 d1 r1 p1
theorem J3(hu:X.A.units+64<cLine){β:Type}{R:β->Mem->List Addr->Hp->Prop}{kk:Bool->Mem->RE β}:∀{ps:List (z85×De)} {es:List Expr} {s:z6z} {H:Hp} {α:List Addr} {μ:Mem} {x:T} {v:V} {u:Value} {Q:Bool->Hp->Prop},Jl X D W es ps->Inv X pins σ H s->SRel D φ α H τ σ->MRel D φ α H μ->Den D φ α H x v->RelV v u->Post D W φ α H σ (λb _ _ H'=>Q b H') ((Uc ps x τ μ).bind xv)->
  z6I (z6L X.prog X.w) X.A (testChain pos u (ps.map (·.1)) (evalEach es X.env)) (TP X pins σ Q) X.xe s
 |[],_,_,_,_,_,_,_,_,_,_,_,_,_,_,_,p=>Post.elim p
 |[(op,g)],[],_,_,_,_,_,_,_,_,h,_,_,_,_,_,_=>h.elim
 |[(op,g)],[e],s,H,α,μ,x,v,u,Q,h,I,sr,mr,d,r,p=>by
  have p:Post D W φ α H σ (λb _ _ H'=>Q b H') ((g τ μ).bind λy μ1=>(Q5 op x y μ1).bind xv):=p
  refine test_last (thn (sub h.1 I sr mr p) ?_)
  rintro u' s2 ⟨v',H2,t',μ2,α2,I2,r2,st2,sr2,mr2,d2,p2⟩
  refine thn (xI I2 hu mr2 (d.step st2) d2 r r2 p2) ?_
  rintro dd s3 ⟨z,H3,I3,r3,t3,μ3,α3,st3,mr3,d3,p3⟩
  unfold xv at p3
  split at p3
  ·cases d3
   cases r3
   exact z7e ⟨H3,I3,p3.ok (Stp.refl _ _) mr3⟩
  ·exact p3.elim
 |[(op,g)],_::_::_,_,_,_,_,_,_,_,_,h,_,_,_,_,_,_=>h.2.elim
 |(op,g)::p'::ps,[],_,_,_,_,_,_,_,_,h,_,_,_,_,_,_=>h.elim
 |(op,g)::p'::ps,[e],_,_,_,_,_,_,_,_,h,_,_,_,_,_,_=>h.2.elim
 |(op,g)::(op',g')::ps,e::e'::es,s,H,α,μ,x,v,u,Q,h,I,sr,mr,d,r,p=>by
  have p:Post D W φ α H σ (λb _ _ H'=>Q b H') ((g τ μ).bind λy μ1=>(Q5 op x y μ1).bind λk μ2=>(match k with|.bl b=>RE.br b (Uc ((op',g')::ps) y τ μ2) (.ok (.bl false) μ2)|_=>RE.st:RE T).bind xv):=p
  refine test_link (thn (sub h.1 I sr mr p) ?_)
  rintro u' s2 ⟨v',H2,t',μ2,α2,I2,r2,st2,sr2,mr2,d2,p2⟩
  refine thn (xI I2 hu mr2 (d.step st2) d2 r r2 p2) ?_
  rintro dd s3 ⟨z,H3,I3,r3,t3,μ3,α3,st3,mr3,d3,p3⟩
  try dsimp only at p3
  split at p3
  ·rename_i bb
   cases d3
   cases r3
   cases bb with
   |true=>exact z7e (ite_tt (J3 hu (kk:=kk) (R:=R) (ps:=(op',g')::ps) (es:=e'::es) h.2 I3 (sr2.step st3) mr3 (d2.step st3) r2 p3))
   |false=>
    have p3:Post D W φ α3 H3 σ (λb _ _ H'=>Q b H') (RE.ok false μ3):=p3
    exact z7e (ite_ff ⟨H3,I3,p3.ok (Stp.refl _ _) mr3⟩)
  ·have p3:Post D W φ α3 H3 σ (λb _ _ H'=>Q b H') RE.st:=p3
   exact p3.elim
end
section
variable {X:Cx}{D:DP}{W:XW}{Γ:Cn}{k:Nat}{pins:List (Addr×Obj)}{s:Shared}{σ:St}{H:Hp}{φ α:List Addr}{τ:Sl}{μ:Mem}{f g h:De}{ft gt:Dt}{a b c:Expr}{pos:Pos}
theorem J7(ha:PE X a (rdE D W f))(he:∀whole,isTrue a X.env whole=(do let v ←whole;standAt a.pos;zcA [v] (truthy v))):PT X a (rdT D W (tE f)):=by
 rintro pins s σ H Q I ⟨φ,α,τ,μ,sr,mr,p⟩
 rw[he]
 refine z6w (thn (sub ha I sr mr p) ?_)
 rintro u s1 ⟨v,H1,t,μ1,α1,I1,r1,st1,sr1,mr1,d1,p1⟩
 unfold xv at p1
 split at p1
 ·cases d1
  cases r1
  exact z6w (z7x (z77 (z7e ⟨H1,I1,p1.ok (Stp.refl _ _) mr1⟩)))
 ·exact p1.elim
theorem Vo(C:Ck D W Γ X k){op:z85}(ho:jW op b=true)(ha:PE X a (rdE D W f))(hb:PE X b (rdE D W g)):PT X (.Compare a [op] [b] pos) (rdT D W (tE (zv op f g))):=by
 rintro pins s σ H Q I ⟨φ,α,τ,μ,sr,mr,p⟩
 have p:Post D W φ α H σ (λb _ _ H'=>Q b H') ((f τ μ).bind λx μ1=>(g τ μ1).bind λy μ2=>(Q5 op x y μ2).bind xv):=p
 refine zaR (thn (sub ha I sr mr p) ?_) (xV ho)
 rintro u s1 ⟨v,H1,t,μ1,α1,I1,r1,st1,sr1,mr1,d1,p1⟩
 refine thn (sub hb I1 sr1 mr1 p1) ?_
 rintro u' s2 ⟨v',H2,t',μ2,α2,I2,r2,st2,sr2,mr2,d2,p2⟩
 refine thn (xI I2 C.unt mr2 (d1.step st2) d2 r1 r2 p2) ?_
 rintro d s3 ⟨z,H3,I3,r3,t3,μ3,α3,st3,mr3,d3,p3⟩
 unfold xv at p3
 split at p3
 ·cases d3
  cases r3
  exact z7e ⟨H3,I3,p3.ok (Stp.refl _ _) mr3⟩
 ·exact p3.elim
theorem Wf(C:Ck D W Γ X k){e1 e2:Expr}{es:List Expr}{p1 p2:z85×De}{ps:List (z85×De)}(ho:(p1::p2::ps).all (λp=>jF p.1)=true)(ha:PE X a (rdE D W f))(h:Jl X D W (e1::e2::es) (p1::p2::ps)):PT X (.Compare a (p1.1::p2.1::ps.map (·.1)) (e1::e2::es) pos) (rdT D W (tE (eCh f (p1::p2::ps)))):=by
 rintro pins s σ H Q I ⟨φ,α,τ,μ,sr,mr,p⟩
 have p:Post D W φ α H σ (λb _ _ H'=>Q b H') ((f τ μ).bind λx μ1=>(Uc (p1::p2::ps) x τ μ1).bind xv):=p
 refine isTrue_chain (thn (sub ha I sr mr p) ?_) (va (by simpa[zbU,za2] using ho))
 rintro u s1 ⟨v,H1,t,μ1,α1,I1,r1,st1,sr1,mr1,d1,p1⟩
 exact J3 (kk:=λ_ _=>RE.st (β:=Bool)) (R:=λ_ _ _ _=>True) C.unt h I1 sr1 mr1 d1 r1 p1
theorem z2L{r:List Expr}(ha:PT X a (rdT D W ft))(hb:PW X (.BoolOp .And (b::r) pos) (rdT D W gt)):PW X (.BoolOp .And (a::b::r) pos) (rdT D W (vX ft gt)):=by
 intro whole pins s σ H Q I hq
 refine z2X ha hb whole pins s σ H Q I ?_
 obtain⟨φ,α,τ,μ,sr,mr,p⟩:=hq
 refine⟨φ,α,τ,μ,sr,mr,p.bind.mono λc μ' α' H' st m q=>?_⟩
 rcases q.br with⟨rfl,q⟩|⟨rfl,q⟩
 ·exact⟨φ,α',τ,μ',sr.step st,m,q⟩
 ·exact q.ok (Stp.refl _ _) m
theorem z5K{r:List Expr}(ha:PT X a (rdT D W ft))(hb:PW X (.BoolOp .Or (b::r) pos) (rdT D W gt)):PW X (.BoolOp .Or (a::b::r) pos) (rdT D W (tOr ft gt)):=by
 intro whole pins s σ H Q I hq
 refine z4B ha hb whole pins s σ H Q I ?_
 obtain⟨φ,α,τ,μ,sr,mr,p⟩:=hq
 refine⟨φ,α,τ,μ,sr,mr,p.bind.mono λc μ' α' H' st m q=>?_⟩
 rcases q.br with⟨rfl,q⟩|⟨rfl,q⟩
 ·exact q.ok (Stp.refl _ _) m
 ·exact⟨φ,α',τ,μ',sr.step st,m,q⟩
theorem z4j(ha:PT X a (rdT D W ft)):PT X (.UnaryOp .Not a pos) (rdT D W (vE ft)):=by
 intro pins s σ H Q I hq
 refine z4h ha pins s σ H Q I ?_
 obtain⟨φ,α,τ,μ,sr,mr,p⟩:=hq
 exact⟨φ,α,τ,μ,sr,mr,p.bind.mono λc μ' α' H' st m q=>q.ok (Stp.refl _ _) m⟩
theorem z5o(hc:PT X c (rdT D W ft))(ha:PE X a (rdE D W f))(hb:PE X b (rdE D W g)):PE X (.IfExp c a b pos) (rdE D W (eIf ft f g)):=by
 rintro pins s σ H Q I ⟨φ,α,τ,μ,sr,mr,p⟩
 refine wpAny_IfExp (thn (z4y hc I sr mr p) ?_)
 rintro d s1 ⟨H1,μ1,α1,I1,st1,sr1,mr1,p1⟩
 rcases p1.br with⟨rfl,p1⟩|⟨rfl,p1⟩
 ·exact ha pins s1 σ H1 Q I1 ⟨φ,α1,τ,μ1,sr1,mr1,p1⟩
 ·exact hb pins s1 σ H1 Q I1 ⟨φ,α1,τ,μ1,sr1,mr1,p1⟩
noncomputable def zT:Expr->Bool
 |.Name _ _=>true
 |.Attribute _ _ _=>true
 |.Subscript _ _ _=>true
 |.Call (.Name x _) _ _ _=>x != ("super":Str)
 |.Call (.Attribute _ _ _) _ _ _=>true
 |_=>false
theorem Post.ex3{β δ1 δ2 δ3:Type}{R:β->Mem->List Addr->Hp->Prop}{P:δ1->δ2->Prop}{P2:δ1->δ2->δ3->Prop}{r:δ1->δ2->δ3->RE β}(p:Post D W φ α H σ R (λK Z=>∃x y z,P x y/\P2 x y z/\r x y z K Z)):∃x y z,P x y/\P2 x y z/\Post D W φ α H σ R (r x y z):=by
 obtain⟨K,Z,⟨x,y,z,h1,h2,q⟩,h⟩:=p
 exact⟨x,y,z,h1,h2,K,Z,q,h⟩
theorem Post.ex2{β δ1 δ2:Type}{R:β->Mem->List Addr->Hp->Prop}{P:δ1->Prop}{P2:δ1->δ2->Prop}{r:δ1->δ2->RE β}(p:Post D W φ α H σ R (λK Z=>∃x y,P x/\P2 x y/\r x y K Z)):∃x y,P x/\P2 x y/\Post D W φ α H σ R (r x y):=by
 obtain⟨K,Z,⟨x,y,h1,h2,q⟩,h⟩:=p
 exact⟨x,y,h1,h2,K,Z,q,h⟩
theorem vb{b:Expr}(h:qC b=true):z0d b:=by
 intro o i
 cases b<;>first|(simp[qC] at h;done)|rfl
theorem yC{D:DP}{ts:List T}{xs:List V}{i:Int}{t:T}(l:DenL D φ α H ts xs)(h:wG ts i=some t):∃v,atI xs i=some v/\Den D φ α H t v:=by
 unfold wG at h
 have e:ixN xs.length i=JV ts.length i:=by rw[l.length];rfl
 unfold atI
 rw[e]
 cases q:JV ts.length i with
 |none=>rw[q] at h;cases h
 |some j=>
  rw[q] at h
  exact l.get h
theorem z4S(hb':qC b=true)(hK:X.K=D.K)(ha:PE X a (rdE D W f))(hb:PE X b (rdE D W g)):PE X (.Subscript a b pos) (rdE D W (eIx f g)):=by
 rintro pins s σ H Q I ⟨φ,α,τ,μ,sr,mr,p⟩
 refine zcO (thn (sub ha I sr mr p) ?_)
 rintro u s1 ⟨v,H1,t,μ1,α1,I1,r1,st1,sr1,mr1,d1,p1⟩
 refine thn (sub hb I1 sr1 mr1 p1) ?_
 rintro u' s2 ⟨v',H2,t',μ2,α2,I2,r2,st2,sr2,mr2,d2,p2⟩
 have d1:=d1.step st2
 unfold z1c at p2
 split at p2
 ·cases d2
  split at p2
  ·obtain⟨w,hw,p2⟩:=p2.som
   obtain⟨ad,xs,rfl,_,_,r,l⟩:=d1
   obtain⟨z,hz,dz⟩:=yC l hw
   exact VG a b pins s2 σ H2 _ _ _ _ Q I2 r1 r2 ⟨ad,xs,_,z,rfl,rfl,.inl r,hz,p2.here mr2 dz⟩ (vb hb' _ _)
  ·obtain⟨w,hw,p2⟩:=p2.som
   obtain⟨ad,xs,rfl,_,_,r,l⟩:=d1
   obtain⟨z,hz,dz⟩:=yC l hw
   exact z3t a b pins s2 σ H2 _ _ _ _ Q I2 r1 r2 ⟨ad,xs,_,z,rfl,rfl,.inl r,hz,p2.here mr2 dz⟩ (vb hb' _ _)
  ·obtain⟨ts,w,hj,hw,p2⟩:=p2.ex2
   obtain⟨ad,hi',rfl⟩:=d1
   obtain⟨xs,e2,l⟩:=mr2.ob _ ad _ hi' hj
   obtain⟨z,hz,dz⟩:=yC l hw
   exact VG a b pins s2 σ H2 _ _ _ _ Q I2 r1 r2 ⟨ad,xs,_,z,rfl,rfl,.inl (.inl e2),hz,Post.here p2 mr2 dz⟩ (vb hb' _ _)
  ·obtain⟨hl,p2⟩:=p2.grd
   obtain⟨c,hc,p2⟩:=p2.som
   have d1:v=.str _:=d1
   subst d1
   exact z4e a b pins s2 σ H2 _ _ _ _ Q I2 r1 r2 ⟨_,_,c,rfl,rfl,zA hl,hc,p2.here mr2 rfl⟩ (vb hb' _ _)
  ·exact p2.elim
 ·exact p2.elim
noncomputable def noStar:Expr->Bool
 |.Starred _ _=>false
 |_=>true
theorem za{e:Expr}{es:List Expr}{env:Env}(h:noStar e=true):z7m (e::es) env=(false,eval e env)::z7m es env:=by
 cases e<;>first|(simp[noStar] at h;done)|rfl
theorem qt{es:List Expr}{env:Env}{pos:Pos}(h:es.all noStar=true):(z8I pos (z7m es env)).any (·.1)=false:=by
 induction es with
 |nil=>rfl
 |cons e es ih=>
  simp only[z7y,z6x] at h
  rw[za h.1]
  have:=ih h.2
  first
   |(simp[z8I] at this ⊢;exact this)
   |(simpa[z8I] using this)
theorem z4a:PA X [] (rdA D W 0 (evs [])):=by
 rintro pos pins s σ H Q I ⟨φ,α,τ,μ,sr,mr,p⟩
 exact qH pos pins s σ H Q I (Post.ok p (Stp.refl _ _) mr [] rfl rfl)
theorem z0G{e:Expr}{es:List Expr}{fs:List De}{n:Nat}(hs:noStar e=true)(ha:PE X e (rdE D W f))(hr:PA X es (rdA D W n (evs fs))):PA X (e::es) (rdA D W (n+1) (evs (f::fs))):=by
 intro pos pins s σ H Q I hq
 refine zI ha hr (za hs) pos pins s σ H Q I ?_
 obtain⟨φ,α,τ,μ,sr,mr,p⟩:=hq
 have p:Post D W φ α H σ _ ((f τ μ).bind λt μ1=>(evs fs τ μ1).bind λts μ2=>.ok (t::ts) μ2):=p
 refine⟨φ,α,τ,μ,sr,mr,p.bind.mono λt μ1 α1 H1 st m q v d=>?_⟩
 refine⟨φ,α1,τ,μ1,sr.step st,m,q.bind.mono λts μ2 α2 H2 st2 m2 q2 vs dl hn=>?_⟩
 exact q2.ok (Stp.refl _ _) m2 _ ⟨v,vs,rfl,d.step st2,dl⟩ (by simp[hn])
noncomputable def EsOk (X:Cx)(D:DP)(W:XW):List Expr->List De->Prop
 |[],[]=>True
 |e::es,f::fs=>noStar e=true/\PE X e (rdE D W f)/\EsOk X D W es fs
 |_,_=>False
theorem wK:∀{es:List Expr} {fs:List De},EsOk X D W es fs->PA X es (rdA D W es.length (evs fs))
 |[],[],_=>z4a
 |e::es,f::fs,h=>z0G h.1 h.2.1 (wK h.2.2)
 |[],_::_,h=>h.elim
 |_::_,[],h=>h.elim
theorem EsOk.stars:∀{es:List Expr} {fs:List De},EsOk X D W es fs->es.all noStar=true
 |[],[],_=>rfl
 |e::es,f::fs,h=>by simp[h.1,EsOk.stars h.2.2]
 |[],_::_,h=>h.elim
 |_::_,[],h=>h.elim
theorem z1E{es:List Expr}{fs:List De}(hl:es.length<=room)(h:EsOk X D W es fs):PE X (.List es pos) (rdE D W (jI fs)):=by
 refine PE.mono (X3 (wK h)) ?_
 rintro σ H Q ⟨φ,α,τ,μ,sr,mr,p⟩
 refine⟨φ,α,τ,μ,sr,mr,p.bind.mono λts μ1 α1 H1 st m q vs dl hn=>⟨by rw[hn];exact zA hl,λz hz=>?_⟩⟩
 exact q.fresh m (zk hz) ⟨z,vs,rfl,zt m hz,zu m hz,.inl z6,dl.step (Stp.new (zk hz))⟩
theorem Xx{es:List Expr}{fs:List De}{kk:Nat}(hl:es.length<=room)(h:EsOk X D W es fs):PE X (.Tuple es kk pos) (rdE D W (qZ fs)):=by
 refine PE.mono (Xj (wK h)) ?_
 rintro σ H Q ⟨φ,α,τ,μ,sr,mr,p⟩
 refine⟨φ,α,τ,μ,sr,mr,p.bind.mono λts μ1 α1 H1 st m q vs dl hn=>⟨by rw[hn];exact zA hl,λz hz=>?_⟩⟩
 exact q.fresh m (zk hz) ⟨z,vs,rfl,zt m hz,zu m hz,.inl z6,dl.step (Stp.new (zk hz))⟩
end
section
open PySem.W
theorem Zd{prog:z7a}{w:z7o}{A:z7b}{E:Value->z6z->Prop}{s:z6z}{K:Frag}{x D:Addr}{ox:Obj}{od:Option Obj}{Q:Option Value->z6z->Prop}(X:K.In s.heap)(I:InstAt s.heap x ox D od)
 (hga:z70 K (.ref D) "__getattribute__"=some (some (.builtin "BaseException.__getattribute__"))) (hk:z70 K (.ref D) "__getattr__"=some none)
 (hf:zdA K D od "__class__"=some (.bind (.builtin "getset_descriptor.__get__") (.builtin "object.__class__"))) (hm:z8z K D (.type "object")=some true) (hb:z8z K D (.type "BaseException")=some true)
 (h:Q (some (.ref D)) {s with toks:=s.toks+1}):z6I (z6L prog w) A (getAttr? (.ref x) "__class__") Q E s:=by
 obtain⟨hh,g,d,t,os⟩:=s
 have L0:=I.type (M:=z6L prog w)
 have L1:=zaA (M:=z6L prog w) X hga
 have L2:=zaA (M:=z6L prog w) X hk
 have L3:=looks_find (M:=z6L prog w) X I hf
 have L4:=looks_mroIn (M:=z6L prog w) X hb
 have f3:=z8p.ga.bind (.ref x)
 unfold getAttr? getAttrBy? getAttrBy
 refine z6w (wpAny_mkText (z6w (zaa (z77 (z6w (L0.at (z6w (L1.at ?_))))))))
 show z6I _ _ (z9x (.ref x) _ (.ref D) (.builtin "BaseException.__getattribute__") false false) _ _ _
 unfold z9x hookBefore
 refine z6w ?_
 show z6I _ _ (zax (.ref D) "__getattr__") _ _ _
 refine L2.at ?_
 refine z6w (zaa (z77 ?_))
 unfold zcg boundAndCalled
 show z6I _ _ (zcn (.builtin "BaseException.__getattribute__") (.ref x) >>= _) _ _ _
 rw[f3]
 refine z6w (z6F ?_)
 show z6I _ _ (call (.builtin "BaseException.__getattribute__") [.ref x,.str "__class__" _]) _ _ _
 refine z8h (z8N z8p.ga.plain zaS ?_)
 have hkd:builtinKind "BaseException.__getattribute__"=some .slot:=by decide +kernel
 have hsp:splitId "BaseException.__getattribute__"=some ("BaseException","__getattribute__"):=by decide +kernel
 have ha:=zb0 (.ref x) (.str "__class__" t)
 have LI:zbl (z6L prog w) hh (zbz (.ref x) (.type "BaseException")) true:=L0.andThen L4
 simp only[zch,hkd,hsp]
 refine z6w (LI.at ?_)
 simp only[zdp,z9U,if_false]
 refine z99 (a:=()) ha ?_
 unfold zcC.«object.__getattribute__»
 refine z6w (m:=slotArgs _ _ _) (z6F ?_)
 dsimp only
 refine z6w ?_
 show z6I _ _ (z7U (.str "__class__" t)) _ _ _
 first
  |exact z6F (z6w (L0.at (z6w (L3.at ?_))))
  |(refine z6F (z6w (L0.at (z6w (L3.at ?_)))))
  |(unfold z7U;refine z6F (z6w (L0.at (z6w (L3.at ?_)))))
 dsimp only
 unfold zda
 show z6I _ _ (zcA [zdq "object.__class__"] (call (.builtin "getset_descriptor.__get__") [.builtin "object.__class__",.ref x,.ref D]) >>= ret) _ _ _
 refine z6w (z77 (z8h (class_get (s:=⟨hh,g,d,t+1,os⟩) X I hm ?_)))
 refine z6F ?_
 exact handed_on rfl (z6F h)
theorem XCls.fo{K:Frag}{C:Addr}(h:XCls K C)(od:Option Obj):zdA K C od "__class__"=some (.bind (.builtin "getset_descriptor.__get__") (.builtin "object.__class__")):=by
 have hc:=h.cl
 obtain⟨cd,e⟩:=z8V.mp hc
 unfold zdA
 rw[e,h.fi]
 simp only[z9n]
 rw[h.sp]
 simp only[z9n]
 rw[h.tk]
 rfl
noncomputable def XcP (x C:Addr)(d:Option Addr)(h:Heap):Prop:=XcAt x C d h/\∀dx,d=some dx->∃o,h.get? dx=some o
theorem XR{K:Frag}{x C:Addr}{d:Option Addr}(hC:XCls K C):KitX K (.ref x) (.ref C) (XcP x C d) where
 ty:=λM h _ p=>by
  obtain⟨⟨oe,vs,h1,h2,h3,h4⟩,_⟩:=p
  exact h2▸(zd_ h1).andThen .now
 it:=λM h X _=>by
  have hcD:=hC.cl
  unfold z9p at hcD
  split at hcD
  ·rename_i c' d' cd' sl' ho
   intro A' Q' E' s' k q
   unfold isType loadHead
   exact z6w (zaW (k _ _ (X _ _ ho)) (z6F q))
  ·cases hcD
 ne:=λh tp dd its n sl X htp=>by
  refine zbV.mpr λq=>?_
  have e:C=tp:=Value.ref.inj (beq_iff_eq.mp q)
  subst e
  have hcD:=hC.cl
  unfold z9p at hcD
  split at hcD
  ·rename_i c' d' cd' sl' ho
   have z:=(X _ _ ho).symm.trans htp
   cases z
  ·cases hcD
 ca:=λX p k=>by
  obtain⟨⟨oe,vs,h1,h2,h3,h4⟩,h5⟩:=p
  cases d with
  |none=>
   refine Zd (ox:=oe) (od:=none) X ⟨h1,h2,?_,?_⟩ hC.ga hC.hk (hC.fo _) hC.ob hC.bx k
   ·unfold zcZ;rw[h3]
   ·rw[h4];trivial
  |some dx=>
   obtain⟨o,ho⟩:=h5 dx rfl
   refine Zd (ox:=oe) (od:=some o) X ⟨h1,h2,?_,?_⟩ hC.ga hC.hk (hC.fo _) hC.ob hC.bx k
   ·unfold zcZ;rw[h3]
   ·rw[h4];exact ho
end
section
variable {X:Cx}{D:DP}{W:XW}{Γ:Cn}{k:Nat}{pins:List (Addr×Obj)}{s:Shared}{σ:St}{H:Hp}{φ α:List Addr}{τ:Sl}{μ:Mem}{f g h:De}{a b c:Expr}{pos:Pos}{es:List Expr}{fs:List De}
theorem qD{e:Expr}{f:Str}{env:Env}(h:zT e=true):z8U e f env (eval e env)=eval e env:=by
 cases e with
 |Call g args kws p=>
  cases g with
  |Name x p0=>
   have hx:(x != ("super":Str))=true:=h
   cases args<;>cases kws<;>first|rfl|(unfold z8U;simp[hx])
  |Attribute _ _ _=>rfl
  |_=>exact absurd (show false=true from h) z6_
 |_=>first|exact absurd (show false=true from h) z6_|rfl
theorem XDict.ext{D:DP}{fs:List (Nat×T)}{d:Option Addr}(x:XDict D φ α H fs d)(I:Inv X pins σ H s):∀dx,d=some dx->∃o,s.heap.get? dx=some o:=λdx e=>by
 subst e
 obtain⟨gs,_,_,e,_⟩:=x
 exact Zp (I.hok dx _ e)
noncomputable def rdO (D:DP)(W:XW)(f:Dp):TO:=λσ H Q=>RdP D H σ λφ α τ μ=>Post D W φ α H σ (λo _ _ H'=>Q o H') (f τ μ)
theorem z11:PO X none (rdO D W pN):=by
 rintro pins s σ H Q I ⟨φ,α,τ,μ,sr,mr,p⟩
 exact z0A pins s σ H Q I (Post.ok p (Stp.refl _ _) mr)
theorem UQ(h:PE X a (rdE D W f)):PO X (some a) (rdO D W (pS f)):=by
 rintro pins s σ H Q I ⟨φ,α,τ,μ,sr,mr,p⟩
 refine Uq h pins s σ H Q I ⟨φ,α,τ,μ,sr,mr,p.bind.mono λt μ' α' H' st m q v d=>?_⟩
 split at q
 ·cases d
  exact⟨_,rfl,q.ok (Stp.refl _ _) m⟩
 ·exact q.elim
theorem jN{ts:List T}{xs:List V}(l:DenL D φ α H ts xs)(lo hi:Option Int):DenL D φ α H (xy ts lo hi) (uF xs lo hi):=by
 have e:ts.length=xs.length:=l.length
 have e1:∀n d o,WH n d o=HT.sIx n d o:=λn d o=>by cases o<;>rfl
 unfold xy uF
 rw[e1,e1,e]
 exact (l.drop _).take _
theorem kz{prog:z7a}{w:z7o}{A:z7b}{E:Value->z6z->Prop}{s:z6z}{t sl:Addr}{items:Array Value}{vl vu:Value}{lo hi:Option Int}{Q:Value->z6z->Prop}(ht:zcH s.heap t items)(hs:s.heap.IsSliceOf sl vl vu .none)(pl:zav vl lo)(pu:zav vu hi)
  (hw:HT.sIx items.size 0 lo=0/\HT.sIx items.size items.size hi=items.size) (h:Q (.ref t) s):z6I (z6L prog w) A (z9o (.ref t) (.ref sl)) Q E s:=by
 obtain⟨os,hos,hcs,hds⟩:=id hs
 have hTs:s.TypeIs (.ref sl) "slice":=⟨os,hos,hcs⟩
 unfold z9o
 try with_reducible refine z77 ?_
 first|refine z6w (z6F ?_)|skip
 refine z6w (zbR ht.typeIs (by decide) ?_)
 refine z6w (zal (name:=z8R "__getitem__") ht.typeIs z7G (zcc z7G ht.typeIs zbb ?_ (zbv _ _)))
 show z6I _ _ (z9P (.ref t) >>= _) _ _ s
 refine z6w (tupleItemsOf_ ht ?_)
 refine z6w (zaw hTs ?_)
 rw[if_pos (by decide)]
 refine z6w (HT.sliceApplied_gen hs pl pu ?_)
 show z6I _ _ (if (((HT.sIx items.size 0 lo:Nat):Int) == 0&&(1:Int) == 1&&(HT.sIx items.size items.size hi-HT.sIx items.size 0 lo) == items.size)=true then _ else _) _ _ s
 rw[if_pos (by rw[hw.1,hw.2];simp)]
 refine z6w ?_
 unfold zcU
 refine z6w (zaw ht.typeIs (z6F ?_))
 rw[if_pos (by decide)]
 first
  |exact z6w (zcV (z6F ⟨_,rfl,z6F h⟩))
  |exact z6w (zcV (z6w (z6F (z6F ⟨_,rfl,z6F h⟩))))
theorem z0W:SlR X (λx lo hi H Q=>∃a xs,x=.ref a/\SqT X.K H a xs/\(HT.sIx xs.length 0 lo=0/\HT.sIx xs.length xs.length hi=xs.length)/\Q (.ref a) H):=by
 intro pins s σ H x v vl vu lo hi sl Q I rx hs pl pu h
 obtain⟨a,xs,rfl,hx,hw,q⟩:=h
 cases rx
 obtain⟨its,r,ht,hz⟩:=I.tuple hx
 have hlen:its.toArray.size=xs.length:=by rw[z6V];exact r.length.symm
 exact⟨"tuple",_,z7G.lookup,ht.typeIs,kz ht hs pl pu (by rw[hlen];exact hw) ⟨.ref a,H,I,rfl,q⟩⟩
theorem z2d:SlR X (λx lo hi H Q=>∃z,x=.str z/\z.length<=sizeLine/\Q (.str (Txt.slice z lo hi)) H):=by
 intro pins s σ H x v vl vu lo hi sl Q I rx hs pl pu h
 obtain⟨z,rfl,hz,q⟩:=h
 obtain⟨t0,rfl⟩:=rx
 refine⟨"str",_,F.slot_str_getitem.lookup,zcP _ _ _,?_⟩
 obtain⟨o,h1,h2,h3⟩:=hs
 have fin:∀(l u:Option (Int×Tok)),vl=partValue l->vu=partValue u->lo=l.map (·.1)->hi=u.map (·.1)->z6I (z6L X.prog X.w) X.A (z9o (.str z t0) (.ref sl)) (EP X pins σ Q) X.xe s:=by
  rintro l u rfl rfl rfl rfl
  exact wpAny_getItem_str_slice (l:=l) (u:=u) (st:=none) ⟨o,h1,h2,h3⟩ rfl (post_val_or_str ⟨z6X (Txt.slice_le z _ _) hz,λt' k=>⟨.str _,H,I.tok _,⟨t',rfl⟩,q⟩⟩)
 cases pl with
 |none=>
  cases pu with
  |none=>exact fin none none rfl rfl rfl rfl
  |int j u=>exact fin none (some (j,u)) rfl rfl rfl rfl
 |int i t=>
  cases pu with
  |none=>exact fin (some (i,t)) none rfl rfl rfl rfl
  |int j u=>exact fin (some (i,t)) (some (j,u)) rfl rfl rfl rfl
theorem Y0{lo hi:Option Expr}{fo go:Dp}{p2:Pos}(ha:PE X a (rdE D W f))(hl:PO X lo (rdO D W fo))(hu:PO X hi (rdO D W go)):PE X (.Subscript a (.Slice lo hi none p2) pos) (rdE D W (eSl f fo go)):=by
 refine PE.mono (U5 (UJ.or (z3D.or (z0W.or z2d))) ha hl hu) ?_
 rintro σ H Q ⟨φ,α,τ,μ,sr,mr,p⟩
 refine⟨φ,α,τ,μ,sr,mr,p.bind.mono λt μ1 α1 H1 st m q v d=>?_⟩
 refine⟨φ,α1,τ,μ1,sr.step st,m,q.bind.mono λl μ2 α2 H2 st2 m2 q2=>?_⟩
 refine⟨φ,α2,τ,μ2,(sr.step st).step st2,m2,q2.bind.mono λu μ3 α3 H3 st3 m3 q3=>?_⟩
 unfold z5w at q3
 split at q3
 ·obtain⟨ad,xs,rfl,_,_,r,dl⟩:=(d.step st2).step st3
  refine .inl ⟨ad,xs,rfl,.inl r,λz hz=>?_⟩
  exact q3.fresh m3 (zk hz) ⟨z,_,rfl,zt m3 hz,zu m3 hz,.inl z6,jN (dl.step (Stp.new (zk hz))) _ _⟩
 ·obtain⟨ad,xs,rfl,n1,n2,r,dl⟩:=(d.step st2).step st3
  by_cases hw:HT.sIx xs.length 0 l=0/\HT.sIx xs.length xs.length u=xs.length
  ·refine .inr (.inr (.inl ⟨ad,xs,rfl,.inl r,hw,?_⟩))
   have e:uF xs l u=xs:=by unfold uF;rw[hw.1,hw.2];simp
   have dd:=jN dl l u
   rw[e] at dd
   exact q3.here m3 ⟨ad,xs,rfl,n1,n2,r,dd⟩
  ·refine .inr (.inl ⟨ad,xs,rfl,.inl r,hw,λz hz=>?_⟩)
   exact q3.fresh m3 (zk hz) ⟨z,_,rfl,zt m3 hz,zu m3 hz,.inl z6,jN (dl.step (Stp.new (zk hz))) _ _⟩
 ·obtain⟨hz,q3⟩:=q3.grd
  have d:v=.str _:=d
  subst d
  exact .inr (.inr (.inr ⟨_,rfl,zA hz,q3.here m3 rfl⟩))
 ·obtain⟨ts,hj,q3⟩:=q3.ex1
  obtain⟨ad,hi',rfl⟩:=(d.step st2).step st3
  obtain⟨xs,e2,dl⟩:=m3.ob _ ad _ hi' hj
  refine .inl ⟨ad,xs,rfl,.inl (.inl e2),λz hz=>?_⟩
  exact Post.fresh q3 m3 (zk hz) ⟨z,_,rfl,zt m3 hz,zu m3 hz,.inl z6,jN (dl.step (Stp.new (zk hz))) _ _⟩
 ·exact q3.elim
theorem xS{g:Fn}{fa:Addr}{fd:z7T}{ps:List Str}{kk:Nat}{us:List Value}{vs:List V}{ts:List T}{Q:VK}(C:Ck D W Γ X k)(F:FnOk X.prog X.w X.K X.mg X.base (CX1 X.prog X.w) kk fa fd ps (spN D ps.length g))
  (hr:Room kk X.A) (hb:Binds X.K fd ps []) (har:∀ts μ K Z,g ts μ K Z->ts.length=ps.length) (I:Inv X pins σ H s) (r:Vals vs us) (mr:MRel D φ α H μ) (d:DenL D φ α H ts vs) (p:Post D W φ α H σ (RV D φ Q) (g ts μ)) :
  z6I (z6L X.prog X.w) X.A (call (.ref fa) us) (EP X pins σ Q) X.xe s:=by
 obtain⟨K,Z,q,hq,hz⟩:=p
 have hl:ts.length=ps.length:=har ts μ K Z q
 have sp:spN D ps.length g vs H Q (λc d H'=>W c d σ H'):=⟨by rw[←d.length];exact hl,φ,α,ts,μ,d,mr,K,Z,q,hq,hz⟩
 have hl2:us.length=ps.length:=by rw[←r.length,←d.length];exact hl
 refine z8h (z8a (F.run X.A X.stack s H ⟨us,[]⟩ us vs Q (λc d H'=>W c d σ H') hr I.env0 (by simpa using hb s us I.kIn (by simpa using hl2)) r sp) λr s' hq=>?_)
 cases r with
 |error e=>exact C.xe e s' (xQ (E:=λc d H'=>W c d σ H') I hq λcls d H' w=>w)
 |ok fl=>
  cases fl with
  |ret u=>exact I.after hq
  |next=>exact z7c hq
  |brk=>exact z7c hq
  |cont=>exact z7c hq
theorem z0o(C:Ck D W Γ X k){x:Str}{g:Fn}{p0:Pos}(hx:x∈Γ.G)(hg:Γ.gl x=.fn g)(hc:Γ.calm=true)(ha:EsOk X D W es fs):PE X (.Call (.Name x p0) es [] pos) (rdE D W (zb g fs)):=by
 have q:=C.glo x hx
 rw[hg] at q
 obtain⟨fa,hm,fd,ps,kk,hk,hb,hkk,Fn,har⟩:=q
 have hr:=(C.rom hc).mono hkk
 have hs:=ha.stars
 have pa:=wK ha
 rintro pins s σ H Q I ⟨φ,α,τ,μ,sr,mr,p⟩
 refine z7I (qV I (C.glb x hx) hm ?_ (C.dbG x hx))
 cases es with
 |nil=>
  cases fs with
  |nil=>exact z8T I.kIn hk (xS (ts:=[]) C Fn hr hb har I .nil mr rfl p)
  |cons f fs=>exact ha.elim
 |cons e es=>
  simp only[z7y,z6x] at hs
  refine z82 (h₀:=X.base) I.ok.mod.kin hk (thn (Y5 pa I sr mr p) ?_) (za hs.1) (qt hs.2)
  rintro us s1 ⟨vs,H1,ts,μ1,α1,I1,r1,st1,sr1,mr1,d1,_,p1⟩
  exact⟨I1.kIn,xS C Fn hr hb har I1 r1 mr1 d1 p1⟩
theorem run_mk{c:Nat}{g:Fn}{C0 fI:Addr}{fd:z7T}{ps:List Str}{kk:Nat}{us:List Value}{vs:List V}{ts:List T}{Q:VK}(C:Ck D W Γ X k)(ad:D.cad c=some C0)(M:Mk X.K C0 fI)(F:FnOk X.prog X.w X.K X.mg X.base (CX1 X.prog X.w) kk fI fd ps (spN D ps.length g))
  (hr:Room (kk+1) X.A) (hb:Binds X.K fd ps []) (har:∀ts μ K Z,g ts μ K Z->ts.length=ps.length) (I:Inv X pins σ H s) (r:Vals vs us) (mr:MRel D φ α H μ) (d:DenL D φ α H ts vs) (p:Post D W φ α H σ (RV D φ Q) (QD c g ts μ)) :
  z6I (z6L X.prog X.w) X.A (call (.ref C0) us) (EP X pins σ Q) X.xe s:=by
 obtain⟨K,Z,⟨hp,hg⟩,hk,hz⟩:=p
 have hl:(T.mut 0::ts).length=ps.length:=har _ _ _ _ hg
 have hq:∀x dx,H x=none->H dx=none->dx≠x->spN D ps.length g (.ref x::(vs++[])) (upd (upd H dx (.own x)) x (.ins C0 dx [])) (λv H2=>v=.non/\Q (.ref x) H2) (λc d H'=>W c d σ H'):=by
  intro x dx hx hdx hne
  have sm:vz H (upd (upd H dx (.own x)) x (.ins C0 dx [])):=λb o e=>by rw[z7 (zJ e hx),z7 (zJ e hdx)];exact e
  have st0:Stp [] H [x] (upd (upd H dx (.own x)) x (.ins C0 dx [])):=⟨⟨[x],rfl,λb hb'=>by rw[z6J.mp hb'];exact hx⟩,λb o _ e=>sm b o e,λb e=>by
   cases q:H b with
   |none=>rfl
   |some o=>rw[sm b o q] at e;cases e⟩
  have nx:x∉φ++α:=λz=>(z6K.mp z).elim (zt mr hx) (zu mr hx)
  have ph:∀b∈φ++α,∃o,H b=some o/\noF o=true:=λb hb'=>(z6K.mp hb').elim (mr.phi b) λz=>by
   obtain⟨i,hi⟩:=z83.mp z
   have hl':i<μ.length:=by rw[←mr.len];exact (z6v.mp hi).1
   exact (mr.ob i b μ[i] hi (by simp[hl'])).some
  refine⟨by simp only[z6Y,z74] at hl ⊢;rw[←d.length];exact hl,φ++α,[x],.mut 0::ts,[.obj c []],⟨.ref x,vs++[],rfl,⟨x,rfl,rfl⟩,by rw[z74];exact (DenL.hide hp d z0J).step st0⟩,⟨rfl,by simp,λb hb'=>by rw[z6J.mp hb'];exact nx,λb hb'=>let ⟨o,e,n⟩:=ph b hb';⟨o,sm b o e,n⟩,λi a o e1 e2=>?_⟩,?_⟩
  ·cases i with
   |zero=>simp at e1 e2;subst e1 e2;exact⟨C0,dx,[],ad,z6,rfl⟩
   |succ i=>simp at e1
  have back:∀{α2:List Addr} {H3:Hp},Stp [x] (upd (upd H dx (.own x)) x (.ins C0 dx [])) α2 H3->vz H H3:=λst b o e=>st.keep b o (λz=>by rw[z6J.mp z,hx] at e;cases e) (sm b o e)
  refine⟨_,_,hg,?_,?_⟩
  ·rintro t μ2 ⟨rfl,fs,h0,hpf,q⟩ α2 H3 st m v dv
   refine⟨dv,?_⟩
   obtain⟨β,rfl,_⟩:=st.ext
   obtain⟨C1,dx1,gs,ad1,e1,lf⟩:=m.ob 0 x _ rfl h0
   have sm3:=back st
   exact hk _ _ q α H3 (Stp.new sm3) (mr.new sm3) _ ⟨x,C1,dx1,gs,rfl,zt mr hx,zu mr hx,ad1,e1,DenF.hide hpf lf W5⟩
  ·rintro e fs μ2 ⟨hpf,q⟩ α2 H3 C1 d1 st m had xd
   have sm3:=back st
   exact hz _ _ _ q α H3 C1 d1 (Stp.new sm3) (mr.new sm3) had (XDict.hide hpf xd W5)
 have hq1:=hq (s.heap.objs.size+1) s.heap.objs.size (I.hok.fresh (z9t _)) (I.hok.fresh (z6E _)) (z73 (z7Z _))
 have I2:=Inv.made (C:=C0) I
 have r2:Vals (V.ref (s.heap.objs.size+1)::(vs++[])) (z6W (s.heap.objs.size+1)::us):=.cons rfl (by rw[z74];exact r)
 have hlu:(z6W (s.heap.objs.size+1)::us++[]).length=ps.length:=by
  rw[z74,z6Y,←r.length,←d.length]
  exact hl
 refine z8h (uh (f:=fI) I.kIn M.makes M.init (beq_iff_eq.mp M.fn) (z8a (F.run _ X.stack _ _ ⟨z6W (s.heap.objs.size+1)::us,[]⟩ (z6W (s.heap.objs.size+1)::us) _ _ (λc d H'=>W c d σ H') (hr.make C0 us [])
  (I2.env0.make C0 us []) (by simpa using hb _ (z6W (s.heap.objs.size+1)::us) I2.kIn hlu) r2 hq1) λr s' hq'=>?_))
 cases r with
 |error e=>exact C.xe e s' (xQ (E:=λc d H'=>W c d σ H') I2 hq' λcls d H' w=>w)
 |ok fl=>
  cases fl with
  |ret u=>
   obtain⟨v,H',I3,rv,ev,q3⟩:=I2.after hq'
   subst ev
   exact⟨rv,⟨V.ref (s.heap.objs.size+1),H',I3,rfl,q3⟩⟩
  |next=>exact z7c hq'
  |brk=>exact z7c hq'
  |cont=>exact z7c hq'
theorem z0H(C:Ck D W Γ X k){x:Str}{c:Nat}{g:Fn}{p0:Pos}(hx:x∈Γ.G)(hg:Γ.gl x=.mk c true g)(hc:Γ.calm=true)(ha:EsOk X D W es fs):PE X (.Call (.Name x p0) es [] pos) (rdE D W (eMk c g fs)):=by
 have q:=C.glo x hx
 rw[hg] at q
 obtain⟨C0,fI,fd,ps,kk,ad,hm,M,hb,hkk,Fn,har⟩:=q
 have hr:=(C.rom hc).mono hkk
 have hs:=ha.stars
 have pa:=wK ha
 rintro pins s σ H Q I ⟨φ,α,τ,μ,sr,mr,p⟩
 refine z7I (qV I (C.glb x hx) hm ?_ (C.dbG x hx))
 cases es with
 |nil=>
  cases fs with
  |nil=>exact z8T I.kIn M.kp (run_mk (ts:=[]) C ad M Fn hr hb har I .nil mr rfl p)
  |cons f fs=>exact ha.elim
 |cons e es=>
  simp only[z7y,z6x] at hs
  refine z82 (h₀:=X.base) I.ok.mod.kin M.kp (thn (Y5 pa I sr mr p) ?_) (za hs.1) (qt hs.2)
  rintro us s1 ⟨vs,H1,ts,μ1,α1,I1,r1,st1,sr1,mr1,d1,_,p1⟩
  exact⟨I1.kIn,run_mk C ad M Fn hr hb har I1 r1 mr1 d1 p1⟩
theorem z1Z(C:Ck D W Γ X k){x:Str}{n:Nat}(hp:zT a=true)(hn:(x,n)∈Γ.fld)(ha:PE X a (rdE D W f)):PE X (.Attribute a x pos) (rdE D W (zi f n)):=by
 refine PE.mono (z1Q ha (qD hp)) ?_
 rintro σ H Q ⟨φ,α,τ,μ,sr,mr,p⟩
 refine⟨φ,α,τ,μ,sr,mr,p.bind.mono λt μ1 α1 H1 st m q v d=>?_⟩
 unfold ya at q
 split at q
 ·split at q
  ·rename_i c fs _ w hw
   obtain⟨ad,C0,dx,gs,rfl,_,_,e1,e2,l⟩:=d
   obtain⟨y,z,hy,hz,dz⟩:=l.look hw
   obtain⟨c0,c1,c2⟩:=C.fld c C0 x n e1 hn
   rw[hy] at c0;cases c0
   exact⟨ad,C0,dx,gs,z,rfl,e2,c1,c2,hz,q.here m dz⟩
  ·exact q.elim
 ·obtain⟨c,fs,w,hi,hw,q⟩:=q.ex3
  obtain⟨ad,hi',rfl⟩:=d
  obtain⟨C0,dx,gs,e1,e2,l⟩:=m.ob _ ad _ hi' hi
  obtain⟨y,z,hy,hz,dz⟩:=l.look hw
  obtain⟨c0,c1,c2⟩:=C.fld c C0 x n e1 hn
  rw[hy] at c0;cases c0
  exact⟨ad,C0,dx,gs,z,rfl,e2,c1,c2,hz,Post.here q m dz⟩
 ·exact q.elim
end
section
variable {X:Cx}{D:DP}{W:XW}{Γ:Cn}{k:Nat}{pins:List (Addr×Obj)}{s:Shared}{σ:St}{H:Hp}{φ α:List Addr}{τ:Sl}{μ:Mem}{f g h:De}{a b c:Expr}{pos:Pos}{es:List Expr}
theorem Jd{B:Prop}(C:Ck D W Γ X k){c:Nat}{C0 dx ad:Addr}{gs:List (Str×V)}(I:Inv X pins σ H s)(e1:D.cad c=some C0)(ea:H ad=some (.ins C0 dx gs))
  (hh:∀tv P,QU D c tv->zaB X.K (.ref ad) tv P->P s.heap->(z6W ad)≠.builtin "__main__.__loader__#opaque"->B):B:=by
 have o:=C.ocx c C0 e1
 obtain⟨mA,O,_⟩:=k6 I.hok ea
 obtain⟨od,J,_⟩:=O.look
 exact hh _ _ (.inr (.inr (.inr (.inr (.inr (.inr (.inr (.inr ⟨C0,e1,rfl⟩)))))))) (PySem.W.kitx_own (o.cl.get _) o.cl.hd o.fi o.sp o.tk o.ob) J (λz=>nomatch z)
theorem z3I{B:Prop}(C:Ck D W Γ X k){t:T}{v:V}{u:Value}{n:Nat}(I:Inv X pins σ H s)(d:Den D φ α H t v)(r:RelV v u)(ht:tyN t μ=some n)
  (hh:∀tv P,QU D n tv->zaB X.K u tv P->P s.heap->u≠.builtin "__main__.__loader__#opaque"->B):B:=by
 cases t with
 |non=>cases d;cases r;cases ht;exact hh _ _ (.inl ⟨rfl,rfl⟩) PySem.W.kitx_none z7r (λz=>nomatch z)
 |bl b=>cases d;cases r;cases ht;exact hh _ _ (.inr (.inl ⟨rfl,rfl⟩)) PySem.W.kitx_bool z7r (λz=>nomatch z)
 |int i=>cases d;obtain⟨t,rfl⟩:=r;cases ht;exact hh _ _ (.inr (.inr (.inl ⟨rfl,rfl⟩))) PySem.W.kitx_int z7r (λz=>nomatch z)
 |str i=>cases d;obtain⟨t,rfl⟩:=r;cases ht;exact hh _ _ (.inr (.inr (.inr (.inl ⟨rfl,rfl⟩)))) PySem.W.kitx_str z7r (λz=>nomatch z)
 |tup ts=>
  obtain⟨ad,xs,rfl,_,_,q,_⟩:=d;cases r;cases ht
  obtain⟨its,_,⟨o,h1,h2,_⟩,_⟩:=I.tuple (.inl q)
  exact hh _ _ (.inr (.inr (.inr (.inr (.inl ⟨rfl,rfl⟩))))) PySem.W.kitx_tuple ⟨o,h1,h2⟩ (λz=>nomatch z)
 |lst ts=>
  obtain⟨ad,xs,rfl,_,_,q,_⟩:=d;cases r;cases ht
  obtain⟨its,_,p,_⟩:=I.list (.inl q)
  obtain⟨o,h1,h2,_⟩:=p.isList
  exact hh _ _ (.inr (.inr (.inr (.inr (.inr (.inl ⟨rfl,rfl⟩)))))) zbW ⟨o,h1,h2⟩ (λz=>nomatch z)
 |exc c fs=>
  obtain⟨ad,C0,dd,rfl,_,_,e1,e2,xd⟩:=d;cases r;cases ht
  have hx:=C.xcx n C0 e1
  obtain⟨p,_⟩:=(show ObjOk X.prog X.w H s.heap ad (.ext (XcAt ad C0 dd)) from I.hok ad _ e2)
  have xd:XDict D φ α H fs dd:=by cases dd<;>exact xd
  exact hh _ _ (.inr (.inr (.inr (.inr (.inr (.inr (.inl ⟨C0,e1,rfl⟩))))))) (XR hx) ⟨p,xd.ext I⟩ (λz=>nomatch z)
 |dic kvs=>
  obtain⟨ad,gs,rfl,_,_,e,_⟩:=d;cases r;cases ht
  obtain⟨_,_,vs,_,dd⟩:=(show ObjOk X.prog X.w H s.heap ad (.dK gs) from I.hok ad _ e)
  exact hh _ _ (.inr (.inr (.inr (.inr (.inr (.inr (.inr (.inl ⟨rfl,rfl⟩)))))))) zbX dd.typeIs (λz=>nomatch z)
 |obj c fs=>
  obtain⟨ad,C0,dx,gs,rfl,_,_,e1,e2,l⟩:=d;cases r;cases ht
  exact Jd C I e1 e2 hh
 | «mut» i=>cases ht
 |clo j cs=>cases ht
theorem z09{B:Prop}(C:Ck D W Γ X k){i:Nat}{v:V}{u:Value}{o:MO}(I:Inv X pins σ H s)(mr:MRel D φ α H μ)(d:Den D φ α H (.mut i) v)(r:RelV v u)(ht:μ[i]?=some o)(hnt:z1i o=false)
  (hh:∀tv P,QU D (tyO o) tv->zaB X.K u tv P->P s.heap->u≠.builtin "__main__.__loader__#opaque"->B):B:=by
 obtain⟨ad,hi,rfl⟩:=d
 cases r
 have dd:=mr.ob i ad o hi ht
 cases o with
 |lst ts=>
  obtain⟨xs,q,_⟩:=dd
  obtain⟨its,_,p,_⟩:=I.list (.inl (.inl q))
  obtain⟨o,h1,h2,_⟩:=p.isList
  exact hh _ _ (.inr (.inr (.inr (.inr (.inr (.inl ⟨rfl,rfl⟩)))))) zbW ⟨o,h1,h2⟩ (λz=>nomatch z)
 |obj c fs=>
  obtain⟨C0,dx,gs,e1,e2,l⟩:=dd
  exact Jd C I e1 e2 hh
 |dic kvs=>
  obtain⟨gs,e,_⟩:=dd
  obtain⟨_,_,vs,_,dd⟩:=(show ObjOk X.prog X.w H s.heap ad (.dK gs) from I.hok ad _ e)
  exact hh _ _ (.inr (.inr (.inr (.inr (.inr (.inr (.inr (.inl ⟨rfl,rfl⟩)))))))) zbX dd.typeIs (λz=>nomatch z)
 |tab j=>cases hnt
theorem VT{B:Prop}(C:Ck D W Γ X k){t:T}{v:V}{u:Value}{cs:List Nat}{Q:VK}(I:Inv X pins σ H s)(mr:MRel D φ α H μ)(d:Den D φ α H t v)(r:RelV v u)(q:Post D W φ α H σ (RV D φ Q) (Xh cs t μ))
  (hh:∀n tv P,Post D W φ α H σ (RV D φ Q) (.ok (.bl (isAny n cs)) μ)->QU D n tv->zaB X.K u tv P->P s.heap->u≠.builtin "__main__.__loader__#opaque"->B):B:=by
 unfold Xh at q
 split at q
 ·obtain⟨o,ho,q⟩:=q.som
  rcases q.br with⟨_,q⟩|⟨hb,q⟩
  ·exact q.elim
  ·exact z09 C I mr d r ho hb λtv P=>hh _ tv P q
 ·split at q
  ·rename_i tn htn
   exact z3I C I d r htn λtv P=>hh _ tv P q
  ·exact q.elim
noncomputable def vf(Γ:Cn):List Expr->Option (List Nat)
 |[]=>some []
 |e::r=>match e with
  |.Name x _=>if (idx Γ.N x).isNone&&Γ.G.contains x then (match Γ.cls.lookup x with
   |some c=>(vf Γ r).map (c::·)
   |none=>none) else none
  |_=>none
noncomputable def yX(Γ:Cn)(e:Expr):Option (List Nat):=match e with
 |.Name _ _=>vf Γ [e]
 |.Tuple es _ _=>if decide (es.length<=room) then vf Γ es else none
 |_=>none
theorem lookup_mem{β:Type}{x:Str}{v:β}:∀{l:List (Str×β)},l.lookup x=some v->(x,v)∈l
 |[],h=>by cases h
 |(y,w)::r,h=>by
  rw[z79] at h
  cases q:x == y with
  |true=>rw[q] at h;cases h;rw[beq_iff_eq.mp q];exact z6U
  |false=>rw[q] at h;exact z6H _ (lookup_mem h)
theorem z3y(C:Ck D W Γ X k){x:Str}{c:Nat}(hc:x∈Γ.G)(hl:(x,c)∈Γ.cls):∃u v,YM X x u/\ClsV v u/\∀p0,PE X (.Name x p0) (tC v):=by
 obtain⟨u,v,cv,r⟩:=C.clv x c hl
 refine⟨u,v,cv,r,λp0=>?_⟩
 rcases cv with h|⟨h,hb,hn⟩
 ·exact VZ (C.glb x hc) h r.rel (C.dbG x hc)
 ·exact z0K (C.glb x hc) h hb r.rel hn (C.dbG x hc)
theorem Q9(C:Ck D W Γ X k):∀{es:List Expr} {cs:List Nat},vf Γ es=some cs->∃us vs,(∀us',Vals vs us'->us'=us)/\vs.length=es.length/\es.all noStar=true/\PA X es (λ_ H Q=>Q vs H)/\∀t tv,QU D t tv->zb1 X.K tv us=some (isAny t cs)
 |[],cs,h=>by
  simp[vf] at h;subst h
  exact⟨[],[],λus' r=>by cases r;rfl,rfl,rfl,λpos pins s σ H Q I q=>qH pos pins s σ H Q I q,λt tv _=>rfl⟩
 |e::es,cs,h=>by
  unfold vf at h
  split at h
  ·rename_i x p0
   split at h
   ·rename_i hc
    simp only[z6x,z7i] at hc
    split at h
    ·rename_i c hl
     cases hr:vf Γ es with
     |none=>rw[hr] at h;cases h
     |some cs'=>
      rw[hr] at h
      cases h
      have hm:=lookup_mem hl
      obtain⟨us,vs,rv,hl,hs,hp,hk⟩:=Q9 C hr
      obtain⟨u,v,cv,r,pe⟩:=z3y C hc.2 hm
      refine⟨u::us,v::vs,λus' q=>by cases q with|cons q1 q2=>rw[r.only q1,rv _ q2],by simp[hl],by simp[noStar,hs],λpos pins s σ H Q I q=>zI (pe p0) hp (za rfl) pos pins s σ H Q I q,λt tv ht=>?_⟩
      have k1:=C.isi t x c hm tv u ht cv
      have k2:=hk t tv ht
      unfold zb1
      rw[k1]
      rw[yS]
      cases hb:vx t c with
      |true=>rfl
      |false=>exact k2
    ·cases h
   ·cases h
  ·cases h
theorem z24 (C:Ck D W Γ X k) {cs:List Nat} {p0:Pos} (hx:("isinstance":Str)∈Γ.G) (hg:Γ.gl "isinstance"=.none) (hs:noStar a=true) (hcs:yX Γ c=some cs) (ha:PE X a (rdE D W f)):PE X (.Call (.Name "isinstance" p0) [a,c] [] pos) (rdE D W (xY cs f)):=by
 have hm:=C.glo _ hx
 rw[hg] at hm
 rintro pins s σ H Q I ⟨φ,α,τ,μ,sr,mr,p⟩
 refine z7I (jB I (C.glb _ hx) hm boot_isinstance ?_ (by decide) (C.dbG _ hx))
 unfold yX at hcs
 split at hcs
 ·rename_i cn pc
  obtain⟨us0,vs0,hu,hl,hst,hp,hk⟩:=Q9 C hcs
  refine z7J (thn (zI ha hp (za hs) pos pins s σ H (λvs H1=>∃v t μ1 α1,vs=v::vs0/\Stp α H α1 H1/\MRel D φ α1 H1 μ1/\Den D φ α1 H1 t v/\Post D W φ α1 H1 σ (RV D φ Q) (Xh cs t μ1)) I ⟨φ,α,τ,μ,sr,mr,p.bind.mono λt μ' α' H' st m q v d=>⟨v,t,μ',α',rfl,st,m,d,q⟩⟩) ?_) (za hs) (qt (by rfl))
  rintro us s1 ⟨vs,H1,I1,rv,v,t,μ1,α1,rfl,st,m,d,q⟩
  cases rv with
  | @cons _ u _ us' r1 r2=>
  obtain rfl:=hu us' r2
  have hlu:us'.length=1:=by rw[←r2.length];exact hl
  match us',hlu with
  |[uc],_=>
  refine VT C I1 m d r1 q λtn tv P q ht kx hP hne=>?_
  have kk:=hk tn tv ht
  have k1:z9T X.K tv uc=some (isAny tn cs):=by
   unfold zb1 at kk
   split at kk
   ·rename_i hb;rw[hb];exact kk
   ·rename_i hb;rw[hb];exact kk
   ·cases kk
  exact PySem.W.kia_one kx I1.kIn hP k1 hne λtk=>⟨.bl _,H1,I1.tok tk,rfl,q.here m rfl⟩
 ·rename_i ees kk pc
  split at hcs
  case isFalse=>cases hcs
  rename_i hlen
  obtain⟨us0,vs0,hu,hl,hst,hp,hk⟩:=Q9 C hcs
  refine z7J (thn (zI ha (zI (Xj hp) qH (za rfl)) (za hs) pos pins s σ H (λvs H2=>∃v tp H1 t μ1 α1,vs=[v,.ref tp]/\H1 tp=none/\H2=upd H1 tp (.tup vs0)/\Stp α H α1 H1/\MRel D φ α1 H1 μ1/\Den D φ α1 H1 t v/\Post D W φ α1 H1 σ (RV D φ Q) (Xh cs t μ1)) I ⟨φ,α,τ,μ,sr,mr,p.bind.mono λt μ' α' H' st m q v d=>⟨by rw[hl];exact zA (by simpa using hlen),λtp htp=>⟨v,tp,H',t,μ',α',rfl,htp,rfl,st,m,d,q⟩⟩⟩) ?_) (za hs) (qt (by rfl))
  rintro us s1 ⟨vs,H2,I1,rv,v,tp,H1,t,μ1,α1,rfl,htp,rfl,st,m,d,q⟩
  obtain⟨u,ut,rfl,r1,r2⟩:=vals2 rv
  have r2:ut=z6W tp:=r2
  subst r2
  have sm:vz H1 (upd H1 tp (.tup vs0)):=zk htp
  refine VT C I1 (m.new sm) (d.step (Stp.new sm)) r1 (q.step (Stp.new sm)) λtn tv P q ht kx hP hne=>?_
  obtain⟨_,its,rvs,⟨o,ho,hcl,n,hd⟩⟩:=(show ObjOk X.prog X.w _ s1.heap tp (.tup vs0) from I1.hok tp _ z6)
  obtain rfl:=hu its rvs
  obtain⟨oc,odd,odt,osl⟩:=o
  simp only at hcl hd
  subst hcl hd
  exact PySem.W.kia_tup kx I1.kIn hP ho (hk tn tv ht) hne λtk=>⟨.bl _,_,I1.tok tk,rfl,q.here (m.new sm) rfl⟩
 ·cases hcs
end
section
variable {X:Cx}{D:DP}{W:XW}{Γ:Cn}{k:Nat}{pins:List (Addr×Obj)}{s:Shared}{σ:St}{H:Hp}{φ α:List Addr}{τ:Sl}{μ:Mem}{f g h:De}{a b c:Expr}{pos:Pos}{es:List Expr}
noncomputable def B1 (X:Cx)(D:DP)(W:XW)(fv:Value)(op:T->Mem->RE T):Prop:=
 ∀(pins:List (Addr×Obj)) (s:z6z) (σ:St) (H:Hp) (φ α:List Addr) (μ:Mem) (t:T) (v:V) (u:Value) (Q:VK),Inv X pins σ H s->MRel D φ α H μ->Den D φ α H t v->RelV v u->Post D W φ α H σ (RV D φ Q) (op t μ)->
  z6I (z6L X.prog X.w) X.A (call fv [u]) (EP X pins σ Q) X.xe s
theorem z1e (C:Ck D W Γ X k) {x:Str} {id:String} {op:T->Mem->RE T} {p0:Pos} (hx:x∈Γ.G) (hg:Γ.gl x=.none) (hv:z8s x=some (.builtin id)) (hn:x≠"__name__") (hs:noStar a=true) (hb:B1 X D W (.builtin id) op) (ha:PE X a (rdE D W f)) :
  PE X (.Call (.Name x p0) [a] [] pos) (rdE D W (eB1 op f)):=by
 have hm:=C.glo _ hx
 rw[hg] at hm
 rintro pins s σ H Q I ⟨φ,α,τ,μ,sr,mr,p⟩
 refine z7I (jB I (C.glb _ hx) hm hv ?_ hn (C.dbG _ hx))
 refine z7J (thn (zI ha qH (za hs) pos pins s σ H (λvs H1=>∃v t μ1 α1,vs=[v]/\Stp α H α1 H1/\MRel D φ α1 H1 μ1/\Den D φ α1 H1 t v/\Post D W φ α1 H1 σ (RV D φ Q) (op t μ1)) I ⟨φ,α,τ,μ,sr,mr,p.bind.mono λt μ' α' H' st m q v d=>⟨v,t,μ',α',rfl,st,m,d,q⟩⟩) ?_) (za hs) (qt (by rfl))
 rintro us s1 ⟨vs,H1,I1,rv,v,t,μ1,α1,rfl,st,m,d,q⟩
 obtain⟨u,rfl,r1⟩:=vals1 rv
 exact hb pins s1 σ H1 φ α1 μ1 t v u Q I1 m d r1 q
theorem z53:B1 X D W (.builtin "len") ur:=by
 intro pins s σ H φ α μ t v u Q I mr d r p
 unfold ur at p
 split at p
 ·obtain⟨ad,xs,rfl,_,_,q,l⟩:=d
  exact vo pins s σ H _ _ Q I (.cons r .nil) ⟨ad,xs,rfl,.inl (.inl q),by rw[←l.length];exact p.here mr rfl⟩
 ·obtain⟨ad,xs,rfl,_,_,q,l⟩:=d
  exact vo pins s σ H _ _ Q I (.cons r .nil) ⟨ad,xs,rfl,.inr (.inl q),by rw[←l.length];exact p.here mr rfl⟩
 ·cases d
  obtain⟨hl,p⟩:=p.grd
  exact ZV pins s σ H _ _ Q I (.cons r .nil) ⟨_,rfl,zA hl,p.here mr rfl⟩
 ·obtain⟨ts,hj,p⟩:=p.ex1
  obtain⟨ad,hi,rfl⟩:=d
  obtain⟨xs,q,l⟩:=mr.ob _ ad _ hi hj
  exact vo pins s σ H _ _ Q I (.cons r .nil) ⟨ad,xs,rfl,.inl (.inl (.inl q)),by rw[←l.length];exact Post.here p mr rfl⟩
 ·exact p.elim
theorem jQ{p:Addr}{o:HO}(hp:H p=none):Stp α H (α++[p]) (upd H p o):=⟨⟨[p],rfl,by simpa using hp⟩,λb u _ e=>zk hp b u e,λb e=>by
 by_cases z:b=p
 ·rw[z,z6] at e;cases e
 ·rw[z7 z] at e;exact e⟩
theorem MRel.lay{p:Addr}{ts:List T}{vs:List V}(m:MRel D φ α H μ)(hp:H p=none)(l:DenL D φ α H ts vs):MRel D φ (α++[p]) (upd H p (.lst vs)) (μ++[.lst ts]):=by
 have st:Stp α H (α++[p]) (upd H p (.lst vs)):=jQ hp
 have hl:=m.len
 refine⟨by simp[hl],?_,λb hb=>?_,λb hb=>?_,λi a o e1 e2=>?_⟩
 ·rw[z9g]
  refine⟨m.nd,by simp,λa ha b hb=>?_⟩
  rw[z6J.mp hb]
  intro z
  exact zu m hp (z▸ha)
 ·rcases z6K.mp hb with h|h
  ·exact m.dis b h
  ·rw[z6J.mp h];exact zt m hp
 ·obtain⟨u,e,n⟩:=m.phi b hb
  exact⟨u,zk hp b u e,n⟩
 ·by_cases hi:i<α.length
  ·rw[z6B hi] at e1
   rw[z6B (by omega)] at e2
   have d:=m.ob i a o e1 e2
   obtain⟨u,q,_⟩:=d.some
   exact d.step st ((zk hp _ _ q).trans q.symm)
  ·rw[z6S (by omega)] at e1 e2
   have hi':i-α.length=0:=by
    by_cases z:i-α.length=0
    ·exact z
    ·rw[z8B (by simp;omega)] at e1;cases e1
   have hi2:i-μ.length=0:=by omega
   rw[hi'] at e1
   rw[hi2] at e2
   have e1:some p=some a:=e1
   have e2:some (MO.lst ts)=some o:=e2
   cases e1;cases e2
   exact⟨vs,z6,l.step st⟩
theorem Post.lay{Q:VK}{p:Addr}{ts:List T}{vs:List V}(q:Post D W φ α H σ (RV D φ Q) (.ok (.mut μ.length) (μ++[.lst ts])))(m:MRel D φ α H μ)(hp:H p=none)(l:DenL D φ α H ts vs):Q (.ref p) (upd H p (.lst vs)):=
 q.ok (jQ hp) (m.lay hp l) _ ⟨p,by rw[←m.len,z6S (z6E _)];simp,rfl⟩
theorem z4l{fs:List De}(hl:es.length<=room)(ha:EsOk X D W es fs):PE X (.List es pos) (rdE D W (ji fs)):=by
 refine PE.mono (X3 (wK ha)) ?_
 rintro σ H Q ⟨φ,α,τ,μ,sr,mr,p⟩
 refine⟨φ,α,τ,μ,sr,mr,p.bind.mono λts μ1 α1 H1 st m q vs dl hn=>⟨by rw[hn];exact zA hl,λz hz=>q.lay m hz dl⟩⟩
theorem Stp.turn{x:Addr}{o:HO}(hx:x∈α)(hh:∃o',H x=some o'):Stp α H α (upd H x o):=by
 refine⟨⟨[],by simp,by simp⟩,λb u n e=>?_,λb e=>?_⟩
 ·rw[z7 (λ(z:b=x)=>n (by rw[z];exact hx))];exact e
 ·by_cases z:b=x
  ·rw[z,z6] at e;cases e
  ·rw[z7 z] at e;exact e
theorem MRel.turn{i:Nat}{x:Addr}{o:HO}{mo:MO}(m:MRel D φ α H μ)(hx:α[i]?=some x)(hi:i<μ.length)(st:Stp α H α (upd H x o))(d:DenO D φ α (upd H x o) mo x):MRel D φ α (upd H x o) (μ.set i mo):=by
 refine⟨by simp[m.len],m.nd,m.dis,λb hb=>?_,λj y o' e1 e2=>?_⟩
 ·obtain⟨u,hu,n⟩:=m.phi b hb
  exact⟨u,st.keep b u (λz=>m.dis b z hb) hu,n⟩
 ·by_cases q:i=j
  ·subst q
   rw[hx] at e1;cases e1
   rw[z9b hi] at e2;cases e2
   exact d
  ·rw[z6D q] at e2
   have ne:y≠x:=λz=>by
    subst z
    obtain⟨h1,e1'⟩:=z6v.mp e1
    obtain⟨h2,e2'⟩:=z6v.mp hx
    exact q ((z9l m.nd).mp (e2'.trans e1'.symm))
   exact DenO.step st (z7 ne) (m.ob j y o' e1 e2)
theorem Yg{i:Nat}{x:Addr}{xs:List V}{ts:List T}{v:V}{t:T}(m2:MRel D φ α H μ)(hx2:α[i]?=some x)(hμ:μ[i]?=some (.lst ts))(hH:H x=some (.lst xs))(l:DenL D φ α H ts xs)(d:Den D φ α H t v) :
  Stp α H α (upd H x (.lst (xs++[v])))/\MRel D φ α (upd H x (.lst (xs++[v]))) (μ.set i (.lst (ts++[t]))):=by
 have st3:Stp α H α (upd H x (.lst (xs++[v]))):=Stp.turn (z6M hx2) ⟨_,hH⟩
 have hi:i<μ.length:=(z6v.mp hμ).1
 exact⟨st3,m2.turn hx2 hi st3 ⟨_,z6,(l.step st3).append ⟨v,[],rfl,d.step st3,rfl⟩⟩⟩
theorem z2v{o:Expr}{pa pc:Pos}{go:De}(hp:zT o=true)(hs:noStar a=true)(hline:(pa.endLine == pc.line)=true)(ho:PE X o (rdE D W go))(ha:PE X a (rdE D W f)) :
  PE X (.Call (.Attribute o "append" pa) [a] [] pc) (rdE D W (y3 go f)):=by
 have hb:z7m [a] X.env=[(false,eval a X.env)]:=za hs
 refine PE.mono (z17 zao PySem.F.slot_list_append PySem.F.type_list_append Za ho (zI ha qH (za hs)) (qD hp) (by rw[hb];rfl) hline (za hs) rfl) ?_
 rintro σ H Q ⟨φ,α,τ,μ,sr,mr,p⟩
 refine⟨φ,α,τ,μ,sr,mr,p.bind.mono λot μ1 α1 H1 st1 m1 q ov dv=>?_⟩
 split at q
 case h_2=>exact q.elim
 rename_i i
 obtain⟨K,Z,⟨⟨ts0,hμ0⟩,hf⟩,hk,hz⟩:=q
 obtain⟨x,hx,rfl⟩:=dv
 obtain⟨xs0,hH0,l0⟩:=m1.ob _ x _ hx hμ0
 refine⟨.inl ⟨rfl,_,.inl (.inl hH0)⟩,φ,α1,τ,μ1,sr.step st1,m1,_,Z,hf,?_,hz⟩
 rintro t μ2 ⟨ts,hμ,hl,q2⟩ α2 H2 st2 m2 v d
 obtain⟨β,e2,_⟩:=st2.ext
 have hx2:α2[i]?=some x:=by
  rw[e2,z6B (z6v.mp hx).1];exact hx
 obtain⟨xs,hH,l⟩:=m2.ob i x _ hx2 hμ
 obtain⟨st3,m3⟩:=Yg m2 hx2 hμ hH l d
 refine⟨x,xs,v,rfl,rfl,hH,?_,?_⟩
 ·rw[←l.length];exact z6N hl (zA (z6E _))
 ·exact hk _ _ q2 α2 _ (st2.trans st3) m3 .non rfl
end
structure ItV(D:DP)(J:It)(Ok:List Addr->List Addr->Hp->Prop)(xs:List T):Prop where
 go:∀(i:Nat) φ α H,Ok φ α H->i<xs.length->J.go i H
 yld:∀(i:Nat) φ α H v H' t,Ok φ α H->xs[i]?=some t->J.yld i H v H'->vz H H'/\Den D φ α H' t v
 stop:∀φ α H,Ok φ α H->J.stop xs.length H
noncomputable def OkI (D:DP)(φ α:List Addr)(H:Hp)(xs:List T)(lv:Mem->Prop)(Ok:List Addr->List Addr->Hp->Prop):Prop:=∀φ' α' H' μ',Lk φ α H φ' α' H'->MRel D φ' α' H' μ'->lv μ'->Ok φ' α' H'
noncomputable def rdI (D:DP)(W:XW)(f:Di):TI:=λσ H R=>RdP D H σ λφ α τ μ=>
 Post D W φ α H σ (λp μ' α' H'=>∀J Ok,ItV D J Ok p.1->OkI D φ α' H' p.1 p.2 Ok->p.2 μ'->R J H') (f τ μ).re
theorem Lk.trans{φ φ1 φ2 α α1 α2:List Addr}{H H1 H2:Hp}(a:Lk φ α H φ1 α1 H1)(b:Lk φ1 α1 H1 φ2 α2 H2):Lk φ α H φ2 α2 H2:=
 ⟨λx o n1 n2 e=>let ⟨m1,m2,e1⟩:=a.ob x o n1 n2 e;b.ob x o m1 m2 e1,λi x e=>b.st i x (a.st i x e)⟩
theorem VV{D:DP}{φ α:List Addr}{H:Hp}{γ:Type}{f:γ->T}{xs:List γ}{i:Nat}{t:T}(h:(xs.map f)[i]?=some t):∃a,xs[i]?=some a/\t=f a:=by
 rw[z78] at h
 cases q:xs[i]? with
 |none=>rw[q] at h;cases h
 |some a=>rw[q] at h;cases h;exact⟨a,rfl,rfl⟩
section
variable {X:Cx}{D:DP}{W:XW}{Γ:Cn}{k:Nat}{pins:List (Addr×Obj)}{s:Shared}{σ:St}{H:Hp}{φ α:List Addr}{τ:Sl}{μ:Mem}{f g h:De}{a b c tg:Expr}{pos:Pos}{es:List Expr}
theorem W2{K:z6C}{ad:Addr}{xs:List T}:ItV D (Itl K ad) (λφ α H=>∃vs,Rd H ad (.lst vs)/\DenL D φ α H xs vs) xs:=
 ⟨λi φ α H ⟨vs,ok,l⟩ hi=>⟨vs,vs[i]'(by rw[←l.length];exact hi),.inl ok,by simp⟩,λi φ α H v H' t ⟨vs,ok,l⟩ hi y=>by
  obtain⟨rfl,y⟩:=y
  obtain⟨x,hx,d⟩:=l.get hi
  have e:=y vs (.inl ok)
  rw[e] at hx;cases hx;exact⟨λ_ _ z=>z,d⟩,λφ α H ⟨vs,ok,l⟩=>⟨vs,.inl ok,by rw[l.length];exact z6E _⟩⟩
theorem z0c{K:z6C}{ad:Addr}{xs:List T}:ItV D (Itt K ad) (λφ α H=>∃vs,Rd H ad (.tup vs)/\DenL D φ α H xs vs) xs:=
 ⟨λi φ α H ⟨vs,ok,l⟩ hi=>⟨vs,vs[i]'(by rw[←l.length];exact hi),.inl ok,by simp⟩,λi φ α H v H' t ⟨vs,ok,l⟩ hi y=>by
  obtain⟨rfl,y⟩:=y
  obtain⟨x,hx,d⟩:=l.get hi
  have e:=y vs (.inl ok)
  rw[e] at hx;cases hx;exact⟨λ_ _ z=>z,d⟩,λφ α H ⟨vs,ok,l⟩=>⟨vs,.inl ok,by rw[l.length];exact z6E _⟩⟩
theorem JL{n i j:Nat}(h:(z7_ n)[i]?=some j):j=i:=by
 have:=(z6v.mp h).2
 simpa using this.symm
noncomputable def ItC(z:Str):It:=⟨λi _=>i<z.cps.toList.length,λi H x H'=>H'=H/\∃c,z.cps.toList[i]?=some c/\x=.str ⟨#[c]⟩,λi _=>z.cps.toList.length<=i⟩
theorem z0t{z:Str}:ItV D (ItC z) (λ_ _ _=>True) (z.cps.toList.map λc=>T.str ⟨#[c]⟩):=
 ⟨λi φ α H _ hi=>by (show i<_);simpa using hi,λi φ α H v H' t _ hi y=>by
  obtain⟨j,hj,rfl⟩:=VV (D:=D) (φ:=φ) (α:=α) (H:=H) hi
  obtain⟨rfl,c,hc,rfl⟩:=y
  rw[hj] at hc;cases hc;exact⟨λ_ _ z=>z,rfl⟩,λφ α H _=>by show _<=_;simp⟩
theorem Yk {P:z7a} {w:z7o} {K:z6C} {tg:Expr} {kd:String} (hk:kd="str_ascii_iterator"\/kd="str_iterator") (it:Addr) (z:Str) (t0:Tok):Turn P w K tg (ItC z) [it] it (λi h=>h.IsStrIter it kd z t0 i) where
 mem:=by simp
 obj:=λi h st b hb=>by
  have e:b=it:=by simpa using hb
  subst e
  obtain⟨o,e,c,d⟩:=st
  exact⟨o,e,λv z=>by rw[d] at z;cases z⟩
 keep:=λi h h' st k=>let ⟨o,ho,r⟩:=st;⟨o,k it (by simp) o ho,r⟩
 item:=by
  intro X hP hw hK hc i pins s σ H E I hf st hg
  subst hP hw hK
  obtain⟨f0,f1,f2,f3,f4,f5⟩:=hf it (by simp)
  have hi:i<z.cps.size:=by simpa[ItC] using hg
  have hcx:z.cps[i]?=some z.cps[i]:=Array.getElem?_eq_getElem hi
  have hcl:z.cps.toList[i]?=some z.cps[i]:=by rw[Array.getElem?_toList];exact hcx
  rcases hk with rfl|rfl
  ·refine wpAny_pyNext_ascii_item st hcx λh' st' sb=>?_
   have I1:Inv X pins σ H {s with heap:=h',toks:=s.toks+1}:=I.turned (λb o hb e=>(sb.2 b hb).trans e) f0 f1 f3 f4 f5
   obtain⟨o,e,c,d⟩:=id st'
   exact⟨.str ⟨#[z.cps[i]]⟩ s.toks,rfl,Z5 (s:={s with heap:=h',toks:=s.toks+1}) e c d (by decide) ⟨.str ⟨#[z.cps[i]]⟩,H,I1,⟨_,rfl⟩,⟨rfl,z.cps[i],hcl,rfl⟩,st',λb hb=>(hf b hb).1⟩⟩
  ·refine wpAny_pyNext_wide_item st hcx λh' st' sb=>?_
   have I1:Inv X pins σ H {s with heap:=h',toks:=s.toks+1}:=I.turned (λb o hb e=>(sb.2 b hb).trans e) f0 f1 f3 f4 f5
   obtain⟨o,e,c,d⟩:=id st'
   exact⟨.str ⟨#[z.cps[i]]⟩ s.toks,rfl,Z5 (s:={s with heap:=h',toks:=s.toks+1}) e c d (by decide) ⟨.str ⟨#[z.cps[i]]⟩,H,I1,⟨_,rfl⟩,⟨rfl,z.cps[i],hcl,rfl⟩,st',λb hb=>(hf b hb).1⟩⟩
 done:=by
  intro X hP hw hK hc i pins s σ H E I hf st hg
  subst hP hw hK
  obtain⟨f0,f1,f2,f3,f4,f5⟩:=hf it (by simp)
  have hx:z.cps[i]?=none:=Array.getElem?_eq_none (by have:z.cps.toList.length<=i:=hg;simpa using this)
  rcases hk with rfl|rfl
  ·exact wpAny_pyNext_ascii_end (I.ok.hd hc) st hx λh' eb=>⟨rfl,I.turned (t':=s.toks) (λb o hb e=>eb b o hb e) f0 f1 f3 f4 f5⟩
  ·exact wpAny_pyNext_wide_end (I.ok.hd hc) st hx λh' eb=>⟨rfl,I.turned (t':=s.toks) (λb o hb e=>eb b o hb e) f0 f1 f3 f4 f5⟩
 self:=λ_ _ _ _ _ st h=>by
  rcases hk with rfl|rfl
  ·exact wpAny_pyIter_striter_ascii st h
  ·exact wpAny_pyIter_striter_wide st h
theorem UL(ha:PE X a (rdE D W f)):PI X tg a (rdI D W (iE f)):=by
 rintro pins s σ H R I ⟨φ,α,τ,μ,sr,mr,p⟩
 refine thn (sub ha I sr mr p) ?_
 rintro u s1 ⟨v,H1,t,μ1,α1,I1,r1,st1,sr1,mr1,d1,p1⟩
 cases t with
 |lst ts=>
  obtain⟨ad,vs,rfl,n1,n2,q,l⟩:=d1
  cases r1
  obtain⟨its,rv,pl,hz⟩:=I1.list (.inl q)
  refine zbY pl.isList ?_
  refine⟨s1.heap.objs.size,[s1.heap.objs.size],_,_,H1,rfl,I1.kept (t':=s1.toks) λb o e=>z6y _ e,uG ad _,⟨_,z71 _ rfl,rfl,rfl⟩,λb hb=>?_,?_⟩
  ·have e:b=s1.heap.objs.size:=by simpa using hb
   subst e
   exact I1.fpOk (z6E _) (I1.hok.fresh (z6E _))
  ·have p2:Post D W φ α1 H1 σ _ (RE.ok (ts,lvT) μ1):=p1
   exact p2.ok (Stp.refl _ _) mr1 _ _ W2 (λφ' α' H' μ' lk _ _=>by
    obtain⟨a',ws,e,_,_,q',l'⟩:=Den.lk lk (show Den D φ α1 H1 (.lst ts) (.ref ad) from ⟨ad,vs,rfl,n1,n2,q,l⟩)
    cases e;exact⟨ws,q',l'⟩) trivial
 |tup ts=>
  obtain⟨ad,vs,rfl,n1,n2,q,l⟩:=d1
  cases r1
  obtain⟨its,rv,pl,hz⟩:=I1.tuple (.inl q)
  refine wpAny_pyIter_tuple (show s1.heap.IsTuple ad its.toArray from pl) ?_
  refine⟨s1.heap.objs.size,[s1.heap.objs.size],_,_,H1,rfl,I1.kept (t':=s1.toks) λb o e=>z6y _ e,V1 ad _,⟨_,z71 _ rfl,rfl,rfl⟩,λb hb=>?_,?_⟩
  ·have e:b=s1.heap.objs.size:=by simpa using hb
   subst e
   exact I1.fpOk (z6E _) (I1.hok.fresh (z6E _))
  ·have p2:Post D W φ α1 H1 σ _ (RE.ok (ts,lvT) μ1):=p1
   exact p2.ok (Stp.refl _ _) mr1 _ _ z0c (λφ' α' H' μ' lk _ _=>by
    obtain⟨a',ws,e,_,_,q',l'⟩:=Den.lk lk (show Den D φ α1 H1 (.tup ts) (.ref ad) from ⟨ad,vs,rfl,n1,n2,q,l⟩)
    cases e;exact⟨ws,q',l'⟩) trivial
 | «mut» j=>
  obtain⟨ad,hj,rfl⟩:=d1
  cases r1
  have p2:Post D W φ α1 H1 σ _ (λK _=>∃xs,μ1[j]?=some (.lst xs)/\K (xs,lvM j xs) μ1):=p1
  obtain⟨xs,hx,p2⟩:=p2.ex1
  obtain⟨vs,q,l⟩:=mr1.ob j ad _ hj hx
  obtain⟨its,rv,pl,hz⟩:=I1.list (.inl (.inl q))
  refine zbY pl.isList ?_
  refine⟨s1.heap.objs.size,[s1.heap.objs.size],_,_,H1,rfl,I1.kept (t':=s1.toks) λb o e=>z6y _ e,uG ad _,⟨_,z71 _ rfl,rfl,rfl⟩,λb hb=>?_,?_⟩
  ·have e:b=s1.heap.objs.size:=by simpa using hb
   subst e
   exact I1.fpOk (z6E _) (I1.hok.fresh (z6E _))
  ·have p2:Post D W φ α1 H1 σ _ (RE.ok (xs,lvM j xs) μ1):=p2
   exact p2.ok (Stp.refl _ _) mr1 _ _ W2 (λφ' α' H' μ' lk m hl=>by
    obtain⟨ws,q',l'⟩:=m.ob j ad _ (lk.st j ad hj) hl
    exact⟨ws,.inl q',l'⟩) hx
 |str z=>
  have d1:v=.str z:=d1
  subst d1
  obtain⟨t0,rfl⟩:=r1
  have fin:∀{kd:String},(kd="str_ascii_iterator"\/kd="str_iterator")->PIE X pins σ tg R (.ref s1.heap.objs.size) {s1 with heap:=s1.heap.push {cls:=.type kd,data:=.fields #[.str z t0,.int 0 0]}}:=λ{kd} hk=>by
   refine⟨s1.heap.objs.size,[s1.heap.objs.size],_,_,H1,rfl,I1.kept (t':=s1.toks) λb o e=>z6y _ e,Yk hk _ z t0,⟨_,z71 _ rfl,rfl,rfl⟩,λb hb=>?_,?_⟩
   ·have e:b=s1.heap.objs.size:=by simpa using hb
    subst e
    exact I1.fpOk (z6E _) (I1.hok.fresh (z6E _))
   ·have p2:Post D W φ α1 H1 σ _ (RE.ok (Yb z,lvT) μ1):=p1
    exact p2.ok (Stp.refl _ _) mr1 _ _ z0t (λ_ _ _ _ _ _ _=>z7r) trivial
  cases ha:z.cps.all (·<128) with
  |true=>exact wpAny_pyIter_ascii ha (fin (.inl rfl))
  |false=>exact wpAny_pyIter_wide ha (fin (.inr rfl))
 |_=>exact Post.elim p1
theorem X2{x:V}{xs:List V}{us:List Value}(h:Vals (x::xs) us):∃u r,us=u::r/\RelV x u/\Vals xs r:=by
 cases h with
 |cons r q=>exact⟨_,_,rfl,r,q⟩
theorem vals3{x y z:V}{us:List Value}(h:Vals [x,y,z] us):∃u v w,us=[u,v,w]/\RelV x u/\RelV y v/\RelV z w:=by
 obtain⟨u,_,rfl,a,h⟩:=X2 h
 obtain⟨v,_,rfl,b,h⟩:=X2 h
 obtain⟨w,_,rfl,c,h⟩:=X2 h
 cases h
 exact⟨_,_,_,rfl,a,b,c⟩
noncomputable def ItS(lo c:Int)(n:Nat):It:=⟨λi _=>i<n,λi H x H'=>H'=H/\x=.int (lo+i * c),λi _=>n<=i⟩
theorem W3{P:z7a}{w:z7o}{K:z6C}{tg:Expr}(it:Addr)(lo c:Int)(n:Nat):Turn P w K tg (ItS lo c n) [it] it (λi h=>IsRangeIter h it (lo+(i:Nat) * c) ((n:Int)-(i:Nat)) c) where
 mem:=by simp
 obj:=λi h st b hb=>by
  have e:b=it:=by simpa using hb
  subst e
  exact⟨_,st,λv z=>by cases (show zdK _=Data.cell v from z)⟩
 keep:=λi h h' st k=>k it (by simp) _ st
 item:=by
  intro X hP hw hK hc i pins s σ H E I hf st hg
  subst hP hw hK
  obtain⟨f0,f1,f2,f3,f4,f5⟩:=hf it (by simp)
  have W:=Walks.range (prog:=X.prog) (w:=X.w) (I.ok.hd hc) it lo c n
  refine W.item i s _ _ hg st λv h' tk hv st' kk=>?_
  obtain⟨t,rfl⟩:=hv
  have I1:Inv X pins σ H {s with heap:=h',toks:=tk}:=I.turned (λb o hb e=>kk b o (by simpa using hb) e) f0 f1 f3 f4 f5
  exact⟨_,rfl,Z5 (s:={s with heap:=h',toks:=tk}) (n:="range_iterator") st' rfl rfl (by decide) ⟨.int (lo+i * c),H,I1,⟨t,rfl⟩,⟨rfl,rfl⟩,st',λb hb=>(hf b hb).1⟩⟩
 done:=by
  intro X hP hw hK hc i pins s σ H E I hf st hg
  subst hP hw hK
  obtain⟨f0,f1,f2,f3,f4,f5⟩:=hf it (by simp)
  exact wpAny_pyNext_range_end (I.ok.hd hc) st (by have:n<=i:=hg;omega) λh' eb=>⟨rfl,I.turned (t':=s.toks) (λb o hb e=>eb b o hb e) f0 f1 f3 f4 f5⟩
 self:=λ_ _ _ _ _ st h=>wpAny_pyIter_rangeiter st h
theorem QC{P:z7a}{w:z7o}{K:z6C}{tg:Expr}(it:Addr)(lo c:Int)(n:Nat):Turn P w K tg (ItS lo c n) [it] it (λi h=>IsLongIter h it (lo+(i:Nat) * c) ((n:Int)-(i:Nat)) c) where
 mem:=by simp
 obj:=λi h st b hb=>by
  have e:b=it:=by simpa using hb
  subst e
  exact⟨_,st,λv z=>by cases (show zdK _=Data.cell v from z)⟩
 keep:=λi h h' st k=>k it (by simp) _ st
 item:=by
  intro X hP hw hK hc i pins s σ H E I hf st hg
  subst hP hw hK
  obtain⟨f0,f1,f2,f3,f4,f5⟩:=hf it (by simp)
  have W:=Walks.longrange (prog:=X.prog) (w:=X.w) (I.ok.hd hc) it lo c n
  refine W.item i s _ _ hg st λv h' tk hv st' kk=>?_
  obtain⟨t,rfl⟩:=hv
  have I1:Inv X pins σ H {s with heap:=h',toks:=tk}:=I.turned (λb o hb e=>kk b o (by simpa using hb) e) f0 f1 f3 f4 f5
  exact⟨_,rfl,Z5 (s:={s with heap:=h',toks:=tk}) (n:="longrange_iterator") st' rfl rfl (by decide) ⟨.int (lo+i * c),H,I1,⟨t,rfl⟩,⟨rfl,rfl⟩,st',λb hb=>(hf b hb).1⟩⟩
 done:=by
  intro X hP hw hK hc i pins s σ H E I hf st hg
  subst hP hw hK
  obtain⟨f0,f1,f2,f3,f4,f5⟩:=hf it (by simp)
  exact wpAny_pyNext_long_end (I.ok.hd hc) st (by have:n<=i:=hg;omega) λh' eb=>⟨rfl,I.turned (t':=s.toks) (λb o hb e=>eb b o hb e) f0 f1 f3 f4 f5⟩
 self:=λ_ _ _ _ _ st h=>wpAny_pyIter_longiter st h
theorem z0a{a b c:Int}(hc:0<c):z9a a b c=if a<b then (b-a-1) / c+1 else 0:=by
 unfold z9a
 rw[if_pos hc]
theorem kW{pins:List (Addr×Obj)}{σ:St}{H:Hp}{s:z6z}{R:It->Hp->Prop}{E:Value->z6z->Prop}{lo hi c:Int}{t u v:Tok}{tk:Nat}(I:Inv X pins σ H s)(h3:0<c)
  (q:R (ItS lo c (if lo<hi then (hi-lo-1) / c+1 else 0:Int).toNat) H):z6I (z6L X.prog X.w) X.A (pyIter (.ref s.heap.objs.size)) (PIE X pins σ tg R) E {s with heap:=s.heap.push {cls:=.type "range",data:=.fields #[.int lo t,.int hi u,.int c v]},toks:=tk}:=by
 have I1:Inv X pins σ H {s with heap:=s.heap.push {cls:=.type "range",data:=.fields #[.int lo t,.int hi u,.int c v]},toks:=tk}:=I.kept λb o e=>z6y _ e
 have e1:lo+((0:Nat):Int) * c=lo:=by simp
 have e2:(((if lo<hi then (hi-lo-1) / c+1 else 0:Int).toNat:Nat):Int)-((0:Nat):Int)=z9a lo hi c:=by
  rw[z0a h3]
  have:0<=(if lo<hi then (hi-lo-1) / c+1 else 0):=by
   split
   ·have h1:0<=(hi-lo-1) / c:=z87 (by omega) (by omega)
    omega
   ·omega
  omega
 have fr:∀b∈[(s.heap.push {cls:=.type "range",data:=.fields #[.int lo t,.int hi u,.int c v]}).objs.size],b=(s.heap.push {cls:=.type "range",data:=.fields #[.int lo t,.int hi u,.int c v]}).objs.size:=λb hb=>by simpa using hb
 cases hsm:zdQ lo hi c with
 |true=>
  refine wpAny_pyIter_range (zdL ..) hsm ?_
  refine⟨(s.heap.push {cls:=.type "range",data:=.fields #[.int lo t,.int hi u,.int c v]}).objs.size,[(s.heap.push {cls:=.type "range",data:=.fields #[.int lo t,.int hi u,.int c v]}).objs.size],_,_,H,rfl,
   I1.kept (t':=tk) λb o e=>z6y _ e,W3 _ lo c (if lo<hi then (hi-lo-1) / c+1 else 0:Int).toNat,?_,λb hb=>?_,q⟩
  ·show IsRangeIter _ _ (lo+((0:Nat):Int) * c) ((((if lo<hi then (hi-lo-1) / c+1 else 0:Int).toNat:Nat):Int)-((0:Nat):Int)) c
   rw[e1,e2]
   exact z71 _ rfl
  ·rw[fr b hb]
   exact I1.fpOk (z6E _) (I1.hok.fresh (z6E _))
 |false=>
  refine wpAny_pyIter_longrange (zdL ..) hsm ?_
  refine⟨(s.heap.push {cls:=.type "range",data:=.fields #[.int lo t,.int hi u,.int c v]}).objs.size,[(s.heap.push {cls:=.type "range",data:=.fields #[.int lo t,.int hi u,.int c v]}).objs.size],_,_,H,rfl,
   I1.kept (t':=tk) λb o e=>z6y _ e,QC _ lo c (if lo<hi then (hi-lo-1) / c+1 else 0:Int).toNat,?_,λb hb=>?_,q⟩
  ·show IsLongIter _ _ (lo+((0:Nat):Int) * c) ((((if lo<hi then (hi-lo-1) / c+1 else 0:Int).toNat:Nat):Int)-((0:Nat):Int)) c
   rw[e1,e2]
   exact z71 _ rfl
  ·rw[fr b hb]
   exact I1.fpOk (z6E _) (I1.hok.fresh (z6E _))
theorem jm{lo c:Int}{n:Nat}:ItV D (ItS lo c n) (λ_ _ _=>True) ((z7_ n).map λ(i:Nat)=>T.int (lo+i * c)):=
 ⟨λi φ α H _ hi=>by (show i<n);simpa using hi,λi φ α H v H' t _ hi y=>by
  obtain⟨j,hj,rfl⟩:=VV (D:=D) (φ:=φ) (α:=α) (H:=H) hi
  rw[JL hj]
  obtain⟨rfl,rfl⟩:=y
  exact⟨λ_ _ z=>z,rfl⟩,λφ α H _=>by show n<=_;simp⟩
theorem Kc (C:Ck D W Γ X k) {p0:Pos} (hx:("range":Str)∈Γ.G) (hg:Γ.gl "range"=.none) (ha':noStar a=true) (hb':noStar b=true) (hc':noStar c=true) (ha:PE X a (rdE D W f)) (hb:PE X b (rdE D W g)) (hc:PE X c (rdE D W h)) :
  PI X tg (.Call (.Name "range" p0) [a,b,c] [] pos) (rdI D W (z1j f g h)):=by
 have hm:=C.glo _ hx
 rw[hg] at hm
 rintro pins s σ H R I ⟨φ,α,τ,μ,sr,mr,p⟩
 have s3:z7m [a,b,c] X.env=[(false,eval a X.env),(false,eval b X.env),(false,eval c X.env)]:=by
  rw[za ha',za hb',za hc'];rfl
 refine Call_ (jB I (C.glb _ hx) hm zcW (z8E (thn (zI ha (zI hb (zI hc qH (za hc')) (za hb')) (za ha') pos pins s σ H (λvs H1=>∃i j l:Int,vs=[.int i,.int j,.int l]/\(0<l/\l<1073741824)/\R (ItS i l (if i<j then (j-i-1) / l+1 else 0:Int).toNat) H1) I ?_) ?_) (za ha') (qt (by simp[hb',hc']))))
 ·refine⟨φ,α,τ,μ,sr,mr,p.bind.mono λx μ1 α1 H1 st1 m1 q1 v1 d1=>⟨φ,α1,τ,μ1,sr.step st1,m1,q1.bind.mono λy μ2 α2 H2 st2 m2 q2 v2 d2=>⟨φ,α2,τ,μ2,(sr.step st1).step st2,m2,q2.bind.mono λz μ3 α3 H3 st3 m3 q3 v3 d3=>?_⟩⟩⟩
  cases x with
  |int a=>
   cases y with
   |int b=>
    cases z with
    |int c=>
     have q3:Post D W φ α3 H3 σ _ (RE.grd (inL a/\inL b/\0<c/\c<1073741824) (RE.ok (jw a b c,lvT) μ3)):=q3
     obtain⟨hh,q3⟩:=q3.grd
     have d1:v1=.int _:=d1
     have d2:v2=.int _:=d2
     have d3:v3=.int _:=d3
     subst d1 d2 d3
     exact⟨_,_,_,rfl,hh.2.2,q3.ok (Stp.refl _ _) m3 _ _ jm (λ_ _ _ _ _ _ _=>z7r) trivial⟩
    |_=>exact Post.elim q3
   |_=>exact Post.elim q3
  |_=>exact Post.elim q3
 ·rintro us s1 ⟨vs,H1,I1,rv,i,j,l,rfl,h3,q⟩
  obtain⟨u1,u2,u3,rfl,r1,r2,r3⟩:=vals3 rv
  obtain⟨t1,rfl⟩:=r1
  obtain⟨t2,rfl⟩:=r2
  obtain⟨t3,rfl⟩:=r3
  exact call_range_3 (by omega) (kW I1 h3.1 q) (.inl (PyProof.noPylong_small (by omega)))
theorem KC (C:Ck D W Γ X k) {p0:Pos} (hx:("range":Str)∈Γ.G) (hg:Γ.gl "range"=.none) (ha':noStar a=true) (hb':noStar b=true) (ha:PE X a (rdE D W f)) (hb:PE X b (rdE D W g)) :
  PI X tg (.Call (.Name "range" p0) [a,b] [] pos) (rdI D W (uU f g)):=by
 have hm:=C.glo _ hx
 rw[hg] at hm
 rintro pins s σ H R I ⟨φ,α,τ,μ,sr,mr,p⟩
 refine Call_ (jB I (C.glb _ hx) hm zcW (z8E (thn (zI ha (zI hb qH (za hb')) (za ha') pos pins s σ H (λvs H1=>∃i j:Int,vs=[.int i,.int j]/\R (ItS i 1 (if i<j then (j-i-1) / 1+1 else 0:Int).toNat) H1) I ?_) ?_) (by rw[za ha',za hb']) (by rw[za hb'];rfl)))
 ·refine⟨φ,α,τ,μ,sr,mr,p.bind.mono λx μ1 α1 H1 st1 m1 q1 v1 d1=>⟨φ,α1,τ,μ1,sr.step st1,m1,q1.bind.mono λy μ2 α2 H2 st2 m2 q2 v2 d2=>?_⟩⟩
  cases x with
  |int i=>
   cases y with
   |int j=>
    have q2:Post D W φ α2 H2 σ _ (RE.grd (inL i/\inL j) (RE.ok (jw i j 1,lvT) μ2)):=q2
    obtain⟨hh,q2⟩:=q2.grd
    have d1:v1=.int _:=d1
    have d2:v2=.int _:=d2
    subst d1 d2
    exact⟨_,_,rfl,q2.ok (Stp.refl _ _) m2 _ _ jm (λ_ _ _ _ _ _ _=>z7r) trivial⟩
   |_=>exact Post.elim q2
  |_=>exact Post.elim q2
 ·rintro us s1 ⟨vs,H1,I1,rv,i,j,rfl,q⟩
  cases rv with
  |cons r rr=>
   cases rr with
   |cons r' rr=>
    cases rr
    obtain⟨t,rfl⟩:=r
    obtain⟨t',rfl⟩:=r'
    exact call_range_2 (kW I1 (by omega) q)
theorem YO (C:Ck D W Γ X k) {p0:Pos} (hx:("range":Str)∈Γ.G) (hg:Γ.gl "range"=.none) (hs:noStar a=true) (ha:PE X a (rdE D W f)) :
  PI X tg (.Call (.Name "range" p0) [a] [] pos) (rdI D W (z1I f)):=by
 have hm:=C.glo _ hx
 rw[hg] at hm
 rintro pins s σ H R I ⟨φ,α,τ,μ,sr,mr,p⟩
 refine Call_ (jB I (C.glb _ hx) hm zcW (z8E (thn (zI ha qH (za hs) pos pins s σ H (λvs H1=>∃j:Int,vs=[.int j]/\R (ItS 0 1 (if 0<j then (j-0-1) / 1+1 else 0:Int).toNat) H1) I ?_) ?_) (za hs) rfl))
 ·refine⟨φ,α,τ,μ,sr,mr,p.bind.mono λt μ' α' H' st m q v d=>?_⟩
  cases t with
  |int n=>
   have d:v=.int _:=d
   subst d
   have q:Post D W φ α' H' σ _ (RE.grd (inL n) (RE.ok (rangeT n,lvT) μ')):=q
   obtain⟨hn,q⟩:=q.grd
   have e2:(if 0<n then (n-0-1) / 1+1 else 0:Int).toNat=n.toNat:=by
    split
    ·rw[zbQ];congr 1;omega
    ·omega
   have e3:((z7_ n.toNat).map λ(i:Nat)=>T.int (0+i * 1))=rangeT n:=by
    unfold rangeT
    refine z9C λi _=>?_
    simp
   refine⟨n,rfl,?_⟩
   rw[e2]
   exact q.ok (Stp.refl _ _) m _ _ (e3▸jm) (λ_ _ _ _ _ _ _=>z7r) trivial
  |_=>exact Post.elim q
 ·rintro us s1 ⟨vs,H1,I1,rv,j,rfl,q⟩
  cases rv with
  |cons r rr=>
   cases rr
   obtain⟨t,rfl⟩:=r
   exact call_range_1 (kW I1 (by omega) q)
noncomputable def idxs (N:List Str):List Expr->Option (List Nat)
 |[]=>some []
 |.Name x _::r=>match idx N x,idxs N r with
  |some i,some is=>some (i::is)
  |_,_=>none
 |_::_=>none
noncomputable def wo (N:List Str):Expr->Option Tg
 |.Name x _=>(idx N x).map Tg.one
 |.Tuple es _ _=>(idxs N es).map Tg.tup
 |_=>none
noncomputable def z8:Expr->List Str
 |.Name x _=>[x]
 |.Tuple es _ _=>es.filterMap λe=>match e with|.Name x _=>some x|_=>none
 |_=>[]
noncomputable def Sto (X:Cx)(S:List Str):Prop:=∀x∈S,Loc X.env.scope x/\(X.fn x=true\/X.env.scope.names.lookup x=some .local)
theorem Jc{S N:List Str}(hN:X.N=N)(nd:N.Nodup)(hS:Sto X S):∀{es:List Expr} {is:List Nat} {ts:List T} {τ τ':Sl},(∀e∈es,∀x p,e=.Name x p->x∈S)->idxs N es=some is->QS is ts τ=some τ'->
  ∃t,PGs X es t/\(z8f es X.env).length=ts.length/\(z8f es X.env).findIdx? (·.1)=none/\∀{σ:St} {vs:List V} {φ α H} {Q:St->Hp->Prop},SRel D φ α H τ σ->DenL D φ α H ts vs->(∀σ',SRel D φ α H τ' σ'->Q σ' H)->t vs σ H Q
 |[],is,ts,τ,τ',_,h0,h=>by
  simp[idxs] at h0;subst h0
  cases ts with
  |nil=>
   simp[QS] at h;subst h
   exact⟨z4s,z0D,rfl,rfl,λsr l q=>⟨l,q _ sr⟩⟩
  |cons _ _=>simp[QS] at h
 |e::es,is,ts,τ,τ',hn,h0,h=>by
  cases e with
  |Name x p0=>
   simp only[idxs] at h0
   split at h0
   ·rename_i i is' hi his
    cases h0
    cases ts with
    |nil=>simp[QS] at h
    |cons t ts=>
     have h:QS is' ts (jz τ i (some t))=some τ':=h
     have hx:=hn _ z6U x p0 rfl
     have pg:PG X (.Name x p0) (V_ i):=VS (hN▸nd) (by rw[hN];exact qW hi) (hS x hx).1 (hS x hx).2
     obtain⟨u,pgs,hl,hf,hu⟩:=Jc hN nd hS (λe he=>hn e (z6H _ he)) his h
     refine⟨z1m (V_ i) u,U6 pg pgs rfl,by simpa[z8f] using hl,?_,λ{σ vs φ α H Q} sr l k=>?_⟩
     ·have e1:z8f (.Name x p0::es) X.env=(false,za7 (.Name x p0) X.env)::z8f es X.env:=rfl
      rw[e1,List.findIdx?_cons]
      simp[hf]
     ·obtain⟨v,r,rfl,d,l⟩:=l
      exact⟨v,r,rfl,hu (sr.set d) l k⟩
   ·cases h0
  |_=>simp[idxs] at h0
theorem WD{S N:List Str}(hN:X.N=N)(nd:N.Nodup)(hS:Sto X S)(hc:X.calm=true){e:Expr}{tgt:Tg}{t:T}{τ τ':Sl}(hn:∀x∈z8 e,x∈S)(h0:wo N e=some tgt)(h:asg tgt t τ=some τ'){v:V}{u:Value}(I:Inv X pins σ H s)(sr:SRel D φ α H τ σ)(d:Den D φ α H t v)(r:RelV v u) :
  z6I (z6L X.prog X.w) X.A (za7 e X.env u) (λ_ s'=>∃σ',Inv X pins σ' H s'/\SRel D φ α H τ' σ') X.xe s:=by
 cases e with
 |Name x p0=>
  simp only[wo] at h0
  cases q:idx N x with
  |none=>rw[q] at h0;cases h0
  |some i=>
   rw[q] at h0;cases h0
   cases (z6A h:jz τ i (some t)=τ')
   have hx:x∈S:=hn x (by simp[z8])
   refine thn (VS (i:=i) (hN▸nd) (by rw[hN];exact qW q) (hS x hx).1 (hS x hx).2 pins s σ H v u (λσ' H'=>H'=H/\σ'=σ.set i (some v)) I r ⟨rfl,rfl⟩) ?_
   rintro _ s1 ⟨σ',H',I1,rfl,rfl⟩
   exact⟨_,I1,sr.set d⟩
 |Tuple es kk p0=>
  simp only[wo] at h0
  cases q:idxs N es with
  |none=>rw[q] at h0;cases h0
  |some is=>
   rw[q] at h0;cases h0
   cases t with
   |tup ts=>
    obtain⟨g,pgs,hl,hf,hu⟩:=Jc (D:=D) hN nd hS (λe he x p hx=>hn x (by subst hx;exact z8t.mpr ⟨_,he,rfl⟩)) q h
    obtain⟨ad,xs,rfl,_,_,q,l⟩:=d
    refine thn (z40 (k:=kk) (pos:=p0) hc pgs hl hf pins s σ H (.ref ad) u (λσ' H'=>H'=H/\SRel D φ α H τ' σ') I r ⟨ad,xs,rfl,.inl q,l.length.symm,hu sr l λσ' sr'=>⟨rfl,sr'⟩⟩) ?_
    rintro _ s1 ⟨σ',H',I1,rfl,sr'⟩
    exact⟨σ',I1,sr'⟩
   |_=>cases h
 |_=>simp[wo] at h0
end
theorem z0m(env:Env):∀(names:List (Str×z9N)) (cs:List (Str×Addr)),(∀p∈names,p.2=.free->∃c,env.cells.lookup p.1=some c)->
  ∃cl,(forIn names cs (λ(x:Str×z9N) r=>if (x.2 == .free)=true then do let a ←cellOf env x.1;pure (z7S ((x.1,a)::r)) else pure (z7S r)):Sem (List (Str×Addr)))=pure cl/\
   (∀x c,cl.lookup x=some c->cs.lookup x=some c\/(env.cells.lookup x=some c/\∃p∈names,p.1=x/\p.2=.free))/\(∀x c,cs.lookup x=some c->∃c',cl.lookup x=some c')/\∀p∈names,p.2=.free->∃c,cl.lookup p.1=some c:=by
 intro names
 induction names with
 |nil=>intro cs _;exact⟨cs,rfl,λx c h=>.inl h,λx c h=>⟨c,h⟩,λp hp=>absurd hp (by simp)⟩
 |cons p names ih=>
  intro cs h
  rw[zaL]
  by_cases hp:p.2=.free
  ·obtain⟨c,hc⟩:=h p z6U hp
   have e:cellOf env p.1=pure c:=by unfold cellOf;rw[hc]
   rw[if_pos (by simp[hp]),e]
   obtain⟨cl,e1,e2,e3,e4⟩:=ih ((p.1,c)::cs) λq hq=>h q (z6H _ hq)
   refine⟨cl,e1,λx c' hx=>?_,λx c' hx=>?_,λq hq hf=>?_⟩
   ·rcases e2 x c' hx with z|⟨z,q,hq,z1,z2⟩
    ·rw[z79] at z
     cases hb:x == p.1 with
     |true=>
      simp[hb] at z
      subst z
      have hb':x=p.1:=by simpa using hb
      exact .inr ⟨by rw[hb'];exact hc,p,z6U,hb'.symm,hp⟩
     |false=>simp[hb] at z;exact .inl z
    ·exact .inr ⟨z,q,z6H _ hq,z1,z2⟩
   ·cases hb:x == p.1 with
    |true=>exact e3 x c (by simp[z79,hb])
    |false=>exact e3 x c' (by simp[z79,hb,hx])
   ·rcases z75.mp hq with rfl|hq
    ·exact e3 _ c (by simp[z79])
    ·exact e4 q hq hf
  ·rw[if_neg (by simp[hp])]
   obtain⟨cl,e1,e2,e3,e4⟩:=ih cs λq hq=>h q (z6H _ hq)
   refine⟨cl,e1,λx c' hx=>?_,e3,λq hq hf=>?_⟩
   ·rcases e2 x c' hx with z|⟨z,q,hq,z1,z2⟩
    ·exact .inl z
    ·exact .inr ⟨z,q,z6H _ hq,z1,z2⟩
   ·rcases z75.mp hq with rfl|hq
    ·exact absurd hf hp
    ·exact e4 q hq hf
noncomputable def YB(sc:Scope):List Str:=(sc.names.filter λp=>p.2 == .globalImplicit).map (·.1)
noncomputable def frees(sc:Scope):List Str:=(sc.names.filter λp=>p.2 == .free).map (·.1)
theorem wX{sc:Scope}{x:Str}:x∈frees sc↔∃p∈sc.names,p.1=x/\p.2=.free:=by
 unfold frees
 simp only[z7K,z7d,beq_iff_eq]
 constructor
 ·rintro⟨p,⟨h1,h2⟩,h3⟩;exact⟨p,h1,h3,h2⟩
 ·rintro⟨p,h1,h3,h2⟩;exact⟨p,⟨h1,h2⟩,h3⟩
theorem yf{sc:Scope}{env:Env}(h:∀x∈frees sc,∃c,env.cells.lookup x=some c) :
  ∃cl,zbA sc env=pure cl/\(∀x c,cl.lookup x=some c->env.cells.lookup x=some c/\x∈frees sc)/\∀x∈frees sc,∃c,cl.lookup x=some c:=by
 obtain⟨cl,e1,e2,e3,e4⟩:=z0m env sc.names [] λp hp hf=>h p.1 (wX.mpr ⟨p,hp,rfl,hf⟩)
 refine⟨cl,?_,λx c hx=>?_,λx hx=>?_⟩
 ·rw[←e1]
  unfold zbA
  simp
 ·rcases e2 x c hx with z|⟨z,p,hp,z1,z2⟩
  ·simp at z
  ·exact⟨z,wX.mpr ⟨p,hp,z1,z2⟩⟩
 ·obtain⟨p,hp,rfl,hf⟩:=wX.mp hx
  exact e4 p hp hf
section
variable {M:Model}{A:Around}{E:Value->Shared->Prop}{s:Shared}{env:Env}
noncomputable def ZJ(M:z9J)(A:z7b)(E:Value->z6z->Prop)(use:Option (Value->Sem Unit))(Q:Value->z6z->Prop)(acc:Value)(ce:Env):Result->z6z->Prop
 |.ok _,t=>(match use with
  |none=>∃m,t.heap.Ns ce.locals m/\∀g,z7p ce.locals t.heap g->Q acc {t with heap:=g}
  |some u=>z6I M A (u acc) (λ_ t2=>∃m,t2.heap.Ns ce.locals m/\∀g,z7p ce.locals t2.heap g->Q .none {t2 with heap:=g}) E t)
 |.error x,t=>∃m,t.heap.Ns ce.locals m/\∀g,z7p ce.locals t.heap g->z6I M A (passOn "comprehension.variables-let-go" x ce:Sem Value) (λ_ _=>False) E {t with heap:=g}
theorem z0y{e:Expr}{sc:Scope}{pos:Pos}{mk fst:Sem Value}{g:Comprehension}{gs:List Comprehension}{cl:List (Str×Addr)}{use:Option (Value->Sem Unit)}{Q:Value->z6z->Prop}
  (h1:clausesOf e=g::gs) (h2:∀x,z7A g.iter env x=pure x) (h3:zbA sc env=pure cl) (h4:sc.kind=.function) (h5:∀x∈sc.names,x.2=.local->sc.names.lookup x.1=some .local)
  (h:z6I M A fst (λx t1=>z6I M A (pyIter x) (λit t2=>z6I M A mk (λacc t3=>z6I M A (newFunctionEnv sc env.globals cl [] env.qual none .none (some env)) (λce t4=>
    z92 M A (.compStart e 0 it acc {ce with scope:=z7L sc env}) (ZJ M A E use Q acc {ce with scope:=z7L sc env}) t4) E t3) E t2) E t1) E s) :
  z6I M A (zab e sc env pos mk false fst use) Q E s:=by
 unfold zab
 rw[h3,h1]
 have id2:∀(x:Value) (t:z6z),E x t->E x t:=λ_ _ z=>z
 refine z6w (z7f h (λx t1 q1=>?_) id2)
 refine z6w (z7x (z6w (z99 (h2 x) (z6w (z77 (z7f q1 (λit t2 q2=>?_) id2))))))
 refine wpAny_standIf (z6w (z7f q2 (λacc t3 q3=>?_) id2))
 refine z6w (z6F (z6w (z7f q3 (λce t4 q4=>?_) id2)))
 dsimp only
 have lc:∀y∈(sc.names.filter λx=>(x.2 == .local || x.2 == .cell)&&x.1 != (".0":Str)),y.2=.local->Env.kindOf {ce with scope:=z7L sc env} y.1=some .local:=
  λy hy hl=>lookup_relabel_local (h5 y (z7d.mp hy).1 hl)
 have lr:∀y∈(sc.names.filter λx=>(x.2 == .local || x.2 == .cell)&&x.1 != (".0":Str)).reverse,y.2=.local->Env.kindOf {ce with scope:=z7L sc env} y.1=some .local:=
  λy hy=>lc y (List.mem_reverse.mp hy)
 refine z77 (z6w (zaa (z77 (wpAny_run (z8a q4 λr t5 q5=>?_)))))
 cases r with
 |error x=>
  obtain⟨m,hn,q6⟩:=q5
  refine z6w (z77 (zap (cenv:={ce with scope:=z7L sc env}) h4 _ t5 m lr hn λg m' _ sb=>?_))
  exact z7f (q6 g sb) (λ_ _ z=>z.elim) id2
 |ok f=>
  cases use with
  |none=>
   obtain⟨m,hn,q6⟩:=q5
   exact z6w (z77 (zap (cenv:={ce with scope:=z7L sc env}) h4 _ t5 m lr hn λg m' _ sb=>z6F (q6 g sb)))
  |some u=>
   refine z6w (zcV (z6w (z77 (z7f q5 (λ_ t6 q6=>?_) id2))))
   obtain⟨m,hn,q6⟩:=q6
   refine z6w (zap (cenv:={ce with scope:=z7L sc env}) h4 _ t6 m (λy hy=>?_) hn λg m' _ sb=>z6F (q6 g sb))
   rcases z6K.mp hy with z|z
   ·exact lr y (zb2 z)
   ·exact lr y (z7l z)
end
section
variable {prog:Program}{w:World}{A:Around}{R:Result->Shared->Prop}{s:Shared}
theorem Xf(elt target iter:Expr)(ifs:List Expr)(scope:Scope)(pos:Pos)(it acc:Value)(env:Env) :
  compTurn (.ListComp elt [⟨target,iter,ifs,0⟩] scope pos) 0 it acc env=(standAt iter.pos >>= λ_=>pyNext it >>= λr=>match r with
   |none=>pure (.done .next)
   |some v=>z90 target it v >>= λ_=>za7 target env v >>= λ_=>
    (forIn ifs true λc s=>if s=true then isTrue c env (eval c env) >>= λok=>pure (z7S ok) else pure (z7S s)) >>= λok=>
     if ok=true then (eval elt env >>= λx=>call (.builtin "list.append") [acc,x] >>= λ_=>pure ()) >>= λ_=>
      again (.compLoop (.ListComp elt [⟨target,iter,ifs,0⟩] scope pos) 0 it acc env)
     else again (.compLoop (.ListComp elt [⟨target,iter,ifs,0⟩] scope pos) 0 it acc env)):=by rfl
noncomputable def kQ(M:z9J)(A:z7b)(env:Env)(E:Value->z6z->Prop):List Expr->(Bool->z6z->Prop)->z6z->Prop
 |[],Q,s=>Q true s
 |c::cs,Q,s=>z6I M A (isTrue c env (eval c env)) (λb s1=>if b=true then kQ M A env E cs Q s1 else Q false s1) E s
theorem u_{M:z9J}{env:Env}{E:Value->z6z->Prop}{Q:Bool->z6z->Prop}:∀(cs:List Expr) {s:z6z},Q false s->
  z6I M A (forIn cs false λc s=>if s=true then isTrue c env (eval c env) >>= λok=>pure (z7S ok) else pure (z7S s)) Q E s
 |[],s,h=>z6F h
 |c::cs,s,h=>by
  rw[zaL]
  refine z6w ?_
  rw[if_neg (by decide)]
  exact z6F (u_ cs h)
theorem QJ{M:z9J}{env:Env}{E:Value->z6z->Prop}{Q:Bool->z6z->Prop}:∀(cs:List Expr) {s:z6z},kQ M A env E cs Q s->
  z6I M A (forIn cs true λc s=>if s=true then isTrue c env (eval c env) >>= λok=>pure (z7S ok) else pure (z7S s)) Q E s
 |[],s,h=>z6F h
 |c::cs,s,h=>by
  rw[zaL]
  refine z6w ?_
  rw[if_pos rfl]
  refine z6w (thn h λb s1 h1=>z6F ?_)
  cases b with
  |true=>rw[if_pos rfl] at h1;exact QJ cs h1
  |false=>rw[if_neg (by decide)] at h1;exact u_ cs h1
theorem K8{elt target iter:Expr}{ifs:List Expr}{scope:Scope}{pos:Pos}{it acc:Value}{env:Env}(I:Nat->z6z->Prop)
  (turn:∀n s,I n s->z6I (z6L prog w) A (pyNext it) (λr s₁=>match r with
   |none=>R (.ok .next) s₁
   |some v=>z6I (z6L prog w) A (z90 target it v) (λ_ s₂=>z6I (z6L prog w) A (za7 target env v) (λ_ s₃=>kQ (z6L prog w) A env (zcF (z6L prog w) A env λx s'=>R (.error x) s') ifs (λb s₄=>
     if b=true then z6I (z6L prog w) A (eval elt env) (λx s₅=>z6I (z6L prog w) A (call (.builtin "list.append") [acc,x]) (λ_ s₆=>∃m,m<n/\I m s₆) (λ_ _=>False) s₅) (zcF (z6L prog w) A env λx s'=>R (.error x) s') s₄ else ∃m,m<n/\I m s₄) s₃) (λ_ _=>False) s₂) (λ_ _=>False) s₁) (λ_ _=>False) s)
  (n:Nat) (h:I n s):z92 (z6L prog w) A (.compLoop (.ListComp elt [⟨target,iter,ifs,0⟩] scope pos) 0 it acc env) R s:=by
 refine codeAny_loop rfl I (λn s hI=>?_) n h
 show z6I _ _ ((compTurn (.ListComp elt [⟨target,iter,ifs,0⟩] scope pos) 0 it acc env).onRaise (λx=>do zce x env;theTreesLotGoes x)) _ _ s
 refine wpAny_noted ?_
 rw[Xf]
 have nx:∀{α:Type} {t:Sem α} {Q:α->z6z->Prop} {s:z6z} {N:Value->z6z->Prop},z6I (z6L prog w) A t Q (λ_ _=>False) s->z6I (z6L prog w) A t Q N s:=λh=>z7f h (λ_ _ q=>q) λ_ _ z=>z.elim
 refine z6w (z7x (z6w (nx (thn (turn n s hI) λr s₁ h₁=>?_))))
 cases r with
 |none=>exact z6F h₁
 |some v=>
  refine z6w (nx (thn h₁ λ_ s₂ h₂=>?_))
  refine z6w (nx (thn h₂ λ_ s₃ h₃=>?_))
  refine z6w (thn (QJ ifs h₃) λb s₄ h₄=>?_)
  cases b with
  |true=>
   rw[if_pos rfl] at h₄ ⊢
   exact z6w (z6w (thn h₄ λx s₅ h₅=>z6w (nx (thn h₅ λ_ s₆ h₆=>z6F (z6F ⟨rfl,h₆⟩)))))
  |false=>
   rw[if_neg (by decide)] at h₄ ⊢
   exact z6F ⟨rfl,h₄⟩
end
noncomputable abbrev noW:XW:=λ_ _ _ _=>False
noncomputable def cxC (X:Cx)(N:List Str)(sc:Scope)(cl:List (Str×Addr))(C0:Addr)(s3:z6z)(H3:Hp)(fp:List Addr):Cx:=
 {X with N:=N,s₀:=s3,H₀:=H3,env:=z8O sc cl C0 X.env,outer:=X.stack,ex:=fp,fn:=λ_=>false,pn:=[],xe:=λ_ _=>False}
noncomputable def Vr(N cel:List Str)(tg:Expr)(sc:Scope):Bool:=
 (sc.kind == .function)&&sc.names.all (λp=>p.2 != .cell)&&sc.names.all (λp=>p.2 != .local || sc.names.lookup p.1 == some .local)&&
 (z8 tg).all (λx=>sc.names.lookup x == some .local&&x != ("__debug__":Str)&&x != ("__classdict__":Str))&&(frees sc).all (λx=>(idx N x).isSome&&sc.names.lookup x == some .free&&cel.contains x&&x != ("__debug__":Str)&&x != ("__classdict__":Str))&&decide ((z8 tg++frees sc).Nodup)&&
 (YB sc).all (λx=>sc.names.lookup x == some .globalImplicit)
structure CompOk(N cel:List Str)(tg:Expr)(sc:Scope):Prop where
 kind:sc.kind=.function
 noc:∀p∈sc.names,p.2≠.cell
 lcl:∀p∈sc.names,p.2=.local->sc.names.lookup p.1=some .local
 own:∀x∈z8 tg,sc.names.lookup x=some .local/\(x == ("__debug__":Str))=false/\(x == ("__classdict__":Str))=false
 fre:∀x∈frees sc,(∃i,idx N x=some i)/\sc.names.lookup x=some .free/\x∈cel/\(x == ("__debug__":Str))=false/\(x == ("__classdict__":Str))=false
 nd:(z8 tg++frees sc).Nodup
 glb:∀x∈YB sc,sc.names.lookup x=some .globalImplicit
theorem JM{N cel:List Str}{tg:Expr}{sc:Scope}(h:Vr N cel tg sc=true):CompOk N cel tg sc:=by
 unfold Vr at h
 simp only[z6x,z7k,beq_iff_eq,bne_iff_ne,zaM,decide_eq_true_eq,z7i,z8V,ne_eq] at h
 obtain⟨⟨⟨⟨⟨⟨h1,h2⟩,h3⟩,h4⟩,h5⟩,h6⟩,h7⟩:=h
 refine⟨h1,h2,λp hp hl=>?_,λx hx=>?_,λx hx=>?_,h6,h7⟩
 ·rcases h3 p hp with z|z
  ·exact absurd hl z
  ·exact z
 ·obtain⟨⟨a,b⟩,c⟩:=h4 x hx
  exact⟨a,by simpa using b,by simpa using c⟩
 ·obtain⟨⟨⟨⟨a,b⟩,c⟩,d⟩,e⟩:=h5 x hx
  exact⟨a,b,c,by simpa using d,by simpa using e⟩
theorem z_{env:Env}{x:Str}:∀{names:List (Str×z9N)} {kd:z9N},names.lookup x=some kd->
  (names.map λ(n,k)=>if (k == zac&&env.scope.kind == .function&&env.kindOf n == some .cell) then (n,NameKind.cell) else (n,k)).lookup x=some (if (kd == zac&&env.scope.kind == .function&&env.kindOf x == some .cell) then .cell else kd)
 |[],_,h=>by simp at h
 |(n,k)::r,kd,h=>by
  have ih:=@z_ env x r kd
  rw[z7g]
  rw[z79] at h
  cases hx:x == n with
  |true=>
   have hx':x=n:=by simpa using hx
   subst hx'
   simp at h
   subst h
   dsimp only
   split<;>simp_all[z79]
  |false=>
   simp only[hx] at h
   dsimp only
   split
   ·rw[z79];simp only[hx];exact ih h
   ·rw[z79];simp only[hx];exact ih h
section
variable {X:Cx}{D:DP}{W:XW}{Γ:Cn}{k:Nat}{pins:List (Addr×Obj)}{s2:Shared}{σ:St}{H2:Hp}{φ α:List Addr}{τ:Sl}{μ:Mem}{tg:Expr}{sc:Scope}{cl:List (Str×Addr)}{fp:List Addr}
noncomputable def QO (N:List Str)(σ:St)(fs:List Str):St:=fs.map λx=>(idx N x).bind λi=>(σ[i]?).join
noncomputable def j1 (N:List Str):List Str->Option (List Nat)
 |[]=>some []
 |x::r=>match idx N x,j1 N r with
  |some i,some is=>some (i::is)
  |_,_=>none
theorem Z_:∀(n:Nat) {fs:List Nat} {τ:Sl},blk n fs τ=z8K n none++V9 fs τ
 |0,_,_=>rfl
 |n+1,fs,τ=>by
  show none::blk n fs τ=_
  rw[Z_ n];rfl
theorem yp:∀{fs:List Nat} {τ:Sl},(V9 fs τ).length=fs.length
 |[],_=>rfl
 |i::r,τ=>by show (V9 r τ).length+1=_;rw[yp];rfl
theorem yi:∀{N xs:List Str} {fs:List Nat},j1 N xs=some fs->fs.length=xs.length
 |N,[],fs,h=>by cases h;rfl
 |N,x::r,fs,h=>by
  simp only[j1] at h
  split at h
  ·rename_i i is h1 h2
   cases h
   simp[yi h2]
  ·cases h
theorem W6{N:List Str}{H:Hp}(sr:SRel D φ α H τ σ):∀{xs:List Str} {fs:List Nat},j1 N xs=some fs->∀(j:Nat) (t:T),(V9 fs τ)[j]?=some (some t)->∃v,(QO N σ xs)[j]?=some (some v)/\Den D φ α H t v
 |[],fs,h,j,t,e=>by cases h;simp[V9] at e
 |x::r,fs,h,j,t,e=>by
  simp only[j1] at h
  split at h
  ·rename_i i is h1 h2
   cases h
   cases j with
   |zero=>
    have e:some (Wq τ i)=some (some t):=e
    obtain⟨v,hv,d⟩:=sr.get (z6A e)
    exact⟨v,by simp[QO,h1,hv],d⟩
   |succ j=>
    have e:(V9 is τ)[j]?=some (some t):=e
    obtain⟨v,hv,d⟩:=W6 sr h2 j t e
    exact⟨v,by simpa[QO] using hv,d⟩
  ·cases h
theorem z0F{N:List Str}{H:Hp}{ns xs:List Str}{fs:List Nat}(sr:SRel D φ α H τ σ)(h:j1 N xs=some fs):SRel D φ α H (blk ns.length fs τ) (ns.map (λ_=>none)++QO N σ xs):=by
 rw[Z_]
 refine⟨by simp[yp,yi h,QO],λj t e=>?_⟩
 rcases zdB j ns.length with hj|hj
 ·rw[z6B (by simpa using hj),z8n] at e
  split at e<;>cases e
 ·rw[z6S (by simpa using hj)] at e
  rw[z6S (by simpa using hj)]
  simp only[z6Q,zaO] at e ⊢
  exact W6 sr h _ t e
theorem WS(C:Ck D W Γ X k)(ok:CompOk Γ.N Γ.cel tg sc)(I2:Inv X pins σ H2 s2)(hf:∀b∈fp,Q0 X pins H2 b)(hfo:∀b∈fp,∃o,s2.heap.get? b=some o)(hcl:∀x c,cl.lookup x=some c->X.env.cells.lookup x=some c/\x∈frees sc)(hcl2:∀x∈frees sc,∃c,cl.lookup x=some c)
  {h1:Heap} (hns:h1.Ns (s2.heap.objs.size+1) (λ_=>none)) (hsb:z7p (s2.heap.objs.size+1) ((s2.heap.push {cls:=.type "list",data:=.seq ([]:List Value).toArray}).push {cls:=.type "dict",data:=.dict #[]}) h1) {tk:Nat} :
  Inv X pins σ (upd H2 s2.heap.objs.size (.lst [])) {s2 with heap:=s2.heap.push {cls:=.type "list",data:=.seq ([]:List Value).toArray}}/\
  Inv (cxC X (z8 tg++frees sc) sc cl (s2.heap.objs.size+1) {s2 with heap:=s2.heap.push {cls:=.type "list",data:=.seq ([]:List Value).toArray}} (upd H2 s2.heap.objs.size (.lst [])) fp) []
   ((z8 tg).map (λ_=>none)++QO Γ.N σ (frees sc)) (upd H2 s2.heap.objs.size (.lst [])) {s2 with heap:=h1,toks:=tk}:=by
 have I3:Inv X pins σ (upd H2 s2.heap.objs.size (.lst [])) {s2 with heap:=s2.heap.push {cls:=.type "list",data:=.seq ([]:List Value).toArray}}:=I2.lnew (its:=[]) (t':=s2.toks) .nil (by simp)
 refine⟨I3,?_⟩
 generalize hA:s2.heap.push {cls:=.type "list",data:=.seq ([]:List Value).toArray}=HA at hsb I3 ⊢
 have szA:HA.objs.size=s2.heap.objs.size+1:=by rw[←hA,z8J]
 have old:∀b o,HA.get? b=some o->h1.get? b=some o:=λb o e=>hsb.extBut b o (by rw[←szA];exact z73 (z6R e)) (z6y _ e)
 have fresh:(upd H2 s2.heap.objs.size (.lst [])) (s2.heap.objs.size+1)=none:=by rw[←szA];exact I3.hok.fresh (z6E _)
 have kindC:∀x∈frees sc,(cxC X (z8 tg++frees sc) sc cl (s2.heap.objs.size+1) {s2 with heap:=HA} (upd H2 s2.heap.objs.size (.lst [])) fp).env.kindOf x=some .cell\/(cxC X (z8 tg++frees sc) sc cl (s2.heap.objs.size+1) {s2 with heap:=HA} (upd H2 s2.heap.objs.size (.lst [])) fp).env.kindOf x=some .free:=λx hx=>by
  have:=z_ (env:=X.env) (ok.fre x hx).2.1
  show (z7L sc X.env).names.lookup x=some .cell\/(z7L sc X.env).names.lookup x=some .free
  unfold z7L
  dsimp only
  rw[this]
  split
  ·exact .inl rfl
  ·exact .inr rfl
 refine⟨⟨I2.ok.mod,ok.kind,I2.ok.glob,I2.ok.blt,?_,?_,?_,λx c h=>absurd h (by simp[cxC]),I2.ok.hd,I2.ok.frames,.inl rfl,?_,?_,?_,?_,?_,?_,?_⟩,rfl,I2.bare,Un.kept old,⟨_,hns,?_⟩,?_,fresh,?_,λp hp=>absurd hp (by simp[cxC]),I3.hok.kept old,?_⟩
 ·show HA.objs.size<=s2.heap.objs.size+1
  omega
 ·intro x y c h1 h2
  exact I2.ok.inj x y c (hcl x c h1).1 (hcl y c h2).1
 ·intro x hx
  have hx':(z7L sc X.env).names.lookup x=some .cell\/(z7L sc X.env).names.lookup x=some .free:=hx
  by_cases hm:x∈frees sc
  ·exact hcl2 x hm
  ·exfalso
   cases q:sc.names.lookup x with
   |none=>
    have:(z7L sc X.env).names.lookup x=none:=by
     unfold z7L
     dsimp only
     rw[List.lookup_eq_none_iff] at q ⊢
     intro p hp
     obtain⟨p0,hp0,rfl⟩:=z7K.mp hp
     have:=q p0 hp0
     try dsimp only
     split<;>exact this
    rw[this] at hx'
    rcases hx' with z|z<;>cases z
   |some kd=>
    have hr:=z_ (env:=X.env) q
    have hx2:=hx'
    unfold z7L at hx2
    dsimp only at hx2
    rw[hr] at hx2
    have hmem:(x,kd)∈sc.names:=z7n q
    by_cases hkf:kd=.free
    ·exact hm (wX.mpr ⟨_,hmem,rfl,hkf⟩)
    ·have e:(kd == zac)=false:=by simpa using hkf
     rw[e] at hx2
     simp only[zcJ,z9U,if_false,za3] at hx2
     rcases hx2 with z|z
     ·exact ok.noc _ hmem z
     ·exact hkf z
 ·intro b hb
  obtain⟨f0,f1,f2,f3,f4,f5⟩:=hf b hb
  obtain⟨o,ho⟩:=hfo b hb
  refine⟨?_,λx c h=>f4 x c (hcl x c h).1⟩
  show b≠s2.heap.objs.size+1
  exact z73 (za4 (z6R ho))
 ·intro b o e
  exact I3.bs b o e
 ·exact z6X I3.ok.bsz I3.sz
 ·intro b o e hb
  obtain⟨f0,f1,f2,f3,f4,f5⟩:=hf b hb
  rcases f3 with z|z
  ·exact I2.ok.noex b o e z
  ·exact absurd (z6N (z6R e) (z6X I2.ok.bsz z)) (z8e _)
 ·intro b hb hfs
  obtain⟨f0,f1,f2,f3,f4,f5⟩:=hf b hb
  rcases z75.mp (I2.stkSub b hfs) with z|z
  ·exact f1 z
  ·exact f2 z
 ·exact I3.stack
 ·intro b hb
  exact I3.stkFree b hb
 ·intro i x v hN hσ hv
  obtain⟨m,hn,hl⟩:=I2.loc
  by_cases hi:i<(z8 tg).length
  ·exfalso
   rw[z6B (by simpa using hi),z78] at hσ
   cases q:(z8 tg)[i]? with
   |none=>rw[q] at hσ;cases hσ
   |some y=>rw[q] at hσ;cases hσ
  ·have hN':(frees sc)[i-(z8 tg).length]?=some x:=by
    have:(z8 tg++frees sc)[i]?=some x:=hN
    rwa[z6S (by omega)] at this
   rw[z6S (by simpa using hi)] at hσ
   simp only[z6Q] at hσ
   unfold QO at hσ
   rw[z78,hN'] at hσ
   simp only[zaN,za3] at hσ
   have hx:x∈frees sc:=z6M hN'
   obtain⟨⟨j,hj⟩,_,hcelm,_⟩:=ok.fre x hx
   rw[hj] at hσ
   simp only[z9n] at hσ
   cases u:σ[j]? with
   |none=>rw[u] at hσ;cases hσ
   |some o=>
    rw[u] at hσ
    simp only[Option.join_some] at hσ
    subst hσ
    obtain⟨w,rw',lk⟩:=hl j x v (by rw[C.hN];exact qW hj) u (C.vis x (qL hj))
    refine⟨w,rw',.inr ⟨kindC x hx,?_⟩⟩
    have kx:=C.cel x hcelm
    rcases lk with⟨z,_⟩|⟨_,c,hc,hcell⟩
    ·rw[z] at kx
     rcases kx with kx|kx<;>cases kx
    ·obtain⟨c',hc'⟩:=hcl2 x hx
     have:=(hcl x c' hc').1
     rw[hc] at this
     cases this
     refine⟨c,hc',?_⟩
     obtain⟨oc,ho,hd⟩:=hcell
     exact⟨oc,old c oc (by rw[←hA];exact z6y _ ho),hd⟩
 ·intro x c h
  obtain⟨v,oc,ho,hd⟩:=I2.cell x c (hcl x c h).1
  exact⟨v,oc,old c oc (by rw[←hA];exact z6y _ ho),hd⟩
 ·intro x c h
  exact (I3.freeC x c (hcl x c h).1).imp id λz=>⟨rfl,z.2⟩
 ·show _=(z8 tg++frees sc).length
  simp[QO]
end
section
variable {X:Cx}{D:DP}{W:XW}{Γ:Cn}{k:Nat}{pins:List (Addr×Obj)}{s:Shared}{σ:St}{H:Hp}{φ α:List Addr}{τ:Sl}{μ:Mem}{tg iter elt:Expr}{sc:Scope}{fp:List Addr}{pos pos':Pos}
noncomputable def inComp(Γ:Cn)(tg:Expr)(sc:Scope):Cn:={Γ with N:=z8 tg++frees sc,G:=(YB sc).filter Γ.U.contains,cel:=frees sc,lam:=none}
theorem z0E{W':XW}{pn:List (Addr×Obj)}{xe:Value->z6z->Prop}(C:Ck D W Γ X k)(ok:CompOk Γ.N Γ.cel tg sc){cl:List (Str×Addr)}{C0:Addr}{s3:z6z}{H3:Hp}
  (hxe:∀e s,XP {(cxC X (z8 tg++frees sc) sc cl C0 s3 H3 fp) with pn:=pn,xe:=xe} W' e s->xe e s):Ck D W' (inComp Γ tg sc) {(cxC X (z8 tg++frees sc) sc cl C0 s3 H3 fp) with pn:=pn,xe:=xe} k:=by
 have kindC:∀x∈frees sc,(z7L sc X.env).names.lookup x=some .cell\/(z7L sc X.env).names.lookup x=some .free:=λx hx=>by
  have:=z_ (env:=X.env) (ok.fre x hx).2.1
  unfold z7L
  dsimp only
  rw[this]
  split
  ·exact .inl rfl
  ·exact .inr rfl
 have other:∀{x kd},sc.names.lookup x=some kd->kd≠.free->(z7L sc X.env).names.lookup x=some kd:=λ{x kd} h hk=>by
  have:=z_ (env:=X.env) h
  unfold z7L
  dsimp only
  rw[this]
  have e:(kd == zac)=false:=by simpa using hk
  simp[e]
 refine⟨C.hK,rfl,ok.nd,λx hx=>?_,λx hx=>?_,λx hx=>?_,λx hx=>?_,λx hx=>?_,C.glU,kindC,C.isi,C.fld,C.xcx,C.ocx,C.clv,C.clm,C.rom,C.rmh,hxe,?_,LamOk.no rfl,λh=>by cases h⟩
 ·rcases z6K.mp hx with h|h
  ·exact .inl (other (ok.own x h).1 (by decide))
  ·rcases kindC x h with z|z
   ·exact .inr (.inl z)
   ·exact .inr (.inr z)
 ·rcases z6K.mp hx with h|h
  ·exact (ok.own x h).2
  ·exact (ok.fre x h).2.2.2
 ·exact (C.glU x (by have:=(z7d.mp hx).2;simpa using this)).2
 ·exact other (ok.glb x (z7d.mp hx).1) (by decide)
 ·exact (C.glU x (by have:=(z7d.mp hx).2;simpa using this)).1
 ·obtain⟨e0,out,L,F⟩:=C.frm
  exact⟨e0,out,L,⟨F.stk,F.f0,F.fe⟩⟩
theorem Xa(ok:CompOk Γ.N Γ.cel tg sc){cl:List (Str×Addr)}{C0:Addr}{s3:z6z}{H3:Hp}:Sto (cxC X (z8 tg++frees sc) sc cl C0 s3 H3 fp) (z8 tg):=λx hx=>by
 have e:=z_ (env:=X.env) (ok.own x hx).1
 have e':(z7L sc X.env).names.lookup x=some .local:=by
  unfold z7L
  dsimp only
  rw[e]
  rfl
 exact⟨.inl e',.inr e'⟩
theorem WA{M:List Str}{x:Str}:∀{L:List Str} {i:Nat},x∈L->idx (L++M) x=some i->i<L.length
 |[],_,h,_=>absurd h (by simp)
 |y::L,i,h,e=>by
  rw[zci] at e
  simp only[idx] at e
  split at e
  ·cases e;simp
  ·rename_i hn
   have hm:x∈L:=(z75.mp h).resolve_left λz=>hn z.symm
   cases q:idx (L++M) x with
   |none=>rw[q] at e;cases e
   |some j=>rw[q] at e;cases e;simpa using WA hm q
theorem Zv{n i:Nat}{t:Option T}{τ:Sl}(h:i<n):∀j,n<=j->(jz τ i t)[j]?=τ[j]?:=λj hj=>by
 rw[xR,z6D (by omega)]
theorem Ze{L M:List Str}:∀{es:List Expr} {is:List Nat} {ts:List T} {τ τ':Sl},(∀e∈es,∀x p,e=.Name x p->x∈L)->idxs (L++M) es=some is->QS is ts τ=some τ'->∀j,L.length<=j->τ'[j]?=τ[j]?
 |[],is,ts,τ,τ',_,h0,h=>by
  cases h0
  cases ts with
  |nil=>cases h;exact λ_ _=>rfl
  |cons _ _=>cases h
 |e::es,is,ts,τ,τ',hn,h0,h=>by
  cases e with
  |Name x p0=>
   simp only[idxs] at h0
   split at h0
   ·rename_i i is' hi his
    cases h0
    cases ts with
    |nil=>cases h
    |cons t ts=>
     intro j hj
     rw[Ze (λe he=>hn e (z6H _ he)) his (show QS is' ts (jz τ i (some t))=some τ' from h) j hj]
     exact Zv (WA (hn _ z6U x p0 rfl) hi) j hj
   ·cases h0
  |_=>simp[idxs] at h0
theorem Yp{M:List Str}{e:Expr}{tgt:Tg}{t:T}{τ τ':Sl}(h0:wo (z8 e++M) e=some tgt)(h:asg tgt t τ=some τ'):∀j,(z8 e).length<=j->τ'[j]?=τ[j]?:=by
 cases e with
 |Name x p0=>
  simp only[wo] at h0
  cases q:idx (z8 (.Name x p0)++M) x with
  |none=>rw[q] at h0;cases h0
  |some i=>
   rw[q] at h0;cases h0
   cases (z6A h:jz τ i (some t)=τ')
   exact Zv (WA (by simp[z8]) q)
 |Tuple es kk p0=>
  simp only[wo] at h0
  cases q:idxs (z8 (.Tuple es kk p0)++M) es with
  |none=>rw[q] at h0;cases h0
  |some is=>
   rw[q] at h0;cases h0
   cases t with
   |tup ts=>exact Ze (λe he x p hx=>by subst hx;exact z8t.mpr ⟨_,he,rfl⟩) q h
   |_=>cases h
 |_=>simp[wo] at h0
noncomputable def Vj (X:Cx)(D:DP)(W:XW):List Expr->List Dt->Prop
 |[],[]=>True
 |e::es,f::fs=>PT X e (rdT D W f)/\Vj X D W es fs
 |_,_=>False
theorem XD{M:z9J}{A:z7b}{β:Type}{R:β->Mem->List Addr->Hp->Prop}{fe:De}{kk:Option T->Mem->RE β}{Qf:Bool->z6z->Prop}:∀{cs:List Expr} {fs:List Dt} {s:z6z} {H:Hp} {α:List Addr} {μ:Mem},Vj X D W cs fs->Inv X pins σ H s->SRel D φ α H τ σ->MRel D φ α H μ->Post D W φ α H σ R ((xx fs fe τ μ).bind kk)->
  (∀s' H' α' μ',Inv X pins σ H' s'->Stp α H α' H'->SRel D φ α' H' τ σ->MRel D φ α' H' μ'->Post D W φ α' H' σ R ((fe τ μ').bind λy μ1=>kk (some y) μ1)->Qf true s')->
  (∀s' H' α' μ',Inv X pins σ H' s'->Stp α H α' H'->SRel D φ α' H' τ σ->MRel D φ α' H' μ'->Post D W φ α' H' σ R (kk none μ')->Qf false s')->
  kQ (z6L X.prog X.w) X.A X.env X.xe cs Qf s
 |[],[],s,H,α,μ,_,I,sr,mr,p,h1,_=>h1 s H α μ I (Stp.refl _ _) sr mr p
 |[],_::_,_,_,_,_,h,_,_,_,_,_,_=>h.elim
 |_::_,[],_,_,_,_,h,_,_,_,_,_,_=>h.elim
 |c::cs,f::fs,s,H,α,μ,h,I,sr,mr,p,h1,h2=>by
  have p:Post D W φ α H σ R ((f τ μ).bind λb μ1=>(RE.br b (xx fs fe τ μ1) (.ok none μ1)).bind kk):=p
  refine thn (z4y h.1 I sr mr p) ?_
  rintro b s1 ⟨H1,μ1,α1,I1,st1,sr1,mr1,p1⟩
  cases b with
  |true=>
   rw[if_pos rfl]
   exact XD (M:=M) (A:=A) h.2 I1 sr1 mr1 p1 (λs' H' α' μ' a b=>h1 s' H' α' μ' a (st1.trans b)) (λs' H' α' μ' a b=>h2 s' H' α' μ' a (st1.trans b))
  |false=>
   rw[if_neg (by decide)]
   exact h2 s1 H1 α1 μ1 I1 st1 sr1 mr1 p1
end
section
variable {X:Cx}{D:DP}{W:XW}{Γ:Cn}{k:Nat}{pins:List (Addr×Obj)}{s:Shared}{σ:St}{H:Hp}{φ α:List Addr}{τ:Sl}{μ:Mem}{tg iter elt:Expr}{sc:Scope}{fp:List Addr}{pos pos':Pos}
theorem xb{M:z9J}{A:z7b}{env:Env}{E E':Value->z6z->Prop}{Q:Bool->z6z->Prop}(h:∀e s,E e s->E' e s):∀{cs:List Expr} {s:z6z},kQ M A env E cs Q s->kQ M A env E' cs Q s
 |[],_,q=>q
 |c::cs,s,q=>z7f q (λb s1 q1=>by
  cases b with
  |true=>rw[if_pos rfl] at q1 ⊢;exact xb h q1
  |false=>rw[if_neg (by decide)] at q1 ⊢;exact q1) h
theorem XTr.but{C0 x T:Addr}{cls fl:Value}{d:Option Addr}{h g:Heap}(t:XTr h x T cls d fl)(sb:z7p C0 h g)(hx:x≠C0)(hT:T≠C0):XTr g x T cls d fl:=by
 obtain⟨oe,vs,a0,oT,ts,ho,hc,hd,hv0,hv1,hTx,hoT,hdT,h3⟩:=t
 exact⟨oe,vs,a0,oT,ts,sb.extBut x oe hx ho,hc,hd,hv0,hv1,hTx,sb.extBut T oT hT hoT,hdT,h3⟩
theorem xG{C0:Addr}{h':Heap}(I:Inv X pins σ H s)(xo:XOk X H C0)(hp:∀q∈pins,q.1≠C0)(sb:z7p C0 s.heap h'):Inv X pins σ H {s with heap:=h'}:=
 QG (ch:=[C0]) I (λb hb=>by rw[z6J.mp hb];exact⟨xo,hp⟩) (λb o _ hc e=>sb.extBut b o (λz=>hc (by simp[z])) e) λb o _ hc e=>⟨o.slots,sb.extBut b o (λz=>hc (by simp[z])) e⟩
inductive CompI(D:DP)(Xb:Cx)(tn:Nat->Heap->Prop)(fp φ1 α1:List Addr)(H2:Hp)(acc:Addr)(bl:Sl)(xs:List T)(P:Nat->List T->Mem->Prop)(n:Nat)(s':Shared):Prop where
 |mk (i:Nat) (σ':St) (H':Hp) (α':List Addr) (μ':Mem) (yT:List T) (yV:List V) (e:n=xs.length-i) (hi:i<=xs.length) (iv:Inv Xb [] σ' H' s') (t:tn i s'.heap) (fr:∀b∈fp,H' b=none) (st:Stp α1 H2 α' H') (mr:MRel D φ1 α' H' μ') (sr:SRel D φ1 α' H' bl σ') (ac:H' acc=some (.lst yV)) (dl:DenL D φ1 α' H' yT yV) (hy:yT.length<=i) (q:P i yT μ')
inductive CompX(D:DP)(φ1 α1:List Addr)(H2:Hp)(Z0:Xp)(cls:Value)(d:Option Addr)(_:St)(He:Hp):Prop where
 |mk (c:Nat) (fs':List (Nat×T)) (μ':Mem) (α':List Addr) (Cc:Addr) (z:Z0 c fs' μ') (st:Stp α1 H2 α' He) (m:MRel D φ1 α' He μ') (ad:D.adr c=some Cc) (e:cls=.ref Cc) (xd:XDict D φ1 α' He fs' d)
structure XbOk(Xb X:Cx)(env:Env)(N:List Str):Prop where
 pr:Xb.prog=X.prog
 w:Xb.w=X.w
 K:Xb.K=X.K
 A:Xb.A=X.A
 en:Xb.env=env
 ca:Xb.calm=X.calm
 st:Xb.stack=X.stack
 N:Xb.N=N
theorem kE{β:Type}{R:β->Mem->List Addr->Hp->Prop}{fi:Di}{fs:List Nat}{tgt:Tg}{ifs:List Expr}{cs:List Dt}{fe:De}{kk:List T->Mem->RE β}{use:Option (Value->Sem Unit)}{Qf:Value->z6z->Prop}
  (C:Ck D W Γ X k) (hc:Γ.calm=true) (ok:CompOk Γ.N Γ.cel tg sc) (hfs:j1 Γ.N (frees sc)=some fs) (htg:wo (z8 tg++frees sc) tg=some tgt) (hi:PI X tg iter (rdI D W fi)) (hel:∀X' W',Ck D W' (inComp Γ tg sc) X' k->PE X' elt (rdE D W' fe)) (hts:∀X' W',Ck D W' (inComp Γ tg sc) X' k->Vj X' D W' ifs cs) (hs:∀x,z7A iter X.env x=pure x)
  (I:Inv X pins σ H s) (sr:SRel D φ α H τ σ) (mr:MRel D φ α H μ)
  (p:Post D W φ α H σ R ((fi τ μ).go λxs o μ1=>.grd (xs.length<=room) ((qq tgt (xx cs fe) o (blk (z8 tg).length fs τ) xs μ1).bind kk)))
  (Kq:∀acc C0 s' α1 H1 H' α' ys vs μ',Inv X pins σ H' s'->Stp α H α1 H1->Stp α1 H1 α' H'->H1 acc=none->acc∉φ->acc∉α1->SRel D (φ++[acc]) α' H' τ σ->MRel D (φ++[acc]) α' H' μ'->H' acc=some (.lst vs)->DenL D (φ++[acc]) α' H' ys vs->Post D W φ α1 H1 σ R (kk ys μ')->XOk X H' C0->(∀q∈pins,q.1≠C0)->(∃m,s'.heap.Ns C0 m)->
   (match use with
    |none=>∃m,s'.heap.Ns C0 m/\∀g,z7p C0 s'.heap g->Qf (.ref acc) {s' with heap:=g}
    |some u=>z6I (z6L X.prog X.w) X.A (u (.ref acc)) (λ_ t2=>∃m,t2.heap.Ns C0 m/\∀g,z7p C0 t2.heap g->Qf .none {t2 with heap:=g}) X.xe s')) :
  z6I (z6L X.prog X.w) X.A (zab (.ListComp elt [⟨tg,iter,ifs,0⟩] sc pos) sc X.env pos' (newList []) false (eval iter X.env) use) Qf X.xe s:=by
 obtain⟨cl,hclos,hcl,hcl2⟩:=yf (sc:=sc) (env:=X.env) λx hx=>I.ok.has x (C.cel x (ok.fre x hx).2.2.1)
 refine z0y (use:=use) rfl hs hclos ok.kind ok.lcl (thn (hi pins s σ H (λJ H2=>∃xs o μ1 α1 Ok,ItV D J Ok xs/\OkI D φ α1 H2 xs o Ok/\o μ1/\Stp α H α1 H2/\MRel D φ α1 H2 μ1/\
  Post D W φ α1 H2 σ R (.grd (xs.length<=room) ((qq tgt (xx cs fe) o (blk (z8 tg).length fs τ) xs μ1).bind kk))) I
  ⟨φ,α,τ,μ,sr,mr,(show Post D W φ α H σ R ((fi τ μ).re.bind λpr μ1=>.grd (pr.1.length<=room) ((qq tgt (xx cs fe) pr.2 (blk (z8 tg).length fs τ) pr.1 μ1).bind kk)) from p).bind.mono λpr μ' α' H' st m q J Ok iv okk lv=>⟨pr.1,pr.2,μ',α',Ok,iv,okk,lv,st,m,q⟩⟩) λv s1 h1=>thn h1 λitv s2 h2=>?_)
 obtain⟨it,fp,tn,J,H2,rfl,I2,Tn,tn0,f2,xs,Lv,μ1,α1,Ok,iv,okk,lv1,st1,mr1,p1⟩:=h2
 obtain⟨hroom,K0,Z0,q0,hk0,hz0⟩:=p1.grd
 have fo:∀b∈fp,∃o,s2.heap.get? b=some o:=λb hb=>let ⟨o,e,_⟩:=Tn.obj 0 _ tn0 b hb;⟨o,e⟩
 refine z7Q (zb3 ok.noc (by intro y hy;simp at hy) (λh₁ hns₁ hsb₁=>?_) ok.kind)
 have sz:(s2.heap.push {cls:=.type "list",dict:=none,data:=.seq ([]:List Value).toArray}).objs.size=s2.heap.objs.size+1:=z8J ..
 dsimp only at hns₁ hsb₁ ⊢
 rw[sz] at hns₁ hsb₁ ⊢
 have hns:h₁.Ns (s2.heap.objs.size+1) (λ_=>none):=by simpa using hns₁
 obtain⟨I3,J0⟩:=WS (tk:=s2.toks+([]:List (Str×Value)).length) C ok I2 f2 fo hcl hcl2 hns hsb₁
 have hD:H2 s2.heap.objs.size=none:=I2.hok.fresh (z6E _)
 have nph:s2.heap.objs.size∉φ:=zt mr1 hD
 have nal:s2.heap.objs.size∉α1:=zu mr1 hD
 have old:∀b o,s2.heap.get? b=some o->h₁.get? b=some o:=λb o e=>hsb₁.extBut b o (z73 (za4 (z6R e))) (z6y _ (z6y _ e))
 have n3:({s2 with heap:=s2.heap.push {cls:=.type "list",data:=.seq ([]:List Value).toArray}}:z6z).heap.get? (s2.heap.objs.size+1)=none:=z7q (by show (s2.heap.push _).objs.size<=_;rw[z8J];exact z6E _)
 have xo0:=vt I3 n3
 have pn3:∀q∈pins,q.1≠s2.heap.objs.size+1:=λq hq z=>by
  have:=(I3.pin q (z6O _ hq)).1
  rw[z,n3] at this;cases this
 generalize hS3:({s2 with heap:=s2.heap.push {cls:=.type "list",data:=.seq ([]:List Value).toArray}}:z6z)=S3 at I3 J0 n3
 generalize hH3:upd H2 s2.heap.objs.size (.lst [])=H3 at I3 J0 xo0
 generalize hXb:cxC X (z8 tg++frees sc) sc cl (s2.heap.objs.size+1) S3 H3 fp=Xb at J0
 have hXb':XbOk Xb X (z8O sc cl (s2.heap.objs.size+1) X.env) (z8 tg++frees sc):=by subst hXb;exact⟨rfl,rfl,rfl,rfl,rfl,rfl,rfl,rfl⟩
 have sto:Sto Xb (z8 tg):=by subst hXb;exact Xa (Γ:=Γ) ok
 have cm:Xb.calm=true:=by rw[hXb'.ca];exact C.clm hc
 have back:∀{s4:z6z} {σ4:St} {H4:Hp} {pp:List (Addr×Obj)},Inv Xb pp σ4 H4 s4->Inv X pins σ H4 s4:=λ{s4 σ4 H4 pp} I4=>by
  subst hXb
  exact I3.call' (ch:=fp) I4.os I4.base I4.hok I4.bare λb hb=>by
   obtain⟨f0,f1,f2',f3,f4,f5⟩:=f2 b hb
   exact⟨f3,f1,f4,f5⟩
 have fpk:∀{H':Hp},(∀b∈fp,H' b=none)->∀b∈fp,Q0 Xb [] H' b:=λhn b hb=>by
  obtain⟨f0,f1,f2',f3,f4,f5⟩:=f2 b hb
  obtain⟨o,ho⟩:=fo b hb
  subst hXb
  refine⟨hn b hb,z73 (za4 (z6R ho)),λz=>?_,.inl hb,λx c h=>f4 x c (hcl x c h).1,λq hq=>absurd hq (by simp[cxC])⟩
  rcases z75.mp (I2.stkSub b z) with z|z
  ·exact f1 z
  ·exact f2' z
 have TnI:=Tn.item Xb hXb'.pr hXb'.w hXb'.K cm
 have TnD:=Tn.done Xb hXb'.pr hXb'.w hXb'.K cm
 obtain⟨e0,out,L,F⟩:=C.frm
 have ce:(z8O sc cl (s2.heap.objs.size+1) X.env).frame=some L:=F.fe
 obtain⟨NB,hNB⟩:∃NB:Value->z6z->Prop,NB=zcF (z6L X.prog X.w) X.A (z8O sc cl (s2.heap.objs.size+1) X.env) (λx s'=>ZJ (z6L X.prog X.w) X.A X.xe use Qf (.ref s2.heap.objs.size) (z8O sc cl (s2.heap.objs.size+1) X.env) (.error x) s'):=⟨_,rfl⟩
 have leave:∀{pp:List (Addr×Obj)} {e:Value} {t:z6z},(∀b∈fp,∃o,(b,o)∈pp)->XP (Cx.pin' Xb pp) (CompX D (φ++[s2.heap.objs.size]) α1 H2 Z0) e t->
   NB e t:=λ{pp e t} hpp xp=>by
  have Fb:Frm (Cx.pin' Xb pp) e0 out L:=⟨by show Xb.stack=_;rw[hXb'.st];exact F.stk,F.f0,by show Xb.env.frame=_;rw[hXb'.en];exact ce⟩
  have hfr:X.A.frames=some (Cx.pin' Xb pp).stack:=by show _=some Xb.stack;rw[hXb'.st];exact I.ok.frames
  rw[hNB]
  unfold zcF
  rw[show z8O sc cl (s2.heap.objs.size+1) X.env=(Cx.pin' Xb pp).env from hXb'.en.symm]
  refine xK (X:=Cx.pin' Xb pp) Fb hfr xp λx cls d σe He T h' ee Ie ox oT tr w=>?_
  subst ee
  have en:(Cx.pin' Xb pp).env=z8O sc cl (s2.heap.objs.size+1) X.env:=hXb'.en
  rw[en]
  have Iu:Inv Xb pp σe He {t with heap:=h'}:=zU Ie
  have IX:=back Iu
  have nw:∀b,XOk (Cx.pin' Xb pp) He b->XOk X He b/\b≠s2.heap.objs.size+1:=λb o=>by
   have hb:b∉fp:=λz=>by
    obtain⟨ob,hm⟩:=hpp b z
    exact o.pin (b,ob) (z6O _ hm) rfl
   have h3:S3.heap.get? b=none:=by
    have:=o.new
    subst hXb
    exact this.resolve_left hb
   have q:=vt I3 h3
   refine⟨⟨o.free,q.loc,q.nfs,q.new,q.cel,q.pin⟩,?_⟩
   have:=o.loc
   have e2:(Cx.pin' Xb pp).env.locals=s2.heap.objs.size+1:=by rw[en];rfl
   rw[e2] at this;exact this
  have xoC:XOk X He (s2.heap.objs.size+1):=⟨by have:=Iu.free;rw[hXb'.en] at this;exact this,xo0.loc,xo0.nfs,xo0.new,xo0.cel,xo0.pin⟩
  obtain⟨m,hm,_⟩:=Iu.loc
  rw[hXb'.en] at hm
  refine⟨m,hm,λg sb=>?_⟩
  have sb':z7p (s2.heap.objs.size+1) h' g:=sb
  have Ig:Inv X [] σ He {t with heap:=g}:=(xG IX xoC pn3 sb').pins_of λp hp=>absurd hp (by simp)
  have tg':=tr.but sb' (nw x ox).2 (nw T oT).2
  unfold zdC
  obtain⟨oe,vs',a0,oT',ts,ho,hcc,hd,hv0,hv1,hT,hoT,hdT,h3⟩:=id tg'
  refine z6w (z7W ho hd hv1 ?_)
  rw[if_neg (show ¬((z6W T == z7z)=true) from by simp)]
  have go:∀{t2:z6z},XP X W (.ref x) t2->z6I (z6L X.prog X.w) X.A (throw (z6W x):Sem Value) (λ_ _=>False) X.xe t2:=λ{t2} xp=>wpAny_throw (C.xe _ _ xp)
  have fin:z6I (z6L X.prog X.w) X.A (zam (.ref x) (z8O sc cl (s2.heap.objs.size+1) X.env).frame) (λ_ t2=>XP X W (.ref x) t2) X.xe {t with heap:=g}:=by
   refine qG (s:={t with heap:=g}) Ig (nw x ox).1 (nw T oT).1 tg' λh4 I4 tr4=>?_
   obtain⟨c,fs',μ',α',Cc,z,stp,m',ad,rfl,xd⟩:=w
   refine⟨x,.ref Cc,d,σ,He,some T,z7t L,rfl,I4,(nw x ox).1,λt ht=>?_,?_,.inr ⟨L,F.fe,rfl⟩,?_⟩
   ·have:t=T:=by simpa using ht
    rw[this];exact (nw T oT).1
   ·rw[ce] at tr4;exact tr4
   ·refine hz0 c fs' μ' z α' He Cc d stp (m'.lk qy (λa ha=>⟨rfl,λz=>m'.dis a ha (z6G _ z)⟩) λb hb=>m'.phi b (z6G _ hb)) ad (xd.lk qy)
  first
   |exact z6w (thn fin λ_ t2 xp=>go xp)
   |exact z6w (z6F (z6w (thn fin λ_ t2 xp=>go xp)))
 have loop:z92 (z6L X.prog X.w) X.A (.compLoop (.ListComp elt [⟨tg,iter,ifs,0⟩] sc pos) 0 (.ref it) (.ref s2.heap.objs.size) (z8O sc cl (s2.heap.objs.size+1) X.env)) (ZJ (z6L X.prog X.w) X.A X.xe use Qf (.ref s2.heap.objs.size) (z8O sc cl (s2.heap.objs.size+1) X.env)) {s2 with heap:=h₁,toks:=s2.toks+([]:List (Str×Value)).length}:=by
  obtain⟨LI,hLI⟩:∃LI:Nat->z6z->Prop,LI=CompI D Xb tn fp (φ++[s2.heap.objs.size]) α1 H2 s2.heap.objs.size (blk (z8 tg).length fs τ) xs (λi yT μ'=>Lv μ'/\qq tgt (xx cs fe) Lv (blk (z8 tg).length fs τ) (xs.drop i) μ' (λrest μ2=>kk (yT++rest) μ2 K0 Z0) Z0):=⟨_,rfl⟩
  refine K8 LI ?_ xs.length ?_
  ·intro n s' h0
   rw[hLI] at h0
   obtain⟨i,σ',H',α',μ',yT,yV,rfl,hi',Iv,tni,fr,stp,mr',sr',hacc,dly,hyl,lv',hcmi⟩:=h0
   have okH:Ok (φ++[s2.heap.objs.size]) α' H':=okk _ α' H' μ' ((kS hD).trans stp.lk) mr' lv'
   by_cases hlt:i<xs.length
   ·have TI:=TnI i [] s' σ' H' (λ_ _=>False) Iv (fpk fr) tni (iv.go i _ _ H' okH (by omega))
    rw[hXb'.A] at TI
    refine thn TI ?_
    rintro r s4 ⟨u,rfl,h4⟩
    refine thn h4 ?_
    rintro _ s5 ⟨x,H5,I5,r5,y5,tn5,fr5⟩
    obtain⟨sm5,dx'⟩:=iv.yld i _ _ H' x H5 xs[i] okH (by simp[hlt]) y5
    have stp:=stp.trans (Stp.new (α:=α') sm5)
    have sr':=sr'.step (Stp.new (α:=α') sm5)
    have mr':=mr'.new sm5
    have hacc:=sm5 _ _ hacc
    have dly:=dly.step (Stp.new (α:=α') sm5)
    have hdr:xs.drop i=xs[i]::xs.drop (i+1):=z9Z hlt
    rw[hdr] at hcmi
    obtain⟨τ',ha,hfe⟩:=hcmi
    have I5':=I5.pinned (fpk fr5) (Tn.obj _ _ tn5)
    have A6:=WD (S:=z8 tg) (X:=Xb) hXb'.N ok.nd sto cm (λx h=>h) htg ha I5' sr' dx' r5
    rw[hXb'.pr,hXb'.w,hXb'.A,hXb'.en,show Xb.xe=λ_ _=>False by subst hXb;rfl] at A6
    refine thn A6 ?_
    rintro _ s6 ⟨σ6,I6,sr6⟩
    generalize hpp:([]++yL fp s5.heap:List (Addr×Obj))=pp at I6
    have hppm:∀b∈fp,∃o,(b,o)∈pp:=λb hb=>by
     obtain⟨o,e,_⟩:=Tn.obj _ _ tn5 b hb
     exact⟨o,by rw[←hpp];exact z6O _ (vi hb e)⟩
    generalize hW1:CompX D (φ++[s2.heap.objs.size]) α1 H2 Z0=W1
    have lv:∀e t,XP (Cx.pin' Xb pp) W1 e t->NB e t:=λe t xp=>by
     rw[←hW1] at xp;exact leave hppm xp
    have ck:Ck D W1 (inComp Γ tg sc) ((Cx.pin' Xb pp).wish (XP (Cx.pin' Xb pp) W1)) k:=by
     subst hXb
     exact z0E (W':=W1) (pn:=[]++pp) (xe:=XP (Cx.pin' (cxC X (z8 tg++frees sc) sc cl (s2.heap.objs.size+1) S3 H3 fp) pp) W1) C ok λe s p=>kO (X:=Cx.pin' (cxC X (z8 tg++frees sc) sc cl (s2.heap.objs.size+1) S3 H3 fp) pp) p
    have I6':Inv ((Cx.pin' Xb pp).wish (XP (Cx.pin' Xb pp) W1)) [] σ6 H5 s6:=(Qk I6).wish _
    have next:∀{s7:z6z} {H7:Hp} {α7:List Addr} {μ7:Mem} {yT':List T} {yV':List V},Inv ((Cx.pin' Xb pp).wish (XP (Cx.pin' Xb pp) W1)) [] σ6 H7 s7->Stp α1 H2 α7 H7->MRel D (φ++[s2.heap.objs.size]) α7 H7 μ7->SRel D (φ++[s2.heap.objs.size]) α7 H7 τ' σ6->H7 s2.heap.objs.size=some (.lst yV')->DenL D (φ++[s2.heap.objs.size]) α7 H7 yT' yV'->yT'.length<=i+1->
      Lv μ7->qq tgt (xx cs fe) Lv (blk (z8 tg).length fs τ) (xs.drop (i+1)) μ7 (λrest μ2=>kk (yT'++rest) μ2 K0 Z0) Z0->
      ∃m,m<xs.length-i/\LI m s7:=λ{s7 H7 α7 μ7 yT' yV'} I7 st7 m7 sr7 ac7 dy7 hy7 lv7 q7=>by
     have I7u:Inv Xb pp σ6 H7 s7:=zU I7.unwish
     have pinned:∀b∈fp,∃o,s5.heap.get? b=some o/\s7.heap.get? b=some o/\H7 b=none:=λb hb=>by
      obtain⟨o,e,_⟩:=Tn.obj _ _ tn5 b hb
      have:=I7u.pin (b,o) (z6O _ (by rw[←hpp];exact z6O _ (vi hb e)))
      exact⟨o,e,this.1,this.2.1⟩
     refine⟨xs.length-(i+1),by omega,?_⟩
     rw[hLI]
     refine⟨i+1,σ6,H7,α7,μ7,yT',yV',rfl,hlt,I7u.pins_of (λp hp=>absurd hp (by simp)),Tn.keep _ _ _ tn5 (λb hb o e=>?_),λb hb=>(pinned b hb).choose_spec.2.2,st7,m7,⟨?_,λj t e=>?_⟩,ac7,dy7,hy7,lv7,q7⟩
     ·obtain⟨o',e1,e2,_⟩:=pinned b hb
      rw[e] at e1;cases e1;exact e2
     ·have:=I7u.len
      rw[hXb'.N] at this
      rw[Z_,this]
      simp[yp,yi hfs]
     ·have hj:(z8 tg).length<=j:=by
       rcases zdB j (z8 tg).length with h|h
       ·rw[Z_,z6B (by simpa using h),z8n] at e
        split at e<;>cases e
       ·exact h
      exact sr7.val j t (by rw[Yp htg ha j hj];exact e)
    have P0:Post D W1 (φ++[s2.heap.objs.size]) α' H5 σ6 (λ(o:Option T) μ7 α7 H7=>match o with
      |some y=>∀v,Den D (φ++[s2.heap.objs.size]) α7 H7 y v->Lv μ7/\qq tgt (xx cs fe) Lv (blk (z8 tg).length fs τ) (xs.drop (i+1)) μ7 (λys μ2=>kk (yT++y::ys) μ2 K0 Z0) Z0
      |none=>Lv μ7/\qq tgt (xx cs fe) Lv (blk (z8 tg).length fs τ) (xs.drop (i+1)) μ7 (λys μ2=>kk (yT++ys) μ2 K0 Z0) Z0) ((xx cs fe τ' μ').bind λo μ7=>RE.ok o μ7):=by
     refine⟨_,Z0,hfe,λo μ7 e α7 H7 st m=>?_,λc fs' μ7 z α7 H7 Cc d st m ad xd=>?_⟩
     ·cases o with
      |some y=>exact λv _=>e
      |none=>exact e
     ·rw[←hW1];exact⟨c,fs',μ7,α7,Cc,z,stp.trans st,m,ad,rfl,xd⟩
    have ep:((Cx.pin' Xb pp).wish (XP (Cx.pin' Xb pp) W1)).prog=X.prog:=hXb'.pr
    have ew:((Cx.pin' Xb pp).wish (XP (Cx.pin' Xb pp) W1)).w=X.w:=hXb'.w
    have eA:((Cx.pin' Xb pp).wish (XP (Cx.pin' Xb pp) W1)).A=X.A:=hXb'.A
    have ee:((Cx.pin' Xb pp).wish (XP (Cx.pin' Xb pp) W1)).env=z8O sc cl (s2.heap.objs.size+1) X.env:=hXb'.en
    have nD:s2.heap.objs.size∉α':=λz=>mr'.dis _ z (by simp)
    have G:=XD (X:=(Cx.pin' Xb pp).wish (XP (Cx.pin' Xb pp) W1)) (M:=z6L X.prog X.w) (A:=X.A) (Qf:=λb s₄=>if b=true then z6I (z6L X.prog X.w) X.A (eval elt (z8O sc cl (s2.heap.objs.size+1) X.env)) (λx s₅=>z6I (z6L X.prog X.w) X.A (call (.builtin "list.append") [.ref s2.heap.objs.size,x]) (λ_ s₆=>∃m,m<xs.length-i/\LI m s₆) (λ_ _=>False) s₅) NB s₄ else ∃m,m<xs.length-i/\LI m s₄) (hts _ W1 ck) I6' sr6 mr' P0 (λs7 H7 α7 μ7 I7 st7 sr7 m7 p7=>?_) (λs7 H7 α7 μ7 I7 st7 sr7 m7 p7=>?_)
    ·rw[ep,ew,eA,ee] at G
     rw[←hNB]
     exact xb (λe t h=>lv e t h) G
    ·rw[if_pos rfl]
     have E7:=sub (hel _ W1 ck) I7 sr7 m7 p7
     rw[ep,ew,eA,ee] at E7
     refine z7f E7 (λx8 s8 h8=>?_) λe t h=>lv e t h
     obtain⟨v8,H8,y8,μ8,α8,I8,r8,st8,sr8,m8,d8,p8⟩:=h8
     have q8:=p8.ok (Stp.refl _ _) m8 v8 d8
     have acc8:H8 s2.heap.objs.size=some (.lst yV):=st8.keep _ _ (λz=>m7.dis _ z (by simp)) (st7.keep _ _ nD hacc)
     have hyv:yV.length<=i:=by rw[←dly.length];exact hyl
     have AP:=Za (X:=Cx.pin' Xb pp) [] s8 σ6 H8 (.ref s2.heap.objs.size) [v8] (.ref s2.heap.objs.size) [x8] (λ_ H9=>H9=upd H8 s2.heap.objs.size (.lst (yV++[v8]))) I8.unwish rfl (.cons r8 .nil) ⟨_,yV,v8,rfl,rfl,acc8,zbB hyv (z6N hlt (zA hroom)),rfl⟩
     rw[show (Cx.pin' Xb pp).prog=X.prog from hXb'.pr,show (Cx.pin' Xb pp).w=X.w from hXb'.w,show (Cx.pin' Xb pp).A=X.A from hXb'.A,show (Cx.pin' Xb pp).xe=λ_ _=>False by subst hXb;rfl] at AP
     refine thn AP ?_
     rintro x9 s9 ⟨v9,H9,I9,r9,rfl⟩
     have inphi:s2.heap.objs.size∈φ++[s2.heap.objs.size]:=by simp
     have t:=(stp.trans st7).trans st8
     have one:DenL D (φ++[s2.heap.objs.size]) α8 H8 [y8] [v8]:=⟨v8,[],rfl,d8,rfl⟩
     refine next (I9.wish _) ⟨t.ext,λb o n e=>?_,λb e=>t.live b ?_⟩ (m8.lk (kh inphi) (λa ha'=>⟨by rw[z7 (λz=>m8.dis a ha' (by rw[z];simp))],m8.dis a ha'⟩) (λb hb=>?_)) (sr8.lk (kh inphi)) z6 ((((dly.step st7).step st8).append one).lk (kh inphi)) (by simp;omega) q8.1 (by simpa using q8.2)
     ·rw[z7 (zJ e hD)];exact t.keep b o n e
     ·by_cases hb:b=s2.heap.objs.size
      ·rw[hb,z6] at e;cases e
      ·rw[z7 hb] at e;exact e
     ·by_cases hb':b=s2.heap.objs.size
      ·rw[hb',z6];exact⟨_,rfl,rfl⟩
      ·rw[z7 hb'];exact m8.phi b hb
    ·rw[if_neg (by decide)]
     exact next I7 (stp.trans st7) m7 sr7 (st7.keep _ _ nD hacc) (dly.step st7) (by omega) (p7.ok (Stp.refl _ _) m7).1 (p7.ok (Stp.refl _ _) m7).2
   ·have hie:i=xs.length:=by omega
    have TD:=TnD i [] s' σ' H' (λ_ _=>False) Iv (fpk fr) tni (by rw[hie];exact iv.stop _ _ H' okH)
    rw[hXb'.A] at TD
    refine thn TD ?_
    rintro r s4 ⟨rfl,I4⟩
    have hdr:xs.drop i=[]:=by rw[hie];simp
    rw[hdr] at hcmi
    have q4:kk yT μ' K0 Z0:=by
     have:kk (yT++[]) μ' K0 Z0:=hcmi
     simpa using this
    have I5:=back I4
    obtain⟨m,hm,_⟩:=I4.loc
    rw[hXb'.en] at hm
    exact Kq s2.heap.objs.size (s2.heap.objs.size+1) s4 α1 H2 H' α' yT yV μ' I5 st1 stp hD nph nal (((sr.step st1).lk (kS hD)).step stp) mr' hacc dly ⟨K0,Z0,q4,hk0,hz0⟩ ⟨by have:=I4.free;rw[hXb'.en] at this;exact this,xo0.loc,xo0.nfs,xo0.new,xo0.cel,xo0.pin⟩ pn3 ⟨m,hm⟩
  ·have sm:vz H2 H3:=by rw[←hH3];exact zk hD
   rw[hLI]
   refine⟨0,_,_,α1,μ1,[],[],rfl,z9s _,J0,Tn.keep _ _ _ tn0 λb hb o e=>old b o e,λb hb=>?_,Stp.new sm,?_,?_,by rw[←hH3];exact z6,rfl,z6E _,lv1,by simpa using q0⟩
   ·obtain⟨o,ho⟩:=fo b hb
    rw[←hH3,z7 (z73 (z6R ho))]
    exact (f2 b hb).1
   ·refine mr1.lk (yF hD sm) (λa ha=>?_) λb hb=>?_
    ·have na:a≠s2.heap.objs.size:=λz=>nal (z▸ha)
     exact⟨by rw[←hH3];exact z7 na,λz=>(z6K.mp z).elim (mr1.dis a ha) λz=>na (z6J.mp z)⟩
    ·rcases z6K.mp hb with z|z
     ·obtain⟨o,e,n⟩:=mr1.phi b z
      exact⟨o,sm b o e,n⟩
     ·rw[z6J.mp z,←hH3,z6];exact⟨_,rfl,rfl⟩
   ·exact (z0F (sr.step st1) hfs).lk (yF hD sm)
 exact codeAny_compStart_list loop (z7f (Tn.self _ 0 _ _ _ (Tn.keep _ _ _ tn0 λb hb o e=>old b o e) loop) (λ_ _ q=>q) λ_ _ q=>q)
end
section
variable {X:Cx}{D:DP}{W:XW}{Γ:Cn}{k:Nat}{pins:List (Addr×Obj)}{s:Shared}{σ:St}{H:Hp}{φ α:List Addr}{τ:Sl}{μ:Mem}{tg iter elt:Expr}{sc:Scope}{pos:Pos}{fi:Di}{fs:List Nat}{tgt:Tg}{ifs:List Expr}{cs:List Dt}{fe:De}
theorem QH{β:Type}{R:β->Mem->List Addr->Hp->Prop}{kk:T->Mem->RE β}{acc:Addr}{α1 α':List Addr}{H1 H':Hp}{ys:List T}{vs:List V}{μ':Mem}(st:Stp α1 H1 α' H')(hn:H1 acc=none)(nph:acc∉φ)(mr:MRel D (φ++[acc]) α' H' μ')(ha:H' acc=some (.lst vs))(dl:DenL D (φ++[acc]) α' H' ys vs)(p:Post D W φ α1 H1 σ R (kk (.lst ys) μ')) :
  MRel D φ α' H' μ'/\Den D φ α' H' (.lst ys) (.ref acc)/\Post D W φ α' H' σ R (kk (.lst ys) μ'):=
 ⟨mr.lk qy (λa ha=>⟨rfl,λz=>mr.dis a ha (z6G _ z)⟩) λb hb=>mr.phi b (z6G _ hb),⟨acc,vs,rfl,nph,λz=>mr.dis _ z (by simp),.inl ha,dl.lk qy⟩,p.step st⟩
theorem jK{acc:Addr}{α':List Addr}{H':Hp}:Lk (φ++[acc]) α' H' φ (α'++[acc]) H':=⟨λa o n1 n2 e=>⟨λz=>n1 (z6G _ z),λz=>(z6K.mp z).elim n2 λz=>n1 (by rw[z6J.mp z];simp),e⟩,λi a e=>by
 rw[z6B (z6v.mp e).1];exact e⟩
theorem uJ{acc:Addr}{α1 α':List Addr}{H1 H':Hp}{ys:List T}{vs:List V}{μ':Mem}(st:Stp α1 H1 α' H')(hn:H1 acc=none)(nph:acc∉φ)(mr:MRel D (φ++[acc]) α' H' μ')(ha:H' acc=some (.lst vs))(dl:DenL D (φ++[acc]) α' H' ys vs) :
  Stp α1 H1 (α'++[acc]) H'/\MRel D φ (α'++[acc]) H' (μ'++[.lst ys])/\Den D φ (α'++[acc]) H' (.mut μ'.length) (.ref acc):=by
 have nal:acc∉α':=λz=>mr.dis _ z (by simp)
 refine⟨?_,⟨by simp[mr.len],?_,λb hb=>?_,λb hb=>mr.phi b (z6G _ hb),λi a o e1 e2=>?_⟩,acc,by rw[←mr.len,z6S (z6E _)];simp,rfl⟩
 ·obtain⟨β,e,hβ⟩:=st.ext
  exact⟨⟨β++[acc],by rw[e];simp,λb hb=>(z6K.mp hb).elim (hβ b) λz=>by rw[z6J.mp z];exact hn⟩,st.keep,st.live⟩
 ·rw[z9g]
  exact⟨mr.nd,by simp,λa ha b hb z=>nal (by rw[z6J.mp hb] at z;exact z▸ha)⟩
 ·rcases z6K.mp hb with h|h
  ·exact λz=>mr.dis b h (z6G _ z)
  ·rw[z6J.mp h];exact nph
 ·by_cases hi:i<α'.length
  ·rw[z6B hi] at e1
   rw[z6B (by rw[←mr.len];exact hi)] at e2
   exact (mr.ob i a o e1 e2).lk jK rfl
  ·have hl:=mr.len
   rw[z6S (by omega)] at e1 e2
   have hi':i-α'.length=0:=by
    by_cases z:i-α'.length=0
    ·exact z
    ·rw[z8B (by simp;omega)] at e1;cases e1
   have hi2:i-μ'.length=0:=by omega
   rw[hi'] at e1
   rw[hi2] at e2
   have e1:some acc=some a:=e1
   have e2:some (MO.lst ys)=some o:=e2
   cases e1;cases e2
   exact⟨vs,ha,dl.lk jK⟩
theorem Vy(C:Ck D W Γ X k)(hc:Γ.calm=true)(ok:CompOk Γ.N Γ.cel tg sc)(hfs:j1 Γ.N (frees sc)=some fs)(htg:wo (z8 tg++frees sc) tg=some tgt)(hi:PI X tg iter (rdI D W fi))(hel:∀X' W',Ck D W' (inComp Γ tg sc) X' k->PE X' elt (rdE D W' fe))(hts:∀X' W',Ck D W' (inComp Γ tg sc) X' k->Vj X' D W' ifs cs)(hs:∀x,z7A iter X.env x=pure x) :
  PE X (.ListComp elt [⟨tg,iter,ifs,0⟩] sc pos) (rdE D W (ja (z8 tg).length fs tgt fi cs fe)):=by
 rintro pins s σ H Q I ⟨φ,α,τ,μ,sr,mr,p⟩
 rw[eval_ListComp]
 refine kE (kk:=λys μ=>RE.ok (T.lst ys) μ) (use:=none) (Qf:=EP X pins σ Q) C hc ok hfs htg hi hel hts hs I sr mr p ?_
 rintro acc C0 s' α1 H1 H' α' ys vs μ' I' st1 st hn nph nal sr' m ha dl post xo hp ⟨mm,hm⟩
 obtain⟨m2,d,post⟩:=QH (kk:=λt μ=>RE.ok t μ) st hn nph m ha dl post
 exact⟨mm,hm,λg sb=>⟨.ref acc,H',xG I' xo hp sb,rfl,post.here m2 d⟩⟩
theorem QY(C:Ck D W Γ X k)(hc:Γ.calm=true)(ok:CompOk Γ.N Γ.cel tg sc)(hfs:j1 Γ.N (frees sc)=some fs)(htg:wo (z8 tg++frees sc) tg=some tgt)(hi:PI X tg iter (rdI D W fi))(hel:∀X' W',Ck D W' (inComp Γ tg sc) X' k->PE X' elt (rdE D W' fe))(hts:∀X' W',Ck D W' (inComp Γ tg sc) X' k->Vj X' D W' ifs cs)(hs:∀x,z7A iter X.env x=pure x) :
  PE X (.ListComp elt [⟨tg,iter,ifs,0⟩] sc pos) (rdE D W (vk (z8 tg).length fs tgt fi cs fe)):=by
 rintro pins s σ H Q I ⟨φ,α,τ,μ,sr,mr,p⟩
 rw[eval_ListComp]
 refine kE (kk:=λys μ=>RE.ok (T.mut μ.length) (μ++[MO.lst ys])) (use:=none) (Qf:=EP X pins σ Q) C hc ok hfs htg hi hel hts hs I sr mr p ?_
 rintro acc C0 s' α1 H1 H' α' ys vs μ' I' st1 st hn nph nal sr' m ha dl post xo hp ⟨mm,hm⟩
 obtain⟨st2,m2,d⟩:=uJ st hn nph m ha dl
 exact⟨mm,hm,λg sb=>⟨.ref acc,H',xG I' xo hp sb,rfl,post.ok st2 m2 _ d⟩⟩
theorem w5{x:Str}{g:GM}(h:Γ.look x=g)(hg:g≠.bad):x∈Γ.G/\Γ.gl x=g:=by
 unfold Cn.look at h
 split at h
 ·rename_i hm
  exact⟨by simpa using hm,h⟩
 ·exact absurd h.symm hg
theorem uW{iter:Expr}(h:wx iter=true):∀x,z7A iter X.env x=pure x:=by
 intro x
 cases iter<;>first|rfl|(simp[wx] at h)
end
structure PostH(D:DP)(W:XW)(φ α:List Addr)(H:Hp)(E:Ends)(Q:En):Prop where
 nx:∀τ μ,Q.nx τ μ->∀α' H' σ',Stp α H α' H'->MRel D φ α' H' μ->SRel D φ α' H' τ σ'->E.nx σ' H'
 bk:∀τ μ,Q.bk τ μ->∀α' H' σ',Stp α H α' H'->MRel D φ α' H' μ->SRel D φ α' H' τ σ'->E.bk σ' H'
 ct:∀τ μ,Q.ct τ μ->∀α' H' σ',Stp α H α' H'->MRel D φ α' H' μ->SRel D φ α' H' τ σ'->E.ct σ' H'
 rt:∀t μ,Q.rt t μ->∀α' H' v,Stp α H α' H'->MRel D φ α' H' μ->Den D φ α' H' t v->E.rt v H'
 ex:∀c fs τ μ,Q.ex c fs τ μ->∀α' H' σ' C d,Stp α H α' H'->MRel D φ α' H' μ->SRel D φ α' H' τ σ'->D.adr c=some C->XDict D φ α' H' fs d->W (.ref C) d σ' H'
inductive PostS(D:DP)(W:XW)(φ α:List Addr)(H:Hp)(E:Ends)(o:Out):Prop where
 |mk (Q:En) (q:o Q) (h:PostH D W φ α H E Q)
noncomputable def rdS (D:DP)(W:XW)(f:Ds):TS:=λE σ H=>RdP D H σ λφ α τ μ=>PostS D W φ α H E (f τ μ)
structure Sk(D:DP)(W:XW)(Γ:Cn)(X:Cx)(k:Nat):Prop extends Ck D W Γ X k where
 sto:Sto X Γ.sto
 lcl:∀x∈Γ.N,Γ.cel.contains x=false->X.env.scope.names.lookup x=some .local
 pso:zc8 (z6L X.prog X.w) X.A X.env X.xe
 xmt:∀t x c,(x,c)∈Γ.cls->c<40->∀Ct Cc,D.adr t=some Ct->X.mg x=some (.ref Cc)->zb4 X.K (.ref Ct) (.ref Cc)=some (vx t c)
section
variable {X:Cx}{D:DP}{W:XW}{Γ:Cn}{k:Nat}{pins:List (Addr×Obj)}{s:Shared}{σ:St}{H:Hp}{φ α:List Addr}{τ:Sl}{μ:Mem}{f g:De}{a b c e:Expr}{pos:Pos}{E:Ends}{u v:Ds}
theorem PostS.step{α':List Addr}{H':Hp}{o:Out}(p:PostS D W φ α H E o)(st:Stp α H α' H'):PostS D W φ α' H' E o:=by
 obtain⟨Q,q,h1,h2,h3,h4,h5⟩:=p
 exact⟨Q,q,λτ μ z α2 H2 σ2 s2=>h1 τ μ z α2 H2 σ2 (st.trans s2),λτ μ z α2 H2 σ2 s2=>h2 τ μ z α2 H2 σ2 (st.trans s2),λτ μ z α2 H2 σ2 s2=>h3 τ μ z α2 H2 σ2 (st.trans s2),λτ μ z α2 H2 σ2 s2=>h4 τ μ z α2 H2 σ2 (st.trans s2),λc fs τ μ z α2 H2 σ2 C d s2=>h5 c fs τ μ z α2 H2 σ2 C d (st.trans s2)⟩
theorem PostS.elim{C:Prop}(p:PostS D W φ α H E Out.st):C:=by obtain⟨_,q,_⟩:=p;exact q.elim
theorem PostS.nx{τ:Sl}{μ:Mem}(p:PostS D W φ α H E (.nx τ μ)){α':List Addr}{H':Hp}{σ':St}(s:Stp α H α' H')(m:MRel D φ α' H' μ)(r:SRel D φ α' H' τ σ'):E.nx σ' H':=by
 obtain⟨Q,q,h1,_⟩:=p
 exact h1 τ μ q α' H' σ' s m r
theorem PostS.rt{t:T}{μ:Mem}(p:PostS D W φ α H E (.rt t μ)){α':List Addr}{H':Hp}{v:V}(s:Stp α H α' H')(m:MRel D φ α' H' μ)(r:Den D φ α' H' t v):E.rt v H':=by
 obtain⟨Q,q,_,_,_,h,_⟩:=p
 exact h t μ q α' H' v s m r
theorem PostS.ex{c:Nat}{fs:List (Nat×T)}{τ:Sl}{μ:Mem}(p:PostS D W φ α H E (.ex c fs τ μ)){α':List Addr}{H':Hp}{σ':St}{C:Addr}{d:Option Addr}(s:Stp α H α' H')(m:MRel D φ α' H' μ)(r:SRel D φ α' H' τ σ')(ad:D.adr c=some C)(x:XDict D φ α' H' fs d):W (.ref C) d σ' H':=by
 obtain⟨Q,q,_,_,_,_,h⟩:=p
 exact h c fs τ μ q α' H' σ' C d s m r ad x
theorem PostS.grd{c:Prop}{o:Out}(p:PostS D W φ α H E (Out.grd c o)):c/\PostS D W φ α H E o:=by
 obtain⟨Q,q,h⟩:=p
 exact⟨q.1,Q,q.2,h⟩
theorem PostS.som{γ:Type}{o:Option γ}{k:γ->Out}(p:PostS D W φ α H E (Out.som o k)):∃a,o=some a/\PostS D W φ α H E (k a):=by
 obtain⟨Q,⟨a,e,q⟩,h⟩:=p
 exact⟨a,e,Q,q,h⟩
theorem PostS.br{b:Bool}{r s:Out}(p:PostS D W φ α H E (Out.br b r s)):(b=true/\PostS D W φ α H E r)\/(b=false/\PostS D W φ α H E s):=by
 obtain⟨Q,q,h⟩:=p
 cases b with
 |true=>exact .inl ⟨rfl,Q,q,h⟩
 |false=>exact .inr ⟨rfl,Q,q,h⟩
theorem PostS.ex2{δ1 δ2:Type}{P P2:δ1->δ2->Prop}{r:δ1->δ2->Out}(p:PostS D W φ α H E (λQ=>∃x y,P x y/\P2 x y/\r x y Q)):∃x y,P x y/\P2 x y/\PostS D W φ α H E (r x y):=by
 obtain⟨Q,⟨x,y,h1,h2,q⟩,h⟩:=p
 exact⟨x,y,h1,h2,Q,q,h⟩
theorem PostS.ex1{δ1:Type}{P P2:δ1->Prop}{r:δ1->Out}(p:PostS D W φ α H E (λQ=>∃x,P x/\P2 x/\r x Q)):∃x,P x/\P2 x/\PostS D W φ α H E (r x):=by
 obtain⟨Q,⟨x,h1,h2,q⟩,h⟩:=p
 exact⟨x,h1,h2,Q,q,h⟩
theorem PostS.out{β:Type}{r:RE β}{kk:β->Mem->Out}(sr:SRel D φ α H τ σ)(p:PostS D W φ α H E (r.out τ kk)):Post D W φ α H σ (λt μ' α' H'=>PostS D W φ α' H' E (kk t μ')) r:=by
 obtain⟨Q,q,h⟩:=p
 refine⟨_,_,q,λa μ' e α' H' st m=>PostS.step ⟨Q,e,h⟩ st,λc fs μ' e α' H' C d st m ad xd=>?_⟩
 exact h.ex c fs τ μ' e α' H' σ C d st m (sr.step st) ad xd
theorem z34(ha:PE X a (rdE D W f)):PS X (.Return (some a) pos) (rdS D W (zp f)):=by
 rintro pins s σ H E I ⟨φ,α,τ,μ,sr,mr,p⟩
 refine z1L ha pins s σ H E I ⟨φ,α,τ,μ,sr,mr,(PostS.out sr p).mono λt μ' α' H' st m q v d=>PostS.rt q (Stp.refl _ _) m d⟩
theorem UK:PS X (.Return none pos) (rdS D W XQ):=by
 rintro pins s σ H E I ⟨φ,α,τ,μ,sr,mr,p⟩
 exact UX pins s σ H E I (PostS.rt p (Stp.refl _ _) mr rfl)
theorem UE(hs:z9m a none pos.line X.env=pure false)(ha:PE X a (rdE D W f)):PS X (.Expr a pos) (rdS D W (zF f)):=by
 rintro pins s σ H E I ⟨φ,α,τ,μ,sr,mr,p⟩
 refine Vz ha hs pins s σ H E I ⟨φ,α,τ,μ,sr,mr,(PostS.out sr p).mono λt μ' α' H' st m q v d=>PostS.nx q (Stp.refl _ _) m (sr.step st)⟩
theorem z0P:PSs X [] (rdS D W (qd [])):=by
 rintro pins s σ H E I ⟨φ,α,τ,μ,sr,mr,p⟩
 exact J5 pins s σ H E I (PostS.nx p (Stp.refl _ _) mr sr)
theorem Ys{st:Stmt}{r:List Stmt}{fs:List Ds}(h1:PS X st (rdS D W u))(h2:PSs X r (rdS D W (qd fs))):PSs X (st::r) (rdS D W (qd (u::fs))):=by
 rintro pins s σ H E I ⟨φ,α,τ,μ,sr,mr,Q,q,h3,h4,h5,h6,h7⟩
 refine Qu h1 h2 pins s σ H E I ⟨φ,α,τ,μ,sr,mr,_,q,λτ1 μ1 e α' H' σ' st m sr'=>?_,h4,h5,h6,h7⟩
 exact⟨φ,α',τ1,μ1,sr',m,PostS.step ⟨Q,e,h3,h4,h5,h6,h7⟩ st⟩
noncomputable def um (X:Cx)(D:DP)(W:XW):List Stmt->List Ds->Prop
 |[],[]=>True
 |e::es,f::fs=>PS X e (rdS D W f)/\um X D W es fs
 |_,_=>False
theorem wD:∀{sts:List Stmt} {fs:List Ds},um X D W sts fs->PSs X sts (rdS D W (qd fs))
 |[],[],_=>z0P
 |st::r,f::fs,h=>Ys h.1 (wD h.2)
 |[],_::_,h=>h.elim
 |_::_,[],h=>h.elim
theorem z55{ft:Dt}{as bs:List Stmt}{us vs:List Ds}(hc:PT X c (rdT D W ft))(ha:um X D W as us)(hb:um X D W bs vs):PS X (.If c as bs pos) (rdS D W (sIf ft us vs)):=by
 rintro pins s σ H E I ⟨φ,α,τ,μ,sr,mr,p⟩
 refine z5y hc (wD ha) (wD hb) pins s σ H E I ⟨φ,α,τ,μ,sr,mr,(PostS.out sr p).mono λb μ' α' H' st m q=>?_⟩
 rcases PostS.br q with⟨rfl,q⟩|⟨rfl,q⟩
 ·exact⟨φ,α',τ,μ',sr.step st,m,q⟩
 ·exact⟨φ,α',τ,μ',sr.step st,m,q⟩
noncomputable def nFz (Γ:Cn)(tg:Expr):Bool:=(z8 tg).all λx=>!Γ.fz.contains x
theorem ZZ{tg:Expr}(h:nFz Γ tg=true)(m:∀x∈z8 tg,x∈Γ.N):∀x∈z8 tg,x∈Γ.sto:=λx hx=>z7d.mpr ⟨m x hx,z7k.mp h x hx⟩
theorem Yj(C:Sk D W Γ X k){x:Str}{i:Nat}{p0:Pos}(hi:idx Γ.N x=some i)(hz:nFz Γ (.Name x p0)=true)(hs:z9m a (some (.Name x p0)) pos.line X.env=pure false)(ha:PE X a (rdE D W f)):PS X (.Assign [.Name x p0] a pos) (rdS D W (zj i f)):=by
 rintro pins s σ H E I ⟨φ,α,τ,μ,sr,mr,p⟩
 have hx:=ZZ hz (λy hy=>by rw[z6J.mp hy];exact qL hi) x (z6J.mpr rfl)
 refine z3x (i:=i) (X:=X) (by rw[C.hN];exact C.nd) (by rw[C.hN];exact qW hi) (C.sto x hx).1 ha hs (C.sto x hx).2 pins s σ H E I ⟨φ,α,τ,μ,sr,mr,(PostS.out sr p).mono λt μ' α' H' st m q v d=>?_⟩
 exact PostS.nx q (Stp.refl _ _) m ((sr.step st).set d)
theorem QN{N:List Str}:∀{es:List Expr} {is:List Nat},idxs N es=some is->∀e∈es,∀x p,e=.Name x p->x∈N
 |[],_,_,e,he,_,_,_=>absurd he (by simp)
 |e0::es,is,h,e,he,x,p,hx=>by
  cases e0 with
  |Name y p0=>
   simp only[idxs] at h
   split at h
   ·rename_i i is' hi his
    rcases z75.mp he with rfl|he
    ·cases hx;exact qL hi
    ·exact QN his e he x p hx
   ·cases h
  |_=>simp[idxs] at h
theorem YA{N:List Str}{e:Expr}{tgt:Tg}(h:wo N e=some tgt):∀x∈z8 e,x∈N:=by
 intro x hx
 cases e with
 |Name y p=>
  simp[z8] at hx
  subst hx
  simp only[wo] at h
  cases q:idx N x with
  |none=>rw[q] at h;cases h
  |some i=>exact qL q
 |Tuple es kk p=>
  obtain⟨e,he,q⟩:=z8t.mp hx
  simp only[wo] at h
  cases q2:idxs N es with
  |none=>rw[q2] at h;cases h
  |some is=>
   cases e with
   |Name y p0=>
    have q:some y=some x:=q
    cases q
    exact QN q2 _ he x p0 rfl
   |_=>cases q
 |_=>simp[z8] at hx
theorem z1t(C:Sk D W Γ X k)(hc:X.calm=true){tg:Expr}{tgt:Tg}(ht:wo Γ.N tg=some tgt)(hz:nFz Γ tg=true):PG X tg (λv σ H Q=>∃φ α τ t τ',SRel D φ α H τ σ/\Den D φ α H t v/\asg tgt t τ=some τ'/\∀σ',SRel D φ α H τ' σ'->Q σ' H):=by
 rintro pins s σ H v u Q I r ⟨φ,α,τ,t,τ',sr,d,ha,q⟩
 refine thn (WD (S:=Γ.sto) C.hN C.nd C.sto hc (ZZ hz (YA ht)) ht ha I sr d r) ?_
 rintro _ s1 ⟨σ',I1,sr'⟩
 exact⟨σ',H,I1,q σ' sr'⟩
noncomputable def kl:Expr->Bool
 |.Call _ _ _ _=>true
 |.Name _ _=>true
 |.Subscript _ _ _=>true
 |.Attribute _ _ _=>true
 |_=>false
theorem z3k(C:Sk D W Γ X k)(hc:Γ.calm=true){es:List Expr}{is:List Nat}{kk:Nat}{p0:Pos}(hp:kl a=true)(hn:idxs Γ.N es=some is)(hz:nFz Γ (.Tuple es kk p0)=true)(ha:PE X a (rdE D W f)):PS X (.Assign [.Tuple es kk p0] a pos) (rdS D W (Jy is f)):=by
 rintro pins s σ H E I ⟨φ,α,τ,μ,sr,mr,p⟩
 have h1:za8 [.Tuple es kk p0] a pos.line X.env=pure false:=by cases a<;>first|(simp[kl] at hp;done)|rfl
 have h2:za9 [.Tuple es kk p0] a X.env=pure none:=by cases a<;>first|(simp[kl] at hp;done)|rfl
 refine WG ha (z1t C (C.clm hc) (tg:=.Tuple es kk p0) (tgt:=.tup is) (by simp[wo,hn]) hz) h1 h2 rfl pins s σ H E I ⟨φ,α,τ,μ,sr,mr,(PostS.out sr p).mono λt μ' α' H' st m q v d=>?_⟩
 obtain⟨τ',h,q⟩:=PostS.som q
 exact⟨φ,α',τ,t,τ',sr.step st,d,h,λσ' sr'=>PostS.nx q (Stp.refl _ _) m sr'⟩
theorem z4k(C:Sk D W Γ X k){o:Expr}{x:Str}{n:Nat}{p1:Pos}{go:De}(hn:(x,n)∈Γ.fld)(ha:PE X a (rdE D W f))(ho:PE X o (rdE D W go)) :
  PS X (.Assign [.Attribute o x p1] a pos) (rdS D W (qI go n f)):=by
 rintro pins s σ H E I ⟨φ,α,τ,μ,sr,mr,p⟩
 have hs:z9m a (some (.Attribute o x p1)) pos.line X.env=pure false:=by cases a<;>rfl
 refine z4p ho ha hs pins s σ H E I ⟨φ,α,τ,μ,sr,mr,(PostS.out sr p).mono λt μ1 α1 H1 st1 m1 q v d=>?_⟩
 have sr1:=sr.step st1
 refine⟨φ,α1,τ,μ1,sr1,m1,(PostS.out sr1 q).mono λot μ2 α2 H2 st2 m2 q2 ov dv=>?_⟩
 split at q2
 case h_2=>exact PostS.elim q2
 rename_i i
 obtain⟨c,fs,hμ,hl,q2⟩:=PostS.ex2 q2
 obtain⟨y,hx,rfl⟩:=dv
 obtain⟨C0,dx,gs,ad,hH,df⟩:=m2.ob i y _ hx hμ
 obtain⟨fx,cl,na⟩:=C.fld c C0 x n ad hn
 refine⟨y,C0,dx,gs,rfl,hH,cl,na,by rw[←df.length];omega,?_⟩
 have st3:Stp α2 H2 α2 (upd H2 y (.ins C0 dx (wQ x v gs))):=Stp.turn (z6M hx) ⟨_,hH⟩
 have hi:i<μ2.length:=(z6v.mp hμ).1
 exact PostS.nx q2 st3 (m2.turn hx hi st3 ⟨C0,dx,_,ad,z6,DenF.put fx (df.step st3) ((d.step st2).step st3)⟩) ((sr1.step st2).step st3)
theorem set_list:z2j X (λo i v H Q=>∃l k xs,o=.ref l/\i=.int k/\H l=some (.lst xs)/\0<=k/\k<xs.length/\k<9223372036854775808/\Q (upd H l (.lst (xs.set k.toNat v)))):=by
 intro pins s σ H o i v ov iv u Q I ro ri rv h
 obtain⟨l,k,xs,rfl,rfl,hH,h0,h1,h2,q⟩:=h
 cases ro
 obtain⟨t,rfl⟩:=ri
 obtain⟨z,its,n,r,hl,e⟩:=I.lstM hH
 refine PySem.W.ki_setAt (n:=n) (items:=its.toArray) e h0 (by simpa using h2) (by rw[z6V,←hl];exact h1) ?_
 exact⟨_,I.lset (t':=s.toks) (ys:=xs.set k.toNat v) (its':=its.set k.toNat u) (f:=λa=>a.setIfInBounds k.toNat u) hH e (by simp) (Vals.set rv _ r) (by rw[List.length_set];exact z),q⟩
theorem z1U(C:Sk D W Γ X k){o:Expr}{p1:Pos}{fo fb:De}(hb':qC b=true)(ha:PE X a (rdE D W f))(ho:PE X o (rdE D W fo))(hb:PE X b (rdE D W fb)) :
  PS X (.Assign [.Subscript o b p1] a pos) (rdS D W (z0S fo fb f)):=by
 rintro pins s σ H E I ⟨φ,α,τ,μ,sr,mr,p⟩
 have h1:za8 [.Subscript o b p1] a pos.line X.env=pure false:=by cases a<;>rfl
 have h2:za9 [.Subscript o b p1] a X.env=pure none:=by cases a<;>rfl
 refine WG ha (Yi ho hb set_list (λv=>by cases b<;>first|(simp[qC] at hb';done)|rfl)) h1 h2 rfl pins s σ H E I ⟨φ,α,τ,μ,sr,mr,(PostS.out sr p).mono λt μ1 α1 H1 st1 m1 q v d=>?_⟩
 have sr1:=sr.step st1
 refine⟨φ,α1,τ,μ1,sr1,m1,(PostS.out sr1 q).mono λot μ2 α2 H2 st2 m2 q2 ov dv=>?_⟩
 have sr2:=sr1.step st2
 refine⟨φ,α2,τ,μ2,sr2,m2,(PostS.out sr2 q2).mono λit μ3 α3 H3 st3 m3 q3 iv di=>?_⟩
 have d3:=(d.step st2).step st3
 split at q3
 case h_2=>exact PostS.elim q3
 rename_i i kk
 have dv:=dv.step st3
 obtain⟨ts,hμ,hk,q3⟩:=PostS.ex1 q3
 obtain⟨x,hx,rfl⟩:=dv
 have di:iv=.int kk:=di
 subst di
 obtain⟨xs,hH,l⟩:=m3.ob i x _ hx hμ
 have st4:Stp α3 H3 α3 (upd H3 x (.lst (xs.set kk.toNat v))):=Stp.turn (z6M hx) ⟨_,hH⟩
 have hi:i<μ3.length:=(z6v.mp hμ).1
 exact⟨x,kk,xs,rfl,rfl,hH,hk.1,by rw[←l.length];exact hk.2.1,hk.2.2,PostS.nx q3 st4 (m3.turn hx hi st4 ⟨_,z6,DenL.set (l.step st4) (d3.step st4)⟩) ((sr2.step st3).step st4)⟩
theorem z3G(C:Sk D W Γ X k)(hc:Γ.calm=true){tg iter:Expr}{tgt:Tg}(ht:wo Γ.N tg=some tgt)(hz:nFz Γ tg=true){fi:Di}{body:List Stmt}{vs:List Ds}(hi:PI X tg iter (rdI D W fi))(hb:um X D W body vs)(hs:∀x,z7A iter X.env x=pure x) :
  PS X (.For tg iter body [] pos) (rdS D W (Kr tgt fi vs)):=by
 rintro pins s σ H E I ⟨φ,α,τ,μ,sr,mr,p⟩
 refine z4m C.pso (C.clm hc) hi (z1t C (C.clm hc) ht hz) (wD hb) hs pins s σ H E I ⟨φ,α,τ,μ,sr,mr,(PostS.out sr (show PostS D W φ α H E ((fi τ μ).re.out τ λpr μ1=>forM tgt (qd vs) pr.2 pr.1 τ μ1) from p)).mono λpr μ1 α1 H1 st1 m1 q J Ok iv okk lv1=>?_⟩
 obtain⟨xs,o⟩:=pr
 obtain⟨Q,q,h1,h2,h3,h4,h5⟩:=q
 refine⟨λi m σ' H'=>m=xs.length-i/\i<=xs.length/\∃α' τ' μ',Stp α1 H1 α' H'/\MRel D φ α' H' μ'/\SRel D φ α' H' τ' σ'/\o μ'/\forM tgt (qd vs) o (xs.drop i) τ' μ' Q,⟨xs.length,by simp,z9s _,α1,τ,μ1,Stp.refl _ _,m1,sr.step st1,lv1,by simpa using q⟩,?_⟩
 rintro i m σ' H' ⟨rfl,hi',α',τ',μ',stp,mr',sr',lv',pf⟩
 have okH:Ok φ α' H':=okk _ α' H' μ' stp.lk mr' lv'
 by_cases hlt:i<xs.length
 ·refine .inr ⟨iv.go i _ _ H' okH hlt,λσ2 H2=>∃α2 τ2 μ2,Stp α1 H1 α2 H2/\MRel D φ α2 H2 μ2/\SRel D φ α2 H2 τ2 σ2/\o μ2/\forM tgt (qd vs) o (xs.drop (i+1)) τ2 μ2 Q,λσ2 H2 h2=>⟨xs.length-(i+1),by omega,rfl,hlt,h2⟩,λx H2 y=>?_⟩
  obtain⟨sm,dx⟩:=iv.yld i _ _ H' x H2 xs[i] okH (by simp[hlt]) y
  have stp:=stp.trans (Stp.new (α:=α') sm)
  have sr':=sr'.step (Stp.new (α:=α') sm)
  have mr':=mr'.new sm
  rw[z9Z hlt] at pf
  obtain⟨τ3,ha,pf⟩:=pf
  refine⟨φ,α',τ',xs[i],τ3,sr',dx,ha,λσ3 sr3=>⟨φ,α',τ3,μ',sr3,mr',_,pf,?_,?_,?_,?_,?_⟩⟩
  ·exact λτ4 μ4 e α4 H4 σ4 st4 m4 sr4=>⟨α4,τ4,μ4,stp.trans st4,m4,sr4,e⟩
  ·exact λτ4 μ4 e α4 H4 σ4 st4 m4 sr4=>h1 τ4 μ4 e α4 H4 σ4 (stp.trans st4) m4 sr4
  ·exact λτ4 μ4 e α4 H4 σ4 st4 m4 sr4=>⟨α4,τ4,μ4,stp.trans st4,m4,sr4,e⟩
  ·exact λt μ4 e α4 H4 v st4 m4 d4=>h4 t μ4 e α4 H4 v (stp.trans st4) m4 d4
  ·exact λc fs τ4 μ4 e α4 H4 σ4 Cc d st4 m4 sr4=>h5 c fs τ4 μ4 e α4 H4 σ4 Cc d (stp.trans st4) m4 sr4
 ·have hie:i=xs.length:=by omega
  rw[hie,List.drop_length] at pf
  exact .inl ⟨by rw[hie];exact iv.stop _ _ H' okH,h1 τ' μ' pf α' H' σ' stp mr' sr'⟩
theorem z0u(C:Sk D W Γ X k)(hc:Γ.calm=true){tg iter elt:Expr}{sc:Scope}{fi:Di}{fs:List Nat}{tgt:Tg}{ifs:List Expr}{cs:List Dt}{fe:De}{x:Str}{ix:Nat}{p0 p1:Pos}(hix:idx Γ.N x=some ix)(hz:nFz Γ (.Name x p0)=true)(ok:CompOk Γ.N Γ.cel tg sc)(hfs:j1 Γ.N (frees sc)=some fs)(htg:wo (z8 tg++frees sc) tg=some tgt)(hi:PI X tg iter (rdI D W fi))(hel:∀X' W',Ck D W' (inComp Γ tg sc) X' k->PE X' elt (rdE D W' fe))(hts:∀X' W',Ck D W' (inComp Γ tg sc) X' k->Vj X' D W' ifs cs)(hs:∀x,z7A iter X.env x=pure x)
  (own:Bool) (hsw:z9m (.ListComp elt [⟨tg,iter,ifs,0⟩] sc p1) (some (.Name x p0)) pos.line X.env=pure true) :
  PS X (.Assign [.Name x p0] (.ListComp elt [⟨tg,iter,ifs,0⟩] sc p1) pos) (rdS D W (zj ix (match own with|true=>vk (z8 tg).length fs tgt fi cs fe|false=>ja (z8 tg).length fs tgt fi cs fe))):=by
 rintro pins s σ H E I ⟨φ,α,τ,μ,sr,mr,p⟩
 rw[exec_Assign_Name_used _ _ _ _ hsw]
 refine z6w (z7x (z6w ?_))
 show z6I _ _ (do let _ ←zab (.ListComp elt [⟨tg,iter,ifs,0⟩] sc p1) sc X.env _ (newList []) false (eval iter X.env) (some (za7 (.Name x p0) X.env))) _ _ s
 refine z6w (thn (kE (kk:=λys μ=>match own with|true=>RE.ok (T.mut μ.length) (μ++[MO.lst ys])|false=>RE.ok (T.lst ys) μ) (use:=some (za7 (.Name x p0) X.env)) (Qf:=λ_ s'=>∃σ' H',Inv X pins σ' H' s'/\E.nx σ' H') C.toCk hc ok hfs htg hi hel hts hs I sr mr (PostS.out sr (by cases own<;>exact p)) ?_) λ_ s' hq=>z6F (z6F hq))
 rintro acc C0 s' α1 H1 H' α' ys vs μ' I' st1 st hn nph nal sr' m ha dl post xo hp ⟨mm,hm⟩
 have hx:=qL hix
 obtain⟨oc,es,ep,hoc,hdc,hrest⟩:=hm
 have I2:Inv X (pins++[(C0,oc)]) σ H' s':=I'.pins_of λp hp'=>(z6K.mp hp').elim (λz=>I'.pin p (z6O _ z)) λz=>by
  rw[z6J.mp z]
  exact⟨hoc,xo.free,xo.loc,xo.nfs,λv e=>by rw[hdc] at e;cases e⟩
 have fin:∀{α'':List Addr} {t:T} {μ2:Mem},SRel D φ α'' H' τ σ->Den D φ α'' H' t (.ref acc)->(∀σ',SRel D φ α'' H' (jz τ ix (some t)) σ'->E.nx σ' H')->z6I (z6L X.prog X.w) X.A (za7 (.Name x p0) X.env (.ref acc)) (λ_ t2=>∃m,t2.heap.Ns C0 m/\∀g,z7p C0 t2.heap g->∃σ' H',Inv X pins σ' H' {t2 with heap:=g}/\E.nx σ' H') X.xe s':=λ{α'' t μ2} sr2 d q=>by
  refine thn (WD (e:=.Name x p0) (S:=Γ.sto) (tgt:=.one ix) (t:=t) (τ:=τ) C.hN C.nd C.sto (C.clm hc) (ZZ hz λy hy=>by rw[z6J.mp hy];exact hx) (by simp[wo,hix]) rfl I2 sr2 d (show RelV (.ref acc) (.ref acc) from rfl)) ?_
  rintro _ s2 ⟨σ',I3,sr3⟩
  have hpin:=(I3.pin (C0,oc) (z6O _ (z6O _ (z6J.mpr rfl)))).1
  refine⟨mm,⟨oc,es,ep,hpin,hdc,hrest⟩,λg sb=>⟨σ',H',?_,q σ' sr3⟩⟩
  exact xG (I3.pins_of λp hp'=>I3.pin p (z6O _ (z6G _ hp'))) xo hp sb
 cases own with
 |false=>
  obtain⟨m2,d,post⟩:=QH (kk:=λt μ=>RE.ok t μ) st hn nph m ha dl post
  exact fin (μ2:=μ') (sr'.lk qy) d λσ' sr3=>PostS.nx (post.ok (Stp.refl _ _) m2) (Stp.refl _ _) m2 sr3
 |true=>
  obtain⟨st2,m2,d⟩:=uJ st hn nph m ha dl
  exact fin (μ2:=μ') (sr'.lk jK) d λσ' sr3=>PostS.nx (post.ok st2 m2) (Stp.refl _ _) m2 sr3
end
noncomputable def z5b(C:Addr)(h:Heap):Prop:=∃tl N nm q bs hd sn sub ab col dd k0 k1 k2 k3 k5 mN,h.get? C=some (z8c nm q C N bs tl hd sn sub ab col dd k0 k1 k2 k3 k5 "ValueError.__new__")/\h.Ns N mN/\mN "__init__"=none/\zb8 h zW tl
theorem QW {K:z6C} {h:Heap} {C:Addr} (kin:K.In h) (e:z8Y K C zW "ValueError.__new__"=true):z5b C h:=by
 simp only[z8Y] at e
 revert e
 cases hk:K.lookup C with
 |none=>intro e;cases e
 |some o=>
  intro e
  split at e
  case h_2=>cases e
  rename_i dd cd sl ho
  cases ho
  split at e
  case h_2=>cases e
  rename_i C' tl k0 k1 k2 k3 n k5 hm hs
  simp only[z6x,beq_iff_eq,z8d] at e
  obtain⟨⟨⟨⟨⟨e1,e2⟩,e3⟩,e4⟩,e5⟩,e6⟩:=e
  cases cd
  rename_i nm bs mro ns qn hd sn sub ab col del
  simp only at hm e3 e5 e6
  cases e1;cases e2;cases hm;cases e3
  have hsl:sl=#[k0,k1,k2,k3,some (.builtin "ValueError.__new__"),k5]:=by
   cases sl;simp only at hs;rw[hs]
  cases hsl
  exact⟨tl,ns,nm,qn,bs,hd,sn,sub,ab,col,dd,k0,k1,k2,k3,k5,h.nsMap ns,kin _ _ hk,.of_isNs (z9V kin e5),PySem.W.nsMap_none_of_in kin e5 e6,PySem.W.tail_of_in kin e4⟩
section
variable {X:Cx}{pins:List (Addr×Obj)}{s:Shared}{σ:St}{H:Hp}
theorem Kk{i:Nat}{x:Str}{m:Str->Option Value}{h':Heap}{u:Option Value}{tk:Nat}(I:Inv X pins σ H s)(hN:X.N.Nodup)(hi:X.N[i]?=some x)
  (hm:∀(i:Nat) (x:Str) (v:V),X.N[i]?=some x->σ[i]?=some (some v)->Vis X.env.scope x->∃u,RelV v u/\Look X.env s.heap m x u)
  (hn:h'.Ns X.env.locals λy=>if y=x then u else m y) (hs:z7p X.env.locals s.heap h'):Inv X pins (σ.set i none) H {s with heap:=h',toks:=tk}:=by
 have cne:=I.cne
 have low:∀b o,X.s₀.heap.get? b=some o->b≠X.env.locals:=λb o e=>z73 (z6N (z6R e) I.ok.above)
 refine⟨I.ok,I.os,I.bare,⟨λb o e n hb hx=>?_,λb o e n hb hx=>?_,I.base.free,λb o e hx=>?_,I.base.tups,I.base.frzs,I.base.tbls⟩,⟨_,hn,λj y v e1 e2 e3=>?_⟩,λy c e=>?_,I.free,I.freeC,λp hp=>?_,λb ob e=>?_,by simpa using I.len⟩
 ·exact (hs.2 b (low b o e)).trans (I.base.keep b o e n hb hx)
 ·obtain⟨sl,e1⟩:=I.base.slot b o e n hb hx
  exact⟨sl,(hs.2 b (low b o e)).trans e1⟩
 ·obtain⟨o',e1⟩:=I.base.there b o e hx
  exact⟨o',(hs.2 b (low b o e)).trans e1⟩
 ·by_cases hj:j=i
  ·subst hj
   rw[z97] at e2
   cases q:σ[j]? with
   |none=>rw[q] at e2;cases e2
   |some w=>rw[q] at e2;cases e2
  ·rw[z6D (z6Z hj)] at e2
   obtain⟨w,r,q⟩:=hm j y v e1 e2 e3
   refine⟨w,r,?_⟩
   rcases q with⟨k,e⟩|⟨k,c,e,z⟩
   ·have:y≠x:=λz=>hj (jR hN e1 (by rw[z];exact hi))
    exact .inl ⟨k,by simp[this,e]⟩
   ·exact .inr ⟨k,c,e,z.sameBut hs (cne y c e)⟩
 ·obtain⟨w,z⟩:=I.cell y c e
  exact⟨w,z.sameBut hs (cne y c e)⟩
 ·obtain⟨e,n,ne,nf,d⟩:=I.pin p hp
  exact⟨(hs.2 p.1 ne).trans e,n,ne,nf,d⟩
 ·refine (I.hok b ob e).stay (λc w hc q=>(hs.2 c ?_).trans q) (λ_ q=>q) λ_ _ q=>q
  rintro rfl
  rcases hc with rfl|hc
  ·rw[I.free] at e;cases e
  ·rw[I.free] at hc;cases hc
theorem Kh{x C:Addr}{d:Option Addr}(I:Inv X pins σ H s)(ox:XOk X H x)(hp:∀p∈pins,p.1≠x)(hx:XcAt x C d s.heap):Inv X pins σ (upd H x (.ext (XcAt x C d))) s:=by
 have ne:∀b,H b≠none->b≠x:=λb h z=>h (by rw[z];exact ox.free)
 refine⟨I.ok,I.os,I.bare,⟨I.base.keep,I.base.slot,λb o e n hx'=>?_,I.base.there,λb xs e=>?_,λb o u e=>?_,λb ps e=>?_⟩,I.loc,I.cell,?_,λy c e=>?_,λp hp'=>?_,λb ob e=>?_,I.len⟩
 ·have:b≠x:=λz=>by
   rcases ox.new with q|q
   ·exact hx' (by rw[z];exact q)
   ·rw[←z,e] at q;cases q
  rw[z7 this];exact I.base.free b o e n hx'
 ·have q:=I.base.tups b xs e
  rw[z7 (ne b (by rw[q];simp))];exact q
 ·have q:=I.base.frzs b o u e
  rw[z7 (ne b (by rw[q];simp))];exact q
 ·obtain⟨more,q⟩:=I.base.tbls b ps e
  exact⟨more,by rw[z7 (ne b (by rw[q];simp))];exact q⟩
 ·rw[z7 (z6Z ox.loc)];exact I.free
 ·rw[z7 (ox.cel y c e)];exact I.freeC y c e
 ·obtain⟨e,n,r⟩:=I.pin p hp'
  have:p.1≠x:=(z6K.mp hp').elim (ox.pin p) (hp p)
  exact⟨e,by rw[z7 this];exact n,r⟩
 ·by_cases z:b=x
  ·subst z
   rw[z6] at e
   cases e
   obtain⟨oe,vs,h1,h2⟩:=id hx
   refine⟨hx,⟨oe,h1⟩,λg1 g2 p k=>?_⟩
   obtain⟨oe',vs',h1',h2'⟩:=p
   exact⟨oe',vs',k _ h1',h2'⟩
  ·rw[z7 z] at e
   have sm:∀c o,H c=some o->upd H x (.ext (XcAt x C d)) c=some o:=λc o q=>by rw[z7 (ne c (by rw[q];simp))];exact q
   exact (I.hok b ob e).stay (λ_ _ _ q=>q) (λc q=>sm c _ q) λc xs q=>sm c _ q
end
section
variable {X:Cx}{D:DP}{W:XW}{Γ:Cn}{k:Nat}{pins:List (Addr×Obj)}{s:Shared}{σ:St}{H:Hp}{φ α:List Addr}{τ:Sl}{μ:Mem}{a b c e:Expr}{pos:Pos}{E:Ends}{es:List Expr}{fs:List De}
theorem U9(C:Sk D W Γ X k)(hc:Γ.calm=true){x:Str}{n:Nat}{p0 p1:Pos}(hx:x∈Γ.G)(hg:Γ.gl x=.xcl n)(ha:EsOk X D W (a::es) fs) :
  PS X (.Raise (some (.Call (.Name x p0) (a::es) [] p1)) none pos) (rdS D W (qx n fs)):=by
 rintro pins s σ H E I ⟨φ,α,τ,μ,sr,mr,p⟩
 have q:=C.glo x hx
 rw[hg] at q
 obtain⟨C0,ad,hm,hex⟩:=q
 have hs:=ha.stars
 obtain⟨tl,N,nm,qn,bs,hd,sn,sub,ab,col,dd,k0,k1,k2,k3,k5,mN,o1,o2,o3,o4⟩:=QW I.ok.mod.kin hex
 have hb:tl.contains (.type "BaseException")=true:=o4.hasType z7D.hasBase
 have hp:(z8I p1 (z7m (a::es) X.env)).any (·.1)=false:=qt hs
 refine wpAny_Raise_call_subT (nm:=nm) (q:=qn) (C:=C0) (N:=N) (bs:=bs) (bm:=tl) (hdct:=hd) (sn:=sn) (sub:=sub) (ab:=ab) (col:=col) (dd:=dd) (k0:=k0) (k1:=k1) (k2:=k2) (k3:=k3) (k5:=k5) (mN:=mN) z7D hb (I.ok.hd (C.clm hc)) hp o3 ?_
 refine qV I (C.glb x hx) hm ⟨rfl,?_⟩ (C.dbG x hx)
 have hs1:noStar a=true:=by simp only[z7y,z6x] at hs;exact hs.1
 have sA:=thn (wK ha p1 pins s σ H (λvs H1=>∃ts μ1 α1,Stp α H α1 H1/\SRel D φ α1 H1 τ σ/\MRel D φ α1 H1 μ1/\DenL D φ α1 H1 ts vs/\PostS D W φ α1 H1 E (.grd (ts.length<=room) (.ex n [] τ μ1))) I ⟨φ,α,τ,μ,sr,mr,(PostS.out sr p).mono λts μ' α' H' st m q vs d _=>⟨ts,μ',α',st,sr.step st,m,d,q⟩⟩) (Q':=λus s1=>us.length<=sizeLine/\s1.heap.get? C0=some (z8c nm qn C0 N bs tl hd sn sub ab col dd k0 k1 k2 k3 k5 "ValueError.__new__")/\s1.heap.Ns N mN/\zb8 s1.heap zW tl/\∀h' e,z9e s1.heap h' e (.ref C0) us->X.xe (.ref e) {s1 with heap:=h'}) ?_
 ·rw[za hs1] at sA ⊢
  exact z8M (thn sA λus s1 h1=>⟨rfl,h1⟩)
 ·rintro us s1 ⟨vs,H1,I1,r,ts,μ1,α1,st,sr1,m1,dl,q⟩
  obtain⟨hl,q⟩:=PostS.grd q
  refine⟨?_,I1.bk _ _ o1,o2.keeps I1.bk,o4.keeps I1.bk,λh' e mk=>?_⟩
  ·have e1:=dl.length
   have e2:=r.length
   have:=zA hl
   rw[←e2,←e1]
   exact this
  ·exact C.xe _ _ (z04 I1 mk (PostS.ex q (Stp.refl _ _) m1 sr1 ad rfl))
theorem XTr.at{h:Heap}{x T C:Addr}{d:Option Addr}{fl:Value}(t:XTr h x T (.ref C) d fl):XcAt x C d h:=by
 obtain⟨oe,vs,a0,oT,ts,h1,⟨h2,h3⟩,h4,_⟩:=t
 exact⟨oe,vs,h1,h2,h4,h3⟩
theorem XcAt.ty{M:z9J}{h:Heap}{x C:Addr}{d:Option Addr}(t:XcAt x C d h):zbl M h (typeOf (.ref x)) (.ref C):=by
 obtain⟨oe,vs,h1,h2,h3,h4⟩:=t
 exact h2▸(zd_ h1).andThen .now
noncomputable def HcOk (Γ:Cn)(x:Str)(c:Nat):Prop:=x∈Γ.G/\(x,c)∈Γ.cls/\((∃f,Γ.gl x=.xcf c f)\/Γ.gl x=.xcl c)/\c<40
noncomputable def z6b (Γ:Cn):Option Str->Option Nat->Prop
 |none,none=>True
 |some e,some j=>idx Γ.N e=some j/\Γ.cel.contains e=false
 |_,_=>False
noncomputable def UA (D:DP)(Γ:Cn)(k:Nat):List z8Z->List (List Nat×Option Nat×List Ds)->Prop
 |[],[]=>True
 |h::hs,g::r=>(∃x p nm b0 suite pp c i vs,h=.ExceptHandler (some (.Name x p)) nm (b0::suite) pp/\g=([c],i,vs)/\HcOk Γ x c/\z6b Γ nm i/\∀X',Sk D noW {Γ with calm:=false} X' k->um X' D noW (b0::suite) vs)/\UA D Γ k hs r
 |_,_=>False
theorem HcOk.mg(C:Sk D W Γ X k){x:Str}{c:Nat}(h:HcOk Γ x c):∃Cc,X.mg x=some (.ref Cc):=by
 have q:=C.glo x h.1
 rcases h.2.2.1 with⟨f,g⟩|g
 ·rw[g] at q
  obtain⟨Cc,_,hm⟩:=q
  exact⟨Cc,hm⟩
 ·rw[g] at q
  obtain⟨Cc,_,hm,_⟩:=q
  exact⟨Cc,hm⟩
theorem YD(C:Sk D W Γ X k){x Tt Ck:Addr}{d:Option Addr}{kk:Nat}{xfs:List (Nat×T)}(ad:D.adr kk=some Ck):∀{hs:List z8Z} {r:List (List Nat×Option Nat×List Ds)} {s1:z6z} {σ1:St} {H1:Hp} {α1:List Addr} {τ1:Sl} {μ1:Mem},UA D Γ k hs r->Inv (Cx.pin' X pins) [] σ1 H1 s1->XOk (Cx.pin' X pins) H1 x->XOk (Cx.pin' X pins) H1 Tt->XTr s1.heap x Tt (.ref Ck) d .none->
  XDict D φ α1 H1 xfs d->MRel D φ α1 H1 μ1->SRel D φ α1 H1 τ1 σ1->PostS D W φ α1 H1 E (z0n r kk xfs τ1 μ1)->z6I (z6L X.prog X.w) X.A (handleBy (.ref x) X.env hs) (SP X pins E) X.xe s1
 |[],[],s1,σ1,H1,α1,τ1,μ1,_,I1,ox,oT,tr,xd,m1,sr1,p=>by
  obtain⟨e0,out,L,F⟩:=C.frm
  refine wpAny_handleBy_nil ?_
  unfold zdC
  obtain⟨oe,vs',a0,oT',ts,ho,hcc,hd,hv0,hv1,hT,hoT,hdT,h3⟩:=id tr
  refine z6w (z7W ho hd hv1 ?_)
  rw[if_neg (show ¬((z6W Tt == z7z)=true) from by simp)]
  have go:∀{t2:z6z},XP X W (.ref x) t2->z6I (z6L X.prog X.w) X.A (throw (z6W x):Sem Flow) (SP X pins E) X.xe t2:=λ{t2} xp=>wpAny_throw (C.xe _ _ xp)
  have un:∀b,XOk (Cx.pin' X pins) H1 b->XOk X H1 b:=λb o=>⟨o.free,o.loc,o.nfs,o.new,o.cel,λp hp=>o.pin p (z6G _ hp)⟩
  have fin:z6I (z6L X.prog X.w) X.A (zam (.ref x) X.env.frame) (λ_ t2=>XP X W (.ref x) t2) X.xe s1:=by
   refine qG ((zU I1).pins_of λp hp=>absurd hp (by simp)) (un x ox) (un Tt oT) tr λh4 I4 tr4=>?_
   refine⟨x,.ref Ck,d,σ1,H1,some Tt,z7t L,rfl,I4,un x ox,λt ht=>?_,?_,.inr ⟨L,F.fe,rfl⟩,PostS.ex p (Stp.refl _ _) m1 sr1 ad xd⟩
   ·have:t=Tt:=by simpa using ht
    rw[this];exact un Tt oT
   ·rw[F.fe] at tr4;exact tr4
  first
   |exact z6w (thn fin λ_ t2 xp=>go xp)
   |exact z6w (z6F (z6w (thn fin λ_ t2 xp=>go xp)))
 |[],_::_,_,_,_,_,_,_,h,_,_,_,_,_,_,_,_=>h.elim
 |_::_,[],_,_,_,_,_,_,h,_,_,_,_,_,_,_,_=>h.elim
 |hd::hs',g::r',s1,σ1,H1,α1,τ1,μ1,h,I1,ox,oT,tr,xd,m1,sr1,p=>by
   obtain⟨⟨x0,p0,nm,b0,suite',pp,c,i,vs,rfl,rfl,hcx,hnm,hsu⟩,hrest⟩:=h
   obtain⟨Cc,hmc⟩:=hcx.mg C
   have IX:Inv (Cx.han (Cx.pin' X pins) x) [] σ1 H1 s1:=Q8 I1
   have hexm:=C.xmt kk x0 c hcx.2.1 hcx.2.2.2 Ck Cc ad hmc
   refine wpAny_handleBy_cons (codeAny_handlers_test (qV (X:=Cx.han (Cx.pin' X pins) x) IX (C.glb x0 hcx.1) hmc ?_ (C.dbG x0 hcx.1))) (λq=>by cases q)
   refine (PySem.W.exm_one (M:=z6L X.prog X.w) IX.kIn (XcAt.ty (XTr.at tr)) hexm).at ?_
   have hio:isAny kk [c]=vx kk c:=by
    rw[yS];show bOr _ false=_
    cases vx kk c<;>rfl
   have p:PostS D W φ α1 H1 E (.br (vx kk c) (z4v i vs kk xfs τ1 μ1) (z0n r' kk xfs τ1 μ1)):=by rw[←hio];exact p
   rcases PostS.br p with⟨hb,p⟩|⟨hb,p⟩
   ·rw[hb]
    obtain⟨Q,q,h1,h2,h3,h4,h5⟩:=p
    have C2:∀{X':Cx},X'=Cx.han (Cx.pin' X pins) x->Sk D noW {Γ with calm:=false} X' k:=λ{X'} hX'=>by
     subst hX'
     obtain⟨e0,out,L,F⟩:=C.frm
     exact {hK:=C.hK,hN:=C.hN,nd:=C.nd,vis:=C.vis,dbg:=C.dbg,dbG:=C.dbG,glb:=C.glb,glo:=C.glo,glU:=C.glU,cel:=C.cel,isi:=C.isi,fld:=C.fld,xcx:=C.xcx,ocx:=C.ocx,clv:=C.clv,clm:=(λz=>by cases z),rom:=(λz=>by cases z),rmh:=⟨C.rmh.dp,C.rmh.un⟩,xe:=(λe s p=>by obtain⟨_,_,_,_,_,_,_,_,_,_,_,_,_,z⟩:=p;exact z),frm:=⟨e0,out,L,F.stk,F.f0,F.fe⟩,lam:=C.lam,kfz:=C.kfz,sto:=C.sto,lcl:=C.lcl,pso:=PassesOwn.never,xmt:=C.xmt}
    have okX:X.Ok:=Wi I1.ok
    cases nm with
    |none=>
     cases i with
     |some j=>exact z7c hnm
     |none=>
      refine codeAny_handlers_suite (qG (X:=Cx.pin' X pins) I1 ox oT tr λh3' I3 tr3=>?_)
      have S:=wD (hsu _ (C2 rfl)) [] _ _ _ {nx:=E.nx,rt:=E.rt} (Q8 (x:=x) I3) ⟨φ,α1,τ1,μ1,sr1,m1,_,q,h1,(λ_ _ z=>z.elim),(λ_ _ z=>z.elim),h4,(λ_ _ _ _ z=>z.elim)⟩
      refine z7f S (λf s6 h6=>?_) (λ_ _ z=>z.elim)
      cases f with
      |next=>obtain⟨σ',H',I',q'⟩:=h6;exact⟨σ',H',zU (kP I1.ok I'),q'⟩
      |brk=>obtain⟨σ',H',I',q'⟩:=h6;exact q'.elim
      |cont=>obtain⟨σ',H',I',q'⟩:=h6;exact q'.elim
      |ret w=>obtain⟨y,σ',H',I',r,q'⟩:=h6;exact⟨y,σ',H',zU (kP I1.ok I'),r,q'⟩
    |some e=>
     cases i with
     |none=>exact z7c hnm
     |some j=>
      obtain⟨hidx,hce⟩:=hnm
      refine codeAny_handlers_suite_as (qG (X:=Cx.pin' X pins) I1 ox oT tr λh3' I3 tr3=>?_)
      have I4:=Kh (C:=Ck) (d:=d) I3 ox (λp hp=>absurd hp (by simp)) (XTr.at tr3)
      have st2:Stp α1 H1 α1 (upd H1 x (.ext (XcAt x Ck d))):=Stp.new (zk ox.free)
      have hloc:X.env.scope.names.lookup e=some .local:=C.lcl e (qL hidx) hce
      have hNd:X.N.Nodup:=by rw[C.hN];exact C.nd
      have hNi:X.N[j]?=some e:=by rw[C.hN];exact qW hidx
      refine yy (X:=Cx.han (Cx.pin' X pins) x) (i:=j) (v:=.ref x) (Q8 I4) hNd hNi (.inl hloc) rfl (λs5 I5=>?_) (.inr hloc)
      have xd5:=xd.lk (st2.lk (φ:=φ))
      have den:Den D φ α1 (upd H1 x (.ext (XcAt x Ck d))) (.exc kk xfs) (.ref x):=⟨x,Ck,d,rfl,zt m1 ox.free,zu m1 ox.free,ad,z6,by cases d<;>exact xd5⟩
      have sr5:=(sr1.step st2).set (i:=j) den
      have m5:=m1.new (zk (o:=HO.ext (XcAt x Ck d)) ox.free)
      have S:=wD (hsu _ (C2 rfl)) [] s5 _ _ {nx:=λσ' H'=>E.nx (σ'.set j none) H',rt:=E.rt} I5 ⟨φ,α1,_,μ1,sr5,m5,_,q,(λτ2 μ2 z α' H' σ' st m r=>h1 _ μ2 z α' H' _ (st2.trans st) m r.unset),(λ_ _ z=>z.elim),(λ_ _ z=>z.elim),(λt μ2 z α' H' v st m dd=>h4 t μ2 z α' H' v (st2.trans st) m dd),(λ_ _ _ _ z=>z.elim)⟩
      have hkf:(X.env.scope.kind == .class || (X.env.scope.kind == .module&&X.env.locals != X.env.globals))=false:=by rw[okX.kind];rfl
      refine z7f S (λf s6 h6=>?_) (λ_ _ z=>z.elim)
      have fin:∀{σ6 H6},Inv (Cx.han (Cx.pin' X pins) x) [] σ6 H6 s6->(∀s7,Inv X pins (σ6.set j none) H6 s7->SP X pins E f s7)->z6I (z6L X.prog X.w) X.A (do bindName X.env e .none;unbindBehindTheSuite X.env e pp) (λ_ s7=>SP X pins E f s7) X.xe s6:=λ{σ6 H6} I6 q=>by
       have I7:Inv X pins σ6 H6 s6:=zU (kP (Ud okX) I6)
       obtain⟨m,hn,hl⟩:=I7.loc
       refine wpAny_nameGoes_keeps hloc hn hkf λh7 u7 hn7 hs7=>?_
       exact q _ (Kk I7 hNd hNi hl hn7 hs7)
      cases f with
      |next=>obtain⟨σ',H',I',q'⟩:=h6;exact fin I' λs7 I7=>⟨_,H',I7,q'⟩
      |brk=>obtain⟨σ',H',I',q'⟩:=h6;exact q'.elim
      |cont=>obtain⟨σ',H',I',q'⟩:=h6;exact q'.elim
      |ret w=>obtain⟨y,σ',H',I',r,q'⟩:=h6;exact fin I' λs7 I7=>⟨y,_,H',I7,r,q'⟩
   ·rw[hb]
    exact YD C ad hrest I1 ox oT tr xd m1 sr1 p
theorem z33(C:Sk D W Γ X k)(hc:Γ.calm=true){body:List Stmt}{us:List Ds}{h0:z8Z}{hs:List z8Z}{r:List (List Nat×Option Nat×List Ds)}(hb:∀X' W',Sk D W' Γ X' k->um X' D W' body us)(hh:UA D Γ k (h0::hs) r) :
  PS X (.Try body (h0::hs) [] [] pos) (rdS D W (z2z us r)):=by
 rintro pins s σ H E I ⟨φ,α,τ,μ,sr,mr,Q,q,h1,h2,h3,h4,h5⟩
 obtain⟨e0,out,L,F⟩:=C.frm
 have F0:Frm (Cx.pin' X pins) e0 out L:=⟨F.stk,F.f0,F.fe⟩
 generalize hW:(λ(cls:Value) (d:Option Addr) (σ':St) (H':Hp)=>∃kk fs τ1 μ1 α1 Ck,z0n r kk fs τ1 μ1 Q/\D.adr kk=some Ck/\cls=.ref Ck/\Stp α H α1 H'/\MRel D φ α1 H' μ1/\SRel D φ α1 H' τ1 σ'/\XDict D φ α1 H' fs d:XW)=W1
 have C1:Sk D W1 Γ ((Cx.pin' X pins).wish (XP (Cx.pin' X pins) W1)) k:={hK:=C.hK,hN:=C.hN,nd:=C.nd,vis:=C.vis,dbg:=C.dbg,dbG:=C.dbG,glb:=C.glb,glo:=C.glo,glU:=C.glU,cel:=C.cel,isi:=C.isi,fld:=C.fld,xcx:=C.xcx,ocx:=C.ocx,clv:=C.clv,clm:=C.clm,rom:=C.rom,rmh:=⟨C.rmh.dp,C.rmh.un⟩,xe:=λe s p=>kO p,frm:=⟨e0,out,L,F.stk,F.f0,F.fe⟩,lam:=C.lam,kfz:=C.kfz,sto:=C.sto,lcl:=C.lcl,pso:=Zu F0 I.ok.frames,xmt:=C.xmt}
 have B:=wD (hb _ W1 C1) [] s σ H E ((Qk I).wish _) ⟨φ,α,τ,μ,sr,mr,_,q,h1,h2,h3,h4,λkk fs τ1 μ1 z α' H' σ' Ck d st m sr' ad xd=>by rw[←hW];exact⟨kk,fs,τ1,μ1,α',Ck,z,ad,rfl,st,m,sr',xd⟩⟩
 refine wpAny_Try_except (z7f B (λf s1 h1=>?_) (λe1 s1 hx=>?_))
 ·cases f with
  |next=>obtain⟨σ',H',I',q⟩:=h1;exact J5 pins s1 σ' H' E (zU I'.unwish) q
  |brk=>obtain⟨σ',H',I',q⟩:=h1;exact⟨σ',H',zU I'.unwish,q⟩
  |cont=>obtain⟨σ',H',I',q⟩:=h1;exact⟨σ',H',zU I'.unwish,q⟩
  |ret w=>obtain⟨y,σ',H',I',r,q⟩:=h1;exact⟨y,σ',H',zU I'.unwish,r,q⟩
 have hx:XP (Cx.pin' X pins) W1 e1 s1:=hx
 refine xK (X:=Cx.pin' X pins) F0 I.ok.frames hx λx cls d σ1 H1 Tt h' ee I1 ox oT tr w=>?_
 subst ee
 refine qG (X:=Cx.pin' X pins) (s:={s1 with heap:=h'}) I1 ox oT tr λh2' I2 tr2=>?_
 rw[←hW] at w
 obtain⟨kk,fs,τ1,μ1,α1,Ck,z,ad,rfl,st1,m1,sr1,xd⟩:=w
 exact YD C ad hh I2 ox oT tr2 xd m1 sr1 (PostS.step ⟨Q,z,h1,h2,h3,h4,h5⟩ st1)
end
structure Rec where
 e:Cn->Expr->Option De
 t:Cn->Expr->Option Dt
 w:Cn->Expr->Option Dt
 i:Cn->Expr->Option Di
 o:Cn->Expr->Option De
 s:Cn->Stmt->Option Ds
noncomputable abbrev ER:=Rec->Cn->Expr->Option De
noncomputable abbrev TR:=Rec->Cn->Expr->Option Dt
noncomputable abbrev IR:=Rec->Cn->Expr->Option Di
noncomputable abbrev SR:=Rec->Cn->Stmt->Option Ds
structure Rules where
 e:List ER
 t:List TR
 w:List TR
 i:List IR
 o:List ER
 s:List SR
noncomputable def Qb {α β:Type}:List (Rec->Cn->α->Option β)->Rec->Cn->α->Option β
 |[],_,_,_=>none
 |f::fs,r,Γ,e=>match f r Γ e with
  |some d=>some d
  |none=>Qb fs r Γ e
noncomputable def comp (R:Rules):Nat->Rec
 |0=>⟨λ_ _=>none,λ_ _=>none,λ_ _=>none,λ_ _=>none,λ_ _=>none,λ_ _=>none⟩
 |n+1=>⟨Qb R.e (comp R n),Qb R.t (comp R n),Qb R.w (comp R n),Qb R.i (comp R n),Qb R.o (comp R n),Qb R.s (comp R n)⟩
noncomputable def KD(tg e:Expr):Bool:=match e with
 |.Call (.Name x _) _ _ _=>(x != ("enumerate":Str)&&x != ("zip":Str)) || (match tg with|.Tuple _ _ _=>true|_=>false)
 |_=>true
structure RecOk(D:DP)(r:Rec):Prop where
 e:∀{X W Γ k e f},Ck D W Γ X k->r.e Γ e=some f->PE X e (rdE D W f)
 t:∀{X W Γ k e f},Ck D W Γ X k->r.t Γ e=some f->PT X e (rdT D W f)
 w:∀{X W Γ k e f},Ck D W Γ X k->r.w Γ e=some f->PW X e (rdT D W f)
 i:∀{X W Γ k tg e f},Ck D W Γ X k->KD tg e=true->r.i Γ e=some f->PI X tg e (rdI D W f)
 o:∀{X W Γ k e f},Ck D W Γ X k->r.o Γ e=some f->PE X e (rdE D W f)
 s:∀{X W Γ k e f},Sk D W Γ X k->r.s Γ e=some f->PS X e (rdS D W f)
noncomputable def EOk (D:DP)(f:ER):Prop:=∀r,RecOk D r->∀{X W Γ k e d},Ck D W Γ X k->f r Γ e=some d->PE X e (rdE D W d)
noncomputable def TOk (D:DP)(f:TR):Prop:=∀r,RecOk D r->∀{X W Γ k e d},Ck D W Γ X k->f r Γ e=some d->PT X e (rdT D W d)
noncomputable def WOk (D:DP)(f:TR):Prop:=∀r,RecOk D r->∀{X W Γ k e d},Ck D W Γ X k->f r Γ e=some d->PW X e (rdT D W d)
noncomputable def IOk (D:DP)(f:IR):Prop:=∀r,RecOk D r->∀{X W Γ k tg e d},Ck D W Γ X k->KD tg e=true->f r Γ e=some d->PI X tg e (rdI D W d)
noncomputable def SOk (D:DP)(f:SR):Prop:=∀r,RecOk D r->∀{X W Γ k e d},Sk D W Γ X k->f r Γ e=some d->PS X e (rdS D W d)
noncomputable def x6{α:Type}(P:α->Prop):List α->Prop
 |[]=>True
 |f::fs=>P f/\x6 P fs
structure RulesOk(D:DP)(R:Rules):Prop where
 e:x6 (EOk D) R.e
 t:x6 (TOk D) R.t
 w:x6 (WOk D) R.w
 i:x6 (IOk D) R.i
 o:x6 (EOk D) R.o
 s:x6 (SOk D) R.s
theorem vh{α β:Type}{P:(Rec->Cn->α->Option β)->Prop}{C:Prop}{r:Rec}{Γ:Cn}{e:α}{d:β}:∀{fs:List (Rec->Cn->α->Option β)},x6 P fs->(∀f,P f->f r Γ e=some d->C)->Qb fs r Γ e=some d->C
 |[],_,_,h=>by cases h
 |f::fs,a,k,h=>by
  unfold Qb at h
  cases q:f r Γ e with
  |some d'=>rw[q] at h;cases h;exact k f a.1 q
  |none=>rw[q] at h;exact vh a.2 k h
theorem w6{D:DP}{R:Rules}(H:RulesOk D R):∀n,RecOk D (comp R n)
 |0=>⟨λ_ h=>(by cases h),λ_ h=>(by cases h),λ_ h=>(by cases h),λ_ _ h=>(by cases h),λ_ h=>(by cases h),λ_ h=>(by cases h)⟩
 |n+1=>⟨λC h=>vh H.e (λf p q=>p _ (w6 H n) C q) h,λC h=>vh H.t (λf p q=>p _ (w6 H n) C q) h,λC h=>vh H.w (λf p q=>p _ (w6 H n) C q) h,λC ht h=>vh H.i (λf p q=>p _ (w6 H n) C ht q) h,λC h=>vh H.o (λf p q=>p _ (w6 H n) C q) h,λC h=>vh H.s (λf p q=>p _ (w6 H n) C q) h⟩
noncomputable def gd{α:Type}(b:Bool)(o:Option α):Option α:=match b with
 |true=>o
 |false=>none
theorem zr{α:Type}{b:Bool}{o:Option α}{x:α}(h:gd b o=some x):b=true/\o=some x:=by
 cases b with
 |true=>exact⟨rfl,h⟩
 |false=>cases h
theorem bnd{α β:Type}{o:Option α}{f:α->Option β}{x:β}(h:o.bind f=some x):∃a,o=some a/\f a=some x:=Option.bind_eq_some_iff.mp h
noncomputable def zq {α β:Type}(f:α->Option β):List α->Option (List β)
 |[]=>some []
 |a::r=>(f a).bind λb=>(zq f r).bind λbs=>some (b::bs)
noncomputable def cEs (r:Rec)(Γ:Cn)(es:List Expr):Option (List De):=zq (λe=>gd (noStar e) (r.e Γ e)) es
section
variable {D:DP}{r:Rec}{X:Cx}{W:XW}{Γ:Cn}{k:Nat}
theorem wH(h:RecOk D r)(C:Ck D W Γ X k):∀{es:List Expr} {fs:List De},cEs r Γ es=some fs->EsOk X D W es fs
 |[],fs,e=>by cases e;trivial
 |a::es,fs,e=>by
  obtain⟨f,h1,e⟩:=bnd e
  obtain⟨gs,h2,e⟩:=bnd e
  cases e
  obtain⟨h3,h4⟩:=zr h1
  exact⟨h3,h.e C h4,wH h C h2⟩
theorem vU(h:RecOk D r)(C:Ck D W Γ X k):∀{es:List Expr} {fs:List Dt},zq (r.t Γ) es=some fs->Vj X D W es fs
 |[],fs,e=>by cases e;trivial
 |a::es,fs,e=>by
  obtain⟨f,h1,e⟩:=bnd e
  obtain⟨gs,h2,e⟩:=bnd e
  cases e
  exact⟨h.t C h1,vU h C h2⟩
theorem q_(h:RecOk D r)(C:Sk D W Γ X k):∀{es:List Stmt} {fs:List Ds},zq (r.s Γ) es=some fs->um X D W es fs
 |[],fs,e=>by cases e;trivial
 |a::es,fs,e=>by
  obtain⟨f,h1,e⟩:=bnd e
  obtain⟨gs,h2,e⟩:=bnd e
  cases e
  exact⟨h.s C h1,q_ h C h2⟩
end
noncomputable def z5g:ER:=λ_ _ e=>match e with
 |.Constant c _ _=>(match c with
  |.int i=>some (eC (.int i))
  |.bool b=>some (eC (.bl b))
  |.none=>some (eC .non)
  |.str x=>some (eC (.str x))
  |_=>none)
 |_=>none
theorem UO{D:DP}:EOk D z5g:=by
 intro r H X W Γ k e d C h
 cases e with
 |Constant c j p=>
  cases c with
  |int i=>cases h;exact z2V
  |bool i=>cases h;exact z4P
  |none=>cases h;exact z27
  |str i=>cases h;exact z3W
  |_=>cases h
 |_=>cases h
noncomputable def z39:ER:=λ_ Γ e=>match e with
 |.Name x _=>(match idx Γ.N x with
  |some i=>some (eV i)
  |none=>(match Γ.look x with
   |.cst t=>some (eC t)
   |_=>none))
 |_=>none
theorem z05{D:DP}:EOk D z39:=by
 intro r H X W Γ k e d C h
 cases e with
 |Name x p=>
  simp only[z39] at h
  cases q:idx Γ.N x with
  |some i=>rw[q] at h;cases h;exact z2e C q
  |none=>
   rw[q] at h
   cases hl:Γ.look x with
   |cst t=>
    simp only[hl] at h
    cases h
    obtain⟨hx,hg⟩:=w5 hl (by intro z;cases z)
    exact z2o C hx hg
   |_=>simp[hl] at h
 |_=>cases h
noncomputable def z4L:ER:=λr Γ e=>match e with
 |.BinOp a op b _=>(r.e Γ a).bind λf=>(r.e Γ b).bind λg=>some (ze op f g)
 |_=>none
theorem z0k{D:DP}:EOk D z4L:=by
 intro r H X W Γ k e d C h
 cases e with
 |BinOp a op b p=>
  obtain⟨f,h1,h⟩:=bnd h
  obtain⟨g,h2,h⟩:=bnd h
  cases h
  exact z3r (H.e C h1) (H.e C h2)
 |_=>cases h
noncomputable def rUn:ER:=λr Γ e=>match e with
 |.UnaryOp op a _=>(r.e Γ a).bind λf=>(match op with
  |.USub=>some (WT f)
  |.Not=>some (z3s f)
  |_=>none)
 |_=>none
theorem z2F{D:DP}:EOk D rUn:=by
 intro r H X W Γ k e d C h
 cases e with
 |UnaryOp op a p=>
  obtain⟨f,h1,h⟩:=bnd h
  cases op with
  |USub=>cases h;exact z2s (H.e C h1)
  |Not=>cases h;exact z2J (H.e C h1)
  |_=>cases h
 |_=>cases h
noncomputable def z1v:ER:=λr Γ e=>match e with
 |.BoolOp op es p=>(match es with
  |[a]=>r.e Γ a
  |a::b::l=>(r.e Γ a).bind λf=>(r.e Γ (.BoolOp op (b::l) p)).bind λg=>some (match op with|.And=>Jx f g|.Or=>eOr f g)
  |[]=>none)
 |_=>none
theorem Yn{D:DP}:EOk D z1v:=by
 intro r H X W Γ k e d C h
 cases e with
 |BoolOp op es p=>
  match es with
  |[]=>cases h
  |[a]=>exact z2f (H.e C h)
  |a::b::l=>
   obtain⟨f,h1,h⟩:=bnd h
   obtain⟨g,h2,h⟩:=bnd h
   cases h
   cases op with
   |And=>exact z3B (H.e C h1) (H.e C h2)
   |Or=>exact z4w (H.e C h1) (H.e C h2)
 |_=>cases h
noncomputable def chs (r:Rec)(Γ:Cn):List z85->List Expr->Option (List (z85×De))
 |[],[]=>some []
 |op::ops,e::es=>gd (jF op) ((r.e Γ e).bind λf=>(chs r Γ ops es).bind λps=>some ((op,f)::ps))
 |_,_=>none
theorem X6{D:DP}{r:Rec}{X:Cx}{W:XW}{Γ:Cn}{k:Nat}(H:RecOk D r)(C:Ck D W Γ X k):∀{ops:List z85} {es:List Expr} {ps:List (z85×De)},chs r Γ ops es=some ps->Jl X D W es ps/\ps.map (·.1)=ops/\ps.all (λp=>jF p.1)=true
 |[],[],ps,h=>by cases h;exact⟨trivial,rfl,rfl⟩
 |[],_::_,ps,h=>by cases h
 |_::_,[],ps,h=>by cases h
 |op::ops,e::es,ps,h=>by
  obtain⟨hb,h⟩:=zr h
  obtain⟨f,h1,h⟩:=bnd h
  obtain⟨qs,h2,h⟩:=bnd h
  cases h
  obtain⟨k1,k2,k3⟩:=X6 H C h2
  exact⟨⟨H.e C h1,k1⟩,by simp[k2],by simp[hb,k3]⟩
noncomputable def z1_ (r:Rec)(Γ:Cn)(a:Expr)(ops:List z85)(es:List Expr):Option De:=(r.e Γ a).bind λf=>(match ops,es with
 |[op],[b]=>gd (jW op b) ((r.e Γ b).bind λg=>some (zv op f g))
 |_::_::_,_::_::_=>(chs r Γ ops es).bind λps=>some (eCh f ps)
 |_,_=>none)
theorem VD{D:DP}{r:Rec}{X:Cx}{W:XW}{Γ:Cn}{k:Nat}(H:RecOk D r)(C:Ck D W Γ X k){a:Expr}{ops:List z85}{es:List Expr}{p:Pos}{d:De}(h:z1_ r Γ a ops es=some d):PE X (.Compare a ops es p) (rdE D W d)/\PT X (.Compare a ops es p) (rdT D W (tE d)):=by
 obtain⟨f,h1,h⟩:=bnd h
 match ops,es with
 |[op],[b]=>
  obtain⟨ho,h⟩:=zr h
  obtain⟨g,h2,h⟩:=bnd h
  cases h
  exact⟨z30 C ho (H.e C h1) (H.e C h2),Vo C ho (H.e C h1) (H.e C h2)⟩
 |op::op'::ops,e::e'::es=>
  obtain⟨ps,h2,h⟩:=bnd h
  cases h
  obtain⟨k1,k2,k3⟩:=X6 H C h2
  match ps with
  |[]=>cases k2
  |[p1]=>simp at k2
  |p1::p2::ps=>
   simp only[z7g,zcu] at k2
   obtain⟨rfl,rfl,rfl⟩:=k2
   exact⟨Ye C k3 (H.e C h1) k1,Wf C k3 (H.e C h1) k1⟩
 |[],es=>cases h
 |[_],[]=>cases h
 |[_],_::_::_=>cases h
 |_::_::_,[]=>cases h
 |_::_::_,[_]=>cases h
noncomputable def z5T:ER:=λr Γ e=>match e with
 |.Compare a ops es _=>z1_ r Γ a ops es
 |_=>none
theorem UM{D:DP}:EOk D z5T:=by
 intro r H X W Γ k e d C h
 cases e with
 |Compare a ops es p=>exact (VD H C h).1
 |_=>cases h
noncomputable def z5d:ER:=λr Γ e=>match e with
 |.IfExp c a b _=>(r.t Γ c).bind λt=>(r.e Γ a).bind λf=>(r.e Γ b).bind λg=>some (eIf t f g)
 |_=>none
theorem UR{D:DP}:EOk D z5d:=by
 intro r H X W Γ k e d C h
 cases e with
 |IfExp c a b p=>
  obtain⟨t,h0,h⟩:=bnd h
  obtain⟨f,h1,h⟩:=bnd h
  obtain⟨g,h2,h⟩:=bnd h
  cases h
  exact z5o (H.t C h0) (H.e C h1) (H.e C h2)
 |_=>cases h
noncomputable def z5p:ER:=λr Γ e=>match e with
 |.Attribute a x _=>gd (zT a) ((r.e Γ a).bind λf=>(Γ.fld.lookup x).bind λn=>some (zi f n))
 |_=>none
theorem z0R{D:DP}:EOk D z5p:=by
 intro r H X W Γ k e d C h
 cases e with
 |Attribute a x p=>
  obtain⟨hp,h⟩:=zr h
  obtain⟨f,h1,h⟩:=bnd h
  obtain⟨n,h2,h⟩:=bnd h
  cases h
  exact z1Z C hp (lookup_mem h2) (H.e C h1)
 |_=>cases h
noncomputable def prt (r:Rec)(Γ:Cn):Option Expr->Option Dp
 |none=>some pN
 |some e=>(r.e Γ e).bind λf=>some (pS f)
theorem Ya{D:DP}{r:Rec}{X:Cx}{W:XW}{Γ:Cn}{k:Nat}(H:RecOk D r)(C:Ck D W Γ X k){o:Option Expr}{d:Dp}(h:prt r Γ o=some d):PO X o (rdO D W d):=by
 cases o with
 |none=>cases h;exact z11
 |some e=>
  obtain⟨f,h1,h⟩:=bnd h
  cases h
  exact UQ (H.e C h1)
noncomputable def z4b:ER:=λr Γ e=>match e with
 |.Subscript a b _=>(match b with
  |.Slice lo hi st _=>(match st with
   |none=>(r.e Γ a).bind λf=>(prt r Γ lo).bind λl=>(prt r Γ hi).bind λu=>some (eSl f l u)
   |some _=>none)
  |b=>gd (qC b) ((r.e Γ a).bind λf=>(r.e Γ b).bind λg=>some (eIx f g)))
 |_=>none
theorem UI{D:DP}:EOk D z4b:=by
 intro r H X W Γ k e d C h
 cases e with
 |Subscript a b p=>
  have gen:∀{b},gd (qC b) ((r.e Γ a).bind λf=>(r.e Γ b).bind λg=>some (eIx f g))=some d->PE X (.Subscript a b p) (rdE D W d):=λ{b} h=>by
   obtain⟨hp,h⟩:=zr h
   obtain⟨f,h1,h⟩:=bnd h
   obtain⟨g,h2,h⟩:=bnd h
   cases h
   exact z4S hp C.hK (H.e C h1) (H.e C h2)
  cases b with
  |Slice lo hi st p2=>
   cases st with
   |some _=>cases h
   |none=>
    obtain⟨f,h1,h⟩:=bnd h
    obtain⟨l,h2,h⟩:=bnd h
    obtain⟨u,h3,h⟩:=bnd h
    cases h
    exact Y0 (H.e C h1) (Ya H C h2) (Ya H C h3)
  |_=>exact gen h
 |_=>cases h
noncomputable def z5j:ER:=λr Γ e=>match e with
 |.List es _=>gd (decide (es.length<=room)) ((cEs r Γ es).bind λfs=>some (jI fs))
 |.Tuple es _ _=>gd (decide (es.length<=room)) ((cEs r Γ es).bind λfs=>some (qZ fs))
 |_=>none
theorem Uv{D:DP}:EOk D z5j:=by
 intro r H X W Γ k e d C h
 cases e with
 |List es p=>
  obtain⟨hl,h⟩:=zr h
  obtain⟨fs,h1,h⟩:=bnd h
  cases h
  exact z1E (of_decide_eq_true hl) (wH H C h1)
 |Tuple es kk p=>
  obtain⟨hl,h⟩:=zr h
  obtain⟨fs,h1,h⟩:=bnd h
  cases h
  exact Xx (of_decide_eq_true hl) (wH H C h1)
 |_=>cases h
noncomputable def z2E:ER:=λr Γ e=>match e with
 |.Call (.Name x _) es [] _=>gd ((idx Γ.N x).isNone&&Γ.calm) ((cEs r Γ es).bind λfs=>(match Γ.look x with
  |.fn g=>some (zb g fs)
  |.mk c true g=>some (eMk c g fs)
  |_=>none))
 |_=>none
theorem z0i{D:DP}:EOk D z2E:=by
 intro r H X W Γ k e d C h
 unfold z2E at h
 split at h
 ·rename_i x p0 es pos
  obtain⟨hb,h⟩:=zr h
  simp only[z6x] at hb
  obtain⟨fs,h1,h⟩:=bnd h
  cases hl:Γ.look x with
  |fn g=>
   simp only[hl] at h
   cases h
   obtain⟨hx,hg⟩:=w5 hl (by intro z;cases z)
   exact z0o C hx hg hb.2 (wH H C h1)
  |mk c z g=>
   cases z with
   |true=>
    simp only[hl] at h
    cases h
    obtain⟨hx,hg⟩:=w5 hl (by intro z;cases z)
    exact z0H C hx hg hb.2 (wH H C h1)
   |false=>simp[hl] at h
  |_=>simp[hl] at h
 ·cases h
noncomputable def rB1 (nm:Str)(op:T->Mem->RE T)(cl:Bool):ER:=λr Γ e=>match e with
 |.Call (.Name x _) [a] [] _=>gd (x == nm&&(idx Γ.N x).isNone&&noStar a&&(!cl || Γ.calm)) ((r.e Γ a).bind λf=>(match Γ.look x with
  |.none=>some (eB1 op f)
  |_=>none))
 |_=>none
theorem XB{D:DP}{nm:Str}{op:T->Mem->RE T}{cl:Bool}(H1:∀{X:Cx} {W:XW} {Γ:Cn} {k:Nat} {a:Expr} {f:De} {p0 pos:Pos},Ck D W Γ X k->nm∈Γ.G->Γ.gl nm=.none->(cl=true->Γ.calm=true)->noStar a=true->PE X a (rdE D W f)->PE X (.Call (.Name nm p0) [a] [] pos) (rdE D W (eB1 op f))):EOk D (rB1 nm op cl):=by
 intro r H X W Γ k e d C h
 unfold rB1 at h
 split at h
 ·rename_i x p0 a pos
  have hh:=zr h
  clear h
  obtain⟨hb,h⟩:=hh
  simp only[z6x,beq_iff_eq,zaM,z8d] at hb
  obtain⟨⟨⟨rfl,h2⟩,h3⟩,h4⟩:=hb
  obtain⟨f,h1,h⟩:=bnd h
  cases hl:Γ.look x with
  |none=>
   simp only[hl] at h
   cases h
   obtain⟨hx,hg⟩:=w5 hl (by intro z;cases z)
   exact H1 C hx hg (λz=>h4.resolve_left (by rw[z];simp)) h3 (H.e C h1)
  |_=>simp[hl] at h
 ·cases h
noncomputable def z4T:ER:=rB1 "len" ur false
theorem US{D:DP}:EOk D z4T:=XB λC hx hg _ hs ha=>z1e C hx hg boot_len (by decide) hs z53 ha
noncomputable def z3X:ER:=λr Γ e=>match e with
 |.Call (.Name x _) [a,c] [] _=>gd (x == ("isinstance":Str)&&(idx Γ.N x).isNone&&noStar a) ((r.e Γ a).bind λf=>(yX Γ c).bind λcs=>(match Γ.look x with
  |.none=>some (xY cs f)
  |_=>none))
 |_=>none
theorem UT{D:DP}:EOk D z3X:=by
 intro r H X W Γ k e d C h
 unfold z3X at h
 split at h
 ·rename_i x p0 a c pos
  have hh:=zr h
  clear h
  obtain⟨hb,h⟩:=hh
  simp only[z6x,beq_iff_eq] at hb
  obtain⟨⟨rfl,h2⟩,h3⟩:=hb
  obtain⟨f,h1,h⟩:=bnd h
  obtain⟨cs,h4,h⟩:=bnd h
  cases hl:Γ.look "isinstance" with
  |none=>
   simp only[hl] at h
   cases h
   obtain⟨hx,hg⟩:=w5 hl (by intro z;cases z)
   exact z24 C hx hg h3 h4 (H.e C h1)
  |_=>simp[hl] at h
 ·cases h
noncomputable def rM1 (nm:Str)(cb:De->De->De):ER:=λr Γ e=>match e with
 |.Call (.Attribute o m pa) [a] [] pc=>gd (m == nm&&zT o&&noStar a&&pa.endLine == pc.line) ((r.e Γ o).bind λf=>(r.e Γ a).bind λg=>some (cb f g))
 |_=>none
theorem Yy{D:DP}{nm:Str}{cb:De->De->De}(H1:∀{X:Cx} {W:XW} {Γ:Cn} {k:Nat} {o a:Expr} {f g:De} {pa pc:Pos},Ck D W Γ X k->zT o=true->noStar a=true->(pa.endLine == pc.line)=true->PE X o (rdE D W f)->PE X a (rdE D W g)->PE X (.Call (.Attribute o nm pa) [a] [] pc) (rdE D W (cb f g))):EOk D (rM1 nm cb):=by
 intro r H X W Γ k e d C h
 unfold rM1 at h
 split at h
 ·have hh:=zr h
  clear h
  obtain⟨hb,h⟩:=hh
  simp only[z6x] at hb
  obtain⟨⟨⟨h0,h2⟩,h3⟩,h4⟩:=hb
  have h0:=beq_iff_eq.mp h0
  subst h0
  obtain⟨f,h1,h⟩:=bnd h
  obtain⟨g,h5,h⟩:=bnd h
  cases h
  exact H1 C h2 h3 h4 (H.e C h1) (H.e C h5)
 ·cases h
noncomputable def z50:ER:=rM1 "append" y3
theorem Us{D:DP}:EOk D z50:=Yy λC hp hs hl ho ha=>z2v hp hs hl ho ha
noncomputable def Uu (r:Rec)(Γ:Cn)(elt tg iter:Expr)(ifs:List Expr)(sc:Scope)(mk:Nat->List Nat->Tg->Di->List Dt->De->De):Option De:=
 gd (Γ.calm&&Vr Γ.N Γ.cel tg sc&&wx iter&&KD tg iter) ((j1 Γ.N (frees sc)).bind λfs=>(wo (z8 tg++frees sc) tg).bind λtgt=>(r.i Γ iter).bind λfi=>(zq (r.t (inComp Γ tg sc)) ifs).bind λcs=>(r.e (inComp Γ tg sc) elt).bind λfe=>some (mk (z8 tg).length fs tgt fi cs fe))
theorem Qa{r:Rec}{Γ:Cn}{elt tg iter:Expr}{ifs:List Expr}{sc:Scope}{mk:Nat->List Nat->Tg->Di->List Dt->De->De}{d:De}(h:Uu r Γ elt tg iter ifs sc mk=some d) :
  ∃fs tgt fi cs fe,Γ.calm=true/\CompOk Γ.N Γ.cel tg sc/\(wx iter=true/\KD tg iter=true)/\j1 Γ.N (frees sc)=some fs/\wo (z8 tg++frees sc) tg=some tgt/\r.i Γ iter=some fi/\zq (r.t (inComp Γ tg sc)) ifs=some cs/\r.e (inComp Γ tg sc) elt=some fe/\d=mk (z8 tg).length fs tgt fi cs fe:=by
 obtain⟨hb,h⟩:=zr h
 simp only[z6x] at hb
 obtain⟨fs,h1,h⟩:=bnd h
 obtain⟨tgt,h2,h⟩:=bnd h
 obtain⟨fi,h3,h⟩:=bnd h
 obtain⟨cs,h4,h⟩:=bnd h
 obtain⟨fe,h5,h⟩:=bnd h
 cases h
 exact⟨fs,tgt,fi,cs,fe,hb.1.1.1,JM hb.1.1.2,⟨hb.1.2,hb.2⟩,h1,h2,h3,h4,h5,rfl⟩
noncomputable def Y9:ER:=λr Γ e=>match e with
 |.ListComp elt [⟨tg,iter,ifs,z⟩] sc _=>gd (z == 0) (Uu r Γ elt tg iter ifs sc ja)
 |_=>none
theorem XG{D:DP}:EOk D Y9:=by
 intro r H X W Γ k e d C h
 unfold Y9 at h
 split at h
 ·have hh:=zr h
  clear h
  obtain⟨hz,h⟩:=hh
  have hz:=beq_iff_eq.mp hz
  subst hz
  obtain⟨fs,tgt,fi,cs,fe,h1,h2,h3,h4,h5,h6,h7,h8,rfl⟩:=Qa h
  exact Vy C h1 h2 h4 h5 (H.i C h3.2 h6) (λX' W' C'=>H.e C' h8) (λX' W' C'=>vU H C' h7) (uW h3.1)
 ·cases h
noncomputable def z1l:TR:=λr Γ e=>match e with
 |.Name _ _=>(r.e Γ e).bind λf=>some (tE f)
 |.Call _ _ _ _=>(r.e Γ e).bind λf=>some (tE f)
 |.Subscript _ _ _=>(r.e Γ e).bind λf=>some (tE f)
 |.Attribute _ _ _=>(r.e Γ e).bind λf=>some (tE f)
 |.Compare a ops es _=>(z1_ r Γ a ops es).bind λf=>some (tE f)
 |.UnaryOp op a _=>(match op with
  |.Not=>(r.t Γ a).bind λf=>some (vE f)
  |_=>none)
 |.BoolOp _ _ _=>r.w Γ e
 |_=>none
theorem Xr{D:DP}:TOk D z1l:=by
 intro r H X W Γ k e d C h
 cases e with
 |Name x p=>
  obtain⟨f,h1,h⟩:=bnd h
  cases h
  exact J7 (H.e C h1) λ_=>rfl
 |Call f args kws p=>
  obtain⟨f,h1,h⟩:=bnd h
  cases h
  exact J7 (H.e C h1) λ_=>rfl
 |Subscript a b p=>
  obtain⟨f,h1,h⟩:=bnd h
  cases h
  exact J7 (H.e C h1) λ_=>rfl
 |Attribute a b p=>
  obtain⟨f,h1,h⟩:=bnd h
  cases h
  exact J7 (H.e C h1) λ_=>rfl
 |Compare a ops es p=>
  obtain⟨f,h1,h⟩:=bnd h
  cases h
  exact (VD H C h1).2
 |UnaryOp op a p=>
  cases op with
  |Not=>
   obtain⟨f,h1,h⟩:=bnd h
   cases h
   exact z4j (H.t C h1)
  |_=>cases h
 |BoolOp op es p=>exact (H.w C h).pt
 |_=>cases h
noncomputable def Yo:TR:=λr Γ e=>match e with
 |.BoolOp op es p=>(match es with
  |[a]=>r.t Γ a
  |a::b::l=>(r.t Γ a).bind λf=>(r.w Γ (.BoolOp op (b::l) p)).bind λg=>some (match op with|.And=>vX f g|.Or=>tOr f g)
  |[]=>none)
 |_=>none
theorem JF{D:DP}:WOk D Yo:=by
 intro r H X W Γ k e d C h
 cases e with
 |BoolOp op es p=>
  match es with
  |[]=>cases h
  |[a]=>
   cases op with
   |And=>exact UH (H.t C h)
   |Or=>exact z3p (H.t C h)
  |a::b::l=>
   obtain⟨f,h1,h⟩:=bnd h
   obtain⟨g,h2,h⟩:=bnd h
   cases h
   cases op with
   |And=>exact z2L (H.t C h1) (H.w C h2)
   |Or=>exact z5K (H.t C h1) (H.w C h2)
 |_=>cases h
noncomputable def YS:IR:=λr Γ e=>match e with
 |.Call (.Name x _) as [] _=>gd (x == ("range":Str)&&(idx Γ.N x).isNone&&as.all noStar) (match Γ.look x with
  |.none=>(match as with
   |[a]=>(r.e Γ a).bind λf=>some (z1I f)
   |[a,b]=>(r.e Γ a).bind λf=>(r.e Γ b).bind λg=>some (uU f g)
   |[a,b,c]=>(r.e Γ a).bind λf=>(r.e Γ b).bind λg=>(r.e Γ c).bind λh=>some (z1j f g h)
   |_=>none)
  |_=>none)
 |_=>none
theorem XO{D:DP}:IOk D YS:=by
 intro r H X W Γ k tg e d C ht h
 unfold YS at h
 split at h
 ·rename_i x p0 as pos
  have hh:=zr h
  clear h
  obtain⟨hb,h⟩:=hh
  simp only[z6x] at hb
  obtain⟨⟨h0,h2⟩,h3⟩:=hb
  have h0:=beq_iff_eq.mp h0
  subst h0
  cases hl:Γ.look "range" with
  |none=>
   obtain⟨hx,hg⟩:=w5 hl (by intro z;cases z)
   simp only[hl] at h
   match as with
   |[]=>cases h
   |[a]=>
    simp only[z7y,z6x] at h3
    obtain⟨f,h1,h⟩:=bnd h
    cases h
    exact YO C hx hg h3.1 (H.e C h1)
   |[a,b]=>
    simp only[z7y,z6x] at h3
    obtain⟨f,h1,h⟩:=bnd h
    obtain⟨g,h4,h⟩:=bnd h
    cases h
    exact KC C hx hg h3.1 h3.2.1 (H.e C h1) (H.e C h4)
   |[a,b,c]=>
    simp only[z7y,z6x] at h3
    obtain⟨f,h1,h⟩:=bnd h
    obtain⟨g,h4,h⟩:=bnd h
    obtain⟨g2,h5,h⟩:=bnd h
    cases h
    exact Kc C hx hg h3.1 h3.2.1 h3.2.2.1 (H.e C h1) (H.e C h4) (H.e C h5)
   |_::_::_::_::_=>cases h
  |_=>simp[hl] at h
 ·cases h
noncomputable def riE:IR:=λr Γ e=>(r.e Γ e).bind λf=>some (iE f)
theorem z3b{D:DP}:IOk D riE:=by
 intro r H X W Γ k tg e d C ht h
 obtain⟨f,h1,h⟩:=bnd h
 cases h
 exact UL (H.e C h1)
noncomputable def KS:ER:=λr Γ e=>match e with
 |.List es _=>gd (decide (es.length<=room)) ((cEs r Γ es).bind λfs=>some (ji fs))
 |_=>none
theorem QA{D:DP}:EOk D KS:=by
 intro r H X W Γ k e d C h
 cases e with
 |List es p=>
  obtain⟨hl,h⟩:=zr h
  obtain⟨fs,h1,h⟩:=bnd h
  cases h
  exact z4l (of_decide_eq_true hl) (wH H C h1)
 |_=>cases h
noncomputable def Ww:ER:=λr Γ e=>match e with
 |.ListComp elt [⟨tg,iter,ifs,z⟩] sc _=>gd (z == 0) (Uu r Γ elt tg iter ifs sc vk)
 |_=>none
theorem Kw{D:DP}:EOk D Ww:=by
 intro r H X W Γ k e d C h
 unfold Ww at h
 split at h
 ·have hh:=zr h
  clear h
  obtain⟨hz,h⟩:=hh
  have hz:=beq_iff_eq.mp hz
  subst hz
  obtain⟨fs,tgt,fi,cs,fe,h1,h2,h3,h4,h5,h6,h7,h8,rfl⟩:=Qa h
  exact QY C h1 h2 h4 h5 (H.i C h3.2 h6) (λX' W' C'=>H.e C' h8) (λX' W' C'=>vU H C' h7) (uW h3.1)
 ·cases h
noncomputable def roE:ER:=λr Γ e=>r.e Γ e
theorem z22{D:DP}:EOk D roE:=λr H _ _ _ _ _ _ C h=>H.e C h
noncomputable def JQ (r:Rec)(Γ:Cn)(x:Str)(e:Expr):Option De:=match Γ.own.contains x with
 |true=>r.o Γ e
 |false=>r.e Γ e
theorem ZT{D:DP}{r:Rec}{X:Cx}{W:XW}{Γ:Cn}{k:Nat}(H:RecOk D r)(C:Ck D W Γ X k){x:Str}{e:Expr}{d:De}(h:JQ r Γ x e=some d):PE X e (rdE D W d):=by
 unfold JQ at h
 cases q:Γ.own.contains x with
 |true=>rw[q] at h;exact H.o C h
 |false=>rw[q] at h;exact H.e C h
noncomputable def z15:SR:=λr Γ s=>match s with
 |.Return o _=>(match o with
  |some e=>(JQ r Γ "return" e).bind λf=>some (zp f)
  |none=>some XQ)
 |_=>none
theorem YE{D:DP}:SOk D z15:=by
 intro r H X W Γ k e d C h
 cases e with
 |Return o p=>
  cases o with
  |none=>cases h;exact UK
  |some e=>
   obtain⟨f,h1,h⟩:=bnd h
   cases h
   exact z34 (ZT H C.toCk h1)
 |_=>cases h
noncomputable def isCall:Expr->Bool
 |.Call _ _ _ _=>true
 |.Constant _ _ _=>true
 |_=>false
noncomputable def z14:SR:=λr Γ s=>match s with
 |.Expr e _=>gd (isCall e) ((r.e Γ e).bind λf=>some (zF f))
 |_=>none
theorem Yc{D:DP}:SOk D z14:=by
 intro r H X W Γ k e d C h
 cases e with
 |Expr e p=>
  obtain⟨hb,h⟩:=zr h
  obtain⟨f,h1,h⟩:=bnd h
  cases h
  exact UE (by cases e<;>first|(simp[isCall] at hb;done)|rfl) (H.e C.toCk h1)
 |_=>cases h
noncomputable def z5J:SR:=λr Γ s=>match s with
 |.If c a b _=>(r.t Γ c).bind λt=>(zq (r.s Γ) a).bind λus=>(zq (r.s Γ) b).bind λvs=>some (sIf t us vs)
 |_=>none
theorem z06{D:DP}:SOk D z5J:=by
 intro r H X W Γ k e d C h
 cases e with
 |If c a b p=>
  obtain⟨t,h1,h⟩:=bnd h
  obtain⟨us,h2,h⟩:=bnd h
  obtain⟨vs,h3,h⟩:=bnd h
  cases h
  exact z55 (H.t C.toCk h1) (q_ H C h2) (q_ H C h3)
 |_=>cases h
noncomputable def ZQ:Expr->Bool
 |.ListComp _ _ _ _=>true
 |.SetComp _ _ _ _=>true
 |.DictComp _ _ _ _ _=>true
 |_=>false
noncomputable def z51 (r:Rec)(Γ:Cn)(t e:Expr):Option Ds:=gd (nFz Γ t) (match t with
 |.Name x _=>(idx Γ.N x).bind λi=>(match e with
  |.ListComp elt gs sc _=>(match gs with
   |[g]=>gd (g.is_async == 0) ((Uu r Γ elt g.target g.iter g.ifs sc (match Γ.own.contains x with|true=>vk|false=>ja)).bind λf=>some (zj i f))
   |_=>none)
  |e=>gd (!ZQ e) ((JQ r Γ x e).bind λf=>some (zj i f)))
 |.Tuple es _ _=>gd (Γ.calm&&kl e) ((idxs Γ.N es).bind λis=>(r.e Γ e).bind λf=>some (Jy is f))
 |.Attribute o x _=>(Γ.fld.lookup x).bind λn=>(JQ r Γ x e).bind λf=>(r.e Γ o).bind λgo=>some (qI go n f)
 |.Subscript o b _=>gd (qC b) ((r.e Γ e).bind λf=>(r.e Γ o).bind λgo=>(r.e Γ b).bind λgb=>some (z0S go gb f))
 |_=>none)
noncomputable def z1a:SR:=λr Γ s=>match s with
 |.Assign ts e _=>(match ts with
  |[t]=>z51 r Γ t e
  |_=>none)
 |_=>none
theorem Ux{D:DP}{r:Rec}(H:RecOk D r){X:Cx}{W:XW}{Γ:Cn}{k:Nat}{t e:Expr}{pos:Pos}{d:Ds}(C:Sk D W Γ X k)(h:z51 r Γ t e=some d):PS X (.Assign [t] e pos) (rdS D W d):=by
 have hh0:=zr h
 clear h
 obtain⟨hfz,h⟩:=hh0
 cases t with
 |Name x p=>
  obtain⟨i,hi,h⟩:=bnd h
  have gen:ZQ e=false->gd (!ZQ e) ((JQ r Γ x e).bind λf=>some (zj i f))=some d->PS X (.Assign [.Name x p] e pos) (rdS D W d):=λhc h=>by
   obtain⟨_,h⟩:=zr h
   obtain⟨f,h1,h⟩:=bnd h
   cases h
   exact Yj C hi hfz (by cases e<;>first|(simp[ZQ] at hc;done)|rfl) (ZT H C.toCk h1)
  cases e with
  |ListComp elt gs sc pc=>
   match gs with
   |[]=>cases h
   |_::_::_=>cases h
   |[⟨tg,iter,ifs,z⟩]=>
    have hh:=zr h
    clear h gen
    obtain⟨hz,h⟩:=hh
    have hz:z=0:=beq_iff_eq.mp hz
    subst hz
    obtain⟨f,h1,h⟩:=bnd h
    cases h
    obtain⟨fs,tgt,fi,cs,fe,q1,q2,q3,q4,q5,q6,q7,q8,rfl⟩:=Qa h1
    have he:(match Γ.own.contains x with|true=>vk|false=>ja) (z8 tg).length fs tgt fi cs fe=(match Γ.own.contains x with|true=>vk (z8 tg).length fs tgt fi cs fe|false=>ja (z8 tg).length fs tgt fi cs fe):=by cases Γ.own.contains x<;>rfl
    have key:∀bb,z9m (.ListComp elt [⟨tg,iter,ifs,0⟩] sc pc) (some (.Name x p)) pos.line X.env=pure bb->PS X (.Assign [.Name x p] (.ListComp elt [⟨tg,iter,ifs,0⟩] sc pc) pos) (rdS D W (zj i (match Γ.own.contains x with|true=>vk (z8 tg).length fs tgt fi cs fe|false=>ja (z8 tg).length fs tgt fi cs fe))):=λbb hsw=>by
     cases bb with
     |true=>exact z0u C q1 hi hfz q2 q4 q5 (H.i C.toCk q3.2 q6) (λX' W' C'=>H.e C' q8) (λX' W' C'=>vU H C' q7) (uW q3.1) _ hsw
     |false=>
      refine Yj C hi hfz hsw ?_
      cases Γ.own.contains x with
      |true=>exact QY C.toCk q1 q2 q4 q5 (H.i C.toCk q3.2 q6) (λX' W' C'=>H.e C' q8) (λX' W' C'=>vU H C' q7) (uW q3.1)
      |false=>exact Vy C.toCk q1 q2 q4 q5 (H.i C.toCk q3.2 q6) (λX' W' C'=>H.e C' q8) (λX' W' C'=>vU H C' q7) (uW q3.1)
    rw[he]
    exact key _ rfl
  |SetComp _ _ _ _=>cases h
  |DictComp _ _ _ _ _=>cases h
  |_=>exact gen rfl h
 |Tuple es kk p=>
  obtain⟨hb,h⟩:=zr h
  simp only[z6x] at hb
  obtain⟨is,h1,h⟩:=bnd h
  obtain⟨f,h2,h⟩:=bnd h
  cases h
  exact z3k C hb.1 hb.2 h1 hfz (H.e C.toCk h2)
 |Attribute o x p=>
  obtain⟨n,h1,h⟩:=bnd h
  obtain⟨f,h2,h⟩:=bnd h
  obtain⟨go,h3,h⟩:=bnd h
  cases h
  exact z4k C (lookup_mem h1) (ZT H C.toCk h2) (H.e C.toCk h3)
 |Subscript o b p=>
  obtain⟨hb,h⟩:=zr h
  obtain⟨f,h1,h⟩:=bnd h
  obtain⟨go,h2,h⟩:=bnd h
  obtain⟨gb,h3,h⟩:=bnd h
  cases h
  exact z1U C hb (H.e C.toCk h1) (H.e C.toCk h2) (H.e C.toCk h3)
 |_=>cases h
theorem YN{D:DP}:SOk D z1a:=by
 intro r H X W Γ k e d C h
 cases e with
 |Assign ts e p=>
  match ts with
  |[]=>cases h
  |[t]=>exact Ux H C h
  |_::_::_=>cases h
 |_=>cases h
noncomputable def z18:SR:=λr Γ s=>match s with
 |.For tg it b els _=>gd (Γ.calm&&wx it&&els.isEmpty&&KD tg it&&nFz Γ tg) ((wo Γ.N tg).bind λtgt=>(r.i Γ it).bind λfi=>(zq (r.s Γ) b).bind λvs=>some (Kr tgt fi vs))
 |_=>none
theorem Yx{D:DP}:SOk D z18:=by
 intro r H X W Γ k e d C h
 cases e with
 |For tg it b els p=>
  obtain⟨hb,h⟩:=zr h
  simp only[z6x] at hb
  obtain⟨tgt,h1,h⟩:=bnd h
  obtain⟨fi,h2,h⟩:=bnd h
  obtain⟨vs,h3,h⟩:=bnd h
  cases h
  cases els with
  |nil=>exact z3G C hb.1.1.1.1 h1 hb.2 (H.i C.toCk hb.1.2 h2) (q_ H C h3) (uW hb.1.1.1.2)
  |cons _ _=>simp at hb
 |_=>cases h
noncomputable def z0s:Stmt->Option Expr
 |.Raise (some e) none _=>some e
 |_=>none
theorem J9{s:Stmt}{e:Expr}(h:z0s s=some e):∃p,s=.Raise (some e) none p:=by
 unfold z0s at h
 split at h
 ·cases h;exact⟨_,rfl⟩
 ·cases h
noncomputable def VL:Expr->Option (Str×List Expr)
 |.Call (.Name x _) as [] _=>some (x,as)
 |_=>none
theorem Wk{e:Expr}{q:Str×List Expr}(h:VL e=some q):∃p0 p1,e=.Call (.Name q.1 p0) q.2 [] p1:=by
 unfold VL at h
 split at h
 ·cases h;exact⟨_,_,rfl⟩
 ·cases h
noncomputable def Xv:SR:=λr Γ s=>(z0s s).bind λe=>(VL e).bind λq=>gd (Γ.calm&&(idx Γ.N q.1).isNone&&!q.2.isEmpty) ((cEs r Γ q.2).bind λfs=>(match Γ.look q.1 with
  |.xcl c=>some (qx c fs)
  |_=>none))
theorem YU{D:DP}:SOk D Xv:=by
 intro r H X W Γ k e d C h
 unfold Xv at h
 obtain⟨e',h0,h⟩:=bnd h
 obtain⟨⟨x,as⟩,h2,h⟩:=bnd h
 obtain⟨p2,rfl⟩:=J9 h0
 obtain⟨p0,p1,rfl⟩:=Wk h2
 obtain⟨hb,h⟩:=zr h
 simp only[z6x] at hb
 cases as with
 |nil=>exact absurd hb.2 (by simp)
 |cons a as=>
  obtain⟨fs,h1,h⟩:=bnd h
  cases hl:Γ.look x with
  |xcl c=>
   simp only[hl] at h
   cases h
   obtain⟨hx,hg⟩:=w5 hl (by intro z;cases z)
   exact U9 C hb.1.1 hx hg (wH H C.toCk h1)
  |_=>simp[hl] at h
noncomputable def hdl (r:Rec)(Γ:Cn):z8Z->Option (List Nat×Option Nat×List Ds)
 |.ExceptHandler t nm suite _=>(match t with
  |some (.Name x _)=>gd ((idx Γ.N x).isNone&&Γ.G.contains x&&!suite.isEmpty&&(match Γ.gl x with|.xcl c=>Γ.cls.lookup x == some c&&Nat.blt c 40|.xcf c _=>Γ.cls.lookup x == some c&&Nat.blt c 40|_=>false)) ((Γ.cls.lookup x).bind λc=>(zq (r.s {Γ with calm:=false}) suite).bind λvs=>(match nm with
   |none=>some ([c],none,vs)
   |some e=>gd (!Γ.cel.contains e) ((idx Γ.N e).bind λj=>some ([c],some j,vs))))
  |_=>none)
theorem KL{D:DP}{r:Rec}(H:RecOk D r){Γ:Cn}{k:Nat}:∀{hs:List z8Z} {gs:List (List Nat×Option Nat×List Ds)},zq (hdl r Γ) hs=some gs->UA D Γ k hs gs
 |[],gs,h=>by cases h;trivial
 |.ExceptHandler t nm suite p::hs,gs,h=>by
  obtain⟨g,h1,h⟩:=bnd h
  obtain⟨gs',h2,h⟩:=bnd h
  cases h
  have ih:=KL (k:=k) H h2
  cases t with
  |none=>cases h1
  |some t=>
   cases t with
   |Name x p0=>
    have q0:=zr h1
    clear h1
    obtain⟨hb,q1⟩:=q0
    simp only[z6x] at hb
    have q2:=bnd q1
    clear q1
    obtain⟨c,hc,q3⟩:=q2
    have q4:=bnd q3
    clear q3
    obtain⟨vs,hv,h1⟩:=q4
    have hcok:HcOk Γ x c:=by
     refine⟨by simpa using hb.1.1.2,lookup_mem hc,?_⟩
     have h4:=hb.2
     rw[hc] at h4
     cases hg:Γ.gl x with
     |xcl c'=>
      simp only[hg,z6x] at h4
      have:c=c':=z6A (beq_iff_eq.mp h4.1)
      rw[this];exact⟨.inr rfl,Nat.blt_eq.mp h4.2⟩
     |xcf c' f=>
      simp only[hg,z6x] at h4
      have:c=c':=z6A (beq_iff_eq.mp h4.1)
      rw[this];exact⟨.inl ⟨f,rfl⟩,Nat.blt_eq.mp h4.2⟩
     |_=>rw[hg] at h4;cases h4
    have hne:=hb.1.2
    clear hb
    have h1':=h1
    clear h1
    have h1:=h1'
    clear h1'
    cases suite with
    |nil=>simp at hne
    |cons b0 suite=>
     cases nm with
     |none=>
      cases h1
      exact⟨⟨_,_,_,_,_,_,_,_,_,rfl,rfl,hcok,trivial,λX' C'=>q_ H C' hv⟩,ih⟩
     |some e=>
      obtain⟨he,h1⟩:=zr h1
      obtain⟨j,hj,h1⟩:=bnd h1
      cases h1
      exact⟨⟨_,_,_,_,_,_,_,_,_,rfl,rfl,hcok,⟨hj,by simpa using he⟩,λX' C'=>q_ H C' hv⟩,ih⟩
   |_=>cases h1
noncomputable def z1d:SR:=λr Γ s=>match s with
 |.Try b hs els fin _=>gd (Γ.calm&&!hs.isEmpty&&els.isEmpty&&fin.isEmpty) ((zq (r.s Γ) b).bind λus=>(zq (hdl r Γ) hs).bind λgs=>some (z2z us gs))
 |_=>none
theorem Ug{D:DP}:SOk D z1d:=by
 intro r H X W Γ k e d C h
 cases e with
 |Try b hs els fin p=>
  obtain⟨hb,h⟩:=zr h
  simp only[z6x] at hb
  obtain⟨us,h1,h⟩:=bnd h
  obtain⟨gs,h2,h⟩:=bnd h
  cases h
  cases els with
  |cons _ _=>simp at hb
  |nil=>
   cases fin with
   |cons _ _=>simp at hb
   |nil=>
    cases hs with
    |nil=>simp at hb
    |cons h0 hs=>exact z33 C hb.1.1.1 (λX' W' C'=>q_ H C' h1) (KL H h2)
 |_=>cases h
structure MdOk(D:DP)(P:Program)(w:World)(K:PySem.W.Frag)(mg:Str->Option Value)(base:Heap)(Γ:Cn)(k:Nat):Prop where
 hK:K=D.K
 glo:∀x∈Γ.U,GlOkM D P w K mg base k x (Γ.gl x)/\(x == ("__debug__":Str))=false
 isi:∀t x c,(x,c)∈Γ.cls->∀u v,QU D t u->yA mg x v->z9T K u v=some (vx t c)
 fld:∀c C x f,D.cad c=some C->(x,f)∈Γ.fld->D.fn f=some x/\Cls K C/\NoAttr K C x
 xcx:∀c C,D.adr c=some C->XCls K C
 ocx:∀c C,D.cad c=some C->OCls K C
 clv:∀x c,(x,c)∈Γ.cls->∃u v,yA mg x u/\ClsV v u
 xmt:∀t x c,(x,c)∈Γ.cls->c<40->∀Ct Cc,D.adr t=some Ct->mg x=some (.ref Cc)->zb4 K (.ref Ct) (.ref Cc)=some (vx t c)
noncomputable def Wd(Γ:Cn)(ps:List Str)(sc:Scope):Bool:=
 (sc.kind == .function)&&!sc.isCoroutine&&!sc.isGenerator&&decide (Γ.N.Nodup)&&(Γ.N.take ps.length == ps)&&sc.names.all (λy=>y.2 != .free)&&
 Γ.N.all (λx=>x != ("__debug__":Str)&&x != ("__classdict__":Str)&&(if Γ.cel.contains x then sc.names.lookup x == some .cell else sc.names.lookup x == some .local))&&
 Γ.G.all (λx=>Γ.U.contains x&&sc.names.lookup x == some .globalImplicit)&&Γ.cel.all (λx=>Γ.N.contains x)&&Γ.calm
theorem uT{X:Cx}{W:XW}{e:Value}{s:z6z}(p:XP X W e s):X.A.frames=some X.stack:=by
 obtain⟨_,_,_,_,_,_,_,_,I,_⟩:=p
 exact I.ok.frames
theorem Je:∀(ts:List T) (n:Nat),UW ts n=ts.map some++z8K n none
 |[],n=>by
  have:∀n,pad n=z8K n none:=λn=>by
   induction n with
   |zero=>rfl
   |succ n ih=>show none::pad n=_;rw[ih];rfl
  exact this n
 |t::r,n=>by show some t::UW r n=_;rw[Je r n];rfl
section
variable {D:DP}{P:Program}{w:World}{K:PySem.W.Frag}{mg:Str->Option Value}{base:Heap}{Γ:Cn}{k n:Nat}
theorem Vi{φ α:List Addr}{H:Hp}{N:List Str}{ts:List T}{vs:List V}(d:DenL D φ α H ts vs):SRel D φ α H (UW ts (N.length-ts.length)) (L2.start N vs):=by
 have hl:=d.length
 rw[Je]
 refine⟨by simp[L2.start,hl],λi t e=>?_⟩
 by_cases hi:i<ts.length
 ·rw[z6B (by simpa using hi),z78] at e
  cases q:ts[i]? with
  |none=>rw[q] at e;cases e
  |some t'=>
   rw[q] at e
   have e:some (some t')=some (some t):=e
   cases e
   obtain⟨v,hv,dv⟩:=d.get q
   refine⟨v,?_,dv⟩
   unfold L2.start
   rw[z6B (by rw[z6Q,←hl];exact hi),z78,hv]
   rfl
 ·rw[z6S (by simpa using hi),z8n] at e
  split at e<;>cases e
noncomputable def kno (X:Cx)(f:Str->Bool):Cx:={X with fn:=f}
theorem z3A{X:Cx}{f g:Str->Bool}(hf:∀x,f x=true->g x=true)(ok:(kno X g).Ok):(kno X f).Ok:=⟨ok.mod,ok.kind,ok.glob,ok.blt,ok.above,ok.inj,ok.has,λx c e=>ok.cab x c (hf x e),ok.hd,ok.frames,ok.stk,ok.exf,ok.bs,ok.bsz,ok.noex,ok.exfs,ok.funs,ok.frf⟩
theorem xJ{X:Cx}{f g:Str->Bool}{pins:List (Addr×Obj)}{σ:St}{H:Hp}{s:z6z}(hf:∀x,f x=true->g x=true)(I:Inv (kno X g) pins σ H s):Inv (kno X f) pins σ H s:=
 ⟨z3A hf I.ok,I.os,I.bare,I.base,I.loc,I.cell,I.free,λx c e=>(I.freeC x c e).imp id λz=>⟨zbV.mpr λq=>Bool.noConfusion ((hf x q).symm.trans (show g x=false from z.1)),z.2⟩,I.pin,I.hok,I.len⟩
theorem z41{X:Cx}{f g:Str->Bool}{W:XW}{e:Value}{s:z6z}(hf:∀x,f x=true->g x=true)(p:XP (kno X g) W e s):XP (kno X f) W e s:=by
 obtain⟨x,cls,d,σ,H,T,fl,a,I,b,c,r,r2,r3⟩:=p
 exact⟨x,cls,d,σ,H,T,fl,a,xJ hf I,⟨b.free,b.loc,b.nfs,b.new,b.cel,b.pin⟩,λt ht=>let b:=c t ht;⟨b.free,b.loc,b.nfs,b.new,b.cel,b.pin⟩,r,r2,r3⟩
theorem Wz{X:Cx}{f g:Str->Bool}{pins:List (Addr×Obj)}{E:Ends}{fl:Flow}{s:z6z}(hf:∀x,f x=true->g x=true)(h:SP (kno X g) pins E fl s):SP (kno X f) pins E fl s:=by
 cases fl with
 |ret v=>obtain⟨v,σ',H',I',r⟩:=h;exact⟨v,σ',H',xJ hf I',r⟩
 |_=>obtain⟨σ',H',I',r⟩:=h;exact⟨σ',H',xJ hf I',r⟩
theorem VO{D:DP}{W:XW}{X:Cx}{f:Str->Bool}{b2:List Stmt}{ds2:List Ds}(h2:um (kno X f) D W b2 ds2):∀{b1:List Stmt} {ds1:List Ds},um (kno X λ_=>true) D W b1 ds1->
  ∀(pins:List (Addr×Obj)) (s:z6z) (σ:St) (H:Hp) (E:Ends),Inv (kno X λ_=>true) pins σ H s->rdS D W (qd (ds1++ds2)) E σ H->z6I (z6L X.prog X.w) X.A (execs (b1++b2) X.env) (SP (kno X f) pins E) X.xe s
 |[],[],_,pins,s,σ,H,E,I,q=>wD h2 pins s σ H E (xJ (λ_ _=>rfl) I) q
 |st::r,u::us,h,pins,s,σ,H,E,I,q=>by
  obtain⟨φ,α,τ,μ,sr,mr,Q,q,h3,h4,h5,h6,h7⟩:=q
  refine zah (thn (h.1 pins s σ H {E with nx:=λσ' H'=>rdS D W (qd (us++ds2)) E σ' H'} I ⟨φ,α,τ,μ,sr,mr,_,q,λτ1 μ1 e α' H' σ' st m sr'=>?_,h4,h5,h6,h7⟩) λfl s1 z=>?_)
  ·exact⟨φ,α',τ1,μ1,sr',m,PostS.step ⟨Q,e,h3,h4,h5,h6,h7⟩ st⟩
  ·cases fl with
   |next=>
    obtain⟨σ',H',I',q'⟩:=z
    exact VO h2 h.2 pins s1 σ' H' E I' q'
   |ret v=>exact Wz (fl:=.ret v) (E:=E) (λ_ _=>rfl) z
   |brk=>exact Wz (fl:=.brk) (E:=E) (λ_ _=>rfl) z
   |cont=>exact Wz (fl:=.cont) (E:=E) (λ_ _=>rfl) z
 |[],_::_,h,_,_,_,_,_,_,_=>h.elim
 |_::_,[],h,_,_,_,_,_,_,_=>h.elim
theorem Qo{R:Rules}(HR:RulesOk D R){f:Addr}{name qual:Str}{params:Arguments}{body b1 b2:List Stmt}{scope:Scope}{dV kV doc pm cdv ct oc:Value}{an od:Option Addr}{osl:Array (Option Value)}{ps:List Str}{m:Nat}{ds1 ds2:List Ds}
    (M:MdOk D P w K mg base Γ k) (lk:K.lookup f=some ⟨oc,od,.func (z7v name qual params body scope dV kV doc pm an cdv ct),osl⟩) (hcd:z8o K cdv qual=true) (hs:Wd Γ ps scope=true) (hm:Γ.N.length=ps.length+m) (hbo:body=b1++b2) (hd1:zq ((comp R n).s {Γ with fz:=[]}) b1=some ds1) (hds:zq ((comp R n).s Γ) b2=some ds2) (hlam:LamOk D mg base cdv (qual++".<locals>.") k Γ.lam:=by exact LamOk.no rfl) :
    FnOk P w K mg base (CX1 P w) (k+1) f (z7v name qual params body scope dV kV doc pm an cdv ct) ps (spN D ps.length (fnW ps.length m (ds1++ds2))):=by
  subst hbo
  simp only[Wd,z6x,z7k,beq_iff_eq,z8d,decide_eq_true_eq,bne_iff_ne,ne_eq] at hs
  obtain⟨⟨⟨⟨⟨⟨⟨⟨⟨h1,h2⟩,h3⟩,h4⟩,h5⟩,h6⟩,h7⟩,h8⟩,h9⟩,h10⟩:=hs
  have kin:∀x∈Γ.N,(Γ.cel.contains x=true/\scope.names.lookup x=some .cell)\/(Γ.cel.contains x=false/\scope.names.lookup x=some .local):=λx hx=>by
    have q:=(h7 x hx).2
    cases hc:Γ.cel.contains x with
    |true=>rw[hc,if_pos rfl] at q;exact .inl ⟨rfl,beq_iff_eq.mp q⟩
    |false=>rw[hc] at q;exact .inr ⟨rfl,beq_iff_eq.mp q⟩
  have loc:∀x∈Γ.N,scope.names.lookup x=some .local\/scope.names.lookup x=some .cell:=λx hx=>(kin x hx).elim (λz=>.inr z.2) λz=>.inl z.2
  have S:FnScope Γ.N ps scope:=⟨h1,h2,h3,h4,h5,λx hx=>loc x (by rw[←h5] at hx;exact z7l hx),h6⟩
  refine z1p (fnb:=λx=>!Γ.fz.contains x) lk hcd S (λvs H Q E q=>q.1) λA outer s H vs Q E hr hsp hfree=>?_
  obtain⟨hl,φ,α,ts,μ,d,mr,K0,Z0,⟨hle,q⟩,hk0,hz0⟩:=hsp
  generalize hX:JO (CX1 P w) P w K mg base Γ.N qual scope f cdv A outer s H E (λx=>!Γ.fz.contains x)=X
  have F:Frm X (zat qual scope s.heap.objs.size f cdv) outer s.heap.objs.size:=by rw[←hX];exact⟨rfl,rfl,rfl⟩
  have hfn:X.fn=λx=>!Γ.fz.contains x:=by rw[←hX];rfl
  have CK:∀(l:List Str),(∀x∈l,x∈Γ.fz)->Sk D (wOf E) {Γ with fz:=l} (kno (X.wish (XP X (wOf E))) λx=>!l.contains x || !Γ.fz.contains x) k:=λl hl'=>by
    have xe:∀e s,XP (kno (X.wish (XP X (wOf E))) λx=>!l.contains x || !Γ.fz.contains x) (wOf E) e s->XP X (wOf E) e s:=λe s p=>by
      have p2:XP (kno (X.wish (XP X (wOf E))) λx=>!Γ.fz.contains x) (wOf E) e s:=z41 (λx hx=>by rw[hx,zbZ]) p
      exact kO (show XP (X.wish (XP X (wOf E))) (wOf E) e s by rw[←hfn] at p2;exact p2)
    have pso:zc8 (z6L X.prog X.w) X.A X.env (XP X (wOf E)):=λe s p=>Zu F (uT p) e s p
    subst hX
    exact { hK := M.hK,hN := rfl,nd := h4,vis := fun x hx => (loc x hx).elim .inl fun z => .inr (.inl z),dbg := fun x hx => ⟨beq_eq_false_iff_ne.mpr (h7 x hx).1.1,beq_eq_false_iff_ne.mpr (h7 x hx).1.2⟩,
            dbG:=λx hx=>(M.glo x (by simpa using (h8 x hx).1)).2,glb:=λx hx=>(h8 x hx).2,glo:=λx hx=>(M.glo x (by simpa using (h8 x hx).1)).1,glU:=M.glo,
            cel:=λx hx=>.inl ((kin x (by simpa using h9 x hx)).elim (λz=>z.2) λz=>by have:=z.1;rw[z7i.mpr hx] at this;cases this),
            isi:=M.isi,fld:=M.fld,xcx:=M.xcx,ocx:=M.ocx,clv:=M.clv,clm:=λ_=>rfl,rom:=λ_=>hr,rmh:=⟨hr.dp,hr.un⟩,xe:=xe,frm:=⟨_,_,_,F.stk,F.f0,F.fe⟩,lam:=hlam,kfz:=λ_ x hx=>⟨by show (!l.contains x || !Γ.fz.contains x)=false;rw[z7i.mpr hx,z7i.mpr (hl' x hx)];rfl,λc e=>(hfree x c e).1⟩,
            sto:=λx hx=>by
              obtain⟨z1,z2⟩:=z7d.mp hx
              exact⟨loc x z1,.inl (by show (!l.contains x || _)=true;rw[show (!l.contains x)=true from z2];rfl)⟩,lcl:=λx hx hc=>(kin x hx).elim (λz=>by rw[z.1] at hc;cases hc) λz=>z.2,pso:=pso,xmt:=M.xmt}
  have B:PSs X (b1++b2) (λE1 σ1 H1=>(∀y c,X.env.cells.lookup y=some c->X.s₀.heap.objs.size<=c/\H1 c=none)/\rdS D (wOf E) (qd (ds1++ds2)) E1 σ1 H1):=λpins s1 σ1 H1 E1 I1 ⟨hf,q⟩=>by
    have I2:Inv (kno (X.wish (XP X (wOf E))) λ_=>true) pins σ1 H1 s1:=by
      have J:=I1.wish (XP X (wOf E))
      subst hX
      exact⟨⟨J.ok.mod,J.ok.kind,J.ok.glob,J.ok.blt,J.ok.above,J.ok.inj,J.ok.has,λx c _ e=>(hf x c e).1,J.ok.hd,J.ok.frames,J.ok.stk,J.ok.exf,J.ok.bs,J.ok.bsz,J.ok.noex,J.ok.exfs,J.ok.funs,J.ok.frf⟩,J.os,J.bare,J.base,J.loc,J.cell,J.free,λx c e=>.inl (hf x c e).2,J.pin,J.hok,J.len⟩
    have C1:=q_ (w6 HR n) (CK [] (by simp)) hd1
    have C2:=q_ (w6 HR n) (CK Γ.fz λ_ h=>h) hds
    have e1:(λx=>!([]:List Str).contains x || !Γ.fz.contains x)=λ_=>true:=by funext x;rfl
    have e2:(λx=>!Γ.fz.contains x || !Γ.fz.contains x)=X.fn:=by rw[hfn];funext x;exact Bool.or_self _
    rw[e1] at C1
    rw[e2] at C2
    refine z7f (VO (X:=X.wish (XP X (wOf E))) C2 C1 pins s1 σ1 H1 E1 I2 q) (λf s' q=>SP.unwish q) λe s' p=>?_
    have p:XP X (wOf E) e s':=p
    have:=Yh (M:=z6L X.prog X.w) (F2:=λe' s''=>CX1 X.prog X.w X.outer X.H₀ X.s₀ E e' s'') F (uT p) (by rw[←hX];rfl) p
    subst hX
    exact this
  have hmm:Γ.N.length-ts.length=m:=by omega
  refine⟨_,B,by rw[←hX];exact hfree,φ,α,_,μ,Vi d,mr,{nx:=λ_ μ1=>K0 .non μ1,rt:=K0,bk:=λ_ _=>False,ct:=λ_ _=>False,ex:=λc fs _ μ1=>Z0 c fs μ1},by rw[hmm];exact q,λ_ μ1 z α' H' σ' st m _=>hk0 _ _ z α' H' st m .non rfl,λ_ _ z=>z.elim,λ_ _ z=>z.elim,λt μ1 z α' H' v st m dv=>hk0 _ _ z α' H' st m v dv,λc fs _ μ1 z α' H' σ' C1 dd st m _ ad xd=>hz0 c fs μ1 z α' H' C1 dd st m ad xd⟩
theorem kD{R:Rules}(HR:RulesOk D R){f:Addr}{name qual:Str}{params:Arguments}{body:List Stmt}{scope:Scope}{dV kV doc pm cdv ct oc:Value}{an od:Option Addr}{osl:Array (Option Value)}{ps:List Str}{m:Nat}{ds:List Ds}
  (M:MdOk D P w K mg base Γ k) (lk:K.lookup f=some ⟨oc,od,.func (z7v name qual params body scope dV kV doc pm an cdv ct),osl⟩) (hcd:z8o K cdv qual=true) (hs:Wd Γ ps scope=true) (hm:Γ.N.length=ps.length+m) (hds:zq ((comp R n).s Γ) body=some ds) (hlam:LamOk D mg base cdv (qual++".<locals>.") k Γ.lam:=by exact LamOk.no rfl) :
  FnOk P w K mg base (CX1 P w) (k+1) f (z7v name qual params body scope dV kV doc pm an cdv ct) ps (spN D ps.length (fnW ps.length m ds)):=Qo (b1:=[]) (ds1:=[]) HR M lk hcd hs hm rfl rfl hds hlam
theorem qB{n m:Nat}{ds:List Ds}:∀ts μ K Z,fnW n m ds ts μ K Z->ts.length=n:=λ_ _ _ _ h=>h.1
end
noncomputable def V6:z6C->Bool
 |[]=>true
 |p::r=>(match p.2.cls with|.type t=>t != "list" | _=>true)&&V6 r
theorem VW:∀{K:z6C} {a:Addr} {o:Obj},V6 K=true->K.lookup a=some o->o.cls≠.type "list"
 |[],_,_,_,h=>by cases h
 |(b,p)::r,a,o,hn,h=>by
  simp only[V6,z6x] at hn
  rw[z79] at h
  cases q:a == b with
  |true=>
   rw[q] at h
   cases h
   intro e
   have h1:=hn.1
   rw[e] at h1
   exact absurd h1 (by decide)
  |false=>rw[q] at h;exact VW hn.2 h
theorem Zr{D:DP}{φ α:List Addr}{H:Hp}:∀(ns:List Int),DenL D φ α H (ns.map T.int) (ns.map V.int)
 |[]=>rfl
 |n::r=>⟨.int n,r.map V.int,rfl,rfl,Zr r⟩
noncomputable def FLD:List Str:=["moments","houses","counts","start","turns","holder","lease","until","is_cut","shape","grants","house","begin","end","ahead","stride","keeper","mark","newest","batches","has_fallen","clock","kept","common","given","now","seats","world","line","by"]
theorem z1W:FLD.Nodup:=by decide +kernel
structure Ads where
 xs:List (Nat×Addr)
 cs:List (Nat×Addr)
noncomputable def mkD (K:z6C)(A:Ads)(clo:Nat->Addr->Option HO->List V->Prop)(tabs:Nat->Option (Addr×List Pos×Str):=λ_=>none):DP:=⟨K,λc=>A.xs.lookup c,λc=>A.cs.lookup c,λi=>FLD[i]?,λi j x h1 h2=>jR z1W h1 h2,clo,tabs⟩
noncomputable def cn (cls fld:List (Str×Nat))(gs:List (Str×GM))(N G cel own:List Str)(lam:Option (Nat×List Pos):=none):Cn where
 N:=N
 G:=G
 calm:=true
 gl:=λx=>(gs.lookup x).getD .bad
 cls:=cls
 fld:=fld
 U:=gs.map (·.1)
 cel:=cel
 own:=own
 lam:=lam
noncomputable def tys(A:Ads):List (Nat×Value):=[(0,.type "NoneType"),(1,.type "bool"),(2,.type "int"),(3,.type "str"),(4,.type "tuple"),(5,.type "list"),(6,.type "dict")]++(A.xs.map λp=>(p.1,z6W p.2))++A.cs.map λp=>(p.1,z6W p.2)
noncomputable def Xy(K:z6C)(c:Str):Option Value:=match z9f K z6T c with
 |some (some v)=>some v
 |some none=>if c == ("__name__":Str) then none else z8s c
 |none=>none
noncomputable def z5m:Value->Bool
 |.ref _=>true
 |.type _=>true
 |_=>false
noncomputable def isC(o:Option (Option Value))(s:String):Bool:=match o with
 |some (some (.builtin x))=>x == s
 |_=>false
theorem yh{o:Option (Option Value)}{s:String}(h:isC o s=true):o=some (some (.builtin s)):=by
 unfold isC at h
 split at h
 ·rw[beq_iff_eq.mp h]
 ·cases h
noncomputable def X5(o:Option (Option Value)):Bool:=match o with
 |some none=>true
 |_=>false
theorem Qd{o:Option (Option Value)}(h:X5 o=true):o=some none:=by
 unfold X5 at h
 split at h
 ·rfl
 ·cases h
noncomputable def isB(o:Option Bool)(b:Bool):Bool:=match o with|some c=>c == b|none=>false
theorem yR{o:Option Bool}{b:Bool}(h:isB o b=true):o=some b:=by
 cases o with
 |none=>cases h
 |some c=>have:(c == b)=true:=h;rw[beq_iff_eq.mp this]
noncomputable def UZ (K:z6C)(C:Addr):Bool:=isC (z70 K (.ref C) "__class__") "object.__class__"&&isC (z8b K (.builtin "object.__class__") "__get__") "getset_descriptor.__get__"&&isB (z9w K (.builtin "object.__class__")) true&&isB (z8z K C (.type "object")) true
noncomputable def z1C(K:z6C)(C:Addr):Bool:=UZ K C&&isC (z70 K (.ref C) "__getattribute__") "BaseException.__getattribute__"&&X5 (z70 K (.ref C) "__getattr__")&&isB (z8z K C (.type "BaseException")) true&&(z9p K C).isSome
noncomputable def KZ(K:z6C)(C:Addr):Bool:=UZ K C&&z8P K C z9G&&z89 K C&&za1 K C&&isC (z70 K (.ref C) "__setattr__") "object.__setattr__"
noncomputable def chk (K:z6C)(A:Ads)(cls fld:List (Str×Nat)):Bool:=
 cls.all (λp=>match Xy K p.1 with
  |some v=>z5m v&&(tys A).all (λq=>isB (z9T K q.2 v) (vx q.1 p.2))&&(zdx 40 p.2 || (match v with|.ref C=>A.xs.all (λq=>isB (zb4 K (.ref q.2) (.ref C)) (vx q.1 p.2))|_=>true))
  |none=>false)&&
 A.xs.all (λq=>z1C K q.2)&&A.cs.all (λq=>KZ K q.2&&fld.all (λp=>X5 (z70 K (.ref q.2) p.1)))&&fld.all (λp=>match FLD[p.2]? with|some x=>x == p.1|none=>false)
theorem yW{K:z6C}{h:Heap}{mg:Str->Option Value}{c:Str}{v:Value}(X:K.In h)(G:h.Ns z6T mg)(e:Xy K c=some v):yA mg c v/\∀u,yA mg c u->u=v:=by
 unfold Xy at e
 split at e
 ·rename_i v' q
  cases e
  have m:=zbn X G q
  refine⟨.inl m,λu z=>?_⟩
  rcases z with z|⟨z,_⟩
  ·rw[m] at z;cases z;rfl
  ·rw[m] at z;cases z
 ·rename_i q
  have m:=zbC X G q
  split at e
  ·cases e
  ·rename_i hn
   refine⟨.inr ⟨m,e,λz=>hn (by rw[z];rfl)⟩,λu z=>?_⟩
   rcases z with z|⟨_,z,_⟩
   ·rw[m] at z;cases z
   ·rw[e] at z;cases z;rfl
 ·cases e
theorem qm{α β:Type}[BEq α][LawfulBEq α]{x:α}{v:β}:∀{l:List (α×β)},l.lookup x=some v->(x,v)∈l
 |[],h=>by cases h
 |(y,w)::r,h=>by
  rw[z79] at h
  cases q:x == y with
  |true=>rw[q] at h;cases h;rw[beq_iff_eq.mp q];exact z6U
  |false=>rw[q] at h;exact z6H _ (qm h)
theorem lookup_some{α:Type}{x:Str}:∀{l:List (Str×α)},x∈l.map (·.1)->∃v,l.lookup x=some v
 |[],h=>by simp at h
 |(y,w)::r,h=>by
  rw[z79]
  cases q:x == y with
  |true=>exact⟨w,rfl⟩
  |false=>
   rcases z75.mp h with z|z
   ·have z:x=y:=z
    rw[z] at q;simp at q
   ·exact lookup_some z
section
variable {P:Program}{w:World}{K:PySem.W.Frag}{mg:Str->Option Value}{base:Heap}{A:Ads}{clo:Nat->Addr->Option HO->List V->Prop}{cls fld:List (Str×Nat)}{gs:List (Str×GM)}{N G cel own:List Str}{k:Nat}{lam:Option (Nat×List Pos)}{tabs:Nat->Option (Addr×List Pos×Str)}
theorem z3f{t:Nat}{u:Value}(h:QU (mkD K A clo tabs) t u):(t,u)∈tys A:=by
 unfold tys
 rcases h with⟨rfl,rfl⟩|⟨rfl,rfl⟩|⟨rfl,rfl⟩|⟨rfl,rfl⟩|⟨rfl,rfl⟩|⟨rfl,rfl⟩|⟨C,h,rfl⟩|⟨rfl,rfl⟩|⟨C,h,rfl⟩
 ·simp
 ·simp
 ·simp
 ·simp
 ·simp
 ·simp
 ·exact z6G _ (z6O _ (z7K.mpr ⟨(t,C),qm h,rfl⟩))
 ·simp
 ·exact z6O _ (z7K.mpr ⟨(t,C),qm h,rfl⟩)
noncomputable def GsOk (P:z7a)(w:z7o)(K:z6C)(mg:Str->Option Value)(base:Heap)(A:Ads)(clo:Nat->Addr->Option HO->List V->Prop)(k:Nat)(gs:List (Str×GM))(tabs:Nat->Option (Addr×List Pos×Str):=λ_=>none):Prop:=∀p∈gs,GlOkM (mkD K A clo tabs) P w K mg base k p.1 p.2/\(p.1 == ("__debug__":Str))=false
theorem GlOkM.mono{D:DP}{j k:Nat}{x:Str}{g:GM}(h:j<=k)(q:GlOkM D P w K mg base j x g):GlOkM D P w K mg base k x g:=by
 cases g with
 |fn f=>obtain⟨fa,a,fd,ps,kk,b,c,d,r⟩:=q;exact⟨fa,a,fd,ps,kk,b,c,z6X d h,r⟩
 |fnh nm f=>obtain⟨fa,a,fd,ps,kk,b,c,d,r⟩:=q;exact⟨fa,a,fd,ps,kk,b,c,z6X d h,r⟩
 |met c nm f=>obtain⟨C,fI,fd,ps,kk,a,b,c,d,e,f1,r⟩:=q;exact⟨C,fI,fd,ps,kk,a,b,c,d,e,z6X f1 h,r⟩
 |mk c z f=>obtain⟨C,fI,fd,ps,kk,a,b,c,d,e,r⟩:=q;exact⟨C,fI,fd,ps,kk,a,b,c,d,z6X e h,r⟩
 |xin c f nm fl=>obtain⟨C,HE,fI,fd,ps,kk,a1,a2,a3,a4,a5,a6,r⟩:=q;exact⟨C,HE,fI,fd,ps,kk,a1,a2,a3,a4,a5,z6X a6 h,r⟩
 |mkd c nm n f=>obtain⟨C,fI,fd,ps,kk,a,b,c,d,e,r⟩:=q;exact⟨C,fI,fd,ps,kk,a,b,c,d,z6X e h,r⟩
 |metd c nm n d f=>obtain⟨C,fI,fd,ps,kk,du,dv,a1,a2,a3,a4,a5,a6,a7,a8,r⟩:=q;exact⟨C,fI,fd,ps,kk,du,dv,a1,a2,a3,a4,a5,a6,a7,z6X a8 h,r⟩
 |kap ls=>exact⟨λj l ts φ α H v e d=>let ⟨a,kk,h1,h3,h4⟩:=q.1 j l ts φ α H v e d;⟨a,kk,h1,z6X h3 h,h4⟩,q.2⟩
 |kpr=>exact⟨λt φ α H v hj d=>let ⟨a,kk,h1,h2,h3⟩:=q.1 t φ α H v hj d;⟨a,kk,h1,z6X h2 h,h3⟩,q.2⟩
 |_=>exact q
theorem GsOk.mono{j k:Nat}(h:j<=k)(q:GsOk P w K mg base A clo j gs tabs):GsOk P w K mg base A clo k gs tabs:=λp hp=>⟨(q p hp).1.mono h,(q p hp).2⟩
theorem GsOk.add {x:Str} {g:GM} (q:GsOk P w K mg base A clo k gs tabs) (h:GlOkM (mkD K A clo tabs) P w K mg base k x g) (hx:(x == ("__debug__":Str))=false):GsOk P w K mg base A clo k ((x,g)::gs) tabs:=λp hp=>by
 rcases z75.mp hp with rfl|z
 ·exact⟨h,hx⟩
 ·exact q p z
noncomputable def VI(bs:List Str)(xs:List (Str×Nat))(ys:List (Str×Nat×Nat)):List (Str×GM):=bs.map (λx=>(x,GM.none))++xs.map (λx=>(x.1,GM.xcl x.2))++ys.map (λx=>(x.1,GM.xcf x.2.1 x.2.2))
noncomputable def atA(K:z6C)(A:Ads)(x:Str)(c:Nat):Bool:=match A.xs.lookup c,z9f K z6T x with
 |some C,some (some (.ref C'))=>C == C'
 |_,_=>false
noncomputable def Ym(K:z6C)(A:Ads)(bs:List Str)(xs:List (Str×Nat))(ys:List (Str×Nat×Nat)):Bool:=
 bs.all (λx=>x != ("__debug__":Str)&&X5 (z9f K z6T x))&&
 xs.all (λx=>x.1 != ("__debug__":Str)&&atA K A x.1 x.2)&&ys.all (λx=>x.1 != ("__debug__":Str)&&atA K A x.1 x.2.1)
theorem Y2{x:Str}{c:Nat}(X:K.In base)(Gm:base.Ns z6T mg)(h:atA K A x c=true):∃C,A.xs.lookup c=some C/\mg x=some (.ref C):=by
 unfold atA at h
 split at h
 ·rename_i C C' q1 q2
  have h:C=C':=beq_iff_eq.mp h
  subst h
  exact⟨C,q1,zbn X Gm q2⟩
 ·cases h
noncomputable def XOkL (K:z6C)(A:Ads):List (Str×Nat)->Prop
 |[]=>True
 |p::r=>(∃C,A.xs.lookup p.2=some C/\z8Y K C zW "ValueError.__new__"=true)/\XOkL K A r
theorem XOkL.at:∀{xs:List (Str×Nat)} {p:Str×Nat},XOkL K A xs->p∈xs->∀C,A.xs.lookup p.2=some C->z8Y K C zW "ValueError.__new__"=true
 |q::r,p,h,hp,C,e=>by
  rcases z75.mp hp with rfl|z
  ·obtain⟨C',e',x⟩:=h.1
   rw[e'] at e;cases e;exact x
  ·exact XOkL.at h.2 z C e
theorem Wv{bs:List Str}{xs:List (Str×Nat)}{ys:List (Str×Nat×Nat)}(X:K.In base)(Gm:base.Ns z6T mg)(h:Ym K A bs xs ys=true)(hX:XOkL K A xs):GsOk P w K mg base A clo k (VI bs xs ys) tabs:=by
 simp only[Ym,z6x,z7k,bne_iff_ne,ne_eq] at h
 intro p hp
 rcases z6K.mp hp with z|z
 ·rcases z6K.mp z with z|z
  ·obtain⟨x,hx,rfl⟩:=z7K.mp z
   obtain⟨h1,h2⟩:=h.1.1 x hx
   exact⟨zbC X Gm (Qd h2),beq_eq_false_iff_ne.mpr h1⟩
  ·obtain⟨x,hx,rfl⟩:=z7K.mp z
   obtain⟨h1,h2⟩:=h.1.2 x hx
   obtain⟨C,q1,q2⟩:=Y2 X Gm h2
   exact⟨⟨C,q1,q2,XOkL.at hX hx C q1⟩,beq_eq_false_iff_ne.mpr h1⟩
 ·obtain⟨x,hx,rfl⟩:=z7K.mp z
  obtain⟨h1,h2⟩:=h.2 x hx
  obtain⟨C,q1,q2⟩:=Y2 X Gm h2
  exact⟨⟨C,q1,q2⟩,beq_eq_false_iff_ne.mpr h1⟩
theorem yw(X:K.In base)(Gm:base.Ns z6T mg)(hc:chk K A cls fld=true)(q:GsOk P w K mg base A clo k gs tabs):MdOk (mkD K A clo tabs) P w K mg base (cn cls fld gs N G cel own lam) k:=by
 simp only[chk,z6x,z7k] at hc
 obtain⟨⟨⟨c1,c2⟩,c3⟩,c4⟩:=hc
 have cb:∀{C},UZ K C=true->z70 K (.ref C) "__class__"=some (some (.builtin "object.__class__"))/\z8b K (.builtin "object.__class__") "__get__"=some (some (.builtin "getset_descriptor.__get__"))/\z9w K (.builtin "object.__class__")=some true/\z8z K C (.type "object")=some true:=λ{C} h=>by
  simp only[UZ,z6x] at h
  exact⟨yh h.1.1.1,yh h.1.1.2,yR h.1.2,yR h.2⟩
 have oc:∀c C,A.cs.lookup c=some C->OCls K C:=λc C h=>by
  have h':=(c3 _ (qm h)).1
  simp only[KZ,z6x] at h'
  obtain⟨⟨⟨⟨h1,h2⟩,h3⟩,h4⟩,h5⟩:=h'
  obtain⟨k1,k2,k3,k4⟩:=cb h1
  exact⟨⟨h2,h3,h4,yh h5⟩,k1,k2,k3,k4⟩
 refine⟨rfl,λx hx=>?_,λt x c hxc u v hu hv=>?_,λc C x f hC hf=>?_,λc C hC=>?_,oc,λx c hxc=>?_,λt x c hxc hlt Ct Cc hCt hCc=>?_⟩
 ·obtain⟨g,hg⟩:=lookup_some (l:=gs) hx
  have:=q _ (qm hg)
  refine⟨?_,this.2⟩
  show GlOkM _ P w K mg base k x ((gs.lookup x).getD .bad)
  rw[hg]
  exact this.1
 ·have h':=c1 _ hxc
  dsimp only at h'
  split at h'
  ·rename_i v' q'
   simp only[z6x,z7k] at h'
   have e:=(yW X Gm q').2 v hv
   subst e
   exact yR (h'.1.2 _ (z3f hu))
  ·cases h'
 ·have h':=c4 _ hf
  dsimp only at h'
  refine⟨?_,(oc c C hC).cl,Qd ((c3 _ (qm hC)).2 _ hf)⟩
  split at h'
  ·rename_i y hy
   show FLD[f]?=some x
   rw[hy,beq_iff_eq.mp h']
  ·cases h'
 ·have h':=c2 _ (qm hC)
  simp only[z1C,z6x] at h'
  obtain⟨⟨⟨⟨h1,h2⟩,h3⟩,h4⟩,h5⟩:=h'
  obtain⟨k1,k2,k3,k4⟩:=cb h1
  exact⟨yh h2,Qd h3,k1,k2,k3,k4,yR h4,h5⟩
 ·have h':=c1 _ hxc
  dsimp only at h'
  split at h'
  ·rename_i v q'
   simp only[z6x] at h'
   have hcv:=h'.1.1
   refine⟨v,(match v with|.ref C=>V.ref C|.type n=>V.ty n|_=>V.non),(yW X Gm q').1,?_⟩
   cases v with
   |ref C=>exact .inl ⟨C,rfl,rfl⟩
   |type n=>exact .inr ⟨n,rfl,rfl⟩
   |_=>cases hcv
  ·cases h'
 ·have h':=c1 _ hxc
  dsimp only at h'
  split at h'
  ·rename_i v q'
   simp only[z6x,zaM] at h'
   have e:=(yW X Gm q').2 (.ref Cc) (.inl hCc)
   subst e
   have h3:=h'.2.resolve_left (λz=>by have:=Nat.le_of_ble_eq_true z;omega)
   simp only[z7k] at h3
   exact yR (h3 _ (qm hCt))
  ·cases h'
end
noncomputable abbrev z3Y{β:Type}(t:T)(k:Key->RE β):RE β:=match t with
 |.int i=>k (.inl i)
 |.str x=>k (.inr x)
 |_=>.st
noncomputable abbrev dps(ps:List (De×De)):Sl->Mem->RE (List (Key×T)):=z81 (motive:=λ_=>Sl->Mem->RE (List (Key×T))) (λ_ μ=>.ok [] μ) (λp _ ih τ μ=>(p.1 τ μ).bind λkt μ1=>(p.2 τ μ1).bind λv μ2=>z3Y kt λk=>(ih τ μ2).bind λkvs μ3=>.ok ((k,v)::kvs) μ3) ps
noncomputable abbrev z0e(ps:List (De×De)):De:=λτ μ=>(dps ps τ μ).bind λkvs μ1=>.grd ((kvs.map (·.1)).Nodup) (.ok (.dic kvs) μ1)
noncomputable abbrev XT(ps:List (De×De)):De:=λτ μ=>(dps ps τ μ).bind λkvs μ1=>.grd ((kvs.map (·.1)).Nodup) (.ok (.mut μ1.length) (μ1++[.dic kvs]))
section
variable {X:Cx}{D:DP}{W:XW}{Γ:Cn}{k:Nat}{pins:List (Addr×Obj)}{s:Shared}{σ:St}{H:Hp}{φ α:List Addr}{τ:Sl}{μ:Mem}{pos:Pos}
theorem MRel.layO{p:Addr}{u:HO}{mo:MO}(m:MRel D φ α H μ)(hp:H p=none)(d:DenO D φ (α++[p]) (upd H p u) mo p):MRel D φ (α++[p]) (upd H p u) (μ++[mo]):=by
 have st:Stp α H (α++[p]) (upd H p u):=jQ hp
 have hl:=m.len
 refine⟨by simp[hl],?_,λb hb=>?_,λb hb=>?_,λi a o e1 e2=>?_⟩
 ·rw[z9g]
  refine⟨m.nd,by simp,λa ha b hb=>?_⟩
  rw[z6J.mp hb]
  intro z
  exact zu m hp (z▸ha)
 ·rcases z6K.mp hb with h|h
  ·exact m.dis b h
  ·rw[z6J.mp h];exact zt m hp
 ·obtain⟨u,e,n⟩:=m.phi b hb
  exact⟨u,zk hp b u e,n⟩
 ·by_cases hi:i<α.length
  ·rw[z6B hi] at e1
   rw[z6B (by omega)] at e2
   have d:=m.ob i a o e1 e2
   obtain⟨u,q,_⟩:=d.some
   exact d.step st ((zk hp _ _ q).trans q.symm)
  ·rw[z6S (by omega)] at e1 e2
   have hi':i-α.length=0:=by
    by_cases z:i-α.length=0
    ·exact z
    ·rw[z8B (by simp;omega)] at e1;cases e1
   have hi2:i-μ.length=0:=by omega
   rw[hi'] at e1
   rw[hi2] at e2
   have e1:some p=some a:=e1
   have e2:some mo=some o:=e2
   cases e1;cases e2
   exact d
noncomputable def DsOk (X:Cx)(D:DP)(W:XW):List (Option Expr)->List Expr->List (De×De)->Prop
 |[],[],[]=>True
 |some a::ks,b::vs,p::ps=>PE X a (rdE D W p.1)/\PE X b (rdE D W p.2)/\DsOk X D W ks vs ps
 |_,_,_=>False
theorem DsOk.all:∀{ks:List (Option Expr)} {vs:List Expr} {ps:List (De×De)},DsOk X D W ks vs ps->ks.all (·.isSome)=true/\ks.length=vs.length/\ks.length=ps.length
 |[],[],[],_=>⟨rfl,rfl,rfl⟩
 |some a::ks,b::vs,p::ps,h=>by
  obtain⟨h1,h2,h3⟩:=DsOk.all h.2.2
  exact⟨by simpa using h1,by simp[h2],by simp[h3]⟩
 |[],[],_::_,h=>h.elim
 |[],_::_,_,h=>h.elim
 |none::_,_,_,h=>h.elim
 |some _::_,[],_,h=>h.elim
 |some _::_,_::_,[],h=>h.elim
theorem Xm{R:List (Key×T)->Mem->List Addr->Hp->Prop}{Qf:List (Value×Value)->z6z->Prop}:∀{ks:List (Option Expr)} {vs:List Expr} {ps:List (De×De)} {s:z6z} {H:Hp} {α:List Addr} {μ:Mem} {R:List (Key×T)->Mem->List Addr->Hp->Prop},DsOk X D W ks vs ps->Inv X pins σ H s->SRel D φ α H τ σ->MRel D φ α H μ->Post D W φ α H σ R (dps ps τ μ)->
  z6I (z6L X.prog X.w) X.A (evalPairs (pairTrees ks vs X.env pos)) (λus s'=>∃H' α' μ' kvs gs ws,Inv X pins σ H' s'/\Stp α H α' H'/\MRel D φ α' H' μ'/\DenK D φ α' H' kvs gs/\Carries (zN X.prog X.w) us ws/\KV gs ws/\kvs.length=ps.length/\R kvs μ' α' H') X.xe s
 |[],[],[],s,H,α,μ,R,_,I,sr,mr,p=>pairTrees_nil_walk ⟨H,α,μ,[],[],[],I,Stp.refl _ _,mr,rfl,trivial,.nil,rfl,p.ok (Stp.refl _ _) mr⟩
 |some a::ks,b::vs,p0::ps,s,H,α,μ,R,h,I,sr,mr,p=>by
  have p:Post D W φ α H σ R ((p0.1 τ μ).bind λkt μ1=>(p0.2 τ μ1).bind λv μ2=>z3Y kt λk=>(dps ps τ μ2).bind λkvs μ3=>.ok ((k,v)::kvs) μ3):=p
  refine pairTrees_cons_walk (thn (sub h.1 I sr mr p) ?_)
  rintro u s1 ⟨v,H1,t,μ1,α1,I1,r1,st1,sr1,mr1,d1,p1⟩
  refine thn (sub h.2.1 I1 sr1 mr1 p1) ?_
  rintro u' s2 ⟨v',H2,t',μ2,α2,I2,r2,st2,sr2,mr2,d2,p2⟩
  have key:∀(kk:Key),(zN X.prog X.w).is kk u=true->Post D W φ α2 H2 σ R ((dps ps τ μ2).bind λkvs μ3=>.ok ((kk,t')::kvs) μ3)->
    z6I (z6L X.prog X.w) X.A (evalPairs (pairTrees ks vs X.env pos)) (λr s3=>(λus s'=>∃H' α' μ' kvs gs ws,Inv X pins σ H' s'/\Stp α H α' H'/\MRel D φ α' H' μ'/\DenK D φ α' H' kvs gs/\Carries (zN X.prog X.w) us ws/\KV gs ws/\kvs.length=(p0::ps).length/\R kvs μ' α' H') ((u,u')::r) s3) X.xe s2:=λkk hk p3=>by
   refine thn (Xm (Qf:=Qf) (R:=λ_ _ _ _=>True) h.2.2 I2 sr2 mr2 p3.bind) ?_
   rintro us s3 ⟨H3,α3,μ3,kvs,gs,ws,I3,st3,mr3,dk,cr,kv,hlen,q3⟩
   exact⟨H3,α3,μ3,(kk,t')::kvs,(kk,v')::gs,(kk,u')::ws,I3,(st1.trans st2).trans st3,mr3,⟨v',gs,rfl,d2.step st3,dk⟩,⟨hk,rfl,cr⟩,.cons ⟨rfl,r2⟩ kv,by simp[hlen],q3.ok (Stp.refl _ _) mr3⟩
  unfold z3Y at p2
  split at p2
  ·cases d1
   obtain⟨t0,rfl⟩:=r1
   exact key _ (xj _ _ _ t0) p2
  ·cases d1
   obtain⟨t0,rfl⟩:=r1
   exact key _ (xa _ _ _ t0) p2
  ·exact p2.elim
 |[],[],_::_,_,_,_,_,_,h,_,_,_,_=>h.elim
 |[],_::_,_,_,_,_,_,_,h,_,_,_,_=>h.elim
 |none::_,_,_,_,_,_,_,_,h,_,_,_,_=>h.elim
 |some _::_,[],_,_,_,_,_,_,h,_,_,_,_=>h.elim
 |some _::_,_::_,[],_,_,_,_,_,h,_,_,_,_=>h.elim
theorem DenK.keys:∀{kvs:List (Key×T)} {gs:List (Key×V)},DenK D φ α H kvs gs->gs.map (·.1)=kvs.map (·.1)
 |[],_,h=>by have:_=[]:=h;subst this;rfl
 |p::r,_,h=>by
  obtain⟨v,r',rfl,_,l⟩:=h
  simp[DenK.keys l]
theorem KV.keys:∀{gs:List (Key×V)} {ws:List (Key×Value)},KV gs ws->ws.map (·.1)=gs.map (·.1)
 |_,_,.nil=>rfl
 |_,_,.cons r t=>by simp[KV.keys t,r.1]
theorem Qx{ks:List (Option Expr)}{vs:List Expr}{ps:List (De×De)}{Q:VK}{kk:List (Key×T)->Mem->RE T}(h0:ks≠[])(h15:ks.length<=15)(h:DsOk X D W ks vs ps)
  (I:Inv X pins σ H s) (sr:SRel D φ α H τ σ) (mr:MRel D φ α H μ) (p:Post D W φ α H σ (RV D φ Q) ((dps ps τ μ).bind λkvs μ1=>.grd ((kvs.map (·.1)).Nodup) (kk kvs μ1)))
  (Kq:∀b α' H' kvs gs μ',Stp α H α' H'->H b=none->b∉φ->b∉α'->MRel D (φ++[b]) α' H' μ'->(∃u,H' b=some u)->DenK D (φ++[b]) α' H' kvs gs->Post D W φ α H σ (RV D φ Q) (kk kvs μ')->Q (.ref b) (upd H' b (.dK gs))) :
  z6I (z6L X.prog X.w) X.A (eval (.Dict ks vs pos) X.env) (EP X pins σ Q) X.xe s:=by
 have hD:H s.heap.objs.size=none:=I.hok.fresh (z6E _)
 have sm:vz H (upd H s.heap.objs.size (.dK [])):=zk hD
 have hb:z8r<s.heap.objs.size:=Nat.lt_trans (show z8r<z6T by decide) (by first|exact (I.ok.mod.glob.keeps I.bk).lt|exact (I.mod.glob.keeps I.bk).lt)
 have I1:=I.laid (a:=s.heap.objs.size) (o:=.dK []) (h':=s.heap.push {cls:=.type "dict",data:=.dict #[]}) (t':=s.toks) (λ_ _ q=>z6y _ q) (z6E _) ⟨z9s _,beq_eq_false_iff_ne.mpr (z6Z (z73 hb)),[],.nil,zea _⟩
 have n1:=zt mr hD
 have n2:=zu mr hD
 have lk:Lk φ α H (φ++[s.heap.objs.size]) α (upd H s.heap.objs.size (.dK [])):=yF hD sm
 have sr1:=sr.lk lk
 have mr1:MRel D (φ++[s.heap.objs.size]) α (upd H s.heap.objs.size (.dK [])) μ:=mr.lk lk (λc hc=>by
  have na:c≠s.heap.objs.size:=λz=>n2 (z▸hc)
  exact⟨z7 na,λz=>(z6K.mp z).elim (mr.dis c hc) λz=>na (z6J.mp z)⟩) λc hc=>by
  rcases z6K.mp hc with z|z
  ·obtain⟨o,e,n⟩:=mr.phi c z
   exact⟨o,sm c o e,n⟩
  ·rw[z6J.mp z,z6];exact⟨_,rfl,rfl⟩
 obtain⟨K0,Z0,q0,hk0,hz0⟩:=p
 have p1:Post D W (φ++[s.heap.objs.size]) α (upd H s.heap.objs.size (.dK [])) σ (λkvs μ' _ _=>(kvs.map (·.1)).Nodup/\kk kvs μ' K0 Z0) (dps ps τ μ):=⟨_,Z0,q0,λkvs μ' e _ _ _ _=>e,λc fs μ' z α' H' C d st m ad xd=>by
  have m':=m.lk qy (λc hc=>⟨rfl,λz=>m.dis c hc (z6G _ z)⟩) λc hc=>m.phi c (z6G _ hc)
  exact hz0 c fs μ' z α' H' C d ((Stp.new sm).trans st) m' ad (xd.lk qy)⟩
 refine wpAny_Dict_walk (knd:=zN X.prog X.w) h.all.1 h.all.2.1 h0 h15 (thn (Xm (Qf:=λ_ _=>True) (R:=λ_ _ _ _=>True) h I1 sr1 mr1 p1) ?_)
 rintro us s3 ⟨H3,α2,μ2,kvs,gs,ws,I3,st3,mr3,dk,cr,kv,hkl,nd,q3⟩
 have e3:H3 s.heap.objs.size=some (.dK []):=st3.keep _ _ n2 z6
 obtain⟨z,hd,vs0,r0,dd⟩:=(show ObjOk X.prog X.w H3 s3.heap s.heap.objs.size (.dK []) from I3.hok _ _ e3)
 cases r0
 have hm:merged ([]:List (Key×Value)) ws=ws:=merged_nil_of_nodup ws (by rw[KV.keys kv,DenK.keys dk];exact nd)
 refine⟨ws,cr,dd,λh' dd' hs=>⟨.ref s.heap.objs.size,upd H3 s.heap.objs.size (.dK gs),?_,rfl,?_⟩⟩
 ·rw[hm] at dd'
  have he:∃q,h'.get? s.heap.objs.size=some q:=let ⟨q,_,_,hq,_⟩:=dd';⟨q,hq⟩
  have hlen:gs.length<=15:=by
   have e1:gs.length=kvs.length:=by simpa using congrArg zaX (DenK.keys dk)
   have e2:=h.all.2.2
   omega
  exact I3.write (x:=s.heap.objs.size) (e:=s.heap.objs.size) (by rw[e3];exact z7r) (.inl rfl) (λb u hb hu=>(hs.2 b hb).trans hu) he ⟨z6X hlen (by decide),hd,_,kv,dd'⟩
 ·exact Kq _ α2 H3 kvs gs μ2 ((Stp.new sm).trans st3) hD n1 (st3.out n2 z6) mr3 ⟨_,e3⟩ dk ⟨K0,Z0,q3,hk0,hz0⟩
theorem VJ{b:Addr}{α':List Addr}{H':Hp}{gs:List (Key×V)}(st:Stp α H α' H')(hb:H b=none):Stp α H α' (upd H' b (.dK gs)):=
 ⟨st.ext,λc o n e=>by rw[z7 (zJ e hb)];exact st.keep c o n e,λc e=>by
  by_cases hcs:c=b
  ·rw[hcs];exact hb
  ·rw[z7 hcs] at e;exact st.live c e⟩
theorem W8{b:Addr}{gs:List (Key×V)}(m:MRel D (φ++[b]) α H μ):MRel D φ α (upd H b (.dK gs)) μ:=by
 have inphi:b∈φ++[b]:=by simp
 have m4:MRel D (φ++[b]) α (upd H b (.dK gs)) μ:=m.lk (kh inphi) (λc hc=>⟨by rw[z7 (λz=>m.dis c hc (by rw[z];simp))],m.dis c hc⟩) λc hc=>by
  by_cases hcs:c=b
  ·rw[hcs,z6];exact⟨_,rfl,rfl⟩
  ·rw[z7 hcs];exact m.phi c hc
 exact m4.lk qy (λc hc=>⟨rfl,λz=>m4.dis c hc (z6G _ z)⟩) λc hc=>m4.phi c (z6G _ hc)
theorem z3v{b:Addr}{gs:List (Key×V)}:Lk (φ++[b]) α H φ α (upd H b (.dK gs)):=⟨λa o n1 n2 e=>⟨λz=>n1 (z6G _ z),n2,by rw[z7 (λz:a=b=>n1 (by rw[z];simp))];exact e⟩,λ_ _ e=>e⟩
theorem z2B{ks:List (Option Expr)}{vs:List Expr}{ps:List (De×De)}(h0:ks≠[])(h15:ks.length<=15)(h:DsOk X D W ks vs ps):PE X (.Dict ks vs pos) (rdE D W (z0e ps)):=by
 rintro pins s σ H Q I ⟨φ,α,τ,μ,sr,mr,p⟩
 refine Qx h0 h15 h I sr mr p λb α' H' kvs gs μ' st hb n1 n2 m hx dk q=>?_
 exact q.ok (VJ st hb) (W8 m) _ ⟨b,gs,rfl,n1,n2,z6,dk.lk z3v⟩
theorem z01{ks:List (Option Expr)}{vs:List Expr}{ps:List (De×De)}(h0:ks≠[])(h15:ks.length<=15)(h:DsOk X D W ks vs ps):PE X (.Dict ks vs pos) (rdE D W (XT ps)):=by
 rintro pins s σ H Q I ⟨φ,α,τ,μ,sr,mr,p⟩
 refine Qx h0 h15 h I sr mr p λb α' H' kvs gs μ' st hb n1 n2 m hx dk q=>?_
 have m1:MRel D φ α' (upd H' b (.dK gs)) μ':=W8 m
 have st1:Stp α H (α'++[b]) (upd H' b (.dK gs)):=by
  obtain⟨β,rfl,hβ⟩:=st.ext
  have s2:=VJ (gs:=gs) st hb
  exact⟨⟨β++[b],by simp,λc hc=>(z6K.mp hc).elim (hβ c) λz=>by rw[z6J.mp z];exact hb⟩,s2.keep,s2.live⟩
 have lk2:Lk (φ++[b]) α' H' φ (α'++[b]) (upd H' b (.dK gs)):=⟨λa o k1 k2 e=>⟨λz=>k1 (z6G _ z),λz=>(z6K.mp z).elim k2 λz=>k1 (by rw[z6J.mp z];simp),by rw[z7 (λz:a=b=>k1 (by rw[z];simp))];exact e⟩,λi a e=>by rw[z6B (z6v.mp e).1];exact e⟩
 have m2:MRel D φ (α'++[b]) (upd H' b (.dK gs)) (μ'++[.dic kvs]):=by
  have hl:=m.len
  refine⟨by simp[hl],?_,λc hc=>?_,m1.phi,λi a o e1 e2=>?_⟩
  ·rw[z9g]
   refine⟨m.nd,by simp,λa ha c hc=>?_⟩
   rw[z6J.mp hc]
   intro z
   exact n2 (z▸ha)
  ·rcases z6K.mp hc with h|h
   ·exact m1.dis c h
   ·rw[z6J.mp h];exact n1
  ·by_cases hi:i<α'.length
   ·rw[z6B hi] at e1
    rw[z6B (by omega)] at e2
    exact (m.ob i a o e1 e2).lk lk2 (z7 λz=>m.dis a (z6M e1) (by rw[z];simp))
   ·rw[z6S (by omega)] at e1 e2
    have hi':i-α'.length=0:=by
     by_cases z:i-α'.length=0
     ·exact z
     ·rw[z8B (by simp;omega)] at e1;cases e1
    have hi2:i-μ'.length=0:=by omega
    rw[hi'] at e1
    rw[hi2] at e2
    have e1:some b=some a:=e1
    have e2:some (MO.dic kvs)=some o:=e2
    cases e1;cases e2
    exact⟨gs,z6,dk.lk lk2⟩
 exact q.ok st1 m2 _ ⟨b,by rw[←m.len,z6S (z6E _)];simp,rfl⟩
end
noncomputable def cDs (r:Rec)(Γ:Cn):List (Option Expr)->List Expr->Option (List (De×De))
 |[],[]=>some []
 |some a::ks,b::vs=>(r.e Γ a).bind λf=>(r.e Γ b).bind λg=>(cDs r Γ ks vs).bind λps=>some ((f,g)::ps)
 |_,_=>none
theorem K_{D:DP}{r:Rec}{X:Cx}{W:XW}{Γ:Cn}{k:Nat}(H:RecOk D r)(C:Ck D W Γ X k):∀{ks:List (Option Expr)} {vs:List Expr} {ps:List (De×De)},cDs r Γ ks vs=some ps->DsOk X D W ks vs ps
 |[],[],ps,h=>by cases h;trivial
 |some a::ks,b::vs,ps,h=>by
  obtain⟨f,h1,h⟩:=bnd h
  obtain⟨g,h2,h⟩:=bnd h
  obtain⟨qs,h3,h⟩:=bnd h
  cases h
  exact⟨H.e C h1,H.e C h2,K_ H C h3⟩
 |[],_::_,_,h=>by cases h
 |none::_,_,_,h=>by cases h
 |some _::_,[],_,h=>by cases h
noncomputable def z42 (r:Rec)(Γ:Cn)(mk:List (De×De)->De)(e:Expr):Option De:=match e with
 |.Dict ks vs _=>gd (!ks.isEmpty&&decide (ks.length<=15)) ((cDs r Γ ks vs).bind λps=>some (mk ps))
 |_=>none
noncomputable def z4G:ER:=λr Γ e=>z42 r Γ z0e e
noncomputable def z19:ER:=λr Γ e=>z42 r Γ XT e
theorem VP{D:DP}{mk:List (De×De)->De}(hm:∀{X:Cx} {W:XW} {ks:List (Option Expr)} {vs:List Expr} {ps:List (De×De)} {pos:Pos},ks≠[]->ks.length<=15->DsOk X D W ks vs ps->PE X (.Dict ks vs pos) (rdE D W (mk ps))):EOk D (λr Γ e=>z42 r Γ mk e):=by
 intro r H X W Γ k e d C h
 cases e with
 |Dict ks vs p=>
  obtain⟨hb,h⟩:=zr h
  simp only[z6x,decide_eq_true_eq,z8d,List.isEmpty_eq_false_iff] at hb
  obtain⟨ps,h1,h⟩:=bnd h
  cases h
  exact hm hb.1 hb.2 (K_ H C h1)
 |_=>cases h
theorem z0B{D:DP}:EOk D z4G:=VP λa b c=>z2B a b c
theorem YK{D:DP}:EOk D z19:=VP λa b c=>z01 a b c
noncomputable abbrev eB2(op:T->T->Mem->RE T)(f g:De):De:=λτ μ=>(f τ μ).bind λx μ1=>(g τ μ1).bind λy μ2=>op x y μ2
noncomputable abbrev vI(x y:T)(μ:Mem):RE T:=match x,y with
 |.int a,.int b=>.ok (.int (if b<a then b else a)) μ
 |_,_=>.st
noncomputable abbrev uH(x y:T)(μ:Mem):RE T:=match x,y with
 |.int a,.int b=>.ok (.int (if a<b then b else a)) μ
 |_,_=>.st
section
variable {X:Cx}{D:DP}{W:XW}{Γ:Cn}{k:Nat}{pins:List (Addr×Obj)}{s:Shared}{σ:St}{H:Hp}{φ α:List Addr}{τ:Sl}{μ:Mem}{f g h:De}{a b c:Expr}{pos:Pos}{es:List Expr}
noncomputable def B2 (X:Cx)(D:DP)(W:XW)(fv:Value)(op:T->T->Mem->RE T):Prop:=
 ∀(pins:List (Addr×Obj)) (s:z6z) (σ:St) (H:Hp) (φ α:List Addr) (μ:Mem) (t t':T) (v v':V) (u u':Value) (Q:VK),Inv X pins σ H s->MRel D φ α H μ->Den D φ α H t v->Den D φ α H t' v'->RelV v u->RelV v' u'->Post D W φ α H σ (RV D φ Q) (op t t' μ)->
  z6I (z6L X.prog X.w) X.A (call fv [u,u']) (EP X pins σ Q) X.xe s
theorem z1u (C:Ck D W Γ X k) {x:Str} {id:String} {op:T->T->Mem->RE T} {p0:Pos} (hx:x∈Γ.G) (hg:Γ.gl x=.none) (hv:z8s x=some (.builtin id)) (hn:x≠"__name__") (ha':noStar a=true) (hb':noStar b=true) (hB:B2 X D W (.builtin id) op) (ha:PE X a (rdE D W f)) (hb:PE X b (rdE D W g)) :
  PE X (.Call (.Name x p0) [a,b] [] pos) (rdE D W (eB2 op f g)):=by
 have hm:=C.glo _ hx
 rw[hg] at hm
 rintro pins s σ H Q I ⟨φ,α,τ,μ,sr,mr,p⟩
 refine z7I (jB I (C.glb _ hx) hm hv ?_ hn (C.dbG _ hx))
 refine z7J (thn (zI ha (zI hb qH (za hb')) (za ha') pos pins s σ H (λvs H2=>∃v1 v2 t1 t2 μ2 α2,vs=[v1,v2]/\MRel D φ α2 H2 μ2/\Den D φ α2 H2 t1 v1/\Den D φ α2 H2 t2 v2/\Post D W φ α2 H2 σ (RV D φ Q) (op t1 t2 μ2)) I
  ⟨φ,α,τ,μ,sr,mr,p.bind.mono λt1 μ1 α1 H1 st1 m1 q1 v1 d1=>⟨φ,α1,τ,μ1,sr.step st1,m1,q1.bind.mono λt2 μ2 α2 H2 st2 m2 q2 v2 d2=>⟨v1,v2,t1,t2,μ2,α2,rfl,m2,d1.step st2,d2,q2⟩⟩⟩) ?_) (za ha') (qt (by simp[hb']))
 rintro us s1 ⟨vs,H1,I1,rv,v1,v2,t1,t2,μ2,α2,rfl,m,d1,d2,q⟩
 obtain⟨u1,u2,rfl,r1,r2⟩:=vals2 rv
 exact hB pins s1 σ H1 φ α2 μ2 t1 t2 v1 v2 u1 u2 Q I1 m d1 d2 r1 r2 q
theorem z2x(hc:X.calm=true):B2 X D W (.builtin "min") vI:=by
 intro pins s σ H φ α μ t t' v v' u u' Q I mr d d' r r' p
 unfold vI at p
 split at p
 ·cases d;cases d'
  obtain⟨t1,rfl⟩:=r
  obtain⟨t2,rfl⟩:=r'
  refine min_two_ints (I.ok.hd hc) λh' tk kp=>?_
  have I1:Inv X pins σ H {s with heap:=h',toks:=tk}:=I.kept kp
  rename_i i j
  by_cases z:j<i
  ·rw[if_pos z] at p ⊢
   exact⟨.int j,H,I1,⟨_,rfl⟩,p.here mr rfl⟩
  ·rw[if_neg z] at p ⊢
   exact⟨.int i,H,I1,⟨_,rfl⟩,p.here mr rfl⟩
 ·exact p.elim
theorem z2O(hc:X.calm=true):B2 X D W (.builtin "max") uH:=by
 intro pins s σ H φ α μ t t' v v' u u' Q I mr d d' r r' p
 unfold uH at p
 split at p
 ·cases d;cases d'
  obtain⟨t1,rfl⟩:=r
  obtain⟨t2,rfl⟩:=r'
  refine max_two_ints (I.ok.hd hc) λh' tk kp=>?_
  have I1:Inv X pins σ H {s with heap:=h',toks:=tk}:=I.kept kp
  rename_i i j
  by_cases z:i<j
  ·rw[if_pos z] at p
   rw[if_pos (show j > i from z)]
   exact⟨.int j,H,I1,⟨_,rfl⟩,p.here mr rfl⟩
  ·rw[if_neg z] at p
   rw[if_neg (show ¬j > i from z)]
   exact⟨.int i,H,I1,⟨_,rfl⟩,p.here mr rfl⟩
 ·exact p.elim
theorem intsAre_of:∀{ns:List Int} {us:List Value},Vals (ns.map V.int) us->z8v us ns
 |[],_,.nil=>.nil
 |n::ns,_,.cons r q=>by
  obtain⟨t,rfl⟩:=r
  exact .cons n t (intsAre_of q)
end
noncomputable def rB2 (nm:Str)(op:T->T->Mem->RE T):ER:=λr Γ e=>match e with
 |.Call (.Name x _) [a,b] [] _=>gd (x == nm&&(idx Γ.N x).isNone&&noStar a&&noStar b&&Γ.calm) ((r.e Γ a).bind λf=>(r.e Γ b).bind λg=>(match Γ.look x with
  |.none=>some (eB2 op f g)
  |_=>none))
 |_=>none
theorem YJ{D:DP}{nm:Str}{op:T->T->Mem->RE T}(H1:∀{X:Cx} {W:XW} {Γ:Cn} {k:Nat} {a b:Expr} {f g:De} {p0 pos:Pos},Ck D W Γ X k->nm∈Γ.G->Γ.gl nm=.none->Γ.calm=true->noStar a=true->noStar b=true->PE X a (rdE D W f)->PE X b (rdE D W g)->PE X (.Call (.Name nm p0) [a,b] [] pos) (rdE D W (eB2 op f g))):EOk D (rB2 nm op):=by
 intro r H X W Γ k e d C h
 unfold rB2 at h
 split at h
 ·rename_i x p0 a b pos
  have hh:=zr h
  clear h
  obtain⟨hb,h⟩:=hh
  simp only[z6x,beq_iff_eq] at hb
  obtain⟨⟨⟨⟨rfl,h2⟩,h3⟩,h4⟩,h5⟩:=hb
  obtain⟨f,h1,h⟩:=bnd h
  obtain⟨g,h6,h⟩:=bnd h
  cases hl:Γ.look x with
  |none=>
   simp only[hl] at h
   cases h
   obtain⟨hx,hg⟩:=w5 hl (by intro z;cases z)
   exact H1 C hx hg h5 h3 h4 (H.e C h1) (H.e C h6)
  |_=>simp[hl] at h
 ·cases h
noncomputable def z1y:ER:=rB2 "min" vI
theorem U8{D:DP}:EOk D z1y:=YJ λC hx hg hc h1 h2 ha hb=>z1u C hx hg (by decide +kernel) (by decide) h1 h2 (z2x (C.clm hc)) ha hb
noncomputable def z1h:ER:=rB2 "max" uH
theorem KH{D:DP}:EOk D z1h:=YJ λC hx hg hc h1 h2 ha hb=>z1u C hx hg (by decide +kernel) (by decide) h1 h2 (z2O (C.clm hc)) ha hb
noncomputable abbrev xM(c:Nat)(g:Fn)(ts:List T)(μ:Mem):RE T:=λK Z=>g (.mut μ.length::ts) (μ++[.obj c []]) (λr μ1=>r=.non/\K (.mut μ.length) μ1) Z
noncomputable abbrev Xs(c:Nat)(g:Fn)(fs:List De):De:=λτ μ=>(evs fs τ μ).bind (xM c g)
noncomputable abbrev zS(c:Nat)(g:Fn)(o:De)(as:List De):De:=λτ μ=>(o τ μ).bind λt μ1=>match t with
 |.obj c' fs=>.grd (c'=c) ((evs as τ μ1).bind λts μ2=>g (.obj c' fs::ts) μ2)
 |.mut i=>λK Z=>∃fs,μ1[i]?=some (.obj c fs)/\(evs as τ μ1).bind (λts μ2=>g (.mut i::ts) μ2) K Z
 |_=>.st
section
variable {X:Cx}{D:DP}{W:XW}{Γ:Cn}{k:Nat}{pins:List (Addr×Obj)}{s:Shared}{σ:St}{H:Hp}{φ α:List Addr}{τ:Sl}{μ:Mem}{fs:List De}{a b c:Expr}{pos:Pos}{es:List Expr}
theorem J2{c:Nat}{g:Fn}{C0 fI:Addr}{fd:z7T}{ps:List Str}{kk:Nat}{us:List Value}{vs:List V}{ts:List T}{Q:VK}(C:Ck D W Γ X k)(ad:D.cad c=some C0)(M:Mk X.K C0 fI)(F:FnOk X.prog X.w X.K X.mg X.base (CX1 X.prog X.w) kk fI fd ps (spN D ps.length g))
  (hr:Room (kk+1) X.A) (hb:Binds X.K fd ps []) (har:∀ts μ K Z,g ts μ K Z->ts.length=ps.length) (I:Inv X pins σ H s) (r:Vals vs us) (mr:MRel D φ α H μ) (d:DenL D φ α H ts vs) (p:Post D W φ α H σ (RV D φ Q) (xM c g ts μ)) :
  z6I (z6L X.prog X.w) X.A (call (.ref C0) us) (EP X pins σ Q) X.xe s:=by
 obtain⟨K,Z,hg,hk,hz⟩:=p
 have hl:(T.mut μ.length::ts).length=ps.length:=har _ _ _ _ hg
 have hq:∀x dx,H x=none->H dx=none->dx≠x->spN D ps.length g (.ref x::(vs++[])) (upd (upd H dx (.own x)) x (.ins C0 dx [])) (λv H2=>v=.non/\Q (.ref x) H2) (λc d H'=>W c d σ H'):=by
  intro x dx hx hdx hne
  have sm1:vz H (upd H dx (.own x)):=zk hdx
  have hx1:upd H dx (.own x) x=none:=by rw[z7 (z6Z hne)];exact hx
  have mr1:MRel D φ α (upd H dx (.own x)) μ:=mr.new sm1
  have st0:Stp α H (α++[x]) (upd (upd H dx (.own x)) x (.ins C0 dx [])):=(Stp.new sm1).trans (jQ hx1)
  have mr2:MRel D φ (α++[x]) (upd (upd H dx (.own x)) x (.ins C0 dx [])) (μ++[.obj c []]):=mr1.layO hx1 ⟨C0,dx,[],ad,z6,rfl⟩
  have hget:(α++[x])[μ.length]?=some x:=by rw[←mr.len,z6S (z6E _)];simp
  refine⟨by simp only[z6Y,z74] at hl ⊢;rw[←d.length];exact hl,φ,α++[x],.mut μ.length::ts,μ++[.obj c []],⟨.ref x,vs++[],rfl,⟨x,hget,rfl⟩,by rw[z74];exact d.step st0⟩,mr2,_,_,hg,?_,?_⟩
  ·rintro t μ2 ⟨rfl,q⟩ α2 H3 st m v dv
   refine⟨dv,?_⟩
   obtain⟨β,e,_⟩:=st.ext
   refine hk _ _ q α2 H3 (st0.trans st) m _ ⟨x,?_,rfl⟩
   rw[e,z6B (z6v.mp hget).1];exact hget
  ·rintro e fs μ2 q α2 H3 C1 d1 st m had xd
   exact hz _ _ _ q α2 H3 C1 d1 (st0.trans st) m had xd
 have hq1:=hq (s.heap.objs.size+1) s.heap.objs.size (I.hok.fresh (z9t _)) (I.hok.fresh (z6E _)) (z73 (z7Z _))
 have I2:=Inv.made (C:=C0) I
 have r2:Vals (V.ref (s.heap.objs.size+1)::(vs++[])) (z6W (s.heap.objs.size+1)::us):=.cons rfl (by rw[z74];exact r)
 have hlu:(z6W (s.heap.objs.size+1)::us++[]).length=ps.length:=by
  rw[z74,z6Y,←r.length,←d.length]
  exact hl
 refine z8h (uh (f:=fI) I.kIn M.makes M.init (beq_iff_eq.mp M.fn) (z8a (F.run _ X.stack _ _ ⟨z6W (s.heap.objs.size+1)::us,[]⟩ (z6W (s.heap.objs.size+1)::us) _ _ (λc d H'=>W c d σ H') (hr.make C0 us [])
  (I2.env0.make C0 us []) (by simpa using hb _ (z6W (s.heap.objs.size+1)::us) I2.kIn hlu) r2 hq1) λr s' hq'=>?_))
 cases r with
 |error e=>exact C.xe e s' (xQ (E:=λc d H'=>W c d σ H') I2 hq' λcls d H' w=>w)
 |ok fl=>
  cases fl with
  |ret u=>
   obtain⟨v,H',I3,rv,ev,q3⟩:=I2.after hq'
   subst ev
   exact⟨rv,⟨V.ref (s.heap.objs.size+1),H',I3,rfl,q3⟩⟩
  |next=>exact z7c hq'
  |brk=>exact z7c hq'
  |cont=>exact z7c hq'
theorem KY(C:Ck D W Γ X k){x:Str}{c:Nat}{g:Fn}{p0:Pos}(hx:x∈Γ.G)(hg:Γ.gl x=.mk c false g)(hc:Γ.calm=true)(ha:EsOk X D W es fs):PE X (.Call (.Name x p0) es [] pos) (rdE D W (Xs c g fs)):=by
 have q:=C.glo x hx
 rw[hg] at q
 obtain⟨C0,fI,fd,ps,kk,ad,hm,M,hb,hkk,Fn,har⟩:=q
 have hr:=(C.rom hc).mono hkk
 have hs:=ha.stars
 have pa:=wK ha
 rintro pins s σ H Q I ⟨φ,α,τ,μ,sr,mr,p⟩
 refine z7I (qV I (C.glb x hx) hm ?_ (C.dbG x hx))
 cases es with
 |nil=>
  cases fs with
  |nil=>exact z8T I.kIn M.kp (J2 (ts:=[]) C ad M Fn hr hb har I .nil mr rfl p)
  |cons f fs=>exact ha.elim
 |cons e es=>
  simp only[z7y,z6x] at hs
  refine z82 (h₀:=X.base) I.ok.mod.kin M.kp (thn (Y5 pa I sr mr p) ?_) (za hs.1) (qt hs.2)
  rintro us s1 ⟨vs,H1,ts,μ1,α1,I1,r1,st1,sr1,mr1,d1,_,p1⟩
  exact⟨I1.kIn,J2 C ad M Fn hr hb har I1 r1 mr1 d1 p1⟩
theorem yc{nm:Str}(hf:∀i,D.fn i≠some nm):∀{fs:List (Nat×T)} {gs:List (Str×V)},DenF D φ α H fs gs->gs.lookup nm=none
 |[],_,h=>by cases h;rfl
 |p::r,_,h=>by
  obtain⟨x,v,q,e,rfl,_,l⟩:=h
  rw[z79]
  have:(nm == x)=false:=by
   apply beq_false_of_ne
   intro z
   exact hf p.1 (by rw[z];exact e)
  rw[this]
  exact yc hf l
theorem XE {es : List Expr} {pos : Pos} {env : Env} (hs : es.all noStar = true) (hl : es.length < 30) : ((z8I pos (z7m es env)).all (fun x => !x.1) && (z9Q pos (z8L [] env)).all (fun x => x.1.isSome)
      &&decide (es.length+([]:List z9F).length+(if ([]:List z9F).isEmpty then 0 else 1)<30))=true:=by
  have h1:=qt (env:=env) (pos:=pos) hs
  have h2:(z8I pos (z7m es env)).all (λx=>!x.1)=true:=by
    rw[z7k]
    intro x hx
    have:=zbH.mp h1 x hx
    simpa using this
  rw[h2]
  have h3:(z9Q pos (z8L [] env)).all (λx=>x.1.isSome)=true:=rfl
  rw[h3]
  simpa using hl
theorem Uk(C:Ck D W Γ X k){x m:Str}{c:Nat}{g:Fn}{o:Expr}{go:De}{apos:Pos}(hU:x∈Γ.U)(hg:Γ.gl x=.met c m g)(hc:Γ.calm=true)(hp:zT o=true)(hline:(apos.endLine == pos.line)=true)(hl:es.length<30)(ho:PE X o (rdE D W go))(ha:EsOk X D W es fs) :
  PE X (.Call (.Attribute o m apos) es [] pos) (rdE D W (zS c g go fs)):=by
 have q:=(C.glU x hU).1
 rw[hg] at q
 obtain⟨C0,fI,fd,ps,kk,ad,cl,M,hnf,hb,hkk,Fn,har⟩:=q
 have hr:=(C.rom hc).mono hkk
 have hs:=ha.stars
 have pa:=wK ha
 rintro pins s σ H Q I ⟨φ,α,τ,μ,sr,mr,p⟩
 rw[zbm,qD hp]
 refine z6w (thn (sub ho I sr mr p) ?_)
 rintro u s1 ⟨v,H1,t,μ1,α1,I1,r1,st1,sr1,mr1,d1,p1⟩
 refine z6w (z7x ?_)
 have hform:methodCallForm (es.length+([]:List z9F).length) (z8I pos (z7m es X.env)) (z9Q pos (z8L [] X.env))=true:=XE hs hl
 have hpos:z8_ true o X.env apos pos=pure pos:=by unfold z8_;simp[hline]
 have go:∀{ad0 dx:Addr} {gs:List (Str×V)} {t0:T},H1 ad0=some (.ins C0 dx gs)->gs.lookup m=none->u=.ref ad0->(∀α2 H2,Stp α1 H1 α2 H2->Den D φ α2 H2 t0 (.ref ad0))->Post D W φ α1 H1 σ (RV D φ Q) ((evs fs τ μ1).bind λts μ2=>g (t0::ts) μ2)->
   z6I (z6L X.prog X.w) X.A (zaC o m apos pos X.env u (es.length+([]:List z9F).length) (z8I pos (z7m es X.env)) (z9Q pos (z8L [] X.env))) (EP X pins σ Q) X.xe s1:=λ{ad0 dx gs t0} e1 lk hu hd p2=>by
  subst hu
  unfold zaC
  rw[hform]
  refine z6w (z77 (Vg I1 e1 cl M lk ?_))
  refine z6w (z99 hpos ?_)
  have d0:=hd α1 H1 (Stp.refl _ _)
  cases es with
  |nil=>
   cases fs with
   |nil=>exact z8T (first:=[.ref ad0]) I1.kIn M.kp (xS (ts:=[t0]) (us:=[.ref ad0]) (vs:=[.ref ad0]) C Fn hr hb har I1 (.cons rfl .nil) mr1 ⟨_,_,rfl,d0,rfl⟩ p2)
   |cons f fs=>exact ha.elim
  |cons e es=>
   simp only[z7y,z6x] at hs
   refine z82 (first:=[.ref ad0]) (h₀:=X.base) I1.ok.mod.kin M.kp (thn (Y5 pa I1 sr1 mr1 p2) ?_) (za hs.1) (qt hs.2)
   rintro us s2 ⟨vs,H2,ts,μ2,α2,I2,r2,st2,sr2,mr2,d2,_,p3⟩
   exact⟨I2.kIn,xS (ts:=t0::ts) (us:=.ref ad0::us) (vs:=.ref ad0::vs) C Fn hr hb har I2 (.cons rfl r2) mr2 ⟨_,_,rfl,hd α2 H2 st2,d2⟩ p3⟩
 cases t with
 |obj c' gf=>
  obtain⟨hcc,p2⟩:=Post.grd p1
  subst hcc
  obtain⟨ad0,C1,dx,gs,rfl,n1,n2,ad1,e1,l⟩:=id d1
  rw[ad] at ad1;cases ad1
  exact go e1 (yc hnf l) r1 (λα2 H2 st=>d1.step st) p2
 | «mut» i=>
  obtain⟨gf,hi,p2⟩:=Post.ex1 p1
  obtain⟨ad0,hi',rfl⟩:=id d1
  obtain⟨C1,dx,gs,ad1,e1,l⟩:=mr1.ob i ad0 _ hi' hi
  rw[ad] at ad1;cases ad1
  exact go e1 (yc hnf l) r1 (λα2 H2 st=>d1.step st) p2
 |_=>exact Post.elim p1
end
theorem jo{K:z6C}{A:Ads}{cls fld:List (Str×Nat)}{c:Nat}{C:Addr}(hc:chk K A cls fld=true)(h:A.cs.lookup c=some C):Cls K C:=by
 simp only[chk,z6x,z7k] at hc
 obtain⟨⟨⟨c1,c2⟩,c3⟩,c4⟩:=hc
 have h':=(c3 _ (qm h)).1
 simp only[KZ,z6x] at h'
 obtain⟨⟨⟨⟨h1,h2⟩,h3⟩,h4⟩,h5⟩:=h'
 exact⟨h2,h3,h4,yh h5⟩
noncomputable def z3P:ER:=λr Γ e=>match e with
 |.Call (.Name x _) es [] _=>gd ((idx Γ.N x).isNone&&Γ.calm) ((cEs r Γ es).bind λfs=>(match Γ.look x with
  |.mk c false g=>some (Xs c g fs)
  |_=>none))
 |_=>none
theorem UU{D:DP}:EOk D z3P:=by
 intro r H X W Γ k e d C h
 unfold z3P at h
 split at h
 ·rename_i x p0 es pos
  have hh:=zr h
  clear h
  obtain⟨hb,h⟩:=hh
  simp only[z6x] at hb
  obtain⟨fs,h1,h⟩:=bnd h
  cases hl:Γ.look x with
  |mk c b g=>
   cases b with
   |false=>
    simp only[hl] at h
    cases h
    obtain⟨hx,hg⟩:=w5 hl (by intro z;cases z)
    exact KY C hx hg hb.2 (wH H C h1)
   |true=>simp[hl] at h
  |_=>simp[hl] at h
 ·cases h
noncomputable def dot(m:Str):Str:=⟨#[46]++m.cps⟩
noncomputable def z3E:ER:=λr Γ e=>match e with
 |.Call (.Attribute o m pa) es [] pc=>gd (zT o&&pa.endLine == pc.line&&Γ.calm&&decide (es.length<30)&&Γ.U.contains (dot m)) ((r.e Γ o).bind λgo=>(cEs r Γ es).bind λfs=>(match Γ.gl (dot m) with
  |.met c nm g=>gd (nm == m) (some (zS c g go fs))
  |_=>none))
 |_=>none
theorem z08{D:DP}:EOk D z3E:=by
 intro r H X W Γ k e d C h
 unfold z3E at h
 split at h
 ·rename_i o m pa es pc
  have hh:=zr h
  clear h
  obtain⟨hb,h⟩:=hh
  simp only[z6x] at hb
  obtain⟨⟨⟨⟨h0,h2⟩,h3⟩,h4⟩,h5⟩:=hb
  obtain⟨go,h1,h⟩:=bnd h
  obtain⟨fs,h6,h⟩:=bnd h
  cases hl:Γ.gl (dot m) with
  |met c nm g=>
   simp only[hl] at h
   obtain⟨h7,h8⟩:=zr h
   have h7:=beq_iff_eq.mp h7
   subst h7
   cases h8
   exact Uk C (by simpa using h5) hl h3 h0 h2 (of_decide_eq_true h4) (H.e C h1) (wH H C h6)
  |_=>simp[hl] at h
 ·cases h
section
variable {X:Cx}{pins:List (Addr×Obj)}{s:Shared}{σ:St}{H:Hp}
theorem jr{x:Addr}{o:HO}(I:Inv X pins σ H s)(ox:XOk X H x)(hp:∀p∈pins,p.1≠x)(hx:ObjOk X.prog X.w (upd H x o) s.heap x o):Inv X pins σ (upd H x o) s:=by
 have ne:∀b,H b≠none->b≠x:=λb h z=>h (by rw[z];exact ox.free)
 refine⟨I.ok,I.os,I.bare,⟨I.base.keep,I.base.slot,λb o e n hx'=>?_,I.base.there,λb xs e=>?_,λb o u e=>?_,λb ps e=>?_⟩,I.loc,I.cell,?_,λy c e=>?_,λp hp'=>?_,λb ob e=>?_,I.len⟩
 ·have:b≠x:=λz=>by
   rcases ox.new with q|q
   ·exact hx' (by rw[z];exact q)
   ·rw[←z,e] at q;cases q
  rw[z7 this];exact I.base.free b o e n hx'
 ·have q:=I.base.tups b xs e
  rw[z7 (ne b (by rw[q];simp))];exact q
 ·have q:=I.base.frzs b o u e
  rw[z7 (ne b (by rw[q];simp))];exact q
 ·obtain⟨more,q⟩:=I.base.tbls b ps e
  exact⟨more,by rw[z7 (ne b (by rw[q];simp))];exact q⟩
 ·rw[z7 (z6Z ox.loc)];exact I.free
 ·rw[z7 (ox.cel y c e)];exact I.freeC y c e
 ·obtain⟨e,n,r⟩:=I.pin p hp'
  have:p.1≠x:=(z6K.mp hp').elim (ox.pin p) (hp p)
  exact⟨e,by rw[z7 this];exact n,r⟩
 ·by_cases z:b=x
  ·subst z
   rw[z6] at e
   cases e
   exact hx
  ·rw[z7 z] at e
   exact (I.hok b ob e).stay (λ_ _ _ q=>q) (λc q=>by
    by_cases w:c=x
    ·rw[w,ox.free] at q;cases q
    ·rw[z7 w];exact q) λc _ q=>by
    by_cases w:c=x
    ·rw[w,ox.free] at q;cases q
    ·rw[z7 w];exact q
theorem Y7{b:Addr}(f:Q0 X pins H b):XOk X H b/\∀p∈pins,p.1≠b:=
 ⟨⟨f.1,f.2.1,f.2.2.1,f.2.2.2.1.imp id λh=>z7q h,f.2.2.2.2.1,λp hp=>f.2.2.2.2.2 p (z6G _ hp)⟩,λp hp=>f.2.2.2.2.2 p (z6O _ hp)⟩
end
end NH
namespace L2
open PySem PySem.Spec PyProof.Rows
section
variable {κ:Type}[DecidableEq κ]
noncomputable def xw(kvs:List (κ×V))(k:κ):Option V:=(kvs.find? λkv=>decide (kv.1=k)).map (·.2)
noncomputable def putK(kvs:List (κ×V))(k:κ)(v:V):List (κ×V):=
 if (kvs.any λkv=>decide (kv.1=k))=true then kvs.map (λkv=>if kv.1=k then (kv.1,v) else kv) else kvs++[(k,v)]
theorem jZ{p:κ×V}{r:List (κ×V)}{k:κ}(e:p.1=k):xw (p::r) k=some p.2:=by simp[xw,z8y,e]
theorem kr{p:κ×V}{r:List (κ×V)}{k:κ}(e:¬p.1=k):xw (p::r) k=xw r k:=by simp[xw,z8y,e]
theorem Wl(k:κ):∀kvs:List (κ×V),(kvs.any λkv=>decide (kv.1=k))=(xw kvs k).isSome
 |[]=>rfl
 |p::r=>by
  rw[z9q]
  by_cases e:p.1=k
  ·simp only[jZ e,decide_eq_true e,Bool.true_or,Option.isSome_some]
  ·rw[kr e,decide_eq_false e,Bool.false_or];exact Wl k r
theorem vF(kvs:List (κ×V))(k:κ)(v:V):(putK kvs k v).length<=kvs.length+1:=by
 unfold putK
 split
 ·rw[z6Q];omega
 ·rw[z72,z6Y,z7s];omega
theorem RelO.isSome_eq{o:Option V}{u:Option Value}(r:RelO o u):o.isSome=u.isSome:=by
 cases o with
 |none=>cases u with
  |none=>rfl
  |some _=>exact (show False from r).elim
 |some _=>cases u with
  |none=>exact (show False from r).elim
  |some _=>rfl
theorem KV.val{kvs:List (κ×V)}{vs:List (κ×Value)}(r:KV kvs vs)(k:κ):RelO (xw kvs k) (zb9 vs k):=by
 unfold KV at r
 induction r with
 |nil=>exact z7r
 | @cons p q ps qs h t ih=>
  obtain⟨h1,h2⟩:=h
  by_cases e:p.1=k
  ·have e':q.1=k:=h1.symm.trans e
   have b:zb9 (q::qs) k=some q.2:=by simp[zb9,z8y,e']
   rw[jZ e,b];exact h2
  ·have e':¬q.1=k:=λz=>e (h1.trans z)
   have b:zb9 (q::qs) k=zb9 qs k:=by simp[zb9,z8y,e']
   rw[kr e,b];exact ih
theorem KV.any{kvs:List (κ×V)}{vs:List (κ×Value)}(r:KV kvs vs)(k:κ):(kvs.any λkv=>decide (kv.1=k))=vs.any λkv=>decide (kv.1=k):=by
 unfold KV at r
 induction r with
 |nil=>rfl
 |cons h t ih=>rw[z9q,z9q,ih,h.1]
theorem KV.repl{kvs:List (κ×V)}{vs:List (κ×Value)}(r:KV kvs vs)(k:κ){y:V}{u:Value}(ry:RelV y u) :
  KV (kvs.map λkv=>if kv.1=k then (kv.1,y) else kv) (vs.map λkv=>if kv.1=k then (kv.1,u) else kv):=by
 unfold KV at r ⊢
 induction r with
 |nil=>exact .nil
 | @cons p q ps qs h t ih=>
  rw[z7g,z7g]
  refine .cons ?_ ih
  obtain⟨h1,h2⟩:=h
  by_cases e:p.1=k
  ·rw[if_pos e,if_pos (h1.symm.trans e)];exact⟨h1,ry⟩
  ·rw[if_neg e,if_neg (λz=>e (h1.trans z))];exact⟨h1,h2⟩
theorem KV.put{kvs:List (κ×V)}{vs:List (κ×Value)}(r:KV kvs vs)(k:κ){y:V}{u:Value}(ry:RelV y u):KV (putK kvs k y) (stored vs k u):=by
 unfold putK stored
 rw[r.any k]
 by_cases e:(vs.any λkv=>decide (kv.1=k))=true
 ·rw[if_pos e,if_pos e];exact r.repl k ry
 ·rw[if_neg e,if_neg e];exact zdM r ⟨rfl,ry⟩
theorem KV.length{kvs:List (κ×V)}{vs:List (κ×Value)}(r:KV kvs vs):kvs.length=vs.length:=zbh r
end
theorem XS{P:z7a}{w:z7o}{k:Key}{u:Value}(r:RelV (kV k) u):(zN P w).is k u=true:=by
 cases k with
 |inl i=>obtain⟨t,e⟩:=(show ∃t,u=zc6 i t from r);subst e;exact xj P w i t
 |inr x=>obtain⟨t,e⟩:=(show ∃t,u=zc7 x t from r);subst e;exact xa P w x t
theorem Zo{P:z7a}{w:z7o}:∀{ks:List Key} {us:List Value},Vals (ks.map kV) us->ItemsAre (zN P w) ks us
 |[],_,r=>by rw[zbS] at r;cases r;exact .nil
 |k::ks,_,r=>by
  rw[z7g] at r
  cases r with
  |cons h t=>exact .cons (XS h) (Zo t)
abbrev KT(H:Hp):List (List Key×V)->List (List Key×Addr×Value)->Prop:=zas λp q=>p.1=q.1/\H q.2.1=some (.tup (p.1.map kV))/\RelV p.2 q.2.2
theorem KT.val{H:Hp}{kvs:List (List Key×V)}{xs:List (List Key×Addr×Value)}(r:KT H kvs xs)(k:List Key):RelO (xw kvs k) ((zco xs k).map (·.2)):=by
 induction r with
 |nil=>exact z7r
 | @cons p q ps qs h t ih=>
  obtain⟨h1,_,h2⟩:=h
  by_cases e:p.1=k
  ·have e':q.1=k:=h1.symm.trans e
   have b:zco (q::qs) k=some q.2:=by simp[zco,z8y,e']
   rw[jZ e,b];exact h2
  ·have e':¬q.1=k:=λz=>e (h1.trans z)
   have b:zco (q::qs) k=zco qs k:=by simp[zco,z8y,e']
   rw[kr e,b];exact ih
theorem KT.repl{H:Hp}{kvs:List (List Key×V)}{xs:List (List Key×Addr×Value)}(r:KT H kvs xs)(k:List Key){y:V}{u:Value}(ry:RelV y u) :
  KT H (kvs.map λkv=>if kv.1=k then (kv.1,y) else kv) (xs.map (putAt k u)):=by
 induction r with
 |nil=>exact .nil
 | @cons p q ps qs h t ih=>
  rw[z7g,z7g]
  refine .cons ?_ ih
  obtain⟨h1,h2,h3⟩:=h
  unfold putAt
  by_cases e:p.1=k
  ·rw[if_pos e,if_pos (h1.symm.trans e)];exact⟨h1,h2,ry⟩
  ·rw[if_neg e,if_neg (λz=>e (h1.trans z))];exact⟨h1,h2,h3⟩
theorem KT.put{H:Hp}{kvs:List (List Key×V)}{xs:List (List Key×Addr×Value)}(r:KT H kvs xs)(k:List Key){b:Addr}{y:V}{u:Value}(hb:H b=some (.tup (k.map kV)))(ry:RelV y u) :
  KT H (putK kvs k y) (storedH xs k b u):=by
 have e:(kvs.any λkv=>decide (kv.1=k))=(zco xs k).isSome:=by
  rw[Wl,(r.val k).isSome_eq,Option.isSome_map]
 unfold putK storedH
 rw[e]
 by_cases q:(zco xs k).isSome=true
 ·rw[if_pos q,if_pos q];exact r.repl k ry
 ·rw[if_neg q,if_neg q];exact zdM r ⟨rfl,hb,ry⟩
theorem KT.keeps{H H':Hp}{kvs:List (List Key×V)}{xs:List (List Key×Addr×Value)}(r:KT H kvs xs)(ht:∀b ys,H b=some (.tup ys)->H' b=some (.tup ys)):KT H' kvs xs:=
 zas.mapP r λ_ _ z=>⟨z.1,ht _ _ z.2.1,z.2.2⟩
section
variable {P:Program}{w:World}{H:Hp}{h:Heap}{a:Addr}
theorem z1k{u:HO}(ok:HOk P w H h)(e:Rd H a u):ObjOk P w H h a u:=e.ok ok
theorem VX{kvs:List (Key×V)}(ok:HOk P w H h)(e:Rd H a (.dK kvs)):kvs.length<=sizeLine/\(a == z8r)=false/\∃vs,KV kvs vs/\h.DictOf (zN P w) a vs:=
 show ObjOk P w H h a (.dK kvs) from z1k ok e
theorem U7{kvs:List (Key×V)}(ok:HOk P w H h)(e:H a=some (.dK kvs)):kvs.length<=sizeLine/\(a == z8r)=false/\∃vs,KV kvs vs/\h.DictOf (zN P w) a vs:=VX ok (.inl e)
theorem Vt{ks:List Key}(ok:HOk P w H h)(e:H a=some (.tup (ks.map kV))):(zb7 (zN P w)).is h ks a:=by
 obtain⟨_,its,r,o,h1,h2,n,h3⟩:=(show ObjOk P w H h a (.tup (ks.map kV)) from ok a _ e)
 exact⟨o,its.toArray,n,h1,h2,h3,by simpa using Zo r⟩
theorem Jb{kvs:List (List Key×V)}(ok:HOk P w H h)(e:Rd H a (.dT kvs)):kvs.length<=sizeLine/\(a == z8r)=false/\
  ∃xs,KT H kvs xs/\h.DictOfH (zb7 (zN P w)) a xs:=by
 obtain⟨z,y,xs,r,o,es,ep,h1,h2,h3,h4,h5⟩:=(show ObjOk P w H h a (.dT kvs) from z1k ok e)
 refine⟨z,y,xs,r,o,es,ep,h1,h2,h3,h4,λx hx=>?_,h5⟩
 have all:∀{l:List (List Key×V)} {m:List (List Key×Addr×Value)},KT H l m->∀x∈m,(zb7 (zN P w)).is h x.1 x.2.1:=by
  intro l m q
  induction q with
  |nil=>intro x hx;exact nomatch hx
  | @cons p q ps qs hq t ih=>
   intro x hx
   rcases z75.mp hx with e|hx
   ·subst e
    exact Vt ok (by rw[←hq.1];exact hq.2.1)
   ·exact ih x hx
 exact all r x hx
theorem z4N{kvs:List (List Key×V)}(ok:HOk P w H h)(e:H a=some (.dT kvs)):kvs.length<=sizeLine/\(a == z8r)=false/\
  ∃xs,KT H kvs xs/\h.DictOfH (zb7 (zN P w)) a xs:=Jb ok (.inl e)
end
noncomputable def DGet (H:Hp)(a:Addr)(y:V)(r:Option V):Prop:=
 (∃kvs k,Rd H a (.dK kvs)/\y=kV k/\r=xw kvs k)\/∃kvs k b,Rd H a (.dT kvs)/\y=.ref b/\H b=some (.tup (k.map kV))/\r=xw kvs k
noncomputable def DPut (H:Hp)(a:Addr)(y v:V)(H':Hp):Prop:=
 (∃kvs k,H a=some (.dK kvs)/\y=kV k/\kvs.length<sizeLine/\H'=upd H a (.dK (putK kvs k v)))\/
 ∃kvs k b,H a=some (.dT kvs)/\y=.ref b/\H b=some (.tup (k.map kV))/\kvs.length<sizeLine/\H'=upd H a (.dT (putK kvs k v))
theorem DGet.k{H:Hp}{a:Addr}{kvs:List (Key×V)}{k:Key}(e:H a=some (.dK kvs)):DGet H a (kV k) (xw kvs k):=.inl ⟨kvs,k,.inl e,rfl,rfl⟩
theorem DPut.k{H:Hp}{a:Addr}{kvs:List (Key×V)}{k:Key}{v:V}(e:H a=some (.dK kvs))(hl:kvs.length<sizeLine):DPut H a (kV k) v (upd H a (.dK (putK kvs k v))):=.inl ⟨kvs,k,e,rfl,hl,rfl⟩
section
variable {X:Cx}{pins:List (Addr×Obj)}{σ:St}{H:Hp}{s:Shared}{a:Addr}{y v:V}{u r:Value}{o:Option V}{A:Around}{E:Value->Shared->Prop}
theorem Jo{Q:Value->z6z->Prop}(hu:A.units+1<cLine)(I:Inv X pins σ H s)(g:DGet H a y (some v))(ry:RelV y u)(h:∀w' s',Inv X pins σ H s'->RelV v w'->Q w' s') :
  z6I (z6L X.prog X.w) A (z9o (.ref a) u) Q E s:=by
 rcases g with⟨kvs,k,e,ey,l⟩|⟨kvs,k,b,e,ey,eb,l⟩
 ·subst ey
  obtain⟨z,hd,vs,rel,dd⟩:=VX I.hok e
  obtain⟨w',hw,rw'⟩:=RelO.some_of (v:=v) (o:=zb9 vs k) (by rw[l];exact rel.val k)
  exact wpAny_getItem_of (XS ry) dd.mapOf hw (h w' _ (I.tok _) rw')
 ·subst ey
  cases (show u=z6W b from ry)
  obtain⟨z,hd,xs,rel,dd⟩:=Jb I.hok e
  obtain⟨w',hw,rw'⟩:=RelO.some_of (v:=v) (o:=(zco xs k).map (·.2)) (by rw[l];exact rel.val k)
  obtain⟨p,hp,hp2⟩:=z8w.mp hw
  refine wpAny_getItem_heap (zbD hu) (Vt I.hok eb) dd hp ?_
  rw[hp2]
  exact h w' _ (I.tok _) rw'
theorem ZW{h':Heap}{t':Nat}{ob:HO}(I:Inv X pins σ H s)(mu:Mut (H a))(hs:z7p a s.heap h')(he:∃q,h'.get? a=some q)(new:ObjOk X.prog X.w (upd H a ob) h' a ob) :
  Inv X pins σ (upd H a ob) {s with heap:=h',toks:=t'}:=
 I.write (x:=a) (e:=a) mu (.inl rfl) (λb q hb z=>(hs.2 b hb).trans z) he new
theorem Yz{P:z7a}{w:z7o}{H':Hp}{h':Heap}{kvs:List (Key×V)}{vs:List (Key×Value)}(z:kvs.length<=sizeLine)(hd:(a == z8r)=false)(rel:KV kvs vs)(dd:h'.DictOf (zN P w) a vs) :
  ObjOk P w H' h' a (.dK kvs):=⟨z,hd,vs,rel,dd⟩
theorem JS{H':Hp}{Q:Unit->z6z->Prop}(hu:A.units+1<cLine)(I:Inv X pins σ H s)(g:DPut H a y v H')(ry:RelV y u)(rv:RelV v r)(h:∀s',Inv X pins σ H' s'->Q () s') :
  z6I (z6L X.prog X.w) A (setItem (.ref a) u r) Q E s:=by
 rcases g with⟨kvs,k,e,ey,l,eH⟩|⟨kvs,k,b,e,ey,eb,l,eH⟩
 ·subst ey eH
  obtain⟨z,hd,vs,rel,dd⟩:=U7 I.hok e
  have hz:vs.length<=sizeLine:=by rw[←rel.length];exact z
  have hl:(putK kvs k v).length<=sizeLine:=by have:=vF kvs k v;omega
  refine wpAny_setItem_pairs (hsz:=hz) (XS ry) dd λh' dd' hs=>h _ ?_
  have he:∃q,h'.get? a=some q:=let ⟨q,_,_,hq,_⟩:=dd';⟨q,hq⟩
  exact ZW I (by rw[e];exact z7r) hs he (Yz hl hd (rel.put k rv) dd')
 ·subst ey eH
  cases (show u=z6W b from ry)
  obtain⟨z,hd,xs,rel,dd⟩:=z4N I.hok e
  have hz:xs.length<=sizeLine:=by rw[←zbh rel];exact z
  have hl:(putK kvs k v).length<=sizeLine:=by have:=vF kvs k v;omega
  refine wpAny_setItem_heap (hsz:=hz) (zbD hu) (Vt I.hok eb) dd λh' dd' hs=>h _ ?_
  obtain⟨q,es,ep,hq,h2,h3,h4,_,h5⟩:=dd'
  refine ZW I (by rw[e];exact z7r) hs ⟨q,hq⟩ ⟨hl,hd,_,(rel.put k eb rv).keeps λc ys ec=>?_,q,es,ep,hq,h2,h3,h4,h5⟩
  rw[z7 (z5n ec e (λz=>nomatch z))]
  exact ec
end
noncomputable def z0f(i:Expr):Prop:=∀ov iv,zaZ i false ov iv=operate [ov,iv] (z9o ov iv)
theorem z0U{prog:z7a}{w:z7o}{A:z7b}{E:Value->z6z->Prop}{s:z6z}{env:Env}{value slice:Expr}{pos:Pos}{T id:String}{Q:Value->z6z->Prop}
  (hl:zax (.type T) "__getitem__"=pure (some (.builtin id))) (hs:z0f slice)
  (h:z6I (z6L prog w) A (eval value env) (λo s₁=>z6I (z6L prog w) A (eval slice env) (λi s₂=>s₂.TypeIs o T/\z6I (z6L prog w) A (z9o o i) Q E s₂) E s₁) E s) :
  z6I (z6L prog w) A (eval (.Subscript value slice pos) env) Q E s:=by
 refine zcO (z7f h (λo s₁ h₁=>z7f h₁ (λi s₂ h₂=>?_) λ_ _ x=>x) λ_ _ x=>x)
 obtain⟨hT,h₂⟩:=h₂
 unfold zbk
 refine z6w ?_
 rw[getitemInPython_of_ne hT.not_modules]
 refine z6w (wpAny_specialOf hT hl ?_)
 have fin:z6I (z6L prog w) A (zaZ slice false o i) (λr s₃=>z6I (z6L prog w) A (letTemporaryGo value o r >>= λ_=>pure r) Q E s₃) E s₂:=by
  rw[hs o i]
  exact wpAny_operating (z7f h₂ (λr s₃ h₃=>z6w (wpAny_letTemporaryGo (z6F h₃))) λ_ _ x=>x)
 first
  |exact z6F (z6w fin)
  |exact z6w (z6F (z6w fin))
  |exact z6w fin
theorem Qm{X:Cx}{pins:List (Addr×Obj)}{σ:St}{H:Hp}{s:z6z}{a:Addr}{y:V}{o:Option V}(I:Inv X pins σ H s)(g:DGet H a y o):s.TypeIs (.ref a) "dict":=by
 rcases g with⟨kvs,k,e,_,_⟩|⟨kvs,k,b,e,_,_,_⟩
 ·obtain⟨_,_,vs,_,dd⟩:=VX I.hok e
  exact dd.typeIs
 ·obtain⟨_,_,xs,_,dd⟩:=Jb I.hok e
  exact dd.typeIs
noncomputable def z4x(td ty:TE):TE:=λσ H Q=>td σ H λx H1=>ty σ H1 λy H2=>∃a v,x=.ref a/\DGet H2 a y (some v)/\Q v H2
section
variable {X:Cx}{o i e value:Expr}{pos pos' tpos:Pos}{td ty tv:TE}
theorem z0b(hu:X.A.units+1<cLine)(ho:PE X o td)(hi:PE X i ty)(hs:z0f i):PE X (.Subscript o i pos) (z4x td ty):=by
 intro pins s σ H Q I h
 refine z0U PySem.F.slot_dict_getitem.lookup hs (thn (ho pins s σ H _ I h) λu s1 ⟨x,H1,I1,rx,q1⟩=>thn (hi pins s1 σ H1 _ I1 q1) λiv s2 ⟨y,H2,I2,ry,a,v,ex,g,q2⟩=>?_)
 subst ex
 obtain rfl:u=z6W a:=rx
 exact⟨Qm I2 g,Jo hu I2 g ry λw' s3 I3 rw'=>⟨v,H2,I3,rw',q2⟩⟩
end
noncomputable def jn(kvs more:List (Key×V)):List (Key×V):=more.foldl (λacc kv=>putK acc kv.1 kv.2) kvs
theorem KV.merge:∀{more:List (Key×V)} {rs:List (Key×Value)} {kvs:List (Key×V)} {vs:List (Key×Value)},KV more rs->KV kvs vs->KV (jn kvs more) (merged vs rs):=by
 intro more rs kvs vs r
 unfold KV at r
 induction r generalizing kvs vs with
 |nil=>intro q;exact q
 | @cons p q ps qs h t ih=>
  intro r0
  have e:KV (putK kvs p.1 p.2) (stored vs q.1 q.2):=by
   have:=r0.put p.1 h.2
   rw[←h.1];exact this
  exact ih e
theorem jg:∀(more kvs:List (Key×V)),(jn kvs more).length<=kvs.length+more.length
 |[],kvs=>by show kvs.length<=kvs.length+0;omega
 |p::r,kvs=>by
  have h1:=jg r (putK kvs p.1 p.2)
  have h2:=vF kvs p.1 p.2
  show (jn (putK kvs p.1 p.2) r).length<=_
  rw[z6Y];omega
structure M1(X:Cx)(o:Expr)(m:Str)(apos:Pos)(e:Expr)(cpos:Pos):Prop where
 base:z8U o m X.env (eval o X.env)=eval o X.env
 few:((z8I cpos (z7m [e] X.env)).all (λx=>!x.1)&&(z9Q cpos (z8L [] X.env)).all (λx=>x.1.isSome)
  &&decide (([e]:List Expr).length+([]:List z9F).length+(if ([]:List z9F).isEmpty then 0 else 1)<30))=true
 line:(apos.endLine == cpos.line)=true
 trees:z8I cpos (z7m [e] X.env)=[(false,eval e X.env)]
noncomputable def IsD (H:Hp)(a:Addr):Prop:=(∃kvs,Rd H a (.dK kvs))\/∃kvs,Rd H a (.dT kvs)
theorem z3M{X:Cx}{pins:List (Addr×Obj)}{σ:St}{H:Hp}{s:z6z}{a:Addr}(I:Inv X pins σ H s)(d:IsD H a) :
  s.TypeIs (.ref a) "dict"/\(∀b,z6W a=.ref b->∃ob,s.heap.get? b=some ob/\ob.dict=none)/\(a == z8r)=false:=by
 rcases d with⟨kvs,e⟩|⟨kvs,e⟩
 ·obtain⟨_,hd,vs,_,dd⟩:=VX I.hok e
  refine⟨dd.typeIs,λb q=>?_,hd⟩
  cases q
  obtain⟨ob,_,_,h1,h2,_⟩:=dd
  exact⟨ob,h1,h2.2.1⟩
 ·obtain⟨_,hd,xs,_,dd⟩:=Jb I.hok e
  refine⟨dd.typeIs,λb q=>?_,hd⟩
  cases q
  obtain⟨ob,_,_,h1,h2,_⟩:=dd
  exact⟨ob,h1,h2.2.1⟩
end L2
namespace NH
open PySem PySem.Spec PyProof.Rows L2
noncomputable def xt(z:Key):List (Key×T)->Option T
 |[]=>none
 |p::r=>if p.1=z then some p.2 else xt z r
noncomputable def Y8 (z:Key)(t:T)(kvs:List (Key×T)):List (Key×T):=
 if (kvs.any λkv=>decide (kv.1=z))=true then kvs.map (λkv=>if kv.1=z then (kv.1,t) else kv) else kvs++[(z,t)]
noncomputable abbrev z4A:De:=λ_ μ=>.ok (.dic []) μ
noncomputable abbrev z6r(o f:De):De:=λτ μ=>(o τ μ).bind λot μ1=>match ot with
 |.mut i=>λK Z=>(∃kvs,μ1[i]?=some (.dic kvs))/\f τ μ1 (λkt μ2=>match kt with
  |.str z=>∃kvs,μ2[i]?=some (.dic kvs)/\K ((xt (.inr z) kvs).getD .non) μ2
  |_=>False) Z
 |_=>.st
noncomputable abbrev uj(o b f:De):Ds:=λτ μ=>(f τ μ).out τ λt μ1=>(o τ μ1).out τ λot μ2=>(b τ μ2).out τ λit μ3=>match ot,it with
 |.mut i,.int k=>λE=>∃ts,μ3[i]?=some (.lst ts)/\(0<=k/\k<ts.length/\k<9223372036854775808)/\E.nx τ (μ3.set i (.lst (ts.set k.toNat t)))
 |.mut i,.str z=>λE=>∃kvs,μ3[i]?=some (.dic kvs)/\kvs.length<room/\E.nx τ (μ3.set i (.dic (Y8 (.inr z) t kvs)))
 |_,_=>.st
noncomputable abbrev z5W(o f g:De):De:=λτ μ=>(o τ μ).bind λot μ1=>match ot with
 |.mut i=>λK Z=>(∃ts,μ1[i]?=some (.lst ts))/\f τ μ1 (λkt μ2=>g τ μ2 (λt μ3=>match kt with
  |.int k=>∃ts,μ3[i]?=some (.lst ts)/\(0<=k/\k<=ts.length/\ts.length<room)/\K .non (μ3.set i (.lst (ts.take k.toNat++t::ts.drop k.toNat)))
  |_=>False) Z) Z
 |_=>.st
section
variable {X:Cx}{D:DP}{W:XW}{Γ:Cn}{k:Nat}{pins:List (Addr×Obj)}{s:Shared}{σ:St}{H:Hp}{φ α:List Addr}{τ:Sl}{μ:Mem}{f g:De}{a b:Expr}{pos:Pos}
theorem W9{z:Key}:∀{kvs:List (Key×T)} {gs:List (Key×V)},DenK D φ α H kvs gs->(gs.any λkv=>decide (kv.1=z))=(kvs.any λkv=>decide (kv.1=z))
 |[],_,h=>by cases h;rfl
 |p::r,_,h=>by
  obtain⟨v,q,rfl,d,l⟩:=h
  rw[z9q,z9q,W9 l]
theorem ku:∀{kvs:List (Key×T)} {gs:List (Key×V)},DenK D φ α H kvs gs->gs.length=kvs.length
 |[],_,h=>by cases h;rfl
 |p::r,_,h=>by
  obtain⟨v,q,rfl,d,l⟩:=h
  rw[z6Y,z6Y,ku l]
theorem yg{z:Key}{t:T}{w:V}(dt:Den D φ α H t w):∀{kvs:List (Key×T)} {gs:List (Key×V)},DenK D φ α H kvs gs->DenK D φ α H (kvs.map λkv=>if kv.1=z then (kv.1,t) else kv) (gs.map λkv=>if kv.1=z then (kv.1,w) else kv)
 |[],_,h=>by cases h;rfl
 |p::r,_,h=>by
  obtain⟨v,q,rfl,d,l⟩:=h
  rw[z7g,z7g]
  by_cases e:p.1=z
  ·rw[if_pos e,if_pos (show (p.1,v).1=z from e)];exact⟨w,_,rfl,dt,yg dt l⟩
  ·rw[if_neg e,if_neg (show ¬(p.1,v).1=z from e)];exact⟨v,_,rfl,d,yg dt l⟩
theorem uO{z:Key}{t:T}{w:V}(dt:Den D φ α H t w):∀{kvs:List (Key×T)} {gs:List (Key×V)},DenK D φ α H kvs gs->DenK D φ α H (kvs++[(z,t)]) (gs++[(z,w)])
 |[],_,h=>by cases h;exact⟨w,[],rfl,dt,rfl⟩
 |p::r,_,h=>by
  obtain⟨v,q,rfl,d,l⟩:=h
  exact⟨v,_,rfl,d,uO dt l⟩
theorem Wo{z:Key}{t:T}{w:V}{kvs:List (Key×T)}{gs:List (Key×V)}(dt:Den D φ α H t w)(h:DenK D φ α H kvs gs):DenK D φ α H (Y8 z t kvs) (putK gs z w):=by
 unfold Y8 putK
 rw[W9 h]
 split
 ·exact yg dt h
 ·exact uO dt h
theorem z0r(hu:X.A.units+1<cLine):z2j X (λo i v H Q=>(∃l k xs,o=.ref l/\i=.int k/\H l=some (.lst xs)/\0<=k/\k<xs.length/\k<9223372036854775808/\Q (upd H l (.lst (xs.set k.toNat v))))\/(∃l gs z,o=.ref l/\i=.str z/\H l=some (.dK gs)/\gs.length<sizeLine/\Q (upd H l (.dK (putK gs (.inr z) v))))):=by
 intro pins s σ H o i v ov iv u Q I ro ri rv h
 rcases h with h|⟨l,gs,z,rfl,rfl,hH,hl,q⟩
 ·exact set_list pins s σ H o i v ov iv u Q I ro ri rv h
 ·cases ro
  exact JS hu I (DPut.k (k:=.inr z) hH hl) (show RelV (kV (.inr z)) iv from ri) rv λs4 I4=>⟨_,I4,q⟩
theorem UG(C:Sk D W Γ X k){o:Expr}{p1:Pos}{fo fb:De}(hb':qC b=true)(ha:PE X a (rdE D W f))(ho:PE X o (rdE D W fo))(hb:PE X b (rdE D W fb)) :
  PS X (.Assign [.Subscript o b p1] a pos) (rdS D W (uj fo fb f)):=by
 rintro pins s σ H E I ⟨φ,α,τ,μ,sr,mr,p⟩
 have h1:za8 [.Subscript o b p1] a pos.line X.env=pure false:=by cases a<;>rfl
 have h2:za9 [.Subscript o b p1] a X.env=pure none:=by cases a<;>rfl
 refine WG ha (Yi ho hb (z0r (by have:=C.toCk.unt;omega)) (λv=>by cases b<;>first|(simp[qC] at hb';done)|rfl)) h1 h2 rfl pins s σ H E I ⟨φ,α,τ,μ,sr,mr,(PostS.out sr p).mono λt μ1 α1 H1 st1 m1 q v d=>?_⟩
 have sr1:=sr.step st1
 refine⟨φ,α1,τ,μ1,sr1,m1,(PostS.out sr1 q).mono λot μ2 α2 H2 st2 m2 q2 ov dv=>?_⟩
 have sr2:=sr1.step st2
 refine⟨φ,α2,τ,μ2,sr2,m2,(PostS.out sr2 q2).mono λit μ3 α3 H3 st3 m3 q3 iv di=>?_⟩
 have d3:=(d.step st2).step st3
 have dv:=dv.step st3
 cases ot with
 | «mut» i=>
  obtain⟨x,hx,rfl⟩:=dv
  cases it with
  |int kk=>
   obtain⟨ts,hμ,hk,q3⟩:=PostS.ex1 q3
   have di:iv=.int kk:=di
   subst di
   obtain⟨xs,hH,l⟩:=m3.ob i x _ hx hμ
   have st4:Stp α3 H3 α3 (upd H3 x (.lst (xs.set kk.toNat v))):=Stp.turn (z6M hx) ⟨_,hH⟩
   have hi:i<μ3.length:=(z6v.mp hμ).1
   exact .inl ⟨x,kk,xs,rfl,rfl,hH,hk.1,by rw[←l.length];exact hk.2.1,hk.2.2,PostS.nx q3 st4 (m3.turn hx hi st4 ⟨_,z6,DenL.set (l.step st4) (d3.step st4)⟩) ((sr2.step st3).step st4)⟩
  |str z=>
   obtain⟨kvs,hμ,hk,q3⟩:=PostS.ex1 q3
   have di:iv=.str z:=di
   subst di
   obtain⟨gs,hH,l⟩:=m3.ob i x _ hx hμ
   have st4:Stp α3 H3 α3 (upd H3 x (.dK (putK gs (.inr z) v))):=Stp.turn (z6M hx) ⟨_,hH⟩
   have hi:i<μ3.length:=(z6v.mp hμ).1
   exact .inr ⟨x,gs,z,rfl,rfl,hH,by rw[ku l];exact z6N hk (zA (z6E _)),PostS.nx q3 st4 (m3.turn hx hi st4 ⟨_,z6,Wo (d3.step st4) (l.step st4)⟩) ((sr2.step st3).step st4)⟩
  |_=>exact PostS.elim q3
 |_=>exact PostS.elim q3
end
noncomputable def z6s:ER:=λ_ _ e=>match e with
 |.Dict [] [] _=>some z4A
 |_=>none
noncomputable def z6t:ER:=λr Γ e=>match e with
 |.Call (.Attribute o m pa) [a,b] [] pc=>gd (m == ("insert":Str)&&zT o&&noStar a&&noStar b&&pa.endLine == pc.line) ((r.e Γ o).bind λgo=>(r.e Γ a).bind λf=>(r.e Γ b).bind λg=>some (z5W go f g))
 |_=>none
noncomputable def Vs:SR:=λr Γ s=>match s with
 |.Assign [.Subscript o b _] e _=>gd (qC b) ((r.e Γ o).bind λfo=>(r.e Γ b).bind λfb=>(r.e Γ e).bind λf=>some (uj fo fb f))
 |_=>none
theorem JI{D:DP}:SOk D Vs:=by
 intro r H X W Γ k e d C h
 unfold Vs at h
 split at h
 ·obtain⟨hb,h1⟩:=zr h
  obtain⟨fo,e1,h1⟩:=bnd h1
  obtain⟨fb,e2,h1⟩:=bnd h1
  obtain⟨f,e3,h1⟩:=bnd h1
  cases h1
  exact UG C hb (H.e C.toCk e3) (H.e C.toCk e1) (H.e C.toCk e2)
 ·cases h
end NH
namespace NH.P
open PySem L2 NH
@[reducible] noncomputable def yt:List Ds:=[(zp (Jx (xY [2] (eV 0)) (z3s (xY [1] (eV 0)))))]
noncomputable def qO:Fn:=fnW 1 0 yt
@[reducible] noncomputable def Zy:List Ds:=[(zp (Jx (zb qO [(eV 0)]) (zv .GtE (eV 0) (eC (.int 1)))))]
noncomputable def wy:Fn:=fnW 1 0 Zy
@[reducible] noncomputable def ug:List Ds:=[(zp (Jx (zb qO [(eV 0)]) (eCh (eC (.int 0)) [(.LtE,(eV 0)),(.Lt,(eV 1))])))]
noncomputable def qE:Fn:=fnW 2 0 ug
@[reducible] noncomputable def kj:List Ds:=[(sIf (vE (vX (tE (zb wy [(eV 1)])) (vX (tE (zb wy [(eV 2)])) (tE (zb wy [(eV 3)]))))) [(qx 12 [(eC (.str "a shape has three whole numbers from 1 on"))])] []),(qI (eV 0) 0 (eV 1)),(qI (eV 0) 1 (eV 2)),(qI (eV 0) 2 (eV 3))]
noncomputable def vg:Fn:=fnW 4 0 kj
@[reducible] noncomputable def ui:List Ds:=[(zp (ze .Mult (ze .Mult (zi (eV 0) 0) (zi (eV 0) 1)) (zi (eV 0) 2)))]
noncomputable def ki:Fn:=fnW 1 0 ui
@[reducible] noncomputable def uM:List Ds:=[(zp (zb qE [(eV 1),(zb ki [(eV 0)])]))]
noncomputable def xH:Fn:=fnW 2 0 uM
@[reducible] noncomputable def ke:List Ds:=[(sIf (vE (tE (zb xH [(eV 0),(eV 1)]))) [(qx 13 [(eC (.str "no name of the shape"))])] [])]
noncomputable def vm:Fn:=fnW 2 0 ke
@[reducible] noncomputable def xm:List Ds:=[(sIf (tE (zv .Lt (eV 1) (eB1 ur (eV 0)))) [(zp (eIx (eV 0) (eV 1)))] []),(zp (eC (.int 0)))]
noncomputable def wZ:Fn:=fnW 2 0 xm
@[reducible] noncomputable def y4:List Ds:=[(zF (zb vm [(eV 0),(eV 1)])),(zj 2 (ze .Mod (eV 1) (zi (eV 0) 2))),(zj 3 (ze .FloorDiv (eV 1) (zi (eV 0) 2))),(zp (qZ [(ze .FloorDiv (eV 3) (zi (eV 0) 1)),(ze .Mod (eV 3) (zi (eV 0) 1)),(eV 2)]))]
noncomputable def vH:Fn:=fnW 2 2 y4
end NH.P
namespace NH
open PySem PySem.Spec PyProof.Rows L2
section
variable {X:Cx}{D:DP}{W:XW}{Γ:Cn}{k:Nat}{pins:List (Addr×Obj)}{s:Shared}{σ:St}{H:Hp}{φ α:List Addr}{τ:Sl}{μ:Mem}{fs:List De}{a b c:Expr}{pos:Pos}{es:List Expr}
noncomputable def z67(m:Str):Str:=⟨#[33]++m.cps⟩
end
section
variable {X:Cx}{D:DP}{W:XW}{Γ:Cn}{k:Nat}{pins:List (Addr×Obj)}{s:Shared}{σ:St}{H:Hp}{φ α:List Addr}{τ:Sl}{μ:Mem}
theorem Qt{q:Addr}{o:Obj}(I:Inv X pins σ H s)(h1:s.heap.get? q=some o)(h2:H q=none)(h3:q≠X.env.locals)(h4:q∉X.fs)(h5:∀v,o.data≠.cell v):Inv X ((q,o)::pins) σ H s:=
 ⟨I.ok,I.os,I.bare,I.base,I.loc,I.cell,I.free,I.freeC,λp hp=>by
  rcases z6K.mp hp with z|z
  ·exact I.pin p (z6G _ z)
  ·rcases z75.mp z with rfl|z
   ·exact⟨h1,h2,h3,h4,h5⟩
   ·exact I.pin p (z6O _ z),I.hok,I.len⟩
theorem Vd{p:Addr×Obj}(I:Inv X (p::pins) σ H s):Inv X pins σ H s:=
 ⟨I.ok,I.os,I.bare,I.base,I.loc,I.cell,I.free,I.freeC,λp hp=>by
  rcases z6K.mp hp with z|z
  ·exact I.pin p (z6G _ z)
  ·exact I.pin p (z6O _ (z6H _ z)),I.hok,I.len⟩
theorem JP{P:z7a}{w:z7o}{H:Hp}{h:Heap}{c:Addr}{qn:Str}(r:h.CodeRec (.ref c) qn):ObjOk P w H h c (.ext (wI c qn)):=by
 obtain⟨c',oc,vs,tq,e1,e2,e3,e4⟩:=id r
 cases e1
 refine⟨r,⟨oc,e2⟩,λh1 h2 p kk=>?_⟩
 obtain⟨c',oc,vs,tq,e1,e2,e3,e4⟩:=p
 cases e1
 exact⟨c,oc,vs,tq,rfl,kk _ e2,e3,e4⟩
theorem ko{a b c:Value}:∀(l:List Value),z9H l->∀{x y:Int} {t u:Tok},z9H (l++[.int x t,.int y u,c])
 |[],_,_,_,_,_=>trivial
 |[_],h,_,_,_,_=>by simp[z9H] at h
 |[_,_],h,_,_,_,_=>by simp[z9H] at h
 |p::q::r::l,h,x,y,t,u=>by
  cases p with
  |int _ _=>
   cases q with
   |int _ _=>exact ko (a:=a) (b:=b) l h
   |_=>exact h.elim
  |_=>exact h.elim
theorem WM{pos p:Pos}{c:Value}:∀(l:List Value),z9H l->z96 pos l=none->z96 p (l++[z7t pos.line,z7t pos.col,c])=some c\/z96 p (l++[z7t pos.line,z7t pos.col,c])=z96 p l:=by
 intro l h hn
 fun_induction z9H l with
 |case1=>
  by_cases q:((pos.line:Int) == (p.line:Int)&&(pos.col:Int) == (p.col:Int))=true
  ·left;simp only[z9y,z96,z7t];rw[if_pos q]
  ·right;simp only[z9y,z96,z7t];rw[if_neg q]
 |case2 a t b u x rest ih=>
  simp only[zci,z96] at hn ⊢
  split at hn
  ·cases hn
  ·split
   ·exact .inr rfl
   ·exact ih h hn
 |case3 l h1 h2=>exact h.elim
theorem Yq{params:Arguments}{body:Expr}{scope:Scope}{pos:Pos}{line i j:Nat}{qn:Str}{c P:Addr}{Q:Value->z6z->Prop}(I:Inv X pins σ H s)(mr:MRel D φ α H μ)(hi:μ[i]?=some (.tab j)){poss:List Pos}(hD:D.tabs j=some (P,poss,qn))(hpp:pos∈poss)
  (hcode:X.env.code=.ref c) (hC:z9S X.base c P) (hB:X.base.BuiltinsAt X.mg P) {cl:List (Str×Addr)} (hcl:zbA scope X.env=pure cl)
  (h:∀q c' ctv H' s',Inv X ((q,z8x "<lambda>" qn params body scope cl ((X.mg "__name__").getD .none) c' ctv)::pins) σ H' s'->Stp α H α H'->MRel D φ α H' μ->c'∉α->H' c'=some (.ext (wI c' qn))->(c'∉φ/\XOk X H' q/\∀p∈pins,p.1≠q)->Q (.ref q) s') :
  z6I (z6L X.prog X.w) X.A (makeFunction "<lambda>" qn params (.expr body) scope X.env [] [] [] pos line) Q X.xe s:=by
 have hia:∃a,α[i]?=some a:=⟨_,z8i (by rw[mr.len];exact (z6v.mp hi).1)⟩
 obtain⟨a,ha⟩:=hia
 obtain⟨pos',qn',ps,hD',hH,htr,hall⟩:=mr.ob i a _ ha hi
 rw[hD] at hD'
 cases hD'
 have hcase:=hall pos hpp
 have hP:s.heap.get? P=some (z9W ps):=I.hok P _ hH
 have hg:s.heap.Ns z6T X.mg:=I.ok.mod.glob.keeps I.bk
 have hCs:z9S s.heap c P:=hC.keeps I.bk
 have hBs:s.heap.BuiltinsAt X.mg P:=by
  obtain⟨bm,o,b1,b2,b3,b4,b5,b6⟩:=hB
  exact⟨bm,o,b1,b2,b3,b4,I.bk _ _ b5,b6⟩
 have hPa:P∈α:=z6M ha
 have nL:X.env.locals≠P:=λz=>by have:=I.free;rw[z,hH] at this;cases this
 rcases hcase with hmiss|⟨c',hhit,n1,n2,hc'⟩
 ·have hgP:z6T≠P:=λz=>by
   obtain⟨o,es,ep,e,hd,_⟩:=hg
   rw[z,hP] at e;cases e;cases hd
  refine PySem.W.kla_makeFunction (mg:=X.mg) hcl I.ok.glob hg hcode hCs hP htr hmiss hgP hBs λc' ctv h' tk hx hge hlt hrec htb=>?_
  have hc0:H c'=none:=I.hok.fresh hge
  have hcP:c'≠P:=λz=>by rw[z,hH] at hc0;cases hc0
  have lt_of:∀{b o},s.heap.get? b=some o->b≠c':=λ{b o} e z=>absurd (z6N (z6R e) hge) (by rw[z];exact z8e _)
  generalize hH':upd (upd H c' (.ext (wI c' qn))) P (.tbl (ps++#[z7t pos.line,z7t pos.col,.ref c']))=H'
  have HP:H' P=some (.tbl (ps++#[z7t pos.line,z7t pos.col,.ref c'])):=by rw[←hH'];exact z6
  have Hc:H' c'=some (.ext (wI c' qn)):=by rw[←hH',z7 hcP];exact z6
  have Ho:∀b,b≠P->b≠c'->H' b=H b:=λb h1 h2=>by rw[←hH',z7 h1,z7 h2]
  have Hs:∀b o,b≠P->H b=some o->H' b=some o:=λb o h1 e=>by rw[Ho b h1 (zJ e hc0)];exact e
  have rec2:(h'.push (z8x "<lambda>" qn params body scope cl ((X.mg "__name__").getD .none) c' ctv)).CodeRec (.ref c') qn:=by
   obtain⟨c2,oc,vs,tq,e1,e2,e3⟩:=hrec
   exact⟨c2,oc,vs,tq,e1,z6y _ e2,e3⟩
  have J:Inv X pins σ H' {s with heap:=h'.push (z8x "<lambda>" qn params body scope cl ((X.mg "__name__").getD .none) c' ctv),toks:=tk}:=by
   refine I.step (g':=s.gens) (d':=s.drawn) (ch:=[]) (λ_ z=>nomatch z) (λb o _ _ _ e n=>?_) (λb o _ _ _ e n=>⟨o.slots,?_⟩) (λb o _ e n=>?_) (λb o _ e=>?_) (λb xs e=>?_) (λb o u e=>?_) (λb qs e=>?_) (λm hm=>?_) (λb u e=>?_) I.bare
   ·exact z6y _ (hx b o (λz=>by rw[z,hH] at n;cases n) e)
   ·exact z6y _ (hx b o (λz=>by rw[z,hH] at n;cases n) e)
   ·rw[Ho b (λz=>by rw[z,hH] at n;cases n) (lt_of e)];exact n
   ·by_cases z:b=P
    ·rw[z];exact⟨_,z6y _ htb⟩
    ·exact⟨o,z6y _ (hx b o z e)⟩
   ·exact Hs b _ (λz=>by rw[z,hH] at e;cases e) e
   ·exact Hs b _ (λz=>by rw[z,hH] at e;cases e) e
   ·by_cases z:b=P
    ·rw[z,hH] at e;cases e;rw[z];exact⟨_,HP⟩
    ·exact⟨#[],by rw[Hs b _ z e];simp⟩
   ·exact (hm.extBut hx nL).push _
   ·by_cases z:b=P
    ·subst z
     rw[HP] at e;cases e
     exact z6y _ htb
    ·by_cases z2:b=c'
     ·subst z2
      rw[Hc] at e;cases e
      exact JP rec2
     ·rw[Ho b z z2] at e
      refine (I.hok b u e).stay (λc v hc q=>?_) (λc q=>?_) λc xs q=>?_
      ·refine z6y _ (hx c v (λw=>?_) q)
       rcases hc with hc|hc
       ·exact z (hc▸w)
       ·rw[w,hH] at hc;cases hc
      ·exact Hs c _ (λw=>by rw[w,hH] at q;cases q) q
      ·exact Hs c _ (λw=>by rw[w,hH] at q;cases q) q
  have fresh:s.heap.objs.size<=h'.objs.size:=z9D (zbB hge hlt)
  have hqP:h'.objs.size≠P:=λz=>absurd (z6R htb) (by rw[←z];exact z8e _)
  have hqc:h'.objs.size≠c':=z9c hlt
  have nq:H' h'.objs.size=none:=by rw[Ho _ hqP hqc];exact I.hok.fresh fresh
  have st:Stp α H α H':=⟨⟨[],by simp,by simp⟩,λb o n e=>Hs b o (λz=>n (z▸hPa)) e,λb e=>by
   by_cases z:b=P
   ·rw[z,HP] at e;cases e
   ·by_cases z2:b=c'
    ·rw[z2];exact hc0
    ·rw[Ho b z z2] at e;exact e⟩
  refine h h'.objs.size c' ctv H' _ (Qt J (z71 _ rfl) nq (z9c (z6N I.lt fresh)) (I.nofs fresh) (λv z=>by cases z)) st ?_ (zu mr hc0) Hc ⟨zt mr hc0,Y7 (I.fpOk fresh nq)⟩
  refine⟨mr.len,mr.nd,mr.dis,λb hb=>?_,λi' a' o' e1 e2=>?_⟩
  ·obtain⟨u,hu,n⟩:=mr.phi b hb
   exact⟨u,st.keep b u (λz=>mr.dis b z hb) hu,n⟩
  ·by_cases z:i'=i
   ·subst z
    rw[ha] at e1;cases e1
    rw[hi] at e2;cases e2
    refine⟨poss,qn,_,hD,HP,?_,λp2 hp2=>?_⟩
    ·rw[zbd]
     exact ko (a:=.none) (b:=.none) _ htr
    ·rw[zbd]
     rcases WM (p:=p2) (c:=.ref c') _ htr hmiss with w|w
     ·exact .inr ⟨c',w,zt mr hc0,zu mr hc0,Hc⟩
     ·rw[show (#[z7t pos.line,z7t pos.col,.ref c']:Array Value).toList=[z7t pos.line,z7t pos.col,.ref c'] from rfl,w]
      refine (hall p2 hp2).imp id λ⟨c2,k1,k2,k3,k4⟩=>⟨c2,k1,k2,k3,?_⟩
      exact Hs c2 _ (λz=>k3 (z▸hPa)) k4
   ·have ne:a'≠P:=λw=>by
     obtain⟨q1,q2⟩:=z6v.mp e1
     obtain⟨q3,q4⟩:=z6v.mp ha
     exact z ((z9l mr.nd).mp (q2.trans (w.trans q4.symm)))
    have d:=mr.ob i' a' o' e1 e2
    obtain⟨u,hu,_⟩:=d.some
    exact DenO.step st ((Hs a' u ne hu).trans hu.symm) d
 ·refine PySem.W.kla_makeFunctionHit (mg:=X.mg) hcl I.ok.glob hg hcode hCs hP htr hhit hBs λctv h' tk hk hsz=>?_
  have J:Inv X pins σ H {s with heap:=h'.push (z8x "<lambda>" qn params body scope cl ((X.mg "__name__").getD .none) c' ctv),toks:=tk}:=I.kept λb u e=>z6y _ (hk b u e)
  exact h h'.objs.size c' ctv H _ (Qt J (z71 _ rfl) (I.hok.fresh hsz) (z9c (z6N I.lt hsz)) (I.nofs hsz) (λv z=>by cases z)) (Stp.refl _ _) mr n2 hc' ⟨n1,Y7 (I.fpOk hsz (I.hok.fresh hsz))⟩
end
section
variable {X:Cx}{D:DP}{W:XW}{Γ:Cn}{k n:Nat}{pins:List (Addr×Obj)}{s:Shared}{σ:St}{H:Hp}{φ α:List Addr}{τ:Sl}{μ:Mem}
theorem bind1{fd:z7T}{y:Str}{pa:Pos}{u:Value}(hp:fd.params=⟨[],[⟨y,none,pa⟩],none,[],[],none,[]⟩)(hd:fd.defaults=.none):zaj fd ⟨[u],[]⟩=pure [(y,u)]:=by
 have e:z7F y [(y,u)]=some u:=by simp[z7F]
 unfold zaj
 rw[hp,hd]
 simp[e,zdu]
 rfl
end
theorem Kv{P:z7a}{w:z7o}{K:z6C}{mg mb:Str->Option Value}{CX:CXT}{k:Nat}{fa a c P0:Addr}{fd:z7T}{x:Str}{sp:Sp}{s₁:z6z}{vs:List Value}{ns:List Int}
  (KX:K.In s₁.heap) (hns:s₁.heap.Ns z6T mg) (hb:s₁.heap.Ns z9I mb) (hbb:∀x:Str,x≠"__name__"->mb x=z8s x) (hlim:s₁.heap.NoLimit) (hg:s₁.gens=#[])
  (hbm:∃bm ob,mg "__builtins__"=some (.ref bm)/\bm≠z9I/\s₁.heap.get? bm=some ob/\ob.cls=.type "module"/\ob.dict=some z9I/\ob.data=.plain)
  (hnl:V6 K=true) (hPt:s₁.heap.get? P0=some (z9W #[])) (hKP:K.lookup P0=none) (hPc:P0≠zcX) (hcd:zcj K c P0=true)
  (ha:s₁.heap.get? a=some {cls:=.type "list",data:=.seq vs.toArray}) (hi:z8v vs ns) (hl:ns.length<=sizeLine) (hr:Room k zcE)
  (F:∀base:Heap,K.In base->base.Ns z6T mg->base.BuiltinsAt mg P0->FnOk P w K mg base CX k fa fd [x] sp) (hbind:∀(s:z6z) (u:Value),zbO s fd ⟨[u],[]⟩ [(x,u)])
  (hsp:∀H:Hp,Rd H a (.lst (ns.map V.int))->H P0=some (.tbl #[])->a≠P0->sp [.ref a] H (λv _=>v=.bl true) λ_ _ _=>False)
  (hCX:∀H e s',CX [] H s₁ (λ_ _ _=>False) e s'->False) :
  z92 (z6L P w) zcE (.call (.ref fa) ⟨[.ref a],[]⟩) (λr s'=>r=.ok (.ret (.bool true))/\OldK s₁.heap s'.heap/\s'.os=s₁.os/\za0 s'.gens) s₁:=by
 have rv:=L2.vals_ints hi
 have lenV:=hi.length
 have naP:a≠P0:=λz=>by rw[z,hPt] at ha;cases ha
 have hKa:K.lookup a=none:=by
  cases q:K.lookup a with
  |none=>rfl
  |some o=>
   have e:=KX a o q
   rw[ha] at e;cases e
   exact absurd rfl (VW hnl q)
 obtain⟨H,hH⟩:∃H:Hp,H=upd (upd (λ_=>none) P0 (.tbl #[])) a (.frz {cls:=.type "list",data:=.seq vs.toArray} (.lst (ns.map V.int))):=⟨_,rfl⟩
 have Ha:H a=some (.frz {cls:=.type "list",data:=.seq vs.toArray} (.lst (ns.map V.int))):=by rw[hH];exact z6
 have HP:H P0=some (.tbl #[]):=by rw[hH,z7 naP.symm];exact z6
 have Ho:∀b,b≠a->b≠P0->H b=none:=λb h1 h2=>by rw[hH,z7 h1,z7 h2]
 have hok:HOk P w H s₁.heap:=λb u e=>by
  by_cases h1:b=a
  ·subst h1
   rw[Ha] at e;cases e
   exact⟨ha,by rw[z6Q];exact hl,vs,_,rv,ha⟩
  ·by_cases h2:b=P0
   ·subst h2
    rw[HP] at e;cases e
    exact hPt
   ·rw[Ho b h1 h2] at e;cases e
 have un:∀{b:Addr} {o:Obj},s₁.heap.get? b=some o->o.cls≠.none->o.cls≠.type "list"->H b=none:=λ{b o} e n1 n2=>Ho b (λz=>by rw[z,ha] at e;cases e;exact n2 rfl) λz=>by rw[z,hPt] at e;cases e;exact n1 rfl
 have noA:∀{b:Addr} {o:Obj} {es:Array DictEntry} {ep:Nat},s₁.heap.get? b=some o->o.data=.dict es ep->H b=none:=λ{b o es ep} e d=>Ho b (λz=>by rw[z,ha] at e;cases e;cases d) λz=>by rw[z,hPt] at e;cases e;cases d
 have qD:∀{b:Addr} {o:Obj},s₁.heap.get? b=some o->H b=none->(uv s₁.heap H).get? b=some o:=λe n=>Y_ e n
 have nsK:∀{b:Addr} {m:Str->Option Value},s₁.heap.Ns b m->(uv s₁.heap H).Ns b m:=λ{b m} ⟨o,es,ep,e,d,r⟩=>⟨o,es,ep,qD e (noA e d),d,r⟩
 have hKf:∀b o,K.lookup b=some o->H b=none:=λb o e=>Ho b (λz=>by rw[z,hKa] at e;cases e) λz=>by rw[z,hKP] at e;cases e
 have hKb:K.In (uv s₁.heap H):=λb o e=>qD (KX b o e) (hKf b o e)
 have hM:Mod K mg (uv s₁.heap H):=⟨hKb,nsK hns,⟨mb,nsK hb,hbb⟩,let ⟨mc,h1,h2⟩:=hlim;⟨mc,nsK h1,h2⟩⟩
 have hB:(uv s₁.heap H).BuiltinsAt mg P0:=by
  obtain⟨bm,ob,b1,b2,b3,b4,b5,b6⟩:=hbm
  refine⟨bm,ob,b1,b2,λz=>?_,λz=>?_,qD b3 (un b3 (by rw[b4];exact λz=>by cases z) (by rw[b4];exact λz=>absurd (zcY z) (by decide))),b4,b5,b6⟩
  ·obtain⟨o,es,ep,e,d,_⟩:=hns
   rw[z,e] at b3;cases b3;rw[d] at b6;cases b6
  ·rw[z,hPt] at b3;cases b3;cases b4
 have e0:Env0 P w K mg (uv s₁.heap H) zcE [] s₁ H:=⟨rfl,hM,λb o e=>Um e,z9E (Jr _ _),trivial,λb hb=>absurd (show b∈([]:List Addr) from hb) (by simp),hok,.of_eq hg⟩
 refine z8a ((F _ hKb (nsK hns) hB).run zcE [] s₁ H ⟨[.ref a],[]⟩ [.ref a] [.ref a] _ _ hr e0 (hbind s₁ (.ref a)) (.cons rfl .nil) (hsp H (.inr ⟨_,Ha⟩) HP naP)) λr s' h=>?_
 cases r with
 |error e=>exact (hCX H e s' h).elim
 |ok fl=>
  cases fl with
  |next=>exact z7c h
  |brk=>exact z7c h
  |cont=>exact z7c h
  |ret u=>
   obtain⟨v,H',os,bare,un,hok',r',q⟩:=h
   have q':v=.bl true:=q
   subst q'
   obtain rfl:u=zbq true:=r'
   have kp:∀b o,H b=none->s₁.heap.get? b=some o->s'.heap.get? b=some o:=λb o n e=>un.keep b o e n (by intro z;exact absurd (show b∈([]:List Addr) from z) (by simp)) (by simp)
   obtain⟨more,hm⟩:=un.tbls P0 _ HP
   have hP':s'.heap.get? P0=some (z9W (#[]++more)):=hok' P0 _ hm
   have cd:=PySem.W.codeHd_of_K KX hcd
   have cd':z9S s'.heap c P0:=by
    obtain⟨o,vs,file,tf,flags,tg,inF,text,tt,e1,e2,r⟩:=cd
    refine⟨o,vs,file,tf,flags,tg,inF,text,tt,kp c o ?_ e1,e2,r⟩
    exact Ho c (λz=>by rw[z,ha] at e1;cases e1;exact absurd (zcY e2) (by decide)) λz=>by rw[z,hPt] at e1;cases e1;cases e2
   refine⟨rfl,(OldK.refl s₁.heap).step_table (cd.tab hPt) (cd.tab hPt) (cd'.tab hP') (λb o hb e=>?_) hPc,os,bare⟩
   by_cases h1:b=a
   ·subst h1
    have z2:=un.frzs b _ _ Ha
    obtain⟨e2,_⟩:=hok' b _ z2
    rw[ha] at e;cases e
    exact e2
   ·exact kp b o (Ho b h1 hb) e
noncomputable def Wu(K:z6C)(P0:Addr):Sp:=λvs H Q _=>∃(a:Addr) (ns:List Int),vs=[.ref a]/\Rd H a (.lst (ns.map V.int))/\H P0=some (.tbl #[])/\a≠P0/\ns.length<=63/\∀H',Q (.bl true) H'
noncomputable def WW(f:Fn):Prop:=∀ns:List Int,ns.length<=63->f [.lst (ns.map T.int)] [.tab 0] (λt _=>t=.bl true) (λ_ _ _=>False)
theorem U_{D:DP}{P:z7a}{w:z7o}{K:z6C}{mg:Str->Option Value}{base:Heap}{k:Nat}{fa P0:Addr}{fd:z7T}{x:Str}{f:Fn}{poss:List Pos}{qn:Str}(ht:WW f)(hD:D.tabs 0=some (P0,poss,qn))
  (F:FnOk P w K mg base (CX1 P w) k fa fd [x] (spN D 1 f)):FnOk P w K mg base (CX1 P w) k fa fd [x] (Wu K P0):=by
 refine F.imp ?_
 rintro vs H Q E ⟨a,ns,rfl,r,hP,hne,hn,q⟩
 refine⟨rfl,[],[P0],[.lst (ns.map T.int)],[.tab 0],⟨.ref a,[],rfl,⟨a,_,rfl,by simp,by simpa using hne,r,Zr ns⟩,rfl⟩,⟨rfl,by simp,by simp,by simp,λi a' o e1 e2=>?_⟩,_,_,ht ns hn,?_,?_⟩
 ·cases i with
  |succ i=>simp at e1
  |zero=>
   have e1:P0=a':=by simpa using e1
   have e2:MO.tab 0=o:=by simpa using e2
   subst e1;subst e2
   exact⟨poss,qn,#[],hD,hP,trivial,λ_ _=>.inl rfl⟩
 ·rintro t μ rfl α' H' st m v d
  have d:v=.bl true:=d
  rw[d]
  exact q H'
 ·exact λ_ _ _ z=>z.elim
end NH
namespace NH.P
open PySem L2 NH
@[reducible] noncomputable def k9:List Ds:=[(sIf (vE (tE (zb qE [(eV 0),(eV 1)]))) [(qx 13 [(eC (.str "no moment, house or count of the shape"))])] [])]
noncomputable def qJ:Fn:=fnW 2 0 k9
@[reducible] noncomputable def uL:List Ds:=[(zF (zb qJ [(eV 1),(zi (eV 0) 0)])),(zF (zb qJ [(eV 2),(zi (eV 0) 1)])),(zF (zb qJ [(eV 3),(zi (eV 0) 2)])),(zp (ze .Add (ze .Mult (ze .Add (ze .Mult (eV 1) (zi (eV 0) 1)) (eV 2)) (zi (eV 0) 2)) (eV 3)))]
noncomputable def xD:Fn:=fnW 4 0 uL
@[reducible] noncomputable def yG:List Ds:=[(sIf (tOr (vE (tE (xY [4] (eV 1)))) (tE (zv .NotEq (eB1 ur (eV 1)) (eC (.int 3))))) [(zp (eC (.bl false)))] []),(sIf (vE (vX (tE (zb qE [(eIx (eV 1) (eC (.int 0))),(zi (eV 0) 1)])) (vX (tE (zb qO [(eIx (eV 1) (eC (.int 1)))])) (tE (zb qO [(eIx (eV 1) (eC (.int 2)))]))))) [(zp (eC (.bl false)))] []),(zp (eCh (eC (.int 0)) [(.LtE,(eIx (eV 1) (eC (.int 1)))),(.Lt,(eIx (eV 1) (eC (.int 2)))),(.LtE,(zi (eV 0) 0))]))]
noncomputable def vB:Fn:=fnW 2 0 yG
@[reducible] noncomputable def jc:List Ds:=[(sIf (vE (tE (zb vB [(eV 0),(eV 1)]))) [(qx 18 [(eC (.str "no lease of the shape"))])] [])]
noncomputable def wq:Fn:=fnW 2 0 jc
end NH.P
namespace NH
open PySem PySem.Spec PyProof.Rows L2
theorem walkT2{l:zcD}{q:z7a}{loose:List Str}{XP:(Str->Option Value)->Heap->Prop}{YP:z7o->Heap->Prop}{d:DefRec}{K:Params->z6C}{x:Str}{k:Nat}{P0:Addr}(hk:k<=90)(hn:l.most=some 63)(hdf:d.params.defaults=[])
  (hY:∀(w:z7o) (h:Heap),YP w h->(K w.params).In h) (hT:∀(w:z7o) (h:Heap),YP w h->h.get? P0=some (z9W #[]))
  (F:∀(w:z7o) (mg:Str->Option Value) (fa:Addr) (h:Heap),(K w.params).In h->h.Ns z6T mg->mg d.name=some (.ref fa)->
   (V6 (K w.params)=true/\(K w.params).lookup P0=none/\P0≠zcX/\∃c,zcj (K w.params) c P0=true)/\∃fd:z7T,(∀(s:z6z) (u:Value),zbO s fd ⟨[u],[]⟩ [(x,u)])/\∀base:Heap,(K w.params).In base->base.Ns z6T mg->base.BuiltinsAt mg P0->FnOk l.prog w (K w.params) mg base (CX1 l.prog w) k fa fd [x] (Wu (K w.params) P0)) :
  PySem.W.WalkO q loose XP YP l.row.toRowW d [] (λf vs=>zdT f vs):=by
 refine Att.attach_call hn hdf λw s₀ s₁ mg mb fa o pm cd doc a vs ns G Y ho hd hcd hmg hobj hints hlen hg=>?_
 have KX:=hY w _ Y
 obtain⟨⟨f1,f2,f3,c,f4⟩,fd,hb,hF⟩:=F w mg fa _ KX G.T.g hmg
 exact Kv KX G.T.g G.T.b G.T.builtins G.T.nolimit hg G.T.bmain f1 (hT w _ Y) f2 f3 f4 hobj hints (z6X hlen (by decide)) (Room.mono (k:=90) ⟨rfl,by decide,by decide⟩ hk) hF hb (λH hr hP hne=>⟨a,ns,rfl,hr,hP,hne,hlen,λ_=>rfl⟩) λH e s' z=>by
  obtain⟨_,_,_,_,_,_,_,_,_,_,_,_,_,_,_,z⟩:=z
  exact z
section
variable {prog:Program}{w:World}{A:Around}{E:Value->Shared->Prop}{h:Heap}{g:Array GenState}{d:Drawn}{t:Nat}{os:OsState}
variable {nm q:Str}{C N:Addr}{bs bm bmB:List Value}{hdct:Bool}{sn:List Str}{sub:List Value}{ab:Bool}{col:Option Bool}{dd:Option Addr}{k0 k1 k2 k3 k5:Option Value}{B newId initId:String}
theorem Kz(F:zb_ B newId initId bmB)(T0:zb8 h bmB bm){mN:Str->Option Value}{us:List Value}{fI:Addr}{oI:Obj}{Q:Fin->z6z->Prop}
  (gC:h.get? C=some (z8c nm q C N bs bm hdct sn sub ab col dd k0 k1 k2 k3 k5 newId)) (gN:h.Ns N mN) (gI:mN "__init__"=some (.ref fI)) (gf:h.get? fI=some oI) (gc:oI.cls=.type "function")
  (go:∀h1 x,z9e h h1 x (.ref C) us->z6I (z6L prog w) A (call (.ref fI) (.ref x::us)) (λr s1=>r=.none/\Q (.done (.ret (.ref x))) s1) E ⟨h1,g,d,t,os⟩) (hus:us.length<=sizeLine) :
  z6I (z6L prog w) A (zcC.«type.__call__» ⟨.ref C::us,[]⟩) Q E ⟨h,g,d,t,os⟩:=by
 repeat (first|(with_reducible refine z8F gC ?_)|(with_reducible refine wpAny_madeBy_exc gC ?_)|wp_step)
 refine codeAny_call_builtin_code (zbE _ F.quiet) (wpAny_check_new_subT F T0 gC (codeAny_exc_new_subT F T0 gC ?_ hus))
 show z6I _ _ _ _ _ _
 let tu:Obj:={cls:=.type "tuple",data:=.seq us.toArray}
 let xo:Obj:={cls:=.ref C,data:=.fields #[.ref h.objs.size,.none,.none,.none,.bool false,.none]}
 have up:∀b o,h.get? b=some o->((h.push tu).push xo).get? b=some o:=λb o e=>z6y _ (z6y _ e)
 have gC1:=up _ _ gC
 have gf1:=up _ _ gf
 have gN1:((h.push tu).push xo).Ns N mN:=by
  obtain⟨o,es,ep,e,r⟩:=gN
  exact⟨o,es,ep,up _ _ e,r⟩
 have gx:((h.push tu).push xo).get? (h.objs.size+1)=some xo:=by
  have:=z71 (h.push tu) (o:=xo) rfl
  rw[z8J] at this
  exact this
 have own:(z6W C::bm).contains (.ref C)=true:=by simp
 have T1:zb8 ((h.push tu).push xo) bmB bm:=T0.keeps up
 unfold zbz
 repeat (first|(with_reducible refine z8F gx ?_)|(with_reducible refine zbe gC1 ?_;rw[own])|wp_step)
 show z6I _ _ (zax (.ref C) _) _ _ _
 refine wpAny_typeLookup_tail gC1 gN1 T1 F.mroIs F.init.lookup ?_
 rw[gI]
 refine z77 (z6w ?_)
 unfold zcn
 refine z6w (zaw (T:="function") ⟨_,gf1,gc⟩ ?_)
 rw[if_pos (by decide)]
 have mk:z9e h ((h.push tu).push xo) (h.objs.size+1) (.ref C) us:=⟨up,z7q (z9t _),h.objs.size,gx,z7q (z6E _),z6y _ (zc1 rfl rfl)⟩
 refine z6F (z6w (z7f (go _ _ mk) (λr s1 hr=>?_) λ_ _ z=>z))
 obtain⟨rfl,hr⟩:=hr
 wp_walk
 exact hr
theorem K3(F:zb_ B newId initId bmB)(T0:zb8 h bmB bm){mN:Str->Option Value}{us:List Value}{fI:Addr}{oI:Obj}{Q:Value->z6z->Prop}
  (gC:h.get? C=some (z8c nm q C N bs bm hdct sn sub ab col dd k0 k1 k2 k3 k5 newId)) (gN:h.Ns N mN) (gI:mN "__init__"=some (.ref fI)) (gf:h.get? fI=some oI) (gc:oI.cls=.type "function")
  (go:∀h1 x,z9e h h1 x (.ref C) us->z6I (z6L prog w) (A.under (.builtin "type.__call__" ⟨.ref C::us,[]⟩)) (call (.ref fI) (.ref x::us)) (λr s1=>r=.none/\Q (.ref x) s1) E ⟨h1,g,d,t,os⟩) (hus:us.length<=sizeLine) :
  z6I (z6L prog w) A (call (.ref C) us) Q E ⟨h,g,d,t,os⟩:=by
 have i1:=tc_lookup
 have i2:=tc_bind (.ref C)
 have tp:Shared.TypeIs ⟨h,g,d,t,os⟩ (.ref C) "type":=⟨_,gC,rfl⟩
 refine z8h (codeAny_of_tree ?_)
 show z6I _ _ (callAny (.ref C) _) _ _ _
 repeat (any_goals (first|assumption|(with_reducible refine z8F gC ?_)|wp_step))
 refine⟨rfl,codeAny_call_builtin_at (zbE _ (by decide +kernel)) entry_typeCall (wpAny_check_type_call_sub gC ?_)⟩
 exact Kz F T0 gC gN gI gf gc (λh1 x mk=>go h1 x mk) hus
theorem yd {M:z9J} {env:Env} {s:z6z} {x:Sem Value} {Q:Flow->z6z->Prop} (hbase:bm.contains (.type "BaseException")=true) (hh:A.handled=none)
  (go:z6I M A x (λv s1=>∃e t dx,v=.ref e/\s1.heap.get? C=some (z8c nm q C N bs bm hdct sn sub ab col dd k0 k1 k2 k3 k5 newId)/\
   s1.heap.get? e=some {cls:=.ref C,dict:=dx,data:=.fields #[.ref t,.none,.none,.none,.bool false,.none]}/\E (.ref e) s1) E s) :
  z6I M A (raiseStmt env (some x) none) Q E s:=by
 have isB:(z6W C::bm).contains (.type "BaseException")=true:=by rw[z9X,hbase];simp
 unfold raiseStmt
 refine z6w (z7f go (λv s1 k=>?_) λ_ _ z=>z)
 obtain⟨e,t,dx,rfl,gC,ge,gE⟩:=k
 obtain⟨h1,g1,d1,t1,o1⟩:=s1
 repeat (first|(with_reducible refine z8F ge ?_)|(with_reducible refine z8F gC ?_)|(with_reducible refine zbe gC ?_;rw[isB])|wp_step)
 exact wpAny_raiseNew_none hh gE
end
section
variable {prog:Program}{w:World}{A:Around}{E:Value->Shared->Prop}{s:Shared}
variable {nm q:Str}{C N:Addr}{bs bm bmB:List Value}{hdct:Bool}{sn:List Str}{sub:List Value}{ab:Bool}{col:Option Bool}{dd:Option Addr}{k0 k1 k2 k3 k5:Option Value}{B newId initId:String}
theorem KJ(F:zb_ B newId initId bmB)(T0:zb8 s.heap bmB bm){e:Addr}{ob:Obj}{vs:Array Value}{t0:Addr}{rest:List Value}{Q:Value->z6z->Prop}
  (gC:s.heap.get? C=some (z8c nm q C N bs bm hdct sn sub ab col dd k0 k1 k2 k3 k5 newId)) (he:s.heap.get? e=some ob) (hcls:ob.cls=.ref C) (hd:ob.data=.fields vs) (h0:vs[0]?=some (.ref t0))
  (h:Q .none {s with heap:=(s.heap.push {cls:=.type "tuple",data:=.seq rest.toArray}).update e (z7X (·.setIfInBounds 0 (.ref s.heap.objs.size)))}) (hrest:rest.length<=sizeLine) :
  z6I (z6L prog w) A (call (.builtin initId) (.ref e::rest)) Q E s:=by
 obtain⟨hh,g,d,t,os⟩:=s
 refine z8h (z8N F.init.plain F.initEntry (wpAny_check_init_subT F T0 gC he hcls ?_))
 unfold zcC.«BaseException.__init__»
 dsimp only
 rw[if_neg (by simp)]
 unfold newTuple zcp
 have hsz:0<vs.size:=(z7C.mp h0).1
 have he₁:=z6y (h:=hh) {cls:=.type "tuple",data:=.seq rest.toArray} he
 refine z6w (z7Q (z6w (z6w (z7W he₁ hd h0 (z6w (z9R he₁ hd hsz ?_))))) (by show rest.toArray.size<=sizeLine;rw[z6V];exact hrest))
 exact wpAny_letGo (z6F h)
end
noncomputable def vc:List Value->Bool
 |.ref _::r=>vc r
 |l=>l == zW
theorem vA(self:Value):∀{l:List Value},vc l=true->PySem.refuseLoop self "__setattr__" l=pure ()
 |.ref c::r,e=>by rw[refuseLoop_ref];exact vA self e
 |.type n::r,e=>by rw[show zcG n::r=zW from beq_iff_eq.mp e];exact zad.passes self
 |[],e=>by cases e
 |v::r,e=>by
  unfold vc at e
  split at e
  ·rename_i h;cases h;rw[refuseLoop_ref];exact vA self e
  ·rw[beq_iff_eq.mp e];exact zad.passes self
theorem jJ:∀{l:List Value},vc l=true->l.contains (.type "object")=true
 |.ref c::r,e=>by rw[z9X,jJ (l:=r) e,zbZ]
 |[],e=>by cases e
 |v::r,e=>by
  unfold vc at e
  split at e
  ·rename_i h;cases h;rw[z9X,jJ (l:=_) e,zbZ]
  ·rw[beq_iff_eq.mp e];decide
section
variable {prog:Program}{w:World}{A:Around}{E:Value->Shared->Prop}{s:Shared}{K:PySem.W.Frag}{C x:Addr}
theorem z0I{ox:Obj}{name:Str}{v:Value}{Q:Unit->z6z->Prop}(X:K.In s.heap)(hx:s.heap.get? x=some ox)(hc:ox.cls=.ref C)(hnc:zcZ ox=true)(hd:ox.dict=none)
  (hs:z70 K (.ref C) "__setattr__"=some (some (.builtin "object.__setattr__"))) (hp:((z9p K C).any λcd=>vc cd.mro)=true) (ht:z70 K (.ref C) name=some none) (hh:z89 K C=true)
  (h:∀h' tk,h'.get? x=some {ox with dict:=some s.heap.objs.size}->h'.Ns1 s.heap.objs.size (λy=>if y=name then some v else none)->(∀b o,b≠x->s.heap.get? b=some o->h'.get? b=some o)->Q () {s with heap:=h',toks:=tk}) :
  z6I (z6L prog w) A (setAttr (.ref x) name v) Q E s:=by
 have J:zaV s.heap x ox C none:=⟨hx,hc,hnc,by rw[hd];trivial⟩
 refine zbJ X J hs ?_
 have SF:=PySem.F.store_object
 obtain⟨cd,hcd,ho⟩:=zai hp
 obtain⟨cd',hcd',hdict⟩:=zai hh
 rw[hcd] at hcd'
 cases hcd'
 have ne:cd.mro.isEmpty=false:=by cases q:cd.mro with|nil=>rw[q] at ho;cases ho|cons _ _=>rfl
 have sub:zbl (z6L prog w) s.heap (zbz (.ref x) (.type "object")) true:=J.type.andThen (PySem.W.looks_mroIn X (by unfold z8z;rw[hcd,z9n,if_neg (by rw[ne];decide),jJ ho]))
 refine z8N SF.slot.plain SF.entry (@PySem.W.check_slot (z6L prog w) _ _ {s with toks:=s.toks+1} "object.__setattr__" "object" "__setattr__" (.ref x) [.str name s.toks,v] [] _ SF.kind SF.split sub (SF.args (.ref x) (.str name s.toks) v) ?_)
 have hm:zbl (z6L prog w) s.heap (mroOf (.ref C)) cd.mro:=(z9B X hcd).andThen .now
 rw[PySem.W.osa_eq,refuse_eq]
 refine z6w (z6w (z80 (s:={s with toks:=s.toks+1}) J.type (z6w (z80 (s:={s with toks:=s.toks+1}) hm ?_))))
 rw[vA _ ho]
 refine z6F (z6w (z80 (s:={s with toks:=s.toks+1}) J.type (z6w (z80 (s:={s with toks:=s.toks+1}) (zaA X ht) (z6w (z6F ?_))))))
 obtain⟨hh0,g,dr,t,os⟩:=s
 obtain⟨oc,odi,oda,osl⟩:=ox
 dsimp only at hc hd hx
 subst hc hd
 have hnc':∀c,oda≠.cls c:=λc z=>by subst z;cases hnc
 refine z6w (z6F (z6w (z6w (zaW hx (z6w (z80 (s:=⟨hh0,g,dr,t+1,os⟩) (z9B X hcd) ?_))))))
 rw[hdict]
 have hx₁:(hh0.push {cls:=.type "dict",data:=.dict #[]}).get? x=some ⟨.ref C,none,oda,osl⟩:=z6y _ hx
 have hxs:x≠hh0.objs.size:=z73 (z6R hx)
 have go:z6I (z6L prog w) A.in1 (do
   let d ←alloc {cls:=.type "dict",data:=.dict #[]}
   update x λo=>{o with dict:=some d}
   dictMade (.ref C) x d) (λa s'=>z6I (z6L prog w) A.in1 (match a with
    |some d=>z8q d (.str name t) name v
    |none=>zcv (.ref x) (.ref C) name false) (λfin s'=>match fin with|.done f=>(match (Except.ok f:Result) with|.ok (.ret _)=>Q () s'|.ok _=>False|.error e=>E e s')|.again c'=>c'.quiet=true/\z92 (z6L prog w) A c' (λr s'=>match r with|.ok (.ret _)=>Q () s'|.ok _=>False|.error e=>E e s') s') (λe s'=>E e s') s') (λe s'=>E e s') ⟨hh0,g,dr,t+1,os⟩:=by
  refine z6w (wpAny_alloc' ?_)
  refine z6w (wpAny_update' hx₁ ?_)
  refine z6F ?_
  have hgd:((hh0.push {cls:=.type "dict",data:=.dict #[]}).update x λo=>{cls:=o.cls,dict:=some hh0.objs.size,data:=o.data,slots:=o.slots}).get? hh0.objs.size
    = some {cls:=.type "dict",data:=.dict #[]}:=
   (zbf _ _ _ _ hxs.symm).trans (zc1 rfl rfl)
  have hnd:((hh0.push {cls:=.type "dict",data:=.dict #[]}).update x λo=>{cls:=o.cls,dict:=some hh0.objs.size,data:=o.data,slots:=o.slots}).Ns hh0.objs.size (λ_=>none):=
   ⟨_,#[],_,hgd,rfl,λe he=>absurd he (by simp),λ_=>rfl⟩
  show z6I _ _ (z8q hh0.objs.size (.str name t) name v) _ _ _
  unfold z8q zck
  refine z6w (z6F (z6w (wpAny_nsSet1 (zbK hnd) λh' hn' hs=>?_)))
  obtain⟨oD,esD,epD,hoD,hdD,hcD⟩:=hn'.count (zdV name v Within.nil)
  refine z6w (zca hoD (by rw[hdD];exact zcb (z6X hcD (by rw[z6Y,z7s,z7N];omega))) ?_)
  refine z6F (h h' _ ?_ ?_ ?_)
  ·refine (hs.2 x hxs).trans (z8A _ hx₁ ?_)
   have hfr:=(Heap.get?_some_iff.mp hx).2
   cases oda<;>first|rfl|exact hfr
  ·obtain⟨o',es,ep,e1,e2,e3,eu,e4⟩:=hn'
   exact⟨o',es,ep,e1,e2,e3,eu,λy=>by rw[e4 y]⟩
  ·intro b o hbx hb
   exact (hs.2 b (z73 (z6R hb))).trans ((zbf _ _ _ _ hbx).trans (z6y _ hb))
 cases oda<;>first|exact absurd rfl (hnc' _)|exact go
end
theorem kH{K:z6C}{h:Heap}{N:Addr}{x:Str}{v:Value}(X:K.In h)(e:zcT K N=true)(q:z9f K N x=some (some v)):h.nsMap N x=some v:=by
 obtain⟨o,es,ep,ho,hd,_,hf⟩:=(Heap.Ns.of_isNs (z9V X e):h.Ns N (h.nsMap N))
 unfold z9f at q
 split at q
 ·rename_i c d es' n' sl q'
  have:=X _ _ q'
  rw[ho] at this
  cases this
  cases hd
  split at q
  ·rename_i he
   cases q
   rw[←hf]
   unfold nsFind findBy
   rw[←zbr,he]
   rfl
  ·split at q<;>cases q
 ·cases q
theorem XIn.mro{K:z6C}{C HE fI:Addr}{fl:Str}(x:XIn K C HE fI fl):((z9p K C).any λcd=>vc cd.mro)=true:=by
 obtain⟨N,nm,q,bs,hd,sn,sub,ab,col,dd,k0,k1,k2,k3,k5,h,_⟩:=x.cls
 unfold z9p
 rw[h]
 show vc (.ref C::.ref HE::zW)=true
 show vc zW=true
 decide
theorem XIn.at_{K:z6C}{C HE fI:Addr}{fl:Str}{h:Heap}(x:XIn K C HE fI fl)(X:K.In h):∃N nm q bs hd sn sub ab col dd k0 k1 k2 k3 k5,h.get? C=some (z8c nm q C N bs (.ref HE::zW) hd sn sub ab col dd k0 k1 k2 k3 k5 "ValueError.__new__")/\h.Ns N (h.nsMap N)/\h.nsMap N "__init__"=some (.ref fI)/\zb8 h zW (.ref HE::zW):=by
 obtain⟨N,nm,q,bs,hd,sn,sub,ab,col,dd,k0,k1,k2,k3,k5,h1,h2,h3⟩:=x.cls
 obtain⟨tl,N',nm',q',bs',hd',sn',sub',ab',col',dd',k0',k1',k2',k3',k5',mN,g1,g2,g3,g4⟩:=QW X x.he
 exact⟨N,nm,q,bs,hd,sn,sub,ab,col,dd,k0,k1,k2,k3,k5,X _ _ h1,.of_isNs (z9V X h2),kH X h2 h3,.own g1 g2 g3 .base⟩
section
variable {X:Cx}{pins:List (Addr×Obj)}{s:Shared}{σ:St}{H:Hp}{C HE fI:Addr}{fl:Str}
theorem z13 {a b par:Str} {ka kb:Nat} {p1 p2 p3 p4 p5:Pos} (hN:X.N[1]?=some par) (hv:Vis X.env.scope par) (hd:(par == ("__debug__":Str))=false) (hcd:(par == ("__classdict__":Str))=false) (ha:a.length<=1000) (hb:b.length<=1000) :
  PE X (.JoinedStr [.Constant (.str a) ka p1,.FormattedValue (.Name par p2) (-1) none p3,.Constant (.str b) kb p4] p5) (λσ H Q=>∃i:Int,σ[1]?=some (some (.int i))/\i.natAbs.log2<1920/\∀z,Q (.str z) H):=by
 rintro pins s σ H Q I ⟨i,hi,hlog,q⟩
 have e:=zbF (k:=1920) (by decide) hlog
 have e2:(z8R (toString i)).length<=1921:=by rw[zaT];exact e
 refine zcw ?_
 refine thn (Q1 (x:=a) pins s σ H (λv H1=>v=.str a/\H1=H) I ⟨rfl,rfl⟩) ?_
 rintro u s1 ⟨v,H1,I1,r,rfl,rfl⟩
 obtain⟨t1,rfl⟩:=r
 have l0:(z9G++a).length<=1000:=by rw[z9r];show 0+a.length<=1000;omega
 refine⟨_,_,rfl,by rw[z7N];omega,?_⟩
 refine z9Y (thn (kG (i:=1) hN hv hd hcd pins s1 σ H1 (λv H2=>v=.int i/\H2=H1) I1 ⟨_,hi,rfl,rfl⟩) ?_)
 rintro u s2 ⟨v,H2,I2,r,rfl,rfl⟩
 obtain⟨t2,rfl⟩:=r
 refine zaU hlog ?_
 have l1:(z9G++a++z8R (toString i)).length<=3000:=by rw[z9r];omega
 refine⟨_,_,rfl,by rw[z7N];omega,?_⟩
 have I3:Inv X pins σ H2 {s2 with toks:=s2.toks+1+1}:=I2.kept (h':=s2.heap) λ_ _ q=>q
 refine thn (Q1 (x:=b) pins _ σ H2 (λv H1=>v=.str b/\H1=H2) I3 ⟨rfl,rfl⟩) ?_
 rintro u s4 ⟨v,H4,I4,r,rfl,rfl⟩
 obtain⟨t4,rfl⟩:=r
 have l2:(z9G++a++z8R (toString i)++b).length<=5000:=by rw[z9r];omega
 refine⟨_,_,rfl,by rw[z7N];omega,by rw[z7N];omega,?_⟩
 exact⟨.str _,H4,I4.kept (h':=s4.heap) λ_ _ q=>q,⟨_,rfl⟩,q _⟩
theorem Yw {a par:Str} {ka:Nat} {p1 p2 p3 p5:Pos} (hN:X.N[1]?=some par) (hv:Vis X.env.scope par) (hd:(par == ("__debug__":Str))=false) (hcd:(par == ("__classdict__":Str))=false) (ha:a.length<=1000) :
  PE X (.JoinedStr [.Constant (.str a) ka p1,.FormattedValue (.Name par p2) (-1) none p3] p5) (λσ H Q=>∃i:Int,σ[1]?=some (some (.int i))/\i.natAbs.log2<1920/\∀z,Q (.str z) H):=by
 rintro pins s σ H Q I ⟨i,hi,hlog,q⟩
 have e:=zbF (k:=1920) (by decide) hlog
 have e2:(z8R (toString i)).length<=1921:=by rw[zaT];exact e
 refine zcw ?_
 refine thn (Q1 (x:=a) pins s σ H (λv H1=>v=.str a/\H1=H) I ⟨rfl,rfl⟩) ?_
 rintro u s1 ⟨v,H1,I1,r,rfl,rfl⟩
 obtain⟨t1,rfl⟩:=r
 have l0:(z9G++a).length<=1000:=by rw[z9r];show 0+a.length<=1000;omega
 refine⟨_,_,rfl,by rw[z7N];omega,?_⟩
 refine z9Y (thn (kG (i:=1) hN hv hd hcd pins s1 σ H1 (λv H2=>v=.int i/\H2=H1) I1 ⟨_,hi,rfl,rfl⟩) ?_)
 rintro u s2 ⟨v,H2,I2,r,rfl,rfl⟩
 obtain⟨t2,rfl⟩:=r
 refine zaU hlog ?_
 have l1:(z9G++a++z8R (toString i)).length<=3000:=by rw[z9r];omega
 refine⟨_,_,rfl,by rw[z7N];omega,by rw[z7N];omega,?_⟩
 exact⟨.str _,H2,I2.kept (h':=s2.heap) λ_ _ q=>q,⟨_,rfl⟩,q _⟩
noncomputable def WC(par:Str)(parts:List Expr):Prop:=
 (∃(a b:Str) (ka kb:Nat) (p1 p2 p3 p4:Pos),parts=[.Constant (.str a) ka p1,.FormattedValue (.Name par p2) (-1) none p3,.Constant (.str b) kb p4]/\a.length<=1000/\b.length<=1000)\/
 ∃(a:Str) (ka:Nat) (p1 p2 p3:Pos),parts=[.Constant (.str a) ka p1,.FormattedValue (.Name par p2) (-1) none p3]/\a.length<=1000
theorem Xq {par:Str} {parts:List Expr} {p5:Pos} (hN:X.N[1]?=some par) (hv:Vis X.env.scope par) (hd:(par == ("__debug__":Str))=false) (hcd:(par == ("__classdict__":Str))=false) (h:WC par parts) :
  PE X (.JoinedStr parts p5) (λσ H Q=>∃i:Int,σ[1]?=some (some (.int i))/\i.natAbs.log2<1920/\∀z,Q (.str z) H):=by
 rcases h with⟨a,b,ka,kb,p1,p2,p3,p4,rfl,h1,h2⟩|⟨a,ka,p1,p2,p3,rfl,h1⟩
 ·exact z13 hN hv hd hcd h1 h2
 ·exact Yw hN hv hd hcd h1
theorem Uy {par slf B:Str} {parts:List Expr} {p5 q0 q1 q2 q4:Pos} (xi:XIn X.K C HE fI fl) (hN0:X.N[0]?=some slf) (hv0:Vis X.env.scope slf) (hd0:(slf == ("__debug__":Str))=false) (hcd0:(slf == ("__classdict__":Str))=false)
  (hN:X.N[1]?=some par) (hv:Vis X.env.scope par) (hd:(par == ("__debug__":Str))=false) (hcd:(par == ("__classdict__":Str))=false) (hfp:WC par parts)
  (hB:Gl X B) (hm:X.mg B=some (.ref HE)) (hBd:(B == ("__debug__":Str))=false) (hga:z8b X.K (.ref HE) "__getattribute__"=some (some (.builtin "type.__getattribute__"))) (hr:zcx X.K HE (.type "type")=true)
  (hf:zcy X.K (.ref HE) (.type "type") "__init__"=some (.val (.builtin "ValueError.__init__"))) (hline:(q1.endLine == q4.line)=true) :
  PE X (.Call (.Attribute (.Name B q0) "__init__" q1) [.Name slf q2,.JoinedStr parts p5] [] q4) (λσ H Q=>∃(x:Addr) (i:Int),σ[0]?=some (some (.ref x))/\σ[1]?=some (some (.int i))/\i.natAbs.log2<1920/\H x=some (.ext (xC x C))/\Q .non (upd H x (.ext (xC x C)))):=by
 rintro pins s σ H Q I ⟨x,i,h0,h1,hlog,hx,q⟩
 rw[zbm]
 refine z6w (qV I hB hm ?_ hBd)
 refine z6w (z7x ?_)
 have hpos:z8_ true (.Name B q0) X.env q1 q4=pure q4:=by unfold z8_;simp[hline]
 unfold zaC
 refine z6w (z77 (PySem.W.method_cls I.kIn hga (PySem.W.cls_value I.kIn hr hf rfl ?_)))
 refine z6w (z99 hpos ?_)
 have I1:Inv X pins σ H {s with toks:=s.toks+1}:=I.kept (h':=s.heap) λ_ _ q=>q
 have pa:PA X [.Name slf q2,.JoinedStr parts p5] _:=zI (kG (i:=0) hN0 hv0 hd0 hcd0) (zI (Xq hN hv hd hcd hfp) qH)
 refine PySem.W.callWith_of (P:=λ_=>True) (first:=[]) rfl (λh _=>⟨.machine,.inr (.inl rfl),zdE rfl⟩) (z8M (thn (pa q4 pins _ σ H (λvs H1=>∃z,vs=[.ref x,.str z]/\H1=H) I1 ⟨_,h0,i,h1,hlog,λz=>⟨z,rfl,rfl⟩⟩) ?_))
 rintro us s2 ⟨vs,H2,I2,rv,z,rfl,rfl⟩
 obtain⟨u1,rfl⟩:∃u1,us=[.ref x,u1]:=by
  cases rv with
  |cons r1 r2=>cases r2 with
   |cons r3 r4=>cases r4;cases r1;exact⟨_,rfl⟩
 refine⟨trivial,?_⟩
 obtain⟨N,nm,qn,bs,hdd,sn,sub,ab,col,dd,k0,k1,k2,k3,k5,g1,g2,g3,g4⟩:=xi.at_ I2.kIn
 obtain⟨t,ex⟩:xC x C s2.heap:=(show ObjOk X.prog X.w H2 s2.heap x (.ext (xC x C)) from I2.hok _ _ hx).1
 refine KJ (rest:=[u1]) z7D g4 g1 ex rfl rfl rfl ?_ (by rw[z7N];show 1<=_;omega)
 have lt:x<s2.heap.objs.size:=z6R ex
 have ex1:=z6y (h:=s2.heap) {cls:=.type "tuple",data:=.seq [u1].toArray} ex
 have k1:∀b u,b≠x->s2.heap.get? b=some u->((s2.heap.push {cls:=.type "tuple",data:=.seq [u1].toArray}).update x (z7X (·.setIfInBounds 0 (.ref s2.heap.objs.size)))).get? b=some u:=λb u hb hu=>by
  rw[z7B _ _ (z6Z hb)]
  exact z6y _ hu
 have ex2:((s2.heap.push {cls:=.type "tuple",data:=.seq [u1].toArray}).update x (z7X (·.setIfInBounds 0 (.ref s2.heap.objs.size)))).get? x=some {cls:=.ref C,data:=.fields #[.ref s2.heap.objs.size,.none,.none,.none,.bool false,.none]}:=by
  rw[z8A _ ex1 rfl];rfl
 exact⟨.non,_,I2.write (x:=x) (e:=x) (o:=.ext (xC x C)) (t':=s2.toks) (by rw[hx];exact z7r) (.inl rfl) k1 ⟨_,ex2⟩ ⟨⟨_,ex2⟩,⟨_,ex2⟩,λh1 h2 ⟨t,e⟩ k=>⟨t,k _ e⟩⟩,rfl,q⟩
theorem Xu {par slf:Str} {q0 q1 q2 q3:Pos} (xi:XIn X.K C HE fI fl) (hN0:X.N[0]?=some slf) (hv0:Vis X.env.scope slf) (hd0:(slf == ("__debug__":Str))=false) (hcd0:(slf == ("__classdict__":Str))=false)
  (hN:X.N[1]?=some par) (hv:Vis X.env.scope par) (hd:(par == ("__debug__":Str))=false) (hcd:(par == ("__classdict__":Str))=false) :
  PS X (.Assign [.Attribute (.Name slf q0) fl q1] (.Name par q2) q3) (λD σ H=>∃(x:Addr) (i:Int),σ[0]?=some (some (.ref x))/\σ[1]?=some (some (.int i))/\H x=some (.ext (xC x C))/\∀dx,H dx=none->dx≠x->D.nx σ (upd (upd H x (.ext (yU x C dx))) dx (.xd [(fl,.int i)]))):=by
 rintro pins s σ H D I ⟨x,i,h0,h1,hx,q⟩
 refine z9j (thn (kG (i:=1) hN hv hd hcd pins s σ H (λv H1=>v=.int i/\H1=H) I ⟨_,h1,rfl,rfl⟩) ?_) rfl
 rintro u s1 ⟨v,H1,I1,r,rfl,rfl⟩
 refine thn (kG (i:=0) hN0 hv0 hd0 hcd0 pins s1 σ H1 (λv H2=>v=.ref x/\H2=H1) I1 ⟨_,h0,rfl,rfl⟩) ?_
 rintro ov s2 ⟨v,H2,I2,r2,rfl,rfl⟩
 cases r2
 obtain⟨t,ex⟩:xC x C s2.heap:=(show ObjOk X.prog X.w H2 s2.heap x (.ext (xC x C)) from I2.hok _ _ hx).1
 refine z0I I2.kIn ex rfl rfl rfl xi.sa xi.mro xi.no xi.dct λh' tk e1 e2 e3=>?_
 have lt:x<s2.heap.objs.size:=z6R ex
 have hf:H2 s2.heap.objs.size=none:=I2.hok.fresh (z6E _)
 have ne:s2.heap.objs.size≠x:=z9c lt
 refine⟨σ,_,?_,q _ hf ne⟩
 have ox:XOk X H2 s2.heap.objs.size:=vt I2 (z7q (z6E _))
 have hpn:∀p∈pins,p.1≠s2.heap.objs.size:=λp hp z=>by
  have:=(I2.pin p (z6O _ hp)).1
  rw[z,z7q (z6E _)] at this;cases this
 have I3:Inv X pins σ (upd H2 x (.ext (yU x C s2.heap.objs.size))) {s2 with heap:=h',toks:=tk}:=I2.write (x:=x) (e:=x) (by rw[hx];exact z7r) (.inl rfl) (λb u hb hu=>e3 b u hb hu) ⟨_,e1⟩ ⟨⟨t,e1⟩,⟨_,e1⟩,λh1 h2 ⟨t,e⟩ k=>⟨t,k _ e⟩⟩
 have ox3:XOk X (upd H2 x (.ext (yU x C s2.heap.objs.size))) s2.heap.objs.size:=⟨by rw[z7 ne];exact ox.free,ox.loc,ox.nfs,ox.new,ox.cel,ox.pin⟩
 refine jr I3 ox3 hpn ⟨_,e2,λf=>?_⟩
 show RelO (z7F f [(fl,V.int i)]) (if f=fl then some u else none)
 by_cases z:f=fl
 ·subst z
  rw[if_pos rfl]
  simp only[z7F,beq_self_eq_true]
  exact r
 ·rw[if_neg z]
  have:(f == fl)=false:=beq_eq_false_iff_ne.mpr z
  simp only[z7F,this]
  exact trivial
end
noncomputable def z4O(body:List Stmt)(B slf par fl:Str):Prop:=∃(q0 q1 q2 p5 q4 q5 r0 r1 r2 r3:Pos) (parts:List Expr),
 body=[.Expr (.Call (.Attribute (.Name B q0) "__init__" q1) [.Name slf q2,.JoinedStr parts p5] [] q4) q5,.Assign [.Attribute (.Name slf r0) fl r1] (.Name par r2) r3]/\(q1.endLine == q4.line)=true/\WC par parts
noncomputable def scI(slf par B:Str)(sc:Scope):Bool:=(sc.kind == .function)&&!sc.isCoroutine&&!sc.isGenerator&&(slf != par)&&(sc.names.lookup slf == some .local)&&(sc.names.lookup par == some .local)&&sc.names.all (λy=>y.2 != .free)&&(sc.names.lookup B == some .globalImplicit)&&
 (slf != ("__debug__":Str))&&(slf != ("__classdict__":Str))&&(par != ("__debug__":Str))&&(par != ("__classdict__":Str))&&(B != ("__debug__":Str))
section
variable {P:Program}{w:World}{K:PySem.W.Frag}{mg:Str->Option Value}{base:Heap}{C HE fI:Addr}{fl:Str}{k:Nat}
structure HIn(K:PySem.W.Frag)(mg:Str->Option Value)(HE:Addr)(B:Str):Prop where
 mg:mg B=some (.ref HE)
 ga:z8b K (.ref HE) "__getattribute__"=some (some (.builtin "type.__getattribute__"))
 rd:zcx K HE (.type "type")=true
 fc:zcy K (.ref HE) (.type "type") "__init__"=some (.val (.builtin "ValueError.__init__"))
theorem z5G{CX:CXT}{name qual slf par B:Str}{params:Arguments}{body:List Stmt}{scope:Scope}{dV kV doc pm cdv ct oc:Value}{an od:Option Addr}{osl:Array (Option Value)}
  (xi:XIn K C HE fI fl) (hi:HIn K mg HE B) (lk:K.lookup fI=some ⟨oc,od,.func (z7v name qual params body scope dV kV doc pm an cdv ct),osl⟩) (hcd:z8o K cdv qual=true) (hf:z4O body B slf par fl) (hs:scI slf par B scope=true) :
  FnOk P w K mg base CX (k+1) fI (z7v name qual params body scope dV kV doc pm an cdv ct) [slf,par] (spI C fl):=by
 simp only[scI,z6x,z7k,beq_iff_eq,z8d,bne_iff_ne,ne_eq] at hs
 obtain⟨⟨⟨⟨⟨⟨⟨⟨⟨⟨⟨⟨h1,h2⟩,h3⟩,h4⟩,h5⟩,h6⟩,h7⟩,h8⟩,h9⟩,h10⟩,h11⟩,h12⟩,h13⟩:=hs
 have S:FnScope [slf,par] [slf,par] scope:=⟨h1,h2,h3,by simp[h4],rfl,λx hx=>by
  rcases z75.mp hx with rfl|hx
  ·exact .inl h5
  ·rw[z6J.mp hx];exact .inl h6,h7⟩
 obtain⟨q0,q1,q2,p5,q4,q5,r0,r1,r2,r3,parts,rfl,c5,c6⟩:=hf
 refine z1p (fnb:=λ_=>true) lk hcd S (λvs H Q E q=>by obtain⟨x,i,rfl,_⟩:=q;rfl) λA outer s H vs Q E hr hsp _=>?_
 obtain⟨x,i,rfl,hlog,hx,q⟩:=hsp
 have hd0:(slf == ("__debug__":Str))=false:=beq_eq_false_iff_ne.mpr h9
 have hc0:(slf == ("__classdict__":Str))=false:=beq_eq_false_iff_ne.mpr h10
 have hd1:(par == ("__debug__":Str))=false:=beq_eq_false_iff_ne.mpr h11
 have hc1:(par == ("__classdict__":Str))=false:=beq_eq_false_iff_ne.mpr h12
 have hdB:(B == ("__debug__":Str))=false:=beq_eq_false_iff_ne.mpr h13
 refine⟨_,Qu (Vz (Uy (C:=C) (HE:=HE) (fI:=fI) (fl:=fl) xi rfl (.inl h5) hd0 hc0 rfl (.inl h6) hd1 hc1 c6 h8 hi.mg hdB hi.ga hi.rd hi.fc c5)) (Ur (Xu (C:=C) (HE:=HE) (fI:=fI) xi rfl (.inl h5) hd0 hc0 rfl (.inl h6) hd1 hc1)),?_⟩
 refine⟨x,i,rfl,rfl,hlog,hx,x,i,rfl,rfl,z6,λdx hdx ne=>?_⟩
 rw[VN]
 exact q dx (by rw[z7 ne] at hdx;exact hdx) ne
end
section
variable {X:Cx}{pins:List (Addr×Obj)}{s:Shared}{σ:St}{H:Hp}
theorem QM{x:Addr}{φ:Heap->Prop}(I:Inv X pins σ (upd H x (.ext φ)) s)(hx:H x=none):Inv X pins σ H s:=by
 have nn:∀b,upd H x (.ext φ) b=none->H b=none:=λb e=>by
  by_cases z:b=x
  ·rw[z];exact hx
  ·rw[z7 z] at e;exact e
 have so:∀b o,upd H x (.ext φ) b=some o->(∀ψ,o≠.ext ψ)->H b=some o:=λb o e n=>by
  by_cases z:b=x
  ·rw[z,z6] at e;cases e;exact absurd rfl (n φ)
  ·rw[z7 z] at e;exact e
 refine⟨I.ok,I.os,I.bare,⟨I.base.keep,I.base.slot,λb o e n hx'=>nn b (I.base.free b o e n hx'),I.base.there,λb xs e=>so b _ (I.base.tups b xs e) (λψ z=>by cases z),λb o u e=>so b _ (I.base.frzs b o u e) (λψ z=>by cases z),λb ps e=>?_⟩,I.loc,I.cell,nn _ I.free,λy c e=>(I.freeC y c e).imp (nn _) λ⟨n,o,u,f⟩=>⟨n,o,u,so c _ f (λψ z=>by cases z)⟩,λp hp=>?_,λb ob e=>?_,I.len⟩
 ·obtain⟨more,q⟩:=I.base.tbls b ps e
  exact⟨more,so b _ q (λψ z=>by cases z)⟩
 ·obtain⟨e,n,r⟩:=I.pin p hp
  exact⟨e,nn _ n,r⟩
 ·have ne:b≠x:=λz=>by rw[z,hx] at e;cases e
  have q:=I.hok b ob (by rw[z7 ne];exact e)
  exact q.stay (λ_ _ _ q=>q) (λc q=>so c _ q (λψ z=>by cases z)) λc xs q=>so c _ q (λψ z=>by cases z)
end
section
variable {X:Cx}{D:DP}{W:XW}{Γ:Cn}{k:Nat}{pins:List (Addr×Obj)}{s:Shared}{σ:St}{H:Hp}{φ α:List Addr}{τ:Sl}{μ:Mem}{a:Expr}{pos:Pos}{E:Ends}{g:De}
theorem Yt{H:Hp}{x y:Addr}{a b:HO}(h:x≠y):upd (upd H x a) y b=upd (upd H y b) x a:=by
 funext c
 by_cases z:c=y
 ·subst z;rw[z6,z7 (z6Z h),z6]
 ·rw[z7 z]
  by_cases z2:c=x
  ·subst z2;rw[z6,z6]
  ·rw[z7 z2,z7 z2,z7 z]
theorem z07{C HE fI:Addr}{fl:Str}{fd:z7T}{ps:List Str}{kk:Nat}{u:Value}{i:Int}{Q:Value->z6z->Prop}(xi:XIn X.K C HE fI fl)(hb:Binds X.K fd ps [])(hr:Room (kk+1) X.A)
  (F:FnOk X.prog X.w X.K X.mg X.base (CX1 X.prog X.w) kk fI fd ps (spI C fl)) (I:Inv X pins σ H s) (r:RelV (.int i) u) (hlog:i.natAbs.log2<1920)
  (q:∀x dx t s',Inv X pins σ (upd H dx (.xd [(fl,.int i)])) s'->H dx=none->XOk X H x->dx≠x->s'.heap.get? x=some {cls:=.ref C,dict:=some dx,data:=.fields #[.ref t,.none,.none,.none,.bool false,.none]}->Q (.ref x) s') :
  z6I (z6L X.prog X.w) X.A (call (.ref C) [u]) Q X.xe s:=by
 obtain⟨N,nm,qn,bs,hdd,sn,sub,ab,col,dd,k0,k1,k2,k3,k5,g1,g2,g3,g4⟩:=xi.at_ I.kIn
 obtain⟨oI,gf,gc⟩:∃oI,s.heap.get? fI=some oI/\oI.cls=.type "function":=by
  obtain⟨o,ho,e⟩:=z8w.mp xi.fn
  exact⟨o,I.kIn _ _ ho,e⟩
 obtain⟨hh,gg,d,tk,os⟩:=s
 refine K3 z7D g4 g1 g2 g3 gf gc (λh1 x mk=>?_) (by rw[z7N];show 1<=_;omega)
 have J:Inv X pins σ H ⟨h1,gg,d,tk,os⟩:=I.kept (t':=tk) mk.keeps
 have ox:XOk X H x:=vt I mk.new
 have hpn:∀p∈pins,p.1≠x:=λp hp z=>by
  have:=(I.pin p (z6O _ hp)).1
  rw[z,mk.new] at this;cases this
 obtain⟨t,ho,_,_⟩:=mk.there
 have I2:Inv X pins σ (upd H x (.ext (xC x C))) ⟨h1,gg,d,tk,os⟩:=jr J ox hpn ⟨⟨t,ho⟩,⟨_,ho⟩,λh1 h2 ⟨t,e⟩ k=>⟨t,k _ e⟩⟩
 have rv:Vals [.ref x,.int i] [.ref x,u]:=.cons rfl (.cons r .nil)
 have hl:([z6W x,u]++[]).length=ps.length:=by
  have:=F.len [.ref x,.int i] (upd H x (.ext (xC x C))) (λ_ _=>True) (λ_ _ _=>False) ⟨x,i,rfl,hlog,z6,λ_ _ _=>trivial⟩
  exact this
 refine z8h (z8a (F.run _ X.stack ⟨h1,gg,d,tk,os⟩ (upd H x (.ext (xC x C))) ⟨[.ref x,u],[]⟩ [.ref x,u] [.ref x,.int i] (λv H'=>v=.non/\∃dx,H dx=none/\dx≠x/\H'=upd (upd H x (.ext (yU x C dx))) dx (.xd [(fl,.int i)])) (λ_ _ _=>False) (hr.make C [u] []) (I2.env0.make C [u] []) (by simpa using hb _ [.ref x,u] I2.kIn hl) rv
  ⟨x,i,rfl,hlog,z6,λdx hdx ne=>⟨rfl,dx,by rw[z7 ne] at hdx;exact hdx,ne,by rw[VN]⟩⟩) λres s' hq=>?_)
 cases res with
 |error e=>
  obtain⟨_,_,_,_,_,_,_,_,_,_,_,_,_,_,_,z⟩:=hq
  exact z.elim
 |ok flw=>
  cases flw with
  |ret v=>
   obtain⟨v',H',I3,rv',⟨rfl,dx,hdx,ne,rfl⟩⟩:=I2.after hq
   refine⟨rv',?_⟩
   obtain⟨t',e'⟩:yU x C dx s'.heap:=(show ObjOk X.prog X.w _ s'.heap x (.ext (yU x C dx)) from I3.hok x _ (by rw[z7 (z6Z ne),z6])).1
   rw[Yt (z6Z ne)] at I3
   have I4:=QM I3 (by rw[z7 (z6Z ne)];exact ox.free)
   exact q x dx t' s' I4 hdx ox ne e'
  |next=>exact z7c hq
  |brk=>exact z7c hq
  |cont=>exact z7c hq
noncomputable def hash(m:Str):Str:=⟨#[35]++m.cps⟩
theorem Jw(C:Sk D W Γ X k)(hc:Γ.calm=true){x fl:Str}{n f:Nat}{p0 p1:Pos}(hx:x∈Γ.G)(hU:hash x∈Γ.U)(hg:Γ.gl (hash x)=.xin n f x fl)(hst:noStar a=true)(ha:PE X a (rdE D W g)) :
  PS X (.Raise (some (.Call (.Name x p0) [a] [] p1)) none pos) (rdS D W (ZN n f g)):=by
 rintro pins s σ H E I ⟨φ,α,τ,μ,sr,mr,p⟩
 have q:=(C.glU _ hU).1
 rw[hg] at q
 obtain⟨C0,HE,fI,fd,ps,kk,ad,hm,hfl,xi,hb,hkk,F⟩:=q
 have hr:=(C.rom hc).mono hkk
 obtain⟨N,nm,qn,bs,hdd,sn,sub,ab,col,dd,k0,k1,k2,k3,k5,g1,g2,g3,g4⟩:=xi.at_ I.ok.mod.kin
 have hbase:(z6W HE::zW).contains (.type "BaseException")=true:=g4.hasType z7D.hasBase
 have body:z6I (z6L X.prog X.w) X.A (eval (.Call (.Name x p0) [a] [] p1) X.env) (λv s1=>∃e t dx,v=.ref e/\s1.heap.get? C0=some (z8c nm qn C0 N bs (.ref HE::zW) hdd sn sub ab col dd k0 k1 k2 k3 k5 "ValueError.__new__")/\
   s1.heap.get? e=some {cls:=.ref C0,dict:=dx,data:=.fields #[.ref t,.none,.none,.none,.bool false,.none]}/\X.xe (.ref e) s1) X.xe s:=by
  refine wpAny_Call_ofName (qV I (C.glb x hx) hm ?_ (C.dbG x hx))
  refine z82 (K:=X.K) (first:=[]) (h₀:=X.base) I.ok.mod.kin xi.kp (thn (zI ha qH (za hst) p1 pins s σ H (λvs H1=>∃v t μ1 α1,vs=[v]/\Stp α H α1 H1/\SRel D φ α1 H1 τ σ/\MRel D φ α1 H1 μ1/\Den D φ α1 H1 t v/\PostS D W φ α1 H1 E ((match t with
   |.int i=>.grd (i.natAbs.log2<1920) (.ex n [(f,.int i)] τ μ1)
   |_=>.st:Out))) I ⟨φ,α,τ,μ,sr,mr,(PostS.out sr p).mono λt μ' α' H' st m q v d=>⟨v,t,μ',α',rfl,st,sr.step st,m,d,q⟩⟩) ?_) (za hst) rfl
  rintro us s1 ⟨vs,H1,I1,rv,v,t,μ1,α1,rfl,st1,sr1,mr1,d1,p1⟩
  obtain⟨u,rfl,r⟩:∃u,us=[u]/\RelV v u:=by
   cases rv with
   |cons r1 r2=>cases r2;exact⟨_,rfl,r1⟩
  refine⟨I1.kIn,?_⟩
  cases t<;>first|(obtain⟨Q,q,_⟩:=p1;exact q.elim)|skip
  rename_i i
  obtain⟨hlog,p2⟩:=PostS.grd p1
  cases d1
  refine z07 xi hb hr F I1 r hlog λe dx t s' I2 hdx oe ne he=>?_
  refine⟨e,t,some dx,rfl,I2.bk _ _ g1,he,C.xe _ _ ?_⟩
  have sm:vz H1 (upd H1 dx (.xd [(fl,.int i)])):=zk hdx
  have st2:Stp α1 H1 α1 (upd H1 dx (.xd [(fl,.int i)])):=Stp.new sm
  refine⟨e,.ref C0,some dx,σ,_,none,.none,rfl,I2.pins_of (λp hp=>absurd hp (by simp)),⟨by rw[z7 (z6Z ne)];exact oe.free,oe.loc,oe.nfs,oe.new,oe.cel,oe.pin⟩,λt ht=>absurd ht (by simp),⟨⟨_,_,.ref t,he,⟨rfl,rfl⟩,rfl,rfl,rfl⟩,rfl⟩,.inl rfl,?_⟩
  refine PostS.ex p2 st2 (mr1.new sm) (sr1.step st2) ad ⟨_,zt mr1 hdx,zu mr1 hdx,z6,?_⟩
  exact⟨fl,.int i,[],hfl,rfl,rfl,rfl⟩
 rw[arm_exec_Raise]
 first
  |exact z6w (z7x (yd hbase (I.ok.hd (C.clm hc)) (z6w (z7f body (λv s₃ h₃=>z6w (z7x (z6F h₃))) λ_ _ x=>x))))
  |(simp only[evalOpt,Option.map];exact z6w (z7x (yd hbase (I.ok.hd (C.clm hc)) (z6w (z7f body (λv s₃ h₃=>z6w (z7x (z6F h₃))) λ_ _ x=>x)))))
end
noncomputable def z60:List Expr->Option Expr
 |[a]=>some a
 |_=>none
noncomputable def V4:SR:=λr Γ s=>(z0s s).bind λe=>(VL e).bind λq=>(z60 q.2).bind λa=>gd (Γ.calm&&(idx Γ.N q.1).isNone&&Γ.G.contains q.1&&Γ.U.contains (hash q.1)&&noStar a) ((r.e Γ a).bind λg=>(match Γ.gl (hash q.1) with
  |.xin c f nm _=>gd (nm == q.1) (some (ZN c f g))
  |_=>none))
theorem Js{D:DP}:SOk D V4:=by
 intro r H X W Γ k e d C h
 unfold V4 at h
 obtain⟨e',z0,z1⟩:=bnd h
 obtain⟨⟨x,as⟩,z2,z3⟩:=bnd z1
 obtain⟨a,ha,z4⟩:=bnd z3
 clear h z1 z3
 obtain⟨p2,rfl⟩:=J9 z0
 obtain⟨p0,p1,rfl⟩:=Wk z2
 obtain⟨hb,h⟩:=zr z4
 simp only[z6x] at hb
 obtain⟨⟨⟨⟨h0,h2⟩,h3⟩,h4⟩,h5⟩:=hb
 obtain⟨g,h6,h⟩:=bnd h
 have ea:as=[a]:=by
  cases as with
  |nil=>cases ha
  |cons b r=>cases r with
   |nil=>cases ha;rfl
   |cons _ _=>cases ha
 subst ea
 cases hl:Γ.gl (hash x) with
 |xin c f nm fl=>
  simp only[hl] at h
  obtain⟨h7,h8⟩:=zr h
  have h7:=beq_iff_eq.mp h7
  subst h7
  cases h8
  exact Jw C h0 (by simpa using h3) (by simpa using h4) hl h5 (H.e C.toCk h6)
 |_=>simp[hl] at h
section
open PySem.W
theorem Ku{prog:z7a}{w:z7o}{A:z7b}{E:Value->z6z->Prop}{s:z6z}{K:Frag}{x D:Addr}{ox:Obj}{od:Option Obj}{name:Str}{v:Value}{expr:Bool}{Q:Value->z6z->Prop}(X:K.In s.heap)(I:InstAt s.heap x ox D od)
 (hga:z70 K (.ref D) "__getattribute__"=some (some (.builtin "BaseException.__getattribute__"))) (hk:z70 K (.ref D) "__getattr__"=some none)
 (hf:zdA K D od name=some (.value v)) (hb:z8z K D (.type "BaseException")=some true) (hh:zc9 v=true)
 (h:Q v {s with toks:=s.toks+1}):z6I (z6L prog w) A (zcB (.ref x) name expr) Q E s:=by
 obtain⟨hh0,g,d,t,os⟩:=s
 have L0:=I.type (M:=z6L prog w)
 have L1:=zaA (M:=z6L prog w) X hga
 have L2:=zaA (M:=z6L prog w) X hk
 have L3:=looks_find (M:=z6L prog w) X I hf
 have L4:=looks_mroIn (M:=z6L prog w) X hb
 have f3:=z8p.ga.bind (.ref x)
 unfold zcB getAttrBy
 refine z6w (wpAny_mkText (z77 (z6w (L0.at (z6w (L1.at ?_))))))
 show z6I _ _ (z9x (.ref x) _ (.ref D) (.builtin "BaseException.__getattribute__") true expr) _ _ _
 unfold z9x hookBefore
 refine z6w ?_
 show z6I _ _ (zax (.ref D) "__getattr__") _ _ _
 refine L2.at ?_
 refine z6w (zaa (z77 ?_))
 unfold zcg boundAndCalled
 have hx0:(expr&&onTheHeap (zdq "BaseException.__getattribute__"))=false:=by cases expr<;>rfl
 rw[hx0,if_neg z6_]
 show z6I _ _ (zcn (.builtin "BaseException.__getattribute__") (.ref x) >>= _) _ _ _
 rw[f3]
 refine z6w (z6F ?_)
 show z6I _ _ (call (.builtin "BaseException.__getattribute__") [.ref x,.str name _]) _ _ _
 refine z8h (z8N z8p.ga.plain zaS ?_)
 have hkd:builtinKind "BaseException.__getattribute__"=some .slot:=by decide +kernel
 have hsp:splitId "BaseException.__getattribute__"=some ("BaseException","__getattribute__"):=by decide +kernel
 have ha:=zb0 (.ref x) (.str name t)
 have LI:zbl (z6L prog w) hh0 (zbz (.ref x) (.type "BaseException")) true:=L0.andThen L4
 simp only[zch,hkd,hsp]
 refine z6w (LI.at ?_)
 simp only[zdp,z9U,if_false]
 refine z99 (a:=()) ha ?_
 unfold zcC.«object.__getattribute__»
 refine z6w (m:=slotArgs _ _ _) (z6F ?_)
 dsimp only
 refine z6w ?_
 show z6I _ _ (z7U (.str name t)) _ _ _
 first
  |exact z6F (z6w (L0.at (z6w (L3.at ?_))))
  |(refine z6F (z6w (L0.at (z6w (L3.at ?_)))))
  |(unfold z7U;refine z6F (z6w (L0.at (z6w (L3.at ?_)))))
 dsimp only
 refine z6F ?_
 exact handed_on hh h
end
noncomputable abbrev z1r(c n:Nat)(t:T)(μ:Mem):RE T:=match t with
 |.exc c' fs=>.grd (c'=c) (match Wb fs n with|some v=>.ok v μ|none=>.st)
 |_=>.st
noncomputable abbrev Y1(c n:Nat)(f:De):De:=λτ μ=>(f τ μ).bind λt μ1=>z1r c n t μ1
section
variable {X:Cx}{D:DP}{W:XW}{Γ:Cn}{k:Nat}{pins:List (Addr×Obj)}{s:Shared}{σ:St}{H:Hp}{φ α:List Addr}{τ:Sl}{μ:Mem}{a:Expr}{pos:Pos}{f:De}
theorem z00(C:Ck D W Γ X k){x nm:Str}{c n:Nat}(hp:zT a=true)(hU:hash x∈Γ.U)(hg:Γ.gl (hash x)=.xin c n nm x)(ha:PE X a (rdE D W f)):PE X (.Attribute a x pos) (rdE D W (Y1 c n f)):=by
 have q:=(C.glU _ hU).1
 rw[hg] at q
 obtain⟨C0,HE,fI,fd,ps,kk,ad,hm,hfl,xi,hb,hkk,F⟩:=q
 rintro pins s σ H Q I ⟨φ,α,τ,μ,sr,mr,p⟩
 refine VH (qD hp) (thn (sub ha I sr mr p) ?_)
 rintro u s1 ⟨v,H1,t,μ1,α1,I1,r1,st1,sr1,mr1,d1,p1⟩
 unfold z1r at p1
 split at p1
 ·rename_i c' fs
  have hh:=p1.grd
  clear p1
  obtain⟨hc,p1⟩:=hh
  subst hc
  obtain⟨e,Ce,d,rfl,n1,n2,ad',he,hd⟩:=d1
  rw[ad] at ad'
  cases ad'
  cases r1
  split at p1
  ·rename_i w hw
   cases d with
   |none=>rw[show fs=[] from hd] at hw;cases hw
   |some dx=>
    obtain⟨gs,m1,m2,hdx,l⟩:=hd
    obtain⟨y,z,hy,hz,dz⟩:=l.look hw
    rw[hfl] at hy
    cases hy
    obtain⟨oe,vs,g1,g2,g3,g4⟩:XcAt e C0 (some dx) s1.heap:=(show ObjOk X.prog X.w H1 s1.heap e (.ext (XcAt e C0 (some dx))) from I1.hok _ _ he).1
    obtain⟨mA,ns,rel⟩:=(show ObjOk X.prog X.w H1 s1.heap dx (.xd gs) from I1.hok _ _ hdx)
    obtain⟨uu,hu,ru⟩:=RelO.some_of (v:=z) (o:=mA x) (by rw[←hz];exact rel x)
    obtain⟨od,ho,hl⟩:=Zs ns
    have xc:=C.xcx _ _ ad
    have J:zaV s1.heap e oe C0 (some od):=⟨g1,g2,by unfold zcZ;rw[g3],by rw[g4];exact ho⟩
    exact Ku I1.kIn J xc.ga xc.hk (zba xi.dct xi.no rfl (by rw[hl,hu])) xc.bx (uK ru) ⟨z,H1,I1.tok _,ru,p1.here mr1 dz⟩
  ·exact p1.elim
 ·exact p1.elim
end
noncomputable def z0z:Expr->Bool
 |.Name x _=>x != "self"
 |_=>true
noncomputable def XZ:ER:=λr Γ e=>match e with
 |.Attribute a x _=>gd (zT a&&z0z a&&Γ.U.contains (hash x)) ((r.e Γ a).bind λf=>(match Γ.gl (hash x) with
  |.xin c n _ fl=>gd (fl == x) (some (Y1 c n f))
  |_=>none))
 |_=>none
theorem Yr{D:DP}:EOk D XZ:=by
 intro r H X W Γ k e d C h
 unfold XZ at h
 split at h
 ·rename_i a x p0
  have hh:=zr h
  clear h
  obtain⟨hb,h⟩:=hh
  simp only[z6x] at hb
  obtain⟨⟨h0,h2⟩,h3⟩:=hb
  obtain⟨f,h6,h⟩:=bnd h
  cases hl:Γ.gl (hash x) with
  |xin c n nm fl=>
   simp only[hl] at h
   obtain⟨h7,h8⟩:=zr h
   have h7:=beq_iff_eq.mp h7
   subst h7
   cases h8
   exact z00 C h0 (by simpa using h3) hl (H.e C h6)
  |_=>simp[hl] at h
 ·cases h
noncomputable abbrev z5z(n:Nat)(o f:De):De:=λτ μ=>(o τ μ).bind λt μ1=>(ya t n μ1).bind λw μ2=>.grd (z56 w) ((f τ μ2).bind λ_ μ3=>.ok .non μ3)
noncomputable abbrev z4W(j:Nat):De:=λ_ (μ:Mem) K _=>(∃i:Nat,μ[i]?=some (MO.tab j))/\K (.clo (2 * j) [.clo (100+j) []]) μ
noncomputable abbrev z3w(c:Nat)(g:Fn)(fs:List De):De:=λτ μ=>(evs fs τ μ).bind (xM c λts μ=>g (ts++[.non]) μ)
noncomputable def Uz:Str:=⟨#[37]⟩
noncomputable def til(m:Str):Str:=⟨#[126]++m.cps⟩
section
variable {X:Cx}{D:DP}{W:XW}{Γ:Cn}{k:Nat}{pins:List (Addr×Obj)}{s:Shared}{σ:St}{H:Hp}{φ α:List Addr}{τ:Sl}{μ:Mem}{f g:De}{fs:List De}{a b c:Expr}{pos:Pos}{es:List Expr}
theorem Qw{A:z7b}{E:Value->z6z->Prop}{ad C0 dx:Addr}{gs:List (Str×V)}{m:Str}{v:V}{pl:Sem Bool}{Q:Value×List Value->z6z->Prop}(I:Inv X pins σ H s)(e:H ad=some (.ins C0 dx gs))(c:Cls X.K C0)(n:NoAttr X.K C0 m)(l:gs.lookup m=some v)
  (h:∀u s',Inv X pins σ H s'->RelV v u->Q (u,[]) s'):z6I (z6L X.prog X.w) A (zds (.ref ad) m pl) Q E s:=by
 obtain⟨mA,O,r,_,_,_⟩:=k6 I.hok e
 obtain⟨od,J,hl⟩:=O.look
 exact PySem.W.method_usual I.kIn J (z8j (c.get m)).1 (z8j (c.get m)).2 n rfl (yz I e c n l h)
theorem z0M{c:Nat}{g:Fn}{C0 fI:Addr}{fd:z7T}{ps:List Str}{kk:Nat}{us:List Value}{vs:List V}{ts:List T}{Q:VK}(C:Ck D W Γ X k)(ad:D.cad c=some C0)(M:Mk X.K C0 fI)(F:FnOk X.prog X.w X.K X.mg X.base (CX1 X.prog X.w) kk fI fd ps (spN D ps.length g))
  (hr:Room (kk+1) X.A) (hb:Binds X.K fd ps [.none]) (har:∀ts μ K Z,g ts μ K Z->ts.length=ps.length) (I:Inv X pins σ H s) (r:Vals vs us) (mr:MRel D φ α H μ) (d:DenL D φ α H ts vs) (p:Post D W φ α H σ (RV D φ Q) (xM c (λts μ=>g (ts++[.non]) μ) ts μ)) :
  z6I (z6L X.prog X.w) X.A (call (.ref C0) us) (EP X pins σ Q) X.xe s:=by
 obtain⟨K,Z,hg,hk,hz⟩:=p
 have hl:(T.mut μ.length::ts++[T.non]).length=ps.length:=har _ _ _ _ hg
 have hlv:(V.ref 0::(vs++[V.non])).length=ps.length:=by
  have:=d.length
  simp only[z6Y,z72,z7s] at hl ⊢;omega
 have hq:∀x dx,H x=none->H dx=none->dx≠x->spN D ps.length g (.ref x::(vs++[.non])) (upd (upd H dx (.own x)) x (.ins C0 dx [])) (λv H2=>v=.non/\Q (.ref x) H2) (λc d H'=>W c d σ H'):=by
  intro x dx hx hdx hne
  have sm1:vz H (upd H dx (.own x)):=zk hdx
  have hx1:upd H dx (.own x) x=none:=by rw[z7 (z6Z hne)];exact hx
  have mr1:MRel D φ α (upd H dx (.own x)) μ:=mr.new sm1
  have st0:Stp α H (α++[x]) (upd (upd H dx (.own x)) x (.ins C0 dx [])):=(Stp.new sm1).trans (jQ hx1)
  have mr2:MRel D φ (α++[x]) (upd (upd H dx (.own x)) x (.ins C0 dx [])) (μ++[.obj c []]):=mr1.layO hx1 ⟨C0,dx,[],ad,z6,rfl⟩
  have hget:(α++[x])[μ.length]?=some x:=by rw[←mr.len,z6S (z6E _)];simp
  refine⟨hlv,φ,α++[x],.mut μ.length::(ts++[T.non]),μ++[MO.obj c []],⟨.ref x,vs++[.non],rfl,⟨x,hget,rfl⟩,DenL.append (d.step st0) (show DenL D φ (α++[x]) _ [T.non] [V.non] from ⟨.non,[],rfl,rfl,rfl⟩)⟩,mr2,_,_,hg,?_,?_⟩
  ·rintro t μ2 ⟨rfl,q⟩ α2 H3 st m v dv
   refine⟨dv,?_⟩
   obtain⟨β,e,_⟩:=st.ext
   refine hk _ _ q α2 H3 (st0.trans st) m _ ⟨x,?_,rfl⟩
   rw[e,z6B (z6v.mp hget).1];exact hget
  ·rintro e fs μ2 q α2 H3 C1 d1 st m had xd
   exact hz _ _ _ q α2 H3 C1 d1 (st0.trans st) m had xd
 have hq1:=hq (s.heap.objs.size+1) s.heap.objs.size (I.hok.fresh (z9t _)) (I.hok.fresh (z6E _)) (z73 (z7Z _))
 have I2:=Inv.made (C:=C0) I
 have r2:Vals (V.ref (s.heap.objs.size+1)::(vs++[V.non])) (z6W (s.heap.objs.size+1)::us++[.none]):=.cons rfl (r.append (.cons rfl .nil))
 have hlu:(z6W (s.heap.objs.size+1)::us++[z7z]).length=ps.length:=by
  have:=r2.length
  rw[←this]
  simpa using hlv
 refine z8h (uh (f:=fI) I.kIn M.makes M.init (beq_iff_eq.mp M.fn) (z8a (F.run _ X.stack _ _ ⟨z6W (s.heap.objs.size+1)::us,[]⟩ (z6W (s.heap.objs.size+1)::us++[.none]) _ _ (λc d H'=>W c d σ H') (hr.make C0 us [])
  (I2.env0.make C0 us []) (by simpa using hb _ (z6W (s.heap.objs.size+1)::us) I2.kIn hlu) r2 hq1) λr s' hq'=>?_))
 cases r with
 |error e=>exact C.xe e s' (xQ (E:=λc d H'=>W c d σ H') I2 hq' λcls d H' w=>w)
 |ok fl=>
  cases fl with
  |ret u=>
   obtain⟨v,H',I3,rv,ev,q3⟩:=I2.after hq'
   subst ev
   exact⟨rv,⟨V.ref (s.heap.objs.size+1),H',I3,rfl,q3⟩⟩
  |next=>exact z7c hq'
  |brk=>exact z7c hq'
  |cont=>exact z7c hq'
theorem Ub(C:Ck D W Γ X k){x:Str}{c n:Nat}{g:Fn}{p0:Pos}(hx:x∈Γ.G)(hU:til x∈Γ.U)(hg:Γ.gl (til x)=.mkd c x n g)(hc:Γ.calm=true)(ha:EsOk X D W (a::es) fs):PE X (.Call (.Name x p0) (a::es) [] pos) (rdE D W (z3w c g fs)):=by
 have q:=(C.glU _ hU).1
 rw[hg] at q
 obtain⟨C0,fI,fd,ps,kk,ad,hm,M,hb,hkk,Fn,har,_⟩:=q
 have hr:=(C.rom hc).mono hkk
 have hs:=ha.stars
 have pa:=wK ha
 rintro pins s σ H Q I ⟨φ,α,τ,μ,sr,mr,p⟩
 refine z7I (qV I (C.glb x hx) hm ?_ (C.dbG x hx))
 simp only[z7y,z6x] at hs
 refine z82 (h₀:=X.base) I.ok.mod.kin M.kp (thn (Y5 pa I sr mr p) ?_) (za hs.1) (qt hs.2)
 rintro us s1 ⟨vs,H1,ts,μ1,α1,I1,r1,st1,sr1,mr1,d1,_,p1⟩
 exact⟨I1.kIn,z0M C ad M Fn hr hb har I1 r1 mr1 d1 p1⟩
end
noncomputable def z6u:ER:=λr Γ e=>match e with
 |.Lambda ⟨[],[⟨y,none,_⟩],none,[],[],none,[]⟩ (.Constant .none _ _) sc pl=>gd (z1q y sc&&Γ.U.contains Uz) (match Γ.gl Uz,Γ.lam with
  |.kpr,some (j,poss)=>gd (decide (pl∈poss)&&decide (j<2)) (some (z4W j))
  |_,_=>none)
 |_=>none
noncomputable def z6q:ER:=λr Γ e=>match e with
 |.Call (.Attribute o m pa) [a] [] pc=>gd (zT o&&pa.endLine == pc.line&&Γ.calm&&noStar a&&Γ.U.contains Uz&&m == ("keeper":Str)) ((r.e Γ o).bind λgo=>(r.e Γ a).bind λf=>(match Γ.gl Uz,Γ.fld.lookup m with
  |.kpr,some n=>some (z5z n go f)
  |_,_=>none))
 |_=>none
theorem yx{x:Str}{n:Nat}:∀{l:List (Str×Nat)},l.lookup x=some n->(x,n)∈l
 |[],h=>by cases h
 |(y,m)::r,h=>by
  rw[z79] at h
  split at h
  ·rename_i e
   have e:=beq_iff_eq.mp e
   cases h
   rw[e];exact z6U
  ·exact z6H _ (yx h)
noncomputable def z3H:ER:=λr Γ e=>match e with
 |.Call (.Name x _) (a::es) [] _=>gd ((idx Γ.N x).isNone&&Γ.calm&&Γ.G.contains x&&Γ.U.contains (til x)) ((cEs r Γ (a::es)).bind λfs=>(match Γ.gl (til x) with
  |.mkd c nm n g=>gd (nm == x&&decide (es.length+1=n)) (some (z3w c g fs))
  |_=>none))
 |_=>none
theorem UN{D:DP}:EOk D z3H:=by
 intro r H X W Γ k e d C h
 unfold z3H at h
 split at h
 ·rename_i x p0 a es pos
  have hh:=zr h
  clear h
  obtain⟨hb,h⟩:=hh
  simp only[z6x] at hb
  obtain⟨⟨⟨h0,h1⟩,h2⟩,h3⟩:=hb
  obtain⟨fs,e1,h⟩:=bnd h
  cases hl:Γ.gl (til x) with
  |mkd c nm n g=>
   simp only[hl] at h
   obtain⟨h4,h5⟩:=zr h
   simp only[z6x] at h4
   have h4:=beq_iff_eq.mp h4.1
   subst h4
   cases h5
   exact Ub C (by simpa using h2) (by simpa using h3) hl h1 (wH H C e1)
  |_=>simp[hl] at h
 ·cases h
section
variable {P:Program}{w:World}{K:PySem.W.Frag}{mg:Str->Option Value}{base:Heap}{D:DP}{k n:Nat}
theorem vV{fd:z7T}{ps:List Str}{T0:Addr}{o:Obj}{items:Array Value}{n:Nat}(hd:fd.defaults=.ref T0)(ho:K.lookup T0=some o)(hs:o.data=.seq items n)(h:∀us:List Value,us.length=ps.length->∃k,zaj fd ⟨us,[]⟩=zdu fd.defaults >>= k/\k (some items)=pure (ps.zip us)):Binds K fd ps []:=λs us X hl=>by
 rw[z74] at hl ⊢
 obtain⟨k,h1,h2⟩:=h us hl
 exact zcz X hd ho hs h1 h2
theorem vO{fd:z7T}{ps:List Str}{T0:Addr}{o:Obj}{items:Array Value}{n:Nat}{d:Value}(hd:fd.defaults=.ref T0)(ho:K.lookup T0=some o)(hs:o.data=.seq items n)(h:∀us:List Value,us.length+1=ps.length->∃k,zaj fd ⟨us,[]⟩=zdu fd.defaults >>= k/\k (some items)=pure (ps.zip (us++[d]))):Binds K fd ps [d]:=λs us X hl=>by
 obtain⟨k,h1,h2⟩:=h us (by simpa using hl)
 exact zcz X hd ho hs h1 h2
end
end NH
namespace NH.P
open PySem L2 NH
@[reducible] noncomputable def wU:List Ds:=[(zp (Jx (zb qO [(eV 0)]) (zv .GtE (eV 0) (eC (.int 0)))))]
noncomputable def qj:Fn:=fnW 1 0 wU
@[reducible] noncomputable def kU:List Ds:=[(sIf (tOr (vE (tE (xY [4] (eV 1)))) (tE (zv .NotEq (eB1 ur (eV 1)) (eC (.int 2))))) [(zp (eC (.bl false)))] []),(sIf (vE (tOr (tE (zv .Is (eIx (eV 1) (eC (.int 0))) (eC .non))) (tE (zb vB [(eV 0),(eIx (eV 1) (eC (.int 0)))])))) [(zp (eC (.bl false)))] []),(zp (eOr (zv .Is (eIx (eV 1) (eC (.int 1))) (eC .non)) (zb qE [(eIx (eV 1) (eC (.int 1))),(zi (eV 0) 0)])))]
noncomputable def xP:Fn:=fnW 2 0 kU
@[reducible] noncomputable def jM:List Ds:=[(qI (eV 0) 11 (eV 1)),(qI (eV 0) 12 (eV 2)),(qI (eV 0) 13 (eV 3))]
noncomputable def qw:Fn:=fnW 4 0 jM
@[reducible] noncomputable def Zb:List Ds:=[(zp (zb xD [(eV 0),(ze .FloorDiv (eV 2) (zi (eV 0) 2)),(eV 1),(ze .Mod (eV 2) (zi (eV 0) 2))]))]
noncomputable def kq:Fn:=fnW 3 0 Zb
@[reducible] noncomputable def j8:List Ds:=[(zj 3 (zb vH [(eV 0),(eV 2)])),(sIf (tE (zv .Lt (eIx (eV 3) (eC (.int 1))) (eV 1))) [(zp (ze .Mult (eIx (eV 3) (eC (.int 0))) (zi (eV 0) 2)))] []),(sIf (tE (zv .Gt (eIx (eV 3) (eC (.int 1))) (eV 1))) [(zp (ze .Mult (ze .Add (eIx (eV 3) (eC (.int 0))) (eC (.int 1))) (zi (eV 0) 2)))] []),(zp (ze .Add (ze .Add (ze .Mult (eIx (eV 3) (eC (.int 0))) (zi (eV 0) 2)) (eIx (eV 3) (eC (.int 2)))) (eC (.int 1))))]
noncomputable def wu:Fn:=fnW 3 1 j8
@[reducible] noncomputable def wY:List Ds:=[(sIf (tE (zi (eV 0) 20)) [(qx 24 [(eC (.str "the house has fallen"))])] [])]
noncomputable def zM:Fn:=fnW 1 0 wY
@[reducible] noncomputable def kn:List Ds:=[(zp (qZ [(zi (eV 0) 6),(zi (eV 0) 17)]))]
noncomputable def qK:Fn:=fnW 1 0 kn
@[reducible] noncomputable def qA:List Ds:=[(sIf (tE (zv .Is (zi (eV 0) 6) (eC .non))) [(qx 18 [(eC (.str "the house has no lease"))])] [])]
noncomputable def zE:Fn:=fnW 1 0 qA
@[reducible] noncomputable def we:List Ds:=[(sIf (tE (zv .IsNot (zi (eV 0) 18) (eC .non))) [(zp (zb wu [(zi (eV 0) 9),(eIx (zi (eV 0) 6) (eC (.int 0))),(zi (eV 0) 18)]))] []),(sIf (tE (zv .IsNot (zi (eV 0) 17) (eC .non))) [(zp (ze .Mult (ze .Add (zi (eV 0) 17) (eC (.int 1))) (zi (zi (eV 0) 9) 2)))] []),(zp (eC (.int 0)))]
noncomputable def ql:Fn:=fnW 1 0 we
@[reducible] noncomputable def wk:List Ds:=[(sIf (tOr (vE (tE (zb wy [(eV 2)]))) (tE (zv .Gt (eV 2) (zi (zi (eV 0) 9) 2)))) [(qx 20 [(eC (.str "so many are whole numbers from 1 on up to the shape's counts"))])] []),(sIf (vE (tE (zb qO [(eV 1)]))) [(qx 16 [(eC (.str "a reading is a whole number"))])] []),(zF (zS 45 zE (eV 0) [])),(zj 3 (ze .Mult (eB2 uH (eIx (zi (eV 0) 6) (eC (.int 1))) (eV 1)) (zi (zi (eV 0) 9) 2))),(zj 4 (eB2 uH (zS 45 ql (eV 0) []) (eV 3))),(zj 5 (ze .Add (eV 4) (eV 2))),(sIf (tE (zv .Gt (eV 5) (ze .Mult (eIx (zi (eV 0) 6) (eC (.int 2))) (zi (zi (eV 0) 9) 2)))) [(qx 18 [(eC (.str "the lease has not so many names"))])] []),(zj 6 (ze .Sub (ze .FloorDiv (ze .Sub (eV 5) (eC (.int 1))) (zi (zi (eV 0) 9) 2)) (ze .Add (eV 1) (zi (eV 0) 14)))),(sIf (tE (zv .Gt (eV 6) (eC (.int 0)))) [(ZN 21 29 (eV 6))] []),(zp (eMk 44 qw [(eIx (zi (eV 0) 6) (eC (.int 0))),(eV 4),(eV 5)]))]
noncomputable def qp:Fn:=fnW 3 4 wk
@[reducible] noncomputable def qr:List Ds:=[(sIf (vX (tE (zv .IsNot (zi (eV 0) 17) (eC .non))) (tE (zv .LtE (eV 1) (zi (eV 0) 17)))) [(zp (zi (eV 0) 17))] []),(zp (eB2 vI (ze .Add (eV 1) (zi (eV 0) 15)) (ze .Sub (zi (zi (eV 0) 9) 0) (eC (.int 1)))))]
noncomputable def qe:Fn:=fnW 2 0 qr
@[reducible] noncomputable def km:List Ds:=[(zp (zi (eV 0) 18))]
noncomputable def wj:Fn:=fnW 1 0 km
@[reducible] noncomputable def Zz:List Ds:=[(zj 2 (ze .Mod (ze .Mult (ze .Add (ze .Add (ze .Mod (eV 0) (eC (.int 2147483629))) (ze .Mult (eC (.int 69621)) (eV 1))) (eC (.int 1))) (eC (.int 48271))) (eC (.int 2147483629)))),(zj 2 (ze .Mod (ze .Mult (eV 2) (ze .Add (ze .FloorDiv (eV 2) (eC (.int 1009))) (eC (.int 69621)))) (eC (.int 2147483629)))),(zj 2 (ze .Mod (ze .Mult (eV 2) (ze .Add (ze .Add (ze .FloorDiv (eV 2) (eC (.int 907))) (eC (.int 16807))) (eV 1))) (eC (.int 2147483629)))),(zp (ze .Mod (ze .Mult (eV 2) (ze .Add (ze .FloorDiv (eV 2) (eC (.int 1201))) (eC (.int 30011)))) (eC (.int 2147483629))))]
noncomputable def xT:Fn:=fnW 2 1 Zz
@[reducible] noncomputable def yK:List Ds:=[(zp (ji [(ze .Mult (ze .FloorDiv (eV 0) (eC (.int 2))) (ze .Sub (eC (.int 1)) (ze .Mod (eV 0) (eC (.int 2))))),(eV 0),(eC (.int 0))]))]
noncomputable def wO:Fn:=fnW 1 0 yK
@[reducible] noncomputable def yb:List Ds:=[(sIf (tE (zv .Gt (eIx (eV 0) (eC (.int 0))) (eC (.int 0)))) [(zj 2 (ze .Mod (eIx (eV 0) (eC (.int 0))) (eV 1))),(z0S (eV 0) (eC (.int 0)) (ze .FloorDiv (eIx (eV 0) (eC (.int 0))) (eV 1))),(zp (eV 2))] []),(z0S (eV 0) (eC (.int 2)) (ze .Add (eIx (eV 0) (eC (.int 2))) (eC (.int 1)))),(zp (ze .Mod (zb xT [(eIx (eV 0) (eC (.int 1))),(eIx (eV 0) (eC (.int 2)))]) (eV 1)))]
noncomputable def zh:Fn:=fnW 2 1 yb
end NH.P
namespace NH
open PySem PySem.Spec PyProof.Rows L2
noncomputable abbrev z1X(ts:List T)(μ:Mem):RE T:=.som (intsOf ts) λns=>.ok (.int ns.sum) μ
noncomputable abbrev z0X(t:T)(μ:Mem):RE T:=match t with
 |.lst ts=>z1X ts μ
 |.mut i=>λK Z=>∃ts,μ[i]?=some (.lst ts)/\z1X ts μ K Z
 |_=>.st
noncomputable def z4U(i:Nat)(t:T)(μ:Mem)(zs:List T):Prop:=t=.lst zs\/∃j,t=.mut j/\j≠i/\μ[j]?=some (.lst zs)
noncomputable abbrev Km(o f:De):De:=λτ μ=>(o τ μ).bind λot μ1=>match ot with
 |.mut i=>λK Z=>(∃ts,μ1[i]?=some (.lst ts))/\f τ μ1 (λt μ2=>∃ts zs,μ2[i]?=some (.lst ts)/\z4U i t μ2 zs/\ts.length+zs.length<=room/\K .non (μ2.set i (.lst (ts++zs)))) Z
 |_=>.st
section
variable {X:Cx}{D:DP}{W:XW}{Γ:Cn}{k:Nat}{pins:List (Addr×Obj)}{s:Shared}{σ:St}{H:Hp}{φ α:List Addr}{τ:Sl}{μ:Mem}{f g:De}{fs:List De}{a b c:Expr}{pos:Pos}{es:List Expr}
theorem z3J{A:z7b}{E:Value->z6z->Prop}{prog:z7a}{w:z7o}{l:Addr}{vs:List Value}{ns:List Int}{Q:Value->z6z->Prop}(hh:A.handled=none)(hl:s.heap.IsList l vs.toArray)(hi:z8v vs ns)
  (h:∀h' tk t',(∀b o,s.heap.get? b=some o->h'.get? b=some o)->Q (.int ns.sum t') {s with heap:=h',toks:=tk}):z6I (z6L prog w) A (call (.builtin "sum") [.ref l]) Q E s:=by
 obtain⟨xs,hx⟩:=hi.allInts.items
 have hl':s.heap.IsList l (intItems xs):=hx▸hl
 refine sum_intListG hh hl' λh' tk t' hk=>?_
 have e1:ns=xs.toList.map (·.1):=by
  rw[←nums_intItems,←hx]
  exact (show numsOf vs.toArray.toList=ns from hi.numsOf).symm
 have e2:preSum (numAt xs) xs.size=ns.sum:=by
  rw[preSum_eq,z7V (by simp),e1]
 rw[e2]
 exact h h' tk t' hk
theorem X0{ad:Addr}{xs:List T}{ws:List V}{Q:VK}(hc:X.calm=true)(I:Inv X pins σ H s)(mr:MRel D φ α H μ)(q:Rd H ad (.lst ws))(l:DenL D φ α H xs ws)(p:Post D W φ α H σ (RV D φ Q) (z1X xs μ)) :
  z6I (z6L X.prog X.w) X.A (call (.builtin "sum") [.ref ad]) (EP X pins σ Q) X.xe s:=by
 obtain⟨its,rv,pl,hz⟩:=I.list (.inl q)
 obtain⟨ns,hns,p⟩:=Post.som p
 have ey:=vv hns l
 subst ey
 refine z3J (I.ok.hd hc) pl.isList (intsAre_of rv) λh' tk t' kp=>?_
 exact⟨.int ns.sum,H,I.kept kp,⟨_,rfl⟩,Post.here p mr rfl⟩
theorem z2A(hc:X.calm=true):B1 X D W (.builtin "sum") z0X:=by
 intro pins s σ H φ α μ t v u Q I mr d r p
 unfold z0X at p
 split at p
 ·obtain⟨ad,xs,rfl,_,_,q,l⟩:=d
  cases r
  exact X0 hc I mr q l p
 ·obtain⟨ts,hj,p⟩:=p.ex1
  obtain⟨ad,hi,rfl⟩:=d
  cases r
  obtain⟨xs,q,l⟩:=mr.ob _ ad _ hi hj
  exact X0 hc I mr (.inl q) l p
 ·exact p.elim
theorem Vm:MtR X "list.extend" (λx vs H Q=>∃l b xs zs,x=.ref l/\vs=[.ref b]/\H l=some (.lst xs)/\Rd H b (.lst zs)/\xs.length+zs.length<=sizeLine/\Q .non (upd H l (.lst (xs++zs)))):=by
 intro pins s σ H x vs v us Q I rx rv h
 obtain⟨l,b,xs,zs,rfl,rfl,hH,hB,hz,q⟩:=h
 cases rx
 obtain⟨u,rfl,ru⟩:=vals1 rv
 cases ru
 obtain⟨z,its,n,r,hl,e⟩:=I.lstM hH
 obtain⟨z2,its2,n2,r2,e2⟩:=hB.ok I.hok
 have hl2:=r2.length
 have hsz:its.toArray.size+its2.toArray.size<=sizeLine:=by rw[z6V,z6V];omega
 have hlong:¬(!its.toArray.isEmpty&&z8X (its.toArray.size+its2.toArray.size))=true:=by
  rw[YW hsz,za_]
  exact z6_
 refine call_meets F.slot_list_extend ⟨_,e,rfl⟩ F.entry_list_extend (F.args_list_extend_2 _ _)
  (AutoSeq1.list_extend_list_list_0 l its.toArray n b its2.toArray n2 hlong (by rw[z6V];omega) (by omega)) ⟨e,e2,?_⟩
 refine⟨.non,_,I.lset (its':=its++its2) hH e (by simp) (r.append r2) ?_,rfl,q⟩
 rw[z72]
 omega
theorem z36{o:Expr}{pa pc:Pos}{go:De}(hp:zT o=true)(hs:noStar a=true)(hline:(pa.endLine == pc.line)=true)(ho:PE X o (rdE D W go))(ha:PE X a (rdE D W f)) :
  PE X (.Call (.Attribute o "extend" pa) [a] [] pc) (rdE D W (Km go f)):=by
 have hb:z7m [a] X.env=[(false,eval a X.env)]:=za hs
 refine PE.mono (z17 zao PySem.F.slot_list_extend PySem.F.type_list_extend Vm ho (zI ha qH (za hs)) (qD hp) (by rw[hb];rfl) hline (za hs) rfl) ?_
 rintro σ H Q ⟨φ,α,τ,μ,sr,mr,p⟩
 refine⟨φ,α,τ,μ,sr,mr,p.bind.mono λot μ1 α1 H1 st1 m1 q ov dv=>?_⟩
 split at q
 case h_2=>exact q.elim
 rename_i i
 obtain⟨K,Z,⟨⟨ts0,hμ0⟩,hf⟩,hk,hz⟩:=q
 obtain⟨x,hx,rfl⟩:=dv
 obtain⟨xs0,hH0,l0⟩:=m1.ob _ x _ hx hμ0
 refine⟨.inl ⟨rfl,_,.inl (.inl hH0)⟩,φ,α1,τ,μ1,sr.step st1,m1,_,Z,hf,?_,hz⟩
 rintro t μ2 ⟨ts,zs,hμ,hl,hr,q2⟩ α2 H2 st2 m2 v d
 obtain⟨β,e2,_⟩:=st2.ext
 have hx2:α2[i]?=some x:=by
  rw[e2,z6B (z6v.mp hx).1];exact hx
 obtain⟨xs,hH,l⟩:=m2.ob i x _ hx2 hμ
 have hv:∃y ws,v=.ref y/\Rd H2 y (.lst ws)/\DenL D φ α2 H2 zs ws:=by
  rcases hl with rfl|⟨j,rfl,hj,hμj⟩
  ·obtain⟨y,ws,rfl,_,_,r,dl⟩:=d
   exact⟨y,ws,rfl,r,dl⟩
  ·obtain⟨y,hy,rfl⟩:=d
   obtain⟨ws,hw,dl⟩:=m2.ob j y _ hy hμj
   exact⟨y,ws,rfl,.inl hw,dl⟩
 obtain⟨y,ws,rfl,hr2,dl⟩:=hv
 have st4:Stp α2 H2 α2 (upd H2 x (.lst (xs++ws))):=Stp.turn (z6M hx2) ⟨_,hH⟩
 have hi:i<μ2.length:=(z6v.mp hμ).1
 refine⟨x,y,xs,ws,rfl,rfl,hH,hr2,?_,?_⟩
 ·rw[←l.length,←dl.length];exact z6X hr (zA (z6E _))
 ·exact hk _ _ q2 α2 _ (st2.trans st4) (m2.turn hx2 hi st4 ⟨_,z6,(l.step st4).append (dl.step st4)⟩) .non rfl
end
noncomputable def z4Y:ER:=rB1 "sum" z0X true
theorem z0_{D:DP}:EOk D z4Y:=XB λC hx hg hc hs ha=>z1e C hx hg (by decide +kernel) (by decide) hs (z2A (C.clm (hc rfl))) ha
noncomputable def z4r:ER:=λr Γ e=>match e with
 |.Call (.Attribute o m pa) [a] [] pc=>gd (m == ("extend":Str)&&zT o&&noStar a&&pa.endLine == pc.line) ((r.e Γ o).bind λgo=>(r.e Γ a).bind λf=>some (Km go f))
 |_=>none
theorem z12{D:DP}:EOk D z4r:=by
 intro r H X W Γ k e d C h
 unfold z4r at h
 split at h
 ·obtain⟨hb,h1⟩:=zr h
  clear h
  simp only[z6x] at hb
  obtain⟨⟨⟨h0,h2⟩,h3⟩,h4⟩:=hb
  have h0:=beq_iff_eq.mp h0
  subst h0
  obtain⟨go,e1,h1⟩:=bnd h1
  obtain⟨f,e2,h1⟩:=bnd h1
  cases h1
  exact z36 h2 h3 h4 (H.e C e1) (H.e C e2)
 ·cases h
noncomputable def Vv:ER:=λr Γ e=>match e with
 |.Tuple [a,b] _ _=>gd (noStar a&&noStar b) ((r.e Γ a).bind λf=>(r.o Γ b).bind λg=>some (qZ [f,g]))
 |_=>none
theorem JK{D:DP}:EOk D Vv:=by
 intro r H X W Γ k e d C h
 unfold Vv at h
 split at h
 ·obtain⟨hb,h⟩:=zr h
  simp only[z6x] at hb
  obtain⟨f,h1,h⟩:=bnd h
  obtain⟨g,h2,h⟩:=bnd h
  cases h
  exact Xx (by show (2:Nat)<=room;decide) ⟨hb.1,H.e C h1,hb.2,H.o C h2,trivial⟩
 ·cases h
end NH
namespace NH.P
open PySem L2 NH
@[reducible] noncomputable def wg:List Ds:=[(zp (vk 1 [1,0] (.one 0) (uU (zi (eV 1) 12) (zi (eV 1) 13)) [] (zb kq [(eV 2),(zi (eV 1) 11),(eV 0)])))]
noncomputable def zZ:Fn:=fnW 2 0 wg
@[reducible] noncomputable def xq:List Ds:=[(zp (eB1 z0X (ja 1 [] (.one 0) (iE (eV 0)) [] (ze .Sub (zi (eV 0) 13) (zi (eV 0) 12)))))]
noncomputable def wN:Fn:=fnW 1 0 xq
@[reducible] noncomputable def Ws:List Ds:=[(zj 2 (ji [])),(zj 3 (ji [])),(zj 4 (eV 1)),(Kr (.one 5) (iE (eV 0)) [(zj 6 (eB2 vI (ze .Add (zi (eV 5) 12) (eV 4)) (zi (eV 5) 13))),(zj 4 (ze .Sub (eV 4) (ze .Sub (eV 6) (zi (eV 5) 12)))),(zF (y3 (eV 2) (eMk 44 qw [(zi (eV 5) 11),(zi (eV 5) 12),(eV 6)]))),(zF (y3 (eV 3) (eMk 44 qw [(zi (eV 5) 11),(eV 6),(zi (eV 5) 13)])))]),(zp (qZ [(eV 2),(vk 1 [] (.one 0) (iE (eV 3)) [(tE (zv .Lt (zi (eV 0) 12) (zi (eV 0) 13)))] (eV 0))]))]
noncomputable def parted:Fn:=fnW 2 5 Ws
@[reducible] noncomputable def vJ:List Ds:=[(sIf (vE (vX (tE (zb qj [(eV 2)])) (tE (zb qj [(eV 3)])))) [(qx 16 [(eC (.str "ahead and stride are whole numbers from 0 on"))])] []),(sIf (vX (tE (zv .IsNot (eV 5) (eC .non))) (vE (tE (zb xP [(eV 1),(eV 5)])))) [(qx 23 [(eC (.str "no note of the shape"))])] []),(qI (eV 0) 9 (eV 1)),(qI (eV 0) 14 (eV 2)),(qI (eV 0) 15 (eV 3)),(qI (eV 0) 16 (eV 4)),(qI (eV 0) 6 (eIf (tE (zv .Is (eV 5) (eC .non))) (eC .non) (eIx (eV 5) (eC (.int 0))))),(qI (eV 0) 17 (eIf (tE (zv .Is (eV 5) (eC .non))) (eC .non) (eIx (eV 5) (eC (.int 1))))),(qI (eV 0) 18 (eC .non)),(qI (eV 0) 19 (ji [])),(qI (eV 0) 20 (eC (.bl false)))]
noncomputable def zD:Fn:=fnW 6 0 vJ
@[reducible] noncomputable def ve:List Ds:=[(zF (zS 45 zM (eV 0) [])),(sIf (vE (tE (zb wy [(eV 1)]))) [(qx 20 [(eC (.str "so many are whole numbers from 1 on"))])] []),(sIf (tE (zv .Lt (zb wN [(zi (eV 0) 19)]) (eV 1))) [(qx 22 [(eC (.str "fewer are in store"))])] []),(zj 2 (zb parted [(zi (eV 0) 19),(eV 1)])),(qI (eV 0) 19 (eIx (eV 2) (eC (.int 1)))),(zj 3 (ji [])),(Kr (.one 4) (iE (eIx (eV 2) (eC (.int 0)))) [(zF (Km (eV 3) (zb zZ [(zi (eV 0) 9),(eV 4)])))]),(zp (eV 3))]
noncomputable def qv:Fn:=fnW 2 3 ve
@[reducible] noncomputable def uX:List Ds:=[(sIf (tOr (tE (zv .Is (eV 1) (eC .non))) (tE (zv .Lt (eV 1) (eIx (eV 0) (eC (.int 1)))))) [(zp (eC .non))] []),(zp (eB2 vI (eV 1) (ze .Sub (eIx (eV 0) (eC (.int 2))) (eC (.int 1)))))]
noncomputable def xE:Fn:=fnW 2 0 uX
@[reducible] noncomputable def qU:List Ds:=[(sIf (tE (zv .Is (zi (eV 0) 18) (eC .non))) [(zp (zi (eV 0) 17))] []),(zp (eIx (zb vH [(zi (eV 0) 9),(zi (eV 0) 18)]) (eC (.int 0))))]
noncomputable def qf:Fn:=fnW 1 0 qU
@[reducible] noncomputable def xl:List Ds:=[(zj 1 (eIx (jI [(ze .Add (eC (.int 1)) (zb zh [(eV 0),(eC (.int 90))])),(ze .Add (eC (.int 1)) (ze .Mult (zb zh [(eV 0),(ze .Pow (eC (.int 10)) (eC (.int 9)))]) (eC (.int 1000)))),(ze .Pow (eC (.int 10)) (eC (.int 20)))]) (zb zh [(eV 0),(eC (.int 3))]))),(zp (qZ [(eV 1),(ze .Add (eC (.int 1)) (zb zh [(eV 0),(eC (.int 5))])),(ze .Add (eC (.int 1)) (eIx (jI [(zb zh [(eV 0),(eC (.int 4))]),(zb zh [(eV 0),(eC (.int 900))])]) (zb zh [(eV 0),(eC (.int 2))])))]))]
noncomputable def vT:Fn:=fnW 1 1 xl
@[reducible] noncomputable def Zx:List Ds:=[(Jy [2,3,4] (eV 0)),(zp (qZ [(ze .FloorDiv (ze .FloorDiv (eV 1) (eV 4)) (eV 3)),(ze .Mod (ze .FloorDiv (eV 1) (eV 4)) (eV 3)),(ze .Mod (eV 1) (eV 4))]))]
noncomputable def vd:Fn:=fnW 2 3 Zx
@[reducible] noncomputable def kI:List Ds:=[(Jy [4,5,6] (eV 0)),(Jy [7,8,9] (eV 1)),(zj 10 (ze .Mult (ze .Add (ze .Mult (eB2 uH (eV 8) (eV 3)) (eV 5)) (eV 7)) (eV 6))),(sIf (vX (tE (zv .IsNot (eV 2) (eC .non))) (tE (zv .GtE (eV 2) (eV 10)))) [(Jy [11,12,13] (zb vd [(eV 0),(eV 2)])),(zj 10 (ze .Mult (ze .Add (ze .Mult (eV 11) (eV 5)) (eV 7)) (eV 6))),(sIf (tE (zv .GtE (eV 2) (eV 10))) [(zj 10 (ze .Add (eV 2) (eC (.int 1))))] []),(sIf (tE (zv .NotEq (eIx (zb vd [(eV 0),(eV 10)]) (eC (.int 1))) (eV 7))) [(zj 10 (ze .Mult (ze .Add (ze .Mult (ze .Add (eV 11) (eC (.int 1))) (eV 5)) (eV 7)) (eV 6)))] [])] []),(sIf (tE (zv .GtE (ze .FloorDiv (ze .FloorDiv (eV 10) (eV 6)) (eV 5)) (eV 9))) [(zp (eC .non))] []),(zp (eV 10))]
noncomputable def xF:Fn:=fnW 4 10 kI
@[reducible] noncomputable def Zj:List Ds:=[(zj 5 (ji [])),(Kr (.one 6) (z1I (eV 4)) [(zj 2 (zb xF [(eV 0),(eV 1),(eV 2),(eV 3)])),(sIf (tE (zv .Is (eV 2) (eC .non))) [(zp (eC .non))] []),(zF (y3 (eV 5) (eV 2)))]),(zp (eV 5))]
noncomputable def xU:Fn:=fnW 5 2 Zj
@[reducible] noncomputable def wt:List Ds:=[(zj 2 (zb zh [(eV 0),(eIx (eV 1) (eC (.int 0)))])),(zj 3 (ze .Add (eC (.int 1)) (eIx (jI [(zb zh [(eV 0),(eC (.int 9))]),(zb zh [(eV 0),(eIx (eV 1) (eC (.int 0)))])]) (zb zh [(eV 0),(eC (.int 2))])))),(zp (qZ [(zb zh [(eV 0),(eIx (eV 1) (eC (.int 1)))]),(eV 2),(eB2 vI (ze .Add (eV 2) (eV 3)) (eIx (eV 1) (eC (.int 0))))]))]
noncomputable def zO:Fn:=fnW 2 2 wt
end NH.P
namespace NH
open PySem PySem.Spec PyProof.Rows L2
noncomputable abbrev z61(x y:T)(μ:Mem):RE T:=match y with
 |.mut i=>(match x with
  |.str z=>λK _=>∃kvs,μ[i]?=some (MO.dic kvs)/\K (.bl (!(xt (.inr z) kvs).isSome)) μ
  |_=>.st)
 |_=>.st
noncomputable abbrev zY(x y:T)(μ:Mem):RE T:=match x,y with
 |.mut i,.str z=>λK _=>∃kvs v,μ[i]?=some (MO.dic kvs)/\xt (.inr z) kvs=some v/\K v μ
 |_,_=>.st
noncomputable abbrev eC2(op:T->T->Mem->RE T)(f g:De):De:=λτ μ=>(f τ μ).bind λx μ1=>(g τ μ1).bind λy μ2=>op x y μ2
section
variable {X:Cx}{D:DP}{W:XW}{Γ:Cn}{k:Nat}{pins:List (Addr×Obj)}{s:Shared}{σ:St}{H:Hp}{φ α:List Addr}{τ:Sl}{μ:Mem}{f g:De}{a b:Expr}{pos:Pos}
noncomputable def OpC (X:Cx)(D:DP)(W:XW)(op:z85)(r:T->T->Mem->RE T):Prop:=
 ∀(pins:List (Addr×Obj)) (s:z6z) (σ:St) (H:Hp) (φ α:List Addr) (μ:Mem) (x y:T) (v w:V) (u1 u2:Value) (Q:VK),Inv X pins σ H s->MRel D φ α H μ->Den D φ α H x v->Den D φ α H y w->RelV v u1->RelV w u2->Post D W φ α H σ (RV D φ Q) (r x y μ)->
  z6I (z6L X.prog X.w) X.A (z7u op u1 u2) (EP X pins σ Q) X.xe s
theorem z5h{op:z85}{r:T->T->Mem->RE T}(h:OpC X D W op r)(ho:jW op b=true)(ha:PE X a (rdE D W f))(hb:PE X b (rdE D W g)):PE X (.Compare a [op] [b] pos) (rdE D W (eC2 r f g)):=by
 rintro pins s σ H Q I ⟨φ,α,τ,μ,sr,mr,p⟩
 refine wpAny_Compare1 (thn (sub ha I sr mr p) ?_) (xV ho)
 rintro u s1 ⟨v,H1,t,μ1,α1,I1,r1,st1,sr1,mr1,d1,p1⟩
 refine thn (sub hb I1 sr1 mr1 p1) ?_
 rintro u' s2 ⟨v',H2,t',μ2,α2,I2,r2,st2,sr2,mr2,d2,p2⟩
 exact h pins s2 σ H2 φ α2 μ2 t t' v v' u u' Q I2 mr2 (d1.step st2) d2 r1 r2 p2
theorem XX{op:z85}{r:T->T->Mem->RE T}(h:OpC X D W op r)(ho:jW op b=true)(ha:PE X a (rdE D W f))(hb:PE X b (rdE D W g)):PT X (.Compare a [op] [b] pos) (rdT D W (tE (eC2 r f g))):=by
 rintro pins s σ H Q I ⟨φ,α,τ,μ,sr,mr,p⟩
 have p:Post D W φ α H σ (λb _ _ H'=>Q b H') ((f τ μ).bind λx μ1=>(g τ μ1).bind λy μ2=>(r x y μ2).bind xv):=p
 refine zaR (thn (sub ha I sr mr p) ?_) (xV ho)
 rintro u s1 ⟨v,H1,t,μ1,α1,I1,r1,st1,sr1,mr1,d1,p1⟩
 refine thn (sub hb I1 sr1 mr1 p1) ?_
 rintro u' s2 ⟨v',H2,t',μ2,α2,I2,r2,st2,sr2,mr2,d2,p2⟩
 refine thn (h pins s2 σ H2 φ α2 μ2 t t' v v' u u' (λz H1=>∃t μ1 α1,Stp α2 H2 α1 H1/\MRel D φ α1 H1 μ1/\Den D φ α1 H1 t z/\Post D W φ α1 H1 σ (λb _ _ H'=>Q b H') (xv t μ1)) I2 mr2 (d1.step st2) d2 r1 r2 (p2.bind.mono λt μ' α' H' st m q v d=>⟨t,μ',α',st,m,d,q⟩)) ?_
 rintro d s3 ⟨z,H3,I3,r3,t3,μ3,α3,st3,mr3,d3,p3⟩
 unfold xv at p3
 split at p3
 ·cases d3
  cases r3
  exact z7e ⟨H3,I3,p3.ok (Stp.refl _ _) mr3⟩
 ·exact p3.elim
theorem Q_{z:Key}{t:T}:∀{kvs:List (Key×T)} {gs:List (Key×V)},DenK D φ α H kvs gs->xt z kvs=some t->∃v,xw gs z=some v/\Den D φ α H t v
 |[],_,h,e=>by cases e
 |p::r,_,h,e=>by
  obtain⟨v,q,rfl,d,l⟩:=h
  unfold xt at e
  by_cases e1:p.1=z
  ·rw[if_pos e1] at e
   cases e
   exact⟨v,by rw[jZ (p:=(p.1,v)) e1],d⟩
  ·rw[if_neg e1] at e
   obtain⟨v2,h1,h2⟩:=Q_ l e
   exact⟨v2,by rw[kr (p:=(p.1,v)) e1];exact h1,h2⟩
theorem z2_(C:Ck D W Γ X k)(hs:z0f b)(ha:PE X a (rdE D W f))(hb:PE X b (rdE D W g)):PE X (.Subscript a b pos) (rdE D W (eC2 zY f g)):=by
 refine PE.mono (z0b (by have:=C.unt;omega) ha hb hs) ?_
 rintro σ H Q ⟨φ,α,τ,μ,sr,mr,p⟩
 refine⟨φ,α,τ,μ,sr,mr,p.bind.mono λx μ1 α1 H1 st1 m1 q v d=>?_⟩
 refine⟨φ,α1,τ,μ1,sr.step st1,m1,q.bind.mono λy μ2 α2 H2 st2 m2 q2 w dw=>?_⟩
 unfold zY at q2
 split at q2
 ·rename_i i z
  obtain⟨K0,Z0,⟨kvs,t,hi,hl,q3⟩,k1,k2⟩:=q2
  obtain⟨ad,ha,rfl⟩:=d.step st2
  obtain⟨gs,hH,l⟩:=m2.ob i ad _ ha hi
  obtain⟨tv,h1,h2⟩:=Q_ l hl
  have dw:w=.str z:=dw
  subst dw
  refine⟨ad,tv,rfl,?_,k1 _ _ q3 α2 H2 (Stp.refl _ _) m2 _ h2⟩
  have:=DGet.k (k:=.inr z) hH
  rw[h1] at this
  exact this
 ·exact q2.elim
end
noncomputable abbrev z37(g:De)(τ:Sl)(μ:Mem):RE T:=λK _=>g τ μ K (λ_ _ _=>False)
noncomputable abbrev z3a(js:List (Nat×De))(n:Nat)(o f:De):De:=λτ μ=>(o τ μ).bind λt μ1=>(ya t n μ1).bind λw μ2 K Z=>∃p:Nat×(Nat×De)×List T,(js[p.1]?=some p.2.1/\w=ZI p.1 p.2.1.1 p.2.2)/\((f τ μ2).bind λx μ3=>z37 p.2.1.2 (some x::p.2.2.map some) μ3) K Z
noncomputable abbrev Zk(jt j:Nat)(fs:List Nat):De:=λτ (μ:Mem) K _=>(∃i:Nat,μ[i]?=some (MO.tab jt))/\∃ts:List T,fs.map (Wq τ)=ts.map some/\K (ZI j jt ts) μ
noncomputable def ZM:Str:=⟨#[38]⟩
section
variable {X:Cx}{D:DP}{W:XW}{Γ:Cn}{k:Nat}{pins:List (Addr×Obj)}{s:Shared}{σ:St}{H:Hp}{φ α:List Addr}{τ:Sl}{μ:Mem}{f g:De}{a b c:Expr}{pos:Pos}
theorem Yf{x:Str}{c:Addr}{o:Obj}{v:Option Value}(I:Inv X pins σ H s)(hx:X.env.cells.lookup x=some c)(hf:X.fn x=false)(hs:X.s₀.heap.objs.size<=c)(hn:H c=none)(ho:s.heap.get? c=some o)(hd:o.data=.cell v):Inv X pins σ (upd H c (.frz o (.ext λ_=>True))) s:=by
 have st:∀b u,H b=some u->upd H c (.frz o (.ext λ_=>True)) b=some u:=λb u q=>by rw[z7 (zJ q hn)];exact q
 refine⟨I.ok,I.os,I.bare,⟨I.base.keep,I.base.slot,λb o' e n hx'=>?_,I.base.there,λb xs e=>st b _ (I.base.tups b xs e),λb o' u e=>st b _ (I.base.frzs b o' u e),λb ps e=>?_⟩,I.loc,I.cell,?_,λy c' e=>?_,λp hp=>?_,λb ob e=>?_,I.len⟩
 ·rw[z7 (z73 (z6N (z6R e) hs))];exact I.base.free b o' e n hx'
 ·obtain⟨more,q⟩:=I.base.tbls b ps e
  exact⟨more,st b _ q⟩
 ·rw[z7 (z6Z (I.cne x c hx))];exact I.free
 ·by_cases z:c'=c
  ·subst z
   rw[I.ok.inj _ _ _ e hx]
   exact .inr ⟨hf,o,_,z6⟩
  ·rw[z7 z];exact I.freeC y c' e
 ·obtain⟨e,n,ne,nf,d⟩:=I.pin p hp
  have:p.1≠c:=λz=>by rw[z,ho] at e;cases e;exact d _ hd
  exact⟨e,by rw[z7 this];exact n,ne,nf,d⟩
 ·by_cases z:b=c
  ·subst z
   rw[z6] at e;cases e
   exact⟨ho,trivial,⟨o,ho⟩,λ_ _ _ _=>trivial⟩
  ·rw[z7 z] at e
   exact (I.hok b ob e).stay (λ_ _ _ q=>q) (λb q=>st b _ q) λb xs q=>st b _ q
theorem QB(C:Ck D W Γ X k){ls:List LamD}(KM:KapMk D ls)(hl:Γ.lam.isSome=true):∀{fr:List Str} {fs:List Nat} {ts:List T} {H:Hp},(∀x∈fr,x∈Γ.fz/\x∈Γ.cel)->j1 Γ.N fr=some fs->fs.map (Wq τ)=ts.map some->Inv X pins σ H s->SRel D φ α H τ σ->MRel D φ α H μ->
  ∃(H':Hp) (cs:List Addr),Inv X pins σ H' s/\vz H H'/\fr.map (λx=>X.env.cells.lookup x)=cs.map some/\DenL D φ α H' (ts.map λt=>.clo 200 [t]) (cs.map V.ref)
 |[],fs,ts,H,_,h2,h3,I,sr,mr=>by
  cases h2
  cases ts with
  |nil=>exact⟨H,[],I,λ_ _ e=>e,rfl,rfl⟩
  |cons _ _=>cases h3
 |x::fr,fs,ts,H,h1,h2,h3,I,sr,mr=>by
  simp only[j1] at h2
  split at h2
  ·rename_i i is hi his
   cases h2
   cases ts with
   |nil=>cases h3
   |cons t ts=>
    have h3':=h3
    simp only[z7g,zcu] at h3'
    obtain⟨ht,hts⟩:=h3'
    obtain⟨hz,hc⟩:=h1 x z6U
    obtain⟨v,hv,d⟩:=sr.val i t (ZK.mp ht)
    obtain⟨hf,hsz⟩:=C.kfz hl x hz
    obtain⟨m,_,hlc⟩:=I.loc
    obtain⟨u,ru,lk⟩:=hlc i x v (by rw[C.hN];exact qW hi) hv (C.vis x (qL hi))
    have kd:=C.cel x hc
    rcases lk with⟨z,_⟩|⟨_,c,ec,o,ho,hd⟩
    ·rcases kd with q|q<;>(rw[z] at q;cases q)
    ·obtain⟨H1,ob,I1,sm,e1,n1,n2⟩:∃H1 ob,Inv X pins σ H1 s/\vz H H1/\H1 c=some (.frz o ob)/\c∉φ/\c∉α:=by
      rcases I.freeC x c ec with q|⟨_,o',u',q⟩
      ·exact⟨_,_,Yf I ec hf (hsz c ec) q ho hd,zk q,z6,zt mr q,zu mr q⟩
      ·have h0:s.heap.get? c=some o':=(I.hok c _ q).1
       rw[ho] at h0;cases h0
       refine⟨H,u',I,λ_ _ e=>e,q,λz=>?_,λz=>?_⟩
       ·obtain⟨w,e,n⟩:=mr.phi c z
        rw[q] at e;cases e;cases n
       ·obtain⟨i',hi'⟩:=z83.mp z
        have hl':i'<μ.length:=by rw[←mr.len];exact (z6v.mp hi').1
        obtain⟨w,e,n⟩:=(mr.ob i' c μ[i'] hi' (by simp[hl'])).some
        rw[q] at e;cases e;cases n
     have st:=Stp.new (α:=α) sm
     obtain⟨H2,cs,I2,sm2,hcs,dl⟩:=QB C KM hl (fr:=fr) (fs:=is) (ts:=ts) (λy hy=>h1 y (z6H _ hy)) his hts I1 (sr.step st) (mr.new sm)
     refine⟨H2,c::cs,I2,λb o e=>sm2 b o (sm b o e),by simp[ec,hcs],⟨.ref c,cs.map V.ref,rfl,⟨c,some (.frz o ob),[v],rfl,KM.ce c o u v ob hd ru,λo' e=>?_,v,[],rfl,(d.step st).step (Stp.new sm2),rfl⟩,dl⟩⟩
     cases e
     exact⟨n1,n2,sm2 _ _ e1⟩
  ·cases h2
theorem Ua{P:z7a}{w:z7o}{h:Heap}{q c:Addr}{l:LamD}{cl:List (Str×Addr)}(p:kf q c l cl h):ObjOk P w H h q (.ext (kf q c l cl)):=by
 obtain⟨pa,pm,ctv,h2⟩:=id p
 refine⟨p,⟨_,h2⟩,λg1 g2 p kk'=>?_⟩
 obtain⟨pa,pm,ctv,h2⟩:=p
 exact⟨pa,pm,ctv,kk' _ h2⟩
theorem z0V(C:Ck D W Γ X k){l:LamD}{ls:List LamD}{pa pl:Pos}{j:Nat}{poss:List Pos}{fs:List Nat}(hlm:Γ.lam=some (l.jt,poss))(hpp:pl∈poss)(hU:ZM∈Γ.U)(hg:Γ.gl ZM=.kap ls)(hj:ls[j]?=some l)(hfr:frees l.sc=l.fr)(hnd:l.fr.Nodup)(hfz:∀x∈l.fr,x∈Γ.fz/\x∈Γ.cel)(hfs:j1 Γ.N l.fr=some fs) :
  PE X (.Lambda ⟨[],[⟨l.y,none,pa⟩],none,[],[],none,[]⟩ l.body l.sc pl) (rdE D W (Zk l.jt j fs)):=by
 obtain⟨hk,c,P,hcode,hC,hB,hD⟩:=C.lam _ poss hlm
 have gq:=(C.glU _ hU).1
 rw[hg] at gq
 have KM:=gq.2
 obtain⟨P',pos',hD'⟩:=KM.tb j l hj
 have hqn:X.env.qual++"<lambda>"=l.qn:=by
  have:=hD.symm.trans hD'
  simp only[za3,Prod.mk.injEq] at this
  exact this.2.2
 rintro pins s σ H Q I ⟨φ,α,τ,μ,sr,mr,K0,Z0,⟨⟨i,hi⟩,ts,hts,q0⟩,k1,k2⟩
 obtain⟨H1,cs,I1,sm1,hcs,dl⟩:=QB C KM (by rw[hlm];rfl) hfz hfs hts I sr mr
 have hcel:∀x∈frees l.sc,∃c,X.env.cells.lookup x=some c:=λx hx=>I.ok.has x (C.cel x (hfz x (by rw[←hfr];exact hx)).2)
 obtain⟨cl,hcl,hc1,hc2⟩:=yf hcel
 have cat:Ju l.fr cl cs:=by
  refine⟨?_,?_,λx a e=>by rw[←hfr];exact (hc1 x a e).2⟩
  ·rw[←hcs]
   refine z9C λx hx=>?_
   obtain⟨c,e⟩:=hc2 x (by rw[hfr];exact hx)
   rw[e,(hc1 x c e).1]
  ·have q:(cs.map some).Pairwise (·≠·):=by
    rw[←hcs,za5]
    refine zdr (λ{a b} ha hb hne e=>hne ?_) hnd
    obtain⟨c,e1⟩:=hcel a (by rw[hfr];exact ha)
    exact I.ok.inj a b c e1 (by rw[←e];exact e1)
   rw[za5] at q
   exact q.imp λh e=>h (congrArg some e)
 refine PySem.W.kla_eval rfl (Yq (line:=pl.line) I1 (mr.new sm1) hi hD hpp hcode hC hB hcl λq c' ctv H2 s2 I2 st2 m2 hca hcc hx=>?_)
 have ho:=(I2.pin _ (z6O _ z6U)).1
 have np:kf q c' l cl s2.heap:=⟨pa,_,ctv,by rw[←hqn];exact ho⟩
 have I4:=jr (o:=.ext (kf q c' l cl)) (Vd I2) hx.2.1 hx.2.2 (Ua np)
 have fr0:=hx.2.1.free
 have sm:vz H2 (upd H2 q (.ext (kf q c' l cl))):=zk fr0
 refine⟨.ref q,_,I4,rfl,k1 _ _ q0 α _ ((Stp.new sm1).trans (st2.trans (Stp.new sm))) (m2.new sm) _ ?_⟩
 refine⟨q,_,_,rfl,KM.fn j l q c' cl cs hj cat,λo e=>?_,.ref c',cs.map V.ref,rfl,⟨c',_,[],rfl,KM.co _ _ _ _ c' hD,λo e=>?_,rfl⟩,(dl.step st2).step (Stp.new sm)⟩
 ·cases e
  exact⟨zt m2 fr0,zu m2 fr0,z6⟩
 ·cases e
  exact⟨hx.1,hca,sm _ _ hcc⟩
end
section
variable {D:DP}{φ α:List Addr}{H:Hp}
structure CellK(H:Hp)(c:Addr)(x:V):Prop where
 ex:∃(o:Obj) (ob:HO) (u:Value),H c=some (.frz o ob)/\o.data=.cell (some u)/\RelV x u
noncomputable def UD(D:DP):Prop:=∀c ob xs,D.clo 200 c ob xs->∃(x:V) (u:Value) (o:Obj) (u':HO),xs=[x]/\RelV x u/\Obj.data o=.cell (some u)/\ob=some (HO.frz o u')
theorem uN(hinv:UD D):∀{ts:List T} {cs:List Addr},DenL D φ α H (ts.map λt=>.clo 200 [t]) (cs.map V.ref)->∃vs:List V,DenL D φ α H ts vs/\vs.length=cs.length/\∀(i:Nat) (c:Addr),cs[i]?=some c->∃x,vs[i]?=some x/\CellK H c x
 |[],[],_=>⟨[],rfl,rfl,λi c e=>by simp at e⟩
 |[],_::_,h=>by cases (show _=[] from h)
 |t::ts,[],h=>by obtain⟨_,_,e,_⟩:=h;cases e
 |t::ts,c::cs,h=>by
  obtain⟨v,r,e,⟨a,ob,xs,e2,hc,hob,dl⟩,h2⟩:=h
  cases e
  cases e2
  obtain⟨vs,h3,h4,h5⟩:=uN hinv h2
  obtain⟨x,u,o,u',rfl,r,hd,rfl⟩:=hinv _ _ _ hc
  obtain⟨x',r',e3,d,e4⟩:=dl
  cases e3
  refine⟨x::vs,⟨x,vs,rfl,d,h3⟩,by simp[h4],λi c' e=>?_⟩
  cases i with
  |zero=>cases e;exact⟨x,rfl,⟨o,u',u,(hob _ rfl).2.2,hd,r⟩⟩
  |succ i=>exact h5 i c' (by simpa using e)
theorem ZX{fr:List Str}{cl:List (Str×Addr)}{cs:List Addr}(h:Ju fr cl cs){x:Str}{c:Addr}(e:cl.lookup x=some c):∃i:Nat,fr[i]?=some x/\cs[i]?=some c:=by
 obtain⟨i,hi⟩:=z83.mp (h.2.2 x c e)
 refine⟨i,hi,?_⟩
 have:=congrArg (λl=>l[i]?) h.1
 simp only[z78,hi,zaN,e] at this
 cases q:cs[i]? with
 |none=>rw[q] at this;cases this
 |some c'=>rw[q] at this;cases this;rfl
theorem VC{fr:List Str}{cl:List (Str×Addr)}{cs:List Addr}(h:Ju fr cl cs){x:Str}{i:Nat}(e:fr[i]?=some x):∃c,cl.lookup x=some c/\cs[i]?=some c:=by
 have:=congrArg (λl=>l[i]?) h.1
 simp only[z78,e,zaN] at this
 cases q:cs[i]? with
 |none=>rw[q] at this;cases this
 |some c'=>rw[q] at this;exact⟨c',by simpa using this,rfl⟩
noncomputable def VE(Γ:Cn)(l:LamD):Bool:=
 (l.sc.kind == .function)&&!l.sc.isCoroutine&&!l.sc.isGenerator&&l.sc.names.all (λp=>p.2 != .cell)&&(frees l.sc == l.fr)&&decide ((l.y::l.fr).Nodup)&&(l.sc.names.lookup l.y == some .local)&&l.fr.all (λx=>l.sc.names.lookup x == some .free)&&
 (l.y::l.fr).all (λx=>x != ("__debug__":Str)&&x != ("__classdict__":Str))&&Γ.G.all (λx=>Γ.U.contains x&&l.sc.names.lookup x == some .globalImplicit)
noncomputable def yj(Γ:Cn)(l:LamD)(G:List Str):Cn:={Γ with N:=l.y::l.fr,G:=G,cel:=l.fr,own:=[],lam:=none,fz:=[],calm:=true}
theorem XU{R:Rules}{P:z7a}{w:z7o}{K:z6C}{mg:Str->Option Value}{base:Heap}{Γ:Cn}{G:List Str}(HR:RulesOk D R){n k0:Nat}{l:LamD}(M:MdOk D P w K mg base Γ k0)(hsc:VE (yj Γ l G) l=true)(hE:(comp R n).e (yj Γ l G) l.body=some l.g)
  {A:z7b} {outer:List Env} {s:z6z} {a c:Addr} {cl:List (Str×Addr)} {cs:List Addr} (hr:Room (k0+1) A) (e0:Env0 P w K mg base A outer s H) (ho:kf a c l cl s.heap) (hrec:s.heap.CodeRec (.ref c) l.qn) (cat:Ju l.fr cl cs)
  {ts:List T} {vs:List V} (dts:DenL D φ α H ts vs) (hvl:vs.length=cs.length) (hcv:∀(i:Nat) (c:Addr),cs[i]?=some c->∃x,vs[i]?=some x/\CellK H c x)
  {u:Value} {x:V} {Q:VK} {t:T} {μ:Mem} {K0:T->Mem->Prop} (r:RelV x u) (d:Den D φ α H t x) (mr:MRel D φ α H μ) (p:l.g (some t::ts.map some) μ K0 (λ_ _ _=>False)) (hK0:∀t' μ',K0 t' μ'->∀α' H' v',Stp α H α' H'->MRel D φ α' H' μ'->Den D φ α' H' t' v'->Q v' H') :
  z92 (z6L P w) A (.call (.ref a) ⟨[u],[]⟩) (CR (CX1 P w) outer P w H s Q (λ_ _ _=>False)) s:=by
 obtain⟨pa,pm,ctv,ho⟩:=ho
 simp only[VE,z6x,z7k,beq_iff_eq,z8d,decide_eq_true_eq,bne_iff_ne,ne_eq] at hsc
 obtain⟨⟨⟨⟨⟨⟨⟨⟨⟨h1,h2⟩,h3⟩,h4⟩,h5⟩,h6⟩,h7⟩,h8⟩,h9⟩,h10⟩:=hsc
 have lim:s.heap.NoLimit:=e0.mod.nolimit.keeps λb o e=>(e0.bs b o e).1
 have hfl:l.fr.length=cs.length:=by have:=congrArg zaX cat.1;simpa using this
 refine PySem.W.kla_callFunE (fd:=PySem.W.kla_fn "<lambda>" l.qn ⟨[],[⟨l.y,none,pa⟩],none,[],[],none,[]⟩ l.body l.sc cl pm (.ref c) ctv) hr.depth ho rfl h2 h3 rfl hrec (z99 (bind1 rfl rfl) (zb3 h4 (λz hz=>?_) (λhh hns hsb=>?_) h1))
 ·rw[z6J.mp hz];exact h7
 have old:∀b o,s.heap.get? b=some o->hh.get? b=some o:=λb o e=>hsb.extBut b o (z73 (z6R e)) (z6y _ e)
 have cellK:∀z c',cl.lookup z=some c'->∃(i:Nat) (v:V),l.fr[i]?=some z/\vs[i]?=some v/\CellK H c' v:=λz c' e=>by
  obtain⟨i,e1,e2⟩:=ZX cat e
  obtain⟨v,e3,e4⟩:=hcv i c' e2
  exact⟨i,v,e1,e3,e4⟩
 let env:Env:=newEnv l.sc s.heap.objs.size z6T cl (l.qn++".<locals>.") (some a) (.ref c) none z9I
 let Y:Cx:={prog:=P,w:=w,K:=K,mg:=mg,base:=base,A:=A.deeper env,N:=l.y::l.fr,s₀:=s,H₀:=H,env:=env,outer:=outer,stack:=env::outer,ex:=[],fn:=λ_=>false,calm:=true,pn:=[],xe:=λ_ _=>False}
 have I:Inv Y [] (some x::vs.map some) H {s with heap:=hh,toks:=s.toks+[(l.y,u)].length}:=by
  refine⟨⟨e0.mod,h1,rfl,rfl,z6E _,λy z c' q1 q2=>?_,λy hy=>?_,λy c' z=>(by cases z),λ_=>hr.hd,zaY e0.frames,.inr ⟨rfl,rfl⟩,λb z=>absurd z (by simp[Y]),e0.bs,e0.bsz,λb _ _=>(by simp[Y]),λb z=>absurd z (by simp[Y]),e0.funs,e0.frf⟩,
   rfl,e0.bare,Un.kept old,⟨_,hns,λi y v q1 q2 q3=>?_⟩,λy c' q=>?_,e0.hok.fresh (z6E _),λy c' q=>?_,λp hp=>absurd hp (by simp[Y]),e0.hok.kept old,by simp[Y,hvl,hfl]⟩
  ·obtain⟨i1,a1,a2⟩:=ZX cat q1
   obtain⟨i2,b1,b2⟩:=ZX cat q2
   have:i1=i2:=by
    obtain⟨l1,g1⟩:=z6v.mp a2
    obtain⟨l2,g2⟩:=z6v.mp b2
    exact (z9l cat.2.1).mp (g1.trans g2.symm)
   rw[this,b1] at a1;exact (z6A a1).symm
  ·rcases hy with hy|hy
   ·exact absurd rfl (h4 _ (z7n hy))
   ·obtain⟨i,hi⟩:=z83.mp (show y∈l.fr by rw[←h5];exact wX.mpr ⟨_,z7n hy,rfl,rfl⟩)
    obtain⟨c',e,_⟩:=VC cat hi
    exact⟨c',e⟩
  ·cases i with
   |zero=>
    cases q1
    cases q2
    exact⟨u,r,.inl ⟨h7,by simp[z7F]⟩⟩
   |succ i=>
    have q1:l.fr[i]?=some y:=q1
    obtain⟨c',e1,e2⟩:=VC cat q1
    obtain⟨v',e3,⟨o,ob,u',k1,k2,k3⟩⟩:=hcv i c' e2
    have q2:(vs.map some)[i]?=some (some v):=q2
    rw[z78,e3] at q2
    cases q2
    exact⟨u',k3,.inr ⟨.inr (h8 y (z6M q1)),c',e1,o,old _ _ (e0.hok c' _ k1).1,k2⟩⟩
  ·obtain⟨i,v,_,_,⟨o,ob,u',k1,k2,k3⟩⟩:=cellK y c' q
   exact⟨some u',o,old _ _ (e0.hok c' _ k1).1,k2⟩
  ·obtain⟨i,v,_,_,⟨o,ob,u',k1,k2,k3⟩⟩:=cellK y c' q
   exact .inr ⟨rfl,o,ob,k1⟩
 have F:Frm Y env outer s.heap.objs.size:=⟨rfl,rfl,rfl⟩
 have hr':Room k0 Y.A:=hr.deeper env
 have kd:∀z∈l.y::l.fr,Vis l.sc z:=λz hz=>(z75.mp hz).elim (λq=>.inl (by rw[q];exact h7)) λq=>.inr (.inr (h8 z q))
 have C2:Ck D noW (yj Γ l G) Y k0:={hK:=M.hK,hN:=rfl,nd:=h6,vis:=kd,dbg:=λz hz=>⟨beq_eq_false_iff_ne.mpr (h9 z hz).1,beq_eq_false_iff_ne.mpr (h9 z hz).2⟩,dbG:=λz hz=>(M.glo z (z7i.mp (h10 z hz).1)).2,glb:=λz hz=>(h10 z hz).2,glo:=λz hz=>(M.glo z (z7i.mp (h10 z hz).1)).1,glU:=M.glo,cel:=λz hz=>.inr (h8 z hz),isi:=M.isi,fld:=M.fld,xcx:=M.xcx,ocx:=M.ocx,clv:=M.clv,clm:=λ_=>rfl,rom:=λ_=>hr',rmh:=⟨hr'.dp,hr'.un⟩,xe:=(λe s p=>by obtain⟨_,_,_,_,_,_,_,_,_,_,_,_,_,z⟩:=p;exact z),frm:=⟨_,_,_,F.stk,F.f0,F.fe⟩,lam:=LamOk.no rfl,kfz:=(λh=>by cases h)}
 have sr:SRel D φ α H (some t::ts.map some) (some x::vs.map some):=by
  refine⟨by simp[dts.length],λi t' e=>?_⟩
  cases i with
  |zero=>cases e;exact⟨x,rfl,d⟩
  |succ i=>
   have e:(ts.map some)[i]?=some (some t'):=e
   rw[z78] at e
   cases q:ts[i]? with
   |none=>rw[q] at e;cases e
   |some t2=>
    rw[q] at e;cases e
    obtain⟨v,hv,dv⟩:=dts.get q
    exact⟨v,by show (vs.map some)[i]?=_;rw[z78,hv];rfl,dv⟩
 have B:=(w6 HR n).e C2 hE [] _ _ H Q I ⟨φ,α,_,μ,sr,mr,_,_,p,λa μ' e α' H' st m v' dv=>hK0 a μ' e α' H' v' st m dv,λ_ _ _ z=>z.elim⟩
 refine⟨lim.keeps old,PySem.W.kla_codeExpr (z7f B (λv s' hs=>?_) λ_ _ z=>z.elim)⟩
 obtain⟨v',H',J,rv,q'⟩:=hs
 exact⟨v',H',J.os,J.bare,J.base,J.hok,rv,q'⟩
end
section
variable {X:Cx}{D:DP}{W:XW}{Γ:Cn}{k:Nat}{pins:List (Addr×Obj)}{s:Shared}{σ:St}{H:Hp}{φ α:List Addr}{τ:Sl}{μ:Mem}{f g:De}{a b c:Expr}{pos:Pos}
theorem z3T(C:Ck D W Γ X k){m:Str}{n:Nat}{o:Expr}{go:De}{apos:Pos}{ls:List LamD}(hU:ZM∈Γ.U)(hg:Γ.gl ZM=.kap ls)(hn:(m,n)∈Γ.fld)(hc:Γ.calm=true)(hp:zT o=true)(hline:(apos.endLine == pos.line)=true)(hst:noStar a=true)(ho:PE X o (rdE D W go))(ha:PE X a (rdE D W f)) :
  PE X (.Call (.Attribute o m apos) [a] [] pos) (rdE D W (z3a (ls.map λl=>(l.jt,l.g)) n go f)):=by
 have gq:=(C.glU _ hU).1
 rw[hg] at gq
 rintro pins s σ H Q I ⟨φ,α,τ,μ,sr,mr,p⟩
 rw[zbm,qD hp]
 refine z6w (thn (sub ho I sr mr p) ?_)
 rintro u s1 ⟨v,H1,t,μ1,α1,I1,r1,st1,sr1,mr1,d1,p1⟩
 refine z6w (z7x ?_)
 have hform:methodCallForm ([a].length+([]:List z9F).length) (z8I pos (z7m [a] X.env)) (z9Q pos (z8L [] X.env))=true:=XE (by simp[hst]) (by show (1:Nat)<30;decide)
 have hpos:z8_ true o X.env apos pos=pure pos:=by unfold z8_;simp[hline]
 have run:∀{ad0 C0 dx:Addr} {gs:List (Str×V)} {z:V} {t0:T},H1 ad0=some (.ins C0 dx gs)->Cls X.K C0->NoAttr X.K C0 m->gs.lookup m=some z->u=.ref ad0->Den D φ α1 H1 t0 z->Post D W φ α1 H1 σ (RV D φ Q) (λK Z=>∃p:Nat×(Nat×De)×List T,((ls.map λl=>(l.jt,l.g))[p.1]?=some p.2.1/\t0=ZI p.1 p.2.1.1 p.2.2)/\((f τ μ1).bind λx μ3=>z37 p.2.1.2 (some x::p.2.2.map some) μ3) K Z)->
   z6I (z6L X.prog X.w) X.A (zaC o m apos pos X.env u ([a].length+([]:List z9F).length) (z8I pos (z7m [a] X.env)) (z9Q pos (z8L [] X.env))) (EP X pins σ Q) X.xe s1:=λ{ad0 C0 dx gs z t0} e1 cl na lk hu dz p=>by
  subst hu
  obtain⟨⟨j,⟨jt,gg⟩,ts⟩,⟨hj,rfl⟩,p2⟩:=p.ex1
  rw[z78] at hj
  obtain⟨l,hl,e⟩:=z8w.mp hj
  cases e
  obtain⟨fa,kk,rfl,hkk,hF⟩:=gq.1 j l ts φ α1 H1 z hl dz
  unfold zaC
  rw[hform]
  refine z6w (z77 (Qw I1 e1 cl na lk λu' s1' I1' r'=>?_))
  cases (show u'=z6W fa from r')
  refine z6w (z99 hpos ?_)
  refine PySem.W.callWith_F (first:=[]) (hF X.A X.stack s1' I1'.env0).1 (thn (zI ha qH (za hst) pos pins s1' σ H1 (λvs H2=>∃v t μ2 α2,vs=[v]/\Stp α1 H1 α2 H2/\MRel D φ α2 H2 μ2/\Den D φ α2 H2 t v/\Post D W φ α2 H2 σ (RV D φ Q) (z37 l.g (some t::ts.map some) μ2)) I1' ⟨φ,α1,τ,μ1,sr1,mr1,p2.bind.mono λt μ' α' H' st m q v d=>⟨v,t,μ',α',rfl,st,m,d,q⟩⟩) ?_) (za hst) rfl
  rintro us s2 ⟨vs,H2,I2,rv,v2,t2,μ2,α2,rfl,st2,m2,d2,K0,Z0,q6,k1,k2⟩
  obtain⟨ux,rfl,rx⟩:=vals1 rv
  obtain⟨fa',kk',e',hkk',hF'⟩:=gq.1 j l ts φ α2 H2 _ hl (dz.step st2)
  cases e'
  have hE:=hF' X.A X.stack s2 I2.env0
  refine⟨hE.1,z8h (z8a (hE.2 ((C.rom hc).mono hkk') ux v2 Q t2 μ2 K0 rx d2 m2 q6 (λt' μ' z α' H' v' st m dv=>k1 t' μ' z α' H' st m v' dv)) λr s' hq=>?_)⟩
  cases r with
  |error e=>
   obtain⟨_,_,_,_,_,_,_,_,_,_,_,_,_,_,_,z⟩:=hq
   exact z.elim
  |ok fl=>
   cases fl with
   |ret u=>exact I2.after hq
   |next=>exact z7c hq
   |brk=>exact z7c hq
   |cont=>exact z7c hq
 unfold ya at p1
 split at p1
 ·split at p1
  ·rename_i c fs _ w hw
   obtain⟨ad,C0,dx,gs,rfl,_,_,e1,e2,l⟩:=d1
   obtain⟨y,z,hy,hz,dz⟩:=l.look hw
   obtain⟨c0,c1,c2⟩:=C.fld c C0 m n e1 hn
   rw[hy] at c0;cases c0
   exact run e2 c1 c2 hz r1 dz p1
  ·exact Post.elim p1
 ·obtain⟨c,fs,w,hi,hw,q⟩:=Post.ex3 p1
  obtain⟨ad,hi',rfl⟩:=d1
  obtain⟨C0,dx,gs,e1,e2,l⟩:=mr1.ob _ ad _ hi' hi
  obtain⟨y,z,hy,hz,dz⟩:=l.look hw
  obtain⟨c0,c1,c2⟩:=C.fld c C0 m n e1 hn
  rw[hy] at c0;cases c0
  exact run e2 c1 c2 hz r1 dz q
 ·exact Post.elim p1
end
noncomputable def z35 (ls:List LamD)(tbs:List (Addr×List Pos×Str)):Nat->Addr->Option HO->List V->Prop:=λn a ob xs=>
 (∃(j:Nat) (l:LamD) (c:Addr) (cl:List (Str×Addr)) (cs:List Addr),ls[j]?=some l/\n=300+j/\Ju l.fr cl cs/\xs=.ref c::cs.map V.ref/\ob=some (.ext (kf a c l cl)))\/
 (n=200/\∃(x:V) (u:Value) (o:Obj) (u':HO),xs=[x]/\RelV x u/\o.data=.cell (some u)/\ob=some (.frz o u'))\/
 ∃(j:Nat) (q:Addr×List Pos×Str),tbs[j]?=some q/\j<100/\n=100+j/\xs=[]/\ob=some (.ext (wI a q.2.2))
section
variable {P:Program}{w:World}{K:PySem.W.Frag}{mg:Str->Option Value}{base:Heap}{n k0:Nat}
theorem z10{A0:Ads}{x:Str}{tbs:List (Addr×List Pos×Str)}{ls:List LamD}{R:Rules}{Γ:Cn}{G:List Str}(HR:∀{D:DP},RulesOk D R)(hb:tbs.length<=100)(htb:∀l∈ls,(tbs[l.jt]?).map (·.2.2)=some l.qn)
  (M:MdOk (mkD K A0 (z35 ls tbs) λj=>tbs[j]?) P w K mg base Γ k0) (h:∀l∈ls,VE (yj Γ l G) l=true/\(comp R n).e (yj Γ l G) l.body=some l.g):GlOkM (mkD K A0 (z35 ls tbs) λj=>tbs[j]?) P w K mg base (k0+1) x (.kap ls):=by
 have tq:∀{j:Nat} {l:LamD},ls[j]?=some l->∃P' pos,tbs[l.jt]?=some (P',pos,l.qn):=λ{j l} e=>by
  obtain⟨⟨p1,p2,p3⟩,q1,q2⟩:=z8w.mp (htb l (z6M e))
  cases q2
  exact⟨p1,p2,q1⟩
 have lt:∀{j:Nat} {q:Addr×List Pos×Str},tbs[j]?=some q->j<100:=λe=>z6N (z6v.mp e).1 hb
 refine⟨λj l ts φ α H v hl d=>?_,⟨λj l e=>tq e,λj l a c cl cs e h=>.inl ⟨j,l,c,cl,cs,e,rfl,h,rfl,rfl⟩,λc o u x ob h1 h2=>.inr (.inl ⟨rfl,x,u,o,ob,rfl,h2,h1,rfl⟩),λj P' pos qn c e=>.inr (.inr ⟨j,_,e,lt e,rfl,rfl,rfl⟩)⟩⟩
 obtain⟨a,ob,xs,rfl,hc,hob,v,q,hv,⟨c,ob2,xs2,hcv,hc2,hob2,_⟩,dl⟩:=d
 rcases hc with⟨j',l',c',cl,cs,e1,e2,cat,e3,rfl⟩|⟨z,_⟩|⟨j',q',_,hj',z,_⟩
 ·have:j=j':=by omega
  subst this
  rw[hl] at e1;cases e1
  rw[hv] at e3
  injection e3 with e4 e5
  rw[e4] at hcv
  cases hcv
  subst e5
  have hrec:ob2=some (.ext (wI c l.qn)):=by
   obtain⟨P',pos',hq⟩:=tq hl
   have:=lt hq
   rcases hc2 with⟨j2,_,_,_,_,_,z,_⟩|⟨z,_⟩|⟨j2,q2,hq2,_,z,_,e⟩
   ·omega
   ·omega
   ·have:l.jt=j2:=by omega
    subst this
    rw[hq] at hq2;cases hq2
    exact e
  subst hrec
  refine⟨a,k0+1,rfl,z6E _,λA outer s e0=>?_⟩
  have ha:=(hob _ rfl).2.2
  have hcc:=(hob2 _ rfl).2.2
  obtain⟨np,_⟩:=(show ObjOk P w H s.heap a (.ext (kf a c l cl)) from e0.hok a _ ha)
  obtain⟨cr,_⟩:=(show ObjOk P w H s.heap c (.ext (wI c l.qn)) from e0.hok c _ hcc)
  refine⟨?_,λhr u x Q t μ K0 r dx mr p hK0=>?_⟩
  ·obtain⟨_,_,_,h2⟩:=np
   exact⟨_,_,_,_,h2⟩
  ·obtain⟨vs,h3,h4,h5⟩:=uN (λc ob xs hc=>by
    rcases hc with⟨j2,_,_,_,_,_,z,_⟩|⟨_,z⟩|⟨j2,q2,_,z2,z,_⟩
    ·omega
    ·exact z
    ·omega) dl
   obtain⟨g1,g2⟩:=h l (z6M hl)
   exact XU HR M g1 g2 hr e0 np cr cat h3 h4 h5 r dx mr p hK0
 ·omega
 ·omega
end
noncomputable def eqE:Expr->Expr->Bool
 |.Name x p,.Name y q=>x == y&&p == q
 |.Attribute o x p,.Attribute u y q=>eqE o u&&x == y&&p == q
 |.Tuple [a,b] k p,.Tuple [c,d] j q=>eqE a c&&eqE b d&&k == j&&p == q
 |.Call f [a] [] p,.Call g [b] [] q=>eqE f g&&eqE a b&&p == q
 |_,_=>false
theorem z47:∀{a b:Expr},eqE a b=true->a=b:=by
 intro a b h
 fun_induction eqE a b with
 |case1 x p y q=>simp only[z6x,beq_iff_eq] at h;rw[h.1,h.2]
 |case2 o x p u y q ih=>simp only[z6x,beq_iff_eq] at h;rw[ih h.1.1,h.1.2,h.2]
 |case3 a b k p c d j q ih1 ih2=>simp only[z6x,beq_iff_eq] at h;rw[ih1 h.1.1.1,ih2 h.1.1.2,h.1.2,h.2]
 |case4 f a p g b q ih1 ih2=>simp only[z6x,beq_iff_eq] at h;rw[ih1 h.1.1,ih2 h.1.2,h.2]
 |case5=>cases h
noncomputable def VM(y:Str)(body:Expr)(sc:Scope):List LamD->Nat->Option (Nat×LamD)
 |[],_=>none
 |l::r,i=>match l.y == y&&l.sc == sc&&eqE l.body body with
  |true=>some (i,l)
  |false=>VM y body sc r (i+1)
theorem W7{y:Str}{body:Expr}{sc:Scope}{l:LamD}:∀{ls:List LamD} {i j:Nat},VM y body sc ls i=some (j,l)->i<=j/\ls[j-i]?=some l/\l.y=y/\l.sc=sc/\l.body=body
 |[],_,_,h=>by cases h
 |l'::r,i,j,h=>by
  unfold VM at h
  split at h
  ·rename_i q
   cases h
   simp only[z6x,beq_iff_eq] at q
   exact⟨z6E _,by simp,q.1.1,q.1.2,z47 q.2⟩
  ·obtain⟨h1,h2,h3⟩:=W7 h
   refine⟨by omega,?_,h3⟩
   rw[show j-i=(j-(i+1))+1 by omega,z98];exact h2
noncomputable def z2S:Expr->Option (Str×Expr×Scope×Pos)
 |.Lambda ⟨[],[⟨y,none,_⟩],none,[],[],none,[]⟩ body sc pl=>some (y,body,sc,pl)
 |_=>none
theorem z0Y{e:Expr}{q:Str×Expr×Scope×Pos}(h:z2S e=some q):∃pa,e=.Lambda ⟨[],[⟨q.1,none,pa⟩],none,[],[],none,[]⟩ q.2.1 q.2.2.1 q.2.2.2:=by
 unfold z2S at h
 split at h
 ·cases h;exact⟨_,rfl⟩
 ·cases h
noncomputable def z2h:GM->Option (List LamD)
 |.kap ls=>some ls
 |_=>none
theorem VB{g:GM}{ls:List LamD}(h:z2h g=some ls):g=.kap ls:=by
 cases g<;>first|(cases h;rfl)|cases h
noncomputable def Y6:ER:=λr Γ e=>(z2S e).bind λq=>(z2h (Γ.gl ZM)).bind λls=>(VM q.1 q.2.1 q.2.2.1 ls 0).bind λz=>Γ.lam.bind λp=>(j1 Γ.N z.2.fr).bind λfs=>
 gd (Γ.U.contains ZM&&p.1 == z.2.jt&&decide (q.2.2.2∈p.2)&&frees z.2.sc == z.2.fr&&decide (z.2.fr.Nodup)&&z.2.fr.all (λx=>Γ.fz.contains x&&Γ.cel.contains x)) (some (Zk z.2.jt z.1 fs))
theorem XF{D:DP}:EOk D Y6:=by
 intro r H X W Γ k e d C h
 unfold Y6 at h
 obtain⟨q,h1,h⟩:=bnd h
 obtain⟨ls,h2,h⟩:=bnd h
 obtain⟨⟨j,l⟩,h3,h⟩:=bnd h
 obtain⟨⟨jt,poss⟩,h4,h⟩:=bnd h
 obtain⟨fs,h5,h⟩:=bnd h
 obtain⟨hb,h⟩:=zr h
 cases h
 simp only[z6x,beq_iff_eq,decide_eq_true_eq,z7k,z7i] at hb
 obtain⟨⟨⟨⟨⟨b1,b2⟩,b3⟩,b4⟩,b5⟩,b6⟩:=hb
 obtain⟨pa,rfl⟩:=z0Y h1
 obtain⟨_,e1,e2,e3,e4⟩:=W7 h3
 subst b2
 rw[←e2,←e3,←e4]
 exact z0V C h4 b3 b1 (VB h2) (by simpa using e1) b4 b5 b6 h5
noncomputable def z3o:ER:=λr Γ e=>match e with
 |.Call (.Attribute o m pa) [a] [] pc=>(z2h (Γ.gl ZM)).bind λls=>gd (zT o&&pa.endLine == pc.line&&Γ.calm&&noStar a&&Γ.U.contains ZM&&m == ("keeper":Str)) ((r.e Γ o).bind λgo=>(r.e Γ a).bind λf=>(Γ.fld.lookup m).bind λn=>some (z3a (ls.map λl=>(l.jt,l.g)) n go f))
 |_=>none
theorem z0g{D:DP}:EOk D z3o:=by
 intro r H X W Γ k e d C h
 unfold z3o at h
 split at h
 ·obtain⟨ls,h1,h⟩:=bnd h
  obtain⟨hb,h⟩:=zr h
  simp only[z6x] at hb
  obtain⟨⟨⟨⟨⟨h0,h1'⟩,h2⟩,h3⟩,h4⟩,h5⟩:=hb
  obtain⟨go,e1,h⟩:=bnd h
  obtain⟨f,e2,h⟩:=bnd h
  obtain⟨n,e3,h⟩:=bnd h
  cases h
  exact z3T C (by simpa using h4) (VB h1) (yx e3) h2 h0 h1' h3 (H.e C e1) (H.e C e2)
 ·cases h
end NH
namespace NH
open PySem PySem.Spec PyProof.Rows L2 PySem.W
noncomputable def qg (K:Frag)(x:Str)(st:Stmt):Prop:=∃f fd,nsIn K z6T x=some (some (.ref f))/\Fun K x x st f fd
noncomputable def jU (K:Frag)(C:Addr)(x q:Str)(st:Stmt):Prop:=∃f fd,z70 K (.ref C) x=some (some (.ref f))/\isFn K (.ref f)=true/\Fun K x q st f fd
noncomputable def z0q (K:Frag)(C:Addr)(x q:Str)(st:Stmt):Prop:=∃f fd,nsIn K z6T x=some (some (.ref C))/\z70 K (.ref C) "__init__"=some (some (.ref f))/\isFn K (.ref f)=true/\Fun K "__init__" q st f fd/\zcr K C=true/\z8l K (.ref C)=true
theorem dfp{K:Frag}{x:Str}{st:Stmt}{f:Addr}{oc:Value}{od an:Option Addr}{osl:Array (Option Value)}{kV doc pm cdv ct:Value}(a:nsIn K z6T x=some (some (.ref f)))(l:K.lookup f=some ⟨oc,od,.func (fnOf x x (zC st) (z5 st) (zo st) .none kV doc pm an cdv ct),osl⟩)(c:z8o K cdv x=true)(k:z8l K (.ref f)=true):qg K x st:=⟨f,_,a,ua l c k⟩
theorem mtp{K:Frag}{x q:Str}{st:Stmt}{f C:Addr}{oc:Value}{od an:Option Addr}{osl:Array (Option Value)}{kV doc pm cdv ct:Value}(a:z70 K (.ref C) x=some (some (.ref f)))(j:isFn K (.ref f)=true)(l:K.lookup f=some ⟨oc,od,.func (fnOf x q (zC st) (z5 st) (zo st) .none kV doc pm an cdv ct),osl⟩)(c:z8o K cdv q=true)(k:z8l K (.ref f)=true):jU K C x q st:=⟨f,_,a,j,ua l c k⟩
theorem clp {K:Frag} {x q:Str} {st:Stmt} {f C:Addr} {oc:Value} {od an:Option Addr} {osl:Array (Option Value)} {kV doc pm cdv ct:Value} (a:nsIn K z6T x=some (some (.ref C))) (i:z70 K (.ref C) "__init__"=some (some (.ref f))) (j:isFn K (.ref f)=true) (l:K.lookup f=some ⟨oc,od,.func (fnOf "__init__" q (zC st) (z5 st) (zo st) .none kV doc pm an cdv ct),osl⟩) (c:z8o K cdv q=true) (k:z8l K (.ref f)=true) (m:zcr K C=true) (kk:z8l K (.ref C)=true):z0q K C x q st:=⟨f,_,a,i,j,ua l c k,m,kk⟩
noncomputable def PL:Nat->(List Value->Prop)->Prop
 |0,P=>P []
 |n+1,P=>∀a,PL n λl=>P (a::l)
theorem PL.all:∀{n:Nat} {P:List Value->Prop},PL n P->∀us:List Value,us.length=n->P us
 |0,_,h,[],_=>h
 |_+1,_,h,a::l,e=>PL.all (h a) l (zaD e)
abbrev BdP(x q:Str)(st:Stmt)(ps:List Str):Prop:=∀(kV doc pm:Value) (an:Option Addr) (cdv ct:Value),PL ps.length λus=>zaj (fnOf x q (zC st) (z5 st) (zo st) .none kV doc pm an cdv ct) ⟨us,[]⟩=pure (ps.zip us)
abbrev GsB(l:zcD)(w:z7o)(K:Frag)(mg:Str->Option Value)(base:Heap)(k:Nat)(gs:List (Str×GM)){A:Ads}{clo:Nat->Addr->Option HO->List V->Prop}{tabs:Nat->Option (Addr×List Pos×Str)}:Prop:=GsOk l.prog w K mg base A clo k gs tabs
structure Pk(R:Rules)(K:Frag)(mg:Str->Option Value)(base:Heap)(A:Ads)(cls fld:List (Str×Nat)):Prop where
 r:∀{D},RulesOk D R
 i:K.In base
 n:base.Ns z6T mg
 c:chk K A cls fld=true
section
variable {R:Rules}{P:Program}{w:World}{K:Frag}{mg:Str->Option Value}{base:Heap}{A:Ads}{cls fld:List (Str×Nat)}{clo:Nat->Addr->Option HO->List V->Prop}{gs:List (Str×GM)}{tabs:Nat->Option (Addr×List Pos×Str)}{k:Nat}{x qu:Str}{st:Stmt}{f C:Addr}{fd:FuncData}{ps N G cel own:List Str}{m n:Nat}{ds:List Ds}
theorem Pk.ok(Z:Pk R K mg base A cls fld)(F:Fun K x qu st f fd)(q:GsOk P w K mg base A clo k gs tabs)(hds:zq ((comp R n).s (cn cls fld gs N G cel own none)) (z5 st)=some ds)(hs:Wd (cn cls fld gs N G cel own none) ps (zo st)=true)(hm:N.length=ps.length+m) :
  FnOk P w K mg base (CX1 P w) (k+1) f fd ps (spN (mkD K A clo tabs) ps.length (fnW ps.length m ds)):=by
 obtain⟨oc,od,kV,doc,pm,an,cdv,ct,osl,rfl,lk,hcd⟩:=F.ex
 exact kD Z.r (yw Z.i Z.n Z.c q) lk hcd hs hm hds
theorem Pk.fn (Z:Pk R K mg base A cls fld) (p:qg K x st) (q:GsOk P w K mg base A clo k gs tabs) (hds:zq ((comp R n).s (cn cls fld gs N G cel own none)) (z5 st)=some ds) (hs:Wd (cn cls fld gs N G cel own none) ps (zo st)=true) (hm:N.length=ps.length+m) (hb:BdP x x st ps) (hx:(x == ("__debug__":Str))=false) :
  GsOk P w K mg base A clo (k+1) ((x,GM.fn (fnW ps.length m ds))::gs) tabs:=by
 obtain⟨f,fd,a,F⟩:=p
 exact GsOk.add (q.mono (z9t k)) ⟨f,zbn Z.i Z.n a,fd,ps,k+1,F.kp,F.binds λkV dc pm an cd ct=>(hb kV dc pm an cd ct).all,z6E _,Z.ok F q hds hs hm,qB⟩ hx
theorem Pk.met {c:Nat} (Z:Pk R K mg base A cls fld) (p:jU K C x qu st) (q:GsOk P w K mg base A clo k gs tabs) (hds:zq ((comp R n).s (cn cls fld gs N G cel own none)) (z5 st)=some ds) (hc:A.cs.lookup c=some C) (hn:(FLD.contains x)=false) (hs:Wd (cn cls fld gs N G cel own none) ps (zo st)=true) (hm:N.length=ps.length+m) (hb:BdP x qu st ps) (hx:(dot x == ("__debug__":Str))=false) :
  GsOk P w K mg base A clo (k+1) ((dot x,GM.met c x (fnW ps.length m ds))::gs) tabs:=by
 obtain⟨f,fd,i,j,F⟩:=p
 refine GsOk.add (q.mono (z9t k)) ⟨C,f,fd,ps,k+1,hc,jo Z.c hc,⟨i,j,F.kp⟩,λi h=>?_,F.binds λkV dc pm an cd ct=>(hb kV dc pm an cd ct).all,z6E _,Z.ok F q hds hs hm,qB⟩ hx
 have:=z7i.mpr (z6M (show FLD[i]?=some x from h))
 rw[hn] at this;cases this
theorem Pk.cl {c:Nat} {b:Bool} (Z:Pk R K mg base A cls fld) (p:z0q K C x qu st) (q:GsOk P w K mg base A clo k gs tabs) (hds:zq ((comp R n).s (cn cls fld gs N G cel own none)) (z5 st)=some ds) (hc:A.cs.lookup c=some C) (hs:Wd (cn cls fld gs N G cel own none) ps (zo st)=true) (hm:N.length=ps.length+m) (hb:BdP "__init__" qu st ps) (hx:(x == ("__debug__":Str))=false) :
  GsOk P w K mg base A clo (k+2) ((x,GM.mk c b (fnW ps.length m ds))::gs) tabs:=by
 obtain⟨f,fd,a,i,j,F,mk,kk⟩:=p
 exact GsOk.add (q.mono (Nat.le_add_right k 2)) ⟨C,f,fd,ps,k+1,hc,zbn Z.i Z.n a,⟨mk,i,j,kk⟩,F.binds λkV dc pm an cd ct=>(hb kV dc pm an cd ct).all,z6E _,Z.ok F q hds hs hm,qB⟩ hx
end
end NH
namespace NH
open PySem PySem.Spec PyProof.Rows L2
noncomputable def sIx(l:List Stmt)(i:Nat):Stmt:=l.getD i (.Pass ⟨0,0,0,0⟩)
noncomputable def z4M:Stmt->Expr
 |.Assign _ e _=>e
 |.Return (some e) _=>e
 |.Expr e _=>e
 |_=>.Name "" ⟨0,0,0,0⟩
noncomputable def subB:Stmt->List Stmt
 |.For _ _ b _ _=>b
 |.If _ b _ _=>b
 |_=>[]
noncomputable def z63:Stmt->List Stmt
 |.If _ _ b _=>b
 |_=>[]
noncomputable def z5O(e:Expr)(i:Nat):Expr:=match e with
 |.Call _ as _ _=>as.getD i e
 |_=>e
noncomputable def z4_:Expr->Expr
 |.Lambda _ b _ _=>b
 |e=>e
noncomputable def z5E:Expr->Scope
 |.Lambda _ _ s _=>s
 |_=>⟨.function,[],false,false,[]⟩
noncomputable def AllL{β:Type}(P:β->Prop):List β->Prop
 |[]=>True
 |a::r=>P a/\AllL P r
theorem AllL.mem{β:Type}{P:β->Prop}:∀{ls:List β},AllL P ls->∀l∈ls,P l
 |[],_,_,h=>absurd h (by simp)
 |a::r,q,l,h=>(z75.mp h).elim (λe=>e▸q.1) λh=>AllL.mem q.2 l h
theorem z5x{D:DP}{P:z7a}{w:z7o}{K:z6C}{mg:Str->Option Value}{base:Heap}{Γ:Cn}{k:Nat}{F:List Str}(M:MdOk D P w K mg base Γ k):MdOk D P w K mg base {Γ with fz:=F} k:=⟨M.hK,M.glo,M.isi,M.fld,M.xcx,M.ocx,M.clv,M.xmt⟩
theorem z1S{R:Rules}{D:DP}{P:z7a}{w:z7o}{K:z6C}{mg:Str->Option Value}{base:Heap}{Γ:Cn}{n k:Nat}(HR:RulesOk D R){f:Addr}{name qual:Str}{params:Arguments}{body:List Stmt}{scope:Scope}{dV kV doc pm cdv ct oc:Value}{an od:Option Addr}{osl:Array (Option Value)}{ps:List Str}{m cut:Nat}{ds:List Ds}
  (M:MdOk D P w K mg base Γ k) (lk:K.lookup f=some ⟨oc,od,.func (z7v name qual params body scope dV kV doc pm an cdv ct),osl⟩) (hcd:z8o K cdv qual=true) (hs:Wd Γ ps scope=true) (hm:Γ.N.length=ps.length+m) (hd1:zq ((comp R n).s {Γ with fz:=[]}) (body.take cut)=some (ds.take cut)) (hds:zq ((comp R n).s Γ) (body.drop cut)=some (ds.drop cut)) (hlam:LamOk D mg base cdv (qual++".<locals>.") k Γ.lam) :
  FnOk P w K mg base (CX1 P w) (k+1) f (z7v name qual params body scope dV kV doc pm an cdv ct) ps (spN D ps.length (fnW ps.length m ds)):=by
 have:=Qo HR M lk hcd hs hm (z8C cut body).symm hd1 hds hlam
 rwa[z8C] at this
noncomputable def YC(kvs more:List (Key×T)):List (Key×T):=more.foldl (λacc kv=>Y8 kv.1 kv.2 acc) kvs
noncomputable abbrev z0x(o f:De):De:=λτ μ=>(o τ μ).bind λot μ1=>match ot with
 |.mut i=>λK Z=>(∃kvs,μ1[i]?=some (.dic kvs))/\f τ μ1 (λt μ2=>match t with
  |.dic more=>∃kvs,μ2[i]?=some (.dic kvs)/\kvs.length+more.length<=room/\K .non (μ2.set i (.dic (YC kvs more)))
  |_=>False) Z
 |_=>.st
section
variable {X:Cx}{D:DP}{W:XW}{Γ:Cn}{k:Nat}{pins:List (Addr×Obj)}{s:Shared}{σ:St}{H:Hp}{φ α:List Addr}{τ:Sl}{μ:Mem}{f g:De}{a b:Expr}{pos:Pos}{A:Around}{E:Value->Shared->Prop}
theorem Xk{x y:Addr}{kvs more:List (Key×V)}{Q:Value->z6z->Prop}(I:Inv X pins σ H s)(e:H x=some (.dK kvs))(ey:H y=some (.dK more))(ne:x≠y)(hz:kvs.length+more.length<=sizeLine)(h:∀s',Inv X pins σ (upd H x (.dK (jn kvs more))) s'->Q .none s'):z6I (z6L X.prog X.w) A (call (.builtin "dict.update") [.ref x,.ref y]) Q E s:=by
 obtain⟨z,hd,vs,rel,dd⟩:=U7 I.hok e
 obtain⟨z2,hd2,vs2,rel2,dd2⟩:=U7 I.hok ey
 refine call_meetsIn zae dd.typeIs PySem.F.entry_dict_update (PySem.F.args_dict_update_2 _ _) (meets_dict_update (zN X.prog X.w) x y ne hd2) ⟨vs,vs2,dd,dd2,by rw[←rel.length,←rel2.length];exact hz,λh' dd' _ hs=>h _ ?_⟩
 have he:∃q,h'.get? x=some q:=let ⟨q,_,_,hq,_⟩:=dd';⟨q,hq⟩
 exact ZW (t':=s.toks) I (by rw[e];exact z7r) hs he (Yz (z6X (jg more kvs) hz) hd (rel2.merge rel) dd')
noncomputable def z4D(td ty:TE):TE:=λσ H Q=>td σ H λx H1=>∃a,x=.ref a/\IsD H1 a/\ty σ H1 λy H2=>∃b kvs more,y=.ref b/\H2 a=some (.dK kvs)/\H2 b=some (.dK more)/\a≠b/\kvs.length+more.length<=sizeLine/\Q .non (upd H2 a (.dK (jn kvs more)))
theorem z0j {o e:Expr} {td ty:TE} {apos cpos:Pos} (ho:PE X o td) (he:PE X e ty) (m:M1 X o "update" apos e cpos):PE X (.Call (.Attribute o "update" apos) [e] [] cpos) (z4D td ty):=by
 intro pins s σ H Q I h
 refine wpAny_Call_method m.base m.few m.line PySem.F.plainAttrs_dict zae PySem.F.type_dict_update (thn (ho pins s σ H _ I h) λu s1 ⟨x,H1,I1,rx,a,ex,d,q1⟩=>?_)
 subst ex
 obtain rfl:u=z6W a:=rx
 obtain⟨t1,t2,_⟩:=z3M I1 d
 refine⟨t1,t2,?_⟩
 rw[m.trees]
 refine zaz rfl (z8M (zbs (thn (he pins s1 σ H1 _ I1 q1) λiv s2 ⟨y,H2,I2,ry,b,kvs,more,ey,ea,eb,ne,hz,q2⟩=>zbN ?_)))
 subst ey
 obtain rfl:iv=z6W b:=ry
 exact Xk I2 ea eb ne hz λs3 I3=>⟨.non,_,I3,rfl,q2⟩
theorem yk:∀{more:List (Key×T)} {gm:List (Key×V)} {kvs:List (Key×T)} {gs:List (Key×V)},DenK D φ α H more gm->DenK D φ α H kvs gs->DenK D φ α H (YC kvs more) (jn gs gm)
 |[],_,kvs,gs,h,l=>by cases h;exact l
 |p::r,_,kvs,gs,h,l=>by
  obtain⟨v,q,rfl,d,h⟩:=h
  exact yk (more:=r) (gm:=q) (kvs:=Y8 p.1 p.2 kvs) (gs:=putK gs p.1 v) h (Wo d l)
theorem z3u(C:Ck D W Γ X k){o:Expr}{pa pc:Pos}{go:De}(hp:zT o=true)(hs:noStar a=true)(hline:(pa.endLine == pc.line)=true)(ho:PE X o (rdE D W go))(ha:PE X a (rdE D W f)) :
  PE X (.Call (.Attribute o "update" pa) [a] [] pc) (rdE D W (z0x go f)):=by
 have hb:z7m [a] X.env=[(false,eval a X.env)]:=za hs
 refine PE.mono (z0j ho ha ⟨qD hp,by rw[hb];rfl,hline,by rw[hb];rfl⟩) ?_
 rintro σ H Q ⟨φ,α,τ,μ,sr,mr,p⟩
 refine⟨φ,α,τ,μ,sr,mr,p.bind.mono λot μ1 α1 H1 st1 m1 q ov dv=>?_⟩
 cases ot with
 | «mut» i=>
  obtain⟨K,Z,⟨⟨kvs0,h0⟩,hf⟩,hk,hz⟩:=q
  obtain⟨x,hx,rfl⟩:=dv
  obtain⟨gs0,hH0,l0⟩:=m1.ob _ x _ hx h0
  refine⟨x,rfl,.inl ⟨_,.inl hH0⟩,φ,α1,τ,μ1,sr.step st1,m1,_,Z,hf,?_,hz⟩
  intro t μ2 ht α2 H2 st2 m2 v d
  cases t with
  |dic more=>
   obtain⟨kvs,h2,hl,q2⟩:=ht
   obtain⟨β,e2,_⟩:=st2.ext
   have hx2:α2[i]?=some x:=by
    rw[e2,z6B (z6v.mp hx).1];exact hx
   obtain⟨gs,hH,l⟩:=m2.ob i x _ hx2 h2
   obtain⟨y,gm,rfl,n1,n2,hy,lm⟩:=d
   have st4:Stp α2 H2 α2 (upd H2 x (.dK (jn gs gm))):=Stp.turn (z6M hx2) ⟨_,hH⟩
   have hi:i<μ2.length:=(z6v.mp h2).1
   refine⟨y,gs,gm,rfl,hH,hy,λz=>n2 (z▸z6M hx2),by rw[ku l,ku lm];exact zA hl,?_⟩
   exact hk _ _ q2 α2 _ (st2.trans st4) (m2.turn hx2 hi st4 ⟨_,z6,yk (lm.step st4) (l.step st4)⟩) _ rfl
  |_=>exact ht.elim
 |_=>exact Post.elim q
end
noncomputable def z5A:ER:=rM1 "update" z0x
theorem z02{D:DP}:EOk D z5A:=Yy λC hp hs hl ho ha=>z3u C hp hs hl ho ha
noncomputable def ZE(b:Expr):Bool:=match b with
 |.Constant (.str _) _ _=>true
 |_=>false
theorem Yd{b:Expr}(h:ZE b=true):z0f b:=by
 unfold ZE at h
 split at h
 ·exact λov iv=>rfl
 ·cases h
noncomputable def z2K:ER:=λr Γ e=>match e with
 |.Subscript a b _=>gd (ZE b) ((r.e Γ a).bind λf=>(r.e Γ b).bind λg=>some (eC2 zY f g))
 |_=>none
theorem z0h{D:DP}:EOk D z2K:=by
 intro r H X W Γ k e d C h
 unfold z2K at h
 split at h
 ·obtain⟨hb,h1⟩:=zr h
  obtain⟨f,e1,h1⟩:=bnd h1
  obtain⟨g,e2,h1⟩:=bnd h1
  cases h1
  exact z2_ C (Yd hb) (H.e C e1) (H.e C e2)
 ·cases h
noncomputable def emL(e:Expr):Bool:=match e with
 |.List [] _=>true
 |_=>false
noncomputable def z1o:ER:=λr Γ e=>gd (emL e&&Γ.own.contains ⟨#[91,93]⟩) (KS r Γ e)
theorem X1{D:DP}:EOk D z1o:=by
 intro r H X W Γ k e d C h
 exact QA r H C (zr h).2
noncomputable def WI (μ:Mem)(t:T):Option T:=match t with
 |.mut i=>(match μ[i]? with
  |some (.lst ts)=>gd (j6 ts) (some (.lst ts))
  |_=>none)
 |t=>gd (wd t) (some t)
noncomputable def Qs (μ:Mem):List T->Option (List T)
 |[]=>some []
 |t::r=>(WI μ t).bind λa=>(Qs μ r).bind λb=>some (a::b)
noncomputable abbrev neR(x y:T)(μ:Mem):RE T:=match x,y with
 |.tup xs,.tup ys=>λK _=>∃(xs' ys':List T) (b:Bool),Qs μ xs=some xs'/\Qs μ ys=some ys'/\qi xs'<=40/\eqL xs' ys'=some b/\K (.bl (!b)) μ
 |_,_=>.st
section
variable {X:Cx}{D:DP}{W:XW}{Γ:Cn}{k:Nat}{pins:List (Addr×Obj)}{s:Shared}{σ:St}{H:Hp}{φ α:List Addr}{τ:Sl}{μ:Mem}{f g:De}{a b:Expr}{pos:Pos}
theorem Xc:∀a:Addr,a∉φ->a∉α->a∉([]:List Addr)/\a∉([]:List Addr):=λa _ _=>⟨by simp,by simp⟩
theorem Xn{t t':T}{v:V}(mr:MRel D φ α H μ)(d:Den D φ α H t v)(h:WI μ t=some t'):Den D [] [] H t' v:=by
 unfold WI at h
 split at h
 ·rename_i i
  split at h
  ·rename_i ts hi
   obtain⟨hp,h⟩:=zr h
   cases h
   obtain⟨c,hc,rfl⟩:=d
   obtain⟨xs,q,l⟩:=mr.ob i c _ hc hi
   exact⟨c,xs,rfl,by simp,by simp,.inl q,DenL.hide hp l Xc⟩
  ·cases h
 ·obtain⟨hp,h⟩:=zr h
  cases h
  exact Den.hide hp d Xc
theorem xX(mr:MRel D φ α H μ):∀{ts ts':List T} {vs:List V},DenL D φ α H ts vs->Qs μ ts=some ts'->DenL D [] [] H ts' vs
 |[],_,_,l,h=>by cases h;exact l
 |t::r,_,_,l,h=>by
  obtain⟨v,q,rfl,d,l⟩:=l
  obtain⟨a,h1,h⟩:=bnd h
  obtain⟨b,h2,h⟩:=bnd h
  cases h
  exact⟨v,q,rfl,Xn mr d h1,xX mr l h2⟩
theorem z1x(hu:X.A.units+64<cLine):OpC X D W .NotEq neR:=by
 intro pins s σ H φ α μ x y v w u1 u2 Q I mr d1 d2 r1 r2 p
 unfold neR at p
 split at p
 ·obtain⟨K0,Z0,⟨xs',ys',b,h1,h2,hd,e,q⟩,k1,k2⟩:=p
  obtain⟨c,vs,rfl,_,_,r,l⟩:=d1
  obtain⟨d,ws,rfl,_,_,r',l'⟩:=d2
  cases r1;cases r2
  exact W4 I (xX mr l h1) (xX mr l' h2) r r' e (by omega) _ _ _ _ ⟨.bl (!b),H,I,rfl,k1 _ _ q α H (Stp.refl _ _) mr _ rfl⟩
 ·exact p.elim
end
noncomputable def neM (Γ:Cn):Expr->Option (Expr×Expr)
 |.Compare (.Name x p) [.NotEq] [b] _=>gd (Γ.own.contains (z67 x)&&jW .NotEq b) (some (.Name x p,b))
 |_=>none
theorem Ue{Γ:Cn}{e:Expr}{q:Expr×Expr}(h:neM Γ e=some q):jW .NotEq q.2=true/\∃pos,e=.Compare q.1 [.NotEq] [q.2] pos:=by
 unfold neM at h
 split at h
 ·obtain⟨hb,h⟩:=zr h
  cases h
  simp only[z6x] at hb
  exact⟨hb.2,_,rfl⟩
 ·cases h
noncomputable def z1N:ER:=λr Γ e=>(neM Γ e).bind λq=>(r.e Γ q.1).bind λf=>(r.e Γ q.2).bind λg=>some (eC2 neR f g)
theorem z0L{D:DP}:EOk D z1N:=by
 intro r H X W Γ k e d C h
 unfold z1N at h
 obtain⟨q,hq,h⟩:=bnd h
 obtain⟨f,e1,h⟩:=bnd h
 obtain⟨g,e2,h⟩:=bnd h
 cases h
 obtain⟨ho,pos,rfl⟩:=Ue hq
 exact z5h (z1x C.unt) ho (H.e C e1) (H.e C e2)
noncomputable def XI:TR:=λr Γ e=>(neM Γ e).bind λq=>(r.e Γ q.1).bind λf=>(r.e Γ q.2).bind λg=>some (tE (eC2 neR f g))
theorem XM{D:DP}:TOk D XI:=by
 intro r H X W Γ k e d C h
 unfold XI at h
 obtain⟨q,hq,h⟩:=bnd h
 obtain⟨f,e1,h⟩:=bnd h
 obtain⟨g,e2,h⟩:=bnd h
 cases h
 obtain⟨ho,pos,rfl⟩:=Ue hq
 exact XX (z1x C.unt) ho (H.e C e1) (H.e C e2)
noncomputable def z6f (s:Stmt):Bool:=match s with
 |.Assign [.Subscript _ b _] _ _=>ZE b
 |_=>false
noncomputable def KN:SR:=λr Γ s=>gd (z6f s) (Vs r Γ s)
theorem JA{D:DP}:SOk D KN:=by
 intro r H X W Γ k e d C h
 exact JI r H C (zr h).2
end NH
namespace NH.P
open PySem L2 NH
@[reducible] noncomputable def wa:List Ds:=[(sIf (tE (zv .Eq (qZ [(eV 1),(eV 2)]) (zS 45 qK (eV 0) []))) [XQ] []),(qI (eV 0) 20 (eC (.bl true))),(zF (z3a [(0,(y3 (eV 1) (eV 0))),(0,(y3 (eV 1) (eV 0)))] 16 (eV 0) (qZ [(eV 1),(eV 2)]))),(qI (eV 0) 20 (eC (.bl false))),(qI (eV 0) 6 (eV 1)),(qI (eV 0) 17 (eV 2))]
noncomputable def qc:Fn:=fnW 3 0 wa
@[reducible] noncomputable def qM:List Ds:=[(zF (zS 45 zM (eV 0) [])),(zF (zb wq [(zi (eV 0) 9),(eV 1)])),(zF (zS 45 qc (eV 0) [(eV 1),(zi (eV 0) 17)]))]
noncomputable def zz:Fn:=fnW 2 0 qM
@[reducible] noncomputable def wc:List Ds:=[(zF (zS 45 zM (eV 0) [])),(zj 3 (zS 45 qp (eV 0) [(eV 1),(eV 2)])),(zF (zS 45 qc (eV 0) [(zi (eV 0) 6),(zS 45 qe (eV 0) [(ze .FloorDiv (ze .Sub (zi (eV 3) 13) (eC (.int 1))) (zi (zi (eV 0) 9) 2))])])),(qI (eV 0) 18 (zb kq [(zi (eV 0) 9),(zi (eV 3) 11),(ze .Sub (zi (eV 3) 13) (eC (.int 1)))])),(zp (eV 3))]
noncomputable def zX:Fn:=fnW 3 1 wc
@[reducible] noncomputable def je:List Ds:=[(zj 3 (zS 45 zX (eV 0) [(eV 1),(eV 2)])),(qI (eV 0) 19 (ji [])),(zp (zb zZ [(zi (eV 0) 9),(eV 3)]))]
noncomputable def qh:Fn:=fnW 3 1 je
@[reducible] noncomputable def vw:List Ds:=[(zj 3 (zS 45 zX (eV 0) [(eV 1),(eV 2)])),(zF (y3 (zi (eV 0) 19) (eV 3))),(zp (zb wN [(zi (eV 0) 19)]))]
noncomputable def zV:Fn:=fnW 3 1 vw
@[reducible] noncomputable def qQ:List Ds:=[(zF (zS 45 zM (eV 0) [])),(zF (zS 45 zE (eV 0) [])),(zj 1 (qZ [(zi (eV 0) 6),(zb xE [(zi (eV 0) 6),(zS 45 qf (eV 0) [])])])),(zF (zS 45 qc (eV 0) [(eC .non),(zi (eV 0) 17)])),(qI (eV 0) 19 (ji [])),(zp (eV 1))]
noncomputable def zR:Fn:=fnW 1 1 qQ
@[reducible] noncomputable def ZD:List Ds:=[(zj 2 (XT [((eC (.str "lease")),(eC .non)),((eC (.str "mark")),(eC .non)),((eC (.str "begun")),(eC .non)),((eC (.str "last")),(eC .non)),((eC (.str "kept")),(jI [])),((eC (.str "notes")),(eV 1))])),(sIf (tE (zv .IsNot (eV 0) (eC .non))) [(zF (z0x (eV 2) (z0e [((eC (.str "lease")),(eIx (eV 0) (eC (.int 0)))),((eC (.str "mark")),(eIx (eV 0) (eC (.int 1)))),((eC (.str "begun")),(eIx (eV 0) (eC (.int 1))))])))] []),(zp (eV 2))]
noncomputable def qY:Fn:=fnW 2 1 ZD
@[reducible] noncomputable def xZ:List Ds:=[(sIf (tE (zv .NotEq (qZ [(eV 1),(eV 2)]) (qZ [(eC2 zY (eV 0) (eC (.str "lease"))),(eC2 zY (eV 0) (eC (.str "mark")))]))) [(zF (y3 (eC2 zY (eV 0) (eC (.str "notes"))) (qZ [(eV 1),(eV 2)])))] []),(zF (z0x (eV 0) (z0e [((eC (.str "lease")),(eV 1)),((eC (.str "mark")),(eV 2))])))]
noncomputable def vj:Fn:=fnW 3 0 xZ
@[reducible] noncomputable def vP:List Ds:=[(sIf (tE (zv .Is (eC2 zY (eV 0) (eC (.str "lease"))) (eC .non))) [(zp (eC (.str "lease")))] []),(zj 6 (eC2 zY (eV 0) (eC (.str "last")))),(sIf (vX (tE (zv .Is (eV 6) (eC .non))) (tE (zv .IsNot (eC2 zY (eV 0) (eC (.str "begun"))) (eC .non)))) [(zj 6 (ze .Sub (ze .Mult (ze .Mult (ze .Add (eC2 zY (eV 0) (eC (.str "begun"))) (eC (.int 1))) (eIx (eV 1) (eC (.int 1)))) (eIx (eV 1) (eC (.int 2)))) (eC (.int 1))))] []),(zj 7 (zb xU [(eV 1),(eC2 zY (eV 0) (eC (.str "lease"))),(eV 6),(eV 4),(eV 5)])),(sIf (tE (zv .Is (eV 7) (eC .non))) [(zp (eC (.str "lease")))] []),(zj 8 (eIx (zb vd [(eV 1),(eIx (eV 7) (WT (eC (.int 1))))]) (eC (.int 0)))),(sIf (tE (zv .Gt (eV 8) (ze .Add (eV 4) (eV 2)))) [(zp (qZ [(eC (.str "wait")),(ze .Sub (ze .Sub (eV 8) (eV 4)) (eV 2))]))] []),(sIf (tOr (tE (zv .Is (eC2 zY (eV 0) (eC (.str "mark"))) (eC .non))) (tE (zv .Gt (eV 8) (eC2 zY (eV 0) (eC (.str "mark")))))) [(zF (zb vj [(eV 0),(eC2 zY (eV 0) (eC (.str "lease"))),(eB2 vI (ze .Add (eV 8) (eV 3)) (ze .Sub (eIx (eV 1) (eC (.int 0))) (eC (.int 1))))]))] []),(uj (eV 0) (eC (.str "last")) (eIx (eV 7) (WT (eC (.int 1))))),(zp (eV 7))]
noncomputable def kc:Fn:=fnW 6 3 vP
@[reducible] noncomputable def vq:List Ds:=[(sIf (tE (zv .Is (eC2 zY (eV 0) (eC (.str "lease"))) (eC .non))) [(zp (eC (.str "lease")))] []),(zj 2 (eC2 zY (eV 0) (eC (.str "lease")))),(zj 3 (eC2 zY (eV 0) (eC (.str "begun")))),(sIf (tE (zv .IsNot (eC2 zY (eV 0) (eC (.str "last"))) (eC .non))) [(zj 3 (eIx (zb vd [(eV 1),(eC2 zY (eV 0) (eC (.str "last")))]) (eC (.int 0))))] []),(zj 4 (eC .non)),(sIf (vX (tE (zv .IsNot (eV 3) (eC .non))) (tE (zv .GtE (eV 3) (eIx (eV 2) (eC (.int 1)))))) [(zj 4 (eB2 vI (eV 3) (ze .Sub (eIx (eV 2) (eC (.int 2))) (eC (.int 1)))))] []),(zF (zb vj [(eV 0),(eC .non),(eC2 zY (eV 0) (eC (.str "mark")))])),(uj (eV 0) (eC (.str "kept")) (jI [])),(zp (qZ [(eV 2),(eV 4)]))]
noncomputable def jL:Fn:=fnW 2 3 vq
@[reducible] noncomputable def Z7:List Ds:=[(sIf (tE (zv .Eq (eV 0) (eC (.int 0)))) [(zj 7 (zb kc [(eV 1),(eV 2),(eV 3),(eV 4),(eV 5),(eV 6)])),(sIf (tE (xY [5] (eV 7))) [(uj (eV 1) (eC (.str "kept")) (jI []))] []),(zp (eV 7))] []),(sIf (tE (zv .Eq (eV 0) (eC (.int 1)))) [(zj 7 (zb kc [(eV 1),(eV 2),(eV 3),(eV 4),(eV 5),(eV 6)])),(sIf (tE (xY [5] (eV 7))) [(uj (eV 1) (eC (.str "kept")) (ze .Add (eC2 zY (eV 1) (eC (.str "kept"))) (eV 7))),(zp (eB1 ur (eC2 zY (eV 1) (eC (.str "kept")))))] []),(zp (eV 7))] []),(sIf (tE (zv .Eq (eV 0) (eC (.int 2)))) [(sIf (tE (zv .Gt (eV 6) (eB1 ur (eC2 zY (eV 1) (eC (.str "kept")))))) [(zp (eC (.str "empty")))] []),(zj 7 (eSl (eC2 zY (eV 1) (eC (.str "kept"))) pN (pS (eV 6)))),(uj (eV 1) (eC (.str "kept")) (eSl (eC2 zY (eV 1) (eC (.str "kept"))) (pS (eV 6)) pN)),(zp (eV 7))] []),(zp (zb jL [(eV 1),(eV 2)]))]
noncomputable def zQ:Fn:=fnW 7 1 Z7
@[reducible] noncomputable def QT:List Ds:=[(z2z [(sIf (tE (zv .Eq (eV 0) (eC (.int 0)))) [(zp (zS 45 qh (eV 1) [(eV 2),(eV 3)]))] []),(sIf (tE (zv .Eq (eV 0) (eC (.int 1)))) [(zp (zS 45 zV (eV 1) [(eV 2),(eV 3)]))] []),(sIf (tE (zv .Eq (eV 0) (eC (.int 2)))) [(zp (zS 45 qv (eV 1) [(eV 3)]))] []),(zp (zS 45 zR (eV 1) []))] [([21],some 4,[(zp (qZ [(eC (.str "wait")),(Y1 21 29 (eV 4))]))]),([18],none,[(zp (eC (.str "lease")))]),([22],none,[(zp (eC (.str "empty")))])])]
noncomputable def qk:Fn:=fnW 4 1 QT
@[reducible] noncomputable def vS:List Ds:=[(zj 1 (zb wO [(zb wZ [(eV 0),(eC (.int 0))])])),(zj 2 (zb vT [(eV 1)])),(zj 3 (eMk 40 vg [(eIx (eV 2) (eC (.int 0))),(eIx (eV 2) (eC (.int 1))),(eIx (eV 2) (eC (.int 2)))])),(zj 4 (zb zh [(eV 1),(eC (.int 5))])),(zj 5 (eIx (jI [(eC (.int 0)),(zb zh [(eV 1),(eC (.int 6))])]) (zb zh [(eV 1),(eC (.int 2))]))),(zj 17 (ji [])),(zj 6 (z3w 45 zD [(eV 3),(eV 4),(eV 5),(Zk 0 0 [17])])),(zj 7 (zb qY [(eC .non),(ji [])])),(zj 8 (eC (.int 0))),(zj 9 (ji [])),(Kr (.one 10) (iE (ze .Add (jI [(zb wZ [(eV 0),(eC (.int 1))])]) (eSl (eV 0) (pS (eC (.int 2))) (pS (eC (.int 30)))))) [(zj 1 (zb wO [(eV 10)])),(zj 8 (ze .Add (eV 8) (eIx (jI [(eC (.int 0)),(zb zh [(eV 1),(eC (.int 4))]),(ze .Sub (eC (.int 0)) (zb zh [(eV 1),(eC (.int 6))]))]) (zb zh [(eV 1),(eC (.int 3))])))),(zj 11 (zb zh [(eV 1),(eC (.int 8))])),(zj 12 (ze .Add (eC (.int 1)) (zb zh [(eV 1),(eB2 vI (eIx (eV 2) (eC (.int 2))) (eC (.int 20)))]))),(sIf (tOr (tE (zv .Eq (eV 11) (eC (.int 4)))) (vX (tE (zv .Is (eC2 zY (eV 7) (eC (.str "lease"))) (eC .non))) (tE (zv .NotEq (eV 11) (eC (.int 5)))))) [(zj 13 (zb zO [(eV 1),(eV 2)])),(zj 8 (ze .Sub (ze .Add (eIx (eV 13) (eC (.int 1))) (zb zh [(eV 1),(eC (.int 3))])) (eC (.int 1)))),(zF (zS 45 zz (eV 6) [(eV 13)])),(zF (zb vj [(eV 7),(eV 13),(eC2 zY (eV 7) (eC (.str "mark")))]))] [(sIf (tE (zv .Eq (eV 11) (eC (.int 5)))) [(zj 14 (eIx (ze .Add (jI [(eC .non)]) (eV 17)) (WT (eC (.int 1))))),(zj 6 (Xs 45 zD [(eV 3),(eV 4),(eV 5),(Zk 0 1 [17]),(eV 14)])),(zj 7 (zb qY [(eV 14),(eC2 zY (eV 7) (eC (.str "notes")))]))] [(zj 15 (zb qk [(ze .Mod (eV 11) (eC (.int 4))),(eV 6),(eV 8),(eV 12)])),(sIf (tE (zv .NotEq (eV 15) (zb zQ [(ze .Mod (eV 11) (eC (.int 4))),(eV 7),(eV 2),(eV 4),(eV 5),(eV 8),(eV 12)]))) [(zp (eC (.bl false)))] []),(sIf (tE (xY [5] (eV 15))) [(zF (Km (eV 9) (eV 15)))] [])])]),(zj 16 (qZ [(eV 17),(zS 45 wj (eV 6) []),(zS 45 qK (eV 6) [])])),(sIf (tE (eC2 neR (eV 16) (qZ [(eC2 zY (eV 7) (eC (.str "notes"))),(eC2 zY (eV 7) (eC (.str "last"))),(qZ [(eC2 zY (eV 7) (eC (.str "lease"))),(eC2 zY (eV 7) (eC (.str "mark")))])]))) [(zp (eC (.bl false)))] [])]),(zp (zv .Eq (ja 1 [9] (.one 0) (uU (eC (.int 1)) (eB1 ur (eV 9))) [(tE (zv .LtE (eIx (eV 1) (eV 0)) (eIx (eV 1) (ze .Sub (eV 0) (eC (.int 1))))))] (eV 0)) (ji [])))]
noncomputable def jS:Fn:=fnW 1 17 vS
end NH.P
namespace NH.K90
open PySem PySem.Spec PyProof.Rows L2 NH NH.P
noncomputable def st(i:Nat):Stmt:=PySem.Challenge.pw_namehouses_k90_whole_one_house.main.body.getD i (.Pass ⟨0,0,0,0⟩)
noncomputable def cls:List (Str×Nat):=[("Empty",22),("NoLease",18),("Wait",21),("bool",1),("int",2),("list",5),("tuple",4)]
noncomputable def fld:List (Str×Nat):=[("moments",0),("houses",1),("counts",2),("lease",6),("shape",9),("house",11),("begin",12),("end",13),("ahead",14),("stride",15),("keeper",16),("mark",17),("newest",18),("batches",19),("has_fallen",20),("by",29)]
noncomputable def RU:Rules:=⟨[z1N,z2K,z5A,z1o,z3o,Y6,z3H,XZ,z5g,z39,z4L,rUn,z1v,z5T,z5d,z5p,z4b,z5j,z2E,z4T,z3X,z50,Y9,z4G,z1y,z1h,z3P,z4Y,z4r,z3E],[XI,z1l],[Yo],[YS,riE],[Vv,KS,Ww,z19,roE],[z15,z14,z5J,KN,z1a,z18,Xv,V4,z1d]⟩
theorem yQ{D:DP}:RulesOk D RU:=⟨⟨z0L,z0h,z02,X1,z0g,XF,UN,Yr,UO,z05,z0k,z2F,Yn,UM,UR,z0R,UI,Uv,z0i,US,UT,Us,XG,z0B,U8,KH,UU,z0_,z12,z08,trivial⟩,⟨XM,Xr,trivial⟩,⟨JF,trivial⟩,⟨XO,z3b,trivial⟩,⟨JK,QA,Kw,YK,z22,trivial⟩,⟨YE,Yc,z06,JA,YN,Yx,YU,Js,Ug,trivial⟩⟩
noncomputable def gs0:List (Str×GM):=VI ["ValueError","bool","int","isinstance","len","list","max","min","range","sum","tuple"] [("HouseError",10),("NoShape",12),("NoName",13),("NoTime",16),("NoLease",18),("TooMany",20),("Empty",22),("NoNote",23),("Fallen",24)] [("Wait",21,29)]
noncomputable def wF:=inClass (st 7) 0
noncomputable def gs1:List (Str×GM):=(hash "Wait",GM.xin 21 29 "Wait" "by")::gs0
noncomputable def gs2:List (Str×GM):=(hash "by",GM.xin 21 29 "Wait" "by")::gs1
noncomputable def yu:=st 12
noncomputable def WB:Cn:=cn cls fld gs2 ["thing"] ["isinstance","int","bool"] [] []
theorem Vw:zq ((comp RU 60).s WB) (z5 yu)=some yt:=by kernel_rfl
noncomputable def gs3:List (Str×GM):=("is_whole",GM.fn qO)::gs2
noncomputable def ZA:=st 13
noncomputable def JG:Cn:=cn cls fld gs3 ["thing"] ["is_whole"] [] []
theorem Kd:zq ((comp RU 60).s JG) (z5 ZA)=some Zy:=by kernel_rfl
noncomputable def gs4:List (Str×GM):=("is_size",GM.fn wy)::gs3
noncomputable def wR:=st 14
noncomputable def kR:Cn:=cn cls fld gs4 ["thing"] ["is_whole"] [] []
theorem kN:zq ((comp RU 60).s kR) (z5 wR)=some wU:=by kernel_rfl
noncomputable def gs5:List (Str×GM):=("is_from_nought",GM.fn qj)::gs4
noncomputable def uf:=st 15
noncomputable def Ve:Cn:=cn cls fld gs5 ["thing","bound"] ["is_whole"] [] []
theorem Vf:zq ((comp RU 60).s Ve) (z5 uf)=some ug:=by kernel_rfl
noncomputable def gs6:List (Str×GM):=("is_below",GM.fn qE)::gs5
noncomputable def jT:=inClass (st 16) 0
noncomputable def ZS:Cn:=cn cls fld gs6 ["self","moments","houses","counts"] ["is_size","NoShape"] [] []
theorem Qe:zq ((comp RU 60).s ZS) (z5 jT)=some kj:=by kernel_rfl
noncomputable def gs7:List (Str×GM):=("Shape",GM.mk 40 true vg)::gs6
noncomputable def y6:=st 17
noncomputable def Wt:Cn:=cn cls fld gs7 ["shape"] [] [] []
theorem Vq:zq ((comp RU 60).s Wt) (z5 y6)=some ui:=by kernel_rfl
noncomputable def gs8:List (Str×GM):=("names_in",GM.fn ki)::gs7
noncomputable def Zm:=st 18
noncomputable def K7:Cn:=cn cls fld gs8 ["shape","thing"] ["is_below","names_in"] [] []
theorem Kb:zq ((comp RU 60).s K7) (z5 Zm)=some uM:=by kernel_rfl
noncomputable def gs9:List (Str×GM):=("is_name",GM.fn xH)::gs8
noncomputable def kA:=st 19
noncomputable def Q3:Cn:=cn cls fld gs9 ["shape","thing"] ["is_name","NoName"] [] []
theorem ZH:zq ((comp RU 60).s Q3) (z5 kA)=some ke:=by kernel_rfl
noncomputable def z3R:List (Str×GM):=("check_name",GM.fn vm)::gs9
noncomputable def kB:=st 20
noncomputable def Qc:Cn:=cn cls fld z3R ["thing","bound"] ["is_below","NoName"] [] []
theorem ZY:zq ((comp RU 60).s Qc) (z5 kB)=some k9:=by kernel_rfl
noncomputable def z1F:List (Str×GM):=("check_part",GM.fn qJ)::z3R
noncomputable def Zl:=st 21
noncomputable def Jt:Cn:=cn cls fld z1F ["shape","moment","house","count"] ["check_part"] [] []
theorem Kl:zq ((comp RU 60).s Jt) (z5 Zl)=some uL:=by kernel_rfl
noncomputable def z3q:List (Str×GM):=("name_of",GM.fn xD)::z1F
noncomputable def yn:=st 22
noncomputable def WN:Cn:=cn cls fld z3q ["shape","name","count","above"] ["check_name"] [] []
theorem V8:zq ((comp RU 60).s WN) (z5 yn)=some y4:=by kernel_rfl
noncomputable def z5L:List (Str×GM):=("parts_of",GM.fn vH)::z3q
noncomputable def z4J:List (Str×GM):=("HOUSE",GM.cst (.int 0))::z5L
noncomputable def z5q:List (Str×GM):=("FIRST",GM.cst (.int 1))::z4J
noncomputable def z2k:List (Str×GM):=("UNTIL",GM.cst (.int 2))::z5q
noncomputable def yO:=st 27
noncomputable def V0:Cn:=cn cls fld z2k ["shape","thing"] ["isinstance","tuple","len","is_below","HOUSE","is_whole","FIRST","UNTIL"] [] []
theorem Vk:zq ((comp RU 60).s V0) (z5 yO)=some yG:=by kernel_rfl
noncomputable def z2T:List (Str×GM):=("is_lease",GM.fn vB)::z2k
noncomputable def j7:=st 28
noncomputable def uk:Cn:=cn cls fld z2T ["shape","thing"] ["is_lease","NoLease"] [] []
theorem uB:zq ((comp RU 60).s uk) (z5 j7)=some jc:=by kernel_rfl
noncomputable def z1Y:List (Str×GM):=("check_lease",GM.fn wq)::z2T
noncomputable def Z1:=st 29
noncomputable def Ke:Cn:=cn cls fld z1Y ["lease","moment"] ["FIRST","min","UNTIL"] [] []
theorem K5:zq ((comp RU 60).s Ke) (z5 Z1)=some uX:=by kernel_rfl
noncomputable def z2W:List (Str×GM):=("used_of",GM.fn xE)::z1Y
noncomputable def Zc:=st 31
noncomputable def Kg:Cn:=cn cls fld z2W ["shape","thing"] ["isinstance","tuple","len","is_lease","is_below"] [] []
theorem Kx:zq ((comp RU 60).s Kg) (z5 Zc)=some kU:=by kernel_rfl
noncomputable def z3h:List (Str×GM):=("is_note",GM.fn xP)::z2W
noncomputable def jY:=inClass (st 32) 0
noncomputable def Q4:Cn:=cn cls fld z3h ["self","house","begin","end"] [] [] []
theorem Qj:zq ((comp RU 60).s Q4) (z5 jY)=some jM:=by kernel_rfl
noncomputable def z2p:List (Str×GM):=("Batch",GM.mk 44 true qw)::z3h
noncomputable def Zw:=st 33
noncomputable def Kj:Cn:=cn cls fld z2p ["shape","house","place"] ["name_of"] [] []
theorem K6:zq ((comp RU 60).s Kj) (z5 Zw)=some Zb:=by kernel_rfl
noncomputable def z25:List (Str×GM):=("name_at",GM.fn kq)::z2p
noncomputable def w8:=st 34
noncomputable def jD:Cn:=cn cls fld z25 ["shape","batch"] ["range"] ["shape","batch"] ["return"]
theorem jH:zq ((comp RU 60).s jD) (z5 w8)=some wg:=by kernel_rfl
noncomputable def z4f:List (Str×GM):=("names_of_batch",GM.fn zZ)::z25
noncomputable def kY:=st 35
noncomputable def QE:Cn:=cn cls fld z4f ["batches"] ["sum"] [] []
theorem Qp:zq ((comp RU 60).s QE) (z5 kY)=some xq:=by kernel_rfl
noncomputable def z3j:List (Str×GM):=("size_of",GM.fn wN)::z4f
noncomputable def Qy:=st 36
noncomputable def X_:Cn:=cn cls fld z3j ["batches","many","firsts","others","rest","batch","middle"] ["min","Batch"] [] ["firsts","others","return"]
theorem X4:zq ((comp RU 60).s X_) (z5 Qy)=some Ws:=by kernel_rfl
noncomputable def z31:List (Str×GM):=("parted",GM.fn parted)::z3j
noncomputable def j9:=st 37
noncomputable def uD:Cn:=cn cls fld z31 ["shape","house","name","parts"] ["parts_of"] [] []
theorem uy:zq ((comp RU 60).s uD) (z5 j9)=some j8:=by kernel_rfl
noncomputable def z3g:List (Str×GM):=("place_above",GM.fn wu)::z31
noncomputable def z4I:Expr:=(z5O (z4M (sIx (z5 (st 55)) 6)) 3)
noncomputable def z4F:LamD:=⟨0,((("law":Str)++".<locals>.")++"<lambda>"),"_law_note_here",z4_ z4I,z5E z4I,["_law_called"],(y3 (eV 1) (eV 0))⟩
noncomputable def z5N:Expr:=(z5O (z4M (sIx (subB (sIx (z63 (sIx (subB (sIx (z5 (st 55)) 10)) 4)) 0)) 1)) 3)
noncomputable def z5R:LamD:=⟨0,((("law":Str)++".<locals>.")++"<lambda>"),"_law_one",z4_ z5N,z5E z5N,["_law_called"],(y3 (eV 1) (eV 0))⟩
noncomputable def z0l:List LamD:=[z4F,z5R]
noncomputable def KQ:Cn:=cn cls fld z3g [] [] [] []
theorem z4c:AllL (λl=>VE (yj KQ l []) l=true/\(comp RU 60).e (yj KQ l []) l.body=some l.g) z0l:=⟨⟨by kernel_rfl,by kernel_rfl⟩,⟨by kernel_rfl,by kernel_rfl⟩,trivial⟩
noncomputable def z1O:List (Str×GM):=(ZM,GM.kap z0l)::z3g
noncomputable def zy:=inClass (st 38) 0
noncomputable def x_:Cn:=cn cls fld z1O ["self","shape","ahead","stride","keeper","note"] ["is_from_nought","NoTime","is_note","NoNote"] [] ["batches"]
theorem yJ:zq ((comp RU 60).s x_) (z5 zy)=some vJ:=by kernel_rfl
noncomputable def z5I:List (Str×GM):=("House",GM.mk 45 false zD)::z1O
noncomputable def z48:List (Str×GM):=(til "House",GM.mkd 45 "House" 4 zD)::z5I
noncomputable def wM:=inClass (st 38) 8
noncomputable def kK:Cn:=cn cls fld z48 ["self"] ["Fallen"] [] []
theorem kT:zq ((comp RU 60).s kK) (z5 wM)=some wY:=by kernel_rfl
noncomputable def z3d:List (Str×GM):=(dot "check_up",GM.met 45 "check_up" zM)::z48
noncomputable def jP:=inClass (st 38) 7
noncomputable def ZP:Cn:=cn cls fld z3d ["self"] [] [] []
theorem Qg:zq ((comp RU 60).s ZP) (z5 jP)=some kn:=by kernel_rfl
noncomputable def z38:List (Str×GM):=(dot "note",GM.met 45 "note" qK)::z3d
noncomputable def vM:=inClass (st 38) 15
noncomputable def yN:Cn:=cn cls fld z38 ["self","lease","mark"] [] [] []
theorem yo:zq ((comp RU 60).s yN) (z5 vM)=some wa:=by kernel_rfl
noncomputable def z3e:List (Str×GM):=(dot "keep",GM.met 45 "keep" qc)::z38
noncomputable def qP:=inClass (st 38) 1
noncomputable def vL:Cn:=cn cls fld z3e ["self","lease"] ["check_lease"] [] []
theorem vC:zq ((comp RU 60).s vL) (z5 qP)=some qM:=by kernel_rfl
noncomputable def z1J:List (Str×GM):=(dot "take_lease",GM.met 45 "take_lease" zz)::z3e
noncomputable def qz:=inClass (st 38) 9
noncomputable def wV:Cn:=cn cls fld z1J ["self"] ["NoLease"] [] []
theorem wW:zq ((comp RU 60).s wV) (z5 qz)=some qA:=by kernel_rfl
noncomputable def z3S:List (Str×GM):=(dot "check_has_lease",GM.met 45 "check_has_lease" zE)::z1J
noncomputable def wm:=inClass (st 38) 13
noncomputable def ju:Cn:=cn cls fld z3S ["self"] ["place_above","HOUSE"] [] []
theorem jv:zq ((comp RU 60).s ju) (z5 wm)=some we:=by kernel_rfl
noncomputable def z2P:List (Str×GM):=(dot "free_place",GM.met 45 "free_place" ql)::z3S
noncomputable def w9:=inClass (st 38) 12
noncomputable def jG:Cn:=cn cls fld z2P ["self","reading","many","least","begin","end","by"] ["is_size","TooMany","is_whole","NoTime","max","FIRST","UNTIL","NoLease","Wait","Batch","HOUSE"] [] []
theorem jq:zq ((comp RU 60).s jG) (z5 w9)=some wk:=by kernel_rfl
noncomputable def z2C:List (Str×GM):=(dot "next_batch",GM.met 45 "next_batch" qp)::z2P
noncomputable def qR:=inClass (st 38) 14
noncomputable def vY:Cn:=cn cls fld z2C ["self","moment"] ["min"] [] []
theorem vZ:zq ((comp RU 60).s vY) (z5 qR)=some qr:=by kernel_rfl
noncomputable def z3N:List (Str×GM):=(dot "mark_behind",GM.met 45 "mark_behind" qe)::z2C
noncomputable def wb:=inClass (st 38) 11
noncomputable def jh:Cn:=cn cls fld z3N ["self","reading","many","batch"] ["name_at"] [] []
theorem jE:zq ((comp RU 60).s jh) (z5 wb)=some wc:=by kernel_rfl
noncomputable def z3V:List (Str×GM):=(dot "hand_out",GM.met 45 "hand_out" zX)::z3N
noncomputable def zB:=inClass (st 38) 2
noncomputable def uA:Cn:=cn cls fld z3V ["self","reading","many","batch"] ["names_of_batch"] [] ["batches"]
theorem uw:zq ((comp RU 60).s uA) (z5 zB)=some je:=by kernel_rfl
noncomputable def z4V:List (Str×GM):=(dot "ask",GM.met 45 "ask" qh)::z3V
noncomputable def z3c:List (Str×GM):=(til (dot "ask"),GM.metd 45 "ask" 1 (.int 1) qh)::z4V
noncomputable def zw:=inClass (st 38) 3
noncomputable def xA:Cn:=cn cls fld z3c ["self","reading","many","batch"] ["size_of"] [] []
theorem xu:zq ((comp RU 60).s xA) (z5 zw)=some vw:=by kernel_rfl
noncomputable def z5F:List (Str×GM):=(dot "store",GM.met 45 "store" zV)::z3c
noncomputable def z2u:List (Str×GM):=(til (dot "store"),GM.metd 45 "store" 1 (.int 1) zV)::z5F
noncomputable def zG:=inClass (st 38) 4
noncomputable def ZF:Cn:=cn cls fld z2u ["self","many","parts","names","batch"] ["is_size","TooMany","size_of","Empty","parted","names_of_batch"] [] ["names"]
theorem ZR:zq ((comp RU 60).s ZF) (z5 zG)=some ve:=by kernel_rfl
noncomputable def z5D:List (Str×GM):=(dot "take",GM.met 45 "take" qv)::z2u
noncomputable def z2M:List (Str×GM):=(til (dot "take"),GM.metd 45 "take" 0 (.int 1) qv)::z5D
noncomputable def qS:=inClass (st 38) 10
noncomputable def j5:Cn:=cn cls fld z2M ["self"] ["parts_of"] [] []
theorem v_:zq ((comp RU 60).s j5) (z5 qS)=some qU:=by kernel_rfl
noncomputable def z3F:List (Str×GM):=(dot "last_moment",GM.met 45 "last_moment" qf)::z2M
noncomputable def qT:=inClass (st 38) 5
noncomputable def j4:Cn:=cn cls fld z3F ["self","told"] ["used_of"] [] ["batches"]
theorem j0:zq ((comp RU 60).s j4) (z5 qT)=some qQ:=by kernel_rfl
noncomputable def z3Z:List (Str×GM):=(dot "give_back",GM.met 45 "give_back" zR)::z3F
noncomputable def kC:=inClass (st 38) 6
noncomputable def ZL:Cn:=cn cls fld z3Z ["self"] [] [] []
theorem Qh:zq ((comp RU 60).s ZL) (z5 kC)=some km:=by kernel_rfl
noncomputable def z3l:List (Str×GM):=(dot "last",GM.met 45 "last" wj)::z3Z
noncomputable def k_:=st 40
noncomputable def QL:Cn:=cn cls fld z3l ["_law_script","_law_k"] ["len"] [] []
theorem Wr:zq ((comp RU 60).s QL) (z5 k_)=some xm:=by kernel_rfl
noncomputable def z2a:List (Str×GM):=("_law_cell_at",GM.fn wZ)::z3l
noncomputable def Zq:=st 41
noncomputable def Kp:Cn:=cn cls fld z2a ["_law_cell","_law_k","_law_number"] [] [] []
theorem Ka:zq ((comp RU 60).s Kp) (z5 Zq)=some Zz:=by kernel_rfl
noncomputable def z3z:List (Str×GM):=("_law_mixed",GM.fn xT)::z2a
noncomputable def yq:=st 42
noncomputable def WK:Cn:=cn cls fld z3z ["_law_cell"] [] [] ["return"]
theorem V7:zq ((comp RU 60).s WK) (z5 yq)=some yK:=by kernel_rfl
noncomputable def z1M:List (Str×GM):=("_law_digits",GM.fn wO)::z3z
noncomputable def y7:=st 43
noncomputable def Wx:Cn:=cn cls fld z1M ["_law_source","_law_many","_law_found"] ["_law_mixed"] [] []
theorem WU:zq ((comp RU 60).s Wx) (z5 y7)=some yb:=by kernel_rfl
noncomputable def z3K:List (Str×GM):=("_law_next",GM.fn zh)::z1M
noncomputable def xf:=st 44
noncomputable def QR:Cn:=cn cls fld z3K ["_law_source","_law_moments"] ["_law_next"] [] []
theorem Wh:zq ((comp RU 60).s QR) (z5 xf)=some xl:=by kernel_rfl
noncomputable def z20:List (Str×GM):=("_law_shape",GM.fn vT)::z3K
noncomputable def Z9:=st 45
noncomputable def Jn:Cn:=cn cls fld z20 ["_law_shape_here","_law_name","_law_moments","_law_houses","_law_counts"] [] [] []
theorem Jk:zq ((comp RU 60).s Jn) (z5 Z9)=some Zx:=by kernel_rfl
noncomputable def z2l:List (Str×GM):=("_law_parts",GM.fn vd)::z20
noncomputable def uS:=st 46
noncomputable def JJ:Cn:=cn cls fld z2l ["_law_shape_here","_law_lease","_law_above","_law_reading","_law_moments","_law_houses","_law_counts","_law_house","_law_first","_law_until","_law_found","_law_moment","_law_other","_law_count"] ["max","_law_parts"] [] []
theorem Ky:zq ((comp RU 60).s JJ) (z5 uS)=some kI:=by kernel_rfl
noncomputable def z2U:List (Str×GM):=("_law_after",GM.fn xF)::z2l
noncomputable def uQ:=st 47
noncomputable def JE:Cn:=cn cls fld z2U ["_law_shape_here","_law_lease","_law_above","_law_reading","_law_many","_law_found","_law_k"] ["range","_law_after"] [] ["_law_found","return"]
theorem J_:zq ((comp RU 60).s JE) (z5 uQ)=some Zj:=by kernel_rfl
noncomputable def z1D:List (Str×GM):=("_law_names",GM.fn xU)::z2U
noncomputable def Zn:=st 48
noncomputable def K9:Cn:=cn cls fld z1D ["_law_note_here","_law_notes","_law_state"] [] [] ["_law_state"]
theorem Jq:zq ((comp RU 60).s K9) (z5 Zn)=some ZD:=by kernel_rfl
noncomputable def z4i:List (Str×GM):=("_law_began",GM.fn qY)::z1D
noncomputable def Wj:=st 49
noncomputable def Yv:Cn:=cn cls fld z4i ["_law_state","_law_lease","_law_mark"] [] [] []
theorem Uj:zq ((comp RU 60).s Yv) (z5 Wj)=some xZ:=by kernel_rfl
noncomputable def z1P:List (Str×GM):=("_law_note",GM.fn vj)::z4i
noncomputable def uY:=st 50
noncomputable def JX:Cn:=cn cls fld z1P ["_law_state","_law_shape_here","_law_ahead","_law_stride","_law_reading","_law_many","_law_above","_law_found","_law_moment"] ["_law_names","_law_parts","_law_note","min"] [] []
theorem JH:zq ((comp RU 60).s JX) (z5 uY)=some vP:=by kernel_rfl
noncomputable def z2t:List (Str×GM):=("_law_ready",GM.fn kc)::z1P
noncomputable def yY:=st 51
noncomputable def WV:Cn:=cn cls fld z2t ["_law_state","_law_shape_here","_law_lease","_law_moment","_law_used"] ["_law_parts","min","_law_note"] [] []
theorem V2:zq ((comp RU 60).s WV) (z5 yY)=some vq:=by kernel_rfl
noncomputable def z4o:List (Str×GM):=("_law_back",GM.fn jL)::z2t
noncomputable def Z6:=st 52
noncomputable def JN:Cn:=cn cls fld z4o ["_law_way","_law_state","_law_shape_here","_law_ahead","_law_stride","_law_reading","_law_many","_law_found"] ["_law_ready","isinstance","list","len","_law_back"] [] []
theorem Jp:zq ((comp RU 60).s JN) (z5 Z6)=some Z7:=by kernel_rfl
noncomputable def z1T:List (Str×GM):=("_law_due",GM.fn zQ)::z4o
noncomputable def Qz:=st 53
noncomputable def XJ:Cn:=cn cls fld z1T ["_law_way","_law_house","_law_reading","_law_many","e"] ["Wait","NoLease","Empty"] [] []
theorem Xl:zq ((comp RU 60).s XJ) (z5 Qz)=some QT:=by kernel_rfl
noncomputable def z2D:List (Str×GM):=("_law_done",GM.fn qk)::z1T
noncomputable def wC:=st 54
noncomputable def jO:Cn:=cn cls fld z2D ["_law_source","_law_shape_here","_law_first","_law_span"] ["_law_next","min"] [] []
theorem jV:zq ((comp RU 60).s jO) (z5 wC)=some wt:=by kernel_rfl
noncomputable def z5k:List (Str×GM):=("_law_drawn_lease",GM.fn zO)::z2D
noncomputable def qo:=st 55
noncomputable def Z4:Cn:={(cn cls fld z5k ["_law_script","_law_source","_law_shape_here","_law_made","_law_ahead","_law_stride","_law_house","_law_state","_law_reading","_law_given","_law_cell","_law_way","_law_many","_law_lease","_law_note_here","_law_told","_law_stand","_law_called"] ["_law_digits","_law_cell_at","_law_shape","Shape","_law_next","House","_law_began","min","_law_drawn_lease","_law_note","_law_done","_law_due","isinstance","list","range","len"] ["_law_given","_law_called"] ["_law_called","_law_given","[]","!_law_stand"] (some (0,[⟨360,59,360,116⟩,⟨376,67,376,112⟩]))) with fz:=["_law_called"]}
theorem Vc:zq ((comp RU 60).s {Z4 with fz:=[]}) ((z5 qo).take 6)=some (vS.take 6):=by kernel_rfl
theorem JW:zq ((comp RU 60).s Z4) ((z5 qo).drop 6)=some (vS.drop 6):=by kernel_rfl
end NH.K90
namespace NH
open PySem PySem.Spec PyProof.Rows L2
theorem zL{p:Prop}{i:Decidable p}{A B:Prop}(h1:p->A)(h2:¬p->B):brW (decide p) A B:=by
 cases i with
 |isTrue h=>exact h1 h
 |isFalse h=>exact h2 h
theorem wL{p:Prop}{i:Decidable p}{A B:Prop}(h:p)(a:A):brW (decide p) A B:=zL (λ_=>a) λn=>absurd h n
theorem jx{p:Prop}{i:Decidable p}{A B:Prop}(h:¬p)(b:B):brW (decide p) A B:=zL (λy=>absurd y h) λ_=>b
theorem xO{p:Prop}{i:Decidable p}{A B:Prop}(h1:p->B)(h2:¬p->A):brW (!decide p) A B:=by
 cases i with
 |isTrue h=>exact h1 h
 |isFalse h=>exact h2 h
theorem vR{p:Prop}{i:Decidable p}{A B:Prop}(h:p)(b:B):brW (!decide p) A B:=xO (λ_=>b) λn=>absurd h n
theorem Wm{b:Bool}{A B:Prop}(h1:b=true->A)(h2:b=false->B):brW b A B:=by
 cases b with
 |true=>exact h1 rfl
 |false=>exact h2 rfl
theorem j_{tg:Tg}{body:Ds}{lv:Mem->Prop}{xs:List T}{τ:Sl}{μ:Mem}{E:En}(I:Nat->Sl->Mem->Prop)(h0:I 0 τ μ)
  (h:∀i x τ μ,xs[i]?=some x->I i τ μ->∀N:Sl->Mem->Prop,(∀τ μ,I (i+1) τ μ->N τ μ)->∃τ',asg tg x τ=some τ'/\body τ' μ (E.turn N))
  (k:∀τ μ,I xs.length τ μ->E.nx τ μ) (hl:∀i τ μ,I i τ μ->lv μ:=by intros;trivial):forM tg body lv xs τ μ E:=by
 have go:∀(rest:List T) (i:Nat) (τ:Sl) (μ:Mem),xs.drop i=rest->i<=xs.length->I i τ μ->forM tg body lv rest τ μ E:=by
  intro rest
  induction rest with
  |nil=>
   intro i τ μ hd hi hI
   have:i=xs.length:=by
    have:=congrArg zaX hd
    simp at this;omega
   subst this
   exact k τ μ hI
  |cons x r ih=>
   intro i τ μ hd hi hI
   have hx:xs[i]?=some x:=by
    have:(xs.drop i)[0]?=some x:=by rw[hd];rfl
    simpa using this
   have hlt:i<xs.length:=(z6v.mp hx).1
   have hd':xs.drop (i+1)=r:=by
    have:(xs.drop i).tail=r:=by rw[hd];rfl
    simpa using this
   exact h i x τ μ hx hI _ λτ2 μ2 z=>⟨hl _ _ _ z,ih (i+1) τ2 μ2 hd' hlt z⟩
 exact go xs 0 τ μ rfl (z9s _) h0
end NH
namespace NH.P
open PySem L2 NH
section
local macro_rules | `(tactic| walk_at "grd") => `(tactic| first | decide | exact Or.inl (by decide) | exact Or.inr (by decide) | omega | (simp only [big, room]; omega) | fail)
local macro_rules | `(tactic| walk_at "go") => `(tactic| repeat' (first | (with_reducible refine ⟨_, rfl, ?_⟩) | (with_reducible refine ⟨?w, ?h, ?_⟩; case h => exact rfl) | (with_reducible refine And.intro ?_ ?_; walk_at "grd") | (with_reducible refine vR ?_ ?_; rfl) | (with_reducible refine wL ?_ ?_; rfl) | (with_reducible refine brn_neg ?_ ?_; decide) | (with_reducible refine jx ?_ ?_; decide) | fail))
variable {μ:Mem}{K:T->Mem->Prop}{Z:Xp}
theorem q9{i:Int}(k:K (.bl true) μ):qO [.int i] μ K Z:=⟨rfl,k⟩
theorem Qn{α:Type}{xs:List α}{k:Int}(h0:0<=k)(h1:k<xs.length):wG xs k=xs[k.toNat]?:=by
 unfold wG JV
 rw[if_pos h0,if_pos h1]
 rfl
theorem XN{α:Type}{xs:List α}{lo hi:Option Int}{x:α}(h:x∈xy xs lo hi):x∈xs:=zb2 (z7l h)
end
section
local macro_rules | `(tactic| walk_at "grd") => `(tactic| first | decide | exact Or.inl (by decide) | exact Or.inr (by decide) | omega | (simp only [big, room]; omega) | fail)
local macro_rules | `(tactic| walk_at "go") => `(tactic| repeat' (first | (with_reducible refine ⟨_, rfl, ?_⟩) | (with_reducible refine ⟨?w, ?h, ?_⟩; case h => exact rfl) | (with_reducible refine And.intro ?_ ?_; walk_at "grd") | (with_reducible refine vR ?_ ?_; rfl) | (with_reducible refine wL ?_ ?_; rfl) | (with_reducible refine brn_neg ?_ ?_; decide) | (with_reducible refine jx ?_ ?_; decide) | fail))
variable {μ μ1 μ2:Mem}{K:T->Mem->Prop}{Z:Xp}
noncomputable def St (μ:Mem)(i:Nat):Prop:=∃a b c:Int,μ[i]?=some (.lst [.int a,.int b,.int c])
structure Up(μ:Mem)(i:Nat)(μ':Mem):Prop where
 len:μ'.length=μ.length
 ot:∀j,j≠i->μ'[j]?=μ[j]?
 st:St μ' i
theorem Up.trans{i:Nat}(a:Up μ i μ1)(b:Up μ1 i μ2):Up μ i μ2:=⟨b.len.trans a.len,λj h=>(b.ot j h).trans (a.ot j h),b.st⟩
theorem get_set{i:Nat}{x y:MO}(h:μ[i]?=some x):(μ.set i y)[i]?=some y:=by
 have:=(z6v.mp h).1
 simp[this]
theorem Up.set{i:Nat}{x:MO}{a b c:Int}(h:μ[i]?=some x):Up μ i (μ.set i (.lst [.int a,.int b,.int c])):=⟨by simp,λj hj=>by rw[z6D (z6Z hj)],a,b,c,get_set h⟩
theorem zm{x:MO}:(μ++[x])[μ.length]?=some x:=by rw[z6S (z6E _)];simp
theorem zf{i:Nat}{x o:MO}(h:μ[i]?=some o):(μ++[x])[i]?=some o:=by
 rw[z6B (z6v.mp h).1];exact h
noncomputable abbrev shp(x y z:Int):T:=.obj 40 [(0,.int x),(1,.int y),(2,.int z)]
theorem qN{n:Int}(k:K (.bl (decide (1<=n))) μ):wy [.int n] μ K Z:=by
 unfold wy
 refine⟨rfl,?_⟩
 refine q9 ?_
 exact k
theorem uC{x y z:Int}(hx:1<=x)(hy:1<=y)(hz:1<=z)(q:K .non [.obj 40 [(0,.int x),(1,.int y),(2,.int z)]]):vg [.mut 0,.int x,.int y,.int z] [.obj 40 []] K Z:=by
 unfold vg
 refine⟨rfl,?_⟩
 refine qN ?_
 refine wL hx ?_
 refine qN ?_
 refine wL hy ?_
 refine qN ?_
 refine vR hz ?_
 refine⟨_,_,rfl,by decide,?_⟩
 refine⟨_,_,rfl,(by (show (1:Nat)<900);decide),?_⟩
 refine⟨_,_,rfl,(by (show (2:Nat)<900);decide),?_⟩
 exact q
end
section
local macro_rules | `(tactic| walk_at "grd") => `(tactic| first | decide | exact Or.inl (by decide) | exact Or.inr (by decide) | omega | (simp only [big, room]; omega) | fail)
local macro_rules | `(tactic| walk_at "go") => `(tactic| repeat' (first | (with_reducible refine ⟨_, rfl, ?_⟩) | (with_reducible refine ⟨?w, ?h, ?_⟩; case h => exact rfl) | (with_reducible refine And.intro ?_ ?_; walk_at "grd") | (with_reducible refine vR ?_ ?_; rfl) | (with_reducible refine wL ?_ ?_; rfl) | (with_reducible refine brn_neg ?_ ?_; decide) | (with_reducible refine jx ?_ ?_; decide) | fail))
variable {μ μ1 μ2:Mem}{K:T->Mem->Prop}{Z:Xp}
theorem kg{ns:List Int}{k:Int}(hk:0<=k)(q:∀c,K (.int c) μ):wZ [.lst (ns.map T.int),.int k] μ K Z:=by
 unfold wZ
 refine⟨rfl,?_⟩
 refine zL (λh=>?_) (λh=>?_)
 ·have hl:k.toNat<ns.length:=by
   rw[z6Q] at h;omega
  refine⟨.int ns[k.toNat],?_,q _⟩
  rw[Qn hk h,z78,z8i hl]
  rfl
 ·exact q _
end
section
local macro_rules | `(tactic| walk_at "grd") => `(tactic| first | decide | exact Or.inl (by decide) | exact Or.inr (by decide) | omega | (simp only [big, room]; omega) | fail)
local macro_rules | `(tactic| walk_at "go") => `(tactic| repeat' (first | (with_reducible refine ⟨_, rfl, ?_⟩) | (with_reducible refine ⟨?w, ?h, ?_⟩; case h => exact rfl) | (with_reducible refine And.intro ?_ ?_; walk_at "grd") | (with_reducible refine vR ?_ ?_; rfl) | (with_reducible refine wL ?_ ?_; rfl) | (with_reducible refine brn_neg ?_ ?_; decide) | (with_reducible refine jx ?_ ?_; decide) | fail))
variable {μ μ1 μ2:Mem}{K:T->Mem->Prop}{Z:Xp}
theorem Vn{tg:Tg}{g:Sl->Mem->RE (Option T)}{lv:Mem->Prop}{τ:Sl}{x:T}{r:List T}{K:List T->Mem->Prop}(h:∃τ',asg tg x τ=some τ'/\g τ' μ (λo μ1=>lv μ1/\(match o with
  |some y=>qq tg g lv τ r μ1 (λys μ2=>K (y::ys) μ2) Z
  |none=>qq tg g lv τ r μ1 K Z)) Z):qq tg g lv τ (x::r) μ K Z:=by
 obtain⟨τ',e,h⟩:=h
 unfold qq
 refine⟨τ',e,?_⟩
 have:(λ(o:Option T) μ1=>lv μ1/\(match o with
  |some y=>qq tg g lv τ r μ1 (λys μ2=>K (y::ys) μ2) Z
  |none=>qq tg g lv τ r μ1 K Z))=λo μ1=>lv μ1/\(match o with
   |some y=>(qq tg g lv τ r μ1).bind λys μ2=>RE.ok (y::ys) μ2
   |none=>qq tg g lv τ r μ1) K Z:=by
  funext o μ1
  cases o<;>rfl
 rw[this] at h
 exact h
theorem K4{tg:Tg}{g:Sl->Mem->RE (Option T)}{lv:Mem->Prop}{τ:Sl}{K:List T->Mem->Prop}(h:K [] μ):qq tg g lv τ [] μ K Z:=by
 unfold qq
 exact h
structure Sy(y z:Int):Prop where
 y1:1<=y
 y2:y<=10000000000
 z1:1<=z
 z2:z<=10000000000
theorem QX{x y z:Int}(s:Sy y z)(q:K (.int (x * y * z)) μ):ki [shp x y z] μ K Z:=by
 obtain⟨y1,y2,z1,z2⟩:=s
 unfold ki
 refine⟨rfl,?_⟩
 exact⟨.inr ⟨by unfold big;omega,by unfold big;omega⟩,.inr ⟨by unfold big;omega,by unfold big;omega⟩,q⟩
theorem Qr{x y z n:Int}{b:Bool}(s:Sy y z)(hb:(decide (0<=n)&&decide (n<x * y * z))=b)(q:K (.bl b) μ):xH [shp x y z,.int n] μ K Z:=by
 subst hb
 unfold xH
 refine⟨rfl,?_⟩
 refine QX s ?_
 unfold qE
 refine⟨rfl,?_⟩
 refine q9 ?_
 refine zL (λh=>?_) (λh=>?_)
 ·have q:K (.bl (decide (n<x * y * z))) μ:=by simpa[h] using q
  exact q
 ·have q:K (.bl false) μ:=by simpa[h] using q
  exact q
theorem uE{x y z n:Int}(s:Sy y z)(h:(decide (0<=n)&&decide (n<x * y * z))=true)(q:K .non μ):vm [shp x y z,.int n] μ K Z:=by
 unfold vm
 refine⟨rfl,?_⟩
 refine Qr s h ?_
 exact q
end
section
local macro_rules | `(tactic| walk_at "grd") => `(tactic| first | decide | exact Or.inl (by decide) | exact Or.inr (by decide) | omega | (simp only [big, room]; omega) | fail)
local macro_rules | `(tactic| walk_at "go") => `(tactic| repeat' (first | (with_reducible refine ⟨_, rfl, ?_⟩) | (with_reducible refine ⟨?w, ?h, ?_⟩; case h => exact rfl) | (with_reducible refine And.intro ?_ ?_; walk_at "grd") | (with_reducible refine vR ?_ ?_; rfl) | (with_reducible refine wL ?_ ?_; rfl) | (with_reducible refine brn_neg ?_ ?_; decide) | (with_reducible refine jx ?_ ?_; decide) | fail))
variable {μ μ1 μ2:Mem}{K:T->Mem->Prop}{Z:Xp}
structure Ch(S:List Nat)(μ μ':Mem):Prop where
 len:μ.length<=μ'.length
 ot:∀i,i<μ.length->i∉S->μ'[i]?=μ[i]?
theorem Ch.refl{S:List Nat}:Ch S μ μ:=⟨z6E _,λ_ _ _=>rfl⟩
theorem Ch.trans{S:List Nat}(a:Ch S μ μ1)(b:Ch S μ1 μ2):Ch S μ μ2:=⟨z6X a.len b.len,λi h n=>(b.ot i (z6N h a.len) n).trans (a.ot i h n)⟩
theorem Ch.mono{S S':List Nat}(a:Ch S μ μ1)(h:∀x∈S,x∈S'):Ch S' μ μ1:=⟨a.len,λi hi n=>a.ot i hi λz=>n (h i z)⟩
theorem Ch.app{x:MO}:Ch [] μ (μ++[x]):=⟨by simp,λi h _=>z6B h⟩
theorem Ch.set{i:Nat}{x:MO}:Ch [i] μ (μ.set i x):=⟨by simp,λj h n=>by rw[z6D];rintro rfl;exact n (by simp)⟩
theorem Ch.get{S:List Nat}{i:Nat}{x:MO}(a:Ch S μ μ1)(h:μ[i]?=some x)(n:i∉S):μ1[i]?=some x:=(a.ot i (z6v.mp h).1 n).trans h
theorem vQ{β:Type}{tg:Tg}{g:Sl->Mem->RE (Option T)}{lv:Mem->Prop}{τ:Sl}(t:β->T)(f:β->Option T){ps:List β}{K:List T->Mem->Prop}
  (h:∀p∈ps,∀k:Option T->Mem->Prop,k (f p) μ->∃τ',asg tg (t p) τ=some τ'/\g τ' μ k Z) (k:K (ps.filterMap f) μ) (hl:lv μ:=by trivial):qq tg g lv τ (ps.map t) μ K Z:=by
 induction ps generalizing K with
 |nil=>exact K4 k
 |cons x r ih=>
  refine Vn ?_
  refine h x z6U _ ⟨hl,?_⟩
  cases q:f x with
  |none=>
   rw[zaf q] at k
   exact ih (λy hy=>h y (z6H _ hy)) k
  |some y=>
   rw[zag q] at k
   exact ih (K:=λys μ2=>K (y::ys) μ2) (λy hy=>h y (z6H _ hy)) k
end
section
variable {μ μ1 μ2:Mem}{K:T->Mem->Prop}{Z:Xp}{c g i0:Nat}{x y z:Int}{ps:List Gp}
theorem ZU{n b:Int}(q:K (.bl (decide (0<=n)&&decide (n<b))) μ):qE [.int n,.int b] μ K Z:=by
 unfold qE
 refine⟨rfl,?_⟩
 refine q9 ?_
 refine zL (λh=>?_) (λh=>?_)
 ·have q:K (.bl (decide (n<b))) μ:=by simpa[h] using q
  exact q
 ·have q:K (.bl false) μ:=by simpa[h] using q
  exact q
theorem vD{n b:Int}(h0:0<=n)(h1:n<b)(q:K (.bl true) μ):qE [.int n,.int b] μ K Z:=ZU (by simpa[h0,h1] using q)
end
section
variable {μ μ1 μ2:Mem}{K:T->Mem->Prop}{Z:Xp}{c g i0:Nat}{x y z:Int}{ps:List Gp}
theorem z5Z{a b c d e f:Int}:eqL [.int a,.int b,.int c] [.int d,.int e,.int f]=some (decide (a=d)&&(decide (b=e)&&decide (c=f))):=by
 have h:∀i j:Int,(i == j)=decide (i=j):=λi j=>by
  by_cases z:i=j<;>simp[z]
 simp[eqL,eqT,h]
theorem xn{h f u:Int}(h0:0<=h)(h1:h<y)(f0:0<=f)(fu:f<u)(ux:u<=x)(q:K (.bl true) μ):vB [shp x y z,.tup [.int h,.int f,.int u]] μ K Z:=by
 unfold vB
 refine⟨rfl,?_⟩
 refine⟨_,rfl,?_⟩
 refine vD h0 h1 ?_
 refine⟨_,rfl,?_⟩
 refine q9 ?_
 refine⟨_,rfl,?_⟩
 refine q9 ?_
 refine⟨_,rfl,?_⟩
 refine wL f0 ?_
 refine⟨_,rfl,?_⟩
 refine wL fu ?_
 have q:K (.bl (decide (u<=x))) μ:=by rw[decide_eq_true ux];exact q
 exact q
end
section
variable {μ μ1 μ2:Mem}{K:T->Mem->Prop}{Z:Xp}{c g r i0:Nat}{x y z:Int}{ps:List Gp}
theorem wJ{n b:Int}(h0:0<=n)(h1:n<b)(q:K .non μ):qJ [.int n,.int b] μ K Z:=by
 unfold qJ
 refine⟨rfl,?_⟩
 refine vD h0 h1 ?_
 exact q
theorem WO{m h k:Int}(m0:0<=m)(m1:m<x)(h0:0<=h)(h1:h<y)(k0:0<=k)(k1:k<z):0<=(m * y+h) * z+k/\(m * y+h) * z+k<x * y * z/\((m * y+h) * z+k) / z=m * y+h/\(m * y+h) / y=m/\(m * y+h) % y=h:=by
 have a:((m * y+h) * z+k) / z=m * y+h/\((m * y+h) * z+k) % z=k:=(z7O (by omega)).mpr ⟨by rw[z7M z,z9h],k0,k1⟩
 have b:(m * y+h) / y=m/\(m * y+h) % y=h:=(z7O (by omega)).mpr ⟨by rw[z7M y,z9h],h0,h1⟩
 have n0:0<=m * y:=z9i m0 (by omega)
 have n1:0<=(m * y+h) * z:=z9i (by omega) (by omega)
 have n2:m * y+y<=x * y:=by
  have:=z6P (show m+1<=x by omega) (show 0<=y by omega)
  rw[z7Y,za6] at this
  exact this
 have n3:(m * y+h) * z+z<=x * y * z:=by
  have:=z6P (show m * y+h+1<=x * y by omega) (show 0<=z by omega)
  rw[z7Y,za6] at this
  exact this
 exact⟨by omega,by omega,a.1,b.1,b.2⟩
end
section
variable {μ μ1 μ2:Mem}{K:T->Mem->Prop}{Z:Xp}{x y z:Int}{i:Nat}{sh kp bt:T}{ah sd:Int}
noncomputable abbrev Ls:=Int×Int×Int
noncomputable def lsT:Option Ls->T
 |none=>.non
 |some l=>.tup [.int l.1,.int l.2.1,.int l.2.2]
noncomputable def opT:Option Int->T
 |none=>.non
 |some m=>.int m
noncomputable abbrev hsF(sh:T)(ah sd:Int)(kp:T)(l:Option Ls)(m n:Option Int)(bt:T)(fl:Bool):List (Nat×T):=[(9,sh),(14,.int ah),(15,.int sd),(16,kp),(6,lsT l),(17,opT m),(18,opT n),(19,bt),(20,.bl fl)]
noncomputable abbrev hsO(sh:T)(ah sd:Int)(kp:T)(l:Option Ls)(m n:Option Int)(bt:T)(fl:Bool):MO:=.obj 45 (hsF sh ah sd kp l m n bt fl)
theorem z5M:∀(l l':Option Ls),eqT (lsT l) (lsT l')=some (decide (l=l'))
 |none,none=>by simp[lsT,eqT]
 |none,some b=>by simp[lsT,eqT]
 |some a,none=>by simp[lsT,eqT]
 |some (a,b,c),some (d,e,f)=>by
  show eqT (.tup _) (.tup _)=_
  simp only[eqT]
  rw[z5Z]
  simp[Bool.decide_and]
theorem z1f:∀(l l':Option Int),eqT (opT l) (opT l')=some (decide (l=l'))
 |none,none=>by simp[opT,eqT]
 |none,some b=>by simp[opT,eqT]
 |some a,none=>by simp[opT,eqT]
 |some a,some b=>by
  by_cases h:a=b
  ·simp[opT,eqT,h]
  ·simp[opT,eqT,h]
theorem xN{l l':Option Ls}{m m':Option Int}:eqL [lsT l,opT m] [lsT l',opT m']=some (decide (l=l')&&decide (m=m')):=by
 simp[eqL,z5M,z1f]
theorem yv{l:Option Ls}{m:Option Int}:qi [lsT l,opT m]<=40:=by
 cases l<;>cases m<;>simp[lsT,opT,qi,qX]
variable {l l':Option Ls}{m m' n:Option Int}
theorem wB(h:μ[i]?=some (hsO sh ah sd kp l m n bt false))(q:K .non μ):zM [.mut i] μ K Z:=by
 unfold zM
 refine⟨rfl,?_⟩
 refine⟨_,_,_,h,rfl,?_⟩
 exact q
theorem J1(h:μ[i]?=some (hsO sh ah sd kp l m n bt false))(q:K (.tup [lsT l,opT m]) μ):qK [.mut i] μ K Z:=by
 unfold qK
 refine⟨rfl,?_⟩
 refine⟨_,_,_,h,rfl,?_⟩
 refine⟨_,_,_,h,rfl,?_⟩
 exact q
theorem Ul(h:μ[i]?=some (hsO sh ah sd kp l m n bt false))(q:K (opT n) μ):wj [.mut i] μ K Z:=by
 unfold wj
 refine⟨rfl,?_⟩
 refine⟨_,_,_,h,rfl,?_⟩
 exact q
theorem u9{h f u:Int}(h0:0<=h)(h1:h<y)(f0:0<=f)(fu:f<u)(ux:u<=x)(q:K .non μ):wq [shp x y z,.tup [.int h,.int f,.int u]] μ K Z:=by
 unfold wq
 refine⟨rfl,?_⟩
 refine xn h0 h1 f0 fu ux ?_
 exact q
structure LsOk(x y:Int)(l:Ls):Prop where
 h0:0<=l.1
 h1:l.1<y
 f0:0<=l.2.1
 fu:l.2.1<l.2.2
 ux:l.2.2<=x
theorem vp{a:Int}(h:0<=a)(q:K (.bl true) μ):qj [.int a] μ K Z:=by
 unfold qj
 refine⟨rfl,?_⟩
 refine q9 ?_
 have q:K (.bl (decide (0<=a))) μ:=by rw[decide_eq_true h];exact q
 exact q
structure Hz(x y z:Int):Prop where
 x1:1<=x
 y1:1<=y
 y2:y<=1000000
 z1:1<=z
 z2:z<=1000000
theorem Hz.sy(s:Hz x y z):Sy y z:=⟨s.y1,by have:=s.y2;omega,s.z1,by have:=s.z2;omega⟩
theorem xk{k:Int}(s:Hz x y z)(h0:0<=k)(h1:k<x * y * z)(q:K (.tup [.int (k / z / y),.int (k / z % y),.int (k % z)]) μ):vH [shp x y z,.int k] μ K Z:=by
 obtain⟨x1,y1,y2,z1,z2⟩:=id s
 unfold vH
 refine⟨rfl,?_⟩
 refine uE s.sy (by rw[decide_eq_true h0,decide_eq_true h1];rfl) ?_
 refine⟨by omega,⟨by omega,by omega⟩,⟨by omega,by omega⟩,by omega,?_⟩
 exact q
noncomputable def plA(y z h k:Int):Int:=if k / z % y<h then k / z / y * z else if h<k / z % y then (k / z / y+1) * z else k / z / y * z+k % z+1
theorem ub{h k:Int}(s:Hz x y z)(h0:0<=k)(h1:k<x * y * z)(q:K (.int (plA y z h k)) μ):wu [shp x y z,.int h,.int k] μ K Z:=by
 obtain⟨x1,y1,y2,z1,z2⟩:=id s
 unfold wu
 refine⟨rfl,?_⟩
 refine xk s h0 h1 ?_
 refine⟨_,rfl,?_⟩
 unfold plA at q
 refine zL (λe=>?_) (λe=>?_)
 ·rw[if_pos e] at q
  refine⟨_,rfl,.inr ⟨by unfold big;omega,by unfold big;omega⟩,?_⟩
  exact q
 ·rw[if_neg e] at q
  refine⟨_,rfl,?_⟩
  refine zL (λe=>?_) (λe=>?_)
  ·rw[if_pos e] at q
   refine⟨_,rfl,.inr ⟨by unfold big;omega,by unfold big;omega⟩,?_⟩
   exact q
  ·rw[if_neg e] at q
   refine⟨_,rfl,.inr ⟨by unfold big;omega,by unfold big;omega⟩,?_⟩
   refine⟨_,rfl,?_⟩
   exact q
noncomputable def Zi(y z h:Int):Option Int->Int
 |none=>0
 |some k=>plA y z h k
noncomputable def qF (y z:Int)(a:Ls)(n:Option Int)(r:Int):Int:=if Zi y z a.1 n<(if a.2.1<r then r else a.2.1) * z then (if a.2.1<r then r else a.2.1) * z else Zi y z a.1 n
noncomputable abbrev byP(z r ah e:Int):Int:=(e-1) / z-(r+ah)
noncomputable abbrev yZ(h b e:Int):T:=.obj 44 [(11,.int h),(12,.int b),(13,.int e)]
end
section
variable {μ μ1 μ2:Mem}{K:T->Mem->Prop}{Z:Xp}{x y z:Int}{i:Nat}{sh kp bt:T}{ah sd:Int}{l l':Option Ls}{m m' n:Option Int}
noncomputable def nmA(y z h p:Int):Int:=(p / z * y+h) * z+p % z
noncomputable def nmL (y z h b k:Int):List Int:=(z7_ k.toNat).map λ(j:Nat)=>nmA y z h (b+j)
theorem WZ{mo h k:Int}(s:Hz x y z)(m0:0<=mo)(m1:mo<x)(h0:0<=h)(h1:h<y)(k0:0<=k)(k1:k<z)(q:K (.int ((mo * y+h) * z+k)) μ):xD [shp x y z,.int mo,.int h,.int k] μ K Z:=by
 obtain⟨x1,y1,y2,z1,z2⟩:=id s
 unfold xD
 refine⟨rfl,?_⟩
 refine wJ m0 m1 ?_
 refine wJ h0 h1 ?_
 refine wJ k0 k1 ?_
 refine⟨.inr ⟨by unfold big;omega,by unfold big;omega⟩,?_⟩
 refine⟨.inr ⟨by unfold big;omega,by unfold big;omega⟩,?_⟩
 exact q
theorem place_lt{p:Int}(s:Hz x y z)(h1:p<x * z):p / z<x:=by
 have:=s.z1
 exact z7H (by omega) h1
theorem ud{h p:Int}(s:Hz x y z)(p0:0<=p)(p1:p<x * z)(h0:0<=h)(h1:h<y)(q:K (.int (nmA y z h p)) μ):kq [shp x y z,.int h,.int p] μ K Z:=by
 obtain⟨x1,y1,y2,z1,z2⟩:=id s
 unfold kq
 refine⟨rfl,?_⟩
 refine⟨⟨by omega,by omega⟩,?_⟩
 refine⟨by omega,?_⟩
 exact WZ s (z87 p0 (by omega)) (place_lt s p1) h0 h1 (z7h _ (by omega)) (z76 _ (by omega)) q
theorem Qi{a:Ls}{r:Int}(s:Hz x y z)(f0:0<=a.2.1):0<=qF y z a n r/\(if a.2.1<r then r else a.2.1) * z<=qF y z a n r/\Zi y z a.1 n<=qF y z a n r:=by
 have g:0<=(if a.2.1<r then r else a.2.1) * z:=z9i (by split<;>omega) (by have:=s.z1;omega)
 unfold qF
 generalize (if a.2.1<r then r else a.2.1) * z=A at g ⊢
 split<;>omega
theorem uZ{c:Int}(q:∀a b,K (.mut μ.length) (μ++[.lst [.int a,.int b,.int 0]])):wO [.int c] μ K Z:=by
 unfold wO
 refine⟨rfl,?_⟩
 refine⟨by decide,?_⟩
 refine⟨by decide,?_⟩
 have m0:=z7h c (show (2:Int)≠0 by decide)
 have m1:=z76 c (show (0:Int)<2 by decide)
 refine⟨.inr ⟨by unfold big;omega,by unfold big;omega⟩,?_⟩
 exact q _ _
theorem Xz{c k:Int}(q:∀v:Int,K (.int v) μ):xT [.int c,.int k] μ K Z:=by
 unfold xT
 refine⟨rfl,?_⟩
 refine⟨by decide,?_⟩
 refine⟨.inl (by unfold big;decide),?_⟩
 refine⟨.inr (by unfold big;decide),?_⟩
 refine⟨by decide,?_⟩
 refine⟨by decide,?_⟩
 have b1:∀a:Int,0<=a % 2147483629/\a % 2147483629<2147483629:=λa=>⟨z7h _ (by decide),z76 _ (by decide)⟩
 have bb:=λa=>b1 a
 refine⟨.inl ⟨by have:=(b1 ((c % 2147483629+69621 * k+1) * 48271));unfold big;omega,by have:=(b1 ((c % 2147483629+69621 * k+1) * 48271));unfold big;omega⟩,?_⟩
 refine⟨by decide,?_⟩
 refine⟨by decide,?_⟩
 refine⟨.inl ⟨by have:=b1 ((c % 2147483629+69621 * k+1) * 48271 % 2147483629 * ((c % 2147483629+69621 * k+1) * 48271 % 2147483629 / 1009+69621));unfold big;omega,by have:=b1 ((c % 2147483629+69621 * k+1) * 48271 % 2147483629 * ((c % 2147483629+69621 * k+1) * 48271 % 2147483629 / 1009+69621));unfold big;omega⟩,?_⟩
 refine⟨by decide,?_⟩
 refine⟨by decide,?_⟩
 generalize hA:(c % 2147483629+69621 * k+1) * 48271 % 2147483629 * ((c % 2147483629+69621 * k+1) * 48271 % 2147483629 / 1009+69621) % 2147483629 * ((c % 2147483629+69621 * k+1) * 48271 % 2147483629 * ((c % 2147483629+69621 * k+1) * 48271 % 2147483629 / 1009+69621) % 2147483629 / 907+16807+k)=A
 refine⟨.inl ⟨by have:=b1 A;unfold big;omega,by have:=b1 A;unfold big;omega⟩,?_⟩
 refine⟨by decide,?_⟩
 exact q _
theorem zH{i:Nat}{base:Int}(hs:St μ i)(h0:0<base)(h1:base<1000000000000000000000000000000000000000000000000000000000000)(q:∀v μ',0<=v->v<base->Up μ i μ'->K (.int v) μ'):zh [.mut i,.int base] μ K Z:=by
 obtain⟨a,b,c,h⟩:=hs
 have mn:∀x:Int,0<=x % base/\x % base<base:=λx=>⟨z7h _ (by omega),z76 _ h0⟩
 unfold zh
 refine⟨rfl,?_⟩
 refine⟨_,_,h,rfl,?_⟩
 refine zL (λh2=>?_) (λh2=>?_)
 ·refine⟨_,_,h,rfl,h0,?_⟩
  refine⟨_,_,h,rfl,⟨h0,by omega⟩,?_⟩
  refine⟨_,h,by simp,?_⟩
  exact q _ _ (mn _).1 (mn _).2 (Up.set h)
 ·refine⟨_,_,h,rfl,?_⟩
  refine⟨_,h,by simp,?_⟩
  refine⟨_,_,get_set h,rfl,?_⟩
  refine⟨_,_,get_set h,rfl,?_⟩
  refine Xz λv=>?_
  refine⟨h0,?_⟩
  exact q _ _ (mn _).1 (mn _).2 (Up.set h)
end
section
variable {μ μ1 μ2:Mem}{K:T->Mem->Prop}{Z:Xp}{x y z:Int}{i:Nat}{sh kp bt:T}{ah sd:Int}{l l':Option Ls}{m m' n:Option Int}
theorem Wg{z a b c d:Int}(c0:0<=c)(c1:c<z)(d0:0<=d)(d1:d<z):a * z+c<b * z+d↔a<b\/(a=b/\c<d):=by
 have up:∀{p q:Int},p<q->p * z+z<=q * z:=λ{p q} h=>by
  have:=z6P (show p+1<=q by omega) (show 0<=z by omega)
  rw[z7Y,za6] at this
  exact this
 constructor
 ·intro h
  by_cases e:a<b
  ·exact .inl e
  ·by_cases e2:a=b
   ·subst e2;exact .inr ⟨rfl,by omega⟩
   ·have:=up (show b<a by omega);omega
 ·rintro (h|⟨rfl,h⟩)
  ·have:=up h;omega
  ·omega
theorem yI(k:Int)(y z:Int):k=(k / z / y * y+k / z % y) * z+k % z:=by
 have e1:=z84 k z
 have e2:=z84 (k / z) y
 rw[z7M (k / z / y) y,e2,z7M (k / z) z]
 exact e1.symm
theorem jC{h k p:Int}(s:Hz x y z)(h0:0<=h)(h1:h<y):k<nmA y z h p↔plA y z h k<=p:=by
 obtain⟨x1,y1,y2,z1,z2⟩:=id s
 have c0:=z7h k (show z≠0 by omega)
 have c1:=z76 k (show 0<z by omega)
 have d0:=z7h p (show z≠0 by omega)
 have d1:=z76 p (show 0<z by omega)
 have a0:=z7h (k / z) (show y≠0 by omega)
 have a1:=z76 (k / z) (show 0<y by omega)
 have ep:=z84 p z
 have ek:=yI k y z
 unfold nmA plA
 conv=>lhs;lhs;rw[ek]
 rw[Wg c0 c1 d0 d1,Wg a0 a1 h0 h1]
 have le:∀A:Int,A * z<=p↔A<=p / z:=λA=>(zaE (by omega)).symm
 have eqA:∀A B:Int,A * y+k / z % y=B * y+h↔A=B/\k / z % y=h:=λA B=>by
  have l1:=Wg (z:=y) (a:=A) (b:=B) (c:=k / z % y) (d:=h) a0 a1 h0 h1
  have l2:=Wg (z:=y) (a:=B) (b:=A) (c:=h) (d:=k / z % y) h0 h1 a0 a1
  constructor
  ·intro e
   have n1:¬(A<B\/(A=B/\k / z % y<h)):=λw=>by have:=l1.mpr w;omega
   have n2:¬(B<A\/(B=A/\h<k / z % y)):=λw=>by have:=l2.mpr w;omega
   omega
  ·rintro⟨rfl,e⟩;rw[e]
 rw[eqA]
 split
 ·rename_i e
  rw[le];omega
 ·split
  ·rename_i e1 e2
   rw[le];omega
  ·rename_i e1 e2
   have e3:k / z % y=h:=by omega
   have lx:=Wg (z:=z) (a:=k / z / y) (b:=p / z) (c:=k % z) (d:=p % z) c0 c1 d0 d1
   have:p=p / z * z+p % z:=by rw[z7M];exact ep.symm
   constructor
   ·intro w
    have:=lx.mpr (by omega)
    omega
   ·intro w
    have:=lx.mp (by omega)
    omega
theorem k7{h p q:Int}(s:Hz x y z)(h0:0<=h)(h1:h<y)(pq:p<q):nmA y z h p<nmA y z h q:=by
 obtain⟨x1,y1,y2,z1,z2⟩:=id s
 have c0:=z7h p (show z≠0 by omega)
 have c1:=z76 p (show 0<z by omega)
 have d0:=z7h q (show z≠0 by omega)
 have d1:=z76 q (show 0<z by omega)
 have e1:p=p / z * z+p % z:=by rw[z7M];exact (z84 p z).symm
 have e2:q=q / z * z+q % z:=by rw[z7M];exact (z84 q z).symm
 have lx:=(Wg (z:=z) (a:=p / z) (b:=q / z) (c:=p % z) (d:=q % z) c0 c1 d0 d1).mp (by omega)
 unfold nmA
 rw[Wg c0 c1 d0 d1]
 rcases lx with w|⟨w,v⟩
 ·have:=(Wg (z:=y) (a:=p / z) (b:=q / z) (c:=h) (d:=h) h0 h1 h0 h1).mpr (.inl w)
  exact .inl this
 ·rw[w];exact .inr ⟨rfl,v⟩
theorem vG{h p:Int}(s:Hz x y z)(h0:0<=h)(h1:h<y):nmA y z h p / z / y=p / z/\nmA y z h p / z % y=h/\nmA y z h p % z=p % z:=by
 obtain⟨x1,y1,y2,z1,z2⟩:=id s
 have c0:=z7h p (show z≠0 by omega)
 have c1:=z76 p (show 0<z by omega)
 have a:((p / z * y+h) * z+p % z) / z=p / z * y+h/\((p / z * y+h) * z+p % z) % z=p % z:=(z7O (by omega)).mpr ⟨by rw[z7M z,z9h],c0,c1⟩
 have b:(p / z * y+h) / y=p / z/\(p / z * y+h) % y=h:=(z7O (by omega)).mpr ⟨by rw[z7M y,z9h],h0,h1⟩
 unfold nmA
 rw[a.1,b.1,b.2,a.2]
 exact⟨rfl,rfl,rfl⟩
theorem z1A{h k:Int}(s:Hz x y z)(e:k / z % y=h):nmA y z h (k / z / y * z+k % z)=k/\(k / z / y * z+k % z) / z=k / z / y:=by
 obtain⟨x1,y1,y2,z1,z2⟩:=id s
 have c0:=z7h k (show z≠0 by omega)
 have c1:=z76 k (show 0<z by omega)
 have a:(k / z / y * z+k % z) / z=k / z / y/\(k / z / y * z+k % z) % z=k % z:=(z7O (by omega)).mpr ⟨by rw[z7M z,z9h],c0,c1⟩
 refine⟨?_,a.1⟩
 unfold nmA
 rw[a.1,a.2,←e]
 exact (yI k y z).symm
theorem U0{h p:Int}(s:Hz x y z)(h0:0<=h)(h1:h<y)(p0:0<=p)(p1:p<x * z):0<=nmA y z h p/\nmA y z h p<x * y * z:=by
 obtain⟨x1,y1,y2,z1,z2⟩:=id s
 have:=WO (x:=x) (y:=y) (z:=z) (z87 p0 (show 0<=z by omega)) (place_lt s p1) h0 h1 (z7h p (show z≠0 by omega)) (z76 p (show 0<z by omega))
 exact⟨this.1,this.2.1⟩
theorem QV{h b:Int}{c:Nat}:nmL y z h b ((c:Int)+1)=nmL y z h b c++[nmA y z h (b+c)]:=by
 unfold nmL
 have:((c:Int)+1).toNat=c+1:=by omega
 rw[this,List.range_succ]
 simp
variable {a:Ls}{r k:Int}{c:Nat}
end
section
variable {μ μ1 μ2:Mem}{K:T->Mem->Prop}{Z:Xp}{x y z:Int}{i:Nat}{sh kp bt:T}{ah sd:Int}{l l':Option Ls}{m m' n:Option Int}{a:Ls}{r k:Int}{c:Nat}
noncomputable abbrev shT(x y z:Int):T:=.tup [.int x,.int y,.int z]
end
section
variable {μ μ1 μ2:Mem}{K:T->Mem->Prop}{Z:Xp}{x y z:Int}{i:Nat}{sh kp bt:T}{ah sd:Int}{l l':Option Ls}{m m' n:Option Int}{a:Ls}{r k:Int}{c:Nat}
theorem QP{h b:Int}(k1:1<=k):wG ((nmL y z h b k).map T.int) (-1)=some (T.int (nmA y z h (b+k-1))):=by
 obtain⟨c,hc⟩:∃c:Nat,k=(c:Int)+1:=⟨(k-1).toNat,by omega⟩
 subst hc
 rw[QV,z7j]
 unfold wG JV
 rw[if_neg (by decide),if_pos (by simp;omega)]
 have:(-1+(((nmL y z h b (c:Int)).map T.int++[nmA y z h (b+c)].map T.int).length:Int)).toNat=((nmL y z h b (c:Int)).map T.int).length:=by
  simp
  omega
 rw[this]
 show ((nmL y z h b (c:Int)).map T.int++[T.int (nmA y z h (b+c))])[((nmL y z h b (c:Int)).map T.int).length]?=_
 rw[z6S (z6E _)]
 simp
 congr 1
 omega
theorem y0:∀zs:List Int,eqL (zs.map T.int) (zs.map T.int)=some true
 |[]=>rfl
 |k::r=>by simp[eqL,eqT,y0 r]
theorem kF:∀zs:List Int,qi (zs.map T.int)<=1
 |[]=>by simp[qi]
 |k::r=>by
  have:=kF r
  simp only[z7g,qi,qX]
  omega
end
section
variable {μ μ1 μ2:Mem}{K:T->Mem->Prop}{Z:Xp}{x y z h:Int}{i:Nat}{sh kp bt:T}{ah sd:Int}{l l':Option Ls}{m m' n:Option Int}{a:Ls}{r k:Int}{c:Nat}
theorem wA{b:Int}:(nmL y z h b k).length=k.toNat:=by unfold nmL;simp
theorem UB{b k1 k2:Int}(h1:0<=k1)(h2:0<=k2):nmL y z h b (k1+k2)=nmL y z h b k1++nmL y z h (b+k1) k2:=by
 unfold nmL
 have e:(k1+k2).toNat=k1.toNat+k2.toNat:=by omega
 rw[e,List.range_add,z7j,zc2]
 congr 1
 refine z9C λj _=>?_
 show nmA y z h (b+((k1.toNat+j:Nat):Int))=nmA y z h (b+k1+(j:Int))
 congr 1
 push_cast
 omega
theorem QQ{b:Int}:nmL y z h b 0=[]:=rfl
theorem Jz{b e:Int}(hk:b<=e):jw b e 1=(z7_ (e-b).toNat).map λ(j:Nat)=>T.int (b+j):=by
 unfold jw
 by_cases c:b<e
 ·rw[if_pos c]
  have:(e-b-1) / 1+1=e-b:=by rw[zbQ];omega
  rw[this]
  simp
 ·rw[if_neg c]
  have:(e-b).toNat=(0:Int).toNat:=by omega
  rw[this];rfl
theorem kX{b e:Int}(s:Hz x y z)(hb:x * z<1000000000000000000000000000000000000000000000000000000000000)(b0:0<=b)(be:b<=e)(k2:e-b<=1000)(ex:e<=x * z)(h0:0<=h)(h1:h<y)(q:K (.mut μ.length) (μ++[.lst ((nmL y z h b (e-b)).map T.int)])):zZ [shp x y z,yZ h b e] μ K Z:=by
 unfold zZ
 refine⟨rfl,?_⟩
 refine⟨⟨⟨by omega,by omega⟩,⟨by omega,by omega⟩⟩,?_⟩
 rw[Jz be]
 refine⟨by rw[z6Q,zc3];unfold room;omega,?_⟩
 refine vQ (λ(j:Nat)=>T.int (b+j)) (λ(j:Nat)=>some (T.int (nmA y z h (b+j)))) (λj hj kk hkk=>?_) ?_ trivial
 ·have hj:j<(e-b).toNat:=z8H.mp hj
  refine⟨_,rfl,?_⟩
  exact ud s (by omega) (by omega) h0 h1 hkk
 ·rw[zaF]
  unfold nmL at q
  rw[zc2] at q
  exact q
theorem k8:∀ns:List Int,intsOf (ns.map T.int)=some ns
 |[]=>rfl
 |n::r=>by show (intsOf (r.map T.int)).map (n::·)=_;rw[k8 r];rfl
theorem ue{α:Type}(A B C:List α)(n a:Nat)(ha:A.length=a)(hc:(B=[]/\a<=n)\/n=a):(A++(B++C)).take n=A++C.take (n-a)/\(A++(B++C)).drop n=B++C.drop (n-a):=by
 subst ha
 rcases hc with⟨rfl,h⟩|rfl
 ·rw[z9y,List.take_append,List.drop_append,z7V h,List.drop_of_length_le h]
  exact⟨rfl,rfl⟩
 ·rw[Nat.sub_self,List.take_left,List.drop_left]
  simp
end
section
variable {μ μ1 μ2:Mem}{K:T->Mem->Prop}{Z:Xp}{x y z h:Int}{i:Nat}{sh kp bt:T}{ah sd:Int}{l l':Option Ls}{m m' n:Option Int}{a:Ls}{r k:Int}{c:Nat}
local macro_rules | `(tactic| walk_at "bat") => `(tactic| (refine ⟨rfl, ?_⟩; (try unfold qw); refine ⟨rfl, ?_⟩; refine ⟨_, _, rfl, by show (0 : Nat) < 900; decide, ?_⟩; refine ⟨_, _, rfl, by show (1 : Nat) < 900; decide, ?_⟩; refine ⟨_, _, rfl, by show (2 : Nat) < 900; decide, ?_⟩; refine ⟨rfl, _, rfl, rfl, ?_⟩))
theorem z5f{A A' B:MO}:(μ++[A]++[B]).set μ.length A'=μ++[A']++[B]:=by
 rw[z7E,z9k _ _ (z6E _)];simp
theorem z4H{A B B':MO}:(μ++[A]++[B]).set (μ++[A]).length B'=μ++[A]++[B']:=by
 rw[z9k _ _ (z6E _)];simp
end
section
variable {μ μ1 μ2:Mem}{K:T->Mem->Prop}{Z:Xp}{x y z h:Int}{i bi:Nat}{sh kp bt:T}{ah sd:Int}{l l':Option Ls}{m m' n:Option Int}{a:Ls}{r k:Int}{c:Nat}
theorem Ch.ge{S:List Nat}(a:Ch [] μ μ1)(b:Ch S μ1 μ2)(h:∀j∈S,μ.length<=j):Ch [] μ μ2:=
 ⟨z6X a.len b.len,λj hj _=>(b.ot j (z6N hj a.len) λw=>absurd (h j w) (by omega)).trans (a.ot j hj (by simp))⟩
theorem Ql(ho:μ[i]?=some (.obj 45 []))(ha:0<=ah)(hs:0<=sd)(q:∀μ' bi,Ch [i] μ μ'->μ.length<=bi->μ'[i]?=some (hsO sh ah sd kp none none none (.mut bi) false)->μ'[bi]?=some (.lst [])->K .non μ') :
  zD [.mut i,sh,.int ah,.int sd,kp,.non] μ K Z:=by
 have hil:=(z6v.mp ho).1
 unfold zD
 refine⟨rfl,?_⟩
 refine vp ha ?_
 refine vp hs ?_
 refine⟨_,_,ho,by show (0:Nat)<900;decide,?_⟩
 refine⟨_,_,get_set ho,by show (1:Nat)<900;decide,?_⟩
 refine⟨_,_,get_set (get_set ho),by show (2:Nat)<900;decide,?_⟩
 refine⟨_,_,get_set (get_set (get_set ho)),by show (3:Nat)<900;decide,?_⟩
 refine⟨_,_,get_set (get_set (get_set (get_set ho))),by show (4:Nat)<900;decide,?_⟩
 refine⟨_,_,get_set (get_set (get_set (get_set (get_set ho)))),by show (5:Nat)<900;decide,?_⟩
 refine⟨_,_,get_set (get_set (get_set (get_set (get_set (get_set ho))))),by show (6:Nat)<900;decide,?_⟩
 have h7:=get_set (y:=.obj 45 [(9,sh),(14,.int ah),(15,.int sd),(16,kp),(6,.non),(17,.non),(18,.non)]) (get_set (y:=.obj 45 [(9,sh),(14,.int ah),(15,.int sd),(16,kp),(6,.non),(17,.non)]) (get_set (y:=.obj 45 [(9,sh),(14,.int ah),(15,.int sd),(16,kp),(6,.non)]) (get_set (y:=.obj 45 [(9,sh),(14,.int ah),(15,.int sd),(16,kp)]) (get_set (y:=.obj 45 [(9,sh),(14,.int ah),(15,.int sd)]) (get_set (y:=.obj 45 [(9,sh),(14,.int ah)]) (get_set (y:=.obj 45 [(9,sh)]) ho))))))
 refine⟨_,_,zf h7,by show (7:Nat)<900;decide,?_⟩
 refine⟨_,_,get_set (zf h7),by show (8:Nat)<900;decide,?_⟩
 refine q _ _ ((((((((((Ch.set.trans Ch.set).trans Ch.set).trans Ch.set).trans Ch.set).trans Ch.set).trans Ch.set).trans (Ch.app.mono (by simp))).trans Ch.set).trans Ch.set)) ?_ (get_set (get_set (zf h7))) ?_
 ·simp
 ·rw[z6D (by simp;omega),z6D (by simp;omega)]
  exact zm
end
section
variable {μ μ1 μ2:Mem}{K:T->Mem->Prop}{Z:Xp}{x y z h u:Int}{i bi:Nat}{sh kp bt:T}{ah sd:Int}{l l':Option Ls}{m m' n:Option Int}{a:Ls}{r k:Int}{c:Nat}
theorem z49{p:Int}(s:Hz x y z)(h0:0<=h)(h1:h<y):plA y z h (nmA y z h p)=p+1:=by
 have e1:=(jC (k:=nmA y z h p) (p:=p+1) s h0 h1).mp (k7 s h0 h1 (by omega))
 have e2:¬plA y z h (nmA y z h p)<=p:=λw=>by
  have:=(jC (k:=nmA y z h p) (p:=p) s h0 h1).mpr w
  omega
 omega
variable {t:Int}{ks:List Int}{j:Nat}{bs:List Bt}
end
section
variable {μ μ1 μ2:Mem}{K:T->Mem->Prop}{Z:Xp}{x y z:Int}{i bi:Nat}{sh kp bt:T}{ah sd:Int}{l l':Option Ls}{m m' n:Option Int}{a:Ls}{r k h c:Int}
noncomputable def We(y z h:Int)(n m:Option Int):Int:=match n with
 |some k=>plA y z h k
 |none=>(match m with|none=>0|some mm=>(mm+1) * z)
theorem QK(s:Hz x y z)(ho:μ[i]?=some (hsO (shp x y z) ah sd kp (some a) m n bt false))(hn:∀k,n=some k->0<=k/\k<x * y * z)(q:K (.int (We y z a.1 n m)) μ):ql [.mut i] μ K Z:=by
 obtain⟨x1,y1,y2,z1,z2⟩:=id s
 unfold ql
 refine⟨rfl,?_⟩
 refine⟨_,_,_,ho,rfl,?_⟩
 cases n with
 |some k=>
  refine⟨_,_,_,ho,rfl,?_⟩
  refine⟨_,_,_,ho,rfl,?_⟩
  refine⟨_,rfl,?_⟩
  refine⟨_,_,_,ho,rfl,?_⟩
  exact ub s (hn k rfl).1 (hn k rfl).2 q
 |none=>
  refine⟨_,_,_,ho,rfl,?_⟩
  cases m with
  |none=>exact q
  |some mm=>
   refine⟨_,_,_,ho,rfl,?_⟩
   refine⟨_,_,_,ho,rfl,?_⟩
   refine⟨.inr ⟨by unfold big;omega,by unfold big;omega⟩,?_⟩
   exact q
theorem WE(hm:∀v,m=some v->0<=v/\v<x)(hl:∀v,l=some v->LsOk x y v)(q:K (.bl true) μ):xP [shp x y z,.tup [lsT l,opT m]] μ K Z:=by
 unfold xP
 refine⟨rfl,?_⟩
 refine⟨_,rfl,?_⟩
 have fin:qd (kU.drop 2) [some (shp x y z),some (.tup [lsT l,opT m])] μ (En.fn K Z):=by
  refine⟨_,rfl,?_⟩
  cases m with
  |none=>exact q
  |some v=>
   refine⟨_,rfl,?_⟩
   exact vD (hm v rfl).1 (hm v rfl).2 q
 cases l with
 |none=>exact fin
 |some v=>
  have ok:=hl v rfl
  refine⟨_,rfl,?_⟩
  exact xn ok.h0 ok.h1 ok.f0 ok.fu ok.ux fin
theorem Kn(ho:μ[i]?=some (.obj 45 []))(ha:0<=ah)(hs:0<=sd)(hm:∀v,m=some v->0<=v/\v<x)(hl:∀v,l=some v->LsOk x y v)(q:∀μ' bi,Ch [i] μ μ'->μ.length<=bi->μ'[i]?=some (hsO (shp x y z) ah sd kp l m none (.mut bi) false)->μ'[bi]?=some (.lst [])->K .non μ') :
  zD [.mut i,shp x y z,.int ah,.int sd,kp,.tup [lsT l,opT m]] μ K Z:=by
 have hil:=(z6v.mp ho).1
 unfold zD
 refine⟨rfl,?_⟩
 refine vp ha ?_
 refine vp hs ?_
 refine WE hm hl ?_
 refine⟨_,_,ho,by show (0:Nat)<900;decide,?_⟩
 refine⟨_,_,get_set ho,by show (1:Nat)<900;decide,?_⟩
 refine⟨_,_,get_set (get_set ho),by show (2:Nat)<900;decide,?_⟩
 refine⟨_,_,get_set (get_set (get_set ho)),by show (3:Nat)<900;decide,?_⟩
 refine⟨_,rfl,?_⟩
 refine⟨_,_,get_set (get_set (get_set (get_set ho))),by show (4:Nat)<900;decide,?_⟩
 refine⟨_,rfl,?_⟩
 refine⟨_,_,get_set (get_set (get_set (get_set (get_set ho)))),by show (5:Nat)<900;decide,?_⟩
 refine⟨_,_,get_set (get_set (get_set (get_set (get_set (get_set ho))))),by show (6:Nat)<900;decide,?_⟩
 have h7:=get_set (y:=.obj 45 [(9,shp x y z),(14,.int ah),(15,.int sd),(16,kp),(6,lsT l),(17,opT m),(18,.non)]) (get_set (y:=.obj 45 [(9,shp x y z),(14,.int ah),(15,.int sd),(16,kp),(6,lsT l),(17,opT m)]) (get_set (y:=.obj 45 [(9,shp x y z),(14,.int ah),(15,.int sd),(16,kp),(6,lsT l)]) (get_set (y:=.obj 45 [(9,shp x y z),(14,.int ah),(15,.int sd),(16,kp)]) (get_set (y:=.obj 45 [(9,shp x y z),(14,.int ah),(15,.int sd)]) (get_set (y:=.obj 45 [(9,shp x y z),(14,.int ah)]) (get_set (y:=.obj 45 [(9,shp x y z)]) ho))))))
 refine⟨_,_,zf h7,by show (7:Nat)<900;decide,?_⟩
 refine⟨_,_,get_set (zf h7),by show (8:Nat)<900;decide,?_⟩
 refine q _ _ ((((((((((Ch.set.trans Ch.set).trans Ch.set).trans Ch.set).trans Ch.set).trans Ch.set).trans Ch.set).trans (Ch.app.mono (by simp))).trans Ch.set).trans Ch.set)) ?_ (get_set (get_set (zf h7))) ?_
 ·simp
 ·rw[z6D (by simp;omega),z6D (by simp;omega)]
  exact zm
noncomputable def yH(f u:Int):Option Int->Option Int
 |none=>none
 |some v=>if v<f then none else some (if u-1<v then u-1 else v)
theorem Vb{o:Option Int}(q:K (opT (yH a.2.1 a.2.2 o)) μ):xE [lsT (some a),opT o] μ K Z:=by
 unfold xE
 refine⟨rfl,?_⟩
 cases o with
 |none=>exact q
 |some v=>
  refine⟨_,rfl,?_⟩
  have q:K (opT (if v<a.2.1 then none else some (if a.2.2-1<v then a.2.2-1 else v))) μ:=q
  refine zL (λe=>?_) (λe=>?_)
  ·rw[if_pos e] at q;exact q
  ·rw[if_neg e] at q
   refine⟨_,rfl,?_⟩
   exact q
noncomputable def vN(y z:Int)(n m:Option Int):Option Int:=match n with
 |none=>m
 |some k=>some (k / z / y)
theorem yr(s:Hz x y z)(ho:μ[i]?=some (hsO (shp x y z) ah sd kp l m n bt false))(hn:∀k,n=some k->0<=k/\k<x * y * z)(q:K (opT (vN y z n m)) μ):qf [.mut i] μ K Z:=by
 unfold qf
 refine⟨rfl,?_⟩
 refine⟨_,_,_,ho,rfl,?_⟩
 cases n with
 |none=>
  refine⟨_,_,_,ho,rfl,?_⟩
  exact q
 |some k=>
  refine⟨_,_,_,ho,rfl,?_⟩
  refine⟨_,_,_,ho,rfl,?_⟩
  refine xk s (hn k rfl).1 (hn k rfl).2 ?_
  refine⟨_,rfl,?_⟩
  exact q
end
section
variable {μ μ1 μ2:Mem}{K:T->Mem->Prop}{Z:Xp}{x y z:Int}{i bi ci:Nat}{sh kp bt:T}{ah sd:Int}{l l':Option Ls}{m m' n:Option Int}{a:Ls}{r k h t:Int}{cs:List T}
abbrev vy(kp:T)(ci:Nat):Prop:=kp=ZI 0 0 [.mut ci]\/kp=ZI 1 0 [.mut ci]
noncomputable abbrev zK(l:Option Ls)(m:Option Int):T:=.tup [lsT l,opT m]
theorem X9(hk:vy kp ci)(ho:μ[i]?=some (hsO sh ah sd kp l m n bt false))(hc:μ[ci]?=some (.lst cs))(hcl:cs.length<=1000)
  (q1:l'=l->m'=m->K .non μ)
  (q2:¬(l'=l/\m'=m)->∀μ',Ch [i,ci] μ μ'->μ'.length=μ.length->μ'[i]?=some (hsO sh ah sd kp l' m' n bt false)->μ'[ci]?=some (.lst (cs++[zK l' m']))->K .non μ'):qc [.mut i,lsT l',opT m'] μ K Z:=by
 have n1:ci≠i:=λw=>by rw[w,ho] at hc;cases hc
 unfold qc
 refine⟨rfl,?_⟩
 refine⟨_,ho,?_⟩
 refine J1 ho ?_
 refine⟨yv,_,xN,?_⟩
 refine Wm (λe=>?_) (λe=>?_)
 ·simp only[z6x,decide_eq_true_eq] at e
  exact q1 e.1 e.2
 ·have e:¬(l'=l/\m'=m):=λw=>by simp[w.1,w.2] at e
  refine⟨_,_,ho,by show (9:Nat)<900;decide,?_⟩
  have h1:=get_set (y:=hsO sh ah sd kp l m n bt true) ho
  have c1:(μ.set i (hsO sh ah sd kp l m n bt true))[ci]?=some (.lst cs):=by rw[z6D (z6Z n1)];exact hc
  have h2:((μ.set i (hsO sh ah sd kp l m n bt true)).set ci (.lst (cs++[zK l' m'])))[i]?=some (hsO sh ah sd kp l m n bt true):=by rw[z6D n1];exact h1
  have fin:qd (wa.drop 3) [some (.mut i),some (lsT l'),some (opT m')] ((μ.set i (hsO sh ah sd kp l m n bt true)).set ci (.lst (cs++[zK l' m']))) (En.fn K Z):=by
   refine⟨_,_,h2,by show (9:Nat)<900;decide,?_⟩
   refine⟨_,_,get_set h2,by show (9:Nat)<900;decide,?_⟩
   refine⟨_,_,get_set (get_set h2),by show (9:Nat)<900;decide,?_⟩
   refine q2 e _ (((((Ch.set.mono (by simp)).trans (Ch.set.mono (by simp))).trans (Ch.set.mono (by simp))).trans (Ch.set.mono (by simp))).trans (Ch.set.mono (by simp))) (by simp) (get_set (get_set (get_set h2))) ?_
   rw[z6D (z6Z n1),z6D (z6Z n1),z6D (z6Z n1)]
   exact get_set c1
  rcases hk with rfl|rfl
  ·refine⟨_,_,_,h1,rfl,⟨0,(0,_),[.mut ci]⟩,⟨rfl,rfl⟩,?_⟩
   refine⟨⟨_,c1⟩,_,c1,by unfold room;omega,?_⟩
   exact fin
  ·refine⟨_,_,_,h1,rfl,⟨1,(0,_),[.mut ci]⟩,⟨rfl,rfl⟩,?_⟩
   refine⟨⟨_,c1⟩,_,c1,by unfold room;omega,?_⟩
   exact fin
structure KpJ(μ μ':Mem)(i ci:Nat)(kp sh:T)(ah sd:Int)(l l':Option Ls)(m m' n:Option Int)(bt:T)(cs:List T):Prop where
 ch:Ch [i,ci] μ μ'
 ln:μ'.length=μ.length
 ho:μ'[i]?=some (hsO sh ah sd kp l' m' n bt false)
 hc:μ'[ci]?=some (.lst (cs++if l'=l/\m'=m then [] else [zK l' m']))
theorem kJ(hk:vy kp ci)(ho:μ[i]?=some (hsO sh ah sd kp l m n bt false))(hc:μ[ci]?=some (.lst cs))(hcl:cs.length<=1000)
  (q:∀μ',KpJ μ μ' i ci kp sh ah sd l l' m m' n bt cs->K .non μ'):qc [.mut i,lsT l',opT m'] μ K Z:=by
 refine X9 hk ho hc hcl (λe1 e2=>q μ ⟨Ch.refl,rfl,by rw[e1,e2];exact ho,by rw[if_pos ⟨e1,e2⟩,z74];exact hc⟩) λe μ' ch hl g1 g2=>q μ' ⟨ch,hl,g1,by rw[if_neg e];exact g2⟩
theorem JZ(hk:vy kp ci)(ho:μ[i]?=some (hsO (shp x y z) ah sd kp l m n bt false))(hc:μ[ci]?=some (.lst cs))(hcl:cs.length<=1000)(ok:LsOk x y a)
  (q:∀μ',KpJ μ μ' i ci kp (shp x y z) ah sd l (some a) m m n bt cs->K .non μ'):zz [.mut i,lsT (some a)] μ K Z:=by
 unfold zz
 refine⟨rfl,?_⟩
 refine⟨_,ho,?_⟩
 refine wB ho ?_
 refine⟨_,_,_,ho,rfl,?_⟩
 refine u9 ok.h0 ok.h1 ok.f0 ok.fu ok.ux ?_
 refine⟨_,ho,?_⟩
 refine⟨_,_,_,ho,rfl,?_⟩
 exact kJ hk ho hc hcl q
end
section
variable {μ μ1 μ2:Mem}{K:T->Mem->Prop}{Z:Xp}{x y z:Int}{i bi ci ti:Nat}{sh kp bt:T}{ah sd:Int}{l l':Option Ls}{m m' n:Option Int}{a:Ls}{r k h t:Int}{cs ts:List T}{bs:List Bt}
noncomputable def mnI(a b:Int):Int:=if b<a then b else a
noncomputable def mbI (x sd:Int)(m:Option Int)(mo:Int):Int:=match m with
 |none=>mnI (mo+sd) (x-1)
 |some v=>if mo<=v then v else mnI (mo+sd) (x-1)
theorem Ut{mo:Int}(ho:μ[i]?=some (hsO (shp x y z) ah sd kp l m n bt false))(q:K (.int (mbI x sd m mo)) μ):qe [.mut i,.int mo] μ K Z:=by
 unfold qe
 refine⟨rfl,?_⟩
 refine⟨_,_,_,ho,rfl,?_⟩
 have fin:∀τ:Sl,τ=[some (.mut i),some (.int mo)]->K (.int (mnI (mo+sd) (x-1))) μ->qd (qr.drop 1) τ μ (En.fn K Z):=λτ e q=>by
  subst e
  refine⟨_,_,_,ho,rfl,?_⟩
  refine⟨_,_,_,ho,rfl,?_⟩
  exact q
 cases m with
 |none=>exact fin _ rfl q
 |some mm=>
  refine⟨_,_,_,ho,rfl,?_⟩
  have q:K (.int (if mo<=mm then mm else mnI (mo+sd) (x-1))) μ:=q
  refine zL (λe=>?_) (λe=>?_)
  ·rw[if_pos e] at q
   refine⟨_,_,_,ho,rfl,?_⟩
   exact q
  ·rw[if_neg e] at q
   exact fin _ rfl q
end
section
variable {μ μ1 μ2:Mem}{K:T->Mem->Prop}{Z:Xp}{x y z:Int}{i bi ci:Nat}{sh kp bt:T}{ah sd:Int}{l l':Option Ls}{m m' n:Option Int}{a:Ls}{r k h t:Int}{cs:List T}
noncomputable def zd (y z:Int)(a:Ls)(n m:Option Int)(r:Int):Int:=if We y z a.1 n m<(if a.2.1<r then r else a.2.1) * z then (if a.2.1<r then r else a.2.1) * z else We y z a.1 n m
theorem YZ(s:Hz x y z)(h:μ[i]?=some (hsO (shp x y z) ah sd kp (some a) m n bt false))(hn:∀k,n=some k->0<=k/\k<x * y * z)(k1:1<=k)(k2:k<=z)
  (q1:a.2.2 * z<zd y z a n m r+k->Z 18 [] μ)
  (q2:zd y z a n m r+k<=a.2.2 * z->0<byP z r ah (zd y z a n m r+k)->(byP z r ah (zd y z a n m r+k)).natAbs.log2<1920/\Z 21 [(29,.int (byP z r ah (zd y z a n m r+k)))] μ)
  (q3:zd y z a n m r+k<=a.2.2 * z->byP z r ah (zd y z a n m r+k)<=0->K (yZ a.1 (zd y z a n m r) (zd y z a n m r+k)) μ) :
  qp [.mut i,.int r,.int k] μ K Z:=by
 obtain⟨x1,y1,y2,z1,z2⟩:=id s
 unfold qp
 refine⟨rfl,?_⟩
 refine qN ?_
 rw[decide_eq_true k1]
 refine⟨_,_,_,h,rfl,?_⟩
 refine jx (by omega) ?_
 refine q9 ?_
 refine⟨_,h,?_⟩
 unfold zE
 refine⟨rfl,?_⟩
 refine⟨_,_,_,h,rfl,?_⟩
 refine⟨_,_,_,h,rfl,?_⟩
 refine⟨_,rfl,?_⟩
 refine⟨_,_,_,h,rfl,?_⟩
 refine⟨.inr ⟨by unfold big;omega,by unfold big;omega⟩,?_⟩
 refine⟨_,h,?_⟩
 refine QK s h hn ?_
 refine⟨_,_,_,h,rfl,?_⟩
 refine⟨_,rfl,?_⟩
 refine⟨_,_,_,h,rfl,?_⟩
 refine⟨.inr ⟨by unfold big;omega,by unfold big;omega⟩,?_⟩
 refine zL (λe=>?_) (λe=>?_)
 ·exact⟨by show (1:Nat)<=room;decide,q1 e⟩
 ·have e:zd y z a n m r+k<=a.2.2 * z:=by
   have:¬a.2.2 * z<zd y z a n m r+k:=e
   omega
  refine⟨_,_,_,h,rfl,?_⟩
  refine⟨⟨by omega,by omega⟩,?_⟩
  refine⟨_,_,_,h,rfl,?_⟩
  refine zL (λe2=>?_) (λe2=>?_)
  ·exact q2 e e2
  ·refine⟨_,_,_,h,rfl,?_⟩
   refine⟨_,rfl,?_⟩
   refine⟨rfl,?_⟩
   unfold qw
   refine⟨rfl,?_⟩
   refine⟨_,_,rfl,by show (0:Nat)<900;decide,?_⟩
   refine⟨_,_,rfl,by show (1:Nat)<900;decide,?_⟩
   refine⟨_,_,rfl,by show (2:Nat)<900;decide,?_⟩
   refine⟨rfl,_,rfl,rfl,?_⟩
   refine q3 e ?_
   have e2:¬0<byP z r ah (zd y z a n m r+k):=e2
   omega
theorem jX(s:Hz x y z)(ok:LsOk x y a):0<=zd y z a n m r:=by
 obtain⟨x1,y1,y2,z1,z2⟩:=id s
 have f0:=ok.f0
 have w:0<=(if a.2.1<r then r else a.2.1) * z:=z9i (by split<;>omega) (by omega)
 unfold zd
 by_cases e:We y z a.1 n m<(if a.2.1<r then r else a.2.1) * z
 ·rw[if_pos e];exact w
 ·rw[if_neg e];exact Int.le_trans w (Int.not_lt.mp e)
structure HoJ(μ μ':Mem)(i ci:Nat)(kp:T)(x y z ah sd:Int)(a:Ls)(m n:Option Int)(b k:Int)(bt:T)(cs:List T):Prop where
 ch:Ch [i,ci] μ μ'
 ln:μ'.length=μ.length
 ho:μ'[i]?=some (hsO (shp x y z) ah sd kp (some a) (some (mbI x sd m ((b+k-1) / z))) (some (nmA y z a.1 (b+k-1))) bt false)
 hc:μ'[ci]?=some (.lst (cs++if some (mbI x sd m ((b+k-1) / z))=m then [] else [zK (some a) (some (mbI x sd m ((b+k-1) / z)))]))
theorem QF(s:Hz x y z)(ok:LsOk x y a)(hk:vy kp ci)(ho:μ[i]?=some (hsO (shp x y z) ah sd kp (some a) m n bt false))(hc:μ[ci]?=some (.lst cs))(hcl:cs.length<=1000)(hn:∀k,n=some k->0<=k/\k<x * y * z)(k1:1<=k)(k2:k<=z)
  (q1:a.2.2 * z<zd y z a n m r+k->Z 18 [] μ)
  (q2:zd y z a n m r+k<=a.2.2 * z->0<byP z r ah (zd y z a n m r+k)->(byP z r ah (zd y z a n m r+k)).natAbs.log2<1920/\Z 21 [(29,.int (byP z r ah (zd y z a n m r+k)))] μ)
  (q3:zd y z a n m r+k<=a.2.2 * z->byP z r ah (zd y z a n m r+k)<=0->∀μ',HoJ μ μ' i ci kp x y z ah sd a m n (zd y z a n m r) k bt cs->K (yZ a.1 (zd y z a n m r) (zd y z a n m r+k)) μ') :
  zX [.mut i,.int r,.int k] μ K Z:=by
 obtain⟨x1,y1,y2,z1,z2⟩:=id s
 have nci:ci≠i:=λw=>by rw[w,ho] at hc;cases hc
 have b0:=jX (n:=n) (m:=m) (r:=r) s ok
 unfold zX
 refine⟨rfl,?_⟩
 refine⟨_,ho,?_⟩
 refine wB ho ?_
 refine⟨_,ho,?_⟩
 refine YZ s ho hn k1 k2 q1 q2 λe1 e2=>?_
 have ux:a.2.2 * z<=x * z:=z6P ok.ux (by omega)
 refine⟨_,ho,?_⟩
 refine⟨_,_,_,ho,rfl,?_⟩
 refine⟨_,ho,?_⟩
 refine⟨_,_,_,ho,rfl,?_⟩
 refine⟨⟨by omega,by omega⟩,?_⟩
 refine Ut ho ?_
 refine kJ (l':=some a) (m':=some (mbI x sd m ((zd y z a n m r+k-1) / z))) hk ho hc hcl λμ' P=>?_
 refine⟨_,_,_,P.ho,rfl,?_⟩
 refine ud s (by omega) (by omega) ok.h0 ok.h1 ?_
 refine⟨_,_,P.ho,by show (9:Nat)<900;decide,?_⟩
 refine q3 e1 e2 _ ⟨P.ch.trans (Ch.set.mono (by simp)),by simp[P.ln],get_set P.ho,?_⟩
 rw[z6D (z6Z nci)]
 have:=P.hc
 simpa using this
end
section
variable {μ μ1 μ2:Mem}{K:T->Mem->Prop}{Z:Xp}{x y z:Int}{i:Nat}{sh kp bt:T}{ah sd:Int}{l l':Option Ls}{m m' n:Option Int}{a:Ls}{r k h:Int}{c:Nat}
theorem vK{v:Int}(s:Hz x y z)(q:K (.tup [.int (v / z / y),.int (v / z % y),.int (v % z)]) μ):vd [shT x y z,.int v] μ K Z:=by
 obtain⟨x1,y1,y2,z1,z2⟩:=id s
 unfold vd
 refine⟨rfl,?_⟩
 refine⟨_,rfl,?_⟩
 refine⟨⟨by omega,by omega⟩,⟨by omega,by omega⟩,?_⟩
 refine⟨⟨by omega,by omega⟩,by omega,?_⟩
 refine⟨by omega,?_⟩
 exact q
theorem Vh{M:Int}(z1:1<=z):(M * y+h) * z=nmA y z h (M * z):=by
 unfold nmA
 rw[Int.mul_ediv_cancel _ (by omega),Int.mul_emod_left]
 omega
theorem Yl(s:Hz x y z)(h0:0<=h)(h1:h<y){w:Int}:(w<nmA y z h (w / z / y * z)->plA y z h w=w / z / y * z)/\
  (nmA y z h (w / z / y * z)<=w->(w+1) / z % y=h->nmA y z h (plA y z h w)=w+1)/\
  (nmA y z h (w / z / y * z)<=w->(w+1) / z % y≠h->plA y z h w=(w / z / y+1) * z):=by
 obtain⟨x1,y1,y2,z1,z2⟩:=id s
 have c0:=z7h w (show z≠0 by omega)
 have c1:=z76 w (show 0<z by omega)
 have P:=jC (k:=w) (p:=plA y z h w) s h0 h1
 have up:w<nmA y z h (plA y z h w):=P.mpr (zcq _)
 have ge:w / z / y * z<=plA y z h w:=by
  unfold plA
  have:(w / z / y+1) * z=w / z / y * z+z:=by rw[z7Y,za6]
  split
  ·omega
  ·split<;>omega
 refine⟨λe=>?_,λe e2=>?_,λe e2=>?_⟩
 ·have:=(jC (k:=w) (p:=w / z / y * z) s h0 h1).mp e
  omega
 ·have nf:=z1A (k:=w+1) s e2
  generalize hp:(w+1) / z / y * z+(w+1) % z=p at nf
  have l1:=(jC (k:=w) (p:=p) s h0 h1).mp (by rw[nf.1];omega)
  by_cases l2:plA y z h w<p
  ·have:=k7 (y:=y) (z:=z) s h0 h1 l2
   omega
  ·have:plA y z h w=p:=by omega
   rw[this,nf.1]
 ·have d:(w / z / y+1) * z=w / z / y * z+z:=by rw[z7Y,za6]
  have lo:¬w / z % y<h:=λo=>by
   have:plA y z h w=w / z / y * z:=by unfold plA;rw[if_pos o]
   rw[this] at up
   omega
  unfold plA
  rw[if_neg lo]
  by_cases o:h<w / z % y
  ·rw[if_pos o]
  ·rw[if_neg o,d]
   have o2:w / z % y=h:=by omega
   by_cases o3:w % z+1<z
   ·exfalso
    have nf:=z1A (k:=w) s o2
    have e3:(w / z / y * z+(w % z+1)) / z=w / z / y/\(w / z / y * z+(w % z+1)) % z=w % z+1:=(z7O (by omega)).mpr ⟨by rw[z7M z,z9h],by omega,o3⟩
    have e4:nmA y z h (w / z / y * z+(w % z+1))=w+1:=by
     have pe:=yI w y z
     unfold nmA
     rw[e3.1,e3.2,←o2]
     omega
    have:=(vG (p:=w / z / y * z+(w % z+1)) s h0 h1).2.1
    rw[e4] at this
    exact e2 this
   ·omega
theorem U2(s:Hz x y z)(ok:LsOk x y a)(hn:∀k,n=some k->0<=k)
  (q1:a.2.2 * z<qF y z a n r+1->K .non μ) (q2:qF y z a n r+1<=a.2.2 * z->K (.int (nmA y z a.1 (qF y z a n r))) μ) :
  xF [shT x y z,lsT (some a),opT n,.int r] μ K Z:=by
 obtain⟨x1,y1,y2,z1,z2⟩:=id s
 obtain⟨h,f,u⟩:=a
 have h0:0<=h:=ok.h0
 have h1:h<y:=ok.h1
 have f0:0<=f:=ok.f0
 have nn:(0:Int)<=(if f<r then r else f) * z:=z9i (by split<;>omega) (by omega)
 have hB:qF y z (h,f,u) n r=if Zi y z h n<(if f<r then r else f) * z then (if f<r then r else f) * z else Zi y z h n:=rfl
 unfold xF
 refine⟨rfl,?_⟩
 refine⟨_,rfl,?_⟩
 refine⟨_,rfl,?_⟩
 refine⟨.inr ⟨by unfold big;omega,by unfold big;omega⟩,?_⟩
 refine⟨.inr ⟨by unfold big;omega,by unfold big;omega⟩,?_⟩
 have fin:∀(v:Int) (o11 o12 o13:Option T),v=nmA y z h (qF y z (h,f,u) n r)->qd (kI.drop 4) [some (shT x y z),some (lsT (some (h,f,u))),some (opT n),some (.int r),some (.int x),some (.int y),some (.int z),some (.int h),some (.int f),some (.int u),some (.int v),o11,o12,o13] μ (En.fn K Z):=by
  intro v o11 o12 o13 ev
  have np:=(vG (p:=qF y z (h,f,u) n r) s h0 h1).1
  rw[←ev] at np q2
  refine⟨⟨by omega,by omega⟩,⟨by omega,by omega⟩,?_⟩
  refine zL (λe=>?_) (λe=>?_)
  ·refine q1 ?_
   rw[np] at e
   have:=(zaE (show 0<z by omega)).mp e
   show u * z<_
   omega
  ·refine q2 ?_
   rw[np] at e
   have:qF y z (h,f,u) n r / z<u:=by omega
   have:=(Int.ediv_lt_iff_lt_mul (show 0<z by omega)).mp this
   show _<=u * z
   omega
 have eM:((if f<r then r else f) * y+h) * z=nmA y z h ((if f<r then r else f) * z):=Vh z1
 cases n with
 |none=>
  refine fin _ none none none ?_
  have:qF y z (h,f,u) none r=(if f<r then r else f) * z:=by
   rw[hB];show (if 0<_ then _ else 0)=_;generalize (if f<r then r else f) * z=A at nn ⊢;by_cases e:0<A;exact if_pos e;exact (if_neg e).trans (by omega)
  rw[this];exact eM
 |some w=>
  have hw:=hn w rfl
  have pl:=jC (k:=w) (p:=(if f<r then r else f) * z) s h0 h1
  have hB:qF y z (h,f,u) (some w) r=if plA y z h w<(if f<r then r else f) * z then (if f<r then r else f) * z else plA y z h w:=hB
  refine zL (λe=>?_) (λe=>?_)
  ·have e:((if f<r then r else f) * y+h) * z<=w:=e
   rw[eM] at e
   have np:¬plA y z h w<=(if f<r then r else f) * z:=λo=>by have:=pl.mpr o;omega
   rw[if_neg (by omega)] at hB
   obtain⟨A1,A2,A3⟩:=Yl (w:=w) s h0 h1
   refine vK s ?_
   refine⟨_,rfl,?_⟩
   refine⟨.inr ⟨by unfold big;omega,by unfold big;omega⟩,?_⟩
   refine⟨.inr ⟨by unfold big;omega,by unfold big;omega⟩,?_⟩
   have eW:(w / z / y * y+h) * z=nmA y z h (w / z / y * z):=Vh z1
   have eW1:((w / z / y+1) * y+h) * z=nmA y z h ((w / z / y+1) * z):=Vh z1
   refine zL (λe2=>?_) (λe2=>?_)
   ·have e2:(w / z / y * y+h) * z<=w:=e2
    rw[eW] at e2
    refine vK s ?_
    refine⟨_,rfl,?_⟩
    refine xO (λe3=>?_) (λe3=>?_)
    ·refine fin _ _ _ _ ?_
     rw[hB];exact (A2 e2 e3).symm
    ·refine⟨.inr ⟨by unfold big;omega,by unfold big;omega⟩,?_⟩
     refine⟨.inr ⟨by unfold big;omega,by unfold big;omega⟩,?_⟩
     refine fin _ _ _ _ ?_
     rw[hB,A3 e2 e3];exact eW1
   ·have e2:¬(w / z / y * y+h) * z<=w:=e2
    rw[eW] at e2
    refine vK s ?_
    refine⟨_,rfl,?_⟩
    have np2:((w / z / y * y+h) * z) / z % y=h:=by
     rw[eW];exact (vG (p:=w / z / y * z) s h0 h1).2.1
    refine xO (λe3=>?_) (λe3=>absurd np2 e3)
    refine fin _ _ _ _ ?_
    rw[hB,A1 (by omega)];exact eW
  ·have e:¬((if f<r then r else f) * y+h) * z<=w:=e
   rw[eM] at e
   have pl2:=pl.mp (by omega)
   refine fin _ none none none ?_
   have:qF y z (h,f,u) (some w) r=(if f<r then r else f) * z:=by
    rw[hB];generalize (if f<r then r else f) * z=A at pl2 ⊢;split<;>omega
   rw[this];exact eM
end
section
variable {μ μ1 μ2:Mem}{K:T->Mem->Prop}{Z:Xp}{x y z:Int}{i:Nat}{sh kp bt:T}{ah sd:Int}{l l':Option Ls}{m m' n:Option Int}{a:Ls}{r k h:Int}{c:Nat}
noncomputable def nAt (y z:Int)(a:Ls)(n:Option Int)(r:Int)(c:Nat):Option Int:=if c=0 then n else some (nmA y z a.1 (qF y z a n r+c-1))
theorem YR(s:Hz x y z)(ok:LsOk x y a):qF y z a (nAt y z a n r c) r=qF y z a n r+c:=by
 obtain⟨x1,y1,y2,z1,z2⟩:=id s
 unfold nAt
 by_cases e:c=0
 ·rw[if_pos e,e];simp
 ·rw[if_neg e]
  have g:=(Qi (n:=n) (r:=r) s ok.f0).2.1
  generalize qF y z a n r=B at g ⊢
  unfold qF
  show (if plA y z a.1 (nmA y z a.1 (B+c-1))<_ then _ else plA y z a.1 (nmA y z a.1 (B+c-1)))=_
  rw[z49 s ok.h0 ok.h1]
  generalize (if a.2.1<r then r else a.2.1) * z=A at g ⊢
  rw[if_neg (by omega)]
  omega
theorem KO(s:Hz x y z)(ok:LsOk x y a)(hn:∀k,n=some k->0<=k/\k<x * y * z)(k1:1<=k)(k2:k<=1000)
  (q1:a.2.2 * z<qF y z a n r+k->∀μ',Ch [] μ μ'->K .non μ')
  (q2:qF y z a n r+k<=a.2.2 * z->∀μ' j,Ch [] μ μ'->μ.length<=j->μ'[j]?=some (.lst ((nmL y z a.1 (qF y z a n r) k).map T.int))->K (.mut j) μ') :
  xU [shT x y z,lsT (some a),opT n,.int r,.int k] μ K Z:=by
 obtain⟨x1,y1,y2,z1,z2⟩:=id s
 have g:=Qi (n:=n) (r:=r) s ok.f0
 unfold xU
 refine⟨rfl,?_⟩
 refine⟨⟨by omega,by omega⟩,?_⟩
 have hlr:(rangeT k).length=k.toNat:=by unfold rangeT;simp
 refine j_ (λnn τ μ'=>∃(o:Option T),τ=[some (shT x y z),some (lsT (some a)),some (opT (nAt y z a n r nn)),some (.int r),some (.int k),some (.mut μ.length),o]/\(nn=0\/qF y z a n r+nn<=a.2.2 * z)/\μ'=μ++[.lst ((nmL y z a.1 (qF y z a n r) nn).map T.int)]) ⟨none,rfl,.inl rfl,rfl⟩ ?_ ?_
 ·rintro nn t τ μ' hx1 ⟨o,rfl,hc,rfl⟩ N hN
  have hnk:(nn:Int)<k:=by
   have h1:=(z6v.mp hx1).1
   rw[hlr] at h1
   omega
  refine⟨_,rfl,?_⟩
  have hb:=YR (n:=n) (r:=r) (c:=nn) s ok
  refine U2 s ok (λw hw=>?_) (λe=>?_) λe=>?_
  ·unfold nAt at hw
   split at hw
   ·exact (hn w hw).1
   ·cases hw
    have ux:a.2.2 * z<=x * z:=z6P ok.ux (by omega)
    exact (U0 s ok.h0 ok.h1 (by omega) (by omega)).1
  ·rw[hb] at e
   exact q1 (by omega) _ Ch.app
  ·rw[hb] at e ⊢
   refine⟨⟨_,zm⟩,_,zm,by rw[z6Q,wA];unfold room;omega,?_⟩
   have en:opT (nAt y z a n r (nn+1))=.int (nmA y z a.1 (qF y z a n r+nn)):=by
    unfold nAt
    rw[if_neg (by omega)]
    have:qF y z a n r+((nn+1:Nat):Int)-1=qF y z a n r+nn:=by push_cast;omega
    rw[this]
    rfl
   refine hN _ _ ⟨some t,?_,.inr (by push_cast;omega),?_⟩
   ·rw[en];rfl
   ·rw[z9k _ _ (z6E _)]
    have:((nn+1:Nat):Int)=(nn:Int)+1:=by push_cast;rfl
    rw[this,QV,z7j]
    simp
 ·rintro τ μ' ⟨o,rfl,hc,rfl⟩
  rw[hlr] at hc ⊢
  have hk:((k.toNat:Nat):Int)=k:=by omega
  rw[hk] at hc ⊢
  refine q2 (by omega) _ _ Ch.app (z6E _) zm
theorem JU{v:Int}(h0:0<=v)(h:v<1000000000000000000000000000000):v.natAbs.log2<1920:=by
 by_cases e:v.natAbs=0
 ·rw[e];decide
 ·rw[zdJ e]
  exact z6N (show v.natAbs<2 ^ 100 by omega) (Nat.pow_le_pow_right (by decide) (by decide))
end
section
variable {μ μ1 μ2:Mem}{K:T->Mem->Prop}{Z:Xp}{x y z:Int}{i bi ci ni di:Nat}{sh kp bt kt:T}{ah sd:Int}{l l':Option Ls}{m m' n g:Option Int}{a:Ls}{r k h t:Int}{cs:List T}
noncomputable def stD (l:Option Ls)(m g n:Option Int)(kt:T)(ni:Nat):MO:=.dic [(.inr "lease",lsT l),(.inr "mark",opT m),(.inr "begun",opT g),(.inr "last",opT n),(.inr "kept",kt),(.inr "notes",.mut ni)]
theorem jA:xt (.inr "lease") [(.inr "lease",lsT l),(.inr "mark",opT m),(.inr "begun",opT g),(.inr "last",opT n),(.inr "kept",kt),(.inr "notes",.mut ni)]=some (lsT l):=rfl
theorem vn:xt (.inr "notes") [(.inr "lease",lsT l),(.inr "mark",opT m),(.inr "begun",opT g),(.inr "last",opT n),(.inr "kept",kt),(.inr "notes",.mut ni)]=some (.mut ni):=rfl
structure Nt(μ μ':Mem)(di ni:Nat)(l l':Option Ls)(m m' g n:Option Int)(kt:T)(cs:List T):Prop where
 ch:Ch [di,ni] μ μ'
 ln:μ'.length=μ.length
 hd:μ'[di]?=some (stD l' m' g n kt ni)
 hc:μ'[ni]?=some (.lst (cs++if l'=l/\m'=m then [] else [zK l' m']))
theorem vW(hd:μ[di]?=some (stD l m g n kt ni))(hc:μ[ni]?=some (.lst cs))(hcl:cs.length<=1000)
  (q:∀μ',Nt μ μ' di ni l l' m m' g n kt cs->K .non μ'):vj [.mut di,lsT l',opT m'] μ K Z:=by
 have n1:ni≠di:=λw=>by rw[w,hd] at hc;cases hc
 have fin:∀μ1,Ch [di,ni] μ μ1->μ1.length=μ.length->μ1[di]?=some (stD l m g n kt ni)->μ1[ni]?=some (.lst (cs++if l'=l/\m'=m then [] else [zK l' m']))->qd (xZ.drop 1) [some (.mut di),some (lsT l'),some (opT m')] μ1 (En.fn K Z):=by
  intro μ1 ch hl h1 h2
  refine⟨⟨_,h1⟩,(by decide:([.inr "lease",.inr "mark"]:List Key).Nodup),_,h1,by show (8:Nat)<=room;decide,?_⟩
  refine q _ ⟨ch.trans (Ch.set.mono (by simp)),by simp[hl],?_,?_⟩
  ·exact get_set h1
  ·rw[z6D (z6Z n1)]
   exact h2
 unfold vj
 refine⟨rfl,?_⟩
 refine⟨_,_,hd,jA,?_⟩
 refine⟨_,_,hd,rfl,?_⟩
 refine⟨yv,_,xN,?_⟩
 refine Wm (λe=>?_) (λe=>?_)
 ·have e:¬(l'=l/\m'=m):=λw=>by simp[w.1,w.2] at e
  refine⟨_,_,hd,vn,?_⟩
  refine⟨⟨_,hc⟩,_,hc,by unfold room;omega,?_⟩
  refine fin _ (Ch.set.mono (by simp)) (by simp) ?_ ?_
  ·rw[z6D n1]
   exact hd
  ·rw[if_neg e]
   exact get_set hc
 ·have e:l'=l/\m'=m:=by simpa using e
  refine fin μ Ch.refl rfl hd ?_
  rw[if_pos e,z74]
  exact hc
end
section
variable {μ μ1 μ2:Mem}{K:T->Mem->Prop}{Z:Xp}{x y z:Int}{i bi ci ni di:Nat}{sh kp bt kt:T}{ah sd:Int}{l l':Option Ls}{m m' n g:Option Int}{a:Ls}{r k h t:Int}{cs:List T}
theorem Qv(q:K (.mut μ.length) (μ++[stD none none none none (.lst []) ni])):qY [.non,.mut ni] μ K Z:=by
 unfold qY
 refine⟨rfl,?_⟩
 refine⟨(by decide:([.inr "lease",.inr "mark",.inr "begun",.inr "last",.inr "kept",.inr "notes"]:List Key).Nodup),?_⟩
 exact q
theorem U3(q:K (.mut μ.length) ((μ++[stD none none none none (.lst []) ni]).set μ.length (stD l m m none (.lst []) ni))):qY [zK l m,.mut ni] μ K Z:=by
 unfold qY
 refine⟨rfl,?_⟩
 refine⟨(by decide:([.inr "lease",.inr "mark",.inr "begun",.inr "last",.inr "kept",.inr "notes"]:List Key).Nodup),?_⟩
 have h1:(μ++[stD none none none none (.lst []) ni])[μ.length]?=some (stD none none none none (.lst []) ni):=zm
 refine⟨⟨_,h1⟩,?_⟩
 refine⟨_,rfl,?_⟩
 refine⟨_,rfl,?_⟩
 refine⟨_,rfl,?_⟩
 refine⟨(by decide:([.inr "lease",.inr "mark",.inr "begun"]:List Key).Nodup),_,h1,by show (9:Nat)<=room;decide,?_⟩
 exact q
noncomputable def abv(y z:Int)(n g:Option Int):Option Int:=match n with
 |some k=>some k
 |none=>(match g with|none=>none|some v=>some ((v+1) * y * z-1))
theorem z2I{v:Int}(s:Hz x y z)(h0:0<=h)(h1:h<y):plA y z h ((v+1) * y * z-1)=(v+1) * z:=by
 obtain⟨x1,y1,y2,z1,z2⟩:=id s
 have d:((v+1) * z-1) / z=v/\((v+1) * z-1) % z=z-1:=by
  have e:(v+1) * z-1=(z-1)+v * z:=by rw[z7Y];omega
  rw[e,Int.add_mul_ediv_right _ _ (by omega),Int.add_mul_emod_self_right,Int.ediv_eq_zero_of_lt (by omega) (by omega),Int.emod_eq_of_lt (by omega) (by omega)]
  omega
 have e:(v+1) * y * z-1=nmA y z (y-1) ((v+1) * z-1):=by
  unfold nmA
  rw[d.1,d.2]
  have:(v+1) * y * z=(v * y+(y-1)) * z+z:=by
   rw[show (v+1) * y=(v * y+(y-1))+1 by rw[z7Y];omega,z7Y _ 1 z];omega
  omega
 obtain⟨p1,p2,p3⟩:=vG (p:=(v+1) * z-1) (h:=y-1) s (by omega) (by omega)
 unfold plA
 rw[e,p1,p2,p3,d.1,d.2,if_neg (by omega)]
 by_cases c:h<y-1
 ·rw[if_pos c]
 ·rw[if_neg c,z7Y];omega
theorem X8(s:Hz x y z)(h0:0<=h)(h1:h<y):Zi y z h (abv y z n g)=We y z h n g:=by
 cases n with
 |some k=>rfl
 |none=>cases g with
  |none=>rfl
  |some v=>exact z2I s h0 h1
theorem Jf(s:Hz x y z)(ok:LsOk x y a):qF y z a (abv y z n g) r=zd y z a n g r:=by
 unfold qF zd
 rw[X8 s ok.h0 ok.h1]
theorem z2i(s:Hz x y z)(hn:∀k,n=some k->0<=k/\k<x * y * z)(hg:∀v,g=some v->0<=v/\v<x):∀k,abv y z n g=some k->0<=k/\k<x * y * z:=by
 obtain⟨x1,y1,y2,z1,z2⟩:=id s
 intro k e
 cases n with
 |some w=>exact hn k e
 |none=>cases g with
  |none=>cases e
  |some v=>
   obtain⟨v0,v1⟩:=hg v rfl
   cases e
   have w1:(v+1) * y<=x * y:=z6P (by omega) (by omega)
   have w2:(v+1) * y * z<=x * y * z:=z6P w1 (by omega)
   have w3:0<(v+1) * y * z:=zdN (zdN (by omega) (by omega)) (by omega)
   omega
structure Rd(μ μ':Mem)(di ni j:Nat)(x y z sd:Int)(a:Ls)(m g:Option Int)(B k:Int)(kt:T)(cs:List T):Prop where
 ch:Ch [di,ni] μ μ'
 jl:μ.length<=j
 hj:μ'[j]?=some (.lst ((nmL y z a.1 B k).map T.int))
 hd:μ'[di]?=some (stD (some a) (some (mbI x sd m ((B+k-1) / z))) g (some (nmA y z a.1 (B+k-1))) kt ni)
 hc:μ'[ni]?=some (.lst (cs++if some (mbI x sd m ((B+k-1) / z))=m then [] else [zK (some a) (some (mbI x sd m ((B+k-1) / z)))]))
theorem Qq(s:Hz x y z)(ok:LsOk x y a)(hd:μ[di]?=some (stD (some a) m g n kt ni))(hc:μ[ni]?=some (.lst cs))(hcl:cs.length<=1000)(hn:∀k,n=some k->0<=k/\k<x * y * z)(hg:∀v,g=some v->0<=v/\v<x)(k1:1<=k)(k2:k<=1000)
  (q1:a.2.2 * z<zd y z a n g r+k->∀μ',Ch [] μ μ'->K (.str "lease") μ')
  (q2:zd y z a n g r+k<=a.2.2 * z->0<byP z r ah (zd y z a n g r+k)->∀μ',Ch [] μ μ'->K (.tup [.str "wait",.int (byP z r ah (zd y z a n g r+k))]) μ')
  (q3:zd y z a n g r+k<=a.2.2 * z->byP z r ah (zd y z a n g r+k)<=0->∀μ' j,Rd μ μ' di ni j x y z sd a m g (zd y z a n g r) k kt cs->K (.mut j) μ') :
  kc [.mut di,shT x y z,.int ah,.int sd,.int r,.int k] μ K Z:=by
 obtain⟨x1,y1,y2,z1,z2⟩:=id s
 have eb:=Jf (n:=n) (g:=g) (r:=r) s ok
 have hab:=z2i s hn hg
 have fin:∀τ:Sl,τ=[some (.mut di),some (shT x y z),some (.int ah),some (.int sd),some (.int r),some (.int k),some (opT (abv y z n g)),none,none]->qd (vP.drop 3) τ μ (En.fn K Z):=by
  intro τ e
  subst e
  refine⟨_,_,hd,rfl,?_⟩
  refine KO s ok hab k1 k2 (λw μ' ch=>?_) (λw μ' j ch jl hj=>?_)
  ·rw[eb] at w
   exact q1 w μ' ch
  ·rw[eb] at w hj
   refine⟨_,_,hj,QP k1,?_⟩
   refine vK s ?_
   refine⟨_,rfl,?_⟩
   generalize hB:zd y z a n g r=B at *
   have pm:=(vG (p:=B+k-1) s ok.h0 ok.h1).1
   have hd':μ'[di]?=some (stD (some a) m g n kt ni):=ch.get hd (by simp)
   have hc':μ'[ni]?=some (.lst cs):=ch.get hc (by simp)
   have d1:=(z6v.mp hd).1
   have d2:=(z6v.mp hc).1
   have nd:ni≠di:=λw=>by rw[w,hd] at hc;cases hc
   have out:∀μ'' (m':Int) (τ:Sl),m'=mbI x sd m ((B+k-1) / z)->byP z r ah (B+k)<=0->Nt μ' μ'' di ni (some a) (some a) m (some m') g n kt cs->τ=[some (.mut di),some (shT x y z),some (.int ah),some (.int sd),some (.int r),some (.int k),some (opT (abv y z n g)),some (.mut j),some (.int (nmA y z a.1 (B+k-1) / z / y))]->qd (vP.drop 8) τ μ'' (En.fn K Z):=by
    intro μ'' m' τ em eb' N e
    subst e
    have hj2:μ''[j]?=some (.lst ((nmL y z a.1 B k).map T.int)):=N.ch.get hj (by simp;omega)
    refine⟨_,_,hj2,QP k1,?_⟩
    refine⟨_,N.hd,by show (6:Nat)<room;decide,?_⟩
    refine q3 w eb' _ j ⟨((ch.mono (by simp)).trans N.ch).trans (Ch.set.mono (by simp)),jl,?_,?_,?_⟩
    ·rw[z6D (by omega)]
     exact hj2
    ·subst em
     exact get_set N.hd
    ·subst em
     rw[z6D (z6Z nd)]
     have:=N.hc
     simpa using this
   refine zL (λe=>?_) (λe=>?_)
   ·rw[pm] at e
    have e2:nmA y z a.1 (B+k-1) / z / y-r-ah=byP z r ah (B+k):=by rw[pm];unfold byP;omega
    have:=q2 w (by unfold byP;omega) μ' ch
    rw[←e2] at this
    exact this
   ·rw[pm] at e
    have e3:byP z r ah (B+k)<=0:=by unfold byP;omega
    cases m with
    |none=>
     refine⟨_,_,hd',rfl,?_⟩
     refine⟨_,_,hd',rfl,?_⟩
     refine⟨_,rfl,?_⟩
     refine vW (l':=some a) (m':=some (mnI (nmA y z a.1 (B+k-1) / z / y+sd) (x-1))) hd' hc' hcl λμ'' N=>?_
     exact out μ'' _ _ (by rw[pm];rfl) e3 N rfl
    |some mm=>
     refine⟨_,_,hd',rfl,?_⟩
     refine⟨_,_,hd',rfl,?_⟩
     refine zL (λe4=>?_) (λe4=>?_)
     ·refine⟨_,_,hd',rfl,?_⟩
      refine⟨_,rfl,?_⟩
      refine vW (l':=some a) (m':=some (mnI (nmA y z a.1 (B+k-1) / z / y+sd) (x-1))) hd' hc' hcl λμ'' N=>?_
      refine out μ'' _ _ ?_ e3 N rfl
      rw[pm] at e4 ⊢
      show _=if (B+k-1) / z<=mm then mm else mnI ((B+k-1) / z+sd) (x-1)
      rw[if_neg (by omega)]
     ·refine out μ' mm _ ?_ e3 ⟨Ch.refl,rfl,hd',?_⟩ rfl
      ·rw[pm] at e4
       show _=if (B+k-1) / z<=mm then mm else mnI ((B+k-1) / z+sd) (x-1)
       rw[if_pos (by omega)]
      ·rw[if_pos ⟨rfl,rfl⟩,z74]
       exact hc'
 unfold kc
 refine⟨rfl,?_⟩
 refine⟨_,_,hd,rfl,?_⟩
 refine⟨_,_,hd,rfl,?_⟩
 cases n with
 |some w=>exact fin _ rfl
 |none=>
  refine⟨_,_,hd,rfl,?_⟩
  cases g with
  |none=>exact fin _ rfl
  |some v=>
   refine⟨_,_,hd,rfl,?_⟩
   refine⟨_,rfl,?_⟩
   refine⟨.inr ⟨by unfold big;omega,by unfold big;omega⟩,?_⟩
   refine⟨_,rfl,?_⟩
   refine⟨.inr ⟨by unfold big;omega,by unfold big;omega⟩,?_⟩
   exact fin _ rfl
end
end NH.P
namespace NH.P
open PySem L2 NH
namespace X
section
variable {μ μ1 μ2:Mem}{K:T->Mem->Prop}{Z:Xp}{x y z:Int}{i bi:Nat}{sh kp bt:T}{ah sd:Int}{l l':Option Ls}{m m' n:Option Int}{a:Ls}{r k:Int}{c:Nat}
noncomputable abbrev Bt:=Int×Int×Int
noncomputable abbrev btT(p:Bt):T:=yZ p.1 p.2.1 p.2.2
noncomputable def nmB (y z:Int)(bs:List Bt):List Int:=bs.flatMap λp=>nmL y z p.1 p.2.1 (p.2.2-p.2.1)
structure BOk(x y z:Int)(bs:List Bt):Prop where
 h0:∀p∈bs,0<=p.1
 h1:∀p∈bs,p.1<y
 b0:∀p∈bs,0<=p.2.1
 be:∀p∈bs,p.2.1<=p.2.2
 ex:∀p∈bs,p.2.2<=x * z
 sz:∀p∈bs,p.2.2-p.2.1<=1000
theorem Jj:∀{bs:List Bt},(∀p∈bs,p.2.1<=p.2.2)->((nmB y z bs).length:Int)=(bs.map λp=>p.2.2-p.2.1).sum
 |[],_=>rfl
 |p::r,hb=>by
  have ih:=Jj (bs:=r) λq hq=>hb q (z6H _ hq)
  have:=hb p z6U
  unfold nmB at ih ⊢
  rw[z8G,z72,z7g,List.sum_cons,wA]
  push_cast
  rw[ih]
  omega
theorem size_of_sp{bs:List Bt}(hi:μ[i]?=some (.lst (bs.map btT)))(hl:bs.length<=1000)(hb:∀p∈bs,p.2.1<=p.2.2)(q:K (.int ((nmB y z bs).length:Int)) μ):wN [.mut i] μ K Z:=by
 unfold wN
 refine⟨rfl,?_⟩
 refine⟨_,hi,?_⟩
 refine⟨by rw[z6Q];unfold room;omega,?_⟩
 refine vQ btT (λp=>some (T.int (p.2.2-p.2.1))) (λp hp kk hkk=>⟨_,rfl,hkk⟩) ?_ hi
 rw[zaF]
 rw[Jj hb] at q
 refine⟨bs.map λp=>p.2.2-p.2.1,?_,q⟩
 have:=k8 (bs.map λp=>p.2.2-p.2.1)
 rw[zc2] at this
 exact this
structure Pt where
 r:Int
 fs:List Bt
 os:List Bt
noncomputable def Pt.step(s:Pt)(p:Bt):Pt:=
 let m:=if p.2.2<p.2.1+s.r then p.2.2 else p.2.1+s.r
 ⟨s.r-(m-p.2.1),s.fs++[(p.1,p.2.1,m)],s.os++[(p.1,m,p.2.2)]⟩
structure PtOk(x y z:Int)(s0 s:Pt)(bs:List Bt):Prop where
 r0:0<=s.r
 fo:BOk x y z s0.fs->BOk x y z s.fs
 oo:BOk x y z s0.os->BOk x y z s.os
 fn:nmB y z s.fs=nmB y z s0.fs++(nmB y z bs).take s0.r.toNat
 on:nmB y z s.os=nmB y z s0.os++(nmB y z bs).drop s0.r.toNat
 fl:s.fs.length=s0.fs.length+bs.length
 ol:s.os.length=s0.os.length+bs.length
theorem BOk.snoc{bs:List Bt}{p:Bt}(B:BOk x y z bs)(g0:0<=p.1)(g1:p.1<y)(h1:0<=p.2.1)(h2:p.2.1<=p.2.2)(h3:p.2.2<=x * z)(h4:p.2.2-p.2.1<=1000):BOk x y z (bs++[p]):=by
 refine⟨λq hq=>?_,λq hq=>?_,λq hq=>?_,λq hq=>?_,λq hq=>?_,λq hq=>?_⟩<;>(rcases z6K.mp hq with hq|hq)<;>first|exact B.h0 q hq|exact B.h1 q hq|exact B.b0 q hq|exact B.be q hq|exact B.ex q hq|exact B.sz q hq|(rw[z6J.mp hq];assumption)
theorem nmB_snoc{bs:List Bt}{p:Bt}:nmB y z (bs++[p])=nmB y z bs++nmL y z p.1 p.2.1 (p.2.2-p.2.1):=by
 unfold nmB
 rw[zbg]
 simp
theorem KP:∀{bs:List Bt} {s0:Pt},BOk x y z bs->0<=s0.r->PtOk x y z s0 (bs.foldl Pt.step s0) bs
 |[],s0,_,h0=>⟨h0,id,id,by simp[nmB],by simp[nmB],by simp,by simp⟩
 |p::bs,s0,B,h0=>by
  have g0:=B.h0 p z6U
  have g1:=B.h1 p z6U
  have b0:=B.b0 p z6U
  have be:=B.be p z6U
  have ex:=B.ex p z6U
  have sz:=B.sz p z6U
  have B':BOk x y z bs:=⟨λq hq=>B.h0 q (z6H _ hq),λq hq=>B.h1 q (z6H _ hq),λq hq=>B.b0 q (z6H _ hq),λq hq=>B.be q (z6H _ hq),λq hq=>B.ex q (z6H _ hq),λq hq=>B.sz q (z6H _ hq)⟩
  obtain⟨mm,hm⟩:∃mm,mm=if p.2.2<p.2.1+s0.r then p.2.2 else p.2.1+s0.r:=⟨_,rfl⟩
  have e1:s0.step p=⟨s0.r-(mm-p.2.1),s0.fs++[(p.1,p.2.1,mm)],s0.os++[(p.1,mm,p.2.2)]⟩:=by rw[hm];rfl
  have hm':(p.2.2<p.2.1+s0.r/\mm=p.2.2)\/(¬p.2.2<p.2.1+s0.r/\mm=p.2.1+s0.r):=by
   rw[hm];split
   ·exact .inl ⟨by assumption,rfl⟩
   ·exact .inr ⟨by assumption,rfl⟩
  have ih:=KP (bs:=bs) (s0:=s0.step p) B' (by rw[e1];show 0<=s0.r-(mm-p.2.1);omega)
  rw[e1] at ih
  obtain⟨i1,i2,i3,i4,i5,i6,i7⟩:=ih
  have split1:nmL y z p.1 p.2.1 (p.2.2-p.2.1)=nmL y z p.1 p.2.1 (mm-p.2.1)++nmL y z p.1 mm (p.2.2-mm):=by
   have:=UB (y:=y) (z:=z) (h:=p.1) (b:=p.2.1) (k1:=mm-p.2.1) (k2:=p.2.2-mm) (by omega) (by omega)
   rw[show mm-p.2.1+(p.2.2-mm)=p.2.2-p.2.1 by omega,show p.2.1+(mm-p.2.1)=mm by omega] at this
   exact this
  have hcons:nmB y z (p::bs)=nmL y z p.1 p.2.1 (p.2.2-p.2.1)++nmB y z bs:=by unfold nmB;rw[z8G]
  have cs:(nmL y z p.1 mm (p.2.2-mm)=[]/\(mm-p.2.1).toNat<=s0.r.toNat)\/s0.r.toNat=(mm-p.2.1).toNat:=by
   rcases hm' with⟨w1,w2⟩|⟨w1,w2⟩
   ·refine .inl ⟨?_,by omega⟩
    rw[w2,show p.2.2-p.2.2=0 by omega];exact QQ
   ·exact .inr (by omega)
  rw[List.foldl_cons,e1]
  refine⟨i1,λF=>i2 (F.snoc g0 g1 b0 (by show p.2.1<=mm;omega) (by show mm<=x * z;omega) (by show mm-p.2.1<=1000;omega)),λF=>i3 (F.snoc g0 g1 (by show 0<=mm;omega) (by show mm<=p.2.2;omega) ex (by show p.2.2-mm<=1000;omega)),?_,?_,by simp at i6 ⊢;omega,by simp at i7 ⊢;omega⟩
  ·have tk:=(ue (nmL y z p.1 p.2.1 (mm-p.2.1)) (nmL y z p.1 mm (p.2.2-mm)) (nmB y z bs) s0.r.toNat (mm-p.2.1).toNat wA cs).1
   rw[i4,nmB_snoc,hcons,split1,z7E (nmL y z p.1 p.2.1 (mm-p.2.1)),tk,←z7E]
   show nmB y z s0.fs++nmL y z p.1 p.2.1 (mm-p.2.1)++(nmB y z bs).take (s0.r-(mm-p.2.1)).toNat=_
   rw[show s0.r.toNat-(mm-p.2.1).toNat=(s0.r-(mm-p.2.1)).toNat by omega]
  ·have tk:=(ue (nmL y z p.1 p.2.1 (mm-p.2.1)) (nmL y z p.1 mm (p.2.2-mm)) (nmB y z bs) s0.r.toNat (mm-p.2.1).toNat wA cs).2
   rw[i5,nmB_snoc,hcons,split1,z7E (nmL y z p.1 p.2.1 (mm-p.2.1)),tk,←z7E]
   show nmB y z s0.os++nmL y z p.1 mm (p.2.2-mm)++(nmB y z bs).drop (s0.r-(mm-p.2.1)).toNat=_
   rw[show s0.r.toNat-(mm-p.2.1).toNat=(s0.r-(mm-p.2.1)).toNat by omega]
local macro_rules | `(tactic| walk_at "bat") => `(tactic| (refine ⟨rfl, ?_⟩; (try unfold qw); refine ⟨rfl, ?_⟩; refine ⟨_, _, rfl, by show (0 : Nat) < 900; decide, ?_⟩; refine ⟨_, _, rfl, by show (1 : Nat) < 900; decide, ?_⟩; refine ⟨_, _, rfl, by show (2 : Nat) < 900; decide, ?_⟩; refine ⟨rfl, _, rfl, rfl, ?_⟩))
theorem YT:∀{bs:List Bt},(bs.filterMap λp=>if p.2.1<p.2.2 then some (btT p) else none)=(bs.filter λp=>decide (p.2.1<p.2.2)).map btT
 |[]=>rfl
 |p::r=>by
  have ih:=YT (bs:=r)
  by_cases c:p.2.1<p.2.2
  ·rw[zag (b:=btT p) (by rw[if_pos c]),zaq (by simpa using c),z7g,ih]
  ·rw[zaf (by rw[if_neg c]),zar (by simpa using c),ih]
theorem KR:∀{bs:List Bt},(∀p∈bs,p.2.1<=p.2.2)->nmB y z (bs.filter λp=>decide (p.2.1<p.2.2))=nmB y z bs
 |[],_=>rfl
 |p::r,hb=>by
  have ih:=KR (bs:=r) λq hq=>hb q (z6H _ hq)
  have be:=hb p z6U
  by_cases c:p.2.1<p.2.2
  ·rw[zaq (by simpa using c)]
   unfold nmB at ih ⊢
   rw[z8G,z8G,ih]
  ·rw[zar (by simpa using c),ih]
   unfold nmB
   rw[z8G,show p.2.2-p.2.1=0 by omega,QQ,z9y]
theorem BOk.fil{bs:List Bt}(B:BOk x y z bs):BOk x y z (bs.filter λp=>decide (p.2.1<p.2.2)):=
 ⟨λp hp=>B.h0 p (z7d.mp hp).1,λp hp=>B.h1 p (z7d.mp hp).1,λp hp=>B.b0 p (z7d.mp hp).1,λp hp=>B.be p (z7d.mp hp).1,λp hp=>B.ex p (z7d.mp hp).1,λp hp=>B.sz p (z7d.mp hp).1⟩
theorem BOk.nil:BOk x y z []:=⟨by simp,by simp,by simp,by simp,by simp,by simp⟩
theorem JR{bs:List Bt}(hi:μ[i]?=some (.lst (bs.map btT)))(hl:bs.length<=1000)(k0:0<=k)(B:BOk x y z bs)
  (q:∀fs os μ' f1 f2,BOk x y z fs->BOk x y z os->nmB y z fs=(nmB y z bs).take k.toNat->nmB y z os=(nmB y z bs).drop k.toNat->fs.length<=bs.length->os.length<=bs.length->Ch [] μ μ'->μ.length<=f1->μ.length<=f2->f1≠f2->
   μ'[f1]?=some (.lst (fs.map btT))->μ'[f2]?=some (.lst (os.map btT))->K (.tup [.mut f1,.mut f2]) μ'):parted [.mut i,.int k] μ K Z:=by
 have hil:=(z6v.mp hi).1
 unfold parted
 refine⟨rfl,?_⟩
 refine⟨_,zf (zf hi),?_⟩
 refine j_ (λj τ μ'=>∃o5 o6,τ=[some (.mut i),some (.int k),some (.mut μ.length),some (.mut (μ++[MO.lst []]).length),some (.int ((bs.take j).foldl Pt.step ⟨k,[],[]⟩).r),o5,o6]/\μ'=μ++[.lst (((bs.take j).foldl Pt.step ⟨k,[],[]⟩).fs.map btT)]++[.lst (((bs.take j).foldl Pt.step ⟨k,[],[]⟩).os.map btT)]) ⟨none,none,rfl,rfl⟩ ?_ ?_ ?_
 ·rintro j t τ μ' hx ⟨o5,o6,rfl,rfl⟩ N hN
  rw[z78] at hx
  cases hqi:bs[j]? with
  |none=>rw[hqi] at hx;cases hx
  |some p=>
   rw[hqi] at hx
   cases hx
   have et:bs.take (j+1)=bs.take j++[p]:=by rw[zc4,hqi];rfl
   have hjl:j<bs.length:=(z6v.mp hqi).1
   have B1:BOk x y z (bs.take j):=⟨λp hp=>B.h0 p (z7l hp),λp hp=>B.h1 p (z7l hp),λp hp=>B.b0 p (z7l hp),λp hp=>B.be p (z7l hp),λp hp=>B.ex p (z7l hp),λp hp=>B.sz p (z7l hp)⟩
   have P:=KP (x:=x) (y:=y) (z:=z) (s0:=⟨k,[],[]⟩) B1 k0
   generalize hS:(bs.take j).foldl Pt.step ⟨k,[],[]⟩=S at P ⊢
   have P1:=P.fl
   have P2:=P.ol
   simp only[z7s,zdD,z8m] at P1 P2
   have hS2:(bs.take (j+1)).foldl Pt.step ⟨k,[],[]⟩=S.step p:=by rw[et,List.foldl_append,hS];rfl
   refine⟨_,rfl,?_⟩
   have l1:(μ++[MO.lst []]).length=(μ++[MO.lst (S.fs.map btT)]).length:=by simp
   refine⟨⟨_,zf zm⟩,?_⟩
   walk_at "bat"
   refine⟨_,zf zm,by rw[z6Q];unfold room;omega,?_⟩
   rw[z5f]
   have g2:(μ++[MO.lst (S.fs.map btT++[yZ p.1 p.2.1 (if p.2.2<p.2.1+S.r then p.2.2 else p.2.1+S.r)])]++[MO.lst (S.os.map btT)])[(μ++[MO.lst []]).length]?=some (MO.lst (S.os.map btT)):=by
    have:(μ++[MO.lst []]).length=(μ++[MO.lst (S.fs.map btT++[yZ p.1 p.2.1 (if p.2.2<p.2.1+S.r then p.2.2 else p.2.1+S.r)])]).length:=by simp
    rw[this];exact zm
   refine⟨⟨_,g2⟩,?_⟩
   walk_at "bat"
   refine⟨_,g2,by rw[z6Q];unfold room;omega,?_⟩
   refine hN _ _ ⟨some (btT p),some (.int (if p.2.2<p.2.1+S.r then p.2.2 else p.2.1+S.r)),?_,?_⟩
   ·rw[hS2];rfl
   ·show (μ++[MO.lst (S.fs.map btT++[yZ p.1 p.2.1 (if p.2.2<p.2.1+S.r then p.2.2 else p.2.1+S.r)])]++[MO.lst (S.os.map btT)]).set (μ++[MO.lst []]).length (MO.lst (S.os.map btT++[yZ p.1 (if p.2.2<p.2.1+S.r then p.2.2 else p.2.1+S.r) p.2.2]))=_
    have:(μ++[MO.lst []]).length=(μ++[MO.lst (S.fs.map btT++[yZ p.1 p.2.1 (if p.2.2<p.2.1+S.r then p.2.2 else p.2.1+S.r)])]).length:=by simp
    rw[this,z4H,hS2]
    show _=μ++[MO.lst ((S.fs++[(p.1,p.2.1,if p.2.2<p.2.1+S.r then p.2.2 else p.2.1+S.r)]).map btT)]++[MO.lst ((S.os++[(p.1,if p.2.2<p.2.1+S.r then p.2.2 else p.2.1+S.r,p.2.2)]).map btT)]
    rw[z7j,z7j]
    rfl
 ·rintro τ μ' ⟨o5,o6,rfl,rfl⟩
  rw[z6Q,z7V (z6E _)]
  have P:=KP (x:=x) (y:=y) (z:=z) (s0:=⟨k,[],[]⟩) B k0
  generalize bs.foldl Pt.step ⟨k,[],[]⟩=S at P ⊢
  have P1:=P.fl
  have P2:=P.ol
  simp only[z7s,zdD] at P1 P2
  have le:(μ++[MO.lst []]).length=(μ++[MO.lst (S.fs.map btT)]).length:=by simp
  have fo:=P.fo BOk.nil
  have oo:=P.oo BOk.nil
  have fn:nmB y z S.fs=(nmB y z bs).take k.toNat:=by have:=P.fn;simpa[nmB] using this
  have on:nmB y z S.os=(nmB y z bs).drop k.toNat:=by have:=P.on;simpa[nmB] using this
  have g2:(μ++[MO.lst (S.fs.map btT)]++[MO.lst (S.os.map btT)])[(μ++[MO.lst []]).length]?=some (MO.lst (S.os.map btT)):=by rw[le];exact zm
  refine⟨_,g2,?_⟩
  refine⟨by rw[z6Q];unfold room;omega,?_⟩
  refine vQ btT (λp=>if p.2.1<p.2.2 then some (btT p) else none) (λp hp kk hkk=>⟨_,rfl,?_⟩) ?_ g2
  ·refine zL (λc=>?_) (λc=>?_)
   ·rw[if_pos c] at hkk;exact hkk
   ·rw[if_neg c] at hkk;exact hkk
  ·rw[YT]
   have ll:(μ++[MO.lst (S.fs.map btT)]++[MO.lst (S.os.map btT)]).length=μ.length+2:=by simp
   refine q S.fs (S.os.filter λp=>decide (p.2.1<p.2.2)) _ _ _ fo oo.fil fn ?_ (by omega) ?_ ⟨by simp,λj hj _=>?_⟩ (z6E _) (by omega) (by omega) (zf (zf zm)) ?_
   ·rw[KR oo.be];exact on
   ·have:=List.length_filter_le (λp:Bt=>decide (p.2.1<p.2.2)) S.os;omega
   ·rw[z6B (by simp;omega),z6B (by simp;omega),z6B (by omega)]
   ·rw[ll]
    have:=zm (μ:=μ++[MO.lst (S.fs.map btT)]++[MO.lst (S.os.map btT)]) (x:=MO.lst ((S.os.filter λp=>decide (p.2.1<p.2.2)).map btT))
    rw[ll] at this
    exact this
 ·rintro j τ μ' ⟨o5,o6,rfl,rfl⟩
  exact zf (zf hi)
theorem take_sp{bs:List Bt}(s:Hz x y z)(hb:x * z<1000000000000000000000000000000000000000000000000000000000000)(ho:μ[i]?=some (hsO (shp x y z) ah sd kp l m n (.mut bi) false))(hbi:μ[bi]?=some (.lst (bs.map btT)))(hl:bs.length<=1000)(B:BOk x y z bs)(hn:(nmB y z bs).length<=100000)(k1:1<=k)
  (q1:((nmB y z bs).length:Int)<k->Z 22 [] μ)
  (q2:k<=((nmB y z bs).length:Int)->∀os μ' j f2,BOk x y z os->nmB y z os=(nmB y z bs).drop k.toNat->os.length<=bs.length->Ch [i] μ μ'->μ.length<=j->μ.length<=f2->j≠f2->μ'[i]?=some (hsO (shp x y z) ah sd kp l m n (.mut f2) false)->μ'[f2]?=some (.lst (os.map btT))->μ'[j]?=some (.lst (((nmB y z bs).take k.toNat).map T.int))->K (.mut j) μ') :
  qv [.mut i,.int k] μ K Z:=by
 have hil:=(z6v.mp ho).1
 unfold qv
 refine⟨rfl,?_⟩
 refine⟨_,ho,?_⟩
 refine wB ho ?_
 refine qN ?_
 rw[decide_eq_true k1]
 refine⟨_,_,_,ho,rfl,?_⟩
 refine size_of_sp (y:=y) (z:=z) hbi hl B.be ?_
 refine zL (λe=>?_) (λe=>?_)
 ·exact⟨by show (1:Nat)<=room;decide,q1 e⟩
 ·refine⟨_,_,_,ho,rfl,?_⟩
  refine JR (y:=y) hbi hl (by omega) B λfs os μ1 f1 f2 Bf Bo fn on fl ol ch1 l1 l2 ne g1 g2=>?_
  have ho1:=ch1.get ho (by simp)
  refine⟨_,rfl,?_⟩
  refine⟨_,_,ho1,by show (9:Nat)<900;decide,?_⟩
  have ho2:=get_set (y:=hsO (shp x y z) ah sd kp l m n (.mut f2) false) ho1
  have ch2:Ch [i] μ (μ1.set i (hsO (shp x y z) ah sd kp l m n (.mut f2) false)):=(ch1.mono (by simp)).trans Ch.set
  have ne1:f1≠i:=by omega
  have ne2:f2≠i:=by omega
  have g1':(μ1.set i (hsO (shp x y z) ah sd kp l m n (.mut f2) false))[f1]?=some (.lst (fs.map btT)):=by rw[z6D (z6Z ne1)];exact g1
  have g2':(μ1.set i (hsO (shp x y z) ah sd kp l m n (.mut f2) false))[f2]?=some (.lst (os.map btT)):=by rw[z6D (z6Z ne2)];exact g2
  generalize hμ:μ1.set i (hsO (shp x y z) ah sd kp l m n (.mut f2) false)=μ3 at ho2 ch2 g1' g2'
  have hμ':μ1.set i (.obj 45 (JT 19 (.mut f2) (hsF (shp x y z) ah sd kp l m n (.mut bi) false)))=μ3:=hμ
  have step:qd (ve.drop 5) [some (.mut i),some (.int k),some (.tup [.mut f1,.mut f2]),none,none] μ3 (En.fn K Z):=by
   refine⟨_,rfl,?_⟩
   refine⟨_,zf g1',?_⟩
   have hf1:=(z6v.mp g1').1
   have hf2:=(z6v.mp g2').1
   have hi3:=(z6v.mp ho2).1
   refine j_ (λj τ μ'=>∃o4,τ=[some (.mut i),some (.int k),some (.tup [.mut f1,.mut f2]),some (.mut μ3.length),o4]/\Ch [] μ3 μ'/\μ'[μ3.length]?=some (.lst ((nmB y z (fs.take j)).map T.int))) ⟨none,rfl,Ch.app,zm⟩ ?_ ?_ ?_
   ·rintro j t τ μ' hx ⟨o4,rfl,ch,gn⟩ N hN
    rw[z78] at hx
    cases hqi:fs[j]? with
    |none=>rw[hqi] at hx;cases hx
    |some p=>
     rw[hqi] at hx
     cases hx
     have hp:p∈fs:=z6M hqi
     have et:fs.take (j+1)=fs.take j++[p]:=by rw[zc4,hqi];rfl
     refine⟨_,rfl,?_⟩
     refine⟨⟨_,gn⟩,?_⟩
     refine⟨_,_,_,ch.get ho2 (by simp),rfl,?_⟩
     refine kX s hb (Bf.b0 p hp) (Bf.be p hp) (Bf.sz p hp) (Bf.ex p hp) (Bf.h0 p hp) (Bf.h1 p hp) ?_
     have ln:μ3.length<μ'.length:=(z6v.mp gn).1
     have small:((nmB y z (fs.take j)).map T.int).length+((nmL y z p.1 p.2.1 (p.2.2-p.2.1)).map T.int).length<=room:=by
      rw[z6Q,z6Q]
      have e1:nmB y z fs=nmB y z (fs.take (j+1))++nmB y z (fs.drop (j+1)):=by
       unfold nmB
       rw[←zbg,z8C]
      have e2:(nmB y z fs).length<=(nmB y z bs).length:=by rw[fn];exact List.length_take_le' _ _
      rw[e1,et,nmB_snoc,z72,z72] at e2
      unfold room
      omega
     refine⟨_,_,zf gn,.inr ⟨_,rfl,by omega,zm⟩,small,?_⟩
     refine hN _ _ ⟨_,rfl,?_,?_⟩
     ·exact (Ch.ge (Ch.ge ch Ch.app (by simp)) Ch.set (by simp))
     ·rw[et,nmB_snoc,z7j]
      exact get_set (zf gn)
   ·rintro τ μ' ⟨o4,rfl,ch,gn⟩
    rw[z6Q,z7V (z6E _),fn] at gn
    refine q2 (by omega) os μ' _ f2 Bo on ol (ch2.trans (ch.mono (by simp))) ?_ l2 (by omega) (ch.get ho2 (by simp)) (ch.get g2' (by simp)) gn
    exact ch2.len
   ·rintro j τ μ' ⟨o4,rfl,ch,gn⟩
    exact ch.get g1' (by simp)
  rw[←hμ'] at step
  exact step
end
end X
end NH.P
namespace NH.P
open PySem L2 NH
section
variable {μ μ1 μ2:Mem}{K:T->Mem->Prop}{Z:Xp}{x y z:Int}{i bi ci ni di:Nat}{sh kp bt kt:T}{ah sd:Int}{l l':Option Ls}{m m' n g:Option Int}{a:Ls}{r k h t:Int}{cs:List T}{bs:List X.Bt}
theorem z0p(s:Hz x y z)(hb:x * z<1000000000000000000000000000000000000000000000000000000000000)(ok:LsOk x y a)(hk:vy kp ci)(ho:μ[i]?=some (hsO (shp x y z) ah sd kp (some a) m n bt false))(hc:μ[ci]?=some (.lst cs))(hcl:cs.length<=1000)(hn:∀k,n=some k->0<=k/\k<x * y * z)(k1:1<=k)(k2:k<=z)(k3:k<=1000)
  (q1:a.2.2 * z<zd y z a n m r+k->Z 18 [] μ)
  (q2:zd y z a n m r+k<=a.2.2 * z->0<byP z r ah (zd y z a n m r+k)->(byP z r ah (zd y z a n m r+k)).natAbs.log2<1920/\Z 21 [(29,.int (byP z r ah (zd y z a n m r+k)))] μ)
  (q3:zd y z a n m r+k<=a.2.2 * z->byP z r ah (zd y z a n m r+k)<=0->∀μ' μ'' j b',HoJ μ μ' i ci kp x y z ah sd a m n (zd y z a n m r) k bt cs->Ch [i] μ' μ''->μ.length<=j->μ.length<=b'->j≠b'->μ''[i]?=some (hsO (shp x y z) ah sd kp (some a) (some (mbI x sd m ((zd y z a n m r+k-1) / z))) (some (nmA y z a.1 (zd y z a n m r+k-1))) (.mut b') false)->μ''[b']?=some (.lst [])->μ''[j]?=some (.lst ((nmL y z a.1 (zd y z a n m r) k).map T.int))->K (.mut j) μ'') :
  qh [.mut i,.int r,.int k] μ K Z:=by
 obtain⟨x1,y1,y2,z1,z2⟩:=id s
 have hil:=(z6v.mp ho).1
 have b0:=jX (n:=n) (m:=m) (r:=r) s ok
 have ux:a.2.2 * z<=x * z:=z6P ok.ux (by omega)
 unfold qh
 refine⟨rfl,?_⟩
 refine⟨_,ho,?_⟩
 refine QF s ok hk ho hc hcl hn k1 k2 q1 q2 λe1 e2 μ' P=>?_
 refine⟨_,_,zf P.ho,by show (9:Nat)<900;decide,?_⟩
 refine⟨_,_,_,get_set (zf P.ho),rfl,?_⟩
 have ln:=P.ln
 refine kX s hb b0 (by omega) (by omega) (by omega) ok.h0 ok.h1 ?_
 rw[show zd y z a n m r+k-zd y z a n m r=k by omega]
 refine q3 e1 e2 μ' _ _ _ P (((Ch.app.mono (by simp)).trans Ch.set).trans (Ch.app.mono (by simp))) (by simp;omega) (by omega) (by simp) (zf (get_set (zf P.ho))) ?_ zm
 refine zf ?_
 rw[z6D (by omega)]
 exact zm
theorem Ko(s:Hz x y z)(ok:LsOk x y a)(hk:vy kp ci)(ho:μ[i]?=some (hsO (shp x y z) ah sd kp (some a) m n (.mut bi) false))(hc:μ[ci]?=some (.lst cs))(hbi:μ[bi]?=some (.lst (bs.map X.btT)))(nb:bi≠ci)(hl:bs.length<=900)(hbe:∀p∈bs,p.2.1<=p.2.2)(hcl:cs.length<=1000)(hn:∀k,n=some k->0<=k/\k<x * y * z)(k1:1<=k)(k2:k<=z)
  (q1:a.2.2 * z<zd y z a n m r+k->Z 18 [] μ)
  (q2:zd y z a n m r+k<=a.2.2 * z->0<byP z r ah (zd y z a n m r+k)->(byP z r ah (zd y z a n m r+k)).natAbs.log2<1920/\Z 21 [(29,.int (byP z r ah (zd y z a n m r+k)))] μ)
  (q3:zd y z a n m r+k<=a.2.2 * z->byP z r ah (zd y z a n m r+k)<=0->∀μ' μ'',HoJ μ μ' i ci kp x y z ah sd a m n (zd y z a n m r) k (.mut bi) cs->Ch [bi] μ' μ''->μ''[i]?=some (hsO (shp x y z) ah sd kp (some a) (some (mbI x sd m ((zd y z a n m r+k-1) / z))) (some (nmA y z a.1 (zd y z a n m r+k-1))) (.mut bi) false)->μ''[bi]?=some (.lst ((bs++[(a.1,zd y z a n m r,zd y z a n m r+k)]).map X.btT))->K (.int ((X.nmB y z (bs++[(a.1,zd y z a n m r,zd y z a n m r+k)])).length:Int)) μ''):zV [.mut i,.int r,.int k] μ K Z:=by
 have ne:bi≠i:=λw=>by rw[w,ho] at hbi;cases hbi
 unfold zV
 refine⟨rfl,?_⟩
 refine⟨_,ho,?_⟩
 refine QF s ok hk ho hc hcl hn k1 k2 q1 q2 λe1 e2 μ' P=>?_
 generalize zd y z a n m r=B at *
 have gb:=P.ch.get hbi (by simp[ne,nb])
 refine⟨_,_,_,P.ho,rfl,?_⟩
 refine⟨⟨_,gb⟩,_,gb,by rw[z6Q];unfold room;omega,?_⟩
 have h2:(μ'.set bi (.lst (bs.map X.btT++[yZ a.1 B (B+k)])))[i]?=some (hsO (shp x y z) ah sd kp (some a) (some (mbI x sd m ((B+k-1) / z))) (some (nmA y z a.1 (B+k-1))) (.mut bi) false):=by rw[z6D ne];exact P.ho
 have gb2:(μ'.set bi (.lst (bs.map X.btT++[yZ a.1 B (B+k)])))[bi]?=some (.lst ((bs++[(a.1,B,B+k)]).map X.btT)):=by
  rw[get_set gb,z7j];rfl
 refine⟨_,_,_,h2,rfl,?_⟩
 refine X.size_of_sp (y:=y) (z:=z) gb2 (by simp;omega) (λp hp=>?_) ?_
 ·rcases z6K.mp hp with hp|hp
  ·exact hbe p hp
  ·rw[z6J.mp hp];show B<=B+k;omega
 ·exact q3 e1 e2 _ _ P Ch.set h2 gb2
theorem Uh(s:Hz x y z)(hk:vy kp ci)(ho:μ[i]?=some (hsO (shp x y z) ah sd kp (some a) m n bt false))(hc:μ[ci]?=some (.lst cs))(hcl:cs.length<=1000)(hn:∀k,n=some k->0<=k/\k<x * y * z)
  (q:∀μ' μ'' b',KpJ μ μ' i ci kp (shp x y z) ah sd (some a) none m m n bt cs->Ch [i] μ' μ''->μ.length<=b'->μ''[i]?=some (hsO (shp x y z) ah sd kp none m n (.mut b') false)->μ''[b']?=some (.lst [])->K (.tup [lsT (some a),opT (yH a.2.1 a.2.2 (vN y z n m))]) μ''):zR [.mut i] μ K Z:=by
 have hil:=(z6v.mp ho).1
 unfold zR
 refine⟨rfl,?_⟩
 refine⟨_,ho,?_⟩
 refine wB ho ?_
 refine⟨_,ho,?_⟩
 unfold zE
 refine⟨rfl,?_⟩
 refine⟨_,_,_,ho,rfl,?_⟩
 refine⟨_,_,_,ho,rfl,?_⟩
 refine⟨_,_,_,ho,rfl,?_⟩
 refine⟨_,ho,?_⟩
 refine yr s ho hn ?_
 refine Vb ?_
 refine⟨_,ho,?_⟩
 refine⟨_,_,_,ho,rfl,?_⟩
 refine kJ (l':=none) hk ho hc hcl λμ' P=>?_
 have ln:=P.ln
 refine⟨_,_,zf P.ho,by show (9:Nat)<900;decide,?_⟩
 refine q μ' _ μ'.length P ((Ch.app.mono (by simp)).trans Ch.set) (by omega) (get_set (zf P.ho)) ?_
 rw[z6D (by omega)]
 exact zm
end
section
variable {μ μ1 μ2:Mem}{K:T->Mem->Prop}{Z:Xp}{x y z:Int}{i bi ci ni di:Nat}{sh kp bt kt:T}{ah sd:Int}{l l':Option Ls}{m m' n g:Option Int}{a:Ls}{r k h t:Int}{cs:List T}{bs:List X.Bt}
theorem XH(s:Hz x y z)(hd:μ[di]?=some (stD (some a) m g n kt ni))(hc:μ[ni]?=some (.lst cs))(hcl:cs.length<=1000)
  (q:∀μ',Ch [di,ni] μ μ'->μ'.length=μ.length->μ'[di]?=some (stD none m g n (.lst []) ni)->μ'[ni]?=some (.lst (cs++[zK none m]))->K (.tup [lsT (some a),opT (yH a.2.1 a.2.2 (vN y z n g))]) μ'):jL [.mut di,shT x y z] μ K Z:=by
 have nd:ni≠di:=λw=>by rw[w,hd] at hc;cases hc
 have fin:∀(o:Option Int) (u:T) (τ:Sl),τ=[some (.mut di),some (shT x y z),some (lsT (some a)),some (opT o),some u]->u=opT (yH a.2.1 a.2.2 o)->o=vN y z n g->qd (vq.drop 6) τ μ (En.fn K Z):=by
  intro o u τ e eu eo
  subst e eu
  refine⟨_,_,hd,rfl,?_⟩
  refine vW (l':=none) (m':=m) hd hc hcl λμ' N=>?_
  refine⟨_,N.hd,by show (6:Nat)<room;decide,?_⟩
  subst eo
  refine q _ (N.ch.trans (Ch.set.mono (by simp))) (by simp[N.ln]) (get_set N.hd) ?_
  rw[z6D (z6Z nd)]
  have:=N.hc
  rw[if_neg (by simp)] at this
  exact this
 have mid:∀(o:Option Int) (τ:Sl),τ=[some (.mut di),some (shT x y z),some (lsT (some a)),some (opT o),none]->o=vN y z n g->qd (vq.drop 4) τ μ (En.fn K Z):=by
  intro o τ e eo
  subst e
  cases o with
  |none=>exact fin none .non _ rfl rfl eo
  |some v=>
   refine⟨_,rfl,?_⟩
   refine zL (λe=>?_) (λe=>?_)
   ·refine⟨_,rfl,?_⟩
    exact fin (some v) (.int (if a.2.2-1<v then a.2.2-1 else v)) _ rfl (by rw[show yH a.2.1 a.2.2 (some v)=some (if a.2.2-1<v then a.2.2-1 else v) from if_neg (by omega)];rfl) eo
   ·exact fin (some v) .non _ rfl (by rw[show yH a.2.1 a.2.2 (some v)=none from if_pos (by omega)];rfl) eo
 unfold jL
 refine⟨rfl,?_⟩
 refine⟨_,_,hd,rfl,?_⟩
 refine⟨_,_,hd,rfl,?_⟩
 refine⟨_,_,hd,rfl,?_⟩
 refine⟨_,_,hd,rfl,?_⟩
 cases n with
 |none=>exact mid g _ rfl rfl
 |some w=>
  refine⟨_,_,hd,rfl,?_⟩
  refine vK s ?_
  refine⟨_,rfl,?_⟩
  exact mid (some (w / z / y)) _ rfl rfl
end
section
variable {μ μ1 μ2:Mem}{K:T->Mem->Prop}{Z:Xp}{x y z:Int}{i bi ci ni di:Nat}{sh kp bt kt:T}{ah sd:Int}{l l':Option Ls}{m m' n g:Option Int}{a:Ls}{r k h t:Int}{cs:List T}{bs:List X.Bt}
noncomputable def Zh (K:T->Mem->Prop):Xp:=λc fs μ=>(c=18/\fs=[]/\K (.str "lease") μ)\/(c=21/\(∃v,fs=[(29,.int v)]/\K (.tup [.str "wait",.int v]) μ))\/(c=22/\fs=[]/\K (.str "empty") μ)
theorem z21(ho:μ[i]?=some (hsO sh ah sd kp l m n bt false))(h:∀(K':T->Mem->Prop) (Z':Xp),(∀t μ',K t μ'->K' t μ')->(∀c fs μ',Zh K c fs μ'->Z' c fs μ')->qh [.mut i,.int r,.int k] μ K' Z'):qk [.int 0,.mut i,.int r,.int k] μ K Z:=by
 unfold qk
 refine⟨rfl,?_⟩
 refine⟨_,ho,?_⟩
 refine h _ _ (λt μ' q=>q) λc fs μ' w=>?_
 rcases w with⟨rfl,rfl,q⟩|⟨rfl,v,rfl,q⟩|⟨rfl,rfl,q⟩
 ·exact q
 ·exact⟨rfl,q⟩
 ·exact q
theorem z3U(ho:μ[i]?=some (hsO sh ah sd kp l m n bt false))(h:∀(K':T->Mem->Prop) (Z':Xp),(∀t μ',K t μ'->K' t μ')->(∀c fs μ',Zh K c fs μ'->Z' c fs μ')->zV [.mut i,.int r,.int k] μ K' Z'):qk [.int 1,.mut i,.int r,.int k] μ K Z:=by
 unfold qk
 refine⟨rfl,?_⟩
 refine⟨_,ho,?_⟩
 refine h _ _ (λt μ' q=>q) λc fs μ' w=>?_
 rcases w with⟨rfl,rfl,q⟩|⟨rfl,v,rfl,q⟩|⟨rfl,rfl,q⟩
 ·exact q
 ·exact⟨rfl,q⟩
 ·exact q
theorem z43(ho:μ[i]?=some (hsO sh ah sd kp l m n bt false))(h:∀(K':T->Mem->Prop) (Z':Xp),(∀t μ',K t μ'->K' t μ')->(∀c fs μ',Zh K c fs μ'->Z' c fs μ')->qv [.mut i,.int k] μ K' Z'):qk [.int 2,.mut i,.int r,.int k] μ K Z:=by
 unfold qk
 refine⟨rfl,?_⟩
 refine⟨_,ho,?_⟩
 refine h _ _ (λt μ' q=>q) λc fs μ' w=>?_
 rcases w with⟨rfl,rfl,q⟩|⟨rfl,v,rfl,q⟩|⟨rfl,rfl,q⟩
 ·exact q
 ·exact⟨rfl,q⟩
 ·exact q
theorem z1R(ho:μ[i]?=some (hsO sh ah sd kp l m n bt false))(h:∀(K':T->Mem->Prop) (Z':Xp),(∀t μ',K t μ'->K' t μ')->(∀c fs μ',Zh K c fs μ'->Z' c fs μ')->zR [.mut i] μ K' Z'):qk [.int 3,.mut i,.int r,.int k] μ K Z:=by
 unfold qk
 refine⟨rfl,?_⟩
 refine⟨_,ho,?_⟩
 refine h _ _ (λt μ' q=>q) λc fs μ' w=>?_
 rcases w with⟨rfl,rfl,q⟩|⟨rfl,v,rfl,q⟩|⟨rfl,rfl,q⟩
 ·exact q
 ·exact⟨rfl,q⟩
 ·exact q
theorem z5e(s:Hz x y z)(hd:μ[di]?=some (stD (some a) m g n kt ni))(hc:μ[ni]?=some (.lst cs))(hcl:cs.length<=1000)
  (q:∀μ',Ch [di,ni] μ μ'->μ'.length=μ.length->μ'[di]?=some (stD none m g n (.lst []) ni)->μ'[ni]?=some (.lst (cs++[zK none m]))->K (.tup [lsT (some a),opT (yH a.2.1 a.2.2 (vN y z n g))]) μ'):zQ [.int 3,.mut di,shT x y z,.int ah,.int sd,.int r,.int k] μ K Z:=by
 unfold zQ
 refine⟨rfl,?_⟩
 refine XH s hd hc hcl λμ' c1 c2 c3 c4=>?_
 exact q μ' c1 c2 c3 c4
theorem z1s{ks:List T}(hd:μ[di]?=some (stD l m g n (.lst ks) ni))(hk:ks.length<=100000)(k1:1<=k)
  (q1:(ks.length:Int)<k->K (.str "empty") μ)
  (q2:k<=(ks.length:Int)->∀μ',Ch [di] μ μ'->μ'.length=μ.length->μ'[di]?=some (stD l m g n (.lst (ks.drop k.toNat)) ni)->K (.lst (ks.take k.toNat)) μ'):zQ [.int 2,.mut di,sh,.int ah,.int sd,.int r,.int k] μ K Z:=by
 unfold zQ
 refine⟨rfl,?_⟩
 refine⟨_,_,hd,rfl,?_⟩
 refine zL (λe=>?_) (λe=>?_)
 ·exact q1 e
 ·refine⟨_,_,hd,rfl,?_⟩
  refine⟨_,_,hd,rfl,?_⟩
  refine⟨_,hd,by show (6:Nat)<room;decide,?_⟩
  have e1:xy ks none (some k)=ks.take k.toNat:=by
   have w:WH ks.length ks.length (some k)=k.toNat:=by
    show (if k<0 then (k+(ks.length:Int)).toNat else min k.toNat ks.length)=_
    rw[if_neg (by omega)];omega
   unfold xy
   rw[w]
   show (ks.drop 0).take (k.toNat-0)=_
   rfl
  have e2:xy ks (some k) none=ks.drop k.toNat:=by
   have w:WH ks.length 0 (some k)=k.toNat:=by
    show (if k<0 then (k+(ks.length:Int)).toNat else min k.toNat ks.length)=_
    rw[if_neg (by omega)];omega
   unfold xy
   rw[w]
   show (ks.drop k.toNat).take (ks.length-k.toNat)=_
   rw[z7V (by rw[z8Q];exact z6E _)]
  have:=q2 (by omega) (μ.set di (stD l m g n (.lst (ks.drop k.toNat)) ni)) Ch.set (by simp) (get_set hd)
  rw[←e1,←e2] at this
  exact this
theorem XY(s:Hz x y z)(ok:LsOk x y a)(hd:μ[di]?=some (stD (some a) m g n kt ni))(hc:μ[ni]?=some (.lst cs))(hcl:cs.length<=1000)(hn:∀k,n=some k->0<=k/\k<x * y * z)(hg:∀v,g=some v->0<=v/\v<x)(k1:1<=k)(k2:k<=1000)
  (q1:a.2.2 * z<zd y z a n g r+k->∀μ',Ch [] μ μ'->K (.str "lease") μ')
  (q2:zd y z a n g r+k<=a.2.2 * z->0<byP z r ah (zd y z a n g r+k)->∀μ',Ch [] μ μ'->K (.tup [.str "wait",.int (byP z r ah (zd y z a n g r+k))]) μ')
  (q3:zd y z a n g r+k<=a.2.2 * z->byP z r ah (zd y z a n g r+k)<=0->∀μ' j,Rd μ μ' di ni j x y z sd a m g (zd y z a n g r) k (.lst []) cs->K (.mut j) μ') :
  zQ [.int 0,.mut di,shT x y z,.int ah,.int sd,.int r,.int k] μ K Z:=by
 have d1:=(z6v.mp hd).1
 have nd:ni≠di:=λw=>by rw[w,hd] at hc;cases hc
 unfold zQ
 refine⟨rfl,?_⟩
 refine Qq s ok hd hc hcl hn hg k1 k2 (λe μ' c=>?_) (λe1 e2 μ' c=>?_) (λe1 e2 μ' j R=>?_)
 ·exact q1 e μ' c
 ·exact q2 e1 e2 μ' c
 ·have jl:=R.jl
  have jd:j≠di:=by omega
  refine⟨_,R.hj,?_⟩
  refine⟨_,R.hd,by show (6:Nat)<room;decide,?_⟩
  refine q3 e1 e2 _ j ⟨R.ch.trans (Ch.set.mono (by simp)),jl,?_,get_set R.hd,?_⟩
  ·rw[z6D (z6Z jd)];exact R.hj
  ·rw[z6D (z6Z nd)];exact R.hc
end
section
variable {μ μ1 μ2:Mem}{K:T->Mem->Prop}{Z:Xp}{x y z:Int}{i bi ci ni di:Nat}{sh kp bt kt:T}{ah sd:Int}{l l':Option Ls}{m m' n g:Option Int}{a:Ls}{r k h t:Int}{cs ks:List T}{bs:List X.Bt}
theorem Xw(s:Hz x y z)(ok:LsOk x y a)(hd:μ[di]?=some (stD (some a) m g n (.lst ks) ni))(hkl:ks.length<=100000)(hc:μ[ni]?=some (.lst cs))(hcl:cs.length<=1000)(hn:∀k,n=some k->0<=k/\k<x * y * z)(hg:∀v,g=some v->0<=v/\v<x)(k1:1<=k)(k2:k<=1000)
  (q1:a.2.2 * z<zd y z a n g r+k->∀μ',Ch [] μ μ'->K (.str "lease") μ')
  (q2:zd y z a n g r+k<=a.2.2 * z->0<byP z r ah (zd y z a n g r+k)->∀μ',Ch [] μ μ'->K (.tup [.str "wait",.int (byP z r ah (zd y z a n g r+k))]) μ')
  (q3:zd y z a n g r+k<=a.2.2 * z->byP z r ah (zd y z a n g r+k)<=0->∀μ' j,Rd μ μ' di ni j x y z sd a m g (zd y z a n g r) k (.lst (ks++(nmL y z a.1 (zd y z a n g r) k).map T.int)) cs->K (.int ((ks++(nmL y z a.1 (zd y z a n g r) k).map T.int).length:Int)) μ') :
  zQ [.int 1,.mut di,shT x y z,.int ah,.int sd,.int r,.int k] μ K Z:=by
 have d1:=(z6v.mp hd).1
 have nd:ni≠di:=λw=>by rw[w,hd] at hc;cases hc
 unfold zQ
 refine⟨rfl,?_⟩
 refine Qq s ok hd hc hcl hn hg k1 k2 (λe μ' c=>?_) (λe1 e2 μ' c=>?_) (λe1 e2 μ' j R=>?_)
 ·exact q1 e μ' c
 ·exact q2 e1 e2 μ' c
 ·have jl:=R.jl
  have jd:j≠di:=by omega
  have nl:(nmL y z a.1 (zd y z a n g r) k).length=k.toNat:=wA
  refine⟨_,R.hj,?_⟩
  refine⟨_,_,R.hd,rfl,?_⟩
  refine⟨_,R.hj,?_⟩
  refine⟨by rw[z6Q,nl];unfold room;omega,?_⟩
  refine⟨_,R.hd,by show (6:Nat)<room;decide,?_⟩
  refine⟨_,_,get_set R.hd,rfl,?_⟩
  refine q3 e1 e2 _ j ⟨R.ch.trans (Ch.set.mono (by simp)),jl,?_,get_set R.hd,?_⟩
  ·rw[z6D (z6Z jd)];exact R.hj
  ·rw[z6D (z6Z nd)];exact R.hc
end
section
variable {μ μ1 μ2:Mem}{K:T->Mem->Prop}{Z:Xp}{x y z:Int}{i j bi ci ni di:Nat}{sh kp bt kt:T}{ah sd:Int}{l l':Option Ls}{m m' n g:Option Int}{a:Ls}{r k h t:Int}{cs ks:List T}{bs:List X.Bt}
noncomputable def Ag (s t:T)(μ:Mem):Prop:=∀(kk:Bool->RE T) (K:T->Mem->Prop) (Z:Xp),kk true K Z->eqW s t μ kk K Z
theorem Vp{w:Str}:Ag (.str w) (.str w) μ:=λkk K Z h=>by
 have e:scT (.str w) (.str w)=some true:=by simp[scT]
 show (match scT (.str w) (.str w) with|some b=>kk b|none=>RE.st) K Z
 rw[e]
 exact h
theorem z2b{v:Int}:Ag (.int v) (.int v) μ:=λkk K Z h=>by
 have e:scT (.int v) (.int v)=some true:=by simp[scT]
 show (match scT (.int v) (.int v) with|some b=>kk b|none=>RE.st) K Z
 rw[e]
 exact h
theorem J6{w:Str}{v:Int}:Ag (.tup [.str w,.int v]) (.tup [.str w,.int v]) μ:=λkk K Z h=>
 ⟨by simp[qi,qX],true,by simp[eqL,eqT],h⟩
theorem z0v{u:Option Int}:Ag (.tup [lsT l,opT u]) (.tup [lsT l,opT u]) μ:=λkk K Z h=>
 ⟨yv,true,by rw[xN];simp,h⟩
theorem z3L{zs:List Int}(h1:μ[i]?=some (.lst (zs.map T.int)))(h2:μ[j]?=some (.lst (zs.map T.int))):Ag (.mut i) (.mut j) μ:=λkk K Z h=>
 ⟨(_,_),⟨h1,h2⟩,z6X (kF _) (by decide),true,y0 _,h⟩
theorem z4q{zs:List Int}(h1:μ[i]?=some (.lst (zs.map T.int))):Ag (.mut i) (.lst (zs.map T.int)) μ:=λkk K Z h=>
 ⟨_,h1,z6X (kF _) (by decide),true,y0 _,h⟩
end
section
variable {μ μ1 μ2:Mem}{K:T->Mem->Prop}{Z:Xp}{x y z:Int}{i j bi ci ni di:Nat}{sh kp bt kt:T}{ah sd:Int}{l l':Option Ls}{m m' n g:Option Int}{a:Ls}{r k h t:Int}{cs ks:List T}{bs:List X.Bt}
structure Sy9(μ:Mem)(i di ci ni bi:Nat)(kp:T)(x y z ah sd:Int)(l:Option Ls)(m g n:Option Int)(bs:List X.Bt)(cs:List T):Prop where
 ho:μ[i]?=some (hsO (shp x y z) ah sd kp l m n (.mut bi) false)
 hd:μ[di]?=some (stD l m g n (.lst ((X.nmB y z bs).map T.int)) ni)
 hc:μ[ci]?=some (.lst cs)
 hv:μ[ni]?=some (.lst cs)
 hb:μ[bi]?=some (.lst (bs.map X.btT))
 c1:ci≠ni
 c2:bi≠ci
 c3:bi≠ni
 B:X.BOk x y z bs
 hl:∀a,l=some a->LsOk x y a
 hn:∀k,n=some k->0<=k/\k<x * y * z
 hm:∀v,m=some v->0<=v/\v<x
 hg:∀v,g=some v->0<=v/\v<x
 gm:n=none->m=g
theorem Sy9.ne(S:Sy9 μ i di ci ni bi kp x y z ah sd l m g n bs cs):di≠i/\ci≠i/\ni≠i/\bi≠i/\ci≠di/\ni≠di/\bi≠di:=by
 refine⟨λw=>?_,λw=>?_,λw=>?_,λw=>?_,λw=>?_,λw=>?_,λw=>?_⟩
 ·have:=S.hd;rw[w,S.ho] at this;cases this
 ·have:=S.hc;rw[w,S.ho] at this;cases this
 ·have:=S.hv;rw[w,S.ho] at this;cases this
 ·have:=S.hb;rw[w,S.ho] at this;cases this
 ·have:=S.hc;rw[w,S.hd] at this;cases this
 ·have:=S.hv;rw[w,S.hd] at this;cases this
 ·have:=S.hb;rw[w,S.hd] at this;cases this
theorem z3O(s:Hz x y z)(hk:vy kp ci)(S:Sy9 μ i di ci ni bi kp x y z ah sd (some a) m g n bs cs)(hcl:cs.length<=1000)
  (q:∀t1 μ1,(∀(K2:T->Mem->Prop) (Z2:Xp),(∀t2 μ2 b',Sy9 μ2 i di ci ni b' kp x y z ah sd none m g n [] (cs++[zK none m])->Ag t1 t2 μ2->Ch [i,di,ci,ni] μ μ2->μ.length<=b'->(∃ts,t1=.tup ts)->K2 t2 μ2)->zQ [.int 3,.mut di,shT x y z,.int ah,.int sd,.int r,.int k] μ1 K2 Z2)->K t1 μ1):qk [.int 3,.mut i,.int r,.int k] μ K Z:=by
 obtain⟨n1,n2,n3,n4,n5,n6,n7⟩:=S.ne
 have hdl:=(z6v.mp S.hd).1
 have hcl':=(z6v.mp S.hc).1
 have hvl:=(z6v.mp S.hv).1
 have hil:=(z6v.mp S.ho).1
 refine z1R S.ho λK' Z' hK hZ=>?_
 refine Uh s hk S.ho S.hc hcl S.hn λμ' μ'' b' P ch bl h1 h2=>hK _ _ (q _ _ λK2 Z2 q2=>?_)
 have c1:=S.c1
 have hd'':=ch.get (P.ch.get S.hd (by simp[n1,z6Z n5])) (by simp[n1])
 have hv'':=ch.get (P.ch.get S.hv (by simp[n3,z6Z c1])) (by simp[n3])
 have hc':μ'[ci]?=some (.lst (cs++[zK none m])):=by
  have:=P.hc
  rw[if_neg (by simp)] at this
  exact this
 have hc'':=ch.get hc' (by simp[n2])
 refine z5e s hd'' hv'' hcl λμ3 c3 ln g1 g2=>?_
 have e:vN y z n m=vN y z n g:=by
  cases n with
  |none=>exact S.gm rfl
  |some w=>rfl
 refine q2 _ μ3 b' ⟨c3.get h1 (by simp[z6Z n1,z6Z n3]),g1,c3.get hc'' (by simp[n5,c1]),g2,c3.get h2 (by simp;omega),c1,by omega,by omega,X.BOk.nil,by simp,S.hn,S.hm,S.hg,S.gm⟩ ?_ ?_ (by have:=P.ch.len;omega) ⟨_,rfl⟩
 ·rw[e];exact z0v
 ·exact ((P.ch.mono (by simp)).trans (ch.mono (by simp))).trans (c3.mono (by simp))
end
section
variable {μ μ1 μ2:Mem}{K:T->Mem->Prop}{Z:Xp}{x y z:Int}{i j bi ci ni di:Nat}{sh kp bt kt:T}{ah sd:Int}{l l':Option Ls}{m m' n g:Option Int}{a:Ls}{r k h t:Int}{cs ks:List T}{bs:List X.Bt}
theorem z23(s:Hz x y z)(hb:x * z<1000000000000000000000000000000000000000000000000000000000000)(S:Sy9 μ i di ci ni bi kp x y z ah sd l m g n bs cs)(hbl:bs.length<=1000)(hnl:(X.nmB y z bs).length<=100000)(k1:1<=k)
  (q:∀t1 μ1,(∀(K2:T->Mem->Prop) (Z2:Xp),(∀t2 μ2 b' os,Sy9 μ2 i di ci ni b' kp x y z ah sd l m g n os cs->Ag t1 t2 μ2->Ch [i,di] μ μ2->os.length<=bs.length->((t1=.str "empty"/\os=bs/\b'=bi)\/∃j,t1=.mut j/\μ.length<=b'/\μ.length<=j/\μ2[j]?=some (.lst (((X.nmB y z bs).take k.toNat).map T.int))/\X.nmB y z os=(X.nmB y z bs).drop k.toNat)->K2 t2 μ2)->zQ [.int 2,.mut di,shT x y z,.int ah,.int sd,.int r,.int k] μ1 K2 Z2)->K t1 μ1):qk [.int 2,.mut i,.int r,.int k] μ K Z:=by
 obtain⟨n1,n2,n3,n4,n5,n6,n7⟩:=S.ne
 have hdl:=(z6v.mp S.hd).1
 have hcl':=(z6v.mp S.hc).1
 have hvl:=(z6v.mp S.hv).1
 have hil:=(z6v.mp S.ho).1
 have ll:((X.nmB y z bs).map T.int).length=(X.nmB y z bs).length:=z6Q ..
 refine z43 S.ho λK' Z' hK hZ=>?_
 refine X.take_sp s hb S.ho S.hb hbl S.B hnl k1 (λe=>hZ _ _ _ (.inr (.inr ⟨rfl,rfl,q _ _ λK2 Z2 q2=>?_⟩))) λe os μ' j f2 Bo on ol ch jl fl jf h1 h2 h3=>hK _ _ (q _ _ λK2 Z2 q2=>?_)
 ·refine z1s S.hd (by omega) k1 (λ_=>q2 _ _ bi bs S Vp Ch.refl (z6E _) (.inl ⟨rfl,rfl,rfl⟩)) λw=>absurd w (by rw[ll];omega)
 ·have hd':=ch.get S.hd (by simp[n1])
  refine z1s hd' (by omega) k1 (λw=>absurd w (by rw[ll];omega)) λ_ μ3 c3 ln g1=>?_
  have h3':=c3.get h3 (by simp;omega)
  rw[←List.map_drop,←on] at g1
  rw[←List.map_take]
  refine q2 _ μ3 f2 os ⟨c3.get h1 (by simp[z6Z n1]),g1,c3.get (ch.get S.hc (by simp[n2])) (by simp[n5]),c3.get (ch.get S.hv (by simp[n3])) (by simp[n6]),c3.get h2 (by simp;omega),S.c1,by omega,by omega,Bo,S.hl,S.hn,S.hm,S.hg,S.gm⟩ (z4q h3') ((ch.mono (by simp)).trans (c3.mono (by simp))) ol (.inr ⟨j,rfl,by omega,jl,h3',on⟩)
end
section
variable {μ μ1 μ2:Mem}{K:T->Mem->Prop}{Z:Xp}{x y z:Int}{i j bi ci ni di:Nat}{sh kp bt kt:T}{ah sd:Int}{l l':Option Ls}{m m' n g:Option Int}{a:Ls}{r k h t:Int}{cs ks:List T}{bs:List X.Bt}
theorem Sy9.ch(S:Sy9 μ i di ci ni bi kp x y z ah sd l m g n bs cs)(c:Ch [] μ μ1):Sy9 μ1 i di ci ni bi kp x y z ah sd l m g n bs cs:=
 ⟨c.get S.ho (by simp),c.get S.hd (by simp),c.get S.hc (by simp),c.get S.hv (by simp),c.get S.hb (by simp),S.c1,S.c2,S.c3,S.B,S.hl,S.hn,S.hm,S.hg,S.gm⟩
theorem V5(gm:n=none->m=g):zd y z a n m r=zd y z a n g r:=by
 cases n with
 |none=>rw[gm rfl]
 |some w=>rfl
theorem z1n{mo:Int}(sd0:0<=sd)(m0:0<=mo)(m1:mo<x)(hm:∀v,m=some v->0<=v/\v<x):0<=mbI x sd m mo/\mbI x sd m mo<x:=by
 have w:0<=mnI (mo+sd) (x-1)/\mnI (mo+sd) (x-1)<x:=by unfold mnI;split<;>omega
 cases m with
 |none=>exact w
 |some v=>
  show 0<=(if mo<=v then v else mnI (mo+sd) (x-1))/\(if mo<=v then v else mnI (mo+sd) (x-1))<x
  by_cases e:mo<=v
  ·rw[if_pos e];exact hm v rfl
  ·rw[if_neg e];exact w
end
section
variable {μ μ1 μ2:Mem}{K:T->Mem->Prop}{Z:Xp}{x y z:Int}{i j bi ci ni di:Nat}{sh kp bt kt:T}{ah sd:Int}{l l':Option Ls}{m m' n g:Option Int}{a:Ls}{r k h t:Int}{cs ks:List T}{bs:List X.Bt}
noncomputable abbrev csB(x z sd:Int)(a:Ls)(m:Option Int)(e:Int)(cs:List T):List T:=cs++if some (mbI x sd m ((e-1) / z))=m then [] else [zK (some a) (some (mbI x sd m ((e-1) / z)))]
theorem z2N(s:Hz x y z)(hb:x * z<1000000000000000000000000000000000000000000000000000000000000)(sd0:0<=sd)(hk:vy kp ci)(S:Sy9 μ i di ci ni bi kp x y z ah sd (some a) m g n bs cs)(hcl:cs.length<=1000)(k1:1<=k)(k2:k<=z)(k3:k<=1000)
  (hlog:zd y z a n m r+k<=a.2.2 * z->0<byP z r ah (zd y z a n m r+k)->(byP z r ah (zd y z a n m r+k)).natAbs.log2<1920)
  (q:∀t1 μ1,(∀(K2:T->Mem->Prop) (Z2:Xp),
   (∀t2 μ2,Sy9 μ2 i di ci ni bi kp x y z ah sd (some a) m g n bs cs->Ag t1 t2 μ2->Ch [] μ μ2->(t1=.str "lease"\/∃v,t1=.tup [.str "wait",.int v])->K2 t2 μ2)->
   (∀t2 μ2 b' j,Sy9 μ2 i di ci ni b' kp x y z ah sd (some a) (some (mbI x sd m ((zd y z a n m r+k-1) / z))) g (some (nmA y z a.1 (zd y z a n m r+k-1))) [] (csB x z sd a m (zd y z a n m r+k) cs)->Ag t1 t2 μ2->Ch [i,di,ci,ni] μ μ2->t1=.mut j->μ.length<=b'->μ.length<=j->μ2[j]?=some (.lst ((nmL y z a.1 (zd y z a n m r) k).map T.int))->zd y z a n m r+k<=a.2.2 * z->K2 t2 μ2)->
   zQ [.int 0,.mut di,shT x y z,.int ah,.int sd,.int r,.int k] μ1 K2 Z2)->K t1 μ1):qk [.int 0,.mut i,.int r,.int k] μ K Z:=by
 obtain⟨x1,y1,y2,z1,z2⟩:=id s
 obtain⟨n1,n2,n3,n4,n5,n6,n7⟩:=S.ne
 have ok:=S.hl a rfl
 have hdl:=(z6v.mp S.hd).1
 have hcl':=(z6v.mp S.hc).1
 have hvl:=(z6v.mp S.hv).1
 have hil:=(z6v.mp S.ho).1
 have eg:=V5 (y:=y) (z:=z) (a:=a) (r:=r) S.gm
 have b0:=jX (n:=n) (m:=m) (r:=r) s ok
 have c1:=S.c1
 have ux:a.2.2 * z<=x * z:=z6P ok.ux (by omega)
 refine z21 S.ho λK' Z' hK hZ=>?_
 refine z0p s hb ok hk S.ho S.hc hcl S.hn k1 k2 k3 (λe=>hZ _ _ _ (.inl ⟨rfl,rfl,q _ _ λK2 Z2 qa qb=>?_⟩)) (λe1 e2=>⟨hlog e1 e2,hZ _ _ _ (.inr (.inl ⟨rfl,_,rfl,q _ _ λK2 Z2 qa qb=>?_⟩))⟩) λe1 e2 μ' μ'' j b' P ch jl bl jb h1 h2 h3=>hK _ _ (q _ _ λK2 Z2 qa qb=>?_)
 ·refine XY s ok S.hd S.hv hcl S.hn S.hg k1 k3 (λ_ μ2 c=>qa _ μ2 (S.ch c) Vp c (.inl rfl)) (λw=>absurd w (by rw[←eg];omega)) (λw=>absurd w (by rw[←eg];omega))
 ·refine XY s ok S.hd S.hv hcl S.hn S.hg k1 k3 (λw=>absurd w (by rw[←eg];omega)) (λ_ _ μ2 c=>qa _ μ2 (S.ch c) (by rw[eg];exact J6) c (.inr ⟨_,rfl⟩)) (λ_ w=>absurd w (by rw[←eg];omega))
 ·have hd'':=ch.get (P.ch.get S.hd (by simp[n1,z6Z n5])) (by simp[n1])
  have hv'':=ch.get (P.ch.get S.hv (by simp[n3,z6Z c1])) (by simp[n3])
  have hc'':=ch.get P.hc (by simp[n2])
  have l2:=ch.len
  have l1:=P.ch.len
  have jl'':=(z6v.mp h3).1
  refine XY s ok hd'' hv'' hcl S.hn S.hg k1 k3 (λw=>absurd w (by rw[←eg];omega)) (λ_ w=>absurd w (by rw[←eg];omega)) λ_ _ μ3 j3 R=>?_
  rw[←eg] at R
  generalize zd y z a n m r=B at *
  have d0:0<=(B+k-1) / z:=z87 (by omega) (by omega)
  have d1:(B+k-1) / z<x:=z7H (by omega) (by omega)
  have h3':=R.ch.get h3 (by simp;omega)
  refine qb _ μ3 b' j ⟨R.ch.get h1 (by simp[z6Z n1,z6Z n3]),R.hd,R.ch.get hc'' (by simp[n5,c1]),R.hc,R.ch.get h2 (by simp;omega),c1,by omega,by omega,X.BOk.nil,S.hl,λk' e=>by cases e;exact U0 s ok.h0 ok.h1 (by omega) (by omega),λv e=>by cases e;exact z1n sd0 d0 d1 S.hm,S.hg,λe=>by cases e⟩ (z3L h3' R.hj) (((P.ch.mono (by simp)).trans (ch.mono (by simp))).trans (R.ch.mono (by simp))) rfl (by omega) jl h3' e1
end
section
variable {μ μ1 μ2:Mem}{K:T->Mem->Prop}{Z:Xp}{x y z:Int}{i j bi ci ni di:Nat}{sh kp bt kt:T}{ah sd:Int}{l l':Option Ls}{m m' n g:Option Int}{a:Ls}{r k h t:Int}{cs ks:List T}{bs:List X.Bt}
theorem z2H(s:Hz x y z)(sd0:0<=sd)(hk:vy kp ci)(S:Sy9 μ i di ci ni bi kp x y z ah sd (some a) m g n bs cs)(hcl:cs.length<=1000)(hbl:bs.length<=900)(hnl:(X.nmB y z bs).length<=100000)(k1:1<=k)(k2:k<=z)(k3:k<=1000)
  (hlog:zd y z a n m r+k<=a.2.2 * z->0<byP z r ah (zd y z a n m r+k)->(byP z r ah (zd y z a n m r+k)).natAbs.log2<1920)
  (q:∀t1 μ1,(∀(K2:T->Mem->Prop) (Z2:Xp),
   (∀t2 μ2,Sy9 μ2 i di ci ni bi kp x y z ah sd (some a) m g n bs cs->Ag t1 t2 μ2->Ch [] μ μ2->(t1=.str "lease"\/∃v,t1=.tup [.str "wait",.int v])->K2 t2 μ2)->
   (∀t2 μ2,Sy9 μ2 i di ci ni bi kp x y z ah sd (some a) (some (mbI x sd m ((zd y z a n m r+k-1) / z))) g (some (nmA y z a.1 (zd y z a n m r+k-1))) (bs++[(a.1,zd y z a n m r,zd y z a n m r+k)]) (csB x z sd a m (zd y z a n m r+k) cs)->Ag t1 t2 μ2->Ch [i,di,ci,ni,bi] μ μ2->(∃v,t1=.int v)->zd y z a n m r+k<=a.2.2 * z->K2 t2 μ2)->
   zQ [.int 1,.mut di,shT x y z,.int ah,.int sd,.int r,.int k] μ1 K2 Z2)->K t1 μ1):qk [.int 1,.mut i,.int r,.int k] μ K Z:=by
 obtain⟨x1,y1,y2,z1,z2⟩:=id s
 obtain⟨n1,n2,n3,n4,n5,n6,n7⟩:=S.ne
 have ok:=S.hl a rfl
 have eg:=V5 (y:=y) (z:=z) (a:=a) (r:=r) S.gm
 have b0:=jX (n:=n) (m:=m) (r:=r) s ok
 have c1:=S.c1
 have c2:=S.c2
 have c3:=S.c3
 have ux:a.2.2 * z<=x * z:=z6P ok.ux (by omega)
 have ll:((X.nmB y z bs).map T.int).length<=100000:=by rw[z6Q];exact hnl
 refine z3U S.ho λK' Z' hK hZ=>?_
 refine Ko s ok hk S.ho S.hc S.hb c2 hbl S.B.be hcl S.hn k1 k2 (λe=>hZ _ _ _ (.inl ⟨rfl,rfl,q _ _ λK2 Z2 qa qb=>?_⟩)) (λe1 e2=>⟨hlog e1 e2,hZ _ _ _ (.inr (.inl ⟨rfl,_,rfl,q _ _ λK2 Z2 qa qb=>?_⟩))⟩) λe1 e2 μ' μ'' P ch h1 h2=>hK _ _ (q _ _ λK2 Z2 qa qb=>?_)
 ·refine Xw s ok S.hd ll S.hv hcl S.hn S.hg k1 k3 (λ_ μ2 c=>qa _ μ2 (S.ch c) Vp c (.inl rfl)) (λw=>absurd w (by rw[←eg];omega)) (λw=>absurd w (by rw[←eg];omega))
 ·refine Xw s ok S.hd ll S.hv hcl S.hn S.hg k1 k3 (λw=>absurd w (by rw[←eg];omega)) (λ_ _ μ2 c=>qa _ μ2 (S.ch c) (by rw[eg];exact J6) c (.inr ⟨_,rfl⟩)) (λ_ w=>absurd w (by rw[←eg];omega))
 ·have hd'':=ch.get (P.ch.get S.hd (by simp[n1,z6Z n5])) (by simp[z6Z n7])
  have hv'':=ch.get (P.ch.get S.hv (by simp[n3,z6Z c1])) (by simp[z6Z c3])
  have hc'':=ch.get P.hc (by simp[z6Z c2])
  refine Xw s ok hd'' ll hv'' hcl S.hn S.hg k1 k3 (λw=>absurd w (by rw[←eg];omega)) (λ_ w=>absurd w (by rw[←eg];omega)) λ_ _ μ3 j3 R=>?_
  rw[←eg] at R ⊢
  generalize zd y z a n m r=B at *
  have d0:0<=(B+k-1) / z:=z87 (by omega) (by omega)
  have d1:(B+k-1) / z<x:=z7H (by omega) (by omega)
  have en:(X.nmB y z bs).map T.int++(nmL y z a.1 B k).map T.int=(X.nmB y z (bs++[(a.1,B,B+k)])).map T.int:=by
   rw[X.nmB_snoc,z7j]
   show _=_++(nmL y z a.1 B (B+k-B)).map T.int
   rw[show B+k-B=k by omega]
  have hd3:=R.hd
  rw[en] at hd3 ⊢
  refine qb _ μ3 ⟨R.ch.get h1 (by simp[z6Z n1,z6Z n3]),hd3,R.ch.get hc'' (by simp[n5,c1]),R.hc,R.ch.get h2 (by simp[n7,c3]),c1,c2,c3,S.B.snoc ok.h0 ok.h1 b0 (by show B<=B+k;omega) (by show B+k<=x * z;omega) (by show B+k-B<=1000;omega),S.hl,λk' e=>by cases e;exact U0 s ok.h0 ok.h1 (by omega) (by omega),λv e=>by cases e;exact z1n sd0 d0 d1 S.hm,S.hg,λe=>by cases e⟩ ?_ (((P.ch.mono (by simp)).trans (ch.mono (by simp))).trans (R.ch.mono (by simp))) ⟨_,rfl⟩ e1
  rw[z6Q]
  exact z2b
end
section
variable {μ μ1 μ2:Mem}{K:T->Mem->Prop}{Z:Xp}{x y z:Int}{i j bi ci ni di:Nat}{sh kp bt kt:T}{ah sd:Int}{l l':Option Ls}{m m' n g:Option Int}{a:Ls}{r k h t:Int}{cs ks:List T}{bs:List X.Bt}
theorem z3Q(hk:vy kp ci)(S:Sy9 μ i di ci ni bi kp x y z ah sd l m g n bs cs)(hcl:cs.length<=1000)(ok:LsOk x y a)
  (q:∀μ1,μ1[di]?=some (stD l m g n (.lst ((X.nmB y z bs).map T.int)) ni)->(∀(K2:T->Mem->Prop) (Z2:Xp),
   (∀μ2,Sy9 μ2 i di ci ni bi kp x y z ah sd (some a) m g n bs (cs++if some a=l then [] else [zK (some a) m])->Ch [i,di,ci,ni] μ μ2->μ2.length=μ.length->K2 .non μ2)->
   vj [.mut di,lsT (some a),opT m] μ1 K2 Z2)->K .non μ1):zz [.mut i,lsT (some a)] μ K Z:=by
 obtain⟨n1,n2,n3,n4,n5,n6,n7⟩:=S.ne
 have c1:=S.c1
 have c2:=S.c2
 have c3:=S.c3
 refine JZ hk S.ho S.hc hcl ok λμ1 P=>?_
 have hd':=P.ch.get S.hd (by simp[n1,z6Z n5])
 have hv':=P.ch.get S.hv (by simp[n3,z6Z c1])
 have hb':=P.ch.get S.hb (by simp[n4,c2])
 refine q μ1 hd' λK2 Z2 q2=>?_
 refine vW (l':=some a) (m':=m) hd' hv' hcl λμ2 N=>?_
 have e1:=P.hc
 have e2:=N.hc
 simp only[and_true] at e1 e2
 refine q2 μ2 ⟨N.ch.get P.ho (by simp[z6Z n1,z6Z n3]),N.hd,N.ch.get e1 (by simp[n5,c1]),e2,N.ch.get hb' (by simp[n7,c3]),c1,c2,c3,S.B,λb e=>by cases e;exact ok,S.hn,S.hm,S.hg,S.gm⟩ ((P.ch.mono (by simp)).trans (N.ch.mono (by simp))) (N.ln.trans P.ln)
end
section
variable {x y z:Int}{m n g:Option Int}{a:Ls}{r k h t:Int}
theorem J8{B:Int}(s:Hz x y z)(h0:0<=h)(h1:h<y):(nmL y z h B k).Pairwise (·<·):=by
 unfold nmL
 rw[za5]
 refine zdX (λ{p q} (w:p<q)=>k7 s h0 h1 (by omega)) List.pairwise_lt_range
theorem WJ{B v:Int}(s:Hz x y z)(h0:0<=h)(h1:h<y)(hv:v∈nmL y z h B k):nmA y z h B<=v/\v<=nmA y z h (B+k-1):=by
 unfold nmL at hv
 obtain⟨j,hj,rfl⟩:=z7K.mp hv
 have hj:=z8H.mp hj
 constructor
 ·by_cases e:j=0
  ·subst e;simp
  ·exact zaG (k7 s h0 h1 (by omega))
 ·by_cases e:(j:Int)=k-1
  ·rw[show B+(j:Int)=B+k-1 by omega];exact zcq _
  ·exact zaG (k7 s h0 h1 (by omega))
theorem KW{v w:Int}(s:Hz x y z)(ok:LsOk x y a)(hw:abv y z n g=some w)(hv:v∈nmL y z a.1 (zd y z a n g r) k):w<v:=by
 have e:=(Qi (n:=abv y z n g) (r:=r) s ok.f0).2.2
 rw[Jf s ok,hw] at e
 exact Int.lt_of_lt_of_le ((jC s ok.h0 ok.h1).mpr e) (WJ s ok.h0 ok.h1 hv).1
end
section
variable {x y z sd:Int}{m n g:Option Int}{a:Ls}{r k h t:Int}{zs ks:List Int}{bs:List X.Bt}
structure Gv(y z:Int)(m n g:Option Int)(zs ks:List Int):Prop where
 as:(zs++ks).Pairwise (·<·)
 ab:∀v∈zs++ks,∃w,abv y z n g=some w/\v<=w
 mr:∀v∈zs++ks,∃w,m=some w/\v<(w+1) * y * z
theorem Gv.nil:Gv y z m n g [] []:=⟨by simp,by simp,by simp⟩
theorem Gv.ask(s:Hz x y z)(ok:LsOk x y a)(G:Gv y z m n g zs ks)(k1:1<=k){m':Int}(hm:nmA y z a.1 (zd y z a n g r+k-1)<(m'+1) * y * z)(mm:∀w,m=some w->(w+1) * y * z<=(m'+1) * y * z):Gv y z (some m') (some (nmA y z a.1 (zd y z a n g r+k-1))) g (zs++nmL y z a.1 (zd y z a n g r) k) []:=by
 have lt:∀v∈zs++ks,∀u∈nmL y z a.1 (zd y z a n g r) k,v<u:=λv hv u hu=>by
  obtain⟨w,e,l⟩:=G.ab v hv
  exact z93 l (KW s ok e hu)
 have le:∀v∈zs++nmL y z a.1 (zd y z a n g r) k,v<=nmA y z a.1 (zd y z a n g r+k-1):=λv hv=>by
  rcases z6K.mp hv with hv|hv
  ·have e:nmA y z a.1 (zd y z a n g r+k-1)∈nmL y z a.1 (zd y z a n g r) k:=by
    unfold nmL
    refine z7K.mpr ⟨(k-1).toNat,z8H.mpr (by omega),?_⟩
    congr 1;omega
   exact zaG (lt v (z6G _ hv) _ e)
  ·exact (WJ s ok.h0 ok.h1 hv).2
 refine⟨?_,λv hv=>⟨_,rfl,le v (by simpa using hv)⟩,λv hv=>⟨m',rfl,z93 (le v (by simpa using hv)) hm⟩⟩
 rw[z74,z7P]
 exact⟨(z7P.mp G.as).1,J8 s ok.h0 ok.h1,λv hv u hu=>lt v (z6G _ hv) u hu⟩
theorem Gv.store(s:Hz x y z)(ok:LsOk x y a)(G:Gv y z m n g zs ks)(k1:1<=k){m':Int}(hm:nmA y z a.1 (zd y z a n g r+k-1)<(m'+1) * y * z):Gv y z (some m') (some (nmA y z a.1 (zd y z a n g r+k-1))) g zs (ks++nmL y z a.1 (zd y z a n g r) k):=by
 have lt:∀v∈zs++ks,∀u∈nmL y z a.1 (zd y z a n g r) k,v<u:=λv hv u hu=>by
  obtain⟨w,e,l⟩:=G.ab v hv
  exact z93 l (KW s ok e hu)
 have le:∀v∈(zs++ks)++nmL y z a.1 (zd y z a n g r) k,v<=nmA y z a.1 (zd y z a n g r+k-1):=λv hv=>by
  rcases z6K.mp hv with hv|hv
  ·have e:nmA y z a.1 (zd y z a n g r+k-1)∈nmL y z a.1 (zd y z a n g r) k:=by
    unfold nmL
    refine z7K.mpr ⟨(k-1).toNat,z8H.mpr (by omega),?_⟩
    congr 1;omega
   exact zaG (lt v hv _ e)
  ·exact (WJ s ok.h0 ok.h1 hv).2
 have ea:zs++(ks++nmL y z a.1 (zd y z a n g r) k)=(zs++ks)++nmL y z a.1 (zd y z a n g r) k:=(z7E ..).symm
 refine⟨?_,λv hv=>⟨_,rfl,le v (by rw[←ea];exact hv)⟩,λv hv=>⟨m',rfl,z93 (le v (by rw[←ea];exact hv)) hm⟩⟩
 rw[ea,z7P]
 exact⟨G.as,J8 s ok.h0 ok.h1,lt⟩
theorem Gv.take{c:Nat}(G:Gv y z m n g zs ks):Gv y z m n g (zs++ks.take c) (ks.drop c):=by
 have e:zs++ks.take c++ks.drop c=zs++ks:=by rw[z7E,z8C]
 exact⟨by rw[e];exact G.as,by rw[e];exact G.ab,by rw[e];exact G.mr⟩
theorem Gv.begin(G:Gv y z m n g zs ks):Gv y z m none m zs []:=by
 refine⟨?_,λv hv=>?_,λv hv=>G.mr v (z6G _ (by simpa using hv))⟩
 ·rw[z74];exact (z7P.mp G.as).1
 ·obtain⟨w,e,l⟩:=G.mr v (z6G _ (by simpa using hv))
  subst e
  exact⟨(w+1) * y * z-1,rfl,by omega⟩
end
section
variable {x y z sd:Int}{m n g:Option Int}{a:Ls}{r k h t p:Int}
theorem Wc{m':Int}(s:Hz x y z)(h0:0<=h)(h1:h<y)(e:p / z<=m'):nmA y z h p<(m'+1) * y * z:=by
 obtain⟨x1,y1,y2,z1,z2⟩:=id s
 have c1:=z76 p (show 0<z by omega)
 have w1:(p / z) * y+h+1<=(m'+1) * y:=by
  have:(p / z+1) * y<=(m'+1) * y:=z6P (by omega) (by omega)
  rw[z7Y (p / z)] at this
  omega
 have w2:=z6P w1 (show 0<=z by omega)
 rw[z7Y _ 1 z] at w2
 unfold nmA
 omega
theorem z1b{mo:Int}(sd0:0<=sd)(m1:mo<x):mo<=mbI x sd m mo:=by
 have w:mo<=mnI (mo+sd) (x-1):=by unfold mnI;split<;>omega
 cases m with
 |none=>exact w
 |some v=>
  show mo<=(if mo<=v then v else mnI (mo+sd) (x-1))
  by_cases e:mo<=v
  ·rw[if_pos e];exact e
  ·rw[if_neg e];exact w
end
section
variable {μ μ1 μ2:Mem}{K:T->Mem->Prop}{Z:Xp}{x y z:Int}{i:Nat}{sh kp bt:T}{ah sd:Int}{l l':Option Ls}{m m' n:Option Int}{a:Ls}{r k h:Int}{c:Nat}{t0:T}{o1 o8 o9 o10 o12 o13:Option T}
theorem z3m:(10:Int) ^ zcl 9=1000000000:=by decide
theorem z1B:(10:Int) ^ zcl 20=100000000000000000000:=by decide
theorem JB(hs:St μ i)(x1:1<=x)(x2:x<=100000000000000000000)(y1:1<=y)(y2:y<1000000)(q:∀a μ',LsOk x y a->Up μ i μ'->K (lsT (some a)) μ'):zO [.mut i,shT x y z] μ K Z:=by
 unfold zO
 refine⟨rfl,?_⟩
 refine⟨_,rfl,?_⟩
 refine zH hs (by omega) (by omega) λf μ1 f0 f1 u1=>?_
 refine zH u1.st (by decide) (by decide) λv μ2 v0 v1 u2=>?_
 refine⟨_,rfl,?_⟩
 refine zH u2.st (by omega) (by omega) λw μ3 w0 w1 u3=>?_
 refine zH u3.st (by decide) (by decide) λt μ4 t0 t1 u4=>?_
 have ix:∃d:Int,0<=d/\wG [T.int v,T.int w] t=some (T.int d):=by
  have:t=0\/t=1:=by omega
  rcases this with rfl|rfl
  ·exact⟨v,v0,rfl⟩
  ·exact⟨w,w0,rfl⟩
 obtain⟨d,d0,hix⟩:=ix
 refine⟨_,hix,?_⟩
 refine⟨_,rfl,?_⟩
 refine zH u4.st (by omega) (by omega) λh μ5 h0 h1 u5=>?_
 refine⟨_,rfl,?_⟩
 refine q (h,f,if x<f+(1+d) then x else f+(1+d)) μ5 ⟨h0,h1,f0,?_,?_⟩ ((((u1.trans u2).trans u3).trans u4).trans u5)
 ·show f<if x<f+(1+d) then x else f+(1+d)
  split<;>omega
 ·show (if x<f+(1+d) then x else f+(1+d))<=x
  split<;>omega
theorem YV(hs:St μ i)(q:∀x y z μ',1<=x->x<=100000000000000000000->1<=y->y<=5->1<=z->z<=900->Up μ i μ'->K (shT x y z) μ'):vT [.mut i] μ K Z:=by
 unfold vT
 refine⟨rfl,?_⟩
 refine zH hs (by decide) (by decide) λv1 μ1 v10 v11 u1=>?_
 refine⟨by decide,?_⟩
 refine zH u1.st (by rw[z3m];decide) (by rw[z3m];decide) λv2 μ2 v20 v21 u2=>?_
 rw[z3m] at v21
 refine⟨.inr (by unfold big;decide),?_⟩
 refine⟨by decide,?_⟩
 refine zH u2.st (by decide) (by decide) λv3 μ3 v30 v31 u3=>?_
 have ix:∃d:Int,1<=d/\d<=100000000000000000000/\wG [T.int (1+v1),T.int (1+v2 * 1000),T.int ((10:Int) ^ zcl 20)] v3=some (T.int d):=by
  have:v3=0\/v3=1\/v3=2:=by omega
  rcases this with rfl|rfl|rfl
  ·exact⟨1+v1,by omega,by omega,rfl⟩
  ·exact⟨1+v2 * 1000,by omega,by omega,rfl⟩
  ·exact⟨(10:Int) ^ zcl 20,by rw[z1B];decide,by rw[z1B];decide,rfl⟩
 obtain⟨x,x1,x2,hix⟩:=ix
 refine⟨_,hix,?_⟩
 refine zH u3.st (by decide) (by decide) λv4 μ4 v40 v41 u4=>?_
 refine zH u4.st (by decide) (by decide) λv5 μ5 v50 v51 u5=>?_
 refine zH u5.st (by decide) (by decide) λv6 μ6 v60 v61 u6=>?_
 refine zH u6.st (by decide) (by decide) λv7 μ7 v70 v71 u7=>?_
 have iy:∃d:Int,0<=d/\d<900/\wG [T.int v5,T.int v6] v7=some (T.int d):=by
  have:v7=0\/v7=1:=by omega
  rcases this with rfl|rfl
  ·exact⟨v5,by omega,by omega,rfl⟩
  ·exact⟨v6,by omega,by omega,rfl⟩
 obtain⟨d,d0,d1,hiy⟩:=iy
 refine⟨_,hiy,?_⟩
 exact q x (1+v4) (1+d) μ7 x1 x2 (by omega) (by omega) (by omega) (by omega) ((((((u1.trans u2).trans u3).trans u4).trans u5).trans u6).trans u7)
end
section
variable {μ μ1 μ2:Mem}{K:T->Mem->Prop}{Z:Xp}{x y z:Int}{i j bi ci ni di gi:Nat}{sh kp bt kt:T}{ah sd:Int}{l l':Option Ls}{m m' n g:Option Int}{a:Ls}{r k h t w cell:Int}{cs ks:List T}{bs:List X.Bt}{zs:List Int}{scr:T}{o1 o10 o11 o12 o13 o14 o15 o16:Option T}{E:En}
noncomputable abbrev Nn:=Option Ls×Option Int
noncomputable abbrev nnT(e:Nn):T:=zK e.1 e.2
theorem z1g(e:Nn):eqT (nnT e) (nnT e)=some true:=by
 show eqL [lsT e.1,opT e.2] [lsT e.1,opT e.2]=some true
 rw[xN];simp
theorem YG:∀es:List Nn,eqL (es.map nnT) (es.map nnT)=some true
 |[]=>rfl
 |e::r=>by
  show (match eqT (nnT e) (nnT e),eqL (r.map nnT) (r.map nnT) with|some a,some b=>some (a&&b)|_,_=>none)=some true
  rw[z1g,YG r];rfl
theorem Y3(e:Nn):qX (nnT e)<=3:=by
 obtain⟨l,m⟩:=e
 cases l<;>cases m<;>simp[lsT,opT,qi,qX]
theorem VA:∀es:List Nn,qi (es.map nnT)<=3
 |[]=>by simp[qi]
 |e::r=>by
  have:=VA r
  have:=Y3 e
  show max (qX (nnT e)) (qi (r.map nnT))<=3
  omega
theorem VY(e:Nn):wd (nnT e)=true:=by
 obtain⟨l,m⟩:=e
 cases l<;>cases m<;>rfl
theorem QI:∀es:List Nn,j6 (es.map nnT)=true
 |[]=>rfl
 |e::r=>by
  show (wd (nnT e)&&j6 (r.map nnT))=true
  rw[VY,QI r];rfl
theorem z4d{n:Option Int}:qX (opT n)<=1:=by cases n<;>simp[opT,qX]
theorem uR{es:List Nn}(h:μ[ci]?=some (.lst (es.map nnT))):Qs μ [.mut ci,opT n,zK l m]=some [.lst (es.map nnT),opT n,zK l m]:=by
 have e1:WI μ (.mut ci)=some (.lst (es.map nnT)):=by
  unfold WI
  simp only[h]
  rw[QI];rfl
 have e2:WI μ (opT n)=some (opT n):=by
  cases n<;>rfl
 have e3:WI μ (zK l m)=some (zK l m):=by
  show gd (wd (zK l m)) (some (zK l m))=_
  rw[VY (l,m)];rfl
 unfold Qs;rw[e1]
 unfold Qs;rw[e2]
 unfold Qs;rw[e3]
 rfl
theorem YQ{es:List Nn}:eqL [.lst (es.map nnT),opT n,zK l m] [.lst (es.map nnT),opT n,zK l m]=some true:=by
 have e1:eqT (.lst (es.map nnT)) (.lst (es.map nnT))=some true:=YG es
 have e2:eqT (opT n) (opT n)=some true:=by rw[z1f];simp
 have e3:eqT (zK l m) (zK l m)=some true:=z1g (l,m)
 simp only[eqL,e1,e2,e3]
 rfl
theorem Jv{es:List Nn}:qi [.lst (es.map nnT),opT n,zK l m]<=40:=by
 have h1:=VA es
 have h2:=z4d (n:=n)
 have h3:qX (zK l m)<=3:=Y3 (l,m)
 show max (qi (es.map nnT)+1) (max (qX (opT n)) (max (qX (zK l m)) 0))<=40
 omega
structure I9(μ:Mem)(i di ci ni gi bi:Nat)(kp:T)(x y z ah sd:Int)(l:Option Ls)(m g n:Option Int)(bs:List X.Bt)(es:List Nn)(zs:List Int)(r:Int)(j:Nat):Prop where
 S:Sy9 μ i di ci ni bi kp x y z ah sd l m g n bs (es.map nnT)
 hk:vy kp ci
 hz:μ[gi]?=some (.lst (zs.map T.int))
 tb:∃p:Nat,μ[p]?=some (.tab 0)
 g1:gi≠ci
 g2:gi≠ni
 g3:gi≠bi
 G:Gv y z m n g zs (X.nmB y z bs)
 cl:es.length<=j
 bl:bs.length<=j
 zl:zs.length+(X.nmB y z bs).length<=20 * j
 nt:(es=[]/\l=none/\m=none)\/∃es',es=es'++[(l,m)]
 r0:-1000-100 * (j:Int)<=r
 r1:r<=200000000000000000000+100 * (j:Int)
structure B9(x y z ah sd:Int):Prop where
 s:Hz x y z
 x2:x<=100000000000000000000
 y5:y<=5
 z9:z<=900
 a0:0<=ah
 a1:ah<=10
 d0:0<=sd
theorem uP(S:Sy9 μ i di ci ni bi kp x y z ah sd l m g n bs cs)(c:Ch [i,di,ci,ni,bi] μ μ2)(h:∃p:Nat,μ[p]?=some (.tab 0)):∃p:Nat,μ2[p]?=some (.tab 0):=by
 obtain⟨p,h⟩:=h
 refine⟨p,c.get h ?_⟩
 simp only[z75,zcm,or_false,not_or]
 refine⟨λw=>?_,λw=>?_,λw=>?_,λw=>?_,λw=>?_⟩
 ·rw[w,S.ho] at h;cases h
 ·rw[w,S.hd] at h;cases h
 ·rw[w,S.hc] at h;cases h
 ·rw[w,S.hv] at h;cases h
 ·rw[w,S.hb] at h;cases h
theorem Zg(S:Sy9 μ i di ci ni bi kp x y z ah sd l m g n bs cs)(hz:μ[gi]?=some (.lst ks))(g1:gi≠ci)(g2:gi≠ni)(g3:gi≠bi)(c:Ch [i,di,ci,ni,bi] μ μ2):μ2[gi]?=some (.lst ks):=by
 refine c.get hz ?_
 simp only[z75,zcm,or_false,not_or]
 refine⟨λw=>?_,λw=>?_,g1,g2,g3⟩
 ·rw[w,S.ho] at hz;cases hz
 ·rw[w,S.hd] at hz;cases hz
@[reducible] noncomputable def jk:List Ds:=[(zj 1 (zb wO [(eV 10)])),(zj 8 (ze .Add (eV 8) (eIx (jI [(eC (.int 0)),(zb zh [(eV 1),(eC (.int 4))]),(ze .Sub (eC (.int 0)) (zb zh [(eV 1),(eC (.int 6))]))]) (zb zh [(eV 1),(eC (.int 3))])))),(zj 11 (zb zh [(eV 1),(eC (.int 8))])),(zj 12 (ze .Add (eC (.int 1)) (zb zh [(eV 1),(eB2 vI (eIx (eV 2) (eC (.int 2))) (eC (.int 20)))]))),(sIf (tOr (tE (zv .Eq (eV 11) (eC (.int 4)))) (vX (tE (zv .Is (eC2 zY (eV 7) (eC (.str "lease"))) (eC .non))) (tE (zv .NotEq (eV 11) (eC (.int 5)))))) [(zj 13 (zb zO [(eV 1),(eV 2)])),(zj 8 (ze .Sub (ze .Add (eIx (eV 13) (eC (.int 1))) (zb zh [(eV 1),(eC (.int 3))])) (eC (.int 1)))),(zF (zS 45 zz (eV 6) [(eV 13)])),(zF (zb vj [(eV 7),(eV 13),(eC2 zY (eV 7) (eC (.str "mark")))]))] [(sIf (tE (zv .Eq (eV 11) (eC (.int 5)))) [(zj 14 (eIx (ze .Add (jI [(eC .non)]) (eV 17)) (WT (eC (.int 1))))),(zj 6 (Xs 45 zD [(eV 3),(eV 4),(eV 5),(Zk 0 1 [17]),(eV 14)])),(zj 7 (zb qY [(eV 14),(eC2 zY (eV 7) (eC (.str "notes")))]))] [(zj 15 (zb qk [(ze .Mod (eV 11) (eC (.int 4))),(eV 6),(eV 8),(eV 12)])),(sIf (tE (zv .NotEq (eV 15) (zb zQ [(ze .Mod (eV 11) (eC (.int 4))),(eV 7),(eV 2),(eV 4),(eV 5),(eV 8),(eV 12)]))) [(zp (eC (.bl false)))] []),(sIf (tE (xY [5] (eV 15))) [(zF (Km (eV 9) (eV 15)))] [])])]),(zj 16 (qZ [(eV 17),(zS 45 wj (eV 6) []),(zS 45 qK (eV 6) [])])),(sIf (tE (eC2 neR (eV 16) (qZ [(eC2 zY (eV 7) (eC (.str "notes"))),(eC2 zY (eV 7) (eC (.str "last"))),(qZ [(eC2 zY (eV 7) (eC (.str "lease"))),(eC2 zY (eV 7) (eC (.str "mark")))])]))) [(zp (eC (.bl false)))] [])]
noncomputable abbrev t9(scr:T)(o1:Option T)(x y z ah sd:Int)(i di:Nat)(r:Int)(gi:Nat)(o10 o11 o12 o13 o14 o15 o16:Option T)(ci:Nat):Sl:=[some scr,o1,some (shT x y z),some (shp x y z),some (.int ah),some (.int sd),some (.mut i),some (.mut di),some (.int r),some (.mut gi),o10,o11,o12,o13,o14,o15,o16,some (.mut ci)]
abbrev Nx9(E:En)(scr:T)(x y z ah sd:Int)(gi ci ni:Nat)(cell:Int)(j:Nat):Prop:=∀μ' i di bi kp l m g n bs es zs r o1 o11 o12 o13 o14 o15 o16,I9 μ' i di ci ni gi bi kp x y z ah sd l m g n bs es zs r (j+1)->E.nx (t9 scr o1 x y z ah sd i di r gi (some (.int cell)) o11 o12 o13 o14 o15 o16 ci) μ'
theorem jy{es:List Nn}(q:Nx9 E scr x y z ah sd gi ci ni cell j)(I:I9 μ i di ci ni gi bi kp x y z ah sd l m g n bs es zs r (j+1))(τ:Sl)(e:τ=t9 scr o1 x y z ah sd i di r gi (some (.int cell)) o11 o12 o13 o14 o15 o16 ci):qd (jk.drop 5) τ μ E:=by
 subst e
 refine⟨_,I.S.ho,?_⟩
 refine Ul I.S.ho ?_
 refine⟨_,I.S.ho,?_⟩
 refine J1 I.S.ho ?_
 refine⟨_,_,I.S.hd,vn,?_⟩
 refine⟨_,_,I.S.hd,rfl,?_⟩
 refine⟨_,_,I.S.hd,jA,?_⟩
 refine⟨_,_,I.S.hd,rfl,?_⟩
 refine⟨_,_,true,uR I.S.hc,uR I.S.hv,Jv,YQ,?_⟩
 exact q _ _ _ _ _ _ _ _ _ _ _ _ _ _ _ _ _ _ _ _ I
end
section
variable {μ μ1 μ2:Mem}{K:T->Mem->Prop}{Z:Xp}{x y z:Int}{i j bi ci ni di gi:Nat}{sh kp bt kt:T}{ah sd:Int}{l l':Option Ls}{m m' n g:Option Int}{a:Ls}{r k h t w cell:Int}{cs ks:List T}{bs:List X.Bt}{zs:List Int}{scr:T}{o1 o10 o11 o12 o13 o14 o15 o16:Option T}{E:En}{es:List Nn}
theorem Xi{α:Type}{xs:List α}{x:α}:wG (xs++[x]) (-1)=some x:=by
 unfold wG JV
 rw[if_neg (by decide),if_pos (by simp;omega)]
 have:((-1:Int)+((xs++[x]).length:Nat)).toNat=xs.length:=by simp;omega
 show (xs++[x])[((-1:Int)+((xs++[x]).length:Nat)).toNat]?=_
 rw[this]
 simp
theorem I9.up(I:I9 μ i di ci ni gi bi kp x y z ah sd l m g n bs es zs r j)(h:∀p,p<μ.length->μ2[p]?=μ[p]?):I9 μ2 i di ci ni gi bi kp x y z ah sd l m g n bs es zs r j:=by
 have f:∀(p:Nat) (o:MO),μ[p]?=some o->μ2[p]?=some o:=λp o e=>(h p (z6v.mp e).1).trans e
 obtain⟨p,hp⟩:=I.tb
 have S:=I.S
 exact⟨⟨f _ _ S.ho,f _ _ S.hd,f _ _ S.hc,f _ _ S.hv,f _ _ S.hb,S.c1,S.c2,S.c3,S.B,S.hl,S.hn,S.hm,S.hg,S.gm⟩,I.hk,f _ _ I.hz,⟨p,f _ _ hp⟩,I.g1,I.g2,I.g3,I.G,I.cl,I.bl,I.zl,I.nt,I.r0,I.r1⟩
@[reducible] noncomputable def z5r:List Ds:=[(zj 13 (zb zO [(eV 1),(eV 2)])),(zj 8 (ze .Sub (ze .Add (eIx (eV 13) (eC (.int 1))) (zb zh [(eV 1),(eC (.int 3))])) (eC (.int 1)))),(zF (zS 45 zz (eV 6) [(eV 13)])),(zF (zb vj [(eV 7),(eV 13),(eC2 zY (eV 7) (eC (.str "mark")))]))]
theorem z2n{si:Nat}{μ0:Mem}(B:B9 x y z ah sd)(q:Nx9 E scr x y z ah sd gi ci ni cell j)(I0:I9 μ0 i di ci ni gi bi kp x y z ah sd l m g n bs es zs r j)(hj:j<=100)(hg:∀p,p<μ0.length->μ[p]?=μ0[p]?)(hs:St μ si)(hsi:μ0.length<=si)(τ:Sl)(e:τ=t9 scr (some (.mut si)) x y z ah sd i di r gi (some (.int cell)) o11 o12 o13 o14 o15 o16 ci) :
  qd z5r τ μ (E.nxt λτ μ=>qd (jk.drop 5) τ μ E):=by
 subst e
 obtain⟨x1,y1,y2,z1,z2⟩:=id B.s
 have x2:=B.x2
 have y5:=B.y5
 have z9:=B.z9
 refine JB hs x1 x2 y1 (by omega) λa μ1 ok u1=>?_
 refine⟨_,rfl,?_⟩
 refine zH u1.st (by decide) (by decide) λv μ2 v0 v1 u2=>?_
 have I2:I9 μ2 i di ci ni gi bi kp x y z ah sd l m g n bs es zs r j:=I0.up λp hp=>(((u1.trans u2).ot p (by omega))).trans (hg p hp)
 have cl:=I2.cl
 have bl:=I2.bl
 have zl:=I2.zl
 refine⟨_,I2.S.ho,?_⟩
 refine z3Q I2.hk I2.S (by rw[z6Q];omega) ok λμ3 hd3 q3=>?_
 refine⟨_,_,hd3,rfl,?_⟩
 refine q3 _ _ λμ4 S4 c4 ln=>?_
 have f0:=ok.f0
 have fu:=ok.fu
 have ux:=ok.ux
 have c5:Ch [i,di,ci,ni,bi] μ2 μ4:=c4.mono (by simp)
 have ee:es.map nnT++(if some a=l then [] else [zK (some a) m])=(es++if some a=l then [] else [(some a,m)]).map nnT:=by
  rw[z7j];split<;>rfl
 rw[ee] at S4
 refine jy q (⟨S4,I2.hk,Zg I2.S I2.hz I2.g1 I2.g2 I2.g3 c5,uP I2.S c5 I2.tb,I2.g1,I2.g2,I2.g3,I2.G,?_,by omega,by omega,.inr ?_,?_,?_⟩:I9 μ4 i di ci ni gi bi kp x y z ah sd (some a) m g n bs (es++if some a=l then [] else [(some a,m)]) zs (a.2.1+v-1) (j+1)) _ rfl
 ·rw[z72];split<;>simp<;>omega
 ·by_cases e:some a=l
  ·rw[if_pos e,z74]
   rcases I2.nt with⟨_,w,_⟩|⟨es',w⟩
   ·rw[w] at e;cases e
   ·exact⟨es',by rw[w,e]⟩
  ·exact⟨es,by rw[if_neg e]⟩
 ·push_cast;omega
 ·push_cast;omega
@[reducible] noncomputable def z5C:List Ds:=[(zj 14 (eIx (ze .Add (jI [(eC .non)]) (eV 17)) (WT (eC (.int 1))))),(zj 6 (Xs 45 zD [(eV 3),(eV 4),(eV 5),(Zk 0 1 [17]),(eV 14)])),(zj 7 (zb qY [(eV 14),(eC2 zY (eV 7) (eC (.str "notes")))]))]
theorem X7(B:B9 x y z ah sd)(q:Nx9 E scr x y z ah sd gi ci ni cell j)(I:I9 μ i di ci ni gi bi kp x y z ah sd l m g n bs es zs r j)(hj:j<=100)(τ:Sl)(e:τ=t9 scr o1 x y z ah sd i di r gi (some (.int cell)) o11 o12 o13 o14 o15 o16 ci) :
  qd z5C τ μ (E.nxt λτ μ=>qd (jk.drop 5) τ μ E):=by
 subst e
 have S:=I.S
 obtain⟨p,hp⟩:=I.tb
 have cl:=I.cl
 have bl:=I.bl
 have zl:=I.zl
 have r0:=I.r0
 have r1:=I.r1
 have hil:=(z6v.mp S.ho).1
 have hdl:=(z6v.mp S.hd).1
 have hcl:=(z6v.mp S.hc).1
 have hvl:=(z6v.mp S.hv).1
 have hbl:=(z6v.mp S.hb).1
 have hzl:=(z6v.mp I.hz).1
 have hpl:=(z6v.mp hp).1
 have fin:∀(μ3:Mem) (b':Nat) (di':Nat),(∀p,p<μ.length->μ3[p]?=μ[p]?)->μ3[μ.length]?=some (hsO (shp x y z) ah sd (ZI 1 0 [.mut ci]) l m none (.mut b') false)->μ.length<b'->μ3[b']?=some (.lst [])->μ3[di']?=some (stD l m m none (.lst []) ni)->I9 μ3 μ.length di' ci ni gi b' (ZI 1 0 [.mut ci]) x y z ah sd l m m none [] es zs r (j+1):=by
  intro μ3 b' di' hs h1 lb h2 h3
  have f:∀(p:Nat) (o:MO),μ[p]?=some o->μ3[p]?=some o:=λp o e=>(hs p (z6v.mp e).1).trans e
  exact⟨⟨h1,h3,f _ _ S.hc,f _ _ S.hv,h2,S.c1,by omega,by omega,X.BOk.nil,S.hl,λk e=>(by cases e),S.hm,S.hm,λ_=>rfl⟩,.inr rfl,f _ _ I.hz,⟨p,f _ _ hp⟩,I.g1,I.g2,by omega,I.G.begin,by omega,by simp,by show zs.length+0<=_;omega,I.nt,by push_cast;omega,by push_cast;omega⟩
 refine⟨_,S.hc,by rw[z6Q];simp only[z6Y,z7s];unfold room;omega,?_⟩
 rcases I.nt with⟨rfl,rfl,rfl⟩|⟨es',rfl⟩
 ·refine⟨_,rfl,?_⟩
  refine⟨⟨p,hp⟩,[.mut ci],rfl,?_⟩
  refine Ql zm B.a0 B.d0 λμ1 b1 ch hb1 h1 g1=>?_
  refine⟨rfl,?_⟩
  refine⟨_,_,ch.get (zf S.hd) (by simp;omega),vn,?_⟩
  refine Qv ?_
  have ln:μ.length+1<=μ1.length:=by have:=ch.len;simp at this;omega
  have lb:μ.length<b1:=by simp at hb1;omega
  refine jy q (fin (μ1++[stD none none none none (.lst []) ni]) b1 μ1.length (λp hp=>?_) (zf h1) lb (zf g1) zm) _ rfl
  rw[z6B (by omega),ch.ot p (by simp;omega) (by simp;omega),z6B hp]
 ·have ix:wG ([T.non]++(es'++[(l,m)]).map nnT) (-1)=some (zK l m):=by
   rw[z7j,←z7E]
   exact Xi
  refine⟨_,ix,?_⟩
  refine⟨⟨p,hp⟩,[.mut ci],rfl,?_⟩
  refine Kn zm B.a0 B.d0 S.hm S.hl λμ1 b1 ch hb1 h1 g1=>?_
  refine⟨rfl,?_⟩
  refine⟨_,_,ch.get (zf S.hd) (by simp;omega),vn,?_⟩
  refine U3 ?_
  have ln:μ.length+1<=μ1.length:=by have:=ch.len;simp at this;omega
  have lb:μ.length<b1:=by simp at hb1;omega
  have g0:=(z6v.mp g1).1
  have st:∀p,p<μ1.length->((μ1++[stD none none none none (.lst []) ni]).set μ1.length (stD l m m none (.lst []) ni))[p]?=μ1[p]?:=λp hp=>by
   rw[z6D (by omega),z6B hp]
  refine jy q (fin ((μ1++[stD none none none none (.lst []) ni]).set μ1.length (stD l m m none (.lst []) ni)) b1 μ1.length (λp hp=>?_) ((st _ (by omega)).trans h1) lb ((st _ g0).trans g1) (get_set zm)) _ rfl
  rw[st p (by omega),ch.ot p (by simp;omega) (by simp;omega),z6B hp]
end
section
variable {μ μ1 μ2:Mem}{K:T->Mem->Prop}{Z:Xp}{x y z:Int}{i j bi ci ni di gi:Nat}{sh kp bt kt:T}{ah sd:Int}{l l':Option Ls}{m m' n g:Option Int}{a:Ls}{r k h t w cell d:Int}{cs ks:List T}{bs:List X.Bt}{zs:List Int}{scr:T}{o1 o10 o11 o12 o13 o14 o15 o16:Option T}{E:En}{es:List Nn}
noncomputable def isN(t:T):Prop:=(∃w,t=.str w)\/(∃v,t=.int v)\/∃ts,t=.tup ts
noncomputable def F9 (t1:T)(μ2:Mem)(i di ci ni gi:Nat)(kp:T)(x y z ah sd:Int)(zs:List Int)(r:Int)(j:Nat):Prop:=
 (isN t1/\∃bi l m g n bs es,I9 μ2 i di ci ni gi bi kp x y z ah sd l m g n bs es zs r j)\/
 ∃jj ys,t1=.mut jj/\jj≠gi/\μ2[jj]?=some (.lst (ys.map T.int))/\zs.length+ys.length<=20 * j/\μ2[gi]?=some (.lst (zs.map T.int))/\∃bi l m g n bs es,I9 (μ2.set gi (.lst ((zs++ys).map T.int))) i di ci ni gi bi kp x y z ah sd l m g n bs es (zs++ys) r j
theorem I9.next(I:I9 μ i di ci ni gi bi kp x y z ah sd l m g n bs es zs r j):I9 μ i di ci ni gi bi kp x y z ah sd l m g n bs es zs r (j+1):=by
 have cl:=I.cl
 have bl:=I.bl
 have zl:=I.zl
 have r0:=I.r0
 have r1:=I.r1
 exact⟨I.S,I.hk,I.hz,I.tb,I.g1,I.g2,I.g3,I.G,by omega,by omega,by omega,I.nt,by push_cast;omega,by push_cast;omega⟩
theorem Sy9.sg(S:Sy9 μ i di ci ni bi kp x y z ah sd l m g n bs cs)(hz:μ[gi]?=some (.lst ks))(g1:gi≠ci)(g2:gi≠ni)(g3:gi≠bi){o:MO}:Sy9 (μ.set gi o) i di ci ni bi kp x y z ah sd l m g n bs cs:=by
 have e1:gi≠i:=λw=>by rw[w,S.ho] at hz;cases hz
 have e2:gi≠di:=λw=>by rw[w,S.hd] at hz;cases hz
 have f:∀(p:Nat) (u:MO),gi≠p->μ[p]?=some u->(μ.set gi o)[p]?=some u:=λp u h1 h2=>by rw[z6D h1];exact h2
 exact⟨f _ _ e1 S.ho,f _ _ e2 S.hd,f _ _ g1 S.hc,f _ _ g2 S.hv,f _ _ g3 S.hb,S.c1,S.c2,S.c3,S.B,S.hl,S.hn,S.hm,S.hg,S.gm⟩
theorem YL(hz:μ[gi]?=some (.lst ks)){o:MO}(h:∃p:Nat,μ[p]?=some (.tab 0)):∃p:Nat,(μ.set gi o)[p]?=some (.tab 0):=by
 obtain⟨p,h⟩:=h
 refine⟨p,?_⟩
 rw[z6D]
 ·exact h
 ·intro w;rw[w,h] at hz;cases hz
noncomputable abbrev esB(x z sd:Int)(a:Ls)(m:Option Int)(e:Int)(es:List Nn):List Nn:=es++if some (mbI x sd m ((e-1) / z))=m then [] else [(some a,some (mbI x sd m ((e-1) / z)))]
theorem Y4{e:Int}:csB x z sd a m e (es.map nnT)=(esB x z sd a m e es).map nnT:=by
 unfold csB esB
 rw[z7j]
 split<;>rfl
theorem Ja{e:Int}:(esB x z sd a m e es).length<=es.length+1:=by
 unfold esB
 rw[z72]
 split<;>simp
theorem KG{e:Int}(h:(es=[]/\some a=none/\m=none)\/∃es',es=es'++[(some a,m)]):∃es',esB x z sd a m e es=es'++[(some a,some (mbI x sd m ((e-1) / z)))]:=by
 unfold esB
 by_cases c:some (mbI x sd m ((e-1) / z))=m
 ·rw[if_pos c,z74]
  rcases h with⟨_,w,_⟩|⟨es',w⟩
  ·cases w
  ·exact⟨es',by rw[c];exact w⟩
 ·exact⟨es,by rw[if_neg c]⟩
theorem Uo{mo:Int}(sd0:0<=sd)(hm:∀v,m=some v->0<=v/\v<x):∀v,m=some v->v<=mbI x sd m mo:=by
 intro v e
 subst e
 have:=(hm v rfl).2
 show v<=(if mo<=v then v else mnI (mo+sd) (x-1))
 unfold mnI
 split
 ·exact zcq _
 ·split<;>omega
theorem Xo{u v:Int}(s:Hz x y z)(h:u<=v):(u+1) * y * z<=(v+1) * y * z:=by
 obtain⟨x1,y1,y2,z1,z2⟩:=id s
 exact z6P (z6P (by omega) (by omega)) (by omega)
theorem Gv.letgo{ks:List Int}(G:Gv y z m n g zs ks):Gv y z m n g zs []:=by
 refine⟨?_,λv hv=>G.ab v (z6G _ (by simpa using hv)),λv hv=>G.mr v (z6G _ (by simpa using hv))⟩
 rw[z74];exact (z7P.mp G.as).1
theorem z5B(B:B9 x y z ah sd)(I:I9 μ i di ci ni gi bi kp x y z ah sd (some a) m g n bs es zs r j)(hj:j<=100)(hd:d=0\/d=1\/d=2\/d=3)(k1:1<=k)(k2:k<=z)(k3:k<=20)
  (q:∀t1 μ1,(∀(K2:T->Mem->Prop) (Z2:Xp),(∀t2 μ2,Ag t1 t2 μ2->F9 t1 μ2 i di ci ni gi kp x y z ah sd zs r (j+1)->K2 t2 μ2)->zQ [.int d,.mut di,shT x y z,.int ah,.int sd,.int r,.int k] μ1 K2 Z2)->K t1 μ1):qk [.int d,.mut i,.int r,.int k] μ K Z:=by
 obtain⟨x1,y1,y2,z1,z2⟩:=id B.s
 have x2:=B.x2
 have y5:=B.y5
 have z9:=B.z9
 have a0:=B.a0
 have a1:=B.a1
 have cl:=I.cl
 have bl:=I.bl
 have zl:=I.zl
 have r0:=I.r0
 have r1:=I.r1
 have S:=I.S
 have ok:=S.hl a rfl
 have hcl:(es.map nnT).length<=1000:=by rw[z6Q];omega
 have hzl:=(z6v.mp I.hz).1
 have hb:x * z<1000000000000000000000000000000000000000000000000000000000000:=by
  have:x * z<=100000000000000000000 * z:=z6P x2 (by omega)
  omega
 have ux:a.2.2 * z<=x * z:=z6P ok.ux (by omega)
 have eg:=V5 (y:=y) (z:=z) (a:=a) (r:=r) S.gm
 have b0:=jX (n:=n) (m:=m) (r:=r) B.s ok
 have hlog:zd y z a n m r+k<=a.2.2 * z->0<byP z r ah (zd y z a n m r+k)->(byP z r ah (zd y z a n m r+k)).natAbs.log2<1920:=by
  intro e1 e2
  refine JU (by omega) ?_
  have d1:(zd y z a n m r+k-1) / z<x:=z7H (by omega) (by omega)
  show (zd y z a n m r+k-1) / z-(r+ah)<_
  omega
 rcases hd with rfl|rfl|rfl|rfl
 ·refine z2N B.s hb B.d0 I.hk S hcl k1 k2 (by omega) hlog λt1 μ1 q1=>q t1 μ1 λK2 Z2 q2=>q1 K2 Z2 (λt2 μ2 S2 ag c w=>q2 t2 μ2 ag (.inl ⟨?_,_,_,_,_,_,_,_,(I.up λp hp=>c.ot p hp (by simp)).next⟩)) λt2 μ2 b' jj S2 ag c w lb lj hjj e1=>q2 t2 μ2 ag (.inr ⟨jj,_,w,by omega,hjj,?_,?_,b',some a,some (mbI x sd m ((zd y z a n m r+k-1) / z)),g,some (nmA y z a.1 (zd y z a n m r+k-1)),[],esB x z sd a m (zd y z a n m r+k) es,?_⟩)
  ·rcases w with rfl|⟨v,rfl⟩
   ·exact .inl ⟨_,rfl⟩
   ·exact .inr (.inr ⟨_,rfl⟩)
  ·rw[wA];omega
  ·exact Zg S I.hz I.g1 I.g2 I.g3 (c.mono (by simp))
  ·have hz2:=Zg S I.hz I.g1 I.g2 I.g3 (c.mono (by simp):Ch [i,di,ci,ni,bi] μ μ2)
   rw[Y4] at S2
   have el:=Ja (x:=x) (z:=z) (sd:=sd) (a:=a) (m:=m) (es:=es) (e:=zd y z a n m r+k)
   have d0:0<=(zd y z a n m r+k-1) / z:=z87 (by omega) (by omega)
   have d1:(zd y z a n m r+k-1) / z<x:=z7H (by omega) (by omega)
   have hG:=Gv.ask (r:=r) (k:=k) (m':=mbI x sd m ((zd y z a n m r+k-1) / z)) B.s ok I.G k1 (by rw[←eg];exact Wc B.s ok.h0 ok.h1 (z1b B.d0 d1)) (λw e=>Xo B.s (Uo B.d0 S.hm w e))
   rw[←eg] at hG
   refine⟨S2.sg hz2 I.g1 I.g2 (by omega),I.hk,get_set hz2,YL hz2 (uP S (c.mono (by simp)) I.tb),I.g1,I.g2,by omega,hG,by omega,by simp,?_,.inr (KG I.nt),by push_cast;omega,by push_cast;omega⟩
   show (zs++nmL y z a.1 (zd y z a n m r) k).length+0<=_
   rw[z72,wA];omega
 ·refine z2H B.s B.d0 I.hk S hcl (by omega) (by omega) k1 k2 (by omega) hlog λt1 μ1 q1=>q t1 μ1 λK2 Z2 q2=>q1 K2 Z2 (λt2 μ2 S2 ag c w=>q2 t2 μ2 ag (.inl ⟨?_,_,_,_,_,_,_,_,(I.up λp hp=>c.ot p hp (by simp)).next⟩)) λt2 μ2 S2 ag c w e1=>q2 t2 μ2 ag (.inl ⟨.inr (.inl w),bi,some a,some (mbI x sd m ((zd y z a n m r+k-1) / z)),g,some (nmA y z a.1 (zd y z a n m r+k-1)),(bs++[(a.1,zd y z a n m r,zd y z a n m r+k)]),esB x z sd a m (zd y z a n m r+k) es,?_⟩)
  ·rcases w with rfl|⟨v,rfl⟩
   ·exact .inl ⟨_,rfl⟩
   ·exact .inr (.inr ⟨_,rfl⟩)
  ·have c5:Ch [i,di,ci,ni,bi] μ μ2:=c.mono (by simp)
   rw[Y4] at S2
   have el:=Ja (x:=x) (z:=z) (sd:=sd) (a:=a) (m:=m) (es:=es) (e:=zd y z a n m r+k)
   have d0:0<=(zd y z a n m r+k-1) / z:=z87 (by omega) (by omega)
   have d1:(zd y z a n m r+k-1) / z<x:=z7H (by omega) (by omega)
   have hG:=Gv.store (r:=r) (k:=k) (m':=mbI x sd m ((zd y z a n m r+k-1) / z)) B.s ok I.G k1 (by rw[←eg];exact Wc B.s ok.h0 ok.h1 (z1b B.d0 d1))
   rw[←eg] at hG
   have en:X.nmB y z (bs++[(a.1,zd y z a n m r,zd y z a n m r+k)])=X.nmB y z bs++nmL y z a.1 (zd y z a n m r) k:=by
    rw[X.nmB_snoc]
    show _++nmL y z a.1 (zd y z a n m r) (zd y z a n m r+k-zd y z a n m r)=_
    rw[show zd y z a n m r+k-zd y z a n m r=k by omega]
   refine⟨S2,I.hk,Zg S I.hz I.g1 I.g2 I.g3 c5,uP S c5 I.tb,I.g1,I.g2,I.g3,by rw[en];exact hG,by omega,by simp;omega,?_,.inr (KG I.nt),by push_cast;omega,by push_cast;omega⟩
   rw[en,z72,wA];omega
 ·refine z23 B.s hb S (by omega) (by omega) k1 λt1 μ1 q1=>q t1 μ1 λK2 Z2 q2=>q1 K2 Z2 λt2 μ2 b' os S2 ag c ol w=>q2 t2 μ2 ag ?_
  have c5:Ch [i,di,ci,ni,bi] μ μ2:=c.mono (by simp)
  have hz2:=Zg S I.hz I.g1 I.g2 I.g3 c5
  rcases w with⟨rfl,rfl,rfl⟩|⟨jj,rfl,lb,lj,hjj,on⟩
  ·exact .inl ⟨.inl ⟨_,rfl⟩,b',_,_,_,_,_,es,⟨S2,I.hk,hz2,uP S c5 I.tb,I.g1,I.g2,I.g3,I.G,by omega,by omega,by omega,I.nt,by push_cast;omega,by push_cast;omega⟩⟩
  ·have lt:((X.nmB y z bs).take k.toNat).length+(X.nmB y z os).length<=(X.nmB y z bs).length:=by
    rw[on,z8m,z8Q];omega
   refine .inr ⟨jj,_,rfl,by omega,hjj,by omega,hz2,b',_,_,_,_,os,es,⟨S2.sg hz2 I.g1 I.g2 (by omega),I.hk,get_set hz2,YL hz2 (uP S c5 I.tb),I.g1,I.g2,by omega,by rw[on];exact I.G.take,by omega,by omega,by rw[z72];omega,I.nt,by push_cast;omega,by push_cast;omega⟩⟩
 ·refine z3O B.s I.hk S hcl λt1 μ1 q1=>q t1 μ1 λK2 Z2 q2=>q1 K2 Z2 λt2 μ2 b' S2 ag c lb w=>q2 t2 μ2 ag ?_
  have c5:Ch [i,di,ci,ni,bi] μ μ2:=c.mono (by simp)
  have hz2:=Zg S I.hz I.g1 I.g2 I.g3 c5
  have ee:es.map nnT++[zK none m]=(es++[(none,m)]).map nnT:=by rw[z7j];rfl
  rw[ee] at S2
  exact .inl ⟨.inr (.inr w),b',_,_,_,_,_,es++[(none,m)],⟨S2,I.hk,hz2,uP S c5 I.tb,I.g1,I.g2,by omega,I.G.letgo,by simp;omega,by simp,by show zs.length+0<=_;omega,.inr ⟨_,rfl⟩,by push_cast;omega,by push_cast;omega⟩⟩
end
end NH.P
section
namespace NH.P
open PySem L2 NH
variable {μ μ1 μ2:Mem}{K:T->Mem->Prop}{Z:Xp}{x y z:Int}{i j bi ci ni di gi:Nat}{sh kp bt kt:T}{ah sd:Int}{l l':Option Ls}{m m' n g:Option Int}{a:Ls}{r k h t w cell d:Int}{cs ks:List T}{bs:List X.Bt}{zs:List Int}{scr:T}{o1 o10 o11 o12 o13 o14 o15 o16:Option T}{E:En}{es:List Nn}
@[reducible] noncomputable def z59:List Ds:=[(zj 15 (zb qk [(ze .Mod (eV 11) (eC (.int 4))),(eV 6),(eV 8),(eV 12)])),(sIf (tE (zv .NotEq (eV 15) (zb zQ [(ze .Mod (eV 11) (eC (.int 4))),(eV 7),(eV 2),(eV 4),(eV 5),(eV 8),(eV 12)]))) [(zp (eC (.bl false)))] []),(sIf (tE (xY [5] (eV 15))) [(zF (Km (eV 9) (eV 15)))] [])]
theorem z2r(B:B9 x y z ah sd)(q:Nx9 E scr x y z ah sd gi ci ni cell j)(I:I9 μ i di ci ni gi bi kp x y z ah sd (some a) m g n bs es zs r j)(hj:j<=100)(k1:1<=k)(k2:k<=z)(k3:k<=20)(τ:Sl)(e:τ=t9 scr o1 x y z ah sd i di r gi (some (.int cell)) (some (.int w)) (some (.int k)) o13 o14 o15 o16 ci) :
  qd z59 τ μ (E.nxt λτ μ=>qd (jk.drop 5) τ μ E):=by
 subst e
 have w4:0<=w % 4/\w % 4<4:=⟨z7h _ (by decide),z76 _ (by decide)⟩
 refine⟨by decide,?_⟩
 refine z5B B I hj (by omega) k1 k2 k3 λt1 μ1 q1=>?_
 refine⟨by decide,?_⟩
 refine q1 _ _ λt2 μ2 ag F=>?_
 refine ag _ _ _ ?_
 rcases F with⟨tn,b',l',m',g',n',bs',es',I'⟩|⟨jj,ys,rfl,ne,hjj,yl,hg,b',l',m',g',n',bs',es',I'⟩
 ·rcases tn with⟨u,rfl⟩|⟨u,rfl⟩|⟨u,rfl⟩
  ·exact jy q I' _ rfl
  ·exact jy q I' _ rfl
  ·exact jy q I' _ rfl
 ·refine⟨_,hjj,?_⟩
  refine⟨⟨_,hg⟩,_,_,hg,.inr ⟨_,rfl,ne,hjj⟩,by rw[z6Q,z6Q];unfold room;omega,?_⟩
  rw[←z7j]
  exact jy q I' _ rfl
theorem z4u(B:B9 x y z ah sd)(q:Nx9 E scr x y z ah sd gi ci ni cell (j+1))(I:I9 μ i di ci ni gi bi kp x y z ah sd l m g n bs es zs r j)(hj:j<=90):qd jk (t9 scr o1 x y z ah sd i di r gi (some (.int cell)) o11 o12 o13 o14 o15 o16 ci) μ E:=by
 obtain⟨x1,y1,y2,z1,z2⟩:=id B.s
 have z9:=B.z9
 refine uZ λd1 d2=>?_
 have st0:St (μ++[.lst [.int d1,.int d2,.int 0]]) μ.length:=⟨d1,d2,0,zm⟩
 refine zH st0 (by decide) (by decide) λv1 μ1 v10 v11 u1=>?_
 refine zH u1.st (by decide) (by decide) λv2 μ2 v20 v21 u2=>?_
 refine zH u2.st (by decide) (by decide) λv3 μ3 v30 v31 u3=>?_
 have ix:∃d:Int,wG [T.int 0,T.int v1,T.int (0-v2)] v3=some (T.int d) /\ -6<=d/\d<=6:=by
  have:v3=0\/v3=1\/v3=2:=by omega
  rcases this with rfl|rfl|rfl
  ·exact⟨0,rfl,by decide,by decide⟩
  ·exact⟨v1,rfl,by omega,by omega⟩
  ·exact⟨0-v2,rfl,by omega,by omega⟩
 obtain⟨d,hd,dl,dh⟩:=ix
 refine⟨_,hd,?_⟩
 refine zH u3.st (by decide) (by decide) λw μ4 w0 w1 u4=>?_
 refine⟨_,rfl,?_⟩
 refine zH u4.st (by split<;>omega) (by split<;>omega) λv5 μ5 v50 v51 u5=>?_
 have U:=(((u1.trans u2).trans u3).trans u4).trans u5
 have hg:∀p,p<μ.length->μ5[p]?=μ[p]?:=λp hp=>(U.ot p (by omega)).trans (z6B hp)
 have k2:1+v5<=z/\1+v5<=20:=by split at v51<;>omega
 have r0:=I.r0
 have r1:=I.r1
 have step:∀(r' k':Int),r'=r+d->k'=1+v5->qd (jk.drop 4) (t9 scr (some (.mut μ.length)) x y z ah sd i di r' gi (some (.int cell)) (some (.int w)) (some (.int k')) o13 o14 o15 o16 ci) μ5 E:=by
  intro r' k' er ek
  have I0:I9 μ i di ci ni gi bi kp x y z ah sd l m g n bs es zs r' (j+1):=⟨I.S,I.hk,I.hz,I.tb,I.g1,I.g2,I.g3,I.G,I.next.cl,I.next.bl,I.next.zl,I.nt,by push_cast;omega,by push_cast;omega⟩
  have I5:=I0.up hg
  have lea:=λ(τ:Sl)=>z2n (o11:=some (.int w)) (o12:=some (.int k')) (o13:=o13) (o14:=o14) (o15:=o15) (o16:=o16) B q I0 (by omega) hg U.st (z6E _) τ
  have res:=λ(τ:Sl)=>X7 (o1:=some (.mut μ.length)) (o11:=some (.int w)) (o12:=some (.int k')) (o13:=o13) (o14:=o14) (o15:=o15) (o16:=o16) B q I5 (by omega) τ
  refine zL (λe=>?_) (λe=>?_)
  ·exact lea _ rfl
  ·refine⟨_,_,I5.S.hd,jA,?_⟩
   cases l with
   |none=>
    refine xO (λe5=>?_) (λe5=>?_)
    ·refine wL e5 ?_
     exact res _ rfl
    ·exact lea _ rfl
   |some a=>
    refine zL (λe5=>?_) (λe5=>?_)
    ·exact res _ rfl
    ·exact z2r B q I5 (by omega) (by omega) (by omega) (by omega) _ rfl
 exact step _ _ rfl rfl
theorem VF{α:Type}{f:α->T}{l:List α}{n:Nat}{a:α}(h:l[n]?=some a):wG (l.map f) (n:Int)=some (f a):=by
 have hl:=(z6v.mp h).1
 rw[Qn (by omega) (by simp;omega)]
 simp[h]
@[reducible] noncomputable def z1w:List Ds:=[(zp (zv .Eq (ja 1 [9] (.one 0) (uU (eC (.int 1)) (eB1 ur (eV 9))) [(tE (zv .LtE (eIx (eV 1) (eV 0)) (eIx (eV 1) (ze .Sub (eV 0) (eC (.int 1))))))] (eV 0)) (ji [])))]
theorem z5u(hz:μ[gi]?=some (.lst (zs.map T.int)))(as:zs.Pairwise (·<·))(zl:zs.length<=10000)(q:∀μ',E.rt (.bl true) μ')(τ:Sl)(e:τ=t9 scr o1 x y z ah sd i di r gi o10 o11 o12 o13 o14 o15 o16 ci):qd z1w τ μ E:=by
 subst e
 refine⟨_,hz,?_⟩
 refine⟨⟨⟨by decide,by decide⟩,⟨by omega,by rw[z6Q];omega⟩⟩,?_⟩
 unfold jw
 refine⟨?_,?_⟩
 ·rw[z6Q,zc3,z6Q]
  unfold room
  split<;>omega
 ·refine vQ (λ(k:Nat)=>T.int (1+(k:Int) * 1)) (λ_=>none) (λk hk kk hkk=>?_) ?_ trivial
  ·have hk:=z8H.mp hk
   rw[z6Q] at hk
   have hk':k+1<zs.length:=by split at hk<;>omega
   have e1:wG (zs.map T.int) (1+(k:Int) * 1)=some (.int zs[k+1]):=by
    rw[show (1+(k:Int) * 1)=((k+1:Nat):Int) by omega]
    exact VF (z8i hk')
   have e2:wG (zs.map T.int) (1+(k:Int) * 1-1)=some (.int zs[k]):=by
    rw[show (1+(k:Int) * 1-1)=((k:Nat):Int) by omega]
    exact VF (z8i (by omega))
   have lt:zs[k]<zs[k+1]:=List.pairwise_iff_getElem.mp as k (k+1) (by omega) hk' (by omega)
   refine⟨_,rfl,?_⟩
   refine⟨_,_,hz,e1,?_⟩
   refine⟨_,_,hz,e2,?_⟩
   refine jx (by omega) ?_
   exact hkk
  ·rw[show ∀l:List Nat,l.filterMap (λ_=>(none:Option T))=[] from λl=>by induction l<;>simp_all]
   refine⟨_,zm,?_⟩
   refine⟨by simp[qi],true,rfl,?_⟩
   exact q _
theorem z4z{xs:List T}{lv:Mem->Prop}(B:B9 x y z ah sd)(hlv:∀μ,lv μ)(hx:∀t∈xs,∃c,t=T.int c)(hxl:xs.length<=40)(I:I9 μ i di ci ni gi bi kp x y z ah sd l m g n bs es zs r 0)(q:∀μ',E.rt (.bl true) μ')(τ:Sl)(e:τ=t9 scr o1 x y z ah sd i di r gi o10 o11 o12 o13 o14 o15 o16 ci) :
  forM (.one 10) (qd jk) lv xs τ μ (E.nxt λτ μ=>qd z1w τ μ E):=by
 subst e
 refine j_ (λnn τ μ'=>nn<=xs.length/\∃i di bi kp l m g n bs es zs r o1 o10 o11 o12 o13 o14 o15 o16,τ=t9 scr o1 x y z ah sd i di r gi o10 o11 o12 o13 o14 o15 o16 ci/\I9 μ' i di ci ni gi bi kp x y z ah sd l m g n bs es zs r (2 * nn)) ⟨z9s _,_,_,_,_,_,_,_,_,_,_,_,_,_,_,_,_,_,_,_,_,rfl,I⟩ ?_ ?_ (λ_ _ _ _=>hlv _)
 ·rintro nn t0 τ μ' hxx ⟨hnn,i,di,bi,kp,l,m,g,n,bs,es,zs,r,o1,o10,o11,o12,o13,o14,o15,o16,rfl,I⟩ N hN
  obtain⟨cell,rfl⟩:=hx t0 (z6M hxx)
  have hlt:=(z6v.mp hxx).1
  refine⟨_,rfl,?_⟩
  exact z4u B (λμ' i di bi kp l m g n bs es zs r o1 o11 o12 o13 o14 o15 o16 I'=>hN _ _ ⟨by omega,i,di,bi,kp,l,m,g,n,bs,es,zs,r,o1,_,o11,o12,o13,o14,o15,o16,rfl,I'⟩) I (by show 2 * nn<=90;omega)
 ·rintro τ μ' ⟨hnn,i,di,bi,kp,l,m,g,n,bs,es,zs,r,o1,o10,o11,o12,o13,o14,o15,o16,rfl,I⟩
  have zl:=I.zl
  exact z5u I.hz (z7P.mp I.G.as).1 (by omega) q _ rfl
theorem z03:WW jS:=by
 intro ns hns
 unfold jS
 refine⟨rfl,?_⟩
 refine kg (by decide) λc0=>?_
 refine uZ λd1 d2=>?_
 have st0:St ([MO.tab 0]++[.lst [.int d1,.int d2,.int 0]]) 1:=⟨d1,d2,0,rfl⟩
 refine YV st0 λx y z μ1 x1 x2 y1 y5 z1 z9 u1=>?_
 refine⟨_,rfl,_,rfl,_,rfl,?_⟩
 refine⟨rfl,?_⟩
 refine uC x1 y1 z1 ?_
 refine⟨rfl,_,rfl,rfl,?_⟩
 refine zH u1.st (by decide) (by decide) λah μ2 a0 a1 u2=>?_
 refine zH u2.st (by decide) (by decide) λs1 μ3 s10 s11 u3=>?_
 refine zH u3.st (by decide) (by decide) λs2 μ4 s20 s21 u4=>?_
 have sdh:∃sd,wG [T.int 0,T.int s1] s2=some (.int sd)/\0<=sd:=by
  have:s2=0\/s2=1:=by omega
  rcases this with rfl|rfl
  ·exact⟨0,rfl,by decide⟩
  ·exact⟨s1,rfl,s10⟩
 obtain⟨sd,esd,sd0⟩:=sdh
 refine⟨_,esd,?_⟩
 have U:=((u1.trans u2).trans u3).trans u4
 have l4:μ4.length=2:=U.len
 have t4:μ4[0]?=some (.tab 0):=(U.ot 0 (by decide)).trans rfl
 have B:B9 x y z ah sd:=⟨⟨x1,y1,by omega,z1,by omega⟩,x2,y5,z9,a0,by omega,sd0⟩
 have l5:(μ4++[MO.lst []]).length=3:=by simp[l4]
 refine⟨⟨0,zf t4⟩,[.mut μ4.length],rfl,?_⟩
 refine Ql zm a0 sd0 λμ6 bi ch hbi h6 g6=>?_
 refine⟨rfl,?_⟩
 refine Qv ?_
 have hcl:(xy (ns.map T.int) (some 2) (some 30)).length<=28:=by
  unfold xy WH
  simp only[z8m,z8Q]
  simp
  omega
 refine kg (by decide) λc1=>?_
 refine⟨by simp only[z6Y,z7s];unfold room;omega,?_⟩
 have ln6:4<=μ6.length:=by have:=ch.len;simp[l4] at this;omega
 have bL:=(z6v.mp g6).1
 have c6:μ6[μ4.length]?=some (.lst []):=(ch.ot μ4.length (by simp<;>omega) (by simp)).trans (zf zm)
 have t6:μ6[0]?=some (.tab 0):=(ch.ot 0 (by simp[l4]) (by simp[l4])).trans (zf (zf t4))
 have hb4:4<=bi:=by simp[l4] at hbi;omega
 have I:I9 (μ6++[MO.lst []]++[stD none none none none (.lst []) μ6.length]++[MO.lst []]) (μ4++[MO.lst []]).length (μ6++[MO.lst []]).length μ4.length μ6.length (μ6++[MO.lst []]++[stD none none none none (.lst []) μ6.length]).length bi (ZI 0 0 [.mut μ4.length]) x y z ah sd none none none none [] [] [] 0 0:=
  ⟨⟨zf (zf (zf h6)),zf zm,zf (zf (zf c6)),zf (zf zm),zf (zf (zf g6)),by omega,by omega,by omega,X.BOk.nil,by simp,by simp,by simp,by simp,λ_=>rfl⟩,.inl rfl,zm,⟨0,zf (zf (zf t6))⟩,by simp;omega,by simp,by simp;omega,Gv.nil,by simp,by simp,by simp[X.nmB],.inl ⟨rfl,rfl,rfl⟩,by decide,by decide⟩
 refine z4z B (λ_=>trivial) (λt ht=>?_) ?_ I (λ_=>rfl) _ rfl
 ·rcases z6K.mp ht with w|w
  ·exact⟨_,z6J.mp w⟩
  ·obtain⟨n,_,e⟩:=z7K.mp (XN w)
   exact⟨n,e.symm⟩
 ·rw[z72]
  simp only[z6Y,z7s]
  omega
end NH.P
namespace NH.K90
open PySem L2 NH NH.P
theorem tells:WW jS:=z03
end NH.K90
end
namespace NH.K90
open PySem PySem.Spec PyProof.Rows L2 NH NH.P PySem.W
theorem z57{P:List Value->Prop}(h:∀a0,P [a0]):∀us:List Value,us.length=1->P us:=PL.all (n:=1) h
theorem z4n{P:List Value->Prop}(h:∀a0 a1,P [a0,a1]):∀us:List Value,us.length=2->P us:=PL.all (n:=2) h
theorem z4Z{P:List Value->Prop}(h:∀a0 a1 a2,P [a0,a1,a2]):∀us:List Value,us.length=3->P us:=PL.all (n:=3) h
theorem z65{P:List Value->Prop}(h:∀a0 a1 a2 a3 a4,P [a0,a1,a2,a3,a4]):∀us:List Value,us.length=5->P us:=PL.all (n:=5) h
theorem z5_{P:List Value->Prop}(h:∀a0 a1 a2 a3 a4 a5,P [a0,a1,a2,a3,a4,a5]):∀us:List Value,us.length=6->P us:=PL.all (n:=6) h
theorem z5c{P:List Value->Prop}(h:∀a0,P [a0]):∀us:List Value,us.length+1=2->P us:=λus e=>z57 h us (zaD e)
theorem z16{P:List Value->Prop}(h:∀a0 a1,P [a0,a1]):∀us:List Value,us.length+1=3->P us:=λus e=>z4n h us (zaD e)
theorem z52{P:List Value->Prop}(h:∀a0 a1 a2 a3 a4,P [a0,a1,a2,a3,a4]):∀us:List Value,us.length+1=6->P us:=λus e=>z65 h us (zaD e)
theorem all_mk {l:zcD} {w:z7o} {K:Frag} {h:Heap} {mg:Str->Option Value} {fa C0 C1 C2 C3 C4 C5 C6 C7 C8 C9 P0 cA0 f0 N0 CC5 CC19 f26 CC26 dt26 f36 dt36 f37 dt37 f38 dt38 f57:Addr} {od0 an0 dd0 od26 an26 te26 od36 an36 te36 od37 an37 te37 od38 an38 te38 od57 an57:Option Addr} {sl0 sl26 ts26 sl36 ts36 sl37 ts37 sl38 ts38 sl57:Array (Option Value)} {oc0 kV0 dc0 pm0 cd0 ct0 oc26 kV26 dc26 pm26 cd26 ct26 td26 oc36 kV36 dc36 pm36 cd36 ct36 td36 oc37 kV37 dc37 pm37 cd37 ct37 td37 oc38 kV38 dc38 pm38 cd38 ct38 td38 oc57 kV57 dc57 pm57 ct57:Value} {nm0 qn0:Str} {bs0 sb0:List Value} {hd0 ab0:Bool} {sn0:List Str} {co0:Option Bool} {ka0 kb0 kc0 kd0 ke0:Option Value} {tk12 tk13 tk14 tz36 tz37 tz38:Tok} {tn26 tn36 tn37 tn38:Nat} (X:K.In h) (G:h.Ns z6T mg) (hfa:mg "law"=some (.ref fa))
  (e0:nsIn K z6T "HouseError"=some (some (.ref C0)))
  (e1:nsIn K z6T "NoShape"=some (some (.ref C1)))
  (e2:nsIn K z6T "NoName"=some (some (.ref C2)))
  (e3:nsIn K z6T "NoTime"=some (some (.ref C3)))
  (e4:nsIn K z6T "NoLease"=some (some (.ref C4)))
  (e5:nsIn K z6T "TooMany"=some (some (.ref C5)))
  (e6:nsIn K z6T "Wait"=some (some (.ref C6)))
  (e7:nsIn K z6T "Empty"=some (some (.ref C7)))
  (e8:nsIn K z6T "NoNote"=some (some (.ref C8)))
  (e9:nsIn K z6T "Fallen"=some (some (.ref C9)))
  (xa0:K.lookup C6=some (z8c nm0 qn0 C6 N0 bs0 (.ref C0::zW) hd0 sn0 sb0 ab0 co0 dd0 ka0 kb0 kc0 kd0 ke0 "ValueError.__new__"))
  (xb0:zcT K N0=true)
  (xc0:nsIn K N0 "__init__"=some (some (.ref f0)))
  (xd0:zcL K (.ref f0)=some (.type "function"))
  (xe0:z70 K (.ref C6) "__setattr__"=some (some (.builtin "object.__setattr__")))
  (xf0:z70 K (.ref C6) "by"=some none)
  (xg0:z89 K C6=true)
  (xh0:z8l K (.ref C6)=true)
  (ha0:z8b K (.ref C0) "__getattribute__"=some (some (.builtin "type.__getattribute__")))
  (ha1:zcx K C0 (.type "type")=true)
  (ha2:zcy K (.ref C0) (.type "type") "__init__"=some (.val (.builtin "ValueError.__init__")))
  (l0:K.lookup f0=some ⟨oc0,od0,.func (fnOf "__init__" "Wait.__init__" (zC wF) (z5 wF) (zo wF) .none kV0 dc0 pm0 an0 cd0 ct0),sl0⟩)
  (c0:z8o K cd0 "Wait.__init__"=true)
  (k0:z8l K (.ref f0)=true)
  (p1:qg K "is_whole" yu)
  (p2:qg K "is_size" ZA)
  (p3:qg K "is_from_nought" wR)
  (p4:qg K "is_below" uf)
  (p5:z0q K CC5 "Shape" "Shape.__init__" jT)
  (p6:qg K "names_in" y6)
  (p7:qg K "is_name" Zm)
  (p8:qg K "check_name" kA)
  (p9:qg K "check_part" kB)
  (p10:qg K "name_of" Zl)
  (p11:qg K "parts_of" yn)
  (v12:nsIn K z6T "HOUSE"=some (some (.int 0 tk12)))
  (v13:nsIn K z6T "FIRST"=some (some (.int 1 tk13)))
  (v14:nsIn K z6T "UNTIL"=some (some (.int 2 tk14)))
  (p15:qg K "is_lease" yO)
  (p16:qg K "check_lease" j7)
  (p17:qg K "used_of" Z1)
  (p18:qg K "is_note" Zc)
  (p19:z0q K CC19 "Batch" "Batch.__init__" jY)
  (p20:qg K "name_at" Zw)
  (p21:qg K "names_of_batch" w8)
  (p22:qg K "size_of" kY)
  (p23:qg K "parted" Qy)
  (p24:qg K "place_above" j9)
  (q26:nsIn K z6T "House"=some (some (.ref CC26)))
  (i26:z70 K (.ref CC26) "__init__"=some (some (.ref f26)))
  (j26:isFn K (.ref f26)=true)
  (l26:K.lookup f26=some ⟨oc26,od26,.func (fnOf "__init__" "House.__init__" (zC zy) (z5 zy) (zo zy) (.ref dt26) kV26 dc26 pm26 an26 cd26 ct26),sl26⟩)
  (d26:K.lookup dt26=some ⟨td26,te26,.seq #[.none] tn26,ts26⟩)
  (c26:z8o K cd26 "House.__init__"=true)
  (k26:z8l K (.ref f26)=true)
  (mk26:zcr K CC26=true)
  (kk26:z8l K (.ref CC26)=true)
  (p27:jU K CC26 "check_up" "House.check_up" wM)
  (p28:jU K CC26 "note" "House.note" jP)
  (p29:jU K CC26 "keep" "House.keep" vM)
  (p30:jU K CC26 "take_lease" "House.take_lease" qP)
  (p31:jU K CC26 "check_has_lease" "House.check_has_lease" qz)
  (p32:jU K CC26 "free_place" "House.free_place" wm)
  (p33:jU K CC26 "next_batch" "House.next_batch" w9)
  (p34:jU K CC26 "mark_behind" "House.mark_behind" qR)
  (p35:jU K CC26 "hand_out" "House.hand_out" wb)
  (i36:z70 K (.ref CC26) "ask"=some (some (.ref f36)))
  (j36:isFn K (.ref f36)=true)
  (l36:K.lookup f36=some ⟨oc36,od36,.func (fnOf "ask" "House.ask" (zC zB) (z5 zB) (zo zB) (.ref dt36) kV36 dc36 pm36 an36 cd36 ct36),sl36⟩)
  (d36:K.lookup dt36=some ⟨td36,te36,.seq #[.int 1 tz36] tn36,ts36⟩)
  (c36:z8o K cd36 "House.ask"=true)
  (k36:z8l K (.ref f36)=true)
  (i37:z70 K (.ref CC26) "store"=some (some (.ref f37)))
  (j37:isFn K (.ref f37)=true)
  (l37:K.lookup f37=some ⟨oc37,od37,.func (fnOf "store" "House.store" (zC zw) (z5 zw) (zo zw) (.ref dt37) kV37 dc37 pm37 an37 cd37 ct37),sl37⟩)
  (d37:K.lookup dt37=some ⟨td37,te37,.seq #[.int 1 tz37] tn37,ts37⟩)
  (c37:z8o K cd37 "House.store"=true)
  (k37:z8l K (.ref f37)=true)
  (i38:z70 K (.ref CC26) "take"=some (some (.ref f38)))
  (j38:isFn K (.ref f38)=true)
  (l38:K.lookup f38=some ⟨oc38,od38,.func (fnOf "take" "House.take" (zC zG) (z5 zG) (zo zG) (.ref dt38) kV38 dc38 pm38 an38 cd38 ct38),sl38⟩)
  (d38:K.lookup dt38=some ⟨td38,te38,.seq #[.int 1 tz38] tn38,ts38⟩)
  (c38:z8o K cd38 "House.take"=true)
  (k38:z8l K (.ref f38)=true)
  (p39:jU K CC26 "last_moment" "House.last_moment" qS)
  (p40:jU K CC26 "give_back" "House.give_back" qT)
  (p41:jU K CC26 "last" "House.last" kC)
  (p42:qg K "_law_cell_at" k_)
  (p43:qg K "_law_mixed" Zq)
  (p44:qg K "_law_digits" yq)
  (p45:qg K "_law_next" y7)
  (p46:qg K "_law_shape" xf)
  (p47:qg K "_law_parts" Z9)
  (p48:qg K "_law_after" uS)
  (p49:qg K "_law_names" uQ)
  (p50:qg K "_law_began" Zn)
  (p51:qg K "_law_note" Wj)
  (p52:qg K "_law_ready" uY)
  (p53:qg K "_law_back" yY)
  (p54:qg K "_law_due" Z6)
  (p55:qg K "_law_done" Qz)
  (p56:qg K "_law_drawn_lease" wC)
  (a57:nsIn K z6T "law"=some (some (.ref f57)))
  (l57:K.lookup f57=some ⟨oc57,od57,.func (fnOf "law" "law" (zC qo) (z5 qo) (zo qo) .none kV57 dc57 pm57 an57 (.ref cA0) ct57),sl57⟩)
  (c57:z8o K (.ref cA0) "law"=true)
  (zt0:zcj K cA0 P0=true)
  (zk0:K.lookup P0=none)
  (zs0:P0≠zcX)
  (k57:z8l K (.ref f57)=true)
  (x0:z8Y K C0 zW "ValueError.__new__"=true)
  (x1:z8Y K C1 zW "ValueError.__new__"=true)
  (x2:z8Y K C2 zW "ValueError.__new__"=true)
  (x3:z8Y K C3 zW "ValueError.__new__"=true)
  (x4:z8Y K C4 zW "ValueError.__new__"=true)
  (x5:z8Y K C5 zW "ValueError.__new__"=true)
  (x7:z8Y K C7 zW "ValueError.__new__"=true)
  (x8:z8Y K C8 zW "ValueError.__new__"=true)
  (x9:z8Y K C9 zW "ValueError.__new__"=true)
  (zl:V6 K=true)
  (zc:chk K ⟨[(10,C0),(12,C1),(13,C2),(16,C3),(18,C4),(20,C5),(21,C6),(22,C7),(23,C8),(24,C9)],[(40,CC5),(44,CC19),(45,CC26)]⟩ cls fld=true)
  (zg:Ym K ⟨[(10,C0),(12,C1),(13,C2),(16,C3),(18,C4),(20,C5),(21,C6),(22,C7),(23,C8),(24,C9)],[(40,CC5),(44,CC19),(45,CC26)]⟩ ["ValueError","bool","int","isinstance","len","list","max","min","range","sum","tuple"] [("HouseError",10),("NoShape",12),("NoName",13),("NoTime",16),("NoLease",18),("TooMany",20),("Empty",22),("NoNote",23),("Fallen",24)] [("Wait",21,29)]=true) :
  (V6 K=true/\K.lookup P0=none/\P0≠zcX/\∃c,zcj K c P0=true)/\∃fd:z7T,(∀(s:z6z) (v:Value),zbO s fd ⟨[v],[]⟩ [("_law_script",v)])/\∀base:Heap,K.In base->base.Ns z6T mg->base.BuiltinsAt mg P0->FnOk l.prog w K mg base (CX1 l.prog w) 59 fa fd ["_law_script"] (Wu K P0):=by
 have e:=hfa.symm.trans (zbn X G a57)
 cases e
 have F0:=ua (st:=wF) l0 c0 k0
 have b0:=F0.binds (ps:=["self","by"]) λ_ _ _ _ _ _=>z4n λ_ _=>rfl
 have b26:=vV (K:=K) (fd:=fnOf "__init__" "House.__init__" (zC zy) (z5 zy) (zo zy) (.ref dt26) kV26 dc26 pm26 an26 cd26 ct26) (ps:=["self","shape","ahead","stride","keeper","note"]) rfl d26 rfl <| z5_ λ_ _ _ _ _ _=>⟨_,rfl,rfl⟩
 have bd26:=vO (K:=K) (d:=.none) (fd:=fnOf "__init__" "House.__init__" (zC zy) (z5 zy) (zo zy) (.ref dt26) kV26 dc26 pm26 an26 cd26 ct26) (ps:=["self","shape","ahead","stride","keeper","note"]) rfl d26 rfl <| z52 λ_ _ _ _ _=>⟨_,rfl,rfl⟩
 have b36:=vV (K:=K) (fd:=fnOf "ask" "House.ask" (zC zB) (z5 zB) (zo zB) (.ref dt36) kV36 dc36 pm36 an36 cd36 ct36) (ps:=["self","reading","many"]) rfl d36 rfl <| z4Z λ_ _ _=>⟨_,rfl,rfl⟩
 have bd36:=vO (K:=K) (d:=.int 1 tz36) (fd:=fnOf "ask" "House.ask" (zC zB) (z5 zB) (zo zB) (.ref dt36) kV36 dc36 pm36 an36 cd36 ct36) (ps:=["self","reading","many"]) rfl d36 rfl <| z16 λ_ _=>⟨_,rfl,rfl⟩
 have b37:=vV (K:=K) (fd:=fnOf "store" "House.store" (zC zw) (z5 zw) (zo zw) (.ref dt37) kV37 dc37 pm37 an37 cd37 ct37) (ps:=["self","reading","many"]) rfl d37 rfl <| z4Z λ_ _ _=>⟨_,rfl,rfl⟩
 have bd37:=vO (K:=K) (d:=.int 1 tz37) (fd:=fnOf "store" "House.store" (zC zw) (z5 zw) (zo zw) (.ref dt37) kV37 dc37 pm37 an37 cd37 ct37) (ps:=["self","reading","many"]) rfl d37 rfl <| z16 λ_ _=>⟨_,rfl,rfl⟩
 have b38:=vV (K:=K) (fd:=fnOf "take" "House.take" (zC zG) (z5 zG) (zo zG) (.ref dt38) kV38 dc38 pm38 an38 cd38 ct38) (ps:=["self","many"]) rfl d38 rfl <| z4n λ_ _=>⟨_,rfl,rfl⟩
 have bd38:=vO (K:=K) (d:=.int 1 tz38) (fd:=fnOf "take" "House.take" (zC zG) (z5 zG) (zo zG) (.ref dt38) kV38 dc38 pm38 an38 cd38 ct38) (ps:=["self","many"]) rfl d38 rfl <| z5c λ_=>⟨_,rfl,rfl⟩
 have F57:=ua (st:=qo) l57 c57 k57
 have b57:=F57.binds (ps:=["_law_script"]) λ_ _ _ _ _ _=>z57 λ_=>rfl
 refine⟨⟨zl,zk0,zs0,cA0,zt0⟩,⟨fnOf "law" "law" (zC qo) (z5 qo) (zo qo) .none kV57 dc57 pm57 an57 (.ref cA0) ct57,λs v=>.of_eq rfl,λbase kb nb nbt=>?_⟩⟩
 let B:=@GsB l w K mg base
 have Z:Pk RU K mg base _ _ _:=⟨yQ,kb,nb,zc⟩
 have g0:GsOk l.prog w K mg base ⟨[(10,C0),(12,C1),(13,C2),(16,C3),(18,C4),(20,C5),(21,C6),(22,C7),(23,C8),(24,C9)],[(40,CC5),(44,CC19),(45,CC26)]⟩ (z35 z0l ([(P0,[⟨360,59,360,116⟩,⟨376,67,376,112⟩],((("law":Str)++".<locals>.")++"<lambda>"))]:List (Addr×List Pos×Str))) 0 gs0 (λj=>([(P0,[⟨360,59,360,116⟩,⟨376,67,376,112⟩],((("law":Str)++".<locals>.")++"<lambda>"))]:List (Addr×List Pos×Str))[j]?):=Wv kb nb zg ⟨⟨C0,rfl,x0⟩,⟨C1,rfl,x1⟩,⟨C2,rfl,x2⟩,⟨C3,rfl,x3⟩,⟨C4,rfl,x4⟩,⟨C5,rfl,x5⟩,⟨C7,rfl,x7⟩,⟨C8,rfl,x8⟩,⟨C9,rfl,x9⟩,trivial⟩
 have XI0:XIn K C6 C0 f0 "by":=⟨⟨N0,nm0,qn0,bs0,hd0,sn0,sb0,ab0,co0,dd0,ka0,kb0,kc0,kd0,ke0,xa0,xb0,xc0⟩,x0,xd0,xe0,xf0,xg0,xh0⟩
 have W0:FnOk l.prog w K mg base (CX1 l.prog w) 1 f0 _ ["self","by"] (spI C6 "by"):=z5G XI0 ⟨zbn kb nb e0,ha0,ha1,ha2⟩ l0 c0 (by first|exact⟨_,_,_,_,_,_,_,_,_,_,_,rfl,rfl,.inl ⟨_,_,_,_,_,_,_,_,rfl,by decide,by decide⟩⟩|exact⟨_,_,_,_,_,_,_,_,_,_,_,rfl,rfl,.inr ⟨_,_,_,_,_,rfl,by decide⟩⟩) rfl
 have g1:B 2 gs1:=GsOk.add (g0.mono (by decide)) ⟨C6,C0,f0,_,_,1,rfl,zbn kb nb e6,rfl,XI0,b0,by decide,W0⟩ rfl
 have g2:B 2 gs2:=GsOk.add g1 ⟨C6,C0,f0,_,_,1,rfl,zbn kb nb e6,rfl,XI0,b0,by decide,W0⟩ rfl
 have g3:B 3 gs3:=Z.fn (ps:=["thing"]) p1 g2 Vw rfl rfl (λ_ _ _ _ _ _ _=>rfl) rfl
 have g4:B 4 gs4:=Z.fn (ps:=["thing"]) p2 g3 Kd rfl rfl (λ_ _ _ _ _ _ _=>rfl) rfl
 have g5:B 5 gs5:=Z.fn (ps:=["thing"]) p3 g4 kN rfl rfl (λ_ _ _ _ _ _ _=>rfl) rfl
 have g6:B 6 gs6:=Z.fn (ps:=["thing","bound"]) p4 g5 Vf rfl rfl (λ_ _ _ _ _ _ _ _=>rfl) rfl
 have g7:B 8 gs7:=Z.cl (ps:=["self","moments","houses","counts"]) p5 g6 Qe rfl rfl rfl (λ_ _ _ _ _ _ _ _ _ _=>rfl) rfl
 have g8:B 9 gs8:=Z.fn (ps:=["shape"]) p6 g7 Vq rfl rfl (λ_ _ _ _ _ _ _=>rfl) rfl
 have g9:B 10 gs9:=Z.fn (ps:=["shape","thing"]) p7 g8 Kb rfl rfl (λ_ _ _ _ _ _ _ _=>rfl) rfl
 have g10:B 11 z3R:=Z.fn (ps:=["shape","thing"]) p8 g9 ZH rfl rfl (λ_ _ _ _ _ _ _ _=>rfl) rfl
 have g11:B 12 z1F:=Z.fn (ps:=["thing","bound"]) p9 g10 ZY rfl rfl (λ_ _ _ _ _ _ _ _=>rfl) rfl
 have g12:B 13 z3q:=Z.fn (ps:=["shape","moment","house","count"]) p10 g11 Kl rfl rfl (λ_ _ _ _ _ _ _ _ _ _=>rfl) rfl
 have g13:B 14 z5L:=Z.fn (ps:=["shape","name"]) p11 g12 V8 rfl rfl (λ_ _ _ _ _ _ _ _=>rfl) rfl
 have g14:B 14 z4J:=GsOk.add g13 ⟨_,(.int 0),zbn kb nb v12,⟨_,rfl⟩,λ_ _ _=>rfl⟩ rfl
 have g15:B 14 z5q:=GsOk.add g14 ⟨_,(.int 1),zbn kb nb v13,⟨_,rfl⟩,λ_ _ _=>rfl⟩ rfl
 have g16:B 14 z2k:=GsOk.add g15 ⟨_,(.int 2),zbn kb nb v14,⟨_,rfl⟩,λ_ _ _=>rfl⟩ rfl
 have g17:B 15 z2T:=Z.fn (ps:=["shape","thing"]) p15 g16 Vk rfl rfl (λ_ _ _ _ _ _ _ _=>rfl) rfl
 have g18:B 16 z1Y:=Z.fn (ps:=["shape","thing"]) p16 g17 uB rfl rfl (λ_ _ _ _ _ _ _ _=>rfl) rfl
 have g19:B 17 z2W:=Z.fn (ps:=["lease","moment"]) p17 g18 K5 rfl rfl (λ_ _ _ _ _ _ _ _=>rfl) rfl
 have g20:B 18 z3h:=Z.fn (ps:=["shape","thing"]) p18 g19 Kx rfl rfl (λ_ _ _ _ _ _ _ _=>rfl) rfl
 have g21:B 20 z2p:=Z.cl (ps:=["self","house","begin","end"]) p19 g20 Qj rfl rfl rfl (λ_ _ _ _ _ _ _ _ _ _=>rfl) rfl
 have g22:B 21 z25:=Z.fn (ps:=["shape","house","place"]) p20 g21 K6 rfl rfl (λ_ _ _ _ _ _ _ _ _=>rfl) rfl
 have g23:B 22 z4f:=Z.fn (ps:=["shape","batch"]) p21 g22 jH rfl rfl (λ_ _ _ _ _ _ _ _=>rfl) rfl
 have g24:B 23 z3j:=Z.fn (ps:=["batches"]) p22 g23 Qp rfl rfl (λ_ _ _ _ _ _ _=>rfl) rfl
 have g25:B 24 z31:=Z.fn (ps:=["batches","many"]) p23 g24 X4 rfl rfl (λ_ _ _ _ _ _ _ _=>rfl) rfl
 have g26:B 25 z3g:=Z.fn (ps:=["shape","house","name"]) p24 g25 uy rfl rfl (λ_ _ _ _ _ _ _ _ _=>rfl) rfl
 have g27:B 26 z1O:=GsOk.add (g26.mono (by decide)) (z10 (n:=60) (tbs:=([(P0,[⟨360,59,360,116⟩,⟨376,67,376,112⟩],((("law":Str)++".<locals>.")++"<lambda>"))]:List (Addr×List Pos×Str))) (G:=[]) yQ (by show 1<=100;decide) (AllL.mem (ls:=z0l) ⟨rfl,rfl,trivial⟩) (yw (N:=[]) (G:=[]) (cel:=[]) (own:=[]) (lam:=none) kb nb zc g26) z4c.mem) rfl
 have W26:FnOk l.prog w K mg base (CX1 l.prog w) 27 f26 _ ["self","shape","ahead","stride","keeper","note"] (spN _ 6 zD):=kD (m:=0) yQ (yw (N:=["self","shape","ahead","stride","keeper","note"]) (G:=["is_from_nought","NoTime","is_note","NoNote"]) (cel:=[]) (own:=["batches"]) (lam:=none) kb nb zc g27) l26 c26 rfl rfl yJ
 have g28:B 28 z5I:=GsOk.add (g27.mono (by decide)) ⟨CC26,f26,_,_,27,rfl,zbn kb nb q26,⟨mk26,i26,j26,kk26⟩,b26,by decide,W26,qB⟩ rfl
 have g29:B 28 z48:=GsOk.add (x:=til "House") g28 ⟨CC26,f26,_,_,27,rfl,zbn kb nb q26,⟨mk26,i26,j26,kk26⟩,bd26,by decide,W26,qB,rfl⟩ rfl
 have g30:B 29 z3d:=Z.met (ps:=["self"]) p27 g29 kT rfl rfl rfl rfl (λ_ _ _ _ _ _ _=>rfl) rfl
 have g31:B 30 z38:=Z.met (ps:=["self"]) p28 g30 Qg rfl rfl rfl rfl (λ_ _ _ _ _ _ _=>rfl) rfl
 have g32:B 31 z3e:=Z.met (ps:=["self","lease","mark"]) p29 g31 yo rfl rfl rfl rfl (λ_ _ _ _ _ _ _ _ _=>rfl) rfl
 have g33:B 32 z1J:=Z.met (ps:=["self","lease"]) p30 g32 vC rfl rfl rfl rfl (λ_ _ _ _ _ _ _ _=>rfl) rfl
 have g34:B 33 z3S:=Z.met (ps:=["self"]) p31 g33 wW rfl rfl rfl rfl (λ_ _ _ _ _ _ _=>rfl) rfl
 have g35:B 34 z2P:=Z.met (ps:=["self"]) p32 g34 jv rfl rfl rfl rfl (λ_ _ _ _ _ _ _=>rfl) rfl
 have g36:B 35 z2C:=Z.met (ps:=["self","reading","many"]) p33 g35 jq rfl rfl rfl rfl (λ_ _ _ _ _ _ _ _ _=>rfl) rfl
 have g37:B 36 z3N:=Z.met (ps:=["self","moment"]) p34 g36 vZ rfl rfl rfl rfl (λ_ _ _ _ _ _ _ _=>rfl) rfl
 have g38:B 37 z3V:=Z.met (ps:=["self","reading","many"]) p35 g37 jE rfl rfl rfl rfl (λ_ _ _ _ _ _ _ _ _=>rfl) rfl
 have W36:FnOk l.prog w K mg base (CX1 l.prog w) 38 f36 _ ["self","reading","many"] (spN _ 3 qh):=kD (m:=1) yQ (yw (N:=["self","reading","many","batch"]) (G:=["names_of_batch"]) (cel:=[]) (own:=["batches"]) (lam:=none) kb nb zc g38) l36 c36 rfl rfl uw
 have g39:B 38 z4V:=GsOk.add (g38.mono (by decide)) ⟨CC26,f36,_,_,38,rfl,jo (c:=45) zc rfl,⟨i36,j36,k36⟩,λi h=>absurd (z6M (show FLD[i]?=some "ask" from h)) (by decide +kernel),b36,by decide,W36,qB⟩ rfl
 have g40:B 38 z3c:=GsOk.add (x:=til (dot "ask")) g39 ⟨CC26,f36,_,_,38,_,(.int 1),rfl,jo (c:=45) zc rfl,⟨i36,j36,k36⟩,λi h=>absurd (z6M (show FLD[i]?=some "ask" from h)) (by decide +kernel),bd36,⟨_,rfl⟩,λ_ _ _=>rfl,by decide,W36,qB,rfl⟩ rfl
 have W37:FnOk l.prog w K mg base (CX1 l.prog w) 39 f37 _ ["self","reading","many"] (spN _ 3 zV):=kD (m:=1) yQ (yw (N:=["self","reading","many","batch"]) (G:=["size_of"]) (cel:=[]) (own:=[]) (lam:=none) kb nb zc g40) l37 c37 rfl rfl xu
 have g41:B 39 z5F:=GsOk.add (g40.mono (by decide)) ⟨CC26,f37,_,_,39,rfl,jo (c:=45) zc rfl,⟨i37,j37,k37⟩,λi h=>absurd (z6M (show FLD[i]?=some "store" from h)) (by decide +kernel),b37,by decide,W37,qB⟩ rfl
 have g42:B 39 z2u:=GsOk.add (x:=til (dot "store")) g41 ⟨CC26,f37,_,_,39,_,(.int 1),rfl,jo (c:=45) zc rfl,⟨i37,j37,k37⟩,λi h=>absurd (z6M (show FLD[i]?=some "store" from h)) (by decide +kernel),bd37,⟨_,rfl⟩,λ_ _ _=>rfl,by decide,W37,qB,rfl⟩ rfl
 have W38:FnOk l.prog w K mg base (CX1 l.prog w) 40 f38 _ ["self","many"] (spN _ 2 qv):=kD (m:=3) yQ (yw (N:=["self","many","parts","names","batch"]) (G:=["is_size","TooMany","size_of","Empty","parted","names_of_batch"]) (cel:=[]) (own:=["names"]) (lam:=none) kb nb zc g42) l38 c38 rfl rfl ZR
 have g43:B 40 z5D:=GsOk.add (g42.mono (by decide)) ⟨CC26,f38,_,_,40,rfl,jo (c:=45) zc rfl,⟨i38,j38,k38⟩,λi h=>absurd (z6M (show FLD[i]?=some "take" from h)) (by decide +kernel),b38,by decide,W38,qB⟩ rfl
 have g44:B 40 z2M:=GsOk.add (x:=til (dot "take")) g43 ⟨CC26,f38,_,_,40,_,(.int 1),rfl,jo (c:=45) zc rfl,⟨i38,j38,k38⟩,λi h=>absurd (z6M (show FLD[i]?=some "take" from h)) (by decide +kernel),bd38,⟨_,rfl⟩,λ_ _ _=>rfl,by decide,W38,qB,rfl⟩ rfl
 have g45:B 41 z3F:=Z.met (ps:=["self"]) p39 g44 v_ rfl rfl rfl rfl (λ_ _ _ _ _ _ _=>rfl) rfl
 have g46:B 42 z3Z:=Z.met (ps:=["self"]) p40 g45 j0 rfl rfl rfl rfl (λ_ _ _ _ _ _ _=>rfl) rfl
 have g47:B 43 z3l:=Z.met (ps:=["self"]) p41 g46 Qh rfl rfl rfl rfl (λ_ _ _ _ _ _ _=>rfl) rfl
 have g48:B 44 z2a:=Z.fn (ps:=["_law_script","_law_k"]) p42 g47 Wr rfl rfl (λ_ _ _ _ _ _ _ _=>rfl) rfl
 have g49:B 45 z3z:=Z.fn (ps:=["_law_cell","_law_k"]) p43 g48 Ka rfl rfl (λ_ _ _ _ _ _ _ _=>rfl) rfl
 have g50:B 46 z1M:=Z.fn (ps:=["_law_cell"]) p44 g49 V7 rfl rfl (λ_ _ _ _ _ _ _=>rfl) rfl
 have g51:B 47 z3K:=Z.fn (ps:=["_law_source","_law_many"]) p45 g50 WU rfl rfl (λ_ _ _ _ _ _ _ _=>rfl) rfl
 have g52:B 48 z20:=Z.fn (ps:=["_law_source"]) p46 g51 Wh rfl rfl (λ_ _ _ _ _ _ _=>rfl) rfl
 have g53:B 49 z2l:=Z.fn (ps:=["_law_shape_here","_law_name"]) p47 g52 Jk rfl rfl (λ_ _ _ _ _ _ _ _=>rfl) rfl
 have g54:B 50 z2U:=Z.fn (ps:=["_law_shape_here","_law_lease","_law_above","_law_reading"]) p48 g53 Ky rfl rfl (λ_ _ _ _ _ _ _ _ _ _=>rfl) rfl
 have g55:B 51 z1D:=Z.fn (ps:=["_law_shape_here","_law_lease","_law_above","_law_reading","_law_many"]) p49 g54 J_ rfl rfl (λ_ _ _ _ _ _ _ _ _ _ _=>rfl) rfl
 have g56:B 52 z4i:=Z.fn (ps:=["_law_note_here","_law_notes"]) p50 g55 Jq rfl rfl (λ_ _ _ _ _ _ _ _=>rfl) rfl
 have g57:B 53 z1P:=Z.fn (ps:=["_law_state","_law_lease","_law_mark"]) p51 g56 Uj rfl rfl (λ_ _ _ _ _ _ _ _ _=>rfl) rfl
 have g58:B 54 z2t:=Z.fn (ps:=["_law_state","_law_shape_here","_law_ahead","_law_stride","_law_reading","_law_many"]) p52 g57 JH rfl rfl (λ_ _ _ _ _ _ _ _ _ _ _ _=>rfl) rfl
 have g59:B 55 z4o:=Z.fn (ps:=["_law_state","_law_shape_here"]) p53 g58 V2 rfl rfl (λ_ _ _ _ _ _ _ _=>rfl) rfl
 have g60:B 56 z1T:=Z.fn (ps:=["_law_way","_law_state","_law_shape_here","_law_ahead","_law_stride","_law_reading","_law_many"]) p54 g59 Jp rfl rfl (λ_ _ _ _ _ _ _ _ _ _ _ _ _=>rfl) rfl
 have g61:B 57 z2D:=Z.fn (ps:=["_law_way","_law_house","_law_reading","_law_many"]) p55 g60 Xl rfl rfl (λ_ _ _ _ _ _ _ _ _ _=>rfl) rfl
 have g62:B 58 z5k:=Z.fn (ps:=["_law_source","_law_shape_here"]) p56 g61 jV rfl rfl (λ_ _ _ _ _ _ _ _=>rfl) rfl
 have W57:FnOk l.prog w K mg base (CX1 l.prog w) 59 fa _ ["_law_script"] (spN _ 1 jS):=z1S (m:=17) (cut:=6) (ds:=vS) yQ (z5x (F:=["_law_called"]) (yw (N:=["_law_script","_law_source","_law_shape_here","_law_made","_law_ahead","_law_stride","_law_house","_law_state","_law_reading","_law_given","_law_cell","_law_way","_law_many","_law_lease","_law_note_here","_law_told","_law_stand","_law_called"]) (G:=["_law_digits","_law_cell_at","_law_shape","Shape","_law_next","House","_law_began","min","_law_drawn_lease","_law_note","_law_done","_law_due","isinstance","list","range","len"]) (cel:=["_law_given","_law_called"]) (own:=["_law_called","_law_given","[]","!_law_stand"]) (lam:=some (0,[⟨360,59,360,116⟩,⟨376,67,376,112⟩])) kb nb zc g62)) l57 c57 rfl rfl Vc JW (λj pos e=>by cases e;exact⟨by decide,cA0,P0,rfl,codeHd_of_K kb zt0,nbt,rfl⟩)
 exact U_ (f:=jS) tells rfl W57
end NH.K90
section
open PySem PySem.W PyProof.Rows
set_option maxRecDepth 100000 in
set_option maxHeartbeats 0 in
theorem PySem.Challenge.cw_namehouses_k90_whole_one_house_holds : PySem.Challenge.rw_namehouses_k90_whole_one_house.Holds := by
 w_on;o_law;k_head;(case hw=>w_witness2)
 k_fill
 refine NH.walkT2 (l:=PySem.Challenge.rw_namehouses_k90_whole_one_house) (k:=59) (x:="_law_script") (by decide) rfl rfl (λw h Y=>PySem.W.km_in_of Y) (λw h Y=>PySem.W.km_tabs_of Y _ (.head _)) ?F
 case F=>
  intro w mg fa h KX G hmg
  refine' NH.K90.all_mk KX G hmg ?ze0 ?ze1 ?ze2 ?ze3 ?ze4 ?ze5 ?ze6 ?ze7 ?ze8 ?ze9 ?zxa0 ?zxb0 ?zxc0 ?zxd0 ?zxe0 ?zxf0 ?zxg0 ?zxh0 ?zha0 ?zha1 ?zha2 ?zl0 ?zc0 ?zk0 ?zp1 ?zp2 ?zp3 ?zp4 ?zp5 ?zp6 ?zp7 ?zp8 ?zp9 ?zp10 ?zp11 ?zv12 ?zv13 ?zv14 ?zp15 ?zp16 ?zp17 ?zp18 ?zp19 ?zp20 ?zp21 ?zp22 ?zp23 ?zp24 ?zq26 ?zi26 ?zj26 ?zl26 ?zd26 ?zc26 ?zk26 ?zmk26 ?zkk26 ?zp27 ?zp28 ?zp29 ?zp30 ?zp31 ?zp32 ?zp33 ?zp34 ?zp35 ?zi36 ?zj36 ?zl36 ?zd36 ?zc36 ?zk36 ?zi37 ?zj37 ?zl37 ?zd37 ?zc37 ?zk37 ?zi38 ?zj38 ?zl38 ?zd38 ?zc38 ?zk38 ?zp39 ?zp40 ?zp41 ?zp42 ?zp43 ?zp44 ?zp45 ?zp46 ?zp47 ?zp48 ?zp49 ?zp50 ?zp51 ?zp52 ?zp53 ?zp54 ?zp55 ?zp56 ?za57 ?zl57 ?zc57 ?zzt0 ?zzk0 ?zzs0 ?zk57 ?zx0 ?zx1 ?zx2 ?zx3 ?zx4 ?zx5 ?zx7 ?zx8 ?zx9 ?zzl ?zzc ?zzg
  (case ze0=>k_is)
  (case ze1=>k_is)
  (case ze2=>k_is)
  (case ze3=>k_is)
  (case ze4=>k_is)
  (case ze5=>k_is)
  (case ze6=>k_is)
  (case ze7=>k_is)
  (case ze8=>k_is)
  (case ze9=>k_is)
  (case zxa0=>k_is)
  (case zxb0=>kernel_rfl)
  (case zxc0=>k_is)
  (case zxd0=>k_is)
  (case zxe0=>k_is)
  (case zxf0=>k_is)
  (case zxg0=>k_is)
  (case zxh0=>k_is)
  (case zha0=>k_is)
  (case zha1=>k_is)
  (case zha2=>k_is)
  (case zl0=>k_is)
  (case zc0=>k_is)
  (case zk0=>k_is)
  (case zp1=>exact NH.dfp (by k_is) (by k_is) (by k_is) (by k_is))
  (case zp2=>exact NH.dfp (by k_is) (by k_is) (by k_is) (by k_is))
  (case zp3=>exact NH.dfp (by k_is) (by k_is) (by k_is) (by k_is))
  (case zp4=>exact NH.dfp (by k_is) (by k_is) (by k_is) (by k_is))
  (case zp5=>exact NH.clp (by k_is) (by k_is) (by k_is) (by k_is) (by k_is) (by k_is) (by k_is) (by k_is))
  (case zp6=>exact NH.dfp (by k_is) (by k_is) (by k_is) (by k_is))
  (case zp7=>exact NH.dfp (by k_is) (by k_is) (by k_is) (by k_is))
  (case zp8=>exact NH.dfp (by k_is) (by k_is) (by k_is) (by k_is))
  (case zp9=>exact NH.dfp (by k_is) (by k_is) (by k_is) (by k_is))
  (case zp10=>exact NH.dfp (by k_is) (by k_is) (by k_is) (by k_is))
  (case zp11=>exact NH.dfp (by k_is) (by k_is) (by k_is) (by k_is))
  (case zv12=>k_is)
  (case zv13=>k_is)
  (case zv14=>k_is)
  (case zp15=>exact NH.dfp (by k_is) (by k_is) (by k_is) (by k_is))
  (case zp16=>exact NH.dfp (by k_is) (by k_is) (by k_is) (by k_is))
  (case zp17=>exact NH.dfp (by k_is) (by k_is) (by k_is) (by k_is))
  (case zp18=>exact NH.dfp (by k_is) (by k_is) (by k_is) (by k_is))
  (case zp19=>exact NH.clp (by k_is) (by k_is) (by k_is) (by k_is) (by k_is) (by k_is) (by k_is) (by k_is))
  (case zp20=>exact NH.dfp (by k_is) (by k_is) (by k_is) (by k_is))
  (case zp21=>exact NH.dfp (by k_is) (by k_is) (by k_is) (by k_is))
  (case zp22=>exact NH.dfp (by k_is) (by k_is) (by k_is) (by k_is))
  (case zp23=>exact NH.dfp (by k_is) (by k_is) (by k_is) (by k_is))
  (case zp24=>exact NH.dfp (by k_is) (by k_is) (by k_is) (by k_is))
  (case zq26=>k_is)
  (case zi26=>k_is)
  (case zj26=>k_is)
  (case zl26=>k_is)
  (case zd26=>k_is)
  (case zc26=>k_is)
  (case zk26=>k_is)
  (case zmk26=>k_is)
  (case zkk26=>k_is)
  (case zp27=>exact NH.mtp (by k_is) (by k_is) (by k_is) (by k_is) (by k_is))
  (case zp28=>exact NH.mtp (by k_is) (by k_is) (by k_is) (by k_is) (by k_is))
  (case zp29=>exact NH.mtp (by k_is) (by k_is) (by k_is) (by k_is) (by k_is))
  (case zp30=>exact NH.mtp (by k_is) (by k_is) (by k_is) (by k_is) (by k_is))
  (case zp31=>exact NH.mtp (by k_is) (by k_is) (by k_is) (by k_is) (by k_is))
  (case zp32=>exact NH.mtp (by k_is) (by k_is) (by k_is) (by k_is) (by k_is))
  (case zp33=>exact NH.mtp (by k_is) (by k_is) (by k_is) (by k_is) (by k_is))
  (case zp34=>exact NH.mtp (by k_is) (by k_is) (by k_is) (by k_is) (by k_is))
  (case zp35=>exact NH.mtp (by k_is) (by k_is) (by k_is) (by k_is) (by k_is))
  (case zi36=>k_is)
  (case zj36=>k_is)
  (case zl36=>k_is)
  (case zd36=>k_is)
  (case zc36=>k_is)
  (case zk36=>k_is)
  (case zi37=>k_is)
  (case zj37=>k_is)
  (case zl37=>k_is)
  (case zd37=>k_is)
  (case zc37=>k_is)
  (case zk37=>k_is)
  (case zi38=>k_is)
  (case zj38=>k_is)
  (case zl38=>k_is)
  (case zd38=>k_is)
  (case zc38=>k_is)
  (case zk38=>k_is)
  (case zp39=>exact NH.mtp (by k_is) (by k_is) (by k_is) (by k_is) (by k_is))
  (case zp40=>exact NH.mtp (by k_is) (by k_is) (by k_is) (by k_is) (by k_is))
  (case zp41=>exact NH.mtp (by k_is) (by k_is) (by k_is) (by k_is) (by k_is))
  (case zp42=>exact NH.dfp (by k_is) (by k_is) (by k_is) (by k_is))
  (case zp43=>exact NH.dfp (by k_is) (by k_is) (by k_is) (by k_is))
  (case zp44=>exact NH.dfp (by k_is) (by k_is) (by k_is) (by k_is))
  (case zp45=>exact NH.dfp (by k_is) (by k_is) (by k_is) (by k_is))
  (case zp46=>exact NH.dfp (by k_is) (by k_is) (by k_is) (by k_is))
  (case zp47=>exact NH.dfp (by k_is) (by k_is) (by k_is) (by k_is))
  (case zp48=>exact NH.dfp (by k_is) (by k_is) (by k_is) (by k_is))
  (case zp49=>exact NH.dfp (by k_is) (by k_is) (by k_is) (by k_is))
  (case zp50=>exact NH.dfp (by k_is) (by k_is) (by k_is) (by k_is))
  (case zp51=>exact NH.dfp (by k_is) (by k_is) (by k_is) (by k_is))
  (case zp52=>exact NH.dfp (by k_is) (by k_is) (by k_is) (by k_is))
  (case zp53=>exact NH.dfp (by k_is) (by k_is) (by k_is) (by k_is))
  (case zp54=>exact NH.dfp (by k_is) (by k_is) (by k_is) (by k_is))
  (case zp55=>exact NH.dfp (by k_is) (by k_is) (by k_is) (by k_is))
  (case zp56=>exact NH.dfp (by k_is) (by k_is) (by k_is) (by k_is))
  (case za57=>k_is)
  (case zl57=>k_is)
  (case zc57=>k_is)
  (case zzt0=>exact rfl)
  (case zzk0=>exact rfl)
  (case zzs0=>decide)
  (case zk57=>k_is)
  (case zx0=>k_exc)
  (case zx1=>k_exc)
  (case zx2=>k_exc)
  (case zx3=>k_exc)
  (case zx4=>k_exc)
  (case zx5=>k_exc)
  (case zx7=>k_exc)
  (case zx8=>k_exc)
  (case zx9=>k_exc)
  (case zzl=>exact rfl)
  (case zzc=>exact rfl)
  (case zzg=>exact rfl)
end
