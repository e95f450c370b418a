import PyProof.Rows.All
import Wide.All
import OpenK.AllK
import PySem.Challenge.RW_namehouses_k78_whole_books_of_worlds
set_option Elab.async false
open List renaming getElem?_eq_some_iff->z5C,mem_of_getElem?->z5E,mem_singleton->z5F,getElem?_set_ne->z5G,length_map->z5H,mem_append->z5L,getElem?_append_left->z5N,mem_map->z5O,mem_append_right->z5R,mem_cons_of_mem->z5T,map_append->z5Y,getElem?_map->z5Z,getElem?_append_right->z5_,mem_cons_self->z60,mem_cons->z61,size_toArray->z63,mem_append_left->z65,getElem?_eq_getElem->z67,map_map->z69,map_cons->z6c,mem_iff_getElem?->z6d,pairwise_iff_getElem->z6h,contains_iff_mem->z6j,length_append->z6k,length_cons->z6l,all_eq_true->z6n,mem_filter->z6o,lookup_cons->z6v,take_add_one->z6w,take_of_length_le->z6z,filterMap_eq_map'->z6A,length_take->z6B,mem_of_mem_take->z6D,nodup_append->z6L,getElem?_set_self->z6N,drop_eq_getElem_cons->z6P,append_nil->z6S,range->z6V,pairwise_map->z72,set_append_right->z74,mem_nil_iff->z78,any_cons->z7a,getLast?_eq_some_getLast->z7c,take_sublist->z7d,nodup_cons->z7g,all_cons->z7o,length_nil->z7u,lookup->z7y,rec->z7C,pairwise_append->z7J,filterMap_cons_none->z7O,filterMap_cons_some->z7P,mem_range->z7S,getElem_inj->z7T,replicate->z7U,getElem?_replicate->z7V,mem_filterMap->z7_,getElem?_eq_none->z87,take_append_drop->z89,append_assoc->z8c,flatMap_cons->z8d,mem_of_mem_drop->z8h,cons_append->z8n,map_congr_left->z8s,getElem?_set_self'->z8G,filter_cons_of_pos->z8I,filter_cons_of_neg->z8J,length_drop->z8V,getElem_mem->z8W,getElem_set->z8X,mem_iff_getElem->z91,length_set->z97,find?_cons->z98,nil_append->z99,filterMap_cons->z9a,contains_cons->z9v,nodup_iff_pairwise_ne->z9x,any_eq_false->z9A,getElem?_cons_zero->z9M,drop_length->z9R,take_length->z9V,getLast_mem->z9W,map_nil->za0,all_map->za3,drop_of_length_le->za8,of_mem_zip->zac,forIn_cons->zae,length_replicate->zag,length_filter_le->zam,length->zas,zip_cons_cons->zaT,pairwise_cons->zb4,map->zbv,length_range->zbw,foldl_append->zbx,mem_reverse->zbI,ext_getElem->zbK,map_take->zcR,Nodup->zdm
open PySem renaming wpAny_bind->z5D,wpAny_pure->z5Q,wpAny->z5V,Shared->z5W,model->z5X,mainGlobals->z6i,wpAny_truthy_bool->z6m,wpAny_holding->z6p,wpAny_mono->z6r,Program->z6t,sizeLine_eq->z6y,wpAny_Call_Name_kw->z6F,starEach->z6H,compareOp->z6I,mem_of_lookup->z6J,wpAny_standAt->z6R,bootBuiltins->z6W,rawInt->z6X,foldedSetIterable->z6Y,wpAny_newObj_type->z7e,wpAny_field->z7n,sysModules->z7p,wpAny_passesOwn->z7t,codeAny_mono->z7B,excClassObj->z7E,relabel->z7F,assignEach->z7L,keywordEach->z7Z,World->z81,attributeBase->z83,Around->z84,wpAny_loadPart_at->z8b,backTo->z8e,swapsWith->z8j,binaryOp->z8u,ExceptHandler->z8x,methodCallPos->z8y,letOwnedTupleGo->z8z,codeAny->z8B,wpAny_call->z8C,sliceBounds->z8F,wpAny_typeOf->z8K,wpAny_pyIter_list->z8M,compEnvC->z8N,plainObj_wpAny_Assign_Attribute->z8Q,wpAny_isTrue_Compare1->z8S,strLen_append->z8Z,NameKind->z8_,backToKw->z90,wpAny_execs_nil->z94,CmpOp->z9c,getItem->z9f,codeAmong->z9i,builtinsNs->z9j,wpAny_newFunctionEnv_cells->z9o,wpAny_setField->z9r,wpAny_FormattedValue_plain->z9w,hashStr->z9y,wpAny_of_eq->z9D,wpAny_execs_cons->z9J,wpAny_callSpecial?_slot->z9L,wpAny_comp_letGo->z9P,TriplesOk->z9U,IsPart->z9_,Keyword->za2,wpAny_rule->za4,ofString_length->zak,wpAny_formatField_int->zal,assign->zao,bindArgs->zar,subscripted->zau,wpAny_Compare1->zaw,wpAny_newFunctionEnv->zax,wpAny_pyIter_revIter->zaz,codeAny_call_builtin->zaC,PassesOwn->zaF,BindsTo->zaG,setFlight->zaH,wpAny_isSubtype_exc->zaK,swapsWithSole->zaL,swappedStores->zaM,behindInMarks->zaN,comprehension->zaO,closureFor->zaZ,methodCall->zb0,int_text_length_le->zb3,Within->zb5,wpAny_sequenceKey->zbd,slot_list_getitem->zbe,OwnTail->zbi,wpAny_pyIter_enum->zbk,valueAt->zbl,wpAny_Call_method->zbn,ExcBaseFacts->zbr,cStatics->zbu,wpAny_lookBehind->zbD,pastItsLine_dict->zbE,wpAny_call_entry->zbF,noteFrame->zbH,wpAny_loadPart'->zbR,wpAny_JoinedStr->zbX,codeAny_builtin->zb_,callerA->zc1,wpAny_Name->zc4,pyIter->zc5,bindL->zc8,bindC->zc9,typeLookup->zca,call_meets->zcd,getMethod->zcU,cellsFrom->zcV,DictEntry->zcW,holding->zcZ,Builtin->zc_,call->zdk
open PySem.Heap renaming get?_push_of_some->z5I,lt_size->z5U,get?_push_size->z6a,SameBut->z6K,get?_none_of_le->z6M,get?_update_other->z6Z,size_push->z7b,get?_update_self->z85,get?_update_ne->z9d,MadeExcOf->z9s,get?_push_ne->zbq,get?_push_at->zbs,size_update->zbJ
open Option.some renaming inj->z5J,injEq->z8O
open Nat renaming le_refl->z5K,lt_of_lt_of_le->z5S,le_trans->z66,ne_of_lt->z6b,lt_succ_self->z77,lt_irrefl->z79,ne_of_gt->z7l,zero_le->z7m,le_of_lt->z7w,beq->z7R,eq_of_beq_eq_true->z86,lt_succ_of_lt->z8a,le_succ->z8g,le_of_eq->z8l,lt_of_le_of_lt->z8D,le_of_ble_eq_true->zai,lt_trans->zbm,zero_add->zbp,lt_trichotomy->zby,ble->zc2,add_assoc->zcO,rec->zd1,lt_or_ge->zd3,min_self->zd4,add_comm->zd5,log2_lt->zdc
open PySem.W renaming Frag->z5M,findIn->z6g,fnOf->z6O,emptyDict->z6Q,mroIn->z6U,instObj->z7f,kla_obj->z7i,callWith_K->z7r,hasDictIn->z7x,specialIn->z7D,plainGet_of->z7Q,codeIn->z7W,keepIn->z8f,plainGet->z8k,callWith_K0->z8r,clsIn->z8Y,takesIn->z95,looks_clsIn->z9b,nsIn->z9g,lookIn->z9m,kitOne->z9t,isNs_of_in->z9u,plainOver->z9B,excIn->z9E,any_some->z9K,cellsFrom_some->z9Z,KitX->za5,takerIn->zab,looks_findIn->zaq,exmOne->zay,kla_callFunE->zaA,kla_codeExpr->zaB,methodObj->zb6,isFn->zb7,set_plain->zb8,kitx_list->zbg,kitx_dict->zbh,handedIn->zbC,kla_eval->zbL,codeHdIn->zbO,mg_of->zbP,makesIn->zbQ,readsIn->zbY,findCls->zbZ,InstAt->zc6,typeIn->zc7,nsOkIn->zcg,CodeHd->zch,kla_fn->zcj,tabObj->zcl,Looks->zcN,OpenLaw->zd0
open Bool renaming and_eq_true->z5P,false_ne_true->z6e,not_eq_true'->z7G,eq_iff_iff->z8A,or_eq_true->z96,and_false->zav,false_eq_true->za_,or_true->zbj,rec->zce,and_true->zcM
open Int renaming emod_nonneg->z62,mul_le_mul_of_nonneg_right->z64,emod_lt_of_pos->z68,mul_ediv_add_emod->z6x,le_refl->z6E,ediv_lt_of_lt_mul->z75,le_trans->z7I,mul_comm->z7K,le_ediv_iff_mul_le->z80,ediv_nonneg->z82,ediv_emod_unique->z8i,ediv_le_ediv->z8o,le_of_lt->z8p,mul_nonneg->z8P,add_mul->z92,one_mul->z93,fdiv_eq_ediv_of_nonneg->z9l,add_comm->za7,add_mul_ediv_right->za9,ediv_eq_zero_of_lt->zaa,ediv_mul_add_emod->zan,mul_le_mul->zaD,ediv_one->zbc,lt_trichotomy->zbz,lt_irrefl->zcP
open Ne renaming symm->z6f
open Option renaming map_eq_some_iff->z6q,isSome_iff_exists->z8v,bind_eq_some_iff->z9N,bind_some->z9Q,getD_none->zbG,map_some->zbT
open False renaming elim->z6s
open PySem.Value renaming ref->z6u,none->z8T,bool->z9Y,int->zaE,type->zc3,isStrOf_shape->zcx,isStrOf->zcy,str->zcT,isInt_shape->zcX,isInt->zd8,bytes->zd9,float->zda
open PySem.Obj renaming mapSeq->z6C,mapFields->z7N,isFreed_of_fields->zah,data_mapFields->zaV
open PyProof.Rows renaming seqObj->z6G,callWith_type1->z6T,slot_tuple_getitem->z73,IntsAre->z7z,callWith_builtin1->z7X,envOfC->z8U,AllBare->z9z,listUpdate_at->z9G,subscriptTail_builtinR->za1,get?_update_seq->zaf,entry_tuple_getitem->zaI,args_tuple_getitem->zaU,arrOf->zbo,Subscript_->zcb,lt_int->zde
open List.Pairwise renaming nil->z6_,imp->zbt,imp_of_mem->zcQ,sublist->zd7,map->zdo
open Array renaming getElem?_eq_some_iff->z70,length_toList->z7k,getElem?_setIfInBounds_ne->z8R,mem_toList_iff->zap,toList_append->zaJ,find?_toList->zaR,forIn_toList->zb1,size_zip->zck
open PySem.F renaming excBase_ValueError->z71,slot_list_getattribute->z7Y,slot_dict_get->z88,store_ValueError->z9H,plainAttrs_list->z9O,args_dict_get_2->z9S,plainAttrs_dict->z9T,entry_dict_get->za6,type_dict_get->zaj
open True renaming intro->z76
open PySem.SeqAt renaming EqAt->z7h,RcAt->zaX,in_tupleAt->zbN,RcNeAt->zd2
open ForInStep renaming yield->z7j
open PySem.W.Looks renaming here->z7q,of_pure->zd6,ld->zdq
open PySem.Builtin.Slice renaming slicePlaces->z7s,sliceAdjust->z8q,sliceApplied->z9p,slicePartIndex->zbS,sliceFields->zcw
open Sum.inr renaming inj->z7v
open PySem.Calls renaming evalArgs_plain->z7A,callWith_builtin->z8L,Name_function_global->z9k,spliced_cons->z9n,spliced_nil->z9C
open Prod.mk renaming inj->z7H
open PySem.Builtin.Tuple renaming tupleExact->z7M,tupleItemsOf->z9q,tupleCompareSizes->zbB
open PySem.Str renaming ofString->z8m,empty->z9h,length->zcc
open PySem.Heap.SameBut renaming update->z8t
open PySem.Builtin.List renaming listTooLong->z8w
open PySem.Builtin.Str renaming occurrences->z8E
open PySem.Builtin.Range renaming rangeSize->z8H,small->zdg
open Sum renaming inr->z9e,inl->z9X
open PySem.NameKind renaming free->z9F
open List.cons renaming inj->z9I
open PySem.SeqAt.EqAt renaming same->zad,int_str->zaP,str_int->zaQ,int_int->zaS,str_str->zaW,of_refs->zaY
open PySem.Around renaming frames_deeper->zat,under->zba
open PySem.Code renaming quiet_builtin->zb2,isFrame->zbb,frames->zdb
open PySem.Heap.Ns1 renaming of_empty->zb9
open Function renaming comp_def->zbf
open List.Sublist renaming refl->zbA,append->zdh,map->zdr
open PySem.Builtin.ObjectAttr renaming storeInDict->zbM,noDictFor->zbW
open PySem.Heap.DictOf renaming new->zbU
open Array.Perm renaming refl->zbV
open PySem.SeqAt.RcNeAt renaming lists_lengths->zcf,tuples->zdf,lists->zdl
open PySem.Walks renaming list->zci
open PySem.EqNone renaming eq_none_none->zcm,eq_none_bool->zcn,eq_bool_none->zco,ne_none_none->zcr,ne_none_bool->zcs,ne_bool_none->zct,eq_none_int->zcA,eq_none_str->zcB,eq_int_none->zcC,eq_str_none->zcE,ne_none_int->zcG,ne_none_str->zcH,ne_int_none->zcI,ne_str_none->zcK
open PySem.EqMixed renaming eq_bool_str->zcp,eq_str_bool->zcq,ne_bool_str->zcu,ne_str_bool->zcv,eq_int_str->zcD,eq_str_int->zcF,ne_int_str->zcJ,ne_str_int->zcL
open PySem.Paired renaming length->zcz
open PySem.Value.ref renaming inj->zcS
open PySem.Builtin.Dict renaming updateFrom->zcY
open PySem.IsRange renaming new->zdd
open PySem.Heap.IsSliceOf renaming new->zdi
open PySem.W.WShape renaming has->zdj
open PySem.Within renaming cons->zdn
open PySem.W.WData renaming int->zdp
set_option linter.all false
set_option maxRecDepth 100000
set_option maxHeartbeats 4000000
set_option genSizeOf false
set_option genInjectivity false
set_option bootstrap.genMatcherCode false
noncomputable section
set_option tactic.hygienic false
set_option compiler.extract_closed false
namespace PySem.W
structure Fast:Prop where
 (tw11746315937363941221 tw15037446347252499351 tw9181640999862799910 tw8253142748105135213 tw12010892879384682106 tw8066531549999676170 tw11979790907891933174 tw7487881903710521330 tw17541079341595597234 tw1391578545370783134 tw11879021751670236337 tw15834577853629543502 tw5352911725424404456 tw7858240521967337611 tw1128090520573944386 tw8314524036637500295 tw6882722753663293862 tw115847343148955505 tw16641884336758412607 tw12711270105663801625 tw6290457508249051451 tw11583262058620769517 tw15656905874028408261 tw1640435487903579427 tw6244533408698700881 tw7902178095950363003 tw1139628054878625291 tw14766318843189018556 tw1875994529190741431 tw1209993412227423689 tw9721356514939017642 tw8574497041152002299 tw9959217588850800608 tw11666200185054143908 tw11464055429033937173 tw4137769503868750307 tw16487415996721389816 tw7442705375807146141 tw4640296102758002652 tw9403192288647824682 tw1064536019513923480 tw5424590379226713574 tw10841820066368831954 tw11625410958477679929 tw16132417251504511867 tw8425475359607800813 tw17642408037393973212 tw6943335439803338403 tw12220030732103565594 tw16241427827982879453 tw14169256748484773058 tw527444277088453844 tw11783977838326618541 tw4790659271741549172 tw16507202115868700598 tw16833356665236265133 tw8942460890661834905 tw2125231439377929860 tw2431034472529545553 tw2883233330389823774 tw6700988613126173245 tw17752318765585857677 tw11905524654200295735 tw14858736347802420999 tw14062195389861197907 tw4676855526361181588 tw13372752787776766137 tw9190495370537251282 tw207277634625249781 tw5447584779011093289 tw5818248587176500183 tw15423805471793547006 tw12614091195033364855 tw1369893169822656661 tw676986820992696753 tw9764886538266487353 tw12706474578677142269 tw1115580878846748120 tw7176952570071216022 tw8145407573122992120 tw18403723838162540031 tw7934449063649914294 tw6964801103268780099 tw11377434278339194072 tw10694647478977038042 tw18346655922731233210 tw12772077558882426092 tw3596942543450456578 tw1087339430491013578 tw14158936311572006626 tw4361861074962695244 tw8132374438146853966 tw10507009752418708833 tw16964213217822851508 tw11488426249139610979 tw12506930525369070660 tw16651120304397854694 tw1335442790560838111 tw3321214586959536561 tw11792603367580323755 tw3532738441348728379 tw18044860195272271584 tw17436263231616587281 tw5951739587104734523 tw1817104955350231256 tw6429477942377504689 tw10838576696332296307 tw15201024562475872080 tw10864079955662479260 tw11937627540884844052 tw17196608465437734661 tw1883951195520859730 tw14150783285461326893 tw11144903503764387329 tw4756658388914590877 tw5808494468620110425 tw4087018311744062529 tw8146075881082649617 tw12909847652881948965 tw17503736727105093750 tw14493409166714472908 tw2845996791556542356 tw5770006396789556864 tw5773817206117585475 tw15624848910766285383 tw10330650840585918074 tw7724871100638331361 tw6524926358388135054 tw4229987637491937451 tw2959610225493291151 tw11604282811650411151 tw8534491290104153837 tw8081446168159873677 tw13345015670333367867 tw507740395685693405 tw8467470556258511786 tw5421358031329821184 tw18367911490608271137 tw5770485072360277231 tw5225402094354545032 tw6638684875616650988 tw16309513112014790251 tw16982974019869794087 tw15874963210357117284 tw8169700223623818366 tw1319832780912506371 tw3572113426481828465 tw1269382270644658984 tw1662339062034516372 tw8211395848697879411 tw1788342125707527980 tw18078310427740156374 tw4075735942688542991 tw7709406690263162342 tw9198684524246928175 tw4150744287650821626 tw11464805856604518768 tw14163078202489700020 tw11267204436538467227 tw16359418152391598052 tw17095161841542515970 tw6943269002056280742 tw18063969551926328181 tw8127984797375035130 tw12283026268586711766 tw653465746769918626 tw15560968505516445547 tw1177375418835402766 tw2720412268604955224 tw11676673068907270861 tw4545996920845265368 tw6743946889253999963 tw17783964661561819106 tw4697283195837922650 tw3884977295159497271 tw2816099212585099773 tw14736223694428530998 tw5995617177041172077 tw843671609196840009 tw2682219219397738821 tw10939277689063567683 tw13479762699688852542 tw10118199333545928724 tw17035523508828878408 tw8284840550823782387 tw1050902858977221944 tw14264721841495366385 tw7789120129551406019 tw1615229494081073230 tw11363993132130220895 tw17622268543984334333 tw10965162144802964585 tw13022608520852079846 tw6795634854079937318 tw7419504581302608970 tw13762042007692976285 tw18275174459705516813 tw10969460694484611116 tw5250654263743488622 tw14247621462996985915 tw7022805862829315024 tw6852160670534724219 tw5413955691218422051 tw7989337806963925528 tw8666221013669046626 tw1568656572055038505 tw11759952183884586320 tw16039243521794239778 tw3521305155436356318 tw11929721265820642248 tw14143321571660881222 tw7981937570978522975 tw11814331965488861387 tw3939150779489646619 tw11083475472804884255 tw9828358013296142422 tw17485521724703736446 tw1127005172719474628 tw16490306067590369061 tw2670557355642245882 tw11379380502034012370 tw12318311470647754617 tw1342830123456212747 tw7792520843322382057 tw10337757229087184716 tw17765740037702883616 tw11749324406162111845 tw9519485197890972499 tw1290281926669026443 tw6987332457425455967 tw9918702330782058419 tw14543260244759125572 tw16660390378251174737 tw2840915257244880814 tw2198198257203380270 tw8020688401787573911 tw8860728201169214152 tw12003505932173952414 tw9152611192175233608 tw1113427415654952921 tw10555059356876278381 tw15854081716925003891 tw1196660265285664149 tw9727243366174744874 tw12939466982459209670 tw11130821565305528847 tw15329553510082660937 tw17414387600929513819 tw13801865581569518580 tw11968113585889294833 tw1071237613490302171 tw5226617875964722600 tw4537808949974018696 tw9315034467051718519 tw11140459224552038240 tw8568776050904890478 tw17626341041366202887 tw13414141959079786149 tw12485385893545028200 tw13917565378644990881 tw10938091203975455799 tw4398680969410852937 tw14272914696832735158 tw11192295099422109916 tw11353097091332148286 tw3224984538542015985 tw16844155374598679551 tw14475716715367233008 tw677472780494760869 tw2607061067924820738 tw9127973481041693796 tw6758201495820038434 tw16454045884293460343 tw17465758460189695859 tw10899068593259948656 tw11699756854842910742 tw14321025736370934352 tw13883564329727580382 tw17415589137759589403 tw1059902968372563794 tw17330567262641384311 tw10150092139838194232 tw16639611662108783777 tw13084869449880091617 tw10915158976515107899 tw2747230021621787230 tw712558632532865401 tw3042380830113071615 tw3101927855016071361 tw1560687131516469531 tw2284178920954437234 tw7145394563726061695 tw7571500015506489790 tw14562393330946406196 tw18435818442105207466 tw10297950365554110456 tw13831577111725118809 tw9241881099155898760 tw9538525532013831325 tw17902808745111752560 tw13652875791098974680 tw6832115152914656040 tw6185038501479842423 tw6948568600572580597 tw15090410374065787122 tw10012889756822638339 tw3094842029336314856 tw4389041916575749236 tw4648013507707524138 tw9534913999645536473 tw2569948303170802589 tw9304810318103440424 tw9246003550451152447 tw17618409752150745656 tw7184212169170406428 tw15854294071350023605 tw1358947342112970500 tw183031321853903134 tw8471082622010143577 tw11708921506252745438 tw17126997710290577452 tw13095280797639292303 tw1502398305590931642 tw16122556683825780830 tw16210961566961935019 tw4775801203474889469 tw9675744221574630537 tw6213141758489639199 tw7537632460994741979 tw3756008928172544651 tw5320194711435894473 tw12353325673074579631 tw8595288807752436376 tw1172215192811844163 tw14979977719742342393 tw16169306633594081390 tw7020687777737852805 tw14446166222563829857 tw1670464243278285045 tw12309724055949286597 tw7518076311355882232 tw5053086259994783414 tw1485954093026789870 tw4659952094744344452 tw10170068793245753328 tw4230728529537900385 tw4122014210980493379 tw12478022238836614409 tw10853162010485365152 tw11636056960797137132 tw3485131312842804208 tw8084275983673079237 tw18325526867118170566 tw15952918035960255450 tw969396452029953484 tw3363384787913905386 tw8497524507038327509 tw1504266968402887508 tw6769125851331569309 tw8665418841512898390 tw1047919305881892782 tw4907310970810662170 tw8633274571983252833 tw15595837349209660394 tw5374302739061767648 tw10155649092501287034 tw12657697497913308723 tw17392231224383776728 tw16002652548100809195 tw3716788901556290648 tw2233495259589005196 tw1672556174128566626 tw8434569558688413319 tw3786857768108459240 tw8677821913581719650 tw2394367612106139311 tw10620239034738779243 tw4620220603416875796 tw1508110726047604533 tw15444069448043180576 tw12642450264838388349 tw1023746407372867885 tw14608406409988671914 tw4892448242562843434 tw576497788707377122 tw14172602571889232927 tw6040966394351189991 tw10204273282710573968 tw18091540068203984104 tw10785798561211406000 tw12677553877524775885 tw10706899660192866220 tw12051157305028341999 tw4236383359705418537 tw2994473864943511288 tw15634954665070161069 tw6031228553023958920 tw5542846916433612499 tw12624676199877214584 tw770528190308831716 tw12832072889752751758 tw18367963490766690577 tw6974546425568535117 tw15837173653329566992 tw9193322585740445229 tw7088878734719020145 tw13822834162064569162 tw8063627157477704986 tw9444793190199242627 tw1962806955965460376 tw11707632876820801343 tw4043537874470780886 tw3380429351320913 tw3288591872768521615 tw13695809791785828901 tw17330494957829174742 tw15294003253554928358 tw11338555598888879263 tw8579249340065518484 tw16676756344900404603 tw16398763871522187096 tw6658477113899184413 tw4092275872366419831 tw12066804380972914863 tw13898227027203604161 tw9621203175283211945 tw13143780521696427575 tw14307246090166591676 tw2769510064601481999 tw1626655426705148616 tw15336083470236639623 tw7732120969208422666 tw15208355897115869325 tw14470225181689045213 tw17331640150428297158 tw16028595350067424634 tw12841631162076969373 tw1434570207045008371 tw2875805999192320203 tw10133340855535045899 tw1701169964897429654 tw4098968682903220464 tw5104294239298859757 tw11183714280027960080 tw7529470233833361806 tw3417428837189277761 tw12816703965210776442 tw15424901230317597479 tw6305984932687561788 tw17957181774986921313 tw1284089741066835085 tw4614595929825691013 tw7766864371501743195 tw4343186933905251935 tw16338196727526117605 tw14328328311041215916 tw6406039019013443367 tw4205769285431029739 tw4316116362855591451 tw222217604803366014 tw8304988149004624981 tw12407156078394804684 tw4811600317950975123 tw18079126894350725710 tw18344633810930139945 tw17387354984564829041 tw12992363797410450785 tw10361594652427068036 tw12388713566312748886 tw9848088759002526350 tw11470707233240014249 tw8253863188485638328 tw3178495316145090505 tw10267366467620042830 tw11783648412869123843 tw17540804688859636311 tw677697490430854035 tw7227733022212467450 tw15667327634185562076 tw10841641411648405642 tw17129474066693818537 tw14622542348081770159 tw1752596586473785776 tw2506211649039387500 tw6395213476342225813 tw10596041021342981903 tw7196395310068026950 tw5123449833363207648 tw12283705498899133803 tw12636660608416892590 tw823087477629448966 tw13919917567928929601 tw15617533669487844681 tw12610660097563116417 tw3709759348453459152 tw1414472093379461860 tw15273329606116454378 tw15514194239870781310 tw15311621225433160845 tw7880547721296576432 tw2688401425665078577 tw9701050157045270464 tw519315151470337900 tw13464679627635021048 tw1099778039220593711 tw6582021111107664525 tw2321307215336148883 tw7334675839032697320 tw1268141307854827789 tw2956755974245662828 tw12542828113075046007 tw16431207424955036570 tw17398043103607068646 tw11915919267657118037 tw1651989298047821549 tw15229720119149342398 tw2208840468942728810 tw12500442234124927907 tw12460166718838799813 tw4586210071478603410 tw7094574791884829088 tw3014095302503856879 tw1801825908543487145 tw4031799419359521021 tw15777668794685505327 tw14035360644552818992 tw2437380696931944336 tw17584848254942324864 tw17289335784919303032 tw16758989996936619906 tw3649453913714236514 tw5390926834337656098 tw4258116598635631792 tw7582013900037622579 tw13534072507936499155 tw14328148986689785126 tw9310443543448068428 tw16987341660971985926 tw12840058725820170159 tw12163020554855490935 tw579241097734749711 tw9434986307643728074 tw3718720569024270995 tw1937520556055126744 tw12670763305843376203 tw1360505749535820096 tw16488118027907885876 tw354242486843777912 tw8189012356799215377 tw7924487009534192669 tw14009910356336972401 tw13486697693435827896 tw7535725184585365499 tw7113611944026685818 tw9830661951851681026 tw8267651147910749535 tw8830915979130030872 tw1305003062265980867 tw4544368862159800941 tw15950463713467370635 tw10712885738467413468 tw7161839408873312907 tw5457701904478475839 tw6381771779762339165 tw8397792041854416344 tw9933240922652939431 tw17946507818641671404 tw17063147488653426 tw3800559356619125826 tw9233005029994346210 tw3998628010964050758 tw12957164269144204579 tw5918932309856583615 tw8802421389861770912 tw18192023066024853336 tw7305955866241679120 tw15785140597244574470 tw11747967992522937546 tw4933396966407741778 tw16712941335393876849 tw17464490638219386702 tw1158234134292550352 tw17162879385629659748 tw7131946151808102008 tw13706039284888229441 tw7876444650454787234 tw9150471745356667276 tw15631162710821790856 tw3096732923312385403 tw9604176232564905933 tw5194773721366496140 tw2264418462244515309 tw15829315544064380140 tw8528793488597632765 tw8962286530874663705 tw13737988231820208443 tw3265558807079359831 tw15557506430238523330 tw14581553997036907081 tw10726106832082936244 tw14732743849564686066 tw3644555978882995716 tw4479515660080948738 tw9340323979933785292 tw6373416325945420024 tw15447667730509007526 tw10409223874409316682 tw3997049399596236733 tw2359472285038176632 tw10884630490236349978 tw14764902448870618877 tw17260741472124866561 tw13204141198181174693 tw7540266730396096204 tw12156344209435477247 tw11297416488854612105 tw11938175576655112943 tw16219773491444210099 tw3567425826836736089 tw8504831638454527440 tw11184293341711887211 tw9402072601716000220 tw6972039082999697395 tw14061425250618934313 tw171168393616651687 tw15557545348810307436 tw9065087551134261290 tw14164819119837622791:True)
end PySem.W
section
theorem z7{α:Type u}{a:α}{P:Prop}(e:none=some a):P:=by injection e
theorem vD{α:Type u}{a:α}{P:Prop}(e:some a=none):P:=by injection e
theorem zm{α:Type u}{a b:α}(e:some a=some b):a=b:=z5J e
theorem dC{p:Prop}[Decidable p](h:decide p=true:=by first|rfl|decide):p:=of_decide_eq_true h
theorem sC{p:Prop}(h:p:=by simp):p:=h
theorem lC{p:Prop}(h:p:=by lia):p:=h
end
section
set_option Elab.async false
namespace L2
open PySem PySem.Spec PyProof.Rows
noncomputable abbrev Key:=Sum Int Str
noncomputable def uT:Key->Value->Bool
 |.inl k,v=>zd8 k v
 |.inr x,v=>zcy x v
noncomputable def vC (w:z81):Key->Int
 |.inl k=>hashInt k
 |.inr x=>z9y w x
theorem zQ:∀{k:Key} {v:Value},uT k v=true->(∃i t,k=z9X i/\v=zaE i t)\/(∃x t,k=z9e x/\v=zcT x t)
 |.inl i,v,h=>by
  obtain⟨t,e⟩:=zcX (k:=i) (v:=v) h;exact .inl ⟨i,t,rfl,e⟩
 |.inr x,v,h=>by
  obtain⟨t,e⟩:=zcx (x:=x) (v:=v) h;exact .inr ⟨x,t,rfl,e⟩
theorem Ji(i:Int)(t:Tok):uT (.inl i) (.int i t)=true:=by simp[uT,zd8]
theorem Z8(x:Str)(t:Tok):uT (.inr x) (.str x t)=true:=by simp[uT,zcy]
theorem z2c(a b:Int):decide ((z9X a:Key)=z9X b)=(a==b):=by
 by_cases e:a=b
 .subst e;simp
 .have h:¬(z9X a:Key)=z9X b:=λq=>e (Sum.inl.inj q);rw[decide_eq_false h];exact (beq_eq_false_iff_ne.mpr e).symm
theorem z1R(a b:Str):decide ((z9e a:Key)=z9e b)=decide (a=b):=by
 by_cases e:a=b
 .subst e;simp
 .have h:¬(z9e a:Key)=z9e b:=λq=>e (z7v q);rw[decide_eq_false h,decide_eq_false e]
theorem z2a(a:Int)(b:Str):decide ((z9X a:Key)=z9e b)=false:=decide_eq_false (λq=>nomatch q)
theorem z20(a:Str)(b:Int):decide ((z9e a:Key)=z9X b)=false:=decide_eq_false (λq=>nomatch q)
noncomputable def zN(prog:z6t)(w:z81):PySem.KeyKind prog w Key where
 is:=uT
 hash:=vC w
 inj:=λv a b l f=>by
  rcases zQ l with⟨i,t,rfl,rfl⟩|⟨x,t,rfl,rfl⟩
  .rcases zQ f with⟨j,u,rfl,e⟩|⟨y,u,rfl,e⟩
   .injection e with c _;rw[c]
   .exact nomatch e
  .rcases zQ f with⟨j,u,rfl,e⟩|⟨y,u,rfl,e⟩
   .exact nomatch e
   .injection e with c _;rw[c]
 byValue:=λk v h=>by
  rcases zQ h with⟨i,t,rfl,rfl⟩|⟨x,t,rfl,rfl⟩<;>rfl
 pyHash:=λd h=>by
  rcases zQ d with⟨i,t,rfl,rfl⟩|⟨x,t,rfl,rfl⟩
  .exact wpAny_pyHash_int h
  .exact wpAny_pyHash_str h
 eqBool:=λg d h=>by
  rcases zQ g with⟨i,t,rfl,rfl⟩|⟨x,t,rfl,rfl⟩
  .rcases zQ d with⟨j,u,rfl,rfl⟩|⟨y,u,rfl,rfl⟩
   .rw[z2c] at h;exact wpAny_eqBool_int h
   .rw[z2a] at h;exact zaP i t y u _ _ _ _ h
  .rcases zQ d with⟨j,u,rfl,rfl⟩|⟨y,u,rfl,rfl⟩
   .rw[z20] at h;exact zaQ x t j u _ _ _ _ h
   .rw[z1R] at h;exact wpAny_eqBool_str h
 «strs»:=λk x t v h=>by
  rcases zQ h with⟨i,u,rfl,e⟩|⟨y,u,rfl,e⟩
  .exact nomatch e
  .injection e with c _;subst c;cases v<;>rfl
theorem Qc(prog:z6t)(w:z81)(i:Int)(t:Tok):(zN prog w).is (.inl i) (.int i t)=true:=Ji i t
theorem Qn(prog:z6t)(w:z81)(x:Str)(t:Tok):(zN prog w).is (.inr x) (.str x t)=true:=Z8 x t
set_option genInjectivity true in
inductive V where
 |n|bl (b:Bool)|int (i:Int)|str (x:Str)|byt (b:Array UInt8)|flt (b:UInt64)|ref (a:Addr)|ty (n:String)
 deriving DecidableEq
noncomputable def RelV:V->Value->Prop
 |.n,u=>u=z8T
 |.bl b,u=>u=z9Y b
 |.int i,u=>∃t,u=zaE i t
 |.str x,u=>∃t,u=zcT x t
 |.byt b,u=>∃t,u=zd9 b t
 |.flt b,u=>∃t,u=zda b t
 |.ref a,u=>u=z6u a
 |.ty n,u=>u=zc3 n
abbrev Vals:List V->List Value->Prop:=Paired RelV
theorem Vals.length(r:Vals xs j):xs.length=j.length:=zcz r
theorem Vals.get:∀{xs:List V} {a:List Value} {i:Nat} {x:V},Vals xs a->xs[i]?=some x->∃u,a[i]?=some u/\RelV x u
 |_,_,_,_,.nil,e=>by simp at e
 |_,_,0,_,.cons r _,e=>by simp at e;subst e;exact⟨_,rfl,r⟩
 |_,_,i+1,x,.cons _ t,e=>by
  obtain⟨u,h1,h2⟩:=Vals.get (i:=i) (x:=x) t (by simpa using e);exact⟨u,by simpa using h1,h2⟩
theorem Vals.set(r:RelV x u):∀{xs:List V} {a:List Value} (i:Nat),Vals xs a->Vals (xs.set i x) (a.set i u)
 |_,_,_,.nil=>.nil
 |_,_,0,.cons _ t=>.cons r t
 |_,_,i+1,.cons q t=>.cons q (Vals.set r i t)
theorem Vals.append:∀{xs a:List V} {c b:List Value},Vals xs c->Vals a b->Vals (xs++a) (c++b)
 |_,_,_,_,.nil,s=>s
 |_,_,_,_,.cons r t,s=>.cons r (Vals.append t s)
theorem Vals.take:∀{xs:List V} {a:List Value} (n:Nat),Vals xs a->Vals (xs.take n) (a.take n)
 |_,_,0,_=>.nil
 |_,_,_+1,.nil=>.nil
 |_,_,n+1,.cons r t=>.cons r (Vals.take n t)
theorem Vals.drop:∀{xs:List V} {a:List Value} (n:Nat),Vals xs a->Vals (xs.drop n) (a.drop n)
 |_,_,0,r=>r
 |_,_,_+1,.nil=>.nil
 |_,_,n+1,.cons _ t=>Vals.drop n t
noncomputable def RelO:Option V->Option Value->Prop
 |some v,some u=>RelV v u
 |none,none=>True
 |_,_=>False
noncomputable def KV {a:Type}:List (a×V)->List (a×Value)->Prop:=Paired λ(p:a×V) (q:a×Value)=>p.1=q.1/\RelV p.2 q.2
noncomputable def kV:Key->V
 |.inl i=>.int i
 |.inr x=>.str x
inductive HO where
 |l (xs:List V)
 |t (xs:List V)
 |dK (kvs:List (Key×V))|dE (ep:Nat) (kvs:List (Key×V))
 |set (S:Int->Bool) (n:Nat)
 |ins (C dx:Addr) (fs:List (Str×V))
 |own (x:Addr)
 |xd (fs:List (Str×V))
 |met (f x:Addr)
 |rng (lo hi:Int)
 |frz (o:Obj) (u:HO)
 |tbl (ps:Array Value)
 |ext (φ:Heap->Prop)
noncomputable abbrev Hp:=Addr->Option HO
noncomputable def upd (H:Hp)(a:Addr)(o:HO):Hp:=λb=>if b=a then some o else H b
theorem z0:upd H a o a=some o:=by unfold upd;rw[if_pos rfl]
theorem z4(h:b≠a):upd H a o b=H b:=by unfold upd;rw[if_neg h]
theorem VH:upd (upd H a o) a u=upd H a u:=by
 funext b;unfold upd;split<;>rfl
theorem zM{H:Hp}(h:H a=some o)(h':H b=none):a≠b:=by
 intro e;subst e;rw[h] at h';exact vD h'
section
variable (P:Program)(w:World)
noncomputable def ObjOk(H:Hp)(h:Heap)(a:Addr):HO->Prop
 |.l xs=>xs.length<=sizeLine/\∃(c:List Value) (n:Nat),Vals xs c/\h.get? a=some {cls:=.type "list",data:=.seq c.toArray n}
 |.t xs=>xs.length<=sizeLine/\∃c:List Value,Vals xs c/\IsTup h a c.toArray
 |.dK b=>b.length<=sizeLine/\(a==z7p)=false/\∃e,KV b e/\h.DictOf (zN P w) a e
 |.dE p b=>b.length<=sizeLine/\(a==z7p)=false/\∃e,KV b e/\h.DictAt (zN P w) a e p
 |.set S n=>h.SetOf (intKind P w) a S n
 |.ins C g fs=>H g=some (.own a)/\fs.length<=1000/\g≠a/\h.get? a=some (z7f C g)/\
   ∃d,h.Ns1 g d/\(∀f,RelO (fs.lookup f) (d f))/\zb5 d (fs.map (·.1))
 |.own _=>∃o,h.get? a=some o
 |.xd fs=>∃d,h.Ns1 a d/\∀f,RelO (fs.lookup f) (d f)
 |.rng lo m=>∃t u v,h.get? a=some {cls:=.type "range",data:=.fields #[.int lo t,.int m u,.int 1 v]}
 |.frz o u=>h.get? a=some o/\ObjOk H h a u
 |.tbl l=>h.get? a=some {cls:=.none,data:=.fields l}
 |.met f x=>h.get? a=some (zb6 (.ref f) (.ref x))
 |.ext i=>i h/\(∃o,h.get? a=some o)/\∀k j:Heap,i k->(∀o,k.get? a=some o->j.get? a=some o)->i j
noncomputable def HOk (H:Hp)(h:Heap):Prop:=∀a o,H a=some o->ObjOk P w H h a o
end
section
variable {P:Program}{w:World}{H H':Hp}{h h':Heap}{a:Addr}{o:HO}
theorem ObjOk.lt(x:ObjOk P w H h a o):a<h.objs.size:=by
 cases o with
 |l xs=>obtain⟨_,_,_,_,e⟩:=x;exact z5U e
 |t xs=>obtain⟨_,_,_,p⟩:=x;exact p.lt
 |dK b=>obtain⟨_,_,_,_,o,_,_,e,_⟩:=x;exact z5U e
 |dE ep b=>obtain⟨_,_,_,_,o,_,e,_⟩:=x;exact z5U e
 |set S n=>obtain⟨o,_,_,_,e,_⟩:=x;exact z5U e
 |ins C c fs=>obtain⟨_,_,_,e,_⟩:=x;exact z5U e
 |own y=>obtain⟨_,e⟩:=x;exact z5U e
 |xd fs=>obtain⟨_,⟨_,_,_,e,_⟩,_⟩:=x;exact z5U e
 |rng lo hi=>obtain⟨_,_,_,e⟩:=x;exact z5U e
 |frz ob u=>obtain⟨e,_⟩:=x;exact z5U e
 |tbl ps=>exact z5U (show h.get? a=some _ from x)
 |met f y=>exact z5U (show h.get? a=some _ from x)
 |ext φ=>obtain⟨_,⟨_,e⟩,_⟩:=x;exact z5U e
theorem ObjOk.stay(x:ObjOk P w H h a o)(k:∀b u,(b=a\/H b=some (.own a))->h.get? b=some u->h'.get? b=some u)
  (ho:∀b,H b=some (.own a)->H' b=some (.own a)) (ht:∀b xs,H b=some (.t xs)->H' b=some (.t xs)):ObjOk P w H' h' a o:=by
 induction o with
 |l xs=>obtain⟨z,g,n,r,e⟩:=x;exact⟨z,g,n,r,k _ _ (.inl rfl) e⟩
 |t xs=>obtain⟨z,g,r,ob,e,c⟩:=x;exact⟨z,g,r,ob,k _ _ (.inl rfl) e,c⟩
 |dK l=>obtain⟨z,y,vs,r,ob,es,ep,e,c⟩:=x;exact⟨z,y,vs,r,ob,es,ep,k _ _ (.inl rfl) e,c⟩
 |dE ep l=>obtain⟨z,y,vs,r,ob,es,e,c⟩:=x;exact⟨z,y,vs,r,ob,es,k _ _ (.inl rfl) e,c⟩
 |set S n=>obtain⟨ob,es,ep,t,e,c⟩:=x;exact⟨ob,es,ep,t,k _ _ (.inl rfl) e,c⟩
 |ins C A fs=>
  obtain⟨d,z,ne,e,j,⟨i,es,ep,s,c⟩,r⟩:=x;exact⟨ho _ d,z,ne,k _ _ (.inl rfl) e,j,⟨i,es,ep,k _ _ (.inr d) s,c⟩,r⟩
 |own y=>obtain⟨ob,e⟩:=x;exact⟨ob,k _ _ (.inl rfl) e⟩
 |xd fs=>obtain⟨j,⟨i,es,ep,e,c⟩,r⟩:=x;exact⟨j,⟨i,es,ep,k _ _ (.inl rfl) e,c⟩,r⟩
 |rng lo hi=>obtain⟨t,u,v,e⟩:=x;exact⟨t,u,v,k _ _ (.inl rfl) e⟩
 |frz ob u m=>obtain⟨e,q⟩:=x;exact⟨k _ _ (.inl rfl) e,m q⟩
 |tbl ps=>
  have e:=x;show h'.get? a=some {cls:=.none,data:=.fields ps};exact k a _ (.inl rfl) e
 |met f y=>
  have e:=x;show h'.get? a=some (zb6 (.ref f) (.ref y));exact k a _ (.inl rfl) e
 |ext φ=>obtain⟨p,⟨o,e⟩,st⟩:=x;exact⟨st _ _ p λo q=>k _ _ (.inl rfl) q,⟨o,k _ _ (.inl rfl) e⟩,st⟩
theorem HOk.lt(x:HOk P w H h)(e:H a=some o):a<h.objs.size:=(x a o e).lt
theorem HOk.fresh(x:HOk P w H h)(e:h.objs.size<=a):H a=none:=by
 cases q:H a with
 |none=>rfl
 |some u=>exact absurd (z5S (x.lt q) e) (z79 _)
theorem HOk.kept(x:HOk P w H h)(k:∀b u,h.get? b=some u->h'.get? b=some u):HOk P w H h':=λa o e=>
 (x a o e).stay (λb u _ q=>k b u q) (λ_ q=>q) λ_ _ q=>q
theorem HOk.laid(x:HOk P w H h)(k:∀b u,h.get? b=some u->h'.get? b=some u)(g:h.objs.size<=a)(new:ObjOk P w (upd H a o) h' a o):HOk P w (upd H a o) h':=λb u e=>by
 have d:=x.fresh g;by_cases f:b=a
 .subst f;rw[z0] at e;(replace e:=zm e;subst e);exact new
 .rw[z4 f] at e;exact (x b u e).stay (λc v _ q=>k c v q) (λc q=>(z4 (zM q d))▸q) λc xs q=>(z4 (zM q d))▸q
end
noncomputable def Rd (H:Hp)(a:Addr)(u:HO):Prop:=H a=some u\/∃o,H a=some (.frz o u)
theorem Rd.ok{P:z6t}(r:Rd H a u)(x:HOk P w H h):ObjOk P w H h a u:=by
 rcases r with r|⟨o,r⟩
 .exact x a u r
 .obtain⟨_,q⟩:=x a _ r;exact q
noncomputable def Mut:Option HO->Prop
 |some (.l _)=>True
 |some (.dK _)=>True
 |some (.dE _ _)=>True
 |some (.set _ _)=>True
 |some (.ins _ _ _)=>True
 |some (.ext _)=>True
 |_=>False
section
variable {P:Program}{w:World}{H:Hp}{h h':Heap}{x e:Addr}{o':HO}
theorem HOk.write(ok:HOk P w H h)(i:Mut (H x))(he:e=x\/H e=some (.own x))(k:∀b u,b≠e->h.get? b=some u->h'.get? b=some u)(l:∃u,h'.get? e=some u)
  (new:ObjOk P w (upd H x o') h' x o'):HOk P w (upd H x o') h':=λb u q=>by
 have d:∀c y,H c=some (.own y)->c≠x:=λc y r z=>by subst z;rw[r] at i;exact i
 have f:∀c xs,H c=some (.t xs)->c≠x:=λc xs r z=>by subst z;rw[r] at i;exact i
 by_cases j:b=x
 .subst j;rw[z0] at q;(replace q:=zm q;subst q);exact new
 .rw[z4 j] at q;by_cases a:b=e
  .have g:H b=some (.own x):=by
    rcases he with z|z
    .exact absurd (a.trans z) j
    .rw[a];exact z
   rw[q] at g;(replace g:=zm g;subst g);obtain⟨v,m⟩:=l;exact⟨v,a▸m⟩
  .refine (ok b u q).stay (λc v hc r=>k c v ?_ r) (λc r=>(z4 (d c b r))▸r) λc xs r=>(z4 (f c xs r))▸r;rcases hc with rfl|hc
   .exact a
   .rintro rfl;rcases he with z|z
    .exact d c b hc z
    .rw[hc] at z;cases z;exact j rfl
end
structure Un(fs ex:List Addr)(H H':Hp)(h h':Heap):Prop where
 keep:∀b o,h.get? b=some o->H b=none->b∉fs->b∉ex->h'.get? b=some o
 slot:∀b o,h.get? b=some o->H b=none->b∈fs->b∉ex->∃sl,h'.get? b=some {o with slots:=sl}
 free:∀b o,h.get? b=some o->H b=none->b∉ex->H' b=none
 there:∀b o,h.get? b=some o->b∉ex->∃o',h'.get? b=some o'
 tups:∀b xs,H b=some (.t xs)->H' b=some (.t xs)
 frzs:∀b o u,H b=some (.frz o u)->H' b=some (.frz o u)
 tbls:∀b ps,H b=some (.tbl ps)->∃more,H' b=some (.tbl (ps++more))
section
variable {fs ex:List Addr}{H H1:Hp}{h h1 h':Heap}{a x e:Addr}{o:HO}
theorem Un.any(u:Un fs ex H H1 h h1)(q:h.get? b=some ob)(n:H b=none)(a:b∉ex):∃j,h1.get? b=some {ob with slots:=j}:=by
 by_cases c:b∈fs
 .exact u.slot b ob q n c a
 .exact⟨ob.slots,u.keep b ob q n c a⟩
theorem Un.kept(k:∀b u,h.get? b=some u->h'.get? b=some u):Un fs ex H H h h':=
 ⟨λb ob q _ _ _=>k b ob q,λb ob q _ _ _=>⟨ob.slots,k b ob q⟩,λ_ _ _ n _=>n,λb ob q _=>⟨ob,k b ob q⟩,λ_ _ q=>q,λ_ _ _ q=>q,λ_ ps q=>⟨#[],by rw[q];simp⟩⟩
theorem Un.refl:Un fs ex H H h h:=Un.kept λ_ _ q=>q
theorem Un.laid(k:∀b u,h.get? b=some u->h'.get? b=some u)(d:h.objs.size<=a)(c:H a=none):Un fs ex H (upd H a o) h h' where
 keep:=λb u q _ _ _=>k b u q
 slot:=λb u q _ _ _=>⟨u.slots,k b u q⟩
 free:=λb u q n _=>(z4 (z6b (z5S (z5U q) d)))▸n
 there:=λb u q _=>⟨u,k b u q⟩
 tups:=λb xs q=>(z4 (zM q c))▸q
 frzs:=λb u xs q=>(z4 (zM q c))▸q
 tbls:=λb ps q=>⟨#[],by rw[z4 (zM q c),q];simp⟩
theorem Un.write(c:Mut (H x))(he:e=x\/H e=some (.own x))(k:∀b u,b≠e->h.get? b=some u->h'.get? b=some u)(d:∃u,h'.get? e=some u):Un fs ex H (upd H x o) h h':=by
 have f:∀b,H b=none->b≠x:=λb n z=>by subst z;rw[n] at c;exact c
 have g:∀b,H b=none->b≠e:=λb n z=>by
  subst z;rcases he with r|r
  .exact f b n r
  .rw[n] at r;exact z7 r
 have hm:∀b u,H b=some u->¬Mut (some u)->b≠x:=λb u q nm z=>by subst z;rw[q] at c;exact nm c
 refine⟨λb u q n _ _=>k b u (g b n) q,λb u q n _ _=>⟨u.slots,k b u (g b n) q⟩,λb u q n _=>(z4 (f b n))▸n,λb u q _=>?_,
  λb xs q=>(z4 (hm b _ q λz=>z))▸q,λb u xs q=>(z4 (hm b _ q λz=>z))▸q,λb ps q=>⟨#[],by rw[z4 (hm b _ q λz=>z),q];simp⟩⟩
 by_cases a:b=e
 .subst a;exact d
 .exact⟨u,k b u a q⟩
end
noncomputable def trk (h:Heap)(H:Hp):List Addr:=(z6V h.objs.size).filter λa=>(H a).isSome
noncomputable def Zb (h:Heap)(H:Hp):Heap:=PySem.W.hideAll h (trk h H)
theorem JM(h:Heap)(H:Hp):(Zb h H).objs.size=h.objs.size:=PySem.W.hideAll_size _ _
theorem KC(e:h.get? b=some o)(n:H b=none):(Zb h H).get? b=some o:=
 PySem.W.hideAll_get _ e λa=>by
  have q:=(z6o.mp a).2;rw[n] at q;simp at q
theorem YT(e:(Zb h H).get? b=some o):h.get? b=some o/\H b=none:=by
 have a:=PySem.W.of_hideAll (trk h H) e;refine⟨a,?_⟩;cases q:H b with
 |none=>rfl
 |some x=>
  have c:b∈trk h H:=z6o.mpr ⟨z7S.mpr (z5U a),by simp[q]⟩;have z:(Zb h H).get? b=none:=PySem.W.hideAll_none (trk h H) c;rw[z] at e;exact z7 e
noncomputable def Ud(g h:Heap)(L:Addr):List (Addr×Obj):=(z6V h.objs.size).filterMap λa=>if a=L\/(g.get? a).isSome=true then none else (h.get? a).map λo=>(a,o)
noncomputable def rest (g h:Heap)(L d:Addr):List (Addr×Obj):=(Ud g h L).filter λp=>decide (p.1≠d)
structure Mod(K:PySem.W.Frag)(mg:Str->Option Value)(base:Heap):Prop where
 kin:K.In base
 glob:base.Ns z6i mg
 blt:∃mb,base.Ns z9j mb/\∀x:Str,x≠"__name__"->mb x=z6W x
 nolimit:base.NoLimit
structure Cx where
 prog:z6t
 w:z81
 K:z5M
 mg:Str->Option Value
 base:Heap
 A:z84
 N:List Str
 s₀:z5W
 H₀:Hp
 env:Env
 outer:List Env
 stack:List Env
 ex:List Addr
 fn:Str->Bool
 calm:Bool
 pn:List (Addr×Obj)
 xe:Value->z5W->Prop
noncomputable def frs(l:List Env):List Addr:=l.filterMap (·.frame)
noncomputable abbrev Cx.fs(X:Cx):List Addr:=frs X.outer
noncomputable def Vis (sc:Scope)(x:Str):Prop:=sc.names.lookup x=some .local\/sc.names.lookup x=some .cell\/sc.names.lookup x=some .free
noncomputable def Loc (sc:Scope)(x:Str):Prop:=sc.names.lookup x=some .local\/sc.names.lookup x=some .cell
noncomputable def Look (env:Env)(h:Heap)(m:Str->Option Value)(x:Str)(u:Value):Prop:=
 (env.kindOf x=some .local/\m x=some u)\/((env.kindOf x=some .cell\/env.kindOf x=some .free)/\∃c,env.cells.lookup x=some c/\h.IsCell c (some u))
structure Cx.Ok(X:Cx):Prop where
 mod:Mod X.K X.mg X.base
 kind:X.env.scope.kind=.function
 glob:X.env.globals=z6i
 blt:X.env.builtins=z9j
 above:X.s₀.heap.objs.size<=X.env.locals
 inj:∀x y c,X.env.cells.lookup x=some c->X.env.cells.lookup y=some c->x=y
 has:∀x,(X.env.kindOf x=some .cell\/X.env.kindOf x=some .free)->∃c,X.env.cells.lookup x=some c
 cab:∀x c,X.fn x=true->X.env.cells.lookup x=some c->X.s₀.heap.objs.size<=c
 hd:X.calm=true->X.A.handled=none
 frames:X.A.frames=some X.stack
 stk:X.stack=X.outer\/(X.stack=X.env::X.outer/\X.env.frame=some X.env.locals)
 exf:∀b∈X.ex,b≠X.env.locals/\∀x c,X.env.cells.lookup x=some c->c≠b
 bs:∀b o,X.base.get? b=some o->X.s₀.heap.get? b=some o/\X.H₀ b=none
 bsz:X.base.objs.size<=X.s₀.heap.objs.size
 noex:∀b o,X.base.get? b=some o->b∉X.ex
 exfs:∀b∈X.ex,b∉X.fs
 funs:X.s₀.heap.FunFrames X.base X.outer
 frf:∀b∈X.fs,X.H₀ b=none
structure Inv(X:Cx)(pins:List (Addr×Obj))(σ:List (Option V))(H:Hp)(s:Shared):Prop where
 ok:X.Ok
 os:s.os=X.s₀.os
 bare:z9z s.gens
 base:Un X.fs X.ex X.H₀ H X.s₀.heap s.heap
 loc:∃m,s.heap.Ns X.env.locals m/\∀(i:Nat) (x:Str) (v:V),X.N[i]?=some x->σ[i]?=some (some v)->Vis X.env.scope x->∃u,RelV v u/\Look X.env s.heap m x u
 cell:∀x c,X.env.cells.lookup x=some c->∃v,s.heap.IsCell c v
 free:H X.env.locals=none
 freeC:∀x c,X.env.cells.lookup x=some c->H c=none\/(X.fn x=false/\∃o u,H c=some (.frz o u))
 pin:∀p∈X.pn++pins,s.heap.get? p.1=some p.2/\H p.1=none/\p.1≠X.env.locals/\p.1∉X.fs/\∀v,p.2.data≠.cell v
 hok:HOk X.prog X.w H s.heap
 len:σ.length=X.N.length
section
variable {X:Cx}{pins:List (Addr×Obj)}{σ:List (Option V)}{H H':Hp}{s:Shared}{h':Heap}
theorem Cx.Ok.nofr(ok:X.Ok)(e:X.base.get? b=some o):b∉X.fs:=λa=>by
 have:=(ok.funs.mem a).1;rw[e] at this;exact vD this
theorem Inv.bs(I:Inv X pins σ H s):∀b o,X.base.get? b=some o->s.heap.get? b=some o/\H b=none:=λb o e=>
 ⟨I.base.keep b o (I.ok.bs b o e).1 (I.ok.bs b o e).2 (I.ok.nofr e) (I.ok.noex b o e),I.base.free b o (I.ok.bs b o e).1 (I.ok.bs b o e).2 (I.ok.noex b o e)⟩
theorem Inv.bk(I:Inv X pins σ H s):∀b o,X.base.get? b=some o->s.heap.get? b=some o:=λb o e=>(I.bs b o e).1
theorem Inv.mod(I:Inv X pins σ H s):Mod X.K X.mg X.base:=I.ok.mod
theorem Inv.kIn(I:Inv X pins σ H s):X.K.In s.heap:=I.ok.mod.kin.keeps I.bk
theorem Inv.lt(I:Inv X pins σ H s):X.env.locals<s.heap.objs.size:=let ⟨_,a,_⟩:=I.loc;a.lt
theorem Inv.sz(I:Inv X pins σ H s):X.s₀.heap.objs.size<=s.heap.objs.size:=z66 I.ok.above (z7w I.lt)
theorem Inv.nofs(I:Inv X pins σ H s){a:Addr}(h:s.heap.objs.size<=a):a∉X.fs:=λb=>by
 obtain⟨_,o,ho,_⟩:=I.ok.funs.mem b;exact absurd (z5S (z5U ho) (z66 I.sz h)) (z79 _)
theorem Inv.cne(I:Inv X pins σ H s):∀x c,X.env.cells.lookup x=some c->c≠X.env.locals:=λx c e z=>by
 obtain⟨v,o,ho,hd⟩:=I.cell x c e;obtain⟨m,⟨d,es,ep,a,b,_⟩,_⟩:=I.loc;rw[z,a] at ho;cases ho;rw[b] at hd;injection hd
theorem Inv.funs(I:Inv X pins σ H s):s.heap.FunFrames X.base X.outer:=by
 have all:∀(l:List Env),(∀b∈frs l,b∈X.fs)->X.s₀.heap.FunFrames X.base l->s.heap.FunFrames X.base l:=by
  intro l;induction l with
  |nil=>intro _ _;trivial
  |cons env r d=>
   intro hs h;obtain⟨hk,⟨L,o,hf,g,ho,hd⟩,f⟩:=h;have c:=hs L (by unfold frs;rw[z9a,hf];exact z60);obtain⟨i,e⟩:=I.base.slot L o ho (I.ok.frf L c) c λz=>I.ok.exfs L z c;exact⟨hk,⟨L,_,hf,g,e,hd⟩,d (λb a=>hs b (by unfold frs;rw[z9a,hf];exact z5T _ a)) f⟩
 exact all X.outer (λ_ a=>a) I.ok.funs
theorem Inv.stack(I:Inv X pins σ H s):s.heap.FunFrames X.base X.stack:=by
 rcases I.ok.stk with e|⟨e,hf⟩
 .rw[e];exact I.funs
 .rw[e];obtain⟨m,a,_⟩:=I.loc;refine .cons (by rw[I.ok.kind];decide) hf a ?_ I.funs;exact z6M (z66 I.ok.bsz I.ok.above)
theorem Inv.stkSub(I:Inv X pins σ H s):∀b∈frs X.stack,b∈X.env.locals::X.fs:=λb a=>by
 rcases I.ok.stk with e|⟨e,hf⟩
 .rw[e] at a;exact z5T _ a
 .rw[e] at a;unfold frs at a;rw[z9a,hf] at a;exact a
theorem Inv.stkFree(I:Inv X pins σ H s):∀b∈frs X.stack,H b=none:=λb a=>by
 rcases z61.mp (I.stkSub b a) with e|a
 .rw[e];exact I.free
 .obtain⟨_,o,ho,_⟩:=I.ok.funs.mem a;exact I.base.free b o ho (I.ok.frf b a) λz=>I.ok.exfs b z a
theorem Inv.step{ch:List Addr}(I:Inv X pins σ H s)
  (h:∀b∈ch,(b∈X.ex\/X.s₀.heap.objs.size<=b)/\b≠X.env.locals/\(∀x c,X.env.cells.lookup x=some c->c≠b)/\∀p∈X.pn++pins,p.1≠b)
  (keep:∀b o,b≠X.env.locals->b∉X.fs->b∉ch->s.heap.get? b=some o->H b=none->h'.get? b=some o)
  (slot:∀b o,b≠X.env.locals->b∈X.fs->b∉ch->s.heap.get? b=some o->H b=none->∃G,h'.get? b=some {o with slots:=G}) (free:∀b o,b∉ch->s.heap.get? b=some o->H b=none->H' b=none)
  (there:∀b o,b∉ch->s.heap.get? b=some o->∃B,h'.get? b=some B)
  (tups:∀b xs,H b=some (.t xs)->H' b=some (.t xs)) (frzs:∀b o u,H b=some (.frz o u)->H' b=some (.frz o u)) (tbls:∀b ps,H b=some (.tbl ps)->∃D,H' b=some (.tbl (ps++D)))
  (ns:∀m,s.heap.Ns X.env.locals m->h'.Ns X.env.locals m) (hok:HOk X.prog X.w H' h') (hg:z9z g') :
  Inv X pins σ H' {s with heap:=h',gens:=g',drawn:=d',toks:=t'}:=by
 have C:∀b o,X.s₀.heap.get? b=some o->b≠X.env.locals:=λb o e=>z6b (z5S (z5U e) I.ok.above);have t:∀b o,X.s₀.heap.get? b=some o->b∉X.ex->b∉ch:=λb o e a A=>by
  rcases (h b A).1 with z|z
  .exact a z
  .exact absurd (z5S (z5U e) z) (z79 _)
 have j:∀x c,X.env.cells.lookup x=some c->∀v,s.heap.IsCell c v->h'.IsCell c v:=λx c e v ⟨o,ho,hd⟩=>by
  have g:c∉ch:=λz=>(h c z).2.2.1 x c e rfl;rcases I.freeC x c e with f|⟨_,ob,u,f⟩
  .by_cases hc:c∈X.fs
   .obtain⟨G,q⟩:=slot c o (I.cne x c e) hc g ho f;exact⟨_,q,hd⟩
   .exact⟨o,keep c o (I.cne x c e) hc g ho f,hd⟩
  .have h1:=(I.hok c _ f).1;rw[ho] at h1;(replace h1:=zm h1;subst h1);exact⟨o,(hok c _ (frzs c _ u f)).1,hd⟩
 refine⟨I.ok,I.os,hg,⟨λb o e n A a=>?_,λb o e n A a=>?_,λb o e n a=>?_,λb o e a=>?_,λb xs e=>tups b xs (I.base.tups b xs e),λb o xs e=>frzs b o xs (I.base.frzs b o xs e),λb ps e=>?_⟩,?_,λx c e=>?_,?_,λx c e=>?_,λp K=>?_,hok,I.len⟩
 .exact keep b o (C b o e) A (t b o e a) (I.base.keep b o e n A a) (I.base.free b o e n a)
 .obtain⟨G,y⟩:=I.base.slot b o e n A a;obtain⟨F,E⟩:=slot b _ (C b o e) A (t b o e a) y (I.base.free b o e n a);exact⟨F,E⟩
 .obtain⟨B,y⟩:=I.base.there b o e a;exact free b B (t b o e a) y (I.base.free b o e n a)
 .obtain⟨B,y⟩:=I.base.there b o e a;exact there b B (t b o e a) y
 .obtain⟨m1,y⟩:=I.base.tbls b ps e;obtain⟨L,E⟩:=tbls b _ y;exact⟨m1++L,by rw[E,Array.append_assoc]⟩
 .obtain⟨m,M,N⟩:=I.loc;refine⟨m,ns m M,λi x v y E O=>?_⟩;obtain⟨u,r,l⟩:=N i x v y E O;refine⟨u,r,?_⟩;rcases l with l|⟨k,c,e,z⟩
  .exact .inl l
  .exact .inr ⟨k,c,e,j x c e _ z⟩
 .obtain⟨v,z⟩:=I.cell x c e;exact⟨v,j x c e v z⟩
 .obtain⟨m,⟨o,_,_,ho,_⟩,_⟩:=I.loc;exact free _ o (λz=>(h _ z).2.1 rfl) ho I.free
 .obtain⟨v,o,ho,hd⟩:=I.cell x c e;exact (I.freeC x c e).imp (free c o (λz=>(h c z).2.2.1 x c e rfl) ho) λ⟨n,ob,u,f⟩=>⟨n,ob,u,frzs c ob u f⟩
 .obtain⟨e,n,ne,J,d⟩:=I.pin p K;have g:p.1∉ch:=λz=>(h p.1 z).2.2.2 p K rfl;exact⟨keep p.1 p.2 ne J g e n,free p.1 p.2 g e n,ne,J,d⟩
theorem Inv.un(I:Inv X pins σ H s)(u:Un X.fs [] H H' s.heap h')(hok:HOk X.prog X.w H' h'):Inv X pins σ H' {s with heap:=h',toks:=t'}:=by
 obtain⟨m,⟨o,es,ep,ho,r⟩,_⟩:=id I.loc;obtain⟨i,h⟩:=u.any ho I.free sC;exact I.step (g':=s.gens) (d':=s.drawn) (ch:=[]) (λ_ z=>nomatch z) (λb o _ c _ e n=>u.keep b o e n c sC) (λb o _ c _ e n=>u.slot b o e n c sC) (λb o _ e n=>u.free b o e n sC) (λb o _ e=>u.there b o e sC) u.tups u.frzs u.tbls (λm' hm=>by
  obtain⟨j,d,f,a,g⟩:=hm;rw[ho] at a;(replace a:=zm a;subst a);exact⟨_,d,f,h,g⟩) hok I.bare
theorem Inv.call{ch:List Addr}(I:Inv X pins σ H s)(u:Un (frs X.stack) ch H H' s.heap h')(hok:HOk X.prog X.w H' h')(hg:z9z g')
  (d:∀b∈ch,(b∈X.ex\/X.s₀.heap.objs.size<=b)/\b≠X.env.locals/\(∀x c,X.env.cells.lookup x=some c->c≠b)/\∀p∈X.pn++pins,p.1≠b) :
  Inv X pins σ H' {s with heap:=h',gens:=g',drawn:=d',toks:=t'}:=by
 obtain⟨m,⟨o,es,ep,ho,r⟩,_⟩:=id I.loc;obtain⟨k,f⟩:=u.any ho I.free λz=>(d _ z).2.1 rfl;exact I.step (ch:=ch) d (λb o f j hc e n=>u.keep b o e n (λz=>(z61.mp (I.stkSub b z)).elim f j) hc) (λb o _ _ hc e n=>u.any e n hc) (λb o hc e n=>u.free b o e n hc) (λb o hc e=>u.there b o e hc) u.tups u.frzs u.tbls (λm' hm=>by
  obtain⟨l,g,h,a,i⟩:=hm;rw[ho] at a;(replace a:=zm a;subst a);exact⟨_,g,h,f,i⟩) hok hg
theorem Inv.turned{t':Nat}(I:Inv X pins σ H s)(k:∀b o,b≠it->s.heap.get? b=some o->h'.get? b=some o)(f:H it=none)(d:it≠X.env.locals)
  (h1:it∈X.ex\/X.s₀.heap.objs.size<=it) (h2:∀x c,X.env.cells.lookup x=some c->c≠it) (h:∀p∈X.pn++pins,p.1≠it):Inv X pins σ H {s with heap:=h',toks:=t'}:=by
 have a:∀b u,H b=some u->b≠it:=λb u e z=>by rw[z,f] at e;exact z7 e
 refine I.step (g':=s.gens) (d':=s.drawn) (ch:=[it]) (λb g=>?_) (λb o _ _ hc e _=>k b o (λz=>hc (by simp[z])) e) (λb o _ _ hc e _=>⟨o.slots,k b o (λz=>hc (by simp[z])) e⟩) (λ_ _ _ _ n=>n)
  (λb o hc e=>⟨o,k b o (λz=>hc (by simp[z])) e⟩) (λ_ _ e=>e) (λ_ _ _ e=>e) (λb ps e=>⟨#[],by rw[e];simp⟩) (λm hm=>?_) (λb u e=>?_) I.bare
 .have e:b=it:=by simpa using g
  subst e;exact⟨h1,d,h2,h⟩
 .obtain⟨o,es,ep,ho,r⟩:=hm;exact⟨o,es,ep,k _ o (z6f d) ho,r⟩
 .refine (I.hok b u e).stay (λc v hc q=>k c v ?_ q) (λ_ q=>q) λ_ _ q=>q;rcases hc with z|z
  .rw[z];exact a b u e
  .exact a c _ z
theorem Inv.tok(I:Inv X pins σ H s)(t:Nat):Inv X pins σ H {s with toks:=t}:=I.un (h':=s.heap) (t':=t) Un.refl I.hok
theorem Inv.kept(I:Inv X pins σ H s)(k:∀b u,s.heap.get? b=some u->h'.get? b=some u):Inv X pins σ H {s with heap:=h',toks:=t'}:=I.un (Un.kept k) (I.hok.kept k)
theorem Inv.laid{a:Addr}(I:Inv X pins σ H s)(k:∀b u,s.heap.get? b=some u->h'.get? b=some u)(c:s.heap.objs.size<=a)(new:ObjOk X.prog X.w (upd H a o) h' a o) :
  Inv X pins σ (upd H a o) {s with heap:=h',toks:=t'}:=I.un (Un.laid k c (I.hok.fresh c)) (I.hok.laid k c new)
theorem Inv.write(I:Inv X pins σ H s)(c:Mut (H x))(he:e=x\/H e=some (.own x))(k:∀b u,b≠e->s.heap.get? b=some u->h'.get? b=some u)(a:∃u,h'.get? e=some u)
  (new:ObjOk X.prog X.w (upd H x o) h' x o):Inv X pins σ (upd H x o) {s with heap:=h',toks:=t'}:=I.un (Un.write c he k a) (I.hok.write c he k a new)
theorem Inv.pins_of(I:Inv X pins σ H s)(h:∀p∈j,s.heap.get? p.1=some p.2/\H p.1=none/\p.1≠X.env.locals/\p.1∉X.fs/\∀v,p.2.data≠.cell v):Inv X j σ H s:=
 ⟨I.ok,I.os,I.bare,I.base,I.loc,I.cell,I.free,I.freeC,λp a=>(z5L.mp a).elim (λz=>I.pin p (z65 _ z)) (h p),I.hok,I.len⟩
theorem jF{N:List Str}(hN:N.Nodup){i:Nat}(a:N[i]?=some x)(b:N[j]?=some x):i=j:=by
 obtain⟨f,d⟩:=z5C.mp a;obtain⟨e,c⟩:=z5C.mp b;exact (z7T hN).mp (d.trans c.symm)
theorem K1{E:Value->z5W->Prop}{i:Nat}{x:Str}{v:V}{u:Value}(I:Inv X pins σ H s)(hN:X.N.Nodup)(hi:X.N[i]?=some x)(B:Loc X.env.scope x)(r:RelV v u)
  (h:∀s',Inv X pins (σ.set i (some v)) H s'->(∃a,z6K a s.heap s'.heap/\(a=X.env.locals\/X.env.cells.lookup x=some a))->Q () s') (hf:X.fn x=true\/X.env.scope.names.lookup x=some .local:=by first|exact .inl rfl|exact .inr rfl|assumption):z5V M A (storeName X.env x u) Q E s:=by
 obtain⟨m,hn,hl⟩:=id I.loc;have R:(X.env.scope.kind==.class || (X.env.scope.kind==.module&&X.env.locals != X.env.globals))=false:=by rw[I.ok.kind];rfl
 have F:i<σ.length:=I.len▸(z5C.mp hi).1;have cne:=I.cne;have g:∀{a:Addr} {L:Heap},(∃o,s.heap.get? a=some o/\H a=none)->z6K a s.heap L->HOk X.prog X.w H L:=λ{a L} ha hs b ob e=>by
  obtain⟨_,_,C⟩:=ha;refine (I.hok b ob e).stay (λc U t q=>(hs.2 c ?_).trans q) (λ_ q=>q) λ_ _ q=>q;rintro rfl;rcases t with rfl|t
  .rw[C] at e;exact z7 e
  .rw[C] at t;exact z7 t
 rcases B with G|G
 .refine wpAny_storeName_local G hn (λL hn' hs=>?_) R;obtain⟨oL,_,_,hoL,_⟩:=id hn;refine h _ ⟨I.ok,I.os,I.bare,⟨λb o e n K B=>?_,λb o e n K B=>?_,I.base.free,λb o e B=>?_,I.base.tups,I.base.frzs,I.base.tbls⟩,⟨_,hn',λj y Y f l e3=>?_⟩,λy c e=>?_,I.free,I.freeC,λp hp=>?_,g ⟨oL,hoL,I.free⟩ hs,by simpa using I.len⟩ ⟨_,hs,.inl rfl⟩
  .exact (hs.2 b (z6b (z5S (z5U e) I.ok.above))).trans (I.base.keep b o e n K B)
  .obtain⟨sl,f⟩:=I.base.slot b o e n K B;exact⟨sl,(hs.2 b (z6b (z5S (z5U e) I.ok.above))).trans f⟩
  .obtain⟨o',f⟩:=I.base.there b o e B;exact⟨o',(hs.2 b (z6b (z5S (z5U e) I.ok.above))).trans f⟩
  .by_cases J:j=i
   .subst J;rw[hi] at f;(replace f:=zm f;subst f);rw[z6N F] at l;(injection l with l;injection l with l;subst l);exact⟨u,r,.inl ⟨G,sC⟩⟩
   .rw[z5G (z6f J)] at l;obtain⟨Z,r',q⟩:=hl j y Y f l e3;refine⟨Z,r',?_⟩;rcases q with⟨k,e⟩|⟨k,c,e,z⟩
    .refine .inl ⟨k,?_⟩;have:y≠x:=λe=>J (jF hN f (e▸hi));simp[this,e]
    .exact .inr ⟨k,c,e,z.sameBut hs (cne y c e)⟩
  .obtain⟨U,z⟩:=I.cell y c e;exact⟨U,z.sameBut hs (cne y c e)⟩
  .obtain⟨e,n,ne,nf,d⟩:=I.pin p hp;exact⟨(hs.2 p.1 ne).trans e,n,ne,nf,d⟩
 .have D:X.fn x=true:=by
   rcases hf with z|z
   .exact z
   .rw[z] at G;contradiction
  obtain⟨c,t⟩:=I.ok.has x (.inl G);obtain⟨U,z⟩:=I.cell x c t;refine wpAny_storeName_cell I.ok.kind G t z (λL T hs=>?_);obtain⟨oc,P,O⟩:=id z;refine h {s with heap:=L} ⟨I.ok,I.os,I.bare,⟨λb o e n K B=>?_,λb o e n K B=>?_,I.base.free,λb o e B=>?_,I.base.tups,I.base.frzs,I.base.tbls⟩,⟨m,hn.sameBut hs (z6f (cne x c t)),λj y Y f l e3=>?_⟩,λy W e=>?_,I.free,I.freeC,λp hp=>?_,g ⟨oc,P,(I.freeC x c t).resolve_right λz=>by rw[D] at z;cases z.1⟩ hs,by simpa using I.len⟩ ⟨c,hs,.inr t⟩
  .exact (hs.2 b (z6b (z5S (z5U e) (I.ok.cab x c D t)))).trans (I.base.keep b o e n K B)
  .obtain⟨sl,f⟩:=I.base.slot b o e n K B;exact⟨sl,(hs.2 b (z6b (z5S (z5U e) (I.ok.cab x c D t)))).trans f⟩
  .obtain⟨o',f⟩:=I.base.there b o e B;exact⟨o',(hs.2 b (z6b (z5S (z5U e) (I.ok.cab x c D t)))).trans f⟩
  .by_cases J:j=i
   .subst J;rw[hi] at f;(replace f:=zm f;subst f);rw[z6N F] at l;(injection l with l;injection l with l;subst l);exact⟨u,r,.inr ⟨.inl G,c,t,T⟩⟩
   .rw[z5G (z6f J)] at l;obtain⟨Z,r',q⟩:=hl j y Y f l e3;refine⟨Z,r',?_⟩;rcases q with q|⟨k,W,e,z'⟩
    .exact .inl q
    .refine .inr ⟨k,W,e,z'.sameBut hs ?_⟩;rintro rfl;exact J (jF hN f (I.ok.inj _ _ _ e t▸hi))
  .by_cases S:W=c
   .subst S;exact⟨_,T⟩
   .obtain⟨w2,z2⟩:=I.cell y W e;exact⟨w2,z2.sameBut hs S⟩
  .obtain⟨e,n,ne,nf,d⟩:=I.pin p hp;refine⟨(hs.2 p.1 ?_).trans e,n,ne,nf,d⟩;intro q;rw[q,P] at e;have q':=z5J e;exact d U (q'▸O)
theorem xM{i:Nat}{x:Str}{v:V}(I:Inv X pins σ H s)(hN:X.N.Nodup)(hi:X.N[i]?=some x)(a:Loc X.env.scope x)(r:RelV v u)
  (h:∀j,Inv X pins (σ.set i (some v)) H j->Q () j) (hf:X.fn x=true\/X.env.scope.names.lookup x=some .local:=by first|exact .inl rfl|exact .inr rfl|assumption):z5V M A (storeName X.env x u) Q E s:=
 K1 I hN hi a r (λj b _=>h j b) hf
theorem Inv.call'(I:Inv X pins σ H s)(ho:j.os=s.os)(u:Un (frs X.stack) ch H H' s.heap j.heap)(hok:HOk X.prog X.w H' j.heap)(hg:z9z j.gens)
  (a:∀b∈ch,(b∈X.ex\/X.s₀.heap.objs.size<=b)/\b≠X.env.locals/\(∀x c,X.env.cells.lookup x=some c->c≠b)/\∀p∈X.pn++pins,p.1≠b):Inv X pins σ H' j:=by
 obtain⟨h',g',d',t',d⟩:=j;have e:=ho;subst e;exact I.call (g':=g') (t':=t') (d':=d') u hok hg a
end
noncomputable abbrev XK:=Value->Option Addr->Hp->Prop
noncomputable abbrev St:=List (Option V)
noncomputable abbrev VK:=V->Hp->Prop
noncomputable abbrev TE:=St->Hp->VK->Prop
noncomputable abbrev TT:=St->Hp->(Bool->Hp->Prop)->Prop
noncomputable abbrev TA:=St->Hp->(List V->Hp->Prop)->Prop
structure Ends where
 nx:St->Hp->Prop
 rt:VK
 bk:St->Hp->Prop:=λ_ _=>False
 ct:St->Hp->Prop:=λ_ _=>False
noncomputable abbrev TS:=Ends->St->Hp->Prop
inductive EP(X:Cx)(pins:List (Addr×Obj))(σ:St)(Q:VK)(u:Value)(s':Shared):Prop where
 |mk (v:V) (H':Hp) (i:Inv X pins σ H' s') (r:RelV v u) (q:Q v H')
inductive TP(X:Cx)(pins:List (Addr×Obj))(σ:St)(Q:Bool->Hp->Prop)(b:Bool)(s':Shared):Prop where
 |mk (H':Hp) (i:Inv X pins σ H' s') (q:Q b H')
inductive AP(X:Cx)(pins:List (Addr×Obj))(σ:St)(Q:List V->Hp->Prop)(us:List Value)(s':Shared):Prop where
 |mk (vs:List V) (H':Hp) (i:Inv X pins σ H' s') (r:Vals vs us) (q:Q vs H')
noncomputable def SP (X:Cx)(b:List (Addr×Obj))(D:Ends)(f:Flow)(d:z5W):Prop:=
 match f with
 |.next=>∃a c,Inv X b a c d/\D.nx a c
 |.brk=>∃a c,Inv X b a c d/\D.bk a c
 |.cont=>∃a c,Inv X b a c d/\D.ct a c
 |.ret u=>∃v a c,Inv X b a c d/\RelV v u/\D.rt v c
noncomputable def PE (X:Cx)(e:Expr)(t:TE):Prop:=
 ∀(a:List (Addr×Obj)) (s:z5W) (b:St) (H:Hp) (Q:VK),Inv X a b H s->t b H Q->z5V (z5X X.prog X.w) X.A (eval e X.env) (EP X a b Q) X.xe s
noncomputable def PT (X:Cx)(e:Expr)(t:TT):Prop:=
 ∀(a:List (Addr×Obj)) (s:z5W) (b:St) (H:Hp) (Q:Bool->Hp->Prop),Inv X a b H s->t b H Q->z5V (z5X X.prog X.w) X.A (isTrue e X.env (eval e X.env)) (TP X a b Q) X.xe s
noncomputable def PW (X:Cx)(e:Expr)(t:TT):Prop:=
 ∀(b:Sem Value) (a:List (Addr×Obj)) (s:z5W) (c:St) (H:Hp) (Q:Bool->Hp->Prop),Inv X a c H s->t c H Q->z5V (z5X X.prog X.w) X.A (isTrue e X.env b) (TP X a c Q) X.xe s
theorem PW.pt{X:Cx}(h:PW X e t):PT X e t:=h _
noncomputable def PA (X:Cx)(es:List Expr)(t:TA):Prop:=
 ∀(c:Pos) (a:List (Addr×Obj)) (s:z5W) (b:St) (H:Hp) (Q:List V->Hp->Prop),Inv X a b H s->t b H Q->z5V (z5X X.prog X.w) X.A (spliced (z8e c (z6H es X.env))) (AP X a b Q) X.xe s
noncomputable def PS (X:Cx)(st:Stmt)(t:TS):Prop:=
 ∀(a:List (Addr×Obj)) (s:z5W) (b:St) (H:Hp) (D:Ends),Inv X a b H s->t D b H->z5V (z5X X.prog X.w) X.A (exec st X.env) (SP X a D) X.xe s
noncomputable def PSs (X:Cx)(st:List Stmt)(t:TS):Prop:=
 ∀(a:List (Addr×Obj)) (s:z5W) (b:St) (H:Hp) (D:Ends),Inv X a b H s->t D b H->z5V (z5X X.prog X.w) X.A (execs st X.env) (SP X a D) X.xe s
theorem thn{α:Type}{t:Sem α}{Q Q':α->z5W->Prop}(h:z5V M A t Q E s)(b:∀a s,Q a s->Q' a s):z5V M A t Q' E s:=z6r h b λ_ _ x=>x
section
variable {X:Cx}
noncomputable def z4A (i:Nat):TE:=λa H Q=>∃v,a[i]?=some (some v)/\Q v H
noncomputable def tC (v:V):TE:=λ_ H Q=>Q v H
theorem kF {pos:Pos} (hN:X.N[i]?=some x) (k:Vis X.env.scope x) (hd:(x==("__debug__":Str))=false:=by decide) (f:(x==("__classdict__":Str))=false:=by decide):PE X (.Name x pos) (z4A i):=by
 intro d s j H Q I h;obtain⟨v,e,h⟩:=h;obtain⟨m,n,p⟩:=I.loc;obtain⟨u,r,l⟩:=p i x v hN e k;have fin:EP X d j Q u s:=⟨v,H,I,r,h⟩;rcases l with⟨b,o⟩|⟨b,c,g,a⟩
 .exact zc4 (wpAny_loadName_local I.ok.kind b n o fin) hd
 .rcases b with b|b
  .exact zc4 (wpAny_loadName_cell I.ok.kind b g a fin) hd
  .exact zc4 (wpAny_loadName_free I.ok.kind b g a fin f) hd
theorem z25{i j pos}:PE X (.Constant (.int i) j pos) (tC (.int i)):=λ_ _ _ H _ I h=>wpAny_Constant_int ⟨.int i,H,I.tok _,⟨_,rfl⟩,h⟩
theorem z49{b j pos}:PE X (.Constant (.bool b) j pos) (tC (.bl b)):=λ_ _ _ H _ I h=>Constant_bool ⟨.bl b,H,I,rfl,h⟩
theorem z16{j pos}:PE X (.Constant .none j pos) (tC .n):=λ_ _ _ H _ I h=>Constant_none ⟨.n,H,I,rfl,h⟩
theorem Zk{x j pos}:PE X (.Constant (.str x) j pos) (tC (.str x)):=λ_ _ _ H _ I h=>Calls.Constant_str ⟨.str x,H,I.tok _,⟨_,rfl⟩,h⟩
noncomputable def Gl (X:Cx)(x:Str):Prop:=X.env.kindOf x=some .globalImplicit
theorem qL{a:St}{H:Hp}{x:Str}{pos:Pos}(I:Inv X j a H s)(hg:Gl X x)(hm:X.mg x=some u)(h:Q u s)
  (hd:(x==("__debug__":Str))=false:=by decide):z5V (z5X X.prog X.w) X.A (eval (.Name x pos) X.env) Q E s:=
 z9k I.ok.kind hg (Calls.loadGlobal_global (I.ok.glob▸I.mod.glob.keeps I.bk) hm h) hd
theorem wG{E:Value->z5W->Prop}{a:St}{H:Hp}{x:Str}{pos:Pos}(I:Inv X j a H s)(hg:Gl X x)(hm:X.mg x=none)(b:z6W x=some u)(h:Q u s)
  (c:x≠"__name__":=by decide) (hd:(x==("__debug__":Str))=false:=by decide):z5V (z5X X.prog X.w) X.A (eval (.Name x pos) X.env) Q E s:=by
 obtain⟨f,e,d⟩:=I.mod.blt;exact z9k I.ok.kind hg (Calls.loadGlobal_builtin (I.ok.glob▸I.mod.glob.keeps I.bk) hm (I.ok.blt▸e.keeps I.bk) ((d x c).trans b) h) hd
theorem Vi (hg:Gl X x) (hm:X.mg x=some u) (r:RelV v u) (hd:(x==("__debug__":Str))=false:=by decide):PE X (.Name x pos) (tC v):=
 λ_ _ _ H _ I h=>qL I hg hm ⟨v,H,I,r,h⟩ hd
theorem YK {pos:Pos} (hg:Gl X x) (hm:X.mg x=none) (a:z6W x=some u) (r:RelV v u) (b:x≠"__name__":=by decide) (hd:(x==("__debug__":Str))=false:=by decide):PE X (.Name x pos) (tC v):=
 λ_ _ _ H _ I h=>wG I hg hm a ⟨v,H,I,r,h⟩ b hd
variable {a b:Expr}{pos:Pos}
variable {tA tB':TT}{rest:List Expr}
noncomputable def wW (t u:TT):TT:=λa H Q=>t a H λc b=>if c=true then u a b Q else Q false b
noncomputable def tOr (t u:TT):TT:=λa H Q=>t a H λc b=>if c=true then Q true b else u a b Q
noncomputable def zO (t:TT):TT:=λa H Q=>t a H λc b=>Q (!c) b
theorem UP(f:PT X a tA):PW X (.BoolOp .And [a] pos) tA:=by
 intro g b s d H Q I h;refine isTrue_and (thn (f b s d H Q I h) λc i e=>?_);cases c with
 |true=>exact isTrue_and_nil e
 |false=>exact e
theorem z0F(f:PT X a tA):PW X (.BoolOp .Or [a] pos) tA:=by
 intro g b s d H Q I h;refine isTrue_or (thn (f b s d H Q I h) λc i e=>?_);cases c with
 |false=>exact isTrue_or_nil e
 |true=>exact e
theorem z1Z(m:PT X a tA)(l:PW X (.BoolOp .And (b::rest) pos) tB'):PW X (.BoolOp .And (a::b::rest) pos) (wW tA tB'):=by
 intro j d s e H Q I h;refine isTrue_and (thn (m d s e H _ I h) λc k ⟨i,g,f⟩=>?_);cases c with
 |true=>exact l j d k e i Q g f
 |false=>exact⟨i,g,f⟩
theorem z3L(m:PT X a tA)(l:PW X (.BoolOp .Or (b::rest) pos) tB'):PW X (.BoolOp .Or (a::b::rest) pos) (tOr tA tB'):=by
 intro j d s e H Q I h;refine isTrue_or (thn (m d s e H _ I h) λc k ⟨i,g,f⟩=>?_);cases c with
 |true=>exact⟨i,g,f⟩
 |false=>exact l j d k e i Q g f
theorem z1p(e:PT X a tA):PT X (.UnaryOp .Not a pos) (zO tA):=by
 intro b s d H Q I h;exact isTrue_not (thn (e b s d H (λc f=>Q (!c) f) I h) λc j ⟨g,i,q⟩=>⟨g,i,q⟩)
theorem z1P{op}(h:PE X a t):PE X (.BoolOp op [a] pos) t:=λb s c H Q I hw=>BoolOp_one (h b s c H Q I hw)
end
noncomputable def SqL (K:z5M)(H:Hp)(a:Addr)(xs:List V):Prop:=
 Rd H a (.l xs)\/
  ∃(o:Obj) (b:Array Value) (n:Nat),K.lookup a=some o/\o.cls=.type "list"/\o.dict=none/\o.data=.seq b n/\b.size<=sizeLine/\Vals xs b.toList
noncomputable def SqT (K:z5M)(H:Hp)(a:Addr)(xs:List V):Prop:=
 Rd H a (.t xs)\/
  ∃(o:Obj) (b:Array Value) (n:Nat),K.lookup a=some o/\o.cls=.type "tuple"/\o.data=.seq b n/\b.size<=sizeLine/\Vals xs b.toList
noncomputable def z4M:Value->Option V
 |.none=>some .n
 |.bool b=>some (.bl b)
 |.int i _=>some (.int i)
 |.str x _=>some (.str x)
 |.bytes b _=>some (.byt b)
 |.float b _=>some (.flt b)
 |.ref a=>some (.ref a)
 |.type n=>some (.ty n)
 |_=>none
theorem RelV.abs(r:RelV x u):z4M u=some x:=by
 cases x with
 |n=>subst r;rfl
 |bl _=>subst r;rfl
 |int _=>obtain⟨t,rfl⟩:=r;rfl
 |str _=>obtain⟨t,rfl⟩:=r;rfl
 |byt _=>obtain⟨t,rfl⟩:=r;rfl
 |flt _=>obtain⟨t,rfl⟩:=r;rfl
 |ref _=>subst r;rfl
 |ty _=>subst r;rfl
theorem RelV.inj(r:RelV x u)(q:RelV y u):x=y:=z5J (r.abs.symm.trans q.abs)
theorem Vals.inj:∀{xs a:List V} {b:List Value},Vals xs b->Vals a b->xs=a
 |_,_,_,.nil,.nil=>rfl
 |_,_,_,.cons r t,.cons c t'=>by rw[r.inj c,Vals.inj t t']
section
variable {X:Cx}{pins:List (Addr×Obj)}{σ:St}{H:Hp}{s:Shared}{a:Addr}{xs ys:List V}
theorem Inv.list(I:Inv X pins σ H s)(h:SqL X.K H a xs):∃j:List Value,Vals xs j/\PlainL s.heap a j.toArray/\xs.length<=sizeLine:=by
 rcases h with h|⟨o,j,n,hk,hc,hd,hs,b,r⟩
 .obtain⟨z,j,n,r,e⟩:=h.ok I.hok;exact⟨j,r,⟨_,n,e,rfl,rfl,rfl⟩,z⟩
 .refine⟨j.toList,r,⟨o,n,I.kIn a o hk,hc,hd,by simpa using hs⟩,?_⟩;have e:=r.length;simp only[z7k] at e;lia
theorem Inv.tuple(I:Inv X pins σ H s)(h:SqT X.K H a xs):∃j:List Value,Vals xs j/\IsTup s.heap a j.toArray/\xs.length<=sizeLine:=by
 rcases h with h|⟨o,j,n,hk,hc,hs,b,r⟩
 .obtain⟨z,j,r,p⟩:=h.ok I.hok;exact⟨j,r,p,z⟩
 .refine⟨j.toList,r,⟨o,I.kIn a o hk,hc,n,by simpa using hs⟩,?_⟩;have e:=r.length;simp only[z7k] at e;lia
theorem Inv.list_inj(I:Inv X pins σ H s)(h:SqL X.K H a xs)(h':SqL X.K H a ys):xs=ys:=by
 obtain⟨c,r,⟨o,n,e,_,_,d⟩,_⟩:=I.list h;obtain⟨its',f,⟨i,j,b,_,_,d'⟩,_⟩:=I.list h';rw[e] at b;(replace b:=zm b;subst b);rw[d] at d';injection d' with g _;have:c=its':=by simpa using congrArg Array.toList g
 subst this;exact r.inj f
end
noncomputable abbrev Cx.wish(X:Cx)(E:Value->z5W->Prop):Cx:={X with xe:=E}
theorem Cx.Ok.wish{X:Cx}(ok:X.Ok)(E:Value->z5W->Prop):(X.wish E).Ok:=
 ⟨ok.mod,ok.kind,ok.glob,ok.blt,ok.above,ok.inj,ok.has,ok.cab,ok.hd,ok.frames,ok.stk,ok.exf,ok.bs,ok.bsz,ok.noex,ok.exfs,ok.funs,ok.frf⟩
theorem Cx.Ok.unwish{X:Cx}(ok:(X.wish E).Ok):X.Ok:=
 ⟨ok.mod,ok.kind,ok.glob,ok.blt,ok.above,ok.inj,ok.has,ok.cab,ok.hd,ok.frames,ok.stk,ok.exf,ok.bs,ok.bsz,ok.noex,ok.exfs,ok.funs,ok.frf⟩
section
variable {X:Cx}{pins:List (Addr×Obj)}{σ:St}{H:Hp}{s:Shared}{E:Value->Shared->Prop}
theorem Inv.wish(I:Inv X pins σ H s)(E:Value->z5W->Prop):Inv (X.wish E) pins σ H s:=⟨I.ok.wish E,I.os,I.bare,I.base,I.loc,I.cell,I.free,I.freeC,I.pin,I.hok,I.len⟩
theorem Inv.unwish(I:Inv (X.wish E) pins σ H s):Inv X pins σ H s:=⟨I.ok.unwish,I.os,I.bare,I.base,I.loc,I.cell,I.free,I.freeC,I.pin,I.hok,I.len⟩
theorem SP.unwish(h:SP (X.wish E) pins D f j):SP X pins D f j:=by
 cases f with
 |next=>obtain⟨a,b,I,q⟩:=h;exact⟨a,b,I.unwish,q⟩
 |brk=>obtain⟨a,b,I,q⟩:=h;exact⟨a,b,I.unwish,q⟩
 |cont=>obtain⟨a,b,I,q⟩:=h;exact⟨a,b,I.unwish,q⟩
 |ret u=>obtain⟨v,a,b,I,r,q⟩:=h;exact⟨v,a,b,I.unwish,r,q⟩
end
section
variable {X:Cx}{st:Stmt}{rest:List Stmt}{t u:TS}{e:Expr}{te:TE}{pos:Pos}
noncomputable def z4c:TS:=λD a H=>D.nx a H
noncomputable def z4F (t u:TS):TS:=λD a H=>t {D with nx:=u D} a H
theorem VB:PSs X [] z4c:=λ_ _ a H _ I h=>z94 ⟨a,H,I,h⟩
theorem Qw(h1:PS X st t)(h2:PSs X rest u):PSs X (st::rest) (z4F t u):=by
 intro a s c H D I h;refine z9J (thn (h1 a s c H {D with nx:=u D} I h) λf d q=>?_);cases f with
 |next=>
  obtain⟨b,g,e,q⟩:=q;exact h2 a d b g D e q
 |ret v=>exact q
 |brk=>exact q
 |cont=>exact q
theorem UL(h1:PS X st t):PSs X [st] t:=by
 intro a s b H D I h;refine z9J (thn (h1 a s b H D I h) λf c q=>?_);cases f with
 |next=>exact z94 q
 |ret v=>exact q
 |brk=>exact q
 |cont=>exact q
theorem Inv.quiet{a:St}(I:Inv X j a H s):interactive X.env=false:=by simp[interactive,I.ok.kind]
noncomputable def z36(te:TE):TS:=λD a H=>te a H λ_ b=>D.nx a b
theorem VW(he:PE X e te)(hs:z8j e none pos.line X.env=pure false:=by rfl):PS X (.Expr e pos) (z36 te):=by
 intro a s b H D I h;exact wpAny_Expr_any (thn (he a s b H _ I h) λv g ⟨x,f,d,i,c⟩=>⟨b,f,d,c⟩) I.quiet hs
noncomputable def z56 (te:TE):TS:=λD a H=>te a H D.rt
theorem z0E(he:PE X e te):PS X (.Return (some e) pos) (z56 te):=by
 intro a s b H D I h;exact wpAny_Return_some (thn (he a s b H _ I h) λv i ⟨x,g,f,c,d⟩=>⟨x,b,g,f,c,d⟩)
noncomputable def z2U:TS:=λD _ H=>D.rt .n H
theorem Yp:PS X (.Return none pos) z2U:=λ_ _ a H _ I h=>wpAny_Return_none ⟨.n,a,H,I,rfl,h⟩
noncomputable def z4K (c:TT)(t u:TS):TS:=λD a H=>c a H λb d=>if b=true then t D a d else u D a d
theorem z35{a:List Stmt}(hc:PT X c w)(m:PSs X a t)(l:PSs X b u):PS X (.If c a b pos) (z4K w t u):=by
 intro e s f H D I h;refine wpAny_If (thn (hc e s f H _ I h) λd g ⟨k,j,i⟩=>?_);cases d with
 |true=>exact m e g f k D j i
 |false=>exact l e g f k D j i
end
noncomputable abbrev TG:=V->St->Hp->(St->Hp->Prop)->Prop
noncomputable abbrev TGs:=List V->St->Hp->(St->Hp->Prop)->Prop
noncomputable def PG (X:Cx)(a:Expr)(t:TG):Prop:=
 ∀(b:List (Addr×Obj)) (s:z5W) (d:St) (H:Hp) (v:V) (u:Value) (Q:St->Hp->Prop),Inv X b d H s->RelV v u->t v d H Q->
  z5V (z5X X.prog X.w) X.A (zao a X.env u) (λ_ f=>∃c e,Inv X b c e f/\Q c e) X.xe s
noncomputable def PGs (X:Cx)(ts:List Expr)(t:TGs):Prop:=
 ∀(a:List (Addr×Obj)) (s:z5W) (c:St) (H:Hp) (d:List V) (e:List Value) (Q:St->Hp->Prop),Inv X a c H s->Vals d e->t d c H Q->
  z5V (z5X X.prog X.w) X.A (assignInOrder ((z7L ts X.env).map (·.2)) e) (λ_ g=>∃b f,Inv X a b f g/\Q b f) X.xe s
noncomputable abbrev z3S:=V->V->V->Hp->(Hp->Prop)->Prop
noncomputable def z1N (X:Cx)(t:z3S):Prop:=
 ∀(a:List (Addr×Obj)) (s:z5W) (b:St) (H:Hp) (o i v:V) (c d u:Value) (Q:Hp->Prop),Inv X a b H s->RelV o c->RelV i d->RelV v u->t o i v H Q->
  z5V (z5X X.prog X.w) X.A (setItem c d u) (λ_ f=>∃e,Inv X a b e f/\Q e) X.xe s
section
variable {X:Cx}{pos:Pos}
noncomputable def Xd(i:Nat):TG:=λv a H Q=>Q (a.set i (some v)) H
theorem VJ(hN:X.N.Nodup)(hi:X.N[i]?=some x)(b:Loc X.env.scope x)(hf:X.fn x=true\/X.env.scope.names.lookup x=some .local:=by first|exact .inl rfl|exact .inr rfl|assumption):PG X (.Name x pos) (Xd i):=by
 intro a s d H v u Q I r h;exact wpAny_assign_Name (xM I hN hi b r (λe c=>⟨_,H,c,h⟩) hf)
noncomputable def z4k:TGs:=λb a H Q=>b=[]/\Q a H
noncomputable def z0f(t:TG)(u:TGs):TGs:=λc b H Q=>∃v r,c=v::r/\t v b H λa d=>u r a d Q
theorem Ug:PGs X [] z4k:=by
 intro a s b H c d Q I r h;obtain⟨e,h⟩:=h;subst e;cases r;exact assignInOrder_nil ⟨b,H,I,h⟩
theorem Xy{t:TG}(h1:PG X e t)(h2:PGs X es u)
  (hs:(z7L (e::es) X.env).map (·.2)=zao e X.env::(z7L es X.env).map (·.2):=by rfl):PGs X (e::es) (z0f t u):=by
 intro a s c H l n Q I r h;obtain⟨v,m,i,h⟩:=h;subst i;cases r with
 |cons r f=>
  rw[hs];refine assignInOrder_cons (thn (h1 a s c H _ _ _ I r h) λ_ d ⟨b,k,j,g⟩=>?_);exact h2 a d b k _ _ Q j f g
noncomputable def z4Y (K:z5M)(n:Nat)(t:TGs):TG:=λv b H Q=>∃a xs,v=.ref a/\SqT K H a xs/\xs.length=n/\t xs b H Q
theorem z0C{k:Nat}(hc:X.calm=true)(h:PGs X es t)
  (p:(z7L es X.env).length=n:=by rfl) (d:(z7L es X.env).findIdx? (·.1)=none:=by rfl):PG X (.Tuple es k pos) (z4Y X.K n t):=by
 intro c s g H v u Q I r hw;obtain⟨a,xs,w,m,q,hw⟩:=hw;subst w;subst r;obtain⟨i,f,l,y⟩:=I.tuple m;refine assign_Tuple_tuple (I.ok.hd hc) l (by simp[p,<-q,f.length]) d λz j=>?_;have x:=I.kept (t':=s.toks) λb o e=>j b o (z6b (z5U e)) e;exact h c _ g H xs _ Q x (by simpa using f) hw
noncomputable def z5p (b c:TE)(t:z3S):TG:=λv a H Q=>b a H λo f=>c a f λi e=>t o i v e λd=>Q a d
theorem z0w{o:Expr}(ho:PE X o z)(hi:PE X i B)(hs:z1N X t)
  (m:∀v,zao (.Subscript o i pos) X.env v=(do
   let j ←zcZ [v] (eval o X.env)
   let w ←zcZ [v,j] (eval i X.env)
   standAt pos
   zcZ [v,j,w] (setItem j w v)
   release [v,j,w] []):=by intro _;rfl):PG X (.Subscript o i pos) (z5p z B t):=by
 intro a s b H v u Q I r h;rw[m];refine z5D (z6p (thn (ho a s b H _ I h) λj d ⟨x,D,q,f,l⟩=>?_));refine z5D (z6p (thn (hi a d b D _ q l) λw c ⟨y,C,p,e,k⟩=>?_));refine z5D (z6R (z5D (z6p (thn (hs a c b C x y v j w u _ p f e r k) λ_ E ⟨A,n,g⟩=>?_))));exact wpAny_release ⟨b,A,n,g⟩
noncomputable def z2N (b:TE)(g:TG):TS:=λD a H=>b a H λx c=>g x a c D.nx
theorem KQ{e:Expr}(he:PE X e j)(hg:PG X tg g)(hs:zaL [tg] e pos.line X.env=pure false:=by rfl)(hw:zaM [tg] e X.env=pure none:=by rfl)
  (h1:(z7L [tg] X.env).map (·.2)=[zao tg X.env]:=by rfl):PS X (.Assign [tg] e pos) (z2N j g):=by
 intro a s b H D I h;refine wpAny_Assign_stores (thn (he a s b H _ I h) λv c ⟨x,k,i,d,f⟩=>?_) hs hw;rw[h1];exact thn (hg a c b k x v _ i d f) λ_ l q=>q
theorem z0o{b:TE}(hN:X.N.Nodup)(hi:X.N[i]?=some x)(g:Loc X.env.scope x)(he:PE X e b)(hs:z8j e (some (.Name x j)) pos.line X.env=pure false:=by rfl)(hf:X.fn x=true\/X.env.scope.names.lookup x=some .local:=by first|exact .inl rfl|exact .inr rfl|assumption) :
  PS X (.Assign [.Name x j] e pos) (z2N b (Xd i)):=by
 intro a s c H D I h;refine wpAny_Assign_Name (thn (he a s c H _ I h) λv o ⟨y,m,l,d,f⟩=>?_) hs;exact xM l hN hi g d (λn k=>⟨_,m,k,f⟩) hf
noncomputable def z2y(c:TT)(tb:TS):TS:=λD a H=>∃W:Nat->St->Hp->Prop,(∃m,W m a H)/\∀m a H,W m a H->
 c a H λb f=>if b=true then ∃N:St->Hp->Prop,(∀d g,N d g->∃e,e<m/\W e d g)/\tb {D with nx:=N,ct:=N,bk:=D.nx} a f else D.nx a f
theorem Kh{body:List Stmt}(q:zaF (z5X X.prog X.w) X.A X.env X.xe)(hc:PT X c E)(L:PSs X body tb):PS X (.While c body [] pos) (z2y E tb):=by
 intro d s z H D I h;obtain⟨W,⟨K,C⟩,turn⟩:=h;refine wpAny_While (codeAny_whileLoop (λn J=>∃g y,Inv X d g y J/\W n g y) ?_ K ⟨z,H,I,C⟩);rintro n G ⟨e,x,M,B⟩;refine z7t q (thn (hc d G e x _ M (turn n e x B)) λb F ⟨u,t,k⟩=>?_);cases b with
 |true=>
  obtain⟨N,r,k⟩:=k;rw[if_pos rfl];refine z7t q (thn (L d F e u _ t k) λf O j=>?_);cases f with
  |next=>
   obtain⟨a,i,p,n3⟩:=j;obtain⟨m,o,l⟩:=r a i n3;exact⟨m,o,a,i,p,l⟩
  |cont=>
   obtain⟨a,i,p,n3⟩:=j;obtain⟨m,o,l⟩:=r a i n3;exact⟨m,o,a,i,p,l⟩
  |brk=>exact j
  |ret v=>exact j
 |false=>
  rw[if_neg z6e];exact z94 ⟨e,u,t,k⟩
end
structure It where
 go:Nat->Hp->Prop
 yld:Nat->Hp->V->Hp->Prop
 stop:Nat->Hp->Prop
noncomputable def ZL (X:Cx)(a:List (Addr×Obj))(H:Hp)(b:Addr):Prop:=
 H b=none/\b≠X.env.locals/\b∉X.fs/\(b∈X.ex\/X.s₀.heap.objs.size<=b)/\(∀x c,X.env.cells.lookup x=some c->c≠b)/\∀p∈X.pn++a,p.1≠b
theorem Inv.fpOk{X:Cx}{d:St}{H:Hp}{b:Addr}(I:Inv X j d H s)(a:s.heap.objs.size<=b)(g:u b=none):ZL X j u b:=by
 refine⟨g,z7l (z5S I.lt a),I.nofs a,.inr (z66 I.sz a),λx c e z=>?_,λp f z=>?_⟩
 .obtain⟨v,q⟩:=I.cell x c e;exact absurd (z5S q.lt (z▸a)) (z79 _)
 .exact absurd (z5S (z5U (I.pin p f).1) (z▸a)) (z79 _)
structure Turn(P:Program)(w:World)(K:PySem.W.Frag)(tg:Expr)(J:It)(fp:List Addr)(it:Addr)(tn:Nat->Heap->Prop):Prop where
 mem:it∈fp
 obj:∀i h,tn i h->∀b∈fp,∃o,h.get? b=some o/\∀v,o.data≠.cell v
 keep:∀i h h',tn i h->(∀b∈fp,∀o,h.get? b=some o->h'.get? b=some o)->tn i h'
 item:∀(X:Cx),X.prog=P->X.w=w->X.K=K->X.calm=true->∀(i:Nat) (pins:List (Addr×Obj)) (s:z5W) (σ:St) (H:Hp) (E:Value->z5W->Prop),Inv X pins σ H s->(∀b∈fp,ZL X pins H b)->tn i s.heap->J.go i H->
  z5V (z5X P w) X.A (pyNext (.ref it)) (λr s1=>∃u,r=some u/\
   z5V (z5X P w) X.A (z8z tg (.ref it) u) (λ_ s2=>∃x H',Inv X pins σ H' s2/\RelV x u/\J.yld i H x H'/\tn (i+1) s2.heap/\∀b∈fp,H' b=none) E s1) E s
 done:∀(X:Cx),X.prog=P->X.w=w->X.K=K->X.calm=true->∀(i:Nat) (pins:List (Addr×Obj)) (s:z5W) (σ:St) (H:Hp) (E:Value->z5W->Prop),Inv X pins σ H s->(∀b∈fp,ZL X pins H b)->tn i s.heap->J.stop i H->
  z5V (z5X P w) X.A (pyNext (.ref it)) (λr s1=>r=none/\Inv X pins σ H s1) E s
 self:∀(A:z84) (i:Nat) (s:z5W) (Q:Value->z5W->Prop) (E:Value->z5W->Prop),tn i s.heap->Q (.ref it) s->z5V (z5X P w) A (zc5 (.ref it)) Q E s
noncomputable abbrev TI:=St->Hp->(It->Hp->Prop)->Prop
noncomputable def PIE (X:Cx)(a:List (Addr×Obj))(h:St)(tg:Expr)(R:It->Hp->Prop)(c:Value)(f:z5W):Prop:=
 ∃(it:Addr) (g:List Addr) (e:Nat->Heap->Prop) (J:It) (d:Hp),c=.ref it/\Inv X a h d f/\Turn X.prog X.w X.K tg J g it e/\e 0 f.heap/\(∀b∈g,ZL X a d b)/\R J d
noncomputable def PI (X:Cx)(tg iter:Expr)(c:TI):Prop:=
 ∀(a:List (Addr×Obj)) (s:z5W) (b:St) (H:Hp) (R:It->Hp->Prop),Inv X a b H s->c b H R->
  z5V (z5X X.prog X.w) X.A (eval iter X.env) (λv d=>z5V (z5X X.prog X.w) X.A (zc5 v) (PIE X a b tg R) X.xe d) X.xe s
theorem y7(ho:s.heap.get? it=some o)(hc:o.cls=.type n)(hd:o.data=.fields vs)
    (b:["enumerate", "zip", "dict_itemiterator", "dict_reverseitemiterator", "odict_iterator", "itertools.zip_longest", "itertools.pairwise"].contains n=false) (a:Q () s):z5V M A (z8z tg (.ref it) u) Q E s:=by
  unfold z8z
  cases tg <;> first
    |exact z5Q a
    | (cases u <;> first
        |exact z5Q a
        | (refine z5D (wpAny_load ho ?_)
           rw[hc, hd]
           show z5V M A (if (["enumerate", "zip", "dict_itemiterator", "dict_reverseitemiterator", "odict_iterator", "itertools.zip_longest", "itertools.pairwise"].contains n&&vs[0]? == some (z6X _))=true then _ else _) Q E s
           rw[if_neg (by intro h;rw[b, Bool.false_and] at h;injection h)]
           exact z5Q a))
noncomputable def Itl (K:z5M)(a:Addr):It:=
 ⟨λi H=>∃xs x,SqL K H a xs/\xs[i]?=some x,λi H x b=>b=H/\∀xs,SqL K H a xs->xs[i]?=some x,λi H=>∃xs,SqL K H a xs/\xs.length<=i⟩
noncomputable def Itr (lo:Int)(n:Nat):It:=⟨λi _=>i<n,λi H x a=>a=H/\x=.int (lo+i),λi _=>n<=i⟩
theorem uO{P:z6t}{K:z5M}(a it:Addr):Turn P w K tg (Itl K a) [it] it (λi h=>h.IsListIter it a i) where
 mem:=by simp
 obj:=λi h st b f=>by
  have e:b=it:=by simpa using f
  subst e;obtain⟨o,e,c,d⟩:=st;exact⟨o,e,λv z=>by rw[d] at z;injection z⟩
 keep:=λi h A st k=>st.at λo e=>k it sC o e
 item:=by
  intro X t hw y J i j s L H E I m st hg;subst t hw y;obtain⟨xs,x,l,r⟩:=hg;obtain⟨q,n,p,O⟩:=I.list l;obtain⟨u,R,N⟩:=n.get r;obtain⟨G,F,S,D,C,B⟩:=m it sC;refine wpAny_pyNext_list_item st p.isList (x:=u) (by simpa using R) λA g M=>?_;have T:=I.turned (t':=s.toks) (λb o f e=>(M.2 b f).trans e) G F D C B;obtain⟨o,e,c,d⟩:=id g;exact⟨u,rfl,y7 (s:={s with heap:=A}) e c d dC ⟨x,H,T,N,⟨rfl,λU Q=>I.list_inj Q l▸r⟩,g,λb f=>(m b f).1⟩⟩
 done:=by
  intro X t hw y J i j s L H E I m st hg;subst t hw y;obtain⟨xs,l,r⟩:=hg;obtain⟨q,n,p,O⟩:=I.list l;obtain⟨G,F,S,D,C,B⟩:=m it sC;have V:=n.length;exact wpAny_pyNext_list_end (I.ok.hd J) st p.isList (by simp;lia) λA eb=>⟨rfl,I.turned (t':=s.toks) (λb o f e=>eb b o f e) G F D C B⟩
 self:=λ_ _ _ _ _ st h=>wpAny_pyIter_listiter st h
section
variable {X:Cx}{tg:Expr}
noncomputable def QD(c:TA):TI:=λa H R=>c a H λb d=>∃i j:Int,b=[.int i,.int j]/\(-(2 ^ 62)<=i/\i<2 ^ 62 /\ -(2 ^ 62)<=j/\j<2 ^ 62)/\R (Itr i (j-i).toNat) d
noncomputable def z4U (f:TI)(g:TG)(tb:TS):TS:=λD a H=>f a H λJ j=>∃W:Nat->Nat->St->Hp->Prop,(∃m,W 0 m a j)/\∀i m a H,W i m a H->
 (J.stop i H/\D.nx a H)\/(J.go i H/\∃N:St->Hp->Prop,(∀b c,N b c->∃e,e<m/\W (i+1) e b c)/\∀x c,J.yld i H x c->g x a c λd h=>tb {D with nx:=N,ct:=N,bk:=D.nx} d h)
noncomputable def xZ(a:List Addr)(h:Heap):List (Addr×Obj):=a.filterMap λb=>(h.get? b).map λo=>(b,o)
theorem vw(a:b∈j)(e:h.get? b=some o):(b,o)∈xZ j h:=z7_.mpr ⟨b,a,by rw[e];rfl⟩
theorem JE(a:p∈xZ j h):p.1∈j/\h.get? p.1=some p.2:=by
 obtain⟨b,c,e⟩:=z7_.mp a;cases q:h.get? b with
 |none=>rw[q] at e;exact z7 e
 |some o=>
  rw[q] at e;have d:=z5J e;subst d;exact⟨c,q⟩
theorem Inv.pinned{c:St}(I:Inv X j c H s)(hf:∀b∈u,ZL X j H b)(ho:∀b∈u,∃o,s.heap.get? b=some o/\∀v,o.data≠.cell v):Inv X (j++xZ u s.heap) c H s:=
 I.pins_of λp g=>(z5L.mp g).elim (λz=>I.pin p (z5R _ z)) λz=>by
  obtain⟨f,e⟩:=JE z;obtain⟨f0,i,h,_⟩:=hf p.1 f;obtain⟨o,a,d⟩:=ho p.1 f;rw[e] at a;(replace a:=zm a;subst a);exact⟨e,f0,i,h,d⟩
theorem Inv.unpinned{a:St}(I:Inv X (j++pl) a H s):Inv X j a H s:=I.pins_of λp b=>I.pin p (z5R _ (z65 _ b))
theorem z1L{body:List Stmt}{tb:TS}(G:zaF (z5X X.prog X.w) X.A X.env X.xe)(hc:X.calm=true)(hi:PI X tg iter wi)(hg:PG X tg g)(p:PSs X body tb)
  (hs:∀x,z6Y iter X.env x=pure x:=by intro _;rfl):PS X (.For tg iter body [] pos) (z4U wi g tb):=by
 intro c s V H D I h;refine wpAny_For (thn (hi c s V H _ I h) λv s1 h1=>thn h1 λitv s2 h2=>?_) hs;obtain⟨it,L,Y,J,H2,e,I2,T,P,f2,W,⟨m0,w0⟩,turn⟩:=h2;subst e;have l:∀{y:Hp},(∀b∈L,y b=none)->∀b∈L,ZL X c y b:=λhn b p=>⟨hn b p,(f2 b p).2⟩;refine codeAny_forLoop_any (λn s'=>∃i k y,Inv X c k y s'/\Y i s'.heap/\(∀b∈L,y b=none)/\W i n k y) ?_ m0 ⟨0,V,H2,I2,P,λb p=>(f2 b p).1,w0⟩;rintro n s3 ⟨i,j,M,I3,E,K,w3⟩;rcases turn i n j M w3 with⟨C,qn⟩|⟨go,N,hN,step⟩
 .refine z7t G (thn (T.done X rfl rfl rfl hc i c s3 j M X.xe I3 (l K) E C) λr s4 ⟨R,I4⟩=>?_);subst R;exact z94 ⟨j,M,I4,qn⟩
 .refine z7t G (thn (T.item X rfl rfl rfl hc i c s3 j M X.xe I3 (l K) E go) λr s4 ⟨u,R,h4⟩=>?_);subst R;refine z7t G (thn h4 λ_ Z ⟨x,H5,I5,r5,y5,B,S⟩=>?_);have U:=I5.pinned (l S) (T.obj _ _ B);refine z7t G (thn (hg _ Z j H5 x u _ U r5 (step x H5 y5)) λ_ s6 ⟨O,H6,I6,q6⟩=>?_);refine z7t G (thn (p _ s6 O H6 _ I6 q6) λf Q z=>?_);have again:∀{a:St} {t:Hp},Inv X (c++xZ L Z.heap) a t Q->N a t->∃m,m<n/\∃i k y,Inv X c k y Q/\Y i Q.heap/\(∀b∈L,y b=none)/\W i m k y:=λ{a t} q F=>by
   obtain⟨m',hm,w7⟩:=hN a t F;refine⟨m',hm,i+1,a,t,q.unpinned,T.keep _ _ _ B λb p o e=>(q.pin (b,o) (z5R _ (z5R _ (vw p e)))).1,λb p=>?_,w7⟩;obtain⟨o,e,d⟩:=T.obj _ _ B b p;exact (q.pin (b,o) (z5R _ (z5R _ (vw p e)))).2.1
  cases f with
  |next=>obtain⟨a,t,q,F⟩:=z;exact again q F
  |cont=>obtain⟨a,t,q,F⟩:=z;exact again q F
  |brk=>obtain⟨a,t,q,z⟩:=z;exact⟨a,t,q.unpinned,z⟩
  |ret v=>obtain⟨x7,a,t,q,r7,z⟩:=z;exact⟨x7,a,t,q.unpinned,r7,z⟩
end
noncomputable abbrev R2:=V->V->Hp->VK->Prop
noncomputable def OpR (X:Cx)(f:Value->Value->Sem Value)(r:R2):Prop:=
 ∀(a:List (Addr×Obj)) (s:z5W) (b:St) (H:Hp) (x y:V) (v u:Value) (Q:VK),Inv X a b H s->RelV x v->RelV y u->r x y H Q->
  z5V (z5X X.prog X.w) X.A (f v u) (EP X a b Q) X.xe s
noncomputable def UnR (X:Cx)(f:Value->Sem Value)(r:V->Hp->VK->Prop):Prop:=
 ∀(a:List (Addr×Obj)) (s:z5W) (b:St) (H:Hp) (x:V) (v:Value) (Q:VK),Inv X a b H s->RelV x v->r x H Q->
  z5V (z5X X.prog X.w) X.A (f v) (EP X a b Q) X.xe s
noncomputable def Ye(X:Cx)(f:Value)(r:List V->Hp->VK->Prop):Prop:=
 ∀(a:List (Addr×Obj)) (s:z5W) (b:St) (H:Hp) (xs:List V) (c:List Value) (Q:VK),Inv X a b H s->Vals xs c->r xs H Q->
  z5V (z5X X.prog X.w) X.A (call f c) (EP X a b Q) X.xe s
noncomputable def rI (C:Int->Int->Prop)(g:Int->Int->V):R2:=λx y H Q=>∃i j,x=.int i/\y=.int j/\C i j/\Q (g i j) H
noncomputable def rI0 (g:Int->Int->V):R2:=λx y H Q=>∃i j,x=.int i/\y=.int j/\Q (g i j) H
noncomputable def rU (g:Int->V):V->Hp->VK->Prop:=λx H Q=>∃i,x=.int i/\Q (g i) H
section
variable {X:Cx}
theorem opI{g:Int->Int->Int}
  (rule:∀(i j:Int) (t u:Tok) (s:z5W) (Q:Value->z5W->Prop) (E:Value->z5W->Prop),C i j->Q (.int (g i j) s.toks) {s with toks:=s.toks+1}->z5V (z5X X.prog X.w) X.A (f (.int i t) (.int j u)) Q E s) :
  OpR X f (rI C λi j=>.int (g i j)):=by
 intro a s k H x y v u Q I d c h;obtain⟨i,j,rfl,rfl,e,q⟩:=h;obtain⟨t,rfl⟩:=d;obtain⟨b,rfl⟩:=c;exact rule i j t b s _ _ e ⟨.int (g i j),H,I.tok _,⟨_,rfl⟩,q⟩
theorem z2I{g:Int->Int->Int}
  (rule:∀(i j:Int) (t u:Tok) (s:z5W) (Q:Value->z5W->Prop) (E:Value->z5W->Prop),Q (.int (g i j) s.toks) {s with toks:=s.toks+1}->z5V (z5X X.prog X.w) X.A (f (.int i t) (.int j u)) Q E s) :
  OpR X f (rI0 λi j=>.int (g i j)):=by
 intro a s e H x y v u Q I d c h;obtain⟨i,j,rfl,rfl,q⟩:=h;obtain⟨t,rfl⟩:=d;obtain⟨b,rfl⟩:=c;exact rule i j t b s _ _ ⟨.int (g i j),H,I.tok _,⟨_,rfl⟩,q⟩
theorem UN{g:Int->Int->Bool}
  (rule:∀(i j:Int) (t u:Tok) (s:z5W) (Q:Value->z5W->Prop) (E:Value->z5W->Prop),Q (.bool (g i j)) s->z5V (z5X X.prog X.w) X.A (f (.int i t) (.int j u)) Q E s) :
  OpR X f (rI0 λi j=>.bl (g i j)):=by
 intro a s e H x y v u Q I d c h;obtain⟨i,j,rfl,rfl,q⟩:=h;obtain⟨t,rfl⟩:=d;obtain⟨b,rfl⟩:=c;exact rule i j t b s _ _ ⟨.bl (g i j),H,I,rfl,q⟩
noncomputable def z5b(i j:Int):Prop:=0<=j/\j<=1000000/\i.natAbs<2 ^ 64
noncomputable def CMul(i j:Int):Prop:=(-(2 ^ 64)<i/\i<2 ^ 64)\/(-(2 ^ 64)<j/\j<2 ^ 64)
theorem CMul.ok(h:CMul i j):IntMulOk i j:=by
 rcases h with⟨h1,h2⟩|⟨h1,h2⟩
 .exact .of_left (intBits_le_64 h1 h2)
 .exact .of_right (intBits_le_64 h1 h2)
theorem Wi(k:Nat):(0:Int)<=2 ^ k:=by
 rw[two_pow_cast];exact Int.natCast_nonneg _
theorem z0s:OpR X (z8u .Add) (rI0 λi j=>.int (i+j)):=z2I λ_ _ _ _ _ _ _ q=>add_int q
theorem z1s:OpR X (z8u .Sub) (rI0 λi j=>.int (i-j)):=z2I λ_ _ _ _ _ _ _ q=>sub_int q
theorem z2e:OpR X (z8u .Mult) (rI CMul λi j=>.int (i*j)):=opI λ_ _ _ _ _ _ _ a q=>mul_int q a.ok
theorem z0n:OpR X (z8u .Mod) (rI (λ_ j=>0<j) λi j=>.int (i % j)):=opI λi j _ _ _ _ _ a q=>by
 have b:=a;exact mod_int' (by lia) (by rw[Int.fmod_eq_emod_of_nonneg i (by lia)];exact q)
theorem z2k:OpR X (z8u .Pow) (rI z5b λi j=>.int (i ^ j.toNat)):=opI λ_ _ _ _ _ _ _ a q=>pow_int_small a.1 a.2.1 a.2.2 q
theorem z2f:OpR X (z8u .RShift) (rI (λ_ j=>0<=j) λi j=>.int (i / 2 ^ j.toNat)):=opI λi j _ _ _ _ _ a q=>
 rshift_int a ((z9l i (Wi _))▸q)
theorem unI{g:Int->Int}
  (rule:∀(i:Int) (t:Tok) (s:z5W) (Q:Value->z5W->Prop) (E:Value->z5W->Prop),Q (.int (g i) s.toks) {s with toks:=s.toks+1}->z5V (z5X X.prog X.w) X.A (f (.int i t)) Q E s) :
  UnR X f (rU λi=>.int (g i)):=by
 intro a s c H x v Q I b h;obtain⟨i,rfl,q⟩:=h;obtain⟨t,rfl⟩:=b;exact rule i t s _ _ ⟨.int (g i),H,I.tok _,⟨_,rfl⟩,q⟩
theorem z1n:UnR X (unaryOp .USub) (rU λi=>.int (-i)):=unI λ_ _ _ _ _ q=>neg_int q
end
noncomputable def Uu:V->V->Bool
 |.n,.n=>true|.n,.int _=>true|.int _,.n=>true|.n,.bl _=>true|.bl _,.n=>true|.n,.str _=>true|.str _,.n=>true
 |.int _,.int _=>true|.bl _,.bl _=>true|.str _,.str _=>true|.byt _,.byt _=>true
 |.int _,.str _=>true|.str _,.int _=>true|.bl _,.str _=>true|.str _,.bl _=>true
 |_,_=>false
noncomputable def rEq:R2:=λx y H Q=>Uu x y=true/\Q (.bl (decide (x=y))) H
noncomputable def rNe:R2:=λx y H Q=>Uu x y=true/\Q (.bl (!decide (x=y))) H
theorem Vg:decide (V.int i=V.int j)=(i==j):=by
 rw[z8A];simp
theorem Y8:decide (V.bl i=V.bl j)=(i==j):=by
 rw[z8A];simp
theorem Vm:decide (V.str i=V.str j)=(i==j):=by
 rw[z8A];simp
theorem VV:decide (V.byt i=V.byt j)=(i.toList==j.toList):=by
 rw[z8A];cases i;cases j;simp
section
variable {X:Cx}{b:Expr}
theorem zu{a:St}{k k':Bool}(I:Inv X j a H s)(q:Q (.bl k) H)(e:k=k'):EP X j a Q (.bool k') s:=by
 subst e;exact⟨.bl k,H,I,rfl,q⟩
theorem z42:OpR X (z6I .Eq) rEq:=by
 intro d s e H x y v u Q I c a h;obtain⟨hs,q⟩:=h;cases x with
 |n=>
  subst c;cases y with
  |n=>subst a;exact zcm (zu I q sC)
  |bl j=>subst a;exact zcn (zu I q sC)
  |int j=>obtain⟨b,rfl⟩:=a;exact zcA (zu I q sC)
  |str j=>obtain⟨b,rfl⟩:=a;exact zcB (zu I q sC)
  |_=>exact absurd (show false=true from hs) z6e
 |bl i=>
  subst c;cases y with
  |n=>subst a;exact zco (zu I q sC)
  |bl j=>subst a;exact eq_bool (zu I q Y8)
  |str j=>obtain⟨b,rfl⟩:=a;exact zcp (zu I q sC)
  |_=>exact absurd (show false=true from hs) z6e
 |int i=>
  obtain⟨t,rfl⟩:=c;cases y with
  |n=>subst a;exact zcC (zu I q sC)
  |int j=>obtain⟨b,rfl⟩:=a;exact eq_int (zu I q Vg)
  |str j=>obtain⟨b,rfl⟩:=a;exact zcD (zu I q sC)
  |_=>exact absurd (show false=true from hs) z6e
 |str i=>
  obtain⟨t,rfl⟩:=c;cases y with
  |n=>subst a;exact zcE (zu I q sC)
  |bl j=>subst a;exact zcq (zu I q sC)
  |int j=>obtain⟨b,rfl⟩:=a;exact zcF (zu I q sC)
  |str j=>obtain⟨b,rfl⟩:=a;exact eq_str (zu I q Vm)
  |_=>exact absurd (show false=true from hs) z6e
 |byt i=>
  obtain⟨t,rfl⟩:=c;cases y with
  |byt j=>obtain⟨b,rfl⟩:=a;exact PySem.W.eq_bytes (zu I q VV)
  |_=>exact absurd (show false=true from hs) z6e
 |_=>cases y<;>exact absurd (show false=true from hs) z6e
theorem z2Z:OpR X (z6I .NotEq) rNe:=by
 intro d s e H x y v u Q I c a h;obtain⟨hs,q⟩:=h;cases x with
 |n=>
  subst c;cases y with
  |n=>subst a;exact zcr (zu I q sC)
  |bl j=>subst a;exact zcs (zu I q sC)
  |int j=>obtain⟨b,rfl⟩:=a;exact zcG (zu I q sC)
  |str j=>obtain⟨b,rfl⟩:=a;exact zcH (zu I q sC)
  |_=>exact absurd (show false=true from hs) z6e
 |bl i=>
  subst c;cases y with
  |n=>subst a;exact zct (zu I q sC)
  |bl j=>subst a;exact ne_bool (zu I q (congrArg not Y8))
  |str j=>obtain⟨b,rfl⟩:=a;exact zcu (zu I q sC)
  |_=>exact absurd (show false=true from hs) z6e
 |int i=>
  obtain⟨t,rfl⟩:=c;cases y with
  |n=>subst a;exact zcI (zu I q sC)
  |int j=>obtain⟨b,rfl⟩:=a;exact ne_int (zu I q (congrArg not Vg))
  |str j=>obtain⟨b,rfl⟩:=a;exact zcJ (zu I q sC)
  |_=>exact absurd (show false=true from hs) z6e
 |str i=>
  obtain⟨t,rfl⟩:=c;cases y with
  |n=>subst a;exact zcK (zu I q sC)
  |bl j=>subst a;exact zcv (zu I q sC)
  |int j=>obtain⟨b,rfl⟩:=a;exact zcL (zu I q sC)
  |str j=>obtain⟨b,rfl⟩:=a;exact ne_str (zu I q (congrArg not Vm))
  |_=>exact absurd (show false=true from hs) z6e
 |byt i=>
  obtain⟨t,rfl⟩:=c;cases y with
  |byt j=>obtain⟨b,rfl⟩:=a;exact PySem.W.ne_bytes (zu I q (congrArg not VV))
  |_=>exact absurd (show false=true from hs) z6e
 |_=>cases y<;>exact absurd (show false=true from hs) z6e
theorem z3V:OpR X (z6I .Lt) (rI0 λi j=>.bl (decide (i<j))):=UN λ_ _ _ _ _ _ _ q=>zde q
theorem z3K:OpR X (z6I .LtE) (rI0 λi j=>.bl (decide (i<=j))):=UN λ_ _ _ _ _ _ _ q=>le_int q
theorem z43:OpR X (z6I .Gt) (rI0 λi j=>.bl (decide (j<i))):=UN λ_ _ _ _ _ _ _ q=>gt_int q
theorem z46:OpR X (z6I .GtE) (rI0 λi j=>.bl (decide (j<=i))):=UN λ_ _ _ _ _ _ _ q=>ge_int q
theorem JZ:OpR X (z6I .In) (λx y H Q=>∃i j,x=.str i/\y=.str j/\Q (.bl (!(z8E j i 0 j.length 1).isEmpty)) H):=by
 intro a s d H x y v u Q I c b h;obtain⟨i,j,rfl,rfl,q⟩:=h;obtain⟨t,rfl⟩:=c;obtain⟨e,rfl⟩:=b;exact in_str (zu I q rfl)
theorem z0G:OpR X (z6I .Is) (λx y H Q=>y=.n/\Q (.bl (decide (x=.n))) H):=by
 intro b s d H x y v u Q I a c h;obtain⟨rfl,q⟩:=h;subst c;refine is_none_gen (zu I q ?_)
 cases x<;>first
  |(cases a;rfl)
  |(obtain⟨t,rfl⟩:=a;rfl)
theorem YQ:OpR X (z6I .IsNot) (λx y H Q=>y=.n/\Q (.bl (!decide (x=.n))) H):=by
 intro b s d H x y v u Q I a c h;obtain⟨rfl,q⟩:=h;subst c;refine isnot_none_gen (zu I q ?_)
 cases x<;>first
  |(cases a;rfl)
  |(obtain⟨t,rfl⟩:=a;rfl)
theorem K8(b:Expr)(h:op≠.In:=by decide)(h2:op≠.NotIn:=by decide):zaN op b=false:=by
 have c:(op==CmpOp.In)=false:=by cases op<;>first|rfl|exact absurd rfl h
 have a:(op==CmpOp.NotIn)=false:=by cases op<;>first|rfl|exact absurd rfl h2
 cases b<;>simp[zaN,c,a]
theorem xN:(sizeLine:Nat)<2 ^ 63:=by rw[z6y];decide
theorem Ws:OpR X (z8u .Add) (λx y H Q=>∃i j,x=.str i/\y=.str j/\i.length+j.length<=sizeLine/\Q (.str (i++j)) H):=by
 intro a s f H x y v u Q I d c h;obtain⟨i,j,rfl,rfl,e,q⟩:=h;obtain⟨t,rfl⟩:=d;obtain⟨b,rfl⟩:=c;exact add_str (λb tk=>⟨.str (i++j),H,I.tok _,⟨_,rfl⟩,q⟩) e
theorem vals1(r:Vals [x] j):∃u,j=[u]/\RelV x u:=by
 cases r with
 |cons b a=>cases a;exact⟨_,rfl,b⟩
theorem vals2(r:Vals [x,y] s):∃u j,s=[u,j]/\RelV x u/\RelV y j:=by
 cases r with
 |cons d c=>
  cases c with
  |cons b a=>cases a;exact⟨_,_,rfl,d,b⟩
end
structure ObjM(h:Heap)(x dx C:Addr)(mA:Str->Option Value):Prop where
 obj:h.get? x=some (z7f C dx)
 ns:h.Ns1 dx mA
 ne:dx≠x
set_option tactic.hygienic true in
theorem JN{h:Heap}(n:h.Ns1 u s):∃j,h.get? u=some j/\∀name,z9m name j=some (s name):=by
 obtain⟨o,c,l,f,hd,i,_,g⟩:=n;refine⟨o,f,λname=>?_⟩;have e:=g name;unfold nsFind findBy at e;rw[<-zaR] at e;unfold z9m;rw[hd];dsimp only;split
 .rename_i y q;rw[q] at e;exact congrArg some e
 .rename_i q;rw[q] at e;have a:c.toList.any (·.refKey)=false:=by
   rw[z9A];intro y d;obtain⟨z,t,b⟩:=i y (zap.mp d);simp[DictEntry.refKey,b]
  have k:¬c.toList.any (·.refKey)=true:=a▸z6e;rw[if_neg k];exact congrArg some e
theorem ObjM.look(I:ObjM h x u C s):∃j,zc6 h x (z7f C u) C (some j)/\∀name,z9m name j=some (s name):=
 let ⟨j,ho,a⟩:=JN I.ns
 ⟨j,⟨I.obj,rfl,rfl,ho⟩,a⟩
section
variable {prog:Program}{w:World}{A:Around}{E:Value->Shared->Prop}{s:Shared}{K:PySem.W.Frag}{x dx C f:Addr}{mA:Str->Option Value}{name:Str}{v:Value}
theorem get_map(X:K.In s.heap)(I:ObjM s.heap x dx C mA)(hg:z8k K C name=true)(d:z7x K C=true)
  (e:z6g K (.ref C) name=some none) (b:mA name=some v) (a:zbC v=true) (h:Q v {s with toks:=s.toks+1}) :
  z5V (z5X prog w) A (getAttr (.ref x) name j) Q E s:=by
 obtain⟨f,J,c⟩:=I.look;exact PySem.W.get_value X J (z7Q hg).1 (PySem.W.findObj_own d e rfl (by rw[c,b])) a h
theorem Yg(X:K.In s.heap)(I:ObjM s.heap x dx C mA)(hg:z8k K C name=true)
  (hf:z6g K (.ref C) name=some (some (.ref f))) (ht:zb7 K (.ref f)=true) (b:mA name=none) (h:Q (.ref f,[.ref x]) s) :
  z5V (z5X prog w) A (zcU (.ref x) name pl) Q E s:=by
 obtain⟨a,J,c⟩:=I.look;exact PySem.W.method_fn X J (z7Q hg).1 (z7Q hg).2 hf (beq_iff_eq.mp ht) (by show (z9m name a).map (·.isSome)=some false;rw[c,b];rfl) h
theorem UA(X:K.In s.heap)(I:ObjM s.heap x dx C mA)
  (hs:z6g K (.ref C) "__setattr__"=some (some (.builtin "object.__setattr__"))) (l:z9B K C=true) (ht:zab K C name=some none) (m:z7x K C=true)
  (hw:zb5 mA ns) (k:ns.length<=sizeLine)
  (h:∀h',ObjM h' x dx C (λy=>if y=name then some v else mA y)->z6K dx s.heap h'->Q () {s with heap:=h',toks:=s.toks+2}) :
  z5V (z5X prog w) A (setAttr (.ref x) name v) Q E s:=by
 obtain⟨q,J,u⟩:=I.look;refine zb8 X J hs (PySem.W.osa_open (s:={s with toks:=s.toks+1}) (r:=none) X J l ht λb=>?_);obtain⟨cd,n,g⟩:=z9K m;have j:=I.obj;refine z5D (z5Q (z5D (z5D (wpAny_loadPart j (z5D (z7q (s:={s with toks:=s.toks+1}) (z9b X n) ?_))))));rw[g];refine z5Q (a:=some dx) (z5D (z5Q (z5D ?_)));refine wpAny_nsSet1 (s:={s with toks:=s.toks+1}) I.ns λh' d c=>?_;obtain⟨t,o,p,e,f,i⟩:=d.count (zdn name v hw);refine z5D (zbD e (f▸zbE (z66 i (by rw[z6l];lia))) ?_);exact z5Q (h _ ⟨(c.2 _ (z6f I.ne)).trans I.obj,d,I.ne⟩ c)
theorem Wb{R:Result->z5W->Prop}(X:K.In s.heap)(hm:zbQ K C=true)
  (hi:z6g K (.ref C) "__init__"=some (some (.ref f))) (hf:zc7 K (.ref f)=some (.type "function"))
  (h:z8B (z5X prog w) (A.under (.builtin "type.__call__" ⟨.ref C::vs,j⟩)) (.call (.ref f) ⟨.ref (s.heap.objs.size+1)::vs,j⟩) (PySem.W.InitBack (s.heap.objs.size+1) R)
   {s with heap:=(s.heap.push z6Q).push (z7f C s.heap.objs.size)}) :
  z8B (z5X prog w) A (.call (.ref C) ⟨vs,j⟩) R s:=by
 obtain⟨b,g,d,t,os⟩:=s;exact PySem.W.make_core (PySem.W.makes_of X hm) (zaq X hi) (λa=>PySem.W.bind_fn X a hf) (.inl rfl) h
end
noncomputable def wX (f:Str)(v:V):List (Str×V)->List (Str×V)
 |[]=>[(f,v)]
 |(g,x)::r=>if g=f then (g,v)::r else (g,x)::wX f v r
theorem kO(f g:Str)(v:V):∀fs:List (Str×V),(wX f v fs).lookup g=if g=f then some v else fs.lookup g
 |[]=>by
  show z7y g [(f,v)]=_;by_cases h:g=f
  .have a:=beq_iff_eq.mpr h;simp only[z7y,a,if_pos h]
  .have a:=beq_eq_false_iff_ne.mpr h;simp only[z7y,a,if_neg h]
 |(k,x)::r=>by
  have c:=kO f g v r;rw[show wX f v ((k,x)::r)=(if k=f then (k,v)::r else (k,x)::wX f v r) from rfl];by_cases b:k=f
  .rw[if_pos b];by_cases h:g=k
   .have a:=beq_iff_eq.mpr h;simp only[z7y,a,if_pos (h.trans b)]
   .have a:=beq_eq_false_iff_ne.mpr h;simp only[z7y,a,if_neg (λe:g=f=>h (e.trans b.symm))]
  .rw[if_neg b];by_cases h:g=k
   .have a:=beq_iff_eq.mpr h;simp only[z7y,a,if_neg (λe:g=f=>b (h.symm.trans e))]
   .have a:=beq_eq_false_iff_ne.mpr h;simp only[z7y,a];exact c
theorem kH(f:Str)(v:V):∀fs:List (Str×V),f∈(wX f v fs).map (·.1)/\∀g,g∈fs.map (·.1)->g∈(wX f v fs).map (·.1)
 |[]=>⟨by simp[wX],λg h=>by simp at h⟩
 |(k,x)::r=>by
  obtain⟨c,b⟩:=kH f v r;rw[show wX f v ((k,x)::r)=(if k=f then (k,v)::r else (k,x)::wX f v r) from rfl];by_cases a:k=f
  .rw[if_pos a];subst a;exact⟨sC,λg h=>by simpa using h⟩
  .rw[if_neg a];refine⟨?_,λg h=>?_⟩
   .rw[z6c];exact z5T _ c
   .rw[z6c] at h ⊢;rcases z61.mp h with e|e
    .exact z61.mpr (.inl e)
    .exact z5T _ (b g e)
theorem xo(f:Str)(v:V):∀fs:List (Str×V),(wX f v fs).length<=fs.length+1
 |[]=>by simp[wX]
 |(k,x)::r=>by
  have b:=xo f v r;rw[show wX f v ((k,x)::r)=(if k=f then (k,v)::r else (k,x)::wX f v r) from rfl];by_cases a:k=f
  .rw[if_pos a,z6l,z6l];lia
  .rw[if_neg a,z6l,z6l];lia
theorem RelO.some_of(r:RelO (some v) o):∃u,o=some u/\RelV v u:=by
 cases o with
 |none=>exact (show False from r).elim
 |some u=>exact⟨u,rfl,r⟩
theorem RelO.none_of(r:RelO none o):o=none:=by
 cases o with
 |none=>rfl
 |some u=>exact (show False from r).elim
theorem JB(r:RelV v u):zbC u=true:=by
 cases v with
 |n=>cases (show u=z8T from r);rfl
 |bl b=>cases (show u=z9Y b from r);rfl
 |int i=>obtain⟨t,e⟩:=(show ∃t,u=zaE i t from r);subst e;rfl
 |str x=>obtain⟨t,e⟩:=(show ∃t,u=zcT x t from r);subst e;rfl
 |byt b=>obtain⟨t,e⟩:=(show ∃t,u=zd9 b t from r);subst e;rfl
 |flt b=>obtain⟨t,e⟩:=(show ∃t,u=zda b t from r);subst e;rfl
 |ref a=>cases (show u=z6u a from r);rfl
 |ty n=>cases (show u=zc3 n from r);rfl
section
variable {P:Program}{w:World}{H:Hp}{h:Heap}{a C dx:Addr}{fs:List (Str×V)}
theorem jN(hok:HOk P w H h)(e:H a=some (.ins C dx fs)):∃j,ObjM h a dx C j/\(∀f,RelO (fs.lookup f) (j f))/\zb5 j (fs.map (·.1))/\fs.length<=1000/\H dx=some (.own a):=by
 obtain⟨d,z,ne,ob,j,n,r,q⟩:=(show ObjOk P w H h a (.ins C dx fs) from hok a _ e);exact⟨j,⟨ob,n,ne⟩,r,q,z,d⟩
end
structure Cls(K:PySem.W.Frag)(C:Addr):Prop where
 pg:z8k K C z9h=true
 hd:z7x K C=true
 po:z9B K C=true
 sa:z6g K (.ref C) "__setattr__"=some (some (.builtin "object.__setattr__"))
theorem Cls.get{K:z5M}(c:Cls K C)(f:Str):z8k K C f=true:=c.pg
noncomputable def NoAttr(K:z5M)(C:Addr)(f:Str):Prop:=z6g K (.ref C) f=some none
theorem NoAttr.taker{K:z5M}(n:NoAttr K C f):zab K C f=some none:=by
 unfold zab;rw[show z6g K (.ref C) f=some none from n];rfl
structure Meth(K:PySem.W.Frag)(C:Addr)(m:Str)(f:Addr):Prop where
 at_:z6g K (.ref C) m=some (some (.ref f))
 fn:zb7 K (.ref f)=true
 kp:z8f K (.ref f)=true
section
variable {X:Cx}{pins:List (Addr×Obj)}{σ:St}{H:Hp}{s:Shared}{a C dx:Addr}{fs:List (Str×V)}{f:Str}{v:V}{A:Around}{E:Value->Shared->Prop}
theorem yL(I:Inv X pins σ H s)(e:H a=some (.ins C dx fs))(c:Cls X.K C)(n:NoAttr X.K C f)(l:fs.lookup f=some v)
  (h:∀u j,Inv X pins σ H j->RelV v u->Q u j):z5V (z5X X.prog X.w) A (getAttr (.ref a) f b) Q E s:=by
 obtain⟨g,O,r,_,_,_⟩:=jN I.hok e;obtain⟨u,i,d⟩:=RelO.some_of (v:=v) (o:=g f) (l▸r f);exact get_map I.kIn O (c.get f) c.hd n i (JB d) (h u _ (I.tok _) d)
theorem Wo(I:Inv X pins σ H s)(e:H a=some (.ins C dx fs))(c:Cls X.K C)(k:Meth X.K C m g)(l:fs.lookup m=none)
  (h:Q (.ref g,[.ref a]) s):z5V (z5X X.prog X.w) A (zcU (.ref a) m pl) Q E s:=by
 obtain⟨d,O,r,_,_,_⟩:=jN I.hok e;have b:=RelO.none_of (l▸r m);exact Yg I.kIn O (c.get m) k.at_ k.fn b h
theorem Wf(I:Inv X pins σ H s)(e:H a=some (.ins C dx fs))(c:Cls X.K C)(n:NoAttr X.K C f)(F:fs.length<1000)(p:RelV y u)
  (h:∀j,Inv X pins σ (upd H a (.ins C dx (wX f y fs))) j->Q () j):z5V (z5X X.prog X.w) A (setAttr (.ref a) f u) Q E s:=by
 obtain⟨k,O,r,i,_,l⟩:=jN I.hok e;have t:(fs.map (·.1)).length<=sizeLine:=by rw[z5H,z6y];lia
 refine UA I.kIn O c.sa c.po n.taker c.hd i t λB d m=>h _ ?_;have hd:∃o,B.get? dx=some o:=let ⟨o,_,_,D,_⟩:=d.ns;⟨o,D⟩;refine I.write (x:=a) (e:=dx) (e▸z76) (.inr l) (λb q v z=>(m.2 b v).trans z) hd ?_;refine⟨z4 O.ne▸l,?_,O.ne,d.obj,_,d.ns,λg=>?_,λg hg=>?_⟩
 .have:=xo f y fs;lia
 .show RelO ((wX f y fs).lookup g) (if g=f then some u else k g);rw[kO];by_cases q:g=f
  .rw[if_pos q,if_pos q];exact p
  .rw[if_neg q,if_neg q];exact r g
 .by_cases q:g=f
  .rw[q];exact (kH f y fs).1
  .refine (kH f y fs).2 g (i g λz=>hg ?_);show (if g=f then some u else k g)=none;rw[if_neg q];exact z
theorem Inv.made(I:Inv X pins σ H s):Inv X pins σ (upd (upd H s.heap.objs.size (.own (s.heap.objs.size+1))) (s.heap.objs.size+1) (.ins C s.heap.objs.size []))
  {s with heap:=(s.heap.push z6Q).push (z7f C s.heap.objs.size)}:=by
 have c:(s.heap.push z6Q).get? s.heap.objs.size=some z6Q:=z6a s.heap rfl;have g:((s.heap.push z6Q).push (z7f C s.heap.objs.size)).get? (s.heap.objs.size+1)=some (z7f C s.heap.objs.size):=by
  have:=z6a (s.heap.push z6Q) (o:=z7f C s.heap.objs.size) rfl;rwa[z7b] at this
 have f:(s.heap.push z6Q).Ns s.heap.objs.size (λ_=>none):=⟨z6Q,#[],_,c,rfl,(λe he=>absurd he sC),λ_=>rfl⟩;have h:=I.laid (a:=s.heap.objs.size) (o:=.own (s.heap.objs.size+1)) (h':=s.heap.push z6Q) (t':=s.toks) (λb u q=>z5I _ q) (z5K _) ⟨_,c⟩;refine h.laid (a:=s.heap.objs.size+1) (o:=.ins C s.heap.objs.size []) (t':=s.toks) (λb u q=>z5I _ q) (z8l (z7b _ _)) ?_;have ne:s.heap.objs.size≠s.heap.objs.size+1:=z6b (z77 _);refine⟨by rw[z4 ne,z0],z7m _,ne,g,λ_=>none,(zb9 f).at λo q=>z5I _ q,λ_=>z76,λy d=>absurd rfl d⟩
theorem Yq{env:Env}{e:Expr}{f:Str}(a:z83 e f env (eval e env)=eval e env)
  (h:z5V (z5X prog w) A (eval e env) (λo j=>z5V (z5X prog w) A (getAttr o f true) Q E j) E s):z5V (z5X prog w) A (eval (.Attribute e f pos) env) Q E s:=
 Attribute_any_ h (by rw[arm_eval_Attribute,a])
end
noncomputable def z4T (K:z5M)(d:TE)(f:Str):TE:=λc H Q=>d c H λx b=>∃a C e fs v,x=.ref a/\b a=some (.ins C e fs)/\Cls K C/\NoAttr K C f/\fs.lookup f=some v/\Q v b
noncomputable def zG (K:z5M)(g e:TE)(f:Str):TS:=λD b H=>e b H λy h=>g b h λx d=>∃a C c fs,x=.ref a/\d a=some (.ins C c fs)/\Cls K C/\NoAttr K C f/\fs.length<1000/\
 D.nx b (upd d a (.ins C c (wX f y fs)))
section
variable {X:Cx}{o e value:Expr}{f:Str}{pos pos':Pos}{ta tv:TE}
theorem z1r(he:PE X e ta)(j:z83 e f X.env (eval e X.env)=eval e X.env):PE X (.Attribute e f pos) (z4T X.K ta f):=by
 intro b s d H Q I h;refine Yq j (thn (he b s d H _ I h) λu w ⟨x,p,o,g,a,C,y,fs,v,ex,k,c,n,l,q⟩=>?_);subst ex;obtain rfl:u=z6u a:=g;exact yL o k c n l λr t m i=>⟨v,p,m,i,q⟩
theorem z2v(p:PE X o ta)(m:PE X value tv)(hs:z8j value (some (.Attribute o f pos')) pos.line X.env=pure false):PS X (.Assign [.Attribute o f pos'] value pos) (zG X.K ta tv f):=by
 intro b s d H D I h;refine z8Q (thn (m b s d H _ I h) λu e ⟨y,z,w,g,q⟩=>thn (p b e d z _ w q) λk B ⟨x,F,v,i,a,C,E,fs,ex,r,c,n,l,j⟩=>?_) hs;subst ex;obtain rfl:k=z6u a:=i;exact Wf v r c n l g λA t=>⟨d,_,t,j⟩
end
structure Room(k:Nat)(A:Around):Prop where
 hd:A.handled=none
 dp:A.depth+3*k+5<recursionLimit
 un:A.units+16*k+200<cLine
theorem Room.mono(r:Room k A)(h:j<=k):Room j A:=⟨r.hd,by have:=r.dp;lia,by have:=r.un;lia⟩
theorem Room.deeper(r:Room (k+1) A)(env:Env):Room k (A.deeper env):=
 ⟨r.hd,by have:=r.dp;show A.depth+1+3*k+5<_;lia,by have:=r.un;show A.units+3+16*k+200<_;lia⟩
theorem WZ{A:z84}:(A.under (.builtin "type.__call__" ⟨.ref C::j,s⟩)).depth=A.depth+1:=by
 first|rfl|simp[zba,Code.weight,Code.isCreation,Code.isGuard,Code.isCaller,zdb,zbb,guardIds]
theorem WG{A:z84}:(A.under (.builtin "type.__call__" ⟨.ref C::j,s⟩)).units=A.units+1:=by
 first|rfl|simp[zba,Code.cUnits,zdb,zbb]
theorem Room.make(r:Room (k+1) A)(C:Addr)(a:List Value)(b:List (Str×Value)):Room k (A.under (.builtin "type.__call__" ⟨.ref C::a,b⟩)):=
 ⟨r.hd,by have:=r.dp;rw[WZ];omega,by have:=r.un;rw[WG];omega⟩
theorem Room.depth(r:Room k A):A.depth<recursionLimit:=by have:=r.dp;lia
noncomputable def z4L:TA:=λ_ H Q=>Q [] H
noncomputable def z2X(c:TE)(b:TA):TA:=λa H Q=>c a H λx e=>b a e λxs d=>Q (x::xs) d
section
variable {X:Cx}{e:Expr}{es:List Expr}{te:TE}{t:TA}{pos:Pos}
theorem qr:PA X [] z4L:=λ_ _ _ _ H Q I h=>z9C ⟨[],H,I,.nil,h⟩
theorem zI(l:PE X e te)(k:PA X es t)(hs:z6H (e::es) X.env=(false,eval e X.env)::z6H es X.env:=by rfl):PA X (e::es) (z2X te t):=by
 intro b a s c H Q I h;rw[hs];show z5V _ _ (spliced ((false,eval e X.env)::z8e b (z6H es X.env))) _ _ s;refine z9n (thn (l a s c H _ I h) λu d ⟨x,p,n,g,j⟩=>?_);exact thn (k b a d c p _ n j) λq r ⟨xs,o,m,f,i⟩=>⟨x::xs,o,m,.cons g f,i⟩
noncomputable def z51 (t:TA):TE:=λb H Q=>t b H λxs a=>xs.length<=sizeLine/\∀p,a p=none->Q (.ref p) (upd a p (.t xs))
noncomputable def z4o (t:TA):TE:=λb H Q=>t b H λxs a=>xs.length<=sizeLine/\∀p,a p=none->Q (.ref p) (upd a p (.l xs))
theorem z2p{x1}(h:PA X es t):PE X (.Tuple es x1 pos) (z51 t):=by
 intro a s f H Q I i;refine wpAny_Tuple_spliced (thn (h pos a s f H _ I i) λg c ⟨xs,k,d,r,z,q⟩=>⟨r.length▸z,?_⟩);have j:=d.hok.fresh (z5K _);refine⟨.ref c.heap.objs.size,upd k c.heap.objs.size (.t xs),d.laid (t':=c.toks) (λb u e=>z5I _ e) (z5K _) ?_,rfl,q _ j⟩;exact⟨z,g,r,⟨_,z6a _ rfl,rfl,_,rfl⟩⟩
theorem XT(h:PA X es t):PE X (.List es pos) (z4o t):=by
 intro a s f H Q I i;refine wpAny_List_spliced (thn (h pos a s f H _ I i) λg c ⟨xs,k,d,r,z,q⟩=>⟨r.length▸z,?_⟩);have j:=d.hok.fresh (z5K _);refine⟨.ref c.heap.objs.size,upd k c.heap.objs.size (.l xs),d.laid (t':=c.toks) (λb u e=>z5I _ e) (z5K _) ?_,rfl,q _ j⟩;exact⟨z,g,0,r,z6a _ rfl⟩
end
noncomputable abbrev Sp:=List V->Hp->VK->XK->Prop
noncomputable abbrev CXT:=List Env->Hp->z5W->XK->Value->z5W->Prop
structure Env0(P:Program)(w:World)(K:PySem.W.Frag)(mg:Str->Option Value)(base:Heap)(A:Around)(outer:List Env)(s:Shared)(H:Hp):Prop where
 frames:A.frames=some outer
 mod:Mod K mg base
 bs:∀b o,base.get? b=some o->s.heap.get? b=some o/\H b=none
 bsz:base.objs.size<=s.heap.objs.size
 funs:s.heap.FunFrames base outer
 frf:∀b∈frs outer,H b=none
 hok:HOk P w H s.heap
 bare:z9z s.gens
inductive CE(outer:List Env)(P:Program)(w:World)(H:Hp)(s:Shared)(Q:VK)(u:Value)(s':Shared):Prop where
 |mk (v:V) (H':Hp) (o:s'.os=s.os) (b:z9z s'.gens) (n:Un (frs outer) [] H H' s.heap s'.heap) (k:HOk P w H' s'.heap) (r:RelV v u) (q:Q v H')
noncomputable def CR (CX:CXT)(outer:List Env)(P:z6t)(w:z81)(H:Hp)(s:z5W)(Q:VK)(E:XK)(r:Result)(a:z5W):Prop:=
 match r with
 |.ok (.ret u)=>CE outer P w H s Q u a
 |.ok _=>False
 |.error e=>CX outer H s E e a
structure FnOk(P:Program)(w:World)(K:PySem.W.Frag)(mg:Str->Option Value)(base:Heap)(CX:CXT)(k:Nat)(f:Addr)(fd:FuncData)(ps:List Str)(sp:Sp):Prop where
 len:∀vs H Q E,sp vs H Q E->vs.length=ps.length
 run:∀(A:z84) (outer:List Env) (s:z5W) (H:Hp) (args:Args) (us:List Value) (vs:List V) (Q:VK) (E:XK),Room k A->Env0 P w K mg base A outer s H->zaG s fd args (ps.zip us)->Vals vs us->sp vs H Q E->
  z8B (z5X P w) A (.call (.ref f) args) (CR CX outer P w H s Q E) s
theorem FnOk.imp{P:z6t}{K:z5M}(F:FnOk P w K mg base CX k f fd ps sp)
  (h:∀vs H Q E,j vs H Q E->sp vs H Q E):FnOk P w K mg base CX k f fd ps j:=
 ⟨λvs H Q E q=>F.len vs H Q E (h _ _ _ _ q),λA outer s H args a vs Q E c he d b hs=>F.run A outer s H args a vs Q E c he d b (h _ _ _ _ hs)⟩
theorem Env0.make{P:z6t}{K:z5M}(e:Env0 P w K mg base A outer s H)(C:Addr)(a:List Value)(b:List (Str×Value)) :
  Env0 P w K mg base (A.under (.builtin "type.__call__" ⟨.ref C::a,b⟩)) outer s H:=⟨by first|exact e.frames|(simpa[zba,Code.envs,zbb,pushEnvs] using e.frames),e.mod,e.bs,e.bsz,e.funs,e.frf,e.hok,e.bare⟩
theorem Env0.in1{P:z6t}{K:z5M}(e:Env0 P w K mg base A outer s H) :
  Env0 P w K mg base A.in1 outer s H:=⟨e.frames,e.mod,e.bs,e.bsz,e.funs,e.frf,e.hok,e.bare⟩
section
variable {X:Cx}{pins:List (Addr×Obj)}{σ:St}{H:Hp}{s s':Shared}
theorem Inv.env0(I:Inv X pins σ H s):Env0 X.prog X.w X.K X.mg X.base X.A X.stack s H:=
 ⟨I.ok.frames,I.ok.mod,I.bs,z66 I.ok.bsz I.sz,I.stack,I.stkFree,I.hok,I.bare⟩
theorem Inv.after(I:Inv X pins σ H s)(h:CE X.stack X.prog X.w H s Q u s'):EP X pins σ Q u s':=by
 obtain⟨v,e,os,bare,un,hok,r,q⟩:=h;obtain⟨c,g,d,t,a⟩:=s';obtain rfl:a=s.os:=os;exact⟨v,e,I.call (h':=c) (g':=g) (d':=d) (t':=t) (ch:=[]) un hok bare (λb z=>absurd z sC),r,q⟩
end
noncomputable def Binds(K:z5M)(fd:FuncData)(ps:List Str)(ds:List Value):Prop:=
 ∀(s:z5W) (a:List Value),K.In s.heap->(a++ds).length=ps.length->zaG s fd ⟨a,[]⟩ (ps.zip (a++ds))
theorem Binds.all{K:z5M}(h:∀j:List Value,j.length=ps.length->zar fd ⟨j,[]⟩=pure (ps.zip j)):Binds K fd ps []:=λs j _ a=>by
 rw[z6S] at a ⊢;exact .of_eq (h j a)
section
variable {f C:Addr}
structure Mk(K:PySem.W.Frag)(C f:Addr):Prop where
 makes:zbQ K C=true
 init:z6g K (.ref C) "__init__"=some (some (.ref f))
 fn:zb7 K (.ref f)=true
 kp:z8f K (.ref C)=true
end
structure FnScope(N P:List Str)(sc:Scope):Prop where
 kind:sc.kind=.function
 co:sc.isCoroutine=false
 gen:sc.isGenerator=false
 nd:N.Nodup
 pre:N.take P.length=P
 par:∀x∈P,sc.names.lookup x=some .local\/sc.names.lookup x=some .cell
 nofree:∀y∈sc.names,y.2≠.free
theorem Z1{kindOf:Str->Option z8_}:∀{binds:List (Str×Value)} {m:Str->Option Value},(∀v,(x,v)∉binds)->zc8 kindOf binds m x=m x
 |[],_,_=>rfl
 |(n,v)::r,m,h=>by
  unfold zc8;rw[Z1 λw hw=>h w (z5T _ hw)];split
  .have:x≠n:=by rintro rfl;exact h v z60
   simp[this]
  .rfl
theorem uA{kindOf:Str->Option z8_}:∀{binds:List (Str×Value)} {m:Str->Option Value},(∀v,(x,v)∉binds)->zc9 kindOf binds m x=m x
 |[],_,_=>rfl
 |(n,v)::r,m,h=>by
  unfold zc9;rw[uA λw hw=>h w (z5T _ hw)];split
  .rfl
  .have:x≠n:=by rintro rfl;exact h v z60
   simp[this]
theorem Z3{kindOf:Str->Option z8_}:∀{P:List Str} {vs:List Value} {i:Nat} {m:Str->Option Value},P.Nodup->P[i]?=some x->vs[i]?=some v->kindOf x=some .local->
  zc8 kindOf (P.zip vs) m x=some v
 |[],_,_,_,_,h,_,_=>by simp at h
 |_::_,[],_,_,_,_,h,_=>by simp at h
 |p::P,w::vs,0,m,c,b,a,d=>by
  simp at b a;subst b;subst a;show zc8 kindOf ((p,w)::P.zip vs) m p=_;unfold zc8;rw[Z1 λv e=>(z7g.mp c).1 (zac e).1,if_pos d];simp
 |p::P,w::vs,i+1,m,c,b,a,d=>by
  show zc8 kindOf ((p,w)::P.zip vs) m x=_;unfold zc8;exact Z3 (i:=i) (z7g.mp c).2 (by simpa using b) (by simpa using a) d
theorem Z4{kindOf:Str->Option z8_}:∀{P:List Str} {vs:List Value} {i:Nat} {m:Str->Option Value},P.Nodup->P[i]?=some x->vs[i]?=some v->kindOf x≠some .local->
  zc9 kindOf (P.zip vs) m x=some v
 |[],_,_,_,_,h,_,_=>by simp at h
 |_::_,[],_,_,_,_,h,_=>by simp at h
 |p::P,w::vs,0,m,c,b,a,d=>by
  simp at b a;subst b;subst a;show zc9 kindOf ((p,w)::P.zip vs) m p=_;unfold zc9;rw[uA λv e=>(z7g.mp c).1 (zac e).1,if_neg d];simp
 |p::P,w::vs,i+1,m,c,b,a,d=>by
  show zc9 kindOf ((p,w)::P.zip vs) m x=_;unfold zc9;exact Z4 (i:=i) (z7g.mp c).2 (by simpa using b) (by simpa using a) d
noncomputable def start(N:List Str)(vs:List V):St:=vs.map some++z7U (N.length-vs.length) none
noncomputable def WO (CX:CXT)(P:z6t)(w:z81)(K:z5M)(mg:Str->Option Value)(base:Heap)(N:List Str)(a:Str)(scope:Scope)(f:Addr)(cd:Value)(A:z84)(outer:List Env)(s:z5W)(H:Hp)(E:XK)(fnb:Str->Bool:=λ_=>true):Cx where
 prog:=P
 w:=w
 K:=K
 mg:=mg
 base:=base
 A:=A.deeper (z8U a scope s.heap.objs.size f cd)
 N:=N
 s₀:=s
 H₀:=H
 env:=z8U a scope s.heap.objs.size f cd
 outer:=outer
 stack:=z8U a scope s.heap.objs.size f cd::outer
 ex:=[]
 calm:=true
 fn:=fnb
 pn:=[]
 xe:=λe c=>z5V (z5X P w) (A.deeper (z8U a scope s.heap.objs.size f cd)) (leaving (z8U a scope s.heap.objs.size f cd) e) (λ_ b=>CX outer H s E e b) (λd b=>CX outer H s E d b) c
theorem ZW{sc:Scope}(h:sc.names.lookup x=some .cell):∃c,(zcV n sc.names []).lookup x=some c:=by
 have q:=z9Z sc.names n [] (.inl h);exact z8v.mp q
theorem uV{CX:CXT}{P:z6t}{w:z81}{K:z5M}{mg:Str->Option Value}{base:Heap}{N ps:List Str}{d:Str}{f:Addr}{cd:Value}{A:z84}{s D:z5W}{H:Hp}{E:XK}{vs:List V} 
  (S:FnScope N ps scope) (hd:A.handled=none) (e0:Env0 P w K mg base A outer s H) (M:vs.length=ps.length) (r:Vals vs C)
  (x:InCallC s s.heap.objs.size (zc8 (z8U d scope s.heap.objs.size f cd).kindOf (ps.zip C) λ_=>none) (zcV (s.heap.objs.size+1) scope.names []) (zc9 (z8U d scope s.heap.objs.size f cd).kindOf (ps.zip C) λ_=>none) D) :
  Inv (WO CX P w K mg base N d scope f cd A outer s H E fnb) [] (start N vs) H D:=by
 have J:ps.length<=N.length:=by have:=congrArg zas S.pre;rw[z6B] at this;lia
 obtain⟨B,tk,rfl,G⟩:=x.done;have j:∀b:Addr,b∉(WO CX P w K mg base N d scope f cd A outer s H E fnb).ex:=λb z=>absurd (show b∈([]:List Addr) from z) sC
 refine⟨⟨e0.mod,S.kind,rfl,rfl,z5K _,λy z c B g=>?_,λy l=>?_,λy c _ h=>?_,λ_=>hd,zat e0.frames,.inr ⟨rfl,rfl⟩,λb z=>absurd z (j b),e0.bs,e0.bsz,λb _ _=>j b,λb z=>absurd z (j b),e0.funs,e0.frf⟩,
  rfl,e0.bare,Un.kept G,⟨_,x.toInCall.ns,λi y v B g O=>?_⟩,λy c h=>⟨_,x.cell y c h⟩,e0.hok.fresh (z5K _),λy c h=>?_,λp o=>absurd (show p∈([]:List (Addr×Obj)) from o) sC,e0.hok.kept G,?_⟩
 .exact name_of_addr x.apart (z6J B) (z6J g)
 .have l:=l;rcases l with l|l
  .exact ZW l
  .exact absurd rfl (S.nofree _ (z6J l))
 .exact z7w (x.above y c (z6J h))
 .have t:i<vs.length:=by
   unfold start at g;by_cases t:i<vs.length
   .exact t
   .rw[z5_ (by simpa using t)] at g;rw[z7V] at g;split at g<;>cases g
  have L:vs[i]?=some v:=by
   unfold start at g;rw[z5N (by simpa using t),z5Z] at g;cases e:vs[i]? with
   |none=>rw[e] at g;exact z7 g
   |some a=>rw[e] at g;cases g;rfl
  obtain⟨u,F,I⟩:=r.get L;have o:ps[i]?=some y:=by
   rw[<-S.pre,List.getElem?_take_of_lt (by lia)];exact B
  have m:ps.Nodup:=S.pre▸S.nd.sublist (z7d _ _);refine⟨u,I,?_⟩;rcases S.par y (z5E o) with k|k
  .exact .inl ⟨k,Z3 m o F k⟩
  .obtain⟨c,e⟩:=ZW (n:=s.heap.objs.size+1) k;refine .inr ⟨.inl k,c,e,?_⟩;have q:=x.cell y c e;rw[Z4 m o F (by show scope.names.lookup y≠_;rw[k];decide)] at q;exact q
 .exact .inl (e0.hok.fresh (z7w (x.above y c (z6J h))))
 .unfold start;show _=N.length;rw[z6k,z5H,zag];lia
theorem z02 {CX : CXT} {P : z6t} {w : z81} {K : z5M} {k : Nat} {f : Addr} {name a : Str} {params : Arguments} {body : List Stmt} {O kV z M d ct Z : Value} {R X : Option Addr}
 {N ps : List Str} {sp : Sp} (lk : K.lookup f = some ⟨Z, X, .func (z6O name a params body scope O kV z M R d ct), Y⟩) (G : z7W K d a = true) (S : FnScope N ps scope)
    (len:∀vs H Q E, sp vs H Q E->vs.length=ps.length)
    (m : ∀ (A : z84) (outer : List Env) (s : z5W) (H : Hp) (vs : List V) (Q : VK) (E : XK), Room k (A.deeper (z8U a scope s.heap.objs.size f d)) -> sp vs H Q E -> (∀ y c, (z8U a scope s.heap.objs.size f d).cells.lookup y = some c -> s.heap.objs.size <= c /\ H c = none) ->
      ∃t, PSs (WO CX P w K mg base N a scope f d A outer s H E fnb) body t/\t {nx:=λ_ j=>Q .n j, rt:=Q} (start N vs) H) :
    FnOk P w K mg base CX (k+1) f (z6O name a params body scope O kV z M R d ct) ps sp:=by
  refine⟨len, λA outer s H args U vs Q E F e0 hb r p=>?_⟩;have hl:=len _ _ _ _ p;have T:=e0.mod.kin.keeps λb o e=>(e0.bs b o e).1;have D:=e0.mod.nolimit.keeps λb o e=>(e0.bs b o e).1;have i:∀y∈ps.zip U, scope.names.lookup y.1=some .local\/(scope.names.lookup y.1=some .cell/\((zcV (s.heap.objs.size+1) scope.names []).lookup y.1).isSome=true):=λ⟨n, v⟩ hy=>by
    rcases S.par n (zac hy).1 with q|q
    · exact .inl q
    · exact .inr ⟨q, z9Z _ _ _ (.inl q)⟩
  refine codeAny_call_function F.depth (T _ _ lk) rfl S.co S.gen rfl (PySem.W.codeRec_of T G) (hb _ _ _ _ ?_);refine z9o S.kind i λenv he L x=>?_;subst he;refine⟨D.keeps x.toInCall.keep, codeAny_func ?_⟩;obtain⟨t, ht, hq⟩:=m A outer s H vs Q E (F.deeper _) p λy c h=>have l:=z7w (x.above y c (z6J h));⟨l, e0.hok.fresh l⟩;have I:Inv (WO CX P w K mg base N a scope f d A outer s H E fnb) [] (start N vs) H L:=uV S F.hd e0 hl r x;refine z6r (ht [] L (start N vs) H _ I hq) (λfl B hs=>?_) λe B hs=>hs
  have fin:∀{g:St} {j:Hp} {v:V} {u:Value}, Inv (WO CX P w K mg base N a scope f d A outer s H E fnb) [] g j B->RelV v u->Q v j->CE outer P w H s Q u B:=
    λ{g j v u} J C q=>⟨v, j, J.os, J.bare, J.base, J.hok, C, q⟩
  cases fl with
  |ret u=>
    obtain⟨v, g, j, J, C, q⟩:=hs;exact fin J C q
  |next=>
    obtain⟨g, j, J, q⟩:=hs;exact fin (v:=V.n) (u:=z8T) J rfl q
  |brk=>
    obtain⟨_, _, _, q⟩:=hs;exact z6s q
  |cont=>
    obtain⟨_, _, _, q⟩:=hs;exact z6s q
end L2
namespace HT
open PySem PyProof.Rows
noncomputable def lexLt:List Int->List Int->Bool
 |[],[]=>false
 |[],_::_=>true
 |_::_,[]=>false
 |x::xs,y::a=>if x=y then lexLt xs a else decide (x<y)
theorem lexLt_cons(x y:Int)(xs a:List Int):lexLt (x::xs) (y::a)=if x=y then lexLt xs a else decide (x<y):=rfl
theorem lexLt_nil_nil:lexLt [] []=false:=rfl
theorem xH(y:Int)(a:List Int):lexLt [] (y::a)=true:=rfl
theorem yu(x:Int)(xs:List Int):lexLt (x::xs) []=false:=rfl
theorem yw(A:z84)(s:z5W)(a:Int)(t:Tok)(c:Int)(u:Tok):∃e,z7h A s (.int a t) (.int c u) e/\(e=true↔a=c):=
 ⟨(a==c),zaS a t c u,sC⟩
theorem Y5(A:z84)(s:z5W)(a:Int)(t:Tok)(c:Int)(u:Tok)(prog:z6t)(w:z81)(E:Value->z5W->Prop)(Q:Value->z5W->Prop)(h:Q (.bool (decide (a<c))) s) :
  z5V (z5X prog w) A (richCompare .Lt (.int a t) (.int c u)) Q E s:=
 (zde h:z5V (z5X prog w) A (z6I .Lt (.int a t) (.int c u)) Q E s)
section
open PySem.SeqAt
open PySem.AutoSeq1 (wpAny_loadPart')
open PySem.MeetsSeq PySem.MeetsSeq2 PySem.MeetsSeq3
theorem uv(l b:Addr)(items f:Array Value)(n n2:Nat)(dd N:Option Addr)(P J:Array (Option Value))(ns H:List Int)(hi:z7z items.toList ns)(hj:z7z f.toList H) :
  Meets (zc_.«tuple.__lt__» ⟨[.ref l,.ref b],[]⟩)
   (λ_ R s=>s.heap.get? l=some {cls:=.type "tuple",dict:=dd,data:=.seq items n,slots:=P}/\s.heap.get? b=some {cls:=.type "tuple",dict:=N,data:=.seq f n2,slots:=J}/\
    R (.ok (.ret (.bool (lexLt ns H)))) s):=
 .of_wp λp w A R s h=>by
  obtain⟨I,g,d,tk,os⟩:=s;obtain⟨T,V,h⟩:=h;have Y:=AutoSeq1.sub_tuple_tuple;have X:items.size=ns.length:=by rw[<-hi.length];simp
  have W:f.size=H.length:=by rw[<-hj.length];simp
  wp_walk using zbR T,zbR V,wpAny_forIn_list _ (λrest b K=>b.1=none/\K=⟨I,g,d,tk,os⟩/\∃(G F:List Value) (j k:List Int),rest=G.zip F/\
   z7z G j/\z7z F k/\j.length+f.size=k.length+items.size/\R (.ok (.ret (.bool (lexLt j k)))) ⟨I,g,d,tk,os⟩) _
  case turn=>
   rintro⟨y,x⟩ rest b K ⟨C,rfl,G,F,j,k,m,z,o,i,v⟩
   cases z with
   |nil=>rw[List.zip_nil_left] at m;injection m
   |cons a t E=>
    cases o with
    |nil=>rw[List.zip_nil_right] at m;injection m
    |cons c u D=>
     rw[zaT] at m;injection m with L B;injection L with Q S;subst Q S;rw[lexLt_cons] at v;simp only[z6l] at i;obtain⟨e,U,r⟩:=yw A.in1 ⟨I,g,d,tk,os⟩ a t c u;refine z5D (U p w _ _ ?_);cases e with
     |true=>
      rw[if_pos (r.mp rfl)] at v;wp_walk;exact⟨rfl,rfl,_,_,_,_,B,E,D,by lia,v⟩
     |false=>
      rw[if_neg (λq=>absurd (r.mpr q) z6e)] at v;have M:=Y5 A.in1 ⟨I,g,d,tk,os⟩ a t c u p w;wp_walk using M;exact⟨_,rfl,by simpa using v⟩
  case fin=>
   rintro⟨b1,Z⟩ K ⟨C,rfl,G,F,j,k,m,z,o,i,v⟩
   simp only at C
   subst C
   have O:lexLt j k=decide (items.size<f.size):=by
    cases z with
    |nil=>
     cases o with
     |nil=>
      simp only[z7u] at i;rw[lexLt_nil_nil];exact (decide_eq_false (by lia)).symm
     |cons c u hw=>
      simp only[z7u,z6l] at i;rw[xH];exact (decide_eq_true (by lia)).symm
    |cons a t O=>
     cases o with
     |nil=>
      simp only[z7u,z6l] at i;rw[yu];exact (decide_eq_false (by lia)).symm
     |cons c u hw=>
      rw[zaT] at m;injection m
   rw[O] at v
   wp_walk
   exact⟨_,rfl,by simpa[zbB] using v⟩
  case h=>
   exact⟨rfl,rfl,items.toList,f.toList,ns,H,rfl,hi,hj,by lia,h⟩
end
section
variable {prog:Program}{w:World}{A:Around}{E:Value->Shared->Prop}{s:Shared}
theorem lt_tupInts(r:IsTup s.heap l items)(t:IsTup s.heap b j)(hi:z7z items.toList ns)(hj:z7z j.toList u)
  (q:A.units<cLine) (h:Q (.bool (lexLt ns u)) s):z5V (z5X prog w) A (z6I .Lt (.ref l) (.ref b)) Q E s:=by
 obtain⟨⟨cls,v,k,o⟩,g,i,n,hd⟩:=id r;obtain⟨⟨m,f,data2,e⟩,a,d,p,c⟩:=id t;simp only at i hd d c;subst i hd d c
 exact richCompare_meets_room (op:=.Lt) ⟨_,g,rfl⟩ ⟨_,a,rfl⟩ PySem.F.slot_tuple_lt PySem.F.entry_tuple_lt (PySem.F.args_tuple_lt_2 _ _) (uv l b items j n p v f o e ns u hi hj)
  ⟨g,a,show z9Y (lexLt ns u)≠Value.notImplemented/\Q (.bool (lexLt ns u)) s from ⟨(λx=>nomatch x),h⟩⟩ q
noncomputable def sIx (n d:Nat):Option Int->Nat
 |none=>d
 |some v=>if v<0 then (v+(n:Int)).toNat else min v.toNat n
theorem z1C(n d:Nat)(hd:d<=n)(o:Option Int):sIx n d o<=n:=by
 cases o with
 |none=>exact hd
 |some v=>
  show (if v<0 then (v+(n:Int)).toNat else min v.toNat n)<=n;by_cases a:v<0
  .rw[if_pos a];lia
  .rw[if_neg a];exact Nat.min_le_right _ _
theorem Vn(v:Int)(n d:Nat):(if v<0 then max (v+(n:Int)) 0 else min v (n:Int))=((sIx n d (some v):Nat):Int):=by
 show (if v<0 then max (v+(n:Int)) 0 else min v (n:Int))=(((if v<0 then (v+(n:Int)).toNat else min v.toNat n):Nat):Int);by_cases a:v<0
 .simp only[if_pos a];lia
 .simp only[if_neg a];lia
theorem Wu(lo hi:Option Int)(n:Nat):z8q lo hi 1 (n:Int)=(((sIx n 0 lo:Nat):Int),((sIx n n hi:Nat):Int)):=by
 have a:¬((1:Int)<0):=by lia
 unfold z8q;simp only[a,if_false];refine Prod.ext ?_ ?_
 .cases lo with
  |none=>rfl
  |some v=>exact Vn v n 0
 .cases hi with
  |none=>rfl
  |some v=>exact Vn v n n
theorem WH(i j:Nat):z7s (i:Int) (j:Int) 1=j-i:=by
 unfold z7s;have a:(1:Int) > 0:=by lia
 simp only[a,if_true,zbc];split<;>lia
theorem yJ(p:z9_ v o)(h:Q o s):z5V (z5X prog w) A (zbS v) Q E s:=by
 cases p with
 |none=>exact slicePart_none h
 |int i t=>exact slicePart_int h
theorem sliceApplied_gen{lo hi:Option Int}{n:Nat}(hs:s.heap.IsSliceOf u vl j .none)(pl:z9_ vl lo)(c:z9_ j hi)
  (h:Q (((sIx n 0 lo:Nat):Int),1,sIx n n hi-sIx n 0 lo) s):z5V (z5X prog w) A (z9p (.ref u) (pure (n:Int))) Q E s:=by
 obtain⟨os,a,d,b⟩:=id hs;unfold z9p zcw;refine z5D (z5D (z7n a b (x:=vl) rfl (z5D (z7n a b (x:=j) rfl (z5D (z7n a b (x:=.none) rfl (z5Q ?_)))))));refine z5D (slicePart_none ?_);show z5V _ _ (if ((1:Int)==0)=true then _ else _) _ _ s;rw[if_neg dC];refine z5D (yJ pl (z5D (yJ c (z5D (z5Q ?_)))));show z5V _ _ (match z8q lo hi 1 (n:Int) with|(lo,hi)=>pure (lo,(1:Int),z7s lo hi 1)) _ _ s;rw[Wu lo hi n];show z5V _ _ (pure (((sIx n 0 lo:Nat):Int),(1:Int),z7s ((sIx n 0 lo:Nat):Int) ((sIx n n hi:Nat):Int) 1)) _ _ s;rw[WH];exact z5Q h
theorem KO(xs:Array Value)(i k:Nat):((z6V k).filterMap λ(m:Nat)=>xs[((i:Int)+(m:Int)*1).toNat]?).toArray=((xs.toList.drop i).take k).toArray:=by
 have e:(λ(m:Nat)=>xs[((i:Int)+(m:Int)*1).toNat]?)=λm=>xs[i+m]?:=by
  funext m;have:((i:Int)+(m:Int)*1).toNat=i+m:=by lia
  rw[this]
 rw[e];have:=pick_run xs i k;rw[List.filterMap_map] at this;have a:((λx=>xs[x]?) ∘ λx=>i+x)=λm=>xs[i+m]?:=rfl;rw[a] at this;rw[this]
theorem getItem_tuple_cut{lo:Option Int}(ht:IsTup s.heap t items)(hs:s.heap.IsSliceOf j vl u .none)(pl:z9_ vl lo)(f:z9_ u hi)
  (hw:¬(sIx items.size 0 lo=0/\sIx items.size items.size hi=items.size))
  (h:Q (.ref s.heap.objs.size) {s with heap:=s.heap.push {cls:=.type "tuple",data:=.seq ((items.toList.drop (sIx items.size 0 lo)).take (sIx items.size items.size hi-sIx items.size 0 lo)).toArray}})
  (g:items.size<=sizeLine):z5V (z5X prog w) A (z9f (.ref t) (.ref j)) Q E s:=by
 have a:sizeOk (.seq ((items.toList.drop (sIx items.size 0 lo)).take (sIx items.size items.size hi-sIx items.size 0 lo)).toArray):=by
  show ((items.toList.drop (sIx items.size 0 lo)).take (sIx items.size items.size hi-sIx items.size 0 lo)).toArray.size<=sizeLine;rw[z63,z6B,z8V,z7k];omega
 have n:sIx items.size items.size hi<=items.size:=z1C _ _ (z5K _) hi;obtain⟨os,b,d,i⟩:=id hs;have e:s.TypeIs (.ref j) "slice":=⟨os,b,d⟩;unfold z9f;try with_reducible refine z6p ?_
 first|refine z5D (z5Q ?_)|skip
 refine z5D (zbd ht.typeIs dC ?_)
 refine z5D (z9L (name:=z8m "__getitem__") ht.typeIs z73
  (zbF z73 ht.typeIs zaI ?_ (zaU _ _)))
 show z5V _ _ (z9q (.ref t) >>= _) _ _ s;refine z5D (tupleItemsOf_ ht ?_);refine z5D (z8K e ?_);rw[if_pos dC];refine z5D (sliceApplied_gen hs pl f ?_);have c:¬((((sIx items.size 0 lo:Nat):Int)==0&&(1:Int)==1&&(sIx items.size items.size hi-sIx items.size 0 lo)==items.size)=true):=by
  intro q;rw[z5P,z5P] at q;have l:=eq_of_beq q.1.1;have k:=eq_of_beq q.2;exact hw ⟨by omega,by omega⟩
 show z5V _ _ (if (((sIx items.size 0 lo:Nat):Int)==0&&(1:Int)==1&&(sIx items.size items.size hi-sIx items.size 0 lo)==items.size)=true then _ else _) _ _ s;rw[if_neg c,KO]
 first
  |exact z5D (m:=z7M _) (z7e (z5Q ⟨_,rfl,z5Q h⟩) a)
  |exact z5D (m:=z7M _) (z7e (z5D (z5Q (z5Q ⟨_,rfl,z5Q h⟩))) a)
  |exact z5D (z5D (m:=z7M _) (z7e (z5Q (z5Q ⟨_,rfl,z5Q h⟩)) a))
  |exact z5D (z5D (m:=z7M _) (z7e (z5Q ⟨_,rfl,z5Q h⟩) a))
end
end HT
namespace L2
open PySem PySem.Spec PyProof.Rows
noncomputable abbrev TO:=St->Hp->(Option Int->Hp->Prop)->Prop
noncomputable def PO (X:Cx)(e:Option Expr)(t:TO):Prop:=
 ∀(a:List (Addr×Obj)) (s:z5W) (b:St) (H:Hp) (Q:Option Int->Hp->Prop),Inv X a b H s->t b H Q->
  z5V (z5X X.prog X.w) X.A (evalPart e X.env) (λu d=>∃o c,Inv X a b c d/\z9_ u o/\Q o c) X.xe s
noncomputable def Yo:TO:=λ_ H Q=>Q none H
noncomputable def z3X(t:TE):TO:=λa H Q=>t a H λx b=>∃i,x=.int i/\Q (some i) b
theorem intsAre_of:∀{a:List Value},Vals (ns.map V.int) a->z7z a ns:=by
 induction ns with
 |nil=>intro a r;rw[za0] at r;cases r;exact .nil
 |cons n ns d=>
  intro a r;rw[z6c] at r;cases r with
  |cons c b=>
   obtain⟨t,e⟩:=c;subst e;exact .cons n t (d b)
section
variable {X:Cx}{e:Expr}{te:TE}{lo hi:Option Expr}{tl th:TO}{pos p2:Pos}
theorem UH:PO X none Yo:=by
 intro a s b H Q I h;rw[evalPart_none];exact z5Q ⟨none,H,I,.none,h⟩
theorem UT(h:PE X e te):PO X (some e) (z3X te):=by
 intro a s b H Q I hw;rw[evalPart_some];refine thn (h a s b H _ I hw) λu j ⟨x,g,f,c,d⟩=>?_;obtain⟨i,rfl,q⟩:=d;obtain⟨t,rfl⟩:=c;exact⟨some i,g,f,.int i t,q⟩
noncomputable def SlR (X:Cx)(r:V->Option Int->Option Int->Hp->VK->Prop):Prop:=
 ∀(a:List (Addr×Obj)) (s:z5W) (b:St) (H:Hp) (x:V) (v vl c:Value) (lo hi:Option Int) (d:Addr) (Q:VK),Inv X a b H s->RelV x v->s.heap.IsSliceOf d vl c .none->z9_ vl lo->z9_ c hi->r x lo hi H Q->
  ∃T id,zca (.type T) "__getitem__"=pure (some (.builtin id))/\s.TypeIs v T/\z5V (z5X X.prog X.w) X.A (z9f v (.ref d)) (EP X a b Q) X.xe s
theorem SlR.or(h:SlR X r)(h':SlR X j):SlR X (λx lo hi H Q=>r x lo hi H Q\/j x lo hi H Q):=by
 intro a s b H x v vl c lo hi d Q I e hs pl f q;rcases q with q|q
 .exact h a s b H x v vl c lo hi d Q I e hs pl f q
 .exact h' a s b H x v vl c lo hi d Q I e hs pl f q
noncomputable def tSl (r:V->Option Int->Option Int->Hp->VK->Prop)(te:TE)(tl th:TO):TE:=λa H Q=>te a H λx d=>tl a d λl c=>th a c λu b=>r x l u b Q
theorem Xm(B:SlR X r)(he:PE X e te)(C:PO X lo tl)(y:PO X hi th):PE X (.Subscript e (.Slice lo hi none p2) pos) (tSl r te tl th):=by
 intro a s d H Q I h;refine zcb (thn (he a s d H _ I h) λv j ⟨x,L,J,k,o⟩=>?_);refine wpAny_Slice (thn (C a j d L _ J o) λvl i ⟨l,K,G,t,n⟩=>thn (y a i d K _ G n) λf c ⟨u,g,F,p,m⟩=>?_);rw[evalPart_none];refine z5Q ?_;have E:Inv X a d g {c with heap:=c.heap.push {cls:=.type "slice",data:=.fields #[vl,f,.none]}}:=F.kept (t':=c.toks) λb ob q=>z5I _ q;obtain⟨T,id,D,z,hg⟩:=B a {c with heap:=c.heap.push {cls:=.type "slice",data:=.fields #[vl,f,.none]}} d g x v vl f l u c.heap.objs.size Q E k (zdi ..) t p m;show z5V (z5X X.prog X.w) X.A (subscriptTail e (.Slice lo hi none p2) v (.ref c.heap.objs.size)) (EP X a d Q) X.xe {c with heap:=c.heap.push {cls:=.type "slice",data:=.fields #[vl,f,.none]}};exact tail_any (ops:=[.ref c.heap.objs.size,v]) z D hg (by with_unfolding_all rfl)
noncomputable def ur (xs:List V)(lo hi:Option Int):List V:=(xs.drop (HT.sIx xs.length 0 lo)).take (HT.sIx xs.length xs.length hi-HT.sIx xs.length 0 lo)
theorem kN(xs:List V)(lo hi:Option Int):(ur xs lo hi).length<=xs.length:=by
 unfold ur;rw[z6B,z8V];lia
noncomputable def z4s (K:z5M):V->Option Int->Option Int->Hp->VK->Prop:=λx lo hi H Q=>∃a xs,x=.ref a/\SqT K H a xs/\
 ¬(HT.sIx xs.length 0 lo=0/\HT.sIx xs.length xs.length hi=xs.length)/\∀p,H p=none->Q (.ref p) (upd H p (.t (ur xs lo hi)))
theorem z0P:SlR X (z4s X.K):=by
 intro f s n H x v vl p lo e t Q I j hs l k h;obtain⟨a,xs,rfl,m,hw,q⟩:=h;subst j;obtain⟨d,r,i,g⟩:=I.tuple m;have c:d.toArray.size=xs.length:=z63▸r.length.symm;refine⟨"tuple",_,z73.lookup,i.typeIs,?_⟩;refine HT.getItem_tuple_cut i hs l k (c▸hw) ?_ (c▸g);rw[c];refine⟨.ref s.heap.objs.size,_,I.laid (t':=s.toks) (o:=.t (ur xs lo e)) (λb ob q=>z5I _ q) (z5K _) ?_,rfl,q _ (I.hok.fresh (z5K _))⟩;exact⟨z66 (kN xs lo e) g,_,(r.drop (HT.sIx xs.length 0 lo)).take (HT.sIx xs.length xs.length e-HT.sIx xs.length 0 lo),IsTup.new _ _⟩
noncomputable def z4I (K:z5M):R2:=λx y H Q=>∃a b c d,x=.ref a/\y=.ref b/\SqT K H a (c.map V.int)/\SqT K H b (d.map V.int)/\Q (.bl (HT.lexLt c d)) H
theorem z1v(r:X.A.units<cLine):OpR X (z6I .Lt) (z4I X.K):=by
 intro c s z H x y v u Q I f e h;obtain⟨a,b,l,m,rfl,rfl,w,t,q⟩:=h;subst f;subst e;obtain⟨n,i,k,_⟩:=I.tuple w;obtain⟨d,g,j,_⟩:=I.tuple t;have p:=intsAre_of i;have o:=intsAre_of g;exact HT.lt_tupInts k j p o r ⟨.bl (HT.lexLt l m),H,I,rfl,q⟩
end
noncomputable def ixN(n:Nat)(i:Int):Option Nat:=if 0<=i then (if i<n then some i.toNat else none) else if -(n:Int)<=i then some (i+n).toNat else none
noncomputable def atI {α:Type}(xs:List α)(i:Int):Option α:=(ixN xs.length i).bind λj=>xs[j]?
theorem YO(h:ixN n i=some j):seqIndex? i n=some j/\j<n /\ -(n:Int)<=i/\i<n:=by
 unfold ixN at h;by_cases b:0<=i
 .rw[if_pos b] at h;by_cases a:i<n
  .rw[if_pos a] at h;have e:=z5J h;exact⟨by rw[seqIndex_of b a,e],by lia,by lia,a⟩
  .rw[if_neg a] at h;exact z7 h
 .rw[if_neg b] at h;by_cases a:-(n:Int)<=i
  .rw[if_pos a] at h;have e:=z5J h;exact⟨by rw[seqIndex_neg (by lia) a,e],by lia,a,by lia⟩
  .rw[if_neg a] at h;exact z7 h
theorem Zp{xs:List α}(h:atI xs i=some v):∃j,seqIndex? i xs.length=some j/\xs[j]?=some v/\j<xs.length /\ -(xs.length:Int)<=i/\i<xs.length:=by
 unfold atI at h;cases e:ixN xs.length i with
 |none=>rw[e] at h;exact z7 h
 |some j=>
  rw[e] at h;obtain⟨d,c,b,a⟩:=YO e;exact⟨j,d,h,c,b,a⟩
noncomputable def Up(b:Expr):Prop:=∀o i,zau b false o i=operate [o,i] (z9f o i)
noncomputable def IxR (X:Cx)(r:R2):Prop:=
 ∀(c a:Expr) (b:List (Addr×Obj)) (s:z5W) (d:St) (H:Hp) (x y:V) (v u:Value) (Q:VK),Inv X b d H s->RelV x v->RelV y u->r x y H Q->
  zau a false v u=operate [v,u] (z9f v u)->z5V (z5X X.prog X.w) X.A (subscriptTail c a v u) (EP X b d Q) X.xe s
noncomputable def MtR (X:Cx)(id:String)(r:V->List V->Hp->VK->Prop):Prop:=
 ∀(a:List (Addr×Obj)) (s:z5W) (b:St) (H:Hp) (x:V) (xs:List V) (v:Value) (c:List Value) (Q:VK),Inv X a b H s->RelV x v->Vals xs c->r x xs H Q->
  z5V (z5X X.prog X.w) X.A (call (.builtin id) (v::c)) (EP X a b Q) X.xe s
section
variable {X:Cx}{a b:Expr}
noncomputable def z4w (K:z5M):R2:=λx y H Q=>∃p xs i v,x=.ref p/\y=.int i/\SqL K H p xs/\atI xs i=some v/\Q v H
noncomputable def z5g (K:z5M):R2:=λx y H Q=>∃p xs i v,x=.ref p/\y=.int i/\SqT K H p xs/\atI xs i=some v/\Q v H
noncomputable def z4R:R2:=λx y H Q=>∃z i c,x=.str z/\y=.int i/\z.length<=sizeLine/\atI z.cps.toList i=some c/\Q (.str ⟨#[c]⟩) H
theorem Vr:IxR X (z4w X.K):=by
 intro c d a s l H x y v u Q I B A h hs;obtain⟨p,xs,i,z,rfl,rfl,C,E,q⟩:=h;subst B;obtain⟨t,rfl⟩:=A;obtain⟨g,r,f,L⟩:=I.list C;obtain⟨j,b,J,N,G,F⟩:=Zp E;obtain⟨w,n,e⟩:=r.get J;have D:=r.length;have M:=xN;have fin:EP X a l Q w s:=⟨z,H,I,e,q⟩;by_cases m:0<=i
 .have k:i.toNat=j:=by
   rw[seqIndex_of m F] at b;exact z5J b
  exact item_listR f.isList m (by lia) (by rw[k];simpa using n) fin hs
 .have k:(i+(g.toArray.size:Int)).toNat=j:=by
   rw[seqIndex_neg (by lia) G] at b;rw[z63,<-D];exact z5J b
  exact za1 (x:=w) f.isList.typeIs zbe.lookup
   (wpAny_getItem_list_neg (Q:=λr o=>r=w/\EP X a l Q r o) f.isList (by lia) (by rw[z63]<;>lia) (by lia) (by rw[k];simpa using n) ⟨rfl,fin⟩) hs
theorem z1e:IxR X (z5g X.K):=by
 intro b c a s e H x y v u Q I l k h hs;obtain⟨p,xs,i,z,rfl,rfl,n,A,q⟩:=h;subst l;obtain⟨t,rfl⟩:=k;obtain⟨m,r,f,E⟩:=I.tuple n;obtain⟨j,C,B,L,J,G⟩:=Zp A;obtain⟨w,D,d⟩:=r.get B;have o:=r.length;have F:=xN;have fin:EP X a e Q w s:=⟨z,H,I,d,q⟩
 exact za1 (x:=w) f.typeIs z73.lookup
  (getItem_tuple (j:=j) (Q:=λr g=>r=w/\EP X a e Q r g) f (by lia) (by lia) (z63▸o▸C) (by simpa using D) ⟨rfl,fin⟩) hs
theorem z1X:IxR X z4R:=by
 intro a b d s w H x y v u Q I g f h hs;obtain⟨z,i,c,rfl,rfl,B,l,q⟩:=h;obtain⟨t,rfl⟩:=g;obtain⟨A,rfl⟩:=f;obtain⟨j,e,o,D,n,m⟩:=Zp l;have k:z.cps.toList.length=z.length:=by simp[zcc]
 rw[k] at e n m;have C:=xN;exact tail_any (typeIs_str s z t) slot_str_getitem.lookup (getItem_str (c:=c) (by
  have r:decide (i < -(2 ^ 63:Int))=false:=decide_eq_false (by lia);have p:decide (i ≥ 2 ^ 63)=false:=decide_eq_false (by lia);rw[r,p,Bool.or_false]) (by rw[e];simpa using o) ⟨.str ⟨#[c]⟩,H,I.tok _,⟨_,rfl⟩,q⟩) hs
theorem Zg(lo hi:Option Int)(n:Nat):(z8F lo hi none n).1=((HT.sIx n 0 lo:Nat):Int)/\(z8F lo hi none n).2.1=((HT.sIx n n hi:Nat):Int)/\(z8F lo hi none n).2.2=1:=by
 refine⟨?_,?_,rfl⟩
 .cases lo with
  |none=>simp[z8F,HT.sIx]
  |some i=>
   simp only[z8F,HT.sIx,zbG,show (1:Int) > 0 by decide,if_true];by_cases h:i<0
   .simp only[h,if_true]<;>lia
   .simp only[h,if_false]<;>lia
 .cases hi with
  |none=>simp[z8F,HT.sIx]
  |some i=>
   simp only[z8F,HT.sIx,zbG,show (1:Int) > 0 by decide,if_true];by_cases h:i<0
   .simp only[h,if_true]<;>lia
   .simp only[h,if_false]<;>lia
theorem uh(a:List Value)(lo hi:Option Int):slicePick a.toArray lo hi none=((a.drop (HT.sIx a.length 0 lo)).take (HT.sIx a.length a.length hi-HT.sIx a.length 0 lo)).toArray:=by
 obtain⟨d,c,b⟩:=Zg lo hi a.toArray.size;unfold slicePick;rw[d,c,b];simp only[sliceRange_one,pick_run,z63]<;>rfl
noncomputable def z5s (K:z5M):V->Option Int->Option Int->Hp->VK->Prop:=λx lo b H Q=>∃a xs,x=.ref a/\SqL K H a xs/\∀p,H p=none->Q (.ref p) (upd H p (.l (ur xs lo b)))
theorem Ue:SlR X (z5s X.K):=by
 intro e s n H x v vl p lo d t Q I g hs j i h;obtain⟨a,xs,rfl,m,q⟩:=h;subst g;obtain⟨k,r,f,l⟩:=I.list m;have c:=r.length;refine⟨"list",_,zbe.lookup,f.isList.typeIs,?_⟩;refine wpAny_getItem_list_slice f.isList hs j i .none sC ?_ (by rw[z63]<;>lia);rw[uh,<-c];refine⟨.ref s.heap.objs.size,_,I.laid (t':=s.toks) (o:=.l (ur xs lo d)) (λb ob q=>z5I _ q) (z5K _) ?_,rfl,q _ (I.hok.fresh (z5K _))⟩;exact⟨z66 (kN xs lo d) l,_,0,(r.drop (HT.sIx xs.length 0 lo)).take (HT.sIx xs.length xs.length d-HT.sIx xs.length 0 lo),z6a _ rfl⟩
theorem vf:Ye X (.builtin "len") (λxs H Q=>∃p j,xs=[.ref p]/\(SqL X.K H p j\/SqT X.K H p j)/\Q (.int j.length) H):=by
 intro f s k H xs l Q I r h;obtain⟨p,j,rfl,b,q⟩:=h;obtain⟨u,rfl,g⟩:=vals1 r;subst g;have m:=xN;rcases b with b|b
 .obtain⟨e,c,d,i⟩:=I.list b;have a:=c.length;exact Calls.call_len_list d.isList (by simp only[z63]<;>lia) ⟨.int j.length,H,I.tok _,⟨s.toks+1,by rw[z63,a]⟩,q⟩
 .obtain⟨e,c,d,i⟩:=I.tuple b;have a:=c.length;exact len_tuple d (by simp only[z63]<;>lia) ⟨.int j.length,H,I.tok _,⟨s.toks+1,by rw[z63,a]⟩,q⟩
theorem Zm:Ye X (.builtin "len") (λxs H Q=>∃z,xs=[.str z]/\z.length<=sizeLine/\Q (.int z.length) H):=by
 intro a s b H xs c Q I r h;obtain⟨z,rfl,d,q⟩:=h;obtain⟨u,rfl,t,rfl⟩:=vals1 r;have e:=xN;exact len_str (by lia) ⟨.int z.length,H,I.tok _,⟨_,rfl⟩,q⟩
theorem vr:Ye X (.type "list") (λxs H Q=>∃p j,xs=[.ref p]/\(SqL X.K H p j\/SqT X.K H p j)/\∀l,H l=none->Q (.ref l) (upd H l (.l j))):=by
 intro g s A H xs C Q I r h;obtain⟨p,j,rfl,m,q⟩:=h;obtain⟨u,rfl,B⟩:=vals1 r;subst B
 have fin:∀(a:List Value),Vals j a->j.length<=sizeLine->∀(c:Heap) (f:Nat),(∀b z,s.heap.get? b=some z->c.get? b=some z)->
   c.get? s.heap.objs.size=some {cls:=.type "list",dict:=none,data:=.seq a.toArray f,slots:=#[]}->EP X g A Q (.ref s.heap.objs.size) {s with heap:=c}:=λa d k c f i e=>
  ⟨.ref s.heap.objs.size,_,I.laid (t':=s.toks) i (z5K _) (show ObjOk X.prog X.w _ c _ (.l j) from ⟨k,a,f,d,e⟩),rfl,q _ (I.hok.fresh (z5K _))⟩
 rcases m with m|m
 .obtain⟨a,d,v,k⟩:=I.list m;have t:=d.length;obtain⟨o,x,y,n,hd⟩:=v.isList;exact call_list_seq p (.inl rfl) x y hd (λc f i e=>fin a d k c f i e) (by simp only[z63]<;>lia)
 .obtain⟨a,d,v,k⟩:=I.tuple m;have t:=d.length;obtain⟨o,x,y,n,hd⟩:=v;exact call_list_seq p (.inr rfl) x y hd (λc f i e=>fin a d k c f i e) (by simp only[z63]<;>lia)
noncomputable def tyV (K:z5M)(T:String)(x:V)(H:Hp):Prop:=match x with
 |.str _=>T="str"
 |.int _=>T="int"
 |.ref p=>(T="list"/\∃xs,SqL K H p xs)\/(T="tuple"/\∃o,K.lookup p=some o/\o.cls=.type "tuple"/\o.dict=none)\/
   (T="dict"/\((∃a,H p=some (.dK a))\/∃b a,H p=some (.dE b a)))\/(T="set"/\∃S n,H p=some (.set S n))
 |_=>False
theorem z1c{h:St}{H:Hp}{x:V}(I:Inv X j h H s)(r:RelV x v)(ty:tyV X.K T x H) :
  s.TypeIs v T/\∀a,v=.ref a->∃ob,s.heap.get? a=some ob/\ob.dict=none:=by
 cases x with
 |str z=>
  obtain⟨t,rfl⟩:=r;cases (show T="str" from ty);exact⟨typeIs_str s z t,λ_ e=>nomatch e⟩
 |int i=>
  obtain⟨t,rfl⟩:=r;cases (show T="int" from ty);exact⟨typeIs_int s i t,λ_ e=>nomatch e⟩
 |ref p=>
  subst r;rcases ty with⟨rfl,xs,l⟩|⟨rfl,o,b,m,hd⟩|⟨rfl,b⟩|⟨rfl,S,n,b⟩
  .obtain⟨k,_,g,_⟩:=I.list l;refine⟨g.isList.typeIs,λa e=>?_⟩;(injection e with e;subst e);obtain⟨o,n,e,c,hd,_⟩:=g;exact⟨o,e,hd⟩
  .refine⟨⟨o,I.kIn p o b,m⟩,λa e=>?_⟩;(injection e with e;subst e);exact⟨o,I.kIn _ o b,hd⟩
  .have z:∃o,s.heap.get? p=some o/\o.ExactDict:=by
    rcases b with⟨f,b⟩|⟨q,f,b⟩
    .obtain⟨_,_,_,_,o,_,_,e,ex,_⟩:=I.hok p _ b;exact⟨o,e,ex⟩
    .obtain⟨_,_,_,_,o,_,e,ex,_⟩:=I.hok p _ b;exact⟨o,e,ex⟩
   obtain⟨o,e,ex⟩:=z;refine⟨⟨o,e,ex.1⟩,λa d=>?_⟩;(injection d with d;subst d);exact⟨o,e,ex.2.1⟩
  .obtain⟨o,_,_,_,e,ex,_⟩:=I.hok p _ b;refine⟨⟨o,e,ex.1⟩,λa d=>?_⟩;(injection d with d;subst d);exact⟨o,e,ex.2.1⟩
 |_=>exact z6s ty
noncomputable def tBM (K:z5M)(T:String)(r:V->List V->Hp->VK->Prop)(c:TE)(t:TA):TE:=λa H Q=>c a H λx b=>tyV K T x b/\t a b λxs d=>r x xs d Q
variable {o e:Expr}{es:List Expr}{to:TE}{t:TA}{name:Str}{apos cpos:Pos}{T id:String}{r:V->List V->Hp->VK->Prop}
theorem z01 (pa:PlainAttrs T) (slot:Slot T name id) (i:typeOf (.builtin id)=pure (.type "method_descriptor")) (hm:MtR X id r) (ho:PE X o to) (z:PA X (e::es) t)
  (d:z83 o name X.env (eval o X.env)=eval o X.env:=by rfl)
  (f:((z8e cpos (z6H (e::es) X.env)).all (λx=>!x.1)&&(z90 cpos (z7Z [] X.env)).all (λx=>x.1.isSome)
   &&decide ((e::es).length+([]:List za2).length+(if ([]:List za2).isEmpty then 0 else 1)<30))=true:=by rfl)
  (c:(apos.endLine==cpos.line)=true:=by rfl) (hs:z6H (e::es) X.env=(false,eval e X.env)::z6H es X.env:=by rfl) (b:(z8e cpos (z6H es X.env)).any (·.1)=false:=by rfl) :
  PE X (.Call (.Attribute o name apos) (e::es) [] cpos) (tBM X.K T r to t):=by
 intro a s g H Q I h;refine wpAny_Call_method_late d f c rfl (thn (ho a s g H _ I h) λv q ⟨x,E,l,j,ty,y⟩=>?_);obtain⟨B,A⟩:=z1c l j ty;refine⟨T,id,pa,slot,i,B,A,?_⟩;have k:=z cpos a q g E _ l y;rw[hs] at k ⊢;refine z8L (by show (false || (z8e cpos (z6H es X.env)).any (·.1))=false;rw[b]<;>rfl) (z7A ?_);exact thn k λn p ⟨m,D,C,u,w⟩=>hm a p g D x m v n Q C j u w
end
noncomputable def MtM (X:Cx)(id:String)(r:V->List V->Hp->VK->Prop):Prop:=
 ∀(a:List (Addr×Obj)) (s:z5W) (b:St) (H:Hp) (x:V) (xs:List V) (v:Value) (c:List Value) (Q:VK),Inv X a b H s->RelV x v->Vals xs c->r x xs H Q->
  z5V (z5X X.prog X.w) X.A (call (.builtin id) (v::c)) (EP X a b Q) X.xe s
theorem Vals.one:∀{x:V} {a:List Value},Vals [x] a->∃u,a=[u]/\RelV x u
 |_,_,.cons r .nil=>⟨_,rfl,r⟩
section
variable {X:Cx}{pins:List (Addr×Obj)}{σ:St}{H:Hp}{s:Shared}{l:Addr}{xs ys:List V}
theorem Inv.lset{a:List Value}(I:Inv X pins σ H s)(h:H l=some (.l xs))
  (e:s.heap.get? l=some {cls:=.type "list",data:=.seq a.toArray n}) (hf:f a.toArray=its'.toArray) (c:Vals ys its') (b:ys.length<=sizeLine) :
  Inv X pins σ (upd H l (.l ys)) {s with heap:=s.heap.update l (z6C f),toks:=t'}:=by
 have q:=PySem.IsL.update e f;rw[hf] at q;refine I.write (x:=l) (e:=l) (h▸trivial) (.inl rfl) (λi u g d=>(z6Z s.heap (z6C f) (z6f g)).trans d) ⟨_,q⟩ ?_;exact⟨b,its',_,c,q⟩
theorem Inv.lnew(I:Inv X pins σ H s)(b:Vals ys j)(a:ys.length<=sizeLine) :
  Inv X pins σ (upd H s.heap.objs.size (.l ys)) {s with heap:=s.heap.push {cls:=.type "list",data:=.seq j.toArray},toks:=t'}:=
 I.laid (λ_ _ q=>z5I _ q) (z5K _) ⟨a,j,0,b,z6a _ rfl⟩
theorem Inv.fresh(I:Inv X pins σ H s):H s.heap.objs.size=none:=I.hok.fresh (z5K _)
theorem Inv.lstM(I:Inv X pins σ H s)(b:H l=some (.l xs)):xs.length<=sizeLine/\∃(a:List Value) (n:Nat),Vals xs a/\xs.length=a.length/\s.heap.get? l=some {cls:=.type "list",data:=.seq a.toArray n}:=by
 obtain⟨z,a,n,r,e⟩:=I.hok l _ b;exact⟨z,a,n,r,r.length,e⟩
theorem XO(h:n<=sizeLine):z8w n=false:=by
 unfold z8w;exact decide_eq_false (by lia)
end
section
variable {X:Cx}
noncomputable def YU:V->List V->Hp->VK->Prop:=λx a H Q=>∃l xs y,x=.ref l/\a=[y]/\H l=some (.l xs)/\xs.length<sizeLine/\Q .n (upd H l (.l (xs++[y])))
theorem uI:MtM X "list.append" YU:=by
 intro b s i H x j v k Q I d f h;obtain⟨l,xs,y,rfl,rfl,c,m,q⟩:=h;subst d;obtain⟨u,rfl,g⟩:=f.one;obtain⟨z,a,n,r,o,e⟩:=I.lstM c;refine zcd F.slot_list_append ⟨_,e,rfl⟩ F.entry_list_append (F.args_list_append_2 _ _) (PySem.list_append l a.toArray n u (by rw[z63];lia)) ⟨e,?_⟩;refine⟨.n,_,I.lset (its':=a++[u]) c e sC (r.append (.cons g .nil)) ?_,rfl,q⟩;rw[z6k,List.length_singleton];lia
end
end L2
namespace Att
open PySem PySem.W PySem.Calls PyProof.Rows
theorem xv{P:Params}:∀(ns:List Int) (vs:List Value),WellAll P h vs (ns.map zdp)->z7z vs ns:=by
 intro ns;induction ns with
 |nil=>
  intro vs w;rw[za0] at w;cases w;exact .nil
 |cons n ns c=>
  intro vs w;rw[z6c] at w;cases w with
  |cons a b=>
   cases a;exact .cons _ _ (c _ b)
theorem JK{l:zd0}(u:l.most=some n){P:Params}{args:List WData} 
  (b:l.row.toRowW.claim.pre args=true) (i:WellAll P h j args) :
  ∃a vs ns,j=[z6u a]/\args=[WData.list (ns.map zdp)]/\h.get? a=some {cls:=.type "list",data:=.seq vs.toArray}/\z7z vs ns/\ns.length<=n:=by
 have k:=(pre_splitW b).1;have m:l.pre.holds [] {args:=args}=true:=(pre_splitW b).2;obtain⟨d,r,rfl,x,w⟩:=hasAllW_cons k;obtain rfl:=hasAllW_nil w;obtain⟨xs,rfl,v⟩:=hasW_list x;obtain⟨ns,rfl⟩:=items_int v;have c:ns.length<=n:=by
  unfold OpenLaw.pre at m;have g:(WTm.not (.lt (.lit (.int (n:Int))) (.len (.arg 0)))).holds [] {args:=[.list (ns.map .int)]}=true:=by
   have g:=(holds_andW m).1;rw[u] at g;exact g
  have f:=condW_of g (w_not (w_lt w_lit (w_len_list (w_arg rfl))));rw[z5H] at f;refine Nat.le_of_not_lt λq=>?_;have s:(n:Int)<((ns.length:Nat):Int):=by omega
  first
   |(rw[decide_eq_true s] at f;exact absurd f dC)
   |(simp at f;omega)
 cases i with
 |cons p o=>
  cases o;cases p with
  |list t e=>exact⟨_,_,ns,rfl,rfl,t,xv ns _ e,c⟩
theorem Jm(l:zd0)(args:List WData):l.row.toRowW.claim.post args (.bool true) args=true:=
 postW_of (r:=l.row.toRowW) (X:=(true==true))
  (show zdj [] (.bool true) .bool=true by first|rfl|decide|simp[zdj,WShape.arms,WShape.armsAll])
  (show (WTm.eq .res (.lit (.bool true))).value [] {args:=args,res:=some (.bool true),after:=args}=some (.bool (true==true)) from w_eq_bool (w_res rfl) w_lit) rfl
theorem attach_call{l:zd0}{n:Nat}{d:DefRec}
  (D:l.most=some n) (u:d.params.defaults=[])
  (call:∀(w:z81) (s₀ b:z5W) (mg mb:Str->Option Value) (k:Addr) (o:Obj) (m cd e:Value) (a:Addr) (vs:List Value) (ns:List Int),
   Ground q j [] XP w s₀ mg mb b.heap->M w b.heap->
   b.heap.get? k=some o->o.data=.func (docDef d.name d.params d.body d.scope m cd e)->b.heap.CodeRec cd d.name->mg d.name=some (.ref k)->
   b.heap.get? a=some {cls:=.type "list",data:=.seq vs.toArray}->z7z vs ns->ns.length<=n->b.gens=#[]->
   z8B (z5X l.prog w) zc1 (.call (.ref k) ⟨[.ref a],[]⟩) (λr s=>r=.ok (.ret (.bool true))/\OldK b.heap s.heap/\s.os=b.os/\z9z s.gens) b) :
  WalkO q j XP M l.row.toRowW d [] (λf vs=>zdk f vs):=by
 intro w s₀ b mg mb G Y k o m cd e K kV C hd v z t hg args x L g y A p F;obtain rfl:K=.none:=Dflts.none z u;obtain rfl:kV=.none:=Dflts.noKw z;obtain⟨a,vs,ns,rfl,rfl,h,c,i⟩:=JK D g p;refine enter_call (z7B (call w s₀ b mg mb k o m cd e a vs ns G Y C (fd_plain hd) v t h c i hg) λr s B=>?_);obtain⟨rfl,J,I,H⟩:=B;exact⟨.inl ⟨.bool true,.bool true,[],rfl,λ_=>rfl,.bool true,Jm l _,λ_=>⟨z6_,λ_ E=>(nomatch E)⟩⟩,J,I,H⟩
section
noncomputable def ledger(h:Heap)(L d:Addr):List (Addr×Obj):=(z6V h.objs.size).filterMap λa=>if a=L\/a=d then none else (h.get? a).map λo=>(a,o)
end
end Att
namespace L2
open PySem PySem.Spec PyProof.Rows
theorem vals_ints:∀{vs:List Value} {ns:List Int},z7z vs ns->Vals (ns.map V.int) vs
 |_,_,.nil=>.nil
 |_,_,.cons n t h=>.cons ⟨t,rfl⟩ (vals_ints h)
noncomputable abbrev KOf{K:z5M}{h:Heap}(_:K.In h):z5M:=K
noncomputable def inClass(s:Stmt)(j:Nat):Stmt:=match s with
 |.ClassDef _ _ _ body _ _ _ _ _ _ _=>body.getD j (.Pass ⟨0,0,0,0⟩)
 |_=>.Pass ⟨0,0,0,0⟩
noncomputable def vk(s:Stmt):Arguments:=match s with
 |.FunctionDef _ a _ _ _ _ _ _ _ _=>a
 |_=>{posonlyargs:=[],args:=[],vararg:=none,kwonlyargs:=[],kw_defaults:=[],kwarg:=none,defaults:=[]}
noncomputable def zU(s:Stmt):List Stmt:=match s with
 |.FunctionDef _ _ b _ _ _ _ _ _ _=>b
 |_=>[]
noncomputable def qC(s:Stmt):Scope:=match s with
 |.FunctionDef _ _ _ _ _ _ a _ _ _=>a
 |_=>{kind:=.function,names:=[],isGenerator:=false,isCoroutine:=false}
noncomputable abbrev E0:XK:=λ_ _ _=>False
structure Fun(K:PySem.W.Frag)(x qual:Str)(st:Stmt)(f:Addr)(fd:FuncData):Prop where
 ex:∃(oc:Value) (od:Option Addr) (kV doc pm:Value) (an:Option Addr) (cdv ct:Value) (osl:Array (Option Value)),
  fd=z6O x qual (vk st) (zU st) (qC st) .none kV doc pm an cdv ct/\K.lookup f=some ⟨oc,od,.func fd,osl⟩/\z7W K cdv qual=true
 kp:z8f K (.ref f)=true
section
variable {K:PySem.W.Frag}
theorem Fun.binds{st:Stmt}(F:Fun K x j st f fd)
  (h:∀(kV a d:Value) (e:Option Addr) (b ct:Value) (c:List Value),c.length=ps.length->zar (z6O x j (vk st) (zU st) (qC st) .none kV a d e b ct) ⟨c,[]⟩=pure (ps.zip c)):Binds K fd ps []:=by
 obtain⟨l,k,kV,a,d,e,b,ct,g,rfl,lk,i⟩:=F.ex;exact .all (h kV a d e b ct)
theorem z1J{st:Stmt}{g e:Option Addr}{kV b d a ct:Value}(l:K.lookup f=some ⟨u,g,.func (z6O x j (vk st) (zU st) (qC st) .none kV b d e a ct),s⟩)
  (c:z7W K a j=true) (k:z8f K (.ref f)=true):Fun K x j st f (z6O x j (vk st) (zU st) (qC st) .none kV b d e a ct):=⟨⟨u,g,kV,b,d,e,a,ct,s,rfl,l,c⟩,k⟩
end
noncomputable def jv (H a:Hp):Prop:=∀b o,H b=some o->a b=some o
end L2
end
namespace NH
open PySem
noncomputable def stC:Value->Value
 |.int i _=>.ref i.toNat
 |v=>v
noncomputable def z4B (h:Heap)(x:Addr)(cls:Value)(d:Option Addr):Prop:=∃c b e,h.get? x=some c/\(c.cls=stC cls/\c.dict=d)/\c.data=.fields b/\b[0]?=some e/\b[1]?=some .none/\∀a,cls=.ref a->b[2]?=some .none
inductive XTr(h:Heap)(x T:Addr)(cls:Value)(d:Option Addr)(fl:Value):Prop where
 |mk (oe:Obj) (vs:Array Value) (a0:Value) (oT:Obj) (ts:Array Value) (h1:h.get? x=some oe) (h2:oe.cls=stC cls/\oe.dict=d) (h3:oe.data=.fields vs) (h4:vs[0]?=some a0) (h5:vs[1]?=some (.ref T)) (h6:T≠x) (h7:h.get? T=some oT) (h8:oT.data=.fields ts) (h9:ts[3]?=some fl) (h10:∀a,cls=.ref a->vs[2]?=some .none)
noncomputable def z3N (h:Heap)(x:Addr)(cls:Value)(d:Option Addr):Option Addr->Value->Prop
 |none,a=>z4B h x cls d/\a=.none
 |some T,a=>XTr h x T cls d a
structure XMove(fs:List Addr)(x:Addr)(T T':Option Addr)(h h':Heap):Prop where
 keep:∀b o,h.get? b=some o->b∉fs->b≠x->b∉T.toList->h'.get? b=some o
 slot:∀b o,h.get? b=some o->b∈fs->b≠x->b∉T.toList->∃sl,h'.get? b=some {o with slots:=sl}
 newT:∀t∈T'.toList,t∈T.toList\/h.objs.size<=t
theorem XMove.refl(fs:List Addr)(x:Addr)(T:Option Addr)(h:Heap):XMove fs x T T h h:=⟨λ_ _ e _ _ _=>e,λ_ o e _ _ _=>⟨o.slots,e⟩,λ_ ht=>.inl ht⟩
theorem yj(o:Obj)(f:Array Value->Array Value):(z7N f o).dict=o.dict:=by
 obtain⟨c,d,a,b⟩:=o;cases a<;>rfl
section
variable {s:Shared}
theorem XQ(a:A.frames=some (e0::outer))(c:s.heap.FunFrames base (e0::outer))
  (hf:env.frame=some L) (h0:e0.frame=some L) (h:∀h',Heap.SlotsOnly ((e0::outer).filterMap (·.frame)) s.heap h'->Q (.ref L) {s with heap:=h'}):z5V M A (frameOf env) Q E s:=by
 refine z5D (wpAny_frameEnvs a ?_);have hw:((e0::outer).dropWhile λy=>y.frame != env.frame)=e0::outer:=by simp[ hf,h0]
 rw[hw];refine z5D (z5D (wpAny_readyFrames_fun c λd b=>z5Q ?_));rw[h0];exact z5Q (h d b)
theorem yF 
  (r:A.frames=some (e0::outer)) (y:s.heap.FunFrames base (e0::outer)) (hf:env.frame=some L) (h0:e0.frame=some L)
  (ho:s.heap.get? x=some w) (hc:w.cls=stC cls/\w.dict=d) (hd:w.data=.fields vs) (q:vs[0]?=some a0) (k:1<vs.size) (p:∀a,cls=.ref a->vs[2]?=some .none)
  (h:∀h' t,XTr h' x t cls d (z6X L)->XMove ((e0::outer).filterMap (·.frame)) x T (some t) s.heap h'->s.heap.objs.size<=t->Q () {s with heap:=h'}) :
  z5V M A (do let a ←frameOf env;let pl ←entryPlaceOf L U;let b ←EntryCells.newEntry u a .none (z6X L) .none pl;setField (.ref x) 1 b) Q E s:=by
 have n:x∉(e0::outer).filterMap (·.frame):=λI=>by
  obtain⟨_,o,f,F⟩:=y.mem I;rw[ho] at f;(replace f:=zm f;subst f);exact F vs hd
 refine z5D (XQ r y hf h0 λi j=>z5D (wpAny_entryPlaceOf λpl l=>z5D (z7e ?_ (l.sizeOk5 _ _ _ _ _))));have B:=(j.2.1 x n).trans ho;generalize m:({cls:=.type "traceback",dict:=none,data:=.fields ([u,.ref L,.none,z6X L,.none]++(if pl.isEmpty then z7U 6 z8T else pl)).toArray}:Obj)=ob;have z:=z5I ob B;have g:ob.isFreed=false:=by rw[<-m];rfl
 refine z9r z hd k ?_;have v:=z7l (z5U B);have C:=zaV hd (·.setIfInBounds 1 (z6u i.objs.size));have K:=z85 (z7N (·.setIfInBounds 1 (z6u i.objs.size))) z (zah C);have c:∀b o,b≠x->i.get? b=some o->((i.push ob).update x (z7N (·.setIfInBounds 1 (z6u i.objs.size)))).get? b=some o:=λb o J e=>by
  rw[z6Z _ _ (z6f J)];exact z5I _ e
 refine h _ i.objs.size ⟨_,_,a0,ob,_,K,⟨(Obj.cls_mapFields _ _).trans hc.1,(yj _ _).trans hc.2⟩,C,by rw[z8R dC];exact q,by simp[k],v,?_,(by rw[<-m]),?_,λa e=>by rw[z8R dC];exact p a e⟩ ⟨λb o e G nx _=>?_,λb o e _ nx _=>?_,λt H=>.inr ?_⟩ (z8l j.1.symm)
 .rw[z6Z _ _ (z6f v)];exact z6a _ g
 .first|(simp;done)|(rcases l with rfl|⟨_,_,_,_,_,_,_,rfl⟩<;>simp)
 .exact c b o nx ((j.2.1 b G).trans e)
 .obtain⟨D,N⟩:=j.2.2 b o e;exact⟨D,c b _ nx N⟩
 .have:t=i.objs.size:=by simpa using H
  rw[this];exact z8l j.1.symm
theorem XY 
  (p:A.frames=some (e0::outer)) (B:s.heap.FunFrames base (e0::outer)) (hf:env.frame=some L) (h0:e0.frame=some L) (I:z3N s.heap x cls d T fl) (C:fl=.none\/fl=z6X L)
  (h:∀h' t,XTr h' x t cls d (z6X L)->XMove ((e0::outer).filterMap (·.frame)) x T (some t) s.heap h'->Q () {s with heap:=h'}):z5V M A (zbH (.ref x) env) Q E s:=by
 unfold zbH;simp only[hf];cases T with
 |none=>
  obtain⟨⟨H,G,N,n,q,hd,l,f,k⟩,_⟩:=I;exact z5D (z7n n hd f (yF p B hf h0 n q hd l (z70.mp f).1 k λh' t a b _=>h h' t a b))
 |some T=>
  obtain⟨H,G,N,P,r,n,q,hd,l,f,K,g,i,F,k⟩:=I;refine z5D (z7n n hd f (z5D (z7n g i F ?_)));by_cases J:fl=z6X L
  .subst J;rw[if_pos sC];exact z5Q (h s.heap T ⟨H,G,N,P,r,n,q,hd,l,f,K,g,i,F,k⟩ (XMove.refl _ _ _ _))
  .obtain rfl:fl=.none:=C.resolve_right J;refine z5D (z9r g i (z70.mp F).1 ?_);have j:∀b,b≠T->(s.heap.update T (z7N (·.setIfInBounds 3 z8T))).get? b=s.heap.get? b:=λb D=>z6Z _ _ (z6f D);have R:∀b∈(e0::outer).filterMap (·.frame),b≠T:=λb D z=>by
    obtain⟨_,o,m,u⟩:=B.mem D;rw[z,g] at m;(replace m:=zm m;subst m);exact u r i
   refine yF (T:=some T) p (B.of_keeps λb o e u=>⟨o,(j b λz=>?_).trans e,rfl⟩) hf h0 ((j x (z6f K)).trans n) q hd l (z70.mp f).1 k λh' t a b c=>h h' t a ⟨?_,?_,?_⟩
   .rw[z,g] at e;(replace e:=zm e;subst e);exact u r i
   .exact λd o e w v n3=>b.keep d o ((j d λz=>n3 (by simp[z])).trans e) w v n3
   .exact λd o e w v n3=>b.slot d o ((j d λz=>n3 (by simp[z])).trans e) w v n3
   .intro O y;rcases b.newT O y with z|z
    .exact .inl z
    .exact .inr (z66 (z8l ((Heap.size_after_update ..).symm)) z)
theorem V3(u:XTr s.heap x T cls d fl)
  (h:∀h',XTr h' x T cls d (fr.elim .none λf=>z6X f)->XMove fs x (some T) (some T) s.heap h'->Q () {s with heap:=h'}):z5V M A (zaH (.ref x) fr) Q E s:=by
 obtain⟨r,q,C,F,D,l,w,hd,k,c,m,g,i,B,j⟩:=u;have sz:=(z70.mp B).1;refine z5D (z7n l hd c (z9r g i sz ?_));have a:∀b,b≠T->(s.heap.update T (z7N (·.setIfInBounds 3 (fr.elim .none λf=>z6X f)))).get? b=s.heap.get? b:=λb y=>z6Z _ _ (z6f y);have p:=zaV i (·.setIfInBounds 3 (fr.elim z8T λf=>z6X f))
 exact h _ ⟨r,q,C,_,_,(a x (z6f m)).trans l,w,hd,k,c,m,z85 _ g (zah p),p,by simp[sz],j⟩
  ⟨λb o e _ _ n=>(a b λz=>n (by simp[z])).trans e,λb o e _ _ n=>⟨o.slots,(a b λz=>n (by simp[z])).trans e⟩,λt v=>.inl v⟩
end
end NH
namespace NH
open PySem PySem.Spec PyProof.Rows L2
noncomputable abbrev St:=L2.St
theorem Je{P:z6t}(x:ObjOk P w H h a o):∃ob,h.get? a=some ob:=by
 cases o with
 |l xs=>obtain⟨_,_,_,_,e⟩:=x;exact⟨_,e⟩
 |t xs=>obtain⟨_,_,_,ob,e,_⟩:=x;exact⟨ob,e⟩
 |dK b=>obtain⟨_,_,_,_,o,_,_,e,_⟩:=x;exact⟨o,e⟩
 |dE i b=>obtain⟨_,_,_,_,o,_,e,_⟩:=x;exact⟨o,e⟩
 |set S n=>obtain⟨o,_,_,_,e,_⟩:=x;exact⟨o,e⟩
 |ins C j fs=>obtain⟨_,_,_,e,_⟩:=x;exact⟨_,e⟩
 |own y=>obtain⟨o,e⟩:=x;exact⟨o,e⟩
 |xd fs=>obtain⟨_,⟨o,_,_,e,_⟩,_⟩:=x;exact⟨o,e⟩
 |rng lo g=>obtain⟨_,_,_,e⟩:=x;exact⟨_,e⟩
 |frz ob u=>obtain⟨e,_⟩:=x;exact⟨_,e⟩
 |tbl d=>exact⟨_,x⟩
 |met f y=>exact⟨_,x⟩
 |ext c=>obtain⟨_,⟨o,e⟩,_⟩:=x;exact⟨o,e⟩
structure XOk(X:Cx)(H:Hp)(b:Addr):Prop where
 free:H b=none
 loc:b≠X.env.locals
 nfs:b∉X.fs
 new:b∈X.ex\/X.s₀.heap.get? b=none
 cel:∀x c,X.env.cells.lookup x=some c->c≠b
 pin:∀p∈X.pn,p.1≠b
section
theorem QJ(I:Inv X j u H s)(e:s.heap.get? b=none):H b=none:=by
 cases q:H b with
 |none=>rfl
 |some o=>
  obtain⟨ob,z⟩:=Je (I.hok b o q);rw[e] at z;exact z7 z
theorem vy(I:Inv X j u H s)(e:s.heap.get? b=none):XOk X H b:=by
 refine⟨QJ I e,λz=>?_,λz=>?_,?_,λx c q z=>?_,λp f z=>?_⟩
 .obtain⟨m,⟨o,_,_,a,_⟩,_⟩:=I.loc;rw[<-z,e] at a;exact z7 a
 .obtain⟨_,o,a,_⟩:=I.funs.mem z;rw[e] at a;exact z7 a
 .by_cases d:b∈X.ex
  .exact .inl d
  .refine .inr ?_;cases q:X.s₀.heap.get? b with
   |none=>rfl
   |some o=>
    obtain⟨g,z⟩:=I.base.there b o q d;rw[e] at z;exact z7 z
 .obtain⟨v,o,a,_⟩:=I.cell x c q;rw[z,e] at a;exact z7 a
 .have:=(I.pin p (z65 _ f)).1;rw[z,e] at this;exact z7 this
theorem yk{ch:List Addr}(I:Inv X j M H s)(a:∀b∈ch,XOk X H b/\∀p∈j,p.1≠b)
  (keep:∀b o,b∉frs X.stack->b∉ch->s.heap.get? b=some o->h'.get? b=some o)
  (slot:∀b o,b∈frs X.stack->b∉ch->s.heap.get? b=some o->∃w,h'.get? b=some {o with slots:=w}) :
  Inv X j M H {s with heap:=h'}:=by
 have G:∀b u,H b=some u->b∉ch:=λb u e z=>by rw[(a b z).1.free] at e;exact z7 e
 have y:∀b u,H b=some u->b∉frs X.stack:=λb u e z=>by rw[I.stkFree b z] at e;exact z7 e
 have any:∀b o,b∉ch->s.heap.get? b=some o->∃w,h'.get? b=some {o with slots:=w}:=λb o t e=>by
  by_cases L:b∈frs X.stack
  .exact slot b o L t e
  .exact⟨o.slots,keep b o L t e⟩
 have A:∀b,b≠X.env.locals->b∉X.fs->b∉frs X.stack:=λb U T z=>(z61.mp (I.stkSub b z)).elim U T;have h:∀b o,X.s₀.heap.get? b=some o->b∉X.ex->b∉ch:=λb o e f z=>by
  rcases (a b z).1.new with q|q
  .exact f q
  .rw[e] at q;exact vD q
 have g:∀x c,X.env.cells.lookup x=some c->∀v,s.heap.IsCell c v->h'.IsCell c v:=λx c e v ⟨o,F,hd⟩=>by
  obtain⟨w,q⟩:=any c o (λz=>(a c z).1.cel x c e rfl) F;exact⟨_,q,hd⟩
 refine⟨I.ok,I.os,I.bare,⟨λb o e n t f=>?_,λb o e n t f=>?_,λb o e n f=>I.base.free b o e n f,λb o e f=>?_,λb xs e=>I.base.tups b xs e,λb o xs e=>I.base.frzs b o xs e,λb O e=>I.base.tbls b O e⟩,?_,λx c e=>?_,I.free,λx c e=>I.freeC x c e,λp K=>?_,λb u e=>?_,I.len⟩
 .exact keep b o (A b ((λb o e=>z6b (z5S (z5U e) I.ok.above)) b o e) t) (h b o e f) (I.base.keep b o e n t f)
 .obtain⟨w,C⟩:=I.base.slot b o e n t f;obtain⟨D,B⟩:=any b _ (h b o e f) C;exact⟨D,B⟩
 .obtain⟨P,C⟩:=I.base.there b o e f;obtain⟨w,B⟩:=any b P (h b o e f) C;exact⟨_,B⟩
 .obtain⟨m,⟨o,V,W,F,r⟩,Q⟩:=I.loc;obtain⟨w,S⟩:=any X.env.locals o (λz=>(a _ z).1.loc rfl) F;refine⟨m,⟨_,V,W,S,r⟩,λi x v C B Y=>?_⟩;obtain⟨u,N,l⟩:=Q i x v C B Y;refine⟨u,N,?_⟩;rcases l with l|⟨k,c,e,z⟩
  .exact .inl l
  .exact .inr ⟨k,c,e,g x c e _ z⟩
 .obtain⟨v,z⟩:=I.cell x c e;exact⟨v,g x c e v z⟩
 .obtain⟨e,n,ne,J,d⟩:=I.pin p K;have E:p.1∉ch:=λz=>by
   rcases z5L.mp K with q|q
   .exact (a p.1 z).1.pin p q rfl
   .exact (a p.1 z).2 p q rfl
  exact⟨keep p.1 p.2 (A p.1 ne J) E e,n,ne,J,d⟩
 .refine (I.hok b u e).stay (λc v R q=>?_) (λ_ q=>q) λ_ _ q=>q;rcases R with z|z
  .subst z;exact keep c v (y c u e) (G c u e) q
  .exact keep c v (y c _ z) (G c _ z) q
structure Frm(X:Cx)(e0:Env)(out:List Env)(L:Addr):Prop where
 stk:X.stack=e0::out
 f0:e0.frame=some L
 fe:X.env.frame=some L
noncomputable abbrev XW:=Value->Option Addr->St->Hp->Prop
inductive XP(X:Cx)(W:XW)(e:Value)(s:Shared):Prop where
 |mk (x:Addr) (cls:Value) (d:Option Addr) (σ:St) (H:Hp) (T:Option Addr) (fl:Value) (ee:e=.ref x) (i:Inv X [] σ H s) (ox:XOk X H x) (ot:∀t∈T.toList,XOk X H t) (r:z3N s.heap x cls d T fl) (hf:fl=.none\/∃L,X.env.frame=some L/\fl=z6X L) (w:W cls d σ H)
theorem Vl{T:Option Addr}(I:Inv X [] j H s)(f:XOk X H x)(ot:∀t∈T.toList,XOk X H t)(c:XMove (frs X.stack) x T (some t) s.heap h') :
  Inv X [] j H {s with heap:=h'}/\XOk X H t:=by
 refine⟨yk (ch:=x::T.toList) I (λb h=>⟨?_,λp g=>absurd g sC⟩) (λb o d a e=>?_) (λb o d a e=>?_),?_⟩
 .rcases z61.mp h with z|z
  .rw[z];exact f
  .exact ot b z
 .exact c.keep b o e d (λz=>a (by simp[z])) (λz=>a (z5T _ z))
 .exact c.slot b o e d (λz=>a (by simp[z])) (λz=>a (z5T _ z))
 .rcases c.newT t sC with z|z
  .exact ot t z
  .exact vy I (z6M z)
theorem xC{W:XW}(F:Frm X e0 out L)(b:A.frames=some X.stack)(p:XP X W e s)
  (h:∀x cls d j H T h',e=.ref x->Inv X [] j H {s with heap:=h'}->XOk X H x->XOk X H T->XTr h' x T cls d (z6X L)->W cls d j H->Q () {s with heap:=h'}):z5V M A (zbH e X.env) Q E s:=by
 obtain⟨x,cls,d,j,H,T,r,rfl,I,g,k,n,f,w⟩:=p;have a:=I.stack;rw[F.stk] at b a;refine XY b a F.fe F.f0 n (f.imp_right λ⟨u,c,o⟩=>by rw[F.fe] at c;(replace c:=zm c;subst c);exact o) λh' t i m=>?_;obtain⟨q,l⟩:=Vl I g k (F.stk▸m);exact h x cls d j H t h' rfl q g l i w
theorem qG(I:Inv X [] j H s)(c:XOk X H x)(e:XOk X H T)(b:XTr s.heap x T cls d fl)
  (h:∀h',Inv X [] j H {s with heap:=h'}->XTr h' x T cls d (fr.elim .none λf=>z6X f)->Q () {s with heap:=h'}):z5V M A (zaH (.ref x) fr) Q E s:=by
 refine V3 b λh' a g=>h h' (Vl I c (λt i=>?_) g).1 a;have:t=T:=by simpa using i
 rw[this];exact e
theorem kE{W:XW}(F:Frm X e0 out L)(f:X.A.frames=some X.stack):zaF M X.A X.env (XP X W):=by
 intro e s p;refine xC F f p λx cls d j H T r u I h i g w=>?_;subst u;obtain⟨B,y,J,k,z,o,C,hd,l,c,D,n,q,E,_⟩:=id g;refine z5D (z7n o hd c ?_);rw[F.fe]
 have go:z5V M X.A (zaH (.ref x) (some L)) (λ_ b=>XP X W (.ref x) b) (XP X W) {s with heap:=r}:=
  qG I h i g λG v a=>⟨x,cls,d,j,H,some T,z6X L,rfl,v,h,λt m=>by
   have:t=T:=by simpa using m
   rw[this];exact i,a,.inr ⟨L,F.fe,rfl⟩,w⟩
 first|exact go|exact z5D (z5Q go)
inductive CXP(P:Program)(w:World)(outer:List Env)(H:Hp)(s:Shared)(E:XK)(e:Value)(s':Shared):Prop where
 |mk (x T:Addr) (cls:Value) (d:Option Addr) (H':Hp) (ee:e=.ref x) (o:s'.os=s.os) (b:z9z s'.gens) (n:Un (frs outer) [] H H' s.heap s'.heap) (k:HOk P w H' s'.heap) (h1:s.heap.get? x=none) (h2:s.heap.get? T=none) (h3:H' x=none) (h4:H' T=none) (t:XTr s'.heap x T cls d .none) (q:E cls d H')
noncomputable def CX1 (P:z6t)(w:z81):CXT:=CXP P w
noncomputable def wOf (E:XK):XW:=λc d _ H=>E c d H
theorem W3(F:Frm X e0 out L)(i:X.A.frames=some X.stack)(a:X.ex=[])(p:XP X (wOf E) e s) :
  z5V M X.A (leaving X.env e) (λ_ j=>CX1 X.prog X.w X.outer X.H₀ X.s₀ E e j) F2 s:=by
 refine z5D (xC F i p λx cls d n H T r m I g h l w=>?_);subst m;refine qG I g h l λq c f=>?_;have k:∀b,XOk X H b->X.s₀.heap.get? b=none:=λb o=>o.new.resolve_left (by rw[a];simp);refine⟨x,T,cls,d,H,rfl,c.os,c.bare,?_,c.hok,k x g,k T h,g.free,h.free,f,w⟩;have:=c.base;rw[a] at this;exact this
theorem xy{W:XW}(I:Inv X B u H s)(c:CX1 X.prog X.w X.stack H s E e C)(h:∀cls d j,E cls d j->W cls d u j):XP X W e C:=by
 obtain⟨x,T,cls,d,j,rfl,os,bare,un,a,nx,i,fx,n,g,w⟩:=c;have k:∀b,s.heap.get? b=none->j b=none->XOk X j b:=λb e f=>by
  have o:=vy I e;exact⟨f,o.loc,o.nfs,o.new,o.cel,o.pin⟩
 refine⟨x,cls,d,u,j,some T,.none,rfl,(I.call' os un a bare λb z=>absurd z sC).pins_of (λp m=>absurd m sC),k x nx fx,λt l=>?_,g,.inl rfl,h cls d j w⟩;have:t=T:=by simpa using l
 rw[this];exact k T i n
theorem Um{W:XW}{args:List Value}(I:Inv X j u H s)(mk:z9s s.heap h2 x (.ref C) args)(w:W (.ref C) none u H):XP X W (.ref x) {s with heap:=h2}:=by
 have J:Inv X j u H {s with heap:=h2,toks:=s.toks}:=I.kept mk.keeps;obtain⟨t,c,_,_⟩:=mk.there;exact⟨x,.ref C,none,u,H,none,.none,rfl,J.pins_of (λp b=>absurd b sC),vy I mk.new,λt a=>absurd a sC,⟨⟨_,_,.ref t,c,⟨rfl,rfl⟩,rfl,rfl,rfl,λ_ _=>rfl⟩,rfl⟩,.inl rfl,w⟩
noncomputable abbrev Cx.pin'(X:Cx)(a:List (Addr×Obj)):Cx:={X with pn:=X.pn++a}
noncomputable abbrev Cx.han(X:Cx)(x:Addr):Cx:={X with A:=X.A.mark (some (.ref x)),calm:=false,xe:=λ_ _=>False}
theorem Kt(ok:X.Ok):(Cx.pin' X j).Ok:=⟨ok.mod,ok.kind,ok.glob,ok.blt,ok.above,ok.inj,ok.has,ok.cab,ok.hd,ok.frames,ok.stk,ok.exf,ok.bs,ok.bsz,ok.noex,ok.exfs,ok.funs,ok.frf⟩
theorem QY(ok:(Cx.pin' X j).Ok):X.Ok:=⟨ok.mod,ok.kind,ok.glob,ok.blt,ok.above,ok.inj,ok.has,ok.cab,ok.hd,ok.frames,ok.stk,ok.exf,ok.bs,ok.bsz,ok.noex,ok.exfs,ok.funs,ok.frf⟩
theorem z13(ok:X.Ok):(Cx.han X x).Ok:=⟨ok.mod,ok.kind,ok.glob,ok.blt,ok.above,ok.inj,ok.has,ok.cab,(λh=>by injection h),ok.frames,ok.stk,ok.exf,ok.bs,ok.bsz,ok.noex,ok.exfs,ok.funs,ok.frf⟩
theorem QP(I:Inv X j u H s):Inv (Cx.pin' X j) [] u H s:=⟨Kt I.ok,I.os,I.bare,I.base,I.loc,I.cell,I.free,I.freeC,λp a=>I.pin p (by simpa using a),I.hok,I.len⟩
theorem zS(I:Inv (Cx.pin' X j) [] u H s):Inv X j u H s:=⟨QY I.ok,I.os,I.bare,I.base,I.loc,I.cell,I.free,I.freeC,λp a=>I.pin p (by simpa using a),I.hok,I.len⟩
theorem Zi(I:Inv X j u H s):Inv (Cx.han X x) j u H s:=⟨z13 I.ok,I.os,I.bare,I.base,I.loc,I.cell,I.free,I.freeC,I.pin,I.hok,I.len⟩
theorem kA(ok:X.Ok)(I:Inv (Cx.han X x) j u H s):Inv X j u H s:=⟨ok,I.os,I.bare,I.base,I.loc,I.cell,I.free,I.freeC,I.pin,I.hok,I.len⟩
theorem v_{W:XW}(p:XP (X.wish E) W e s):XP X W e s:=by
 obtain⟨x,cls,d,f,H,T,j,a,I,b,c,r,h,g⟩:=p;exact⟨x,cls,d,f,H,T,j,a,I.unwish,⟨b.free,b.loc,b.nfs,b.new,b.cel,b.pin⟩,λt i=>let b:=c t i;⟨b.free,b.loc,b.nfs,b.new,b.cel,b.pin⟩,r,h,g⟩
end
end NH
namespace NH
open PySem
inductive T where
 |n|bl (b:Bool)|int (i:Int)|str (x:Str)
 |t (ts:List T)|l (ts:List T)|obj (c:Nat) (fs:List (Nat×T))
 |m (i:Nat)
 |exc (c:Nat) (fs:List (Nat×T))
 |d (kvs:List (L2.Key×T))
 |clo (j:Nat) (cs:List T)
inductive MO where
 |l (ts:List T)|obj (c:Nat) (fs:List (Nat×T))|d (kvs:List (L2.Key×T))
 |tab (j:Nat)|frd (ep:Nat) (kvs:List (L2.Key×T))
noncomputable abbrev UX:MO->Bool
 |.tab _=>true
 |_=>false
noncomputable abbrev Mem:=List MO
noncomputable abbrev Sl:=List (Option T)
mutual
def vF:T->Bool
 |.m _=>false
 |.t a=>xK a
 |.l a=>xK a
 |.obj _ fs=>kP fs
 |.exc _ fs=>kP fs
 |.d b=>Vu b
 |.clo _ cs=>xK cs
 |_=>true
def xK:List T->Bool
 |[]=>true
 |t::r=>vF t&&xK r
def kP:List (Nat×T)->Bool
 |[]=>true
 |p::r=>vF p.2&&kP r
def Vu:List (L2.Key×T)->Bool
 |[]=>true
 |p::r=>vF p.2&&Vu r
end
noncomputable abbrev Xp:=Nat->List (Nat×T)->Mem->Prop
noncomputable abbrev RE(β:Type):=(β->Mem->Prop)->Xp->Prop
noncomputable abbrev RE.ok{β:Type}(a:β)(μ:Mem):RE β:=λK _=>K a μ
noncomputable abbrev RE.st{β:Type}:RE β:=λ_ _=>False
noncomputable abbrev RE.bind{β b:Type}(r:RE b)(k:b->Mem->RE β):RE β:=λK Z=>r (λa μ=>k a μ K Z) Z
noncomputable abbrev RE.grd{β:Type}(p:Prop)(r:RE β):RE β:=λK Z=>p/\r K Z
noncomputable abbrev RE.som{β b:Type}(o:Option b)(k:b->RE β):RE β:=λK Z=>∃a,o=some a/\k a K Z
abbrev brW(b:Bool)(A B:Prop):Prop:=match b with
 |true=>A
 |false=>B
noncomputable abbrev RE.br{β:Type}(b:Bool)(r s:RE β):RE β:=λK Z=>brW b (r K Z) (s K Z)
structure En where
 nx:Sl->Mem->Prop
 rt:T->Mem->Prop
 bk:Sl->Mem->Prop
 ct:Sl->Mem->Prop
 ex:Nat->List (Nat×T)->Sl->Mem->Prop
noncomputable abbrev Out:=En->Prop
noncomputable abbrev En.nxt(E:En)(f:Sl->Mem->Prop):En:=⟨f,E.rt,E.bk,E.ct,E.ex⟩
noncomputable abbrev En.turn(E:En)(N:Sl->Mem->Prop):En:=⟨N,E.rt,E.nx,N,E.ex⟩
noncomputable abbrev En.tri(E:En)(X:Nat->List (Nat×T)->Sl->Mem->Prop):En:=⟨E.nx,E.rt,E.bk,E.ct,X⟩
noncomputable abbrev En.fn(K:T->Mem->Prop)(Z:Xp):En:=⟨λ_ a=>K .n a,K,λ_ _=>False,λ_ _=>False,λc fs _ a=>Z c fs a⟩
noncomputable abbrev Out.nx(a:Sl)(μ:Mem):Out:=λE=>E.nx a μ
noncomputable abbrev Out.rt(t:T)(μ:Mem):Out:=λE=>E.rt t μ
noncomputable abbrev Out.ex(c:Nat)(fs:List (Nat×T))(a:Sl)(μ:Mem):Out:=λE=>E.ex c fs a μ
noncomputable abbrev Out.st:Out:=λ_=>False
noncomputable abbrev Out.grd(p:Prop)(o:Out):Out:=λE=>p/\o E
noncomputable abbrev Out.som{b:Type}(o:Option b)(k:b->Out):Out:=λE=>∃a,o=some a/\k a E
noncomputable abbrev Out.br(b:Bool)(r s:Out):Out:=λE=>brW b (r E) (s E)
noncomputable abbrev Out.seq(o:Out)(f:Sl->Mem->Out):Out:=λE=>o (E.nxt λa μ=>f a μ E)
noncomputable abbrev RE.out{β:Type}(r:RE β)(b:Sl)(f:β->Mem->Out):Out:=λE=>r (λa μ=>f a μ E) (λc fs μ=>E.ex c fs b μ)
noncomputable abbrev Fn:=List T->Mem->RE T
noncomputable abbrev De:=Sl->Mem->RE T
noncomputable abbrev Dt:=Sl->Mem->RE Bool
noncomputable abbrev Da:=Sl->Mem->RE (List T)
noncomputable abbrev Ds:=Sl->Mem->Out
noncomputable abbrev RI:=(List T->(Mem->Prop)->Mem->Prop)->Xp->Prop
noncomputable abbrev RI.ok(xs:List T)(o:Mem->Prop)(μ:Mem):RI:=λK _=>K xs o μ
noncomputable abbrev RI.st:RI:=λ_ _=>False
noncomputable abbrev RI.grd(p:Prop)(r:RI):RI:=λK Z=>p/\r K Z
noncomputable abbrev RI.go{β:Type}(r:RI)(k:List T->(Mem->Prop)->Mem->RE β):RE β:=λK Z=>r (λxs o μ=>k xs o μ K Z) Z
noncomputable abbrev RI.out(r:RI)(a:Sl)(f:List T->(Mem->Prop)->Mem->Out):Out:=λE=>r (λxs o μ=>f xs o μ E) (λc fs μ=>E.ex c fs a μ)
noncomputable abbrev RI.re(r:RI):RE (List T×(Mem->Prop)):=λK Z=>r (λxs o μ=>K (xs,o) μ) Z
noncomputable abbrev RE.it{β:Type}(r:RE β)(k:β->Mem->RI):RI:=λK Z=>r (λa μ=>k a μ K Z) Z
noncomputable abbrev Di:=Sl->Mem->RI
abbrev lvT:Mem->Prop:=λ_=>True
abbrev lvM(i:Nat)(xs:List T):Mem->Prop:=λa=>a[i]?=some (.l xs)
structure LamD where
 jt:Nat
 qn:Str
 y:Str
 body:Expr
 sc:Scope
 fr:Str
 g:De
noncomputable abbrev Yw(jt:Nat)(t:T):T:=.clo 300 [.clo (100+jt) [],.clo 200 [t]]
inductive GM where
 |fn (f:Fn)
 |met (c:Nat) (nm:Str) (f:Fn)
 |mk (c:Nat) (frozen:Bool) (f:Fn)
 |cst (t:T)
 |xcl (c:Nat)
 |xcf (c:Nat) (f:Nat)
 |xin (c f:Nat) (nm fl:Str)
 |kap (l:LamD)
 |mkd (c:Nat) (nm:Str) (n:Nat) (f:Fn)
 |tbl (kvs:List (Str×Int))
 |none
 |bad
noncomputable abbrev Ju(a:Sl):Nat->Option T:=z7C (motive:=λ_=>Nat->Option T) (λ_=>none) (λo _ b i=>zd1 (motive:=λ_=>Option T) o (λn _=>b n) i) a
noncomputable abbrev ud(a:Sl):Nat->Option T->Sl:=z7C (motive:=λ_=>Nat->Option T->Sl) (λ_ _=>[]) (λo r b i t=>zd1 (motive:=λ_=>Sl) (t::r) (λn _=>o::b n t) i) a
theorem Zr:∀{a:Sl} {i:Nat} {t:T},Ju a i=some t↔a[i]?=some (some t)
 |[],_,_=>by simp
 |o::r,0,t=>by show o=some t↔_;simp
 |o::r,n+1,t=>by
  rw[Zr (i:=n)];simp
theorem xD:∀{a:Sl} {i:Nat} {t:Option T},ud a i t=a.set i t
 |[],_,_=>by simp
 |o::r,0,t=>rfl
 |o::r,n+1,t=>by
  show o::ud r n t=_;rw[xD];simp
noncomputable abbrev JI(fs:List (Nat×T)):Nat->Option T:=z7C (motive:=λ_=>Nat->Option T) (λ_=>none) (λp _ a i=>zce (motive:=λ_=>Option T) (a i) (some p.2) (z7R p.1 i)) fs
noncomputable abbrev XR(f:Nat)(v:T)(fs:List (Nat×T)):List (Nat×T):=z7C (motive:=λ_=>List (Nat×T)) [(f,v)] (λp r a=>zce (motive:=λ_=>List (Nat×T)) (p::a) ((p.1,v)::r) (z7R p.1 f)) fs
theorem K2:JI (p::r) i=match z7R p.1 i with
  |true=>some p.2
  |false=>JI r i:=by
 show (zce (JI r i) (some p.2) (z7R p.1 i):Option T)=_;cases z7R p.1 i<;>rfl
theorem K6:XR f v (p::r)=match z7R p.1 f with
  |true=>(p.1,v)::r
  |false=>p::XR f v r:=by
 show (zce (p::XR f v r) ((p.1,v)::r) (z7R p.1 f):List (Nat×T))=_;cases z7R p.1 f<;>rfl
noncomputable def idx:List Str->Str->Option Nat
 |[],_=>none
 |y::r,x=>if y=x then some 0 else (idx r x).map (·+1)
noncomputable abbrev tyN:T->Mem->Option Nat
 |.n,_=>some 0
 |.bl _,_=>some 1
 |.int _,_=>some 2
 |.str _,_=>some 3
 |.t _,_=>some 4
 |.l _,_=>some 5
 |.obj c _,_=>some c
 |_,_=>none
noncomputable abbrev tyO:MO->Nat
 |.l _=>5
 |.obj c _=>c
 |.d _=>6
 |.tab _=>99
 |.frd _ _=>6
noncomputable abbrev YE(a b:Bool):Bool:=match a with
 |true=>b
 |false=>false
noncomputable abbrev bOr(a b:Bool):Bool:=match a with
 |true=>true
 |false=>b
noncomputable abbrev vY(a c:Nat):Bool:=bOr (z7R a c) (bOr (YE (z7R a 1) (z7R c 2)) (YE (zc2 10 a) (YE (zc2 a 39) (bOr (z7R c 11) (YE (z7R c 10) (zc2 12 a))))))
noncomputable abbrev isAny(t:Nat)(cs:List Nat):Bool:=z7C (motive:=λ_=>Bool) false (λc _ a=>bOr (vY t c) a) cs
theorem yN:isAny t (c::r)=bOr (vY t c) (isAny t r):=rfl
noncomputable def big:Int:=18446744073709551616
noncomputable def room:Nat:=1000000
noncomputable abbrev z2w:T->T->Mem->RE T
 |.int i,.int j,a=>.ok (.int (i+j)) a
 |.str x,.str y,a=>.grd (x.length+y.length<=room) (.ok (.str (x++y)) a)
 |.l xs,.l b,a=>.grd (xs.length+b.length<=room) (.ok (.l (xs++b)) a)
 |.m i,.l b,a=>λK _=>∃xs,a[i]?=some (.l xs)/\xs.length+b.length<=room/\K (.l (xs++b)) a
 |.l xs,.m j,a=>λK _=>∃b,a[j]?=some (.l b)/\xs.length+b.length<=room/\K (.l (xs++b)) a
 |_,_,_=>.st
noncomputable abbrev Wa(f:Int->Int->Mem->RE T):T->T->Mem->RE T
 |.int i,.int j,a=>f i j a
 |_,_,_=>.st
noncomputable abbrev z3A:Operator->T->T->Mem->RE T
 |.Add=>z2w
 |.Sub=>Wa λi j a=>.ok (.int (i-j)) a
 |.Mult=>Wa λi j a=>.grd ((-big<i/\i<big)\/(-big<j/\j<big)) (.ok (.int (i*j)) a)
 |.FloorDiv=>Wa λi j a=>.grd (0<j/\j<1606938044258990275541962092341162602522202993782792835301376) (.ok (.int (i / j)) a)
 |.Mod=>Wa λi j a=>.grd (0<j) (.ok (.int (i % j)) a)
 |.Pow=>Wa λi j a=>.grd (0<=j/\j<=1000000/\i.natAbs<18446744073709551616) (.ok (.int (i ^ j.toNat)) a)
 |.RShift=>Wa λi j a=>.grd (0<=j) (.ok (.int (i / 2 ^ j.toNat)) a)
 |_=>λ_ _ _=>.st
mutual
def eqT:T->T->Option Bool
 |.int i,b=>match b with
  |.int j=>some (i==j)
  |.bl k=>some (i==(if k then 1 else 0))
  |.str _=>some false
  |.n=>some false
  |.t _=>some false
  |.l _=>some false
  |_=>none
 |.bl k,b=>match b with
  |.int j=>some ((if k then 1 else 0)==j)
  |.bl j=>some (k==j)
  |.str _=>some false
  |.n=>some false
  |.t _=>some false
  |.l _=>some false
  |_=>none
 |.str x,b=>match b with
  |.str y=>some (x==y)
  |.int _=>some false
  |.bl _=>some false
  |.n=>some false
  |.t _=>some false
  |.l _=>some false
  |_=>none
 |.n,b=>match b with
  |.n=>some true
  |.int _=>some false
  |.bl _=>some false
  |.str _=>some false
  |.t _=>some false
  |.l _=>some false
  |_=>none
 |.t xs,b=>match b with
  |.t a=>eqL xs a
  |.n=>some false
  |.int _=>some false
  |.bl _=>some false
  |.str _=>some false
  |.l _=>some false
  |_=>none
 |.l xs,b=>match b with
  |.l a=>eqL xs a
  |.n=>some false
  |.int _=>some false
  |.bl _=>some false
  |.str _=>some false
  |.t _=>some false
  |_=>none
 |_,_=>none
def eqL:List T->List T->Option Bool
 |[],[]=>some true
 |[],_::_=>some false
 |_::_,[]=>some false
 |x::xs,y::c=>match eqT x y,eqL xs c with
  |some a,some b=>some (a&&b)
  |_,_=>none
end
mutual
def j8:T->Nat
 |.t a=>qH a+1
 |.l a=>qH a+1
 |_=>0
def qH:List T->Nat
 |[]=>0
 |t::r=>max (j8 t) (qH r)
end
noncomputable abbrev scT:T->T->Option Bool
 |.int i,.int j=>some (decide (i=j))|.str i,.str j=>some (decide (i=j))
 |_,_=>none
noncomputable abbrev eqW(x y:T)(μ:Mem)(k:Bool->RE T):RE T:=match x,y with
 |.t xs,.t a=>.grd (qH xs<=40) (.som (eqL xs a) k)
 |.l xs,.l a=>.grd (qH xs<=40) (.som (eqL xs a) k)
 |.m i,.l a=>λK Z=>∃xs,μ[i]?=some (.l xs)/\RE.grd (qH xs<=40) (.som (eqL xs a) k) K Z
 |.l xs,.m j=>λK Z=>∃a,μ[j]?=some (.l a)/\RE.grd (qH xs<=40) (.som (eqL xs a) k) K Z
 |.m i,.m j=>λK Z=>∃p:List T×List T,(μ[i]?=some (.l p.1)/\μ[j]?=some (.l p.2))/\RE.grd (qH p.1<=40) (.som (eqL p.1 p.2) k) K Z
 |x,y=>match scT x y with
  |some b=>k b
  |none=>.st
noncomputable def intsOf:List T->Option (List Int)
 |[]=>some []
 |.int i::r=>(intsOf r).map (i::·)
 |_::_=>none
noncomputable abbrev ltW(x y:T)(k:Bool->RE T):RE T:=match x,y with
 |.int i,.int j=>k (decide (i<j))
 |.t xs,.t a=>.som (intsOf xs) λb=>.som (intsOf a) λc=>k (HT.lexLt b c)
 |_,_=>.st
noncomputable abbrev WI(op:z9c)(x y:T)(μ:Mem):RE T:=
 match op with
 |.Eq=>eqW x y μ λb=>.ok (.bl b) μ
 |.NotEq=>eqW x y μ λb=>.ok (.bl (!b)) μ
 |.Lt=>ltW x y λb=>.ok (.bl b) μ
 |.LtE=>match x,y with|.int i,.int j=>.ok (.bl (decide (i<=j))) μ|_,_=>.st
 |.Gt=>match x,y with|.int i,.int j=>.ok (.bl (decide (j<i))) μ|_,_=>.st
 |.GtE=>match x,y with|.int i,.int j=>.ok (.bl (decide (j<=i))) μ|_,_=>.st
 |.Is=>(match y with
  |.n=>.ok (.bl (match x with|.n=>true|_=>false)) μ
  |_=>.st)
 |.IsNot=>(match y with
  |.n=>.ok (.bl (match x with|.n=>false|_=>true)) μ
  |_=>.st)
 |.In=>(match x,y with|.str i,.str j=>.ok (.bl (!(z8E j i 0 j.length 1).isEmpty)) μ|_,_=>.st)
 |_=>.st
noncomputable abbrev ZQ:T->Mem->RE Bool
 |.bl b,a=>.ok b a
 |_,_=>.st
noncomputable abbrev eC(t:T):De:=λ_ a=>.ok t a
noncomputable abbrev eV(i:Nat):De:=λa b=>match Ju a i with
 |some t=>.ok t b
 |none=>.st
noncomputable abbrev za(op:Operator)(f g:De):De:=λc d=>(f c d).bind λx b=>(g c b).bind λy a=>z3A op x y a
noncomputable abbrev z3x(f:De):De:=λb c=>(f b c).bind λx a=>match x with|.int i=>.ok (.int (-i)) a|_=>.st
noncomputable abbrev z0L(f:De):De:=λc d=>(f c d).bind λx a=>match x with|.bl b=>.ok (.bl (!b)) a|_=>.st
noncomputable abbrev ki(f g:De):De:=λc d=>(f c d).bind λx a=>match x with|.bl b=>.br b (g c a) (.ok (.bl false) a)|_=>.st
noncomputable abbrev eOr(f g:De):De:=λc d=>(f c d).bind λx a=>match x with|.bl b=>.br b (.ok (.bl true) a) (g c a)|_=>.st
noncomputable abbrev zq(op:z9c)(f g:De):De:=λc d=>(f c d).bind λx b=>(g c b).bind λy a=>WI op x y a
noncomputable abbrev chS(op:z9c)(d:Bool)(f:T->Sl->Mem->RE T)(x y:T)(e:Sl)(c:Mem):RE T:=match d with
 |true=>WI op x y c
 |false=>(WI op x y c).bind λk a=>match k with
  |.bl b=>.br b (f y e a) (.ok (.bl false) a)
  |_=>.st
noncomputable abbrev z2j(ps:List (z9c×De)):T->Sl->Mem->RE T:=z7C (motive:=λ_=>T->Sl->Mem->RE T) (λ_ _ _=>.st) (λp r d x b c=>(p.2 b c).bind λy a=>chS p.1 r.isEmpty d x y b a) ps
noncomputable abbrev eCh(f:De)(ps:List (z9c×De)):De:=λb c=>(f b c).bind λx a=>z2j ps x b a
noncomputable abbrev tE(f:De):Dt:=λa b=>(f a b).bind ZQ
noncomputable abbrev wW(f g:Dt):Dt:=λc d=>(f c d).bind λb a=>.br b (g c a) (.ok false a)
noncomputable abbrev tOr(f g:Dt):Dt:=λc d=>(f c d).bind λb a=>.br b (.ok true a) (g c a)
noncomputable abbrev zO(f:Dt):Dt:=λc d=>(f c d).bind λb a=>.ok (!b) a
noncomputable abbrev eIf(c:Dt)(f g:De):De:=λd e=>(c d e).bind λb a=>.br b (f d a) (g d a)
noncomputable abbrev yQ(t:T)(f:Nat)(μ:Mem):RE T:=match t with
 |.obj _ fs=>(match JI fs f with|some v=>.ok v μ|none=>.st)
 |.m i=>λK _=>∃c fs v,μ[i]?=some (.obj c fs)/\JI fs f=some v/\K v μ
 |_=>.st
noncomputable abbrev zE(f:De)(n:Nat):De:=λb c=>(f b c).bind λt a=>yQ t n a
noncomputable def Jt(n:Nat)(i:Int):Option Nat:=if 0<=i then (if i<n then some i.toNat else none) else if -(n:Int)<=i then some (i+n).toNat else none
noncomputable def wH {α:Type}(xs:List α)(i:Int):Option α:=(Jt xs.length i).bind λj=>xs[j]?
noncomputable abbrev z0h(t i:T)(μ:Mem):RE T:=match i with
 |.int k=>(match t with
  |.l a=>.som (wH a k) λv=>.ok v μ
  |.t a=>.som (wH a k) λv=>.ok v μ
  |.m j=>λK _=>∃a v,μ[j]?=some (.l a)/\wH a k=some v/\K v μ
  |.str z=>.grd (z.length<=room) (.som (wH z.cps.toList k) λc=>.ok (.str ⟨#[c]⟩) μ)
  |_=>.st)
 |_=>.st
noncomputable abbrev eIx(f g:De):De:=λc d=>(f c d).bind λx b=>(g c b).bind λy a=>z0h x y a
noncomputable def V0 (n d:Nat):Option Int->Nat
 |none=>d
 |some v=>if v<0 then (v+(n:Int)).toNat else min v.toNat n
noncomputable def jy {α:Type}(xs:List α)(lo hi:Option Int):List α:=(xs.drop (V0 xs.length 0 lo)).take (V0 xs.length xs.length hi-V0 xs.length 0 lo)
noncomputable abbrev Dp:=Sl->Mem->RE (Option Int)
noncomputable abbrev pN:Dp:=λ_ a=>.ok none a
noncomputable abbrev pS(f:De):Dp:=λb c=>(f b c).bind λt a=>match t with|.int i=>.ok (some i) a|_=>.st
noncomputable abbrev z3h(x:T)(l h:Option Int)(μ:Mem):RE T:=match x with
 |.l xs=>.ok (.l (jy xs l h)) μ
 |.t xs=>.ok (.t (jy xs l h)) μ
 |.m i=>λK _=>∃a,μ[i]?=some (.l a)/\K (.l (jy a l h)) μ
 |_=>.st
noncomputable abbrev eSl(f:De)(lo hi:Dp):De:=λa e=>(f a e).bind λx d=>(lo a d).bind λl c=>(hi a c).bind λh b=>z3h x l h b
noncomputable abbrev evs(fs:List De):Da:=z7C (motive:=λ_=>Da) (λ_ c=>.ok [] c) (λf _ g d c=>(f d c).bind λt b=>(g d b).bind λe a=>.ok (t::e) a) fs
noncomputable abbrev JO(fs:List De):De:=λb c=>(evs fs b c).bind λd a=>.ok (.l d) a
noncomputable abbrev qf(fs:List De):De:=λb c=>(evs fs b c).bind λd a=>.ok (.t d) a
noncomputable abbrev jm(fs:List De):De:=λb c=>(evs fs b c).bind λd a=>.ok (.m a.length) (a++[.l d])
noncomputable abbrev z3(g:Fn)(fs:List De):De:=λa b=>(evs fs a b).bind g
noncomputable abbrev Qv(c:Nat)(g:Fn)(ts:List T)(μ:Mem):RE T:=λK Z=>
 xK ts=true/\g (.m 0::ts) [.obj c []] (λr a=>r=.n/\∃fs,a[0]?=some (.obj c fs)/\kP fs=true/\K (.obj c fs) μ) (λk fs _=>kP fs=true/\Z k fs μ)
noncomputable abbrev eMk(c:Nat)(g:Fn)(fs:List De):De:=λa b=>(evs fs a b).bind (Qv c g)
noncomputable abbrev YL(cs:List Nat)(x:T)(μ:Mem):RE T:=match x with
 |.m i=>.som μ[i]? λo=>.br (UX o) .st (.ok (.bl (isAny (tyO o) cs)) μ)
 |x=>match tyN x μ with
  |some t=>.ok (.bl (isAny t cs)) μ
  |none=>.st
noncomputable abbrev wF(cs:List Nat)(f:De):De:=λa b=>(f a b).bind (YL cs)
noncomputable abbrev eB1(op:T->Mem->RE T)(f:De):De:=λa b=>(f a b).bind op
noncomputable abbrev wb(t:T)(μ:Mem):RE T:=match t with
 |.l xs=>.ok (.int xs.length) μ
 |.t xs=>.ok (.int xs.length) μ
 |.str s=>.grd (s.length<=room) (.ok (.int s.length) μ)
 |.m i=>λK _=>∃xs,μ[i]?=some (.l xs)/\K (.int xs.length) μ
 |_=>.st
noncomputable abbrev Qi(t:T)(μ:Mem):RE T:=match t with
 |.l xs=>.ok (.l xs) μ
 |.t xs=>.ok (.l xs) μ
 |.m i=>λK _=>∃xs,μ[i]?=some (.l xs)/\K (.l xs) μ
 |_=>.st
noncomputable def bools:List T->Option (List Bool)
 |[]=>some []
 |.bl b::r=>(bools r).map (b::·)
 |_::_=>none
noncomputable abbrev ZE(t:T)(μ:Mem):RE T:=match t with
 |.l xs=>.som (bools xs) λbs=>.ok (.bl (bs.all id)) μ
 |_=>.st
noncomputable abbrev Zx(o f:De):De:=λd e=>(o d e).bind λg b=>match g with
 |.m i=>λK Z=>(∃c,b[i]?=some (.l c))/\f d b (λt a=>∃c,a[i]?=some (.l c)/\c.length<room/\K .n (a.set i (.l (c++[t])))) Z
 |_=>.st
noncomputable abbrev Wq(z:Str):List T:=z.cps.toList.map λc=>T.str ⟨#[c]⟩
noncomputable abbrev z0k(t:T)(μ:Mem):RI:=match t with
 |.l xs=>.ok xs lvT μ
 |.str z=>.ok (Wq z) lvT μ
 |.m i=>λK _=>∃xs,μ[i]?=some (.l xs)/\K xs (lvM i xs) μ
 |_=>.st
noncomputable abbrev iE(f:De):Di:=λa b=>(f a b).it z0k
noncomputable def rangeT(n:Int):List T:=(z6V n.toNat).map λ(i:Nat)=>T.int i
noncomputable def jA(a b c:Int):List T:=(z6V (if a<b then (b-a-1) / c+1 else 0:Int).toNat).map λ(i:Nat)=>T.int (a+i*c)
noncomputable abbrev inL(a:Int):Prop := -1606938044258990275541962092341162602522202993782792835301376<=a/\a<1606938044258990275541962092341162602522202993782792835301376
noncomputable abbrev Jg(f:De):Di:=λb c=>(f b c).it λt a=>match t with
 |.int n=>.grd (inL n) (.ok (rangeT n) lvT a)
 |_=>.st
noncomputable abbrev QD(f g:De):Di:=λe h=>(f e h).it λx d=>(g e d).it λy c=>match x,y with
 |.int a,.int b=>.grd (inL a/\inL b) (.ok (jA a b 1) lvT c)
 |_,_=>.st
inductive Tg where
 |one (i:Nat)|t (is:List Nat)
noncomputable abbrev z0l(is:List Nat):List T->Sl->Option Sl:=z7C (motive:=λ_=>List T->Sl->Option Sl) (λc a=>z7C (motive:=λ_=>Option Sl) (some a) (λ_ _ _=>none) c) (λi _ d c a=>z7C (motive:=λ_=>Option Sl) none (λt b _=>d b (ud a i (some t))) c) is
noncomputable abbrev asg:Tg->T->Sl->Option Sl
 |.one i,t,a=>some (ud a i (some t))
 |.t c,.t b,a=>z0l c b a
 |_,_,_=>none
noncomputable def qd(tg:Tg)(g:Sl->Mem->RE (Option T))(lv:Mem->Prop)(c:Sl):List T->Mem->RE (List T)
 |[],e=>.ok [] e
 |x::r,e=>.som (asg tg x c) λb=>(g b e).bind λo a=>.grd (lv a) (match o with
  |some y=>(qd tg g lv c r a).bind λf d=>.ok (y::f) d
  |none=>qd tg g lv c r a)
noncomputable abbrev uy(cs:List Dt)(f:De):Sl->Mem->RE (Option T):=z7C (motive:=λ_=>Sl->Mem->RE (Option T)) (λd e=>(f d e).bind λy a=>.ok (some y) a) (λc _ g d e=>(c d e).bind λb a=>.br b (g d a) (.ok none a)) cs
noncomputable abbrev Xq(is:List Nat)(a:Sl):Sl:=z7C (motive:=λ_=>Sl) [] (λi _ b=>Ju a i::b) is
noncomputable abbrev blk(n:Nat)(fs:List Nat)(a:Sl):Sl:=zd1 (motive:=λ_=>Sl) (Xq fs a) (λ_ b=>none::b) n
noncomputable abbrev qu(n:Nat)(fs:List Nat)(tg:Tg)(it:Di)(cs:List Dt)(f:De):De:=λc d=>(it c d).go λxs o b=>.grd (xs.length<=room) ((qd tg (uy cs f) o (blk n fs c) xs b).bind λe a=>.ok (.l e) a)
noncomputable abbrev jw(n:Nat)(fs:List Nat)(tg:Tg)(it:Di)(cs:List Dt)(f:De):De:=λc d=>(it c d).go λxs o b=>.grd (xs.length<=room) ((qd tg (uy cs f) o (blk n fs c) xs b).bind λe a=>.ok (.m a.length) (a++[.l e]))
noncomputable abbrev zj(f:De):Ds:=λb c=>(f b c).out b λt a=>.rt t a
noncomputable abbrev Xe:Ds:=λ_ a=>.rt .n a
noncomputable abbrev zw(f:De):Ds:=λa c=>(f a c).out a λ_ b=>.nx a b
noncomputable abbrev zR(c:List Ds):Ds:=z7C (motive:=λ_=>Ds) (λa b=>.nx a b) (λs _ d a b=>(s a b).seq d) c
noncomputable abbrev sIf(c:Dt)(a b:List Ds):Ds:=λe f=>(c e f).out e λk d=>.br k (zR a e d) (zR b e d)
noncomputable abbrev zk(i:Nat)(f:De):Ds:=λa c=>(f a c).out a λt b=>.nx (ud a i (some t)) b
noncomputable abbrev z2T(is:List Nat)(f:De):Ds:=λb d=>(f b d).out b λt c=>.som (asg (.t is) t b) λa=>.nx a c
noncomputable abbrev zG(o:De)(n:Nat)(f:De):Ds:=λa e=>(f a e).out a λt d=>(o a d).out a λg b=>match g with
 |.m i=>λE=>∃c fs,b[i]?=some (.obj c fs)/\fs.length<900/\E.nx a (b.set i (.obj c (XR n t fs)))
 |_=>.st
noncomputable def forM(tg:Tg)(body:Ds)(lv:Mem->Prop):List T->Ds
 |[],d,e=>.nx d e
 |x::r,d,e=>.som (asg tg x d) λc=>λE=>body c e (E.turn λb a=>lv a/\forM tg body lv r b a E)
noncomputable abbrev vB(tg:Tg)(it:Di)(body:List Ds):Ds:=λa c=>(it a c).out a λxs o b=>forM tg (zR body) o xs a b
noncomputable def ZJ(c:Dt)(body:List Ds):Ds:=λd e E=>∃I:Nat->Sl->Mem->Prop,(∃n,I n d e)/\∀n d e,I n d e->
 c d e (λb a=>brW b (zR body d a (E.turn λf g=>∃m,m<n/\I m f g)) (E.nx d a)) (λk fs a=>E.ex k fs d a)
noncomputable abbrev zy(c:Nat)(fs:List De):Ds:=λa d=>(evs fs a d).out a λe b=>.grd (e.length<=room) (.ex c [] a b)
noncomputable abbrev Zo(c f:Nat)(g:De):Ds:=λa d=>(g a d).out a λt b=>match t with
 |.int i=>.grd (i.natAbs.log2<1920) (.ex c [(f,.int i)] a b)
 |_=>.st
noncomputable abbrev z4V(i:Option Nat)(v:List Ds)(k:Nat)(fs:List (Nat×T))(c:Sl)(μ:Mem):Out:=λE=>match i with
 |some j=>zR v (ud c j (some (.exc k fs))) μ {nx:=λa b=>E.nx (ud a j none) b,rt:=E.rt,bk:=λ_ _=>False,ct:=λ_ _=>False,ex:=λ_ _ _ _=>False}
 |none=>zR v c μ {nx:=E.nx,rt:=E.rt,bk:=λ_ _=>False,ct:=λ_ _=>False,ex:=λ_ _ _ _=>False}
noncomputable abbrev z0T(hs:List (List Nat×Option Nat×List Ds)):Nat->List (Nat×T)->Sl->Mem->Out:=z7C (motive:=λ_=>Nat->List (Nat×T)->Sl->Mem->Out) (λk fs a b=>.ex k fs a b) (λp _ c k fs a b=>.br (isAny k p.1) (z4V p.2.1 p.2.2 k fs a b) (c k fs a b)) hs
noncomputable abbrev z10(b:List Ds)(hs:List (List Nat×Option Nat×List Ds)):Ds:=λd e E=>zR b d e (E.tri λk fs a c=>z0T hs k fs a c E)
noncomputable abbrev pad(n:Nat):Sl:=zd1 (motive:=λ_=>Sl) [] (λ_ a=>none::a) n
noncomputable abbrev Uz(ts:List T)(n:Nat):Sl:=z7C (motive:=λ_=>Sl) (pad n) (λt _ a=>some t::a) ts
noncomputable abbrev fnW(n m:Nat)(body:List Ds):Fn:=λa b K Z=>a.length=n/\zR body (Uz a m) b (En.fn K Z)
end NH
namespace NH
open PySem PySem.Spec PyProof.Rows L2
section
structure DP where
 K:z5M
 adr:Nat->Option Addr
 cad:Nat->Option Addr
 fn:Nat->Option Str
 inj:∀i j x,fn i=some x->fn j=some x->i=j
 clo:Nat->Addr->Option HO->List V->Prop
 tabs:Nat->Option (Addr×List Pos×Str)
noncomputable def Qm (a C:Addr)(d:Option Addr):Heap->Prop:=λh=>∃b c,h.get? a=some b/\b.cls=.ref C/\b.data=.fields c/\b.dict=d
noncomputable def wC(c:Addr)(qn:Str):Heap->Prop:=λh=>h.CodeRec (.ref c) qn
inductive DMu(α:List Addr)(i:Nat)(v:V):Prop|mk (a:Addr) (h:α[i]?=some a) (e:v=.ref a)
inductive DSq(φ α:List Addr)(H:Hp)(c:List V->HO)(L:List V->Prop)(v:V):Prop|mk (a:Addr) (xs:List V) (e:v=.ref a) (n1:a∉φ) (n2:a∉α) (r:Rd H a (c xs)) (l:L xs)
inductive DOb(φ α:List Addr)(H:Hp)(ca:Option Addr)(L:List (Str×V)->Prop)(v:V):Prop|mk (a C dx:Addr) (gs:List (Str×V)) (e:v=.ref a) (n1:a∉φ) (n2:a∉α) (ad:ca=some C) (q:H a=some (.ins C dx gs)) (l:L gs)
inductive DEx(φ α:List Addr)(H:Hp)(ca:Option Addr)(L:Option Addr->Prop)(v:V):Prop|mk (a C:Addr) (d:Option Addr) (e:v=.ref a) (n1:a∉φ) (n2:a∉α) (ad:ca=some C) (q:H a=some (.ext (Qm a C d))) (l:L d)
inductive DDi(φ α:List Addr)(H:Hp)(L:List (Key×V)->Prop)(v:V):Prop|mk (a:Addr) (gs:List (Key×V)) (e:v=.ref a) (n1:a∉φ) (n2:a∉α) (q:H a=some (.dK gs)) (l:L gs)
inductive DCl(φ α:List Addr)(H:Hp)(c:Addr->Option HO->List V->Prop)(L:List V->Prop)(v:V):Prop|mk (a:Addr) (ob:Option HO) (xs:List V) (e:v=.ref a) (h:c a ob xs) (o:∀o,ob=some o->a∉φ/\a∉α/\H a=some o) (l:L xs)
inductive DCo(P:V->Prop)(L:List V->Prop)(vs:List V):Prop|mk (v:V) (r:List V) (e:vs=v::r) (d:P v) (l:L r)
inductive DCf(x:Option Str)(P:V->Prop)(L:List (Str×V)->Prop)(vs:List (Str×V)):Prop|mk (y:Str) (v:V) (r:List (Str×V)) (h:x=some y) (e:vs=(y,v)::r) (d:P v) (l:L r)
inductive DCk(k:Key)(P:V->Prop)(L:List (Key×V)->Prop)(vs:List (Key×V)):Prop|mk (v:V) (r:List (Key×V)) (e:vs=(k,v)::r) (d:P v) (l:L r)
inductive DXf(φ α:List Addr)(H:Hp)(dx:Addr)(L:List (Str×V)->Prop):Prop|mk (gs:List (Str×V)) (n1:dx∉φ) (n2:dx∉α) (q:H dx=some (.xd gs)) (l:L gs)
mutual
def Den (D:DP)(φ α:List Addr)(H:Hp):T->V->Prop
 |.n,v=>v=.n
 |.bl b,v=>v=.bl b
 |.int i,v=>v=.int i
 |.str x,v=>v=.str x
 |.m i,v=>DMu α i v
 |.t a,v=>DSq φ α H .t (DenL D φ α H a) v
 |.l a,v=>DSq φ α H .l (DenL D φ α H a) v
 |.obj c fs,v=>DOb φ α H (D.cad c) (DenF D φ α H fs) v
 |.exc c fs,v=>DEx φ α H (D.adr c) (λd=>match d with
  |none=>fs=[]
  |some f=>DXf φ α H f (DenF D φ α H fs)) v
 |.d e,v=>DDi φ α H (DenK D φ α H e) v
 |.clo j cs,v=>DCl φ α H (D.clo j) (DenL D φ α H cs) v
def DenL (D:DP)(φ α:List Addr)(H:Hp):List T->List V->Prop
 |[],a=>a=[]
 |t::b,a=>DCo (Den D φ α H t) (DenL D φ α H b) a
def DenF (D:DP)(φ α:List Addr)(H:Hp):List (Nat×T)->List (Str×V)->Prop
 |[],a=>a=[]
 |p::fs,a=>DCf (D.fn p.1) (Den D φ α H p.2) (DenF D φ α H fs) a
def DenK (D:DP)(φ α:List Addr)(H:Hp):List (Key×T)->List (Key×V)->Prop
 |[],a=>a=[]
 |p::fs,a=>DCk p.1 (Den D φ α H p.2) (DenK D φ α H fs) a
end
noncomputable def cvF (fs:List (Nat×T))(C:Addr):Value:=if fs.length<=1 then .ref C else .int (C:Int) 0
theorem Vx:stC (cvF fs C)=.ref C:=by
 unfold cvF;split
 .rfl
 .show z6u (Int.toNat C)=_;rw[Int.toNat_natCast]
noncomputable def XCv (D:DP)(c:Nat)(fs:List (Nat×T))(a:Value):Prop:=∃C0,D.adr c=some C0/\a=cvF fs C0
noncomputable def XDict(D:DP)(φ α:List Addr)(H:Hp)(fs:List (Nat×T)):Option Addr->Prop
 |none=>fs=[]
 |some a=>DXf φ α H a (DenF D φ α H fs)
inductive OLs(H:Hp)(a:Addr)(L:List V->Prop):Prop|mk (xs:List V) (q:H a=some (.l xs)) (l:L xs)
inductive OOb(H:Hp)(a:Addr)(ca:Option Addr)(L:List (Str×V)->Prop):Prop|mk (C dx:Addr) (gs:List (Str×V)) (ad:ca=some C) (q:H a=some (.ins C dx gs)) (l:L gs)
inductive ODi(H:Hp)(a:Addr)(L:List (Key×V)->Prop):Prop|mk (gs:List (Key×V)) (q:H a=some (.dK gs)) (l:L gs)
inductive OTb(D:DP)(φ α:List Addr)(H:Hp)(j:Nat)(a:Addr):Prop|mk (poss:List Pos) (qn:Str) (ps:Array Value) (h1:D.tabs j=some (a,poss,qn)) (h2:H a=some (.tbl ps)) (h3:TriplesOk ps.toList) (h4:∀pos∈poss,codeAmong pos ps.toList=none\/∃c,codeAmong pos ps.toList=some (.ref c)/\c∉φ/\c∉α/\H c=some (.ext (wC c qn)))
inductive OFr(H:Hp)(a:Addr)(ep:Nat)(L:List (Key×V)->Prop):Prop|mk (gs:List (Key×V)) (q:H a=some (.dE ep gs)) (l:L gs)
noncomputable def DenO (D:DP)(φ α:List Addr)(H:Hp):MO->Addr->Prop
 |.l d,a=>OLs H a (DenL D φ α H d)
 |.obj c fs,a=>OOb H a (D.cad c) (DenF D φ α H fs)
 |.d b,a=>ODi H a (DenK D φ α H b)
 |.tab j,a=>OTb D φ α H j a
 |.frd e b,a=>OFr H a e (DenK D φ α H b)
structure Stp(α:List Addr)(H:Hp)(α':List Addr)(H':Hp):Prop where
 ext:∃β,α'=α++β/\∀b∈β,H b=none
 keep:∀b o,b∉α->H b=some o->H' b=some o
 live:∀b,H' b=none->H b=none
theorem Stp.refl(α:List Addr)(H:Hp):Stp α H α H:=⟨⟨[],sC,sC⟩,λ_ _ _ e=>e,λ_ e=>e⟩
theorem Stp.trans(a:Stp α H s w)(b:Stp s w j u):Stp α H j u:=by
 obtain⟨β,rfl,d⟩:=a.ext;obtain⟨g,rfl,f⟩:=b.ext;refine⟨⟨β++g,sC,λc hc=>?_⟩,λc o n e=>?_,λc e=>a.live c (b.live c e)⟩
 .rcases z5L.mp hc with h|h
  .exact d c h
  .exact a.live c (f c h)
 .refine b.keep c o (λh=>?_) (a.keep c o n e);rcases z5L.mp h with h|h
  .exact n h
  .rw[d c h] at e;exact z7 e
theorem Stp.new(s:jv H j):Stp α H α j:=⟨⟨[],sC,sC⟩,λb o _ e=>s b o e,λb e=>by
 cases q:H b with
 |none=>rfl
 |some o=>rw[s b o q] at e;exact vD e⟩
theorem zh(h:H p=none):jv H (upd H p o):=λb u e=>(z4 (zM e h))▸e
theorem Stp.out(s:Stp α H j u)(n:a∉α)(e:H a=some o):a∉j:=by
 obtain⟨β,rfl,b⟩:=s.ext;intro h;rcases z5L.mp h with h|h
 .exact n h
 .rw[b a h] at e;exact z7 e
section
variable {α:List Addr}
structure Lk(φ α:List Addr)(H:Hp)(φ' α':List Addr)(H':Hp):Prop where
 ob:∀a o,a∉φ->a∉α->H a=some o->a∉φ'/\a∉α'/\H' a=some o
 st:∀(i:Nat) (a:Addr),α[i]?=some a->α'[i]?=some a
mutual
theorem Den.lk(h:Lk φ α H s u w):∀{t:T} {v:V},Den D φ α H t v->Den D s u w t v
 |.n,_,d=>d
 |.bl _,_,d=>d
 |.int _,_,d=>d
 |.str _,_,d=>d
 |.m i,_,d=>by obtain⟨a,e,q⟩:=d;exact⟨a,h.st i a e,q⟩
 |.t ts,_,d=>by
  obtain⟨a,xs,rfl,n1,n2,r,l⟩:=d;rcases r with r|⟨o,r⟩
  .obtain⟨m1,b,e⟩:=h.ob a _ n1 n2 r;exact⟨a,xs,rfl,m1,b,.inl e,DenL.lk h l⟩
  .obtain⟨m1,b,e⟩:=h.ob a _ n1 n2 r;exact⟨a,xs,rfl,m1,b,.inr ⟨o,e⟩,DenL.lk h l⟩
 |.l ts,_,d=>by
  obtain⟨a,xs,rfl,n1,n2,r,l⟩:=d;rcases r with r|⟨o,r⟩
  .obtain⟨m1,b,e⟩:=h.ob a _ n1 n2 r;exact⟨a,xs,rfl,m1,b,.inl e,DenL.lk h l⟩
  .obtain⟨m1,b,e⟩:=h.ob a _ n1 n2 r;exact⟨a,xs,rfl,m1,b,.inr ⟨o,e⟩,DenL.lk h l⟩
 |.obj c fs,_,d=>by
  obtain⟨a,C,k,f,rfl,n1,n2,ad,e,l⟩:=d;obtain⟨m1,b,e⟩:=h.ob a _ n1 n2 e;exact⟨a,C,k,f,rfl,m1,b,ad,e,DenF.lk h l⟩
 |.exc c fs,_,d=>by
  obtain⟨a,C,d,rfl,n1,n2,ad,e,l⟩:=d;obtain⟨m1,b,e⟩:=h.ob a _ n1 n2 e;refine⟨a,C,d,rfl,m1,b,ad,e,?_⟩;cases d with
  |none=>exact l
  |some k=>
   obtain⟨f,k1,k2,g,l⟩:=l;obtain⟨k1,k2,g⟩:=h.ob k _ k1 k2 g;exact⟨f,k1,k2,g,DenF.lk h l⟩
 |.d m,_,d=>by
  obtain⟨a,f,rfl,n1,n2,e,l⟩:=d;obtain⟨m1,b,e⟩:=h.ob a _ n1 n2 e;exact⟨a,f,rfl,m1,b,e,DenK.lk h l⟩
 |.clo j cs,_,d=>by
  obtain⟨a,ob,xs,rfl,c,e,l⟩:=d;exact⟨a,ob,xs,rfl,c,λo z=>let ⟨n1,n2,q⟩:=e o z;h.ob a o n1 n2 q,DenL.lk h l⟩
theorem DenL.lk(h:Lk φ α H j s u):∀{ts:List T} {vs:List V},DenL D φ α H ts vs->DenL D j s u ts vs
 |[],_,l=>l
 |t::ts,_,l=>by
  obtain⟨v,r,rfl,a,b⟩:=l;exact⟨v,r,rfl,Den.lk h a,DenL.lk h b⟩
theorem DenF.lk(h:Lk φ α H j s u):∀{fs:List (Nat×T)} {c:List (Str×V)},DenF D φ α H fs c->DenF D j s u fs c
 |[],_,l=>l
 |p::fs,_,l=>by
  obtain⟨x,v,r,e,rfl,a,b⟩:=l;exact⟨x,v,r,e,rfl,Den.lk h a,DenF.lk h b⟩
theorem DenK.lk(h:Lk φ α H j s u):∀{fs:List (Key×T)} {c:List (Key×V)},DenK D φ α H fs c->DenK D j s u fs c
 |[],_,l=>l
 |p::fs,_,l=>by
  obtain⟨v,r,rfl,a,b⟩:=l;exact⟨v,r,rfl,Den.lk h a,DenK.lk h b⟩
end
theorem Stp.lk(s:Stp α H j u):Lk φ α H φ j u:=⟨λa o n1 n2 e=>⟨n1,s.out n2 e,s.keep a o n2 e⟩,λi a e=>by
 obtain⟨β,rfl,_⟩:=s.ext;rw[z5N (z5C.mp e).1];exact e⟩
theorem Den.step(s:Stp α H j u)(d:Den D φ α H t v):Den D φ j u t v:=d.lk s.lk
theorem DenL.step(s:Stp α H j u)(d:DenL D φ α H t v):DenL D φ j u t v:=d.lk s.lk
theorem DenF.step(s:Stp α H j u)(d:DenF D φ α H t v):DenF D φ j u t v:=d.lk s.lk
theorem DenK.step(s:Stp α H j u)(d:DenK D φ α H t v):DenK D φ j u t v:=d.lk s.lk
theorem XDict.lk(h:Lk φ α H j s u)(x:XDict D φ α H fs d):XDict D j s u fs d:=by
 cases d with
 |none=>exact x
 |some c=>
  obtain⟨b,k1,k2,a,l⟩:=x;obtain⟨k1,k2,a⟩:=h.ob c _ k1 k2 a;exact⟨b,k1,k2,a,DenF.lk h l⟩
mutual
theorem Den.hide:∀{t:T} {v:V},vF t=true->Den D φ α H t v->(∀a,a∉φ->a∉α->a∉s/\a∉β)->Den D s β H t v
 |.n,_,_,h,_=>h
 |.bl _,_,_,h,_=>h
 |.int _,_,_,h,_=>h
 |.str _,_,_,h,_=>h
 |.m i,_,p,_,_=>by simp[vF] at p
 |.t ts,_,p,h,k=>by
  obtain⟨a,xs,rfl,n1,n2,r,l⟩:=h;exact⟨a,xs,rfl,(k a n1 n2).1,(k a n1 n2).2,r,DenL.hide (by simpa[vF] using p) l k⟩
 |.l ts,_,p,h,k=>by
  obtain⟨a,xs,rfl,n1,n2,r,l⟩:=h;exact⟨a,xs,rfl,(k a n1 n2).1,(k a n1 n2).2,r,DenL.hide (by simpa[vF] using p) l k⟩
 |.obj c fs,_,p,h,k=>by
  obtain⟨a,C,f,b,rfl,n1,n2,ad,e,l⟩:=h;exact⟨a,C,f,b,rfl,(k a n1 n2).1,(k a n1 n2).2,ad,e,DenF.hide (by simpa[vF] using p) l k⟩
 |.exc c fs,_,p,h,k=>by
  obtain⟨a,C,d,rfl,n1,n2,ad,e,l⟩:=h;refine⟨a,C,d,rfl,(k a n1 n2).1,(k a n1 n2).2,ad,e,?_⟩;cases d with
  |none=>exact l
  |some f=>
   obtain⟨b,k1,k2,m,l⟩:=l;exact⟨b,(k f k1 k2).1,(k f k1 k2).2,m,DenF.hide (by simpa[vF] using p) l k⟩
 |.d g,_,p,h,k=>by
  obtain⟨a,b,rfl,n1,n2,e,l⟩:=h;exact⟨a,b,rfl,(k a n1 n2).1,(k a n1 n2).2,e,DenK.hide (by simpa[vF] using p) l k⟩
 |.clo j cs,_,p,h,k=>by
  obtain⟨a,ob,xs,rfl,c,e,l⟩:=h;exact⟨a,ob,xs,rfl,c,λo z=>let ⟨n1,n2,q⟩:=e o z;⟨(k a n1 n2).1,(k a n1 n2).2,q⟩,DenL.hide (by simpa[vF] using p) l k⟩
theorem DenL.hide:∀{ts:List T} {vs:List V},xK ts=true->DenL D φ α H ts vs->(∀a,a∉φ->a∉α->a∉j/\a∉β)->DenL D j β H ts vs
 |[],_,_,h,_=>h
 |t::ts,_,p,h,k=>by
  obtain⟨v,r,rfl,a,b⟩:=h;simp only[xK,z5P] at p;exact⟨v,r,rfl,Den.hide p.1 a k,DenL.hide p.2 b k⟩
theorem DenF.hide:∀{fs:List (Nat×T)} {c:List (Str×V)},kP fs=true->DenF D φ α H fs c->(∀a,a∉φ->a∉α->a∉j/\a∉β)->DenF D j β H fs c
 |[],_,_,h,_=>h
 |q::fs,_,p,h,k=>by
  obtain⟨x,v,r,e,rfl,a,b⟩:=h;simp only[kP,z5P] at p;exact⟨x,v,r,e,rfl,Den.hide p.1 a k,DenF.hide p.2 b k⟩
theorem DenK.hide:∀{fs:List (Key×T)} {c:List (Key×V)},Vu fs=true->DenK D φ α H fs c->(∀a,a∉φ->a∉α->a∉j/\a∉β)->DenK D j β H fs c
 |[],_,_,h,_=>h
 |q::fs,_,p,h,k=>by
  obtain⟨v,r,rfl,a,b⟩:=h;simp only[Vu,z5P] at p;exact⟨v,r,rfl,Den.hide p.1 a k,DenK.hide p.2 b k⟩
end
theorem XDict.hide(p:kP fs=true)(x:XDict D φ α H fs d)(k:∀a,a∉φ->a∉α->a∉j/\a∉β):XDict D j β H fs d:=by
 cases d with
 |none=>exact x
 |some b=>
  obtain⟨c,k1,k2,e,l⟩:=x;exact⟨c,(k b k1 k2).1,(k b k1 k2).2,e,DenF.hide p l k⟩
theorem Uh:∀a:Addr,a∉φ->a∉α->a∉φ++α/\a∉([]:List Addr):=λa c b=>⟨λz=>(z5L.mp z).elim c b,sC⟩
theorem Qq{β:List Addr}:∀a:Addr,a∉φ++α->a∉β->a∉φ/\a∉α:=λa b _=>⟨λz=>b (z65 _ z),λz=>b (z5R _ z)⟩
theorem DenL.length:∀{ts:List T} {vs:List V},DenL D φ α H ts vs->ts.length=vs.length
 |[],_,h=>by have:=h;subst this;rfl
 |t::ts,_,h=>by
  obtain⟨v,r,rfl,_,b⟩:=h;simp[DenL.length b]
theorem DenL.get:∀{ts:List T} {vs:List V} {i:Nat} {t:T},DenL D φ α H ts vs->ts[i]?=some t->∃v,vs[i]?=some v/\Den D φ α H t v
 |[],_,_,_,_,e=>by simp at e
 |t::ts,_,0,_,h,e=>by
  obtain⟨v,r,rfl,a,b⟩:=h;simp at e;subst e;exact⟨v,rfl,a⟩
 |t::ts,_,i+1,u,h,e=>by
  obtain⟨v,r,rfl,a,b⟩:=h;obtain⟨w,c,d⟩:=DenL.get b (by simpa using e);exact⟨w,by simpa using c,d⟩
theorem DenL.append:∀{ts d:List T} {vs c:List V},DenL D φ α H ts vs->DenL D φ α H d c->DenL D φ α H (ts++d) (vs++c)
 |[],d,_,c,h,k=>by have:=h;subst this;exact k
 |t::ts,d,_,c,h,k=>by
  obtain⟨v,r,rfl,a,b⟩:=h;exact⟨v,r++c,rfl,a,DenL.append b k⟩
theorem DenL.drop:∀(n:Nat) {ts:List T} {vs:List V},DenL D φ α H ts vs->DenL D φ α H (ts.drop n) (vs.drop n)
 |0,_,_,h=>h
 |n+1,[],_,h=>by have:=h;subst this;exact rfl
 |n+1,t::ts,_,h=>by
  obtain⟨v,r,rfl,a,b⟩:=h;exact DenL.drop n b
theorem DenL.take:∀(n:Nat) {ts:List T} {vs:List V},DenL D φ α H ts vs->DenL D φ α H (ts.take n) (vs.take n)
 |0,_,_,h=>by simp[DenL]
 |n+1,[],_,h=>by have:=h;subst this;exact rfl
 |n+1,t::ts,_,h=>by
  obtain⟨v,r,rfl,a,b⟩:=h;exact⟨v,r.take n,rfl,a,DenL.take n b⟩
theorem DenL.set:∀{ts:List T} {vs:List V} {i:Nat} {t:T} {v:V},DenL D φ α H ts vs->Den D φ α H t v->DenL D φ α H (ts.set i t) (vs.set i v)
 |[],vs,i,t,v,l,d=>by have l:=l;subst l;exact rfl
 |x::ts,_,0,t,v,l,d=>by
  obtain⟨w,r,rfl,a,l⟩:=l;exact⟨v,r,rfl,d,l⟩
 |x::ts,_,i+1,t,v,l,d=>by
  obtain⟨w,r,rfl,a,l⟩:=l;exact⟨w,r.set i v,rfl,a,DenL.set l d⟩
theorem DenF.look:∀{fs:List (Nat×T)} {c:List (Str×V)} {f:Nat} {t:T},DenF D φ α H fs c->JI fs f=some t->∃x v,D.fn f=some x/\c.lookup x=some v/\Den D φ α H t v
 |[],_,_,_,_,e=>by simp at e
 |p::fs,_,f,t,h,e=>by
  obtain⟨x,v,r,ex,rfl,a,b⟩:=h;rw[K2] at e;cases q:z7R p.1 f with
  |true=>
   rw[q] at e;(replace e:=zm e;subst e);exact⟨x,v,(z86 q)▸ex,sC,a⟩
  |false=>
   rw[q] at e;obtain⟨y,w,h1,h2,d⟩:=DenF.look b e;refine⟨y,w,h1,?_,d⟩;rw[z6v];have ne:(y==x)=false:=by
    refine beq_eq_false_iff_ne.mpr λz=>?_;subst z;have:=D.inj _ _ _ ex h1;rw[this] at q;simp at q
   rw[ne];exact h2
theorem DenF.put(b:D.fn f=some x):∀{fs:List (Nat×T)} {c:List (Str×V)},DenF D φ α H fs c->Den D φ α H t w->DenF D φ α H (XR f t fs) (wX x w c)
 |[],c,h,d=>by
  have:=h;subst this;exact⟨x,w,[],b,rfl,d,rfl⟩
 |p::fs,c,h,d=>by
  obtain⟨z,y,r,a,rfl,i,l⟩:=h;rw[K6];show DenF D φ α H _ (if z=x then (z,w)::r else (z,y)::wX x w r);cases q:z7R p.1 f with
  |true=>
   have g:=z86 q;have:z=x:=by rw[g,b] at a;exact (z5J a).symm
   rw[if_pos this];exact⟨z,w,r,a,rfl,d,l⟩
  |false=>
   have:z≠x:=λe=>by
    subst e;have:=D.inj _ _ _ a b;rw[this] at q;simp at q
   rw[if_neg this];exact⟨z,y,wX x w r,a,rfl,i,DenF.put b l d⟩
theorem DenF.length:∀{fs:List (Nat×T)} {a:List (Str×V)},DenF D φ α H fs a->fs.length=a.length
 |[],_,h=>by have:=h;subst this;rfl
 |p::fs,_,h=>by
  obtain⟨x,v,r,_,rfl,_,b⟩:=h;simp[DenF.length b]
noncomputable def noF:HO->Bool
 |.frz _ _=>false
 |_=>true
structure MRel(D:DP)(φ α:List Addr)(H:Hp)(μ:Mem):Prop where
 len:α.length=μ.length
 nd:α.Nodup
 dis:∀b∈α,b∉φ
 phi:∀b∈φ,∃o,H b=some o/\noF o=true
 ob:∀(i:Nat) (a:Addr) (o:MO),α[i]?=some a->μ[i]?=some o->DenO D φ α H o a
theorem DenO.lk(s:Lk φ α H u w z)(e:z a=H a)(h:DenO D φ α H o a):DenO D u w z o a:=by
 cases o with
 |l ts=>
  obtain⟨xs,q,l⟩:=h;exact⟨xs,e.trans q,DenL.lk s l⟩
 |obj c fs=>
  obtain⟨C,r,n,ad,q,l⟩:=h;exact⟨C,r,n,ad,e.trans q,DenF.lk s l⟩
 |d b=>
  obtain⟨xs,q,l⟩:=h;exact⟨xs,e.trans q,DenK.lk s l⟩
 |tab j=>
  obtain⟨pos,qn,ps,h1,h2,m,k⟩:=h;refine⟨pos,qn,ps,h1,e.trans h2,m,λp i=>(k p i).imp id λ⟨c,k1,k2,k3,g⟩=>?_⟩;obtain⟨m1,f,d⟩:=s.ob c _ k2 k3 g;exact⟨c,k1,m1,f,d⟩
 |frd ep b=>
  obtain⟨xs,q,l⟩:=h;exact⟨xs,e.trans q,DenK.lk s l⟩
theorem DenO.step(s:Stp α H j u)(e:u a=H a)(h:DenO D φ α H o a):DenO D φ j u o a:=h.lk s.lk e
theorem DenO.some(h:DenO D φ α H o a):∃u,H a=Option.some u/\noF u=true:=by
 cases o with
 |l ts=>obtain⟨xs,q,_⟩:=h;exact⟨_,q,rfl⟩
 |obj c fs=>obtain⟨C,e,d,_,q,_⟩:=h;exact⟨_,q,rfl⟩
 |d ts=>obtain⟨xs,q,_⟩:=h;exact⟨_,q,rfl⟩
 |tab j=>obtain⟨_,_,ps,_,q,_⟩:=h;exact⟨_,q,rfl⟩
 |frd ep b=>obtain⟨xs,q,_⟩:=h;exact⟨_,q,rfl⟩
theorem MRel.new(m:MRel D φ α H μ)(s:jv H j):MRel D φ α j μ:=
 ⟨m.len,m.nd,m.dis,λb c=>let ⟨o,e,n⟩:=m.phi b c;⟨o,s b o e,n⟩,λi a o g f=>by
  have d:=m.ob i a o g f;obtain⟨u,q,_⟩:=d.some;exact d.step (Stp.new s) ((s _ _ q).trans q.symm)⟩
theorem MRel.lk(h:Lk φ α H j α s)(c:∀a∈α,s a=H a/\a∉j)(d:∀b∈j,∃o,s b=some o/\noF o=true)(m:MRel D φ α H μ):MRel D j α s μ:=
 ⟨m.len,m.nd,λb f=>(c b f).2,d,λi a o e g=>(m.ob i a o e g).lk h (c a (z5E e)).1⟩
structure SRel(D:DP)(φ α:List Addr)(H:Hp)(τ:Sl)(σ:St):Prop where
 len:τ.length=σ.length
 val:∀(i:Nat) (t:T),τ[i]?=some (some t)->∃v,σ[i]?=some (some v)/\Den D φ α H t v
theorem SRel.lk(r:SRel D φ α H w z)(s:Lk φ α H j u B):SRel D j u B w z:=⟨r.len,λi t e=>by
 obtain⟨v,q,d⟩:=r.val i t e;exact⟨v,q,d.lk s⟩⟩
theorem SRel.step(r:SRel D φ α H u w)(s:Stp α H j z):SRel D φ j z u w:=r.lk s.lk
theorem SRel.set(r:SRel D φ α H s w)(d:Den D φ α H t v):SRel D φ α H (ud s i (some t)) (w.set i (some v)):=by
 rw[xD];refine⟨by simp[r.len],λj u e=>?_⟩;by_cases h:i=j
 .subst h;rw[z8G] at e;cases q:s[i]? with
  |none=>rw[q] at e;exact z7 e
  |some o=>
   rw[q] at e;simp at e;subst e;have a:i<w.length:=r.len▸(z5C.mp q).1;exact⟨v,by simp[a],d⟩
 .rw[z5G h] at e ⊢;exact r.val j u e
theorem SRel.unset(r:SRel D φ α H s u):SRel D φ α H (ud s i none) (u.set i none):=by
 rw[xD];refine⟨by simp[r.len],λj t e=>?_⟩;by_cases h:i=j
 .subst h;rw[z8G] at e;cases q:s[i]? with
  |none=>rw[q] at e;exact z7 e
  |some o=>rw[q] at e;cases e
 .rw[z5G h] at e ⊢;exact r.val j t e
theorem SRel.get(r:SRel D φ α H j s)(e:Ju j i=some t):∃v,s[i]?=some (some v)/\Den D φ α H t v:=r.val i t (Zr.mp e)
end
theorem kB(f:H b=none):Lk φ α H (φ++[b]) α H:=by
 refine⟨λa o d c e=>⟨λz=>?_,c,e⟩,λ_ _ e=>e⟩;rcases z5L.mp z with z|z
 .exact d z
 .rw[z5F.mp z,f] at e;exact z7 e
theorem Qb(h:H b=none)(s:jv H j):Lk φ α H (φ++[b]) α j:=⟨λa o g f e=>let ⟨d,c,i⟩:=(kB h).ob a o g f e;⟨d,c,s a o e⟩,λ_ _ e=>e⟩
theorem w_:Lk (φ++[b]) α H φ α H:=⟨λa o d c e=>⟨λz=>d (z65 _ z),c,e⟩,λ_ _ e=>e⟩
theorem y6(f:b∈φ):Lk φ α H φ α (upd H b u):=⟨λa o c d e=>⟨c,d,(z4 (λz:a=b=>c (by rw[z];exact f)))▸e⟩,λ_ _ e=>e⟩
end
inductive Post(D:DP)(W:XW)(φ α:List Addr)(H:Hp)(σ:St){β:Type}(R:β->Mem->List Addr->Hp->Prop)(r:RE β):Prop where
 |mk (K:β->Mem->Prop) (Z:Xp) (q:r K Z) (h:(∀a μ',K a μ'->∀α' H',Stp α H α' H'->MRel D φ α' H' μ'->R a μ' α' H')/\
  ∀c fs μ',Z c fs μ'->∀α' H' cv d,Stp α H α' H'->MRel D φ α' H' μ'->XCv D c fs cv->XDict D φ α' H' fs d->W cv d σ H')
inductive RdP(D:DP)(H:Hp)(σ:St)(P:List Addr->List Addr->Sl->Mem->Prop):Prop where
 |mk (φ α:List Addr) (τ:Sl) (μ:Mem) (sr:SRel D φ α H τ σ) (mr:MRel D φ α H μ) (p:P φ α τ μ)
section
theorem Post.mono(p:Post D W φ α H B R r)(h:∀a u j w,Stp α H j w->MRel D φ j w u->R a u j w->C a u j w):Post D W φ α H B C r:=by
 obtain⟨K,Z,q,k,z⟩:=p;exact⟨K,Z,q,λa u e j w s m=>h a u j w s m (k a u e j w s m),z⟩
theorem Post.bind{r:RE E}(p:Post D W φ α H w R (r.bind k)):Post D W φ α H w (λa j u B=>Post D W φ u B w R (k a j)) r:=by
 obtain⟨K,Z,q,h,z⟩:=p;exact⟨λa μ=>k a μ K Z,Z,q,λa j e u B s m=>⟨K,Z,e,λb μ2 l f n g i=>h b μ2 l f n (s.trans g) i,λc fs μ2 l f n C d g i=>z c fs μ2 l f n C d (s.trans g) i⟩,z⟩
theorem Post.elim{C:Prop}(p:Post D W φ α H j R RE.st):C:=by obtain⟨_,_,q,_⟩:=p;exact q.elim
theorem Post.grd(p:Post D W φ α H j R (RE.grd c r)):c/\Post D W φ α H j R r:=by
 obtain⟨K,Z,q,h⟩:=p;exact⟨q.1,K,Z,q.2,h⟩
theorem Post.som{k:s->RE β}(p:Post D W φ α H j R (RE.som o k)):∃a,o=some a/\Post D W φ α H j R (k a):=by
 obtain⟨K,Z,⟨a,e,q⟩,h⟩:=p;exact⟨a,e,K,Z,q,h⟩
theorem Post.br(p:Post D W φ α H j R (RE.br b r s)):(b=true/\Post D W φ α H j R r)\/(b=false/\Post D W φ α H j R s):=by
 obtain⟨K,Z,q,h⟩:=p;cases b with
 |true=>exact .inl ⟨rfl,K,Z,q,h⟩
 |false=>exact .inr ⟨rfl,K,Z,q,h⟩
theorem Post.ok(p:Post D W φ α H w R (RE.ok a μ))(s:Stp α H j u)(m:MRel D φ j u μ):R a μ j u:=by
 obtain⟨K,Z,q,h,_⟩:=p;exact h a μ q j u s m
theorem Post.step(p:Post D W φ α H s R r)(st:Stp α H j u):Post D W φ j u s R r:=by
 obtain⟨K,Z,q,h,z⟩:=p;exact⟨K,Z,q,λb μ2 g a i e f=>h b μ2 g a i (st.trans e) f,λc fs μ2 g a i C d e f=>z c fs μ2 g a i C d (st.trans e) f⟩
theorem Post.ex1{a:Type}{P:a->Prop}{k:a->RE β}(p:Post D W φ α H j R (λK Z=>∃x,P x/\k x K Z)):∃x,P x/\Post D W φ α H j R (k x):=by
 obtain⟨K,Z,⟨x,b,q⟩,h⟩:=p;exact⟨x,b,K,Z,q,h⟩
end
noncomputable def rdE (D:DP)(W:XW)(f:De):TE:=λc H Q=>RdP D H c λb h e g=>Post D W b h H c (λt _ a d=>∀v,Den D b a d t v->Q v d) (f e g)
noncomputable def rdT (D:DP)(W:XW)(f:Dt):TT:=λa H Q=>RdP D H a λc g d e=>Post D W c g H a (λb _ _ h=>Q b h) (f d e)
noncomputable def rdA (D:DP)(W:XW)(n:Nat)(f:Da):TA:=λd H Q=>RdP D H d λc i g h=>Post D W c i H d (λj _ a e=>∀b,DenL D c a e j b->b.length=n->Q b e) (f g h)
section
inductive SubP(X:Cx)(D:DP)(W:XW)(pins:List (Addr×Obj))(σ:St)(H:Hp)(φ α:List Addr)(τ:Sl){β:Type}(R:β->Mem->List Addr->Hp->Prop)(k:T->Mem->RE β)(u:Value)(s1:Shared):Prop where
 |mk (v:V) (H1:Hp) (t:T) (μ1:Mem) (α1:List Addr) (i:Inv X pins σ H1 s1) (r:RelV v u) (st:Stp α H α1 H1) (sr:SRel D φ α1 H1 τ σ) (mr:MRel D φ α1 H1 μ1) (d:Den D φ α1 H1 t v) (p:Post D W φ α1 H1 σ R (k t μ1))
inductive SubT(X:Cx)(D:DP)(W:XW)(pins:List (Addr×Obj))(σ:St)(H:Hp)(φ α:List Addr)(τ:Sl){β:Type}(R:β->Mem->List Addr->Hp->Prop)(k:Bool->Mem->RE β)(b:Bool)(s1:Shared):Prop where
 |mk (H1:Hp) (μ1:Mem) (α1:List Addr) (i:Inv X pins σ H1 s1) (st:Stp α H α1 H1) (sr:SRel D φ α1 H1 τ σ) (mr:MRel D φ α1 H1 μ1) (p:Post D W φ α1 H1 σ R (k b μ1))
inductive SubA(X:Cx)(D:DP)(W:XW)(pins:List (Addr×Obj))(σ:St)(H:Hp)(φ α:List Addr)(τ:Sl){β:Type}(R:β->Mem->List Addr->Hp->Prop)(n:Nat)(k:List T->Mem->RE β)(us:List Value)(s1:Shared):Prop where
 |mk (vs:List V) (H1:Hp) (ts:List T) (μ1:Mem) (α1:List Addr) (i:Inv X pins σ H1 s1) (r:Vals vs us) (st:Stp α H α1 H1) (sr:SRel D φ α1 H1 τ σ) (mr:MRel D φ α1 H1 μ1) (d:DenL D φ α1 H1 ts vs) (hn:vs.length=n) (p:Post D W φ α1 H1 σ R (k ts μ1))
theorem sub{f:Sl->Mem->RE T}(o:PE X a (rdE D W f))(I:Inv X j z H s)(l:SRel D φ α H B z)(n:MRel D φ α H μ)(p:Post D W φ α H z R ((f B μ).bind k)) :
  z5V (z5X X.prog X.w) X.A (eval a X.env) (SubP X D W j z H φ α B R k) X.xe s:=by
 refine thn (o j s z H (λv e=>∃t c b,Stp α H b e/\SRel D φ b e B z/\MRel D φ b e c/\Den D φ b e t v/\Post D W φ b e z R (k t c)) I ⟨φ,α,B,μ,l,n,p.bind.mono λt g i J st m q v d=>⟨t,g,i,st,l.step st,m,d,q⟩⟩) ?_;rintro u G ⟨v,e,F,r,t,c,b,E,C,y,x,h⟩;exact⟨v,e,t,c,b,F,r,E,C,y,x,h⟩
theorem z30{f:Sl->Mem->RE Bool}(o:PT X a (rdT D W f))(I:Inv X j u H s)(l:SRel D φ α H z u)(n:MRel D φ α H μ)(p:Post D W φ α H u R ((f z μ).bind k)) :
  z5V (z5X X.prog X.w) X.A (isTrue a X.env (eval a X.env)) (SubT X D W j u H φ α z R k) X.xe s:=by
 refine thn (o j s u H (λb e=>∃d c,Stp α H c e/\SRel D φ c e z u/\MRel D φ c e d/\Post D W φ c e u R (k b d)) I ⟨φ,α,z,μ,l,n,p.bind.mono λb g i B st m q=>⟨g,i,st,l.step st,m,q⟩⟩) ?_;rintro b y ⟨e,x,d,c,v,t,r,h⟩;exact⟨e,d,c,x,v,t,r,h⟩
theorem KD(x:PA X es (rdA D W n f))(I:Inv X j u H s)(o:SRel D φ α H z u)(t:MRel D φ α H μ)(p:Post D W φ α H u R ((f z μ).bind k)) :
  z5V (z5X X.prog X.w) X.A (spliced (z8e pos (z6H es X.env))) (SubA X D W j u H φ α z R n k) X.xe s:=by
 refine thn (x pos j s u H (λg c=>∃e b a,Stp α H a c/\SRel D φ a c z u/\MRel D φ a c b/\DenL D φ a c e g/\g.length=n/\Post D W φ a c u R (k e b)) I ⟨φ,α,z,μ,o,t,p.bind.mono λe i l L st m q g d v=>⟨e,i,l,st,o.step st,m,d,v,q⟩⟩) ?_;rintro J K ⟨g,c,G,r,e,b,a,F,E,C,B,y,h⟩;exact⟨g,c,e,b,a,G,r,F,E,C,B,y,h⟩
abbrev RV(D:DP)(φ:List Addr)(Q:VK):T->Mem->List Addr->Hp->Prop:=λt _ a b=>∀v,Den D φ a b t v->Q v b
theorem Post.here(p:Post D W φ α H j (RV D φ Q) (.ok t μ))(a:MRel D φ α H μ)(d:Den D φ α H t v):Q v H:=p.ok (Stp.refl _ _) a v d
theorem Post.fresh(p:Post D W φ α H s (RV D φ Q) (.ok t μ))(a:MRel D φ α H μ)(sm:jv H j)(d:Den D φ α j t v):Q v j:=p.ok (Stp.new sm) (a.new sm) v d
theorem zF(h:n<=room):n<=sizeLine:=z66 h dC
theorem zo(a:MRel D φ α H μ)(h:H p=none):p∉φ:=λz=>by
 obtain⟨o,e,_⟩:=a.phi p z;rw[h] at e;exact z7 e
theorem zp(a:MRel D φ α H μ)(h:H p=none):p∉α:=λz=>by
 obtain⟨i,b⟩:=z6d.mp z;have c:i<μ.length:=a.len▸(z5C.mp b).1;obtain⟨u,e,_⟩:=(a.ob i p μ[i] b sC).some;rw[h] at e;exact z7 e
theorem vx:∀{ts:List T} {ns:List Int} {vs:List V},intsOf ts=some ns->DenL D φ α H ts vs->vs=ns.map V.int
 |[],ns,vs,h,l=>by
  simp[intsOf] at h;subst h;exact l
 |t::ts,ns,vs,h,l=>by
  obtain⟨v,r,rfl,d,l⟩:=l;cases t with
  |int i=>
   simp only[intsOf] at h;cases q:intsOf ts with
   |none=>rw[q] at h;exact z7 h
   |some a=>
    rw[q] at h;(injection h with h;subst h);rw[vx q l];rw[d];rfl
  |_=>simp[intsOf] at h
theorem Vs:OpR X (z8u .Add) (λx y H Q=>∃l b xs j,x=.ref l/\y=.ref b/\Rd H l (.l xs)/\Rd H b (.l j)/\xs.length+j.length<=sizeLine/\∀p,H p=none->Q (.ref p) (upd H p (.l (xs++j)))):=by
 intro f s w H x y v u Q I k i h;obtain⟨l,b,xs,j,rfl,rfl,m,o,g,q⟩:=h;subst k;subst i;obtain⟨z,c,n,r,e⟩:=m.ok I.hok;obtain⟨A,a,B,d,t⟩:=o.ok I.hok;refine PySem.P.add_list e t ?_ (by rw[z63,z63,<-r.length,<-d.length];exact g);rw[show c.toArray++a.toArray=(c++a).toArray by simp];exact⟨.ref _,_,I.lnew (r.append d) (z6k▸g),rfl,q _ I.fresh⟩
theorem Kc:OpR X (z8u .FloorDiv) (rI (λ_ j=>0<j/\j<1606938044258990275541962092341162602522202993782792835301376) λi j=>.int (i / j)):=opI λi j _ _ _ _ _ a q=>by
 refine floordiv_int (by omega) (by rw[z9l i (by omega)];exact q) (.inl (PyProof.noPylong_of_log2 ?_));refine z5S ((zdc (by omega)).2 (show j.natAbs<2 ^ 200 by omega)) dC
theorem j3{f:Int->Int->Mem->RE T}{x:T}(p:Post D W φ α H s (RV D φ Q) (Wa f x y μ)):∃i j,x=.int i/\y=.int j/\Post D W φ α H s (RV D φ Q) (f i j μ):=by
 unfold Wa at p;split at p
 .exact⟨_,_,rfl,rfl,p⟩
 .exact p.elim
theorem z0Q{op:Operator}{x y:T}{v1:V}{J G:Value}(I:Inv X u B H s)(c:MRel D φ α H μ)(e:Den D φ α H x v1)(d:Den D φ α H y M)(l:RelV v1 J)(k:RelV M G)
  (p:Post D W φ α H B (RV D φ Q) (z3A op x y μ)):z5V (z5X X.prog X.w) X.A (z8u op J G) (EP X u B Q) X.xe s:=by
 have F:∀{a b:Addr} {g f:List V} {xs E:List T},Rd H a (.l g)->Rd H b (.l f)->DenL D φ α H xs g->DenL D φ α H E f->v1=.ref a->M=.ref b->xs.length+E.length<=room->Post D W φ α H B (RV D φ Q) (RE.ok (.l (xs++E)) μ)->z5V (z5X X.prog X.w) X.A (z8u .Add J G) (EP X u B Q) X.xe s:=λ{a b g f xs E} t r n m P O h p=>by
  subst P O;refine Vs u s B H _ _ _ _ Q I l k ⟨a,b,g,f,rfl,rfl,t,r,n.length▸m.length▸zF h,λz v=>?_⟩;have q:=zh (o:=.l (g++f)) v;exact p.fresh c q ⟨z,_,rfl,zo c v,zp c v,.inl z0,(n.step (Stp.new q)).append (m.step (Stp.new q))⟩
 cases op with
 |Add=>
  replace p:Post D W φ α H B (RV D φ Q) (z2w x y μ):=p;unfold z2w at p;split at p
  .subst e;subst d;exact z0s u s B H _ _ _ _ Q I l k ⟨_,_,rfl,rfl,p.here c rfl⟩
  .cases e;cases d;obtain⟨h,p⟩:=p.grd;exact Ws u s B H _ _ _ _ Q I l k ⟨_,_,rfl,rfl,zF h,p.here c rfl⟩
  .obtain⟨h,p⟩:=p.grd;obtain⟨a,g,rfl,S,R,t,n⟩:=e;obtain⟨b,f,rfl,N,L,r,m⟩:=d;refine Vs u s B H _ _ _ _ Q I l k ⟨a,b,g,f,rfl,rfl,t,r,n.length▸m.length▸zF h,λz v=>?_⟩;have q:=zh (o:=.l (g++f)) v;exact p.fresh c q ⟨z,_,rfl,zo c v,zp c v,.inl z0,(n.step (Stp.new q)).append (m.step (Stp.new q))⟩
  .obtain⟨xs,K,p⟩:=p.ex1;obtain⟨h,p⟩:=Post.grd p;obtain⟨a,C,rfl⟩:=e;obtain⟨g,t,n⟩:=c.ob _ a _ C K;obtain⟨b,f,rfl,N,L,r,m⟩:=d;exact F (.inl t) r n m rfl rfl h p
  .obtain⟨E,K,p⟩:=p.ex1;obtain⟨h,p⟩:=Post.grd p;obtain⟨a,C,rfl⟩:=d;obtain⟨g,t,n⟩:=c.ob _ a _ C K;obtain⟨b,f,rfl,N,L,r,m⟩:=e;exact F r (.inl t) m n rfl rfl h p
  .exact p.elim
 |Sub=>
  obtain⟨i,j,rfl,rfl,p⟩:=j3 p;subst e;subst d;exact z1s u s B H _ _ _ _ Q I l k ⟨_,_,rfl,rfl,p.here c rfl⟩
 |Mult=>
  obtain⟨i,j,rfl,rfl,p⟩:=j3 p;subst e;subst d;obtain⟨h,p⟩:=p.grd;exact z2e u s B H _ _ _ _ Q I l k ⟨_,_,rfl,rfl,by simpa[CMul,big] using h,p.here c rfl⟩
 |FloorDiv=>
  obtain⟨i,j,rfl,rfl,p⟩:=j3 p;subst e;subst d;obtain⟨h,p⟩:=p.grd;exact Kc u s B H _ _ _ _ Q I l k ⟨_,_,rfl,rfl,h,p.here c rfl⟩
 |Mod=>
  obtain⟨i,j,rfl,rfl,p⟩:=j3 p;subst e;subst d;obtain⟨h,p⟩:=p.grd;exact z0n u s B H _ _ _ _ Q I l k ⟨_,_,rfl,rfl,h,p.here c rfl⟩
 |Pow=>
  obtain⟨i,j,rfl,rfl,p⟩:=j3 p;subst e;subst d;obtain⟨h,p⟩:=p.grd;exact z2k u s B H _ _ _ _ Q I l k ⟨_,_,rfl,rfl,⟨h.1,h.2.1,by simpa using h.2.2⟩,p.here c rfl⟩
 |RShift=>
  obtain⟨i,j,rfl,rfl,p⟩:=j3 p;subst e;subst d;obtain⟨h,p⟩:=p.grd;exact z2f u s B H _ _ _ _ Q I l k ⟨_,_,rfl,rfl,h,p.here c rfl⟩
 |_=>exact p.elim
end
section
section
theorem Rd.inj(b:∀o z,u≠.frz o z)(hw:∀o z,w≠.frz o z)(r:Rd H a u)(q:Rd H a w):u=w:=by
 rcases r with r|⟨o,r⟩<;>rcases q with q|⟨c,q⟩<;>rw[r] at q
 .exact z5J q
 .exact absurd (z5J q) (b _ _)
 .exact absurd (z5J q).symm (hw _ _)
 .injection z5J q
mutual
theorem yS:∀{t u:T} {v:V} {k:Bool},Den D φ α H t v->Den D φ α H u v->eqT t u=some k->k=true
 |.int i,u,_,k,f,c,e=>by
  subst f;cases u with
  |int j=>have c:=c;injection c with c;subst c;rw[<-z5J e];simp
  |bl b=>have c:=c;injection c
  |str b=>have c:=c;injection c
  |n=>have c:=c;injection c
  |t b=>obtain⟨_,_,c,_⟩:=c;injection c
  |l b=>obtain⟨_,_,c,_⟩:=c;injection c
  |_=>exact z7 e
 |.bl i,u,_,k,f,c,e=>by
  subst f;cases u with
  |bl j=>have c:=c;injection c with c;subst c;rw[<-z5J e];simp
  |int b=>have c:=c;injection c
  |str b=>have c:=c;injection c
  |n=>have c:=c;injection c
  |t b=>obtain⟨_,_,c,_⟩:=c;injection c
  |l b=>obtain⟨_,_,c,_⟩:=c;injection c
  |_=>exact z7 e
 |.str i,u,_,k,f,c,e=>by
  subst f;cases u with
  |str j=>have c:=c;injection c with c;subst c;rw[<-z5J e];simp
  |int b=>have c:=c;injection c
  |bl b=>have c:=c;injection c
  |n=>have c:=c;injection c
  |t b=>obtain⟨_,_,c,_⟩:=c;injection c
  |l b=>obtain⟨_,_,c,_⟩:=c;injection c
  |_=>exact z7 e
 |.n,u,_,k,f,c,e=>by
  subst f;cases u with
  |n=>exact (z5J e).symm
  |int b=>have c:=c;injection c
  |bl b=>have c:=c;injection c
  |str b=>have c:=c;injection c
  |t b=>obtain⟨_,_,c,_⟩:=c;injection c
  |l b=>obtain⟨_,_,c,_⟩:=c;injection c
  |_=>exact z7 e
 |.t o,u,_,k,f,c,e=>by
  obtain⟨a,xs,rfl,_,_,r,l⟩:=f;cases u with
  |t n=>
   obtain⟨b,m,d,_,_,g,h⟩:=c;(injection d with d;subst d);have:=Rd.inj (by intro _ _ z;injection z) (by intro _ _ z;injection z) r g;injection this with this;subst this;exact kD l h e
  |l n=>
   obtain⟨b,m,d,_,_,g,h⟩:=c;(injection d with d;subst d);have:=Rd.inj (by intro _ _ z;injection z) (by intro _ _ z;injection z) r g;injection this
  |int b=>have c:=c;injection c
  |bl b=>have c:=c;injection c
  |str b=>have c:=c;injection c
  |n=>have c:=c;injection c
  |_=>exact z7 e
 |.l o,u,_,k,f,c,e=>by
  obtain⟨a,xs,rfl,_,_,r,l⟩:=f;cases u with
  |l n=>
   obtain⟨b,m,d,_,_,g,h⟩:=c;(injection d with d;subst d);have:=Rd.inj (by intro _ _ z;injection z) (by intro _ _ z;injection z) r g;injection this with this;subst this;exact kD l h e
  |t n=>
   obtain⟨b,m,d,_,_,g,h⟩:=c;(injection d with d;subst d);have:=Rd.inj (by intro _ _ z;injection z) (by intro _ _ z;injection z) r g;injection this
  |int b=>have c:=c;injection c
  |bl b=>have c:=c;injection c
  |str b=>have c:=c;injection c
  |n=>have c:=c;injection c
  |_=>exact z7 e
 |.obj _ _,_,_,_,_,_,e=>z7 e
 |.m _,_,_,_,_,_,e=>z7 e
 |.exc _ _,_,_,_,_,_,e=>z7 e
 |.d _,_,_,_,_,_,e=>z7 e
 |.clo _ _,_,_,_,_,_,e=>z7 e
theorem kD:∀{ts c:List T} {vs:List V} {k:Bool},DenL D φ α H ts vs->DenL D φ α H c vs->eqL ts c=some k->k=true
 |[],[],_,k,_,_,e=>by simpa[eqL] using e.symm
 |[],_::_,_,k,b,a,e=>by
  obtain⟨_,_,a,_⟩:=a;rw[b] at a;injection a
 |_::_,[],_,k,b,a,e=>by
  obtain⟨_,_,b,_⟩:=b;rw[a] at b;injection b
 |t::ts,u::c,_,k,b,a,e=>by
  obtain⟨v,r,rfl,o,m⟩:=b;obtain⟨p,s,q,n,l⟩:=a;injection q with g f;subst g f;cases h:eqT t u with
  |none=>simp[eqL,h] at e
  |some x=>
   cases d:eqL ts c with
   |none=>simp[eqL,h,d] at e
   |some y=>
    have j:=yS o n h;have i:=kD m l d;subst j i;simpa[eqL,h,d] using e.symm
end
end
section
variable {D:DP}{φ α:List Addr}
theorem xY:∀{ts a:List T} {k:Bool},eqL ts a=some k->(∀j (h1:j<ts.length) (h2:j<a.length),∃b,eqT ts[j] a[j]=some b)/\
  k=((z6V (min ts.length a.length)).all (λj=>match ts[j]?,a[j]? with|some t,some u=>(eqT t u).getD false|_,_=>false)&&ts.length==a.length)
 |[],[],k,e=>by
  simp[eqL] at e;subst e;exact⟨λj h1=>by simp at h1,sC⟩
 |[],u::a,k,e=>by
  simp[eqL] at e;subst e;exact⟨λj h1=>by simp at h1,sC⟩
 |t::ts,[],k,e=>by
  simp[eqL] at e;subst e;exact⟨λj h1 h2=>by simp at h2,sC⟩
 |t::ts,u::a,k,e=>by
  cases h:eqT t u with
  |none=>simp[eqL,h] at e
  |some x=>
   cases c:eqL ts a with
   |none=>simp[eqL,h,c] at e
   |some y=>
    obtain⟨g,d⟩:=xY c;simp[eqL,h,c] at e;subst e;refine⟨λj h1 h2=>?_,?_⟩
    .cases j with
     |zero=>exact⟨x,h⟩
     |succ j=>exact g j (by simpa using h1) (by simpa using h2)
    .rw[d];have f:min (t::ts).length (u::a).length=min ts.length a.length+1:=by simp
     rw[f,List.range_succ_eq_map,z7o,za3];simp only[z9M,h];rw[Bool.and_assoc];congr 2;simp
theorem in1_units(A:z84):A.in1.units=A.units+1:=by first|rfl|simp[ Around.units]
theorem yw(I:Inv X z B H s)(h1:Den D φ α H (.int i) v)(h2:Den D φ α H u w)(l:RelV v a)(d:RelV w b)(e:eqT (.int i) u=some k)(n:A.units+j8 (.int i)+1<cLine):z7h A s a b k:=by
 subst h1;obtain⟨m,rfl⟩:=l;cases u with
 |int j=>have h2:=h2;subst h2;obtain⟨h,rfl⟩:=d;cases z5J e;exact zaS _ _ _ _
 |bl j=>have h2:=h2;subst h2;subst d;cases z5J e;exact SeqAt.EqAt.int_bool _ _ _
 |str j=>have h2:=h2;subst h2;obtain⟨h,rfl⟩:=d;cases z5J e;exact zaP _ _ _ _
 |n=>have h2:=h2;subst h2;subst d;cases z5J e;exact SeqAt.EqAt.int_none _ _
 |t g=>obtain⟨c,xs,rfl,_,_,r,_⟩:=h2;subst d;obtain⟨f,_,p,_⟩:=I.tuple (.inl r);cases z5J e;exact SeqAt.EqAt.int_tuple _ _ p lC
 |l g=>obtain⟨c,xs,rfl,_,_,r,_⟩:=h2;subst d;obtain⟨f,_,p,_⟩:=I.list (.inl r);cases z5J e;exact SeqAt.EqAt.int_list _ _ p.isList lC
 |_=>exact z7 e
theorem UK(I:Inv X z B H s)(h1:Den D φ α H (.bl i) v)(h2:Den D φ α H u w)(l:RelV v a)(d:RelV w b)(e:eqT (.bl i) u=some k)(m:A.units+j8 (.bl i)+1<cLine):z7h A s a b k:=by
 subst h1;subst l;cases u with
 |int j=>have h2:=h2;subst h2;obtain⟨h,rfl⟩:=d;cases z5J e;exact SeqAt.EqAt.bool_int _ _ _
 |bl j=>have h2:=h2;subst h2;subst d;cases z5J e;exact SeqAt.EqAt.bool_bool _ _
 |str j=>have h2:=h2;subst h2;obtain⟨h,rfl⟩:=d;cases z5J e;exact SeqAt.EqAt.bool_str _ _ _
 |n=>have h2:=h2;subst h2;subst d;cases z5J e;exact SeqAt.EqAt.bool_none _
 |t g=>obtain⟨c,xs,rfl,_,_,r,_⟩:=h2;subst d;obtain⟨f,_,p,_⟩:=I.tuple (.inl r);cases z5J e;exact SeqAt.EqAt.bool_tuple _ p lC
 |l g=>obtain⟨c,xs,rfl,_,_,r,_⟩:=h2;subst d;obtain⟨f,_,p,_⟩:=I.list (.inl r);cases z5J e;exact SeqAt.EqAt.bool_list _ p.isList lC
 |_=>exact z7 e
theorem Kw(I:Inv X z B H s)(h1:Den D φ α H (.str i) v)(h2:Den D φ α H u w)(l:RelV v a)(d:RelV w b)(e:eqT (.str i) u=some k)(n:A.units+j8 (.str i)+1<cLine):z7h A s a b k:=by
 subst h1;obtain⟨m,rfl⟩:=l;cases u with
 |int j=>have h2:=h2;subst h2;obtain⟨h,rfl⟩:=d;cases z5J e;exact zaQ _ _ _ _
 |bl j=>have h2:=h2;subst h2;subst d;cases z5J e;exact SeqAt.EqAt.str_bool _ _ _
 |str j=>have h2:=h2;subst h2;obtain⟨h,rfl⟩:=d;cases z5J e;exact zaW _ _ _ _
 |n=>have h2:=h2;subst h2;subst d;cases z5J e;exact SeqAt.EqAt.str_none _ _
 |t g=>obtain⟨c,xs,rfl,_,_,r,_⟩:=h2;subst d;obtain⟨f,_,p,_⟩:=I.tuple (.inl r);cases z5J e;exact SeqAt.EqAt.str_tuple _ _ p (by omega)
 |l g=>obtain⟨c,xs,rfl,_,_,r,_⟩:=h2;subst d;obtain⟨f,_,p,_⟩:=I.list (.inl r);cases z5J e;exact SeqAt.EqAt.str_list _ _ p.isList (by omega)
 |_=>exact z7 e
theorem Kp(I:Inv X z B H s)(h1:Den D φ α H .n v)(h2:Den D φ α H u w)(i:RelV v a)(d:RelV w b)(e:eqT .n u=some k)(l:A.units+j8 .n+1<cLine):z7h A s a b k:=by
 subst h1;subst i;cases u with
 |int j=>have h2:=h2;subst h2;obtain⟨h,rfl⟩:=d;cases z5J e;exact SeqAt.EqAt.none_int _ _
 |bl j=>have h2:=h2;subst h2;subst d;cases z5J e;exact SeqAt.EqAt.none_bool _
 |str j=>have h2:=h2;subst h2;obtain⟨h,rfl⟩:=d;cases z5J e;exact SeqAt.EqAt.none_str _ _
 |n=>have h2:=h2;subst h2;subst d;cases z5J e;exact zad _
 |t g=>obtain⟨c,xs,rfl,_,_,r,_⟩:=h2;subst d;obtain⟨f,_,p,_⟩:=I.tuple (.inl r);cases z5J e;exact SeqAt.EqAt.none_tuple p lC
 |l g=>obtain⟨c,xs,rfl,_,_,r,_⟩:=h2;subst d;obtain⟨f,_,p,_⟩:=I.list (.inl r);cases z5J e;exact SeqAt.EqAt.none_list p.isList lC
 |_=>exact z7 e
theorem WY(I:Inv X B C H s)(o:∀z,u≠.t z)(h1:Den D φ α H (.t ts) v0)(h2:Den D φ α H u w)(h:RelV v0 a)(g:RelV w b)(e:eqT (.t ts) u=some k)(v:A.units+j8 (.t ts)+1<cLine):z7h A s a b k:=by
 cases u with
 |t z=>exact absurd rfl (o z)
 |l z=>
  obtain⟨c,xs,rfl,_,_,r,l⟩:=h1;obtain⟨d,q,rfl,_,_,m,t⟩:=h2;subst h;subst g;obtain⟨_,_,p,_⟩:=I.tuple (.inl r);obtain⟨_,_,n,_⟩:=I.list (.inl m);cases z5J e;exact SeqAt.EqAt.tuple_list p n.isList lC
 |int j=>have h2:=h2;subst h2;obtain⟨i,rfl⟩:=g;obtain⟨c,xs,rfl,_,_,r,_⟩:=h1;subst h;obtain⟨f,_,p,_⟩:=I.tuple (.inl r);cases z5J e;exact SeqAt.EqAt.tuple_int _ _ p lC
 |bl j=>have h2:=h2;subst h2;subst g;obtain⟨c,xs,rfl,_,_,r,_⟩:=h1;subst h;obtain⟨f,_,p,_⟩:=I.tuple (.inl r);cases z5J e;exact SeqAt.EqAt.tuple_bool _ p lC
 |str j=>have h2:=h2;subst h2;obtain⟨i,rfl⟩:=g;obtain⟨c,xs,rfl,_,_,r,_⟩:=h1;subst h;obtain⟨f,_,p,_⟩:=I.tuple (.inl r);cases z5J e;exact SeqAt.EqAt.tuple_str _ _ p lC
 |n=>have h2:=h2;subst h2;subst g;obtain⟨c,xs,rfl,_,_,r,_⟩:=h1;subst h;obtain⟨f,_,p,_⟩:=I.tuple (.inl r);cases z5J e;exact SeqAt.EqAt.tuple_none p lC
 |_=>exact z7 e
theorem Wk(I:Inv X B C H s)(o:∀z,u≠.l z)(h1:Den D φ α H (.l ts) v0)(h2:Den D φ α H u w)(h:RelV v0 a)(g:RelV w b)(e:eqT (.l ts) u=some k)(v:A.units+j8 (.l ts)+1<cLine):z7h A s a b k:=by
 cases u with
 |l z=>exact absurd rfl (o z)
 |t z=>
  obtain⟨c,xs,rfl,_,_,r,l⟩:=h1;obtain⟨d,q,rfl,_,_,m,t⟩:=h2;subst h;subst g;obtain⟨_,_,p,_⟩:=I.list (.inl r);obtain⟨_,_,n,_⟩:=I.tuple (.inl m);cases z5J e;exact SeqAt.EqAt.list_tuple p.isList n lC
 |int j=>have h2:=h2;subst h2;obtain⟨i,rfl⟩:=g;obtain⟨c,xs,rfl,_,_,r,_⟩:=h1;subst h;obtain⟨f,_,p,_⟩:=I.list (.inl r);cases z5J e;exact SeqAt.EqAt.list_int _ _ p.isList lC
 |bl j=>have h2:=h2;subst h2;subst g;obtain⟨c,xs,rfl,_,_,r,_⟩:=h1;subst h;obtain⟨f,_,p,_⟩:=I.list (.inl r);cases z5J e;exact SeqAt.EqAt.list_bool _ p.isList lC
 |str j=>have h2:=h2;subst h2;obtain⟨i,rfl⟩:=g;obtain⟨c,xs,rfl,_,_,r,_⟩:=h1;subst h;obtain⟨f,_,p,_⟩:=I.list (.inl r);cases z5J e;exact SeqAt.EqAt.list_str _ _ p.isList lC
 |n=>have h2:=h2;subst h2;subst g;obtain⟨c,xs,rfl,_,_,r,_⟩:=h1;subst h;obtain⟨f,_,p,_⟩:=I.list (.inl r);cases z5J e;exact SeqAt.EqAt.list_none p.isList lC
 |_=>exact z7 e
noncomputable def EqN (D:DP)(φ α:List Addr)(H:Hp)(s:z5W)(n:Nat):Prop:=∀(t u:T) (v w:V) (a b:Value) (k:Bool) (A:z84),j8 t<n->Den D φ α H t v->Den D φ α H u w->RelV v a->RelV w b->eqT t u=some k->A.units+j8 t+1<cLine->z7h A s a b k
theorem wk(q:EqN D φ α H s n):∀{ts e:List T} {xs k:List V} {c a:List Value} {A:z84},qH ts<n->DenL D φ α H ts xs->DenL D φ α H e k->Vals xs c->Vals k a->A.units+qH ts+1<cLine->
  ∀(j:Nat) (h1:j<c.length) (h2:j<a.length),(∀(y:j<ts.length) (x:j<e.length),∃b,eqT ts[j] e[j]=some b)->z7h A s c[j] a[j] (match ts[j]?,e[j]? with|some t,some u=>(eqT t u).getD false|_,_=>false)
 |[],_,xs,_,c,_,A,_,l,_,f,_,_,j,h1,_,_=>by
  subst l;cases f;simp at h1
 |t::ts,e,xs,k,c,a,A,hd,l,i,f,d,E,j,h1,h2,g=>by
  obtain⟨v,r,rfl,G,l⟩:=l;cases f with
  | @cons _ I _ z C f=>
  cases e with
  |nil=>
   subst i;cases d;simp at h2
  |cons u e=>
   obtain⟨w,J,rfl,F,i⟩:=i;cases d with
   | @cons _ B _ p m d=>
   simp only[qH] at E hd;cases j with
   |zero=>
    obtain⟨b,o⟩:=g sC sC;have h:eqT t u=some b:=by simpa using o
    simp only[z9M,h];exact q _ _ _ _ _ _ _ _ (by omega) G F C m h (by omega)
   |succ j=>
    exact wk q (by omega) l i f d (by omega) j (by simpa using h1) (by simpa using h2) λy x=>by
     obtain⟨b,o⟩:=g (by simpa using y) (by simpa using x);exact⟨b,by simpa using o⟩
theorem u_(I:Inv X u C H s)(t:EqN D φ α H s n)(hd:qH ts<n)(l:DenL D φ α H ts xs)(l':DenL D φ α H z w)(r:Rd H c (.t xs))(h:Rd H d (.t w))(e:eqL ts z=some k)(E:A.units+qH ts+2<cLine):zaX A s (.ref c) (.ref d) k:=by
 obtain⟨q,b,p,_⟩:=I.tuple (.inl r);obtain⟨f,a,o,_⟩:=I.tuple (.inl h);obtain⟨g,rfl⟩:=xY e;have x:=l.length.trans b.length;have v:=l'.length.trans a.length;have:=SeqAt.RcAt.tuples (A:=A) p o (by omega) λj m i=>by
  have:=wk (A:=A.in1) t hd l l' b a (by rw[in1_units];omega) j (by simpa using m) (by simpa using i) λB y=>g j B y;simpa using this
 simpa[x,v] using this
theorem uW(I:Inv X w E H s)(x:EqN D φ α H s n)(hd:qH ts<n)(l:DenL D φ α H ts xs)(l':DenL D φ α H u z)(r:Rd H c (.l xs))(q:Rd H d (.l z))(e:eqL ts u=some k)(F:A.units+qH ts+2<cLine):zaX A s (.ref c) (.ref d) k:=by
 obtain⟨b,h,p,_⟩:=I.list (.inl r);obtain⟨m,a,i,_⟩:=I.list (.inl q);obtain⟨g,rfl⟩:=xY e;have J:=l.length.trans h.length;have G:=l'.length.trans a.length;by_cases o:ts.length=u.length
 .have:=SeqAt.RcAt.lists (A:=A) p.isList i.isList (by simp;lia) lC λj v t=>by
   have:=wk (A:=A.in1) x hd l l' h a (by rw[in1_units];lia) j (by simpa using v) (by simpa using t) λB y=>g j B y;simpa using this
  have C:min ts.length u.length=b.length:=by lia
  have f:(ts.length==u.length)=true:=by simpa using o
  rw[C,f,zcM];simpa using this
 .have f:(ts.length==u.length)=false:=by simpa using o
  rw[f,zav];exact SeqAt.RcAt.lists_lengths p.isList i.isList (by simp;lia) lC
theorem yy(I:Inv X B J H s):∀n,EqN D φ α H s n
 |0=>λ_ _ _ _ _ _ _ _ p=>absurd p (by omega)
 |n+1=>λt u v w a b k A p h g m j e o=>by
  have C:=yy I n;cases t with
  |int i=>exact yw I h g m j e o
  |bl i=>exact UK I h g m j e o
  |str i=>exact Kw I h g m j e o
  |n=>exact Kp I h g m j e o
  |t G=>
   cases u with
   |t F=>
    have hs:=λ(q:w=v)=>yS h (q▸g) e;obtain⟨c,xs,rfl,_,_,r,l⟩:=h;obtain⟨d,E,rfl,_,_,x,y⟩:=g;subst m;subst j;by_cases f:c=d
    .subst f;rw[hs rfl];exact zad _
    .exact zaY f (u_ I C (by simp only[j8] at p;omega) l y r x e (by simp only[j8] at o;omega))
   |_=>exact WY I (by intro _ z;injection z) h g m j e o
  |l G=>
   cases u with
   |l F=>
    have hs:=λ(q:w=v)=>yS h (q▸g) e;obtain⟨c,xs,rfl,_,_,r,l⟩:=h;obtain⟨d,E,rfl,_,_,x,y⟩:=g;subst m;subst j;by_cases f:c=d
    .subst f;rw[hs rfl];exact zad _
    .exact zaY f (uW I C (by simp only[j8] at p;omega) l y r x e (by simp only[j8] at o;omega))
   |_=>exact Wk I (by intro _ z;injection z) h g m j e o
  |_=>exact z7 e
theorem KN(I:Inv X j z H s)(l:DenL D φ α H ts xs)(l':DenL D φ α H w u)(r:Rd H c (.t xs))(a:Rd H d (.t u))(e:eqL ts w=some k)(b:A.units+qH ts+2<cLine):zaX A s (.ref c) (.ref d) k:=u_ I (yy I _) (z77 _) l l' r a e b
theorem Y7(I:Inv X j z H s)(l:DenL D φ α H ts xs)(l':DenL D φ α H w u)(r:Rd H c (.l xs))(a:Rd H d (.l u))(e:eqL ts w=some k)(b:A.units+qH ts+2<cLine):zaX A s (.ref c) (.ref d) k:=uW I (yy I _) (z77 _) l l' r a e b
theorem yG(I:Inv X w z H s):∀{ts d:List T} {xs f:List V} {c a:List Value} {A:z84},DenL D φ α H ts xs->DenL D φ α H d f->Vals xs c->Vals f a->A.units+qH ts+1<cLine->
  ∀(j:Nat) (h1:j<c.length) (h2:j<a.length),(∀(m:j<ts.length) (k:j<d.length),∃b,eqT ts[j] d[j]=some b)->z7h A s c[j] a[j] (match ts[j]?,d[j]? with|some t,some u=>(eqT t u).getD false|_,_=>false):=λl h g e i=>wk (yy I _) (z77 _) l h g e i
theorem Xw(I:Inv X u B H s)(l:DenL D φ α H ts xs)(l':DenL D φ α H z w)(r:Rd H c (.t xs))(h:Rd H d (.t w))(e:eqL ts z=some k)(y:A.units+qH ts+2<cLine):zd2 A s (.ref c) (.ref d) (!k):=by
 obtain⟨o,b,p,_⟩:=I.tuple (.inl r);obtain⟨f,a,n,_⟩:=I.tuple (.inl h);obtain⟨g,rfl⟩:=xY e;have t:=l.length.trans b.length;have q:=l'.length.trans a.length;have:=zdf (A:=A) p n lC λj m i=>by
  have:=yG (A:=A.in1) I l l' b a (by rw[in1_units];lia) j (by simpa using m) (by simpa using i) λx v=>g j x v;simpa using this
 simpa[t,q] using this
theorem Xo(I:Inv X w B H s)(l:DenL D φ α H ts xs)(l':DenL D φ α H u z)(r:Rd H c (.l xs))(o:Rd H d (.l z))(e:eqL ts u=some k)(C:A.units+qH ts+2<cLine):zd2 A s (.ref c) (.ref d) (!k):=by
 obtain⟨b,h,p,_⟩:=I.list (.inl r);obtain⟨m,a,i,_⟩:=I.list (.inl o);obtain⟨g,rfl⟩:=xY e;have F:=l.length.trans h.length;have E:=l'.length.trans a.length;by_cases n:ts.length=u.length
 .have:=zdl (A:=A) p.isList i.isList (by simp;lia) lC λj t q=>by
   have:=yG (A:=A.in1) I l l' h a (by rw[in1_units];lia) j (by simpa using t) (by simpa using q) λx v=>g j x v;simpa using this
  have y:min ts.length u.length=b.length:=by lia
  have f:(ts.length==u.length)=true:=by simpa using n
  rw[y,f,zcM];simpa using this
 .have f:(ts.length==u.length)=false:=by simpa using n
  rw[f,zav];exact zcf p.isList i.isList (by simp;lia) lC
end
end
noncomputable def spM (D:DP)(f:Fn):Sp:=λh H Q E=>∃a c e d,DenL D a c H e h/\MRel D a c H d/\Post D (wOf E) a c H [] (λt _ b g=>∀v,Den D a b g t v->Q v g) (f e d)
noncomputable def spN (D:DP)(n:Nat)(f:Fn):Sp:=λa H Q E=>a.length=n/\spM D f a H Q E
noncomputable def WJ (D:DP)(t:Nat)(u:Value):Prop:=
 (t=0/\u=.type "NoneType")\/(t=1/\u=.type "bool")\/(t=2/\u=.type "int")\/(t=3/\u=.type "str")\/(t=4/\u=.type "tuple")\/(t=5/\u=.type "list")\/(∃C,D.adr t=some C/\u=.ref C)\/(t=6/\u=.type "dict")\/(∃C,D.cad t=some C/\u=.ref C)
noncomputable def u4(mg:Str->Option Value)(c:Str)(u:Value):Prop:=mg c=some u\/(mg c=none/\z6W c=some u/\c≠"__name__")
abbrev KS(X:Cx)(c:Str)(u:Value):Prop:=u4 X.mg c u
noncomputable def ClsV(v:V)(u:Value):Prop:=(∃C,v=.ref C/\u=.ref C)\/∃n,v=.ty n/\u=.type n
theorem ClsV.rel(h:ClsV v u):L2.RelV v u:=by
 rcases h with⟨C,rfl,rfl⟩|⟨n,rfl,rfl⟩<;>rfl
theorem ClsV.only(h:ClsV v u)(r:L2.RelV v j):j=u:=by
 rcases h with⟨C,rfl,rfl⟩|⟨n,rfl,rfl⟩<;>exact r
structure XCls(K:PySem.W.Frag)(C:Addr):Prop where
 ga:z6g K (.ref C) "__getattribute__"=some (some (.builtin "BaseException.__getattribute__"))
 hk:z6g K (.ref C) "__getattr__"=some none
 fi:z6g K (.ref C) "__class__"=some (some (.builtin "object.__class__"))
 sp:z7D K (.builtin "object.__class__") "__get__"=some (some (.builtin "getset_descriptor.__get__"))
 tk:z95 K (.builtin "object.__class__")=some true
 ob:z6U K C (.type "object")=some true
 bx:z6U K C (.type "BaseException")=some true
 nb:z6U K C (.type "KeyError")=some false/\z6U K C (.type "ZeroDivisionError")=some false
 cl:(z8Y K C).isSome=true
structure OCls(K:PySem.W.Frag)(C:Addr):Prop where
 cl:Cls K C
 fi:z6g K (.ref C) "__class__"=some (some (.builtin "object.__class__"))
 sp:z7D K (.builtin "object.__class__") "__get__"=some (some (.builtin "getset_descriptor.__get__"))
 tk:z95 K (.builtin "object.__class__")=some true
 ob:z6U K C (.type "object")=some true
abbrev qS:List Value:=[.type "ValueError",.type "Exception",.type "BaseException",.type "object"]
noncomputable def FOk (D:DP)(P:z6t)(w:z81)(K:z5M)(mg:Str->Option Value)(base:Heap)(k:Nat)(d:Addr)(f:Fn):Prop:=
 ∃fd a c,z8f K (.ref d)=true/\Binds K fd a []/\c<=k/\FnOk P w K mg base (CX1 P w) c d fd a (spN D a.length f)/\∀b e K Z,f b e K Z->b.length=a.length
structure RoomH(k:Nat)(A:Around):Prop where
 dp:A.depth+3*k+5<recursionLimit
 un:A.units+16*k+200<cLine
theorem RoomH.units{k:Nat}(r:RoomH k A):A.units+64<cLine:=by have:=r.un;lia
noncomputable def uf (x C:Addr):Heap->Prop:=λh=>∃t,h.get? x=some {cls:=.ref C,data:=.fields #[.ref t,.none,.none,.none,.bool false,.none]}
noncomputable def uB(x C a:Addr):Heap->Prop:=λh=>∃t,h.get? x=some {cls:=.ref C,dict:=some a,data:=.fields #[.ref t,.none,.none,.none,.bool false,.none]}
structure XIn(K:PySem.W.Frag)(C HE fI:Addr)(fl:Str):Prop where
 cls:∃N nm q bs hd sn sub ab col dd k0 k1 k2 k3 k5,K.lookup C=some (z7E nm q C N bs (.ref HE::qS) hd sn sub ab col dd k0 k1 k2 k3 k5 "ValueError.__new__")/\zcg K N=true/\z9g K N "__init__"=some (some (.ref fI))
 he:z9E K HE qS "ValueError.__new__"=true
 fn:zc7 K (.ref fI)=some (.type "function")
 sa:z6g K (.ref C) "__setattr__"=some (some (.builtin "object.__setattr__"))
 no:z6g K (.ref C) fl=some none
 dct:z7x K C=true
 kp:z8f K (.ref C)=true
noncomputable def spI (C:Addr)(fl:Str):Sp:=λb H Q E=>∃(x:Addr) (i:Int),b=[.ref x,.int i]/\i.natAbs.log2<1920/\H x=some (.ext (uf x C))/\∀a,H a=none->a≠x->Q .n (upd (upd H x (.ext (uB x C a))) a (.xd [(fl,.int i)]))
noncomputable def z4r (t:T):Prop:=t=.clo 0 [.clo 100 []]\/t=.clo 1 []\/t=.clo 2 [.clo 101 []]
noncomputable def yZ(a c:Addr)(l:LamD)(cl:List (Str×Addr)):Heap->Prop:=λh=>∃(e:Pos) (d b:Value),h.get? a=some (z7i "<lambda>" l.qn ⟨[],[⟨l.y,none,e⟩],none,[],[],none,[]⟩ l.body l.sc cl d c b)
noncomputable def U9 (z:Str)(cl:List (Str×Addr))(e:Addr):Prop:=cl.lookup z=some e/\∀x a,cl.lookup x=some a->x=z
noncomputable def z2q (jt:Nat)(w:T):Prop:=(∃a,w=Yw jt a)\/w=.clo 1 []
noncomputable def Y_ (jt:Nat)(g:De)(w x:T):Mem->RE T:=λa K Z=>(∃b,w=Yw jt b/\g [some x,some b] a K Z)\/(w=.clo 1 []/\K .n a)
noncomputable def z3d(D:DP)(P:z6t)(w:z81)(K:z5M)(mg:Str->Option Value)(base:Heap)(k:Nat)(l:LamD):Prop:=
 ∀(m:T) (i j:List Addr) (H:Hp) (v:V),z2q l.jt m->Den D i j H m v->∃(a:Addr) (q:Nat),v=.ref a/\q<=k/\∀(A:z84) (f:List Env) (s:z5W),Env0 P w K mg base A f s H->PySem.W.FnAt a s.heap/\(Room q A->
  ∀(u:Value) (x:V) (Q:VK) (t:T) (n:Mem) (z:T->Mem->Prop) (y:Xp) (E:XK),RelV x u->Den D i j H t x->MRel D i j H n->Y_ l.jt l.g m t n z y->(∀p e,z p e->∀b h o,Stp j H b h->MRel D i b h e->Den D i b h p o->Q o h)->(∀c fs e,y c fs e->∀b h r d,Stp j H b h->MRel D i b h e->XCv D c fs r->XDict D i b h fs d->E r d h)->
  z8B (z5X P w) A (.call (.ref a) ⟨[u],[]⟩) (CR (CX1 P w) f P w H s Q E) s)
structure KapMk(D:DP)(l:LamD):Prop where
 tb:∃P' pos,D.tabs l.jt=some (P',pos,l.qn)
 fn:∀(a c:Addr) (cl:List (Str×Addr)) (e:Addr),U9 l.fr cl e->D.clo 300 a (some (.ext (yZ a c l cl))) [.ref c,.ref e]
 ce:∀c (o:Obj) u x ob,o.data=.cell (some u)->RelV x u->D.clo 200 c (some (.frz o ob)) [x]
 co:∀j P' pos qn c,D.tabs j=some (P',pos,qn)->D.clo (100+j) c (some (.ext (wC c qn))) []
noncomputable def GlOkM(D:DP)(P:z6t)(w:z81)(K:z5M)(mg:Str->Option Value)(base:Heap)(k:Nat)(x:Str):GM->Prop
 |.fn f=>∃q,mg x=some (.ref q)/\FOk D P w K mg base k q f
 |.met c nm f=>∃C e fd b d,D.cad c=some C/\Cls K C/\Meth K C nm e/\(∀i,D.fn i≠some nm)/\Binds K fd b []/\d<=k/\FnOk P w K mg base (CX1 P w) d e fd b (spN D b.length f)/\∀g j K Z,f g j K Z->g.length=b.length
 |.mk c _ f=>∃C e fd b d,D.cad c=some C/\mg x=some (.ref C)/\Mk K C e/\Binds K fd b []/\d+1<=k/\FnOk P w K mg base (CX1 P w) d e fd b (spN D b.length f)/\∀g j K Z,f g j K Z->g.length=b.length
 |.cst t=>∃u v,mg x=some u/\RelV v u/\∀r s H,Den D r s H t v
 |.xcl c=>∃C,D.adr c=some C/\mg x=some (.ref C)/\z9E K C qS "ValueError.__new__"=true
 |.xcf c _=>∃C,D.adr c=some C/\mg x=some (.ref C)
 |.xin c f nm n=>∃C y e fd b d,D.adr c=some C/\mg nm=some (.ref C)/\D.fn f=some n/\XIn K C y e n/\Binds K fd b []/\d+1<=k/\FnOk P w K mg base (CX1 P w) d e fd b (spI C n)
 |.kap l=>z3d D P w K mg base k l/\KapMk D l
 |.mkd c nm _ f=>∃C e fd b d,D.cad c=some C/\mg nm=some (.ref C)/\Mk K C e/\Binds K fd b [.none]/\d+1<=k/\FnOk P w K mg base (CX1 P w) d e fd b (spN D b.length f)/\∀g j K Z,f g j K Z->g.length=b.length
 |.tbl m=>∃a o,mg x=some (.ref a)/\(a==z7p)=false/\KV (m.map λp=>((.inr p.1:Key),V.int p.2)) o/\∀h:Heap,K.In h->h.DictOf (zN P w) a o
 |.none=>mg x=none
 |.bad=>True
abbrev z2P(D:DP)(X:Cx)(k:Nat)(x:Str)(g:GM):Prop:=GlOkM D X.prog X.w X.K X.mg X.base k x g
structure Cn where
 N:List Str
 G:List Str
 calm:Bool
 gl:Str->GM
 cls:List (Str×Nat)
 fld:List (Str×Nat)
 U:List Str
 cel:List Str
 own:List Str
 lam:Option (Nat×List Pos):=none
 lnm:Str:="<lambda>"
 fz:List Str:=[]
noncomputable def Cn.sto(a:Cn):List Str:=a.N.filter λx=>!a.fz.contains x
noncomputable def Cn.look(a:Cn)(x:Str):GM:=if a.G.contains x then a.gl x else .bad
noncomputable def LamOk(D:DP)(mg:Str->Option Value)(base:Heap)(code:Value)(b:Str)(k:Nat)(l:Option (Nat×List Pos))(nm:Str):Prop:=∀j a,l=some (j,a)->2<=k/\∃c P,code=.ref c/\zch base c P/\base.BuiltinsAt mg P/\D.tabs j=some (P,a,b++nm)
theorem LamOk.no{code:Value}(h:l=none):LamOk D mg base code s k l nm:=λj pos e=>by rw[h] at e;exact z7 e
structure Ck(D:DP)(W:XW)(Γ:Cn)(X:Cx)(k:Nat):Prop where
 hK:X.K=D.K
 hN:X.N=Γ.N
 nd:Γ.N.Nodup
 vis:∀x∈Γ.N,Vis X.env.scope x
 dbg:∀x∈Γ.N,(x==("__debug__":Str))=false/\(x==("__classdict__":Str))=false
 dbG:∀x∈Γ.G,(x==("__debug__":Str))=false
 glb:∀x∈Γ.G,Gl X x
 glo:∀x∈Γ.G,z2P D X k x (Γ.gl x)
 glU:∀x∈Γ.U,z2P D X k x (Γ.gl x)/\(x==("__debug__":Str))=false
 cel:∀x∈Γ.cel,X.env.kindOf x=some .cell\/X.env.kindOf x=some .free
 isi:∀t x c,(x,c)∈Γ.cls->∀u v,WJ D t u->KS X x v->z9t X.K u v=some (vY t c)
 fld:∀c C x f,D.cad c=some C->(x,f)∈Γ.fld->D.fn f=some x/\Cls X.K C/\NoAttr X.K C x
 xcx:∀c C,D.adr c=some C->XCls X.K C
 ocx:∀c C,D.cad c=some C->OCls X.K C
 clv:∀x c,(x,c)∈Γ.cls->∃u v,KS X x u/\ClsV v u
 clm:Γ.calm=true->X.calm=true
 rom:Γ.calm=true->Room k X.A
 rmh:RoomH k X.A
 xe:∀e s,XP X W e s->X.xe e s
 frm:∃e0 out L,Frm X e0 out L
 lam:LamOk D X.mg X.base X.env.code X.env.qual k Γ.lam Γ.lnm
 kfz:Γ.lam.isSome=true->∀x∈Γ.fz,X.fn x=false/\∀c,X.env.cells.lookup x=some c->X.s₀.heap.objs.size<=c
theorem Ck.unt{W:XW}(C:Ck D W j X k):X.A.units+64<cLine:=C.rmh.units
theorem qW:∀{N:List Str} {x:Str} {i:Nat},idx N x=some i->N[i]?=some x
 |[],_,_,h=>by simp[idx] at h
 |y::r,x,i,h=>by
  simp only[idx] at h;split at h
  .rename_i e;(replace h:=zm h;subst h);simp[e]
  .cases q:idx r x with
   |none=>rw[q] at h;exact z7 h
   |some j=>rw[q] at h;(injection h with h;subst h);simpa using qW q
theorem qJ(h:idx N x=some i):x∈N:=z5E (qW h)
section
theorem PE.mono(h:PE X e t)(m:∀j H Q,t' j H Q->t j H Q):PE X e t':=λa s j H Q I q=>h a s j H Q I (m j H Q q)
theorem z0i{i j pos}:PE X (.Constant (.int i) j pos) (rdE D W (eC (.int i))):=PE.mono z25 λd H Q ⟨b,f,c,e,g,a,p⟩=>Post.here p a rfl
theorem z3J{i j pos}:PE X (.Constant (.bool i) j pos) (rdE D W (eC (.bl i))):=PE.mono z49 λd H Q ⟨b,f,c,e,g,a,p⟩=>Post.here p a rfl
noncomputable abbrev _root_.clz7:=eC .n
theorem z28{j pos}:PE X (.Constant .none j pos) (rdE D W clz7):=PE.mono z16 λd H Q ⟨b,f,c,e,g,a,p⟩=>Post.here p a rfl
theorem z22{i j pos}:PE X (.Constant (.str i) j pos) (rdE D W (eC (.str i))):=PE.mono Zk λd H Q ⟨b,f,c,e,g,a,p⟩=>Post.here p a rfl
set_option tactic.hygienic true in
theorem z0U(C:Ck D W j X k)(hi:idx j.N x=some i):PE X (.Name x pos) (rdE D W (eV i)):=by
 refine PE.mono (kF (C.hN▸qW hi) (C.vis x (qJ hi)) (C.dbg x (qJ hi)).1 (C.dbg x (qJ hi)).2) ?_;rintro g H Q ⟨c,l,f,h,a,b,p⟩;dsimp only[eV] at p;split at p
 .rename_i t e;obtain⟨v,q,d⟩:=a.get e;exact⟨v,q,p.here b d⟩
 .exact p.elim
theorem z1l(C:Ck D W j X k)(a:x∈j.G)(ht:j.gl x=.cst t):PE X (.Name x pos) (rdE D W (eC t)):=by
 have g:=C.glo x a;rw[ht] at g;obtain⟨u,v,c,r,d⟩:=g;exact PE.mono (Vi (C.glb x a) c r (C.dbG x a)) λh H Q ⟨e,l,f,i,m,b,p⟩=>Post.here p b (d _ _ _)
theorem z0x(B:PE X a (rdE D W f))(A:PE X b (rdE D W g)):PE X (.BinOp a op b pos) (rdE D W (za op f g)):=by
 rintro i s L H Q I ⟨J,N,K,M,q,z,p⟩;refine wpAny_BinOp (thn (sub B I q z p) ?_);rintro u T ⟨v,V,t,k,m,G,w,n,d,h,E,y⟩;refine thn (sub A G d h y) ?_;rintro P S ⟨O,U,R,j,l,F,r,c,o,e,C,x⟩;exact z0Q F e (E.step c) C w r x
theorem z0y(o:PE X a (rdE D W f)):PE X (.UnaryOp .USub a pos) (rdE D W (z3x f)):=by
 rintro b s e H Q I ⟨x,A,y,z,k,n,p⟩;refine UnaryOp_ (thn (sub o I k n p) ?_);rintro u l ⟨v,w,t,g,h,r,m,i,j,d,q,c⟩;split at c
 .subst q;exact z1n b l e w _ _ Q r m ⟨_,rfl,c.here d rfl⟩
 .exact c.elim
set_option tactic.hygienic true in
theorem z0v(n:PE X a (rdE D W f)):PE X (.UnaryOp .Not a pos) (rdE D W (z0L f)):=by
 rintro e s y H Q I ⟨w,A,x,z,k,m,p⟩;refine UnaryOp_ (thn (sub n I k m p) ?_);rintro u B ⟨v,r,t,g,h,q,l,i,j,d,o,c⟩;split at c
 .rename_i b;subst o;subst l;exact not_of (z6m ⟨.bl (!b),r,q,rfl,c.here d rfl⟩)
 .exact c.elim
theorem z21(b:PE X a (rdE D W f)):PE X (.BoolOp op [a] pos) (rdE D W f):=z1P b
theorem z0R(B:PE X a (rdE D W f))(A:PE X (.BoolOp .And (b::r) pos) (rdE D W g)):PE X (.BoolOp .And (a::b::r) pos) (rdE D W (ki f g)):=by
 rintro d s o H Q I ⟨m,F,n,E,w,z,p⟩;refine BoolOp_and (thn (sub B I w z p) ?_);rintro u x ⟨v,l,t,h,i,k,y,q,j,e,C,c⟩;split at c
 .subst C;subst y;rcases c.br with⟨rfl,c⟩|⟨rfl,c⟩
  .exact z6m (A d x o l Q k ⟨m,i,n,h,j,e,c⟩)
  .exact z6m ⟨.bl false,l,k,rfl,c.here e rfl⟩
 .exact c.elim
theorem z3j(B:PE X a (rdE D W f))(A:PE X (.BoolOp .Or (b::r) pos) (rdE D W g)):PE X (.BoolOp .Or (a::b::r) pos) (rdE D W (eOr f g)):=by
 rintro d s o H Q I ⟨m,F,n,E,w,z,p⟩;refine BoolOp_or (thn (sub B I w z p) ?_);rintro u x ⟨v,l,t,h,i,k,y,q,j,e,C,c⟩;split at c
 .subst C;subst y;rcases c.br with⟨rfl,c⟩|⟨rfl,c⟩
  .exact z6m ⟨.bl true,l,k,rfl,c.here e rfl⟩
  .exact z6m (A d x o l Q k ⟨m,i,n,h,j,e,c⟩)
 .exact c.elim
theorem z0K{b:Bool}(c:Den D φ α H x v)(a:Den D φ α H y w)(h:scT x y=some b):Uu v w=true/\decide (v=w)=b:=by
 unfold scT at h
 split at h<;>first
  |(cases h;subst c;subst a;exact⟨rfl,sC⟩)
  |exact z7 h
theorem XC{b:Bool}{C:Prop}{x:T}{v w:V}(I:Inv X M G H s)(L:X.A.units+64<cLine)(J:MRel D φ α H μ)(B:Den D φ α H x v)(t:Den D φ α H y w)(p:Post D W φ α H G (RV D φ Q) (eqW x y μ kk))
  (h1:∀b,Post D W φ α H G (RV D φ Q) (kk b)->Uu v w=true/\decide (v=w)=b->C)
  (h2:∀b,Post D W φ α H G (RV D φ Q) (kk b)->((∀u j,RelV v u->RelV w j->∀{R:Value->z5W->Prop},R (.bool b) s->z5V (z5X X.prog X.w) X.A (z6I .Eq u j) R X.xe s)/\(∀u j,RelV v u->RelV w j->∀{R:Value->z5W->Prop},R (.bool (!b)) s->z5V (z5X X.prog X.w) X.A (z6I .NotEq u j) R X.xe s))->C):C:=by
 have lst:∀{xs F:List T} {c d:Addr} {i h:List V},v=.ref c->w=.ref d->Rd H c (.l i)->Rd H d (.l h)->DenL D φ α H xs i->DenL D φ α H F h->Post D W φ α H G (RV D φ Q) (RE.grd (qH xs<=40) (.som (eqL xs F) kk))->C:=λ{xs F c d i h} g f r e l a p=>by
  obtain⟨hd,p⟩:=p.grd;obtain⟨b,n,p⟩:=p.som;subst g f;exact h2 b p ⟨λu j m k R q=>by subst m;subst k;exact Y7 I l a r e n lC _ _ _ _ q,λu j m k R q=>by subst m;subst k;exact Xo I l a r e n lC _ _ _ _ q⟩
 unfold eqW at p;split at p
 .obtain⟨hd,p⟩:=p.grd;obtain⟨b,n,p⟩:=p.som;obtain⟨c,i,rfl,_,_,r,l⟩:=B;obtain⟨d,h,rfl,_,_,e,a⟩:=t;exact h2 b p ⟨λu j m k R q=>by subst m;subst k;exact KN I l a r e n lC _ _ _ _ q,λu j m k R q=>by subst m;subst k;exact Xw I l a r e n lC _ _ _ _ q⟩
 .obtain⟨c,i,g,_,_,r,l⟩:=B;obtain⟨d,h,f,_,_,e,a⟩:=t;exact lst g f r e l a p
 .obtain⟨xs,o,p⟩:=p.ex1;obtain⟨c,E,g⟩:=B;obtain⟨i,q,l⟩:=J.ob _ c _ E o;obtain⟨d,h,f,_,_,e,a⟩:=t;exact lst g f (.inl q) e l a p
 .obtain⟨F,o,p⟩:=p.ex1;obtain⟨c,E,f⟩:=t;obtain⟨i,q,l⟩:=J.ob _ c _ E o;obtain⟨d,h,g,_,_,e,a⟩:=B;exact lst g f e (.inl q) a l p
 .obtain⟨z,o,p⟩:=p.ex1;obtain⟨c,E,g⟩:=B;obtain⟨i,q,l⟩:=J.ob _ c _ E o.1;obtain⟨d,hd,f⟩:=t;obtain⟨h,K,a⟩:=J.ob _ d _ hd o.2;exact lst g f (.inl q) (.inl K) l a p
 .split at p
  .rename_i n;exact h1 _ p (z0K B t n)
  .exact p.elim
theorem Zt{x:T}{v w:V}{f:Value}{Q:VK}(I:Inv X j u H s)(r:X.A.units+64<cLine)(e:MRel D φ α H μ)(d:Den D φ α H x v)(k:Den D φ α H y w)(i:RelV v z)(g:RelV w f)
  (p:Post D W φ α H u (RV D φ Q) (WI op x y μ)):z5V (z5X X.prog X.w) X.A (z6I op z f) (EP X j u Q) X.xe s:=by
 unfold WI at p;split at p
 .refine XC (b:=true) I r e d k p (λb q h=>?_) (λb q h=>?_)
  .obtain⟨m,l⟩:=h;exact z42 j s u H v w z f Q I i g ⟨m,l▸Post.here q e rfl⟩
  .exact h.1 _ _ i g ⟨.bl b,H,I,rfl,Post.here q e rfl⟩
 .refine XC (b:=false) I r e d k p (λb q h=>?_) (λb q h=>?_)
  .obtain⟨m,l⟩:=h;exact z2Z j s u H v w z f Q I i g ⟨m,l▸Post.here q e rfl⟩
  .exact h.2 _ _ i g ⟨.bl (!b),H,I,rfl,Post.here q e rfl⟩
 .unfold ltW at p;split at p
  .subst d;subst k;exact z3V j s u H _ _ z f Q I i g ⟨_,_,rfl,rfl,Post.here p e rfl⟩
  .obtain⟨t,G,p⟩:=p.som;obtain⟨B,F,p⟩:=p.som;obtain⟨a,K,rfl,_,_,o,E⟩:=d;obtain⟨c,J,rfl,_,_,n,C⟩:=k;rw[vx G E] at o;rw[vx F C] at n;exact z1v (by omega) j s u H _ _ z f Q I i g ⟨a,c,t,B,rfl,rfl,.inl o,.inl n,Post.here p e rfl⟩
  .exact p.elim
 .split at p
  .subst d;subst k;exact z3K j s u H _ _ z f Q I i g ⟨_,_,rfl,rfl,p.here e rfl⟩
  .exact p.elim
 .split at p
  .subst d;subst k;exact z43 j s u H _ _ z f Q I i g ⟨_,_,rfl,rfl,p.here e rfl⟩
  .exact p.elim
 .split at p
  .subst d;subst k;exact z46 j s u H _ _ z f Q I i g ⟨_,_,rfl,rfl,p.here e rfl⟩
  .exact p.elim
 .split at p
  .subst k;refine z0G j s u H _ _ z f Q I i g ⟨rfl,?_⟩;have q:=p.here e rfl
   cases x<;>first
    |(have d:=d;subst d;simpa using q)
    |(obtain⟨_,_,rfl,_⟩:=d;simpa using q)
    |(obtain⟨_,_,_,_,rfl,_⟩:=d;simpa using q)
    |(obtain⟨_,_,rfl⟩:=d;simpa using q)
    |(obtain⟨_,_,_,rfl,_⟩:=d;simpa using q)
  .exact p.elim
 .split at p
  .subst k;refine YQ j s u H _ _ z f Q I i g ⟨rfl,?_⟩;have q:=p.here e rfl
   cases x<;>first
    |(have d:=d;subst d;simpa using q)
    |(obtain⟨_,_,rfl,_⟩:=d;simpa using q)
    |(obtain⟨_,_,_,_,rfl,_⟩:=d;simpa using q)
    |(obtain⟨_,_,rfl⟩:=d;simpa using q)
    |(obtain⟨_,_,_,rfl,_⟩:=d;simpa using q)
  .exact p.elim
 .split at p
  .have d:=d;subst d k;exact JZ j s u H _ _ z f Q I i g ⟨_,_,rfl,rfl,p.here e rfl⟩
  .exact p.elim
 .exact p.elim
noncomputable def qp:Expr->Bool
 |.Name _ _=>true
 |.Constant _ _ _=>true
 |.BinOp _ _ _ _=>true
 |.UnaryOp _ _ _=>true
 |.Call _ _ _ _=>true
 |.Subscript _ _ _=>true
 |.Attribute _ _ _=>true
 |_=>false
noncomputable def wy:Expr->Bool
 |.Set _ _ _=>false
 |_=>true
noncomputable def jS:z9c->Bool
 |.In=>false|.NotIn=>false
 |_=>true
noncomputable def wZ(op:z9c)(b:Expr):Bool:=jS op || wy b
noncomputable def jo:z9c->Bool
 |.Lt=>true|.LtE=>true|.Gt=>true|.GtE=>true|.Eq=>true|.NotEq=>true
 |_=>false
theorem j6(h:wZ op b=true):zaN op b=false:=by
 cases a:jS op with
 |true=>exact K8 b (by rintro rfl;simp[jS] at a) (by rintro rfl;simp[jS] at a)
 |false=>
  have c:wy b=true:=by unfold wZ at h;rw[a] at h;exact h
  cases b<;>first|rfl|(simp[wy] at c)
theorem z0A(C:Ck D W U X k)(ho:wZ op b=true)(E:PE X a (rdE D W f))(B:PE X b (rdE D W g)):PE X (.Compare a [op] [b] pos) (rdE D W (zq op f g)):=by
 rintro i s N H Q I ⟨L,P,M,O,r,A,p⟩;refine zaw (thn (sub E I r A p) ?_) (j6 ho);rintro u Y ⟨v,H1,t,l,n,K,x,o,d,h,G,z⟩;refine thn (sub B K d h z) ?_;rintro S V ⟨R,Z,T,j,m,J,w,c,q,e,F,y⟩;exact Zt J C.unt e (G.step c) F x w y
theorem xF{R:β->Mem->List Addr->Hp->Prop}{kk:T->Mem->RE β}{x y:T}{v w:V}{c:Value}(I:Inv X B E H s)(h:X.A.units+64<cLine)(g:MRel D φ α H μ)(k:Den D φ α H x v)(i:Den D φ α H y w)(f:RelV v c)(e:RelV w G)
  (p:Post D W φ α H E R ((WI op x y μ).bind kk)):z5V (z5X X.prog X.w) X.A (z6I op c G) (EP X B E λz C=>∃t u j,Stp α H j C/\MRel D φ j C u/\Den D φ j C t z/\Post D W φ j C E R (kk t u)) X.xe s:=
 Zt I h g k i f e (p.bind.mono λt a b l st m q v d=>⟨t,a,b,st,m,d,q⟩)
theorem vj:∀{ops:List z9c} {es:List Expr},ops.all jo=true->lastMarks ops es=false
 |[],es,_=>by cases es<;>rfl
 |[op],[],_=>rfl
 |[op],[e],h=>K8 e (by rintro rfl;simp[jo] at h) (by rintro rfl;simp[jo] at h)
 |[op],_::_::_,_=>rfl
 |op::a::ops,[],_=>rfl
 |op::a::ops,e::es,h=>by
  have:lastMarks (a::ops) es=false:=vj (by simp only[z7o,z5P] at h ⊢;exact h.2);cases es with
  |nil=>cases ops<;>rfl
  |cons b es=>exact this
noncomputable def K3 (X:Cx)(D:DP)(W:XW):List Expr->List (z9c×De)->Prop
 |[],[]=>True
 |e::b,p::a=>PE X e (rdE D W p.2)/\K3 X D W b a
 |_,_=>False
theorem Wc(C:X.A.units+64<cLine){Q:VK}:∀{ps:List (z9c×De)} {es:List Expr} {s:z5W} {H:Hp} {α:List Addr} {μ:Mem} {x:T} {v:V} {u:Value},K3 X D W es ps->Inv X j B H s->SRel D φ α H G B->MRel D φ α H μ->Den D φ α H x v->RelV v u->Post D W φ α H B (RV D φ Q) (z2j ps x G μ)->
  z5V (z5X X.prog X.w) X.A (compareChain pos u (ps.map (·.1)) (evalEach es X.env)) (EP X j B Q) X.xe s
 |[],_,_,_,_,_,_,_,_,_,_,_,_,_,_,p=>p.elim
 |[(op,g)],[],_,_,_,_,_,_,_,h,_,_,_,_,_,_=>h.elim
 |[(op,g)],[e],s,H,α,μ,x,v,u,h,I,q,y,d,r,p=>by
  refine chain_last (thn (sub h.1 I q y p) ?_);rintro M O ⟨L,Z,N,n,o,E,l,a,i,c,m,t⟩;exact Zt E C c (d.step a) m r l t
 |[(op,g)],_::_::_,_,_,_,_,_,_,_,h,_,_,_,_,_,_=>h.2.elim
 |(op,g)::R::ps,[],_,_,_,_,_,_,_,h,_,_,_,_,_,_=>h.elim
 |(op,g)::R::ps,[e],_,_,_,_,_,_,_,h,_,_,_,_,_,_=>h.2.elim
 |(op,g)::(S,g')::ps,e::e'::es,s,H,α,μ,x,v,u,h,I,q,y,d,r,p=>by
  refine chain_link (thn (sub h.1 I q y p) ?_);rintro M O ⟨L,Z,N,n,o,E,l,a,i,c,m,t⟩;refine thn (xF E C c (d.step a) m r l t) ?_;rintro dd s3 ⟨z,Y,F,P,t3,J,K,f,k,U,b⟩;split at b
  .subst U;subst P;rcases b.br with⟨rfl,b⟩|⟨rfl,b⟩
   .exact z6m (ite_tt (Wc C h.2 F (i.step f) k (m.step f) l b))
   .exact z6m (ite_ff ⟨.bl false,Y,F,rfl,b.here k rfl⟩)
  .exact b.elim
theorem K_(C:Ck D W E X k)(ho:(p1::p2::ps).all (λp=>jo p.1)=true)(n:PE X a (rdE D W f))(h:K3 X D W (o::w::es) (p1::p2::ps)):PE X (.Compare a (p1.1::p2.1::ps.map (·.1)) (o::w::es) pos) (rdE D W (eCh f (p1::p2::ps))):=by
 rintro d s z H Q I ⟨x,B,y,A,j,m,p⟩;refine Compare_chain (thn (sub n I j m p) ?_) (vj (by simpa[ zbf] using ho));rintro u F ⟨v,G,t,e,g,r,l,i,b,c,q,p1⟩;exact Wc C.unt h r b c q l p1
set_option tactic.hygienic true in
theorem VR(K:X.A.units+64<cLine){β:Type}{R:β->Mem->List Addr->Hp->Prop}{kk:Bool->Mem->RE β}:∀{ps:List (z9c×De)} {es:List Expr} {s:z5W} {H:Hp} {α:List Addr} {μ:Mem} {x:T} {v:V} {u:Value} {Q:Bool->Hp->Prop},K3 X D W es ps->Inv X B C H s->SRel D φ α H U C->MRel D φ α H μ->Den D φ α H x v->RelV v u->Post D W φ α H C (λb _ _ H'=>Q b H') ((z2j ps x U μ).bind ZQ)->
  z5V (z5X X.prog X.w) X.A (testChain pos u (ps.map (·.1)) (evalEach es X.env)) (TP X B C Q) X.xe s
 |[],_,_,_,_,_,_,_,_,_,_,_,_,_,_,_,p=>Post.elim p
 |[(op,g)],[],_,_,_,_,_,_,_,_,h,_,_,_,_,_,_=>h.elim
 |[(op,g)],[e],s,H,α,μ,x,v,u,Q,h,I,E,J,d,r,p=>by
  refine test_last (thn (sub h.1 I E J p) ?_);rintro P s2 ⟨O,H2,Y,q,y,M,l,i,k,j,m,G⟩;refine thn (xF M K j (d.step i) m r l G) ?_;rintro dd Z ⟨z,N,n,F,S,o,t,f,c,L,a⟩;unfold ZQ at a;split at a
  .subst L;subst F;exact z6m ⟨N,n,a.ok (Stp.refl _ _) c⟩
  .exact a.elim
 |[(op,g)],_::_::_,_,_,_,_,_,_,_,_,h,_,_,_,_,_,_=>h.2.elim
 |(op,g)::p'::ps,[],_,_,_,_,_,_,_,_,h,_,_,_,_,_,_=>h.elim
 |(op,g)::p'::ps,[e],_,_,_,_,_,_,_,_,h,_,_,_,_,_,_=>h.2.elim
 |(op,g)::(op',g')::ps,e::e'::es,s,H,α,μ,x,v,u,Q,h,I,E,J,d,r,p=>by
  refine test_link (thn (sub h.1 I E J p) ?_);rintro P s2 ⟨O,H2,Y,q,y,M,l,i,k,j,m,G⟩;refine thn (xF M K j (d.step i) m r l G) ?_;rintro dd Z ⟨z,N,n,F,S,o,t,f,c,L,a⟩;try dsimp only at a
  split at a
  .rename_i bb;subst L;subst F;cases bb with
   |true=>exact z6m (ite_tt (VR K (kk:=kk) (R:=R) h.2 n (k.step f) c (m.step f) l a))
   |false=>
    exact z6m (ite_ff ⟨N,n,a.ok (Stp.refl _ _) c⟩)
  .have a:=a;exact a.elim
theorem z3w(n:PE X a (rdE D W f))(he:∀j,isTrue a X.env j=(do let v ←j;standAt a.pos;zcZ [v] (truthy v))):PT X a (rdT D W (tE f)):=by
 rintro d s y H Q I ⟨w,A,x,z,k,m,p⟩;rw[he];refine z5D (thn (sub n I k m p) ?_);rintro u B ⟨v,r,t,e,g,q,l,h,i,c,o,b⟩;unfold ZQ at b;split at b
 .subst o;subst l;exact z5D (z6R (z6p (z6m ⟨r,q,b.ok (Stp.refl _ _) c⟩)))
 .exact b.elim
theorem WS(C:Ck D W Γ X k)(ho:wZ op b=true)(O:PE X a (rdE D W f))(N:PE X b (rdE D W g)):PT X (.Compare a [op] [b] pos) (rdT D W (tE (zq op f g))):=by
 rintro m s σ H Q I ⟨Z,α,τ,μ,E,M,p⟩;refine z8S (thn (sub O I E M p) ?_) (j6 ho);rintro u s1 ⟨v,H1,t,q,x,V,J,A,h,l,S,L⟩;refine thn (sub N V h l L) ?_;rintro u' s2 ⟨v',H2,t',o,w,U,G,e,B,j,R,K⟩;refine thn (xF U C.unt j (S.step e) R J G K) ?_;rintro d s3 ⟨z,Y,T,F,t3,n,r,y,i,P,c⟩;unfold ZQ at c;split at c
 .subst P;subst F;exact z6m ⟨Y,T,c.ok (Stp.refl _ _) i⟩
 .exact c.elim
theorem QZ(C:Ck D W E X k)(ho:(p1::p2::ps).all (λp=>jo p.1)=true)(n:PE X a (rdE D W f))(h:K3 X D W (o::w::es) (p1::p2::ps)):PT X (.Compare a (p1.1::p2.1::ps.map (·.1)) (o::w::es) pos) (rdT D W (tE (eCh f (p1::p2::ps)))):=by
 rintro d s z H Q I ⟨x,B,y,A,j,m,p⟩;refine isTrue_chain (thn (sub n I j m p) ?_) (vj (by simpa[ zbf] using ho));rintro u F ⟨v,G,t,e,g,r,l,i,b,c,q,p1⟩;exact VR (kk:=λ_ _=>RE.st (β:=Bool)) (R:=λ_ _ _ _=>True) C.unt h r b c q l p1
theorem z1U(v:PT X a (rdT D W w))(u:PW X (.BoolOp .And (b::r) pos) (rdT D W gt)):PW X (.BoolOp .And (a::b::r) pos) (rdT D W (wW w gt)):=by
 intro d e s k H Q I t;refine z1Z v u d e s k H Q I ?_;obtain⟨h,n,i,l,j,o,p⟩:=t;refine⟨h,n,i,l,j,o,p.bind.mono λc f g x st m q=>?_⟩;rcases q.br with⟨rfl,q⟩|⟨rfl,q⟩
 .exact⟨h,g,i,f,j.step st,m,q⟩
 .exact q.ok (Stp.refl _ _) m
theorem z4g(v:PT X a (rdT D W w))(u:PW X (.BoolOp .Or (b::r) pos) (rdT D W gt)):PW X (.BoolOp .Or (a::b::r) pos) (rdT D W (tOr w gt)):=by
 intro d e s k H Q I t;refine z3L v u d e s k H Q I ?_;obtain⟨h,n,i,l,j,o,p⟩:=t;refine⟨h,n,i,l,j,o,p.bind.mono λc f g x st m q=>?_⟩;rcases q.br with⟨rfl,q⟩|⟨rfl,q⟩
 .exact q.ok (Stp.refl _ _) m
 .exact⟨h,g,i,f,j.step st,m,q⟩
theorem z1d(o:PT X a (rdT D W u)):PT X (.UnaryOp .Not a pos) (rdT D W (zO u)):=by
 intro b s f H Q I n;refine z1p o b s f H Q I ?_;obtain⟨d,j,e,h,k,l,p⟩:=n;exact⟨d,j,e,h,k,l,p.bind.mono λc g i r st m q=>q.ok (Stp.refl _ _) m⟩
theorem z3u(hc:PT X c (rdT D W z))(y:PE X a (rdE D W f))(x:PE X b (rdE D W g)):PE X (.IfExp c a b pos) (rdE D W (eIf z f g)):=by
 rintro e s o H Q I ⟨m,B,n,A,v,w,p⟩;refine wpAny_IfExp (thn (z30 hc I v w p) ?_);rintro d q ⟨t,h,i,r,u,j,l,k⟩;rcases k.br with⟨rfl,k⟩|⟨rfl,k⟩
 .exact y e q o t Q r ⟨m,i,n,h,j,l,k⟩
 .exact x e q o t Q r ⟨m,i,n,h,j,l,k⟩
noncomputable def qo:Expr->Bool
 |.Name _ _=>true
 |.Attribute _ _ _=>true
 |.Subscript _ _ _=>true
 |.Call (.Name x _) _ _ _=>x != ("super":Str)
 |.Call (.Attribute _ _ _) _ _ _=>true
 |_=>false
theorem Post.ex3{β b a c:Type}{R:β->Mem->List Addr->Hp->Prop}{P:b->a->Prop}{d:b->a->c->Prop}{r:b->a->c->RE β}(p:Post D W φ α H j R (λK Z=>∃x y z,P x y/\d x y z/\r x y z K Z)):∃x y z,P x y/\d x y z/\Post D W φ α H j R (r x y z):=by
 obtain⟨K,Z,⟨x,y,z,h1,h2,q⟩,h⟩:=p;exact⟨x,y,z,h1,h2,K,Z,q,h⟩
theorem Post.ex2{β a b:Type}{R:β->Mem->List Addr->Hp->Prop}{P:a->Prop}{c:a->b->Prop}{r:a->b->RE β}(p:Post D W φ α H j R (λK Z=>∃x y,P x/\c x y/\r x y K Z)):∃x y,P x/\c x y/\Post D W φ α H j R (r x y):=by
 obtain⟨K,Z,⟨x,y,h1,h2,q⟩,h⟩:=p;exact⟨x,y,h1,h2,K,Z,q,h⟩
theorem vi(h:qp b=true):Up b:=by
 intro o i;cases b<;>first|(simp[qp] at h;done)|rfl
theorem yP(l:DenL D φ α H ts xs)(h:wH ts i=some t):∃v,atI xs i=some v/\Den D φ α H t v:=by
 unfold wH at h;have e:ixN xs.length i=Jt ts.length i:=by rw[l.length];rfl
 unfold atI;rw[e];cases q:Jt ts.length i with
 |none=>rw[q] at h;exact z7 h
 |some j=>
  rw[q] at h;exact l.get h
theorem z2Q(i:qp b=true)(hK:X.K=D.K)(Z:PE X a (rdE D W f))(Y:PE X b (rdE D W g)):PE X (.Subscript a b pos) (rdE D W (eIx f g)):=by
 rintro e s n H Q I ⟨φ,α,τ,μ,P,S,p⟩;refine zcb (thn (sub Z I P S p) ?_);rintro u s1 ⟨v,H1,t,J,M,I1,x,N,C,E,j,R⟩;refine thn (sub Y I1 C E R) ?_;rintro u' o ⟨v',A,t',G,L,y,q,B,O,h,d2,d⟩;have j:=j.step B;unfold z0h at d;split at d
 .subst d2;split at d
  .obtain⟨w,hw,d⟩:=d.som;obtain⟨ad,xs,rfl,_,_,r,l⟩:=j;obtain⟨z,k,m⟩:=yP l hw;exact Vr a b e o n A _ _ _ _ Q y x q ⟨ad,xs,_,z,rfl,rfl,.inl r,k,d.here h m⟩ (vi i _ _)
  .obtain⟨w,hw,d⟩:=d.som;obtain⟨ad,xs,rfl,_,_,r,l⟩:=j;obtain⟨z,k,m⟩:=yP l hw;exact z1e a b e o n A _ _ _ _ Q y x q ⟨ad,xs,_,z,rfl,rfl,.inl r,k,d.here h m⟩ (vi i _ _)
  .obtain⟨ts,w,U,hw,d⟩:=d.ex2;obtain⟨ad,F,rfl⟩:=j;obtain⟨xs,e2,l⟩:=h.ob _ ad _ F U;obtain⟨z,k,m⟩:=yP l hw;exact Vr a b e o n A _ _ _ _ Q y x q ⟨ad,xs,_,z,rfl,rfl,.inl (.inl e2),k,Post.here d h m⟩ (vi i _ _)
  .obtain⟨T,d⟩:=d.grd;obtain⟨c,V,d⟩:=d.som;subst j;exact z1X a b e o n A _ _ _ _ Q y x q ⟨_,_,c,rfl,rfl,zF T,V,d.here h rfl⟩ (vi i _ _)
  .exact d.elim
 .exact d.elim
noncomputable def noStar:Expr->Bool
 |.Starred _ _=>false
 |_=>true
theorem z6(h:noStar e=true):z6H (e::es) env=(false,eval e env)::z6H es env:=by
 cases e<;>first|(simp[noStar] at h;done)|rfl
theorem qA(h:es.all noStar=true):(z8e pos (z6H es env)).any (·.1)=false:=by
 induction es with
 |nil=>rfl
 |cons e es a=>
  simp only[z7o,z5P] at h;rw[z6 h.1];have:=a h.2
  first
   |(simp at this ⊢;exact this)
   |(simpa[z8e] using this)
theorem z0X:PA X [] (rdA D W 0 (evs [])):=by
 rintro b a s c H Q I ⟨e,h,f,g,i,d,p⟩;exact qr b a s c H Q I (Post.ok p (Stp.refl _ _) d [] rfl rfl)
theorem YC(hs:noStar e=true)(G:PE X e (rdE D W f))(C:PA X es (rdA D W n (evs fs))):PA X (e::es) (rdA D W (n+1) (evs (f::fs))):=by
 intro k c s l H Q I E;refine zI G C (z6 hs) k c s l H Q I ?_;obtain⟨h,r,g,o,w,A,p⟩:=E;have p:Post D W h r H l _ ((f g o).bind λt a=>(evs fs g a).bind λu b=>.ok (t::u) b):=p;exact⟨h,r,g,o,w,A,p.bind.mono λt a i K st m q v d=>⟨h,i,g,a,w.step st,m,q.bind.mono λu b x J j B z y dl F=>(z.ok (Stp.refl _ _) B _ ⟨v,y,rfl,d.step j,dl⟩ (by simp[F]))⟩⟩
noncomputable def EsOk (X:Cx)(D:DP)(W:XW):List Expr->List De->Prop
 |[],[]=>True
 |e::a,f::fs=>noStar e=true/\PE X e (rdE D W f)/\EsOk X D W a fs
 |_,_=>False
theorem wD:∀{es:List Expr} {fs:List De},EsOk X D W es fs->PA X es (rdA D W es.length (evs fs))
 |[],[],_=>z0X
 |e::es,f::fs,h=>YC h.1 h.2.1 (wD h.2.2)
 |[],_::_,h=>h.elim
 |_::_,[],h=>h.elim
theorem EsOk.stars:∀{es:List Expr} {fs:List De},EsOk X D W es fs->es.all noStar=true
 |[],[],_=>rfl
 |e::es,f::fs,h=>by simp[h.1,EsOk.stars h.2.2]
 |[],_::_,h=>h.elim
 |_::_,[],h=>h.elim
theorem z2H(n:es.length<=room)(h:EsOk X D W es fs):PE X (.List es pos) (rdE D W (JO fs)):=by
 refine PE.mono (XT (wD h)) ?_;rintro o H Q ⟨b,g,c,e,j,k,p⟩;exact⟨b,g,c,e,j,k,p.bind.mono λr d f s st m q i dl l=>⟨l▸zF n,λz a=>(q.fresh m (zh a) ⟨z,i,rfl,zo m a,zp m a,.inl z0,dl.step (Stp.new (zh a))⟩)⟩⟩
theorem KL(n:es.length<=room)(h:EsOk X D W es fs):PE X (.Tuple es kk pos) (rdE D W (qf fs)):=by
 refine PE.mono (z2p (wD h)) ?_;rintro o H Q ⟨b,g,c,e,j,k,p⟩;exact⟨b,g,c,e,j,k,p.bind.mono λr d f s st m q i dl l=>⟨l▸zF n,λz a=>(q.fresh m (zh a) ⟨z,i,rfl,zo m a,zp m a,.inl z0,dl.step (Stp.new (zh a))⟩)⟩⟩
theorem qB{f:Str}(h:qo e=true):z83 e f env (eval e env)=eval e env:=by
 cases e with
 |Call g args a p=>
  cases g with
  |Name x c=>
   have b:(x != ("super"))=true:=h;cases args<;>cases a<;>first|rfl|(unfold z83;simp[b])
  |Attribute _ _ _=>rfl
  |_=>exact absurd h z6e
 |_=>first|exact absurd h z6e|rfl
noncomputable def rdO (D:DP)(W:XW)(f:Dp):TO:=λa H Q=>RdP D H a λb e c d=>Post D W b e H a (λo _ _ g=>Q o g) (f c d)
theorem Yl:PO X none (rdO D W pN):=by
 rintro a s b H Q I ⟨d,g,e,f,h,c,p⟩;exact UH a s b H Q I (Post.ok p (Stp.refl _ _) c)
theorem YH(h:PE X a (rdE D W f)):PO X (some a) (rdO D W (pS f)):=by
 rintro b s g H Q I ⟨c,l,e,j,n,o,p⟩;refine UT h b s g H Q I ⟨c,l,e,j,n,o,p.bind.mono λt i k r st m q v d=>?_⟩;split at q
 .subst d;exact⟨_,rfl,q.ok (Stp.refl _ _) m⟩
 .exact q.elim
theorem jQ(l:DenL D φ α H ts xs)(lo hi:Option Int):DenL D φ α H (jy ts lo hi) (ur xs lo hi):=by
 have e:=l.length;have a:∀n d o,V0 n d o=HT.sIx n d o:=λn d o=>by cases o<;>rfl
 unfold jy ur;rw[a,a,e];exact (l.drop _).take _
theorem jH{lo:Option Int}(ht:IsTup s.heap t items)(hs:s.heap.IsSliceOf u vl j .none)(pl:z9_ vl lo)(c:z9_ j hi)
  (hw:HT.sIx items.size 0 lo=0/\HT.sIx items.size items.size hi=items.size) (h:Q (.ref t) s):z5V (z5X prog w) A (z9f (.ref t) (.ref u)) Q E s:=by
 obtain⟨os,a,b,d⟩:=id hs;unfold z9f;try with_reducible refine z6p ?_
 first|refine z5D (z5Q ?_)|skip
 refine z5D (zbd ht.typeIs dC (z5D (z9L ht.typeIs z73 (zbF z73 ht.typeIs zaI ?_ (zaU _ _)))));show z5V _ _ (z9q (.ref t) >>= _) _ _ s;refine z5D (tupleItemsOf_ ht (z5D (z8K ⟨os,a,b⟩ (z5D (HT.sliceApplied_gen hs pl c ?_)))));show z5V _ _ (if (((HT.sIx items.size 0 lo:Nat):Int)==0&&1==1&&(HT.sIx items.size items.size hi-HT.sIx items.size 0 lo)==items.size)=true then _ else _) _ _ s;rw[if_pos (by rw[hw.1,hw.2];simp)];refine z5D (z5D (z8K ht.typeIs (z5Q ?_)))
 first
  |exact z5D (za4 (z5Q ⟨_,rfl,z5Q h⟩))
  |exact z5D (za4 (z5D (z5Q (z5Q ⟨_,rfl,z5Q h⟩))))
theorem UG:SlR X (λx lo hi H Q=>∃a xs,x=.ref a/\SqT X.K H a xs/\(HT.sIx xs.length 0 lo=0/\HT.sIx xs.length xs.length hi=xs.length)/\Q (.ref a) H):=by
 intro b s j H x v vl k lo hi l Q I d hs f e h;obtain⟨a,xs,rfl,i,hw,q⟩:=h;subst d;obtain⟨g,r,c,m⟩:=I.tuple i;exact⟨"tuple",_,z73.lookup,c.typeIs,jH c hs f e ((z63▸r.length.symm)▸hw) ⟨.ref a,H,I,rfl,q⟩⟩
theorem X_{lo:Option Expr}(P:PE X a (rdE D W f))(N:PO X lo (rdO D W fo))(M:PO X hi (rdO D W go)):PE X (.Subscript a (.Slice lo hi none p2) pos) (rdE D W (eSl f fo go)):=by
 refine PE.mono (Xm (Ue.or (z0P.or UG)) P N M) ?_;rintro S H Q ⟨j,F,k,C,x,K,p⟩;refine⟨j,F,k,C,x,K,p.bind.mono λt o w Y st m q v d=>⟨j,w,k,o,x.step st,m,q.bind.mono λl n s V g L G=>⟨j,s,k,n,(x.step st).step g,L,G.bind.mono λu B E U i c h=>?_⟩⟩⟩;unfold z3h at h;split at h
 .obtain⟨ad,xs,rfl,_,_,r,dl⟩:=(d.step g).step i;exact .inl ⟨ad,xs,rfl,.inl r,λz b=>(h.fresh c (zh b) ⟨z,_,rfl,zo c b,zp c b,.inl z0,jQ (dl.step (Stp.new (zh b))) _ _⟩)⟩
 .obtain⟨ad,xs,rfl,J,I,r,dl⟩:=(d.step g).step i;by_cases hw:HT.sIx xs.length 0 l=0/\HT.sIx xs.length xs.length u=xs.length
  .refine .inr (.inr ⟨ad,xs,rfl,.inl r,hw,?_⟩);have e:ur xs l u=xs:=by unfold ur;rw[hw.1,hw.2];simp
   have A:=jQ dl l u;rw[e] at A;exact h.here c ⟨ad,xs,rfl,J,I,r,A⟩
  .exact .inr (.inl ⟨ad,xs,rfl,.inl r,hw,λz b=>(h.fresh c (zh b) ⟨z,_,rfl,zo c b,zp c b,.inl z0,jQ (dl.step (Stp.new (zh b))) _ _⟩)⟩)
 .obtain⟨T,O,h⟩:=h.ex1;obtain⟨ad,y,rfl⟩:=(d.step g).step i;obtain⟨xs,R,dl⟩:=c.ob _ ad _ y O;exact .inl ⟨ad,xs,rfl,.inl (.inl R),λz b=>(Post.fresh h c (zh b) ⟨z,_,rfl,zo c b,zp c b,.inl z0,jQ (dl.step (Stp.new (zh b))) _ _⟩)⟩
 .exact h.elim
theorem xw{g:Fn}{i:Addr}{kk:Nat}{Q:VK}(C:Ck D W E X k)(F:FnOk X.prog X.w X.K X.mg X.base (CX1 X.prog X.w) kk i fd ps (spN D ps.length g))
  (t:Room kk X.A) (v:Binds X.K fd ps []) (f:∀ts μ K Z,g ts μ K Z->ts.length=ps.length) (I:Inv X z B H s) (r:Vals vs j) (n:MRel D φ α H μ) (d:DenL D φ α H ts vs) (p:Post D W φ α H B (RV D φ Q) (g ts μ)) :
  z5V (z5X X.prog X.w) X.A (call (.ref i) j) (EP X z B Q) X.xe s:=by
 obtain⟨K,Z,q,a,o⟩:=p;have h:=f ts μ K Z q;have b:j.length=ps.length:=r.length▸d.length▸h;refine z8C (z7B (F.run X.A X.stack s H ⟨j,[]⟩ j vs Q (λc d l=>W c d B l) t I.env0 (by simpa using v s j I.kIn (by simpa using b)) r ⟨d.length▸h,φ,α,ts,μ,d,n,K,Z,q,a,o⟩) λr m a=>?_);cases r with
 |error e=>exact C.xe e m (xy I a λcls d l w=>w)
 |ok x=>
  cases x with
  |ret u=>exact I.after a
  |next=>exact z6s a
  |brk=>exact z6s a
  |cont=>exact z6s a
theorem UQ(C:Ck D W j X k){g:Fn}(c:x∈j.G)(hg:j.gl x=.fn g)(hc:j.calm=true)(h:EsOk X D W es fs):PE X (.Call (.Name x p0) es [] pos) (rdE D W (z3 g fs)):=by
 have q:=C.glo x c;rw[hg] at q;obtain⟨T,B,fd,R,S,n,o,d,Fn,a⟩:=q;have m:=(C.rom hc).mono d;have hs:=h.stars;rintro i s K H Q I ⟨F,M,J,L,y,l,p⟩;refine z6F (qL I (C.glb x c) B ?_ (C.dbG x c));cases es with
 |nil=>
  cases fs with
  |nil=>exact z8r I.kIn n (xw (ts:=[]) C Fn m o a I .nil l rfl p)
  |cons f fs=>exact h.elim
 |cons e es=>
  simp only[z7o,z5P] at hs;refine z7r I.ok.mod.kin n (thn (KD (wD h) I y l p) ?_) (z6 hs.1) (qA hs.2);rintro O P ⟨N,U,ts,t,u,r,z,v,w,b,E,_,A⟩;exact⟨r.kIn,xw C Fn m o a r z b E A⟩
theorem run_mk{c:Nat}{g:Fn}{C0 fI:Addr}{kk:Nat}{Q:VK}(C:Ck D W Γ X k)(ad:D.cad c=some C0)(M:Mk X.K C0 fI)(F:FnOk X.prog X.w X.K X.mg X.base (CX1 X.prog X.w) kk fI fd ps (spN D ps.length g))
  (hr:Room (kk+1) X.A) (hb:Binds X.K fd ps []) (har:∀ts μ K Z,g ts μ K Z->ts.length=ps.length) (I:Inv X U Y H s) (r:Vals vs B) (y:MRel D φ α H μ) (d:DenL D φ α H ts vs) (p:Post D W φ α H Y (RV D φ Q) (Qv c g ts μ)) :
  z5V (z5X X.prog X.w) X.A (call (.ref C0) B) (EP X U Y Q) X.xe s:=by
 obtain⟨K,Z,⟨hp,hg⟩,hk,hz⟩:=p;have hl:=har _ _ _ _ hg;have hq:∀x h,H x=none->H h=none->h≠x->spN D ps.length g (.ref x::(vs++[])) (upd (upd H h (.own x)) x (.ins C0 h [])) (λv H2=>v=.n/\Q (.ref x) H2) (λc d O=>W c d Y O):=by
  intro x h J hdx hne;have R:jv H (upd (upd H h (.own x)) x (.ins C0 h [])):=λb o e=>(z4 (zM e J))▸(z4 (zM e hdx))▸e;have st0:Stp [] H [x] (upd (upd H h (.own x)) x (.ins C0 h [])):=⟨⟨[x],rfl,λb f=>z5F.mp f▸J⟩,λb o _ e=>R b o e,λb e=>by
   cases q:H b with
   |none=>rfl
   |some o=>rw[R b o q] at e;exact vD e⟩
  have ph:∀b∈φ++α,∃o,H b=some o/\noF o=true:=λb f=>(z5L.mp f).elim (y.phi b) λz=>by
   obtain⟨i,hi⟩:=z6d.mp z;have hl':i<μ.length:=y.len▸(z5C.mp hi).1;exact (y.ob i b μ[i] hi sC).some
  refine⟨by simp only[z6l,z6S] at hl ⊢;rw[<-d.length];exact hl,φ++α,[x],.m 0::ts,[.obj c []],⟨.ref x,vs++[],rfl,⟨x,rfl,rfl⟩,by rw[z6S];exact (DenL.hide hp d Uh).step st0⟩,⟨rfl,sC,λb f=>z5F.mp f▸(λz=>(z5L.mp z).elim (zo y J) (zp y J)),λb f=>let ⟨o,e,n⟩:=ph b f;⟨o,R b o e,n⟩,λi a o P e2=>?_⟩,?_⟩
  .cases i with
   |zero=>simp at P e2;subst P e2;exact⟨C0,h,[],ad,z0,rfl⟩
   |succ i=>simp at P
  have E:∀{G:List Addr} {N:Hp},Stp [x] (upd (upd H h (.own x)) x (.ins C0 h [])) G N->jv H N:=λst b o e=>st.keep b o (λz=>by rw[z5F.mp z,J] at e;exact z7 e) (R b o e);refine⟨_,_,hg,?_,?_⟩
  .rintro t T ⟨rfl,fs,h0,L,q⟩ G N st m v dv;refine⟨dv,?_⟩;obtain⟨β,rfl,_⟩:=st.ext;obtain⟨C1,dx1,gs,ad1,P,lf⟩:=m.ob 0 x _ rfl h0;have j:=E st;exact hk _ _ q α N (Stp.new j) (y.new j) _ ⟨x,C1,dx1,gs,rfl,zo y J,zp y J,ad1,P,DenF.hide L lf Qq⟩
  .rintro e fs T ⟨L,q⟩ G N C1 d1 st m had xd;have j:=E st;exact hz _ _ _ q α N C1 d1 (Stp.new j) (y.new j) had (XDict.hide L xd Qq)
 have S:=Inv.made (C:=C0) I;have r2:Vals (V.ref (s.heap.objs.size+1)::(vs++[])) (z6u (s.heap.objs.size+1)::B):=.cons rfl (by rw[z6S];exact r);have hlu:(z6u (s.heap.objs.size+1)::B++[]).length=ps.length:=by
  rw[z6S,z6l,<-r.length,<-d.length];exact hl
 refine z8C (Wb I.kIn M.makes M.init (beq_iff_eq.mp M.fn) (z7B (F.run _ X.stack _ _ ⟨z6u (s.heap.objs.size+1)::B,[]⟩ (z6u (s.heap.objs.size+1)::B) _ _ (λc d O=>W c d Y O) (hr.make C0 B [])
  (S.env0.make C0 B []) (by simpa using hb _ (z6u (s.heap.objs.size+1)::B) S.kIn hlu) r2 (hq (s.heap.objs.size+1) s.heap.objs.size (I.hok.fresh (z8g _)) (I.hok.fresh (z5K _)) (z6b (z77 _)))) λr s' l=>?_))
 cases r with
 |error e=>exact C.xe e s' (xy S l λcls d O w=>w)
 |ok fl=>
  cases fl with
  |ret u=>
   obtain⟨v,O,I3,rv,ev,q3⟩:=S.after l;subst ev;exact⟨rv,⟨V.ref (s.heap.objs.size+1),O,I3,rfl,q3⟩⟩
  |next=>exact z6s l
  |brk=>exact z6s l
  |cont=>exact z6s l
theorem U1(C:Ck D W j X k){c:Nat}{g:Fn}(d:x∈j.G)(hg:j.gl x=.mk c true g)(hc:j.calm=true)(i:EsOk X D W es fs):PE X (.Call (.Name x p0) es [] pos) (rdE D W (eMk c g fs)):=by
 have q:=C.glo x d;rw[hg] at q;obtain⟨C0,U,fd,S,T,ad,B,M,o,h,Fn,a⟩:=q;have n:=(C.rom hc).mono h;have hs:=i.stars;rintro l s K H Q I ⟨F,N,J,L,y,m,p⟩;refine z6F (qL I (C.glb x d) B ?_ (C.dbG x d));cases es with
 |nil=>
  cases fs with
  |nil=>exact z8r I.kIn M.kp (run_mk (ts:=[]) C ad M Fn n o a I .nil m rfl p)
  |cons f fs=>exact i.elim
 |cons e es=>
  simp only[z7o,z5P] at hs;refine z7r I.ok.mod.kin M.kp (thn (KD (wD i) I y m p) ?_) (z6 hs.1) (qA hs.2);rintro P R ⟨O,V,ts,t,u,r,z,v,w,b,E,_,A⟩;exact⟨r.kIn,run_mk C ad M Fn n o a r z b E A⟩
set_option tactic.hygienic true in
theorem z2D(C:Ck D W M X k)(O:qo a=true)(B:(x,n)∈M.fld)(R:PE X a (rdE D W f)):PE X (.Attribute a x pos) (rdE D W (zE f n)):=by
 refine PE.mono (z1r R (qB O)) ?_;rintro S H Q ⟨E,K,F,I,L,N,p⟩;refine⟨E,K,F,I,L,N,p.bind.mono λt G J T st m q v d=>?_⟩;unfold yQ at q;split at q
 .split at q
  .rename_i c fs _ w hw;obtain⟨ad,C0,s,i,rfl,_,_,o,j,l⟩:=d;obtain⟨y,z,g,e,r⟩:=l.look hw;obtain⟨b,A,u⟩:=C.fld c C0 x n o B;rw[g] at b;cases b;exact⟨ad,C0,s,i,z,rfl,j,A,u,e,q.here m r⟩
  .exact q.elim
 .obtain⟨c,fs,w,P,hw,q⟩:=q.ex3;obtain⟨ad,h,rfl⟩:=d;obtain⟨C0,s,i,o,j,l⟩:=m.ob _ ad _ h P;obtain⟨y,z,g,e,r⟩:=l.look hw;obtain⟨b,A,u⟩:=C.fld c C0 x n o B;rw[g] at b;cases b;exact⟨ad,C0,s,i,z,rfl,j,A,u,e,Post.here q m r⟩
 .exact q.elim
theorem VY{B:Prop}(C:Ck D W E X k){c:Nat}{C0 e ad:Addr}(I:Inv X u w H s)(a:D.cad c=some C0)(d:H ad=some (.ins C0 e G))
  (b:∀j P,WJ D c j->za5 X.K (.ref ad) j P->P s.heap->(z6u ad)≠.builtin "__main__.__loader__#opaque"->B):B:=by
 have o:=C.ocx c C0 a;obtain⟨g,O,_⟩:=jN I.hok d;obtain⟨f,J,_⟩:=O.look;exact b _ _ (.inr (.inr (.inr (.inr (.inr (.inr (.inr (.inr ⟨C0,a,rfl⟩)))))))) (PySem.W.kitx_own (o.cl.get _) o.cl.hd o.fi o.sp o.tk o.ob) J (λz=>nomatch z)
theorem z1x{B:Prop}(C:Ck D W J X k){t:T}{v:V}(I:Inv X E G H s)(d:Den D φ α H t v)(r:RelV v u)(ht:tyN t μ=some n)
  (a:∀w P,WJ D n w->za5 X.K u w P->P s.heap->u≠.builtin "__main__.__loader__#opaque"->B):B:=by
 cases t with
 |n=>subst d;subst r;(injection ht with ht;subst ht);exact a _ _ (.inl ⟨rfl,rfl⟩) PySem.W.kitx_none z76 (λz=>nomatch z)
 |bl b=>subst d;subst r;(injection ht with ht;subst ht);exact a _ _ (.inr (.inl ⟨rfl,rfl⟩)) PySem.W.kitx_bool z76 (λz=>nomatch z)
 |int i=>subst d;obtain⟨t,rfl⟩:=r;(injection ht with ht;subst ht);exact a _ _ (.inr (.inr (.inl ⟨rfl,rfl⟩))) PySem.W.kitx_int z76 (λz=>nomatch z)
 |str i=>subst d;obtain⟨t,rfl⟩:=r;(injection ht with ht;subst ht);exact a _ _ (.inr (.inr (.inr (.inl ⟨rfl,rfl⟩)))) PySem.W.kitx_str z76 (λz=>nomatch z)
 |t h=>
  obtain⟨ad,xs,rfl,_,_,q,_⟩:=d;subst r;(injection ht with ht;subst ht);obtain⟨e,_,⟨o,g,f,_⟩,_⟩:=I.tuple (.inl q);exact a _ _ (.inr (.inr (.inr (.inr (.inl ⟨rfl,rfl⟩))))) PySem.W.kitx_tuple ⟨o,g,f⟩ (λz=>nomatch z)
 |l h=>
  obtain⟨ad,xs,rfl,_,_,q,_⟩:=d;subst r;(injection ht with ht;subst ht);obtain⟨e,_,p,_⟩:=I.list (.inl q);obtain⟨o,g,f,_⟩:=p.isList;exact a _ _ (.inr (.inr (.inr (.inr (.inr (.inl ⟨rfl,rfl⟩)))))) zbg ⟨o,g,f⟩ (λz=>nomatch z)
 |obj c fs=>
  obtain⟨ad,C0,F,A,rfl,_,_,y,x,l⟩:=d;subst r;cases ht;exact VY C I y x a
 | m i=>exact z7 ht
 |clo j cs=>exact z7 ht
 |exc c fs=>exact z7 ht
 |d m=>exact z7 ht
theorem UB{B:Prop}(C:Ck D W M X k){v:V}{o:MO}(I:Inv X E J H s)(n:MRel D φ α H μ)(d:Den D φ α H (.m i) v)(r:RelV v u)(ht:μ[i]?=some o)(g:UX o=false)
  (b:∀w P,WJ D (tyO o) w->za5 X.K u w P->P s.heap->u≠.builtin "__main__.__loader__#opaque"->B):B:=by
 obtain⟨ad,x,rfl⟩:=d;subst r;have a:=n.ob i ad o x ht;cases o with
 |l L=>
  obtain⟨xs,q,_⟩:=a;obtain⟨t,_,p,_⟩:=I.list (.inl (.inl q));obtain⟨o,A,y,_⟩:=p.isList;exact b _ _ (.inr (.inr (.inr (.inr (.inr (.inl ⟨rfl,rfl⟩)))))) zbg ⟨o,A,y⟩ (λz=>nomatch z)
 |obj c fs=>
  obtain⟨C0,O,h,G,F,l⟩:=a;exact VY C I G F b
 |d f=>
  obtain⟨h,e,_⟩:=a;obtain⟨_,_,m,_,a⟩:=(I.hok ad _ e);exact b _ _ (.inr (.inr (.inr (.inr (.inr (.inr (.inr (.inl ⟨rfl,rfl⟩)))))))) zbh a.typeIs (λz=>nomatch z)
 |tab j=>injection g
 |frd N f=>
  obtain⟨h,e,_⟩:=a;obtain⟨_,_,m,_,a⟩:=(I.hok ad _ e);exact b _ _ (.inr (.inr (.inr (.inr (.inr (.inr (.inr (.inl ⟨rfl,rfl⟩)))))))) zbh a.dictOf.typeIs (λz=>nomatch z)
set_option tactic.hygienic true in
theorem YA{B:Prop}(C:Ck D W E X k){t:T}{v:V}{u:Value}{Q:VK}(I:Inv X z w H s)(c:MRel D φ α H μ)(d:Den D φ α H t v)(r:RelV v u)(q:Post D W φ α H w (RV D φ Q) (YL cs t μ))
  (b:∀n j P,Post D W φ α H w (RV D φ Q) (.ok (.bl (isAny n cs)) μ)->WJ D n j->za5 X.K u j P->P s.heap->u≠.builtin "__main__.__loader__#opaque"->B):B:=by
 unfold YL at q;split at q
 .obtain⟨o,e,q⟩:=q.som;rcases q.br with⟨_,q⟩|⟨f,q⟩
  .exact q.elim
  .exact UB C I c d r e f λj P=>b _ j P q
 .split at q
  .rename_i g a;exact z1x C I d r a λj P=>b _ j P q
  .exact q.elim
noncomputable def nmP:Expr->Option (Str×Pos)
 |.Name x p=>some (x,p)
 |_=>none
theorem z2h(h:nmP e=some q):e=.Name q.1 q.2:=by cases e<;>first|(cases h;rfl)|exact z7 h
noncomputable def QB(a:Cn)(e:Expr):Option (List Nat):=(nmP e).bind λq=>if (idx a.N q.1).isNone&&a.G.contains q.1 then (a.cls.lookup q.1).map λc=>[c] else none
theorem lookup_mem{β:Type}{v:β}:∀{l:List (Str×β)},l.lookup x=some v->(x,v)∈l
 |[],h=>z7 h
 |(y,w)::r,h=>by
  rw[z6v] at h;cases q:x==y with
  |true=>rw[q] at h;cases h;rw[beq_iff_eq.mp q];exact z60
  |false=>rw[q] at h;exact z5T _ (lookup_mem h)
theorem z0J(C:Ck D W j X k){c:Nat}(hc:x∈j.G)(d:(x,c)∈j.cls):∃u v,KS X x u/\ClsV v u/\∀p0,PE X (.Name x p0) (tC v):=by
 obtain⟨u,v,a,r⟩:=C.clv x c d;refine⟨u,v,a,r,λp0=>?_⟩;rcases a with h|⟨h,e,b⟩
 .exact Vi (C.glb x hc) h r.rel (C.dbG x hc)
 .exact YK (C.glb x hc) h e r.rel b (C.dbG x hc)
theorem z0r (C:Ck D W z X k) (y:("isinstance":Str)∈z.G) (hg:z.gl "isinstance"=.none) (hs:noStar a=true) (e:QB z c=some cs) (ha:PE X a (rdE D W f)):PE X (.Call (.Name "isinstance" p0) [a,c] [] pos) (rdE D W (wF cs f)):=by
 have l:=C.glo _ y;rw[hg] at l;rintro j s E H Q I ⟨i,F,N,O,S,mr,p⟩;refine z6F (wG I (C.glb _ y) l boot_isinstance ?_ dC (C.dbG _ y));obtain⟨Y,hq,e⟩:=z9N.mp e;rw[z2h hq];split at e
 .rename_i hc;obtain⟨n,hl,rfl⟩:=z6q.mp e;have l:=lookup_mem hl;obtain⟨L,R,cv,r,Z⟩:=z0J C (z6j.mp ((z5P ..).mp hc).2) l;refine z7X (thn (zI ha (zI (Z _) qr (z6 rfl)) (z6 hs) pos j s E H (λJ h=>∃v t g b,J=[v,R]/\Stp F H b h/\MRel D i b h g/\Den D i b h t v/\Post D W i b h E (RV D i Q) (YL [n] t g)) I ⟨i,F,N,O,S,mr,p.bind.mono λt o w H' st m q v d=>⟨v,t,o,w,rfl,st,m,d,q⟩⟩) ?_) (z6 hs) (qA (by rfl));rintro us s1 ⟨J,h,B,T,v,t,g,b,rfl,st,m,d,q⟩;obtain⟨u,u2,rfl,V,U⟩:=vals2 T;rw[r.only U];refine YA C B m d V q λx M P q ht kx hP A=>?_;have k1:z9t X.K M L=some (isAny x [n]):=by
   rw[C.isi x Y.1 n l M L ht cv,yN];cases vY x n<;>rfl
  exact PySem.W.kia_one kx B.kIn hP k1 A λtk=>⟨.bl _,h,B.tok tk,rfl,q.here m rfl⟩
 .exact z7 e
variable {X:Cx}{D:DP}{W:XW}{Γ:Cn}{k:Nat}{pins:List (Addr×Obj)}{s:Shared}{σ:St}{H:Hp}{φ α:List Addr}{τ:Sl}{μ:Mem}{f h:De}{a b:Expr}{pos:Pos}{es:List Expr}
noncomputable def B1 (X:Cx)(D:DP)(W:XW)(a:Value)(op:T->Mem->RE T):Prop:=
 ∀(pins:List (Addr×Obj)) (s:z5W) (σ:St) (H:Hp) (φ α:List Addr) (μ:Mem) (t:T) (v:V) (u:Value) (Q:VK),Inv X pins σ H s->MRel D φ α H μ->Den D φ α H t v->RelV v u->Post D W φ α H σ (RV D φ Q) (op t μ)->
  z5V (z5X X.prog X.w) X.A (call a [u]) (EP X pins σ Q) X.xe s
theorem V9 (C:Ck D W Γ X k) {id:String} (n:x∈Γ.G) (hg:Γ.gl x=.none) (K:z6W x=some (.builtin id)) (L:x≠"__name__") (hs:noStar a=true) (M:B1 X D W (.builtin id) op) (N:PE X a (rdE D W f)) :
  PE X (.Call (.Name x p0) [a] [] pos) (rdE D W (eB1 op f)):=by
 have w:=C.glo _ n;rw[hg] at w;rintro e s i H Q I ⟨g,o,y,z,A,J,p⟩;refine z6F (wG I (C.glb _ n) w K (z7X (thn (zI N qr (z6 hs) pos e s i H (λr h=>∃v t c b,r=[v]/\Stp o H b h/\MRel D g b h c/\Den D g b h t v/\Post D W g b h i (RV D g Q) (op t c)) I ⟨g,o,y,z,A,J,p.bind.mono λt j l R st m q v d=>⟨v,t,j,l,rfl,st,m,d,q⟩⟩) ?_) (z6 hs) (qA (by rfl))) L (C.dbG _ n));rintro P B ⟨r,h,O,E,v,t,c,b,rfl,st,m,d,q⟩;obtain⟨u,rfl,F⟩:=vals1 E;exact M e B i h g b c t v u Q O m d F q
theorem U_ (C:Ck D W Γ X k) {id:String} (n:x∈Γ.G) (hg:Γ.gl x=.none) (K:z6W x=some (.type id)) (L:x≠"__name__") (hs:noStar a=true) (M:B1 X D W (.type id) op) (N:PE X a (rdE D W f)) :
  PE X (.Call (.Name x p0) [a] [] pos) (rdE D W (eB1 op f)):=by
 have w:=C.glo _ n;rw[hg] at w;rintro e s i H Q I ⟨g,o,y,z,A,J,p⟩;refine z6F (wG I (C.glb _ n) w K (z6T (thn (zI N qr (z6 hs) pos e s i H (λr h=>∃v t c b,r=[v]/\Stp o H b h/\MRel D g b h c/\Den D g b h t v/\Post D W g b h i (RV D g Q) (op t c)) I ⟨g,o,y,z,A,J,p.bind.mono λt j l R st m q v d=>⟨v,t,j,l,rfl,st,m,d,q⟩⟩) ?_) (z6 hs) (qA (by rfl))) L (C.dbG _ n));rintro P B ⟨r,h,O,E,v,t,c,b,rfl,st,m,d,q⟩;obtain⟨u,rfl,F⟩:=vals1 E;exact M e B i h g b c t v u Q O m d F q
theorem z3R:B1 X D W (.builtin "len") wb:=by
 intro a s c H h j i t v u Q I b d r p;unfold wb at p;split at p
 .obtain⟨ad,xs,rfl,_,_,q,l⟩:=d;exact vf a s c H _ _ Q I (.cons r .nil) ⟨ad,xs,rfl,.inl (.inl q),l.length▸p.here b rfl⟩
 .obtain⟨ad,xs,rfl,_,_,q,l⟩:=d;exact vf a s c H _ _ Q I (.cons r .nil) ⟨ad,xs,rfl,.inr (.inl q),l.length▸p.here b rfl⟩
 .subst d;obtain⟨e,p⟩:=p.grd;exact Zm a s c H _ _ Q I (.cons r .nil) ⟨_,rfl,zF e,p.here b rfl⟩
 .obtain⟨k,f,p⟩:=p.ex1;obtain⟨ad,g,rfl⟩:=d;obtain⟨xs,q,l⟩:=b.ob _ ad _ g f;exact vf a s c H _ _ Q I (.cons r .nil) ⟨ad,xs,rfl,.inl (.inl (.inl q)),l.length▸Post.here p b rfl⟩
 .exact p.elim
theorem z17:B1 X D W (.type "list") Qi:=by
 intro b s e H h j i t v u Q I c d r p;unfold Qi at p;split at p
 .obtain⟨ad,xs,rfl,_,_,q,l⟩:=d;exact vr b s e H _ _ Q I (.cons r .nil) ⟨ad,xs,rfl,.inl (.inl q),λz a=>p.fresh c (zh a) ⟨z,xs,rfl,zo c a,zp c a,.inl z0,l.step (Stp.new (zh a))⟩⟩
 .obtain⟨ad,xs,rfl,_,_,q,l⟩:=d;exact vr b s e H _ _ Q I (.cons r .nil) ⟨ad,xs,rfl,.inr (.inl q),λz a=>p.fresh c (zh a) ⟨z,xs,rfl,zo c a,zp c a,.inl z0,l.step (Stp.new (zh a))⟩⟩
 .obtain⟨k,f,p⟩:=p.ex1;obtain⟨ad,g,rfl⟩:=d;obtain⟨xs,q,l⟩:=c.ob _ ad _ g f;exact vr b s e H _ _ Q I (.cons r .nil) ⟨ad,xs,rfl,.inl (.inl (.inl q)),λz a=>Post.fresh p c (zh a) ⟨z,xs,rfl,zo c a,zp c a,.inl z0,l.step (Stp.new (zh a))⟩⟩
 .exact p.elim
theorem vb(a:H p=none):Stp α H (α++[p]) (upd H p o):=⟨⟨[p],rfl,by simpa using a⟩,λb u _ e=>zh a b u e,λb e=>by
 by_cases z:b=p
 .rw[z,z0] at e;exact vD e
 .rw[z4 z] at e;exact e⟩
theorem MRel.lay(m:MRel D φ α H μ)(g:H p=none)(l:DenL D φ α H ts vs):MRel D φ (α++[p]) (upd H p (.l vs)) (μ++[.l ts]):=by
 have st:Stp α H (α++[p]) (upd H p (.l vs)):=vb g;have s:=m.len;refine⟨by simp[s],?_,λb j=>?_,λb j=>?_,λi a o c f=>?_⟩
 .rw[z6L];refine⟨m.nd,sC,λa t b j=>?_⟩;rw[z5F.mp j];intro z;exact zp m g (z▸t)
 .rcases z5L.mp j with h|h
  .exact m.dis b h
  .rw[z5F.mp h];exact zo m g
 .obtain⟨u,e,n⟩:=m.phi b j;exact⟨u,zh g b u e,n⟩
 .by_cases hi:i<α.length
  .rw[z5N hi] at c;rw[z5N lC] at f;have d:=m.ob i a o c f;obtain⟨u,q,_⟩:=d.some;exact d.step st ((zh g _ _ q).trans q.symm)
  .rw[z5_ lC] at c f;have r:i-α.length=0:=by
    by_cases z:i-α.length=0
    .exact z
    .rw[z87 (by simp;lia)] at c;exact z7 c
   have k:i-μ.length=0:=by lia
   rw[r] at c;rw[k] at f;(replace c:=zm c;subst c);(replace f:=zm f;subst f);exact⟨vs,z0,l.step st⟩
theorem Post.lay(q:Post D W φ α H σ (RV D φ Q) (.ok (.m μ.length) (μ++[.l ts])))(m:MRel D φ α H μ)(a:H p=none)(l:DenL D φ α H ts vs):Q (.ref p) (upd H p (.l vs)):=
 q.ok (vb a) (m.lay a l) _ ⟨p,by rw[<-m.len,z5_ (z5K _)];simp,rfl⟩
theorem z1i(k:es.length<=room)(l:EsOk X D W es fs):PE X (.List es pos) (rdE D W (jm fs)):=by
 refine PE.mono (XT (wD l)) ?_;rintro n H Q ⟨a,f,b,d,g,h,p⟩;refine⟨a,f,b,d,g,h,p.bind.mono λr c e s st m q o dl j=>⟨j▸zF k,λz i=>q.lay m i dl⟩⟩
theorem ZT:∀{ts:List T} {bs:List Bool} {vs:List V} {a:List Value},bools ts=some bs->DenL D φ α H ts vs->Vals vs a->a=bs.map z9Y
 |[],bs,vs,a,h,l,r=>by
  simp[bools] at h;subst h;subst l;cases r;rfl
 |t::ts,bs,vs,a,h,l,r=>by
  obtain⟨v,w,rfl,d,l⟩:=l;cases t with
  |bl b=>
   simp only[bools] at h;cases q:bools ts with
   |none=>rw[q] at h;exact z7 h
   |some cs=>
    rw[q] at h;(injection h with h;subst h);cases r with
    |cons e c=>
     subst d;subst e;rw[ZT q l c];rfl
  |_=>simp[bools] at h
set_option tactic.hygienic true in
theorem z3f(E:X.calm=true):B1 X D W (.builtin "all") ZE:=by
 intro m s K H J M L t v u Q I y d r p;unfold ZE at p;split at p;case h_2=>exact p.elim
 rename_i xs;obtain⟨bs,F,p⟩:=p.som;obtain⟨ad,N,rfl,_,_,q,l⟩:=d;subst r;obtain⟨c,o,w,P⟩:=I.list (.inl q);have eb:=ZT F l o;have j:=w.isList;have g:ad<s.heap.objs.size:=by obtain⟨_,e,_⟩:=j;exact z5U e
 refine call_all_walk (z8M j ?_)
 refine⟨s.heap.objs.size,[s.heap.objs.size,ad],[s.heap.objs.size],c.toArray.size,_,_,λi=>(bs[i]?).getD true,rfl,zci (A:=X.A.in1) (I.ok.hd E) _ ad (z6b g) c.toArray,
  ⟨⟨_,z6a _ rfl,rfl,rfl⟩,j.push _⟩,λi v O S T G n=>?_,λR tk C=>?_⟩
 .have a:c[i]?=some v:=by simpa using G
  rw[eb,z5Z] at a;cases e:bs[i]? with
  |none=>rw[e] at a;exact z7 a
  |some b=>
   rw[e] at a;simp at a;subst a;simp only[e,Option.getD_some] at n;exact z6m n
 .have e:((z6V c.toArray.size).all λi=>(bs[i]?).getD true)=bs.all id:=by
   have z:c.toArray.size=bs.length:=by simp[eb]
   rw[z];rw[z8A];simp only[z6n,z7S];constructor
   .intro h b k;obtain⟨i,f,rfl⟩:=z91.mp k;have:=h i f;simpa[f] using this
   .intro h i f;have:=h bs[i] (z8W f);simpa[f] using this
  rw[e];exact⟨.bl (bs.all id),H,I.kept (λb x e=>C b x (λB=>by rw[z5F.mp B] at e;exact z79 _ (z5U e)) (z5I _ e)),rfl,p.here y rfl⟩
theorem Stp.turn(a:x∈α)(c:∃j,H x=some j):Stp α H α (upd H x o):=by
 refine⟨⟨[],sC,sC⟩,λb u n e=>?_,λb e=>?_⟩
 .rw[z4 (λ(z:b=x)=>n (z▸a))];exact e
 .by_cases z:b=x
  .rw[z,z0] at e;exact vD e
  .rw[z4 z] at e;exact e
theorem MRel.turn(m:MRel D φ α H μ)(g:α[i]?=some x)(hi:i<μ.length)(st:Stp α H α (upd H x o))(d:DenO D φ α (upd H x o) w x):MRel D φ α (upd H x o) (μ.set i w):=by
 refine⟨by simp[m.len],m.nd,m.dis,λb h=>?_,λj y k c a=>?_⟩
 .obtain⟨u,l,n⟩:=m.phi b h;exact⟨u,st.keep b u (λz=>m.dis b z h) l,n⟩
 .by_cases q:i=j
  .subst q;rw[g] at c;(replace c:=zm c;subst c);rw[z6N hi] at a;(replace a:=zm a;subst a);exact d
  .rw[z5G q] at a;have ne:y≠x:=λz=>by
    subst z;obtain⟨h1,f⟩:=z5C.mp c;obtain⟨h2,e⟩:=z5C.mp g;exact q ((z7T m.nd).mp (e.trans f.symm))
   exact DenO.step st (z4 ne) (m.ob j y k c a)
theorem Xu(e:MRel D φ α H μ)(b:α[i]?=some x)(c:μ[i]?=some (.l ts))(f:H x=some (.l xs))(l:DenL D φ α H ts xs)(d:Den D φ α H t v) :
  Stp α H α (upd H x (.l (xs++[v])))/\MRel D φ α (upd H x (.l (xs++[v]))) (μ.set i (.l (ts++[t]))):=by
 have a:Stp α H α (upd H x (.l (xs++[v]))):=Stp.turn (z5E b) ⟨_,f⟩;exact⟨a,e.turn b ((z5C.mp c).1) a ⟨_,z0,(l.step a).append ⟨v,[],rfl,d.step a,rfl⟩⟩⟩
set_option tactic.hygienic true in
theorem z1f(R:qo o=true)(hs:noStar a=true)(b:(pa.endLine==pc.line)=true)(ho:PE X o (rdE D W go))(Y:PE X a (rdE D W f)) :
  PE X (.Call (.Attribute o "append" pa) [a] [] pc) (rdE D W (Zx go f)):=by
 have V:z6H [a] X.env=[(false,eval a X.env)]:=z6 hs;refine PE.mono (z01 z9O PySem.F.slot_list_append PySem.F.type_list_append uI ho (zI Y qr (z6 hs)) (qB R) (by rw[V];rfl) b (z6 hs) rfl) ?_;rintro σ H Q ⟨w,I,y,G,z,N,p⟩;refine⟨w,I,y,G,z,N,p.bind.mono λot k m H1 r B q ov dv=>?_⟩;split at q;case h_2=>exact q.elim
 rename_i i;obtain⟨K,Z,⟨⟨L,g⟩,U⟩,T,P⟩:=q;obtain⟨x,s,rfl⟩:=dv;obtain⟨J,u,l0⟩:=B.ob _ x _ s g;refine⟨.inl ⟨rfl,_,.inl (.inl u)⟩,w,m,y,k,z.step r,B,_,Z,U,?_,P⟩;rintro t E ⟨ts,h,S,M⟩ c H2 e A v d;obtain⟨β,e2,_⟩:=e.ext;have j:c[i]?=some x:=by
  rw[e2,z5N (z5C.mp s).1];exact s
 obtain⟨xs,C,l⟩:=A.ob i x _ j h;obtain⟨n,O⟩:=Xu A j h C l d;refine⟨x,xs,v,rfl,rfl,C,?_,?_⟩
 .rw[<-l.length];exact z5S S (zF (z5K _))
 .exact T _ _ M c _ (e.trans n) O .n rfl
end
structure ItV(D:DP)(J:It)(Ok:List Addr->List Addr->Hp->Prop)(xs:List T):Prop where
 go:∀(i:Nat) φ α H,Ok φ α H->i<xs.length->J.go i H
 yld:∀(i:Nat) φ α H v H' t,Ok φ α H->xs[i]?=some t->J.yld i H v H'->jv H H'/\Den D φ α H' t v
 stop:∀φ α H,Ok φ α H->J.stop xs.length H
noncomputable def OkI (D:DP)(φ α:List Addr)(H:Hp)(xs:List T)(lv:Mem->Prop)(Ok:List Addr->List Addr->Hp->Prop):Prop:=∀a b d c,Lk φ α H a b d->MRel D a b d c->lv c->Ok a b d
noncomputable def rdI (D:DP)(W:XW)(f:Di):TI:=λd H R=>RdP D H d λc i g h=>
 Post D W c i H d (λp a b e=>∀J Ok,ItV D J Ok p.1->OkI D c b e p.1 p.2 Ok->p.2 a->R J e) (f g h).re
theorem Lk.trans(a:Lk φ α H s w B)(b:Lk s w B j u z):Lk φ α H j u z:=
 ⟨λx o n1 n2 e=>let ⟨m1,c,d⟩:=a.ob x o n1 n2 e;b.ob x o m1 c d,λi x e=>b.st i x (a.st i x e)⟩
theorem Jd{D:DP}{φ α:List Addr}{H:Hp}{b:Type}{f:b->T}{xs:List b}{i:Nat}(h:(xs.map f)[i]?=some t):∃a,xs[i]?=some a/\t=f a:=by
 rw[z5Z] at h;cases q:xs[i]? with
 |none=>rw[q] at h;exact z7 h
 |some a=>rw[q] at h;(injection h with h;subst h);exact⟨a,rfl,rfl⟩
section
theorem QW{K:z5M}{ad:Addr}:ItV D (Itl K ad) (λφ α H=>∃vs,Rd H ad (.l vs)/\DenL D φ α H xs vs) xs:=
 ⟨λi φ α H ⟨vs,ok,l⟩ b=>⟨vs,vs[i]'(l.length▸b),.inl ok,sC⟩,λi φ α H v c t ⟨vs,ok,l⟩ b y=>by
  obtain⟨rfl,y⟩:=y;obtain⟨x,a,d⟩:=l.get b;have e:=y vs (.inl ok);rw[e] at a;(replace a:=zm a;subst a);exact⟨λ_ _ z=>z,d⟩,λφ α H ⟨vs,ok,l⟩=>⟨vs,.inl ok,l.length▸z5K _⟩⟩
theorem Jz{i:Nat}(h:(z6V n)[i]?=some j):j=i:=by
 have:=(z5C.mp h).2;simpa using this.symm
noncomputable def ItC (z:Str):It:=⟨λi _=>i<z.cps.toList.length,λi H x a=>a=H/\∃c,z.cps.toList[i]?=some c/\x=.str ⟨#[c]⟩,λi _=>z.cps.toList.length<=i⟩
theorem U7{z:Str}:ItV D (ItC z) (λ_ _ _=>True) (z.cps.toList.map λc=>T.str ⟨#[c]⟩):=
 ⟨λi φ α H _ b=>by (show i<_);simpa using b,λi φ α H v e t _ b y=>by
  obtain⟨j,d,rfl⟩:=Jd (D:=D) (φ:=φ) (α:=α) (H:=H) b;obtain⟨rfl,c,a,rfl⟩:=y;rw[d] at a;(replace a:=zm a;subst a);exact⟨λ_ _ z=>z,rfl⟩,λφ α H _=>by show _<=_;simp⟩
theorem Xn {P:z6t} {K:z5M} (hk:kd="str_ascii_iterator"\/kd="str_iterator") (it:Addr) (z:Str) (t0:Tok):Turn P w K tg (ItC z) [it] it (λi h=>h.IsStrIter it kd z t0 i) where
 mem:=by simp
 obj:=λi h st b a=>by
  have e:b=it:=by simpa using a
  subst e;obtain⟨o,e,c,d⟩:=st;exact⟨o,e,λv z=>by rw[d] at z;injection z⟩
 keep:=λi h l st k=>let ⟨o,J,r⟩:=st;⟨o,k it sC o J,r⟩
 item:=by
  intro X C hw D B i g s y H E I m st hg;subst C hw D;obtain⟨x,u,L,t,q,p⟩:=m it sC;have j:=Array.getElem?_eq_getElem (by simpa[ItC] using hg);have n:z.cps.toList[i]?=some z.cps[i]:=Array.getElem?_toList▸j;rcases hk with rfl|rfl
  .refine wpAny_pyNext_ascii_item st j λl f A=>?_;have F:Inv X g y H {s with heap:=l,toks:=s.toks+1}:=I.turned (λb o a e=>(A.2 b a).trans e) x u t q p;obtain⟨o,e,c,d⟩:=id f;exact⟨.str ⟨#[z.cps[i]]⟩ s.toks,rfl,y7 e c d dC ⟨.str ⟨#[z.cps[i]]⟩,H,F,⟨_,rfl⟩,⟨rfl,z.cps[i],n,rfl⟩,f,λb a=>(m b a).1⟩⟩
  .refine wpAny_pyNext_wide_item st j λl f A=>?_;have F:Inv X g y H {s with heap:=l,toks:=s.toks+1}:=I.turned (λb o a e=>(A.2 b a).trans e) x u t q p;obtain⟨o,e,c,d⟩:=id f;exact⟨.str ⟨#[z.cps[i]]⟩ s.toks,rfl,y7 e c d dC ⟨.str ⟨#[z.cps[i]]⟩,H,F,⟨_,rfl⟩,⟨rfl,z.cps[i],n,rfl⟩,f,λb a=>(m b a).1⟩⟩
 done:=by
  intro X C hw D B i g s y H E I m st hg;subst C hw D;obtain⟨x,u,L,t,q,p⟩:=m it sC;have G:=Array.getElem?_eq_none (by have:z.cps.toList.length<=i:=hg;simpa using this);rcases hk with rfl|rfl
  .exact wpAny_pyNext_ascii_end (I.ok.hd B) st G λl eb=>⟨rfl,I.turned (λb o a e=>eb b o a e) x u t q p⟩
  .exact wpAny_pyNext_wide_end (I.ok.hd B) st G λl eb=>⟨rfl,I.turned (λb o a e=>eb b o a e) x u t q p⟩
 self:=λ_ _ _ _ _ st h=>by
  rcases hk with rfl|rfl
  .exact wpAny_pyIter_striter_ascii st h
  .exact wpAny_pyIter_striter_wide st h
theorem UO(w:PE X a (rdE D W f)):PI X tg a (rdI D W (iE f)):=by
 rintro i s T H R I ⟨S,α,τ,μ,sr,mr,p⟩;refine thn (sub w I sr mr p) ?_;rintro u c ⟨v,x,t,U,B,d,F,Y,Z,h,M,n⟩;cases t with
 |l V=>
  obtain⟨ad,N,rfl,n1,n2,q,l⟩:=M;subst F;obtain⟨L,rv,J,hz⟩:=d.list (.inl q);refine z8M J.isList ⟨c.heap.objs.size,[c.heap.objs.size],_,_,x,rfl,d.kept λb o e=>z5I _ e,uO ad _,⟨_,z6a _ rfl,rfl,rfl⟩,λb k=>?_,?_⟩
  .have e:b=c.heap.objs.size:=by simpa using k
   subst e;exact d.fpOk (z5K _) (d.hok.fresh (z5K _))
  .have g:=n;exact g.ok (Stp.refl _ _) h _ _ QW (λy C H' A lk _ _=>by
    obtain⟨a',E,e,_,_,G,K⟩:=Den.lk lk (show Den D S B x (.l V) (.ref ad) from ⟨ad,N,rfl,n1,n2,q,l⟩);(injection e with e;subst e);exact⟨E,G,K⟩) trivial
 | m j=>
  obtain⟨ad,Q,rfl⟩:=M;subst F;have g:=n;obtain⟨xs,P,g⟩:=g.ex1;obtain⟨N,q,l⟩:=h.ob j ad _ Q P;obtain⟨L,rv,J,hz⟩:=d.list (.inl (.inl q));refine z8M J.isList ⟨c.heap.objs.size,[c.heap.objs.size],_,_,x,rfl,d.kept λb o e=>z5I _ e,uO ad _,⟨_,z6a _ rfl,rfl,rfl⟩,λb k=>?_,?_⟩
  .have e:b=c.heap.objs.size:=by simpa using k
   subst e;exact d.fpOk (z5K _) (d.hok.fresh (z5K _))
  .have g:=g;exact g.ok (Stp.refl _ _) h _ _ QW (λy C H' A lk m hl=>by
    obtain⟨E,G,K⟩:=m.ob j ad _ (lk.st j ad Q) hl;exact⟨E,.inl G,K⟩) P
 |str z=>
  subst M;obtain⟨O,rfl⟩:=F;have fin:∀{r:String},(r="str_ascii_iterator"\/r="str_iterator")->PIE X i T tg R (.ref c.heap.objs.size) {c with heap:=c.heap.push {cls:=.type r,data:=.fields #[.str z O,.int 0 0]}}:=λ{r} hk=>by
   refine⟨c.heap.objs.size,[c.heap.objs.size],_,_,x,rfl,d.kept λb o e=>z5I _ e,Xn hk _ z O,⟨_,z6a _ rfl,rfl,rfl⟩,λb k=>?_,?_⟩
   .have e:b=c.heap.objs.size:=by simpa using k
    subst e;exact d.fpOk (z5K _) (d.hok.fresh (z5K _))
   .have g:=n;exact g.ok (Stp.refl _ _) h _ _ U7 (λ_ _ _ _ _ _ _=>z76) trivial
  cases w:z.cps.all (·<128) with
  |true=>exact wpAny_pyIter_ascii w (fin (.inl rfl))
  |false=>exact wpAny_pyIter_wide w (fin (.inr rfl))
 |_=>exact Post.elim n
theorem z5w(h:Vals (x::xs) j):∃u r,j=u::r/\RelV x u/\Vals xs r:=by
 cases h with
 |cons r q=>exact⟨_,_,rfl,r,q⟩
noncomputable def ItS (lo c:Int)(n:Nat):It:=⟨λi _=>i<n,λi H x a=>a=H/\x=.int (lo+i*c),λi _=>n<=i⟩
theorem ZP{P:z6t}{K:z5M}(it:Addr)(lo c:Int)(n:Nat):Turn P w K tg (ItS lo c n) [it] it (λi h=>IsRangeIter h it (lo+(i:Nat)*c) ((n:Int)-(i:Nat)) c) where
 mem:=by simp
 obj:=λi h st b d=>by
  have e:b=it:=by simpa using d
  subst e;exact⟨_,st,λv z=>by cases z⟩
 keep:=λi h p st k=>k it sC _ st
 item:=by
  intro X l hw m j i a s A H E I g st hg;subst l hw m;obtain⟨y,x,D,u,r,q⟩:=g it sC;refine (Walks.range (prog:=X.prog) (w:=X.w) (I.ok.hd j) it lo c n).item i s _ _ hg st λv p tk C f B=>?_;obtain⟨t,rfl⟩:=C;have F:Inv X a A H {s with heap:=p,toks:=tk}:=I.turned (λb o d e=>B b o (by simpa using d) e) y x u r q;exact⟨_,rfl,y7 f rfl rfl dC ⟨.int (lo+i*c),H,F,⟨t,rfl⟩,⟨rfl,rfl⟩,f,λb d=>(g b d).1⟩⟩
 done:=by
  intro X l hw m j i a s A H E I g st hg;subst l hw m;obtain⟨y,x,D,u,r,q⟩:=g it sC;exact wpAny_pyNext_range_end (I.ok.hd j) st (by have:n<=i:=hg;lia) λp eb=>⟨rfl,I.turned (λb o d e=>eb b o d e) y x u r q⟩
 self:=λ_ _ _ _ _ st h=>wpAny_pyIter_rangeiter st h
theorem QK{P:z6t}{K:z5M}(it:Addr)(lo c:Int)(n:Nat):Turn P w K tg (ItS lo c n) [it] it (λi h=>IsLongIter h it (lo+(i:Nat)*c) ((n:Int)-(i:Nat)) c) where
 mem:=by simp
 obj:=λi h st b d=>by
  have e:b=it:=by simpa using d
  subst e;exact⟨_,st,λv z=>by cases z⟩
 keep:=λi h p st k=>k it sC _ st
 item:=by
  intro X l hw m j i a s A H E I g st hg;subst l hw m;obtain⟨y,x,D,u,r,q⟩:=g it sC;refine (Walks.longrange (prog:=X.prog) (w:=X.w) (I.ok.hd j) it lo c n).item i s _ _ hg st λv p tk C f B=>?_;obtain⟨t,rfl⟩:=C;have F:Inv X a A H {s with heap:=p,toks:=tk}:=I.turned (λb o d e=>B b o (by simpa using d) e) y x u r q;exact⟨_,rfl,y7 f rfl rfl dC ⟨.int (lo+i*c),H,F,⟨t,rfl⟩,⟨rfl,rfl⟩,f,λb d=>(g b d).1⟩⟩
 done:=by
  intro X l hw m j i a s A H E I g st hg;subst l hw m;obtain⟨y,x,D,u,r,q⟩:=g it sC;exact wpAny_pyNext_long_end (I.ok.hd j) st (by have:n<=i:=hg;lia) λp eb=>⟨rfl,I.turned (λb o d e=>eb b o d e) y x u r q⟩
 self:=λ_ _ _ _ _ st h=>wpAny_pyIter_longiter st h
theorem Uo{a b c:Int}(hc:0<c):z8H a b c=if a<b then (b-a-1) / c+1 else 0:=by
 unfold z8H;rw[if_pos hc]
theorem uL{g:St}{H:Hp}{lo hi c:Int}{t u v:Tok}(I:Inv X j g H s)(l:0<c)
  (q:R (ItS lo c (if lo<hi then (hi-lo-1) / c+1 else 0:Int).toNat) H):z5V (z5X X.prog X.w) X.A (zc5 (.ref s.heap.objs.size)) (PIE X j g tg R) E {s with heap:=s.heap.push {cls:=.type "range",data:=.fields #[.int lo t,.int hi u,.int c v]},toks:=tk}:=by
 have a:Inv X j g H {s with heap:=s.heap.push {cls:=.type "range",data:=.fields #[.int lo t,.int hi u,.int c v]},toks:=tk}:=I.kept λb o e=>z5I _ e;have k:lo+(0:Nat)*c=lo:=by simp
 have i:((if lo<hi then (hi-lo-1) / c+1 else 0:Int).toNat:Nat)-(0:Nat)=z8H lo hi c:=by
  rw[Uo l];have:0<=(if lo<hi then (hi-lo-1) / c+1 else 0):=by
   split
   .have m:0<=(hi-lo-1) / c:=z82 (by omega) (by omega);omega
   .omega
  omega
 have h:∀b∈[(s.heap.push {cls:=.type "range",data:=.fields #[.int lo t,.int hi u,.int c v]}).objs.size],b=(s.heap.push {cls:=.type "range",data:=.fields #[.int lo t,.int hi u,.int c v]}).objs.size:=λb f=>by simpa using f
 cases d:zdg lo hi c with
 |true=>
  refine wpAny_pyIter_range (zdd ..) d ?_
  refine⟨(s.heap.push {cls:=.type "range",data:=.fields #[.int lo t,.int hi u,.int c v]}).objs.size,[(s.heap.push {cls:=.type "range",data:=.fields #[.int lo t,.int hi u,.int c v]}).objs.size],_,_,H,rfl,
   a.kept λb o e=>z5I _ e,ZP _ lo c (if lo<hi then (hi-lo-1) / c+1 else 0).toNat,?_,λb f=>?_,q⟩
  .show IsRangeIter _ _ (lo+(0:Nat)*c) (((if lo<hi then (hi-lo-1) / c+1 else 0:Int).toNat:Nat)-(0:Nat)) c;rw[k,i];exact z6a _ rfl
  .rw[h b f];exact a.fpOk (z5K _) (a.hok.fresh (z5K _))
 |false=>
  refine wpAny_pyIter_longrange (zdd ..) d ?_
  refine⟨(s.heap.push {cls:=.type "range",data:=.fields #[.int lo t,.int hi u,.int c v]}).objs.size,[(s.heap.push {cls:=.type "range",data:=.fields #[.int lo t,.int hi u,.int c v]}).objs.size],_,_,H,rfl,
   a.kept λb o e=>z5I _ e,QK _ lo c (if lo<hi then (hi-lo-1) / c+1 else 0).toNat,?_,λb f=>?_,q⟩
  .show IsLongIter _ _ (lo+(0:Nat)*c) (((if lo<hi then (hi-lo-1) / c+1 else 0:Int).toNat:Nat)-(0:Nat)) c;rw[k,i];exact z6a _ rfl
  .rw[h b f];exact a.fpOk (z5K _) (a.hok.fresh (z5K _))
theorem yg{lo c:Int}{n:Nat}:ItV D (ItS lo c n) (λ_ _ _=>True) ((z6V n).map λ(i:Nat)=>T.int (lo+i*c)):=
 ⟨λi φ α H _ a=>by (show i<n);simpa using a,λi φ α H v d t _ a y=>by
  obtain⟨j,b,rfl⟩:=Jd (D:=D) (φ:=φ) (α:=α) (H:=H) a;rw[Jz b];obtain⟨rfl,rfl⟩:=y;exact⟨λ_ _ z=>z,rfl⟩,λφ α H _=>by show n<=_;simp⟩
theorem Jl (C:Ck D W z X k) (E:("range":Str)∈z.G) (hg:z.gl "range"=.none) (h:noStar a=true) (c:noStar b=true) (Z:PE X a (rdE D W f)) (Y:PE X b (rdE D W g)) :
  PI X tg (.Call (.Name "range" p0) [a,b] [] pos) (rdI D W (QD f g)):=by
 have F:=C.glo _ E;rw[hg] at F;rintro e s J H R I ⟨v,N,w,L,B,T,p⟩;refine Call_ (wG I (C.glb _ E) F boot_range (z6T (thn (zI Z (zI Y qr (z6 c)) (z6 h) pos e s J H (λA u=>∃i j:Int,A=[.int i,.int j]/\R (ItS i 1 (if i<j then (j-i-1) / 1+1 else 0).toNat) u) I ?_) ?_) (by rw[z6 h,z6 c]) (by rw[z6 c];rfl)))
 .refine⟨v,N,w,L,B,T,p.bind.mono λx l m u n V S v1 d1=>⟨v,m,w,l,B.step n,V,S.bind.mono λy K M H2 O U d v2 d2=>?_⟩⟩;cases x with
  |int i=>
   cases y with
   |int j=>
    obtain⟨hh,d⟩:=d.grd;subst d1 d2;exact⟨_,_,rfl,d.ok (Stp.refl _ _) U _ _ yg (λ_ _ _ _ _ _ _=>z76) trivial⟩
   |_=>exact Post.elim d
  |_=>exact Post.elim d
 .rintro us s1 ⟨A,u,I1,P,i,j,rfl,q⟩;cases P with
  |cons r o=>
   cases o with
   |cons Q o=>
    cases o;obtain⟨t,rfl⟩:=r;obtain⟨t',rfl⟩:=Q;exact call_range_2 (uL I1 (by omega) q)
theorem KH (C:Ck D W u X k) (e:("range":Str)∈u.G) (hg:u.gl "range"=.none) (hs:noStar a=true) (K:PE X a (rdE D W f)) :
  PI X tg (.Call (.Name "range" p0) [a] [] pos) (rdI D W (Jg f)):=by
 have g:=C.glo _ e;rw[hg] at g;rintro b s w H R I ⟨l,A,o,y,B,J,p⟩;refine Call_ (wG I (C.glb _ e) g boot_range (z6T (thn (zI K qr (z6 hs) pos b s w H (λc h=>∃j:Int,c=[.int j]/\R (ItS 0 1 (if 0<j then (j-0-1) / 1+1 else 0).toNat) h) I ?_) ?_) (z6 hs) rfl))
 .refine⟨l,A,o,y,B,J,p.bind.mono λt x z S st m q v d=>?_⟩;cases t with
  |int n=>
   subst d;obtain⟨Q,q⟩:=q.grd;have M:(if 0<n then (n-0-1) / 1+1 else 0).toNat=n.toNat:=by
    split
    .rw[zbc];congr 1;lia
    .lia
   have L:((z6V n.toNat).map λ(i:Nat)=>T.int (0+i*1))=rangeT n:=by
    refine z8s λi _=>?_;simp
   refine⟨n,rfl,?_⟩;rw[M];exact q.ok (Stp.refl _ _) m _ _ (L▸yg) (λ_ _ _ _ _ _ _=>z76) trivial
  |_=>exact Post.elim q
 .rintro O P ⟨c,h,N,E,j,rfl,q⟩;cases E with
  |cons r F=>
   cases F;obtain⟨t,rfl⟩:=r;exact call_range_1 (uL N lC q)
noncomputable def idxs (N:List Str):List Expr->Option (List Nat)
 |[]=>some []
 |.Name x _::r=>match idx N x,idxs N r with
  |some i,some a=>some (i::a)
  |_,_=>none
 |_::_=>none
noncomputable def wc (N:List Str):Expr->Option Tg
 |.Name x _=>(idx N x).map Tg.one
 |.Tuple a _ _=>(idxs N a).map Tg.t
 |_=>none
noncomputable def z9:Expr->List Str
 |.Name x _=>[x]
 |.Tuple a _ _=>a.filterMap λe=>match e with|.Name x _=>some x|_=>none
 |_=>[]
noncomputable def Sto (X:Cx)(S:List Str):Prop:=∀x∈S,Loc X.env.scope x/\(X.fn x=true\/X.env.scope.names.lookup x=some .local)
set_option tactic.hygienic true in
theorem VQ(hN:X.N=N)(nd:N.Nodup)(s:Sto X S):∀{es:List Expr} {is:List Nat} {ts:List T} {c b:Sl},(∀e∈es,∀x p,e=.Name x p->x∈S)->idxs N es=some is->z0l is ts c=some b->
  ∃t,PGs X es t/\(z7L es X.env).length=ts.length/\(z7L es X.env).findIdx? (·.1)=none/\∀{f:St} {vs:List V} {φ α H} {Q:St->Hp->Prop},SRel D φ α H c f->DenL D φ α H ts vs->(∀j,SRel D φ α H b j->Q j H)->t vs f H Q
 |[],is,ts,c,b,_,a,h=>by
  simp[idxs] at a;subst a;cases ts with
  |nil=>
   simp at h;subst h;exact⟨z4k,Ug,rfl,rfl,λg l q=>⟨l,q _ g⟩⟩
  |cons _ _=>simp at h
 |e::es,is,ts,c,b,y,a,h=>by
  cases e with
  |Name x n=>
   simp only[idxs] at a;split at a
   .rename_i i z C o;(replace a:=zm a;subst a);cases ts with
    |nil=>simp at h
    |cons t ts=>
     have w:=y _ z60 x n rfl;obtain⟨u,m,B,E,A⟩:=VQ hN nd s (λe F=>y e (z5T _ F)) o h;refine⟨z0f (Xd i) u,Xy (VJ (hN▸nd) (hN▸qW C) (s x w).1 (s x w).2) m rfl,by simpa[z7L] using B,?_,λ{f vs φ α H Q} g l k=>?_⟩
     .have G:z7L (.Name x n::es) X.env=(false,zao (.Name x n) X.env)::z7L es X.env:=rfl;rw[G,List.findIdx?_cons];simp[E]
     .obtain⟨v,r,rfl,d,l⟩:=l;exact⟨v,r,rfl,A (g.set d) l k⟩
   .exact z7 a
  |_=>simp[idxs] at a
theorem V2(hN:X.N=N)(nd:N.Nodup)(k:Sto X S)(hc:X.calm=true)(o:∀x∈z9 e,x∈S)(h0:wc N e=some tgt)(h:asg tgt t E=some B)(I:Inv X z C H s)(n:SRel D φ α H E C)(d:Den D φ α H t v)(r:RelV v u) :
  z5V (z5X X.prog X.w) X.A (zao e X.env u) (λ_ G=>∃j,Inv X z j H G/\SRel D φ α H B j) X.xe s:=by
 cases e with
 |Name x F=>
  simp only[wc] at h0;cases q:idx N x with
  |none=>rw[q] at h0;exact z7 h0
  |some i=>
   rw[q] at h0;(injection h0 with h0;subst h0);cases (z5J h);have c:=o x (by simp[z9]);refine thn (VJ (hN▸nd) (hN▸qW q) (k x c).1 (k x c).2 z s C H v u (λj b=>b=H/\j=C.set i (some v)) I r ⟨rfl,rfl⟩) ?_;rintro _ y ⟨j,b,m,rfl,rfl⟩;exact⟨_,m,n.set d⟩
 |Tuple O Q F=>
  simp only[wc] at h0;cases q:idxs N O with
  |none=>rw[q] at h0;exact z7 h0
  |some R=>
   rw[q] at h0;(injection h0 with h0;subst h0);cases t with
   |t P=>
    obtain⟨g,f,K,L,J⟩:=VQ hN nd k (λe M x p c=>o x (by subst c;exact z7_.mpr ⟨_,M,rfl⟩)) q h;obtain⟨ad,xs,rfl,_,_,q,l⟩:=d;refine thn (z0C hc f K L z s C H (.ref ad) u (λj b=>b=H/\SRel D φ α H B j) I r ⟨ad,xs,rfl,.inl q,l.length.symm,J n l λj a=>⟨rfl,a⟩⟩) ?_;rintro _ y ⟨j,b,m,rfl,a⟩;exact⟨j,m,a⟩
   |_=>exact z7 h
 |_=>simp[wc] at h0
end
theorem Ux(env:Env):∀(names:List (Str×z8_)) (cs:List (Str×Addr)),(∀p∈names,p.2=.free->∃c,env.cells.lookup p.1=some c)->
  ∃cl,(forIn names cs (λ(x:Str×z8_) r=>if (x.2==.free)=true then do let a ←cellOf env x.1;pure (z7j ((x.1,a)::r)) else pure (z7j r)):Sem (List (Str×Addr)))=pure cl/\
   (∀x c,cl.lookup x=some c->cs.lookup x=some c\/(env.cells.lookup x=some c/\∃p∈names,p.1=x/\p.2=.free))/\(∀x c,cs.lookup x=some c->∃j,cl.lookup x=some j)/\∀p∈names,p.2=.free->∃c,cl.lookup p.1=some c:=by
 intro names;induction names with
 |nil=>intro cs _;exact⟨cs,rfl,λx c h=>.inl h,λx c h=>⟨c,h⟩,λp d=>absurd d sC⟩
 |cons p names u=>
  intro cs h;rw[zae];by_cases d:p.2=.free
  .obtain⟨c,v⟩:=h p z60 d;have e:cellOf env p.1=pure c:=by unfold cellOf;rw[v]
   rw[if_pos (by simp[d]),e];obtain⟨cl,t,s,k,o⟩:=u ((p.1,c)::cs) λq b=>h q (z5T _ b);refine⟨cl,t,λx j g=>?_,λx j g=>?_,λq b l=>?_⟩
   .rcases s x j g with z|⟨z,q,b,n,m⟩
    .rw[z6v] at z;cases f:x==p.1 with
     |true=>
      simp[f] at z;subst z;have i:x=p.1:=by simpa using f
      exact .inr ⟨i▸v,p,z60,i.symm,d⟩
     |false=>simp[f] at z;exact .inl z
    .exact .inr ⟨z,q,z5T _ b,n,m⟩
   .cases f:x==p.1 with
    |true=>exact k x c (by simp[z6v,f])
    |false=>exact k x j (by simp[z6v,f,g])
   .rcases z61.mp b with rfl|b
    .exact k _ c sC
    .exact o q b l
  .rw[if_neg (by simp[d])];obtain⟨cl,t,s,k,o⟩:=u cs λq b=>h q (z5T _ b);refine⟨cl,t,λx j g=>?_,k,λq b l=>?_⟩
   .rcases s x j g with z|⟨z,q,b,n,m⟩
    .exact .inl z
    .exact .inr ⟨z,q,z5T _ b,n,m⟩
   .rcases z61.mp b with rfl|b
    .exact absurd l d
    .exact o q b l
noncomputable def uc(sc:Scope):List Str:=(sc.names.filter λp=>p.2==.globalImplicit).map (·.1)
noncomputable def frees(sc:Scope):List Str:=(sc.names.filter λp=>p.2==.free).map (·.1)
theorem wI:x∈frees sc↔∃p∈sc.names,p.1=x/\p.2=.free:=by
 unfold frees;simp only[z5O,z6o,beq_iff_eq];constructor
 .rintro⟨p,⟨c,b⟩,a⟩;exact⟨p,c,a,b⟩
 .rintro⟨p,c,a,b⟩;exact⟨p,⟨c,b⟩,a⟩
theorem u9(h:∀x∈frees sc,∃c,env.cells.lookup x=some c) :
  ∃cl,zaZ sc env=pure cl/\(∀x c,cl.lookup x=some c->env.cells.lookup x=some c/\x∈frees sc)/\∀x∈frees sc,∃c,cl.lookup x=some c:=by
 obtain⟨cl,j,i,k,g⟩:=Ux env sc.names [] λp a d=>h p.1 (wI.mpr ⟨p,a,rfl,d⟩);refine⟨cl,?_,λx c b=>?_,λx b=>?_⟩
 .rw[<-j];unfold zaZ;simp
 .rcases i x c b with z|⟨z,p,a,f,e⟩
  .simp at z
  .exact⟨z,wI.mpr ⟨p,a,f,e⟩⟩
 .obtain⟨p,a,rfl,d⟩:=wI.mp b;exact g p a d
section
variable {M:Model}{A:Around}{E:Value->Shared->Prop}{s:Shared}{env:Env}
noncomputable def Zc(M:Model)(A:z84)(E:Value->z5W->Prop)(use:Option (Value->Sem Unit))(Q:Value->z5W->Prop)(a:Value)(ce:Env):Result->z5W->Prop
 |.ok _,t=>(match use with
  |none=>∃m,t.heap.Ns ce.locals m/\∀g,z6K ce.locals t.heap g->Q a {t with heap:=g}
  |some u=>z5V M A (u a) (λ_ b=>∃m,b.heap.Ns ce.locals m/\∀g,z6K ce.locals b.heap g->Q .none {b with heap:=g}) E t)
 |.error x,t=>∃m,t.heap.Ns ce.locals m/\∀g,z6K ce.locals t.heap g->z5V M A (passOn "comprehension.variables-let-go" x ce:Sem Value) (λ_ _=>False) E {t with heap:=g}
theorem Ym{mk fst:Sem Value}{use:Option (Value->Sem Unit)} 
  (h1:clausesOf e=g::U) (h2:∀x,z6Y g.iter env x=pure x) (K:zaZ sc env=pure cl) (n:sc.kind=.function) (J:∀x∈sc.names,x.2=.local->sc.names.lookup x.1=some .local)
  (h:z5V M A fst (λx t1=>z5V M A (zc5 x) (λit C=>z5V M A mk (λj B=>z5V M A (newFunctionEnv sc env.globals cl [] env.qual none .none (some env)) (λce w=>
    z8B M A (.compStart e 0 it j {ce with scope:=z7F sc env}) (Zc M A E use Q j {ce with scope:=z7F sc env}) w) E B) E C) E t1) E s) :
  z5V M A (zaO e sc env pos mk false fst use) Q E s:=by
 unfold zaO;rw[K,h1];have a:∀(x:Value) (t:z5W),E x t->E x t:=λ_ _ z=>z;refine z5D (z6r h (λx t1 G=>z5D (z6R (z5D (z9D (h2 x) (z5D (z6p (z6r G (λit C F=>wpAny_standIf (z5D (z6r F (λj B D=>z5D (z5Q (z5D (z6r D (λce w v=>?_) a)))) a))) a))))))) a)
 have H:∀y∈(sc.names.filter λx=>(x.2==.local || x.2==.cell)&&x.1 != (".0":Str)),y.2=.local->Env.kindOf {ce with scope:=z7F sc env} y.1=some .local:=
  λy d I=>lookup_relabel_local (J y (z6o.mp d).1 I)
 have k:∀y∈(sc.names.filter λx=>(x.2==.local || x.2==.cell)&&x.1 != (".0":Str)).reverse,y.2=.local->Env.kindOf {ce with scope:=z7F sc env} y.1=some .local:=
  λy d=>H y (zbI.mp d)
 refine z6p (z5D (wpAny_attempt (z6p (wpAny_run (z7B v λr o l=>?_)))));cases r with
 |error x=>
  obtain⟨m,i,b⟩:=l;exact z5D (z6p (z9P n _ o m k i λg p _ c=>z6r (b g c) (λ_ _ z=>z.elim) a))
 |ok f=>
  cases use with
  |none=>
   obtain⟨m,i,b⟩:=l;exact z5D (z6p (z9P n _ o m k i λg p _ c=>z5Q (b g c)))
  |some u=>
   refine z5D (za4 (z5D (z6p (z6r l (λ_ q b=>?_) a))));obtain⟨m,i,b⟩:=b;refine z5D (z9P n _ q m (λy d=>?_) i λg p _ c=>z5Q (b g c));rcases z5L.mp d with z|z
   .exact k y (z8h z)
   .exact k y (z6D z)
end
section
variable {prog:Program}{w:World}{A:Around}{R:Result->Shared->Prop}{s:Shared}
theorem z3H(elt a iter:Expr)(ifs:List Expr)(scope:Scope)(pos:Pos)(it b:Value)(env:Env) :
  compTurn (.ListComp elt [⟨a,iter,ifs,0⟩] scope pos) 0 it b env=(standAt iter.pos >>= λ_=>pyNext it >>= λr=>match r with
   |none=>pure (.done .next)
   |some v=>z8z a it v >>= λ_=>zao a env v >>= λ_=>
    (forIn ifs true λc s=>if s=true then isTrue c env (eval c env) >>= λok=>pure (z7j ok) else pure (z7j s)) >>= λok=>
     if ok=true then (eval elt env >>= λx=>call (.builtin "list.append") [b,x] >>= λ_=>pure ()) >>= λ_=>
      again (.compLoop (.ListComp elt [⟨a,iter,ifs,0⟩] scope pos) 0 it b env)
     else again (.compLoop (.ListComp elt [⟨a,iter,ifs,0⟩] scope pos) 0 it b env)):=by rfl
noncomputable def ku(M:Model)(A:z84)(env:Env)(E:Value->z5W->Prop):List Expr->(Bool->z5W->Prop)->z5W->Prop
 |[],Q,s=>Q true s
 |c::cs,Q,s=>z5V M A (isTrue c env (eval c env)) (λb a=>if b=true then ku M A env E cs Q a else Q false a) E s
theorem uH:∀(cs:List Expr) {s:z5W},Q false s->
  z5V M A (forIn cs false λc s=>if s=true then isTrue c env (eval c env) >>= λok=>pure (z7j ok) else pure (z7j s)) Q E s
 |[],s,h=>z5Q h
 |c::cs,s,h=>by
  rw[zae];exact z5D (z5Q (uH cs h))
theorem Qg:∀(cs:List Expr) {s:z5W},ku M A env E cs Q s->
  z5V M A (forIn cs true λc s=>if s=true then isTrue c env (eval c env) >>= λok=>pure (z7j ok) else pure (z7j s)) Q E s
 |[],s,h=>z5Q h
 |c::cs,s,h=>by
  rw[zae];refine z5D (z5D (thn h λb d a=>z5Q ?_));cases b with
  |true=>rw[if_pos rfl] at a;exact Qg cs a
  |false=>rw[if_neg dC] at a;exact uH cs a
theorem Jn(I:Nat->z5W->Prop)
  (turn:∀n s,I n s->z5V (z5X prog w) A (pyNext it) (λr B=>match r with
   |none=>R (.ok .next) B
   |some v=>z5V (z5X prog w) A (z8z j it v) (λ_ G=>z5V (z5X prog w) A (zao j env v) (λ_ E=>ku (z5X prog w) A env (notedBy (z5X prog w) A env λx J=>R (.error x) J) ifs (λb u=>
     if b=true then z5V (z5X prog w) A (eval elt env) (λx D=>z5V (z5X prog w) A (call (.builtin "list.append") [H,x]) (λ_ C=>∃m,m<n/\I m C) (λ_ _=>False) D) (notedBy (z5X prog w) A env λx J=>R (.error x) J) u else ∃m,m<n/\I m u) E) (λ_ _=>False) G) (λ_ _=>False) B) (λ_ _=>False) s)
  (n:Nat) (h:I n s):z8B (z5X prog w) A (.compLoop (.ListComp elt [⟨j,iter,ifs,0⟩] scope pos) 0 it H env) R s:=by
 refine codeAny_loop rfl I (λn s k=>?_) n h;show z5V _ _ ((compTurn (.ListComp elt [⟨j,iter,ifs,0⟩] scope pos) 0 it H env).onRaise (λx=>do zbH x env;theTreesLotGoes x)) _ _ s;refine wpAny_noted ?_;have nx:∀{i:Type} {t:Sem i} {Q:i->z5W->Prop} {s:z5W} {N:Value->z5W->Prop},z5V (z5X prog w) A t Q (λ_ _=>False) s->z5V (z5X prog w) A t Q N s:=λh=>z6r h (λ_ _ q=>q) λ_ _ z=>z.elim;refine z5D (z6R (z5D (nx (thn (turn n s k) λr B c=>?_))));cases r with
 |none=>exact z5Q c
 |some v=>
  refine z5D (nx (thn c λ_ G g=>z5D (nx (thn g λ_ E f=>z5D (thn (Qg ifs f) λb u a=>?_)))));cases b with
  |true=>
   exact z5D (z5D (thn a λx D e=>z5D (nx (thn e λ_ C d=>z5Q (z5Q ⟨rfl,d⟩)))))
  |false=>
   exact z5Q ⟨rfl,a⟩
end
noncomputable abbrev noW:XW:=λ_ _ _ _=>False
noncomputable def cxC (X:Cx)(N:List Str)(sc:Scope)(cl:List (Str×Addr))(C0:Addr)(a:z5W)(c:Hp)(b:List Addr):Cx:=
 {X with N:=N,s₀:=a,H₀:=c,env:=z8N sc cl C0 X.env,outer:=X.stack,ex:=b,fn:=λ_=>false,pn:=[],xe:=λ_ _=>False}
noncomputable def Wx(N cel:List Str)(tg:Expr)(sc:Scope):Bool:=
 (sc.kind==.function)&&sc.names.all (λp=>p.2 != .cell)&&sc.names.all (λp=>p.2 != .local || sc.names.lookup p.1==some .local)&&
 (z9 tg).all (λx=>sc.names.lookup x==some .local&&x != ("__debug__":Str)&&x != ("__classdict__":Str))&&(frees sc).all (λx=>(idx N x).isSome&&sc.names.lookup x==some .free&&cel.contains x&&x != ("__debug__":Str)&&x != ("__classdict__":Str))&&decide ((z9 tg++frees sc).Nodup)&&
 (uc sc).all (λx=>sc.names.lookup x==some .globalImplicit)
structure CompOk(N cel:List Str)(tg:Expr)(sc:Scope):Prop where
 kind:sc.kind=.function
 noc:∀p∈sc.names,p.2≠.cell
 lcl:∀p∈sc.names,p.2=.local->sc.names.lookup p.1=some .local
 own:∀x∈z9 tg,sc.names.lookup x=some .local/\(x==("__debug__":Str))=false/\(x==("__classdict__":Str))=false
 fre:∀x∈frees sc,(∃i,idx N x=some i)/\sc.names.lookup x=some .free/\x∈cel/\(x==("__debug__":Str))=false/\(x==("__classdict__":Str))=false
 nd:(z9 tg++frees sc).Nodup
 glb:∀x∈uc sc,sc.names.lookup x=some .globalImplicit
theorem JR(h:Wx N cel tg sc=true):CompOk N cel tg sc:=by
 unfold Wx at h;simp only[z5P,z6n,beq_iff_eq,bne_iff_ne,z96,decide_eq_true_eq,z6j,z8v] at h;obtain⟨⟨⟨⟨⟨⟨q,o⟩,n⟩,m⟩,l⟩,k⟩,j⟩:=h;refine⟨q,o,λp g i=>?_,λx f=>?_,λx f=>?_,k,j⟩
 .rcases n p g with z|z
  .exact absurd i z
  .exact z
 .obtain⟨⟨a,b⟩,c⟩:=m x f;exact⟨a,by simpa using b,by simpa using c⟩
 .obtain⟨⟨⟨⟨a,b⟩,c⟩,d⟩,e⟩:=l x f;exact⟨a,b,c,by simpa using d,by simpa using e⟩
theorem zW{env:Env}{x:Str}:∀{names:List (Str×z8_)} {kd:z8_},names.lookup x=some kd->
  (names.map λ(n,k)=>if (k==z9F&&env.scope.kind==.function&&env.kindOf n==some .cell) then (n,NameKind.cell) else (n,k)).lookup x=some (if (kd==z9F&&env.scope.kind==.function&&env.kindOf x==some .cell) then .cell else kd)
 |[],_,h=>by simp at h
 |(n,k)::r,kd,h=>by
  have c:=@zW env x r kd;rw[z6c];rw[z6v] at h;cases a:x==n with
  |true=>
   have b:x=n:=by simpa using a
   subst b;simp at h;subst h;dsimp only;split<;>simp_all[z6v]
  |false=>
   simp only[a] at h;dsimp only;split
   .rw[z6v];simp only[a];exact c h
   .rw[z6v];simp only[a];exact c h
section
noncomputable def Qs (N:List Str)(a:St)(fs:List Str):St:=fs.map λx=>(idx N x).bind λi=>(a[i]?).join
noncomputable def xu (N:List Str):List Str->Option (List Nat)
 |[]=>some []
 |x::r=>match idx N x,xu N r with
  |some i,some a=>some (i::a)
  |_,_=>none
theorem ZD:∀(n:Nat) {fs:List Nat} {a:Sl},blk n fs a=z7U n none++Xq fs a
 |0,_,_=>rfl
 |n+1,fs,a=>by
  show none::blk n fs a=_;rw[ZD n];rfl
theorem yx:∀{fs:List Nat} {a:Sl},(Xq fs a).length=fs.length
 |[],_=>rfl
 |i::r,a=>by show (Xq r a).length+1=_;rw[yx];rfl
set_option tactic.hygienic true in
theorem yI:∀{N xs:List Str} {fs:List Nat},xu N xs=some fs->fs.length=xs.length
 |N,[],fs,h=>by (injection h with h;subst h);rfl
 |N,x::r,fs,h=>by
  simp only[xu] at h;split at h
  .rename_i i b c a;(replace h:=zm h;subst h);simp[yI a]
  .exact z7 h
set_option tactic.hygienic true in
theorem Qp(b:SRel D φ α H s u):∀{xs:List Str} {fs:List Nat},xu N xs=some fs->∀(j:Nat) (t:T),(Xq fs s)[j]?=some (some t)->∃v,(Qs N u xs)[j]?=some (some v)/\Den D φ α H t v
 |[],fs,h,j,t,e=>by (injection h with h;subst h);simp at e
 |x::r,fs,h,j,t,e=>by
  simp only[xu] at h;split at h
  .rename_i i g f c;(replace h:=zm h;subst h);cases j with
   |zero=>
    obtain⟨v,a,d⟩:=b.get (z5J e);exact⟨v,by simp[Qs,f,a],d⟩
   |succ j=>
    obtain⟨v,a,d⟩:=Qp b c j t e;exact⟨v,by simpa[Qs] using a,d⟩
  .exact z7 h
theorem Yr{N:List Str}{H:Hp}{ns xs:List Str}{fs:List Nat}(b:SRel D φ α H s u)(h:xu N xs=some fs):SRel D φ α H (blk ns.length fs s) (ns.map (λ_=>none)++Qs N u xs):=by
 rw[ZD];refine⟨by simp[yx,yI h,Qs],λj t e=>?_⟩;rcases zd3 j ns.length with a|a
 .rw[z5N (by simpa using a),z7V] at e;split at e<;>cases e
 .rw[z5_ (by simpa using a)] at e;rw[z5_ (by simpa using a)];simp only[z5H,zag] at e ⊢;exact Qp b h _ t e
theorem WB(C:Ck D W Γ X k)(ok:CompOk Γ.N Γ.cel tg sc)(g:Inv X s Y M d)(hf:∀b∈U, ZL X s M b)(hfo:∀b∈U, ∃o, d.heap.get? b=some o)(f:∀x c, cl.lookup x=some c->X.env.cells.lookup x=some c/\x∈frees sc)(A:∀x∈frees sc, ∃c, cl.lookup x=some c)
 (hns : h1.Ns (d.heap.objs.size + 1) (fun _ => none)) (O : z6K (d.heap.objs.size + 1) ((d.heap.push { cls := .type "list", data := .seq ([] : List Value).toArray }).push { cls := .type "dict", data := .dict #[] }) h1) :
    Inv X s Y (upd M d.heap.objs.size (.l [])) {d with heap:=d.heap.push {cls:=.type "list", data:=.seq ([]:List Value).toArray}}/\
    Inv (cxC X (z9 tg ++ frees sc) sc cl (d.heap.objs.size + 1) { d with heap := d.heap.push { cls := .type "list", data := .seq ([] : List Value).toArray } } (upd M d.heap.objs.size (.l [])) U) []
      ((z9 tg).map (λ_=>none)++Qs Γ.N Y (frees sc)) (upd M d.heap.objs.size (.l [])) {d with heap:=h1, toks:=tk}:=by
  have n:=g.lnew (t':=d.toks) .nil sC;refine⟨n, ?_⟩;generalize hA:d.heap.push {cls:=.type "list", data:=.seq ([]).toArray}=S at O n ⊢;have K:S.objs.size=d.heap.objs.size+1:=by rw[<-hA, z7b]
  have r:∀b o, S.get? b=some o->h1.get? b=some o:=λb o e=>O.extBut b o (K▸z6b (z5U e)) (z5I _ e);have E:∀x∈frees sc, (cxC X (z9 tg++frees sc) sc cl (d.heap.objs.size+1) {d with heap:=S} (upd M d.heap.objs.size (.l [])) U).env.kindOf x=some .cell\/(cxC X (z9 tg++frees sc) sc cl (d.heap.objs.size+1) {d with heap:=S} (upd M d.heap.objs.size (.l [])) U).env.kindOf x=some .free:=λx G=>by
    have:=zW (env:=X.env) (ok.fre x G).2.1;show (z7F sc X.env).names.lookup x=some .cell\/(z7F sc X.env).names.lookup x=some .free;unfold z7F;rw[this];split
    · exact .inl rfl
    · exact .inr rfl
  refine⟨⟨g.ok.mod, ok.kind, g.ok.glob, g.ok.blt, ?_, ?_, ?_, λx c h=>absurd h (by simp[cxC]), g.ok.hd, g.ok.frames, .inl rfl, ?_, ?_, ?_, ?_, ?_, ?_, ?_⟩, rfl, g.bare, Un.kept r, ⟨_, hns, ?_⟩, ?_, (K▸n.hok.fresh (z5K _)), ?_, λp hp=>absurd hp (by simp[cxC]), n.hok.kept r, ?_⟩
  · show S.objs.size <= d.heap.objs.size + 1;lia
  · intro x y c h1 h2;exact g.ok.inj x y c (f x c h1).1 (f y c h2).1
  · intro x G;have F:(z7F sc X.env).names.lookup x=some .cell\/(z7F sc X.env).names.lookup x=some .free:=G;by_cases hm:x∈frees sc
    · exact A x hm
    · exfalso;cases q:sc.names.lookup x with
      |none=>
        have:(z7F sc X.env).names.lookup x=none:=by
          rw[List.lookup_eq_none_iff] at q ⊢;intro p hp;obtain⟨p0, Z, rfl⟩:=z5O.mp hp;have:=q p0 Z;try dsimp only
          split<;>exact this
        rw[this] at F;rcases F with z|z<;>exact z7 z
      |some kd=>
        have hr:=zW (env:=X.env) q;have l:=F;unfold z7F at l;rw[hr] at l;have t:=z6J q;by_cases H:kd=.free
        · exact hm (wI.mpr ⟨_, t, rfl, H⟩)
        · have e : (kd == z9F) = false := by simpa using H
          rw[e] at l;simp only[ za_, z8O] at l;rcases l with z|z
          · exact ok.noc _ t z
          · exact H z
  · intro b B;obtain⟨f0, f1, f2, f3, f4, f5⟩:=hf b B;obtain⟨o, P⟩:=hfo b B;exact⟨(z6b (z8a (z5U P))), λx c h=>f4 x c (f x c h).1⟩
  · intro b o e;exact n.bs b o e
  · exact z66 n.ok.bsz n.sz
  · intro b o e B;obtain⟨f0, f1, f2, f3, f4, f5⟩:=hf b B;rcases f3 with z|z
    · exact g.ok.noex b o e z
    · exact absurd (z5S (z5U e) (z66 g.ok.bsz z)) (z79 _)
  · intro b B hfs;obtain⟨f0, f1, f2, f3, f4, f5⟩:=hf b B;rcases z61.mp (g.stkSub b hfs) with z|z
    · exact f1 z
    · exact f2 z
  · exact n.stack
  · intro b B;exact n.stkFree b B
  · intro i x v hN a hv;obtain⟨m, hn, hl⟩:=g.loc;by_cases hi:i<(z9 tg).length
    · exfalso;rw[z5N (by simpa using hi), z5Z] at a;cases q:(z9 tg)[i]? with
      |none=>rw[q] at a;exact z7 a
      |some y=>rw[q] at a;cases a
    · have R:(frees sc)[i-(z9 tg).length]?=some x:=by
        have:(z9 tg++frees sc)[i]?=some x:=hN;rwa[z5_ lC] at this
      rw[z5_ (by simpa using hi)] at a;simp only[z5H] at a;unfold Qs at a;rw[z5Z, R] at a;simp only[zbT, z8O] at a;have G:=z5E R;obtain⟨⟨j, hj⟩, _, I, _⟩:=ok.fre x G;rw[hj] at a;simp only[z9Q] at a;cases u:Y[j]? with
      |none=>rw[u] at a;exact z7 a
      |some o=>
        rw[u] at a;subst a;obtain⟨w, V, lk⟩:=hl j x v (C.hN▸qW hj) u (C.vis x (qJ hj));refine⟨w, V, .inr ⟨E x G, ?_⟩⟩;have T:=C.cel x I;rcases lk with⟨z, _⟩|⟨_, c, hc, J⟩
        · rw [z] at T;rcases T with T|T<;>contradiction
        · obtain ⟨c', Q⟩ := A x G;have:=(f x c' Q).1;rw[hc] at this;(replace this:=zm this;subst this);refine⟨c, Q, ?_⟩;obtain⟨L, P, hd⟩:=J;exact⟨L, r c L (hA▸z5I _ P), hd⟩
  · intro x c h;obtain⟨v, L, P, hd⟩:=g.cell x c (f x c h).1;exact⟨v, L, r c L (hA▸z5I _ P), hd⟩
  · intro x c h;exact (n.freeC x c (f x c h).1).imp id λz=>⟨rfl, z.2⟩
  · show _ = (z9 tg ++ frees sc).length;simp[Qs]
variable {Γ:Cn}
noncomputable def inComp(Γ:Cn)(tg:Expr)(sc:Scope):Cn:={Γ with N:=z9 tg++frees sc,G:=(uc sc).filter Γ.U.contains,cel:=frees sc,lam:=none}
theorem Uq(C:Ck D W Γ X k)(ok:CompOk Γ.N Γ.cel tg sc) 
  (f:∀e s,XP {(cxC X (z9 tg++frees sc) sc cl C0 j B u) with pn:=pn,xe:=xe} w e s->xe e s):Ck D w (inComp Γ tg sc) {(cxC X (z9 tg++frees sc) sc cl C0 j B u) with pn:=pn,xe:=xe} k:=by
 have b:∀x∈frees sc,(z7F sc X.env).names.lookup x=some .cell\/(z7F sc X.env).names.lookup x=some .free:=λx c=>by
  have:=zW (env:=X.env) (ok.fre x c).2.1;unfold z7F;rw[this];split
  .exact .inl rfl
  .exact .inr rfl
 have a:∀{x d},sc.names.lookup x=some d->d≠.free->(z7F sc X.env).names.lookup x=some d:=λ{x d} h g=>by
  have:=zW (env:=X.env) h;unfold z7F;rw[this];have e:(d==z9F)=false:=by simpa using g
  simp[e]
 refine⟨C.hK,rfl,ok.nd,λx c=>?_,λx c=>?_,λx c=>?_,λx c=>?_,λx c=>?_,C.glU,b,C.isi,C.fld,C.xcx,C.ocx,C.clv,C.clm,C.rom,C.rmh,f,?_,LamOk.no rfl,λh=>by injection h⟩
 .rcases z5L.mp c with h|h
  .exact .inl (a (ok.own x h).1 dC)
  .rcases b x h with z|z
   .exact .inr (.inl z)
   .exact .inr (.inr z)
 .rcases z5L.mp c with h|h
  .exact (ok.own x h).2
  .exact (ok.fre x h).2.2.2
 .exact (C.glU x (by have:=(z6o.mp c).2;simpa using this)).2
 .exact a (ok.glb x (z6o.mp c).1) dC
 .exact (C.glU x (by have:=(z6o.mp c).2;simpa using this)).1
 .obtain⟨e0,out,L,F⟩:=C.frm;exact⟨e0,out,L,⟨F.stk,F.f0,F.fe⟩⟩
theorem Xi(ok:CompOk Γ.N Γ.cel tg sc):Sto (cxC X (z9 tg++frees sc) sc cl C0 j u s) (z9 tg):=λx b=>by
 have e:=zW (env:=X.env) (ok.own x b).1;have a:(z7F sc X.env).names.lookup x=some .local:=by
  unfold z7F;rw[e];rfl
 exact⟨.inl a,.inr a⟩
theorem WR:∀{L:List Str} {i:Nat},x∈L->idx (L++M) x=some i->i<L.length
 |[],_,h,_=>absurd h sC
 |y::L,i,h,e=>by
  rw[z8n] at e;simp only[idx] at e;split at e
  ·(replace e:=zm e;subst e);simp
  .rename_i a;have b:=(z61.mp h).resolve_left λz=>a z.symm;cases q:idx (L++M) x with
   |none=>rw[q] at e;exact z7 e
   |some j=>rw[q] at e;(injection e with e;subst e);simpa using WR b q
theorem Z2(h:i<n):∀j,n<=j->(ud s i t)[j]?=s[j]?:=λj a=>by
 rw[xD,z5G lC]
set_option tactic.hygienic true in
theorem uK:∀{es:List Expr} {is:List Nat} {ts:List T} {c b:Sl},(∀e∈es,∀x p,e=.Name x p->x∈L)->idxs (L++M) es=some is->z0l is ts c=some b->∀j,L.length<=j->b[j]?=c[j]?
 |[],is,ts,c,b,_,a,h=>by
  (injection a with a;subst a);cases ts with
  |nil=>(injection h with h;subst h);exact λ_ _=>rfl
  |cons _ _=>exact z7 h
 |e::es,is,ts,c,b,f,a,h=>by
  cases e with
  |Name x k=>
   simp only[idxs] at a;split at a
   .rename_i i l m d;(replace a:=zm a;subst a);cases ts with
    |nil=>exact z7 h
    |cons t ts=>
     intro j g;rw[uK (λe n=>f e (z5T _ n)) d h j g];exact Z2 (WR (f _ z60 x k rfl) m) j g
   .exact z7 a
  |_=>simp[idxs] at a
theorem Xa(h0:wc (z9 e++M) e=some tgt)(h:asg tgt t u=some s):∀j,(z9 e).length<=j->s[j]?=u[j]?:=by
 cases e with
 |Name x a=>
  simp only[wc] at h0;cases q:idx (z9 (.Name x a)++M) x with
  |none=>rw[q] at h0;exact z7 h0
  |some i=>
   rw[q] at h0;(injection h0 with h0;subst h0);cases (z5J h);exact Z2 (WR (by simp[z9]) q)
 |Tuple b c a=>
  simp only[wc] at h0;cases q:idxs (z9 (.Tuple b c a)++M) b with
  |none=>rw[q] at h0;exact z7 h0
  |some k=>
   rw[q] at h0;(injection h0 with h0;subst h0);cases t with
   |t g=>exact uK (λe f x p d=>by subst d;exact z7_.mpr ⟨_,f,rfl⟩) q h
   |_=>exact z7 h
 |_=>simp[wc] at h0
noncomputable def WC (X:Cx)(D:DP)(W:XW):List Expr->List Dt->Prop
 |[],[]=>True
 |e::a,f::fs=>PT X e (rdT D W f)/\WC X D W a fs
 |_,_=>False
theorem Ko{M:Model}{A:z84}{β:Type}{R:β->Mem->List Addr->Hp->Prop}{fe:De}{kk:Option T->Mem->RE β}{Qf:Bool->z5W->Prop}:∀{cs:List Expr} {fs:List Dt} {s:z5W} {H:Hp} {α:List Addr} {μ:Mem},WC X D W cs fs->Inv X E C H s->SRel D φ α H J C->MRel D φ α H μ->Post D W φ α H C R ((uy fs fe J μ).bind kk)->
  (∀B z j u,Inv X E C z B->Stp α H j z->SRel D φ j z J C->MRel D φ j z u->Post D W φ j z C R ((fe J u).bind λy G=>kk (some y) G)->Qf true B)->
  (∀B z j u,Inv X E C z B->Stp α H j z->SRel D φ j z J C->MRel D φ j z u->Post D W φ j z C R (kk none u)->Qf false B)->
  ku (z5X X.prog X.w) X.A X.env X.xe cs Qf s
 |[],[],s,H,α,μ,_,I,k,l,p,m,_=>m s H α μ I (Stp.refl _ _) k l p
 |[],_::_,_,_,_,_,h,_,_,_,_,_,_=>h.elim
 |_::_,[],_,_,_,_,h,_,_,_,_,_,_=>h.elim
 |c::cs,f::fs,s,H,α,μ,h,I,k,l,p,m,o=>by
  refine thn (z30 h.1 I k l p) ?_;rintro b r ⟨t,G,i,q,d,e,g,n⟩;cases b with
  |true=>
   exact Ko (M:=M) (A:=A) h.2 q e g n (λB z j u a b=>m B z j u a (d.trans b)) (λB z j u a b=>o B z j u a (d.trans b))
  |false=>
   exact o r t i G q d e g n
end
section
theorem xl(h:∀e s,E e s->j e s):∀{cs:List Expr} {s:z5W},ku M A env E cs Q s->ku M A env j cs Q s
 |[],_,q=>q
 |c::cs,s,q=>z6r q (λb d a=>by
  cases b with
  |true=>rw[if_pos rfl] at a ⊢;exact xl h a
  |false=>rw[if_neg dC] at a ⊢;exact a) h
theorem XTr.but{T:Addr}{h g:Heap}(t:XTr h x T cls d fl)(j:z6K C0 h g)(m:x≠C0)(n:T≠C0):XTr g x T cls d fl:=by
 obtain⟨k,vs,a0,l,ts,ho,hc,hd,c,b,i,e,f,o,a⟩:=t;exact⟨k,vs,a0,l,ts,j.extBut x k m ho,hc,hd,c,b,i,j.extBut T l n e,f,o,a⟩
theorem xx(I:Inv X j u H s)(d:XOk X H C0)(f:∀q∈j,q.1≠C0)(c:z6K C0 s.heap h'):Inv X j u H {s with heap:=h'}:=
 yk I (λb g=>z5F.mp g▸⟨d,f⟩) (λb o _ a e=>c.extBut b o (λz=>a (by simp[z])) e) λb o _ a e=>⟨o.slots,c.extBut b o (λz=>a (by simp[z])) e⟩
inductive CompI(D:DP)(Xb:Cx)(tn:Nat->Heap->Prop)(fp φ1 α1:List Addr)(H2:Hp)(acc:Addr)(bl:Sl)(xs:List T)(P:Nat->List T->Mem->Prop)(n:Nat)(s':Shared):Prop where
 |mk (i:Nat) (σ':St) (H':Hp) (α':List Addr) (μ':Mem) (yT:List T) (yV:List V) (e:n=xs.length-i) (hi:i<=xs.length) (iv:Inv Xb [] σ' H' s') (t:tn i s'.heap) (fr:∀b∈fp,H' b=none) (st:Stp α1 H2 α' H') (mr:MRel D φ1 α' H' μ') (sr:SRel D φ1 α' H' bl σ') (ac:H' acc=some (.l yV)) (dl:DenL D φ1 α' H' yT yV) (hy:yT.length<=i) (q:P i yT μ')
inductive CompX(D:DP)(φ1 α1:List Addr)(H2:Hp)(Z0:Xp)(cls:Value)(d:Option Addr)(_:St)(He:Hp):Prop where
 |mk (c:Nat) (fs':List (Nat×T)) (μ':Mem) (α':List Addr) (z:Z0 c fs' μ') (st:Stp α1 H2 α' He) (m:MRel D φ1 α' He μ') (ad:XCv D c fs' cls) (xd:XDict D φ1 α' He fs' d)
structure XbOk(Xb X:Cx)(env:Env)(N:List Str):Prop where
 pr:Xb.prog=X.prog
 w:Xb.w=X.w
 K:Xb.K=X.K
 A:Xb.A=X.A
 en:Xb.env=env
 ca:Xb.calm=X.calm
 st:Xb.stack=X.stack
 N:Xb.N=N
theorem kj{β:Type}{R:β->Mem->List Addr->Hp->Prop}{fi:Di}{tgt:Tg}{cs:List Dt}{fe:De}{kk:List T->Mem->RE β}{use:Option (Value->Sem Unit)} 
  (C:Ck D W Γ X k) (hc:Γ.calm=true) (ok:CompOk Γ.N Γ.cel tg sc) (hfs:xu Γ.N (frees sc)=some fs) (htg:wc (z9 tg++frees sc) tg=some tgt) (hi:PI X tg iter (rdI D W fi)) (hel:∀X' W',Ck D W' (inComp Γ tg sc) X' k->PE X' elt (rdE D W' fe)) (hts:∀X' W',Ck D W' (inComp Γ tg sc) X' k->WC X' D W' ifs cs) (hs:∀x,z6Y iter X.env x=pure x)
  (I:Inv X pins σ H s) (sr:SRel D φ α H τ σ) (mr:MRel D φ α H μ)
  (p:Post D W φ α H σ R ((fi τ μ).go λxs o μ1=>.grd (xs.length<=room) ((qd tgt (uy cs fe) o (blk (z9 tg).length fs τ) xs μ1).bind kk)))
  (Kq:∀acc C0 s' Q H1 H' Y ys vs U,Inv X pins σ H' s'->Stp α H Q H1->Stp Q H1 Y H'->H1 acc=none->acc∉φ->acc∉Q->SRel D (φ++[acc]) Y H' τ σ->MRel D (φ++[acc]) Y H' U->H' acc=some (.l vs)->DenL D (φ++[acc]) Y H' ys vs->Post D W φ Q H1 σ R (kk ys U)->XOk X H' C0->(∀q∈pins,q.1≠C0)->(∃m,s'.heap.Ns C0 m)->
   (match use with
    |none=>∃m,s'.heap.Ns C0 m/\∀g,z6K C0 s'.heap g->Qf (.ref acc) {s' with heap:=g}
    |some u=>z5V (z5X X.prog X.w) X.A (u (.ref acc)) (λ_ t2=>∃m,t2.heap.Ns C0 m/\∀g,z6K C0 t2.heap g->Qf .none {t2 with heap:=g}) X.xe s')) :
  z5V (z5X X.prog X.w) X.A (zaO (.ListComp elt [⟨tg,iter,ifs,0⟩] sc pos) sc X.env pos' (newList []) false (eval iter X.env) use) Qf X.xe s:=by
 obtain⟨cl,hclos,hcl,hcl2⟩:=u9 λx hx=>I.ok.has x (C.cel x (ok.fre x hx).2.2.1)
 refine Ym rfl hs hclos ok.kind ok.lcl (thn (hi pins s σ H (λJ H2=>∃xs o μ1 Q Ok,ItV D J Ok xs/\OkI D φ Q H2 xs o Ok/\o μ1/\Stp α H Q H2/\MRel D φ Q H2 μ1/\
  Post D W φ Q H2 σ R (.grd (xs.length<=room) ((qd tgt (uy cs fe) o (blk (z9 tg).length fs τ) xs μ1).bind kk))) I
  ⟨φ,α,τ,μ,sr,mr,p.bind.mono λpr U Y H' st m q J Ok iv okk lv=>⟨pr.1,pr.2,U,Y,Ok,iv,okk,lv,st,m,q⟩⟩) λv s1 h1=>thn h1 λitv l h2=>?_)
 obtain⟨it,fp,tn,J,H2,rfl,I2,Tn,tn0,f2,xs,Lv,μ1,Q,Ok,iv,okk,lv1,st1,mr1,p1⟩:=h2;obtain⟨hroom,K0,Z0,q0,hk0,hz0⟩:=p1.grd;have fo:∀b∈fp,∃o,l.heap.get? b=some o:=λb E=>let ⟨o,e,_⟩:=Tn.obj 0 _ tn0 b E;⟨o,e⟩;refine z7e (zax ok.noc (by intro y hy;simp at hy) (λh₁ hns₁ Z=>?_) ok.kind);have sz:(l.heap.push {cls:=.type "list",dict:=none,data:=.seq ([]).toArray}).objs.size=l.heap.objs.size+1:=z7b ..;dsimp only at hns₁ Z ⊢;rw[sz] at hns₁ Z ⊢;obtain⟨I3,J0⟩:=WB C ok I2 f2 fo hcl hcl2 (by simpa using hns₁) Z;have hD:=I2.hok.fresh (z5K _);have nal:=zp mr1 hD;have old:∀b o,l.heap.get? b=some o->h₁.get? b=some o:=λb o e=>Z.extBut b o (z6b (z8a (z5U e))) (z5I _ (z5I _ e));have n3:({l with heap:=l.heap.push {cls:=.type "list",data:=.seq ([]:List Value).toArray}}).heap.get? (l.heap.objs.size+1)=none:=z6M (by rw[z7b];exact z5K _);have xo0:=vy I3 n3;have pn3:∀q∈pins,q.1≠l.heap.objs.size+1:=λq hq z=>by
  have:=(I3.pin q (z5R _ hq)).1;rw[z,n3] at this;exact z7 this
 generalize hS3:({l with heap:=l.heap.push {cls:=.type "list",data:=.seq ([]:List Value).toArray}})=S3 at I3 J0 n3;generalize hH3:upd H2 l.heap.objs.size (.l [])=H3 at I3 J0 xo0;generalize hXb:cxC X (z9 tg++frees sc) sc cl (l.heap.objs.size+1) S3 H3 fp=P at J0;have f:XbOk P X (z8N sc cl (l.heap.objs.size+1) X.env) (z9 tg++frees sc):=by subst hXb;exact⟨rfl,rfl,rfl,rfl,rfl,rfl,rfl,rfl⟩
 have sto:Sto P (z9 tg):=by subst hXb;exact Xi ok
 have cm:P.calm=true:=f.ca▸C.clm hc;have back:∀{s4:z5W} {σ4:St} {H4:Hp} {S:List (Addr×Obj)},Inv P S σ4 H4 s4->Inv X pins σ H4 s4:=λ{s4 σ4 H4 S} I4=>by
  subst hXb;exact I3.call' I4.os I4.base I4.hok I4.bare λb E=>by
   obtain⟨f0,f1,f2',f3,f4,f5⟩:=f2 b E;exact⟨f3,f1,f4,f5⟩
 have fpk:∀{H':Hp},(∀b∈fp,H' b=none)->∀b∈fp,ZL P [] H' b:=λhn b E=>by
  obtain⟨f0,f1,f2',f3,f4,f5⟩:=f2 b E;obtain⟨o,ho⟩:=fo b E;subst hXb;refine⟨hn b E,z6b (z8a (z5U ho)),λz=>?_,.inl E,λx c h=>f4 x c (hcl x c h).1,λq hq=>absurd hq (by simp[cxC])⟩;rcases z61.mp (I2.stkSub b z) with z|z
  .exact f1 z
  .exact f2' z
 have TnI:=Tn.item P f.pr f.w f.K cm;have TnD:=Tn.done P f.pr f.w f.K cm;obtain⟨e0,out,L,F⟩:=C.frm;have ce:(z8N sc cl (l.heap.objs.size+1) X.env).frame=some L:=F.fe;obtain⟨NB,hNB⟩:∃NB:Value->z5W->Prop,NB=notedBy (z5X X.prog X.w) X.A (z8N sc cl (l.heap.objs.size+1) X.env) (λx s'=>Zc (z5X X.prog X.w) X.A X.xe use Qf (.ref l.heap.objs.size) (z8N sc cl (l.heap.objs.size+1) X.env) (.error x) s'):=⟨_,rfl⟩
 have leave:∀{S:List (Addr×Obj)} {e:Value} {t:z5W},(∀b∈fp,∃o,(b,o)∈S)->XP (Cx.pin' P S) (CompX D (φ++[l.heap.objs.size]) Q H2 Z0) e t->
   NB e t:=λ{S e t} hpp xp=>by
  have Fb:Frm (Cx.pin' P S) e0 out L:=⟨f.st▸F.stk,F.f0,f.en▸ce⟩;have hfr:X.A.frames=some (Cx.pin' P S).stack:=f.st▸I.ok.frames;rw[hNB];rw[show z8N sc cl (l.heap.objs.size+1) X.env=(Cx.pin' P S).env from f.en.symm];refine xC Fb hfr xp λx cls d σe He T h' ee Ie ox oT tr w=>?_;subst ee;have en:=f.en;rw[en];have Iu:=zS Ie;have IX:=back Iu;have nw:∀b,XOk (Cx.pin' P S) He b->XOk X He b/\b≠l.heap.objs.size+1:=λb o=>by
   have E:b∉fp:=λz=>by
    obtain⟨ob,hm⟩:=hpp b z;exact o.pin (b,ob) (z5R _ hm) rfl
   have h3:S3.heap.get? b=none:=by
    have:=o.new;subst hXb;exact this.resolve_left E
   have q:=vy I3 h3;refine⟨⟨o.free,q.loc,q.nfs,q.new,q.cel,q.pin⟩,?_⟩;have:=o.loc;have e2:(Cx.pin' P S).env.locals=l.heap.objs.size+1:=by rw[en];rfl
   rw[e2] at this;exact this
  have xoC:XOk X He (l.heap.objs.size+1):=⟨by have:=Iu.free;rw[f.en] at this;exact this,xo0.loc,xo0.nfs,xo0.new,xo0.cel,xo0.pin⟩;obtain⟨m,hm,_⟩:=Iu.loc;rw[f.en] at hm;refine⟨m,hm,λg sb=>?_⟩;have sb':=sb;have Ig:Inv X [] σ He {t with heap:=g}:=(xx IX xoC pn3 sb').pins_of λp hp=>absurd hp sC;have tg':=tr.but sb' (nw x ox).2 (nw T oT).2;obtain⟨oe,vs',a0,oT',ts,ho,hcc,hd,hv0,hv1,hT,hoT,hdT,h3,_⟩:=id tg';refine z5D (z7n ho hd hv1 ?_);have go:∀{t2:z5W},XP X W (.ref x) t2->z5V (z5X X.prog X.w) X.A (throw (z6u x):Sem Value) (λ_ _=>False) X.xe t2:=λ{t2} xp=>wpAny_throw (C.xe _ _ xp);have fin:z5V (z5X X.prog X.w) X.A (zaH (.ref x) (z8N sc cl (l.heap.objs.size+1) X.env).frame) (λ_ t2=>XP X W (.ref x) t2) X.xe {t with heap:=g}:=by
   refine qG Ig (nw x ox).1 (nw T oT).1 tg' λh4 I4 tr4=>?_;obtain⟨c,fs',U,Y,z,stp,m',ad,xd⟩:=w;refine⟨x,cls,d,σ,He,some T,z6X L,rfl,I4,(nw x ox).1,λt ht=>?_,?_,.inr ⟨L,F.fe,rfl⟩,?_⟩
   .have:t=T:=by simpa using ht
    rw[this];exact (nw T oT).1
   .rw[ce] at tr4;exact tr4
   .refine hz0 c fs' U z Y He cls d stp (m'.lk w_ (λa ha=>⟨rfl,λz=>m'.dis a ha (z65 _ z)⟩) λb E=>m'.phi b (z65 _ E)) ad (xd.lk w_)
  first
   |exact z5D (thn fin λ_ t2 xp=>go xp)
   |exact z5D (z5Q (z5D (thn fin λ_ t2 xp=>go xp)))
 have loop:z8B (z5X X.prog X.w) X.A (.compLoop (.ListComp elt [⟨tg,iter,ifs,0⟩] sc pos) 0 (.ref it) (.ref l.heap.objs.size) (z8N sc cl (l.heap.objs.size+1) X.env)) (Zc (z5X X.prog X.w) X.A X.xe use Qf (.ref l.heap.objs.size) (z8N sc cl (l.heap.objs.size+1) X.env)) {l with heap:=h₁,toks:=l.toks+([]:List (Str×Value)).length}:=by
  obtain⟨LI,hLI⟩:∃LI:Nat->z5W->Prop,LI=CompI D P tn fp (φ++[l.heap.objs.size]) Q H2 l.heap.objs.size (blk (z9 tg).length fs τ) xs (λi yT U=>Lv U/\qd tgt (uy cs fe) Lv (blk (z9 tg).length fs τ) (xs.drop i) U (λrest μ2=>kk (yT++rest) μ2 K0 Z0) Z0):=⟨_,rfl⟩;refine Jn LI ?_ xs.length ?_
  .intro n s' h0;rw[hLI] at h0;obtain⟨i,σ',H',Y,U,yT,yV,rfl,hi',Iv,tni,fr,stp,mr',sr',hacc,dly,hyl,lv',hcmi⟩:=h0;have okH:=okk _ Y H' U ((kB hD).trans stp.lk) mr' lv';by_cases hlt:i<xs.length
   .have TI:=TnI i [] s' σ' H' (λ_ _=>False) Iv (fpk fr) tni (iv.go i _ _ H' okH lC);rw[f.A] at TI;refine thn TI ?_;rintro r s4 ⟨u,rfl,h4⟩;refine thn h4 ?_;rintro _ s5 ⟨x,H5,I5,r5,y5,tn5,fr5⟩;obtain⟨sm5,dx'⟩:=iv.yld i _ _ H' x H5 xs[i] okH sC y5;have stp:=stp.trans (Stp.new sm5);have sr':=sr'.step (Stp.new sm5);have mr':=mr'.new sm5;have hacc:=sm5 _ _ hacc;have dly:=dly.step (Stp.new sm5);have hdr:=z6P hlt;rw[hdr] at hcmi;obtain⟨τ',ha,hfe⟩:=hcmi;have I5':=I5.pinned (fpk fr5) (Tn.obj _ _ tn5);have A6:=V2 f.N ok.nd sto cm (λx h=>h) htg ha I5' sr' dx' r5;rw[f.pr,f.w,f.A,f.en,show P.xe=λ_ _=>False by subst hXb;rfl] at A6;refine thn A6 ?_;rintro _ s6 ⟨σ6,I6,sr6⟩;generalize hpp:([]++xZ fp s5.heap)=S at I6;have hppm:∀b∈fp,∃o,(b,o)∈S:=λb E=>by
     obtain⟨o,e,_⟩:=Tn.obj _ _ tn5 b E;exact⟨o,hpp▸z5R _ (vw E e)⟩
    generalize hW1:CompX D (φ++[l.heap.objs.size]) Q H2 Z0=W1;have lv:∀e t,XP (Cx.pin' P S) W1 e t->NB e t:=λe t xp=>by
     rw[<-hW1] at xp;exact leave hppm xp
    have ck:Ck D W1 (inComp Γ tg sc) ((Cx.pin' P S).wish (XP (Cx.pin' P S) W1)) k:=by
     subst hXb;exact Uq C ok λe s p=>v_ p
    have I6':Inv ((Cx.pin' P S).wish (XP (Cx.pin' P S) W1)) [] σ6 H5 s6:=(QP I6).wish _
    have next:∀{s7:z5W} {H7:Hp} {O:List Addr} {B:Mem} {yT':List T} {yV':List V},Inv ((Cx.pin' P S).wish (XP (Cx.pin' P S) W1)) [] σ6 H7 s7->Stp Q H2 O H7->MRel D (φ++[l.heap.objs.size]) O H7 B->SRel D (φ++[l.heap.objs.size]) O H7 τ' σ6->H7 l.heap.objs.size=some (.l yV')->DenL D (φ++[l.heap.objs.size]) O H7 yT' yV'->yT'.length<=i+1->
      Lv B->qd tgt (uy cs fe) Lv (blk (z9 tg).length fs τ) (xs.drop (i+1)) B (λrest μ2=>kk (yT'++rest) μ2 K0 Z0) Z0->
      ∃m,m<xs.length-i/\LI m s7:=λ{s7 H7 O B yT' yV'} I7 st7 m7 sr7 ac7 dy7 hy7 lv7 q7=>by
     have I7u:=zS I7.unwish;have pinned:∀b∈fp,∃o,s5.heap.get? b=some o/\s7.heap.get? b=some o/\H7 b=none:=λb E=>by
      obtain⟨o,e,_⟩:=Tn.obj _ _ tn5 b E;have:=I7u.pin (b,o) (z5R _ (hpp▸z5R _ (vw E e)));exact⟨o,e,this.1,this.2.1⟩
     refine⟨xs.length-(i+1),lC,?_⟩;rw[hLI];refine⟨i+1,σ6,H7,O,B,yT',yV',rfl,hlt,I7u.pins_of (λp hp=>absurd hp sC),Tn.keep _ _ _ tn5 (λb E o e=>?_),λb E=>(pinned b E).choose_spec.2.2,st7,m7,⟨?_,λj t e=>?_⟩,ac7,dy7,hy7,lv7,q7⟩
     .obtain⟨o',e1,e2,_⟩:=pinned b E;rw[e] at e1;(replace e1:=zm e1;subst e1);exact e2
     .have:=I7u.len;rw[f.N] at this;rw[ZD,this];simp[yx,yI hfs]
     .have hj:(z9 tg).length<=j:=by
       rcases zd3 j (z9 tg).length with h|h
       .rw[ZD,z5N (by simpa using h),z7V] at e;split at e<;>cases e
       .exact h
      exact sr7.val j t (Xa htg ha j hj▸e)
    have P0:Post D W1 (φ++[l.heap.objs.size]) Y H5 σ6 (λ(o:Option T) B O H7=>match o with
      |some y=>∀v,Den D (φ++[l.heap.objs.size]) O H7 y v->Lv B/\qd tgt (uy cs fe) Lv (blk (z9 tg).length fs τ) (xs.drop (i+1)) B (λys μ2=>kk (yT++y::ys) μ2 K0 Z0) Z0
      |none=>Lv B/\qd tgt (uy cs fe) Lv (blk (z9 tg).length fs τ) (xs.drop (i+1)) B (λys μ2=>kk (yT++ys) μ2 K0 Z0) Z0) ((uy cs fe τ' U).bind λo B=>RE.ok o B):=by
     refine⟨_,Z0,hfe,λo B e O H7 st m=>?_,λc fs' B z O H7 cv d st m ad xd=>?_⟩
     .cases o with
      |some y=>exact λv _=>e
      |none=>exact e
     .rw[<-hW1];exact⟨c,fs',B,O,z,stp.trans st,m,ad,xd⟩
    have ep:=f.pr;have ew:=f.w;have eA:=f.A;have ee:=f.en;have nD:l.heap.objs.size∉Y:=λz=>mr'.dis _ z sC;have G:=Ko (M:=z5X X.prog X.w) (A:=X.A) (Qf:=λb s₄=>if b=true then z5V (z5X X.prog X.w) X.A (eval elt (z8N sc cl (l.heap.objs.size+1) X.env)) (λx s₅=>z5V (z5X X.prog X.w) X.A (call (.builtin "list.append") [.ref l.heap.objs.size,x]) (λ_ s₆=>∃m,m<xs.length-i/\LI m s₆) (λ_ _=>False) s₅) NB s₄ else ∃m,m<xs.length-i/\LI m s₄) (hts _ W1 ck) I6' sr6 mr' P0 (λs7 H7 O B I7 st7 sr7 m7 p7=>?_) (λs7 H7 O B I7 st7 sr7 m7 p7=>?_)
    .rw[ep,ew,eA,ee] at G;rw[<-hNB];exact xl (λe t h=>lv e t h) G
    .rw[if_pos rfl];have E7:=sub (hel _ W1 ck) I7 sr7 m7 p7;rw[ep,ew,eA,ee] at E7;refine z6r E7 (λx8 s8 h8=>?_) λe t h=>lv e t h;obtain⟨v8,H8,y8,μ8,α8,I8,r8,st8,sr8,m8,d8,p8⟩:=h8;have q8:=p8.ok (Stp.refl _ _) m8 v8 d8;have acc8:=st8.keep _ _ (λz=>m7.dis _ z sC) (st7.keep _ _ nD hacc);have hyv:yV.length<=i:=dly.length▸hyl;have AP:=uI [] s8 σ6 H8 (.ref l.heap.objs.size) [v8] (.ref l.heap.objs.size) [x8] (λ_ H9=>H9=upd H8 l.heap.objs.size (.l (yV++[v8]))) I8.unwish rfl (.cons r8 .nil) ⟨_,yV,v8,rfl,rfl,acc8,z8D hyv (z5S hlt (zF hroom)),rfl⟩;rw[show (Cx.pin' P S).prog=X.prog from f.pr,show (Cx.pin' P S).w=X.w from f.w,show (Cx.pin' P S).A=X.A from f.A,show (Cx.pin' P S).xe=λ_ _=>False by subst hXb;rfl] at AP;refine thn AP ?_;rintro x9 s9 ⟨v9,H9,I9,r9,rfl⟩;have inphi:l.heap.objs.size∈φ++[l.heap.objs.size]:=by simp
     have t:=(stp.trans st7).trans st8;have one:DenL D (φ++[l.heap.objs.size]) α8 H8 [y8] [v8]:=⟨v8,[],rfl,d8,rfl⟩;refine next (I9.wish _) ⟨t.ext,λb o n e=>?_,λb e=>t.live b ?_⟩ (m8.lk (y6 inphi) (λa ha'=>⟨by rw[z4 (λz=>m8.dis a ha' (by rw[z];simp))],m8.dis a ha'⟩) (λb E=>?_)) (sr8.lk (y6 inphi)) z0 ((((dly.step st7).step st8).append one).lk (y6 inphi)) (by simp;lia) q8.1 (by simpa using q8.2)
     .rw[z4 (zM e hD)];exact t.keep b o n e
     .by_cases E:b=l.heap.objs.size
      .rw[E,z0] at e;exact vD e
      .rw[z4 E] at e;exact e
     .by_cases hb':b=l.heap.objs.size
      .rw[hb',z0];exact⟨_,rfl,rfl⟩
      .rw[z4 hb'];exact m8.phi b E
    .rw[if_neg dC];exact next I7 (stp.trans st7) m7 sr7 (st7.keep _ _ nD hacc) (dly.step st7) lC (p7.ok (Stp.refl _ _) m7).1 (p7.ok (Stp.refl _ _) m7).2
   .have hie:i=xs.length:=by lia
    have TD:=TnD i [] s' σ' H' (λ_ _=>False) Iv (fpk fr) tni (hie▸iv.stop _ _ H' okH);rw[f.A] at TD;refine thn TD ?_;rintro r s4 ⟨rfl,I4⟩;have hdr:xs.drop i=[]:=by rw[hie];simp
    rw[hdr] at hcmi;have q4:kk yT U K0 Z0:=by
     have:kk (yT++[]) U K0 Z0:=hcmi;simpa using this
    have I5:=back I4;obtain⟨m,hm,_⟩:=I4.loc;rw[f.en] at hm;exact Kq l.heap.objs.size (l.heap.objs.size+1) s4 Q H2 H' Y yT yV U I5 st1 stp hD (zo mr1 hD) nal (((sr.step st1).lk (kB hD)).step stp) mr' hacc dly ⟨K0,Z0,q4,hk0,hz0⟩ ⟨by have:=I4.free;rw[f.en] at this;exact this,xo0.loc,xo0.nfs,xo0.new,xo0.cel,xo0.pin⟩ pn3 ⟨m,hm⟩
  .have sm:jv H2 H3:=hH3▸zh hD;rw[hLI];refine⟨0,_,_,Q,μ1,[],[],rfl,z7m _,J0,Tn.keep _ _ _ tn0 λb E o e=>old b o e,λb E=>?_,Stp.new sm,?_,?_,hH3▸z0,rfl,z5K _,lv1,by simpa using q0⟩
   .obtain⟨o,ho⟩:=fo b E;rw[<-hH3,z4 (z6b (z5U ho))];exact (f2 b E).1
   .refine mr1.lk (Qb hD sm) (λa ha=>?_) λb E=>?_
    .have na:a≠l.heap.objs.size:=λz=>nal (z▸ha);exact⟨hH3▸z4 na,λz=>(z5L.mp z).elim (mr1.dis a ha) λz=>na (z5F.mp z)⟩
    .rcases z5L.mp E with z|z
     .obtain⟨o,e,n⟩:=mr1.phi b z;exact⟨o,sm b o e,n⟩
     .rw[z5F.mp z,<-hH3,z0];exact⟨_,rfl,rfl⟩
   .exact (Yr (sr.step st1) hfs).lk (Qb hD sm)
 exact codeAny_compStart_list loop (z6r (Tn.self _ 0 _ _ _ (Tn.keep _ _ _ tn0 λb E o e=>old b o e) loop) (λ_ _ q=>q) λ_ _ q=>q)
variable {X:Cx}{Γ:Cn}
theorem QF{β:Type}{R:β->Mem->List Addr->Hp->Prop}{kk:T->Mem->RE β}{c:Addr}{g d:List Addr}{l f:Hp}{h:List T}{vs:List V}{e:Mem}(st:Stp g l d f)(n:l c=none)(j:c∉φ)(i:MRel D (φ++[c]) d f e)(k:f c=some (.l vs))(dl:DenL D (φ++[c]) d f h vs)(p:Post D W φ g l s R (kk (.l h) e)) :
  MRel D φ d f e/\Den D φ d f (.l h) (.ref c)/\Post D W φ d f s R (kk (.l h) e):=
 ⟨i.lk w_ (λa k=>⟨rfl,λz=>i.dis a k (z65 _ z)⟩) λb m=>i.phi b (z65 _ m),⟨c,vs,rfl,j,λz=>i.dis _ z sC,.inl k,dl.lk w_⟩,p.step st⟩
theorem jr:Lk (φ++[s]) j u φ (j++[s]) u:=⟨λa o b c e=>⟨λz=>b (z65 _ z),λz=>(z5L.mp z).elim c λz=>b (by rw[z5F.mp z];simp),e⟩,λi a e=>by
 rw[z5N (z5C.mp e).1];exact e⟩
theorem uC(st:Stp B C s w)(v:C j=none)(k:j∉φ)(c:MRel D (φ++[j]) s w u)(q:w j=some (.l vs))(dl:DenL D (φ++[j]) s w E vs) :
  Stp B C (s++[j]) w/\MRel D φ (s++[j]) w (u++[.l E])/\Den D φ (s++[j]) w (.m u.length) (.ref j):=by
 have l:j∉s:=λz=>c.dis _ z sC;refine⟨?_,⟨by simp[c.len],?_,λb f=>?_,λb f=>c.phi b (z65 _ f),λi a o d g=>?_⟩,j,by rw[<-c.len,z5_ (z5K _)];simp,rfl⟩
 .obtain⟨t,e,m⟩:=st.ext;exact⟨⟨t++[j],by rw[e];simp,λb f=>(z5L.mp f).elim (m b) λz=>z5F.mp z▸v⟩,st.keep,st.live⟩
 .rw[z6L];exact⟨c.nd,sC,λa q b f z=>l (by rw[z5F.mp f] at z;exact z▸q)⟩
 .rcases z5L.mp f with h|h
  .exact λz=>c.dis b h (z65 _ z)
  .rw[z5F.mp h];exact k
 .by_cases r:i<s.length
  .rw[z5N r] at d;rw[z5N (c.len▸r)] at g;exact (c.ob i a o d g).lk jr rfl
  .have x:=c.len;rw[z5_ lC] at d g;have p:i-s.length=0:=by
    by_cases z:i-s.length=0
    .exact z
    .rw[z87 (by simp;lia)] at d;exact z7 d
   have n:i-u.length=0:=by lia
   rw[p] at d;rw[n] at g;(replace d:=zm d;subst d);(replace g:=zm g;subst g);exact⟨vs,q,dl.lk jr⟩
theorem J5(C:Ck D W Γ X k)(hc:Γ.calm=true)(ok:CompOk Γ.N Γ.cel tg sc)(f:xu Γ.N (frees sc)=some fs)(e:wc (z9 tg++frees sc) tg=some tgt)(hi:PI X tg iter (rdI D W fi))(h:∀j u,Ck D u (inComp Γ tg sc) j k->PE j elt (rdE D u fe))(c:∀j u,Ck D u (inComp Γ tg sc) j k->WC j D u ifs cs)(hs:∀x,z6Y iter X.env x=pure x) :
  PE X (.ListComp elt [⟨tg,iter,ifs,0⟩] sc pos) (rdE D W (qu (z9 tg).length fs tgt fi cs fe)):=by
 rintro l s R H Q I ⟨O,T,P,S,w,A,p⟩;refine kj C hc ok f e hi h c hs I w A p ?_;rintro i C0 Y o Z M q U V n L t st G b z v m K dl a r F ⟨B,J⟩;obtain⟨E,d,a⟩:=QF st G b m K dl a;exact⟨B,J,λg y=>⟨.ref i,M,xx L r F y,rfl,a.here E d⟩⟩
theorem Q6(C:Ck D W Γ X k)(hc:Γ.calm=true)(ok:CompOk Γ.N Γ.cel tg sc)(h:xu Γ.N (frees sc)=some fs)(f:wc (z9 tg++frees sc) tg=some tgt)(hi:PI X tg iter (rdI D W fi))(i:∀j u,Ck D u (inComp Γ tg sc) j k->PE j elt (rdE D u fe))(e:∀j u,Ck D u (inComp Γ tg sc) j k->WC j D u ifs cs)(hs:∀x,z6Y iter X.env x=pure x) :
  PE X (.ListComp elt [⟨tg,iter,ifs,0⟩] sc pos) (rdE D W (jw (z9 tg).length fs tgt fi cs fe)):=by
 rintro n s S H Q I ⟨P,U,R,T,y,B,p⟩;refine kj C hc ok h f hi i e hs I y B p ?_;rintro l C0 Z q H1 O r V Y o M v st J c A w m L dl a t G ⟨E,K⟩;obtain⟨b,F,d⟩:=uC st J c m L dl;exact⟨E,K,λg z=>⟨.ref l,O,xx M t G z,rfl,a.ok b F _ d⟩⟩
theorem qi(h:Γ.look x=g)(hg:g≠.bad):x∈Γ.G/\Γ.gl x=g:=by
 unfold Cn.look at h;split at h
 .rename_i a;exact⟨by simpa using a,h⟩
 .exact absurd h.symm hg
theorem uP(h:wy iter=true):∀x,z6Y iter X.env x=pure x:=by
 intro x;cases iter<;>first|rfl|(simp[wy] at h)
end
structure PostH(D:DP)(W:XW)(φ α:List Addr)(H:Hp)(E:Ends)(Q:En):Prop where
 nx:∀τ μ,Q.nx τ μ->∀α' H' σ',Stp α H α' H'->MRel D φ α' H' μ->SRel D φ α' H' τ σ'->E.nx σ' H'
 bk:∀τ μ,Q.bk τ μ->∀α' H' σ',Stp α H α' H'->MRel D φ α' H' μ->SRel D φ α' H' τ σ'->E.bk σ' H'
 ct:∀τ μ,Q.ct τ μ->∀α' H' σ',Stp α H α' H'->MRel D φ α' H' μ->SRel D φ α' H' τ σ'->E.ct σ' H'
 rt:∀t μ,Q.rt t μ->∀α' H' v,Stp α H α' H'->MRel D φ α' H' μ->Den D φ α' H' t v->E.rt v H'
 ex:∀c fs τ μ,Q.ex c fs τ μ->∀α' H' σ' cv d,Stp α H α' H'->MRel D φ α' H' μ->SRel D φ α' H' τ σ'->XCv D c fs cv->XDict D φ α' H' fs d->W cv d σ' H'
inductive PostS(D:DP)(W:XW)(φ α:List Addr)(H:Hp)(E:Ends)(o:Out):Prop where
 |mk (Q:En) (q:o Q) (h:PostH D W φ α H E Q)
noncomputable def rdS (D:DP)(W:XW)(f:Ds):TS:=λE c H=>RdP D H c λa e b d=>PostS D W a e H E (f b d)
structure Sk(D:DP)(W:XW)(Γ:Cn)(X:Cx)(k:Nat):Prop extends Ck D W Γ X k where
 sto:Sto X Γ.sto
 lcl:∀x∈Γ.N,Γ.cel.contains x=false->X.env.scope.names.lookup x=some .local
 pso:zaF (z5X X.prog X.w) X.A X.env X.xe
 xmt:∀t x c,(x,c)∈Γ.cls->c<40->∀Ct Cc,D.adr t=some Ct->X.mg x=some (.ref Cc)->zay X.K (.ref Ct) (.ref Cc)=some (vY t c)
section
theorem PostS.step(p:PostS D W φ α H E o)(st:Stp α H j s):PostS D W φ j s E o:=by
 obtain⟨Q,q,h1,h2,k,i,h⟩:=p;exact⟨Q,q,λe μ z b g a f=>h1 e μ z b g a (st.trans f),λe μ z b g a f=>h2 e μ z b g a (st.trans f),λe μ z b g a f=>k e μ z b g a (st.trans f),λe μ z b g a f=>i e μ z b g a (st.trans f),λc fs e μ z b g a C d f=>h c fs e μ z b g a C d (st.trans f)⟩
theorem PostS.elim{C:Prop}(p:PostS D W φ α H E Out.st):C:=by obtain⟨_,q,_⟩:=p;exact q.elim
theorem PostS.nx(p:PostS D W φ α H E (.nx z μ))(s:Stp α H j w)(m:MRel D φ j w μ)(r:SRel D φ j w z u):E.nx u w:=by
 obtain⟨Q,q,h1,_⟩:=p;exact h1 z μ q j w u s m r
theorem PostS.rt(p:PostS D W φ α H E (.rt t μ)){v:V}(s:Stp α H j u)(m:MRel D φ j u μ)(r:Den D φ j u t v):E.rt v u:=by
 obtain⟨Q,q,_,_,_,h,_⟩:=p;exact h t μ q j u v s m r
theorem PostS.ex{c:Nat}{b:Sl}{μ:Mem}(p:PostS D W φ α H E (.ex c fs b μ)){a:Hp}(s:Stp α H j a)(m:MRel D φ j a μ)(r:SRel D φ j a b u)(ad:XCv D c fs w)(x:XDict D φ j a fs d):W w d u a:=by
 obtain⟨Q,q,_,_,_,_,h⟩:=p;exact h c fs b μ q j a u w d s m r ad x
theorem PostS.grd{c:Prop}(p:PostS D W φ α H E (Out.grd c o)):c/\PostS D W φ α H E o:=by
 obtain⟨Q,q,h⟩:=p;exact⟨q.1,Q,q.2,h⟩
theorem PostS.som{o:Option j}{k:j->Out}(p:PostS D W φ α H E (Out.som o k)):∃a,o=some a/\PostS D W φ α H E (k a):=by
 obtain⟨Q,⟨a,e,q⟩,h⟩:=p;exact⟨a,e,Q,q,h⟩
theorem PostS.br{b:Bool}{s:Out}(p:PostS D W φ α H E (Out.br b r s)):(b=true/\PostS D W φ α H E r)\/(b=false/\PostS D W φ α H E s):=by
 obtain⟨Q,q,h⟩:=p;cases b with
 |true=>exact .inl ⟨rfl,Q,q,h⟩
 |false=>exact .inr ⟨rfl,Q,q,h⟩
theorem PostS.ex2{b a:Type}{P c:b->a->Prop}{r:b->a->Out}(p:PostS D W φ α H E (λQ=>∃x y,P x y/\c x y/\r x y Q)):∃x y,P x y/\c x y/\PostS D W φ α H E (r x y):=by
 obtain⟨Q,⟨x,y,h1,h2,q⟩,h⟩:=p;exact⟨x,y,h1,h2,Q,q,h⟩
theorem PostS.ex1{a:Type}{P b:a->Prop}{r:a->Out}(p:PostS D W φ α H E (λQ=>∃x,P x/\b x/\r x Q)):∃x,P x/\b x/\PostS D W φ α H E (r x):=by
 obtain⟨Q,⟨x,h1,h2,q⟩,h⟩:=p;exact⟨x,h1,h2,Q,q,h⟩
theorem PostS.out{kk:β->Mem->Out}(b:SRel D φ α H w z)(p:PostS D W φ α H E (r.out w kk)):Post D W φ α H z (λt j s u=>PostS D W φ s u E (kk t j)) r:=by
 obtain⟨Q,q,h⟩:=p;exact⟨_,_,q,λa j e s u st m=>PostS.step ⟨Q,e,h⟩ st,λc fs j e s u C d st m ad xd=>(h.ex c fs w j e s u z C d st m (b.step st) ad xd)⟩
theorem z1k(o:PE X a (rdE D W f)):PS X (.Return (some a) pos) (rdS D W (zj f)):=by
 rintro b s h H E I ⟨e,l,g,j,c,n,p⟩;refine z0E o b s h H E I ⟨e,l,g,j,c,n,(PostS.out c p).mono λt i k r st m q v d=>PostS.rt q (Stp.refl _ _) m d⟩
theorem UC:PS X (.Return none pos) (rdS D W Xe):=by
 rintro a s b H E I ⟨d,g,e,f,h,c,p⟩;exact Yp a s b H E I (PostS.rt p (Stp.refl _ _) c rfl)
theorem Ul(hs:z8j a none pos.line X.env=pure false)(o:PE X a (rdE D W f)):PS X (.Expr a pos) (rdS D W (zw f)):=by
 rintro b s h H E I ⟨e,l,g,j,c,n,p⟩;refine VW o hs b s h H E I ⟨e,l,g,j,c,n,(PostS.out c p).mono λt i k r st m q v d=>PostS.nx q (Stp.refl _ _) m (c.step st)⟩
theorem Yn:PSs X [] (rdS D W (zR [])):=by
 rintro a s b H E I ⟨e,h,f,g,c,d,p⟩;exact VB a s b H E I (PostS.nx p (Stp.refl _ _) d c)
theorem X8{st:Stmt}(h1:PS X st (rdS D W u))(h2:PSs X r (rdS D W (zR fs))):PSs X (st::r) (rdS D W (zR (u::fs))):=by
 rintro a s o H E I ⟨g,t,l,p,v,w,Q,q,x,k,j,i,h⟩;exact Qw h1 h2 a s o H E I ⟨g,t,l,p,v,w,_,q,λb c e d y n st m f=>⟨g,d,b,c,f,m,PostS.step ⟨Q,e,x,k,j,i,h⟩ st⟩,k,j,i,h⟩
noncomputable def xt (X:Cx)(D:DP)(W:XW):List Stmt->List Ds->Prop
 |[],[]=>True
 |e::a,f::fs=>PS X e (rdS D W f)/\xt X D W a fs
 |_,_=>False
theorem qV:∀{a:List Stmt} {fs:List Ds},xt X D W a fs->PSs X a (rdS D W (zR fs))
 |[],[],_=>Yn
 |st::r,f::fs,h=>X8 h.1 (qV h.2)
 |[],_::_,h=>h.elim
 |_::_,[],h=>h.elim
theorem z3c{i:Dt}(hc:PT X c (rdT D W i))(r:xt X D W as u)(o:xt X D W bs vs):PS X (.If c as bs pos) (rdS D W (sIf i u vs)):=by
 rintro e s j H E I ⟨g,l,h,k,f,n,p⟩;refine z35 hc (qV r) (qV o) e s j H E I ⟨g,l,h,k,f,n,(PostS.out f p).mono λb a d t st m q=>?_⟩;rcases PostS.br q with⟨rfl,q⟩|⟨rfl,q⟩
 .exact⟨g,d,h,a,f.step st,m,q⟩
 .exact⟨g,d,h,a,f.step st,m,q⟩
noncomputable def nFz (a:Cn)(tg:Expr):Bool:=(z9 tg).all λx=>!a.fz.contains x
theorem ZA(h:nFz j tg=true)(m:∀x∈z9 tg,x∈j.N):∀x∈z9 tg,x∈j.sto:=λx a=>z6o.mpr ⟨m x a,z6n.mp h x a⟩
theorem Yb(C:Sk D W j X k){p0:Pos}(hi:idx j.N x=some i)(z:nFz j (.Name x p0)=true)(hs:z8j a (some (.Name x p0)) pos.line X.env=pure false)(B:PE X a (rdE D W f)):PS X (.Assign [.Name x p0] a pos) (rdS D W (zk i f)):=by
 rintro b s l H E I ⟨g,u,h,o,c,w,p⟩;have e:=ZA z (λy A=>z5F.mp A▸qJ hi) x (z5F.mpr rfl);exact z0o (C.hN▸C.nd) (C.hN▸qW hi) (C.sto x e).1 B hs (C.sto x e).2 b s l H E I ⟨g,u,h,o,c,w,(PostS.out c p).mono λt n r F st m q v d=>(PostS.nx q (Stp.refl _ _) m ((c.step st).set d))⟩
set_option tactic.hygienic true in
theorem W7:∀{es:List Expr} {is:List Nat},idxs N es=some is->∀e∈es,∀x p,e=.Name x p->x∈N
 |[],_,_,e,a,_,_,_=>absurd a sC
 |e0::es,is,h,e,a,x,p,c=>by
  cases e0 with
  |Name y g=>
   simp only[idxs] at h;split at h
   .rename_i i d f b;rcases z61.mp a with rfl|a
    .cases c;exact qJ f
    .exact W7 b e a x p c
   .exact z7 h
  |_=>simp[idxs] at h
theorem Kf(h:wc N e=some tgt):∀x∈z9 e,x∈N:=by
 intro x a;cases e with
 |Name y p=>
  simp[z9] at a;subst a;simp only[wc] at h;cases q:idx N x with
  |none=>rw[q] at h;exact z7 h
  |some i=>exact qJ q
 |Tuple f g p=>
  obtain⟨e,d,q⟩:=z7_.mp a;simp only[wc] at h;cases b:idxs N f with
  |none=>rw[b] at h;exact z7 h
  |some j=>
   cases e with
   |Name y c=>
    cases q;exact W7 b _ d x c rfl
   |_=>exact z7 q
 |_=>simp[z9] at a
theorem z08(C:Sk D W E X k)(hc:X.calm=true)(ht:wc E.N tg=some tgt)(e:nFz E tg=true):PG X tg (λv B H Q=>∃φ α z t w,SRel D φ α H z B/\Den D φ α H t v/\asg tgt t z=some w/\∀j,SRel D φ α H w j->Q j H):=by
 rintro b s B H v u Q I r ⟨φ,α,z,t,w,c,d,f,q⟩;refine thn (V2 C.hN C.nd C.sto hc (ZA e (Kf ht)) ht f I c d r) ?_;rintro _ h ⟨j,g,a⟩;exact⟨j,H,g,q j a⟩
noncomputable def yK:Expr->Bool
 |.Call _ _ _ _=>true
 |.Name _ _=>true
 |.Subscript _ _ _=>true
 |.Attribute _ _ _=>true
 |_=>false
theorem z0H(C:Sk D W j X k)(hc:j.calm=true){es:List Expr}(o:yK a=true)(B:idxs j.N es=some is)(A:nFz j (.Tuple es kk p0)=true)(F:PE X a (rdE D W f)):PS X (.Assign [.Tuple es kk p0] a pos) (rdS D W (z2T is f)):=by
 rintro b s u H E I ⟨l,y,n,x,i,z,p⟩;have J:zaL [.Tuple es kk p0] a pos.line X.env=pure false:=by cases a<;>first|(simp at o;done)|rfl
 have G:zaM [.Tuple es kk p0] a X.env=pure none:=by cases a<;>first|(simp[yK] at o;done)|rfl
 refine KQ F (z08 C (C.clm hc) (tgt:=.t is) (by simp[wc,B]) A) J G rfl b s u H E I ⟨l,y,n,x,i,z,(PostS.out i p).mono λt w e K st m q v d=>?_⟩;obtain⟨c,h,q⟩:=PostS.som q;exact⟨l,e,n,t,c,i.step st,d,h,λr g=>PostS.nx q (Stp.refl _ _) m g⟩
set_option tactic.hygienic true in
theorem z1F(C:Sk D W U X k){p1:Pos}(Y:(x,n)∈U.fld)(Z:PE X a (rdE D W f))(ho:PE X o (rdE D W go)) :
  PS X (.Assign [.Attribute o x p1] a pos) (rdS D W (zG go n f)):=by
 rintro l s O H E I ⟨F,R,G,Q,z,T,p⟩;have hs:z8j a (some (.Attribute o x p1)) pos.line X.env=pure false:=by cases a<;>rfl
 refine z2v ho Z hs l s O H E I ⟨F,R,G,Q,z,T,(PostS.out z p).mono λt r u H1 w V q v d=>?_⟩;have e:=z.step w;refine⟨F,u,G,r,e,V,(PostS.out e q).mono λot P g N h J j ov dv=>?_⟩;split at j;case h_2=>exact PostS.elim j
 rename_i i;obtain⟨c,fs,m,hl,j⟩:=PostS.ex2 j;obtain⟨y,A,rfl⟩:=dv;obtain⟨C0,B,L,ad,K,M⟩:=J.ob i y _ A m;obtain⟨fx,cl,S⟩:=C.fld c C0 x n ad Y;refine⟨y,C0,B,L,rfl,K,cl,S,by rw[<-M.length];lia,?_⟩;have b:Stp g N g (upd N y (.ins C0 B (wX x v L))):=Stp.turn (z5E A) ⟨_,K⟩;exact PostS.nx j b (J.turn A ((z5C.mp m).1) b ⟨C0,B,_,ad,z0,DenF.put fx (M.step b) ((d.step h).step b)⟩) ((e.step h).step b)
theorem set_list:z1N X (λo i v H Q=>∃l k xs,o=.ref l/\i=.int k/\H l=some (.l xs)/\0<=k/\k<xs.length/\k<9223372036854775808/\Q (upd H l (.l (xs.set k.toNat v)))):=by
 intro a s x H o i v y A u Q I d f c h;obtain⟨l,k,xs,rfl,rfl,b,w,p,m,q⟩:=h;subst d;obtain⟨t,rfl⟩:=f;obtain⟨z,g,n,r,j,e⟩:=I.lstM b;refine PySem.W.ki_setAt e w (by simpa using m) (z63▸j▸p) ?_;exact⟨_,I.lset b e sC (Vals.set c _ r) (by rw[z97];exact z),q⟩
theorem z2G(C:Sk D W Γ X k)(hc:Γ.calm=true)(ht:wc Γ.N tg=some tgt)(hz:nFz Γ tg=true){body:List Stmt}{vs:List Ds}(hi:PI X tg iter (rdI D W fi))(hb:xt X D W body vs)(hs:∀x,z6Y iter X.env x=pure x) :
  PS X (.For tg iter body [] pos) (rdS D W (vB tgt fi vs)):=by
 rintro pins s σ H E I ⟨F,α,Z,μ,sr,mr,p⟩;refine z1L C.pso (C.clm hc) hi (z08 C (C.clm hc) ht hz) (qV hb) hs pins s σ H E I ⟨F,α,Z,μ,sr,mr,(PostS.out sr (show PostS D W F α H E ((fi Z μ).re.out Z λpr L=>forM tgt (zR vs) pr.2 pr.1 Z L) from p)).mono λpr L O H1 st1 m1 q J Ok iv okk lv1=>?_⟩;obtain⟨xs,o⟩:=pr;obtain⟨Q,q,h1,h2,h3,h4,h5⟩:=q;refine⟨λi m G B=>m=xs.length-i/\i<=xs.length/\∃h r l,Stp O H1 h B/\MRel D F h B l/\SRel D F h B r G/\o l/\forM tgt (zR vs) o (xs.drop i) r l Q,⟨xs.length,sC,z7m _,O,Z,L,Stp.refl _ _,m1,sr.step st1,lv1,by simpa using q⟩,?_⟩;rintro i m G B ⟨rfl,hi',h,r,l,f,w,z,lv',T⟩;have P:=okk _ h B l f.lk w lv';by_cases R:i<xs.length
 .refine .inr ⟨iv.go i _ _ B P R,λσ2 U=>∃M Y K,Stp O H1 M U/\MRel D F M U K/\SRel D F M U Y σ2/\o K/\forM tgt (zR vs) o (xs.drop (i+1)) Y K Q,λσ2 U h2=>⟨xs.length-(i+1),by omega,rfl,R,h2⟩,λx U y=>?_⟩;obtain⟨sm,dx⟩:=iv.yld i _ _ B x U xs[i] P sC y;have f:=f.trans (Stp.new sm);have z:=z.step (Stp.new sm);have w:=w.new sm;rw[z6P R] at T;obtain⟨V,ha,T⟩:=T;refine⟨F,h,r,xs[i],V,z,dx,ha,λσ3 sr3=>⟨F,h,V,l,sr3,w,_,T,?_,?_,?_,?_,?_⟩⟩
  .exact λj a e b S u g A n=>⟨b,j,a,f.trans g,A,n,e⟩
  .exact λj a e b S u g A n=>h1 j a e b S u (f.trans g) A n
  .exact λj a e b S u g A n=>⟨b,j,a,f.trans g,A,n,e⟩
  .exact λt a e b S v g A d4=>h4 t a e b S v (f.trans g) A d4
  .exact λc fs j a e b S u Cc d g A n=>h5 c fs j a e b S u Cc d (f.trans g) A n
 .have hie:i=xs.length:=by omega
  rw[hie,z9R] at T;exact .inl ⟨hie▸iv.stop _ _ B P,h1 r l T h B G f w z⟩
theorem XG(C:Sk D W Γ X k){body:List Stmt}(hc:PT X c (rdT D W ft))(hb:xt X D W body vs):PS X (.While c body [] pos) (rdS D W (ZJ ft vs)):=by
 rintro K s σ H E I ⟨F,O,Z,μ,sr,mr,Q,⟨J,⟨N,hN⟩,hJ⟩,Y,h2,h3,S,V⟩;refine Kh C.pso hc (qV hb) K s σ H E I ⟨λm w M=>∃u i r,Stp O H u M/\MRel D F u M r/\SRel D F u M i w/\J m i r,⟨N,O,Z,μ,Stp.refl _ _,mr,sr,hN⟩,?_⟩;rintro m w M ⟨u,i,r,B,P,z,pf⟩;refine⟨F,u,i,r,z,P,_,_,hJ m i r pf,λb x e y T n L=>?_,λc fs x e y T U d n L ad xd=>V c fs i x e y T w U d (B.trans n) L (z.step n) ad xd⟩;cases b with
 |false=>exact Y i x e y T w (B.trans n) L (z.step n)
 |true=>
  have G:=B.trans n;refine⟨λl p=>∃j,j<m/\∃a g f,Stp O H a p/\MRel D F a p f/\SRel D F a p g l/\J j g f,λl p S=>S,F,y,i,x,z.step n,L,_,e,?_,?_,?_,?_,?_⟩
  .exact λg f ⟨j,R,q⟩ a p l h A o=>⟨j,R,a,g,f,G.trans h,A,o,q⟩
  .exact λg f e a p l h A o=>Y g f e a p l (G.trans h) A o
  .exact λg f ⟨j,R,q⟩ a p l h A o=>⟨j,R,a,g,f,G.trans h,A,o,q⟩
  .exact λt f e a p v h A d4=>S t f e a p v (G.trans h) A d4
  .exact λc fs g f e a p l U d h A o=>V c fs g f e a p l U d (G.trans h) A o
theorem Yk{pos:Pos}(C:Sk D W j X k)(hc:j.calm=true){tg iter elt:Expr}{fi:Di}{ifs:List Expr}{fe:De}{x:Str}{O:Nat}{p0 p1:Pos}(G:idx j.N x=some O)(hz:nFz j (.Name x p0)=true)(ok:CompOk j.N j.cel tg sc)(hfs:xu j.N (frees sc)=some fs)(htg:wc (z9 tg++frees sc) tg=some tgt)(hi:PI X tg iter (rdI D W fi))(hel:∀M Q,Ck D Q (inComp j tg sc) M k->PE M elt (rdE D Q fe))(hts:∀M Q,Ck D Q (inComp j tg sc) M k->WC M D Q ifs cs)(hs:∀x,z6Y iter X.env x=pure x)
  (own:Bool) (hsw:z8j (.ListComp elt [⟨tg,iter,ifs,0⟩] sc p1) (some (.Name x p0)) pos.line X.env=pure true) :
  PS X (.Assign [.Name x p0] (.ListComp elt [⟨tg,iter,ifs,0⟩] sc p1) pos) (rdS D W (zk O (match own with|true=>jw (z9 tg).length fs tgt fi cs fe|false=>qu (z9 tg).length fs tgt fi cs fe))):=by
 rintro i s σ H E I ⟨P,α,τ,o,sr,mr,p⟩;rw[exec_Assign_Name_used _ _ _ _ hsw];refine z5D (z6R (z5D ?_));refine z5D (thn (kj (kk:=λR o=>match own with|true=>RE.ok (T.m o.length) (o++[MO.l R])|false=>RE.ok (T.l R) o) C.toCk hc ok hfs htg hi hel hts hs I sr mr (PostS.out sr (by cases own<;>exact p)) ?_) λ_ Y hq=>z5Q (z5Q hq));rintro K C0 Y α1 H1 h α' R vs r I' st1 st hn B nal u m ha dl c L hp ⟨mm,hm⟩;obtain⟨Z,es,ep,hoc,J,l⟩:=hm;have I2:Inv X (i++[(C0,Z)]) σ h Y:=I'.pins_of λp n=>(z5L.mp n).elim (λz=>I'.pin p (z5R _ z)) λz=>by
  rw[z5F.mp z];exact⟨hoc,L.free,L.loc,L.nfs,λv e=>by rw[J] at e;injection e⟩
 have fin:∀{b:List Addr} {t:T} {μ2:Mem},SRel D P b h τ σ->Den D P b h t (.ref K)->(∀a,SRel D P b h (ud τ O (some t)) a->E.nx a h)->z5V (z5X X.prog X.w) X.A (zao (.Name x p0) X.env (.ref K)) (λ_ S=>∃m,S.heap.Ns C0 m/\∀g,z6K C0 S.heap g->∃a h,Inv X i a h {S with heap:=g}/\E.nx a h) X.xe Y:=λ{b t μ2} V d q=>by
  refine thn (V2 (tgt:=.one O) C.hN C.nd C.sto (C.clm hc) (ZA hz λy hy=>z5F.mp hy▸(qJ G)) (by simp[wc,G]) rfl I2 V d rfl) ?_;rintro _ s2 ⟨a,I3,f⟩;exact⟨mm,⟨Z,es,ep,((I3.pin (C0,Z) (z5R _ (z5R _ (z5F.mpr rfl)))).1),J,l⟩,λg sb=>⟨a,h,(xx (I3.pins_of λp n=>I3.pin p (z5R _ (z65 _ n))) L hp sb),q a f⟩⟩
 cases own with
 |false=>
  obtain⟨F,d,c⟩:=QF (kk:=λt o=>RE.ok t o) st hn B m ha dl c;exact fin (μ2:=r) (u.lk w_) d λa f=>PostS.nx (c.ok (Stp.refl _ _) F) (Stp.refl _ _) F f
 |true=>
  obtain⟨U,F,d⟩:=uC st hn B m ha dl;exact fin (μ2:=r) (u.lk jr) d λa f=>PostS.nx (c.ok U F) (Stp.refl _ _) F f
end
noncomputable def z2W(C:Addr)(h:Heap):Prop:=∃tl N nm q bs hd c sub k a j i g f e d b,h.get? C=some (z7E nm q C N bs tl hd c sub k a j i g f e d "ValueError.__new__")/\h.Ns N b/\b "__init__"=none/\zbi h qS tl
set_option tactic.hygienic true in
theorem QC {K:z5M} {h:Heap} {C:Addr} (kin:K.In h) (e:z9E K C qS "ValueError.__new__"=true):z2W C h:=by
 simp only[z9E] at e;revert e;cases s:K.lookup C with
 |none=>intro e;injection e
 |some o=>
  intro e;split at e;case h_2=>injection e
  rename_i z cd d b;(replace b:=zm b;subst b);split at e;case h_2=>injection e
  rename_i B tl l k j i n g r hs;simp only[z5P,beq_iff_eq,z7G] at e;obtain⟨⟨⟨⟨⟨x,w⟩,v⟩,u⟩,m⟩,t⟩:=e;cases cd;rename_i nm bs mro f q hd p sub A c y;cases x;subst w;subst r;subst v;have a:d=#[l,k,j,i,some (.builtin "ValueError.__new__"),g]:=by
   cases d;simp only at hs;rw[hs]
  subst a;exact⟨tl,f,nm,q,bs,hd,p,sub,A,c,z,l,k,j,i,g,h.nsMap f,kin _ _ s,.of_isNs (z9u kin m),PySem.W.nsMap_none_of_in kin m t,PySem.W.tail_of_in kin u⟩
section
theorem JS{i:Nat}{x:Str}{m:Str->Option Value}{h':Heap}{u:Option Value}{tk:Nat}(I:Inv X B C H s)(hN:X.N.Nodup)(hi:X.N[i]?=some x)
  (hm:∀(i:Nat) (x:Str) (v:V),X.N[i]?=some x->C[i]?=some (some v)->Vis X.env.scope x->∃u,RelV v u/\Look X.env s.heap m x u)
  (G:h'.Ns X.env.locals λy=>if y=x then u else m y) (hs:z6K X.env.locals s.heap h'):Inv X B (C.set i none) H {s with heap:=h',toks:=tk}:=by
 have cne:=I.cne;have low:∀b o,X.s₀.heap.get? b=some o->b≠X.env.locals:=λb o e=>z6b (z5S (z5U e) I.ok.above);refine⟨I.ok,I.os,I.bare,⟨λb o e n t g=>?_,λb o e n t g=>?_,I.base.free,λb o e g=>?_,I.base.tups,I.base.frzs,I.base.tbls⟩,⟨_,G,λj y v f a J=>?_⟩,λy c e=>?_,I.free,I.freeC,λp F=>?_,λb ob e=>?_,by simpa using I.len⟩
 .exact (hs.2 b (low b o e)).trans (I.base.keep b o e n t g)
 .obtain⟨A,f⟩:=I.base.slot b o e n t g;exact⟨A,(hs.2 b (low b o e)).trans f⟩
 .obtain⟨D,f⟩:=I.base.there b o e g;exact⟨D,(hs.2 b (low b o e)).trans f⟩
 .by_cases l:j=i
  .subst l;rw[z8G] at a;cases q:C[j]? with
   |none=>rw[q] at a;exact z7 a
   |some w=>rw[q] at a;cases a
  .rw[z5G (z6f l)] at a;obtain⟨w,r,q⟩:=hm j y v f a J;refine⟨w,r,?_⟩;rcases q with⟨k,e⟩|⟨k,c,e,z⟩
   .have:y≠x:=λz=>l (jF hN f (z▸hi));exact .inl ⟨k,by simp[this,e]⟩
   .exact .inr ⟨k,c,e,z.sameBut hs (cne y c e)⟩
 .obtain⟨w,z⟩:=I.cell y c e;exact⟨w,z.sameBut hs (cne y c e)⟩
 .obtain⟨e,n,ne,E,d⟩:=I.pin p F;exact⟨(hs.2 p.1 ne).trans e,n,ne,E,d⟩
 .refine (I.hok b ob e).stay (λc w h q=>(hs.2 c ?_).trans q) (λ_ q=>q) λ_ _ q=>q;rintro rfl;rcases h with rfl|h
  .rw[I.free] at e;exact z7 e
  .rw[I.free] at h;exact z7 h
theorem Jh{x C:Addr}{d:Option Addr}(I:Inv X j B H s)(a:XOk X H x)(F:∀p∈j,p.1≠x)(A:Qm x C d s.heap):Inv X j B (upd H x (.ext (Qm x C d))) s:=by
 have ne:∀b,H b≠none->b≠x:=λb h z=>h (z▸a.free);refine⟨I.ok,I.os,I.bare,⟨I.base.keep,I.base.slot,λb o e n g=>?_,I.base.there,λb xs e=>?_,λb o u e=>?_,λb D e=>?_⟩,I.loc,I.cell,?_,λy c e=>?_,λp i=>?_,λb ob e=>?_,I.len⟩
 .have:b≠x:=λz=>by
   rcases a.new with q|q
   .exact g (z▸q)
   .rw[<-z,e] at q;exact vD q
  rw[z4 this];exact I.base.free b o e n g
 .have q:=I.base.tups b xs e;rw[z4 (ne b (by rw[q];simp))];exact q
 .have q:=I.base.frzs b o u e;rw[z4 (ne b (by rw[q];simp))];exact q
 .obtain⟨f,q⟩:=I.base.tbls b D e;exact⟨f,(z4 (ne b (by rw[q];simp)))▸q⟩
 .rw[z4 (z6f a.loc)];exact I.free
 .rw[z4 (a.cel y c e)];exact I.freeC y c e
 .obtain⟨e,n,r⟩:=I.pin p i;have:=(z5L.mp i).elim (a.pin p) (F p);exact⟨e,z4 this▸n,r⟩
 .by_cases z:b=x
  .subst z;rw[z0] at e;(replace e:=zm e;subst e);obtain⟨E,J,G,K⟩:=id A;refine⟨A,⟨E,G⟩,λM L p k=>?_⟩;obtain⟨m,l,v,t⟩:=p;exact⟨m,l,k _ v,t⟩
  .rw[z4 z] at e;have w:∀c o,H c=some o->upd H x (.ext (Qm x C d)) c=some o:=λc o q=>(z4 (ne c (by rw[q];simp)))▸q;exact (I.hok b ob e).stay (λ_ _ _ q=>q) (λc q=>w c _ q) λc xs q=>w c _ q
theorem XS(C:Sk D W w X k)(hc:w.calm=true){x:Str}{n:Nat}{p0 p1:Pos}(B:x∈w.G)(hg:w.gl x=.xcl n)(S:EsOk X D W (a::es) fs) :
  PS X (.Raise (some (.Call (.Name x p0) (a::es) [] p1)) none pos) (rdS D W (zy n fs)):=by
 rintro j s M H E I ⟨h,O,t,T,A,Z,p⟩;have q:=C.glo x B;rw[hg] at q;obtain⟨C0,ad,hm,K⟩:=q;have hs:=S.stars;obtain⟨tl,N,nm,Q,bs,hd,sn,sub,ab,col,dd,k0,k1,k2,k3,k5,mN,Y,V,U,R⟩:=QC I.ok.mod.kin K;refine wpAny_Raise_call_subT (nm:=nm) (q:=Q) (N:=N) (bs:=bs) (hdct:=hd) (sn:=sn) (sub:=sub) (ab:=ab) (col:=col) (dd:=dd) (k0:=k0) (k1:=k1) (k2:=k2) (k3:=k3) (k5:=k5) z71 (R.hasType z71.hasBase) (I.ok.hd (C.clm hc)) (qA hs) U (qL I (C.glb x B) hm ⟨rfl,?_⟩ (C.dbG x B));have J:noStar a=true:=by simp only[z7o,z5P] at hs;exact hs.1
 have P:=thn (wD S p1 j s M H (λy g=>∃i c b,Stp O H b g/\SRel D h b g t M/\MRel D h b g c/\DenL D h b g i y/\PostS D W h b g E (.grd (i.length<=room) (.ex n [] t c))) I ⟨h,O,t,T,A,Z,(PostS.out A p).mono λi u v H' st m q y d _=>⟨i,u,v,st,A.step st,m,d,q⟩⟩) (Q':=λl f=>l.length<=sizeLine/\f.heap.get? C0=some (z7E nm Q C0 N bs tl hd sn sub ab col dd k0 k1 k2 k3 k5 "ValueError.__new__")/\f.heap.Ns N mN/\zbi f.heap qS tl/\∀L e,z9s f.heap L e (.ref C0) l->X.xe (.ref e) {f with heap:=L}) ?_
 .rw[z6 J] at P ⊢;exact z7A (thn P λl f h1=>⟨rfl,h1⟩)
 .rintro l f ⟨y,g,o,r,i,c,b,st,z,m1,dl,q⟩;obtain⟨hl,q⟩:=PostS.grd q;refine⟨?_,o.bk _ _ Y,V.keeps o.bk,R.keeps o.bk,λL e mk=>?_⟩
  .have e1:=dl.length;have e2:=r.length;have:=zF hl;rw[<-e2,<-e1];exact this
  .exact C.xe _ _ (Um o mk (PostS.ex q (Stp.refl _ _) m1 z ⟨C0,ad,rfl⟩ rfl))
theorem XTr.at{h:Heap}{x T C:Addr}{a:List (Nat×NH.T)}{d:Option Addr}{fl:Value}(t:XTr h x T (cvF a C) d fl):Qm x C d h:=by
 obtain⟨b,vs,a0,f,ts,h1,⟨h2,e⟩,c,_⟩:=t;exact⟨b,vs,h1,h2.trans Vx,c,e⟩
theorem XTr.ty{M:Model}{h:Heap}{x T:Addr}{cls:Value}{d:Option Addr}{fl:Value}(t:XTr h x T cls d fl):zcN M h (typeOf (.ref x)) (stC cls):=by
 obtain⟨a,vs,a0,b,ts,h1,⟨h2,e⟩,c,_⟩:=t;exact h2▸(zdq h1).andThen .now
noncomputable def HcOk (a:Cn)(x:Str)(c:Nat):Prop:=x∈a.G/\(x,c)∈a.cls/\((∃f,a.gl x=.xcf c f)\/a.gl x=.xcl c)/\c<40
noncomputable def z3t (a:Cn):Option Str->Option Nat->Prop
 |none,none=>True
 |some e,some j=>idx a.N e=some j/\a.cel.contains e=false
 |_,_=>False
noncomputable def z48 (a:Cn)(t:Expr)(cs:List Nat):Prop:=∃x p c,t=.Name x p/\cs=[c]/\HcOk a x c
noncomputable def xr (D:DP)(b:Cn)(k:Nat):List z8x->List (List Nat×Option Nat×List Ds)->Prop
 |[],[]=>True
 |h::hs,g::r=>(∃t nm d a f cs i c,h=.ExceptHandler (some t) nm (d::a) f/\g=(cs,i,c)/\z48 b t cs/\z3t b nm i/\∀e,Sk D noW {b with calm:=false} e k->xt e D noW (d::a) c)/\xr D b k hs r
 |_,_=>False
theorem HcOk.mg(C:Sk D W s X k){x:Str}{c:Nat}(h:HcOk s x c):∃j,X.mg x=some (.ref j)/\D.adr c=some j:=by
 have q:=C.glo x h.1;rcases h.2.2.1 with⟨f,g⟩|g
 .rw[g] at q;obtain⟨j,ad,hm⟩:=q;exact⟨j,hm,ad⟩
 .rw[g] at q;obtain⟨j,ad,hm,_⟩:=q;exact⟨j,hm,ad⟩
theorem U6(C:Sk D W z X k){x:Addr}{f:Value}{kk:Nat}{b:List (Nat×T)}{t:Expr}{cs:List Nat}{s:z5W}{g:St}{H:Hp}{Q:Bool->z5W->Prop}{E F:Value->z5W->Prop}(ad:XCv D kk b f)(ht:z48 z t cs)(I:Inv (Cx.han (Cx.pin' X u) x) [] g H s)(ty:zcN (z5X X.prog X.w) s.heap (typeOf (.ref x)) (stC f))
  (q:Q (isAny kk cs) s):z5V (z5X X.prog X.w) (X.A.mark (some (.ref x))) (eval t X.env) (λc j=>z5V (z5X X.prog X.w) (X.A.mark (some (.ref x))) (excMatches (.ref x) c) Q E j) F s:=by
 obtain⟨y,p,c,rfl,rfl,a⟩:=ht;obtain⟨i,d,h⟩:=a.mg C;obtain⟨Ck,ad,rfl⟩:=ad;refine qL I (C.glb y a.1) d ((PySem.W.exm_one I.kIn ty (Vx▸C.xmt kk y c a.2.1 a.2.2.2 Ck i ad d)).at ?_) (C.dbG y a.1);have e:isAny kk [c]=vY kk c:=by
  rw[yN];show bOr _ false=_;cases vY kk c<;>rfl
 rw[e] at q;exact q
theorem X5(C:Sk D W Γ X k){x Tt:Addr}{cv:Value}{d:Option Addr}{kk:Nat}{P:List (Nat×T)}(ad:XCv D kk P cv):∀{hs:List z8x} {r:List (List Nat×Option Nat×List Ds)} {s1:z5W} {I:St} {B:Hp} {c:List Addr} {H:Sl} {G:Mem},xr D Γ k hs r->Inv (Cx.pin' X u) [] I B s1->XOk (Cx.pin' X u) B x->XOk (Cx.pin' X u) B Tt->XTr s1.heap x Tt cv d .none->
  XDict D φ c B P d->MRel D φ c B G->SRel D φ c B H I->PostS D W φ c B E (z0T r kk P H G)->z5V (z5X X.prog X.w) X.A (handleBy (.ref x) X.env hs) (SP X u E) X.xe s1
 |[],[],s1,I,B,c,H,G,_,V,K,oT,tr,xd,m1,J,p=>by
  obtain⟨e0,out,L,F⟩:=C.frm;refine wpAny_handleBy_nil ?_;obtain⟨oe,vs',a0,oT',ts,ho,hcc,hd,hv0,hv1,hT,hoT,hdT,h3,_⟩:=id tr;refine z5D (z7n ho hd hv1 ?_);have go:∀{t2:z5W},XP X W (.ref x) t2->z5V (z5X X.prog X.w) X.A (throw (z6u x)) (SP X u E) X.xe t2:=λ{t2} xp=>wpAny_throw (C.xe _ _ xp);have un:∀b,XOk (Cx.pin' X u) B b->XOk X B b:=λb o=>⟨o.free,o.loc,o.nfs,o.new,o.cel,λp hp=>o.pin p (z65 _ hp)⟩;have fin:z5V (z5X X.prog X.w) X.A (zaH (.ref x) X.env.frame) (λ_ t2=>XP X W (.ref x) t2) X.xe s1:=by
   refine qG ((zS V).pins_of λp hp=>absurd hp sC) (un x K) (un Tt oT) tr λh4 I4 tr4=>⟨x,cv,d,I,B,some Tt,z6X L,rfl,I4,un x K,λt ht=>?_,?_,.inr ⟨L,F.fe,rfl⟩,PostS.ex p (Stp.refl _ _) m1 J ad xd⟩
   .have:t=Tt:=by simpa using ht
    rw[this];exact un Tt oT
   .rw[F.fe] at tr4;exact tr4
  first
   |exact z5D (thn fin λ_ t2 xp=>go xp)
   |exact z5D (z5Q (z5D (thn fin λ_ t2 xp=>go xp)))
 |[],_::_,_,_,_,_,_,_,h,_,_,_,_,_,_,_,_=>h.elim
 |_::_,[],_,_,_,_,_,_,h,_,_,_,_,_,_,_,_=>h.elim
 |hd::hs',g::r',s1,I,B,c,H,G,h,V,K,oT,tr,xd,m1,J,p=>by
   obtain⟨⟨t,nm,b0,suite',pp,cs,i,vs,rfl,rfl,ht,hnm,hsu⟩,hrest⟩:=h;refine wpAny_handleBy_cons (codeAny_handlers_test (U6 C ad ht (Zi V) (XTr.ty tr) ?_)) (λq=>by injection q);rcases PostS.br p with⟨hb,p⟩|⟨hb,p⟩
   .rw[hb];obtain⟨Q,q,h1,h2,h3,h4,h5⟩:=p;have C2:∀{X':Cx},X'=Cx.han (Cx.pin' X u) x->Sk D noW {Γ with calm:=false} X' k:=λ{X'} hX'=>by
     subst hX';obtain⟨e0,out,L,F⟩:=C.frm;exact {hK:=C.hK,hN:=C.hN,nd:=C.nd,vis:=C.vis,dbg:=C.dbg,dbG:=C.dbG,glb:=C.glb,glo:=C.glo,glU:=C.glU,cel:=C.cel,isi:=C.isi,fld:=C.fld,xcx:=C.xcx,ocx:=C.ocx,clv:=C.clv,clm:=(λz=>by injection z),rom:=(λz=>by injection z),rmh:=⟨C.rmh.dp,C.rmh.un⟩,xe:=(λe s p=>by obtain⟨_,_,_,_,_,_,_,_,_,_,_,_,_,z⟩:=p;exact z),frm:=⟨e0,out,L,F.stk,F.f0,F.fe⟩,lam:=C.lam,kfz:=C.kfz,sto:=C.sto,lcl:=C.lcl,pso:=PassesOwn.never,xmt:=C.xmt}
    have okX:=QY V.ok;cases nm with
    |none=>
     cases i with
     |some j=>exact z6s hnm
     |none=>
      refine codeAny_handlers_suite (qG V K oT tr λh3' I3 tr3=>z6r (qV (hsu _ (C2 rfl)) [] _ _ _ {nx:=E.nx,rt:=E.rt} (Zi I3) ⟨φ,c,H,G,J,m1,_,q,h1,(λ_ _ z=>z.elim),(λ_ _ z=>z.elim),h4,(λ_ _ _ _ z=>z.elim)⟩) (λf s6 U=>?_) (λ_ _ z=>z.elim));cases f with
      |next=>obtain⟨a,l,O,n⟩:=U;exact⟨a,l,zS (kA V.ok O),n⟩
      |brk=>obtain⟨a,l,O,n⟩:=U;exact n.elim
      |cont=>obtain⟨a,l,O,n⟩:=U;exact n.elim
      |ret w=>obtain⟨y,a,l,O,r,n⟩:=U;exact⟨y,a,l,zS (kA V.ok O),r,n⟩
    |some e=>
     cases i with
     |none=>exact z6s hnm
     |some j=>
      obtain⟨Y,hce⟩:=hnm;obtain⟨Ck,adk,ecv⟩:=ad;subst ecv;refine codeAny_handlers_suite_as (qG V K oT tr λh3' I3 tr3=>?_);have R:Stp c B c (upd B x (.ext (Qm x Ck d))):=Stp.new (zh K.free);have M:=C.lcl e (qJ Y) hce;have hNd:X.N.Nodup:=C.hN▸C.nd;have hNi:X.N[j]?=some e:=C.hN▸qW Y;refine xM (X:=Cx.han (Cx.pin' X u) x) (v:=.ref x) (Zi (Jh I3 K (λp hp=>absurd hp sC) (XTr.at tr3))) hNd hNi (.inl M) rfl (λs5 I5=>?_) (.inr M);have den:Den D φ c (upd B x (.ext (Qm x Ck d))) (.exc kk P) (.ref x):=⟨x,Ck,d,rfl,zo m1 K.free,zp m1 K.free,adk,z0,by cases d<;>exact (xd.lk (R.lk))⟩;have S:=qV (hsu _ (C2 rfl)) [] s5 _ _ {nx:=λa l=>E.nx (a.set j none) l,rt:=E.rt} I5 ⟨φ,c,_,G,((J.step R).set den),(m1.new (zh (o:=HO.ext (Qm x Ck d)) K.free)),_,q,(λτ2 μ2 z α' l a st m r=>h1 _ μ2 z α' l _ (R.trans st) m r.unset),(λ_ _ z=>z.elim),(λ_ _ z=>z.elim),(λt μ2 z α' l v st m dd=>h4 t μ2 z α' l v (R.trans st) m dd),(λ_ _ _ _ z=>z.elim)⟩;have hkf:(X.env.scope.kind==.class || (X.env.scope.kind==.module&&X.env.locals != X.env.globals))=false:=by rw[okX.kind];rfl
      refine z6r S (λf s6 U=>?_) (λ_ _ z=>z.elim);have fin:∀{Z H6},Inv (Cx.han (Cx.pin' X u) x) [] Z H6 s6->(∀s7,Inv X u (Z.set j none) H6 s7->SP X u E f s7)->z5V (z5X X.prog X.w) X.A (do bindName X.env e .none;unbindBehindTheSuite X.env e pp) (λ_ s7=>SP X u E f s7) X.xe s6:=λ{Z H6} I6 q=>by
       have I7:=zS (kA (Kt okX) I6);obtain⟨m,hn,hl⟩:=I7.loc;exact wpAny_nameGoes_keeps M hn hkf λh7 u7 hn7 hs7=>q _ (JS I7 hNd hNi hl hn7 hs7)
      cases f with
      |next=>obtain⟨a,l,O,n⟩:=U;exact fin O λs7 I7=>⟨_,l,I7,n⟩
      |brk=>obtain⟨a,l,O,n⟩:=U;exact n.elim
      |cont=>obtain⟨a,l,O,n⟩:=U;exact n.elim
      |ret w=>obtain⟨y,a,l,O,r,n⟩:=U;exact fin O λs7 I7=>⟨y,_,l,I7,r,n⟩
   .rw[hb];exact X5 C ad hrest V K oT tr xd m1 J p
theorem z2B(C:Sk D W u X k)(hc:u.calm=true){body:List Stmt}{N:List Ds}{h0:z8x}{hs:List z8x}{r:List (List Nat×Option Nat×List Ds)}(hb:∀Y W',Sk D W' u Y k->xt Y D W' body N)(hh:xr D u k (h0::hs) r) :
  PS X (.Try body (h0::hs) [] [] pos) (rdS D W (z10 N r)):=by
 rintro b s σ H E I ⟨o,M,τ,μ,sr,mr,Q,q,j,V,U,T,h5⟩;obtain⟨e0,out,L,F⟩:=C.frm;have Z:Frm (Cx.pin' X b) e0 out L:=⟨F.stk,F.f0,F.fe⟩;generalize S:(λ(cls:Value) (d:Option Addr) (a:St) (c:Hp)=>∃n fs g h i,z0T r n fs g h Q/\XCv D n fs cls/\Stp M H i c/\MRel D o i c h/\SRel D o i c g a/\XDict D o i c fs d:XW)=K;have C1:Sk D K u ((Cx.pin' X b).wish (XP (Cx.pin' X b) K)) k:={hK:=C.hK,hN:=C.hN,nd:=C.nd,vis:=C.vis,dbg:=C.dbg,dbG:=C.dbG,glb:=C.glb,glo:=C.glo,glU:=C.glU,cel:=C.cel,isi:=C.isi,fld:=C.fld,xcx:=C.xcx,ocx:=C.ocx,clv:=C.clv,clm:=C.clm,rom:=C.rom,rmh:=⟨C.rmh.dp,C.rmh.un⟩,xe:=λe s p=>v_ p,frm:=⟨e0,out,L,F.stk,F.f0,F.fe⟩,lam:=C.lam,kfz:=C.kfz,sto:=C.sto,lcl:=C.lcl,pso:=kE Z I.ok.frames,xmt:=C.xmt};have B:=qV (hb _ K C1) [] s σ H E ((QP I).wish _) ⟨o,M,τ,μ,sr,mr,_,q,j,V,U,T,λn fs g h z t c a cv d st m J ad xd=>S▸⟨n,fs,g,h,t,z,ad,st,m,J,xd⟩⟩;refine wpAny_Try_except (z6r B (λf O j=>?_) (λe1 O hx=>?_))
 .cases f with
  |next=>obtain⟨a,c,l,q⟩:=j;exact VB b O a c E (zS l.unwish) q
  |brk=>obtain⟨a,c,l,q⟩:=j;exact⟨a,c,zS l.unwish,q⟩
  |cont=>obtain⟨a,c,l,q⟩:=j;exact⟨a,c,zS l.unwish,q⟩
  |ret w=>obtain⟨y,a,c,l,r,q⟩:=j;exact⟨y,a,c,zS l.unwish,r,q⟩
 refine xC (X:=Cx.pin' X b) Z I.ok.frames hx λx cls d σ1 H1 Tt h' ee I1 P R tr w=>?_;subst ee;refine qG I1 P R tr λh2' I2 v=>?_;rw[<-S] at w;obtain⟨n,fs,g,h,i,z,ad,A,m1,G,xd⟩:=w;exact X5 C ad hh I2 P R v xd m1 G (PostS.step ⟨Q,z,j,V,U,T,h5⟩ A)
end
structure EB(Γ:Cn) where
 y:Expr
 d:De
 ok:∀{D:DP} {X:Cx} {W:XW} {k:Nat},Ck D W Γ X k->PE X y (rdE D W d)
structure TB(Γ:Cn) where
 y:Expr
 d:Dt
 ok:∀{D:DP} {X:Cx} {W:XW} {k:Nat},Ck D W Γ X k->PT X y (rdT D W d)
noncomputable def YX:Expr->Bool
 |.Tuple _ _ _=>true
 |_=>false
noncomputable def JL (tg e:Expr):Bool:=match e with
 |.Call (.Name x _) _ _ _=>(x != ("enumerate":Str)&&x != ("zip":Str)) || YX tg
 |.Call (.Attribute _ m _) _ _ _=>m != ("items":Str) || YX tg
 |_=>true
theorem Ys(h:YX e=true):∃j x1 s,e=.Tuple j x1 s:=by
 cases e<;>first|exact⟨_,_,_,rfl⟩|injection h
structure IB(Γ:Cn) where
 y:Expr
 d:Di
 ok:∀{D:DP} {X:Cx} {W:XW} {k:Nat} {tg:Expr},Ck D W Γ X k->JL tg y=true->PI X tg y (rdI D W d)
structure SB(Γ:Cn) where
 y:Stmt
 d:Ds
 ok:∀{D:DP} {X:Cx} {W:XW} {k:Nat},Sk D W Γ X k->PS X y (rdS D W d)
structure Rec where
 e:(Γ:Cn)->Expr->Option (EB Γ)
 t:(Γ:Cn)->Expr->Option (TB Γ)
 i:(Γ:Cn)->Expr->Option (IB Γ)
 o:(Γ:Cn)->Expr->Option (EB Γ)
 s:(Γ:Cn)->Stmt->Option (SB Γ)
noncomputable abbrev Ru(α:Type)(β:Cn->Type):=Rec->(a:Cn)->α->Option (β a)
noncomputable abbrev ER:=Ru Expr EB
noncomputable abbrev TR:=Ru Expr TB
noncomputable abbrev IR:=Ru Expr IB
noncomputable abbrev SR:=Ru Stmt SB
structure Rules where
 e:List ER
 t:List TR
 i:List IR
 o:List ER
 s:List SR
noncomputable def JA {α:Type}{β:Cn->Type}:List (Ru α β)->Ru α β
 |[],_,_,_=>none
 |f::fs,r,a,e=>match f r a e with
  |some d=>some d
  |none=>JA fs r a e
noncomputable def comp (R:Rules):Nat->Rec
 |0=>⟨λ_ _=>none,λ_ _=>none,λ_ _=>none,λ_ _=>none,λ_ _=>none⟩
 |n+1=>⟨JA R.e (comp R n),JA R.t (comp R n),JA R.i (comp R n),JA R.o (comp R n),JA R.s (comp R n)⟩
noncomputable def wO {α β:Type}(f:α->Option β):List α->Option (List β)
 |[]=>some []
 |a::r=>(f a).bind λb=>(wO f r).bind λbs=>some (b::bs)
noncomputable def gd{α:Type}:(b:Bool)->(b=true->Option α)->Option α
 |true,k=>k rfl
 |false,_=>none
noncomputable def wth{α β:Type}:(o:Option α)->((a:α)->o=some a->Option β)->Option β
 |some a,k=>k a rfl
 |none,_=>none
theorem zB(h:(a&&b)=true):a=true/\b=true:=by
 cases a with
 |true=>exact⟨rfl,h⟩
 |false=>injection h
section
noncomputable abbrev ysE(fs:List (EB j)):List Expr:=fs.map EB.y
noncomputable abbrev dsE(fs:List (EB j)):List De:=fs.map EB.d
noncomputable def noS (fs:List (EB j)):Bool:=fs.all λf=>noStar f.y
theorem Zh(C:Ck D W j X k):∀{fs:List (EB j)},noS fs=true->EsOk X D W (ysE fs) (dsE fs)
 |[],_=>trivial
 |f::fs,h=>⟨(zB h).1,f.ok C,Zh C (zB h).2⟩
theorem JX(C:Ck D W j X k):∀{fs:List (TB j)},WC X D W (fs.map TB.y) (fs.map TB.d)
 |[]=>trivial
 |f::fs=>⟨f.ok C,JX C⟩
theorem Qt(C:Sk D W j X k):∀{fs:List (SB j)},xt X D W (fs.map SB.y) (fs.map SB.d)
 |[]=>trivial
 |f::fs=>⟨f.ok C,Qt C⟩
end
noncomputable def isN:GM->Bool
 |.none=>true
 |_=>false
noncomputable def ZZ (a:Cn)(nm x:Str):Bool:=x==nm&&isN (a.look nm)
theorem qb{a:Cn}(h:ZZ a nm x=true):nm∈a.G/\a.gl nm=.none:=by
 refine qi ?_ (by intro z;injection z);have h:=(zB h).2;cases q:a.look nm<;>first|rfl|(rw[q] at h;injection h)
structure C0 where
 x:Str
 as:List Expr
 p0:Pos
 pc:Pos
noncomputable def yE:Expr->Option C0
 |.Call (.Name x b) c [] a=>some ⟨x,c,b,a⟩
 |_=>none
structure McP where
 o:Expr
 m:Str
 pa:Pos
 as:List Expr
 pc:Pos
noncomputable def VN:Expr->Option McP
 |.Call (.Attribute o m b) c [] a=>some ⟨o,m,b,c,a⟩
 |_=>none
structure C1 where
 a:Expr
 op:z9c
 b:Expr
 p:Pos
noncomputable def Ui:Expr->Option C1
 |.Compare a [op] [b] p=>some ⟨a,op,b,p⟩
 |_=>none
structure Cp1 where
 elt:Expr
 tg:Expr
 iter:Expr
 ifs:List Expr
 sc:Scope
 p:Pos
noncomputable def Xf:Expr->Option Cp1
 |.ListComp c [⟨d,a,b,0⟩] e p=>some ⟨c,d,a,b,e,p⟩
 |_=>none
noncomputable def QU{α:Type}:List α->Option α
 |[a]=>some a
 |_=>none
noncomputable def z37{α:Type}:List α->Option (α×α)
 |[a,b]=>some (a,b)
 |_=>none
noncomputable def z4H:Expr->Option (Str×Pos)
 |.Name x p=>some (x,p)
 |_=>none
noncomputable def Yu:Expr->Option (Expr×Expr×Pos)
 |.Subscript a b p=>some (a,b,p)
 |_=>none
noncomputable def z5c (a:Cn)(j:Nat)(p:Pos):Const->Option (EB a)
 |.int i=>some ⟨.Constant (.int i) j p,eC (.int i),λ_=>z0i⟩
 |.bool b=>some ⟨.Constant (.bool b) j p,eC (.bl b),λ_=>z3J⟩
 |.none=>some ⟨.Constant .none j p,eC .n,λ_=>z28⟩
 |.str x=>some ⟨.Constant (.str x) j p,eC (.str x),λ_=>z22⟩
 |_=>none
noncomputable def z4S:(g:GM)->Option {t // g=.cst t}
 |.cst t=>some ⟨t,rfl⟩
 |_=>none
noncomputable def z4Z (a:Cn)(x:Str)(p:Pos):Option (EB a):=match q:idx a.N x with
 |some i=>some ⟨.Name x p,eV i,λC=>z0U C q⟩
 |none=>(z4S (a.look x)).bind λt=>some ⟨.Name x p,eC t.1,λC=>z1l C (qi t.2 nofun).1 (qi t.2 nofun).2⟩
section
theorem z2L{D:DP}{X:Cx}{W:XW}{k:Nat}(C:Ck D W j X k):∀{l:List (z9c×EB j)},K3 X D W (l.map (·.2.y)) (l.map λp=>(p.1,p.2.d))
 |[]=>trivial
 |p::r=>⟨p.2.ok C,z2L C⟩
structure CB(Γ:Cn) where
 y:Expr
 d:De
 e:∀{D:DP} {X:Cx} {W:XW} {k:Nat},Ck D W Γ X k->PE X y (rdE D W d)/\PT X y (rdT D W (tE d))
noncomputable def z5h (f:EB j)(p:Pos):List (z9c×EB j)->Option (CB j)
 |[(o,g)]=>gd (wZ o g.y) λh=>some ⟨.Compare f.y [o] [g.y] p,zq o f.d g.d,λC=>⟨z0A C h (f.ok C) (g.ok C),WS C h (f.ok C) (g.ok C)⟩⟩
 |a::b::l=>gd ((a::b::l).all λq=>jo q.1) λh=>some ⟨.Compare f.y (a.1::b.1::l.map (·.1)) (a.2.y::b.2.y::l.map (·.2.y)) p,eCh f.d ((a.1,a.2.d)::(b.1,b.2.d)::l.map λq=>(q.1,q.2.d)),λC=>by
  have e:((a.1,a.2.d)::(b.1,b.2.d)::l.map λq=>(q.1,q.2.d)).all (λp=>jo p.1)=true:=by
   have:=h;simpa[za3] using this
  have c:=z2L (l:=a::b::l) C;have k:=K_ (p1:=(a.1,a.2.d)) (p2:=(b.1,b.2.d)) (pos:=p) C e (f.ok C) c;have i:=QZ (p1:=(a.1,a.2.d)) (p2:=(b.1,b.2.d)) (pos:=p) C e (f.ok C) c;rw[z69] at k i;exact⟨k,i⟩⟩
 |[]=>none
noncomputable def zip2 {α β:Type}:List α->List β->Option (List (α×β))
 |[],[]=>some []
 |a::r,b::s=>(zip2 r s).bind λl=>some ((a,b)::l)
 |_,_=>none
noncomputable def z3z (r:Rec)(b:Cn)(a:Expr)(ops:List z9c)(es:List Expr)(p:Pos):Option (CB b):=(r.e b a).bind λf=>(wO (r.e b) es).bind λc=>(zip2 ops c).bind λl=>z5h f p l
noncomputable def Vq(o:BoolOp)(f:De):List De->De
 |[]=>f
 |g::l=>match o with
  |.And=>ki f (Vq o g l)
  |.Or=>eOr f (Vq o g l)
theorem VS{D:DP}{X:Cx}{W:XW}{k:Nat}(C:Ck D W j X k){o:BoolOp}{p:Pos}:∀{f:EB j} {l:List (EB j)},PE X (.BoolOp o (f.y::ysE l) p) (rdE D W (Vq o f.d (dsE l)))
 |f,[]=>z21 (f.ok C)
 |f,g::l=>by
  have a:=VS C (o:=o) (p:=p) (f:=g) (l:=l);cases o with
  |And=>exact z0R (f.ok C) a
  |Or=>exact z3j (f.ok C) a
noncomputable def prt (r:Rec)(a:Cn):(o:Option Expr)->Option {q:Option Expr×Dp // ∀{D:DP} {X:Cx} {W:XW} {k:Nat},Ck D W a X k->PO X q.1 (rdO D W q.2)}
 |none=>some ⟨(none,pN),λ_=>Yl⟩
 |some e=>(r.e a e).bind λf=>some ⟨(some f.y,pS f.d),λC=>YH (f.ok C)⟩
noncomputable def z5d (r:Rec)(a:Cn)(p:Pos)(f:EB a)(b:Expr):Option (EB a):=match b with
 |.Slice lo c none q=>(prt r a lo).bind λl=>(prt r a c).bind λu=>some ⟨.Subscript f.y (.Slice l.1.1 u.1.1 none q) p,eSl f.d l.1.2 u.1.2,λC=>X_ (f.ok C) (l.2 C) (u.2 C)⟩
 |b=>(r.e a b).bind λg=>gd (qp g.y) λh=>some ⟨.Subscript f.y g.y p,eIx f.d g.d,λC=>z2Q h C.hK (f.ok C) (g.ok C)⟩
noncomputable def X3(l:List (Str×Nat))(x:Str):Option {n // (x,n)∈l}:=wth (l.lookup x) λn h=>some ⟨n,lookup_mem h⟩
noncomputable def z1j (mk:List Expr->Expr)(rd:List De->De)(h:∀{D:DP} {X:Cx} {W:XW} {es:List Expr} {fs:List De},es.length<=room->EsOk X D W es fs->PE X (mk es) (rdE D W (rd fs)))(r:Rec)(a:Cn)(es:List Expr):Option (EB a):=
 (wO (r.e a) es).bind λfs=>gd (decide ((ysE fs).length<=room)&&noS fs) λq=>some ⟨mk (ysE fs),rd (dsE fs),λC=>h (of_decide_eq_true (zB q).1) (Zh C (zB q).2)⟩
end
noncomputable def z4d:ER:=λr i e=>match e with
 |.Constant c j p=>z5c i j p c
 |.Name x p=>z4Z i x p
 |.BinOp a o b p=>(r.e i a).bind λf=>(r.e i b).bind λg=>some ⟨.BinOp f.y o g.y p,za o f.d g.d,λC=>z0x (f.ok C) (g.ok C)⟩
 |.UnaryOp o a p=>(r.e i a).bind λf=>(match o with
  |.USub=>some ⟨.UnaryOp .USub f.y p,z3x f.d,λC=>z0y (f.ok C)⟩
  |.Not=>some ⟨.UnaryOp .Not f.y p,z0L f.d,λC=>z0v (f.ok C)⟩
  |_=>none)
 |.BoolOp o k p=>(wO (r.e i) k).bind λl=>(match l with
  |f::l=>some ⟨.BoolOp o (f.y::ysE l) p,Vq o f.d (dsE l),λC=>VS C⟩
  |[]=>none)
 |.Compare a m k p=>(z3z r i a m k p).bind λc=>some ⟨c.y,c.d,λC=>(c.e C).1⟩
 |.IfExp c a b p=>(r.t i c).bind λt=>(r.e i a).bind λf=>(r.e i b).bind λg=>some ⟨.IfExp t.y f.y g.y p,eIf t.d f.d g.d,λC=>z3u (t.ok C) (f.ok C) (g.ok C)⟩
 |.Attribute a x p=>(r.e i a).bind λf=>(X3 i.fld x).bind λn=>gd (qo f.y) λh=>some ⟨.Attribute f.y x p,zE f.d n.1,λC=>z2D C h n.2 (f.ok C)⟩
 |.Subscript a b p=>(r.e i a).bind λf=>z5d r i p f b
 |.List k p=>z1j (.List · p) JO z2H r i k
 |.Tuple k c p=>z1j (.Tuple · c p) qf KL r i k
 |_=>none
noncomputable def z53 (a:Cn)(q:C0)(fs:List (EB a))(hc:a.calm=true)(hs:noS fs=true):(g:GM)->a.look q.x=g->Option (EB a)
 |.fn g,h=>some ⟨.Call (.Name q.x q.p0) (ysE fs) [] q.pc,z3 g (dsE fs),λC=>UQ C (qi h nofun).1 (qi h nofun).2 hc (Zh C hs)⟩
 |.mk c true g,h=>some ⟨.Call (.Name q.x q.p0) (ysE fs) [] q.pc,eMk c g (dsE fs),λC=>U1 C (qi h nofun).1 (qi h nofun).2 hc (Zh C hs)⟩
 |_,_=>none
noncomputable def z4p:ER:=λr a e=>(yE e).bind λq=>(wO (r.e a) q.as).bind λfs=>gd (a.calm&&noS fs) λh=>z53 a q fs (zB h).1 (zB h).2 (a.look q.x) rfl
noncomputable def rB1 (nm:Str)(o:T->Mem->RE T)(cl:Bool)(H:∀{D:DP} {X:Cx} {W:XW} {b:Cn} {k:Nat} {a:Expr} {f:De} {p0 pos:Pos},Ck D W b X k->nm∈b.G->b.gl nm=.none->(cl=true->b.calm=true)->noStar a=true->PE X a (rdE D W f)->PE X (.Call (.Name nm p0) [a] [] pos) (rdE D W (eB1 o f))):ER:=λr b e=>
 (yE e).bind λq=>(QU q.as).bind λa=>gd (ZZ b nm q.x) λh=>(r.e b a).bind λf=>gd ((!cl || b.calm)&&noStar f.y) λc=>some ⟨.Call (.Name nm q.p0) [f.y] [] q.pc,eB1 o f.d,λC=>H C (qb h).1 (qb h).2 (λz=>by have:=(zB c).1;rw[z] at this;exact this) (zB c).2 (f.ok C)⟩
noncomputable def z5q:ER:=rB1 "len" wb false λC a hg _ hs b=>V9 C a hg boot_len (by decide) hs z3R b
noncomputable def z4l:ER:=rB1 "list" Qi false λC a hg _ hs b=>U_ C a hg (by decide +kernel) (by decide) hs z17 b
noncomputable def z4X:ER:=rB1 "all" ZE true λC a hg b hs c=>V9 C a hg boot_all (by decide) hs (z3f (C.clm (b rfl))) c
noncomputable def z5n:ER:=λr a e=>(yE e).bind λq=>(z37 q.as).bind λw=>gd (ZZ a "isinstance" q.x) λh=>(r.e a w.1).bind λf=>gd (noStar f.y) λhs=>wth (QB a w.2) λcs b=>some ⟨.Call (.Name "isinstance" q.p0) [f.y,w.2] [] q.pc,wF cs f.d,λC=>z0r C (qb h).1 (qb h).2 hs b (f.ok C)⟩
noncomputable def rM1 (nm:Str)(c:De->De->De)(H:∀{D:DP} {X:Cx} {W:XW} {b:Cn} {k:Nat} {o a:Expr} {f g:De} {pa pc:Pos},Ck D W b X k->qo o=true->noStar a=true->(pa.endLine==pc.line)=true->PE X o (rdE D W f)->PE X a (rdE D W g)->PE X (.Call (.Attribute o nm pa) [a] [] pc) (rdE D W (c f g))):ER:=λr b e=>
 (VN e).bind λq=>(QU q.as).bind λa=>gd (q.m==nm) λ_=>(r.e b q.o).bind λf=>(r.e b a).bind λg=>gd (qo f.y&&noStar g.y) λh=>gd (q.pa.endLine==q.pc.line) λi=>some ⟨.Call (.Attribute f.y nm q.pa) [g.y] [] q.pc,c f.d g.d,λC=>H C (zB h).1 (zB h).2 i (f.ok C) (g.ok C)⟩
noncomputable def z50:ER:=rM1 "append" Zx λC a hs c b d=>z1f a hs c b d
structure CpB(Γ:Cn) where
 tg:Expr
 sc:Scope
 i:IB Γ
 e:EB (inComp Γ tg sc)
 c:List (TB (inComp Γ tg sc))
 fs:List Nat
 tgt:Tg
 hc:Γ.calm=true
 ok:CompOk Γ.N Γ.cel tg sc
 hf:xu Γ.N (frees sc)=some fs
 ht:wc (z9 tg++frees sc) tg=some tgt
 hi:wy i.y=true/\JL tg i.y=true
noncomputable def CpB.y{a:Cn}(q:CpB a)(p:Pos):Expr:=.ListComp q.e.y [⟨q.tg,q.i.y,q.c.map TB.y,0⟩] q.sc p
noncomputable def CpB.d{a:Cn}(mk:Nat->List Nat->Tg->Di->List Dt->De->De)(q:CpB a):De:=mk (z9 q.tg).length q.fs q.tgt q.i.d (q.c.map TB.d) q.e.d
noncomputable def z0V (r:Rec)(a:Cn)(q:Cp1):Option (CpB a):=(r.i a q.iter).bind λi=>(r.e (inComp a q.tg q.sc) q.elt).bind λe=>(wO (r.t (inComp a q.tg q.sc)) q.ifs).bind λc=>
 wth (xu a.N (frees q.sc)) λfs h=>wth (wc (z9 q.tg++frees q.sc) q.tg) λb d=>gd a.calm λj=>gd (Wx a.N a.cel q.tg q.sc) λf=>gd (wy i.y&&JL q.tg i.y) λg=>some ⟨q.tg,q.sc,i,e,c,fs,b,j,JR f,h,d,zB g⟩
noncomputable def z45:ER:=λr b e=>(Xf e).bind λq=>(z0V r b q).bind λw=>some ⟨w.y q.p,w.d qu,λC=>J5 C w.hc w.ok w.hf w.ht (w.i.ok C w.hi.2) (λ_ _ a=>w.e.ok a) (λ_ _ a=>JX a) (uP w.hi.1)⟩
noncomputable def z1G:ER:=λr b e=>(Xf e).bind λq=>(z0V r b q).bind λw=>some ⟨w.y q.p,w.d jw,λC=>Q6 C w.hc w.ok w.hf w.ht (w.i.ok C w.hi.2) (λ_ _ a=>w.e.ok a) (λ_ _ a=>JX a) (uP w.hi.1)⟩
noncomputable def Jc(o:BoolOp)(f:Dt):List Dt->Dt
 |[]=>f
 |g::l=>match o with
  |.And=>wW f (Jc o g l)
  |.Or=>tOr f (Jc o g l)
theorem ZR{a:Cn}{D:DP}{X:Cx}{W:XW}{k:Nat}(C:Ck D W a X k){o:BoolOp}{p:Pos}:∀{f:TB a} {l:List (TB a)},PW X (.BoolOp o (f.y::l.map TB.y) p) (rdT D W (Jc o f.d (l.map TB.d)))
 |f,[]=>by
  cases o with
  |And=>exact UP (f.ok C)
  |Or=>exact z0F (f.ok C)
 |f,g::l=>by
  have b:=ZR C (o:=o) (p:=p) (f:=g) (l:=l);cases o with
  |And=>exact z1U (f.ok C) b
  |Or=>exact z4g (f.ok C) b
noncomputable def z2_:Expr->Bool
 |.Name _ _=>true
 |.Call _ _ _ _=>true
 |.Subscript _ _ _=>true
 |.Attribute _ _ _=>true
 |_=>false
theorem U0{a:Expr}(h:z2_ a=true)(b:PE X a (rdE D W f)):PT X a (rdT D W (tE f)):=by
 cases a<;>first|exact z3w b λ_=>rfl|injection h
noncomputable def z3D:TR:=λr b e=>match e with
 |.Compare a g i p=>(z3z r b a g i p).bind λc=>some ⟨c.y,tE c.d,λC=>(c.e C).2⟩
 |.UnaryOp .Not a p=>(r.t b a).bind λf=>some ⟨.UnaryOp .Not f.y p,zO f.d,λC=>z1d (f.ok C)⟩
 |.BoolOp o i p=>(wO (r.t b) i).bind λl=>(match l with
  |f::l=>some ⟨.BoolOp o (f.y::l.map TB.y) p,Jc o f.d (l.map TB.d),λC=>(ZR C).pt⟩
  |[]=>none)
 |e=>(r.e b e).bind λf=>gd (z2_ f.y) λh=>some ⟨f.y,tE f.d,λC=>U0 h (f.ok C)⟩
noncomputable def z4v (c:Cn) (q:C0) (h:ZZ c "range" q.x=true):(fs:List (EB c))->noS fs=true->Option (IB c)
 |[a],hs=>some ⟨.Call (.Name "range" q.p0) [a.y] [] q.pc,Jg a.d,λC _=>KH C (qb h).1 (qb h).2 (zB hs).1 (a.ok C)⟩
 |[a,b],hs=>some ⟨.Call (.Name "range" q.p0) [a.y,b.y] [] q.pc,QD a.d b.d,λC _=>Jl C (qb h).1 (qb h).2 (zB hs).1 (zB (zB hs).2).1 (a.ok C) (b.ok C)⟩
 |_,_=>none
noncomputable def z3b:IR:=λr a e=>(yE e).bind λq=>gd (ZZ a "range" q.x) λh=>(wO (r.e a) q.as).bind λfs=>gd (noS fs) λhs=>z4v a q h fs hs
noncomputable def riE:IR:=λr a e=>(r.e a e).bind λf=>some ⟨f.y,iE f.d,λC _=>UO (f.ok C)⟩
noncomputable def z4i:ER:=λr a e=>match e with
 |.List b p=>z1j (.List · p) jm z1i r a b
 |_=>none
noncomputable def roE:ER:=λr a e=>r.e a e
noncomputable def z1b (r:Rec)(a:Cn)(x:Str)(e:Expr):Option (EB a):=match a.own.contains x with
 |true=>r.o a e
 |false=>r.e a e
noncomputable def isCall:Expr->Bool
 |.Call _ _ _ _=>true
 |.Constant _ _ _=>true
 |_=>false
theorem XZ{e:Expr}{l:Nat}{env:Env}(h:isCall e=true):z8j e none l env=pure false:=by
 cases e<;>first|rfl|injection h
noncomputable def Xv:Expr->Bool
 |.ListComp _ _ _ _=>true
 |.SetComp _ _ _ _=>true
 |.DictComp _ _ _ _ _=>true
 |_=>false
theorem Ki{e:Expr}{x:Str}{p:Pos}{l:Nat}{env:Env}(h:Xv e=false):z8j e (some (.Name x p)) l env=pure false:=by
 cases e<;>first|rfl|injection h
noncomputable def z0b(b:Bool):Nat->List Nat->Tg->Di->List Dt->De->De:=match b with
 |true=>jw
 |false=>qu
theorem U8{f:Cn}{D:DP}{X:Cx}{W:XW}{k:Nat}{x:Str}{i:Nat}{p p2 pos:Pos}(C:Sk D W f X k)(hi:idx f.N x=some i)(j:nFz f (.Name x p)=true)(w:CpB f)(b:Bool):PS X (.Assign [.Name x p] (w.y p2) pos) (rdS D W (zk i (w.d (z0b b)))):=by
 have g:∀h,z8j (w.y p2) (some (.Name x p)) pos.line X.env=pure h->PS X (.Assign [.Name x p] (w.y p2) pos) (rdS D W (zk i (match b with|true=>w.d jw|false=>w.d qu))):=λh c=>by
  cases h with
  |true=>exact Yk C w.hc hi j w.ok w.hf w.ht (w.i.ok C.toCk w.hi.2) (λ_ _ a=>w.e.ok a) (λ_ _ a=>JX a) (uP w.hi.1) _ c
  |false=>
   refine Yb C hi j c ?_;cases b with
   |true=>exact Q6 C.toCk w.hc w.ok w.hf w.ht (w.i.ok C.toCk w.hi.2) (λ_ _ a=>w.e.ok a) (λ_ _ a=>JX a) (uP w.hi.1)
   |false=>exact J5 C.toCk w.hc w.ok w.hf w.ht (w.i.ok C.toCk w.hi.2) (λ_ _ a=>w.e.ok a) (λ_ _ a=>JX a) (uP w.hi.1)
 cases b<;>exact g _ rfl
noncomputable def z5r (r:Rec)(a:Cn)(x:Str)(p pos:Pos)(e:Expr)(i:Nat)(hi:idx a.N x=some i)(b:nFz a (.Name x p)=true):Option (SB a):=match Xf e with
 |some q=>(z0V r a q).bind λw=>some ⟨.Assign [.Name x p] (w.y q.p) pos,zk i (w.d (z0b (a.own.contains x))),λC=>U8 C hi b w _⟩
 |none=>(z1b r a x e).bind λf=>gd (!Xv f.y) λh=>some ⟨.Assign [.Name x p] f.y pos,zk i f.d,λC=>Yb C hi b (Ki (by simpa using h)) (f.ok C.toCk)⟩
noncomputable def z4q (r:Rec)(a:Cn)(pos:Pos)(t e:Expr):Option (SB a):=match t with
 |.Name x p=>gd (nFz a (.Name x p)) λb=>wth (idx a.N x) λi m=>z5r r a x p pos e i m b
 |.Tuple j c p=>gd (nFz a (.Tuple j c p)) λb=>(r.e a e).bind λf=>gd (a.calm&&yK f.y) λh=>wth (idxs a.N j) λk l=>some ⟨.Assign [.Tuple j c p] f.y pos,z2T k f.d,λC=>z0H C (zB h).1 (zB h).2 l b (f.ok C.toCk)⟩
 |.Attribute o x p=>(X3 a.fld x).bind λn=>(z1b r a x e).bind λf=>(r.e a o).bind λg=>some ⟨.Assign [.Attribute g.y x p] f.y pos,zG g.d n.1 f.d,λC=>z1F C n.2 (f.ok C.toCk) (g.ok C.toCk)⟩
 |_=>none
noncomputable def z4P:(g:GM)->Option {c // g=.xcl c}
 |.xcl c=>some ⟨c,rfl⟩
 |_=>none
noncomputable def z2V:SR:=λr a s=>match s with
 |.Raise (some e) none p=>(yE e).bind λq=>(wO (r.e a) q.as).bind λfs=>(match fs with
  |f::fs=>gd (a.calm&&noS (f::fs)) λh=>(z4P (a.look q.x)).bind λc=>some ⟨.Raise (some (.Call (.Name q.x q.p0) (ysE (f::fs)) [] q.pc)) none p,zy c.1 (dsE (f::fs)),λC=>XS C (zB h).1 (qi c.2 nofun).1 (qi c.2 nofun).2 (Zh C.toCk (zB h).2)⟩
  |[]=>none)
 |_=>none
noncomputable def z5m (a:Cn)(x:Str):(g:GM)->a.gl x=g->Option {c // HcOk a x c}
 |.xcl c,q=>gd (a.G.contains x&&Nat.blt c 40) λh=>wth (a.cls.lookup x) λd b=>gd (z7R c d) λe=>some ⟨c,by simpa using (zB h).1,lookup_mem (by rw[z86 e];exact b),.inr q,Nat.blt_eq.mp (zB h).2⟩
 |.xcf c f,q=>gd (a.G.contains x&&Nat.blt c 40) λh=>wth (a.cls.lookup x) λd b=>gd (z7R c d) λe=>some ⟨c,by simpa using (zB h).1,lookup_mem (by rw[z86 e];exact b),.inl ⟨f,q⟩,Nat.blt_eq.mp (zB h).2⟩
 |_,_=>none
structure HB(Γ:Cn) where
 y:z8x
 d:List Nat×Option Nat×List Ds
 ok:∀{D:DP} {k:Nat},xr D Γ k [y] [d]
noncomputable def nmB (a:Cn):(nm:Option Str)->Option {i // z3t a nm i}
 |none=>some ⟨none,trivial⟩
 |some e=>gd (!a.cel.contains e) λh=>wth (idx a.N e) λj b=>some ⟨some j,b,by simpa using h⟩
noncomputable def hdl (r:Rec)(b:Cn):z8x->Option (HB b)
 |.ExceptHandler (some (.Name x p)) nm a f=>(z5m b x (b.gl x) rfl).bind λc=>(nmB b nm).bind λi=>(wO (r.s {b with calm:=false}) a).bind λe=>(match e with
  |v::e=>some ⟨.ExceptHandler (some (.Name x p)) nm (v.y::e.map SB.y) f,([c.1],i.1,v.d::e.map SB.d),⟨⟨_,_,_,_,_,_,_,_,rfl,rfl,⟨x,p,c.1,rfl,rfl,c.2⟩,i.2,λh g=>Qt (fs:=v::e) g⟩,trivial⟩⟩
  |[]=>none)
 |_=>none
theorem z3e{D:DP}{a:Cn}{k:Nat}:∀{hs:List (HB a)},xr D a k (hs.map HB.y) (hs.map HB.d)
 |[]=>trivial
 |h::hs=>⟨h.ok.1,z3e⟩
noncomputable def z1w:SR:=λr j s=>match s with
 |.Return o p=>(match o with
  |some e=>(z1b r j "return" e).bind λf=>some ⟨.Return (some f.y) p,zj f.d,λC=>z1k (f.ok C.toCk)⟩
  |none=>some ⟨.Return none p,Xe,λ_=>UC⟩)
 |.Expr e p=>(r.e j e).bind λf=>gd (isCall f.y) λh=>some ⟨.Expr f.y p,zw f.d,λC=>Ul (XZ h) (f.ok C.toCk)⟩
 |.If c a b p=>(r.t j c).bind λt=>(wO (r.s j) a).bind λl=>(wO (r.s j) b).bind λk=>some ⟨.If t.y (l.map SB.y) (k.map SB.y) p,sIf t.d (l.map SB.d) (k.map SB.d),λC=>z3c (t.ok C.toCk) (Qt C) (Qt C)⟩
 |.Assign v e p=>(QU v).bind λt=>z4q r j p t e
 |.For n it b [] p=>(r.i j it).bind λi=>(wO (r.s j) b).bind λk=>gd (j.calm&&wy i.y) λh=>gd (JL n i.y&&nFz j n) λu=>wth (wc j.N n) λq w=>some ⟨.For n i.y (k.map SB.y) [] p,vB q i.d (k.map SB.d),λC=>z2G C (zB h).1 w (zB u).2 (i.ok C.toCk (zB u).1) (Qt C) (uP (zB h).2)⟩
 |.While c b [] p=>(r.t j c).bind λt=>(wO (r.s j) b).bind λk=>some ⟨.While t.y (k.map SB.y) [] p,ZJ t.d (k.map SB.d),λC=>XG C (t.ok C.toCk) (Qt C)⟩
 |.Try b hs [] [] p=>(wO (r.s j) b).bind λl=>(wO (hdl r j) hs).bind λm=>(match m with
  |g::m=>gd j.calm λh=>some ⟨.Try (l.map SB.y) (g.y::m.map HB.y) [] [] p,z10 (l.map SB.d) (g.d::m.map HB.d),λC=>z2B C h (λ_ _ x=>Qt x) (z3e (hs:=g::m))⟩
  |[]=>none)
 |_=>none
noncomputable def bdy (R:Rules)(n:Nat)(a:Cn)(b:List Stmt):Option (List Stmt×List Ds):=(wO ((comp R n).s a) b).map λl=>(l.map SB.y,l.map SB.d)
theorem Kb{R:Rules}{n:Nat}{a:Cn}{b:List Stmt}{ds:List Ds}(h:bdy R n a b=some (b,ds)){D:DP}{X:Cx}{W:XW}{k:Nat}(C:Sk D W a X k):xt X D W b ds:=by
 obtain⟨l,_,e⟩:=z6q.mp h;injection e with d c;rw[<-d,<-c];exact Qt C
structure MdOk(D:DP)(P:Program)(w:World)(K:PySem.W.Frag)(mg:Str->Option Value)(base:Heap)(Γ:Cn)(k:Nat):Prop where
 hK:K=D.K
 glo:∀x∈Γ.U,GlOkM D P w K mg base k x (Γ.gl x)/\(x==("__debug__":Str))=false
 isi:∀t x c,(x,c)∈Γ.cls->∀u v,WJ D t u->u4 mg x v->z9t K u v=some (vY t c)
 fld:∀c C x f,D.cad c=some C->(x,f)∈Γ.fld->D.fn f=some x/\Cls K C/\NoAttr K C x
 xcx:∀c C,D.adr c=some C->XCls K C
 ocx:∀c C,D.cad c=some C->OCls K C
 clv:∀x c,(x,c)∈Γ.cls->∃u v,u4 mg x u/\ClsV v u
 xmt:∀t x c,(x,c)∈Γ.cls->c<40->∀Ct Cc,D.adr t=some Ct->mg x=some (.ref Cc)->zay K (.ref Ct) (.ref Cc)=some (vY t c)
noncomputable def yz (a:Cn)(ps:List Str)(sc:Scope):Bool:=
 (sc.kind==.function)&&!sc.isCoroutine&&!sc.isGenerator&&decide (a.N.Nodup)&&(a.N.take ps.length==ps)&&sc.names.all (λy=>y.2 != .free)&&
 a.N.all (λx=>x != ("__debug__":Str)&&x != ("__classdict__":Str)&&(if a.cel.contains x then sc.names.lookup x==some .cell else sc.names.lookup x==some .local))&&
 a.G.all (λx=>a.U.contains x&&sc.names.lookup x==some .globalImplicit)&&a.cel.all (λx=>a.N.contains x)&&a.calm
theorem j7{X:Cx}{W:XW}{e:Value}{s:z5W}(p:XP X W e s):X.A.frames=some X.stack:=by
 obtain⟨_,_,_,_,_,_,_,_,I,_⟩:=p;exact I.ok.frames
theorem Ve:∀(ts:List T) (n:Nat),Uz ts n=ts.map some++z7U n none
 |[],n=>by
  have:∀n,pad n=z7U n none:=λn=>by
   induction n with
   |zero=>rfl
   |succ n a=>show none::pad n=_;rw[a];rfl
  exact this n
 |t::r,n=>by show some t::Uz r n=_;rw[Ve r n];rfl
section
variable {K:PySem.W.Frag}
theorem Wr{φ α:List Addr}{H:Hp}{N:List Str}{ts:List T}{vs:List V}(d:DenL D φ α H ts vs):SRel D φ α H (Uz ts (N.length-ts.length)) (L2.start N vs):=by
 have b:=d.length;rw[Ve];refine⟨by simp[L2.start,b],λi t e=>?_⟩;by_cases a:i<ts.length
 .rw[z5N (by simpa using a),z5Z] at e;cases q:ts[i]? with
  |none=>rw[q] at e;exact z7 e
  |some g=>
   rw[q] at e;cases e;obtain⟨v,c,f⟩:=d.get q;refine⟨v,?_,f⟩;unfold L2.start;rw[z5N (by rw[z5H,<-b];exact a),z5Z,c];rfl
 .rw[z5_ (by simpa using a),z7V] at e;split at e<;>cases e
noncomputable def kno (X:Cx)(f:Str->Bool):Cx:={X with fn:=f}
theorem z2b{X:Cx}{f g:Str->Bool}(hf:∀x,f x=true->g x=true)(ok:(kno X g).Ok):(kno X f).Ok:=⟨ok.mod,ok.kind,ok.glob,ok.blt,ok.above,ok.inj,ok.has,λx c e=>ok.cab x c (hf x e),ok.hd,ok.frames,ok.stk,ok.exf,ok.bs,ok.bsz,ok.noex,ok.exfs,ok.funs,ok.frf⟩
theorem xE{X:Cx}{f g:Str->Bool}{a:List (Addr×Obj)}{b:St}{H:Hp}{s:z5W}(hf:∀x,f x=true->g x=true)(I:Inv (kno X g) a b H s):Inv (kno X f) a b H s:=
 ⟨z2b hf I.ok,I.os,I.bare,I.base,I.loc,I.cell,I.free,λx c e=>(I.freeC x c e).imp id λz=>⟨Bool.eq_false_iff.mpr λq=>Bool.noConfusion ((hf x q).symm.trans z.1),z.2⟩,I.pin,I.hok,I.len⟩
theorem z2F{X:Cx}{f g:Str->Bool}{W:XW}{e:Value}{s:z5W}(hf:∀x,f x=true->g x=true)(p:XP (kno X g) W e s):XP (kno X f) W e s:=by
 obtain⟨x,cls,d,h,H,T,l,a,I,b,c,r,j,i⟩:=p;exact⟨x,cls,d,h,H,T,l,a,xE hf I,⟨b.free,b.loc,b.nfs,b.new,b.cel,b.pin⟩,λt k=>let b:=c t k;⟨b.free,b.loc,b.nfs,b.new,b.cel,b.pin⟩,r,j,i⟩
theorem WD{X:Cx}{f g:Str->Bool}{a:List (Addr×Obj)}{E:Ends}{fl:Flow}{s:z5W}(hf:∀x,f x=true->g x=true)(h:SP (kno X g) a E fl s):SP (kno X f) a E fl s:=by
 cases fl with
 |ret v=>obtain⟨v,b,d,c,r⟩:=h;exact⟨v,b,d,xE hf c,r⟩
 |_=>obtain⟨b,d,c,r⟩:=h;exact⟨b,d,xE hf c,r⟩
theorem VF{D:DP}{W:XW}{X:Cx}{f:Str->Bool}{B:List Stmt}{c:List Ds}(h2:xt (kno X f) D W B c):∀{C:List Stmt} {g:List Ds},xt (kno X λ_=>true) D W C g->
  ∀(a:List (Addr×Obj)) (s:z5W) (d:St) (H:Hp) (E:Ends),Inv (kno X λ_=>true) a d H s->rdS D W (zR (g++c)) E d H->z5V (z5X X.prog X.w) X.A (execs (C++B) X.env) (SP (kno X f) a E) X.xe s
 |[],[],_,a,s,d,H,E,I,q=>qV h2 a s d H E (xE (λ_ _=>rfl) I) q
 |st::r,u::K,h,a,s,d,H,E,I,q=>by
  obtain⟨o,J,F,G,L,O,Q,q,P,y,x,t,p⟩:=q;refine z9J (thn (h.1 a s d H {E with nx:=λb i=>rdS D W (zR (K++c)) E b i} I ⟨o,J,F,G,L,O,_,q,λj k e l i b st m n=>?_,y,x,t,p⟩) λR M z=>?_)
  .exact⟨o,l,j,k,n,m,PostS.step ⟨Q,e,P,y,x,t,p⟩ st⟩
  .cases R with
   |next=>
    obtain⟨b,i,S,N⟩:=z;exact VF h2 h.2 a M b i E S N
   |ret v=>exact WD (λ_ _=>rfl) z
   |brk=>exact WD (λ_ _=>rfl) z
   |cont=>exact WD (λ_ _=>rfl) z
 |[],_::_,h,_,_,_,_,_,_,_=>h.elim
 |_::_,[],h,_,_,_,_,_,_,_=>h.elim
theorem Yf{R:Rules}{f:Addr}{name g:Str}{params:Arguments}{body b1 b2:List Stmt}{scope:Scope}{dV kV doc pm j ct oc:Value}{an od:Option Addr}{osl:Array (Option Value)}{ps:List Str}{m:Nat}{T S:List Ds}
    (M:MdOk D P w K mg base b k) (lk:K.lookup f=some ⟨oc,od,.func (z6O name g params body scope dV kV doc pm an j ct),osl⟩) (hcd:z7W K j g=true) (hs:yz b ps scope=true) (hm:b.N.length=ps.length+m) (hbo:body=b1++b2) (hd1:bdy R n {b with fz:=[]} b1=some (b1,T)) (hds:bdy R n b b2=some (b2,S)) (U:LamOk D mg base j (g++".<locals>.") k b.lam b.lnm:=by exact LamOk.no rfl) :
    FnOk P w K mg base (CX1 P w) (k+1) f (z6O name g params body scope dV kV doc pm an j ct) ps (spN D ps.length (fnW ps.length m (T++S))):=by
  subst hbo;simp only[yz,z5P,z6n,beq_iff_eq,z7G,decide_eq_true_eq,bne_iff_ne] at hs;obtain⟨⟨⟨⟨⟨⟨⟨⟨⟨h1,h2⟩,h3⟩,h4⟩,h5⟩,h6⟩,h7⟩,h8⟩,h9⟩,h10⟩:=hs;have L:∀x∈b.N,(b.cel.contains x=true/\scope.names.lookup x=some .cell)\/(b.cel.contains x=false/\scope.names.lookup x=some .local):=λx a=>by
    have q:=(h7 x a).2;cases Z:b.cel.contains x with
    |true=>rw[Z,if_pos rfl] at q;exact .inl ⟨rfl,beq_iff_eq.mp q⟩
    |false=>rw[Z] at q;exact .inr ⟨rfl,beq_iff_eq.mp q⟩
  have I:∀x∈b.N,scope.names.lookup x=some .local\/scope.names.lookup x=some .cell:=λx a=>(L x a).elim (λz=>.inr z.2) λz=>.inl z.2;refine z02 (fnb:=λx=>!b.fz.contains x) lk hcd ⟨h1,h2,h3,h4,h5,λx a=>I x (by rw[<-h5] at a;exact z6D a),h6⟩ (λvs H Q E q=>q.1) λA r s H vs Q E hr hsp u=>?_;obtain⟨hl,φ,α,ts,μ,d,mr,K0,Z0,⟨hle,q⟩,V,hz0⟩:=hsp;generalize O:WO (CX1 P w) P w K mg base b.N g scope f j A r s H E (λx=>!b.fz.contains x)=X;have F:Frm X (z8U g scope s.heap.objs.size f j) r s.heap.objs.size:=O▸⟨rfl,rfl,rfl⟩;have Y:X.fn=λx=>!b.fz.contains x:=by rw[<-O];rfl
  have CK:∀(l:List Str),(∀x∈l,x∈b.fz)->Sk D (wOf E) {b with fz:=l} (kno (X.wish (XP X (wOf E))) λx=>!l.contains x || !b.fz.contains x) k:=λl hl'=>by
    have xe:∀e s,XP (kno (X.wish (XP X (wOf E))) λx=>!l.contains x || !b.fz.contains x) (wOf E) e s->XP X (wOf E) e s:=λe s p=>by
      have p2:XP (kno (X.wish (XP X (wOf E))) λx=>!b.fz.contains x) (wOf E) e s:=z2F (λx a=>by rw[a,zbj]) p;exact v_ (show XP (X.wish (XP X (wOf E))) (wOf E) e s by rw[<-Y] at p2;exact p2)
    have pso:zaF (z5X X.prog X.w) X.A X.env (XP X (wOf E)):=λe s p=>kE F (j7 p) e s p;subst O
    exact { hK := M.hK,hN := rfl,nd := h4,vis := fun x a => (I x a).elim .inl fun z => .inr (.inl z),dbg := fun x a => ⟨beq_eq_false_iff_ne.mpr (h7 x a).1.1,beq_eq_false_iff_ne.mpr (h7 x a).1.2⟩,
            dbG:=λx a=>(M.glo x (by simpa using (h8 x a).1)).2,glb:=λx a=>(h8 x a).2,glo:=λx a=>(M.glo x (by simpa using (h8 x a).1)).1,glU:=M.glo,
            cel:=λx a=>.inl ((L x (by simpa using h9 x a)).elim (λz=>z.2) λz=>by have:=z.1;rw[z6j.mpr a] at this;injection this),
            isi:=M.isi,fld:=M.fld,xcx:=M.xcx,ocx:=M.ocx,clv:=M.clv,clm:=λ_=>rfl,rom:=λ_=>hr,rmh:=⟨hr.dp,hr.un⟩,xe:=xe,frm:=⟨_,_,_,F.stk,F.f0,F.fe⟩,lam:=U,kfz:=λ_ x a=>⟨by show (!l.contains x || !b.fz.contains x)=false;rw[z6j.mpr a,z6j.mpr (hl' x a)];rfl,λc e=>(u x c e).1⟩,
            sto:=λx a=>by
              obtain⟨z1,z2⟩:=z6o.mp a;exact⟨I x z1,.inl (by show (!l.contains x || _)=true;rw[show (!l.contains x)=true from z2];rfl)⟩,lcl:=λx a Z=>(L x a).elim (λz=>by rw[z.1] at Z;injection Z) λz=>z.2,pso:=pso,xmt:=M.xmt}
  have B:PSs X (b1++b2) (λE1 C H1=>(∀y c,X.env.cells.lookup y=some c->X.s₀.heap.objs.size<=c/\H1 c=none)/\rdS D (wOf E) (zR (T++S)) E1 C H1):=λG s1 C H1 E1 I1 ⟨hf,q⟩=>by
    have I2:Inv (kno (X.wish (XP X (wOf E))) λ_=>true) G C H1 s1:=by
      have J:=I1.wish (XP X (wOf E));subst O;exact⟨⟨J.ok.mod,J.ok.kind,J.ok.glob,J.ok.blt,J.ok.above,J.ok.inj,J.ok.has,λx c _ e=>(hf x c e).1,J.ok.hd,J.ok.frames,J.ok.stk,J.ok.exf,J.ok.bs,J.ok.bsz,J.ok.noex,J.ok.exfs,J.ok.funs,J.ok.frf⟩,J.os,J.bare,J.base,J.loc,J.cell,J.free,λx c e=>.inl (hf x c e).2,J.pin,J.hok,J.len⟩
    have C1:=Kb hd1 (CK [] sC);have C2:=Kb hds (CK b.fz λ_ h=>h);have e1:(λx=>!([]:List Str).contains x || !b.fz.contains x)=λ_=>true:=by funext x;rfl
    have e2:(λx=>!b.fz.contains x || !b.fz.contains x)=X.fn:=by rw[Y];funext x;exact Bool.or_self _
    rw[e2] at C2;refine z6r (VF C2 C1 G s1 C H1 E1 I2 q) (λf s' q=>SP.unwish q) λe s' p=>?_;have:=W3 (M:=z5X X.prog X.w) (F2:=λe' s''=>CX1 X.prog X.w X.outer X.H₀ X.s₀ E e' s'') F (j7 p) (by rw[<-O];rfl) p;subst O;exact this
  have hmm:b.N.length-ts.length=m:=by omega
  refine⟨_,B,O▸u,φ,α,_,μ,Wr d,mr,{nx:=λ_ i=>K0 .n i,rt:=K0,bk:=λ_ _=>False,ct:=λ_ _=>False,ex:=λc fs _ i=>Z0 c fs i},hmm▸q,λ_ i z o H' σ' st m _=>V _ _ z o H' st m .n rfl,λ_ _ z=>z.elim,λ_ _ z=>z.elim,λt i z o H' v st m dv=>V _ _ z o H' st m v dv,λc fs _ i z o H' σ' C1 dd st m _ ad xd=>hz0 c fs i z o H' C1 dd st m ad xd⟩
theorem xB{n m:Nat}{ds:List Ds}:∀ts μ K Z,fnW n m ds ts μ K Z->ts.length=n:=λ_ _ _ _ h=>h.1
end
noncomputable def W_:z5M->Bool
 |[]=>true
 |p::r=>(match p.2.cls with|.type t=>t != "list" | _=>true)&&W_ r
theorem Vt:∀{K:z5M} {a:Addr} {o:Obj},W_ K=true->K.lookup a=some o->o.cls≠.type "list"
 |[],_,_,_,h=>z7 h
 |(b,p)::r,a,o,c,h=>by
  simp only[W_,z5P] at c;rw[z6v] at h;cases q:a==b with
  |true=>
   rw[q] at h;(injection h with h;subst h);intro e;have d:=c.1;rw[e] at d;exact absurd d dC
  |false=>rw[q] at h;exact Vt c.2 h
theorem uY:∀(ns:List Int),DenL D φ α H (ns.map T.int) (ns.map V.int)
 |[]=>rfl
 |n::r=>⟨.int n,r.map V.int,rfl,rfl,uY r⟩
noncomputable def FLD:List Str:=["moments","houses","counts","start","turns","holder","lease","until","is_cut","shape","grants","house","begin","end","ahead","stride","keeper","mark","newest","batches","has_fallen","clock","kept","common","given","now","seats","world","line","by"]
theorem z2u:FLD.Nodup:=by decide +kernel
structure Ads where
 xs:List (Nat×Addr)
 cs:List (Nat×Addr)
noncomputable def mkD (K:z5M)(A:Ads)(clo:Nat->Addr->Option HO->List V->Prop)(tabs:Nat->Option (Addr×List Pos×Str):=λ_=>none):DP:=⟨K,λc=>A.xs.lookup c,λc=>A.cs.lookup c,λi=>FLD[i]?,λi j x b a=>jF z2u b a,clo,tabs⟩
noncomputable def cn (cls fld:List (Str×Nat)) (a:List (Str×GM)) (N G cel own:List Str) (lam:Option (Nat×List Pos):=none) (lnm:Str:="<lambda>"):Cn where
 N:=N
 G:=G
 calm:=true
 gl:=λx=>(a.lookup x).getD .bad
 cls:=cls
 fld:=fld
 U:=a.map (·.1)
 cel:=cel
 own:=own
 lam:=lam
 lnm:=lnm
noncomputable def tys (A:Ads):List (Nat×Value):=[(0,.type "NoneType"),(1,.type "bool"),(2,.type "int"),(3,.type "str"),(4,.type "tuple"),(5,.type "list"),(6,.type "dict")]++(A.xs.map λp=>(p.1,z6u p.2))++A.cs.map λp=>(p.1,z6u p.2)
noncomputable def Kj(K:z5M)(c:Str):Option Value:=match z9g K z6i c with
 |some (some v)=>some v
 |some none=>if c==("__name__":Str) then none else z6W c
 |none=>none
noncomputable def z47:Value->Bool
 |.ref _=>true
 |.type _=>true
 |_=>false
noncomputable def isC (o:Option (Option Value))(s:String):Bool:=match o with
 |some (some (.builtin x))=>x==s
 |_=>false
theorem u3(h:isC o s=true):o=some (some (.builtin s)):=by
 unfold isC at h;split at h
 .rw[beq_iff_eq.mp h]
 .injection h
noncomputable def Xz(o:Option (Option Value)):Bool:=match o with
 |some none=>true
 |_=>false
theorem Zq(h:Xz o=true):o=some none:=by
 unfold Xz at h;split at h
 .rfl
 .injection h
noncomputable def isB(o:Option Bool)(b:Bool):Bool:=match o with|some c=>c==b|none=>false
theorem js(h:isB o b=true):o=some b:=by
 cases o with
 |none=>injection h
 |some c=>have:=h;rw[beq_iff_eq.mp this]
noncomputable def Ur (K:z5M)(C:Addr):Bool:=isC (z6g K (.ref C) "__class__") "object.__class__"&&isC (z7D K (.builtin "object.__class__") "__get__") "getset_descriptor.__get__"&&isB (z95 K (.builtin "object.__class__")) true&&isB (z6U K C (.type "object")) true
noncomputable def z06(K:z5M)(C:Addr):Bool:=Ur K C&&isC (z6g K (.ref C) "__getattribute__") "BaseException.__getattribute__"&&Xz (z6g K (.ref C) "__getattr__")&&isB (z6U K C (.type "BaseException")) true&&(isB (z6U K C (.type "KeyError")) false&&isB (z6U K C (.type "ZeroDivisionError")) false)&&(z8Y K C).isSome
noncomputable def Kv(K:z5M)(C:Addr):Bool:=Ur K C&&z8k K C z9h&&z7x K C&&z9B K C&&isC (z6g K (.ref C) "__setattr__") "object.__setattr__"
noncomputable def chk (K:z5M)(A:Ads)(cls fld:List (Str×Nat)):Bool:=
 cls.all (λp=>match Kj K p.1 with
  |some v=>z47 v&&(tys A).all (λq=>isB (z9t K q.2 v) (vY q.1 p.2))&&(zc2 40 p.2 || (match v with|.ref C=>A.xs.all (λq=>isB (zay K (.ref q.2) (.ref C)) (vY q.1 p.2))|_=>true))
  |none=>false)&&
 A.xs.all (λq=>z06 K q.2)&&A.cs.all (λq=>Kv K q.2&&fld.all (λp=>Xz (z6g K (.ref q.2) p.1)))&&fld.all (λp=>match FLD[p.2]? with|some x=>x==p.1|none=>false)
set_option tactic.hygienic true in
theorem yh{K:z5M}(X:K.In h)(G:h.Ns z6i mg)(e:Kj K c=some v):u4 mg c v/\∀u,u4 mg c u->u=v:=by
 unfold Kj at e;split at e
 .rename_i b q;cases e;have m:=zbP X G q;refine⟨.inl m,λu z=>?_⟩;rcases z with z|⟨z,_⟩
  .rw[m] at z;(replace z:=zm z;subst z);rfl
  .rw[m] at z;exact vD z
 .rename_i q;have m:=PySem.W.mg_none_of X G q;split at e
  .exact z7 e
  .rename_i a;refine⟨.inr ⟨m,e,λz=>a (by rw[z];rfl)⟩,λu z=>?_⟩;rcases z with z|⟨_,z,_⟩
   .rw[m] at z;exact z7 z
   .rw[e] at z;(replace z:=zm z;subst z);rfl
 .exact z7 e
theorem qg{α β:Type}[BEq α][LawfulBEq α]{x:α}{v:β}:∀{l:List (α×β)},l.lookup x=some v->(x,v)∈l
 |[],h=>z7 h
 |(y,w)::r,h=>by
  rw[z6v] at h;cases q:x==y with
  |true=>rw[q] at h;cases h;rw[beq_iff_eq.mp q];exact z60
  |false=>rw[q] at h;exact z5T _ (qg h)
theorem lookup_some{α:Type}:∀{l:List (Str×α)},x∈l.map (·.1)->∃v,l.lookup x=some v
 |[],h=>by simp at h
 |(y,w)::r,h=>by
  rw[z6v];cases q:x==y with
  |true=>exact⟨w,rfl⟩
  |false=>
   rcases z61.mp h with z|z
   .have z:=z;rw[z] at q;simp at q
   .exact lookup_some z
section
variable {P:Program}{w:World}{K:PySem.W.Frag}{mg:Str->Option Value}{base:Heap}{A:Ads}{clo:Nat->Addr->Option HO->List V->Prop}{cls fld:List (Str×Nat)}{gs:List (Str×GM)}{N G cel own:List Str}{k:Nat}{lam:Option (Nat×List Pos)}{tabs:Nat->Option (Addr×List Pos×Str)}
theorem z2n(h:WJ (mkD K A clo tabs) t u):(t,u)∈tys A:=by
 unfold tys;rcases h with⟨rfl,rfl⟩|⟨rfl,rfl⟩|⟨rfl,rfl⟩|⟨rfl,rfl⟩|⟨rfl,rfl⟩|⟨rfl,rfl⟩|⟨C,h,rfl⟩|⟨rfl,rfl⟩|⟨C,h,rfl⟩
 .simp
 .simp
 .simp
 .simp
 .simp
 .simp
 .exact z65 _ (z5R _ (z5O.mpr ⟨(t,C),qg h,rfl⟩))
 .simp
 .exact z5R _ (z5O.mpr ⟨(t,C),qg h,rfl⟩)
noncomputable def GsOk (P:z6t)(w:z81)(K:z5M)(mg:Str->Option Value)(base:Heap)(A:Ads)(clo:Nat->Addr->Option HO->List V->Prop)(k:Nat)(gs:List (Str×GM))(tabs:Nat->Option (Addr×List Pos×Str):=λ_=>none):Prop:=∀p∈gs,GlOkM (mkD K A clo tabs) P w K mg base k p.1 p.2/\(p.1==("__debug__":Str))=false
theorem GlOkM.mono(h:j<=k)(q:GlOkM D P w K mg base j x g):GlOkM D P w K mg base k x g:=by
 cases g with
 |fn f=>obtain⟨m,a,fd,ps,kk,b,c,d,r⟩:=q;exact⟨m,a,fd,ps,kk,b,c,z66 d h,r⟩
 |met c nm f=>obtain⟨C,fI,fd,ps,kk,a,b,c,d,e,o,r⟩:=q;exact⟨C,fI,fd,ps,kk,a,b,c,d,e,z66 o h,r⟩
 |mkd c nm n f=>obtain⟨C,fI,fd,ps,kk,a,b,c,d,e,r⟩:=q;exact⟨C,fI,fd,ps,kk,a,b,c,d,z66 e h,r⟩
 |mk c z f=>obtain⟨C,fI,fd,ps,kk,a,b,c,d,e,r⟩:=q;exact⟨C,fI,fd,ps,kk,a,b,c,d,z66 e h,r⟩
 |xin c f nm fl=>obtain⟨C,HE,fI,fd,ps,kk,B,A,y,u,s,p,r⟩:=q;exact⟨C,HE,fI,fd,ps,kk,B,A,y,u,s,z66 p h,r⟩
 |kap ls=>exact⟨λt φ α H v kt d=>let ⟨a,kk,h1,l,i⟩:=q.1 t φ α H v kt d;⟨a,kk,h1,z66 l h,i⟩,q.2⟩
 |_=>exact q
theorem GsOk.mono(h:j<=k)(q:GsOk P w K mg base A clo j gs tabs):GsOk P w K mg base A clo k gs tabs:=λp a=>⟨(q p a).1.mono h,(q p a).2⟩
theorem GsOk.add (q:GsOk P w K mg base A clo k gs tabs) (h:GlOkM (mkD K A clo tabs) P w K mg base k x g) (a:(x==("__debug__":Str))=false):GsOk P w K mg base A clo k ((x,g)::gs) tabs:=λp b=>by
 rcases z61.mp b with rfl|z
 .exact⟨h,a⟩
 .exact q p z
noncomputable def Vo(bs:List Str)(xs:List (Str×Nat))(a:List (Str×Nat×Nat)):List (Str×GM):=bs.map (λx=>(x,GM.none))++xs.map (λx=>(x.1,GM.xcl x.2))++a.map (λx=>(x.1,GM.xcf x.2.1 x.2.2))
noncomputable def atA (K:z5M)(A:Ads)(x:Str)(c:Nat):Bool:=match A.xs.lookup c,z9g K z6i x with
 |some C,some (some (.ref a))=>C==a
 |_,_=>false
set_option tactic.hygienic true in
theorem KZ(X:K.In base)(d:base.Ns z6i mg)(h:atA K A x c=true):∃C,A.xs.lookup c=some C/\mg x=some (.ref C):=by
 unfold atA at h;split at h
 .rename_i C e b a;have h:=beq_iff_eq.mp h;subst h;exact⟨C,b,zbP X d a⟩
 .injection h
set_option tactic.hygienic true in
theorem UY(X:K.In base)(J:base.Ns z6i mg)(hc:chk K A cls fld=true)(q:GsOk P w K mg base A clo k gs tabs):MdOk (mkD K A clo tabs) P w K mg base (cn cls fld gs N G cel own lam lnm) k:=by
 simp only[chk,z5P,z6n] at hc;obtain⟨⟨⟨I,c2⟩,R⟩,c4⟩:=hc;have Q:∀{C},Ur K C=true->z6g K (.ref C) "__class__"=some (some (.builtin "object.__class__"))/\z7D K (.builtin "object.__class__") "__get__"=some (some (.builtin "getset_descriptor.__get__"))/\z95 K (.builtin "object.__class__")=some true/\z6U K C (.type "object")=some true:=λ{C} h=>by
  simp only[Ur,z5P] at h;exact⟨u3 h.1.1.1,u3 h.1.1.2,js h.1.2,js h.2⟩
 have L:∀c C,A.cs.lookup c=some C->OCls K C:=λc C h=>by
  have a:=(R _ (qg h)).1;simp only[Kv,z5P] at a;obtain⟨⟨⟨⟨H,F⟩,d⟩,E⟩,D⟩:=a;obtain⟨p,o,m,l⟩:=Q H;exact⟨⟨F,d,E,u3 D⟩,p,o,m,l⟩
 refine⟨rfl,λx T=>?_,λt x c b u v Y U=>?_,λc C x f j M=>?_,λc C j=>?_,L,λx c b=>?_,λt x c b Z Ct Cc s B=>?_⟩
 .obtain⟨g,hg⟩:=lookup_some T;have:=q _ (qg hg);refine⟨?_,this.2⟩;show GlOkM _ P w K mg base k x ((gs.lookup x).getD .bad);rw[hg];exact this.1
 .have a:=I _ b;split at a
  .rename_i v' i;simp only[z5P,z6n] at a;have e:=(yh X J i).2 v U;subst e;exact js (a.1.2 _ (z2n Y))
  .injection a
 .have a:=c4 _ M;refine⟨?_,(L c C j).cl,Zq ((R _ (qg j)).2 _ M)⟩;split at a
  .rename_i y S;show FLD[f]?=some x;rw[S,beq_iff_eq.mp a]
  .injection a
 .have a:=c2 _ (qg j);simp only[z06,z5P] at a;obtain⟨⟨⟨⟨⟨H,F⟩,d⟩,E⟩,O⟩,D⟩:=a;obtain⟨p,o,m,l⟩:=Q H;exact⟨u3 F,Zq d,p,o,m,l,js E,⟨js O.1,js O.2⟩,D⟩
 .have a:=I _ b;split at a
  .rename_i v i;simp only[z5P] at a;have r:=a.1.1;refine⟨v,(match v with|.ref C=>V.ref C|.type n=>V.ty n|_=>V.n),(yh X J i).1,?_⟩;cases v with
   |ref C=>exact .inl ⟨C,rfl,rfl⟩
   |type n=>exact .inr ⟨n,rfl,rfl⟩
   |_=>injection r
  .injection a
 .have a:=I _ b;split at a
  .rename_i v i;simp only[z5P,z96] at a;have e:=(yh X J i).2 (.ref Cc) (.inl B);subst e;have d:=a.2.resolve_left (λz=>by have:=zai z;lia);simp only[z6n] at d;exact js (d _ (qg s))
  .injection a
variable {D:DP}{H:Hp}{φ α:List Addr}{μ:Mem}
theorem MRel.layO(m:MRel D φ α H μ)(g:H p=none)(d:DenO D φ (α++[p]) (upd H p u) s p):MRel D φ (α++[p]) (upd H p u) (μ++[s]):=by
 have r:=m.len;refine⟨by simp[r],?_,λb j=>?_,λb j=>?_,λi a o c f=>?_⟩
 .rw[z6L];refine⟨m.nd,sC,λa t b j=>?_⟩;rw[z5F.mp j];intro z;exact zp m g (z▸t)
 .rcases z5L.mp j with h|h
  .exact m.dis b h
  .rw[z5F.mp h];exact zo m g
 .obtain⟨u,e,n⟩:=m.phi b j;exact⟨u,zh g b u e,n⟩
 .by_cases hi:i<α.length
  .rw[z5N hi] at c;rw[z5N lC] at f;have d:=m.ob i a o c f;obtain⟨u,q,_⟩:=d.some;exact d.step (vb g) ((zh g _ _ q).trans q.symm)
  .rw[z5_ lC] at c f;have l:i-α.length=0:=by
    by_cases z:i-α.length=0
    .exact z
    .rw[z87 (by simp;lia)] at c;exact z7 c
   have k:i-μ.length=0:=by lia
   rw[l] at c;rw[k] at f;(replace c:=zm c;subst c);(replace f:=zm f;subst f);exact d
end
noncomputable abbrev eB2(op:T->T->Mem->RE T)(f g:De):De:=λc d=>(f c d).bind λx b=>(g c b).bind λy a=>op x y a
noncomputable abbrev yl(x y:T)(μ:Mem):RE T:=match x,y with
 |.int a,.int b=>.ok (.int (if b<a then b else a)) μ
 |_,_=>.st
noncomputable abbrev yR(x y:T)(μ:Mem):RE T:=match x,y with
 |.int a,.int b=>.ok (.int (if a<b then b else a)) μ
 |_,_=>.st
section
noncomputable def B2 (X:Cx)(D:DP)(W:XW)(i:Value)(op:T->T->Mem->RE T):Prop:=
 ∀(a:List (Addr×Obj)) (s:z5W) (d:St) (H:Hp) (b c:List Addr) (e:Mem) (t h:T) (v f:V) (u g:Value) (Q:VK),Inv X a d H s->MRel D b c H e->Den D b c H t v->Den D b c H h f->RelV v u->RelV f g->Post D W b c H d (RV D b Q) (op t h e)->
  z5V (z5X X.prog X.w) X.A (call i [u,g]) (EP X a d Q) X.xe s
theorem z04 (C:Ck D W J X k) {id:String} (A:x∈J.G) (hg:J.gl x=.none) (hv:z6W x=some (.builtin id)) (hn:x≠"__name__") (r:noStar a=true) (o:noStar b=true) (hB:B2 X D W (.builtin id) op) (ha:PE X a (rdE D W f)) (hb:PE X b (rdE D W g)) :
  PE X (.Call (.Name x p0) [a,b] [] pos) (rdE D W (eB2 op f g)):=by
 have M:=C.glo _ A;rw[hg] at M;rintro h s u H Q I ⟨e,P,F,O,L,mr,p⟩;refine z6F (wG I (C.glb _ A) M hv ?_ hn (C.dbG _ A))
 refine z7X (thn (zI ha (zI hb qr (z6 o)) (z6 r) pos h s u H (λK t=>∃j i n l d c,K=[j,i]/\MRel D e c t d/\Den D e c t n j/\Den D e c t l i/\Post D W e c t u (RV D e Q) (op n l d)) I
  ⟨e,P,F,O,L,mr,p.bind.mono λn v w N z m1 q1 j E=>⟨e,w,F,v,L.step z,m1,q1.bind.mono λl d c t y m2 Z i B=>⟨j,i,n,l,d,c,rfl,m2,E.step y,B,Z⟩⟩⟩) ?_) (z6 r) (qA (by simp[o]))
 rintro us T ⟨K,N,I1,U,j,i,n,l,d,c,rfl,m,E,B,q⟩;obtain⟨S,R,rfl,Y,V⟩:=vals2 U;exact hB h T u N e c d n l j i S R Q I1 m E B Y V q
set_option tactic.hygienic true in
theorem z18(hc:X.calm=true):B2 X D W (.builtin "min") yl:=by
 intro a s e H l n m t y v o u q Q I b d k r f p;unfold yl at p;split at p
 .subst d;subst k;obtain⟨x,rfl⟩:=r;obtain⟨w,rfl⟩:=f;refine min_two_ints (I.ok.hd hc) λh tk g=>?_;have c:Inv X a e H {s with heap:=h,toks:=tk}:=I.kept g;rename_i i j;by_cases z:j<i
  .rw[if_pos z] at p ⊢;exact⟨.int j,H,c,⟨_,rfl⟩,p.here b rfl⟩
  .rw[if_neg z] at p ⊢;exact⟨.int i,H,c,⟨_,rfl⟩,p.here b rfl⟩
 .exact p.elim
set_option tactic.hygienic true in
theorem z1h(hc:X.calm=true):B2 X D W (.builtin "max") yR:=by
 intro a s e H l n m t y v o u q Q I b d k r f p;unfold yR at p;split at p
 .subst d;subst k;obtain⟨x,rfl⟩:=r;obtain⟨w,rfl⟩:=f;refine max_two_ints (I.ok.hd hc) λh tk g=>?_;have c:Inv X a e H {s with heap:=h,toks:=tk}:=I.kept g;rename_i i j;by_cases z:i<j
  .rw[if_pos z] at p;rw[if_pos z];exact⟨.int j,H,c,⟨_,rfl⟩,p.here b rfl⟩
  .rw[if_neg z] at p;rw[if_neg z];exact⟨.int i,H,c,⟨_,rfl⟩,p.here b rfl⟩
 .exact p.elim
theorem intsAre_of:∀{ns:List Int} {a:List Value},Vals (ns.map V.int) a->z7z a ns
 |[],_,.nil=>.nil
 |n::ns,_,.cons r q=>by
  obtain⟨t,rfl⟩:=r;exact .cons n t (intsAre_of q)
end
noncomputable def rB2 (nm:Str)(o:T->T->Mem->RE T)(H:∀{D:DP} {X:Cx} {W:XW} {c:Cn} {k:Nat} {a b:Expr} {f g:De} {p0 pos:Pos},Ck D W c X k->nm∈c.G->c.gl nm=.none->c.calm=true->noStar a=true->noStar b=true->PE X a (rdE D W f)->PE X b (rdE D W g)->PE X (.Call (.Name nm p0) [a,b] [] pos) (rdE D W (eB2 o f g))):ER:=λr c e=>
 (yE e).bind λq=>(z37 q.as).bind λw=>gd (ZZ c nm q.x) λh=>(r.e c w.1).bind λf=>(r.e c w.2).bind λg=>gd (c.calm&&noS [f,g]) λi=>some ⟨.Call (.Name nm q.p0) [f.y,g.y] [] q.pc,eB2 o f.d g.d,λC=>H C (qb h).1 (qb h).2 (zB i).1 (zB (zB i).2).1 (zB (zB (zB i).2).2).1 (f.ok C) (g.ok C)⟩
noncomputable def z4m:ER:=rB2 "min" yl λC a hg b f e d c=>z04 C a hg (by decide +kernel) (by decide) f e (z18 (C.clm b)) d c
noncomputable def z2J:ER:=rB2 "max" yR λC a hg b f e d c=>z04 C a hg (by decide +kernel) (by decide) f e (z1h (C.clm b)) d c
noncomputable abbrev Zd(c:Nat)(g:Fn)(ts:List T)(μ:Mem):RE T:=λK Z=>g (.m μ.length::ts) (μ++[.obj c []]) (λr a=>r=.n/\K (.m μ.length) a) Z
noncomputable abbrev uo(c:Nat)(g:Fn)(fs:List De):De:=λa b=>(evs fs a b).bind (Zd c g)
noncomputable abbrev zt(c:Nat)(g:Fn)(o:De)(as:List De):De:=λd h=>(o d h).bind λt b=>match t with
 |.obj f fs=>.grd (f=c) ((evs as d b).bind λe a=>g (.obj f fs::e) a)
 |.m i=>λK Z=>∃fs,b[i]?=some (.obj c fs)/\(evs as d b).bind (λe a=>g (.m i::e) a) K Z
 |_=>.st
section
theorem ZN{c:Nat}{g:Fn}{C0 fI:Addr}{kk:Nat}{vs:List V}{ts:List T}{Q:VK}(C:Ck D W Γ X k)(ad:D.cad c=some C0)(M:Mk X.K C0 fI)(F:FnOk X.prog X.w X.K X.mg X.base (CX1 X.prog X.w) kk fI fd ps (spN D ps.length g))
  (hr:Room (kk+1) X.A) (hb:Binds X.K fd ps ds) (P:∀ts μ K Z,g ts μ K Z->ts.length=ps.length) (I:Inv X z B H s) (r:Vals vs (j++ds)) (U:MRel D φ α H μ) (d:DenL D φ α H ts vs) (p:Post D W φ α H B (RV D φ Q) (Zd c g ts μ)) :
  z5V (z5X X.prog X.w) X.A (call (.ref C0) j) (EP X z B Q) X.xe s:=by
 obtain⟨K,Z,hg,hk,hz⟩:=p;have N:=P _ _ _ _ hg;have hq:∀x a,H x=none->H a=none->a≠x->spN D ps.length g (.ref x::vs) (upd (upd H a (.own x)) x (.ins C0 a [])) (λv H2=>v=.n/\Q (.ref x) H2) (λc d l=>W c d B l):=by
  intro x a hx O J;have n:jv H (upd H a (.own x)):=zh O;have o:upd H a (.own x) x=none:=(z4 (z6f J))▸hx;have i:Stp α H (α++[x]) (upd (upd H a (.own x)) x (.ins C0 a [])):=(Stp.new n).trans (vb o);have G:MRel D φ (α++[x]) (upd (upd H a (.own x)) x (.ins C0 a [])) (μ++[.obj c []]):=(U.new n).layO o ⟨C0,a,[],ad,z0,rfl⟩;have f:(α++[x])[μ.length]?=some x:=by rw[<-U.len,z5_ (z5K _)];simp
  refine⟨by simp only[z6l] at N ⊢;rw[<-d.length];exact N,φ,α++[x],.m μ.length::ts,μ++[.obj c []],⟨.ref x,vs,rfl,⟨x,f,rfl⟩,d.step i⟩,G,_,_,hg,?_,?_⟩
  .rintro t E ⟨rfl,q⟩ h S st m v dv;refine⟨dv,?_⟩;obtain⟨β,e,_⟩:=st.ext;refine hk _ _ q h S (i.trans st) m _ ⟨x,?_,rfl⟩;rw[e,z5N (z5C.mp f).1];exact f
  .rintro e fs E q h S C1 d1 st m R xd;exact hz _ _ _ q h S C1 d1 (i.trans st) m R xd
 have y:=Inv.made (C:=C0) I;have r2:Vals (V.ref (s.heap.objs.size+1)::vs) (z6u (s.heap.objs.size+1)::j++ds):=.cons rfl r;have L:(z6u (s.heap.objs.size+1)::j++ds).length=ps.length:=by
  rw[z8n,z6l,<-r.length,<-d.length];exact N
 refine z8C (Wb I.kIn M.makes M.init (beq_iff_eq.mp M.fn) (z7B (F.run _ X.stack _ _ ⟨z6u (s.heap.objs.size+1)::j,[]⟩ (z6u (s.heap.objs.size+1)::j++ds) _ _ (λc d l=>W c d B l) (hr.make C0 j [])
  (y.env0.make C0 j []) (by simpa using hb _ (z6u (s.heap.objs.size+1)::j) y.kIn L) r2 (hq (s.heap.objs.size+1) s.heap.objs.size (I.hok.fresh (z8g _)) (I.hok.fresh (z5K _)) (z6b (z77 _)))) λr Y b=>?_))
 cases r with
 |error e=>exact C.xe e Y (xy y b λcls d l w=>w)
 |ok fl=>
  cases fl with
  |ret u=>
   obtain⟨v,l,I3,rv,ev,q3⟩:=y.after b;subst ev;exact⟨rv,⟨V.ref (s.heap.objs.size+1),l,I3,rfl,q3⟩⟩
  |next=>exact z6s b
  |brk=>exact z6s b
  |cont=>exact z6s b
theorem Kn(C:Ck D W j X k){c:Nat}{g:Fn}(d:x∈j.G)(hg:j.gl x=.mk c false g)(hc:j.calm=true)(i:EsOk X D W es fs):PE X (.Call (.Name x p0) es [] pos) (rdE D W (uo c g fs)):=by
 have q:=C.glo x d;rw[hg] at q;obtain⟨C0,U,fd,S,T,ad,B,M,o,h,Fn,a⟩:=q;have n:=(C.rom hc).mono h;have hs:=i.stars;rintro l s K H Q I ⟨F,N,J,L,y,m,p⟩;refine z6F (qL I (C.glb x d) B ?_ (C.dbG x d));cases es with
 |nil=>
  cases fs with
  |nil=>exact z8r I.kIn M.kp (ZN (ts:=[]) C ad M Fn n o a I .nil m rfl p)
  |cons f fs=>exact i.elim
 |cons e es=>
  simp only[z7o,z5P] at hs;refine z7r I.ok.mod.kin M.kp (thn (KD (wD i) I y m p) ?_) (z6 hs.1) (qA hs.2);rintro P R ⟨O,V,ts,t,u,r,z,v,w,b,E,_,A⟩;exact⟨r.kIn,ZN C ad M Fn n o a r (by rw[z6S];exact z) b E A⟩
noncomputable def til(m:Str):Str:=⟨#[126]++m.cps⟩
noncomputable abbrev z2l(c:Nat)(g:Fn)(fs:List De):De:=λb d=>(evs fs b d).bind λe a=>Zd c g (e++[.n]) a
theorem Xh(C:Ck D W j X k){c:Nat}{g:Fn}(i:x∈j.G)(F:til x∈j.U)(hg:j.gl (til x)=.mkd c x n g)(hc:j.calm=true)(l:EsOk X D W (a::es) fs):PE X (.Call (.Name x p0) (a::es) [] pos) (rdE D W (z2l c g fs)):=by
 have q:=(C.glU _ F).1;rw[hg] at q;obtain⟨C0,fI,fd,ps,kk,ad,B,M,E,e,Fn,f⟩:=q;have hs:=l.stars;rintro h s O H Q I ⟨o,R,N,P,v,A,p⟩;refine z6F (qL I (C.glb x i) B ?_ (C.dbG x i));simp only[z7o,z5P] at hs;refine z7r I.ok.mod.kin M.kp (thn (KD (wD l) I v A p) ?_) (z6 hs.1) (qA hs.2);rintro Y s1 ⟨S,L,Z,r,b,m,y,t,u,d,K,_,z⟩;have w:Vals [V.n] [z8T]:=.cons rfl .nil;have J:DenL D o b L [T.n] [V.n]:=⟨.n,[],rfl,rfl,rfl⟩;exact⟨m.kIn,ZN C ad M Fn ((C.rom hc).mono e) E f m (y.append w) d (DenL.append K J) z⟩
theorem xU(hf:∀i,D.fn i≠some nm):∀{fs:List (Nat×T)} {a:List (Str×V)},DenF D φ α H fs a->a.lookup nm=none
 |[],_,h=>by subst h;rfl
 |p::r,_,h=>by
  obtain⟨x,v,q,e,rfl,_,l⟩:=h;rw[z6v];have:(nm==x)=false:=by
   apply beq_false_of_ne;intro z;exact hf p.1 (z▸e)
  rw[this];exact xU hf l
theorem XH (hs : es.all noStar = true) (b : es.length < 30) : ((z8e pos (z6H es env)).all (fun x => !x.1) && (z90 pos (z7Z [] env)).all (fun x => x.1.isSome)
      &&decide (es.length+([]:List za2).length+(if ([]:List za2).isEmpty then 0 else 1)<30))=true:=by
  have d:(z8e pos (z6H es env)).all (λx=>!x.1)=true:=by
    rw[z6n];intro x a;have:=z9A.mp (qA (env:=env) (pos:=pos) hs) x a;simpa using this
  rw[d];have c:(z90 pos (z7Z [] env)).all (λx=>x.1.isSome)=true:=rfl;rw[c];simpa using b
theorem Ub(C:Ck D W Γ X k){x m:Str}{c:Nat}{g:Fn}(hU:x∈Γ.U)(hg:Γ.gl x=.met c m g)(hc:Γ.calm=true)(hp:qo o=true)(r:(j.endLine==pos.line)=true)(hl:es.length<30)(ho:PE X o (rdE D W go))(ha:EsOk X D W es fs) :
  PE X (.Call (.Attribute o m j) es [] pos) (rdE D W (zt c g go fs)):=by
 have q:=(C.glU x hU).1;rw[hg] at q;obtain⟨C0,fI,fd,ps,kk,ad,cl,M,K,hb,hkk,Fn,L⟩:=q;have hr:=(C.rom hc).mono hkk;have hs:=ha.stars;rintro G s σ H Q I ⟨Z,α,τ,μ,sr,mr,p⟩;rw[arm_eval_Call,qB hp];refine z5D (thn (sub ho I sr mr p) ?_);rintro u s1 ⟨v,Y,t,μ1,h,P,r1,st1,sr1,n,S,p1⟩;refine z5D (z6R ?_);have y:methodCallForm (es.length+([]).length) (z8e pos (z6H es X.env)) (z90 pos (z7Z [] X.env))=true:=XH hs hl;have J:z8y true o X.env j pos=pure pos:=by unfold z8y;simp[r]
 have go:∀{b R:Addr} {N:List (Str×V)} {F:T},Y b=some (.ins C0 R N)->N.lookup m=none->u=.ref b->(∀d B,Stp h Y d B->Den D Z d B F (.ref b))->Post D W Z h Y σ (RV D Z Q) ((evs fs τ μ1).bind λts E=>g (F::ts) E)->
   z5V (z5X X.prog X.w) X.A (zb0 o m j pos X.env u (es.length+([]).length) (z8e pos (z6H es X.env)) (z90 pos (z7Z [] X.env))) (EP X G σ Q) X.xe s1:=λ{b R N F} O lk hu hd z=>by
  subst hu;unfold zb0;rw[y];refine z5D (z6p (Wo P O cl M lk (z5D (z9D J ?_))));have d0:=hd h Y (Stp.refl _ _);cases es with
  |nil=>
   cases fs with
   |nil=>exact z8r P.kIn M.kp (xw (ts:=[F]) (vs:=[.ref b]) C Fn hr hb L P (.cons rfl .nil) n ⟨_,_,rfl,d0,rfl⟩ z)
   |cons f fs=>exact ha.elim
  |cons e es=>
   simp only[z7o,z5P] at hs;refine z7r P.ok.mod.kin M.kp (thn (KD (wD ha) P sr1 n z) ?_) (z6 hs.1) (qA hs.2);rintro us s2 ⟨vs,B,ts,E,d,I2,r2,st2,sr2,mr2,d2,_,p3⟩;exact⟨I2.kIn,xw (ts:=F::ts) (vs:=.ref b::vs) C Fn hr hb L I2 (.cons rfl r2) mr2 ⟨_,_,rfl,hd d B st2,d2⟩ p3⟩
 cases t with
 |obj c' gf=>
  obtain⟨hcc,z⟩:=Post.grd p1;subst hcc;obtain⟨b,C1,R,N,rfl,n1,n2,a,O,l⟩:=id S;rw[ad] at a;(replace a:=zm a;subst a);exact go O (xU K l) r1 (λd B st=>S.step st) z
 | m i=>
  obtain⟨gf,hi,z⟩:=Post.ex1 p1;obtain⟨b,hi',rfl⟩:=id S;obtain⟨C1,R,N,a,O,l⟩:=n.ob i b _ hi' hi;rw[ad] at a;(replace a:=zm a;subst a);exact go O (xU K l) r1 (λd B st=>S.step st) z
 |_=>exact Post.elim p1
end
noncomputable def z0I (K:z5M)(a:Addr)(n:Nat):It:=⟨λi H=>∃xs x,SqL K H a xs/\xs.length=n/\i<n/\xs[n-1-i]?=some x,λi H x b=>b=H/\∀xs,SqL K H a xs->xs[n-1-i]?=some x,λi _=>i=n⟩
theorem XB{P:z6t}{K:z5M}(a it:Addr)(n:Nat):Turn P w K tg (z0I K a n) [it] it (λi h=>h.IsRevIter it a ((n:Int)-1-(i:Int))) where
 mem:=by simp
 obj:=λi h st b f=>by
  have e:b=it:=by simpa using f
  subst e;obtain⟨o,e,c,d⟩:=st;exact⟨o,e,λv z=>by rw[d] at z;injection z⟩
 keep:=λi h J st k=>st.at λo e=>k it sC o e
 item:=by
  intro X m hw q G i j s L H E I l st hg;subst m hw q;obtain⟨xs,x,F,hn,hi,D⟩:=hg;obtain⟨Q,N,p,Z⟩:=I.list F;obtain⟨u,S,O⟩:=N.get D;obtain⟨B,A,T,y,t,r⟩:=l it sC;have C:n-1-i=((n-1-i:Nat):Int):=by lia
  have U:n-1-(i+1:Nat)=((n-1-i:Nat):Int)-1:=by lia
  rw[C] at st;refine wpAny_pyNext_rev_item st p.isList (by simpa using S) λJ g M=>?_;have V:=I.turned (t':=s.toks) (λb o f e=>(M.2 b f).trans e) B A y t r;obtain⟨o,e,c,d⟩:=id g;exact⟨u,rfl,y7 e c d dC ⟨x,H,V,O,⟨rfl,λY R=>I.list_inj R F▸D⟩,U▸g,λb f=>(l b f).1⟩⟩
 done:=by
  intro X m hw q G i j s L H E I l st hg;subst m hw q;obtain⟨B,A,T,y,t,r⟩:=l it sC;subst hg;have C:i-1-(i:Int) = -1:=by lia
  rw[C] at st;exact wpAny_pyNext_rev_end (I.ok.hd G) st λJ eb=>⟨rfl,I.turned (λb o f e=>eb b o f e) B A y t r⟩
 self:=λ_ _ _ _ _ st h=>zaz st h
noncomputable abbrev z3G(t:T)(μ:Mem):RI:=match t with
 |.l xs=>.ok xs.reverse lvT μ
 |.m i=>λK _=>∃xs,μ[i]?=some (.l xs)/\K xs.reverse (lvM i xs) μ
 |_=>.st
noncomputable abbrev z2x(f:De):Di:=λa b=>(f a b).it z3G
section
theorem Va{K:z5M}{ad:Addr}:ItV D (z0I K ad xs.length) (λφ α H=>∃vs,Rd H ad (.l vs)/\DenL D φ α H xs vs) xs.reverse:=
 ⟨λi φ α H ⟨vs,ok,l⟩ a=>by
  have f:=l.length;have a:i<xs.length:=by simpa using a
  exact⟨vs,vs[xs.length-1-i]'(by omega),.inl ok,by omega,a,sC⟩,λi φ α H v g t ⟨vs,ok,l⟩ a y=>by
  obtain⟨rfl,y⟩:=y;have c:i<xs.length:=by
   have:=(z5C.mp a).1;simpa using this
  rw[List.getElem?_reverse c] at a;obtain⟨x,b,d⟩:=l.get a;have e:=y vs (.inl ok);rw[e] at b;(replace b:=zm b;subst b);exact⟨λ_ _ z=>z,d⟩,λφ α H _=>by show _=_;simp⟩
theorem z0Y (C:Ck D W Γ X k) (hx:("reversed":Str)∈Γ.G) (hg:Γ.gl "reversed"=.none) (hs:noStar a=true) (ha:PE X a (rdE D W f)) :
  PI X tg (.Call (.Name "reversed" p0) [a] [] pos) (rdI D W (z2x f)):=by
 have hm:=C.glo _ hx;rw[hg] at hm;rintro x s P H R I ⟨y,α,τ,μ,sr,mr,p⟩;refine z6F (wG I (C.glb _ hx) hm (show z6W "reversed"=some (.type "reversed") by decide +kernel) ?_ dC (C.dbG _ hx));refine z6T (thn (zI ha qr (z6 hs) pos x s P H (λn i=>∃v t z c,n=[v]/\Stp α H c i/\MRel D y c i z/\Den D y c i t v/\Post D W y c i P (λp g h L=>∀J Ok,ItV D J Ok p.1->OkI D y h L p.1 p.2 Ok->p.2 g->R J L) (z3G t z).re) I ⟨y,α,τ,μ,sr,mr,p.bind.mono λt g h L st m q v d=>⟨v,t,g,h,rfl,st,m,d,q⟩⟩) ?_) (z6 hs) rfl;rintro us r ⟨n,i,N,rv,v,t,z,c,rfl,st,m,d,q⟩;obtain⟨u,rfl,r1⟩:=vals1 rv;have fin:∀{ad:Addr} {n:List V} {xs:List T} {lv:Mem->Prop},u=.ref ad->Rd i ad (.l n)->DenL D y c i xs n->R (z0I X.K ad xs.length) i->z5V (z5X X.prog X.w) X.A (call (.type "reversed") [u]) (λv r=>z5V (z5X X.prog X.w) X.A (zc5 v) (PIE X x P tg R) X.xe r) X.xe r:=λ{ad n xs lv} hu q l hR=>by
  subst hu;obtain⟨B,S,pl,hz⟩:=N.list (.inl q);have F:B.toArray.size=xs.length:=by simp[<-S.length,l.length]
  refine call_reversed_list pl.isList ?_;have hr:({r with heap:=r.heap.push (revObj ad ((B.toArray.size:Int)-1))}).heap.IsRevIter r.heap.objs.size ad (xs.length-1-(0:Nat)):=⟨_,z6a _ rfl,rfl,by rw[<-F];simp[revObj]⟩;refine zaz hr ⟨r.heap.objs.size,[r.heap.objs.size],_,_,i,rfl,N.kept λb o e=>z5I _ e,XB ad _ xs.length,hr,λb hb=>?_,hR⟩;have e:b=r.heap.objs.size:=by simpa using hb
  subst e;exact N.fpOk (z5K _) (N.hok.fresh (z5K _))
 cases t with
 |l ts=>
  obtain⟨ad,n,rfl,n1,n2,M,l⟩:=d;refine fin (lv:=lvT) r1 M l (q.ok (Stp.refl _ _) m _ _ Va (λO h L g lk _ _=>?_) trivial);obtain⟨a',Q,e,_,_,U,Z⟩:=Den.lk lk (show Den D y c i (.l ts) (.ref ad) from ⟨ad,n,rfl,n1,n2,M,l⟩);(injection e with e;subst e);exact⟨Q,U,Z⟩
 | m j=>
  obtain⟨ad,hj,rfl⟩:=d;have Y:=q;obtain⟨xs,E,Y⟩:=Y.ex1;obtain⟨n,M,l⟩:=m.ob j ad _ hj E;refine fin (lv:=lvM j xs) r1 (.inl M) l (Y.ok (Stp.refl _ _) m _ _ Va (λO h L g lk mm hl=>?_) E);obtain⟨Q,U,Z⟩:=mm.ob j ad _ (lk.st j ad hj) hl;exact⟨Q,.inl U,Z⟩
 |_=>exact Post.elim q
end
theorem z0q{K:z5M}(hc:chk K A cls fld=true)(h:A.cs.lookup c=some C):Cls K C:=by
 simp only[chk,z5P,z6n] at hc;obtain⟨⟨⟨l,k⟩,g⟩,j⟩:=hc;have a:=(g _ (qg h)).1;simp only[Kv,z5P] at a;obtain⟨⟨⟨⟨i,f⟩,e⟩,d⟩,b⟩:=a;exact⟨f,e,d,u3 b⟩
noncomputable def z4G:(g:GM)->Option {q:Nat×Fn // g=.mk q.1 false q.2}
 |.mk c false g=>some ⟨(c,g),rfl⟩
 |_=>none
noncomputable def z4J:ER:=λr a e=>(yE e).bind λq=>(z4G (a.look q.x)).bind λw=>(wO (r.e a) q.as).bind λfs=>gd (a.calm&&noS fs) λh=>some ⟨.Call (.Name q.x q.p0) (ysE fs) [] q.pc,uo w.1.1 w.1.2 (dsE fs),λC=>Kn C (qi w.2 nofun).1 (qi w.2 nofun).2 (zB h).1 (Zh C (zB h).2)⟩
noncomputable def z5j (x:Str):(g:GM)->Option {q:Nat×Nat×Fn // g=.mkd q.1 x q.2.1 q.2.2}
 |.mkd c nm n g=>if h:nm=x then some ⟨(c,n,g),by rw[h]⟩ else none
 |_=>none
noncomputable def z4N:ER:=λr a e=>(yE e).bind λq=>(z5j q.x (a.gl (til q.x))).bind λw=>(wO (r.e a) q.as).bind λfs=>match fs with
 |[]=>none
 |f::fs=>gd (a.G.contains q.x&&a.U.contains (til q.x)) λb=>gd (a.calm&&noS (f::fs)) λh=>gd (decide (fs.length+1=w.1.2.1)) λ_=>some ⟨.Call (.Name q.x q.p0) (ysE (f::fs)) [] q.pc,z2l w.1.1 w.1.2.2 (dsE (f::fs)),λC=>Xh C (z6j.mp (zB b).1) (z6j.mp (zB b).2) w.2 (zB h).1 (Zh C (zB h).2)⟩
noncomputable def dot(m:Str):Str:=⟨#[46]++m.cps⟩
noncomputable def z4_:(g:GM)->Option {q:Nat×Str×Fn // g=.met q.1 q.2.1 q.2.2}
 |.met c nm g=>some ⟨(c,nm,g),rfl⟩
 |_=>none
noncomputable def z5k (r:Rec)(a:Cn)(ky:Str)(q:McP):Option (EB a):=(z4_ (a.gl ky)).bind λw=>gd (w.1.2.1==q.m&&q.pa.endLine==q.pc.line) λg=>(r.e a q.o).bind λo=>(wO (r.e a) q.as).bind λfs=>gd (qo o.y&&noS fs) λc=>gd (a.calm&&decide ((ysE fs).length<30)) λb=>gd (a.U.contains ky) λf=>
 some ⟨.Call (.Attribute o.y w.1.2.1 q.pa) (ysE fs) [] q.pc,zt w.1.1 w.1.2.2 o.d (dsE fs),λC=>Ub C (by simpa using f) w.2 (zB b).1 (zB c).1 (zB g).2 (of_decide_eq_true (zB b).2) (o.ok C) (Zh C (zB c).2)⟩
noncomputable def z4C:ER:=λr a e=>(VN e).bind λq=>z5k r a (dot q.m) q
noncomputable def rI1 (nm:Str)(c:De->Di)(H:∀{D:DP} {X:Cx} {W:XW} {b:Cn} {k:Nat} {a tg:Expr} {f:De} {p0 pos:Pos},Ck D W b X k->JL tg (.Call (.Name nm p0) [a] [] pos)=true->nm∈b.G->b.gl nm=.none->noStar a=true->PE X a (rdE D W f)->PI X tg (.Call (.Name nm p0) [a] [] pos) (rdI D W (c f))):IR:=λr b e=>
 (yE e).bind λq=>(QU q.as).bind λa=>gd (ZZ b nm q.x) λh=>(r.e b a).bind λf=>gd (noStar f.y) λhs=>some ⟨.Call (.Name nm q.p0) [f.y] [] q.pc,c f.d,λC g=>H C g (qb h).1 (qb h).2 hs (f.ok C)⟩
noncomputable def z3Y:IR:=rI1 "reversed" z2x λC _ a hg hs b=>z0Y C a hg hs b
section
theorem vh(I:Inv X j B H s)(a:XOk X H x)(l:∀p∈j,p.1≠x)(k:ObjOk X.prog X.w (upd H x o) s.heap x o):Inv X j B (upd H x o) s:=by
 have ne:∀b,H b≠none->b≠x:=λb h z=>h (z▸a.free);refine⟨I.ok,I.os,I.bare,⟨I.base.keep,I.base.slot,λb o e n f=>?_,I.base.there,λb xs e=>?_,λb o u e=>?_,λb i e=>?_⟩,I.loc,I.cell,?_,λy c e=>?_,λp g=>?_,λb ob e=>?_,I.len⟩
 .have:b≠x:=λz=>by
   rcases a.new with q|q
   .exact f (z▸q)
   .rw[<-z,e] at q;exact vD q
  rw[z4 this];exact I.base.free b o e n f
 .have q:=I.base.tups b xs e;rw[z4 (ne b (by rw[q];simp))];exact q
 .have q:=I.base.frzs b o u e;rw[z4 (ne b (by rw[q];simp))];exact q
 .obtain⟨d,q⟩:=I.base.tbls b i e;exact⟨d,(z4 (ne b (by rw[q];simp)))▸q⟩
 .rw[z4 (z6f a.loc)];exact I.free
 .rw[z4 (a.cel y c e)];exact I.freeC y c e
 .obtain⟨e,n,r⟩:=I.pin p g;have:=(z5L.mp g).elim (a.pin p) (l p);exact⟨e,z4 this▸n,r⟩
 .by_cases z:b=x
  .subst z;rw[z0] at e;(replace e:=zm e;subst e);exact k
  .rw[z4 z] at e;exact (I.hok b ob e).stay (λ_ _ _ q=>q) (λc q=>by
    by_cases w:c=x
    .rw[w,a.free] at q;exact z7 q
    .rw[z4 w];exact q) λc _ q=>by
    by_cases w:c=x
    .rw[w,a.free] at q;exact z7 q
    .rw[z4 w];exact q
theorem yC(f:ZL X j H b):XOk X H b/\∀p∈j,p.1≠b:=
 ⟨⟨f.1,f.2.1,f.2.2.1,f.2.2.2.1.imp id λh=>z6M h,f.2.2.2.2.1,λp a=>f.2.2.2.2.2 p (z65 _ a)⟩,λp a=>f.2.2.2.2.2 p (z5R _ a)⟩
end
noncomputable def z1I (K:z5M)(a:Addr):It:=⟨λi H=>∃xs x,SqL K H a xs/\xs[i]?=some x,λi H v b=>∃p x,H p=none/\b=upd H p (.t [.int i,x])/\v=.ref p/\∀xs,SqL K H a xs->xs[i]?=some x,λi H=>∃xs,SqL K H a xs/\xs.length<=i⟩
theorem JP{P:z6t}{K:z5M}(a e it:Addr)(r:e≠it):Turn P w K (.Tuple elts x1 tp) (z1I K a) [e,it] e (λi h=>(∃j,IsEnum h e it (i:Nat) j)/\h.IsListIter it a i) where
 mem:=by simp
 obj:=λi h st b c=>by
  obtain⟨⟨j,d⟩,o,D,M,hd⟩:=st;have:b=e\/b=it:=by simpa using c
  rcases this with rfl|rfl
  .exact⟨_,d,λv z=>by cases z⟩
  .exact⟨o,D,λv z=>by rw[hd] at z;injection z⟩
 keep:=λi h h' st k=>⟨let ⟨j,d⟩:=st.1;⟨j,k e sC _ d⟩,st.2.at λo q=>k it sC o q⟩
 item:=by
  intro X N hw O M i g s R H E I y st hg;subst N hw O;obtain⟨⟨j,d⟩,f⟩:=st;obtain⟨xs,x,t,C⟩:=hg;obtain⟨B,A,p,hz⟩:=I.list t;obtain⟨u,hu,Z⟩:=A.get C;have Y:=yC (y e sC);have V:=yC (y it sC);have n:=z5U d;have G:it<s.heap.objs.size:=by obtain⟨o,D,_⟩:=f;exact z5U D
  refine wpAny_pyNext_enum_item d f p.isList (by simpa using hu) r λh1 J m ht hz1 F=>?_;refine⟨_,rfl,wpAny_letOwnedTupleGo_enum J λQ L l=>?_⟩;have S:∀b o,b≠e->b≠it->s.heap.get? b=some o->Q.get? b=some o:=λb o U h4 q=>(l.2 b U).trans (F b o U h4 q);have I1:=yk (ch:=[e,it]) I (λb c=>by
   have:b=e\/b=it:=by simpa using c
   rcases this with rfl|rfl
   .exact Y
   .exact V) (λb o _ c q=>S b o (λz=>c (by simp[z])) (λz=>c (by simp[z])) q) λb o _ c q=>⟨o.slots,S b o (λz=>c (by simp[z])) (λz=>c (by simp[z])) q⟩
  have I2:Inv X g R H {s with heap:=Q,toks:=s.toks+1}:=I1.tok _;have T:=I.hok.fresh (z5K _);have fn:=yC (I.fpOk (z5K _) T);have I3:=vh I2 fn.1 fn.2 (show ObjOk X.prog X.w _ Q _ (.t [.int i,x]) from ⟨by rw[z6y];simp,[.int i s.toks,u],.cons ⟨_,rfl⟩ (.cons Z .nil),⟨_,((l.2 _ (z7l n)).trans ht),rfl,_,rfl⟩⟩);refine⟨.ref s.heap.objs.size,_,I3,rfl,⟨s.heap.objs.size,x,T,rfl,rfl,λys hy=>I.list_inj hy t▸C⟩,⟨⟨u,L⟩,m.at λo q=>(l.2 it (z6f r)).trans q⟩,λb c=>?_⟩;have:b=e\/b=it:=by simpa using c
  rcases this with rfl|rfl
  .rw[z4 (z6b n)];exact Y.1.free
  .rw[z4 (z6b G)];exact V.1.free
 done:=by
  intro X N hw O M i g s R H E I y st hg;subst N hw O;obtain⟨⟨j,d⟩,f⟩:=st;obtain⟨xs,t,C⟩:=hg;obtain⟨B,A,p,hz⟩:=I.list t;obtain⟨f0,f1,f2,f3,f4,f5⟩:=y it sC;have hl:=A.length;exact wpAny_pyNext_enum_end (I.ok.hd M) d f p.isList (by simp;lia) λh' eb=>⟨rfl,I.turned (λb o c e=>eb b o c e) f0 f1 f3 f4 f5⟩
 self:=λ_ _ _ _ _ st h=>let ⟨⟨j,d⟩,_⟩:=st;zbk d h
noncomputable def k_:Int->List T->List T
 |_,[]=>[]
 |i,x::r=>.t [.int i,x]::k_ (i+1) r
theorem j5:∀{xs:List T} {i:Int},(k_ i xs).length=xs.length
 |[],_=>rfl
 |x::r,i=>by simp[k_,j5]
theorem kG:∀{xs:List T} {k:Int} {i:Nat} {t:T},(k_ k xs)[i]?=some t->∃x,xs[i]?=some x/\t=.t [.int (k+i),x]
 |[],_,_,_,h=>by simp[k_] at h
 |x::r,k,0,t,h=>by
  (replace h:=zm h;subst h);exact⟨x,rfl,sC⟩
 |x::r,k,i+1,t,h=>by
  obtain⟨y,a,e⟩:=kG (i:=i) h;refine⟨y,a,?_⟩;rw[e,show k+(i+1:Nat)=k+1+i by lia]
noncomputable abbrev z03(t:T)(μ:Mem):RI:=match t with
 |.l xs=>.ok (k_ 0 xs) lvT μ
 |.m i=>λK _=>∃xs,μ[i]?=some (.l xs)/\K (k_ 0 xs) (lvM i xs) μ
 |_=>.st
noncomputable abbrev KP(f:De):Di:=λa b=>(f a b).it z03
section
theorem QN{K:z5M}{ad:Addr}:ItV D (z1I K ad) (λφ α H=>(∃vs,Rd H ad (.l vs)/\DenL D φ α H xs vs)/\(∀p,H p=none->p∉φ/\p∉α)) (k_ 0 xs):=
 ⟨λi φ α H ⟨⟨vs,ok,l⟩,_⟩ b=>by
  have b:i<vs.length:=l.length▸j5▸b;exact⟨vs,vs[i],.inl ok,sC⟩,λi φ α H v k t ⟨⟨vs,ok,l⟩,g⟩ b y=>by
  obtain⟨p,z,c,rfl,rfl,h⟩:=y;obtain⟨x,j,rfl⟩:=kG b;obtain⟨v,a,d⟩:=l.get j;have e:=h vs (.inl ok);rw[e] at a;(replace a:=zm a;subst a);have f:jv H (upd H p (.t [.int i,z])):=zh c;refine⟨f,p,_,rfl,(g p c).1,(g p c).2,.inl z0,_,_,rfl,?_,_,_,rfl,d.step (Stp.new f),rfl⟩;show V.int _=V.int _;simp,λφ α H ⟨⟨vs,ok,l⟩,_⟩=>⟨vs,.inl ok,by rw[j5,l.length];exact z5K _⟩⟩
theorem YD (C:Ck D W Γ X k) (Z:("enumerate":Str)∈Γ.G) (hg:Γ.gl "enumerate"=.none) (hs:noStar a=true) (ha:PE X a (rdE D W f)) :
  PI X (.Tuple M x1 tp) (.Call (.Name "enumerate" p0) [a] [] pos) (rdI D W (KP f)):=by
 have hm:=C.glo _ Z;rw[hg] at hm;rintro r s P H R I ⟨x,α,τ,μ,sr,mr,p⟩;refine z6F (wG I (C.glb _ Z) hm (show z6W "enumerate"=some (.type "enumerate") by decide +kernel) ?_ dC (C.dbG _ Z));refine z6T (thn (zI ha qr (z6 hs) pos r s P H (λn i=>∃v t y c,n=[v]/\Stp α H c i/\MRel D x c i y/\Den D x c i t v/\Post D W x c i P (λp g h L=>∀J Ok,ItV D J Ok p.1->OkI D x h L p.1 p.2 Ok->p.2 g->R J L) (z03 t y).re) I ⟨x,α,τ,μ,sr,mr,p.bind.mono λt g h L st m q v d=>⟨v,t,g,h,rfl,st,m,d,q⟩⟩) ?_) (z6 hs) rfl;rintro us o ⟨n,i,B,rv,v,t,y,c,rfl,st,m,d,q⟩;obtain⟨u,rfl,r1⟩:=vals1 rv;have fin:∀{ad:Addr} {n:List V} {xs:List T},u=.ref ad->Rd i ad (.l n)->DenL D x c i xs n->R (z1I X.K ad) i->z5V (z5X X.prog X.w) X.A (call (.type "enumerate") [u]) (λv o=>z5V (z5X X.prog X.w) X.A (zc5 v) (PIE X r P (.Tuple M x1 tp) R) X.xe o) X.xe o:=λ{ad n xs} hu q l hR=>by
  subst hu;obtain⟨its,rv2,pl,hz⟩:=B.list (.inl q);refine call_enumerate_list pl.isList λh' he hi hz' kp=>zbk he ⟨o.heap.objs.size+1,[o.heap.objs.size+1,o.heap.objs.size],_,_,i,rfl,B.kept kp,JP ad _ _ (Nat.succ_ne_self _),⟨⟨_,he⟩,hi⟩,λb hb=>?_,hR⟩;have:b=o.heap.objs.size+1\/b=o.heap.objs.size:=by simpa using hb
  rcases this with rfl|rfl
  .exact B.fpOk (z8g _) (B.hok.fresh (z8g _))
  .exact B.fpOk (z5K _) (B.hok.fresh (z5K _))
 cases t with
 |l ts=>
  obtain⟨ad,n,rfl,n1,n2,N,l⟩:=d;refine fin r1 N l (q.ok (Stp.refl _ _) m _ _ QN (λO h L g lk z _=>⟨?_,λp F=>⟨zo z F,zp z F⟩⟩) trivial);obtain⟨a',Q,e,_,_,S,Y⟩:=Den.lk lk (show Den D x c i (.l ts) (.ref ad) from ⟨ad,n,rfl,n1,n2,N,l⟩);(injection e with e;subst e);exact⟨Q,S,Y⟩
 | m j=>
  obtain⟨ad,hj,rfl⟩:=d;have U:=q;obtain⟨xs,E,U⟩:=U.ex1;obtain⟨n,N,l⟩:=m.ob j ad _ hj E;refine fin r1 (.inl N) l (U.ok (Stp.refl _ _) m _ _ QN (λO h L g lk z hl=>⟨?_,λp F=>⟨zo z F,zp z F⟩⟩) E);obtain⟨Q,S,Y⟩:=z.ob j ad _ (lk.st j ad hj) hl;exact⟨Q,.inl S,Y⟩
 |_=>exact Post.elim q
end
theorem z41 (h:JL tg (.Call (.Name x p0) as u p)=true) (a:(x != ("enumerate":Str)&&x != ("zip":Str))=false):∃j x1 s,tg=.Tuple j x1 s:=by
 have h:((x != ("enumerate")&&x != ("zip")) || YX tg)=true:=h;rw[a] at h;exact Ys h
noncomputable def z1E:IR:=rI1 "enumerate" KP λC c b hg hs d=>by
 obtain⟨a,e,f,rfl⟩:=z41 c (by decide);exact YD C b hg hs d
end NH
namespace L2
open PySem PySem.Spec PyProof.Rows
section
variable {κ:Type}[DecidableEq κ]
noncomputable def jR(a:List (κ×V))(k:κ):Option V:=(a.find? λb=>decide (b.1=k)).map (·.2)
noncomputable def putK(a:List (κ×V))(k:κ)(v:V):List (κ×V):=
 if (a.any λb=>decide (b.1=k))=true then a.map (λb=>if b.1=k then (b.1,v) else b) else a++[(k,v)]
theorem vQ{k:κ}(e:p.1=k):jR (p::r) k=some p.2:=by simp[jR,z98,e]
theorem vM{k:κ}(e:¬p.1=k):jR (p::r) k=jR r k:=by simp[jR,z98,e]
theorem ZV(a:List (κ×V))(k:κ)(v:V):(putK a k v).length<=a.length+1:=by
 unfold putK;split
 .rw[z5H];lia
 .rw[z6k,z6l,z7u];lia
theorem RelO.isSome_eq(r:RelO o u):o.isSome=u.isSome:=by
 cases o with
 |none=>cases u with
  |none=>rfl
  |some _=>exact r.elim
 |some _=>cases u with
  |none=>exact r.elim
  |some _=>rfl
theorem RelO.getD(r:RelO o u)(rd:RelV d d'):RelV (o.getD d) (u.getD d'):=by
 cases o with
 |none=>cases u with
  |none=>exact rd
  |some _=>exact r.elim
 |some _=>cases u with
  |none=>exact r.elim
  |some _=>exact r
theorem KV.val(r:KV j vs)(k:κ):RelO (jR j k) (zbl vs k):=by
 induction r with
 |nil=>exact z76
 | @cons p q ps qs h t c=>
  obtain⟨h1,h2⟩:=h;by_cases e:p.1=k
  .have a:=h1.symm.trans e;have b:zbl (q::qs) k=some q.2:=by simp[zbl,z98,a]
   rw[vQ e,b];exact h2
  .have a:¬q.1=k:=λz=>e (h1.trans z);have b:zbl (q::qs) k=zbl qs k:=by simp[zbl,z98,a]
   rw[vM e,b];exact c
theorem KV.any(r:KV j vs)(k:κ):(j.any λkv=>decide (kv.1=k))=vs.any λkv=>decide (kv.1=k):=by
 induction r with
 |nil=>rfl
 |cons h t a=>rw[z7a,z7a,a,h.1]
theorem KV.repl(r:KV j vs)(k:κ)(a:RelV y u) :
  KV (j.map λkv=>if kv.1=k then (kv.1,y) else kv) (vs.map λkv=>if kv.1=k then (kv.1,u) else kv):=by
 induction r with
 |nil=>exact .nil
 | @cons p q ps qs h t b=>
  rw[z6c,z6c];refine .cons ?_ b;obtain⟨h1,h2⟩:=h;by_cases e:p.1=k
  .rw[if_pos e,if_pos (h1.symm.trans e)];exact⟨h1,a⟩
  .rw[if_neg e,if_neg (λz=>e (h1.trans z))];exact⟨h1,h2⟩
theorem KV.put(r:KV j vs)(k:κ)(a:RelV y u):KV (putK j k y) (stored vs k u):=by
 unfold putK stored;rw[r.any k];by_cases e:(vs.any λkv=>decide (kv.1=k))=true
 .rw[if_pos e,if_pos e];exact r.repl k a
 .rw[if_neg e,if_neg e];exact Paired.snoc r ⟨rfl,a⟩
theorem KV.keys{a:List (κ×V)}(r:KV a vs):a.map (·.1)=vs.map (·.1):=by
 induction r with
 |nil=>rfl
 |cons h t b=>rw[z6c,z6c,b,h.1]
theorem KV.length{a:List (κ×V)}(r:KV a vs):a.length=vs.length:=zcz r
end
theorem yO{P:z6t}(r:RelV (kV k) u):(zN P w).is k u=true:=by
 cases k with
 |inl i=>obtain⟨t,e⟩:=r;subst e;exact Qc P w i t
 |inr x=>obtain⟨t,e⟩:=r;subst e;exact Qn P w x t
section
theorem z3n(ok:HOk P w H h)(e:Rd H a u):ObjOk P w H h a u:=e.ok ok
noncomputable def RdK (H:Hp)(a:Addr)(b:List (Key×V)):Prop:=Rd H a (.dK b)\/∃c,H a=some (.dE c b)
theorem ve(ok:HOk P w H h)(e:RdK H a j):j.length<=sizeLine/\(a==z7p)=false/\∃vs,KV j vs/\h.DictOf (zN P w) a vs:=by
 rcases e with e|⟨b,e⟩
 .exact show ObjOk P w H h a (.dK j) from z3n ok e
 .obtain⟨z,y,vs,r,d⟩:=(ok a _ e);exact⟨z,y,vs,r,d.dictOf⟩
theorem z3Q(ok:HOk P w H h)(e:Rd H a (.dK j)):j.length<=sizeLine/\(a==z7p)=false/\∃vs,KV j vs/\h.DictOf (zN P w) a vs:=ve ok (.inl e)
theorem z3m(ok:HOk P w H h)(e:H a=some (.dK j)):j.length<=sizeLine/\(a==z7p)=false/\∃vs,KV j vs/\h.DictOf (zN P w) a vs:=z3Q ok (.inl e)
end
noncomputable def DGet (H:Hp)(a:Addr)(y:V)(r:Option V):Prop:=∃b k,RdK H a b/\y=kV k/\r=jR b k
noncomputable def DPut (H:Hp)(a:Addr)(y v:V)(d:Hp):Prop:=∃b k,(H a=some (.dK b)\/∃c,H a=some (.dE c b))/\y=kV k/\b.length<sizeLine/\d=upd H a (.dK (putK b k v))
theorem DGet.k{k:Key}(e:H a=some (.dK j)):DGet H a (kV k) (jR j k):=⟨j,k,.inl (.inl e),rfl,rfl⟩
theorem DPut.k{k:Key}(e:H a=some (.dK j))(b:j.length<sizeLine):DPut H a (kV k) v (upd H a (.dK (putK j k v))):=⟨j,k,.inl e,rfl,b,rfl⟩
section
theorem Inv.big(I:Inv X j u H s):z7p<s.heap.objs.size:=by
 have h:=(I.mod.glob.keeps I.bk).lt;exact zbm dC h
theorem JW(m:A.units+1<cLine)(I:Inv X j D H s)(g:DGet H a y (some v))(c:RelV y u)(h:∀B C,Inv X j D H C->RelV v B->Q B C) :
  z5V (z5X X.prog X.w) A (z9f (.ref a) u) Q E s:=by
 obtain⟨d,k,e,rfl,l⟩:=g;obtain⟨z,hd,i,rel,f⟩:=ve I.hok e;obtain⟨B,hw,b⟩:=RelO.some_of (l▸rel.val k);exact wpAny_getItem_of (yO c) f.mapOf hw (h B _ (I.tok _) b)
theorem z55(i:A.units+1<cLine)(I:Inv X j C H s)(g:DGet H a y o)(b:RelV y u)(h:∀B,Inv X j C H B->Q (.bool o.isSome) B) :
  z5V (z5X X.prog X.w) A (z6I .In u (.ref a)) Q E s:=by
 obtain⟨c,k,e,rfl,l⟩:=g;obtain⟨z,hd,f,rel,d⟩:=ve I.hok e;refine wpAny_in_of (yO b) hd d.mapOf ?_;rw[<-(rel.val k).isSome_eq,<-l];exact h _ (I.tok _)
theorem YR(i:A.units+1<cLine)(I:Inv X j C H s)(g:DGet H a y o)(b:RelV y u)(h:∀B,Inv X j C H B->Q (.bool (!o.isSome)) B) :
  z5V (z5X X.prog X.w) A (z6I .NotIn u (.ref a)) Q E s:=by
 obtain⟨c,k,e,rfl,l⟩:=g;obtain⟨z,hd,f,rel,d⟩:=ve I.hok e;refine wpAny_notIn_of (yO b) hd d.mapOf ?_;rw[<-(rel.val k).isSome_eq,<-l];exact h _ (I.tok _)
theorem Vp(I:Inv X j u H s)(c:Mut (H a))(hs:z6K a s.heap h')(he:∃q,h'.get? a=some q)(new:ObjOk X.prog X.w (upd H a ob) h' a ob) :
  Inv X j u (upd H a ob) {s with heap:=h',toks:=t'}:=
 I.write c (.inl rfl) (λb q d z=>(hs.2 b d).trans z) he new
theorem z1m{P:z6t}(z:j.length<=sizeLine)(hd:(a==z7p)=false)(rel:KV j vs)(dd:h'.DictOf (zN P w) a vs) :
  ObjOk P w s h' a (.dK j):=⟨z,hd,vs,rel,dd⟩
theorem JU(F:A.units+1<cLine)(I:Inv X j C H s)(g:DPut H a y v D)(f:RelV y u)(i:RelV v r)(h:∀B,Inv X j C D B->Q () B) :
  z5V (z5X X.prog X.w) A (setItem (.ref a) u r) Q E s:=by
 obtain⟨b,k,e,rfl,l,rfl⟩:=g;obtain⟨z,hd,d,rel,t⟩:=ve I.hok (e.imp .inl id);have x:d.length<=sizeLine:=rel.length▸z;have n:(putK b k v).length<=sizeLine:=by have:=ZV b k v;lia
 refine wpAny_setItem_pairs (yO f) t λp c hs=>h _ ?_;have o:∃q,p.get? a=some q:=let ⟨q,_,_,m,_⟩:=c;⟨q,m⟩;exact Vp I (by rcases e with e|⟨G,e⟩<;>rw[e]<;>exact z76) hs o (z1m n hd (rel.put k i) c)
theorem z1T(I:Inv X j w H s)(e:H a=some (.dK u)):∃ep,Inv X j w (upd H a (.dE ep u)) s:=by
 obtain⟨z,hd,c,rel,f⟩:=z3m I.hok e;obtain⟨ep,b⟩:=f.dictAt;obtain⟨o,g,d,_⟩:=id b;exact⟨ep,Vp I (e▸z76) ⟨rfl,λ_ _=>rfl⟩ ⟨o,d⟩ ⟨z,hd,c,rel,b⟩⟩
theorem z40(I:Inv X j C H s)(e:RdK H a u)(h:∀t B,Inv X j C H B->Q (.int u.length t) B):z5V (z5X X.prog X.w) A (call (.builtin "len") [.ref a]) Q E s:=by
 obtain⟨z,hd,c,rel,b⟩:=ve I.hok e;refine call_len_dict hd b (by rw[<-rel.length];rw[z6y] at z;lia) ?_;rw[<-rel.length];exact h _ _ (I.tok _)
end
noncomputable def z1g(i:Expr):Prop:=∀a b,zau i false a b=operate [a,b] (z9f a b)
theorem YG{id:String} 
  (e:zca (.type T) "__getitem__"=pure (some (.builtin id))) (hs:z1g j)
  (h:z5V (z5X prog w) A (eval z env) (λo B=>z5V (z5X prog w) A (eval j env) (λi u=>u.TypeIs o T/\z5V (z5X prog w) A (z9f o i) Q E u) E B) E s) :
  z5V (z5X prog w) A (eval (.Subscript z j pos) env) Q E s:=by
 refine zcb (z6r h (λo B d=>z6r d (λi u a=>?_) λ_ _ x=>x) λ_ _ x=>x);obtain⟨f,a⟩:=a;refine z5D ?_;refine z5D (wpAny_specialOf f e ?_);have fin:z5V (z5X prog w) A (zau j false o i) (λr b=>z5V (z5X prog w) A (letTemporaryGo z o r >>= λ_=>pure r) Q E b) E u:=by
  rw[hs o i];exact wpAny_operating (z6r a (λr b c=>z5D (wpAny_letTemporaryGo (z5Q c))) λ_ _ x=>x)
 first
  |exact z5Q (z5D fin)
  |exact z5D (z5Q (z5D fin))
  |exact z5D fin
theorem Q3{X:Cx}{b:St}{H:Hp}{y:V}(I:Inv X j b H s)(g:DGet H a y o):s.TypeIs (.ref a) "dict":=by
 obtain⟨c,k,e,_,_⟩:=g;obtain⟨_,_,f,_,d⟩:=ve I.hok e;exact d.typeIs
noncomputable def z2Y(td ty:TE):TE:=λb H Q=>td b H λx d=>ty b d λy c=>∃a v,x=.ref a/\DGet c a y (some v)/\Q v c
section
theorem Yt(n:X.A.units+1<cLine)(ho:PE X o td)(hi:PE X i ty)(hs:z1g i):PE X (.Subscript o i pos) (z2Y td ty):=by
 intro b s d H Q I h;refine YG PySem.F.slot_dict_getitem.lookup hs (thn (ho b s d H _ I h) λu f ⟨x,t,q,k,m⟩=>thn (hi b f d t _ q m) λC B ⟨y,r,e,j,a,v,ex,g,l⟩=>?_);subst ex;obtain rfl:u=z6u a:=k;exact⟨Q3 e g,JW n e g j λw z p c=>⟨v,r,p,c,l⟩⟩
end
theorem X6{P:z6t}(h:Heap)(a:z7p<h.objs.size):ObjOk P w H (h.push {cls:=.type "dict",data:=.dict #[]}) h.objs.size (.dK []):=
 ⟨z7m _,beq_eq_false_iff_ne.mpr (z6f (z6b a)),[],.nil,zbU h⟩
noncomputable def z2m:TE:=λ_ H Q=>∀p,H p=none->Q (.ref p) (upd H p (.dK []))
section
theorem XN:PE X (.Dict [] [] pos) z2m:=λa s b H Q I h=>
 wpAny_Dict_empty ⟨.ref s.heap.objs.size,_,I.laid (λ_ _ q=>z5I _ q) (z5K _) (X6 s.heap I.big),rfl,h _ (I.hok.fresh (z5K _))⟩
end
structure M1(X:Cx)(o:Expr)(m:Str)(apos:Pos)(e:Expr)(cpos:Pos):Prop where
 base:z83 o m X.env (eval o X.env)=eval o X.env
 few:((z8e cpos (z6H [e] X.env)).all (λx=>!x.1)&&(z90 cpos (z7Z [] X.env)).all (λx=>x.1.isSome)
  &&decide (([e]:List Expr).length+([]:List za2).length+(if ([]:List za2).isEmpty then 0 else 1)<30))=true
 line:(apos.endLine==cpos.line)=true
 trees:z8e cpos (z6H [e] X.env)=[(false,eval e X.env)]
structure M2(X:Cx)(o:Expr)(m:Str)(apos:Pos)(e f:Expr)(cpos:Pos):Prop where
 base:z83 o m X.env (eval o X.env)=eval o X.env
 few:((z8e cpos (z6H [e,f] X.env)).all (λx=>!x.1)&&(z90 cpos (z7Z [] X.env)).all (λx=>x.1.isSome)
  &&decide (([e,f]:List Expr).length+([]:List za2).length+(if ([]:List za2).isEmpty then 0 else 1)<30))=true
 line:(apos.endLine==cpos.line)=true
 trees:z8e cpos (z6H [e,f] X.env)=[(false,eval e X.env),(false,eval f X.env)]
noncomputable def IsD (H:Hp)(a:Addr):Prop:=∃b,RdK H a b
theorem z29{f:St}{H:Hp}(I:Inv X j f H s)(d:IsD H a) :
  s.TypeIs (.ref a) "dict"/\(∀b,z6u a=.ref b->∃ob,s.heap.get? b=some ob/\ob.dict=none)/\(a==z7p)=false:=by
 obtain⟨g,e⟩:=d;obtain⟨_,hd,k,_,c⟩:=ve I.hok e;refine⟨c.typeIs,λb q=>?_,hd⟩;(injection q with q;subst q);obtain⟨ob,_,_,i,h,_⟩:=c;exact⟨ob,i,h.2.1⟩
section
theorem z2A(i:A.units+1<cLine)(I:Inv X j D H s)(g:DGet H a y o)(c:RelV y u)(h:∀B C,Inv X j D H C->RelV (o.getD .n) B->Q B C) :
  z5V (z5X X.prog X.w) A (call (.builtin "dict.get") [.ref a,u]) Q E s:=by
 obtain⟨d,k,e,rfl,l⟩:=g;obtain⟨z,hd,f,rel,b⟩:=ve I.hok e;refine call_meetsIn z88 b.typeIs za6 (z9S _ _) (meets_dict_get (zN X.prog X.w) a (yO c) hd) ⟨_,b.mapOf,h _ _ (I.tok _) ?_⟩;rw[l];exact (rel.val k).getD rfl
end
noncomputable def z1z(td ty:TE):TE:=λb H Q=>td b H λx d=>∃a,x=.ref a/\IsD d a/\ty b d λy c=>∃o,DGet c a y o/\Q (o.getD .n) c
section
theorem Xg (v:X.A.units+1<cLine) (ho:PE X o td) (he:PE X e ty) (m:M1 X o "get" w e j):PE X (.Call (.Attribute o "get" w) [e] [] j) (z1z td ty):=by
 intro b s f H Q I h;refine zbn m.base m.few m.line z9T z88 zaj (thn (ho b s f H _ I h) λu n ⟨x,D,i,q,a,ex,d,t⟩=>?_);subst ex;obtain rfl:u=z6u a:=q;obtain⟨l,k,_⟩:=z29 i d;refine⟨l,k,?_⟩;rw[m.trees];refine z8L rfl (z7A (z9n (thn (he b n f D _ i t) λL J ⟨y,C,B,p,K,g,r⟩=>z9C ?_)));exact z2A v B g p λE G z c=>⟨_,C,z,c,r⟩
end
end L2
namespace NH
open PySem PySem.Spec PyProof.Rows L2
noncomputable def ze(z:Key):List (Key×T)->Option T
 |[]=>none
 |p::r=>if p.1=z then some p.2 else ze z r
noncomputable def wA (z:Key)(t:T)(a:List (Key×T)):List (Key×T):=
 if (a.any λb=>decide (b.1=z))=true then a.map (λb=>if b.1=z then (b.1,t) else b) else a++[(z,t)]
noncomputable abbrev ye:De:=λ_ a=>.ok (.m a.length) (a++[.d []])
noncomputable abbrev z5x:De:=λ_ a=>.ok (.d []) a
noncomputable abbrev KU(o f:De):De:=λd e=>(o d e).bind λg c=>match g with
 |.m i=>λK Z=>(∃a,c[i]?=some (.d a))/\f d c (λh b=>match h with
  |.str z=>∃a,b[i]?=some (.d a)/\K ((ze (.inr z) a).getD .n) b
  |_=>False) Z
 |_=>.st
noncomputable abbrev z5A(o f g:De):De:=λd h=>(o d h).bind λj c=>match j with
 |.m i=>λK Z=>(∃a,c[i]?=some (.l a))/\f d c (λl e=>g d e (λt b=>match l with
  |.int k=>∃a,b[i]?=some (.l a)/\(0<=k/\k<=a.length/\a.length<room)/\K .n (b.set i (.l (a.take k.toNat++t::a.drop k.toNat)))
  |_=>False) Z) Z
 |_=>.st
section
theorem QA:∀{a:List (Key×T)} {b:List (Key×V)},DenK D φ α H a b->(b.any λkv=>decide (kv.1=z))=(a.any λkv=>decide (kv.1=z))
 |[],_,h=>by subst h;rfl
 |p::r,_,h=>by
  obtain⟨v,q,rfl,d,l⟩:=h;rw[z7a,z7a,QA l]
theorem qy:∀{a:List (Key×T)} {b:List (Key×V)},DenK D φ α H a b->b.length=a.length
 |[],_,h=>by subst h;rfl
 |p::r,_,h=>by
  obtain⟨v,q,rfl,d,l⟩:=h;rw[z6l,z6l,qy l]
theorem yt(b:Den D φ α H t w):∀{a:List (Key×T)} {c:List (Key×V)},DenK D φ α H a c->DenK D φ α H (a.map λkv=>if kv.1=z then (kv.1,t) else kv) (c.map λkv=>if kv.1=z then (kv.1,w) else kv)
 |[],_,h=>by subst h;rfl
 |p::r,_,h=>by
  obtain⟨v,q,rfl,d,l⟩:=h;rw[z6c,z6c];by_cases e:p.1=z
  .rw[if_pos e,if_pos e];exact⟨w,_,rfl,b,yt b l⟩
  .rw[if_neg e,if_neg e];exact⟨v,_,rfl,d,yt b l⟩
theorem Z7(c:Den D φ α H t w):∀{a:List (Key×T)} {b:List (Key×V)},DenK D φ α H a b->DenK D φ α H (a++[(z,t)]) (b++[(z,w)])
 |[],_,h=>by subst h;exact⟨w,[],rfl,c,rfl⟩
 |p::r,_,h=>by
  obtain⟨v,q,rfl,d,l⟩:=h;exact⟨v,_,rfl,d,Z7 c l⟩
theorem Qd(a:Den D φ α H t w)(h:DenK D φ α H j s):DenK D φ α H (wA z t j) (putK s z w):=by
 unfold wA putK;rw[QA h];split
 .exact yt a h
 .exact Z7 a h
theorem U5:PE X (.Dict [] [] pos) (rdE D W ye):=by
 refine PE.mono XN ?_;rintro e H Q ⟨c,g,d,f,h,a,p⟩;intro x b;refine Post.ok p (vb b) (a.layO b ⟨[],z0,rfl⟩) _ ⟨x,?_,rfl⟩;rw[<-a.len,z5_ (z5K _)];simp
theorem uZ:∀{a:List (Key×T)} {b:List (Key×V)},DenK D φ α H a b->Den D φ α H ((ze z a).getD .n) ((jR b z).getD .n)
 |[],_,h=>by cases h;rfl
 |p::r,_,h=>by
  obtain⟨v,q,rfl,d,l⟩:=h;unfold ze;by_cases e:p.1=z
  .rw[if_pos e,vQ (p:=(p.1,v)) e];exact d
  .rw[if_neg e,vM (p:=(p.1,v)) e];exact uZ l
theorem YF(C:Ck D W Γ X k)(R:qo o=true)(hs:noStar a=true)(b:(pa.endLine==pc.line)=true)(ho:PE X o (rdE D W go))(U:PE X a (rdE D W f)) :
  PE X (.Call (.Attribute o "get" pa) [a] [] pc) (rdE D W (KU go f)):=by
 have E:z6H [a] X.env=[(false,eval a X.env)]:=z6 hs;refine PE.mono (Xg (by have:=C.unt;lia) ho U ⟨qB R,by rw[E];rfl,b,by rw[E];rfl⟩) ?_;rintro σ H Q ⟨t,I,u,G,w,M,p⟩;refine⟨t,I,u,G,w,M,p.bind.mono λL h j H1 m A q ov dv=>?_⟩;cases L with
 | m i=>
  obtain⟨K,Z,⟨⟨B,h0⟩,T⟩,S,P⟩:=q;obtain⟨x,r,rfl⟩:=dv;obtain⟨gs0,s,l0⟩:=A.ob _ x _ r h0;refine⟨x,rfl,⟨_,.inl (.inl s)⟩,t,j,u,h,w.step m,A,_,Z,T,?_,P⟩;intro O F g c H2 e y v d;cases O with
  |str z=>
   obtain⟨N,Y,J⟩:=g;obtain⟨β,e2,_⟩:=e.ext;have n:c[i]?=some x:=by
    rw[e2,z5N (z5C.mp r).1];exact r
   obtain⟨gs,V,l⟩:=y.ob i x _ n Y;have d:v=.str z:=d;subst d;exact⟨_,DGet.k (k:=.inr z) V,S _ _ J c H2 e y _ (uZ l)⟩
  |_=>exact g.elim
 |_=>exact Post.elim q
end
noncomputable def z3r:ER:=rM1 "get" KU λC a hs c b d=>YF C a hs c b d
noncomputable def z2z:ER:=λ_ _ e=>match e with
 |.Dict [] [] p=>some ⟨.Dict [] [] p,ye,λ_=>U5⟩
 |_=>none
noncomputable def z5a (rd:De->De->De->Ds)(H:∀{D:DP} {X:Cx} {W:XW} {c:Cn} {k:Nat} {o b a:Expr} {fo fb f:De} {p1 pos:Pos},Sk D W c X k->qp b=true->PE X a (rdE D W f)->PE X o (rdE D W fo)->PE X b (rdE D W fb)->PS X (.Assign [.Subscript o b p1] a pos) (rdS D W (rd fo fb f))):SR:=λr c s=>match s with
 |.Assign [.Subscript o b p1] e p=>(r.e c o).bind λo=>(r.e c b).bind λb=>(r.e c e).bind λf=>gd (qp b.y) λh=>some ⟨.Assign [.Subscript o.y b.y p1] f.y p,rd o.d b.d f.d,λC=>H C h (f.ok C.toCk) (o.ok C.toCk) (b.ok C.toCk)⟩
 |_=>none
noncomputable abbrev sSt:Ds:=λ_ _=>Out.st
noncomputable def z3T:SR:=λ_ _ s=>some ⟨s,sSt,λ_=>by
 rintro a s d H E I ⟨b,f,c,e,g,h,Q,q,_⟩;exact q.elim⟩
section
theorem jX(I:Inv X j u H s)(h1:s.heap.get? q=some o)(h2:H q=none)(d:q≠X.env.locals)(c:q∉X.fs)(b:∀v,o.data≠.cell v):Inv X ((q,o)::j) u H s:=
 ⟨I.ok,I.os,I.bare,I.base,I.loc,I.cell,I.free,I.freeC,λp a=>by
  rcases z5L.mp a with z|z
  .exact I.pin p (z65 _ z)
  .rcases z61.mp z with rfl|z
   .exact⟨h1,h2,d,c,b⟩
   .exact I.pin p (z5R _ z),I.hok,I.len⟩
theorem qF(I:Inv X (p::j) u H s):Inv X j u H s:=
 ⟨I.ok,I.os,I.bare,I.base,I.loc,I.cell,I.free,I.freeC,λp a=>by
  rcases z5L.mp a with z|z
  .exact I.pin p (z65 _ z)
  .exact I.pin p (z5R _ (z5T _ z)),I.hok,I.len⟩
theorem Jf{P:z6t}(r:h.CodeRec (.ref c) qn):ObjOk P w H h c (.ext (wC c qn)):=by
 obtain⟨k,b,e,f,a,d,i,g⟩:=id r;(injection a with a;subst a);refine⟨r,⟨b,d⟩,λm l p j=>?_⟩;obtain⟨k,b,e,f,a,d,i,g⟩:=p;(injection a with a;subst a);exact⟨c,b,e,f,rfl,j _ d,i,g⟩
theorem jE{a b:Value}:∀(l:List Value),z9U l->∀{x y:Int} {t u:Tok},z9U (l++[.int x t,.int y u,c])
 |[],_,_,_,_,_=>trivial
 |[_],h,_,_,_,_=>by simp[z9U] at h
 |[_,_],h,_,_,_,_=>by simp[z9U] at h
 |p::q::r::l,h,x,y,t,u=>by
  cases p with
  |int _ _=>
   cases q with
   |int _ _=>exact jE (a:=a) (b:=b) l h
   |_=>exact h.elim
  |_=>exact h.elim
theorem Wt:∀(l:List Value),z9U l->z9i pos l=none->z9i p (l++[z6X pos.line,z6X pos.col,c])=some c\/z9i p (l++[z6X pos.line,z6X pos.col,c])=z9i p l:=by
 intro l h d;fun_induction z9U l with
 |case1=>
  by_cases q:(pos.line==(p.line:Int)&&pos.col==(p.col:Int))=true
  .left;simp only[z99,z9i,z6X];rw[if_pos q]
  .right;simp only[z99,z9i,z6X];rw[if_neg q]
 |case2 a t b u x rest e=>
  simp only[z8n,z9i] at d ⊢
  split at d
  .exact vD d
  .split
   .exact .inr rfl
   .exact e h d
 |case3 l g f=>exact h.elim
theorem ZS{params:Arguments}{body:Expr}{line i j:Nat}{qn:Str}{c P:Addr}{Q:Value->z5W->Prop}(I:Inv X E σ H s)(g:MRel D φ α H μ)(hi:μ[i]?=some (.tab j))(hD:D.tabs j=some (P,M,qn))(hpp:pos∈M)
  (t:X.env.code=.ref c) (hC:zch X.base c P) (hB:X.base.BuiltinsAt X.mg P) (hcl:zaZ scope X.env=pure cl)
  (h:∀q B C G s',Inv X ((q,z7i "<lambda>" qn params body scope cl ((X.mg "__name__").getD .none) B C)::E) σ G s'->Stp α H α G->MRel D φ α G μ->B∉α->G B=some (.ext (wC B qn))->(B∉φ/\XOk X G q/\∀p∈E,p.1≠q)->Q (.ref q) s') :
  z5V (z5X X.prog X.w) X.A (makeFunction "<lambda>" qn params (.expr body) scope X.env [] [] [] pos line) Q X.xe s:=by
 have hia:∃a,α[i]?=some a:=⟨_,z67 (g.len▸(z5C.mp hi).1)⟩;obtain⟨a,ha⟩:=hia;obtain⟨pos',qn',ps,hD',k,x,y⟩:=g.ob i a _ ha hi;rw[hD] at hD';cases hD';have N:=y pos hpp;have hP:=I.hok P _ k;have hg:=I.ok.mod.glob.keeps I.bk;have hCs:=hC.keeps I.bk;have hBs:s.heap.BuiltinsAt X.mg P:=by
  obtain⟨bm,o,b1,b2,b3,b4,b5,b6⟩:=hB;exact⟨bm,o,b1,b2,b3,b4,I.bk _ _ b5,b6⟩
 have hPa:=z5E ha;have nL:X.env.locals≠P:=λz=>by have:=I.free;rw[z,k] at this;exact vD this
 rcases N with r|⟨B,hhit,n1,n2,hc'⟩
 .have hgP:z6i≠P:=λz=>by
   obtain⟨o,es,ep,e,hd,_⟩:=hg;rw[z,hP] at e;(replace e:=zm e;subst e);injection hd
  refine PySem.W.kla_makeFunction hcl I.ok.glob hg t hCs hP x r hgP hBs λB C R tk Y L hlt Z K=>?_;have f:=I.hok.fresh L;have hcP:B≠P:=λz=>by rw[z,k] at f;exact vD f
  have qz:∀{b o},s.heap.get? b=some o->b≠B:=λ{b o} e z=>absurd (z5S (z5U e) L) (z▸z79 _);generalize O:upd (upd H B (.ext (wC B qn))) P (.tbl (ps++#[z6X pos.line,z6X pos.col,.ref B]))=G;have HP:G P=some (.tbl (ps++#[z6X pos.line,z6X pos.col,.ref B])):=O▸z0;have Hc:G B=some (.ext (wC B qn)):=O▸z4 hcP▸z0;have Ho:∀b,b≠P->b≠B->G b=H b:=λb h1 h2=>by rw[<-O,z4 h1,z4 h2]
  have Hs:∀b o,b≠P->H b=some o->G b=some o:=λb o h1 e=>(Ho b h1 (zM e f))▸e;have V:(R.push (z7i "<lambda>" qn params body scope cl ((X.mg "__name__").getD .none) B C)).CodeRec (.ref B) qn:=by
   obtain⟨c2,oc,vs,tq,F,S,e3⟩:=Z;exact⟨c2,oc,vs,tq,F,z5I _ S,e3⟩
  have J:Inv X E σ G {s with heap:=R.push (z7i "<lambda>" qn params body scope cl ((X.mg "__name__").getD .none) B C),toks:=tk}:=by
   refine I.step (ch:=[]) (λ_ z=>nomatch z) (λb o _ _ _ e n=>?_) (λb o _ _ _ e n=>⟨o.slots,?_⟩) (λb o _ e n=>?_) (λb o _ e=>?_) (λb xs e=>?_) (λb o u e=>?_) (λb qs e=>?_) (λm hm=>?_) (λb u e=>?_) I.bare
   .exact z5I _ (Y b o (λz=>by rw[z,k] at n;exact vD n) e)
   .exact z5I _ (Y b o (λz=>by rw[z,k] at n;exact vD n) e)
   .rw[Ho b (λz=>by rw[z,k] at n;exact vD n) (qz e)];exact n
   .by_cases z:b=P
    .rw[z];exact⟨_,z5I _ K⟩
    .exact⟨o,z5I _ (Y b o z e)⟩
   .exact Hs b _ (λz=>by rw[z,k] at e;cases e) e
   .exact Hs b _ (λz=>by rw[z,k] at e;cases e) e
   .by_cases z:b=P
    .rw[z,k] at e;(injection e with e;injection e with e;subst e);rw[z];exact⟨_,HP⟩
    .exact⟨#[],by rw[Hs b _ z e];simp⟩
   .exact (hm.extBut Y nL).push _
   .by_cases z:b=P
    .subst z;rw[HP] at e;(replace e:=zm e;subst e);exact z5I _ K
    .by_cases U:b=B
     .subst U;rw[Hc] at e;(replace e:=zm e;subst e);exact Jf V
     .rw[Ho b z U] at e;refine (I.hok b u e).stay (λc v T q=>?_) (λc q=>?_) λc xs q=>?_
      .refine z5I _ (Y c v (λw=>?_) q);rcases T with T|T
       .exact z (T▸w)
       .rw[w,k] at T;cases T
      .exact Hs c _ (λw=>by rw[w,k] at q;cases q) q
      .exact Hs c _ (λw=>by rw[w,k] at q;cases q) q
  have fresh:=z7w (z8D L hlt);have hqc:=z7l hlt;have nq:G R.objs.size=none:=Ho _ (λz=>absurd (z5U K) (z▸z79 _)) hqc▸I.hok.fresh fresh;have st:Stp α H α G:=⟨⟨[],sC,sC⟩,λb o n e=>Hs b o (λz=>n (z▸hPa)) e,λb e=>by
   by_cases z:b=P
   .rw[z,HP] at e;exact vD e
   .by_cases U:b=B
    .rw[U];exact f
    .rw[Ho b z U] at e;exact e⟩
  refine h R.objs.size B C G _ (jX J (z6a _ rfl) nq (z7l (z5S I.lt fresh)) (I.nofs fresh) (λv z=>by injection z)) st ?_ (zp g f) Hc ⟨zo g f,yC (I.fpOk fresh nq)⟩;refine⟨g.len,g.nd,g.dis,λb hb=>?_,λi' a' o' F S=>?_⟩
  .obtain⟨u,hu,n⟩:=g.phi b hb;exact⟨u,st.keep b u (λz=>g.dis b z hb) hu,n⟩
  .by_cases z:i'=i
   .subst z;rw[ha] at F;(replace F:=zm F;subst F);rw[hi] at S;(replace S:=zm S;subst S);refine⟨M,qn,_,hD,HP,?_,λp2 hp2=>?_⟩
    .rw[zaJ];exact jE (a:=.none) (b:=.none) _ x
    .rw[zaJ];rcases Wt _ x r with w|w
     .exact .inr ⟨B,w,zo g f,zp g f,Hc⟩
     .rw[show (#[z6X pos.line,z6X pos.col,.ref B]).toList=[z6X pos.line,z6X pos.col,.ref B] from rfl,w];exact (y p2 hp2).imp id λ⟨c2,k1,k2,k3,k4⟩=>⟨c2,k1,k2,k3,(Hs c2 _ (λz=>k3 (z▸hPa)) k4)⟩
   .have ne:a'≠P:=λw=>by
     obtain⟨q1,q2⟩:=z5C.mp F;obtain⟨q3,q4⟩:=z5C.mp ha;exact z ((z7T g.nd).mp (q2.trans (w.trans q4.symm)))
    have d:=g.ob i' a' o' F S;obtain⟨u,hu,_⟩:=d.some;exact DenO.step st ((Hs a' u ne hu).trans hu.symm) d
 .refine PySem.W.kla_makeFunctionHit hcl I.ok.glob hg t hCs hP x hhit hBs λC R tk hk l=>?_;have J:Inv X E σ H {s with heap:=R.push (z7i "<lambda>" qn params body scope cl ((X.mg "__name__").getD .none) B C),toks:=tk}:=I.kept λb u e=>z5I _ (hk b u e);exact h R.objs.size B C H _ (jX J (z6a _ rfl) (I.hok.fresh l) (z7l (z5S I.lt l)) (I.nofs l) (λv z=>by injection z)) (Stp.refl _ _) g n2 hc' ⟨n1,yC (I.fpOk l (I.hok.fresh l))⟩
noncomputable abbrev kh(a:Cn)(x:Str)(G:List Str):Cn:={a with N:=[x],G:=G,U:=G,cel:=[],own:=[],lam:=none,fz:=[]}
noncomputable def Yd:GM->Bool
 |.cst _=>true
 |.none=>true
 |.xcl _=>true
 |_=>false
theorem GlOkM.lvl{P:z6t}{K:z5M}(h:Yd g=true)(q:GlOkM D P w K mg base j x g):GlOkM D P w K mg base k x g:=by
 cases g<;>first|exact q|injection h
theorem K9{params:Arguments}{body:Expr} 
    (C:Ck D W Γ X k) (hc:Γ.calm=true) (hG:G.all (λy=>Γ.U.contains y&&Yd (Γ.gl y))=true) (hs:yz (kh Γ x G) [x] scope=true) (hE:∀Y W k, Ck D W (kh Γ x G) Y k->PE Y body (rdE D W g)) (L:∀(s:z5W) (u:Value), zaG s (zcj "<lambda>" qn params body scope [] pm (.ref c') ctv) ⟨[u], []⟩ [(x, u)])
    (R:Room (k0+1) A) (e0:Env0 X.prog X.w X.K X.mg X.base A outer s H) (ho:s.heap.get? q=some (z7i "<lambda>" qn params body scope [] pm c' ctv)) (O:s.heap.CodeRec (.ref c') qn) (r:RelV v u) (d:Den D φ α H t v) (mr:MRel D φ α H μ)
 (p : g [some t] μ K0 (fun _ _ _ => False)) (T : ∀ t' M, K0 t' M -> ∀ j H' v', Stp α H j H' -> MRel D φ j H' M -> Den D φ j H' t' v' -> Q v' H') :
    z8B (z5X X.prog X.w) A (.call (.ref q) ⟨[u], []⟩) (CR (λ_ _ _ _ _ _=>False) outer X.prog X.w H s Q (λ_ _ _=>False)) s:=by
  simp only[yz, z5P, z6n, beq_iff_eq, z7G, decide_eq_true_eq, bne_iff_ne] at hs;obtain⟨⟨⟨⟨⟨⟨⟨⟨⟨h1, h2⟩, h3⟩, h4⟩, h5⟩, h6⟩, V⟩, h8⟩, h9⟩, h10⟩:=hs;have l:∀y∈[x], scope.names.lookup y=some .local:=λy f=>by
    have:=(V y f).2;simpa using this
  have S:FnScope [x] [x] scope:=⟨h1, h2, h3, h4, rfl, λy f=>.inl (l y f), h6⟩;refine zaA R.depth ho rfl S.co S.gen rfl O (L s u _ _ _ _ (z9o S.kind (λy f=>?_) λenv he s1 y=>?_))
  · obtain ⟨y, w⟩ := y;have:y=x:=by simpa using congrArg Prod.fst (z5F.mp f)
    subst this;exact .inl (l y sC)
  subst he;refine⟨(e0.mod.nolimit.keeps λb o e=>(e0.bs b o e).1).keeps y.toInCall.keep, zaB ?_⟩;have c:=uV (fnb:=λ_=>true) (CX:=λ_ _ _ _ _ _=>False) (E:=λ_ _ _=>False) S R.hd e0 rfl (.cons r .nil) y;generalize P:({WO (λ_ _ _ _ _ _=>False) X.prog X.w X.K X.mg X.base [x] qn scope q (.ref c') A outer s H (λ_ _ _=>False) with xe:=λ_ _=>False})=Y;have I:Inv Y [] (start [x] [v]) H s1:=by
    subst P;exact⟨⟨c.ok.mod, c.ok.kind, c.ok.glob, c.ok.blt, c.ok.above, c.ok.inj, c.ok.has, c.ok.cab, c.ok.hd, c.ok.frames, c.ok.stk, c.ok.exf, c.ok.bs, c.ok.bsz, c.ok.noex, c.ok.exfs, c.ok.funs, c.ok.frf⟩, c.os, c.bare, c.base, c.loc, c.cell, c.free, c.freeC, c.pin, c.hok, c.len⟩
  have F:Frm Y (z8U qn scope s.heap.objs.size q (.ref c')) outer s.heap.objs.size:=P▸⟨rfl, rfl, rfl⟩;have n:=R.deeper (z8U qn scope s.heap.objs.size q (.ref c'));have C2:Ck D noW (kh Γ x G) Y k0:=by
    subst P;have N:∀y∈G, GlOkM D X.prog X.w X.K X.mg X.base k0 y (Γ.gl y)/\(y==("__debug__"))=false:=λy f=>by
      have h:=z6n.mp hG y f;simp only[z5P] at h;have q:=C.glU y (by simpa using h.1);exact⟨GlOkM.lvl h.2 q.1, q.2⟩
    exact { hK := C.hK, hN := rfl, nd := h4, vis := fun y f => .inl (l y f), dbg := fun y f => ⟨beq_eq_false_iff_ne.mpr (V y f).1.1, beq_eq_false_iff_ne.mpr (V y f).1.2⟩,
            dbG:=λy f=>(N y f).2, glb:=λy f=>(h8 y f).2, glo:=λy f=>(N y f).1, glU:=N,
            cel:=λy f=>absurd f sC, isi:=C.isi, fld:=C.fld, xcx:=C.xcx, ocx:=C.ocx, clv:=C.clv, clm:=λ_=>rfl, rom:=λ_=>n, rmh:=⟨n.dp, n.un⟩, xe:=(λe s p=>by obtain⟨_, _, _, _, _, _, _, _, _, _, _, _, _, z⟩:=p;exact z), frm:=⟨_, _, _, F.stk, F.f0, F.fe⟩, lam:=LamOk.no rfl, kfz:=(λh=>by injection h)}
  have sr:SRel D φ α H [some t] (start [x] [v]):=⟨rfl, λi t' e=>by
    cases i with
    |zero=>
      have:t=t':=by simpa using e
      subst this;exact⟨v, rfl, d⟩
    |succ i=>simp at e⟩
  have B:=hE Y noW k0 C2 [] s1 _ H Q I ⟨φ, α, [some t], μ, sr, mr, _, _, p, λa M e j H' st m v' dv=>T a M e j H' v' st m dv, λ_ _ _ z=>z.elim⟩;have XA:Y.A=A.deeper (z8U qn scope s.heap.objs.size q (.ref c')):=by rw[<-P];rfl
  have Xp:Y.prog=X.prog/\Y.w=X.w/\Y.env=z8U qn scope s.heap.objs.size q (.ref c')/\(∀e s, Y.xe e s->False)/\Y.fs=frs outer/\Y.H₀=H/\Y.s₀=s/\Y.ex=[]:=by
    subst P;exact⟨rfl, rfl, rfl, λ_ _ z=>z, rfl, rfl, rfl, rfl⟩
  obtain⟨x1, x2, x3, x4, x5, x6, Z, x8⟩:=Xp;rw[XA, x1, x2, x3] at B;refine z6r B (λw s' hs=>?_) λe s' z=>(x4 e s' z).elim;obtain⟨v', H', J, rv, q'⟩:=hs;have b:=J.base;have o:=J.os;have hk:=J.hok;rw[x5, x6, Z, x8] at b;rw[Z] at o;rw[x1, x2] at hk;exact⟨v', H', o, J.bare, b, hk, rv, q'⟩
structure Keeps(J:Shared->Prop)(a kS:Addr):Prop where
 set:∀s' b h' tk,J s'->(b=a\/b=kS)->z6K b s'.heap h'->J {s' with heap:=h',toks:=tk}
 push:∀s' o,J s'->J {s' with heap:=s'.heap.push o}
theorem VP {st:SortSt} (q:Keeps J a j) (v:J s) (r:s.heap.get? j=some (z6G "list" keys e)) (t:s.heap.get? a=some (z6G "list" #[] B)) (i:j≠a)
  (hk:z7z keys.toList z) (p:z.length=vs.length) (x:vs.length<64) (o:(zbo st).Perm (keys.zip vs.toArray)) (hs:SortedTo (zbo st) (zbo st).size) (k:failedOf st=none)
  (h:∀u out c,J u->u.heap.get? a=some (z6G "list" out c)->KskOut false z vs out.toList->P (.done (.ret .none)) u) :
  z5V (z5X prog w) A (ksk_tail a false B (.ref j) st) P E s:=by
 have f:keys.size=vs.length:=by
  have y:=hk.length;rw[z7k] at y;lia
 have g:((zbo st).map (·.2)).size=vs.length:=by rw[Array.size_map];exact (by rw[o.size_eq,zck,f,z63,zd4])
 have n:=z8t s.heap j (z6C λ_=>(#[]));have d:=(n.2 a i.symm).trans t;obtain⟨m,l⟩:∃m,((s.heap.update j (z6C λ_=>(#[]))).update a (z6C λ_=>(zbo st).map (·.2))).get? a=some (z6G "list" ((zbo st).map (·.2)) m):=⟨_,zaf d λ_=>(zbo st).map (·.2)⟩;unfold ksk_tail;refine z5D (z9G r rfl (z5D (wpAny_letGo (z5D (seqEpoch_at d rfl (z5D (z9G d rfl ?_ (z7m _) (z66 (z8l g) (by rw[z6y];lia)))))))) (by rw[f,z6y];lia) (z7m _));rw[k];simp only[bne_self_eq_false,za_];have D:=q.set s j _ s.toks v (.inr rfl) n;have C:=q.set _ a _ s.toks D (.inl rfl) (z8t (s.heap.update j (z6C λ_=>(#[]))) a (z6C λ_=>(zbo st).map (·.2)));refine z5Q (h _ _ m C l ?_);have:=ksk_out (b:=false) hk o hs;simpa using this
theorem z0M (r:Keeps J a z) (q:J s) (n:s.heap.get? z=some (z6G "list" keys e)) (o:s.heap.get? a=some (z6G "list" #[] C)) (m:z≠a)
  (hk:z7z keys.toList B) (d:B.length=vs.length) (f:vs.length<64)
  (h:∀u out c,J u->u.heap.get? a=some (z6G "list" out c)->KskOut false B vs out.toList->P (.done (.ret .none)) u) :
  z5V (z5X prog w) A (ksk_end a false vs.toArray C (.ref z) keys) P E s:=by
 have l:keys.size=vs.length:=by
  have x:=hk.length;rw[z7k] at x;lia
 have k:(keys.zip vs.toArray).size=vs.length:=by rw[zck,l,z63,zd4]
 unfold ksk_end;simp only[ if_false];by_cases g:vs.toArray.size<2
 .rw[if_pos g,if_pos g];refine z5D (z5Q (z5D (z5Q (VP r q n o m hk d f (zbV _) ?_ rfl h))));intro i j t G;rw[z63] at g;have:i=j:=by lia
  subst this;exact z6E _
 .rw[if_neg g,if_neg g];rw[z63] at g;rw[ksk_kind hk (by rw[l];lia)];refine z5D (z5Q ?_)
  refine z5D (z6r (wpS_sortRuns
   (Q:=λ_ b=>(zbo b).Perm (keys.zip vs.toArray)/\failedOf b=none/\SortedTo (zbo b) (keys.zip vs.toArray).size)
   (ksk_intKeys hk) ⟨zbV _,rfl,rfl,rfl⟩ (by rw[k];lia) (k▸f) λb F D y=>⟨F,D,y⟩) ?_ λ_ _ e=>e)
  rintro⟨⟨⟩,b⟩ u ⟨rfl,p,v,hs⟩;exact VP r q n o m hk d f p (p.size_eq▸hs) v h
theorem UR (y:Keeps J a (s.heap.objs.size+1)) (Z:J s) (ho:s.heap.get? a=some (z6G "list" vs.toArray n)) (D:z.length=vs.length) (R:vs.length<64)
  (turn:∀(i:Nat) (v:Value) (k:Int) (b:z5W) (T:Array Value) (ca ck:Nat),vs[i]?=some v->z[i]?=some k->J b->b.heap.get? a=some (z6G "list" #[] ca)->b.heap.get? (s.heap.objs.size+1)=some (z6G "list" T ck)->
   z5V (z5X prog w) A (call f [v]) (λr M=>(∃u,r=.int k u)/\J M/\M.heap.get? a=some (z6G "list" #[] ca)/\M.heap.get? (s.heap.objs.size+1)=some (z6G "list" T ck)) (λ_ _=>False) b)
  (h:∀b out c,J b->b.heap.get? a=some (z6G "list" out c)->KskOut false z vs out.toList->P (.done (.ret .none)) b) :
  z5V (z5X prog w) A (ksk_tree a f false) P E s:=by
 have H:=z8t s.heap a (z6C λ_=>(#[]));obtain⟨t,C⟩:∃t,(s.heap.update a (z6C λ_=>(#[]))).get? a=some (z6G "list" #[] t):=⟨_,zaf ho λ_=>#[]⟩;refine z5D (listItems_at ho rfl (z5D (z9G ho rfl (z5D (seqEpoch_at C rfl (z5D (wpAny_newTuple ?_ (by rw[z6y];lia))))) (by rw[z63,z6y];lia) (z7m _))));refine z5D (wpAny_newList (z6p ?_) (z7m _));have W:(s.heap.update a (z6C λ_=>(#[]))).objs.size=s.heap.objs.size:=zbJ ..;have J1:=y.set s a _ s.toks Z (.inl rfl) H;have J2:=y.push _ (z6G "tuple" vs.toArray 0) J1;have l:((s.heap.update a (z6C λ_=>(#[]))).push (z6G "tuple" vs.toArray 0)).objs.size=s.heap.objs.size+1:=by rw[z7b,W]
 have J3:=y.push _ (z6G "list" #[] 0) J2;have g3:(((s.heap.update a (z6C λ_=>(#[]))).push (z6G "tuple" vs.toArray 0)).push (z6G "list" #[] 0)).get? a=some (z6G "list" #[] t):=z5I _ (z5I _ C);have V:(((s.heap.update a (z6C λ_=>(#[]))).push (z6G "tuple" vs.toArray 0)).push (z6G "list" #[] 0)).get? ((s.heap.update a (z6C λ_=>(#[]))).push (z6G "tuple" vs.toArray 0)).objs.size=some (z6G "list" #[] 0):=z6a _ rfl;have m:((s.heap.update a (z6C λ_=>(#[]))).push (z6G "tuple" vs.toArray 0)).objs.size≠a:=l▸z7l (z8a (z5U ho));generalize X:((s.heap.update a (z6C λ_=>(#[]))).push (z6G "tuple" vs.toArray 0)).objs.size=p at V m l;rw[<-l] at y turn;have G:z5V (z5X prog w) A (ksk_rest a f false vs.toArray t (.ref p)) P E {s with heap:=((s.heap.update a (z6C λ_=>(#[]))).push (z6G "tuple" vs.toArray 0)).push (z6G "list" #[] 0)}:=by
  refine z5D (za4 ?_)
  first
   |rw[List.forIn_toArray]
   |(rw[<-zb1];simp only[List.toList_toArray])
   |rw[<-zb1]
  refine z5D (ksk_fold (λi b=>∃d e,J b/\b.heap.get? a=some (z6G "list" #[] t)/\b.heap.get? p=some (z6G "list" d e)/\z7z d.toList (z.take i)) vs 0 _ ⟨#[],0,J3,g3,V,by simpa using IntsAre.nil⟩ ?step ?done);case step=>
   rintro j x b U ⟨d,e,o,L,I,q⟩
   simp only[zbp] at q ⊢
   have hj:=(z5C.mp U).1
   obtain⟨k,F⟩:∃k,z[j]?=some k:=⟨_,z67 lC⟩
   have hz:d.size<=vs.length:=by
    have h1:=q.length;rw[z7k,z6B] at h1;lia
   refine z5D (wpAny_attempt (z6r (turn j x k b d t e U F o L I) (λv g Y=>?_) λ_ _ hF=>hF.elim))
   obtain⟨⟨u,rfl⟩,Q,K,B⟩:=Y
   have H:=z8t g.heap p (z6C (·.push (.int k u)))
   obtain⟨S,O⟩:∃S,(g.heap.update p (z6C (·.push (.int k u)))).get? p=some (z6G "list" (d.push (.int k u)) S):=⟨_,zaf B (·.push (.int k u))⟩
   have ek:z.take (j+1)=z.take j++[k]:=by rw[z6w,F];simp
   have ea:(d.push (zaE k u)).toList=d.toList++[zaE k u]:=by simp
   exact z5D (z9G B rfl (z5Q ⟨rfl,d.push (.int k u),S,y.set g p _ g.toks Q (.inr rfl) H,(H.2 a m.symm).trans K,O,ea▸ek▸ksk_snoc q⟩) (by rw[z6y];lia) (z66 (z8l (Array.size_push ..)) (by rw[z6y];lia)))
  case done=>
   rintro b ⟨d,e,o,L,I,q⟩
   have N:z7z d.toList z:=by
    have e3:z.take (0+vs.length)=z:=z6z lC;rw[e3] at q;exact q
   exact z5D (listItems_at I rfl (z0M y o I L m N D R h))
 exact G
end
theorem QX{α β:Type}{f:α->β}{ps m:List β}(h:ps.Perm m):∀{l:List α},m=l.map f->∃qs:List α,qs.Perm l/\ps=qs.map f:=by
 induction h with
 |nil=>intro l e;cases l with
  |nil=>exact⟨[],.refl _,rfl⟩
  |cons a r=>injection e
 |cons x p o=>intro l e;cases l with
  |nil=>injection e
  |cons a r=>
   injection e with k c
   obtain⟨qs,j,i⟩:=o c
   exact⟨a::qs,j.cons a,by rw[k,i];rfl⟩
 |swap x y w=>intro l e;cases l with
  |nil=>injection e
  |cons a r=>cases r with
   |nil=>simp at e
   |cons b r=>
    injection e with k c
    injection c with c t
    exact⟨b::a::r,.swap a b r,by rw[k,c,t];rfl⟩
 |trans v u g d=>
  intro l e;obtain⟨qs,j,i⟩:=d e;obtain⟨n,s,q⟩:=g i;exact⟨n,s.trans j,q⟩
noncomputable def KeyR (g:De)(μ:Mem):List T->List Int->Prop
 |[],[]=>True
 |t::c,z::b=>g [some t] μ (λd a=>d=.int z/\a=μ) (λ_ _ _=>False)/\KeyR g μ c b
 |_,_=>False
theorem KeyR.len:∀{ts:List T} {a:List Int},KeyR g μ ts a->a.length=ts.length
 |[],[],_=>rfl
 |_::_,_::_,h=>by simp[KeyR.len h.2]
 |[],_::_,h=>h.elim
 |_::_,[],h=>h.elim
theorem KeyR.at{μ:Mem}:∀{ts:List T} {e:List Int} {i:Nat} {t:T} {z:Int},KeyR g μ ts e->ts[i]?=some t->e[i]?=some z->g [some t] μ (λt' j=>t'=.int z/\j=μ) (λ_ _ _=>False)
 |a::ts,b::f,0,t,z,h,c,d=>by
  (replace c:=zm c;subst c);(replace d:=zm d;subst d);exact h.1
 |a::ts,b::f,i+1,t,z,h,c,d=>KeyR.at h.2 (by simpa using c) (by simpa using d)
 |[],[],i,t,z,h,c,d=>by simp at c
 |[],_::_,_,_,_,h,_,_=>h.elim
 |_::_,[],_,_,_,h,_,_=>h.elim
noncomputable abbrev Ww(j:Nat)(g:De)(xs:List T)(μ:Mem):RE T:=λK _=>xs.length<64/\∃b,KeyR g μ xs b/\
 ∀a:List (Int×T),a.Perm (b.zip xs)->a.Pairwise (λp q=>p.1<=q.1)->K (.l (a.map (·.2))) μ
noncomputable abbrev Yc(j:Nat)(g:De)(t:T)(μ:Mem):RE T:=λK Z=>(∃i:Nat,μ[i]?=some (MO.tab j))/\(match t with
 |.l xs=>Ww j g xs μ
 |.m i=>λK Z=>∃xs,μ[i]?=some (MO.l xs)/\Ww j g xs μ K Z
 |_=>.st) K Z
noncomputable abbrev WL(j:Nat)(g f:De):De:=λa b=>(f a b).bind (Yc j g)
section
theorem XX(I:Inv X j B H s)(h0:H a=none)(h1:X.s₀.heap.objs.size<=a)(h2:a≠X.env.locals)(h:∀x c,X.env.cells.lookup x=some c->c≠a)(g:∀p∈X.pn++j,p.1≠a)
  (new:ObjOk X.prog X.w (upd H a o) s.heap a o):Inv X j B (upd H a o) s:=by
 have ne:∀{b u},H b=some u->b≠a:=λ{b u} e z=>by rw[z,h0] at e;exact z7 e
 refine I.step (d':=s.drawn) (ch:=[a]) (λb d=>?_) (λb o _ _ _ e n=>e) (λb o _ _ _ e n=>⟨o.slots,e⟩) (λb o d e n=>?_) (λb o _ e=>⟨o,e⟩) (λb xs e=>?_) (λb o u e=>?_) (λb i e=>?_) (λm f=>f) (λb u e=>?_) I.bare
 .rw[z5F.mp d];exact⟨.inr h1,h2,h,g⟩
 .rw[z4 (λz=>d (by rw[z];simp))];exact n
 .rw[z4 (ne e)];exact e
 .rw[z4 (ne e)];exact e
 .exact⟨#[],by rw[z4 (ne e),e];simp⟩
 .by_cases z:b=a
  .subst z;rw[z0] at e;(replace e:=zm e;subst e);exact new
  .rw[z4 z] at e;refine (I.hok b u e).stay (λc v k q=>q) (λc q=>?_) λc xs q=>?_
   .rw[z4 (ne q)];exact q
   .rw[z4 (ne q)];exact q
theorem W8{q L ad:Addr}{x:Str}{G:List Str}{params:Arguments}{body:Expr}{scope:Scope}{qn:Str}{pm ctv:Value}{g:De}{vs:List V}{Q:VK}{j:Nat}
  (C:Ck D W Γ X k) (hk:2<=k) (hc:Γ.calm=true) (hG:G.all (λy=>Γ.U.contains y&&Yd (Γ.gl y))=true) (hs:yz (kh Γ x G) [x] scope=true) (hE:∀Y W k,Ck D W (kh Γ x G) Y k->PE Y body (rdE D W g)) (hbind:∀(s:z5W) (u:Value),zaG s (zcj "<lambda>" qn params body scope [] pm (.ref L) ctv) ⟨[u],[]⟩ [(x,u)])
  (I:Inv X ((q,z7i "<lambda>" qn params body scope [] pm L ctv)::E) σ H s) (mr:MRel D φ α H μ) (hca:L∉α) (hcc:H L=some (.ext (wC L qn))) (S:Rd H ad (.l vs)) (l:DenL D φ α H xs vs) (p:Post D W φ α H σ (RV D φ Q) (Ww j g xs μ)) :
  z5V (z5X X.prog X.w) X.A (call (.builtin "sorted") [.ref ad] [(z8m "key",.ref q)]) (EP X E σ Q) X.xe s:=by
 obtain⟨f,rv,pl,hz⟩:=I.list (.inl S);obtain⟨K0,Z0,⟨h64,kz,hkr,hK⟩,k1,k2⟩:=p;have hlen:f.length<64:=rv.length▸l.length▸h64;have hkl:kz.length=f.length:=by rw[hkr.len,<-rv.length,<-l.length]
 refine call_function_entry_kw kind_sorted plain_sorted entry_sorted (ksk_s1 _ _) (z5D (z5Q (z5D (collect_list pl.isList (z5D (wpAny_newList ?_ (by rw[z6y];lia))) (by rw[z6y];lia)))));have R:((s.heap.push (z6G "list" #[] 0)).update s.heap.objs.size (z6C (·++f.toArray))).objs.size=s.heap.objs.size+1:=by
  rw[zbJ,z7b]
 have Z:(((s.heap.push (z6G "list" #[] 0)).update s.heap.objs.size (z6C (·++f.toArray))).push (z6G "list" f.toArray 0)).get? (s.heap.objs.size+1)=some (z6G "list" f.toArray 0):=by
  rw[<-R];exact z6a _ rfl
 have keep:∀b o,s.heap.get? b=some o->(((s.heap.push (z6G "list" #[] 0)).update s.heap.objs.size (z6C (·++f.toArray))).push (z6G "list" f.toArray 0)).get? b=some o:=λb o q=>by
  have hlt:=z5U q;rw[zbq _ _ _ (R▸z6b (z8a hlt)),z9d _ _ _ _ (z6b hlt),zbq _ _ _ (z6b hlt)];exact q
 rw[R];have hs1:((((s.heap.push (z6G "list" #[] 0)).update s.heap.objs.size (z6C (·++f.toArray))).push (z6G "list" f.toArray 0))).objs.size=s.heap.objs.size+2:=by rw[z7b,R]
 have I1:=I.kept (t':=s.toks) keep;generalize ((s.heap.push (z6G "list" #[] 0)).update s.heap.objs.size (z6C (·++f.toArray))).push (z6G "list" f.toArray 0)=h1 at I1 Z hs1 keep;generalize hca':s.heap.objs.size+1=a at Z;have new:∀b,s.heap.objs.size<=b->H b=none/\X.s₀.heap.objs.size<=b/\b≠X.env.locals/\(∀x c,X.env.cells.lookup x=some c->c≠b)/\(∀p∈X.pn++E,p.1≠b)/\b∉X.fs/\b≠q:=λb hb=>by
  have lt:∀{d o},s.heap.get? d=some o->d≠b:=λ{d o} e z=>absurd (z5S (z5U e) hb) (z▸z79 _);refine⟨I.hok.fresh hb,z66 I.sz hb,z7l (z5S I.lt hb),λx c e=>?_,λp hp=>?_,I.nofs hb,?_⟩
  .obtain⟨v,o,ho,_⟩:=I.cell x c e;exact lt ho
  .exact lt ((qF I).pin p hp).1
  .exact (lt (I.pin _ (z5R _ z60)).1).symm
 have na:=new a lC;have nk:=new (h1.objs.size+1) lC;let J:z5W->Prop:=λs'=>∃B,Inv X ((q,z7i "<lambda>" qn params body scope [] pm L ctv)::E) σ B s'/\Stp α H α B/\MRel D φ α B μ/\B L=some (.ext (wC L qn))/\B a=none/\B (h1.objs.size+1)=none;have KJ:Keeps J a (h1.objs.size+1):=by
  refine⟨λs' b h' tk hj hb sb=>?_,λs' o hj=>?_⟩
  .obtain⟨B,K,J2,N,J4,M,J6⟩:=hj;have hb0:B b=none:=by rcases hb with rfl|rfl<;>assumption
   have nb:=by
    have:=hb;exact show X.s₀.heap.objs.size<=b/\b≠X.env.locals/\(∀x c,X.env.cells.lookup x=some c->c≠b)/\(∀p∈X.pn++E,p.1≠b)/\b∉X.fs/\b≠q from by rcases this with rfl|rfl;exact na.2;exact nk.2
   have ex:∀c o,c≠b->s'.heap.get? c=some o->h'.get? c=some o:=λc o n e=>(sb.2 c n).trans e;have neb:∀{c u},B c=some u->c≠b:=λ{c u} e z=>by rw[z,hb0] at e;exact z7 e
   refine⟨B,K.step (ch:=[b]) (λc hc=>?_) (λc o _ _ n e _=>ex c o (λz=>n (by rw[z];simp)) e) (λc o _ _ n e _=>⟨o.slots,ex c o (λz=>n (by rw[z];simp)) e⟩) (λc o _ _ n=>n) (λc o n e=>⟨o,ex c o (λz=>n (by rw[z];simp)) e⟩) (λc xs e=>e) (λc o u e=>e) (λc t e=>⟨#[],by rw[e];simp⟩) (λm hm=>?_) (λc u e=>?_) K.bare,J2,N,J4,M,J6⟩
   .rw[z5F.mp hc];refine⟨.inr nb.1,nb.2.1,nb.2.2.1,λp hp=>?_⟩;rcases z5L.mp hp with z|z
    .exact nb.2.2.2.1 p (z65 _ z)
    .rcases z61.mp z with rfl|z
     .exact nb.2.2.2.2.2.symm
     .exact nb.2.2.2.1 p (z5R _ z)
   .exact hm.sameBut sb nb.2.1.symm
   .refine (K.hok c u e).stay (λd v hd q=>ex d v (λz=>?_) q) (λd q=>q) λd xs q=>q;rcases hd with hd|hd
    .exact neb e (hd▸z)
    .exact neb hd z
  .obtain⟨B,K,J2,N,J4,M,J6⟩:=hj;exact⟨B,K.kept λb o e=>z5I _ e,J2,N,J4,M,J6⟩
 refine z5D (z6p (wpAny_call_entry_kw slot_list_sort ⟨_,Z,rfl⟩ entry_list_sort ?body (ksk_l1 _ _)));case body=>
  refine UR KJ ⟨H,I1,Stp.refl _ _,mr,hcc,na.1,nk.1⟩ Z hkl hlen (λi v z s' ka ca ck e1 e2 hj ga gk=>?_) λs' out c hj ga hout=>⟨_,rfl,z5Q ⟨_,rfl,?_⟩⟩
  .obtain⟨B,K,J2,N,J4,M,J6⟩:=hj
   have J1a:=jX (jX K ga M na.2.2.1 na.2.2.2.2.2.1 (λv z=>by injection z)) gk J6 nk.2.2.1 nk.2.2.2.2.2.1 (λv z=>by injection z)
   have hi:=(z5C.mp e1).1
   obtain⟨vv,hvv⟩:∃vv,vs[i]?=some vv:=⟨_,z67 (rv.length▸hi)⟩
   obtain⟨tt,htt⟩:∃tt,xs[i]?=some tt:=⟨_,z67 (l.length▸rv.length▸hi)⟩
   have rr:RelV vv v:=by
    obtain⟨u0,e0,r0⟩:=rv.get hvv;rw[e1] at e0;(replace e0:=zm e0;subst e0);exact r0
   obtain⟨vv',P,dd⟩:=(l.step J2).get htt
   rw[hvv] at P;(replace P:=zm P;subst P)
   have ho:=(K.pin _ (z5R _ z60)).1
   have rm:=C.rom hc
   have hr:Room (0+1) X.A.in1.in1:=⟨rm.hd,by have:=rm.dp;lia,by have:=rm.un;lia⟩
   refine z8C (z7B (K9 C hc hG hs hE hbind hr J1a.env0.in1.in1 ho ((K.hok L _ J4).1) rr dd N (Q:=λv' H2=>v'=.int z/\Stp α B α H2/\MRel D φ α H2 μ) (hkr.at htt e2) ?_) λr s2 S=>?_)
   .rintro t' μ' ⟨rfl,rfl⟩ α' H2 v' st m d
    have ea:α'=α:=by
     obtain⟨⟨more,e,_⟩,_,_⟩:=id st;have h1:=m.len;have h2:=N.len;rw[e,z6k,h2] at h1;have:more=[]:=List.eq_nil_of_length_eq_zero lC;rw[e,this,z6S]
    subst ea
    exact⟨d,st,m⟩
   .cases r with
    |error e=>exact S.elim
    |ok fl=>
     cases fl with
     |ret u=>
      obtain⟨v',H2,I2,r2,rfl,st2,m2⟩:=J1a.after S;obtain⟨t2,rfl⟩:=r2;have p1:=I2.pin _ (z5R _ z60);have p2:=(qF I2).pin _ (z5R _ z60);exact⟨⟨t2,rfl⟩,⟨H2,qF (qF I2),J2.trans st2,m2,st2.keep L _ hca J4,p2.2.1,p1.2.1⟩,p2.1,p1.1⟩
     |next=>exact z6s S
     |brk=>exact z6s S
     |cont=>exact z6s S
  .obtain⟨B,K,J2,N,J4,M,J6⟩:=hj
   obtain⟨ps,hp,ho,hpw⟩:=hout
   have O:=rv.length
   have hxl:xs.length=f.length:=by rw[l.length,O]
   have em:kz.zip f=(kz.zip (f.zip (vs.zip xs))).map (λq=>(q.1,q.2.1)):=by
    refine zbK (by simp[ O,hxl]) λi h1 h2=>by simp
   obtain⟨t,hqp,rfl⟩:=QX hp em
   have mem:∀q∈t,RelV q.2.2.1 q.2.1/\Den D φ α B q.2.2.2 q.2.2.1:=λq S=>by
    have:=hqp.mem_iff.mp S;obtain⟨i,hi⟩:=z6d.mp this;obtain⟨F,rfl⟩:=z5C.mp hi;simp only[List.length_zip,Nat.lt_min] at F;have d:=(l.step J2).get (z67 F.2.2.2);obtain⟨v',e',d⟩:=d;rw[z67 F.2.2.1] at e';(replace e':=zm e';subst e');simp only[List.getElem_zip];obtain⟨u0,e0,r0⟩:=rv.get (z67 F.2.2.1);rw[z67 F.2.1] at e0;(replace e0:=zm e0;subst e0);exact⟨r0,d⟩
   have hvs:∀(t:List (Int×Value×V×T)),(∀q∈t,RelV q.2.2.1 q.2.1/\Den D φ α B q.2.2.2 q.2.2.1)->Vals (t.map (·.2.2.1)) (t.map (·.2.1))/\DenL D φ α B (t.map (·.2.2.2)) (t.map (·.2.2.1)):=by
    intro t;induction t with
    |nil=>exact λ_=>⟨.nil,rfl⟩
    |cons q r ih=>
     intro h;obtain⟨a1,a2⟩:=ih λq' hq'=>h q' (z5T _ hq');obtain⟨b1,b2⟩:=h q z60;exact⟨.cons b1 a1,_,_,rfl,b2,a2⟩
   obtain⟨w1,w2⟩:=hvs t mem
   have hol:out.toList=t.map (·.2.1):=by rw[ho,z69];rfl
   have hql:t.length=f.length:=by rw[hqp.length_eq];simp[hkl,O,hxl]
   refine⟨.ref a,_,(XX (qF K) M na.2.1 na.2.2.1 na.2.2.2.1 na.2.2.2.2.1 (show ObjOk X.prog X.w _ _ _ (.l (t.map (·.2.2.1))) from ⟨by rw[z5H,hql,z6y];lia,t.map (·.2.1),c,w1,hol▸Array.toArray_toList▸ga⟩)),rfl,?_⟩
   have sm:=zh (o:=HO.l (t.map (·.2.2.1))) M
   have e2:(t.map λq=>(q.1,q.2.2.2)).map (·.2)=t.map (·.2.2.2):=by rw[z69];rfl
   have e3:kz.zip xs=(kz.zip (f.zip (vs.zip xs))).map (λq=>(q.1,q.2.2.2)):=by
    refine zbK (by simp[hkl,O,hxl]) λi h1 h2=>by simp
   have kk:=hK (t.map λq=>(q.1,q.2.2.2)) (e3▸hqp.map _) (by
    rw[z72] at hpw ⊢;exact hpw.imp λh=>by simpa using h)
   rw[e2] at kk
   refine k1 _ _ kk α _ (J2.trans (Stp.new sm)) (N.new sm) _ ⟨_,_,rfl,zo N M,zp N M,.inl z0,w2.step (Stp.new sm)⟩
theorem bind1(a:fd.params=⟨[],[⟨y,none,pa⟩],none,[],[],none,[]⟩)(hd:fd.defaults=.none):zar fd ⟨[u],[]⟩=pure [(y,u)]:=by
 have e:z7y y [(y,u)]=some u:=by simp
 unfold zar;rw[a,hd];simp[ seqItems?];rfl
theorem KA(C:Ck D W w X k)(hc:w.calm=true){body:Expr} 
  (V:("sorted":Str)∈w.G) (hg0:w.gl "sorted"=.none) (F:noStar a=true) (ha:PE X a (rdE D W f)) (hlm:w.lam=some (j,B)) (hnm:w.lnm="<lambda>") (hpp:pl∈B) (hG:G.all (λy=>w.U.contains y&&Yd (w.gl y))=true) (hs:yz (kh w y G) [y] sc=true) (hE:∀Y W k,Ck D W (kh w y G) Y k->PE Y body (rdE D W g)) :
  PE X (.Call (.Name "sorted" p0) [a] [⟨some "key",.Lambda ⟨[],[⟨y,none,pa⟩],none,[],[],none,[]⟩ body sc pl,pk⟩] pos) (rdE D W (WL j g f)):=by
 obtain⟨hk,c,P,J,hC,hB,hD⟩:=C.lam j B hlm;rw[hnm] at hD;have hm:=C.glo _ V;rw[hg0] at hm;have hfr:∀x∈sc.names,x.2≠.free:=by
  have N:=hs;simp only[yz,z5P,z6n,bne_iff_ne] at N;exact N.1.1.1.1.2
 rintro K s σ H Q I ⟨A,α,τ,μ,sr,mr,p⟩;refine z6F (wG I (C.glb _ V) hm (show z6W "sorted"=some (.builtin "sorted") by decide +kernel) ?_ dC (C.dbG _ V));refine callWith_kw (thn (zI ha qr (z6 F) pos K s σ H (λvs S=>∃v t E h,vs=[v]/\Stp α H h S/\MRel D A h S E/\Den D A h S t v/\Post D W A h S σ (RV D A Q) (Yc j g t E)) I ⟨A,α,τ,μ,sr,mr,p.bind.mono λt b e o st m q v d=>⟨v,t,b,e,rfl,st,m,d,q⟩⟩) ?_) (by rw[z6 F];rfl) (by rw[z6 F];rfl) rfl rfl;rintro us s1 ⟨vs,S,I1,rv,v,t,E,h,rfl,st,m,d,K0,Z0,⟨⟨i,hi⟩,q⟩,k1,k2⟩;obtain⟨u,rfl,r1⟩:=vals1 rv;refine kws_cons (zbL rfl (ZS I1 m hi hD hpp J hC hB (closureFor_none hfr) λq0 c' ctv H2 s2 I2 r T R O _=>kws_nil ?_));have M:∀t b,K0 t b->∀e o,Stp h H2 e o->MRel D A e o b->RV D A Q t b e o:=λt b z e o n L=>k1 t b z e o (r.trans n) L;split at q
 .obtain⟨ad,xs,rfl,n1,n2,Z,l⟩:=d.step r;subst r1;exact W8 C hk hc hG hs hE (λs u=>.of_eq (bind1 rfl rfl)) I2 T R O Z l ⟨K0,Z0,q,M,λcc fs b z e o CC dd n L=>k2 cc fs b z e o CC dd (r.trans n) L⟩
 .obtain⟨ts,hj,q⟩:=q;obtain⟨ad,hi2,rfl⟩:=d;subst r1;obtain⟨xs,Z,l⟩:=T.ob _ ad _ hi2 hj;exact W8 C hk hc hG hs hE (λs u=>.of_eq (bind1 rfl rfl)) I2 T R O (.inl Z) l ⟨K0,Z0,q,M,λcc fs b z e o CC dd n L=>k2 cc fs b z e o CC dd (r.trans n) L⟩
 .exact z6s q
end
noncomputable def z4y:Arg->Option (Str×Pos)
 |⟨y,none,p⟩=>some (y,p)
 |_=>none
noncomputable def z5f:Arguments->Option (Str×Pos)
 |⟨[],[p],none,[],[],none,[]⟩=>z4y p
 |_=>none
noncomputable def z3P:Expr->Option ((Str×Pos)×Expr×Scope×Pos)
 |.Lambda a body b c=>(z5f a).bind λy=>some (y,body,b,c)
 |_=>none
noncomputable abbrev z4z(q:(Str×Pos)×Expr×Scope×Pos)(b:Expr):Expr:=.Lambda ⟨[],[⟨q.1.1,none,q.1.2⟩],none,[],[],none,[]⟩ b q.2.2.1 q.2.2.2
structure Ck1 where
 x:Str
 p0:Pos
 a:Expr
 ky:Str
 v:Expr
 pk:Pos
 pc:Pos
noncomputable def z52:Expr->Option Ck1
 |.Call (.Name x d) [a] [⟨some e,v,b⟩] c=>some ⟨x,d,a,e,v,b,c⟩
 |_=>none
noncomputable def z2s:ER:=λr b e=>(z52 e).bind λq=>(z3P q.v).bind λw=>wth b.lam λz j=>gd (ZZ b "sorted" q.x) λh=>gd (q.ky==("key":Str)) λ_=>(r.e b q.a).bind λf=>(r.e (kh b w.1.1 (uc w.2.2.1)) w.2.1).bind λg=>
 gd (b.calm&&noStar f.y) λi=>gd ((uc w.2.2.1).all λy=>b.U.contains y&&Yd (b.gl y)) λl=>gd (yz (kh b w.1.1 (uc w.2.2.1)) [w.1.1] w.2.2.1) λk=>gd (decide (w.2.2.2∈z.2)&&b.lnm==("<lambda>":Str)) λc=>
 some ⟨.Call (.Name "sorted" q.p0) [f.y] [⟨some "key",z4z w g.y,q.pk⟩] q.pc,WL z.1 g.d f.d,λC=>KA C (zB i).1 (qb h).1 (qb h).2 (zB i).2 (f.ok C) j (beq_iff_eq.mp (zB c).2) (of_decide_eq_true (zB c).1) l k λ_ _ _ m=>g.ok m⟩
noncomputable abbrev inT(x y:T)(μ:Mem):RE T:=match y with
 |.m i=>(match x with
  |.int z=>λK _=>∃a,μ[i]?=some (MO.d a)/\K (.bl (ze (.inl z) a).isSome) μ
  |.str z=>λK _=>∃a,μ[i]?=some (MO.d a)/\K (.bl (ze (.inr z) a).isSome) μ
  |_=>.st)
 |_=>WI .In x y μ
noncomputable abbrev YJ(f g:De):De:=λc d=>(f c d).bind λx b=>(g c b).bind λy a=>inT x y a
noncomputable abbrev jd(o b f:De):Ds:=λd j=>(f d j).out d λt g=>(o d g).out d λl e=>(b d e).out d λit c=>match l,it with
 |.m i,.int k=>λE=>(∃h,c[i]?=some (.l h)/\(0<=k/\k<h.length/\k<9223372036854775808)/\E.nx d (c.set i (.l (h.set k.toNat t))))\/(∃a,c[i]?=some (.d a)/\a.length<room/\E.nx d (c.set i (.d (wA (.inl k) t a))))
 |.m i,.str z=>λE=>∃a,c[i]?=some (.d a)/\a.length<room/\E.nx d (c.set i (.d (wA (.inr z) t a)))
 |_,_=>.st
section
theorem yb:∀{a:List (Key×T)} {b:List (Key×V)},DenK D φ α H a b->(jR b z).isSome=(ze z a).isSome
 |[],_,h=>by subst h;rfl
 |p::r,_,h=>by
  obtain⟨v,q,rfl,d,l⟩:=h;unfold ze;by_cases e:p.1=z
  .rw[if_pos e,vQ e];rfl
  .rw[if_neg e,vM e];exact yb l
theorem z0d(I:Inv X j u H s)(m:X.A.units+64<cLine)(c:MRel D φ α H μ)(d:Den D φ α H x v)(g:Den D φ α H y w)(f:RelV v C)(e:RelV w B)
  (p:Post D W φ α H u (RV D φ Q) (inT x y μ)):z5V (z5X X.prog X.w) X.A (z6I .In C B) (EP X j u Q) X.xe s:=by
 have go:∀{i:Nat} {z:Key} {a:List (Key×T)},y=.m i->v=kV z->μ[i]?=some (MO.d a)->Post D W φ α H u (RV D φ Q) (.ok (.bl (ze z a).isSome) μ)->z5V (z5X X.prog X.w) X.A (z6I .In C B) (EP X j u Q) X.xe s:=λ{i z a} r t b h=>by
  subst r;subst t;obtain⟨ad,n,rfl⟩:=g;subst e;obtain⟨q,o,l⟩:=c.ob i ad _ n b;refine z55 (by omega) I (DGet.k o) f λF E=>⟨.bl (jR q z).isSome,H,E,rfl,?_⟩;rw[yb l];exact h.here c rfl
 unfold inT at p;split at p
 .split at p
  .obtain⟨a,b,p⟩:=p.ex1;exact go (z:=.inl _) rfl d b p
  .obtain⟨a,b,p⟩:=p.ex1;exact go (z:=.inr _) rfl d b p
  .exact p.elim
 .exact Zt I m c d g f e p
theorem z2C(C:Ck D W U X k)(ho:wZ .In b=true)(E:PE X a (rdE D W f))(B:PE X b (rdE D W g)):PE X (.Compare a [.In] [b] pos) (rdE D W (YJ f g)):=by
 rintro i s N H Q I ⟨L,P,M,O,r,A,p⟩;refine zaw (thn (sub E I r A p) ?_) (j6 ho);rintro u Y ⟨v,H1,t,l,n,K,x,o,d,h,G,z⟩;refine thn (sub B K d h z) ?_;rintro S V ⟨R,Z,T,j,m,J,w,c,q,e,F,y⟩;exact z0d J C.unt e (G.step c) F x w y
theorem PostS.or{r a:En->Prop}(p:PostS D W φ α H E λE=>r E\/a E):PostS D W φ α H E r\/PostS D W φ α H E a:=by
 obtain⟨E0,q,b⟩:=p;rcases q with q|q
 .exact .inl ⟨E0,q,b⟩
 .exact .inr ⟨E0,q,b⟩
theorem X4(m:X.A.units+1<cLine):z1N X (λo i v H Q=>(∃l k xs,o=.ref l/\i=.int k/\H l=some (.l xs)/\0<=k/\k<xs.length/\k<9223372036854775808/\Q (upd H l (.l (xs.set k.toNat v))))\/(∃l j z,o=.ref l/\i=kV z/\H l=some (.dK j)/\j.length<sizeLine/\Q (upd H l (.dK (putK j z v))))):=by
 intro a s e H o i v f g u Q I c d b h;rcases h with h|⟨l,j,z,rfl,rfl,p,n,q⟩
 .exact set_list a s e H o i v f g u Q I c d b h
 .subst c;exact JU m I (DPut.k p n) d b λt r=>⟨_,r,q⟩
theorem U4(C:Sk D W Γ X k)(T:qp b=true)(ha:PE X a (rdE D W f))(ho:PE X o (rdE D W fo))(hb:PE X b (rdE D W fb)) :
  PS X (.Assign [.Subscript o b p1] a pos) (rdS D W (jd fo fb f)):=by
 rintro F s Y H E I ⟨K,α,L,μ,R,mr,p⟩;have h1:zaL [.Subscript o b p1] a pos.line X.env=pure false:=by cases a<;>rfl
 have h2:zaM [.Subscript o b p1] a X.env=pure none:=by cases a<;>rfl
 refine KQ ha (z0w ho hb (X4 (by have:=C.toCk.unt;lia)) (λv=>by cases b<;>first|(simp[qp] at T;done)|rfl)) h1 h2 rfl F s Y H E I ⟨K,α,L,μ,R,mr,(PostS.out R p).mono λt N P H1 Q m1 q v d=>?_⟩;have u:=R.step Q;refine⟨K,P,L,N,u,m1,(PostS.out u q).mono λot M O H2 B m2 q2 ov dv=>?_⟩;have m:=u.step B;refine⟨K,O,L,M,m,m2,(PostS.out m q2).mono λit Z h A j y g iv V=>?_⟩;have U:=(d.step B).step j;cases ot with
 | m i=>
  obtain⟨x,n,rfl⟩:=(dv.step j);cases it with
  |int J=>
   subst V;rcases PostS.or g with g|g
   .obtain⟨ts,e,w,g⟩:=PostS.ex1 g;obtain⟨xs,r,l⟩:=y.ob i x _ n e;have c:Stp h A h (upd A x (.l (xs.set J.toNat v))):=Stp.turn (z5E n) ⟨_,r⟩;exact .inl ⟨x,J,xs,rfl,rfl,r,w.1,l.length▸w.2.1,w.2.2,PostS.nx g c (y.turn n ((z5C.mp e).1) c ⟨_,z0,DenL.set (l.step c) (U.step c)⟩) ((m.step j).step c)⟩
   .obtain⟨S,e,w,g⟩:=PostS.ex1 g;obtain⟨G,r,l⟩:=y.ob i x _ n e;have c:Stp h A h (upd A x (.dK (putK G (.inl J) v))):=Stp.turn (z5E n) ⟨_,r⟩;exact .inr ⟨x,G,(.inl J),rfl,rfl,r,qy l▸z5S w (zF (z5K _)),PostS.nx g c (y.turn n ((z5C.mp e).1) c ⟨_,z0,Qd (U.step c) (l.step c)⟩) ((m.step j).step c)⟩
  |str z=>
   obtain⟨S,e,w,g⟩:=PostS.ex1 g;obtain⟨G,r,l⟩:=y.ob i x _ n e;have c:Stp h A h (upd A x (.dK (putK G (.inr z) v))):=Stp.turn (z5E n) ⟨_,r⟩;exact .inr ⟨x,G,(.inr z),rfl,V,r,qy l▸z5S w (zF (z5K _)),PostS.nx g c (y.turn n ((z5C.mp e).1) c ⟨_,z0,Qd (U.step c) (l.step c)⟩) ((m.step j).step c)⟩
  |_=>exact PostS.elim g
 |_=>exact PostS.elim g
theorem z24{R:β->Mem->List Addr->Hp->Prop}{kk:T->Mem->RE β}{x y:T}{v w:V}{e c:Value}(I:Inv X B E H s)(i:X.A.units+64<cLine)(h:MRel D φ α H μ)(l:Den D φ α H x v)(k:Den D φ α H y w)(g:RelV v e)(f:RelV w c)
  (p:Post D W φ α H E R ((inT x y μ).bind kk)):z5V (z5X X.prog X.w) X.A (z6I .In e c) (EP X B E λz C=>∃t u j,Stp α H j C/\MRel D φ j C u/\Den D φ j C t z/\Post D W φ j C E R (kk t u)) X.xe s:=
 z0d I i h l k g f (p.bind.mono λt a b n st m q v d=>⟨t,a,b,st,m,d,q⟩)
theorem Jk(C:Ck D W Γ X k)(ho:wZ .In b=true)(O:PE X a (rdE D W f))(N:PE X b (rdE D W g)):PT X (.Compare a [.In] [b] pos) (rdT D W (tE (YJ f g))):=by
 rintro m s σ H Q I ⟨Z,α,τ,μ,E,M,p⟩;refine z8S (thn (sub O I E M p) ?_) (j6 ho);rintro u s1 ⟨v,H1,t,q,x,V,J,A,h,l,S,L⟩;refine thn (sub N V h l L) ?_;rintro u' s2 ⟨v',H2,t',o,w,U,G,e,B,j,R,K⟩;refine thn (z24 U C.unt j (S.step e) R J G K) ?_;rintro d s3 ⟨z,Y,T,F,t3,n,r,y,i,P,c⟩;unfold ZQ at c;split at c
 .subst P;subst F;exact z6m ⟨Y,T,c.ok (Stp.refl _ _) i⟩
 .exact c.elim
end
noncomputable def z4j(a:Cn)(b:Expr):Bool:=match b with
 |.Name x _=>(idx a.N x).isSome
 |_=>false
noncomputable def z3I (r:Rec)(c:Cn)(e:Expr):Option (CB c):=(Ui e).bind λq=>gd (z4j c q.b) λ_=>(r.e c q.a).bind λf=>(r.e c q.b).bind λg=>gd (wZ .In g.y) λh=>(match q.op with
 |.In=>some ⟨.Compare f.y [.In] [g.y] q.p,YJ f.d g.d,λC=>⟨z2C C h (f.ok C) (g.ok C),Jk C h (f.ok C) (g.ok C)⟩⟩
 |_=>none)
noncomputable def CB.eb{a:Cn}(c:CB a):EB a:=⟨c.y,c.d,λC=>(c.e C).1⟩
noncomputable def CB.tb{a:Cn}(c:CB a):TB a:=⟨c.y,tE c.d,λC=>(c.e C).2⟩
noncomputable def z4t:ER:=λr a e=>(z3I r a e).bind λc=>some c.eb
noncomputable def z3B:TR:=λr a e=>(z3I r a e).bind λc=>some c.tb
noncomputable def z0z:SR:=z5a jd λC h f o b=>U4 C h f o b
section
variable {os:OsState}{sub:List Value}
theorem JD(F:zbr B j u D)(n:zbi h D I) 
  (f:h.get? C=some (z7E nm q C N bs I hdct sn sub ab col dd k0 k1 k2 k3 k5 j)) (K:h.Ns N H) (L:H "__init__"=some (.ref fI)) (v:h.get? fI=some J) (y:J.cls=.type "function")
  (go:∀h1 x,z9s h h1 x (.ref C) s->z5V (z5X prog w) A (call (.ref fI) (.ref x::s)) (λr G=>r=.none/\Q (.done (.ret (.ref x))) G) E ⟨h1,g,d,t,os⟩) (k:s.length<=sizeLine) :
  z5V (z5X prog w) A (zc_.«type.__call__» ⟨.ref C::s,[]⟩) Q E ⟨h,g,d,t,os⟩:=by
 repeat (first|(with_reducible refine z8b f ?_)|(with_reducible refine wpAny_madeBy_exc f ?_)|wp_step)
 refine codeAny_call_builtin_code (zb2 _ F.quiet) (wpAny_check_new_subT F n f (codeAny_exc_new_subT F n f ?_ k));let i:Obj:={cls:=.type "tuple",data:=.seq s.toArray};let a:Obj:={cls:=.ref C,data:=.fields #[.ref h.objs.size,.none,.none,.none,.bool false,.none]};have up:∀b o,h.get? b=some o->((h.push i).push a).get? b=some o:=λb o e=>z5I _ (z5I _ e);have c:=up _ _ f;have m:((h.push i).push a).Ns N H:=by
  obtain⟨o,M,O,e,r⟩:=K;exact⟨o,M,O,up _ _ e,r⟩
 have p:((h.push i).push a).get? (h.objs.size+1)=some a:=by
  have:=z6a (h.push i) (o:=a) rfl;rw[z7b] at this;exact this
 have own:(z6u C::I).contains (.ref C)=true:=by simp
 have P:=n.keeps up;repeat (first|(with_reducible refine z8b p ?_)|(with_reducible refine zaK c ?_;rw[own])|wp_step)
 refine wpAny_typeLookup_tail c m P F.mroIs F.init.lookup ?_;rw[L];refine z6p (z5D (z5D (z8K ⟨_,(up _ _ v),y⟩ (z5Q (z5D (z6r (go _ _ ⟨up,z6M (z8g _),h.objs.size,p,z6M (z5K _),z5I _ (zbs rfl rfl)⟩) (λr G l=>?_) λ_ _ z=>z))))));obtain⟨rfl,l⟩:=l;wp_walk;exact l
theorem Js(F:zbr B j u z)(k:zbi h z I) 
  (b:h.get? C=some (z7E nm q C N bs I hdct sn sub ab col dd k0 k1 k2 k3 k5 j)) (f:h.Ns N H) (i:H "__init__"=some (.ref fI)) (c:h.get? fI=some G) (e:G.cls=.type "function")
  (go:∀h1 x,z9s h h1 x (.ref C) s->z5V (z5X prog w) (A.under (.builtin "type.__call__" ⟨.ref C::s,[]⟩)) (call (.ref fI) (.ref x::s)) (λr D=>r=.none/\Q (.ref x) D) E ⟨h1,g,d,t,os⟩) (a:s.length<=sizeLine) :
  z5V (z5X prog w) A (call (.ref C) s) Q E ⟨h,g,d,t,os⟩:=by
 have m:=tc_lookup;have l:=tc_bind (.ref C);refine z8C (codeAny_of_tree ?_);repeat (any_goals (first|assumption|(with_reducible refine z8b b ?_)|wp_step))
 refine⟨rfl,codeAny_call_builtin_at (zb2 _ (by decide +kernel)) entry_typeCall (wpAny_check_type_call_sub b ?_)⟩;exact JD F k b f i c e (λh1 x mk=>go h1 x mk) a
theorem y9 (a:B.contains (.type "BaseException")=true) (c:A.handled=none)
  (go:z5V M A x (λv j=>∃e t w,v=.ref e/\j.heap.get? C=some (z7E nm q C N bs B hdct sn sub ab col dd k0 k1 k2 k3 k5 u)/\
   j.heap.get? e=some {cls:=.ref C,dict:=w,data:=.fields #[.ref t,.none,.none,.none,.bool false,.none]}/\E (.ref e) j) E s) :
  z5V M A (raiseStmt env (some x) none) Q E s:=by
 have isB:(z6u C::B).contains (.type "BaseException")=true:=by rw[z9v,a];simp
 refine z5D (z6r go (λv j k=>?_) λ_ _ z=>z);obtain⟨e,t,w,rfl,b,ge,d⟩:=k;obtain⟨h,i,l,f,g⟩:=j;repeat (first|(with_reducible refine z8b ge ?_)|(with_reducible refine z8b b ?_)|(with_reducible refine zaK b ?_;rw[isB])|wp_step)
 exact wpAny_raiseNew_none c d
end
section
variable {sub:List Value}
theorem Y3(F:zbr B u j z)(i:zbi s.heap z D){e:Addr}{ob:Obj}{vs:Array Value}{t0:Addr}{rest:List Value}{Q:Value->z5W->Prop}
  (f:s.heap.get? C=some (z7E nm q C N bs D hdct sn sub ab col dd k0 k1 k2 k3 k5 u)) (he:s.heap.get? e=some ob) (c:ob.cls=.ref C) (hd:ob.data=.fields vs) (h0:vs[0]?=some (.ref t0))
  (h:Q .none {s with heap:=(s.heap.push {cls:=.type "tuple",data:=.seq rest.toArray}).update e (z7N (·.setIfInBounds 0 (.ref s.heap.objs.size)))}) (b:rest.length<=sizeLine) :
  z5V (z5X prog w) A (call (.builtin j) (.ref e::rest)) Q E s:=by
 obtain⟨k,g,d,t,os⟩:=s;refine z8C (zaC F.init.plain F.initEntry (wpAny_check_init_subT F i f he c ?_));unfold zc_.«BaseException.__init__»;have a:=z5I {cls:=.type "tuple",data:=.seq rest.toArray} he;refine z5D (z7e (z5D (z5D (z7n a hd h0 (z5D (z9r a hd ((z70.mp h0).1) ?_))))) (by show rest.toArray.size<=sizeLine;rw[z63];exact b));exact wpAny_letGo (z5Q h)
end
noncomputable def vV:List Value->Bool
 |.ref _::r=>vV r
 |l=>l==qS
theorem vS(self:Value):∀{l:List Value},vV l=true->PySem.refuseLoop self "__setattr__" l=pure ()
 |.ref c::r,e=>by rw[refuseLoop_ref];exact vS self e
 |.type n::r,e=>by rw[show zc3 n::r=qS from beq_iff_eq.mp e];exact z9H.passes self
 |[],e=>by injection e
 |v::r,e=>by
  unfold vV at e;split at e
  .rename_i h;(injection h with h a;subst h;subst a);rw[refuseLoop_ref];exact vS self e
  .rw[beq_iff_eq.mp e];exact z9H.passes self
theorem ju:∀{l:List Value},vV l=true->l.contains (.type "object")=true
 |.ref c::r,e=>by rw[z9v,ju (l:=r) e,zbj]
 |[],e=>by injection e
 |v::r,e=>by
  unfold vV at e;split at e
  .rename_i h;(injection h with h a;subst h;subst a);rw[z9v,ju e,zbj]
  .rw[beq_iff_eq.mp e];decide
section
variable {K:PySem.W.Frag}
theorem Uy(X:K.In s.heap)(D:s.heap.get? x=some u)(hc:u.cls=.ref C)(H:PySem.W.notCls u=true)(hd:u.dict=none)
  (hs:z6g K (.ref C) "__setattr__"=some (some (.builtin "object.__setattr__"))) (hp:((z8Y K C).any λcd=>vV cd.mro)=true) (ht:z6g K (.ref C) name=some none) (hh:z7x K C=true)
  (h:∀h' tk,h'.get? x=some {u with dict:=some s.heap.objs.size}->h'.Ns1 s.heap.objs.size (λy=>if y=name then some v else none)->(∀b o,b≠x->s.heap.get? b=some o->h'.get? b=some o)->Q () {s with heap:=h',toks:=tk}) :
  z5V (z5X prog w) A (setAttr (.ref x) name v) Q E s:=by
 have J:zc6 s.heap x u C none:=⟨D,hc,H,by rw[hd];trivial⟩;refine zb8 X J hs ?_;have L:=PySem.F.store_object;obtain⟨cd,n,M⟩:=z9K hp;obtain⟨cd',j,p⟩:=z9K hh;rw[n] at j;(replace j:=zm j;subst j);have ne:cd.mro.isEmpty=false:=by cases q:cd.mro with|nil=>rw[q] at M;injection M|cons _ _=>rfl
 refine zaC L.slot.plain L.entry (@PySem.W.check_slot (z5X prog w) _ _ {s with toks:=s.toks+1} "object.__setattr__" "object" "__setattr__" (.ref x) [.str name s.toks,v] [] _ L.kind L.split (J.type.andThen (PySem.W.looks_mroIn X (by unfold z6U;rw[n,z9Q,if_neg (by rw[ne];decide),ju M]))) (L.args (.ref x) (.str name s.toks) v) ?_);rw[PySem.W.osa_eq,refuse_eq];refine z5D (z5D (z7q J.type (z5D (z7q ((z9b X n).andThen .now) ?_))));rw[vS _ M];refine z5Q (z5D (z7q J.type (z5D (z7q (zaq X ht) (z5D (z5Q ?_))))));obtain⟨i,g,dr,t,os⟩:=s;obtain⟨oc,Z,m,N⟩:=u;subst hc hd;have G:∀c,m≠.cls c:=λc z=>by subst z;injection H
 refine z5D (z5Q (z5D (z5D (wpAny_loadPart D (z5D (z7q (z9b X n) ?_))))));rw[p];have l:(i.push {cls:=.type "dict",data:=.dict #[]}).get? x=some ⟨.ref C,none,m,N⟩:=z5I _ D;have B:=z6b (z5U D)
 have go:z5V (z5X prog w) A.in1 (do
   let d ←alloc {cls:=.type "dict",data:=.dict #[]}
   update x λo=>{o with dict:=some d}
   dictMade (.ref C) x d) (λa k=>z5V (z5X prog w) A.in1 (match a with
    |some d=>zbM d (.str name t) name v
    |none=>zbW (.ref x) (.ref C) name false) (λfin k=>match fin with|.done f=>(match (Except.ok f) with|.ok (.ret _)=>Q () k|.ok _=>False|.error e=>E e k)|.again Y=>Y.quiet=true/\z8B (z5X prog w) A Y (λr k=>match r with|.ok (.ret _)=>Q () k|.ok _=>False|.error e=>E e k) k) (λe k=>E e k) k) (λe k=>E e k) ⟨i,g,dr,t+1,os⟩:=by
  refine z5D (wpAny_alloc' (z5D (wpAny_update' l (z5Q ?_))))
  have R:((i.push {cls:=.type "dict",data:=.dict #[]}).update x λo=>{cls:=o.cls,dict:=some i.objs.size,data:=o.data,slots:=o.slots}).get? i.objs.size
    = some {cls:=.type "dict",data:=.dict #[]}:=
   (z9d _ _ _ _ B.symm).trans (zbs rfl rfl)
  have P:((i.push {cls:=.type "dict",data:=.dict #[]}).update x λo=>{cls:=o.cls,dict:=some i.objs.size,data:=o.data,slots:=o.slots}).Ns i.objs.size (λ_=>none):=
   ⟨_,#[],_,R,rfl,λe he=>absurd he sC,λ_=>rfl⟩
  refine z5D (z5Q (z5D (wpAny_nsSet1 (zb9 P) λh' I hs=>?_)));obtain⟨oD,esD,epD,O,S,T⟩:=I.count (zdn name v Within.nil);refine z5D (zbD O (S▸zbE (z66 T (by rw[z6l,z7u,z6y];lia))) ?_);refine z5Q (h h' _ ?_ ?_ ?_)
  .refine (hs.2 x B).trans (z85 _ l ?_);cases m<;>first|rfl|exact ((Heap.get?_some_iff.mp D).2)
  .obtain⟨o',es,ep,e1,e2,e3,eu,e4⟩:=I;exact⟨o',es,ep,e1,e2,e3,eu,λy=>by rw[e4 y]⟩
  .intro b o U V;exact (hs.2 b (z6b (z5U V))).trans ((z9d _ _ _ _ U).trans (z5I _ V))
 cases m<;>first|exact absurd rfl (G _)|exact go
end
set_option tactic.hygienic true in
theorem kJ{K:z5M}(X:K.In h)(e:zcg K N=true)(q:z9g K N x=some (some v)):h.nsMap N x=some v:=by
 obtain⟨o,l,m,b,hd,_,f⟩:=(Heap.Ns.of_isNs (z9u X e));unfold z9g at q;split at q
 .rename_i c d i k j a;have:=X _ _ a;rw[b] at this;(replace this:=zm this;subst this);cases hd;split at q
  .rename_i g;(injection q with q;injection q with q;subst q);rw[<-f];unfold nsFind findBy;rw[<-zaR,g];rfl
  .split at q<;>cases q
 .exact z7 q
theorem XIn.mro{K:z5M}(x:XIn K C HE fI fl):((z8Y K C).any λcd=>vV cd.mro)=true:=by
 obtain⟨N,nm,q,bs,hd,sn,sub,ab,col,dd,k0,k1,k2,k3,k5,h,_⟩:=x.cls;unfold z8Y;rw[h];show vV qS=true;decide
theorem XIn.at_{K:z5M}(x:XIn K C HE fI fl)(X:K.In h):∃N nm q bs hd sn sub ab col dd k0 k1 k2 k3 k5,h.get? C=some (z7E nm q C N bs (.ref HE::qS) hd sn sub ab col dd k0 k1 k2 k3 k5 "ValueError.__new__")/\h.Ns N (h.nsMap N)/\h.nsMap N "__init__"=some (.ref fI)/\zbi h qS (.ref HE::qS):=by
 obtain⟨N,nm,q,bs,hd,sn,sub,ab,col,dd,k0,k1,k2,k3,k5,h1,h2,l⟩:=x.cls;obtain⟨tl,w,d,t,r,k,c,a,s,b,p,j,i,g,f,e,u,o,n,m,v⟩:=QC X x.he;exact⟨N,nm,q,bs,hd,sn,sub,ab,col,dd,k0,k1,k2,k3,k5,X _ _ h1,.of_isNs (z9u X h2),kJ X h2 l,.own o n m .base⟩
section
theorem Ua (hN:X.N[1]?=some par) (l:Vis X.env.scope par) (hd:(par==("__debug__":Str))=false) (g:(par==("__classdict__":Str))=false) (L:a.length<=1000) (K:b.length<=1000) :
  PE X (.JoinedStr [.Constant (.str a) M p1,.FormattedValue (.Name par p2) (-1) none E,.Constant (.str b) kb D] C) (λj H Q=>∃i:Int,j[1]?=some (some (.int i))/\i.natAbs.log2<1920/\∀z,Q (.str z) H):=by
 rintro c s j H Q I ⟨i,m,d,q⟩;have O:(z8m (toString i)).length<=1921:=by rw[zak];exact (zb3 dC d)
 refine zbX (thn (Zk c s j H (λv e=>v=.str a/\e=H) I ⟨rfl,rfl⟩) ?_);rintro u k ⟨v,e,t,r,rfl,rfl⟩;obtain⟨A,rfl⟩:=r;have J:(z9h++a).length<=1000:=by rw[z8Z];show 0+a.length<=1000;lia
 refine⟨_,_,rfl,by rw[z6y];lia,?_⟩;refine z9w (thn (kF hN l hd g c k j e (λv f=>v=.int i/\f=e) t ⟨_,m,rfl,rfl⟩) ?_);rintro u h ⟨v,f,p,r,rfl,rfl⟩;obtain⟨y,rfl⟩:=r;refine zal d ?_;have G:(z9h++a++z8m (toString i)).length<=3000:=by rw[z8Z];lia
 refine⟨_,_,rfl,by rw[z6y];lia,?_⟩;have o:Inv X c j f {h with toks:=h.toks+1+1}:=p.kept λ_ _ q=>q;refine thn (Zk c _ j f (λv e=>v=.str b/\e=f) o ⟨rfl,rfl⟩) ?_;rintro u B ⟨v,w,n,r,rfl,rfl⟩;obtain⟨x,rfl⟩:=r;have F:(z9h++a++z8m (toString i)++b).length<=5000:=by rw[z8Z];lia
 refine⟨_,_,rfl,by rw[z6y];lia,by rw[z6y];lia,?_⟩;exact⟨.str _,w,n.kept λ_ _ q=>q,⟨_,rfl⟩,q _⟩
theorem KW (hN:X.N[1]?=some par) (h:Vis X.env.scope par) (hd:(par==("__debug__":Str))=false) (e:(par==("__classdict__":Str))=false) (y:a.length<=1000) :
  PE X (.JoinedStr [.Constant (.str a) C p1,.FormattedValue (.Name par p2) (-1) none B] w) (λj H Q=>∃i:Int,j[1]?=some (some (.int i))/\i.natAbs.log2<1920/\∀z,Q (.str z) H):=by
 rintro b s j H Q I ⟨i,k,c,q⟩;have A:(z8m (toString i)).length<=1921:=by rw[zak];exact (zb3 dC c)
 refine zbX (thn (Zk b s j H (λv d=>v=.str a/\d=H) I ⟨rfl,rfl⟩) ?_);rintro u g ⟨v,d,m,r,rfl,rfl⟩;obtain⟨o,rfl⟩:=r;have x:(z9h++a).length<=1000:=by rw[z8Z];show 0+a.length<=1000;lia
 refine⟨_,_,rfl,by rw[z6y];lia,?_⟩;refine z9w (thn (kF hN h hd e b g j d (λv f=>v=.int i/\f=d) m ⟨_,k,rfl,rfl⟩) ?_);rintro u p ⟨v,f,l,r,rfl,rfl⟩;obtain⟨n,rfl⟩:=r;refine zal c ?_;have t:(z9h++a++z8m (toString i)).length<=3000:=by rw[z8Z];lia
 refine⟨_,_,rfl,by rw[z6y];lia,by rw[z6y];lia,?_⟩;exact⟨.str _,f,l.kept λ_ _ q=>q,⟨_,rfl⟩,q _⟩
noncomputable def Wd(par:Str)(c:List Expr):Prop:=
 (∃(a b:Str) (g kb:Nat) (f e d h:Pos),c=[.Constant (.str a) g f,.FormattedValue (.Name par e) (-1) none d,.Constant (.str b) kb h]/\a.length<=1000/\b.length<=1000)\/
 ∃(a:Str) (g:Nat) (f e d:Pos),c=[.Constant (.str a) g f,.FormattedValue (.Name par e) (-1) none d]/\a.length<=1000
theorem KY (hN:X.N[1]?=some par) (e:Vis X.env.scope par) (hd:(par==("__debug__":Str))=false) (c:(par==("__classdict__":Str))=false) (h:Wd par j) :
  PE X (.JoinedStr j u) (λs H Q=>∃i:Int,s[1]?=some (some (.int i))/\i.natAbs.log2<1920/\∀z,Q (.str z) H):=by
 rcases h with⟨a,b,l,kb,k,g,f,n,rfl,d,m⟩|⟨a,l,k,g,f,rfl,d⟩
 .exact Ua hN e hd c d m
 .exact KW hN e hd c d
theorem Ut (T:XIn X.K C HE fI fl) (A:X.N[0]?=some j) (n:Vis X.env.scope j) (v:(j==("__debug__":Str))=false) (m:(j==("__classdict__":Str))=false)
  (hN:X.N[1]?=some par) (hv:Vis X.env.scope par) (hd:(par==("__debug__":Str))=false) (y:(par==("__classdict__":Str))=false) (r:Wd par w)
  (hB:Gl X B) (hm:X.mg B=some (.ref HE)) (G:(B==("__debug__":Str))=false) (p:z7D X.K (.ref HE) "__getattribute__"=some (some (.builtin "type.__getattribute__"))) (hr:zbY X.K HE (.type "type")=true)
  (hf:zbZ X.K (.ref HE) (.type "type") "__init__"=some (.val (.builtin "ValueError.__init__"))) (d:(M.endLine==E.line)=true) :
  PE X (.Call (.Attribute (.Name B q0) "__init__" M) [.Name j q2,.JoinedStr w p5] [] E) (λD H Q=>∃(x:Addr) (i:Int),D[0]?=some (some (.ref x))/\D[1]?=some (some (.int i))/\i.natAbs.log2<1920/\H x=some (.ext (uf x C))/\Q .n (upd H x (.ext (uf x C)))):=by
 rintro c s D H Q I ⟨x,i,h0,S,l,R,q⟩;refine z5D (qL I hB hm (z5D (z6R ?_)) G);have g:z8y true (.Name B q0) X.env M E=pure E:=by unfold z8y;simp[d]
 refine z5D (z6p (PySem.W.method_cls I.kIn p (PySem.W.cls_value I.kIn hr hf rfl (z5D (z9D g ?_)))));have I1:Inv X c D H {s with toks:=s.toks+1}:=I.kept λ_ _ q=>q;refine PySem.W.callWith_of (P:=λ_=>True) rfl (λh _=>⟨.machine,.inr (.inl rfl),zd6 rfl⟩) (z7A (thn ((zI (kF A n v m) (zI (KY hN hv hd y r) qr)) E c _ D H (λL H1=>∃z,L=[.ref x,.str z]/\H1=H) I1 ⟨_,h0,i,S,l,λz=>⟨z,rfl,rfl⟩⟩) ?_));rintro U a ⟨L,H2,J,V,z,rfl,rfl⟩;obtain⟨f,rfl⟩:∃f,U=[.ref x,f]:=by
  cases V with
  |cons r1 Z=>cases Z with
   |cons r3 Y=>cases Y;subst r1;exact⟨_,rfl⟩
 refine⟨trivial,?_⟩;obtain⟨N,nm,qn,bs,hdd,sn,sub,ab,col,dd,k0,O,k2,k3,k5,g1,g2,g3,g4⟩:=T.at_ J.kIn;obtain⟨t,ex⟩:uf x C a.heap:=(J.hok _ _ R).1;refine Y3 (rest:=[f]) z71 g4 g1 ex rfl rfl rfl ?_ (by rw[z6y];show 1<=_;lia);have ex1:=z5I (h:=a.heap) {cls:=.type "tuple",data:=.seq [f].toArray} ex;have O:∀b u,b≠x->a.heap.get? b=some u->((a.heap.push {cls:=.type "tuple",data:=.seq [f].toArray}).update x (z7N (·.setIfInBounds 0 (.ref a.heap.objs.size)))).get? b=some u:=λb u hb hu=>by
  rw[z6Z _ _ (z6f hb)];exact z5I _ hu
 have ex2:((a.heap.push {cls:=.type "tuple",data:=.seq [f].toArray}).update x (z7N (·.setIfInBounds 0 (.ref a.heap.objs.size)))).get? x=some {cls:=.ref C,data:=.fields #[.ref a.heap.objs.size,.none,.none,.none,.bool false,.none]}:=by
  rw[z85 _ ex1 rfl];rfl
 exact⟨.n,_,J.write (x:=x) (e:=x) (o:=.ext (uf x C)) (t':=a.toks) (R▸z76) (.inl rfl) O ⟨_,ex2⟩ ⟨⟨_,ex2⟩,⟨_,ex2⟩,λS h2 ⟨t,e⟩ k=>⟨t,k _ e⟩⟩,rfl,q⟩
theorem Y0 (h:XIn X.K C HE fI fl) (E:X.N[0]?=some j) (n:Vis X.env.scope j) (y:(j==("__debug__":Str))=false) (g:(j==("__classdict__":Str))=false)
  (hN:X.N[1]?=some par) (P:Vis X.env.scope par) (hd:(par==("__debug__":Str))=false) (A:(par==("__classdict__":Str))=false) :
  PS X (.Assign [.Attribute (.Name j q0) fl q1] (.Name par q2) q3) (λD w H=>∃(x:Addr) (i:Int),w[0]?=some (some (.ref x))/\w[1]?=some (some (.int i))/\H x=some (.ext (uf x C))/\∀B,H B=none->B≠x->D.nx w (upd (upd H x (.ext (uB x C B))) B (.xd [(fl,.int i)]))):=by
 rintro a s w H D I ⟨x,i,U,L,J,q⟩;refine z8Q (thn (kF hN P hd A a s w H (λv m=>v=.int i/\m=H) I ⟨_,L,rfl,rfl⟩) ?_) rfl;rintro u M ⟨v,m,I1,r,rfl,rfl⟩;refine thn (kF E n y g a M w m (λv G=>v=.ref x/\G=m) I1 ⟨_,U,rfl,rfl⟩) ?_;rintro ov l ⟨v,G,d,O,rfl,rfl⟩;subst O;obtain⟨t,ex⟩:uf x C l.heap:=(d.hok _ _ J).1;refine Uy d.kIn ex rfl rfl rfl h.sa h.mro h.no h.dct λV tk F Y W=>?_;have S:=d.hok.fresh (z5K _);have ne:=z7l (z5U ex);refine⟨w,_,?_,q _ S ne⟩;have c:=vy d (z6M (z5K _));have o:∀p∈a,p.1≠l.heap.objs.size:=λp R z=>by
  have:=(d.pin p (z5R _ R)).1;rw[z,z6M (z5K _)] at this;exact z7 this
 have Z:Inv X a w (upd G x (.ext (uB x C l.heap.objs.size))) {l with heap:=V,toks:=tk}:=d.write (J▸z76) (.inl rfl) (λb u T Q=>W b u T Q) ⟨_,F⟩ ⟨⟨t,F⟩,⟨_,F⟩,λL h2 ⟨t,e⟩ k=>⟨t,k _ e⟩⟩;refine vh Z ⟨z4 ne▸c.free,c.loc,c.nfs,c.new,c.cel,c.pin⟩ o ⟨_,Y,λf=>?_⟩;by_cases z:f=fl
 .subst z;simp only[z7y,beq_self_eq_true];exact r
 .rw[if_neg z];have:=beq_eq_false_iff_ne.mpr z;simp only[z7y,this];exact trivial
end
noncomputable def z00(body:List Stmt)(B b par fl:Str):Prop:=∃(k d j l c i h g f e:Pos) (a:List Expr),
 body=[.Expr (.Call (.Attribute (.Name B k) "__init__" d) [.Name b j,.JoinedStr a l] [] c) i,.Assign [.Attribute (.Name b h) fl g] (.Name par f) e]/\(d.endLine==c.line)=true/\Wd par a
noncomputable def scI (a par B:Str)(sc:Scope):Bool:=(sc.kind==.function)&&!sc.isCoroutine&&!sc.isGenerator&&(a != par)&&(sc.names.lookup a==some .local)&&(sc.names.lookup par==some .local)&&sc.names.all (λy=>y.2 != .free)&&(sc.names.lookup B==some .globalImplicit)&&
 (a != ("__debug__":Str))&&(a != ("__classdict__":Str))&&(par != ("__debug__":Str))&&(par != ("__classdict__":Str))&&(B != ("__debug__":Str))
section
variable {K:PySem.W.Frag}
structure HIn(K:PySem.W.Frag)(mg:Str->Option Value)(HE:Addr)(B:Str):Prop where
 mg:mg B=some (.ref HE)
 ga:z7D K (.ref HE) "__getattribute__"=some (some (.builtin "type.__getattribute__"))
 rd:zbY K HE (.type "type")=true
 fc:zbZ K (.ref HE) (.type "type") "__init__"=some (.val (.builtin "ValueError.__init__"))
theorem z3M{a par B:Str}{params:Arguments}{body:List Stmt}{I kV m G b ct O:Value}{J N:Option Addr} 
  (F:XIn K C HE fI fl) (hi:HIn K mg HE B) (lk:K.lookup fI=some ⟨O,N,.func (z6O name j params body scope I kV m G J b ct),M⟩) (r:z7W K b j=true) (hf:z00 body B a par fl) (hs:scI a par B scope=true) :
  FnOk P w K mg base CX (k+1) fI (z6O name j params body scope I kV m G J b ct) [a,par] (spI C fl):=by
 simp only[scI,z5P,z6n,beq_iff_eq,z7G,bne_iff_ne,ne_eq] at hs;obtain⟨⟨⟨⟨⟨⟨⟨⟨⟨⟨⟨⟨Z,Y⟩,X⟩,V⟩,u⟩,t⟩,U⟩,T⟩,R⟩,D⟩,z⟩,y⟩,v⟩:=hs;have S:FnScope [a,par] [a,par] scope:=⟨Z,Y,X,by simp[V],rfl,λx c=>by
  rcases z61.mp c with rfl|c
  .exact .inl u
  .rw[z5F.mp c];exact .inl t,U⟩
 obtain⟨q0,q1,q2,p5,q4,q5,r0,r1,r2,r3,n,rfl,c5,c6⟩:=hf;refine z02 (fnb:=λ_=>true) lk r S (λL H Q E q=>by obtain⟨x,i,rfl,_⟩:=q;rfl) λA o s H L Q E hr p _=>?_;obtain⟨x,i,rfl,d,c,q⟩:=p;have g:=beq_eq_false_iff_ne.mpr R;have l:=beq_eq_false_iff_ne.mpr D;have f:=beq_eq_false_iff_ne.mpr z;have h:=beq_eq_false_iff_ne.mpr y;refine⟨_,Qw (VW (Ut (C:=C) (HE:=HE) (fI:=fI) (fl:=fl) F rfl (.inl u) g l rfl (.inl t) f h c6 T hi.mg (beq_eq_false_iff_ne.mpr v) hi.ga hi.rd hi.fc c5)) (UL (Y0 (C:=C) (HE:=HE) (fI:=fI) F rfl (.inl u) g l rfl (.inl t) f h)),x,i,rfl,rfl,d,c,x,i,rfl,rfl,z0,λdx e ne=>?_⟩;rw[VH];exact q dx (by rw[z4 ne] at e;exact e) ne
theorem z1M{a par B:Str}{params:Arguments}{body:List Stmt}{f kV c e b ct l:Value}{g i:Option Addr} 
  (h:XIn K C HE fI fl) (hi:HIn K mg HE B) (lk:K.lookup fI=some ⟨l,i,.func (z6O name j params body scope f kV c e g b ct),s⟩) (d:z7W K b j=true) (hf:z00 body B a par fl) (hs:scI a par B scope=true) :
  FnOk P w K mg base CX (k+1) fI (z6O name j params body scope f kV c e g b ct) [a,par] (spI C fl):=z3M h hi lk d hf hs
theorem QS(I:Inv X j w (upd H x (.ext φ)) s)(i:H x=none):Inv X j w H s:=by
 have nn:∀b,upd H x (.ext φ) b=none->H b=none:=λb e=>by
  by_cases z:b=x
  .rw[z];exact i
  .rw[z4 z] at e;exact e
 have d:∀b o,upd H x (.ext φ) b=some o->(∀a,o≠.ext a)->H b=some o:=λb o e n=>by
  by_cases z:b=x
  .rw[z,z0] at e;(replace e:=zm e;subst e);exact absurd rfl (n φ)
  .rw[z4 z] at e;exact e
 refine⟨I.ok,I.os,I.bare,⟨I.base.keep,I.base.slot,λb o e n h=>nn b (I.base.free b o e n h),I.base.there,λb xs e=>d b _ (I.base.tups b xs e) (λa z=>by injection z),λb o u e=>d b _ (I.base.frzs b o u e) (λa z=>by injection z),λb k e=>?_⟩,I.loc,I.cell,nn _ I.free,λy c e=>(I.freeC y c e).imp (nn _) λ⟨n,o,u,f⟩=>⟨n,o,u,d c _ f (λa z=>by injection z)⟩,λp l=>?_,λb ob e=>?_,I.len⟩
 .obtain⟨g,q⟩:=I.base.tbls b k e;exact⟨g,d b _ q (λa z=>by injection z)⟩
 .obtain⟨e,n,r⟩:=I.pin p l;exact⟨e,nn _ n,r⟩
 .have ne:b≠x:=λz=>by rw[z,i] at e;exact z7 e
  have q:=I.hok b ob (z4 ne▸e);exact q.stay (λ_ _ _ q=>q) (λc q=>d c _ q (λa z=>by injection z)) λc xs q=>d c _ q (λa z=>by injection z)
end
section
theorem Xr{a b:HO}(h:x≠y):upd (upd H x a) y b=upd (upd H y b) x a:=by
 funext c;by_cases z:c=y
 .subst z;rw[z0,z4 (z6f h),z0]
 .rw[z4 z];by_cases d:c=x
  .subst d;rw[z0,z0]
  .rw[z4 d,z4 d,z4 z]
theorem Uv(L:XIn X.K C HE fI fl)(V:Binds X.K fd ps [])(R:Room (kk+1) X.A)
  (F:FnOk X.prog X.w X.K X.mg X.base (CX1 X.prog X.w) kk fI fd ps (spI C fl)) (I:Inv X B M H s) (r:RelV (.int i) u) (b:i.natAbs.log2<1920)
  (q:∀x j t D,Inv X B M (upd H j (.xd [(fl,.int i)])) D->H j=none->XOk X H x->j≠x->D.heap.get? x=some {cls:=.ref C,dict:=some j,data:=.fields #[.ref t,.none,.none,.none,.bool false,.none]}->Q (.ref x) D) :
  z5V (z5X X.prog X.w) X.A (call (.ref C) [u]) Q X.xe s:=by
 obtain⟨N,nm,qn,bs,U,sn,sub,ab,col,dd,k0,k1,k2,k3,k5,g1,g2,g3,Z⟩:=L.at_ I.kIn;obtain⟨m,W,Y⟩:∃m,s.heap.get? fI=some m/\m.cls=.type "function":=by
  obtain⟨o,f,e⟩:=z6q.mp L.fn;exact⟨o,I.kIn _ _ f,e⟩
 obtain⟨hh,O,d,tk,os⟩:=s;refine Js z71 Z g1 g2 g3 W Y (λy x mk=>?_) (by rw[z6y];show 1<=_;lia);have l:=vy I mk.new;have n:∀p∈B,p.1≠x:=λp S z=>by
  have:=(I.pin p (z5R _ S)).1;rw[z,mk.new] at this;exact z7 this
 obtain⟨t,f,_,_⟩:=mk.there;have J:Inv X B M (upd H x (.ext (uf x C))) ⟨y,O,d,tk,os⟩:=vh (I.kept (t':=tk) mk.keeps) l n ⟨⟨t,f⟩,⟨_,f⟩,λy h2 ⟨t,e⟩ k=>⟨t,k _ e⟩⟩;have T:([z6u x,u]++[]).length=ps.length:=by
  have:=F.len [.ref x,.int i] (upd H x (.ext (uf x C))) (λ_ _=>True) (λ_ _ _=>False) ⟨x,i,rfl,b,z0,λ_ _ _=>trivial⟩;exact this
 refine z8C (z7B (F.run _ X.stack ⟨y,O,d,tk,os⟩ (upd H x (.ext (uf x C))) ⟨[.ref x,u],[]⟩ [.ref x,u] [.ref x,.int i] (λv P=>v=.n/\∃j,H j=none/\j≠x/\P=upd (upd H x (.ext (uB x C j))) j (.xd [(fl,.int i)])) (λ_ _ _=>False) (R.make C [u] []) (J.env0.make C [u] []) (by simpa using V _ [.ref x,u] J.kIn T) (.cons rfl (.cons r .nil))
  ⟨x,i,rfl,b,z0,λj a ne=>⟨rfl,j,by rw[z4 ne] at a;exact a,ne,by rw[VH]⟩⟩) λh D c=>?_)
 cases h with
 |error e=>
  obtain⟨_,_,_,_,_,_,_,_,_,_,_,_,_,_,_,z⟩:=c;exact z.elim
 |ok E=>
  cases E with
  |ret v=>
   obtain⟨v',P,G,g,⟨rfl,j,a,ne,rfl⟩⟩:=J.after c;refine⟨g,?_⟩;obtain⟨t',e'⟩:uB x C j D.heap:=(show ObjOk X.prog X.w _ D.heap x (.ext (uB x C j)) from G.hok x _ (by rw[z4 (z6f ne),z0])).1;rw[Xr (z6f ne)] at G;exact q x j t' D (QS G ((z4 (z6f ne))▸l.free)) a l ne e'
  |next=>exact z6s c
  |brk=>exact z6s c
  |cont=>exact z6s c
noncomputable def hash(m:Str):Str:=⟨#[35]++m.cps⟩
theorem Jw(C:Sk D W Y X k)(hc:Y.calm=true)(hx:x∈Y.G)(hU:hash x∈Y.U)(hg:Y.gl (hash x)=.xin n f x fl)(O:noStar a=true)(ha:PE X a (rdE D W g)) :
  PS X (.Raise (some (.Call (.Name x p0) [a] [] p1)) none pos) (rdS D W (Zo n f g)):=by
 rintro M s T H E I ⟨J,α,S,μ,sr,mr,p⟩;have q:=(C.glU _ hU).1;rw[hg] at q;obtain⟨C0,HE,fI,fd,ps,kk,ad,hm,hfl,xi,hb,hkk,F⟩:=q;obtain⟨N,nm,qn,bs,hdd,sn,sub,ab,col,dd,k0,k1,k2,k3,k5,g1,g2,g3,g4⟩:=xi.at_ I.ok.mod.kin;have h:=g4.hasType z71.hasBase
 have body:z5V (z5X X.prog X.w) X.A (eval (.Call (.Name x p0) [a] [] p1) X.env) (λv R=>∃e t B,v=.ref e/\R.heap.get? C0=some (z7E nm qn C0 N bs (.ref HE::qS) hdd sn sub ab col dd k0 k1 k2 k3 k5 "ValueError.__new__")/\
   R.heap.get? e=some {cls:=.ref C0,dict:=B,data:=.fields #[.ref t,.none,.none,.none,.bool false,.none]}/\X.xe (.ref e) R) X.xe s:=by
  refine wpAny_Call_ofName (qL I (C.glb x hx) hm ?_ (C.dbG x hx));refine z7r I.ok.mod.kin xi.kp (thn (zI ha qr (z6 O) p1 M s T H (λvs j=>∃v t l b,vs=[v]/\Stp α H b j/\SRel D J b j S T/\MRel D J b j l/\Den D J b j t v/\PostS D W J b j E ((match t with
   |.int i=>.grd (i.natAbs.log2<1920) (.ex n [(f,.int i)] S l)
   |_=>.st:Out))) I ⟨J,α,S,μ,sr,mr,(PostS.out sr p).mono λt V Z H' st m q v d=>⟨v,t,V,Z,rfl,st,sr.step st,m,d,q⟩⟩) ?_) (z6 O) rfl
  rintro us R ⟨vs,j,I1,rv,v,t,l,b,rfl,st1,sr1,o,d1,p1⟩;obtain⟨u,rfl,r⟩:∃u,us=[u]/\RelV v u:=by
   cases rv with
   |cons r1 r2=>cases r2;exact⟨_,rfl,r1⟩
  refine⟨I1.kIn,?_⟩;cases t<;>first|(obtain⟨Q,q,_⟩:=p1;exact q.elim)|skip
  rename_i i;obtain⟨P,p2⟩:=PostS.grd p1;subst d1;refine Uv xi hb ((C.rom hc).mono hkk) F I1 r P λe B t s' I2 y z ne he=>⟨e,t,some B,rfl,I2.bk _ _ g1,he,C.xe _ _ ?_⟩;have sm:jv j (upd j B (.xd [(fl,.int i)])):=zh y;have L:Stp b j b (upd j B (.xd [(fl,.int i)])):=Stp.new sm;exact⟨e,.ref C0,some B,T,_,none,.none,rfl,I2.pins_of (λp hp=>absurd hp sC),⟨(z4 (z6f ne))▸z.free,z.loc,z.nfs,z.new,z.cel,z.pin⟩,λt ht=>absurd ht sC,⟨⟨_,_,.ref t,he,⟨rfl,rfl⟩,rfl,rfl,rfl,λ_ _=>rfl⟩,rfl⟩,.inl rfl,(PostS.ex p2 L (o.new sm) (sr1.step L) ⟨C0,ad,rfl⟩ ⟨_,zo o y,zp o y,z0,fl,.int i,[],hfl,rfl,rfl,rfl⟩)⟩
 first
  |exact z5D (z6R (y9 h (I.ok.hd (C.clm hc)) (z5D (z6r body (λv K c=>z5D (z6R (z5Q c))) λ_ _ x=>x))))
  |(simp only[ Option.map];exact z5D (z6R (y9 h (I.ok.hd (C.clm hc)) (z5D (z6r body (λv K c=>z5D (z6R (z5Q c))) λ_ _ x=>x)))))
end
noncomputable def z5e (a:Cn)(x:Str):(g:GM)->a.gl (hash x)=g->Option {q:Nat×Nat×Str×Str // a.gl (hash x)=.xin q.1 q.2.1 q.2.2.1 q.2.2.2/\hash x∈a.U}
 |.xin c f nm d,h=>gd (a.U.contains (hash x)) λb=>some ⟨(c,f,nm,d),h,by simpa using b⟩
 |_,_=>none
noncomputable def z0Z:SR:=λr b s=>match s with
 |.Raise (some e) none p=>(yE e).bind λq=>(QU q.as).bind λa=>(z5e b q.x (b.gl (hash q.x)) rfl).bind λw=>(r.e b a).bind λg=>gd (b.calm&&b.G.contains q.x) λf=>gd (noStar g.y&&w.1.2.2.1==q.x) λc=>some ⟨.Raise (some (.Call (.Name q.x q.p0) [g.y] [] q.pc)) none p,Zo w.1.1 w.1.2.1 g.d,λC=>Jw C (zB f).1 (by simpa using (zB f).2) w.2.2 (by have z:=w.2.1;rw[beq_iff_eq.mp (zB c).2] at z;exact z) (zB c).1 (g.ok C.toCk)⟩
 |_=>none
noncomputable abbrev z5y(n:Nat)(o f:De):De:=λd e=>(o d e).bind λt c=>(yQ t n c).bind λw b=>.grd (z4r w) ((f d b).bind λ_ a=>.ok .n a)
noncomputable abbrev z5u(j:Nat):De:=λ_ (a:Mem) K _=>(∃i:Nat,a[i]?=some (MO.tab j))/\K (.clo (2*j) [.clo (100+j) []]) a
noncomputable def z5B:Str:=⟨#[37]⟩
section
theorem QV{ad C0 a:Addr}{m:Str}{v:V}(I:Inv X j B H s)(e:H ad=some (.ins C0 a C))(c:Cls X.K C0)(n:NoAttr X.K C0 m)(l:C.lookup m=some v)
  (h:∀u z,Inv X j B H z->RelV v u->Q (u,[]) z):z5V (z5X X.prog X.w) A (zcU (.ref ad) m pl) Q E s:=by
 obtain⟨d,O,r,_,_,_⟩:=jN I.hok e;obtain⟨b,J,f⟩:=O.look;exact PySem.W.method_usual I.kIn J (z7Q (c.get m)).1 (z7Q (c.get m)).2 n rfl (yL I e c n l h)
end
noncomputable abbrev z0N(ts:List T)(μ:Mem):RE T:=.som (intsOf ts) λa=>.ok (.int a.sum) μ
noncomputable abbrev Yx(t:T)(μ:Mem):RE T:=match t with
 |.l a=>z0N a μ
 |.m i=>λK Z=>∃a,μ[i]?=some (.l a)/\z0N a μ K Z
 |_=>.st
noncomputable def z3O(i:Nat)(t:T)(μ:Mem)(a:List T):Prop:=t=.l a\/∃j,t=.m j/\j≠i/\μ[j]?=some (.l a)
noncomputable abbrev Qh(o f:De):De:=λe g=>(o e g).bind λh b=>match h with
 |.m i=>λK Z=>(∃c,b[i]?=some (.l c))/\f e b (λt a=>∃c d,a[i]?=some (.l c)/\z3O i t a d/\c.length+d.length<=room/\K .n (a.set i (.l (c++d)))) Z
 |_=>.st
section
theorem z0j(e:A.handled=none)(c:s.heap.IsList l vs.toArray)(hi:z7z vs ns)
  (h:∀h' tk t',(∀b o,s.heap.get? b=some o->h'.get? b=some o)->Q (.int ns.sum t') {s with heap:=h',toks:=tk}):z5V (z5X prog w) A (call (.builtin "sum") [.ref l]) Q E s:=by
 obtain⟨xs,a⟩:=hi.allInts.items;refine sum_intListG e (a▸c) λh' tk t' d=>?_;have g:ns=xs.toList.map (·.1):=by
  rw[<-nums_intItems,<-a];exact hi.numsOf.symm
 have f:preSum (numAt xs) xs.size=ns.sum:=by
  rw[preSum_eq,z6z sC,g]
 rw[f];exact h h' tk t' d
theorem Yh{ad:Addr}(hc:X.calm=true)(I:Inv X j u H s)(e:MRel D φ α H μ)(q:Rd H ad (.l z))(l:DenL D φ α H xs z)(p:Post D W φ α H u (RV D φ Q) (z0N xs μ)) :
  z5V (z5X X.prog X.w) X.A (call (.builtin "sum") [.ref ad]) (EP X j u Q) X.xe s:=by
 obtain⟨g,b,c,k⟩:=I.list (.inl q);obtain⟨d,a,p⟩:=Post.som p;have h:=vx a l;subst h;exact z0j (I.ok.hd hc) c.isList (intsAre_of b) λm tk i f=>⟨.int d.sum,H,I.kept f,⟨_,rfl⟩,Post.here p e rfl⟩
theorem z1A(hc:X.calm=true):B1 X D W (.builtin "sum") Yx:=by
 intro b s g H f i h t v u Q I a d r p;unfold Yx at p;split at p
 .obtain⟨ad,xs,rfl,_,_,q,l⟩:=d;subst r;exact Yh hc I a q l p
 .obtain⟨j,c,p⟩:=p.ex1;obtain⟨ad,e,rfl⟩:=d;subst r;obtain⟨xs,q,l⟩:=a.ob _ ad _ e c;exact Yh hc I a (.inl q) l p
 .exact p.elim
theorem V1:MtR X "list.extend" (λx vs H Q=>∃l b xs j,x=.ref l/\vs=[.ref b]/\H l=some (.l xs)/\Rd H b (.l j)/\xs.length+j.length<=sizeLine/\Q .n (upd H l (.l (xs++j)))):=by
 intro i s B H x vs v D Q I m o h;obtain⟨l,b,xs,j,rfl,rfl,k,y,E,q⟩:=h;subst m;obtain⟨u,rfl,p⟩:=vals1 o;subst p;obtain⟨z,c,n,r,G,e⟩:=I.lstM k;obtain⟨C,a,t,g,A⟩:=y.ok I.hok;have w:=g.length;have f:c.toArray.size+a.toArray.size<=sizeLine:=by rw[z63,z63];lia
 have d:¬(!c.toArray.isEmpty&&z8w (c.toArray.size+a.toArray.size))=true:=by
  rw[XO f,zav];exact z6e
 refine zcd F.slot_list_extend ⟨_,e,rfl⟩ F.entry_list_extend (F.args_list_extend_2 _ _)
  (AutoSeq1.list_extend_list_list_0 l c.toArray n b a.toArray t d (by rw[z63];lia) lC) ⟨e,A,?_⟩
 refine⟨.n,_,I.lset k e sC (r.append g) ?_,rfl,q⟩;rw[z6k];lia
set_option tactic.hygienic true in
theorem z0u(hp:qo o=true)(hs:noStar a=true)(h:(pa.endLine==pc.line)=true)(ho:PE X o (rdE D W go))(ha:PE X a (rdE D W f)) :
  PE X (.Call (.Attribute o "extend" pa) [a] [] pc) (rdE D W (Qh go f)):=by
 have hb:z6H [a] X.env=[(false,eval a X.env)]:=z6 hs;refine PE.mono (z01 z9O PySem.F.slot_list_extend PySem.F.type_list_extend V1 ho (zI ha qr (z6 hs)) (qB hp) (by rw[hb];rfl) h (z6 hs) rfl) ?_;rintro σ H Q ⟨w,R,J,P,L,Y,p⟩;refine⟨w,R,J,P,L,Y,p.bind.mono λot z A H1 B M q ov dv=>?_⟩;split at q;case h_2=>exact q.elim
 rename_i i;obtain⟨K,Z,⟨⟨U,n⟩,hf⟩,hk,hz⟩:=q;obtain⟨x,E,rfl⟩:=dv;obtain⟨T,I,l0⟩:=M.ob _ x _ E n;refine⟨.inl ⟨rfl,_,.inl (.inl I)⟩,w,A,J,z,L.step B,M,_,Z,hf,?_,hz⟩;rintro t O ⟨ts,S,s,hl,hr,V⟩ b u k C v d;obtain⟨β,e2,_⟩:=k.ext;have g:b[i]?=some x:=by
  rw[e2,z5N (z5C.mp E).1];exact E
 obtain⟨xs,N,l⟩:=C.ob i x _ g s;have hv:∃y c,v=.ref y/\Rd u y (.l c)/\DenL D w b u S c:=by
  rcases hl with rfl|⟨j,rfl,hj,m⟩
  .obtain⟨y,c,rfl,_,_,r,dl⟩:=d;exact⟨y,c,rfl,r,dl⟩
  .obtain⟨y,hy,rfl⟩:=d;obtain⟨c,hw,dl⟩:=C.ob j y _ hy m;exact⟨y,c,rfl,.inl hw,dl⟩
 obtain⟨y,c,rfl,G,dl⟩:=hv;have e:Stp b u b (upd u x (.l (xs++c))):=Stp.turn (z5E g) ⟨_,N⟩;refine⟨x,y,xs,c,rfl,rfl,N,G,?_,?_⟩
 .rw[<-l.length,<-dl.length];exact z66 hr (zF (z5K _))
 .exact hk _ _ V b _ (k.trans e) (C.turn g ((z5C.mp s).1) e ⟨_,z0,(l.step e).append (dl.step e)⟩) .n rfl
end
noncomputable def z4u:ER:=rB1 "sum" Yx true λC a hg b hs c=>V9 C a hg (by decide +kernel) (by decide) hs (z1A (C.clm (b rfl))) c
noncomputable def z4Q:ER:=rM1 "extend" Qh λC a hs c b d=>z0u a hs c b d
noncomputable def z2o:ER:=λr i e=>match e with
 |.Tuple [a,b] c p=>(r.e i a).bind λf=>(r.o i b).bind λg=>gd (noS [f,g]) λh=>some ⟨.Tuple [f.y,g.y] c p,qf [f.d,g.d],λC=>KL (by show (2:Nat)<=room;decide) (Zh C h)⟩
 |_=>none
noncomputable def Zn(c:List Addr):Sp:=λd H Q _=>∃(a:Addr) (b:List Int),d=[.ref a]/\Rd H a (.l (b.map V.int))/\(∀e∈c,H e=some (.tbl #[]))/\a∉c/\b.length<=63/\∀f,Q (.bl true) f
noncomputable def Zv(f:Fn):Prop:=∀a:List Int,a.length<=63->f [.l (a.map T.int)] [.tab 0,.tab 1] (λt _=>t=.bl true) (λ_ _ _=>False)
theorem Kl{P:z6t}{K:z5M}(ht:Zv f)(G:D.tabs 0=some (B,s,qn))(l:D.tabs 1=some (u,j,C))(g:B≠u)
  (F:FnOk P w K mg base (CX1 P w) k I fd [x] (spN D 1 f)):FnOk P w K mg base (CX1 P w) k I fd [x] (Zn [B,u]):=by
 refine F.imp ?_;rintro M H Q E ⟨a,e,rfl,r,n,h,A,q⟩;refine⟨rfl,[],[B,u],[.l (e.map T.int)],[.tab 0,.tab 1],⟨.ref a,[],rfl,⟨a,_,rfl,sC,by simpa using h,r,uY e⟩,rfl⟩,⟨rfl,by simpa using g,sC,sC,λi p o b c=>?_⟩,_,_,ht e A,?_,?_⟩
 .cases i with
  |succ i=>
   cases i with
   |succ i=>simp at b
   |zero=>
    have b:u=p:=by simpa using b
    have c:MO.tab 1=o:=by simpa using c
    subst b;subst c;exact⟨j,C,#[],l,n _ sC,trivial,λ_ _=>.inl rfl⟩
  |zero=>
   have b:B=p:=by simpa using b
   have c:MO.tab 0=o:=by simpa using c
   subst b;subst c;exact⟨s,qn,#[],G,n _ sC,trivial,λ_ _=>.inl rfl⟩
 .rintro t L rfl y J st m v d;rw[d];exact q J
 .exact λ_ _ _ z=>z.elim
noncomputable abbrev u5(x y:T)(μ:Mem):RE T:=match y with
 |.m i=>(match x with
  |.str z=>λK _=>∃a,μ[i]?=some (MO.d a)/\K (.bl (!(ze (.inr z) a).isSome)) μ
  |_=>.st)
 |_=>.st
noncomputable abbrev eC2(op:T->T->Mem->RE T)(f g:De):De:=λc d=>(f c d).bind λx b=>(g c b).bind λy a=>op x y a
section
noncomputable def OpC (X:Cx)(D:DP)(W:XW)(op:z9c)(r:T->T->Mem->RE T):Prop:=
 ∀(a:List (Addr×Obj)) (s:z5W) (d:St) (H:Hp) (b c:List Addr) (e:Mem) (x y:T) (v w:V) (g f:Value) (Q:VK),Inv X a d H s->MRel D b c H e->Den D b c H x v->Den D b c H y w->RelV v g->RelV w f->Post D W b c H d (RV D b Q) (r x y e)->
  z5V (z5X X.prog X.w) X.A (z6I op g f) (EP X a d Q) X.xe s
theorem Yi(h:OpC X D W op r)(ho:wZ op b=true)(M:PE X a (rdE D W f))(L:PE X b (rdE D W g)):PE X (.Compare a [op] [b] pos) (rdE D W (eC2 r f g)):=by
 rintro c s n H Q I ⟨m,V,T,U,B,K,p⟩;refine zaw (thn (sub M I B K p) ?_) (j6 ho);rintro u Y ⟨v,Z,t,o,q,R,F,z,j,l,O,J⟩;refine thn (sub L R j l J) ?_;rintro x C ⟨w,S,y,d,e,P,E,i,A,k,N,G⟩;exact h c C n S m e d t y v w u x Q P k (O.step i) N F E G
theorem Q0(h:OpC X D W op r)(ho:wZ op b=true)(ha:PE X a (rdE D W f))(hb:PE X b (rdE D W g)):PT X (.Compare a [op] [b] pos) (rdT D W (tE (eC2 r f g))):=by
 rintro j s F H Q I ⟨l,α,τ,μ,T,mr,p⟩;refine z8S (thn (sub ha I T mr p) ?_) (j6 ho);rintro u s1 ⟨v,k,t,e,c,I1,Z,R,A,E,d1,p1⟩;refine thn (sub hb I1 A E p1) ?_;rintro N U ⟨M,G,O,o,i,I2,Y,y,S,C,d2,p2⟩;refine thn (h j U F G l i o t O v M u N (λz k=>∃t e c,Stp i G c k/\MRel D l c k e/\Den D l c k t z/\Post D W l c k F (λb _ _ J=>Q b J) (ZQ t e)) I2 C (d1.step y) d2 Z Y (p2.bind.mono λt w x J st m q v d=>⟨t,w,x,st,m,d,q⟩)) ?_;rintro d s3 ⟨z,H3,I3,V,t3,K,L,P,B,d3,n⟩;unfold ZQ at n;split at n
 .subst d3;subst V;exact z6m ⟨H3,I3,n.ok (Stp.refl _ _) B⟩
 .exact n.elim
set_option tactic.hygienic true in
theorem VU(J:X.A.units+64<cLine):OpC X D W .NotIn u5:=by
 intro a s u H t c B x y v w E C Q I b q o e d p;unfold u5 at p;split at p
 .split at p
  .rename_i i _ z;obtain⟨L,K,⟨f,h,p⟩,g,G⟩:=p;obtain⟨ad,j,rfl⟩:=o;subst d;obtain⟨n,m,l⟩:=b.ob i ad _ j h;subst q;refine YR (by omega) I (DGet.k (k:=.inr z) m) e λF r=>⟨.bl (!(jR n (.inr z)).isSome),H,r,rfl,?_⟩;rw[yb l];exact g _ _ p c H (Stp.refl _ _) b _ rfl
  .exact p.elim
 .exact p.elim
theorem Q_:∀{a:List (Key×T)} {c:List (Key×V)},DenK D φ α H a c->ze z a=some t->∃v,jR c z=some v/\Den D φ α H t v
 |[],_,h,e=>z7 e
 |p::r,_,h,e=>by
  obtain⟨v,q,rfl,d,l⟩:=h;unfold ze at e;by_cases b:p.1=z
  .rw[if_pos b] at e;(replace e:=zm e;subst e);exact⟨v,by rw[vQ b],d⟩
  .rw[if_neg b] at e;obtain⟨f,i,g⟩:=Q_ l e;exact⟨f,by rw[vM b];exact i,g⟩
end
noncomputable abbrev z1K(jt:Nat)(g:De)(n:Nat)(o f:De):De:=λd e=>(o d e).bind λt c=>(yQ t n c).bind λw b=>.grd (z2q jt w) ((f d b).bind λx a=>Y_ jt g w x a)
noncomputable abbrev XJ(jt f:Nat):De:=λb (a:Mem) K _=>(∃i:Nat,a[i]?=some (MO.tab jt))/\∃t:T,Ju b f=some t/\K (Yw jt t) a
noncomputable def Zs:Str:=⟨#[38]⟩
section
theorem Y9{c:Addr}(I:Inv X j w H s)(h:X.env.cells.lookup x=some c)(hf:X.fn x=false)(hs:X.s₀.heap.objs.size<=c)(r:H c=none)(ho:s.heap.get? c=some o)(hd:o.data=.cell v):Inv X j w (upd H c (.frz o (.ext λ_=>True))) s:=by
 have st:∀b u,H b=some u->upd H c (.frz o (.ext λ_=>True)) b=some u:=λb u q=>(z4 (zM q r))▸q;refine⟨I.ok,I.os,I.bare,⟨I.base.keep,I.base.slot,λb f e n g=>?_,I.base.there,λb xs e=>st b _ (I.base.tups b xs e),λb f u e=>st b _ (I.base.frzs b f u e),λb k e=>?_⟩,I.loc,I.cell,?_,λy i e=>?_,λp m=>?_,λb ob e=>?_,I.len⟩
 .rw[z4 (z6b (z5S (z5U e) hs))];exact I.base.free b f e n g
 .obtain⟨a,q⟩:=I.base.tbls b k e;exact⟨a,st b _ q⟩
 .rw[z4 (z6f (I.cne x c h))];exact I.free
 .by_cases z:i=c
  .subst z;rw[I.ok.inj _ _ _ e h];exact .inr ⟨hf,o,_,z0⟩
  .rw[z4 z];exact I.freeC y i e
 .obtain⟨e,n,ne,l,d⟩:=I.pin p m;have:p.1≠c:=λz=>by rw[z,ho] at e;(replace e:=zm e;subst e);exact d _ hd
  exact⟨e,z4 this▸n,ne,l,d⟩
 .by_cases z:b=c
  .subst z;rw[z0] at e;(replace e:=zm e;subst e);exact⟨ho,trivial,⟨o,ho⟩,λ_ _ _ _=>trivial⟩
  .rw[z4 z] at e;exact (I.hok b ob e).stay (λ_ _ _ q=>q) (λb q=>st b _ q) λb xs q=>st b _ q
theorem Xs(C:Ck D W B X k){l:LamD}(KM:KapMk D l)(U:B.lam.isSome=true)(R:x∈B.fz)(hc:x∈B.cel)(hi:idx B.N x=some i)(ht:Ju J i=some t)(I:Inv X j E H s)(L:SRel D φ α H J E)(a:MRel D φ α H μ) :
  ∃(A:Hp) (c:Addr),Inv X j E A s/\jv H A/\X.env.cells.lookup x=some c/\Den D φ α A (.clo 200 [t]) (.ref c):=by
 obtain⟨v,S,d⟩:=L.val i t (Zr.mp ht);obtain⟨V,r⟩:=C.kfz U x R;obtain⟨m,_,y⟩:=I.loc;obtain⟨u,M,lk⟩:=y i x v (C.hN▸qW hi) S (C.vis x (qJ hi));rcases lk with⟨z,_⟩|⟨_,c,h,o,G,hd⟩
 .rcases C.cel x hc with q|q<;>(rw[z] at q;contradiction)
 .obtain⟨f,ob,Z,F,Y,Q,P⟩:∃f ob,Inv X j E f s/\jv H f/\f c=some (.frz o ob)/\c∉φ/\c∉α:=by
   rcases I.freeC x c h with q|⟨_,O,K,q⟩
   .exact⟨_,_,Y9 I h V (r c h) q G hd,zh q,z0,zo a q,zp a q⟩
   .have g:=(I.hok c _ q).1;rw[G] at g;(replace g:=zm g;subst g);refine⟨H,K,I,λ_ _ e=>e,q,λz=>?_,λz=>?_⟩
    .obtain⟨w,e,n⟩:=a.phi c z;rw[q] at e;(replace e:=zm e;subst e);injection n
    .obtain⟨p,b⟩:=z6d.mp z;have T:p<μ.length:=a.len▸(z5C.mp b).1;obtain⟨w,e,n⟩:=(a.ob p c μ[p] b sC).some;rw[q] at e;(replace e:=zm e;subst e);injection n
  refine⟨f,c,Z,F,h,c,some (.frz o ob),[v],rfl,KM.ce c o u v ob hd M,λO e=>?_,v,[],rfl,d.step (Stp.new (α:=α) F),rfl⟩;(replace e:=zm e;subst e);exact⟨Q,P,Y⟩
theorem Kr{P:z6t}{c:Addr}(p:yZ q c l cl h):ObjOk P w H h q (.ext (yZ q c l cl)):=by
 obtain⟨f,e,a,d⟩:=id p;exact⟨p,⟨_,d⟩,λi g p b=>have ⟨f,e,a,d⟩:=p;⟨f,e,a,b _ d⟩⟩
theorem UD (C:Ck D W u X k) {pa pl:Pos} (A:u.lnm="<lambda>") (B:u.lam=some (l.jt,j)) (R:pl∈j) (hU:Zs∈u.U) (hg:u.gl Zs=.kap l) (E:frees l.sc=[l.fr]) (hz:l.fr∈u.fz) (T:l.fr∈u.cel) (hf:idx u.N l.fr=some f) :
  PE X (.Lambda ⟨[],[⟨l.y,none,pa⟩],none,[],[],none,[]⟩ l.body l.sc pl) (rdE D W (XJ l.jt f)):=by
 rintro w s σ H Q I ⟨φ,α,τ,μ,sr,mr,K0,Z0,⟨⟨i,hi⟩,t,ht,q0⟩,k1,k2⟩;obtain⟨hk,c,P,g,hC,hB,L⟩:=C.lam _ j B;have J:=(C.glU _ hU).1;rw[hg] at J;obtain⟨P',pos',Z⟩:=J.2.tb;have z:X.env.qual++"<lambda>"=l.qn:=by
  have:=L.symm.trans Z;simp only[z8O,Prod.mk.injEq] at this;exact A▸this.2.2
 rw[A,z] at L;obtain⟨H1,cs,I1,r,F,dl⟩:=Xs C J.2 (by rw[B];rfl) hz T hf ht I sr mr;obtain⟨M,S,h,G⟩:=u9 (sc:=l.sc) (env:=X.env) λx d=>⟨cs,by rw[E] at d;rw[z5F.mp d];exact F⟩;rw[E] at h G;have cat:U9 l.fr M cs:=by
  obtain⟨n,e⟩:=G l.fr (z5F.mpr rfl);exact⟨z5J (((h _ _ e).1.symm.trans F))▸e,λx a e=>z5F.mp (h x a e).2⟩
 have b:=ZS (params:=⟨[],[⟨l.y,none,pa⟩],none,[],[],none,[]⟩) (body:=l.body) (line:=pl.line) (Q:=λv s'=>EP X w σ Q v s') I1 (mr.new r) hi L R g hC hB S λq n ctv H2 s2 I2 p O Y V d=>by
  have np:yZ q n l M s2.heap:=⟨pa,_,ctv,((I2.pin _ (z5R _ z60)).1)⟩;have m:=d.2.1.free;have K:jv H2 (upd H2 q (.ext (yZ q n l M))):=zh m;refine⟨.ref q,_,vh (qF I2) d.2.1 d.2.2 (Kr np),rfl,k1 _ _ q0 α _ ((Stp.new r).trans (p.trans (Stp.new K))) (O.new K) _ ⟨q,_,_,rfl,J.2.fn q n M cs cat,λo e=>?_,.ref n,[.ref cs],rfl,⟨n,_,[],rfl,J.2.co _ _ _ _ n L,λo e=>?_,rfl⟩,.ref cs,[],rfl,(dl.step p).step (Stp.new K),rfl⟩⟩
  ·(replace e:=zm e;subst e);exact⟨zo O m,zp O m,z0⟩
  ·(replace e:=zm e;subst e);exact⟨d.1,Y,K _ _ V⟩
 rw[<-z] at b;exact zbL rfl b
structure CellK(H:Hp)(c:Addr)(x:V):Prop where
 ex:∃(o:Obj) (ob:HO) (u:Value),H c=some (.frz o ob)/\o.data=.cell (some u)/\RelV x u
noncomputable def Vc(a:Cn)(l:LamD):Bool:=
 (l.sc.kind==.function)&&!l.sc.isCoroutine&&!l.sc.isGenerator&&l.sc.names.all (λp=>p.2 != .cell)&&(frees l.sc==[l.fr])&&l.y != l.fr&&(l.sc.names.lookup l.y==some .local)&&(l.sc.names.lookup l.fr==some .free)&&
 [l.y,l.fr].all (λx=>x != ("__debug__":Str)&&x != ("__classdict__":Str))&&a.G.all (λx=>a.U.contains x&&l.sc.names.lookup x==some .globalImplicit)
noncomputable def kT(a:Cn)(l:LamD)(G:List Str):Cn:={a with N:=[l.y,l.fr],G:=G,cel:=[l.fr],own:=[],lam:=none,fz:=[l.fr],calm:=true}
noncomputable def z1W (R:Rules)(n:Nat)(a:Cn)(l:LamD):Prop:=((comp R n).e a l.body).map (λb=>(b.y,b.d))=some (l.body,l.g)
theorem KR{R:Rules}{P:z6t}{w:z81}{K:z5M}{base:Heap}{Γ:Cn}{G:List Str}{n k0:Nat}{l:LamD}(M:MdOk D P w K mg base Γ k0)(hsc:Vc (kT Γ l G) l=true)(hE:z1W R n (kT Γ l G) l)
  {A:z84} {s:z5W} {a c k:Addr} (hr:Room (k0+1) A) (e0:Env0 P w K mg base A outer s H) (ho:yZ a c l cl s.heap) (hrec:s.heap.CodeRec (.ref c) l.qn) (O:U9 l.fr cl k)
  (dv:Den D φ α H t0 v0) (hcv:CellK H k v0)
  {u:Value} {x:V} {Q:VK} {t:T} {μ:Mem} {Z0:Xp} {E:XK} (r:RelV x u) (d:Den D φ α H t x) (mr:MRel D φ α H μ) (p:l.g [some t,some t0] μ K0 Z0) (hK0:∀t' C,K0 t' C->∀j U v',Stp α H j U->MRel D φ j U C->Den D φ j U t' v'->Q v' U) (hZ0:∀c fs C,Z0 c fs C->∀j U cv d,Stp α H j U->MRel D φ j U C->XCv D c fs cv->XDict D φ j U fs d->E cv d U) :
  z8B (z5X P w) A (.call (.ref a) ⟨[u],[]⟩) (CR (CX1 P w) outer P w H s Q E) s:=by
 obtain⟨pa,pm,ctv,ho⟩:=ho;simp only[Vc,z5P,z6n,beq_iff_eq,z7G,bne_iff_ne] at hsc;obtain⟨⟨⟨⟨⟨⟨⟨⟨⟨h1,h2⟩,h3⟩,h4⟩,h5⟩,h6⟩,h7⟩,h8⟩,h9⟩,h10⟩:=hsc;obtain⟨o,ob,u',k1,k2,k3⟩:=hcv;let env:Env:=newEnv l.sc s.heap.objs.size z6i cl (l.qn++".<locals>.") (some a) (.ref c) none z9j;let Y:Cx:={prog:=P,w:=w,K:=K,mg:=mg,base:=base,A:=A.deeper env,N:=[l.y,l.fr],s₀:=s,H₀:=H,env:=env,outer:=outer,stack:=env::outer,ex:=[],fn:=λ_=>false,calm:=true,pn:=[],xe:=λ_ _=>False};have one:∀{y S},cl.lookup y=some S->y=l.fr/\S=k:=λ{y S} e=>by
  have z:=O.2 y S e;exact⟨z,by rw[z,O.1] at e;exact (z5J e).symm⟩
 have F:Frm Y env outer s.heap.objs.size:=⟨rfl,rfl,rfl⟩;have hr':=hr.deeper env;have sto0:Sto (Y.wish (XP Y (wOf E))) (kT Γ l G).sto:=λz f=>by
  obtain⟨z1,z2⟩:=z6o.mp f;rcases z61.mp z1 with e|e
  .rw[e];exact⟨.inl h7,.inr h7⟩
  .have z2:(![l.fr].contains z)=true:=z2;rw[z6j.mpr e] at z2;injection z2
 have lcl0:∀z∈[l.y,l.fr],[l.fr].contains z=false->l.sc.names.lookup z=some .local:=λz f hc=>by
  rcases z61.mp f with e|e
  .rw[e];exact h7
  .rw[z6j.mpr e] at hc;injection hc
 have C2:Sk D (wOf E) (kT Γ l G) (Y.wish (XP Y (wOf E))) k0:={hK:=M.hK,hN:=rfl,nd:=by show [l.y,l.fr].Nodup;simpa using h6,vis:=(λz f=>(z61.mp f).elim (λq=>.inl (q▸h7)) λq=>.inr (.inr (z5F.mp q▸h8))),dbg:=λz f=>⟨beq_eq_false_iff_ne.mpr (h9 z f).1,beq_eq_false_iff_ne.mpr (h9 z f).2⟩,dbG:=λz f=>(M.glo z (z6j.mp (h10 z f).1)).2,glb:=λz f=>(h10 z f).2,glo:=λz f=>(M.glo z (z6j.mp (h10 z f).1)).1,glU:=M.glo,cel:=λz f=>.inr (z5F.mp f▸h8),isi:=M.isi,fld:=M.fld,xcx:=M.xcx,ocx:=M.ocx,clv:=M.clv,clm:=λ_=>rfl,rom:=λ_=>hr',rmh:=⟨hr'.dp,hr'.un⟩,xe:=λe s p=>v_ p,frm:=⟨_,_,_,F.stk,F.f0,F.fe⟩,lam:=LamOk.no rfl,kfz:=(λh=>by injection h),sto:=sto0,lcl:=lcl0,pso:=λe s p=>kE F (j7 p) e s p,xmt:=M.xmt};have sr:SRel D φ α H [some t,some t0] [some x,some v0]:=by
  refine⟨rfl,λi t' e=>?_⟩;match i,e with
  |0,e=>cases e;exact⟨x,rfl,d⟩
  |1,e=>cases e;exact⟨v0,rfl,dv⟩
 refine zaA hr.depth ho rfl h2 h3 rfl hrec (z9D (bind1 rfl rfl) (zax h4 (λz f=>?_) (λhh hns hsb=>?_) h1))
 .rw[z5F.mp f];exact h7
 have L:∀b o,s.heap.get? b=some o->hh.get? b=some o:=λb o e=>hsb.extBut b o (z6b (z5U e)) (z5I _ e);refine⟨(e0.mod.nolimit.keeps λb o e=>(e0.bs b o e).1).keeps L,?_⟩;have I:Inv Y [] [some x,some v0] H {s with heap:=hh,toks:=s.toks+[(l.y,u)].length}:=by
  refine⟨⟨e0.mod,h1,rfl,rfl,z5K _,λy z S Z X=>(one Z).1.trans (one X).1.symm,λy hy=>?_,λy S z=>(by injection z),λ_=>hr.hd,zat e0.frames,.inr ⟨rfl,rfl⟩,λb z=>absurd z (by simp[Y]),e0.bs,e0.bsz,λb _ _=>(by simp[Y]),λb z=>absurd z (by simp[Y]),e0.funs,e0.frf⟩,
   rfl,e0.bare,Un.kept L,⟨_,hns,λi y v Z X q3=>?_⟩,λy S q=>(by rw[(one q).2];exact⟨some u',o,L _ _ (e0.hok k _ k1).1,k2⟩),e0.hok.fresh (z5K _),λy S q=>(by rw[(one q).2];exact .inr ⟨rfl,o,ob,k1⟩),λp hp=>absurd hp (by simp[Y]),e0.hok.kept L,rfl⟩
  .rcases hy with hy|hy
   .exact absurd rfl (h4 _ (z6J hy))
   .have:y∈frees l.sc:=wI.mpr ⟨_,z6J hy,rfl,rfl⟩;rw[h5] at this;rw[z5F.mp this];exact⟨k,O.1⟩
  .match i,Z,X with
   |0,Z,X=>cases Z;cases X;exact⟨u,r,.inl ⟨h7,sC⟩⟩
   |1,Z,X=>cases Z;cases X;exact⟨u',k3,.inr ⟨.inr h8,k,O.1,o,L _ _ (e0.hok k _ k1).1,k2⟩⟩
 obtain⟨b,_,eb⟩:=z6q.mp hE;injection eb with e1 e2;have B:=b.ok C2.toCk;rw[e1,e2] at B;refine zaB (z6r (B [] _ _ H Q (I.wish _) ⟨φ,α,_,μ,sr,mr,_,_,p,λa C e j U st m v' dv=>hK0 a C e j U v' st m dv,λc fs C z j U cv dd st m ad xd=>hZ0 c fs C z j U cv dd st m ad xd⟩) (λv s' hs=>?_) λe s' p=>W3 F (j7 p) rfl p);obtain⟨v',U,J,rv,q'⟩:=hs;exact⟨v',U,J.os,J.bare,J.base,J.hok,rv,q'⟩
set_option tactic.hygienic true in
theorem z1Q(C:Ck D W Γ X k)(hU:Zs∈Γ.U)(hg:Γ.gl Zs=.kap l)(hn:(m,n)∈Γ.fld)(hc:Γ.calm=true)(hp:qo o=true)(M:(B.endLine==pos.line)=true)(L:noStar a=true)(ho:PE X o (rdE D W go))(ha:PE X a (rdE D W f)) :
  PE X (.Call (.Attribute o m B) [a] [] pos) (rdE D W (z1K l.jt l.g n go f)):=by
 have gq:=(C.glU _ hU).1;rw[hg] at gq;rintro G s Z H Q I ⟨E,α,τ,μ,sr,mr,p⟩;rw[arm_eval_Call,qB hp];refine z5D (thn (sub ho I sr mr p) ?_);rintro u s1 ⟨v,Y,t,μ1,i,I1,r1,st1,sr1,mr1,d1,J⟩;refine z5D (z6R ?_);have N:methodCallForm ([a].length+([]).length) (z8e pos (z6H [a] X.env)) (z90 pos (z7Z [] X.env))=true:=XH (by simp[L]) (by show (1:Nat)<30;decide);have hpos:z8y true o X.env B pos=pure pos:=by unfold z8y;simp[M]
 have run:∀{O C0 dx:Addr} {gs:List (Str×V)} {z:V} {w:T},Y O=some (.ins C0 dx gs)->Cls X.K C0->NoAttr X.K C0 m->gs.lookup m=some z->u=.ref O->Den D E i Y w z->Post D W E i Y Z (RV D E Q) (RE.grd (z2q l.jt w) ((f τ μ1).bind λx μ3=>Y_ l.jt l.g w x μ3))->
   z5V (z5X X.prog X.w) X.A (zb0 o m B pos X.env u ([a].length+([]).length) (z8e pos (z6H [a] X.env)) (z90 pos (z7Z [] X.env))) (EP X G Z Q) X.xe s1:=λ{O C0 dx gs z w} e1 cl na lk hu R p=>by
  subst hu;obtain⟨kt,p2⟩:=p.grd;obtain⟨fa,kk,rfl,hkk,hF⟩:=gq.1 w E i Y z kt R;unfold zb0;rw[N];refine z5D (z6p (QV I1 e1 cl na lk λu' s1' I1' r'=>?_));cases r';refine z5D (z9D hpos (PySem.W.callWith_F (hF X.A X.stack s1' I1'.env0).1 (thn (zI ha qr (z6 L) pos G s1' Z Y (λvs S=>∃v t F b,vs=[v]/\Stp i Y b S/\MRel D E b S F/\Den D E b S t v/\Post D W E b S Z (RV D E Q) (Y_ l.jt l.g w t F)) I1' ⟨E,i,τ,μ1,sr1,mr1,p2.bind.mono λt h j P st m q v d=>⟨v,t,h,j,rfl,st,m,d,q⟩⟩) ?_) (z6 L) rfl));rintro us s2 ⟨vs,S,I2,rv,v2,t2,F,b,rfl,st2,m2,d2,K0,Z0,q6,k1,k2⟩;obtain⟨ux,rfl,rx⟩:=vals1 rv;obtain⟨fa',kk',e',hkk',hF'⟩:=gq.1 w E b S _ kt (R.step st2);(injection e' with e';subst e');have hE:=hF' X.A X.stack s2 I2.env0;refine⟨hE.1,z8C (z7B (hE.2 ((C.rom hc).mono hkk') ux v2 Q t2 F K0 Z0 (λcv d P=>W cv d Z P) rx d2 m2 q6 (λt' h z j P v' st m dv=>k1 t' h z j P st m v' dv) (λc fs h z j P cv d st m ad xd=>k2 c fs h z j P cv d st m ad xd)) λr s' hq=>?_)⟩;cases r with
  |error e=>exact C.xe _ _ (xy I2 hq λcls d P q=>q)
  |ok fl=>
   cases fl with
   |ret u=>exact I2.after hq
   |next=>exact z6s hq
   |brk=>exact z6s hq
   |cont=>exact z6s hq
 unfold yQ at J;split at J
 .split at J
  .rename_i c fs _ w hw;obtain⟨ad,C0,dx,gs,rfl,_,_,e1,e2,l⟩:=d1;obtain⟨y,z,hy,hz,R⟩:=l.look hw;obtain⟨c0,c1,c2⟩:=C.fld c C0 m n e1 hn;rw[hy] at c0;cases c0;exact run e2 c1 c2 hz r1 R J
  .exact Post.elim J
 .obtain⟨c,fs,w,hi,hw,q⟩:=Post.ex3 J;obtain⟨ad,hi',rfl⟩:=d1;obtain⟨C0,dx,gs,e1,e2,l⟩:=mr1.ob _ ad _ hi' hi;obtain⟨y,z,hy,hz,R⟩:=l.look hw;obtain⟨c0,c1,c2⟩:=C.fld c C0 m n e1 hn;rw[hy] at c0;cases c0;exact run e2 c1 c2 hz r1 R q
 .exact Post.elim J
end
noncomputable def Zl (l:LamD)(f:Addr)(tbs:List (Addr×List Pos×Str)):Nat->Addr->Option HO->List V->Prop:=λn a ob xs=>
 (∃(c:Addr) (b:List (Str×Addr)) (e:Addr),n=300/\U9 l.fr b e/\xs=[.ref c,.ref e]/\ob=some (.ext (yZ a c l b)))\/
 (n=200/\∃(x:V) (u:Value) (o:Obj) (d:HO),xs=[x]/\RelV x u/\o.data=.cell (some u)/\ob=some (.frz o d))\/
 (n=1/\a=f/\ob=none)\/
 ∃(j:Nat) (q:Addr×List Pos×Str),tbs[j]?=some q/\j<100/\n=100+j/\xs=[]/\ob=some (.ext (wC a q.2.2))
section
variable {K:PySem.W.Frag}
theorem YI{x y1:Str}{N:Cn}{l:LamD}{G:LamD->List Str}{J:Addr}{kk:Nat}{f:Fn}{oc:Value}(hb:tbs.length<=100)(V:(tbs[l.jt]?).map (·.2.2)=some l.qn)
  (hl:K.lookup J=some ⟨oc,od,.func fd',sl⟩) (hB:Binds K fd [y1] []) (hk:kk<=k0+1) (F:FnOk P w K mg base (CX1 P w) kk J fd [y1] (spN (mkD K A0 (Zl l J tbs) λj=>tbs[j]?) 1 f)) (hf:∀t μ K Z,K .n μ->f [t] μ K Z)
  (M:MdOk (mkD K A0 (Zl l J tbs) λj=>tbs[j]?) P w K mg base N k0) (h:Vc (kT N l (G l)) l=true/\z1W R n (kT N l (G l)) l):GlOkM (mkD K A0 (Zl l J tbs) λj=>tbs[j]?) P w K mg base (k0+1) x (.kap l):=by
 obtain⟨⟨p1,p2,p3⟩,O,rfl⟩:=z6q.mp V;have lt:∀{j:Nat} {q:Addr×List Pos×Str},tbs[j]?=some q->j<100:=λe=>z5S (z5C.mp e).1 hb;refine⟨λw0 φ α H v kt d=>?_,⟨⟨p1,p2,O⟩,λa c cl e h=>.inl ⟨c,cl,e,rfl,h,rfl,rfl⟩,λc o u x ob h1 h2=>.inr (.inl ⟨rfl,x,u,o,ob,rfl,h2,h1,rfl⟩),λj P' pos qn c e=>.inr (.inr (.inr ⟨j,_,e,lt e,rfl,rfl,rfl⟩))⟩⟩;have lj:=lt O;rcases kt with⟨t0,rfl⟩|rfl
 .obtain⟨a,ob,xs,rfl,hc,X,v,q,hv,⟨c,S,xs2,hcv,hc2,D,_⟩,v2,_,U,⟨e,ob3,xs3,Y,hc3,C,v0,_,hx,dv,_⟩,_⟩:=d;rcases hc with⟨c',cl,e',_,cat,e3,rfl⟩|⟨z,_⟩|⟨z,_⟩|⟨_,_,_,_,z,_⟩
  .subst e3;cases hv;cases U;cases hcv;cases Y;have B:S=some (.ext (wC c l.qn)):=by
    rcases hc2 with⟨_,_,_,z,_⟩|⟨z,_⟩|⟨z,_⟩|⟨j2,q2,i,_,z,_,e⟩
    .lia
    .lia
    .lia
    .have:l.jt=j2:=by lia
     subst this;rw[O] at i;(replace i:=zm i;subst i);exact e
   subst B;rcases hc3 with⟨_,_,_,z,_⟩|⟨_,x0,u0,o,u',rfl,r0,hd,rfl⟩|⟨z,_⟩|⟨_,_,_,_,z,_⟩
   .lia
   .cases hx;refine⟨a,k0+1,rfl,z5K _,λA g s e0=>?_⟩;obtain⟨np,_⟩:=(e0.hok a _ ((X _ rfl).2.2));obtain⟨cr,_⟩:=(e0.hok c _ (D _ rfl).2.2);refine⟨?_,λW u x Q t μ K0 Z0 E r dx T p k I=>?_⟩
    .obtain⟨_,_,_,h2⟩:=np;exact⟨_,_,_,_,h2⟩
    .rcases p with⟨_,e,p⟩|⟨e,_⟩<;>cases e
     exact KR M h.1 h.2 W e0 np cr cat dv ⟨o,u',u0,(C _ rfl).2.2,hd,r0⟩ r dx T p k I
   .lia
   .lia
  .lia
  .lia
  .lia
 .obtain⟨a,ob,xs,rfl,hc,_⟩:=d;rcases hc with⟨_,_,_,z,_⟩|⟨z,_⟩|⟨_,rfl,_⟩|⟨_,_,_,_,z,_⟩
  .lia
  .lia
  .refine⟨a,kk,rfl,hk,λA g s e0=>?_⟩;have KX:K.In s.heap:=e0.mod.kin.keeps λb o e=>(e0.bs b o e).1;refine⟨⟨oc,od,fd',sl,KX _ _ hl⟩,λW u x Q t μ K0 Z0 E r dx T p k I=>?_⟩;refine F.run A g s H ⟨[u],[]⟩ [u] [x] Q _ W e0 (by simpa using hB s [u] KX (by simp)) (.cons r .nil) ⟨rfl,φ,α,[t],μ,⟨x,[],rfl,dx,rfl⟩,T,(λt' y=>t'=.n/\y=μ),(λ_ _ _=>False),hf t μ _ _ ⟨rfl,rfl⟩,?_,λ_ _ _ z=>z.elim⟩;rintro t' y ⟨rfl,rfl⟩ L H2 st m v2 d2;rcases p with⟨t0,e,_⟩|⟨_,p⟩
   .cases e
   .exact k _ _ p L H2 v2 st m d2
  .lia
end
noncomputable def z31:(g:GM)->Option {l // g=.kap l}
 |.kap l=>some ⟨l,rfl⟩
 |_=>none
noncomputable def z3E:ER:=λr a e=>(z3P e).bind λq=>(z31 (a.gl Zs)).bind λl=>wth a.lam λp c=>wth (idx a.N l.1.fr) λf d=>
 gd (a.lnm==("<lambda>":Str)&&a.U.contains Zs&&p.1==l.1.jt&&decide (q.2.2.2∈p.2)&&frees l.1.sc==[l.1.fr]&&a.fz.contains l.1.fr&&a.cel.contains l.1.fr&&l.1.y==q.1.1&&l.1.sc==q.2.2.1) λb=>some ⟨.Lambda ⟨[],[⟨l.1.y,none,q.1.2⟩],none,[],[],none,[]⟩ l.1.body l.1.sc q.2.2.2,XJ l.1.jt f,λC=>by
 simp only[z5P,beq_iff_eq,decide_eq_true_eq,z6j] at b;obtain⟨⟨⟨⟨⟨⟨⟨⟨n,m⟩,k⟩,j⟩,i⟩,h⟩,g⟩,_⟩,_⟩:=b;exact UD C n (by rw[c,<-k]) j m l.2 i h g d⟩
noncomputable def z5i:ER:=λr b e=>(VN e).bind λq=>(QU q.as).bind λa=>gd (q.m==("keeper":Str)) λ_=>(z31 (b.gl Zs)).bind λl=>(r.e b q.o).bind λo=>(r.e b a).bind λf=>(X3 b.fld q.m).bind λn=>gd (qo o.y&&q.pa.endLine==q.pc.line) λh=>gd (b.calm&&noStar f.y) λc=>gd (b.U.contains Zs) λi=>
 some ⟨.Call (.Attribute o.y q.m q.pa) [f.y] [] q.pc,z1K l.1.jt l.1.g n.1 o.d f.d,λC=>z1Q C (by simpa using i) l.2 n.2 (zB c).1 (zB h).1 (zB h).2 (zB c).2 (o.ok C) (f.ok C)⟩
end NH
namespace NH
open PySem PySem.Spec PyProof.Rows L2 PySem.W
noncomputable def PL:Nat->(List Value->Prop)->Prop
 |0,P=>P []
 |n+1,P=>∀a,PL n λl=>P (a::l)
theorem PL.all:∀{n:Nat} {P:List Value->Prop},PL n P->∀j:List Value,j.length=n->P j
 |0,_,h,[],_=>h
 |_+1,_,h,a::l,e=>PL.all (h a) l (Nat.succ.inj e)
noncomputable abbrev wQ(st:Stmt):List Str:=(vk st).args.map (·.arg)
end NH
namespace NH
open PySem PySem.Spec PyProof.Rows L2
noncomputable def sIx(l:List Stmt)(i:Nat):Stmt:=l.getD i (.Pass ⟨0,0,0,0⟩)
noncomputable def z4E:Stmt->Expr
 |.Assign _ e _=>e
 |.Return (some e) _=>e
 |.Expr e _=>e
 |_=>.Name "" ⟨0,0,0,0⟩
noncomputable def z4W(e:Expr)(i:Nat):Expr:=match e with
 |.Call _ a _ _=>a.getD i e
 |_=>e
noncomputable def z5t:Expr->Expr
 |.Lambda _ b _ _=>b
 |e=>e
noncomputable def z59:Expr->Scope
 |.Lambda _ _ s _=>s
 |_=>⟨.function,[],false,false,[]⟩
theorem z38{P:z6t}{K:z5M}{F:List Str}(M:MdOk D P w K mg base a k):MdOk D P w K mg base {a with fz:=F} k:=⟨M.hK,M.glo,M.isi,M.fld,M.xcx,M.ocx,M.clv,M.xmt⟩
theorem z2r{R:Rules}{D:DP}{P:z6t}{w:z81}{K:z5M}{mg:Str->Option Value}{base:Heap}{c:Cn}{n k:Nat}{f:Addr}{name a:Str}{params:Arguments}{body:List Stmt}{scope:Scope}{o kV e l b ct r:Value}{p q:Option Addr}{g:Array (Option Value)}{ps:List Str}{m cut:Nat}{ds:List Ds}
  (M:MdOk D P w K mg base c k) (lk:K.lookup f=some ⟨r,q,.func (z6O name a params body scope o kV e l p b ct),g⟩) (j:z7W K b a=true) (hs:yz c ps scope=true) (hm:c.N.length=ps.length+m) (i:bdy R n {c with fz:=[]} (body.take cut)=some (body.take cut,ds.take cut)) (h:bdy R n c (body.drop cut)=some (body.drop cut,ds.drop cut)) (d:LamOk D mg base b (a++".<locals>.") k c.lam c.lnm) :
  FnOk P w K mg base (CX1 P w) (k+1) f (z6O name a params body scope o kV e l p b ct) ps (spN D ps.length (fnW ps.length m ds)):=by
 have:=Yf M lk j hs hm (z89 cut body).symm i h d;rwa[z89] at this
noncomputable abbrev z5z(x y:T)(μ:Mem):RE T:=match x with
 |.str x=>(match y with
  |.int n=>.grd (x.length=1/\1<n/\n<=1000) (.ok (.str (Txt.mul x n)) μ)
  |_=>.st)
 |_=>.st
noncomputable def xJ(x:Str):List (Str×Int)->T
 |[]=>.n
 |p::r=>if p.1=x then .int p.2 else xJ x r
noncomputable abbrev z3F(a:List (Str×Int))(t:T)(μ:Mem):RE T:=match t with
 |.str x=>.ok (xJ x a) μ
 |_=>.st
noncomputable abbrev X0(a:List (Str×Int))(f:De):De:=λb c=>(f b c).bind (z3F a)
noncomputable abbrev z5v(o f g:De):De:=λa h=>(o a h).bind λi d=>match i with
 |.d e=>(f a d).bind λj c=>(g a c).bind λk b=>match j with
  |.str z=>.ok ((ze (.inr z) e).getD k) b
  |_=>.st
 |_=>.st
section
theorem Kx:∀{a:List (Str×Int)},(jR (a.map λp=>((.inr p.1:Key),V.int p.2)) (.inr x)).getD .n=(match xJ x a with|.int i=>V.int i|_=>V.n):=by
 intro a;induction a with
 |nil=>rfl
 |cons p r b=>
  unfold xJ;by_cases e:p.1=x
  .rw[if_pos e,z6c,vQ (by rw[e])];rfl
  .rw[if_neg e,z6c,vM (λz=>e (z7v z))];exact b
theorem uD:∀{a:List (Str×Int)},Den D φ α H (xJ x a) (match xJ x a with|.int i=>V.int i|_=>V.n)
 |[]=>rfl
 |p::r=>by
  unfold xJ;by_cases e:p.1=x
  .rw[if_pos e];rfl
  .rw[if_neg e];exact uD
theorem Yv(C:Ck D W u X k)(i:x∈u.G)(hg:u.gl x=.tbl j)(hs:noStar a=true)(c:(pa.endLine==pc.line)=true)(S:PE X a (rdE D W f)) :
  PE X (.Call (.Attribute (.Name x p0) "get" pa) [a] [] pc) (rdE D W (X0 j f)):=by
 have r:z6H [a] X.env=[(false,eval a X.env)]:=z6 hs;have m:M1 X (.Name x p0) "get" pa a pc:=⟨qB rfl,by rw[r];rfl,c,by rw[r];rfl⟩;have q:=C.glo x i;rw[hg] at q;obtain⟨ad,vs,R,T,P,y⟩:=q;rintro n s σ H Q I ⟨φ,α,τ,μ,M,O,p⟩;refine zbn m.base m.few m.line z9T z88 zaj (qL I (C.glb x i) R ?_ (C.dbG x i));have A:=y _ I.kIn;refine⟨A.typeIs,λb e=>?_,?_⟩
 ·(injection e with e;subst e);obtain⟨ob,_,_,V,U,_⟩:=A;exact⟨ob,V,U.2.1⟩
 .rw[m.trees];refine z8L rfl (z7A (z9n (thn (sub S I M O p) ?_)));rintro iv s2 ⟨v,Z,t,E,J,B,N,K,L,h,Y,o⟩;refine z9C ?_;cases t with
  |str z=>
   subst Y;have g:=y _ B.kIn;refine call_meetsIn z88 g.typeIs za6 (z9S _ _) (meets_dict_get (zN X.prog X.w) ad (yO (k:=.inr z) N) T) ⟨_,g.mapOf,?_⟩;have l:=(KV.val P (.inr z)).getD (d:=.n) rfl;rw[Kx] at l;exact⟨_,Z,B.tok _,l,Post.here o h uD⟩
  |_=>exact Post.elim o
noncomputable def z4D:(g:GM)->Option {q // g=.tbl q}
 |.tbl a=>some ⟨a,rfl⟩
 |_=>none
noncomputable def z3i:ER:=λr b e=>(VN e).bind λq=>(z4H q.o).bind λx=>(QU q.as).bind λa=>gd (q.m==("get":Str)) λ_=>(z4D (b.look x.1)).bind λt=>(r.e b a).bind λf=>gd (noStar f.y&&q.pa.endLine==q.pc.line) λh=>some ⟨.Call (.Attribute (.Name x.1 x.2) "get" q.pa) [f.y] [] q.pc,X0 t.1 f.d,λC=>Yv C (qi t.2 nofun).1 (qi t.2 nofun).2 (zB h).1 (zB h).2 (f.ok C)⟩
end
noncomputable def z0m (w:z81):List zcW->List (Str×Int)->Prop
 |[],[]=>True
 |e::r,p::q=>(∃t u,e=⟨z9y w p.1,.str p.1 t,.int p.2 u⟩)/\z0m w r q
 |_,_=>False
theorem Vj{P:z6t}:∀{es:List zcW} {a:List (Str×Int)},z0m w es a->∃vs,KV (a.map λp=>((.inr p.1:Key),V.int p.2)) vs/\Pairs (zN P w) es vs/\vs.map (·.1)=a.map (λp=>(.inr p.1:Key))/\∀e∈es,∃k,(zN P w).is k e.key=true/\e.hash=(zN P w).hash k
 |[],[],_=>⟨[],.nil,.nil,rfl,sC⟩
 |e::r,p::q,h=>by
  obtain⟨⟨t,u,rfl⟩,h⟩:=h;obtain⟨vs,i,g,f,d⟩:=Vj h;have c:(zN P w).is (.inr p.1) (.str p.1 t)=true:=Z8 p.1 t;refine⟨(.inr p.1,.int p.2 u)::vs,.cons ⟨rfl,u,rfl⟩ i,.cons c rfl g,by rw[z6c,z6c,f],λe b=>?_⟩;rcases z61.mp b with rfl|b
  .exact⟨_,c,rfl⟩
  .exact d e b
 |[],_::_,h=>h.elim
 |_::_,[],h=>h.elim
theorem z1S{P:z6t}{K:z5M}(hm:mg x=some (.ref a))(hs:(a==z7p)=false)
  (lk:K.lookup a=some {cls:=.type "dict",data:=.dict es ep}) (d:z0m w es.toList j) (nd:(j.map (·.1)).Nodup):GlOkM D P w K mg base k x (.tbl j):=by
 obtain⟨c,m,l,i,g⟩:=Vj d;refine⟨a,c,hm,hs,m,λh b=>⟨_,es,ep,b _ _ lk,⟨rfl,rfl,rfl⟩,rfl,λe f=>g e (zap.mpr f),l,?_⟩⟩;rw[i,z9x,z72];have nd:=z9x.mp nd;rw[z72] at nd;exact zbt (λ{p q} n e=>n (z7v e)) nd
noncomputable abbrev XU:Key->T
 |.inl i=>.int i
 |.inr z=>.str z
noncomputable def uU(μ:Mem)(i:Nat)(a:List (Key×T)):Prop:=μ[i]?=some (.d a)\/∃b,μ[i]?=some (.frd b a)
abbrev lvD(i ep:Nat)(a:List (Key×T)):Mem->Prop:=λb=>b[i]?=some (.frd ep a)
noncomputable abbrev iD(f:De):Di:=λd e=>(f d e).it λt b=>match t with
 |.m i=>λK _=>∃a,uU b i a/\∀c,K (a.map λp=>XU p.1) (lvD i c a) (b.set i (.frd c a))
 |_=>RI.st
noncomputable abbrev Yj(t:T)(μ:Mem):RE T:=match t with
 |.m i=>λK _=>∃a,uU μ i a/\K (.int a.length) μ
 |_=>.st
noncomputable abbrev uq(x y:T)(μ:Mem):RE T:=match x,y with
 |.m i,.str z=>λK _=>∃a v,uU μ i a/\ze (.inr z) a=some v/\K v μ
 |_,_=>.st
noncomputable def ItK (a:Addr)(ep n:Nat):It:=⟨λi H=>∃b p,H a=some (.dE ep b)/\b.length=n/\b[i]?=some p,λi H x c=>c=H/\∀b,H a=some (.dE ep b)->∃p,b[i]?=some p/\x=kV p.1,λi H=>∃b,H a=some (.dE ep b)/\b.length=n/\b.length<=i⟩
theorem z3k{P:z6t}(h:(zN P w).is k u=true):RelV (kV k) u:=by
 cases k with
 |inl i=>exact zcX h
 |inr x=>exact zcx h
theorem JG{P:z6t}{K:z5M}(a it:Addr)(ep n:Nat):Turn P w K tg (ItK a ep n) [it] it (λi h=>h.IsKeyIter it a i n ep) where
 mem:=by simp
 obj:=λi h st b f=>by
  have e:b=it:=by simpa using f
  subst e;obtain⟨o,e,c,d⟩:=st;exact⟨o,e,λv z=>by rw[d] at z;injection z⟩
 keep:=λi h N st k=>st.at λo e=>k it sC o e
 item:=by
  intro X y hw A M i j s Q H E I t st hg;subst y hw A;obtain⟨U,p,e,rfl,r⟩:=hg;obtain⟨z,hd,u,rel,J⟩:=(I.hok a _ e);have m:=rel.length;obtain⟨G,F,V,D,C,B⟩:=t it sC;have L:i<u.length:=m▸(z5C.mp r).1;have S:p.1=u[i].1:=by
   have:=congrArg (λl:List Key=>l[i]?) rel.keys;simp only[z5Z,r,z67 L,zbT,z8O] at this;exact this
  rw[m] at st;refine wpAny_pyNext_dict_item st J (by rw[z67 L]) λx N q g R=>?_;obtain⟨o,Y,c,d⟩:=id g;exact⟨x,rfl,y7 Y c d dC ⟨kV p.1,H,(I.turned (t':=s.toks) (λb o f e=>(R.2 b f).trans e) G F D C B),S▸z3k q,⟨rfl,λT O=>by rw[e] at O;cases O;exact⟨p,r,rfl⟩⟩,m▸g,λb f=>(t b f).1⟩⟩
 done:=by
  intro X y hw A M i j s Q H E I t st hg;subst y hw A;obtain⟨U,e,rfl,r⟩:=hg;obtain⟨z,hd,u,rel,J⟩:=(I.hok a _ e);have m:=rel.length;obtain⟨G,F,V,D,C,B⟩:=t it sC;rw[m] at st;exact wpAny_pyNext_dict_end (I.ok.hd M) st J (z87 lC) λN eb=>⟨rfl,I.turned (λb o f e=>eb b o f e) G F D C B⟩
 self:=λ_ _ _ _ _ st h=>wpAny_pyIter_keyiter st h
section
theorem VZ:∀{a:List (Key×T)} {b:List (Key×V)},DenK D φ α H a b->∀{i:Nat} {p:Key×V},b[i]?=some p->∃q:Key×T,a[i]?=some q/\q.1=p.1
 |[],_,h,i,p,e=>by subst h;exact z7 e
 |q::r,_,h,i,p,e=>by
  obtain⟨v,c,rfl,d,l⟩:=h;cases i with
  |zero=>(injection e with e;subst e);exact⟨q,rfl,rfl⟩
  |succ i=>exact VZ l e
theorem UE:Den D φ α H (XU z) (kV z):=by cases z<;>rfl
theorem XM{ad:Addr}(b:s.length=n):ItV D (ItK ad ep n) (λφ α H=>∃j,H ad=some (.dE ep j)/\DenK D φ α H s j) (s.map λp=>XU p.1):=
 ⟨λi φ α H ⟨j,e,l⟩ a=>by
  have c:=qy l;have a:i<j.length:=by rw[c];simpa using a
  exact⟨j,j[i],e,c.trans b,z67 a⟩,λi φ α H v h t ⟨j,e,l⟩ a y=>by
  obtain⟨rfl,y⟩:=y;obtain⟨p,f,rfl⟩:=y j e;obtain⟨q,d,g⟩:=VZ l f;rw[z5Z,d] at a;(injection a with a;subst a);exact⟨λ_ _ z=>z,g▸UE⟩,λφ α H ⟨j,e,l⟩=>⟨j,e,(qy l).trans b,by rw[qy l,z5H];exact z5K _⟩⟩
theorem Kg(a:MRel D φ α H μ)(b:α[i]?=some x)(h:uU μ i s):∃j,(H x=some (.dK j)\/∃ep,H x=some (.dE ep j))/\DenK D φ α H s j:=by
 rcases h with h|⟨ep,h⟩
 .obtain⟨j,e,l⟩:=a.ob i x _ b h;exact⟨j,.inl e,l⟩
 .obtain⟨j,e,l⟩:=a.ob i x _ b h;exact⟨j,.inr ⟨ep,e⟩,l⟩
theorem set_same{β:Type}:∀{l:List β} {i:Nat} {b:β},l[i]?=some b->l.set i b=l
 |[],_,_,h=>z7 h
 |c::r,0,b,h=>by (injection h with h;subst h);rfl
 |c::r,i+1,b,h=>congrArg (c::·) (set_same h)
theorem YW(ha:PE X a (rdE D W f)):PI X tg a (rdI D W (iD f)):=by
 rintro x s M H R I ⟨G,α,τ,μ,T,V,p⟩;refine thn (sub ha I T V p) ?_;rintro u B ⟨v,q,t,i,d,K,U,Q,S,n,d1,J⟩;cases t with
 | m j=>
  obtain⟨ad,r,rfl⟩:=d1;subst U;have C:=J;obtain⟨K0,Z0,⟨y,hd,C⟩,k1,k2⟩:=C;have A:j<i.length:=by rcases hd with h|⟨_,h⟩<;>exact (z5C.mp h).1
  have E:∃c g,Inv X x M (upd q ad (.dE c g)) B/\Stp d q d (upd q ad (.dE c g))/\DenK D G d q y g:=by
   rcases hd with h|⟨c,h⟩
   .obtain⟨g,e,l⟩:=n.ob j ad _ r h;obtain⟨c,w⟩:=z1T K e;exact⟨c,g,w,Stp.turn (z5E r) ⟨_,e⟩,l⟩
   .obtain⟨g,e,l⟩:=n.ob j ad _ r h;have:upd q ad (.dE c g)=q:=by
     funext b;unfold upd;split
     .subst_vars;exact e.symm
     .rfl
    exact⟨c,g,by rw[this];exact K,Stp.turn (z5E r) ⟨_,e⟩,l⟩
  obtain⟨c,g,w,k,l⟩:=E;have Y:MRel D G d (upd q ad (.dE c g)) (i.set j (.frd c y)):=n.turn r A k ⟨g,z0,(DenK.lk k.lk l)⟩;obtain⟨z,hs,P,rel,da⟩:=(w.hok ad _ z0);refine wpAny_pyIter_dict hs da ⟨B.heap.objs.size,[B.heap.objs.size],_,_,_,rfl,w.kept λb o e=>z5I _ e,JG ad _ c P.length,⟨_,z6a _ rfl,rfl,rfl⟩,λb hb=>?_,?_⟩
  .have e:b=B.heap.objs.size:=by simpa using hb
   subst e;exact w.fpOk (z5K _) (w.hok.fresh (z5K _))
  .refine k1 _ _ (C c) d _ k Y _ _ (XM ((qy l).symm.trans rel.length)) (λL O H' N lk m hv=>?_) ?_
   .obtain⟨F,e',Z⟩:=m.ob j ad _ (lk.st j ad r) hv;exact⟨F,e',Z⟩
   .show (i.set j _)[j]?=_;rw[z6N A]
 |_=>exact Post.elim J
theorem z23:B1 X D W (.builtin "len") Yj:=by
 intro a s m H k c n t v u Q I b d r p;unfold Yj at p;split at p
 .obtain⟨x,w,⟨f,hd,p⟩,g,q⟩:=p;obtain⟨ad,h,rfl⟩:=d;subst r;obtain⟨i,e,l⟩:=Kg b h hd;refine z40 I (e.imp .inl id) λt o j=>⟨.int i.length,H,j,⟨t,rfl⟩,?_⟩;rw[qy l];exact g _ _ p c H (Stp.refl _ _) b _ rfl
 .exact p.elim
theorem Uj(h:qp b=true):z1g b:=by
 intro o i;cases b<;>first|(simp[qp] at h;done)|rfl
set_option tactic.hygienic true in
theorem z15(C:Ck D W Γ X k)(hs:qp b=true)(o:PE X a (rdE D W f))(P:PE X b (rdE D W g)):PE X (.Subscript a b pos) (rdE D W (eC2 uq f g)):=by
 refine PE.mono (Yt (by have:=C.unt;lia) o P (Uj hs)) ?_;rintro Z H Q ⟨r,F,s,E,u,J,p⟩;refine⟨r,F,s,E,u,J,p.bind.mono λx e j H1 n K q v d=>⟨r,j,s,e,u.step n,K,q.bind.mono λy B h Y m A c w V=>?_⟩⟩;unfold uq at c;split at c
 .rename_i i z;obtain⟨K0,Z0,⟨L,t,O,N,I⟩,M,k2⟩:=c;obtain⟨ad,o,rfl⟩:=d.step m;obtain⟨U,R,l⟩:=Kg A o O;obtain⟨G,T,S⟩:=Q_ l N;subst V;exact⟨ad,G,rfl,⟨U,.inr z,R.imp .inl id,rfl,T.symm⟩,M _ _ I h Y (Stp.refl _ _) A _ S⟩
 .exact c.elim
end
noncomputable def YS (a:Cn)(e:Expr):Bool:=match e with
 |.Name x _=>a.own.contains (("~":Str)++x)
 |.Attribute _ x _=>x==("seats":Str)
 |_=>false
noncomputable def riK:IR:=λr a e=>gd (YS a e) λ_=>(r.e a e).bind λf=>some ⟨f.y,iD f.d,λC _=>YW (f.ok C)⟩
noncomputable def z3p:ER:=λr b e=>(yE e).bind λq=>(QU q.as).bind λa=>gd (YS b a) λ_=>rB1 "len" Yj false (λC c hg _ hs d=>V9 C c hg boot_len (by decide) hs z23 d) r b e
noncomputable def z4O:ER:=λr a e=>(Yu e).bind λq=>gd (YS a q.1) λ_=>(r.e a q.1).bind λf=>(r.e a q.2.1).bind λg=>gd (qp g.y) λh=>some ⟨.Subscript f.y g.y q.2.2,eC2 uq f.d g.d,λC=>z15 C h (f.ok C) (g.ok C)⟩
noncomputable def niD (r:Rec)(c:Cn)(e:Expr):Option (CB c):=(Ui e).bind λq=>gd (YS c q.b) λ_=>(r.e c q.a).bind λf=>(r.e c q.b).bind λg=>gd (wZ .NotIn g.y) λh=>(match q.op with
 |.NotIn=>some ⟨.Compare f.y [.NotIn] [g.y] q.p,eC2 u5 f.d g.d,λC=>⟨Yi (VU C.unt) h (f.ok C) (g.ok C),Q0 (VU C.unt) h (f.ok C) (g.ok C)⟩⟩
 |_=>none)
noncomputable def z54:ER:=λr a e=>(niD r a e).bind λc=>some c.eb
noncomputable def z3a:TR:=λr a e=>(niD r a e).bind λc=>some c.tb
theorem ZF:zca (.type "list") "keys"=pure none:=by rw[typeLookup_type,builtinLookup_eq_fast];kernel_rfl
theorem JV 
  (l:s.heap.get? a=some o) (hc:o.cls=.type "list") (j:o.data=.seq xs k) (hd:o.dict=none) (q:A.handled=none)
  (h:∀h' tk,(∀b u,s.heap.get? b=some u->h'.get? b=some u)->Q none {s with heap:=h',toks:=tk}) :
  z5V (z5X prog w) A (getAttr? (.ref a) "keys") Q E s:=by
 obtain⟨c,r,t,n⟩:=o;subst hc j hd;obtain⟨p,g,d,tk,os⟩:=s;have m:∀f,(⟨p,g,d,f,os⟩:z5W).TypeIs (.ref a) "list":=λ_=>⟨_,l,rfl⟩;have D:=sub_AttributeError;have C:=z7Y.lookup;have B:=z7Y.bind (.ref a);have z:=am_list_getattr_none;repeat (any_goals (first|assumption|exact m _|((with_reducible show z5V _ _ (call (Value.builtin "list.__getattribute__") _ _) _ _ _);refine zcd z7Y (m _) am_entry_list_getattribute (PySem.F.args_list_getattribute_2 _ _) (meets_getattribute_miss_list a xs k n "keys" _ ZF dC dC) ⟨l,q,λh' f e i=>?_⟩)|wp_step))
 obtain⟨x,v,y⟩:=i.there;unfold getattributeRaised;repeat (any_goals (first|assumption|wp_step))
 exact h _ _ λb u e=>i.of.keeps b u e
theorem vW:entryFor table "dict.update.loop"=some zc_.«dict.update.loop»:=entryFor_of_tree (by kernel_rfl)
theorem vO:plainId "dict.update.loop"=true:=by decide +kernel
noncomputable def Xc(h:Heap)(v kv u:Value):Prop:=∃t o n,v=.ref t/\h.get? t=some o/\o.cls=.type "tuple"/\o.data=.seq #[kv,u] n
noncomputable abbrev pr2{K:Type}(x:K×Value×Value):K×Value:=(x.1,x.2.2)
section
variable {prog:Program}{w:World}{K:Type}[DecidableEq K]{knd:PySem.KeyKind prog w K}{A:Around}{E:Value->Shared->Prop}{s:Shared}
theorem Wy(hh:A.in1.handled=none){R:Result->z5W->Prop}{d I l:Addr}{items:Array Value}{a:List (K×Value×Value)}(B:d≠I)(hdl:d≠l)(L:l≠I)(hn:(a.map (·.1)).Nodup)(hsz:a.length<=sizeLine)(J:items.size=a.length)(h0:Heap)
  (Y:∀(i:Nat) (y:K×Value×Value),a[i]?=some y->∃v,items[i]?=some v/\Xc h0 v y.2.1 y.2.2/\v≠.ref d/\v≠.ref I) (hky:∀y∈a,knd.is y.1 y.2.1=true) :
  ∀(k i:Nat) (s:z5W) (t:Tok),a.length-i=k->i<=a.length->s.heap.IsListIter I l i->s.heap.IsList l items->s.heap.DictOf knd d ((a.take i).map pr2)->(∀b u,b≠d->b≠I->h0.get? b=some u->s.heap.get? b=some u)->
   (∀h' tk,h'.DictOf knd d (a.map pr2)->(∀b u,b≠d->b≠I->s.heap.get? b=some u->h'.get? b=some u)->R (.ok (.ret .none)) {s with heap:=h',toks:=tk})->
   z8B (z5X prog w) A (.builtin "dict.update.loop" ⟨[.ref d,.ref I,.int i t,.none],[]⟩) R s:=by
 intro k;induction k with
 |zero=>
  intro i s t hk hi x r hd E hR;have hin:i=a.length:=by lia
  subst hin;refine zb_ vW (z5D ((zci hh I l L items).toS.done s _ _ ⟨J▸x,r⟩ λT f=>?_));obtain⟨h',g',d',p,U⟩:=T;have eg:=f.gens;have ed:=f.drawn;have eo:=f.os;subst eg ed eo;rw[z9V] at hd;obtain⟨o,es,ep,ho,hc,hdd,he,hnn⟩:=hd;refine z5D (z5Q (z5Q (hR h' p ⟨o,es,ep,f.heap d o (by simp[B]) ho,hc,hdd,he,hnn⟩ (λb u _ g e=>f.heap b u (by simp[g]) e))))
 |succ k ih=>
  intro i s t hk hi x r hd E hR;have H:i<a.length:=by lia
  obtain⟨⟨q,b,u⟩,N⟩:∃y,a[i]?=some y:=⟨a[i],z67 H⟩;obtain⟨v0,X,Z,nd,nI⟩:=Y i _ N;refine zb_ vW (z5D ((zci hh I l L items).toS.item i s _ _ lC ⟨x,r⟩ λv T O j f=>?_));rw[X] at O;(replace O:=zm O;subst O);obtain⟨h',g',d',p,U⟩:=T;have eg:=f.gens;have ed:=f.drawn;have eo:=f.os;subst eg ed eo;have kp:∀b u,b≠d->b≠I->s.heap.get? b=some u->h'.get? b=some u:=λb u _ g e=>f.heap b u (by simp[g]) e;have D:∀b u,b≠d->b≠I->h0.get? b=some u->h'.get? b=some u:=λb u h g e=>kp b u h g (E b u h g e);obtain⟨tp,o,n,rfl,ho,hc,hdt⟩:=Z;have F:=D tp o (λz=>nd (by rw[z])) (λz=>nI (by rw[z])) ho;have hD:h'.DictOf knd d ((a.take i).map pr2):=by
   obtain⟨od,es,ep,g1,g2⟩:=hd;exact⟨od,es,ep,f.heap d od (by simp[B]) g1,g2⟩
  have G:q∉(a.take i).map (·.1):=by
   have z:(a.take i++[(q,b,u)]).map (·.1) |>.Nodup:=by
    rw[show a.take i++[(q,b,u)]=a.take (i+1) by rw[z6w,N];rfl];exact hn.sublist ((z7d _ _).map _)
   rw[z5Y,z6L] at z;exact λm=>z.2.2 q m q sC rfl
  have Q:stored ((a.take i).map pr2) q u=(a.take (i+1)).map pr2:=by
   unfold stored;have:((a.take i).map pr2).any (λkv=>decide (kv.1=q))=false:=by
    rw[z9A];intro kv hkv;obtain⟨z,hz,rfl⟩:=z5O.mp hkv;simp only[decide_eq_true_eq];exact λe=>G (z5O.mpr ⟨z,hz,e⟩)
   rw[this,if_neg dC,z6w,N,z5Y];rfl
  refine z5D (z6p (z5D (wpAny_tryCatch (z5D (z8K ⟨o,F,hc⟩ (z5D (wpAny_seqItems F hdt (z5Q ?_))))))));refine z6p (wpAny_dictSet_pairs (hky _ (z5E N)) hD λg M S=>?_);rw[Q] at M;have C:∀b u,b≠d->b≠I->h'.get? b=some u->g.get? b=some u:=λb u h _ e=>(S.2 b h).trans e;have hI2:g.IsListIter I l (i+1):=by
   obtain⟨V,e1,e2⟩:=j.1;exact⟨V,(S.2 I (z6f B)).trans e1,e2⟩
  have hL2:g.IsList l items:=by
   obtain⟨V,e1,e2⟩:=j.2;exact⟨V,(S.2 l (z6f hdl)).trans e1,e2⟩
  exact z5Q ⟨plainId_quiet vO _,(ih (i+1) ⟨g,s.gens,s.drawn,p+1,s.os⟩ 0 lC H hI2 hL2 M (λb u h c e=>C b u h c (D b u h c e)) λh3 P hD3 W=>hR h3 P hD3 λb u h c e=>W b u h c (C b u h c (kp b u h c e)))⟩
theorem Q7 {l:Addr} {items:Array Value} {n:Nat} {d:List (K×Value×Value)} {Q:Value->z5W->Prop} (T:A.handled=none) (M:s.heap.get? l=some {cls:=.type "list",data:=.seq items n})
  (S:(d.map (·.1)).Nodup) (D:d.length<=sizeLine) (q:items.size=d.length)
  (G:∀(i:Nat) (y:K×Value×Value),d[i]?=some y->∃v,items[i]?=some v/\Xc s.heap v y.2.1 y.2.2)
  (H:∀y∈d,knd.is y.1 y.2.1=true)
  (h:∀h' tk,h'.DictOf knd s.heap.objs.size (d.map pr2)->(∀b u,s.heap.get? b=some u->h'.get? b=some u)->Q (.ref s.heap.objs.size) {s with heap:=h',toks:=tk}) :
  z5V (z5X prog w) A (call (.type "dict") [.ref l]) Q E s:=by
 refine callType_codes (Q₁:=λobj f=>obj=.ref s.heap.objs.size/\f={s with heap:=s.heap.push {cls:=.type "dict",data:=.dict #[]}}) PySem.F.kt_called_dict (PySem.F.kt_typeCall_dict_1 _) PySem.F.entry_dict_init (kt_code_dict_new _ ⟨rfl,rfl⟩) ?_;rintro obj f ⟨rfl,rfl⟩;have L:=z5U M;have a:(s.heap.push {cls:=.type "dict",data:=.dict #[]}).DictOf knd s.heap.objs.size []:=zbU s.heap;have k:=z5I {cls:=.type "dict",data:=.dict #[]} M;have I:Shared.TypeIs {s with heap:=s.heap.push {cls:=.type "dict",data:=.dict #[]}} (.ref l) "list":=⟨_,k,rfl⟩;refine⟨a.typeIs,PySem.F.args_dict_init_2 _ _,(z5D (z5D (wpAny_notOrdered_dict a.typeIs (z5Q ?_))))⟩;show z5V _ _ (zcY "dict.__init__" s.heap.objs.size (.ref l) [] .none) _ _ _;refine z5D (z8K I ?_);have N:A.in1.in1.handled=none:=by simp[T]
 refine z5D (JV k rfl rfl rfl N λx O B=>?_);have r:x.IsList l items:=⟨_,(B _ _ k),rfl,n,rfl⟩;have j:s.heap.objs.size<x.objs.size:=by
  obtain⟨o,_,_,e,_⟩:=id a;exact z5U (B _ _ e)
 refine z5D (za4 (z5D (z8M r (z5Q ⟨plainId_quiet vO _,?_⟩))));have g:∀b u,s.heap.get? b=some u->(x.push {cls:=.type "list_iterator",data:=.fields #[.ref l,.int 0 0]}).get? b=some u:=λb u e=>z5I _ (B _ _ (z5I _ e));have c:∀b u,s.heap.get? b=some u->b≠s.heap.objs.size/\b≠x.objs.size:=λb u e=>by
  have:=z5U e;constructor
  .exact z6b this
  .exact z6b (zbm this j)
 have U:(x.push {cls:=.type "list_iterator",data:=.fields #[.ref l,.int 0 0]}).DictOf knd s.heap.objs.size ((d.take 0).map pr2):=by
  obtain⟨o,X,Y,e1,Z⟩:=id a;exact⟨o,X,Y,z5I _ (B _ _ e1),Z⟩
 refine Wy N (z6b j) (z7l L) (z6b (zbm L j)) S D q s.heap (λi y R=>?_) H d.length 0 _ 0 lC (z7m _) ⟨_,z6a _ rfl,rfl,rfl⟩ (r.push _) U (λb u _ _ e=>g b u e) λV C J P=>⟨rfl,h V C J λb u e=>P b u (c b u e).1 (c b u e).2 (g b u e)⟩;obtain⟨v,W,p⟩:=G i y R;refine⟨v,W,p,λz=>?_,λz=>?_⟩
 .obtain⟨t,o,m,rfl,e,_⟩:=p;(injection z with z;subst z);exact (c _ _ e).1 rfl
 .obtain⟨t,o,m,rfl,e,_⟩:=p;(injection z with z;subst z);exact (c _ _ e).2 rfl
end
noncomputable abbrev z4b(p:Key×T):T:=.t [XU p.1,p.2]
noncomputable abbrev dctP(t:T)(μ:Mem):RE T:=λK _=>∃a:List (Key×T),t=.l (a.map z4b)/\(a.map (·.1)).Nodup/\a.length<=1000/\K (.m μ.length) (μ++[.d a])
section
theorem J_{a b:V}(r:Vals [a,b] u):∃s j,u=[s,j]/\RelV a s/\RelV b j:=by
 cases r with
 |cons f e=>cases e with
  |cons d c=>cases c;exact⟨_,_,rfl,f,d⟩
theorem Xt(d:Den D φ α H (XU z) v):v=kV z:=by cases z<;>exact d
set_option tactic.hygienic true in
theorem uQ{P:z6t}{h:Heap}(ok:HOk P w H h):∀{ps:List (Key×T)} {f:List V} {c:List Value},DenL D φ α H (ps.map z4b) f->Vals f c->
  ∃(b:List (Key×Value×Value)) (e:List (Key×V)),DenK D φ α H ps e/\KV e (b.map pr2)/\b.map (·.1)=ps.map (·.1)/\c.length=b.length/\(∀(i:Nat) y,b[i]?=some y->∃v,c[i]?=some v/\Xc h v y.2.1 y.2.2)/\∀y∈b,(zN P w).is y.1 y.2.1=true
 |[],f,c,l,r=>by
  subst l;cases r;exact⟨[],[],rfl,.nil,rfl,rfl,sC,sC⟩
 |p::ps,_,_,l,r=>by
  obtain⟨v,f,rfl,d,l⟩:=l;cases r with
  |cons x s=>
   rename_i u c;obtain⟨b,e,I,G,F,E,C,B⟩:=uQ ok l s;obtain⟨t,R,rfl,_,_,rt,z⟩:=d;obtain⟨S,W,rfl,g,j,U,rfl,Q,O⟩:=z;subst O;have g:=Xt g;subst g;subst x;obtain⟨_,A,q,o,L,K,m,J⟩:=(rt.ok ok);obtain⟨n,k,rfl,N,M⟩:=J_ q;refine⟨(p.1,n,k)::b,(p.1,j)::e,⟨j,e,rfl,Q,I⟩,.cons ⟨rfl,M⟩ G,by rw[z6c,F];rfl,by simp[E],λi y a=>?_,λy a=>?_⟩
   .cases i with
    |zero=>(injection a with a;subst a);exact⟨.ref t,rfl,t,o,m,rfl,L,K,J⟩
    |succ i=>exact C i y a
   .rcases z61.mp a with rfl|a
    .exact yO N
    .exact B y a
theorem z1u(hc:X.calm=true):B1 X D W (.type "dict") dctP:=by
 intro b s R H P T S t v u Q I e d r p;obtain⟨K,Z,⟨j,rfl,k,c,F⟩,E,V⟩:=p;obtain⟨ad,U,rfl,_,_,rd,l⟩:=d;subst r;obtain⟨z,x,m,h,C⟩:=(rd.ok I.hok);obtain⟨g,G,e0,N,f,M,L,J⟩:=uQ I.hok l h;have n:g.length=j.length:=by rw[<-z5H,f,z5H]
 have q:=qy e0;have a:=I.hok.fresh (z5K _);refine Q7 (I.ok.hd hc) C (f▸k) (n▸z66 c dC) (z63▸M) (λi y A=>?_) J λY tk O w=>?_
 .obtain⟨v,B,a⟩:=L i y A;exact⟨v,by simpa using B,a⟩
 .have sz:=beq_eq_false_iff_ne.mpr (z6f (z6b I.big));exact⟨.ref s.heap.objs.size,_,I.laid (o:=.dK G) w (z5K _) ⟨q▸z66 c dC,sz,_,N,O⟩,rfl,(E _ _ F _ _ (vb a) (e.layO a ⟨_,z0,DenK.lk (vb a).lk e0⟩) _ ⟨_,by rw[<-e.len,z5_ (z5K _)];simp,rfl⟩)⟩
end
noncomputable def z2K:ER:=rB1 "dict" dctP true λC a hg b hs c=>U_ C a hg (by decide +kernel) (by decide) hs (z1u (C.clm (b rfl))) c
theorem swT{α:Type}{a b:α}{Q:α->Prop}(h:∀P∈[a,b],Q P):∀P∈[b,a],Q P:=λP c=>h P (by rcases z61.mp c with e|e;exact z5T _ (z5F.mpr e);rw[z5F.mp e];exact z60)
noncomputable def siT:T->Option (Str×Int)
 |.t [.str a,.int n]=>some (a,n)
 |_=>none
noncomputable abbrev Vb(x y:T)(μ:Mem):RE T:=match y with
 |.t b=>λK _=>∃a,siT x=some a/\(∀t∈b,(siT t).isSome=true)/\K (.bl (b.any λt=>decide (siT t=some a))) μ
 |_=>.st
noncomputable def xX(h:Heap):Value->Option (Str×Int)
 |.ref a=>(h.get? a).bind λo=>(match o.data with|.seq b _=>(match b.toList with | [.str z _,.int n _]=>some (z,n)|_=>none)|_=>none)
 |_=>none
section
variable {X:Cx}{D:DP}{W:XW}{k:Nat}{pins:List (Addr×Obj)}{s:Shared}{σ:St}{H:Hp}{φ α:List Addr}{μ:Mem}
theorem WX{a:Str×Int}(h:siT t=some a):t=.t [.str a.1,.int a.2]:=by
 unfold siT at h;split at h
 .cases h;rfl
 .cases h
theorem XE{t:T}{a:Str×Int}(I:Inv X pins σ H s)(h:siT t=some a)(d:Den D φ α H t v)(r:RelV v u):xX s.heap u=some a:=by
 have e:=WX h;subst e;obtain⟨c,xs,rfl,_,_,rd,l⟩:=d;cases r;obtain⟨w,b,⟨o,x,_,n,hd⟩,_⟩:=I.tuple (.inl rd);obtain⟨k,A,rfl,i,j,q,rfl,g,f⟩:=l;have f:q=[]:=f;have i:k=.str a.1:=i;have g:j=.int a.2:=g;subst f i g;cases b with
 |cons p b=>
  cases b with
  |cons m b=>
   cases b;obtain⟨z,rfl⟩:=p;obtain⟨y,rfl⟩:=m;unfold xX;simp only[x,z9Q,hd]
theorem z1a{a b:Str×Int}:eqL [.str a.1,.int a.2] [.str b.1,.int b.2]=some (decide (a=b)):=by
 have e:(a.1==b.1)=decide (a.1=b.1):=by by_cases z:a.1=b.1<;>simp[z]
 have d:(a.2==b.2)=decide (a.2=b.2):=by by_cases z:a.2=b.2<;>simp[z]
 have c:decide (a=b)=(decide (a.1=b.1)&&decide (a.2=b.2)):=by
  rw[<-Bool.decide_and];exact decide_eq_decide.mpr Prod.ext_iff
 simp[eqL,eqT,e,d,c]
theorem K5{k:Bool}(I:Inv X pins σ H s)(h1:Den D φ α H t v)(h2:Den D φ α H u w)(d:RelV v a)(c:RelV w b)(e:eqT t u=some k)(f:A.units+j8 t+1<cLine):z7h A s a b k:=yy I _ _ _ _ _ _ _ _ _ (z77 _) h1 h2 d c e f
set_option tactic.hygienic true in
theorem z2d(hu:X.A.units+64<cLine):OpC X D W .In Vb:=by
 intro q s U H B n Y x y v w E u2 Q I K S R G F p;unfold Vb at p;split at p
 .rename_i c;obtain⟨K0,Z0,⟨b,O,j,p⟩,L,k2⟩:=p;obtain⟨ad,g,rfl,_,_,rd,l⟩:=R;cases F;obtain⟨a,e,J,_⟩:=I.tuple (.inl rd);have P:=WX O;have i:∀(c:List T) (g:List V) (a:List Value),DenL D B n H c g->Vals g a->(∀t∈c,(siT t).isSome=true)->(∀w∈a,z7h X.A.in1 s w E (decide (xX s.heap w=some b)))/\a.any (λw=>decide (xX s.heap w=some b))=c.any λt=>decide (siT t=some b):=by
   intro c;induction c with
   |nil=>intro g a l e _;cases l;cases e;exact⟨by simp,rfl⟩
   |cons t r M=>
    intro g a l e j;obtain⟨Z,q',rfl,d,l⟩:=l;cases e with
    | @cons _ u0 _ C o e=>
    obtain⟨m,k⟩:=M _ _ l e λt N=>j t (z5T _ N);obtain⟨h,f⟩:=z8v.mp (j t z60);have z:=XE I f d o;have u:=WX f;refine⟨λw hw=>?_,?_⟩
    .rcases z61.mp hw with rfl|hw
     .rw[z];refine K5 I d S o G ?_ ?_
      .rw[u,P];show eqL [.str h.1,.int h.2] [.str b.1,.int b.2]=_;rw[z1a];simp
      .rw[u,in1_units];show X.A.units+1+(qH [.str h.1,.int h.2]+1)+1<cLine;have:qH [T.str h.1,.int h.2]=0:=rfl;lia
     .exact m w hw
    .rw[z7a,z7a,k,z,f]
  obtain⟨m,k⟩:=i c g a l e j;refine zbN (items:=a.toArray) (λw=>decide (xX s.heap w=some b)) J (λw hw=>m w (by simpa using hw)) ⟨.bl _,H,I,rfl,?_⟩;rw[show a.toArray.any (λw=>decide (xX s.heap w=some b))=a.any (λw=>decide (xX s.heap w=some b)) by simp,k];exact L _ _ p n H (Stp.refl _ _) K _ rfl
 .exact p.elim
end
noncomputable def Wl(a:Expr):Bool:=match a with
 |.Tuple _ _ _=>true
 |_=>false
noncomputable def rMS:ER:=λr c e=>(Ui e).bind λq=>gd (Wl q.a&&Wl q.b) λ_=>(r.e c q.a).bind λf=>(r.e c q.b).bind λg=>gd (wZ .In g.y) λh=>(match q.op with
 |.In=>some ⟨.Compare f.y [.In] [g.y] q.p,eC2 Vb f.d g.d,λC=>Yi (z2d C.unt) h (f.ok C) (g.ok C)⟩
 |_=>none)
noncomputable def UI (x:Str):List T->Option Bool
 |[]=>some false
 |.str y::r=>(UI x r).map (decide (y=x) || ·)
 |_::_=>none
noncomputable abbrev X1(x y:T)(μ:Mem):RE T:=match x with
 |.str a=>(match y with|.t c=>.som (UI a c) λb=>.ok (.bl b) μ|_=>.st)
 |_=>.st
noncomputable def stV(a:Str):Value->Bool
 |.str b _=>b==a
 |_=>false
section
variable {D:DP}{W:XW}{X:Cx}{φ α:List Addr}{H:Hp}{A:Around}{s:Shared}
theorem Vk{a:Str}{t:Tok}:∀{f:List T} {c:Bool} {vs:List V} {b:List Value},UI a f=some c->DenL D φ α H f vs->Vals vs b->(∀u∈b,z7h A s u (.str a t) (stV a u))/\b.any (stV a)=c
 |[],c,vs,b,h,l,r=>by
  have l:vs=[]:=l;subst l;cases r;cases h;exact⟨by simp,rfl⟩
 |y::f,c,vs,b,h,l,r=>by
  obtain⟨v,i,rfl,d,l⟩:=l;cases y with
  |str z=>
   have h:(UI a f).map (decide (z=a) || ·)=some c:=h;have d:v=.str z:=d;subst d;cases r with
   |cons m k=>
    obtain⟨j,rfl⟩:=m;obtain⟨q,p,rfl⟩:=z6q.mp h;obtain⟨o,n⟩:=Vk p l k;refine⟨λu g=>?_,?_⟩
    .rcases z61.mp g with rfl|g
     .exact zaW z j a t
     .exact o u g
    .rw[z7a,n];show (z==a || q)=_;by_cases e:z=a<;>simp[e]
  |_=>cases h
theorem Y2:OpC X D W .In X1:=by
 intro e s E H C G F x y v w L K Q I n d B i h p;cases x with
 |str a=>
  have d:v=.str a:=d;subst d;obtain⟨t,rfl⟩:=i;cases y with
  |t J=>
   obtain⟨c,r,q⟩:=Post.som p;obtain⟨ad,f,rfl,_,_,rd,l⟩:=B;cases h;obtain⟨_,b,g,m⟩:=(show ObjOk X.prog X.w H s.heap ad (.t f) from rd.ok I.hok);obtain⟨k,j⟩:=Vk (A:=X.A.in1) (s:=s) r l g;refine zbN (stV a) m (λz o=>k z (by simpa using o)) ⟨.bl _,H,I,rfl,?_⟩;have u:b.toArray.any (stV a)=c:=by rw[<-j];simp
   rw[u];exact q.here n rfl
  |_=>exact Post.elim p
 |_=>exact Post.elim p
end
noncomputable def isNm:Expr->Bool
 |.Name _ _=>true
 |_=>false
noncomputable def z4a(r:Rec)(c:Cn)(e:Expr):Option (CB c):=(Ui e).bind λq=>gd (isNm q.a&&Wl q.b) λ_=>(r.e c q.a).bind λf=>(r.e c q.b).bind λg=>gd (wZ .In g.y) λh=>(match q.op with
 |.In=>some ⟨.Compare f.y [.In] [g.y] q.p,eC2 X1 f.d g.d,λC=>⟨Yi Y2 h (f.ok C) (g.ok C),Q0 Y2 h (f.ok C) (g.ok C)⟩⟩
 |_=>none)
noncomputable def z14:TR:=λr a e=>(z4a r a e).bind λc=>some c.tb
end NH
namespace NH.P
open PySem L2 NH
noncomputable abbrev _root_.clz0:=eV 0
noncomputable abbrev yf:List Ds:=[(zj (ki (wF [2] clz0) (z0L (wF [1] clz0))))]
noncomputable def zP:Fn:=fnW 1 0 yf
noncomputable abbrev _root_.clz1:=eC (.int 1)
noncomputable abbrev _root_.clz8:=eC (.bl false)
noncomputable abbrev xm:List Ds:=[(sIf (tOr (zO (tE (wF [3] clz0))) (zO (tE (eCh clz1 [(.LtE,(eB1 wb clz0)),(.LtE,(eC (.int 8)))])))) [(zj clz8)] []),(zj (eB1 ZE (qu 1 [] (.one 0) (iE clz0) [] (zq .In clz0 (eC (.str "abcdefghijklmnopqrstuvwxyz"))))))]
noncomputable def qE:Fn:=fnW 1 0 xm
noncomputable abbrev uR:List Ds:=[(zj (ki (z3 zP [clz0]) (zq .GtE clz0 clz1)))]
noncomputable def vo:Fn:=fnW 1 0 uR
noncomputable abbrev _root_.clz2:=eC (.int 0)
noncomputable abbrev _root_.clz3:=eV 1
noncomputable abbrev yo:List Ds:=[(zj (ki (z3 zP [clz0]) (eCh clz2 [(.LtE,clz0),(.Lt,clz3)])))]
noncomputable def qO:Fn:=fnW 2 0 yo
noncomputable abbrev _root_.clz4:=eV 2
noncomputable abbrev _root_.clz6:=eV 3
noncomputable abbrev jJ:List Ds:=[(sIf (zO (wW (tE (z3 vo [clz3])) (wW (tE (z3 vo [clz4])) (tE (z3 vo [clz6]))))) [(zy 12 [(eC (.str "a shape has three whole numbers from 1 on"))])] []),(zG clz0 0 clz3),(zG clz0 1 clz4),(zG clz0 2 clz6)]
noncomputable def xT:Fn:=fnW 4 0 jJ
noncomputable abbrev _root_.clz32:=zE clz0 2
noncomputable abbrev _root_.clz39:=zE clz0 1
noncomputable abbrev _root_.clz52:=zE clz0 0
noncomputable abbrev u1:List Ds:=[(zj (za .Mult (za .Mult clz52 clz39) clz32))]
noncomputable def W2:Fn:=fnW 1 0 u1
noncomputable abbrev uG:List Ds:=[(zj (z3 qO [clz3,(z3 W2 [clz0])]))]
noncomputable def xA:Fn:=fnW 2 0 uG
noncomputable abbrev jT:List Ds:=[(sIf (zO (tE (z3 xA [clz0,clz3]))) [(zy 13 [(eC (.str "no name of the shape"))])] [])]
noncomputable def yB:Fn:=fnW 2 0 jT
noncomputable abbrev xj:List Ds:=[(sIf (tE (zq .Lt clz3 (eB1 wb clz0))) [(zj (eIx clz0 clz3))] []),(zj clz2)]
noncomputable def kC:Fn:=fnW 2 0 xj
noncomputable abbrev _root_.clz5:=eC (.int 2)
noncomputable abbrev _root_.clz9:=eC (.int 3)
noncomputable abbrev _root_.clz35:=eIx clz0 clz2
noncomputable abbrev _root_.clz37:=eIx clz0 clz1
noncomputable abbrev uN:List Ds:=[(sIf (tOr (zO (tE (wF [4] clz0))) (tE (zq .NotEq (eB1 wb clz0) clz9))) [(zj clz8)] []),(zj (ki (z3 zP [clz35]) (ki (z3 zP [clz37]) (wF [1] (eIx clz0 clz5)))))]
noncomputable def J9:Fn:=fnW 1 0 uN
noncomputable abbrev xf:List Ds:=[(sIf (tOr (zO (tE (wF [5] clz0))) (zO (tE (eB1 ZE (qu 1 [] (.one 0) (iE clz0) [] (z3 J9 [clz0])))))) [(zj clz8)] []),(zj (eB1 ZE (qu 1 [0] (.one 0) (QD clz1 (eB1 wb clz0)) [] (zq .Lt (eIx (eIx clz3 (za .Sub clz0 clz1)) clz2) (eIx (eIx clz3 clz0) clz2)))))]
noncomputable def uX:Fn:=fnW 1 0 xf
noncomputable abbrev kf:List Ds:=[(sIf (tOr (zO (tE (z3 zP [clz3]))) (zO (tE (z3 uX [clz4])))) [(zy 15 [(eC (.str "a clock has a whole number and a list of turns whose times rise"))])] []),(zG clz0 3 clz3),(zG clz0 4 (eB1 Qi clz4))]
noncomputable def yv:Fn:=fnW 3 0 kf
noncomputable abbrev _root_.clz45:=eIx clz4 clz2
noncomputable abbrev _root_.clz46:=eIx clz4 clz1
noncomputable abbrev vz:List Ds:=[(sIf (zO (tE (z3 zP [clz3]))) [(zy 16 [(eC (.str "a time is a whole number"))])] []),(vB (.one 2) (z2x (zE clz0 4)) [(sIf (tE (zq .LtE clz45 clz3)) [(zj (za .Add clz46 (eIf (tE (eIx clz4 clz5)) (za .Sub clz3 clz45) clz2)))] [])]),(zj (za .Add (zE clz0 3) clz3))]
noncomputable def ja:Fn:=fnW 2 1 vz
noncomputable abbrev yD:List Ds:=[(zw (z3 yB [clz0,clz3])),(zk 2 (za .Mod clz3 clz32)),(zk 3 (za .FloorDiv clz3 clz32)),(zj (qf [(za .FloorDiv clz6 clz39),(za .Mod clz6 clz39),clz4]))]
noncomputable def jI:Fn:=fnW 2 2 yD
noncomputable abbrev jC:List Ds:=[(sIf (zO (tE (z3 qO [clz0,clz3]))) [(zy 13 [(eC (.str "no moment, house or count of the shape"))])] [])]
noncomputable def vq:Fn:=fnW 2 0 jC
noncomputable abbrev uF:List Ds:=[(zw (z3 vq [clz3,clz52])),(zw (z3 vq [clz4,clz39])),(zw (z3 vq [clz6,clz32])),(zj (za .Add (za .Mult (za .Add (za .Mult clz3 clz39) clz4) clz32) clz6))]
noncomputable def Vy:Fn:=fnW 4 0 uF
noncomputable abbrev _root_.clz29:=eIx clz3 clz1
noncomputable abbrev _root_.clz31:=eIx clz3 clz2
noncomputable abbrev _root_.clz34:=eIx clz3 clz5
noncomputable abbrev yd:List Ds:=[(sIf (tOr (zO (tE (wF [4] clz3))) (tE (zq .NotEq (eB1 wb clz3) clz9))) [(zj clz8)] []),(sIf (zO (wW (tE (z3 qO [clz31,clz39])) (wW (tE (z3 zP [clz29])) (tE (z3 zP [clz34]))))) [(zj clz8)] []),(zj (eCh clz2 [(.LtE,clz29),(.Lt,clz34),(.LtE,clz52)]))]
noncomputable def yp:Fn:=fnW 2 0 yd
noncomputable abbrev jb:List Ds:=[(sIf (zO (tE (z3 yp [clz0,clz3]))) [(zy 18 [(eC (.str "no lease of the shape"))])] [])]
noncomputable def vG:Fn:=fnW 2 0 jb
noncomputable abbrev jG:List Ds:=[(zG clz0 5 clz3),(zG clz0 6 clz4),(zG clz0 7 (eIx clz4 clz5)),(zG clz0 8 clz8)]
noncomputable def WE:Fn:=fnW 3 0 jG
noncomputable abbrev _root_.clz30:=zE clz0 6
noncomputable abbrev _root_.clz57:=eIx clz30 clz1
noncomputable abbrev VL:List Ds:=[(zj (zq .Lt (eB2 yR clz57 clz3) (eB2 yl (zE clz0 7) clz4)))]
noncomputable def meets:Fn:=fnW 3 0 VL
noncomputable abbrev _root_.clz11:=eV 4
noncomputable abbrev jf:List Ds:=[(zk 3 clz3),(vB (.one 4) (iE (WL 0 clz57 clz0)) [(sIf (tE (z3 meets [clz11,clz6,(za .Add clz6 clz4)])) [(zk 3 (zE clz11 7))] [])]),(zj clz6)]
noncomputable def kU:Fn:=fnW 3 2 jf
noncomputable abbrev _root_.clz10:=eV 5
noncomputable abbrev _root_.clz23:=eC (.bl true)
noncomputable abbrev jj:List Ds:=[(zk 3 ye),(vB (.one 4) (iE clz0) [(sIf (tE (z3 meets [clz11,clz3,(za .Add clz3 clz4)])) [(jd clz6 (eIx (zE clz11 6) clz2) clz23)] [])]),(zk 5 clz2),(ZJ (tE (YJ clz10 clz6)) [(zk 5 (za .Add clz10 clz1))]),(zj clz10)]
noncomputable def xk:Fn:=fnW 3 3 jj
noncomputable abbrev ji:List Ds:=[(zG clz0 9 clz3),(zG clz0 10 (jm []))]
noncomputable def vT:Fn:=fnW 2 0 ji
noncomputable abbrev _root_.clz17:=eC (.str "a holder is a text of one to eight small letters")
noncomputable abbrev _root_.clz28:=zE clz0 9
noncomputable abbrev qq:List Ds:=[(sIf (zO (tE (z3 qE [clz3]))) [(zy 17 [clz17])] []),(sIf (wW (tE (zq .IsNot clz4 clz7)) (zO (tE (z3 qO [clz4,(zE clz28 1)])))) [(zy 13 [(eC (.str "no house of the shape"))])] []),(sIf (zO (tE (z3 vo [clz11]))) [(zy 16 [(eC (.str "a span is a whole number from 1 on"))])] []),(sIf (zO (tE (z3 zP [clz6]))) [(zy 16 [(eC (.str "a moment is a whole number"))])] [])]
noncomputable def v5:Fn:=fnW 5 0 qq
noncomputable abbrev _root_.clz51:=zE clz0 10
noncomputable abbrev _root_.clz58:=eIx clz30 clz2
noncomputable abbrev qZ:List Ds:=[(zj (qu 1 [1] (.one 0) (iE clz51) [(tE (zq .Eq clz58 clz3))] clz0))]
noncomputable def wU:Fn:=fnW 2 0 qZ
noncomputable abbrev qP:List Ds:=[(sIf (tE (zq .Is clz3 clz7)) [(zj (qf [(z3 xk [clz51,clz4,clz6]),clz4,(za .Add clz4 clz6)]))] []),(zk 4 (z3 kU [(zt 43 wU clz0 [clz3]),clz4,clz6])),(zj (qf [clz3,clz11,(za .Add clz11 clz6)]))]
noncomputable def wz:Fn:=fnW 4 1 qP
noncomputable abbrev _root_.clz38:=eIx clz10 clz5
noncomputable abbrev _root_.clz43:=eIx clz10 clz2
noncomputable abbrev jU:List Ds:=[(zw (zt 43 v5 clz0 [clz3,clz4,clz6,clz11])),(zk 5 (zt 43 wz clz0 [clz4,(eB2 yR clz6 clz2),clz11])),(sIf (tOr (tE (zq .GtE clz43 (zE clz28 1))) (tE (zq .Gt clz38 (zE clz28 0)))) [(zy 19 [(eC (.str "no such stretch is free"))])] []),(zw (Zx clz51 (uo 42 WE [clz3,clz10]))),(zj clz10)]
noncomputable def w9:Fn:=fnW 5 1 jU
noncomputable abbrev vU:List Ds:=[(zw (z3 vG [clz28,clz3])),(vB (.one 2) (iE clz51) [(sIf (wW (tE (zq .Eq (zE clz4 6) clz3)) (zO (tE (zE clz4 8)))) [(zj clz4)] [])]),(zy 18 [(eC (.str "no lease that was let and isn't cut"))])]
noncomputable def jZ:Fn:=fnW 2 1 vU
noncomputable abbrev vt:List Ds:=[(zk 3 (zt 43 jZ clz0 [clz3])),(sIf (tE (zq .Is clz4 clz7)) [(zk 4 clz29)] [(sIf (wW (tE (z3 zP [clz4])) (tE (eCh clz29 [(.LtE,clz4),(.Lt,clz34)]))) [(zk 4 (za .Add clz4 clz1))] [(zy 16 [(eC (.str "no moment of the lease"))])])]),(zG clz6 7 clz11),(zG clz6 8 clz23)]
noncomputable def xG:Fn:=fnW 3 2 vt
noncomputable abbrev wJ:List Ds:=[(zj (ki (z3 zP [clz0]) (zq .GtE clz0 clz2)))]
noncomputable def w8:Fn:=fnW 1 0 wJ
noncomputable abbrev kI:List Ds:=[(sIf (tOr (zO (tE (wF [4] clz3))) (tE (zq .NotEq (eB1 wb clz3) clz5))) [(zj clz8)] []),(sIf (zO (tOr (tE (zq .Is clz31 clz7)) (tE (z3 yp [clz0,clz31])))) [(zj clz8)] []),(zj (eOr (zq .Is clz29 clz7) (z3 qO [clz29,clz52])))]
noncomputable def Vd:Fn:=fnW 2 0 kI
noncomputable abbrev jM:List Ds:=[(zG clz0 11 clz3),(zG clz0 12 clz4),(zG clz0 13 clz6)]
noncomputable def vg:Fn:=fnW 4 0 jM
noncomputable abbrev uM:List Ds:=[(zj (z3 Vy [clz0,(za .FloorDiv clz4 clz32),clz3,(za .Mod clz4 clz32)]))]
noncomputable def Zy:Fn:=fnW 3 0 uM
noncomputable abbrev _root_.clz36:=eIx clz6 clz1
noncomputable abbrev _root_.clz44:=eIx clz6 clz2
noncomputable abbrev jg:List Ds:=[(zk 3 (z3 jI [clz0,clz4])),(sIf (tE (zq .Lt clz36 clz3)) [(zj (za .Mult clz44 clz32))] []),(sIf (tE (zq .Gt clz36 clz3)) [(zj (za .Mult (za .Add clz44 clz1) clz32))] []),(zj (za .Add (za .Add (za .Mult clz44 clz32) (eIx clz6 clz5)) clz1))]
noncomputable def kQ:Fn:=fnW 3 1 jg
noncomputable abbrev wY:List Ds:=[(sIf (tE (zE clz0 20)) [(zy 24 [(eC (.str "the house has fallen"))])] [])]
noncomputable def qc:Fn:=fnW 1 0 wY
noncomputable abbrev _root_.clz33:=zE clz0 17
noncomputable abbrev kc:List Ds:=[(zj (qf [clz30,clz33]))]
noncomputable def yi:Fn:=fnW 1 0 kc
noncomputable abbrev qv:List Ds:=[(sIf (tE (zq .Is clz30 clz7)) [(zy 18 [(eC (.str "the house has no lease"))])] [])]
noncomputable def qD:Fn:=fnW 1 0 qv
noncomputable abbrev _root_.clz50:=zE clz0 18
noncomputable abbrev _root_.clz56:=zE clz28 2
noncomputable abbrev w6:List Ds:=[(sIf (tE (zq .IsNot clz50 clz7)) [(zj (z3 kQ [clz28,clz58,clz50]))] []),(sIf (tE (zq .IsNot clz33 clz7)) [(zj (za .Mult (za .Add clz33 clz1) clz56))] []),(zj clz2)]
noncomputable def v3:Fn:=fnW 1 0 w6
noncomputable abbrev _root_.clz16:=eV 6
noncomputable abbrev qY:List Ds:=[(sIf (tOr (zO (tE (z3 vo [clz4]))) (tE (zq .Gt clz4 clz56))) [(zy 20 [(eC (.str "so many are whole numbers from 1 on up to the shape's counts"))])] []),(sIf (zO (tE (z3 zP [clz3]))) [(zy 16 [(eC (.str "a reading is a whole number"))])] []),(zw (zt 45 qD clz0 [])),(zk 3 (za .Mult (eB2 yR clz57 clz3) clz56)),(zk 4 (eB2 yR (zt 45 v3 clz0 []) clz6)),(zk 5 (za .Add clz11 clz4)),(sIf (tE (zq .Gt clz10 (za .Mult (eIx clz30 clz5) clz56))) [(zy 18 [(eC (.str "the lease has not so many names"))])] []),(zk 6 (za .Sub (za .FloorDiv (za .Sub clz10 clz1) clz56) (za .Add clz3 (zE clz0 14)))),(sIf (tE (zq .Gt clz16 clz2)) [(Zo 21 29 clz16)] []),(zj (eMk 44 vg [clz58,clz11,clz10]))]
noncomputable def wK:Fn:=fnW 3 4 qY
noncomputable abbrev qk:List Ds:=[(sIf (wW (tE (zq .IsNot clz33 clz7)) (tE (zq .LtE clz3 clz33))) [(zj clz33)] []),(zj (eB2 yl (za .Add clz3 (zE clz0 15)) (za .Sub (zE clz28 0) clz1)))]
noncomputable def wj:Fn:=fnW 2 0 qk
noncomputable abbrev qX:List Ds:=[(zj (jw 1 [1,0] (.one 0) (QD (zE clz3 12) (zE clz3 13)) [] (z3 Zy [clz4,(zE clz3 11),clz0])))]
noncomputable def qI:Fn:=fnW 2 0 qX
noncomputable abbrev kZ:List Ds:=[(zj (eB1 Yx (qu 1 [] (.one 0) (iE clz0) [] (za .Sub (zE clz0 13) (zE clz0 12)))))]
noncomputable def ko:Fn:=fnW 1 0 kZ
noncomputable abbrev _root_.clz55:=zE clz10 12
noncomputable abbrev Qa:List Ds:=[(zk 2 (jm [])),(zk 3 (jm [])),(zk 4 clz3),(vB (.one 5) (iE clz0) [(zk 6 (eB2 yl (za .Add clz55 clz11) (zE clz10 13))),(zk 4 (za .Sub clz11 (za .Sub clz16 clz55))),(zw (Zx clz4 (eMk 44 vg [(zE clz10 11),clz55,clz16]))),(zw (Zx clz6 (eMk 44 vg [(zE clz10 11),clz16,(zE clz10 13)])))]),(zj (qf [clz4,(jw 1 [] (.one 0) (iE clz6) [(tE (zq .Lt (zE clz0 12) (zE clz0 13)))] clz0)]))]
noncomputable def parted:Fn:=fnW 2 5 Qa
noncomputable abbrev _root_.clz54:=eIx clz10 clz1
noncomputable abbrev q_:List Ds:=[(sIf (zO (wW (tE (z3 w8 [clz4])) (tE (z3 w8 [clz6])))) [(zy 16 [(eC (.str "ahead and stride are whole numbers from 0 on"))])] []),(sIf (wW (tE (zq .IsNot clz10 clz7)) (zO (tE (z3 Vd [clz3,clz10])))) [(zy 23 [(eC (.str "no note of the shape"))])] []),(zG clz0 9 clz3),(zG clz0 14 clz4),(zG clz0 15 clz6),(zG clz0 16 clz11),(zG clz0 6 (eIf (tE (zq .Is clz10 clz7)) clz7 clz43)),(zG clz0 17 (eIf (tE (zq .Is clz10 clz7)) clz7 clz54)),(zG clz0 18 clz7),(zG clz0 19 (jm [])),(zG clz0 20 clz8)]
noncomputable def q9:Fn:=fnW 6 0 q_
noncomputable abbrev _root_.clz49:=zE clz0 19
noncomputable abbrev vu:List Ds:=[(zw (zt 45 qc clz0 [])),(sIf (zO (tE (z3 vo [clz3]))) [(zy 20 [(eC (.str "so many are whole numbers from 1 on"))])] []),(sIf (tE (zq .Lt (z3 ko [clz49]) clz3)) [(zy 22 [(eC (.str "fewer are in store"))])] []),(zk 2 (z3 parted [clz49,clz3])),(zG clz0 19 clz46),(zk 3 (jm [])),(vB (.one 4) (iE clz45) [(zw (Qh clz6 (z3 qI [clz28,clz11])))]),(zj clz6)]
noncomputable def ya:Fn:=fnW 2 3 vu
noncomputable abbrev uJ:List Ds:=[(sIf (tOr (tE (zq .Is clz3 clz7)) (tE (zq .Lt clz3 clz37))) [(zj clz7)] []),(zj (eB2 yl clz3 (za .Sub (eIx clz0 clz5) clz1)))]
noncomputable def VI:Fn:=fnW 2 0 uJ
noncomputable abbrev qT:List Ds:=[(sIf (tE (zq .Is clz50 clz7)) [(zj clz33)] []),(zj (eIx (z3 jI [clz28,clz50]) clz2))]
noncomputable def wm:Fn:=fnW 1 0 qT
noncomputable abbrev y0:List Ds:=[(sIf (tOr (tE (zq .Eq (eB1 wb clz0) clz2)) (zO (tE (wF [3] clz35)))) [(zj clz8)] []),(zj (zq .Eq (X0 [("lease",5),("ask",4),("store",4),("take",4),("back",3),("fall",3),("bare",3)] clz35) (eB1 wb clz0)))]
noncomputable def jB:Fn:=fnW 1 0 y0
noncomputable abbrev xg:List Ds:=[(zG clz0 21 clz3),(zG clz0 11 clz7),(zG clz0 22 clz7)]
noncomputable def kK:Fn:=fnW 2 0 xg
noncomputable abbrev yY:List Ds:=[(zG clz0 22 clz3)]
noncomputable def yU:Fn:=fnW 2 0 yY
noncomputable abbrev vJ:List Ds:=[(sIf (tE (zq .Eq (qf [clz3,clz4]) (zt 45 yi clz0 []))) [Xe] []),(zG clz0 20 clz23),(zw (z1K 1 (zt 46 yU clz3 [clz0]) 16 clz0 (qf [clz3,clz4]))),(zG clz0 20 clz8),(zG clz0 6 clz3),(zG clz0 17 clz4)]
noncomputable def qe:Fn:=fnW 3 0 vJ
noncomputable abbrev qM:List Ds:=[(zw (zt 45 qc clz0 [])),(zw (z3 vG [clz28,clz3])),(zw (zt 45 qe clz0 [clz3,clz33]))]
noncomputable def zK:Fn:=fnW 2 0 qM
noncomputable abbrev w4:List Ds:=[(zw (zt 45 qc clz0 [])),(zk 3 (zt 45 wK clz0 [clz3,clz4])),(zw (zt 45 qe clz0 [clz30,(zt 45 wj clz0 [(za .FloorDiv (za .Sub (zE clz6 13) clz1) clz56)])])),(zG clz0 18 (z3 Zy [clz28,(zE clz6 11),(za .Sub (zE clz6 13) clz1)])),(zj clz6)]
noncomputable def zJ:Fn:=fnW 3 1 w4
noncomputable abbrev jc:List Ds:=[(zk 3 (zt 45 zJ clz0 [clz3,clz4])),(zG clz0 19 (jm [])),(zj (z3 qI [clz28,clz6]))]
noncomputable def qN:Fn:=fnW 3 1 jc
noncomputable abbrev Ql:List Ds:=[(zj (ki (wF [4] clz0) (ki (z3 jB [clz0]) (z3 zP [clz37]))))]
noncomputable def kr:Fn:=fnW 1 0 Ql
noncomputable abbrev jO:List Ds:=[(sIf (tOr (zO (tE (wF [6] clz0))) (tE (zq .Eq (eB1 Yj clz0) clz2))) [(zj clz8)] []),(zj (eB1 ZE (qu 1 [0] (.one 0) (iD clz0) [] (ki (z3 qE [clz0]) (wF [41] (eC2 uq clz3 clz0))))))]
noncomputable def yH:Fn:=fnW 1 0 jO
noncomputable abbrev vR:List Ds:=[(zj (eB1 Qi (zE clz0 24)))]
noncomputable def Ze:Fn:=fnW 1 0 vR
noncomputable abbrev _root_.clz48:=zE clz0 26
noncomputable abbrev qQ:List Ds:=[(sIf (zO (tE (z3 kr [clz3]))) [(zy 25 [(eC (.str "no row of a world"))])] []),(sIf (wW (tE (zq .IsNot (zE clz0 25) clz7)) (tE (zq .Lt clz29 (zE clz0 25)))) [sSt] []),(sIf (tOr (zO (tE (z3 qE [clz34]))) (tE (eC2 u5 clz34 clz48))) [(zy 17 [(eC (.str "no holder of the world"))])] [])]
noncomputable def wu:Fn:=fnW 2 0 qQ
noncomputable abbrev vA:List Ds:=[(zk 3 (zt 45 zJ clz0 [clz3,clz4])),(zw (Zx clz49 clz6)),(zj (z3 ko [clz49]))]
noncomputable def je:Fn:=fnW 3 1 vA
noncomputable abbrev qR:List Ds:=[(zw (zt 45 qc clz0 [])),(zw (zt 45 qD clz0 [])),(zk 1 (qf [clz30,(z3 VI [clz30,(zt 45 wm clz0 [])])])),(zw (zt 45 qe clz0 [clz7,clz33])),(zG clz0 19 (jm [])),(zj clz3)]
noncomputable def wq:Fn:=fnW 1 1 qR
noncomputable abbrev wx:List Ds:=[(zG clz3 11 (uo 45 q9 [clz28,(zE clz0 14),(zE clz0 15),(XJ 1 1),(zE clz3 22)]))]
noncomputable def qa:Fn:=fnW 2 0 wx
noncomputable abbrev zV:List Ds:=[(sIf (zO (tE (z3 yH [clz11]))) [(zy 17 [(eC (.str "a world has a dict of one clock for each of some holders"))])] []),(zG clz0 9 clz3),(zG clz0 14 clz4),(zG clz0 15 clz6),(zG clz0 23 (uo 43 vT [clz3])),(zG clz0 24 (jm [])),(zG clz0 25 clz7),(zG clz0 26 ye),(vB (.one 5) (iD clz11) [(zk 6 (uo 46 kK [(eC2 uq clz11 clz10)])),(zw (zt 47 qa clz0 [clz16])),(jd clz48 clz10 clz16)])]
noncomputable def k9:Fn:=fnW 5 2 zV
noncomputable abbrev _root_.clz12:=eC (.int 4)
noncomputable abbrev _root_.clz13:=eC (.str "lease")
noncomputable abbrev _root_.clz14:=eC (.str "ask")
noncomputable abbrev _root_.clz19:=eC (.str "fall")
noncomputable abbrev _root_.clz21:=eC (.str "store")
noncomputable abbrev _root_.clz22:=eC (.str "take")
noncomputable abbrev _root_.clz40:=zE clz4 11
noncomputable abbrev _root_.clz47:=eIx clz3 clz9
noncomputable abbrev wa:List Ds:=[(zk 2 (eC2 uq clz48 clz34)),(zk 3 (zt 41 ja (zE clz4 21) [clz29])),(sIf (tE (zq .Eq clz31 clz14)) [(zj (zt 45 qN clz40 [clz6,clz47]))] []),(sIf (tE (zq .Eq clz31 clz22)) [(zj (zt 45 ya clz40 [clz47]))] []),(sIf (tE (zq .Eq clz31 clz21)) [(zw (zt 45 je clz40 [clz6,clz47]))] [(sIf (tE (zq .Eq clz31 clz13)) [(zw (zt 45 zK clz40 [(zt 43 w9 (zE clz0 23) [clz34,clz47,clz6,(eIx clz3 clz12)])]))] [(sIf (tE (zq .Eq clz31 (eC (.str "back")))) [(zk 4 (zt 45 wq clz40 [])),(zw (zt 43 xG (zE clz0 23) [(eIx clz11 clz2),(eIx clz11 clz1)]))] [(sIf (tE (zq .Eq clz31 clz19)) [(zw (zt 47 qa clz0 [clz4]))] [(zG clz4 22 clz7),(zw (zt 47 qa clz0 [clz4]))])])])]),(zj (jm []))]
noncomputable def zD:Fn:=fnW 2 3 wa
noncomputable abbrev jh:List Ds:=[(zw (zt 47 wu clz0 [clz3])),(zk 2 (zt 47 zD clz0 [clz3])),(zG clz0 25 clz29),(zw (Qh (zE clz0 24) (qu 1 [1] (.one 0) (iE clz4) [] (qf [clz29,clz34,clz0])))),(zj clz4)]
noncomputable def we:Fn:=fnW 2 1 jh
noncomputable abbrev ZX:List Ds:=[(zj clz7)]
noncomputable abbrev ym:List Ds:=[(sIf (tOr (zO (tE (wF [4] clz3))) (tE (zq .NotEq (eB1 wb clz3) clz5))) [(zj clz8)] []),(zj (ki (z3 qE [clz31]) (z3 xA [clz0,clz29])))]
noncomputable def Q1:Fn:=fnW 2 0 ym
noncomputable abbrev kg:List Ds:=[(sIf (tOr (zO (tE (wF [5] clz3))) (zO (tE (eB1 ZE (qu 1 [0] (.one 0) (iE clz3) [] (z3 Q1 [clz3,clz0])))))) [(zy 13 [(eC (.str "no list of holders and names of the shape"))])] [])]
noncomputable def xO:Fn:=fnW 2 0 kg
noncomputable abbrev _root_.clz18:=eC (.int 5)
noncomputable abbrev jY:List Ds:=[(sIf (tOr (zO (tE (wF [4] clz0))) (tOr (tE (zq .Eq (eB1 wb clz0) clz2)) (zO (tE (wF [3] clz35))))) [(zj clz8)] []),(zj (eC2 Vb (qf [clz35,(eB1 wb clz0)]) (qf [(qf [clz13,clz18]),(qf [clz14,clz12])])))]
noncomputable def xI:Fn:=fnW 1 0 jY
noncomputable abbrev vN:List Ds:=[(zj (ki (wF [5] clz0) (eB1 ZE (qu 1 [] (.one 0) (iE clz0) [] (z3 xI [clz0])))))]
noncomputable def ke:Fn:=fnW 1 0 vN
noncomputable abbrev jD:List Ds:=[(sIf (zO (tE (z3 qE [clz4]))) [(zy 17 [clz17])] []),(sIf (tE (eC2 u5 clz4 clz0)) [(jd clz0 clz4 (z2l 45 q9 [clz3,clz2,clz2,(eC (.clo 1 []))]))] []),(zj (eC2 uq clz0 clz4))]
noncomputable def jx:Fn:=fnW 3 0 jD
noncomputable abbrev _root_.clz42:=eIx clz10 clz9
noncomputable abbrev xQ:List Ds:=[(sIf (zO (tE (z3 ke [clz3]))) [(zy 25 [(eC (.str "no list of rows of a run"))])] []),(zk 2 (uo 43 vT [clz0])),(zk 3 ye),(zk 4 (jm [])),(vB (.one 5) (iE clz3) [(zk 6 clz54),(zk 7 (z3 jx [clz6,clz0,clz16])),(sIf (tE (zq .Eq clz43 clz13)) [(zw (zt 45 zK (eV 7) [(zt 43 w9 clz4 [clz16,clz38,clz42,(eIx clz10 clz12)])]))] [(zw (Qh clz11 (qu 1 [6] (.one 0) (iE (zt 45 qN (eV 7) [clz38,clz42])) [] (qf [clz3,clz0]))))])]),(zj clz11)]
noncomputable def ZY:Fn:=fnW 2 6 xQ
noncomputable abbrev yX:List Ds:=[(zk 1 (jm [])),(zk 2 ye),(vB (.one 3) (iE clz0) [(zk 4 clz44),(zk 5 (eIx clz36 clz2)),(zk 6 (eIx clz36 clz1)),(zk 7 (za .Add (eIx clz36 clz5) clz1)),(zk 8 (KU clz4 clz11)),(sIf (wW (tE (zq .IsNot (eV 8) clz7)) (tE (zq .Eq (eSl (eV 8) pN (pS clz5)) (qf [clz10,clz16])))) [(zk 7 (za .Sub (eV 7) (za .Add (eIx (eV 8) clz5) clz1)))] [(zw (Zx clz3 (qf [clz13,clz11,clz16,clz10,clz1])))]),(zw (Zx clz3 (qf [clz14,clz11,clz10,(eV 7)]))),(jd clz4 clz11 clz36)]),(zj clz3)]
noncomputable def QR:Fn:=fnW 1 8 yX
noncomputable abbrev wV:List Ds:=[(sIf (tE (zq .Eq clz35 clz31)) [(zj (zq .Lt clz37 clz29))] []),(zj (zq .NotEq (eSl clz37 pN (pS clz5)) (eSl clz29 pN (pS clz5))))]
noncomputable def vP:Fn:=fnW 2 0 wV
noncomputable abbrev Z6:List Ds:=[(sIf (tE (zq .Gt clz32 (eC (.int 20)))) [(zy 12 [(eC (.str "a book is judged of a shape of at most twenty counts"))])] []),(zw (z3 xO [clz0,clz3])),(zk 2 (qu 1 [0] (.one 0) (iE clz3) [] (qf [clz35,(z3 jI [clz3,clz37])]))),(vB (.one 3) (Jg (eB1 wb clz4)) [(vB (.one 4) (Jg clz6) [(sIf (zO (tE (z3 vP [(eIx clz4 clz11),(eIx clz4 clz6)]))) [(zj (qf [(eC (.str "wrong")),clz11,clz6]))] [])])]),(zj (qf [(eC (.str "right")),(z3 QR [clz4])]))]
noncomputable def Jb:Fn:=fnW 2 3 Z6
noncomputable abbrev _root_.clz20:=eC (.int 2147483647)
noncomputable abbrev y3:List Ds:=[(sIf (wW (tE (zq .Eq (za .Mod clz0 clz5) clz2)) (tE (zq .Gt (za .RShift clz0 (za .Add clz1 (za .Mult (eC (.int 31)) clz3))) clz2))) [(zj (za .Mod (za .RShift clz0 (za .Add clz1 (za .Mult (eC (.int 31)) clz3))) (eC (.int 2147483648))))] []),(zk 2 (za .Mod (za .Mult (za .Mod (za .Add (za .Add clz0 (za .Mult (eC (.int 7919)) clz3)) clz1) clz20) (eC (.int 48271))) clz20)),(zk 2 (za .Mod (za .Mult clz4 (za .Add (za .FloorDiv clz4 (eC (.int 1009))) (eC (.int 69621)))) clz20)),(zj (za .Mod (za .Mult clz4 (za .Add (za .FloorDiv clz4 (eC (.int 2003))) (eC (.int 40692)))) (eC (.int 2147483399))))]
noncomputable def zL:Fn:=fnW 2 1 y3
noncomputable abbrev Vf:List Ds:=[(zk 3 clz2),(vB (.one 4) (Jg clz18) [(zk 3 (za .Add (za .Mult clz6 (eC (.int 2147483648))) (z3 zL [clz0,(za .Add clz3 clz11)])))]),(zj (za .Mod clz6 clz4))]
noncomputable def Y1:Fn:=fnW 3 2 Vf
noncomputable abbrev yW:List Ds:=[(zk 2 clz2),(vB (.one 3) (iE clz3) [(sIf (wW (tE (zq .Lt clz4 (eB1 wb clz0))) (tE (zq .Eq clz6 (eIx clz0 clz4)))) [(zk 2 (za .Add clz4 clz1))] [])]),(zj (zq .Eq clz4 (eB1 wb clz0)))]
noncomputable def QI:Fn:=fnW 2 2 yW
noncomputable abbrev vZ:List Ds:=[(sIf (tOr (zO (tE (wF [4] clz4))) (tOr (tE (zq .NotEq (eB1 wb clz4) clz5)) (tOr (tE (zq .NotEq clz45 (eC (.str "right")))) (zO (tE (wF [5] clz46)))))) [(zj clz8)] []),(zj (z3 QI [clz3,(z3 ZY [clz0,clz46])]))]
noncomputable def k8:Fn:=fnW 3 0 vZ
noncomputable abbrev kX:List Ds:=[(zk 2 (jm [])),(zk 3 clz2),(vB (.one 4) (Jg (za .Mod (z3 zL [clz3,(eC (.int 70))]) clz18)) [(zk 3 (za .Add (za .Add clz6 clz1) (za .Mod (z3 zL [clz3,(za .Add (eC (.int 71)) clz11)]) (eC (.int 9))))),(zw (Zx clz4 (qf [clz6,(za .Add clz0 (za .Mod (z3 zL [clz3,(za .Add (eC (.int 80)) clz11)]) (eC (.int 25)))),(zq .Gt (za .Mod (z3 zL [clz3,(za .Add (eC (.int 90)) clz11)]) clz9) clz2)])))]),(zj (uo 41 yv [(za .Add clz0 (za .Mod (z3 zL [clz3,(eC (.int 99))]) (eC (.int 6)))),clz4]))]
noncomputable def Z5:Fn:=fnW 2 3 kX
noncomputable abbrev _root_.clz15:=eC (.str "bare")
noncomputable abbrev v7:List Ds:=[(zk 4 (eIx (JO [clz13,clz14,clz21,clz22,(eC (.str "back")),clz19,clz15,clz14,clz14]) (za .Mod (z3 zL [clz6,clz2]) (eC (.int 9))))),(sIf (tE (zq .Eq clz11 clz13)) [(zk 5 (eIx (JO [clz7,(za .Mod (z3 zL [clz6,clz1]) clz12)]) (za .Mod (z3 zL [clz6,clz5]) clz5))),(zj (qf [clz11,clz0,clz3,clz10,(za .Add clz1 (za .Mod (z3 zL [clz6,clz9]) (eC (.int 12))))]))] []),(sIf (tE (eC2 X1 clz11 (qf [clz14,clz21,clz22]))) [(zj (qf [clz11,clz0,clz3,(za .Add clz1 (za .Mod (z3 zL [clz6,clz12]) clz9))]))] []),(zj (qf [clz11,clz0,clz3]))]
noncomputable def Z9:Fn:=fnW 4 2 v7
noncomputable abbrev yc:List Ds:=[(zk 2 clz7),(z10 [(zk 2 (zt 47 we clz0 [clz3]))] [([10],none,[(zk 2 clz7)])]),(zj clz4)]
noncomputable def xS:Fn:=fnW 2 1 yc
noncomputable abbrev _root_.clz24:=eV 15
noncomputable abbrev _root_.clz25:=eV 14
noncomputable abbrev _root_.clz26:=eV 13
noncomputable abbrev _root_.clz27:=eV 12
noncomputable abbrev _root_.clz41:=eIx clz24 clz2
noncomputable abbrev _root_.clz53:=eIx (eC (.str "abcdef")) clz27
noncomputable abbrev qt:List Ds:=[(zk 1 (z3 kC [clz0,clz2])),(zk 2 (eIx (JO [clz2,(z3 Y1 [clz3,(eC (.int 40)),(eC (.int 1000))]),(z3 Y1 [clz3,(eC (.int 50)),(za .Pow (eC (.int 10)) (eC (.int 36)))])]) (za .Mod (z3 zL [clz3,(eC (.int 39))]) clz9))),(zk 3 (eMk 40 xT [(za .Add (za .Add clz4 clz1) (za .Mod (z3 zL [clz3,clz1]) (eC (.int 30)))),(za .Add clz1 (za .Mod (z3 zL [clz3,clz5]) clz12)),(za .Add clz1 (za .Mod (z3 zL [clz3,clz9]) (eC (.int 20))))])),(zk 4 (eSl (JO [(eC (.str "anna")),(eC (.str "b")),(eC (.str "zz"))]) pN (pS (za .Add clz1 (za .Mod (z3 zL [clz3,clz12]) clz9))))),(zk 5 ye),(vB (.t [6,7]) (KP clz11) [(jd clz10 (eV 7) (z3 Z5 [clz4,(za .Add (z3 kC [clz0,clz1]) (za .Mult clz18 clz16))]))]),(zk 8 (uo 47 k9 [clz6,(za .Mod (z3 zL [clz3,clz18]) clz12),(za .Mod (z3 zL [clz3,(eC (.int 6))]) clz18),clz10])),(zk 9 clz2),(zk 10 (eB1 dctP (qu 1 [] (.one 0) (iE clz11) [] (qf [clz0,clz0])))),(zk 11 (jm [])),(zk 12 clz2),(vB (.one 13) (iE (eSl clz0 (pS clz5) (pS (eC (.int 42))))) [(zk 9 (za .Add (eV 9) (za .Mod (z3 zL [clz26,(eC (.int 10))]) clz12))),(zk 14 (eIx clz11 (za .Mod (z3 zL [clz26,(eC (.int 11))]) (eB1 wb clz11)))),(zk 15 (z3 Z9 [(eV 9),clz25,clz4,clz26])),(sIf (wW (tE (zq .Eq clz41 clz15)) (tE (zq .Gt clz27 clz9))) [(zk 15 (qf [clz19,(eV 9),clz25]))] []),(zk 16 (z3 xS [(eV 8),clz24])),(sIf (tE (zq .IsNot (eV 16) clz7)) [(zw (Qh (eV 11) (qu 1 [10,14] (.one 0) (iE (eV 16)) [] (qf [(eC2 uq clz3 clz4),clz0])))),(sIf (tE (zq .Eq clz41 clz15)) [(zk 12 (za .Add clz27 clz1)),(jd (eV 10) clz25 (za .Add (eC (.str "x")) clz53))] [])] [])]),(sIf (tE (zq .NotEq (eB1 wb (zt 47 Ze (eV 8) [])) (eB1 wb (eV 11)))) [(zj clz8)] []),(zj (z3 k8 [clz6,(eSl (eV 11) pN (pS (eC (.int 100)))),(z3 Jb [clz6,(eSl (eV 11) pN (pS (eC (.int 100))))])]))]
noncomputable def ZK:Fn:=fnW 1 16 qt
end NH.P
namespace NH
open PySem PySem.Spec PyProof.Rows L2 PySem.W
inductive Rk where
 |fn
 |met (c:Nat) (y:Str->Str)
 |mk (c:Nat) (b:Bool)
structure Rw where
 k:Rk
 s:Stmt
 ds:List Ds
 own:List Str
 lam:Option (Nat×List Pos)
 fz:List Str
noncomputable abbrev rw(k:Rk)(s:Stmt)(ds:List Ds)(own:List Str:=[])(lam:Option (Nat×List Pos):=none)(fz:List Str:=[]):Rw:=⟨k,s,ds,own,lam,fz⟩
noncomputable def z4h(s:Stmt):Str:=match s with
 |.FunctionDef x _ _ _ _ _ _ _ _ _=>x
 |_=>""
noncomputable def fdOf (o:Option Obj):FuncData:=match o with
 |some ⟨_,_,.func fd,_⟩=>fd
 |_=>default
noncomputable def refOf(o:Option (Option Value)):Addr:=match o with
 |some (some (.ref a))=>a
 |_=>0
noncomputable def YZ(o:Option (Option Value)):Bool:=match o with
 |some (some (.ref _))=>true
 |_=>false
theorem V7{o:Option (Option Value)}(h:YZ o=true):o=some (some (.ref (refOf o))):=by
 unfold YZ at h;split at h
 .rfl
 .injection h
noncomputable def scN (s:Stmt)(p:z8_->Bool):List Str:=((qC s).names.filter λy=>p y.2).map (·.1)
noncomputable def slN (s:Stmt):List Str:=wQ s++(scN s λy=>y==.local || y==.cell).drop (wQ s).length
noncomputable def vl:Nat->(Nat->Value)->List Value
 |0,_=>[]
 |n+1,v=>v 0::vl n λi=>v (i+1)
theorem Km:∀j:List Value,vl j.length (λi=>j.getD i .none)=j
 |[]=>rfl
 |a::r=>congrArg (a::·) (Km r)
structure Rc where
 R:Rules
 cs:List (Nat×Str)
 xs:List (Nat×Str)
 cls:List (Str×Nat)
 fld:List (Str×Nat)
 tb:List (Addr×List Pos×Str)
section
variable (Y:Rc)(K:Frag)
noncomputable def adr (x:Str):Addr:=refOf (nsIn K z6i x)
noncomputable def Rc.A:Ads:=⟨Y.xs.map λp=>(p.1,adr K p.2),Y.cs.map λp=>(p.1,adr K p.2)⟩
noncomputable def Rc.nm(c:Nat):Str:=(Y.cs.lookup c).getD ""
variable (r:Rw)
noncomputable def Rw.x:Str:=z4h r.s
noncomputable def Rw.q:Str:=match r.k with
 |.fn=>r.x
 |.met c _|.mk c _=>Y.nm c++(".":Str)++r.x
noncomputable def Rw.f:Fn:=fnW (wQ r.s).length ((slN r.s).length-(wQ r.s).length) r.ds
noncomputable def Rw.en:Str×GM:=match r.k with
 |.fn=>(r.x,.fn r.f)
 |.met c y=>(y r.x,.met c r.x r.f)
 |.mk c b=>(Y.nm c,.mk c b r.f)
noncomputable def Rw.cx(a:List (Str×GM))(fz:List Str):Cn:={NH.cn Y.cls Y.fld a (slN r.s) ((scN r.s (· == .globalImplicit)).filter λx=>(a.map (·.1)).contains x) (scN r.s (· == .cell)) r.own r.lam with fz}
noncomputable def Rw.ct:Nat:=if r.fz.isEmpty then (zU r.s).length else 0
noncomputable def Rw.ok(a:List (Str×GM)):Bool:=yz (r.cx Y a r.fz) (wQ r.s) (qC r.s)&&!((r.en Y).1==("__debug__":Str))&&zc2 (wQ r.s).length (slN r.s).length&&!FLD.contains r.x
noncomputable abbrev Bq:=Option (List Stmt×List Ds)
noncomputable def gone:List Rw->List (Str×GM)->List (Bq×Bq×Bool)
 |[],_=>[]
 |r::l,a=>(bdy Y.R 60 (r.cx Y a []) ((zU r.s).take r.ct),bdy Y.R 60 (r.cx Y a r.fz) ((zU r.s).drop r.ct),r.ok Y a)::gone l (r.en Y::a)
noncomputable def jL:List Rw->List (Bq×Bq×Bool)
 |[]=>[]
 |r::l=>(some ((zU r.s).take r.ct,r.ds.take r.ct),some ((zU r.s).drop r.ct,r.ds.drop r.ct),true)::jL l
noncomputable def Q9:List Rw->List (Str×GM)->List (Str×GM)
 |[],a=>a
 |r::l,a=>Q9 l (r.en Y::a)
noncomputable def Rw.at:Option (Option Value):=match r.k with
 |.fn=>nsIn K z6i r.x
 |.met c _=>z6g K (.ref (adr K (Y.nm c))) r.x
 |.mk c _=>z6g K (.ref (adr K (Y.nm c))) "__init__"
noncomputable def Rw.ad:Addr:=refOf (r.at Y K)
noncomputable def Rw.ob:Obj:=(K.lookup (r.ad Y K)).getD default
noncomputable def Rw.fd:FuncData:=fdOf (some (r.ob Y K))
noncomputable def Rw.lm:Bool:=match r.lam with
 |none=>true
 |some (j,_)=>match (r.fd Y K).code,Y.tb[j]? with
  |.ref c,some (P,_,_)=>zbO K c P
  |_,_=>false
noncomputable def Rw.kb:Bool:=z7W K (r.fd Y K).code (r.q Y)&&z8f K (.ref (r.ad Y K))&&isFn K (.ref (r.ad Y K))&&r.lm Y K&&YZ (r.at Y K)&&match r.k with
 |.mk c _=>zbQ K (adr K (Y.nm c))&&z8f K (.ref (adr K (Y.nm c)))&&YZ (nsIn K z6i (Y.nm c))&&Y.cs.any (·.1==c)
 |.met c _=>Y.cs.any (·.1==c)
 |.fn=>true
noncomputable abbrev Kq:=Option Obj×Bool×(Setting->(Nat->Value)->Option (List (Str×Value)))×Option (Option (List Pos×Str))
noncomputable def Rw.fx:FuncData:=fnOf r.x (r.q Y) (vk r.s) (zU r.s) (qC r.s) (r.fd Y K).defaults (r.fd Y K).kwdefaults (r.fd Y K).doc (r.fd Y K).pyModule (r.fd Y K).annotations (r.fd Y K).code (r.fd Y K).closureTuple
noncomputable def ZG:List Rw->List Kq
 |[]=>[]
 |r::l=>(K.lookup (r.ad Y K),r.kb Y K,λS v=>peek K S (zar (r.fx Y K) ⟨vl (wQ r.s).length v,[]⟩),r.lam.map λt=>Y.tb[t.1]?.map (·.2))::ZG l
noncomputable def j_:List Rw->List Kq
 |[]=>[]
 |r::l=>(some ⟨(r.ob Y K).cls,(r.ob Y K).dict,.func (r.fx Y K),(r.ob Y K).slots⟩,true,λS v=>some ((wQ r.s).zip (vl (wQ r.s).length v)),r.lam.map λt=>some (t.2,r.q Y++".<locals>."++"<lambda>"))::j_ l
end
section
variable {Y:Rc}{P:Program}{w:World}{K:Frag}{mg:Str->Option Value}{base:Heap}{clo:Nat->Addr->Option HO->List V->Prop}{gs:List (Str×GM)}{k:Nat}{r:Rw}{l:List Rw}
structure Pq(Y:Rc)(K:Frag)(mg:Str->Option Value)(base:Heap):Prop where
 i:K.In base
 n:base.Ns z6i mg
 c:chk K (Y.A K) Y.cls Y.fld=true
 t:∀t∈Y.tb,base.BuiltinsAt mg t.1
abbrev GsC(Y:Rc)(P:z6t)(w:z81)(K:Frag)(mg:Str->Option Value)(base:Heap)(clo:Nat->Addr->Option HO->List V->Prop)(k:Nat)(gs:List (Str×GM)):Prop:=GsOk P w K mg base (Y.A K) clo k gs λj=>Y.tb[j]?
theorem csA{c:Nat}:∀{l:List (Nat×Str)},l.any (·.1==c)=true->(l.map λp=>(p.1,adr K p.2)).lookup c=some (adr K ((l.lookup c).getD ""))
 |[],h=>by injection h
 |(i,x)::l,h=>by
  rw[z6c,z6v,z6v];rw[z7a,z96] at h;cases q:c==i with
  |true=>rfl
  |false=>
   refine csA (h.resolve_left λz=>?_);have z:i=c:=beq_iff_eq.mp z;simp[z] at q
set_option tactic.hygienic true in
theorem Rw.fnk(Z:Pq Y K mg base)(q:GsC Y P w K mg base clo k gs)(h2:2<=k) 
  (l:bdy Y.R 60 (r.cx Y gs []) ((zU r.s).take r.ct)=some ((zU r.s).take r.ct,r.ds.take r.ct)) (h:bdy Y.R 60 (r.cx Y gs r.fz) ((zU r.s).drop r.ct)=some ((zU r.s).drop r.ct,r.ds.drop r.ct)) (g:yz (r.cx Y gs r.fz) (wQ r.s) (qC r.s)=true) (p:(wQ r.s).length<=(slN r.s).length)
  (a:K.lookup (r.ad Y K)=some ⟨(r.ob Y K).cls,(r.ob Y K).dict,.func (r.fx Y K),(r.ob Y K).slots⟩) (c:z7W K (r.fd Y K).code (r.q Y)=true) (m:r.lm Y K=true) (t:(r.lam.map λt=>Y.tb[t.1]?.map (·.2))=r.lam.map λt=>some (t.2,r.q Y++".<locals>."++"<lambda>")) :
  FnOk P w K mg base (CX1 P w) (k+1) (r.ad Y K) (r.fx Y K) (wQ r.s) (spN (mkD K (Y.A K) clo λj=>Y.tb[j]?) (wQ r.s).length r.f):=by
 refine z2r (z38 (UY Z.i Z.n Z.c q)) a c g (by show (slN r.s).length=_;lia) l h λj b e=>⟨h2,?_⟩;have e:r.lam=some (j,b):=e;unfold Rw.lm at m;rw[e] at m t;dsimp only at m;split at m
 .rename_i c o ps' d hc ht;have t:=z5J t;dsimp only at t;rw[ht] at t;cases t;exact⟨c,o,hc,codeHd_of_K Z.i m,Z.t _ (z5E ht),ht⟩
 .injection m
structure Rw.Has(Y:Rc)(P:Program)(w:World)(K:Frag)(mg:Str->Option Value)(base:Heap)(clo:Nat->Addr->Option HO->List V->Prop)(k:Nat)(r:Rw)(l:List Rw)(gs:List (Str×GM)):Prop where
 f:FnOk P w K mg base (CX1 P w) (k+1) (r.ad Y K) (r.fx Y K) (wQ r.s) (spN (mkD K (Y.A K) clo λj=>Y.tb[j]?) (wQ r.s).length r.f)
 b:Binds K (r.fx Y K) (wQ r.s) []
 at_:r.at Y K=some (some (.ref (r.ad Y K)))
 g:GsC Y P w K mg base clo (k+2) (r.en Y::gs)
 gl:gone Y l (r.en Y::gs)=jL l
 el:ZG Y K l=j_ Y K l
theorem Rw.step(Z:Pq Y K mg base)(h2:2<=k)(g:gone Y (r::l) gs=jL (r::l))(e:ZG Y K (r::l)=j_ Y K (r::l))(q:GsC Y P w K mg base clo k gs):r.Has Y P w K mg base clo k l gs:=by
 obtain⟨g,gl⟩:=z9I g;obtain⟨e,el⟩:=z9I e;obtain⟨H,g⟩:=z7H g;obtain⟨G,d⟩:=z7H g;obtain⟨lk,e⟩:=z7H e;obtain⟨kb,e⟩:=z7H e;obtain⟨bn,t⟩:=z7H e;simp only[Rw.ok,z5P,z7G] at d;obtain⟨⟨⟨d,E⟩,D⟩,C⟩:=d;simp only[Rw.kb,z5P] at kb;obtain⟨⟨⟨⟨⟨k1,k2⟩,k3⟩,z⟩,a⟩,k5⟩:=kb;replace a:r.at Y K=some (some (.ref (r.ad Y K))):=V7 a;have F:=Rw.fnk Z q h2 H G d (zai D) lk k1 z t;have B:Binds K (r.fx Y K) (wQ r.s) []:=λs m X f=>by
  rw[z6S] at f ⊢;refine kp_binds X λS=>?_;have:=congrFun (congrFun bn S) λi=>m.getD i .none;rw[<-f,Km] at this;exact this
 refine⟨F,B,a,GsOk.add (q.mono (Nat.le_add_right k 2)) ?_ E,gl,el⟩;have o:∀i,(mkD K (Y.A K) clo λj=>Y.tb[j]?).fn i≠some r.x:=λi h=>by
  have:=z6j.mpr (z5E h);rw[C] at this;injection this
 unfold Rw.at at a;revert a k5;cases r.k with
 |fn=>exact λ_ a=>⟨_,zbP Z.i Z.n a,_,_,k+1,k2,B,z8g _,F,xB⟩
 |met c y=>exact λk5 a=>⟨_,_,_,_,k+1,csA k5,z0q Z.c (csA k5),⟨a,k3,k2⟩,o,B,z8g _,F,xB⟩
 |mk c b=>
  exact λk5 a=>by
   simp only[z5P] at k5;obtain⟨⟨⟨m1,v⟩,u⟩,p⟩:=k5;exact⟨_,_,_,_,k+1,csA p,zbP Z.i Z.n (V7 u),⟨m1,a,k3,v⟩,B,z5K _,F,xB⟩
theorem chain(Z:Pq Y K mg base):∀(l:List Rw) {k:Nat} {gs:List (Str×GM)},2<=k->gone Y l gs=jL l->ZG Y K l=j_ Y K l->GsC Y P w K mg base clo k gs->GsC Y P w K mg base clo (k+2*l.length) (Q9 Y l gs)
 |[],_,_,_,_,_,q=>q
 |r::l,k,gs,a,g,e,q=>by
  have t:=r.step Z a g e q;have:=chain Z l (Nat.le_add_right_of_le a) t.gl t.el t.g;rw[show k+2+2*l.length=k+2*(r::l).length by rw[z6l];lia] at this;exact this
noncomputable def cqG(a:List (Str×Int))(b:List (Str×Str)):List (Str×GM):=a.map (λp=>(p.1,.cst (.int p.2)))++b.map λp=>(p.1,.cst (.str p.2))
noncomputable def cqB(K:Frag)(a:List (Str×Int))(b:List (Str×Str)):Bool:=a.all (λp=>p.1 != ("__debug__":Str)&&match nsIn K z6i p.1 with
 |some (some (.int i _))=>i==p.2
 |_=>false)&&b.all λp=>p.1 != ("__debug__":Str)&&match nsIn K z6i p.1 with
 |some (some (.str i _))=>i==p.2
 |_=>false
theorem z0S{A:Ads}{tabs:Nat->Option (Addr×List Pos×Str)}{a:List (Str×Int)}{b:List (Str×Str)}(X:K.In base)(N:base.Ns z6i mg)(h:cqB K a b=true):GsOk P w K mg base A clo k (cqG a b) tabs:=λp g=>by
 simp only[cqB,z5P,z6n,bne_iff_ne] at h;rcases z5L.mp g with z|z
 .obtain⟨x,d,rfl⟩:=z5O.mp z;obtain⟨f,c⟩:=h.1 x d;split at c
  .rename_i e;exact⟨⟨_,.int x.2,zbP X N (beq_iff_eq.mp c▸e),⟨_,rfl⟩,λ_ _ _=>rfl⟩,beq_eq_false_iff_ne.mpr f⟩
  .injection c
 .obtain⟨x,d,rfl⟩:=z5O.mp z;obtain⟨f,c⟩:=h.2 x d;split at c
  .rename_i e;exact⟨⟨_,.str x.2,zbP X N (beq_iff_eq.mp c▸e),⟨_,rfl⟩,λ_ _ _=>rfl⟩,beq_eq_false_iff_ne.mpr f⟩
  .injection c
theorem GsOk.app{A:Ads}{tabs:Nat->Option (Addr×List Pos×Str)}{a b:List (Str×GM)}(x:GsOk P w K mg base A clo k a tabs)(y:GsOk P w K mg base A clo k b tabs):GsOk P w K mg base A clo k (a++b) tabs:=λp c=>(z5L.mp c).elim (x p) (y p)
noncomputable def z26 (K:Frag)(A:Ads)(bs:List Str)(xs:List (Str×Nat))(a:List (Str×Nat×Nat)):Bool:=
 bs.all (λx=>x != ("__debug__":Str)&&Xz (nsIn K z6i x))&&
 xs.all (λx=>x.1 != ("__debug__":Str)&&atA K A x.1 x.2&&z9E K ((A.xs.lookup x.2).getD 0) qS "ValueError.__new__")&&a.all (λx=>x.1 != ("__debug__":Str)&&atA K A x.1 x.2.1)
theorem Jv{A:Ads}{tabs:Nat->Option (Addr×List Pos×Str)}(X:K.In base)(f:base.Ns z6i mg)(h:z26 K A bs xs j=true):GsOk P w K mg base A clo k (Vo bs xs j) tabs:=by
 simp only[z26,z5P,z6n,bne_iff_ne] at h;intro p i;rcases z5L.mp i with z|z
 .rcases z5L.mp z with z|z
  .obtain⟨x,a,rfl⟩:=z5O.mp z;obtain⟨c,b⟩:=h.1.1 x a;exact⟨mg_none_of X f (Zq b),beq_eq_false_iff_ne.mpr c⟩
  .obtain⟨x,a,rfl⟩:=z5O.mp z;obtain⟨⟨c,b⟩,g⟩:=h.1.2 x a;obtain⟨C,d,e⟩:=KZ X f b;rw[d] at g;exact⟨⟨C,d,e,g⟩,beq_eq_false_iff_ne.mpr c⟩
 .obtain⟨x,a,rfl⟩:=z5O.mp z;obtain⟨c,b⟩:=h.2 x a;obtain⟨C,d,e⟩:=KZ X f b;exact⟨⟨C,d,e⟩,beq_eq_false_iff_ne.mpr c⟩
noncomputable def Rw.cd(Y:Rc)(K:Frag)(r:Rw):Addr:=refOf (some (some (r.fd Y K).code))
end
end NH
namespace NH.K78
open PySem PySem.Spec PyProof.Rows L2 NH NH.P
section
noncomputable def st(i:Nat):Stmt:=PySem.Challenge.pw_namehouses_k78_whole_books_of_worlds.main.body.getD i (.Pass ⟨0,0,0,0⟩)
noncomputable def cls:List (Str×Nat):=[("Clock",41),("HouseError",10),("bool",1),("dict",6),("int",2),("list",5),("str",3),("tuple",4)]
noncomputable def fld:List (Str×Nat):=[("moments",0),("houses",1),("counts",2),("start",3),("turns",4),("holder",5),("lease",6),("until",7),("is_cut",8),("shape",9),("grants",10),("house",11),("begin",12),("end",13),("ahead",14),("stride",15),("keeper",16),("mark",17),("newest",18),("batches",19),("has_fallen",20),("clock",21),("kept",22),("common",23),("given",24),("now",25),("seats",26),("by",29)]
noncomputable def RU:Rules:=⟨[rMS,z2K,z3p,z4O,z54,z3i,z5i,z3E,z4N,z4t,z4d,z4p,z5q,z4l,z4X,z5n,z50,z45,z4m,z2J,z4J,z4u,z4Q,z4C,z3r,z2s],[z3a,z14,z3B,z3D],[riK,z3b,z3Y,z1E,riE],[z2o,z4i,z1G,z2z,roE],[z0z,z1w,z2V,z0Z,z3T]⟩
noncomputable def xs:List (Nat×Str):=[(10,"HouseError"),(12,"NoShape"),(13,"NoName"),(15,"NoClock"),(16,"NoTime"),(17,"NoHolder"),(18,"NoLease"),(19,"Ended"),(20,"TooMany"),(21,"Wait"),(22,"Empty"),(23,"NoNote"),(24,"Fallen"),(25,"NoRow"),(26,"Backward")]
noncomputable def cs:List (Nat×Str):=[(40,"Shape"),(41,"Clock"),(42,"Grant"),(43,"Common"),(44,"Batch"),(46,"Seat"),(45,"House"),(47,"World")]
noncomputable def bs:List Str:=["ValueError","all","bool","dict","enumerate","int","isinstance","len","list","max","min","range","reversed","sorted","str","sum","tuple"]
noncomputable def xp:List (Str×Nat):=[("HouseError",10),("NoShape",12),("NoName",13),("NoClock",15),("NoTime",16),("NoHolder",17),("NoLease",18),("Ended",19),("TooMany",20),("Empty",22),("NoNote",23),("Fallen",24),("NoRow",25)]
noncomputable def xq:List (Str×Nat×Nat):=[("Wait",21,29),("Backward",26,25)]
noncomputable def ci:List (Str×Int):=[("TIME_clocks",0),("READING",1),("RUNS",2),("HOUSE_leases",0),("FIRST",1),("UNTIL",2),("LONGEST_HOLDER",8),("WORD",0),("TIME_rows",1),("HOLDER",2),("HOUSE_rows",3),("SPAN",4),("MANY",3),("MOST_COUNTS",20)]
noncomputable def ct:List (Str×Str):=[("LETTERS","abcdefghijklmnopqrstuvwxyz")]
noncomputable def tl:List (Str×Int):=[("lease",5),("ask",4),("store",4),("take",4),("back",3),("fall",3),("bare",3)]
noncomputable def YY (b a:Addr):Rc:=⟨RU,cs,xs,cls,fld,[(b,[⟨140,36,140,64⟩],("least_begin":Str)++".<locals>."++"<lambda>"),(a,[⟨406,64,406,91⟩],("World.come_up":Str)++".<locals>."++"<lambda>")]⟩
noncomputable def g0:List (Str×GM):=(("LENGTHS":Str),GM.tbl tl)::(hash "by",GM.xin 21 29 "Wait" "by")::(hash "Wait",GM.xin 21 29 "Wait" "by")::cqG ci ct++Vo bs xp xq
noncomputable def R1:List Rw:=[
 rw .fn (st 82) ZX]
noncomputable def R2:List Rw:=[
 rw .fn (st 18) yf,
 rw .fn (st 19) uR,
 rw .fn (st 20) wJ,
 rw .fn (st 21) yo,
 rw (.mk 40 true) (inClass (st 22) 0) jJ,
 rw .fn (st 23) u1,
 rw .fn (st 24) uG,
 rw .fn (st 25) jT,
 rw .fn (st 26) jC,
 rw .fn (st 27) uF,
 rw .fn (st 28) yD,
 rw .fn (st 33) uN,
 rw .fn (st 34) xf,
 rw (.mk 41 false) (inClass (st 35) 0) kf,
 rw (.met 41 dot) (inClass (st 35) 1) vz,
 rw .fn (st 40) yd,
 rw .fn (st 41) jb,
 rw .fn (st 42) uJ,
 rw .fn (st 46) xm,
 rw (.mk 42 false) (inClass (st 47) 0) jG,
 rw .fn (st 48) VL,
 rw .fn (st 49) jf [] (some (0,[⟨140,36,140,64⟩])),
 rw .fn (st 50) jj ["met"],
 rw (.mk 43 false) (inClass (st 51) 0) ji ["grants"],
 rw (.met 43 dot) (inClass (st 51) 2) qq,
 rw (.met 43 dot) (inClass (st 51) 4) qZ,
 rw (.met 43 dot) (inClass (st 51) 3) qP,
 rw (.met 43 dot) (inClass (st 51) 1) jU,
 rw (.met 43 dot) (inClass (st 51) 6) vU,
 rw (.met 43 dot) (inClass (st 51) 5) vt,
 rw .fn (st 53) kI,
 rw (.mk 44 true) (inClass (st 54) 0) jM,
 rw .fn (st 55) uM,
 rw .fn (st 56) qX ["return"],
 rw .fn (st 57) kZ,
 rw .fn (st 58) Qa ["firsts","others","return"],
 rw .fn (st 59) jg,
 rw (.mk 46 false) (inClass (st 73) 0) xg,
 rw (.met 46 dot) (inClass (st 73) 1) yY]
noncomputable def R3:List Rw:=[
 rw (.mk 45 false) (inClass (st 60) 0) q_ ["batches"]]
noncomputable def R4:List Rw:=[
 rw (.met 45 dot) (inClass (st 60) 8) wY,
 rw (.met 45 dot) (inClass (st 60) 7) kc,
 rw (.met 45 dot) (inClass (st 60) 15) vJ,
 rw (.met 45 dot) (inClass (st 60) 1) qM,
 rw (.met 45 dot) (inClass (st 60) 9) qv,
 rw (.met 45 dot) (inClass (st 60) 13) w6,
 rw (.met 45 dot) (inClass (st 60) 12) qY,
 rw (.met 45 dot) (inClass (st 60) 14) qk,
 rw (.met 45 dot) (inClass (st 60) 11) w4,
 rw (.met 45 dot) (inClass (st 60) 2) jc ["batches"],
 rw (.met 45 dot) (inClass (st 60) 3) vA,
 rw (.met 45 dot) (inClass (st 60) 4) vu ["names"],
 rw (.met 45 dot) (inClass (st 60) 10) qT,
 rw (.met 45 dot) (inClass (st 60) 5) qR ["batches"],
 rw .fn (st 69) y0,
 rw .fn (st 70) Ql,
 rw .fn (st 72) jO ["~thing"],
 rw (.met 47 dot) (inClass (st 74) 1) wx [] (some (1,[⟨406,64,406,91⟩])) ["seat"],
 rw (.mk 47 false) (inClass (st 74) 0) zV ["~clocks","seats","given"],
 rw (.met 47 dot) (inClass (st 74) 3) qQ,
 rw (.met 47 dot) (inClass (st 74) 4) wa ["return"],
 rw (.met 47 dot) (inClass (st 74) 2) jh,
 rw (.met 47 dot) (inClass (st 74) 5) vR,
 rw .fn (st 76) ym,
 rw .fn (st 77) kg,
 rw .fn (st 80) jY,
 rw .fn (st 81) vN,
 rw .fn (st 83) jD ["~houses"],
 rw .fn (st 84) xQ ["houses","told"],
 rw .fn (st 87) yX ["rows","lasts"],
 rw .fn (st 86) wV,
 rw .fn (st 85) Z6,
 rw .fn (st 89) xj,
 rw .fn (st 90) y3,
 rw .fn (st 91) Vf,
 rw .fn (st 92) yW,
 rw .fn (st 93) vZ,
 rw .fn (st 94) kX ["_law_turns"],
 rw .fn (st 95) v7,
 rw .fn (st 96) yc]
noncomputable def R5:List Rw:=[
 rw .fn (st 97) qt ["_law_clocks","~_law_clocks","_law_book","_law_called","~_law_called"]]
noncomputable def z44:Expr:=(z4W (z4E (sIx (zU (inClass (st 74) 1)) 0)) 3)
noncomputable def wM:LamD:=⟨1,((("World.come_up":Str)++".<locals>.")++"<lambda>"),"note",z5t z44,z59 z44,"seat",(zt 46 yU clz3 [clz0])⟩
noncomputable def z1y (l:LamD):List Str:=(uc l.sc).filter λx=>([]:List Str).contains x
variable {P0 P1:Addr}
noncomputable def gs1:List (Str×GM):=("forget",GM.cst (.clo 1 []))::Q9 (YY 0 0) R1 g0
noncomputable def gs2:List (Str×GM):=(Zs,GM.kap wM)::Q9 (YY 0 0) R2 gs1
noncomputable def gs3:List (Str×GM):=(til "House",GM.mkd 45 "House" 4 q9)::Q9 (YY 0 0) R3 gs2
noncomputable def gs4:List (Str×GM):=Q9 (YY 0 0) R4 gs3
theorem gk1:gone (YY P0 P1) R1 g0=jL R1:=by kernel_rfl
theorem gk2:gone (YY P0 P1) R2 gs1=jL R2:=by kernel_rfl
theorem gkl:Vc (kT (cn cls fld (Q9 (YY 0 0) R2 gs1) [] [] [] []) wM (z1y wM)) wM=true/\z1W RU 60 (kT (cn cls fld (Q9 (YY 0 0) R2 gs1) [] [] [] []) wM (z1y wM)) wM:=⟨by kernel_rfl,by show _=_;kernel_rfl⟩
theorem gk3:gone (YY P0 P1) R3 gs2=jL R3:=by kernel_rfl
theorem gk4:gone (YY P0 P1) R4 gs3=jL R4:=by kernel_rfl
theorem gk5:gone (YY P0 P1) R5 gs4=jL R5:=by kernel_rfl
end
end NH.K78
namespace NH
open PySem PySem.Spec PyProof.Rows L2
theorem WQ{P:z6t}{w:z81}{K:z5M}{mg mb:Str->Option Value}{CX:CXT}{k:Nat}{fa a:Addr}{p:List Addr}{fd:FuncData}{x:Str}{sp:Sp}{f:z5W}{vs:List Value}{ns:List Int}
  (X:K.In f.heap) (E:f.heap.Ns z6i mg) (hb:f.heap.Ns z9j mb) (hbb:∀x:Str,x≠"__name__"->mb x=z6W x) (M:f.heap.NoLimit) (hg:f.gens=#[])
  (hbm:∃U ob,mg "__builtins__"=some (.ref U)/\U≠z9j/\f.heap.get? U=some ob/\ob.cls=.type "module"/\ob.dict=some z9j/\ob.data=.plain)
  (hnl:W_ K=true) (g:∀j∈p,f.heap.get? j=some (zcl #[])) (O:∀j∈p,K.lookup j=none/\j≠zbu/\∃c,zbO K c j=true)
  (C:f.heap.get? a=some {cls:=.type "list",data:=.seq vs.toArray}) (hi:z7z vs ns) (hl:ns.length<=sizeLine) (hr:Room k zc1)
  (F:∀base:Heap,K.In base->base.Ns z6i mg->(∀j∈p,base.BuiltinsAt mg j)->FnOk P w K mg base CX k fa fd [x] sp) (G:∀(s:z5W) (u:Value),K.In s.heap->zaG s fd ⟨[u],[]⟩ [(x,u)])
  (hsp:∀H:Hp,Rd H a (.l (ns.map V.int))->(∀j∈p,H j=some (.tbl #[]))->a∉p->sp [.ref a] H (λv _=>v=.bl true) λ_ _ _=>False)
  (hCX:∀H e B,CX [] H f (λ_ _ _=>False) e B->False) :
  z8B (z5X P w) zc1 (.call (.ref fa) ⟨[.ref a],[]⟩) (λr B=>r=.ok (.ret (.bool true))/\OldK f.heap B.heap/\B.os=f.os/\z9z B.gens) f:=by
 have J:a∉p:=λz=>by have:=g a z;rw[this] at C;cases C
 have hKa:K.lookup a=none:=by
  cases q:K.lookup a with
  |none=>rfl
  |some o=>
   have e:=X a o q;rw[C] at e;(replace e:=zm e;subst e);exact absurd rfl (Vt hnl q)
 obtain⟨H,hH⟩:∃H:Hp,H=λb=>if b=a then some (.frz {cls:=.type "list",data:=.seq vs.toArray} (.l (ns.map V.int))) else if b∈p then some (.tbl #[]) else none:=⟨_,rfl⟩
 have Ha:H a=some (.frz {cls:=.type "list",data:=.seq vs.toArray} (.l (ns.map V.int))):=by rw[hH];simp
 have Y:∀j∈p,H j=some (.tbl #[]):=λj S=>by
  rw[hH];exact (if_neg (λz:j=a=>J (z▸S))).trans (if_pos S)
 have I:∀b,b≠a->b∉p->H b=none:=λb i l=>by
  rw[hH];exact (if_neg i).trans (if_neg l)
 have hok:HOk P w H f.heap:=λb u e=>by
  by_cases i:b=a
  .subst i;rw[Ha] at e;(replace e:=zm e;subst e);exact⟨C,by rw[z5H];exact hl,vs,_,(L2.vals_ints hi),C⟩
  .by_cases l:b∈p
   .rw[Y b l] at e;(replace e:=zm e;subst e);exact g b l
   .rw[I b i l] at e;exact z7 e
 have un:∀{b:Addr} {o:Obj},f.heap.get? b=some o->o.cls≠.none->o.cls≠.type "list"->H b=none:=λ{b o} e n1 n2=>I b (λz=>by rw[z,C] at e;(replace e:=zm e;subst e);exact n2 rfl) λz=>by rw[g b z] at e;(replace e:=zm e;subst e);exact n1 rfl
 have Z:∀{b:Addr} {o:Obj} {Q:Array zcW} {R:Nat},f.heap.get? b=some o->o.data=.dict Q R->H b=none:=λ{b o Q R} e d=>I b (λz=>by rw[z,C] at e;(replace e:=zm e;subst e);injection d) λz=>by rw[g b z] at e;(replace e:=zm e;subst e);injection d
 have qB:∀{b:Addr} {o:Obj},f.heap.get? b=some o->H b=none->(Zb f.heap H).get? b=some o:=λe n=>KC e n;have y:∀{b:Addr} {m:Str->Option Value},f.heap.Ns b m->(Zb f.heap H).Ns b m:=λ{b m} ⟨o,Q,R,e,d,r⟩=>⟨o,Q,R,qB e (Z e d),d,r⟩;have hKf:∀b o,K.lookup b=some o->H b=none:=λb o e=>I b (λz=>by rw[z,hKa] at e;exact z7 e) λz=>by rw[(O b z).1] at e;exact z7 e
 have N:K.In (Zb f.heap H):=λb o e=>qB (X b o e) (hKf b o e);have hB:∀j∈p,(Zb f.heap H).BuiltinsAt mg j:=λj S=>by
  obtain⟨U,ob,b1,b2,D,T,b5,b6⟩:=hbm;refine⟨U,ob,b1,b2,λz=>?_,λz=>?_,qB D (un D (T▸λz=>by injection z) (T▸λz=>absurd (Value.type.inj z) dC)),T,b5,b6⟩
  .obtain⟨o,Q,R,e,d,_⟩:=E;rw[z,e] at D;cases D;rw[d] at b6;injection b6
  .rw[z,g j S] at D;(replace D:=zm D;subst D);injection T
 have e0:Env0 P w K mg (Zb f.heap H) zc1 [] f H:=⟨rfl,⟨N,y E,⟨mb,y hb,hbb⟩,let ⟨mc,i,l⟩:=M;⟨mc,y i,l⟩⟩,λb o e=>YT e,z8l (JM _ _),trivial,λb hb=>absurd (show b∈([]:List Addr) from hb) sC,hok,.of_eq hg⟩;refine z7B ((F _ N (y E) hB).run zc1 [] f H ⟨[.ref a],[]⟩ [.ref a] [.ref a] _ _ hr e0 (G f (.ref a) X) (.cons rfl .nil) (hsp H (.inr ⟨_,Ha⟩) Y J)) λr B h=>?_;cases r with
 |error e=>exact (hCX H e B h).elim
 |ok fl=>
  cases fl with
  |next=>exact z6s h
  |brk=>exact z6s h
  |cont=>exact z6s h
  |ret u=>
   obtain⟨v,H',os,bare,un,t,r',q⟩:=h;have q':=q;subst q';obtain rfl:u=z9Y true:=r';have kp:∀b o,H b=none->f.heap.get? b=some o->B.heap.get? b=some o:=λb o n e=>un.keep b o e n (by intro z;exact absurd (show b∈([]:List Addr) from z) sC) sC;have L:∀o,f.heap.get? a=some o->B.heap.get? a=some o:=λo e=>by
    obtain⟨e2,_⟩:=t a _ (un.frzs a _ _ Ha);rw[C] at e;(replace e:=zm e;subst e);exact e2
   refine⟨rfl,⟨λb o e=>?_,λb o e=>?_⟩,os,bare⟩
   .by_cases i:b∈p
    .obtain⟨A,hm⟩:=un.tbls b _ (Y b i);obtain⟨k1,k2,c,k3⟩:=O b i;have cd:=PySem.W.codeHd_of_K X k3;rw[g b i] at e;(replace e:=zm e;subst e);exact .inr (.inl ⟨(cd.tab (g b i)).isCodeTable,rfl,#[],A,rfl,(t b _ hm)⟩)
    .by_cases l:b=a
     .subst l;exact .inl (L o e)
     .exact .inl (kp b o (I b l i) e)
   .by_cases i:b∈p
    .obtain⟨A,hm⟩:=un.tbls b _ (Y b i);exact⟨_,t b _ hm⟩
    .by_cases l:b=a
     .subst l;exact⟨_,L o e⟩
     .exact⟨_,kp b o (I b l i) e⟩
theorem walkTq{l:zd0}{q:z6t}{j:List Str}{XP:(Str->Option Value)->Heap->Prop}{A:z81->Heap->Prop}{d:DefRec}{K:Params->z5M}{x:Str}{k:Nat}{r:List Addr}(hk:k<=190)(L:l.most=some 63)(y:d.params.defaults=[])
  (O:∀(w:z81) (h:Heap),A w h->(K w.params).In h) (P:∀(w:z81) (h:Heap),A w h->∀B∈r,h.get? B=some (zcl #[]))
  (F:∀(w:z81) (mg:Str->Option Value) (p:Addr) (h:Heap),(K w.params).In h->h.Ns z6i mg->mg d.name=some (.ref p)->
   (W_ (K w.params)=true/\∀B∈r,(K w.params).lookup B=none/\B≠zbu/\∃c,zbO (K w.params) c B=true)/\∃fd:FuncData,(∀(s:z5W) (u:Value),(K w.params).In s.heap->zaG s fd ⟨[u],[]⟩ [(x,u)])/\∀base:Heap,(K w.params).In base->base.Ns z6i mg->(∀B∈r,base.BuiltinsAt mg B)->FnOk l.prog w (K w.params) mg base (CX1 l.prog w) k p fd [x] (Zn r)) :
  PySem.W.WalkO q j XP A l.row.toRowW d [] (λf vs=>zdk f vs):=by
 refine Att.attach_call L y λw D C mg mb p o Z cd V a vs I G Y ho hd M v n m i hg=>?_;have E:=O w _ Y;obtain⟨⟨U,S⟩,fd,N,R⟩:=F w mg p _ E G.T.g v;exact WQ E G.T.g G.T.b G.T.builtins G.T.nolimit hg G.T.bmain U (P w _ Y) S n m (z66 i dC) (Room.mono ⟨rfl,dC,dC⟩ hk) R N (λH J Q t=>⟨a,I,rfl,J,Q,t,i,λ_=>rfl⟩) λH e X z=>by
  obtain⟨_,_,_,_,_,_,_,_,_,_,_,_,_,_,_,z⟩:=z;exact z
theorem zC{i:Decidable p}(h1:p->A)(h2:¬p->B):brW (decide p) A B:=by
 cases i with
 |isTrue h=>exact h1 h
 |isFalse h=>exact h2 h
theorem qj{i:Decidable p}(h:p)(a:A):brW (decide p) A B:=zC (λ_=>a) λn=>absurd h n
theorem zA{i:Decidable p}(h:¬p)(b:B):brW (decide p) A B:=zC (λy=>absurd y h) λ_=>b
theorem VD{i:Decidable p}(h1:p->B)(h2:¬p->A):brW (!decide p) A B:=by
 cases i with
 |isTrue h=>exact h1 h
 |isFalse h=>exact h2 h
theorem VO{i:Decidable p}(h:p)(b:B):brW (!decide p) A B:=VD (λ_=>b) λn=>absurd h n
theorem zY(h1:b=true->A)(h2:b=false->B):brW b A B:=by
 cases b with
 |true=>exact h1 rfl
 |false=>exact h2 rfl
theorem z1_(h:b=false)(a:B):brW b A B:=h▸a
theorem WU{tg:Tg}{g:Sl->Mem->RE (Option T)}{lv:Mem->Prop}{b:Sl}{μ:Mem}{Z:Xp}(f:T->Option T){xs:List T}{K:List T->Mem->Prop}
  (h:∀x∈xs,∀k:Option T->Mem->Prop,k (f x) μ->∃j,asg tg x b=some j/\g j μ k Z) (k:K (xs.filterMap f) μ) (m:lv μ:=by trivial):qd tg g lv b xs μ K Z:=by
 induction xs generalizing K with
 |nil=>exact k
 |cons x r i=>
  obtain⟨j,e,hg⟩:=h x z60 (λo a=>lv a/\(match o with
   |some y=>(qd tg g lv b r a).bind λl c=>RE.ok (y::l) c
   |none=>qd tg g lv b r a) K Z) (by
    refine⟨m,?_⟩;cases q:f x with
    |none=>
     rw[z7O q] at k;exact i (λy d=>h y (z5T _ d)) k
    |some y=>
     rw[z7P q] at k;exact i (λy d=>h y (z5T _ d)) k)
  exact⟨j,e,hg⟩
theorem j0{tg:Tg}{g:Sl->Mem->RE (Option T)}{lv:Mem->Prop}{a:Sl}{μ:Mem}{Z:Xp}(f:T->T){xs:List T}{K:List T->Mem->Prop}
  (h:∀x∈xs,∀k:Option T->Mem->Prop,k (some (f x)) μ->∃j,asg tg x a=some j/\g j μ k Z) (k:K (xs.map f) μ) (b:lv μ:=by trivial):qd tg g lv a xs μ K Z:=
 WU (λx=>some (f x)) h (z6A▸k) b
theorem zH{tg:Tg}{body:Ds}{lv:Mem->Prop}{xs:List T}{a:Sl}{μ:Mem}{E:En}(I:Nat->Sl->Mem->Prop)(h0:I 0 a μ)
  (h:∀i x a μ,xs[i]?=some x->I i a μ->∀N:Sl->Mem->Prop,(∀a μ,I (i+1) a μ->N a μ)->∃j,asg tg x a=some j/\body j μ (E.turn N))
  (k:∀a μ,I xs.length a μ->E.nx a μ) (l:∀i a μ,I i a μ->lv μ:=by intros;trivial):forM tg body lv xs a μ E:=by
 have go:∀(rest:List T) (i:Nat) (a:Sl) (μ:Mem),xs.drop i=rest->i<=xs.length->I i a μ->forM tg body lv rest a μ E:=by
  intro rest;induction rest with
  |nil=>
   intro i a μ hd m e;have:i=xs.length:=by
    have:=congrArg zas hd;simp at this;omega
   subst this;exact k a μ e
  |cons x r g=>
   intro i a μ hd m e;have f:xs[i]?=some x:=by
    have:(xs.drop i)[0]?=some x:=by rw[hd];rfl
    simpa using this
   have d:xs.drop (i+1)=r:=by
    have:(xs.drop i).tail=r:=by rw[hd];rfl
    simpa using this
   exact h i x a μ f e _ λb c z=>⟨l _ _ _ z,g (i+1) b c d ((z5C.mp f).1) z⟩
 exact go xs 0 a μ rfl (z7m _) h0
theorem Jj{body:List Ds}(I:Nat->Sl->Mem->Prop)(n:Nat)(h0:I n j μ)
  (h:∀n j μ,I n j μ->∀N:Sl->Mem->Prop,(∀m j μ,m<n->I m j μ->N j μ)->c j μ (λb s=>brW b (zR body j s (E.turn N)) (E.nx j s)) (λk fs s=>E.ex k fs j s)):ZJ c body j μ E:=
 ⟨I,⟨n,h0⟩,λn j μ e=>h n j μ e _ λm j μ a d=>⟨m,a,d⟩⟩
end NH
namespace NH.P
open PySem L2 NH
theorem zi(k:K (.bl true) μ):zP [.int i] μ K Z:=⟨rfl,k⟩
theorem vp{i:Nat}(h:(rangeT n)[i]?=some x):x=.int i/\(i:Int)<n:=by
 unfold rangeT at h;rw[z5Z] at h;cases q:(z6V n.toNat)[i]? with
 |none=>rw[q] at h;exact z7 h
 |some j=>
  rw[q] at h;obtain⟨a,e⟩:=z5C.mp q;have e:i=j:=by simpa using e
  subst e;(injection h with h;subst h);simp at a;exact⟨rfl,by omega⟩
theorem Wh:(rangeT n).length=n.toNat:=by simp[rangeT]
noncomputable def isL(z:Str):Bool:=!(z8E "abcdefghijklmnopqrstuvwxyz" z 0 (zcc "abcdefghijklmnopqrstuvwxyz") 1).isEmpty
noncomputable def sgn(z:Str):List Str:=z.cps.toList.map λc=>⟨#[c]⟩
theorem Jq(z:Str):Wq z=(sgn z).map T.str:=by simp[ sgn]
theorem YN(z:Str):(sgn z).length=z.length:=by simp[sgn,zcc]
noncomputable def qh(z:Str):Bool:=decide (1<=(z.length:Int))&&decide ((z.length:Int)<=8)&&(sgn z).all isL
theorem j4{α:Type}(f:α->Bool):∀xs:List α,bools (xs.map λx=>T.bl (f x))=some (xs.map f)
 |[]=>rfl
 |x::r=>by simp[bools,j4 f r]
theorem qK(c:z.length<=room)(q:K (.bl (qh z)) μ):qE [.str z] μ K Z:=by
 refine⟨rfl,?_⟩;unfold qh at q;refine⟨c,(zC (λb=>?_) (λb=>?_))⟩
 .refine VD (λa=>?_) (λa=>?_)
  .show (Wq z).length<=room/\_;rw[Jq];refine⟨by rw[z5H,YN];exact c,?_⟩;refine j0 (λx=>match x with|.str y=>.bl (isL y)|t=>t) (λx d k e=>?_) ?_
   .obtain⟨y,f,rfl⟩:=z5O.mp d;exact⟨_,rfl,e⟩
   .rw[z69];refine⟨_,j4 isL (sgn z),?_⟩;rw[decide_eq_true b,decide_eq_true a] at q;rw[za3];exact q
  .have q:K (.bl false) μ:=by simpa[a] using q
   exact q
 .have q:K (.bl false) μ:=by simpa[b] using q
  exact q
theorem wh(a:z.length<=room)(h:qh z=b)(q:K (.bl b) μ):qE [.str z] μ K Z:=qK a (h▸q)
theorem yq{xs:List α}{k:Int}(h0:0<=k)(h1:k<xs.length):wH xs k=xs[k.toNat]?:=by
 unfold wH Jt;rw[if_pos h0,if_pos h1];rfl
section
variable {μ:Mem}
theorem get_set(h:μ[i]?=some x):(μ.set i y)[i]?=some y:=by
 have:=(z5C.mp h).1;simp[this]
theorem z8:(μ++[x])[μ.length]?=some x:=by rw[z5_ (z5K _)];simp
theorem z5{i:Nat}(h:μ[i]?=some o):(μ++[x])[i]?=some o:=by
 rw[z5N (z5C.mp h).1];exact h
noncomputable abbrev shp(x y z:Int):T:=.obj 40 [(0,.int x),(1,.int y),(2,.int z)]
theorem z_(k:K (.bl (decide (1<=n))) μ):vo [.int n] μ K Z:=by
 exact⟨rfl,(zi k)⟩
theorem ui(c:1<=x)(b:1<=y)(a:1<=z)(q:K .n [.obj 40 [(0,.int x),(1,.int y),(2,.int z)]]):xT [.m 0,.int x,.int y,.int z] [.obj 40 []] K Z:=by
 refine⟨rfl,(z_ (qj c (z_ ?_)))⟩;refine qj b (z_ (VO a ⟨_,_,rfl,dC,_,_,rfl,(by (show 1<900);decide),_,_,rfl,(by (show 2<900);decide),?_⟩));exact q
end
theorem jW{ns:List Int}(hk:0<=k)(q:∀c,K (.int c) μ):kC [.l (ns.map T.int),.int k] μ K Z:=by
 refine⟨rfl,(zC (λh=>?_) (λh=>?_))⟩
 .have a:k.toNat<ns.length:=by
   rw[z5H] at h;omega
  refine⟨.int ns[k.toNat],?_,q _⟩;rw[yq hk h,z5Z,z67 a];rfl
 .exact q _
theorem V4{tg:Tg}{a:Sl}{x:T}{r:List T}{K:List T->Mem->Prop}(h:∃s,asg tg x a=some s/\g s μ (λo j=>lv j/\(match o with
  |some y=>qd tg g lv a r j (λu μ2=>K (y::u) μ2) Z
  |none=>qd tg g lv a r j K Z)) Z):qd tg g lv a (x::r) μ K Z:=by
 obtain⟨s,e,h⟩:=h;refine⟨s,e,?_⟩;have:(λ(o:Option T) j=>lv j/\(match o with
  |some y=>qd tg g lv a r j (λu μ2=>K (y::u) μ2) Z
  |none=>qd tg g lv a r j K Z))=λo j=>lv j/\(match o with
   |some y=>(qd tg g lv a r j).bind λu μ2=>RE.ok (y::u) μ2
   |none=>qd tg g lv a r j) K Z:=by
  funext o j;cases o<;>rfl
 rw[this] at h;exact h
theorem Jo{tg:Tg}{a:Sl}{K:List T->Mem->Prop}(h:K [] μ):qd tg g lv a [] μ K Z:=by
 exact h
structure Sy(y z:Int):Prop where
 y1:1<=y
 y2:y<=10000000000
 z1:1<=z
 z2:z<=10000000000
theorem QM(s:Sy y z)(q:K (.int (x*y*z)) μ):W2 [shp x y z] μ K Z:=by
 obtain⟨d,c,b,a⟩:=s;exact⟨rfl,.inr ⟨by unfold big;lia,by unfold big;lia⟩,.inr ⟨by unfold big;lia,by unfold big;lia⟩,q⟩
theorem kW(s:Sy y z)(a:(decide (0<=n)&&decide (n<x*y*z))=b)(q:K (.bl b) μ):xA [shp x y z,.int n] μ K Z:=by
 subst a;refine⟨rfl,(QM s ⟨rfl,(zi ?_)⟩)⟩;refine zC (λh=>?_) (λh=>?_)
 .have q:K (.bl (decide (n<x*y*z))) μ:=by simpa[h] using q
  exact q
 .have q:K (.bl false) μ:=by simpa[h] using q
  exact q
theorem ug(s:Sy y z)(h:(decide (0<=n)&&decide (n<x*y*z))=true)(q:K .n μ):yB [shp x y z,.int n] μ K Z:=by
 exact⟨rfl,(kW s h q)⟩
structure Gr where
 ho:Str
 h:Int
 f:Int
 u0:Int
 u:Int
 ct:Bool
noncomputable def Gr.L (G:Gr):T:=.t [.int G.h,.int G.f,.int G.u0]
noncomputable def Gr.O (G:Gr):MO:=.obj 42 [(5,.str G.ho),(6,G.L),(7,.int G.u),(8,.bl G.ct)]
noncomputable abbrev Gp:=Nat×Gr
noncomputable abbrev Gp.t(p:Gp):T:=.m p.1
structure Bk(μ:Mem)(c g:Nat)(sh:T)(ps:List Gp):Prop where
 com:μ[c]?=some (.obj 43 [(9,sh),(10,.m g)])
 lst:μ[g]?=some (.l (ps.map Gp.t))
 at_:∀p∈ps,μ[p.1]?=some p.2.O
 nd:(ps.map (·.1)).Nodup
structure Ch(S:List Nat)(μ μ':Mem):Prop where
 len:μ.length<=μ'.length
 ot:∀i,i<μ.length->i∉S->μ'[i]?=μ[i]?
theorem Ch.refl:Ch S μ μ:=⟨z5K _,λ_ _ _=>rfl⟩
theorem Ch.trans(a:Ch S μ j)(b:Ch S j μ2):Ch S μ μ2:=⟨z66 a.len b.len,λi h n=>(b.ot i (z5S h a.len) n).trans (a.ot i h n)⟩
theorem Ch.mono(a:Ch S μ j)(h:∀x∈S,x∈s):Ch s μ j:=⟨a.len,λi hi n=>a.ot i hi λz=>n (h i z)⟩
theorem Ch.app:Ch [] μ (μ++[x]):=⟨sC,λi h _=>z5N h⟩
theorem Ch.set:Ch [i] μ (μ.set i x):=⟨sC,λj h n=>by rw[z5G];rintro rfl;exact n sC⟩
theorem Ch.get(a:Ch S μ j)(h:μ[i]?=some x)(n:i∉S):j[i]?=some x:=(a.ot i (z5C.mp h).1 n).trans h
theorem Bk.ch(B:Bk μ c g s ps)(a:Ch S μ j)(h1:c∉S)(h2:g∉S)(d:∀p∈ps,p.1∉S):Bk j c g s ps:=
 ⟨a.get B.com h1,a.get B.lst h2,λp b=>a.get (B.at_ p b) (d p b),B.nd⟩
noncomputable def mt (G:Gr)(b e:Int):Bool:=decide ((if G.f<b then b else G.f)<(if e<G.u then e else G.u))
theorem vH:mt G b e=true↔G.f<G.u/\G.f<e/\b<G.u/\b<e:=by
 unfold mt;split<;>split<;>lia
theorem VT(h:¬(G.f<G.u/\G.f<e/\b<G.u/\b<e)):mt G b e=false:=by
 cases q:mt G b e with
 |false=>rfl
 |true=>exact absurd (vH.mp q) h
theorem Q5(h:μ[a]?=some G.O)(q:K (.bl (mt G b e)) μ):meets [.m a,.int b,.int e] μ K Z:=by
 exact⟨rfl,_,_,_,h,rfl,_,rfl,_,_,_,h,rfl,q⟩
theorem zX{β:Type}{tg:Tg}{g:Sl->Mem->RE (Option T)}{lv:Mem->Prop}{b:Sl}(t:β->T)(f:β->Option T){ps:List β}{K:List T->Mem->Prop}
  (h:∀p∈ps,∀k:Option T->Mem->Prop,k (f p) μ->∃j,asg tg (t p) b=some j/\g j μ k Z) (k:K (ps.filterMap f) μ) (d:lv μ:=by trivial):qd tg g lv b (ps.map t) μ K Z:=by
 induction ps generalizing K with
 |nil=>exact Jo k
 |cons x r c=>
  refine V4 (h x z60 _ ⟨d,?_⟩);cases q:f x with
  |none=>
   rw[z7O q] at k;exact c (λy a=>h y (z5T _ a)) k
  |some y=>
   rw[z7P q] at k;exact c (λy a=>h y (z5T _ a)) k
theorem Vv:∀{bs:List Gp},(∀p∈bs,μ[p.1]?=some p.2.O)->KeyR clz57 μ (bs.map Gp.t) (bs.map (·.2.f))
 |[],_=>trivial
 |p::r,h=>⟨⟨_,_,_,h p z60,rfl,_,rfl,rfl,rfl⟩,Vv λq a=>h q (z5T _ a)⟩
theorem xV:∀(a:List (Key×T)),(ze z (wA z t a)).isSome=true:=by
 intro a;unfold wA;split
 .rename_i h;induction a with
  |nil=>simp at h
  |cons p r b=>
   rw[z6c];unfold ze;by_cases e:p.1=z
   .rw[if_pos e,if_pos e];rfl
   .rw[if_neg e,if_neg e];exact b (by simpa[e] using h)
 .rename_i h;induction a with
  |nil=>simp[ze]
  |cons p r b=>
   have e:p.1≠z:=λe=>h (by simp[e]);rw[z8n];unfold ze;rw[if_neg e];exact b λz=>h (by simp only[z7a,z96];exact .inr z)
theorem k7(ne:y≠z):∀(b:List (Key×T)),(ze y (wA z t b)).isSome=(ze y b).isSome:=by
 intro b;unfold wA;split
 .rename_i h;clear h;induction b with
  |nil=>rfl
  |cons p r c=>
   rw[z6c];unfold ze;by_cases e:p.1=z
   .rw[if_pos e];have a:p.1≠y:=λd=>ne (d.symm.trans e);rw[if_neg a,if_neg a];exact c
   .rw[if_neg e];by_cases a:p.1=y
    .rw[if_pos a,if_pos a]
    .rw[if_neg a,if_neg a];exact c
 .rename_i h;clear h;induction b with
  |nil=>
   show (ze y [(z,t)]).isSome=_;unfold ze;rw[if_neg (λw=>ne w.symm)];rfl
  |cons p r c=>
   rw[z8n];unfold ze;by_cases a:p.1=y
   .rw[if_pos a,if_pos a]
   .rw[if_neg a,if_neg a];exact c
theorem jK:(wA z t j).length<=j.length+1:=by
 unfold wA;split<;>simp
noncomputable def inD (a:List (Key×T))(h:Int):Bool:=(ze (.inl h) a).isSome
theorem kL:∀(b:List (Key×T)),∃B:Int,∀h,inD b h=true->h<B
 |[]=>⟨0,λh e=>by injection e⟩
 |(.inl a,t)::r=>by
  obtain⟨B,c⟩:=kL r;refine⟨if a<B then B else a+1,λh e=>?_⟩;unfold inD ze at e;by_cases z:(z9X a:Key)=.inl h
  .have:a=h:=by injection z
   split<;>omega
  .rw[if_neg z] at e;have:=c h e;split<;>omega
 |(.inr a,t)::r=>by
  obtain⟨B,c⟩:=kL r;refine⟨B,λh e=>?_⟩;unfold inD ze at e;rw[if_neg (by intro z;injection z)] at e;exact c h e
theorem ZM(q:K (.bl (decide (0<=n)&&decide (n<b))) μ):qO [.int n,.int b] μ K Z:=by
 refine⟨rfl,(zi (zC (λh=>?_) (λh=>?_)))⟩
 .have q:K (.bl (decide (n<b))) μ:=by simpa[h] using q
  exact q
 .have q:K (.bl false) μ:=by simpa[h] using q
  exact q
theorem wg(h0:0<=n)(h1:n<b)(q:K (.bl true) μ):qO [.int n,.int b] μ K Z:=ZM (by simpa[h0,h1] using q)
noncomputable def xr (y:Int)(t:T):Prop:=t=.n\/∃h:Int,t=.int h/\0<=h/\h<y
theorem ZC(B:Bk μ c g (shp x y z) ps)(d:ho.length<=room)(h1:qh ho=true)(h2:xr y hs)(e:1<=n)(q:K .n μ):v5 [.m c,.str ho,hs,.int m,.int n] μ K Z:=by
 refine⟨rfl,(wh d h1 ?_)⟩;have rest:zR (qq.drop 2) [some (.m c),some (.str ho),some hs,some (.int m),some (.int n)] μ (En.fn K Z):=by
  exact z_ (VO e (zi q))
 rcases h2 with rfl|⟨h,rfl,a,b⟩
 .exact rest
 .exact⟨_,_,_,B.com,rfl,(wg a b rest)⟩
theorem Zz(B:Bk μ c g (shp x y z) ps)(f:ps.length<=1000)(q:K (.l ((ps.filter λp=>decide (p.2.h=h)).map Gp.t)) μ):wU [.m c,.int h] μ K Z:=by
 refine⟨rfl,_,_,_,B.com,rfl,_,B.lst,by rw[z5H];unfold room;lia,?_⟩;refine zX Gp.t (λp=>if p.2.h=h then some (Gp.t p) else none) (λp d k a=>?_) ?_ B.lst
 .refine⟨_,rfl,_,_,_,B.at_ p d,rfl,_,rfl,(zY (λe=>?_) (λe=>?_))⟩
  .have e:p.2.h=h:=by simpa using e
   rw[if_pos e] at a;exact a
  .have e:¬p.2.h=h:=by simpa using e
   rw[if_neg e] at a;exact a
 .have e:ps.filterMap (λp=>if p.2.h=h then some (Gp.t p) else none)=(ps.filter λp=>decide (p.2.h=h)).map Gp.t:=by
   clear q B f;induction ps with
   |nil=>rfl
   |cons p r b=>
    by_cases z:p.2.h=h
    .rw[z7P (by rw[if_pos z]),z8I (by simpa using z),z6c,b]
    .rw[z7O (by rw[if_neg z]),z8J (by simpa using z),b]
  rw[e];exact q
theorem z4n{a b c f:Int}:eqL [.int a,.int b,.int c] [.int d,.int e,.int f]=some (decide (a=d)&&(decide (b=e)&&decide (c=f))):=by
 have h:∀i j:Int,(i==j)=decide (i=j):=λi j=>by
  by_cases z:i=j<;>simp[z]
 simp[eqL,eqT,h]
theorem z3g{c:Int}:qH [.int a,.int b,.int c]<=40:=by simp[qH,j8]
theorem vI{u:Int}(h0:0<=h)(h1:h<y)(f0:0<=f)(fu:f<u)(ux:u<=x)(q:K (.bl true) μ):yp [shp x y z,.t [.int h,.int f,.int u]] μ K Z:=by
 refine⟨rfl,_,rfl,(wg h0 h1 ⟨_,rfl,(zi ?_)⟩)⟩;refine⟨_,rfl,(zi ⟨_,rfl,(qj f0 ?_)⟩)⟩;refine⟨_,rfl,(qj fu ?_)⟩;have q:K (.bl (decide (u<=x))) μ:=decide_eq_true ux▸q;exact q
theorem Ku{u:Int}(B:Bk μ c g (shp x y z) ps)(h0:0<=h)(h1:h<y)(f0:0<=f)(fu:f<u)(ux:u<=x)
  (q:∀p∈ps,p.2.h=h->p.2.f=f->p.2.u0=u->p.2.ct=false->K (.m p.1) μ) (v:(∀p∈ps,p.2.h=h->p.2.f=f->p.2.u0=u->p.2.ct=true)->Z 18 [] μ):jZ [.m c,.t [.int h,.int f,.int u]] μ K Z:=by
 refine⟨rfl,_,_,_,B.com,rfl,rfl,(vI h0 h1 f0 fu ux ⟨_,_,_,B.com,rfl,_,B.lst,?_⟩)⟩;refine zH (λi m j=>∃o,m=[some (.m c),some (.t [.int h,.int f,.int u]),o]/\j=μ/\∀p∈ps.take i,p.2.h=h->p.2.f=f->p.2.u0=u->p.2.ct=true) ⟨none,rfl,rfl,sC⟩ ?_ ?_ ?_
 .rintro i t m j l ⟨o,rfl,rfl,n⟩ N C;rw[z5Z] at l;cases k:ps[i]? with
  |none=>rw[k] at l;exact z7 l
  |some p=>
   rw[k] at l;(injection l with l;subst l);have r:=z5E k;have et:ps.take (i+1)=ps.take i++[p]:=by rw[z6w,k];rfl
   have next:(p.2.h=h->p.2.f=f->p.2.u0=u->p.2.ct=true)->N [some (.m c),some (.t [.int h,.int f,.int u]),some (.m p.1)] j:=λA=>C _ _ ⟨_,rfl,rfl,λw d=>by
    rw[et] at d;rcases z5L.mp d with d|d
    .exact n w d
    .rw[z5F.mp d];exact A⟩
   refine⟨_,rfl,_,_,_,B.at_ p r,rfl,z3g,_,z4n,(zY (λe=>?_) (λe=>?_))⟩
   .simp only[z5P,decide_eq_true_eq] at e;refine⟨_,_,_,B.at_ p r,rfl,?_⟩;cases s:p.2.ct with
    |true=>exact next λ_ _ _=>s
    |false=>exact q p r e.1 e.2.1 e.2.2 s
   .refine next λa b c=>?_
    rw[decide_eq_true a,decide_eq_true b,decide_eq_true c] at e;injection e
 .rintro m j ⟨o,rfl,rfl,n⟩;rw[z5H,z6z (z5K _)] at n;exact⟨dC,v n⟩
 .rintro i m j ⟨o,rfl,rfl,_⟩;exact B.lst
noncomputable def z1H (f u:Int)(t:T)(e:Int):Prop:=(t=.n/\e=f)\/∃s:Int,t=.int s/\f<=s/\s<u/\e=s+1
noncomputable def setG (a:Nat)(e:Int)(ps:List Gp):List Gp:=ps.map λp=>if p.1=a then (p.1,{p.2 with u:=e,ct:=true}) else p
theorem ZU:(setG a e ps).map (·.1)=ps.map (·.1):=by
 unfold setG;rw[z69];refine z8s λp _=>?_;show (if p.1=a then _ else _:Gp).1=p.1;split<;>rfl
theorem z2t:(setG a e ps).map Gp.t=ps.map Gp.t:=by
 have:=congrArg (zbv T.m) (ZU (ps:=ps) (a:=a) (e:=e));simp only[z69] at this;exact this
theorem z1q(B:Bk μ c g (shp x y z) ps)(h0:0<=h)(h1:h<y)(f0:0<=f)(fu:f<u)(ux:u<=x)(N:z1H f u t e)(v:∃p∈ps,p.2.h=h/\p.2.f=f/\p.2.u0=u/\p.2.ct=false)
  (q:∀p∈ps,p.2.h=h->p.2.f=f->p.2.u0=u->p.2.ct=false->∀C,Ch [p.1] μ C->C.length=μ.length->Bk C c g (shp x y z) (setG p.1 e ps)->K .n C):xG [.m c,.t [.int h,.int f,.int u],t] μ K Z:=by
 refine⟨rfl,_,B.com,(Ku B h0 h1 f0 fu ux (λp l F E D A=>?_) λO=>?_)⟩
 .have fin:zR (vt.drop 2) [some (.m c),some (.t [.int h,.int f,.int u]),some t,some (.m p.1),some (.int e)] μ (En.fn K Z):=by
   have d:=B.at_ p l;refine⟨_,_,d,by show (4:Nat)<900;decide,_,_,get_set d,by show (4:Nat)<900;decide,?_⟩;have R:∀(a b:MO),(μ.set p.1 a).set p.1 b=μ.set p.1 b:=λa b=>by rw[List.set_set]
   rw[R];have I:p.1≠g:=λz=>by rw[z,B.lst] at d;cases d
   have J:p.1≠c:=λz=>by
    rw[z,B.com] at d;have d:=z5J d;injection d with w _;exact absurd w dC
   refine q p l F E D A _ Ch.set sC ⟨?_,?_,λS r=>?_,?_⟩
   .rw[z5G J];exact B.com
   .rw[z5G I,z2t];exact B.lst
   .obtain⟨m,k,rfl⟩:=z5O.mp r;by_cases z:m.1=p.1
    .have:m=p:=by
      obtain⟨i,Q⟩:=z6d.mp k;obtain⟨j,P⟩:=z6d.mp l;obtain⟨M,H⟩:=z5C.mp Q;obtain⟨L,G⟩:=z5C.mp P;have:=(z7T (h₀:=by simpa using M) (h₁:=by simpa using L) B.nd).mp (by simp[H,G,z]);subst this;rw[<-H,<-G]
     subst this;rw[if_pos rfl];rw[get_set d];rfl
    .rw[if_neg z,z5G (λw=>z w.symm)];exact B.at_ m k
   .rw[ZU];exact B.nd
  rcases N with⟨rfl,rfl⟩|⟨s,rfl,o,n,rfl⟩
  .exact⟨_,rfl,fin⟩
  .refine zi ⟨_,rfl,(qj o ⟨_,rfl,?_⟩)⟩;exact qj n fin
 .obtain⟨p,l,F,E,D,A⟩:=v;have:=O p l F E D;rw[A] at this;injection this
structure GrOk(x y:Int)(G:Gr):Prop where
 h0:0<=G.h
 h1:G.h<y
 f0:0<=G.f
 fu0:G.f<G.u0
 ux:G.u0<=x
 fu:G.f<=G.u
 uu:G.u<=G.u0
 op:G.ct=false->G.u=G.u0
noncomputable def Dj (p q:Gp):Prop:=p.2.h=q.2.h->mt p.2 q.2.f q.2.u=false
structure Gd(x y:Int)(ps:List Gp):Prop where
 ok:∀p∈ps,GrOk x y p.2
 dj:ps.Pairwise Dj
theorem Gd.one(G:Gd x y ps){i j:Nat}{p q:Gp}(hi:ps[i]?=some p)(hj:ps[j]?=some q)(e:p.2.h=q.2.h)(m:p.2.f<p.2.u/\q.2.f<q.2.u/\p.2.f<q.2.u/\q.2.f<p.2.u):i=j:=by
 obtain⟨d,k⟩:=z5C.mp hi;obtain⟨c,g⟩:=z5C.mp hj;have no:∀{i j:Nat} {p q:Gp} (d:i<ps.length) (c:j<ps.length),ps[i]=p->ps[j]=q->p.2.h=q.2.h->(p.2.f<p.2.u/\q.2.f<q.2.u/\p.2.f<q.2.u/\q.2.f<p.2.u)->¬i<j:=λ{i j p q} d c k g e m l=>by
  have:=(z6h.mp G.dj) i j d c l;rw[k,g] at this;have h2:mt p.2 q.2.f q.2.u=true:=vH.mpr lC;rw[this e] at h2;injection h2
 have a:=no d c k g e m;have b:=no c d g k e.symm lC;lia
theorem ZO:∀{ps:List Gp} {i:Nat} {p:Gp},(ps.map (·.1)).Nodup->ps[i]?=some p->setG p.1 e ps=ps.set i (p.1,{p.2 with u:=e,ct:=true})
 |[],i,p,_,h=>by simp at h
 |q::r,0,p,a,h=>by
  have h:q=p:=by simpa using h
  subst h;rw[z6c,z7g] at a;show (if q.1=q.1 then _ else q)::setG q.1 e r=_;rw[if_pos rfl];have:setG q.1 e r=r:=by
   conv=>rhs;rw[<-List.map_id r]
   refine z8s λp b=>?_;rw[if_neg (λ(z:p.1=q.1)=>a.1 (z5O.mpr ⟨p,b,z⟩))];rfl
  rw[this];rfl
 |q::r,i+1,p,a,h=>by
  rw[z6c,z7g] at a;have ne:q.1≠p.1:=λz=>a.1 (z5O.mpr ⟨p,z5E h,z.symm⟩);show (if q.1=p.1 then _ else q)::setG p.1 e r=_;rw[if_neg ne,ZO a.2 h];rfl
theorem Gd.cut(G:Gd x y ps)(hi:ps[i]?=some p)(h1:p.2.f<=e)(h2:e<=p.2.u):Gd x y (ps.set i (p.1,{p.2 with u:=e,ct:=true})):=by
 have c:=G.ok p (z5E hi);obtain⟨o,j⟩:=z5C.mp hi;refine⟨λq d=>?_,?_⟩
 .rcases List.mem_or_eq_of_mem_set d with d|rfl
  .exact G.ok q d
  .exact⟨c.h0,c.h1,c.f0,c.fu0,c.ux,h1,z7I h2 c.uu,λz=>by injection z⟩
 .rw[z6h];intro a b l k g;rw[z97] at l k;have:=(z6h.mp G.dj) a b l k g;rw[z8X,z8X];split
  .rename_i n;subst n;rw[j] at this;rw[if_neg (by omega)];intro h;have:=this h;refine VT λw=>?_;have w:p.2.f<e/\p.2.f<ps[b].2.u/\ps[b].2.f<e/\ps[b].2.f<ps[b].2.u:=w;have h2:mt p.2 ps[b].2.f ps[b].2.u=true:=vH.mpr (by omega);rw[this] at h2;injection h2
  .split
   .rename_i m;subst m;rw[j] at this;intro h;have:=this h;refine VT λw=>?_;have w:ps[a].2.f<ps[a].2.u/\ps[a].2.f<e/\p.2.f<ps[a].2.u/\p.2.f<e:=w;have h2:mt ps[a].2 p.2.f p.2.u=true:=vH.mpr (by omega);rw[this] at h2;injection h2
   .exact this
theorem Gd.add(G:Gd x y ps)(d:GrOk x y q.2)(h:∀p∈ps,p.2.h=q.2.h->mt p.2 q.2.f q.2.u=false):Gd x y (ps++[q]):=by
 refine⟨λp c=>?_,?_⟩
 .rcases z5L.mp c with c|c
  .exact G.ok p c
  .rw[z5F.mp c];exact d
 .rw[z7J];exact⟨G.dj,sC,λa g b e=>z5F.mp e▸h a g⟩
section
variable {z:Int}
theorem vX(q:K .n (μ++[.obj 43 [(9,j),(10,.m (μ.length+1))],.l []])):vT [.m μ.length,j] (μ++[.obj 43 []]) K Z:=by
 have c:∀(μ:Mem) (a b:MO),(μ++[a]).set μ.length b=μ++[b]:=λμ a b=>by rw[z74 _ _ (z5K _)];simp
 refine⟨rfl,_,_,z8,dC,?_⟩;rw[c];refine⟨_,_,z5 z8,by show (1:Nat)<900;decide,?_⟩;have e:∀(o a b:MO),((μ++[o])++[a]).set μ.length b=μ++[b,a]:=λo a b=>by
  rw[z8c,z74 _ _ (z5K _)];simp
 rw[e];have d:(μ++[MO.obj 43 [(9,j)]]).length=μ.length+1:=by simp
 rw[d];exact q
theorem wB(h0:0<=n)(h1:n<b)(q:K .n μ):vq [.int n,.int b] μ K Z:=by
 exact⟨rfl,(wg h0 h1 q)⟩
theorem WW(m0:0<=m)(m1:m<x)(h0:0<=h)(h1:h<y)(k0:0<=k)(k1:k<z):0<=(m*y+h)*z+k/\(m*y+h)*z+k<x*y*z/\((m*y+h)*z+k) / z=m*y+h/\(m*y+h) / y=m/\(m*y+h) % y=h:=by
 have b:(m*y+h) / y=m/\(m*y+h) % y=h:=(z8i lC).mpr ⟨by rw[z7K y,za7],h0,h1⟩;have d:0<=m*y:=z8P m0 lC;have c:0<=(m*y+h)*z:=z8P lC lC;have a:m*y+y<=x*y:=by
  have:=z64 (show m+1<=x by lia) (show 0<=y by lia);rw[z92,z93] at this;exact this
 have n3:(m*y+h)*z+z<=x*y*z:=by
  have:=z64 (show m*y+h+1<=x*y by lia) (show 0<=z by lia);rw[z92,z93] at this;exact this
 exact⟨lC,lC,((z8i lC).mpr ⟨by rw[z7K z,za7],k0,k1⟩).1,b.1,b.2⟩
end
noncomputable abbrev Ls:=Int×Int×Int
noncomputable def lsT:Option Ls->T
 |none=>.n
 |some l=>.t [.int l.1,.int l.2.1,.int l.2.2]
noncomputable def opT:Option Int->T
 |none=>.n
 |some m=>.int m
noncomputable abbrev hsF(a:T)(c b:Int)(kp:T)(l:Option Ls)(m n:Option Int)(bt:T)(fl:Bool):List (Nat×T):=[(9,a),(14,.int c),(15,.int b),(16,kp),(6,lsT l),(17,opT m),(18,opT n),(19,bt),(20,.bl fl)]
noncomputable abbrev hsO(a:T)(c b:Int)(kp:T)(l:Option Ls)(m n:Option Int)(bt:T)(fl:Bool):MO:=.obj 45 (hsF a c b kp l m n bt fl)
theorem z3Z:∀(l l':Option Ls),eqT (lsT l) (lsT l')=some (decide (l=l'))
 |none,none=>by simp[lsT,eqT]
 |none,some b=>by simp[lsT,eqT]
 |some a,none=>by simp[lsT,eqT]
 |some (a,b,c),some (d,e,f)=>by
  show eqT (.t _) (.t _)=_;simp only[eqT];rw[z4n];simp
theorem z39:∀(l l':Option Int),eqT (opT l) (opT l')=some (decide (l=l'))
 |none,none=>by simp[opT,eqT]
 |none,some b=>by simp[opT,eqT]
 |some a,none=>by simp[opT,eqT]
 |some a,some b=>by
  by_cases h:a=b
  .simp[opT,eqT,h]
  .simp[opT,eqT,h]
theorem VG:eqL [lsT l,opT m] [lsT l',opT m']=some (decide (l=l')&&decide (m=m')):=by
 simp[eqL,z3Z,z39]
theorem Qk:qH [lsT l,opT m]<=40:=by
 cases l<;>cases m<;>simp[lsT,opT,qH,j8]
theorem zZ(h:μ[i]?=some (hsO j u s kp l m n bt false))(q:K .n μ):qc [.m i] μ K Z:=by
 exact⟨rfl,_,_,_,h,rfl,q⟩
theorem V5(h:μ[i]?=some (hsO j u s kp l m n bt false))(q:K (.t [lsT l,opT m]) μ):yi [.m i] μ K Z:=by
 exact⟨rfl,_,_,_,h,rfl,_,_,_,h,rfl,q⟩
theorem vK(h0:0<=h)(h1:h<y)(f0:0<=f)(fu:f<u)(ux:u<=x)(q:K .n μ):vG [shp x y z,.t [.int h,.int f,.int u]] μ K Z:=by
 exact⟨rfl,(vI h0 h1 f0 fu ux q)⟩
structure LsOk(x y:Int)(l:Ls):Prop where
 h0:0<=l.1
 h1:l.1<y
 f0:0<=l.2.1
 fu:l.2.1<l.2.2
 ux:l.2.2<=x
theorem va(h:0<=a)(q:K (.bl true) μ):w8 [.int a] μ K Z:=by
 refine⟨rfl,(zi ?_)⟩;have q:K (.bl (decide (0<=a))) μ:=decide_eq_true h▸q;exact q
structure Hz(x y z:Int):Prop where
 x1:1<=x
 y1:1<=y
 y2:y<=1000000
 z1:1<=z
 z2:z<=1000000
theorem Hz.sy(s:Hz x y z):Sy y z:=⟨s.y1,by have:=s.y2;lia,s.z1,by have:=s.z2;lia⟩
theorem vL(s:Hz x y z)(h0:0<=k)(h1:k<x*y*z)(q:K (.t [.int (k / z / y),.int (k / z % y),.int (k % z)]) μ):jI [shp x y z,.int k] μ K Z:=by
 obtain⟨e,d,c,b,a⟩:=id s;refine⟨rfl,(ug s.sy (by rw[decide_eq_true h0,decide_eq_true h1];rfl) ?_)⟩;refine⟨lC,⟨lC,lC⟩,⟨lC,lC⟩,lC,?_⟩;exact q
noncomputable def plA (y z h k:Int):Int:=if k / z % y<h then k / z / y*z else if h<k / z % y then (k / z / y+1)*z else k / z / y*z+k % z+1
theorem yM(s:Hz x y z)(h0:0<=k)(h1:k<x*y*z)(q:K (.int (plA y z h k)) μ):kQ [shp x y z,.int h,.int k] μ K Z:=by
 obtain⟨f,d,c,b,a⟩:=id s;refine⟨rfl,(vL s h0 h1 ⟨_,rfl,?_⟩)⟩;unfold plA at q;refine zC (λe=>?_) (λe=>?_)
 .rw[if_pos e] at q;refine⟨_,rfl,.inr ⟨by unfold big;lia,by unfold big;lia⟩,?_⟩;exact q
 .rw[if_neg e] at q;refine⟨_,rfl,(zC (λe=>?_) (λe=>?_))⟩
  .rw[if_pos e] at q;refine⟨_,rfl,.inr ⟨by unfold big;lia,by unfold big;lia⟩,?_⟩;exact q
  .rw[if_neg e] at q;refine⟨_,rfl,.inr ⟨by unfold big;lia,by unfold big;lia⟩,_,rfl,?_⟩;exact q
noncomputable abbrev byP(z r a e:Int):Int:=(e-1) / z-(r+a)
noncomputable abbrev ua(h b e:Int):T:=.obj 44 [(11,.int h),(12,.int b),(13,.int e)]
noncomputable def nmA (y z h p:Int):Int:=(p / z*y+h)*z+p % z
noncomputable def nmL (y z h b k:Int):List Int:=(z6V k.toNat).map λ(j:Nat)=>nmA y z h (b+j)
theorem WM(s:Hz x y z)(m0:0<=j)(m1:j<x)(h0:0<=h)(h1:h<y)(k0:0<=k)(k1:k<z)(q:K (.int ((j*y+h)*z+k)) μ):Vy [shp x y z,.int j,.int h,.int k] μ K Z:=by
 obtain⟨e,d,c,b,a⟩:=id s;refine⟨rfl,(wB m0 m1 (wB h0 h1 (wB k0 k1 ?_)))⟩;refine⟨.inr ⟨by unfold big;lia,by unfold big;lia⟩,.inr ⟨by unfold big;lia,by unfold big;lia⟩,?_⟩;exact q
theorem place_lt(s:Hz x y z)(h1:p<x*z):p / z<x:=by
 have:=s.z1;exact z75 lC h1
theorem jq(s:Hz x y z)(p0:0<=p)(p1:p<x*z)(h0:0<=h)(h1:h<y)(q:K (.int (nmA y z h p)) μ):Zy [shp x y z,.int h,.int p] μ K Z:=by
 obtain⟨e,d,c,b,a⟩:=id s;refine⟨rfl,⟨lC,lC⟩,lC,?_⟩;exact WM s (z82 p0 lC) (place_lt s p1) h0 h1 (z62 _ lC) (z68 _ lC) q
section
variable {z:Int}
theorem QG(c0:0<=c)(c1:c<z)(d0:0<=d)(g:d<z):a*z+c<b*z+d↔a<b\/(a=b/\c<d):=by
 have up:∀{p q:Int},p<q->p*z+z<=q*z:=λ{p q} h=>by
  have:=z64 (show p+1<=q by lia) (show 0<=z by lia);rw[z92,z93] at this;exact this
 constructor
 .intro h;by_cases e:a<b
  .exact .inl e
  .by_cases f:a=b
   .subst f;exact .inr ⟨rfl,lC⟩
   .have:=up (show b<a by lia);lia
 .rintro (h|⟨rfl,h⟩)
  .have:=up h;lia
  .lia
theorem Y6(k:Int)(y z:Int):k=(k / z / y*y+k / z % y)*z+k % z:=by
 have a:=z6x (k / z) y;rw[z7K (k / z / y) y,a,z7K (k / z) z];exact (z6x k z).symm
theorem z2E(s:Hz x y z)(h0:0<=h)(h1:h<y):k<nmA y z h p↔plA y z h k<=p:=by
 obtain⟨E,D,C,v,u⟩:=id s;have m:=z62 k (show z≠0 by lia);have l:=z68 k (show 0<z by lia);have j:=z62 p (show z≠0 by lia);have i:=z68 p (show 0<z by lia);have f:=z62 (k / z) (show y≠0 by lia);have d:=z68 (k / z) (show 0<y by lia);have q:=Y6 k y z;unfold nmA plA;conv=>lhs;lhs;rw[q]
 rw[QG m l j i,QG f d h0 h1];have g:∀A:Int,A*z<=p↔A<=p / z:=λA=>(z80 lC).symm;have c:∀A B:Int,A*y+k / z % y=B*y+h↔A=B/\k / z % y=h:=λA B=>by
  have o:=QG (a:=A) (b:=B) f d h0 h1;have n:=QG (a:=B) (b:=A) h0 h1 f d;constructor
  .intro e;have G:¬(A<B\/(A=B/\k / z % y<h)):=λw=>by have:=o.mpr w;lia
   have F:¬(B<A\/(B=A/\h<k / z % y)):=λw=>by have:=n.mpr w;lia
   lia
  .rintro⟨rfl,e⟩;rw[e]
 rw[c];split
 .rename_i e;rw[g];lia
 .split
  .rename_i t r;rw[g];lia
  .rename_i t r;have H:=QG (a:=k / z / y) (b:=p / z) m l j i;have:p=p / z*z+p % z:=by rw[z7K];exact (z6x p z).symm
   constructor
   .intro w;lia
   .intro w;lia
theorem VM(s:Hz x y z)(h0:0<=h)(h1:h<y)(n:p<q):nmA y z h p<nmA y z h q:=by
 obtain⟨m,l,k,j,i⟩:=id s;have f:=z62 p (show z≠0 by lia);have e:=z68 p (show 0<z by lia);have d:=z62 q (show z≠0 by lia);have c:=z68 q (show 0<z by lia);have r:p=p / z*z+p % z:=by rw[z7K];exact (z6x p z).symm
 have o:q=q / z*z+q % z:=by rw[z7K];exact (z6x q z).symm
 have g:=(QG (a:=p / z) (b:=q / z) f e d c).mp lC;unfold nmA;rw[QG f e d c];rcases g with w|⟨w,v⟩
 .have:=(QG h0 h1 h0 h1).mpr (.inl w);exact .inl this
 .rw[w];exact .inr ⟨rfl,v⟩
theorem W6(s:Hz x y z)(h0:0<=h)(h1:h<y):nmA y z h p / z / y=p / z/\nmA y z h p / z % y=h/\nmA y z h p % z=p % z:=by
 obtain⟨i,g,f,e,d⟩:=id s;have c:=z68 p (show 0<z by lia);have a:((p / z*y+h)*z+p % z) / z=p / z*y+h/\((p / z*y+h)*z+p % z) % z=p % z:=(z8i lC).mpr ⟨by rw[z7K z,za7],(z62 p (show z≠0 by lia)),c⟩;have b:(p / z*y+h) / y=p / z/\(p / z*y+h) % y=h:=(z8i lC).mpr ⟨by rw[z7K y,za7],h0,h1⟩;unfold nmA;rw[a.1,b.1,b.2,a.2];exact⟨rfl,rfl,rfl⟩
theorem UZ(s:Hz x y z)(h0:0<=h)(h1:h<y)(p0:0<=p)(p1:p<x*z):0<=nmA y z h p/\nmA y z h p<x*y*z:=by
 obtain⟨e,d,c,b,a⟩:=id s;have:=WW (z82 p0 (show 0<=z by lia)) (place_lt s p1) h0 h1 (z62 p (show z≠0 by lia)) (z68 p (show 0<z by lia));exact⟨this.1,this.2.1⟩
end
theorem z0p{v w:Str}{b c:Int}:eqL [.str v,.int b] [.str w,.int c]=some (decide (v=w)&&decide (b=c)):=by
 have h:∀i j:Int,(i==j)=decide (i=j):=λi j=>by
  by_cases z:i=j<;>simp[z]
 have a:(v==w)=decide (v=w):=by
  by_cases z:v=w<;>simp[z]
 simp[eqL,eqT,h,a]
theorem vd:(nmL y z h b k).length=k.toNat:=by unfold nmL;simp
theorem YB(h1:0<=k1)(h2:0<=k2):nmL y z h b (k1+k2)=nmL y z h b k1++nmL y z h (b+k1) k2:=by
 unfold nmL;have e:(k1+k2).toNat=k1.toNat+k2.toNat:=by lia
 rw[e,List.range_add,z5Y,z69];congr 1;refine z8s λj _=>?_;show nmA y z h (b+(k1.toNat+j:Nat))=nmA y z h (b+k1+j);congr 1;push_cast;lia
theorem QQ:nmL y z h b 0=[]:=rfl
theorem K4(hk:b<=e):jA b e 1=(z6V (e-b).toNat).map λ(j:Nat)=>T.int (b+j):=by
 unfold jA;by_cases c:b<e
 .rw[if_pos c];have:(e-b-1) / 1+1=e-b:=by rw[zbc];lia
  simp
 .rw[if_neg c];have:(e-b).toNat=(0:Int).toNat:=by lia
  rw[this];rfl
theorem vE(s:Hz x y z)(f:x*z<1000000000000000000000000000000000000000000000000000000000000)(b0:0<=b)(be:b<=e)(k2:e-b<=1000)(ex:e<=x*z)(h0:0<=h)(h1:h<y)(q:K (.m μ.length) (μ++[.l ((nmL y z h b (e-b)).map T.int)])):qI [shp x y z,ua h b e] μ K Z:=by
 refine⟨rfl,⟨⟨lC,lC⟩,⟨lC,lC⟩⟩,?_⟩;rw[K4 be];refine⟨by rw[z5H,zbw];unfold room;lia,?_⟩;refine zX (λ(j:Nat)=>T.int (b+j)) (λ(j:Nat)=>some (T.int (nmA y z h (b+j)))) (λj c d a=>?_) ?_ trivial
 .have c:=z7S.mp c;exact⟨_,rfl,(jq s lC lC h0 h1 a)⟩
 .rw[z6A];unfold nmL at q;rw[z69] at q;exact q
theorem jP:∀ns:List Int,intsOf (ns.map T.int)=some ns
 |[]=>rfl
 |n::r=>by show (intsOf (r.map T.int)).map (n::·)=_;rw[jP r];rfl
theorem Wv{α:Type}(A B C:List α)(n a:Nat)(b:A.length=a)(hc:(B=[]/\a<=n)\/n=a):(A++(B++C)).take n=A++C.take (n-a)/\(A++(B++C)).drop n=B++C.drop (n-a):=by
 subst b;rcases hc with⟨rfl,h⟩|rfl
 .rw[z99,List.take_append,List.drop_append,z6z h,za8 h];exact⟨rfl,rfl⟩
 .rw[Nat.sub_self,List.take_left,List.drop_left];simp
theorem z3l{A a B:MO}:(μ++[A]++[B]).set μ.length a=μ++[a]++[B]:=by
 rw[z8c,z74 _ _ (z5K _)];simp
theorem z4e{A B a:MO}:(μ++[A]++[B]).set (μ++[A]).length a=μ++[A]++[a]:=by
 rw[z74 _ _ (z5K _)];simp
theorem Ch.ge(a:Ch [] μ s)(b:Ch S s μ2)(h:∀j∈S,μ.length<=j):Ch [] μ μ2:=
 ⟨z66 a.len b.len,λj hj _=>(b.ot j (z5S hj a.len) λw=>absurd (h j w) lC).trans (a.ot j hj sC)⟩
theorem Q2(ho:μ[i]?=some (.obj 45 []))(c:0<=u)(hs:0<=w)(q:∀j bi,Ch [i] μ j->μ.length<=bi->j[i]?=some (hsO s u w kp none none none (.m bi) false)->j[bi]?=some (.l [])->K .n j) :
  q9 [.m i,s,.int u,.int w,kp,.n] μ K Z:=by
 have b:=(z5C.mp ho).1;refine⟨rfl,(va c (va hs ⟨_,_,ho,dC,?_⟩))⟩;refine⟨_,_,get_set ho,by show (1:Nat)<900;decide,?_⟩;refine⟨_,_,get_set (get_set ho),by show (2:Nat)<900;decide,?_⟩;refine⟨_,_,get_set (get_set (get_set ho)),by show (3:Nat)<900;decide,?_⟩;refine⟨_,_,get_set (get_set (get_set (get_set ho))),by show (4:Nat)<900;decide,?_⟩;refine⟨_,_,get_set (get_set (get_set (get_set (get_set ho)))),by show (5:Nat)<900;decide,?_⟩;refine⟨_,_,get_set (get_set (get_set (get_set (get_set (get_set ho))))),by show (6:Nat)<900;decide,?_⟩;have a:=get_set (y:=.obj 45 [(9,s),(14,.int u),(15,.int w),(16,kp),(6,.n),(17,.n),(18,.n)]) (get_set (y:=.obj 45 [(9,s),(14,.int u),(15,.int w),(16,kp),(6,.n),(17,.n)]) (get_set (y:=.obj 45 [(9,s),(14,.int u),(15,.int w),(16,kp),(6,.n)]) (get_set (y:=.obj 45 [(9,s),(14,.int u),(15,.int w),(16,kp)]) (get_set (y:=.obj 45 [(9,s),(14,.int u),(15,.int w)]) (get_set (y:=.obj 45 [(9,s),(14,.int u)]) (get_set (y:=.obj 45 [(9,s)]) ho))))));refine⟨_,_,z5 a,by show (7:Nat)<900;decide,?_⟩;refine⟨_,_,get_set (z5 a),by show (8:Nat)<900;decide,?_⟩;refine q _ _ ((((((((((Ch.set.trans Ch.set).trans Ch.set).trans Ch.set).trans Ch.set).trans Ch.set).trans Ch.set).trans (Ch.app.mono sC)).trans Ch.set).trans Ch.set)) ?_ (get_set (get_set (z5 a))) ?_
 .simp
 .rw[z5G (by simp;lia),z5G (by simp;lia)];exact z8
noncomputable def xP(y z h:Int)(n m:Option Int):Int:=match n with
 |some k=>plA y z h k
 |none=>(match m with|none=>0|some a=>(a+1)*z)
theorem Qr(s:Hz x y z)(ho:μ[i]?=some (hsO (shp x y z) u j kp (some a) m n bt false))(b:∀k,n=some k->0<=k/\k<x*y*z)(q:K (.int (xP y z a.1 n m)) μ):v3 [.m i] μ K Z:=by
 obtain⟨g,f,e,d,c⟩:=id s;refine⟨rfl,_,_,_,ho,rfl,?_⟩;cases n with
 |some k=>
  exact⟨_,_,_,ho,rfl,_,_,_,ho,rfl,_,rfl,_,_,_,ho,rfl,(yM s (b k rfl).1 (b k rfl).2 q)⟩
 |none=>
  refine⟨_,_,_,ho,rfl,?_⟩;cases m with
  |none=>exact q
  |some h=>
   refine⟨_,_,_,ho,rfl,_,_,_,ho,rfl,.inr ⟨by unfold big;lia,by unfold big;lia⟩,?_⟩;exact q
theorem WK(hm:∀v,m=some v->0<=v/\v<x)(a:∀v,l=some v->LsOk x y v)(q:K (.bl true) μ):Vd [shp x y z,.t [lsT l,opT m]] μ K Z:=by
 refine⟨rfl,_,rfl,?_⟩;have fin:zR (kI.drop 2) [some (shp x y z),some (.t [lsT l,opT m])] μ (En.fn K Z):=by
  refine⟨_,rfl,?_⟩;cases m with
  |none=>exact q
  |some v=>
   exact⟨_,rfl,(wg (hm v rfl).1 (hm v rfl).2 q)⟩
 cases l with
 |none=>exact fin
 |some v=>
  have ok:=a v rfl;exact⟨_,rfl,(vI ok.h0 ok.h1 ok.f0 ok.fu ok.ux fin)⟩
theorem Jx(ho:μ[i]?=some (.obj 45 []))(d:0<=s)(hs:0<=u)(hm:∀v,m=some v->0<=v/\v<x)(b:∀v,l=some v->LsOk x y v)(q:∀j bi,Ch [i] μ j->μ.length<=bi->j[i]?=some (hsO (shp x y z) s u kp l m none (.m bi) false)->j[bi]?=some (.l [])->K .n j) :
  q9 [.m i,shp x y z,.int s,.int u,kp,.t [lsT l,opT m]] μ K Z:=by
 have c:=(z5C.mp ho).1;refine⟨rfl,(va d (va hs (WK hm b ?_)))⟩;refine⟨_,_,ho,dC,_,_,get_set ho,by show (1:Nat)<900;decide,_,_,get_set (get_set ho),by show (2:Nat)<900;decide,_,_,get_set (get_set (get_set ho)),by show (3:Nat)<900;decide,_,rfl,_,_,get_set (get_set (get_set (get_set ho))),by show (4:Nat)<900;decide,_,rfl,_,_,get_set (get_set (get_set (get_set (get_set ho)))),by show (5:Nat)<900;decide,_,_,get_set (get_set (get_set (get_set (get_set (get_set ho))))),by show (6:Nat)<900;decide,?_⟩;have a:=get_set (y:=.obj 45 [(9,shp x y z),(14,.int s),(15,.int u),(16,kp),(6,lsT l),(17,opT m),(18,.n)]) (get_set (y:=.obj 45 [(9,shp x y z),(14,.int s),(15,.int u),(16,kp),(6,lsT l),(17,opT m)]) (get_set (y:=.obj 45 [(9,shp x y z),(14,.int s),(15,.int u),(16,kp),(6,lsT l)]) (get_set (y:=.obj 45 [(9,shp x y z),(14,.int s),(15,.int u),(16,kp)]) (get_set (y:=.obj 45 [(9,shp x y z),(14,.int s),(15,.int u)]) (get_set (y:=.obj 45 [(9,shp x y z),(14,.int s)]) (get_set (y:=.obj 45 [(9,shp x y z)]) ho))))));refine⟨_,_,z5 a,by show (7:Nat)<900;decide,_,_,get_set (z5 a),by show (8:Nat)<900;decide,?_⟩;refine q _ _ ((((((((((Ch.set.trans Ch.set).trans Ch.set).trans Ch.set).trans Ch.set).trans Ch.set).trans Ch.set).trans (Ch.app.mono sC)).trans Ch.set).trans Ch.set)) ?_ (get_set (get_set (z5 a))) ?_
 .simp
 .rw[z5G (by simp;lia),z5G (by simp;lia)];exact z8
noncomputable def jV(f u:Int):Option Int->Option Int
 |none=>none
 |some v=>if v<f then none else some (if u-1<v then u-1 else v)
theorem Wn(q:K (opT (jV a.2.1 a.2.2 o)) μ):VI [lsT (some a),opT o] μ K Z:=by
 refine⟨rfl,?_⟩;cases o with
 |none=>exact q
 |some v=>
  refine⟨_,rfl,?_⟩;have q:K (opT (if v<a.2.1 then none else some (if a.2.2-1<v then a.2.2-1 else v))) μ:=q;refine zC (λe=>?_) (λe=>?_)
  .rw[if_pos e] at q;exact q
  .rw[if_neg e] at q;exact⟨_,rfl,q⟩
noncomputable def yA(y z:Int)(n m:Option Int):Option Int:=match n with
 |none=>m
 |some k=>some (k / z / y)
theorem u6(s:Hz x y z)(ho:μ[i]?=some (hsO (shp x y z) u j kp l m n bt false))(a:∀k,n=some k->0<=k/\k<x*y*z)(q:K (opT (yA y z n m)) μ):wm [.m i] μ K Z:=by
 refine⟨rfl,_,_,_,ho,rfl,?_⟩;cases n with
 |none=>
  exact⟨_,_,_,ho,rfl,q⟩
 |some k=>
  exact⟨_,_,_,ho,rfl,_,_,_,ho,rfl,(vL s (a k rfl).1 (a k rfl).2 ⟨_,rfl,q⟩)⟩
noncomputable def mnI(a b:Int):Int:=if b<a then b else a
noncomputable def mbI (x b:Int)(m:Option Int)(a:Int):Int:=match m with
 |none=>mnI (a+b) (x-1)
 |some v=>if a<=v then v else mnI (a+b) (x-1)
theorem J7(ho:μ[i]?=some (hsO (shp x y z) u s kp l m n bt false))(q:K (.int (mbI x s m j)) μ):wj [.m i,.int j] μ K Z:=by
 refine⟨rfl,_,_,_,ho,rfl,?_⟩;have fin:∀a:Sl,a=[some (.m i),some (.int j)]->K (.int (mnI (j+s) (x-1))) μ->zR (qk.drop 1) a μ (En.fn K Z):=λa e q=>by
  subst e;exact⟨_,_,_,ho,rfl,_,_,_,ho,rfl,q⟩
 cases m with
 |none=>exact fin _ rfl q
 |some b=>
  refine⟨_,_,_,ho,rfl,?_⟩;have q:K (.int (if j<=b then b else mnI (j+s) (x-1))) μ:=q;refine zC (λe=>?_) (λe=>?_)
  .rw[if_pos e] at q;exact⟨_,_,_,ho,rfl,q⟩
  .rw[if_neg e] at q;exact fin _ rfl q
noncomputable def zd (y z:Int)(a:Ls)(n m:Option Int)(r:Int):Int:=if xP y z a.1 n m<(if a.2.1<r then r else a.2.1)*z then (if a.2.1<r then r else a.2.1)*z else xP y z a.1 n m
theorem Qj(s:Hz x y z)(h:μ[i]?=some (hsO (shp x y z) j u kp (some a) m n bt false))(g:∀k,n=some k->0<=k/\k<x*y*z)(k1:1<=k)(k2:k<=z)
  (f:a.2.2*z<zd y z a n m r+k->Z 18 [] μ)
  (d:zd y z a n m r+k<=a.2.2*z->0<byP z r j (zd y z a n m r+k)->(byP z r j (zd y z a n m r+k)).natAbs.log2<1920/\Z 21 [(29,.int (byP z r j (zd y z a n m r+k)))] μ)
  (c:zd y z a n m r+k<=a.2.2*z->byP z r j (zd y z a n m r+k)<=0->K (ua a.1 (zd y z a n m r) (zd y z a n m r+k)) μ) :
  wK [.m i,.int r,.int k] μ K Z:=by
 obtain⟨t,q,p,o,l⟩:=id s;refine⟨rfl,(z_ ?_)⟩;rw[decide_eq_true k1];refine⟨_,_,_,h,rfl,(zA lC ?_)⟩;refine zi ⟨_,h,rfl,_,_,_,h,rfl,_,_,_,h,rfl,_,rfl,_,_,_,h,rfl,.inr ⟨by unfold big;lia,by unfold big;lia⟩,_,h,?_⟩;refine Qr s h g ⟨_,_,_,h,rfl,_,rfl,_,_,_,h,rfl,.inr ⟨by unfold big;lia,by unfold big;lia⟩,?_⟩;refine zC (λe=>?_) (λe=>?_)
 .exact⟨dC,f e⟩
 .have e:zd y z a n m r+k<=a.2.2*z:=by
   have:¬a.2.2*z<zd y z a n m r+k:=e;lia
  refine⟨_,_,_,h,rfl,⟨lC,lC⟩,_,_,_,h,rfl,?_⟩;refine zC (λb=>?_) (λb=>?_)
  .exact d e b
  .refine⟨_,_,_,h,rfl,_,rfl,rfl,rfl,_,_,rfl,dC,_,_,rfl,by show (1:Nat)<900;decide,_,_,rfl,by show (2:Nat)<900;decide,rfl,_,rfl,rfl,?_⟩;refine c e ?_;have b:¬0<byP z r j (zd y z a n m r+k):=b;lia
theorem vn(s:Hz x y z)(ok:LsOk x y a):0<=zd y z a n m r:=by
 obtain⟨g,f,d,c,b⟩:=id s;have h:=ok.f0;have w:0<=(if a.2.1<r then r else a.2.1)*z:=z8P (by split<;>lia) lC;unfold zd;by_cases e:xP y z a.1 n m<(if a.2.1<r then r else a.2.1)*z
 .rw[if_pos e];exact w
 .rw[if_neg e];exact z7I w (Int.not_lt.mp e)
noncomputable abbrev ntW(l:Option Ls)(m:Option Int):T:=.t [lsT l,opT m]
noncomputable abbrev zT(ck hs kt:T):MO:=.obj 46 [(21,ck),(11,hs),(22,kt)]
noncomputable abbrev kpW(a:Nat):T:=Yw 1 (.m a)
theorem z0W(h:μ[j]?=some (zT ck hs kt))(q:K .n (μ.set j (zT ck hs t))):yU [.m j,t] μ K Z:=by
 exact⟨rfl,_,_,h,by show (3:Nat)<900;decide,q⟩
theorem z4f(ho:μ[i]?=some (hsO u B z (kpW s) l m n bt false))(hc:μ[s]?=some (zT ck hs kt))
  (g:l'=l->m'=m->K .n μ)
  (f:∀j,Ch [i,s] μ j->j.length=μ.length->j[i]?=some (hsO u B z (kpW s) l' m' n bt false)->j[s]?=some (zT ck hs (ntW l' m'))->K .n j) :
  qe [.m i,lsT l',opT m'] μ K Z:=by
 have a:s≠i:=λw=>by rw[w,ho] at hc;cases hc
 refine⟨rfl,_,ho,(V5 ho ⟨Qk,_,VG,(zY (λe=>?_) (λe=>?_))⟩)⟩
 .simp only[z5P,decide_eq_true_eq] at e;exact g e.1 e.2
 .refine⟨_,_,ho,by show (9:Nat)<900;decide,?_⟩;have d:=get_set (y:=hsO u B z (kpW s) l m n bt true) ho;have c:(μ.set i (hsO u B z (kpW s) l m n bt true))[s]?=some (zT ck hs kt):=by rw[z5G (z6f a)];exact hc
  refine⟨_,_,_,d,rfl,.inl ⟨_,rfl⟩,.inl ⟨_,rfl,_,c,(z0W c ?_)⟩⟩;have b:((μ.set i (hsO u B z (kpW s) l m n bt true)).set s (zT ck hs (ntW l' m')))[i]?=some (hsO u B z (kpW s) l m n bt true):=by rw[z5G a];exact d
  refine⟨_,_,b,by show (9:Nat)<900;decide,_,_,get_set b,by show (9:Nat)<900;decide,_,_,get_set (get_set b),by show (9:Nat)<900;decide,?_⟩;refine f _ (((((Ch.set.mono sC).trans (Ch.set.mono sC)).trans (Ch.set.mono sC)).trans (Ch.set.mono sC)).trans (Ch.set.mono sC)) sC (get_set (get_set (get_set b))) ?_;rw[z5G (z6f a),z5G (z6f a),z5G (z6f a)];exact (get_set (y:=zT ck hs (ntW l' m')) c)
theorem z1o{v:Int}(h0:0<v)(h1:v<100000000000000000000000000000000000000000000000000):v.natAbs.log2<1920:=by
 have a:v.natAbs<2 ^ 170:=by
  omega
 rw[zdc (by omega)];exact z5S a (Nat.pow_le_pow_right dC (by omega))
noncomputable abbrev mkW(x y z b:Int)(a:Ls)(n m:Option Int)(r k:Int):Int:=mbI x b m ((zd y z a n m r+k-1) / z)
noncomputable abbrev nwW(y z:Int)(a:Ls)(n m:Option Int)(r k:Int):Int:=nmA y z a.1 (zd y z a n m r+k-1)
theorem U3(ho:μ[i]?=some (hsO (shp x y z) u s (kpW j) none m n bt false))(k1:1<=k)(k2:k<=z)(ql:Z 18 [] μ):zJ [.m i,.int r,.int k] μ K Z:=by
 refine⟨rfl,_,ho,(zZ ho ⟨_,ho,rfl,?_⟩)⟩;refine z_ ?_;rw[decide_eq_true k1];refine⟨_,_,_,ho,rfl,(zA lC ?_)⟩;exact zi ⟨_,ho,rfl,_,_,_,ho,rfl,dC,ql⟩
noncomputable def Ya (x y:Int)(l:Option Ls):Prop:=∀a,l=some a->LsOk x y a
noncomputable abbrev Tn:=Int×Int×Bool
noncomputable def w5(p:Tn):T:=.t [.int p.1,.int p.2.1,.bl p.2.2]
noncomputable def Y4 (ts:List Tn):Prop:=ts.Pairwise (λa b=>a.1<b.1)
theorem V8{ts:List Tn}{k:Int}(h0:0<=k)(h1:k<ts.length):wH (ts.map w5) k=some (w5 (ts[k.toNat]'(by lia))):=by
 rw[yq h0 (by simpa using h1),z5Z,z67 lC];rfl
noncomputable def kY(start:Int)(ts:List Tn)(a:Int):Int:=match ts.reverse.find? (λp=>decide (p.1<=a)) with
 |some p=>p.2.1+(if p.2.2 then a-p.1 else 0)
 |none=>start+a
theorem Ja{α:Type}{f:α->Bool}:∀{l:List α} {n:Nat} {p:α},l[n]?=some p->f p=true->(∀q∈l.take n,f q=false)->l.find? f=some p
 |[],_,_,h,_,_=>by simp at h
 |x::r,0,p,h,b,_=>by
  (replace h:=zm h;subst h);simp[ b]
 |x::r,n+1,p,h,b,c=>by
  have d:=c x sC;have:=Ja (n:=n) h b λq a=>c q (by simp[a]);simp[ d,this]
noncomputable abbrev clk(start:Int)(ts:List Tn):MO:=.obj 41 [(3,.int start),(4,.l (ts.map w5))]
theorem km{start:Int}(h:μ[i]?=some (clk start ts))(q:K (.int (kY start ts j)) μ):ja [.m i,.int j] μ K Z:=by
 refine⟨rfl,(zi ⟨_,_,_,h,rfl,?_⟩)⟩;show forM _ _ _ (ts.map w5).reverse _ _ _;rw[<-List.map_reverse];refine zH (λn r d=>d=μ/\(∀p∈ts.reverse.take n,decide (p.1<=j)=false)/\∃o,r=[some (.m i),some (.int j),o]) ⟨rfl,sC,_,rfl⟩ ?_ ?_
 .rintro n x r d f ⟨rfl,m,o,rfl⟩ N t;rw[z5Z] at f;cases k:ts.reverse[n]? with
  |none=>rw[k] at f;exact z7 f
  |some p=>
   rw[k] at f;(injection f with f;subst f);refine⟨_,rfl,_,rfl,(zC (λg=>?_) (λg=>?_))⟩
   .have e:kY start ts j=p.2.1+(if p.2.2 then j-p.1 else 0):=by
     unfold kY;rw[Ja k (decide_eq_true g) m]
    rw[e] at q;refine⟨_,rfl,_,rfl,?_⟩;obtain⟨a,b,c⟩:=p;cases c with
    |true=>exact⟨_,rfl,q⟩
    |false=>exact q
   .refine t _ _ ⟨rfl,λs l=>?_,_,rfl⟩;rw[z6w,k] at l;rcases z5L.mp l with z|z
    .exact m s z
    .have z:s=p:=by simpa using z
     rw[z];exact decide_eq_false g
 .rintro r d ⟨rfl,m,o,rfl⟩;have e:kY start ts j=start+j:=by
   unfold kY;have:ts.reverse.find? (λp=>decide (p.1<=j))=none:=by
    rw[List.find?_eq_none];intro p k;have:=m p (by rw[z5H,z9V];exact k);simpa using this
   rw[this]
  rw[e] at q;exact⟨_,_,_,h,rfl,q⟩
theorem WN(q:K (.bl true) μ):J9 [w5 p] μ K Z:=by
 refine⟨rfl,_,rfl,(zi ⟨_,rfl,(zi ?_)⟩)⟩;exact⟨_,rfl,q⟩
theorem kR:∀(n:Nat),bools (z7U n (T.bl true))=some (z7U n true)
 |0=>rfl
 |n+1=>by simp[List.replicate_succ,bools,kR n]
theorem kq{α:Type}(xs:List α):∃bs,bools (xs.map λ_=>T.bl true)=some bs/\bs.all id=true:=by
 rw[List.map_const'];exact⟨_,kR _,sC⟩
theorem Zj{j:Nat}{ts:List Tn}(hj:μ[j]?=some (.l (ts.map w5)))(h:Y4 ts)(m:ts.length<=40)(q:K (.bl true) μ):uX [.m j] μ K Z:=by
 refine⟨rfl,_,hj,_,hj,by rw[z5H];unfold room;lia,?_⟩;refine j0 (λ_=>.bl true) (λx e k b=>?_) ?_ hj
 .obtain⟨p,_,rfl⟩:=z5O.mp e;exact⟨_,rfl,WN b⟩
 obtain⟨bs,d,c⟩:=kq (ts.map w5);refine⟨bs,d,(z1_ (by rw[c];rfl) ?_)⟩;refine⟨_,hj,⟨dC,by rw[z5H];lia⟩,?_⟩;have a:(jA 1 ((ts.map w5).length:Nat) 1).length<=40:=by
  unfold jA;rw[z5H,zbw,z5H];split<;>lia
 refine⟨z66 a dC,(j0 (λ_=>.bl true) (λx e k b=>?_) ?_)⟩
 .unfold jA at e;obtain⟨n,f,rfl⟩:=z5O.mp e;have f:=z7S.mp f;rw[z5H] at f;have g:n+1<ts.length:=by split at f<;>lia
  have d:(1:Int)+n*1-1=n:=by lia
  have c:1+n*1=((n+1:Nat):Int):=by lia
  refine⟨_,rfl,?_⟩;have l:wH (ts.map w5) (1+n*1-1)=some (w5 ts[n]):=by
   rw[d,V8 lC lC];simp
  have i:wH (ts.map w5) (1+n*1)=some (w5 ts[n+1]):=by
   rw[c,V8 lC lC];simp
  refine⟨_,_,hj,l,_,rfl,_,_,hj,i,_,rfl,?_⟩;have:=z6h.mp h n (n+1) lC g (z77 n);have b:k (some (.bl (decide (ts[n].1<ts[n+1].1)))) μ:=decide_eq_true this▸b;exact b
 obtain⟨bs,d,c⟩:=kq (jA 1 ((ts.map w5).length:Nat) 1);refine⟨bs,d,?_⟩;have q:K (.bl (bs.all id)) μ:=c▸q;exact q
theorem xR:∀{μ:List MO},(μ++[x]).set μ.length y=μ++[y]
 |[]=>rfl
 |m::μ=>congrArg (m::·) (xR)
theorem uk{start:Int}{ts:List Tn}(hj:μ[j]?=some (.l (ts.map w5)))(a:Y4 ts)(b:ts.length<=40)(q:K .n (μ++[clk start ts])):yv [.m μ.length,.int start,.m j] (μ++[.obj 41 []]) K Z:=by
 refine⟨rfl,(zi (Zj (z5 hj) a b ⟨_,_,z8,dC,?_⟩))⟩;rw[xR];refine⟨_,z5 hj,_,_,z8,(by (show 1<900);decide),?_⟩;rw[xR];exact q
section
variable {μ:Mem}
structure Hr where
 ho:Str
 s:Nat
 c:Nat
 h:Nat
 st:Int
 ts:List Tn
 l:Option Ls
 m:Option Int
 n:Option Int
 bt:T
 kt:T
noncomputable abbrev Hr.seat(u:Hr):MO:=zT (.m u.c) (.m u.h) u.kt
noncomputable abbrev Hr.house(x y z b a:Int)(u:Hr):MO:=hsO (shp x y z) b a (kpW u.s) u.l u.m u.n u.bt false
noncomputable abbrev k6(x y z c a:Int)(b g d:Nat)(now:T):MO:=.obj 47 [(9,shp x y z),(14,.int c),(15,.int a),(23,.m b),(24,.m g),(25,now),(26,.m d)]
noncomputable abbrev vC(u:Hr):Key×T:=(.inr u.ho,.m u.s)
structure Wld(μ:Mem)(w cm gr g d:Nat)(x y z ah sd:Int)(now:T)(us:List Hr)(rs:List T)(ps:List Gp):Prop where
 wo:μ[w]?=some (k6 x y z ah sd cm g d now)
 bk:Bk μ cm gr (shp x y z) ps
 gv:μ[g]?=some (.l rs)
 dc:μ[d]?=some (.d (us.map vC))
 se:∀u∈us,μ[u.s]?=some u.seat
 cl:∀u∈us,μ[u.c]?=some (clk u.st u.ts)
 hs:∀u∈us,μ[u.h]?=some (u.house x y z ah sd)
 n1:(us.map (·.s)).Nodup
 n2:(us.map (·.h)).Nodup
 gg:g≠gr
theorem zv{i j:Nat}{a b:MO}(h1:μ[i]?=some a)(h2:μ[j]?=some b)(n:a≠b):i≠j:=λe=>by
 subst e;rw[h1] at h2;exact n (z5J h2)
theorem Wld.ch0(W:Wld μ w E D g d x y z G B now s C ps)(ch:Ch [] μ j):Wld j w E D g d x y z G B now s C ps:=
 ⟨ch.get W.wo sC,W.bk.ch ch sC sC sC,ch.get W.gv sC,ch.get W.dc sC,λu a=>ch.get (W.se u a) sC,λu a=>ch.get (W.cl u a) sC,λu a=>ch.get (W.hs u a) sC,W.n1,W.n2,W.gg⟩
end
theorem ixT{α:Type}{xs:List α}{j:Nat}{v:α}(h:xs[j]?=some v):wH xs (j:Int)=some v:=by
 obtain⟨a,e⟩:=z5C.mp h;unfold wH Jt;rw[if_pos lC,if_pos lC];simpa using h
theorem YM{a b:T}{r:List T}:wH (a::b::r) 1=some b:=ixT rfl
theorem JY{a b c:T}{r:List T}:wH (a::b::c::r) 2=some c:=ixT rfl
theorem Uw(q:K (.bl true) μ):jB [.t [.str "lease",a,b,c,e]] μ K Z:=by
 exact⟨rfl,_,rfl,_,rfl,q⟩
theorem Kk(q:K (.bl true) μ):kr [.t [.str "lease",.int t,b,c,e]] μ K Z:=by
 exact⟨rfl,(Uw ⟨_,rfl,(zi q)⟩)⟩
theorem ZH:∀{a:List Hr} {i:Nat} {u:Hr},a[i]?=some u->(a.map (·.ho)).Nodup->ze (.inr u.ho) (a.map vC)=some (.m u.s)
 |[],_,_,h,_=>z7 h
 |v::r,0,u,h,_=>by
  (injection h with h;subst h);show ze _ (vC v::_)=_;unfold ze;rw[if_pos rfl]
 |v::r,i+1,u,h,n=>by
  rw[z6c,z7g] at n;show ze _ (vC v::r.map vC)=_;unfold ze;rw[if_neg (λe=>n.1 (z5O.mpr ⟨u,z5E h,(z7v e).symm⟩))];exact ZH h n.2
noncomputable def xa(now:T)(t:Int):Prop:=now=.n\/∃s:Int,now=.int s/\s<=t
theorem ZI{i:Nat}{u:Hr}{a:T}{r:List T}(W:Wld μ w E D g d x y z G B now j C ps)(hi:j[i]?=some u)(nd:(j.map (·.ho)).Nodup)(c:xa now t)(h1:u.ho.length<=room)(h2:qh u.ho=true)(er:a=.t (.str ho::.int t::.str u.ho::r))
  (b:∀(K:T->Mem->Prop) (Z:Xp),K (.bl true) μ->kr [a] μ K Z) (q:K .n μ):wu [.m w,a] μ K Z:=by
 refine⟨rfl,(b _ _ ?_)⟩;subst er;refine⟨_,_,_,W.wo,rfl,?_⟩;rcases c with rfl|⟨s,rfl,hs⟩
 .refine⟨_,JY,(qK h1 ?_)⟩;rw[h2];refine⟨_,JY,_,_,_,W.wo,rfl,_,W.dc,?_⟩;rw[ZH hi nd];exact q
 .refine⟨_,YM,_,_,_,W.wo,rfl,(zA lC ?_)⟩;refine⟨_,JY,(qK h1 ?_)⟩;rw[h2];refine⟨_,JY,_,_,_,W.wo,rfl,_,W.dc,?_⟩;rw[ZH hi nd];exact q
noncomputable abbrev Hr.rd(u:Hr)(t:Int):Int:=kY u.st u.ts t
noncomputable abbrev Q4(a:Str)(t:Int)(ho:Str)(k:Int):T:=.t [.str a,.int t,.str ho,.int k]
noncomputable abbrev lsR(a:Str)(t:Int)(ho:Str)(hs:T)(n:Int):T:=.t [.str a,.int t,.str ho,hs,.int n]
theorem Wld.now'(W:Wld μ w B G g d x y z C s now D E ps):Wld (μ.set w (k6 x y z C s B g d nw)) w B G g d x y z C s nw D E ps:=by
 have out:∀{j:Nat} {a:MO},μ[j]?=some a->a≠k6 x y z C s B g d now->(μ.set w (k6 x y z C s B g d nw))[j]?=some a:=λ{j a} e n=>by
  rw[z5G (z6f (zv e W.wo n))];exact e
 have b:∀{j:Nat} {a:MO},μ[j]?=some a->a≠k6 x y z C s B g d now->j∉[w]:=λ{j a} e n=>by simpa using zv e W.wo n
 exact⟨get_set W.wo,W.bk.ch Ch.set (b W.bk.com (λe=>by cases e)) (b W.bk.lst (λe=>by injection e)) (λp f=>b (W.bk.at_ p f) (λe=>by cases e)),out W.gv (λe=>by injection e),out W.dc (λe=>by injection e),λu c=>out (W.se u c) (λe=>by cases e),λu c=>out (W.cl u c) (λe=>by cases e),λu c=>out (W.hs u c) (λe=>by cases e),W.n1,W.n2,W.gg⟩
theorem Wld.gave(W:Wld μ w E D g d x y z G C now B H ps):Wld (μ.set g (.l s)) w E D g d x y z G C now B s ps:=by
 have out:∀{j:Nat} {a:MO},μ[j]?=some a->(∀l,a≠.l l)->(μ.set g (.l s))[j]?=some a:=λ{j a} e n=>by
  rw[z5G (z6f (zv e W.gv (n _)))];exact e
 have b:∀{j:Nat} {a:MO},μ[j]?=some a->(∀l,a≠.l l)->j∉[g]:=λ{j a} e n=>by simpa using zv e W.gv (n _)
 exact⟨out W.wo (λ_ e=>by injection e),W.bk.ch Ch.set (b W.bk.com (λ_ e=>by injection e)) (by simpa using z6f W.gg) (λp f=>b (W.bk.at_ p f) (λ_ e=>by injection e)),get_set W.gv,out W.dc (λ_ e=>by injection e),λu c=>out (W.se u c) (λ_ e=>by injection e),λu c=>out (W.cl u c) (λ_ e=>by injection e),λu c=>out (W.hs u c) (λ_ e=>by injection e),W.n1,W.n2,W.gg⟩
noncomputable abbrev Yz(t:Int)(ho:Str)(nm:Int):T:=.t [.int t,.str ho,.int nm]
theorem Ch.geS(a:Ch S μ s)(b:Ch u s μ2)(h:∀j∈u,μ.length<=j):Ch S μ μ2:=
 ⟨z66 a.len b.len,λj hj hs=>(b.ot j (z5S hj a.len) λw=>absurd (h j w) lC).trans (a.ot j hj hs)⟩
namespace X
section
variable {y z:Int}
noncomputable abbrev Bt:=Int×Int×Int
noncomputable abbrev btT(p:Bt):T:=ua p.1 p.2.1 p.2.2
noncomputable def nmB (y z:Int)(bs:List Bt):List Int:=bs.flatMap λp=>nmL y z p.1 p.2.1 (p.2.2-p.2.1)
structure Bo(x y z:Int)(p:Bt):Prop where
 h0:0<=p.1
 h1:p.1<y
 b0:0<=p.2.1
 be:p.2.1<=p.2.2
 ex:p.2.2<=x*z
 sz:p.2.2-p.2.1<=1000
noncomputable def BOk (x y z:Int)(bs:List Bt):Prop:=∀p∈bs,Bo x y z p
theorem VC:∀{bs:List Bt},(∀p∈bs,p.2.1<=p.2.2)->((nmB y z bs).length:Int)=(bs.map λp=>p.2.2-p.2.1).sum
 |[],_=>rfl
 |p::r,a=>by
  have b:=VC λq c=>a q (z5T _ c);have:=a p z60;unfold nmB at b ⊢;rw[z8d,z6k,z6c,List.sum_cons,vd];push_cast;omega
theorem size_of_sp{bs:List Bt}(hi:μ[i]?=some (.l (bs.map btT)))(e:bs.length<=1000)(b:∀p∈bs,p.2.1<=p.2.2)(q:K (.int ((nmB y z bs).length:Int)) μ):ko [.m i] μ K Z:=by
 refine⟨rfl,_,hi,by rw[z5H];unfold room;omega,?_⟩;refine zX btT (λp=>some (T.int (p.2.2-p.2.1))) (λp d c a=>⟨_,rfl,a⟩) ?_ hi;rw[z6A];rw[VC b] at q;refine⟨bs.map λp=>p.2.2-p.2.1,?_,q⟩;have:=jP (bs.map λp=>p.2.2-p.2.1);rw[z69] at this;exact this
structure Pt where
 r:Int
 fs:List Bt
 os:List Bt
noncomputable def Pt.step(s:Pt)(p:Bt):Pt:=
 let m:=if p.2.2<p.2.1+s.r then p.2.2 else p.2.1+s.r
 ⟨s.r-(m-p.2.1),s.fs++[(p.1,p.2.1,m)],s.os++[(p.1,m,p.2.2)]⟩
structure PtOk(x y z:Int)(s0 s:Pt)(bs:List Bt):Prop where
 r0:0<=s.r
 fo:BOk x y z s0.fs->BOk x y z s.fs
 oo:BOk x y z s0.os->BOk x y z s.os
 fn:nmB y z s.fs=nmB y z s0.fs++(nmB y z bs).take s0.r.toNat
 on:nmB y z s.os=nmB y z s0.os++(nmB y z bs).drop s0.r.toNat
 fl:s.fs.length=s0.fs.length+bs.length
 ol:s.os.length=s0.os.length+bs.length
theorem BOk.snoc{bs:List Bt}{p:Bt}(B:BOk x y z bs)(h:Bo x y z p):BOk x y z (bs++[p]):=λq a=>(z5L.mp a).elim (B q) λa=>z5F.mp a▸h
theorem nmB_snoc{bs:List Bt}{p:Bt}:nmB y z (bs++[p])=nmB y z bs++nmL y z p.1 p.2.1 (p.2.2-p.2.1):=by
 unfold nmB;simp
theorem z0_{b e r m:Int}(be:b<=e)(r0:0<=r)(hm:(if e<b+r then e else b+r)=m):b<=m/\m<=e/\0<=r-(m-b)/\r.toNat-(m-b).toNat=(r-(m-b)).toNat/\(e-m=0/\(m-b).toNat<=r.toNat\/r.toNat=(m-b).toNat):=by
 split at hm<;>lia
theorem nmL_two{h b e m:Int}(h1:b<=m)(h2:m<=e):nmL y z h b (e-b)=nmL y z h b (m-b)++nmL y z h m (e-m):=by
 have:=YB (y:=y) (z:=z) (h:=h) (b:=b) (k1:=m-b) (k2:=e-m) lC lC;rw[show m-b+(e-m)=e-b by lia,show b+(m-b)=m by lia] at this;exact this
theorem KI{bs:List Bt}{p:Bt}:nmB y z (p::bs)=nmL y z p.1 p.2.1 (p.2.2-p.2.1)++nmB y z bs:=z8d ..
theorem X2:∀{bs:List Bt} {s0:Pt},BOk x y z bs->0<=s0.r->PtOk x y z s0 (bs.foldl Pt.step s0) bs
 |[],s0,_,e=>⟨e,id,id,by simp[nmB],by simp[nmB],rfl,rfl⟩
 |p::bs,s0,B,e=>by
  have b:=B p z60;obtain⟨a,f⟩:∃a,(if p.2.2<p.2.1+s0.r then p.2.2 else p.2.1+s0.r)=a:=⟨_,rfl⟩;obtain⟨d,c,k,j,i⟩:=z0_ b.be e f;have w:s0.step p=⟨s0.r-(a-p.2.1),s0.fs++[(p.1,p.2.1,a)],s0.os++[(p.1,a,p.2.2)]⟩:=by rw[<-f];rfl
  obtain⟨u,t,s,o,n,m,l⟩:=X2 (s0:=⟨s0.r-(a-p.2.1),s0.fs++[(p.1,p.2.1,a)],s0.os++[(p.1,a,p.2.2)]⟩) (λq v=>B q (z5T _ v)) k;have tk:=Wv (nmL y z p.1 p.2.1 (a-p.2.1)) (nmL y z p.1 a (p.2.2-a)) (nmB y z bs) s0.r.toNat (a-p.2.1).toNat vd (i.imp (λh=>⟨by rw[h.1];exact QQ,h.2⟩) id);rw[j] at tk;rw[List.foldl_cons,w];have g:nmB y z (p::bs)=nmL y z p.1 p.2.1 (a-p.2.1)++(nmL y z p.1 a (p.2.2-a)++nmB y z bs):=by rw[KI,nmL_two d c,z8c]
  exact⟨u,λF=>t (F.snoc ⟨b.h0,b.h1,b.b0,d,z7I c b.ex,z7I (Int.sub_le_sub_right c _) b.sz⟩),λF=>s (F.snoc ⟨b.h0,b.h1,z7I b.b0 d,c,b.ex,z7I (Int.sub_le_sub_left d _) b.sz⟩),
   by rw[o,nmB_snoc,g,tk.1,z8c],by rw[n,nmB_snoc,g,tk.2,z8c],
   m.trans (by rw[z6k,zcO,zd5 _ bs.length];rfl),l.trans (by rw[z6k,zcO,zd5 _ bs.length];rfl)⟩
local macro_rules | `(tactic| walk_at "bat") => `(tactic| (refine ⟨rfl, ?_⟩; (try unfold vg); refine ⟨rfl, ?_⟩; refine ⟨_, _, rfl, by show (0 : Nat) < 900; decide, ?_⟩; refine ⟨_, _, rfl, by show (1 : Nat) < 900; decide, ?_⟩; refine ⟨_, _, rfl, by show (2 : Nat) < 900; decide, ?_⟩; refine ⟨rfl, _, rfl, rfl, ?_⟩))
theorem X7:∀{bs:List Bt},(bs.filterMap λp=>if p.2.1<p.2.2 then some (btT p) else none)=(bs.filter λp=>decide (p.2.1<p.2.2)).map btT
 |[]=>rfl
 |p::r=>by
  have a:=X7 (bs:=r);by_cases c:p.2.1<p.2.2
  .rw[z7P (by rw[if_pos c]),z8I (by simpa using c),z6c,a]
  .rw[z7O (by rw[if_neg c]),z8J (by simpa using c),a]
theorem KG:∀{bs:List Bt},(∀p∈bs,p.2.1<=p.2.2)->nmB y z (bs.filter λp=>decide (p.2.1<p.2.2))=nmB y z bs
 |[],_=>rfl
 |p::r,b=>by
  have a:=KG λq d=>b q (z5T _ d);have e:=b p z60;by_cases c:p.2.1<p.2.2
  .rw[z8I (by simpa using c)];unfold nmB at a ⊢;rw[z8d,z8d,a]
  .rw[z8J (by simpa using c),a];unfold nmB;rw[z8d,show p.2.2-p.2.1=0 by omega,QQ,z99]
theorem BOk.fil{bs:List Bt}(B:BOk x y z bs):BOk x y z (bs.filter λp=>decide (p.2.1<p.2.2)):=λp a=>B p (z6o.mp a).1
theorem BOk.nil:BOk x y z []:=nofun
theorem JT{bs:List Bt}(hi:μ[i]?=some (.l (bs.map btT)))(G:bs.length<=1000)(k0:0<=k)(B:BOk x y z bs)
  (q:∀fs os s w u,BOk x y z fs->BOk x y z os->nmB y z fs=(nmB y z bs).take k.toNat->nmB y z os=(nmB y z bs).drop k.toNat->fs.length<=bs.length->os.length<=bs.length->Ch [] μ s->μ.length<=w->μ.length<=u->w≠u->
   s[w]?=some (.l (fs.map btT))->s[u]?=some (.l (os.map btT))->K (.t [.m w,.m u]) s):parted [.m i,.int k] μ K Z:=by
 refine⟨rfl,_,z5 (z5 hi),(zH (λj g s=>∃l h,g=[some (.m i),some (.int k),some (.m μ.length),some (.m (μ++[MO.l []]).length),some (.int ((bs.take j).foldl Pt.step ⟨k,[],[]⟩).r),l,h]/\s=μ++[.l (((bs.take j).foldl Pt.step ⟨k,[],[]⟩).fs.map btT)]++[.l (((bs.take j).foldl Pt.step ⟨k,[],[]⟩).os.map btT)]) ⟨none,none,rfl,rfl⟩ ?_ ?_ ?_)⟩
 .rintro j t g s b ⟨l,h,rfl,rfl⟩ N E;rw[z5Z] at b;cases d:bs[j]? with
  |none=>rw[d] at b;exact z7 b
  |some p=>
   rw[d] at b;(injection b with b;subst b);have et:bs.take (j+1)=bs.take j++[p]:=by rw[z6w,d];rfl
   have B1:BOk x y z (bs.take j):=λp m=>B p (z6D m);have P:=X2 (s0:=⟨k,[],[]⟩) B1 k0;generalize D:(bs.take j).foldl Pt.step ⟨k,[],[]⟩=S at P ⊢;have o:=P.fl;have n:=P.ol;simp only[z7u,zbp,z6B] at o n;have e:(bs.take (j+1)).foldl Pt.step ⟨k,[],[]⟩=S.step p:=by rw[et,zbx,D];rfl
   refine⟨_,rfl,⟨_,z5 z8⟩,?_⟩;walk_at "bat";refine⟨_,z5 z8,by rw[z5H];unfold room;omega,?_⟩;rw[z3l];have f:(μ++[MO.l (S.fs.map btT++[ua p.1 p.2.1 (if p.2.2<p.2.1+S.r then p.2.2 else p.2.1+S.r)])]++[MO.l (S.os.map btT)])[(μ++[MO.l []]).length]?=some (MO.l (S.os.map btT)):=by
    have:(μ++[MO.l []]).length=(μ++[MO.l (S.fs.map btT++[ua p.1 p.2.1 (if p.2.2<p.2.1+S.r then p.2.2 else p.2.1+S.r)])]).length:=by simp
    rw[this];exact z8
   refine⟨⟨_,f⟩,?_⟩;walk_at "bat";refine⟨_,f,by rw[z5H];unfold room;omega,?_⟩;refine E _ _ ⟨some (btT p),some (.int (if p.2.2<p.2.1+S.r then p.2.2 else p.2.1+S.r)),?_,?_⟩
   .rw[e];rfl
   .show (μ++[MO.l (S.fs.map btT++[ua p.1 p.2.1 (if p.2.2<p.2.1+S.r then p.2.2 else p.2.1+S.r)])]++[MO.l (S.os.map btT)]).set (μ++[MO.l []]).length (MO.l (S.os.map btT++[ua p.1 (if p.2.2<p.2.1+S.r then p.2.2 else p.2.1+S.r) p.2.2]))=_;have:(μ++[MO.l []]).length=(μ++[MO.l (S.fs.map btT++[ua p.1 p.2.1 (if p.2.2<p.2.1+S.r then p.2.2 else p.2.1+S.r)])]).length:=by simp
    rw[this,z4e,e];show _=μ++[MO.l ((S.fs++[(p.1,p.2.1,if p.2.2<p.2.1+S.r then p.2.2 else p.2.1+S.r)]).map btT)]++[MO.l ((S.os++[(p.1,if p.2.2<p.2.1+S.r then p.2.2 else p.2.1+S.r,p.2.2)]).map btT)];rw[z5Y,z5Y];rfl
 .rintro g s ⟨l,h,rfl,rfl⟩;rw[z5H,z6z (z5K _)];have P:=X2 (s0:=⟨k,[],[]⟩) B k0;generalize bs.foldl Pt.step ⟨k,[],[]⟩=S at P ⊢;have o:=P.fl;have n:=P.ol;simp only[z7u,zbp] at o n;have C:(μ++[MO.l []]).length=(μ++[MO.l (S.fs.map btT)]).length:=by simp
  have v:=P.oo BOk.nil;have fn:nmB y z S.fs=(nmB y z bs).take k.toNat:=by have:=P.fn;simpa[nmB] using this
  have on:nmB y z S.os=(nmB y z bs).drop k.toNat:=by have:=P.on;simpa[nmB] using this
  have f:(μ++[MO.l (S.fs.map btT)]++[MO.l (S.os.map btT)])[(μ++[MO.l []]).length]?=some (MO.l (S.os.map btT)):=C▸z8;refine⟨_,f,by rw[z5H];unfold room;omega,?_⟩;refine zX btT (λp=>if p.2.1<p.2.2 then some (btT p) else none) (λp m F a=>⟨_,rfl,?_⟩) ?_ f
  .refine zC (λc=>?_) (λc=>?_)
   .rw[if_pos c] at a;exact a
   .rw[if_neg c] at a;exact a
  .rw[X7];have A:(μ++[MO.l (S.fs.map btT)]++[MO.l (S.os.map btT)]).length=μ.length+2:=by simp
   refine q S.fs (S.os.filter λp=>decide (p.2.1<p.2.2)) _ _ _ (P.fo BOk.nil) v.fil fn ?_ (by omega) ?_ ⟨sC,λj H _=>?_⟩ (z5K _) (by omega) (by omega) (z5 (z5 z8)) ?_
   .rw[KG λp m=>(v p m).be];exact on
   .have:=zam (λp:Bt=>decide (p.2.1<p.2.2)) S.os;omega
   .rw[z5N (by simp;omega),z5N (by simp;omega),z5N (by omega)]
   .rw[A];have:=z8 (μ:=μ++[MO.l (S.fs.map btT)]++[MO.l (S.os.map btT)]) (x:=MO.l ((S.os.filter λp=>decide (p.2.1<p.2.2)).map btT));rw[A] at this;exact this
 .rintro j g s ⟨l,h,rfl,rfl⟩;exact z5 (z5 hi)
theorem take_sp{bs:List Bt}(s:Hz x y z)(Y:x*z<1000000000000000000000000000000000000000000000000000000000000)(ho:μ[i]?=some (hsO (shp x y z) D C kp l m n (.m bi) false))(G:μ[bi]?=some (.l (bs.map btT)))(Q:bs.length<=1000)(B:BOk x y z bs)(hn:(nmB y z bs).length<=100000)(k1:1<=k)
  (S:((nmB y z bs).length:Int)<k->Z 22 [] μ)
  (R:k<=((nmB y z bs).length:Int)->∀os u j w,BOk x y z os->nmB y z os=(nmB y z bs).drop k.toNat->os.length<=bs.length->Ch [i] μ u->μ.length<=j->μ.length<=w->j≠w->u[i]?=some (hsO (shp x y z) D C kp l m n (.m w) false)->u[w]?=some (.l (os.map btT))->u[j]?=some (.l (((nmB y z bs).take k.toNat).map T.int))->K (.m j) u) :
  ya [.m i,.int k] μ K Z:=by
 have W:=(z5C.mp ho).1;refine⟨rfl,_,ho,(zZ ho (z_ ?_))⟩;rw[decide_eq_true k1];refine⟨_,_,_,ho,rfl,(size_of_sp (y:=y) (z:=z) G Q (λp d=>(B p d).be) (zC (λe=>?_) (λe=>?_)))⟩
 .exact⟨dC,S e⟩
 .refine⟨_,_,_,ho,rfl,(JT G Q (by omega) B λfs os b L w A Bo fn on fl U H l1 V ne g1 g2=>?_)⟩;have F:=H.get ho sC;refine⟨_,rfl,_,_,F,by show (9:Nat)<900;decide,?_⟩;have o:=get_set (y:=hsO (shp x y z) D C kp l m n (.m w) false) F;have v:Ch [i] μ (b.set i (hsO (shp x y z) D C kp l m n (.m w) false)):=(H.mono sC).trans Ch.set;have O:L≠i:=by omega
  have M:w≠i:=by omega
  have r:(b.set i (hsO (shp x y z) D C kp l m n (.m w) false))[L]?=some (.l (fs.map btT)):=by rw[z5G (z6f O)];exact g1
  have q:(b.set i (hsO (shp x y z) D C kp l m n (.m w) false))[w]?=some (.l (os.map btT)):=by rw[z5G (z6f M)];exact g2
  generalize P:b.set i (hsO (shp x y z) D C kp l m n (.m w) false)=a at o v r q;have E:=P;have step:zR (vu.drop 5) [some (.m i),some (.int k),some (.t [.m L,.m w]),none,none] a (En.fn K Z):=by
   refine⟨_,rfl,_,z5 r,?_⟩;have X:=(z5C.mp q).1;refine zH (λj I u=>∃J,I=[some (.m i),some (.int k),some (.t [.m L,.m w]),some (.m a.length),J]/\Ch [] a u/\u[a.length]?=some (.l ((nmB y z (fs.take j)).map T.int))) ⟨none,rfl,Ch.app,z8⟩ ?_ ?_ ?_
   .rintro j t I u h ⟨J,rfl,ch,f⟩ N hN;rw[z5Z] at h;cases c:fs[j]? with
    |none=>rw[c] at h;exact z7 h
    |some p=>
     rw[c] at h;(injection h with h;subst h);have d:=z5E c;have et:fs.take (j+1)=fs.take j++[p]:=by rw[z6w,c];rfl
     refine⟨_,rfl,⟨_,f⟩,_,_,_,ch.get o sC,rfl,(vE s Y (A p d).b0 (A p d).be (A p d).sz (A p d).ex (A p d).h0 (A p d).h1 ?_)⟩;have ln:=(z5C.mp f).1;have g:((nmB y z (fs.take j)).map T.int).length+((nmL y z p.1 p.2.1 (p.2.2-p.2.1)).map T.int).length<=room:=by
      rw[z5H,z5H];have e1:nmB y z fs=nmB y z (fs.take (j+1))++nmB y z (fs.drop (j+1)):=by
       unfold nmB;rw[<-List.flatMap_append,z89]
      have e2:(nmB y z fs).length<=(nmB y z bs).length:=fn▸List.length_take_le' _ _;rw[e1,et,nmB_snoc,z6k,z6k] at e2;unfold room;omega
     refine⟨_,_,z5 f,.inr ⟨_,rfl,by omega,z8⟩,g,?_⟩;refine hN _ _ ⟨_,rfl,?_,?_⟩
     .exact (Ch.ge (Ch.ge ch Ch.app sC) Ch.set sC)
     .rw[et,nmB_snoc,z5Y];exact get_set (z5 f)
   .rintro I u ⟨J,rfl,ch,f⟩;rw[z5H,z6z (z5K _),fn] at f;refine R (by omega) os u _ w Bo on U (v.trans (ch.mono sC)) ?_ V (by omega) (ch.get o sC) (ch.get q sC) f;exact v.len
   .rintro j I u ⟨J,rfl,ch,f⟩;exact ch.get r sC
  rw[<-E] at step;exact step
end
end X
noncomputable def j9 (kt:T)(l:Option Ls)(m:Option Int):Prop:=(kt=.n/\l=none/\m=none)\/kt=ntW l m
theorem Xx(hk:j9 kt l m)(ho:μ[i]?=some (hsO w B z (kpW u) l m n bt false))(hc:μ[u]?=some (zT ck hs kt))
  (q:∀j s,j9 s l' m'->Ch [i,u] μ j->j.length=μ.length->j[i]?=some (hsO w B z (kpW u) l' m' n bt false)->j[u]?=some (zT ck hs s)->K .n j) :
  qe [.m i,lsT l',opT m'] μ K Z:=
 z4f ho hc (λb a=>q μ kt (b▸a▸hk) Ch.refl rfl (b▸a▸ho) hc) λj ch c e d=>q j _ (.inr rfl) ch c e d
theorem z0O(hk:j9 kt l m)(ho:μ[i]?=some (hsO (shp x y z) B w (kpW u) l m n bt false))(hc:μ[u]?=some (zT ck hs kt))(ok:LsOk x y a)
  (q:∀j s,j9 s (some a) m->Ch [i,u] μ j->j.length=μ.length->j[i]?=some (hsO (shp x y z) B w (kpW u) (some a) m n bt false)->j[u]?=some (zT ck hs s)->K .n j) :
  zK [.m i,lsT (some a)] μ K Z:=by
 refine⟨rfl,_,ho,(zZ ho ⟨_,_,_,ho,rfl,(vK ok.h0 ok.h1 ok.f0 ok.fu ok.ux ?_)⟩)⟩;exact⟨_,ho,_,_,_,ho,rfl,(Xx hk ho hc q)⟩
theorem z0c(s:Hz x y z)(xb:x<=10000000000000000000000000000000000000000)(N:-1000000000000000<=r)(ok:Ya x y l)(hk:j9 kt l m)(ho:μ[i]?=some (hsO (shp x y z) B D (kpW C) l m n bt false))(hc:μ[C]?=some (zT ck hs kt))(v:∀k,n=some k->0<=k/\k<x*y*z)(k1:1<=k)(k2:k<=z)(O:0<=B)
  (ql:(∀a,l=some a->a.2.2*z<zd y z a n m r+k)->Z 18 [] μ) (p:∀a,l=some a->zd y z a n m r+k<=a.2.2*z->0<byP z r B (zd y z a n m r+k)->Z 21 [(29,.int (byP z r B (zd y z a n m r+k)))] μ)
  (q:∀a,l=some a->zd y z a n m r+k<=a.2.2*z->byP z r B (zd y z a n m r+k)<=0->∀j u,j9 u (some a) (some (mkW x y z D a n m r k))->Ch [i,C] μ j->j.length=μ.length->j[i]?=some (hsO (shp x y z) B D (kpW C) (some a) (some (mkW x y z D a n m r k)) (some (nwW y z a n m r k)) bt false)->j[C]?=some (zT ck hs u)->K (ua a.1 (zd y z a n m r) (zd y z a n m r+k)) j) :
  zJ [.m i,.int r,.int k] μ K Z:=by
 obtain⟨L,J,I,H,G⟩:=id s;cases l with
 |none=>exact U3 ho k1 k2 (ql λa e=>z7 e)
 |some a=>
  have ok:=ok a rfl;have Q:=vn (n:=n) (m:=m) (r:=r) s ok;have E:=ok.h0;have A:=ok.h1;have M:a.2.2*z<=x*z:=z64 ok.ux lC;have b:zd y z a n m r+k<=a.2.2*z->0<byP z r B (zd y z a n m r+k)->(byP z r B (zd y z a n m r+k)).natAbs.log2<1920:=λo g=>by
   have P:(zd y z a n m r+k-1) / z<x:=z75 lC lC;exact z1o g lC
  refine⟨rfl,_,ho,(zZ ho ⟨_,ho,(Qj s ho v k1 k2 (λh=>ql λR e=>by (replace e:=zm e;subst e);exact h) (λe0 e=>⟨b e0 e,p a rfl e0 e⟩) λo g=>?_)⟩)⟩;refine⟨_,ho,_,_,_,ho,rfl,_,ho,_,_,_,ho,rfl,⟨lC,lC⟩,?_⟩;refine J7 ho (Xx (l':=some a) (m':=some (mkW x y z D a n m r k)) hk ho hc λj u d ch t f F=>⟨_,_,_,f,rfl,(jq s lC lC E A ?_)⟩);refine⟨_,_,f,by show (9:Nat)<900;decide,?_⟩;have c:C≠i:=λw=>by rw[w,ho] at hc;cases hc
  refine q a rfl o g _ u d (ch.trans (Ch.set.mono sC)) (by simp[t]) (get_set f) ?_;rw[z5G (z6f c)];exact F
theorem z5o(s:Hz x y z)(xb:x<=10000000000000000000000000000000000000000)(f:-1000000000000000<=r)(ok:Ya x y l)(hk:j9 kt l m)(zb:z<=1000)(ho:μ[i]?=some (hsO (shp x y z) D G (kpW C) l m n bt false))(hc:μ[C]?=some (zT ck hs kt))(h:∀k,n=some k->0<=k/\k<x*y*z)(k1:1<=k)(k2:k<=z)(o:0<=D)
  (ql:(∀a,l=some a->a.2.2*z<zd y z a n m r+k)->Z 18 [] μ) (g:∀a,l=some a->zd y z a n m r+k<=a.2.2*z->0<byP z r D (zd y z a n m r+k)->Z 21 [(29,.int (byP z r D (zd y z a n m r+k)))] μ)
  (q:∀a,l=some a->zd y z a n m r+k<=a.2.2*z->byP z r D (zd y z a n m r+k)<=0->∀u B j E,j9 B (some a) (some (mkW x y z G a n m r k))->Ch [i,C] μ u->μ.length<=j->μ.length<=E->j≠E->u[i]?=some (hsO (shp x y z) D G (kpW C) (some a) (some (mkW x y z G a n m r k)) (some (nwW y z a n m r k)) (.m E) false)->u[E]?=some (.l [])->u[C]?=some (zT ck hs B)->u[j]?=some (.l ((nmL y z a.1 (zd y z a n m r) k).map T.int))->K (.m j) u) :
  qN [.m i,.int r,.int k] μ K Z:=by
 obtain⟨M,J,I,H,F⟩:=id s;refine⟨rfl,_,ho,(z0c s xb f ok hk ho hc h k1 k2 o ql g λa t A v u B d ch O b p=>?_)⟩;subst t;have ok:=ok a rfl;have e:=ok.ux;have N:a.2.2*z<=x*z:=z64 e lC;have L:=zaD xb zb lC lC;have c:C≠i:=λw=>by rw[w,ho] at hc;cases hc
 have P:=(z5C.mp b).1;refine⟨_,_,z5 b,by show (9:Nat)<900;decide,_,_,_,get_set (z5 b),rfl,?_⟩;refine vE s lC (vn (n:=n) (m:=m) (r:=r) s ok) lC lC lC ok.h0 ok.h1 ?_;rw[show zd y z a n m r+k-zd y z a n m r=k by lia];refine q a rfl A v _ B _ _ d (((ch.trans (Ch.app.mono sC)).trans (Ch.set.mono sC)).trans (Ch.app.mono sC)) (by simp;lia) lC sC (z5 (get_set (z5 b))) ?_ ?_ z8
 .refine z5 ?_;rw[z5G lC];exact z8
 .refine z5 ?_;rw[z5G (z6f c)];exact z5 p
theorem z12(s:Hz x y z)(xb:x<=10000000000000000000000000000000000000000)(E:-1000000000000000<=r)(ok:Ya x y l)(hk:j9 kt l m)(ho:μ[i]?=some (hsO (shp x y z) C D (kpW B) l m n (.m bi) false))(hc:μ[B]?=some (zT ck hs kt))(b:μ[bi]?=some (.l (bs.map X.btT)))(P:bs.length<=900)(f:∀p∈bs,p.2.1<=p.2.2)(G:∀k,n=some k->0<=k/\k<x*y*z)(k1:1<=k)(k2:k<=z)(H:0<=C)
  (ql:(∀a,l=some a->a.2.2*z<zd y z a n m r+k)->Z 18 [] μ) (F:∀a,l=some a->zd y z a n m r+k<=a.2.2*z->0<byP z r C (zd y z a n m r+k)->Z 21 [(29,.int (byP z r C (zd y z a n m r+k)))] μ)
  (q:∀a,l=some a->zd y z a n m r+k<=a.2.2*z->byP z r C (zd y z a n m r+k)<=0->∀j u v,j9 u (some a) (some (mkW x y z D a n m r k))->Ch [i,B,bi] μ j->j[i]?=some (hsO (shp x y z) C D (kpW B) (some a) (some (mkW x y z D a n m r k)) (some (nwW y z a n m r k)) (.m bi) false)->j[B]?=some (zT ck hs u)->j[bi]?=some (.l ((bs++[(a.1,zd y z a n m r,zd y z a n m r+k)]).map X.btT))->K v j) :
  je [.m i,.int r,.int k] μ K Z:=by
 have ne:bi≠i:=λw=>by rw[w,ho] at b;cases b
 have h:bi≠B:=λw=>by rw[w,hc] at b;cases b
 refine⟨rfl,_,ho,(z0c s xb E ok hk ho hc G k1 k2 H ql F λa L N M j u e ch O A J=>?_)⟩;have g:=ch.get b (by simp[ne,h]);refine⟨_,_,_,A,rfl,⟨_,g⟩,_,g,by rw[z5H];unfold room;lia,?_⟩;have t:∀{o:MO},(j.set bi o)[i]?=some (hsO (shp x y z) C D (kpW B) (some a) (some (mkW x y z D a n m r k)) (some (nwW y z a n m r k)) (.m bi) false):=by intro o;rw[z5G ne];exact A
 have I:∀{o:MO},(j.set bi o)[B]?=some (zT ck hs u):=by intro o;rw[z5G h];exact J
 have d:(j.set bi (.l (bs.map X.btT++[ua a.1 (zd y z a n m r) (zd y z a n m r+k)])))[bi]?=some (.l ((bs++[(a.1,zd y z a n m r,zd y z a n m r+k)]).map X.btT)):=by
  rw[get_set g,z5Y];rfl
 refine⟨_,_,_,t,rfl,(X.size_of_sp (y:=y) (z:=z) d (by simp;lia) (λp c=>?_) ?_)⟩
 .rcases z5L.mp c with c|c
  .exact f p c
  .rw[z5F.mp c];show zd y z a n m r<=zd y z a n m r+k;lia
 .exact q a L N M _ u _ e ((ch.mono sC).trans (Ch.set.mono sC)) t I d
theorem z3C(s:Hz x y z)(hk:j9 kt l m)(ho:μ[i]?=some (hsO (shp x y z) E D (kpW B) l m n bt false))(hc:μ[B]?=some (zT ck hs kt))(f:∀k,n=some k->0<=k/\k<x*y*z)
  (e:l=none->Z 18 [] μ)
  (q:∀a,l=some a->∀j u C,j9 u none m->Ch [i,B] μ j->μ.length<=C->j[i]?=some (hsO (shp x y z) E D (kpW B) none m n (.m C) false)->j[B]?=some (zT ck hs u)->j[C]?=some (.l [])->K (.t [lsT (some a),opT (jV a.2.1 a.2.2 (yA y z n m))]) j):wq [.m i] μ K Z:=by
 have g:=(z5C.mp ho).1;have b:B≠i:=λw=>by rw[w,ho] at hc;cases hc
 refine⟨rfl,_,ho,(zZ ho ⟨_,ho,rfl,_,_,_,ho,rfl,?_⟩)⟩;cases l with
 |none=>exact⟨dC,e rfl⟩
 |some a=>
  refine⟨_,_,_,ho,rfl,_,_,_,ho,rfl,_,ho,(u6 s ho f (Wn ⟨_,ho,_,_,_,ho,rfl,?_⟩))⟩;refine Xx (l':=none) hk ho hc λj u c ch o d h=>⟨_,_,z5 d,by show (9:Nat)<900;decide,?_⟩;refine q a rfl _ u j.length c ((ch.trans (Ch.app.mono sC)).trans (Ch.set.mono sC)) lC (get_set (z5 d)) ?_ ?_
  .rw[z5G (z6f b)];exact z5 h
  .rw[z5G lC];exact z8
theorem xW{w r g d k:Nat}{now:T}(hw:μ[w]?=some (k6 x y z D C r g d now))(a:μ[B]?=some (zT ck hs kt))(ht:μ[k]?=some (.tab 1))(n:0<=D)(hd:0<=C)(hk:j9 kt l m)(hm:∀v,m=some v->0<=v/\v<x)(o:Ya x y l)
  (q:∀s u,Ch [B] μ s->μ.length<u->s[B]?=some (zT ck (.m μ.length) kt)->s[μ.length]?=some (hsO (shp x y z) D C (kpW B) l m none (.m u) false)->s[u]?=some (.l [])->K .n s):qa [.m w,.m B] μ K Z:=by
 have t:=(z5C.mp a).1;have fin:∀(s:Mem) (u:Nat),Ch [μ.length] (μ++[MO.obj 45 []]) s->(μ++[MO.obj 45 []]).length<=u->s[μ.length]?=some (hsO (shp x y z) D C (kpW B) l m none (.m u) false)->s[u]?=some (.l [])->K .n (s.set B (zT ck (.m μ.length) kt))/\s[B]?=some (zT ck hs kt):=λs u ch b e h=>by
  have b:μ.length<u:=by simp at b;lia
  have c:=ch.get (z5 a) (by simp;lia);refine⟨q _ u ⟨?_,λj p i=>?_⟩ b (get_set c) ?_ ?_,c⟩
  .have:=ch.len;simp at this ⊢;lia
  .have i:j≠B:=by simpa using i
   rw[z5G (z6f i),ch.ot j (by simp;lia) (by simp;lia),z5N p]
  .rw[z5G lC];exact e
  .rw[z5G lC];exact h
 refine⟨rfl,_,_,_,hw,rfl,_,_,_,hw,rfl,_,_,_,hw,rfl,⟨k,ht⟩,.m B,rfl,_,_,_,a,rfl,?_⟩;rcases hk with⟨rfl,rfl,rfl⟩|rfl
 .refine Q2 z8 n hd λs u ch b e h=>?_;obtain⟨f,c⟩:=fin s u ch b e h;exact⟨rfl,_,_,c,by show (3:Nat)<900;decide,f⟩
 .refine Jx z8 n hd hm o λs u ch b e h=>?_;obtain⟨f,c⟩:=fin s u ch b e h;exact⟨rfl,_,_,c,by show (3:Nat)<900;decide,f⟩
section
variable {μ:Mem}
structure Vh where
 u:Hr
 b:Nat
 bs:List X.Bt
 la:Option Int
structure Wm(μ:Mem)(w cm gr g d:Nat)(x y z ah sd:Int)(now:T)(vs:List Vh)(rs:List T)(ps:List Gp):Prop where
 W:Wld μ w cm gr g d x y z ah sd now (vs.map (·.u)) rs ps
 bt:∀v∈vs,v.u.bt=.m v.b
 bl:∀v∈vs,μ[v.b]?=some (.l (v.bs.map X.btT))
 bn:(vs.map (·.b)).Nodup
 bg:∀v∈vs,v.b≠gr/\v.b≠g
abbrev isO(o:MO):Prop:=∃c fs,o=.obj c fs
structure Fr(gr g d:Nat)(vs:List Vh)(i:Nat):Prop where
 n1:i≠gr
 n2:i≠g
 n3:i≠d
 n4:∀v∈vs,i≠v.b
theorem qz{i:Nat}{o:MO}(h:μ[i]?=some o):i<μ.length:=(z5C.mp h).1
theorem Wm.law(M:Wm μ w E B g d x y z G C now vs D ps)(ch:Ch S μ s)(h:∀j∈S,Fr B g d vs j/\∀o,μ[j]?=some o->¬isO o):Wm s w E B g d x y z G C now vs D ps:=by
 obtain⟨W,bt,bl,bn,bg⟩:=M;have ob:∀{j c fs},μ[j]?=some (MO.obj c fs)->j∉S:=λe hj=>(h _ hj).2 _ e ⟨_,_,rfl⟩;exact⟨⟨ch.get W.wo (ob W.wo),W.bk.ch ch (ob W.bk.com) (λhj=>(h _ hj).1.n1 rfl) (λp f=>ob (W.bk.at_ p f)),ch.get W.gv (λhj=>(h _ hj).1.n2 rfl),ch.get W.dc (λhj=>(h _ hj).1.n3 rfl),λu a=>ch.get (W.se u a) (ob (W.se u a)),λu a=>ch.get (W.cl u a) (ob (W.cl u a)),λu a=>ch.get (W.hs u a) (ob (W.hs u a)),W.n1,W.n2,W.gg⟩,bt,λv b=>ch.get (bl v b) (λhj=>(h _ hj).1.n4 v b rfl),bn,bg⟩
theorem jz{α:Type}{vs:List α}{v':α}{P:α->Prop}{q:α}(c:q∈vs.set i v'):q=v'\/∃j,j≠i/\vs[j]?=some q:=by
 obtain⟨j,a⟩:=z6d.mp c;by_cases e:j=i
 .subst e;have b:=(z5C.mp a).1;rw[z97] at b;rw[z6N b] at a;exact .inl (z5J a).symm
 .rw[z5G (z6f e)] at a;exact .inr ⟨j,e,a⟩
theorem ue{α β:Type}{vs:List α}{f:α->β}(n:(vs.map f).Nodup){i j:Nat}{u v:α}(hi:vs[i]?=some u)(hj:vs[j]?=some v)(e:f u=f v):i=j:=by
 have g:(vs.map f)[i]?=some (f u):=by rw[z5Z,hi];rfl
 have d:(vs.map f)[j]?=some (f u):=by rw[z5Z,hj,e];rfl
 obtain⟨a,c⟩:=z5C.mp g;obtain⟨b,eb⟩:=z5C.mp d;rcases zby i j with h|h|h
 .exact absurd (c.trans eb.symm) (z6h.mp n i j a b h)
 .exact h
 .exact absurd (eb.trans c.symm) (z6h.mp n j i b a h)
theorem YP{α β:Type}{vs:List α}{v v':α}{f:α->β}(hi:vs[i]?=some v)(e:f v'=f v):(vs.set i v').map f=vs.map f:=by
 rw[List.map_set,e];exact set_same (by rw[z5Z,hi];rfl)
theorem Wz{α:Type}{vs:List α}{v v':α}{f:α->Nat}(n:(vs.map f).Nodup)(hi:vs[i]?=some v)(h:f v'=f v\/∀q∈vs,f q≠f v'):((vs.set i v').map f).Nodup:=by
 rcases h with h|h
 .rw[YP hi h];exact n
 .unfold zdm at n ⊢;rw[z72,z6h] at n ⊢;intro a b e d c;rw[z97] at e d;rw[z8X,z8X];split
  .rw[if_neg lC];exact z6f (h _ (z8W _))
  .split
   .exact h _ (z8W _)
   .exact n a b e d c
structure Smv(v' v:Vh):Prop where
 ho:v'.u.ho=v.u.ho
 s:v'.u.s=v.u.s
 c:v'.u.c=v.u.c
 st:v'.u.st=v.u.st
 ts:v'.u.ts=v.u.ts
theorem Wm.upd(M:Wm μ w Q J g d x y z E D now vs G ps)(hi:vs[i]?=some v)(ch:Ch [v.u.h,v.u.s,v.b] μ B)(sm:Smv v' v)(H:v'.u.h=v.u.h\/μ.length<=v'.u.h)(F:v'.b=v.b\/μ.length<=v'.b)
  (K:B[v'.u.h]?=some (v'.u.house x y z E D)) (I:B[v.u.s]?=some v'.u.seat) (et:v'.u.bt=.m v'.b) (gb:B[v'.b]?=some (.l (v'.bs.map X.btT))):Wm B w Q J g d x y z E D now (vs.set i v') G ps:=by
 obtain⟨W,bt,bl,bn,bg⟩:=M;have t:=z5E hi;have C:v.u∈vs.map (·.u):=z5O.mpr ⟨v,t,rfl⟩;have r:=W.hs _ C;have hs:=W.se _ C;have out:∀{j:Nat} {a:MO},μ[j]?=some a->a≠v.u.house x y z E D->a≠v.u.seat->j≠v.b->B[j]?=some a:=λ{j a} e n1 n2 n3=>ch.get e (by
  simp only[z61,z78,or_false,not_or];exact⟨zv e r n1,zv e hs n2,n3⟩)
 have nb:∀{j:Nat} {a:MO},μ[j]?=some a->(∀l,a≠.l l)->j≠v.b:=λ{j a} e n=>zv e (bl v t) (n _);have o:∀{q:Hr},q∈(vs.set i v').map (·.u)->q=v'.u\/∃j p,j≠i/\vs[j]?=some p/\q=p.u:=λ{q} k=>by
  obtain⟨p,A,rfl⟩:=z5O.mp k;rcases jz (P:=λ_=>True) A with rfl|⟨j,n,hj⟩
  .exact .inl rfl
  .exact .inr ⟨j,p,n,hj,rfl⟩
 have m:∀{j:Nat} {p:Vh},vs[j]?=some p->p.u∈vs.map (·.u):=λh=>z5O.mpr ⟨_,z5E h,rfl⟩;have n1:(vs.map (·.u.s)).Nodup:=by have:=W.n1;rw[z69] at this;exact this
 have n2:(vs.map (·.u.h)).Nodup:=by have:=W.n2;rw[z69] at this;exact this
 have f:∀{j:Nat},j≠v.u.h->j≠v.u.s->j≠v.b->j∉[v.u.h,v.u.s,v.b]:=λa b c=>by
  simp only[z61,z78,or_false,not_or];exact⟨a,b,c⟩
 refine⟨⟨out W.wo (λe=>by cases e) (λe=>by cases e) (nb W.wo (λ_ e=>by injection e)),W.bk.ch ch (f (zv W.bk.com r (λe=>by cases e)) (zv W.bk.com hs (λe=>by cases e)) (nb W.bk.com (λ_ e=>by injection e))) (f (zv W.bk.lst r (λe=>by injection e)) (zv W.bk.lst hs (λe=>by injection e)) (z6f (bg v t).1)) λp A=>?_,out W.gv (λe=>by injection e) (λe=>by injection e) (z6f (bg v t).2),?_,λq k=>?_,λq k=>?_,λq k=>?_,?_,?_,W.gg⟩,λq k=>?_,λq k=>?_,?_,λq k=>?_⟩
 .exact f (zv (W.bk.at_ p A) r (λe=>by cases e)) (zv (W.bk.at_ p A) hs (λe=>by cases e)) (nb (W.bk.at_ p A) (λ_ e=>by injection e))
 .have e:((vs.set i v').map (·.u)).map vC=(vs.map (·.u)).map vC:=by
   rw[z69,z69];exact YP hi (by show vC v'.u=vC v.u;unfold vC;rw[sm.ho,sm.s])
  rw[e];exact out W.dc (λe=>by injection e) (λe=>by injection e) (nb W.dc (λ_ e=>by injection e))
 .rcases o k with rfl|⟨j,p,ne,hj,rfl⟩
  .rw[sm.s];exact I
  .have e:=W.se _ (m hj);exact ch.get e (f (zv e r (λe=>by cases e)) (λe=>ne (ue n1 hj hi e)) (nb e (λ_ e=>by injection e)))
 .rcases o k with rfl|⟨j,p,ne,hj,rfl⟩
  .rw[sm.c,sm.st,sm.ts];exact out (W.cl _ C) (λe=>by cases e) (λe=>by cases e) (nb (W.cl _ C) (λ_ e=>by injection e))
  .exact out (W.cl _ (m hj)) (λe=>by cases e) (λe=>by cases e) (nb (W.cl _ (m hj)) (λ_ e=>by injection e))
 .rcases o k with rfl|⟨j,p,ne,hj,rfl⟩
  .exact K
  .have e:=W.hs _ (m hj);exact ch.get e (f (λe=>ne (ue n2 hj hi e)) (zv e hs (λe=>by cases e)) (nb e (λ_ e=>by injection e)))
 .rw[z69];exact Wz n1 hi (.inl sm.s)
 .rw[z69];refine Wz n2 hi (H.imp id λh q k e=>?_);have:=qz (W.hs q.u (z5O.mpr ⟨q,k,rfl⟩));lia
 .rcases jz (P:=λ_=>True) k with rfl|⟨j,n,hj⟩
  .exact et
  .exact bt q (z5E hj)
 .rcases jz (P:=λ_=>True) k with rfl|⟨j,n,hj⟩
  .exact gb
  .have e:=bl q (z5E hj);exact ch.get e (f (zv e r (λe=>by injection e)) (zv e hs (λe=>by injection e)) (λe=>n (ue bn hj hi e)))
 .refine Wz bn hi (F.imp id λh q k e=>?_);have:=qz (bl q k);lia
 .rcases jz (P:=λ_=>True) k with rfl|⟨j,n,hj⟩
  .rcases F with h|h
   .rw[h];exact bg v t
   .have h1:=qz W.bk.lst;have h2:=qz W.gv;constructor<;>lia
  .exact bg q (z5E hj)
theorem Wm.book{ps':List Gp}(M:Wm μ w D C g d x y z I E now vs H ps)(ch:Ch S μ s)(k:∀j∈S,j=C\/∃p∈ps,j=p.1)(B:Bk s D C (shp x y z) ps'):Wm s w D C g d x y z I E now vs H ps':=by
 obtain⟨W,bt,bl,bn,bg⟩:=M;have c:∀{j:Nat} {a:MO},μ[j]?=some a->j≠C->(∀G:Gr,a≠G.O)->j∉S:=λ{j a} e n1 n2 hj=>by
  rcases k j hj with h|⟨p,i,h⟩
  .exact n1 h
  .exact zv e (W.bk.at_ p i) (n2 p.2) h
 have nl:∀{j:Nat} {a:MO},μ[j]?=some a->(∀l,a≠.l l)->j≠C:=λ{j a} e n=>zv e W.bk.lst (n _);exact⟨⟨ch.get W.wo (c W.wo (nl W.wo (λ_ e=>by injection e)) (λ_ e=>by cases e)),B,ch.get W.gv (c W.gv W.gg (λ_ e=>by injection e)),ch.get W.dc (c W.dc (nl W.dc (λ_ e=>by injection e)) (λ_ e=>by injection e)),λu b=>ch.get (W.se u b) (c (W.se u b) (nl (W.se u b) (λ_ e=>by injection e)) (λ_ e=>by cases e)),λu b=>ch.get (W.cl u b) (c (W.cl u b) (nl (W.cl u b) (λ_ e=>by injection e)) (λ_ e=>by cases e)),λu b=>ch.get (W.hs u b) (c (W.hs u b) (nl (W.hs u b) (λ_ e=>by injection e)) (λ_ e=>by cases e)),W.n1,W.n2,W.gg⟩,bt,λv f=>ch.get (bl v f) (c (bl v f) (bg v f).1 (λ_ e=>by injection e)),bn,bg⟩
theorem Wm.now'(M:Wm μ w s C g d x y z u j now vs B ps):Wm (μ.set w (k6 x y z u j s g d nw)) w s C g d x y z u j nw vs B ps:=
 ⟨M.W.now',M.bt,λv a=>by rw[z5G (z6f (zv (M.bl v a) M.W.wo (λe=>by injection e)))];exact M.bl v a,M.bn,M.bg⟩
theorem Wm.gave(M:Wm μ w B u g d x y z C s now vs D ps):Wm (μ.set g (.l j)) w B u g d x y z C s now vs j ps:=
 ⟨M.W.gave,M.bt,λv a=>by rw[z5G (z6f (M.bg v a).2)];exact M.bl v a,M.bn,M.bg⟩
variable {vs:List Vh}{v:Vh}
noncomputable abbrev E3:=Int×Str×Int
abbrev InG(y z:Int)(G:Gr)(nm:Int):Prop:=nm / z % y=G.h/\G.f<=nm / z / y/\nm / z / y<G.u
abbrev InL(y z:Int)(a:Ls)(nm:Int):Prop:=nm / z % y=a.1/\a.2.1<=nm / z / y/\nm / z / y<a.2.2
abbrev HasG(y z:Int)(ps:List Gp)(ho:Str)(nm:Int):Prop:=∃p∈ps,p.2.ho=ho/\InG y z p.2 nm
structure Hd(x y z r ah:Int)(a:Ls)(n m:Option Int)(nm:Int):Prop where
 il:InL y z a nm
 nb:0<=nm/\nm<x*y*z
 up:∀j,n=some j->j<nm
 ma:∀v,n=none->m=some v->v<nm / z / y
 rd:r<=nm / z / y/\nm / z / y<=r+ah
theorem z2i(z1:1<=z):xP y z a.1 n m<=zd y z a n m r/\a.2.1*z<=zd y z a n m r/\r*z<=zd y z a n m r:=by
 have h:r*z<=(if a.2.1<r then r else a.2.1)*z:=z64 (by split<;>lia) lC;have b:a.2.1*z<=(if a.2.1<r then r else a.2.1)*z:=z64 (by split<;>lia) lC;unfold zd;split<;>lia
theorem Wg(s:Hz x y z)(ok:LsOk x y a)(H:zd y z a n m r+k<=a.2.2*z)(G:byP z r u (zd y z a n m r+k)<=0)(hm:nm∈nmL y z a.1 (zd y z a n m r) k):Hd x y z r u a n m nm:=by
 obtain⟨A,w,t,g,q⟩:=id s;obtain⟨c,F,E⟩:=z2i (y:=y) (a:=a) (n:=n) (m:=m) (r:=r) g;have I:=vn (n:=n) (m:=m) (r:=r) s ok;have B:a.2.2*z<=x*z:=z64 ok.ux lC;obtain⟨j,f,rfl⟩:=z5O.mp hm;have f:=z7S.mp f;generalize zd y z a n m r=b at *;obtain⟨d,h,C⟩:=W6 s ok.h0 ok.h1;have o:(b+j) / z<a.2.2:=z75 lC lC;have l:r<=(b+j) / z:=(z80 lC).mpr lC;have D:(b+j) / z<=(b+k-1) / z:=z8o lC lC;refine⟨⟨h,d▸⟨((z80 lC).mpr lC),o⟩⟩,UZ s ok.h0 ok.h1 lC lC,λi e=>?_,λv e p=>?_,d▸⟨l,lC⟩⟩
 .subst e;exact (z2E s ok.h0 ok.h1).mpr (show plA y z a.1 i<=b+j by have:plA y z a.1 i<=b:=c;lia)
 .subst e p;have c:(v+1)*z<=b:=c;have:v+1<=(b+j) / z:=(z80 lC).mpr lC;lia
theorem z07(s:Hz x y z)(ok:LsOk x y a){b:Int}:(nmL y z a.1 b k).Pairwise (·<·):=by
 unfold nmL;rw[z72];exact zbt (λh=>VM s ok.h0 ok.h1 lC) List.pairwise_lt_range
theorem Vz(s:Hz x y z)(ok:LsOk x y a)(k1:1<=k):nwW y z a n m r k∈nmL y z a.1 (zd y z a n m r) k/\∀nm∈nmL y z a.1 (zd y z a n m r) k,nm<=nwW y z a n m r k:=by
 show nmA y z a.1 (zd y z a n m r+k-1)∈_/\∀nm∈_,nm<=nmA y z a.1 (zd y z a n m r+k-1);generalize zd y z a n m r=b;refine⟨z5O.mpr ⟨(k-1).toNat,z7S.mpr lC,by rw[show b+((k-1).toNat)=b+k-1 by lia]⟩,λnm h=>?_⟩;obtain⟨j,c,rfl⟩:=z5O.mp h;have c:=z7S.mp c;by_cases e:j=k-1
 .rw[show b+j=b+k-1 by lia];exact z6E _
 .exact z8p (VM s ok.h0 ok.h1 lC)
theorem z0g(s:Hz x y z)(ok:LsOk x y a)(t:zd y z a n m r+k<=a.2.2*z)(k1:1<=k)(hd:0<=j)(hm:∀v,m=some v->0<=v/\v<x):0<=mkW x y z j a n m r k/\mkW x y z j a n m r k<x/\nwW y z a n m r k / z / y<=mkW x y z j a n m r k/\∀v,m=some v->v<=mkW x y z j a n m r k:=by
 obtain⟨l,i,h,g,f⟩:=id s;have u:=vn (n:=n) (m:=m) (r:=r) s ok;have q:a.2.2*z<=x*z:=z64 ok.ux lC;show 0<=mbI x j m ((zd y z a n m r+k-1) / z)/\mbI x j m ((zd y z a n m r+k-1) / z)<x/\nmA y z a.1 (zd y z a n m r+k-1) / z / y<=mbI x j m ((zd y z a n m r+k-1) / z)/\∀v,m=some v->v<=mbI x j m ((zd y z a n m r+k-1) / z);rw[(W6 s ok.h0 ok.h1).1];have d:0<=(zd y z a n m r+k-1) / z:=z82 lC lC;have b:(zd y z a n m r+k-1) / z<x:=z75 lC lC;generalize (zd y z a n m r+k-1) / z=c at d b;unfold mbI;cases m with
 |none=>
  refine⟨?_,?_,?_,λv e=>z7 e⟩<;>(show _ ;unfold mnI;split<;>lia)
 |some w=>
  obtain⟨p,o⟩:=hm w rfl;refine⟨?_,?_,?_,λv e=>?_⟩
  .show 0<=if c<=w then w else mnI (c+j) (x-1)
   unfold mnI;split<;>(try split)<;>lia
  .show (if c<=w then w else mnI (c+j) (x-1))<x;unfold mnI;split<;>(try split)<;>lia
  .show c<=if c<=w then w else mnI (c+j) (x-1)
   unfold mnI;split<;>(try split)<;>lia
  ·(replace e:=zm e;subst e);unfold mnI;split<;>(try split)<;>lia
structure V91(x y z:Int)(ps:List Gp)(v:Vh):Prop where
 h1:v.u.ho.length<=room
 h2:qh v.u.ho=true
 ok:Ya x y v.u.l
 nb:∀k,v.u.n=some k->0<=k/\k<x*y*z
 mb:∀w,v.u.m=some w->0<=w/\w<x
 kt:j9 v.u.kt v.u.l v.u.m
 ls:∀a,v.u.l=some a->∃p∈ps,p.2.ho=v.u.ho/\p.2.h=a.1/\p.2.f=a.2.1/\p.2.u0=a.2.2/\p.2.ct=false
 nm:∀k,v.u.n=some k->∃w,v.u.m=some w/\k / z / y<=w
 la:∀a,v.la=some a->(∃w,v.u.m=some w/\a / z / y<=w)/\∀k,v.u.n=some k->a<=k
 bo:X.BOk x y z v.bs
 bi:∀q∈X.nmB y z v.bs,(0<=q/\q<x*y*z)/\(∀a,v.la=some a->a<q)/\(∃k,v.u.n=some k/\q<=k)/\HasG y z ps v.u.ho q
 bp:(X.nmB y z v.bs).Pairwise (·<·)
noncomputable def Nf (y z:Int)(v:Vh)(nm:Int):Prop:=(∃a,v.la=some a/\nm<=a)\/((∀a,v.u.l=some a->¬InL y z a nm)/\nm∉X.nmB y z v.bs)
structure I91(x y z:Int)(vs:List Vh)(ps:List Gp)(es:List E3):Prop where
 gd:Gd x y ps
 nh:(vs.map (·.u.ho)).Nodup
 v:∀v∈vs,V91 x y z ps v
 eb:∀e∈es,0<=e.2.2/\e.2.2<x*y*z
 eg:∀e∈es,HasG y z ps e.2.1 e.2.2
 en:∀e∈es,∀v∈vs,v.u.ho=e.2.1->Nf y z v e.2.2
 nd:(es.map (·.2.2)).Nodup
theorem HasG.mono(h:HasG y z ps ho nm)(s:∀p∈ps,p∈ps'):HasG y z ps' ho nm:=let ⟨p,a,r⟩:=h;⟨p,s p a,r⟩
theorem V91.mono(V:V91 x y z ps v)(s:∀p∈ps,p∈ps'):V91 x y z ps' v:=
 ⟨V.h1,V.h2,V.ok,V.nb,V.mb,V.kt,λa e=>let ⟨p,g,r⟩:=V.ls a e;⟨p,s p g,r⟩,V.nm,V.la,V.bo,λq f=>let ⟨a,b,c,d⟩:=V.bi q f;⟨a,b,c,d.mono s⟩,V.bp⟩
theorem Gd.same(G:Gd x y ps){p q:Gp}(b:p∈ps)(a:q∈ps)(e:p.2.h=q.2.h)(m:p.2.f<p.2.u/\q.2.f<q.2.u/\p.2.f<q.2.u/\q.2.f<p.2.u):p=q:=by
 obtain⟨i,hi⟩:=z6d.mp b;obtain⟨j,hj⟩:=z6d.mp a;have:=G.one hi hj e m;subst this;rw[hi] at hj;exact z5J hj
theorem Gd.name(G:Gd x y ps){p q:Gp}(b:p∈ps)(a:q∈ps)(h1:InG y z p.2 nm)(h2:InG y z q.2 nm):p=q:=
 G.same b a (h1.1.symm.trans h2.1) ⟨lC,lC,lC,lC⟩
theorem nhS(n:(vs.map (·.u.ho)).Nodup)(hi:vs[i]?=some v)(e:v'.u.ho=v.u.ho):((vs.set i v').map (·.u.ho)).Nodup:=by rw[YP hi e];exact n
theorem I91.upd(I:I91 x y z vs ps es)(hi:vs[i]?=some v)(V:V91 x y z ps v')(ho:v'.u.ho=v.u.ho)(h:∀nm,Nf y z v nm->Nf y z v' nm):I91 x y z (vs.set i v') ps es:=by
 refine⟨I.gd,nhS I.nh hi ho,λq a=>?_,I.eb,I.eg,λe he q a eq=>?_,I.nd⟩
 .rcases jz (P:=λ_=>True) a with rfl|⟨j,n,hj⟩
  .exact V
  .exact I.v q (z5E hj)
 .rcases jz (P:=λ_=>True) a with rfl|⟨j,n,hj⟩
  .exact h _ (I.en e he v (z5E hi) (ho.symm.trans eq))
  .exact I.en e he q (z5E hj) eq
theorem I91.new(I:I91 x y z vs ps es)(d:v∈vs)(h1:∀a,v.la=some a->a<nm)(h2:HasG y z ps v.u.ho nm)(c:(∃a,v.u.l=some a/\InL y z a nm)\/nm∈X.nmB y z v.bs):nm∉es.map (·.2.2):=by
 intro hm;obtain⟨e,he,rfl⟩:=z5O.mp hm;obtain⟨p,j,ep,g⟩:=I.eg e he;obtain⟨q,i,eq,f⟩:=h2;have:=I.gd.name j i g f;subst this;rcases I.en e he v d (eq.symm.trans ep) with⟨a,b,k⟩|⟨n1,n2⟩
 .have:=h1 a b;lia
 .rcases c with⟨a,b,h⟩|c
  .exact n1 a b h
  .exact n2 c
theorem I91.tell{L:List Int}(I:I91 x y z vs ps es)(i:v∈vs)(up:L.Pairwise (·<·))(h:∀nm∈L,(0<=nm/\nm<x*y*z)/\HasG y z ps v.u.ho nm/\Nf y z v nm/\nm∉es.map (·.2.2)):I91 x y z vs ps (es++L.map λnm=>(t,v.u.ho,nm)):=by
 have c:∀e∈es++L.map (λnm=>(t,v.u.ho,nm)),e∈es\/∃nm∈L,e=(t,v.u.ho,nm):=λe he=>by
  rcases z5L.mp he with h|h
  .exact .inl h
  .obtain⟨nm,h1,rfl⟩:=z5O.mp h;exact .inr ⟨nm,h1,rfl⟩
 refine⟨I.gd,I.nh,I.v,λe he=>?_,λe he=>?_,λe he q g eq=>?_,?_⟩
 .rcases c e he with h'|⟨nm,h',rfl⟩
  .exact I.eb e h'
  .exact (h nm h').1
 .rcases c e he with h'|⟨nm,h',rfl⟩
  .exact I.eg e h'
  .exact (h nm h').2.1
 .rcases c e he with h'|⟨nm,h',rfl⟩
  .exact I.en e h' q g eq
  .obtain⟨a,f⟩:=z6d.mp g;obtain⟨b,d⟩:=z6d.mp i;have:=ue I.nh f d eq;subst this;rw[f] at d;cases d;exact (h nm h').2.2.1
 .rw[z5Y,z69,z6L];refine⟨I.nd,?_,λa f b d e=>?_⟩
  .show (L.map λnm=>nm).Nodup;rw[List.map_id'];exact up.imp λh=>by lia
  .obtain⟨nm,j,rfl⟩:=z5O.mp d;subst e;exact (h a j).2.2.2 f
theorem I91.lease{h b l:Int}{ad:Nat}(I:I91 x y z vs ps es)(hi:vs[i]?=some v)(h0:0<=h)(h1:h<y)(b0:0<=b)(l1:1<=l)(r:b+l<=x)(fr:∀p∈ps,p.2.h=h->mt p.2 b (b+l)=false){kt:T}(hk:j9 kt (some (h,b,b+l)) v.u.m) :
  I91 x y z (vs.set i {v with u:={v.u with l:=some (h,b,b+l),kt:=kt}}) (ps++[(ad,⟨v.u.ho,h,b,b+l,b+l,false⟩)]) es:=by
 have k:=z5E hi;have sub:∀p∈ps,p∈ps++[((ad,⟨v.u.ho,h,b,b+l,b+l,false⟩):Gp)]:=λp d=>z65 _ d;have s:=I.gd.add (q:=(ad,⟨v.u.ho,h,b,b+l,b+l,false⟩)) ⟨h0,h1,b0,lC,r,lC,z6E _,λ_=>rfl⟩ λp d e=>fr p d e;have g:I91 x y z vs (ps++[(ad,⟨v.u.ho,h,b,b+l,b+l,false⟩)]) es:=⟨s,I.nh,λq c=>(I.v q c).mono sub,I.eb,λe he=>(I.eg e he).mono sub,I.en,I.nd⟩;have V:=g.v v k;refine⟨s,nhS I.nh hi rfl,λq c=>?_,I.eb,g.eg,λe he q c eq=>?_,I.nd⟩
 .rcases jz (P:=λ_=>True) c with rfl|⟨j,n,hj⟩
  .exact⟨V.h1,V.h2,λa e=>by (injection e with e;subst e);exact⟨h0,h1,b0,lC,r⟩,V.nb,V.mb,hk,λa e=>by (injection e with e;subst e);exact⟨_,z5R _ (z5F.mpr rfl),rfl,rfl,rfl,rfl,rfl⟩,V.nm,V.la,V.bo,V.bi,V.bp⟩
  .exact g.v q (z5E hj)
 .rcases jz (P:=λ_=>True) c with rfl|⟨j,n,hj⟩
  .rcases I.en e he v k eq with h'|⟨_,h'⟩
   .exact .inl h'
   .refine .inr ⟨λa f il=>?_,h'⟩;(injection f with f;subst f);obtain⟨p,d,_,t⟩:=I.eg e he;have m1:=fr p d (t.1.symm.trans il.1);have o:mt p.2 b (b+l)=true:=vH.mpr ⟨lC,by have:=il.2.2;lia,by have:=il.2.1;lia,lC⟩;rw[m1] at o;injection o
  .exact I.en e he q (z5E hj) eq
theorem Qe{p q:Gp}{e:Int}(a:q∈ps)(n:q.1≠p.1):q∈setG p.1 e ps:=by
 exact z5O.mpr ⟨q,a,if_neg n⟩
theorem V6{p q:Int}(y1:1<=y)(z1:1<=z)(h:p<=q):p / z / y<=q / z / y:=z8o lC (z8o lC h)
theorem I91.cut{p:Gp}{e:Int}(s:Hz x y z)(I:I91 x y z vs ps es)(nd:(ps.map (·.1)).Nodup)(hi:vs[i]?=some v)(H:v.u.l=some a)(D:p∈ps)(L:p.2.h=a.1)(e2:p.2.f=a.2.1)(e3:p.2.u0=a.2.2)(e4:p.2.ct=false)
  (C:z1H a.2.1 a.2.2 (opT (jV a.2.1 a.2.2 (yA y z v.u.n v.u.m))) e) {kt:T} (hk:j9 kt none v.u.m) {b:Nat} {bt:T} :
  I91 x y z (vs.set i ⟨{v.u with l:=none,kt:=kt,bt:=bt},b,[],v.la⟩) (setG p.1 e ps) es:=by
 obtain⟨x1,y1,y2,z1,z2⟩:=id s;have F:=z5E hi;have V:=I.v v F;have M:=I.gd.ok p D;have pu:=M.op e4;have fu0:=M.fu0;obtain⟨o,B,G,U,o3,o4,S⟩:=V.ls a H;have O:=(I.gd.ok o B).op S;have R:=I.gd.same B D (U.trans L.symm) ⟨lC,lC,lC,lC⟩;subst R;have inj:∀q∈ps,q.1=o.1->q=o:=λq d e=>by
  obtain⟨j,hj⟩:=z6d.mp d;obtain⟨k,hk⟩:=z6d.mp D;have h1:(ps.map (·.1))[j]?=some o.1:=z5Z▸hj▸congrArg some e;have h2:(ps.map (·.1))[k]?=some o.1:=by rw[z5Z,hk];rfl
  obtain⟨l1,K⟩:=z5C.mp h1;obtain⟨l2,J⟩:=z5C.mp h2;have:j=k:=by
   rcases zby j k with h|h|h
   .exact absurd (K.trans J.symm) (z6h.mp nd j k l1 l2 h)
   .exact h
   .exact absurd (J.trans K.symm) (z6h.mp nd k j l2 l1 h)
  subst this;rw[hj] at hk;exact z5J hk
 have g:∀q∈ps,q.2.ho≠v.u.ho->q∈setG o.1 e ps:=λq d n=>Qe d λe=>n (inj q d e▸G);have eb:a.2.1<=e/\e<=a.2.2:=by
  rcases C with⟨_,rfl⟩|⟨s,_,h1,h2,rfl⟩<;>(constructor<;>lia)
 have G':Gd x y (setG o.1 e ps):=by
  obtain⟨k,hk⟩:=z6d.mp D;rw[ZO nd hk];exact I.gd.cut hk lC lC
 refine⟨G',nhS I.nh hi rfl,λq d=>?_,I.eb,λr A=>?_,λr A q d eq=>?_,I.nd⟩
 .rcases jz (P:=λ_=>True) d with rfl|⟨j,n,hj⟩
  .exact⟨V.h1,V.h2,(λa e=>z7 e),V.nb,V.mb,hk,(λa e=>z7 e),V.nm,V.la,X.BOk.nil,(λq d=>by contradiction),z6_⟩
  .have Q:=I.v q (z5E hj);have ne:q.u.ho≠v.u.ho:=λe=>n (ue I.nh hj hi e);exact⟨Q.h1,Q.h2,Q.ok,Q.nb,Q.mb,Q.kt,λa e=>by
    obtain⟨r,A,h1,h2⟩:=Q.ls a e;exact⟨r,g r A (h1▸ne),h1,h2⟩,Q.nm,Q.la,Q.bo,λw hw=>by
    obtain⟨c0,c1,c2,r,A,h1,h2⟩:=Q.bi w hw;exact⟨c0,c1,c2,r,g r A (h1▸ne),h1,h2⟩,Q.bp⟩
 .obtain⟨q,d,h1,h2⟩:=I.eg r A;by_cases c:q.1=o.1
  .have:=inj q d c;subst this;refine⟨(q.1,{q.2 with u:=e,ct:=true}),z5O.mpr ⟨q,d,if_pos rfl⟩,h1,h2.1,h2.2.1,?_⟩;rcases I.en r A v F (G.symm.trans h1) with⟨w,hw,E⟩|⟨n1,_⟩
   .obtain⟨⟨W,hm,m1⟩,Y⟩:=V.la w hw;have E:=V6 y1 z1 E;have:∃t,yA y z v.u.n v.u.m=some t/\r.2.2 / z / y<=t:=by
     cases Z:v.u.n with
     |none=>exact⟨W,hm,lC⟩
     |some k=>exact⟨k / z / y,rfl,z7I E (V6 y1 z1 (Y k Z))⟩
    obtain⟨t,et,tl⟩:=this;rw[et] at C;have N:jV a.2.1 a.2.2 (some t)=some (if a.2.2-1<t then a.2.2-1 else t):=by
     unfold jV;exact if_neg lC
    rw[N] at C;rcases C with⟨h,_⟩|⟨s,h,_,_,rfl⟩
    .injection h
    .have h:(if a.2.2-1<t then a.2.2-1 else t)=s:=by injection h
     subst h;split<;>lia
   .exact (n1 a H ⟨h2.1.trans L,by have:=h2.2.1;lia,by have:=h2.2.2;lia⟩).elim
  .exact⟨q,Qe d c,h1,h2⟩
 .rcases jz (P:=λ_=>True) d with rfl|⟨j,n,hj⟩
  .exact .inr ⟨(λa e=>z7 e),λh=>by contradiction⟩
  .exact I.en r A q (z5E hj) eq
end
section
variable {i:Nat}{vs:List Vh}{wd:Str}
structure N91(x y z ah sd:Int):Prop where
 s:Hz x y z
 xb:x<=10000000000000000000000000000000000000000
 zb:z<=20
 a0:0<=ah
 d0:0<=sd
structure Kq(gr g d:Nat)(vs:List Vh)(μ μ':Mem):Prop where
 len:μ.length<=μ'.length
 ot:∀i o,μ[i]?=some o->¬isO o->Fr gr g d vs i->μ'[i]?=some o
theorem Kq.of{S:List Nat}(ch:Ch S μ s)(h:∀j∈S,(∃o,μ[j]?=some o/\isO o)\/j=u\/j=g\/∃v∈vs,j=v.b):Kq u g d vs μ s:=
 ⟨ch.len,λi o e n F=>ch.get e λhm=>by
  rcases h i hm with⟨f,a,h⟩|h|h|⟨v,c,h⟩
  .rw[e] at a;(replace a:=zm a;subst a);exact n h
  .exact F.n1 h
  .exact F.n2 h
  .exact F.n4 v c h⟩
theorem Fr.of{o:MO}(M:Wm μ w B j g d x y z C s now vs u ps)(h:μ[i]?=some o)(n1:∀l,o≠.l l)(n2:∀l,o≠.d l):Fr j g d vs i:=
 ⟨zv h M.W.bk.lst (n1 _),zv h M.W.gv (n1 _),zv h M.W.dc (n2 _),λv a=>zv h (M.bl v a) (n1 _)⟩
theorem Fr.set{L:Nat}(F:Fr s g d vs j)(hj:j<L)(hi:vs[i]?=some v)(e:v'.b=v.b\/L<=v'.b):Fr s g d (vs.set i v') j:=
 ⟨F.n1,F.n2,F.n3,λq c=>by
  rcases jz (P:=λ_=>True) c with rfl|⟨f,n,a⟩
  .rcases e with h|h
   .rw[h];exact F.n4 v (z5E hi)
   .lia
  .exact F.n4 q (z5E a)⟩
theorem Fr.new(M:Wm μ w C s g d x y z D u now vs B ps)(hj:μ.length<=j)(hi:vs[i]?=some v)(n:j≠v'.b):Fr s g d (vs.set i v') j:=by
 have h1:=qz M.W.bk.lst;have h2:=qz M.W.gv;have f:=qz M.W.dc;refine⟨lC,lC,lC,λq c=>?_⟩;rcases jz (P:=λ_=>True) c with rfl|⟨e,_,a⟩
 .exact n
 .have:=qz (M.bl q (z5E a));lia
structure R91(P:List Int->Vh->List Gp->Prop)(w cm gr g d:Nat)(x y z ah sd t:Int)(now:T)(rs:List T)(vs:List Vh)(ps:List Gp)(i:Nat)(v:Vh)(wd:Str)(μ μ':Mem)(j:Nat)(L:List Int)(v':Vh)(ps':List Gp):Prop where
 M:Wm μ' w cm gr g d x y z ah sd now (vs.set i v') rs ps'
 sm:Smv v' v
 hj:μ'[j]?=some (.l (L.map T.int))
 jn:μ.length<=j
 fj:Fr gr g d (vs.set i v') j
 kp:Kq gr g d vs μ μ'
 fr:∀q,q<μ.length->Fr gr g d vs q->Fr gr g d (vs.set i v') q
 I:∀es,I91 x y z vs ps es->I91 x y z (vs.set i v') ps' (es++L.map λnm=>(t,v.u.ho,nm))
 up:L.Pairwise (·<·)
 gt:∀nm∈L,0<=nm/\∀a,v.la=some a->a<nm
 la:v'.la=if L=[] then (if wd="bare" then none else v.la) else L.getLast?
 ask:wd="ask"->∀nm∈L,v.u.rd t<=nm / z / y/\nm / z / y<=v.u.rd t+ah
 ln:L.length<=12
 pl:ps'.length<=ps.length+1
 bl:v'.bs.length<=v.bs.length+1
 nl:(X.nmB y z v'.bs).length<=(X.nmB y z v.bs).length+12
 ex:P L v' ps'
abbrev G91(P:List Int->Vh->List Gp->Prop)(w k h g d:Nat)(x y z l e t:Int)(now:T)(f:List T)(vs:List Vh)(ps:List Gp)(i:Nat)(v:Vh)(wd:Str)(μ:Mem)(K:T->Mem->Prop):Prop:=
 ∀j L c b a,R91 P w k h g d x y z l e t now f vs ps i v wd μ a j L c b->K (.m j) a
theorem nhW(I:I91 x y z vs ps es):((vs.map (·.u)).map (·.ho)).Nodup:=by rw[z69];exact I.nh
theorem atU(hi:vs[i]?=some v):(vs.map (·.u))[i]?=some v.u:=by rw[z5Z,hi];rfl
theorem qm{r:List T}(M:Wm μ w D C g d x y z E j now vs B ps)(hi:vs[i]?=some v)(nd:((vs.map (·.u)).map (·.ho)).Nodup)
  (q:zR (wa.drop 2) [some (.m w),some (.t (.str wd::.int t::.str v.u.ho::r)),some (.m v.u.s),some (.int (v.u.rd t)),none] μ (En.fn K Z)):zD [.m w,.t (.str wd::.int t::.str v.u.ho::r)] μ K Z:=by
 have a:=z5E (atU hi);have W:=M.W;exact⟨rfl,_,_,_,W.wo,rfl,_,JY,_,_,.inl W.dc,ZH (atU hi) nd,_,_,_,W.se _ a,rfl,_,W.cl _ a,_,YM,(km (W.cl _ a) q)⟩
theorem Qo(W:Wld μ w E D g d x y z G B now j C ps){u:Hr}(a:u∈j):(∃o,μ[u.h]?=some o/\isO o)/\∃o,μ[u.s]?=some o/\isO o:=⟨⟨_,W.hs u a,_,_,rfl⟩,⟨_,W.se u a,_,_,rfl⟩⟩
theorem V_{L:List Int}{b:Int}(hm:b∈L)(f:∀a∈L,a<=b)(up:L.Pairwise (·<·)):L.getLast?=some b:=by
 have d:L≠[]:=λe=>by rw[e] at hm;contradiction
 rw[z7c d];have h:=f _ (z9W d);have i:b<=L.getLast d:=by
  clear f h;induction L with
  |nil=>exact absurd rfl d
  |cons a r g=>
   rw[zb4] at up;cases r with
   |nil=>rw[z5F.mp hm];exact z6E _
   |cons c r=>
    rcases z61.mp hm with rfl|hm
    .exact z8p (up.1 _ (z9W _))
    .exact g hm up.2 sC
 congr 1;lia
theorem V91.gtla(V:V91 x y z ps v)(y1:1<=y)(z1:1<=z){r:Int}{a:Ls}{nm:Int}(H:Hd x y z r j a v.u.n v.u.m nm):∀b,v.la=some b->b<nm:=λb e=>by
 obtain⟨⟨w,hw,h1⟩,h2⟩:=V.la b e;cases d:v.u.n with
 |some k=>have:=H.up k d;have:=h2 k d;lia
 |none=>
  have:=H.ma w d hw;by_cases c:nm<=b
  .have:=V6 y1 z1 c;lia
  .lia
theorem V91.hasl(V:V91 x y z ps v)(G:Gd x y ps){a:Ls}(h:v.u.l=some a){nm:Int}(il:InL y z a nm):HasG y z ps v.u.ho nm:=by
 obtain⟨p,b,g,f,e,d,c⟩:=V.ls a h;have:=(G.ok p b).op c;exact⟨p,b,g,il.1.trans f.symm,e▸il.2.1,this▸d▸il.2.2⟩
theorem WA (hw:wd="ask") (N:N91 x y z D E) (M:Wm μ w cm gr g d x y z D E now vs rs ps) (I:I91 x y z vs ps es) (hi:vs[i]?=some v) (rb:-1000000000000000<=v.u.rd t) (k1:1<=k) (k2:k<=z) (k3:k<=12)
  (ql:(∀a,v.u.l=some a->a.2.2*z<zd y z a v.u.n v.u.m (v.u.rd t)+k)->Z 18 [] μ) (qw:∀a,v.u.l=some a->zd y z a v.u.n v.u.m (v.u.rd t)+k<=a.2.2*z->0<byP z (v.u.rd t) D (zd y z a v.u.n v.u.m (v.u.rd t)+k)->Z 21 [(29,.int (byP z (v.u.rd t) D (zd y z a v.u.n v.u.m (v.u.rd t)+k)))] μ) (hP:∀a C B,v.u.l=some a->zd y z a v.u.n v.u.m (v.u.rd t)+k<=a.2.2*z->byP z (v.u.rd t) D (zd y z a v.u.n v.u.m (v.u.rd t)+k)<=0->P (nmL y z a.1 (zd y z a v.u.n v.u.m (v.u.rd t)) k) ⟨{v.u with l:=some a,m:=some (mkW x y z E a v.u.n v.u.m (v.u.rd t) k),n:=some (nwW y z a v.u.n v.u.m (v.u.rd t) k),bt:=.m C,kt:=B},C,[],some (nwW y z a v.u.n v.u.m (v.u.rd t) k)⟩ ps) (q:G91 P w cm gr g d x y z D E t now rs vs ps i v wd μ K) :
  zD [.m w,Q4 wd t v.u.ho k] μ K Z:=by
 obtain⟨x1,Q,y2,O,z2⟩:=id N.s;have p:=z5E (atU hi);have T:=z5E hi;have W:=M.W;have V:=I.v v T;have zb:=N.zb;refine qm M hi (nhW I) ⟨_,rfl,(qj hw ⟨_,_,_,W.se _ p,rfl,_,W.hs _ p,_,rfl,(z5o N.s N.xb rb V.ok V.kt lC (W.hs _ p) (W.se _ p) V.nb k1 k2 N.a0 ql qw λa o S e2 J B j C hk ch A H ne gh gb gs gj=>?_)⟩)⟩;have ok:=V.ok a o;have f:=λnm (h:nm∈nmL y z a.1 (zd y z a v.u.n v.u.m (v.u.rd t)) k)=>Wg N.s ok S e2 h;obtain⟨G,Y⟩:=Vz N.s ok k1;obtain⟨m0,m1,U,m3⟩:=z0g N.s ok S k1 N.d0 V.mb;have up:(nmL y z a.1 (zd y z a v.u.n v.u.m (v.u.rd t)) k).Pairwise (·<·):=z07 N.s ok;have ll:(nmL y z a.1 (zd y z a v.u.n v.u.m (v.u.rd t)) k).length=k.toNat:=vd;have R:nmL y z a.1 (zd y z a v.u.n v.u.m (v.u.rd t)) k≠[]:=λe=>by rw[e] at G;contradiction
 have pe:=hP a C B o S e2;generalize mkW x y z E a v.u.n v.u.m (v.u.rd t) k=r at *;generalize nwW y z a v.u.n v.u.m (v.u.rd t) k=nn at *;generalize nmL y z a.1 (zd y z a v.u.n v.u.m (v.u.rd t)) k=L at *
 have V':V91 x y z ps ⟨{v.u with l:=some a,m:=some r,n:=some nn,bt:=.m C,kt:=B},C,[],some nn⟩:=
  ⟨V.h1,V.h2,λa' e=>by (injection e with e;subst e);exact ok,λk' e=>by (injection e with e;subst e);exact (f nn G).nb,λc e=>by (injection e with e;subst e);exact⟨m0,m1⟩,hk,λa' e=>by (injection e with e;subst e);exact V.ls a o,λk' e=>by (injection e with e;subst e);exact⟨r,rfl,U⟩,λb e=>by (injection e with e;subst e);exact⟨⟨r,rfl,U⟩,λk' e=>by (injection e with e;subst e);exact z6E _⟩,X.BOk.nil,(λq hq=>by contradiction),z6_⟩
 refine q j L ⟨{v.u with l:=some a,m:=some r,n:=some nn,bt:=.m C,kt:=B},C,[],some nn⟩ ps J ⟨M.upd hi (ch.mono sC) ⟨rfl,rfl,rfl,rfl,rfl⟩ (.inl rfl) (.inr H) gh gs rfl gb,⟨rfl,rfl,rfl,rfl,rfl⟩,gj,A,Fr.new M A hi ne,Kq.of ch (λj A=>?_),λq hq F=>F.set hq hi (.inr H),λes I=>?_,up,λnm h=>⟨(f nm h).nb.1,V.gtla Q O (f nm h)⟩,?_,λ_ nm h=>(f nm h).rd,lC,lC,sC,by show 0<=_;lia,pe⟩
 .simp only[z61,z78,or_false] at A;rcases A with rfl|rfl
  .exact .inl (Qo W p).1
  .exact .inl (Qo W p).2
 .refine (I.upd hi V' rfl λnm hN=>?_).tell (v:=⟨{v.u with l:=some a,m:=some r,n:=some nn,bt:=.m C,kt:=B},C,[],some nn⟩) (z5E (z6N (z5C.mp hi).1)) up λnm h=>⟨(f nm h).nb,V.hasl I.gd o (f nm h).il,.inl ⟨nn,rfl,Y nm h⟩,I.new T (V.gtla Q O (f nm h)) (V.hasl I.gd o (f nm h).il) (.inl ⟨a,o,(f nm h).il⟩)⟩;rcases hN with⟨b,H,le⟩|⟨n1,n2⟩
  .have:=V.gtla Q O (f nn G) b H;exact .inl ⟨nn,rfl,lC⟩
  .exact .inr ⟨λa' e=>by (injection e with e;subst e);exact n1 a o,λh=>by contradiction⟩
 .rw[if_neg R];exact (V_ G Y up).symm
end
section
variable {wd:Str}
theorem Fr.len(M:Wm μ w C s g d x y z D u now vs B ps)(hj:μ.length<=j):Fr s g d vs j:=by
 have h1:=qz M.W.bk.lst;have h2:=qz M.W.gv;have b:=qz M.W.dc;exact⟨lC,lC,lC,λq a=>by have:=qz (M.bl q a);lia⟩
theorem R91.nil (hi:vs[i]?=some v) (a:Wm j w C s g d x y z D u now (vs.set i v') B ps') (sm:Smv v' v) (f:v'.b=v.b\/μ.length<=v'.b) (kp:Kq s g d vs μ j) (k:∀es,I91 x y z vs ps es->I91 x y z (vs.set i v') ps' es) (la:v'.la=if wd="bare" then none else v.la) (pl:ps'.length<=ps.length+1) (bl:v'.bs.length<=v.bs.length+1) (nl:(X.nmB y z v'.bs).length<=(X.nmB y z v.bs).length+12) (ex:P [] v' ps') :
  R91 P w C s g d x y z D u t now B vs ps i v wd μ (j++[.l []]) j.length [] v' ps':=
 ⟨a.law Ch.app sC,sm,z8,kp.len,Fr.len a (z5K _),⟨by simp;have:=kp.len;lia,λi o e n F=>z5 (kp.ot i o e n F)⟩,λq c F=>F.set c hi f,λes I=>by rw[za0,z6S];exact k es I,z6_,(λnm h=>by contradiction),by rw[la,if_pos rfl],(λ_ nm h=>by contradiction),sC,pl,bl,nl,ex⟩
theorem kq3{S:List Nat}(M:Wm μ w G C g d x y z H D now vs E ps)(c:v∈vs)(ch:Ch S μ B)(h:∀j∈S,j∈[v.u.h,v.u.s,v.b]):Kq C g d vs μ B:=Kq.of ch λj a=>by
 have e:v.u∈vs.map (·.u):=z5O.mpr ⟨v,c,rfl⟩;have a:=h j a;simp only[z61,z78,or_false] at a;rcases a with rfl|rfl|rfl
 .exact .inl (Qo M.W e).1
 .exact .inl (Qo M.W e).2
 .exact .inr (.inr (.inr ⟨v,c,rfl⟩))
theorem hsB(M:Wm μ w E D g d x y z B j now vs C ps)(a:v∈vs):μ[v.u.h]?=some (hsO (shp x y z) B j (kpW v.u.s) v.u.l v.u.m v.u.n (.m v.b) false):=by
 have:=M.W.hs v.u (z5O.mpr ⟨v,a,rfl⟩);rw[<-M.bt v a];exact this
theorem Zw (hw:wd="store") (N:N91 x y z B C) (M:Wm μ w cm gr g d x y z B C now vs rs ps) (I:I91 x y z vs ps es) (hi:vs[i]?=some v) (rb:-1000000000000000<=v.u.rd t) (k1:1<=k) (k2:k<=z) (k3:k<=12) (R:v.bs.length<=900)
  (ql:(∀a,v.u.l=some a->a.2.2*z<zd y z a v.u.n v.u.m (v.u.rd t)+k)->Z 18 [] μ) (qw:∀a,v.u.l=some a->zd y z a v.u.n v.u.m (v.u.rd t)+k<=a.2.2*z->0<byP z (v.u.rd t) B (zd y z a v.u.n v.u.m (v.u.rd t)+k)->Z 21 [(29,.int (byP z (v.u.rd t) B (zd y z a v.u.n v.u.m (v.u.rd t)+k)))] μ) (hP:∀a j,v.u.l=some a->zd y z a v.u.n v.u.m (v.u.rd t)+k<=a.2.2*z->byP z (v.u.rd t) B (zd y z a v.u.n v.u.m (v.u.rd t)+k)<=0->P [] ⟨{v.u with l:=some a,m:=some (mkW x y z C a v.u.n v.u.m (v.u.rd t) k),n:=some (nwW y z a v.u.n v.u.m (v.u.rd t) k),kt:=j},v.b,v.bs++[(a.1,zd y z a v.u.n v.u.m (v.u.rd t),zd y z a v.u.n v.u.m (v.u.rd t)+k)],v.la⟩ ps) (q:G91 P w cm gr g d x y z B C t now rs vs ps i v wd μ K) :
  zD [.m w,Q4 wd t v.u.ho k] μ K Z:=by
 obtain⟨x1,U,y2,T,z2⟩:=id N.s;have H:=z5E (atU hi);have A:=z5E hi;have W:=M.W;have V:=I.v v A;have zb:=N.zb;refine qm M hi (nhW I) ⟨_,rfl,(zA (by rw[hw];decide) ?_)⟩;refine⟨_,rfl,(zA (by rw[hw];decide) ?_)⟩;refine⟨_,rfl,(qj hw ⟨_,_,_,W.se _ H,rfl,_,W.hs _ H,_,rfl,(z12 N.s N.xb rb V.ok V.kt (hsB M A) (W.se _ H) (M.bl v A) R (λp O=>(V.bo p O).be) V.nb k1 k2 N.a0 ql qw λa E S e2 μ' j _ hk ch gh gs gb=>?_)⟩)⟩;have ok:=V.ok a E;have uz:a.2.2*z<=x*z:=z64 ok.ux lC;have o:=λnm (h:nm∈nmL y z a.1 (zd y z a v.u.n v.u.m (v.u.rd t)) k)=>Wg N.s ok S e2 h;obtain⟨J,l2⟩:=Vz (n:=v.u.n) (m:=v.u.m) (r:=v.u.rd t) N.s ok k1;obtain⟨m0,m1,m2,m3⟩:=z0g N.s ok S k1 N.d0 V.mb;have up:(nmL y z a.1 (zd y z a v.u.n v.u.m (v.u.rd t)) k).Pairwise (·<·):=z07 N.s ok;have ll:(nmL y z a.1 (zd y z a v.u.n v.u.m (v.u.rd t)) k).length=k.toNat:=vd;have G:X.nmB y z (v.bs++[(a.1,zd y z a v.u.n v.u.m (v.u.rd t),zd y z a v.u.n v.u.m (v.u.rd t)+k)])=X.nmB y z v.bs++nmL y z a.1 (zd y z a v.u.n v.u.m (v.u.rd t)) k:=by
  rw[X.nmB_snoc];rw[show zd y z a v.u.n v.u.m (v.u.rd t)+k-zd y z a v.u.n v.u.m (v.u.rd t)=k by lia]
 have Bo:X.BOk x y z (v.bs++[(a.1,zd y z a v.u.n v.u.m (v.u.rd t),zd y z a v.u.n v.u.m (v.u.rd t)+k)]):=V.bo.snoc ⟨ok.h0,ok.h1,(vn (n:=v.u.n) (m:=v.u.m) (r:=v.u.rd t) N.s ok),lC,lC,lC⟩;have pe:=hP a j E S e2;generalize (a.1,zd y z a v.u.n v.u.m (v.u.rd t),zd y z a v.u.n v.u.m (v.u.rd t)+k)=bb at *;generalize mkW x y z C a v.u.n v.u.m (v.u.rd t) k=D at *;generalize nwW y z a v.u.n v.u.m (v.u.rd t) k=nn at *;generalize nmL y z a.1 (zd y z a v.u.n v.u.m (v.u.rd t)) k=L at *;have F:∀q∈X.nmB y z v.bs,∀p∈L,q<p:=λq f p O=>by
  obtain⟨_,_,⟨c,Q,le⟩,_⟩:=V.bi q f;have:=(o p O).up c Q;lia
 have V':V91 x y z ps ⟨{v.u with l:=some a,m:=some D,n:=some nn,kt:=j},v.b,v.bs++[bb],v.la⟩:=
  ⟨V.h1,V.h2,λa' e=>by (injection e with e;subst e);exact ok,λk' e=>by (injection e with e;subst e);exact (o nn J).nb,λc e=>by (injection e with e;subst e);exact⟨m0,m1⟩,hk,λa' e=>by (injection e with e;subst e);exact V.ls a E,λk' e=>by (injection e with e;subst e);exact⟨D,rfl,m2⟩,λb hb=>by
   obtain⟨⟨c,Q,h1⟩,_⟩:=V.la b hb;refine⟨⟨D,rfl,z7I h1 (m3 c Q)⟩,λk' e=>?_⟩;(injection e with e;subst e);exact z8p (V.gtla U T (o nn J) b hb),Bo,λq f=>by
   rw[G] at f;rcases z5L.mp f with f|f
   .obtain⟨c0,c1,c2,c3⟩:=V.bi q f;exact⟨c0,c1,⟨nn,rfl,z8p (F q f nn J)⟩,c3⟩
   .exact⟨(o q f).nb,V.gtla U T (o q f),⟨nn,rfl,l2 q f⟩,V.hasl I.gd E (o q f).il⟩,by
   rw[G,z7J];exact⟨V.bp,up,F⟩⟩
 refine q _ _ _ _ _ (R91.nil (v':=⟨{v.u with l:=some a,m:=some D,n:=some nn,kt:=j},v.b,v.bs++[bb],v.la⟩) hi (M.upd hi ch ⟨rfl,rfl,rfl,rfl,rfl⟩ (.inl rfl) (.inl rfl) (by rw[show (Hr.house x y z B C {v.u with l:=some a,m:=some D,n:=some nn,kt:=j})=hsO (shp x y z) B C (kpW v.u.s) (some a) (some D) (some nn) v.u.bt false from rfl,M.bt v A];exact gh) gs (M.bt v A) gb) ⟨rfl,rfl,rfl,rfl,rfl⟩ (.inl rfl) (kq3 M A ch λ_ h=>h) (λes I=>I.upd hi V' rfl λnm hN=>?_) (by rw[if_neg (by rw[hw];decide)]) lC sC (by rw[G,z6k];lia) pe);rcases hN with h|⟨Y,n2⟩
 .exact .inl h
 .refine .inr ⟨λa' e=>by (injection e with e;subst e);exact Y a E,λh=>?_⟩;rw[G] at h;rcases z5L.mp h with h|h
  .exact n2 h
  .exact Y a E (o nm h).il
theorem kM (hw:wd="take") (N:N91 x y z ah sd) (M:Wm μ w cm gr g d x y z ah sd now vs rs ps) (I:I91 x y z vs ps es) (hi:vs[i]?=some v) (k1:1<=k) (k3:k<=12) (hbl:v.bs.length<=900) (U:(X.nmB y z v.bs).length<=100000)
  (qx:((X.nmB y z v.bs).length:Int)<k->Z 22 [] μ) (hP:∀os B b,k<=((X.nmB y z v.bs).length:Int)->X.nmB y z os=(X.nmB y z v.bs).drop k.toNat->P ((X.nmB y z v.bs).take k.toNat) ⟨{v.u with bt:=.m B},B,os,some b⟩ ps) (q:G91 P w cm gr g d x y z ah sd t now rs vs ps i v wd μ K) :
  zD [.m w,Q4 wd t v.u.ho k] μ K Z:=by
 obtain⟨x1,y1,y2,z1,z2⟩:=id N.s;have J:=z5E (atU hi);have H:=z5E hi;have W:=M.W;have V:=I.v v H;have zb:=N.zb;have xz:=zaD N.xb zb lC lC;refine qm M hi (nhW I) ⟨_,rfl,(zA (by rw[hw];decide) ?_)⟩;refine⟨_,rfl,(qj hw ⟨_,_,_,W.se _ J,rfl,_,W.hs _ J,_,rfl,(X.take_sp N.s lC (hsB M H) (M.bl v H) lC V.bo U k1 qx λhk os S j B Bo O ol ch jl fl ne gh gb gj=>?_)⟩)⟩;have C:=V.bi;have bp:=V.bp;have f:∀q∈(X.nmB y z v.bs).take k.toNat,q∈X.nmB y z v.bs:=λq h=>z6D h;have Yu:∀q∈X.nmB y z os,q∈X.nmB y z v.bs:=λq h=>by rw[O] at h;exact z8h h
 have D:∀p∈(X.nmB y z v.bs).take k.toNat,∀q∈X.nmB y z os,p<q:=by
  rw[O];have:=bp;rw[<-z89 k.toNat (X.nmB y z v.bs),z7J] at this;exact this.2.2
 have up:((X.nmB y z v.bs).take k.toNat).Pairwise (·<·):=bp.sublist (z7d _ _);have Y:(X.nmB y z os).Pairwise (·<·):=O▸bp.sublist (List.drop_sublist _ _);have o:((X.nmB y z v.bs).take k.toNat).length=k.toNat:=by rw[z6B];lia
 have len2:(X.nmB y z os).length<=(X.nmB y z v.bs).length:=by rw[O,z8V];lia
 have pe:=λb=>hP os B b hk O;clear hP qx;generalize (X.nmB y z v.bs).take k.toNat=L at *;have l:L≠[]:=λe=>by rw[e] at o;simp at o;lia
 obtain⟨b,E⟩:∃b,L.getLast?=some b:=⟨_,z7c l⟩;have R:b∈L:=by rw[z7c l] at E;(replace E:=zm E;subst E);exact z9W l
 have le:∀p∈L,p<=b:=λp hp=>by
  obtain⟨m,G,Q⟩:∃m∈L,∀q∈L,q<=m:=by
   clear E R hp D gj o f pe;induction L with
   |nil=>exact absurd rfl l
   |cons a r ih=>
    cases r with
    |nil=>exact⟨a,sC,λq A=>z5F.mp A▸z6E _⟩
    |cons c r=>
     rw[zb4] at up;obtain⟨m,G,Q⟩:=ih up.2 sC;exact⟨m,z5T _ G,λq A=>by
      rcases z61.mp A with rfl|A
      .exact z8p (up.1 m G)
      .exact Q q A⟩
  have:=V_ G Q up;rw[E] at this;(replace this:=zm this;subst this);exact Q p hp
 have V':V91 x y z ps ⟨{v.u with bt:=.m B},B,os,some b⟩:=
  ⟨V.h1,V.h2,V.ok,V.nb,V.mb,V.kt,V.ls,V.nm,λc e=>by
   (injection e with e;subst e);obtain⟨_,_,⟨n,hn,h1⟩,_⟩:=C b (f b R);obtain⟨m,G,h2⟩:=V.nm n hn;exact⟨⟨m,G,z7I (V6 y1 z1 h1) h2⟩,λk' e=>by rw[hn] at e;(replace e:=zm e;subst e);exact h1⟩,Bo,λq A=>by
   obtain⟨c0,c1,c2,c3⟩:=C q (Yu q A);exact⟨c0,λc e=>by (injection e with e;subst e);exact D b R q A,c2,c3⟩,Y⟩
 have T:=zv (W.se _ J) (W.hs _ J) (λe=>by cases e);refine q j L ⟨{v.u with bt:=.m B},B,os,some b⟩ ps S ⟨M.upd hi (ch.mono sC) ⟨rfl,rfl,rfl,rfl,rfl⟩ (.inl rfl) (.inr fl) gh (ch.get (W.se _ J) (by simpa using T)) rfl gb,⟨rfl,rfl,rfl,rfl,rfl⟩,gj,jl,Fr.new M jl hi ne,kq3 M H ch sC,λq A F=>F.set A hi (.inr fl),λes I=>?_,up,λnm h=>⟨(C nm (f nm h)).1.1,(C nm (f nm h)).2.1⟩,by rw[if_neg l,E],λe=>by rw[hw] at e;exact absurd e dC,lC,lC,lC,lC,pe b⟩;refine (I.upd hi V' rfl λnm hN=>?_).tell (v:=⟨{v.u with bt:=.m B},B,os,some b⟩) (z5E (z6N (z5C.mp hi).1)) up λnm h=>⟨(C nm (f nm h)).1,(C nm (f nm h)).2.2.2,.inl ⟨b,rfl,le nm h⟩,I.new H (C nm (f nm h)).2.1 (C nm (f nm h)).2.2.2 (.inr (f nm h))⟩;rcases hN with⟨c,hc,h⟩|⟨n1,n2⟩
 .have:=(C b (f b R)).2.1 c hc;exact .inl ⟨b,rfl,lC⟩
 .exact .inr ⟨n1,λh=>n2 (Yu nm h)⟩
variable {i0:Nat}
noncomputable def z2S(c:List Gp)(h m n b:Int):Prop:=m<=b/\(∀p∈c,p.2.h=h->mt p.2 b (b+n)=false)/\∀a,m<=a->a<b->∃p∈c,p.2.h=h/\mt p.2 a (a+n)=true
noncomputable def z05(b:List Gp)(m n h:Int):Prop:=0<=h/\(∀p∈b,p.2.h=h->mt p.2 m (m+n)=false)/\∀a,0<=a->a<h->∃p∈b,p.2.h=a/\mt p.2 m (m+n)=true
theorem y_{bs:List Gp}{m n:Int}{i0:Nat}(h:∀p∈bs,μ[p.1]?=some p.2.O)(P:bs.length<64)(M:1<=n)(ht:μ[i0]?=some (.tab 0))(q:∀b,m<=b->(∀p∈bs,mt p.2 b (b+n)=false)->(∀s,m<=s->s<b->∃p∈bs,mt p.2 s (s+n)=true)->K (.int b) μ):kU [.l (bs.map Gp.t),.int m,.int n] μ K Z:=by
 refine⟨rfl,⟨i0,ht⟩,by rw[z5H];exact P,bs.map (·.2.f),Vv h,λT v hs=>?_⟩;have Q:(bs.map (·.2.f)).zip (bs.map Gp.t)=bs.map λp=>(p.2.f,Gp.t p):=by rw[List.zip_map',]
 rw[Q] at v;obtain⟨r,F,rfl⟩:=QX v rfl;rw[z69,z72] at *;have A:∀p∈r,μ[p.1]?=some p.2.O:=λp v=>h p (F.mem_iff.mp v);refine zH (λi E k=>∃b o,E=[some (.l (bs.map Gp.t)),some (.int m),some (.int n),some (.int b),o]/\k=μ/\m<=b/\(∀p∈r.take i,mt p.2 b (b+n)=false)/\∀s,m<=s->s<b->∃p∈bs,mt p.2 s (s+n)=true) ⟨m,none,rfl,rfl,z6E _,sC,λs y D=>by omega⟩ ?_ ?_
 .rintro i x E k l ⟨b,o,rfl,rfl,I,B,c⟩ N J;rw[z5Z] at l;cases d:r[i]? with
  |none=>rw[d] at l;exact z7 l
  |some p=>
   rw[d] at l;(injection l with l;subst l);have G:=z5E d;have et:r.take (i+1)=r.take i++[p]:=by rw[z6w,d];rfl
   have L:∀g∈r.take i,g.2.f<=p.2.f:=λg a=>by
    obtain⟨j,C⟩:=z6d.mp a;rw[List.getElem?_take] at C;split at C
    .rename_i H;obtain⟨y,S⟩:=z5C.mp C;obtain⟨D,R⟩:=z5C.mp d;have:=(z6h.mp hs) j i y D H;rw[S,R] at this;exact this
    .exact z7 C
   refine⟨_,rfl,(Q5 (A p G) (zY (λe=>?_) (λe=>?_)))⟩
   .refine⟨_,_,_,A p G,rfl,?_⟩;have e:=vH.mp e;refine J _ _ ⟨p.2.u,_,rfl,rfl,by omega,λg a=>?_,λs y D=>?_⟩
    .rw[et] at a;rcases z5L.mp a with a|a
     .have y:=B g a;have D:=L g a;refine VT λz=>?_;have:mt g.2 b (b+n)=true:=vH.mpr (by omega);rw[y] at this;injection this
     .rw[z5F.mp a];exact VT (by omega)
    .by_cases w:s<b
     .exact c s y w
     .exact⟨p,F.mem_iff.mp G,vH.mpr (by omega)⟩
   .refine J _ _ ⟨b,_,rfl,rfl,I,λg a=>?_,c⟩;rw[et] at a;rcases z5L.mp a with a|a
    .exact B g a
    .rw[z5F.mp a];exact e
 .rintro E k ⟨b,o,rfl,rfl,I,B,c⟩;refine q b I (λp v=>B p ?_) c;rw[z5H,z6z (z5K _)];exact F.mem_iff.mpr v
theorem yr{g:Nat}{m n:Int}(hg:μ[g]?=some (.l (ps.map Gp.t)))(h:∀p∈ps,μ[p.1]?=some p.2.O)(P:ps.length<1000)
    (q:∀b j,z05 ps m n b->Ch [] μ j->K (.int b) j):xk [.m g,.int m,.int n] μ K Z:=by
  refine⟨rfl,_,z5 hg,(zH (λi l j=>∃a o,l=[some (.m g),some (.int m),some (.int n),some (.m μ.length),o,none]/\j=μ++[.d a]/\a.length<=i/\(∀p∈ps.take i,mt p.2 m (m+n)=true->inD a p.2.h=true)/\∀b,inD a b=true->∃p∈ps,p.2.h=b/\mt p.2 m (m+n)=true) ⟨[],none,rfl,rfl,z5K _,sC,λb e=>by injection e⟩ ?_ ?_ ?_)⟩
  · rintro i x l j r ⟨a,o,rfl,rfl,J,s,A⟩ N C;rw[z5Z] at r;cases d:ps[i]? with
    |none=>rw[d] at r;exact z7 r
    |some p=>
      rw[d] at r;(injection r with r;subst r);have E:=z5E d;have I:=(z5C.mp d).1;have et:ps.take (i+1)=ps.take i++[p]:=by rw[z6w,d];rfl
      refine⟨_,rfl,(Q5 (z5 (h p E)) (zY (λe=>?_) (λe=>?_)))⟩
      · refine ⟨_,_,_,z5 (h p E),rfl,_,rfl,(.inr ⟨_,z8,by unfold room; omega,?_⟩)⟩;have M:(μ++[MO.d a]).set μ.length (MO.d (wA (.inl p.2.h) (.bl true) a))=μ++[MO.d (wA (.inl p.2.h) (.bl true) a)]:=by
          rw[z74 _ _ (z5K _)];simp
        rw[M];refine C _ _ ⟨_,_,rfl,rfl,z66 jK (by omega),λy c v=>?_,λb u=>?_⟩
        · by_cases z : y.2.h = p.2.h
          · rw[z];exact xV _
          · unfold inD;rw[k7 (λw=>z (by injection w))];rw[et] at c;rcases z5L.mp c with c|c
            · exact s y c v
            · rw[z5F.mp c] at z;exact absurd rfl z
        · by_cases z : b = p.2.h
          · exact⟨p,E,z.symm,e⟩
          · unfold inD at u;rw[k7 (λw=>z (by injection w))] at u;exact A b u
      · refine C _ _ ⟨a,_,rfl,rfl,by omega,fun y c v => ?_,A⟩;rw[et] at c;rcases z5L.mp c with c|c
        · exact s y c v
        · rw[z5F.mp c,e] at v;injection v
  · rintro l j ⟨a,o,rfl,rfl,J,s,A⟩;rw[z5H,z6z (z5K _)] at s;obtain⟨B,L⟩:=kL a;refine Jj (λk l j=>∃b:Int,0<=b/\k=(B-b).toNat/\l=[some (.m g),some (.int m),some (.int n),some (.m μ.length),o,some (.int b)]/\j=μ++[.d a]/\∀f,0<=f->f<b->inD a f=true) (B-0).toNat ⟨0,z6E _,rfl,rfl,rfl,λf D F=>by omega⟩ ?_;rintro k l j ⟨b,u,rfl,rfl,rfl,hd⟩ N C;refine⟨_,z8,(zY (λe=>?_) (λe=>?_))⟩
    · have := L b e;exact C _ _ _ (show (B-(b+1)).toNat<(B-b).toNat by omega) ⟨b+1,by omega,rfl,rfl,rfl,λf D F=>by
        by_cases w:f=b
        · rw[w];exact e
        · exact hd f D (by omega)⟩
    · refine q b _ ⟨u,fun p H G => ?_,fun f D F => A f (hd f D F)⟩ Ch.app;cases z:mt p.2 m (m+n) with
      |false=>rfl
      | true => have := s p H z
                rw[G] at this
                unfold inD at this
                rw[e] at this;injection this
  · rintro i l j ⟨a,o,rfl,rfl,_⟩;exact z5 hg
noncomputable def Lease(ps:List Gp)(hs:T)(m n h b:Int):Prop:=(hs=.n/\b=m/\z05 ps m n h)\/(hs=.int h/\z2S ps h m n b)
theorem Lease.one{hs:T}{m n h b h' d:Int}(a:Lease ps hs m n h b)(j:Lease ps hs m n h' d):h=h'/\b=d:=by
 rcases a with⟨rfl,rfl,e0,i,g⟩|⟨rfl,e0,i,g⟩
 .rcases j with⟨_,rfl,f0,f,e⟩|⟨z,_⟩
  .refine⟨?_,rfl⟩;rcases zbz h h' with w|w|w
   .obtain⟨p,c,p1,p2⟩:=e h e0 w;rw[i p c p1] at p2;injection p2
   .exact w
   .obtain⟨p,c,p1,p2⟩:=g h' f0 w;rw[f p c p1] at p2;injection p2
  .injection z
 .rcases j with⟨z,_⟩|⟨z,f0,f,e⟩
  .injection z
  ·(injection z with z;subst z);refine⟨rfl,?_⟩;rcases zbz b d with w|w|w
   .obtain⟨p,c,p1,p2⟩:=e b e0 w;rw[i p c p1] at p2;injection p2
   .exact w
   .obtain⟨p,c,p1,p2⟩:=g d f0 w;rw[f p c p1] at p2;injection p2
theorem uw{hs:T}{m n:Int}(B:Bk μ c g (shp x y z) ps)(ht:μ[i0]?=some (.tab 0))(v:ps.length<900)(hf:∀h:Int,(ps.filter λp=>decide (p.2.h=h)).length<64)(i:1<=n)(h2:xr y hs)
  (q:∀h b j,0<=h->Lease ps hs m n h b->Ch [] μ j->K (.t [.int h,.int b,.int (b+n)]) j):wz [.m c,hs,.int m,.int n] μ K Z:=by
 refine⟨rfl,?_⟩;rcases h2 with rfl|⟨h,rfl,a,b⟩
 .refine⟨_,_,_,B.com,rfl,(yr B.lst B.at_ (by omega) λh j hf ch=>?_)⟩;exact q h m j hf.1 (.inl ⟨rfl,rfl,hf⟩) ch
 .refine⟨_,B.com,(Zz B (by omega) ?_)⟩;refine y_ (λp d=>B.at_ p (z6o.mp d).1) (hf h) i ht λb o l f=>q h b μ a (.inr ⟨rfl,o,λp d k=>l p (z6o.mpr ⟨d,by simpa using k⟩),λu t h2=>?_⟩) Ch.refl;obtain⟨p,d,e⟩:=f u t h2;obtain⟨s,r⟩:=z6o.mp d;exact⟨p,s,by simpa using r,e⟩
theorem Kz{ho:Str}{hs:T}{m n:Int}(B:Bk μ c g (shp x y z) ps)(ht:μ[i0]?=some (.tab 0))(u:ps.length<900)(hf:∀h:Int,(ps.filter λp=>decide (p.2.h=h)).length<64)(h0:ho.length<=room)(h1:qh ho=true)(h2:xr y hs)(r:1<=n)
  (l:∀h b j,Lease ps hs (if m<0 then 0 else m) n h b->(y<=h\/x<b+n)->Ch [] μ j->Z 19 [] j)
  (t:∀h b j a,0<=h->h<y->0<=b->b+n<=x->Lease ps hs (if m<0 then 0 else m) n h b->μ.length<=a->Ch [g] μ j->Bk j c g (shp x y z) (ps++[(a,⟨ho,h,b,b+n,b+n,false⟩)])->K (.t [.int h,.int b,.int (b+n)]) j):w9 [.m c,.str ho,hs,.int m,.int n] μ K Z:=by
 refine⟨rfl,_,B.com,(ZC B h0 h1 h2 r ⟨_,B.com,?_⟩)⟩;refine uw B ht u hf r h2 λh b f v i ch=>?_;have B1:=B.ch ch sC sC sC;have k:0<=b:=by
  have:0<=(if m<0 then 0 else m):=by split<;>omega
  rcases i with⟨_,e,_⟩|⟨_,e,_⟩<;>omega
 refine⟨_,rfl,_,_,_,B1.com,rfl,(zC (λe=>?_) (λe=>?_))⟩
 .exact⟨dC,l h b _ i (.inl e) ch⟩
 .refine⟨_,rfl,_,_,_,B1.com,rfl,(zC (λs=>?_) (λs=>?_))⟩
  .exact⟨dC,l h b _ i (.inr s) ch⟩
  .refine⟨_,_,_,B1.com,rfl,⟨_,B1.lst⟩,?_⟩;have D:=(z5C.mp B1.lst).1;refine⟨rfl,_,_,z8,dC,_,_,get_set z8,by show (1:Nat)<900;decide,?_⟩;refine⟨_,rfl,_,_,get_set (get_set z8),by show (2:Nat)<900;decide,?_⟩;refine⟨_,_,get_set (get_set (get_set z8)),by show (3:Nat)<900;decide,?_⟩;refine⟨rfl,?_⟩;have A:∀(μ:Mem) (a b:MO),(μ++[a]).set μ.length b=μ++[b]:=λμ a b=>by rw[z74 _ _ (z5K _)];simp
   simp only[A];refine⟨_,z5 B1.lst,by rw[z5H];unfold room;omega,?_⟩;refine t h b _ f.length v (by omega) k (by omega) i ch.len ?_ ?_
   .refine (ch.mono sC).trans ((Ch.app.mono sC).trans Ch.set)
   .have o:∀p∈ps,p.1≠g/\p.1<f.length:=λp d=>by
     refine⟨λe=>?_,(z5C.mp (B1.at_ p d)).1⟩;have:=B1.at_ p d;rw[e,B1.lst] at this;cases this
    have C:c≠g:=λe=>by
     have:=B1.com;rw[e,B1.lst] at this;cases this
    refine⟨?_,?_,λp d=>?_,?_⟩
    .rw[z5G C.symm];exact z5 B1.com
    .rw[z5Y];exact get_set (z5 B1.lst)
    .rcases z5L.mp d with d|d
     .rw[z5G (o p d).1.symm];exact z5 (B1.at_ p d)
     .rw[z5F.mp d,z5G (by omega)];exact z8
    .rw[z5Y,z6L];refine⟨B1.nd,sC,λa w b q e=>?_⟩;obtain⟨p,d,rfl⟩:=z5O.mp w;have q:b=f.length:=by simpa using q
     have:=(o p d).2;omega
theorem Lease.free{hs:T}{m n h b:Int}(a:Lease ps hs m n h b):∀p∈ps,p.2.h=h->mt p.2 b (b+n)=false:=by
 rcases a with⟨_,rfl,e⟩|⟨_,e⟩
 .exact e.2.1
 .exact e.2.1
variable {i1:Nat}
theorem JH (hw:wd="lease") (N:N91 x y z G E) (M:Wm μ w cm H g d x y z G E now vs U ps) (I:I91 x y z vs ps es) (hi:vs[i]?=some v) (ht:μ[i0]?=some (.tab 0)) (X:ps.length<64) (h2:xr y hs) (J:1<=n)
  (R:∀h b D,Lease ps hs (if v.u.rd t<0 then 0 else v.u.rd t) n h b->(y<=h\/x<b+n)->Ch [] μ D->Z 19 [] D) (hP:∀h b a C,Lease ps hs (if v.u.rd t<0 then 0 else v.u.rd t) n h b->h<y->b+n<=x->P [] {v with u:={v.u with l:=some (h,b,b+n),kt:=C}} (ps++[(a,⟨v.u.ho,h,b,b+n,b+n,false⟩)])) (q:G91 P w cm H g d x y z G E t now U vs ps i v wd μ K) :
  zD [.m w,lsR wd t v.u.ho hs n] μ K Z:=by
 have f:=z5E (atU hi);have c:=z5E hi;have W:=M.W;have V:=I.v v c;refine qm M hi (nhW I) ⟨_,rfl,(zA (by rw[hw];decide) ?_)⟩;refine⟨_,rfl,(zA (by rw[hw];decide) ?_)⟩;refine⟨_,rfl,(zA (by rw[hw];decide) ?_)⟩;refine⟨_,rfl,(qj hw ⟨_,_,_,W.se _ f,rfl,_,W.hs _ f,_,_,_,W.wo,rfl,_,W.bk.com,_,rfl,_,rfl,_,rfl,(Kz W.bk ht (by lia) (λ_=>z8D (zam ..) X) V.h1 V.h2 h2 J R λh b Q a L r O A F al ch B=>?_)⟩)⟩;have M1:=M.book ch (λj o=>.inl (z5F.mp o)) B;refine z0O (a:=(h,b,b+n)) V.kt (hsB M1 c) (M1.W.se _ f) ⟨L,r,O,lC,A⟩ λp C Y k ln gh gs=>?_;have M2:=M1.upd (v':={v with u:={v.u with l:=some (h,b,b+n),kt:=C}}) hi (k.mono sC) ⟨rfl,rfl,rfl,rfl,rfl⟩ (.inl rfl) (.inl rfl) (by rw[show (Hr.house x y z G E {v.u with l:=some (h,b,b+n),kt:=C})=hsO (shp x y z) G E (kpW v.u.s) (some (h,b,b+n)) v.u.m v.u.n v.u.bt false from rfl,M.bt v c];exact gh) gs (M.bt v c) (k.get (M1.bl v c) (by
  simp only[z61,z78,or_false,not_or];exact⟨zv (M1.bl v c) (M1.W.hs _ f) (λe=>by injection e),zv (M1.bl v c) (M1.W.se _ f) (λe=>by injection e)⟩))
 have T:Kq H g d vs μ p:=Kq.of (S:=[H,v.u.h,v.u.s]) ((ch.mono sC).trans (k.mono sC)) λj o=>by
  simp only[z61,z78,or_false] at o;rcases o with rfl|rfl|rfl
  .exact .inr (.inl rfl)
  .exact .inl (Qo W f).1
  .exact .inl (Qo W f).2
 exact q _ _ _ _ _ (R91.nil hi M2 ⟨rfl,rfl,rfl,rfl,rfl⟩ (.inl rfl) T (λes I=>I.lease hi L r O J A F.free Y) (by rw[if_neg (by rw[hw];decide)]) sC sC sC (hP h b a C F r A))
noncomputable def z1Y (f u:Int)(o:Option Int):Int:=match jV f u o with
 |none=>f
 |some s=>s+1
theorem Vw{f u:Int}(fu:f<u)(o:Option Int):z1H f u (opT (jV f u o)) (z1Y f u o):=by
 unfold z1Y;cases h:jV f u o with
 |none=>exact .inl ⟨rfl,rfl⟩
 |some s=>
  refine .inr ⟨s,rfl,?_,?_,rfl⟩<;>(unfold jV at h;cases o with
   |none=>exact z7 h
   |some c=>
    simp only at h
    split at h
    .exact z7 h
    ·(replace h:=zm h;subst h);split<;>lia)
theorem Z_ (hw:wd="back") (N:N91 x y z U H) (M:Wm μ w cm Q g d x y z U H now vs Y ps) (I:I91 x y z vs ps es) (hi:vs[i]?=some v)
  (O:v.u.l=none->Z 18 [] μ) (X:∀a p D C,v.u.l=some a->p∈ps->p.2.h=a.1->p.2.f=a.2.1->p.2.u0=a.2.2->p.2.ct=false->P [] ⟨{v.u with l:=none,kt:=C,bt:=.m D},D,[],v.la⟩ (setG p.1 (z1Y a.2.1 a.2.2 (yA y z v.u.n v.u.m)) ps)) (q:G91 P w cm Q g d x y z U H t now Y vs ps i v wd μ K) :
  zD [.m w,.t [.str wd,.int t,.str v.u.ho]] μ K Z:=by
 have b:=z5E (atU hi);have W:=M.W;have V:=I.v v (z5E hi);refine qm M hi (nhW I) ⟨_,rfl,(zA (by rw[hw];decide) ?_)⟩;refine⟨_,rfl,(zA (by rw[hw];decide) ?_)⟩;refine⟨_,rfl,(zA (by rw[hw];decide) ?_)⟩;refine⟨_,rfl,(zA (by rw[hw];decide) ?_)⟩;refine⟨_,rfl,(qj hw ⟨_,_,_,W.se _ b,rfl,_,W.hs _ b,(z3C N.s V.kt (W.hs _ b) (W.se _ b) V.nb O λa F L C D T ch J gh gs gb=>?_)⟩)⟩;have ok:=V.ok a F;have M1:=M.upd (v':=⟨{v.u with l:=none,kt:=C,bt:=.m D},D,[],v.la⟩) hi (ch.mono sC) ⟨rfl,rfl,rfl,rfl,rfl⟩ (.inl rfl) (.inr J) gh gs rfl gb;refine⟨_,_,_,M1.W.wo,rfl,_,M1.W.bk.com,_,rfl,_,rfl,(z1q M1.W.bk ok.h0 ok.h1 ok.f0 ok.fu ok.ux (Vw ok.fu _) ?_ λp c A r o k G e ln B=>?_)⟩
 .obtain⟨p,c,_,A,r,o,k⟩:=V.ls a F;exact⟨p,c,A,r,o,k⟩
 have R:Kq Q g d vs μ G:=Kq.of (S:=[p.1,v.u.h,v.u.s]) ((ch.mono sC).trans (e.mono sC)) λj E=>by
  simp only[z61,z78,or_false] at E;rcases E with rfl|rfl|rfl
  .exact .inl ⟨_,W.bk.at_ p c,_,_,rfl⟩
  .exact .inl (Qo W b).1
  .exact .inl (Qo W b).2
 exact q _ _ _ _ _ (R91.nil hi (M1.book e (λj E=>.inr ⟨p,c,z5F.mp E⟩) B) ⟨rfl,rfl,rfl,rfl,rfl⟩ (.inr J) R (λes I=>I.cut N.s W.bk.nd hi F c A r o k (Vw ok.fu _) T) (by rw[if_neg (by rw[hw];decide)]) (by unfold setG;simp) sC (by show 0<=_;lia) (X a p D C F c A r o k))
theorem QE (hw:wd="fall") (N:N91 x y z B s) (M:Wm μ w E D g d x y z B s now vs C ps) (I:I91 x y z vs ps es) (hi:vs[i]?=some v) (ht:μ[i1]?=some (.tab 1)) (m:∀h j,P [] ⟨{v.u with h:=h,n:=none,bt:=.m j},j,[],v.la⟩ ps)
  (q:G91 P w E D g d x y z B s t now C vs ps i v wd μ K) :
  zD [.m w,.t [.str wd,.int t,.str v.u.ho]] μ K Z:=by
 have b:=z5E hi;have W:=M.W;have V:=I.v v b;refine qm M hi (nhW I) ⟨_,rfl,(zA (by rw[hw];decide) ?_)⟩;refine⟨_,rfl,(zA (by rw[hw];decide) ?_)⟩;refine⟨_,rfl,(zA (by rw[hw];decide) ?_)⟩;refine⟨_,rfl,(zA (by rw[hw];decide) ?_)⟩;refine⟨_,rfl,(zA (by rw[hw];decide) ?_)⟩;refine⟨_,rfl,(qj hw ⟨_,W.wo,(xW W.wo (W.se _ (z5E (atU hi))) ht N.a0 N.d0 V.kt V.mb V.ok λf j ch c p r A=>?_)⟩)⟩;have F:V91 x y z ps ⟨{v.u with h:=μ.length,n:=none,bt:=.m j},j,[],v.la⟩:=⟨V.h1,V.h2,V.ok,(λk e=>z7 e),V.mb,V.kt,V.ls,(λk e=>z7 e),λa e=>⟨(V.la a e).1,λk e=>z7 e⟩,X.BOk.nil,(λq H=>by contradiction),z6_⟩;refine q _ _ _ _ _ (R91.nil hi (M.upd (v':=⟨{v.u with h:=μ.length,n:=none,bt:=.m j},j,[],v.la⟩) hi (ch.mono sC) ⟨rfl,rfl,rfl,rfl,rfl⟩ (.inr (z5K _)) (.inr (z7w c)) r p rfl A) ⟨rfl,rfl,rfl,rfl,rfl⟩ (.inr (z7w c)) (kq3 M b ch sC) (λes I=>I.upd hi F rfl λnm o=>?_) (by rw[if_neg (by rw[hw];decide)]) lC sC (by show 0<=_;lia) (m _ _));rcases o with h|⟨l,G⟩
 .exact .inl h
 .exact .inr ⟨l,λh=>by contradiction⟩
theorem QL (hw:wd="bare") (N:N91 x y z H E) (M:Wm μ w Y U g d x y z H E now vs Q ps) (I:I91 x y z vs ps es) (hi:vs[i]?=some v) (ht:μ[i1]?=some (.tab 1)) (L:∀h j,P [] ⟨{v.u with h:=h,l:=none,m:=none,n:=none,bt:=.m j,kt:=.n},j,[],none⟩ ps)
  (q:G91 P w Y U g d x y z H E t now Q vs ps i v wd μ K) :
  zD [.m w,.t [.str wd,.int t,.str v.u.ho]] μ K Z:=by
 have f:=z5E (atU hi);have D:=z5E hi;have W:=M.W;have V:=I.v v D;refine qm M hi (nhW I) ⟨_,rfl,(zA (by rw[hw];decide) ?_)⟩;refine⟨_,rfl,(zA (by rw[hw];decide) ?_)⟩;refine⟨_,rfl,(zA (by rw[hw];decide) ?_)⟩;refine⟨_,rfl,(zA (by rw[hw];decide) ?_)⟩;refine⟨_,rfl,(zA (by rw[hw];decide) ?_)⟩;refine⟨_,rfl,(zA (by rw[hw];decide) ?_)⟩;refine⟨_,_,W.se _ f,by show (3:Nat)<900;decide,?_⟩;have r:=zv W.wo (W.se _ f) (λe=>by cases e);have B:Ch [v.u.s] μ (μ.set v.u.s (zT (.m v.u.c) (.m v.u.h) .n)):=Ch.set;have C:=B.get W.wo (by simpa using r);refine⟨_,C,(xW C (get_set (y:=zT (.m v.u.c) (.m v.u.h) .n) (W.se _ f)) (B.get ht (by simpa using zv ht (W.se _ f) (λe=>by injection e))) N.a0 N.d0 (.inl ⟨rfl,rfl,rfl⟩) (λv e=>z7 e) (λv e=>z7 e) λJ j ch p F G O=>?_)⟩;have p:μ.length<j:=by simpa using p
 have b:=B.trans ch;have R:V91 x y z ps ⟨{v.u with h:=μ.length,l:=none,m:=none,n:=none,bt:=.m j,kt:=.n},j,[],none⟩:=⟨V.h1,V.h2,(λa e=>z7 e),(λk e=>z7 e),(λk e=>z7 e),.inl ⟨rfl,rfl,rfl⟩,(λa e=>z7 e),(λk e=>z7 e),(λa e=>z7 e),X.BOk.nil,(λq S=>by contradiction),z6_⟩;have A:∀o,(μ.set v.u.s o).length=μ.length:=λo=>by simp
 rw[A] at F G;exact q _ _ _ _ _ (R91.nil hi (M.upd (v':=⟨{v.u with h:=μ.length,l:=none,m:=none,n:=none,bt:=.m j,kt:=.n},j,[],none⟩) hi (b.mono sC) ⟨rfl,rfl,rfl,rfl,rfl⟩ (.inr (z5K _)) (.inr (z7w p)) G F rfl O) ⟨rfl,rfl,rfl,rfl,rfl⟩ (.inr (z7w p)) (kq3 M D b sC) (λes I=>I.upd hi R rfl λnm T=>.inr ⟨(λa e=>z7 e),λh=>by contradiction⟩) (by rw[if_pos hw]) lC sC (by show 0<=_;lia) (L _ _))
end
theorem R91.put(R:R91 P w C G g d x y z D B t now H vs ps i v E μ s j L v' ps') :
  R91 P w C G g d x y z D B t (.int t) u vs ps i v E μ ((s.set w (k6 x y z D B C g d (.int t))).set g (.l u)) j L v' ps':=by
 have c:=zv R.hj R.M.W.wo (λe=>by injection e);have a:((s.set w (k6 x y z D B C g d (.int t))).set g (.l u))[j]?=some (.l (L.map T.int)):=by
  rw[z5G (z6f R.fj.n2),z5G (z6f c)];exact R.hj
 refine⟨R.M.now'.gave,R.sm,a,R.jn,R.fj,⟨by simp;exact R.kp.len,λq o e n F=>?_⟩,R.fr,R.I,R.up,R.gt,R.la,R.ask,R.ln,R.pl,R.bl,R.nl,R.ex⟩;have b:=R.kp.ot q o e n F;rw[z5G (z6f F.n2),z5G (z6f (zv b R.M.W.wo (λh=>n ⟨_,_,h⟩)))];exact b
abbrev Uk(P:List Int->Vh->List Gp->Prop)(w m l g d:Nat)(x y z n h t:Int)(k:List T)(vs:List Vh)(ps:List Gp)(i:Nat)(v:Vh)(e:Str)(μ:Mem)(K:T->Mem->Prop):Prop:=
 ∀c j L f b a,xa c t->R91 P w m l g d x y z n h t c (k++L.map (Yz t v.u.ho)) vs ps i v e μ a j L f b->K (.m j) a
theorem uS{r:List T}(er:s=.t (.str G::.int t::.str v.u.ho::r))(k:∀(K:T->Mem->Prop) (Z:Xp),K (.bl true) μ->kr [s] μ K Z)(M:Wm μ w D H g d x y z E B now vs C ps)(I:I91 x y z vs ps es)(hi:vs[i]?=some v)(l:xa now t)(F:C.length<=100000)
  (done:∀J,G91 P w D H g d x y z E B t now C vs ps i v G μ J->zD [.m w,s] μ J Z)
  (q:Uk P w D H g d x y z E B t C vs ps i v G μ K):we [.m w,s] μ K Z:=by
 have W:=M.W;have V:=I.v v (z5E hi);refine⟨rfl,_,W.wo,(ZI W (atU hi) (nhW I) l V.h1 V.h2 er k ⟨_,W.wo,(done _ λj L m f b R=>?_)⟩)⟩;subst er;refine⟨_,YM,_,_,R.M.W.wo,by show (7:Nat)<900;decide,?_⟩;have M2:=R.M.now' (nw:=.int t);have h:=zv R.hj R.M.W.wo (λe=>by injection e);have n:=R.ln;have a:(b.set w (k6 x y z E B D g d (.int t)))[j]?=some (.l (L.map T.int)):=by rw[z5G (z6f h)];exact R.hj
 refine⟨_,_,_,M2.W.wo,rfl,⟨_,M2.W.gv⟩,_,a,by rw[z5H];unfold room;lia,?_⟩;refine zX T.int (λnm=>some (Yz t v.u.ho nm)) (λp A o c=>?_) ?_ a
 .exact⟨_,rfl,_,YM,_,JY,c⟩
 .rw[show L.filterMap (λnm=>some (Yz t v.u.ho nm))=L.map (Yz t v.u.ho) by rw[z6A]];refine⟨_,_,M2.W.gv,.inl rfl,by rw[z5H];unfold room;lia,?_⟩;exact q _ _ _ _ _ _ (.inr ⟨t,rfl,z6E _⟩) R.put
theorem z3_ {a:Str} (h:a="ask"\/a="store"\/a="take") (q:K (.bl true) μ):jB [Q4 a t ho k] μ K Z:=by
 refine⟨rfl,_,rfl,_,rfl,?_⟩;rcases h with rfl|rfl|rfl<;>exact q
theorem Ke {a:Str} (h:a="ask"\/a="store"\/a="take") (q:K (.bl true) μ):kr [Q4 a t ho k] μ K Z:=by
 exact⟨rfl,(z3_ h ⟨_,rfl,zi q⟩)⟩
theorem z2M {a:Str} (h:a="back"\/a="fall"\/a="bare") (q:K (.bl true) μ):jB [.t [.str a,.int t,.str ho]] μ K Z:=by
 refine⟨rfl,_,rfl,_,rfl,?_⟩;rcases h with rfl|rfl|rfl<;>exact q
theorem z32 {a:Str} (h:a="back"\/a="fall"\/a="bare") (q:K (.bl true) μ):kr [.t [.str a,.int t,.str ho]] μ K Z:=by
 exact⟨rfl,(z2M h ⟨_,rfl,zi q⟩)⟩
inductive Rw(y z t:Int)(ho:Str):Str->T->Prop
 |ls {wd:Str} {hs:T} {n:Int}:wd="lease"->xr y hs->1<=n->Rw y z t ho wd (lsR wd t ho hs n)
 |nn {wd:Str} {k:Int}:wd="ask"\/wd="store"\/wd="take"->1<=k->k<=z->k<=12->Rw y z t ho wd (Q4 wd t ho k)
 |th {wd:Str}:wd="back"\/wd="fall"\/wd="bare"->Rw y z t ho wd (.t [.str wd,.int t,.str ho])
noncomputable abbrev Cd:=Str×Int×List Tn
noncomputable abbrev Hr.cd(u:Hr):Cd:=(u.ho,u.st,u.ts)
structure Kd where
 ho:Str
 c:Nat
 st:Int
 ts:List Tn
noncomputable abbrev qU(k:Kd):Key×T:=(.inr k.ho,.m k.c)
noncomputable abbrev Kd.cd(k:Kd):Cd:=(k.ho,k.st,k.ts)
structure KdOk(μ:Mem)(k:Kd):Prop where
 h1:k.ho.length<=room
 h2:qh k.ho=true
 ck:μ[k.c]?=some (clk k.st k.ts)
theorem We:∀{a:List Kd} {k:Kd},k∈a->(a.map (·.ho)).Nodup->ze (.inr k.ho) (a.map qU)=some (.m k.c)
 |[],_,h,_=>by contradiction
 |v::r,k,h,n=>by
  rw[z6c,z7g] at n;show ze _ (qU v::r.map qU)=_;unfold ze;rcases z61.mp h with rfl|h
  .rw[if_pos rfl]
  .rw[if_neg (λe=>n.1 (z5O.mpr ⟨k,h,(z7v e).symm⟩))];exact We h n.2
theorem z1V(h:uU μ i s)(ho:μ[j]?=some o)(n1:∀l,o≠.d l)(n2:∀e l,o≠.frd e l):j≠i:=λe=>by
 subst e;rcases h with h|⟨a,h⟩
 .rw[h] at ho;exact n1 _ (z5J ho).symm
 .rw[h] at ho;exact n2 _ _ (z5J ho).symm
theorem uj(ho:μ[dc]?=some (.d (j.map qU)))(f:j≠[])(m:j.length<=1000)(hk:∀k∈j,KdOk μ k)(nd:(j.map (·.ho)).Nodup)
  (q:∀ep,K (.bl true) (μ.set dc (.frd ep (j.map qU)))):yH [.m dc] μ K Z:=by
 have hd:uU μ dc (j.map qU):=.inl ho;refine⟨rfl,_,ho,_,hd,?_⟩;refine zA (by
  rw[z5H];intro e;have e:j.length=0:=by lia
  exact f (List.length_eq_zero_iff.mp e)) ?_
 refine⟨_,hd,λep=>⟨by rw[z5H,z5H];unfold room;lia,?_⟩⟩;rw[z69];have gd:(μ.set dc (.frd ep (j.map qU)))[dc]?=some (.frd ep (j.map qU)):=get_set ho;refine zX (λk:Kd=>T.str k.ho) (λ_=>some (.bl true)) (λk a l b=>?_) ?_ gd
 .have H:=hk k a;refine⟨_,rfl,(qK H.h1 ?_)⟩;rw[H.h2];refine⟨_,_,.inr ⟨ep,gd⟩,We a nd,?_⟩;have i:(μ.set dc (.frd ep (j.map qU)))[k.c]?=some (clk k.st k.ts):=by
   rw[z5G (z6f (z1V hd H.ck (λ_ e=>by injection e) (λ_ _ e=>by injection e)))];exact H.ck
  exact⟨_,i,b⟩
 .rw[show j.filterMap (λ_=>some (T.bl true))=j.map (λ_=>T.bl true) by rw[z6A]];obtain⟨bs,h,g⟩:=kq j;refine⟨_,h,?_⟩;have d:=q ep;rw[<-g] at d;exact d
theorem jk{a:Nat}(h:l.Nodup)(n:a∉l):(l++[a]).Nodup:=by
 rw[z6L];exact⟨h,sC,λb f c d e=>n (z5F.mp d▸e▸f)⟩
theorem Wld.seat(W:Wld μ w I H g d x y z E D now C G ps)(ch:Ch [d] μ B)(gd:B[d]?=some (.d ((C++[v]).map vC)))(r:B[v.s]?=some v.seat)(o:B[v.c]?=some (clk v.st v.ts))(m:B[v.h]?=some (v.house x y z E D))(n1:μ.length<=v.s)(n2:μ.length<=v.h):Wld B w I H g d x y z E D now (C++[v]) G ps:=by
 have out:∀{j:Nat} {a:MO},μ[j]?=some a->(∀l,a≠.d l)->B[j]?=some a:=λ{j a} e n=>ch.get e (by simpa using zv e W.dc (n _));have f:∀{j:Nat} {a:MO},μ[j]?=some a->(∀l,a≠.d l)->j∉[d]:=λ{j a} e n=>by simpa using zv e W.dc (n _)
 have lt:∀{j:Nat} {a:MO},μ[j]?=some a->j<μ.length:=λe=>(z5C.mp e).1;have mem:∀{q:Hr} {P:Hr->Prop},(∀u∈C,P u)->P v->q∈C++[v]->P q:=λ{q P} h1 h2 i=>by
  rcases z5L.mp i with h|h
  .exact h1 q h
  .rw[z5F.mp h];exact h2
 refine⟨out W.wo (λ_ e=>by injection e),W.bk.ch ch (f W.bk.com (λ_ e=>by injection e)) (f W.bk.lst (λ_ e=>by injection e)) (λp k=>f (W.bk.at_ p k) (λ_ e=>by injection e)),out W.gv (λ_ e=>by injection e),gd,λq i=>mem (λu b=>out (W.se u b) (λ_ e=>by injection e)) r i,λq i=>mem (λu b=>out (W.cl u b) (λ_ e=>by injection e)) o i,λq i=>mem (λu b=>out (W.hs u b) (λ_ e=>by injection e)) m i,?_,?_,W.gg⟩
 .rw[z5Y];exact jk W.n1 λhm=>by
   obtain⟨u,b,e⟩:=z5O.mp hm;have:=lt (W.se u b);lia
 .rw[z5Y];exact jk W.n2 λhm=>by
   obtain⟨u,b,e⟩:=z5O.mp hm;have:=lt (W.hs u b);lia
theorem W4{z:Key}(h:z∉j.map (·.1)):wA z t j=j++[(z,t)]:=by
 unfold wA;rw[if_neg];intro e;obtain⟨p,a,e⟩:=List.any_eq_true.mp e;exact h (z5O.mpr ⟨p,a,by simpa using e⟩)
theorem Zu(q:∀j,Ch [] μ j->j.length=μ.length+1->j[μ.length]?=some (zT ck .n .n)->K .n j):kK [.m μ.length,ck] (μ++[.obj 46 []]) K Z:=by
 refine⟨rfl,_,_,z8,dC,_,_,get_set z8,by show (1:Nat)<900;decide,_,_,get_set (get_set z8),by show (2:Nat)<900;decide,?_⟩;exact q _ (Ch.geS (Ch.geS (Ch.geS Ch.app Ch.set sC) Ch.set sC) Ch.set sC) sC (get_set (get_set (get_set z8)))
theorem Yy:∀{a:List Hr} {z:Str},z∉a.map (·.ho)->(.inr z:Key)∉(a.map vC).map (·.1):=λ{a z} h b=>by
 rw[z69] at b;obtain⟨u,c,e⟩:=z5O.mp b;exact h (z5O.mpr ⟨u,c,z7v e⟩)
section
variable {ks:List Kd}
structure New91(v:Vh):Prop where
 l:v.u.l=none
 m:v.u.m=none
 n:v.u.n=none
 kt:v.u.kt=.n
 bs:v.bs=[]
 la:v.la=none
theorem Wm.seat(M:Wm μ w G E g d x y z C B now vs D ps)(ch:Ch [d] μ j)(gd:j[d]?=some (.d (((vs++[v]).map (·.u)).map vC)))(l:j[v.u.s]?=some v.u.seat)(k:j[v.u.c]?=some (clk v.u.st v.u.ts))(i:j[v.u.h]?=some (v.u.house x y z C B))(n1:μ.length<=v.u.s)(n2:μ.length<=v.u.h)(et:v.u.bt=.m v.b)(gb:j[v.b]?=some (.l (v.bs.map X.btT)))(nb:μ.length<=v.b):Wm j w G E g d x y z C B now (vs++[v]) D ps:=by
 have mem:∀{q:Vh} {P:Vh->Prop},(∀u∈vs,P u)->P v->q∈vs++[v]->P q:=λ{q P} h1 h2 a=>by
  rcases z5L.mp a with h|h
  .exact h1 q h
  .rw[z5F.mp h];exact h2
 have h1:=qz M.W.bk.lst;have h2:=qz M.W.gv;refine⟨?_,λq a=>mem M.bt et a,λq a=>mem (λq a=>ch.get (M.bl q a) (by simpa using zv (M.bl q a) M.W.dc (λe=>by injection e))) gb a,?_,λq a=>mem M.bg ⟨lC,lC⟩ a⟩
 .rw[z5Y] at gd ⊢;exact M.W.seat ch gd l k i n1 n2
 .rw[z5Y];exact jk M.bn λhm=>by
   obtain⟨u,f,e⟩:=z5O.mp hm;have:=qz (M.bl u f);lia
structure CJ(μ0 μ:Mem)(w cm gr g d dc t1:Nat)(x y z ah sd:Int)(ks:List Kd)(n ep:Nat)(vs:List Vh):Prop where
 M:Wm μ w cm gr g d x y z ah sd .n vs [] []
 cd:vs.map (·.u.cd)=(ks.take n).map Kd.cd
 nw:∀v∈vs,New91 v/\μ0.length<=v.b
 ch:Ch [dc] μ0 μ
 hd:μ[dc]?=some (.frd ep (ks.map qU))
 tb:μ[t1]?=some (.tab 1)
 kd:∀k∈ks,KdOk μ k
theorem CJ.step{t1 ep n:Nat}{k:Kd}{r:Option T}{E:En}(C:CJ s μ w cm U g d dc t1 x y z G D ks n ep vs)(hk:ks[n]?=some k)(nd:(ks.map (·.ho)).Nodup)(hl:ks.length<=1000)(R:0<=G)(hs:0<=D)(d0:s.length<=d)(dd:dc<s.length)
  (hN:∀Q r B H,CJ s B w cm U g d dc t1 x y z G D ks (n+1) ep H->N [some (.m w),some (shp x y z),some (.int G),some (.int D),some (.m dc),Q,r] B) :
  zR [(zk 6 (uo 46 kK [(eC2 uq clz11 clz10)])),(zw (zt 47 qa clz0 [clz16])),(jd clz48 clz10 clz16)] [some (.m w),some (shp x y z),some (.int G),some (.int D),some (.m dc),some (.str k.ho),r] μ (E.turn N):=by
 obtain⟨M,cd,nw,ch,hd,tb,kd⟩:=C;have K:=z5E hk;refine⟨_,_,.inr ⟨ep,hd⟩,We K nd,(Zu λm o O Y=>⟨rfl,?_⟩)⟩;have L:=M.W.ch0 o;refine⟨_,L.wo,(xW L.wo Y (o.get tb sC) R hs (.inl ⟨rfl,rfl,rfl⟩) (λv e=>z7 e) (λv e=>z7 e) λμ2 b F hb X V S=>?_)⟩;have f:=Ch.geS o F sC;have q:=M.W.ch0 f;refine⟨_,_,_,q.wo,rfl,?_⟩;have new:k.ho∉(vs.map (·.u)).map (·.ho):=λhm=>by
  have Z:(vs.map (·.u)).map (·.ho)=(ks.take n).map (·.ho):=by
   have:=congrArg (zbv (·.1)) cd;rw[z69,z69] at this;rw[z69];exact this
  rw[Z] at hm;have p:((ks.take n++[k]).map (·.ho)).Nodup:=by
   rw[show ks.take n++[k]=ks.take (n+1) by rw[z6w,hk];rfl];exact nd.sublist ((z7d _ _).map _)
  rw[z5Y,z6L] at p;exact p.2.2 k.ho hm k.ho sC rfl
 have ul:vs.length<=1000:=by
  have:=congrArg zas cd;rw[z5H,z5H,z6B] at this;lia
 refine⟨_,q.dc,by rw[z5H,z5H];unfold room;lia,?_⟩;rw[W4 (Yy new)];have dl:=(z5C.mp M.W.dc).1;have v1:((vs.map (·.u)).map vC++[((.inr k.ho),T.m μ.length)])=((vs++[(⟨⟨k.ho,μ.length,k.c,m.length,k.st,k.ts,none,none,none,.m b,.n⟩,b,[],none⟩:Vh)]).map (·.u)).map vC:=by rw[z5Y,z5Y];rfl
 have c2:=f.get (kd k K).ck sC;rw[v1];generalize t:(⟨⟨k.ho,μ.length,k.c,m.length,k.st,k.ts,none,none,none,.m b,.n⟩,b,[],none⟩:Vh)=J;have i:∀{j:Nat} {a:MO},μ2[j]?=some a->(∀l,a≠.d l)->(μ2.set d (.d (((vs++[J]).map (·.u)).map vC)))[j]?=some a:=λ{j a} e n=>by
  rw[z5G (z6f (zv e q.dc (n _)))];exact e
 refine hN _ _ _ (vs++[J]) ⟨?_,?_,?_,?_,?_,?_,?_⟩
 .refine M.seat (f.mono sC |>.trans Ch.set) (get_set q.dc) ?_ ?_ ?_ ?_ ?_ ?_ ?_ ?_<;>subst t
  .exact i X (λ_ e=>by injection e)
  .exact i c2 (λ_ e=>by injection e)
  .exact i V (λ_ e=>by injection e)
  .exact z5K _
  .show μ.length<=m.length;lia
  .rfl
  .exact i S (λ_ e=>by injection e)
  .show μ.length<=b;lia
 .rw[z5Y,cd,z6w,hk,z5Y,<-t];rfl
 .intro u P;rcases z5L.mp P with h|h
  .exact nw u h
  .rw[z5F.mp h,<-t];exact⟨⟨rfl,rfl,rfl,rfl,rfl,rfl⟩,lC⟩
 .exact Ch.geS (ch.trans (f.mono sC)) Ch.set (by simpa using d0)
 .exact i (f.get hd sC) (λ_ e=>by injection e)
 .exact i (f.get tb sC) (λ_ e=>by injection e)
 .intro k' A;have I:=kd k' A;exact⟨I.h1,I.h2,i (f.get I.ck sC) (λ_ e=>by injection e)⟩
theorem UU{t1:Nat}(W:Wld μ w H G g d x y z E D .n [] [] [])(hd:μ[dc]?=some (.frd ep (ks.map qU)))(I:ks.length<=1000)(hk:∀k∈ks,KdOk μ k)(nd:(ks.map (·.ho)).Nodup)(ht:μ[t1]?=some (.tab 1))(J:0<=E)(hs:0<=D)(d0:B.length<=d)(dd:dc<B.length)(ch0:Ch [dc] B μ)
  (q:∀s vs,Wm s w H G g d x y z E D .n vs [] []->vs.map (·.u.cd)=ks.map Kd.cd->(∀v∈vs,New91 v/\B.length<=v.b)->Ch [dc] B s->K .n s) :
  zR (zV.drop 8) [some (.m w),some (shp x y z),some (.int E),some (.int D),some (.m dc),none,none] μ (En.fn K Z):=by
 have out:∀{c j:Nat} {a:MO},μ[j]?=some a->(∀e l,a≠.frd e l)->(μ.set dc (.frd c (ks.map qU)))[j]?=some a:=λ{c j a} e n=>by
  rw[z5G (z6f (zv e hd (n _ _)))];exact e
 refine⟨_,.inr ⟨ep,hd⟩,λc=>?_⟩;have C0:CJ B (μ.set dc (.frd c (ks.map qU))) w H G g d dc t1 x y z E D ks 0 c []:=by
  have o:∀{j:Nat} {a:MO},μ[j]?=some a->(∀e l,a≠.frd e l)->j∉[dc]:=λ{j a} e n=>by simpa using zv e hd (n _ _)
  have ch:Ch [dc] μ (μ.set dc (.frd c (ks.map qU))):=Ch.set;refine⟨⟨⟨out W.wo (λ_ _ e=>by injection e),W.bk.ch ch (o W.bk.com (λ_ _ e=>by injection e)) (o W.bk.lst (λ_ _ e=>by injection e)) sC,out W.gv (λ_ _ e=>by injection e),out W.dc (λ_ _ e=>by injection e),sC,sC,sC,W.n1,W.n2,W.gg⟩,sC,sC,sC,sC⟩,rfl,sC,ch0.trans ch,get_set hd,out ht (λ_ _ e=>by injection e),λk t=>?_⟩;have A:=hk k t;exact⟨A.h1,A.h2,out A.ck (λ_ _ e=>by injection e)⟩
 rw[z69];refine zH (λn p s=>∃vs m i,p=[some (.m w),some (shp x y z),some (.int E),some (.int D),some (.m dc),m,i]/\CJ B s w H G g d dc t1 x y z E D ks n c vs) ⟨[],_,_,rfl,C0⟩ ?_ ?_ ?_
 .rintro n u p s f ⟨vs,m,i,rfl,C⟩ N L;rw[z5Z] at f;cases h:ks[n]? with
  |none=>rw[h] at f;exact z7 f
  |some k=>
   rw[h] at f;(injection f with f;subst f);exact⟨_,rfl,(C.step h nd I J hs d0 dd λm i F r O=>L _ _ ⟨r,m,i,rfl,O⟩)⟩
 .rintro p s ⟨vs,m,i,rfl,C⟩;rw[z5H] at C;have cd:=C.cd;rw[z6z (z5K _)] at cd;exact q s vs C.M cd C.nw C.ch
 .rintro n p s ⟨vs,m,i,rfl,C⟩;exact C.hd
theorem YV{t1:Nat}(hw:μ[w]?=some (MO.obj 47 [(9,shp x y z),(14,.int B),(15,.int s)]))(N:C.length<=w)(hd:μ[dc]?=some (.frd ep (ks.map qU)))(O:ks.length<=1000)(hk:∀k∈ks,KdOk μ k)(nd:(ks.map (·.ho)).Nodup)(ht:μ[t1]?=some (.tab 1))(Q:0<=B)(hs:0<=s)(dd:dc<C.length)(ch0:Ch [dc] C μ)
  (q:∀D vs U M g d,Wm D w U M g d x y z B s .n vs [] []->vs.map (·.u.cd)=ks.map Kd.cd->(∀v∈vs,New91 v/\C.length<=v.b)->C.length<=M->C.length<=g->C.length<=d->Ch [dc] C D->K .n D) :
  zR (zV.drop 4) [some (.m w),some (shp x y z),some (.int B),some (.int s),some (.m dc),none,none] μ (En.fn K Z):=by
 have L:=(z5C.mp hw).1;refine vX ⟨rfl,?_⟩;have m:(μ++[MO.obj 43 [(9,shp x y z),(10,.m (μ.length+1))],.l []])[w]?=some (MO.obj 47 [(9,shp x y z),(14,.int B),(15,.int s)]):=(z5N L)▸hw;refine⟨_,_,m,by show (3:Nat)<900;decide,?_⟩;have h:=get_set (y:=MO.obj 47 [(9,shp x y z),(14,.int B),(15,.int s),(23,.m μ.length)]) m;have G:Ch [w] μ ((μ++[MO.obj 43 [(9,shp x y z),(10,.m (μ.length+1))],.l []]).set w (MO.obj 47 [(9,shp x y z),(14,.int B),(15,.int s),(23,.m μ.length)])):=⟨sC,λj P t=>by
  have t:j≠w:=by simpa using t
  rw[z5G (z6f t),z5N P]⟩
 have J:((μ++[MO.obj 43 [(9,shp x y z),(10,.m (μ.length+1))],.l []]).set w (MO.obj 47 [(9,shp x y z),(14,.int B),(15,.int s),(23,.m μ.length)])).length=μ.length+2:=by simp
 have F:((μ++[MO.obj 43 [(9,shp x y z),(10,.m (μ.length+1))],.l []]).set w (MO.obj 47 [(9,shp x y z),(14,.int B),(15,.int s),(23,.m μ.length)]))[μ.length]?=some (MO.obj 43 [(9,shp x y z),(10,.m (μ.length+1))]):=by
  rw[z5G lC,z5_ (z5K _)];simp
 have E:((μ++[MO.obj 43 [(9,shp x y z),(10,.m (μ.length+1))],.l []]).set w (MO.obj 47 [(9,shp x y z),(14,.int B),(15,.int s),(23,.m μ.length)]))[μ.length+1]?=some (.l []):=by
  rw[z5G lC,z5_ lC];simp
 suffices H:∀c:Mem,c[w]?=some (MO.obj 47 [(9,shp x y z),(14,.int B),(15,.int s),(23,.m μ.length)])->Ch [w] μ c->c.length=μ.length+2->c[μ.length]?=some (MO.obj 43 [(9,shp x y z),(10,.m (μ.length+1))])->c[μ.length+1]?=some (.l [])->zR (zV.drop 5) [some (.m w),some (shp x y z),some (.int B),some (.int s),some (.m dc),none,none] c (En.fn K Z) from H _ h G J F E
 intro c h G J F E;refine⟨_,_,z5 h,by show (4:Nat)<900;decide,_,_,get_set (z5 h),by show (5:Nat)<900;decide,?_⟩;have i:=get_set (y:=MO.obj 47 [(9,shp x y z),(14,.int B),(15,.int s),(23,.m μ.length),(24,.m c.length),(25,.n)]) (get_set (y:=MO.obj 47 [(9,shp x y z),(14,.int B),(15,.int s),(23,.m μ.length),(24,.m c.length)]) (z5 (x:=MO.l []) h));have o:Ch [w] c (((c++[MO.l []]).set w (MO.obj 47 [(9,shp x y z),(14,.int B),(15,.int s),(23,.m μ.length),(24,.m c.length)])).set w (MO.obj 47 [(9,shp x y z),(14,.int B),(15,.int s),(23,.m μ.length),(24,.m c.length),(25,.n)])):=((Ch.app.mono sC).trans Ch.set).trans Ch.set;have I:(((c++[MO.l []]).set w (MO.obj 47 [(9,shp x y z),(14,.int B),(15,.int s),(23,.m μ.length),(24,.m c.length)])).set w (MO.obj 47 [(9,shp x y z),(14,.int B),(15,.int s),(23,.m μ.length),(24,.m c.length),(25,.n)])).length=c.length+1:=by simp
 have A:(((c++[MO.l []]).set w (MO.obj 47 [(9,shp x y z),(14,.int B),(15,.int s),(23,.m μ.length),(24,.m c.length)])).set w (MO.obj 47 [(9,shp x y z),(14,.int B),(15,.int s),(23,.m μ.length),(24,.m c.length),(25,.n)]))[c.length]?=some (.l []):=by
  rw[z5G lC,z5G lC];exact z8
 suffices H:∀f:Mem,f[w]?=some (MO.obj 47 [(9,shp x y z),(14,.int B),(15,.int s),(23,.m μ.length),(24,.m c.length),(25,.n)])->Ch [w] c f->f.length=c.length+1->f[c.length]?=some (.l [])->zR (zV.drop 7) [some (.m w),some (shp x y z),some (.int B),some (.int s),some (.m dc),none,none] f (En.fn K Z) from H _ i o I A
 intro f i o I A;refine⟨_,_,z5 i,by show (6:Nat)<900;decide,?_⟩;have p:Ch [w] f ((f++[MO.d []]).set w (k6 x y z B s μ.length c.length f.length .n)):=(Ch.app.mono sC).trans Ch.set;have R:((f++[MO.d []]).set w (k6 x y z B s μ.length c.length f.length .n))[f.length]?=some (.d []):=by
  rw[z5G lC];exact z8
 have all:=(G.trans o).trans p;have r:∀{j:Nat} {a:MO},μ[j]?=some a->a≠MO.obj 47 [(9,shp x y z),(14,.int B),(15,.int s)]->j∉[w]:=λ{j a} e n=>by simpa using zv e hw n
 have W:Wld ((f++[MO.d []]).set w (k6 x y z B s μ.length c.length f.length .n)) w μ.length (μ.length+1) c.length f.length x y z B s .n [] [] []:=
  ⟨(get_set (y:=k6 x y z B s μ.length c.length f.length .n) (z5 (x:=MO.d []) i)),⟨(o.trans p).get F (by simp;lia),(o.trans p).get E (by simp;lia),sC,sC⟩,p.get A (by simp;lia),R,sC,sC,sC,sC,sC,lC⟩
 refine UU W (all.get hd (r hd (λe=>by injection e))) O (λk l=>⟨(hk k l).h1,(hk k l).h2,all.get (hk k l).ck (r (hk k l).ck (λe=>by cases e))⟩) nd (all.get ht (r ht (λe=>by injection e))) Q hs lC dd (Ch.geS ch0 all (by simpa using N)) λD vs X V T S=>q D vs _ _ _ _ X V T lC lC lC S
theorem z11{t1:Nat}(ho:μ[dc]?=some (.d (ks.map qU)))(p:ks≠[])(o:ks.length<=1000)(hk:∀k∈ks,KdOk μ k)(nd:(ks.map (·.ho)).Nodup)(ht:μ[t1]?=some (.tab 1))(r:0<=s)(hs:0<=w)
  (q:∀j vs C B g d,Wm j μ.length C B g d x y z s w .n vs [] []->vs.map (·.u.cd)=ks.map Kd.cd->(∀v∈vs,New91 v/\μ.length<=v.b)->μ.length<=B->μ.length<=g->μ.length<=d->Ch [dc] μ j->K .n j) :
  k9 [.m μ.length,shp x y z,.int s,.int w,.m dc] (μ++[.obj 47 []]) K Z:=by
 have dl:=(z5C.mp ho).1;refine⟨rfl,(uj (z5 ho) p o (λk a=>⟨(hk k a).h1,(hk k a).h2,z5 (hk k a).ck⟩) nd λep=>?_)⟩;have f:((μ++[MO.obj 47 []]).set dc (.frd ep (ks.map qU)))[μ.length]?=some (.obj 47 []):=by rw[z5G lC];exact z8
 have l:((μ++[MO.obj 47 []]).set dc (.frd ep (ks.map qU)))[dc]?=some (.frd ep (ks.map qU)):=get_set (z5 ho);have ch0:Ch [dc] μ ((μ++[MO.obj 47 []]).set dc (.frd ep (ks.map qU))):=(Ch.app.mono sC).trans Ch.set;refine⟨_,_,f,dC,_,_,get_set f,by show (1:Nat)<900;decide,_,_,get_set (get_set f),by show (2:Nat)<900;decide,?_⟩;have m:∀h:Mem,Ch [dc] μ h->∀k∈ks,KdOk h k:=λh c k a=>⟨(hk k a).h1,(hk k a).h2,c.get (hk k a).ck (by simpa using zv (hk k a).ck ho (λe=>by injection e))⟩;have n:=Ch.geS (Ch.geS (Ch.geS ch0 (Ch.set (i:=μ.length) (x:=MO.obj 47 [(9,shp x y z)])) sC) (Ch.set (i:=μ.length) (x:=MO.obj 47 [(9,shp x y z),(14,.int s)])) sC) (Ch.set (i:=μ.length) (x:=MO.obj 47 [(9,shp x y z),(14,.int s),(15,.int w)])) sC;refine YV (ep:=ep) (get_set (get_set (get_set f))) (z5K _) ?_ o (m _ n) nd (n.get ht (by simpa using zv ht ho (λe=>by injection e))) r hs dl n q;rw[z5G lC,z5G lC,z5G lC];exact l
variable {hs:List Str}
theorem ixS{k:Int}(h0:0<=k)(h1:k<hs.length):∃h∈hs,wH (hs.map T.str) k=some (.str h):=by
 refine⟨hs[k.toNat]'lC,z8W _,?_⟩;rw[yq h0 (by simpa using h1),z5Z,z67 lC];rfl
end
noncomputable abbrev kp7:T:=.clo 1 []
noncomputable abbrev VX:Int:=1000000000000000000000000000000000000000000000000000000000000
theorem z0e(ho:μ[i]?=some (hsO s w u kp7 l m n bt false))(q:∀j,Ch [i] μ j->j.length=μ.length->j[i]?=some (hsO s w u kp7 l' m' n bt false)->K .n j) :
  qe [.m i,lsT l',opT m'] μ K Z:=by
 refine⟨rfl,_,ho,(V5 ho ⟨Qk,_,VG,(zY (λe=>?_) (λe=>?_))⟩)⟩
 .simp only[z5P,decide_eq_true_eq] at e;obtain⟨rfl,rfl⟩:=e;exact q μ Ch.refl rfl ho
 .refine⟨_,_,ho,by show (9:Nat)<900;decide,?_⟩;have a:=get_set (y:=hsO s w u kp7 l m n bt true) ho;refine⟨_,_,_,a,rfl,.inr rfl,.inr ⟨rfl,?_⟩⟩;refine⟨_,_,a,by show (9:Nat)<900;decide,_,_,get_set a,by show (9:Nat)<900;decide,_,_,get_set (get_set a),by show (9:Nat)<900;decide,?_⟩;exact q _ (((Ch.set.trans Ch.set).trans Ch.set).trans Ch.set) (by simp) (get_set (get_set (get_set a)))
theorem z2g(ho:μ[i]?=some (hsO (shp x y z) u s kp7 l m n bt false))(ok:LsOk x y a)
  (q:∀j,Ch [i] μ j->j[i]?=some (hsO (shp x y z) u s kp7 (some a) m n bt false)->K .n j) :
  zK [.m i,lsT (some a)] μ K Z:=by
 refine⟨rfl,_,ho,(zZ ho ⟨_,_,_,ho,rfl,(vK ok.h0 ok.h1 ok.f0 ok.fu ok.ux ?_)⟩)⟩;exact⟨_,ho,_,_,_,ho,rfl,(z0e ho λj ch _ h=>q j ch h)⟩
theorem z3U(s:Hz x y z)(ok:LsOk x y a)(ho:μ[i]?=some (hsO (shp x y z) w u kp7 (some a) m n bt false))(c:∀k,n=some k->0<=k/\k<x*y*z)(k1:1<=k)(k2:k<=z)
  (l:zd y z a n m r+k<=a.2.2*z) (g:byP z r w (zd y z a n m r+k)<=0)
  (q:∀j,Ch [i] μ j->j[i]?=some (hsO (shp x y z) w u kp7 (some a) (some (mkW x y z u a n m r k)) (some (nwW y z a n m r k)) bt false)->K (ua a.1 (zd y z a n m r) (zd y z a n m r+k)) j) :
  zJ [.m i,.int r,.int k] μ K Z:=by
 obtain⟨A,v,t,p,o⟩:=id s;have D:=vn (n:=n) (m:=m) (r:=r) s ok;have B:a.2.2*z<=x*z:=z64 ok.ux lC;have f:=ok.h0;have d:=ok.h1;refine⟨rfl,_,ho,(zZ ho ⟨_,ho,(Qj s ho c k1 k2 (λh=>absurd l (by lia)) (λ_ e=>absurd g (by lia)) λ_ _=>?_)⟩)⟩;refine⟨_,ho,_,_,_,ho,rfl,_,ho,_,_,_,ho,rfl,⟨lC,lC⟩,?_⟩;refine J7 ho (z0e (l':=some a) (m':=some (mkW x y z u a n m r k)) ho λj ch C b=>⟨_,_,_,b,rfl,(jq s lC lC f d ?_)⟩);refine⟨_,_,b,by show (9:Nat)<900;decide,?_⟩;exact q _ (ch.trans Ch.set) (get_set b)
theorem z5l(s:Hz x y z)(d:x*z<VX)(ok:LsOk x y a)(ho:μ[i]?=some (hsO (shp x y z) w B kp7 (some a) m n bt false))(c:∀k,n=some k->0<=k/\k<x*y*z)(k1:1<=k)(k2:k<=z)(zb:z<=1000)
  (f:zd y z a n m r+k<=a.2.2*z) (e:byP z r w (zd y z a n m r+k)<=0)
  (q:∀u mb j C,Ch [i] μ u->μ.length<=j->u[i]?=some (hsO (shp x y z) w B kp7 (some a) (some mb) (some (nwW y z a n m r k)) (.m C) false)->u[j]?=some (.l ((nmL y z a.1 (zd y z a n m r) k).map T.int))->K (.m j) u) :
  qN [.m i,.int r,.int k] μ K Z:=by
 obtain⟨t,p,o,l,h⟩:=id s;have g:=vn (n:=n) (m:=m) (r:=r) s ok;have v:a.2.2*z<=x*z:=z64 ok.ux lC;refine⟨rfl,_,ho,(z3U s ok ho c k1 k2 f e λu ch b=>?_)⟩;have len:=ch.len;refine⟨_,_,z5 b,by show (9:Nat)<900;decide,_,_,_,get_set (z5 b),rfl,?_⟩;refine vE s d g lC lC lC ok.h0 ok.h1 ?_;rw[show zd y z a n m r+k-zd y z a n m r=k by lia];exact q _ _ _ _ (((ch.trans (Ch.app.mono sC)).trans Ch.set).trans (Ch.app.mono sC)) (by simp;lia) (z5 (get_set (z5 b))) z8
section
variable {μ μ1 μ2:Mem}{K:T->Mem->Prop}{Z:Xp}{x y z:Int}{i c g d w:Nat}
theorem Qu{k k':Key}{t:T}:∀j:List (Key×T),ze k' (j.map λkv=>if kv.1=k then (kv.1,t) else kv)=if k'=k then (ze k j).map λ_=>t else ze k' j
 |[]=>by simp[ze]
 |p::r=>by
  have a:=Qu (k:=k) (k':=k') (t:=t) r;by_cases e:p.1=k
  .by_cases b:k'=k
   .simp[ze,e,b]
   .have d:¬k=k':=λw=>b w.symm;simp only[z6c,e,if_true,ze,if_neg d,if_neg b] at a ⊢;exact a
  .by_cases b:k'=k
   .subst b;simp only[z6c,if_neg e,ze,if_true] at a ⊢;exact a
   .simp only[z6c,if_neg e,ze,if_neg b] at a ⊢;by_cases c:p.1=k'
    .simp[c]
    .simp only[if_neg c];exact a
theorem Qx{k:Key}:∀j:List (Key×T),(j.any λkv=>decide (kv.1=k))=(ze k j).isSome
 |[]=>rfl
 |p::r=>by
  rw[z7a,Qx r];by_cases e:p.1=k
  .simp[ze,e]
  .simp[ze,e]
theorem uE{k k':Key}{t:T}:∀j:List (Key×T),ze k j=none->ze k' (j++[(k,t)])=if k'=k then some t else ze k' j
 |[],_=>by
  by_cases e:k'=k
  .simp[ze,e]
  .have:¬k=k':=λw=>e w.symm;simp[ze,e,this]
 |p::r,h=>by
  unfold ze at h;by_cases e:p.1=k
  .rw[if_pos e] at h;cases h
  .rw[if_neg e] at h;have b:=uE (k':=k') (t:=t) r h;show ze k' (p::(r++[(k,t)]))=_;unfold ze;by_cases a:p.1=k'
   .have:¬k'=k:=λw=>e (a.trans w);simp[a,this]
   .rw[if_neg a,if_neg a,b]
theorem wN{k k':Key}{t:T}(a:List (Key×T)):ze k' (wA k t a)=if k'=k then some t else ze k' a:=by
 unfold wA;rw[Qx];cases h:ze k a with
 |none=>rw[if_neg (by simp)];exact uE a h
 |some v=>rw[if_pos (by simp),Qu,h];rfl
structure Hs where
 a:Ls
 n:Option Int
inductive Row where
 |lease (ho:Str) (hs:Option Int) (m n:Int)
 |ask (ho:Str) (r k:Int)
noncomputable def Row.t:Row->T
 |.lease ho hs m n=>.t [.str "lease",.str ho,opT hs,.int m,.int n]
 |.ask ho r k=>.t [.str "ask",.str ho,.int r,.int k]
structure S7 where
 G:List Gp
 hm:Str->Option Hs
 td:List (Str×Int)
noncomputable def upH(hm:Str->Option Hs)(ho:Str)(h:Hs):Str->Option Hs:=λs=>if s=ho then some h else hm s
structure HoOk(ho:Str):Prop where
 l:ho.length<=room
 h:qh ho=true
noncomputable def AtC (y z:Int)(a:Ls)(n m:Option Int)(r c:Int):Prop:=(xP y z a.1 n m<=r*z/\c=0)\/(xP y z a.1 n m=r*z+c/\0<c)
theorem Us{a:Ls}{n m:Option Int}{r c:Int}(f:a.2.1<=r)(h:AtC y z a n m r c):zd y z a n m r=r*z+c:=by
 unfold zd;have e:(if a.2.1<r then r else a.2.1)=r:=by split<;>lia
 rw[e];rcases h with⟨d,b⟩|⟨d,b⟩<;>split<;>lia
noncomputable def Sp7 (x y z:Int)(r:Row)(s f:S7):Prop:=match r with
 |.lease d hs m n=>HoOk d/\(∀h,hs=some h->0<=h/\h<y)/\1<=n/\∃h b,0<=h/\h<y/\0<=b/\b+n<=x/\Lease s.G (opT hs) (if m<0 then 0 else m) n h b/\f=⟨s.G++[(0,⟨d,h,b,b+n,b+n,false⟩)],upH s.hm d ⟨(h,b,b+n),(s.hm d).bind Hs.n⟩,s.td⟩
 |.ask d r k=>HoOk d/\∃e c,s.hm d=some e/\e.a.2.1<=r/\r<e.a.2.2/\1<=k/\k<=1000/\c+k<=z/\AtC y z e.a e.n none r c/\f=⟨s.G,upH s.hm d ⟨e.a,some (nmA y z e.a.1 (r*z+c+k-1))⟩,s.td++(nmL y z e.a.1 (r*z+c) k).map λv=>(d,v)⟩
noncomputable def Run7 (x y z:Int):List Row->S7->S7->Prop
 |[],s,t=>t=s
 |r::a,s,t=>∃m,Sp7 x y z r s m/\Run7 x y z a m t
theorem Run7.snoc{r:Row}{m t:S7}:∀{b:List Row} {s:S7},Run7 x y z b s m->Sp7 x y z r m t->Run7 x y z (b++[r]) s t
 |[],s,h,q=>by cases h;exact⟨t,q,rfl⟩
 |a::b,s,⟨u,h1,h2⟩,q=>⟨u,h1,Run7.snoc h2 q⟩
structure WF(x y z:Int)(s:S7):Prop where
 ls:∀ho hh,s.hm ho=some hh->LsOk x y hh.a
 nm:∀ho hh v,s.hm ho=some hh->hh.n=some v->0<=v/\v<x*y*z
theorem Sp7.wf{r:Row}{s t:S7}(sz:Hz x y z)(w:WF x y z s)(h:Sp7 x y z r s t):WF x y z t:=by
 cases r with
 |lease ho hs m n=>
  obtain⟨_,_,n1,h,b,h0,h1,b0,bx,_,rfl⟩:=h;refine⟨λa d e=>?_,λa d v e f=>?_⟩
  .have e:(if a=ho then some _ else s.hm a)=some d:=e;by_cases q:a=ho
   .rw[if_pos q] at e;cases e;exact⟨h0,h1,b0,by show b<b+n;omega,bx⟩
   .rw[if_neg q] at e;exact w.ls _ _ e
  .have e:(if a=ho then some _ else s.hm a)=some d:=e;by_cases q:a=ho
   .rw[if_pos q] at e;cases e;have f:(s.hm ho).bind Hs.n=some v:=f;obtain⟨h2,l,j⟩:=z9N.mp f;exact w.nm _ _ _ l j
   .rw[if_neg q] at e;exact w.nm _ _ _ e f
 |ask ho r k=>
  obtain⟨_,i,c,e0,r0,p,k1,k2,ck,at_,rfl⟩:=h;have ok:=w.ls _ _ e0;refine⟨λa d e=>?_,λa d v e f=>?_⟩
  .have e:(if a=ho then some _ else s.hm a)=some d:=e;by_cases q:a=ho
   .rw[if_pos q] at e;cases e;exact ok
   .rw[if_neg q] at e;exact w.ls _ _ e
  .have e:(if a=ho then some _ else s.hm a)=some d:=e;by_cases q:a=ho
   .rw[if_pos q] at e;cases e;cases f;have z1:=sz.z1;have f0:=ok.f0;have c0:0<=c:=by rcases at_ with q|q<;>omega
    have o:0<=r*z:=z8P (by omega) (by omega);have g:=z64 (show r+1<=x by have:=ok.ux;omega) (show 0<=z by omega);rw[z92,z93] at g;exact UZ sz ok.h0 ok.h1 (by omega) (by omega)
   .rw[if_neg q] at e;exact w.nm _ _ _ e f
noncomputable abbrev hs7(x y z:Int)(l:Option Ls)(m n:Option Int)(b:T):MO:=hsO (shp x y z) 0 0 kp7 l m n b false
structure HD(μ:Mem)(x y z:Int)(kvs:List (Key×T))(hm:Str->Option Hs):Prop where
 no:∀ho,hm ho=none->ze (.inr ho) kvs=none
 so:∀ho hh,hm ho=some hh->∃i m b,ze (.inr ho) kvs=some (.m i)/\μ[i]?=some (hs7 x y z (some hh.a) m hh.n b)/\(hh.n=none->m=none)
 inj:∀ho ho' i,ze (.inr ho) kvs=some (.m i)->ze (.inr ho') kvs=some (.m i)->ho=ho'
theorem xh{ho:Str}{a:List (Key×T)}{hm:Str->Option Hs}(H:HD μ x y z a hm)(hd:μ[d]?=some (.d a))(w:a.length<=1000)(o:HoOk ho)
  (r:∀i,ze (.inr ho) a=some (.m i)->K (.m i) μ)
  (q:hm ho=none->∀s b,Ch [d] μ s->s[d]?=some (.d (wA (.inr ho) (.m μ.length) a))->s[μ.length]?=some (hs7 x y z none none none b)->K (.m μ.length) s) :
  jx [.m d,shp x y z,.str ho] μ K Z:=by
 have dl:d<μ.length:=(z5C.mp hd).1;refine⟨rfl,?_⟩;refine wh o.l o.h ?_;refine⟨_,hd,?_⟩;cases h:hm ho with
 |some t=>
  obtain⟨i,m,b,c,k,B⟩:=H.so ho t h;refine z1_ (by rw[c];rfl) ?_;exact⟨_,_,.inl hd,c,r i c⟩
 |none=>
  have c:=H.no ho h;refine zY (λ_=>?_) λe=>(by rw[c] at e;injection e);refine Q2 z8 (z6E _) (z6E _) λf v ch A k _=>?_;refine⟨rfl,?_⟩;have p:=ch.get (z5 hd) (by simp;omega);refine⟨_,p,by unfold room;omega,?_⟩;have n:=get_set (y:=.d (wA (.inr ho) (.m μ.length) a)) p;refine⟨_,_,.inl n,by rw[wN,if_pos rfl],?_⟩;refine q h _ (.m v) ?_ n ?_
  .have u:Ch [] μ f:=⟨z66 Ch.app.len ch.len,λj g hs=>by
    rw[ch.ot j (z5S g Ch.app.len) (by simp;omega)];exact z5N g⟩
   exact (u.mono (by simp)).trans Ch.set
  .rw[z5G (by omega)];exact k
theorem WV{r:Row}(q:K (.bl true) μ):xI [r.t] μ K Z:=by
 cases r with
 |lease b hs m n=>
  refine⟨rfl,?_⟩;refine⟨_,rfl,?_⟩;refine⟨_,rfl,?_⟩;refine⟨_,rfl,by intro t a;simp at a;rcases a with rfl|rfl<;>rfl,?_⟩;exact q
 |ask b r k=>
  refine⟨rfl,?_⟩;refine⟨_,rfl,?_⟩;refine⟨_,rfl,?_⟩;refine⟨_,rfl,by intro t a;simp at a;rcases a with rfl|rfl<;>rfl,?_⟩;exact q
theorem Za{a:List Row}(b:μ[r0]?=some (.l (a.map Row.t)))(e:a.length<=1000)(q:K (.bl true) μ):ke [.m r0] μ K Z:=by
 refine⟨rfl,?_⟩;refine⟨_,b,?_⟩;refine⟨_,b,by rw[z5H];unfold room;omega,?_⟩;refine zX Row.t (λ_=>some (.bl true)) (λr _ d c=>⟨_,rfl,WV c⟩) ?_ b;rw[z6A];refine⟨_,j4 (λ_=>true) a,?_⟩;have q:K (.bl ((a.map λ_=>true).all id)) μ:=by
  rw[show (a.map λ_=>true).all id=true by simp];exact q
 exact q
variable {L r0:Nat}{kvs:List (Key×T)}{s t:S7}{ps:List Gp}{rs:List Row}{o0 o1 o6 o7:Option T}{bt:T}
noncomputable def er (ps:List Gp):List Gp:=ps.map λp=>(0,p.2)
theorem Lease.er{hs:T}{m n h b:Int}(a:Lease ps hs m n h b):Lease (er ps) hs m n h b:=by
 have mem:∀{p:Gp},p∈NH.P.er ps->∃q∈ps,q.2=p.2:=λ{p} g=>by
  obtain⟨q,c,e⟩:=z5O.mp g;exact⟨q,c,by rw[<-e]⟩
 have d:∀{q:Gp},q∈ps->((0,q.2):Gp)∈NH.P.er ps:=λ{q} c=>z5O.mpr ⟨q,c,rfl⟩;rcases a with⟨e,o,f0,j,i⟩|⟨e,f0,j,i⟩
 .refine .inl ⟨e,o,f0,λp g f=>?_,λh' h1 h2=>?_⟩
  .obtain⟨q,c,w⟩:=mem g;rw[<-w] at f ⊢;exact j q c f
  .obtain⟨q,c,l,k⟩:=i h' h1 h2;exact⟨_,d c,l,k⟩
 .refine .inr ⟨e,f0,λp g f=>?_,λr h1 h2=>?_⟩
  .obtain⟨q,c,w⟩:=mem g;rw[<-w] at f ⊢;exact j q c f
  .obtain⟨q,c,l,k⟩:=i r h1 h2;exact⟨_,d c,l,k⟩
noncomputable abbrev Xl:List Ds:=[(zk 6 clz54),(zk 7 (z3 jx [clz6,clz0,clz16])),(sIf (tE (zq .Eq clz43 clz13)) [(zw (zt 45 zK (eV 7) [(zt 43 w9 clz4 [clz16,clz38,clz42,(eIx clz10 clz12)])]))] [(zw (Qh clz11 (qu 1 [6] (.one 0) (iE (zt 45 qN (eV 7) [clz38,clz42])) [] (qf [clz3,clz0]))))])]
noncomputable abbrev prT(p:Str×Int):T:=.t [.str p.1,.int p.2]
theorem Ch.geS7{S c:List Nat}(a:Ch S μ μ1)(b:Ch c μ1 μ2)(h:∀j∈c,μ.length<=j):Ch S μ μ2:=
 ⟨z66 a.len b.len,λj hj hs=>(b.ot j (z5S hj a.len) λw=>absurd (h j w) (by omega)).trans (a.ot j hj hs)⟩
structure PM(μ:Mem)(L c g d w:Nat)(x y z:Int)(s:S7)(ps:List Gp)(kvs:List (Key×T)):Prop where
 B:Bk μ c g (shp x y z) ps
 eG:NH.P.er ps=s.G
 hd:μ[d]?=some (.d kvs)
 H:HD μ x y z kvs s.hm
 lo:∀ho i,ze (.inr ho) kvs=some (.m i)->L<=i
 tw:μ[w]?=some (.l (s.td.map prT))
 gw:g≠w
 tab:μ[0]?=some (.tab 0)
theorem HD.up{d:Mem}{c:List (Key×T)}{hm:Str->Option Hs}{S:List Nat}{ho:Str}{a:Ls}{m n:Option Int}(H:HD μ x y z kvs hm)(ch:Ch S μ d)(hk:ze (.inr ho) c=some (.m i))(ot:∀u,u≠ho->ze (.inr u) c=ze (.inr u) kvs)(hi:d[i]?=some (hs7 x y z (some a) m n bt))(nm:n=none->m=none)
  (t:∀j∈S,j=i\/∀l m n b,μ[j]?≠some (hs7 x y z l m n b)) (fr:∀u B,u≠ho->ze (.inr u) kvs=some (.m B)->B≠i):HD d x y z c (upH hm ho ⟨a,n⟩):=by
 refine⟨λu e=>?_,λu s e=>?_,λh1 h2 j h g=>?_⟩
 .have e:(if u=ho then some _ else hm u)=none:=e;by_cases q:u=ho
  .rw[if_pos q] at e;cases e
  .rw[if_neg q] at e;rw[ot _ q];exact H.no _ e
 .have e:(if u=ho then some _ else hm u)=some s:=e;by_cases q:u=ho
  .rw[if_pos q] at e;cases e;rw[q];exact⟨i,m,_,hk,hi,nm⟩
  .rw[if_neg q] at e;obtain⟨j,m',v,p,o,r⟩:=H.so _ _ e;refine⟨j,m',v,(ot _ q).trans p,ch.get o λw=>?_,r⟩;rcases t j w with w|w
   .exact fr _ _ q p w
   .exact w _ _ _ _ o
 .by_cases k:h1=ho
  .by_cases f:h2=ho
   .rw[k,f]
   .rw[k,hk] at h;cases h;rw[ot _ f] at g;exact absurd rfl (fr _ _ f g)
  .by_cases f:h2=ho
   .rw[f,hk] at g;cases g;rw[ot _ k] at h;exact absurd rfl (fr _ _ k h)
   .rw[ot _ k] at h;rw[ot _ f] at g;exact H.inj _ _ _ h g
theorem z1O{h:Int}:(ps.filter λp=>decide (p.2.h=h)).length=((er ps).filter λp=>decide (p.2.h=h)).length:=by
 unfold er;rw[List.filter_map,z5H];rfl
theorem Qy{E:En}{ho:Str}{hs:Option Int}{m n h b:Int}{l:Option Ls}{F nn:Option Int}(B:Bk μ c g (shp x y z) ps)(ht:μ[0]?=some (.tab 0))(M:ps.length<900)(hf:∀h:Int,((er ps).filter λp=>decide (p.2.h=h)).length<64)(o:HoOk ho)(G:∀h,hs=some h->0<=h/\h<y)(n1:1<=n)(h1:h<y)(bx:b+n<=x)(H:Lease (er ps) (opT hs) (if m<0 then 0 else m) n h b)(hi:μ[i]?=some (hs7 x y z l F nn bt))
  (q:∀j a,Ch [g,i] μ j->Bk j c g (shp x y z) (ps++[(a,⟨ho,h,b,b+n,b+n,false⟩)])->j[i]?=some (hs7 x y z (some (h,b,b+n)) F nn bt)->
   E.nx [o0,o1,some (.m c),some (.m d),some (.m w),some (Row.lease ho hs m n).t,some (.str ho),some (.m i)] j) :
  zR (Xl.drop 2) [o0,o1,some (.m c),some (.m d),some (.m w),some (Row.lease ho hs m n).t,some (.str ho),some (.m i)] μ E:=by
 refine⟨_,rfl,?_⟩;refine⟨_,hi,?_⟩;refine⟨_,B.com,?_⟩;refine⟨_,rfl,_,rfl,_,rfl,?_⟩;have O:xr y (opT hs):=by
  cases hs with
  |none=>exact .inl rfl
  |some v=>exact .inr ⟨v,rfl,(G v rfl).1,(G v rfl).2⟩
 refine Kz B ht M (λh=>z1O▸hf h) o.l o.h O n1 (λP Q s f bad ch=>?_) λP Q s a A u D C f R ch B1=>?_
 .obtain⟨J,I⟩:=Lease.one H f.er;omega
 .obtain⟨J,I⟩:=Lease.one H f.er;subst J I;have K:i∉[g]:=λw=>by
   rw[z5F.mp w,B.lst] at hi;cases hi
  have e:=ch.get hi K;refine z2g (a:=(h,b,b+n)) e ⟨A,u,D,by show b<b+n;omega,C⟩ λr k N=>?_;have S:i<μ.length:=(z5C.mp hi).1;refine q r a ((ch.mono (by simp)).trans (k.mono (by simp))) (B1.ch k ?_ ?_ λp L=>?_) N
  .intro w;rw[<-z5F.mp w,B1.com] at e;cases e
  .intro w;rw[<-z5F.mp w,B1.lst] at e;cases e
  .intro w;rw[<-z5F.mp w,B1.at_ p L] at e;cases e
theorem z1B{E:En}{ho:Str}{a:Ls}{f nn:Option Int}{r k cc:Int}(sz:Hz x y z)(C:x*z<1000000000000000000000000000000000000000000000000000000000000)(ok:LsOk x y a)(hi:μ[i]?=some (hs7 x y z (some a) f nn bt))(A:∀k,nn=some k->0<=k/\k<x*y*z)(nm:nn=none->f=none)(s:a.2.1<=r)(H:r<a.2.2)(k1:1<=k)(zb:z<=1000)(hc:AtC y z a nn none r cc)(ck:cc+k<=z){td:List (Str×Int)}(tw:μ[w]?=some (.l (td.map prT)))(tl:td.length<=500000)
  (q:∀u mb B,Ch [w,i] μ u->u[i]?=some (hs7 x y z (some a) (some mb) (some (nmA y z a.1 (r*z+cc+k-1))) B)->u[w]?=some (.l ((td++(nmL y z a.1 (r*z+cc) k).map λv=>(ho,v)).map prT))->
   E.nx [o0,o1,some (.m c),some (.m d),some (.m w),some (Row.ask ho r k).t,some (.str ho),some (.m i)] u) :
  zR (Xl.drop 2) [o0,o1,some (.m c),some (.m d),some (.m w),some (Row.ask ho r k).t,some (.str ho),some (.m i)] μ E:=by
 have g:AtC y z a nn f r cc:=by
  cases nn with
  |none=>rw[nm rfl];exact hc
  |some v=>exact hc
 refine⟨_,rfl,?_⟩;refine⟨⟨_,tw⟩,?_⟩;refine⟨_,hi,?_⟩;refine⟨_,rfl,_,rfl,?_⟩;have D:=sz.z1;have I:0<=cc:=by rcases g with w|w<;>omega
 have eb:zd y z a nn f r=r*z+cc:=Us s g;have p:(r+1)*z<=a.2.2*z:=z64 (by omega) (by omega);rw[z92,z93] at p;refine z5l sz C ok hi A k1 (by omega) zb (by rw[eb];omega) ?_ λl mb j B ch G h n=>?_
 .rw[eb];show (r*z+cc+k-1) / z-(r+0)<=0;rw[show r*z+cc+k-1=(cc+k-1)+r*z by omega,za9 _ _ (by omega),zaa (by omega) (by omega)];omega
 have h:l[i]?=some (hs7 x y z (some a) (some mb) (some (nmA y z a.1 (zd y z a nn f r+k-1))) (.m B)):=h;rw[eb] at h n;refine⟨_,n,by rw[z5H,vd];unfold room;omega,?_⟩;refine zX (λv:Int=>T.int v) (λv=>some (prT (ho,v))) (λv _ F m=>⟨_,rfl,m⟩) ?_ n;rw[z6A];have o:w∉[i]:=λe=>by rw[z5F.mp e,hi] at tw;cases tw
 have b:=ch.get tw o;refine⟨_,_,b,.inl rfl,by simp only[z5H,vd];unfold room;omega,?_⟩;refine q _ mb (.m B) ((ch.mono (by simp)).trans (Ch.set.mono (by simp))) ?_ ?_
 .rw[z5G (by intro e;exact o (by simp[e]))];exact h
 .rw[get_set b,z5Y,z69];rfl
theorem VE{a:Nat}{G:Gr}:NH.P.er (ps++[(a,G)])=NH.P.er ps++[(0,G)]:=by
 show zbv _ (ps++[(a,G)])=_;rw[z5Y];rfl
theorem z27{E:En}{r:Row}(sz:Hz x y z)(hb:x*z<1000000000000000000000000000000000000000000000000000000000000)(P:PM μ L c g d w x y z s ps kvs)(wf:WF x y z s)(h:Sp7 x y z r s t)(zb:z<=1000)(hl:ps.length<800)(hf:∀h:Int,(s.G.filter λp=>decide (p.2.h=h)).length<64)(hk:kvs.length<=1000)(tl:s.td.length<=500000)(lL:L<=μ.length)(gL:L<=g)(dL:L<=d)(wL:L<=w){I:Mem}(l0:I.length=L)(c0:Ch [] I μ)
  (q:∀C ps' M o6 o7,PM C L c g d w x y z t ps' M->ps'.length<=ps.length+1->M.length<=kvs.length+1->t.td.length<=s.td.length+1000->L<=C.length->Ch [] I C->
   E.nx [some (shp x y z),o1,some (.m c),some (.m d),some (.m w),some r.t,o6,o7] C) :
  zR Xl [some (shp x y z),o1,some (.m c),some (.m d),some (.m w),some r.t,o6,o7] μ E:=by
 have dg:d≠g:=λe=>by have:=P.hd;rw[e,P.B.lst] at this;cases this
 have O:∀l m n b,μ[d]?≠some (hs7 x y z l m n b):=λl m n b e=>by rw[P.hd] at e;cases e
 have N:∀l m n b,μ[g]?≠some (hs7 x y z l m n b):=λl m n b e=>by rw[P.B.lst] at e;cases e
 have noW:∀l m n b,μ[w]?≠some (hs7 x y z l m n b):=λl m n b e=>by rw[P.tw] at e;cases e
 have sub:∀{S:List Nat} {C:Mem},Ch S μ C->(∀j∈S,L<=j)->L<=C.length/\Ch [] I C:=λ{S C} ch hS=>⟨z66 lL ch.len,Ch.geS7 c0 ch λj A=>by rw[l0];exact hS j A⟩;cases r with
 |lease D hs m n=>
  obtain⟨o,hh,n1,h,b,h0,h1,b0,bx,hL,rfl⟩:=h;rw[<-P.eG] at hL;refine⟨_,rfl,?_⟩;refine xh P.H P.hd hk o (λi U=>?_) λR μ1 b1 J d1 h2=>?_
  .cases e:s.hm D with
   |none=>rw[P.H.no D e] at U;cases U
   |some hh0=>
    obtain⟨Y,mm,b2,Q,K,i3⟩:=P.H.so D hh0 e;rw[U] at Q;cases Q;refine Qy P.B P.tab (by omega) (λh=>P.eG▸hf h) o hh n1 h1 bx hL K λu a f B2 h3=>?_;have iL:=P.lo D i U;have W:=sub f (λj A=>by simp at A;rcases A with rfl|rfl<;>assumption);refine q u _ kvs _ _ ⟨B2,by rw[VE,P.eG],f.get P.hd ?_,?_,P.lo,f.get P.tw ?_,P.gw,?_⟩ (by simp) (by omega) (by show s.td.length<=_;omega) W.1 W.2
    .intro e;simp at e;rcases e with e|e
     .exact dg e
     .exact O _ _ _ _ (e▸K)
    .have:upH s.hm D ⟨(h,b,b+n),(s.hm D).bind Hs.n⟩=upH s.hm D ⟨(h,b,b+n),hh0.n⟩:=by rw[e];rfl
     show HD u x y z kvs (upH s.hm D ⟨(h,b,b+n),(s.hm D).bind Hs.n⟩);rw[this];refine HD.up P.H f U (λ_ _=>rfl) h3 i3 (λj A=>?_) λF Y ne T e3=>ne (P.H.inj _ _ _ T (e3▸U));simp at A;rcases A with rfl|rfl
     .exact .inr N
     .exact .inl rfl
    .intro e;simp at e;rcases e with e|e
     .exact P.gw e.symm
     .exact noW _ _ _ _ (e▸K)
    .refine f.get P.tab ?_;intro e;simp at e;rcases e with e|e
     .have:=P.B.lst;rw[<-e,P.tab] at this;cases this
     .rw[<-e,P.tab] at K;cases K
  .have gd:g∉[d]:=by simpa using dg.symm
   have cd:c∉[d]:=λe=>by have:=P.B.com;rw[z5F.mp e,P.hd] at this;cases this
   have B1:=P.B.ch J cd gd λp hp e=>by have:=P.B.at_ p hp;rw[z5F.mp e,P.hd] at this;cases this
   have t1:=J.get P.tab (λe=>by have:=P.hd;rw[<-z5F.mp e,P.tab] at this;cases this);have w1:=J.get P.tw (λe=>by have:=P.hd;rw[<-z5F.mp e,P.tw] at this;cases this);refine Qy B1 t1 (by omega) (λh=>P.eG▸hf h) o hh n1 h1 bx hL h2 λu a f B2 h3=>?_;have gl:g<μ.length:=(z5C.mp P.B.lst).1;have wl:w<μ.length:=(z5C.mp P.tw).1;have dl:d<μ.length:=(z5C.mp P.hd).1;have V:=sub J (λj A=>by rw[z5F.mp A];exact dL);have c2:Ch [] I u:=Ch.geS7 V.2 f λj A=>by simp at A;rcases A with rfl|rfl<;>omega
   have ch12:Ch [d,g,μ.length] μ u:=(J.mono (by simp)).trans (f.mono (by simp));refine q u _ _ _ _ ⟨B2,by rw[VE,P.eG],f.get d1 (by simp;omega),?_,λF Y e=>?_,f.get w1 (by simp;exact⟨P.gw.symm,by omega⟩),P.gw,f.get t1 ?_⟩ (by simp) (jK) (by show s.td.length<=_;omega) (z66 V.1 f.len) c2
   .have:upH s.hm D ⟨(h,b,b+n),(s.hm D).bind Hs.n⟩=upH s.hm D ⟨(h,b,b+n),none⟩:=by rw[R];rfl
    show HD u x y z _ (upH s.hm D ⟨(h,b,b+n),(s.hm D).bind Hs.n⟩);rw[this];refine HD.up (m:=none) P.H ch12 (by rw[wN,if_pos rfl]) (λF ne=>by rw[wN,if_neg (by intro e;exact ne (by injection e))]) h3 (λ_=>rfl) (λj A=>?_) λF Y ne T e3=>?_
    .simp at A;rcases A with rfl|rfl|rfl
     .exact .inr O
     .exact .inr N
     .exact .inl rfl
    .cases e4:s.hm F with
     |none=>rw[P.H.no _ e4] at T;cases T
     |some hh4=>
      obtain⟨j,_,_,j1,j2,_⟩:=P.H.so _ _ e4;rw[T] at j1;cases j1;have:=(z5C.mp j2).1;omega
   .rw[wN] at e;by_cases q:(z9e F:Key)=.inr D
    .rw[if_pos q] at e;cases e;exact lL
    .rw[if_neg q] at e;exact P.lo _ _ e
   .intro e;simp at e;rcases e with e|e
    .have:=P.B.lst;rw[<-e,P.tab] at this;cases this
    .have:=(z5C.mp P.tab).1;omega
 |ask D r k=>
  obtain⟨o,hh,cc,e0,r0,r1,k1,k2,ck,at_,rfl⟩:=h;obtain⟨i,mm,b2,Q,K,i3⟩:=P.H.so D hh e0;have iL:=P.lo D i Q;refine⟨_,rfl,?_⟩;refine xh P.H P.hd hk o (λY Z=>?_) λR _ _ _ _ _=>by rw[R] at e0;cases e0
  rw[Q] at Z;cases Z;refine z1B sz hb (wf.ls _ _ e0) K (λv e=>wf.nm _ _ _ e0 e) i3 r0 r1 k1 zb at_ ck P.tw tl λu mb b3 f h3 w2=>?_
  have W:=sub f (λj A=>by simp at A;rcases A with rfl|rfl<;>assumption);have X:∀j,(∀l m n b,μ[j]?≠some (hs7 x y z l m n b))->j≠w->j∉[w,i]:=λj A e1 e=>by
   simp at e;rcases e with e|e
   .exact e1 e
   .exact A _ _ _ _ (e▸K)
  have td:d≠w:=λe=>by have:=P.hd;rw[e,P.tw] at this;cases this
  have B2:Bk u c g (shp x y z) ps:=by
   refine P.B.ch f (X c (λl m n b e=>by rw[P.B.com] at e;cases e) λe=>?_) (X g N P.gw) λp hp=>X _ (λl m n b e=>by rw[P.B.at_ p hp] at e;cases e) λe=>?_
   .have:=P.B.com;rw[e,P.tw] at this;cases this
   .have:=P.B.at_ p hp;rw[e,P.tw] at this;cases this
  have T2:u[0]?=some (.tab 0):=by
   refine f.get P.tab (X 0 (λl m n b e=>by rw[P.tab] at e;cases e) λe=>?_);have:=P.tab;rw[e,P.tw] at this;cases this
  refine q u ps kvs _ _ ⟨B2,P.eG,f.get P.hd (X d O td),?_,P.lo,w2,P.gw,T2⟩ (by omega) (by omega) ?_ W.1 W.2
  .refine HD.up P.H f Q (λ_ _=>rfl) h3 (λe=>by cases e) (λj A=>?_) λF Y ne T e3=>ne (P.H.inj _ _ _ T (e3▸Q));simp at A;rcases A with rfl|rfl
   .exact .inr noW
   .exact .inl rfl
  .show (s.td++_).length<=_;rw[z6k,z5H,vd];omega
noncomputable def s70:S7:=⟨[],λ_=>none,[]⟩
theorem Sp7.gpre{r:Row}(h:Sp7 x y z r s t):s.G.Sublist t.G:=by
 cases r with
 |lease ho hs m n=>
  obtain⟨_,_,_,h,b,_,_,_,_,_,rfl⟩:=h;exact List.sublist_append_left _ _
 |ask ho r k=>
  obtain⟨_,a,c,_,_,_,_,_,_,_,rfl⟩:=h;exact zbA _
theorem Run7.gpre{t:S7}:∀{rs:List Row} {s:S7},Run7 x y z rs s t->s.G.Sublist t.G
 |[],s,h=>by cases h;exact zbA _
 |r::rs,s,⟨u,h1,h2⟩=>h1.gpre.trans (Run7.gpre h2)
theorem Wj(sz:Hz x y z)(U:x*z<VX)(tab:μ[0]?=some (.tab 0))(l:μ[r0]?=some (.l (rs.map Row.t)))(hl:rs.length<=200)(zb:z<=1000)(hG:t.G.length<=700)(hf:∀h:Int,(t.G.filter λp=>decide (p.2.h=h)).length<64)(run:Run7 x y z rs s70 t)(q:∀B j,Ch [] μ B->μ.length<=j->B[j]?=some (.l (t.td.map prT))->t.td.length<=200000->K (.m j) B):ZY [shp x y z,.m r0] μ K Z:=by
 refine⟨rfl,?_⟩;refine Za l (by omega) ?_;refine vX ?_;refine⟨rfl,?_⟩;generalize d:μ++[MO.obj 43 [(9,shp x y z),(10,.m (μ.length+1))],.l []]=a;have l1:a.length=μ.length+2:=by rw[<-d];simp
 have f:Ch [] μ a:=by
  rw[<-d];exact⟨by simp,λj F _=>z5N F⟩
 have X:a[μ.length]?=some (MO.obj 43 [(9,shp x y z),(10,.m (μ.length+1))]):=by
  rw[<-d,z5_ (z5K _)];simp
 have W:a[μ.length+1]?=some (MO.l []):=by
  rw[<-d,z5_ (by omega)];simp
 have P0:PM (a++[MO.d []]++[.l []]) μ.length μ.length (μ.length+1) a.length (a++[MO.d []]).length x y z s70 [] []:=by
  refine⟨⟨z5 (z5 X),z5 (z5 W),by simp,by simp⟩,rfl,z5 z8,⟨λ_ _=>rfl,λD M e=>(by simp[s70] at e),λD S i e=>(by cases e)⟩,λD i e=>(by cases e),z8,(by simp;omega),z5 (z5 (f.get tab (by simp)))⟩
 refine⟨_,z5 (z5 (f.get l (by simp))),?_⟩
 refine zH (λj o B=>∃(s:S7) (g:List Gp) (b:List (Key×T)) (C A w:Option T),o=[some (shp x y z),some (.m r0),some (.m μ.length),some (.m a.length),some (.m (a++[MO.d []]).length),C,A,w]/\Run7 x y z (rs.drop j) s t/\WF x y z s/\PM B μ.length μ.length (μ.length+1) a.length (a++[MO.d []]).length x y z s g b/\b.length<=j/\s.td.length<=1000*j/\μ.length<=B.length/\Ch [] μ B)
  ⟨s70,[],[],_,_,_,rfl,run,⟨λD M e=>(by simp[s70] at e),λD M v e=>(by simp[s70] at e)⟩,P0,by simp,(by simp[s70]),(by simp;omega),(f.trans Ch.app).trans Ch.app⟩ ?_ ?_ ?_
 .rintro j u o B L ⟨s,g,b,C,A,w,rfl,c,wf,P,O,I,H,n⟩ N V;rw[z5Z] at L;obtain⟨r,l,rfl⟩:=z6q.mp L;obtain⟨F,er⟩:=z5C.mp l;have Q:=c.gpre;have gl:=Q.length_le;have pl:g.length=s.G.length:=by rw[<-P.eG];show _=(zbv _ g).length;rw[z5H]
  rw[z6P F,er] at c;obtain⟨m,J,c⟩:=c;refine⟨_,rfl,?_⟩;exact z27 sz U P wf J zb (by omega) (λh=>z8D (Q.filter _).length_le (hf h)) (by omega) (by omega) H (by omega) (by omega) (by simp;omega) rfl n λR E k p6 p7 P2 e1 e2 e3 e4 Y=>V _ _ ⟨m,E,k,_,_,_,rfl,c,J.wf sz wf,P2,by omega,by omega,e4,Y⟩
 .rintro o B ⟨s,g,b,C,A,w,rfl,c,wf,P,O,I,H,n⟩;rw[z5H] at c I;rw[z9R] at c;have e:t=s:=c;rw[e] at q;exact q B _ n (by simp;omega) P.tw (by omega)
 .rintro j o B ⟨s,g,b,C,A,w,rfl,c,wf,P,O,I,H,n⟩;exact n.get l (by simp)
end
section
variable {x y z:Int}{s:S7}{rs:List Row}{dn:List (Str×Int)}{la:Str->Option Int}{ho:Str}{v:Int}{j d w w2:Nat}
noncomputable abbrev ptT(y z v:Int):T:=.t [.int (v / z / y),.int (v / z % y),.int (v % z)]
noncomputable def z3o(y z:Int):Option Int->T
 |none=>.n
 |some v=>ptT y z v
theorem z2R{a b c d:Int}:eqL [T.int a,T.int b] [T.int c,T.int d]=some (decide (a=c)&&decide (b=d)):=by
 have f:(a==c)=decide (a=c):=by by_cases z:a=c<;>simp[z]
 have e:(b==d)=decide (b=d):=by by_cases z:b=d<;>simp[z]
 simp[eqL,eqT,f,e]
theorem yn{a:Ls}{v r:Int}(sz:Hz x y z)(h0:0<=a.1)(h1:a.1<y)(v0:0<=v) :
  (v / z / y=r/\v / z % y=a.1->AtC y z a (some v) none r (v % z+1))/\
  (¬(v / z / y=r/\v / z % y=a.1)->¬(r<v / z / y\/(r=v / z / y/\(a.1<v / z % y\/(a.1=v / z % y/\0<=v % z))))->AtC y z a (some v) none r 0):=by
 obtain⟨g,f,e,d,c⟩:=id sz;have m:=z62 v (show z≠0 by omega);have l:=z68 v (show 0<z by omega);refine⟨λ⟨b,k⟩=>?_,λb n=>?_⟩
 .refine .inr ⟨?_,by omega⟩;show plA y z a.1 v=_;unfold plA;rw[if_neg (by omega),if_neg (by omega),b];omega
 .refine .inl ⟨?_,rfl⟩;show plA y z a.1 v<=r*z;unfold plA;have up:∀{p q:Int},p<=q->p*z<=q*z:=λh=>z64 h (by omega);split
  .exact up (by omega)
  .split
   .exact up (by omega)
   .rename_i j i;have:=up (show v / z / y+1<=r by omega);rw[z92,z93] at this;omega
theorem z3y{h r cc j:Int}(z1:1<=z)(c0:0<=cc)(b:0<=j)(a:cc+j<z):(r*y+h)*z+(cc+j)=nmA y z h (r*z+cc+j):=by
 have e:r*z+cc+j=(cc+j)+r*z:=by omega
 unfold nmA;rw[e,za9 _ _ (by omega),zaa (by omega) a,Int.add_mul_emod_self_right,Int.emod_eq_of_lt (by omega) a];simp
noncomputable def vc (y z:Int)(a b:Str×Int):Bool:=if a.1=b.1 then decide (a.2<b.2) else !(decide (a.2 / z / y=b.2 / z / y)&&decide (a.2 / z % y=b.2 / z % y))
structure Pa7(x y z v:Int):Prop where
 m0:0<=v / z / y
 m1:v / z / y<x
 h0:0<=v / z % y
 h1:v / z % y<y
 c0:0<=v % z
 c1:v % z<z
 e:nmA y z (v / z % y) (v / z / y*z+v % z)=v
theorem z0a(sz:Hz x y z)(v0:0<=v)(v1:v<x*y*z):Pa7 x y z v:=by
 obtain⟨l,k,i,d,g⟩:=sz;have a:v / z<x*y:=z75 (by omega) v1;have b:v / z / y<x:=z75 (by omega) a;have f:0<=v / z:=z82 v0 (by omega);have c:=z62 v (show z≠0 by omega);have e:=z68 v (show 0<z by omega);refine⟨z82 f (by omega),b,z62 _ (by omega),z68 _ (by omega),c,e,?_⟩;have:=z3y (y:=y) (h:=v / z % y) (r:=v / z / y) (cc:=0) (j:=v % z) d (z6E _) c (by omega);rw[Int.add_zero,Int.zero_add] at this;rw[<-this,zan,zan]
theorem wR{a b:Int}(z1:1<=z)(y1:1<=y)(h:a<b):a / z / y<b / z / y\/(a / z / y=b / z / y/\(a / z % y<b / z % y\/(a / z % y=b / z % y/\a % z<b % z))):=by
 have q:a / z<=b / z:=z8o (by omega) (by omega);have f:a / z / y<=b / z / y:=z8o (by omega) q;have e:=z6x a z;have i:=z6x b z;have d:=z6x (a / z) y;have g:=z6x (b / z) y;by_cases w:a / z / y=b / z / y
 .right;refine⟨w,?_⟩;rw[w] at d;by_cases c:a / z % y=b / z % y
  .right;have:a / z=b / z:=by omega
   rw[this] at e;exact⟨c,by omega⟩
  .left;omega
 .left;omega
structure RO(x y z:Int)(dn:List (Str×Int))(la:Str->Option Int)(rs:List Row)(s:S7):Prop where
 run:Run7 x y z rs s70 s
 l2:∀e∈dn,∃v,la e.1=some v/\e.2<=v
 l3:∀ho v,la ho=some v->(ho,v)∈dn
 hm:∀ho,s.hm ho=(la ho).map λv=>⟨(v / z % y,v / z / y,v / z / y+1),some v⟩
 G:∀p∈s.G,∃e∈dn,p.2.h=e.2 / z % y/\p.2.f=e.2 / z / y/\p.2.u=e.2 / z / y+1
 td:dn.Sublist s.td
 gl:s.G.length<=dn.length
 rl:rs.length<=2*dn.length
 gn:(s.G.map λp=>(p.2.h,p.2.f)).Nodup
noncomputable def upA(la:Str->Option Int)(ho:Str)(v:Int):Str->Option Int:=λa=>if a=ho then some v else la a
theorem US{h b k:Int}(k1:1<=k):nmL y z h b k=nmL y z h b (k-1)++[nmA y z h (b+k-1)]:=by
 have:=X.nmL_two (y:=y) (z:=z) (h:=h) (b:=b) (e:=b+k) (m:=b+k-1) (by omega) (by omega);rw[show b+k-b=k by omega,show b+k-1-b=k-1 by omega,show b+k-(b+k-1)=1 by omega] at this;rw[this];congr 1;show [nmA y z h (b+k-1+(0:Nat))]=_;rw[show b+k-1+((0:Nat):Int)=b+k-1 by omega]
theorem W9{n:Option Int}{cc k:Int}(b:z<=1000)(P:Pa7 x y z v)(o:HoOk ho)(e0:s.hm ho=some ⟨(v / z % y,v / z / y,v / z / y+1),n⟩)(k1:1<=k)(c0:0<=cc)(ck:cc+k=v % z+1)(at_:AtC y z (v / z % y,v / z / y,v / z / y+1) n none (v / z / y) cc) :
  ∃u,Sp7 x y z (.ask ho (v / z / y) k) s u/\u.G=s.G/\u.hm=upH s.hm ho ⟨(v / z % y,v / z / y,v / z / y+1),some v⟩/\∃B,u.td=s.td++(B++[(ho,v)]):=by
 have c:=P.c1;have a:nmA y z (v / z % y) (v / z / y*z+cc+k-1)=v:=by
  rw[show v / z / y*z+cc+k-1=v / z / y*z+v % z by omega];exact P.e
 refine⟨_,⟨o,_,cc,e0,z6E _,by show v / z / y<v / z / y+1;omega,k1,by omega,by omega,at_,rfl⟩,rfl,?_,?_⟩
 .show upH s.hm ho ⟨(v / z % y,v / z / y,v / z / y+1),some (nmA y z (v / z % y) (v / z / y*z+cc+k-1))⟩=_;rw[a]
 .refine⟨(nmL y z (v / z % y) (v / z / y*z+cc) (k-1)).map λv=>(ho,v),?_⟩;show s.td++(nmL y z (v / z % y) (v / z / y*z+cc) k).map (λv=>(ho,v))=_;rw[US k1,z5Y,a];rfl
theorem RO.upd{c:List Row}{b:S7}{d:List (Str×Int)}(R:RO x y z dn la rs s)(T:∀e∈dn,vc y z e (ho,v)=true)(run:Run7 x y z c s70 b)(rl:c.length<=rs.length+2)(hm:b.hm=upH s.hm ho ⟨(v / z % y,v / z / y,v / z / y+1),some v⟩)(td:b.td=s.td++(d++[(ho,v)]))
  (gl:b.G.length<=s.G.length+1) (G:∀p∈b.G,p∈s.G\/(p.2.h=v / z % y/\p.2.f=v / z / y/\p.2.u=v / z / y+1)) (gn:(b.G.map λp=>(p.2.h,p.2.f)).Nodup):RO x y z (dn++[(ho,v)]) (upA la ho v) c b:=by
 refine⟨run,λe he=>?_,λa v' e=>?_,λa=>?_,λp g=>?_,?_,?_,?_,gn⟩
 .rcases z5L.mp he with he|he
  .by_cases q:e.1=ho
   .refine⟨v,by unfold upA;rw[if_pos q],?_⟩;have:=T e he;unfold vc at this;rw[if_pos q] at this;have:=of_decide_eq_true this;exact z8p this
   .obtain⟨w,h1,h2⟩:=R.l2 e he;exact⟨w,by unfold upA;rw[if_neg q];exact h1,h2⟩
  .rw[z5F.mp he];exact⟨v,by unfold upA;rw[if_pos rfl],z6E _⟩
 .unfold upA at e;by_cases q:a=ho
  .rw[if_pos q] at e;cases e;rw[q];simp
  .rw[if_neg q] at e;exact z65 _ (R.l3 _ _ e)
 .rw[hm];unfold upH upA;by_cases q:a=ho
  .rw[if_pos q,if_pos q];rfl
  .rw[if_neg q,if_neg q];exact R.hm a
 .rcases G p g with w|w
  .obtain⟨e,he,w⟩:=R.G p w;exact⟨e,z65 _ he,w⟩
  .exact⟨(ho,v),by simp,w⟩
 .rw[td];exact zdh R.td (List.sublist_append_right _ _)
 .have:=R.gl;simp;omega
 .have:=R.rl;simp;omega
theorem U2{v':Int}(sz:Hz x y z)(g:z<=1000)(R:RO x y z dn la rs s)(o:HoOk ho)(v0:0<=v)(v1:v<x*y*z)(T:∀e∈dn,vc y z e (ho,v)=true)(nn:∀e∈dn,0<=e.2)(e:la ho=some v')(f:v' / z / y=v / z / y)(d:v' / z % y=v / z % y) :
  ∃u,RO x y z (dn++[(ho,v)]) (upA la ho v) (rs++[.ask ho (v / z / y) (v % z+1-(v' % z+1))]) u:=by
 have P:=z0a sz v0 v1;have h:=sz.z1;have lt:v'<v:=by
  have:=T _ (R.l3 _ _ e);unfold vc at this;rw[if_pos rfl] at this;exact of_decide_eq_true this
 have q:=wR (y:=y) (z:=z) h sz.y1 lt;have b:0<=v':=nn _ (R.l3 _ _ e);have t:=z62 v' (show z≠0 by omega);have e0:s.hm ho=some ⟨(v / z % y,v / z / y,v / z / y+1),some v'⟩:=by
  rw[R.hm,e,<-f,<-d];rfl
 have at_:=(yn (x:=x) (a:=(v / z % y,v / z / y,v / z / y+1)) (r:=v / z / y) sz P.h0 P.h1 b).1 ⟨f,d⟩
 obtain⟨u,i,c,m,n,l⟩:=W9 (k:=v % z+1-(v' % z+1)) g P o e0 (by omega) (by omega) (by omega) at_
 exact⟨u,R.upd T (R.run.snoc i) (by simp) m l (by rw[c];omega) (λp j=>.inl (by rw[<-c];exact j)) (by rw[c];exact R.gn)⟩
theorem z1D(sz:Hz x y z)(D:z<=1000)(R:RO x y z dn la rs s)(o:HoOk ho)(v0:0<=v)(v1:v<x*y*z)(T:∀e∈dn,vc y z e (ho,v)=true)(nn:∀e∈dn,0<=e.2)(no:∀v',la ho=some v'->¬(v' / z / y=v / z / y/\v' / z % y=v / z % y)) :
  ∃u,RO x y z (dn++[(ho,v)]) (upA la ho v) (rs++[.lease ho (some (v / z % y)) (v / z / y) 1]++[.ask ho (v / z / y) (v % z+1)]) u:=by
 have P:=z0a sz v0 v1;have i:=sz.z1;have I:=P.m0;have lt:∀{w},(ho,w)∈dn->w<v:=λ{w} h=>by
  have:=T _ h;unfold vc at this;rw[if_pos rfl] at this;exact of_decide_eq_true this
 have free:∀p∈s.G,p.2.h=v / z % y->mt p.2 (v / z / y) (v / z / y+1)=false:=by
  intro p g B;obtain⟨e,C,A,t,m⟩:=R.G p g;have ne:e.2 / z / y≠v / z / y:=λw=>by
   by_cases q:e.1=ho
   .obtain⟨v',d,c⟩:=R.l2 e C;rw[q] at d;have l:=lt (R.l3 _ _ d);have n:=no v' d;have M:=wR (y:=y) (z:=z) i sz.y1 l;rcases Int.lt_or_eq_of_le c with c|c
    .have Q:=wR (y:=y) (z:=z) i sz.y1 c;omega
    .rw[c] at w A;exact n ⟨w,A▸B⟩
   .have:=T _ C;unfold vc at this;rw[if_neg q,decide_eq_true w,decide_eq_true (A▸B:e.2 / z % y=v / z % y)] at this;cases this
  unfold mt;rw[t,m];apply decide_eq_false;split<;>split<;>omega
 have j:Sp7 x y z (.lease ho (some (v / z % y)) (v / z / y) 1) s ⟨s.G++[(0,⟨ho,v / z % y,v / z / y,v / z / y+1,v / z / y+1,false⟩)],upH s.hm ho ⟨(v / z % y,v / z / y,v / z / y+1),(s.hm ho).bind Hs.n⟩,s.td⟩:=by
  refine⟨o,λh e=>(by cases e;exact⟨P.h0,P.h1⟩),z6E _,v / z % y,v / z / y,P.h0,P.h1,P.m0,P.m1,?_,rfl⟩;rw[if_neg (by omega)];exact .inr ⟨rfl,z6E _,free,λO d c=>by omega⟩
 have at_:AtC y z (v / z % y,v / z / y,v / z / y+1) ((s.hm ho).bind Hs.n) none (v / z / y) 0:=by
  rw[R.hm];cases e:la ho with
  |none=>exact .inl ⟨z8P I (by omega),rfl⟩
  |some v'=>
   have l:=lt (R.l3 _ _ e);have M:=wR (y:=y) (z:=z) i sz.y1 l;have n:=no v' e;exact (yn (x:=x) (a:=(v / z % y,v / z / y,v / z / y+1)) (r:=v / z / y) sz P.h0 P.h1 (nn _ (R.l3 _ _ e))).2 n λq=>by
    have:=z62 v' (show z≠0 by omega);have q:v / z / y<v' / z / y\/(v / z / y=v' / z / y/\(v / z % y<v' / z % y\/(v / z % y=v' / z % y/\0<=v' % z))):=q;omega
 obtain⟨u,H,d,c,N,L⟩:=W9 (s:=⟨s.G++[(0,⟨ho,v / z % y,v / z / y,v / z / y+1,v / z / y+1,false⟩)],upH s.hm ho ⟨(v / z % y,v / z / y,v / z / y+1),(s.hm ho).bind Hs.n⟩,s.td⟩) (k:=v % z+1) D P o (by show (if ho=ho then _ else _)=_;rw[if_pos rfl]) (by have:=P.c0;omega) (z6E _) (by omega) at_
 refine⟨u,R.upd T ((R.run.snoc j).snoc H) (by simp) ?_ L (by rw[d];simp) (λp g=>?_) ?_⟩
 .rw[c];funext a;unfold upH;by_cases q:a=ho
  .rw[if_pos q,if_pos q]
  .rw[if_neg q,if_neg q];show (if a=ho then _ else s.hm a)=_;rw[if_neg q]
 .rw[d] at g;rcases z5L.mp g with w|w
  .exact .inl w
  .rw[z5F.mp w];exact .inr ⟨rfl,rfl,rfl⟩
 .rw[d,z5Y];refine z6L.mpr ⟨R.gn,by simp,λa K b J=>?_⟩;obtain⟨p,g,rfl⟩:=z5O.mp K;rw[z5F.mp J];intro w;obtain⟨F,E⟩:=z7H w;have:=free p g F;obtain⟨e,_,_,t,m⟩:=R.G p g;unfold mt at this;have:=of_decide_eq_false this;rw[m,<-t,show p.2.f=v / z / y from E] at this;refine this ?_;rw[if_neg (zcP _),if_neg (zcP _)];omega
end
section
variable {x y z lo t:Int}{i:Nat}{ps ps':List Gp}{vs:List Vh}{v v':Vh}{es:List E3}{qs:List (Str×Str×Int)}{ca:Str->Str}{L:List Int}{e nm:Int}
structure Od(y z:Int)(v:Vh)(e:Int):Prop where
 l:∀a,v.u.l=some a->¬InL y z a e
 b:∀q∈X.nmB y z v.bs,q / z≠e / z
noncomputable def WT (qs:List (Str×Str×Int))(ca:Str->Str)(ho:Str)(e:Int):Prop:=∃q∈qs,q.2.1=ho/\q.1≠ca ho/\q.2.2=e
noncomputable abbrev cN(q:Str×Str×Int):Str×Int:=(q.1,q.2.2)
structure J78(x y z lo:Int)(vs:List Vh)(ps:List Gp)(es:List E3)(qs:List (Str×Str×Int))(ca:Str->Str):Prop where
 I:I91 x y z vs ps es
 eq:es.map (·.2)=qs.map (·.2)
 sa:∀q∈qs,∀v∈vs,v.u.ho=q.2.1->q.1=ca v.u.ho->∃a,v.la=some a/\q.2.2<=a
 ol:∀v∈vs,∀e,WT qs ca v.u.ho e->Od y z v e
 ij:∀q∈qs,∀v∈vs,q.1=ca v.u.ho->q.2.1=v.u.ho
 ci:∀v∈vs,∀w∈vs,ca v.u.ho=ca w.u.ho->v.u.ho=w.u.ho
 lo:∀p∈ps,lo<=p.2.f
 al:(qs.map cN).Pairwise λa b=>vc y z a b=true
theorem J78.hg(J:J78 x y z lo vs ps es qs ca){q:Str×Str×Int}(a:q∈qs):HasG y z ps q.2.1 q.2.2/\0<=q.2.2/\q.2.2<x*y*z:=by
 have:q.2∈es.map (·.2):=J.eq▸z5O.mpr ⟨q,a,rfl⟩;obtain⟨e,he,h⟩:=z5O.mp this;exact⟨h▸J.I.eg e he,h▸J.I.eb e he⟩
theorem Jp{a b:Int}(h:a / z / y=b / z / y/\a / z % y=b / z % y):a / z=b / z:=by
 rw[<-z6x (a / z) y,<-z6x (b / z) y,h.1,h.2]
theorem UJ{a b:Str×Int}(h:a.1≠b.1)(n:a.2 / z≠b.2 / z):vc y z a b=true:=by
 unfold vc;rw[if_neg h];cases q:decide (a.2 / z / y=b.2 / z / y)&&decide (a.2 / z % y=b.2 / z % y) with
 |false=>rfl
 |true=>
  simp only[z5P,decide_eq_true_eq] at q;exact absurd (Jp q) n
theorem HasG.ne{ho c:Str}{n e:Int}(G:Gd x y ps)(a:HasG y z ps ho n)(b:HasG y z ps c e)(h:ho≠c):n / z≠e / z:=by
 intro w;obtain⟨p,k,p1,p2,m,l⟩:=a;obtain⟨q,j,i,d,g,f⟩:=b;rw[<-w] at d g f;have:=G.same k j (p2.symm.trans d) ⟨by omega,by omega,by omega,by omega⟩;exact h (p1.symm.trans (this▸i))
theorem J78.turn(J:J78 x y z lo vs ps es qs ca)(hi:vs[i]?=some v)(I:I91 x y z (vs.set i v') ps' (es++L.map λnm=>(t,v.u.ho,nm)))(ho:v'.u.ho=v.u.ho)(up:L.Pairwise (·<·))(gt:∀nm∈L,0<=nm/\∀a,v.la=some a->a<nm)
  (la:v'.la=if L=[] then v.la else L.getLast?) (O:∀p∈ps',lo<=p.2.f) (W:∀e,WT qs ca v.u.ho e->Od y z v' e) (nw:∀e,WT qs ca v.u.ho e->∀nm∈L,nm / z≠e / z) :
  J78 x y z lo (vs.set i v') ps' (es++L.map λnm=>(t,v.u.ho,nm)) (qs++L.map λnm=>(ca v.u.ho,v.u.ho,nm)) ca:=by
 have A:=z5E hi;have k:∀{q:Str×Str×Int},q∈qs++L.map (λnm=>(ca v.u.ho,v.u.ho,nm))->q∈qs\/∃nm∈L,q=(ca v.u.ho,v.u.ho,nm):=λ{q} h=>by
  rcases z5L.mp h with h|h
  .exact .inl h
  .obtain⟨nm,h1,h2⟩:=z5O.mp h;exact .inr ⟨nm,h1,h2.symm⟩
 have o:∀nm∈L,∃a,v'.la=some a/\nm<=a:=λnm h=>by
  have T:L≠[]:=λw=>by rw[w] at h;cases h
  rw[la,if_neg T,z7c T];refine⟨_,rfl,?_⟩;obtain⟨j,hj,e⟩:=z91.mp h;rw[List.getLast_eq_getElem,<-e];by_cases w:j=L.length-1
  .subst w;exact z6E _
  .exact z8p (z6h.mp up j (L.length-1) hj (by omega) (by omega))
 have eg:∀nm∈L,HasG y z ps' v.u.ho nm:=λnm h=>I.eg (t,v.u.ho,nm) (z5R _ (z5O.mpr ⟨nm,h,rfl⟩));have eo:∀q∈qs,HasG y z ps' q.2.1 q.2.2:=λq d=>by
  have:q.2∈es.map (·.2):=J.eq▸z5O.mpr ⟨q,d,rfl⟩;obtain⟨e,he,h⟩:=z5O.mp this;exact h▸I.eg e (z65 _ he)
 have G:∀{e},WT (qs++L.map λnm=>(ca v.u.ho,v.u.ho,nm)) ca v.u.ho e->WT qs ca v.u.ho e:=λ{e} ⟨q,d,D,C,F⟩=>by
  rcases k d with h|⟨nm,_,rfl⟩
  .exact⟨q,h,D,C,F⟩
  .exact absurd rfl C
 have nh:=J.I.nh;have ne:∀{j:Nat} {u:Vh},j≠i->vs[j]?=some u->u.u.ho≠v.u.ho:=λ{j u} hj g w=>by
  obtain⟨l1,Y⟩:=z5C.mp g;obtain⟨l2,X⟩:=z5C.mp hi;refine hj ((z7T (h₀:=by simpa using l1) (h₁:=by simpa using l2) nh).mp ?_);simp[Y,X,w]
 have l:∀{u:Vh},u∈vs.set i v'->u=v'\/∃j,j≠i/\vs[j]?=some u:=λ{u} g=>by
  rcases jz (P:=λ_=>True) g with rfl|⟨j,n,hj⟩
  .exact .inl rfl
  .exact .inr ⟨j,n,hj⟩
 have K:∀{u:Vh},u∈vs.set i v'->∃w∈vs,w.u.ho=u.u.ho:=λ{u} g=>by
  rcases l g with rfl|⟨j,hj,c⟩
  .exact⟨v,A,ho.symm⟩
  .exact⟨u,z5E c,rfl⟩
 refine⟨I,by rw[z5Y,z5Y,J.eq,z69,z69];rfl,λq d u g m R=>?_,λu g e he=>?_,λq d u g m=>?_,λu g w hw m=>?_,O,?_⟩
 .rcases l g with rfl|⟨j,hj,c⟩
  .rw[ho] at m R;rcases k d with h|⟨nm,h,rfl⟩
   .obtain⟨a,s,B⟩:=J.sa q h v A m R;cases L with
    |nil=>rw[la,if_pos rfl];exact⟨a,s,B⟩
    |cons nm r=>
     obtain⟨b,E,h2⟩:=o nm z60;have:=(gt nm z60).2 a s;exact⟨b,E,by omega⟩
   .exact o nm h
  .rcases k d with h|⟨nm,h,rfl⟩
   .exact J.sa q h u (z5E c) m R
   .exact absurd m (ne hj c)
 .rcases l g with rfl|⟨j,hj,c⟩
  .rw[ho] at he;exact W e (G he)
  .obtain⟨q,d,D,C,F⟩:=he;rcases k d with h|⟨nm,h,rfl⟩
   .exact J.ol u (z5E c) e ⟨q,h,D,C,F⟩
   .exact absurd D.symm (ne hj c)
 .obtain⟨w,hw,Q⟩:=K g;rw[<-Q] at m ⊢;rcases k d with h|⟨nm,h,rfl⟩
  .exact J.ij q h w hw m
  .exact J.ci v A w hw m
 .obtain⟨V,M,Z⟩:=K g;obtain⟨U,H,Q⟩:=K hw;rw[<-Z,<-Q] at m ⊢;exact J.ci V M U H m
 .rw[z5Y];refine z7J.mpr ⟨J.al,?_,λa s b E=>?_⟩
  .rw[z69,z72];refine up.imp λ{a b} h=>?_;show vc y z (ca v.u.ho,a) (ca v.u.ho,b)=true;unfold vc;rw[if_pos rfl];exact decide_eq_true h
  .obtain⟨q,d,rfl⟩:=z5O.mp s;rw[z69] at E;obtain⟨nm,N,rfl⟩:=z5O.mp E;show vc y z (q.1,q.2.2) (ca v.u.ho,nm)=true;by_cases w:q.1=ca v.u.ho
   .obtain⟨a,s,B⟩:=J.sa q d v A (J.ij q d v A w).symm w;have:=(gt nm N).2 a s;unfold vc;rw[if_pos w];exact decide_eq_true (by show q.2.2<nm;omega)
   .refine UJ w ?_;by_cases S:q.2.1=v.u.ho
    .exact (nw q.2.2 ⟨q,d,S,w,rfl⟩ nm N).symm
    .exact HasG.ne I.gd (eo q d) (eg nm N) S
theorem J78.bare{c:Str}(J:J78 x y z lo vs ps es qs ca)(hi:vs[i]?=some v)(I:I91 x y z (vs.set i v') ps' es)(ho:v'.u.ho=v.u.ho)(l:v'.u.l=none)(b:v'.bs=[])(C:∀p∈ps',lo<=p.2.f)(E:∀q∈qs,q.1≠c)(D:∀w∈vs,ca w.u.ho≠c) :
  J78 x y z lo (vs.set i v') ps' es qs (λs=>if s=v.u.ho then c else ca s):=by
 have L:=z5E hi;have nh:=J.I.nh;have t:∀{u:Vh},u∈vs.set i v'->u=v'\/∃j,j≠i/\vs[j]?=some u:=λ{u} g=>by
  rcases jz (P:=λ_=>True) g with rfl|⟨j,n,hj⟩
  .exact .inl rfl
  .exact .inr ⟨j,n,hj⟩
 have ne:∀{j:Nat} {u:Vh},j≠i->vs[j]?=some u->u.u.ho≠v.u.ho:=λ{j u} hj g w=>by
  obtain⟨l1,K⟩:=z5C.mp g;obtain⟨l2,H⟩:=z5C.mp hi;refine hj ((z7T (h₀:=by simpa using l1) (h₁:=by simpa using l2) nh).mp ?_);simp[K,H,w]
 have k:∀{u:Vh},u∈vs.set i v'->(u=v'/\(if u.u.ho=v.u.ho then c else ca u.u.ho)=c)\/(u∈vs/\u.u.ho≠v.u.ho/\(if u.u.ho=v.u.ho then c else ca u.u.ho)=ca u.u.ho):=λ{u} g=>by
  rcases t g with rfl|⟨j,hj,o⟩
  .exact .inl ⟨rfl,if_pos ho⟩
  .exact .inr ⟨z5E o,ne hj o,if_neg (ne hj o)⟩
 refine⟨I,J.eq,λq m u g d B=>?_,λu g e he=>?_,λq m u g d=>?_,λu g w hw d=>?_,C,J.al⟩
 .have B:q.1=if u.u.ho=v.u.ho then c else ca u.u.ho:=B
  rcases k g with⟨_,e⟩|⟨h,_,e⟩
  .exact absurd (B.trans e) (E q m)
  .exact J.sa q m u h d (B.trans e)
 .rcases k g with⟨rfl,_⟩|⟨h,_,r⟩
  .exact⟨λa w=>(by rw[l] at w;cases w),λq m=>(by rw[b] at m;cases m)⟩
  .obtain⟨q,m,G,A,F⟩:=he;have A:q.1≠if u.u.ho=v.u.ho then c else ca u.u.ho:=A
   rw[r] at A;exact J.ol u h e ⟨q,m,G,A,F⟩
 .have d:q.1=if u.u.ho=v.u.ho then c else ca u.u.ho:=d
  rcases k g with⟨_,e⟩|⟨h,_,e⟩
  .exact absurd (d.trans e) (E q m)
  .exact J.ij q m u h (d.trans e)
 .have d:(if u.u.ho=v.u.ho then c else ca u.u.ho)=if w.u.ho=v.u.ho then c else ca w.u.ho:=d
  rcases k g with⟨rfl,e⟩|⟨h,_,e⟩<;>rcases k hw with⟨rfl,r⟩|⟨h',_,r⟩
  .rfl
  .rw[e,r] at d;exact absurd d.symm (D w h')
  .rw[e,r] at d;exact absurd d (D u h)
  .rw[e,r] at d;exact J.ci u h w h' d
end
section
variable {μ:Mem}{K:T->Mem->Prop}{Z:Xp}{i0 i1:Nat}{lo:Int}{qs:List (Str×Str×Int)}{ca:Str->Str}{es:List E3}{vs:List Vh}{ps:List Gp}{v:Vh}
abbrev P78(lo:Int)(qs:List (Str×Str×Int))(ca:Str->Str)(y z:Int)(v:Vh)(c:Str):List Int->Vh->List Gp->Prop:=λL a b=>
 (∀p∈b,lo<=p.2.f)/\(∀e,WT qs ca v.u.ho e->Od y z a e/\∀nm∈L,nm / z≠e / z)/\(c="bare"->L=[]/\a.u.l=none/\a.bs=[])
theorem Uc{a:Ls}{n e:Int}(h:InL y z a n)(w:n / z=e / z):InL y z a e:=by
 unfold InL at *;rw[<-w];exact h
theorem z3v(N:N91 x y z ah sd)(T:Rw y z t v.u.ho E U)(M:Wm μ w cm gr g d x y z ah sd now vs rs ps)(J:J78 x y z lo vs ps es qs ca)(hi:vs[i]?=some v)(hn:xa now t)(hl:rs.length<=100000)(t0:μ[i0]?=some (.tab 0))(t1:μ[i1]?=some (.tab 1))(pl:ps.length<64)(bl:v.bs.length<=900)(nl:(X.nmB y z v.bs).length<=100000)(l0:0<=lo)(rb:lo<=v.u.rd t)
  (G:∀c fs D,E≠"bare"->c=18\/c=19\/c=21\/c=22->Ch [] μ D->Z c fs D)
  (P:Uk (P78 lo qs ca y z v E) w cm gr g d x y z ah sd t rs vs ps i v E μ K):we [.m w,U] μ K Z:=by
 have I:=J.I;have vm:=z5E hi;have V:=I.v v vm;have O:-1000000000000000<=v.u.rd t:=by omega
 have A:=J.ol v vm;have Q:∀{a:Ls} {k:Int},v.u.l=some a->zd y z a v.u.n v.u.m (v.u.rd t)+k<=a.2.2*z->byP z (v.u.rd t) ah (zd y z a v.u.n v.u.m (v.u.rd t)+k)<=0->∀e,WT qs ca v.u.ho e->∀nm∈nmL y z a.1 (zd y z a v.u.n v.u.m (v.u.rd t)) k,nm / z≠e / z:=λ{a k} C L R e j nm r w=>
  (A e j).l a C (Uc (Wg N.s (V.ok a C) L R r).il w)
 cases T with
 |ls hw h2 h3=>
  have o:E≠"bare":=by rw[hw];decide
  refine uS rfl (λK Z h'=>hw▸Kk h') M I hi hn hl (λK' h=>JH hw N M I hi t0 pl h2 h3 (λ_ _ D _ _ ch=>G _ _ _ o (.inr (.inl rfl)) ch) (λh b a H F hy hx=>⟨λp B=>?_,λe j=>⟨⟨λS w q=>?_,(A e j).b⟩,λnm r=>(by cases r)⟩,λw=>absurd w o⟩) h) P
  .rcases z5L.mp B with B|B
   .exact J.lo p B
   .rw[z5F.mp B];show lo<=b;rcases F with⟨_,e,_⟩|⟨_,e,_⟩<;>(split at e<;>omega)
  .cases w;obtain⟨q0,f,L,_,rfl⟩:=j;obtain⟨p,B,_,p2,p3,p4⟩:=(J.hg f).1;have:=F.free p B (p2.symm.trans q.1);unfold mt at this;have:=of_decide_eq_false this;have P:=q.2;dsimp only at P;split at this<;>split at this<;>omega
 |nn hw Y k2 W=>
  have o:E≠"bare":=by rcases hw with rfl|rfl|rfl<;>decide
  refine uS rfl (λK Z q=>Ke hw q) M I hi hn hl (λK' h=>?_) P;rcases hw with hw|hw|hw
  .refine WA hw N M I hi O Y k2 W (λ_=>G _ _ _ o (.inl rfl) Ch.refl) (λ_ _ _ _=>G _ _ _ o (.inr (.inr (.inl rfl))) Ch.refl) (λa b' H C L R=>⟨J.lo,λe j=>⟨⟨λS w=>?_,λq f=>(by cases f)⟩,Q C L R e j⟩,λw=>absurd w o⟩) h;cases w;exact (A e j).l a C
  .refine Zw hw N M I hi O Y k2 W bl (λ_=>G _ _ _ o (.inl rfl) Ch.refl) (λ_ _ _ _=>G _ _ _ o (.inr (.inr (.inl rfl))) Ch.refl) (λa H C L R=>⟨J.lo,λe j=>⟨⟨λS w=>?_,λq f=>?_⟩,λnm r=>(by cases r)⟩,λw=>absurd w o⟩) h
   .cases w;exact (A e j).l a C
   .rw[X.nmB_snoc] at f;rcases z5L.mp f with f|f
    .exact (A e j).b q f
    .rw[show ∀b k:Int,b+k-b=k by intro b k;omega] at f;exact Q C L R e j q f
  .exact kM hw N M I hi Y W bl nl (λ_=>G _ _ _ o (.inr (.inr (.inr rfl))) Ch.refl) (λos f2 b _ eo=>⟨J.lo,λe j=>⟨⟨(A e j).l,λq f=>(A e j).b q (z8h (eo▸f))⟩,λnm r=>(A e j).b nm (z6D r)⟩,λw=>absurd w o⟩) h
 |th hw=>
  refine uS rfl (λK Z q=>z32 hw q) M I hi hn hl (λK' h=>?_) P;rcases hw with hw|hw|hw
  .have o:E≠"bare":=by rw[hw];decide
   refine Z_ hw N M I hi (λ_=>G _ _ _ o (.inl rfl) Ch.refl) (λa p b' H _ B _ _ _ _=>⟨λp' hp'=>?_,λe j=>⟨⟨λS w=>(by cases w),λq f=>(by cases f)⟩,λnm r=>(by cases r)⟩,λw=>absurd w o⟩) h;obtain⟨p0,hp0,rfl⟩:=z5O.mp hp';have:=J.lo p0 hp0;split<;>exact this
  .have o:E≠"bare":=by rw[hw];decide
   exact QE hw N M I hi t1 (λh' b'=>⟨J.lo,λe j=>⟨⟨(A e j).l,λq f=>(by cases f)⟩,λnm r=>(by cases r)⟩,λw=>absurd w o⟩) h
  .exact QL hw N M I hi t1 (λh' b'=>⟨J.lo,λe j=>⟨⟨λS w=>(by cases w),λq f=>(by cases f)⟩,λnm r=>(by cases r)⟩,λ_=>⟨rfl,rfl,rfl⟩⟩) h
variable {wd:Str}
theorem W5(a:μ[i]?=some (hsO (shp x y z) u j kp l m nn bt false))(v1:1<=k)(b:z<k)(q:Z 20 [] μ):zJ [.m i,.int s,.int k] μ K Z:=by
 refine⟨rfl,_,a,(zZ a ⟨_,a,rfl,(z_ ?_)⟩)⟩;rw[decide_eq_true v1];exact⟨_,_,_,a,rfl,(qj (by lia) ⟨dC,q⟩)⟩
theorem QH{v:Int}(h:y<=v)(q:K (.bl false) μ):qO [.int v,.int y] μ K Z:=by
 refine⟨rfl,(zi ?_)⟩;refine zC (λa=>?_) (λa=>?_)
 .have q:K (.bl (decide (v<y))) μ:=by rw[decide_eq_false (by lia)];exact q
  exact q
 .exact q
theorem Xk{m n h:Int}(B:Bk μ c g (shp x y z) ps)(h0:ho.length<=room)(h1:qh ho=true)(a:y<=h)(q:Z 13 [] μ):w9 [.m c,.str ho,.int h,.int m,.int n] μ K Z:=by
 refine⟨rfl,_,B.com,rfl,(wh h0 h1 ?_)⟩;exact⟨_,_,_,B.com,rfl,(QH a ⟨dC,q⟩)⟩
inductive R8(y z t:Int)(ho:Str):Str->T->Prop
 |ok {wd:Str} {row:T}:Rw y z t ho wd row->R8 y z t ho wd row
 |hs {wd:Str} {h n:Int}:wd="lease"->y<=h->1<=n->R8 y z t ho wd (lsR wd t ho (.int h) n)
 |mn {wd:Str} {k:Int}:wd="ask"\/wd="store"->1<=k->z<k->R8 y z t ho wd (Q4 wd t ho k)
 |tk {wd:Str} {k:Int}:wd="take"->1<=k->k<=12->R8 y z t ho wd (Q4 wd t ho k)
abbrev Rf8(c:Nat):Prop:=c=13\/c=18\/c=19\/c=20\/c=21\/c=22
theorem z58(N:N91 x y z H D)(s:R8 y z t v.u.ho wd B)(M:Wm μ w cm gr g d x y z H D now vs E ps)(J:J78 x y z lo vs ps es qs ca)(hi:vs[i]?=some v)(o:xa now t)(p:E.length<=100000)(t0:μ[i0]?=some (.tab 0))(t1:μ[i1]?=some (.tab 1))(pl:ps.length<64)(bl:v.bs.length<=900)(nl:(X.nmB y z v.bs).length<=100000)(Q:0<=lo)(O:lo<=v.u.rd t)
  (m:∀c fs j,wd≠"bare"->Rf8 c->Ch [] μ j->Z c fs j)
  (F:Uk (P78 lo qs ca y z v wd) w cm gr g d x y z H D t E vs ps i v wd μ K):we [.m w,B] μ K Z:=by
 have I:=J.I;have V:=I.v v (z5E hi);have a:=z5E (atU hi);have W:=M.W;cases s with
 |ok r=>exact z3v N r M J hi o p t0 t1 pl bl nl Q O (λc fs j k hc ch=>m c fs j k (by unfold Rf8;omega) ch) F
 |hs hw Y h2=>
  refine uS (P:=λ_ _ _=>False) rfl (λK Z h'=>hw▸Kk h') M I hi o p (λL _=>?_) λ_ _ _ _ _ _ _ R=>R.ex.elim;refine qm M hi (nhW I) ⟨_,rfl,(zA (by rw[hw];decide) ?_)⟩;refine⟨_,rfl,(zA (by rw[hw];decide) ?_)⟩;refine⟨_,rfl,(zA (by rw[hw];decide) ?_)⟩;refine⟨_,rfl,(qj hw ⟨_,_,_,W.se _ a,rfl,_,W.hs _ a,_,_,_,W.wo,rfl,_,W.bk.com,_,rfl,_,rfl,_,rfl,(Xk W.bk V.h1 V.h2 Y (m _ _ _ (by rw[hw];decide) (.inl rfl) Ch.refl))⟩)⟩
 |mn hw n G=>
  have k:wd≠"bare":=by rcases hw with rfl|rfl<;>decide
  refine uS (P:=λ_ _ _=>False) rfl (λK Z q=>Ke (hw.imp id .inl) q) M I hi o p (λL _=>?_) λ_ _ _ _ _ _ _ R=>R.ex.elim;have f:=m 20 [] μ k (by unfold Rf8;omega) Ch.refl;rcases hw with hw|hw
  .exact qm M hi (nhW I) ⟨_,rfl,(qj hw ⟨_,_,_,W.se _ a,rfl,_,W.hs _ a,_,rfl,rfl,_,W.hs _ a,(W5 (W.hs _ a) n G f)⟩)⟩
  .refine qm M hi (nhW I) ⟨_,rfl,(zA (by rw[hw];decide) ?_)⟩;refine⟨_,rfl,(zA (by rw[hw];decide) ?_)⟩;exact⟨_,rfl,(qj hw ⟨_,_,_,W.se _ a,rfl,_,W.hs _ a,_,rfl,rfl,_,W.hs _ a,(W5 (W.hs _ a) n G f)⟩)⟩
 |tk hw n S=>
  have k:wd≠"bare":=by rw[hw];decide
  have A:=J.ol v (z5E hi);exact uS rfl (λK Z q=>Ke (.inr (.inr hw)) q) M I hi o p (λL h=>kM hw N M I hi n S bl nl (λ_=>m _ _ _ k (by unfold Rf8;omega) Ch.refl) (λos f2 b _ eo=>⟨J.lo,λe C=>⟨⟨(A e C).l,λq T=>(A e C).b q (z8h (eo▸T))⟩,λnm U=>(A e C).b nm (z6D U)⟩,λw=>absurd w k⟩) h) F
theorem z33(N:N91 x y z E C)(a:R8 y z t v.u.ho wd B)(M:Wm μ w H G g d x y z E C now vs D ps)(J:J78 x y z lo vs ps es qs ca)(hi:vs[i]?=some v)(q:xa now t)(r:D.length<=100000)(t0:μ[i0]?=some (.tab 0))(t1:μ[i1]?=some (.tab 1))(pl:ps.length<64)(bl:v.bs.length<=900)(nl:(X.nmB y z v.bs).length<=100000)(p:0<=lo)(k:lo<=v.u.rd t)
  (m:∀s,wd≠"bare"->Ch [] μ s->K .n s)
  (l:Uk (P78 lo qs ca y z v wd) w H G g d x y z E C t D vs ps i v wd μ K):xS [.m w,B] μ K Z:=by
 refine⟨rfl,_,M.W.wo,?_⟩;refine z58 N a M J hi q r t0 t1 pl bl nl p k (λc fs s o A ch=>?_) λn j L h b s e R=>?_
 .have f:=m s o ch;rcases A with rfl|rfl|rfl|rfl|rfl|rfl<;>exact f
 .exact l n j L h b s e R
end
section
variable {μ μ2:Mem}{K:T->Mem->Prop}{Z:Xp}{x y z:Int}{s:S7}{rs:List Row}{es:List (Str×Int)}{la:Str->Option Int}{ho:Str}{v:Int}{i j d w:Nat}
noncomputable abbrev gvT(y z:Int)(e:Str×Int):T:=.t [.str e.1,ptT y z e.2]
structure EOk(x y z:Int)(e:Str×Int):Prop where
 o:HoOk e.1
 v0:0<=e.2
 v1:e.2<x*y*z
noncomputable def z19 (y z:Int)(es:List (Str×Int)):Prop:=∀(i j:Nat) (a b:Str×Int),i<j->es[i]?=some a->es[j]?=some b->vc y z a b=true
structure RM(μ:Mem)(j d:Nat)(y z:Int)(rs:List Row)(la:Str->Option Int)(kl:List (Key×T)):Prop where
 r:μ[j]?=some (.l (rs.map Row.t))
 k:μ[d]?=some (.d kl)
 l:∀ho,(ze (.inr ho) kl).getD .n=z3o y z (la ho)
theorem Jy(sz:Hz x y z)(V:z<=1000)(ok:∀e∈es,EOk x y z e)(hl:es.length<=100)(A:z19 y z es)
  (q:∀B j rs s la,Ch [] μ B->B[j]?=some (.l (rs.map Row.t))->RO x y z es la rs s->K (.m j) B):QR [.l (es.map (gvT y z))] μ K Z:=by
 refine⟨rfl,?_⟩;refine zH (λn I B=>∃(rs:List Row) (s:S7) (la:Str->Option Int) (i:List (Key×T)) (S Q P O L J:Option T),I=[some (.l (es.map (gvT y z))),some (.m μ.length),some (.m (μ++[MO.l []]).length),S,Q,P,O,L,J]/\RO x y z (es.take n) la rs s/\RM B μ.length (μ++[MO.l []]).length y z rs la i/\i.length<=n/\Ch [] μ B) ?_ ?_ ?_
 .refine⟨[],s70,λ_=>none,[],_,_,_,_,_,_,rfl,⟨rfl,by simp,λb v e=>(by cases e),λb=>rfl,(by simp[s70]),(by simp[s70]),(by simp[s70]),(by simp),(by simp[s70])⟩,⟨z5 z8,z8,λ_=>rfl⟩,by simp,Ch.app.trans Ch.app⟩
 .rintro n u I B hx ⟨rs,s,la,i,S,Q,P,O,L,J,rfl,R,M,kn,ch⟩ N hN;rw[z5Z] at hx;obtain⟨⟨b,v⟩,H,rfl⟩:=z6q.mp hx;obtain⟨hn,eg⟩:=z5C.mp H;have E:=ok _ (z5E H);have et:es.take (n+1)=es.take n++[(b,v)]:=by rw[z6w,H];rfl
  have TT:∀e∈es.take n,vc y z e (b,v)=true:=λe h=>by
   obtain⟨k,hk,ek⟩:=z91.mp h;have U:k<n:=by rw[z6B] at hk;omega
   rw[List.getElem_take] at ek;exact A k n e _ U (by rw[z67 (by omega),ek]) H
  have nn:∀e∈es.take n,0<=e.2:=λe h=>(ok e (z6D h)).v0;have dj:(μ++[MO.l []]).length≠μ.length:=by simp
  refine⟨_,rfl,?_⟩;refine⟨_,rfl,?_⟩;refine⟨_,rfl,_,rfl,?_⟩;refine⟨_,rfl,_,rfl,?_⟩;refine⟨_,rfl,_,rfl,?_⟩;refine⟨⟨_,M.k⟩,?_⟩;refine⟨_,M.k,?_⟩;have fin:∀{f:List Row} {g:S7} {a:Mem} {X W:Option T},RO x y z (es.take n++[(b,v)]) (upA la b v) f g->Ch [] μ a->a[μ.length]?=some (.l (f.map Row.t))->a[(μ++[MO.l []]).length]?=some (.d i)->∀p3 p4 p5 Y,N [some (.l (es.map (gvT y z))),some (.m μ.length),some (.m (μ++[MO.l []]).length),p3,p4,p5,Y,X,W] (a.set (μ++[MO.l []]).length (.d (wA (.inr b) (ptT y z v) i))):=by
   intro f g a X W m c2 g1 g2 p3 p4 p5 Y;refine hN _ _ ⟨f,g,upA la b v,_,_,_,_,_,_,_,rfl,by rw[et];exact m,⟨by rw[z5G dj];exact g1,get_set g2,λD=>?_⟩,z66 jK (by omega),Ch.geS7 c2 Ch.set (by simp)⟩;rw[wN];unfold upA;by_cases w:D=b
   .rw[if_pos (by rw[w]),if_pos w];rfl
   .rw[if_neg (by intro e;exact w (by injection e)),if_neg w];exact M.l D
  have rl:=R.rl;rw[z6B] at rl;have big:∀{l:List Row},l.length<=200->(l.map Row.t).length<room:=λh=>by rw[z5H];unfold room;omega
  have ml:=M.l b;rw[ml];have G:∀{o:MO} {a:Mem},Ch [] μ a->Ch [] μ (a.set μ.length o):=λc=>Ch.geS7 c Ch.set (by simp);have d:∀{o:MO} {a:Mem},a[(μ++[MO.l []]).length]?=some (.d i)->(a.set μ.length o)[(μ++[MO.l []]).length]?=some (.d i):=λh=>by rw[z5G dj.symm];exact h
  have new:(∀C,la b=some C->¬(C / z / y=v / z / y/\C / z % y=v / z % y))->∃g,RO x y z (es.take n++[(b,v)]) (upA la b v) (rs++[.lease b (some (v / z % y)) (v / z / y) 1]++[.ask b (v / z / y) (v % z+1)]) g:=λno=>z1D sz V R E.o E.v0 E.v1 TT nn no;have app:∀(r:Row),(rs.map Row.t)++[r.t]=(rs++[r]).map Row.t:=λr=>by rw[z5Y];rfl
  cases e:la b with
  |none=>
   obtain⟨g,m⟩:=new λC F=>by rw[e] at F;cases F
   refine⟨⟨_,M.r⟩,?_⟩;refine⟨_,M.r,big (by omega),?_⟩;refine⟨⟨_,get_set M.r⟩,?_⟩;refine⟨_,get_set M.r,by rw[z6k,z5H];show _+1<_;unfold room;omega,?_⟩;refine⟨_,rfl,?_⟩;refine⟨_,d (d M.k),by unfold room;omega,?_⟩;refine fin m (G (G ch)) ?_ (d (d M.k)) _ _ _ _;rw[get_set (get_set M.r),z5Y,z5Y];rfl
  |some C=>
   refine⟨by show (0:Nat)<=40;decide,_,z2R,?_⟩;refine zY (λp=>?_) (λp=>?_)
   .simp only[z5P,decide_eq_true_eq] at p;obtain⟨g,m⟩:=U2 sz V R E.o E.v0 E.v1 TT nn e p.1 p.2;refine⟨_,rfl,?_⟩;refine⟨⟨_,M.r⟩,?_⟩;refine⟨_,M.r,big (by omega),?_⟩;refine⟨_,rfl,?_⟩;refine⟨_,d M.k,by unfold room;omega,?_⟩;refine fin m (G ch) ?_ (d M.k) _ _ _ _;rw[get_set M.r,z5Y];rfl
   .obtain⟨g,m⟩:=new λw F e2=>by
     rw[e] at F;cases F;rw[decide_eq_true e2.1,decide_eq_true e2.2] at p;cases p
    refine⟨⟨_,M.r⟩,?_⟩;refine⟨_,M.r,big (by omega),?_⟩;refine⟨⟨_,get_set M.r⟩,?_⟩;refine⟨_,get_set M.r,by rw[z6k,z5H];show _+1<_;unfold room;omega,?_⟩;refine⟨_,rfl,?_⟩;refine⟨_,d (d M.k),by unfold room;omega,?_⟩;refine fin m (G (G ch)) ?_ (d (d M.k)) _ _ _ _;rw[get_set (get_set M.r),z5Y,z5Y];rfl
 .rintro I B ⟨rs,s,la,i,S,Q,P,O,L,J,rfl,R,M,kn,ch⟩;rw[z5H,z9V] at R;exact q B _ rs s la ch M.r R
end
section
variable {μ μ1:Mem}{K:T->Mem->Prop}{Z:Xp}{x y z:Int}{s:S7}{rs:List Row}{dn es:List (Str×Int)}{la:Str->Option Int}{i j w w2:Nat}
theorem z0t{a b c f e h:Int}:HT.lexLt [a,b,c] [f,e,h]=decide (a<f\/(a=f/\(b<e\/(b=e/\c<h)))):=by
 simp only[HT.lexLt_cons,HT.lexLt_nil_nil];by_cases d:a=f
 .by_cases g:b=e
  .by_cases i:c=h
   .simp[d,g,i]
   .simp[d,g,i]
  .simp[d,g]
 .simp[d]
theorem JF{a b:Int}(z1:1<=z)(y1:1<=y):HT.lexLt [a / z / y,a / z % y,a % z] [b / z / y,b / z % y,b % z]=decide (a<b):=by
 rw[z0t];by_cases h:a<b
 .rw[decide_eq_true h,decide_eq_true (wR z1 y1 h)]
 .rw[decide_eq_false h];apply decide_eq_false;intro w;by_cases e:a=b
  .rw[e] at w;omega
  .have:=wR (y:=y) (z:=z) (a:=b) (b:=a) z1 y1 (by omega);omega
theorem Ka{a b:Str×Int}(z1:1<=z)(y1:1<=y)(q:K (.bl (vc y z a b)) μ):vP [gvT y z a,gvT y z b] μ K Z:=by
 refine⟨rfl,?_⟩;refine⟨_,rfl,_,rfl,?_⟩;unfold vc at q;refine zC (λe=>?_) (λe=>?_)
 .rw[if_pos e] at q;refine⟨_,rfl,_,rfl,?_⟩;refine⟨_,rfl,_,rfl,?_⟩;rw[<-JF z1 y1] at q;exact q
 .rw[if_neg e] at q;refine⟨_,rfl,_,rfl,?_⟩;exact⟨by show (0:Nat)<=40;decide,_,z2R,q⟩
theorem XD{i:Nat}(h:i<es.length):∃a,es[i]?=some a:=⟨_,z67 h⟩
theorem ub{f:Str×Int->T}{k:Nat}{a:Str×Int}(h:es[k]?=some a):wH (es.map f) (k:Int)=some (f a):=by
 obtain⟨b,e⟩:=z5C.mp h;unfold wH Jt;rw[if_pos (by omega),if_pos (by rw[z5H];omega)];simp[h]
noncomputable def Ent (a t:T)(b:Bool):Prop:=∀(μ:Mem) (K:T->Mem->Prop) (Z:Xp),K (.bl b) μ->Q1 [a,t] μ K Z
theorem K7(d:a.length<=room)(h1:qh a=u)(c:∀(μ:Mem) (K:T->Mem->Prop) (Z:Xp),K (.bl b) μ->xA [shp x y z,t] μ K Z):Ent (shp x y z) (.t [.str a,t]) (u&&b):=by
 intro μ K Z q;refine⟨rfl,_,rfl,?_⟩;refine wh d h1 ?_;cases u with
 |false=>exact q
 |true=>exact⟨_,rfl,c _ _ _ q⟩
theorem x_(g:T->Bool)(hg:∀t∈ts,Ent u t (g t))(b:ts.length<=100)(h0:ts.all g=true)(q:K .n μ):xO [u,.l ts] μ K Z:=by
 refine⟨rfl,z66 b (by decide),?_⟩;refine j0 (λt=>.bl (g t)) (λt a k c=>⟨_,rfl,hg t a _ _ _ c⟩) ?_;refine⟨_,j4 g ts,?_⟩;refine z1_ (by rw[za3,Function.id_comp,h0];rfl) ?_;exact q
theorem JQ{td:List (Str×Int)}(h2:μ[w2]?=some (.l (td.map prT)))(S:es.Sublist td)(q:K (.bl true) μ):QI [.l (es.map prT),.m w2] μ K Z:=by
 refine⟨rfl,?_⟩;refine⟨_,h2,?_⟩;refine zH (λn d l=>l=μ/\∃(f:Option T) (k:Nat),d=[some (.l (es.map prT)),some (.m w2),some (.int k),f]/\k<=es.length/\(es.drop k).Sublist (td.drop n)) ⟨rfl,_,0,rfl,z7m _,S⟩ ?_ ?_ ?_
 .rintro n u d _ o ⟨rfl,f,k,rfl,g,S⟩ N m;rw[z5Z] at o;obtain⟨e,t,rfl⟩:=z6q.mp o;obtain⟨s,v⟩:=z5C.mp t;rw[z6P s,v] at S;refine⟨_,rfl,?_⟩;refine zC (λh=>?_) (λh=>?_)
  .have h:(k:Int)<((es.map prT).length:Int):=h;rw[z5H] at h;obtain⟨a,p⟩:=XD (es:=es) (i:=k) (by omega);obtain⟨c,r⟩:=z5C.mp p;rw[z6P c,r] at S;refine⟨_,ub p,?_⟩;refine⟨by show (0:Nat)<=40;decide,_,z0p,?_⟩;refine zY (λb=>?_) (λb=>?_)
   .have b:(decide (e.1=a.1)&&decide (e.2=a.2))=true:=b;simp only[z5P,decide_eq_true_eq] at b;have w:e=a:=Prod.ext b.1 b.2;subst w;exact m _ _ ⟨rfl,_,k+1,rfl,by omega,List.cons_sublist_cons.mp S⟩
   .have b:(decide (e.1=a.1)&&decide (e.2=a.2))=false:=b;refine m _ _ ⟨rfl,_,k,rfl,g,?_⟩;rw[z6P c,r];cases S with
    |cons _ S=>exact S
    |cons_cons _ S=>rw[decide_eq_true rfl,decide_eq_true rfl] at b;cases b
  .have h:¬(k:Int)<((es.map prT).length:Int):=h;rw[z5H] at h;have:es.drop k=[]:=za8 (by omega);refine m _ _ ⟨rfl,_,k,rfl,g,?_⟩;rw[this];exact List.nil_sublist _
 .rintro d j ⟨rfl,f,k,rfl,g,S⟩;rw[z5H,z9R] at S;have:=List.drop_eq_nil_iff.mp (List.eq_nil_of_sublist_nil S);have q:K (.bl (decide ((k:Int)=((es.map prT).length:Int)))) j:=by
   rw[z5H,decide_eq_true (by omega)];exact q
  exact q
 .rintro n d _ ⟨rfl,f,k,rfl,g,S⟩;exact h2
theorem Qz{lo:Int}:∀(n:Nat) (l:List Int),l.Nodup->(∀a∈l,lo<=a/\a<lo+n)->l.length<=n
 |0,l,_,h=>by
  cases l with
  |nil=>exact z5K _
  |cons a r=>have:=h a z60;omega
 |n+1,l,b,h=>by
  have:=Qz (lo:=lo) n (l.erase (lo+n)) (b.erase _) λa c=>by
   have d:=h a (List.mem_of_mem_erase c);push_cast at d;have:a≠lo+n:=λw=>List.Nodup.not_mem_erase b (w▸c);omega
  have:=List.length_erase (a:=lo+n) (l:=l);split at this<;>omega
theorem RO.fil{lo:Int}(R:RO x y z dn la rs s)(b:∀e∈dn,lo<=e.2 / z / y/\e.2 / z / y<lo+60)(h:Int):(s.G.filter λp=>decide (p.2.h=h)).length<64:=by
 have nd:((s.G.filter λp=>decide (p.2.h=h)).map λp=>p.2.f).Nodup:=by
  have:=R.gn.sublist (zdr (λp:Gp=>(p.2.h,p.2.f)) (List.filter_sublist (l:=s.G) (p:=λp=>decide (p.2.h=h))));rw[zdm,z72] at this ⊢;refine zcQ (λ{p q} c d n w=>n ?_) this;rw[show p.2.h=h by simpa using (z6o.mp c).2,show q.2.h=h by simpa using (z6o.mp d).2,w]
 have:=Qz (lo:=lo) 60 _ nd λa g=>by
  obtain⟨p,c,rfl⟩:=z5O.mp g;obtain⟨e,he,_,i,_⟩:=R.G p (z6o.mp c).1;rw[i];exact b e he
 rw[z5H] at this;omega
theorem Ky(sz:Hz x y z)(b:x*z<VX)(tab:μ[0]?=some (.tab 0))(zb:z<=1000)(hf:∀h:Int,(s.G.filter λp=>decide (p.2.h=h)).length<64)(g:es.length<=100)(hj:μ[j]?=some (.l (rs.map Row.t)))(R:RO x y z es la rs s)(q:∀u,K (.bl true) u):k8 [shp x y z,.l (es.map prT),.t [.str "right",.m j]] μ K Z:=by
 refine⟨rfl,?_⟩;refine⟨_,rfl,?_⟩;refine⟨_,rfl,?_⟩;refine⟨_,hj,?_⟩;refine⟨_,rfl,?_⟩;have d:=R.rl;have i:=R.gl;refine Wj sz b tab hj (by omega) zb (by omega) hf R.run λa f ch e c _=>?_;exact JQ c R.td (q _)
theorem judge_ok(sz:Hz x y z)(O:z<=20)(ok:∀e∈es,EOk x y z e)(J:es.length<=100)(A:z19 y z es)
  (H:∀B j rs s la,Ch [] μ B->B[j]?=some (.l (rs.map Row.t))->RO x y z es la rs s->K (.t [.str "right",.m j]) B):Jb [shp x y z,.l (es.map prT)] μ K Z:=by
 have F:=sz.z1;have G:=sz.y1;refine⟨rfl,?_⟩;refine zC (λe=>?_) (λ_=>?_)
 .exact absurd e (by show ¬(20:Int)<z;omega)
 refine x_ (λ_=>true) (λt I=>?_) (by rw[z5H];omega) (by simp) ?_
 .obtain⟨e,f,rfl⟩:=z5O.mp I;have E:=ok e f;exact K7 E.o.l E.o.h λμ K Z q=>kW sz.sy (by rw[decide_eq_true E.v0,decide_eq_true E.v1];rfl) q
 refine⟨by rw[z5H];unfold room;omega,?_⟩;refine zX prT (λe=>some (gvT y z e)) (λe f P v=>?_) ?_ trivial
 .refine⟨_,rfl,?_⟩;refine⟨_,rfl,_,rfl,?_⟩;exact vL sz (ok e f).v0 (ok e f).v1 v
 rw[z6A];refine⟨⟨by omega,by rw[z5H];omega⟩,?_⟩;rw[z5H];refine zH (λn c B=>B=μ/\∃p d:Option T,c=[some (shp x y z),some (.l (es.map prT)),some (.l (es.map (gvT y z))),p,d]) ⟨rfl,_,_,rfl⟩ ?_ ?_
 .rintro n u c m r ⟨rfl,p,d,rfl⟩ N L;obtain⟨rfl,Q⟩:=vp r;obtain⟨b,C⟩:=XD (es:=es) (i:=n) (by omega);refine⟨_,rfl,?_⟩;refine⟨⟨by omega,by omega⟩,?_⟩;refine zH (λk c B=>B=m/\∃d:Option T,c=[some (shp x y z),some (.l (es.map prT)),some (.l (es.map (gvT y z))),some (.int n),d]) ⟨rfl,_,rfl⟩ ?_ ?_
  .rintro k u c _ r ⟨rfl,d,rfl⟩ U w;obtain⟨rfl,S⟩:=vp r;obtain⟨a,D⟩:=XD (es:=es) (i:=k) (by omega);refine⟨_,rfl,?_⟩;refine⟨_,ub D,?_⟩;refine⟨_,ub C,?_⟩;refine Ka F G ?_;rw[A k n a b (by omega) D C];exact w _ _ ⟨rfl,_,rfl⟩
  .rintro c _ ⟨rfl,d,rfl⟩;exact L _ _ ⟨rfl,_,_,rfl⟩
 .rintro c _ ⟨rfl,p,d,rfl⟩;exact Jy sz (by omega) ok J A λg j rs s la ch M R=>H g j rs s la ch M R
end
section
variable {μ:Mem}{K:T->Mem->Prop}{Z:Xp}{c:Int}
noncomputable def z3s(n:Int):Int:=n*(n / 1009+69621) % 2147483647
noncomputable def z3W(n:Int):Int:=n*(n / 2003+40692) % 2147483399
noncomputable def zf(c k:Int):Int:=
 if c % 2=0/\0<c / 2 ^ (1+31*k).toNat then c / 2 ^ (1+31*k).toNat % 2147483648
 else z3W (z3s ((c+7919*k+1) % 2147483647*48271 % 2147483647))
theorem zr(hk:0<=k)(q:K (.int (zf c k)) μ):zL [.int c,.int k] μ K Z:=by
 refine⟨rfl,?_⟩;unfold zf at q;refine⟨by decide,?_⟩;have a:K (.int (z3W (z3s ((c+7919*k+1) % 2147483647*48271 % 2147483647)))) μ->zR (y3.drop 1) [some (.int c),some (.int k),none] μ (En.fn K Z):=λq=>by
  refine⟨.inl (by decide),by decide,.inr (by decide),by decide,by decide,.inl (by simp only[big];omega),by decide,?_⟩;exact⟨by decide,.inl (by simp only[big];omega),by decide,q⟩
 refine zC (λh=>?_) (λh=>?_)
 .refine⟨.inl (by decide),by omega,?_⟩;refine zC (λb=>?_) (λb=>?_)
  .rw[if_pos ⟨h,b⟩] at q;exact⟨.inl (by decide),by omega,by decide,q⟩
  .rw[if_neg λz=>b z.2] at q;exact a q
 .rw[if_neg λz=>h z.1] at q;exact a q
noncomputable def XI (c k:Int)(n:Nat):Int:=(z6V n).foldl (λ(v:Int) (j:Nat)=>v*2147483648+zf c (k+j)) 0
theorem Jr:XI c k (n+1)=XI c k n*2147483648+zf c (k+n):=by
 unfold XI;rw[List.range_succ,zbx];rfl
noncomputable def Zf (c k m:Int):Int:=XI c k 5 % m
theorem QT{k:Int}(hk:0<=k)(hm:0<m)(q:K (.int (Zf c k m)) μ):Y1 [.int c,.int k,.int m] μ K Z:=by
 refine⟨rfl,by decide,?_⟩;refine zH (λi a b=>b=μ/\∃o,a=[some (.int c),some (.int k),some (.int m),some (.int (XI c k i)),o]) ⟨rfl,none,rfl⟩ ?_ ?_
 .rintro i x a _ d ⟨rfl,o,rfl⟩ N e;obtain⟨rfl,f⟩:=vp d;refine⟨_,rfl,.inr (by decide),?_⟩;refine zr (by lia) ?_;exact e _ _ ⟨rfl,some (.int i),by rw[Jr];rfl⟩
 .rintro a _ ⟨rfl,o,rfl⟩;exact⟨hm,q⟩
structure D8(far st:Int)(ts:List Tn):Prop where
 r:Y4 ts
 l:ts.length<=4
 s0:far<=st
 t0:∀p∈ts,far<=p.2.1
set_option tactic.hygienic true in
theorem D8.low(d:D8 j st ts)(h:0<=t):j<=kY st ts t:=by
 have s0:=d.s0;unfold kY;split
 .rename_i p a;have h1:=d.t0 p (zbI.mp (List.mem_of_find?_eq_some a));have h2:p.1<=t:=by simpa using List.find?_some a
  split<;>lia
 .lia
theorem UM{d cell:Int}(q:∀st ts j c,D8 d st ts->Ch [] μ j->μ.length<=c->j[c]?=some (clk st ts)->K (.m c) j):Z5 [.int d,.int cell] μ K Z:=by
 refine⟨rfl,(zr dC ⟨dC,⟨by omega,by omega⟩,?_⟩)⟩;have u:=z62 (zf cell 70) (show (5:Int)≠0 by decide);have t:=z68 (zf cell 70) (show (0:Int)<5 by decide);generalize zf cell 70 % 5=m at u t;refine zH (λn k j=>∃(ts:List Tn) (e:Int) (l:Option T),k=[some (.int d),some (.int cell),some (.m μ.length),some (.int e),l]/\Y4 ts/\(∀p∈ts,p.1<=e/\d<=p.2.1)/\ts.length=n/\Ch [] μ j/\j[μ.length]?=some (.l (ts.map w5))) ⟨[],0,_,rfl,.nil,by simp,rfl,Ch.app,z8⟩ ?_ ?_
 .rintro n x k j v ⟨ts,e,l,rfl,g,i,r,ch,f⟩ N z;obtain⟨rfl,w⟩:=vp v;refine⟨_,rfl,(zr (by omega) ⟨dC,?_⟩)⟩;have C:=z62 (zf cell (71+n)) (show (9:Int)≠0 by decide);refine⟨⟨_,f⟩,(zr (by omega) ⟨dC,(zr (by omega) ⟨dC,?_⟩)⟩)⟩;have B:=z62 (zf cell (80+n)) (show (25:Int)≠0 by decide);refine⟨_,f,by rw[z5H];unfold room;omega,?_⟩;refine z _ _ ⟨ts++[(e+1+zf cell (71+n) % 9,d+zf cell (80+n) % 25,decide (0<zf cell (90+n) % 3))],_,_,rfl,?_,?_,by simp[r],Ch.geS7 ch Ch.set (by simp),?_⟩
  .unfold Y4;rw[z7J];refine⟨g,List.pairwise_singleton _ _,λa y b s=>?_⟩;rw[z5F.mp s];have:=(i a y).1;show a.1<e+1+zf cell (71+n) % 9;omega
  .intro p o;rcases z5L.mp o with h|h
   .have:=i p h;exact⟨by omega,this.2⟩
   .rw[z5F.mp h];exact⟨z6E _,by show d<=d+_;omega⟩
  .rw[get_set f,z5Y];rfl
 .rintro k j ⟨ts,e,l,rfl,g,i,r,ch,f⟩;rw[Wh] at r;have A:=z62 (zf cell 99) (show (6:Int)≠0 by decide);refine zr dC ⟨dC,uk f g (by omega) ⟨rfl,?_⟩⟩;exact q _ ts _ _ ⟨g,by omega,by omega,λp o=>(i p o).2⟩ (ch.trans Ch.app) ch.len z8
theorem z34{t a cell:Int}{ho:Str}(q:∀s j,R8 y z t ho j s->K s μ):Z9 [.int t,.str ho,.int a,.int cell] μ K Z:=by
 have g:=z62 (zf cell 0) (show (9:Int)≠0 by decide);have f:=z68 (zf cell 0) (show (0:Int)<9 by decide);have ls:zR (v7.drop 1) [some (.int t),some (.str ho),some (.int a),some (.int cell),some (.str "lease"),none] μ (En.fn K Z):=by
  have c:=z62 (zf cell 1) (show (4:Int)≠0 by decide);have m:=z62 (zf cell 2) (show (2:Int)≠0 by decide);have l:=z68 (zf cell 2) (show (0:Int)<2 by decide);have d:=z62 (zf cell 3) (show (12:Int)≠0 by decide);refine zr dC ⟨dC,(zr dC ⟨dC,?_⟩)⟩;have:zf cell 2 % 2=0\/zf cell 2 % 2=1:=by omega
  rcases this with e|e
  .refine⟨T.n,by rw[e];rfl,(zr dC ⟨dC,q _ "lease" (.ok (.ls rfl (.inl rfl) (by omega)))⟩)⟩
  .refine⟨T.int (zf cell 1 % 4),by rw[e];rfl,(zr dC ⟨dC,?_⟩)⟩;by_cases w:zf cell 1 % 4<y
   .exact q _ "lease" (.ok (.ls rfl (.inr ⟨_,rfl,c,w⟩) (by omega)))
   .exact q _ "lease" (.hs rfl (by omega) (by omega))
 have mn:∀j:Str,j="ask"\/j="store"\/j="take"->zR (v7.drop 1) [some (.int t),some (.str ho),some (.int a),some (.int cell),some (.str j),none] μ (En.fn K Z):=λj hw=>by
  refine zC (λe=>absurd e (by rcases hw with rfl|rfl|rfl<;>decide)) (λ_=>?_);refine⟨_,rfl,?_⟩;refine zY (λ_=>?_) (λe=>by rcases hw with rfl|rfl|rfl<;>exact absurd e (by decide));have k:=z62 (zf cell 4) (show (3:Int)≠0 by decide);have i:=z68 (zf cell 4) (show (0:Int)<3 by decide);refine zr dC ⟨dC,?_⟩;by_cases w:j="take"
  .exact q _ j (.tk w (by omega) (by omega))
  .by_cases b:1+zf cell 4 % 3<=z
   .exact q _ j (.ok (.nn hw (by omega) b (by omega)))
   .exact q _ j (.mn (hw.imp id λh=>h.resolve_right w) (by omega) (by omega))
 have th:∀j:Str,j="back"\/j="fall"\/j="bare"->zR (v7.drop 1) [some (.int t),some (.str ho),some (.int a),some (.int cell),some (.str j),none] μ (En.fn K Z):=λj hw=>by
  refine zC (λe=>absurd e (by rcases hw with rfl|rfl|rfl<;>decide)) (λ_=>?_);refine⟨_,rfl,?_⟩;refine zY (λe=>by rcases hw with rfl|rfl|rfl<;>exact absurd e (by decide)) (λ_=>?_);exact q _ j (.ok (.th hw))
 refine⟨rfl,(zr dC ⟨dC,?_⟩)⟩;have:zf cell 0 % 9=0\/zf cell 0 % 9=1\/zf cell 0 % 9=2\/zf cell 0 % 9=3\/zf cell 0 % 9=4\/zf cell 0 % 9=5\/zf cell 0 % 9=6\/zf cell 0 % 9=7\/zf cell 0 % 9=8:=by omega
 rcases this with e|e|e|e|e|e|e|e|e<;>rw[e]
 .exact⟨_,rfl,ls⟩
 .exact⟨_,rfl,mn "ask" (.inl rfl)⟩
 .exact⟨_,rfl,mn "store" (.inr (.inl rfl))⟩
 .exact⟨_,rfl,mn "take" (.inr (.inr rfl))⟩
 .exact⟨_,rfl,th "back" (.inl rfl)⟩
 .exact⟨_,rfl,th "fall" (.inr (.inl rfl))⟩
 .exact⟨_,rfl,th "bare" (.inr (.inr rfl))⟩
 .exact⟨_,rfl,mn "ask" (.inl rfl)⟩
 .exact⟨_,rfl,mn "ask" (.inl rfl)⟩
end
section
variable {μ:Mem}{K:T->Mem->Prop}{Z:Xp}{x y z ah sd far tm:Int}{w cm gr g d kd bk nb n:Nat}{now:T}{hs:List Str}{vs:List Vh}{ps:List Gp}{rs:List T}{es:List E3}{qs:List (Str×Str×Int)}{ca:Str->Str}{kvs:List (Key×T)}
noncomputable def xn:Nat->Str
 |1=>"xb"
 |2=>"xc"
 |3=>"xd"
 |_=>"xe"
structure J8(μ:Mem)(w cm gr g d kd bk:Nat)(x y z ah sd far:Int)(hs:List Str)(now:T)(tm:Int)(nb n:Nat)(vs:List Vh)(ps:List Gp)(rs:List T)(es:List E3)(qs:List (Str×Str×Int))(ca:Str->Str)(kvs:List (Key×T)):Prop where
 M:Wm μ w cm gr g d x y z ah sd now vs rs ps
 J:J78 x y z far vs ps es qs ca
 nw:xa now tm
 tm0:0<=tm
 eho:vs.map (·.u.ho)=hs
 ck:∀v∈vs,D8 far v.u.st v.u.ts
 gk:μ[kd]?=some (.d kvs)
 kl:kvs.length<=3+nb
 kv:∀h∈hs,ze (.inr h) kvs=some (.str (ca h))
 gb:μ[bk]?=some (.l (qs.map λq=>prT (cN q)))
 fk:Fr gr g d vs kd
 fb:Fr gr g d vs bk
 t0:μ[0]?=some (.tab 0)
 t1:μ[1]?=some (.tab 1)
 rl:rs.length=qs.length
 ql:qs.length<=12*n
 pl:ps.length<=n
 bl:∀v∈vs,v.bs.length<=n/\(X.nmB y z v.bs).length<=12*n
 nb4:nb<=4
 cn:∀h∈hs,ca h=h\/∃j,1<=j/\j<=nb/\ca h=xn j
 qn:∀q∈qs,q.1∈hs\/∃j,1<=j/\j<=nb/\q.1=xn j
theorem z2O{a:T}{r:List T}:wH (a::r) 0=some a:=ixT rfl
theorem R8.form{t:Int}{ho b:Str}{a:T}(R:R8 y z t ho b a):∃r,a=.t (.str b::.int t::.str ho::r):=by
 cases R with
 |ok r=>cases r<;>exact⟨_,rfl⟩
 |_=>exact⟨_,rfl⟩
noncomputable abbrev Xj:List Ds:=[(zk 9 (za .Add (eV 9) (za .Mod (z3 zL [clz26,(eC (.int 10))]) clz12))),(zk 14 (eIx clz11 (za .Mod (z3 zL [clz26,(eC (.int 11))]) (eB1 wb clz11)))),(zk 15 (z3 Z9 [(eV 9),clz25,clz4,clz26])),(sIf (wW (tE (zq .Eq clz41 clz15)) (tE (zq .Gt clz27 clz9))) [(zk 15 (qf [clz19,(eV 9),clz25]))] []),(zk 16 (z3 xS [(eV 8),clz24])),(sIf (tE (zq .IsNot (eV 16) clz7)) [(zw (Qh (eV 11) (qu 1 [10,14] (.one 0) (iE (eV 16)) [] (qf [(eC2 uq clz3 clz4),clz0])))),(sIf (tE (zq .Eq clz41 clz15)) [(zk 12 (za .Add clz27 clz1)),(jd (eV 10) clz25 (za .Add (eC (.str "x")) clz53))] [])] [])]
noncomputable abbrev st8(s0 h:Option T)(far x y z:Int)(hs:List Str)(g f e:Option T)(w:Nat)(tm:Int)(kd bk nb:Nat)(d c b a:Option T):Sl:=[s0,h,some (.int far),some (shp x y z),some (.l (hs.map T.str)),g,f,e,some (.m w),some (.int tm),some (.m kd),some (.m bk),some (.int nb),d,c,b,a]
structure H8(hs:List Str):Prop where
 ok:∀h∈hs,h.length<=room/\qh h=true
 nd:hs.Nodup
 l1:1<=hs.length
 l3:hs.length<=3
 nx:∀h∈hs,∀j,h≠xn j
theorem XF{i j:Nat}(d:1<=i)(c:i<=4)(b:1<=j)(a:j<=4)(h:xn i=xn j):i=j:=by
 have:i=1\/i=2\/i=3\/i=4:=by omega
 have:j=1\/j=2\/j=3\/j=4:=by omega
 rcases ‹i=1\/_› with rfl|rfl|rfl|rfl<;>rcases ‹j=1\/_› with rfl|rfl|rfl|rfl<;>first|rfl|exact absurd h (by decide)
theorem z1t{s0 s1 s5 s6 s7 Y W B:Option T}{cell:Int}{E:En}{N:Sl->Mem->Prop}(Nn:N91 x y z ah sd)(f0:0<=far)(H:H8 hs)(J:J8 μ w cm gr g d kd bk x y z ah sd far hs now tm nb n vs ps rs es qs ca kvs)(nn:n<=40)
  (hN:∀U now' tm' nb' vs' ps' rs' es' qs' ca' kvs' Y W B,J8 U w cm gr g d kd bk x y z ah sd far hs now' tm' nb' (n+1) vs' ps' rs' es' qs' ca' kvs'->N (st8 s0 s1 far x y z hs s5 s6 s7 w tm' kd bk nb' (some (.int cell)) Y W B) U) :
  zR Xj (st8 s0 s1 far x y z hs s5 s6 s7 w tm kd bk nb (some (.int cell)) Y W B) μ (E.turn N):=by
 have ll:=H.l1;have l3:=H.l3;refine zr dC ⟨dC,(zr dC ⟨by rw[z5H];omega,?_⟩)⟩;have d0:=z62 (zf cell 10) (show (4:Int)≠0 by decide);rw[z5H];have e0:=z62 (zf cell 11) (show ((hs.length:Nat):Int)≠0 by omega);have e1:=z68 (zf cell 11) (show (0:Int)<((hs.length:Nat):Int) by omega);obtain⟨h,hm,eh⟩:=ixS e0 e1;refine⟨_,eh,(z34 (y:=y) (z:=z) λA wd R=>?_)⟩;have hv:h∈vs.map (·.u.ho):=J.eho▸hm;obtain⟨v,vm,ehv⟩:=z5O.mp hv;obtain⟨i,hi⟩:=z6d.mp vm;have ehv:v.u.ho=h:=ehv;subst ehv;generalize htm:tm+zf cell 10 % 4=t at R;have tt:tm<=t:=by omega
 have t0':=J.tm0;have nw:xa now t:=J.nw.imp id λ⟨s,e,h⟩=>⟨s,e,by omega⟩;have go:∀(wd:Str) (A:T) (R:R8 y z t v.u.ho wd A) (hb:wd="bare"->nb<=3),zR (Xj.drop 4) (st8 s0 s1 far x y z hs s5 s6 s7 w t kd bk nb (some (.int cell)) (some (.str v.u.ho)) (some A) B) μ (E.turn N):=λwd A R hb=>by
  have bl:=J.bl v vm;have rl:=J.rl;have ql:=J.ql;have pl:=J.pl;refine z33 Nn R J.M J.J hi nw (by omega) J.t0 J.t1 (by omega) (by omega) (by omega) f0 ((J.ck v vm).low (by omega)) (λU nbr ch=>?_) λnw' j L v' ps' b hn' R1=>?_
  .refine hN _ now t nb vs ps rs es qs ca kvs _ _ _ ⟨J.M.law ch (by simp),J.J,nw,by omega,J.eho,J.ck,ch.get J.gk (by simp),J.kl,J.kv,ch.get J.gb (by simp),J.fk,J.fb,ch.get J.t0 (by simp),ch.get J.t1 (by simp),J.rl,by omega,by omega,λu C=>?_,J.nb4,J.cn,J.qn⟩;have:=J.bl u C;omega
  .obtain⟨r,rfl⟩:=R.form;have a:∀{q:Nat} {o:MO},μ[q]?=some o->¬isO o->Fr gr g d vs q->b[q]?=some o:=λh n F=>R1.kp.ot _ _ h n F;have nlD:∀{l},¬isO (MO.d l):=λ{l} ⟨_,_,e⟩=>by cases e
   have nlL:∀{l},¬isO (MO.l l):=λ{l} ⟨_,_,e⟩=>by cases e
   have nlT:∀{k},¬isO (MO.tab k):=λ{k} ⟨_,_,e⟩=>by cases e
   have gk:=a J.gk nlD J.fk;have K:=a J.gb nlL J.fb;have t01:=a J.t0 nlT (Fr.of J.M J.t0 (λ_ e=>by cases e) (λ_ e=>by cases e));have t11:=a J.t1 nlT (Fr.of J.M J.t1 (λ_ e=>by cases e) (λ_ e=>by cases e));have fk':=R1.fr _ (qz J.gk) J.fk;have fb':=R1.fr _ (qz J.gb) J.fb;have lL:=R1.ln;obtain⟨P1,P2,P3⟩:=R1.ex;refine⟨⟨_,K⟩,_,R1.hj,by rw[z5H];unfold room;omega,?_⟩;refine zX T.int (λnm=>some (prT (ca v.u.ho,nm))) (λp hp kk hkk=>⟨_,rfl,_,_,.inl gk,J.kv _ hm,hkk⟩) ?_ R1.hj;rw[z6A];refine⟨_,_,K,.inl rfl,by simp only[z5H];unfold room;omega,?_⟩;have eqs:(qs.map λq=>prT (cN q))++L.map (λnm=>prT (ca v.u.ho,nm))=(qs++L.map λnm=>(ca v.u.ho,v.u.ho,nm)).map λq=>prT (cN q):=by rw[z5Y,z69];rfl
   rw[eqs];have G:(b.set bk (.l ((qs++L.map λnm=>(ca v.u.ho,v.u.ho,nm)).map λq=>prT (cN q))))[bk]?=some _:=get_set K;have kb:kd≠bk:=λe=>by rw[e,K] at gk;cases gk
   have ch:Ch [bk] b (b.set bk (.l ((qs++L.map λnm=>(ca v.u.ho,v.u.ho,nm)).map λq=>prT (cN q)))):=Ch.set;generalize b.set bk (.l ((qs++L.map λnm=>(ca v.u.ho,v.u.ho,nm)).map λq=>prT (cN q)))=m at G ch ⊢;have gk2:=ch.get gk (by simpa using kb);have M2:=R1.M.law ch λq D=>by rw[z5F.mp D];exact⟨fb',λo h=>by rw[K] at h;cases h;exact nlL⟩
   have V:=ch.get t01 (λe=>by rw[<-z5F.mp e,t01] at K;cases K);have S:=ch.get t11 (λe=>by rw[<-z5F.mp e,t11] at K;cases K);have O:(vs.set i v').map (·.u.ho)=hs:=(YP (f:=λq:Vh=>q.u.ho) hi R1.sm.ho).trans J.eho;have Q:∀{u:Vh},u∈vs.set i v'->u=v'\/u∈vs:=λ{u} C=>by
    rcases jz (P:=λ_=>True) C with rfl|⟨j,_,hj⟩
    .exact .inl rfl
    .exact .inr (z5E hj)
   have ck':∀u∈vs.set i v',D8 far u.u.st u.u.ts:=λu C=>by
    rcases Q C with rfl|h
    .rw[R1.sm.st,R1.sm.ts];exact J.ck v vm
    .exact J.ck u h
   have R1b:=R1.bl;have R1n:=R1.nl;have R1p:=R1.pl;have bl':∀u∈vs.set i v',u.bs.length<=n+1/\(X.nmB y z u.bs).length<=12*(n+1):=λu C=>by
    rcases Q C with rfl|h
    .omega
    .have:=J.bl u h;omega
   have kl:=J.kl;have nb4:=J.nb4;refine⟨_,z2O,(zC (λe=>?_) (λe=>?_))⟩
   .obtain⟨l0,l1,l2⟩:=P3 e;have nb3:=hb e;obtain⟨c,hc,hx⟩:∃c:Nat,wH ("abcdef":Str).cps.toList ((nb:Int)+1)=some c/\("x":Str)++⟨#[c]⟩=xn (nb+1):=by
     have:nb=0\/nb=1\/nb=2\/nb=3:=by omega
     rcases this with rfl|rfl|rfl|rfl<;>exact⟨_,rfl,by decide⟩
    refine⟨by decide,_,hc,by show 1+1<=room;decide,?_⟩;rw[hx];refine⟨_,gk2,by unfold room;omega,?_⟩;have fr1:∀q∈qs,q.1≠xn (nb+1):=λq D w=>by
     rcases J.qn q D with h|⟨j,Z,j2,h⟩
     .exact H.nx _ h (nb+1) w
     .have:=XF Z (by omega) (by omega) (by omega) (h.symm.trans w);omega
    have fr2:∀u∈vs,ca u.u.ho≠xn (nb+1):=λu C w=>by
     have um:u.u.ho∈hs:=J.eho▸z5O.mpr ⟨u,C,rfl⟩;rcases J.cn _ um with h|⟨j,Z,j2,h⟩
     .exact H.nx _ um (nb+1) (h▸w)
     .have:=XF Z (by omega) (by omega) (by omega) (h.symm.trans w);omega
    have JJ:=J.J.bare (ps':=ps') hi (by have:=R1.I es J.J.I;rw[l0,za0,z6S] at this;exact this) R1.sm.ho l1 l2 P1 fr1 fr2;have gs:∀{o:MO},(m.set kd o)[bk]?=m[bk]?:=λ{o}=>z5G kb;have ch3:Ch [kd] m (m.set kd (.d (wA (.inr v.u.ho) (.str (xn (nb+1))) kvs))):=Ch.set;refine hN _ nw' t (nb+1) _ _ _ _ _ _ (wA (.inr v.u.ho) (.str (xn (nb+1))) kvs) _ _ _ ⟨M2.law ch3 (λq D=>by rw[z5F.mp D];exact⟨fk',λo h=>by rw[gk2] at h;cases h;exact nlD⟩),JJ,hn',by omega,O,ck',get_set gk2,?_,λh hh=>?_,by rw[gs];rw[l0] at G;simpa using G,fk',fb',ch3.get V (λe=>by rw[<-z5F.mp e,V] at gk2;cases gk2),ch3.get S (λe=>by rw[<-z5F.mp e,S] at gk2;cases gk2),by rw[l0];simpa using rl,by omega,by omega,bl',by omega,λh hh=>?_,λq D=>?_⟩
    .exact z66 jK (by omega)
    .rw[wN];by_cases w:h=v.u.ho
     .rw[if_pos (by rw[w]),if_pos w]
     .rw[if_neg (λe=>w (z7v e)),if_neg w];exact J.kv h hh
    .by_cases w:h=v.u.ho
     .exact .inr ⟨nb+1,by omega,z5K _,if_pos w⟩
     .rcases J.cn h hh with q|⟨j,Z,j2,q⟩
      .exact .inl ((if_neg w).trans q)
      .exact .inr ⟨j,Z,by omega,(if_neg w).trans q⟩
    .rcases J.qn q D with h|⟨j,Z,j2,h⟩
     .exact .inl h
     .exact .inr ⟨j,Z,by omega,h⟩
   .have JJ:=J.J.turn hi (R1.I es J.J.I) R1.sm.ho R1.up R1.gt (by rw[R1.la,if_neg e]) P1 (λe he=>(P2 e he).1) (λe he=>(P2 e he).2);refine hN _ nw' t nb _ _ _ _ _ _ _ _ _ _ ⟨M2,JJ,hn',by omega,O,ck',gk2,kl,J.kv,G,fk',fb',V,S,by simp[rl],by simp;omega,by omega,bl',nb4,J.cn,λq D=>?_⟩;rcases z5L.mp D with h|h
    .exact J.qn q h
    .obtain⟨nm,_,rfl⟩:=z5O.mp h;exact (J.cn _ hm).imp (λe=>by show ca v.u.ho∈hs;rw[e];exact hm) id
 obtain⟨r,er⟩:=R.form;subst er;refine⟨_,z2O,(zC (λe=>?_) (λe=>go _ _ R λw=>absurd w e))⟩;refine zC (λe2=>?_) (λe2=>go _ _ R λ_=>by omega);exact go "fall" _ (.ok (.th (.inr (.inl rfl)))) λw=>absurd w (by decide)
structure Q8(x y z ah sd far:Int):Prop where
 f0:0<=far
 fb:far<=1000000000000000000000000000000000000
 x1:far<x
 xb:x<=far+31
 y1:1<=y
 y4:y<=4
 z1:1<=z
 zb:z<=20
 a0:0<=ah
 d0:0<=sd
theorem Q8.nn(Q:Q8 x y z ah sd far):N91 x y z ah sd:=by
 obtain⟨f0,fb,x1,xb,y1,y4,z1,zb,a0,d0⟩:=Q;exact⟨⟨by omega,y1,by omega,z1,by omega⟩,by omega,zb,a0,d0⟩
theorem z3q{s0 S P O L r o m l:Option T}(Q:Q8 x y z ah sd far)(H:H8 hs)(J:J8 μ w cm gr g d kd bk x y z ah sd far hs now tm nb n vs ps rs es qs ca kvs)(q:∀u,K (.bl true) u) :
  zR (qt.drop 12) (st8 s0 S far x y z hs P O L w tm kd bk nb r o m l) μ (En.fn K Z):=by
 have N:=Q.nn;have C:=Q.zb;have z1:=Q.z1;have xb:=Q.xb;have fb:=Q.fb;have v:x*z<VX:=by
  have:=zaD (show x<=10000000000000000000000000000000000000 by omega) C (by omega) (by omega);show x*z<1000000000000000000000000000000000000000000000000000000000000;omega
 have W:=J.M.W;generalize c:(qs.map cN).take 100=f;have D:jy (qs.map λq=>prT (cN q)) none (some 100)=f.map prT:=by
  have e:jy (qs.map λq=>prT (cN q)) none (some 100)=(qs.map λq=>prT (cN q)).take 100:=by
   unfold jy V0;have h:¬(100:Int)<0:=by decide
   simp only[h,if_false,List.drop_zero,Nat.sub_zero];rw[show (100:Int).toNat=100 from rfl,List.take_eq_take_iff];omega
  rw[e,<-c,zcR,z69];rfl
 have E:∀{e},e∈f->∃q∈qs,e=cN q:=λ{e} h=>by
  rw[<-c] at h;obtain⟨q,k,e⟩:=z5O.mp (z6D h);exact⟨q,k,e.symm⟩
 have ok:∀e∈f,EOk x y z e:=λe h=>by
  obtain⟨q,k,rfl⟩:=E h;obtain⟨_,G,F⟩:=J.J.hg k;refine⟨?_,G,F⟩;show HoOk q.1;rcases J.qn q k with h|⟨j,j1,j2,h⟩
  .exact⟨(H.ok _ h).1,(H.ok _ h).2⟩
  .rw[h];have:=J.nb4;have:j=1\/j=2\/j=3\/j=4:=by omega
   rcases this with rfl|rfl|rfl|rfl<;>exact⟨by decide,by decide +kernel⟩
 have dl:f.length<=100:=by rw[<-c,z6B];omega
 have A:z19 y z f:=by
  intro i j a b X Y v;obtain⟨B,e1⟩:=z5C.mp Y;obtain⟨h2,e2⟩:=z5C.mp v;have:=z6h.mp ((c▸J.J.al.sublist (z7d 100 _):f.Pairwise λa b=>vc y z a b=true)) i j B h2 X;rw[e1,e2] at this;exact this
 have V:∀e∈f,far<=e.2 / z / y/\e.2 / z / y<far+60:=λe h=>by
  obtain⟨q,k,rfl⟩:=E h;obtain⟨⟨p,t,_,_,p3,p4⟩,_,_⟩:=J.J.hg k;have:=J.J.lo p t;have:=(J.J.I.gd.ok p t).ux;have:=(J.J.I.gd.ok p t).uu;show far<=q.2.2 / z / y/\q.2.2 / z / y<far+60;omega
 refine⟨_,W.wo,rfl,_,_,_,W.wo,rfl,_,W.gv,_,J.gb,?_⟩;refine zY (λe=>?_) (λ_=>?_)
 .have e:(!decide ((rs.length:Int)=(((qs.map λq=>prT (cN q)).length:Nat):Int)))=true:=e;rw[z5H,decide_eq_true (by have:=J.rl;omega)] at e;cases e
 .refine⟨_,J.gb,?_⟩;rw[D];refine⟨_,J.gb,?_⟩;rw[D];refine judge_ok N.s C ok dl A λu j U s la ch B R=>?_;exact Ky N.s v (ch.get J.t0 (by simp)) (by omega) (R.fil V) dl B R q
end
section
variable {μ:Mem}{K:T->Mem->Prop}{Z:Xp}{x y z ah sd far:Int}{w cm gr g d kd bk:Nat}{hs:List Str}{vs:List Vh}
theorem QO{α β:Type}{f:α->β}{xs:List α}{lo hi:Option Int}:jy (xs.map f) lo hi=(jy xs lo hi).map f:=by
 unfold jy;rw[z5H,zcR,List.map_drop]
theorem z4x{α:Type}{xs:List α}:(jy xs (some 2) (some 42)).length<=40:=by
 unfold jy V0;simp only[z6B,z8V];simp;omega
theorem z0D{ns:List Int}{l k i h e c b a:Option T}(Q:Q8 x y z ah sd far)(H:H8 hs)(J:J8 μ w cm gr g d kd bk x y z ah sd far hs now B nb 0 vs ps C es qs ca s)(q:∀j,K (.bl true) j) :
  zR (qt.drop 11) (st8 (some (.l (ns.map T.int))) l far x y z hs k i h w B kd bk nb e c b a) μ (En.fn K Z):=by
 have M:=z4x (xs:=ns);refine zH (λn f j=>∃now B nb vs ps C es qs ca s e c b a,f=st8 (some (.l (ns.map T.int))) l far x y z hs k i h w B kd bk nb e c b a/\J8 j w cm gr g d kd bk x y z ah sd far hs now B nb n vs ps C es qs ca s) ⟨_,_,_,_,_,_,_,_,_,_,_,_,_,_,rfl,J⟩ ?_ ?_
 .rintro n u f j o ⟨now,B,nb,vs,ps,C,es,qs,ca,s,e,c,b,a,rfl,J⟩ N G;rw[QO,z5Z] at o;obtain⟨p,F,rfl⟩:=z6q.mp o;have P:=(z5C.mp F).1;refine⟨_,rfl,?_⟩;exact z1t Q.nn Q.f0 H J (by omega) λj now' t E r D v I A L m c b a O=>G _ _ ⟨_,_,_,_,_,_,_,_,_,_,_,_,_,_,rfl,O⟩
 .rintro f j ⟨now,B,nb,vs,ps,C,es,qs,ca,s,e,c,b,a,rfl,J⟩;exact z3q Q H J q
theorem VA:∀{hs:List Str} {h:Str},h∈hs->ze (.inr h) (hs.map λh=>((.inr h:Key),T.str h))=some (.str h)
 |a::r,h,m=>by
  show (if (z9e a:Key)=.inr h then some (T.str a) else ze _ _)=_;by_cases e:a=h
  .rw[if_pos (by rw[e]),e]
  .rw[if_neg (λw=>e (z7v w))];exact VA ((z61.mp m).resolve_left λw=>e w.symm)
theorem z0B{ns:List Int}{c1:Int}{U S V D C B A w t r W:Option T}{l:List Kd}{dc:Nat}(Q:Q8 x y z (zf c1 5 % 4) (zf c1 6 % 5) far)(H:H8 hs)(L:l.map (·.ho)=hs)(hd:μ[dc]?=some (.d (l.map qU)))(hk:∀k∈l,KdOk μ k/\D8 far k.st k.ts)(t0:μ[0]?=some (.tab 0))(t1:μ[1]?=some (.tab 1))(q:∀s,K (.bl true) s) :
  zR (qt.drop 6) [some (.l (ns.map T.int)),some (.int c1),some (.int far),some (shp x y z),some (.l (hs.map T.str)),some (.m dc),U,S,W,V,D,C,B,A,w,t,r] μ (En.fn K Z):=by
 have l3:=H.l3;have l1:=H.l1;have O:l.length=hs.length:=by rw[<-L,z5H]
 refine zr dC ⟨dC,(zr dC ⟨dC,?_⟩)⟩;refine z11 (t1:=1) hd (λe=>by rw[e] at O;simp at O;omega) (by omega) (λk h=>(hk k h).1) (by rw[L];exact H.nd) t1 Q.a0 Q.d0 λc o cm gr g d M P R c3 c4 c5 c6=>?_;refine⟨rfl,?_⟩;have f:o.map (·.u.ho)=hs:=by
  have:=congrArg (zbv (·.1)) P;rw[z69,z69] at this;exact Eq.trans this L
 have ck:∀v∈o,D8 far v.u.st v.u.ts:=λv i=>by
  have:v.u.cd∈l.map Kd.cd:=P▸z5O.mpr ⟨v,i,rfl⟩;obtain⟨k,G,e⟩:=z5O.mp this;have h1:k.st=v.u.st:=congrArg (λp:Cd=>p.2.1) e;have h2:k.ts=v.u.ts:=congrArg (λp:Cd=>p.2.2) e;rw[<-h1,<-h2];exact (hk k G).2
 have I:I91 x y z o [] []:=by
  refine⟨⟨by simp,z6_⟩,by rw[f];exact H.nd,λv i=>?_,by simp,by simp,by simp,by simp⟩;obtain⟨⟨F,N,n3,n4,E,Y⟩,_⟩:=R v i;have n:v.u.ho∈hs:=by rw[<-f];exact z5O.mpr ⟨v,i,rfl⟩
  refine⟨(H.ok _ n).1,(H.ok _ n).2,?_,?_,?_,?_,?_,?_,?_,?_,?_,?_⟩
  .rw[F];exact λa e=>by cases e
  .rw[n3];exact λa e=>by cases e
  .rw[N];exact λa e=>by cases e
  .exact .inl ⟨n4,F,N⟩
  .rw[F];exact λa e=>by cases e
  .rw[n3];exact λa e=>by cases e
  .rw[Y];exact λa e=>by cases e
  .rw[E];exact X.BOk.nil
  .rw[E];exact λq hq=>by cases hq
  .rw[E];exact z6_
 have m:∀{j:Nat} {k:Nat},μ[j]?=some (.tab k)->c[j]?=some (.tab k):=λ{j k} h=>c6.get h (λe=>by rw[z5F.mp e,hd] at h;cases h);refine⟨by rw[z5H];unfold room;omega,?_⟩;refine zX T.str (λh=>some (.t [.str h,.str h])) (λh _ kk J=>⟨_,rfl,J⟩) ?_ trivial;rw[z6A];refine⟨hs.map λh=>((.inr h:Key),T.str h),by rw[z69];rfl,?_,by rw[z5H];omega,?_⟩
 .rw[z69,show ((·.1) ∘ λh:Str=>((.inr h:Key),T.str h))=z9e from rfl];exact zdo _ (λa b h e=>h (z7v e)) H.nd
 have ch:Ch [] c (c++[.d (hs.map λh=>((.inr h:Key),T.str h))]++[.l []]):=Ch.app.trans Ch.app;refine z0D (ca:=λh=>h) (qs:=[]) (es:=[]) (now:=.n) (nb:=0) Q H ⟨M.law ch (by simp),⟨I,rfl,by simp,λv _ e he=>?_,by simp,λ_ _ _ _ h=>h,by simp,.nil⟩,.inl rfl,z6E _,f,ck,z5 z8,by rw[z5H];omega,λh n=>VA n,z8,Fr.len M (z5K _),Fr.len M (by simp),ch.get (m t0) (by simp),ch.get (m t1) (by simp),rfl,by simp,by simp,λv i=>?_,by omega,λ_ _=>.inl rfl,by simp⟩ q
 .obtain⟨_,h,_⟩:=he;cases h
 .rw[(R v i).1.bs];exact⟨by simp,by show 0<=_;omega⟩
end
end NH.P
section
namespace NH.P
open PySem L2 NH
variable {μ:Mem}{K:T->Mem->Prop}{Z:Xp}{x y z far:Int}{hs:List Str}
theorem X9{ns:List Int}{c1:Int}{Y X W P A w v s r p o R:Option T}(Q:Q8 x y z (zf c1 5 % 4) (zf c1 6 % 5) far)(H:H8 hs)(t0:μ[0]?=some (.tab 0))(t1:μ[1]?=some (.tab 1))(q:∀j,K (.bl true) j) :
  zR (qt.drop 4) [some (.l (ns.map T.int)),some (.int c1),some (.int far),some (shp x y z),some (.l (hs.map T.str)),Y,X,W,R,P,A,w,v,s,r,p,o] μ (En.fn K Z):=by
 have l3:=H.l3;refine zH (λn G j=>∃(d:List Kd) (J I:Option T),G=[some (.l (ns.map T.int)),some (.int c1),some (.int far),some (shp x y z),some (.l (hs.map T.str)),some (.m μ.length),J,I,R,P,A,w,v,s,r,p,o]/\d.map (·.ho)=hs.take n/\j[μ.length]?=some (.d (d.map qU))/\(∀k∈d,KdOk j k/\D8 far k.st k.ts)/\Ch [] μ j) ⟨[],_,_,rfl,rfl,z8,by simp,Ch.app⟩ ?_ ?_
 .rintro n u G j hx ⟨d,J,I,rfl,i,hd,E,ch⟩ N hN;obtain⟨t,C,rfl⟩:=kG hx;rw[z5Z] at C;obtain⟨h,F,rfl⟩:=z6q.mp C;have hn:=(z5C.mp F).1;refine⟨_,rfl,(jW dC λc0=>⟨.inl (by unfold big;omega),?_⟩)⟩;refine UM λst V l c dn O cl S=>?_;have g:=z5E F;have f:=O.get hd (by simp);have new:h∉d.map (·.ho):=λg=>by
   rw[i] at g;have B:(hs.take n++[h]).Nodup:=by
    rw[show hs.take n++[h]=hs.take (n+1) by rw[z6w,F];rfl];exact H.nd.sublist (z7d _ _)
   rw[z6L] at B;exact B.2.2 h g h (by simp) rfl
  have L:(.inr h:Key)∉(d.map qU).map (·.1):=λg=>by
   rw[z69] at g;obtain⟨k,E,e⟩:=z5O.mp g;exact new (z5O.mpr ⟨k,E,z7v e⟩)
  have ln:d.length<=8:=by have:=congrArg zas i;rw[z5H,z6B] at this;omega
  refine⟨_,f,by rw[z5H];unfold room;omega,?_⟩;rw[W4 L];have cs:Ch [μ.length] l (l.set μ.length (.d (d.map qU++[((.inr h:Key),T.m c)]))):=Ch.set;refine hN _ _ ⟨d++[⟨h,c,st,V⟩],_,_,rfl,?_,?_,?_,Ch.geS7 (ch.trans O) cs (by simp)⟩
  .rw[z5Y,i,z6w,F];rfl
  .rw[z5Y];exact get_set f
  .intro k M;rcases z5L.mp M with m|m
   .obtain⟨⟨a,b,e⟩,D⟩:=E k m;have U:=O.get e (by simp);exact⟨⟨a,b,cs.get U (by simpa using zv U f (λe=>by cases e))⟩,D⟩
   .rw[z5F.mp m];exact⟨⟨(H.ok _ g).1,(H.ok _ g).2,cs.get S (by simpa using zv S f (λe=>by cases e))⟩,dn⟩
 .rintro G j ⟨d,J,I,rfl,i,hd,E,ch⟩;rw[j5,z5H,z6z (z5K _)] at i;exact z0B Q H i hd E (ch.get t0 (by simp)) (ch.get t1 (by simp)) q
theorem JC{ns:List Int}{c1:Int}{l k i m h g f e d b a n:Option T}{c:List T}(o:c=hs.map T.str)(Q:Q8 x y z (zf c1 5 % 4) (zf c1 6 % 5) far)(H:H8 hs)(t0:μ[0]?=some (.tab 0))(t1:μ[1]?=some (.tab 1))(q:∀j,K (.bl true) j) :
  zR (qt.drop 4) [some (.l (ns.map T.int)),some (.int c1),some (.int far),some (shp x y z),some (.l c),l,k,i,n,m,h,g,f,e,d,b,a] μ (En.fn K Z):=by
 subst o;exact X9 Q H t0 t1 q
noncomputable def n3:List Str:=["anna","b","zz"]
theorem z09:∀h∈n3,(h.length<=room/\qh h=true)/\∀j,h≠xn j:=by
 intro h a;have xs:∀j,xn j="xb"\/xn j="xc"\/xn j="xd"\/xn j="xe":=λj=>by
  unfold xn;split
  .exact .inl rfl
  .exact .inr (.inl rfl)
  .exact .inr (.inr (.inl rfl))
  .exact .inr (.inr (.inr rfl))
 simp only[n3,z61,z78,or_false] at a;rcases a with rfl|rfl|rfl<;>exact⟨⟨by decide,by decide +kernel⟩,λj e=>by rcases xs j with h|h|h|h<;>exact absurd (e.trans h) (by decide)⟩
theorem hn3{k:Nat}(h1:1<=k)(b:k<=3):H8 (n3.take k):=by
 have e:n3.length=3:=rfl;exact⟨λh a=>(z09 h (z6D a)).1,zd7 (z7d _ _) (show n3.Nodup by decide),by rw[z6B];omega,by rw[z6B];omega,λh a=>(z09 h (z6D a)).2⟩
theorem z57{k:Int}(h0:0<=k)(b:k<=3):jy (n3.map T.str) none (some k)=(n3.take k.toNat).map T.str:=by
 rw[QO];congr 1;unfold jy V0;have a:¬k<0:=by omega
 have e:n3.length=3:=rfl;simp[a,e]
theorem UW:Zv ZK:=by
 intro j d;refine⟨rfl,(jW dC λa=>?_)⟩;refine QT dC dC ⟨⟨dC,dC,dC⟩,(QT dC (by decide) (zr dC ⟨dC,?_⟩))⟩;have t:=z62 (zf a 39) (show (3:Int)≠0 by decide);have s:=z68 (zf a 39) (show (0:Int)<3 by decide);have g:0<=Zf a 40 1000/\Zf a 40 1000<1000:=⟨z62 _ (by decide),z68 _ (by decide)⟩;have c:0<=Zf a 50 (10 ^ (36:Int).toNat)/\Zf a 50 (10 ^ (36:Int).toNat)<10 ^ (36:Int).toNat:=⟨z62 _ (by decide),z68 _ (by decide)⟩;obtain⟨b,h,g0,f⟩:∃b:Int,wH [T.int 0,.int (Zf a 40 1000),.int (Zf a 50 (10 ^ (36:Int).toNat))] (zf a 39 % 3)=some (.int b)/\0<=b/\b<=1000000000000000000000000000000000000:=by
  have i:(10:Int) ^ (36:Int).toNat=1000000000000000000000000000000000000:=by decide
  have:zf a 39 % 3=0\/zf a 39 % 3=1\/zf a 39 % 3=2:=by omega
  rcases this with e|e|e<;>rw[e]
  .exact⟨0,rfl,by omega,by omega⟩
  .exact⟨Zf a 40 1000,rfl,g.1,by omega⟩
  .exact⟨Zf a 50 (10 ^ (36:Int).toNat),rfl,c.1,by have:=c.2;omega⟩
 refine⟨_,h,(zr dC ⟨dC,(zr dC ⟨dC,(zr dC ⟨dC,rfl,?_⟩)⟩)⟩)⟩;have r:=z62 (zf a 1) (show (30:Int)≠0 by decide);have q:=z68 (zf a 1) (show (0:Int)<30 by decide);have p:=z62 (zf a 2) (show (4:Int)≠0 by decide);have o:=z68 (zf a 2) (show (0:Int)<4 by decide);have n:=z62 (zf a 3) (show (20:Int)≠0 by decide);have m:=z68 (zf a 3) (show (0:Int)<20 by decide);refine ui (x:=b+1+zf a 1 % 30) (y:=1+zf a 2 % 4) (z:=1+zf a 3 % 20) (by omega) (by omega) (by omega) ?_;refine⟨rfl,_,rfl,rfl,(zr dC ⟨dC,?_⟩)⟩;have l:=z62 (zf a 4) (show (3:Int)≠0 by decide);have k:=z68 (zf a 4) (show (0:Int)<3 by decide);have Q:Q8 (b+1+zf a 1 % 30) (1+zf a 2 % 4) (1+zf a 3 % 20) (zf a 5 % 4) (zf a 6 % 5) b:=⟨g0,f,by omega,by omega,by omega,by omega,by omega,by omega,z62 _ (by decide),z62 _ (by decide)⟩;exact JC (hs:=n3.take (1+zf a 4 % 3).toNat) (z57 (by omega) (by omega)) Q (hn3 (by omega) (by omega)) rfl rfl λ_=>rfl
end NH.P
namespace NH.K78
open PySem L2 NH NH.P
theorem tells:Zv ZK:=UW
end NH.K78
end
namespace NH.K78
open PySem PySem.Spec PyProof.Rows L2 NH NH.P PySem.W
noncomputable abbrev rF:Rw:=rw .fn (st 82) ZX
noncomputable abbrev rH:Rw:=rw (.mk 45 false) (inClass (st 60) 0) q_ ["batches"]
noncomputable def wt:=inClass (st 11) 0
theorem all_mk {l:zd0} {w:z81} {K:Frag} {h:Heap} {mg:Str->Option Value} {fa C0 p k d f0 N0 m:Addr} {od0 an0 dd0:Option Addr} {sl0:Array (Option Value)} {oc0 kV0 dc0 pm0 cd0 ct0:Value} {nm0 qn0:Str} {bs0 Y:List Value} {hd0 ab0:Bool} {W:List Str} {co0:Option Bool} {ka0 kb0 kc0 kd0 ke0:Option Value} {V I U F T E Q D O B L z J y:Tok} {ep65:Nat} (X:K.In h) (G:h.Ns z6i mg) (hfa:mg "law"=some (.ref fa))
  (e0:nsIn K z6i "HouseError"=some (some (.ref C0)))
  (e9:nsIn K z6i "Wait"=some (some (.ref p)))
  (xa0:K.lookup p=some (z7E nm0 qn0 p N0 bs0 (.ref C0::qS) hd0 W Y ab0 co0 dd0 ka0 kb0 kc0 kd0 ke0 "ValueError.__new__"))
  (xb0:zcg K N0=true)
  (xc0:nsIn K N0 "__init__"=some (some (.ref f0)))
  (xd0:zc7 K (.ref f0)=some (.type "function"))
  (xe0:z6g K (.ref p) "__setattr__"=some (some (.builtin "object.__setattr__")))
  (xf0:z6g K (.ref p) "by"=some none)
  (xg0:z7x K p=true)
  (xh0:z8f K (.ref p)=true)
  (ha0:z7D K (.ref C0) "__getattribute__"=some (some (.builtin "type.__getattribute__")))
  (ha1:zbY K C0 (.type "type")=true)
  (ha2:zbZ K (.ref C0) (.type "type") "__init__"=some (.val (.builtin "ValueError.__init__")))
  (l0:K.lookup f0=some ⟨oc0,od0,.func (fnOf "__init__" "Wait.__init__" (vk wt) (zU wt) (qC wt) .none kV0 dc0 pm0 an0 cd0 ct0),sl0⟩)
  (c0:z7W K cd0 "Wait.__init__"=true)
  (k0:z8f K (.ref f0)=true)
  (v65:nsIn K z6i "LENGTHS"=some (some (.ref m)))
  (w65:K.lookup m=some {cls:=.type "dict",data:=.dict #[⟨z9y w "lease",.str "lease" V,.int 5 I⟩,⟨z9y w "ask",.str "ask" U,.int 4 F⟩,⟨z9y w "store",.str "store" T,.int 4 E⟩,⟨z9y w "take",.str "take" Q,.int 4 D⟩,⟨z9y w "back",.str "back" O,.int 3 B⟩,⟨z9y w "fall",.str "fall" L,.int 3 z⟩,⟨z9y w "bare",.str "bare" J,.int 3 y⟩] ep65})
  (y65:(m==z7p)=false)
  (zk0:K.lookup k=none)
  (zs0:k≠zbu)
  (zt0:zbO K (Rw.cd (YY k d) K (rw .fn (st 49) [])) k=true)
  (zk1:K.lookup d=none)
  (zs1:d≠zbu)
  (zt1:zbO K (Rw.cd (YY k d) K (rw (.met 47 dot) (inClass (st 74) 1) [])) d=true)
  (zn:k≠d)
  (zl:W_ K=true)
  (zc:chk K ((YY k d).A K) cls fld=true)
  (zg:z26 K ((YY k d).A K) bs xp xq=true)
  (zx:z9E K C0 qS "ValueError.__new__"=true)
  (zb:cqB K ci ct=true)
  (n1:ZG (YY k d) K R1=j_ (YY k d) K R1)
  (n2:ZG (YY k d) K R2=j_ (YY k d) K R2)
  (n3:ZG (YY k d) K R3=j_ (YY k d) K R3)
  (nd:(λ(S:Setting) (v:Nat->Value)=>peek K S (zar (Rw.fx (YY k d) K rH) ⟨vl 5 v,[]⟩))=λS v=>some ((wQ rH.s).zip (vl 5 v++[.none])))
  (n4:ZG (YY k d) K R4=j_ (YY k d) K R4)
  (n5:ZG (YY k d) K R5=j_ (YY k d) K R5) :
  (W_ K=true/\∀P∈[k,d],K.lookup P=none/\P≠zbu/\∃c,zbO K c P=true)/\∃fd:FuncData,(∀(s:z5W) (v:Value),K.In s.heap->zaG s fd ⟨[v],[]⟩ [("_law_script",v)])/\∀base:Heap,K.In base->base.Ns z6i mg->(∀P∈[k,d],base.BuiltinsAt mg P)->FnOk l.prog w K mg base (CX1 l.prog w) 166 fa fd ["_law_script"] (Zn [k,d]):=by
 refine⟨⟨zl,λP hP=>by rcases z61.mp hP with rfl|hP;exact⟨zk0,zs0,_,zt0⟩;rw[z5F.mp hP];exact⟨zk1,zs1,_,zt1⟩⟩,⟨Rw.fx (YY k d) K (rw .fn (st 97) qt ["_law_clocks","~_law_clocks","_law_book","_law_called","~_law_called"]),λs v Ks=>?_,λbase kb u nbt=>?_⟩⟩
 .obtain⟨_,e⟩:=z7H (z9I n5).1;obtain⟨_,e⟩:=z7H e;exact kp_binds Ks λS=>congrFun (congrFun (z7H e).1 S) λ_=>v
 have Z:Pq (YY k d) K mg base:=⟨kb,u,zc,λt ht=>by
  rcases z61.mp ht with rfl|ht
  .exact nbt _ (.head _)
  .rw[z5F.mp ht];exact nbt _ (.tail _ (.head _))⟩
 have F0:=z1J (st:=wt) l0 c0 k0;have b0:=F0.binds (ps:=["self","by"]) λ_ _ _ _ _ _=>PL.all (n:=2) λ_ _=>rfl;have XI0:XIn K p C0 f0 "by":=⟨⟨N0,nm0,qn0,bs0,hd0,W,Y,ab0,co0,dd0,ka0,kb0,kc0,kd0,ke0,xa0,xb0,xc0⟩,zx,xd0,xe0,xf0,xg0,xh0⟩;have W0:FnOk l.prog w K mg base (CX1 l.prog w) 1 f0 _ ["self","by"] (spI p "by"):=z1M XI0 ⟨zbP kb u e0,ha0,ha1,ha2⟩ l0 c0 (by first|exact⟨_,_,_,_,_,_,_,_,_,_,_,rfl,rfl,.inl ⟨_,_,_,_,_,_,_,_,rfl,by decide,by decide⟩⟩|exact⟨_,_,_,_,_,_,_,_,_,_,_,rfl,rfl,.inr ⟨_,_,_,_,_,rfl,by decide⟩⟩) rfl;have gW:∀x,GlOkM (mkD K ((YY k d).A K) (Zl wM (Rw.ad (YY k d) K rF) (YY k d).tb) λj=>(YY k d).tb[j]?) l.prog w K mg base 2 x (GM.xin 21 29 "Wait" "by"):=λx=>⟨p,C0,f0,_,_,1,by show some (refOf (nsIn K z6i "Wait"))=_;rw[e9];rfl,zbP kb u e9,rfl,XI0,b0,by decide,W0⟩;have q0:GsC (YY k d) l.prog w K mg base (Zl wM (Rw.ad (YY k d) K rF) (YY k d).tb) 2 g0:=GsOk.add (GsOk.add (GsOk.add (GsOk.app (z0S kb u zb) (Jv kb u zg)) (gW _) rfl) (gW _) rfl) (z1S (zbP kb u v65) y65 w65 ⟨⟨_,_,rfl⟩,⟨_,_,rfl⟩,⟨_,_,rfl⟩,⟨_,_,rfl⟩,⟨_,_,rfl⟩,⟨_,_,rfl⟩,⟨_,_,rfl⟩,trivial⟩ (by decide)) rfl;have t1:=Rw.step (r:=rF) (l:=[]) Z (z5K 2) gk1 n1 q0;have q1:GsC (YY k d) l.prog w K mg base (Zl wM (Rw.ad (YY k d) K rF) (YY k d).tb) 4 gs1:=GsOk.add t1.g ⟨_,.ref (Rw.ad (YY k d) K rF),zbP kb u t1.at_,rfl,λφ α H=>⟨_,none,[],rfl,.inr (.inr (.inl ⟨rfl,rfl,rfl⟩)),λo e=>(by cases e),rfl⟩⟩ rfl;have q2':=chain Z R2 (by decide) gk2 n2 q1;have q2:GsC (YY k d) l.prog w K mg base (Zl wM (Rw.ad (YY k d) K rF) (YY k d).tb) _ gs2:=GsOk.add (q2'.mono (z8g _)) (YI (n:=60) (R:=RU) (tbs:=(YY k d).tb) (G:=z1y) (by show 2<=100;decide) rfl (z7H (z9I n1).1).1 t1.b (by decide) t1.f (λt μ K Z q=>⟨rfl,q⟩) (UY (N:=[]) (G:=[]) (cel:=[]) (own:=[]) (lam:=none) kb u zc q2') gkl) rfl;have t3:=Rw.step (r:=rH) (l:=[]) Z (by decide) gk3 n3 q2;have BD:Binds K (Rw.fx (YY k d) K rH) (wQ rH.s) [.none]:=λs us X hl=>by
  have h5:us.length=5:=by
   have:(wQ rH.s).length=6:=by kernel_rfl
   simpa[this] using hl
  refine kp_binds X λS=>?_;have:=congrFun (congrFun nd S) λi=>us.getD i .none;rw[<-h5,Km] at this;exact this
 have g3:GlOkM (mkD K ((YY k d).A K) (Zl wM (Rw.ad (YY k d) K rF) (YY k d).tb) λj=>(YY k d).tb[j]?) l.prog w K mg base _ "House" (.mk 45 false q9):=(t3.g _ z60).1;obtain⟨C,fI,fd,ps,kk,ad,hm,M,_,_,_,_⟩:=g3;have eC:C=adr K "House":=(z5J (ad.symm.trans rfl));have eI:fI=Rw.ad (YY k d) K rH:=by
  have a:=M.init;rw[eC] at a;exact zcS (z5J (z5J (a.symm.trans t3.at_)))
 have q3:GsC (YY k d) l.prog w K mg base (Zl wM (Rw.ad (YY k d) K rF) (YY k d).tb) _ gs3:=GsOk.add (x:=til "House") (g:=GM.mkd 45 "House" 4 q9) t3.g ⟨C,_,_,_,_,ad,hm,eI▸M,BD,z5K _,t3.f,xB⟩ rfl;have q4:=chain Z R4 (by decide) gk4 n4 q3;have t:=Rw.step Z (by decide) gk5 n5 q4;have a:=(zbP kb u t.at_).symm.trans hfa;obtain rfl:=zcS (z5J a);exact Kl (f:=ZK) tells rfl rfl zn t.f
end NH.K78
section
open PySem PySem.W PyProof.Rows
set_option tactic.hygienic true in
set_option maxRecDepth 100000 in
set_option maxHeartbeats 0 in
theorem PySem.Challenge.cw_namehouses_k78_whole_books_of_worlds_holds : PySem.Challenge.rw_namehouses_k78_whole_books_of_worlds.Holds := by
 w_on;o_law;k_head;(case hw=>w_witness2);k_fill;refine NH.walkTq (l:=PySem.Challenge.rw_namehouses_k78_whole_books_of_worlds) (k:=166) (x:="_law_script") (by decide) rfl rfl (λw h Y=>PySem.W.km_in_of Y) (λw h Y=>NH.swT (PySem.W.km_tabs_of Y)) ?F;case F=>
  intro w mg fa h KX G hmg
  refine' NH.K78.all_mk KX G hmg ?ze0 ?ze9 ?zxa0 ?zxb0 ?zxc0 ?zxd0 ?zxe0 ?zxf0 ?zxg0 ?zxh0 ?zha0 ?zha1 ?zha2 ?zl0 ?zc0 ?zk0 ?zv65 ?zw65 ?zy65 ?zzk0 ?zzs0 ?zzt0 ?zzk1 ?zzs1 ?zzt1 ?zzn ?zzl ?zzc ?zzg ?zzx ?zzb ?zn1 ?zn2 ?zn3 ?znd ?zn4 ?zn5
  (case ze0=>k_is)
  (case ze9=>k_is)
  (case zxa0=>k_is)
  (case zxb0=>kernel_rfl)
  (case zxc0=>k_is)
  (case zxd0=>k_is)
  (case zxe0=>k_is)
  (case zxf0=>k_is)
  (case zxg0=>k_is)
  (case zxh0=>k_is)
  (case zha0=>k_is)
  (case zha1=>k_is)
  (case zha2=>k_is)
  (case zl0=>k_is)
  (case zc0=>k_is)
  (case zk0=>k_is)
  (case zv65=>k_is)
  (case zw65=>exact rfl)
  (case zy65=>decide)
  (case zzk0=>exact rfl)
  (case zzs0=>decide)
  (case zzt0=>kernel_rfl)
  (case zzk1=>exact rfl)
  (case zzs1=>decide)
  (case zzt1=>kernel_rfl)
  (case zzn=>decide)
  (case zzl=>exact rfl)
  (case zzc=>kernel_rfl)
  (case zzg=>kernel_rfl)
  (case zzx=>k_exc)
  (case zzb=>kernel_rfl)
  (case zn1=>kernel_rfl)
  (case zn2=>kernel_rfl)
  (case zn3=>kernel_rfl)
  (case znd=>kernel_rfl)
  (case zn4=>kernel_rfl)
  (case zn5=>kernel_rfl)
end
