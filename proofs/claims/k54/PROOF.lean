import PyProof.Rows.All
import Wide.All
import OpenK.AllK
import Wide.FinOn
import Lean
import PyProof.EqAt
import PyProof.EqKinds
import PyProof.TupleCall
import PyProof.DictIter
import PyProof.StationsW
import PySem.Syntax
import KE.KLam
import PyProof.StrBlockH
import KE.KRevIter
import PyProof.JoinWalk
import PyProof.CollectIter
import PyProof.StrCalls
import PyProof.DictStraight
import PyProof.Rows.Range3
import PyProof.StrWalks
import PyProof.LongRange
import KE.KTryMore
import KE.KItem
import PyProof.NsDelKeeps
import PyProof.DictTable
import PyProof.WalkInts
import PyProof.Rows.SortStr
import PyProof.Rows.SortWalk
import PyProof.EnumMake
import PyProof.EnumFor
import KE.KRevSl
import PyProof.Rows.StrNews
import KE.KMinBuiltin
import KE.KSortKey
import PyProof.ZipIter
import PyProof.ExcInit
import PyProof.ExcClass2
import PyProof.InstStoreFacts
import PyProof.FString
import KE.LcSums
import KE.KIntText
import PyProof.StrBlock2
import PyProof.DictWalks
import KE.KSortTup
import PyProof.Rows.SortRev
import PyProof.AttrMissHeap
import PyProof.Rows.SetFrom
import KE.KDictOf
import PyProof.DictUpdate
import PyProof.DictTruth
import PyProof.DictItems
import KE.KPairComp
import PySem.Challenge.RW_namehouses_k54_the_bound_is_met
set_option Elab.async false
open Option renaming some→aA,none→aE
open Bool renaming true→aB,false→aD
open PySem renaming Value→aC,Addr→aF,Str→aG,Expr→aI,Heap→aT,Obj→bD,Stmt→bG
open List renaming getElem?_eq_some_iff→bQ,mem_singleton→bV,length_map→bP,mem_of_getElem?→cP,mem_append→cA,getElem?_set_ne→cS,getElem?_append_left→dP,mem_cons_of_mem→dN,mem_append_left→dM,mem_append_right→dU,getElem?_map→c9,getElem?_eq_getElem→eS,size_toArray→dA,mem_cons→cO,getElem?_append_right→fN,mem_cons_self→eG,map_cons→dC,mem_map→c7,length_cons→eZ,mem_filter→fA,length_append→gE,lookup_cons→f6,all_eq_true→f_,take_add_one→gD,contains_iff_mem→ic,append_nil→gC,take_of_length_le→iT,map_map→fS,map_append→gK,range→eX,mem_nil_iff→h_,mem_iff_getElem?→lq,getElem?_eq_none→lV,nodup_append→ll,pairwise_map→lj,filterMap_cons_none→nK,filterMap_cons_some→nJ,getElem?_set_self→nG,all_cons→iQ,replicate→lu,rec→fZ,pairwise_iff_getElem→pG,nodup_cons→lY,length_nil→lT,lookup→iy,filterMap_cons→ny,mem_range→lS,length_take→mz,getElem?_replicate→pv,length→iM,mem_filterMap→nt,filterMap_eq_map'→pu,length_filter_le→pq,take_length→nC,map_congr_left→pA,find?_cons→nz,zip_cons_cons→py,getElem?_cons_succ→tD,filter_cons_of_pos→tw,filter_cons_of_neg→tp,all_map→ml,length_range→oZ,set_append_right→sY,getElem_inj→oY,isEmpty_iff→oX,any_cons→ni,length_zip→o9,nodup_iff_pairwise_ne→Ea,drop_eq_getElem_cons→D_,getElem?_cons_zero→DT,length_eq_zero_iff→DO,pairwise_singleton→DN,of_mem_zip→sS,forIn_cons→sQ,length_replicate→D5,take_append_drop→D1,mem_iff_getElem→DM,mem_of_mem_take→DL,zip_nil_right→Dd,any_eq_false→DA,take_sublist→Dz,zip_nil_left→Dy,length_drop→CZ,getElem_mem→CV,cons_append→CM,ext_getElem→CL,getElem_zip→CJ,map_reverse→CG,map_snd_zip→CF,any_eq_true→CD,length_set→Cy,nil_append→Cu,find?→rT,map_nil→BW
open PySem.Heap renaming get?_push_of_some→bZ,lt_size→cG,get?_push_size→eF,SameBut→f9,get?_none_of_le→lp,size_push→gX,get?_update_other→nF,get?_update_ne→tz,size_update→sI,get?_update_self→D3,get?_push_ne→Dr,MadeExcOf→CP
open Option.some renaming inj→bU,injEq→o0
open Nat renaming le_refl→bH,lt_of_lt_of_le→dL,le_trans→cT,ne_of_lt→d6,zero_le→fQ,lt_succ_self→iO,le_succ→gJ,lt_irrefl→iz,ne_of_gt→iA,le_of_eq→iN,beq→fM,lt_succ_of_lt→nl,eq_of_beq_eq_true→tc,le_of_ble_eq_true→sZ,le_of_lt→nh,lt_of_le_of_lt→tx,min_self→sw,rec→ou,ble→oq,lt_or_ge→Cj,lt_trans→Cg
open PySem.W renaming Frag→bM,findIn→dO,emptyDict→iP,fnOf→gW,mroIn→gV,instObj→lA,kla_obj→ly,CodeHd→lr,plainGet_of→nv,keepIn→fK,tabObj→lR,hasDictIn→nr,codeIn→gx,plainGet→nE,callWith_K0→pB,excIn→fy,callWith_K→pj,mg_of→eL,specialIn→o4,kitx_dict→o3,exmOne→ng,takesIn→pd,lookIn→o7,kitOne→o6,methodObj→sX,plainOver→sW,cellsFrom_some→D9,nsIn→oW,KitX→oV,takerIn→sT,kitAny→sG,kla_fn→sF,kla_callFunE→DH,kla_codeExpr→DG,kas_sort→mi,mg_none_of→DC,isFn→sD,kitx_list→Du,handedIn→Db,kla_eval→CH,codeHdIn→mX,makesIn→mW,binds_K→CU,OpenLaw→mh,typeIn→CQ,fnMade→CO,clsIn→oy,Looks→rN,FnAt→Cm
open Bool renaming and_eq_true→cH,false_ne_true→fB,false_eq_true→mI,not_eq_true'→nj,eq_iff_iff→nA,and_false→sO,and_true→r_,eq_false_iff→Dv,or_eq_true→Cz,false_and→CT,rec→oB
open PySem renaming mainGlobals→bR,model→aQ,Shared→a_,Program→cF,wpAny_mono→eI,wpAny_Call_Name_kw→gY,compareOp→d5,starEach→d_,sizeLine_eq→fR,mem_of_lookup→iS,rawInt→cV,bootBuiltins→gB,foldedSetIterable→lm,sysModules→gz,relabel→eR,wpAny_tryCatch→iR,Around→eM,wpAny_passesOwn→lZ,World→dJ,binaryOp→f8,wpAny_field→ix,wpAny_newObj_type→mH,assignEach→hZ,plainId_quiet→lg,codeAny→fP,wpAny_letGo→iL,codeAny_mono→le,codeAny_builtin→my,wpAny_updateSeq→mx,wpAny_standAt→lQ,wpAny_pyIter_list→nn,backTo→fL,keywordEach→li,compEnvC→gU,wpAny_seqItems→mG,swapsWith→iw,attributeBase→mE,CmpOp→eQ,wpAny_newList→mC,letOwnedTupleGo→nB,builtinsNs→lh,sliceBounds→lP,wpAny_of_eq→lO,seqItems?→iK,codeAmong→iJ,wpAny_isTrue_Compare1→s_,wpAny_call→lM,getItem→hX,wpAny_loadPart'→pe,Keyword→iu,bindArgs→lc,NameKind→lb,wpAny_newFunctionEnv_cells→Eh,backToKw→la,wpAny_rule→mu,closureFor→mq,hashStr→iI,richCompare→nc,assign→hW,swapsWithSole→oR,swappedStores→oQ,wpAny_attempt→oP,comprehension→oO,ExceptHandler→oM,methodCallPos→oK,wpAny_eqBool_int→sN,noFill_tuple_add→sM,wpAny_callSpecial?_slot→DU,setFlight→mj,wpAny_comp_letGo→sJ,pyNext→iq,BindsTo→jp,richCompare_meets_room→D8,IsPart→ir,makeFunction→oU,wpAny_execs_nil→sU,codeAny_call_function→D4,subscripted→oS,wpAny_setField→sP,wpAny_Compare1→sH,wpAny_newFunctionEnv→DK,wpAny_pyIter_revIter→DI,holding→lK,PassesOwn→mZ,Builtin→lJ,valueAt→lI,behindInMarks→sj,seq_tuple_add→sg,methodCall→oI,Within→sE,concat_meets→sA,wpAny_sequenceKey→Dx,wpAny_typeOf→sx,slot_list_getitem→Dw,cStatics→m6,wpAny_forIn_list→C_,wpAny_call_entry→CY,noteFrame→oE,DictEntry→oD,updateSeq→oA,argsOk→lH,excClassObj→rR,getAttrByItsOwn→CB,callerA→mY,wpAny_Name→rZ,bindL→i9,bindC→i8,typeLookup→rY,typeIs_str→rW,getMethod→rM,cellsFrom→rL,pyIter→mV,leaving→ow,passOn→Ci,call→B6
open PySem.Obj renaming mapSeq→cK,mapFields→mD,isFreed_of_fields→D2,data_mapFields→DF
open Int renaming le_refl→dB,mul_le_mul_of_nonneg_right→pE,mul_ediv_cancel→nu,mul_nonneg→mF,emod_lt_of_pos→pi,ediv_one→mo,emod_nonneg→o8,fdiv_eq_ediv_of_nonneg→Ei,add_mul→m_,ediv_emod_unique→Dq,add_comm→ss,add_zero→sq,toNat→oC,ediv_nonneg→CA,mul_comm→Cf,one_mul→B9
open PyProof.Rows renaming seqObj→bN,IntsAre→dZ,slot_tuple_getitem→lU,callWith_builtin1→pF,get?_update_seq→lw,callWith_type1→pK,listUpdate_at→mB,envOfC→gw,AllBare→iH,subscriptTail_builtinR→D7,call_function_entry_kw→D6,arrOf→gT,seqEpoch_at→oH,entry_tuple_getitem→Do,wpAny_call_entry_kw→Dj,IsTup→hV,subscriptTail→sf,args_tuple_getitem→Dc,listItems_at→sv,callWith_kw→rP,entry_list_sort→Cq,boot_range→rV,sortedAll→rK,tuples'→oz,lt_int→rO,gt_int→B8
open PySem.Value renaming ref→cY,none→eY,int→lN,bool→mv,notImplemented→DX,isStrOf→sk,type→oG,str→oF,isInt→rS,isStrOf_shape→Cp,isInt_shape→BY,bytes→Ce,float→Cb
open Ne renaming symm→cX
open False renaming elim→eT
open PySem.Heap.SameBut renaming update→iB
open Option renaming map_eq_some_iff→lB,isSome_iff_exists→pD,bind_eq_some_iff→tB,map_some→o_,getD_some→sL,bind_some→sK,getD_none→CW
open PySem.Str renaming ofString→gA,length→rX
open PySem.F renaming plain_min_loop→lX,plain_max_loop→lW,args_tuple_add_2→tH,entry_tuple_add→tF,slot_tuple_add→tm,entry_min_loop→ti,entry_max_loop→tf,excBase_ValueError→Eb,slot_dict_update→DV,attr_ValueError→DS,plainAttrs_list→DR,plainAttrs_dict→DQ,slot_dict_get→D0
open True renaming intro→gy
open PySem.Around renaming under_plainId→mK,frames_deeper→DY,under→sC
open PySem.Builtin.Str renaming occurrences→nI
open PySem.Builtin.Range renaming rangeSize→nH,rangeFitsLong→Ek,small→Dl
open ForInStep renaming yield→lx
open Array renaming length_toList→mJ,getElem?_eq_some_iff→pI,getElem?_setIfInBounds_ne→Ec,mem_toList_iff→DZ,toArray_toList→DJ,toList_append→Dk,forIn_toList→DB,size_zip→CN,toList→BX
open PySem.Builtin.Builtins renaming bindParams→pJ
open PySem.Builtin.Slice renaming slicePlaces→pH,sliceAdjust→tI,sliceApplied→Eg,slicePartIndex→HW,sliceFields→HQ
open PySem.SeqAt renaming EqAt→hY,RcAt→oJ,RcNeAt→BV
open PySem.Builtin.Tuple renaming tupleExact→px,tupleCompareSizes→Ee,tupleItemsOf→Ef,tupleIsExact→Ic,tupleHashOf→HN
open PySem.Calls renaming evalArgs_plain→pC,spliced_cons→pz,spliced_nil→o5,callWith_builtin→tj,Name_function_global→Ej
open PySem.Builtin.List renaming listTooLong→tG,listUpdate→Hl
open Sum.inr renaming inj→mw
open PySem.Builtin.ObjectAttr renaming attrName→El,bindTo→HM
open Function renaming comp_def→sV
open PySem.AutoSeq1 renaming sub_tuple_tuple→DW
open PySem.NameKind renaming free→oN
open Sum renaming inl→i_,inr→lL
open PySem.Walks renaming list→m9
open PySem.SeqAt.EqAt renaming same→sR,int_str→Dh,str_int→Dg,int_int→Df,str_str→DE,of_refs→DD
open PySem.EntryCells renaming newEntry→Dm
open PySem.Code renaming isFrame→sB,frames→Ca
open Nat.succ renaming inj→su
open PySem.IsRange renaming new→rQ
open List.cons renaming injEq→Cw
open PySem.Heap.DictOf renaming new→Cv
open StateT renaming run_pure→Cs
open Array.Perm renaming refl→Cr
open PySem.Builtin renaming bitAnd→CS
open PySem.SeqAt.RcNeAt renaming lists_lengths→Ih,tuples→HJ,lists→HG
open PySem.EqNone renaming eq_none_none→Ib,eq_none_bool→Ia,eq_bool_none→H_,ne_none_none→HY,ne_none_bool→HX,ne_bool_none→HV,eq_none_int→HL,eq_none_str→HK,eq_int_none→HA,eq_str_none→Hx,ne_none_int→Hv,ne_none_str→Hu,ne_int_none→Ht,ne_str_none→Hq
open PySem.EqMixed renaming eq_bool_str→H0,eq_str_bool→HZ,ne_bool_str→HU,ne_str_bool→HS,eq_int_str→Hy,eq_str_int→Hw,ne_int_str→Hs,ne_str_int→Hn
open PySem.Paired renaming length→Co
open List.Pairwise renaming imp_of_mem→Hm,cons→HF,nil→HC,imp→HB
open PySem.Data renaming fields→B_
open PySem.W.Looks renaming here→HI,ld→BZ
open PySem.Heap.IsSliceOf renaming new→HH
open PySem.W.WShape renaming has→B7
open PyProof.Rows.SortSt renaming mk'→B5
open PySem.Within renaming cons→HD
open PyProof.Rows.IsTup renaming new→B4
open PySem.W.WData renaming int→B3
set_option linter.all false
set_option maxRecDepth 100000
set_option maxHeartbeats 4000000
set_option genSizeOf false
set_option genInjectivity false
set_option bootstrap.genMatcherCode false
noncomputable section
namespace PySem.W
structure Fast:Prop where
 (tw13630381457007261430 tw8431074160999578412 tw8189902676299211245 tw187870131691716718 tw7231408597127368020 tw12692472777459660092 tw17828678627691025796 tw3477603062008299072 tw18384169674530232977 tw4668132458626770239 tw8406868779230569965 tw16435428273575320191 tw434423070052723475 tw9442647635638166060 tw15547168494772274912 tw199223878337535113 tw2594291872610330709 tw14031339467264449226 tw6844695157070496444 tw6137003746135941570 tw17960342816246804672 tw15013572784296969454 tw14292210185580369686 tw9552064204389341425 tw5903199093966593145 tw10169284553140143584 tw1815209878523740560 tw18386299605775246898 tw13599073368255907170 tw184487914040760946 tw12728199792235933920 tw8079105387357033358 tw4736798365322319937 tw371112713416485560 tw1766882234979464702 tw6295858529630273317 tw8586003571957070246 tw14473022217621940716 tw14260274953146409567 tw4964644023647146591 tw15305918103794025101 tw5277217017165092943 tw13156435890285348198 tw6336573746554103952 tw16893811716009176387 tw13963045158335500348 tw12648784413349018606 tw8183978801645702393 tw8004889411456180472 tw90856410011510199 tw10614229302919966046 tw8194538909511368729 tw900733188874630858 tw17202424154833351631 tw5664049820185046753 tw6937810284471061703 tw2077486715024141152 tw11244974461083597714 tw9708997161515574172 tw16127945899120333582 tw4828010215123159210 tw1789390755513721675 tw12683758008513896733 tw7997010665435083754 tw3637701586240706856 tw16697579080499780404 tw1101234929821207061 tw15039151325771367394 tw3154064583813259595 tw478176644893541804 tw10058425596416478961 tw992687692644975525 tw6761471852535858200 tw17289989284020663281 tw6172311415651231325 tw12556434045399367852 tw2569194837494609909 tw13729051985266479889 tw4727282073407174526 tw3726320795383561602 tw2779507788963021404 tw767076128702191642 tw8639941959428904584 tw15974488823262186 tw15140685417376260345 tw18136327197955262328 tw2749694394004723715 tw9748682697335453760 tw12173534887035158247 tw11660224479389909945 tw7691369828815354113 tw17970873325070482927 tw10566250345257708622 tw14657634104445384305 tw5216562267368711617 tw2569362122335811371 tw3950166452128105953 tw10458099319537547592 tw5367919222966573916 tw7719129321147896150 tw6146458970615843786 tw2457699103338850772 tw5225086298037226288 tw9095329930787845458 tw11560531540783147867 tw12092894258007526332 tw9756788462914994316 tw16615762893272151448 tw1601892867744898349 tw9066496266071509151 tw17477793183885766504 tw1836274344020357846 tw10527896538442599774 tw1722166376190583885 tw4128014214462207802 tw18011276093306545538 tw18305974567043859174 tw9117108522661963336 tw6149158317810489307 tw9802484546762292854 tw17723700859629383240 tw10931364666585981039 tw15834802348877526522 tw4531080699834068668 tw11012152879067230010 tw18026993574233271473 tw15616678658082217761 tw6132487807310628365 tw16989407147505012102 tw15233087300960281745 tw3795456631346663814 tw10398595190818582645 tw14086227456844470371 tw3504289148316391226 tw10154198047111526887 tw4711337713055936517 tw2467036794323922234 tw8047548397034247994 tw2244134248935992401 tw5911244354472273530 tw84882391376809663 tw17643659906909584515 tw8474224639941155880 tw5156344867418571555 tw6985199899338596638 tw3873609250132926877 tw17824473457111460576 tw2525558072917287064 tw3111671836204386516 tw1044328328414429309 tw17485404411006688984 tw1150430830628191918 tw10112412431796807445 tw16954169503758755139 tw3275192518231441964 tw393858513620439794 tw12868384996444744707 tw6398777566934032012 tw13584320769837237038 tw8530017704213304368 tw11857380412732971569 tw13622194759765065377 tw5280258820843316186 tw6187737933305923348 tw1561334598952253347 tw15983661764615207424 tw15144961779887573805 tw6937613605966140716 tw7869264868922336548 tw15683393382569451632 tw2600229140240189116 tw10863454593015855637 tw10574021769300482146 tw5221696853004400179 tw6315571453932683271 tw3364595057133109507 tw18153676721925902373 tw6008485801782998587 tw12273056649531406829 tw1310863058461523505 tw7795254807745223148 tw8722552800908409824 tw11127363070199920695 tw10592198973197533471 tw10200370967830347751 tw15430838704851992523 tw1016358226373489226 tw14079848539332603990 tw6023314276220972047 tw8983896749802438450 tw9150691856431230450 tw881748615016189603 tw1528745881482527780 tw12760325316539190349 tw3168727557795096943 tw4099906998072693134 tw8669753371541299981 tw15015256901949770396 tw4601667342820769977 tw210407298281669734 tw14683479258892533516 tw2102736919780257051 tw4578916639357409267 tw4106131238451362479 tw1364605204236739429 tw5355222467476698533 tw1043499793510347396 tw3631909201582610507 tw4169352529064389446 tw2877783359711824336 tw16328593879759254390 tw3145721679142856067 tw4883497201883835525 tw8938342296341755496 tw3188856179662177034 tw8838078063950212307 tw9233125595374093586 tw13336209418087339049 tw854470909025242422 tw1370687590304109458 tw1263975204594521744 tw11051979703820439023 tw2622161822286355491 tw6125809054873961331 tw308926344656009504 tw6068913126332993882 tw17224092508290118905 tw14155207697612140680 tw2030686365575253674 tw10845317906642746232 tw7405476501715164275 tw1744294373595419077 tw10711223456973033053 tw16791436962168630018 tw17129406271574764117 tw5911315279732037124 tw6983079840386297052 tw17018905644524790829 tw2269412913095919779 tw5178921345956043381 tw3495922589579828680 tw10880948257343802961 tw5883887099187456796 tw1716312519019677669 tw11858941748417812443 tw1531672351692356938 tw17792784217941654021 tw5731280421317660083 tw4250801587438274049 tw621094175425911308 tw12270503401548670507 tw7242872141765692353 tw9620846444458818496 tw17591887223550369697 tw8714327931417216148 tw1049138717073875852 tw4348561080791724933 tw14853074536016510714 tw3239735152977737162 tw15748186128410793134 tw13450907370901496675 tw18120162508192300588 tw5109006378979447929 tw7537455721300186282 tw799691262488532732 tw5189895629970227489 tw12177525288747531321 tw2712389285083073017 tw13328487896060413325 tw8233407984592481667 tw11914587349994823456 tw4917266776010261923 tw9459392381133366774 tw2584976247667737709 tw9287814656907198458 tw6446528800299933277 tw3048151246358752802 tw7401766574118715644 tw11041861286946557259 tw9012165005409986525 tw6872701589910374692 tw15820060125022860314 tw4606086851371502010 tw2673613273995881827 tw271289815033639593 tw13079921320575637366 tw17964205619266675947 tw8454113477596667520 tw12767785872585149905 tw7591746250909440775 tw7733467107891683435 tw11437694094521352901 tw12925905631052862931 tw15579384999151798111 tw1927002534918280968 tw17732246870566667394 tw2144850826509897059 tw1336622459751812056 tw7548278233397055251 tw16209226607507360003 tw7630478677662740810 tw6654645538634885278 tw5699796806827254471 tw7189963055406407477 tw380088466004420143 tw9578068063944041863 tw12256261566875863076 tw16676525024144731209 tw8003772559580078259 tw12390903503345168944 tw4832178324549218947 tw2733598745783192968 tw3013289784135621554 tw15716494584884332286 tw3802220783529851997 tw1310382452309358405 tw14284248787326001617 tw18162107990625436530 tw11928475954996896598 tw2864726573917100502 tw16590529959526724271 tw10641815109803647043 tw3375468176546891698 tw8077931053051347996 tw12534778583702931933 tw3316728606992738456 tw4739553792765231660 tw4594399911424161213 tw14428040060937975065 tw4539354778192572986 tw1583647915550094754 tw15796733985037563488 tw3089611566897957019 tw5509253420236353094 tw9742457083346690166 tw17267192003481740451 tw102126647020785174 tw9849260538736284986 tw14276501437962659890 tw13299210789100692973 tw8743118923957101399 tw7567293983697700581 tw9080178123419550191 tw11731677318344047339 tw11455848163229278872 tw638364749162696467 tw16485547955390215353 tw6569306664703503755 tw3186462039340174892 tw15610782108009617780 tw9900332803309958255 tw2160311639721810174 tw9771096008797156720 tw5048384605760789805 tw5603072832197506331 tw5235020531502425617 tw9704065984226491616 tw9026714550677340181 tw12924180635063985679 tw8900182038176263590 tw2617476053491026219 tw14245658573012300528 tw16730675547029596179 tw9106557479186966449 tw1554275223727989228 tw18221725979738487258 tw2665708833416973903 tw16261753581212627419 tw18395369888975331857 tw16964534441915659014 tw1444234265242532605 tw7108605346157907825 tw2148175091502356584 tw14003371724572527552 tw10561231676721670012 tw2744553033104476291 tw1730279587378984078 tw13105772123756365778 tw4265072145600677388 tw10127231859089983491 tw11979602575664595392 tw5486612600960754725 tw11121901910583959001 tw783640972877681447 tw9287650621996863739 tw17971917242607310362 tw1251521071385645144 tw2805562197917708322 tw12251654780533138976 tw5790814123004628919 tw12356069345571171133 tw3930064702625068355 tw4296225784079747691 tw6392794376088946233 tw3446537593889611561 tw9085805669283528551 tw9348360866120126510 tw11281773897273208407 tw6819529918644550235 tw8969383723703461760 tw14818919296841474105 tw13463297126130236314 tw12901552807359255542 tw1736065932241359787 tw7742610065093820404 tw11237404027539391028 tw7433167437794990554 tw2881219220292075473 tw16778338310129555648 tw14137741220586284562 tw14609697989937132571 tw4234063976142919350 tw4640497703478674877 tw5694307364906687257 tw12599635297193312830 tw18127707318595590323 tw5994733086756967664 tw12944110911769440014 tw10719716882861659953 tw5540311203294836401 tw2828007345320130898 tw4479555175749723318 tw18248322164261069328 tw16841541223843321268 tw1748030550690859250 tw5264263122368465678 tw14319990322596649266 tw15300417269474893712 tw6018085588660101395 tw1797179021163769748 tw14538836781141014254 tw2154714494866338164 tw10249842382572427260 tw11748838953589835242 tw7469977260144219474 tw8465550874933158982 tw14904614348145300822 tw6679868978684892065 tw3179051279673949144 tw17941902483942964268 tw1450489951794767479 tw17807663315732633438 tw5270120533176496731 tw11364887543807364143 tw3532667815289166295 tw5573977235361012686 tw13019139844148428190 tw10834030907941268085 tw7619280241693184414 tw16570314346482860836 tw807047317273662190 tw11170596544914764647 tw11931182159587537 tw12360024013361292648 tw12009109093395646710 tw1035258908138643025 tw2251695816991098853 tw10614962914959606610 tw12930401061739755000 tw18215789243501136547 tw16471248171258786626 tw16824865679218785130 tw15442844827702500154 tw11353564189446957301 tw16806645996997291349 tw17503642015651723620 tw11886901253396449070 tw4180278941423999474 tw1846450640599478315 tw11298967606004722828 tw9993484378984767547 tw3054968745192785166 tw8478592970382891433 tw17603515294643033800 tw9414010111865058348 tw9929149003020477544 tw4086637473347867741 tw7561722715045995317 tw11677544683430981568 tw8290426987963947298 tw12989374794196015213 tw7627024367478940163 tw13469674770289043476 tw15886935351868998386 tw6297721350960843694 tw11687254042559382405 tw15775078839673458204 tw15361562592363026644 tw1739809735230547980 tw9457233461348783264 tw1649861795188354246 tw11196712648619508666 tw4046056406706662371 tw10742304524589829274 tw11923086368557928668 tw13134235179870205361 tw14199024994070770105 tw9572100849513882110 tw13958284271584976662 tw6783081473624678391 tw14986875667316865618 tw8850529888662010945 tw6854600125156090320 tw3930533560173719880 tw13239375105808933572 tw5973370861935236157 tw6844362080110100984 tw3448713952739624500 tw16005453138930620229 tw10088455256378431405 tw6276341885469389124 tw13696352921466296747 tw12703691238185839173 tw5716265042117154827 tw666466844395331327 tw15663017109585388160 tw13142672597045266553 tw13323085854695844979 tw805842124033652972 tw14177942410686943676 tw5376451303489013072 tw17241679525621948541 tw3578783591488178282 tw17013548073382647068 tw934072715349897173 tw8746834699434070301 tw9303723429185215119 tw2074179859039465339 tw8944484424149864469 tw6719774206401847530 tw7941981534344779210 tw15251971499165595399 tw1701403483486040355 tw6648483239842101691 tw16395921061511265310 tw11561746024169148707 tw1845118956784780900 tw13960683266746248675 tw17512948415299122379 tw13098898679198477280 tw7528187723510466901 tw7265425197732786712 tw6278208165045715022 tw8130953381878077453 tw1387459727939974414 tw17097357181734384835 tw10414764976589352033 tw14499888466574819855 tw10693908139344858629 tw5039947624763724684 tw12792785507978443374 tw4330017858996504342 tw17109244245535474411 tw17863927527750323790 tw17647318570758227422 tw16250580692956351860 tw1734728008977888934 tw16175204938362215873 tw13249024659413919821 tw6584200671851004493 tw1779959469120830285 tw14522375992858815104 tw11655492805985442202 tw17063660530568947248 tw9867136216289770365 tw1730853407096828879 tw3286028894520889208 tw4323585220901610039 tw2604872542926842575 tw904223770281044924 tw9586720687040773489 tw1954951456195736540 tw7620494308256340469 tw16829240159248480201 tw14161526000546109520 tw8524127040954143214 tw6132072031612129418 tw15545397977072727625 tw9576966008838143439 tw16657593451942109339 tw1093594901932893679 tw6719184896327865323 tw7762981428516510462 tw15555356138264557692 tw12971681328886898393 tw9691547892405991158 tw12044037061280157013 tw1589391720730477959 tw1441288357253554930 tw18424548145586768638 tw114462015127828098 tw8521118940319811252 tw13872399908319167583 tw12342630933186787019 tw252321373237884579 tw15980715169195527914 tw7902503440406977631 tw13878186543413216644 tw6937290028311803377 tw10261236890025400001 tw4655345775621851939 tw3165465884521416642 tw8263452979094851506 tw10137219248993197265 tw3403176511030953072 tw18425868928749678605 tw593350050503817327 tw4344857860261193724 tw15066123903556911688 tw6535302507272699905 tw12617117867920351691 tw10381483657178409170 tw1104043431148853073 tw14789695755289548674 tw2468579756610456978 tw9524515475029518133:True)
end PySem.W
section
set_option Elab.async false
namespace L2
open PySem PySem.Spec PyProof.Rows
noncomputable abbrev Key:=Sum Int aG
noncomputable def QR:Key->aC->Bool
 |.inl k,v=>rS k v
 |.inr x,v=>sk x v
noncomputable def xw (w:dJ):Key->Int
 |.inl k=>hashInt k
 |.inr x=>iI w x
theorem zR:∀{k:Key}{v:aC},QR k v=aB->(∃i t,k=i_ i/\v=lN i t)\/(∃x t,k=lL x/\v=oF x t)
 |.inl i,v,h=>by
  obtain⟨t,e⟩:=BY (k:=i) (v:=v) h;exact .inl ⟨i,t,rfl,e⟩
 |.inr x,v,h=>by
  obtain⟨t,e⟩:=Cp (x:=x) (v:=v) h;exact .inr ⟨x,t,rfl,e⟩
theorem Yt(i:Int)(t:Tok):QR (.inl i) (.int i t)=aB:=by simp[QR,rS]
theorem Wm(x:aG)(t:Tok):QR (.inr x) (.str x t)=aB:=by simp[QR,sk]
theorem Oa(a b:Int):decide ((i_ a:Key)=i_ b)=(a==b):=by
 by_cases e:a=b
 ·subst e;simp
 ·have h:¬(i_ a:Key)=i_ b:=λq=>e (Sum.inl.inj q);rw[decide_eq_false h];exact (beq_eq_false_iff_ne.mpr e).symm
theorem Of(a b:aG):decide ((lL a:Key)=lL b)=decide (a=b):=by
 by_cases e:a=b
 ·subst e;simp
 ·have h:¬(lL a:Key)=lL b:=λq=>e (mw q);rw[decide_eq_false h,decide_eq_false e]
theorem Mc(a:Int)(b:aG):decide ((i_ a:Key)=lL b)=aD:=decide_eq_false (λq=>nomatch q)
theorem MF(a:aG)(b:Int):decide ((lL a:Key)=i_ b)=aD:=decide_eq_false (λq=>nomatch q)
noncomputable def zE(prog:cF)(w:dJ):PySem.KeyKind prog w Key where
 is:=QR
 hash:=xw w
 inj:=λv a b l f=>by
  rcases zR l with⟨i,t,rfl,rfl⟩|⟨x,t,rfl,rfl⟩
  ·rcases zR f with⟨j,u,rfl,e⟩|⟨y,u,rfl,e⟩
   ·injection e with c _;rw[c]
   ·exact nomatch e
  ·rcases zR f with⟨j,u,rfl,e⟩|⟨y,u,rfl,e⟩
   ·exact nomatch e
   ·injection e with c _;rw[c]
 byValue:=λk v h=>by
  rcases zR h with⟨i,t,rfl,rfl⟩|⟨x,t,rfl,rfl⟩<;>rfl
 pyHash:=λd h=>by
  rcases zR d with⟨i,t,rfl,rfl⟩|⟨x,t,rfl,rfl⟩
  ·exact wpAny_pyHash_int h
  ·exact wpAny_pyHash_str h
 eqBool:=λg d h=>by
  rcases zR g with⟨i,t,rfl,rfl⟩|⟨x,t,rfl,rfl⟩
  ·rcases zR d with⟨j,u,rfl,rfl⟩|⟨y,u,rfl,rfl⟩
   ·rw[Oa] at h;exact sN h
   ·rw[Mc] at h;exact Dh i t y u _ _ _ _ h
  ·rcases zR d with⟨j,u,rfl,rfl⟩|⟨y,u,rfl,rfl⟩
   ·rw[MF] at h;exact Dg x t j u _ _ _ _ h
   ·rw[Of] at h;exact wpAny_eqBool_str h
 «strs»:=λk x t v h=>by
  rcases zR h with⟨i,u,rfl,e⟩|⟨y,u,rfl,e⟩
  ·exact nomatch e
  ·injection e with c _;subst c;cases v<;>rfl
theorem yy(prog:cF)(w:dJ)(i:Int)(t:Tok):(zE prog w).is (.inl i) (.int i t)=aB:=Yt i t
theorem yG(prog:cF)(w:dJ)(x:aG)(t:Tok):(zE prog w).is (.inr x) (.str x t)=aB:=Wm x t
end L2
namespace L2
open PySem PySem.Spec PyProof.Rows
set_option genInjectivity true in
inductive V where
 |non|bl (b:Bool)|int (i:Int)|str (x:aG)|byt (b:Array UInt8)|flt (b:UInt64)|ref (a:aF)|ty (n:String)
 deriving DecidableEq
noncomputable def RelV:V->aC->Prop
 |.non,u=>u=eY
 |.bl b,u=>u=mv b
 |.int i,u=>∃t,u=lN i t
 |.str x,u=>∃t,u=oF x t
 |.byt b,u=>∃t,u=Ce b t
 |.flt b,u=>∃t,u=Cb b t
 |.ref a,u=>u=cY a
 |.ty n,u=>u=oG n
abbrev aV:List V->List aC->Prop:=Paired RelV
theorem aV.length(r:aV xs us):xs.length=us.length:=Co r
theorem aV.get:∀{xs:List V}{us:List aC}{i:Nat}{x:V},aV xs us->xs[i]?=aA x->∃u,us[i]?=aA u/\RelV x u
 |_,_,_,_,.nil,e=>by simp at e
 |_,_,0,_,.cons r _,e=>by simp at e;subst e;exact⟨_,rfl,r⟩
 |_,_,i+1,x,.cons _ t,e=>by
  obtain⟨u,h1,h2⟩:=aV.get (i:=i) (x:=x) t (by simpa using e);exact⟨u,by simpa using h1,h2⟩
theorem aV.set(r:RelV x u):∀{xs:List V}{us:List aC}(i:Nat),aV xs us->aV (xs.set i x) (us.set i u)
 |_,_,_,.nil=>.nil
 |_,_,0,.cons _ t=>.cons r t
 |_,_,i+1,.cons q t=>.cons q (aV.set r i t)
theorem aV.append:∀{xs ys:List V}{us a:List aC},aV xs us->aV ys a->aV (xs++ys) (us++a)
 |_,_,_,_,.nil,s=>s
 |_,_,_,_,.cons r t,s=>.cons r (aV.append t s)
theorem aV.take:∀{xs:List V}{us:List aC}(n:Nat),aV xs us->aV (xs.take n) (us.take n)
 |_,_,0,_=>.nil
 |_,_,_+1,.nil=>.nil
 |_,_,n+1,.cons r t=>.cons r (aV.take n t)
theorem aV.drop:∀{xs:List V}{us:List aC}(n:Nat),aV xs us->aV (xs.drop n) (us.drop n)
 |_,_,0,r=>r
 |_,_,_+1,.nil=>.nil
 |_,_,n+1,.cons _ t=>aV.drop n t
noncomputable def c_:Option V->Option aC->Prop
 |some v,aA u=>RelV v u
 |none,aE=>True
 |_,_=>False
noncomputable def KV {a:Type}:List (a×V)->List (a×aC)->Prop:=Paired λ(p:a×V) (q:a×aC)=>p.1=q.1/\RelV p.2 q.2
noncomputable def kV:Key->V
 |.inl i=>.int i
 |.inr x=>.str x
inductive HO where
 |lst (xs:List V)
 |tup (xs:List V)
 |dK (kvs:List (Key×V))|dE (ep:Nat) (kvs:List (Key×V))
 |set (S:Int->Bool) (n:Nat)
 |ins (C dx:aF) (fs:List (aG×V))
 |own (x:aF)
 |xd (fs:List (aG×V))
 |met (f x:aF)
 |rng (lo hi:Int)
 |frz (o:bD) (u:HO)
 |tbl (ps:Array aC)
 |ext (φ:aT->Prop)
noncomputable abbrev Hp:=aF->Option HO
noncomputable def upd (H:Hp)(a:aF)(o:HO):Hp:=λb=>if b=a then aA o else H b
theorem z5:upd H a o a=aA o:=by unfold upd;rw[if_pos rfl]
theorem z9(h:b≠a):upd H a o b=H b:=by unfold upd;rw[if_neg h]
theorem zH{H:Hp}(h:H a=aA o)(h':H b=aE):a≠b:=by
 intro e;subst e;rw[h] at h';cases h'
section
variable (P:Program)(w:World)
noncomputable def bB(H:Hp)(h:aT)(a:aF):HO->Prop
 |.lst e=>e.length<=sizeLine/\∃(c:List aC) (n:Nat),aV e c/\h.get? a=aA {cls:=.type "list",data:=.seq c.toArray n}
 |.tup e=>e.length<=sizeLine/\∃c:List aC,aV e c/\hV h a c.toArray
 |.dK b=>b.length<=sizeLine/\(a==gz)=aD/\∃g,KV b g/\h.DictOf (zE P w) a g
 |.dE ep b=>b.length<=sizeLine/\(a==gz)=aD/\∃g,KV b g/\h.DictAt (zE P w) a g ep
 |.set S n=>h.SetOf (intKind P w) a S n
 |.ins C dx fs=>H dx=aA (.own a)/\fs.length<=1000/\dx≠a/\h.get? a=aA (lA C dx)/\
   ∃d,h.Ns1 dx d/\(∀f,c_ (fs.lookup f) (d f))/\sE d (fs.map (·.1))
 |.own _=>∃o,h.get? a=aA o
 |.xd fs=>∃d,h.Ns1 a d/\∀f,c_ (fs.lookup f) (d f)
 |.rng lo m=>∃t u v,h.get? a=aA {cls:=.type "range",data:=.fields #[.int lo t,.int m u,.int 1 v]}
 |.frz o u=>h.get? a=aA o/\bB H h a u
 |.tbl l=>h.get? a=aA {cls:=.none,data:=.fields l}
 |.met f x=>h.get? a=aA (sX (.ref f) (.ref x))
 |.ext i=>i h/\(∃o,h.get? a=aA o)/\∀k j:aT,i k->(∀o,k.get? a=aA o->j.get? a=aA o)->i j
noncomputable def dS (H:Hp)(h:aT):Prop:=∀a o,H a=aA o->bB P w H h a o
end
section
variable {P:Program}{w:World}{H H':Hp}{h h':aT}{a:aF}{o:HO}
theorem bB.lt(x:bB P w H h a o):a<h.objs.size:=by
 cases o with
 |lst xs=>obtain⟨_,_,_,_,e⟩:=x;exact cG e
 |tup xs=>obtain⟨_,_,_,p⟩:=x;exact p.lt
 |dK kvs=>obtain⟨_,_,_,_,o,_,_,e,_⟩:=x;exact cG e
 |dE ep kvs=>obtain⟨_,_,_,_,o,_,e,_⟩:=x;exact cG e
 |set S n=>obtain⟨o,_,_,_,e,_⟩:=x;exact cG e
 |ins C dx fs=>obtain⟨_,_,_,e,_⟩:=x;exact cG e
 |own y=>obtain⟨_,e⟩:=x;exact cG e
 |xd fs=>obtain⟨_,⟨_,_,_,e,_⟩,_⟩:=x;exact cG e
 |rng lo hi=>obtain⟨_,_,_,e⟩:=x;exact cG e
 |frz ob u=>obtain⟨e,_⟩:=x;exact cG e
 |tbl ps=>exact cG (show h.get? a=aA _ from x)
 |met f y=>exact cG (show h.get? a=aA _ from x)
 |ext φ=>obtain⟨_,⟨_,e⟩,_⟩:=x;exact cG e
theorem bB.stay(x:bB P w H h a o)(k:∀b u,(b=a\/H b=aA (.own a))->h.get? b=aA u->h'.get? b=aA u)
  (ho:∀b,H b=aA (.own a)->H' b=aA (.own a)) (l:∀b xs,H b=aA (.tup xs)->H' b=aA (.tup xs)):bB P w H' h' a o:=by
 induction o with
 |lst xs=>obtain⟨z,its,n,r,e⟩:=x;exact⟨z,its,n,r,k _ _ (.inl rfl) e⟩
 |tup xs=>obtain⟨z,its,r,ob,e,c⟩:=x;exact⟨z,its,r,ob,k _ _ (.inl rfl) e,c⟩
 |dK kvs=>obtain⟨z,y,vs,r,ob,es,ep,e,c⟩:=x;exact⟨z,y,vs,r,ob,es,ep,k _ _ (.inl rfl) e,c⟩
 |dE ep kvs=>obtain⟨z,y,vs,r,ob,es,e,c⟩:=x;exact⟨z,y,vs,r,ob,es,k _ _ (.inl rfl) e,c⟩
 |set S n=>obtain⟨ob,es,ep,t,e,c⟩:=x;exact⟨ob,es,ep,t,k _ _ (.inl rfl) e,c⟩
 |ins C dx fs=>
  obtain⟨d,z,ne,e,g,⟨od,es,ep,j,c⟩,r⟩:=x;exact⟨ho _ d,z,ne,k _ _ (.inl rfl) e,g,⟨od,es,ep,k _ _ (.inr d) j,c⟩,r⟩
 |own y=>obtain⟨ob,e⟩:=x;exact⟨ob,k _ _ (.inl rfl) e⟩
 |xd fs=>obtain⟨g,⟨od,es,ep,e,c⟩,r⟩:=x;exact⟨g,⟨od,es,ep,k _ _ (.inl rfl) e,c⟩,r⟩
 |rng lo hi=>obtain⟨t,u,v,e⟩:=x;exact⟨t,u,v,k _ _ (.inl rfl) e⟩
 |frz ob u i=>obtain⟨e,q⟩:=x;exact⟨k _ _ (.inl rfl) e,i q⟩
 |tbl ps=>
  have e:h.get? a=aA {cls:=.none,data:=.fields ps}:=x;show h'.get? a=aA {cls:=.none,data:=.fields ps};exact k a _ (.inl rfl) e
 |met f y=>
  have e:h.get? a=aA (sX (.ref f) (.ref y)):=x;show h'.get? a=aA (sX (.ref f) (.ref y));exact k a _ (.inl rfl) e
 |ext φ=>obtain⟨p,⟨o,e⟩,st⟩:=x;exact⟨st _ _ p λo q=>k _ _ (.inl rfl) q,⟨o,k _ _ (.inl rfl) e⟩,st⟩
theorem dS.lt(x:dS P w H h)(e:H a=aA o):a<h.objs.size:=(x a o e).lt
theorem dS.fresh(x:dS P w H h)(e:h.objs.size<=a):H a=aE:=by
 cases q:H a with
 |none=>rfl
 |some u=>exact absurd (dL (x.lt q) e) (iz _)
theorem dS.kept(x:dS P w H h)(k:∀b u,h.get? b=aA u->h'.get? b=aA u):dS P w H h':=λa o e=>
 (x a o e).stay (λb u _ q=>k b u q) (λ_ q=>q) λ_ _ q=>q
theorem dS.laid(x:dS P w H h)(k:∀b u,h.get? b=aA u->h'.get? b=aA u)(g:h.objs.size<=a)(new:bB P w (upd H a o) h' a o):dS P w (upd H a o) h':=λb u e=>by
 have d:=x.fresh g;by_cases f:b=a
 ·subst f;rw[z5] at e;cases e;exact new
 ·rw[z9 f] at e;exact (x b u e).stay (λc v _ q=>k c v q) (λc q=>by rw[z9 (zH q d)];exact q) λc xs q=>by rw[z9 (zH q d)];exact q
end
noncomputable def Rd (H:Hp)(a:aF)(u:HO):Prop:=H a=aA u\/∃o,H a=aA (.frz o u)
theorem Rd.ok{P:cF}(r:Rd H a u)(x:dS P w H h):bB P w H h a u:=by
 rcases r with r|⟨o,r⟩
 ·exact x a u r
 ·obtain⟨_,q⟩:=x a _ r;exact q
noncomputable def oj:Option HO->Prop
 |some (.lst _)=>True
 |some (.dK _)=>True
 |some (.dE _ _)=>True
 |some (.set _ _)=>True
 |some (.ins _ _ _)=>True
 |some (.ext _)=>True
 |_=>False
section
variable {P:Program}{w:World}{H:Hp}{h h':aT}{x e:aF}{o':HO}
theorem dS.write(ok:dS P w H h)(g:oj (H x))(he:e=x\/H e=aA (.own x))(k:∀b u,b≠e->h.get? b=aA u->h'.get? b=aA u)(l:∃u,h'.get? e=aA u)
  (new:bB P w (upd H x o') h' x o'):dS P w (upd H x o') h':=λb u q=>by
 have d:∀c y,H c=aA (.own y)->c≠x:=λc y r z=>by subst z;rw[r] at g;exact g
 have f:∀c xs,H c=aA (.tup xs)->c≠x:=λc xs r z=>by subst z;rw[r] at g;exact g
 by_cases j:b=x
 ·subst j;rw[z5] at q;cases q;exact new
 ·rw[z9 j] at q;by_cases a:b=e
  ·have m:H b=aA (.own x):=by
    rcases he with z|z
    ·exact absurd (a.trans z) j
    ·rw[a];exact z
   rw[q] at m;cases m;obtain⟨v,n⟩:=l;exact⟨v,by rw[a];exact n⟩
  ·refine (ok b u q).stay (λc v i r=>k c v ?_ r) (λc r=>by rw[z9 (d c b r)];exact r) λc xs r=>by rw[z9 (f c xs r)];exact r
   rcases i with rfl|i
   ·exact a
   ·rintro rfl;rcases he with z|z
    ·exact d c b i z
    ·rw[i] at z;cases z;exact j rfl
end
structure Un(fs ex:List aF)(H H':Hp)(h h':aT):Prop where
 keep:∀b o,h.get? b=aA o->H b=aE->b∉fs->b∉ex->h'.get? b=aA o
 slot:∀b o,h.get? b=aA o->H b=aE->b∈fs->b∉ex->∃sl,h'.get? b=aA {o with slots:=sl}
 free:∀b o,h.get? b=aA o->H b=aE->b∉ex->H' b=aE
 there:∀b o,h.get? b=aA o->b∉ex->∃o',h'.get? b=aA o'
 tups:∀b xs,H b=aA (.tup xs)->H' b=aA (.tup xs)
 frzs:∀b o u,H b=aA (.frz o u)->H' b=aA (.frz o u)
 tbls:∀b ps,H b=aA (.tbl ps)->∃more,H' b=aA (.tbl (ps++more))
section
variable {fs ex:List aF}{H H1:Hp}{h h1 h':aT}{a x e:aF}{o:HO}
theorem Un.any(u:Un fs ex H H1 h h1)(q:h.get? b=aA ob)(n:H b=aE)(a:b∉ex):∃d,h1.get? b=aA {ob with slots:=d}:=by
 by_cases c:b∈fs
 ·exact u.slot b ob q n c a
 ·exact⟨ob.slots,u.keep b ob q n c a⟩
theorem Un.kept(k:∀b u,h.get? b=aA u->h'.get? b=aA u):Un fs ex H H h h':=
 ⟨λb ob q _ _ _=>k b ob q,λb ob q _ _ _=>⟨ob.slots,k b ob q⟩,λ_ _ _ n _=>n,λb ob q _=>⟨ob,k b ob q⟩,λ_ _ q=>q,λ_ _ _ q=>q,λ_ ps q=>⟨#[],by rw[q];simp⟩⟩
theorem Un.refl:Un fs ex H H h h:=Un.kept λ_ _ q=>q
theorem Un.laid(k:∀b u,h.get? b=aA u->h'.get? b=aA u)(d:h.objs.size<=a)(c:H a=aE):Un fs ex H (upd H a o) h h' where
 keep:=λb u q _ _ _=>k b u q
 slot:=λb u q _ _ _=>⟨u.slots,k b u q⟩
 free:=λb u q n _=>by rw[z9 (d6 (dL (cG q) d))];exact n
 there:=λb u q _=>⟨u,k b u q⟩
 tups:=λb xs q=>by rw[z9 (zH q c)];exact q
 frzs:=λb u xs q=>by rw[z9 (zH q c)];exact q
 tbls:=λb ps q=>⟨#[],by rw[z9 (zH q c),q];simp⟩
theorem Un.write(c:oj (H x))(he:e=x\/H e=aA (.own x))(k:∀b u,b≠e->h.get? b=aA u->h'.get? b=aA u)(f:∃u,h'.get? e=aA u):Un fs ex H (upd H x o) h h':=by
 have g:∀b,H b=aE->b≠x:=λb n z=>by subst z;rw[n] at c;exact c
 have i:∀b,H b=aE->b≠e:=λb n z=>by
  subst z;rcases he with r|r
  ·exact g b n r
  ·rw[n] at r;cases r
 have d:∀b u,H b=aA u->¬oj (aA u)->b≠x:=λb u q nm z=>by subst z;rw[q] at c;exact nm c
 refine⟨λb u q n _ _=>k b u (i b n) q,λb u q n _ _=>⟨u.slots,k b u (i b n) q⟩,λb u q n _=>by rw[z9 (g b n)];exact n,λb u q _=>?_,
  λb xs q=>by rw[z9 (d b _ q λz=>z)];exact q,λb u xs q=>by rw[z9 (d b _ q λz=>z)];exact q,λb ps q=>⟨#[],by rw[z9 (d b _ q λz=>z),q];simp⟩⟩
 by_cases a:b=e
 ·subst a;exact f
 ·exact⟨u,k b u a q⟩
end
noncomputable def rh (h:aT)(H:Hp):List aF:=(eX h.objs.size).filter λa=>(H a).isSome
noncomputable def Q6 (h:aT)(H:Hp):aT:=PySem.W.hideAll h (rh h H)
theorem U0(h:aT)(H:Hp):(Q6 h H).objs.size=h.objs.size:=PySem.W.hideAll_size _ _
theorem UE(e:h.get? b=aA o)(n:H b=aE):(Q6 h H).get? b=aA o:=
 PySem.W.hideAll_get _ e λa=>by
  have q:(H b).isSome=aB:=(fA.mp a).2;rw[n] at q;simp at q
theorem OM(e:(Q6 h H).get? b=aA o):h.get? b=aA o/\H b=aE:=by
 have a:h.get? b=aA o:=PySem.W.of_hideAll (rh h H) e;refine⟨a,?_⟩;cases q:H b with
 |none=>rfl
 |some x=>
  have c:b∈rh h H:=fA.mpr ⟨lS.mpr (cG a),by simp[q]⟩;have z:(Q6 h H).get? b=aE:=PySem.W.hideAll_none (rh h H) c;rw[z] at e;cases e
noncomputable def P6(g h:aT)(L:aF):List (aF×bD):=(eX h.objs.size).filterMap λa=>if a=L\/(g.get? a).isSome=aB then aE else (h.get? a).map λo=>(a,o)
noncomputable def bX (g h:aT)(L d:aF):List (aF×bD):=(P6 g h L).filter λp=>decide (p.1≠d)
end L2
namespace L2
open PySem PySem.Spec PyProof.Rows
structure Mod(K:PySem.W.Frag)(mg:aG->Option aC)(base:aT):Prop where
 kin:K.In base
 glob:base.Ns bR mg
 blt:∃mb,base.Ns lh mb/\∀x:aG,x≠"__name__"->mb x=gB x
 nolimit:base.NoLimit
structure Cx where
 prog:cF
 w:dJ
 K:bM
 mg:aG->Option aC
 base:aT
 A:eM
 N:List aG
 s₀:a_
 H₀:Hp
 env:Env
 outer:List Env
 stack:List Env
 ex:List aF
 fn:aG->Bool
 calm:Bool
 pn:List (aF×bD)
 xe:aC->a_->Prop
noncomputable def fv(l:List Env):List aF:=l.filterMap (·.frame)
noncomputable abbrev Cx.fs(X:Cx):List aF:=fv X.outer
noncomputable def rC(sc:Scope)(x:aG):Prop:=sc.names.lookup x=aA .local\/sc.names.lookup x=aA .cell\/sc.names.lookup x=aA .free
noncomputable def Loc(sc:Scope)(x:aG):Prop:=sc.names.lookup x=aA .local\/sc.names.lookup x=aA .cell
noncomputable def Look(env:Env)(h:aT)(m:aG->Option aC)(x:aG)(u:aC):Prop:=
 (env.kindOf x=aA .local/\m x=aA u)\/((env.kindOf x=aA .cell\/env.kindOf x=aA .free)/\∃c,env.cells.lookup x=aA c/\h.IsCell c (aA u))
structure Cx.Ok(X:Cx):Prop where
 mod:Mod X.K X.mg X.base
 kind:X.env.scope.kind=.function
 glob:X.env.globals=bR
 blt:X.env.builtins=lh
 above:X.s₀.heap.objs.size<=X.env.locals
 inj:∀x y c,X.env.cells.lookup x=aA c->X.env.cells.lookup y=aA c->x=y
 has:∀x,(X.env.kindOf x=aA .cell\/X.env.kindOf x=aA .free)->∃c,X.env.cells.lookup x=aA c
 cab:∀x c,X.fn x=aB->X.env.cells.lookup x=aA c->X.s₀.heap.objs.size<=c
 hd:X.calm=aB->X.A.handled=aE
 frames:X.A.frames=aA X.stack
 stk:X.stack=X.outer\/(X.stack=X.env::X.outer/\X.env.frame=aA X.env.locals)
 exf:∀b∈X.ex,b≠X.env.locals/\∀x c,X.env.cells.lookup x=aA c->c≠b
 bs:∀b o,X.base.get? b=aA o->X.s₀.heap.get? b=aA o/\X.H₀ b=aE
 bsz:X.base.objs.size<=X.s₀.heap.objs.size
 noex:∀b o,X.base.get? b=aA o->b∉X.ex
 exfs:∀b∈X.ex,b∉X.fs
 funs:X.s₀.heap.FunFrames X.base X.outer
 frf:∀b∈X.fs,X.H₀ b=aE
structure Inv(X:Cx)(pins:List (aF×bD))(σ:List (Option V))(H:Hp)(s:Shared):Prop where
 ok:X.Ok
 os:s.os=X.s₀.os
 bare:iH s.gens
 base:Un X.fs X.ex X.H₀ H X.s₀.heap s.heap
 loc:∃m,s.heap.Ns X.env.locals m/\∀(i:Nat) (x:aG) (v:V),X.N[i]?=aA x->σ[i]?=aA (aA v)->rC X.env.scope x->∃u,RelV v u/\Look X.env s.heap m x u
 cell:∀x c,X.env.cells.lookup x=aA c->∃v,s.heap.IsCell c v
 free:H X.env.locals=aE
 freeC:∀x c,X.env.cells.lookup x=aA c->H c=aE\/(X.fn x=aD/\∃o u,H c=aA (.frz o u))
 pin:∀p∈X.pn++pins,s.heap.get? p.1=aA p.2/\H p.1=aE/\p.1≠X.env.locals/\p.1∉X.fs/\∀v,p.2.data≠.cell v
 hok:dS X.prog X.w H s.heap
 len:σ.length=X.N.length
section
variable {X:Cx}{pins:List (aF×bD)}{σ:List (Option V)}{H H':Hp}{s:Shared}{h':aT}
theorem Cx.Ok.nofr(ok:X.Ok)(e:X.base.get? b=aA o):b∉X.fs:=λa=>by
 have:=(ok.funs.mem a).1;rw[e] at this;cases this
theorem Inv.bs(I:Inv X pins σ H s):∀b o,X.base.get? b=aA o->s.heap.get? b=aA o/\H b=aE:=λb o e=>
 ⟨I.base.keep b o (I.ok.bs b o e).1 (I.ok.bs b o e).2 (I.ok.nofr e) (I.ok.noex b o e),I.base.free b o (I.ok.bs b o e).1 (I.ok.bs b o e).2 (I.ok.noex b o e)⟩
theorem Inv.bk(I:Inv X pins σ H s):∀b o,X.base.get? b=aA o->s.heap.get? b=aA o:=λb o e=>(I.bs b o e).1
theorem Inv.mod(I:Inv X pins σ H s):Mod X.K X.mg X.base:=I.ok.mod
theorem Inv.kIn(I:Inv X pins σ H s):X.K.In s.heap:=I.ok.mod.kin.keeps I.bk
theorem Inv.lt(I:Inv X pins σ H s):X.env.locals<s.heap.objs.size:=let ⟨_,a,_⟩:=I.loc;a.lt
theorem Inv.sz(I:Inv X pins σ H s):X.s₀.heap.objs.size<=s.heap.objs.size:=cT I.ok.above (nh I.lt)
theorem Inv.nofs(I:Inv X pins σ H s){a:aF}(h:s.heap.objs.size<=a):a∉X.fs:=λb=>by
 obtain⟨_,o,ho,_⟩:=I.ok.funs.mem b;exact absurd (dL (cG ho) (cT I.sz h)) (iz _)
theorem Inv.cne(I:Inv X pins σ H s):∀x c,X.env.cells.lookup x=aA c->c≠X.env.locals:=λx c e z=>by
 obtain⟨v,o,ho,hd⟩:=I.cell x c e;obtain⟨m,⟨d,es,ep,a,b,_⟩,_⟩:=I.loc;rw[z,a] at ho;cases ho;rw[b] at hd;cases hd
theorem Inv.funs(I:Inv X pins σ H s):s.heap.FunFrames X.base X.outer:=by
 have all:∀(l:List Env),(∀b∈fv l,b∈X.fs)->X.s₀.heap.FunFrames X.base l->s.heap.FunFrames X.base l:=by
  intro l;induction l with
  |nil=>intro _ _;trivial
  |cons env r f=>
   intro hs i;obtain⟨hk,⟨L,o,a,h,ho,hd⟩,g⟩:=i;have d:L∈X.fs:=hs L (by unfold fv;rw[ny,a];exact eG);obtain⟨j,e⟩:=I.base.slot L o ho (I.ok.frf L d) d λz=>I.ok.exfs L z d;exact⟨hk,⟨L,_,a,h,e,hd⟩,f (λb c=>hs b (by unfold fv;rw[ny,a];exact dN _ c)) g⟩
 exact all X.outer (λ_ c=>c) I.ok.funs
theorem Inv.stack(I:Inv X pins σ H s):s.heap.FunFrames X.base X.stack:=by
 rcases I.ok.stk with e|⟨e,b⟩
 ·rw[e];exact I.funs
 ·rw[e];obtain⟨m,a,_⟩:=I.loc;refine .cons (by rw[I.ok.kind];decide) b a ?_ I.funs;exact lp (cT I.ok.bsz I.ok.above)
theorem Inv.stkSub(I:Inv X pins σ H s):∀b∈fv X.stack,b∈X.env.locals::X.fs:=λb a=>by
 rcases I.ok.stk with e|⟨e,c⟩
 ·rw[e] at a;exact dN _ a
 ·rw[e] at a;unfold fv at a;rw[ny,c] at a;exact a
theorem Inv.stkFree(I:Inv X pins σ H s):∀b∈fv X.stack,H b=aE:=λb a=>by
 rcases cO.mp (I.stkSub b a) with e|a
 ·rw[e];exact I.free
 ·obtain⟨_,o,ho,_⟩:=I.ok.funs.mem a;exact I.base.free b o ho (I.ok.frf b a) λz=>I.ok.exfs b z a
theorem Inv.step{ch:List aF}(I:Inv X pins σ H s)
  (h:∀b∈ch,(b∈X.ex\/X.s₀.heap.objs.size<=b)/\b≠X.env.locals/\(∀x c,X.env.cells.lookup x=aA c->c≠b)/\∀p∈X.pn++pins,p.1≠b)
  (keep:∀b o,b≠X.env.locals->b∉X.fs->b∉ch->s.heap.get? b=aA o->H b=aE->h'.get? b=aA o)
  (slot:∀b o,b≠X.env.locals->b∈X.fs->b∉ch->s.heap.get? b=aA o->H b=aE->∃G,h'.get? b=aA {o with slots:=G}) (free:∀b o,b∉ch->s.heap.get? b=aA o->H b=aE->H' b=aE)
  (there:∀b o,b∉ch->s.heap.get? b=aA o->∃B,h'.get? b=aA B)
  (tups:∀b xs,H b=aA (.tup xs)->H' b=aA (.tup xs)) (frzs:∀b o u,H b=aA (.frz o u)->H' b=aA (.frz o u)) (tbls:∀b ps,H b=aA (.tbl ps)->∃more,H' b=aA (.tbl (ps++more)))
  (ns:∀m,s.heap.Ns X.env.locals m->h'.Ns X.env.locals m) (hok:dS X.prog X.w H' h') (N:iH g') :
  Inv X pins σ H' {s with heap:=h',gens:=g',drawn:=d',toks:=t'}:=by
 have C:∀b o,X.s₀.heap.get? b=aA o->b≠X.env.locals:=λb o e=>d6 (dL (cG e) I.ok.above);have t:∀b o,X.s₀.heap.get? b=aA o->b∉X.ex->b∉ch:=λb o e a A=>by
  rcases (h b A).1 with z|z
  ·exact a z
  ·exact absurd (dL (cG e) z) (iz _)
 have j:∀x c,X.env.cells.lookup x=aA c->∀v,s.heap.IsCell c v->h'.IsCell c v:=λx c e v ⟨o,ho,hd⟩=>by
  have g:c∉ch:=λz=>(h c z).2.2.1 x c e rfl;rcases I.freeC x c e with f|⟨_,ob,u,f⟩
  ·by_cases K:c∈X.fs
   ·obtain⟨G,q⟩:=slot c o (I.cne x c e) K g ho f;exact⟨_,q,hd⟩
   ·exact⟨o,keep c o (I.cne x c e) K g ho f,hd⟩
  ·have h1:=(I.hok c _ f).1;rw[ho] at h1;cases h1;exact⟨o,(hok c _ (frzs c _ u f)).1,hd⟩
 refine⟨I.ok,I.os,N,⟨λb o e n A a=>?_,λb o e n A a=>?_,λb o e n a=>?_,λb o e a=>?_,λb xs e=>tups b xs (I.base.tups b xs e),λb o xs e=>frzs b o xs (I.base.frzs b o xs e),λb ps e=>?_⟩,?_,λx c e=>?_,?_,λx c e=>?_,λp J=>?_,hok,I.len⟩
 ·exact keep b o (C b o e) A (t b o e a) (I.base.keep b o e n A a) (I.base.free b o e n a)
 ·obtain⟨G,y⟩:=I.base.slot b o e n A a;obtain⟨E,D⟩:=slot b _ (C b o e) A (t b o e a) y (I.base.free b o e n a);exact⟨E,D⟩
 ·obtain⟨B,y⟩:=I.base.there b o e a;exact free b B (t b o e a) y (I.base.free b o e n a)
 ·obtain⟨B,y⟩:=I.base.there b o e a;exact there b B (t b o e a) y
 ·obtain⟨m1,y⟩:=I.base.tbls b ps e;obtain⟨m2,D⟩:=tbls b _ y;exact⟨m1++m2,by rw[D,Array.append_assoc]⟩
 ·obtain⟨m,L,M⟩:=I.loc;refine⟨m,ns m L,λi x v y D O=>?_⟩;obtain⟨u,r,l⟩:=M i x v y D O;refine⟨u,r,?_⟩;rcases l with l|⟨k,c,e,z⟩
  ·exact .inl l
  ·exact .inr ⟨k,c,e,j x c e _ z⟩
 ·obtain⟨v,z⟩:=I.cell x c e;exact⟨v,j x c e v z⟩
 ·obtain⟨m,⟨o,_,_,ho,_⟩,_⟩:=I.loc;exact free _ o (λz=>(h _ z).2.1 rfl) ho I.free
 ·obtain⟨v,o,ho,hd⟩:=I.cell x c e;exact (I.freeC x c e).imp (free c o (λz=>(h c z).2.2.1 x c e rfl) ho) λ⟨n,ob,u,f⟩=>⟨n,ob,u,frzs c ob u f⟩
 ·obtain⟨e,n,ne,F,d⟩:=I.pin p J;have g:p.1∉ch:=λz=>(h p.1 z).2.2.2 p J rfl;exact⟨keep p.1 p.2 ne F g e n,free p.1 p.2 g e n,ne,F,d⟩
theorem Inv.un(I:Inv X pins σ H s)(u:Un X.fs [] H H' s.heap h')(hok:dS X.prog X.w H' h'):Inv X pins σ H' {s with heap:=h',toks:=t'}:=by
 obtain⟨m,⟨o,es,ep,ho,r⟩,_⟩:=id I.loc;obtain⟨j,i⟩:=u.any ho I.free (by simp);exact I.step (g':=s.gens) (d':=s.drawn) (ch:=[]) (λ_ z=>nomatch z) (λb o _ c _ e n=>u.keep b o e n c (by simp)) (λb o _ c _ e n=>u.slot b o e n c (by simp)) (λb o _ e n=>u.free b o e n (by simp)) (λb o _ e=>u.there b o e (by simp)) u.tups u.frzs u.tbls (λm' h=>by
  obtain⟨k,d,f,a,g⟩:=h;rw[ho] at a;cases a;exact⟨_,d,f,i,g⟩) hok I.bare
theorem Inv.call{ch:List aF}(I:Inv X pins σ H s)(u:Un (fv X.stack) ch H H' s.heap h')(hok:dS X.prog X.w H' h')(l:iH g')
  (f:∀b∈ch,(b∈X.ex\/X.s₀.heap.objs.size<=b)/\b≠X.env.locals/\(∀x c,X.env.cells.lookup x=aA c->c≠b)/\∀p∈X.pn++pins,p.1≠b) :
  Inv X pins σ H' {s with heap:=h',gens:=g',drawn:=d',toks:=t'}:=by
 obtain⟨m,⟨o,es,ep,ho,r⟩,_⟩:=id I.loc;obtain⟨t,g⟩:=u.any ho I.free λz=>(f _ z).2.1 rfl;exact I.step (ch:=ch) f (λb o g q a e n=>u.keep b o e n (λz=>(cO.mp (I.stkSub b z)).elim g q) a) (λb o _ _ a e n=>u.any e n a) (λb o a e n=>u.free b o e n a) (λb o a e=>u.there b o e a) u.tups u.frzs u.tbls (λm' k=>by
  obtain⟨v,h,i,d,j⟩:=k;rw[ho] at d;cases d;exact⟨_,h,i,g,j⟩) hok l
theorem Inv.turned{t':Nat}(I:Inv X pins σ H s)(k:∀b o,b≠it->s.heap.get? b=aA o->h'.get? b=aA o)(g:H it=aE)(f:it≠X.env.locals)
  (h1:it∈X.ex\/X.s₀.heap.objs.size<=it) (h2:∀x c,X.env.cells.lookup x=aA c->c≠it) (j:∀p∈X.pn++pins,p.1≠it):Inv X pins σ H {s with heap:=h',toks:=t'}:=by
 have d:∀b u,H b=aA u->b≠it:=λb u e z=>by rw[z,g] at e;cases e
 refine I.step (g':=s.gens) (d':=s.drawn) (ch:=[it]) (λb i=>?_) (λb o _ _ a e _=>k b o (λz=>a (by simp[z])) e) (λb o _ _ a e _=>⟨o.slots,k b o (λz=>a (by simp[z])) e⟩) (λ_ _ _ _ n=>n)
  (λb o a e=>⟨o,k b o (λz=>a (by simp[z])) e⟩) (λ_ _ e=>e) (λ_ _ _ e=>e) (λb ps e=>⟨#[],by rw[e];simp⟩) (λm h=>?_) (λb u e=>?_) I.bare
 ·have e:b=it:=by simpa using i
  subst e;exact⟨h1,f,h2,j⟩
 ·obtain⟨o,es,ep,ho,r⟩:=h;exact⟨o,es,ep,k _ o (cX f) ho,r⟩
 ·refine (I.hok b u e).stay (λc v a q=>k c v ?_ q) (λ_ q=>q) λ_ _ q=>q;rcases a with z|z
  ·rw[z];exact d b u e
  ·exact d c _ z
theorem Inv.tok(I:Inv X pins σ H s)(t:Nat):Inv X pins σ H {s with toks:=t}:=I.un (h':=s.heap) (t':=t) Un.refl I.hok
theorem Inv.kept(I:Inv X pins σ H s)(k:∀b u,s.heap.get? b=aA u->h'.get? b=aA u):Inv X pins σ H {s with heap:=h',toks:=t'}:=I.un (Un.kept k) (I.hok.kept k)
theorem Inv.laid{a:aF}(I:Inv X pins σ H s)(k:∀b u,s.heap.get? b=aA u->h'.get? b=aA u)(c:s.heap.objs.size<=a)(new:bB X.prog X.w (upd H a o) h' a o) :
  Inv X pins σ (upd H a o) {s with heap:=h',toks:=t'}:=I.un (Un.laid k c (I.hok.fresh c)) (I.hok.laid k c new)
theorem Inv.write(I:Inv X pins σ H s)(c:oj (H x))(he:e=x\/H e=aA (.own x))(k:∀b u,b≠e->s.heap.get? b=aA u->h'.get? b=aA u)(a:∃u,h'.get? e=aA u)
  (new:bB X.prog X.w (upd H x o) h' x o):Inv X pins σ (upd H x o) {s with heap:=h',toks:=t'}:=I.un (Un.write c he k a) (I.hok.write c he k a new)
theorem Inv.pins_of(I:Inv X pins σ H s)(h:∀p∈d,s.heap.get? p.1=aA p.2/\H p.1=aE/\p.1≠X.env.locals/\p.1∉X.fs/\∀v,p.2.data≠.cell v):Inv X d σ H s:=
 ⟨I.ok,I.os,I.bare,I.base,I.loc,I.cell,I.free,I.freeC,λp a=>(cA.mp a).elim (λz=>I.pin p (dM _ z)) (h p),I.hok,I.len⟩
theorem vG{N:List aG}(hN:N.Nodup){i:Nat}(a:N[i]?=aA x)(b:N[j]?=aA x):i=j:=by
 obtain⟨f,d⟩:=bQ.mp a;obtain⟨e,c⟩:=bQ.mp b;exact (oY hN).mp (d.trans c.symm)
theorem Ud{E:aC->a_->Prop}{i:Nat}{x:aG}{v:V}{u:aC}(I:Inv X pins σ H s)(hN:X.N.Nodup)(hi:X.N[i]?=aA x)(B:Loc X.env.scope x)(r:RelV v u)
  (h:∀s',Inv X pins (σ.set i (aA v)) H s'->(∃a,f9 a s.heap s'.heap/\(a=X.env.locals\/X.env.cells.lookup x=aA a))->Q () s') (hf:X.fn x=aB\/X.env.scope.names.lookup x=aA .local:=by first|exact .inl rfl|exact .inr rfl|assumption):wpAny M A (storeName X.env x u) Q E s:=by
 obtain⟨m,hn,hl⟩:=id I.loc;have S:(X.env.scope.kind==.class || (X.env.scope.kind==.module&&X.env.locals != X.env.globals))=aD:=by rw[I.ok.kind];rfl
 have J:i<σ.length:=by rw[I.len];exact (bQ.mp hi).1
 have cne:=I.cne;have g:∀{a:aF}{O:aT},(∃o,s.heap.get? a=aA o/\H a=aE)->f9 a s.heap O->dS X.prog X.w H O:=λ{a O} ha f b ob e=>by
  obtain⟨_,_,C⟩:=ha;refine (I.hok b ob e).stay (λc W t q=>(f.2 c ?_).trans q) (λ_ q=>q) λ_ _ q=>q;rintro rfl;rcases t with rfl|t
  ·rw[C] at e;cases e
  ·rw[C] at t;cases t
 rcases B with G|G
 ·refine wpAny_storeName_local G hn (λO hn' f=>?_) S;obtain⟨oL,_,_,hoL,_⟩:=id hn;refine h _ ⟨I.ok,I.os,I.bare,⟨λb o e n L B=>?_,λb o e n L B=>?_,I.base.free,λb o e B=>?_,I.base.tups,I.base.frzs,I.base.tbls⟩,⟨_,hn',λj y v' l F e3=>?_⟩,λy c e=>?_,I.free,I.freeC,λp hp=>?_,g ⟨oL,hoL,I.free⟩ f,by simpa using I.len⟩ ⟨_,f,.inl rfl⟩
  ·exact (f.2 b (d6 (dL (cG e) I.ok.above))).trans (I.base.keep b o e n L B)
  ·obtain⟨sl,l⟩:=I.base.slot b o e n L B;exact⟨sl,(f.2 b (d6 (dL (cG e) I.ok.above))).trans l⟩
  ·obtain⟨o',l⟩:=I.base.there b o e B;exact⟨o',(f.2 b (d6 (dL (cG e) I.ok.above))).trans l⟩
  ·by_cases K:j=i
   ·subst K;rw[hi] at l;cases l;rw[nG J] at F;cases F;exact⟨u,r,.inl ⟨G,by simp⟩⟩
   ·rw[cS (cX K)] at F;obtain⟨u',r',q⟩:=hl j y v' l F e3;refine⟨u',r',?_⟩;rcases q with⟨k,e⟩|⟨k,c,e,z⟩
    ·refine .inl ⟨k,?_⟩;have:y≠x:=λe=>K (vG hN l (e▸hi));simp[this,e]
    ·exact .inr ⟨k,c,e,z.sameBut f (cne y c e)⟩
  ·obtain⟨W,z⟩:=I.cell y c e;exact⟨W,z.sameBut f (cne y c e)⟩
  ·obtain⟨e,n,Y,nf,d⟩:=I.pin p hp;exact⟨(f.2 p.1 Y).trans e,n,Y,nf,d⟩
 ·have D:X.fn x=aB:=by
   rcases hf with z|z
   ·exact z
   ·rw[z] at G;cases G
  obtain⟨c,t⟩:=I.ok.has x (.inl G);obtain⟨W,z⟩:=I.cell x c t;refine wpAny_storeName_cell I.ok.kind G t z (λO U f=>?_);obtain⟨oc,R,P⟩:=id z;refine h {s with heap:=O} ⟨I.ok,I.os,I.bare,⟨λb o e n L B=>?_,λb o e n L B=>?_,I.base.free,λb o e B=>?_,I.base.tups,I.base.frzs,I.base.tbls⟩,⟨m,hn.sameBut f (cX (cne x c t)),λj y v' l F e3=>?_⟩,λy Z e=>?_,I.free,I.freeC,λp hp=>?_,g ⟨oc,R,(I.freeC x c t).resolve_right λz=>by rw[D] at z;cases z.1⟩ f,by simpa using I.len⟩ ⟨c,f,.inr t⟩
  ·exact (f.2 b (d6 (dL (cG e) (I.ok.cab x c D t)))).trans (I.base.keep b o e n L B)
  ·obtain⟨sl,l⟩:=I.base.slot b o e n L B;exact⟨sl,(f.2 b (d6 (dL (cG e) (I.ok.cab x c D t)))).trans l⟩
  ·obtain⟨o',l⟩:=I.base.there b o e B;exact⟨o',(f.2 b (d6 (dL (cG e) (I.ok.cab x c D t)))).trans l⟩
  ·by_cases K:j=i
   ·subst K;rw[hi] at l;cases l;rw[nG J] at F;cases F;exact⟨u,r,.inr ⟨.inl G,c,t,U⟩⟩
   ·rw[cS (cX K)] at F;obtain⟨u',r',q⟩:=hl j y v' l F e3;refine⟨u',r',?_⟩;rcases q with q|⟨k,Z,e,z'⟩
    ·exact .inl q
    ·refine .inr ⟨k,Z,e,z'.sameBut f ?_⟩;rintro rfl;exact K (vG hN l (I.ok.inj _ _ _ e t▸hi))
  ·by_cases T:Z=c
   ·subst T;exact⟨_,U⟩
   ·obtain⟨w2,z2⟩:=I.cell y Z e;exact⟨w2,z2.sameBut f T⟩
  ·obtain⟨e,n,Y,nf,d⟩:=I.pin p hp;refine⟨(f.2 p.1 ?_).trans e,n,Y,nf,d⟩;intro q;rw[q,R] at e;have q':oc=p.2:=bU e;exact d W (by rw[←q'];exact P)
theorem Ja{i:Nat}{x:aG}{v:V}(I:Inv X pins σ H s)(hN:X.N.Nodup)(hi:X.N[i]?=aA x)(a:Loc X.env.scope x)(r:RelV v u)
  (h:∀d,Inv X pins (σ.set i (aA v)) H d->Q () d) (b:X.fn x=aB\/X.env.scope.names.lookup x=aA .local:=by first|exact .inl rfl|exact .inr rfl|assumption):wpAny M A (storeName X.env x u) Q E s:=
 Ud I hN hi a r (λd c _=>h d c) b
theorem Inv.call'(I:Inv X pins σ H s)(ho:d.os=s.os)(u:Un (fv X.stack) ch H H' s.heap d.heap)(hok:dS X.prog X.w H' d.heap)(g:iH d.gens)
  (a:∀b∈ch,(b∈X.ex\/X.s₀.heap.objs.size<=b)/\b≠X.env.locals/\(∀x c,X.env.cells.lookup x=aA c->c≠b)/\∀p∈X.pn++pins,p.1≠b):Inv X pins σ H' d:=by
 obtain⟨h',g',d',t',f⟩:=d;have e:f=s.os:=ho;subst e;exact I.call (g':=g') (t':=t') (d':=d') u hok g a
end
noncomputable abbrev XK:=aC->Option aF->Hp->Prop
noncomputable abbrev St:=List (Option V)
noncomputable abbrev VK:=V->Hp->Prop
noncomputable abbrev TE:=St->Hp->VK->Prop
noncomputable abbrev TT:=St->Hp->(Bool->Hp->Prop)->Prop
noncomputable abbrev TA:=St->Hp->(List V->Hp->Prop)->Prop
structure Ends where
 nx:St->Hp->Prop
 rt:VK
 bk:St->Hp->Prop:=λ_ _=>False
 ct:St->Hp->Prop:=λ_ _=>False
noncomputable abbrev TS:=Ends->St->Hp->Prop
inductive EP(X:Cx)(pins:List (aF×bD))(σ:St)(Q:VK)(u:aC)(s':Shared):Prop where
 |mk (v:V) (H':Hp) (i:Inv X pins σ H' s') (r:RelV v u) (q:Q v H')
inductive TP(X:Cx)(pins:List (aF×bD))(σ:St)(Q:Bool->Hp->Prop)(b:Bool)(s':Shared):Prop where
 |mk (H':Hp) (i:Inv X pins σ H' s') (q:Q b H')
inductive AP(X:Cx)(pins:List (aF×bD))(σ:St)(Q:List V->Hp->Prop)(us:List aC)(s':Shared):Prop where
 |mk (vs:List V) (H':Hp) (i:Inv X pins σ H' s') (r:aV vs us) (q:Q vs H')
noncomputable def SP (X:Cx)(b:List (aF×bD))(D:Ends)(f:Flow)(d:a_):Prop:=
 match f with
 |.next=>∃a c,Inv X b a c d/\D.nx a c
 |.brk=>∃a c,Inv X b a c d/\D.bk a c
 |.cont=>∃a c,Inv X b a c d/\D.ct a c
 |.ret u=>∃v a c,Inv X b a c d/\RelV v u/\D.rt v c
noncomputable def PE (X:Cx)(e:aI)(t:TE):Prop:=
 ∀(a:List (aF×bD)) (s:a_) (b:St) (H:Hp) (Q:VK),Inv X a b H s->t b H Q->wpAny (aQ X.prog X.w) X.A (eval e X.env) (EP X a b Q) X.xe s
noncomputable def PT (X:Cx)(e:aI)(t:TT):Prop:=
 ∀(a:List (aF×bD)) (s:a_) (b:St) (H:Hp) (Q:Bool->Hp->Prop),Inv X a b H s->t b H Q->wpAny (aQ X.prog X.w) X.A (isTrue e X.env (eval e X.env)) (TP X a b Q) X.xe s
noncomputable def PW (X:Cx)(e:aI)(t:TT):Prop:=
 ∀(b:Sem aC) (a:List (aF×bD)) (s:a_) (c:St) (H:Hp) (Q:Bool->Hp->Prop),Inv X a c H s->t c H Q->wpAny (aQ X.prog X.w) X.A (isTrue e X.env b) (TP X a c Q) X.xe s
theorem PW.pt{X:Cx}(h:PW X e t):PT X e t:=h _
noncomputable def PA (X:Cx)(es:List aI)(t:TA):Prop:=
 ∀(c:Pos) (a:List (aF×bD)) (s:a_) (b:St) (H:Hp) (Q:List V->Hp->Prop),Inv X a b H s->t b H Q->wpAny (aQ X.prog X.w) X.A (spliced (fL c (d_ es X.env))) (AP X a b Q) X.xe s
noncomputable def PS (X:Cx)(st:bG)(t:TS):Prop:=
 ∀(a:List (aF×bD)) (s:a_) (b:St) (H:Hp) (D:Ends),Inv X a b H s->t D b H->wpAny (aQ X.prog X.w) X.A (exec st X.env) (SP X a D) X.xe s
noncomputable def gP (X:Cx)(st:List bG)(t:TS):Prop:=
 ∀(a:List (aF×bD)) (s:a_) (b:St) (H:Hp) (D:Ends),Inv X a b H s->t D b H->wpAny (aQ X.prog X.w) X.A (execs st X.env) (SP X a D) X.xe s
theorem aY{α:Type}{t:Sem α}{Q Q':α->a_->Prop}(h:wpAny M A t Q E s)(b:∀a s,Q a s->Q' a s):wpAny M A t Q' E s:=eI h b λ_ _ x=>x
end L2
namespace L2
open PySem PySem.Spec PyProof.Rows
section
variable {X:Cx}
noncomputable def Ll (i:Nat):TE:=λa H Q=>∃v,a[i]?=aA (aA v)/\Q v H
noncomputable def tC (v:V):TE:=λ_ H Q=>Q v H
theorem Na {pos:Pos}(hN:X.N[i]?=aA x) (k:rC X.env.scope x) (hd:(x==("__debug__":aG))=aD:=by decide) (f:(x==("__classdict__":aG))=aD:=by decide):PE X (.Name x pos) (Ll i):=by
 intro d s j H Q I h;obtain⟨v,e,h⟩:=h;obtain⟨m,n,p⟩:=I.loc;obtain⟨u,r,l⟩:=p i x v hN e k;have fin:EP X d j Q u s:=⟨v,H,I,r,h⟩;rcases l with⟨b,o⟩|⟨b,c,g,a⟩
 ·exact rZ (wpAny_loadName_local I.ok.kind b n o fin) hd
 ·rcases b with b|b
  ·exact rZ (wpAny_loadName_cell I.ok.kind b g a fin) hd
  ·exact rZ (wpAny_loadName_free I.ok.kind b g a fin f) hd
theorem Ov{i j pos}:PE X (.Constant (.int i) j pos) (tC (.int i)):=λ_ _ _ H _ I h=>wpAny_Constant_int ⟨.int i,H,I.tok _,⟨_,rfl⟩,h⟩
theorem II{b j pos}:PE X (.Constant (.bool b) j pos) (tC (.bl b)):=λ_ _ _ H _ I h=>Constant_bool ⟨.bl b,H,I,rfl,h⟩
theorem Mz{j pos}:PE X (.Constant .none j pos) (tC .non):=λ_ _ _ H _ I h=>Constant_none ⟨.non,H,I,rfl,h⟩
theorem Nc{x j pos}:PE X (.Constant (.str x) j pos) (tC (.str x)):=λ_ _ _ H _ I h=>Calls.Constant_str ⟨.str x,H,I.tok _,⟨_,rfl⟩,h⟩
noncomputable def Gl(X:Cx)(x:aG):Prop:=X.env.kindOf x=aA .globalImplicit
theorem vT{a:St}{H:Hp}{x:aG}{pos:Pos}(I:Inv X d a H s)(c:Gl X x)(b:X.mg x=aA u)(h:Q u s)
  (hd:(x==("__debug__":aG))=aD:=by decide):wpAny (aQ X.prog X.w) X.A (eval (.Name x pos) X.env) Q E s:=
 Ej I.ok.kind c (Calls.loadGlobal_global (by rw[I.ok.glob];exact I.mod.glob.keeps I.bk) b h) hd
theorem qR{E:aC->a_->Prop}{a:St}{H:Hp}{x:aG}{pos:Pos}(I:Inv X d a H s)(f:Gl X x)(e:X.mg x=aE)(b:gB x=aA u)(h:Q u s)
  (c:x≠"__name__":=by decide) (hd:(x==("__debug__":aG))=aD:=by decide):wpAny (aQ X.prog X.w) X.A (eval (.Name x pos) X.env) Q E s:=by
 obtain⟨j,i,g⟩:=I.mod.blt;exact Ej I.ok.kind f (Calls.loadGlobal_builtin (by rw[I.ok.glob];exact I.mod.glob.keeps I.bk) e (by rw[I.ok.blt];exact i.keeps I.bk) ((g x c).trans b) h) hd
theorem Yj (b:Gl X x) (a:X.mg x=aA u) (r:RelV v u) (hd:(x==("__debug__":aG))=aD:=by decide):PE X (.Name x pos) (tC v):=
 λ_ _ _ H _ I h=>vT I b a ⟨v,H,I,r,h⟩ hd
theorem Rw {pos:Pos}(d:Gl X x) (c:X.mg x=aE) (a:gB x=aA u) (r:RelV v u) (b:x≠"__name__":=by decide) (hd:(x==("__debug__":aG))=aD:=by decide):PE X (.Name x pos) (tC v):=
 λ_ _ _ H _ I h=>qR I d c a ⟨v,H,I,r,h⟩ b hd
variable {a b:aI}{pos:Pos}
variable {tA tB':TT}{bX:List aI}
noncomputable def xA (t u:TT):TT:=λa H Q=>t a H λc b=>if c=aB then u a b Q else Q aD b
noncomputable def fx (t u:TT):TT:=λa H Q=>t a H λc b=>if c=aB then Q aB b else u a b Q
noncomputable def qc (t:TT):TT:=λa H Q=>t a H λc b=>Q (!c) b
theorem PH(f:PT X a tA):PW X (.BoolOp .And [a] pos) tA:=by
 intro g b s d H Q I h;refine isTrue_and (aY (f b s d H Q I h) λc i e=>?_);cases c with
 |true=>exact isTrue_and_nil e
 |false=>exact e
theorem NI(f:PT X a tA):PW X (.BoolOp .Or [a] pos) tA:=by
 intro g b s d H Q I h;refine isTrue_or (aY (f b s d H Q I h) λc i e=>?_);cases c with
 |false=>exact isTrue_or_nil e
 |true=>exact e
theorem M2(m:PT X a tA)(l:PW X (.BoolOp .And (b::bX) pos) tB'):PW X (.BoolOp .And (a::b::bX) pos) (xA tA tB'):=by
 intro j d s e H Q I h;refine isTrue_and (aY (m d s e H _ I h) λc k ⟨i,g,f⟩=>?_);cases c with
 |true=>exact l j d k e i Q g f
 |false=>exact⟨i,g,f⟩
theorem LD(m:PT X a tA)(l:PW X (.BoolOp .Or (b::bX) pos) tB'):PW X (.BoolOp .Or (a::b::bX) pos) (fx tA tB'):=by
 intro j d s e H Q I h;refine isTrue_or (aY (m d s e H _ I h) λc k ⟨i,g,f⟩=>?_);cases c with
 |true=>exact⟨i,g,f⟩
 |false=>exact l j d k e i Q g f
theorem NG(e:PT X a tA):PT X (.UnaryOp .Not a pos) (qc tA):=by
 intro b s d H Q I h;exact isTrue_not (aY (e b s d H (λc f=>Q (!c) f) I h) λc j ⟨g,i,q⟩=>⟨g,i,q⟩)
theorem ML{op}(h:PE X a t):PE X (.BoolOp op [a] pos) t:=λb s c H Q I hw=>BoolOp_one (h b s c H Q I hw)
end
end L2
namespace L2
open PySem PySem.Spec PyProof.Rows
noncomputable def gO (K:bM)(H:Hp)(a:aF)(xs:List V):Prop:=
 Rd H a (.lst xs)\/
  ∃(o:bD) (b:Array aC) (n:Nat),K.lookup a=aA o/\o.cls=.type "list"/\o.dict=aE/\o.data=.seq b n/\b.size<=sizeLine/\aV xs b.toList
noncomputable def fO (K:bM)(H:Hp)(a:aF)(xs:List V):Prop:=
 Rd H a (.tup xs)\/
  ∃(o:bD) (b:Array aC) (n:Nat),K.lookup a=aA o/\o.cls=.type "tuple"/\o.data=.seq b n/\b.size<=sizeLine/\aV xs b.toList
noncomputable def IC:aC->Option V
 |.none=>aA .non
 |.bool b=>aA (.bl b)
 |.int i _=>aA (.int i)
 |.str x _=>aA (.str x)
 |.bytes b _=>aA (.byt b)
 |.float b _=>aA (.flt b)
 |.ref a=>aA (.ref a)
 |.type n=>aA (.ty n)
 |_=>aE
theorem RelV.abs(r:RelV x u):IC u=aA x:=by
 cases x with
 |non=>cases r;rfl
 |bl _=>cases r;rfl
 |int _=>obtain⟨t,rfl⟩:=r;rfl
 |str _=>obtain⟨t,rfl⟩:=r;rfl
 |byt _=>obtain⟨t,rfl⟩:=r;rfl
 |flt _=>obtain⟨t,rfl⟩:=r;rfl
 |ref _=>cases r;rfl
 |ty _=>cases r;rfl
theorem RelV.inj(r:RelV x u)(q:RelV y u):x=y:=bU (r.abs.symm.trans q.abs)
theorem aV.inj:∀{xs ys:List V}{us:List aC},aV xs us->aV ys us->xs=ys
 |_,_,_,.nil,.nil=>rfl
 |_,_,_,.cons r t,.cons a t'=>by rw[r.inj a,aV.inj t t']
section
variable {X:Cx}{pins:List (aF×bD)}{σ:St}{H:Hp}{s:Shared}{a:aF}{xs ys:List V}
theorem Inv.list(I:Inv X pins σ H s)(h:gO X.K H a xs):∃its:List aC,aV xs its/\PlainL s.heap a its.toArray/\xs.length<=sizeLine:=by
 rcases h with h|⟨o,its,n,hk,b,hd,hs,c,r⟩
 ·obtain⟨z,its,n,r,e⟩:=h.ok I.hok;exact⟨its,r,⟨_,n,e,rfl,rfl,rfl⟩,z⟩
 ·refine⟨its.toList,r,⟨o,n,I.kIn a o hk,b,hd,by simpa using hs⟩,?_⟩;have e:=r.length;simp only[mJ] at e;lia
theorem Inv.tuple(I:Inv X pins σ H s)(h:fO X.K H a xs):∃its:List aC,aV xs its/\hV s.heap a its.toArray/\xs.length<=sizeLine:=by
 rcases h with h|⟨o,its,n,hk,b,hs,c,r⟩
 ·obtain⟨z,its,r,p⟩:=h.ok I.hok;exact⟨its,r,p,z⟩
 ·refine⟨its.toList,r,⟨o,I.kIn a o hk,b,n,by simpa using hs⟩,?_⟩;have e:=r.length;simp only[mJ] at e;lia
theorem Inv.list_inj(I:Inv X pins σ H s)(h:gO X.K H a xs)(h':gO X.K H a ys):xs=ys:=by
 obtain⟨its,r,⟨o,n,e,_,_,d⟩,_⟩:=I.list h;obtain⟨its',c,⟨g,i,b,_,_,d'⟩,_⟩:=I.list h';rw[e] at b;cases b;rw[d] at d';injection d' with f _;have:its=its':=by simpa using congrArg BX f
 subst this;exact r.inj c
theorem Inv.tuple_inj(I:Inv X pins σ H s)(h:fO X.K H a xs)(h':fO X.K H a ys):xs=ys:=by
 obtain⟨its,r,⟨o,e,_,n,d⟩,_⟩:=I.tuple h;obtain⟨its',c,⟨g,b,_,i,d'⟩,_⟩:=I.tuple h';rw[e] at b;cases b;rw[d] at d';injection d' with f _;have:its=its':=by simpa using congrArg BX f
 subst this;exact r.inj c
end
noncomputable abbrev Cx.wish(X:Cx)(E:aC->a_->Prop):Cx:={X with xe:=E}
theorem Cx.Ok.wish{X:Cx}(ok:X.Ok)(E:aC->a_->Prop):(X.wish E).Ok:=
 ⟨ok.mod,ok.kind,ok.glob,ok.blt,ok.above,ok.inj,ok.has,ok.cab,ok.hd,ok.frames,ok.stk,ok.exf,ok.bs,ok.bsz,ok.noex,ok.exfs,ok.funs,ok.frf⟩
theorem Cx.Ok.unwish{X:Cx}(ok:(X.wish E).Ok):X.Ok:=
 ⟨ok.mod,ok.kind,ok.glob,ok.blt,ok.above,ok.inj,ok.has,ok.cab,ok.hd,ok.frames,ok.stk,ok.exf,ok.bs,ok.bsz,ok.noex,ok.exfs,ok.funs,ok.frf⟩
section
variable {X:Cx}{pins:List (aF×bD)}{σ:St}{H:Hp}{s:Shared}{E:aC->Shared->Prop}
theorem Inv.wish(I:Inv X pins σ H s)(E:aC->a_->Prop):Inv (X.wish E) pins σ H s:=⟨I.ok.wish E,I.os,I.bare,I.base,I.loc,I.cell,I.free,I.freeC,I.pin,I.hok,I.len⟩
theorem Inv.unwish(I:Inv (X.wish E) pins σ H s):Inv X pins σ H s:=⟨I.ok.unwish,I.os,I.bare,I.base,I.loc,I.cell,I.free,I.freeC,I.pin,I.hok,I.len⟩
theorem SP.unwish(h:SP (X.wish E) pins D f d):SP X pins D f d:=by
 cases f with
 |next=>obtain⟨a,b,I,q⟩:=h;exact⟨a,b,I.unwish,q⟩
 |brk=>obtain⟨a,b,I,q⟩:=h;exact⟨a,b,I.unwish,q⟩
 |cont=>obtain⟨a,b,I,q⟩:=h;exact⟨a,b,I.unwish,q⟩
 |ret u=>obtain⟨v,a,b,I,r,q⟩:=h;exact⟨v,a,b,I.unwish,r,q⟩
end
section
variable {X:Cx}{st:bG}{bX:List bG}{t u:TS}{e:aI}{te:TE}{pos:Pos}
noncomputable def Mj:TS:=λD a H=>D.nx a H
noncomputable def Iw (t u:TS):TS:=λD a H=>t {D with nx:=u D} a H
theorem XM:gP X [] Mj:=λ_ _ a H _ I h=>sU ⟨a,H,I,h⟩
theorem SA(h1:PS X st t)(h2:gP X bX u):gP X (st::bX) (Iw t u):=by
 intro a s c H D I h;refine wpAny_execs_cons (aY (h1 a s c H {D with nx:=u D} I h) λf d q=>?_);cases f with
 |next=>
  obtain⟨b,g,e,q⟩:=q;exact h2 a d b g D e q
 |ret v=>exact q
 |brk=>exact q
 |cont=>exact q
theorem Inv.quiet{a:St}(I:Inv X d a H s):interactive X.env=aD:=by simp[interactive,I.ok.kind]
noncomputable def LM(te:TE):TS:=λD a H=>te a H λ_ b=>D.nx a b
theorem Pn(he:PE X e te)(hs:iw e aE pos.line X.env=pure aD:=by rfl):PS X (.Expr e pos) (LM te):=by
 intro a s b H D I h;exact wpAny_Expr_any (aY (he a s b H _ I h) λv g ⟨x,f,d,i,c⟩=>⟨b,f,d,c⟩) I.quiet hs
noncomputable def Lb (te:TE):TS:=λD a H=>te a H D.rt
theorem N8(he:PE X e te):PS X (.Return (aA e) pos) (Lb te):=by
 intro a s b H D I h;exact wpAny_Return_some (aY (he a s b H _ I h) λv i ⟨x,g,f,c,d⟩=>⟨x,b,g,f,c,d⟩)
noncomputable def LZ:TS:=λD _ H=>D.rt .non H
theorem O6:PS X (.Return aE pos) LZ:=λ_ _ a H _ I h=>wpAny_Return_none ⟨.non,a,H,I,rfl,h⟩
noncomputable def IZ (c:TT)(t u:TS):TS:=λD a H=>c a H λb d=>if b=aB then t D a d else u D a d
theorem Mq{a:List bG}(l:PT X c w)(n:gP X a t)(m:gP X b u):PS X (.If c a b pos) (IZ w t u):=by
 intro e s f H D I h;refine wpAny_If (aY (l e s f H _ I h) λd g ⟨k,j,i⟩=>?_);cases d with
 |true=>exact n e g f k D j i
 |false=>exact m e g f k D j i
end
noncomputable abbrev TG:=V->St->Hp->(St->Hp->Prop)->Prop
noncomputable abbrev oa:=List V->St->Hp->(St->Hp->Prop)->Prop
noncomputable def PG (X:Cx)(a:aI)(t:TG):Prop:=
 ∀(b:List (aF×bD)) (s:a_) (d:St) (H:Hp) (v:V) (u:aC) (Q:St->Hp->Prop),Inv X b d H s->RelV v u->t v d H Q->
  wpAny (aQ X.prog X.w) X.A (hW a X.env u) (λ_ f=>∃c e,Inv X b c e f/\Q c e) X.xe s
noncomputable def oi (X:Cx)(ts:List aI)(t:oa):Prop:=
 ∀(a:List (aF×bD)) (s:a_) (c:St) (H:Hp) (d:List V) (e:List aC) (Q:St->Hp->Prop),Inv X a c H s->aV d e->t d c H Q->
  wpAny (aQ X.prog X.w) X.A (assignInOrder ((hZ ts X.env).map (·.2)) e) (λ_ g=>∃b f,Inv X a b f g/\Q b f) X.xe s
noncomputable abbrev Ey:=V->V->V->Hp->(Hp->Prop)->Prop
noncomputable def A1 (X:Cx)(t:Ey):Prop:=
 ∀(a:List (aF×bD)) (s:a_) (b:St) (H:Hp) (o i v:V) (c d u:aC) (Q:Hp->Prop),Inv X a b H s->RelV o c->RelV i d->RelV v u->t o i v H Q->
  wpAny (aQ X.prog X.w) X.A (setItem c d u) (λ_ f=>∃e,Inv X a b e f/\Q e) X.xe s
section
variable {X:Cx}{pos:Pos}
noncomputable def XE(i:Nat):TG:=λv a H Q=>Q (a.set i (aA v)) H
theorem Xo(hN:X.N.Nodup)(hi:X.N[i]?=aA x)(b:Loc X.env.scope x)(c:X.fn x=aB\/X.env.scope.names.lookup x=aA .local:=by first|exact .inl rfl|exact .inr rfl|assumption):PG X (.Name x pos) (XE i):=by
 intro a s e H v u Q I r h;exact wpAny_assign_Name (Ja I hN hi b r (λf d=>⟨_,H,d,h⟩) c)
noncomputable def E2:oa:=λb a H Q=>b=[]/\Q a H
noncomputable def FF(t:TG)(u:oa):oa:=λc b H Q=>∃v r,c=v::r/\t v b H λa d=>u r a d Q
theorem OO:oi X [] E2:=by
 intro a s b H c d Q I r h;obtain⟨e,h⟩:=h;subst e;cases r;exact assignInOrder_nil ⟨b,H,I,h⟩
theorem SS{t:TG}(h1:PG X e t)(h2:oi X es u)
  (hs:(hZ (e::es) X.env).map (·.2)=hW e X.env::(hZ es X.env).map (·.2):=by rfl):oi X (e::es) (FF t u):=by
 intro a s c H l n Q I r h;obtain⟨v,m,i,h⟩:=h;subst i;cases r with
 |cons r f=>
  rw[hs];refine assignInOrder_cons (aY (h1 a s c H _ _ _ I r h) λ_ d ⟨b,k,j,g⟩=>?_);exact h2 a d b k _ _ Q j f g
noncomputable def IA (K:bM)(n:Nat)(t:oa):TG:=λv c H Q=>∃a b,v=.ref a/\fO K H a b/\b.length=n/\t b c H Q
theorem M4{k:Nat}(x:X.calm=aB)(h:oi X es t)
  (q:(hZ es X.env).length=n:=by rfl) (d:(hZ es X.env).findIdx? (·.1)=aE:=by rfl):PG X (.Tuple es k pos) (IA X.K n t):=by
 intro c s f H v u Q I r hw;obtain⟨a,i,z,p,w,hw⟩:=hw;subst z;cases r;obtain⟨j,g,m,B⟩:=I.tuple p;refine assign_Tuple_tuple (I.ok.hd x) m (by simp[q,←w,g.length]) d λy l=>?_;have A:Inv X c f H {s with heap:=y}:=I.kept (t':=s.toks) λb o e=>l b o (d6 (cG e)) e;exact h c _ f H i _ Q A (by simpa using g) hw
noncomputable def Li (b c:TE)(t:Ey):TG:=λv a H Q=>b a H λo f=>c a f λi e=>t o i v e λd=>Q a d
theorem GN{o:aI}(ho:PE X o w)(hi:PE X i A)(hs:A1 X t)
  (n:∀v,hW (.Subscript o i pos) X.env v=(do
   let d ←lK [v] (eval o X.env)
   let j ←lK [v,d] (eval i X.env)
   standAt pos
   lK [v,d,j] (setItem d j v)
   release [v,d,j] []):=by intro _;rfl):PG X (.Subscript o i pos) (Li w A t):=by
 intro a s b H v u Q I r h;rw[n];refine wpAny_bind (wpAny_holding (aY (ho a s b H _ I h) λd e ⟨x,D,z,g,m⟩=>?_));refine wpAny_bind (wpAny_holding (aY (hi a e b D _ z m) λj c ⟨y,C,q,f,l⟩=>?_));refine wpAny_bind (lQ (wpAny_bind (wpAny_holding (aY (hs a c b C x y v d j u _ q g f r l) λ_ E ⟨B,p,k⟩=>?_))));exact wpAny_release ⟨b,B,p,k⟩
noncomputable def EC (b:TE)(g:TG):TS:=λD a H=>b a H λx c=>g x a c D.nx
theorem JT{e:aI}(he:PE X e d)(j:PG X tg g)(hs:oR [tg] e pos.line X.env=pure aD:=by rfl)(hw:oQ [tg] e X.env=pure aE:=by rfl)
  (h1:(hZ [tg] X.env).map (·.2)=[hW tg X.env]:=by rfl):PS X (.Assign [tg] e pos) (EC d g):=by
 intro a s b H D I h;refine wpAny_Assign_stores (aY (he a s b H _ I h) λv c ⟨x,l,k,f,i⟩=>?_) hs hw;rw[h1];exact aY (j a c b l x v _ k f i) λ_ m q=>q
theorem NP{b:TE}(hN:X.N.Nodup)(hi:X.N[i]?=aA x)(j:Loc X.env.scope x)(he:PE X e b)(hs:iw e (aA (.Name x d)) pos.line X.env=pure aD:=by rfl)(k:X.fn x=aB\/X.env.scope.names.lookup x=aA .local:=by first|exact .inl rfl|exact .inr rfl|assumption) :
  PS X (.Assign [.Name x d] e pos) (EC b (XE i)):=by
 intro a s c H D I h;refine wpAny_Assign_Name (aY (he a s c H _ I h) λv p ⟨y,n,m,f,g⟩=>?_) hs;exact Ja m hN hi j f (λo l=>⟨_,n,l,g⟩) k
end
section
variable {X:Cx}{pos:Pos}
noncomputable def MZ(c:TT)(tb:TS):TS:=λD a H=>∃W:Nat->St->Hp->Prop,(∃m,W m a H)/\∀m a H,W m a H->
 c a H λb f=>if b=aB then ∃N:St->Hp->Prop,(∀d g,N d g->∃e,e<m/\W e d g)/\tb {D with nx:=N,ct:=N,bk:=D.nx} a f else D.nx a f
theorem Ss{body:List bG}(r:mZ (aQ X.prog X.w) X.A X.env X.xe)(M:PT X c G)(O:gP X body tb):PS X (.While c body [] pos) (MZ G tb):=by
 intro d s B H D I h;obtain⟨W,⟨L,E⟩,turn⟩:=h;refine wpAny_While (codeAny_whileLoop (λn K=>∃g z,Inv X d g z K/\W n g z) ?_ L ⟨B,H,I,E⟩);rintro n J ⟨e,y,P,C⟩;refine lZ r (aY (M d J e y _ P (turn n e y C)) λb F ⟨x,u,k⟩=>?_);cases b with
 |true=>
  obtain⟨N,t,k⟩:=k;rw[if_pos rfl];refine lZ r (aY (O d F e x _ u k) λf Q j=>?_);cases f with
  |next=>
   obtain⟨a,i,q,m⟩:=j;obtain⟨o,p,l⟩:=t a i m;exact⟨o,p,a,i,q,l⟩
  |cont=>
   obtain⟨a,i,q,m⟩:=j;obtain⟨o,p,l⟩:=t a i m;exact⟨o,p,a,i,q,l⟩
  |brk=>exact j
  |ret v=>exact j
 |false=>
  rw[if_neg fB];exact sU ⟨e,x,u,k⟩
end
structure It where
 go:Nat->Hp->Prop
 yld:Nat->Hp->V->Hp->Prop
 stop:Nat->Hp->Prop
noncomputable def Wv (X:Cx)(a:List (aF×bD))(H:Hp)(b:aF):Prop:=
 H b=aE/\b≠X.env.locals/\b∉X.fs/\(b∈X.ex\/X.s₀.heap.objs.size<=b)/\(∀x c,X.env.cells.lookup x=aA c->c≠b)/\∀p∈X.pn++a,p.1≠b
theorem Inv.fpOk{X:Cx}{f:St}{H:Hp}{b:aF}(I:Inv X d f H s)(a:s.heap.objs.size<=b)(h:j b=aE):Wv X d j b:=by
 refine⟨h,iA (dL I.lt a),I.nofs a,.inr (cT I.sz a),λx c e z=>?_,λp g z=>?_⟩
 ·obtain⟨v,q⟩:=I.cell x c e;exact absurd (dL q.lt (by rw[z];exact a)) (iz _)
 ·exact absurd (dL (cG (I.pin p g).1) (by rw[z];exact a)) (iz _)
structure fX(P:Program)(w:World)(K:PySem.W.Frag)(tg:aI)(J:It)(fp:List aF)(it:aF)(tn:Nat->aT->Prop):Prop where
 mem:it∈fp
 obj:∀i h,tn i h->∀b∈fp,∃o,h.get? b=aA o/\∀v,o.data≠.cell v
 keep:∀i h h',tn i h->(∀b∈fp,∀o,h.get? b=aA o->h'.get? b=aA o)->tn i h'
 item:∀(X:Cx),X.prog=P->X.w=w->X.K=K->X.calm=aB->∀(i:Nat) (pins:List (aF×bD)) (s:a_) (σ:St) (H:Hp) (E:aC->a_->Prop),Inv X pins σ H s->(∀b∈fp,Wv X pins H b)->tn i s.heap->J.go i H->
  wpAny (aQ P w) X.A (iq (.ref it)) (λr s1=>∃u,r=aA u/\
   wpAny (aQ P w) X.A (nB tg (.ref it) u) (λ_ s2=>∃x H',Inv X pins σ H' s2/\RelV x u/\J.yld i H x H'/\tn (i+1) s2.heap/\∀b∈fp,H' b=aE) E s1) E s
 done:∀(X:Cx),X.prog=P->X.w=w->X.K=K->X.calm=aB->∀(i:Nat) (pins:List (aF×bD)) (s:a_) (σ:St) (H:Hp) (E:aC->a_->Prop),Inv X pins σ H s->(∀b∈fp,Wv X pins H b)->tn i s.heap->J.stop i H->
  wpAny (aQ P w) X.A (iq (.ref it)) (λr s1=>r=aE/\Inv X pins σ H s1) E s
 self:∀(A:eM) (i:Nat) (s:a_) (Q:aC->a_->Prop) (E:aC->a_->Prop),tn i s.heap->Q (.ref it) s->wpAny (aQ P w) A (mV (.ref it)) Q E s
noncomputable abbrev TI:=St->Hp->(It->Hp->Prop)->Prop
noncomputable def rG (X:Cx)(a:List (aF×bD))(f:St)(tg:aI)(R:It->Hp->Prop)(c:aC)(s2:a_):Prop:=
 ∃(it:aF) (fp:List aF) (e:Nat->aT->Prop) (J:It) (d:Hp),c=.ref it/\Inv X a f d s2/\fX X.prog X.w X.K tg J fp it e/\e 0 s2.heap/\(∀b∈fp,Wv X a d b)/\R J d
noncomputable def PI (X:Cx)(tg iter:aI)(c:TI):Prop:=
 ∀(a:List (aF×bD)) (s:a_) (b:St) (H:Hp) (R:It->Hp->Prop),Inv X a b H s->c b H R->
  wpAny (aQ X.prog X.w) X.A (eval iter X.env) (λv d=>wpAny (aQ X.prog X.w) X.A (mV v) (rG X a b tg R) X.xe d) X.xe s
theorem yI(ho:s.heap.get? it=aA o)(c:o.cls=.type n)(hd:o.data=.fields vs)
    (b:["enumerate", "zip", "dict_itemiterator", "dict_reverseitemiterator", "odict_iterator", "itertools.zip_longest", "itertools.pairwise"].contains n=aD) (a:Q () s):wpAny M A (nB tg (.ref it) u) Q E s:=by
  unfold nB
  cases tg <;> first
    |exact wpAny_pure a
    | (cases u <;> first
        |exact wpAny_pure a
        | (refine wpAny_bind (wpAny_load ho ?_)
           rw[c, hd]
           show wpAny M A (if (["enumerate", "zip", "dict_itemiterator", "dict_reverseitemiterator", "odict_iterator", "itertools.zip_longest", "itertools.pairwise"].contains n&&vs[0]? == aA (cV _))=aB then _ else _) Q E s
           rw[if_neg (by intro h;rw[b, CT] at h;cases h)]
           exact wpAny_pure a))
noncomputable def Hg (K:bM)(a:aF):It:=
 ⟨λi H=>∃b x,gO K H a b/\b[i]?=aA x,λi H x c=>c=H/\∀b,gO K H a b->b[i]?=aA x,λi H=>∃b,gO K H a b/\b.length<=i⟩
noncomputable def Hf (K:bM)(a:aF):It:=
 ⟨λi H=>∃b x,fO K H a b/\b[i]?=aA x,λi H x c=>c=H/\∀b,fO K H a b->b[i]?=aA x,λi H=>∃b,fO K H a b/\b.length<=i⟩
noncomputable def Tp(lo:Int)(n:Nat):It:=⟨λi _=>i<n,λi H x a=>a=H/\x=.int (lo+i),λi _=>n<=i⟩
theorem QJ{P:cF}{K:bM}(a it:aF):fX P w K tg (Hg K a) [it] it (λi h=>h.IsListIter it a i) where
 mem:=by simp
 obj:=λi h st b g=>by
  have e:b=it:=by simpa using g
  subst e;obtain⟨o,e,c,d⟩:=st;exact⟨o,e,λv z=>by rw[d] at z;cases z⟩
 keep:=λi h n st k=>st.at λo e=>k it (by simp) o e
 item:=by
  intro X A hw B M i f s L H E I m st y;subst A hw B;obtain⟨N,x,l,t⟩:=y;obtain⟨r,q,p,R⟩:=I.list l;obtain⟨u,T,Q⟩:=q.get t;obtain⟨J,G,U,F,D,C⟩:=m it (by simp);refine wpAny_pyNext_list_item st p.isList (x:=u) (by simpa using T) λn j O=>?_;have V:Inv X f L H {s with heap:=n}:=I.turned (t':=s.toks) (λb o g e=>(O.2 b g).trans e) J G F D C;obtain⟨o,e,c,d⟩:=id j;exact⟨u,rfl,yI (s:={s with heap:=n}) e c d (by decide) ⟨x,H,V,Q,⟨rfl,λY S=>by rw[I.list_inj S l];exact t⟩,j,λb g=>(m b g).1⟩⟩
 done:=by
  intro X A hw B M i f s L H E I m st y;subst A hw B;obtain⟨N,l,t⟩:=y;obtain⟨r,q,p,R⟩:=I.list l;obtain⟨J,G,U,F,D,C⟩:=m it (by simp);have Z:=q.length;exact wpAny_pyNext_list_end (I.ok.hd M) st p.isList (by simp;lia) λn eb=>⟨rfl,I.turned (t':=s.toks) (λb o g e=>eb b o g e) J G F D C⟩
 self:=λ_ _ _ _ _ st h=>wpAny_pyIter_listiter st h
theorem JX{P:cF}{K:bM}(a it:aF):fX P w K tg (Hf K a) [it] it (λi h=>h.IsTupleIter it a i) where
 mem:=by simp
 obj:=λi h st b j=>by
  have e:b=it:=by simpa using j
  subst e;obtain⟨o,e,c,d⟩:=st;exact⟨o,e,λv z=>by rw[d] at z;cases z⟩
 keep:=λi h q st k=>st.at λo e=>k it (by simp) o e
 item:=by
  intro X A hw B M i f s L H E I n st y;subst A hw B;obtain⟨N,x,m,t⟩:=y;obtain⟨g,r,p,R⟩:=I.tuple m;obtain⟨u,T,Q⟩:=r.get t;obtain⟨J,G,U,F,D,C⟩:=n it (by simp);refine wpAny_pyNext_tuple_item st (show s.heap.IsTuple a g.toArray from p) (x:=u) (by simpa using T) λq l O=>?_;have V:Inv X f L H {s with heap:=q}:=I.turned (t':=s.toks) (λb o j e=>(O.2 b j).trans e) J G F D C;obtain⟨o,e,c,d⟩:=id l;exact⟨u,rfl,yI (s:={s with heap:=q}) e c d (by decide) ⟨x,H,V,Q,⟨rfl,λY S=>by rw[I.tuple_inj S m];exact t⟩,l,λb j=>(n b j).1⟩⟩
 done:=by
  intro X A hw B M i f s L H E I n st y;subst A hw B;obtain⟨N,m,t⟩:=y;obtain⟨g,r,p,R⟩:=I.tuple m;obtain⟨J,G,U,F,D,C⟩:=n it (by simp);have Z:=r.length;exact wpAny_pyNext_tuple_end (I.ok.hd M) st (show s.heap.IsTuple a g.toArray from p) (by simp;lia) λq eb=>⟨rfl,I.turned (t':=s.toks) (λb o j e=>eb b o j e) J G F D C⟩
 self:=λ_ _ _ _ _ st h=>wpAny_pyIter_tupleiter st h
end L2
namespace L2
open PySem PySem.Spec PyProof.Rows
section
variable {X:Cx}{tg:aI}
noncomputable def VH(c:TA):TI:=λa H R=>c a H λb d=>∃i j:Int,b=[.int i,.int j]/\(-(2 ^ 62)<=i/\i<2 ^ 62 /\ -(2 ^ 62)<=j/\j<2 ^ 62)/\R (Tp i (j-i).toNat) d
noncomputable def Ix (f:TI)(g:TG)(tb:TS):TS:=λD a H=>f a H λJ j=>∃W:Nat->Nat->St->Hp->Prop,(∃m,W 0 m a j)/\∀i m a H,W i m a H->
 (J.stop i H/\D.nx a H)\/(J.go i H/\∃N:St->Hp->Prop,(∀b c,N b c->∃e,e<m/\W (i+1) e b c)/\∀x c,J.yld i H x c->g x a c λd h=>tb {D with nx:=N,ct:=N,bk:=D.nx} d h)
noncomputable def Zn(fp:List aF)(h:aT):List (aF×bD):=fp.filterMap λb=>(h.get? b).map λo=>(b,o)
theorem vZ(a:b∈fp)(e:h.get? b=aA o):(b,o)∈Zn fp h:=nt.mpr ⟨b,a,by rw[e];rfl⟩
theorem U2(a:p∈Zn fp h):p.1∈fp/\h.get? p.1=aA p.2:=by
 obtain⟨b,c,e⟩:=nt.mp a;cases q:h.get? b with
 |none=>rw[q] at e;cases e
 |some o=>
  rw[q] at e;have d:(b,o)=p:=bU e;subst d;exact⟨c,q⟩
theorem Inv.pinned{a:St}(I:Inv X j a H s)(h:∀b∈fp,Wv X j H b)(ho:∀b∈fp,∃o,s.heap.get? b=aA o/\∀v,o.data≠.cell v):Inv X (j++Zn fp s.heap) a H s:=
 I.pins_of λp g=>(cA.mp g).elim (λz=>I.pin p (dU _ z)) λz=>by
  obtain⟨c,e⟩:=U2 z;obtain⟨f0,k,i,_⟩:=h p.1 c;obtain⟨o,f,d⟩:=ho p.1 c;rw[e] at f;cases f;exact⟨e,f0,k,i,d⟩
theorem Inv.unpinned{a:St}(I:Inv X (d++j) a H s):Inv X d a H s:=I.pins_of λp b=>I.pin p (dU _ (dM _ b))
theorem Nt{body:List bG}{tb:TS}(G:mZ (aQ X.prog X.w) X.A X.env X.xe)(hc:X.calm=aB)(hi:PI X tg iter wi)(hg:PG X tg g)(p:gP X body tb)
  (hs:∀x,lm iter X.env x=pure x:=by intro _;rfl):PS X (.For tg iter body [] pos) (Ix wi g tb):=by
 intro c s U H D I h;refine wpAny_For (aY (hi c s U H _ I h) λv s1 h1=>aY h1 λitv s2 h2=>?_) hs;obtain⟨it,fp,V,J,H2,e,I2,T,O,f2,W,⟨m0,w0⟩,turn⟩:=h2;subst e;have l:∀{y:Hp},(∀b∈fp,y b=aE)->∀b∈fp,Wv X c y b:=λhn b p=>⟨hn b p,(f2 b p).2⟩;refine codeAny_forLoop_any (λn s'=>∃i k y,Inv X c k y s'/\V i s'.heap/\(∀b∈fp,y b=aE)/\W i n k y) ?_ m0 ⟨0,U,H2,I2,O,λb p=>(f2 b p).1,w0⟩;rintro n Z ⟨i,j,L,I3,E,K,w3⟩;rcases turn i n j L w3 with⟨C,qn⟩|⟨go,N,hN,step⟩
 ·refine lZ G (aY (T.done X rfl rfl rfl hc i c Z j L X.xe I3 (l K) E C) λr s4 ⟨Q,I4⟩=>?_);subst Q;exact sU ⟨j,L,I4,qn⟩
 ·refine lZ G (aY (T.item X rfl rfl rfl hc i c Z j L X.xe I3 (l K) E go) λr s4 ⟨u,Q,h4⟩=>?_);subst Q;refine lZ G (aY h4 λ_ Y ⟨x,H5,I5,r5,y5,B,R⟩=>?_);have S:=I5.pinned (l R) (T.obj _ _ B);refine lZ G (aY (hg _ Y j H5 x u _ S r5 (step x H5 y5)) λ_ s6 ⟨M,H6,I6,q6⟩=>?_);refine lZ G (aY (p _ s6 M H6 _ I6 q6) λf P z=>?_);have again:∀{a:St}{t:Hp},Inv X (c++Zn fp Y.heap) a t P->N a t->∃m,m<n/\∃i k y,Inv X c k y P/\V i P.heap/\(∀b∈fp,y b=aE)/\W i m k y:=λ{a t} q F=>by
   obtain⟨m',hm,w7⟩:=hN a t F;refine⟨m',hm,i+1,a,t,q.unpinned,T.keep _ _ _ B λb p o e=>(q.pin (b,o) (dU _ (dU _ (vZ p e)))).1,λb p=>?_,w7⟩;obtain⟨o,e,d⟩:=T.obj _ _ B b p;exact (q.pin (b,o) (dU _ (dU _ (vZ p e)))).2.1
  cases f with
  |next=>obtain⟨a,t,q,F⟩:=z;exact again q F
  |cont=>obtain⟨a,t,q,F⟩:=z;exact again q F
  |brk=>obtain⟨a,t,q,z⟩:=z;exact⟨a,t,q.unpinned,z⟩
  |ret v=>obtain⟨x7,a,t,q,r7,z⟩:=z;exact⟨x7,a,t,q.unpinned,r7,z⟩
end
end L2
namespace L2
open PySem PySem.Spec PyProof.Rows
noncomputable abbrev R2:=V->V->Hp->VK->Prop
noncomputable def dY (X:Cx)(f:aC->aC->Sem aC)(r:R2):Prop:=
 ∀(a:List (aF×bD)) (s:a_) (b:St) (H:Hp) (x y:V) (v u:aC) (Q:VK),Inv X a b H s->RelV x v->RelV y u->r x y H Q->
  wpAny (aQ X.prog X.w) X.A (f v u) (EP X a b Q) X.xe s
noncomputable def G9 (X:Cx)(f:aC->Sem aC)(r:V->Hp->VK->Prop):Prop:=
 ∀(a:List (aF×bD)) (s:a_) (b:St) (H:Hp) (x:V) (v:aC) (Q:VK),Inv X a b H s->RelV x v->r x H Q->
  wpAny (aQ X.prog X.w) X.A (f v) (EP X a b Q) X.xe s
noncomputable def Xx(X:Cx)(f:aC)(r:List V->Hp->VK->Prop):Prop:=
 ∀(a:List (aF×bD)) (s:a_) (b:St) (H:Hp) (c:List V) (d:List aC) (Q:VK),Inv X a b H s->aV c d->r c H Q->
  wpAny (aQ X.prog X.w) X.A (call f d) (EP X a b Q) X.xe s
noncomputable def rI (C:Int->Int->Prop)(g:Int->Int->V):R2:=λx y H Q=>∃i j,x=.int i/\y=.int j/\C i j/\Q (g i j) H
noncomputable def iU (g:Int->Int->V):R2:=λx y H Q=>∃i j,x=.int i/\y=.int j/\Q (g i j) H
noncomputable def rU (g:Int->V):V->Hp->VK->Prop:=λx H Q=>∃i,x=.int i/\Q (g i) H
section
variable {X:Cx}
theorem n5{g:Int->Int->Int}
  (rule:∀(i j:Int) (t u:Tok) (s:a_) (Q:aC->a_->Prop) (E:aC->a_->Prop),C i j->Q (.int (g i j) s.toks) {s with toks:=s.toks+1}->wpAny (aQ X.prog X.w) X.A (f (.int i t) (.int j u)) Q E s) :
  dY X f (rI C λi j=>.int (g i j)):=by
 intro a s k H x y v u Q I d c h;obtain⟨i,j,rfl,rfl,e,q⟩:=h;obtain⟨t,rfl⟩:=d;obtain⟨b,rfl⟩:=c;exact rule i j t b s _ _ e ⟨.int (g i j),H,I.tok _,⟨_,rfl⟩,q⟩
theorem tZ{g:Int->Int->Int}
  (rule:∀(i j:Int) (t u:Tok) (s:a_) (Q:aC->a_->Prop) (E:aC->a_->Prop),Q (.int (g i j) s.toks) {s with toks:=s.toks+1}->wpAny (aQ X.prog X.w) X.A (f (.int i t) (.int j u)) Q E s) :
  dY X f (iU λi j=>.int (g i j)):=by
 intro a s e H x y v u Q I d c h;obtain⟨i,j,rfl,rfl,q⟩:=h;obtain⟨t,rfl⟩:=d;obtain⟨b,rfl⟩:=c;exact rule i j t b s _ _ ⟨.int (g i j),H,I.tok _,⟨_,rfl⟩,q⟩
theorem rb{g:Int->Int->Bool}
  (rule:∀(i j:Int) (t u:Tok) (s:a_) (Q:aC->a_->Prop) (E:aC->a_->Prop),Q (.bool (g i j)) s->wpAny (aQ X.prog X.w) X.A (f (.int i t) (.int j u)) Q E s) :
  dY X f (iU λi j=>.bl (g i j)):=by
 intro a s e H x y v u Q I d c h;obtain⟨i,j,rfl,rfl,q⟩:=h;obtain⟨t,rfl⟩:=d;obtain⟨b,rfl⟩:=c;exact rule i j t b s _ _ ⟨.bl (g i j),H,I,rfl,q⟩
noncomputable def Iq(i j:Int):Prop:=0<=j/\j<=1000000/\i.natAbs<2 ^ 64
noncomputable def i7(i j:Int):Prop:=(-(2 ^ 64)<i/\i<2 ^ 64)\/(-(2 ^ 64)<j/\j<2 ^ 64)
theorem i7.ok(h:i7 i j):IntMulOk i j:=by
 rcases h with⟨h1,h2⟩|⟨h1,h2⟩
 ·exact .of_left (intBits_le_64 h1 h2)
 ·exact .of_right (intBits_le_64 h1 h2)
theorem K9(k:Nat):(0:Int)<=2 ^ k:=by
 rw[two_pow_cast];exact Int.natCast_nonneg _
theorem Ob:dY X (f8 .Add) (iU λi j=>.int (i+j)):=tZ λ_ _ _ _ _ _ _ q=>add_int q
theorem Og:dY X (f8 .Sub) (iU λi j=>.int (i-j)):=tZ λ_ _ _ _ _ _ _ q=>sub_int q
theorem Nq:dY X (f8 .Mult) (rI i7 λi j=>.int (i*j)):=n5 λ_ _ _ _ _ _ _ a q=>mul_int q a.ok
theorem Nx:dY X (f8 .Mod) (rI (λ_ j=>0<j) λi j=>.int (i % j)):=n5 λi j _ _ _ _ _ a q=>by
 have b:(0:Int)<j:=a;exact mod_int' (by lia) (by rw[Int.fmod_eq_emod_of_nonneg i (by lia)];exact q)
theorem Oe:dY X (f8 .Pow) (rI Iq λi j=>.int (i ^ j.toNat)):=n5 λ_ _ _ _ _ _ _ a q=>pow_int_small a.1 a.2.1 a.2.2 q
theorem MN:dY X (f8 .RShift) (rI (λ_ j=>0<=j) λi j=>.int (i / 2 ^ j.toNat)):=n5 λi j _ _ _ _ _ a q=>
 rshift_int a (by rw[Ei i (K9 _)];exact q)
theorem Oi:dY X (f8 .BitAnd) (iU λi j=>.int (CS i j)):=tZ λ_ _ _ _ _ _ _ q=>and_int q
theorem S5{g:Int->Int}
  (rule:∀(i:Int) (t:Tok) (s:a_) (Q:aC->a_->Prop) (E:aC->a_->Prop),Q (.int (g i) s.toks) {s with toks:=s.toks+1}->wpAny (aQ X.prog X.w) X.A (f (.int i t)) Q E s) :
  G9 X f (rU λi=>.int (g i)):=by
 intro a s c H x v Q I b h;obtain⟨i,rfl,q⟩:=h;obtain⟨t,rfl⟩:=b;exact rule i t s _ _ ⟨.int (g i),H,I.tok _,⟨_,rfl⟩,q⟩
theorem MW:G9 X (unaryOp .USub) (rU λi=>.int (-i)):=S5 λ_ _ _ _ _ q=>neg_int q
end
noncomputable def pL:V->V->Bool
 |.non,.non=>aB|.non,.int _=>aB|.int _,.non=>aB|.non,.bl _=>aB|.bl _,.non=>aB|.non,.str _=>aB|.str _,.non=>aB
 |.int _,.int _=>aB|.bl _,.bl _=>aB|.str _,.str _=>aB|.byt _,.byt _=>aB
 |.int _,.str _=>aB|.str _,.int _=>aB|.bl _,.str _=>aB|.str _,.bl _=>aB
 |_,_=>aD
noncomputable def Ta:R2:=λx y H Q=>pL x y=aB/\Q (.bl (decide (x=y))) H
noncomputable def S_:R2:=λx y H Q=>pL x y=aB/\Q (.bl (!decide (x=y))) H
theorem Xd:decide (V.int i=V.int j)=(i==j):=by
 rw[nA];simp
theorem Gv:decide (V.bl i=V.bl j)=(i==j):=by
 rw[nA];simp
theorem Xz:decide (V.str i=V.str j)=(i==j):=by
 rw[nA];simp
theorem Yg:decide (V.byt i=V.byt j)=(i.toList==j.toList):=by
 rw[nA];cases i;cases j;simp
section
variable {X:Cx}{b:aI}
theorem zt{a:St}{k b:Bool}(I:Inv X d a H s)(q:Q (.bl k) H)(e:k=b):EP X d a Q (.bool b) s:=by
 subst e;exact⟨.bl k,H,I,rfl,q⟩
theorem Mu:dY X (d5 .Eq) Ta:=by
 intro e s f H x y v u Q I d a h;obtain⟨c,q⟩:=h;cases x with
 |non=>
  cases d;cases y with
  |non=>cases a;exact Ib (zt I q (by simp))
  |bl j=>cases a;exact Ia (zt I q (by simp))
  |int j=>obtain⟨b,rfl⟩:=a;exact HL (zt I q (by simp))
  |str j=>obtain⟨b,rfl⟩:=a;exact HK (zt I q (by simp))
  |_=>exact absurd (show aD=aB from c) fB
 |bl i=>
  cases d;cases y with
  |non=>cases a;exact H_ (zt I q (by simp))
  |bl j=>cases a;exact eq_bool (zt I q Gv)
  |str j=>obtain⟨b,rfl⟩:=a;exact H0 (zt I q (by simp))
  |_=>exact absurd (show aD=aB from c) fB
 |int i=>
  obtain⟨t,rfl⟩:=d;cases y with
  |non=>cases a;exact HA (zt I q (by simp))
  |int j=>obtain⟨b,rfl⟩:=a;exact eq_int (zt I q Xd)
  |str j=>obtain⟨b,rfl⟩:=a;exact Hy (zt I q (by simp))
  |_=>exact absurd (show aD=aB from c) fB
 |str i=>
  obtain⟨t,rfl⟩:=d;cases y with
  |non=>cases a;exact Hx (zt I q (by simp))
  |bl j=>cases a;exact HZ (zt I q (by simp))
  |int j=>obtain⟨b,rfl⟩:=a;exact Hw (zt I q (by simp))
  |str j=>obtain⟨b,rfl⟩:=a;exact eq_str (zt I q Xz)
  |_=>exact absurd (show aD=aB from c) fB
 |byt i=>
  obtain⟨t,rfl⟩:=d;cases y with
  |byt j=>obtain⟨b,rfl⟩:=a;exact PySem.W.eq_bytes (zt I q Yg)
  |_=>exact absurd (show aD=aB from c) fB
 |_=>cases y<;>exact absurd (show aD=aB from c) fB
theorem IJ:dY X (d5 .NotEq) S_:=by
 intro e s f H x y v u Q I d a h;obtain⟨c,q⟩:=h;cases x with
 |non=>
  cases d;cases y with
  |non=>cases a;exact HY (zt I q (by simp))
  |bl j=>cases a;exact HX (zt I q (by simp))
  |int j=>obtain⟨b,rfl⟩:=a;exact Hv (zt I q (by simp))
  |str j=>obtain⟨b,rfl⟩:=a;exact Hu (zt I q (by simp))
  |_=>exact absurd (show aD=aB from c) fB
 |bl i=>
  cases d;cases y with
  |non=>cases a;exact HV (zt I q (by simp))
  |bl j=>cases a;exact ne_bool (zt I q (congrArg not Gv))
  |str j=>obtain⟨b,rfl⟩:=a;exact HU (zt I q (by simp))
  |_=>exact absurd (show aD=aB from c) fB
 |int i=>
  obtain⟨t,rfl⟩:=d;cases y with
  |non=>cases a;exact Ht (zt I q (by simp))
  |int j=>obtain⟨b,rfl⟩:=a;exact ne_int (zt I q (congrArg not Xd))
  |str j=>obtain⟨b,rfl⟩:=a;exact Hs (zt I q (by simp))
  |_=>exact absurd (show aD=aB from c) fB
 |str i=>
  obtain⟨t,rfl⟩:=d;cases y with
  |non=>cases a;exact Hq (zt I q (by simp))
  |bl j=>cases a;exact HS (zt I q (by simp))
  |int j=>obtain⟨b,rfl⟩:=a;exact Hn (zt I q (by simp))
  |str j=>obtain⟨b,rfl⟩:=a;exact ne_str (zt I q (congrArg not Xz))
  |_=>exact absurd (show aD=aB from c) fB
 |byt i=>
  obtain⟨t,rfl⟩:=d;cases y with
  |byt j=>obtain⟨b,rfl⟩:=a;exact PySem.W.ne_bytes (zt I q (congrArg not Yg))
  |_=>exact absurd (show aD=aB from c) fB
 |_=>cases y<;>exact absurd (show aD=aB from c) fB
theorem IG:dY X (d5 .Lt) (iU λi j=>.bl (decide (i<j))):=rb λ_ _ _ _ _ _ _ q=>rO q
theorem LU:dY X (d5 .LtE) (iU λi j=>.bl (decide (i<=j))):=rb λ_ _ _ _ _ _ _ q=>le_int q
theorem L_:dY X (d5 .Gt) (iU λi j=>.bl (decide (j<i))):=rb λ_ _ _ _ _ _ _ q=>B8 q
theorem Lz:dY X (d5 .GtE) (iU λi j=>.bl (decide (j<=i))):=rb λ_ _ _ _ _ _ _ q=>ge_int q
theorem YX:dY X (d5 .In) (λx y H Q=>∃i j,x=.str i/\y=.str j/\Q (.bl (!(nI j i 0 j.length 1).isEmpty)) H):=by
 intro a s d H x y v u Q I c b h;obtain⟨i,j,rfl,rfl,q⟩:=h;obtain⟨t,rfl⟩:=c;obtain⟨e,rfl⟩:=b;exact in_str (zt I q rfl)
theorem MH:dY X (d5 .Is) (λx y H Q=>y=.non/\Q (.bl (decide (x=.non))) H):=by
 intro b s d H x y v u Q I a c h;obtain⟨rfl,q⟩:=h;cases c;refine is_none_gen (zt I q ?_)
 cases x<;>first
  |(cases a;rfl)
  |(obtain⟨t,rfl⟩:=a;rfl)
theorem OU:dY X (d5 .IsNot) (λx y H Q=>y=.non/\Q (.bl (!decide (x=.non))) H):=by
 intro b s d H x y v u Q I a c h;obtain⟨rfl,q⟩:=h;cases c;refine isnot_none_gen (zt I q ?_)
 cases x<;>first
  |(cases a;rfl)
  |(obtain⟨t,rfl⟩:=a;rfl)
theorem WJ:dY X (d5 .NotIn) (λx y H Q=>∃i j,x=.str i/\y=.str j/\Q (.bl (!(!(nI j i 0 j.length 1).isEmpty))) H):=by
 intro a s d H x y v u Q I c b h;obtain⟨i,j,rfl,rfl,q⟩:=h;obtain⟨t,rfl⟩:=c;obtain⟨e,rfl⟩:=b;exact notIn_str (zt I q rfl)
theorem Ge(b:aI)(h:op≠.In:=by decide)(h2:op≠.NotIn:=by decide):sj op b=aD:=by
 have c:(op==CmpOp.In)=aD:=by cases op<;>first|rfl|exact absurd rfl h
 have a:(op==CmpOp.NotIn)=aD:=by cases op<;>first|rfl|exact absurd rfl h2
 cases b<;>simp[sj,c,a]
theorem ZI:(sizeLine:Nat)<2 ^ 63:=by rw[fR];decide
theorem Ko:dY X (f8 .Add) (λx y H Q=>∃i j,x=.str i/\y=.str j/\i.length+j.length<=sizeLine/\Q (.str (i++j)) H):=by
 intro a s f H x y v u Q I d c h;obtain⟨i,j,rfl,rfl,e,q⟩:=h;obtain⟨t,rfl⟩:=d;obtain⟨b,rfl⟩:=c;exact add_str (λb g=>⟨.str (i++j),H,I.tok _,⟨_,rfl⟩,q⟩) e
theorem vals1(r:aV [x] us):∃u,us=[u]/\RelV x u:=by
 cases r with
 |cons b a=>cases a;exact⟨_,rfl,b⟩
theorem vals2(r:aV [x,y] us):∃u d,us=[u,d]/\RelV x u/\RelV y d:=by
 cases r with
 |cons e c=>
  cases c with
  |cons b a=>cases a;exact⟨_,_,rfl,e,b⟩
theorem Qw:Xx X (.type "int") (λxs H Q=>(∃i,xs=[.int i]/\Q (.int i) H)\/∃k,xs=[.bl k]/\Q (.int (if k then 1 else 0)) H):=by
 intro a s c H xs d Q I r h;rcases h with⟨i,rfl,q⟩|⟨k,rfl,q⟩
 ·obtain⟨u,rfl,t,rfl⟩:=vals1 r;exact call_int_int ⟨.int i,H,I,⟨_,rfl⟩,q⟩
 ·obtain⟨u,rfl,b⟩:=vals1 r;cases b;exact call_int_bool ⟨.int (if k then 1 else 0),H,I.tok _,⟨_,rfl⟩,q⟩
end
end L2
namespace L2
open PySem PySem.Spec PyProof.Rows
structure gn(h:aT)(x dx C:aF)(mA:aG->Option aC):Prop where
 obj:h.get? x=aA (lA C dx)
 ns:h.Ns1 dx mA
 ne:dx≠x
theorem U8{h:aT}(n:h.Ns1 dx d):∃od,h.get? dx=aA od/\∀name,o7 name od=aA (d name):=by
 obtain⟨o,es,ep,f,hd,i,_,g⟩:=n;refine⟨o,f,λname=>?_⟩;have e:=g name;unfold nsFind findBy at e;rw[←Array.find?_toList] at e;unfold o7;rw[hd];dsimp only;split
 ·rename_i y q;rw[q] at e;exact congrArg aA e
 ·rename_i q;rw[q] at e;have a:es.toList.any (·.refKey)=aD:=by
   rw[DA];intro y c;obtain⟨z,t,b⟩:=i y (DZ.mp c);simp[DictEntry.refKey,b]
  have j:¬es.toList.any (·.refKey)=aB:=by rw[a];exact fB
  rw[if_neg j];exact congrArg aA e
theorem gn.look(I:gn h x dx C d):∃od,PySem.W.InstAt h x (lA C dx) C (aA od)/\∀name,o7 name od=aA (d name):=
 let ⟨od,ho,a⟩:=U8 I.ns
 ⟨od,⟨I.obj,rfl,rfl,ho⟩,a⟩
section
variable {prog:Program}{w:World}{A:Around}{E:aC->Shared->Prop}{s:Shared}{K:PySem.W.Frag}{x dx C f:aF}{mA:aG->Option aC}{name:aG}{v:aC}
theorem iW(X:K.In s.heap)(I:gn s.heap x dx C mA)(f:nE K C name=aB)(e:nr K C=aB)
  (g:dO K (.ref C) name=aA aE) (b:mA name=aA v) (a:Db v=aB) (h:Q v {s with toks:=s.toks+1}) :
  wpAny (aQ prog w) A (getAttr (.ref x) name d) Q E s:=by
 obtain⟨i,J,c⟩:=I.look;exact PySem.W.get_value X J (nv f).1 (PySem.W.findObj_own e g rfl (by rw[c,b])) a h
theorem SJ(X:K.In s.heap)(I:gn s.heap x dx C mA)(a:nE K C name=aB)
  (g:dO K (.ref C) name=aA (aA (.ref f))) (d:sD K (.ref f)=aB) (c:mA name=aE) (h:Q (.ref f,[.ref x]) s) :
  wpAny (aQ prog w) A (rM (.ref x) name j) Q E s:=by
 obtain⟨b,J,e⟩:=I.look;exact PySem.W.method_fn X J (nv a).1 (nv a).2 g (beq_iff_eq.mp d) (by show (o7 name b).map (·.isSome)=aA aD;rw[e,c];rfl) h
theorem OP(X:K.In s.heap)(I:gn s.heap x dx C mA)
  (hs:dO K (.ref C) "__setattr__"=aA (aA (.builtin "object.__setattr__"))) (l:sW K C=aB) (k:sT K C name=aA aE) (m:nr K C=aB)
  (hw:sE mA ns) (hsz:ns.length<=sizeLine)
  (h:∀h',gn h' x dx C (λy=>if y=name then aA v else mA y)->f9 dx s.heap h'->Q () {s with heap:=h',toks:=s.toks+2}) :
  wpAny (aQ prog w) A (setAttr (.ref x) name v) Q E s:=by
 obtain⟨q,J,u⟩:=I.look;refine PySem.W.set_plain X J hs (PySem.W.osa_open (s:={s with toks:=s.toks+1}) (r:=aE) X J l k λb=>?_);obtain⟨cd,n,g⟩:=PySem.W.any_some m;have j:s.heap.get? x=aA ⟨.ref C,aA dx,.plain,#[]⟩:=I.obj;refine wpAny_bind (wpAny_pure (wpAny_bind (wpAny_bind (wpAny_loadPart j (wpAny_bind (HI (s:={s with toks:=s.toks+1}) (PySem.W.looks_clsIn X n) ?_))))));rw[g];refine wpAny_pure (a:=aA dx) (wpAny_bind (wpAny_pure (wpAny_bind ?_)));refine wpAny_nsSet1 (s:={s with toks:=s.toks+1}) I.ns λh' d c=>?_;obtain⟨t,o,p,e,f,i⟩:=d.count (HD name v hw);refine wpAny_bind (wpAny_lookBehind e (by rw[f];exact pastItsLine_dict (cT i (by rw[eZ];lia))) ?_);exact wpAny_pure (h _ ⟨(c.2 _ (cX I.ne)).trans I.obj,d,I.ne⟩ c)
theorem Jg{R:Result->a_->Prop}(X:K.In s.heap)(b:mW K C=aB)
  (hi:dO K (.ref C) "__init__"=aA (aA (.ref f))) (c:CQ K (.ref f)=aA (.type "function"))
  (h:fP (aQ prog w) (A.under (.builtin "type.__call__" ⟨.ref C::vs,j⟩)) (.call (.ref f) ⟨.ref (s.heap.objs.size+1)::vs,j⟩) (PySem.W.InitBack (s.heap.objs.size+1) R)
   {s with heap:=(s.heap.push iP).push (lA C s.heap.objs.size)}) :
  fP (aQ prog w) A (.call (.ref C) ⟨vs,j⟩) R s:=by
 obtain⟨e,g,d,t,os⟩:=s;exact PySem.W.make_core (PySem.W.makes_of X b) (PySem.W.looks_findIn X hi) (λa=>PySem.W.bind_fn X a c) (.inl rfl) h
end
noncomputable def vE(f:aG)(v:V):List (aG×V)->List (aG×V)
 |[]=>[(f,v)]
 |(g,x)::r=>if g=f then (g,v)::r else (g,x)::vE f v r
theorem yN(f g:aG)(v:V):∀fs:List (aG×V),(vE f v fs).lookup g=if g=f then aA v else fs.lookup g
 |[]=>by
  show iy g [(f,v)]=_;by_cases h:g=f
  ·have a:(g==f)=aB:=beq_iff_eq.mpr h;simp only[iy,a,if_pos h]
  ·have a:(g==f)=aD:=beq_eq_false_iff_ne.mpr h;simp only[iy,a,if_neg h]
 |(k,x)::r=>by
  have c:=yN f g v r;rw[show vE f v ((k,x)::r)=(if k=f then (k,v)::r else (k,x)::vE f v r) from rfl];by_cases b:k=f
  ·rw[if_pos b];by_cases h:g=k
   ·have a:(g==k)=aB:=beq_iff_eq.mpr h;simp only[iy,a,if_pos (h.trans b)]
   ·have a:(g==k)=aD:=beq_eq_false_iff_ne.mpr h;simp only[iy,a,if_neg (λe:g=f=>h (e.trans b.symm))]
  ·rw[if_neg b];by_cases h:g=k
   ·have a:(g==k)=aB:=beq_iff_eq.mpr h;simp only[iy,a,if_neg (λe:g=f=>b (h.symm.trans e))]
   ·have a:(g==k)=aD:=beq_eq_false_iff_ne.mpr h;simp only[iy,a];exact c
theorem ye(f:aG)(v:V):∀fs:List (aG×V),f∈(vE f v fs).map (·.1)/\∀g,g∈fs.map (·.1)->g∈(vE f v fs).map (·.1)
 |[]=>⟨by simp[vE],λg h=>by simp at h⟩
 |(k,x)::r=>by
  obtain⟨c,b⟩:=ye f v r;rw[show vE f v ((k,x)::r)=(if k=f then (k,v)::r else (k,x)::vE f v r) from rfl];by_cases a:k=f
  ·rw[if_pos a];subst a;exact⟨by simp,λg h=>by simpa using h⟩
  ·rw[if_neg a];refine⟨?_,λg h=>?_⟩
   ·rw[dC];exact dN _ c
   ·rw[dC] at h ⊢;rcases cO.mp h with e|e
    ·exact cO.mpr (.inl e)
    ·exact dN _ (b g e)
theorem yz(f:aG)(v:V):∀fs:List (aG×V),(vE f v fs).length<=fs.length+1
 |[]=>by simp[vE]
 |(k,x)::r=>by
  have b:=yz f v r;rw[show vE f v ((k,x)::r)=(if k=f then (k,v)::r else (k,x)::vE f v r) from rfl];by_cases a:k=f
  ·rw[if_pos a,eZ,eZ];lia
  ·rw[if_neg a,eZ,eZ];lia
theorem c_.some_of(r:c_ (aA v) o):∃u,o=aA u/\RelV v u:=by
 cases o with
 |none=>exact (show False from r).elim
 |some u=>exact⟨u,rfl,r⟩
theorem c_.none_of(r:c_ aE o):o=aE:=by
 cases o with
 |none=>rfl
 |some u=>exact (show False from r).elim
theorem U5(r:RelV v u):Db u=aB:=by
 cases v with
 |non=>cases (show u=eY from r);rfl
 |bl b=>cases (show u=mv b from r);rfl
 |int i=>obtain⟨t,e⟩:=(show ∃t,u=lN i t from r);cases e;rfl
 |str x=>obtain⟨t,e⟩:=(show ∃t,u=oF x t from r);cases e;rfl
 |byt b=>obtain⟨t,e⟩:=(show ∃t,u=Ce b t from r);cases e;rfl
 |flt b=>obtain⟨t,e⟩:=(show ∃t,u=Cb b t from r);cases e;rfl
 |ref a=>cases (show u=cY a from r);rfl
 |ty n=>cases (show u=oG n from r);rfl
section
variable {P:Program}{w:World}{H:Hp}{h:aT}{a C dx:aF}{fs:List (aG×V)}
theorem xI(hok:dS P w H h)(e:H a=aA (.ins C dx fs)):∃j,gn h a dx C j/\(∀f,c_ (fs.lookup f) (j f))/\sE j (fs.map (·.1))/\fs.length<=1000/\H dx=aA (.own a):=by
 obtain⟨d,z,c,b,j,n,r,q⟩:=(show bB P w H h a (.ins C dx fs) from hok a _ e);exact⟨j,⟨b,n,c⟩,r,q,z,d⟩
end
structure gu(K:PySem.W.Frag)(C:aF):Prop where
 pg:nE K C Str.empty=aB
 hd:nr K C=aB
 po:sW K C=aB
 sa:dO K (.ref C) "__setattr__"=aA (aA (.builtin "object.__setattr__"))
theorem gu.get{K:bM}(c:gu K C)(f:aG):nE K C f=aB:=c.pg
noncomputable def cJ(K:bM)(C:aF)(f:aG):Prop:=dO K (.ref C) f=aA aE
theorem cJ.taker{K:bM}(n:cJ K C f):sT K C f=aA aE:=by
 unfold sT;rw[show dO K (.ref C) f=aA aE from n];rfl
structure md(K:PySem.W.Frag)(C:aF)(m:aG)(f:aF):Prop where
 at_:dO K (.ref C) m=aA (aA (.ref f))
 fn:sD K (.ref f)=aB
 kp:fK K (.ref f)=aB
section
variable {X:Cx}{pins:List (aF×bD)}{σ:St}{H:Hp}{s:Shared}{a C dx:aF}{fs:List (aG×V)}{f:aG}{v:V}{A:Around}{E:aC->Shared->Prop}
theorem ZR(I:Inv X pins σ H s)(e:H a=aA (.ins C dx fs))(c:gu X.K C)(n:cJ X.K C f)(l:fs.lookup f=aA v)
  (h:∀u d,Inv X pins σ H d->RelV v u->Q u d):wpAny (aQ X.prog X.w) A (getAttr (.ref a) f b) Q E s:=by
 obtain⟨i,O,r,_,_,_⟩:=xI I.hok e;obtain⟨u,j,g⟩:=c_.some_of (v:=v) (o:=i f) (by rw[←l];exact r f);exact iW I.kIn O (c.get f) c.hd n j (U5 g) (h u _ (I.tok _) g)
theorem KP(I:Inv X pins σ H s)(e:H a=aA (.ins C dx fs))(c:gu X.K C)(k:md X.K C m g)(l:fs.lookup m=aE)
  (h:Q (.ref g,[.ref a]) s):wpAny (aQ X.prog X.w) A (rM (.ref a) m j) Q E s:=by
 obtain⟨b,O,r,_,_,_⟩:=xI I.hok e;have d:b m=aE:=c_.none_of (by rw[←l];exact r m);exact SJ I.kIn O (c.get m) k.at_ k.fn d h
theorem K1(I:Inv X pins σ H s)(e:H a=aA (.ins C dx fs))(c:gu X.K C)(n:cJ X.K C f)(G:fs.length<1000)(p:RelV y u)
  (h:∀j,Inv X pins σ (upd H a (.ins C dx (vE f y fs))) j->Q () j):wpAny (aQ X.prog X.w) A (setAttr (.ref a) f u) Q E s:=by
 obtain⟨k,O,r,i,_,l⟩:=xI I.hok e;have t:(fs.map (·.1)).length<=sizeLine:=by rw[bP,fR];lia
 refine OP I.kIn O c.sa c.po n.taker c.hd i t λD d m=>h _ ?_;have hd:∃o,D.get? dx=aA o:=let ⟨o,_,_,F,_⟩:=d.ns;⟨o,F⟩;refine I.write (x:=a) (e:=dx) (by rw[e];exact gy) (.inr l) (λb q B z=>(m.2 b B).trans z) hd ?_;refine⟨by rw[z9 O.ne];exact l,?_,O.ne,d.obj,_,d.ns,λg=>?_,λg v=>?_⟩
 ·have:=yz f y fs;lia
 ·show c_ ((vE f y fs).lookup g) (if g=f then aA u else k g);rw[yN];by_cases q:g=f
  ·rw[if_pos q,if_pos q];exact p
  ·rw[if_neg q,if_neg q];exact r g
 ·by_cases q:g=f
  ·rw[q];exact (ye f y fs).1
  ·refine (ye f y fs).2 g (i g λz=>v ?_);show (if g=f then aA u else k g)=aE;rw[if_neg q];exact z
theorem Inv.made(I:Inv X pins σ H s):Inv X pins σ (upd (upd H s.heap.objs.size (.own (s.heap.objs.size+1))) (s.heap.objs.size+1) (.ins C s.heap.objs.size []))
  {s with heap:=(s.heap.push iP).push (lA C s.heap.objs.size)}:=by
 have c:(s.heap.push iP).get? s.heap.objs.size=aA iP:=eF s.heap rfl;have g:((s.heap.push iP).push (lA C s.heap.objs.size)).get? (s.heap.objs.size+1)=aA (lA C s.heap.objs.size):=by
  have:=eF (s.heap.push iP) (o:=lA C s.heap.objs.size) rfl;rwa[gX] at this
 have f:(s.heap.push iP).Ns s.heap.objs.size (λ_=>aE):=⟨iP,#[],_,c,rfl,(λe he=>absurd he (by simp)),λ_=>rfl⟩;have h:=I.laid (a:=s.heap.objs.size) (o:=.own (s.heap.objs.size+1)) (h':=s.heap.push iP) (t':=s.toks) (λb u q=>bZ _ q) (bH _) ⟨_,c⟩;refine h.laid (a:=s.heap.objs.size+1) (o:=.ins C s.heap.objs.size []) (t':=s.toks) (λb u q=>bZ _ q) (iN (gX _ _)) ?_;have ne:s.heap.objs.size≠s.heap.objs.size+1:=d6 (iO _);refine⟨by rw[z9 ne,z5],fQ _,ne,g,λ_=>aE,(Heap.Ns1.of_empty f).at λo q=>bZ _ q,λ_=>gy,λy d=>absurd rfl d⟩
theorem Rt{env:Env}{e:aI}{f:aG}(a:mE e f env (eval e env)=eval e env)
  (h:wpAny (aQ prog w) A (eval e env) (λo d=>wpAny (aQ prog w) A (getAttr o f aB) Q E d) E s):wpAny (aQ prog w) A (eval (.Attribute e f pos) env) Q E s:=
 Attribute_any_ h (by rw[arm_eval_Attribute,a])
end
noncomputable def IB (K:bM)(d:TE)(f:aG):TE:=λc H Q=>d c H λx b=>∃a C dx fs v,x=.ref a/\b a=aA (.ins C dx fs)/\gu K C/\cJ K C f/\fs.lookup f=aA v/\Q v b
noncomputable def zM (K:bM)(e d:TE)(f:aG):TS:=λD b H=>d b H λy g=>e b g λx c=>∃a C dx fs,x=.ref a/\c a=aA (.ins C dx fs)/\gu K C/\cJ K C f/\fs.length<1000/\
 D.nx b (upd c a (.ins C dx (vE f y fs)))
section
variable {X:Cx}{o e value:aI}{f:aG}{pos pos':Pos}{ta tv:TE}
theorem NQ(he:PE X e ta)(j:mE e f X.env (eval e X.env)=eval e X.env):PE X (.Attribute e f pos) (IB X.K ta f):=by
 intro b s d H Q I h;refine Rt j (aY (he b s d H _ I h) λu t ⟨x,o,m,g,a,C,dx,fs,v,ex,ea,c,n,l,q⟩=>?_);subst ex;obtain rfl:u=cY a:=g;exact ZR m ea c n l λp r k i=>⟨v,o,k,i,q⟩
theorem Ou(p:PE X o ta)(m:PE X value tv)(hs:iw value (aA (.Attribute o f pos')) pos.line X.env=pure aD):PS X (.Assign [.Attribute o f pos'] value pos) (zM X.K ta tv f):=by
 intro b s d H D I h;refine plainObj_wpAny_Assign_Attribute (aY (m b s d H _ I h) λu e ⟨y,w,v,g,q⟩=>aY (p b e d w _ v q) λk A ⟨x,B,t,i,a,C,dx,fs,ex,ea,c,n,l,j⟩=>?_) hs;subst ex;obtain rfl:k=cY a:=i;exact K1 t ea c n l g λz r=>⟨d,_,r,j⟩
end
end L2
namespace L2
open PySem PySem.Spec PyProof.Rows
structure cB(k:Nat)(A:Around):Prop where
 hd:A.handled=aE
 dp:A.depth+3*k+5<recursionLimit
 un:A.units+16*k+200<cLine
theorem cB.mono(r:cB k A)(h:j<=k):cB j A:=⟨r.hd,by have:=r.dp;lia,by have:=r.un;lia⟩
theorem cB.deeper(r:cB (k+1) A)(env:Env):cB k (A.deeper env):=
 ⟨r.hd,by have:=r.dp;show A.depth+1+3*k+5<_;lia,by have:=r.un;show A.units+3+16*k+200<_;lia⟩
theorem Kj{A:eM}:(A.under (.builtin "type.__call__" ⟨.ref C::us,d⟩)).depth=A.depth+1:=by
 first|rfl|simp[sC,Code.weight,Code.isCreation,Code.isGuard,Code.isCaller,Ca,sB,guardIds]
theorem Kn{A:eM}:(A.under (.builtin "type.__call__" ⟨.ref C::us,d⟩)).units=A.units+1:=by
 first|rfl|simp[sC,Code.cUnits,Ca,sB]
theorem cB.make(r:cB (k+1) A)(C:aF)(us:List aC)(a:List (aG×aC)):cB k (A.under (.builtin "type.__call__" ⟨.ref C::us,a⟩)):=
 ⟨r.hd,by have:=r.dp;rw[Kj];omega,by have:=r.un;rw[Kn];omega⟩
theorem cB.depth(r:cB k A):A.depth<recursionLimit:=by have:=r.dp;lia
noncomputable def Ln:TA:=λ_ H Q=>Q [] H
noncomputable def L7(d:TE)(c:TA):TA:=λa H Q=>d a H λx f=>c a f λb e=>Q (x::b) e
section
variable {X:Cx}{e:aI}{es:List aI}{te:TE}{t:TA}{pos:Pos}
theorem qp:PA X [] Ln:=λ_ _ _ _ H Q I h=>o5 ⟨[],H,I,.nil,h⟩
theorem zD(m:PE X e te)(l:PA X es t)(hs:d_ (e::es) X.env=(aD,eval e X.env)::d_ es X.env:=by rfl):PA X (e::es) (L7 te t):=by
 intro b a s c H Q I h;rw[hs];show wpAny _ _ (spliced ((aD,eval e X.env)::fL b (d_ es X.env))) _ _ s;refine pz (aY (m a s c H _ I h) λu f ⟨x,q,o,i,k⟩=>?_);exact aY (l b a f c q _ o k) λr v ⟨d,p,n,g,j⟩=>⟨x::d,p,n,.cons i g,j⟩
noncomputable def IM (t:TA):TE:=λc H Q=>t c H λa b=>a.length<=sizeLine/\∀p,b p=aE->Q (.ref p) (upd b p (.tup a))
noncomputable def Lh (t:TA):TE:=λc H Q=>t c H λa b=>a.length<=sizeLine/\∀p,b p=aE->Q (.ref p) (upd b p (.lst a))
theorem GD{x1}(h:PA X es t):PE X (.Tuple es x1 pos) (IM t):=by
 intro a s g H Q I k;refine wpAny_Tuple_spliced (aY (h pos a s g H _ I k) λj c ⟨i,f,d,r,z,q⟩=>⟨by rw[←r.length];exact z,?_⟩);have l:f c.heap.objs.size=aE:=d.hok.fresh (bH _);refine⟨.ref c.heap.objs.size,upd f c.heap.objs.size (.tup i),d.laid (t':=c.toks) (λb u e=>bZ _ e) (bH _) ?_,rfl,q _ l⟩;exact⟨z,j,r,⟨_,eF _ rfl,rfl,_,rfl⟩⟩
theorem Gk(h:PA X es t):PE X (.List es pos) (Lh t):=by
 intro a s g H Q I k;refine wpAny_List_spliced (aY (h pos a s g H _ I k) λj c ⟨i,f,d,r,z,q⟩=>⟨by rw[←r.length];exact z,?_⟩);have l:f c.heap.objs.size=aE:=d.hok.fresh (bH _);refine⟨.ref c.heap.objs.size,upd f c.heap.objs.size (.lst i),d.laid (t':=c.toks) (λb u e=>bZ _ e) (bH _) ?_,rfl,q _ l⟩;exact⟨z,j,0,r,eF _ rfl⟩
end
noncomputable abbrev Sp:=List V->Hp->VK->XK->Prop
noncomputable abbrev mf:=List Env->Hp->a_->XK->aC->a_->Prop
structure dI(P:Program)(w:World)(K:PySem.W.Frag)(mg:aG->Option aC)(base:aT)(A:Around)(outer:List Env)(s:Shared)(H:Hp):Prop where
 frames:A.frames=aA outer
 mod:Mod K mg base
 bs:∀b o,base.get? b=aA o->s.heap.get? b=aA o/\H b=aE
 bsz:base.objs.size<=s.heap.objs.size
 funs:s.heap.FunFrames base outer
 frf:∀b∈fv outer,H b=aE
 hok:dS P w H s.heap
 bare:iH s.gens
inductive CE(outer:List Env)(P:Program)(w:World)(H:Hp)(s:Shared)(Q:VK)(u:aC)(s':Shared):Prop where
 |mk (v:V) (H':Hp) (o:s'.os=s.os) (b:iH s'.gens) (n:Un (fv outer) [] H H' s.heap s'.heap) (k:dS P w H' s'.heap) (r:RelV v u) (q:Q v H')
noncomputable def CR (CX:mf)(outer:List Env)(P:cF)(w:dJ)(H:Hp)(s:a_)(Q:VK)(E:XK)(r:Result)(a:a_):Prop:=
 match r with
 |.ok (.ret u)=>CE outer P w H s Q u a
 |.ok _=>False
 |.error e=>CX outer H s E e a
structure bY(P:Program)(w:World)(K:PySem.W.Frag)(mg:aG->Option aC)(base:aT)(CX:mf)(k:Nat)(f:aF)(fd:FuncData)(ps:List aG)(sp:Sp):Prop where
 len:∀vs H Q E,sp vs H Q E->vs.length=ps.length
 run:∀(A:eM) (outer:List Env) (s:a_) (H:Hp) (args:Args) (us:List aC) (vs:List V) (Q:VK) (E:XK),cB k A->dI P w K mg base A outer s H->jp s fd args (ps.zip us)->aV vs us->sp vs H Q E->
  fP (aQ P w) A (.call (.ref f) args) (CR CX outer P w H s Q E) s
theorem bY.imp{P:cF}{K:bM}(F:bY P w K mg base CX k f fd ps sp)
  (h:∀vs H Q E,d vs H Q E->sp vs H Q E):bY P w K mg base CX k f fd ps d:=
 ⟨λvs H Q E q=>F.len vs H Q E (h _ _ _ _ q),λA outer s H args us vs Q E b he c a hs=>F.run A outer s H args us vs Q E b he c a (h _ _ _ _ hs)⟩
theorem dI.make{P:cF}{K:bM}(e:dI P w K mg base A outer s H)(C:aF)(us:List aC)(a:List (aG×aC)) :
  dI P w K mg base (A.under (.builtin "type.__call__" ⟨.ref C::us,a⟩)) outer s H:=⟨by first|exact e.frames|(simpa[sC,Code.envs,sB,pushEnvs] using e.frames),e.mod,e.bs,e.bsz,e.funs,e.frf,e.hok,e.bare⟩
theorem dI.in1{P:cF}{K:bM}(e:dI P w K mg base A outer s H) :
  dI P w K mg base A.in1 outer s H:=⟨e.frames,e.mod,e.bs,e.bsz,e.funs,e.frf,e.hok,e.bare⟩
section
variable {X:Cx}{pins:List (aF×bD)}{σ:St}{H:Hp}{s s':Shared}
theorem Inv.env0(I:Inv X pins σ H s):dI X.prog X.w X.K X.mg X.base X.A X.stack s H:=
 ⟨I.ok.frames,I.ok.mod,I.bs,cT I.ok.bsz I.sz,I.stack,I.stkFree,I.hok,I.bare⟩
theorem Inv.after(I:Inv X pins σ H s)(h:CE X.stack X.prog X.w H s Q u s'):EP X pins σ Q u s':=by
 obtain⟨v,e,os,bare,un,hok,r,q⟩:=h;obtain⟨c,g,d,t,a⟩:=s';obtain rfl:a=s.os:=os;exact⟨v,e,I.call (h':=c) (g':=g) (d':=d) (t':=t) (ch:=[]) un hok bare (λb z=>absurd z (by simp)),r,q⟩
end
noncomputable def Binds(K:bM)(fd:FuncData)(ps:List aG)(ds:List aC):Prop:=
 ∀(s:a_) (a:List aC),K.In s.heap->(a++ds).length=ps.length->jp s fd ⟨a,[]⟩ (ps.zip (a++ds))
theorem Binds.all{K:bM}(h:∀us:List aC,us.length=ps.length->lc fd ⟨us,[]⟩=pure (ps.zip us)):Binds K fd ps []:=λs us _ a=>by
 rw[gC] at a ⊢;exact .of_eq (h us a)
section
variable {f C:aF}
structure Mk(K:PySem.W.Frag)(C f:aF):Prop where
 makes:mW K C=aB
 init:dO K (.ref C) "__init__"=aA (aA (.ref f))
 fn:sD K (.ref f)=aB
 kp:fK K (.ref C)=aB
end
structure eK(N P:List aG)(sc:Scope):Prop where
 kind:sc.kind=.function
 co:sc.isCoroutine=aD
 gen:sc.isGenerator=aD
 nd:N.Nodup
 pre:N.take P.length=P
 par:∀x∈P,sc.names.lookup x=aA .local\/sc.names.lookup x=aA .cell
 nofree:∀y∈sc.names,y.2≠.free
theorem QF{kindOf:aG->Option lb}:∀{binds:List (aG×aC)}{m:aG->Option aC},(∀v,(x,v)∉binds)->i9 kindOf binds m x=m x
 |[],_,_=>rfl
 |(n,v)::r,m,h=>by
  unfold i9;rw[QF λw hw=>h w (dN _ hw)];split
  ·have:x≠n:=by rintro rfl;exact h v eG
   simp[this]
  ·rfl
theorem QC{kindOf:aG->Option lb}:∀{binds:List (aG×aC)}{m:aG->Option aC},(∀v,(x,v)∉binds)->i8 kindOf binds m x=m x
 |[],_,_=>rfl
 |(n,v)::r,m,h=>by
  unfold i8;rw[QC λw hw=>h w (dN _ hw)];split
  ·rfl
  ·have:x≠n:=by rintro rfl;exact h v eG
   simp[this]
theorem Wg{kindOf:aG->Option lb}:∀{P:List aG}{vs:List aC}{i:Nat}{m:aG->Option aC},P.Nodup->P[i]?=aA x->vs[i]?=aA v->kindOf x=aA .local->
  i9 kindOf (P.zip vs) m x=aA v
 |[],_,_,_,_,h,_,_=>by simp at h
 |_::_,[],_,_,_,_,h,_=>by simp at h
 |p::P,w::vs,0,m,c,b,a,d=>by
  simp at b a;subst b;subst a;show i9 kindOf ((p,w)::P.zip vs) m p=_;unfold i9;rw[QF λv e=>(lY.mp c).1 (sS e).1,if_pos d];simp
 |p::P,w::vs,i+1,m,c,b,a,d=>by
  show i9 kindOf ((p,w)::P.zip vs) m x=_;unfold i9;exact Wg (i:=i) (lY.mp c).2 (by simpa using b) (by simpa using a) d
theorem QW{kindOf:aG->Option lb}:∀{P:List aG}{vs:List aC}{i:Nat}{m:aG->Option aC},P.Nodup->P[i]?=aA x->vs[i]?=aA v->kindOf x≠aA .local->
  i8 kindOf (P.zip vs) m x=aA v
 |[],_,_,_,_,h,_,_=>by simp at h
 |_::_,[],_,_,_,_,h,_=>by simp at h
 |p::P,w::vs,0,m,c,b,a,d=>by
  simp at b a;subst b;subst a;show i8 kindOf ((p,w)::P.zip vs) m p=_;unfold i8;rw[QC λv e=>(lY.mp c).1 (sS e).1,if_neg d];simp
 |p::P,w::vs,i+1,m,c,b,a,d=>by
  show i8 kindOf ((p,w)::P.zip vs) m x=_;unfold i8;exact QW (i:=i) (lY.mp c).2 (by simpa using b) (by simpa using a) d
noncomputable def start(N:List aG)(vs:List V):St:=vs.map aA++lu (N.length-vs.length) aE
noncomputable def Km (CX:mf)(P:cF)(w:dJ)(K:bM)(mg:aG->Option aC)(base:aT)(N:List aG)(qual:aG)(scope:Scope)(f:aF)(cd:aC)(A:eM)(outer:List Env)(s:a_)(H:Hp)(E:XK)(fnb:aG->Bool:=λ_=>aB):Cx where
 prog:=P
 w:=w
 K:=K
 mg:=mg
 base:=base
 A:=A.deeper (gw qual scope s.heap.objs.size f cd)
 N:=N
 s₀:=s
 H₀:=H
 env:=gw qual scope s.heap.objs.size f cd
 outer:=outer
 stack:=gw qual scope s.heap.objs.size f cd::outer
 ex:=[]
 calm:=aB
 fn:=fnb
 pn:=[]
 xe:=λe b=>wpAny (aQ P w) (A.deeper (gw qual scope s.heap.objs.size f cd)) (ow (gw qual scope s.heap.objs.size f cd) e) (λ_ a=>CX outer H s E e a) (λc a=>CX outer H s E c a) b
theorem Vx{sc:Scope}(h:sc.names.lookup x=aA .cell):∃c,(rL n sc.names []).lookup x=aA c:=by
 have q:=D9 sc.names n [] (.inl h);exact pD.mp q
theorem Wh{CX:mf}{P:cF}{w:dJ}{K:bM}{mg:aG->Option aC}{base:aT}{N ps:List aG}{qual:aG}{f:aF}{cd:aC}{A:eM}{s s1:a_}{H:Hp}{E:XK}{vs:List V} 
  (S:eK N ps scope) (hd:A.handled=aE) (e0:dI P w K mg base A outer s H) (J:vs.length=ps.length) (r:aV vs us)
  (x:InCallC s s.heap.objs.size (i9 (gw qual scope s.heap.objs.size f cd).kindOf (ps.zip us) λ_=>aE) (rL (s.heap.objs.size+1) scope.names []) (i8 (gw qual scope s.heap.objs.size f cd).kindOf (ps.zip us) λ_=>aE) s1) :
  Inv (Km CX P w K mg base N qual scope f cd A outer s H E fnb) [] (start N vs) H s1:=by
 have F:ps.length<=N.length:=by have:=congrArg iM S.pre;rw[mz] at this;lia
 obtain⟨t,I,rfl,C⟩:=x.done;have g:∀b:aF,b∉(Km CX P w K mg base N qual scope f cd A outer s H E fnb).ex:=λb z=>absurd (show b∈([]:List aF) from z) (by simp)
 refine⟨⟨e0.mod,S.kind,rfl,rfl,bH _,λy z c t d=>?_,λy j=>?_,λy c _ h=>?_,λ_=>hd,DY e0.frames,.inr ⟨rfl,rfl⟩,λb z=>absurd z (g b),e0.bs,e0.bsz,λb _ _=>g b,λb z=>absurd z (g b),e0.funs,e0.frf⟩,
  rfl,e0.bare,Un.kept C,⟨_,x.toInCall.ns,λi y v t d L=>?_⟩,λy c h=>⟨_,x.cell y c h⟩,e0.hok.fresh (bH _),λy c h=>?_,λp m=>absurd (show p∈([]:List (aF×bD)) from m) (by simp),e0.hok.kept C,?_⟩
 ·exact name_of_addr x.apart (iS t) (iS d)
 ·have j:scope.names.lookup y=aA .cell\/scope.names.lookup y=aA .free:=j;rcases j with j|j
  ·exact Vx j
  ·exact absurd rfl (S.nofree _ (iS j))
 ·exact nh (x.above y c (iS h))
 ·have o:i<vs.length:=by
   unfold start at d;by_cases o:i<vs.length
   ·exact o
   ·rw[fN (by simpa using o)] at d;rw[pv] at d;split at d<;>cases d
  have G:vs[i]?=aA v:=by
   unfold start at d;rw[dP (by simpa using o),c9] at d;cases e:vs[i]? with
   |none=>rw[e] at d;cases d
   |some a=>rw[e] at d;cases d;rfl
  obtain⟨u,B,D⟩:=r.get G;have m:ps[i]?=aA y:=by
   rw[←S.pre,List.getElem?_take_of_lt (by lia)];exact t
  have l:ps.Nodup:=by rw[←S.pre];exact S.nd.sublist (Dz _ _)
  refine⟨u,D,?_⟩;rcases S.par y (cP m) with k|k
  ·exact .inl ⟨k,Wg l m B k⟩
  ·obtain⟨c,e⟩:=Vx (n:=s.heap.objs.size+1) k;refine .inr ⟨.inl k,c,e,?_⟩;have q:=x.cell y c e;rw[QW l m B (by show scope.names.lookup y≠_;rw[k];decide)] at q;exact q
 ·exact .inl (e0.hok.fresh (nh (x.above y c (iS h))))
 ·unfold start;show _=N.length;rw[gE,bP,D5];lia
theorem Lw {CX : mf}{P : cF}{w : dJ}{K : bM}{k : Nat}{f : aF}{name qual : aG}{params : Arguments}{body : List bG}{M kV doc L a ct T : aC}{an od : Option aF}
 {N ps : List aG}{sp : Sp}(lk : K.lookup f = aA ⟨T, od, .func (gW name qual params body scope M kV doc L an a ct), U⟩) (F : gx K a qual = aB) (S : eK N ps scope)
    (len:∀vs H Q E, sp vs H Q E->vs.length=ps.length)
    (i : ∀ (A : eM) (outer : List Env) (s : a_) (H : Hp) (vs : List V) (Q : VK) (E : XK), cB k (A.deeper (gw qual scope s.heap.objs.size f a)) -> sp vs H Q E -> (∀ y c, (gw qual scope s.heap.objs.size f a).cells.lookup y = aA c -> s.heap.objs.size <= c /\ H c = aE) ->
      ∃t, gP (Km CX P w K mg base N qual scope f a A outer s H E fnb) body t/\t {nx:=λ_ j=>Q .non j, rt:=Q} (start N vs) H) :
    bY P w K mg base CX (k+1) f (gW name qual params body scope M kV doc L an a ct) ps sp:=by
  refine⟨len, λA outer s H args R vs Q E D e0 hb r p=>?_⟩;have hl:=len _ _ _ _ p;have O:K.In s.heap:=e0.mod.kin.keeps λb o e=>(e0.bs b o e).1;have C:s.heap.NoLimit:=e0.mod.nolimit.keeps λb o e=>(e0.bs b o e).1;have g:∀y∈ps.zip R, scope.names.lookup y.1=aA .local\/(scope.names.lookup y.1=aA .cell/\((rL (s.heap.objs.size+1) scope.names []).lookup y.1).isSome=aB):=λ⟨n, v⟩ X=>by
    rcases S.par n (sS X).1 with q|q
    · exact .inl q
    · exact .inr ⟨q, D9 _ _ _ (.inl q)⟩
  refine D4 D.depth (O _ _ lk) rfl S.co S.gen rfl (PySem.W.codeRec_of O F) (hb _ _ _ _ ?_);refine Eh S.kind g λenv he G x=>?_;subst he;refine⟨C.keeps x.toInCall.keep, codeAny_func ?_⟩;obtain⟨t, Y, Z⟩:=i A outer s H vs Q E (D.deeper _) p λy c h=>have l:=nh (x.above y c (iS h));⟨l, e0.hok.fresh l⟩;have I:Inv (Km CX P w K mg base N qual scope f a A outer s H E fnb) [] (start N vs) H G:=Wh S D.hd e0 hl r x;refine eI (Y [] G (start N vs) H _ I Z) (λfl z m=>?_) λe z m=>m
  have fin:∀{d:St}{j:Hp}{v:V}{u:aC}, Inv (Km CX P w K mg base N qual scope f a A outer s H E fnb) [] d j z->RelV v u->Q v j->CE outer P w H s Q u z:=
    λ{d j v u} J B q=>⟨v, j, J.os, J.bare, J.base, J.hok, B, q⟩
  cases fl with
  |ret u=>
    obtain⟨v, d, j, J, B, q⟩:=m;exact fin J B q
  |next=>
    obtain⟨d, j, J, q⟩:=m;exact fin (v:=V.non) (u:=eY) J rfl q
  |brk=>
    obtain⟨_, _, _, q⟩:=m;exact eT q
  |cont=>
    obtain⟨_, _, _, q⟩:=m;exact eT q
end L2
namespace HT
open PySem PyProof.Rows
noncomputable def lexLt:List Int->List Int->Bool
 |[],[]=>aD
 |[],_::_=>aB
 |_::_,[]=>aD
 |x::b,y::a=>if x=y then lexLt b a else decide (x<y)
theorem lexLt_cons(x y:Int)(xs ys:List Int):lexLt (x::xs) (y::ys)=if x=y then lexLt xs ys else decide (x<y):=rfl
theorem lexLt_nil_nil:lexLt [] []=aD:=rfl
theorem uQ(y:Int)(ys:List Int):lexLt [] (y::ys)=aB:=rfl
theorem ZA(x:Int)(xs:List Int):lexLt (x::xs) []=aD:=rfl
theorem eqAt_int(A:eM)(s:a_)(a:Int)(t:Tok)(c:Int)(u:Tok):∃e,hY A s (.int a t) (.int c u) e/\(e=aB↔a=c):=
 ⟨(a==c),Df a t c u,by simp⟩
theorem SQ(A:eM)(s:a_)(a:Int)(t:Tok)(c:Int)(u:Tok)(prog:cF)(w:dJ)(E:aC->a_->Prop)(Q:aC->a_->Prop)(h:Q (.bool (decide (a<c))) s) :
  wpAny (aQ prog w) A (nc .Lt (.int a t) (.int c u)) Q E s:=
 (rO h:wpAny (aQ prog w) A (d5 .Lt (.int a t) (.int c u)) Q E s)
section
open PySem.SeqAt
open PySem.AutoSeq1 (wpAny_loadPart')
open PySem.MeetsSeq PySem.MeetsSeq2 PySem.MeetsSeq3
theorem Qk(l b:aF)(items f:Array aC)(n n2:Nat)(dd O:Option aF)(S K:Array (Option aC))(ns I:List Int)(hi:dZ items.toList ns)(Q:dZ f.toList I) :
  Meets (lJ.«tuple.__lt__» ⟨[.ref l,.ref b],[]⟩)
   (λ_ R s=>s.heap.get? l=aA {cls:=.type "tuple",dict:=dd,data:=.seq items n,slots:=S}/\s.heap.get? b=aA {cls:=.type "tuple",dict:=O,data:=.seq f n2,slots:=K}/\
    R (.ok (.ret (.bool (lexLt ns I)))) s):=
 .of_wp λp w A R s h=>by
  obtain⟨J,g,d,H,os⟩:=s;obtain⟨V,X,h⟩:=h;have f2:=DW;have Z:items.size=ns.length:=by rw[←hi.length];simp
  have Y:f.size=I.length:=by rw[←Q.length];simp
  wp_walk using pe V,pe X,C_ _ (λbX b L=>b.1=aE/\L=⟨J,g,d,H,os⟩/\∃(G F:List aC) (j k:List Int),bX=G.zip F/\
   dZ G j/\dZ F k/\j.length+f.size=k.length+items.size/\R (.ok (.ret (.bool (lexLt j k)))) ⟨J,g,d,H,os⟩) _
  case turn=>
   rintro⟨y,x⟩ bX b L ⟨C,rfl,G,F,j,k,m,z,o,i,v⟩
   cases z with
   |nil=>rw[Dy] at m;cases m
   |cons a t E=>
    cases o with
    |nil=>rw[Dd] at m;cases m
    |cons c u D=>
     rw[py] at m;injection m with M B;injection M with T U;subst T U;rw[lexLt_cons] at v;simp only[eZ] at i;obtain⟨e,W,r⟩:=eqAt_int A.in1 ⟨J,g,d,H,os⟩ a t c u;refine wpAny_bind (W p w _ _ ?_);cases e with
     |true=>
      rw[if_pos (r.mp rfl)] at v;wp_walk;exact⟨rfl,rfl,_,_,_,_,B,E,D,by lia,v⟩
     |false=>
      rw[if_neg (λq=>absurd (r.mpr q) fB)] at v;have N:=SQ A.in1 ⟨J,g,d,H,os⟩ a t c u p w;wp_walk using N;exact⟨_,rfl,by simpa using v⟩
  case fin=>
   rintro⟨b1,b2⟩ L ⟨C,rfl,G,F,j,k,m,z,o,i,v⟩
   simp only at C
   subst C
   have P:lexLt j k=decide (items.size<f.size):=by
    cases z with
    |nil=>
     cases o with
     |nil=>
      simp only[lT] at i;rw[lexLt_nil_nil];exact (decide_eq_false (by lia)).symm
     |cons c u hw=>
      simp only[lT,eZ] at i;rw[uQ];exact (decide_eq_true (by lia)).symm
    |cons a t P=>
     cases o with
     |nil=>
      simp only[lT,eZ] at i;rw[ZA];exact (decide_eq_false (by lia)).symm
     |cons c u hw=>
      rw[py] at m;cases m
   rw[P] at v
   wp_walk
   exact⟨_,rfl,by simpa[Ee] using v⟩
  case h=>
   exact⟨rfl,rfl,items.toList,f.toList,ns,I,rfl,hi,Q,by lia,h⟩
end
section
variable {prog:Program}{w:World}{A:Around}{E:aC->Shared->Prop}{s:Shared}
theorem lt_tupInts(t:hV s.heap l items)(v:hV s.heap b d)(hi:dZ items.toList ns)(u:dZ d.toList j)
  (r:A.units<cLine) (h:Q (.bool (lexLt ns j)) s):wpAny (aQ prog w) A (d5 .Lt (.ref l) (.ref b)) Q E s:=by
 obtain⟨⟨cls,dd,m,p⟩,i,k,n,hd⟩:=id t;obtain⟨⟨o,g,data2,f⟩,a,e,q,c⟩:=id v;simp only at k hd e c;subst k hd e c
 exact D8 (op:=.Lt) ⟨_,i,rfl⟩ ⟨_,a,rfl⟩ PySem.F.slot_tuple_lt PySem.F.entry_tuple_lt (PySem.F.args_tuple_lt_2 _ _) (Qk l b items d n q dd g p f ns j hi u)
  ⟨i,a,show mv (lexLt ns j)≠DX/\Q (.bool (lexLt ns j)) s from ⟨(λx=>nomatch x),h⟩⟩ r
theorem cat_tup(p:hV s.heap t vs.toArray)(q:hV s.heap b d.toArray)(l:vs≠[])
  (h1:d=[]->Q (.ref t) s) (h2:d≠[]->Q (.ref s.heap.objs.size) {s with heap:=s.heap.push {cls:=.type "tuple",data:=.seq (vs++d).toArray}})
  (hsz:vs.length+d.length<=sizeLine):wpAny (aQ prog w) A (f8 .Add (.ref t) (.ref b)) Q E s:=by
 obtain⟨⟨cls,dd,data,j⟩,i,m,n,hd⟩:=id p;obtain⟨⟨o,h,data2,c⟩,a,g,k,f⟩:=id q;simp only at m hd g f;subst m hd g f;have e:vs.toArray++d.toArray=(vs++d).toArray:=by simp
 by_cases hw:d=[]
 ·exact sA ⟨_,i,rfl⟩ ⟨_,a,rfl⟩ sM sg tm tF (tH _ _)
   (tuple_addW1 t b vs.toArray d.toArray n k dd h j c (by simpa using l) (by simp[hw])) ⟨i,a,h1 hw⟩
 ·refine sA ⟨_,i,rfl⟩ ⟨_,a,rfl⟩ sM sg tm tF (tH _ _)
   (tuple_addW2 t b vs.toArray d.toArray n k dd h j c (by simpa using l) (by simpa using hw) (by rw[dA,dA];exact hsz)) ⟨i,a,?_⟩
  rw[e];exact h2 hw
noncomputable def sIx(n d:Nat):Option Int->Nat
 |none=>d
 |some v=>if v<0 then (v+(n:Int)).toNat else min v.toNat n
theorem NK(n d:Nat)(hd:d<=n)(o:Option Int):sIx n d o<=n:=by
 cases o with
 |none=>exact hd
 |some v=>
  show (if v<0 then (v+(n:Int)).toNat else min v.toNat n)<=n;by_cases a:v<0
  ·rw[if_pos a];lia
  ·rw[if_neg a];exact Nat.min_le_right _ _
theorem Y7(v:Int)(n d:Nat):(if v<0 then max (v+(n:Int)) 0 else min v (n:Int))=((sIx n d (aA v):Nat):Int):=by
 show (if v<0 then max (v+(n:Int)) 0 else min v (n:Int))=(((if v<0 then (v+(n:Int)).toNat else min v.toNat n):Nat):Int);by_cases a:v<0
 ·simp only[if_pos a];lia
 ·simp only[if_neg a];lia
theorem KN(lo hi:Option Int)(n:Nat):tI lo hi 1 (n:Int)=(((sIx n 0 lo:Nat):Int),((sIx n n hi:Nat):Int)):=by
 have a:¬((1:Int)<0):=by lia
 unfold tI;simp only[a,if_false];refine Prod.ext ?_ ?_
 ·cases lo with
  |none=>rfl
  |some v=>exact Y7 v n 0
 ·cases hi with
  |none=>rfl
  |some v=>exact Y7 v n n
theorem KL(i j:Nat):pH (i:Int) (j:Int) 1=j-i:=by
 unfold pH;have a:(1:Int) > 0:=by lia
 simp only[a,if_true,mo];split<;>lia
theorem uE(p:ir v o)(h:Q o s):wpAny (aQ prog w) A (HW v) Q E s:=by
 cases p with
 |none=>exact slicePart_none h
 |int i t=>exact slicePart_int h
theorem sliceApplied_gen{lo hi:Option Int}{n:Nat}(hs:s.heap.IsSliceOf u j d .none)(e:ir j lo)(c:ir d hi)
  (h:Q (((sIx n 0 lo:Nat):Int),1,sIx n n hi-sIx n 0 lo) s):wpAny (aQ prog w) A (Eg (.ref u) (pure (n:Int))) Q E s:=by
 obtain⟨os,a,f,b⟩:=id hs;unfold Eg HQ;refine wpAny_bind (wpAny_bind (ix a b (x:=j) rfl (wpAny_bind (ix a b (x:=d) rfl (wpAny_bind (ix a b (x:=.none) rfl (wpAny_pure ?_)))))));refine wpAny_bind (slicePart_none ?_);show wpAny _ _ (if ((1:Int)==0)=aB then _ else _) _ _ s;rw[if_neg (by decide)];refine wpAny_bind (uE e (wpAny_bind (uE c (wpAny_bind (wpAny_pure ?_)))));show wpAny _ _ (match tI lo hi 1 (n:Int) with|(lo,hi)=>pure (lo,(1:Int),pH lo hi 1)) _ _ s;rw[KN lo hi n];show wpAny _ _ (pure (((sIx n 0 lo:Nat):Int),(1:Int),pH ((sIx n 0 lo:Nat):Int) ((sIx n n hi:Nat):Int) 1)) _ _ s;rw[KL];exact wpAny_pure h
theorem Sx(xs:Array aC)(i k:Nat):((eX k).filterMap λ(m:Nat)=>xs[((i:Int)+(m:Int)*1).toNat]?).toArray=((xs.toList.drop i).take k).toArray:=by
 have e:(λ(m:Nat)=>xs[((i:Int)+(m:Int)*1).toNat]?)=λm=>xs[i+m]?:=by
  funext m;have:((i:Int)+(m:Int)*1).toNat=i+m:=by lia
  rw[this]
 rw[e];have:=pick_run xs i k;rw[List.filterMap_map] at this;have a:((λx=>xs[x]?) ∘ λx=>i+x)=λm=>xs[i+m]?:=rfl;rw[a] at this;rw[this]
theorem getItem_tuple_cut{lo:Option Int}(b:hV s.heap t items)(hs:s.heap.IsSliceOf j B u .none)(i:ir B lo)(g:ir u hi)
  (hw:¬(sIx items.size 0 lo=0/\sIx items.size items.size hi=items.size))
  (h:Q (.ref s.heap.objs.size) {s with heap:=s.heap.push {cls:=.type "tuple",data:=.seq ((items.toList.drop (sIx items.size 0 lo)).take (sIx items.size items.size hi-sIx items.size 0 lo)).toArray}})
  (hsz:items.size<=sizeLine):wpAny (aQ prog w) A (hX (.ref t) (.ref j)) Q E s:=by
 have a:sizeOk (.seq ((items.toList.drop (sIx items.size 0 lo)).take (sIx items.size items.size hi-sIx items.size 0 lo)).toArray):=by
  show ((items.toList.drop (sIx items.size 0 lo)).take (sIx items.size items.size hi-sIx items.size 0 lo)).toArray.size<=sizeLine;rw[dA,mz,CZ,mJ];omega
 have o:sIx items.size items.size hi<=items.size:=NK _ _ (bH _) hi;obtain⟨os,c,e,k⟩:=id hs;have f:s.TypeIs (.ref j) "slice":=⟨os,c,e⟩;unfold hX;try with_reducible refine wpAny_holding ?_
 first|refine wpAny_bind (wpAny_pure ?_)|skip
 refine wpAny_bind (Dx b.typeIs (by decide) ?_)
 refine wpAny_bind (DU (name:=gA "__getitem__") b.typeIs lU
  (CY lU b.typeIs Do ?_ (Dc _ _)))
 show wpAny _ _ (Ef (.ref t) >>= _) _ _ s;refine wpAny_bind (tupleItemsOf_ b ?_);refine wpAny_bind (sx f ?_);rw[if_pos (by decide)];refine wpAny_bind (sliceApplied_gen hs i g ?_);have d:¬((((sIx items.size 0 lo:Nat):Int)==0&&(1:Int)==1&&(sIx items.size items.size hi-sIx items.size 0 lo)==items.size)=aB):=by
  intro q;rw[cH,cH] at q;have n:((sIx items.size 0 lo:Nat):Int)=0:=eq_of_beq q.1.1;have l:sIx items.size items.size hi-sIx items.size 0 lo=items.size:=eq_of_beq q.2;exact hw ⟨by omega,by omega⟩
 show wpAny _ _ (if (((sIx items.size 0 lo:Nat):Int)==0&&(1:Int)==1&&(sIx items.size items.size hi-sIx items.size 0 lo)==items.size)=aB then _ else _) _ _ s;rw[if_neg d,Sx]
 first
  |exact wpAny_bind (m:=px _) (mH (wpAny_pure ⟨_,rfl,wpAny_pure h⟩) a)
  |exact wpAny_bind (m:=px _) (mH (wpAny_bind (wpAny_pure (wpAny_pure ⟨_,rfl,wpAny_pure h⟩))) a)
  |exact wpAny_bind (wpAny_bind (m:=px _) (mH (wpAny_pure (wpAny_pure ⟨_,rfl,wpAny_pure h⟩)) a))
  |exact wpAny_bind (wpAny_bind (m:=px _) (mH (wpAny_pure ⟨_,rfl,wpAny_pure h⟩) a))
end
end HT
namespace L2
open PySem PySem.Spec PyProof.Rows
noncomputable abbrev TO:=St->Hp->(Option Int->Hp->Prop)->Prop
noncomputable def PO (X:Cx)(e:Option aI)(t:TO):Prop:=
 ∀(a:List (aF×bD)) (s:a_) (b:St) (H:Hp) (Q:Option Int->Hp->Prop),Inv X a b H s->t b H Q->
  wpAny (aQ X.prog X.w) X.A (evalPart e X.env) (λu d=>∃o c,Inv X a b c d/\ir u o/\Q o c) X.xe s
noncomputable def O4:TO:=λ_ H Q=>Q aE H
noncomputable def LB(t:TE):TO:=λa H Q=>t a H λx b=>∃i,x=.int i/\Q (aA i) b
theorem intsAre_of:∀{us:List aC},aV (ns.map V.int) us->dZ us ns:=by
 induction ns with
 |nil=>intro us r;rw[BW] at r;cases r;exact .nil
 |cons n ns c=>
  intro us r;rw[dC] at r;cases r with
  |cons b a=>
   obtain⟨t,e⟩:=b;subst e;exact .cons n t (c a)
section
variable {X:Cx}{e:aI}{te:TE}{lo hi:Option aI}{tl th:TO}{pos p2:Pos}
theorem O7:PO X aE O4:=by
 intro a s b H Q I h;rw[evalPart_none];exact wpAny_pure ⟨aE,H,I,.none,h⟩
theorem P2(h:PE X e te):PO X (aA e) (LB te):=by
 intro a s b H Q I hw;rw[evalPart_some];refine aY (h a s b H _ I hw) λu j ⟨x,g,f,c,d⟩=>?_;obtain⟨i,rfl,q⟩:=d;obtain⟨t,rfl⟩:=c;exact⟨aA i,g,f,.int i t,q⟩
noncomputable def iX (X:Cx)(r:V->Option Int->Option Int->Hp->VK->Prop):Prop:=
 ∀(a:List (aF×bD)) (s:a_) (b:St) (H:Hp) (x:V) (v d c:aC) (lo hi:Option Int) (e:aF) (Q:VK),Inv X a b H s->RelV x v->s.heap.IsSliceOf e d c .none->ir d lo->ir c hi->r x lo hi H Q->
  ∃T id,rY (.type T) "__getitem__"=pure (aA (.builtin id))/\s.TypeIs v T/\wpAny (aQ X.prog X.w) X.A (hX v (.ref e)) (EP X a b Q) X.xe s
theorem iX.or(h:iX X r)(h':iX X j):iX X (λx lo hi H Q=>r x lo hi H Q\/j x lo hi H Q):=by
 intro a s b H x v d c lo hi e Q I f hs i g q;rcases q with q|q
 ·exact h a s b H x v d c lo hi e Q I f hs i g q
 ·exact h' a s b H x v d c lo hi e Q I f hs i g q
noncomputable def S7 (r:V->Option Int->Option Int->Hp->VK->Prop)(te:TE)(tl th:TO):TE:=λa H Q=>te a H λx d=>tl a d λl c=>th a c λu b=>r x l u b Q
theorem Su(C:iX X r)(he:PE X e te)(D:PO X lo tl)(z:PO X hi th):PE X (.Subscript e (.Slice lo hi aE p2) pos) (S7 r te tl th):=by
 intro a s d H Q I h;refine Subscript_ (aY (he a s d H _ I h) λv k ⟨x,N,L,m,p⟩=>?_);refine wpAny_Slice (aY (D a k d N _ L p) λg j ⟨l,M,K,y,o⟩=>aY (z a j d M _ K o) λf c ⟨u,i,J,t,n⟩=>?_);rw[evalPart_none];refine wpAny_pure ?_;have G:Inv X a d i {c with heap:=c.heap.push {cls:=.type "slice",data:=.fields #[g,f,.none]}}:=J.kept (t':=c.toks) λb O q=>bZ _ q;obtain⟨T,id,F,B,E⟩:=C a {c with heap:=c.heap.push {cls:=.type "slice",data:=.fields #[g,f,.none]}} d i x v g f l u c.heap.objs.size Q G m (HH ..) y t n;show wpAny (aQ X.prog X.w) X.A (sf e (.Slice lo hi aE p2) v (.ref c.heap.objs.size)) (EP X a d Q) X.xe {c with heap:=c.heap.push {cls:=.type "slice",data:=.fields #[g,f,.none]}};exact tail_any (ops:=[.ref c.heap.objs.size,v]) B F E (by with_unfolding_all rfl)
noncomputable def Qa (xs:List V)(lo hi:Option Int):List V:=(xs.drop (HT.sIx xs.length 0 lo)).take (HT.sIx xs.length xs.length hi-HT.sIx xs.length 0 lo)
theorem yF(xs:List V)(lo hi:Option Int):(Qa xs lo hi).length<=xs.length:=by
 unfold Qa;rw[mz,CZ];lia
noncomputable def Ij (K:bM):V->Option Int->Option Int->Hp->VK->Prop:=λx lo hi H Q=>∃a b,x=.ref a/\fO K H a b/\
 ¬(HT.sIx b.length 0 lo=0/\HT.sIx b.length b.length hi=b.length)/\∀p,H p=aE->Q (.ref p) (upd H p (.tup (Qa b lo hi)))
theorem Nr:iX X (Ij X.K):=by
 intro g s t H x v w u lo f y Q I k p m l h;obtain⟨a,d,rfl,n,hw,q⟩:=h;cases k;obtain⟨e,r,j,i⟩:=I.tuple n;have c:e.toArray.size=d.length:=by rw[dA];exact r.length.symm
 refine⟨"tuple",_,lU.lookup,j.typeIs,?_⟩;refine HT.getItem_tuple_cut j p m l (by rw[c];exact hw) ?_ (by rw[c];exact i);rw[c];refine⟨.ref s.heap.objs.size,_,I.laid (t':=s.toks) (o:=.tup (Qa d lo f)) (λb z q=>bZ _ q) (bH _) ?_,rfl,q _ (I.hok.fresh (bH _))⟩;exact⟨cT (yF d lo f) i,_,(r.drop (HT.sIx d.length 0 lo)).take (HT.sIx d.length d.length f-HT.sIx d.length 0 lo),B4 _ _⟩
noncomputable def IS (K:bM):R2:=λx y H Q=>∃a b c d,x=.ref a/\y=.ref b/\fO K H a (c.map V.int)/\fO K H b (d.map V.int)/\Q (.bl (HT.lexLt c d)) H
theorem On(p:X.A.units<cLine):dY X (d5 .Lt) (IS X.K):=by
 intro e s w H x y v u Q I j i h;obtain⟨a,b,f,g,rfl,rfl,t,r,q⟩:=h;cases j;cases i;obtain⟨d,l,p1,_⟩:=I.tuple t;obtain⟨c,k,m,_⟩:=I.tuple r;have o:dZ d.toArray.toList f:=intsAre_of l;have n:dZ c.toArray.toList g:=intsAre_of k;exact HT.lt_tupInts p1 m o n p ⟨.bl (HT.lexLt f g),H,I,rfl,q⟩
noncomputable def LY(K:bM):R2:=λx y H Q=>∃a b d c,x=.ref a/\y=.ref b/\fO K H a d/\fO K H b c/\d≠[]/\d.length+c.length<=sizeLine/\
 (c=[]->Q (.ref a) H)/\(c≠[]->∀p,H p=aE->Q (.ref p) (upd H p (.tup (d++c))))
theorem aV.nil_iff(r:aV xs us):us=[]↔xs=[]:=by
 cases r with
 |nil=>simp
 |cons _ _=>simp
theorem OF:dY X (f8 .Add) (LY X.K):=by
 intro e s C H x y v u Q I l k h;obtain⟨a,b,j,i,rfl,rfl,B,A,t,g,n,m⟩:=h;cases l;cases k;obtain⟨r,d,p1,_⟩:=I.tuple B;obtain⟨f,c,p,_⟩:=I.tuple A;refine HT.cat_tup p1 p (λz=>t (d.nil_iff.mp z)) (λz=>⟨.ref a,H,I,rfl,n (c.nil_iff.mp z)⟩) (λz=>?_) (by rw[←d.length,←c.length];exact g);refine⟨.ref s.heap.objs.size,_,I.laid (t':=s.toks) (o:=.tup (j++i)) (λb D q=>bZ _ q) (bH _) ?_,rfl,m (λw=>z (c.nil_iff.mpr w)) _ (I.hok.fresh (bH _))⟩;exact⟨by rw[gE];exact g,_,d.append c,B4 _ _⟩
end
end L2
namespace L2
open PySem PySem.Spec PyProof.Rows
noncomputable def n7(n:Nat)(i:Int):Option Nat:=if 0<=i then (if i<n then aA i.toNat else aE) else if -(n:Int)<=i then aA (i+n).toNat else aE
noncomputable def l_ {α:Type}(xs:List α)(i:Int):Option α:=(n7 xs.length i).bind λj=>xs[j]?
theorem P4(h:n7 n i=aA j):seqIndex? i n=aA j/\j<n /\ -(n:Int)<=i/\i<n:=by
 unfold n7 at h;by_cases b:0<=i
 ·rw[if_pos b] at h;by_cases a:i<n
  ·rw[if_pos a] at h;have e:i.toNat=j:=bU h;exact⟨by rw[seqIndex_of b a,e],by lia,by lia,a⟩
  ·rw[if_neg a] at h;cases h
 ·rw[if_neg b] at h;by_cases a:-(n:Int)<=i
  ·rw[if_pos a] at h;have e:(i+n).toNat=j:=bU h;exact⟨by rw[seqIndex_neg (by lia) a,e],by lia,a,by lia⟩
  ·rw[if_neg a] at h;cases h
theorem Vk{xs:List α}(h:l_ xs i=aA v):∃j,seqIndex? i xs.length=aA j/\xs[j]?=aA v/\j<xs.length /\ -(xs.length:Int)<=i/\i<xs.length:=by
 unfold l_ at h;cases e:n7 xs.length i with
 |none=>rw[e] at h;cases h
 |some j=>
  rw[e] at h;obtain⟨d,c,b,a⟩:=P4 e;exact⟨j,d,h,c,b,a⟩
noncomputable def P5(b:aI):Prop:=∀o i,oS b aD o i=operate [o,i] (hX o i)
noncomputable def BQ (X:Cx)(r:R2):Prop:=
 ∀(c a:aI) (b:List (aF×bD)) (s:a_) (d:St) (H:Hp) (x y:V) (v u:aC) (Q:VK),Inv X b d H s->RelV x v->RelV y u->r x y H Q->
  oS a aD v u=operate [v,u] (hX v u)->wpAny (aQ X.prog X.w) X.A (sf c a v u) (EP X b d Q) X.xe s
noncomputable def Hb (X:Cx)(id:String)(r:V->List V->Hp->VK->Prop):Prop:=
 ∀(a:List (aF×bD)) (s:a_) (b:St) (H:Hp) (x:V) (c:List V) (v:aC) (d:List aC) (Q:VK),Inv X a b H s->RelV x v->aV c d->r x c H Q->
  wpAny (aQ X.prog X.w) X.A (call (.builtin id) (v::d)) (EP X a b Q) X.xe s
section
variable {X:Cx}{a b:aI}
noncomputable def Ii (K:bM):R2:=λx y H Q=>∃p a i v,x=.ref p/\y=.int i/\gO K H p a/\l_ a i=aA v/\Q v H
noncomputable def Ip (K:bM):R2:=λx y H Q=>∃p a i v,x=.ref p/\y=.int i/\fO K H p a/\l_ a i=aA v/\Q v H
noncomputable def IP:R2:=λx y H Q=>∃z i c,x=.str z/\y=.int i/\z.length<=sizeLine/\l_ z.cps.toList i=aA c/\Q (.str ⟨#[c]⟩) H
theorem X_:BQ X (Ii X.K):=by
 intro c d a s l H x y v u Q I B A h m;obtain⟨p,L,i,z,rfl,rfl,C,E,q⟩:=h;cases B;obtain⟨t,rfl⟩:=A;obtain⟨g,r,f,M⟩:=I.list C;obtain⟨j,b,J,O,G,F⟩:=Vk E;obtain⟨w,ew,e⟩:=r.get J;have D:=r.length;have N:=ZI;have fin:EP X a l Q w s:=⟨z,H,I,e,q⟩;by_cases n:0<=i
 ·have k:i.toNat=j:=by
   rw[seqIndex_of n F] at b;exact bU b
  exact item_listR f.isList n (by lia) (by rw[k];simpa using ew) fin m
 ·have k:(i+(g.toArray.size:Int)).toNat=j:=by
   rw[seqIndex_neg (by lia) G] at b;rw[dA,←D];exact bU b
  exact D7 (x:=w) f.isList.typeIs Dw.lookup
   (wpAny_getItem_list_neg (Q:=λr o=>r=w/\EP X a l Q r o) f.isList (by lia) (by rw[dA]<;>lia) (by lia) (by rw[k];simpa using ew) ⟨rfl,fin⟩) m
theorem NR:BQ X (Ip X.K):=by
 intro b c a s e H x y v u Q I l k h n;obtain⟨p,E,i,z,rfl,rfl,o,B,q⟩:=h;cases l;obtain⟨t,rfl⟩:=k;obtain⟨m,r,f,F⟩:=I.tuple o;obtain⟨j,D,C,M,L,J⟩:=Vk B;obtain⟨w,ew,d⟩:=r.get C;have A:=r.length;have G:=ZI;have fin:EP X a e Q w s:=⟨z,H,I,d,q⟩
 exact D7 (x:=w) f.typeIs lU.lookup
  (getItem_tuple (j:=j) (Q:=λr g=>r=w/\EP X a e Q r g) f (by lia) (by lia) (by rw[dA,←A];exact D) (by simpa using ew) ⟨rfl,fin⟩) n
theorem MB:BQ X IP:=by
 intro a b d s A H x y v u Q I g f h k;obtain⟨z,i,c,rfl,rfl,C,m,q⟩:=h;obtain⟨t,rfl⟩:=g;obtain⟨B,rfl⟩:=f;obtain⟨j,e,p,E,o,n⟩:=Vk m;have l:z.cps.toList.length=z.length:=by simp[rX]
 rw[l] at e o n;have D:=ZI;exact tail_any (rW s z t) slot_str_getitem.lookup (getItem_str (c:=c) (by
  have w:decide (i < -(2 ^ 63:Int))=aD:=decide_eq_false (by lia);have r:decide (i ≥ 2 ^ 63)=aD:=decide_eq_false (by lia);rw[w,r,Bool.or_false]) (by rw[e];simpa using p) ⟨.str ⟨#[c]⟩,H,I.tok _,⟨_,rfl⟩,q⟩) k
theorem V6(lo hi:Option Int)(n:Nat):(lP lo hi aE n).1=((HT.sIx n 0 lo:Nat):Int)/\(lP lo hi aE n).2.1=((HT.sIx n n hi:Nat):Int)/\(lP lo hi aE n).2.2=1:=by
 refine⟨?_,?_,rfl⟩
 ·cases lo with
  |none=>simp[lP,HT.sIx]
  |some i=>
   simp only[lP,HT.sIx,CW,show (1:Int) > 0 by decide,if_true];by_cases h:i<0
   ·simp only[h,if_true]<;>lia
   ·simp only[h,if_false]<;>lia
 ·cases hi with
  |none=>simp[lP,HT.sIx]
  |some i=>
   simp only[lP,HT.sIx,CW,show (1:Int) > 0 by decide,if_true];by_cases h:i<0
   ·simp only[h,if_true]<;>lia
   ·simp only[h,if_false]<;>lia
theorem Qc(its:List aC)(lo hi:Option Int):slicePick its.toArray lo hi aE=((its.drop (HT.sIx its.length 0 lo)).take (HT.sIx its.length its.length hi-HT.sIx its.length 0 lo)).toArray:=by
 obtain⟨c,b,a⟩:=V6 lo hi its.toArray.size;unfold slicePick;rw[c,b,a];simp only[sliceRange_one,pick_run,dA]<;>rfl
noncomputable def Il (K:bM):V->Option Int->Option Int->Hp->VK->Prop:=λx lo c H Q=>∃a b,x=.ref a/\gO K H a b/\∀p,H p=aE->Q (.ref p) (upd H p (.lst (Qa b lo c)))
theorem P9:iX X (Il X.K):=by
 intro f s t H x v w u lo e y Q I i p k j h;obtain⟨a,c,rfl,n,q⟩:=h;cases i;obtain⟨l,r,g,m⟩:=I.list n;have d:=r.length;refine⟨"list",_,Dw.lookup,g.isList.typeIs,?_⟩;refine wpAny_getItem_list_slice g.isList p k j .none (by simp) ?_ (by rw[dA]<;>lia);rw[Qc,←d];refine⟨.ref s.heap.objs.size,_,I.laid (t':=s.toks) (o:=.lst (Qa c lo e)) (λb z q=>bZ _ q) (bH _) ?_,rfl,q _ (I.hok.fresh (bH _))⟩;exact⟨cT (yF c lo e) m,_,0,(r.drop (HT.sIx c.length 0 lo)).take (HT.sIx c.length c.length e-HT.sIx c.length 0 lo),eF _ rfl⟩
theorem vP:Xx X (.builtin "len") (λxs H Q=>∃p ys,xs=[.ref p]/\(gO X.K H p ys\/fO X.K H p ys)/\Q (.int ys.length) H):=by
 intro f s j H xs k Q I r h;obtain⟨p,ys,rfl,b,q⟩:=h;obtain⟨u,rfl,g⟩:=vals1 r;cases g;have l:=ZI;rcases b with b|b
 ·obtain⟨e,c,d,i⟩:=I.list b;have a:=c.length;exact Calls.call_len_list d.isList (by simp only[dA]<;>lia) ⟨.int ys.length,H,I.tok _,⟨s.toks+1,by rw[dA,a]⟩,q⟩
 ·obtain⟨e,c,d,i⟩:=I.tuple b;have a:=c.length;exact len_tuple d (by simp only[dA]<;>lia) ⟨.int ys.length,H,I.tok _,⟨s.toks+1,by rw[dA,a]⟩,q⟩
theorem WO:Xx X (.builtin "len") (λxs H Q=>∃z,xs=[.str z]/\z.length<=sizeLine/\Q (.int z.length) H):=by
 intro a s b H xs c Q I r h;obtain⟨z,rfl,d,q⟩:=h;obtain⟨u,rfl,t,rfl⟩:=vals1 r;have e:=ZI;exact len_str (by lia) ⟨.int z.length,H,I.tok _,⟨_,rfl⟩,q⟩
theorem j7:Xx X (.type "list") (λxs H Q=>∃p ys,xs=[.ref p]/\(gO X.K H p ys\/fO X.K H p ys)/\∀l,H l=aE->Q (.ref l) (upd H l (.lst ys))):=by
 intro g s z H xs B Q I r h;obtain⟨p,ys,rfl,k,q⟩:=h;obtain⟨u,rfl,A⟩:=vals1 r;cases A
 have fin:∀(a:List aC),aV ys a->ys.length<=sizeLine->∀(c:aT) (f:Nat),(∀b y,s.heap.get? b=aA y->c.get? b=aA y)->
   c.get? s.heap.objs.size=aA {cls:=.type "list",dict:=aE,data:=.seq a.toArray f,slots:=#[]}->EP X g z Q (.ref s.heap.objs.size) {s with heap:=c}:=λa d j c f i e=>
  ⟨.ref s.heap.objs.size,_,I.laid (t':=s.toks) i (bH _) (show bB X.prog X.w _ c _ (.lst ys) from ⟨j,a,f,d,e⟩),rfl,q _ (I.hok.fresh (bH _))⟩
 rcases k with k|k
 ·obtain⟨a,d,t,j⟩:=I.list k;have m:=d.length;obtain⟨o,v,x,n,hd⟩:=t.isList;exact call_list_seq p (.inl rfl) v x hd (λc f i e=>fin a d j c f i e) (by simp only[dA]<;>lia)
 ·obtain⟨a,d,t,j⟩:=I.tuple k;have m:=d.length;obtain⟨o,v,x,n,hd⟩:=t;exact call_list_seq p (.inr rfl) v x hd (λc f i e=>fin a d j c f i e) (by simp only[dA]<;>lia)
noncomputable def GP (K:bM)(T:String)(x:V)(H:Hp):Prop:=match x with
 |.str _=>T="str"
 |.int _=>T="int"
 |.ref p=>(T="list"/\∃b,gO K H p b)\/(T="tuple"/\∃o,K.lookup p=aA o/\o.cls=.type "tuple"/\o.dict=aE)\/
   (T="dict"/\((∃a,H p=aA (.dK a))\/∃ep a,H p=aA (.dE ep a)))\/(T="set"/\∃S n,H p=aA (.set S n))
 |_=>False
theorem MU{h:St}{H:Hp}{x:V}(I:Inv X j h H s)(r:RelV x v)(ty:GP X.K T x H) :
  s.TypeIs v T/\∀a,v=.ref a->∃ob,s.heap.get? a=aA ob/\ob.dict=aE:=by
 cases x with
 |str z=>
  obtain⟨t,rfl⟩:=r;cases (show T="str" from ty);exact⟨rW s z t,λ_ e=>nomatch e⟩
 |int i=>
  obtain⟨t,rfl⟩:=r;cases (show T="int" from ty);exact⟨typeIs_int s i t,λ_ e=>nomatch e⟩
 |ref p=>
  cases r;rcases ty with⟨rfl,q,l⟩|⟨rfl,o,b,m,hd⟩|⟨rfl,b⟩|⟨rfl,S,n,b⟩
  ·obtain⟨k,_,g,_⟩:=I.list l;refine⟨g.isList.typeIs,λa e=>?_⟩;cases e;obtain⟨o,n,e,c,hd,_⟩:=g;exact⟨o,e,hd⟩
  ·refine⟨⟨o,I.kIn p o b,m⟩,λa e=>?_⟩;cases e;exact⟨o,I.kIn _ o b,hd⟩
  ·have z:∃o,s.heap.get? p=aA o/\o.ExactDict:=by
    rcases b with⟨d,b⟩|⟨ep,d,b⟩
    ·obtain⟨_,_,_,_,o,_,_,e,ex,_⟩:=I.hok p _ b;exact⟨o,e,ex⟩
    ·obtain⟨_,_,_,_,o,_,e,ex,_⟩:=I.hok p _ b;exact⟨o,e,ex⟩
   obtain⟨o,e,ex⟩:=z;refine⟨⟨o,e,ex.1⟩,λa f=>?_⟩;cases f;exact⟨o,e,ex.2.1⟩
  ·obtain⟨o,_,_,_,e,ex,_⟩:=I.hok p _ b;refine⟨⟨o,e,ex.1⟩,λa f=>?_⟩;cases f;exact⟨o,e,ex.2.1⟩
 |_=>exact eT ty
noncomputable def S8 (K:bM)(T:String)(r:V->List V->Hp->VK->Prop)(d:TE)(t:TA):TE:=λa H Q=>d a H λx b=>GP K T x b/\t a b λc e=>r x c e Q
variable {o e:aI}{es:List aI}{to:TE}{t:TA}{name:aG}{apos cpos:Pos}{T id:String}{r:V->List V->Hp->VK->Prop}
theorem FV (pa:PlainAttrs T) (slot:Slot T name id) (i:typeOf (.builtin id)=pure (.type "method_descriptor")) (z:Hb X id r) (ho:PE X o to) (A:PA X (e::es) t)
  (d:mE o name X.env (eval o X.env)=eval o X.env:=by rfl)
  (f:((fL cpos (d_ (e::es) X.env)).all (λx=>!x.1)&&(la cpos (li [] X.env)).all (λx=>x.1.isSome)
   &&decide ((e::es).length+([]:List iu).length+(if ([]:List iu).isEmpty then 0 else 1)<30))=aB:=by rfl)
  (c:(apos.endLine==cpos.line)=aB:=by rfl) (hs:d_ (e::es) X.env=(aD,eval e X.env)::d_ es X.env:=by rfl) (b:(fL cpos (d_ es X.env)).any (·.1)=aD:=by rfl) :
  PE X (.Call (.Attribute o name apos) (e::es) [] cpos) (S8 X.K T r to t):=by
 intro a s g H Q I h;refine wpAny_Call_method_late d f c rfl (aY (ho a s g H _ I h) λv q ⟨x,F,l,j,ty,y⟩=>?_);obtain⟨C,B⟩:=MU l j ty;refine⟨T,id,pa,slot,i,C,B,?_⟩;have k:=A cpos a q g F _ l y;rw[hs] at k ⊢;refine tj (by show (aD || (fL cpos (d_ es X.env)).any (·.1))=aD;rw[b]<;>rfl) (pC ?_);exact aY k λn p ⟨m,E,D,u,w⟩=>z a p g E x m v n Q D j u w
end
end L2
namespace L2
open PySem PySem.Spec PyProof.Rows
noncomputable def To (X:Cx)(id:String)(r:V->List V->Hp->VK->Prop):Prop:=
 ∀(a:List (aF×bD)) (s:a_) (b:St) (H:Hp) (x:V) (c:List V) (v:aC) (d:List aC) (Q:VK),Inv X a b H s->RelV x v->aV c d->r x c H Q->
  wpAny (aQ X.prog X.w) X.A (call (.builtin id) (v::d)) (EP X a b Q) X.xe s
theorem aV.one:∀{x:V}{us:List aC},aV [x] us->∃u,us=[u]/\RelV x u
 |_,_,.cons r .nil=>⟨_,rfl,r⟩
section
variable {X:Cx}{pins:List (aF×bD)}{σ:St}{H:Hp}{s:Shared}{l:aF}{xs ys:List V}
theorem Inv.lset{its:List aC}(I:Inv X pins σ H s)(h:H l=aA (.lst xs))
  (e:s.heap.get? l=aA {cls:=.type "list",data:=.seq its.toArray n}) (d:f its.toArray=its'.toArray) (b:aV ys its') (a:ys.length<=sizeLine) :
  Inv X pins σ (upd H l (.lst ys)) {s with heap:=s.heap.update l (cK f),toks:=t'}:=by
 have q:=PySem.IsL.update e f;rw[d] at q;refine I.write (x:=l) (e:=l) (by rw[h];exact trivial) (.inl rfl) (λi u g c=>(nF s.heap (cK f) (cX g)).trans c) ⟨_,q⟩ ?_;exact⟨a,its',_,b,q⟩
theorem Inv.lnew(I:Inv X pins σ H s)(b:aV ys its)(a:ys.length<=sizeLine) :
  Inv X pins σ (upd H s.heap.objs.size (.lst ys)) {s with heap:=s.heap.push {cls:=.type "list",data:=.seq its.toArray},toks:=t'}:=
 I.laid (λ_ _ q=>bZ _ q) (bH _) ⟨a,its,0,b,eF _ rfl⟩
theorem Inv.fresh(I:Inv X pins σ H s):H s.heap.objs.size=aE:=I.hok.fresh (bH _)
theorem Inv.lstM(I:Inv X pins σ H s)(a:H l=aA (.lst xs)):xs.length<=sizeLine/\∃(its:List aC) (n:Nat),aV xs its/\xs.length=its.length/\s.heap.get? l=aA {cls:=.type "list",data:=.seq its.toArray n}:=by
 obtain⟨z,its,n,r,e⟩:=I.hok l _ a;exact⟨z,its,n,r,r.length,e⟩
theorem RM(h:n<=sizeLine):tG n=aD:=by
 unfold tG;exact decide_eq_false (by lia)
end
section
variable {X:Cx}
noncomputable def Pt:V->List V->Hp->VK->Prop:=λx b H Q=>∃l a y,x=.ref l/\b=[y]/\H l=aA (.lst a)/\a.length<sizeLine/\Q .non (upd H l (.lst (a++[y])))
theorem QK:To X "list.append" Pt:=by
 intro b s i H x k v m Q I d f h;obtain⟨l,j,y,rfl,rfl,c,o,q⟩:=h;cases d;obtain⟨u,rfl,g⟩:=f.one;obtain⟨z,a,n,r,p,e⟩:=I.lstM c;refine call_meets F.slot_list_append ⟨_,e,rfl⟩ F.entry_list_append (F.args_list_append_2 _ _) (PySem.list_append l a.toArray n u (by rw[dA];lia)) ⟨e,?_⟩;refine⟨.non,_,I.lset (its':=a++[u]) c e (by simp) (r.append (.cons g .nil)) ?_,rfl,q⟩;rw[gE,List.length_singleton];lia
end
end L2
namespace Att
open PySem PySem.W PySem.Calls PyProof.Rows
theorem yW{P:Params}:∀(ns:List Int) (vs:List aC),WellAll P h vs (ns.map B3)->dZ vs ns:=by
 intro ns;induction ns with
 |nil=>
  intro vs w;rw[BW] at w;cases w;exact .nil
 |cons n ns c=>
  intro vs w;rw[dC] at w;cases w with
  |cons a b=>
   cases a;exact .cons _ _ (c _ b)
theorem YI{l:mh}(u:l.most=aA n){P:Params}{args:List WData} 
  (b:l.row.toRowW.claim.pre args=aB) (i:WellAll P h j args) :
  ∃a vs ns,j=[cY a]/\args=[WData.list (ns.map B3)]/\h.get? a=aA {cls:=.type "list",data:=.seq vs.toArray}/\dZ vs ns/\ns.length<=n:=by
 have k:WShape.hasAll [] args [.list .int]=aB:=(pre_splitW b).1;have m:l.pre.holds [] {args:=args}=aB:=(pre_splitW b).2;obtain⟨d,r,rfl,x,w⟩:=hasAllW_cons k;obtain rfl:=hasAllW_nil w;obtain⟨y,rfl,v⟩:=hasW_list x;obtain⟨ns,rfl⟩:=items_int v;have c:ns.length<=n:=by
  unfold OpenLaw.pre at m;have g:(WTm.not (.lt (.lit (.int (n:Int))) (.len (.arg 0)))).holds [] {args:=[.list (ns.map .int)]}=aB:=by
   have g:=(holds_andW m).1;rw[u] at g;exact g
  have f:=condW_of g (w_not (w_lt w_lit (w_len_list (w_arg rfl))));rw[bP] at f;refine Nat.le_of_not_lt λq=>?_;have s:(n:Int)<((ns.length:Nat):Int):=by omega
  first
   |(rw[decide_eq_true s] at f;exact absurd f (by decide))
   |(simp at f;omega)
 cases i with
 |cons p o=>
  cases o;cases p with
  |list t e=>exact⟨_,_,ns,rfl,rfl,t,yW ns _ e,c⟩
theorem YB(l:mh)(args:List WData):l.row.toRowW.claim.post args (.bool aB) args=aB:=
 postW_of (r:=l.row.toRowW) (X:=(aB==aB))
  (show B7 [] (.bool aB) .bool=aB by first|rfl|decide|simp[B7,WShape.arms,WShape.armsAll])
  (show (WTm.eq .res (.lit (.bool aB))).value [] {args:=args,res:=aA (.bool aB),after:=args}=aA (.bool (aB==aB)) from w_eq_bool (w_res rfl) w_lit) rfl
theorem attach_call{l:mh}{n:Nat}{d:DefRec}
  (C:l.most=aA n) (t:d.params.defaults=[])
  (call:∀(w:dJ) (s₀ b:a_) (mg k:aG->Option aC) (fa:aF) (o:bD) (i cd doc:aC) (a:aF) (vs:List aC) (ns:List Int),
   Ground q j [] XP w s₀ mg k b.heap->M w b.heap->
   b.heap.get? fa=aA o->o.data=.func (docDef d.name d.params d.body d.scope i cd doc)->b.heap.CodeRec cd d.name->mg d.name=aA (.ref fa)->
   b.heap.get? a=aA {cls:=.type "list",data:=.seq vs.toArray}->dZ vs ns->ns.length<=n->b.gens=#[]->
   fP (aQ l.prog w) mY (.call (.ref fa) ⟨[.ref a],[]⟩) (λr s=>r=.ok (.ret (.bool aB))/\OldK b.heap s.heap/\s.os=b.os/\iH s.gens) b) :
  WalkO q j XP M l.row.toRowW d [] (λf vs=>B6 f vs):=by
 intro w s₀ b mg k G Y fa o i cd doc K kV B hd u y p F args v L e x z m E;obtain rfl:K=.none:=Dflts.none y t;obtain rfl:kV=.none:=Dflts.noKw y;obtain⟨a,vs,ns,rfl,rfl,g,c,h⟩:=YI C e m;refine enter_call (le (call w s₀ b mg k fa o i cd doc a vs ns G Y B (fd_plain hd) u p g c h F) λr s A=>?_);obtain⟨rfl,J,I,H⟩:=A;exact⟨.inl ⟨.bool aB,.bool aB,[],rfl,λ_=>rfl,.bool aB,YB l _,λ_=>⟨HC,λ_ D=>(nomatch D)⟩⟩,J,I,H⟩
section
noncomputable def Bu(h:aT)(L d:aF):List (aF×bD):=(eX h.objs.size).filterMap λa=>if a=L\/a=d then aE else (h.get? a).map λo=>(a,o)
end
end Att
namespace L2
open PySem PySem.Spec PyProof.Rows
theorem vals_ints:∀{vs:List aC}{ns:List Int},dZ vs ns->aV (ns.map V.int) vs
 |_,_,.nil=>.nil
 |_,_,.cons n t h=>.cons ⟨t,rfl⟩ (vals_ints h)
end L2
namespace L2
open PySem PySem.Spec PyProof.Rows
noncomputable abbrev TZ{K:bM}{h:aT}(_:K.In h):bM:=K
end L2
namespace L2
open PySem PySem.Spec PyProof.Rows
noncomputable def aW(s:bG)(j:Nat):bG:=match s with
 |.ClassDef _ _ _ body _ _ _ _ _ _ _=>body.getD j (.Pass ⟨0,0,0,0⟩)
 |_=>.Pass ⟨0,0,0,0⟩
noncomputable def zK(s:bG):Arguments:=match s with
 |.FunctionDef _ a _ _ _ _ _ _ _ _=>a
 |_=>{posonlyargs:=[],args:=[],vararg:=aE,kwonlyargs:=[],kw_defaults:=[],kwarg:=aE,defaults:=[]}
noncomputable def z3(s:bG):List bG:=match s with
 |.FunctionDef _ _ b _ _ _ _ _ _ _=>b
 |_=>[]
noncomputable def zu(s:bG):Scope:=match s with
 |.FunctionDef _ _ _ _ _ _ a _ _ _=>a
 |_=>{kind:=.function,names:=[],isGenerator:=aD,isCoroutine:=aD}
noncomputable abbrev E0:XK:=λ_ _ _=>False
structure me(K:PySem.W.Frag)(x qual:aG)(st:bG)(f:aF)(fd:FuncData):Prop where
 ex:∃(oc:aC) (od:Option aF) (kV doc pm:aC) (an:Option aF) (cdv ct:aC) (osl:Array (Option aC)),
  fd=gW x qual (zK st) (z3 st) (zu st) .none kV doc pm an cdv ct/\K.lookup f=aA ⟨oc,od,.func fd,osl⟩/\gx K cdv qual=aB
 kp:fK K (.ref f)=aB
section
variable {K:PySem.W.Frag}
theorem me.binds{st:bG}(F:me K x qual st f fd)
  (h:∀(kV doc b:aC) (an:Option aF) (a ct:aC) (us:List aC),us.length=ps.length->lc (gW x qual (zK st) (z3 st) (zu st) .none kV doc b an a ct) ⟨us,[]⟩=pure (ps.zip us)):Binds K fd ps []:=by
 obtain⟨e,od,kV,doc,b,an,a,ct,c,rfl,lk,d⟩:=F.ex;exact .all (h kV doc b an a ct)
theorem yd{st:bG}{od an:Option aF}{kV doc b a ct:aC}(l:K.lookup f=aA ⟨j,od,.func (gW x qual (zK st) (z3 st) (zu st) .none kV doc b an a ct),d⟩)
  (c:gx K a qual=aB) (k:fK K (.ref f)=aB):me K x qual st f (gW x qual (zK st) (z3 st) (zu st) .none kV doc b an a ct):=⟨⟨j,od,kV,doc,b,an,a,ct,d,rfl,l,c⟩,k⟩
end
noncomputable def ko (H a:Hp):Prop:=∀b o,H b=aA o->a b=aA o
end L2
end
namespace NH
open PySem
noncomputable def stC:aC->aC
 |.int i _=>.ref i.toNat
 |v=>v
noncomputable def Io (h:aT)(x:aF)(cls:aC)(d:Option aF):Prop:=∃c b e,h.get? x=aA c/\(c.cls=stC cls/\c.dict=d)/\c.data=.fields b/\b[0]?=aA e/\b[1]?=aA .none/\∀a,cls=.ref a->b[2]?=aA .none
inductive fF(h:aT)(x T:aF)(cls:aC)(d:Option aF)(fl:aC):Prop where
 |mk (oe:bD) (vs:Array aC) (a0:aC) (oT:bD) (ts:Array aC) (h1:h.get? x=aA oe) (h2:oe.cls=stC cls/\oe.dict=d) (h3:oe.data=.fields vs) (h4:vs[0]?=aA a0) (h5:vs[1]?=aA (.ref T)) (h6:T≠x) (h7:h.get? T=aA oT) (h8:oT.data=.fields ts) (h9:ts[3]?=aA fl) (h10:∀a,cls=.ref a->vs[2]?=aA .none)
noncomputable def Ex (h:aT)(x:aF)(cls:aC)(d:Option aF):Option aF->aC->Prop
 |none,fl=>Io h x cls d/\fl=.none
 |some T,fl=>fF h x T cls d fl
structure eE(fs:List aF)(x:aF)(T T':Option aF)(h h':aT):Prop where
 keep:∀b o,h.get? b=aA o->b∉fs->b≠x->b∉T.toList->h'.get? b=aA o
 slot:∀b o,h.get? b=aA o->b∈fs->b≠x->b∉T.toList->∃sl,h'.get? b=aA {o with slots:=sl}
 newT:∀t∈T'.toList,t∈T.toList\/h.objs.size<=t
theorem eE.refl(fs:List aF)(x:aF)(T:Option aF)(h:aT):eE fs x T T h h:=⟨λ_ _ e _ _ _=>e,λ_ o e _ _ _=>⟨o.slots,e⟩,λ_ a=>.inl a⟩
theorem uJ(o:bD)(f:Array aC->Array aC):(mD f o).dict=o.dict:=by
 obtain⟨c,d,dt,a⟩:=o;cases dt<;>rfl
section
variable {M:Model}{A:Around}{E:aC->Shared->Prop}{s:Shared}
theorem R0(a:A.frames=aA (e0::outer))(c:s.heap.FunFrames base (e0::outer))
  (d:env.frame=aA L) (h0:e0.frame=aA L) (h:∀h',Heap.SlotsOnly ((e0::outer).filterMap (·.frame)) s.heap h'->Q (.ref L) {s with heap:=h'}):wpAny M A (frameOf env) Q E s:=by
 unfold frameOf;refine wpAny_bind (wpAny_frameEnvs a ?_);have hw:((e0::outer).dropWhile λy=>y.frame != env.frame)=e0::outer:=by simp[List.dropWhile,d,h0]
 rw[hw];unfold frameObject;refine wpAny_bind (wpAny_bind (wpAny_readyFrames_fun c λe b=>wpAny_pure ?_));rw[h0];exact wpAny_pure (h e b)
theorem Zu 
  (y:A.frames=aA (e0::outer)) (B:s.heap.FunFrames base (e0::outer)) (O:env.frame=aA L) (h0:e0.frame=aA L)
  (ho:s.heap.get? x=aA w) (C:w.cls=stC cls/\w.dict=d) (hd:w.data=.fields vs) (v:vs[0]?=aA a0) (hsz:1<vs.size) (r:∀a,cls=.ref a->vs[2]?=aA .none)
  (h:∀h' t,fF h' x t cls d (cV L)->eE ((e0::outer).filterMap (·.frame)) x T (aA t) s.heap h'->s.heap.objs.size<=t->Q () {s with heap:=h'}) :
  wpAny M A (do let a ←frameOf env;let u ←entryPlaceOf L U;let b ←Dm j a .none (cV L) .none u;setField (.ref x) 1 b) Q E s:=by
 have q:x∉(e0::outer).filterMap (·.frame):=λN=>by
  obtain⟨_,o,p,I⟩:=B.mem N;rw[ho] at p;cases p;exact I vs hd
 refine wpAny_bind (R0 y B O h0 λf k=>?_);refine wpAny_bind (wpAny_entryPlaceOf λu m=>?_);unfold Dm newFields;refine wpAny_bind (mH ?_ (m.sizeOk5 _ _ _ _ _));have F:f.get? x=aA w:=(k.2.1 x q).trans ho;generalize n:({cls:=.type "traceback",dict:=aE,data:=.fields ([j,.ref L,.none,cV L,.none]++(if u.isEmpty then lu 6 eY else u)).toArray}:bD)=l;have D:=bZ (h:=f) l F;have i:l.data=.fields ([j,.ref L,.none,cV L,.none]++(if u.isEmpty then lu 6 eY else u)).toArray:=by rw[←n]
 have g:l.isFreed=aD:=by rw[←n];rfl
 refine sP D hd hsz ?_;have z:f.objs.size≠x:=iA (cG F);have G:=DF hd (·.setIfInBounds 1 (cY f.objs.size));have R:=D3 (mD (·.setIfInBounds 1 (cY f.objs.size))) D (D2 G);have c:∀b o,b≠x->f.get? b=aA o->((f.push l).update x (mD (·.setIfInBounds 1 (cY f.objs.size)))).get? b=aA o:=λb o P e=>by
  rw[nF _ _ (cX P)];exact bZ _ e
 refine h _ f.objs.size ⟨_,_,a0,l,_,R,⟨(Obj.cls_mapFields _ _).trans C.1,(uJ _ _).trans C.2⟩,G,by rw[Ec (by decide)];exact v,by simp[hsz],z,?_,i,?_,λa e=>by rw[Ec (by decide)];exact r a e⟩ ⟨λb o e J nx _=>?_,λb o e _ nx _=>?_,λt K=>.inr ?_⟩ (iN k.1.symm)
 ·rw[nF _ _ (cX z)];exact eF _ g
 ·first|(simp;done)|(rcases m with rfl|⟨_,_,_,_,_,_,_,rfl⟩<;>simp)
 ·exact c b o nx ((k.2.1 b J).trans e)
 ·obtain⟨H,S⟩:=k.2.2 b o e;exact⟨H,c b _ nx S⟩
 ·have:t=f.objs.size:=by simpa using K
  rw[this];exact iN k.1.symm
theorem RY 
  (q:A.frames=aA (e0::outer)) (C:s.heap.FunFrames base (e0::outer)) (F:env.frame=aA L) (h0:e0.frame=aA L) (K:Ex s.heap x cls d T fl) (D:fl=.none\/fl=cV L)
  (h:∀h' t,fF h' x t cls d (cV L)->eE ((e0::outer).filterMap (·.frame)) x T (aA t) s.heap h'->Q () {s with heap:=h'}):wpAny M A (oE (.ref x) env) Q E s:=by
 unfold oE;simp only[F];cases T with
 |none=>
  obtain⟨⟨J,I,P,m,r,hd,l,f,k⟩,_⟩:=K;refine wpAny_bind (ix m hd f ?_);rw[if_neg (by decide)];exact Zu (T:=aE) q C F h0 m r hd l (pI.mp f).1 k λh' t a b _=>h h' t a b
 |some T=>
  obtain⟨J,I,P,S,u,m,r,hd,l,f,O,g,i,H,k⟩:=K;refine wpAny_bind (ix m hd f ?_);rw[if_pos (show (cY T != eY)=aB from by simp)];refine wpAny_bind (ix g i H ?_);by_cases N:fl=cV L
  ·subst N;rw[if_pos (show (cV L==cV L)=aB from by simp)];exact wpAny_pure (h s.heap T ⟨J,I,P,S,u,m,r,hd,l,f,O,g,i,H,k⟩ (eE.refl _ _ _ _))
  ·obtain rfl:fl=.none:=D.resolve_right N;rw[if_neg (show ¬((eY==cV L)=aB) from by simp[cV])];refine wpAny_bind (sP g i (pI.mp H).1 ?_);have j:∀b,b≠T->(s.heap.update T (mD (·.setIfInBounds 3 eY))).get? b=s.heap.get? b:=λb G=>nF _ _ (cX G);have fr:∀b∈(e0::outer).filterMap (·.frame),b≠T:=λb G z=>by
    obtain⟨_,o,p,v⟩:=C.mem G;rw[z,g] at p;cases p;exact v u i
   refine Zu (T:=aA T) (s:={s with heap:=s.heap.update T (mD (·.setIfInBounds 3 eY))}) (base:=base) q (C.of_keeps λb o e v=>⟨o,(j b λz=>?_).trans e,rfl⟩) F h0 ((j x (cX O)).trans m) r hd l (pI.mp f).1 k λh' t a b c=>h h' t a ⟨?_,?_,?_⟩
   ·rw[z,g] at e;cases e;exact v u i
   ·exact λd o e y w n=>b.keep d o ((j d λz=>n (by simp[z])).trans e) y w n
   ·exact λd o e y w n=>b.slot d o ((j d λz=>n (by simp[z])).trans e) y w n
   ·intro R B;rcases b.newT R B with z|z
    ·exact .inl z
    ·refine .inr (cT (iN ?_) z);exact (Heap.size_after_update ..).symm
theorem Kf(v:fF s.heap x T cls d fl)
  (h:∀h',fF h' x T cls d (fr.elim .none λf=>cV f)->eE fs x (aA T) (aA T) s.heap h'->Q () {s with heap:=h'}):wpAny M A (mj (.ref x) fr) Q E s:=by
 obtain⟨u,q,D,F,r,l,y,hd,k,c,m,g,i,C,j⟩:=v;have sz:3<r.size:=(pI.mp C).1;unfold mj;refine wpAny_bind (ix l hd c ?_);rw[if_pos (show (cY T != eY)=aB from by simp)];refine sP g i sz ?_;have a:∀b,b≠T->(s.heap.update T (mD (·.setIfInBounds 3 (fr.elim .none λf=>cV f)))).get? b=s.heap.get? b:=λb B=>nF _ _ (cX B);have p:=DF i (·.setIfInBounds 3 (fr.elim eY λf=>cV f))
 exact h _ ⟨u,q,D,_,_,(a x (cX m)).trans l,y,hd,k,c,m,D3 _ g (D2 p),p,by simp[sz],j⟩
  ⟨λb o e _ _ n=>(a b λz=>n (by simp[z])).trans e,λb o e _ _ n=>⟨o.slots,(a b λz=>n (by simp[z])).trans e⟩,λt w=>.inl w⟩
end
end NH
namespace NH
open PySem PySem.Spec PyProof.Rows L2
noncomputable abbrev St:=L2.St
theorem Qx{P:cF}(x:bB P w H h a o):∃ob,h.get? a=aA ob:=by
 cases o with
 |lst c=>obtain⟨_,_,_,_,e⟩:=x;exact⟨_,e⟩
 |tup c=>obtain⟨_,_,_,ob,e,_⟩:=x;exact⟨ob,e⟩
 |dK b=>obtain⟨_,_,_,_,o,_,_,e,_⟩:=x;exact⟨o,e⟩
 |dE ep b=>obtain⟨_,_,_,_,o,_,e,_⟩:=x;exact⟨o,e⟩
 |set S n=>obtain⟨o,_,_,_,e,_⟩:=x;exact⟨o,e⟩
 |ins C dx fs=>obtain⟨_,_,_,e,_⟩:=x;exact⟨_,e⟩
 |own y=>obtain⟨o,e⟩:=x;exact⟨o,e⟩
 |xd fs=>obtain⟨_,⟨o,_,_,e,_⟩,_⟩:=x;exact⟨o,e⟩
 |rng lo i=>obtain⟨_,_,_,e⟩:=x;exact⟨_,e⟩
 |frz ob u=>obtain⟨e,_⟩:=x;exact⟨_,e⟩
 |tbl g=>exact⟨_,(show h.get? a=aA _ from x)⟩
 |met f y=>exact⟨_,(show h.get? a=aA _ from x)⟩
 |ext d=>obtain⟨_,⟨o,e⟩,_⟩:=x;exact⟨o,e⟩
structure dX(X:Cx)(H:Hp)(b:aF):Prop where
 free:H b=aE
 loc:b≠X.env.locals
 nfs:b∉X.fs
 new:b∈X.ex\/X.s₀.heap.get? b=aE
 cel:∀x c,X.env.cells.lookup x=aA c->c≠b
 pin:∀p∈X.pn,p.1≠b
section
variable {X:Cx}{pins:List (aF×bD)}{σ:St}{H H':Hp}{s:Shared}{h':aT}
theorem Vz(I:Inv X pins σ H s)(e:s.heap.get? b=aE):H b=aE:=by
 cases q:H b with
 |none=>rfl
 |some o=>
  obtain⟨a,z⟩:=Qx (I.hok b o q);rw[e] at z;cases z
theorem xu(I:Inv X pins σ H s)(e:s.heap.get? b=aE):dX X H b:=by
 refine⟨Vz I e,λz=>?_,λz=>?_,?_,λx c q z=>?_,λp f z=>?_⟩
 ·obtain⟨m,⟨o,_,_,a,_⟩,_⟩:=I.loc;rw[←z,e] at a;cases a
 ·obtain⟨_,o,a,_⟩:=I.funs.mem z;rw[e] at a;cases a
 ·by_cases d:b∈X.ex
  ·exact .inl d
  ·refine .inr ?_;cases q:X.s₀.heap.get? b with
   |none=>rfl
   |some o=>
    obtain⟨g,z⟩:=I.base.there b o q d;rw[e] at z;cases z
 ·obtain⟨v,o,a,_⟩:=I.cell x c q;rw[z,e] at a;cases a
 ·have:=(I.pin p (dM _ f)).1;rw[z,e] at this;cases this
theorem Jc{ch:List aF}(I:Inv X pins σ H s)(a:∀b∈ch,dX X H b/\∀p∈pins,p.1≠b)
  (keep:∀b o,b∉fv X.stack->b∉ch->s.heap.get? b=aA o->h'.get? b=aA o)
  (slot:∀b o,b∈fv X.stack->b∉ch->s.heap.get? b=aA o->∃j,h'.get? b=aA {o with slots:=j}) :
  Inv X pins σ H {s with heap:=h'}:=by
 have J:∀b u,H b=aA u->b∉ch:=λb u e z=>by rw[(a b z).1.free] at e;cases e
 have w:∀b u,H b=aA u->b∉fv X.stack:=λb u e z=>by rw[I.stkFree b z] at e;cases e
 have any:∀b o,b∉ch->s.heap.get? b=aA o->∃j,h'.get? b=aA {o with slots:=j}:=λb o t e=>by
  by_cases N:b∈fv X.stack
  ·exact slot b o N t e
  ·exact⟨o.slots,keep b o N t e⟩
 have y:∀b,b≠X.env.locals->b∉X.fs->b∉fv X.stack:=λb V U z=>(cO.mp (I.stkSub b z)).elim V U;have h:∀b o,X.s₀.heap.get? b=aA o->b∉X.ex->b∉ch:=λb o e f z=>by
  rcases (a b z).1.new with q|q
  ·exact f q
  ·rw[e] at q;cases q
 have E:∀b o,X.s₀.heap.get? b=aA o->b≠X.env.locals:=λb o e=>d6 (dL (cG e) I.ok.above);have g:∀x c,X.env.cells.lookup x=aA c->∀v,s.heap.IsCell c v->h'.IsCell c v:=λx c e v ⟨o,G,hd⟩=>by
  obtain⟨j,q⟩:=any c o (λz=>(a c z).1.cel x c e rfl) G;exact⟨_,q,hd⟩
 refine⟨I.ok,I.os,I.bare,⟨λb o e n t f=>?_,λb o e n t f=>?_,λb o e n f=>I.base.free b o e n f,λb o e f=>?_,λb C e=>I.base.tups b C e,λb o C e=>I.base.frzs b o C e,λb P e=>I.base.tbls b P e⟩,?_,λx c e=>?_,I.free,λx c e=>I.freeC x c e,λp M=>?_,λb u e=>?_,I.len⟩
 ·exact keep b o (y b (E b o e) t) (h b o e f) (I.base.keep b o e n t f)
 ·obtain⟨j,B⟩:=I.base.slot b o e n t f;obtain⟨D,A⟩:=any b _ (h b o e f) B;exact⟨D,A⟩
 ·obtain⟨Q,B⟩:=I.base.there b o e f;obtain⟨j,A⟩:=any b Q (h b o e f) B;exact⟨_,A⟩
 ·obtain⟨m,⟨o,es,ep,G,r⟩,R⟩:=I.loc;obtain⟨j,T⟩:=any X.env.locals o (λz=>(a _ z).1.loc rfl) G;refine⟨m,⟨_,es,ep,T,r⟩,λi x v B A W=>?_⟩;obtain⟨u,O,l⟩:=R i x v B A W;refine⟨u,O,?_⟩;rcases l with l|⟨k,c,e,z⟩
  ·exact .inl l
  ·exact .inr ⟨k,c,e,g x c e _ z⟩
 ·obtain⟨v,z⟩:=I.cell x c e;exact⟨v,g x c e v z⟩
 ·obtain⟨e,n,L,K,d⟩:=I.pin p M;have F:p.1∉ch:=λz=>by
   rcases cA.mp M with q|q
   ·exact (a p.1 z).1.pin p q rfl
   ·exact (a p.1 z).2 p q rfl
  exact⟨keep p.1 p.2 (y p.1 L K) F e,n,L,K,d⟩
 ·refine (I.hok b u e).stay (λc v S q=>?_) (λ_ q=>q) λ_ _ q=>q;rcases S with z|z
  ·subst z;exact keep c v (w c u e) (J c u e) q
  ·exact keep c v (w c _ z) (J c _ z) q
structure i3(X:Cx)(e0:Env)(out:List Env)(L:aF):Prop where
 stk:X.stack=e0::out
 f0:e0.frame=aA L
 fe:X.env.frame=aA L
noncomputable abbrev XW:=aC->Option aF->St->Hp->Prop
inductive XP(X:Cx)(W:XW)(e:aC)(s:Shared):Prop where
 |mk (x:aF) (cls:aC) (d:Option aF) (σ:St) (H:Hp) (T:Option aF) (fl:aC) (ee:e=.ref x) (i:Inv X [] σ H s) (ox:dX X H x) (ot:∀t∈T.toList,dX X H t) (r:Ex s.heap x cls d T fl) (hf:fl=.none\/∃L,X.env.frame=aA L/\fl=cV L) (w:W cls d σ H)
theorem Yb{T:Option aF}(I:Inv X [] σ H s)(ox:dX X H x)(ot:∀t∈T.toList,dX X H t)(c:eE (fv X.stack) x T (aA t) s.heap h') :
  Inv X [] σ H {s with heap:=h'}/\dX X H t:=by
 refine⟨Jc (ch:=x::T.toList) I (λb g=>⟨?_,λp f=>absurd f (by simp)⟩) (λb o d a e=>?_) (λb o d a e=>?_),?_⟩
 ·rcases cO.mp g with z|z
  ·rw[z];exact ox
  ·exact ot b z
 ·exact c.keep b o e d (λz=>a (by simp[z])) (λz=>a (dN _ z))
 ·exact c.slot b o e d (λz=>a (by simp[z])) (λz=>a (dN _ z))
 ·rcases c.newT t (by simp) with z|z
  ·exact ot t z
  ·exact xu I (lp z)
theorem ug{W:XW}(F:i3 X e0 out L)(b:A.frames=aA X.stack)(p:XP X W e s)
  (h:∀x cls d σ H T h',e=.ref x->Inv X [] σ H {s with heap:=h'}->dX X H x->dX X H T->fF h' x T cls d (cV L)->W cls d σ H->Q () {s with heap:=h'}):wpAny M A (oE e X.env) Q E s:=by
 obtain⟨x,cls,d,σ,H,T,fl,rfl,I,g,k,n,f,w⟩:=p;have a:=I.stack;rw[F.stk] at b a;refine RY b a F.fe F.f0 n (f.imp_right λ⟨r,i,o⟩=>by rw[F.fe] at i;cases i;exact o) λh' t j m=>?_;have c:eE (fv X.stack) x T (aA t) s.heap h':=by rw[F.stk];exact m
 obtain⟨q,l⟩:=Yb I g k c;exact h x cls d σ H t h' rfl q g l j w
theorem wH(I:Inv X [] σ H s)(ox:dX X H x)(c:dX X H T)(b:fF s.heap x T cls d fl)
  (h:∀h',Inv X [] σ H {s with heap:=h'}->fF h' x T cls d (fr.elim .none λf=>cV f)->Q () {s with heap:=h'}):wpAny M A (mj (.ref x) fr) Q E s:=by
 refine Kf (fs:=fv X.stack) b λh' a e=>h h' (Yb (T:=aA T) I ox (λt g=>?_) e).1 a;have:t=T:=by simpa using g
 rw[this];exact c
theorem y9{W:XW}(F:i3 X e0 out L)(f:X.A.frames=aA X.stack):mZ M X.A X.env (XP X W):=by
 intro e s p;unfold notedBy;refine ug F f p λx cls d k H T j ee I h i g w=>?_;subst ee;unfold cameBackBy;obtain⟨z,v,G,l,y,q,B,hd,m,c,C,o,r,D,_⟩:=id g;refine wpAny_bind (ix q hd c ?_);rw[if_neg (show ¬((cY T==eY)=aB) from by simp)];rw[F.fe]
 have go:wpAny M X.A (mj (.ref x) (aA L)) (λ_ b=>XP X W (.ref x) b) (XP X W) {s with heap:=j}:=
  wH (s:={s with heap:=j}) I h i g λE u a=>⟨x,cls,d,k,H,aA T,cV L,rfl,u,h,λt n=>by
   have:t=T:=by simpa using n
   rw[this];exact i,a,.inr ⟨L,F.fe,rfl⟩,w⟩
 first|exact go|exact wpAny_bind (wpAny_pure go)
inductive TL(P:Program)(w:World)(outer:List Env)(H:Hp)(s:Shared)(E:XK)(e:aC)(s':Shared):Prop where
 |mk (x T:aF) (cls:aC) (d:Option aF) (H':Hp) (ee:e=.ref x) (o:s'.os=s.os) (b:iH s'.gens) (n:Un (fv outer) [] H H' s.heap s'.heap) (k:dS P w H' s'.heap) (h1:s.heap.get? x=aE) (h2:s.heap.get? T=aE) (h3:H' x=aE) (h4:H' T=aE) (t:fF s'.heap x T cls d .none) (q:E cls d H')
noncomputable def dG (P:cF)(w:dJ):mf:=TL P w
noncomputable def e_ (E:XK):XW:=λc d _ H=>E c d H
theorem Je(F:i3 X e0 out L)(i:X.A.frames=aA X.stack)(a:X.ex=[])(p:XP X (e_ E) e s) :
  wpAny M X.A (ow X.env e) (λ_ j=>dG X.prog X.w X.outer X.H₀ X.s₀ E e j) F2 s:=by
 unfold ow;refine wpAny_bind (ug F i p λx cls d n H T m ee I g h l w=>?_);subst ee;refine wH (s:={s with heap:=m}) I g h l λq c f=>?_;have k:∀b,dX X H b->X.s₀.heap.get? b=aE:=λb o=>o.new.resolve_left (by rw[a];simp);refine⟨x,T,cls,d,H,rfl,c.os,c.bare,?_,c.hok,k x g,k T h,g.free,h.free,f,w⟩;have:=c.base;rw[a] at this;exact this
theorem uf{W:XW}(I:Inv X pins σ H s)(c:dG X.prog X.w X.stack H s E e j)(h:∀cls d H',E cls d H'->W cls d σ H'):XP X W e j:=by
 obtain⟨x,T,cls,d,H',rfl,os,a,un,g,nx,l,q,r,i,w⟩:=c;have J:Inv X pins σ H' j:=I.call' (ch:=[]) os un g a λb z=>absurd z (by simp);have k:∀b,s.heap.get? b=aE->H' b=aE->dX X H' b:=λb e f=>by
  have o:=xu I e;exact⟨f,o.loc,o.nfs,o.new,o.cel,o.pin⟩
 refine⟨x,cls,d,σ,H',aA T,.none,rfl,J.pins_of (λp n=>absurd n (by simp)),k x nx q,λt m=>?_,i,.inl rfl,h cls d H' w⟩;have:t=T:=by simpa using m
 rw[this];exact k T l r
theorem OK{W:XW}{args:List aC}(I:Inv X pins σ H s)(mk:CP s.heap h2 x (.ref C) args)(w:W (.ref C) aE σ H):XP X W (.ref x) {s with heap:=h2}:=by
 have J:Inv X pins σ H {s with heap:=h2,toks:=s.toks}:=I.kept mk.keeps;obtain⟨t,c,_,_⟩:=mk.there;exact⟨x,.ref C,aE,σ,H,aE,.none,rfl,J.pins_of (λp b=>absurd b (by simp)),xu I mk.new,λt a=>absurd a (by simp),⟨⟨_,_,.ref t,c,⟨rfl,rfl⟩,rfl,rfl,rfl,λ_ _=>rfl⟩,rfl⟩,.inl rfl,w⟩
noncomputable abbrev Cx.pin'(X:Cx)(pins:List (aF×bD)):Cx:={X with pn:=X.pn++pins}
noncomputable abbrev Cx.han(X:Cx)(x:aF):Cx:={X with A:=X.A.mark (aA (.ref x)),calm:=aD,xe:=λ_ _=>False}
theorem NN(ok:X.Ok):(Cx.pin' X pins).Ok:=⟨ok.mod,ok.kind,ok.glob,ok.blt,ok.above,ok.inj,ok.has,ok.cab,ok.hd,ok.frames,ok.stk,ok.exf,ok.bs,ok.bsz,ok.noex,ok.exfs,ok.funs,ok.frf⟩
theorem VE(ok:(Cx.pin' X pins).Ok):X.Ok:=⟨ok.mod,ok.kind,ok.glob,ok.blt,ok.above,ok.inj,ok.has,ok.cab,ok.hd,ok.frames,ok.stk,ok.exf,ok.bs,ok.bsz,ok.noex,ok.exfs,ok.funs,ok.frf⟩
theorem Nb(ok:X.Ok):(Cx.han X x).Ok:=⟨ok.mod,ok.kind,ok.glob,ok.blt,ok.above,ok.inj,ok.has,ok.cab,(λh=>by cases h),ok.frames,ok.stk,ok.exf,ok.bs,ok.bsz,ok.noex,ok.exfs,ok.funs,ok.frf⟩
theorem VM(I:Inv X pins σ H s):Inv (Cx.pin' X pins) [] σ H s:=⟨NN I.ok,I.os,I.bare,I.base,I.loc,I.cell,I.free,I.freeC,λp a=>I.pin p (by simpa using a),I.hok,I.len⟩
theorem zY(I:Inv (Cx.pin' X pins) [] σ H s):Inv X pins σ H s:=⟨VE I.ok,I.os,I.bare,I.base,I.loc,I.cell,I.free,I.freeC,λp a=>I.pin p (by simpa using a),I.hok,I.len⟩
theorem XB(I:Inv X pins σ H s):Inv (Cx.han X x) pins σ H s:=⟨Nb I.ok,I.os,I.bare,I.base,I.loc,I.cell,I.free,I.freeC,I.pin,I.hok,I.len⟩
theorem QT(ok:X.Ok)(I:Inv (Cx.han X x) pins σ H s):Inv X pins σ H s:=⟨ok,I.os,I.bare,I.base,I.loc,I.cell,I.free,I.freeC,I.pin,I.hok,I.len⟩
theorem jM{W:XW}(p:XP (X.wish E) W e s):XP X W e s:=by
 obtain⟨x,cls,d,f,H,T,fl,a,I,b,c,r,h,g⟩:=p;exact⟨x,cls,d,f,H,T,fl,a,I.unwish,⟨b.free,b.loc,b.nfs,b.new,b.cel,b.pin⟩,λt i=>let b:=c t i;⟨b.free,b.loc,b.nfs,b.new,b.cel,b.pin⟩,r,h,g⟩
end
end NH
namespace NH
open PySem
inductive T where
 |non|bl (b:Bool)|int (i:Int)|str (x:aG)
 |tup (ts:List T)|lst (ts:List T)|obj (c:Nat) (fs:List (Nat×T))
 |mut (i:Nat)
 |exc (c:Nat) (fs:List (Nat×T))
 |dic (kvs:List (L2.Key×T))
 |clo (j:Nat) (cs:List T)
inductive MO where
 |lst (ts:List T)|obj (c:Nat) (fs:List (Nat×T))|dic (kvs:List (L2.Key×T))
 |tab (j:Nat)|dct (ks:List (Int×Int))|frd (ep:Nat) (kvs:List (L2.Key×T))
noncomputable abbrev F6:MO->Bool
 |.tab _=>aB
 |_=>aD
noncomputable abbrev aK:=List MO
noncomputable abbrev Sl:=List (Option T)
mutual
def jC:T->Bool
 |.mut _=>aD
 |.tup a=>ZH a
 |.lst a=>ZH a
 |.obj _ fs=>yo fs
 |.exc _ fs=>yo fs
 |.dic b=>XC b
 |.clo _ cs=>ZH cs
 |_=>aB
def ZH:List T->Bool
 |[]=>aB
 |t::r=>jC t&&ZH r
def yo:List (Nat×T)->Bool
 |[]=>aB
 |p::r=>jC p.2&&yo r
def XC:List (L2.Key×T)->Bool
 |[]=>aB
 |p::r=>jC p.2&&XC r
end
noncomputable abbrev Xp:=Nat->List (Nat×T)->aK->Prop
noncomputable abbrev RE(β:Type):=(β->aK->Prop)->Xp->Prop
noncomputable abbrev RE.ok{β:Type}(a:β)(μ:aK):RE β:=λK _=>K a μ
noncomputable abbrev RE.st{β:Type}:RE β:=λ_ _=>False
noncomputable abbrev RE.bind{β b:Type}(r:RE b)(k:b->aK->RE β):RE β:=λK Z=>r (λa μ=>k a μ K Z) Z
noncomputable abbrev RE.grd{β:Type}(p:Prop)(r:RE β):RE β:=λK Z=>p/\r K Z
noncomputable abbrev RE.som{β b:Type}(o:Option b)(k:b->RE β):RE β:=λK Z=>∃a,o=aA a/\k a K Z
@[reducible] noncomputable def ii(b:Bool)(A B:Prop):Prop:=match b with
 |true=>A
 |false=>B
noncomputable abbrev RE.br{β:Type}(b:Bool)(r s:RE β):RE β:=λK Z=>ii b (r K Z) (s K Z)
structure En where
 nx:Sl->aK->Prop
 rt:T->aK->Prop
 bk:Sl->aK->Prop
 ct:Sl->aK->Prop
 ex:Nat->List (Nat×T)->Sl->aK->Prop
noncomputable abbrev cQ:=En->Prop
noncomputable abbrev En.nxt(E:En)(f:Sl->aK->Prop):En:=⟨f,E.rt,E.bk,E.ct,E.ex⟩
noncomputable abbrev En.turn(E:En)(N:Sl->aK->Prop):En:=⟨N,E.rt,E.nx,N,E.ex⟩
noncomputable abbrev En.tri(E:En)(X:Nat->List (Nat×T)->Sl->aK->Prop):En:=⟨E.nx,E.rt,E.bk,E.ct,X⟩
noncomputable abbrev En.fn(K:T->aK->Prop)(Z:Xp):En:=⟨λ_ a=>K .non a,K,λ_ _=>False,λ_ _=>False,λc fs _ a=>Z c fs a⟩
noncomputable abbrev cQ.nx(τ:Sl)(μ:aK):cQ:=λE=>E.nx τ μ
noncomputable abbrev cQ.rt(t:T)(μ:aK):cQ:=λE=>E.rt t μ
noncomputable abbrev cQ.ex(c:Nat)(fs:List (Nat×T))(τ:Sl)(μ:aK):cQ:=λE=>E.ex c fs τ μ
noncomputable abbrev cQ.st:cQ:=λ_=>False
noncomputable abbrev cQ.grd(p:Prop)(o:cQ):cQ:=λE=>p/\o E
noncomputable abbrev cQ.som{b:Type}(o:Option b)(k:b->cQ):cQ:=λE=>∃a,o=aA a/\k a E
noncomputable abbrev cQ.br(b:Bool)(r s:cQ):cQ:=λE=>ii b (r E) (s E)
noncomputable abbrev cQ.seq(o:cQ)(f:Sl->aK->cQ):cQ:=λE=>o (E.nxt λτ μ=>f τ μ E)
noncomputable abbrev RE.out{β:Type}(r:RE β)(τ:Sl)(f:β->aK->cQ):cQ:=λE=>r (λa μ=>f a μ E) (λc fs μ=>E.ex c fs τ μ)
noncomputable abbrev Fn:=List T->aK->RE T
noncomputable abbrev De:=Sl->aK->RE T
noncomputable abbrev Dt:=Sl->aK->RE Bool
noncomputable abbrev Da:=Sl->aK->RE (List T)
noncomputable abbrev Ds:=Sl->aK->cQ
noncomputable abbrev RI:=(List T->(aK->Prop)->aK->Prop)->Xp->Prop
noncomputable abbrev RI.ok(xs:List T)(o:aK->Prop)(μ:aK):RI:=λK _=>K xs o μ
noncomputable abbrev RI.st:RI:=λ_ _=>False
noncomputable abbrev RI.grd(p:Prop)(r:RI):RI:=λK Z=>p/\r K Z
noncomputable abbrev RI.go{β:Type}(r:RI)(k:List T->(aK->Prop)->aK->RE β):RE β:=λK Z=>r (λxs o μ=>k xs o μ K Z) Z
noncomputable abbrev RI.out(r:RI)(τ:Sl)(f:List T->(aK->Prop)->aK->cQ):cQ:=λE=>r (λxs o μ=>f xs o μ E) (λc fs μ=>E.ex c fs τ μ)
noncomputable abbrev RI.re(r:RI):RE (List T×(aK->Prop)):=λK Z=>r (λxs o μ=>K (xs,o) μ) Z
noncomputable abbrev RE.it{β:Type}(r:RE β)(k:β->aK->RI):RI:=λK Z=>r (λa μ=>k a μ K Z) Z
noncomputable abbrev Di:=Sl->aK->RI
abbrev gb:aK->Prop:=λ_=>True
abbrev l5(i:Nat)(xs:List T):aK->Prop:=λa=>a[i]?=aA (.lst xs)
structure bO where
 jt:Nat
 qn:aG
 y:aG
 body:aI
 sc:Scope
 fr:List aG
 g:De
 sb:Option (aG×List bG)
noncomputable abbrev Yr(j jt:Nat)(ts:List T):T:=.clo (300+j) (.clo (100+jt) []::ts.map λt=>.clo 200 [t])
inductive GM where
 |fn (f:Fn)
 |fnh (nm:aG) (f:Fn)
 |met (c:Nat) (nm:aG) (f:Fn)
 |mk (c:Nat) (frozen:Bool) (f:Fn)
 |cst (t:T)
 |xcl (c:Nat)
 |xcf (c:Nat) (f:Nat)
 |xbt (c:Nat) (n:String)
 |xin (c f:Nat) (nm fl:aG)
 |mkd (c:Nat) (nm:aG) (n:Nat) (f:Fn)
 |metd (c:Nat) (nm:aG) (n:Nat) (d:T) (f:Fn)
 |kpr
 |kap (ls:List bO)
 |tbl (kvs:List (aG×Int))
 |none
 |bad
noncomputable abbrev Vj(τ:Sl):Nat->Option T:=fZ (motive:=λ_=>Nat->Option T) (λ_=>aE) (λo _ a i=>ou (motive:=λ_=>Option T) o (λn _=>a n) i) τ
noncomputable abbrev kY(τ:Sl):Nat->Option T->Sl:=fZ (motive:=λ_=>Nat->Option T->Sl) (λ_ _=>[]) (λo r a i t=>ou (motive:=λ_=>Sl) (t::r) (λn _=>o::a n t) i) τ
theorem WK:∀{τ:Sl}{i:Nat}{t:T},Vj τ i=aA t↔τ[i]?=aA (aA t)
 |[],_,_=>by simp
 |o::r,0,t=>by show o=aA t↔_;simp
 |o::r,n+1,t=>by
  show Vj r n=aA t↔_;rw[WK (τ:=r) (i:=n)];simp
theorem Vf:∀{τ:Sl}{i:Nat}{t:Option T},kY τ i t=τ.set i t
 |[],_,_=>by simp
 |o::r,0,t=>rfl
 |o::r,n+1,t=>by
  show o::kY r n t=_;rw[Vf (τ:=r) (i:=n)];simp
noncomputable abbrev Ka(fs:List (Nat×T)):Nat->Option T:=fZ (motive:=λ_=>Nat->Option T) (λ_=>aE) (λp _ a i=>oB (motive:=λ_=>Option T) (a i) (aA p.2) (fM p.1 i)) fs
noncomputable abbrev YD(f:Nat)(v:T)(fs:List (Nat×T)):List (Nat×T):=fZ (motive:=λ_=>List (Nat×T)) [(f,v)] (λp r a=>oB (motive:=λ_=>List (Nat×T)) (p::a) ((p.1,v)::r) (fM p.1 f)) fs
theorem Y_:Ka (p::r) i=match fM p.1 i with
  |true=>aA p.2
  |false=>Ka r i:=by
 show (oB (Ka r i) (aA p.2) (fM p.1 i):Option T)=_;cases fM p.1 i<;>rfl
theorem YF:YD f v (p::r)=match fM p.1 f with
  |true=>(p.1,v)::r
  |false=>p::YD f v r:=by
 show (oB (p::YD f v r) ((p.1,v)::r) (fM p.1 f):List (Nat×T))=_;cases fM p.1 f<;>rfl
noncomputable def cL:List aG->aG->Option Nat
 |[],_=>aE
 |y::r,x=>if y=x then aA 0 else (cL r x).map (·+1)
noncomputable abbrev GR:T->aK->Option Nat
 |.non,_=>aA 0
 |.bl _,_=>aA 1
 |.int _,_=>aA 2
 |.str _,_=>aA 3
 |.tup _,_=>aA 4
 |.lst _,_=>aA 5
 |.dic _,_=>aA 6
 |.exc c _,_=>aA c
 |.obj c _,_=>aA c
 |_,_=>aE
noncomputable abbrev GQ:MO->Nat
 |.lst _=>5
 |.obj c _=>c
 |.dic _=>6
 |.tab _=>99
 |.dct _=>6
 |.frd _ _=>6
noncomputable abbrev rf(a b:Bool):Bool:=match a with
 |true=>b
 |false=>aD
noncomputable abbrev l9(a b:Bool):Bool:=match a with
 |true=>aB
 |false=>b
noncomputable abbrev vy(a c:Nat):Bool:=l9 (fM a c) (l9 (rf (fM a 1) (fM c 2)) (rf (oq 10 a) (rf (oq a 39) (l9 (fM c 11) (rf (fM c 10) (oq 12 a))))))
noncomputable abbrev c3(t:Nat)(cs:List Nat):Bool:=fZ (motive:=λ_=>Bool) aD (λc _ a=>l9 (vy t c) a) cs
theorem ZV:c3 t (c::r)=l9 (vy t c) (c3 t r):=rfl
noncomputable def big:Int:=18446744073709551616
noncomputable def aU:Nat:=1000000
noncomputable abbrev tL:T->T->aK->RE T
 |.int i,.int j,a=>.ok (.int (i+j)) a
 |.str x,.str y,a=>.grd (x.length+y.length<=aU) (.ok (.str (x++y)) a)
 |.lst c,.lst b,a=>.grd (c.length+b.length<=aU) (.ok (.lst (c++b)) a)
 |.tup c,.tup b,a=>.grd (c.length+b.length<=aU) (.ok (.tup (c++b)) a)
 |.mut i,.lst b,a=>λK _=>∃c,a[i]?=aA (.lst c)/\c.length+b.length<=aU/\K (.lst (c++b)) a
 |.lst c,.mut j,a=>λK _=>∃b,a[j]?=aA (.lst b)/\c.length+b.length<=aU/\K (.lst (c++b)) a
 |.mut i,.mut j,a=>λK _=>∃p:List T×List T,(a[i]?=aA (.lst p.1)/\a[j]?=aA (.lst p.2))/\p.1.length+p.2.length<=aU/\K (.lst (p.1++p.2)) a
 |_,_,_=>.st
noncomputable abbrev WC(f:Int->Int->aK->RE T):T->T->aK->RE T
 |.int i,.int j,a=>f i j a
 |_,_,_=>.st
noncomputable abbrev Fp:Operator->T->T->aK->RE T
 |.Add=>tL
 |.Sub=>WC λi j a=>.ok (.int (i-j)) a
 |.Mult=>WC λi j a=>.grd ((-big<i/\i<big)\/(-big<j/\j<big)) (.ok (.int (i*j)) a)
 |.FloorDiv=>WC λi j a=>.grd (0<j/\j<1606938044258990275541962092341162602522202993782792835301376) (.ok (.int (i / j)) a)
 |.Mod=>WC λi j a=>.grd (0<j) (.ok (.int (i % j)) a)
 |.Pow=>WC λi j a=>.grd (0<=j/\j<=1000000/\i.natAbs<18446744073709551616) (.ok (.int (i ^ j.toNat)) a)
 |.RShift=>WC λi j a=>.grd (0<=j) (.ok (.int (i / 2 ^ j.toNat)) a)
 |.BitAnd=>WC λi j a=>.ok (.int (CS i j)) a
 |_=>λ_ _ _=>.st
mutual
def eqT:T->T->Option Bool
 |.int i,b=>match b with
  |.int j=>aA (i==j)
  |.bl k=>aA (i==(if k then 1 else 0))
  |.str _=>aA aD
  |.non=>aA aD
  |.tup _=>aA aD
  |.lst _=>aA aD
  |_=>aE
 |.bl k,b=>match b with
  |.int j=>aA ((if k then 1 else 0)==j)
  |.bl j=>aA (k==j)
  |.str _=>aA aD
  |.non=>aA aD
  |.tup _=>aA aD
  |.lst _=>aA aD
  |_=>aE
 |.str x,b=>match b with
  |.str y=>aA (x==y)
  |.int _=>aA aD
  |.bl _=>aA aD
  |.non=>aA aD
  |.tup _=>aA aD
  |.lst _=>aA aD
  |_=>aE
 |.non,b=>match b with
  |.non=>aA aB
  |.int _=>aA aD
  |.bl _=>aA aD
  |.str _=>aA aD
  |.tup _=>aA aD
  |.lst _=>aA aD
  |_=>aE
 |.tup c,b=>match b with
  |.tup a=>c8 c a
  |.non=>aA aD
  |.int _=>aA aD
  |.bl _=>aA aD
  |.str _=>aA aD
  |.lst _=>aA aD
  |_=>aE
 |.lst c,b=>match b with
  |.lst a=>c8 c a
  |.non=>aA aD
  |.int _=>aA aD
  |.bl _=>aA aD
  |.str _=>aA aD
  |.tup _=>aA aD
  |_=>aE
 |_,_=>aE
def c8:List T->List T->Option Bool
 |[],[]=>aA aB
 |[],_::_=>aA aD
 |_::_,[]=>aA aD
 |x::d,y::c=>match eqT x y,c8 d c with
  |some a,aA b=>aA (a&&b)
  |_,_=>aE
end
mutual
def xx:T->Nat
 |.tup a=>v7 a+1
 |.lst a=>v7 a+1
 |_=>0
def v7:List T->Nat
 |[]=>0
 |t::r=>max (xx t) (v7 r)
end
noncomputable abbrev Bj:T->T->Option Bool
 |.non,.non=>aA aB
 |.non,.int _=>aA aD|.int _,.non=>aA aD|.non,.bl _=>aA aD|.bl _,.non=>aA aD|.non,.str _=>aA aD|.str _,.non=>aA aD
 |.int i,.int j=>aA (decide (i=j))|.bl i,.bl j=>aA (decide (i=j))|.str i,.str j=>aA (decide (i=j))
 |.int _,.str _=>aA aD|.str _,.int _=>aA aD|.bl _,.str _=>aA aD|.str _,.bl _=>aA aD
 |_,_=>aE
noncomputable abbrev rz(x y:T)(μ:aK)(k:Bool->RE T):RE T:=match x,y with
 |.tup a,.tup c=>.grd (v7 a<=40) (.som (c8 a c) k)
 |.lst a,.lst c=>.grd (v7 a<=40) (.som (c8 a c) k)
 |.mut i,.lst c=>λK Z=>∃a,μ[i]?=aA (.lst a)/\RE.grd (v7 a<=40) (.som (c8 a c) k) K Z
 |.lst a,.mut j=>λK Z=>∃c,μ[j]?=aA (.lst c)/\RE.grd (v7 a<=40) (.som (c8 a c) k) K Z
 |.mut i,.mut j=>λK Z=>∃p:List T×List T,(μ[i]?=aA (.lst p.1)/\μ[j]?=aA (.lst p.2))/\RE.grd (v7 p.1<=40) (.som (c8 p.1 p.2) k) K Z
 |x,y=>match Bj x y with
  |some b=>k b
  |none=>.st
noncomputable def bJ:List T->Option (List Int)
 |[]=>aA []
 |.int i::r=>(bJ r).map (i::·)
 |_::_=>aE
noncomputable abbrev GZ(x y:T)(k:Bool->RE T):RE T:=match x,y with
 |.int i,.int j=>k (decide (i<j))
 |.tup d,.tup c=>.som (bJ d) λe=>.som (bJ c) λf=>k (HT.lexLt e f)
 |.str a,.str b=>k (decide (a.cps.toList<b.cps.toList))
 |_,_=>.st
noncomputable abbrev Qp(op:eQ)(x y:T)(μ:aK):RE T:=
 match op with
 |.Eq=>rz x y μ λb=>.ok (.bl b) μ
 |.NotEq=>rz x y μ λb=>.ok (.bl (!b)) μ
 |.Lt=>GZ x y λb=>.ok (.bl b) μ
 |.LtE=>match x,y with|.int i,.int j=>.ok (.bl (decide (i<=j))) μ|_,_=>.st
 |.Gt=>match x,y with|.int i,.int j=>.ok (.bl (decide (j<i))) μ|_,_=>.st
 |.GtE=>match x,y with|.int i,.int j=>.ok (.bl (decide (j<=i))) μ|_,_=>.st
 |.Is=>(match y with
  |.non=>.ok (.bl (match x with|.non=>aB|_=>aD)) μ
  |.bl b=>(match x with|.bl a=>.ok (.bl (decide (a=b))) μ|_=>.st)
  |_=>.st)
 |.IsNot=>(match y with
  |.non=>.ok (.bl (match x with|.non=>aD|_=>aB)) μ
  |.bl b=>(match x with|.bl a=>.ok (.bl (!decide (a=b))) μ|_=>.st)
  |_=>.st)
 |.In=>(match x,y with|.str i,.str j=>.ok (.bl (!(nI j i 0 j.length 1).isEmpty)) μ|_,_=>.st)
 |.NotIn=>(match x,y with|.str i,.str j=>.ok (.bl (!(!(nI j i 0 j.length 1).isEmpty))) μ|_,_=>.st)
noncomputable abbrev xf:T->aK->RE Bool
 |.bl b,a=>.ok b a
 |_,_=>.st
noncomputable abbrev eC(t:T):De:=λ_ a=>.ok t a
noncomputable abbrev eV(i:Nat):De:=λa b=>match Vj a i with
 |some t=>.ok t b
 |none=>.st
noncomputable abbrev zd(op:Operator)(f g:De):De:=λc d=>(f c d).bind λx b=>(g c b).bind λy a=>Fp op x y a
noncomputable abbrev xz(f:De):De:=λb c=>(f b c).bind λx a=>match x with|.int i=>.ok (.int (-i)) a|_=>.st
noncomputable abbrev AT(f:De):De:=λc d=>(f c d).bind λx a=>match x with|.bl b=>.ok (.bl (!b)) a|_=>.st
noncomputable abbrev jP(f g:De):De:=λc d=>(f c d).bind λx a=>match x with|.bl b=>.br b (g c a) (.ok (.bl aD) a)|_=>.st
noncomputable abbrev G6(f g:De):De:=λc d=>(f c d).bind λx a=>match x with|.bl b=>.br b (.ok (.bl aB) a) (g c a)|_=>.st
noncomputable abbrev zx(op:eQ)(f g:De):De:=λc d=>(f c d).bind λx b=>(g c b).bind λy a=>Qp op x y a
noncomputable abbrev Tc(op:eQ)(d:Bool)(e:T->Sl->aK->RE T)(x y:T)(τ:Sl)(c:aK):RE T:=match d with
 |true=>Qp op x y c
 |false=>(Qp op x y c).bind λk a=>match k with
  |.bl b=>.br b (e y τ a) (.ok (.bl aD) a)
  |_=>.st
noncomputable abbrev nU(ps:List (eQ×De)):T->Sl->aK->RE T:=fZ (motive:=λ_=>T->Sl->aK->RE T) (λ_ _ _=>.st) (λp r d x b c=>(p.2 b c).bind λy a=>Tc p.1 r.isEmpty d x y b a) ps
noncomputable abbrev iC(f:De)(ps:List (eQ×De)):De:=λb c=>(f b c).bind λx a=>nU ps x b a
noncomputable abbrev tE(f:De):Dt:=λa b=>(f a b).bind xf
noncomputable abbrev xA(f g:Dt):Dt:=λc d=>(f c d).bind λb a=>.br b (g c a) (.ok aD a)
noncomputable abbrev fx(f g:Dt):Dt:=λc d=>(f c d).bind λb a=>.br b (.ok aB a) (g c a)
noncomputable abbrev qc(f:Dt):Dt:=λc d=>(f c d).bind λb a=>.ok (!b) a
noncomputable abbrev n9(c:Dt)(f g:De):De:=λd e=>(c d e).bind λb a=>.br b (f d a) (g d a)
noncomputable abbrev Z4(t:T)(f:Nat)(μ:aK):RE T:=match t with
 |.obj _ fs=>(match Ka fs f with|some v=>.ok v μ|none=>.st)
 |.mut i=>λK _=>∃c fs v,μ[i]?=aA (.obj c fs)/\Ka fs f=aA v/\K v μ
 |_=>.st
noncomputable abbrev zf(f:De)(n:Nat):De:=λb c=>(f b c).bind λt a=>Z4 t n a
noncomputable def UY(n:Nat)(i:Int):Option Nat:=if 0<=i then (if i<n then aA i.toNat else aE) else if -(n:Int)<=i then aA (i+n).toNat else aE
noncomputable def vq {α:Type}(xs:List α)(i:Int):Option α:=(UY xs.length i).bind λj=>xs[j]?
noncomputable abbrev F_(t i:T)(μ:aK):RE T:=match i with
 |.int k=>(match t with
  |.lst a=>.som (vq a k) λv=>.ok v μ
  |.tup a=>.som (vq a k) λv=>.ok v μ
  |.mut j=>λK _=>∃a v,μ[j]?=aA (.lst a)/\vq a k=aA v/\K v μ
  |.str z=>.grd (z.length<=aU) (.som (vq z.cps.toList k) λc=>.ok (.str ⟨#[c]⟩) μ)
  |_=>.st)
 |_=>.st
noncomputable abbrev bC(f g:De):De:=λc d=>(f c d).bind λx b=>(g c b).bind λy a=>F_ x y a
noncomputable def nW(n d:Nat):Option Int->Nat
 |none=>d
 |some v=>if v<0 then (v+(n:Int)).toNat else min v.toNat n
noncomputable def Kz {α:Type}(xs:List α)(lo hi:Option Int):List α:=(xs.drop (nW xs.length 0 lo)).take (nW xs.length xs.length hi-nW xs.length 0 lo)
noncomputable abbrev Dp:=Sl->aK->RE (Option Int)
noncomputable abbrev pN:Dp:=λ_ a=>.ok aE a
noncomputable abbrev pS(f:De):Dp:=λb c=>(f b c).bind λt a=>match t with|.int i=>.ok (aA i) a|_=>.st
noncomputable abbrev Ft(x:T)(l h:Option Int)(μ:aK):RE T:=match x with
 |.lst a=>.ok (.lst (Kz a l h)) μ
 |.tup a=>.ok (.tup (Kz a l h)) μ
 |.str z=>.grd (z.length<=aU) (.ok (.str (Txt.slice z l h)) μ)
 |.mut i=>λK _=>∃b,μ[i]?=aA (.lst b)/\K (.lst (Kz b l h)) μ
 |_=>.st
noncomputable abbrev BF(f:De)(lo hi:Dp):De:=λa e=>(f a e).bind λx d=>(lo a d).bind λl c=>(hi a c).bind λh b=>Ft x l h b
noncomputable abbrev gh(fs:List De):Da:=fZ (motive:=λ_=>Da) (λ_ c=>.ok [] c) (λf _ g d c=>(f d c).bind λt b=>(g d b).bind λe a=>.ok (t::e) a) fs
noncomputable abbrev jg(fs:List De):De:=λb c=>(gh fs b c).bind λd a=>.ok (.lst d) a
noncomputable abbrev wq(fs:List De):De:=λb c=>(gh fs b c).bind λd a=>.ok (.tup d) a
noncomputable abbrev Zm(fs:List De):De:=λb c=>(gh fs b c).bind λd a=>.ok (.mut a.length) (a++[.lst d])
noncomputable abbrev z6(g:Fn)(fs:List De):De:=λa b=>(gh fs a b).bind g
noncomputable abbrev J9(c:Nat)(g:Fn)(ts:List T)(μ:aK):RE T:=λK Z=>
 ZH ts=aB/\g (.mut 0::ts) [.obj c []] (λr a=>r=.non/\∃fs,a[0]?=aA (.obj c fs)/\yo fs=aB/\K (.obj c fs) μ) (λk fs _=>yo fs=aB/\Z k fs μ)
noncomputable abbrev rA(c:Nat)(g:Fn)(fs:List De):De:=λa b=>(gh fs a b).bind (J9 c g)
noncomputable abbrev nY(cs:List Nat)(x:T)(μ:aK):RE T:=match x with
 |.mut i=>.som μ[i]? λo=>.br (F6 o) .st (.ok (.bl (c3 (GQ o) cs)) μ)
 |x=>match GR x μ with
  |some t=>.ok (.bl (c3 t cs)) μ
  |none=>.st
noncomputable abbrev xY(cs:List Nat)(f:De):De:=λa b=>(f a b).bind (nY cs)
noncomputable abbrev dD(op:T->aK->RE T)(f:De):De:=λa b=>(f a b).bind op
noncomputable abbrev y_(t:T)(μ:aK):RE T:=match t with
 |.lst a=>.ok (.int a.length) μ
 |.tup a=>.ok (.int a.length) μ
 |.str s=>.grd (s.length<=aU) (.ok (.int s.length) μ)
 |.mut i=>λK _=>∃a,μ[i]?=aA (.lst a)/\K (.int a.length) μ
 |_=>.st
noncomputable abbrev p_(t:T)(μ:aK):RE T:=match t with
 |.int i=>.ok (.int i) μ
 |.bl b=>.ok (.int (if b then 1 else 0)) μ
 |_=>.st
noncomputable abbrev Jn(t:T)(μ:aK):RE T:=match t with
 |.lst a=>.ok (.lst a) μ
 |.tup a=>.ok (.lst a) μ
 |.mut i=>λK _=>∃a,μ[i]?=aA (.lst a)/\K (.lst a) μ
 |_=>.st
noncomputable def cU:List T->Option (List Bool)
 |[]=>aA []
 |.bl b::r=>(cU r).map (b::·)
 |_::_=>aE
noncomputable abbrev V5(t:T)(μ:aK):RE T:=match t with
 |.lst a=>.som (cU a) λbs=>.ok (.bl (bs.all id)) μ
 |_=>.st
noncomputable abbrev K6(o f:De):De:=λd e=>(o d e).bind λg b=>match g with
 |.mut i=>λK Z=>(∃c,b[i]?=aA (.lst c))/\f d b (λt a=>∃c,a[i]?=aA (.lst c)/\c.length<aU/\K .non (a.set i (.lst (c++[t])))) Z
 |_=>.st
noncomputable def eN:List T->Option (List aG)
 |[]=>aA []
 |.str x::r=>(eN r).map (x::·)
 |_::_=>aE
noncomputable abbrev ZM(z:aG):List T:=z.cps.toList.map λc=>T.str ⟨#[c]⟩
noncomputable abbrev MQ(t:T)(μ:aK):RI:=match t with
 |.lst a=>.ok a gb μ
 |.tup a=>.ok a gb μ
 |.str z=>.ok (ZM z) gb μ
 |.mut i=>λK _=>∃a,μ[i]?=aA (.lst a)/\K a (l5 i a) μ
 |_=>.st
noncomputable abbrev iE(f:De):Di:=λa b=>(f a b).it MQ
noncomputable def rangeT(n:Int):List T:=(eX n.toNat).map λ(i:Nat)=>T.int i
noncomputable def wL(a b c:Int):List T:=(eX (if a<b then (b-a-1) / c+1 else 0:Int).toNat).map λ(i:Nat)=>T.int (a+i*c)
noncomputable abbrev l7(a:Int):Prop := -1606938044258990275541962092341162602522202993782792835301376<=a/\a<1606938044258990275541962092341162602522202993782792835301376
noncomputable abbrev pP(f:De):Di:=λb c=>(f b c).it λt a=>match t with
 |.int n=>.grd (l7 n) (.ok (rangeT n) gb a)
 |_=>.st
noncomputable abbrev VH(f g:De):Di:=λe h=>(f e h).it λx d=>(g e d).it λy c=>match x,y with
 |.int a,.int b=>.grd (l7 a/\l7 b) (.ok (wL a b 1) gb c)
 |_,_=>.st
inductive Tg where
 |one (i:Nat)|tup (is:List Nat)
noncomputable abbrev VX(is:List Nat):List T->Sl->Option Sl:=fZ (motive:=λ_=>List T->Sl->Option Sl) (λc a=>fZ (motive:=λ_=>Option Sl) (aA a) (λ_ _ _=>aE) c) (λi _ d c a=>fZ (motive:=λ_=>Option Sl) aE (λt b _=>d b (kY a i (aA t))) c) is
noncomputable abbrev hO:Tg->T->Sl->Option Sl
 |.one i,t,a=>aA (kY a i (aA t))
 |.tup c,.tup b,a=>VX c b a
 |_,_,_=>aE
noncomputable def zT(tg:Tg)(g:Sl->aK->RE (Option T))(lv:aK->Prop)(τ:Sl):List T->aK->RE (List T)
 |[],d=>.ok [] d
 |x::r,d=>.som (hO tg x τ) λb=>(g b d).bind λo a=>.grd (lv a) (match o with
  |some y=>(zT tg g lv τ r a).bind λe c=>.ok (y::e) c
  |none=>zT tg g lv τ r a)
noncomputable abbrev u3(cs:List Dt)(f:De):Sl->aK->RE (Option T):=fZ (motive:=λ_=>Sl->aK->RE (Option T)) (λd e=>(f d e).bind λy a=>.ok (aA y) a) (λc _ g d e=>(c d e).bind λb a=>.br b (g d a) (.ok aE a)) cs
noncomputable abbrev Kv(is:List Nat)(τ:Sl):Sl:=fZ (motive:=λ_=>Sl) [] (λi _ a=>Vj τ i::a) is
noncomputable abbrev gM(n:Nat)(fs:List Nat)(τ:Sl):Sl:=ou (motive:=λ_=>Sl) (Kv fs τ) (λ_ a=>aE::a) n
noncomputable abbrev qw(n:Nat)(fs:List Nat)(tg:Tg)(it:Di)(cs:List Dt)(f:De):De:=λc e=>(it c e).go λd o b=>.grd (d.length<=aU) ((zT tg (u3 cs f) o (gM n fs c) d b).bind λg a=>.ok (.lst g) a)
noncomputable abbrev kQ(n:Nat)(fs:List Nat)(tg:Tg)(it:Di)(cs:List Dt)(f:De):De:=λc e=>(it c e).go λd o b=>.grd (d.length<=aU) ((zT tg (u3 cs f) o (gM n fs c) d b).bind λg a=>.ok (.mut a.length) (a++[.lst g]))
noncomputable abbrev zr(f:De):Ds:=λb c=>(f b c).out b λt a=>.rt t a
noncomputable abbrev Be:Ds:=λ_ a=>.rt .non a
noncomputable abbrev zN(f:De):Ds:=λa c=>(f a c).out a λ_ b=>.nx a b
noncomputable abbrev qd(c:List Ds):Ds:=fZ (motive:=λ_=>Ds) (λa b=>.nx a b) (λs _ d a b=>(s a b).seq d) c
noncomputable abbrev bS(c:Dt)(a b:List Ds):Ds:=λe f=>(c e f).out e λk d=>.br k (qd a e d) (qd b e d)
noncomputable abbrev zp(i:Nat)(f:De):Ds:=λa c=>(f a c).out a λt b=>.nx (kY a i (aA t)) b
noncomputable abbrev pU(is:List Nat)(f:De):Ds:=λb d=>(f b d).out b λt c=>.som (hO (.tup is) t b) λa=>.nx a c
noncomputable abbrev zM(o:De)(n:Nat)(f:De):Ds:=λa e=>(f a e).out a λt d=>(o a d).out a λg b=>match g with
 |.mut i=>λE=>∃c fs,b[i]?=aA (.obj c fs)/\fs.length<900/\E.nx a (b.set i (.obj c (YD n t fs)))
 |_=>.st
noncomputable abbrev Ew(o b f:De):Ds:=λa h=>(f a h).out a λt e=>(o a e).out a λj d=>(b a d).out a λit c=>match j,it with
 |.mut i,.int k=>λE=>∃g,c[i]?=aA (.lst g)/\(0<=k/\k<g.length/\k<9223372036854775808)/\E.nx a (c.set i (.lst (g.set k.toNat t)))
 |_,_=>.st
noncomputable def dH(tg:Tg)(body:Ds)(lv:aK->Prop):List T->Ds
 |[],d,e=>.nx d e
 |x::r,d,e=>.som (hO tg x d) λc=>λE=>body c e (E.turn λb a=>lv a/\dH tg body lv r b a E)
noncomputable abbrev kn(tg:Tg)(it:Di)(body:List Ds):Ds:=λa c=>(it a c).out a λd o b=>dH tg (qd body) o d a b
noncomputable def K4(c:Dt)(body:List Ds):Ds:=λd e E=>∃I:Nat->Sl->aK->Prop,(∃n,I n d e)/\∀n d e,I n d e->
 c d e (λb a=>ii b (qd body d a (E.turn λf g=>∃m,m<n/\I m f g)) (E.nx d a)) (λk fs a=>E.ex k fs d a)
noncomputable abbrev zG(c:Nat)(fs:List De):Ds:=λa d=>(gh fs a d).out a λe b=>.grd (e.length<=aU) (.ex c [] a b)
noncomputable abbrev EF(i:Option Nat)(v:List Ds)(k:Nat)(fs:List (Nat×T))(τ:Sl)(μ:aK):cQ:=λE=>match i with
 |some j=>qd v (kY τ j (aA (.exc k fs))) μ {nx:=λa b=>E.nx (kY a j aE) b,rt:=E.rt,bk:=λ_ _=>False,ct:=λ_ _=>False,ex:=λ_ _ _ _=>False}
 |none=>qd v τ μ {nx:=E.nx,rt:=E.rt,bk:=λ_ _=>False,ct:=λ_ _=>False,ex:=λ_ _ _ _=>False}
noncomputable abbrev rc(hs:List (List Nat×Option Nat×List Ds)):Nat->List (Nat×T)->Sl->aK->cQ:=fZ (motive:=λ_=>Nat->List (Nat×T)->Sl->aK->cQ) (λk fs a b=>.ex k fs a b) (λp _ c k fs a b=>.br (c3 k p.1) (EF p.2.1 p.2.2 k fs a b) (c k fs a b)) hs
noncomputable abbrev nQ(b:List Ds)(hs:List (List Nat×Option Nat×List Ds)):Ds:=λd e E=>qd b d e (E.tri λk fs a c=>rc hs k fs a c E)
noncomputable abbrev Bo(n:Nat):Sl:=ou (motive:=λ_=>Sl) [] (λ_ a=>aE::a) n
noncomputable abbrev rg(ts:List T)(n:Nat):Sl:=fZ (motive:=λ_=>Sl) (Bo n) (λt _ a=>aA t::a) ts
noncomputable abbrev bI(n m:Nat)(body:List Ds):Fn:=λa b K Z=>a.length=n/\qd body (rg a m) b (En.fn K Z)
end NH
namespace NH
open PySem PySem.Spec PyProof.Rows L2
section
structure DP where
 K:bM
 adr:Nat->Option aF
 cad:Nat->Option aF
 fn:Nat->Option aG
 inj:∀i j x,fn i=aA x->fn j=aA x->i=j
 clo:Nat->aF->Option HO->List V->Prop
 tabs:Nat->Option (aF×List Pos×aG)
noncomputable def tJ (a C:aF)(d:Option aF):aT->Prop:=λh=>∃b c,h.get? a=aA b/\b.cls=.ref C/\b.data=.fields c/\b.dict=d
noncomputable def RS(x:Int×Int):Int:=reduceHash (HN [hashInt x.1,hashInt x.2])
noncomputable def FD(a:aF)(xs:List ((Int×Int)×aF)):aT->Prop:=λh=>∃o es ep,h.get? a=aA o/\o.ExactDict/\o.data=.dict es ep/\es.toList=xs.map λx=>(⟨RS x.1,.ref x.2,.bool aB⟩:oD)
noncomputable def qC(c:aF)(qn:aG):aT->Prop:=λh=>h.CodeRec (.ref c) qn
inductive Tw(α:List aF)(i:Nat)(v:V):Prop|mk (a:aF) (h:α[i]?=aA a) (e:v=.ref a)
inductive Hk(φ α:List aF)(H:Hp)(c:List V->HO)(L:List V->Prop)(v:V):Prop|mk (a:aF) (xs:List V) (e:v=.ref a) (n1:a∉φ) (n2:a∉α) (r:Rd H a (c xs)) (l:L xs)
inductive Tv(φ α:List aF)(H:Hp)(ca:Option aF)(L:List (aG×V)->Prop)(v:V):Prop|mk (a C dx:aF) (gs:List (aG×V)) (e:v=.ref a) (n1:a∉φ) (n2:a∉α) (ad:ca=aA C) (q:H a=aA (.ins C dx gs)) (l:L gs)
inductive Tx(φ α:List aF)(H:Hp)(ca:Option aF)(L:Option aF->Prop)(v:V):Prop|mk (a C:aF) (d:Option aF) (e:v=.ref a) (n1:a∉φ) (n2:a∉α) (ad:ca=aA C) (q:H a=aA (.ext (tJ a C d))) (l:L d)
inductive Tz(φ α:List aF)(H:Hp)(L:List (Key×V)->Prop)(v:V):Prop|mk (a:aF) (gs:List (Key×V)) (e:v=.ref a) (n1:a∉φ) (n2:a∉α) (q:H a=aA (.dK gs)) (l:L gs)
inductive TC(φ α:List aF)(H:Hp)(c:aF->Option HO->List V->Prop)(L:List V->Prop)(v:V):Prop|mk (a:aF) (ob:Option HO) (xs:List V) (e:v=.ref a) (h:c a ob xs) (o:∀o,ob=aA o->a∉φ/\a∉α/\H a=aA o) (l:L xs)
inductive TB(P:V->Prop)(L:List V->Prop)(vs:List V):Prop|mk (v:V) (r:List V) (e:vs=v::r) (d:P v) (l:L r)
inductive TH(x:Option aG)(P:V->Prop)(L:List (aG×V)->Prop)(vs:List (aG×V)):Prop|mk (y:aG) (v:V) (r:List (aG×V)) (h:x=aA y) (e:vs=(y,v)::r) (d:P v) (l:L r)
inductive TF(k:Key)(P:V->Prop)(L:List (Key×V)->Prop)(vs:List (Key×V)):Prop|mk (v:V) (r:List (Key×V)) (e:vs=(k,v)::r) (d:P v) (l:L r)
inductive Hj(φ α:List aF)(H:Hp)(dx:aF)(L:List (aG×V)->Prop):Prop|mk (gs:List (aG×V)) (n1:dx∉φ) (n2:dx∉α) (q:H dx=aA (.xd gs)) (l:L gs)
mutual
def aZ (D:DP)(φ α:List aF)(H:Hp):T->V->Prop
 |.non,v=>v=.non
 |.bl b,v=>v=.bl b
 |.int i,v=>v=.int i
 |.str x,v=>v=.str x
 |.mut i,v=>Tw α i v
 |.tup a,v=>Hk φ α H .tup (aN D φ α H a) v
 |.lst a,v=>Hk φ α H .lst (aN D φ α H a) v
 |.obj c fs,v=>Tv φ α H (D.cad c) (bK D φ α H fs) v
 |.exc c fs,v=>Tx φ α H (D.adr c) (λd=>match d with
  |none=>fs=[]
  |some dx=>Hj φ α H dx (bK D φ α H fs)) v
 |.dic e,v=>Tz φ α H (bE D φ α H e) v
 |.clo j cs,v=>TC φ α H (D.clo j) (aN D φ α H cs) v
def aN (D:DP)(φ α:List aF)(H:Hp):List T->List V->Prop
 |[],a=>a=[]
 |t::b,a=>TB (aZ D φ α H t) (aN D φ α H b) a
def bK (D:DP)(φ α:List aF)(H:Hp):List (Nat×T)->List (aG×V)->Prop
 |[],a=>a=[]
 |p::fs,a=>TH (D.fn p.1) (aZ D φ α H p.2) (bK D φ α H fs) a
def bE (D:DP)(φ α:List aF)(H:Hp):List (Key×T)->List (Key×V)->Prop
 |[],a=>a=[]
 |p::fs,a=>TF p.1 (aZ D φ α H p.2) (bE D φ α H fs) a
end
noncomputable def BH (fs:List (Nat×T))(C:aF):aC:=if fs.length<=1 then .ref C else .int (C:Int) 0
theorem Ph:stC (BH fs C)=.ref C:=by
 unfold BH;split
 ·rfl
 ·show cY (oC (C:Int))=_;rw[Int.toNat_natCast]
noncomputable def n_(c:Nat):Option String:=if c=8 then aA "KeyError" else if c=9 then aA "ZeroDivisionError" else aE
inductive iG(D:DP)(c:Nat)(fs:List (Nat×T))(cv:aC):Prop where
 |own (C:aF) (ad:D.adr c=aA C) (e:cv=BH fs C)
 |blt (n:String) (h:n_ c=aA n) (hn:D.adr c=aE) (e:cv=.type n)
noncomputable def bW(D:DP)(φ α:List aF)(H:Hp)(fs:List (Nat×T)):Option aF->Prop
 |none=>fs=[]
 |some dx=>Hj φ α H dx (bK D φ α H fs)
inductive Ti(H:Hp)(a:aF)(L:List V->Prop):Prop|mk (xs:List V) (q:H a=aA (.lst xs)) (l:L xs)
inductive Th(H:Hp)(a:aF)(ca:Option aF)(L:List (aG×V)->Prop):Prop|mk (C dx:aF) (gs:List (aG×V)) (ad:ca=aA C) (q:H a=aA (.ins C dx gs)) (l:L gs)
inductive Tk(H:Hp)(a:aF)(L:List (Key×V)->Prop):Prop|mk (gs:List (Key×V)) (q:H a=aA (.dK gs)) (l:L gs)
inductive Tf(D:DP)(φ α:List aF)(H:Hp)(j:Nat)(a:aF):Prop|mk (poss:List Pos) (qn:aG) (ps:Array aC) (h1:D.tabs j=aA (a,poss,qn)) (h2:H a=aA (.tbl ps)) (h3:TriplesOk ps.toList) (h4:∀pos∈poss,codeAmong pos ps.toList=aE\/∃c,codeAmong pos ps.toList=aA (.ref c)/\c∉φ/\c∉α/\H c=aA (.ext (qC c qn)))
inductive Tl(φ α:List aF)(H:Hp)(ks:List (Int×Int))(a:aF):Prop|mk (xs:List ((Int×Int)×aF)) (h1:ks=xs.map (·.1)) (h2:ks.Nodup) (h3:ks.length<=100000) (h4:(a==sysModules)=aD) (h5:H a=aA (.ext (FD a xs))) (h6:∀x∈xs,x.2∉φ/\x.2∉α/\Rd H x.2 (.tup [.int x.1.1,.int x.1.2]))
inductive Tj(H:Hp)(a:aF)(ep:Nat)(L:List (Key×V)->Prop):Prop|mk (gs:List (Key×V)) (q:H a=aA (.dE ep gs)) (l:L gs)
noncomputable def d9 (D:DP)(φ α:List aF)(H:Hp):MO->aF->Prop
 |.lst d,a=>Ti H a (aN D φ α H d)
 |.obj c fs,a=>Th H a (D.cad c) (bK D φ α H fs)
 |.dic b,a=>Tk H a (bE D φ α H b)
 |.tab j,a=>Tf D φ α H j a
 |.dct e,a=>Tl φ α H e a
 |.frd ep b,a=>Tj H a ep (bE D φ α H b)
structure aO(α:List aF)(H:Hp)(α':List aF)(H':Hp):Prop where
 ext:∃β,α'=α++β/\∀b∈β,H b=aE
 keep:∀b o,b∉α->H b=aA o->H' b=aA o
 live:∀b,H' b=aE->H b=aE
theorem aO.refl(α:List aF)(H:Hp):aO α H α H:=⟨⟨[],by simp,by simp⟩,λ_ _ _ e=>e,λ_ e=>e⟩
theorem aO.trans(a:aO α H s w)(b:aO s w j u):aO α H j u:=by
 obtain⟨β,rfl,d⟩:=a.ext;obtain⟨g,rfl,f⟩:=b.ext;refine⟨⟨β++g,by simp,λc i=>?_⟩,λc o n e=>?_,λc e=>a.live c (b.live c e)⟩
 ·rcases cA.mp i with h|h
  ·exact d c h
  ·exact a.live c (f c h)
 ·refine b.keep c o (λh=>?_) (a.keep c o n e);rcases cA.mp h with h|h
  ·exact n h
  ·rw[d c h] at e;cases e
theorem aO.new(s:ko H d):aO α H α d:=⟨⟨[],by simp,by simp⟩,λb o _ e=>s b o e,λb e=>by
 cases q:H b with
 |none=>rfl
 |some o=>rw[s b o q] at e;cases e⟩
theorem za(h:H p=aE):ko H (upd H p o):=λb u e=>by rw[z9 (zH e h)];exact e
theorem aO.out(s:aO α H d j)(n:a∉α)(e:H a=aA o):a∉d:=by
 obtain⟨β,rfl,b⟩:=s.ext;intro h;rcases cA.mp h with h|h
 ·exact n h
 ·rw[b a h] at e;cases e
section
variable {D:DP}{φ φ' α α':List aF}{H H':Hp}
structure Lk(φ α:List aF)(H:Hp)(φ' α':List aF)(H':Hp):Prop where
 ob:∀a o,a∉φ->a∉α->H a=aA o->a∉φ'/\a∉α'/\H' a=aA o
 st:∀(i:Nat) (a:aF),α[i]?=aA a->α'[i]?=aA a
mutual
theorem aZ.lk(h:Lk φ α H φ' α' H'):∀{t:T}{v:V},aZ D φ α H t v->aZ D φ' α' H' t v
 |.non,_,d=>d
 |.bl _,_,d=>d
 |.int _,_,d=>d
 |.str _,_,d=>d
 |.mut i,_,d=>by obtain⟨a,e,q⟩:=d;exact⟨a,h.st i a e,q⟩
 |.tup ts,_,d=>by
  obtain⟨a,xs,rfl,n1,n2,r,l⟩:=d;rcases r with r|⟨o,r⟩
  ·obtain⟨m1,m2,e⟩:=h.ob a _ n1 n2 r;exact⟨a,xs,rfl,m1,m2,.inl e,aN.lk h l⟩
  ·obtain⟨m1,m2,e⟩:=h.ob a _ n1 n2 r;exact⟨a,xs,rfl,m1,m2,.inr ⟨o,e⟩,aN.lk h l⟩
 |.lst ts,_,d=>by
  obtain⟨a,xs,rfl,n1,n2,r,l⟩:=d;rcases r with r|⟨o,r⟩
  ·obtain⟨m1,m2,e⟩:=h.ob a _ n1 n2 r;exact⟨a,xs,rfl,m1,m2,.inl e,aN.lk h l⟩
  ·obtain⟨m1,m2,e⟩:=h.ob a _ n1 n2 r;exact⟨a,xs,rfl,m1,m2,.inr ⟨o,e⟩,aN.lk h l⟩
 |.obj c fs,_,d=>by
  obtain⟨a,C,dx,gs,rfl,n1,n2,ad,e,l⟩:=d;obtain⟨m1,m2,e⟩:=h.ob a _ n1 n2 e;exact⟨a,C,dx,gs,rfl,m1,m2,ad,e,bK.lk h l⟩
 |.exc c fs,_,d=>by
  obtain⟨a,C,d,rfl,n1,n2,ad,e,l⟩:=d;obtain⟨m1,m2,e⟩:=h.ob a _ n1 n2 e;refine⟨a,C,d,rfl,m1,m2,ad,e,?_⟩;cases d with
  |none=>exact l
  |some dx=>
   obtain⟨gs,k1,k2,b,l⟩:=l;obtain⟨k1,k2,b⟩:=h.ob dx _ k1 k2 b;exact⟨gs,k1,k2,b,bK.lk h l⟩
 |.dic kvs,_,d=>by
  obtain⟨a,gs,rfl,n1,n2,e,l⟩:=d;obtain⟨m1,m2,e⟩:=h.ob a _ n1 n2 e;exact⟨a,gs,rfl,m1,m2,e,bE.lk h l⟩
 |.clo j cs,_,d=>by
  obtain⟨a,ob,xs,rfl,c,e,l⟩:=d;exact⟨a,ob,xs,rfl,c,λo z=>let ⟨n1,n2,q⟩:=e o z;h.ob a o n1 n2 q,aN.lk h l⟩
theorem aN.lk(h:Lk φ α H φ' α' H'):∀{ts:List T}{vs:List V},aN D φ α H ts vs->aN D φ' α' H' ts vs
 |[],_,l=>l
 |t::ts,_,l=>by
  obtain⟨v,r,rfl,a,b⟩:=l;exact⟨v,r,rfl,aZ.lk h a,aN.lk h b⟩
theorem bK.lk(h:Lk φ α H φ' α' H'):∀{fs:List (Nat×T)}{gs:List (aG×V)},bK D φ α H fs gs->bK D φ' α' H' fs gs
 |[],_,l=>l
 |p::fs,_,l=>by
  obtain⟨x,v,r,e,rfl,a,b⟩:=l;exact⟨x,v,r,e,rfl,aZ.lk h a,bK.lk h b⟩
theorem bE.lk(h:Lk φ α H φ' α' H'):∀{fs:List (Key×T)}{gs:List (Key×V)},bE D φ α H fs gs->bE D φ' α' H' fs gs
 |[],_,l=>l
 |p::fs,_,l=>by
  obtain⟨v,r,rfl,a,b⟩:=l;exact⟨v,r,rfl,aZ.lk h a,bE.lk h b⟩
end
theorem aO.lk(s:aO α H α' H'):Lk φ α H φ α' H':=⟨λa o n1 n2 e=>⟨n1,s.out n2 e,s.keep a o n2 e⟩,λi a e=>by
 obtain⟨β,rfl,_⟩:=s.ext;rw[dP (bQ.mp e).1];exact e⟩
theorem aZ.step(s:aO α H α' H')(d:aZ D φ α H t v):aZ D φ α' H' t v:=d.lk s.lk
theorem aN.step(s:aO α H α' H')(d:aN D φ α H t v):aN D φ α' H' t v:=d.lk s.lk
theorem bK.step(s:aO α H α' H')(d:bK D φ α H t v):bK D φ α' H' t v:=d.lk s.lk
theorem bE.step(s:aO α H α' H')(d:bE D φ α H t v):bE D φ α' H' t v:=d.lk s.lk
theorem bW.lk(h:Lk φ α H φ' α' H')(x:bW D φ α H fs d):bW D φ' α' H' fs d:=by
 cases d with
 |none=>exact x
 |some dx=>
  obtain⟨gs,k1,k2,a,l⟩:=x;obtain⟨k1,k2,a⟩:=h.ob dx _ k1 k2 a;exact⟨gs,k1,k2,a,bK.lk h l⟩
mutual
theorem aZ.hide:∀{t:T}{v:V},jC t=aB->aZ D φ α H t v->(∀a,a∉φ->a∉α->a∉φ'/\a∉β)->aZ D φ' β H t v
 |.non,_,_,h,_=>h
 |.bl _,_,_,h,_=>h
 |.int _,_,_,h,_=>h
 |.str _,_,_,h,_=>h
 |.mut i,_,p,_,_=>by simp[jC] at p
 |.tup ts,_,p,h,k=>by
  obtain⟨a,xs,rfl,n1,n2,r,l⟩:=h;exact⟨a,xs,rfl,(k a n1 n2).1,(k a n1 n2).2,r,aN.hide (by simpa[jC] using p) l k⟩
 |.lst ts,_,p,h,k=>by
  obtain⟨a,xs,rfl,n1,n2,r,l⟩:=h;exact⟨a,xs,rfl,(k a n1 n2).1,(k a n1 n2).2,r,aN.hide (by simpa[jC] using p) l k⟩
 |.obj c fs,_,p,h,k=>by
  obtain⟨a,C,dx,gs,rfl,n1,n2,ad,e,l⟩:=h;exact⟨a,C,dx,gs,rfl,(k a n1 n2).1,(k a n1 n2).2,ad,e,bK.hide (by simpa[jC] using p) l k⟩
 |.exc c fs,_,p,h,k=>by
  obtain⟨a,C,d,rfl,n1,n2,ad,e,l⟩:=h;refine⟨a,C,d,rfl,(k a n1 n2).1,(k a n1 n2).2,ad,e,?_⟩;cases d with
  |none=>exact l
  |some dx=>
   obtain⟨gs,k1,k2,b,l⟩:=l;exact⟨gs,(k dx k1 k2).1,(k dx k1 k2).2,b,bK.hide (by simpa[jC] using p) l k⟩
 |.dic kvs,_,p,h,k=>by
  obtain⟨a,gs,rfl,n1,n2,e,l⟩:=h;exact⟨a,gs,rfl,(k a n1 n2).1,(k a n1 n2).2,e,bE.hide (by simpa[jC] using p) l k⟩
 |.clo j cs,_,p,h,k=>by
  obtain⟨a,ob,xs,rfl,c,e,l⟩:=h;exact⟨a,ob,xs,rfl,c,λo z=>let ⟨n1,n2,q⟩:=e o z;⟨(k a n1 n2).1,(k a n1 n2).2,q⟩,aN.hide (by simpa[jC] using p) l k⟩
theorem aN.hide:∀{ts:List T}{vs:List V},ZH ts=aB->aN D φ α H ts vs->(∀a,a∉φ->a∉α->a∉φ'/\a∉β)->aN D φ' β H ts vs
 |[],_,_,h,_=>h
 |t::ts,_,p,h,k=>by
  obtain⟨v,r,rfl,a,b⟩:=h;simp only[ZH,cH] at p;exact⟨v,r,rfl,aZ.hide p.1 a k,aN.hide p.2 b k⟩
theorem bK.hide:∀{fs:List (Nat×T)}{gs:List (aG×V)},yo fs=aB->bK D φ α H fs gs->(∀a,a∉φ->a∉α->a∉φ'/\a∉β)->bK D φ' β H fs gs
 |[],_,_,h,_=>h
 |q::fs,_,p,h,k=>by
  obtain⟨x,v,r,e,rfl,a,b⟩:=h;simp only[yo,cH] at p;exact⟨x,v,r,e,rfl,aZ.hide p.1 a k,bK.hide p.2 b k⟩
theorem bE.hide:∀{fs:List (Key×T)}{gs:List (Key×V)},XC fs=aB->bE D φ α H fs gs->(∀a,a∉φ->a∉α->a∉φ'/\a∉β)->bE D φ' β H fs gs
 |[],_,_,h,_=>h
 |q::fs,_,p,h,k=>by
  obtain⟨v,r,rfl,a,b⟩:=h;simp only[XC,cH] at p;exact⟨v,r,rfl,aZ.hide p.1 a k,bE.hide p.2 b k⟩
end
theorem bW.hide(p:yo fs=aB)(x:bW D φ α H fs d)(k:∀a,a∉φ->a∉α->a∉φ'/\a∉β):bW D φ' β H fs d:=by
 cases d with
 |none=>exact x
 |some dx=>
  obtain⟨gs,k1,k2,b,l⟩:=x;exact⟨gs,(k dx k1 k2).1,(k dx k1 k2).2,b,bK.hide p l k⟩
theorem Rs:∀a:aF,a∉φ->a∉α->a∉φ++α/\a∉([]:List aF):=λa c b=>⟨λz=>(cA.mp z).elim c b,by simp⟩
theorem Jr{β:List aF}:∀a:aF,a∉φ++α->a∉β->a∉φ/\a∉α:=λa b _=>⟨λz=>b (dM _ z),λz=>b (dU _ z)⟩
theorem aN.length:∀{ts:List T}{vs:List V},aN D φ α H ts vs->ts.length=vs.length
 |[],_,h=>by have:_=[]:=h;subst this;rfl
 |t::ts,_,h=>by
  obtain⟨v,r,rfl,_,b⟩:=h;simp[aN.length b]
theorem aN.get:∀{ts:List T}{vs:List V}{i:Nat}{t:T},aN D φ α H ts vs->ts[i]?=aA t->∃v,vs[i]?=aA v/\aZ D φ α H t v
 |[],_,_,_,_,e=>by simp at e
 |t::ts,_,0,_,h,e=>by
  obtain⟨v,r,rfl,a,b⟩:=h;simp at e;subst e;exact⟨v,rfl,a⟩
 |t::ts,_,i+1,u,h,e=>by
  obtain⟨v,r,rfl,a,b⟩:=h;obtain⟨w,c,d⟩:=aN.get (i:=i) (t:=u) b (by simpa using e);exact⟨w,by simpa using c,d⟩
theorem aN.append:∀{ts us:List T}{vs c:List V},aN D φ α H ts vs->aN D φ α H us c->aN D φ α H (ts++us) (vs++c)
 |[],us,_,c,h,k=>by have:_=[]:=h;subst this;exact k
 |t::ts,us,_,c,h,k=>by
  obtain⟨v,r,rfl,a,b⟩:=h;exact⟨v,r++c,rfl,a,aN.append b k⟩
theorem aN.drop:∀(n:Nat) {ts:List T}{vs:List V},aN D φ α H ts vs->aN D φ α H (ts.drop n) (vs.drop n)
 |0,_,_,h=>h
 |n+1,[],_,h=>by have:_=[]:=h;subst this;exact rfl
 |n+1,t::ts,_,h=>by
  obtain⟨v,r,rfl,a,b⟩:=h;exact aN.drop n b
theorem aN.take:∀(n:Nat) {ts:List T}{vs:List V},aN D φ α H ts vs->aN D φ α H (ts.take n) (vs.take n)
 |0,_,_,h=>by simp[aN]
 |n+1,[],_,h=>by have:_=[]:=h;subst this;exact rfl
 |n+1,t::ts,_,h=>by
  obtain⟨v,r,rfl,a,b⟩:=h;exact⟨v,r.take n,rfl,a,aN.take n b⟩
theorem aN.set:∀{ts:List T}{vs:List V}{i:Nat}{t:T}{v:V},aN D φ α H ts vs->aZ D φ α H t v->aN D φ α H (ts.set i t) (vs.set i v)
 |[],vs,i,t,v,l,d=>by have l:vs=[]:=l;subst l;exact rfl
 |x::ts,_,0,t,v,l,d=>by
  obtain⟨w,r,rfl,dw,l⟩:=l;exact⟨v,r,rfl,d,l⟩
 |x::ts,_,i+1,t,v,l,d=>by
  obtain⟨w,r,rfl,dw,l⟩:=l;exact⟨w,r.set i v,rfl,dw,aN.set l d⟩
theorem bK.look:∀{fs:List (Nat×T)}{gs:List (aG×V)}{f:Nat}{t:T},bK D φ α H fs gs->Ka fs f=aA t->∃x v,D.fn f=aA x/\gs.lookup x=aA v/\aZ D φ α H t v
 |[],_,_,_,_,e=>by simp[Ka] at e
 |p::fs,_,f,t,h,e=>by
  obtain⟨x,v,r,ex,rfl,a,b⟩:=h;rw[Y_] at e;cases q:fM p.1 f with
  |true=>
   have c:=tc q;rw[q] at e;have e:aA p.2=aA t:=e;cases e;exact⟨x,v,by rw[←c];exact ex,by simp[f6],a⟩
  |false=>
   rw[q] at e;obtain⟨y,w,h1,h2,d⟩:=bK.look b e;refine⟨y,w,h1,?_,d⟩;rw[f6];have ne:(y==x)=aD:=by
    refine beq_eq_false_iff_ne.mpr λz=>?_;subst z;have:=D.inj _ _ _ ex h1;rw[this] at q;simp at q
   rw[ne];exact h2
theorem bK.put(a:D.fn f=aA x):∀{fs:List (Nat×T)}{gs:List (aG×V)},bK D φ α H fs gs->aZ D φ α H t w->bK D φ α H (YD f t fs) (vE x w gs)
 |[],gs,h,d=>by
  have:gs=[]:=h;subst this;exact⟨x,w,[],a,rfl,d,rfl⟩
 |p::fs,gs,h,d=>by
  obtain⟨z,y,r,ez,rfl,dy,l⟩:=h;rw[YF];show bK D φ α H _ (if z=x then (z,w)::r else (z,y)::vE x w r);cases q:fM p.1 f with
  |true=>
   have b:=tc q;have:z=x:=by rw[b,a] at ez;exact (bU ez).symm
   rw[if_pos this];exact⟨z,w,r,ez,rfl,d,l⟩
  |false=>
   have:z≠x:=λe=>by
    subst e;have:=D.inj _ _ _ ez a;rw[this] at q;simp at q
   rw[if_neg this];exact⟨z,y,vE x w r,ez,rfl,dy,bK.put a l d⟩
theorem bK.length:∀{fs:List (Nat×T)}{gs:List (aG×V)},bK D φ α H fs gs->fs.length=gs.length
 |[],_,h=>by have:_=[]:=h;subst this;rfl
 |p::fs,_,h=>by
  obtain⟨x,v,r,_,rfl,_,b⟩:=h;simp[bK.length b]
noncomputable def rl:HO->Bool
 |.frz _ _=>aD
 |_=>aB
structure aL(D:DP)(φ α:List aF)(H:Hp)(μ:aK):Prop where
 len:α.length=μ.length
 nd:α.Nodup
 dis:∀b∈α,b∉φ
 phi:∀b∈φ,∃o,H b=aA o/\rl o=aB
 ob:∀(i:Nat) (a:aF) (o:MO),α[i]?=aA a->μ[i]?=aA o->d9 D φ α H o a
theorem d9.lk(s:Lk φ α H φ' α' H')(e:H' a=H a)(h:d9 D φ α H o a):d9 D φ' α' H' o a:=by
 cases o with
 |lst ts=>
  obtain⟨xs,q,l⟩:=h;exact⟨xs,e.trans q,aN.lk s l⟩
 |obj c fs=>
  obtain⟨C,dx,gs,ad,q,l⟩:=h;exact⟨C,dx,gs,ad,e.trans q,bK.lk s l⟩
 |dic kvs=>
  obtain⟨xs,q,l⟩:=h;exact⟨xs,e.trans q,bE.lk s l⟩
 |tab j=>
  obtain⟨pos,qn,ps,h1,h2,f,d⟩:=h;refine⟨pos,qn,ps,h1,e.trans h2,f,λp k=>(d p k).imp id λ⟨c,k1,k2,k3,g⟩=>?_⟩;obtain⟨m1,m2,b⟩:=s.ob c _ k2 k3 g;exact⟨c,k1,m1,m2,b⟩
 |frd ep kvs=>
  obtain⟨xs,q,l⟩:=h;exact⟨xs,e.trans q,bE.lk s l⟩
 |dct ks=>
  obtain⟨xs,h1,h2,f,d,n,m⟩:=h;refine⟨xs,h1,h2,f,d,e.trans n,λx i=>?_⟩;obtain⟨k1,k2,k3⟩:=m x i;rcases k3 with k3|⟨o,k3⟩
  ·obtain⟨m1,m2,b⟩:=s.ob _ _ k1 k2 k3;exact⟨m1,m2,.inl b⟩
  ·obtain⟨m1,m2,b⟩:=s.ob _ _ k1 k2 k3;exact⟨m1,m2,.inr ⟨o,b⟩⟩
theorem d9.step(s:aO α H α' H')(e:H' a=H a)(h:d9 D φ α H o a):d9 D φ α' H' o a:=h.lk s.lk e
theorem d9.some(h:d9 D φ α H o a):∃u,H a=Option.some u/\rl u=aB:=by
 cases o with
 |lst ts=>obtain⟨xs,q,_⟩:=h;exact⟨_,q,rfl⟩
 |obj c fs=>obtain⟨C,dx,gs,_,q,_⟩:=h;exact⟨_,q,rfl⟩
 |dic ts=>obtain⟨xs,q,_⟩:=h;exact⟨_,q,rfl⟩
 |tab j=>obtain⟨_,_,ps,_,q,_⟩:=h;exact⟨_,q,rfl⟩
 |dct ks=>obtain⟨_,_,_,_,_,q,_⟩:=h;exact⟨_,q,rfl⟩
 |frd ep kvs=>obtain⟨xs,q,_⟩:=h;exact⟨_,q,rfl⟩
theorem aL.new(m:aL D φ α H μ)(s:ko H H'):aL D φ α H' μ:=
 ⟨m.len,m.nd,m.dis,λb c=>let ⟨o,e,n⟩:=m.phi b c;⟨o,s b o e,n⟩,λi a o g f=>by
  have d:=m.ob i a o g f;obtain⟨u,q,_⟩:=d.some;exact d.step (aO.new s) ((s _ _ q).trans q.symm)⟩
theorem aL.lk(h:Lk φ α H φ' α H')(c:∀a∈α,H' a=H a/\a∉φ')(d:∀b∈φ',∃o,H' b=aA o/\rl o=aB)(m:aL D φ α H μ):aL D φ' α H' μ:=
 ⟨m.len,m.nd,λb f=>(c b f).2,d,λi a o e g=>(m.ob i a o e g).lk h (c a (cP e)).1⟩
structure bA(D:DP)(φ α:List aF)(H:Hp)(τ:Sl)(σ:St):Prop where
 len:τ.length=σ.length
 val:∀(i:Nat) (t:T),τ[i]?=aA (aA t)->∃v,σ[i]?=aA (aA v)/\aZ D φ α H t v
theorem bA.lk(r:bA D φ α H τ j)(s:Lk φ α H φ' α' H'):bA D φ' α' H' τ j:=⟨r.len,λi t e=>by
 obtain⟨v,q,d⟩:=r.val i t e;exact⟨v,q,d.lk s⟩⟩
theorem bA.step(r:bA D φ α H τ d)(s:aO α H α' H'):bA D φ α' H' τ d:=r.lk s.lk
theorem bA.set(r:bA D φ α H τ s)(d:aZ D φ α H t v):bA D φ α H (kY τ i (aA t)) (s.set i (aA v)):=by
 rw[Vf];refine⟨by simp[r.len],λj u e=>?_⟩;by_cases h:i=j
 ·subst h;rw[List.getElem?_set_self'] at e;cases q:τ[i]? with
  |none=>rw[q] at e;cases e
  |some o=>
   rw[q] at e;simp at e;subst e;have a:i<s.length:=by rw[←r.len];exact (bQ.mp q).1
   exact⟨v,by simp[a],d⟩
 ·rw[cS h] at e ⊢;exact r.val j u e
theorem bA.get(r:bA D φ α H τ d)(e:Vj τ i=aA t):∃v,d[i]?=aA (aA v)/\aZ D φ α H t v:=r.val i t (WK.mp e)
end
theorem y6(f:H b=aE):Lk φ α H (φ++[b]) α H:=by
 refine⟨λa o d c e=>⟨λz=>?_,c,e⟩,λ_ _ e=>e⟩;rcases cA.mp z with z|z
 ·exact d z
 ·rw[bV.mp z,f] at e;cases e
theorem uz(h:H b=aE)(s:ko H j):Lk φ α H (φ++[b]) α j:=⟨λa o g f e=>let ⟨d,c,i⟩:=(y6 h).ob a o g f e;⟨d,c,s a o e⟩,λ_ _ e=>e⟩
theorem qI:Lk (φ++[b]) α H φ α H:=⟨λa o d c e=>⟨λz=>d (dM _ z),c,e⟩,λ_ _ e=>e⟩
theorem xS(f:b∈φ):Lk φ α H φ α (upd H b u):=⟨λa o c d e=>⟨c,d,by rw[z9 (λz:a=b=>c (by rw[z];exact f))];exact e⟩,λ_ _ e=>e⟩
end
inductive aJ(D:DP)(W:XW)(φ α:List aF)(H:Hp)(σ:St){β:Type}(R:β->aK->List aF->Hp->Prop)(r:RE β):Prop where
 |mk (K:β->aK->Prop) (Z:Xp) (q:r K Z) (h:(∀a μ',K a μ'->∀α' H',aO α H α' H'->aL D φ α' H' μ'->R a μ' α' H')/\
  ∀c fs μ',Z c fs μ'->∀α' H' cv d,aO α H α' H'->aL D φ α' H' μ'->iG D c fs cv->bW D φ α' H' fs d->W cv d σ H')
inductive mT(D:DP)(H:Hp)(σ:St)(P:List aF->List aF->Sl->aK->Prop):Prop where
 |mk (φ α:List aF) (τ:Sl) (μ:aK) (sr:bA D φ α H τ σ) (mr:aL D φ α H μ) (p:P φ α τ μ)
section
variable {D:DP}{W:XW}{φ α α':List aF}{H H':Hp}{σ:St}{β γ:Type}{R R':β->aK->List aF->Hp->Prop}
theorem aJ.mono(p:aJ D W φ α H σ R r)(h:∀a d α' H',aO α H α' H'->aL D φ α' H' d->R a d α' H'->R' a d α' H'):aJ D W φ α H σ R' r:=by
 obtain⟨K,Z,q,k,z⟩:=p;exact⟨K,Z,q,λa d e α' H' s m=>h a d α' H' s m (k a d e α' H' s m),z⟩
theorem aJ.bind{r:RE γ}(p:aJ D W φ α H σ R (r.bind k)):aJ D W φ α H σ (λa j α' H'=>aJ D W φ α' H' σ R (k a j)) r:=by
 obtain⟨K,Z,q,h,z⟩:=p;exact⟨λa μ=>k a μ K Z,Z,q,λa j e α' H' s m=>⟨K,Z,e,λb μ2 g f i s2 m2=>h b μ2 g f i (s.trans s2) m2,λc fs μ2 g f i C d s2 m2=>z c fs μ2 g f i C d (s.trans s2) m2⟩,z⟩
theorem aJ.elim{C:Prop}(p:aJ D W φ α H σ R RE.st):C:=by obtain⟨_,_,q,_⟩:=p;exact q.elim
theorem aJ.grd(p:aJ D W φ α H σ R (RE.grd c r)):c/\aJ D W φ α H σ R r:=by
 obtain⟨K,Z,q,h⟩:=p;exact⟨q.1,K,Z,q.2,h⟩
theorem aJ.som{k:γ->RE β}(p:aJ D W φ α H σ R (RE.som o k)):∃a,o=aA a/\aJ D W φ α H σ R (k a):=by
 obtain⟨K,Z,⟨a,e,q⟩,h⟩:=p;exact⟨a,e,K,Z,q,h⟩
theorem aJ.br(p:aJ D W φ α H σ R (RE.br b r s)):(b=aB/\aJ D W φ α H σ R r)\/(b=aD/\aJ D W φ α H σ R s):=by
 obtain⟨K,Z,q,h⟩:=p;cases b with
 |true=>exact .inl ⟨rfl,K,Z,q,h⟩
 |false=>exact .inr ⟨rfl,K,Z,q,h⟩
theorem aJ.ok(p:aJ D W φ α H σ R (RE.ok a μ))(s:aO α H α' H')(m:aL D φ α' H' μ):R a μ α' H':=by
 obtain⟨K,Z,q,h,_⟩:=p;exact h a μ q α' H' s m
theorem aJ.step(p:aJ D W φ α H σ R r)(st:aO α H α' H'):aJ D W φ α' H' σ R r:=by
 obtain⟨K,Z,q,h,z⟩:=p;exact⟨K,Z,q,λb μ2 e a f s2 m2=>h b μ2 e a f (st.trans s2) m2,λc fs μ2 e a f C d s2 m2=>z c fs μ2 e a f C d (st.trans s2) m2⟩
theorem aJ.ex1{a:Type}{P:a->Prop}{k:a->RE β}(p:aJ D W φ α H σ R (λK Z=>∃x,P x/\k x K Z)):∃x,P x/\aJ D W φ α H σ R (k x):=by
 obtain⟨K,Z,⟨x,b,q⟩,h⟩:=p;exact⟨x,b,K,Z,q,h⟩
end
noncomputable def aX (D:DP)(W:XW)(f:De):TE:=λc H Q=>mT D H c λb h e g=>aJ D W b h H c (λt _ a d=>∀v,aZ D b a d t v->Q v d) (f e g)
noncomputable def eJ (D:DP)(W:XW)(f:Dt):TT:=λa H Q=>mT D H a λc g d e=>aJ D W c g H a (λb _ _ h=>Q b h) (f d e)
noncomputable def n4 (D:DP)(W:XW)(n:Nat)(f:Da):TA:=λd H Q=>mT D H d λc i g h=>aJ D W c i H d (λj _ a e=>∀b,aN D c a e j b->b.length=n->Q b e) (f g h)
section
variable {X:Cx}{D:DP}{W:XW}{pins:List (aF×bD)}{s:Shared}{σ:St}{H:Hp}{φ α:List aF}{τ:Sl}{μ:aK}{β:Type}{R:β->aK->List aF->Hp->Prop}
inductive BN(X:Cx)(D:DP)(W:XW)(pins:List (aF×bD))(σ:St)(H:Hp)(φ α:List aF)(τ:Sl){β:Type}(R:β->aK->List aF->Hp->Prop)(k:T->aK->RE β)(u:aC)(s1:Shared):Prop where
 |mk (v:V) (H1:Hp) (t:T) (μ1:aK) (α1:List aF) (i:Inv X pins σ H1 s1) (r:RelV v u) (st:aO α H α1 H1) (sr:bA D φ α1 H1 τ σ) (mr:aL D φ α1 H1 μ1) (d:aZ D φ α1 H1 t v) (p:aJ D W φ α1 H1 σ R (k t μ1))
inductive BM(X:Cx)(D:DP)(W:XW)(pins:List (aF×bD))(σ:St)(H:Hp)(φ α:List aF)(τ:Sl){β:Type}(R:β->aK->List aF->Hp->Prop)(k:Bool->aK->RE β)(b:Bool)(s1:Shared):Prop where
 |mk (H1:Hp) (μ1:aK) (α1:List aF) (i:Inv X pins σ H1 s1) (st:aO α H α1 H1) (sr:bA D φ α1 H1 τ σ) (mr:aL D φ α1 H1 μ1) (p:aJ D W φ α1 H1 σ R (k b μ1))
inductive BO(X:Cx)(D:DP)(W:XW)(pins:List (aF×bD))(σ:St)(H:Hp)(φ α:List aF)(τ:Sl){β:Type}(R:β->aK->List aF->Hp->Prop)(n:Nat)(k:List T->aK->RE β)(us:List aC)(s1:Shared):Prop where
 |mk (vs:List V) (H1:Hp) (ts:List T) (μ1:aK) (α1:List aF) (i:Inv X pins σ H1 s1) (r:aV vs us) (st:aO α H α1 H1) (sr:bA D φ α1 H1 τ σ) (mr:aL D φ α1 H1 μ1) (d:aN D φ α1 H1 ts vs) (hn:vs.length=n) (p:aJ D W φ α1 H1 σ R (k ts μ1))
theorem sub{f:Sl->aK->RE T}(n:PE X a (aX D W f))(I:Inv X pins σ H s)(j:bA D φ α H τ σ)(l:aL D φ α H μ)(p:aJ D W φ α H σ R ((f τ μ).bind k)) :
  wpAny (aQ X.prog X.w) X.A (eval a X.env) (BN X D W pins σ H φ α τ R k) X.xe s:=by
 refine aY (n pins s σ H (λv e=>∃t c b,aO α H b e/\bA D φ b e τ σ/\aL D φ b e c/\aZ D φ b e t v/\aJ D W φ b e σ R (k t c)) I ⟨φ,α,τ,μ,j,l,p.bind.mono λt g i E st m q v d=>⟨t,g,i,st,j.step st,m,d,q⟩⟩) ?_;rintro u C ⟨v,e,B,r,t,c,b,z,y,x,o,h⟩;exact⟨v,e,t,c,b,B,r,z,y,x,o,h⟩
theorem E8{f:Sl->aK->RE Bool}(n:PT X a (eJ D W f))(I:Inv X pins σ H s)(j:bA D φ α H τ σ)(l:aL D φ α H μ)(p:aJ D W φ α H σ R ((f τ μ).bind k)) :
  wpAny (aQ X.prog X.w) X.A (isTrue a X.env (eval a X.env)) (BM X D W pins σ H φ α τ R k) X.xe s:=by
 refine aY (n pins s σ H (λb e=>∃d c,aO α H c e/\bA D φ c e τ σ/\aL D φ c e d/\aJ D W φ c e σ R (k b d)) I ⟨φ,α,τ,μ,j,l,p.bind.mono λb g i x st m q=>⟨g,i,st,j.step st,m,q⟩⟩) ?_;rintro b v ⟨e,u,d,c,t,r,o,h⟩;exact⟨e,d,c,u,t,r,o,h⟩
theorem pW(u:PA X es (n4 D W n f))(I:Inv X pins σ H s)(l:bA D φ α H τ σ)(o:aL D φ α H μ)(p:aJ D W φ α H σ R ((f τ μ).bind k)) :
  wpAny (aQ X.prog X.w) X.A (spliced (fL pos (d_ es X.env))) (BO X D W pins σ H φ α τ R n k) X.xe s:=by
 refine aY (u pos pins s σ H (λg c=>∃e b a,aO α H a c/\bA D φ a c τ σ/\aL D φ a c b/\aN D φ a c e g/\g.length=n/\aJ D W φ a c σ R (k e b)) I ⟨φ,α,τ,μ,l,o,p.bind.mono λe i j G st m q g d t=>⟨e,i,j,st,l.step st,m,d,t,q⟩⟩) ?_;rintro E F ⟨g,c,C,r,e,b,a,B,z,y,x,v,h⟩;exact⟨g,c,e,b,a,C,r,B,z,y,x,v,h⟩
abbrev RV(D:DP)(φ:List aF)(Q:VK):T->aK->List aF->Hp->Prop:=λt _ a b=>∀v,aZ D φ a b t v->Q v b
theorem aJ.here(p:aJ D W φ α H σ (RV D φ Q) (.ok t μ))(a:aL D φ α H μ)(d:aZ D φ α H t v):Q v H:=p.ok (aO.refl _ _) a v d
theorem aJ.fresh(p:aJ D W φ α H σ (RV D φ Q) (.ok t μ))(b:aL D φ α H μ)(a:ko H j)(d:aZ D φ α j t v):Q v j:=p.ok (aO.new a) (b.new a) v d
theorem zv(h:n<=aU):n<=sizeLine:=cT h (by unfold aU;decide)
theorem zm(a:aL D φ α H μ)(h:H p=aE):p∉φ:=λz=>by
 obtain⟨o,e,_⟩:=a.phi p z;rw[h] at e;cases e
theorem zo(a:aL D φ α H μ)(h:H p=aE):p∉α:=λz=>by
 obtain⟨i,b⟩:=lq.mp z;have c:i<μ.length:=by rw[←a.len];exact (bQ.mp b).1
 obtain⟨u,e,_⟩:=(a.ob i p μ[i] b (by simp[c])).some;rw[h] at e;cases e
theorem qV:∀{ts:List T}{ns:List Int}{vs:List V},bJ ts=aA ns->aN D φ α H ts vs->vs=ns.map V.int
 |[],ns,vs,h,l=>by
  simp[bJ] at h;subst h;exact l
 |t::ts,ns,vs,h,l=>by
  obtain⟨v,r,rfl,d,l⟩:=l;cases t with
  |int i=>
   simp only[bJ] at h;cases q:bJ ts with
   |none=>rw[q] at h;cases h
   |some a=>
    rw[q] at h;cases h;rw[qV q l];have d:v=.int i:=d;rw[d];rfl
  |_=>simp[bJ] at h
theorem Xa:dY X (f8 .Add) (λx y H Q=>∃l b xs zs,x=.ref l/\y=.ref b/\Rd H l (.lst xs)/\Rd H b (.lst zs)/\xs.length+zs.length<=sizeLine/\∀p,H p=aE->Q (.ref p) (upd H p (.lst (xs++zs)))):=by
 intro f s t H x y v u Q I j i h;obtain⟨l,b,xs,zs,rfl,rfl,k,m,g,q⟩:=h;cases j;cases i;obtain⟨z,c,n,r,e⟩:=k.ok I.hok;obtain⟨w,a,A,d,o⟩:=m.ok I.hok;refine PySem.P.add_list e o ?_ (by rw[dA,dA,←r.length,←d.length];exact g);rw[show c.toArray++a.toArray=(c++a).toArray by simp];exact⟨.ref _,_,I.lnew (t':=s.toks) (r.append d) (by rw[gE];exact g),rfl,q _ I.fresh⟩
theorem US:dY X (f8 .Add) (λx y H Q=>∃a b ys,x=.ref a/\y=.ref b/\fO X.K H a []/\fO X.K H b ys/\Q (.ref b) H):=by
 intro j s E H x y v u Q I t r h;obtain⟨a,b,ys,rfl,rfl,D,C,q⟩:=h;cases t;cases r;obtain⟨B,w,p1,_⟩:=I.tuple D;obtain⟨c,G,z,_⟩:=I.tuple C;cases w;obtain⟨⟨cls,dd,m,p⟩,k,l,n,hd⟩:=id p1;obtain⟨⟨o,i,data2,g⟩,d,f,A,e⟩:=id z;simp only at l hd f e;subst l hd f e
 exact sA ⟨_,k,rfl⟩ ⟨_,d,rfl⟩ sM sg tm tF (tH _ _)
  (tuple_addW0 a b #[] c.toArray n A dd i p g rfl) ⟨k,d,⟨.ref b,H,I,rfl,q⟩⟩
theorem Sn:dY X (f8 .FloorDiv) (rI (λ_ j=>0<j/\j<1606938044258990275541962092341162602522202993782792835301376) λi j=>.int (i / j)):=n5 λi j _ _ _ _ _ a q=>by
 have c:(0:Int)<j:=a.1;have b:j<1606938044258990275541962092341162602522202993782792835301376:=a.2;refine floordiv_int (by omega) (by rw[Ei i (by omega)];exact q) (.inl (PyProof.noPylong_of_log2 ?_));refine dL ((Nat.log2_lt (by omega)).2 (show j.natAbs<2 ^ 200 by omega)) (by decide)
theorem vO{f:Int->Int->aK->RE T}{x:T}(p:aJ D W φ α H σ (RV D φ Q) (WC f x y μ)):∃i j,x=.int i/\y=.int j/\aJ D W φ α H σ (RV D φ Q) (f i j μ):=by
 unfold WC at p;split at p
 ·exact⟨_,_,rfl,rfl,p⟩
 ·exact p.elim
theorem Mv{op:Operator}{x y:T}{M:V}{O N:aC}(I:Inv X pins σ H s)(c:aL D φ α H μ)(m:aZ D φ α H x M)(l:aZ D φ α H y U)(q:RelV M O)(n:RelV U N)
  (p:aJ D W φ α H σ (RV D φ Q) (Fp op x y μ)):wpAny (aQ X.prog X.w) X.A (f8 op O N) (EP X pins σ Q) X.xe s:=by
 have G:∀{a b:aF}{d f:List V}{F E:List T},Rd H a (.lst d)->Rd H b (.lst f)->aN D φ α H F d->aN D φ α H E f->M=.ref a->U=.ref b->F.length+E.length<=aU->aJ D W φ α H σ (RV D φ Q) (RE.ok (.lst (F++E)) μ)->wpAny (aQ X.prog X.w) X.A (f8 .Add O N) (EP X pins σ Q) X.xe s:=λ{a b d f F E} t r k g Z Y h p=>by
  subst Z Y;refine Xa pins s σ H _ _ _ _ Q I q n ⟨a,b,d,f,rfl,rfl,t,r,by rw[←k.length,←g.length];exact zv h,λz B=>?_⟩;have u:=za (o:=.lst (d++f)) B;exact p.fresh c u ⟨z,_,rfl,zm c B,zo c B,.inl z5,(k.step (aO.new u)).append (g.step (aO.new u))⟩
 cases op with
 |Add=>
  replace p:aJ D W φ α H σ (RV D φ Q) (tL x y μ):=p;unfold tL at p;split at p
  ·cases m;cases l;exact Ob pins s σ H _ _ _ _ Q I q n ⟨_,_,rfl,rfl,p.here c rfl⟩
  ·cases m;cases l;obtain⟨h,p⟩:=p.grd;exact Ko pins s σ H _ _ _ _ Q I q n ⟨_,_,rfl,rfl,zv h,p.here c rfl⟩
  ·obtain⟨h,p⟩:=p.grd;obtain⟨a,d,rfl,S,R,t,k⟩:=m;obtain⟨b,f,rfl,L,K,r,g⟩:=l;refine Xa pins s σ H _ _ _ _ Q I q n ⟨a,b,d,f,rfl,rfl,t,r,by rw[←k.length,←g.length];exact zv h,λz B=>?_⟩;have u:=za (o:=.lst (d++f)) B;exact p.fresh c u ⟨z,_,rfl,zm c B,zo c B,.inl z5,(k.step (aO.new u)).append (g.step (aO.new u))⟩
  ·rename_i F E;obtain⟨h,p⟩:=p.grd
   ·obtain⟨a,d,rfl,S,R,t,k⟩:=m;obtain⟨b,f,rfl,L,K,r,g⟩:=l;cases d with
    |nil=>
     cases F with
     |cons x F=>obtain⟨_,_,e,_⟩:=k;cases e
     |nil=>exact US pins s σ H _ _ _ _ Q I q n ⟨a,b,f,rfl,rfl,.inl t,.inl r,p.here c ⟨b,f,rfl,L,K,r,g⟩⟩
    |cons v d=>
     refine OF pins s σ H _ _ _ _ Q I q n ⟨a,b,v::d,f,rfl,rfl,.inl t,.inl r,by simp,by rw[←k.length,←g.length];exact zv h,λhw=>?_,λhw z B=>?_⟩
     ·subst hw;cases E with
      |cons y E=>obtain⟨_,_,e,_⟩:=g;cases e
      |nil=>
       rw[gC] at p;exact p.here c ⟨a,v::d,rfl,S,R,t,k⟩
     ·have u:=za (o:=.tup (v::d++f)) B;exact p.fresh c u ⟨z,_,rfl,zm c B,zo c B,.inl z5,(k.step (aO.new u)).append (g.step (aO.new u))⟩
  ·obtain⟨F,J,p⟩:=p.ex1;obtain⟨h,p⟩:=aJ.grd p;obtain⟨a,C,rfl⟩:=m;obtain⟨d,t,k⟩:=c.ob _ a _ C J;obtain⟨b,f,rfl,L,K,r,g⟩:=l;exact G (.inl t) r k g rfl rfl h p
  ·obtain⟨E,J,p⟩:=p.ex1;obtain⟨h,p⟩:=aJ.grd p;obtain⟨a,C,rfl⟩:=l;obtain⟨d,t,k⟩:=c.ob _ a _ C J;obtain⟨b,f,rfl,L,K,r,g⟩:=m;exact G r (.inl t) g k rfl rfl h p
  ·obtain⟨pr,J,p⟩:=p.ex1;obtain⟨h,p⟩:=aJ.grd p;obtain⟨a,C,rfl⟩:=m;obtain⟨d,t,k⟩:=c.ob _ a _ C J.1;obtain⟨b,P,rfl⟩:=l;obtain⟨f,r,g⟩:=c.ob _ b _ P J.2;exact G (.inl t) (.inl r) k g rfl rfl h p
  ·exact p.elim
 |Sub=>
  obtain⟨i,j,rfl,rfl,p⟩:=vO p;cases m;cases l;exact Og pins s σ H _ _ _ _ Q I q n ⟨_,_,rfl,rfl,p.here c rfl⟩
 |Mult=>
  obtain⟨i,j,rfl,rfl,p⟩:=vO p;cases m;cases l;obtain⟨h,p⟩:=p.grd;exact Nq pins s σ H _ _ _ _ Q I q n ⟨_,_,rfl,rfl,by simpa[i7,big] using h,p.here c rfl⟩
 |FloorDiv=>
  obtain⟨i,j,rfl,rfl,p⟩:=vO p;cases m;cases l;obtain⟨h,p⟩:=p.grd;exact Sn pins s σ H _ _ _ _ Q I q n ⟨_,_,rfl,rfl,h,p.here c rfl⟩
 |Mod=>
  obtain⟨i,j,rfl,rfl,p⟩:=vO p;cases m;cases l;obtain⟨h,p⟩:=p.grd;exact Nx pins s σ H _ _ _ _ Q I q n ⟨_,_,rfl,rfl,h,p.here c rfl⟩
 |Pow=>
  obtain⟨i,j,rfl,rfl,p⟩:=vO p;cases m;cases l;obtain⟨h,p⟩:=p.grd;exact Oe pins s σ H _ _ _ _ Q I q n ⟨_,_,rfl,rfl,⟨h.1,h.2.1,by simpa using h.2.2⟩,p.here c rfl⟩
 |RShift=>
  obtain⟨i,j,rfl,rfl,p⟩:=vO p;cases m;cases l;obtain⟨h,p⟩:=p.grd;exact MN pins s σ H _ _ _ _ Q I q n ⟨_,_,rfl,rfl,h,p.here c rfl⟩
 |BitAnd=>
  obtain⟨i,j,rfl,rfl,p⟩:=vO p;cases m;cases l;exact Oi pins s σ H _ _ _ _ Q I q n ⟨_,_,rfl,rfl,p.here c rfl⟩
 |_=>exact (show aJ D W φ α H σ (RV D φ Q) .st from p).elim
end
section
section
variable {D:DP}{φ α:List aF}{H:Hp}
theorem Rd.inj(b:∀o z,u≠.frz o z)(hw:∀o z,w≠.frz o z)(r:Rd H a u)(q:Rd H a w):u=w:=by
 rcases r with r|⟨o,r⟩<;>rcases q with q|⟨c,q⟩<;>rw[r] at q
 ·exact bU q
 ·exact absurd (bU q) (b _ _)
 ·exact absurd (bU q).symm (hw _ _)
 ·injection bU q
mutual
theorem Ze:∀{t u:T}{v:V}{k:Bool},aZ D φ α H t v->aZ D φ α H u v->eqT t u=aA k->k=aB
 |.int i,u,_,k,d,c,e=>by
  have d:_=V.int i:=d;subst d;cases u with
  |int j=>have c:V.int i=V.int j:=c;injection c with c;subst c;rw[←bU e];simp
  |bl b=>have c:V.int i=V.bl b:=c;cases c
  |str b=>have c:V.int i=V.str b:=c;cases c
  |non=>have c:V.int i=V.non:=c;cases c
  |tup b=>obtain⟨_,_,c,_⟩:=c;cases c
  |lst b=>obtain⟨_,_,c,_⟩:=c;cases c
  |_=>cases e
 |.bl i,u,_,k,d,c,e=>by
  have d:_=V.bl i:=d;subst d;cases u with
  |bl j=>have c:V.bl i=V.bl j:=c;injection c with c;subst c;rw[←bU e];simp
  |int b=>have c:V.bl i=V.int b:=c;cases c
  |str b=>have c:V.bl i=V.str b:=c;cases c
  |non=>have c:V.bl i=V.non:=c;cases c
  |tup b=>obtain⟨_,_,c,_⟩:=c;cases c
  |lst b=>obtain⟨_,_,c,_⟩:=c;cases c
  |_=>cases e
 |.str i,u,_,k,d,c,e=>by
  have d:_=V.str i:=d;subst d;cases u with
  |str j=>have c:V.str i=V.str j:=c;injection c with c;subst c;rw[←bU e];simp
  |int b=>have c:V.str i=V.int b:=c;cases c
  |bl b=>have c:V.str i=V.bl b:=c;cases c
  |non=>have c:V.str i=V.non:=c;cases c
  |tup b=>obtain⟨_,_,c,_⟩:=c;cases c
  |lst b=>obtain⟨_,_,c,_⟩:=c;cases c
  |_=>cases e
 |.non,u,_,k,d,c,e=>by
  have d:_=V.non:=d;subst d;cases u with
  |non=>exact (bU e).symm
  |int b=>have c:V.non=V.int b:=c;cases c
  |bl b=>have c:V.non=V.bl b:=c;cases c
  |str b=>have c:V.non=V.str b:=c;cases c
  |tup b=>obtain⟨_,_,c,_⟩:=c;cases c
  |lst b=>obtain⟨_,_,c,_⟩:=c;cases c
  |_=>cases e
 |.tup o,u,_,k,d,c,e=>by
  obtain⟨a,n,rfl,_,_,r,l⟩:=d;cases u with
  |tup m=>
   obtain⟨b,h,g,_,_,f,l'⟩:=c;cases g;have:=Rd.inj (by intro _ _ z;cases z) (by intro _ _ z;cases z) r f;injection this with this;subst this;exact ym l l' e
  |lst m=>
   obtain⟨b,h,g,_,_,f,l'⟩:=c;cases g;have:=Rd.inj (by intro _ _ z;cases z) (by intro _ _ z;cases z) r f;cases this
  |int b=>have c:V.ref a=V.int b:=c;cases c
  |bl b=>have c:V.ref a=V.bl b:=c;cases c
  |str b=>have c:V.ref a=V.str b:=c;cases c
  |non=>have c:V.ref a=V.non:=c;cases c
  |_=>cases e
 |.lst o,u,_,k,d,c,e=>by
  obtain⟨a,n,rfl,_,_,r,l⟩:=d;cases u with
  |lst m=>
   obtain⟨b,h,g,_,_,f,l'⟩:=c;cases g;have:=Rd.inj (by intro _ _ z;cases z) (by intro _ _ z;cases z) r f;injection this with this;subst this;exact ym l l' e
  |tup m=>
   obtain⟨b,h,g,_,_,f,l'⟩:=c;cases g;have:=Rd.inj (by intro _ _ z;cases z) (by intro _ _ z;cases z) r f;cases this
  |int b=>have c:V.ref a=V.int b:=c;cases c
  |bl b=>have c:V.ref a=V.bl b:=c;cases c
  |str b=>have c:V.ref a=V.str b:=c;cases c
  |non=>have c:V.ref a=V.non:=c;cases c
  |_=>cases e
 |.obj _ _,_,_,_,_,_,e=>by cases e
 |.mut _,_,_,_,_,_,e=>by cases e
 |.exc _ _,_,_,_,_,_,e=>by cases e
 |.dic _,_,_,_,_,_,e=>by cases e
 |.clo _ _,_,_,_,_,_,e=>by cases e
theorem ym:∀{ts us:List T}{vs:List V}{k:Bool},aN D φ α H ts vs->aN D φ α H us vs->c8 ts us=aA k->k=aB
 |[],[],_,k,_,_,e=>by simpa[c8] using e.symm
 |[],_::_,_,k,b,a,e=>by
  have b:_=[]:=b;obtain⟨_,_,a,_⟩:=a;rw[b] at a;cases a
 |_::_,[],_,k,b,a,e=>by
  have a:_=[]:=a;obtain⟨_,_,b,_⟩:=b;rw[a] at b;cases b
 |t::ts,u::us,_,k,b,a,e=>by
  obtain⟨v,r,rfl,n,l⟩:=b;obtain⟨o,p,q,m,j⟩:=a;injection q with f d;subst f d;cases h:eqT t u with
  |none=>simp[c8,h] at e
  |some x=>
   cases c:c8 ts us with
   |none=>simp[c8,h,c] at e
   |some y=>
    have i:=Ze n m h;have g:=ym l j c;subst i g;simpa[c8,h,c] using e.symm
end
end
section
variable {X:Cx}{D:DP}{pins:List (aF×bD)}{s:Shared}{σ:St}{H:Hp}{φ α:List aF}
theorem uZ:∀{ts us:List T}{k:Bool},c8 ts us=aA k->(∀j (h1:j<ts.length) (h2:j<us.length),∃b,eqT ts[j] us[j]=aA b)/\
  k=((eX (min ts.length us.length)).all (λj=>match ts[j]?,us[j]? with|some t,aA u=>(eqT t u).getD aD|_,_=>aD)&&ts.length==us.length)
 |[],[],k,e=>by
  simp[c8] at e;subst e;exact⟨λj h1=>by simp at h1,by simp⟩
 |[],u::us,k,e=>by
  simp[c8] at e;subst e;exact⟨λj h1=>by simp at h1,by simp⟩
 |t::ts,[],k,e=>by
  simp[c8] at e;subst e;exact⟨λj h1 h2=>by simp at h2,by simp⟩
 |t::ts,u::us,k,e=>by
  cases h:eqT t u with
  |none=>simp[c8,h] at e
  |some x=>
   cases a:c8 ts us with
   |none=>simp[c8,h,a] at e
   |some y=>
    obtain⟨g,c⟩:=uZ a;simp[c8,h,a] at e;subst e;refine⟨λj h1 h2=>?_,?_⟩
    ·cases j with
     |zero=>exact⟨x,h⟩
     |succ j=>exact g j (by simpa using h1) (by simpa using h2)
    ·rw[c];have d:min (t::ts).length (u::us).length=min ts.length us.length+1:=by simp[Nat.succ_min_succ]
     rw[d,List.range_succ_eq_map,iQ,ml];simp only[DT,h,sL,sV,tD,eZ];rw[Bool.and_assoc];congr 2;simp
theorem cC(A:eM):A.in1.units=A.units+1:=by first|rfl|simp[Around.in1,Around.units]
theorem eqAt_int(I:Inv X pins σ H s)(h1:aZ D φ α H (.int i) v)(h2:aZ D φ α H u w)(m:RelV v a)(d:RelV w b)(e:eqT (.int i) u=aA k)(o:A.units+xx (.int i)+1<cLine):hY A s a b k:=by
 have h1:_=V.int i:=h1;subst h1;obtain⟨n,rfl⟩:=m;cases u with
 |int j=>have h2:w=V.int j:=h2;subst h2;obtain⟨l,rfl⟩:=d;cases bU e;exact Df _ _ _ _
 |bl j=>have h2:w=V.bl j:=h2;subst h2;cases d;cases bU e;exact SeqAt.EqAt.int_bool _ _ _
 |str j=>have h2:w=V.str j:=h2;subst h2;obtain⟨l,rfl⟩:=d;cases bU e;exact Dh _ _ _ _
 |non=>have h2:w=V.non:=h2;subst h2;cases d;cases bU e;exact SeqAt.EqAt.int_none _ _
 |tup g=>obtain⟨c,h,rfl,_,_,r,_⟩:=h2;cases d;obtain⟨f,_,p,_⟩:=I.tuple (.inl r);cases bU e;exact SeqAt.EqAt.int_tuple _ _ p (by lia)
 |lst g=>obtain⟨c,h,rfl,_,_,r,_⟩:=h2;cases d;obtain⟨f,_,p,_⟩:=I.list (.inl r);cases bU e;exact SeqAt.EqAt.int_list _ _ p.isList (by lia)
 |_=>cases e
theorem OQ(I:Inv X pins σ H s)(h1:aZ D φ α H (.bl i) v)(h2:aZ D φ α H u w)(m:RelV v a)(d:RelV w b)(e:eqT (.bl i) u=aA k)(n:A.units+xx (.bl i)+1<cLine):hY A s a b k:=by
 have h1:_=V.bl i:=h1;subst h1;cases m;cases u with
 |int j=>have h2:w=V.int j:=h2;subst h2;obtain⟨l,rfl⟩:=d;cases bU e;exact SeqAt.EqAt.bool_int _ _ _
 |bl j=>have h2:w=V.bl j:=h2;subst h2;cases d;cases bU e;exact SeqAt.EqAt.bool_bool _ _
 |str j=>have h2:w=V.str j:=h2;subst h2;obtain⟨l,rfl⟩:=d;cases bU e;exact SeqAt.EqAt.bool_str _ _ _
 |non=>have h2:w=V.non:=h2;subst h2;cases d;cases bU e;exact SeqAt.EqAt.bool_none _
 |tup g=>obtain⟨c,h,rfl,_,_,r,_⟩:=h2;cases d;obtain⟨f,_,p,_⟩:=I.tuple (.inl r);cases bU e;exact SeqAt.EqAt.bool_tuple _ p (by lia)
 |lst g=>obtain⟨c,h,rfl,_,_,r,_⟩:=h2;cases d;obtain⟨f,_,p,_⟩:=I.list (.inl r);cases bU e;exact SeqAt.EqAt.bool_list _ p.isList (by lia)
 |_=>cases e
theorem RR(I:Inv X pins σ H s)(h1:aZ D φ α H (.str i) v)(h2:aZ D φ α H u w)(m:RelV v a)(d:RelV w b)(e:eqT (.str i) u=aA k)(o:A.units+xx (.str i)+1<cLine):hY A s a b k:=by
 have h1:_=V.str i:=h1;subst h1;obtain⟨n,rfl⟩:=m;cases u with
 |int j=>have h2:w=V.int j:=h2;subst h2;obtain⟨l,rfl⟩:=d;cases bU e;exact Dg _ _ _ _
 |bl j=>have h2:w=V.bl j:=h2;subst h2;cases d;cases bU e;exact SeqAt.EqAt.str_bool _ _ _
 |str j=>have h2:w=V.str j:=h2;subst h2;obtain⟨l,rfl⟩:=d;cases bU e;exact DE _ _ _ _
 |non=>have h2:w=V.non:=h2;subst h2;cases d;cases bU e;exact SeqAt.EqAt.str_none _ _
 |tup g=>obtain⟨c,h,rfl,_,_,r,_⟩:=h2;cases d;obtain⟨f,_,p,_⟩:=I.tuple (.inl r);cases bU e;exact SeqAt.EqAt.str_tuple _ _ p (by omega)
 |lst g=>obtain⟨c,h,rfl,_,_,r,_⟩:=h2;cases d;obtain⟨f,_,p,_⟩:=I.list (.inl r);cases bU e;exact SeqAt.EqAt.str_list _ _ p.isList (by omega)
 |_=>cases e
theorem Sq(I:Inv X pins σ H s)(h1:aZ D φ α H .non v)(h2:aZ D φ α H u w)(l:RelV v a)(d:RelV w b)(e:eqT .non u=aA k)(m:A.units+xx .non+1<cLine):hY A s a b k:=by
 have h1:_=V.non:=h1;subst h1;cases l;cases u with
 |int j=>have h2:w=V.int j:=h2;subst h2;obtain⟨i,rfl⟩:=d;cases bU e;exact SeqAt.EqAt.none_int _ _
 |bl j=>have h2:w=V.bl j:=h2;subst h2;cases d;cases bU e;exact SeqAt.EqAt.none_bool _
 |str j=>have h2:w=V.str j:=h2;subst h2;obtain⟨i,rfl⟩:=d;cases bU e;exact SeqAt.EqAt.none_str _ _
 |non=>have h2:w=V.non:=h2;subst h2;cases d;cases bU e;exact sR _
 |tup g=>obtain⟨c,h,rfl,_,_,r,_⟩:=h2;cases d;obtain⟨f,_,p,_⟩:=I.tuple (.inl r);cases bU e;exact SeqAt.EqAt.none_tuple p (by lia)
 |lst g=>obtain⟨c,h,rfl,_,_,r,_⟩:=h2;cases d;obtain⟨f,_,p,_⟩:=I.list (.inl r);cases bU e;exact SeqAt.EqAt.none_list p.isList (by lia)
 |_=>cases e
theorem Ku(I:Inv X pins σ H s)(q:∀us,u≠.tup us)(h1:aZ D φ α H (.tup ts) B)(h2:aZ D φ α H u w)(h:RelV B a)(g:RelV w b)(e:eqT (.tup ts) u=aA k)(v:A.units+xx (.tup ts)+1<cLine):hY A s a b k:=by
 cases u with
 |tup us=>exact absurd rfl (q us)
 |lst us=>
  obtain⟨c,i,rfl,_,_,r,l⟩:=h1;obtain⟨d,t,rfl,_,_,n,l'⟩:=h2;cases h;cases g;obtain⟨_,_,p,_⟩:=I.tuple (.inl r);obtain⟨_,_,o,_⟩:=I.list (.inl n);cases bU e;exact SeqAt.EqAt.tuple_list p o.isList (by lia)
 |int j=>have h2:w=V.int j:=h2;subst h2;obtain⟨m,rfl⟩:=g;obtain⟨c,i,rfl,_,_,r,_⟩:=h1;cases h;obtain⟨f,_,p,_⟩:=I.tuple (.inl r);cases bU e;exact SeqAt.EqAt.tuple_int _ _ p (by lia)
 |bl j=>have h2:w=V.bl j:=h2;subst h2;cases g;obtain⟨c,i,rfl,_,_,r,_⟩:=h1;cases h;obtain⟨f,_,p,_⟩:=I.tuple (.inl r);cases bU e;exact SeqAt.EqAt.tuple_bool _ p (by lia)
 |str j=>have h2:w=V.str j:=h2;subst h2;obtain⟨m,rfl⟩:=g;obtain⟨c,i,rfl,_,_,r,_⟩:=h1;cases h;obtain⟨f,_,p,_⟩:=I.tuple (.inl r);cases bU e;exact SeqAt.EqAt.tuple_str _ _ p (by lia)
 |non=>have h2:w=V.non:=h2;subst h2;cases g;obtain⟨c,i,rfl,_,_,r,_⟩:=h1;cases h;obtain⟨f,_,p,_⟩:=I.tuple (.inl r);cases bU e;exact SeqAt.EqAt.tuple_none p (by lia)
 |_=>cases e
theorem KC(I:Inv X pins σ H s)(q:∀us,u≠.lst us)(h1:aZ D φ α H (.lst ts) B)(h2:aZ D φ α H u w)(h:RelV B a)(g:RelV w b)(e:eqT (.lst ts) u=aA k)(v:A.units+xx (.lst ts)+1<cLine):hY A s a b k:=by
 cases u with
 |lst us=>exact absurd rfl (q us)
 |tup us=>
  obtain⟨c,i,rfl,_,_,r,l⟩:=h1;obtain⟨d,t,rfl,_,_,n,l'⟩:=h2;cases h;cases g;obtain⟨_,_,p,_⟩:=I.list (.inl r);obtain⟨_,_,o,_⟩:=I.tuple (.inl n);cases bU e;exact SeqAt.EqAt.list_tuple p.isList o (by lia)
 |int j=>have h2:w=V.int j:=h2;subst h2;obtain⟨m,rfl⟩:=g;obtain⟨c,i,rfl,_,_,r,_⟩:=h1;cases h;obtain⟨f,_,p,_⟩:=I.list (.inl r);cases bU e;exact SeqAt.EqAt.list_int _ _ p.isList (by lia)
 |bl j=>have h2:w=V.bl j:=h2;subst h2;cases g;obtain⟨c,i,rfl,_,_,r,_⟩:=h1;cases h;obtain⟨f,_,p,_⟩:=I.list (.inl r);cases bU e;exact SeqAt.EqAt.list_bool _ p.isList (by lia)
 |str j=>have h2:w=V.str j:=h2;subst h2;obtain⟨m,rfl⟩:=g;obtain⟨c,i,rfl,_,_,r,_⟩:=h1;cases h;obtain⟨f,_,p,_⟩:=I.list (.inl r);cases bU e;exact SeqAt.EqAt.list_str _ _ p.isList (by lia)
 |non=>have h2:w=V.non:=h2;subst h2;cases g;obtain⟨c,i,rfl,_,_,r,_⟩:=h1;cases h;obtain⟨f,_,p,_⟩:=I.list (.inl r);cases bU e;exact SeqAt.EqAt.list_none p.isList (by lia)
 |_=>cases e
noncomputable def rJ (D:DP)(φ α:List aF)(H:Hp)(s:a_)(n:Nat):Prop:=∀(t u:T) (v w:V) (a b:aC) (k:Bool) (A:eM),xx t<n->aZ D φ α H t v->aZ D φ α H u w->RelV v a->RelV w b->eqT t u=aA k->A.units+xx t+1<cLine->hY A s a b k
theorem vg(k:rJ D φ α H s n):∀{ts us:List T}{xs ys:List V}{its a:List aC}{A:eM},v7 ts<n->aN D φ α H ts xs->aN D φ α H us ys->aV xs its->aV ys a->A.units+v7 ts+1<cLine->
  ∀(j:Nat) (h1:j<its.length) (h2:j<a.length),(∀(o:j<ts.length) (m:j<us.length),∃b,eqT ts[j] us[j]=aA b)->hY A s its[j] a[j] (match ts[j]?,us[j]? with|some t,aA u=>(eqT t u).getD aD|_,_=>aD)
 |[],_,xs,_,its,_,A,_,l,_,d,_,_,j,h1,_,_=>by
  have l:xs=[]:=l;subst l;cases d;simp at h1
 |t::ts,us,xs,ys,its,a,A,hd,l,l',d,c,y,j,h1,h2,g=>by
  obtain⟨v,r,rfl,B,l⟩:=l;cases d with
  | @cons _ C _ p x d=>
  cases us with
  |nil=>
   have l':ys=[]:=l';subst l';cases c;simp at h2
  |cons u us=>
   obtain⟨w,E,rfl,z,l'⟩:=l';cases c with
   | @cons _ q _ i f c=>
   simp only[v7] at y hd;cases j with
   |zero=>
    obtain⟨b,h⟩:=g (by simp) (by simp);have e:eqT t u=aA b:=by simpa using h
    simp only[DT,e,sL,List.getElem_cons_zero];exact k _ _ _ _ _ _ _ _ (by omega) B z x f e (by omega)
   |succ j=>
    simp only[tD,List.getElem_cons_succ];exact vg k (by omega) l l' d c (by omega) j (by simpa using h1) (by simpa using h2) λo m=>by
     obtain⟨b,h⟩:=g (by simpa using o) (by simpa using m);exact⟨b,by simpa using h⟩
theorem Wb(I:Inv X pins σ H s)(v:rJ D φ α H s n)(hd:v7 ts<n)(l:aN D φ α H ts xs)(l':aN D φ α H us ys)(r:Rd H c (.tup xs))(i:Rd H d (.tup ys))(e:c8 ts us=aA k)(B:A.units+v7 ts+2<cLine):oJ A s (.ref c) (.ref d) k:=by
 obtain⟨f,h,p,_⟩:=I.tuple (.inl r);obtain⟨b,a,q,_⟩:=I.tuple (.inl i);obtain⟨g,rfl⟩:=uZ e;have x:ts.length=f.length:=l.length.trans h.length;have w:us.length=b.length:=l'.length.trans a.length;have:=SeqAt.RcAt.tuples (A:=A) (e:=λj=>match ts[j]?,us[j]? with|some t,aA u=>(eqT t u).getD aD|_,_=>aD) p q (by omega) λj o m=>by
  have:=vg (A:=A.in1) v hd l l' h a (by rw[cC];omega) j (by simpa using o) (by simpa using m) λz y=>g j z y;simpa using this
 simpa[x,w] using this
theorem W0(I:Inv X pins σ H s)(x:rJ D φ α H s n)(hd:v7 ts<n)(l:aN D φ α H ts xs)(l':aN D φ α H us ys)(r:Rd H c (.lst xs))(q:Rd H d (.lst ys))(e:c8 ts us=aA k)(C:A.units+v7 ts+2<cLine):oJ A s (.ref c) (.ref d) k:=by
 obtain⟨f,i,p,_⟩:=I.list (.inl r);obtain⟨b,a,m,_⟩:=I.list (.inl q);obtain⟨g,rfl⟩:=uZ e;have F:ts.length=f.length:=l.length.trans i.length;have E:us.length=b.length:=l'.length.trans a.length;by_cases o:ts.length=us.length
 ·have:=SeqAt.RcAt.lists (A:=A) (e:=λj=>match ts[j]?,us[j]? with|some t,aA u=>(eqT t u).getD aD|_,_=>aD) p.isList m.isList (by simp;lia) (by lia) λj w v=>by
   have:=vg (A:=A.in1) x hd l l' i a (by rw[cC];lia) j (by simpa using w) (by simpa using v) λz y=>g j z y;simpa using this
  have B:min ts.length us.length=f.length:=by lia
  have h:(ts.length==us.length)=aB:=by simpa using o
  rw[B,h,r_];simpa using this
 ·have h:(ts.length==us.length)=aD:=by simpa using o
  rw[h,sO];exact SeqAt.RcAt.lists_lengths p.isList m.isList (by simp;lia) (by lia)
theorem WZ(I:Inv X pins σ H s):∀n,rJ D φ α H s n
 |0=>λ_ _ _ _ _ _ _ _ p=>absurd p (by omega)
 |n+1=>λt u v w a b k A p h g m j e o=>by
  have B:=WZ I n;cases t with
  |int i=>exact eqAt_int I h g m j e o
  |bl i=>exact OQ I h g m j e o
  |str i=>exact RR I h g m j e o
  |non=>exact Sq I h g m j e o
  |tup G=>
   cases u with
   |tup F=>
    have y:=λ(q:w=v)=>Ze h (q▸g) e;obtain⟨c,E,rfl,_,_,r,l⟩:=h;obtain⟨d,C,rfl,_,_,x,l'⟩:=g;cases m;cases j;by_cases f:c=d
    ·subst f;rw[y rfl];exact sR _
    ·refine DD f ?_;exact Wb I B (by simp only[xx] at p;omega) l l' r x e (by simp only[xx] at o;omega)
   |_=>exact Ku I (by intro _ z;cases z) h g m j e o
  |lst G=>
   cases u with
   |lst F=>
    have y:=λ(q:w=v)=>Ze h (q▸g) e;obtain⟨c,E,rfl,_,_,r,l⟩:=h;obtain⟨d,C,rfl,_,_,x,l'⟩:=g;cases m;cases j;by_cases f:c=d
    ·subst f;rw[y rfl];exact sR _
    ·refine DD f ?_;exact W0 I B (by simp only[xx] at p;omega) l l' r x e (by simp only[xx] at o;omega)
   |_=>exact KC I (by intro _ z;cases z) h g m j e o
  |_=>cases e
theorem RL(I:Inv X pins σ H s)(l:aN D φ α H ts xs)(l':aN D φ α H us ys)(r:Rd H c (.tup xs))(a:Rd H d (.tup ys))(e:c8 ts us=aA k)(b:A.units+v7 ts+2<cLine):oJ A s (.ref c) (.ref d) k:=Wb I (WZ I _) (iO _) l l' r a e b
theorem Sg(I:Inv X pins σ H s)(l:aN D φ α H ts xs)(l':aN D φ α H us ys)(r:Rd H c (.lst xs))(a:Rd H d (.lst ys))(e:c8 ts us=aA k)(b:A.units+v7 ts+2<cLine):oJ A s (.ref c) (.ref d) k:=W0 I (WZ I _) (iO _) l l' r a e b
theorem Z8(I:Inv X pins σ H s):∀{ts us:List T}{xs ys:List V}{its a:List aC}{A:eM},aN D φ α H ts xs->aN D φ α H us ys->aV xs its->aV ys a->A.units+v7 ts+1<cLine->
  ∀(j:Nat) (h1:j<its.length) (h2:j<a.length),(∀(g:j<ts.length) (f:j<us.length),∃b,eqT ts[j] us[j]=aA b)->hY A s its[j] a[j] (match ts[j]?,us[j]? with|some t,aA u=>(eqT t u).getD aD|_,_=>aD):=λl l' d c e=>vg (WZ I _) (iO _) l l' d c e
theorem SH(I:Inv X pins σ H s)(l:aN D φ α H ts xs)(l':aN D φ α H us ys)(r:Rd H c (.tup xs))(i:Rd H d (.tup ys))(e:c8 ts us=aA k)(y:A.units+v7 ts+2<cLine):BV A s (.ref c) (.ref d) (!k):=by
 obtain⟨f,h,p,_⟩:=I.tuple (.inl r);obtain⟨b,a,o,_⟩:=I.tuple (.inl i);obtain⟨g,rfl⟩:=uZ e;have v:ts.length=f.length:=l.length.trans h.length;have q:us.length=b.length:=l'.length.trans a.length;have:=HJ (A:=A) (e:=λj=>match ts[j]?,us[j]? with|some t,aA u=>(eqT t u).getD aD|_,_=>aD) p o (by lia) λj n m=>by
  have:=Z8 (A:=A.in1) I l l' h a (by rw[cC];lia) j (by simpa using n) (by simpa using m) λx w=>g j x w;simpa using this
 simpa[v,q] using this
theorem RX(I:Inv X pins σ H s)(l:aN D φ α H ts xs)(l':aN D φ α H us ys)(r:Rd H c (.lst xs))(o:Rd H d (.lst ys))(e:c8 ts us=aA k)(z:A.units+v7 ts+2<cLine):BV A s (.ref c) (.ref d) (!k):=by
 obtain⟨f,i,p,_⟩:=I.list (.inl r);obtain⟨b,a,m,_⟩:=I.list (.inl o);obtain⟨g,rfl⟩:=uZ e;have C:ts.length=f.length:=l.length.trans i.length;have B:us.length=b.length:=l'.length.trans a.length;by_cases n:ts.length=us.length
 ·have:=HG (A:=A) (e:=λj=>match ts[j]?,us[j]? with|some t,aA u=>(eqT t u).getD aD|_,_=>aD) p.isList m.isList (by simp;lia) (by lia) λj v q=>by
   have:=Z8 (A:=A.in1) I l l' i a (by rw[cC];lia) j (by simpa using v) (by simpa using q) λx w=>g j x w;simpa using this
  have y:min ts.length us.length=f.length:=by lia
  have h:(ts.length==us.length)=aB:=by simpa using n
  rw[y,h,r_];simpa using this
 ·have h:(ts.length==us.length)=aD:=by simpa using n
  rw[h,sO];exact Ih p.isList m.isList (by simp;lia) (by lia)
end
end
noncomputable def S9 (D:DP)(f:Fn):Sp:=λh H Q E=>∃a c e d,aN D a c H e h/\aL D a c H d/\aJ D (e_ E) a c H [] (λt _ b g=>∀v,aZ D a b g t v->Q v g) (f e d)
noncomputable def eU (D:DP)(n:Nat)(f:Fn):Sp:=λa H Q E=>a.length=n/\S9 D f a H Q E
noncomputable def VT (D:DP)(t:Nat)(u:aC):Prop:=
 (t=0/\u=.type "NoneType")\/(t=1/\u=.type "bool")\/(t=2/\u=.type "int")\/(t=3/\u=.type "str")\/(t=4/\u=.type "tuple")\/(t=5/\u=.type "list")\/(∃C,D.adr t=aA C/\u=.ref C)\/(t=6/\u=.type "dict")\/(∃C,D.cad t=aA C/\u=.ref C)
noncomputable def Zv(mg:aG->Option aC)(c:aG)(u:aC):Prop:=mg c=aA u\/(mg c=aE/\gB c=aA u/\c≠"__name__")
abbrev A7(X:Cx)(c:aG)(u:aC):Prop:=Zv X.mg c u
noncomputable def gp(v:V)(u:aC):Prop:=(∃C,v=.ref C/\u=.ref C)\/∃n,v=.ty n/\u=.type n
theorem gp.rel(h:gp v u):L2.RelV v u:=by
 rcases h with⟨C,rfl,rfl⟩|⟨n,rfl,rfl⟩<;>rfl
theorem gp.only(h:gp v u)(r:L2.RelV v d):d=u:=by
 rcases h with⟨C,rfl,rfl⟩|⟨n,rfl,rfl⟩<;>exact r
structure ik(K:PySem.W.Frag)(C:aF):Prop where
 ga:dO K (.ref C) "__getattribute__"=aA (aA (.builtin "BaseException.__getattribute__"))
 hk:dO K (.ref C) "__getattr__"=aA aE
 fi:dO K (.ref C) "__class__"=aA (aA (.builtin "object.__class__"))
 sp:o4 K (.builtin "object.__class__") "__get__"=aA (aA (.builtin "getset_descriptor.__get__"))
 tk:pd K (.builtin "object.__class__")=aA aB
 ob:gV K C (.type "object")=aA aB
 bx:gV K C (.type "BaseException")=aA aB
 nb:gV K C (.type "KeyError")=aA aD/\gV K C (.type "ZeroDivisionError")=aA aD
 cl:(oy K C).isSome=aB
structure ma(K:PySem.W.Frag)(C:aF):Prop where
 cl:gu K C
 fi:dO K (.ref C) "__class__"=aA (aA (.builtin "object.__class__"))
 sp:o4 K (.builtin "object.__class__") "__get__"=aA (aA (.builtin "getset_descriptor.__get__"))
 tk:pd K (.builtin "object.__class__")=aA aB
 ob:gV K C (.type "object")=aA aB
abbrev qv:List aC:=[.type "ValueError",.type "Exception",.type "BaseException",.type "object"]
noncomputable def Ts (D:DP)(P:cF)(w:dJ)(K:bM)(mg:aG->Option aC)(base:aT)(k:Nat)(fa:aF)(f:Fn):Prop:=
 ∃fd a c,fK K (.ref fa)=aB/\Binds K fd a []/\c<=k/\bY P w K mg base (dG P w) c fa fd a (eU D a.length f)/\∀b d K Z,f b d K Z->b.length=a.length
structure gH(k:Nat)(A:Around):Prop where
 dp:A.depth+3*k+5<recursionLimit
 un:A.units+16*k+200<cLine
theorem gH.units{k:Nat}(r:gH k A):A.units+64<cLine:=by have:=r.un;lia
noncomputable def FE(P:cF)(w:dJ)(K:bM)(mg:aG->Option aC)(base:aT)(k:Nat)(f:aF)(fd:FuncData)(ps:List aG)(sp:Sp):Prop:=
 ∀(A:eM) (a:List Env) (s:a_) (H:Hp) (args:Args) (c:List aC) (b:List V) (Q:VK),gH k A->dI P w K mg base A a s H->jp s fd args (ps.zip c)->aV b c->sp b H Q (λ_ _ _=>False)->
  fP (aQ P w) A (.call (.ref f) args) (CR (λ_ _ _ _ _ _=>False) a P w H s Q (λ_ _ _=>False)) s
noncomputable def Im (x C:aF):aT->Prop:=λh=>∃t,h.get? x=aA {cls:=.ref C,data:=.fields #[.ref t,.none,.none,.none,.bool aD,.none]}
noncomputable def LP(x C dx:aF):aT->Prop:=λh=>∃t,h.get? x=aA {cls:=.ref C,dict:=aA dx,data:=.fields #[.ref t,.none,.none,.none,.bool aD,.none]}
structure Te(K:PySem.W.Frag)(C HE fI:aF)(fl:aG):Prop where
 cls:∃N nm q bs hd sn sub ab col dd k0 k1 k2 k3 k5,K.lookup C=aA (rR nm q C N bs (.ref HE::qv) hd sn sub ab col dd k0 k1 k2 k3 k5 "ValueError.__new__")/\PySem.W.nsOkIn K N=aB/\oW K N "__init__"=aA (aA (.ref fI))
 he:fy K HE qv "ValueError.__new__"=aB
 fn:CQ K (.ref fI)=aA (.type "function")
 sa:dO K (.ref C) "__setattr__"=aA (aA (.builtin "object.__setattr__"))
 no:dO K (.ref C) fl=aA aE
 dct:nr K C=aB
 kp:fK K (.ref C)=aB
noncomputable def GS (C:aF)(fl:aG):Sp:=λa H Q E=>∃(x:aF) (i:Int),a=[.ref x,.int i]/\i.natAbs.log2<1920/\H x=aA (.ext (Im x C))/\∀dx,H dx=aE->dx≠x->Q .non (upd (upd H x (.ext (LP x C dx))) dx (.xd [(fl,.int i)]))
noncomputable def Mn(y:aG)(sc:Scope):Bool:=(sc.kind==.function)&&!sc.isCoroutine&&!sc.isGenerator&&sc.names.all (λy=>y.2 != .free)&&(sc.names.lookup y==aA .local)&&y != ("__debug__":aG)&&y != ("__classdict__":aG)
noncomputable def LH(a c:aF)(qn:aG):aT->Prop:=λh=>∃(y:aG) (f:Pos) (g:Nat) (bp:Pos) (d:Scope) (e b:aC),Mn y d=aB/\h.get? a=aA (ly "<lambda>" qn ⟨[],[⟨y,aE,f⟩],aE,[],[],aE,[]⟩ (.Constant .none g bp) d [] e c b)
noncomputable def EM (t:T):Prop:=t=.clo 0 [.clo 100 []]\/t=.clo 1 []\/t=.clo 2 [.clo 101 []]
noncomputable def IE (D:DP)(P:cF)(w:dJ)(K:bM)(mg:aG->Option aC)(base:aT)(k:Nat):Prop:=
 ∀(t:T) (c e:List aF) (H:Hp) (v:V),EM t->aZ D c e H t v->∃a h,v=.ref a/\h<=k/\∀(A:eM) (b:List Env) (s:a_),dI P w K mg base A b s H->Cm a s.heap/\(cB h A->∀(u:aC) (x:V) (Q:VK) (t:T) (c e:List aF) (g:aK),RelV x u->aZ D c e H t x->aL D c e H g->(∀d f,aO e H d f->aL D c d f g->Q .non f)->
  fP (aQ P w) A (.call (.ref a) ⟨[u],[]⟩) (CR (dG P w) b P w H s Q (λ_ _ _=>False)) s)
noncomputable def bO.fb(l:bO):FuncBody:=match l.sb with|none=>.expr l.body|some q=>.stmts q.2
noncomputable def bO.nm(l:bO):aG:=match l.sb with|none=>"<lambda>" | some q=>q.1
noncomputable abbrev Bg(name qual:aG)(params:Arguments)(fb:FuncBody)(scope:Scope)(cl:List (aG×aF))(doc b a ct:aC):FuncData:=
 {name,qualname:=qual,params,body:=fb,scope,globals:=bR,closure:=cl,defaults:=.none,kwdefaults:=.none,doc:=doc,pyModule:=b,annotations:=aE,code:=a,closureTuple:=ct,builtins:=lh}
noncomputable def xk(a c:aF)(l:bO)(cl:List (aG×aF)):aT->Prop:=λh=>∃(f:Pos) (e d b:aC),h.get? a=aA {cls:=.type "function",data:=.func (Bg l.nm l.qn ⟨[],[⟨l.y,aE,f⟩],aE,[],[],aE,[]⟩ l.fb l.sc cl b e (.ref c) d)}
noncomputable def YU(fr:List aG)(cl:List (aG×aF))(cs:List aF):Prop:=fr.map (λx=>cl.lookup x)=cs.map aA/\cs.Nodup/\∀x a,cl.lookup x=aA a->x∈fr
noncomputable def L3(D:DP)(P:cF)(w:dJ)(K:bM)(mg:aG->Option aC)(base:aT)(k:Nat)(ls:List bO):Prop:=
 ∀(j:Nat) (l:bO) (p:List T) (i m:List aF) (H:Hp) (v:V),ls[j]?=aA l->aZ D i m H (Yr j l.jt p) v->∃(a:aF) (r:Nat),v=.ref a/\r<=k/\∀(A:eM) (f:List Env) (s:a_),dI P w K mg base A f s H->Cm a s.heap/\(cB r A->
  ∀(u:aC) (x:V) (Q:VK) (t:T) (n:aK) (z:T->aK->Prop) (y:Xp) (E:XK),RelV x u->aZ D i m H t x->aL D i m H n->l.g (aA t::p.map aA) n z y->(∀q e,z q e->∀b h o,aO m H b h->aL D i b h e->aZ D i b h q o->Q o h)->(∀c fs e,y c fs e->∀b h cv d,aO m H b h->aL D i b h e->iG D c fs cv->bW D i b h fs d->E cv d h)->
  fP (aQ P w) A (.call (.ref a) ⟨[u],[]⟩) (CR (dG P w) f P w H s Q E) s)
structure lF(D:DP)(ls:List bO):Prop where
 tb:∀(j:Nat) (l:bO),ls[j]?=aA l->∃P' pos,D.tabs l.jt=aA (P',pos,l.qn)
 fn:∀(j:Nat) (l:bO) (a c:aF) (cl:List (aG×aF)) (cs:List aF),ls[j]?=aA l->YU l.fr cl cs->D.clo (300+j) a (aA (.ext (xk a c l cl))) (.ref c::cs.map V.ref)
 ce:∀c (o:bD) u x ob,o.data=.cell (aA u)->RelV x u->D.clo 200 c (aA (.frz o ob)) [x]
 co:∀j P' pos qn c,D.tabs j=aA (P',pos,qn)->D.clo (100+j) c (aA (.ext (qC c qn))) []
noncomputable def cE(D:DP)(P:cF)(w:dJ)(K:bM)(mg:aG->Option aC)(base:aT)(k:Nat)(x:aG):GM->Prop
 |.fn f=>∃fa,mg x=aA (.ref fa)/\Ts D P w K mg base k fa f
 |.fnh nm f=>∃fa,mg nm=aA (.ref fa)/\∃fd b e,fK K (.ref fa)=aB/\Binds K fd b []/\e<=k/\FE P w K mg base e fa fd b (eU D b.length f)/\∀l m K Z,f l m K Z->l.length=b.length
 |.met c nm f=>∃C g fd b e,D.cad c=aA C/\gu K C/\md K C nm g/\(∀i,D.fn i≠aA nm)/\Binds K fd b []/\e<=k/\bY P w K mg base (dG P w) e g fd b (eU D b.length f)/\∀l m K Z,f l m K Z->l.length=b.length
 |.mk c _ f=>∃C g fd b e,D.cad c=aA C/\mg x=aA (.ref C)/\Mk K C g/\Binds K fd b []/\e+1<=k/\bY P w K mg base (dG P w) e g fd b (eU D b.length f)/\∀l m K Z,f l m K Z->l.length=b.length
 |.cst t=>∃u v,mg x=aA u/\RelV v u/\∀o q H,aZ D o q H t v
 |.xcl c=>∃C,D.adr c=aA C/\mg x=aA (.ref C)/\fy K C qv "ValueError.__new__"=aB
 |.xcf c _=>∃C,D.adr c=aA C/\mg x=aA (.ref C)
 |.xbt c n=>mg x=aE/\gB x=aA (.type n)/\x≠"__name__"/\n_ c=aA n/\D.adr c=aE
 |.xin c f nm fl=>∃C E g fd b e,D.adr c=aA C/\mg nm=aA (.ref C)/\D.fn f=aA fl/\Te K C E g fl/\Binds K fd b []/\e+1<=k/\bY P w K mg base (dG P w) e g fd b (GS C fl)/\FE P w K mg base e g fd b (GS C fl)
 |.mkd c nm n f=>∃C g fd b e,D.cad c=aA C/\mg nm=aA (.ref C)/\Mk K C g/\Binds K fd b [.none]/\e+1<=k/\bY P w K mg base (dG P w) e g fd b (eU D b.length f)/\(∀l m K Z,f l m K Z->l.length=b.length)/\b.length=n+2
 |.metd c nm n d f=>∃C g fd b e du dv,D.cad c=aA C/\gu K C/\md K C nm g/\(∀i,D.fn i≠aA nm)/\Binds K fd b [du]/\RelV dv du/\(∀o q H,aZ D o q H d dv)/\e<=k/\bY P w K mg base (dG P w) e g fd b (eU D b.length f)/\(∀l m K Z,f l m K Z->l.length=b.length)/\b.length=n+2
 |.kpr=>IE D P w K mg base k/\∀j B s r,j<2->D.tabs j=aA (B,s,r)->∀a c,D.clo (2*j) a (aA (.ext (LH a c r))) [.ref c]/\D.clo (100+j) c (aA (.ext (qC c r))) []
 |.kap A=>L3 D P w K mg base k A/\lF D A
 |.tbl y=>∃a z,mg x=aA (.ref a)/\(a==gz)=aD/\KV (y.map λp=>((.inr p.1:Key),V.int p.2)) z/\∀h:aT,K.In h->h.DictOf (zE P w) a z
 |.none=>mg x=aE
 |.bad=>True
abbrev Er(D:DP)(X:Cx)(k:Nat)(x:aG)(g:GM):Prop:=cE D X.prog X.w X.K X.mg X.base k x g
structure Cn where
 N:List aG
 G:List aG
 calm:Bool
 gl:aG->GM
 cls:List (aG×Nat)
 fld:List (aG×Nat)
 U:List aG
 cel:List aG
 own:List aG
 lam:Option (Nat×List Pos):=aE
 lnm:aG:="<lambda>"
 fz:List aG:=[]
noncomputable def Cn.sto(Γ:Cn):List aG:=Γ.N.filter λx=>!Γ.fz.contains x
noncomputable def Cn.look(Γ:Cn)(x:aG):GM:=if Γ.G.contains x then Γ.gl x else .bad
noncomputable def c6(D:DP)(mg:aG->Option aC)(base:aT)(code:aC)(qual:aG)(k:Nat)(l:Option (Nat×List Pos))(nm:aG):Prop:=∀j a,l=aA (j,a)->2<=k/\∃c P,code=.ref c/\lr base c P/\base.BuiltinsAt mg P/\D.tabs j=aA (P,a,qual++nm)
theorem c6.no{code:aC}(h:l=aE):c6 D mg base code qual k l nm:=λj pos e=>by rw[h] at e;cases e
structure Ck(D:DP)(W:XW)(Γ:Cn)(X:Cx)(k:Nat):Prop where
 hK:X.K=D.K
 hN:X.N=Γ.N
 nd:Γ.N.Nodup
 vis:∀x∈Γ.N,rC X.env.scope x
 dbg:∀x∈Γ.N,(x==("__debug__":aG))=aD/\(x==("__classdict__":aG))=aD
 dbG:∀x∈Γ.G,(x==("__debug__":aG))=aD
 glb:∀x∈Γ.G,Gl X x
 glo:∀x∈Γ.G,Er D X k x (Γ.gl x)
 glU:∀x∈Γ.U,Er D X k x (Γ.gl x)/\(x==("__debug__":aG))=aD
 cel:∀x∈Γ.cel,X.env.kindOf x=aA .cell\/X.env.kindOf x=aA .free
 isi:∀t x c,(x,c)∈Γ.cls->∀u v,VT D t u->A7 X x v->o6 X.K u v=aA (vy t c)
 fld:∀c C x f,D.cad c=aA C->(x,f)∈Γ.fld->D.fn f=aA x/\gu X.K C/\cJ X.K C x
 xcx:∀c C,D.adr c=aA C->ik X.K C
 ocx:∀c C,D.cad c=aA C->ma X.K C
 clv:∀x c,(x,c)∈Γ.cls->∃u v,A7 X x u/\gp v u
 clm:Γ.calm=aB->X.calm=aB
 rom:Γ.calm=aB->cB k X.A
 rmh:gH k X.A
 xe:∀e s,XP X W e s->X.xe e s
 frm:∃e0 out L,i3 X e0 out L
 lam:c6 D X.mg X.base X.env.code X.env.qual k Γ.lam Γ.lnm
 kfz:Γ.lam.isSome=aB->∀x∈Γ.fz,X.fn x=aD/\∀c,X.env.cells.lookup x=aA c->X.s₀.heap.objs.size<=c
theorem Ck.unt{W:XW}(C:Ck D W Γ X k):X.A.units+64<cLine:=C.rmh.units
theorem vh:∀{N:List aG}{x:aG}{i:Nat},cL N x=aA i->N[i]?=aA x
 |[],_,_,h=>by simp[cL] at h
 |y::r,x,i,h=>by
  simp only[cL] at h;split at h
  ·rename_i e;cases h;simp[e]
  ·cases q:cL r x with
   |none=>rw[q] at h;cases h
   |some j=>rw[q] at h;cases h;simpa using vh q
theorem wD(h:cL N x=aA i):x∈N:=cP (vh h)
section
variable {X:Cx}{D:DP}{W:XW}{Γ:Cn}{k:Nat}{pins:List (aF×bD)}{s:Shared}{σ:St}{H:Hp}{φ α:List aF}{τ:Sl}{μ:aK}{f g h:De}{a b c:aI}{pos:Pos}
theorem PE.mono(h:PE X e t)(m:∀σ H Q,t' σ H Q->t σ H Q):PE X e t':=λa s σ H Q I q=>h a s σ H Q I (m σ H Q q)
theorem M3{i j pos}:PE X (.Constant (.int i) j pos) (aX D W (eC (.int i))):=PE.mono Ov λd H Q ⟨b,f,c,e,g,a,p⟩=>aJ.here p a rfl
theorem LG{i j pos}:PE X (.Constant (.bool i) j pos) (aX D W (eC (.bl i))):=PE.mono II λd H Q ⟨b,f,c,e,g,a,p⟩=>aJ.here p a rfl
theorem MM{j pos}:PE X (.Constant .none j pos) (aX D W (eC .non)):=PE.mono Mz λd H Q ⟨b,f,c,e,g,a,p⟩=>aJ.here p a rfl
theorem Oc{i j pos}:PE X (.Constant (.str i) j pos) (aX D W (eC (.str i))):=PE.mono Nc λd H Q ⟨b,f,c,e,g,a,p⟩=>aJ.here p a rfl
theorem NT(C:Ck D W Γ X k)(hi:cL Γ.N x=aA i):PE X (.Name x pos) (aX D W (eV i)):=by
 refine PE.mono (Na (i:=i) (by rw[C.hN];exact vh hi) (C.vis x (wD hi)) (C.dbg x (wD hi)).1 (C.dbg x (wD hi)).2) ?_;rintro g H Q ⟨c,j,f,h,a,b,p⟩;dsimp only[eV] at p;split at p
 ·rename_i t e;obtain⟨v,q,d⟩:=a.get e;exact⟨v,q,p.here b d⟩
 ·exact p.elim
theorem Nv(C:Ck D W Γ X k)(a:x∈Γ.G)(c:Γ.gl x=.cst t):PE X (.Name x pos) (aX D W (eC t)):=by
 have g:=C.glo x a;rw[c] at g;obtain⟨u,v,e,r,d⟩:=g;exact PE.mono (Yj (C.glb x a) e r (C.dbG x a)) λi H Q ⟨f,l,h,j,m,b,p⟩=>aJ.here p b (d _ _ _)
theorem Nz(A:PE X a (aX D W f))(z:PE X b (aX D W g)):PE X (.BinOp a op b pos) (aX D W (zd op f g)):=by
 rintro i s K H Q I ⟨G,M,J,L,q,y,p⟩;refine wpAny_BinOp (aY (sub A I q y p) ?_);rintro u S ⟨v,U,t,k,m,F,w,n,d,h,C,p1⟩;refine aY (sub z F d h p1) ?_;rintro O R ⟨N,T,P,j,l,E,r,c,o,e,B,x⟩;exact Mv E e (C.step c) B w r x
theorem N0(n:PE X a (aX D W f)):PE X (.UnaryOp .USub a pos) (aX D W (xz f)):=by
 rintro b s d H Q I ⟨w,z,x,y,j,m,p⟩;refine UnaryOp_ (aY (sub n I j m p) ?_);rintro u k ⟨v,r,t,e,g,q,l,h,i,c,o,p1⟩;try dsimp only at p1
 split at p1
 ·cases o;exact MW b k d r _ _ Q q l ⟨_,rfl,p1.here c rfl⟩
 ·exact p1.elim
theorem Nn(m:PE X a (aX D W f)):PE X (.UnaryOp .Not a pos) (aX D W (AT f)):=by
 rintro d s x H Q I ⟨r,z,w,y,j,l,p⟩;refine UnaryOp_ (aY (sub m I j l p) ?_);rintro u A ⟨v,q,t,e,g,o,k,h,i,c,n,p1⟩;try dsimp only at p1
 split at p1
 ·rename_i b;cases n;cases k;exact not_of (wpAny_truthy_bool ⟨.bl (!b),q,o,rfl,p1.here c rfl⟩)
 ·exact p1.elim
theorem MR(b:PE X a (aX D W f)):PE X (.BoolOp op [a] pos) (aX D W f):=ML b
theorem Ma(A:PE X a (aX D W f))(z:PE X (.BoolOp .And (b::r) pos) (aX D W g)):PE X (.BoolOp .And (a::b::r) pos) (aX D W (jP f g)):=by
 rintro c s n H Q I ⟨l,E,m,C,q,y,p⟩;refine BoolOp_and (aY (sub A I q y p) ?_);rintro u w ⟨v,k,t,e,h,j,x,o,i,d,B,p1⟩;try dsimp only at p1
 split at p1
 ·cases B;cases x;rcases p1.br with⟨rfl,p1⟩|⟨rfl,p1⟩
  ·exact wpAny_truthy_bool (z c w n k Q j ⟨l,h,m,e,i,d,p1⟩)
  ·exact wpAny_truthy_bool ⟨.bl aD,k,j,rfl,p1.here d rfl⟩
 ·exact p1.elim
theorem Mr(A:PE X a (aX D W f))(z:PE X (.BoolOp .Or (b::r) pos) (aX D W g)):PE X (.BoolOp .Or (a::b::r) pos) (aX D W (G6 f g)):=by
 rintro c s n H Q I ⟨l,E,m,C,q,y,p⟩;refine BoolOp_or (aY (sub A I q y p) ?_);rintro u w ⟨v,k,t,e,h,j,x,o,i,d,B,p1⟩;try dsimp only at p1
 split at p1
 ·cases B;cases x;rcases p1.br with⟨rfl,p1⟩|⟨rfl,p1⟩
  ·exact wpAny_truthy_bool ⟨.bl aB,k,j,rfl,p1.here d rfl⟩
  ·exact wpAny_truthy_bool (z c w n k Q j ⟨l,h,m,e,i,d,p1⟩)
 ·exact p1.elim
theorem N7{b:Bool}(c:aZ D φ α H x v)(a:aZ D φ α H y w)(h:Bj x y=aA b):pL v w=aB/\decide (v=w)=b:=by
 unfold Bj at h
 split at h<;>first
  |(cases h;cases c;cases a;exact⟨rfl,by simp⟩)
  |cases h
theorem N_:dY X (d5 .Is) (λx y H Q=>∃a b,x=.bl a/\y=.bl b/\Q (.bl (decide (a=b))) H):=by
 intro c s f H x y v u Q I e d h;obtain⟨a,b,rfl,rfl,q⟩:=h;cases e;cases d;refine wpAny_is_plain (by rfl) ⟨.bl (decide (a=b)),H,I,?_,q⟩;cases a<;>cases b<;>rfl
theorem R1:dY X (d5 .IsNot) (λx y H Q=>∃a b,x=.bl a/\y=.bl b/\Q (.bl (!decide (a=b))) H):=by
 intro c s f H x y v u Q I e d h;obtain⟨a,b,rfl,rfl,q⟩:=h;cases e;cases d;refine wpAny_isNot_plain (by rfl) ⟨.bl (!decide (a=b)),H,I,?_,q⟩;cases a<;>cases b<;>rfl
theorem Gg{b:Bool}{C:Prop}{x:T}{v w:V}(I:Inv X pins σ H s)(K:X.A.units+64<cLine)(G:aL D φ α H μ)(t:aZ D φ α H x v)(o:aZ D φ α H y w)(p:aJ D W φ α H σ (RV D φ Q) (rz x y μ kk))
  (h1:∀b,aJ D W φ α H σ (RV D φ Q) (kk b)->pL v w=aB/\decide (v=w)=b->C)
  (h2:∀b,aJ D W φ α H σ (RV D φ Q) (kk b)->((∀u j,RelV v u->RelV w j->∀{R:aC->a_->Prop},R (.bool b) s->wpAny (aQ X.prog X.w) X.A (d5 .Eq u j) R X.xe s)/\(∀u j,RelV v u->RelV w j->∀{R:aC->a_->Prop},R (.bool (!b)) s->wpAny (aQ X.prog X.w) X.A (d5 .NotEq u j) R X.xe s))->C):C:=by
 have lst:∀{B F:List T}{c d:aF}{h g:List V},v=.ref c->w=.ref d->Rd H c (.lst h)->Rd H d (.lst g)->aN D φ α H B h->aN D φ α H F g->aJ D W φ α H σ (RV D φ Q) (RE.grd (v7 B<=40) (.som (c8 B F) kk))->C:=λ{B F c d h g} f e r a l l' p=>by
  obtain⟨hd,p⟩:=p.grd;obtain⟨b,m,p⟩:=p.som;subst f e;exact h2 b p ⟨λu j k i R q=>by cases k;cases i;exact Sg I l l' r a m (by lia) _ _ _ _ q,λu j k i R q=>by cases k;cases i;exact RX I l l' r a m (by lia) _ _ _ _ q⟩
 unfold rz at p;split at p
 ·obtain⟨hd,p⟩:=p.grd;obtain⟨b,m,p⟩:=p.som;obtain⟨c,h,rfl,_,_,r,l⟩:=t;obtain⟨d,g,rfl,_,_,a,l'⟩:=o;exact h2 b p ⟨λu j k i R q=>by cases k;cases i;exact RL I l l' r a m (by lia) _ _ _ _ q,λu j k i R q=>by cases k;cases i;exact SH I l l' r a m (by lia) _ _ _ _ q⟩
 ·obtain⟨c,h,f,_,_,r,l⟩:=t;obtain⟨d,g,e,_,_,a,l'⟩:=o;exact lst f e r a l l' p
 ·obtain⟨B,n,p⟩:=p.ex1;obtain⟨c,E,f⟩:=t;obtain⟨h,q,l⟩:=G.ob _ c _ E n;obtain⟨d,g,e,_,_,a,l'⟩:=o;exact lst f e (.inl q) a l l' p
 ·obtain⟨F,n,p⟩:=p.ex1;obtain⟨c,E,e⟩:=o;obtain⟨h,q,l⟩:=G.ob _ c _ E n;obtain⟨d,g,f,_,_,a,l'⟩:=t;exact lst f e a (.inl q) l' l p
 ·obtain⟨z,n,p⟩:=p.ex1;obtain⟨c,E,f⟩:=t;obtain⟨h,q,l⟩:=G.ob _ c _ E n.1;obtain⟨d,hd,e⟩:=o;obtain⟨g,J,l'⟩:=G.ob _ d _ hd n.2;exact lst f e (.inl q) (.inl J) l l' p
 ·split at p
  ·rename_i m;exact h1 _ p (N7 t o m)
  ·exact p.elim
theorem Wz{x:T}{v w:V}{j:aC}{Q:VK}(I:Inv X pins σ H s)(o:X.A.units+64<cLine)(f:aL D φ α H μ)(d:aZ D φ α H x v)(e:aZ D φ α H y w)(i:RelV v u)(g:RelV w j)
  (p:aJ D W φ α H σ (RV D φ Q) (Qp op x y μ)):wpAny (aQ X.prog X.w) X.A (d5 op u j) (EP X pins σ Q) X.xe s:=by
 unfold Qp at p;split at p
 ·refine Gg (b:=aB) I o f d e p (λb q h=>?_) (λb q h=>?_)
  ·obtain⟨l,k⟩:=h;exact Mu pins s σ H v w u j Q I i g ⟨l,by rw[k];exact aJ.here q f rfl⟩
  ·exact h.1 _ _ i g ⟨.bl b,H,I,rfl,aJ.here q f rfl⟩
 ·refine Gg (b:=aD) I o f d e p (λb q h=>?_) (λb q h=>?_)
  ·obtain⟨l,k⟩:=h;exact IJ pins s σ H v w u j Q I i g ⟨l,by rw[k];exact aJ.here q f rfl⟩
  ·exact h.2 _ _ i g ⟨.bl (!b),H,I,rfl,aJ.here q f rfl⟩
 ·unfold GZ at p;split at p
  ·cases d;cases e;exact IG pins s σ H _ _ u j Q I i g ⟨_,_,rfl,rfl,aJ.here p f rfl⟩
  ·obtain⟨r,E,p⟩:=p.som;obtain⟨t,C,p⟩:=p.som;obtain⟨a,G,rfl,_,_,n,B⟩:=d;obtain⟨c,F,rfl,_,_,m,z⟩:=e;rw[qV E B] at n;rw[qV C z] at m;exact On (by omega) pins s σ H _ _ u j Q I i g ⟨a,c,r,t,rfl,rfl,.inl n,.inl m,aJ.here p f rfl⟩
  ·have d:v=.str _:=d;have e:w=.str _:=e;subst d e;obtain⟨K,rfl⟩:=i;obtain⟨J,rfl⟩:=g;exact PySem.P.lt_str ⟨.bl _,H,I,rfl,aJ.here p f rfl⟩
  ·exact p.elim
 ·split at p
  ·cases d;cases e;exact LU pins s σ H _ _ u j Q I i g ⟨_,_,rfl,rfl,p.here f rfl⟩
  ·exact p.elim
 ·split at p
  ·cases d;cases e;exact L_ pins s σ H _ _ u j Q I i g ⟨_,_,rfl,rfl,p.here f rfl⟩
  ·exact p.elim
 ·split at p
  ·cases d;cases e;exact Lz pins s σ H _ _ u j Q I i g ⟨_,_,rfl,rfl,p.here f rfl⟩
  ·exact p.elim
 ·split at p
  ·cases e;refine MH pins s σ H _ _ u j Q I i g ⟨rfl,?_⟩;have q:=p.here f rfl
   cases x<;>first
    |(have d:v=_:=d;subst d;simpa using q)
    |(obtain⟨_,_,rfl,_⟩:=d;simpa using q)
    |(obtain⟨_,_,_,_,rfl,_⟩:=d;simpa using q)
    |(obtain⟨_,_,rfl⟩:=d;simpa using q)
    |(obtain⟨_,_,_,rfl,_⟩:=d;simpa using q)
  ·split at p
   ·have d:v=.bl _:=d;have e:w=.bl _:=e;subst d e;exact N_ pins s σ H _ _ u j Q I i g ⟨_,_,rfl,rfl,p.here f rfl⟩
   ·exact p.elim
  ·exact p.elim
 ·split at p
  ·cases e;refine OU pins s σ H _ _ u j Q I i g ⟨rfl,?_⟩;have q:=p.here f rfl
   cases x<;>first
    |(have d:v=_:=d;subst d;simpa using q)
    |(obtain⟨_,_,rfl,_⟩:=d;simpa using q)
    |(obtain⟨_,_,_,_,rfl,_⟩:=d;simpa using q)
    |(obtain⟨_,_,rfl⟩:=d;simpa using q)
    |(obtain⟨_,_,_,rfl,_⟩:=d;simpa using q)
  ·split at p
   ·have d:v=.bl _:=d;have e:w=.bl _:=e;subst d e;exact R1 pins s σ H _ _ u j Q I i g ⟨_,_,rfl,rfl,p.here f rfl⟩
   ·exact p.elim
  ·exact p.elim
 ·split at p
  ·have d:v=.str _:=d;have e:w=.str _:=e;subst d e;exact YX pins s σ H _ _ u j Q I i g ⟨_,_,rfl,rfl,p.here f rfl⟩
  ·exact p.elim
 ·split at p
  ·have d:v=.str _:=d;have e:w=.str _:=e;subst d e;exact WJ pins s σ H _ _ u j Q I i g ⟨_,_,rfl,rfl,p.here f rfl⟩
  ·exact p.elim
noncomputable def qb:aI->Bool
 |.Name _ _=>aB
 |.Constant _ _ _=>aB
 |.BinOp _ _ _ _=>aB
 |.UnaryOp _ _ _=>aB
 |.Call _ _ _ _=>aB
 |.Subscript _ _ _=>aB
 |.Attribute _ _ _=>aB
 |_=>aD
noncomputable def vj:aI->Bool
 |.Set _ _ _=>aD
 |_=>aB
noncomputable def xE:eQ->Bool
 |.In=>aD|.NotIn=>aD
 |_=>aB
noncomputable def vx(op:eQ)(b:aI):Bool:=xE op || vj b
noncomputable def kH:eQ->Bool
 |.Lt=>aB|.LtE=>aB|.Gt=>aB|.GtE=>aB|.Eq=>aB|.NotEq=>aB
 |_=>aD
theorem jN(h:vx op b=aB):sj op b=aD:=by
 cases a:xE op with
 |true=>exact Ge b (by rintro rfl;simp[xE] at a) (by rintro rfl;simp[xE] at a)
 |false=>
  have c:vj b=aB:=by unfold vx at h;rw[a] at h;exact h
  cases b<;>first|rfl|(simp[vj] at c)
theorem MG(C:Ck D W Γ X k)(ho:vx op b=aB)(B:PE X a (aX D W f))(A:PE X b (aX D W g)):PE X (.Compare a [op] [b] pos) (aX D W (zx op f g)):=by
 rintro i s M H Q I ⟨K,O,L,N,r,z,p⟩;refine sH (aY (sub B I r z p) ?_) (jN ho);rintro u U ⟨v,Y,t,l,n,J,x,o,d,h,F,p1⟩;refine aY (sub A J d h p1) ?_;rintro R T ⟨P,V,S,j,m,G,w,c,q,e,E,y⟩;exact Wz G C.unt e (F.step c) E x w y
theorem ua{R:β->aK->List aF->Hp->Prop}{kk:T->aK->RE β}{x y:T}{v w:V}{c:aC}(I:Inv X pins σ H s)(h:X.A.units+64<cLine)(g:aL D φ α H μ)(k:aZ D φ α H x v)(i:aZ D φ α H y w)(f:RelV v c)(e:RelV w C)
  (p:aJ D W φ α H σ R ((Qp op x y μ).bind kk)):wpAny (aQ X.prog X.w) X.A (d5 op c C) (EP X pins σ λz B=>∃t u j,aO α H j B/\aL D φ j B u/\aZ D φ j B t z/\aJ D W φ j B σ R (kk t u)) X.xe s:=
 Wz I h g k i f e (p.bind.mono λt a b l st m q v d=>⟨t,a,b,st,m,d,q⟩)
theorem j0:∀{ops:List eQ}{es:List aI},ops.all kH=aB->lastMarks ops es=aD
 |[],es,_=>by cases es<;>rfl
 |[op],[],_=>rfl
 |[op],[e],h=>Ge e (by rintro rfl;simp[kH] at h) (by rintro rfl;simp[kH] at h)
 |[op],_::_::_,_=>rfl
 |op::a::ops,[],_=>rfl
 |op::a::ops,e::es,h=>by
  have:lastMarks (a::ops) es=aD:=j0 (by simp only[iQ,cH] at h ⊢;exact h.2);cases es with
  |nil=>cases ops<;>rfl
  |cons b es=>exact this
noncomputable def YQ (X:Cx)(D:DP)(W:XW):List aI->List (eQ×De)->Prop
 |[],[]=>True
 |e::es,p::a=>PE X e (aX D W p.2)/\YQ X D W es a
 |_,_=>False
theorem Vs(B:X.A.units+64<cLine){Q:VK}:∀{ps:List (eQ×De)}{es:List aI}{s:a_}{H:Hp}{α:List aF}{μ:aK}{x:T}{v:V}{u:aC},YQ X D W es ps->Inv X pins σ H s->bA D φ α H τ σ->aL D φ α H μ->aZ D φ α H x v->RelV v u->aJ D W φ α H σ (RV D φ Q) (nU ps x τ μ)->
  wpAny (aQ X.prog X.w) X.A (compareChain pos u (ps.map (·.1)) (evalEach es X.env)) (EP X pins σ Q) X.xe s
 |[],_,_,_,_,_,_,_,_,_,_,_,_,_,_,p=>p.elim
 |[(op,g)],[],_,_,_,_,_,_,_,h,_,_,_,_,_,_=>h.elim
 |[(op,g)],[e],s,H,α,μ,x,v,u,h,I,o,y,d,r,p=>by
  refine chain_last (aY (sub h.1 I o y p) ?_);rintro K M ⟨J,Y,L,m,n,C,k,b,i,c,l,q⟩;exact Wz C B c (d.step b) l r k q
 |[(op,g)],_::_::_,_,_,_,_,_,_,_,h,_,_,_,_,_,_=>h.2.elim
 |(op,g)::O::ps,[],_,_,_,_,_,_,_,h,_,_,_,_,_,_=>h.elim
 |(op,g)::O::ps,[e],_,_,_,_,_,_,_,h,_,_,_,_,_,_=>h.2.elim
 |(op,g)::(t,P)::ps,e::R::es,s,H,α,μ,x,v,u,h,I,o,y,d,r,p=>by
  refine chain_link (aY (sub h.1 I o y p) ?_);rintro K M ⟨J,Y,L,m,n,C,k,b,i,c,l,q⟩;refine aY (ua C B c (d.step b) l r k q) ?_;rintro dd s3 ⟨z,U,E,N,Z,F,G,f,j,S,a⟩;try dsimp only at a
  split at a
  ·cases S;cases N;rcases a.br with⟨rfl,a⟩|⟨rfl,a⟩
   ·exact wpAny_truthy_bool (ite_tt (Vs B (ps:=(t,P)::ps) (es:=R::es) h.2 E (i.step f) j (l.step f) k a))
   ·exact wpAny_truthy_bool (ite_ff ⟨.bl aD,U,E,rfl,a.here j rfl⟩)
  ·exact a.elim
theorem SM(C:Ck D W Γ X k)(ho:(p1::d::ps).all (λp=>kH p.1)=aB)(o:PE X a (aX D W f))(h:YQ X D W (q::w::es) (p1::d::ps)):PE X (.Compare a (p1.1::d.1::ps.map (·.1)) (q::w::es) pos) (aX D W (iC f (p1::d::ps))):=by
 rintro e s A H Q I ⟨y,E,z,B,l,n,p⟩;refine Compare_chain (aY (sub o I l n p) ?_) (j0 (by simpa[ml,sV] using ho));rintro u F ⟨v,G,t,g,i,x,m,j,b,c,r,p1⟩;exact Vs C.unt h x b c r m p1
theorem XT(O:X.A.units+64<cLine){β:Type}{R:β->aK->List aF->Hp->Prop}{kk:Bool->aK->RE β}:∀{ps:List (eQ×De)}{es:List aI}{s:a_}{H:Hp}{α:List aF}{μ:aK}{x:T}{v:V}{u:aC}{Q:Bool->Hp->Prop},YQ X D W es ps->Inv X pins σ H s->bA D φ α H τ σ->aL D φ α H μ->aZ D φ α H x v->RelV v u->aJ D W φ α H σ (λb _ _ j=>Q b j) ((nU ps x τ μ).bind xf)->
  wpAny (aQ X.prog X.w) X.A (testChain pos u (ps.map (·.1)) (evalEach es X.env)) (TP X pins σ Q) X.xe s
 |[],_,_,_,_,_,_,_,_,_,_,_,_,_,_,_,p=>aJ.elim p
 |[(op,g)],[],_,_,_,_,_,_,_,_,h,_,_,_,_,_,_=>h.elim
 |[(op,g)],[e],s,H,α,μ,x,v,u,Q,h,I,K,N,d,r,p=>by
  have p:aJ D W φ α H σ (λb _ _ j=>Q b j) ((g τ μ).bind λy i=>(Qp op x y i).bind xf):=p;refine test_last (aY (sub h.1 I K N p) ?_);rintro Z s2 ⟨Y,H2,t',c,J,S,E,n,t,o,F,M⟩;refine aY (ua S O o (d.step n) F r E M) ?_;rintro dd s3 ⟨z,C,G,L,t3,q,l,m,f,P,a⟩;unfold xf at a;split at a
  ·cases P;cases L;exact wpAny_truthy_bool ⟨C,G,a.ok (aO.refl _ _) f⟩
  ·exact a.elim
 |[(op,g)],_::_::_,_,_,_,_,_,_,_,_,h,_,_,_,_,_,_=>h.2.elim
 |(op,g)::p'::ps,[],_,_,_,_,_,_,_,_,h,_,_,_,_,_,_=>h.elim
 |(op,g)::p'::ps,[e],_,_,_,_,_,_,_,_,h,_,_,_,_,_,_=>h.2.elim
 |(op,g)::(B,U)::ps,e::e'::es,s,H,α,μ,x,v,u,Q,h,I,K,N,d,r,p=>by
  have p:aJ D W φ α H σ (λb _ _ j=>Q b j) ((g τ μ).bind λy i=>(Qp op x y i).bind λk c=>(match k with|.bl b=>RE.br b (nU ((B,U)::ps) y τ c) (.ok (.bl aD) c)|_=>RE.st:RE T).bind xf):=p;refine test_link (aY (sub h.1 I K N p) ?_);rintro Z s2 ⟨Y,H2,t',c,J,S,E,n,t,o,F,M⟩;refine aY (ua S O o (d.step n) F r E M) ?_;rintro dd s3 ⟨z,C,G,L,t3,q,l,m,f,P,a⟩;try dsimp only at a
  split at a
  ·rename_i bb;cases P;cases L;cases bb with
   |true=>exact wpAny_truthy_bool (ite_tt (XT O (kk:=kk) (R:=R) (ps:=(B,U)::ps) (es:=e'::es) h.2 G (t.step m) f (F.step m) E a))
   |false=>
    have a:aJ D W φ l C σ (λb _ _ j=>Q b j) (RE.ok aD q):=a;exact wpAny_truthy_bool (ite_ff ⟨C,G,a.ok (aO.refl _ _) f⟩)
  ·have a:aJ D W φ l C σ (λb _ _ j=>Q b j) RE.st:=a;exact a.elim
end
section
variable {X:Cx}{D:DP}{W:XW}{Γ:Cn}{k:Nat}{pins:List (aF×bD)}{s:Shared}{σ:St}{H:Hp}{φ α:List aF}{τ:Sl}{μ:aK}{f g h:De}{ft gt:Dt}{a b c:aI}{pos:Pos}
theorem XJ(m:PE X a (aX D W f))(he:∀d,isTrue a X.env d=(do let v ←d;standAt a.pos;lK [v] (truthy v))):PT X a (eJ D W (tE f)):=by
 rintro c s x H Q I ⟨r,z,w,y,j,l,p⟩;rw[he];refine wpAny_bind (aY (sub m I j l p) ?_);rintro u A ⟨v,q,t,e,g,o,k,h,i,b,n,p1⟩;unfold xf at p1;split at p1
 ·cases n;cases k;exact wpAny_bind (lQ (wpAny_holding (wpAny_truthy_bool ⟨q,o,p1.ok (aO.refl _ _) b⟩)))
 ·exact p1.elim
theorem Kh(C:Ck D W Γ X k)(ho:vx op b=aB)(V:PE X a (aX D W f))(U:PE X b (aX D W g)):PT X (.Compare a [op] [b] pos) (eJ D W (tE (zx op f g))):=by
 rintro q s w H Q I ⟨r,J,o,B,N,T,p⟩;have p:aJ D W r J H w (λb _ _ H'=>Q b H') ((f o B).bind λx e=>(g o e).bind λy c=>(Qp op x y c).bind xf):=p;refine s_ (aY (sub V I N T p) ?_) (jN ho);rintro u s1 ⟨v,H1,t,e,G,I1,R,L,j,n,d1,p1⟩;refine aY (sub U I1 j n p1) ?_;rintro u' s2 ⟨v',H2,t',c,F,I2,P,i,M,m,Z,S⟩;refine aY (ua I2 C.unt m (d1.step i) Z R P S) ?_;rintro d s3 ⟨z,H3,I3,O,t3,A,E,K,l,Y,h⟩;unfold xf at h;split at h
 ·cases Y;cases O;exact wpAny_truthy_bool ⟨H3,I3,h.ok (aO.refl _ _) l⟩
 ·exact h.elim
theorem VD(C:Ck D W Γ X k)(ho:(p1::d::ps).all (λp=>kH p.1)=aB)(A:PE X a (aX D W f))(h:YQ X D W (E::B::es) (p1::d::ps)):PT X (.Compare a (p1.1::d.1::ps.map (·.1)) (E::B::es) pos) (eJ D W (tE (iC f (p1::d::ps)))):=by
 rintro j s m H Q I ⟨l,q,i,n,w,z,p⟩;have p:aJ D W l q H m (λb _ _ J=>Q b J) ((f i n).bind λx c=>(nU (p1::d::ps) x i c).bind xf):=p;refine isTrue_chain (aY (sub A I w z p) ?_) (j0 (by simpa[ml,sV] using ho));rintro u K ⟨v,L,t,c,o,G,y,r,e,g,F,p1⟩;exact XT (kk:=λ_ _=>RE.st (β:=Bool)) (R:=λ_ _ _ _=>True) C.unt h G e g F y p1
theorem Om(v:PT X a (eJ D W ft))(u:PW X (.BoolOp .And (b::r) pos) (eJ D W gt)):PW X (.BoolOp .And (a::b::r) pos) (eJ D W (xA ft gt)):=by
 intro d e s k H Q I t;refine M2 v u d e s k H Q I ?_;obtain⟨h,n,i,l,j,o,p⟩:=t;refine⟨h,n,i,l,j,o,p.bind.mono λc f g w st m q=>?_⟩;rcases q.br with⟨rfl,q⟩|⟨rfl,q⟩
 ·exact⟨h,g,i,f,j.step st,m,q⟩
 ·exact q.ok (aO.refl _ _) m
theorem LS(v:PT X a (eJ D W ft))(u:PW X (.BoolOp .Or (b::r) pos) (eJ D W gt)):PW X (.BoolOp .Or (a::b::r) pos) (eJ D W (fx ft gt)):=by
 intro d e s k H Q I t;refine LD v u d e s k H Q I ?_;obtain⟨h,n,i,l,j,o,p⟩:=t;refine⟨h,n,i,l,j,o,p.bind.mono λc f g w st m q=>?_⟩;rcases q.br with⟨rfl,q⟩|⟨rfl,q⟩
 ·exact q.ok (aO.refl _ _) m
 ·exact⟨h,g,i,f,j.step st,m,q⟩
theorem No(o:PT X a (eJ D W ft)):PT X (.UnaryOp .Not a pos) (eJ D W (qc ft)):=by
 intro b s f H Q I n;refine NG o b s f H Q I ?_;obtain⟨d,j,e,h,k,l,p⟩:=n;exact⟨d,j,e,h,k,l,p.bind.mono λc g i r st m q=>q.ok (aO.refl _ _) m⟩
theorem L9(w:PT X c (eJ D W ft))(y:PE X a (aX D W f))(x:PE X b (aX D W g)):PE X (.IfExp c a b pos) (aX D W (n9 ft f g)):=by
 rintro e s n H Q I ⟨l,A,m,z,u,v,p⟩;refine wpAny_IfExp (aY (E8 w I u v p) ?_);rintro d o ⟨r,h,i,q,t,j,k,p1⟩;rcases p1.br with⟨rfl,p1⟩|⟨rfl,p1⟩
 ·exact y e o n r Q q ⟨l,i,m,h,j,k,p1⟩
 ·exact x e o n r Q q ⟨l,i,m,h,j,k,p1⟩
noncomputable def qz:aI->Bool
 |.Name _ _=>aB
 |.Attribute _ _ _=>aB
 |.Subscript _ _ _=>aB
 |.Call (.Name x _) _ _ _=>x != ("super":aG)
 |.Call (.Attribute _ _ _) _ _ _=>aB
 |_=>aD
theorem aJ.ex3{β b a c:Type}{R:β->aK->List aF->Hp->Prop}{P:b->a->Prop}{d:b->a->c->Prop}{r:b->a->c->RE β}(p:aJ D W φ α H σ R (λK Z=>∃x y z,P x y/\d x y z/\r x y z K Z)):∃x y z,P x y/\d x y z/\aJ D W φ α H σ R (r x y z):=by
 obtain⟨K,Z,⟨x,y,z,h1,h2,q⟩,h⟩:=p;exact⟨x,y,z,h1,h2,K,Z,q,h⟩
theorem aJ.ex2{β a b:Type}{R:β->aK->List aF->Hp->Prop}{P:a->Prop}{c:a->b->Prop}{r:a->b->RE β}(p:aJ D W φ α H σ R (λK Z=>∃x y,P x/\c x y/\r x y K Z)):∃x y,P x/\c x y/\aJ D W φ α H σ R (r x y):=by
 obtain⟨K,Z,⟨x,y,h1,h2,q⟩,h⟩:=p;exact⟨x,y,h1,h2,K,Z,q,h⟩
theorem ja(h:qb b=aB):P5 b:=by
 intro o i;cases b<;>first|(simp[qb] at h;done)|rfl
theorem Zt(l:aN D φ α H ts xs)(h:vq ts i=aA t):∃v,l_ xs i=aA v/\aZ D φ α H t v:=by
 unfold vq at h;have e:n7 xs.length i=UY ts.length i:=by rw[l.length];rfl
 unfold l_;rw[e];cases q:UY ts.length i with
 |none=>rw[q] at h;cases h
 |some j=>
  rw[q] at h;exact l.get h
theorem LL(i:qb b=aB)(hK:X.K=D.K)(Y:PE X a (aX D W f))(V:PE X b (aX D W g)):PE X (.Subscript a b pos) (aX D W (bC f g)):=by
 rintro e s n H Q I ⟨φ,α,τ,μ,P,R,p⟩;refine Subscript_ (aY (sub Y I P R p) ?_);rintro u s1 ⟨v,H1,t,J,M,I1,x,N,C,E,j,p1⟩;refine aY (sub V I1 C E p1) ?_;rintro u' o ⟨v',A,t',G,L,y,q,B,O,h,d2,d⟩;have j:=j.step B;unfold F_ at d;split at d
 ·cases d2;split at d
  ·obtain⟨w,hw,d⟩:=d.som;obtain⟨ad,k,rfl,_,_,r,l⟩:=j;obtain⟨z,m,dz⟩:=Zt l hw;exact X_ a b e o n A _ _ _ _ Q y x q ⟨ad,k,_,z,rfl,rfl,.inl r,m,d.here h dz⟩ (ja i _ _)
  ·obtain⟨w,hw,d⟩:=d.som;obtain⟨ad,k,rfl,_,_,r,l⟩:=j;obtain⟨z,m,dz⟩:=Zt l hw;exact NR a b e o n A _ _ _ _ Q y x q ⟨ad,k,_,z,rfl,rfl,.inl r,m,d.here h dz⟩ (ja i _ _)
  ·obtain⟨ts,w,T,hw,d⟩:=d.ex2;obtain⟨ad,F,rfl⟩:=j;obtain⟨k,Z,l⟩:=h.ob _ ad _ F T;obtain⟨z,m,dz⟩:=Zt l hw;exact X_ a b e o n A _ _ _ _ Q y x q ⟨ad,k,_,z,rfl,rfl,.inl (.inl Z),m,aJ.here d h dz⟩ (ja i _ _)
  ·obtain⟨S,d⟩:=d.grd;obtain⟨c,U,d⟩:=d.som;have j:v=.str _:=j;subst j;exact MB a b e o n A _ _ _ _ Q y x q ⟨_,_,c,rfl,rfl,zv S,U,d.here h rfl⟩ (ja i _ _)
  ·exact d.elim
 ·exact d.elim
noncomputable def aP:aI->Bool
 |.Starred _ _=>aD
 |_=>aB
theorem z4(h:aP e=aB):d_ (e::es) env=(aD,eval e env)::d_ es env:=by
 cases e<;>first|(simp[aP] at h;done)|rfl
theorem qO(h:es.all aP=aB):(fL pos (d_ es env)).any (·.1)=aD:=by
 induction es with
 |nil=>rfl
 |cons e es a=>
  simp only[iQ,cH] at h;rw[z4 h.1];have:=a h.2
  first
   |(simp[fL] at this ⊢;exact this)
   |(simpa[fL] using this)
theorem N6:PA X [] (n4 D W 0 (gh [])):=by
 rintro b a s c H Q I ⟨e,h,f,g,i,d,p⟩;exact qp b a s c H Q I (aJ.ok p (aO.refl _ _) d [] rfl rfl)
theorem PZ(hs:aP e=aB)(G:PE X e (aX D W f))(C:PA X es (n4 D W n (gh fs))):PA X (e::es) (n4 D W (n+1) (gh (f::fs))):=by
 intro k c s l H Q I E;refine zD G C (z4 hs) k c s l H Q I ?_;obtain⟨h,r,g,o,w,A,p⟩:=E;have p:aJ D W h r H l _ ((f g o).bind λt a=>(gh fs g a).bind λu b=>.ok (t::u) b):=p;refine⟨h,r,g,o,w,A,p.bind.mono λt a i K st m q v d=>?_⟩;refine⟨h,i,g,a,w.step st,m,q.bind.mono λu b x J j B z y dl F=>?_⟩;exact z.ok (aO.refl _ _) B _ ⟨v,y,rfl,d.step j,dl⟩ (by simp[F])
noncomputable def dT (X:Cx)(D:DP)(W:XW):List aI->List De->Prop
 |[],[]=>True
 |e::es,f::fs=>aP e=aB/\PE X e (aX D W f)/\dT X D W es fs
 |_,_=>False
theorem vV:∀{es:List aI}{fs:List De},dT X D W es fs->PA X es (n4 D W es.length (gh fs))
 |[],[],_=>N6
 |e::es,f::fs,h=>PZ h.1 h.2.1 (vV h.2.2)
 |[],_::_,h=>h.elim
 |_::_,[],h=>h.elim
theorem dT.stars:∀{es:List aI}{fs:List De},dT X D W es fs->es.all aP=aB
 |[],[],_=>rfl
 |e::es,f::fs,h=>by simp[h.1,dT.stars h.2.2]
 |[],_::_,h=>h.elim
 |_::_,[],h=>h.elim
theorem Oh(n:es.length<=aU)(h:dT X D W es fs):PE X (.List es pos) (aX D W (jg fs)):=by
 refine PE.mono (Gk (vV h)) ?_;rintro o H Q ⟨b,g,c,e,j,k,p⟩;refine⟨b,g,c,e,j,k,p.bind.mono λr d f s st m q i dl l=>⟨by rw[l];exact zv n,λz a=>?_⟩⟩;exact q.fresh m (za a) ⟨z,i,rfl,zm m a,zo m a,.inl z5,dl.step (aO.new (za a))⟩
theorem Ow(n:es.length<=aU)(h:dT X D W es fs):PE X (.Tuple es kk pos) (aX D W (wq fs)):=by
 refine PE.mono (GD (vV h)) ?_;rintro o H Q ⟨b,g,c,e,j,k,p⟩;refine⟨b,g,c,e,j,k,p.bind.mono λr d f s st m q i dl l=>⟨by rw[l];exact zv n,λz a=>?_⟩⟩;exact q.fresh m (za a) ⟨z,i,rfl,zm m a,zo m a,.inl z5,dl.step (aO.new (za a))⟩
end
section
open PySem.W
theorem QX{K:Frag}(X:K.In s.heap)(I:InstAt s.heap x ox D od)
 (f:dO K (.ref D) "__getattribute__"=aA (aA (.builtin "BaseException.__getattribute__"))) (hk:dO K (.ref D) "__getattr__"=aA aE)
 (l:findObj K D od "__class__"=aA (.bind (.builtin "getset_descriptor.__get__") (.builtin "object.__class__"))) (k:gV K D (.type "object")=aA aB) (n:gV K D (.type "BaseException")=aA aB)
 (h:Q (aA (.ref D)) {s with toks:=s.toks+1}):wpAny (aQ prog w) A (getAttr? (.ref x) "__class__") Q E s:=by
 obtain⟨j,g,d,t,os⟩:=s;have b:=I.type (M:=aQ prog w);have u:=looks_findIn (M:=aQ prog w) X f;have L2:=looks_findIn (M:=aQ prog w) X hk;have i:=looks_find (M:=aQ prog w) X I l;have r:=looks_mroIn (M:=aQ prog w) X n;have p:=DS.ga.bind (.ref x);unfold getAttr? getAttrBy? getAttrBy;refine wpAny_bind (wpAny_mkText (wpAny_bind (oP (wpAny_holding (wpAny_bind (b.at (wpAny_bind (u.at ?_))))))));show wpAny _ _ (CB (.ref x) _ (.ref D) (.builtin "BaseException.__getattribute__") aD aD) _ _ _;unfold CB hookBefore;refine wpAny_bind ?_;show wpAny _ _ (rY (.ref D) "__getattr__") _ _ _;refine L2.at ?_;refine wpAny_bind (oP (wpAny_holding ?_));unfold callGetattribute boundAndCalled;show wpAny _ _ (bindSpecial (.builtin "BaseException.__getattribute__") (.ref x) >>= _) _ _ _;rw[p];refine wpAny_bind (wpAny_pure ?_);show wpAny _ _ (call (.builtin "BaseException.__getattribute__") [.ref x,.str "__class__" _]) _ _ _;refine lM (codeAny_call_builtin DS.ga.plain PySem.F.entry_bexc_ga ?_);have e:builtinKind "BaseException.__getattribute__"=aA .slot:=by decide +kernel
 have c:splitId "BaseException.__getattribute__"=aA ("BaseException","__getattribute__"):=by decide +kernel
 have o:=PySem.F.args_bexc_ga (.ref x) (.str "__class__" t);have q:rN (aQ prog w) j (isInstance (.ref x) (.type "BaseException")) aB:=b.andThen r;simp only[checkBuiltinCall,e,c];refine wpAny_bind (q.at ?_);simp only[Bool.not_true,mI,if_false];refine lO (a:=()) o ?_;unfold lJ.«object.__getattribute__»;refine wpAny_bind (m:=slotArgs _ _ _) (wpAny_pure ?_);dsimp only;refine wpAny_bind ?_;show wpAny _ _ (El (.str "__class__" t)) _ _ _
 first
  |exact wpAny_pure (wpAny_bind (b.at (wpAny_bind (i.at ?_))))
  |(refine wpAny_pure (wpAny_bind (b.at (wpAny_bind (i.at ?_)))))
  |(unfold El;refine wpAny_pure (wpAny_bind (b.at (wpAny_bind (i.at ?_)))))
 dsimp only;unfold HM;show wpAny _ _ (lK [Value.builtin "object.__class__"] (call (.builtin "getset_descriptor.__get__") [.builtin "object.__class__",.ref x,.ref D]) >>= ret) _ _ _;refine wpAny_bind (wpAny_holding (lM (class_get (s:=⟨j,g,d,t+1,os⟩) X I k ?_)));refine wpAny_pure ?_;exact handed_on rfl (wpAny_pure h)
theorem ik.fo{K:Frag}(h:ik K C)(od:Option bD):findObj K C od "__class__"=aA (.bind (.builtin "getset_descriptor.__get__") (.builtin "object.__class__")):=by
 have a:=h.cl;obtain⟨cd,e⟩:=pD.mp a;unfold findObj;rw[e,h.fi];simp only[sK];rw[h.sp];simp only[sK];rw[h.tk];rfl
noncomputable def Td (x C:aF)(d:Option aF)(h:aT):Prop:=tJ x C d h/\∀dx,d=aA dx->∃o,h.get? dx=aA o
theorem R6{K:Frag}(b:ik K C):KitX K (.ref x) (.ref C) (Td x C d) where
 ty:=λM h _ p=>by
  obtain⟨⟨j,t,g,f,r,m⟩,_⟩:=p;exact f▸(BZ g).andThen .now
 it:=λM h X _=>by
  have a:=b.cl;unfold oy at a;split at a
  ·rename_i A y s i c;intro G E F D k q;unfold isType loadHead;exact wpAny_bind (wpAny_loadPart (k _ _ (X _ _ c)) (wpAny_pure q))
  ·cases a
 ne:=λh u dd v n B X l=>by
  refine Dv.mpr λq=>?_;have e:C=u:=Value.ref.inj (beq_iff_eq.mp q);subst e;have a:=b.cl;unfold oy at a;split at a
  ·rename_i A y s i c;have z:=(X _ _ c).symm.trans l;cases z
  ·cases a
 ca:=λX p k=>by
  obtain⟨⟨j,t,g,f,r,m⟩,w⟩:=p;cases d with
  |none=>
   refine QX (ox:=j) (od:=aE) X ⟨g,f,?_,?_⟩ b.ga b.hk (b.fo _) b.ob b.bx k
   ·unfold notCls;rw[r]
   ·rw[m];trivial
  |some dx=>
   obtain⟨o,c⟩:=w dx rfl;refine QX (ox:=j) (od:=aA o) X ⟨g,f,?_,?_⟩ b.ga b.hk (b.fo _) b.ob b.bx k
   ·unfold notCls;rw[r]
   ·rw[m];exact c
end
section
variable {X:Cx}{D:DP}{W:XW}{Γ:Cn}{k:Nat}{pins:List (aF×bD)}{s:Shared}{σ:St}{H:Hp}{φ α:List aF}{τ:Sl}{μ:aK}{f g h:De}{a b c:aI}{pos:Pos}{es:List aI}{fs:List De}
theorem qK{f:aG}(h:qz e=aB):mE e f env (eval e env)=eval e env:=by
 cases e with
 |Call g args a p=>
  cases g with
  |Name x c=>
   have b:(x != ("super":aG))=aB:=h;cases args<;>cases a<;>first|rfl|(unfold mE;simp[b])
  |Attribute _ _ _=>rfl
  |_=>exact absurd (show aD=aB from h) fB
 |_=>first|exact absurd (show aD=aB from h) fB|rfl
theorem bW.ext{fs:List (Nat×T)}(x:bW D φ α H fs d)(I:Inv X pins σ H s):∀dx,d=aA dx->∃o,s.heap.get? dx=aA o:=λdx e=>by
 subst e;obtain⟨gs,_,_,e,_⟩:=x;exact Qx (I.hok dx _ e)
noncomputable def n0 (D:DP)(W:XW)(f:Dp):TO:=λσ H Q=>mT D H σ λφ α τ μ=>aJ D W φ α H σ (λo _ _ a=>Q o a) (f τ μ)
theorem PQ:PO X aE (n0 D W pN):=by
 rintro a s b H Q I ⟨d,g,e,f,h,c,p⟩;exact O7 a s b H Q I (aJ.ok p (aO.refl _ _) c)
theorem OV(h:PE X a (aX D W f)):PO X (aA a) (n0 D W (pS f)):=by
 rintro b s g H Q I ⟨c,l,e,j,n,o,p⟩;refine P2 h b s g H Q I ⟨c,l,e,j,n,o,p.bind.mono λt i k r st m q v d=>?_⟩;split at q
 ·cases d;exact⟨_,rfl,q.ok (aO.refl _ _) m⟩
 ·exact q.elim
theorem xi(l:aN D φ α H ts xs)(lo hi:Option Int):aN D φ α H (Kz ts lo hi) (Qa xs lo hi):=by
 have e:ts.length=xs.length:=l.length;have a:∀n d o,nW n d o=HT.sIx n d o:=λn d o=>by cases o<;>rfl
 unfold Kz Qa;rw[a,a,e];exact (l.drop _).take _
theorem kW{lo:Option Int}(a:hV s.heap t items)(hs:s.heap.IsSliceOf j B u .none)(f:ir B lo)(e:ir u hi)
  (hw:HT.sIx items.size 0 lo=0/\HT.sIx items.size items.size hi=items.size) (h:Q (.ref t) s):wpAny (aQ prog w) A (hX (.ref t) (.ref j)) Q E s:=by
 obtain⟨os,b,c,g⟩:=id hs;have d:s.TypeIs (.ref j) "slice":=⟨os,b,c⟩;unfold hX;try with_reducible refine wpAny_holding ?_
 first|refine wpAny_bind (wpAny_pure ?_)|skip
 refine wpAny_bind (Dx a.typeIs (by decide) ?_);refine wpAny_bind (DU (name:=gA "__getitem__") a.typeIs lU (CY lU a.typeIs Do ?_ (Dc _ _)));show wpAny _ _ (Ef (.ref t) >>= _) _ _ s;refine wpAny_bind (tupleItemsOf_ a ?_);refine wpAny_bind (sx d ?_);rw[if_pos (by decide)];refine wpAny_bind (HT.sliceApplied_gen hs f e ?_);show wpAny _ _ (if (((HT.sIx items.size 0 lo:Nat):Int)==0&&(1:Int)==1&&(HT.sIx items.size items.size hi-HT.sIx items.size 0 lo)==items.size)=aB then _ else _) _ _ s;rw[if_pos (by rw[hw.1,hw.2];simp)];refine wpAny_bind ?_;unfold Ic;refine wpAny_bind (sx a.typeIs (wpAny_pure ?_));rw[if_pos (by decide)]
 first
  |exact wpAny_bind (mu (wpAny_pure ⟨_,rfl,wpAny_pure h⟩))
  |exact wpAny_bind (mu (wpAny_bind (wpAny_pure (wpAny_pure ⟨_,rfl,wpAny_pure h⟩))))
theorem OX:iX X (λx lo hi H Q=>∃a xs,x=.ref a/\fO X.K H a xs/\(HT.sIx xs.length 0 lo=0/\HT.sIx xs.length xs.length hi=xs.length)/\Q (.ref a) H):=by
 intro d s l H x v n m lo hi o Q I f k i g h;obtain⟨a,xs,rfl,j,hw,q⟩:=h;cases f;obtain⟨c,r,e,p⟩:=I.tuple j;have b:c.toArray.size=xs.length:=by rw[dA];exact r.length.symm
 exact⟨"tuple",_,lU.lookup,e.typeIs,kW e k i g (by rw[b];exact hw) ⟨.ref a,H,I,rfl,q⟩⟩
theorem MV:iX X (λx lo hi H Q=>∃z,x=.str z/\z.length<=sizeLine/\Q (.str (Txt.slice z lo hi)) H):=by
 intro a s c H x v e d lo hi m Q I n y p b h;obtain⟨z,rfl,r,q⟩:=h;obtain⟨f,rfl⟩:=n;refine⟨"str",_,F.slot_str_getitem.lookup,rW _ _ _,?_⟩;obtain⟨o,D,C,B⟩:=y;have fin:∀(l u:Option (Int×Tok)),e=partValue l->d=partValue u->lo=l.map (·.1)->hi=u.map (·.1)->wpAny (aQ X.prog X.w) X.A (hX (.str z f) (.ref m)) (EP X a c Q) X.xe s:=by
  rintro l u rfl rfl rfl rfl;exact wpAny_getItem_str_slice (l:=l) (u:=u) (st:=aE) ⟨o,D,C,B⟩ rfl (post_val_or_str ⟨cT (Txt.slice_le z _ _) r,λg k=>⟨.str _,H,I.tok _,⟨g,rfl⟩,q⟩⟩)
 cases p with
 |none=>
  cases b with
  |none=>exact fin aE aE rfl rfl rfl rfl
  |int j u=>exact fin aE (aA (j,u)) rfl rfl rfl rfl
 |int i t=>
  cases b with
  |none=>exact fin (aA (i,t)) aE rfl rfl rfl rfl
  |int j u=>exact fin (aA (i,t)) (aA (j,u)) rfl rfl rfl rfl
theorem Si{lo:Option aI}(P:PE X a (aX D W f))(N:PO X lo (n0 D W fo))(M:PO X hi (n0 D W go)):PE X (.Subscript a (.Slice lo hi aE U) pos) (aX D W (BF f fo go)):=by
 refine PE.mono (Su (P9.or (Nr.or (OX.or MV))) P N M) ?_;rintro S H Q ⟨k,F,n,C,y,K,p⟩;refine⟨k,F,n,C,y,K,p.bind.mono λt s x Z st m q v d=>?_⟩;refine⟨k,x,n,s,y.step st,m,q.bind.mono λl o w Y i L G=>?_⟩;refine⟨k,w,n,o,(y.step st).step i,L,G.bind.mono λu B E V j h g=>?_⟩;unfold Ft at g;split at g
 ·obtain⟨ad,c,rfl,_,_,r,dl⟩:=(d.step i).step j;refine .inl ⟨ad,c,rfl,.inl r,λz b=>?_⟩;exact g.fresh h (za b) ⟨z,_,rfl,zm h b,zo h b,.inl z5,xi (dl.step (aO.new (za b))) _ _⟩
 ·obtain⟨ad,c,rfl,J,I,r,dl⟩:=(d.step i).step j;by_cases hw:HT.sIx c.length 0 l=0/\HT.sIx c.length c.length u=c.length
  ·refine .inr (.inr (.inl ⟨ad,c,rfl,.inl r,hw,?_⟩));have e:Qa c l u=c:=by unfold Qa;rw[hw.1,hw.2];simp
   have dd:=xi dl l u;rw[e] at dd;exact g.here h ⟨ad,c,rfl,J,I,r,dd⟩
  ·refine .inr (.inl ⟨ad,c,rfl,.inl r,hw,λz b=>?_⟩);exact g.fresh h (za b) ⟨z,_,rfl,zm h b,zo h b,.inl z5,xi (dl.step (aO.new (za b))) _ _⟩
 ·obtain⟨b,g⟩:=g.grd;have d:v=.str _:=d;subst d;exact .inr (.inr (.inr ⟨_,rfl,zv b,g.here h rfl⟩))
 ·obtain⟨T,O,g⟩:=g.ex1;obtain⟨ad,A,rfl⟩:=(d.step i).step j;obtain⟨c,R,dl⟩:=h.ob _ ad _ A O;refine .inl ⟨ad,c,rfl,.inl (.inl R),λz b=>?_⟩;exact aJ.fresh g h (za b) ⟨z,_,rfl,zm h b,zo h b,.inl z5,xi (dl.step (aO.new (za b))) _ _⟩
 ·exact g.elim
theorem um{g:Fn}{fa:aF}{kk:Nat}{Q:VK}(C:Ck D W Γ X k)(F:bY X.prog X.w X.K X.mg X.base (dG X.prog X.w) kk fa fd ps (eU D ps.length g))
  (o:cB kk X.A) (t:Binds X.K fd ps []) (h:∀ts μ K Z,g ts μ K Z->ts.length=ps.length) (I:Inv X pins σ H s) (r:aV vs us) (m:aL D φ α H μ) (d:aN D φ α H ts vs) (p:aJ D W φ α H σ (RV D φ Q) (g ts μ)) :
  wpAny (aQ X.prog X.w) X.A (call (.ref fa) us) (EP X pins σ Q) X.xe s:=by
 obtain⟨K,Z,q,a,n⟩:=p;have i:ts.length=ps.length:=h ts μ K Z q;have j:eU D ps.length g vs H Q (λc d b=>W c d σ b):=⟨by rw[←d.length];exact i,φ,α,ts,μ,d,m,K,Z,q,a,n⟩;have f:us.length=ps.length:=by rw[←r.length,←d.length];exact i
 refine lM (le (F.run X.A X.stack s H ⟨us,[]⟩ us vs Q (λc d b=>W c d σ b) o I.env0 (by simpa using t s us I.kIn (by simpa using f)) r j) λr l a=>?_);cases r with
 |error e=>exact C.xe e l (uf (E:=λc d b=>W c d σ b) I a λcls d b w=>w)
 |ok fl=>
  cases fl with
  |ret u=>exact I.after a
  |next=>exact eT a
  |brk=>exact eT a
  |cont=>exact eT a
theorem Pp(C:Ck D W Γ X k){g:Fn}(c:x∈Γ.G)(E:Γ.gl x=.fn g)(F:Γ.calm=aB)(i:dT X D W es fs):PE X (.Call (.Name x p0) es [] pos) (aX D W (z6 g fs)):=by
 have q:=C.glo x c;rw[E] at q;obtain⟨fa,B,fd,T,U,n,o,h,Fn,a⟩:=q;have m:=(C.rom F).mono h;have d:=i.stars;have A:=vV i;rintro j s M H Q I ⟨K,O,L,N,y,l,p⟩;refine gY (vT I (C.glb x c) B ?_ (C.dbG x c));cases es with
 |nil=>
  cases fs with
  |nil=>exact pB I.kIn n (um (ts:=[]) C Fn m o a I .nil l rfl p)
  |cons f fs=>exact i.elim
 |cons e es=>
  simp only[iQ,cH] at d;refine pj (h₀:=X.base) I.ok.mod.kin n (aY (pW A I y l p) ?_) (z4 d.1) (qO d.2);rintro R S ⟨P,V,ts,t,u,r,z,v,w,b,J,_,p1⟩;exact⟨r.kIn,um C Fn m o a r z b J p1⟩
theorem ie{c:Nat}{g:Fn}{C0 fI:aF}{kk:Nat}{Q:VK}(C:Ck D W Γ X k)(ad:D.cad c=aA C0)(M:Mk X.K C0 fI)(F:bY X.prog X.w X.K X.mg X.base (dG X.prog X.w) kk fI fd ps (eU D ps.length g))
  (hr:cB (kk+1) X.A) (hb:Binds X.K fd ps []) (har:∀ts μ K Z,g ts μ K Z->ts.length=ps.length) (I:Inv X pins σ H s) (r:aV vs us) (y:aL D φ α H μ) (d:aN D φ α H ts vs) (p:aJ D W φ α H σ (RV D φ Q) (J9 c g ts μ)) :
  wpAny (aQ X.prog X.w) X.A (call (.ref C0) us) (EP X pins σ Q) X.xe s:=by
 obtain⟨K,Z,⟨hp,hg⟩,hk,hz⟩:=p;have hl:(T.mut 0::ts).length=ps.length:=har _ _ _ _ hg;have hq:∀x dx,H x=aE->H dx=aE->dx≠x->eU D ps.length g (.ref x::(vs++[])) (upd (upd H dx (.own x)) x (.ins C0 dx [])) (λv H2=>v=.non/\Q (.ref x) H2) (λc d G=>W c d σ G):=by
  intro x dx L hdx hne;have R:ko H (upd (upd H dx (.own x)) x (.ins C0 dx [])):=λb o e=>by rw[z9 (zH e L),z9 (zH e hdx)];exact e
  have Y:aO [] H [x] (upd (upd H dx (.own x)) x (.ins C0 dx [])):=⟨⟨[x],rfl,λb h=>by rw[bV.mp h];exact L⟩,λb o _ e=>R b o e,λb e=>by
   cases q:H b with
   |none=>rfl
   |some o=>rw[R b o q] at e;cases e⟩
  have nx:x∉φ++α:=λz=>(cA.mp z).elim (zm y L) (zo y L);have ph:∀b∈φ++α,∃o,H b=aA o/\rl o=aB:=λb h=>(cA.mp h).elim (y.phi b) λz=>by
   obtain⟨i,hi⟩:=lq.mp z;have hl':i<μ.length:=by rw[←y.len];exact (bQ.mp hi).1
   exact (y.ob i b μ[i] hi (by simp[hl'])).some
  refine⟨by simp only[eZ,gC] at hl ⊢;rw[←d.length];exact hl,φ++α,[x],.mut 0::ts,[.obj c []],⟨.ref x,vs++[],rfl,⟨x,rfl,rfl⟩,by rw[gC];exact (aN.hide hp d Rs).step Y⟩,⟨rfl,by simp,λb h=>by rw[bV.mp h];exact nx,λb h=>let ⟨o,e,n⟩:=ph b h;⟨o,R b o e,n⟩,λi a o P e2=>?_⟩,?_⟩
  ·cases i with
   |zero=>simp at P e2;subst P e2;exact⟨C0,dx,[],ad,z5,rfl⟩
   |succ i=>simp at P
  have B:∀{J:List aF}{O:Hp},aO [x] (upd (upd H dx (.own x)) x (.ins C0 dx [])) J O->ko H O:=λst b o e=>st.keep b o (λz=>by rw[bV.mp z,L] at e;cases e) (R b o e);refine⟨_,_,hg,?_,?_⟩
  ·rintro t U ⟨rfl,fs,h0,N,q⟩ J O st m v dv;refine⟨dv,?_⟩;obtain⟨β,rfl,_⟩:=st.ext;obtain⟨C1,dx1,gs,ad1,P,lf⟩:=m.ob 0 x _ rfl h0;have j:=B st;exact hk _ _ q α O (aO.new j) (y.new j) _ ⟨x,C1,dx1,gs,rfl,zm y L,zo y L,ad1,P,bK.hide N lf Jr⟩
  ·rintro e fs U ⟨N,q⟩ J O C1 d1 st m had xd;have j:=B st;exact hz _ _ _ q α O C1 d1 (aO.new j) (y.new j) had (bW.hide N xd Jr)
 have hq1:=hq (s.heap.objs.size+1) s.heap.objs.size (I.hok.fresh (gJ _)) (I.hok.fresh (bH _)) (d6 (iO _));have S:=Inv.made (C:=C0) I;have r2:aV (V.ref (s.heap.objs.size+1)::(vs++[])) (cY (s.heap.objs.size+1)::us):=.cons rfl (by rw[gC];exact r);have hlu:(cY (s.heap.objs.size+1)::us++[]).length=ps.length:=by
  rw[gC,eZ,←r.length,←d.length];exact hl
 refine lM (Jg (f:=fI) I.kIn M.makes M.init (beq_iff_eq.mp M.fn) (le (F.run _ X.stack _ _ ⟨cY (s.heap.objs.size+1)::us,[]⟩ (cY (s.heap.objs.size+1)::us) _ _ (λc d G=>W c d σ G) (hr.make C0 us [])
  (S.env0.make C0 us []) (by simpa using hb _ (cY (s.heap.objs.size+1)::us) S.kIn hlu) r2 hq1) λr s' l=>?_))
 cases r with
 |error e=>exact C.xe e s' (uf (E:=λc d G=>W c d σ G) S l λcls d G w=>w)
 |ok fl=>
  cases fl with
  |ret u=>
   obtain⟨v,G,I3,rv,ev,q3⟩:=S.after l;subst ev;exact⟨rv,⟨V.ref (s.heap.objs.size+1),G,I3,rfl,q3⟩⟩
  |next=>exact eT l
  |brk=>exact eT l
  |cont=>exact eT l
theorem O2(C:Ck D W Γ X k){c:Nat}{g:Fn}(d:x∈Γ.G)(E:Γ.gl x=.mk c aB g)(F:Γ.calm=aB)(j:dT X D W es fs):PE X (.Call (.Name x p0) es [] pos) (aX D W (rA c g fs)):=by
 have q:=C.glo x d;rw[E] at q;obtain⟨C0,Y,fd,U,V,ad,B,M,o,i,Fn,a⟩:=q;have n:=(C.rom F).mono i;have h:=j.stars;have A:=vV j;rintro l s N H Q I ⟨K,P,L,O,y,m,p⟩;refine gY (vT I (C.glb x d) B ?_ (C.dbG x d));cases es with
 |nil=>
  cases fs with
  |nil=>exact pB I.kIn M.kp (ie (ts:=[]) C ad M Fn n o a I .nil m rfl p)
  |cons f fs=>exact j.elim
 |cons e es=>
  simp only[iQ,cH] at h;refine pj (h₀:=X.base) I.ok.mod.kin M.kp (aY (pW A I y m p) ?_) (z4 h.1) (qO h.2);rintro S T ⟨R,Z,ts,t,u,r,z,v,w,b,J,_,p1⟩;exact⟨r.kIn,ie C ad M Fn n o a r z b J p1⟩
theorem NM(C:Ck D W Γ X k)(L:qz a=aB)(u:(x,n)∈Γ.fld)(N:PE X a (aX D W f)):PE X (.Attribute a x pos) (aX D W (zf f n)):=by
 refine PE.mono (NQ N (qK L)) ?_;rintro O H Q ⟨A,I,B,F,J,K,p⟩;refine⟨A,I,B,F,J,K,p.bind.mono λt E G P st m q v d=>?_⟩;unfold Z4 at q;split at q
 ·split at q
  ·rename_i c fs _ w hw;obtain⟨ad,C0,dx,i,rfl,_,_,o,j,l⟩:=d;obtain⟨y,z,g,e,dz⟩:=l.look hw;obtain⟨b,s,r⟩:=C.fld c C0 x n o u;rw[g] at b;cases b;exact⟨ad,C0,dx,i,z,rfl,j,s,r,e,q.here m dz⟩
  ·exact q.elim
 ·obtain⟨c,fs,w,M,hw,q⟩:=q.ex3;obtain⟨ad,h,rfl⟩:=d;obtain⟨C0,dx,i,o,j,l⟩:=m.ob _ ad _ h M;obtain⟨y,z,g,e,dz⟩:=l.look hw;obtain⟨b,s,r⟩:=C.fld c C0 x n o u;rw[g] at b;cases b;exact⟨ad,C0,dx,i,z,rfl,j,s,r,e,aJ.here q m dz⟩
 ·exact q.elim
end
section
variable {X:Cx}{D:DP}{W:XW}{Γ:Cn}{k:Nat}{pins:List (aF×bD)}{s:Shared}{σ:St}{H:Hp}{φ α:List aF}{τ:Sl}{μ:aK}{f h:De}{a b c:aI}{pos:Pos}{es:List aI}
theorem Xe{B:Prop}(C:Ck D W Γ X k){c:Nat}{C0 dx ad:aF}(I:Inv X pins σ H s)(a:D.cad c=aA C0)(ea:H ad=aA (.ins C0 dx gs))
  (b:∀d P,VT D c d->oV X.K (.ref ad) d P->P s.heap->(cY ad)≠.builtin "__main__.__loader__#opaque"->B):B:=by
 have o:=C.ocx c C0 a;obtain⟨f,O,_⟩:=xI I.hok ea;obtain⟨e,J,_⟩:=O.look;exact b _ _ (.inr (.inr (.inr (.inr (.inr (.inr (.inr (.inr ⟨C0,a,rfl⟩)))))))) (PySem.W.kitx_own (o.cl.get _) o.cl.hd o.fi o.sp o.tk o.ob) J (λz=>nomatch z)
theorem M0{B:Prop}(C:Ck D W Γ X k){t:T}{v:V}(I:Inv X pins σ H s)(d:aZ D φ α H t v)(r:RelV v u)(a:GR t μ=aA n)
  (f:∀A P,VT D n A->oV X.K u A P->P s.heap->u≠.builtin "__main__.__loader__#opaque"->B):B:=by
 cases t with
 |non=>cases d;cases r;cases a;exact f _ _ (.inl ⟨rfl,rfl⟩) PySem.W.kitx_none gy (λz=>nomatch z)
 |bl b=>cases d;cases r;cases a;exact f _ _ (.inr (.inl ⟨rfl,rfl⟩)) PySem.W.kitx_bool gy (λz=>nomatch z)
 |int i=>cases d;obtain⟨t,rfl⟩:=r;cases a;exact f _ _ (.inr (.inr (.inl ⟨rfl,rfl⟩))) PySem.W.kitx_int gy (λz=>nomatch z)
 |str i=>cases d;obtain⟨t,rfl⟩:=r;cases a;exact f _ _ (.inr (.inr (.inr (.inl ⟨rfl,rfl⟩)))) PySem.W.kitx_str gy (λz=>nomatch z)
 |tup G=>
  obtain⟨ad,F,rfl,_,_,q,_⟩:=d;cases r;cases a;obtain⟨h,_,⟨o,x,m,_⟩,_⟩:=I.tuple (.inl q);exact f _ _ (.inr (.inr (.inr (.inr (.inl ⟨rfl,rfl⟩))))) PySem.W.kitx_tuple ⟨o,x,m⟩ (λz=>nomatch z)
 |lst G=>
  obtain⟨ad,F,rfl,_,_,q,_⟩:=d;cases r;cases a;obtain⟨h,_,p,_⟩:=I.list (.inl q);obtain⟨o,x,m,_⟩:=p.isList;exact f _ _ (.inr (.inr (.inr (.inr (.inr (.inl ⟨rfl,rfl⟩)))))) Du ⟨o,x,m⟩ (λz=>nomatch z)
 |exc c fs=>
  obtain⟨ad,C0,dd,rfl,_,_,g,y,xd⟩:=d;cases r;cases a;have L:=C.xcx n C0 g;obtain⟨p,_⟩:=(show bB X.prog X.w H s.heap ad (.ext (tJ ad C0 dd)) from I.hok ad _ y);have xd:bW D φ α H fs dd:=by cases dd<;>exact xd
  exact f _ _ (.inr (.inr (.inr (.inr (.inr (.inr (.inl ⟨C0,g,rfl⟩))))))) (R6 L) ⟨p,xd.ext I⟩ (λz=>nomatch z)
 |dic J=>
  obtain⟨ad,E,rfl,_,_,e,_⟩:=d;cases r;cases a;obtain⟨_,_,M,_,dd⟩:=(show bB X.prog X.w H s.heap ad (.dK E) from I.hok ad _ e);exact f _ _ (.inr (.inr (.inr (.inr (.inr (.inr (.inr (.inl ⟨rfl,rfl⟩)))))))) o3 dd.typeIs (λz=>nomatch z)
 |obj c fs=>
  obtain⟨ad,C0,dx,E,rfl,_,_,g,y,l⟩:=d;cases r;cases a;exact Xe C I g y f
 | «mut» i=>cases a
 |clo j cs=>cases a
theorem Rq{B:Prop}(C:Ck D W Γ X k){v:V}{o:MO}(I:Inv X pins σ H s)(x:aL D φ α H μ)(d:aZ D φ α H (.mut i) v)(r:RelV v u)(E:μ[i]?=aA o)(g:F6 o=aD)
  (a:∀A P,VT D (GQ o) A->oV X.K u A P->P s.heap->u≠.builtin "__main__.__loader__#opaque"->B):B:=by
 obtain⟨ad,F,rfl⟩:=d;cases r;have dd:=x.ob i ad o F E;cases o with
 |lst L=>
  obtain⟨n,q,_⟩:=dd;obtain⟨y,_,p,_⟩:=I.list (.inl (.inl q));obtain⟨o,m,h,_⟩:=p.isList;exact a _ _ (.inr (.inr (.inr (.inr (.inr (.inl ⟨rfl,rfl⟩)))))) Du ⟨o,m,h⟩ (λz=>nomatch z)
 |obj c fs=>
  obtain⟨C0,dx,b,J,G,l⟩:=dd;exact Xe C I J G a
 |dic f=>
  obtain⟨b,e,_⟩:=dd;obtain⟨_,_,t,_,dd⟩:=(show bB X.prog X.w H s.heap ad (.dK b) from I.hok ad _ e);exact a _ _ (.inr (.inr (.inr (.inr (.inr (.inr (.inr (.inl ⟨rfl,rfl⟩)))))))) o3 dd.typeIs (λz=>nomatch z)
 |tab j=>cases g
 |frd ep f=>
  obtain⟨b,e,_⟩:=dd;obtain⟨_,_,t,_,dd⟩:=(show bB X.prog X.w H s.heap ad (.dE ep b) from I.hok ad _ e);exact a _ _ (.inr (.inr (.inr (.inr (.inr (.inr (.inr (.inl ⟨rfl,rfl⟩)))))))) o3 dd.dictOf.typeIs (λz=>nomatch z)
 |dct M=>
  obtain⟨n,_,_,_,_,q,_⟩:=dd;obtain⟨⟨o,es,ep,m,h,_⟩,_⟩:=(show bB X.prog X.w H s.heap ad (.ext (FD ad n)) from I.hok ad _ q);exact a _ _ (.inr (.inr (.inr (.inr (.inr (.inr (.inr (.inl ⟨rfl,rfl⟩)))))))) o3 ⟨o,m,h.1⟩ (λz=>nomatch z)
theorem XI{B:Prop}(C:Ck D W Γ X k){t:T}{v:V}{u:aC}{Q:VK}(I:Inv X pins σ H s)(c:aL D φ α H μ)(d:aZ D φ α H t v)(r:RelV v u)(q:aJ D W φ α H σ (RV D φ Q) (nY cs t μ))
  (b:∀n j P,aJ D W φ α H σ (RV D φ Q) (.ok (.bl (c3 n cs)) μ)->VT D n j->oV X.K u j P->P s.heap->u≠.builtin "__main__.__loader__#opaque"->B):B:=by
 unfold nY at q;split at q
 ·obtain⟨o,e,q⟩:=q.som;rcases q.br with⟨_,q⟩|⟨f,q⟩
  ·exact q.elim
  ·exact Rq C I c d r e f λj P=>b _ j P q
 ·split at q
  ·rename_i g a;exact M0 C I d r a λj P=>b _ j P q
  ·exact q.elim
noncomputable def vY(Γ:Cn):List aI->Option (List Nat)
 |[]=>aA []
 |e::r=>match e with
  |.Name x _=>if (cL Γ.N x).isNone&&Γ.G.contains x then (match Γ.cls.lookup x with
   |some c=>(vY Γ r).map (c::·)
   |none=>aE) else aE
  |_=>aE
noncomputable def ZC(Γ:Cn)(e:aI):Option (List Nat):=match e with
 |.Name _ _=>vY Γ [e]
 |.Tuple es _ _=>if decide (es.length<=aU) then vY Γ es else aE
 |_=>aE
theorem cD{β:Type}{v:β}:∀{l:List (aG×β)},l.lookup x=aA v->(x,v)∈l
 |[],h=>by cases h
 |(y,w)::r,h=>by
  rw[f6] at h;cases q:x==y with
  |true=>rw[q] at h;cases h;rw[beq_iff_eq.mp q];exact eG
  |false=>rw[q] at h;exact dN _ (cD h)
theorem NO(C:Ck D W Γ X k){c:Nat}(a:x∈Γ.G)(d:(x,c)∈Γ.cls):∃u v,A7 X x u/\gp v u/\∀p0,PE X (.Name x p0) (tC v):=by
 obtain⟨u,v,cv,r⟩:=C.clv x c d;refine⟨u,v,cv,r,λp0=>?_⟩;rcases cv with h|⟨h,e,b⟩
 ·exact Yj (C.glb x a) h r.rel (C.dbG x a)
 ·exact Rw (C.glb x a) h e r.rel b (C.dbG x a)
theorem WQ(C:Ck D W Γ X k):∀{es:List aI}{cs:List Nat},vY Γ es=aA cs->∃us vs,(∀d,aV vs d->d=us)/\vs.length=es.length/\es.all aP=aB/\PA X es (λ_ H Q=>Q vs H)/\∀t j,VT D t j->sG X.K j us=aA (c3 t cs)
 |[],cs,h=>by
  simp[vY] at h;subst h;exact⟨[],[],λd r=>by cases r;rfl,rfl,rfl,λb a s f H Q I q=>qp b a s f H Q I q,λt j _=>rfl⟩
 |e::es,cs,h=>by
  unfold vY at h;split at h
  ·rename_i x z;split at h
   ·rename_i n;simp only[cH,ic] at n;split at h
    ·rename_i c i;cases g:vY Γ es with
     |none=>rw[g] at h;cases h
     |some J=>
      rw[g] at h;cases h;have m:=cD i;obtain⟨us,vs,o,i,E,F,G⟩:=WQ C g;obtain⟨u,v,cv,r,y⟩:=NO C n.2 m;refine⟨u::us,v::vs,λd q=>by cases q with|cons w p=>rw[r.only w,o _ p],by simp[i],by simp[aP,E],λb a s f H Q I q=>zD (y z) F (z4 rfl) b a s f H Q I q,λt j l=>?_⟩;have B:=C.isi t x c m j u l cv;have A:=G t j l;unfold sG;rw[B];rw[ZV];cases L:vy t c with
      |true=>rfl
      |false=>exact A
    ·cases h
   ·cases h
  ·cases h
theorem Ox (C:Ck D W Γ X k) (hx:("isinstance":aG)∈Γ.G) (hg:Γ.gl "isinstance"=.none) (hs:aP a=aB) (h:ZC Γ c=aA cs) (ha:PE X a (aX D W f)):PE X (.Call (.Name "isinstance" p0) [a,c] [] pos) (aX D W (xY cs f)):=by
 have hm:=C.glo _ hx;rw[hg] at hm;rintro r s O H Q I ⟨j,R,τ,μ,sr,mr,p⟩;refine gY (qR I (C.glb _ hx) hm boot_isinstance ?_ (by decide) (C.dbG _ hx));unfold ZC at h;split at h
 ·rename_i cn pc;obtain⟨V,i,hu,hl,hst,hp,hk⟩:=WQ C h;refine pF (aY (zD ha hp (z4 hs) pos r s O H (λL e=>∃v t g b,L=v::i/\aO R H b e/\aL D j b e g/\aZ D j b e t v/\aJ D W j b e O (RV D j Q) (nY cs t g)) I ⟨j,R,τ,μ,sr,mr,p.bind.mono λt y z H' st m q v d=>⟨v,t,y,z,rfl,st,m,d,q⟩⟩) ?_) (z4 hs) (qO (by rfl));rintro us s1 ⟨L,e,x,rv,v,t,g,b,rfl,st,m,d,q⟩;cases rv with
  | @cons _ u _ A r1 F=>
  obtain rfl:=hu A F;have hlu:A.length=1:=by rw[←F.length];exact hl
  match A,hlu with
  |[uc],_=>
  refine XI C x m d r1 q λT S P q ht kx hP E=>?_;have J:=hk T S ht;have k1:o6 X.K S uc=aA (c3 T cs):=by
   unfold sG at J;split at J
   ·rename_i hb;rw[hb];exact J
   ·rename_i hb;rw[hb];exact J
   ·cases J
  exact PySem.W.kia_one kx x.kIn hP k1 E λY=>⟨.bl _,e,x.tok Y,rfl,q.here m rfl⟩
 ·rename_i ees J pc;split at h;case isFalse=>cases h
  rename_i M;obtain⟨V,i,hu,hl,hst,hp,hk⟩:=WQ C h;refine pF (aY (zD ha (zD (GD hp) qp (z4 rfl)) (z4 hs) pos r s O H (λL H2=>∃v l e t g b,L=[v,.ref l]/\e l=aE/\H2=upd e l (.tup i)/\aO R H b e/\aL D j b e g/\aZ D j b e t v/\aJ D W j b e O (RV D j Q) (nY cs t g)) I ⟨j,R,τ,μ,sr,mr,p.bind.mono λt y z H' st m q v d=>⟨by rw[hl];exact zv (by simpa using M),λl B=>⟨v,l,H',t,y,z,rfl,B,rfl,st,m,d,q⟩⟩⟩) ?_) (z4 hs) (qO (by rfl));rintro us s1 ⟨L,H2,x,rv,v,l,e,t,g,b,rfl,B,rfl,st,m,d,q⟩;obtain⟨u,ut,rfl,r1,F⟩:=vals2 rv;have F:ut=cY l:=F;subst F;have U:ko e (upd e l (.tup i)):=za B;refine XI C x (m.new U) (d.step (aO.new U)) r1 (q.step (aO.new U)) λT S P q ht kx hP E=>?_;obtain⟨_,its,Z,⟨o,ho,N,n,hd⟩⟩:=(show bB X.prog X.w _ s1.heap l (.tup i) from x.hok l _ z5);obtain rfl:=hu its Z;obtain⟨oc,odd,odt,osl⟩:=o;simp only at N hd;subst N hd;exact PySem.W.kia_tup kx x.kIn hP ho (hk T S ht) E λY=>⟨.bl _,_,x.tok Y,rfl,q.here (m.new U) rfl⟩
 ·cases h
end
section
variable {X:Cx}{D:DP}{W:XW}{Γ:Cn}{k:Nat}{pins:List (aF×bD)}{s:Shared}{σ:St}{H:Hp}{φ α:List aF}{τ:Sl}{μ:aK}{f h:De}{a b:aI}{pos:Pos}{es:List aI}
noncomputable def B1 (X:Cx)(D:DP)(W:XW)(a:aC)(op:T->aK->RE T):Prop:=
 ∀(pins:List (aF×bD)) (s:a_) (σ:St) (H:Hp) (φ α:List aF) (μ:aK) (t:T) (v:V) (u:aC) (Q:VK),Inv X pins σ H s->aL D φ α H μ->aZ D φ α H t v->RelV v u->aJ D W φ α H σ (RV D φ Q) (op t μ)->
  wpAny (aQ X.prog X.w) X.A (call a [u]) (EP X pins σ Q) X.xe s
theorem JB (C:Ck D W Γ X k) {id:String}(n:x∈Γ.G) (M:Γ.gl x=.none) (K:gB x=aA (.builtin id)) (L:x≠"__name__") (hs:aP a=aB) (N:B1 X D W (.builtin id) op) (O:PE X a (aX D W f)) :
  PE X (.Call (.Name x p0) [a] [] pos) (aX D W (dD op f)):=by
 have w:=C.glo _ n;rw[M] at w;rintro e s i H Q I ⟨g,o,y,z,A,J,p⟩;refine gY (qR I (C.glb _ n) w K ?_ L (C.dbG _ n));refine pF (aY (zD O qp (z4 hs) pos e s i H (λr h=>∃v t c b,r=[v]/\aO o H b h/\aL D g b h c/\aZ D g b h t v/\aJ D W g b h i (RV D g Q) (op t c)) I ⟨g,o,y,z,A,J,p.bind.mono λt j l S st m q v d=>⟨v,t,j,l,rfl,st,m,d,q⟩⟩) ?_) (z4 hs) (qO (by rfl));rintro R B ⟨r,h,P,E,v,t,c,b,rfl,st,m,d,q⟩;obtain⟨u,rfl,F⟩:=vals1 E;exact N e B i h g b c t v u Q P m d F q
theorem FP (C:Ck D W Γ X k) {id:String}(n:x∈Γ.G) (M:Γ.gl x=.none) (K:gB x=aA (.type id)) (L:x≠"__name__") (hs:aP a=aB) (N:B1 X D W (.type id) op) (O:PE X a (aX D W f)) :
  PE X (.Call (.Name x p0) [a] [] pos) (aX D W (dD op f)):=by
 have w:=C.glo _ n;rw[M] at w;rintro e s i H Q I ⟨g,o,y,z,A,J,p⟩;refine gY (qR I (C.glb _ n) w K ?_ L (C.dbG _ n));refine pK (aY (zD O qp (z4 hs) pos e s i H (λr h=>∃v t c b,r=[v]/\aO o H b h/\aL D g b h c/\aZ D g b h t v/\aJ D W g b h i (RV D g Q) (op t c)) I ⟨g,o,y,z,A,J,p.bind.mono λt j l S st m q v d=>⟨v,t,j,l,rfl,st,m,d,q⟩⟩) ?_) (z4 hs) (qO (by rfl));rintro R B ⟨r,h,P,E,v,t,c,b,rfl,st,m,d,q⟩;obtain⟨u,rfl,F⟩:=vals1 E;exact N e B i h g b c t v u Q P m d F q
theorem Lq:B1 X D W (.builtin "len") y_:=by
 intro a s e H i k j t v u Q I c d r p;unfold y_ at p;split at p
 ·obtain⟨ad,b,rfl,_,_,q,l⟩:=d;exact vP a s e H _ _ Q I (.cons r .nil) ⟨ad,b,rfl,.inl (.inl q),by rw[←l.length];exact p.here c rfl⟩
 ·obtain⟨ad,b,rfl,_,_,q,l⟩:=d;exact vP a s e H _ _ Q I (.cons r .nil) ⟨ad,b,rfl,.inr (.inl q),by rw[←l.length];exact p.here c rfl⟩
 ·cases d;obtain⟨f,p⟩:=p.grd;exact WO a s e H _ _ Q I (.cons r .nil) ⟨_,rfl,zv f,p.here c rfl⟩
 ·obtain⟨m,g,p⟩:=p.ex1;obtain⟨ad,h,rfl⟩:=d;obtain⟨b,q,l⟩:=c.ob _ ad _ h g;exact vP a s e H _ _ Q I (.cons r .nil) ⟨ad,b,rfl,.inl (.inl (.inl q)),by rw[←l.length];exact aJ.here p c rfl⟩
 ·exact p.elim
theorem L5:B1 X D W (.type "int") p_:=by
 intro a s b H e g f t v u Q I c d r p;unfold p_ at p;split at p
 ·cases d;exact Qw a s b H _ _ Q I (.cons r .nil) (.inl ⟨_,rfl,p.here c rfl⟩)
 ·cases d;exact Qw a s b H _ _ Q I (.cons r .nil) (.inr ⟨_,rfl,p.here c rfl⟩)
 ·exact p.elim
theorem M5:B1 X D W (.type "list") Jn:=by
 intro b s f H i k j t v u Q I c d r p;unfold Jn at p;split at p
 ·obtain⟨ad,e,rfl,_,_,q,l⟩:=d;exact j7 b s f H _ _ Q I (.cons r .nil) ⟨ad,e,rfl,.inl (.inl q),λz a=>p.fresh c (za a) ⟨z,e,rfl,zm c a,zo c a,.inl z5,l.step (aO.new (za a))⟩⟩
 ·obtain⟨ad,e,rfl,_,_,q,l⟩:=d;exact j7 b s f H _ _ Q I (.cons r .nil) ⟨ad,e,rfl,.inr (.inl q),λz a=>p.fresh c (za a) ⟨z,e,rfl,zm c a,zo c a,.inl z5,l.step (aO.new (za a))⟩⟩
 ·obtain⟨m,g,p⟩:=p.ex1;obtain⟨ad,h,rfl⟩:=d;obtain⟨e,q,l⟩:=c.ob _ ad _ h g;exact j7 b s f H _ _ Q I (.cons r .nil) ⟨ad,e,rfl,.inl (.inl (.inl q)),λz a=>aJ.fresh p c (za a) ⟨z,e,rfl,zm c a,zo c a,.inl z5,l.step (aO.new (za a))⟩⟩
 ·exact p.elim
theorem xn(a:H p=aE):aO α H (α++[p]) (upd H p o):=⟨⟨[p],rfl,by simpa using a⟩,λb u _ e=>za a b u e,λb e=>by
 by_cases z:b=p
 ·rw[z,z5] at e;cases e
 ·rw[z9 z] at e;exact e⟩
theorem aL.lay(m:aL D φ α H μ)(g:H p=aE)(l:aN D φ α H ts vs):aL D φ (α++[p]) (upd H p (.lst vs)) (μ++[.lst ts]):=by
 have st:aO α H (α++[p]) (upd H p (.lst vs)):=xn g;have s:=m.len;refine⟨by simp[s],?_,λb j=>?_,λb j=>?_,λi a o c f=>?_⟩
 ·rw[ll];refine⟨m.nd,by simp,λa t b j=>?_⟩;rw[bV.mp j];intro z;exact zo m g (z▸t)
 ·rcases cA.mp j with h|h
  ·exact m.dis b h
  ·rw[bV.mp h];exact zm m g
 ·obtain⟨u,e,n⟩:=m.phi b j;exact⟨u,za g b u e,n⟩
 ·by_cases hi:i<α.length
  ·rw[dP hi] at c;rw[dP (by lia)] at f;have d:=m.ob i a o c f;obtain⟨u,q,_⟩:=d.some;exact d.step st ((za g _ _ q).trans q.symm)
  ·rw[fN (by lia)] at c f;have r:i-α.length=0:=by
    by_cases z:i-α.length=0
    ·exact z
    ·rw[lV (by simp;lia)] at c;cases c
   have k:i-μ.length=0:=by lia
   rw[r] at c;rw[k] at f;have c:aA p=aA a:=c;have f:aA (MO.lst ts)=aA o:=f;cases c;cases f;exact⟨vs,z5,l.step st⟩
theorem aJ.lay(q:aJ D W φ α H σ (RV D φ Q) (.ok (.mut μ.length) (μ++[.lst ts])))(m:aL D φ α H μ)(a:H p=aE)(l:aN D φ α H ts vs):Q (.ref p) (upd H p (.lst vs)):=
 q.ok (xn a) (m.lay a l) _ ⟨p,by rw[←m.len,fN (bH _)];simp,rfl⟩
theorem Nf(k:es.length<=aU)(l:dT X D W es fs):PE X (.List es pos) (aX D W (Zm fs)):=by
 refine PE.mono (Gk (vV l)) ?_;rintro n H Q ⟨a,f,b,d,g,h,p⟩;refine⟨a,f,b,d,g,h,p.bind.mono λr c e s st m q o dl j=>⟨by rw[j];exact zv k,λz i=>q.lay m i dl⟩⟩
theorem V_:∀{ts:List T}{bs:List Bool}{vs:List V}{us:List aC},cU ts=aA bs->aN D φ α H ts vs->aV vs us->us=bs.map mv
 |[],bs,vs,us,h,l,r=>by
  simp[cU] at h;subst h;have l:vs=[]:=l;subst l;cases r;rfl
 |t::ts,bs,vs,us,h,l,r=>by
  obtain⟨v,w,rfl,d,l⟩:=l;cases t with
  |bl b=>
   simp only[cU] at h;cases q:cU ts with
   |none=>rw[q] at h;cases h
   |some cs=>
    rw[q] at h;cases h;cases r with
    |cons c a=>
     cases d;cases c;rw[V_ q l a];rfl
  |_=>simp[cU] at h
theorem Lu(G:X.calm=aB):B1 X D W (.builtin "all") V5:=by
 intro m s N H M P O t v u Q I z d r p;unfold V5 at p;split at p;case h_2=>exact p.elim
 rename_i R;obtain⟨bs,J,p⟩:=p.som;obtain⟨ad,S,rfl,_,_,q,l⟩:=d;cases r;obtain⟨c,w,y,U⟩:=I.list (.inl q);have eb:=V_ J l w;have j:=y.isList;have g:ad<s.heap.objs.size:=by obtain⟨_,e,_⟩:=j;exact cG e
 refine call_all_walk (nn j ?_)
 refine⟨s.heap.objs.size,[s.heap.objs.size,ad],[s.heap.objs.size],c.toArray.size,_,_,λi=>(bs[i]?).getD aB,rfl,m9 (A:=X.A.in1) (I.ok.hd G) _ ad (d6 g) c.toArray,
  ⟨⟨_,eF _ rfl,rfl,rfl⟩,j.push _⟩,λi v T V Y K n=>?_,λL o F=>?_⟩
 ·have a:c[i]?=aA v:=by simpa using K
  rw[eb,c9] at a;cases e:bs[i]? with
  |none=>rw[e] at a;cases a
  |some b=>
   rw[e] at a;simp at a;subst a;simp only[e,sL] at n;exact wpAny_truthy_bool n
 ·have e:((eX c.toArray.size).all λi=>(bs[i]?).getD aB)=bs.all id:=by
   have C:c.toArray.size=bs.length:=by simp[eb]
   rw[C];rw[nA];simp only[f_,lS,id_eq];constructor
   ·intro h b k;obtain⟨i,f,rfl⟩:=DM.mp k;have:=h i f;simpa[f] using this
   ·intro h i f;have:=h bs[i] (CV f);simpa[f] using this
  rw[e];have B:∀b x,s.heap.get? b=aA x->L.get? b=aA x:=λb x e=>F b x (λE=>by rw[bV.mp E] at e;exact iz _ (cG e)) (bZ _ e);exact⟨.bl (bs.all id),H,I.kept (t':=o) B,rfl,p.here z rfl⟩
theorem aO.turn(a:x∈α)(c:∃d,H x=aA d):aO α H α (upd H x o):=by
 refine⟨⟨[],by simp,by simp⟩,λb u n e=>?_,λb e=>?_⟩
 ·rw[z9 (λ(z:b=x)=>n (by rw[z];exact a))];exact e
 ·by_cases z:b=x
  ·rw[z,z5] at e;cases e
  ·rw[z9 z] at e;exact e
theorem aL.turn(m:aL D φ α H μ)(g:α[i]?=aA x)(hi:i<μ.length)(st:aO α H α (upd H x o))(d:d9 D φ α (upd H x o) w x):aL D φ α (upd H x o) (μ.set i w):=by
 refine⟨by simp[m.len],m.nd,m.dis,λb h=>?_,λj y k c a=>?_⟩
 ·obtain⟨u,l,n⟩:=m.phi b h;exact⟨u,st.keep b u (λz=>m.dis b z h) l,n⟩
 ·by_cases q:i=j
  ·subst q;rw[g] at c;cases c;rw[nG hi] at a;cases a;exact d
  ·rw[cS q] at a;have ne:y≠x:=λz=>by
    subst z;obtain⟨h1,f⟩:=bQ.mp c;obtain⟨h2,e⟩:=bQ.mp g;exact q ((oY m.nd).mp (e.trans f.symm))
   exact d9.step st (z9 ne) (m.ob j y k c a)
theorem SN(m2:aL D φ α H μ)(b:α[i]?=aA x)(c:μ[i]?=aA (.lst ts))(f:H x=aA (.lst xs))(l:aN D φ α H ts xs)(d:aZ D φ α H t v) :
  aO α H α (upd H x (.lst (xs++[v])))/\aL D φ α (upd H x (.lst (xs++[v]))) (μ.set i (.lst (ts++[t]))):=by
 have a:aO α H α (upd H x (.lst (xs++[v]))):=aO.turn (cP b) ⟨_,f⟩;have e:i<μ.length:=(bQ.mp c).1;exact⟨a,m2.turn b e a ⟨_,z5,(l.step a).append ⟨v,[],rfl,d.step a,rfl⟩⟩⟩
theorem Ol(S:qz o=aB)(hs:aP a=aB)(b:(pa.endLine==pc.line)=aB)(ho:PE X o (aX D W go))(ha:PE X a (aX D W f)) :
  PE X (.Call (.Attribute o "append" pa) [a] [] pc) (aX D W (K6 go f)):=by
 have Y:d_ [a] X.env=[(aD,eval a X.env)]:=z4 hs;refine PE.mono (FV DR PySem.F.slot_list_append PySem.F.type_list_append QK ho (zD ha qp (z4 hs)) (qK S) (by rw[Y];rfl) b (z4 hs) rfl) ?_;rintro σ H Q ⟨w,I,y,G,z,O,p⟩;refine⟨w,I,y,G,z,O,p.bind.mono λot k m H1 r B q ov dv=>?_⟩;split at q;case h_2=>exact q.elim
 rename_i i;obtain⟨K,Z,⟨⟨M,g⟩,V⟩,U,R⟩:=q;obtain⟨x,s,rfl⟩:=dv;obtain⟨J,u,l0⟩:=B.ob _ x _ s g;refine⟨.inl ⟨rfl,_,.inl (.inl u)⟩,w,m,y,k,z.step r,B,_,Z,V,?_,R⟩;rintro t E ⟨ts,h,T,N⟩ c H2 e A v d;obtain⟨β,e2,_⟩:=e.ext;have j:c[i]?=aA x:=by
  rw[e2,dP (bQ.mp s).1];exact s
 obtain⟨L,C,l⟩:=A.ob i x _ j h;obtain⟨n,P⟩:=SN A j h C l d;refine⟨x,L,v,rfl,rfl,C,?_,?_⟩
 ·rw[←l.length];exact dL T (zv (bH _))
 ·exact U _ _ N c _ (e.trans n) P .non rfl
end
structure iZ(D:DP)(J:It)(Ok:List aF->List aF->Hp->Prop)(xs:List T):Prop where
 go:∀(i:Nat) φ α H,Ok φ α H->i<xs.length->J.go i H
 yld:∀(i:Nat) φ α H v H' t,Ok φ α H->xs[i]?=aA t->J.yld i H v H'->ko H H'/\aZ D φ α H' t v
 stop:∀φ α H,Ok φ α H->J.stop xs.length H
noncomputable def BP (D:DP)(φ α:List aF)(H:Hp)(xs:List T)(lv:aK->Prop)(Ok:List aF->List aF->Hp->Prop):Prop:=∀a b d c,Lk φ α H a b d->aL D a b d c->lv c->Ok a b d
noncomputable def gZ (D:DP)(W:XW)(f:Di):TI:=λd H R=>mT D H d λc i g h=>
 aJ D W c i H d (λp a b e=>∀J Ok,iZ D J Ok p.1->BP D c b e p.1 p.2 Ok->p.2 a->R J e) (f g h).re
theorem Lk.trans(a:Lk φ α H j u A)(b:Lk j u A d s w):Lk φ α H d s w:=
 ⟨λx o n1 n2 e=>let ⟨m1,m2,c⟩:=a.ob x o n1 n2 e;b.ob x o m1 m2 c,λi x e=>b.st i x (a.st i x e)⟩
theorem Yi{D:DP}{φ α:List aF}{H:Hp}{b:Type}{f:b->T}{xs:List b}{i:Nat}(h:(xs.map f)[i]?=aA t):∃a,xs[i]?=aA a/\t=f a:=by
 rw[c9] at h;cases q:xs[i]? with
 |none=>rw[q] at h;cases h
 |some a=>rw[q] at h;cases h;exact⟨a,rfl,rfl⟩
section
variable {X:Cx}{D:DP}{W:XW}{Γ:Cn}{k:Nat}{pins:List (aF×bD)}{s:Shared}{σ:St}{H:Hp}{φ α:List aF}{τ:Sl}{μ:aK}{f g h:De}{a b c tg:aI}{pos:Pos}{es:List aI}
theorem VN{K:bM}{ad:aF}:iZ D (Hg K ad) (λφ α H=>∃vs,Rd H ad (.lst vs)/\aN D φ α H xs vs) xs:=
 ⟨λi φ α H ⟨vs,ok,l⟩ a=>⟨vs,vs[i]'(by rw[←l.length];exact a),.inl ok,by simp⟩,λi φ α H v c t ⟨vs,ok,l⟩ a y=>by
  obtain⟨rfl,y⟩:=y;obtain⟨x,b,d⟩:=l.get a;have e:=y vs (.inl ok);rw[e] at b;cases b;exact⟨λ_ _ z=>z,d⟩,λφ α H ⟨vs,ok,l⟩=>⟨vs,.inl ok,by rw[l.length];exact bH _⟩⟩
theorem Rl{K:bM}{ad:aF}:iZ D (Hf K ad) (λφ α H=>∃vs,Rd H ad (.tup vs)/\aN D φ α H xs vs) xs:=
 ⟨λi φ α H ⟨vs,ok,l⟩ a=>⟨vs,vs[i]'(by rw[←l.length];exact a),.inl ok,by simp⟩,λi φ α H v c t ⟨vs,ok,l⟩ a y=>by
  obtain⟨rfl,y⟩:=y;obtain⟨x,b,d⟩:=l.get a;have e:=y vs (.inl ok);rw[e] at b;cases b;exact⟨λ_ _ z=>z,d⟩,λφ α H ⟨vs,ok,l⟩=>⟨vs,.inl ok,by rw[l.length];exact bH _⟩⟩
theorem YR{i:Nat}(h:(eX n)[i]?=aA j):j=i:=by
 have:=(bQ.mp h).2;simpa using this.symm
noncomputable def BR(z:aG):It:=⟨λi _=>i<z.cps.toList.length,λi H x a=>a=H/\∃c,z.cps.toList[i]?=aA c/\x=.str ⟨#[c]⟩,λi _=>z.cps.toList.length<=i⟩
theorem Ru{z:aG}:iZ D (BR z) (λ_ _ _=>True) (z.cps.toList.map λc=>T.str ⟨#[c]⟩):=
 ⟨λi φ α H _ a=>by (show i<_);simpa using a,λi φ α H v e t _ a y=>by
  obtain⟨j,d,rfl⟩:=Yi (D:=D) (φ:=φ) (α:=α) (H:=H) a;obtain⟨rfl,c,b,rfl⟩:=y;rw[d] at b;cases b;exact⟨λ_ _ z=>z,rfl⟩,λφ α H _=>by show _<=_;simp⟩
theorem Sd {P:cF}{K:bM}(hk:kd="str_ascii_iterator"\/kd="str_iterator") (it:aF) (z:aG) (t0:Tok):fX P w K tg (BR z) [it] it (λi h=>h.IsStrIter it kd z t0 i) where
 mem:=by simp
 obj:=λi h st b a=>by
  have e:b=it:=by simpa using a
  subst e;obtain⟨o,e,c,d⟩:=st;exact⟨o,e,λv z=>by rw[d] at z;cases z⟩
 keep:=λi h j st k=>let ⟨o,L,r⟩:=st;⟨o,k it (by simp) o L,r⟩
 item:=by
  intro X D hw F C i g s y H E I m st B;subst D hw F;obtain⟨x,u,N,t,q,p⟩:=m it (by simp);have M:i<z.cps.size:=by simpa[BR] using B
  have l:z.cps[i]?=aA z.cps[i]:=Array.getElem?_eq_getElem M;have n:z.cps.toList[i]?=aA z.cps[i]:=by rw[Array.getElem?_toList];exact l
  rcases hk with rfl|rfl
  ·refine wpAny_pyNext_ascii_item st l λj f A=>?_;have G:Inv X g y H {s with heap:=j,toks:=s.toks+1}:=I.turned (λb o a e=>(A.2 b a).trans e) x u t q p;obtain⟨o,e,c,d⟩:=id f;exact⟨.str ⟨#[z.cps[i]]⟩ s.toks,rfl,yI (s:={s with heap:=j,toks:=s.toks+1}) e c d (by decide) ⟨.str ⟨#[z.cps[i]]⟩,H,G,⟨_,rfl⟩,⟨rfl,z.cps[i],n,rfl⟩,f,λb a=>(m b a).1⟩⟩
  ·refine wpAny_pyNext_wide_item st l λj f A=>?_;have G:Inv X g y H {s with heap:=j,toks:=s.toks+1}:=I.turned (λb o a e=>(A.2 b a).trans e) x u t q p;obtain⟨o,e,c,d⟩:=id f;exact⟨.str ⟨#[z.cps[i]]⟩ s.toks,rfl,yI (s:={s with heap:=j,toks:=s.toks+1}) e c d (by decide) ⟨.str ⟨#[z.cps[i]]⟩,H,G,⟨_,rfl⟩,⟨rfl,z.cps[i],n,rfl⟩,f,λb a=>(m b a).1⟩⟩
 done:=by
  intro X D hw F C i g s y H E I m st B;subst D hw F;obtain⟨x,u,N,t,q,p⟩:=m it (by simp);have J:z.cps[i]?=aE:=Array.getElem?_eq_none (by have:z.cps.toList.length<=i:=B;simpa using this);rcases hk with rfl|rfl
  ·exact wpAny_pyNext_ascii_end (I.ok.hd C) st J λj eb=>⟨rfl,I.turned (t':=s.toks) (λb o a e=>eb b o a e) x u t q p⟩
  ·exact wpAny_pyNext_wide_end (I.ok.hd C) st J λj eb=>⟨rfl,I.turned (t':=s.toks) (λb o a e=>eb b o a e) x u t q p⟩
 self:=λ_ _ _ _ _ st h=>by
  rcases hk with rfl|rfl
  ·exact wpAny_pyIter_striter_ascii st h
  ·exact wpAny_pyIter_striter_wide st h
theorem PC(S:PE X a (aX D W f)):PI X tg a (gZ D W (iE f)):=by
 rintro N s y H R I ⟨r,α,τ,μ,sr,mr,p⟩;refine aY (sub S I sr mr p) ?_;rintro u c ⟨v,n,t,h,d,g,P,st1,sr1,k,B,p1⟩;cases t with
 |lst J=>
  obtain⟨ad,O,rfl,U,T,q,l⟩:=B;cases P;obtain⟨w,Y,M,Z⟩:=g.list (.inl q);refine nn M.isList ?_;refine⟨c.heap.objs.size,[c.heap.objs.size],_,_,n,rfl,g.kept (t':=c.toks) λb o e=>bZ _ e,QJ ad _,⟨_,eF _ rfl,rfl,rfl⟩,λb x=>?_,?_⟩
  ·have e:b=c.heap.objs.size:=by simpa using x
   subst e;exact g.fpOk (bH _) (g.hok.fresh (bH _))
  ·have i:aJ D W r d n y _ (RE.ok (J,gb) h):=p1;exact i.ok (aO.refl _ _) k _ _ VN (λC F H' E lk _ _=>by
    obtain⟨a',G,e,_,_,L,l'⟩:=aZ.lk lk (show aZ D r d n (.lst J) (.ref ad) from ⟨ad,O,rfl,U,T,q,l⟩);cases e;exact⟨G,L,l'⟩) trivial
 |tup J=>
  obtain⟨ad,O,rfl,U,T,q,l⟩:=B;cases P;obtain⟨w,Y,M,Z⟩:=g.tuple (.inl q);refine wpAny_pyIter_tuple (show c.heap.IsTuple ad w.toArray from M) ?_;refine⟨c.heap.objs.size,[c.heap.objs.size],_,_,n,rfl,g.kept (t':=c.toks) λb o e=>bZ _ e,JX ad _,⟨_,eF _ rfl,rfl,rfl⟩,λb x=>?_,?_⟩
  ·have e:b=c.heap.objs.size:=by simpa using x
   subst e;exact g.fpOk (bH _) (g.hok.fresh (bH _))
  ·have i:aJ D W r d n y _ (RE.ok (J,gb) h):=p1;exact i.ok (aO.refl _ _) k _ _ Rl (λC F H' E lk _ _=>by
    obtain⟨a',G,e,_,_,L,l'⟩:=aZ.lk lk (show aZ D r d n (.tup J) (.ref ad) from ⟨ad,O,rfl,U,T,q,l⟩);cases e;exact⟨G,L,l'⟩) trivial
 | «mut» j=>
  obtain⟨ad,hj,rfl⟩:=B;cases P;have i:aJ D W r d n y _ (λK _=>∃A,h[j]?=aA (.lst A)/\K (A,l5 j A) h):=p1;obtain⟨A,hx,i⟩:=i.ex1;obtain⟨O,q,l⟩:=k.ob j ad _ hj hx;obtain⟨w,Y,M,Z⟩:=g.list (.inl (.inl q));refine nn M.isList ?_;refine⟨c.heap.objs.size,[c.heap.objs.size],_,_,n,rfl,g.kept (t':=c.toks) λb o e=>bZ _ e,QJ ad _,⟨_,eF _ rfl,rfl,rfl⟩,λb x=>?_,?_⟩
  ·have e:b=c.heap.objs.size:=by simpa using x
   subst e;exact g.fpOk (bH _) (g.hok.fresh (bH _))
  ·have i:aJ D W r d n y _ (RE.ok (A,l5 j A) h):=i;exact i.ok (aO.refl _ _) k _ _ VN (λC F H' E lk m hl=>by
    obtain⟨G,L,l'⟩:=m.ob j ad _ (lk.st j ad hj) hl;exact⟨G,.inl L,l'⟩) hx
 |str z=>
  have B:v=.str z:=B;subst B;obtain⟨V,rfl⟩:=P;have fin:∀{Q:String},(Q="str_ascii_iterator"\/Q="str_iterator")->rG X N y tg R (.ref c.heap.objs.size) {c with heap:=c.heap.push {cls:=.type Q,data:=.fields #[.str z V,.int 0 0]}}:=λ{Q} hk=>by
   refine⟨c.heap.objs.size,[c.heap.objs.size],_,_,n,rfl,g.kept (t':=c.toks) λb o e=>bZ _ e,Sd hk _ z V,⟨_,eF _ rfl,rfl,rfl⟩,λb x=>?_,?_⟩
   ·have e:b=c.heap.objs.size:=by simpa using x
    subst e;exact g.fpOk (bH _) (g.hok.fresh (bH _))
   ·have i:aJ D W r d n y _ (RE.ok (ZM z,gb) h):=p1;exact i.ok (aO.refl _ _) k _ _ Ru (λ_ _ _ _ _ _ _=>gy) trivial
  cases S:z.cps.all (·<128) with
  |true=>exact wpAny_pyIter_ascii S (fin (.inl rfl))
  |false=>exact wpAny_pyIter_wide S (fin (.inr rfl))
 |_=>exact aJ.elim p1
theorem TU(h:aV (x::xs) us):∃u r,us=u::r/\RelV x u/\aV xs r:=by
 cases h with
 |cons r q=>exact⟨_,_,rfl,r,q⟩
noncomputable def mU(lo c:Int)(n:Nat):It:=⟨λi _=>i<n,λi H x a=>a=H/\x=.int (lo+i*c),λi _=>n<=i⟩
theorem Js{P:cF}{K:bM}(it:aF)(lo c:Int)(n:Nat):fX P w K tg (mU lo c n) [it] it (λi h=>IsRangeIter h it (lo+(i:Nat)*c) ((n:Int)-(i:Nat)) c) where
 mem:=by simp
 obj:=λi h st b d=>by
  have e:b=it:=by simpa using d
  subst e;exact⟨_,st,λv z=>by cases (show B_ _=Data.cell v from z)⟩
 keep:=λi h j st k=>k it (by simp) _ st
 item:=by
  intro X p hw q m i a s B H E I g st l;subst p hw q;obtain⟨A,y,G,x,u,r⟩:=g it (by simp);have W:=Walks.range (prog:=X.prog) (w:=X.w) (I.ok.hd m) it lo c n;refine W.item i s _ _ l st λv j C F f D=>?_;obtain⟨t,rfl⟩:=F;have J:Inv X a B H {s with heap:=j,toks:=C}:=I.turned (λb o d e=>D b o (by simpa using d) e) A y x u r;exact⟨_,rfl,yI (s:={s with heap:=j,toks:=C}) (n:="range_iterator") f rfl rfl (by decide) ⟨.int (lo+i*c),H,J,⟨t,rfl⟩,⟨rfl,rfl⟩,f,λb d=>(g b d).1⟩⟩
 done:=by
  intro X p hw q m i a s B H E I g st l;subst p hw q;obtain⟨A,y,G,x,u,r⟩:=g it (by simp);exact wpAny_pyNext_range_end (I.ok.hd m) st (by have:n<=i:=l;lia) λj eb=>⟨rfl,I.turned (t':=s.toks) (λb o d e=>eb b o d e) A y x u r⟩
 self:=λ_ _ _ _ _ st h=>wpAny_pyIter_rangeiter st h
theorem VI{P:cF}{K:bM}(it:aF)(lo c:Int)(n:Nat):fX P w K tg (mU lo c n) [it] it (λi h=>IsLongIter h it (lo+(i:Nat)*c) ((n:Int)-(i:Nat)) c) where
 mem:=by simp
 obj:=λi h st b d=>by
  have e:b=it:=by simpa using d
  subst e;exact⟨_,st,λv z=>by cases (show B_ _=Data.cell v from z)⟩
 keep:=λi h j st k=>k it (by simp) _ st
 item:=by
  intro X p hw q m i a s B H E I g st l;subst p hw q;obtain⟨A,y,G,x,u,r⟩:=g it (by simp);have W:=Walks.longrange (prog:=X.prog) (w:=X.w) (I.ok.hd m) it lo c n;refine W.item i s _ _ l st λv j C F f D=>?_;obtain⟨t,rfl⟩:=F;have J:Inv X a B H {s with heap:=j,toks:=C}:=I.turned (λb o d e=>D b o (by simpa using d) e) A y x u r;exact⟨_,rfl,yI (s:={s with heap:=j,toks:=C}) (n:="longrange_iterator") f rfl rfl (by decide) ⟨.int (lo+i*c),H,J,⟨t,rfl⟩,⟨rfl,rfl⟩,f,λb d=>(g b d).1⟩⟩
 done:=by
  intro X p hw q m i a s B H E I g st l;subst p hw q;obtain⟨A,y,G,x,u,r⟩:=g it (by simp);exact wpAny_pyNext_long_end (I.ok.hd m) st (by have:n<=i:=l;lia) λj eb=>⟨rfl,I.turned (t':=s.toks) (λb o d e=>eb b o d e) A y x u r⟩
 self:=λ_ _ _ _ _ st h=>wpAny_pyIter_longiter st h
theorem Rp{a b c:Int}(d:0<c):nH a b c=if a<b then (b-a-1) / c+1 else 0:=by
 unfold nH;rw[if_pos d]
theorem Wa{σ:St}{H:Hp}{lo hi c:Int}{t u v:Tok}(I:Inv X pins σ H s)(i:0<c)
  (q:R (mU lo c (if lo<hi then (hi-lo-1) / c+1 else 0:Int).toNat) H):wpAny (aQ X.prog X.w) X.A (mV (.ref s.heap.objs.size)) (rG X pins σ tg R) E {s with heap:=s.heap.push {cls:=.type "range",data:=.fields #[.int lo t,.int hi u,.int c v]},toks:=tk}:=by
 have a:Inv X pins σ H {s with heap:=s.heap.push {cls:=.type "range",data:=.fields #[.int lo t,.int hi u,.int c v]},toks:=tk}:=I.kept λb o e=>bZ _ e;have h:lo+((0:Nat):Int)*c=lo:=by simp
 have g:(((if lo<hi then (hi-lo-1) / c+1 else 0:Int).toNat:Nat):Int)-((0:Nat):Int)=nH lo hi c:=by
  rw[Rp i];have:0<=(if lo<hi then (hi-lo-1) / c+1 else 0):=by
   split
   ·have j:0<=(hi-lo-1) / c:=CA (by omega) (by omega);omega
   ·omega
  omega
 have fr:∀b∈[(s.heap.push {cls:=.type "range",data:=.fields #[.int lo t,.int hi u,.int c v]}).objs.size],b=(s.heap.push {cls:=.type "range",data:=.fields #[.int lo t,.int hi u,.int c v]}).objs.size:=λb f=>by simpa using f
 cases d:Dl lo hi c with
 |true=>
  refine wpAny_pyIter_range (rQ ..) d ?_
  refine⟨(s.heap.push {cls:=.type "range",data:=.fields #[.int lo t,.int hi u,.int c v]}).objs.size,[(s.heap.push {cls:=.type "range",data:=.fields #[.int lo t,.int hi u,.int c v]}).objs.size],_,_,H,rfl,
   a.kept (t':=tk) λb o e=>bZ _ e,Js _ lo c (if lo<hi then (hi-lo-1) / c+1 else 0:Int).toNat,?_,λb f=>?_,q⟩
  ·show IsRangeIter _ _ (lo+((0:Nat):Int)*c) ((((if lo<hi then (hi-lo-1) / c+1 else 0:Int).toNat:Nat):Int)-((0:Nat):Int)) c;rw[h,g];exact eF _ rfl
  ·rw[fr b f];exact a.fpOk (bH _) (a.hok.fresh (bH _))
 |false=>
  refine wpAny_pyIter_longrange (rQ ..) d ?_
  refine⟨(s.heap.push {cls:=.type "range",data:=.fields #[.int lo t,.int hi u,.int c v]}).objs.size,[(s.heap.push {cls:=.type "range",data:=.fields #[.int lo t,.int hi u,.int c v]}).objs.size],_,_,H,rfl,
   a.kept (t':=tk) λb o e=>bZ _ e,VI _ lo c (if lo<hi then (hi-lo-1) / c+1 else 0:Int).toNat,?_,λb f=>?_,q⟩
  ·show IsLongIter _ _ (lo+((0:Nat):Int)*c) ((((if lo<hi then (hi-lo-1) / c+1 else 0:Int).toNat:Nat):Int)-((0:Nat):Int)) c;rw[h,g];exact eF _ rfl
  ·rw[fr b f];exact a.fpOk (bH _) (a.hok.fresh (bH _))
theorem uy{lo c:Int}{n:Nat}:iZ D (mU lo c n) (λ_ _ _=>True) ((eX n).map λ(i:Nat)=>T.int (lo+i*c)):=
 ⟨λi φ α H _ a=>by (show i<n);simpa using a,λi φ α H v d t _ a y=>by
  obtain⟨j,b,rfl⟩:=Yi (D:=D) (φ:=φ) (α:=α) (H:=H) a;rw[YR b];obtain⟨rfl,rfl⟩:=y;exact⟨λ_ _ z=>z,rfl⟩,λφ α H _=>by show n<=_;simp⟩
theorem YY (C:Ck D W Γ X k) (L:("range":aG)∈Γ.G) (hg:Γ.gl "range"=.none) (h:aP a=aB) (d:aP b=aB) (ha:PE X a (aX D W f)) (hb:PE X b (aX D W g)) :
  PI X tg (.Call (.Name "range" p0) [a,b] [] pos) (gZ D W (VH f g)):=by
 have M:=C.glo _ L;rw[hg] at M;rintro e s F H R I ⟨l,O,E,N,K,Y,p⟩;refine Call_ (qR I (C.glb _ L) M rV (pK (aY (zD ha (zD hb qp (z4 d)) (z4 h) pos e s F H (λJ B=>∃i j:Int,J=[.int i,.int j]/\R (mU i 1 (if i<j then (j-i-1) / 1+1 else 0:Int).toNat) B) I ?_) ?_) (by rw[z4 h,z4 d]) (by rw[z4 d];rfl)))
 ·refine⟨l,O,E,N,K,Y,p.bind.mono λx n u B v m1 V Q A=>⟨l,u,E,n,K.step v,m1,V.bind.mono λy m o H2 S Z c P z=>?_⟩⟩;cases x with
  |int i=>
   cases y with
   |int j=>
    have c:aJ D W l o H2 F _ (RE.grd (l7 i/\l7 j) (RE.ok (wL i j 1,gb) m)):=c;obtain⟨hh,c⟩:=c.grd;have A:Q=.int _:=A;have z:P=.int _:=z;subst A z;exact⟨_,_,rfl,c.ok (aO.refl _ _) Z _ _ uy (λ_ _ _ _ _ _ _=>gy) trivial⟩
   |_=>exact aJ.elim c
  |_=>exact aJ.elim c
 ·rintro us s1 ⟨J,B,I1,T,i,j,rfl,q⟩;cases T with
  |cons r w=>
   cases w with
   |cons U w=>
    cases w;obtain⟨t,rfl⟩:=r;obtain⟨t',rfl⟩:=U;exact call_range_2 (Wa I1 (by omega) q)
theorem Sr (C:Ck D W Γ X k) (o:("range":aG)∈Γ.G) (J:Γ.gl "range"=.none) (hs:aP a=aB) (K:PE X a (aX D W f)) :
  PI X tg (.Call (.Name "range" p0) [a] [] pos) (gZ D W (pP f)):=by
 have u:=C.glo _ o;rw[J] at u;rintro b s h H R I ⟨g,z,x,y,A,F,p⟩;refine Call_ (qR I (C.glb _ o) u rV (pK (aY (zD K qp (z4 hs) pos b s h H (λl w=>∃j:Int,l=[.int j]/\R (mU 0 1 (if 0<j then (j-0-1) / 1+1 else 0:Int).toNat) w) I ?_) ?_) (z4 hs) rfl))
 ·refine⟨g,z,x,y,A,F,p.bind.mono λt c e O st m q v d=>?_⟩;cases t with
  |int n=>
   have d:v=.int _:=d;subst d;have q:aJ D W g e O h _ (RE.grd (l7 n) (RE.ok (rangeT n,gb) c)):=q;obtain⟨S,q⟩:=q.grd;have M:(if 0<n then (n-0-1) / 1+1 else 0:Int).toNat=n.toNat:=by
    split
    ·rw[mo];congr 1;lia
    ·lia
   have L:((eX n.toNat).map λ(i:Nat)=>T.int (0+i*1))=rangeT n:=by
    unfold rangeT;refine pA λi _=>?_;simp
   refine⟨n,rfl,?_⟩;rw[M];exact q.ok (aO.refl _ _) m _ _ (L▸uy) (λ_ _ _ _ _ _ _=>gy) trivial
  |_=>exact aJ.elim q
 ·rintro P Q ⟨l,w,N,B,j,rfl,q⟩;cases B with
  |cons r E=>
   cases E;obtain⟨t,rfl⟩:=r;exact call_range_1 (Wa N (by lia) q)
noncomputable def c5 (N:List aG):List aI->Option (List Nat)
 |[]=>aA []
 |.Name x _::r=>match cL N x,c5 N r with
  |some i,aA a=>aA (i::a)
  |_,_=>aE
 |_::_=>aE
noncomputable def va (N:List aG):aI->Option Tg
 |.Name x _=>(cL N x).map Tg.one
 |.Tuple es _ _=>(c5 N es).map Tg.tup
 |_=>aE
noncomputable def z7:aI->List aG
 |.Name x _=>[x]
 |.Tuple es _ _=>es.filterMap λe=>match e with|.Name x _=>aA x|_=>aE
 |_=>[]
noncomputable def mR (X:Cx)(S:List aG):Prop:=∀x∈S,Loc X.env.scope x/\(X.fn x=aB\/X.env.scope.names.lookup x=aA .local)
theorem Xq(hN:X.N=N)(nd:N.Nodup)(o:mR X S):∀{es:List aI}{is:List Nat}{ts:List T}{τ a:Sl},(∀e∈es,∀x p,e=.Name x p->x∈S)->c5 N es=aA is->VX is ts τ=aA a->
  ∃t,oi X es t/\(hZ es X.env).length=ts.length/\(hZ es X.env).findIdx? (·.1)=aE/\∀{σ:St}{vs:List V}{φ α H} {Q:St->Hp->Prop},bA D φ α H τ σ->aN D φ α H ts vs->(∀j,bA D φ α H a j->Q j H)->t vs σ H Q
 |[],is,ts,τ,a,_,b,h=>by
  simp[c5] at b;subst b;cases ts with
  |nil=>
   simp[VX] at h;subst h;exact⟨E2,OO,rfl,rfl,λf l q=>⟨l,q _ f⟩⟩
  |cons _ _=>simp[VX] at h
 |e::es,is,ts,τ,a,w,b,h=>by
  cases e with
  |Name x c=>
   simp only[c5] at b;split at b
   ·rename_i i m B n;cases b;cases ts with
    |nil=>simp[VX] at h
    |cons t ts=>
     have h:VX m ts (kY τ i (aA t))=aA a:=h;have s:=w _ eG x c rfl;have y:PG X (.Name x c) (XE i):=Xo (hN▸nd) (by rw[hN];exact vh B) (o x s).1 (o x s).2;obtain⟨u,g,A,C,z⟩:=Xq hN nd o (λe E=>w e (dN _ E)) n h;refine⟨FF (XE i) u,SS y g rfl,by simpa[hZ] using A,?_,λ{σ vs φ α H Q} f l k=>?_⟩
     ·have F:hZ (.Name x c::es) X.env=(aD,hW (.Name x c) X.env)::hZ es X.env:=rfl;rw[F,List.findIdx?_cons];simp[C]
     ·obtain⟨v,r,rfl,d,l⟩:=l;exact⟨v,r,rfl,z (f.set d) l k⟩
   ·cases b
  |_=>simp[c5] at b
theorem X6(hN:X.N=N)(nd:N.Nodup)(m:mR X S)(O:X.calm=aB)(z:∀x∈z7 e,x∈S)(h0:va N e=aA tgt)(h:hO tgt t τ=aA B)(I:Inv X pins σ H s)(o:bA D φ α H τ σ)(d:aZ D φ α H t v)(r:RelV v u) :
  wpAny (aQ X.prog X.w) X.A (hW e X.env u) (λ_ G=>∃j,Inv X pins j H G/\bA D φ α H B j) X.xe s:=by
 cases e with
 |Name x y=>
  simp only[va] at h0;cases q:cL N x with
  |none=>rw[q] at h0;cases h0
  |some i=>
   rw[q] at h0;cases h0;cases (bU h:kY τ i (aA t)=B);have c:x∈S:=z x (by simp[z7]);refine aY (Xo (i:=i) (hN▸nd) (by rw[hN];exact vh q) (m x c).1 (m x c).2 pins s σ H v u (λj b=>b=H/\j=σ.set i (aA v)) I r ⟨rfl,rfl⟩) ?_;rintro _ E ⟨j,b,n,rfl,rfl⟩;exact⟨_,n,o.set d⟩
 |Tuple es F y=>
  simp only[va] at h0;cases q:c5 N es with
  |none=>rw[q] at h0;cases h0
  |some Q=>
   rw[q] at h0;cases h0;cases t with
   |tup P=>
    obtain⟨g,f,K,L,J⟩:=Xq (D:=D) hN nd m (λe M x p c=>z x (by subst c;exact nt.mpr ⟨_,M,rfl⟩)) q h;obtain⟨ad,C,rfl,_,_,q,l⟩:=d;refine aY (M4 (k:=F) (pos:=y) O f K L pins s σ H (.ref ad) u (λj b=>b=H/\bA D φ α H B j) I r ⟨ad,C,rfl,.inl q,l.length.symm,J o l λj a=>⟨rfl,a⟩⟩) ?_;rintro _ E ⟨j,b,n,rfl,a⟩;exact⟨j,n,a⟩
   |_=>cases h
 |_=>simp[va] at h0
end
theorem Rh(env:Env):∀(names:List (aG×lb)) (cs:List (aG×aF)),(∀p∈names,p.2=.free->∃c,env.cells.lookup p.1=aA c)->
  ∃cl,(forIn names cs (λ(x:aG×lb) r=>if (x.2==.free)=aB then do let a ←cellOf env x.1;pure (lx ((x.1,a)::r)) else pure (lx r)):Sem (List (aG×aF)))=pure cl/\
   (∀x c,cl.lookup x=aA c->cs.lookup x=aA c\/(env.cells.lookup x=aA c/\∃p∈names,p.1=x/\p.2=.free))/\(∀x c,cs.lookup x=aA c->∃j,cl.lookup x=aA j)/\∀p∈names,p.2=.free->∃c,cl.lookup p.1=aA c:=by
 intro names;induction names with
 |nil=>intro cs _;exact⟨cs,rfl,λx c h=>.inl h,λx c h=>⟨c,h⟩,λp d=>absurd d (by simp)⟩
 |cons p names u=>
  intro cs h;rw[sQ];by_cases d:p.2=.free
  ·obtain⟨c,v⟩:=h p eG d;have e:cellOf env p.1=pure c:=by unfold cellOf;rw[v]
   rw[if_pos (by simp[d]),e];obtain⟨cl,t,s,k,o⟩:=u ((p.1,c)::cs) λq b=>h q (dN _ b);refine⟨cl,t,λx j g=>?_,λx j g=>?_,λq b l=>?_⟩
   ·rcases s x j g with z|⟨z,q,b,n,m⟩
    ·rw[f6] at z;cases f:x==p.1 with
     |true=>
      simp[f] at z;subst z;have i:x=p.1:=by simpa using f
      exact .inr ⟨by rw[i];exact v,p,eG,i.symm,d⟩
     |false=>simp[f] at z;exact .inl z
    ·exact .inr ⟨z,q,dN _ b,n,m⟩
   ·cases f:x==p.1 with
    |true=>exact k x c (by simp[f6,f])
    |false=>exact k x j (by simp[f6,f,g])
   ·rcases cO.mp b with rfl|b
    ·exact k _ c (by simp[f6])
    ·exact o q b l
  ·rw[if_neg (by simp[d])];obtain⟨cl,t,s,k,o⟩:=u cs λq b=>h q (dN _ b);refine⟨cl,t,λx j g=>?_,k,λq b l=>?_⟩
   ·rcases s x j g with z|⟨z,q,b,n,m⟩
    ·exact .inl z
    ·exact .inr ⟨z,q,dN _ b,n,m⟩
   ·rcases cO.mp b with rfl|b
    ·exact absurd l d
    ·exact o q b l
noncomputable def Z7(sc:Scope):List aG:=(sc.names.filter λp=>p.2==.globalImplicit).map (·.1)
noncomputable def frees(sc:Scope):List aG:=(sc.names.filter λp=>p.2==.free).map (·.1)
theorem vu:x∈frees sc↔∃p∈sc.names,p.1=x/\p.2=.free:=by
 unfold frees;simp only[c7,fA,beq_iff_eq];constructor
 ·rintro⟨p,⟨c,b⟩,a⟩;exact⟨p,c,a,b⟩
 ·rintro⟨p,c,a,b⟩;exact⟨p,⟨c,b⟩,a⟩
theorem ZG(h:∀x∈frees sc,∃c,env.cells.lookup x=aA c) :
  ∃cl,mq sc env=pure cl/\(∀x c,cl.lookup x=aA c->env.cells.lookup x=aA c/\x∈frees sc)/\∀x∈frees sc,∃c,cl.lookup x=aA c:=by
 obtain⟨cl,j,i,k,g⟩:=Rh env sc.names [] λp a d=>h p.1 (vu.mpr ⟨p,a,rfl,d⟩);refine⟨cl,?_,λx c b=>?_,λx b=>?_⟩
 ·rw[←j];unfold mq;simp
 ·rcases i x c b with z|⟨z,p,a,f,e⟩
  ·simp at z
  ·exact⟨z,vu.mpr ⟨p,a,f,e⟩⟩
 ·obtain⟨p,a,rfl,d⟩:=vu.mp b;exact g p a d
section
variable {M:Model}{A:Around}{E:aC->Shared->Prop}{s:Shared}{env:Env}
noncomputable def WL(M:Model)(A:eM)(E:aC->a_->Prop)(use:Option (aC->Sem Unit))(Q:aC->a_->Prop)(a:aC)(ce:Env):Result->a_->Prop
 |.ok _,t=>(match use with
  |none=>∃m,t.heap.Ns ce.locals m/\∀g,f9 ce.locals t.heap g->Q a {t with heap:=g}
  |some u=>wpAny M A (u a) (λ_ b=>∃m,b.heap.Ns ce.locals m/\∀g,f9 ce.locals b.heap g->Q .none {b with heap:=g}) E t)
 |.error x,t=>∃m,t.heap.Ns ce.locals m/\∀g,f9 ce.locals t.heap g->wpAny M A (passOn "comprehension.variables-let-go" x ce:Sem aC) (λ_ _=>False) E {t with heap:=g}
theorem OY{mk fst:Sem aC}{use:Option (aC->Sem Unit)} 
  (h1:clausesOf e=g::gs) (h2:∀x,lm g.iter env x=pure x) (K:mq sc env=pure cl) (n:sc.kind=.function) (J:∀x∈sc.names,x.2=.local->sc.names.lookup x.1=aA .local)
  (h:wpAny M A fst (λx t1=>wpAny M A (mV x) (λit C=>wpAny M A mk (λd B=>wpAny M A (newFunctionEnv sc env.globals cl [] env.qual aE .none (aA env)) (λce w=>
    fP M A (.compStart e 0 it d {ce with scope:=eR sc env}) (WL M A E use Q d {ce with scope:=eR sc env}) w) E B) E C) E t1) E s) :
  wpAny M A (oO e sc env pos mk aD fst use) Q E s:=by
 unfold oO;rw[K,h1];have a:∀(x:aC) (t:a_),E x t->E x t:=λ_ _ z=>z;refine wpAny_bind (eI h (λx t1 G=>?_) a);refine wpAny_bind (lQ (wpAny_bind (lO (h2 x) (wpAny_bind (wpAny_holding (eI G (λit C F=>?_) a))))));refine wpAny_standIf (wpAny_bind (eI F (λd B D=>?_) a));refine wpAny_bind (wpAny_pure (wpAny_bind (eI D (λce w v=>?_) a)));dsimp only
 have H:∀y∈(sc.names.filter λx=>(x.2==.local || x.2==.cell)&&x.1 != (".0":aG)),y.2=.local->Env.kindOf {ce with scope:=eR sc env} y.1=aA .local:=
  λy i I=>lookup_relabel_local (J y (fA.mp i).1 I)
 have k:∀y∈(sc.names.filter λx=>(x.2==.local || x.2==.cell)&&x.1 != (".0":aG)).reverse,y.2=.local->Env.kindOf {ce with scope:=eR sc env} y.1=aA .local:=
  λy i=>H y (List.mem_reverse.mp i)
 refine wpAny_holding (wpAny_bind (oP (wpAny_holding (wpAny_run (le v λr o l=>?_)))));cases r with
 |error x=>
  obtain⟨m,j,b⟩:=l;refine wpAny_bind (wpAny_holding (sJ (cenv:={ce with scope:=eR sc env}) n _ o m k j λg p _ c=>?_));exact eI (b g c) (λ_ _ z=>z.elim) a
 |ok f=>
  cases use with
  |none=>
   obtain⟨m,j,b⟩:=l;exact wpAny_bind (wpAny_holding (sJ (cenv:={ce with scope:=eR sc env}) n _ o m k j λg p _ c=>wpAny_pure (b g c)))
  |some u=>
   refine wpAny_bind (mu (wpAny_bind (wpAny_holding (eI l (λ_ q b=>?_) a))));obtain⟨m,j,b⟩:=b;refine wpAny_bind (sJ (cenv:={ce with scope:=eR sc env}) n _ q m (λy i=>?_) j λg p _ c=>wpAny_pure (b g c));rcases cA.mp i with z|z
   ·exact k y (List.mem_of_mem_drop z)
   ·exact k y (DL z)
end
section
variable {prog:Program}{w:World}{A:Around}{R:Result->Shared->Prop}{s:Shared}
theorem SX(elt a iter:aI)(ifs:List aI)(scope:Scope)(pos:Pos)(it b:aC)(env:Env) :
  compTurn (.ListComp elt [⟨a,iter,ifs,0⟩] scope pos) 0 it b env=(standAt iter.pos >>= λ_=>iq it >>= λr=>match r with
   |none=>pure (.done .next)
   |some v=>nB a it v >>= λ_=>hW a env v >>= λ_=>
    (forIn ifs aB λc s=>if s=aB then isTrue c env (eval c env) >>= λok=>pure (lx ok) else pure (lx s)) >>= λok=>
     if ok=aB then (eval elt env >>= λx=>call (.builtin "list.append") [b,x] >>= λ_=>pure ()) >>= λ_=>
      again (.compLoop (.ListComp elt [⟨a,iter,ifs,0⟩] scope pos) 0 it b env)
     else again (.compLoop (.ListComp elt [⟨a,iter,ifs,0⟩] scope pos) 0 it b env)):=by rfl
noncomputable def yk(M:Model)(A:eM)(env:Env)(E:aC->a_->Prop):List aI->(Bool->a_->Prop)->a_->Prop
 |[],Q,s=>Q aB s
 |c::cs,Q,s=>wpAny M A (isTrue c env (eval c env)) (λb a=>if b=aB then yk M A env E cs Q a else Q aD a) E s
theorem QD:∀(cs:List aI) {s:a_},Q aD s->
  wpAny M A (forIn cs aD λc s=>if s=aB then isTrue c env (eval c env) >>= λok=>pure (lx ok) else pure (lx s)) Q E s
 |[],s,h=>wpAny_pure h
 |c::cs,s,h=>by
  rw[sQ];refine wpAny_bind ?_;rw[if_neg (by decide)];exact wpAny_pure (QD cs h)
theorem VV:∀(cs:List aI) {s:a_},yk M A env E cs Q s->
  wpAny M A (forIn cs aB λc s=>if s=aB then isTrue c env (eval c env) >>= λok=>pure (lx ok) else pure (lx s)) Q E s
 |[],s,h=>wpAny_pure h
 |c::cs,s,h=>by
  rw[sQ];refine wpAny_bind ?_;rw[if_pos rfl];refine wpAny_bind (aY h λb d a=>wpAny_pure ?_);cases b with
  |true=>rw[if_pos rfl] at a;exact VV cs a
  |false=>rw[if_neg (by decide)] at a;exact QD cs a
theorem YL(I:Nat->a_->Prop)
  (turn:∀n s,I n s->wpAny (aQ prog w) A (iq it) (λr u=>match r with
   |none=>R (.ok .next) u
   |some v=>wpAny (aQ prog w) A (nB d it v) (λ_ E=>wpAny (aQ prog w) A (hW d env v) (λ_ D=>yk (aQ prog w) A env (notedBy (aQ prog w) A env λx H=>R (.error x) H) ifs (λb j=>
     if b=aB then wpAny (aQ prog w) A (eval elt env) (λx C=>wpAny (aQ prog w) A (call (.builtin "list.append") [G,x]) (λ_ B=>∃m,m<n/\I m B) (λ_ _=>False) C) (notedBy (aQ prog w) A env λx H=>R (.error x) H) j else ∃m,m<n/\I m j) D) (λ_ _=>False) E) (λ_ _=>False) u) (λ_ _=>False) s)
  (n:Nat) (h:I n s):fP (aQ prog w) A (.compLoop (.ListComp elt [⟨d,iter,ifs,0⟩] scope pos) 0 it G env) R s:=by
 refine codeAny_loop rfl I (λn s l=>?_) n h;show wpAny _ _ ((compTurn (.ListComp elt [⟨d,iter,ifs,0⟩] scope pos) 0 it G env).onRaise (λx=>do oE x env;theTreesLotGoes x)) _ _ s;refine wpAny_noted ?_;rw[SX];have nx:∀{k:Type}{t:Sem k}{Q:k->a_->Prop}{s:a_}{N:aC->a_->Prop},wpAny (aQ prog w) A t Q (λ_ _=>False) s->wpAny (aQ prog w) A t Q N s:=λh=>eI h (λ_ _ q=>q) λ_ _ z=>z.elim;refine wpAny_bind (lQ (wpAny_bind (nx (aY (turn n s l) λr u c=>?_))));cases r with
 |none=>exact wpAny_pure c
 |some v=>
  refine wpAny_bind (nx (aY c λ_ E i=>?_));refine wpAny_bind (nx (aY i λ_ D g=>?_));refine wpAny_bind (aY (VV ifs g) λb j a=>?_);cases b with
  |true=>
   rw[if_pos rfl] at a ⊢;exact wpAny_bind (wpAny_bind (aY a λx C f=>wpAny_bind (nx (aY f λ_ B e=>wpAny_pure (wpAny_pure ⟨rfl,e⟩)))))
  |false=>
   rw[if_neg (by decide)] at a ⊢;exact wpAny_pure ⟨rfl,a⟩
end
noncomputable abbrev n6:XW:=λ_ _ _ _=>False
noncomputable def hL (X:Cx)(N:List aG)(sc:Scope)(cl:List (aG×aF))(C0:aF)(a:a_)(b:Hp)(fp:List aF):Cx:=
 {X with N:=N,s₀:=a,H₀:=b,env:=gU sc cl C0 X.env,outer:=X.stack,ex:=fp,fn:=λ_=>aD,pn:=[],xe:=λ_ _=>False}
noncomputable def Kx(N cel:List aG)(tg:aI)(sc:Scope):Bool:=
 (sc.kind==.function)&&sc.names.all (λp=>p.2 != .cell)&&sc.names.all (λp=>p.2 != .local || sc.names.lookup p.1==aA .local)&&
 (z7 tg).all (λx=>sc.names.lookup x==aA .local&&x != ("__debug__":aG)&&x != ("__classdict__":aG))&&(frees sc).all (λx=>(cL N x).isSome&&sc.names.lookup x==aA .free&&cel.contains x&&x != ("__debug__":aG)&&x != ("__classdict__":aG))&&decide ((z7 tg++frees sc).Nodup)&&
 (Z7 sc).all (λx=>sc.names.lookup x==aA .globalImplicit)
structure cR(N cel:List aG)(tg:aI)(sc:Scope):Prop where
 kind:sc.kind=.function
 noc:∀p∈sc.names,p.2≠.cell
 lcl:∀p∈sc.names,p.2=.local->sc.names.lookup p.1=aA .local
 own:∀x∈z7 tg,sc.names.lookup x=aA .local/\(x==("__debug__":aG))=aD/\(x==("__classdict__":aG))=aD
 fre:∀x∈frees sc,(∃i,cL N x=aA i)/\sc.names.lookup x=aA .free/\x∈cel/\(x==("__debug__":aG))=aD/\(x==("__classdict__":aG))=aD
 nd:(z7 tg++frees sc).Nodup
 glb:∀x∈Z7 sc,sc.names.lookup x=aA .globalImplicit
theorem Ue(h:Kx N cel tg sc=aB):cR N cel tg sc:=by
 unfold Kx at h;simp only[cH,f_,beq_iff_eq,bne_iff_ne,Cz,decide_eq_true_eq,ic,pD,ne_eq] at h;obtain⟨⟨⟨⟨⟨⟨q,o⟩,n⟩,m⟩,l⟩,k⟩,j⟩:=h;refine⟨q,o,λp g i=>?_,λx f=>?_,λx f=>?_,k,j⟩
 ·rcases n p g with z|z
  ·exact absurd i z
  ·exact z
 ·obtain⟨⟨a,b⟩,c⟩:=m x f;exact⟨a,by simpa using b,by simpa using c⟩
 ·obtain⟨⟨⟨⟨a,b⟩,c⟩,d⟩,e⟩:=l x f;exact⟨a,b,c,by simpa using d,by simpa using e⟩
theorem zU{env:Env}{x:aG}:∀{names:List (aG×lb)}{kd:lb},names.lookup x=aA kd->
  (names.map λ(n,k)=>if (k==oN&&env.scope.kind==.function&&env.kindOf n==aA .cell) then (n,NameKind.cell) else (n,k)).lookup x=aA (if (kd==oN&&env.scope.kind==.function&&env.kindOf x==aA .cell) then .cell else kd)
 |[],_,h=>by simp at h
 |(n,k)::r,kd,h=>by
  have c:=@zU env x r kd;rw[dC];rw[f6] at h;cases a:x==n with
  |true=>
   have b:x=n:=by simpa using a
   subst b;simp at h;subst h;dsimp only;split<;>simp_all[f6]
  |false=>
   simp only[a] at h;dsimp only;split
   ·rw[f6];simp only[a];exact c h
   ·rw[f6];simp only[a];exact c h
section
variable {X:Cx}{D:DP}{W:XW}{Γ:Cn}{k:Nat}{pins:List (aF×bD)}{s2:Shared}{σ:St}{H2:Hp}{φ α:List aF}{τ:Sl}{tg:aI}{sc:Scope}{cl:List (aG×aF)}{fp:List aF}
noncomputable def VB (N:List aG)(σ:St)(fs:List aG):St:=fs.map λx=>(cL N x).bind λi=>(σ[i]?).join
noncomputable def js (N:List aG):List aG->Option (List Nat)
 |[]=>aA []
 |x::r=>match cL N x,js N r with
  |some i,aA a=>aA (i::a)
  |_,_=>aE
theorem Vi:∀(n:Nat) {fs:List Nat}{τ:Sl},gM n fs τ=lu n aE++Kv fs τ
 |0,_,_=>rfl
 |n+1,fs,τ=>by
  show aE::gM n fs τ=_;rw[Vi n];rfl
theorem uP:∀{fs:List Nat}{τ:Sl},(Kv fs τ).length=fs.length
 |[],_=>rfl
 |i::r,τ=>by show (Kv r τ).length+1=_;rw[uP];rfl
theorem uU:∀{N xs:List aG}{fs:List Nat},js N xs=aA fs->fs.length=xs.length
 |N,[],fs,h=>by cases h;rfl
 |N,x::r,fs,h=>by
  simp only[js] at h;split at h
  ·rename_i i b c a;cases h;simp[uU a]
  ·cases h
theorem Jy(b:bA D φ α H τ σ):∀{xs:List aG}{fs:List Nat},js N xs=aA fs->∀(j:Nat) (t:T),(Kv fs τ)[j]?=aA (aA t)->∃v,(VB N σ xs)[j]?=aA (aA v)/\aZ D φ α H t v
 |[],fs,h,j,t,e=>by cases h;simp[Kv] at e
 |x::r,fs,h,j,t,e=>by
  simp only[js] at h;split at h
  ·rename_i i c g f;cases h;cases j with
   |zero=>
    have e:aA (Vj τ i)=aA (aA t):=e;obtain⟨v,a,d⟩:=b.get (bU e);exact⟨v,by simp[VB,g,a],d⟩
   |succ j=>
    have e:(Kv c τ)[j]?=aA (aA t):=e;obtain⟨v,a,d⟩:=Jy b f j t e;exact⟨v,by simpa[VB] using a,d⟩
  ·cases h
theorem Pl{N:List aG}{H:Hp}{ns xs:List aG}{fs:List Nat}(b:bA D φ α H τ σ)(h:js N xs=aA fs):bA D φ α H (gM ns.length fs τ) (ns.map (λ_=>aE)++VB N σ xs):=by
 rw[Vi];refine⟨by simp[uP,uU h,VB],λj t e=>?_⟩;rcases Cj j ns.length with a|a
 ·rw[dP (by simpa using a),pv] at e;split at e<;>cases e
 ·rw[fN (by simpa using a)] at e;rw[fN (by simpa using a)];simp only[bP,D5] at e ⊢;exact Jy b h _ t e
theorem K7(C:Ck D W Γ X k)(ok:cR Γ.N Γ.cel tg sc)(g:Inv X pins σ H2 s2)(hf:∀b∈fp, Wv X pins H2 b)(hfo:∀b∈fp, ∃o, s2.heap.get? b=aA o)(f:∀x c, cl.lookup x=aA c->X.env.cells.lookup x=aA c/\x∈frees sc)(s:∀x∈frees sc, ∃c, cl.lookup x=aA c)
 (V : h1.Ns (s2.heap.objs.size + 1) (fun _ => aE)) (L : f9 (s2.heap.objs.size + 1) ((s2.heap.push { cls := .type "list", data := .seq ([] : List aC).toArray }).push { cls := .type "dict", data := .dict #[] }) h1) :
    Inv X pins σ (upd H2 s2.heap.objs.size (.lst [])) {s2 with heap:=s2.heap.push {cls:=.type "list", data:=.seq ([]:List aC).toArray}}/\
    Inv (hL X (z7 tg ++ frees sc) sc cl (s2.heap.objs.size + 1) { s2 with heap := s2.heap.push { cls := .type "list", data := .seq ([] : List aC).toArray } } (upd H2 s2.heap.objs.size (.lst [])) fp) []
      ((z7 tg).map (λ_=>aE)++VB Γ.N σ (frees sc)) (upd H2 s2.heap.objs.size (.lst [])) {s2 with heap:=h1, toks:=tk}:=by
  have l:Inv X pins σ (upd H2 s2.heap.objs.size (.lst [])) {s2 with heap:=s2.heap.push {cls:=.type "list", data:=.seq ([]:List aC).toArray}}:=g.lnew (its:=[]) (t':=s2.toks) .nil (by simp);refine⟨l, ?_⟩;generalize hA:s2.heap.push {cls:=.type "list", data:=.seq ([]:List aC).toArray}=Q at L l ⊢;have I:Q.objs.size=s2.heap.objs.size+1:=by rw[←hA, gX]
  have n:∀b o, Q.get? b=aA o->h1.get? b=aA o:=λb o e=>L.extBut b o (by rw[←I];exact d6 (cG e)) (bZ _ e);have fresh:(upd H2 s2.heap.objs.size (.lst [])) (s2.heap.objs.size+1)=aE:=by rw[←I];exact l.hok.fresh (bH _)
  have A:∀x∈frees sc, (hL X (z7 tg++frees sc) sc cl (s2.heap.objs.size+1) {s2 with heap:=Q} (upd H2 s2.heap.objs.size (.lst [])) fp).env.kindOf x=aA .cell\/(hL X (z7 tg++frees sc) sc cl (s2.heap.objs.size+1) {s2 with heap:=Q} (upd H2 s2.heap.objs.size (.lst [])) fp).env.kindOf x=aA .free:=λx E=>by
    have:=zU (env:=X.env) (ok.fre x E).2.1;show (eR sc X.env).names.lookup x=aA .cell\/(eR sc X.env).names.lookup x=aA .free;unfold eR;dsimp only;rw[this];split
    · exact .inl rfl
    · exact .inr rfl
  refine⟨⟨g.ok.mod, ok.kind, g.ok.glob, g.ok.blt, ?_, ?_, ?_, λx c h=>absurd h (by simp[hL]), g.ok.hd, g.ok.frames, .inl rfl, ?_, ?_, ?_, ?_, ?_, ?_, ?_⟩, rfl, g.bare, Un.kept n, ⟨_, V, ?_⟩, ?_, fresh, ?_, λp U=>absurd U (by simp[hL]), l.hok.kept n, ?_⟩
  · show Q.objs.size <= s2.heap.objs.size + 1;lia
  · intro x y c h1 h2;exact g.ok.inj x y c (f x c h1).1 (f y c h2).1
  · intro x E;have B:(eR sc X.env).names.lookup x=aA .cell\/(eR sc X.env).names.lookup x=aA .free:=E;by_cases hm:x∈frees sc
    · exact s x hm
    · exfalso;cases q:sc.names.lookup x with
      |none=>
        have:(eR sc X.env).names.lookup x=aE:=by
          unfold eR;dsimp only;rw[List.lookup_eq_none_iff] at q ⊢;intro p U;obtain⟨p0, T, rfl⟩:=c7.mp U;have:=q p0 T;try dsimp only
          split<;>exact this
        rw[this] at B;rcases B with z|z<;>cases z
      |some S=>
        have hr:=zU (env:=X.env) q;have d:=B;unfold eR at d;dsimp only at d;rw[hr] at d;have r:(x, S)∈sc.names:=iS q;by_cases F:S=.free
        · exact hm (vu.mpr ⟨_, r, rfl, F⟩)
        · have e : (S == oN) = aD := by simpa using F
          rw[e] at d;simp only[CT, mI, if_false, o0] at d;rcases d with z|z
          · exact ok.noc _ r z
          · exact F z
  · intro b t;obtain⟨f0, f1, f2, f3, f4, f5⟩:=hf b t;obtain⟨o, M⟩:=hfo b t;refine⟨?_, λx c h=>f4 x c (f x c h).1⟩;show b≠s2.heap.objs.size+1;exact d6 (nl (cG M))
  · intro b o e;exact l.bs b o e
  · exact cT l.ok.bsz l.sz
  · intro b o e t;obtain⟨f0, f1, f2, f3, f4, f5⟩:=hf b t;rcases f3 with z|z
    · exact g.ok.noex b o e z
    · exact absurd (dL (cG e) (cT g.ok.bsz z)) (iz _)
  · intro b t Z;obtain⟨f0, f1, f2, f3, f4, f5⟩:=hf b t;rcases cO.mp (g.stkSub b Z) with z|z
    · exact f1 z
    · exact f2 z
  · exact l.stack
  · intro b t;exact l.stkFree b t
  · intro i x v hN a hv;obtain⟨m, hn, hl⟩:=g.loc;by_cases hi:i<(z7 tg).length
    · exfalso;rw[dP (by simpa using hi), c9] at a;cases q:(z7 tg)[i]? with
      |none=>rw[q] at a;cases a
      |some y=>rw[q] at a;cases a
    · have P:(frees sc)[i-(z7 tg).length]?=aA x:=by
        have:(z7 tg++frees sc)[i]?=aA x:=hN;rwa[fN (by lia)] at this
      rw[fN (by simpa using hi)] at a;simp only[bP] at a;unfold VB at a;rw[c9, P] at a;simp only[o_, o0] at a;have E:x∈frees sc:=cP P;obtain⟨⟨j, Y⟩, _, G, _⟩:=ok.fre x E;rw[Y] at a;simp only[sK] at a;cases u:σ[j]? with
      |none=>rw[u] at a;cases a
      |some o=>
        rw[u] at a;simp only[Option.join_some] at a;subst a;obtain⟨w, R, lk⟩:=hl j x v (by rw[C.hN];exact vh Y) u (C.vis x (wD Y));refine⟨w, R, .inr ⟨A x E, ?_⟩⟩;have K:=C.cel x G;rcases lk with⟨z, _⟩|⟨_, c, hc, H⟩
        · rw [z] at K;rcases K with K|K<;>cases K
        · obtain ⟨c', O⟩ := s x E;have:=(f x c' O).1;rw[hc] at this;cases this;refine⟨c, O, ?_⟩;obtain⟨J, M, hd⟩:=H;exact⟨J, n c J (by rw[←hA];exact bZ _ M), hd⟩
  · intro x c h;obtain⟨v, J, M, hd⟩:=g.cell x c (f x c h).1;exact⟨v, J, n c J (by rw[←hA];exact bZ _ M), hd⟩
  · intro x c h;exact (l.freeC x c (f x c h).1).imp id λz=>⟨rfl, z.2⟩
  · show _ = (z7 tg ++ frees sc).length;simp[VB]
end
section
variable {X:Cx}{D:DP}{W:XW}{Γ:Cn}{k:Nat}{pins:List (aF×bD)}{s:Shared}{σ:St}{H:Hp}{φ α:List aF}{τ:Sl}{μ:aK}{tg:aI}{sc:Scope}{fp:List aF}
noncomputable def inComp(Γ:Cn)(tg:aI)(sc:Scope):Cn:={Γ with N:=z7 tg++frees sc,G:=(Z7 sc).filter Γ.U.contains,cel:=frees sc,lam:=aE}
theorem Ra(C:Ck D W Γ X k)(ok:cR Γ.N Γ.cel tg sc) 
  (f:∀e s,XP {(hL X (z7 tg++frees sc) sc cl C0 j u fp) with pn:=pn,xe:=xe} W' e s->xe e s):Ck D W' (inComp Γ tg sc) {(hL X (z7 tg++frees sc) sc cl C0 j u fp) with pn:=pn,xe:=xe} k:=by
 have b:∀x∈frees sc,(eR sc X.env).names.lookup x=aA .cell\/(eR sc X.env).names.lookup x=aA .free:=λx c=>by
  have:=zU (env:=X.env) (ok.fre x c).2.1;unfold eR;dsimp only;rw[this];split
  ·exact .inl rfl
  ·exact .inr rfl
 have a:∀{x d},sc.names.lookup x=aA d->d≠.free->(eR sc X.env).names.lookup x=aA d:=λ{x d} h g=>by
  have:=zU (env:=X.env) h;unfold eR;dsimp only;rw[this];have e:(d==oN)=aD:=by simpa using g
  simp[e]
 refine⟨C.hK,rfl,ok.nd,λx c=>?_,λx c=>?_,λx c=>?_,λx c=>?_,λx c=>?_,C.glU,b,C.isi,C.fld,C.xcx,C.ocx,C.clv,C.clm,C.rom,C.rmh,f,?_,c6.no rfl,λh=>by cases h⟩
 ·rcases cA.mp c with h|h
  ·exact .inl (a (ok.own x h).1 (by decide))
  ·rcases b x h with z|z
   ·exact .inr (.inl z)
   ·exact .inr (.inr z)
 ·rcases cA.mp c with h|h
  ·exact (ok.own x h).2
  ·exact (ok.fre x h).2.2.2
 ·exact (C.glU x (by have:=(fA.mp c).2;simpa using this)).2
 ·exact a (ok.glb x (fA.mp c).1) (by decide)
 ·exact (C.glU x (by have:=(fA.mp c).2;simpa using this)).1
 ·obtain⟨e0,out,L,F⟩:=C.frm;exact⟨e0,out,L,⟨F.stk,F.f0,F.fe⟩⟩
theorem R_(ok:cR Γ.N Γ.cel tg sc):mR (hL X (z7 tg++frees sc) sc cl C0 d j fp) (z7 tg):=λx b=>by
 have e:=zU (env:=X.env) (ok.own x b).1;have a:(eR sc X.env).names.lookup x=aA .local:=by
  unfold eR;dsimp only;rw[e];rfl
 exact⟨.inl a,.inr a⟩
theorem JP:∀{L:List aG}{i:Nat},x∈L->cL (L++M) x=aA i->i<L.length
 |[],_,h,_=>absurd h (by simp)
 |y::L,i,h,e=>by
  rw[CM] at e;simp only[cL] at e;split at e
  ·cases e;simp
  ·rename_i a;have b:x∈L:=(cO.mp h).resolve_left λz=>a z.symm;cases q:cL (L++M) x with
   |none=>rw[q] at e;cases e
   |some j=>rw[q] at e;cases e;simpa using JP b q
theorem QH(h:i<n):∀j,n<=j->(kY τ i t)[j]?=τ[j]?:=λj a=>by
 rw[Vf,cS (by lia)]
theorem Wc:∀{es:List aI}{is:List Nat}{ts:List T}{τ a:Sl},(∀e∈es,∀x p,e=.Name x p->x∈L)->c5 (L++M) es=aA is->VX is ts τ=aA a->∀j,L.length<=j->a[j]?=τ[j]?
 |[],is,ts,τ,a,_,b,h=>by
  cases b;cases ts with
  |nil=>cases h;exact λ_ _=>rfl
  |cons _ _=>cases h
 |e::es,is,ts,τ,a,f,b,h=>by
  cases e with
  |Name x k=>
   simp only[c5] at b;split at b
   ·rename_i i c l d;cases b;cases ts with
    |nil=>cases h
    |cons t ts=>
     intro j g;rw[Wc (λe m=>f e (dN _ m)) d (show VX c ts (kY τ i (aA t))=aA a from h) j g];exact QH (JP (f _ eG x k rfl) l) j g
   ·cases b
  |_=>simp[c5] at b
theorem UN(h0:va (z7 e++M) e=aA tgt)(h:hO tgt t τ=aA d):∀j,(z7 e).length<=j->d[j]?=τ[j]?:=by
 cases e with
 |Name x a=>
  simp only[va] at h0;cases q:cL (z7 (.Name x a)++M) x with
  |none=>rw[q] at h0;cases h0
  |some i=>
   rw[q] at h0;cases h0;cases (bU h:kY τ i (aA t)=d);exact QH (JP (by simp[z7]) q)
 |Tuple es b a=>
  simp only[va] at h0;cases q:c5 (z7 (.Tuple es b a)++M) es with
  |none=>rw[q] at h0;cases h0
  |some k=>
   rw[q] at h0;cases h0;cases t with
   |tup g=>exact Wc (λe f x p c=>by subst c;exact nt.mpr ⟨_,f,rfl⟩) q h
   |_=>cases h
 |_=>simp[va] at h0
noncomputable def Kl (X:Cx)(D:DP)(W:XW):List aI->List Dt->Prop
 |[],[]=>True
 |e::es,f::fs=>PT X e (eJ D W f)/\Kl X D W es fs
 |_,_=>False
theorem Gw{M:Model}{A:eM}{β:Type}{R:β->aK->List aF->Hp->Prop}{fe:De}{kk:Option T->aK->RE β}{Qf:Bool->a_->Prop}:∀{cs:List aI}{fs:List Dt}{s:a_}{H:Hp}{α:List aF}{μ:aK},Kl X D W cs fs->Inv X pins σ H s->bA D φ α H τ σ->aL D φ α H μ->aJ D W φ α H σ R ((u3 fs fe τ μ).bind kk)->
  (∀C u d j,Inv X pins σ u C->aO α H d u->bA D φ d u τ σ->aL D φ d u j->aJ D W φ d u σ R ((fe τ j).bind λy B=>kk (aA y) B)->Qf aB C)->
  (∀C u d j,Inv X pins σ u C->aO α H d u->bA D φ d u τ σ->aL D φ d u j->aJ D W φ d u σ R (kk aE j)->Qf aD C)->
  yk (aQ X.prog X.w) X.A X.env X.xe cs Qf s
 |[],[],s,H,α,μ,_,I,l,m,p,n,_=>n s H α μ I (aO.refl _ _) l m p
 |[],_::_,_,_,_,_,h,_,_,_,_,_,_=>h.elim
 |_::_,[],_,_,_,_,h,_,_,_,_,_,_=>h.elim
 |c::cs,f::fs,s,H,α,μ,h,I,l,m,p,n,o=>by
  have p:aJ D W φ α H σ R ((f τ μ).bind λb B=>(RE.br b (u3 fs fe τ B) (.ok aE B)).bind kk):=p;refine aY (E8 h.1 I l m p) ?_;rintro b r ⟨t,B,k,q,e,g,i,p1⟩;cases b with
  |true=>
   rw[if_pos rfl];exact Gw (M:=M) (A:=A) h.2 q g i p1 (λC u d j a b=>n C u d j a (e.trans b)) (λC u d j a b=>o C u d j a (e.trans b))
  |false=>
   rw[if_neg (by decide)];exact o r t k B q e g i p1
end
section
variable {X:Cx}{D:DP}{W:XW}{Γ:Cn}{k:Nat}{pins:List (aF×bD)}{s:Shared}{σ:St}{H:Hp}{φ α:List aF}{τ:Sl}{μ:aK}{tg iter elt:aI}{sc:Scope}{fp:List aF}{pos pos':Pos}
theorem yp(h:∀e s,E e s->d e s):∀{cs:List aI}{s:a_},yk M A env E cs Q s->yk M A env d cs Q s
 |[],_,q=>q
 |c::cs,s,q=>eI q (λb f a=>by
  cases b with
  |true=>rw[if_pos rfl] at a ⊢;exact yp h a
  |false=>rw[if_neg (by decide)] at a ⊢;exact a) h
theorem fF.but{T:aF}{h g:aT}(t:fF h x T cls d fl)(sb:f9 C0 h g)(l:x≠C0)(n:T≠C0):fF g x T cls d fl:=by
 obtain⟨j,vs,a0,k,ts,ho,m,hd,c,b,i,e,f,o,a⟩:=t;exact⟨j,vs,a0,k,ts,sb.extBut x j l ho,m,hd,c,b,i,sb.extBut T k n e,f,o,a⟩
theorem uj(I:Inv X pins σ H s)(c:dX X H C0)(d:∀q∈pins,q.1≠C0)(sb:f9 C0 s.heap h'):Inv X pins σ H {s with heap:=h'}:=
 Jc (ch:=[C0]) I (λb f=>by rw[bV.mp f];exact⟨c,d⟩) (λb o _ a e=>sb.extBut b o (λz=>a (by simp[z])) e) λb o _ a e=>⟨o.slots,sb.extBut b o (λz=>a (by simp[z])) e⟩
inductive oo(D:DP)(Xb:Cx)(tn:Nat->aT->Prop)(fp φ1 α1:List aF)(H2:Hp)(acc:aF)(bl:Sl)(xs:List T)(P:Nat->List T->aK->Prop)(n:Nat)(s':Shared):Prop where
 |mk (i:Nat) (σ':St) (H':Hp) (α':List aF) (μ':aK) (yT:List T) (yV:List V) (e:n=xs.length-i) (hi:i<=xs.length) (iv:Inv Xb [] σ' H' s') (t:tn i s'.heap) (fr:∀b∈fp,H' b=aE) (st:aO α1 H2 α' H') (mr:aL D φ1 α' H' μ') (sr:bA D φ1 α' H' bl σ') (ac:H' acc=aA (.lst yV)) (dl:aN D φ1 α' H' yT yV) (hy:yT.length<=i) (q:P i yT μ')
inductive lG(D:DP)(φ1 α1:List aF)(H2:Hp)(Z0:Xp)(cls:aC)(d:Option aF)(_:St)(He:Hp):Prop where
 |mk (c:Nat) (fs':List (Nat×T)) (μ':aK) (α':List aF) (z:Z0 c fs' μ') (st:aO α1 H2 α' He) (m:aL D φ1 α' He μ') (ad:iG D c fs' cls) (xd:bW D φ1 α' He fs' d)
structure BK(Xb X:Cx)(env:Env)(N:List aG):Prop where
 pr:Xb.prog=X.prog
 w:Xb.w=X.w
 K:Xb.K=X.K
 A:Xb.A=X.A
 en:Xb.env=env
 ca:Xb.calm=X.calm
 st:Xb.stack=X.stack
 N:Xb.N=N
theorem yb{β:Type}{R:β->aK->List aF->Hp->Prop}{fi:Di}{tgt:Tg}{cs:List Dt}{fe:De}{kk:List T->aK->RE β}{use:Option (aC->Sem Unit)} 
  (C:Ck D W Γ X k) (hc:Γ.calm=aB) (ok:cR Γ.N Γ.cel tg sc) (hfs:js Γ.N (frees sc)=aA fs) (htg:va (z7 tg++frees sc) tg=aA tgt) (hi:PI X tg iter (gZ D W fi)) (hel:∀X' W',Ck D W' (inComp Γ tg sc) X' k->PE X' elt (aX D W' fe)) (hts:∀X' W',Ck D W' (inComp Γ tg sc) X' k->Kl X' D W' ifs cs) (hs:∀x,lm iter X.env x=pure x)
  (I:Inv X pins σ H s) (sr:bA D φ α H τ σ) (mr:aL D φ α H μ)
  (p:aJ D W φ α H σ R ((fi τ μ).go λxs o μ1=>.grd (xs.length<=aU) ((zT tgt (u3 cs fe) o (gM (z7 tg).length fs τ) xs μ1).bind kk)))
  (Kq:∀acc C0 s' Q H1 H' U ys vs Y,Inv X pins σ H' s'->aO α H Q H1->aO Q H1 U H'->H1 acc=aE->acc∉φ->acc∉Q->bA D (φ++[acc]) U H' τ σ->aL D (φ++[acc]) U H' Y->H' acc=aA (.lst vs)->aN D (φ++[acc]) U H' ys vs->aJ D W φ Q H1 σ R (kk ys Y)->dX X H' C0->(∀q∈pins,q.1≠C0)->(∃m,s'.heap.Ns C0 m)->
   (match use with
    |none=>∃m,s'.heap.Ns C0 m/\∀g,f9 C0 s'.heap g->Qf (.ref acc) {s' with heap:=g}
    |some u=>wpAny (aQ X.prog X.w) X.A (u (.ref acc)) (λ_ t2=>∃m,t2.heap.Ns C0 m/\∀g,f9 C0 t2.heap g->Qf .none {t2 with heap:=g}) X.xe s')) :
  wpAny (aQ X.prog X.w) X.A (oO (.ListComp elt [⟨tg,iter,ifs,0⟩] sc pos) sc X.env pos' (newList []) aD (eval iter X.env) use) Qf X.xe s:=by
 obtain⟨cl,hclos,hcl,hcl2⟩:=ZG (sc:=sc) (env:=X.env) λx hx=>I.ok.has x (C.cel x (ok.fre x hx).2.2.1)
 refine OY (use:=use) rfl hs hclos ok.kind ok.lcl (aY (hi pins s σ H (λJ H2=>∃xs o μ1 Q Ok,iZ D J Ok xs/\BP D φ Q H2 xs o Ok/\o μ1/\aO α H Q H2/\aL D φ Q H2 μ1/\
  aJ D W φ Q H2 σ R (.grd (xs.length<=aU) ((zT tgt (u3 cs fe) o (gM (z7 tg).length fs τ) xs μ1).bind kk))) I
  ⟨φ,α,τ,μ,sr,mr,(show aJ D W φ α H σ R ((fi τ μ).re.bind λpr μ1=>.grd (pr.1.length<=aU) ((zT tgt (u3 cs fe) pr.2 (gM (z7 tg).length fs τ) pr.1 μ1).bind kk)) from p).bind.mono λpr Y U H' st m q J Ok iv okk lv=>⟨pr.1,pr.2,Y,U,Ok,iv,okk,lv,st,m,q⟩⟩) λv s1 h1=>aY h1 λitv l h2=>?_)
 obtain⟨it,fp,tn,J,H2,rfl,I2,Tn,tn0,f2,xs,Lv,μ1,Q,Ok,iv,okk,lv1,st1,mr1,p1⟩:=h2;obtain⟨hroom,K0,Z0,q0,hk0,hz0⟩:=p1.grd;have fo:∀b∈fp,∃o,l.heap.get? b=aA o:=λb P=>let ⟨o,e,_⟩:=Tn.obj 0 _ tn0 b P;⟨o,e⟩;refine mH (DK ok.noc (by intro y hy;simp at hy) (λh₁ hns₁ hsb₁=>?_) ok.kind);have sz:(l.heap.push {cls:=.type "list",dict:=aE,data:=.seq ([]:List aC).toArray}).objs.size=l.heap.objs.size+1:=gX ..;dsimp only at hns₁ hsb₁ ⊢;rw[sz] at hns₁ hsb₁ ⊢;have hns:h₁.Ns (l.heap.objs.size+1) (λ_=>aE):=by simpa using hns₁
 obtain⟨I3,J0⟩:=K7 (tk:=l.toks+([]:List (aG×aC)).length) C ok I2 f2 fo hcl hcl2 hns hsb₁;have hD:H2 l.heap.objs.size=aE:=I2.hok.fresh (bH _);have nph:l.heap.objs.size∉φ:=zm mr1 hD;have nal:l.heap.objs.size∉Q:=zo mr1 hD;have old:∀b o,l.heap.get? b=aA o->h₁.get? b=aA o:=λb o e=>hsb₁.extBut b o (d6 (nl (cG e))) (bZ _ (bZ _ e));have n3:({l with heap:=l.heap.push {cls:=.type "list",data:=.seq ([]:List aC).toArray}}:a_).heap.get? (l.heap.objs.size+1)=aE:=lp (by show (l.heap.push _).objs.size<=_;rw[gX];exact bH _);have xo0:=xu I3 n3;have pn3:∀q∈pins,q.1≠l.heap.objs.size+1:=λq hq z=>by
  have:=(I3.pin q (dU _ hq)).1;rw[z,n3] at this;cases this
 generalize hS3:({l with heap:=l.heap.push {cls:=.type "list",data:=.seq ([]:List aC).toArray}}:a_)=S3 at I3 J0 n3;generalize hH3:upd H2 l.heap.objs.size (.lst [])=H3 at I3 J0 xo0;generalize hXb:hL X (z7 tg++frees sc) sc cl (l.heap.objs.size+1) S3 H3 fp=B at J0;have f:BK B X (gU sc cl (l.heap.objs.size+1) X.env) (z7 tg++frees sc):=by subst hXb;exact⟨rfl,rfl,rfl,rfl,rfl,rfl,rfl,rfl⟩
 have sto:mR B (z7 tg):=by subst hXb;exact R_ (Γ:=Γ) ok
 have cm:B.calm=aB:=by rw[f.ca];exact C.clm hc
 have back:∀{s4:a_}{σ4:St}{H4:Hp}{E:List (aF×bD)},Inv B E σ4 H4 s4->Inv X pins σ H4 s4:=λ{s4 σ4 H4 E} I4=>by
  subst hXb;exact I3.call' (ch:=fp) I4.os I4.base I4.hok I4.bare λb P=>by
   obtain⟨f0,f1,f2',f3,f4,f5⟩:=f2 b P;exact⟨f3,f1,f4,f5⟩
 have fpk:∀{H':Hp},(∀b∈fp,H' b=aE)->∀b∈fp,Wv B [] H' b:=λhn b P=>by
  obtain⟨f0,f1,f2',f3,f4,f5⟩:=f2 b P;obtain⟨o,ho⟩:=fo b P;subst hXb;refine⟨hn b P,d6 (nl (cG ho)),λz=>?_,.inl P,λx c h=>f4 x c (hcl x c h).1,λq hq=>absurd hq (by simp[hL])⟩;rcases cO.mp (I2.stkSub b z) with z|z
  ·exact f1 z
  ·exact f2' z
 have TnI:=Tn.item B f.pr f.w f.K cm;have TnD:=Tn.done B f.pr f.w f.K cm;obtain⟨e0,out,L,F⟩:=C.frm;have ce:(gU sc cl (l.heap.objs.size+1) X.env).frame=aA L:=F.fe;obtain⟨NB,hNB⟩:∃NB:aC->a_->Prop,NB=notedBy (aQ X.prog X.w) X.A (gU sc cl (l.heap.objs.size+1) X.env) (λx s'=>WL (aQ X.prog X.w) X.A X.xe use Qf (.ref l.heap.objs.size) (gU sc cl (l.heap.objs.size+1) X.env) (.error x) s'):=⟨_,rfl⟩
 have leave:∀{E:List (aF×bD)}{e:aC}{t:a_},(∀b∈fp,∃o,(b,o)∈E)->XP (Cx.pin' B E) (lG D (φ++[l.heap.objs.size]) Q H2 Z0) e t->
   NB e t:=λ{E e t} hpp xp=>by
  have Fb:i3 (Cx.pin' B E) e0 out L:=⟨by show B.stack=_;rw[f.st];exact F.stk,F.f0,by show B.env.frame=_;rw[f.en];exact ce⟩;have hfr:X.A.frames=aA (Cx.pin' B E).stack:=by show _=aA B.stack;rw[f.st];exact I.ok.frames
  rw[hNB];unfold notedBy;rw[show gU sc cl (l.heap.objs.size+1) X.env=(Cx.pin' B E).env from f.en.symm];refine ug (X:=Cx.pin' B E) Fb hfr xp λx cls d σe He T h' ee Ie ox oT tr w=>?_;subst ee;have en:(Cx.pin' B E).env=gU sc cl (l.heap.objs.size+1) X.env:=f.en;rw[en];have Iu:Inv B E σe He {t with heap:=h'}:=zY Ie;have IX:=back Iu;have nw:∀b,dX (Cx.pin' B E) He b->dX X He b/\b≠l.heap.objs.size+1:=λb o=>by
   have P:b∉fp:=λz=>by
    obtain⟨ob,hm⟩:=hpp b z;exact o.pin (b,ob) (dU _ hm) rfl
   have h3:S3.heap.get? b=aE:=by
    have:=o.new;subst hXb;exact this.resolve_left P
   have q:=xu I3 h3;refine⟨⟨o.free,q.loc,q.nfs,q.new,q.cel,q.pin⟩,?_⟩;have:=o.loc;have e2:(Cx.pin' B E).env.locals=l.heap.objs.size+1:=by rw[en];rfl
   rw[e2] at this;exact this
  have xoC:dX X He (l.heap.objs.size+1):=⟨by have:=Iu.free;rw[f.en] at this;exact this,xo0.loc,xo0.nfs,xo0.new,xo0.cel,xo0.pin⟩;obtain⟨m,hm,_⟩:=Iu.loc;rw[f.en] at hm;refine⟨m,hm,λg sb=>?_⟩;have sb':f9 (l.heap.objs.size+1) h' g:=sb;have Ig:Inv X [] σ He {t with heap:=g}:=(uj IX xoC pn3 sb').pins_of λp hp=>absurd hp (by simp);have tg':=tr.but sb' (nw x ox).2 (nw T oT).2;unfold Ci;obtain⟨oe,vs',a0,oT',ts,ho,hcc,hd,hv0,hv1,hT,hoT,hdT,h3,_⟩:=id tg';refine wpAny_bind (ix ho hd hv1 ?_);rw[if_neg (show ¬((cY T==eY)=aB) from by simp)];have go:∀{t2:a_},XP X W (.ref x) t2->wpAny (aQ X.prog X.w) X.A (throw (cY x):Sem aC) (λ_ _=>False) X.xe t2:=λ{t2} xp=>wpAny_throw (C.xe _ _ xp);have fin:wpAny (aQ X.prog X.w) X.A (mj (.ref x) (gU sc cl (l.heap.objs.size+1) X.env).frame) (λ_ t2=>XP X W (.ref x) t2) X.xe {t with heap:=g}:=by
   refine wH (s:={t with heap:=g}) Ig (nw x ox).1 (nw T oT).1 tg' λh4 I4 tr4=>?_;obtain⟨c,fs',Y,U,z,stp,m',ad,xd⟩:=w;refine⟨x,cls,d,σ,He,aA T,cV L,rfl,I4,(nw x ox).1,λt ht=>?_,?_,.inr ⟨L,F.fe,rfl⟩,?_⟩
   ·have:t=T:=by simpa using ht
    rw[this];exact (nw T oT).1
   ·rw[ce] at tr4;exact tr4
   ·refine hz0 c fs' Y z U He cls d stp (m'.lk qI (λa ha=>⟨rfl,λz=>m'.dis a ha (dM _ z)⟩) λb P=>m'.phi b (dM _ P)) ad (xd.lk qI)
  first
   |exact wpAny_bind (aY fin λ_ t2 xp=>go xp)
   |exact wpAny_bind (wpAny_pure (wpAny_bind (aY fin λ_ t2 xp=>go xp)))
 have loop:fP (aQ X.prog X.w) X.A (.compLoop (.ListComp elt [⟨tg,iter,ifs,0⟩] sc pos) 0 (.ref it) (.ref l.heap.objs.size) (gU sc cl (l.heap.objs.size+1) X.env)) (WL (aQ X.prog X.w) X.A X.xe use Qf (.ref l.heap.objs.size) (gU sc cl (l.heap.objs.size+1) X.env)) {l with heap:=h₁,toks:=l.toks+([]:List (aG×aC)).length}:=by
  obtain⟨LI,hLI⟩:∃LI:Nat->a_->Prop,LI=oo D B tn fp (φ++[l.heap.objs.size]) Q H2 l.heap.objs.size (gM (z7 tg).length fs τ) xs (λi yT Y=>Lv Y/\zT tgt (u3 cs fe) Lv (gM (z7 tg).length fs τ) (xs.drop i) Y (λbX μ2=>kk (yT++bX) μ2 K0 Z0) Z0):=⟨_,rfl⟩;refine YL LI ?_ xs.length ?_
  ·intro n s' h0;rw[hLI] at h0;obtain⟨i,σ',H',U,Y,yT,yV,rfl,hi',Iv,tni,fr,stp,mr',sr',hacc,dly,hyl,lv',hcmi⟩:=h0;have okH:Ok (φ++[l.heap.objs.size]) U H':=okk _ U H' Y ((y6 hD).trans stp.lk) mr' lv';by_cases hlt:i<xs.length
   ·have TI:=TnI i [] s' σ' H' (λ_ _=>False) Iv (fpk fr) tni (iv.go i _ _ H' okH (by lia));rw[f.A] at TI;refine aY TI ?_;rintro r s4 ⟨u,rfl,h4⟩;refine aY h4 ?_;rintro _ s5 ⟨x,H5,I5,r5,y5,tn5,fr5⟩;obtain⟨sm5,dx'⟩:=iv.yld i _ _ H' x H5 xs[i] okH (by simp[hlt]) y5;have stp:=stp.trans (aO.new (α:=U) sm5);have sr':=sr'.step (aO.new (α:=U) sm5);have mr':=mr'.new sm5;have hacc:=sm5 _ _ hacc;have dly:=dly.step (aO.new (α:=U) sm5);have hdr:xs.drop i=xs[i]::xs.drop (i+1):=D_ hlt;rw[hdr] at hcmi;obtain⟨τ',ha,hfe⟩:=hcmi;have I5':=I5.pinned (fpk fr5) (Tn.obj _ _ tn5);have A6:=X6 (S:=z7 tg) (X:=B) f.N ok.nd sto cm (λx h=>h) htg ha I5' sr' dx' r5;rw[f.pr,f.w,f.A,f.en,show B.xe=λ_ _=>False by subst hXb;rfl] at A6;refine aY A6 ?_;rintro _ s6 ⟨σ6,I6,sr6⟩;generalize hpp:([]++Zn fp s5.heap:List (aF×bD))=E at I6;have hppm:∀b∈fp,∃o,(b,o)∈E:=λb P=>by
     obtain⟨o,e,_⟩:=Tn.obj _ _ tn5 b P;exact⟨o,by rw[←hpp];exact dU _ (vZ P e)⟩
    generalize hW1:lG D (φ++[l.heap.objs.size]) Q H2 Z0=W1;have lv:∀e t,XP (Cx.pin' B E) W1 e t->NB e t:=λe t xp=>by
     rw[←hW1] at xp;exact leave hppm xp
    have ck:Ck D W1 (inComp Γ tg sc) ((Cx.pin' B E).wish (XP (Cx.pin' B E) W1)) k:=by
     subst hXb;exact Ra (W':=W1) (pn:=[]++E) (xe:=XP (Cx.pin' (hL X (z7 tg++frees sc) sc cl (l.heap.objs.size+1) S3 H3 fp) E) W1) C ok λe s p=>jM (X:=Cx.pin' (hL X (z7 tg++frees sc) sc cl (l.heap.objs.size+1) S3 H3 fp) E) p
    have I6':Inv ((Cx.pin' B E).wish (XP (Cx.pin' B E) W1)) [] σ6 H5 s6:=(VM I6).wish _
    have next:∀{s7:a_}{H7:Hp}{Z:List aF}{O:aK}{yT':List T}{yV':List V},Inv ((Cx.pin' B E).wish (XP (Cx.pin' B E) W1)) [] σ6 H7 s7->aO Q H2 Z H7->aL D (φ++[l.heap.objs.size]) Z H7 O->bA D (φ++[l.heap.objs.size]) Z H7 τ' σ6->H7 l.heap.objs.size=aA (.lst yV')->aN D (φ++[l.heap.objs.size]) Z H7 yT' yV'->yT'.length<=i+1->
      Lv O->zT tgt (u3 cs fe) Lv (gM (z7 tg).length fs τ) (xs.drop (i+1)) O (λbX μ2=>kk (yT'++bX) μ2 K0 Z0) Z0->
      ∃m,m<xs.length-i/\LI m s7:=λ{s7 H7 Z O yT' yV'} I7 st7 m7 sr7 ac7 dy7 hy7 lv7 q7=>by
     have I7u:Inv B E σ6 H7 s7:=zY I7.unwish;have pinned:∀b∈fp,∃o,s5.heap.get? b=aA o/\s7.heap.get? b=aA o/\H7 b=aE:=λb P=>by
      obtain⟨o,e,_⟩:=Tn.obj _ _ tn5 b P;have:=I7u.pin (b,o) (dU _ (by rw[←hpp];exact dU _ (vZ P e)));exact⟨o,e,this.1,this.2.1⟩
     refine⟨xs.length-(i+1),by lia,?_⟩;rw[hLI];refine⟨i+1,σ6,H7,Z,O,yT',yV',rfl,hlt,I7u.pins_of (λp hp=>absurd hp (by simp)),Tn.keep _ _ _ tn5 (λb P o e=>?_),λb P=>(pinned b P).choose_spec.2.2,st7,m7,⟨?_,λj t e=>?_⟩,ac7,dy7,hy7,lv7,q7⟩
     ·obtain⟨o',e1,e2,_⟩:=pinned b P;rw[e] at e1;cases e1;exact e2
     ·have:=I7u.len;rw[f.N] at this;rw[Vi,this];simp[uP,uU hfs]
     ·have hj:(z7 tg).length<=j:=by
       rcases Cj j (z7 tg).length with h|h
       ·rw[Vi,dP (by simpa using h),pv] at e;split at e<;>cases e
       ·exact h
      exact sr7.val j t (by rw[UN htg ha j hj];exact e)
    have P0:aJ D W1 (φ++[l.heap.objs.size]) U H5 σ6 (λ(o:Option T) O Z H7=>match o with
      |some y=>∀v,aZ D (φ++[l.heap.objs.size]) Z H7 y v->Lv O/\zT tgt (u3 cs fe) Lv (gM (z7 tg).length fs τ) (xs.drop (i+1)) O (λys μ2=>kk (yT++y::ys) μ2 K0 Z0) Z0
      |none=>Lv O/\zT tgt (u3 cs fe) Lv (gM (z7 tg).length fs τ) (xs.drop (i+1)) O (λys μ2=>kk (yT++ys) μ2 K0 Z0) Z0) ((u3 cs fe τ' Y).bind λo O=>RE.ok o O):=by
     refine⟨_,Z0,hfe,λo O e Z H7 st m=>?_,λc fs' O z Z H7 cv d st m ad xd=>?_⟩
     ·cases o with
      |some y=>exact λv _=>e
      |none=>exact e
     ·rw[←hW1];exact⟨c,fs',O,Z,z,stp.trans st,m,ad,xd⟩
    have ep:((Cx.pin' B E).wish (XP (Cx.pin' B E) W1)).prog=X.prog:=f.pr;have ew:((Cx.pin' B E).wish (XP (Cx.pin' B E) W1)).w=X.w:=f.w;have eA:((Cx.pin' B E).wish (XP (Cx.pin' B E) W1)).A=X.A:=f.A;have ee:((Cx.pin' B E).wish (XP (Cx.pin' B E) W1)).env=gU sc cl (l.heap.objs.size+1) X.env:=f.en;have nD:l.heap.objs.size∉U:=λz=>mr'.dis _ z (by simp);have G:=Gw (X:=(Cx.pin' B E).wish (XP (Cx.pin' B E) W1)) (M:=aQ X.prog X.w) (A:=X.A) (Qf:=λb s₄=>if b=aB then wpAny (aQ X.prog X.w) X.A (eval elt (gU sc cl (l.heap.objs.size+1) X.env)) (λx s₅=>wpAny (aQ X.prog X.w) X.A (call (.builtin "list.append") [.ref l.heap.objs.size,x]) (λ_ s₆=>∃m,m<xs.length-i/\LI m s₆) (λ_ _=>False) s₅) NB s₄ else ∃m,m<xs.length-i/\LI m s₄) (hts _ W1 ck) I6' sr6 mr' P0 (λs7 H7 Z O I7 st7 sr7 m7 p7=>?_) (λs7 H7 Z O I7 st7 sr7 m7 p7=>?_)
    ·rw[ep,ew,eA,ee] at G;rw[←hNB];exact yp (λe t h=>lv e t h) G
    ·rw[if_pos rfl];have E7:=sub (hel _ W1 ck) I7 sr7 m7 p7;rw[ep,ew,eA,ee] at E7;refine eI E7 (λx8 s8 h8=>?_) λe t h=>lv e t h;obtain⟨v8,H8,y8,μ8,α8,I8,r8,st8,sr8,m8,d8,p8⟩:=h8;have q8:=p8.ok (aO.refl _ _) m8 v8 d8;have acc8:H8 l.heap.objs.size=aA (.lst yV):=st8.keep _ _ (λz=>m7.dis _ z (by simp)) (st7.keep _ _ nD hacc);have hyv:yV.length<=i:=by rw[←dly.length];exact hyl
     have AP:=QK (X:=Cx.pin' B E) [] s8 σ6 H8 (.ref l.heap.objs.size) [v8] (.ref l.heap.objs.size) [x8] (λ_ H9=>H9=upd H8 l.heap.objs.size (.lst (yV++[v8]))) I8.unwish rfl (.cons r8 .nil) ⟨_,yV,v8,rfl,rfl,acc8,tx hyv (dL hlt (zv hroom)),rfl⟩;rw[show (Cx.pin' B E).prog=X.prog from f.pr,show (Cx.pin' B E).w=X.w from f.w,show (Cx.pin' B E).A=X.A from f.A,show (Cx.pin' B E).xe=λ_ _=>False by subst hXb;rfl] at AP;refine aY AP ?_;rintro x9 s9 ⟨v9,H9,I9,r9,rfl⟩;have inphi:l.heap.objs.size∈φ++[l.heap.objs.size]:=by simp
     have t:=(stp.trans st7).trans st8;have one:aN D (φ++[l.heap.objs.size]) α8 H8 [y8] [v8]:=⟨v8,[],rfl,d8,rfl⟩;refine next (I9.wish _) ⟨t.ext,λb o n e=>?_,λb e=>t.live b ?_⟩ (m8.lk (xS inphi) (λa ha'=>⟨by rw[z9 (λz=>m8.dis a ha' (by rw[z];simp))],m8.dis a ha'⟩) (λb P=>?_)) (sr8.lk (xS inphi)) z5 ((((dly.step st7).step st8).append one).lk (xS inphi)) (by simp;lia) q8.1 (by simpa using q8.2)
     ·rw[z9 (zH e hD)];exact t.keep b o n e
     ·by_cases P:b=l.heap.objs.size
      ·rw[P,z5] at e;cases e
      ·rw[z9 P] at e;exact e
     ·by_cases hb':b=l.heap.objs.size
      ·rw[hb',z5];exact⟨_,rfl,rfl⟩
      ·rw[z9 hb'];exact m8.phi b P
    ·rw[if_neg (by decide)];exact next I7 (stp.trans st7) m7 sr7 (st7.keep _ _ nD hacc) (dly.step st7) (by lia) (p7.ok (aO.refl _ _) m7).1 (p7.ok (aO.refl _ _) m7).2
   ·have hie:i=xs.length:=by lia
    have TD:=TnD i [] s' σ' H' (λ_ _=>False) Iv (fpk fr) tni (by rw[hie];exact iv.stop _ _ H' okH);rw[f.A] at TD;refine aY TD ?_;rintro r s4 ⟨rfl,I4⟩;have hdr:xs.drop i=[]:=by rw[hie];simp
    rw[hdr] at hcmi;have q4:kk yT Y K0 Z0:=by
     have:kk (yT++[]) Y K0 Z0:=hcmi;simpa using this
    have I5:=back I4;obtain⟨m,hm,_⟩:=I4.loc;rw[f.en] at hm;exact Kq l.heap.objs.size (l.heap.objs.size+1) s4 Q H2 H' U yT yV Y I5 st1 stp hD nph nal (((sr.step st1).lk (y6 hD)).step stp) mr' hacc dly ⟨K0,Z0,q4,hk0,hz0⟩ ⟨by have:=I4.free;rw[f.en] at this;exact this,xo0.loc,xo0.nfs,xo0.new,xo0.cel,xo0.pin⟩ pn3 ⟨m,hm⟩
  ·have sm:ko H2 H3:=by rw[←hH3];exact za hD
   rw[hLI];refine⟨0,_,_,Q,μ1,[],[],rfl,fQ _,J0,Tn.keep _ _ _ tn0 λb P o e=>old b o e,λb P=>?_,aO.new sm,?_,?_,by rw[←hH3];exact z5,rfl,bH _,lv1,by simpa using q0⟩
   ·obtain⟨o,ho⟩:=fo b P;rw[←hH3,z9 (d6 (cG ho))];exact (f2 b P).1
   ·refine mr1.lk (uz hD sm) (λa ha=>?_) λb P=>?_
    ·have na:a≠l.heap.objs.size:=λz=>nal (z▸ha);exact⟨by rw[←hH3];exact z9 na,λz=>(cA.mp z).elim (mr1.dis a ha) λz=>na (bV.mp z)⟩
    ·rcases cA.mp P with z|z
     ·obtain⟨o,e,n⟩:=mr1.phi b z;exact⟨o,sm b o e,n⟩
     ·rw[bV.mp z,←hH3,z5];exact⟨_,rfl,rfl⟩
   ·exact (Pl (sr.step st1) hfs).lk (uz hD sm)
 exact codeAny_compStart_list loop (eI (Tn.self _ 0 _ _ _ (Tn.keep _ _ _ tn0 λb P o e=>old b o e) loop) (λ_ _ q=>q) λ_ _ q=>q)
end
section
variable {X:Cx}{D:DP}{W:XW}{Γ:Cn}{k:Nat}{pins:List (aF×bD)}{s:Shared}{σ:St}{H:Hp}{φ α:List aF}{τ:Sl}{μ:aK}{tg iter elt:aI}{sc:Scope}{pos:Pos}{fi:Di}{fs:List Nat}{tgt:Tg}{ifs:List aI}{cs:List Dt}{fe:De}
theorem VY{β:Type}{R:β->aK->List aF->Hp->Prop}{kk:T->aK->RE β}{c:aF}{g d:List aF}{k f:Hp}{ys:List T}{vs:List V}{e:aK}(st:aO g k d f)(m:k c=aE)(i:c∉φ)(h:aL D (φ++[c]) d f e)(j:f c=aA (.lst vs))(dl:aN D (φ++[c]) d f ys vs)(p:aJ D W φ g k σ R (kk (.lst ys) e)) :
  aL D φ d f e/\aZ D φ d f (.lst ys) (.ref c)/\aJ D W φ d f σ R (kk (.lst ys) e):=
 ⟨h.lk qI (λa j=>⟨rfl,λz=>h.dis a j (dM _ z)⟩) λb l=>h.phi b (dM _ l),⟨c,vs,rfl,i,λz=>h.dis _ z (by simp),.inl j,dl.lk qI⟩,p.step st⟩
theorem kq:Lk (φ++[j]) d u φ (d++[j]) u:=⟨λa o b c e=>⟨λz=>b (dM _ z),λz=>(cA.mp z).elim c λz=>b (by rw[bV.mp z];simp),e⟩,λi a e=>by
 rw[dP (bQ.mp e).1];exact e⟩
theorem W5(st:aO A B j w)(v:B d=aE)(l:d∉φ)(c:aL D (φ++[d]) j w u)(r:w d=aA (.lst vs))(dl:aN D (φ++[d]) j w ys vs) :
  aO A B (j++[d]) w/\aL D φ (j++[d]) w (u++[.lst ys])/\aZ D φ (j++[d]) w (.mut u.length) (.ref d):=by
 have m:d∉j:=λz=>c.dis _ z (by simp);refine⟨?_,⟨by simp[c.len],?_,λb g=>?_,λb g=>c.phi b (dM _ g),λi a o f k=>?_⟩,d,by rw[←c.len,fN (bH _)];simp,rfl⟩
 ·obtain⟨t,e,n⟩:=st.ext;exact⟨⟨t++[d],by rw[e];simp,λb g=>(cA.mp g).elim (n b) λz=>by rw[bV.mp z];exact v⟩,st.keep,st.live⟩
 ·rw[ll];exact⟨c.nd,by simp,λa r b g z=>m (by rw[bV.mp g] at z;exact z▸r)⟩
 ·rcases cA.mp g with h|h
  ·exact λz=>c.dis b h (dM _ z)
  ·rw[bV.mp h];exact l
 ·by_cases s:i<j.length
  ·rw[dP s] at f;rw[dP (by rw[←c.len];exact s)] at k;exact (c.ob i a o f k).lk kq rfl
  ·have x:=c.len;rw[fN (by lia)] at f k;have q:i-j.length=0:=by
    by_cases z:i-j.length=0
    ·exact z
    ·rw[lV (by simp;lia)] at f;cases f
   have p:i-u.length=0:=by lia
   rw[q] at f;rw[p] at k;have f:aA d=aA a:=f;have k:aA (MO.lst ys)=aA o:=k;cases f;cases k;exact⟨vs,r,dl.lk kq⟩
theorem Y9(C:Ck D W Γ X k)(O:Γ.calm=aB)(ok:cR Γ.N Γ.cel tg sc)(i:js Γ.N (frees sc)=aA fs)(h:va (z7 tg++frees sc) tg=aA tgt)(hi:PI X tg iter (gZ D W fi))(l:∀j W',Ck D W' (inComp Γ tg sc) j k->PE j elt (aX D W' fe))(f:∀j W',Ck D W' (inComp Γ tg sc) j k->Kl j D W' ifs cs)(hs:∀x,lm iter X.env x=pure x) :
  PE X (.ListComp elt [⟨tg,iter,ifs,0⟩] sc pos) (aX D W (qw (z7 tg).length fs tgt fi cs fe)):=by
 rintro b s q H Q I ⟨U,Y,V,c,A,F,p⟩;rw[eval_ListComp];refine yb (kk:=λo c=>RE.ok (T.lst o) c) (use:=aE) (Qf:=EP X b q Q) C O ok i h hi l f hs I A F p ?_;rintro n C0 s' u H1 S v o Z r R y st L e E z m P dl a w K ⟨G,M⟩;obtain⟨J,d,a⟩:=VY (kk:=λt c=>RE.ok t c) st L e m P dl a;exact⟨G,M,λg B=>⟨.ref n,S,uj R w K B,rfl,a.here J d⟩⟩
theorem VS(C:Ck D W Γ X k)(O:Γ.calm=aB)(ok:cR Γ.N Γ.cel tg sc)(l:js Γ.N (frees sc)=aA fs)(i:va (z7 tg++frees sc) tg=aA tgt)(hi:PI X tg iter (gZ D W fi))(n:∀j W',Ck D W' (inComp Γ tg sc) j k->PE j elt (aX D W' fe))(h:∀j W',Ck D W' (inComp Γ tg sc) j k->Kl j D W' ifs cs)(hs:∀x,lm iter X.env x=pure x) :
  PE X (.ListComp elt [⟨tg,iter,ifs,0⟩] sc pos) (aX D W (kQ (z7 tg).length fs tgt fi cs fe)):=by
 rintro b s r H Q I ⟨U,Y,V,c,A,F,p⟩;rw[eval_ListComp];refine yb (kk:=λq c=>RE.ok (T.mut c.length) (c++[MO.lst q])) (use:=aE) (Qf:=EP X b r Q) C O ok l i hi n h hs I A F p ?_;rintro o C0 s' u H1 S v q Z t R y st L f E z m P dl a w K ⟨G,M⟩;obtain⟨e,J,d⟩:=W5 st L f m P dl;exact⟨G,M,λg B=>⟨.ref o,S,uj R w K B,rfl,a.ok e J _ d⟩⟩
theorem j9(h:Γ.look x=g)(b:g≠.bad):x∈Γ.G/\Γ.gl x=g:=by
 unfold Cn.look at h;split at h
 ·rename_i a;exact⟨by simpa using a,h⟩
 ·exact absurd h.symm b
theorem Wj(h:vj iter=aB):∀x,lm iter X.env x=pure x:=by
 intro x;cases iter<;>first|rfl|(simp[vj] at h)
end
structure oh(D:DP)(W:XW)(φ α:List aF)(H:Hp)(E:Ends)(Q:En):Prop where
 nx:∀τ μ,Q.nx τ μ->∀α' H' σ',aO α H α' H'->aL D φ α' H' μ->bA D φ α' H' τ σ'->E.nx σ' H'
 bk:∀τ μ,Q.bk τ μ->∀α' H' σ',aO α H α' H'->aL D φ α' H' μ->bA D φ α' H' τ σ'->E.bk σ' H'
 ct:∀τ μ,Q.ct τ μ->∀α' H' σ',aO α H α' H'->aL D φ α' H' μ->bA D φ α' H' τ σ'->E.ct σ' H'
 rt:∀t μ,Q.rt t μ->∀α' H' v,aO α H α' H'->aL D φ α' H' μ->aZ D φ α' H' t v->E.rt v H'
 ex:∀c fs τ μ,Q.ex c fs τ μ->∀α' H' σ' cv d,aO α H α' H'->aL D φ α' H' μ->bA D φ α' H' τ σ'->iG D c fs cv->bW D φ α' H' fs d->W cv d σ' H'
inductive aM(D:DP)(W:XW)(φ α:List aF)(H:Hp)(E:Ends)(o:cQ):Prop where
 |mk (Q:En) (q:o Q) (h:oh D W φ α H E Q)
noncomputable def dW (D:DP)(W:XW)(f:Ds):TS:=λE c H=>mT D H c λa e b d=>aM D W a e H E (f b d)
structure Sk(D:DP)(W:XW)(Γ:Cn)(X:Cx)(k:Nat):Prop extends Ck D W Γ X k where
 sto:mR X Γ.sto
 lcl:∀x∈Γ.N,Γ.cel.contains x=aD->X.env.scope.names.lookup x=aA .local
 pso:mZ (aQ X.prog X.w) X.A X.env X.xe
 xmt:∀t x c,(x,c)∈Γ.cls->c<40->∀Ct Cc,D.adr t=aA Ct->X.mg x=aA (.ref Cc)->ng X.K (.ref Ct) (.ref Cc)=aA (vy t c)
section
variable {X:Cx}{D:DP}{W:XW}{Γ:Cn}{k:Nat}{pins:List (aF×bD)}{s:Shared}{σ:St}{H:Hp}{φ α:List aF}{τ:Sl}{μ:aK}{f g:De}{a b c e:aI}{pos:Pos}{E:Ends}{u v:Ds}
theorem aM.step(p:aM D W φ α H E o)(st:aO α H j w):aM D W φ j w E o:=by
 obtain⟨Q,q,h1,h2,h,g,f⟩:=p;exact⟨Q,q,λτ μ z b e a s2=>h1 τ μ z b e a (st.trans s2),λτ μ z b e a s2=>h2 τ μ z b e a (st.trans s2),λτ μ z b e a s2=>h τ μ z b e a (st.trans s2),λτ μ z b e a s2=>g τ μ z b e a (st.trans s2),λc fs τ μ z b e a C d s2=>f c fs τ μ z b e a C d (st.trans s2)⟩
theorem aM.elim{C:Prop}(p:aM D W φ α H E cQ.st):C:=by obtain⟨_,q,_⟩:=p;exact q.elim
theorem aM.nx(p:aM D W φ α H E (.nx τ μ))(s:aO α H d w)(m:aL D φ d w μ)(r:bA D φ d w τ j):E.nx j w:=by
 obtain⟨Q,q,h1,_⟩:=p;exact h1 τ μ q d w j s m r
theorem aM.rt(p:aM D W φ α H E (.rt t μ)){v:V}(s:aO α H d j)(m:aL D φ d j μ)(r:aZ D φ d j t v):E.rt v j:=by
 obtain⟨Q,q,_,_,_,h,_⟩:=p;exact h t μ q d j v s m r
theorem aM.ex{c:Nat}{τ:Sl}{μ:aK}(p:aM D W φ α H E (.ex c fs τ μ)){a:Hp}(s:aO α H j a)(m:aL D φ j a μ)(r:bA D φ j a τ w)(ad:iG D c fs cv)(x:bW D φ j a fs d):W cv d w a:=by
 obtain⟨Q,q,_,_,_,_,h⟩:=p;exact h c fs τ μ q j a w cv d s m r ad x
theorem aM.grd{c:Prop}(p:aM D W φ α H E (cQ.grd c o)):c/\aM D W φ α H E o:=by
 obtain⟨Q,q,h⟩:=p;exact⟨q.1,Q,q.2,h⟩
theorem aM.som{o:Option d}{k:d->cQ}(p:aM D W φ α H E (cQ.som o k)):∃a,o=aA a/\aM D W φ α H E (k a):=by
 obtain⟨Q,⟨a,e,q⟩,h⟩:=p;exact⟨a,e,Q,q,h⟩
theorem aM.br{b:Bool}{s:cQ}(p:aM D W φ α H E (cQ.br b r s)):(b=aB/\aM D W φ α H E r)\/(b=aD/\aM D W φ α H E s):=by
 obtain⟨Q,q,h⟩:=p;cases b with
 |true=>exact .inl ⟨rfl,Q,q,h⟩
 |false=>exact .inr ⟨rfl,Q,q,h⟩
theorem aM.ex2{b a:Type}{P c:b->a->Prop}{r:b->a->cQ}(p:aM D W φ α H E (λQ=>∃x y,P x y/\c x y/\r x y Q)):∃x y,P x y/\c x y/\aM D W φ α H E (r x y):=by
 obtain⟨Q,⟨x,y,h1,h2,q⟩,h⟩:=p;exact⟨x,y,h1,h2,Q,q,h⟩
theorem aM.ex1{a:Type}{P b:a->Prop}{r:a->cQ}(p:aM D W φ α H E (λQ=>∃x,P x/\b x/\r x Q)):∃x,P x/\b x/\aM D W φ α H E (r x):=by
 obtain⟨Q,⟨x,h1,h2,q⟩,h⟩:=p;exact⟨x,h1,h2,Q,q,h⟩
theorem aM.out{kk:β->aK->cQ}(b:bA D φ α H τ σ)(p:aM D W φ α H E (r.out τ kk)):aJ D W φ α H σ (λt j w A=>aM D W φ w A E (kk t j)) r:=by
 obtain⟨Q,q,h⟩:=p;refine⟨_,_,q,λa j e w A st m=>aM.step ⟨Q,e,h⟩ st,λc fs j e w A C d st m ad xd=>?_⟩;exact h.ex c fs τ j e w A σ C d st m (b.step st) ad xd
theorem ME(o:PE X a (aX D W f)):PS X (.Return (aA a) pos) (dW D W (zr f)):=by
 rintro b s h H E I ⟨e,l,g,j,c,n,p⟩;refine N8 o b s h H E I ⟨e,l,g,j,c,n,(aM.out c p).mono λt i k r st m q v d=>aM.rt q (aO.refl _ _) m d⟩
theorem OE:PS X (.Return aE pos) (dW D W Be):=by
 rintro a s b H E I ⟨d,g,e,f,h,c,p⟩;exact O6 a s b H E I (aM.rt p (aO.refl _ _) c rfl)
theorem OA(hs:iw a aE pos.line X.env=pure aD)(o:PE X a (aX D W f)):PS X (.Expr a pos) (dW D W (zN f)):=by
 rintro b s h H E I ⟨e,l,g,j,c,n,p⟩;refine Pn o hs b s h H E I ⟨e,l,g,j,c,n,(aM.out c p).mono λt i k r st m q v d=>aM.nx q (aO.refl _ _) m (c.step st)⟩
theorem Pq:gP X [] (dW D W (qd [])):=by
 rintro a s b H E I ⟨e,h,f,g,c,d,p⟩;exact XM a s b H E I (aM.nx p (aO.refl _ _) d c)
theorem UJ{st:bG}(h1:PS X st (dW D W u))(h2:gP X r (dW D W (qd fs))):gP X (st::r) (dW D W (qd (u::fs))):=by
 rintro a s o H E I ⟨g,t,l,p,v,w,Q,q,x,k,j,i,h⟩;refine SA h1 h2 a s o H E I ⟨g,t,l,p,v,w,_,q,λb c e d y n st m f=>?_,k,j,i,h⟩;exact⟨g,d,b,c,f,m,aM.step ⟨Q,e,x,k,j,i,h⟩ st⟩
noncomputable def ZP (X:Cx)(D:DP)(W:XW):List bG->List Ds->Prop
 |[],[]=>True
 |e::es,f::fs=>PS X e (dW D W f)/\ZP X D W es fs
 |_,_=>False
theorem wA:∀{a:List bG}{fs:List Ds},ZP X D W a fs->gP X a (dW D W (qd fs))
 |[],[],_=>Pq
 |st::r,f::fs,h=>UJ h.1 (wA h.2)
 |[],_::_,h=>h.elim
 |_::_,[],h=>h.elim
theorem Mt{i:Dt}(o:PT X c (eJ D W i))(t:ZP X D W as us)(r:ZP X D W bs vs):PS X (.If c as bs pos) (dW D W (bS i us vs)):=by
 rintro e s j H E I ⟨g,l,h,k,f,n,p⟩;refine Mq o (wA t) (wA r) e s j H E I ⟨g,l,h,k,f,n,(aM.out f p).mono λb a d u st m q=>?_⟩;rcases aM.br q with⟨rfl,q⟩|⟨rfl,q⟩
 ·exact⟨g,d,h,a,f.step st,m,q⟩
 ·exact⟨g,d,h,a,f.step st,m,q⟩
noncomputable def iV (Γ:Cn)(tg:aI):Bool:=(z7 tg).all λx=>!Γ.fz.contains x
theorem WY(h:iV Γ tg=aB)(m:∀x∈z7 tg,x∈Γ.N):∀x∈z7 tg,x∈Γ.sto:=λx a=>fA.mpr ⟨m x a,f_.mp h x a⟩
theorem Gc(C:Sk D W Γ X k){p0:Pos}(hi:cL Γ.N x=aA i)(w:iV Γ (.Name x p0)=aB)(hs:iw a (aA (.Name x p0)) pos.line X.env=pure aD)(A:PE X a (aX D W f)):PS X (.Assign [.Name x p0] a pos) (dW D W (zp i f)):=by
 rintro b s j H E I ⟨g,r,h,n,c,u,p⟩;have e:=WY w (λy z=>by rw[bV.mp z];exact wD hi) x (bV.mpr rfl);refine NP (i:=i) (X:=X) (by rw[C.hN];exact C.nd) (by rw[C.hN];exact vh hi) (C.sto x e).1 A hs (C.sto x e).2 b s j H E I ⟨g,r,h,n,c,u,(aM.out c p).mono λt l o B st m q v d=>?_⟩;exact aM.nx q (aO.refl _ _) m ((c.step st).set d)
theorem J5:∀{es:List aI}{is:List Nat},c5 N es=aA is->∀e∈es,∀x p,e=.Name x p->x∈N
 |[],_,_,e,a,_,_,_=>absurd a (by simp)
 |e0::es,is,h,e,a,x,p,c=>by
  cases e0 with
  |Name y g=>
   simp only[c5] at h;split at h
   ·rename_i i d f b;rcases cO.mp a with rfl|a
    ·cases c;exact wD f
    ·exact J5 b e a x p c
   ·cases h
  |_=>simp[c5] at h
theorem SE(h:va N e=aA tgt):∀x∈z7 e,x∈N:=by
 intro x a;cases e with
 |Name y p=>
  simp[z7] at a;subst a;simp only[va] at h;cases q:cL N x with
  |none=>rw[q] at h;cases h
  |some i=>exact wD q
 |Tuple es f p=>
  obtain⟨e,d,q⟩:=nt.mp a;simp only[va] at h;cases b:c5 N es with
  |none=>rw[b] at h;cases h
  |some g=>
   cases e with
   |Name y c=>
    have q:aA y=aA x:=q;cases q;exact J5 b _ d x c rfl
   |_=>cases q
 |_=>simp[z7] at a
theorem FC(C:Sk D W Γ X k)(g:X.calm=aB)(c:va Γ.N tg=aA tgt)(f:iV Γ tg=aB):PG X tg (λv σ H Q=>∃φ α τ t w,bA D φ α H τ σ/\aZ D φ α H t v/\hO tgt t τ=aA w/\∀j,bA D φ α H w j->Q j H):=by
 rintro b s σ H v u Q I r ⟨φ,α,τ,t,w,e,d,h,q⟩;refine aY (X6 (S:=Γ.sto) C.hN C.nd C.sto g (WY f (SE c)) c h I e d r) ?_;rintro _ l ⟨j,i,a⟩;exact⟨j,H,i,q j a⟩
noncomputable def xr:aI->Bool
 |.Call _ _ _ _=>aB
 |.Name _ _=>aB
 |.Subscript _ _ _=>aB
 |.Attribute _ _ _=>aB
 |_=>aD
theorem NC(C:Sk D W Γ X k)(B:Γ.calm=aB){es:List aI}(n:xr a=aB)(A:c5 Γ.N es=aA is)(z:iV Γ (.Tuple es kk p0)=aB)(F:PE X a (aX D W f)):PS X (.Assign [.Tuple es kk p0] a pos) (dW D W (pU is f)):=by
 rintro b s r H E I ⟨j,x,l,w,i,y,p⟩;have J:oR [.Tuple es kk p0] a pos.line X.env=pure aD:=by cases a<;>first|(simp[xr] at n;done)|rfl
 have G:oQ [.Tuple es kk p0] a X.env=pure aE:=by cases a<;>first|(simp[xr] at n;done)|rfl
 refine JT F (FC C (C.clm B) (tg:=.Tuple es kk p0) (tgt:=.tup is) (by simp[va,A]) z) J G rfl b s r H E I ⟨j,x,l,w,i,y,(aM.out i p).mono λt u e K st m q v d=>?_⟩;obtain⟨c,h,q⟩:=aM.som q;exact⟨j,e,l,t,c,i.step st,d,h,λo g=>aM.nx q (aO.refl _ _) m g⟩
theorem NS(C:Sk D W Γ X k){p1:Pos}(U:(x,n)∈Γ.fld)(Y:PE X a (aX D W f))(ho:PE X o (aX D W go)) :
  PS X (.Assign [.Attribute o x p1] a pos) (dW D W (zM go n f)):=by
 rintro l s N H E I ⟨F,P,G,O,A,R,p⟩;have T:iw a (aA (.Attribute o x p1)) pos.line X.env=pure aD:=by cases a<;>rfl
 refine Ou ho Y T l s N H E I ⟨F,P,G,O,A,R,(aM.out A p).mono λt u w H1 z S q v d=>?_⟩;have e:=A.step z;refine⟨F,w,G,u,e,S,(aM.out e q).mono λot r g M h J j ov dv=>?_⟩;split at j;case h_2=>exact aM.elim j
 rename_i i;obtain⟨c,fs,m,hl,j⟩:=aM.ex2 j;obtain⟨y,B,rfl⟩:=dv;obtain⟨C0,dx,L,ad,K,df⟩:=J.ob i y _ B m;obtain⟨Z,cl,Q⟩:=C.fld c C0 x n ad U;refine⟨y,C0,dx,L,rfl,K,cl,Q,by rw[←df.length];lia,?_⟩;have b:aO g M g (upd M y (.ins C0 dx (vE x v L))):=aO.turn (cP B) ⟨_,K⟩;have V:i<r.length:=(bQ.mp m).1;exact aM.nx j b (J.turn B V b ⟨C0,dx,_,ad,z5,bK.put Z (df.step b) ((d.step h).step b)⟩) ((e.step h).step b)
theorem fU:A1 X (λo i v H Q=>∃l k xs,o=.ref l/\i=.int k/\H l=aA (.lst xs)/\0<=k/\k<xs.length/\k<9223372036854775808/\Q (upd H l (.lst (xs.set k.toNat v)))):=by
 intro c s A H o i v B C u Q I j m g h;obtain⟨l,k,xs,rfl,rfl,d,y,x,w,q⟩:=h;cases j;obtain⟨t,rfl⟩:=m;obtain⟨z,b,n,r,p,e⟩:=I.lstM d;refine PySem.W.ki_setAt (n:=n) (items:=b.toArray) e y (by simpa using w) (by rw[dA,←p];exact x) ?_;exact⟨_,I.lset (t':=s.toks) (ys:=xs.set k.toNat v) (its':=b.set k.toNat u) (f:=λa=>a.setIfInBounds k.toNat u) d e (by simp) (aV.set g _ r) (by rw[Cy];exact z),q⟩
theorem NE(C:Sk D W Γ X k){p1:Pos}(O:qb b=aB)(ha:PE X a (aX D W f))(ho:PE X o (aX D W fo))(hb:PE X b (aX D W fb)) :
  PS X (.Assign [.Subscript o b p1] a pos) (dW D W (Ew fo fb f)):=by
 rintro r s T H E I ⟨w,V,y,U,K,Z,p⟩;have h1:oR [.Subscript o b p1] a pos.line X.env=pure aD:=by cases a<;>rfl
 have h2:oQ [.Subscript o b p1] a X.env=pure aE:=by cases a<;>rfl
 refine JT ha (GN ho hb fU (λv=>by cases b<;>first|(simp[qb] at O;done)|rfl)) h1 h2 rfl r s T H E I ⟨w,V,y,U,K,Z,(aM.out K p).mono λt B G H1 J m1 q v d=>?_⟩;have h:=K.step J;refine⟨w,G,y,B,h,m1,(aM.out h q).mono λot A F H2 m m2 Y ov dv=>?_⟩;have g:=h.step m;refine⟨w,F,y,A,g,m2,(aM.out g Y).mono λit z j S e Q n iv di=>?_⟩;have d3:=(d.step m).step e;split at n;case h_2=>exact aM.elim n
 rename_i i L;have dv:=dv.step e;obtain⟨ts,u,N,n⟩:=aM.ex1 n;obtain⟨x,M,rfl⟩:=dv;have di:iv=.int L:=di;subst di;obtain⟨P,R,l⟩:=Q.ob i x _ M u;have c:aO j S j (upd S x (.lst (P.set L.toNat v))):=aO.turn (cP M) ⟨_,R⟩;have hi:i<z.length:=(bQ.mp u).1;exact⟨x,L,P,rfl,rfl,R,N.1,by rw[←l.length];exact N.2.1,N.2.2,aM.nx n c (Q.turn M hi c ⟨_,z5,aN.set (l.step c) (d3.step c)⟩) ((g.step e).step c)⟩
theorem Nm(C:Sk D W Γ X k)(hc:Γ.calm=aB)(ht:va Γ.N tg=aA tgt)(hz:iV Γ tg=aB){body:List bG}{vs:List Ds}(hi:PI X tg iter (gZ D W fi))(hb:ZP X D W body vs)(hs:∀x,lm iter X.env x=pure x) :
  PS X (.For tg iter body [] pos) (dW D W (kn tgt fi vs)):=by
 rintro pins s σ H E I ⟨B,α,τ,μ,sr,mr,p⟩;refine Nt C.pso (C.clm hc) hi (FC C (C.clm hc) ht hz) (wA hb) hs pins s σ H E I ⟨B,α,τ,μ,sr,mr,(aM.out sr (show aM D W B α H E ((fi τ μ).re.out τ λpr O=>dH tgt (qd vs) pr.2 pr.1 τ O) from p)).mono λpr O R H1 st1 m1 q J Ok iv okk lv1=>?_⟩;obtain⟨z,o⟩:=pr;obtain⟨Q,q,h1,h2,h3,h4,h5⟩:=q;refine⟨λi m L A=>m=z.length-i/\i<=z.length/\∃a r l,aO R H1 a A/\aL D B a A l/\bA D B a A r L/\o l/\dH tgt (qd vs) o (z.drop i) r l Q,⟨z.length,by simp,fQ _,R,τ,O,aO.refl _ _,m1,sr.step st1,lv1,by simpa using q⟩,?_⟩;rintro i m L A ⟨rfl,hi',a,r,l,g,w,F,lv',U⟩;have S:Ok B a A:=okk _ a A l g.lk w lv';by_cases K:i<z.length
 ·refine .inr ⟨iv.go i _ _ A S K,λσ2 V=>∃P Z M,aO R H1 P V/\aL D B P V M/\bA D B P V Z σ2/\o M/\dH tgt (qd vs) o (z.drop (i+1)) Z M Q,λσ2 V h2=>⟨z.length-(i+1),by omega,rfl,K,h2⟩,λx V y=>?_⟩;obtain⟨sm,dx⟩:=iv.yld i _ _ A x V z[i] S (by simp[K]) y;have g:=g.trans (aO.new (α:=a) sm);have F:=F.step (aO.new (α:=a) sm);have w:=w.new sm;rw[D_ K] at U;obtain⟨Y,ha,U⟩:=U;refine⟨B,a,r,z[i],Y,F,dx,ha,λσ3 sr3=>⟨B,a,Y,l,sr3,w,_,U,?_,?_,?_,?_,?_⟩⟩
  ·exact λj b e f T u h G n=>⟨f,j,b,g.trans h,G,n,e⟩
  ·exact λj b e f T u h G n=>h1 j b e f T u (g.trans h) G n
  ·exact λj b e f T u h G n=>⟨f,j,b,g.trans h,G,n,e⟩
  ·exact λt b e f T v h G d4=>h4 t b e f T v (g.trans h) G d4
  ·exact λc fs j b e f T u Cc d h G n=>h5 c fs j b e f T u Cc d (g.trans h) G n
 ·have hie:i=z.length:=by omega
  rw[hie,List.drop_length] at U;exact .inl ⟨by rw[hie];exact iv.stop _ _ A S,h1 r l U a A L g w F⟩
theorem Sc(C:Sk D W Γ X k){body:List bG}(hc:PT X c (eJ D W ft))(hb:ZP X D W body vs):PS X (.While c body [] pos) (dW D W (K4 ft vs)):=by
 rintro K s σ H E I ⟨F,O,Z,μ,sr,mr,Q,⟨J,⟨N,hN⟩,hJ⟩,Y,h2,h3,S,V⟩;refine Ss C.pso hc (wA hb) K s σ H E I ?_;refine⟨λm w M=>∃u i r,aO O H u M/\aL D F u M r/\bA D F u M i w/\J m i r,⟨N,O,Z,μ,aO.refl _ _,mr,sr,hN⟩,?_⟩;rintro m w M ⟨u,i,r,B,P,z,pf⟩;refine⟨F,u,i,r,z,P,_,_,hJ m i r pf,λb x e y T n L=>?_,λc fs x e y T U d n L ad xd=>V c fs i x e y T w U d (B.trans n) L (z.step n) ad xd⟩;cases b with
 |false=>exact Y i x e y T w (B.trans n) L (z.step n)
 |true=>
  rw[if_pos rfl];have G:=B.trans n;refine⟨λl p=>∃j,j<m/\∃a g f,aO O H a p/\aL D F a p f/\bA D F a p g l/\J j g f,λl p S=>S,F,y,i,x,z.step n,L,_,e,?_,?_,?_,?_,?_⟩
  ·exact λg f ⟨j,R,q⟩ a p l h A o=>⟨j,R,a,g,f,G.trans h,A,o,q⟩
  ·exact λg f e a p l h A o=>Y g f e a p l (G.trans h) A o
  ·exact λg f ⟨j,R,q⟩ a p l h A o=>⟨j,R,a,g,f,G.trans h,A,o,q⟩
  ·exact λt f e a p v h A d4=>S t f e a p v (G.trans h) A d4
  ·exact λc fs g f e a p l U d h A o=>V c fs g f e a p l U d (G.trans h) A o
theorem O_(C:Sk D W Γ X k)(hc:Γ.calm=aB){tg iter elt:aI}{fi:Di}{ifs:List aI}{fe:De}{x:aG}{P:Nat}{p0 p1:Pos}(K:cL Γ.N x=aA P)(hz:iV Γ (.Name x p0)=aB)(ok:cR Γ.N Γ.cel tg sc)(hfs:js Γ.N (frees sc)=aA fs)(htg:va (z7 tg++frees sc) tg=aA tgt)(hi:PI X tg iter (gZ D W fi))(hel:∀M W',Ck D W' (inComp Γ tg sc) M k->PE M elt (aX D W' fe))(hts:∀M W',Ck D W' (inComp Γ tg sc) M k->Kl M D W' ifs cs)(hs:∀x,lm iter X.env x=pure x)
  (own:Bool) (hsw:iw (.ListComp elt [⟨tg,iter,ifs,0⟩] sc p1) (aA (.Name x p0)) pos.line X.env=pure aB) :
  PS X (.Assign [.Name x p0] (.ListComp elt [⟨tg,iter,ifs,0⟩] sc p1) pos) (dW D W (zp P (match own with|true=>kQ (z7 tg).length fs tgt fi cs fe|false=>qw (z7 tg).length fs tgt fi cs fe))):=by
 rintro i s σ H E I ⟨Q,α,τ,o,sr,mr,p⟩;rw[exec_Assign_Name_used _ _ _ _ hsw];refine wpAny_bind (lQ (wpAny_bind ?_));show wpAny _ _ (do let _ ←oO (.ListComp elt [⟨tg,iter,ifs,0⟩] sc p1) sc X.env _ (newList []) aD (eval iter X.env) (aA (hW (.Name x p0) X.env))) _ _ s;refine wpAny_bind (aY (yb (kk:=λR o=>match own with|true=>RE.ok (T.mut o.length) (o++[MO.lst R])|false=>RE.ok (T.lst R) o) (use:=aA (hW (.Name x p0) X.env)) (Qf:=λ_ B=>∃a f,Inv X i a f B/\E.nx a f) C.toCk hc ok hfs htg hi hel hts hs I sr mr (aM.out sr (by cases own<;>exact p)) ?_) λ_ B hq=>wpAny_pure (wpAny_pure hq));rintro j C0 B α1 H1 f α' R vs r I' st1 st hn F nal u m ha dl c O hp ⟨mm,hm⟩;have hx:=wD K;obtain⟨Z,es,ep,hoc,L,l⟩:=hm;have I2:Inv X (i++[(C0,Z)]) σ f B:=I'.pins_of λp n=>(cA.mp n).elim (λz=>I'.pin p (dU _ z)) λz=>by
  rw[bV.mp z];exact⟨hoc,O.free,O.loc,O.nfs,λv e=>by rw[L] at e;cases e⟩
 have fin:∀{b:List aF}{t:T}{μ2:aK},bA D Q b f τ σ->aZ D Q b f t (.ref j)->(∀a,bA D Q b f (kY τ P (aA t)) a->E.nx a f)->wpAny (aQ X.prog X.w) X.A (hW (.Name x p0) X.env (.ref j)) (λ_ U=>∃m,U.heap.Ns C0 m/\∀g,f9 C0 U.heap g->∃a f,Inv X i a f {U with heap:=g}/\E.nx a f) X.xe B:=λ{b t μ2} Y d q=>by
  refine aY (X6 (e:=.Name x p0) (S:=Γ.sto) (tgt:=.one P) (t:=t) (τ:=τ) C.hN C.nd C.sto (C.clm hc) (WY hz λy hy=>by rw[bV.mp hy];exact hx) (by simp[va,K]) rfl I2 Y d (show RelV (.ref j) (.ref j) from rfl)) ?_;rintro _ s2 ⟨a,I3,h⟩;have J:=(I3.pin (C0,Z) (dU _ (dU _ (bV.mpr rfl)))).1;refine⟨mm,⟨Z,es,ep,J,L,l⟩,λg sb=>⟨a,f,?_,q a h⟩⟩;exact uj (I3.pins_of λp n=>I3.pin p (dU _ (dM _ n))) O hp sb
 cases own with
 |false=>
  obtain⟨G,d,c⟩:=VY (kk:=λt o=>RE.ok t o) st hn F m ha dl c;exact fin (μ2:=r) (u.lk qI) d λa h=>aM.nx (c.ok (aO.refl _ _) G) (aO.refl _ _) G h
 |true=>
  obtain⟨V,G,d⟩:=W5 st hn F m ha dl;exact fin (μ2:=r) (u.lk kq) d λa h=>aM.nx (c.ok V G) (aO.refl _ _) G h
end
noncomputable def Lr(C:aF)(h:aT):Prop:=∃b N nm q bs hd d sub ab a dd j i g f e c,h.get? C=aA (rR nm q C N bs b hd d sub ab a dd j i g f e "ValueError.__new__")/\h.Ns N c/\c "__init__"=aE/\OwnTail h qv b
theorem RJ {K:bM}(kin:K.In h) (e:fy K C qv "ValueError.__new__"=aB):Lr C h:=by
 simp only[fy] at e;revert e;cases x:K.lookup C with
 |none=>intro e;cases e
 |some o=>
  intro e;split at e;case h_2=>cases e
  rename_i dd cd d w;cases w;split at e;case h_2=>cases e
  rename_i D s l k j i n g p m;simp only[cH,beq_iff_eq,nj] at e;obtain⟨⟨⟨⟨⟨A,z⟩,r⟩,y⟩,b⟩,q⟩:=e;cases cd;rename_i nm bs v f u hd t sub ab c B;simp only at p r b q;cases A;cases z;cases p;cases r;have a:d=#[l,k,j,i,aA (.builtin "ValueError.__new__"),g]:=by
   cases d;simp only at m;rw[m]
  cases a;exact⟨s,f,nm,u,bs,hd,t,sub,ab,c,dd,l,k,j,i,g,h.nsMap f,kin _ _ x,.of_isNs (PySem.W.isNs_of_in kin b),PySem.W.nsMap_none_of_in kin b q,PySem.W.tail_of_in kin y⟩
section
variable {X:Cx}{D:DP}{W:XW}{Γ:Cn}{k:Nat}{pins:List (aF×bD)}{s:Shared}{σ:St}{H:Hp}{φ α:List aF}{τ:Sl}{μ:aK}{a b c e:aI}{pos:Pos}{E:Ends}{es:List aI}{fs:List De}
theorem SO(C:Sk D W Γ X k)(hc:Γ.calm=aB)(B:x∈Γ.G)(hg:Γ.gl x=.xcl n)(T:dT X D W (a::es) fs) :
  PS X (.Raise (aA (.Call (.Name x p0) (a::es) [] p1)) aE pos) (dW D W (zG n fs)):=by
 rintro j s O H E I ⟨h,P,u,U,A,mr,p⟩;have q:=C.glo x B;rw[hg] at q;obtain⟨C0,ad,hm,L⟩:=q;have K:=T.stars;obtain⟨o,N,nm,R,bs,hd,sn,sub,ab,col,dd,k0,k1,k2,k3,k5,mN,Z,Y,V,S⟩:=RJ I.ok.mod.kin L;have hb:o.contains (.type "BaseException")=aB:=S.hasType Eb.hasBase;have hp:(fL p1 (d_ (a::es) X.env)).any (·.1)=aD:=qO K;refine wpAny_Raise_call_subT (nm:=nm) (q:=R) (C:=C0) (N:=N) (bs:=bs) (bm:=o) (hdct:=hd) (sn:=sn) (sub:=sub) (ab:=ab) (col:=col) (dd:=dd) (k0:=k0) (k1:=k1) (k2:=k2) (k3:=k3) (k5:=k5) (mN:=mN) Eb hb (I.ok.hd (C.clm hc)) hp V ?_;refine vT I (C.glb x B) hm ⟨rfl,?_⟩ (C.dbG x B);have J:aP a=aB:=by simp only[iQ,cH] at K;exact K.1
 have Q:=aY (vV T p1 j s O H (λy g=>∃i c b,aO P H b g/\bA D h b g u O/\aL D h b g c/\aN D h b g i y/\aM D W h b g E (.grd (i.length<=aU) (.ex n [] u c))) I ⟨h,P,u,U,A,mr,(aM.out A p).mono λi v w H' st m q y d _=>⟨i,v,w,st,A.step st,m,d,q⟩⟩) (Q':=λl f=>l.length<=sizeLine/\f.heap.get? C0=aA (rR nm R C0 N bs o hd sn sub ab col dd k0 k1 k2 k3 k5 "ValueError.__new__")/\f.heap.Ns N mN/\OwnTail f.heap qv o/\∀M e,CP f.heap M e (.ref C0) l->X.xe (.ref e) {f with heap:=M}) ?_
 ·rw[z4 J] at Q ⊢;exact pC (aY Q λl f h1=>⟨rfl,h1⟩)
 ·rintro l f ⟨y,g,t,r,i,c,b,st,z,m1,dl,q⟩;obtain⟨hl,q⟩:=aM.grd q;refine⟨?_,t.bk _ _ Z,Y.keeps t.bk,S.keeps t.bk,λM e mk=>?_⟩
  ·have e1:=dl.length;have e2:=r.length;have:=zv hl;rw[←e2,←e1];exact this
  ·exact C.xe _ _ (OK t mk (aM.ex q (aO.refl _ _) m1 z (.own C0 ad rfl) rfl))
theorem fF.ty{M:Model}{h:aT}{x T:aF}(t:fF h x T cls d fl):rN M h (typeOf (.ref x)) (stC cls):=by
 obtain⟨a,vs,a0,b,ts,h1,⟨h2,e⟩,c,_⟩:=t;exact h2▸(BZ h1).andThen .now
theorem fF.keeps{h g:aT}{x T:aF}(t:fF h x T cls d fl)(k:∀b o,h.get? b=aA o->g.get? b=aA o):fF g x T cls d fl:=by
 obtain⟨c,vs,a0,e,ts,h1,h2,p,n,m,l,j,i,f,a⟩:=t;exact⟨c,vs,a0,e,ts,k _ _ h1,h2,p,n,m,l,k _ _ j,i,f,a⟩
noncomputable def im (Γ:Cn)(x:aG)(c:Nat):Prop:=x∈Γ.G/\(x,c)∈Γ.cls/\((∃f,Γ.gl x=.xcf c f)\/Γ.gl x=.xcl c)/\c<40
noncomputable def wp (Γ:Cn)(t:aI)(cs:List Nat):Prop:=∃x p c,t=.Name x p/\cs=[c]/\im Γ x c
noncomputable def YE (D:DP)(Γ:Cn)(k:Nat):List oM->List (List Nat×Option Nat×List Ds)->Prop
 |[],[]=>True
 |h::f,g::r=>(∃t c a e cs b,h=.ExceptHandler (aA t) aE (c::a) e/\g=(cs,aE,b)/\wp Γ t cs/\∀d,Sk D n6 {Γ with calm:=aD} d k->ZP d D n6 (c::a) b)/\YE D Γ k f r
 |_,_=>False
theorem im.mg(C:Sk D W Γ X k){c:Nat}(h:im Γ x c):∃d,X.mg x=aA (.ref d)/\D.adr c=aA d:=by
 have q:=C.glo x h.1;rcases h.2.2.1 with⟨f,g⟩|g
 ·rw[g] at q;obtain⟨d,ad,a⟩:=q;exact⟨d,a,ad⟩
 ·rw[g] at q;obtain⟨d,ad,a,_⟩:=q;exact⟨d,a,ad⟩
theorem MP{c:Nat}(h:n_ kk=aA n)(ne:c≠kk):vy kk c=aD:=by
 have e:kk=8\/kk=9:=by
  unfold n_ at h;split at h
  ·exact .inl ‹_›
  ·split at h
   ·exact .inr ‹_›
   ·cases h
 have a:fM kk c=aD:=by
  cases q:fM kk c with
  |false=>rfl
  |true=>exact absurd (tc q).symm ne
 rcases e with rfl|rfl<;>(show l9 (fM _ c) _=aD;rw[a])
theorem Oo(C:Sk D W Γ X k){x:aG}{c kk:Nat}(ad:iG D kk j cv)(b:im Γ x c)(f:X.mg x=aA (.ref d))(a:D.adr c=aA d):ng X.K (stC cv) (.ref d)=aA (vy kk c):=by
 cases ad with
 |own Ck ad e=>rw[e,Ph];exact C.xmt kk x c b.2.1 b.2.2.2 Ck d ad f
 |blt n h m e=>
  have l:c≠kk:=λz=>by rw[z,m] at a;cases a
  rw[MP h l,e];have q:=C.xmt c x c b.2.1 b.2.2.2 d d a f;unfold ng at q ⊢;split at q
  ·rename_i i;rw[if_pos i];unfold PySem.W.kitCls at q ⊢;dsimp only at q ⊢;split at q
   ·rename_i g;rw[if_pos g];unfold n_ at h;split at h
    ·cases h;rfl
    ·split at h
     ·cases h;rfl
     ·cases h
   ·cases q
  ·cases q
theorem OS(C:Sk D W Γ X k){x:aF}{cv:aC}{kk:Nat}{t:aI}{s:a_}{σ:St}{H:Hp}{E F:aC->a_->Prop}(ad:iG D kk j cv)(h:wp Γ t cs)(I:Inv (Cx.han (Cx.pin' X pins) x) [] σ H s)(ty:rN (aQ X.prog X.w) s.heap (typeOf (.ref x)) (stC cv))
  (q:∀h',(∀b o,s.heap.get? b=aA o->h'.get? b=aA o)->Q (c3 kk cs) {s with heap:=h'}):wpAny (aQ X.prog X.w) (X.A.mark (aA (.ref x))) (eval t X.env) (λc d=>wpAny (aQ X.prog X.w) (X.A.mark (aA (.ref x))) (excMatches (.ref x) c) Q E d) F s:=by
 obtain⟨y,p,c,rfl,rfl,a⟩:=h;obtain⟨i,g,f⟩:=a.mg C;refine vT (X:=Cx.han (Cx.pin' X pins) _) I (C.glb y a.1) g ?_ (C.dbG y a.1);refine (PySem.W.exm_one (M:=aQ X.prog X.w) I.kIn ty (Oo C ad a g f)).at ?_;have e:c3 kk [c]=vy kk c:=by
  rw[ZV];show l9 _ aD=_;cases vy kk c<;>rfl
 have:=q s.heap λ_ _ e=>e;rw[e] at this;exact this
theorem Gj(C:Sk D W Γ X k){x J:aF}{cv:aC}{d:Option aF}{kk:Nat}{n:List (Nat×T)}(ad:iG D kk n cv):∀{hs:List oM}{r:List (List Nat×Option Nat×List Ds)}{s1:a_}{i:St}{l:Hp}{a:List aF}{c:Sl}{j:aK},YE D Γ k hs r->Inv (Cx.pin' X pins) [] i l s1->dX (Cx.pin' X pins) l x->dX (Cx.pin' X pins) l J->fF s1.heap x J cv d .none->
  bW D φ a l n d->aL D φ a l j->bA D φ a l c i->aM D W φ a l E (rc r kk n c j)->wpAny (aQ X.prog X.w) X.A (handleBy (.ref x) X.env hs) (SP X pins E) X.xe s1
 |[],[],s1,i,l,a,c,j,_,u,N,O,B,xd,Y,v,p=>by
  obtain⟨e0,out,L,F⟩:=C.frm;refine wpAny_handleBy_nil ?_;unfold Ci;obtain⟨oe,vs',a0,oT',ts,ho,hcc,hd,hv0,hv1,hT,hoT,hdT,h3,_⟩:=id B;refine wpAny_bind (ix ho hd hv1 ?_);rw[if_neg (show ¬((cY J==eY)=aB) from by simp)];have go:∀{G:a_},XP X W (.ref x) G->wpAny (aQ X.prog X.w) X.A (throw (cY x):Sem Flow) (SP X pins E) X.xe G:=λ{G} K=>wpAny_throw (C.xe _ _ K);have un:∀b,dX (Cx.pin' X pins) l b->dX X l b:=λb o=>⟨o.free,o.loc,o.nfs,o.new,o.cel,λp hp=>o.pin p (dM _ hp)⟩;have fin:wpAny (aQ X.prog X.w) X.A (mj (.ref x) X.env.frame) (λ_ G=>XP X W (.ref x) G) X.xe s1:=by
   refine wH ((zY u).pins_of λp hp=>absurd hp (by simp)) (un x N) (un J O) B λh4 I4 M=>?_;refine⟨x,cv,d,i,l,aA J,cV L,rfl,I4,un x N,λt ht=>?_,?_,.inr ⟨L,F.fe,rfl⟩,aM.ex p (aO.refl _ _) Y v ad xd⟩
   ·have:t=J:=by simpa using ht
    rw[this];exact un J O
   ·rw[F.fe] at M;exact M
  first
   |exact wpAny_bind (aY fin λ_ G K=>go K)
   |exact wpAny_bind (wpAny_pure (wpAny_bind (aY fin λ_ G K=>go K)))
 |[],_::_,_,_,_,_,_,_,h,_,_,_,_,_,_,_,_=>h.elim
 |_::_,[],_,_,_,_,_,_,h,_,_,_,_,_,_,_,_=>h.elim
 |hd::hs',g::r',s1,i,l,a,c,j,h,u,N,O,B,xd,Y,v,p=>by
   obtain⟨⟨t,b0,V,pp,cs,vs,rfl,rfl,ht,hsu⟩,I⟩:=h;have IX:Inv (Cx.han (Cx.pin' X pins) x) [] i l s1:=XB u;refine wpAny_handleBy_cons (codeAny_handlers_test (OS C ad ht IX (fF.ty B) λh' P=>?_)) (λq=>by cases q);have u:Inv (Cx.pin' X pins) [] i l {s1 with heap:=h'}:=u.kept (t':=s1.toks) P;have B:=B.keeps P;have p:aM D W φ a l E (.br (c3 kk cs) (EF aE vs kk n c j) (rc r' kk n c j)):=p;rcases aM.br p with⟨hb,p⟩|⟨hb,p⟩
   ·rw[hb];obtain⟨Q,q,h1,h2,h3,h4,h5⟩:=p;have C2:∀{X':Cx},X'=Cx.han (Cx.pin' X pins) x->Sk D n6 {Γ with calm:=aD} X' k:=λ{X'} hX'=>by
     subst hX';obtain⟨e0,out,L,F⟩:=C.frm;exact {hK:=C.hK,hN:=C.hN,nd:=C.nd,vis:=C.vis,dbg:=C.dbg,dbG:=C.dbG,glb:=C.glb,glo:=C.glo,glU:=C.glU,cel:=C.cel,isi:=C.isi,fld:=C.fld,xcx:=C.xcx,ocx:=C.ocx,clv:=C.clv,clm:=(λz=>by cases z),rom:=(λz=>by cases z),rmh:=⟨C.rmh.dp,C.rmh.un⟩,xe:=(λe s p=>by obtain⟨_,_,_,_,_,_,_,_,_,_,_,_,_,z⟩:=p;exact z),frm:=⟨e0,out,L,F.stk,F.f0,F.fe⟩,lam:=C.lam,kfz:=C.kfz,sto:=C.sto,lcl:=C.lcl,pso:=PassesOwn.never,xmt:=C.xmt}
    have okX:X.Ok:=VE u.ok;refine codeAny_handlers_suite (wH (X:=Cx.pin' X pins) u N O B λh3' I3 tr3=>?_);have S:=wA (hsu _ (C2 rfl)) [] _ _ _ {nx:=E.nx,rt:=E.rt} (XB (x:=x) I3) ⟨φ,a,c,j,v,Y,_,q,h1,(λ_ _ z=>z.elim),(λ_ _ z=>z.elim),h4,(λ_ _ _ _ z=>z.elim)⟩;refine eI S (λf s6 Z=>?_) (λ_ _ z=>z.elim);cases f with
    |next=>obtain⟨m,U,R,H⟩:=Z;exact⟨m,U,zY (QT u.ok R),H⟩
    |brk=>obtain⟨m,U,R,H⟩:=Z;exact H.elim
    |cont=>obtain⟨m,U,R,H⟩:=Z;exact H.elim
    |ret w=>obtain⟨y,m,U,R,r,H⟩:=Z;exact⟨y,m,U,zY (QT u.ok R),r,H⟩
   ·rw[hb];exact Gj C ad I u N O B xd Y v p
theorem Ng(C:Sk D W Γ X k)(hc:Γ.calm=aB){body:List bG}(hb:∀Y W',Sk D W' Γ Y k->ZP Y D W' body us)(hh:YE D Γ k (h0::hs) r) :
  PS X (.Try body (h0::hs) [] [] pos) (dW D W (nQ us r)):=by
 rintro a s σ H E I ⟨o,N,Z,μ,sr,mr,Q,q,j,U,T,S,h5⟩;obtain⟨e0,out,L,F⟩:=C.frm;have V:i3 (Cx.pin' X a) e0 out L:=⟨F.stk,F.f0,F.fe⟩;generalize R:(λ(cls:aC) (d:Option aF) (b:St) (c:Hp)=>∃n fs g h i,rc r n fs g h Q/\iG D n fs cls/\aO N H i c/\aL D o i c h/\bA D o i c g b/\bW D o i c fs d:XW)=u;have C1:Sk D u Γ ((Cx.pin' X a).wish (XP (Cx.pin' X a) u)) k:={hK:=C.hK,hN:=C.hN,nd:=C.nd,vis:=C.vis,dbg:=C.dbg,dbG:=C.dbG,glb:=C.glb,glo:=C.glo,glU:=C.glU,cel:=C.cel,isi:=C.isi,fld:=C.fld,xcx:=C.xcx,ocx:=C.ocx,clv:=C.clv,clm:=C.clm,rom:=C.rom,rmh:=⟨C.rmh.dp,C.rmh.un⟩,xe:=λe s p=>jM p,frm:=⟨e0,out,L,F.stk,F.f0,F.fe⟩,lam:=C.lam,kfz:=C.kfz,sto:=C.sto,lcl:=C.lcl,pso:=y9 V I.ok.frames,xmt:=C.xmt};have B:=wA (hb _ u C1) [] s σ H E ((VM I).wish _) ⟨o,N,Z,μ,sr,mr,_,q,j,U,T,S,λn fs g h z v c b cv d st m K ad xd=>by rw[←R];exact⟨n,fs,g,h,v,z,ad,st,m,K,xd⟩⟩;refine wpAny_Try_except (eI B (λf t j=>?_) (λe1 t M=>?_))
 ·cases f with
  |next=>obtain⟨b,c,l,q⟩:=j;exact XM a t b c E (zY l.unwish) q
  |brk=>obtain⟨b,c,l,q⟩:=j;exact⟨b,c,zY l.unwish,q⟩
  |cont=>obtain⟨b,c,l,q⟩:=j;exact⟨b,c,zY l.unwish,q⟩
  |ret w=>obtain⟨y,b,c,l,r,q⟩:=j;exact⟨y,b,c,zY l.unwish,r,q⟩
 have M:XP (Cx.pin' X a) u e1 t:=M;refine ug (X:=Cx.pin' X a) V I.ok.frames M λx cls d σ1 H1 Tt h' ee I1 O P tr w=>?_;subst ee;refine wH (X:=Cx.pin' X a) (s:={t with heap:=h'}) I1 O P tr λh2' I2 A=>?_;rw[←R] at w;obtain⟨n,fs,g,h,i,z,ad,G,m1,J,xd⟩:=w;exact Gj C ad hh I2 O P A xd m1 J (aM.step ⟨Q,z,j,U,T,S,h5⟩ G)
end
structure dF where
 e:Cn->aI->Option De
 t:Cn->aI->Option Dt
 w:Cn->aI->Option Dt
 i:Cn->aI->Option Di
 o:Cn->aI->Option De
 s:Cn->bG->Option Ds
noncomputable abbrev ER:=dF->Cn->aI->Option De
noncomputable abbrev TR:=dF->Cn->aI->Option Dt
noncomputable abbrev IR:=dF->Cn->aI->Option Di
noncomputable abbrev SR:=dF->Cn->bG->Option Ds
structure dR where
 e:List ER
 t:List TR
 w:List TR
 i:List IR
 o:List ER
 s:List SR
noncomputable def WR {α β:Type}:List (dF->Cn->α->Option β)->dF->Cn->α->Option β
 |[],_,_,_=>aE
 |f::fs,r,a,e=>match f r a e with
  |some d=>aA d
  |none=>WR fs r a e
noncomputable def aR (R:dR):Nat->dF
 |0=>⟨λ_ _=>aE,λ_ _=>aE,λ_ _=>aE,λ_ _=>aE,λ_ _=>aE,λ_ _=>aE⟩
 |n+1=>⟨WR R.e (aR R n),WR R.t (aR R n),WR R.w (aR R n),WR R.i (aR R n),WR R.o (aR R n),WR R.s (aR R n)⟩
noncomputable def Fa:aI->Bool
 |.Tuple _ _ _=>aB
 |_=>aD
noncomputable def Ut (tg e:aI):Bool:=match e with
 |.Call (.Name x _) _ _ _=>(x != ("enumerate":aG)&&x != ("zip":aG)) || Fa tg
 |.Call (.Attribute _ m _) _ _ _=>m != ("items":aG) || Fa tg
 |_=>aB
structure bT(D:DP)(r:dF):Prop where
 e:∀{X W Γ k e f},Ck D W Γ X k->r.e Γ e=aA f->PE X e (aX D W f)
 t:∀{X W Γ k e f},Ck D W Γ X k->r.t Γ e=aA f->PT X e (eJ D W f)
 w:∀{X W Γ k e f},Ck D W Γ X k->r.w Γ e=aA f->PW X e (eJ D W f)
 i:∀{X W Γ k tg e f},Ck D W Γ X k->Ut tg e=aB->r.i Γ e=aA f->PI X tg e (gZ D W f)
 o:∀{X W Γ k e f},Ck D W Γ X k->r.o Γ e=aA f->PE X e (aX D W f)
 s:∀{X W Γ k e f},Sk D W Γ X k->r.s Γ e=aA f->PS X e (dW D W f)
noncomputable def cM (D:DP)(f:ER):Prop:=∀r,bT D r->∀{X W a k e d},Ck D W a X k->f r a e=aA d->PE X e (aX D W d)
noncomputable def rD (D:DP)(f:TR):Prop:=∀r,bT D r->∀{X W a k e d},Ck D W a X k->f r a e=aA d->PT X e (eJ D W d)
noncomputable def G8 (D:DP)(f:TR):Prop:=∀r,bT D r->∀{X W a k e d},Ck D W a X k->f r a e=aA d->PW X e (eJ D W d)
noncomputable def om (D:DP)(f:IR):Prop:=∀r,bT D r->∀{X W a k b e d},Ck D W a X k->Ut b e=aB->f r a e=aA d->PI X b e (gZ D W d)
noncomputable def og (D:DP)(f:SR):Prop:=∀r,bT D r->∀{X W a k e d},Sk D W a X k->f r a e=aA d->PS X e (dW D W d)
noncomputable def yL{α:Type}(P:α->Prop):List α->Prop
 |[]=>True
 |f::fs=>P f/\yL P fs
structure cI(D:DP)(R:dR):Prop where
 e:yL (cM D) R.e
 t:yL (rD D) R.t
 w:yL (G8 D) R.w
 i:yL (om D) R.i
 o:yL (cM D) R.o
 s:yL (og D) R.s
theorem j8{α β:Type}{P:(dF->Cn->α->Option β)->Prop}{C:Prop}{e:α}{d:β}:∀{fs:List (dF->Cn->α->Option β)},yL P fs->(∀f,P f->f r Γ e=aA d->C)->WR fs r Γ e=aA d->C
 |[],_,_,h=>by cases h
 |f::fs,a,k,h=>by
  unfold WR at h;cases q:f r Γ e with
  |some b=>rw[q] at h;cases h;exact k f a.1 q
  |none=>rw[q] at h;exact j8 a.2 k h
theorem w8{R:dR}(H:cI D R):∀n,bT D (aR R n)
 |0=>⟨λ_ h=>(by cases h),λ_ h=>(by cases h),λ_ h=>(by cases h),λ_ _ h=>(by cases h),λ_ h=>(by cases h),λ_ h=>(by cases h)⟩
 |n+1=>⟨λC h=>j8 H.e (λf p q=>p _ (w8 H n) C q) h,λC h=>j8 H.t (λf p q=>p _ (w8 H n) C q) h,λC h=>j8 H.w (λf p q=>p _ (w8 H n) C q) h,λC a h=>j8 H.i (λf p q=>p _ (w8 H n) C a q) h,λC h=>j8 H.o (λf p q=>p _ (w8 H n) C q) h,λC h=>j8 H.s (λf p q=>p _ (w8 H n) C q) h⟩
noncomputable def gd{α:Type}(b:Bool)(o:Option α):Option α:=match b with
 |true=>o
 |false=>aE
theorem z8{o:Option α}(h:gd b o=aA x):b=aB/\o=aA x:=by
 cases b with
 |true=>exact⟨rfl,h⟩
 |false=>cases h
theorem aS{α β:Type}{o:Option α}{f:α->Option β}{x:β}(h:o.bind f=aA x):∃a,o=aA a/\f a=aA x:=tB.mp h
noncomputable def zh {α β:Type}(f:α->Option β):List α->Option (List β)
 |[]=>aA []
 |a::r=>(f a).bind λb=>(zh f r).bind λbs=>aA (b::bs)
noncomputable def lE (r:dF)(Γ:Cn)(es:List aI):Option (List De):=zh (λe=>gd (aP e) (r.e Γ e)) es
section
variable {D:DP}{r:dF}{X:Cx}{W:XW}{Γ:Cn}{k:Nat}
theorem vW(h:bT D r)(C:Ck D W Γ X k):∀{es:List aI}{fs:List De},lE r Γ es=aA fs->dT X D W es fs
 |[],fs,e=>by cases e;trivial
 |a::es,fs,e=>by
  obtain⟨f,g,e⟩:=aS e;obtain⟨i,d,e⟩:=aS e;cases e;obtain⟨c,b⟩:=z8 g;exact⟨c,h.e C b,vW h C d⟩
theorem jF(h:bT D r)(C:Ck D W Γ X k):∀{es:List aI}{fs:List Dt},zh (r.t Γ) es=aA fs->Kl X D W es fs
 |[],fs,e=>by cases e;trivial
 |a::es,fs,e=>by
  obtain⟨f,c,e⟩:=aS e;obtain⟨d,b,e⟩:=aS e;cases e;exact⟨h.t C c,jF h C b⟩
theorem qZ(h:bT D r)(C:Sk D W Γ X k):∀{es:List bG}{fs:List Ds},zh (r.s Γ) es=aA fs->ZP X D W es fs
 |[],fs,e=>by cases e;trivial
 |a::es,fs,e=>by
  obtain⟨f,c,e⟩:=aS e;obtain⟨d,b,e⟩:=aS e;cases e;exact⟨h.s C c,qZ h C b⟩
end
noncomputable def g_:GM->Bool
 |.none=>aB
 |_=>aD
theorem Mx(h:g_ g=aB):g=.none:=by cases g<;>first|rfl|cases h
theorem zA{Γ:Cn}(h:g_ (Γ.look x)=aB):x∈Γ.G/\Γ.gl x=.none:=j9 (Mx h) (by intro z;cases z)
structure C0 where
 x:aG
 as:List aI
 p0:Pos
 pc:Pos
noncomputable def y7:aI->Option C0
 |.Call (.Name x b) c [] a=>aA ⟨x,c,b,a⟩
 |_=>aE
theorem wa(h:y7 e=aA q):e=.Call (.Name q.x q.p0) q.as [] q.pc:=by
 unfold y7 at h;split at h
 ·cases h;rfl
 ·cases h
structure Hd where
 o:aI
 m:aG
 pa:Pos
 as:List aI
 pc:Pos
noncomputable def Zr:aI->Option Hd
 |.Call (.Attribute o m b) c [] a=>aA ⟨o,m,b,c,a⟩
 |_=>aE
theorem jq(h:Zr e=aA q):e=.Call (.Attribute q.o q.m q.pa) q.as [] q.pc:=by
 unfold Zr at h;split at h
 ·cases h;rfl
 ·cases h
structure C1 where
 a:aI
 op:eQ
 b:aI
 p:Pos
noncomputable def nS:aI->Option C1
 |.Compare a [op] [b] p=>aA ⟨a,op,b,p⟩
 |_=>aE
theorem Vm(h:nS e=aA q):e=.Compare q.a [q.op] [q.b] q.p:=by
 unfold nS at h;split at h
 ·cases h;rfl
 ·cases h
structure TK where
 x:aG
 p0:Pos
 a:aI
 ky:aG
 v:aI
 pk:Pos
 pc:Pos
noncomputable def nR:aI->Option TK
 |.Call (.Name x d) [a] [⟨aA e,v,b⟩] c=>aA ⟨x,d,a,e,v,b,c⟩
 |_=>aE
theorem Wt(h:nR e=aA q):e=.Call (.Name q.x q.p0) [q.a] [⟨aA q.ky,q.v,q.pk⟩] q.pc:=by
 unfold nR at h;split at h
 ·cases h;rfl
 ·cases h
structure TJ where
 elt:aI
 tg:aI
 iter:aI
 ifs:List aI
 sc:Scope
 p:Pos
noncomputable def Qu:aI->Option TJ
 |.ListComp c [⟨d,a,b,0⟩] e p=>aA ⟨c,d,a,b,e,p⟩
 |_=>aE
theorem Zf(h:Qu e=aA q):e=.ListComp q.elt [⟨q.tg,q.iter,q.ifs,0⟩] q.sc q.p:=by
 unfold Qu at h;split at h
 ·cases h;rfl
 ·cases h
noncomputable def K_:aI->Bool
 |.Constant .none _ _=>aB
 |_=>aD
theorem YM(h:K_ e=aB):∃j p,e=.Constant .none j p:=by
 unfold K_ at h;split at h
 ·exact⟨_,_,rfl⟩
 ·cases h
noncomputable def J_:aI->Bool
 |.Constant (.bool aB) _ _=>aB
 |_=>aD
theorem YP(h:J_ e=aB):∃j p,e=.Constant (.bool aB) j p:=by
 unfold J_ at h;split at h
 ·exact⟨_,_,rfl⟩
 ·cases h
noncomputable def nP:aI->Option (aG×Pos)
 |.Name x p=>aA (x,p)
 |_=>aE
theorem Wx(h:nP e=aA q):e=.Name q.1 q.2:=by
 unfold nP at h;split at h
 ·cases h;rfl
 ·cases h
noncomputable def pO:aI->Option (aI×aI×Pos)
 |.Subscript a b p=>aA (a,b,p)
 |_=>aE
theorem Yk(h:pO e=aA q):e=.Subscript q.1 q.2.1 q.2.2:=by
 unfold pO at h;split at h
 ·cases h;rfl
 ·cases h
noncomputable def Qi{α:Type}:List α->Option α
 |[a]=>aA a
 |_=>aE
theorem vb{l:List α}(h:Qi l=aA a):l=[a]:=by
 match l with
 |[]=>cases h
 |[b]=>cases h;rfl
 |_::_::_=>cases h
noncomputable def pR{α:Type}:List α->Option (α×α)
 |[a,b]=>aA (a,b)
 |_=>aE
theorem V7{l:List α}{q:α×α}(h:pR l=aA q):l=[q.1,q.2]:=by
 match l with
 |[]=>cases h
 |[_]=>cases h
 |[b,c]=>cases h;rfl
 |_::_::_::_=>cases h
theorem zy(h:(a&&b)=aB):a=aB/\b=aB:=by
 cases a with
 |true=>exact⟨rfl,h⟩
 |false=>cases h
theorem qe{x:aG}(h:(x==y)=aB):x=y:=beq_iff_eq.mp h
noncomputable def EE:Const->Option De
 |.int i=>aA (eC (.int i))
 |.bool b=>aA (eC (.bl b))
 |.none=>aA (eC .non)
 |.str x=>aA (eC (.str x))
 |_=>aE
theorem OI{D:DP}{W:XW}(h:EE c=aA d):PE X (.Constant c j p) (aX D W d):=by
 cases c with
 |int i=>cases h;exact M3
 |bool i=>cases h;exact LG
 |none=>cases h;exact MM
 |str i=>cases h;exact Oc
 |_=>cases h
noncomputable def E6:GM->Option T
 |.cst t=>aA t
 |_=>aE
theorem P8(h:E6 g=aA t):g=.cst t:=by cases g<;>first|(cases h;rfl)|cases h
noncomputable def Aj (Γ:Cn)(x:aG):Option De:=match cL Γ.N x with
 |some i=>aA (eV i)
 |none=>(E6 (Γ.look x)).bind λt=>aA (eC t)
theorem Py{D:DP}{X:Cx}{W:XW}{k:Nat}(C:Ck D W Γ X k){x:aG}{p:Pos}(h:Aj Γ x=aA d):PE X (.Name x p) (aX D W d):=by
 unfold Aj at h;cases q:cL Γ.N x with
 |some i=>rw[q] at h;cases h;exact NT C q
 |none=>
  rw[q] at h;obtain⟨t,b,h⟩:=aS h;cases h;obtain⟨a,c⟩:=j9 (P8 b) (by intro z;cases z);exact Nv C a c
noncomputable def BI (r:dF)(Γ:Cn):List eQ->List aI->Option (List (eQ×De))
 |[],[]=>aA []
 |op::a,e::es=>gd (kH op) ((r.e Γ e).bind λf=>(BI r Γ a es).bind λb=>aA ((op,f)::b))
 |_,_=>aE
theorem GO{r:dF}{W:XW}{Γ:Cn}{k:Nat}(H:bT D r)(C:Ck D W Γ X k):∀{ops:List eQ}{es:List aI}{ps:List (eQ×De)},BI r Γ ops es=aA ps->YQ X D W es ps/\ps.map (·.1)=ops/\ps.all (λp=>kH p.1)=aB
 |[],[],ps,h=>by cases h;exact⟨trivial,rfl,rfl⟩
 |[],_::_,ps,h=>by cases h
 |_::_,[],ps,h=>by cases h
 |op::ops,e::es,ps,h=>by
  obtain⟨d,h⟩:=z8 h;obtain⟨f,i,h⟩:=aS h;obtain⟨j,g,h⟩:=aS h;cases h;obtain⟨c,b,a⟩:=GO H C g;exact⟨⟨H.e C i,c⟩,by simp[b],by simp[d,a]⟩
noncomputable def AH (r:dF)(Γ:Cn)(a:aI)(ops:List eQ)(es:List aI):Option De:=(r.e Γ a).bind λf=>(match ops,es with
 |[op],[b]=>gd (vx op b) ((r.e Γ b).bind λg=>aA (zx op f g))
 |_::_::_,_::_::_=>(BI r Γ ops es).bind λc=>aA (iC f c)
 |_,_=>aE)
theorem XF{D:DP}{X:Cx}{W:XW}{Γ:Cn}{k:Nat}(H:bT D r)(C:Ck D W Γ X k){a:aI}{ops:List eQ}{es:List aI}{d:De}(h:AH r Γ a ops es=aA d):PE X (.Compare a ops es p) (aX D W d)/\PT X (.Compare a ops es p) (eJ D W (tE d)):=by
 obtain⟨f,j,h⟩:=aS h;match ops,es with
 |[op],[b]=>
  obtain⟨o,h⟩:=z8 h
  obtain⟨g,i,h⟩:=aS h
  cases h
  exact⟨MG C o (H.e C j) (H.e C i),Kh C o (H.e C j) (H.e C i)⟩
 |op::q::ops,e::t::es=>
  obtain⟨l,i,h⟩:=aS h
  cases h
  obtain⟨n,c,m⟩:=GO H C i
  match l with
  |[]=>cases c
  |[p1]=>simp at c
  |p1::s::l=>
   simp only[dC,Cw] at c
   obtain⟨rfl,rfl,rfl⟩:=c
   exact⟨SM C m (H.e C j) n,VD C m (H.e C j) n⟩
 |[],es=>cases h
 |[_],[]=>cases h
 |[_],_::_::_=>cases h
 |_::_::_,[]=>cases h
 |_::_::_,[_]=>cases h
noncomputable def Bn (r:dF)(Γ:Cn):Option aI->Option Dp
 |none=>aA pN
 |some e=>(r.e Γ e).bind λf=>aA (pS f)
theorem Go{D:DP}{r:dF}{X:Cx}{W:XW}{k:Nat}(H:bT D r)(C:Ck D W Γ X k){o:Option aI}(h:Bn r Γ o=aA d):PO X o (n0 D W d):=by
 cases o with
 |none=>cases h;exact PQ
 |some e=>
  obtain⟨f,a,h⟩:=aS h;cases h;exact OV (H.e C a)
noncomputable def wS (r:dF)(Γ:Cn)(a b:aI):Option De:=match b with
 |.Slice lo c aE _=>(r.e Γ a).bind λf=>(Bn r Γ lo).bind λl=>(Bn r Γ c).bind λu=>aA (BF f l u)
 |b=>gd (qb b) ((r.e Γ a).bind λf=>(r.e Γ b).bind λg=>aA (bC f g))
theorem WW{D:DP}{r:dF}{X:Cx}{W:XW}{k:Nat}(H:bT D r)(C:Ck D W Γ X k){a b:aI}{p:Pos}(h:wS r Γ a b=aA d):PE X (.Subscript a b p) (aX D W d):=by
 unfold wS at h;split at h
 ·obtain⟨f,i,h⟩:=aS h;obtain⟨l,c,h⟩:=aS h;obtain⟨u,m,h⟩:=aS h;cases h;exact Si (H.e C i) (Go H C c) (Go H C m)
 ·obtain⟨j,h⟩:=z8 h;obtain⟨f,i,h⟩:=aS h;obtain⟨g,c,h⟩:=aS h;cases h;exact LL j C.hK (H.e C i) (H.e C c)
noncomputable def S6 (op:UnaryOp)(f:De):Option De:=match op with
 |.USub=>aA (xz f)
 |.Not=>aA (AT f)
 |_=>aE
noncomputable def LX(r:dF)(Γ:Cn)(op:BoolOp)(p:Pos):List aI->Option De
 |[a]=>r.e Γ a
 |a::b::l=>(r.e Γ a).bind λf=>(r.e Γ (.BoolOp op (b::l) p)).bind λg=>aA (match op with|.And=>jP f g|.Or=>G6 f g)
 |[]=>aE
noncomputable def FR:ER:=λr d e=>match e with
 |.Constant c _ _=>EE c
 |.Name x _=>Aj d x
 |.BinOp a op b _=>(r.e d a).bind λf=>(r.e d b).bind λg=>aA (zd op f g)
 |.UnaryOp op a _=>(r.e d a).bind λf=>S6 op f
 |.BoolOp op es p=>LX r d op p es
 |.Compare a h es _=>AH r d a h es
 |.IfExp c a b _=>(r.t d c).bind λt=>(r.e d a).bind λf=>(r.e d b).bind λg=>aA (n9 t f g)
 |.Attribute a x _=>gd (qz a) ((r.e d a).bind λf=>(d.fld.lookup x).bind λn=>aA (zf f n))
 |.Subscript a b _=>wS r d a b
 |.List es _=>gd (decide (es.length<=aU)) ((lE r d es).bind λfs=>aA (jg fs))
 |.Tuple es _ _=>gd (decide (es.length<=aU)) ((lE r d es).bind λfs=>aA (wq fs))
 |_=>aE
theorem Sj{D:DP}:cM D FR:=by
 intro r H X W v k e d C h;cases e with
 |Constant c j p=>exact OI h
 |Name x p=>exact Py C h
 |BinOp a op b p=>
  obtain⟨f,i,h⟩:=aS h;obtain⟨g,m,h⟩:=aS h;cases h;exact Nz (H.e C i) (H.e C m)
 |UnaryOp op a p=>
  obtain⟨f,i,h⟩:=aS h;cases op with
  |USub=>cases h;exact N0 (H.e C i)
  |Not=>cases h;exact Nn (H.e C i)
  |_=>cases h
 |BoolOp op es p=>
  match es with
  |[]=>cases h
  |[a]=>exact MR (H.e C h)
  |a::b::l=>
   obtain⟨f,i,h⟩:=aS h
   obtain⟨g,m,h⟩:=aS h
   cases h
   cases op with
   |And=>exact Ma (H.e C i) (H.e C m)
   |Or=>exact Mr (H.e C i) (H.e C m)
 |Compare a q es p=>exact (XF H C h).1
 |IfExp c a b p=>
  obtain⟨t,u,h⟩:=aS h;obtain⟨f,i,h⟩:=aS h;obtain⟨g,m,h⟩:=aS h;cases h;exact L9 (H.t C u) (H.e C i) (H.e C m)
 |Attribute a x p=>
  obtain⟨s,h⟩:=z8 h;obtain⟨f,i,h⟩:=aS h;obtain⟨n,m,h⟩:=aS h;cases h;exact NM C s (cD m) (H.e C i)
 |Subscript a b p=>exact WW H C h
 |List es p=>
  obtain⟨o,h⟩:=z8 h;obtain⟨fs,i,h⟩:=aS h;cases h;exact Oh (of_decide_eq_true o) (vW H C i)
 |Tuple es w p=>
  obtain⟨o,h⟩:=z8 h;obtain⟨fs,i,h⟩:=aS h;cases h;exact Ow (of_decide_eq_true o) (vW H C i)
 |_=>cases h
noncomputable def Fi (c:GM)(fs:List De):Option De:=match c with
 |.fn g=>aA (z6 g fs)
 |.mk c aB g=>aA (rA c g fs)
 |_=>aE
noncomputable def EG:ER:=λr a e=>(y7 e).bind λq=>gd ((cL a.N q.x).isNone&&a.calm) ((lE r a q.as).bind λfs=>Fi (a.look q.x) fs)
theorem PJ{D:DP}:cM D EG:=by
 intro r H X W m k e d C h;obtain⟨q,l,h⟩:=aS h;rw[wa l];obtain⟨i,h⟩:=z8 h;obtain⟨fs,j,h⟩:=aS h;unfold Fi at h;split at h
 ·rename_i g b;cases h;obtain⟨a,f⟩:=j9 b (by intro z;cases z);exact Pp C a f (zy i).2 (vW H C j)
 ·rename_i c g b;cases h;obtain⟨a,f⟩:=j9 b (by intro z;cases z);exact O2 C a f (zy i).2 (vW H C j)
 ·cases h
noncomputable def lC (nm:aG)(op:T->aK->RE T)(cl:Bool):ER:=λr b e=>(y7 e).bind λq=>(Qi q.as).bind λa=>gd (q.x==nm) (gd ((cL b.N q.x).isNone&&aP a) (gd (g_ (b.look nm)) (gd (!cl || b.calm) ((r.e b a).bind λf=>aA (dD op f)))))
theorem kG{nm:aG}{op:T->aK->RE T}{cl:Bool}(n:∀{X:Cx}{W:XW}{Γ:Cn}{k:Nat}{a:aI}{f:De}{p0 pos:Pos},Ck D W Γ X k->nm∈Γ.G->Γ.gl nm=.none->(cl=aB->Γ.calm=aB)->aP a=aB->PE X a (aX D W f)->PE X (.Call (.Name nm p0) [a] [] pos) (aX D W (dD op f))):cM D (lC nm op cl):=by
 intro r H X W Γ k e d C h;obtain⟨q,m,h⟩:=aS h;obtain⟨a,j,h⟩:=aS h;obtain⟨g,h⟩:=z8 h;obtain⟨i,h⟩:=z8 h;obtain⟨b,h⟩:=z8 h;obtain⟨c,h⟩:=z8 h;obtain⟨f,l,h⟩:=aS h;cases h;rw[wa m,vb j,qe g];exact n C (zA b).1 (zA b).2 (λz=>by rw[z] at c;exact c) (zy i).2 (H.e C l)
noncomputable def EY:ER:=lC "len" y_ aD
theorem O8:cM D EY:=kG λC a c _ b d=>JB C a c boot_len (by decide) b Lq d
noncomputable def Fe:ER:=lC "int" p_ aD
theorem PX:cM D Fe:=kG λC a c _ b d=>FP C a c (by decide +kernel) (by decide) b L5 d
noncomputable def FU:ER:=lC "list" Jn aD
theorem Sb:cM D FU:=kG λC a c _ b d=>FP C a c (by decide +kernel) (by decide) b M5 d
noncomputable def Fk:ER:=lC "all" V5 aB
theorem PD:cM D Fk:=kG λC a c d b e=>JB C a c boot_all (by decide) b (Lu (C.clm (d rfl))) e
noncomputable def EX:ER:=λr a e=>(y7 e).bind λq=>(pR q.as).bind λw=>gd (q.x==("isinstance":aG)) (gd ((cL a.N q.x).isNone&&aP w.1) (gd (g_ (a.look "isinstance")) ((r.e a w.1).bind λf=>(ZC a w.2).bind λcs=>aA (xY cs f))))
theorem Rk{D:DP}:cM D EX:=by
 intro r H X W m k e d C h;obtain⟨q,l,h⟩:=aS h;obtain⟨w,g,h⟩:=aS h;obtain⟨b,h⟩:=z8 h;obtain⟨c,h⟩:=z8 h;obtain⟨a,h⟩:=z8 h;obtain⟨f,j,h⟩:=aS h;obtain⟨cs,i,h⟩:=aS h;cases h;rw[wa l,V7 g,qe b];exact Ox C (zA a).1 (zA a).2 (zy c).2 i (H.e C j)
noncomputable def rk (nm:aG)(cb:De->De->De):ER:=λr b e=>(Zr e).bind λq=>(Qi q.as).bind λa=>gd (q.m==nm) (gd (qz q.o&&aP a) (gd (q.pa.endLine==q.pc.line) ((r.e b q.o).bind λf=>(r.e b a).bind λg=>aA (cb f g))))
theorem KG{D:DP}{nm:aG}{cb:De->De->De}(p:∀{X:Cx}{W:XW}{Γ:Cn}{k:Nat}{o a:aI}{f g:De}{pa pc:Pos},Ck D W Γ X k->qz o=aB->aP a=aB->(pa.endLine==pc.line)=aB->PE X o (aX D W f)->PE X a (aX D W g)->PE X (.Call (.Attribute o nm pa) [a] [] pc) (aX D W (cb f g))):cM D (rk nm cb):=by
 intro r H X W Γ k e d C h;obtain⟨q,n,h⟩:=aS h;obtain⟨a,j,h⟩:=aS h;obtain⟨c,h⟩:=z8 h;obtain⟨b,h⟩:=z8 h;obtain⟨i,h⟩:=z8 h;obtain⟨f,m,h⟩:=aS h;obtain⟨g,l,h⟩:=aS h;cases h;rw[jq n,vb j,qe c];exact p C (zy b).1 (zy b).2 i (H.e C m) (H.e C l)
noncomputable def ET:ER:=rk "append" K6
theorem Oz:cM D ET:=KG λC b a d c e=>Ol b a d c e
noncomputable def pY (r:dF)(Γ:Cn)(elt tg iter:aI)(ifs:List aI)(sc:Scope)(mk:Nat->List Nat->Tg->Di->List Dt->De->De):Option De:=
 gd (Γ.calm&&Kx Γ.N Γ.cel tg sc&&vj iter&&Ut tg iter) ((js Γ.N (frees sc)).bind λfs=>(va (z7 tg++frees sc) tg).bind λa=>(r.i Γ iter).bind λfi=>(zh (r.t (inComp Γ tg sc)) ifs).bind λcs=>(r.e (inComp Γ tg sc) elt).bind λfe=>aA (mk (z7 tg).length fs a fi cs fe))
theorem WE{r:dF}{elt tg iter:aI}{ifs:List aI}{sc:Scope}{mk:Nat->List Nat->Tg->Di->List Dt->De->De}(h:pY r Γ elt tg iter ifs sc mk=aA d) :
  ∃fs tgt fi cs fe,Γ.calm=aB/\cR Γ.N Γ.cel tg sc/\(vj iter=aB/\Ut tg iter=aB)/\js Γ.N (frees sc)=aA fs/\va (z7 tg++frees sc) tg=aA tgt/\r.i Γ iter=aA fi/\zh (r.t (inComp Γ tg sc)) ifs=aA cs/\r.e (inComp Γ tg sc) elt=aA fe/\d=mk (z7 tg).length fs tgt fi cs fe:=by
 obtain⟨a,h⟩:=z8 h;simp only[cH] at a;obtain⟨fs,j,h⟩:=aS h;obtain⟨tgt,g,h⟩:=aS h;obtain⟨fi,f,h⟩:=aS h;obtain⟨cs,c,h⟩:=aS h;obtain⟨fe,b,h⟩:=aS h;cases h;exact⟨fs,tgt,fi,cs,fe,a.1.1.1,Ue a.1.1.2,⟨a.1.2,a.2⟩,j,g,f,c,b,rfl⟩
noncomputable def F0:ER:=λr a e=>(Qu e).bind λq=>pY r a q.elt q.tg q.iter q.ifs q.sc qw
theorem So{D:DP}:cM D F0:=by
 intro r H X W u k e d C h;obtain⟨q,p,h⟩:=aS h;rw[Zf p];obtain⟨fs,c,fi,cs,fe,o,n,b,m,l,j,g,f,rfl⟩:=WE h;exact Y9 C o n m l (H.i C b.2 j) (λs t a=>H.e a f) (λs t a=>jF H a g) (Wj b.1)
noncomputable def FW:TR:=λr b e=>match e with
 |.Name _ _=>(r.e b e).bind λf=>aA (tE f)
 |.Call _ _ _ _=>(r.e b e).bind λf=>aA (tE f)
 |.Subscript _ _ _=>(r.e b e).bind λf=>aA (tE f)
 |.Attribute _ _ _=>(r.e b e).bind λf=>aA (tE f)
 |.Compare a c es _=>(AH r b a c es).bind λf=>aA (tE f)
 |.UnaryOp op a _=>(match op with
  |.Not=>(r.t b a).bind λf=>aA (qc f)
  |_=>aE)
 |.BoolOp _ _ _=>r.w b e
 |_=>aE
theorem SK{D:DP}:rD D FW:=by
 intro r H X W j k e d C h;cases e with
 |Name x p=>
  obtain⟨f,c,h⟩:=aS h;cases h;exact XJ (H.e C c) λ_=>rfl
 |Call f args i p=>
  obtain⟨f,c,h⟩:=aS h;cases h;exact XJ (H.e C c) λ_=>rfl
 |Subscript a b p=>
  obtain⟨f,c,h⟩:=aS h;cases h;exact XJ (H.e C c) λ_=>rfl
 |Attribute a b p=>
  obtain⟨f,c,h⟩:=aS h;cases h;exact XJ (H.e C c) λ_=>rfl
 |Compare a g es p=>
  obtain⟨f,c,h⟩:=aS h;cases h;exact (XF H C c).2
 |UnaryOp op a p=>
  cases op with
  |Not=>
   obtain⟨f,c,h⟩:=aS h;cases h;exact No (H.t C c)
  |_=>cases h
 |BoolOp op es p=>exact (H.w C h).pt
 |_=>cases h
noncomputable def GF:TR:=λr c e=>match e with
 |.BoolOp op es p=>(match es with
  |[a]=>r.t c a
  |a::b::l=>(r.t c a).bind λf=>(r.w c (.BoolOp op (b::l) p)).bind λg=>aA (match op with|.And=>xA f g|.Or=>fx f g)
  |[]=>aE)
 |_=>aE
theorem Uo{D:DP}:G8 D GF:=by
 intro r H X W j k e d C h;cases e with
 |BoolOp op es p=>
  match es with
  |[]=>cases h
  |[a]=>
   cases op with
   |And=>exact PH (H.t C h)
   |Or=>exact NI (H.t C h)
  |a::b::l=>
   obtain⟨f,i,h⟩:=aS h
   obtain⟨g,c,h⟩:=aS h
   cases h
   cases op with
   |And=>exact Om (H.t C i) (H.w C c)
   |Or=>exact LS (H.t C i) (H.w C c)
 |_=>cases h
noncomputable def Fv (r:dF)(Γ:Cn):List aI->Option Di
 |[a]=>(r.e Γ a).bind λf=>aA (pP f)
 |[a,b]=>(r.e Γ a).bind λf=>(r.e Γ b).bind λg=>aA (VH f g)
 |_=>aE
noncomputable def FQ:IR:=λr a e=>(y7 e).bind λq=>gd (q.x==("range":aG)) (gd ((cL a.N q.x).isNone&&q.as.all aP) (gd (g_ (a.look "range")) (Fv r a q.as)))
theorem RP{D:DP}:om D FQ:=by
 intro r H X W n k o e d C p h;obtain⟨q,m,h⟩:=aS h;obtain⟨b,h⟩:=z8 h;obtain⟨a,h⟩:=z8 h;obtain⟨j,h⟩:=z8 h;rw[wa m,qe b];have a:=(zy a).2;obtain⟨b,i⟩:=zA j;generalize q.as=s at h a ⊢;unfold Fv at h;split at h
 ·obtain⟨f,c,h⟩:=aS h;cases h;exact Sr C b i (zy a).1 (H.e C c)
 ·obtain⟨f,c,h⟩:=aS h;obtain⟨g,l,h⟩:=aS h;cases h;exact YY C b i (zy a).1 (zy (zy a).2).1 (H.e C c) (H.e C l)
 ·cases h
noncomputable def GV:IR:=λr a e=>(r.e a e).bind λf=>aA (iE f)
theorem ND{D:DP}:om D GV:=by
 intro r H X W b k c e d C g h;obtain⟨f,a,h⟩:=aS h;cases h;exact PC (H.e C a)
noncomputable def tV:aI->Option (List aI×Pos)
 |.List es p=>aA (es,p)
 |_=>aE
theorem Pw(h:tV e=aA q):e=.List q.1 q.2:=by
 unfold tV at h;split at h
 ·cases h;rfl
 ·cases h
noncomputable def F7:ER:=λr a e=>(tV e).bind λq=>gd (decide (q.1.length<=aU)) ((lE r a q.1).bind λfs=>aA (Zm fs))
theorem SW{D:DP}:cM D F7:=by
 intro r H X W f k e d C h;obtain⟨q,c,h⟩:=aS h;rw[Pw c];obtain⟨a,h⟩:=z8 h;obtain⟨fs,b,h⟩:=aS h;cases h;exact Nf (of_decide_eq_true a) (vW H C b)
noncomputable def GK:ER:=λr a e=>(Qu e).bind λq=>pY r a q.elt q.tg q.iter q.ifs q.sc kQ
theorem Uc{D:DP}:cM D GK:=by
 intro r H X W u k e d C h;obtain⟨q,p,h⟩:=aS h;rw[Zf p];obtain⟨fs,c,fi,cs,fe,o,n,b,m,l,j,g,f,rfl⟩:=WE h;exact VS C o n m l (H.i C b.2 j) (λs t a=>H.e a f) (λs t a=>jF H a g) (Wj b.1)
noncomputable def nO (r:dF)(Γ:Cn)(x:aG)(e:aI):Option De:=match Γ.own.contains x with
 |true=>r.o Γ e
 |false=>r.e Γ e
theorem WV{W:XW}(H:bT D r)(C:Ck D W Γ X k)(h:nO r Γ x e=aA d):PE X e (aX D W d):=by
 unfold nO at h;cases q:Γ.own.contains x with
 |true=>rw[q] at h;exact H.o C h
 |false=>rw[q] at h;exact H.e C h
noncomputable def fD:aI->Bool
 |.Call _ _ _ _=>aB
 |.Constant _ _ _=>aB
 |_=>aD
theorem Ul(h:fD e=aB):(∃f as ks p,e=.Call f as ks p)\/∃c j p,e=.Constant c j p:=by
 unfold fD at h;split at h
 ·exact .inl ⟨_,_,_,_,rfl⟩
 ·exact .inr ⟨_,_,_,rfl⟩
 ·cases h
theorem Sf(h:fD e=aB):iw e aE l env=pure aD:=by
 rcases Ul h with⟨_,_,_,_,rfl⟩|⟨_,_,_,rfl⟩<;>rfl
noncomputable def GH:aI->Bool
 |.ListComp _ _ _ _=>aB
 |.SetComp _ _ _ _=>aB
 |.DictComp _ _ _ _ _=>aB
 |_=>aD
theorem Sz(h:GH e=aD):iw e (aA (.Name x p)) l env=pure aD:=by
 cases e<;>first|rfl|cases h
noncomputable def F3(b:Bool):Nat->List Nat->Tg->Di->List Dt->De->De:=match b with
 |true=>kQ
 |false=>qw
noncomputable def tS (r:dF)(Γ:Cn)(x:aG)(e:aI):Option De:=match Qu e with
 |some q=>pY r Γ q.elt q.tg q.iter q.ifs q.sc (F3 (Γ.own.contains x))
 |none=>gd (!GH e) (nO r Γ x e)
theorem Po(H:bT D r){W:XW}(C:Sk D W Γ X k)(hi:cL Γ.N x=aA i)(d:iV Γ (.Name x p)=aB)(h:tS r Γ x e=aA f):PS X (.Assign [.Name x p] e pos) (dW D W (zp i f)):=by
 unfold tS at h;cases q:Qu e with
 |none=>
  rw[q] at h;obtain⟨B,h⟩:=z8 h;exact Gc C hi d (Sz (by simpa using B)) (WV H C.toCk h)
 |some w=>
  rw[q] at h;rw[Zf q];obtain⟨fs,a,fi,cs,fe,v,u,m,t,s,z,o,n,rfl⟩:=WE h;have c:=H.i C.toCk m.2 z;have A:F3 (Γ.own.contains x) (z7 w.tg).length fs a fi cs fe=(match Γ.own.contains x with|true=>kQ (z7 w.tg).length fs a fi cs fe|false=>qw (z7 w.tg).length fs a fi cs fe):=by cases Γ.own.contains x<;>rfl
  rw[A];have y:∀bb,iw (.ListComp w.elt [⟨w.tg,w.iter,w.ifs,0⟩] w.sc w.p) (aA (.Name x p)) pos.line X.env=pure bb->PS X (.Assign [.Name x p] (.ListComp w.elt [⟨w.tg,w.iter,w.ifs,0⟩] w.sc w.p) pos) (dW D W (zp i (match Γ.own.contains x with|true=>kQ (z7 w.tg).length fs a fi cs fe|false=>qw (z7 w.tg).length fs a fi cs fe))):=λbb g=>by
   cases bb with
   |true=>exact O_ C v hi d u t s c (λj l b=>H.e b n) (λj l b=>jF H b o) (Wj m.1) _ g
   |false=>
    refine Gc C hi d g ?_;cases Γ.own.contains x with
    |true=>exact VS C.toCk v u t s c (λj l b=>H.e b n) (λj l b=>jF H b o) (Wj m.1)
    |false=>exact Y9 C.toCk v u t s c (λj l b=>H.e b n) (λj l b=>jF H b o) (Wj m.1)
  exact y _ rfl
noncomputable def EW (r:dF)(Γ:Cn)(t e:aI):Option Ds:=gd (iV Γ t) (match t with
 |.Name x _=>(cL Γ.N x).bind λi=>(tS r Γ x e).bind λf=>aA (zp i f)
 |.Tuple es _ _=>gd (Γ.calm&&xr e) ((c5 Γ.N es).bind λa=>(r.e Γ e).bind λf=>aA (pU a f))
 |.Attribute o x _=>(Γ.fld.lookup x).bind λn=>(nO r Γ x e).bind λf=>(r.e Γ o).bind λgo=>aA (zM go n f)
 |.Subscript o b _=>gd (qb b) ((r.e Γ e).bind λf=>(r.e Γ o).bind λgo=>(r.e Γ b).bind λc=>aA (Ew go c f))
 |_=>aE)
theorem O0(H:bT D r){W:XW}(C:Sk D W Γ X k)(h:EW r Γ t e=aA d):PS X (.Assign [t] e pos) (dW D W d):=by
 obtain⟨b,h⟩:=z8 h;split at h
 ·obtain⟨i,l,h⟩:=aS h;obtain⟨f,a,h⟩:=aS h;cases h;exact Po H C l b a
 ·obtain⟨g,h⟩:=z8 h;obtain⟨m,a,h⟩:=aS h;obtain⟨f,c,h⟩:=aS h;cases h;exact NC C (zy g).1 (zy g).2 a b (H.e C.toCk c)
 ·obtain⟨n,a,h⟩:=aS h;obtain⟨f,c,h⟩:=aS h;obtain⟨go,j,h⟩:=aS h;cases h;exact NS C (cD a) (WV H C.toCk c) (H.e C.toCk j)
 ·obtain⟨g,h⟩:=z8 h;obtain⟨f,a,h⟩:=aS h;obtain⟨go,c,h⟩:=aS h;obtain⟨o,j,h⟩:=aS h;cases h;exact NE C g (H.e C.toCk a) (H.e C.toCk c) (H.e C.toCk j)
 ·cases h
noncomputable def A5:bG->Option aI
 |.Raise (aA e) aE _=>aA e
 |_=>aE
theorem Re(h:A5 s=aA e):∃p,s=.Raise (aA e) aE p:=by
 unfold A5 at h;split at h
 ·cases h;exact⟨_,rfl⟩
 ·cases h
noncomputable def Ev:GM->Option Nat
 |.xcl c=>aA c
 |_=>aE
theorem PY(h:Ev g=aA c):g=.xcl c:=by cases g<;>first|(cases h;rfl)|cases h
noncomputable def Fz:SR:=λr b s=>(A5 s).bind λe=>(y7 e).bind λq=>gd (b.calm&&(cL b.N q.x).isNone) (match q.as with
 |[]=>aE
 |a::d=>(lE r b (a::d)).bind λfs=>(Ev (b.look q.x)).bind λc=>aA (zG c fs))
theorem Ux:og D Fz:=by
 intro r H X W p k e d C h;obtain⟨t,o,h⟩:=aS h;obtain⟨q,m,h⟩:=aS h;obtain⟨s,j⟩:=Re o;rw[j,wa m];obtain⟨l,h⟩:=z8 h;generalize q.as=b at h ⊢;cases b with
 |nil=>cases h
 |cons a b=>
  obtain⟨fs,n,h⟩:=aS h;obtain⟨c,g,h⟩:=aS h;cases h;obtain⟨f,i⟩:=j9 (PY g) (by intro z;cases z);exact SO C (zy l).1 f i (vW H C.toCk n)
noncomputable def Br:aI->Option aG
 |.Name x _=>aA x
 |_=>aE
theorem M9(h:Br e=aA x):∃p,e=.Name x p:=by
 unfold Br at h;split at h
 ·cases h;exact⟨_,rfl⟩
 ·cases h
noncomputable def EJ (Γ:Cn)(x:aG):Option Nat:=gd ((cL Γ.N x).isNone&&Γ.G.contains x&&(match Γ.gl x with|.xcl c=>Γ.cls.lookup x==aA c&&Nat.blt c 40|.xcf c _=>Γ.cls.lookup x==aA c&&Nat.blt c 40|_=>aD)) (Γ.cls.lookup x)
theorem P_(h:EJ Γ x=aA c):im Γ x c:=by
 obtain⟨d,g⟩:=z8 h;simp only[cH] at d;refine⟨by simpa using d.1.2,cD g,?_⟩;have a:=d.2;rw[g] at a;cases b:Γ.gl x with
 |xcl e=>
  simp only[b,cH] at a;have:c=e:=bU (beq_iff_eq.mp a.1);rw[this];exact⟨.inr rfl,Nat.blt_eq.mp a.2⟩
 |xcf e f=>
  simp only[b,cH] at a;have:c=e:=bU (beq_iff_eq.mp a.1);rw[this];exact⟨.inl ⟨f,rfl⟩,Nat.blt_eq.mp a.2⟩
 |_=>rw[b] at a;cases a
noncomputable def G3 (Γ:Cn)(t:aI):Option (List Nat):=(Br t).bind λx=>(EJ Γ x).bind λc=>aA [c]
theorem NW(h:G3 Γ t=aA cs):wp Γ t cs:=by
 obtain⟨x,q,h⟩:=aS h;obtain⟨c,a,h⟩:=aS h;cases h;obtain⟨p,rfl⟩:=M9 q;exact⟨x,p,c,rfl,rfl,P_ a⟩
noncomputable def G4 (r:dF)(Γ:Cn):oM->Option (List Nat×Option Nat×List Ds)
 |.ExceptHandler t nm a _=>t.bind λt=>gd (!a.isEmpty&&nm.isNone) ((G3 Γ t).bind λcs=>(zh (r.s {Γ with calm:=aD}) a).bind λb=>aA (cs,aE,b))
theorem Gm(H:bT D r):∀{hs:List oM}{gs:List (List Nat×Option Nat×List Ds)},zh (G4 r Γ) hs=aA gs->YE D Γ k hs gs
 |[],gs,h=>by cases h;trivial
 |.ExceptHandler t nm a p::hs,gs,h=>by
  obtain⟨g,u,m⟩:=aS h;obtain⟨v,s,l⟩:=aS m;cases l;have n:=Gm (k:=k) H s;obtain⟨y,b,j⟩:=aS u;subst b;obtain⟨c,i⟩:=z8 j;obtain⟨cs,q,f⟩:=aS i;obtain⟨x,o,d⟩:=aS f;cases d;cases a with
  |nil=>cases c
  |cons z a=>
   cases nm with
   |none=>exact⟨⟨_,_,_,_,_,_,rfl,rfl,NW q,λA w=>qZ H w o⟩,n⟩
   |some e=>cases c
noncomputable def Gy:SR:=λr d s=>match s with
 |.Return o _=>(match o with
  |some e=>(nO r d "return" e).bind λf=>aA (zr f)
  |none=>aA Be)
 |.Expr e _=>gd (fD e) ((r.e d e).bind λf=>aA (zN f))
 |.If c a b _=>(r.t d c).bind λt=>(zh (r.s d) a).bind λj=>(zh (r.s d) b).bind λh=>aA (bS t j h)
 |.Assign n e _=>(Qi n).bind λt=>EW r d t e
 |.For l it b g _=>gd (d.calm&&vj it) (gd (g.isEmpty&&Ut l it) (gd (iV d l) ((va d.N l).bind λk=>(r.i d it).bind λfi=>(zh (r.s d) b).bind λh=>aA (kn k fi h))))
 |.While c b g _=>gd g.isEmpty ((r.t d c).bind λt=>(zh (r.s d) b).bind λh=>aA (K4 t h))
 |.Try b m g fin _=>gd (d.calm&&g.isEmpty) (gd (fin.isEmpty&&!m.isEmpty) ((zh (r.s d) b).bind λj=>(zh (G4 r d) m).bind λp=>aA (nQ j p)))
 |_=>aE
theorem YO:og D Gy:=by
 intro r H X W A k e d C h;cases e with
 |Return o p=>
  cases o with
  |none=>cases h;exact OE
  |some e=>
   obtain⟨f,g,h⟩:=aS h;cases h;exact ME (WV H C.toCk g)
 |Expr e p=>
  obtain⟨n,h⟩:=z8 h;obtain⟨f,g,h⟩:=aS h;cases h;exact OA (Sf n) (H.e C.toCk g)
 |If c a b p=>
  obtain⟨t,g,h⟩:=aS h;obtain⟨v,l,h⟩:=aS h;obtain⟨s,j,h⟩:=aS h;cases h;exact Mt (H.t C.toCk g) (qZ H C l) (qZ H C j)
 |Assign B e p=>
  obtain⟨t,g,h⟩:=aS h;rw[vb g];exact O0 H C h
 |For E it b m p=>
  obtain⟨g,h⟩:=z8 h;obtain⟨l,h⟩:=z8 h;obtain⟨j,h⟩:=z8 h;obtain⟨w,q,h⟩:=aS h;obtain⟨fi,y,h⟩:=aS h;obtain⟨s,x,h⟩:=aS h;cases h;rw[oX.mp (zy l).1];exact Nm C (zy g).1 q j (H.i C.toCk (zy l).2 y) (qZ H C x) (Wj (zy g).2)
 |While c b m p=>
  obtain⟨n,h⟩:=z8 h;obtain⟨t,g,h⟩:=aS h;obtain⟨s,j,h⟩:=aS h;cases h;rw[oX.mp n];exact Sc C (H.t C.toCk g) (qZ H C j)
 |Try b u m fin p=>
  obtain⟨g,h⟩:=z8 h;obtain⟨l,h⟩:=z8 h;obtain⟨v,j,h⟩:=aS h;obtain⟨G,q,h⟩:=aS h;cases h;rw[oX.mp (zy g).2,oX.mp (zy l).1];cases u with
  |nil=>cases (zy l).2
  |cons F u=>exact Ng C (zy g).1 (λI J z=>qZ H z j) (Gm H q)
 |_=>cases h
structure fY(D:DP)(P:Program)(w:World)(K:PySem.W.Frag)(mg:aG->Option aC)(base:aT)(Γ:Cn)(k:Nat):Prop where
 hK:K=D.K
 glo:∀x∈Γ.U,cE D P w K mg base k x (Γ.gl x)/\(x==("__debug__":aG))=aD
 isi:∀t x c,(x,c)∈Γ.cls->∀u v,VT D t u->Zv mg x v->o6 K u v=aA (vy t c)
 fld:∀c C x f,D.cad c=aA C->(x,f)∈Γ.fld->D.fn f=aA x/\gu K C/\cJ K C x
 xcx:∀c C,D.adr c=aA C->ik K C
 ocx:∀c C,D.cad c=aA C->ma K C
 clv:∀x c,(x,c)∈Γ.cls->∃u v,Zv mg x u/\gp v u
 xmt:∀t x c,(x,c)∈Γ.cls->c<40->∀Ct Cc,D.adr t=aA Ct->mg x=aA (.ref Cc)->ng K (.ref Ct) (.ref Cc)=aA (vy t c)
noncomputable def xQ(Γ:Cn)(ps:List aG)(sc:Scope):Bool:=
 (sc.kind==.function)&&!sc.isCoroutine&&!sc.isGenerator&&decide (Γ.N.Nodup)&&(Γ.N.take ps.length==ps)&&sc.names.all (λy=>y.2 != .free)&&
 Γ.N.all (λx=>x != ("__debug__":aG)&&x != ("__classdict__":aG)&&(if Γ.cel.contains x then sc.names.lookup x==aA .cell else sc.names.lookup x==aA .local))&&
 Γ.G.all (λx=>Γ.U.contains x&&sc.names.lookup x==aA .globalImplicit)&&Γ.cel.all (λx=>Γ.N.contains x)&&Γ.calm
theorem jL{W:XW}(p:XP X W e s):X.A.frames=aA X.stack:=by
 obtain⟨_,_,_,_,_,_,_,_,I,_⟩:=p;exact I.ok.frames
theorem Xf:∀(ts:List T) (n:Nat),rg ts n=ts.map aA++lu n aE
 |[],n=>by
  have:∀n,Bo n=lu n aE:=λn=>by
   induction n with
   |zero=>rfl
   |succ n a=>show aE::Bo n=_;rw[a];rfl
  exact this n
 |t::r,n=>by show aA t::rg r n=_;rw[Xf r n];rfl
section
variable {D:DP}{P:Program}{w:World}{K:PySem.W.Frag}{mg:aG->Option aC}{base:aT}{Γ:Cn}{k n:Nat}
theorem KH(d:aN D φ α H ts vs):bA D φ α H (rg ts (N.length-ts.length)) (L2.start N vs):=by
 have b:=d.length;rw[Xf];refine⟨by simp[L2.start,b],λi t e=>?_⟩;by_cases a:i<ts.length
 ·rw[dP (by simpa using a),c9] at e;cases q:ts[i]? with
  |none=>rw[q] at e;cases e
  |some c=>
   rw[q] at e;have e:aA (aA c)=aA (aA t):=e;cases e;obtain⟨v,f,dv⟩:=d.get q;refine⟨v,?_,dv⟩;unfold L2.start;rw[dP (by rw[bP,←b];exact a),c9,f];rfl
 ·rw[fN (by simpa using a),pv] at e;split at e<;>cases e
noncomputable def f7 (X:Cx)(f:aG->Bool):Cx:={X with fn:=f}
theorem Od(a:∀x,f x=aB->g x=aB)(ok:(f7 X g).Ok):(f7 X f).Ok:=⟨ok.mod,ok.kind,ok.glob,ok.blt,ok.above,ok.inj,ok.has,λx c e=>ok.cab x c (a x e),ok.hd,ok.frames,ok.stk,ok.exf,ok.bs,ok.bsz,ok.noex,ok.exfs,ok.funs,ok.frf⟩
theorem ud{f g:aG->Bool}{a:St}(b:∀x,f x=aB->g x=aB)(I:Inv (f7 X g) d a H s):Inv (f7 X f) d a H s:=
 ⟨Od b I.ok,I.os,I.bare,I.base,I.loc,I.cell,I.free,λx c e=>(I.freeC x c e).imp id λz=>⟨Dv.mpr λq=>Bool.noConfusion ((b x q).symm.trans (show g x=aD from z.1)),z.2⟩,I.pin,I.hok,I.len⟩
theorem NV{W:XW}(l:∀x,f x=aB->g x=aB)(p:XP (f7 X g) W e s):XP (f7 X f) W e s:=by
 obtain⟨x,cls,d,h,H,T,fl,a,I,b,c,r,j,i⟩:=p;exact⟨x,cls,d,h,H,T,fl,a,ud l I,⟨b.free,b.loc,b.nfs,b.new,b.cel,b.pin⟩,λt k=>let b:=c t k;⟨b.free,b.loc,b.nfs,b.new,b.cel,b.pin⟩,r,j,i⟩
theorem X5(e:∀x,f x=aB->g x=aB)(h:SP (f7 X g) d E fl s):SP (f7 X f) d E fl s:=by
 cases fl with
 |ret v=>obtain⟨v,a,c,b,r⟩:=h;exact⟨v,a,c,ud e b,r⟩
 |_=>obtain⟨a,c,b,r⟩:=h;exact⟨a,c,ud e b,r⟩
theorem Yf{W:XW}{f:aG->Bool}{y:List bG}{c:List Ds}(h2:ZP (f7 X f) D W y c):∀{b1:List bG}{ds1:List Ds},ZP (f7 X λ_=>aB) D W b1 ds1->
  ∀(a:List (aF×bD)) (s:a_) (d:St) (H:Hp) (E:Ends),Inv (f7 X λ_=>aB) a d H s->dW D W (qd (ds1++c)) E d H->wpAny (aQ X.prog X.w) X.A (execs (b1++y) X.env) (SP (f7 X f) a E) X.xe s
 |[],[],_,a,s,d,H,E,I,q=>wA h2 a s d H E (ud (λ_ _=>rfl) I) q
 |st::r,u::G,h,a,s,d,H,E,I,q=>by
  obtain⟨n,F,B,C,J,M,Q,q,N,x,t,p,o⟩:=q;refine wpAny_execs_cons (aY (h.1 a s d H {E with nx:=λb g=>dW D W (qd (G++c)) E b g} I ⟨n,F,B,C,J,M,_,q,λi j e k g b st m l=>?_,x,t,p,o⟩) λfl K z=>?_)
  ·exact⟨n,k,i,j,l,m,aM.step ⟨Q,e,N,x,t,p,o⟩ st⟩
  ·cases fl with
   |next=>
    obtain⟨b,g,O,L⟩:=z;exact Yf h2 h.2 a K b g E O L
   |ret v=>exact X5 (fl:=.ret v) (E:=E) (λ_ _=>rfl) z
   |brk=>exact X5 (fl:=.brk) (E:=E) (λ_ _=>rfl) z
   |cont=>exact X5 (fl:=.cont) (E:=E) (λ_ _=>rfl) z
 |[],_::_,h,_,_,_,_,_,_,_=>h.elim
 |_::_,[],h,_,_,_,_,_,_,_=>h.elim
theorem Jf(HR:cI D R){name qual:aG}{params:Arguments}{body b1 b2:List bG}{dV kV doc pm g ct oc:aC}{an od:Option aF}{m:Nat}{ds1 L:List Ds}
    (M:fY D P w K mg base Γ k) (lk:K.lookup f=aA ⟨oc,od,.func (gW name qual params body scope dV kV doc pm an g ct),osl⟩) (hcd:gx K g qual=aB) (hs:xQ Γ ps scope=aB) (hm:Γ.N.length=ps.length+m) (hbo:body=b1++b2) (hd1:zh ((aR R n).s {Γ with fz:=[]}) b1=aA ds1) (hds:zh ((aR R n).s Γ) b2=aA L) (O:c6 D mg base g (qual++".<locals>.") k Γ.lam Γ.lnm:=by exact c6.no rfl) :
    bY P w K mg base (dG P w) (k+1) f (gW name qual params body scope dV kV doc pm an g ct) ps (eU D ps.length (bI ps.length m (ds1++L))):=by
  subst hbo;simp only[xQ,cH,f_,beq_iff_eq,nj,decide_eq_true_eq,bne_iff_ne,ne_eq] at hs;obtain⟨⟨⟨⟨⟨⟨⟨⟨⟨h1,h2⟩,h3⟩,h4⟩,h5⟩,h6⟩,h7⟩,h8⟩,h9⟩,h10⟩:=hs;have G:∀x∈Γ.N,(Γ.cel.contains x=aB/\scope.names.lookup x=aA .cell)\/(Γ.cel.contains x=aD/\scope.names.lookup x=aA .local):=λx a=>by
    have q:=(h7 x a).2;cases V:Γ.cel.contains x with
    |true=>rw[V,if_pos rfl] at q;exact .inl ⟨rfl,beq_iff_eq.mp q⟩
    |false=>rw[V] at q;exact .inr ⟨rfl,beq_iff_eq.mp q⟩
  have C:∀x∈Γ.N,scope.names.lookup x=aA .local\/scope.names.lookup x=aA .cell:=λx a=>(G x a).elim (λz=>.inr z.2) λz=>.inl z.2;have S:eK Γ.N ps scope:=⟨h1,h2,h3,h4,h5,λx a=>C x (by rw[←h5] at a;exact DL a),h6⟩;refine Lw (fnb:=λx=>!Γ.fz.contains x) lk hcd S (λvs H Q E q=>q.1) λA j s H vs Q E hr hsp o=>?_;obtain⟨hl,φ,α,ts,μ,d,mr,K0,Z0,⟨hle,q⟩,T,hz0⟩:=hsp;generalize I:Km (dG P w) P w K mg base Γ.N qual scope f g A j s H E (λx=>!Γ.fz.contains x)=X;have F:i3 X (gw qual scope s.heap.objs.size f g) j s.heap.objs.size:=by rw[←I];exact⟨rfl,rfl,rfl⟩
  have U:X.fn=λx=>!Γ.fz.contains x:=by rw[←I];rfl
  have CK:∀(l:List aG),(∀x∈l,x∈Γ.fz)->Sk D (e_ E) {Γ with fz:=l} (f7 (X.wish (XP X (e_ E))) λx=>!l.contains x || !Γ.fz.contains x) k:=λl hl'=>by
    have xe:∀e s,XP (f7 (X.wish (XP X (e_ E))) λx=>!l.contains x || !Γ.fz.contains x) (e_ E) e s->XP X (e_ E) e s:=λe s p=>by
      have p2:XP (f7 (X.wish (XP X (e_ E))) λx=>!Γ.fz.contains x) (e_ E) e s:=NV (λx a=>by rw[a,Bool.or_true]) p;exact jM (show XP (X.wish (XP X (e_ E))) (e_ E) e s by rw[←U] at p2;exact p2)
    have pso:mZ (aQ X.prog X.w) X.A X.env (XP X (e_ E)):=λe s p=>y9 F (jL p) e s p;subst I
    exact { hK := M.hK,hN := rfl,nd := h4,vis := fun x a => (C x a).elim .inl fun z => .inr (.inl z),dbg := fun x a => ⟨beq_eq_false_iff_ne.mpr (h7 x a).1.1,beq_eq_false_iff_ne.mpr (h7 x a).1.2⟩,
            dbG:=λx a=>(M.glo x (by simpa using (h8 x a).1)).2,glb:=λx a=>(h8 x a).2,glo:=λx a=>(M.glo x (by simpa using (h8 x a).1)).1,glU:=M.glo,
            cel:=λx a=>.inl ((G x (by simpa using h9 x a)).elim (λz=>z.2) λz=>by have:=z.1;rw[ic.mpr a] at this;cases this),
            isi:=M.isi,fld:=M.fld,xcx:=M.xcx,ocx:=M.ocx,clv:=M.clv,clm:=λ_=>rfl,rom:=λ_=>hr,rmh:=⟨hr.dp,hr.un⟩,xe:=xe,frm:=⟨_,_,_,F.stk,F.f0,F.fe⟩,lam:=O,kfz:=λ_ x a=>⟨by show (!l.contains x || !Γ.fz.contains x)=aD;rw[ic.mpr a,ic.mpr (hl' x a)];rfl,λc e=>(o x c e).1⟩,
            sto:=λx a=>by
              obtain⟨z1,z2⟩:=fA.mp a;exact⟨C x z1,.inl (by show (!l.contains x || _)=aB;rw[show (!l.contains x)=aB from z2];rfl)⟩,lcl:=λx a V=>(G x a).elim (λz=>by rw[z.1] at V;cases V) λz=>z.2,pso:=pso,xmt:=M.xmt}
  have B:gP X (b1++b2) (λE1 r Y=>(∀y c,X.env.cells.lookup y=aA c->X.s₀.heap.objs.size<=c/\Y c=aE)/\dW D (e_ E) (qd (ds1++L)) E1 r Y):=λu s1 r Y E1 I1 ⟨hf,q⟩=>by
    have I2:Inv (f7 (X.wish (XP X (e_ E))) λ_=>aB) u r Y s1:=by
      have J:=I1.wish (XP X (e_ E));subst I;exact⟨⟨J.ok.mod,J.ok.kind,J.ok.glob,J.ok.blt,J.ok.above,J.ok.inj,J.ok.has,λx c _ e=>(hf x c e).1,J.ok.hd,J.ok.frames,J.ok.stk,J.ok.exf,J.ok.bs,J.ok.bsz,J.ok.noex,J.ok.exfs,J.ok.funs,J.ok.frf⟩,J.os,J.bare,J.base,J.loc,J.cell,J.free,λx c e=>.inl (hf x c e).2,J.pin,J.hok,J.len⟩
    have C1:=qZ (w8 HR n) (CK [] (by simp)) hd1;have C2:=qZ (w8 HR n) (CK Γ.fz λ_ h=>h) hds;have e1:(λx=>!([]:List aG).contains x || !Γ.fz.contains x)=λ_=>aB:=by funext x;rfl
    have e2:(λx=>!Γ.fz.contains x || !Γ.fz.contains x)=X.fn:=by rw[U];funext x;exact Bool.or_self _
    rw[e1] at C1;rw[e2] at C2;refine eI (Yf (X:=X.wish (XP X (e_ E))) C2 C1 u s1 r Y E1 I2 q) (λf s' q=>SP.unwish q) λe s' p=>?_;have p:XP X (e_ E) e s':=p;have:=Je (M:=aQ X.prog X.w) (F2:=λe' s''=>dG X.prog X.w X.outer X.H₀ X.s₀ E e' s'') F (jL p) (by rw[←I];rfl) p;subst I;exact this
  have hmm:Γ.N.length-ts.length=m:=by lia
  refine⟨_,B,by rw[←I];exact o,φ,α,_,μ,KH d,mr,{nx:=λ_ b=>K0 .non b,rt:=K0,bk:=λ_ _=>False,ct:=λ_ _=>False,ex:=λc fs _ b=>Z0 c fs b},by rw[hmm];exact q,λ_ b z i Z σ' st m _=>T _ _ z i Z st m .non rfl,λ_ _ z=>z.elim,λ_ _ z=>z.elim,λt b z i Z v st m dv=>T _ _ z i Z st m v dv,λc fs _ b z i Z σ' C1 dd st m _ ad xd=>hz0 c fs b z i Z C1 dd st m ad xd⟩
theorem xh(l:cI D R){f:aF}{name qual:aG}{params:Arguments}{body:List bG}{g kV doc e a ct h:aC}{an od:Option aF}{m:Nat} 
  (M:fY D P w K mg base Γ k) (lk:K.lookup f=aA ⟨h,od,.func (gW name qual params body scope g kV doc e an a ct),j⟩) (d:gx K a qual=aB) (hs:xQ Γ ps scope=aB) (i:Γ.N.length=ps.length+m) (c:zh ((aR R n).s Γ) body=aA ds) (b:c6 D mg base a (qual++".<locals>.") k Γ.lam Γ.lnm:=by exact c6.no rfl) :
  bY P w K mg base (dG P w) (k+1) f (gW name qual params body scope g kV doc e an a ct) ps (eU D ps.length (bI ps.length m ds)):=Jf (b1:=[]) (ds1:=[]) l M lk d hs i rfl rfl c b
theorem wG:∀ts μ K Z,bI n m ds ts μ K Z->ts.length=n:=λ_ _ _ _ h=>h.1
end
noncomputable def KS:bM->Bool
 |[]=>aB
 |p::r=>(match p.2.cls with|.type t=>t != "list" | _=>aB)&&KS r
theorem Xs:∀{K:bM}{a:aF}{o:bD},KS K=aB->K.lookup a=aA o->o.cls≠.type "list"
 |[],_,_,_,h=>by cases h
 |(b,p)::r,a,o,c,h=>by
  simp only[KS,cH] at c;rw[f6] at h;cases q:a==b with
  |true=>
   rw[q] at h;cases h;intro e;have d:=c.1;rw[e] at d;exact absurd d (by decide)
  |false=>rw[q] at h;exact Xs c.2 h
theorem QV:∀(ns:List Int),aN D φ α H (ns.map T.int) (ns.map V.int)
 |[]=>rfl
 |n::r=>⟨.int n,r.map V.int,rfl,rfl,QV r⟩
noncomputable def i5:List aG:=["moments","houses","counts","start","turns","holder","lease","until","is_cut","shape","grants","house","begin","end","ahead","stride","keeper","mark","newest","batches","has_fallen","clock","kept","common","given","now","seats","world","line","by"]
theorem Ni:i5.Nodup:=by decide +kernel
structure ip where
 xs:List (Nat×aF)
 cs:List (Nat×aF)
noncomputable def l4 (K:bM)(A:ip)(clo:Nat->aF->Option HO->List V->Prop)(tabs:Nat->Option (aF×List Pos×aG):=λ_=>aE):DP:=⟨K,λc=>A.xs.lookup c,λc=>A.cs.lookup c,λi=>i5[i]?,λi j x b a=>vG Ni b a,clo,tabs⟩
noncomputable def cn (cls fld:List (aG×Nat)) (gs:List (aG×GM)) (N G cel own:List aG) (lam:Option (Nat×List Pos):=aE) (lnm:aG:="<lambda>"):Cn where
 N:=N
 G:=G
 calm:=aB
 gl:=λx=>(gs.lookup x).getD .bad
 cls:=cls
 fld:=fld
 U:=gs.map (·.1)
 cel:=cel
 own:=own
 lam:=lam
 lnm:=lnm
noncomputable def Bh(A:ip):List (Nat×aC):=[(0,.type "NoneType"),(1,.type "bool"),(2,.type "int"),(3,.type "str"),(4,.type "tuple"),(5,.type "list"),(6,.type "dict")]++(A.xs.map λp=>(p.1,cY p.2))++A.cs.map λp=>(p.1,cY p.2)
noncomputable def UO(K:bM)(c:aG):Option aC:=match oW K bR c with
 |some (aA v)=>aA v
 |some aE=>if c==("__name__":aG) then aE else gB c
 |none=>aE
noncomputable def Mo:aC->Bool
 |.ref _=>aB
 |.type _=>aB
 |_=>aD
noncomputable def mO(o:Option (Option aC))(s:String):Bool:=match o with
 |some (aA (.builtin x))=>x==s
 |_=>aD
theorem uM(h:mO o s=aB):o=aA (aA (.builtin s)):=by
 unfold mO at h;split at h
 ·rw[beq_iff_eq.mp h]
 ·cases h
noncomputable def nV(o:Option (Option aC)):Bool:=match o with
 |some aE=>aB
 |_=>aD
theorem WU(h:nV o=aB):o=aA aE:=by
 unfold nV at h;split at h
 ·rfl
 ·cases h
noncomputable def lD(o:Option Bool)(b:Bool):Bool:=match o with|some c=>c==b|none=>aD
theorem kB(h:lD o b=aB):o=aA b:=by
 cases o with
 |none=>cases h
 |some c=>have:(c==b)=aB:=h;rw[beq_iff_eq.mp this]
noncomputable def pT (K:bM)(C:aF):Bool:=mO (dO K (.ref C) "__class__") "object.__class__"&&mO (o4 K (.builtin "object.__class__") "__get__") "getset_descriptor.__get__"&&lD (pd K (.builtin "object.__class__")) aB&&lD (gV K C (.type "object")) aB
noncomputable def FX(K:bM)(C:aF):Bool:=pT K C&&mO (dO K (.ref C) "__getattribute__") "BaseException.__getattribute__"&&nV (dO K (.ref C) "__getattr__")&&lD (gV K C (.type "BaseException")) aB&&(lD (gV K C (.type "KeyError")) aD&&lD (gV K C (.type "ZeroDivisionError")) aD)&&(oy K C).isSome
noncomputable def Bf(K:bM)(C:aF):Bool:=pT K C&&nE K C Str.empty&&nr K C&&sW K C&&mO (dO K (.ref C) "__setattr__") "object.__setattr__"
noncomputable def mQ (K:bM)(A:ip)(cls fld:List (aG×Nat)):Bool:=
 cls.all (λp=>match UO K p.1 with
  |some v=>Mo v&&(Bh A).all (λq=>lD (o6 K q.2 v) (vy q.1 p.2))&&(oq 40 p.2 || (match v with|.ref C=>A.xs.all (λq=>lD (ng K (.ref q.2) (.ref C)) (vy q.1 p.2))|_=>aB))
  |none=>aD)&&
 A.xs.all (λq=>FX K q.2)&&A.cs.all (λq=>Bf K q.2&&fld.all (λp=>nV (dO K (.ref q.2) p.1)))&&fld.all (λp=>match i5[p.2]? with|some x=>x==p.1|none=>aD)
theorem uW{K:bM}(X:K.In h)(G:h.Ns bR mg)(e:UO K c=aA v):Zv mg c v/\∀u,Zv mg c u->u=v:=by
 unfold UO at e;split at e
 ·rename_i b q;cases e;have m:=eL X G q;refine⟨.inl m,λu z=>?_⟩;rcases z with z|⟨z,_⟩
  ·rw[m] at z;cases z;rfl
  ·rw[m] at z;cases z
 ·rename_i q;have m:=DC X G q;split at e
  ·cases e
  ·rename_i a;refine⟨.inr ⟨m,e,λz=>a (by rw[z];rfl)⟩,λu z=>?_⟩;rcases z with z|⟨_,z,_⟩
   ·rw[m] at z;cases z
   ·rw[e] at z;cases z;rfl
 ·cases e
theorem ql{α β:Type}[BEq α][LawfulBEq α]{x:α}{v:β}:∀{l:List (α×β)},l.lookup x=aA v->(x,v)∈l
 |[],h=>by cases h
 |(y,w)::r,h=>by
  rw[f6] at h;cases q:x==y with
  |true=>rw[q] at h;cases h;rw[beq_iff_eq.mp q];exact eG
  |false=>rw[q] at h;exact dN _ (ql h)
theorem eB{α:Type}:∀{l:List (aG×α)},x∈l.map (·.1)->∃v,l.lookup x=aA v
 |[],h=>by simp at h
 |(y,w)::r,h=>by
  rw[f6];cases q:x==y with
  |true=>exact⟨w,rfl⟩
  |false=>
   rcases cO.mp h with z|z
   ·have z:x=y:=z;rw[z] at q;simp at q
   ·exact eB z
section
variable {P:Program}{w:World}{K:PySem.W.Frag}{mg:aG->Option aC}{base:aT}{A:ip}{clo:Nat->aF->Option HO->List V->Prop}{cls fld:List (aG×Nat)}{gs:List (aG×GM)}{N G cel own:List aG}{k:Nat}{lam:Option (Nat×List Pos)}{tabs:Nat->Option (aF×List Pos×aG)}
theorem Oj(h:VT (l4 K A clo tabs) t u):(t,u)∈Bh A:=by
 unfold Bh;rcases h with⟨rfl,rfl⟩|⟨rfl,rfl⟩|⟨rfl,rfl⟩|⟨rfl,rfl⟩|⟨rfl,rfl⟩|⟨rfl,rfl⟩|⟨C,h,rfl⟩|⟨rfl,rfl⟩|⟨C,h,rfl⟩
 ·simp
 ·simp
 ·simp
 ·simp
 ·simp
 ·simp
 ·exact dM _ (dU _ (c7.mpr ⟨(t,C),ql h,rfl⟩))
 ·simp
 ·exact dU _ (c7.mpr ⟨(t,C),ql h,rfl⟩)
noncomputable def bF (P:cF)(w:dJ)(K:bM)(mg:aG->Option aC)(base:aT)(A:ip)(clo:Nat->aF->Option HO->List V->Prop)(k:Nat)(gs:List (aG×GM))(tabs:Nat->Option (aF×List Pos×aG):=λ_=>aE):Prop:=∀p∈gs,cE (l4 K A clo tabs) P w K mg base k p.1 p.2/\(p.1==("__debug__":aG))=aD
theorem cE.mono(h:j<=k)(q:cE D P w K mg base j x g):cE D P w K mg base k x g:=by
 cases g with
 |fn f=>obtain⟨fa,a,fd,ps,kk,b,c,d,r⟩:=q;exact⟨fa,a,fd,ps,kk,b,c,cT d h,r⟩
 |fnh nm f=>obtain⟨fa,a,fd,ps,kk,b,c,d,r⟩:=q;exact⟨fa,a,fd,ps,kk,b,c,cT d h,r⟩
 |met c nm f=>obtain⟨C,i,fd,ps,kk,a,b,c,d,e,F,r⟩:=q;exact⟨C,i,fd,ps,kk,a,b,c,d,e,cT F h,r⟩
 |mk c z f=>obtain⟨C,i,fd,ps,kk,a,b,c,d,e,r⟩:=q;exact⟨C,i,fd,ps,kk,a,b,c,d,cT e h,r⟩
 |xin c f nm fl=>obtain⟨C,J,i,fd,ps,kk,A,y,u,s,p,o,r⟩:=q;exact⟨C,J,i,fd,ps,kk,A,y,u,s,p,cT o h,r⟩
 |mkd c nm n f=>obtain⟨C,i,fd,ps,kk,a,b,c,d,e,r⟩:=q;exact⟨C,i,fd,ps,kk,a,b,c,d,cT e h,r⟩
 |metd c nm n d f=>obtain⟨C,i,fd,ps,kk,du,dv,A,y,u,s,p,o,I,G,r⟩:=q;exact⟨C,i,fd,ps,kk,du,dv,A,y,u,s,p,o,I,cT G h,r⟩
 |kap ls=>exact⟨λj l ts φ α H v e d=>let ⟨a,kk,h1,m,E⟩:=q.1 j l ts φ α H v e d;⟨a,kk,h1,cT m h,E⟩,q.2⟩
 |kpr=>exact⟨λt φ α H v B d=>let ⟨a,kk,h1,h2,m⟩:=q.1 t φ α H v B d;⟨a,kk,h1,cT h2 h,m⟩,q.2⟩
 |_=>exact q
theorem bF.mono(h:j<=k)(q:bF P w K mg base A clo j gs tabs):bF P w K mg base A clo k gs tabs:=λp a=>⟨(q p a).1.mono h,(q p a).2⟩
theorem bF.add (q:bF P w K mg base A clo k gs tabs) (h:cE (l4 K A clo tabs) P w K mg base k x g) (a:(x==("__debug__":aG))=aD):bF P w K mg base A clo k ((x,g)::gs) tabs:=λp b=>by
 rcases cO.mp b with rfl|z
 ·exact⟨h,a⟩
 ·exact q p z
noncomputable def Yd(bs:List aG)(xs:List (aG×Nat))(ys:List (aG×Nat×Nat)):List (aG×GM):=bs.map (λx=>(x,GM.none))++xs.map (λx=>(x.1,GM.xcl x.2))++ys.map (λx=>(x.1,GM.xcf x.2.1 x.2.2))
noncomputable def rB(K:bM)(A:ip)(x:aG)(c:Nat):Bool:=match A.xs.lookup c,oW K bR x with
 |some C,aA (aA (.ref a))=>C==a
 |_,_=>aD
noncomputable def Ba(K:bM)(A:ip)(bs:List aG)(xs:List (aG×Nat))(ys:List (aG×Nat×Nat)):Bool:=
 bs.all (λx=>x != ("__debug__":aG)&&nV (oW K bR x))&&
 xs.all (λx=>x.1 != ("__debug__":aG)&&rB K A x.1 x.2)&&ys.all (λx=>x.1 != ("__debug__":aG)&&rB K A x.1 x.2.1)
theorem GC(X:K.In base)(d:base.Ns bR mg)(h:rB K A x c=aB):∃C,A.xs.lookup c=aA C/\mg x=aA (.ref C):=by
 unfold rB at h;split at h
 ·rename_i C e b a;have h:C=e:=beq_iff_eq.mp h;subst h;exact⟨C,b,eL X d a⟩
 ·cases h
noncomputable def gN (K:bM)(A:ip):List (aG×Nat)->Prop
 |[]=>True
 |p::r=>(∃C,A.xs.lookup p.2=aA C/\fy K C qv "ValueError.__new__"=aB)/\gN K A r
theorem gN.at:∀{xs:List (aG×Nat)}{p:aG×Nat},gN K A xs->p∈xs->∀C,A.xs.lookup p.2=aA C->fy K C qv "ValueError.__new__"=aB
 |q::r,p,h,a,C,e=>by
  rcases cO.mp a with rfl|z
  ·obtain⟨c,b,x⟩:=h.1;rw[b] at e;cases e;exact x
  ·exact gN.at h.2 z C e
theorem KY(X:K.In base)(f:base.Ns bR mg)(h:Ba K A bs xs ys=aB)(i:gN K A xs):bF P w K mg base A clo k (Yd bs xs ys) tabs:=by
 simp only[Ba,cH,f_,bne_iff_ne,ne_eq] at h;intro p g;rcases cA.mp g with z|z
 ·rcases cA.mp z with z|z
  ·obtain⟨x,a,rfl⟩:=c7.mp z;obtain⟨c,b⟩:=h.1.1 x a;exact⟨DC X f (WU b),beq_eq_false_iff_ne.mpr c⟩
  ·obtain⟨x,a,rfl⟩:=c7.mp z;obtain⟨c,b⟩:=h.1.2 x a;obtain⟨C,d,e⟩:=GC X f b;exact⟨⟨C,d,e,gN.at i a C d⟩,beq_eq_false_iff_ne.mpr c⟩
 ·obtain⟨x,a,rfl⟩:=c7.mp z;obtain⟨c,b⟩:=h.2 x a;obtain⟨C,d,e⟩:=GC X f b;exact⟨⟨C,d,e⟩,beq_eq_false_iff_ne.mpr c⟩
theorem Zj(X:K.In base)(L:base.Ns bR mg)(R:mQ K A cls fld=aB)(q:bF P w K mg base A clo k gs tabs):fY (l4 K A clo tabs) P w K mg base (cn cls fld gs N G cel own lam lnm) k:=by
 simp only[mQ,cH,f_] at R;obtain⟨⟨⟨J,c2⟩,T⟩,c4⟩:=R;have cb:∀{C},pT K C=aB->dO K (.ref C) "__class__"=aA (aA (.builtin "object.__class__"))/\o4 K (.builtin "object.__class__") "__get__"=aA (aA (.builtin "getset_descriptor.__get__"))/\pd K (.builtin "object.__class__")=aA aB/\gV K C (.type "object")=aA aB:=λ{C} h=>by
  simp only[pT,cH] at h;exact⟨uM h.1.1.1,uM h.1.1.2,kB h.1.2,kB h.2⟩
 have M:∀c C,A.cs.lookup c=aA C->ma K C:=λc C h=>by
  have a:=(T _ (ql h)).1;simp only[Bf,cH] at a;obtain⟨⟨⟨⟨I,H⟩,d⟩,F⟩,E⟩:=a;obtain⟨r,p,o,m⟩:=cb I;exact⟨⟨H,d,F,uM E⟩,r,p,o,m⟩
 refine⟨rfl,λx Y=>?_,λt x c b u v hu Z=>?_,λc C x f j Q=>?_,λc C j=>?_,M,λx c b=>?_,λt x c b hlt Ct Cc B D=>?_⟩
 ·obtain⟨g,O⟩:=eB (l:=gs) Y;have:=q _ (ql O);refine⟨?_,this.2⟩;show cE _ P w K mg base k x ((gs.lookup x).getD .bad);rw[O];exact this.1
 ·have a:=J _ b;dsimp only at a;split at a
  ·rename_i v' i;simp only[cH,f_] at a;have e:=(uW X L i).2 v Z;subst e;exact kB (a.1.2 _ (Oj hu))
  ·cases a
 ·have a:=c4 _ Q;dsimp only at a;refine⟨?_,(M c C j).cl,WU ((T _ (ql j)).2 _ Q)⟩;split at a
  ·rename_i y U;show i5[f]?=aA x;rw[U,beq_iff_eq.mp a]
  ·cases a
 ·have a:=c2 _ (ql j);simp only[FX,cH] at a;obtain⟨⟨⟨⟨⟨I,H⟩,d⟩,F⟩,S⟩,E⟩:=a;obtain⟨r,p,o,m⟩:=cb I;exact⟨uM H,WU d,r,p,o,m,kB F,⟨kB S.1,kB S.2⟩,E⟩
 ·have a:=J _ b;dsimp only at a;split at a
  ·rename_i v i;simp only[cH] at a;have s:=a.1.1;refine⟨v,(match v with|.ref C=>V.ref C|.type n=>V.ty n|_=>V.non),(uW X L i).1,?_⟩;cases v with
   |ref C=>exact .inl ⟨C,rfl,rfl⟩
   |type n=>exact .inr ⟨n,rfl,rfl⟩
   |_=>cases s
  ·cases a
 ·have a:=J _ b;dsimp only at a;split at a
  ·rename_i v i;simp only[cH,Cz] at a;have e:=(uW X L i).2 (.ref Cc) (.inl D);subst e;have d:=a.2.resolve_left (λz=>by have:=sZ z;lia);simp only[f_] at d;exact kB (d _ (ql B))
  ·cases a
end
noncomputable abbrev A3{β:Type}(t:T)(k:Key->RE β):RE β:=match t with
 |.int i=>k (.inl i)
 |.str x=>k (.inr x)
 |_=>.st
noncomputable abbrev l8(ps:List (De×De)):Sl->aK->RE (List (Key×T)):=fZ (motive:=λ_=>Sl->aK->RE (List (Key×T))) (λ_ e=>.ok [] e) (λp _ h a e=>(p.1 a e).bind λg d=>(p.2 a d).bind λv c=>A3 g λk=>(h a c).bind λf b=>.ok ((k,v)::f) b) ps
noncomputable abbrev Ai(ps:List (De×De)):De:=λc d=>(l8 ps c d).bind λa b=>.grd ((a.map (·.1)).Nodup) (.ok (.dic a) b)
noncomputable abbrev XX(ps:List (De×De)):De:=λc d=>(l8 ps c d).bind λb a=>.grd ((b.map (·.1)).Nodup) (.ok (.mut a.length) (a++[.dic b]))
section
variable {X:Cx}{D:DP}{W:XW}{k:Nat}{pins:List (aF×bD)}{s:Shared}{σ:St}{H:Hp}{φ α:List aF}{τ:Sl}{μ:aK}{pos:Pos}
theorem aL.layO(m:aL D φ α H μ)(g:H p=aE)(d:d9 D φ (α++[p]) (upd H p u) w p):aL D φ (α++[p]) (upd H p u) (μ++[w]):=by
 have st:aO α H (α++[p]) (upd H p u):=xn g;have r:=m.len;refine⟨by simp[r],?_,λb j=>?_,λb j=>?_,λi a o c f=>?_⟩
 ·rw[ll];refine⟨m.nd,by simp,λa s b j=>?_⟩;rw[bV.mp j];intro z;exact zo m g (z▸s)
 ·rcases cA.mp j with h|h
  ·exact m.dis b h
  ·rw[bV.mp h];exact zm m g
 ·obtain⟨u,e,n⟩:=m.phi b j;exact⟨u,za g b u e,n⟩
 ·by_cases hi:i<α.length
  ·rw[dP hi] at c;rw[dP (by lia)] at f;have d:=m.ob i a o c f;obtain⟨u,q,_⟩:=d.some;exact d.step st ((za g _ _ q).trans q.symm)
  ·rw[fN (by lia)] at c f;have l:i-α.length=0:=by
    by_cases z:i-α.length=0
    ·exact z
    ·rw[lV (by simp;lia)] at c;cases c
   have k:i-μ.length=0:=by lia
   rw[l] at c;rw[k] at f;have c:aA p=aA a:=c;have f:aA w=aA o:=f;cases c;cases f;exact d
noncomputable def fw (X:Cx)(D:DP)(W:XW):List (Option aI)->List aI->List (De×De)->Prop
 |[],[],[]=>True
 |some a::e,b::c,p::d=>PE X a (aX D W p.1)/\PE X b (aX D W p.2)/\fw X D W e c d
 |_,_,_=>False
theorem fw.all:∀{ks:List (Option aI)}{vs:List aI}{ps:List (De×De)},fw X D W ks vs ps->ks.all (·.isSome)=aB/\ks.length=vs.length/\ks.length=ps.length
 |[],[],[],_=>⟨rfl,rfl,rfl⟩
 |some a::ks,b::vs,p::ps,h=>by
  obtain⟨h1,h2,c⟩:=fw.all h.2.2;exact⟨by simpa using h1,by simp[h2],by simp[c]⟩
 |[],[],_::_,h=>h.elim
 |[],_::_,_,h=>h.elim
 |none::_,_,_,h=>h.elim
 |some _::_,[],_,h=>h.elim
 |some _::_,_::_,[],h=>h.elim
theorem Gs{R:List (Key×T)->aK->List aF->Hp->Prop}{Qf:List (aC×aC)->a_->Prop}:∀{ks:List (Option aI)}{vs:List aI}{ps:List (De×De)}{s:a_}{H:Hp}{α:List aF}{μ:aK}{R:List (Key×T)->aK->List aF->Hp->Prop},fw X D W ks vs ps->Inv X pins σ H s->bA D φ α H τ σ->aL D φ α H μ->aJ D W φ α H σ R (l8 ps τ μ)->
  wpAny (aQ X.prog X.w) X.A (evalPairs (pairTrees ks vs X.env pos)) (λus M=>∃B d j kvs gs C,Inv X pins σ B M/\aO α H d B/\aL D φ d B j/\bE D φ d B kvs gs/\Carries (zE X.prog X.w) us C/\KV gs C/\kvs.length=ps.length/\R kvs j d B) X.xe s
 |[],[],[],s,H,α,μ,R,_,I,S,q,p=>pairTrees_nil_walk ⟨H,α,μ,[],[],[],I,aO.refl _ _,q,rfl,trivial,.nil,rfl,p.ok (aO.refl _ _) q⟩
 |some a::ks,b::vs,K::ps,s,H,α,μ,R,h,I,S,q,p=>by
  have p:aJ D W φ α H σ R ((K.1 τ μ).bind λkt g=>(K.2 τ g).bind λv e=>A3 kt λk=>(l8 ps τ e).bind λkvs c=>.ok ((k,v)::kvs) c):=p;refine pairTrees_cons_walk (aY (sub h.1 I S q p) ?_);rintro u s1 ⟨v,H1,t,g,Z,I1,V,F,J,N,Y,p1⟩;refine aY (sub h.2.1 I1 J N p1) ?_;rintro P s2 ⟨O,H2,Q,e,y,I2,r2,E,G,L,d2,l⟩
  have n:∀(f:Key),(zE X.prog X.w).is f u=aB->aJ D W φ y H2 σ R ((l8 ps τ e).bind λkvs c=>.ok ((f,Q)::kvs) c)->
    wpAny (aQ X.prog X.w) X.A (evalPairs (pairTrees ks vs X.env pos)) (λr U=>(λus M=>∃B d j kvs gs C,Inv X pins σ B M/\aO α H d B/\aL D φ d B j/\bE D φ d B kvs gs/\Carries (zE X.prog X.w) us C/\KV gs C/\kvs.length=(K::ps).length/\R kvs j d B) ((u,P)::r) U) X.xe s2:=λf hk p3=>by
   refine aY (Gs (Qf:=Qf) (R:=λ_ _ _ _=>True) h.2.2 I2 G L p3.bind) ?_;rintro us U ⟨H3,x,c,kvs,gs,C,I3,i,m,dk,cr,kv,o,q3⟩;exact⟨H3,x,c,(f,Q)::kvs,(f,O)::gs,(f,P)::C,I3,(F.trans E).trans i,m,⟨O,gs,rfl,d2.step i,dk⟩,⟨hk,rfl,cr⟩,.cons ⟨rfl,r2⟩ kv,by simp[o],q3.ok (aO.refl _ _) m⟩
  unfold A3 at l;split at l
  ·cases Y;obtain⟨z,rfl⟩:=V;exact n _ (yy _ _ _ z) l
  ·cases Y;obtain⟨z,rfl⟩:=V;exact n _ (yG _ _ _ z) l
  ·exact l.elim
 |[],[],_::_,_,_,_,_,_,h,_,_,_,_=>h.elim
 |[],_::_,_,_,_,_,_,_,h,_,_,_,_=>h.elim
 |none::_,_,_,_,_,_,_,_,h,_,_,_,_=>h.elim
 |some _::_,[],_,_,_,_,_,_,h,_,_,_,_=>h.elim
 |some _::_,_::_,[],_,_,_,_,_,h,_,_,_,_=>h.elim
theorem bE.keys:∀{kvs:List (Key×T)}{gs:List (Key×V)},bE D φ α H kvs gs->gs.map (·.1)=kvs.map (·.1)
 |[],_,h=>by have:_=[]:=h;subst this;rfl
 |p::r,_,h=>by
  obtain⟨v,a,rfl,_,l⟩:=h;simp[bE.keys l]
theorem KV.keys:∀{gs:List (Key×V)}{a:List (Key×aC)},KV gs a->a.map (·.1)=gs.map (·.1)
 |_,_,.nil=>rfl
 |_,_,.cons r t=>by simp[KV.keys t,r.1]
theorem JN{vs:List aI}{Q:VK}{kk:List (Key×T)->aK->RE T}(h0:ks≠[])(U:ks.length<=15)(h:fw X D W ks vs ps)
  (I:Inv X pins σ H s) (sr:bA D φ α H τ σ) (k:aL D φ α H μ) (p:aJ D W φ α H σ (RV D φ Q) ((l8 ps τ μ).bind λkvs J=>.grd ((kvs.map (·.1)).Nodup) (kk kvs J)))
  (Kq:∀b B E kvs gs j,aO α H B E->H b=aE->b∉φ->b∉B->aL D (φ++[b]) B E j->(∃u,E b=aA u)->bE D (φ++[b]) B E kvs gs->aJ D W φ α H σ (RV D φ Q) (kk kvs j)->Q (.ref b) (upd E b (.dK gs))) :
  wpAny (aQ X.prog X.w) X.A (eval (.Dict ks vs pos) X.env) (EP X pins σ Q) X.xe s:=by
 have t:H s.heap.objs.size=aE:=I.hok.fresh (bH _);have y:ko H (upd H s.heap.objs.size (.dK [])):=za t;have S:gz<s.heap.objs.size:=Cg (show gz<bR by decide) (by first|exact (I.ok.mod.glob.keeps I.bk).lt|exact (I.mod.glob.keeps I.bk).lt);have I1:=I.laid (a:=s.heap.objs.size) (o:=.dK []) (h':=s.heap.push {cls:=.type "dict",data:=.dict #[]}) (t':=s.toks) (λ_ _ q=>bZ _ q) (bH _) ⟨fQ _,beq_eq_false_iff_ne.mpr (cX (d6 S)),[],.nil,Cv _⟩;have n1:=zm k t;have M:=zo k t;have lk:Lk φ α H (φ++[s.heap.objs.size]) α (upd H s.heap.objs.size (.dK [])):=uz t y;have L:=sr.lk lk;have O:aL D (φ++[s.heap.objs.size]) α (upd H s.heap.objs.size (.dK [])) μ:=k.lk lk (λc f=>by
  have Z:c≠s.heap.objs.size:=λz=>M (z▸f);exact⟨z9 Z,λz=>(cA.mp z).elim (k.dis c f) λz=>Z (bV.mp z)⟩) λc f=>by
  rcases cA.mp f with z|z
  ·obtain⟨o,e,n⟩:=k.phi c z;exact⟨o,y c o e,n⟩
  ·rw[bV.mp z,z5];exact⟨_,rfl,rfl⟩
 obtain⟨K0,Y,q0,P,l⟩:=p;have p1:aJ D W (φ++[s.heap.objs.size]) α (upd H s.heap.objs.size (.dK [])) σ (λkvs j _ _=>(kvs.map (·.1)).Nodup/\kk kvs j K0 Y) (l8 ps τ μ):=⟨_,Y,q0,λkvs j e _ _ _ _=>e,λc fs j z B E C d st m ad xd=>by
  have m':=m.lk qI (λc f=>⟨rfl,λz=>m.dis c f (dM _ z)⟩) λc f=>m.phi c (dM _ f);exact l c fs j z B E C d ((aO.new y).trans st) m' ad (xd.lk qI)⟩
 refine wpAny_Dict_walk (knd:=zE X.prog X.w) h.all.1 h.all.2.1 h0 U (aY (Gs (Qf:=λ_ _=>True) (R:=λ_ _ _ _=>True) h I1 L O p1) ?_);rintro us s3 ⟨F,K,G,kvs,gs,v,I3,g,N,dk,cr,kv,hkl,nd,q3⟩;have V:F s.heap.objs.size=aA (.dK []):=g.keep _ _ M z5;obtain⟨z,hd,vs0,r0,dd⟩:=(show bB X.prog X.w F s3.heap s.heap.objs.size (.dK []) from I3.hok _ _ V);cases r0;have hm:merged ([]:List (Key×aC)) v=v:=merged_nil_of_nodup v (by rw[KV.keys kv,bE.keys dk];exact nd);refine⟨v,cr,dd,λh' i hs=>⟨.ref s.heap.objs.size,upd F s.heap.objs.size (.dK gs),?_,rfl,?_⟩⟩
 ·rw[hm] at i;have he:∃q,h'.get? s.heap.objs.size=aA q:=let ⟨q,_,_,hq,_⟩:=i;⟨q,hq⟩;have r:gs.length<=15:=by
   have e1:gs.length=kvs.length:=by simpa using congrArg iM (bE.keys dk)
   have e2:=h.all.2.2;lia
  exact I3.write (x:=s.heap.objs.size) (e:=s.heap.objs.size) (by rw[V];exact gy) (.inl rfl) (λb u S hu=>(hs.2 b S).trans hu) he ⟨cT r (by decide),hd,_,kv,i⟩
 ·exact Kq _ K F kvs gs G ((aO.new y).trans g) t n1 (g.out M z5) N ⟨_,V⟩ dk ⟨K0,Y,q3,P,l⟩
theorem X9(st:aO α H d j)(f:H b=aE):aO α H d (upd j b (.dK gs)):=
 ⟨st.ext,λc o n e=>by rw[z9 (zH e f)];exact st.keep c o n e,λc e=>by
  by_cases a:c=b
  ·rw[a];exact f
  ·rw[z9 a] at e;exact st.live c e⟩
theorem VP(m:aL D (φ++[b]) α H μ):aL D φ α (upd H b (.dK gs)) μ:=by
 have d:b∈φ++[b]:=by simp
 have f:aL D (φ++[b]) α (upd H b (.dK gs)) μ:=m.lk (xS d) (λc a=>⟨by rw[z9 (λz=>m.dis c a (by rw[z];simp))],m.dis c a⟩) λc a=>by
  by_cases e:c=b
  ·rw[e,z5];exact⟨_,rfl,rfl⟩
  ·rw[z9 e];exact m.phi c a
 exact f.lk qI (λc a=>⟨rfl,λz=>f.dis c a (dM _ z)⟩) λc a=>f.phi c (dM _ a)
theorem N3:Lk (φ++[b]) α H φ α (upd H b (.dK gs)):=⟨λa o c d e=>⟨λz=>c (dM _ z),d,by rw[z9 (λz:a=b=>c (by rw[z];simp))];exact e⟩,λ_ _ e=>e⟩
theorem MY{ks:List (Option aI)}(h0:ks≠[])(a:ks.length<=15)(h:fw X D W ks vs ps):PE X (.Dict ks vs pos) (aX D W (Ai ps)):=by
 rintro c s t H Q I ⟨o,v,r,u,f,j,p⟩;refine JN h0 a h I f j p λb e x k n d st l i g m w dk q=>?_;exact q.ok (X9 st l) (VP m) _ ⟨b,n,rfl,i,g,z5,dk.lk N3⟩
theorem Pb{ks:List (Option aI)}(h0:ks≠[])(A:ks.length<=15)(h:fw X D W ks vs ps):PE X (.Dict ks vs pos) (aX D W (XX ps)):=by
 rintro C s V H Q I ⟨t,J,U,Y,K,N,p⟩;refine JN h0 A h I K N p λb d r l gs g st F M L m Z dk q=>?_;have E:aL D t d (upd r b (.dK gs)) g:=VP m;have u:aO J H (d++[b]) (upd r b (.dK gs)):=by
  obtain⟨G,rfl,w⟩:=st.ext;have B:=X9 (gs:=gs) st F;exact⟨⟨G++[b],by simp,λc n=>(cA.mp n).elim (w c) λz=>by rw[bV.mp z];exact F⟩,B.keep,B.live⟩
 have k:Lk (t++[b]) d r t (d++[b]) (upd r b (.dK gs)):=⟨λa o v P e=>⟨λz=>v (dM _ z),λz=>(cA.mp z).elim P λz=>v (by rw[bV.mp z];simp),by rw[z9 (λz:a=b=>v (by rw[z];simp))];exact e⟩,λi a e=>by rw[dP (bQ.mp e).1];exact e⟩;have O:aL D t (d++[b]) (upd r b (.dK gs)) (g++[.dic l]):=by
  have R:=m.len;refine⟨by simp[R],?_,λc n=>?_,E.phi,λi a o f j=>?_⟩
  ·rw[ll];refine⟨m.nd,by simp,λa T c n=>?_⟩;rw[bV.mp n];intro z;exact L (z▸T)
  ·rcases cA.mp n with h|h
   ·exact E.dis c h
   ·rw[bV.mp h];exact M
  ·by_cases S:i<d.length
   ·rw[dP S] at f;rw[dP (by lia)] at j;exact (m.ob i a o f j).lk k (z9 λz=>m.dis a (cP f) (by rw[z];simp))
   ·rw[fN (by lia)] at f j;have y:i-d.length=0:=by
     by_cases z:i-d.length=0
     ·exact z
     ·rw[lV (by simp;lia)] at f;cases f
    have x:i-g.length=0:=by lia
    rw[y] at f;rw[x] at j;have f:aA b=aA a:=f;have j:aA (MO.dic l)=aA o:=j;cases f;cases j;exact⟨gs,z5,dk.lk k⟩
 exact q.ok u O _ ⟨b,by rw[←m.len,fN (bH _)];simp,rfl⟩
end
noncomputable def BJ (r:dF)(Γ:Cn):List (Option aI)->List aI->Option (List (De×De))
 |[],[]=>aA []
 |some a::h,b::c=>(r.e Γ a).bind λf=>(r.e Γ b).bind λg=>(BJ r Γ h c).bind λd=>aA ((f,g)::d)
 |_,_=>aE
theorem Gn{W:XW}(H:bT D r)(C:Ck D W Γ X k):∀{ks:List (Option aI)}{vs:List aI}{ps:List (De×De)},BJ r Γ ks vs=aA ps->fw X D W ks vs ps
 |[],[],ps,h=>by cases h;trivial
 |some a::ks,b::vs,ps,h=>by
  obtain⟨f,i,h⟩:=aS h;obtain⟨g,d,h⟩:=aS h;obtain⟨j,c,h⟩:=aS h;cases h;exact⟨H.e C i,H.e C d,Gn H C c⟩
 |[],_::_,_,h=>by cases h
 |none::_,_,_,h=>by cases h
 |some _::_,[],_,h=>by cases h
noncomputable def Ah (r:dF)(Γ:Cn)(mk:List (De×De)->De)(e:aI):Option De:=match e with
 |.Dict a b _=>gd (!a.isEmpty&&decide (a.length<=15)) ((BJ r Γ a b).bind λc=>aA (mk c))
 |_=>aE
noncomputable def E4:ER:=λr a e=>Ah r a Ai e
noncomputable def A_:ER:=λr a e=>Ah r a XX e
theorem Y6{mk:List (De×De)->De}(b:∀{X:Cx}{W:XW}{ks:List (Option aI)}{vs:List aI}{ps:List (De×De)}{pos:Pos},ks≠[]->ks.length<=15->fw X D W ks vs ps->PE X (.Dict ks vs pos) (aX D W (mk ps))):cM D (λr Γ e=>Ah r Γ mk e):=by
 intro r H X W Γ k e d C h;cases e with
 |Dict ks vs p=>
  obtain⟨a,h⟩:=z8 h;simp only[cH,decide_eq_true_eq,nj,List.isEmpty_eq_false_iff] at a;obtain⟨ps,c,h⟩:=aS h;cases h;exact b a.1 a.2 (Gn H C c)
 |_=>cases h
theorem Pd:cM D E4:=Y6 λa b c=>MY a b c
theorem Jq:cM D A_:=Y6 λa b c=>Pb a b c
noncomputable abbrev ig(op:T->T->aK->RE T)(f g:De):De:=λc d=>(f c d).bind λx b=>(g c b).bind λy a=>op x y a
noncomputable abbrev QU(x y:T)(μ:aK):RE T:=match x,y with
 |.int a,.int b=>.ok (.int (if b<a then b else a)) μ
 |_,_=>.st
noncomputable abbrev yr(x y:T)(μ:aK):RE T:=match x,y with
 |.int a,.int b=>.ok (.int (if a<b then b else a)) μ
 |_,_=>.st
noncomputable abbrev Uv(xs:List T)(μ:aK):RE T:=λK _=>xs.length<64/\
  ((∃ f, bJ xs = aA f /\ ∀ d : List Int, d.Perm f -> d.Pairwise (· <= ·) -> K (.lst (d.map T.int)) μ) \/
   (∃e, eN xs=aA e/\∀c:List aG, c.Perm e->c.Pairwise (λa b=>¬b.cps.toList<a.cps.toList)->K (.lst (c.map T.str)) μ))
noncomputable abbrev Xv(t:T)(μ:aK):RE T:=match t with
 |.lst a=>Uv a μ
 |.mut i=>λK Z=>∃a,μ[i]?=aA (.lst a)/\Uv a μ K Z
 |_=>.st
section
variable {X:Cx}{D:DP}{W:XW}{Γ:Cn}{k:Nat}{pins:List (aF×bD)}{s:Shared}{σ:St}{H:Hp}{φ α:List aF}{τ:Sl}{μ:aK}{f g h:De}{a b:aI}{pos:Pos}
noncomputable def B2 (X:Cx)(D:DP)(W:XW)(d:aC)(op:T->T->aK->RE T):Prop:=
 ∀(pins:List (aF×bD)) (s:a_) (σ:St) (H:Hp) (φ α:List aF) (μ:aK) (t c:T) (v a:V) (u b:aC) (Q:VK),Inv X pins σ H s->aL D φ α H μ->aZ D φ α H t v->aZ D φ α H c a->RelV v u->RelV a b->aJ D W φ α H σ (RV D φ Q) (op t c μ)->
  wpAny (aQ X.prog X.w) X.A (call d [u,b]) (EP X pins σ Q) X.xe s
theorem FH (C:Ck D W Γ X k) {id:String}(A:x∈Γ.G) (hg:Γ.gl x=.none) (hv:gB x=aA (.builtin id)) (hn:x≠"__name__") (r:aP a=aB) (o:aP b=aB) (hB:B2 X D W (.builtin id) op) (ha:PE X a (aX D W f)) (hb:PE X b (aX D W g)) :
  PE X (.Call (.Name x p0) [a,b] [] pos) (aX D W (ig op f g)):=by
 have L:=C.glo _ A;rw[hg] at L;rintro h s u H Q I ⟨e,O,F,N,K,mr,p⟩;refine gY (qR I (C.glb _ A) L hv ?_ hn (C.dbG _ A))
 refine pF (aY (zD ha (zD hb qp (z4 o)) (z4 r) pos h s u H (λJ t=>∃j i n l d c,J=[j,i]/\aL D e c t d/\aZ D e c t n j/\aZ D e c t l i/\aJ D W e c t u (RV D e Q) (op n l d)) I
  ⟨e,O,F,N,K,mr,p.bind.mono λn v w M z m1 Z j E=>⟨e,w,F,v,K.step z,m1,Z.bind.mono λl d c t y m2 Y i B=>⟨j,i,n,l,d,c,rfl,m2,E.step y,B,Y⟩⟩⟩) ?_) (z4 r) (qO (by simp[o]))
 rintro us S ⟨J,M,I1,T,j,i,n,l,d,c,rfl,m,E,B,q⟩;obtain⟨R,P,rfl,V,U⟩:=vals2 T;exact hB h S u M e c d n l j i R P Q I1 m E B V U q
theorem N1(k:X.calm=aB):B2 X D W (.builtin "min") QU:=by
 intro a s e H n q o t B v w u x Q I b d m r g p;unfold QU at p;split at p
 ·cases d;cases m;obtain⟨A,rfl⟩:=r;obtain⟨y,rfl⟩:=g;refine min_two_ints (I.ok.hd k) λl f h=>?_;have c:Inv X a e H {s with heap:=l,toks:=f}:=I.kept h;rename_i i j;by_cases z:j<i
  ·rw[if_pos z] at p ⊢;exact⟨.int j,H,c,⟨_,rfl⟩,p.here b rfl⟩
  ·rw[if_neg z] at p ⊢;exact⟨.int i,H,c,⟨_,rfl⟩,p.here b rfl⟩
 ·exact p.elim
theorem Mb(k:X.calm=aB):B2 X D W (.builtin "max") yr:=by
 intro a s e H n q o t B v w u x Q I b d m r g p;unfold yr at p;split at p
 ·cases d;cases m;obtain⟨A,rfl⟩:=r;obtain⟨y,rfl⟩:=g;refine max_two_ints (I.ok.hd k) λl f h=>?_;have c:Inv X a e H {s with heap:=l,toks:=f}:=I.kept h;rename_i i j;by_cases z:i<j
  ·rw[if_pos z] at p;rw[if_pos (show j > i from z)];exact⟨.int j,H,c,⟨_,rfl⟩,p.here b rfl⟩
  ·rw[if_neg z] at p;rw[if_neg (show ¬j > i from z)];exact⟨.int i,H,c,⟨_,rfl⟩,p.here b rfl⟩
 ·exact p.elim
theorem intsAre_of:∀{ns:List Int}{us:List aC},aV (ns.map V.int) us->dZ us ns
 |[],_,.nil=>.nil
 |n::ns,_,.cons r q=>by
  obtain⟨t,rfl⟩:=r;exact .cons n t (intsAre_of q)
theorem vals_ints:∀{us:List aC}{ns:List Int},dZ us ns->aV (ns.map V.int) us
 |_,_,.nil=>.nil
 |_,_,.cons n t q=>.cons ⟨t,rfl⟩ (vals_ints q)
theorem Z3:∀{ns:List aG}{us:List aC},aV (ns.map V.str) us->StrsAre us ns
 |[],_,.nil=>.nil
 |n::ns,_,.cons r q=>by
  obtain⟨t,rfl⟩:=r;exact .cons n t (Z3 q)
theorem Q_:∀{us:List aC}{ns:List aG},StrsAre us ns->aV (ns.map V.str) us
 |_,_,.nil=>.nil
 |_,_,.cons n t q=>.cons ⟨t,rfl⟩ (Q_ q)
theorem Jl:∀{ns:List Int},aN D φ α H (ns.map T.int) (ns.map V.int)
 |[]=>rfl
 |n::ns=>⟨V.int n,_,rfl,rfl,Jl⟩
theorem VQ:∀{ns:List aG},aN D φ α H (ns.map T.str) (ns.map V.str)
 |[]=>rfl
 |n::ns=>⟨V.str n,_,rfl,rfl,VQ⟩
theorem Zd:∀{ts:List T}{a:List aG}{vs:List V},eN ts=aA a->aN D φ α H ts vs->vs=a.map V.str
 |[],a,vs,h,l=>by
  simp[eN] at h;subst h;exact l
 |.str x::r,a,vs,h,l=>by
  obtain⟨v,q,rfl,d,l⟩:=l;simp only[eN,lB] at h;obtain⟨b,h,rfl⟩:=h;cases d;rw[Zd h l];rfl
theorem kT:∀{l:List aG}{x:aG},risingS x l=aB->(∀y∈l,¬y.cps.toList<x.cps.toList)/\l.Pairwise (λa b=>¬b.cps.toList<a.cps.toList)
 |[],x,_=>⟨by simp,.nil⟩
 |y::r,x,h=>by
  have f:(!ltCps y.cps.toList x.cps.toList)=aB/\risingS y r=aB:=by
   simpa[risingS] using h
  obtain⟨d,e⟩:=f;have d:¬y.cps.toList<x.cps.toList:=by
   rw[ltCps_eq] at d;simpa using d
  obtain⟨a,b⟩:=kT e;refine⟨λz c=>?_,.cons (λz c=>a z c) b⟩;rcases cO.mp c with rfl|c
  ·exact d
  ·exact λq=>d (List.lt_of_le_of_lt (List.not_lt.mp (a z c)) q)
theorem Q5(h:sortedS l=aB):l.Pairwise (λa b=>¬b.cps.toList<a.cps.toList):=by
 cases l with
 |nil=>exact .nil
 |cons x r=>exact .cons (λy c=>(kT h).1 y c) (kT h).2
theorem XS{ad:aF}(I:Inv X pins σ H s)(u:aL D φ α H μ)(q:Rd H ad (.lst vs))(l:aN D φ α H xs vs)(p:aJ D W φ α H σ (RV D φ Q) (Uv xs μ)) :
  wpAny (aQ X.prog X.w) X.A (call (.builtin "sorted") [.ref ad]) (EP X pins σ Q) X.xe s:=by
 obtain⟨g,h,z,O⟩:=I.list (.inl q);obtain⟨J,P,⟨v,i⟩,E,N⟩:=p;have a:g.length<64:=by
  rw[←h.length,←l.length];exact v
 have fin:∀(out:Array aC) (c:List V) (k:List T),aV c out.toList->(∀K,aN D φ α K k c)->c.length<=sizeLine->J (.lst k) μ->EP X pins σ Q (.ref (s.heap.objs.size+1)) {s with heap:=rK s.heap g out}:=λout c k r d F C=>by
  obtain⟨e,G⟩:=sortedAll_at s.heap g out;have m:H (s.heap.objs.size+1)=aE:=I.hok.fresh (gJ _);refine⟨.ref (s.heap.objs.size+1),upd H (s.heap.objs.size+1) (.lst c),I.laid (t':=s.toks) (λb o e=>sortedAll_old e) (gJ _) (show bB X.prog X.w _ _ _ (.lst c) from ⟨F,out.toList,e,r,by rw[DJ];exact G⟩),rfl,?_⟩;exact E (.lst k) μ C α _ (aO.new (za m)) (u.new (za m)) _ ⟨_,c,rfl,zm u m,zo u m,.inl z5,d _⟩
 have B:∀n,n<64->n<=sizeLine:=λn t=>by rw[fR];lia
 rcases i with⟨M,t,i⟩|⟨L,t,i⟩
 ·have e:=qV t l;subst e;refine sorted_ints z.isList (intsAre_of h) a λout f y j x=>fin out (f.map V.int) (f.map T.int) (vals_ints y) (λ_=>Jl) (B _ ?_) (i f j x);rw[bP,j.length_eq];have:=h.length;rw[bP] at this;lia
 ·have e:=Zd t l;subst e;refine sorted_strs z.isList (Z3 h) a λout f y j x=>fin out (f.map V.str) (f.map T.str) (Q_ y) (λ_=>VQ) (B _ ?_) (i f j (Q5 x));rw[bP,j.length_eq];have:=h.length;rw[bP] at this;lia
theorem NU:B1 X D W (.builtin "sorted") Xv:=by
 intro b s h H g j i t v u Q I a d r p;unfold Xv at p;split at p
 ·obtain⟨ad,c,rfl,_,_,q,l⟩:=d;cases r;exact XS I a q l p
 ·obtain⟨k,e,p⟩:=p.ex1;obtain⟨ad,f,rfl⟩:=d;cases r;obtain⟨c,q,l⟩:=a.ob _ ad _ f e;exact XS I a (.inl q) l p
 ·exact p.elim
end
noncomputable def Bm (nm:aG)(op:T->T->aK->RE T):ER:=λr a e=>(y7 e).bind λq=>(pR q.as).bind λw=>gd (q.x==nm) (gd ((cL a.N q.x).isNone&&aP w.1) (gd (aP w.2&&a.calm) (gd (g_ (a.look nm)) ((r.e a w.1).bind λf=>(r.e a w.2).bind λg=>aA (ig op f g)))))
theorem Gx(s:∀{X:Cx}{W:XW}{Γ:Cn}{k:Nat}{a b:aI}{f g:De}{p0 pos:Pos},Ck D W Γ X k->nm∈Γ.G->Γ.gl nm=.none->Γ.calm=aB->aP a=aB->aP b=aB->PE X a (aX D W f)->PE X b (aX D W g)->PE X (.Call (.Name nm p0) [a,b] [] pos) (aX D W (ig op f g))):cM D (Bm nm op):=by
 intro r H X W Γ k e d C h;obtain⟨q,p,h⟩:=aS h;obtain⟨w,l,h⟩:=aS h;obtain⟨j,h⟩:=z8 h;obtain⟨o,h⟩:=z8 h;obtain⟨i,h⟩:=z8 h;obtain⟨c,h⟩:=z8 h;obtain⟨f,n,h⟩:=aS h;obtain⟨g,m,h⟩:=aS h;cases h;rw[wa p,V7 l,qe j];exact s C (zA c).1 (zA c).2 (zy i).2 (zy o).2 (zy i).1 (H.e C n) (H.e C m)
noncomputable def FG:ER:=Bm "min" QU
theorem RF:cM D FG:=Gx λC a b c g f e d=>FH C a b (by decide +kernel) (by decide) g f (N1 (C.clm c)) e d
noncomputable def FO:ER:=Bm "max" yr
theorem UM:cM D FO:=Gx λC a b c g f e d=>FH C a b (by decide +kernel) (by decide) g f (Mb (C.clm c)) e d
noncomputable def F1:ER:=lC "sorted" Xv aD
theorem RB:cM D F1:=kG λC a c _ b d=>JB C a c (by decide +kernel) (by decide) b NU d
noncomputable abbrev XU(c:Nat)(g:Fn)(ts:List T)(μ:aK):RE T:=λK Z=>g (.mut μ.length::ts) (μ++[.obj c []]) (λr a=>r=.non/\K (.mut μ.length) a) Z
noncomputable abbrev Qj(c:Nat)(g:Fn)(fs:List De):De:=λa b=>(gh fs a b).bind (XU c g)
noncomputable abbrev zF(c:Nat)(g:Fn)(o:De)(as:List De):De:=λd h=>(o d h).bind λt b=>match t with
 |.obj f fs=>.grd (f=c) ((gh as d b).bind λe a=>g (.obj f fs::e) a)
 |.mut i=>λK Z=>∃fs,b[i]?=aA (.obj c fs)/\(gh as d b).bind (λe a=>g (.mut i::e) a) K Z
 |_=>.st
section
variable {X:Cx}{D:DP}{W:XW}{Γ:Cn}{k:Nat}{pins:List (aF×bD)}{s:Shared}{σ:St}{H:Hp}{φ α:List aF}{τ:Sl}{μ:aK}{fs:List De}{c:aI}{pos:Pos}{es:List aI}
theorem Y5{c:Nat}{g:Fn}{C0 S:aF}{kk:Nat}{vs:List V}{ts:List T}{Q:VK}(C:Ck D W Γ X k)(ad:D.cad c=aA C0)(M:Mk X.K C0 S)(F:bY X.prog X.w X.K X.mg X.base (dG X.prog X.w) kk S fd ps (eU D ps.length g))
  (hr:cB (kk+1) X.A) (hb:Binds X.K fd ps []) (P:∀ts μ K Z,g ts μ K Z->ts.length=ps.length) (I:Inv X pins σ H s) (r:aV vs us) (Y:aL D φ α H μ) (d:aN D φ α H ts vs) (p:aJ D W φ α H σ (RV D φ Q) (XU c g ts μ)) :
  wpAny (aQ X.prog X.w) X.A (call (.ref C0) us) (EP X pins σ Q) X.xe s:=by
 obtain⟨K,Z,hg,hk,hz⟩:=p;have N:(T.mut μ.length::ts).length=ps.length:=P _ _ _ _ hg;have hq:∀x dx,H x=aE->H dx=aE->dx≠x->eU D ps.length g (.ref x::(vs++[])) (upd (upd H dx (.own x)) x (.ins C0 dx [])) (λv H2=>v=.non/\Q (.ref x) H2) (λc d h=>W c d σ h):=by
  intro x dx hx O J;have l:ko H (upd H dx (.own x)):=za O;have n:upd H dx (.own x) x=aE:=by rw[z9 (cX J)];exact hx
  have B:aL D φ α (upd H dx (.own x)) μ:=Y.new l;have j:aO α H (α++[x]) (upd (upd H dx (.own x)) x (.ins C0 dx [])):=(aO.new l).trans (xn n);have z:aL D φ (α++[x]) (upd (upd H dx (.own x)) x (.ins C0 dx [])) (μ++[.obj c []]):=B.layO n ⟨C0,dx,[],ad,z5,rfl⟩;have b:(α++[x])[μ.length]?=aA x:=by rw[←Y.len,fN (bH _)];simp
  refine⟨by simp only[eZ,gC] at N ⊢;rw[←d.length];exact N,φ,α++[x],.mut μ.length::ts,μ++[.obj c []],⟨.ref x,vs++[],rfl,⟨x,b,rfl⟩,by rw[gC];exact d.step j⟩,z,_,_,hg,?_,?_⟩
  ·rintro t y ⟨rfl,q⟩ i U st m v dv;refine⟨dv,?_⟩;obtain⟨β,e,_⟩:=st.ext;refine hk _ _ q i U (j.trans st) m _ ⟨x,?_,rfl⟩;rw[e,dP (bQ.mp b).1];exact b
  ·rintro e fs y q i U C1 d1 st m R xd;exact hz _ _ _ q i U C1 d1 (j.trans st) m R xd
 have G:=hq (s.heap.objs.size+1) s.heap.objs.size (I.hok.fresh (gJ _)) (I.hok.fresh (bH _)) (d6 (iO _));have o:=Inv.made (C:=C0) I;have r2:aV (V.ref (s.heap.objs.size+1)::(vs++[])) (cY (s.heap.objs.size+1)::us):=.cons rfl (by rw[gC];exact r);have L:(cY (s.heap.objs.size+1)::us++[]).length=ps.length:=by
  rw[gC,eZ,←r.length,←d.length];exact N
 refine lM (Jg (f:=S) I.kIn M.makes M.init (beq_iff_eq.mp M.fn) (le (F.run _ X.stack _ _ ⟨cY (s.heap.objs.size+1)::us,[]⟩ (cY (s.heap.objs.size+1)::us) _ _ (λc d h=>W c d σ h) (hr.make C0 us [])
  (o.env0.make C0 us []) (by simpa using hb _ (cY (s.heap.objs.size+1)::us) o.kIn L) r2 G) λr s' a=>?_))
 cases r with
 |error e=>exact C.xe e s' (uf (E:=λc d h=>W c d σ h) o a λcls d h w=>w)
 |ok fl=>
  cases fl with
  |ret u=>
   obtain⟨v,h,I3,rv,ev,q3⟩:=o.after a;subst ev;exact⟨rv,⟨V.ref (s.heap.objs.size+1),h,I3,rfl,q3⟩⟩
  |next=>exact eT a
  |brk=>exact eT a
  |cont=>exact eT a
theorem RD(C:Ck D W Γ X k){c:Nat}{g:Fn}(d:x∈Γ.G)(E:Γ.gl x=.mk c aD g)(F:Γ.calm=aB)(j:dT X D W es fs):PE X (.Call (.Name x p0) es [] pos) (aX D W (Qj c g fs)):=by
 have q:=C.glo x d;rw[E] at q;obtain⟨C0,Y,fd,U,V,ad,B,M,o,i,Fn,a⟩:=q;have n:=(C.rom F).mono i;have h:=j.stars;have A:=vV j;rintro l s N H Q I ⟨K,P,L,O,y,m,p⟩;refine gY (vT I (C.glb x d) B ?_ (C.dbG x d));cases es with
 |nil=>
  cases fs with
  |nil=>exact pB I.kIn M.kp (Y5 (ts:=[]) C ad M Fn n o a I .nil m rfl p)
  |cons f fs=>exact j.elim
 |cons e es=>
  simp only[iQ,cH] at h;refine pj (h₀:=X.base) I.ok.mod.kin M.kp (aY (pW A I y m p) ?_) (z4 h.1) (qO h.2);rintro S T ⟨R,Z,ts,t,u,r,z,v,w,b,J,_,p1⟩;exact⟨r.kIn,Y5 C ad M Fn n o a r z b J p1⟩
theorem uL(a:∀i,D.fn i≠aA nm):∀{fs:List (Nat×T)}{gs:List (aG×V)},bK D φ α H fs gs->gs.lookup nm=aE
 |[],_,h=>by cases h;rfl
 |p::r,_,h=>by
  obtain⟨x,v,q,e,rfl,_,l⟩:=h;rw[f6];have:(nm==x)=aD:=by
   apply beq_false_of_ne;intro z;exact a p.1 (by rw[z];exact e)
  rw[this];exact uL a l
theorem Gi (hs : es.all aP = aB) (b : es.length < 30) : ((fL pos (d_ es env)).all (fun x => !x.1) && (la pos (li [] env)).all (fun x => x.1.isSome)
      &&decide (es.length+([]:List iu).length+(if ([]:List iu).isEmpty then 0 else 1)<30))=aB:=by
  have e:=qO (env:=env) (pos:=pos) hs;have d:(fL pos (d_ es env)).all (λx=>!x.1)=aB:=by
    rw[f_];intro x a;have:=DA.mp e x a;simpa using this
  rw[d];have c:(la pos (li [] env)).all (λx=>x.1.isSome)=aB:=rfl;rw[c];simpa using b
theorem O5(C:Ck D W Γ X k){x m:aG}{c:Nat}{g:Fn}(hU:x∈Γ.U)(hg:Γ.gl x=.met c m g)(hc:Γ.calm=aB)(hp:qz o=aB)(r:(d.endLine==pos.line)=aB)(hl:es.length<30)(ho:PE X o (aX D W go))(ha:dT X D W es fs) :
  PE X (.Call (.Attribute o m d) es [] pos) (aX D W (zF c g go fs)):=by
 have q:=(C.glU x hU).1;rw[hg] at q;obtain⟨C0,fI,fd,ps,kk,ad,cl,M,K,hb,hkk,Fn,L⟩:=q;have hr:=(C.rom hc).mono hkk;have R:=ha.stars;have pa:=vV ha;rintro G s σ H Q I ⟨Z,α,τ,μ,sr,mr,p⟩;rw[arm_eval_Call,qK hp];refine wpAny_bind (aY (sub ho I sr mr p) ?_);rintro u s1 ⟨v,Y,t,μ1,j,P,r1,st1,sr1,n,S,p1⟩;refine wpAny_bind (lQ ?_);have y:methodCallForm (es.length+([]:List iu).length) (fL pos (d_ es X.env)) (la pos (li [] X.env))=aB:=Gi R hl;have J:oK aB o X.env d pos=pure pos:=by unfold oK;simp[r]
 have go:∀{a dx:aF}{N:List (aG×V)}{F:T},Y a=aA (.ins C0 dx N)->N.lookup m=aE->u=.ref a->(∀b B,aO j Y b B->aZ D Z b B F (.ref a))->aJ D W Z j Y σ (RV D Z Q) ((gh fs τ μ1).bind λts E=>g (F::ts) E)->
   wpAny (aQ X.prog X.w) X.A (oI o m d pos X.env u (es.length+([]:List iu).length) (fL pos (d_ es X.env)) (la pos (li [] X.env))) (EP X G σ Q) X.xe s1:=λ{a dx N F} O lk hu hd z=>by
  subst hu;unfold oI;rw[y];refine wpAny_bind (wpAny_holding (KP P O cl M lk ?_));refine wpAny_bind (lO J ?_);have d0:=hd j Y (aO.refl _ _);cases es with
  |nil=>
   cases fs with
   |nil=>exact pB (first:=[.ref a]) P.kIn M.kp (um (ts:=[F]) (us:=[.ref a]) (vs:=[.ref a]) C Fn hr hb L P (.cons rfl .nil) n ⟨_,_,rfl,d0,rfl⟩ z)
   |cons f fs=>exact ha.elim
  |cons e es=>
   simp only[iQ,cH] at R;refine pj (first:=[.ref a]) (h₀:=X.base) P.ok.mod.kin M.kp (aY (pW pa P sr1 n z) ?_) (z4 R.1) (qO R.2);rintro us s2 ⟨vs,B,ts,E,b,I2,r2,st2,sr2,mr2,d2,_,p3⟩;exact⟨I2.kIn,um (ts:=F::ts) (us:=.ref a::us) (vs:=.ref a::vs) C Fn hr hb L I2 (.cons rfl r2) mr2 ⟨_,_,rfl,hd b B st2,d2⟩ p3⟩
 cases t with
 |obj c' gf=>
  obtain⟨hcc,z⟩:=aJ.grd p1;subst hcc;obtain⟨a,C1,dx,N,rfl,n1,n2,h,O,l⟩:=id S;rw[ad] at h;cases h;exact go O (uL K l) r1 (λb B st=>S.step st) z
 | «mut» i=>
  obtain⟨gf,hi,z⟩:=aJ.ex1 p1;obtain⟨a,hi',rfl⟩:=id S;obtain⟨C1,dx,N,h,O,l⟩:=n.ob i a _ hi' hi;rw[ad] at h;cases h;exact go O (uL K l) r1 (λb B st=>S.step st) z
 |_=>exact aJ.elim p1
end
noncomputable def Am (K:bM)(a:aF)(n:Nat):It:=⟨λi H=>∃b x,gO K H a b/\b.length=n/\i<n/\b[n-1-i]?=aA x,λi H x c=>c=H/\∀b,gO K H a b->b[n-1-i]?=aA x,λi _=>i=n⟩
theorem R5{P:cF}{K:bM}(a it:aF)(n:Nat):fX P w K tg (Am K a n) [it] it (λi h=>h.IsRevIter it a ((n:Int)-1-(i:Int))) where
 mem:=by simp
 obj:=λi h st b g=>by
  have e:b=it:=by simpa using g
  subst e;obtain⟨o,e,c,d⟩:=st;exact⟨o,e,λv z=>by rw[d] at z;cases z⟩
 keep:=λi h q st k=>st.at λo e=>k it (by simp) o e
 item:=by
  intro X r hw t M i f s G H E I m st l;subst r hw t;obtain⟨xs,x,L,hn,hi,J⟩:=l;obtain⟨R,O,p,hz⟩:=I.list L;obtain⟨u,T,Q⟩:=O.get J;obtain⟨D,C,U,B,A,y⟩:=m it (by simp);have F:(n:Int)-1-(i:Int)=((n-1-i:Nat):Int):=by lia
  have V:(n:Int)-1-((i+1:Nat):Int)=((n-1-i:Nat):Int)-1:=by lia
  rw[F] at st;refine wpAny_pyNext_rev_item st p.isList (x:=u) (by simpa using T) λq j N=>?_;have Y:Inv X f G H {s with heap:=q}:=I.turned (t':=s.toks) (λb o g e=>(N.2 b g).trans e) D C B A y;obtain⟨o,e,c,d⟩:=id j;exact⟨u,rfl,yI (s:={s with heap:=q}) e c d (by decide) ⟨x,H,Y,Q,⟨rfl,λZ S=>by rw[I.list_inj S L];exact J⟩,by show Heap.IsRevIter _ _ _ _;rw[V];exact j,λb g=>(m b g).1⟩⟩
 done:=by
  intro X r hw t M i f s G H E I m st l;subst r hw t;obtain⟨D,C,U,B,A,y⟩:=m it (by simp);have l:i=n:=l;subst l;have F:(i:Int)-1-(i:Int) = -1:=by lia
  rw[F] at st;exact wpAny_pyNext_rev_end (I.ok.hd M) st λq eb=>⟨rfl,I.turned (t':=s.toks) (λb o g e=>eb b o g e) D C B A y⟩
 self:=λ_ _ _ _ _ st h=>DI st h
noncomputable abbrev tR(t:T)(μ:aK):RI:=match t with
 |.lst a=>.ok a.reverse gb μ
 |.mut i=>λK _=>∃a,μ[i]?=aA (.lst a)/\K a.reverse (l5 i a) μ
 |_=>.st
noncomputable abbrev AD(f:De):Di:=λa b=>(f a b).it tR
section
variable {X:Cx}{D:DP}{W:XW}{Γ:Cn}{k:Nat}{pins:List (aF×bD)}{s:Shared}{σ:St}{H:Hp}{φ α:List aF}{τ:Sl}{μ:aK}{f:De}{a tg:aI}{pos:Pos}
theorem XR{K:bM}{ad:aF}:iZ D (Am K ad xs.length) (λφ α H=>∃vs,Rd H ad (.lst vs)/\aN D φ α H xs vs) xs.reverse:=
 ⟨λi φ α H ⟨vs,ok,l⟩ a=>by
  have f:=l.length;have a:i<xs.length:=by simpa using a
  exact⟨vs,vs[xs.length-1-i]'(by omega),.inl ok,by omega,a,by simp⟩,λi φ α H v g t ⟨vs,ok,l⟩ a y=>by
  obtain⟨rfl,y⟩:=y;have b:i<xs.length:=by
   have:=(bQ.mp a).1;simpa using this
  rw[List.getElem?_reverse b] at a;obtain⟨x,c,d⟩:=l.get a;have e:=y vs (.inl ok);rw[e] at c;cases c;exact⟨λ_ _ z=>z,d⟩,λφ α H _=>by show _=_;simp⟩
theorem Nd (C:Ck D W Γ X k) (hx:("reversed":aG)∈Γ.G) (hg:Γ.gl "reversed"=.none) (hs:aP a=aB) (ha:PE X a (aX D W f)) :
  PI X tg (.Call (.Name "reversed" p0) [a] [] pos) (gZ D W (AD f)):=by
 have hm:=C.glo _ hx;rw[hg] at hm;rintro B s E H R I ⟨n,U,τ,μ,sr,mr,p⟩;refine gY (qR I (C.glb _ hx) hm (show gB "reversed"=aA (.type "reversed") by decide +kernel) ?_ (by decide) (C.dbG _ hx));refine pK (aY (zD ha qp (z4 hs) pos B s E H (λz i=>∃v t g c,z=[v]/\aO U H c i/\aL D n c i g/\aZ D n c i t v/\aJ D W n c i E (λp r x O=>∀J Ok,iZ D J Ok p.1->BP D n x O p.1 p.2 Ok->p.2 r->R J O) (tR t g).re) I ⟨n,U,τ,μ,sr,mr,(show aJ D W n U H E _ ((f τ μ).bind λt g=>(tR t g).re) from p).bind.mono λt r x O st m q v d=>⟨v,t,r,x,rfl,st,m,d,q⟩⟩) ?_) (z4 hs) rfl;rintro us y ⟨z,i,Q,rv,v,t,g,c,rfl,st,m,d,q⟩;obtain⟨u,rfl,r1⟩:=vals1 rv;have fin:∀{ad:aF}{z:List V}{h:List T}{lv:aK->Prop},u=.ref ad->Rd i ad (.lst z)->aN D n c i h z->R (Am X.K ad h.length) i->wpAny (aQ X.prog X.w) X.A (call (.type "reversed") [u]) (λv y=>wpAny (aQ X.prog X.w) X.A (mV v) (rG X B E tg R) X.xe y) X.xe y:=λ{ad z h lv} hu q l hR=>by
  subst hu;obtain⟨L,Z,pl,hz⟩:=Q.list (.inl q);have N:L.toArray.size=h.length:=by simp[←Z.length,l.length]
  refine call_reversed_list pl.isList ?_;have hr:({y with heap:=y.heap.push (revObj ad ((L.toArray.size:Int)-1))}:a_).heap.IsRevIter y.heap.objs.size ad ((h.length:Int)-1-((0:Nat):Int)):=⟨_,eF _ rfl,rfl,by rw[←N];simp[revObj]⟩;refine DI hr ?_;refine⟨y.heap.objs.size,[y.heap.objs.size],_,_,i,rfl,Q.kept (t':=y.toks) λb o e=>bZ _ e,R5 ad _ h.length,hr,λb hb=>?_,hR⟩;have e:b=y.heap.objs.size:=by simpa using hb
  subst e;exact Q.fpOk (bH _) (Q.hok.fresh (bH _))
 cases t with
 |lst ts=>
  obtain⟨ad,z,rfl,n1,n2,P,l⟩:=d;have F:aJ D W n c i E _ (RE.ok (ts.reverse,gb) g):=q;refine fin (lv:=gb) r1 P l (F.ok (aO.refl _ _) m _ _ XR (λS x O r lk _ _=>?_) trivial);obtain⟨a',Y,e,_,_,q',l'⟩:=aZ.lk lk (show aZ D n c i (.lst ts) (.ref ad) from ⟨ad,z,rfl,n1,n2,P,l⟩);cases e;exact⟨Y,q',l'⟩
 | «mut» j=>
  obtain⟨ad,hj,rfl⟩:=d;have F:aJ D W n c i E _ (λK _=>∃h,g[j]?=aA (.lst h)/\K (h.reverse,l5 j h) g):=q;obtain⟨h,M,F⟩:=F.ex1;obtain⟨z,P,l⟩:=m.ob j ad _ hj M;have F:aJ D W n c i E _ (RE.ok (h.reverse,l5 j h) g):=F;refine fin (lv:=l5 j h) r1 (.inl P) l (F.ok (aO.refl _ _) m _ _ XR (λS x O r lk mm hl=>?_) M);obtain⟨Y,q',l'⟩:=mm.ob j ad _ (lk.st j ad hj) hl;exact⟨Y,.inl q',l'⟩
 |_=>exact aJ.elim q
end
theorem WD{K:bM}(a:mQ K A cls fld=aB)(h:A.cs.lookup c=aA C):gu K C:=by
 simp only[mQ,cH,f_] at a;obtain⟨⟨⟨m,l⟩,i⟩,k⟩:=a;have b:=(i _ (ql h)).1;simp only[Bf,cH] at b;obtain⟨⟨⟨⟨j,g⟩,f⟩,e⟩,d⟩:=b;exact⟨g,f,e,uM d⟩
noncomputable def A2:GM->Option (Nat×Fn)
 |.mk c aD g=>aA (c,g)
 |_=>aE
theorem PP(h:A2 g=aA q):g=.mk q.1 aD q.2:=by
 unfold A2 at h;split at h
 ·cases h;rfl
 ·cases h
noncomputable def EU:ER:=λr a e=>(y7 e).bind λq=>gd ((cL a.N q.x).isNone&&a.calm) ((lE r a q.as).bind λfs=>(A2 (a.look q.x)).bind λw=>aA (Qj w.1 w.2 fs))
theorem Pg:cM D EU:=by
 intro r H X W j k e d C h;obtain⟨q,i,h⟩:=aS h;obtain⟨f,h⟩:=z8 h;obtain⟨fs,g,h⟩:=aS h;obtain⟨w,b,h⟩:=aS h;cases h;rw[wa i];obtain⟨a,c⟩:=j9 (PP b) (by intro z;cases z);exact RD C a c (zy f).2 (vW H C g)
noncomputable def eD(m:aG):aG:=⟨#[46]++m.cps⟩
noncomputable def Em:GM->Option (Nat×aG×Fn)
 |.met c nm g=>aA (c,nm,g)
 |_=>aE
theorem OJ(h:Em g=aA q):g=.met q.1 q.2.1 q.2.2:=by
 cases g<;>first|(cases h;rfl)|cases h
noncomputable def Eo (r:dF)(Γ:Cn)(ky:aG)(q:Hd):Option De:=gd (qz q.o&&q.pa.endLine==q.pc.line) (gd (Γ.calm&&decide (q.as.length<30)) (gd (Γ.U.contains ky) ((r.e Γ q.o).bind λgo=>(lE r Γ q.as).bind λfs=>(Em (Γ.gl ky)).bind λw=>gd (w.2.1==q.m) (aA (zF w.1 w.2.2 go fs)))))
theorem Pu{W:XW}(H:bT D r)(C:Ck D W Γ X k)(h:Eo r Γ ky q=aA d):PE X (.Call (.Attribute q.o q.m q.pa) q.as [] q.pc) (aX D W d):=by
 obtain⟨c,h⟩:=z8 h;obtain⟨b,h⟩:=z8 h;obtain⟨l,h⟩:=z8 h;obtain⟨go,j,h⟩:=aS h;obtain⟨fs,i,h⟩:=aS h;obtain⟨w,g,h⟩:=aS h;obtain⟨f,h⟩:=z8 h;cases h;have a:=OJ g;rw[qe f] at a;exact O5 C (by simpa using l) a (zy b).1 (zy c).1 (zy c).2 (of_decide_eq_true (zy b).2) (H.e C j) (vW H C i)
noncomputable def ED:ER:=λr a e=>(Zr e).bind λq=>Eo r a (eD q.m) q
theorem OB:cM D ED:=by
 intro r H X W b k e d C h;obtain⟨q,a,h⟩:=aS h;rw[jq a];exact Pu H C h
noncomputable def F4:IR:=λr b e=>(y7 e).bind λq=>(Qi q.as).bind λa=>gd (q.x==("reversed":aG)) (gd ((cL b.N q.x).isNone&&aP a) (gd (g_ (b.look "reversed")) ((r.e b a).bind λf=>aA (AD f))))
theorem UA:om D F4:=by
 intro r H X W m k n e d C o h;obtain⟨q,l,h⟩:=aS h;obtain⟨a,i,h⟩:=aS h;obtain⟨c,h⟩:=z8 h;obtain⟨g,h⟩:=z8 h;obtain⟨b,h⟩:=z8 h;obtain⟨f,j,h⟩:=aS h;cases h;rw[wa l,vb i,qe c];exact Nd C (zA b).1 (zA b).2 (zy g).2 (H.e C j)
section
variable {X:Cx}{pins:List (aF×bD)}{s:Shared}{σ:St}{H:Hp}
theorem KU(I:Inv X pins σ H s)(ox:dX X H x)(m:∀p∈pins,p.1≠x)(l:bB X.prog X.w (upd H x o) s.heap x o):Inv X pins σ (upd H x o) s:=by
 have g:∀b,H b≠aE->b≠x:=λb h z=>h (by rw[z];exact ox.free);refine⟨I.ok,I.os,I.bare,⟨I.base.keep,I.base.slot,λb o e n d=>?_,I.base.there,λb i e=>?_,λb o u e=>?_,λb j e=>?_⟩,I.loc,I.cell,?_,λy c e=>?_,λp f=>?_,λb k e=>?_,I.len⟩
 ·have:b≠x:=λz=>by
   rcases ox.new with q|q
   ·exact d (by rw[z];exact q)
   ·rw[←z,e] at q;cases q
  rw[z9 this];exact I.base.free b o e n d
 ·have q:=I.base.tups b i e;rw[z9 (g b (by rw[q];simp))];exact q
 ·have q:=I.base.frzs b o u e;rw[z9 (g b (by rw[q];simp))];exact q
 ·obtain⟨a,q⟩:=I.base.tbls b j e;exact⟨a,by rw[z9 (g b (by rw[q];simp))];exact q⟩
 ·rw[z9 (cX ox.loc)];exact I.free
 ·rw[z9 (ox.cel y c e)];exact I.freeC y c e
 ·obtain⟨e,n,r⟩:=I.pin p f;have:p.1≠x:=(cA.mp f).elim (ox.pin p) (m p);exact⟨e,by rw[z9 this];exact n,r⟩
 ·by_cases z:b=x
  ·subst z;rw[z5] at e;cases e;exact l
  ·rw[z9 z] at e;exact (I.hok b k e).stay (λ_ _ _ q=>q) (λc q=>by
    by_cases w:c=x
    ·rw[w,ox.free] at q;cases q
    ·rw[z9 w];exact q) λc _ q=>by
    by_cases w:c=x
    ·rw[w,ox.free] at q;cases q
    ·rw[z9 w];exact q
theorem GB(f:Wv X pins H b):dX X H b/\∀p∈pins,p.1≠b:=
 ⟨⟨f.1,f.2.1,f.2.2.1,f.2.2.2.1.imp id λh=>lp h,f.2.2.2.2.1,λp a=>f.2.2.2.2.2 p (dM _ a)⟩,λp a=>f.2.2.2.2.2 p (dU _ a)⟩
end
end NH
namespace L2
open PySem PySem.Spec PyProof.Rows
section
variable {κ:Type}[DecidableEq κ]
noncomputable def yn(kvs:List (κ×V))(k:κ):Option V:=(kvs.find? λa=>decide (a.1=k)).map (·.2)
noncomputable def cZ(kvs:List (κ×V))(k:κ)(v:V):List (κ×V):=
 if (kvs.any λa=>decide (a.1=k))=aB then kvs.map (λa=>if a.1=k then (a.1,v) else a) else kvs++[(k,v)]
theorem kX{k:κ}(e:p.1=k):yn (p::r) k=aA p.2:=by simp[yn,nz,e]
theorem xV{k:κ}(e:¬p.1=k):yn (p::r) k=yn r k:=by simp[yn,nz,e]
theorem yR(kvs:List (κ×V))(k:κ)(v:V):(cZ kvs k v).length<=kvs.length+1:=by
 unfold cZ;split
 ·rw[bP];lia
 ·rw[gE,eZ,lT];lia
theorem c_.isSome_eq(r:c_ o u):o.isSome=u.isSome:=by
 cases o with
 |none=>cases u with
  |none=>rfl
  |some _=>exact (show False from r).elim
 |some _=>cases u with
  |none=>exact (show False from r).elim
  |some _=>rfl
theorem c_.getD(r:c_ o u)(rd:RelV d d'):RelV (o.getD d) (u.getD d'):=by
 cases o with
 |none=>cases u with
  |none=>exact rd
  |some _=>exact (show False from r).elim
 |some _=>cases u with
  |none=>exact (show False from r).elim
  |some _=>exact r
theorem KV.val(r:KV kvs vs)(k:κ):c_ (yn kvs k) (lI vs k):=by
 unfold KV at r;induction r with
 |nil=>exact gy
 | @cons p q ps a h t d=>
  obtain⟨h1,h2⟩:=h;by_cases e:p.1=k
  ·have c:q.1=k:=h1.symm.trans e;have b:lI (q::a) k=aA q.2:=by simp[lI,nz,c]
   rw[kX e,b];exact h2
  ·have c:¬q.1=k:=λz=>e (h1.trans z);have b:lI (q::a) k=lI a k:=by simp[lI,nz,c]
   rw[xV e,b];exact d
theorem KV.any(r:KV kvs vs)(k:κ):(kvs.any λd=>decide (d.1=k))=vs.any λd=>decide (d.1=k):=by
 unfold KV at r;induction r with
 |nil=>rfl
 |cons h t a=>rw[ni,ni,a,h.1]
theorem KV.repl(r:KV kvs vs)(k:κ)(a:RelV y u) :
  KV (kvs.map λd=>if d.1=k then (d.1,y) else d) (vs.map λd=>if d.1=k then (d.1,u) else d):=by
 unfold KV at r ⊢;induction r with
 |nil=>exact .nil
 | @cons p q ps c h t b=>
  rw[dC,dC];refine .cons ?_ b;obtain⟨h1,h2⟩:=h;by_cases e:p.1=k
  ·rw[if_pos e,if_pos (h1.symm.trans e)];exact⟨h1,a⟩
  ·rw[if_neg e,if_neg (λz=>e (h1.trans z))];exact⟨h1,h2⟩
theorem KV.put(r:KV kvs vs)(k:κ)(a:RelV y u):KV (cZ kvs k y) (stored vs k u):=by
 unfold cZ stored;rw[r.any k];by_cases e:(vs.any λb=>decide (b.1=k))=aB
 ·rw[if_pos e,if_pos e];exact r.repl k a
 ·rw[if_neg e,if_neg e];exact Paired.snoc r ⟨rfl,a⟩
theorem KV.keys{kvs:List (κ×V)}(r:KV kvs vs):kvs.map (·.1)=vs.map (·.1):=by
 unfold KV at r;induction r with
 |nil=>rfl
 |cons h t a=>rw[dC,dC,a,h.1]
theorem KV.length{kvs:List (κ×V)}(r:KV kvs vs):kvs.length=vs.length:=Co r
end
theorem JA{P:cF}(r:RelV (kV k) u):(zE P w).is k u=aB:=by
 cases k with
 |inl i=>obtain⟨t,e⟩:=(show ∃t,u=lN i t from r);subst e;exact yy P w i t
 |inr x=>obtain⟨t,e⟩:=(show ∃t,u=oF x t from r);subst e;exact yG P w x t
section
variable {P:Program}{w:World}{H:Hp}{h:aT}{a:aF}
theorem LV(ok:dS P w H h)(e:Rd H a u):bB P w H h a u:=e.ok ok
noncomputable def rF (H:Hp)(a:aF)(kvs:List (Key×V)):Prop:=Rd H a (.dK kvs)\/∃ep,H a=aA (.dE ep kvs)
theorem ji(ok:dS P w H h)(e:rF H a kvs):kvs.length<=sizeLine/\(a==gz)=aD/\∃vs,KV kvs vs/\h.DictOf (zE P w) a vs:=by
 rcases e with e|⟨ep,e⟩
 ·exact show bB P w H h a (.dK kvs) from LV ok e
 ·obtain⟨z,y,vs,r,d⟩:=(show bB P w H h a (.dE ep kvs) from ok a _ e);exact⟨z,y,vs,r,d.dictOf⟩
theorem L4(ok:dS P w H h)(e:Rd H a (.dK kvs)):kvs.length<=sizeLine/\(a==gz)=aD/\∃vs,KV kvs vs/\h.DictOf (zE P w) a vs:=ji ok (.inl e)
theorem A9(ok:dS P w H h)(e:H a=aA (.dK kvs)):kvs.length<=sizeLine/\(a==gz)=aD/\∃vs,KV kvs vs/\h.DictOf (zE P w) a vs:=L4 ok (.inl e)
end
noncomputable def fJ (H:Hp)(a:aF)(y:V)(r:Option V):Prop:=∃b k,rF H a b/\y=kV k/\r=yn b k
noncomputable def i6 (H:Hp)(a:aF)(y v:V)(c:Hp):Prop:=∃b k,(H a=aA (.dK b)\/∃ep,H a=aA (.dE ep b))/\y=kV k/\b.length<sizeLine/\c=upd H a (.dK (cZ b k v))
theorem fJ.k{k:Key}(e:H a=aA (.dK kvs)):fJ H a (kV k) (yn kvs k):=⟨kvs,k,.inl (.inl e),rfl,rfl⟩
theorem i6.k{k:Key}(e:H a=aA (.dK kvs))(b:kvs.length<sizeLine):i6 H a (kV k) v (upd H a (.dK (cZ kvs k v))):=⟨kvs,k,.inl e,rfl,b,rfl⟩
section
variable {X:Cx}{pins:List (aF×bD)}{σ:St}{H:Hp}{s:Shared}{a:aF}{y v:V}{u r:aC}{o:Option V}{A:Around}{E:aC->Shared->Prop}
theorem Inv.big(I:Inv X pins σ H s):gz<s.heap.objs.size:=by
 have h:bR<s.heap.objs.size:=(I.mod.glob.keeps I.bk).lt;exact Cg (by decide) h
theorem Ug(m:A.units+1<cLine)(I:Inv X pins σ H s)(g:fJ H a y (aA v))(f:RelV y u)(h:∀d j,Inv X pins σ H j->RelV v d->Q d j) :
  wpAny (aQ X.prog X.w) A (hX (.ref a) u) Q E s:=by
 obtain⟨i,k,e,rfl,l⟩:=g;obtain⟨z,hd,c,rel,dd⟩:=ji I.hok e;obtain⟨d,hw,b⟩:=c_.some_of (v:=v) (o:=lI c k) (by rw[l];exact rel.val k);exact wpAny_getItem_of (JA f) dd.mapOf hw (h d _ (I.tok _) b)
theorem IL(i:A.units+1<cLine)(I:Inv X pins σ H s)(g:fJ H a y o)(b:RelV y u)(h:∀d,Inv X pins σ H d->Q (.bool o.isSome) d) :
  wpAny (aQ X.prog X.w) A (d5 .In u (.ref a)) Q E s:=by
 obtain⟨c,k,e,rfl,l⟩:=g;obtain⟨z,hd,f,rel,dd⟩:=ji I.hok e;refine wpAny_in_of (JA b) hd dd.mapOf ?_;rw[←(rel.val k).isSome_eq,←l];exact h _ (I.tok _)
theorem OG(i:A.units+1<cLine)(I:Inv X pins σ H s)(g:fJ H a y o)(b:RelV y u)(h:∀d,Inv X pins σ H d->Q (.bool (!o.isSome)) d) :
  wpAny (aQ X.prog X.w) A (d5 .NotIn u (.ref a)) Q E s:=by
 obtain⟨c,k,e,rfl,l⟩:=g;obtain⟨z,hd,f,rel,dd⟩:=ji I.hok e;refine wpAny_notIn_of (JA b) hd dd.mapOf ?_;rw[←(rel.val k).isSome_eq,←l];exact h _ (I.tok _)
theorem WA(I:Inv X pins σ H s)(c:oj (H a))(hs:f9 a s.heap h')(he:∃q,h'.get? a=aA q)(new:bB X.prog X.w (upd H a ob) h' a ob) :
  Inv X pins σ (upd H a ob) {s with heap:=h',toks:=t'}:=
 I.write (x:=a) (e:=a) c (.inl rfl) (λb q d z=>(hs.2 b d).trans z) he new
theorem GJ{P:cF}(z:kvs.length<=sizeLine)(hd:(a==gz)=aD)(rel:KV kvs vs)(dd:h'.DictOf (zE P w) a vs) :
  bB P w d h' a (.dK kvs):=⟨z,hd,vs,rel,dd⟩
theorem Yv(C:A.units+1<cLine)(I:Inv X pins σ H s)(g:i6 H a y v B)(i:RelV y u)(j:RelV v r)(h:∀d,Inv X pins σ B d->Q () d) :
  wpAny (aQ X.prog X.w) A (setItem (.ref a) u r) Q E s:=by
 obtain⟨b,k,e,rfl,l,rfl⟩:=g;obtain⟨z,hd,f,rel,dd⟩:=ji I.hok (e.imp .inl id);have m:f.length<=sizeLine:=by rw[←rel.length];exact z
 have p:(cZ b k v).length<=sizeLine:=by have:=yR b k v;lia
 refine wpAny_setItem_pairs (hsz:=m) (JA i) dd λx c n=>h _ ?_;have t:∃q,x.get? a=aA q:=let ⟨q,_,_,o,_⟩:=c;⟨q,o⟩;exact WA I (by rcases e with e|⟨ep,e⟩<;>rw[e]<;>exact gy) n t (GJ p hd (rel.put k j) c)
end
section
variable {X:Cx}{pins:List (aF×bD)}{σ:St}{H:Hp}{s:Shared}{a:aF}{kvs:List (Key×V)}{A:Around}{E:aC->Shared->Prop}
theorem NA(I:Inv X pins σ H s)(e:H a=aA (.dK kvs)):∃ep,Inv X pins σ (upd H a (.dE ep kvs)) s:=by
 obtain⟨z,hd,b,rel,dd⟩:=A9 I.hok e;obtain⟨ep,da⟩:=dd.dictAt;obtain⟨o,es,c,_⟩:=id da;exact⟨ep,WA (s:=s) (h':=s.heap) (t':=s.toks) I (by rw[e];exact gy) ⟨rfl,λ_ _=>rfl⟩ ⟨o,c⟩ ⟨z,hd,b,rel,da⟩⟩
theorem LC(I:Inv X pins σ H s)(e:rF H a kvs)(h:∀t d,Inv X pins σ H d->Q (.int kvs.length t) d):wpAny (aQ X.prog X.w) A (call (.builtin "len") [.ref a]) Q E s:=by
 obtain⟨z,hd,b,rel,dd⟩:=ji I.hok e;refine call_len_dict hd dd (by rw[←rel.length];rw[fR] at z;lia) ?_;rw[←rel.length];exact h _ _ (I.tok _)
end
noncomputable def AB(i:aI):Prop:=∀a b,oS i aD a b=operate [a,b] (hX a b)
theorem WW{id:String} 
  (g:rY (.type T) "__getitem__"=pure (aA (.builtin id))) (hs:AB d)
  (h:wpAny (aQ prog w) A (eval u env) (λo B=>wpAny (aQ prog w) A (eval d env) (λi j=>j.TypeIs o T/\wpAny (aQ prog w) A (hX o i) Q E j) E B) E s) :
  wpAny (aQ prog w) A (eval (.Subscript u d pos) env) Q E s:=by
 refine Subscript_ (eI h (λo B e=>eI e (λi j a=>?_) λ_ _ x=>x) λ_ _ x=>x);obtain⟨f,a⟩:=a;unfold sf;refine wpAny_bind ?_;rw[getitemInPython_of_ne f.not_modules];refine wpAny_bind (wpAny_specialOf f g ?_);have fin:wpAny (aQ prog w) A (oS d aD o i) (λr b=>wpAny (aQ prog w) A (letTemporaryGo u o r >>= λ_=>pure r) Q E b) E j:=by
  rw[hs o i];exact wpAny_operating (eI a (λr b c=>wpAny_bind (wpAny_letTemporaryGo (wpAny_pure c))) λ_ _ x=>x)
 first
  |exact wpAny_pure (wpAny_bind fin)
  |exact wpAny_bind (wpAny_pure (wpAny_bind fin))
  |exact wpAny_bind fin
theorem JC{X:Cx}{b:St}{H:Hp}{y:V}(I:Inv X d b H s)(g:fJ H a y o):s.TypeIs (.ref a) "dict":=by
 obtain⟨c,k,e,_,_⟩:=g;obtain⟨_,_,f,_,dd⟩:=ji I.hok e;exact dd.typeIs
noncomputable def IH(d ty:TE):TE:=λb H Q=>d b H λx e=>ty b e λy c=>∃a v,x=.ref a/\fJ c a y (aA v)/\Q v c
section
variable {X:Cx}{o i:aI}{pos:Pos}{td ty:TE}
theorem Rg(n:X.A.units+1<cLine)(ho:PE X o td)(hi:PE X i ty)(hs:AB i):PE X (.Subscript o i pos) (IH td ty):=by
 intro b s d H Q I h;refine WW PySem.F.slot_dict_getitem.lookup hs (aY (ho b s d H _ I h) λu f ⟨x,t,q,k,m⟩=>aY (hi b f d t _ q m) λC B ⟨y,r,e,j,a,v,ex,g,l⟩=>?_);subst ex;obtain rfl:u=cY a:=k;exact⟨JC e g,Ug n e g j λw z p c=>⟨v,r,p,c,l⟩⟩
end
theorem Sa{P:cF}(h:aT)(a:gz<h.objs.size):bB P w H (h.push {cls:=.type "dict",data:=.dict #[]}) h.objs.size (.dK []):=
 ⟨fQ _,beq_eq_false_iff_ne.mpr (cX (d6 a)),[],.nil,Cv h⟩
noncomputable def N9:TE:=λ_ H Q=>∀p,H p=aE->Q (.ref p) (upd H p (.dK []))
section
variable {X:Cx}{pos:Pos}
theorem Rz:PE X (.Dict [] [] pos) N9:=λb s c H Q I h=>
 wpAny_Dict_empty ⟨.ref s.heap.objs.size,_,I.laid (a:=s.heap.objs.size) (o:=.dK []) (t':=s.toks) (λ_ _ q=>bZ _ q) (bH _) (Sa s.heap I.big),rfl,h _ (I.hok.fresh (bH _))⟩
end
noncomputable def km(kvs more:List (Key×V)):List (Key×V):=more.foldl (λa b=>cZ a b.1 b.2) kvs
theorem KV.merge:∀{more:List (Key×V)}{a:List (Key×aC)}{kvs:List (Key×V)}{vs:List (Key×aC)},KV more a->KV kvs vs->KV (km kvs more) (merged vs a):=by
 intro more a kvs vs r;unfold KV at r;induction r generalizing kvs vs with
 |nil=>intro q;exact q
 | @cons p q ps d h t c=>
  intro b;have e:KV (cZ kvs p.1 p.2) (stored vs q.1 q.2):=by
   have:=b.put p.1 h.2;rw[←h.1];exact this
  exact c e
theorem k7:∀(more kvs:List (Key×V)),(km kvs more).length<=kvs.length+more.length
 |[],kvs=>by show kvs.length<=kvs.length+0;lia
 |p::r,kvs=>by
  have b:=k7 r (cZ kvs p.1 p.2);have a:=yR kvs p.1 p.2;show (km (cZ kvs p.1 p.2) r).length<=_;rw[eZ];lia
structure M1(X:Cx)(o:aI)(m:aG)(apos:Pos)(e:aI)(cpos:Pos):Prop where
 base:mE o m X.env (eval o X.env)=eval o X.env
 few:((fL cpos (d_ [e] X.env)).all (λx=>!x.1)&&(la cpos (li [] X.env)).all (λx=>x.1.isSome)
  &&decide (([e]:List aI).length+([]:List iu).length+(if ([]:List iu).isEmpty then 0 else 1)<30))=aB
 line:(apos.endLine==cpos.line)=aB
 trees:fL cpos (d_ [e] X.env)=[(aD,eval e X.env)]
noncomputable def Hi (H:Hp)(a:aF):Prop:=∃b,rF H a b
theorem MX{c:St}{H:Hp}(I:Inv X j c H s)(d:Hi H a) :
  s.TypeIs (.ref a) "dict"/\(∀b,cY a=.ref b->∃ob,s.heap.get? b=aA ob/\ob.dict=aE)/\(a==gz)=aD:=by
 obtain⟨f,e⟩:=d;obtain⟨_,hd,i,_,dd⟩:=ji I.hok e;refine⟨dd.typeIs,λb q=>?_,hd⟩;cases q;obtain⟨ob,_,_,h,g,_⟩:=dd;exact⟨ob,h,g.2.1⟩
end L2
namespace NH
open PySem PySem.Spec PyProof.Rows L2
noncomputable def qN(z:Key):List (Key×T)->Option T
 |[]=>aE
 |p::r=>if p.1=z then aA p.2 else qN z r
noncomputable def u7 (z:Key)(t:T)(kvs:List (Key×T)):List (Key×T):=
 if (kvs.any λa=>decide (a.1=z))=aB then kvs.map (λa=>if a.1=z then (a.1,t) else a) else kvs++[(z,t)]
noncomputable abbrev Y1:De:=λ_ a=>.ok (.mut a.length) (a++[.dic []])
noncomputable abbrev Ly:De:=λ_ a=>.ok (.dic []) a
noncomputable abbrev TN(o f g:De):De:=λd h=>(o d h).bind λj c=>match j with
 |.mut i=>λK Z=>(∃a,c[i]?=aA (.lst a))/\f d c (λl e=>g d e (λt b=>match l with
  |.int k=>∃a,b[i]?=aA (.lst a)/\(0<=k/\k<=a.length/\a.length<aU)/\K .non (b.set i (.lst (a.take k.toNat++t::a.drop k.toNat)))
  |_=>False) Z) Z
 |_=>.st
section
variable {X:Cx}{D:DP}{W:XW}{σ:St}{H:Hp}{φ α:List aF}{τ:Sl}{μ:aK}{pos:Pos}
theorem Jh:∀{kvs:List (Key×T)}{gs:List (Key×V)},bE D φ α H kvs gs->(gs.any λj=>decide (j.1=z))=(kvs.any λj=>decide (j.1=z))
 |[],_,h=>by cases h;rfl
 |p::r,_,h=>by
  obtain⟨v,q,rfl,d,l⟩:=h;rw[ni,ni,Jh l]
theorem qx:∀{kvs:List (Key×T)}{gs:List (Key×V)},bE D φ α H kvs gs->gs.length=kvs.length
 |[],_,h=>by cases h;rfl
 |p::r,_,h=>by
  obtain⟨v,q,rfl,d,l⟩:=h;rw[eZ,eZ,qx l]
theorem uY(dt:aZ D φ α H t w):∀{kvs:List (Key×T)}{gs:List (Key×V)},bE D φ α H kvs gs->bE D φ α H (kvs.map λj=>if j.1=z then (j.1,t) else j) (gs.map λj=>if j.1=z then (j.1,w) else j)
 |[],_,h=>by cases h;rfl
 |p::r,_,h=>by
  obtain⟨v,q,rfl,d,l⟩:=h;rw[dC,dC];by_cases e:p.1=z
  ·rw[if_pos e,if_pos (show (p.1,v).1=z from e)];exact⟨w,_,rfl,dt,uY dt l⟩
  ·rw[if_neg e,if_neg (show ¬(p.1,v).1=z from e)];exact⟨v,_,rfl,d,uY dt l⟩
theorem QY(dt:aZ D φ α H t w):∀{kvs:List (Key×T)}{gs:List (Key×V)},bE D φ α H kvs gs->bE D φ α H (kvs++[(z,t)]) (gs++[(z,w)])
 |[],_,h=>by cases h;exact⟨w,[],rfl,dt,rfl⟩
 |p::r,_,h=>by
  obtain⟨v,q,rfl,d,l⟩:=h;exact⟨v,_,rfl,d,QY dt l⟩
theorem uI(dt:aZ D φ α H t w)(h:bE D φ α H kvs gs):bE D φ α H (u7 z t kvs) (cZ gs z w):=by
 unfold u7 cZ;rw[Jh h];split
 ·exact uY dt h
 ·exact QY dt h
theorem Px:PE X (.Dict [] [] pos) (aX D W Y1):=by
 refine PE.mono Rz ?_;rintro e H Q ⟨c,g,d,f,h,a,p⟩;intro x b;refine aJ.ok p (xn b) (a.layO b ⟨[],z5,rfl⟩) _ ⟨x,?_,rfl⟩;rw[←a.len,fN (bH _)];simp
end
noncomputable def TW:ER:=λ_ _ e=>match e with
 |.Dict [] [] _=>aA Ly
 |_=>aE
noncomputable def uF:ER:=λ_ _ e=>match e with
 |.Dict [] [] _=>aA Y1
 |_=>aE
theorem Qs:cM D uF:=by
 intro r H X W a k e d C h;unfold uF at h;split at h
 ·cases h;exact Px
 ·cases h
end NH
namespace NH.P
open PySem L2 NH
@[reducible] noncomputable def ZO:List Ds:=[(zr (jP (xY [2] (eV 0)) (AT (xY [1] (eV 0)))))]
noncomputable def zJ:Fn:=bI 1 0 ZO
@[reducible] noncomputable def yM:List Ds:=[(bS (fx (qc (tE (xY [3] (eV 0)))) (qc (tE (iC (eC (.int 1)) [(.LtE,(dD y_ (eV 0))),(.LtE,(eC (.int 8)))])))) [(zr (eC (.bl aD)))] []),(zr (dD V5 (qw 1 [] (.one 0) (iE (eV 0)) [] (zx .In (eV 0) (eC (.str "abcdefghijklmnopqrstuvwxyz"))))))]
noncomputable def qS:Fn:=bI 1 0 yM
@[reducible] noncomputable def QN:List Ds:=[(zr (jP (z6 zJ [(eV 0)]) (zx .GtE (eV 0) (eC (.int 1)))))]
noncomputable def ve:Fn:=bI 1 0 QN
@[reducible] noncomputable def ZK:List Ds:=[(zr (jP (z6 zJ [(eV 0)]) (iC (eC (.int 0)) [(.LtE,(eV 0)),(.Lt,(eV 1))])))]
noncomputable def qq:Fn:=bI 2 0 ZK
@[reducible] noncomputable def xN:List Ds:=[(bS (qc (xA (tE (z6 ve [(eV 1)])) (xA (tE (z6 ve [(eV 2)])) (tE (z6 ve [(eV 3)]))))) [(zG 12 [(eC (.str "a shape has three whole numbers from 1 on"))])] []),(zM (eV 0) 0 (eV 1)),(zM (eV 0) 1 (eV 2)),(zM (eV 0) 2 (eV 3))]
noncomputable def vS:Fn:=bI 4 0 xN
@[reducible] noncomputable def u_:List Ds:=[(zr (zd .Mult (zd .Mult (zf (eV 0) 0) (zf (eV 0) 1)) (zf (eV 0) 2)))]
noncomputable def xv:Fn:=bI 1 0 u_
@[reducible] noncomputable def We:List Ds:=[(zr (z6 qq [(eV 1),(z6 xv [(eV 0)])]))]
noncomputable def uq:Fn:=bI 2 0 We
@[reducible] noncomputable def xC:List Ds:=[(bS (qc (tE (z6 uq [(eV 0),(eV 1)]))) [(zG 13 [(eC (.str "no name of the shape"))])] [])]
noncomputable def vR:Fn:=bI 2 0 xC
@[reducible] noncomputable def yH:List Ds:=[(bS (tE (zx .Lt (eV 1) (dD y_ (eV 0)))) [(zr (bC (eV 0) (eV 1)))] []),(zr (eC (.int 0)))]
noncomputable def wJ:Fn:=bI 2 0 yH
@[reducible] noncomputable def Z5:List Ds:=[(zN (z6 vR [(eV 0),(eV 1)])),(zp 2 (zd .Mod (eV 1) (zf (eV 0) 2))),(zp 3 (zd .FloorDiv (eV 1) (zf (eV 0) 2))),(zr (wq [(zd .FloorDiv (eV 3) (zf (eV 0) 1)),(zd .Mod (eV 3) (zf (eV 0) 1)),(eV 2)]))]
noncomputable def jy:Fn:=bI 2 2 Z5
end NH.P
namespace NH
open PySem PySem.Spec PyProof.Rows L2
noncomputable abbrev mP:De:=λ_ _=>RE.st
noncomputable abbrev Bl:Ds:=λ_ _=>cQ.st
noncomputable def Fw:ER:=λ_ _ _=>aA mP
theorem Rx:cM D Fw:=by
 intro r H X W j k e d C h;cases h;rintro a s f H Q I ⟨b,i,c,g,l,m,p⟩;exact p.elim
noncomputable def F9:SR:=λ_ _ _=>aA Bl
theorem UZ:og D F9:=by
 intro r H X W j k e d C h;cases h;rintro a s f H E I ⟨b,i,c,g,l,m,Q,q,_⟩;exact q.elim
theorem Vn:∀a:List Int,HT.lexLt a a=aD
 |[]=>rfl
 |x::a=>by rw[HT.lexLt_cons,if_pos rfl];exact Vn a
theorem Yc:∀{a b c:List Int},HT.lexLt a b=aB->HT.lexLt c b=aD->HT.lexLt c a=aD
 |[],b,[],_,_=>rfl
 |x::a,[],c,h,_=>by cases h
 |[],[],_,h,_=>by cases h
 |[],y::b,z::c,_,_=>rfl
 |x::a,y::b,[],_,h=>by cases h
 |x::a,y::b,z::c,e,d=>by
  rw[HT.lexLt_cons] at e d ⊢;by_cases g:x=y
  ·subst g;rw[if_pos rfl] at e;by_cases f:z=x
   ·rw[if_pos f] at d ⊢;exact Yc e d
   ·rw[if_neg f] at d ⊢;exact d
  ·rw[if_neg g] at e;have e:=of_decide_eq_true e;by_cases f:z=y
   ·subst f;rw[if_neg (cX g)];exact decide_eq_false (by omega)
   ·rw[if_neg f] at d;have d:=of_decide_eq_false d;rw[if_neg (by omega)];exact decide_eq_false (by omega)
noncomputable def VC(rows:List (List Int))(ns:List Int):Prop:=∀a∈rows,HT.lexLt a ns=aD
section
variable {prog:Program}{w:World}{A:Around}{E:aC->Shared->Prop}{s:Shared}{l I S:aF}{vs:List aC}{R:Result->Shared->Prop}{Q:aC->Shared->Prop}
noncomputable def eO(h:aT)(v:aC)(ns:List Int):Prop:=∃a b,v=.ref a/\hV h a b/\dZ b.toList ns
theorem eO.keep(r:eO h v ns)(k:∀b o,h.get? b=aA o->h'.get? b=aA o):eO h' v ns:=by
 obtain⟨a,items,e,⟨o,ho,c⟩,hi⟩:=r;exact⟨a,items,e,⟨o,k _ _ ho,c⟩,hi⟩
theorem Yn(hh:A.handled=aE)(hu:A.units+20<cLine)(hl:s.heap.IsList l vs.toArray)(hI:s.heap.get? I=aE)(hS:s.heap.get? S=aE)(G:S≠I)(M:rows.length=vs.length)
  (ht:∀(i:Nat) v ns,vs[i]?=aA v->rows[i]?=aA ns->eO s.heap v ns)
  (hR:∀(i:Nat) v ns h' u,vs[i]?=aA v->rows[i]?=aA ns->VC rows ns->(∀b o,s.heap.get? b=aA o->h'.get? b=aA o)->R (.ok (.ret v)) {s with heap:=h',toks:=u}) :
  ∀(r j i:Nat) (h:aT) (tk:Nat) (B:aC) (nb:List Int) (c:Nat),vs.length-(j+1)=r->j+1<=vs.length->(∀b o,s.heap.get? b=aA o->h.get? b=aA o)->
   h.get? S=aA (bN "list" #[B,B] c)->h.IsListIter I l (j+1)->vs[i]?=aA B->rows[i]?=aA nb->VC (rows.take (j+1)) nb->
   fP (aQ prog w) A (.builtin "min.loop" ⟨[.ref I,.none,.ref S],[]⟩) R {s with heap:=h,toks:=tk}:=by
 have m:(toString "min"++toString ".loop":String)="min.loop":=by decide
 have g:∀{b:aF}{o:bD},s.heap.get? b=aA o->b≠I/\b≠S:=λ{b o} e=>⟨λz=>(by rw[z,hI] at e;cases e),λz=>(by rw[z,hS] at e;cases e)⟩;have hlI:l≠I:=by obtain⟨o,Y,_⟩:=id hl;exact (g Y).1
 have W:=m9 (prog:=prog) (w:=w) (A:=A.in1) hh I l hlI vs.toArray;have K:vs.toArray.size=vs.length:=dA ..;have lst:∀{h:aT},(∀b o,s.heap.get? b=aA o->h.get? b=aA o)->h.IsList l vs.toArray:=λ{h} k=>by
  obtain⟨o,Y,hc⟩:=hl;exact⟨o,k _ _ Y,hc⟩
 intro r;induction r with
 |zero=>
  intro j i h tk B nb c hr hj J p E t x d;have N:j+1=vs.length:=by lia
  refine my ti ?_;rw[mK lX _];show wpAny _ A.in1 (iK (.ref S) >>= _) _ _ _;refine wpAny_bind (mG p rfl ?_);show wpAny _ A.in1 (tryCatch (iq (.ref I)) _ >>= _) _ _ _;refine wpAny_bind (iR (W.done _ _ _ ⟨by rw[K,←N];exact E,lst J⟩ λh' u n=>?_));have f:∀b o,s.heap.get? b=aA o->h'.get? b=aA o:=λb o e=>n b o (by simpa using (g e).1) (J b o e);have q:=n S _ (by simpa using G) p;have P:=iB h' S (cK λ_=>(#[]:Array aC));show wpAny _ A.in1 (oA S (λ_=>#[]) >>= _) _ _ _;refine wpAny_bind ?_;refine mx q rfl (wpAny_bind (iL (wpAny_pure ?_)));refine hR i B nb _ _ t x ?_ λb o e=>(P.2 b (g e).2).trans (f b o e);rw[N,←M,nC] at d;exact d
 |succ r ih=>
  intro j i h tk B nb c hr hj J p E t x d;have D:j+1<vs.length:=by lia
  refine my ti ?_;rw[mK lX _];show wpAny _ A.in1 (iK (.ref S) >>= _) _ _ _;refine wpAny_bind (mG p rfl ?_);show wpAny _ A.in1 (tryCatch (iq (.ref I)) _ >>= _) _ _ _;refine wpAny_bind (iR (W.item (j+1) _ _ _ (by rw[K];exact D) ⟨E,lst J⟩ λv h' u hP y n=>?_));have hv:vs[j+1]?=aA v:=by simpa using hP
  have f:∀b o,s.heap.get? b=aA o->h'.get? b=aA o:=λb o e=>n b o (by simpa using (g e).1) (J b o e);have q:=n S _ (by simpa using G) p;have hn:∃ns,rows[j+1]?=aA ns:=⟨_,eS (by lia)⟩;obtain⟨ns,C⟩:=hn;obtain⟨a,ia,rfl,ta,na⟩:=(ht (j+1) v ns hv C).keep f;obtain⟨b,ib,rfl,tb,T⟩:=(ht i B nb t x).keep f;have H:rows.take (j+1+1)=rows.take (j+1)++[ns]:=by rw[gD,C];rfl
  show wpAny _ A.in1 (tryCatch (lK [.ref a,.ref a] (nc .Lt (.ref a) (.ref b) >>= _)) _ >>= _) _ _ _;refine wpAny_bind (iR (wpAny_holding (wpAny_bind (HT.lt_tupInts (s:={s with heap:=h',toks:=u}) ta tb na T (by rw[cC];lia) ?_))));refine wpAny_bind (wpAny_holding (wpAny_truthy_bool ?_));refine wpAny_bind (iL (wpAny_pure ?_));cases O:HT.lexLt ns nb with
  |true=>
   have P:=iB h' S (cK λ_=>#[.ref a,.ref a]);obtain⟨c2,hc2⟩:∃c2,(h'.update S (cK λ_=>#[.ref a,.ref a])).get? S=aA (bN "list" #[.ref a,.ref a] c2):=⟨_,lw q λ_=>#[.ref a,.ref a]⟩;simp only[if_true];refine wpAny_bind ?_;refine mx q rfl (wpAny_bind (iL ?_));rw[m];obtain⟨Q,L,X,V⟩:=id y.1;refine wpAny_pure ⟨lg lX _,ih (j+1) (j+1) _ _ (.ref a) ns c2 (by lia) D (λb o e=>(P.2 b (g e).2).trans (f b o e)) hc2 ⟨Q,(P.2 I G.symm).trans L,X,V⟩ hv C ?_⟩;rw[H];intro U Z;rcases cA.mp Z with z|z
   ·exact Yc O (d U z)
   ·rw[bV.mp z];exact Vn ns
  |false=>
   simp only[mI,if_false];refine wpAny_bind (iL ?_);rw[m];refine wpAny_pure ⟨lg lX _,ih (j+1) i _ _ (.ref b) nb c (by lia) D f q y.1 t x ?_⟩;rw[H];intro U Z;rcases cA.mp Z with z|z
   ·exact d U z
   ·rw[bV.mp z];exact O
theorem RK(a:aC):lH "min" ⟨[a],[]⟩:=by unfold lH;kernel_rfl
theorem R8(S:A.handled=aE)(hu:A.units+20<cLine)(D:s.heap.IsList l vs.toArray)(M:0<vs.length)(x:rows.length=vs.length)
  (ht:∀(i:Nat) v ns,vs[i]?=aA v->rows[i]?=aA ns->eO s.heap v ns)
  (hQ:∀(i:Nat) v ns h' j,vs[i]?=aA v->rows[i]?=aA ns->VC rows ns->(∀b o,s.heap.get? b=aA o->h'.get? b=aA o)->Q v {s with heap:=h',toks:=j}) :
  wpAny (aQ prog w) A (call (.builtin "min") [.ref l]) Q E s:=by
 have m:(toString "min"++toString ".loop":String)="min.loop":=by decide
 refine kmb_tree PySem.F.kind_min PySem.F.plain_min PySem.F.entry_min (RK _) ?_;show wpAny _ A.in1 (pJ "min" ["key","default"] 0 ⟨[],[]⟩ >>= _) _ _ s;refine wpAny_bind (lO (show pJ "min" ["key","default"] 0 ⟨[],[]⟩=pure [aE,aE] from rfl) ?_);refine wpAny_bind (wpAny_pure ?_);refine wpAny_bind (nn D ?_);refine wpAny_bind (mC ?_ (fQ _));rw[m];refine wpAny_pure ⟨lg lX _,?_⟩;let g:bD:={cls:=.type "list_iterator",data:=.fields #[.ref l,.int 0 0]};let C:bD:=bN "list" #[] 0;have X:(s.heap.push g).objs.size=s.heap.objs.size+1:=gX ..;have up:∀b o,s.heap.get? b=aA o->((s.heap.push g).push C).get? b=aA o:=λb o e=>bZ _ (bZ _ e);have gI:((s.heap.push g).push C).get? s.heap.objs.size=aA g:=bZ _ (eF _ rfl);have V:((s.heap.push g).push C).get? (s.heap.push g).objs.size=aA C:=eF _ rfl;have U:s.heap.get? s.heap.objs.size=aE:=lp (bH _);have T:s.heap.get? (s.heap.push g).objs.size=aE:=lp (by rw[X];exact gJ _);have q:(s.heap.push g).objs.size≠s.heap.objs.size:=by rw[X];exact iA (iO _)
 have p:∀{b:aF}{o:bD},s.heap.get? b=aA o->b≠s.heap.objs.size/\b≠(s.heap.push g).objs.size:=λ{b o} e=>⟨λz=>(by rw[z,U] at e;cases e),λz=>(by rw[z,T] at e;cases e)⟩;have N:l≠s.heap.objs.size:=by obtain⟨o,L,_⟩:=id D;exact (p L).1
 have lst:∀{h:aT},(∀b o,s.heap.get? b=aA o->h.get? b=aA o)->h.IsList l vs.toArray:=λ{h} k=>by
  obtain⟨o,L,hc⟩:=D;exact⟨o,k _ _ L,hc⟩
 have W:=m9 (prog:=prog) (w:=w) (A:=A.in1) S s.heap.objs.size l N vs.toArray;have I:vs.toArray.size=vs.length:=dA ..;refine my ti ?_;rw[mK lX _];show wpAny _ A.in1 (iK (.ref _) >>= _) _ _ _;refine wpAny_bind (mG V rfl ?_);show wpAny _ A.in1 (tryCatch (iq (.ref s.heap.objs.size)) _ >>= _) _ _ _;refine wpAny_bind (iR (W.item 0 _ _ _ (by rw[I];exact M) ⟨⟨_,gI,rfl,rfl⟩,lst up⟩ λv h' j hP r y=>?_));have Z:vs[0]?=aA v:=by simpa using hP
 have H:∀b o,s.heap.get? b=aA o->h'.get? b=aA o:=λb o e=>y b o (by simpa using (p e).1) (up b o e);have B:=y _ _ (by simpa using q) V;have hn:∃ns,rows[0]?=aA ns:=⟨_,eS (by lia)⟩;obtain⟨ns,u⟩:=hn;have R:=iB h' (s.heap.push g).objs.size (cK λ_=>#[v,v]);obtain⟨P,O⟩:∃P,(h'.update (s.heap.push g).objs.size (cK λ_=>#[v,v])).get? (s.heap.push g).objs.size=aA (bN "list" #[v,v] P):=⟨_,lw B λ_=>#[v,v]⟩;refine wpAny_bind (wpAny_pure ?_);show wpAny _ A.in1 (oA _ _ >>= _) _ _ _;refine wpAny_bind ?_;refine mx (s:={s with heap:=h',toks:=j}) (f:=λ_=>#[v,v]) (xs:=#[]) (n:=0) (o:=bN "list" #[] 0) B rfl ?_ (fQ _) (by show 2<=sizeLine+1;decide);rw[m];obtain⟨G,t,K,J⟩:=id r.1;refine wpAny_pure ⟨lg lX _,Yn S hu D U T q x ht (λi v ns h' j a b c d=>hQ i v ns h' j a b c d) _ 0 0 _ _ v ns P rfl (by lia) (λb o e=>(R.2 b (p e).2).trans (H b o e)) O ⟨G,(R.2 _ q.symm).trans t,K,J⟩ Z u ?_⟩;rw[gD,u];intro Y hm;have:Y=ns:=by simpa using hm
 rw[this];exact Vn ns
end
noncomputable def rowsOf:List T->Option (List (List Int))
 |[]=>aA []
 |.tup a::r=>(bJ a).bind λb=>(rowsOf r).map (b::·)
 |_::_=>aE
theorem kO:∀{xs:List T}{rows:List (List Int)},rowsOf xs=aA rows->rows.length=xs.length
 |[],rows,h=>by cases h;rfl
 |.tup b::r,rows,h=>by
  obtain⟨c,d,h⟩:=tB.mp h;obtain⟨q,a,rfl⟩:=lB.mp h;simp[kO a]
theorem QI:∀{ts:List T}{ns:List Int},bJ ts=aA ns->ts=ns.map T.int
 |[],ns,h=>by cases h;rfl
 |.int i::r,ns,h=>by
  obtain⟨q,a,rfl⟩:=lB.mp h;rw[QI a];rfl
theorem yg:∀{xs:List T}{rows:List (List Int)}{i:Nat}{ns:List Int},rowsOf xs=aA rows->rows[i]?=aA ns->xs[i]?=aA (.tup (ns.map T.int))
 |[],rows,i,ns,h,e=>by cases h;simp at e
 |.tup d::r,rows,i,ns,h,e=>by
  obtain⟨a,c,h⟩:=tB.mp h;obtain⟨q,b,rfl⟩:=lB.mp h;cases i with
  |zero=>
   have e:a=ns:=by simpa using e
   subst e;rw[QI c];rfl
  |succ i=>exact yg (i:=i) b (by simpa using e)
noncomputable abbrev tY(xs:List T)(μ:aK):RE T:=λK _=>∃a,rowsOf xs=aA a/\0<xs.length/\∀b∈a,VC a b->K (.tup (b.map T.int)) μ
noncomputable abbrev nX(t:T)(μ:aK):RE T:=match t with
 |.lst a=>tY a μ
 |.mut i=>λK Z=>∃a,μ[i]?=aA (.lst a)/\tY a μ K Z
 |_=>.st
section
variable {X:Cx}{D:DP}{W:XW}{pins:List (aF×bD)}{s:Shared}{σ:St}{H:Hp}{φ α:List aF}{μ:aK}
theorem Gq{ad:aF}(J:X.calm=aB)(R:X.A.units+64<cLine)(I:Inv X pins σ H s)(y:aL D φ α H μ)(q:Rd H ad (.lst B))(l:aN D φ α H xs B)(p:aJ D W φ α H σ (RV D φ Q) (tY xs μ)) :
  wpAny (aQ X.prog X.w) X.A (call (.builtin "min") [.ref ad]) (EP X pins σ Q) X.xe s:=by
 obtain⟨j,k,x,P⟩:=I.list (.inl q);obtain⟨K0,Z,⟨rows,b,F,G⟩,C,O⟩:=p;have Y:=l.length;have V:=k.length;have U:=kO b;have g:∀(i:Nat) v ns,j[i]?=aA v->rows[i]?=aA ns->∃a:aF,v=.ref a/\aZ D φ α H (.tup (ns.map T.int)) (.ref a)/\eO s.heap v ns:=λi v ns e c=>by
  obtain⟨w,hw,dw⟩:=l.get (yg b c);obtain⟨u,f,t⟩:=k.get hw;rw[e] at f;cases f;obtain⟨a,L,rfl,N,M,r,dl⟩:=id dw;cases t;have ey:=qV (ns:=ns) (by
   clear dl hw dw r c e;induction ns with
   |nil=>rfl
   |cons n r E=>show (bJ (r.map T.int)).map (n::·)=_;rw[E];rfl) dl
  subst ey;obtain⟨m,h,pt,_⟩:=I.tuple (.inl r);exact⟨a,rfl,dw,a,_,rfl,pt,by simpa using intsAre_of h⟩
 refine R8 (rows:=rows) (I.ok.hd J) (by lia) x.isList (by lia) (by lia) (λi v ns e c=>(g i v ns e c).choose_spec.2.2) λi v ns S o e c K z=>?_;obtain⟨a,rfl,d,_⟩:=g i v ns e c;exact⟨.ref a,H,I.kept z,rfl,C _ _ (G ns (cP c) K) α H (aO.refl _ _) y _ d⟩
theorem Nk(e:X.calm=aB)(c:X.A.units+64<cLine):B1 X D W (.builtin "min") nX:=by
 intro b s j H i m k t v u Q I a d r p;unfold nX at p;split at p
 ·obtain⟨ad,f,rfl,_,_,q,l⟩:=d;cases r;exact Gq e c I a q l p
 ·obtain⟨n,g,p⟩:=p.ex1;obtain⟨ad,h,rfl⟩:=d;cases r;obtain⟨f,q,l⟩:=a.ob _ ad _ h g;exact Gq e c I a (.inl q) l p
 ·exact p.elim
end
noncomputable def FY:ER:=lC "min" nX aB
theorem Se:cM D FY:=kG λC a c d b e=>JB C a c (by decide +kernel) (by decide) b (Nk (C.clm (d rfl)) C.unt) e
section
variable {X:Cx}{D:DP}{k:Nat}{pins:List (aF×bD)}{s:Shared}{σ:St}{H:Hp}{φ α:List aF}{μ:aK}
theorem xH(I:Inv X pins σ H s)(h1:s.heap.get? q=aA o)(h2:H q=aE)(d:q≠X.env.locals)(c:q∉X.fs)(b:∀v,o.data≠.cell v):Inv X ((q,o)::pins) σ H s:=
 ⟨I.ok,I.os,I.bare,I.base,I.loc,I.cell,I.free,I.freeC,λp a=>by
  rcases cA.mp a with z|z
  ·exact I.pin p (dM _ z)
  ·rcases cO.mp z with rfl|z
   ·exact⟨h1,h2,d,c,b⟩
   ·exact I.pin p (dU _ z),I.hok,I.len⟩
theorem qT(I:Inv X (p::pins) σ H s):Inv X pins σ H s:=
 ⟨I.ok,I.os,I.bare,I.base,I.loc,I.cell,I.free,I.freeC,λp a=>by
  rcases cA.mp a with z|z
  ·exact I.pin p (dM _ z)
  ·exact I.pin p (dU _ (dN _ z)),I.hok,I.len⟩
theorem Ys{P:cF}(r:h.CodeRec (.ref c) qn):bB P w H h c (.ext (qC c qn)):=by
 obtain⟨k,a,e,f,d,b,i,g⟩:=id r;cases d;refine⟨r,⟨a,b⟩,λm l p j=>?_⟩;obtain⟨k,a,e,f,d,b,i,g⟩:=p;cases d;exact⟨c,a,e,f,rfl,j _ b,i,g⟩
theorem xM{a b:aC}:∀(l:List aC),TriplesOk l->∀{x y:Int}{t u:Tok},TriplesOk (l++[.int x t,.int y u,c])
 |[],_,_,_,_,_=>trivial
 |[_],h,_,_,_,_=>by simp[TriplesOk] at h
 |[_,_],h,_,_,_,_=>by simp[TriplesOk] at h
 |p::q::r::l,h,x,y,t,u=>by
  cases p with
  |int _ _=>
   cases q with
   |int _ _=>exact xM (a:=a) (b:=b) l h
   |_=>exact h.elim
  |_=>exact h.elim
theorem Ki:∀(l:List aC),TriplesOk l->iJ pos l=aE->iJ p (l++[cV pos.line,cV pos.col,c])=aA c\/iJ p (l++[cV pos.line,cV pos.col,c])=iJ p l:=by
 intro l h d;fun_induction TriplesOk l with
 |case1=>
  by_cases q:((pos.line:Int)==(p.line:Int)&&(pos.col:Int)==(p.col:Int))=aB
  ·left;simp only[Cu,iJ,cV];rw[if_pos q]
  ·right;simp only[Cu,iJ,cV];rw[if_neg q]
 |case2 a t b u x bX e=>
  simp only[CM,iJ] at d ⊢
  split at d
  ·cases d
  ·split
   ·exact .inr rfl
   ·exact e h d
 |case3 l g f=>exact h.elim
theorem JJ{ob:aF->aC->aC->bD}{i j:Nat}{qn:aG}{c P:aF}(I:Inv X pins σ H s)(l:aL D φ α H μ)(hi:μ[i]?=aA (.tab j))(hD:D.tabs j=aA (P,E,qn))(hpp:pos∈E)
  (hC:lr X.base c P) (hB:X.base.BuiltinsAt X.mg P) (C:∀a b d,(ob a b d).isFreed=aD/\∀v,(ob a b d).data≠.cell v)
  (V:∀{ps:Array aC}{Q:aC->a_->Prop},s.heap.Ns bR X.mg->lr s.heap c P->s.heap.get? P=aA (lR ps)->TriplesOk ps.toList->iJ pos ps.toList=aE->bR≠P->s.heap.BuiltinsAt X.mg P->(∀(f:aF) (g doc:aC) (h':aT) (tk:Tok),Heap.ExtBut P s.heap h'->s.heap.objs.size<=f->f<h'.objs.size->h'.CodeRec (.ref f) qn->h'.get? P=aA (lR (ps++#[cV pos.line,cV pos.col,.ref f]))->Q (.ref h'.objs.size) {s with heap:=h'.push (ob f g doc),toks:=tk})->wpAny (aQ X.prog X.w) X.A t0 Q X.xe s)
  (hit:∀{ps:Array aC}{f:aF}{Q:aC->a_->Prop},s.heap.Ns bR X.mg->lr s.heap c P->s.heap.get? P=aA (lR ps)->TriplesOk ps.toList->iJ pos ps.toList=aA (.ref f)->s.heap.BuiltinsAt X.mg P->(∀(g doc:aC) (h':aT) (tk:Tok),(∀b o,s.heap.get? b=aA o->h'.get? b=aA o)->s.heap.objs.size<=h'.objs.size->Q (.ref h'.objs.size) {s with heap:=h'.push (ob f g doc),toks:=tk})->wpAny (aQ X.prog X.w) X.A t0 Q X.xe s)
  (h:∀q f g doc B s',Inv X ((q,ob f g doc)::pins) σ B s'->aO α H α B->aL D φ α B μ->f∉α->B f=aA (.ext (qC f qn))->(f∉φ/\dX X B q/\∀p∈pins,p.1≠q)->Q (.ref q) s') :
  wpAny (aQ X.prog X.w) X.A t0 Q X.xe s:=by
 have hia:∃a,α[i]?=aA a:=⟨_,eS (by rw[l.len];exact (bQ.mp hi).1)⟩;obtain⟨a,ha⟩:=hia;obtain⟨pos',qn',ps,hD',r,y,F⟩:=l.ob i a _ ha hi;rw[hD] at hD';cases hD';have N:=F pos hpp;have hP:s.heap.get? P=aA (lR ps):=I.hok P _ r;have hg:s.heap.Ns bR X.mg:=I.ok.mod.glob.keeps I.bk;have hCs:lr s.heap c P:=hC.keeps I.bk;have hBs:s.heap.BuiltinsAt X.mg P:=by
  obtain⟨bm,o,b1,b2,b3,b4,b5,b6⟩:=hB;exact⟨bm,o,b1,b2,b3,b4,I.bk _ _ b5,b6⟩
 have hPa:P∈α:=cP ha;have nL:X.env.locals≠P:=λz=>by have:=I.free;rw[z,r] at this;cases this
 rcases N with x|⟨f,hhit,n1,n2,hc'⟩
 ·have hgP:bR≠P:=λz=>by
   obtain⟨o,es,ep,e,hd,_⟩:=hg;rw[z,hP] at e;cases e;cases hd
  refine V hg hCs hP y x hgP hBs λf g doc h' tk Y M hlt Z L=>?_;have k:H f=aE:=I.hok.fresh M;have hcP:f≠P:=λz=>by rw[z,r] at k;cases k
  have K:∀{b o},s.heap.get? b=aA o->b≠f:=λ{b o} e z=>absurd (dL (cG e) M) (by rw[z];exact iz _);generalize O:upd (upd H f (.ext (qC f qn))) P (.tbl (ps++#[cV pos.line,cV pos.col,.ref f]))=B;have HP:B P=aA (.tbl (ps++#[cV pos.line,cV pos.col,.ref f])):=by rw[←O];exact z5
  have Hc:B f=aA (.ext (qC f qn)):=by rw[←O,z9 hcP];exact z5
  have Ho:∀b,b≠P->b≠f->B b=H b:=λb h1 h2=>by rw[←O,z9 h1,z9 h2]
  have G:∀b o,b≠P->H b=aA o->B b=aA o:=λb o h1 e=>by rw[Ho b h1 (zH e k)];exact e
  have U:(h'.push (ob f g doc)).CodeRec (.ref f) qn:=by
   obtain⟨c2,oc,vs,tq,S,e2,e3⟩:=Z;exact⟨c2,oc,vs,tq,S,bZ _ e2,e3⟩
  have J:Inv X pins σ B {s with heap:=h'.push (ob f g doc),toks:=tk}:=by
   refine I.step (g':=s.gens) (d':=s.drawn) (ch:=[]) (λ_ z=>nomatch z) (λb o _ _ _ e n=>?_) (λb o _ _ _ e n=>⟨o.slots,?_⟩) (λb o _ e n=>?_) (λb o _ e=>?_) (λb xs e=>?_) (λb o u e=>?_) (λb qs e=>?_) (λm hm=>?_) (λb u e=>?_) I.bare
   ·exact bZ _ (Y b o (λz=>by rw[z,r] at n;cases n) e)
   ·exact bZ _ (Y b o (λz=>by rw[z,r] at n;cases n) e)
   ·rw[Ho b (λz=>by rw[z,r] at n;cases n) (K e)];exact n
   ·by_cases z:b=P
    ·rw[z];exact⟨_,bZ _ L⟩
    ·exact⟨o,bZ _ (Y b o z e)⟩
   ·exact G b _ (λz=>by rw[z,r] at e;cases e) e
   ·exact G b _ (λz=>by rw[z,r] at e;cases e) e
   ·by_cases z:b=P
    ·rw[z,r] at e;cases e;rw[z];exact⟨_,HP⟩
    ·exact⟨#[],by rw[G b _ z e];simp⟩
   ·exact (hm.extBut Y nL).push _
   ·by_cases z:b=P
    ·subst z;rw[HP] at e;cases e;exact bZ _ L
    ·by_cases T:b=f
     ·subst T;rw[Hc] at e;cases e;exact Ys U
     ·rw[Ho b z T] at e;refine (I.hok b u e).stay (λc v R q=>?_) (λc q=>?_) λc xs q=>?_
      ·refine bZ _ (Y c v (λw=>?_) q);rcases R with R|R
       ·exact z (R▸w)
       ·rw[w,r] at R;cases R
      ·exact G c _ (λw=>by rw[w,r] at q;cases q) q
      ·exact G c _ (λw=>by rw[w,r] at q;cases q) q
  have fresh:s.heap.objs.size<=h'.objs.size:=nh (tx M hlt);have hqP:h'.objs.size≠P:=λz=>absurd (cG L) (by rw[←z];exact iz _);have hqc:h'.objs.size≠f:=iA hlt;have nq:B h'.objs.size=aE:=by rw[Ho _ hqP hqc];exact I.hok.fresh fresh
  have st:aO α H α B:=⟨⟨[],by simp,by simp⟩,λb o n e=>G b o (λz=>n (z▸hPa)) e,λb e=>by
   by_cases z:b=P
   ·rw[z,HP] at e;cases e
   ·by_cases T:b=f
    ·rw[T];exact k
    ·rw[Ho b z T] at e;exact e⟩
  refine h h'.objs.size f g doc B _ (xH J (eF _ (C _ _ _).1) nq (iA (dL I.lt fresh)) (I.nofs fresh) (C _ _ _).2) st ?_ (zo l k) Hc ⟨zm l k,GB (I.fpOk fresh nq)⟩;refine⟨l.len,l.nd,l.dis,λb hb=>?_,λi' a' o' S e2=>?_⟩
  ·obtain⟨u,hu,n⟩:=l.phi b hb;exact⟨u,st.keep b u (λz=>l.dis b z hb) hu,n⟩
  ·by_cases z:i'=i
   ·subst z;rw[ha] at S;cases S;rw[hi] at e2;cases e2;refine⟨E,qn,_,hD,HP,?_,λp2 hp2=>?_⟩
    ·rw[Dk];exact xM (a:=.none) (b:=.none) _ y
    ·rw[Dk];rcases Ki (p:=p2) (c:=.ref f) _ y x with w|w
     ·exact .inr ⟨f,w,zm l k,zo l k,Hc⟩
     ·rw[show (#[cV pos.line,cV pos.col,.ref f]:Array aC).toList=[cV pos.line,cV pos.col,.ref f] from rfl,w];refine (F p2 hp2).imp id λ⟨c2,k1,k2,k3,k4⟩=>⟨c2,k1,k2,k3,?_⟩;exact G c2 _ (λz=>k3 (z▸hPa)) k4
   ·have ne:a'≠P:=λw=>by
     obtain⟨q1,q2⟩:=bQ.mp S;obtain⟨q3,q4⟩:=bQ.mp ha;exact z ((oY l.nd).mp (q2.trans (w.trans q4.symm)))
    have d:=l.ob i' a' o' S e2;obtain⟨u,hu,_⟩:=d.some;exact d9.step st ((G a' u ne hu).trans hu.symm) d
 ·refine hit hg hCs hP y hhit hBs λg doc h' tk hk t=>?_;have J:Inv X pins σ H {s with heap:=h'.push (ob f g doc),toks:=tk}:=I.kept λb u e=>bZ _ (hk b u e);exact h h'.objs.size f g doc H _ (xH J (eF _ (C _ _ _).1) (I.hok.fresh t) (iA (dL I.lt t)) (I.nofs t) (C _ _ _).2) (aO.refl _ _) l n2 hc' ⟨n1,GB (I.fpOk t (I.hok.fresh t))⟩
theorem JE{params:Arguments}{body:aI}{line i j:Nat}{qn:aG}{c P:aF}{Q:aC->a_->Prop}(I:Inv X pins σ H s)(x:aL D φ α H μ)(hi:μ[i]?=aA (.tab j))(G:D.tabs j=aA (P,C,qn))(m:pos∈C)
  (a:X.env.code=.ref c) (J:lr X.base c P) (K:X.base.BuiltinsAt X.mg P) (g:mq scope X.env=pure cl)
  (h:∀q u d B E,Inv X ((q,ly "<lambda>" qn params body scope cl ((X.mg "__name__").getD .none) u d)::pins) σ B E->aO α H α B->aL D φ α B μ->u∉α->B u=aA (.ext (qC u qn))->(u∉φ/\dX X B q/\∀p∈pins,p.1≠q)->Q (.ref q) E) :
  wpAny (aQ X.prog X.w) X.A (oU "<lambda>" qn params (.expr body) scope X.env [] [] [] pos line) Q X.xe s:=by
 exact JJ (ob:=λu d _=>ly "<lambda>" qn params body scope cl ((X.mg "__name__").getD .none) u d) I x hi G m J K (λ_ _ _=>⟨rfl,λv z=>by cases z⟩) (λo e r b y n f k=>PySem.W.kla_makeFunction (mg:=X.mg) g I.ok.glob o a e r b y n f λu d t l=>k u d .none t l) (λo e r b F f k=>PySem.W.kla_makeFunctionHit (mg:=X.mg) g I.ok.glob o a e r b F f λd t l=>k d .none t l) λq u d _ B E=>h q u d B E
theorem RW{params:Arguments}{body:List bG}{pos:Pos}{line i j:Nat}{qn:aG}{c P:aF}{Q:aC->a_->Prop}(I:Inv X pins σ H s)(o:aL D φ α H μ)(hi:μ[i]?=aA (.tab j))(x:D.tabs j=aA (P,C,qn))(g:pos∈C)
  (a:X.env.code=.ref c) (y:lr X.base c P) (F:X.base.BuiltinsAt X.mg P) (f:mq scope X.env=pure cl)
  (h:∀q B u doc E G,Inv X ((q,CO name qn params body scope cl doc ((X.mg "__name__").getD .none) B u)::pins) σ E G->aO α H α E->aL D φ α E μ->B∉α->E B=aA (.ext (qC B qn))->(B∉φ/\dX X E q/\∀p∈pins,p.1≠q)->Q (.ref q) G) :
  wpAny (aQ X.prog X.w) X.A (oU name qn params (.stmts body) scope X.env [] [] [] pos line) Q X.xe s:=
 JJ (ob:=λB u doc=>CO name qn params body scope cl doc ((X.mg "__name__").getD .none) B u) I o hi x g y F (λ_ _ _=>⟨rfl,λv z=>by cases z⟩) (λm d n b r l e k=>PySem.W.makeFunction_K (mg:=X.mg) f I.ok.glob m a d n b r l e k) (λm d n b t e k=>PySem.W.makeFunction_hit (mg:=X.mg) f I.ok.glob m a d n b t e k) h
end
section
variable {X:Cx}{D:DP}{W:XW}{Γ:Cn}{k:Nat}
noncomputable abbrev xT(Γ:Cn)(x:aG)(G:List aG):Cn:={Γ with N:=[x],G:=G,U:=G,cel:=[],own:=[],lam:=aE,fz:=[]}
noncomputable def nT:GM->Bool
 |.cst _=>aB
 |.none=>aB
 |.xcl _=>aB
 |_=>aD
theorem cE.lvl{P:cF}{K:bM}(h:nT g=aB)(q:cE D P w K mg base j x g):cE D P w K mg base k x g:=by
 cases g<;>first|exact q|cases h
theorem RH{params:Arguments}{body:aI} 
    (C:Ck D W Γ X k) (hc:Γ.calm=aB) (hG:G.all (λy=>Γ.U.contains y&&nT (Γ.gl y))=aB) (hs:xQ (xT Γ x G) [x] scope=aB) (hE:∀Y W k, Ck D W (xT Γ x G) Y k->PE Y body (aX D W g)) (L:∀(s:a_) (u:aC), jp s (sF "<lambda>" qn params body scope [] pm (.ref c') ctv) ⟨[u], []⟩ [(x, u)])
    (T:cB (k0+1) A) (e0:dI X.prog X.w X.K X.mg X.base A outer s H) (ho:s.heap.get? q=aA (ly "<lambda>" qn params body scope [] pm c' ctv)) (O:s.heap.CodeRec (.ref c') qn) (r:RelV v u) (d:aZ D φ α H t v) (mr:aL D φ α H μ)
 (p : g [aA t] μ K0 (fun _ _ _ => False)) (V : ∀ t' μ', K0 t' μ' -> ∀ M H' v', aO α H M H' -> aL D φ M H' μ' -> aZ D φ M H' t' v' -> Q v' H') :
    fP (aQ X.prog X.w) A (.call (.ref q) ⟨[u], []⟩) (CR (λ_ _ _ _ _ _=>False) outer X.prog X.w H s Q (λ_ _ _=>False)) s:=by
  simp only[xQ, cH, f_, beq_iff_eq, nj, decide_eq_true_eq, bne_iff_ne, ne_eq] at hs;obtain⟨⟨⟨⟨⟨⟨⟨⟨⟨h1, h2⟩, h3⟩, h4⟩, h5⟩, h6⟩, Z⟩, h8⟩, h9⟩, h10⟩:=hs;have l:∀y∈[x], scope.names.lookup y=aA .local:=λy j=>by
    have:=(Z y j).2;simpa using this
  have S:eK [x] [x] scope:=⟨h1, h2, h3, h4, rfl, λy j=>.inl (l y j), h6⟩;have R:s.heap.NoLimit:=e0.mod.nolimit.keeps λb o e=>(e0.bs b o e).1;refine DH (fd:=sF "<lambda>" qn params body scope [] pm (.ref c') ctv) T.depth ho rfl S.co S.gen rfl O (L s u _ _ _ _ (Eh S.kind (λy j=>?_) λenv he s1 y=>?_))
  · obtain ⟨y, w⟩ := y;have:y=x:=by simpa using congrArg Prod.fst (bV.mp j)
    subst this;exact .inl (l y (by simp))
  subst he;refine⟨R.keeps y.toInCall.keep, DG ?_⟩;have c:=Wh (fnb:=λ_=>aB) (CX:=λ_ _ _ _ _ _=>False) (E:=λ_ _ _=>False) (f:=q) (cd:=.ref c') (qual:=qn) (A:=A) (vs:=[v]) (us:=[u]) S T.hd e0 rfl (.cons r .nil) y;generalize P:({Km (λ_ _ _ _ _ _=>False) X.prog X.w X.K X.mg X.base [x] qn scope q (.ref c') A outer s H (λ_ _ _=>False) with xe:=λ_ _=>False}:Cx)=Y;have I:Inv Y [] (start [x] [v]) H s1:=by
    subst P;exact⟨⟨c.ok.mod, c.ok.kind, c.ok.glob, c.ok.blt, c.ok.above, c.ok.inj, c.ok.has, c.ok.cab, c.ok.hd, c.ok.frames, c.ok.stk, c.ok.exf, c.ok.bs, c.ok.bsz, c.ok.noex, c.ok.exfs, c.ok.funs, c.ok.frf⟩, c.os, c.bare, c.base, c.loc, c.cell, c.free, c.freeC, c.pin, c.hok, c.len⟩
  have F:i3 Y (gw qn scope s.heap.objs.size q (.ref c')) outer s.heap.objs.size:=by rw[←P];exact⟨rfl, rfl, rfl⟩
  have n:=T.deeper (gw qn scope s.heap.objs.size q (.ref c'));have C2:Ck D n6 (xT Γ x G) Y k0:=by
    subst P;have N:∀y∈G, cE D X.prog X.w X.K X.mg X.base k0 y (Γ.gl y)/\(y==("__debug__":aG))=aD:=λy j=>by
      have h:=f_.mp hG y j;simp only[cH] at h;have q:=C.glU y (by simpa using h.1);exact⟨cE.lvl h.2 q.1, q.2⟩
    exact { hK := C.hK, hN := rfl, nd := h4, vis := fun y j => .inl (l y j), dbg := fun y j => ⟨beq_eq_false_iff_ne.mpr (Z y j).1.1, beq_eq_false_iff_ne.mpr (Z y j).1.2⟩,
            dbG:=λy j=>(N y j).2, glb:=λy j=>(h8 y j).2, glo:=λy j=>(N y j).1, glU:=N,
            cel:=λy j=>absurd j (by simp), isi:=C.isi, fld:=C.fld, xcx:=C.xcx, ocx:=C.ocx, clv:=C.clv, clm:=λ_=>rfl, rom:=λ_=>n, rmh:=⟨n.dp, n.un⟩, xe:=(λe s p=>by obtain⟨_, _, _, _, _, _, _, _, _, _, _, _, _, z⟩:=p;exact z), frm:=⟨_, _, _, F.stk, F.f0, F.fe⟩, lam:=c6.no rfl, kfz:=(λh=>by cases h)}
  have sr:bA D φ α H [aA t] (start [x] [v]):=⟨rfl, λi t' e=>by
    cases i with
    |zero=>
      have:t=t':=by simpa using e
      subst this;exact⟨v, rfl, d⟩
    |succ i=>simp at e⟩
  have B:=hE Y n6 k0 C2 [] s1 _ H Q I ⟨φ, α, [aA t], μ, sr, mr, _, _, p, λa μ' e M H' st m v' dv=>V a μ' e M H' v' st m dv, λ_ _ _ z=>z.elim⟩;have XA:Y.A=A.deeper (gw qn scope s.heap.objs.size q (.ref c')):=by rw[←P];rfl
  have Xp:Y.prog=X.prog/\Y.w=X.w/\Y.env=gw qn scope s.heap.objs.size q (.ref c')/\(∀e s, Y.xe e s->False)/\Y.fs=fv outer/\Y.H₀=H/\Y.s₀=s/\Y.ex=[]:=by
    subst P;exact⟨rfl, rfl, rfl, λ_ _ z=>z, rfl, rfl, rfl, rfl⟩
  obtain⟨x1, x2, x3, x4, x5, x6, x7, x8⟩:=Xp;rw[XA, x1, x2, x3] at B;refine eI B (λw s' hs=>?_) λe s' z=>(x4 e s' z).elim;obtain⟨v', H', J, rv, q'⟩:=hs;have b:=J.base;have o:=J.os;have hk:=J.hok;rw[x5, x6, x7, x8] at b;rw[x7] at o;rw[x1, x2] at hk;exact⟨v', H', o, J.bare, b, hk, rv, q'⟩
end
section
variable {prog:Program}{w:World}{A:Around}{E:aC->Shared->Prop}{s:Shared}{a:aF}{vs:List aC}{kz:List Int}{P:PySem.Fin->Shared->Prop}{J:Shared->Prop}{f:aC}
structure Keeps(J:Shared->Prop)(a kS:aF):Prop where
 set:∀s' b h' tk,J s'->(b=a\/b=kS)->f9 b s'.heap h'->J {s' with heap:=h',toks:=tk}
 push:∀s' o,J s'->J {s' with heap:=s'.heap.push o}
theorem Xk {st:SortSt}(r:Keeps J a j) (y:J s) (v:s.heap.get? j=aA (bN "list" keys e)) (x:s.heap.get? a=aA (bN "list" #[] C)) (k:j≠a)
  (hk:dZ keys.toList kz) (q:kz.length=vs.length) (z:vs.length<64) (p:(gT st).Perm (keys.zip vs.toArray)) (hs:SortedTo (gT st) (gT st).size) (l:failedOf st=aE)
  (h:∀u out c,J u->u.heap.get? a=aA (bN "list" out c)->KskOut aD kz vs out.toList->P (.done (.ret .none)) u) :
  wpAny (aQ prog w) A (ksk_tail a aD C (.ref j) st) P E s:=by
 have g:keys.size=vs.length:=by
  have B:=hk.length;rw[mJ] at B;lia
 have f:(gT st).size=vs.length:=by rw[p.size_eq,CN,g,dA,sw]
 have i:((gT st).map (·.2)).size=vs.length:=by rw[Array.size_map];exact f
 have o:=iB s.heap j (cK λ_=>(#[]:Array aC));have d:=(o.2 a k.symm).trans x;have t:=iB (s.heap.update j (cK λ_=>(#[]:Array aC))) a (cK λ_=>(gT st).map (·.2));obtain⟨n,m⟩:∃n,((s.heap.update j (cK λ_=>(#[]:Array aC))).update a (cK λ_=>(gT st).map (·.2))).get? a=aA (bN "list" ((gT st).map (·.2)) n):=⟨_,lw d λ_=>(gT st).map (·.2)⟩;unfold ksk_tail;dsimp only;refine wpAny_bind (mB v rfl ?_ (by rw[g,fR];lia) (fQ _));refine wpAny_bind (iL ?_);refine wpAny_bind (oH d rfl ?_);refine wpAny_bind (mB d rfl ?_ (fQ _) (cT (iN i) (by rw[fR];lia)));rw[l];simp only[bne_self_eq_false,mI,if_false];have F:=r.set s j _ s.toks y (.inr rfl) o;have D:=r.set _ a _ s.toks F (.inl rfl) t;refine wpAny_pure (h _ _ n D m ?_);have:=ksk_out (b:=aD) hk p hs;simpa using this
theorem Nj (t:Keeps J a B) (r:J s) (o:s.heap.get? B=aA (bN "list" keys e)) (p:s.heap.get? a=aA (bN "list" #[] D)) (m:B≠a)
  (hk:dZ keys.toList kz) (d:kz.length=vs.length) (g:vs.length<64)
  (h:∀u out c,J u->u.heap.get? a=aA (bN "list" out c)->KskOut aD kz vs out.toList->P (.done (.ret .none)) u) :
  wpAny (aQ prog w) A (ksk_end a aD vs.toArray D (.ref B) keys) P E s:=by
 have l:keys.size=vs.length:=by
  have C:=hk.length;rw[mJ] at C;lia
 have f:(keys.zip vs.toArray).size=vs.length:=by rw[CN,l,dA,sw]
 unfold ksk_end;simp only[mI,if_false];by_cases k:vs.toArray.size<2
 ·rw[if_pos k,if_pos k];refine wpAny_bind (wpAny_pure ?_);rw[Cs];refine wpAny_bind (wpAny_pure ?_);refine Xk (st:=B5 general' (keys.zip vs.toArray) #[] 7 aE) t r o p m hk d g (Cr _) ?_ rfl h;intro i j y x;have n:j<(keys.zip vs.toArray).size:=x;rw[f] at n;rw[dA] at k;have:i=j:=by lia
  subst this;exact dB _
 ·rw[if_neg k,if_neg k];rw[dA] at k;rw[ksk_kind hk (by rw[l];lia)];refine wpAny_bind (wpAny_pure ?_)
  refine wpAny_bind (eI (wpS_sortRuns (a₀:=keys.zip vs.toArray) (st:=B5 oneType' (keys.zip vs.toArray) #[] 7 aE)
   (Q:=λ_ b=>(gT b).Perm (keys.zip vs.toArray)/\failedOf b=aE/\SortedTo (gT b) (keys.zip vs.toArray).size)
   (ksk_intKeys hk) ⟨Cr _,rfl,rfl,rfl⟩ (by rw[f];lia) (by rw[f];exact g) λb H G F=>⟨H,G,F⟩) ?_ λ_ _ e=>e)
  rintro⟨⟨⟩,b⟩ u ⟨rfl,q,z,v⟩;exact Xk t r o p m hk d g q (by rw[q.size_eq];exact v) z h
theorem Pm (y:Keeps J a (s.heap.objs.size+1)) (Y:J s) (ho:s.heap.get? a=aA (bN "list" vs.toArray n)) (C:kz.length=vs.length) (O:vs.length<64)
  (turn:∀(i:Nat) (v:aC) (k:Int) (b:a_) (R:Array aC) (ca ck:Nat),vs[i]?=aA v->kz[i]?=aA k->J b->b.heap.get? a=aA (bN "list" #[] ca)->b.heap.get? (s.heap.objs.size+1)=aA (bN "list" R ck)->
   wpAny (aQ prog w) A (call f [v]) (λr s2=>(∃u,r=.int k u)/\J s2/\s2.heap.get? a=aA (bN "list" #[] ca)/\s2.heap.get? (s.heap.objs.size+1)=aA (bN "list" R ck)) (λ_ _=>False) b)
  (h:∀b out c,J b->b.heap.get? a=aA (bN "list" out c)->KskOut aD kz vs out.toList->P (.done (.ret .none)) b) :
  wpAny (aQ prog w) A (ksk_tree a f aD) P E s:=by
 have X:a<s.heap.objs.size:=cG ho;have G:=iB s.heap a (cK λ_=>(#[]:Array aC));obtain⟨t,B⟩:∃t,(s.heap.update a (cK λ_=>(#[]:Array aC))).get? a=aA (bN "list" #[] t):=⟨_,lw ho λ_=>#[]⟩;unfold ksk_tree;refine wpAny_bind (sv ho rfl ?_);refine wpAny_bind (mB ho rfl ?_ (by rw[dA,fR];lia) (fQ _));refine wpAny_bind (oH B rfl ?_);refine wpAny_bind (wpAny_newTuple ?_ (by show vs.length<=_;rw[fR];lia));refine wpAny_bind (mC ?_ (fQ _));refine wpAny_holding ?_;have U:(s.heap.update a (cK λ_=>(#[]:Array aC))).objs.size=s.heap.objs.size:=sI ..;have J1:=y.set s a _ s.toks Y (.inl rfl) G;have J2:=y.push _ (bN "tuple" vs.toArray 0) J1;have l:((s.heap.update a (cK λ_=>(#[]:Array aC))).push (bN "tuple" vs.toArray 0)).objs.size=s.heap.objs.size+1:=by rw[gX,U]
 have J3:=y.push _ (bN "list" #[] 0) J2;have g3:(((s.heap.update a (cK λ_=>(#[]:Array aC))).push (bN "tuple" vs.toArray 0)).push (bN "list" #[] 0)).get? a=aA (bN "list" #[] t):=bZ _ (bZ _ B);have T:(((s.heap.update a (cK λ_=>(#[]:Array aC))).push (bN "tuple" vs.toArray 0)).push (bN "list" #[] 0)).get? ((s.heap.update a (cK λ_=>(#[]:Array aC))).push (bN "tuple" vs.toArray 0)).objs.size=aA (bN "list" #[] 0):=eF _ rfl;have m:((s.heap.update a (cK λ_=>(#[]:Array aC))).push (bN "tuple" vs.toArray 0)).objs.size≠a:=by rw[l];exact iA (nl X)
 generalize V:((s.heap.update a (cK λ_=>(#[]:Array aC))).push (bN "tuple" vs.toArray 0)).objs.size=p at T m l;rw[←l] at y turn;have F:wpAny (aQ prog w) A (ksk_rest a f aD vs.toArray t (.ref p)) P E {s with heap:=((s.heap.update a (cK λ_=>(#[]:Array aC))).push (bN "tuple" vs.toArray 0)).push (bN "list" #[] 0)}:=by
  unfold ksk_rest;refine wpAny_bind (mu ?_)
  first
   |rw[List.forIn_toArray]
   |(rw[←DB];simp only[List.toList_toArray])
   |rw[←DB]
  refine wpAny_bind (ksk_fold (λi b=>∃d e,J b/\b.heap.get? a=aA (bN "list" #[] t)/\b.heap.get? p=aA (bN "list" d e)/\dZ d.toList (kz.take i)) vs 0 _ ⟨#[],0,J3,g3,T,by simpa using IntsAre.nil⟩ ?step ?done);case step=>
   rintro j x b S ⟨d,e,o,K,H,q⟩
   simp only[Nat.zero_add] at q ⊢
   have hj:j<vs.length:=(bQ.mp S).1
   obtain⟨k,D⟩:∃k,kz[j]?=aA k:=⟨_,eS (by lia)⟩
   have hz:d.size<=vs.length:=by
    have h1:=q.length;rw[mJ,mz] at h1;lia
   refine wpAny_bind (oP (eI (turn j x k b d t e S D o K H) (λv g W=>?_) λ_ _ Z=>Z.elim))
   obtain⟨⟨u,rfl⟩,N,I,z⟩:=W
   have G:=iB g.heap p (cK (·.push (.int k u)))
   obtain⟨Q,M⟩:∃Q,(g.heap.update p (cK (·.push (.int k u)))).get? p=aA (bN "list" (d.push (.int k u)) Q):=⟨_,lw z (·.push (.int k u))⟩
   have ek:kz.take (j+1)=kz.take j++[k]:=by rw[gD,D];simp
   have ea:(d.push (lN k u)).toList=d.toList++[lN k u]:=by simp
   refine wpAny_bind (mB z rfl ?_ (by rw[fR];lia) (cT (iN (Array.size_push ..)) (by rw[fR];lia)))
   exact wpAny_pure ⟨rfl,d.push (.int k u),Q,y.set g p _ g.toks N (.inr rfl) G,(G.2 a m.symm).trans I,M,by rw[ea,ek];exact ksk_snoc q⟩
  case done=>
   rintro b ⟨d,e,o,K,H,q⟩
   have L:dZ d.toList kz:=by
    have e3:kz.take (0+vs.length)=kz:=iT (by lia);rw[e3] at q;exact q
   refine wpAny_bind (sv H rfl ?_)
   exact Nj y o H K m L C O h
 exact F
end
theorem Vt{α β:Type}{f:α->β}{ps m:List β}(h:ps.Perm m):∀{l:List α},m=l.map f->∃d:List α,d.Perm l/\ps=d.map f:=by
 induction h with
 |nil=>intro l e;cases l with
  |nil=>exact⟨[],.refl _,rfl⟩
  |cons a r=>cases e
 |cons x p q=>intro l e;cases l with
  |nil=>cases e
  |cons a r=>
   rw[dC] at e
   injection e with n c
   obtain⟨d,k,j⟩:=q c
   exact⟨a::d,k.cons a,by rw[n,j];rfl⟩
 |swap x y l'=>intro l e;cases l with
  |nil=>cases e
  |cons a r=>cases r with
   |nil=>simp at e
   |cons b r=>
    rw[dC,dC] at e
    injection e with n c
    injection c with c u
    exact⟨b::a::r,.swap a b r,by rw[n,c,u];rfl⟩
 |trans p1 v i g=>
  intro l e;obtain⟨d,k,j⟩:=g e;obtain⟨o,t,s⟩:=i j;exact⟨o,t.trans k,s⟩
noncomputable def fH (g:De)(μ:aK):List T->List Int->Prop
 |[],[]=>True
 |t::c,z::b=>g [aA t] μ (λd a=>d=.int z/\a=μ) (λ_ _ _=>False)/\fH g μ c b
 |_,_=>False
theorem fH.len:∀{ts:List T}{kz:List Int},fH g μ ts kz->kz.length=ts.length
 |[],[],_=>rfl
 |_::_,_::_,h=>by simp[fH.len h.2]
 |[],_::_,h=>h.elim
 |_::_,[],h=>h.elim
theorem fH.at{μ:aK}:∀{ts:List T}{kz:List Int}{i:Nat}{t:T}{z:Int},fH g μ ts kz->ts[i]?=aA t->kz[i]?=aA z->g [aA t] μ (λt' j=>t'=.int z/\j=μ) (λ_ _ _=>False)
 |a::ts,b::zs,0,t,z,h,c,d=>by
  have c:aA a=aA t:=by simpa using c
  have d:aA b=aA z:=by simpa using d
  cases c;cases d;exact h.1
 |a::ts,b::zs,i+1,t,z,h,c,d=>fH.at (ts:=ts) (kz:=zs) (i:=i) h.2 (by simpa using c) (by simpa using d)
 |[],[],i,t,z,h,c,d=>by simp at c
 |[],_::_,_,_,_,h,_,_=>h.elim
 |_::_,[],_,_,_,h,_,_=>h.elim
noncomputable abbrev KO(j:Nat)(g:De)(xs:List T)(μ:aK):RE T:=λK _=>xs.length<64/\∃b,fH g μ xs b/\
 ∀a:List (Int×T),a.Perm (b.zip xs)->a.Pairwise (λp q=>p.1<=q.1)->K (.lst (a.map (·.2))) μ
noncomputable abbrev UW(j:Nat)(g:De)(t:T)(μ:aK):RE T:=λK Z=>(∃i:Nat,μ[i]?=aA (MO.tab j))/\(match t with
 |.lst a=>KO j g a μ
 |.mut i=>λK Z=>∃a,μ[i]?=aA (MO.lst a)/\KO j g a μ K Z
 |_=>.st) K Z
noncomputable abbrev X0(j:Nat)(g f:De):De:=λa b=>(f a b).bind (UW j g)
section
variable {X:Cx}{D:DP}{W:XW}{Γ:Cn}{k n:Nat}{pins:List (aF×bD)}{s:Shared}{σ:St}{H:Hp}{φ α:List aF}{τ:Sl}{μ:aK}
theorem SG(I:Inv X pins σ H s)(h0:H a=aE)(h1:X.s₀.heap.objs.size<=a)(h2:a≠X.env.locals)(j:∀x c,X.env.cells.lookup x=aA c->c≠a)(i:∀p∈X.pn++pins,p.1≠a)
  (new:bB X.prog X.w (upd H a o) s.heap a o):Inv X pins σ (upd H a o) s:=by
 have d:∀{b u},H b=aA u->b≠a:=λ{b u} e z=>by rw[z,h0] at e;cases e
 refine I.step (h':=s.heap) (g':=s.gens) (t':=s.toks) (d':=s.drawn) (ch:=[a]) (λb f=>?_) (λb o _ _ _ e n=>e) (λb o _ _ _ e n=>⟨o.slots,e⟩) (λb o f e n=>?_) (λb o _ e=>⟨o,e⟩) (λb g e=>?_) (λb o u e=>?_) (λb k e=>?_) (λm h=>h) (λb u e=>?_) I.bare
 ·rw[bV.mp f];exact⟨.inr h1,h2,j,i⟩
 ·rw[z9 (λz=>f (by rw[z];simp))];exact n
 ·rw[z9 (d e)];exact e
 ·rw[z9 (d e)];exact e
 ·exact⟨#[],by rw[z9 (d e),e];simp⟩
 ·by_cases z:b=a
  ·subst z;rw[z5] at e;cases e;exact new
  ·rw[z9 z] at e;refine (I.hok b u e).stay (λc v l q=>q) (λc q=>?_) λc g q=>?_
   ·rw[z9 (d q)];exact q
   ·rw[z9 (d q)];exact q
theorem Jb{q F ad:aF}{x:aG}{G:List aG}{params:Arguments}{body:aI}{scope:Scope}{qn:aG}{pm M:aC}{g:De}{vs:List V}{Q:VK}{j:Nat}
  (C:Ck D W Γ X k) (hk:2<=k) (hc:Γ.calm=aB) (hG:G.all (λy=>Γ.U.contains y&&nT (Γ.gl y))=aB) (hs:xQ (xT Γ x G) [x] scope=aB) (hE:∀Y W k,Ck D W (xT Γ x G) Y k->PE Y body (aX D W g)) (hbind:∀(s:a_) (u:aC),jp s (sF "<lambda>" qn params body scope [] pm (.ref F) M) ⟨[u],[]⟩ [(x,u)])
  (I:Inv X ((q,ly "<lambda>" qn params body scope [] pm F M)::pins) σ H s) (mr:aL D φ α H μ) (hca:F∉α) (hcc:H F=aA (.ext (qC F qn))) (Z:Rd H ad (.lst vs)) (l:aN D φ α H xs vs) (p:aJ D W φ α H σ (RV D φ Q) (KO j g xs μ)) :
  wpAny (aQ X.prog X.w) X.A (call (.builtin "sorted") [.ref ad] [(gA "key",.ref q)]) (EP X pins σ Q) X.xe s:=by
 obtain⟨f,rv,pl,hz⟩:=I.list (.inl Z);obtain⟨K0,Z0,⟨h64,kz,hkr,hK⟩,k1,k2⟩:=p;have hlen:f.length<64:=by rw[←rv.length,←l.length];exact h64
 have hkl:kz.length=f.length:=by rw[hkr.len,←rv.length,←l.length]
 refine D6 kind_sorted plain_sorted entry_sorted (ksk_s1 _ _) ?_;unfold lJ.«sorted»;refine wpAny_bind (m:=checkCount "sorted" 1 1 _) (wpAny_pure ?_);refine wpAny_bind (collect_list pl.isList ?_ (by rw[fR];lia));refine wpAny_bind (mC ?_ (by rw[fR];lia));have S:((s.heap.push (bN "list" #[] 0)).update s.heap.objs.size (cK (·++f.toArray))).objs.size=s.heap.objs.size+1:=by
  rw[sI,gX]
 have hoL:(((s.heap.push (bN "list" #[] 0)).update s.heap.objs.size (cK (·++f.toArray))).push (bN "list" f.toArray 0)).get? (s.heap.objs.size+1)=aA (bN "list" f.toArray 0):=by
  rw[←S];exact eF _ rfl
 have keep:∀b o,s.heap.get? b=aA o->(((s.heap.push (bN "list" #[] 0)).update s.heap.objs.size (cK (·++f.toArray))).push (bN "list" f.toArray 0)).get? b=aA o:=λb o q=>by
  have hlt:b<s.heap.objs.size:=cG q;rw[Dr _ _ _ (by rw[S];exact d6 (nl hlt)),tz _ _ _ _ (d6 hlt),Dr _ _ _ (d6 hlt)];exact q
 show wpAny _ _ _ _ _ {s with heap:=((s.heap.push (bN "list" #[] 0)).update s.heap.objs.size (cK (·++f.toArray))).push (bN "list" f.toArray 0)};rw[S];have hs1:((((s.heap.push (bN "list" #[] 0)).update s.heap.objs.size (cK (·++f.toArray))).push (bN "list" f.toArray 0))).objs.size=s.heap.objs.size+2:=by rw[gX,S]
 have I1:Inv X ((q,ly "<lambda>" qn params body scope [] pm F M)::pins) σ H {s with heap:=((s.heap.push (bN "list" #[] 0)).update s.heap.objs.size (cK (·++f.toArray))).push (bN "list" f.toArray 0)}:=I.kept (t':=s.toks) keep;generalize ((s.heap.push (bN "list" #[] 0)).update s.heap.objs.size (cK (·++f.toArray))).push (bN "list" f.toArray 0)=h1 at I1 hoL hs1 keep;generalize hca':s.heap.objs.size+1=a at hoL;have new:∀b,s.heap.objs.size<=b->H b=aE/\X.s₀.heap.objs.size<=b/\b≠X.env.locals/\(∀x c,X.env.cells.lookup x=aA c->c≠b)/\(∀p∈X.pn++pins,p.1≠b)/\b∉X.fs/\b≠q:=λb hb=>by
  have lt:∀{d o},s.heap.get? d=aA o->d≠b:=λ{d o} e z=>absurd (dL (cG e) hb) (by rw[z];exact iz _);refine⟨I.hok.fresh hb,cT I.sz hb,iA (dL I.lt hb),λx c e=>?_,λp hp=>?_,I.nofs hb,?_⟩
  ·obtain⟨v,o,ho,_⟩:=I.cell x c e;exact lt ho
  ·exact lt ((qT I).pin p hp).1
  ·exact (lt (I.pin _ (dU _ eG)).1).symm
 have na:=new a (by lia);have nk:=new (h1.objs.size+1) (by lia);let J:a_->Prop:=λK=>∃E,Inv X ((q,ly "<lambda>" qn params body scope [] pm F M)::pins) σ E K/\aO α H α E/\aL D φ α E μ/\E F=aA (.ext (qC F qn))/\E a=aE/\E (h1.objs.size+1)=aE;have KJ:Keeps J a (h1.objs.size+1):=by
  refine⟨λK b h' tk hj hb sb=>?_,λK o hj=>?_⟩
  ·obtain⟨E,N,J2,P,J4,O,J6⟩:=hj;have hb0:E b=aE:=by rcases hb with rfl|rfl<;>assumption
   have nb:=by
    have:=hb;exact show X.s₀.heap.objs.size<=b/\b≠X.env.locals/\(∀x c,X.env.cells.lookup x=aA c->c≠b)/\(∀p∈X.pn++pins,p.1≠b)/\b∉X.fs/\b≠q from by rcases this with rfl|rfl;exact na.2;exact nk.2
   have ex:∀c o,c≠b->K.heap.get? c=aA o->h'.get? c=aA o:=λc o n e=>(sb.2 c n).trans e;have neb:∀{c u},E c=aA u->c≠b:=λ{c u} e z=>by rw[z,hb0] at e;cases e
   refine⟨E,N.step (h':=h') (g':=K.gens) (t':=tk) (d':=K.drawn) (ch:=[b]) (λc hc=>?_) (λc o _ _ n e _=>ex c o (λz=>n (by rw[z];simp)) e) (λc o _ _ n e _=>⟨o.slots,ex c o (λz=>n (by rw[z];simp)) e⟩) (λc o _ _ n=>n) (λc o n e=>⟨o,ex c o (λz=>n (by rw[z];simp)) e⟩) (λc xs e=>e) (λc o u e=>e) (λc t e=>⟨#[],by rw[e];simp⟩) (λm hm=>?_) (λc u e=>?_) N.bare,J2,P,J4,O,J6⟩
   ·rw[bV.mp hc];refine⟨.inr nb.1,nb.2.1,nb.2.2.1,λp hp=>?_⟩;rcases cA.mp hp with z|z
    ·exact nb.2.2.2.1 p (dM _ z)
    ·rcases cO.mp z with rfl|z
     ·exact nb.2.2.2.2.2.symm
     ·exact nb.2.2.2.1 p (dU _ z)
   ·exact hm.sameBut sb nb.2.1.symm
   ·refine (N.hok c u e).stay (λd v hd q=>ex d v (λz=>?_) q) (λd q=>q) λd xs q=>q;rcases hd with hd|hd
    ·exact neb e (hd▸z)
    ·exact neb hd z
  ·obtain⟨E,N,J2,P,J4,O,J6⟩:=hj;exact⟨E,N.kept (t':=K.toks) λb o e=>bZ _ e,J2,P,J4,O,J6⟩
 refine wpAny_bind (wpAny_holding (Dj slot_list_sort ⟨_,hoL,rfl⟩ Cq ?body (ksk_l1 _ _)));case body=>
  show wpAny (aQ X.prog X.w) X.A.in1.in1 (lJ.«list.sort» ⟨[.ref a],[(gA "key",.ref q)]⟩) _ _ _
  rw[ksk_t1]
  refine Pm (J:=J) (kz:=kz) (vs:=f) (s:={s with heap:=h1}) KJ ⟨H,I1,aO.refl _ _,mr,hcc,na.1,nk.1⟩ hoL hkl hlen (λi v z K ka ca ck e1 e2 hj ga gk=>?_) λK out c hj ga hout=>⟨_,rfl,wpAny_pure ⟨_,rfl,?_⟩⟩
  ·obtain⟨E,N,J2,P,J4,O,J6⟩:=hj
   have J1a:=xH (xH N ga O na.2.2.1 na.2.2.2.2.2.1 (λv z=>by cases z)) gk J6 nk.2.2.1 nk.2.2.2.2.2.1 (λv z=>by cases z)
   have hi:i<f.length:=(bQ.mp e1).1
   obtain⟨vv,hvv⟩:∃vv,vs[i]?=aA vv:=⟨_,eS (by rw[rv.length];exact hi)⟩
   obtain⟨tt,htt⟩:∃tt,xs[i]?=aA tt:=⟨_,eS (by rw[l.length,rv.length];exact hi)⟩
   have rr:RelV vv v:=by
    obtain⟨u0,e0,r0⟩:=rv.get hvv;rw[e1] at e0;cases e0;exact r0
   obtain⟨vv',hv',dd⟩:=(l.step J2).get htt
   rw[hvv] at hv';cases hv'
   have hrec:K.heap.CodeRec (.ref F) qn:=(N.hok F _ J4).1
   have ho:K.heap.get? q=aA (ly "<lambda>" qn params body scope [] pm F M):=(N.pin _ (dU _ eG)).1
   have rm:=C.rom hc
   have hr:cB (0+1) X.A.in1.in1:=⟨rm.hd,by have:=rm.dp;show X.A.depth+3*(0+1)+5<_;lia,by have:=rm.un;show X.A.units+1+1+16*(0+1)+200<_;lia⟩
   refine lM (le (RH (k0:=0) C hc hG hs hE hbind hr J1a.env0.in1.in1 ho hrec rr dd P (Q:=λv' H2=>v'=.int z/\aO α E α H2/\aL D φ α H2 μ) (hkr.at htt e2) ?_) λr s2 Z=>?_)
   ·rintro t' μ' ⟨rfl,rfl⟩ α' H2 v' st m d
    have ea:α'=α:=by
     obtain⟨⟨more,e,_⟩,_,_⟩:=id st;have h1:=m.len;have h2:=P.len;rw[e,gE,h2] at h1;have:more=[]:=List.eq_nil_of_length_eq_zero (by lia);rw[e,this,gC]
    subst ea
    exact⟨d,st,m⟩
   ·cases r with
    |error e=>exact Z.elim
    |ok fl=>
     cases fl with
     |ret u=>
      obtain⟨v',H2,I2,r2,rfl,st2,m2⟩:=J1a.after Z;obtain⟨t2,rfl⟩:=r2;have p1:=I2.pin _ (dU _ eG);have p2:=(qT I2).pin _ (dU _ eG);exact⟨⟨t2,rfl⟩,⟨H2,qT (qT I2),J2.trans st2,m2,st2.keep F _ hca J4,p2.2.1,p1.2.1⟩,p2.1,p1.1⟩
     |next=>exact eT Z
     |brk=>exact eT Z
     |cont=>exact eT Z
  ·obtain⟨E,N,J2,P,J4,O,J6⟩:=hj
   obtain⟨ps,hp,ho,hpw⟩:=hout
   have lz:∀{A B:Type}(a:List A) (b:List B),a.length=b.length->(a.zip b).length=b.length:=λa b h=>by rw[o9,h,sw]
   have R:vs.length=f.length:=rv.length
   have hxl:xs.length=f.length:=by rw[l.length,R]
   have em:kz.zip f=(kz.zip (f.zip (vs.zip xs))).map (λq=>(q.1,q.2.1)):=by
    refine CL (by simp[hkl,R,hxl]) λi h1 h2=>by simp
   obtain⟨t,hqp,rfl⟩:=Vt hp em
   have mem:∀q∈t,RelV q.2.2.1 q.2.1/\aZ D φ α E q.2.2.2 q.2.2.1:=λq Z=>by
    have:=hqp.mem_iff.mp Z;obtain⟨i,hi⟩:=lq.mp this;obtain⟨L,rfl⟩:=bQ.mp hi;simp only[o9,Nat.lt_min] at L;have d:=(l.step J2).get (i:=i) (eS L.2.2.2);obtain⟨v',e',d⟩:=d;rw[eS L.2.2.1] at e';cases e';simp only[CJ];obtain⟨u0,e0,r0⟩:=rv.get (eS L.2.2.1);rw[eS L.2.1] at e0;cases e0;exact⟨r0,d⟩
   have hvs:∀(t:List (Int×aC×V×T)),(∀q∈t,RelV q.2.2.1 q.2.1/\aZ D φ α E q.2.2.2 q.2.2.1)->aV (t.map (·.2.2.1)) (t.map (·.2.1))/\aN D φ α E (t.map (·.2.2.2)) (t.map (·.2.2.1)):=by
    intro t;induction t with
    |nil=>exact λ_=>⟨.nil,rfl⟩
    |cons q r ih=>
     intro h;obtain⟨a1,a2⟩:=ih λq' hq'=>h q' (dN _ hq');obtain⟨b1,b2⟩:=h q eG;exact⟨.cons b1 a1,_,_,rfl,b2,a2⟩
   obtain⟨w1,w2⟩:=hvs t mem
   have hol:out.toList=t.map (·.2.1):=by rw[ho,fS];rfl
   have hql:t.length=f.length:=by rw[hqp.length_eq];simp[hkl,R,hxl]
   have J7:Inv X pins σ (upd E a (.lst (t.map (·.2.2.1)))) K:=SG (qT N) O na.2.1 na.2.2.1 na.2.2.2.1 na.2.2.2.2.1 (show bB X.prog X.w _ _ _ (.lst (t.map (·.2.2.1))) from ⟨by rw[bP,hql,fR];lia,t.map (·.2.1),c,w1,by rw[←hol,DJ];exact ga⟩)
   refine⟨.ref a,_,J7,rfl,?_⟩
   have sm:=za (o:=HO.lst (t.map (·.2.2.1))) O
   have e2:(t.map λq=>(q.1,q.2.2.2)).map (·.2)=t.map (·.2.2.2):=by rw[fS];rfl
   have e3:kz.zip xs=(kz.zip (f.zip (vs.zip xs))).map (λq=>(q.1,q.2.2.2)):=by
    refine CL (by simp[hkl,R,hxl]) λi h1 h2=>by simp
   have kk:=hK (t.map λq=>(q.1,q.2.2.2)) (by rw[e3];exact hqp.map _) (by
    rw[lj] at hpw ⊢;exact hpw.imp λh=>by simpa using h)
   rw[e2] at kk
   refine k1 _ _ kk α _ (J2.trans (aO.new sm)) (P.new sm) _ ⟨_,_,rfl,zm P O,zo P O,.inl z5,w2.step (aO.new sm)⟩
theorem ij(a:fd.params=⟨[],[⟨y,aE,pa⟩],aE,[],[],aE,[]⟩)(hd:fd.defaults=.none):lc fd ⟨[u],[]⟩=pure [(y,u)]:=by
 have e:iy y [(y,u)]=aA u:=by simp[iy]
 unfold lc;rw[a,hd];simp[e,iK];rfl
theorem R9(C:Ck D W Γ X k)(hc:Γ.calm=aB){body:aI} 
  (T:("sorted":aG)∈Γ.G) (hg0:Γ.gl "sorted"=.none) (E:aP a=aB) (ha:PE X a (aX D W f)) (hlm:Γ.lam=aA (j,w)) (hnm:Γ.lnm="<lambda>") (Z:pl∈w) (hG:G.all (λy=>Γ.U.contains y&&nT (Γ.gl y))=aB) (hs:xQ (xT Γ y G) [y] sc=aB) (hE:∀Y W k,Ck D W (xT Γ y G) Y k->PE Y body (aX D W g)) :
  PE X (.Call (.Name "sorted" p0) [a] [⟨aA "key",.Lambda ⟨[],[⟨y,aE,pa⟩],aE,[],[],aE,[]⟩ body sc pl,pk⟩] pos) (aX D W (X0 j g f)):=by
 obtain⟨hk,c,P,F,hC,hB,hD⟩:=C.lam j w hlm;rw[hnm] at hD;have hm:=C.glo _ T;rw[hg0] at hm;have hfr:∀x∈sc.names,x.2≠.free:=by
  have M:=hs;simp only[xQ,cH,f_,bne_iff_ne,ne_eq] at M;exact M.1.1.1.1.2
 rintro J s σ H Q I ⟨A,α,τ,μ,sr,mr,p⟩;refine gY (qR I (C.glb _ T) hm (show gB "sorted"=aA (.builtin "sorted") by decide +kernel) ?_ (by decide) (C.dbG _ T));refine rP (aY (zD ha qp (z4 E) pos J s σ H (λvs R=>∃v t B h,vs=[v]/\aO α H h R/\aL D A h R B/\aZ D A h R t v/\aJ D W A h R σ (RV D A Q) (UW j g t B)) I ⟨A,α,τ,μ,sr,mr,p.bind.mono λt b e o st m q v d=>⟨v,t,b,e,rfl,st,m,d,q⟩⟩) ?_) (by rw[z4 E];rfl) (by rw[z4 E];rfl) rfl rfl;rintro us s1 ⟨vs,R,I1,rv,v,t,B,h,rfl,st,m,d,K0,Z0,⟨⟨i,hi⟩,q⟩,k1,k2⟩;obtain⟨u,rfl,r1⟩:=vals1 rv;refine kws_cons (CH rfl (JE (line:=pl.line) I1 m hi hD Z F hC hB (closureFor_none hfr) λq0 c' ctv H2 s2 I2 r S O N _=>kws_nil ?_));have L:∀t b,K0 t b->∀e o,aO h H2 e o->aL D A e o b->RV D A Q t b e o:=λt b z e o n K=>k1 t b z e o (r.trans n) K;show wpAny _ _ (call (.builtin "sorted") [u] [(gA "key",.ref q0)]) _ _ _;split at q
 ·obtain⟨ad,xs,rfl,n1,n2,V,l⟩:=d.step r;cases r1;exact Jb (j:=j) C hk hc hG hs hE (λs u=>.of_eq (ij rfl rfl)) I2 S O N V l ⟨K0,Z0,q,L,λcc fs b z e o CC dd n K=>k2 cc fs b z e o CC dd (r.trans n) K⟩
 ·obtain⟨ts,hj,q⟩:=q;obtain⟨ad,hi2,rfl⟩:=d;cases r1;obtain⟨xs,V,l⟩:=S.ob _ ad _ hi2 hj;exact Jb (j:=j) C hk hc hG hs hE (λs u=>.of_eq (ij rfl rfl)) I2 S O N (.inl V) l ⟨K0,Z0,q,L,λcc fs b z e o CC dd n K=>k2 cc fs b z e o CC dd (r.trans n) K⟩
 ·exact eT q
end
noncomputable def EZ:Arg->Option aG
 |⟨y,aE,_⟩=>aA y
 |_=>aE
noncomputable def Ae:Arguments->Option aG
 |⟨[],[p],aE,[],[],aE,[]⟩=>EZ p
 |_=>aE
theorem Ps(h:Ae a=aA y):∃p,a=⟨[],[⟨y,aE,p⟩],aE,[],[],aE,[]⟩:=by
 unfold Ae at h;split at h
 ·unfold EZ at h;split at h
  ·cases h;exact⟨_,rfl⟩
  ·cases h
 ·cases h
noncomputable def pV:aI->Option (aG×aI×Scope×Pos)
 |.Lambda a body b c=>(Ae a).bind λy=>aA (y,body,b,c)
 |_=>aE
theorem XG(h:pV e=aA q):∃pa,e=.Lambda ⟨[],[⟨q.1,aE,pa⟩],aE,[],[],aE,[]⟩ q.2.1 q.2.2.1 q.2.2.2:=by
 unfold pV at h;split at h
 ·obtain⟨y,b,a⟩:=aS h;cases a;obtain⟨pa,rfl⟩:=Ps b;exact⟨pa,rfl⟩
 ·cases h
noncomputable def UQ:ER:=λr b e=>(nR e).bind λq=>(pV q.v).bind λw=>b.lam.bind λz=>gd (q.x==("sorted":aG)) (gd (q.ky==("key":aG)) (gd ((cL b.N q.x).isNone&&aP q.a) (gd (b.calm&&g_ (b.look "sorted")) (gd ((Z7 w.2.2.1).all (λy=>b.U.contains y&&nT (b.gl y))) (gd (xQ (xT b w.1 (Z7 w.2.2.1)) [w.1] w.2.2.1) (gd (decide (w.2.2.2∈z.2)&&b.lnm==("<lambda>":aG))
      ((r.e b q.a).bind λf=>(r.e (xT b w.1 (Z7 w.2.2.1)) w.2.1).bind λg=>aA (X0 z.1 g f))))))))
theorem U3:cM D UQ:=by
 intro r H X W B k e d C h;obtain⟨q,x,h⟩:=aS h;obtain⟨w,v,h⟩:=aS h;obtain⟨⟨j,a⟩,m,h⟩:=aS h;obtain⟨u,h⟩:=z8 h;obtain⟨t,h⟩:=z8 h;obtain⟨s,h⟩:=z8 h;obtain⟨c,h⟩:=z8 h;obtain⟨p,h⟩:=z8 h;obtain⟨o,h⟩:=z8 h;obtain⟨b,h⟩:=z8 h;obtain⟨f,z,h⟩:=aS h;obtain⟨g,y,h⟩:=aS h;cases h;obtain⟨E,l⟩:=XG v;rw[Wt x,l,qe u,qe t];obtain⟨i,n⟩:=zA (zy c).2;exact R9 C (zy c).1 i n (zy s).2 (H.e C z) m (qe (zy b).2) (of_decide_eq_true (zy b).1) p o λY W k A=>H.e A y
noncomputable abbrev n8(x y:T)(μ:aK):RE T:=match y with
 |.mut i=>(match x with
  |.int z=>λK _=>∃a,μ[i]?=aA (MO.dic a)/\K (.bl (qN (.inl z) a).isSome) μ
  |.str z=>λK _=>∃a,μ[i]?=aA (MO.dic a)/\K (.bl (qN (.inr z) a).isSome) μ
  |_=>.st)
 |_=>Qp .In x y μ
noncomputable abbrev UB(f g:De):De:=λc d=>(f c d).bind λx b=>(g c b).bind λy a=>n8 x y a
noncomputable abbrev ZE(o b f:De):Ds:=λd j=>(f d j).out d λt g=>(o d g).out d λl e=>(b d e).out d λit c=>match l,it with
 |.mut i,.int k=>λE=>(∃h,c[i]?=aA (.lst h)/\(0<=k/\k<h.length/\k<9223372036854775808)/\E.nx d (c.set i (.lst (h.set k.toNat t))))\/(∃a,c[i]?=aA (.dic a)/\a.length<aU/\E.nx d (c.set i (.dic (u7 (.inl k) t a))))
 |.mut i,.str z=>λE=>∃a,c[i]?=aA (.dic a)/\a.length<aU/\E.nx d (c.set i (.dic (u7 (.inr z) t a)))
 |_,_=>.st
section
variable {X:Cx}{D:DP}{W:XW}{Γ:Cn}{k:Nat}{pins:List (aF×bD)}{s:Shared}{σ:St}{H:Hp}{φ α:List aF}{τ:Sl}{μ:aK}{f g:De}{a b:aI}{pos:Pos}
theorem uS:∀{kvs:List (Key×T)}{gs:List (Key×V)},bE D φ α H kvs gs->(yn gs z).isSome=(qN z kvs).isSome
 |[],_,h=>by cases h;rfl
 |p::r,_,h=>by
  obtain⟨v,q,rfl,d,l⟩:=h;unfold qN;by_cases e:p.1=z
  ·rw[if_pos e,kX (p:=(p.1,v)) e];rfl
  ·rw[if_neg e,xV (p:=(p.1,v)) e];exact uS l
theorem FM(I:Inv X pins σ H s)(m:X.A.units+64<cLine)(d:aL D φ α H μ)(b:aZ D φ α H x v)(g:aZ D φ α H y w)(f:RelV v u)(e:RelV w j)
  (p:aJ D W φ α H σ (RV D φ Q) (n8 x y μ)):wpAny (aQ X.prog X.w) X.A (d5 .In u j) (EP X pins σ Q) X.xe s:=by
 have go:∀{i:Nat}{z:Key}{a:List (Key×T)},y=.mut i->v=kV z->μ[i]?=aA (MO.dic a)->aJ D W φ α H σ (RV D φ Q) (.ok (.bl (qN z a).isSome) μ)->wpAny (aQ X.prog X.w) X.A (d5 .In u j) (EP X pins σ Q) X.xe s:=λ{i z a} ey ev c h=>by
  subst ey;subst ev;obtain⟨ad,n,rfl⟩:=g;cases e;obtain⟨q,o,l⟩:=d.ob i ad _ n c;refine IL (by omega) I (fJ.k (k:=z) o) f λt r=>⟨.bl (yn q z).isSome,H,r,rfl,?_⟩;rw[uS l];exact h.here d rfl
 unfold n8 at p;split at p
 ·split at p
  ·obtain⟨a,c,p⟩:=p.ex1;have b:v=_:=b;exact go (z:=.inl _) rfl b c p
  ·obtain⟨a,c,p⟩:=p.ex1;have b:v=_:=b;exact go (z:=.inr _) rfl b c p
  ·exact p.elim
 ·exact Wz I m d b g f e p
theorem MT(C:Ck D W Γ X k)(ho:vx .In b=aB)(B:PE X a (aX D W f))(A:PE X b (aX D W g)):PE X (.Compare a [.In] [b] pos) (aX D W (UB f g)):=by
 rintro i s M H Q I ⟨K,O,L,N,r,z,p⟩;refine sH (aY (sub B I r z p) ?_) (jN ho);rintro u U ⟨v,Y,t,l,n,J,x,o,d,h,F,p1⟩;refine aY (sub A J d h p1) ?_;rintro R T ⟨P,V,S,j,m,G,w,c,q,e,E,y⟩;exact FM G C.unt e (F.step c) E x w y
theorem aM.or{r a:En->Prop}(p:aM D W φ α H E λE=>r E\/a E):aM D W φ α H E r\/aM D W φ α H E a:=by
 obtain⟨E0,q,b⟩:=p;rcases q with q|q
 ·exact .inl ⟨E0,q,b⟩
 ·exact .inr ⟨E0,q,b⟩
theorem Sh(j:X.A.units+1<cLine):A1 X (λo i v H Q=>(∃l k xs,o=.ref l/\i=.int k/\H l=aA (.lst xs)/\0<=k/\k<xs.length/\k<9223372036854775808/\Q (upd H l (.lst (xs.set k.toNat v))))\/(∃l gs z,o=.ref l/\i=kV z/\H l=aA (.dK gs)/\gs.length<sizeLine/\Q (upd H l (.dK (cZ gs z v))))):=by
 intro a s e H o i v f g u Q I c d b h;rcases h with h|⟨l,gs,z,rfl,rfl,n,m,q⟩
 ·exact fU a s e H o i v f g u Q I c d b h
 ·cases c;exact Yv j I (i6.k (k:=z) n m) d b λr p=>⟨_,p,q⟩
theorem Pj(C:Sk D W Γ X k)(V:qb b=aB)(ha:PE X a (aX D W f))(ho:PE X o (aX D W fo))(hb:PE X b (aX D W fb)) :
  PS X (.Assign [.Subscript o b p1] a pos) (dW D W (ZE fo fb f)):=by
 rintro G s σ H E I ⟨M,α,N,μ,T,mr,p⟩;have h1:oR [.Subscript o b p1] a pos.line X.env=pure aD:=by cases a<;>rfl
 have h2:oQ [.Subscript o b p1] a X.env=pure aE:=by cases a<;>rfl
 refine JT ha (GN ho hb (Sh (by have:=C.toCk.unt;lia)) (λv=>by cases b<;>first|(simp[qb] at V;done)|rfl)) h1 h2 rfl G s σ H E I ⟨M,α,N,μ,T,mr,(aM.out T p).mono λt P R H1 S m1 q v d=>?_⟩;have w:=T.step S;refine⟨M,R,N,P,w,m1,(aM.out w q).mono λot O Q H2 F m2 q2 ov dv=>?_⟩;have m:=w.step F;refine⟨M,Q,N,O,m,m2,(aM.out m q2).mono λit u h B j A g iv di=>?_⟩;have Y:=(d.step F).step j;have dv:=dv.step j;cases ot with
 | «mut» i=>
  obtain⟨x,n,rfl⟩:=dv;cases it with
  |int J=>
   have di:iv=.int J:=di;subst di;rcases aM.or g with g|g
   ·obtain⟨ts,e,y,g⟩:=aM.ex1 g;obtain⟨Z,r,l⟩:=A.ob i x _ n e;have c:aO h B h (upd B x (.lst (Z.set J.toNat v))):=aO.turn (cP n) ⟨_,r⟩;have K:i<u.length:=(bQ.mp e).1;exact .inl ⟨x,J,Z,rfl,rfl,r,y.1,by rw[←l.length];exact y.2.1,y.2.2,aM.nx g c (A.turn n K c ⟨_,z5,aN.set (l.step c) (Y.step c)⟩) ((m.step j).step c)⟩
   ·obtain⟨U,e,y,g⟩:=aM.ex1 g;obtain⟨L,r,l⟩:=A.ob i x _ n e;have c:aO h B h (upd B x (.dK (cZ L (.inl J) v))):=aO.turn (cP n) ⟨_,r⟩;have K:i<u.length:=(bQ.mp e).1;exact .inr ⟨x,L,(.inl J),rfl,rfl,r,by rw[qx l];exact dL y (zv (bH _)),aM.nx g c (A.turn n K c ⟨_,z5,uI (Y.step c) (l.step c)⟩) ((m.step j).step c)⟩
  |str z=>
   have di:iv=.str z:=di;obtain⟨U,e,y,g⟩:=aM.ex1 g;obtain⟨L,r,l⟩:=A.ob i x _ n e;have c:aO h B h (upd B x (.dK (cZ L (.inr z) v))):=aO.turn (cP n) ⟨_,r⟩;have K:i<u.length:=(bQ.mp e).1;exact .inr ⟨x,L,(.inr z),rfl,di,r,by rw[qx l];exact dL y (zv (bH _)),aM.nx g c (A.turn n K c ⟨_,z5,uI (Y.step c) (l.step c)⟩) ((m.step j).step c)⟩
  |_=>exact aM.elim g
 |_=>exact aM.elim g
theorem MD{R:β->aK->List aF->Hp->Prop}{kk:T->aK->RE β}{x y:T}{v w:V}{e c:aC}(I:Inv X pins σ H s)(i:X.A.units+64<cLine)(h:aL D φ α H μ)(l:aZ D φ α H x v)(k:aZ D φ α H y w)(g:RelV v e)(f:RelV w c)
  (p:aJ D W φ α H σ R ((n8 x y μ).bind kk)):wpAny (aQ X.prog X.w) X.A (d5 .In e c) (EP X pins σ λz B=>∃t u j,aO α H j B/\aL D φ j B u/\aZ D φ j B t z/\aJ D W φ j B σ R (kk t u)) X.xe s:=
 FM I i h l k g f (p.bind.mono λt a b n st m q v d=>⟨t,a,b,st,m,d,q⟩)
theorem YC(C:Ck D W Γ X k)(ho:vx .In b=aB)(V:PE X a (aX D W f))(U:PE X b (aX D W g)):PT X (.Compare a [.In] [b] pos) (eJ D W (tE (UB f g))):=by
 rintro q s w H Q I ⟨r,J,o,B,N,T,p⟩;have p:aJ D W r J H w (λb _ _ H'=>Q b H') ((f o B).bind λx e=>(g o e).bind λy c=>(n8 x y c).bind xf):=p;refine s_ (aY (sub V I N T p) ?_) (jN ho);rintro u s1 ⟨v,H1,t,e,G,I1,R,L,j,n,d1,p1⟩;refine aY (sub U I1 j n p1) ?_;rintro u' s2 ⟨v',H2,t',c,F,I2,P,i,M,m,Z,S⟩;refine aY (MD I2 C.unt m (d1.step i) Z R P S) ?_;rintro d s3 ⟨z,H3,I3,O,t3,A,E,K,l,Y,h⟩;unfold xf at h;split at h
 ·cases Y;cases O;exact wpAny_truthy_bool ⟨H3,I3,h.ok (aO.refl _ _) l⟩
 ·exact h.elim
end
noncomputable def F5(Γ:Cn)(b:aI):Bool:=match b with
 |.Name x _=>(cL Γ.N x).isSome
 |_=>aD
noncomputable def isIn:eQ->Bool
 |.In=>aB
 |_=>aD
theorem Xm(h:isIn op=aB):op=.In:=by cases op<;>first|rfl|cases h
noncomputable def Lm (r:dF)(Γ:Cn)(e:aI):Option De:=(nS e).bind λq=>gd (isIn q.op&&F5 Γ q.b) (gd (vx .In q.b) ((r.e Γ q.a).bind λf=>(r.e Γ q.b).bind λg=>aA (UB f g)))
noncomputable def Fj:ER:=Lm
theorem Pa:cM D Fj:=by
 intro r H X W l k e d C h;obtain⟨q,c,h⟩:=aS h;obtain⟨b,h⟩:=z8 h;obtain⟨a,h⟩:=z8 h;obtain⟨f,j,h⟩:=aS h;obtain⟨g,i,h⟩:=aS h;cases h;rw[Vm c,Xm (zy b).1];exact MT C a (H.e C j) (H.e C i)
noncomputable def Bb:TR:=λr c e=>match e with
 |.Compare a [.In] [b] _=>gd (F5 c b&&vx .In b) ((r.e c a).bind λf=>(r.e c b).bind λg=>aA (tE (UB f g)))
 |_=>aE
theorem UT:rD D Bb:=by
 intro r H X W j k e d C h;unfold Bb at h;split at h
 ·obtain⟨b,a⟩:=z8 h;obtain⟨f,i,a⟩:=aS a;obtain⟨g,c,a⟩:=aS a;cases a;simp only[cH] at b;exact YC C b.2 (H.e C i) (H.e C c)
 ·cases h
noncomputable def AX:bG->Option (aI×aI×Pos)
 |.Assign [t] e p=>aA (t,e,p)
 |_=>aE
theorem Pz(h:AX s=aA q):s=.Assign [q.1] q.2.1 q.2.2:=by
 unfold AX at h;split at h
 ·cases h;rfl
 ·cases h
noncomputable def GG:SR:=λr a s=>(AX s).bind λq=>(pO q.1).bind λw=>gd (qb w.2.1) ((r.e a w.1).bind λfo=>(r.e a w.2.1).bind λfb=>(r.e a q.2.1).bind λf=>aA (ZE fo fb f))
theorem YV:og D GG:=by
 intro r H X W l k e d C h;obtain⟨q,c,h⟩:=aS h;obtain⟨w,b,h⟩:=aS h;obtain⟨a,h⟩:=z8 h;obtain⟨fo,j,h⟩:=aS h;obtain⟨fb,i,h⟩:=aS h;obtain⟨f,g,h⟩:=aS h;cases h;rw[Pz c,Yk b];exact Pj C a (H.e C.toCk g) (H.e C.toCk j) (H.e C.toCk i)
end NH
namespace NH.P
open PySem L2 NH
@[reducible] noncomputable def xm:List Ds:=[(bS (qc (tE (z6 qq [(eV 0),(eV 1)]))) [(zG 13 [(eC (.str "no moment, house or count of the shape"))])] [])]
noncomputable def qW:Fn:=bI 2 0 xm
@[reducible] noncomputable def Qt:List Ds:=[(zN (z6 qW [(eV 1),(zf (eV 0) 0)])),(zN (z6 qW [(eV 2),(zf (eV 0) 1)])),(zN (z6 qW [(eV 3),(zf (eV 0) 2)])),(zr (zd .Add (zd .Mult (zd .Add (zd .Mult (eV 1) (zf (eV 0) 1)) (eV 2)) (zf (eV 0) 2)) (eV 3)))]
noncomputable def ui:Fn:=bI 4 0 Qt
@[reducible] noncomputable def uT:List Ds:=[(bS (fx (qc (tE (xY [4] (eV 1)))) (tE (zx .NotEq (dD y_ (eV 1)) (eC (.int 3))))) [(zr (eC (.bl aD)))] []),(bS (qc (xA (tE (z6 qq [(bC (eV 1) (eC (.int 0))),(zf (eV 0) 1)])) (xA (tE (z6 zJ [(bC (eV 1) (eC (.int 1)))])) (tE (z6 zJ [(bC (eV 1) (eC (.int 2)))]))))) [(zr (eC (.bl aD)))] []),(zr (iC (eC (.int 0)) [(.LtE,(bC (eV 1) (eC (.int 1)))),(.Lt,(bC (eV 1) (eC (.int 2)))),(.LtE,(zf (eV 0) 0))]))]
noncomputable def k_:Fn:=bI 2 0 uT
@[reducible] noncomputable def jX:List Ds:=[(bS (qc (tE (z6 k_ [(eV 0),(eV 1)]))) [(zG 18 [(eC (.str "no lease of the shape"))])] [])]
noncomputable def vd:Fn:=bI 2 0 jX
@[reducible] noncomputable def xG:List Ds:=[(zM (eV 0) 5 (eV 1)),(zM (eV 0) 6 (eV 2)),(zM (eV 0) 7 (bC (eV 2) (eC (.int 2)))),(zM (eV 0) 8 (eC (.bl aD)))]
noncomputable def kC:Fn:=bI 3 0 xG
@[reducible] noncomputable def Xr:List Ds:=[(zr (zx .Lt (ig yr (bC (zf (eV 0) 6) (eC (.int 1))) (eV 1)) (ig QU (zf (eV 0) 7) (eV 2))))]
noncomputable def fW:Fn:=bI 3 0 Xr
@[reducible] noncomputable def jW:List Ds:=[(zp 3 (eV 1)),(kn (.one 4) (iE (X0 0 (bC (zf (eV 0) 6) (eC (.int 1))) (eV 0))) [(bS (tE (z6 fW [(eV 4),(eV 3),(zd .Add (eV 3) (eV 2))])) [(zp 3 (zf (eV 4) 7))] [])]),(zr (eV 3))]
noncomputable def wc:Fn:=bI 3 2 jW
@[reducible] noncomputable def k6:List Ds:=[(zp 3 Y1),(kn (.one 4) (iE (eV 0)) [(bS (tE (z6 fW [(eV 4),(eV 1),(zd .Add (eV 1) (eV 2))])) [(ZE (eV 3) (bC (zf (eV 4) 6) (eC (.int 0))) (eC (.bl aB)))] [])]),(zp 5 (eC (.int 0))),(K4 (tE (UB (eV 5) (eV 3))) [(zp 5 (zd .Add (eV 5) (eC (.int 1))))]),(zr (eV 5))]
noncomputable def yK:Fn:=bI 3 3 k6
@[reducible] noncomputable def kf:List Ds:=[(zM (eV 0) 9 (eV 1)),(zM (eV 0) 10 (Zm []))]
noncomputable def vi:Fn:=bI 2 0 kf
@[reducible] noncomputable def qB:List Ds:=[(bS (qc (tE (z6 qS [(eV 1)]))) [(zG 17 [(eC (.str "a holder is a text of one to eight small letters"))])] []),(bS (xA (tE (zx .IsNot (eV 2) (eC .non))) (qc (tE (z6 qq [(eV 2),(zf (zf (eV 0) 9) 1)])))) [(zG 13 [(eC (.str "no house of the shape"))])] []),(bS (qc (tE (z6 ve [(eV 4)]))) [(zG 16 [(eC (.str "a span is a whole number from 1 on"))])] []),(bS (qc (tE (z6 zJ [(eV 3)]))) [(zG 16 [(eC (.str "a moment is a whole number"))])] [])]
noncomputable def qj:Fn:=bI 5 0 qB
@[reducible] noncomputable def wN:List Ds:=[(zr (qw 1 [1] (.one 0) (iE (zf (eV 0) 10)) [(tE (zx .Eq (bC (zf (eV 0) 6) (eC (.int 0))) (eV 1)))] (eV 0)))]
noncomputable def qm:Fn:=bI 2 0 wN
@[reducible] noncomputable def wt:List Ds:=[(bS (tE (zx .Is (eV 1) (eC .non))) [(zr (wq [(z6 yK [(zf (eV 0) 10),(eV 2),(eV 3)]),(eV 2),(zd .Add (eV 2) (eV 3))]))] []),(zp 4 (z6 wc [(zF 43 qm (eV 0) [(eV 1)]),(eV 2),(eV 3)])),(zr (wq [(eV 1),(eV 4),(zd .Add (eV 4) (eV 3))]))]
noncomputable def zQ:Fn:=bI 4 1 wt
@[reducible] noncomputable def xy:List Ds:=[(zN (zF 43 qj (eV 0) [(eV 1),(eV 2),(eV 3),(eV 4)])),(zp 5 (zF 43 zQ (eV 0) [(eV 2),(ig yr (eV 3) (eC (.int 0))),(eV 4)])),(bS (fx (tE (zx .GtE (bC (eV 5) (eC (.int 0))) (zf (zf (eV 0) 9) 1))) (tE (zx .Gt (bC (eV 5) (eC (.int 2))) (zf (zf (eV 0) 9) 0)))) [(zG 19 [(eC (.str "no such stretch is free"))])] []),(zN (K6 (zf (eV 0) 10) (Qj 42 kC [(eV 1),(eV 5)]))),(zr (eV 5))]
noncomputable def vN:Fn:=bI 5 1 xy
end NH.P
namespace NH
open PySem PySem.Spec PyProof.Rows L2
noncomputable abbrev TY(n:Nat)(o f:De):De:=λd e=>(o d e).bind λt c=>(Z4 t n c).bind λw b=>.grd (EM w) ((f d b).bind λ_ a=>.ok .non a)
noncomputable abbrev TQ(j:Nat):De:=λ_ (a:aK) K _=>(∃i:Nat,a[i]?=aA (MO.tab j))/\K (.clo (2*j) [.clo (100+j) []]) a
noncomputable def TM:aG:=⟨#[37]⟩
noncomputable def ri(m:aG):aG:=⟨#[126]++m.cps⟩
section
variable {X:Cx}{pins:List (aF×bD)}{s:Shared}{σ:St}{H:Hp}{c:aI}
theorem Ju{ad C0 dx:aF}{m:aG}{v:V}(I:Inv X pins σ H s)(e:H ad=aA (.ins C0 dx gs))(c:gu X.K C0)(n:cJ X.K C0 m)(l:gs.lookup m=aA v)
  (h:∀u d,Inv X pins σ H d->RelV v u->Q (u,[]) d):wpAny (aQ X.prog X.w) A (rM (.ref ad) m j) Q E s:=by
 obtain⟨b,O,r,_,_,_⟩:=xI I.hok e;obtain⟨a,J,f⟩:=O.look;exact PySem.W.method_usual I.kIn J (nv (c.get m)).1 (nv (c.get m)).2 n rfl (ZR I e c n l h)
end
theorem uX:∀{l:List (aG×Nat)},l.lookup x=aA n->(x,n)∈l
 |[],h=>by cases h
 |(y,m)::r,h=>by
  rw[f6] at h;split at h
  ·rename_i e;have e:=beq_iff_eq.mp e;cases h;rw[e];exact eG
  ·exact dN _ (uX h)
section
variable {K:PySem.W.Frag}{k n:Nat}
theorem Qv(hd:fd.defaults=.ref d)(ho:K.lookup d=aA o)(hs:o.data=.seq items n)(h:∀us:List aC,us.length=ps.length->∃k,lc fd ⟨us,[]⟩=iK fd.defaults >>= k/\k (aA items)=pure (ps.zip us)):Binds K fd ps []:=λs us X a=>by
 rw[gC] at a ⊢;obtain⟨k,c,b⟩:=h us a;exact CU X hd ho hs c b
theorem Wl(hd:fd.defaults=.ref j)(ho:K.lookup j=aA o)(hs:o.data=.seq items n)(h:∀us:List aC,us.length+1=ps.length->∃k,lc fd ⟨us,[]⟩=iK fd.defaults >>= k/\k (aA items)=pure (ps.zip (us++[d]))):Binds K fd ps [d]:=λs us X a=>by
 obtain⟨k,c,b⟩:=h us (by simpa using a);exact CU X hd ho hs c b
end
end NH
namespace NH.P
open PySem L2 NH
@[reducible] noncomputable def vB:List Ds:=[(zr (jP (z6 zJ [(eV 0)]) (zx .GtE (eV 0) (eC (.int 0)))))]
noncomputable def zS:Fn:=bI 1 0 vB
@[reducible] noncomputable def xc:List Ds:=[(zM (eV 0) 11 (eV 1)),(zM (eV 0) 12 (eV 2)),(zM (eV 0) 13 (eV 3))]
noncomputable def kD:Fn:=bI 4 0 xc
@[reducible] noncomputable def QL:List Ds:=[(zr (z6 ui [(eV 0),(zd .FloorDiv (eV 2) (zf (eV 0) 2)),(eV 1),(zd .Mod (eV 2) (zf (eV 0) 2))]))]
noncomputable def xg:Fn:=bI 3 0 QL
@[reducible] noncomputable def kg:List Ds:=[(zp 3 (z6 jy [(eV 0),(eV 2)])),(bS (tE (zx .Lt (bC (eV 3) (eC (.int 1))) (eV 1))) [(zr (zd .Mult (bC (eV 3) (eC (.int 0))) (zf (eV 0) 2)))] []),(bS (tE (zx .Gt (bC (eV 3) (eC (.int 1))) (eV 1))) [(zr (zd .Mult (zd .Add (bC (eV 3) (eC (.int 0))) (eC (.int 1))) (zf (eV 0) 2)))] []),(zr (zd .Add (zd .Add (zd .Mult (bC (eV 3) (eC (.int 0))) (zf (eV 0) 2)) (bC (eV 3) (eC (.int 2)))) (eC (.int 1))))]
noncomputable def yB:Fn:=bI 3 1 kg
@[reducible] noncomputable def vA:List Ds:=[(bS (tE (zf (eV 0) 20)) [(zG 24 [(eC (.str "the house has fallen"))])] [])]
noncomputable def qf:Fn:=bI 1 0 vA
@[reducible] noncomputable def xa:List Ds:=[(zr (wq [(zf (eV 0) 6),(zf (eV 0) 17)]))]
noncomputable def v_:Fn:=bI 1 0 xa
@[reducible] noncomputable def qF:List Ds:=[(bS (tE (zx .Is (zf (eV 0) 6) (eC .non))) [(zG 18 [(eC (.str "the house has no lease"))])] [])]
noncomputable def q5:Fn:=bI 1 0 qF
@[reducible] noncomputable def wK:List Ds:=[(bS (tE (zx .IsNot (zf (eV 0) 18) (eC .non))) [(zr (z6 yB [(zf (eV 0) 9),(bC (zf (eV 0) 6) (eC (.int 0))),(zf (eV 0) 18)]))] []),(bS (tE (zx .IsNot (zf (eV 0) 17) (eC .non))) [(zr (zd .Mult (zd .Add (zf (eV 0) 17) (eC (.int 1))) (zf (zf (eV 0) 9) 2)))] []),(zr (eC (.int 0)))]
noncomputable def qQ:Fn:=bI 1 0 wK
@[reducible] noncomputable def qo:List Ds:=[(bS (xA (tE (zx .IsNot (zf (eV 0) 17) (eC .non))) (tE (zx .LtE (eV 1) (zf (eV 0) 17)))) [(zr (zf (eV 0) 17))] []),(zr (ig QU (zd .Add (eV 1) (zf (eV 0) 15)) (zd .Sub (zf (zf (eV 0) 9) 0) (eC (.int 1)))))]
noncomputable def qa:Fn:=bI 2 0 qo
@[reducible] noncomputable def QO:List Ds:=[(zp 2 (zd .Mod (zd .Mult (zd .Add (zd .Add (zd .Mod (eV 0) (eC (.int 2147483629))) (zd .Mult (eC (.int 69621)) (eV 1))) (eC (.int 1))) (eC (.int 48271))) (eC (.int 2147483629)))),(zp 2 (zd .Mod (zd .Mult (eV 2) (zd .Add (zd .FloorDiv (eV 2) (eC (.int 1009))) (eC (.int 69621)))) (eC (.int 2147483629)))),(zp 2 (zd .Mod (zd .Mult (eV 2) (zd .Add (zd .Add (zd .FloorDiv (eV 2) (eC (.int 907))) (eC (.int 16807))) (eV 1))) (eC (.int 2147483629)))),(zr (zd .Mod (zd .Mult (eV 2) (zd .Add (zd .FloorDiv (eV 2) (eC (.int 1201))) (eC (.int 30011)))) (eC (.int 2147483629))))]
noncomputable def u9:Fn:=bI 2 1 QO
@[reducible] noncomputable def uD:List Ds:=[(zr (Zm [(zd .Mult (zd .FloorDiv (eV 0) (eC (.int 2))) (zd .Sub (eC (.int 1)) (zd .Mod (eV 0) (eC (.int 2))))),(eV 0),(eC (.int 0))]))]
noncomputable def vr:Fn:=bI 1 0 uD
@[reducible] noncomputable def QP:List Ds:=[(bS (fx (qc (tE (xY [4] (eV 0)))) (tE (zx .NotEq (dD y_ (eV 0)) (eC (.int 3))))) [(zr (eC (.bl aD)))] []),(zr (jP (z6 zJ [(bC (eV 0) (eC (.int 0)))]) (jP (z6 zJ [(bC (eV 0) (eC (.int 1)))]) (xY [1] (bC (eV 0) (eC (.int 2)))))))]
noncomputable def uo:Fn:=bI 1 0 QP
@[reducible] noncomputable def yv:List Ds:=[(bS (fx (qc (tE (xY [5] (eV 0)))) (qc (tE (dD V5 (qw 1 [] (.one 0) (iE (eV 0)) [] (z6 uo [(eV 0)])))))) [(zr (eC (.bl aD)))] []),(zr (dD V5 (qw 1 [0] (.one 0) (VH (eC (.int 1)) (dD y_ (eV 0))) [] (zx .Lt (bC (bC (eV 1) (zd .Sub (eV 0) (eC (.int 1)))) (eC (.int 0))) (bC (bC (eV 1) (eV 0)) (eC (.int 0)))))))]
noncomputable def jH:Fn:=bI 1 0 yv
@[reducible] noncomputable def xK:List Ds:=[(bS (fx (qc (tE (z6 zJ [(eV 1)]))) (qc (tE (z6 jH [(eV 2)])))) [(zG 15 [(eC (.str "a clock has a whole number and a list of turns whose times rise"))])] []),(zM (eV 0) 3 (eV 1)),(zM (eV 0) 4 (dD Jn (eV 2)))]
noncomputable def wV:Fn:=bI 3 0 xK
@[reducible] noncomputable def jf:List Ds:=[(bS (qc (tE (z6 zJ [(eV 1)]))) [(zG 16 [(eC (.str "a time is a whole number"))])] []),(kn (.one 2) (AD (zf (eV 0) 4)) [(bS (tE (zx .LtE (bC (eV 2) (eC (.int 0))) (eV 1))) [(zr (zd .Add (bC (eV 2) (eC (.int 1))) (n9 (tE (bC (eV 2) (eC (.int 2)))) (zd .Sub (eV 1) (bC (eV 2) (eC (.int 0)))) (eC (.int 0)))))] [])]),(zr (zd .Add (zf (eV 0) 3) (eV 1)))]
noncomputable def zC:Fn:=bI 2 1 jf
@[reducible] noncomputable def xl:List Ds:=[(zr (qw 1 [1,2] (.one 0) (iE (zf (eV 0) 4)) [(tE (iC (eV 1) [(.Lt,(bC (eV 0) (eC (.int 0)))),(.LtE,(eV 2))]))] (bC (eV 0) (eC (.int 0)))))]
noncomputable def qU:Fn:=bI 3 0 xl
@[reducible] noncomputable def Xw:List Ds:=[(zp 4 (zd .Add (z6 qU [(eV 0),(eV 2),(eV 3)]) (z6 qU [(eV 1),(eV 2),(eV 3)]))),(zr (zd .Add (zd .Add (jg [(eV 2),(eV 3)]) (eV 4)) (qw 1 [] (.one 0) (iE (eV 4)) [] (zd .Sub (eV 0) (eC (.int 1))))))]
noncomputable def XH:Fn:=bI 4 1 Xw
@[reducible] noncomputable def W6:List Ds:=[(bS (fx (qc (xA (tE (z6 zJ [(eV 2)])) (tE (z6 zJ [(eV 3)])))) (tE (zx .Lt (eV 3) (eV 2)))) [(zG 16 [(eC (.str "times are whole numbers, the second not below the first"))])] []),(zp 5 (qw 1 [1] (.one 0) (iE (z6 qU [(eV 1),(eV 2),(eV 3)])) [] (wq [(zF 41 zC (eV 1) [(eV 0)]),(eV 0)]))),(zp 6 (Zm [])),(kn (.one 4) (iE (z6 XH [(eV 0),(eV 1),(eV 2),(eV 3)])) [(zp 7 (dD nX (zd .Add (jg [(wq [(zF 41 zC (eV 1) [(eV 4)]),(eV 4)])]) (qw 1 [4] (.one 0) (iE (eV 5)) [(tE (zx .Gt (bC (eV 0) (eC (.int 1))) (eV 1)))] (eV 0))))),(zN (K6 (eV 6) (wq [(zd .Sub (bC (eV 7) (eC (.int 0))) (zF 41 zC (eV 0) [(eV 4)])),(eV 4),(bC (eV 7) (eC (.int 1)))])))]),(zp 8 (dD nX (eV 6))),(zr (wq [(xz (bC (eV 8) (eC (.int 0)))),(bC (eV 8) (eC (.int 1))),(bC (eV 8) (eC (.int 2)))]))]
noncomputable def jJ:Fn:=bI 4 5 W6
end NH.P
namespace NH
open PySem PySem.Spec PyProof.Rows L2
noncomputable def LJ(i:Nat)(t:T)(μ:aK)(zs:List T):Prop:=t=.lst zs\/∃j,t=.mut j/\j≠i/\μ[j]?=aA (.lst zs)
noncomputable abbrev Ar(o f:De):De:=λe g=>(o e g).bind λh b=>match h with
 |.mut i=>λK Z=>(∃c,b[i]?=aA (.lst c))/\f e b (λt a=>∃c d,a[i]?=aA (.lst c)/\LJ i t a d/\c.length+d.length<=aU/\K .non (a.set i (.lst (c++d)))) Z
 |_=>.st
section
variable {X:Cx}{D:DP}{W:XW}{pins:List (aF×bD)}{s:Shared}{σ:St}{H:Hp}{φ α:List aF}{τ:Sl}{μ:aK}{f:De}{a b:aI}
theorem Kk:Hb X "list.extend" (λx vs H Q=>∃l b xs zs,x=.ref l/\vs=[.ref b]/\H l=aA (.lst xs)/\Rd H b (.lst zs)/\xs.length+zs.length<=sizeLine/\Q .non (upd H l (.lst (xs++zs)))):=by
 intro i s A H x vs v C Q I k m h;obtain⟨l,b,xs,zs,rfl,rfl,j,w,D,q⟩:=h;cases k;obtain⟨u,rfl,o⟩:=vals1 m;cases o;obtain⟨z,c,n,r,E,e⟩:=I.lstM j;obtain⟨B,a,p,g,y⟩:=w.ok I.hok;have t:=g.length;have f:c.toArray.size+a.toArray.size<=sizeLine:=by rw[dA,dA];lia
 have d:¬(!c.toArray.isEmpty&&tG (c.toArray.size+a.toArray.size))=aB:=by
  rw[RM f,sO];exact fB
 refine call_meets F.slot_list_extend ⟨_,e,rfl⟩ F.entry_list_extend (F.args_list_extend_2 _ _)
  (AutoSeq1.list_extend_list_list_0 l c.toArray n b a.toArray p d (by rw[dA];lia) (by lia)) ⟨e,y,?_⟩
 refine⟨.non,_,I.lset (its':=c++a) j e (by simp) (r.append g) ?_,rfl,q⟩;rw[gE];lia
theorem M7(hp:qz o=aB)(hs:aP a=aB)(h:(pa.endLine==pc.line)=aB)(ho:PE X o (aX D W go))(ha:PE X a (aX D W f)) :
  PE X (.Call (.Attribute o "extend" pa) [a] [] pc) (aX D W (Ar go f)):=by
 have hb:d_ [a] X.env=[(aD,eval a X.env)]:=z4 hs;refine PE.mono (FV DR PySem.F.slot_list_extend PySem.F.type_list_extend Kk ho (zD ha qp (z4 hs)) (qK hp) (by rw[hb];rfl) h (z4 hs) rfl) ?_;rintro σ H Q ⟨w,S,L,R,N,mr,p⟩;refine⟨w,S,L,R,N,mr,p.bind.mono λot A B H1 C O q ov dv=>?_⟩;split at q;case h_2=>exact q.elim
 rename_i i;obtain⟨K,Z,⟨⟨V,n⟩,hf⟩,hk,hz⟩:=q;obtain⟨x,G,rfl⟩:=dv;obtain⟨U,J,l0⟩:=O.ob _ x _ G n;refine⟨.inl ⟨rfl,_,.inl (.inl J)⟩,w,B,L,A,N.step C,O,_,Z,hf,?_,hz⟩;rintro t z ⟨ts,T,s,hl,hr,Y⟩ b u k E v d;obtain⟨β,e2,_⟩:=k.ext;have g:b[i]?=aA x:=by
  rw[e2,dP (bQ.mp G).1];exact G
 obtain⟨M,P,l⟩:=E.ob i x _ g s;have hv:∃y c,v=.ref y/\Rd u y (.lst c)/\aN D w b u T c:=by
  rcases hl with rfl|⟨j,rfl,hj,m⟩
  ·obtain⟨y,c,rfl,_,_,r,dl⟩:=d;exact⟨y,c,rfl,r,dl⟩
  ·obtain⟨y,hy,rfl⟩:=d;obtain⟨c,hw,dl⟩:=E.ob j y _ hy m;exact⟨y,c,rfl,.inl hw,dl⟩
 obtain⟨y,c,rfl,I,dl⟩:=hv;have e:aO b u b (upd u x (.lst (M++c))):=aO.turn (cP g) ⟨_,P⟩;have hi:i<z.length:=(bQ.mp s).1;refine⟨x,y,M,c,rfl,rfl,P,I,?_,?_⟩
 ·rw[←l.length,←dl.length];exact cT hr (zv (bH _))
 ·exact hk _ _ Y b _ (k.trans e) (E.turn g hi e ⟨_,z5,(l.step e).append (dl.step e)⟩) .non rfl
end
noncomputable def Fg:ER:=rk "extend" Ar
theorem PM:cM D Fg:=KG λC b a d c e=>M7 b a d c e
end NH
namespace NH.P
open PySem L2 NH
@[reducible] noncomputable def wZ:List Ds:=[(zr (kQ 1 [1,0] (.one 0) (VH (zf (eV 1) 12) (zf (eV 1) 13)) [] (z6 xg [(eV 2),(zf (eV 1) 11),(eV 0)])))]
noncomputable def qg:Fn:=bI 2 0 wZ
end NH.P
namespace NH
open PySem PySem.Spec PyProof.Rows L2
noncomputable def Tu:List (aG×aC)->Prop:=λa=>a=[]\/a=[(gA "default",.none)]
section
variable {prog:Program}{w:World}{A:Around}{E:aC->Shared->Prop}{s:Shared}{l I S:aF}{vs:List aC}{R:Result->Shared->Prop}{Q:aC->Shared->Prop}{κ:Type}
noncomputable def Fy(prog:cF)(w:dJ)(A:eM)(s:a_)(vs:List aC)(ks:List κ)(gt:κ->κ->Bool):Prop:=
 ∀(E:aC->a_->Prop) (i j:Nat) e d g f c (a:Nat) (Q:aC->a_->Prop),vs[i]?=aA e->ks[i]?=aA g->vs[j]?=aA d->ks[j]?=aA f->(∀b o,s.heap.get? b=aA o->c.get? b=aA o)->
  Q (.bool (gt g f)) {s with heap:=c,toks:=a}->wpAny (aQ prog w) A.in1 (nc .Gt e d) Q E {s with heap:=c,toks:=a}
theorem Yy(Z:∀a,gt a a=aD)(Y:∀a b c,gt a b=aB->gt c b=aD->gt c a=aD)(Q:Fy prog w A s vs ks gt)(hh:A.handled=aE)(hl:s.heap.IsList l vs.toArray)(hI:s.heap.get? I=aE)(hS:s.heap.get? S=aE)(J:S≠I)(O:ks.length=vs.length)
  (hR:∀(i:Nat) v kk h' B,vs[i]?=aA v->ks[i]?=aA kk->(∀m∈ks,gt m kk=aD)->(∀b o,s.heap.get? b=aA o->h'.get? b=aA o)->R (.ok (.ret v)) {s with heap:=h',toks:=B}) :
  ∀(r j i:Nat) (h:aT) (tk:Nat) (u:aC) (nb:κ) (c:Nat),vs.length-(j+1)=r->j+1<=vs.length->(∀b o,s.heap.get? b=aA o->h.get? b=aA o)->
   h.get? S=aA (bN "list" #[u,u] c)->h.IsListIter I l (j+1)->vs[i]?=aA u->ks[i]?=aA nb->(∀m∈ks.take (j+1),gt m nb=aD)->
   fP (aQ prog w) A (.builtin "max.loop" ⟨[.ref I,.none,.ref S],kw⟩) R {s with heap:=h,toks:=tk}:=by
 have n:(toString "max"++toString ".loop":String)="max.loop":=by decide
 have f:∀{b:aF}{o:bD},s.heap.get? b=aA o->b≠I/\b≠S:=λ{b o} e=>⟨λz=>(by rw[z,hI] at e;cases e),λz=>(by rw[z,hS] at e;cases e)⟩;have hlI:l≠I:=by obtain⟨o,ho,_⟩:=id hl;exact (f ho).1
 have W:=m9 (prog:=prog) (w:=w) (A:=A.in1) hh I l hlI vs.toArray;have M:vs.toArray.size=vs.length:=dA ..;have lst:∀{h:aT},(∀b o,s.heap.get? b=aA o->h.get? b=aA o)->h.IsList l vs.toArray:=λ{h} k=>by
  obtain⟨o,ho,hc⟩:=hl;exact⟨o,k _ _ ho,hc⟩
 intro r;induction r with
 |zero=>
  intro j i h tk u nb c hr hj L q H x y d;have P:j+1=vs.length:=by lia
  refine my tf ?_;rw[mK lW _];show wpAny _ A.in1 (iK (.ref S) >>= _) _ _ _;refine wpAny_bind (mG q rfl ?_);show wpAny _ A.in1 (tryCatch (iq (.ref I)) _ >>= _) _ _ _;refine wpAny_bind (iR (W.done _ _ _ ⟨by rw[M,←P];exact H,lst L⟩ λh' B p=>?_));have g:∀b o,s.heap.get? b=aA o->h'.get? b=aA o:=λb o e=>p b o (by simpa using (f e).1) (L b o e);have t:=p S _ (by simpa using J) q;have U:=iB h' S (cK λ_=>(#[]:Array aC));show wpAny _ A.in1 (oA S (λ_=>#[]) >>= _) _ _ _;refine wpAny_bind ?_;refine mx t rfl (wpAny_bind (iL (wpAny_pure ?_)));refine hR i u nb _ _ x y ?_ λb o e=>(U.2 b (f e).2).trans (g b o e);rw[P,←O,nC] at d;exact d
 |succ r ih=>
  intro j i h tk u nb c hr hj L q H x y d;have G:j+1<vs.length:=by lia
  refine my tf ?_;rw[mK lW _];show wpAny _ A.in1 (iK (.ref S) >>= _) _ _ _;refine wpAny_bind (mG q rfl ?_);show wpAny _ A.in1 (tryCatch (iq (.ref I)) _ >>= _) _ _ _;refine wpAny_bind (iR (W.item (j+1) _ _ _ (by rw[M];exact G) ⟨H,lst L⟩ λv h' B hP C p=>?_));have hv:vs[j+1]?=aA v:=by simpa using hP
  have g:∀b o,s.heap.get? b=aA o->h'.get? b=aA o:=λb o e=>p b o (by simpa using (f e).1) (L b o e);have t:=p S _ (by simpa using J) q;have hn:∃D,ks[j+1]?=aA D:=⟨_,eS (by lia)⟩;obtain⟨D,E⟩:=hn;have K:ks.take (j+1+1)=ks.take (j+1)++[D]:=by rw[gD,E];rfl
  show wpAny _ A.in1 (tryCatch (lK [v,v] (nc .Gt v u >>= _)) _ >>= _) _ _ _;refine wpAny_bind (iR (wpAny_holding (wpAny_bind (Q _ (j+1) i v u D nb h' B _ hv E x y g ?_))));refine wpAny_bind (wpAny_holding (wpAny_truthy_bool ?_));refine wpAny_bind (iL (wpAny_pure ?_));cases T:gt D nb with
  |true=>
   have U:=iB h' S (cK λ_=>#[v,v]);obtain⟨c2,hc2⟩:∃c2,(h'.update S (cK λ_=>#[v,v])).get? S=aA (bN "list" #[v,v] c2):=⟨_,lw t λ_=>#[v,v]⟩;simp only[if_true];refine wpAny_bind ?_;refine mx t rfl (wpAny_bind (iL ?_));rw[n];obtain⟨V,N,hoc,hod⟩:=id C.1;refine wpAny_pure ⟨lg lW _,ih (j+1) (j+1) _ _ v D c2 (by lia) G (λb o e=>(U.2 b (f e).2).trans (g b o e)) hc2 ⟨V,(U.2 I J.symm).trans N,hoc,hod⟩ hv E ?_⟩;rw[K];intro X hm;rcases cA.mp hm with z|z
   ·exact Y _ _ _ T (d X z)
   ·rw[bV.mp z];exact Z D
  |false=>
   simp only[mI,if_false];refine wpAny_bind (iL ?_);rw[n];refine wpAny_pure ⟨lg lW _,ih (j+1) i _ _ u nb c (by lia) G g t C.1 x y ?_⟩;rw[K];intro X hm;rcases cA.mp hm with z|z
   ·exact d X z
   ·rw[bV.mp z];exact T
theorem Ry(a:aC):lH "max" ⟨[a],[]⟩:=by unfold lH;kernel_rfl
theorem Rn(a:aC):lH "max" ⟨[a],[(gA "default",.none)]⟩:=by unfold lH;kernel_rfl
theorem SD {ks:List κ}(G:∀a,gt a a=aD) (T:∀a b c,gt a b=aB->gt c b=aD->gt c a=aD) (N:Fy prog w A s vs ks gt) (M:Tu D) (hh:A.handled=aE) (R:s.heap.IsList l vs.toArray) (L:ks.length=vs.length) (y:vs=[]->D=[(gA "default",.none)])
  (hE:vs=[]->∀h' j,(∀b o,s.heap.get? b=aA o->h'.get? b=aA o)->Q .none {s with heap:=h',toks:=j})
  (hQ:∀(i:Nat) v kk h' j,vs[i]?=aA v->ks[i]?=aA kk->(∀m∈ks,gt m kk=aD)->(∀b o,s.heap.get? b=aA o->h'.get? b=aA o)->Q v {s with heap:=h',toks:=j}) :
  wpAny (aQ prog w) A (call (.builtin "max") [.ref l] D) Q E s:=by
 have q:(toString "max"++toString ".loop":String)="max.loop":=by decide
 have B:lH "max" ⟨[.ref l],D⟩:=by rcases M with rfl|rfl;exact Ry _;exact Rn _
 have hbp:∃df:Option aC,pJ "max" ["key","default"] 0 ⟨[],D⟩=pure [aE,df]/\df.toList.map (λd=>(("default":aG),d))=D:=by
  rcases M with rfl|rfl
  ·exact⟨aE,rfl,rfl⟩
  ·exact⟨aA .none,rfl,rfl⟩
 obtain⟨df,hb1,hb2⟩:=hbp;refine kmb_tree PySem.F.kind_max PySem.F.plain_max PySem.F.entry_max B ?_;show wpAny _ A.in1 (pJ "max" ["key","default"] 0 ⟨[],D⟩ >>= _) _ _ s;refine wpAny_bind (lO hb1 ?_);refine wpAny_bind (wpAny_pure ?_);refine wpAny_bind (nn R ?_);refine wpAny_bind (mC ?_ (fQ _));rw[q];show wpAny _ A.in1 (pure _) _ _ _;rw[hb2];refine wpAny_pure ⟨lg lW _,?_⟩;let p:bD:={cls:=.type "list_iterator",data:=.fields #[.ref l,.int 0 0]};let P:bD:=bN "list" #[] 0;have e1:(s.heap.push p).objs.size=s.heap.objs.size+1:=gX ..;have up:∀b o,s.heap.get? b=aA o->((s.heap.push p).push P).get? b=aA o:=λb o e=>bZ _ (bZ _ e);have gI:((s.heap.push p).push P).get? s.heap.objs.size=aA p:=bZ _ (eF _ rfl);have gS:((s.heap.push p).push P).get? (s.heap.push p).objs.size=aA P:=eF _ rfl;have hI:s.heap.get? s.heap.objs.size=aE:=lp (bH _);have hS:s.heap.get? (s.heap.push p).objs.size=aE:=lp (by rw[e1];exact gJ _);have C:(s.heap.push p).objs.size≠s.heap.objs.size:=by rw[e1];exact iA (iO _)
 have r:∀{b:aF}{o:bD},s.heap.get? b=aA o->b≠s.heap.objs.size/\b≠(s.heap.push p).objs.size:=λ{b o} e=>⟨λz=>(by rw[z,hI] at e;cases e),λz=>(by rw[z,hS] at e;cases e)⟩;have Y:l≠s.heap.objs.size:=by obtain⟨o,X,_⟩:=id R;exact (r X).1
 have lst:∀{h:aT},(∀b o,s.heap.get? b=aA o->h.get? b=aA o)->h.IsList l vs.toArray:=λ{h} k=>by
  obtain⟨o,X,hc⟩:=R;exact⟨o,k _ _ X,hc⟩
 have W:=m9 (prog:=prog) (w:=w) (A:=A.in1) hh s.heap.objs.size l Y vs.toArray;have H:vs.toArray.size=vs.length:=dA ..;refine my tf ?_;rw[mK lW _];show wpAny _ A.in1 (iK (.ref _) >>= _) _ _ _;refine wpAny_bind (mG gS rfl ?_);show wpAny _ A.in1 (tryCatch (iq (.ref s.heap.objs.size)) _ >>= _) _ _ _;by_cases g:vs=[]
 ·have hk:=y g;refine wpAny_bind (iR (W.done _ _ _ ⟨by rw[H,g];exact⟨_,gI,rfl,rfl⟩,lst up⟩ λh' j t=>?_));have x:∀b o,s.heap.get? b=aA o->h'.get? b=aA o:=λb o e=>t b o (by simpa using (r e).1) (up b o e);subst hk;show wpAny _ A.in1 (rule _ >>= _) _ _ _;refine wpAny_bind (mu ?_);exact wpAny_pure (hE g _ _ x)
 have y:0<vs.length:=by cases vs with|nil=>exact absurd rfl g|cons _ _=>simp
 refine wpAny_bind (iR (W.item 0 _ _ _ (by rw[H];exact y) ⟨⟨_,gI,rfl,rfl⟩,lst up⟩ λv h' j hP I t=>?_));have hv:vs[0]?=aA v:=by simpa using hP
 have x:∀b o,s.heap.get? b=aA o->h'.get? b=aA o:=λb o e=>t b o (by simpa using (r e).1) (up b o e);have O:=t _ _ (by simpa using C) gS;have hn:∃u,ks[0]?=aA u:=⟨_,eS (by lia)⟩;obtain⟨u,K⟩:=hn;have s1:=iB h' (s.heap.push p).objs.size (cK λ_=>#[v,v]);obtain⟨c2,Z⟩:∃c2,(h'.update (s.heap.push p).objs.size (cK λ_=>#[v,v])).get? (s.heap.push p).objs.size=aA (bN "list" #[v,v] c2):=⟨_,lw O λ_=>#[v,v]⟩;refine wpAny_bind (wpAny_pure ?_);show wpAny _ A.in1 (oA _ _ >>= _) _ _ _;refine wpAny_bind ?_;refine mx (s:={s with heap:=h',toks:=j}) (f:=λ_=>#[v,v]) (xs:=#[]) (n:=0) (o:=bN "list" #[] 0) O rfl ?_ (fQ _) (by show 2<=sizeLine+1;decide);rw[q];obtain⟨S,J,V,U⟩:=id I.1;refine wpAny_pure ⟨lg lW _,Yy G T N hh R hI hS C L (λi v u h' j a b c d=>hQ i v u h' j a b c d) _ 0 0 _ _ v u c2 rfl (by lia) (λb o e=>(s1.2 b (r e).2).trans (x b o e)) Z ⟨S,(s1.2 _ C.symm).trans J,V,U⟩ hv K ?_⟩;rw[gD,K];intro ms hm;have:ms=u:=by simpa using hm
 rw[this];exact G u
end
theorem KZ{P:cF}{w:dJ}{K:bM}{mg X:aG->Option aC}{CX:mf}{k:Nat}{fa a:aF}{p:List aF}{fd:FuncData}{x:aG}{sp:Sp}{f:a_}{vs:List aC}{ns:List Int}
  (KX:K.In f.heap) (D:f.heap.Ns bR mg) (hb:f.heap.Ns lh X) (hbb:∀x:aG,x≠"__name__"->X x=gB x) (M:f.heap.NoLimit) (hg:f.gens=#[])
  (hbm:∃bm ob,mg "__builtins__"=aA (.ref bm)/\bm≠lh/\f.heap.get? bm=aA ob/\ob.cls=.type "module"/\ob.dict=aA lh/\ob.data=.plain)
  (hnl:KS K=aB) (g:∀j∈p,f.heap.get? j=aA (lR #[])) (O:∀j∈p,K.lookup j=aE/\j≠m6/\∃c,mX K c j=aB)
  (C:f.heap.get? a=aA {cls:=.type "list",data:=.seq vs.toArray}) (hi:dZ vs ns) (hl:ns.length<=sizeLine) (hr:cB k mY)
  (F:∀base:aT,K.In base->base.Ns bR mg->(∀j∈p,base.BuiltinsAt mg j)->bY P w K mg base CX k fa fd [x] sp) (E:∀(s:a_) (u:aC),jp s fd ⟨[u],[]⟩ [(x,u)])
  (Y:∀H:Hp,Rd H a (.lst (ns.map V.int))->(∀j∈p,H j=aA (.tbl #[]))->a∉p->sp [.ref a] H (λv _=>v=.bl aB) λ_ _ _=>False)
  (hCX:∀H e A,CX [] H f (λ_ _ _=>False) e A->False) :
  fP (aQ P w) mY (.call (.ref fa) ⟨[.ref a],[]⟩) (λr A=>r=.ok (.ret (.bool aB))/\OldK f.heap A.heap/\A.os=f.os/\iH A.gens) f:=by
 have rv:=L2.vals_ints hi;have lenV:=hi.length;have J:a∉p:=λz=>by have:=g a z;rw[this] at C;cases C
 have hKa:K.lookup a=aE:=by
  cases q:K.lookup a with
  |none=>rfl
  |some o=>
   have e:=KX a o q;rw[C] at e;cases e;exact absurd rfl (Xs hnl q)
 obtain⟨H,hH⟩:∃H:Hp,H=λb=>if b=a then aA (.frz {cls:=.type "list",data:=.seq vs.toArray} (.lst (ns.map V.int))) else if b∈p then aA (.tbl #[]) else aE:=⟨_,rfl⟩
 have Ha:H a=aA (.frz {cls:=.type "list",data:=.seq vs.toArray} (.lst (ns.map V.int))):=by rw[hH];simp
 have T:∀j∈p,H j=aA (.tbl #[]):=λj R=>by
  rw[hH];exact (if_neg (λz:j=a=>J (z▸R))).trans (if_pos R)
 have I:∀b,b≠a->b∉p->H b=aE:=λb i l=>by
  rw[hH];exact (if_neg i).trans (if_neg l)
 have Z:dS P w H f.heap:=λb u e=>by
  by_cases i:b=a
  ·subst i;rw[Ha] at e;cases e;exact⟨C,by rw[bP];exact hl,vs,_,rv,C⟩
  ·by_cases l:b∈p
   ·rw[T b l] at e;cases e;exact g b l
   ·rw[I b i l] at e;cases e
 have un:∀{b:aF}{o:bD},f.heap.get? b=aA o->o.cls≠.none->o.cls≠.type "list"->H b=aE:=λ{b o} e n1 n2=>I b (λz=>by rw[z,C] at e;cases e;exact n2 rfl) λz=>by rw[g b z] at e;cases e;exact n1 rfl
 have U:∀{b:aF}{o:bD}{es:Array oD}{ep:Nat},f.heap.get? b=aA o->o.data=.dict es ep->H b=aE:=λ{b o es ep} e d=>I b (λz=>by rw[z,C] at e;cases e;cases d) λz=>by rw[g b z] at e;cases e;cases d
 have qK:∀{b:aF}{o:bD},f.heap.get? b=aA o->H b=aE->(Q6 f.heap H).get? b=aA o:=λe n=>UE e n;have B:∀{b:aF}{m:aG->Option aC},f.heap.Ns b m->(Q6 f.heap H).Ns b m:=λ{b m} ⟨o,es,ep,e,d,r⟩=>⟨o,es,ep,qK e (U e d),d,r⟩;have hKf:∀b o,K.lookup b=aA o->H b=aE:=λb o e=>I b (λz=>by rw[z,hKa] at e;cases e) λz=>by rw[(O b z).1] at e;cases e
 have N:K.In (Q6 f.heap H):=λb o e=>qK (KX b o e) (hKf b o e);have hM:Mod K mg (Q6 f.heap H):=⟨N,B D,⟨X,B hb,hbb⟩,let ⟨mc,i,l⟩:=M;⟨mc,B i,l⟩⟩;have hB:∀j∈p,(Q6 f.heap H).BuiltinsAt mg j:=λj R=>by
  obtain⟨bm,ob,b1,b2,G,S,b5,b6⟩:=hbm;refine⟨bm,ob,b1,b2,λz=>?_,λz=>?_,qK G (un G (by rw[S];exact λz=>by cases z) (by rw[S];exact λz=>absurd (Value.type.inj z) (by decide))),S,b5,b6⟩
  ·obtain⟨o,es,ep,e,d,_⟩:=D;rw[z,e] at G;cases G;rw[d] at b6;cases b6
  ·rw[z,g j R] at G;cases G;cases S
 have e0:dI P w K mg (Q6 f.heap H) mY [] f H:=⟨rfl,hM,λb o e=>OM e,iN (U0 _ _),trivial,λb hb=>absurd (show b∈([]:List aF) from hb) (by simp),Z,.of_eq hg⟩;refine le ((F _ N (B D) hB).run mY [] f H ⟨[.ref a],[]⟩ [.ref a] [.ref a] _ _ hr e0 (E f (.ref a)) (.cons rfl .nil) (Y H (.inr ⟨_,Ha⟩) T J)) λr A h=>?_;cases r with
 |error e=>exact (hCX H e A h).elim
 |ok fl=>
  cases fl with
  |next=>exact eT h
  |brk=>exact eT h
  |cont=>exact eT h
  |ret u=>
   obtain⟨v,H',os,Q,un,y,r',q⟩:=h;have q':v=.bl aB:=q;subst q';obtain rfl:u=mv aB:=r';have kp:∀b o,H b=aE->f.heap.get? b=aA o->A.heap.get? b=aA o:=λb o n e=>un.keep b o e n (by intro z;exact absurd (show b∈([]:List aF) from z) (by simp)) (by simp);have L:∀o,f.heap.get? a=aA o->A.heap.get? a=aA o:=λo e=>by
    have z2:=un.frzs a _ _ Ha;obtain⟨e2,_⟩:=y a _ z2;rw[C] at e;cases e;exact e2
   refine⟨rfl,⟨λb o e=>?_,λb o e=>?_⟩,os,Q⟩
   ·by_cases i:b∈p
    ·obtain⟨t,hm⟩:=un.tbls b _ (T b i);have hP':A.heap.get? b=aA (lR (#[]++t)):=y b _ hm;obtain⟨k1,k2,c,k3⟩:=O b i;have cd:=PySem.W.codeHd_of_K KX k3;rw[g b i] at e;cases e;exact .inr (.inl ⟨(cd.tab (g b i)).isCodeTable,rfl,#[],t,rfl,hP'⟩)
    ·by_cases l:b=a
     ·subst l;exact .inl (L o e)
     ·exact .inl (kp b o (I b l i) e)
   ·by_cases i:b∈p
    ·obtain⟨t,hm⟩:=un.tbls b _ (T b i);exact⟨_,y b _ hm⟩
    ·by_cases l:b=a
     ·subst l;exact⟨_,L o e⟩
     ·exact⟨_,kp b o (I b l i) e⟩
noncomputable def WB(c:List aF):Sp:=λd H Q _=>∃(a:aF) (b:List Int),d=[.ref a]/\Rd H a (.lst (b.map V.int))/\(∀e∈c,H e=aA (.tbl #[]))/\a∉c/\b.length<=63/\∀f,Q (.bl aB) f
noncomputable def V0(f:Fn):Prop:=∀a:List Int,a.length<=63->f [.lst (a.map T.int)] [.tab 0,.tab 1] (λt _=>t=.bl aB) (λ_ _ _=>False)
theorem S2{P:cF}{K:bM}(C:V0 f)(I:D.tabs 0=aA (A,s,qn))(l:D.tabs 1=aA (u,j,B))(g:A≠u)
  (F:bY P w K mg base (dG P w) k fa fd [x] (eU D 1 f)):bY P w K mg base (dG P w) k fa fd [x] (WB [A,u]):=by
 refine F.imp ?_;rintro M H Q E ⟨a,e,rfl,r,n,h,G,q⟩;refine⟨rfl,[],[A,u],[.lst (e.map T.int)],[.tab 0,.tab 1],⟨.ref a,[],rfl,⟨a,_,rfl,by simp,by simpa using h,r,QV e⟩,rfl⟩,⟨rfl,by simpa using g,by simp,by simp,λi p o b c=>?_⟩,_,_,C e G,?_,?_⟩
 ·cases i with
  |succ i=>
   cases i with
   |succ i=>simp at b
   |zero=>
    have b:u=p:=by simpa using b
    have c:MO.tab 1=o:=by simpa using c
    subst b;subst c;exact⟨j,B,#[],l,n _ (by simp),trivial,λ_ _=>.inl rfl⟩
  |zero=>
   have b:A=p:=by simpa using b
   have c:MO.tab 0=o:=by simpa using c
   subst b;subst c;exact⟨s,qn,#[],I,n _ (by simp),trivial,λ_ _=>.inl rfl⟩
 ·rintro t L rfl y J st m v d;have d:v=.bl aB:=d;rw[d];exact q J
 ·exact λ_ _ _ z=>z.elim
theorem walkTs{l:mh}{q:cF}{j:List aG}{XP:(aG->Option aC)->aT->Prop}{y:dJ->aT->Prop}{d:DefRec}{K:Params->bM}{x:aG}{k:Nat}{p:List aF}(hk:k<=90)(J:l.most=aA 63)(v:d.params.defaults=[])
  (O:∀(w:dJ) (h:aT),y w h->(K w.params).In h) (P:∀(w:dJ) (h:aT),y w h->∀A∈p,h.get? A=aA (lR #[]))
  (F:∀(w:dJ) (mg:aG->Option aC) (fa:aF) (h:aT),(K w.params).In h->h.Ns bR mg->mg d.name=aA (.ref fa)->
   (KS (K w.params)=aB/\∀A∈p,(K w.params).lookup A=aE/\A≠m6/\∃c,mX (K w.params) c A=aB)/\∃fd:FuncData,(∀(s:a_) (u:aC),jp s fd ⟨[u],[]⟩ [(x,u)])/\∀base:aT,(K w.params).In base->base.Ns bR mg->(∀A∈p,base.BuiltinsAt mg A)->bY l.prog w (K w.params) mg base (dG l.prog w) k fa fd [x] (WB p)) :
  PySem.W.WalkO q j XP y l.row.toRowW d [] (λf vs=>B6 f vs):=by
 refine Att.attach_call J v λw C B mg mb fa o Z cd V a vs E G Y ho hd M t n m i L=>?_;have D:=O w _ Y;obtain⟨⟨U,S⟩,fd,N,R⟩:=F w mg fa _ D G.T.g t;exact KZ D G.T.g G.T.b G.T.builtins G.T.nolimit L G.T.bmain U (P w _ Y) S n m (cT i (by decide)) (cB.mono (k:=90) ⟨rfl,by decide,by decide⟩ hk) R N (λH I Q r=>⟨a,E,rfl,I,Q,r,i,λ_=>rfl⟩) λH e X z=>by
  obtain⟨_,_,_,_,_,_,_,_,_,_,_,_,_,_,_,z⟩:=z;exact z
noncomputable abbrev Vh(x y:T)(μ:aK):RE T:=match y with
 |.mut i=>(match x with
  |.str z=>λK _=>∃a,μ[i]?=aA (MO.dic a)/\K (.bl (!(qN (.inr z) a).isSome)) μ
  |_=>.st)
 |_=>.st
noncomputable abbrev gL(op:T->T->aK->RE T)(f g:De):De:=λc d=>(f c d).bind λx b=>(g c b).bind λy a=>op x y a
section
variable {X:Cx}{D:DP}{W:XW}{k:Nat}{pins:List (aF×bD)}{s:Shared}{σ:St}{H:Hp}{φ α:List aF}{τ:Sl}{μ:aK}{f g:De}{a b:aI}{pos:Pos}
noncomputable def rH (X:Cx)(D:DP)(W:XW)(op:eQ)(r:T->T->aK->RE T):Prop:=
 ∀(pins:List (aF×bD)) (s:a_) (σ:St) (H:Hp) (φ α:List aF) (μ:aK) (x y:T) (v w:V) (b a:aC) (Q:VK),Inv X pins σ H s->aL D φ α H μ->aZ D φ α H x v->aZ D φ α H y w->RelV v b->RelV w a->aJ D W φ α H σ (RV D φ Q) (r x y μ)->
  wpAny (aQ X.prog X.w) X.A (d5 op b a) (EP X pins σ Q) X.xe s
theorem FI(h:rH X D W op r)(ho:vx op b=aB)(L:PE X a (aX D W f))(K:PE X b (aX D W g)):PE X (.Compare a [op] [b] pos) (aX D W (gL r f g)):=by
 rintro c s n H Q I ⟨m,U,S,T,B,J,p⟩;refine sH (aY (sub L I B J p) ?_) (jN ho);rintro u V ⟨v,Y,t,o,q,P,F,z,j,l,N,p1⟩;refine aY (sub K P j l p1) ?_;rintro x C ⟨w,R,y,d,e,O,E,i,A,k,M,G⟩;exact h c C n R m e d t y v w u x Q O k (N.step i) M F E G
theorem SV(h:rH X D W op r)(ho:vx op b=aB)(ha:PE X a (aX D W f))(hb:PE X b (aX D W g)):PT X (.Compare a [op] [b] pos) (eJ D W (tE (gL r f g))):=by
 rintro l s A H Q I ⟨j,R,L,O,sr,mr,p⟩;have p:aJ D W j R H A (λb _ _ w=>Q b w) ((f L O).bind λx c=>(g L c).bind λy i=>(r x y i).bind xf):=p;refine s_ (aY (sub ha I sr mr p) ?_) (jN ho);rintro u s1 ⟨v,n,t,c,e,I1,r1,Y,F,K,d1,p1⟩;refine aY (sub hb I1 F K p1) ?_;rintro T s2 ⟨S,M,U,i,k,I2,r2,E,Z,J,d2,p2⟩;refine aY (h l s2 A M j k i t U v S u T (λz n=>∃t c e,aO k M e n/\aL D j e n c/\aZ D j e n t z/\aJ D W j e n A (λb _ _ w=>Q b w) (xf t c)) I2 J (d1.step E) d2 r1 r2 (p2.bind.mono λt B C w st m q v d=>⟨t,B,C,st,m,d,q⟩)) ?_;rintro d s3 ⟨z,H3,I3,r3,t3,N,P,V,G,d3,o⟩;unfold xf at o;split at o
 ·cases d3;cases r3;exact wpAny_truthy_bool ⟨H3,I3,o.ok (aO.refl _ _) G⟩
 ·exact o.elim
theorem Y3(J:X.A.units+64<cLine):rH X D W .NotIn Vh:=by
 intro b s u H t d B x y v w E C Q I c a q f e p;unfold Vh at p;split at p
 ·split at p
  ·rename_i i _ z;obtain⟨L,K,⟨g,j,p⟩,h,G⟩:=p;have a:v=.str z:=a;obtain⟨ad,m,rfl⟩:=q;cases e;obtain⟨o,n,l⟩:=c.ob i ad _ m j;subst a;refine OG (by omega) I (fJ.k (k:=.inr z) n) f λF r=>⟨.bl (!(yn o (.inr z)).isSome),H,r,rfl,?_⟩;rw[uS l];exact h _ _ p d H (aO.refl _ _) c _ rfl
  ·exact p.elim
 ·exact p.elim
theorem Vu:∀{kvs:List (Key×T)}{gs:List (Key×V)},bE D φ α H kvs gs->qN z kvs=aA t->∃v,yn gs z=aA v/\aZ D φ α H t v
 |[],_,h,e=>by cases e
 |p::r,_,h,e=>by
  obtain⟨v,q,rfl,d,l⟩:=h;unfold qN at e;by_cases a:p.1=z
  ·rw[if_pos a] at e;cases e;exact⟨v,by rw[kX (p:=(p.1,v)) a],d⟩
  ·rw[if_neg a] at e;obtain⟨b,f,c⟩:=Vu l e;exact⟨b,by rw[xV (p:=(p.1,v)) a];exact f,c⟩
end
noncomputable abbrev Az(g:List (Nat×De))(n:Nat)(o f:De):De:=λd e=>(o d e).bind λt c=>(Z4 t n c).bind λw b K Z=>∃p:Nat×(Nat×De)×List T,(g[p.1]?=aA p.2.1/\w=Yr p.1 p.2.1.1 p.2.2)/\((f d b).bind λx a=>p.2.1.2 (aA x::p.2.2.map aA) a) K Z
noncomputable abbrev Me(ds:List Ds):De:=λa b K Z=>qd ds a b (En.fn K Z)
noncomputable abbrev A8(jt j:Nat)(fs:List Nat):De:=λc (a:aK) K _=>(∃i:Nat,a[i]?=aA (MO.tab jt))/\∃b:List T,fs.map (Vj c)=b.map aA/\K (Yr j jt b) a
noncomputable def ZN:aG:=⟨#[38]⟩
section
variable {X:Cx}{D:DP}{W:XW}{Γ:Cn}{k:Nat}{pins:List (aF×bD)}{s:Shared}{σ:St}{H:Hp}{φ α:List aF}{τ:Sl}{μ:aK}{g:De}{a b c:aI}{pos:Pos}
theorem RA{c:aF}(I:Inv X pins σ H s)(i:X.env.cells.lookup x=aA c)(A:X.fn x=aD)(hs:X.s₀.heap.objs.size<=c)(w:H c=aE)(ho:s.heap.get? c=aA o)(hd:o.data=.cell v):Inv X pins σ (upd H c (.frz o (.ext λ_=>True))) s:=by
 have st:∀b u,H b=aA u->upd H c (.frz o (.ext λ_=>True)) b=aA u:=λb u q=>by rw[z9 (zH q w)];exact q
 refine⟨I.ok,I.os,I.bare,⟨I.base.keep,I.base.slot,λb f e n g=>?_,I.base.there,λb h e=>st b _ (I.base.tups b h e),λb f u e=>st b _ (I.base.frzs b f u e),λb k e=>?_⟩,I.loc,I.cell,?_,λy j e=>?_,λp t=>?_,λb l e=>?_,I.len⟩
 ·rw[z9 (d6 (dL (cG e) hs))];exact I.base.free b f e n g
 ·obtain⟨a,q⟩:=I.base.tbls b k e;exact⟨a,st b _ q⟩
 ·rw[z9 (cX (I.cne x c i))];exact I.free
 ·by_cases z:j=c
  ·subst z;rw[I.ok.inj _ _ _ e i];exact .inr ⟨A,o,_,z5⟩
  ·rw[z9 z];exact I.freeC y j e
 ·obtain⟨e,n,r,m,d⟩:=I.pin p t;have:p.1≠c:=λz=>by rw[z,ho] at e;cases e;exact d _ hd
  exact⟨e,by rw[z9 this];exact n,r,m,d⟩
 ·by_cases z:b=c
  ·subst z;rw[z5] at e;cases e;exact⟨ho,trivial,⟨o,ho⟩,λ_ _ _ _=>trivial⟩
  ·rw[z9 z] at e;exact (I.hok b l e).stay (λ_ _ _ q=>q) (λb q=>st b _ q) λb h q=>st b _ q
theorem JD(C:Ck D W Γ X k){ls:List bO}(KM:lF D ls)(R:Γ.lam.isSome=aB):∀{fr:List aG}{fs:List Nat}{ts:List T}{H:Hp},(∀x∈fr,x∈Γ.fz/\x∈Γ.cel)->js Γ.N fr=aA fs->fs.map (Vj τ)=ts.map aA->Inv X pins σ H s->bA D φ α H τ σ->aL D φ α H μ->
  ∃(O:Hp) (cs:List aF),Inv X pins σ O s/\ko H O/\fr.map (λx=>X.env.cells.lookup x)=cs.map aA/\aN D φ α O (ts.map λt=>.clo 200 [t]) (cs.map V.ref)
 |[],fs,ts,H,_,g,p,I,A,f=>by
  cases g;cases ts with
  |nil=>exact⟨H,[],I,λ_ _ e=>e,rfl,rfl⟩
  |cons _ _=>cases p
 |x::fr,fs,ts,H,U,g,p,I,A,f=>by
  simp only[js] at g;split at g
  ·rename_i i is S L;cases g;cases ts with
   |nil=>cases p
   |cons t ts=>
    have j:=p;simp only[dC,Cw] at j;obtain⟨ht,F⟩:=j;obtain⟨hz,hc⟩:=U x eG;obtain⟨v,hv,d⟩:=A.val i t (WK.mp ht);obtain⟨hf,G⟩:=C.kfz R x hz;obtain⟨m,_,J⟩:=I.loc;obtain⟨u,ru,lk⟩:=J i x v (by rw[C.hN];exact vh S) hv (C.vis x (wD S));have kd:=C.cel x hc;rcases lk with⟨z,_⟩|⟨_,c,ec,o,Q,hd⟩
    ·rcases kd with q|q<;>(rw[z] at q;cases q)
    ·obtain⟨r,l,I1,B,e1,n1,n2⟩:∃r l,Inv X pins σ r s/\ko H r/\r c=aA (.frz o l)/\c∉φ/\c∉α:=by
      rcases I.freeC x c ec with q|⟨_,P,Z,q⟩
      ·exact⟨_,_,RA I ec hf (G c ec) q Q hd,za q,z5,zm f q,zo f q⟩
      ·have Y:s.heap.get? c=aA P:=(I.hok c _ q).1;rw[Q] at Y;cases Y;refine⟨H,Z,I,λ_ _ e=>e,q,λz=>?_,λz=>?_⟩
       ·obtain⟨w,e,n⟩:=f.phi c z;rw[q] at e;cases e;cases n
       ·obtain⟨E,h⟩:=lq.mp z;have K:E<μ.length:=by rw[←f.len];exact (bQ.mp h).1
        obtain⟨w,e,n⟩:=(f.ob E c μ[E] h (by simp[K])).some;rw[q] at e;cases e;cases n
     have st:=aO.new (α:=α) B;obtain⟨H2,cs,I2,a,M,dl⟩:=JD C KM R (fr:=fr) (fs:=is) (ts:=ts) (λy hy=>U y (dN _ hy)) L F I1 (A.step st) (f.new B);refine⟨H2,c::cs,I2,λb o e=>a b o (B b o e),by simp[ec,M],⟨.ref c,cs.map V.ref,rfl,⟨c,aA (.frz o l),[v],rfl,KM.ce c o u v l hd ru,λP e=>?_,v,[],rfl,(d.step st).step (aO.new a),rfl⟩,dl⟩⟩;cases e;exact⟨n1,n2,a _ _ e1⟩
  ·cases g
theorem Sm{P:cF}{c:aF}(p:xk q c l cl h):bB P w H h q (.ext (xk q c l cl)):=by
 obtain⟨g,f,b,a,e⟩:=id p;refine⟨p,⟨_,e⟩,λj i p d=>?_⟩;obtain⟨g,f,b,a,e⟩:=p;exact⟨g,f,b,a,d _ e⟩
theorem M6{l:bO}{line i:Nat}{c P:aF}(I:Inv X pins σ H s)(f:aL D φ α H μ)(hi:μ[i]?=aA (.tab l.jt))(k:D.tabs l.jt=aA (P,C,l.qn))(b:pos∈C)
  (a:X.env.code=.ref c) (m:lr X.base c P) (n:X.base.BuiltinsAt X.mg P) (e:mq l.sc X.env=pure cl)
  (h:∀q j d doc u B,Inv X ((q,{cls:=.type "function",data:=.func (Bg l.nm l.qn ⟨[],[⟨l.y,aE,pa⟩],aE,[],[],aE,[]⟩ l.fb l.sc cl doc ((X.mg "__name__").getD .none) (.ref j) d)})::pins) σ u B->aO α H α u->aL D φ α u μ->j∉α->u j=aA (.ext (qC j l.qn))->(j∉φ/\dX X u q/\∀p∈pins,p.1≠q)->Q (.ref q) B) :
  wpAny (aQ X.prog X.w) X.A (oU l.nm l.qn ⟨[],[⟨l.y,aE,pa⟩],aE,[],[],aE,[]⟩ l.fb l.sc X.env [] [] [] pos line) Q X.xe s:=by
 obtain⟨x,t,y,body,r,fr,g,o⟩:=l;cases o with
 |none=>exact JE I f hi k b a m n e λq j d u B=>h q j d .none u B
 |some v=>exact RW I f hi k b a m n e λq j d doc u B=>h q j d doc u B
theorem YH(C:Ck D W Γ X k){pa pl:Pos}{j line i:Nat}(B:Γ.lam=aA (l.jt,u))(Q:pl∈u)(hU:ZN∈Γ.U)(hg:Γ.gl ZN=.kap ls)(hj:ls[j]?=aA l)(d:frees l.sc=l.fr)(S:l.fr.Nodup)(E:∀x∈l.fr,x∈Γ.fz/\x∈Γ.cel)(T:js Γ.N l.fr=aA fs)
  (I:Inv X pins σ H s) (sr:bA D φ α H τ σ) (mr:aL D φ α H μ) (hi:μ[i]?=aA (.tab l.jt)) (O:fs.map (Vj τ)=ts.map aA):X.env.qual++Γ.lnm=l.qn/\
  wpAny (aQ X.prog X.w) X.A (oU l.nm l.qn ⟨[],[⟨l.y,aE,pa⟩],aE,[],[],aE,[]⟩ l.fb l.sc X.env [] [] [] pl line) (λv s'=>∃q M,v=.ref q/\Inv X pins σ M s'/\aO α H α M/\aL D φ α M μ/\aZ D φ α M (Yr j l.jt ts) (.ref q)) X.xe s:=by
 obtain⟨hk,c,P,m,hC,hB,K⟩:=C.lam _ u B;have gq:=(C.glU _ hU).1;rw[hg] at gq;have KM:=gq.2;obtain⟨P',pos',hD'⟩:=KM.tb j l hj;have z:X.env.qual++Γ.lnm=l.qn:=by
  have:=K.symm.trans hD';simp only[o0,Prod.mk.injEq] at this;exact this.2.2
 refine⟨z,?_⟩;rw[z] at K;obtain⟨H1,cs,I1,t,F,dl⟩:=JD C KM (by rw[B];rfl) E T O I sr mr;have g:∀x∈frees l.sc,∃c,X.env.cells.lookup x=aA c:=λx f=>I.ok.has x (C.cel x (E x (by rw[←d];exact f)).2);obtain⟨cl,Y,G,hc2⟩:=ZG g;have cat:YU l.fr cl cs:=by
  refine⟨?_,?_,λx a e=>by rw[←d];exact (G x a e).2⟩
  ·rw[←F];refine pA λx f=>?_;obtain⟨c,e⟩:=hc2 x (by rw[d];exact f);rw[e,(G x c e).1]
  ·have q:(cs.map aA).Pairwise (·≠·):=by
    rw[←F,lj];refine Hm (λ{a b} ha hb R e=>R ?_) S;obtain⟨c,e1⟩:=g a (by rw[d];exact ha);exact I.ok.inj a b c e1 (by rw[←e];exact e1)
   rw[lj] at q;exact q.imp λh e=>h (congrArg aA e)
 refine M6 I1 (mr.new t) hi K Q m hC hB Y λq p ctv doc H2 s2 I2 r L hca Z f=>?_;have ho:=(I2.pin _ (dU _ eG)).1;have np:xk q p l cl s2.heap:=⟨pa,_,ctv,doc,ho⟩;have I4:=KU (o:=.ext (xk q p l cl)) (qT I2) f.2.1 f.2.2 (Sm np);have n:=f.2.1.free;have J:ko H2 (upd H2 q (.ext (xk q p l cl))):=za n;refine⟨q,_,rfl,I4,(aO.new t).trans (r.trans (aO.new J)),L.new J,?_⟩;refine⟨q,_,_,rfl,KM.fn j l q p cl cs hj cat,λo e=>?_,.ref p,cs.map V.ref,rfl,⟨p,_,[],rfl,KM.co _ _ _ _ p K,λo e=>?_,rfl⟩,(dl.step r).step (aO.new J)⟩
 ·cases e;exact⟨zm L n,zo L n,z5⟩
 ·cases e;exact⟨f.1,hca,J _ _ Z⟩
theorem Ri (C:Ck D W Γ X k) {pa c:Pos}(b:l.sb=aE) (h:Γ.lnm="<lambda>") (o:Γ.lam=aA (l.jt,u)) (g:c∈u) (L:ZN∈Γ.U) (K:Γ.gl ZN=.kap ls) (G:ls[j]?=aA l) (t:frees l.sc=l.fr) (n:l.fr.Nodup) (p:∀x∈l.fr,x∈Γ.fz/\x∈Γ.cel) (r:js Γ.N l.fr=aA fs) :
  PE X (.Lambda ⟨[],[⟨l.y,aE,pa⟩],aE,[],[],aE,[]⟩ l.body l.sc c) (aX D W (A8 l.jt j fs)):=by
 rintro w s V H Q I ⟨S,z,T,Y,A,E,K0,Z0,⟨⟨i,J⟩,Z,e,B⟩,F,k2⟩;obtain⟨f,a⟩:=YH (pa:=pa) (line:=c.line) C o g L K G t n p r I A E J e;have O:l.nm="<lambda>":=by unfold bO.nm;rw[b]
 have M:l.fb=.expr l.body:=by unfold bO.fb;rw[b]
 rw[O,M,←f,h] at a;refine CH rfl (aY a ?_);rintro v s' ⟨q,R,rfl,P,st,m,d⟩;exact⟨.ref q,R,P,rfl,F _ _ B z _ st m _ d⟩
end
section
variable {D:DP}{φ α:List aF}{H:Hp}
structure io(H:Hp)(c:aF)(x:V):Prop where
 ex:∃(o:bD) (ob:HO) (u:aC),H c=aA (.frz o ob)/\o.data=.cell (aA u)/\RelV x u
noncomputable def Oq(D:DP):Prop:=∀c b a,D.clo 200 c b a->∃(x:V) (u:aC) (o:bD) (d:HO),a=[x]/\RelV x u/\Obj.data o=.cell (aA u)/\b=aA (HO.frz o d)
theorem Wf(b:Oq D):∀{ts:List T}{cs:List aF},aN D φ α H (ts.map λt=>.clo 200 [t]) (cs.map V.ref)->∃vs:List V,aN D φ α H ts vs/\vs.length=cs.length/\∀(i:Nat) (c:aF),cs[i]?=aA c->∃x,vs[i]?=aA x/\io H c x
 |[],[],_=>⟨[],rfl,rfl,λi c e=>by simp at e⟩
 |[],_::_,h=>by cases (show _=[] from h)
 |t::ts,[],h=>by obtain⟨_,_,e,_⟩:=h;cases e
 |t::ts,c::cs,h=>by
  obtain⟨v,r,e,⟨a,A,w,q,j,f,dl⟩,n⟩:=h;cases e;cases q;obtain⟨vs,m,l,k⟩:=Wf b n;obtain⟨x,u,o,g,rfl,r,hd,rfl⟩:=b _ _ _ j;obtain⟨y,z,p,d,B⟩:=dl;cases p;refine⟨x::vs,⟨x,vs,rfl,d,m⟩,by simp[l],λi s e=>?_⟩;cases i with
  |zero=>cases e;exact⟨x,rfl,⟨o,g,u,(f _ rfl).2.2,hd,r⟩⟩
  |succ i=>exact k i s (by simpa using e)
theorem V8(h:YU fr cl cs)(e:cl.lookup x=aA c):∃i:Nat,fr[i]?=aA x/\cs[i]?=aA c:=by
 obtain⟨i,a⟩:=lq.mp (h.2.2 x c e);refine⟨i,a,?_⟩;have:=congrArg (λl=>l[i]?) h.1;simp only[c9,a,o_,e] at this;cases q:cs[i]? with
 |none=>rw[q] at this;cases this
 |some b=>rw[q] at this;cases this;rfl
theorem Xl(h:YU fr cl cs){i:Nat}(e:fr[i]?=aA x):∃c,cl.lookup x=aA c/\cs[i]?=aA c:=by
 have:=congrArg (λl=>l[i]?) h.1;simp only[c9,e,o_] at this;cases q:cs[i]? with
 |none=>rw[q] at this;cases this
 |some a=>rw[q] at this;exact⟨a,by simpa using this,rfl⟩
noncomputable def Y8(Γ:Cn)(l:bO):Bool:=
 (l.sc.kind==.function)&&!l.sc.isCoroutine&&!l.sc.isGenerator&&l.sc.names.all (λp=>p.2 != .cell)&&(frees l.sc==l.fr)&&decide ((l.y::l.fr).Nodup)&&(l.sc.names.lookup l.y==aA .local)&&l.fr.all (λx=>l.sc.names.lookup x==aA .free)&&
 (l.y::l.fr).all (λx=>x != ("__debug__":aG)&&x != ("__classdict__":aG))&&Γ.G.all (λx=>Γ.U.contains x&&l.sc.names.lookup x==aA .globalImplicit)
noncomputable def yD(Γ:Cn)(l:bO)(G:List aG):Cn:={Γ with N:=l.y::l.fr,G:=G,cel:=l.fr,own:=[],lam:=aE,fz:=l.fr,calm:=aB}
noncomputable def Ag (R:dR)(n:Nat)(Γ:Cn)(l:bO):Prop:=(l.sb=aE/\(aR R n).e Γ l.body=aA l.g)\/∃q ds,l.sb=aA q/\zh ((aR R n).s Γ) q.2=aA ds/\l.g=Me ds
theorem Uy{R:dR}{P:cF}{w:dJ}{K:bM}{base:aT}{Γ:Cn}{G:List aG}(HR:cI D R){n k0:Nat}{l:bO}(M:fY D P w K mg base Γ k0)(hsc:Y8 (yD Γ l G) l=aB)(hE:Ag R n (yD Γ l G) l)
  {A:eM}{s:a_}{a c:aF}{cs:List aF}(hr:cB (k0+1) A) (e0:dI P w K mg base A outer s H) (ho:xk a c l cl s.heap) (hrec:s.heap.CodeRec (.ref c) l.qn) (L:YU l.fr cl cs)
  {ts:List T}{vs:List V}(dts:aN D φ α H ts vs) (hvl:vs.length=cs.length) (hcv:∀(i:Nat) (c:aF),cs[i]?=aA c->∃x,vs[i]?=aA x/\io H c x)
  {u:aC}{x:V}{Q:VK}{t:T}{μ:aK}{Z0:Xp}{E:XK}(r:RelV x u) (d:aZ D φ α H t x) (mr:aL D φ α H μ) (p:l.g (aA t::ts.map aA) μ K0 Z0) (hK0:∀t' U,K0 t' U->∀j C v',aO α H j C->aL D φ j C U->aZ D φ j C t' v'->Q v' C) (hZ0:∀c fs U,Z0 c fs U->∀j C cv d,aO α H j C->aL D φ j C U->iG D c fs cv->bW D φ j C fs d->E cv d C) :
  fP (aQ P w) A (.call (.ref a) ⟨[u],[]⟩) (CR (dG P w) outer P w H s Q E) s:=by
 obtain⟨pa,pm,ctv,doc,ho⟩:=ho;simp only[Y8,cH,f_,beq_iff_eq,nj,decide_eq_true_eq,bne_iff_ne,ne_eq] at hsc;obtain⟨⟨⟨⟨⟨⟨⟨⟨⟨h1,h2⟩,h3⟩,h4⟩,h5⟩,h6⟩,h7⟩,h8⟩,h9⟩,h10⟩:=hsc;have lim:s.heap.NoLimit:=e0.mod.nolimit.keeps λb o e=>(e0.bs b o e).1;have hfl:l.fr.length=cs.length:=by have:=congrArg iM L.1;simpa using this
 have Z:∀z k,cl.lookup z=aA k->∃(i:Nat) (v:V),l.fr[i]?=aA z/\vs[i]?=aA v/\io H k v:=λz k e=>by
  obtain⟨i,e1,e2⟩:=V8 L e;obtain⟨v,e3,e4⟩:=hcv i k e2;exact⟨i,v,e1,e3,e4⟩
 let env:Env:=newEnv l.sc s.heap.objs.size bR cl (l.qn++".<locals>.") (aA a) (.ref c) aE lh;let Y:Cx:={prog:=P,w:=w,K:=K,mg:=mg,base:=base,A:=A.deeper env,N:=l.y::l.fr,s₀:=s,H₀:=H,env:=env,outer:=outer,stack:=env::outer,ex:=[],fn:=λ_=>aD,calm:=aB,pn:=[],xe:=λ_ _=>False}
 have go:∀(cd:Env->Code) {R:Result->a_->Prop},(∀hh,Inv Y [] (aA x::vs.map aA) H {s with heap:=hh,toks:=s.toks+[(l.y,u)].length}->fP (aQ P w) A (cd env) R {s with heap:=hh,toks:=s.toks+[(l.y,u)].length})->
   wpAny (aQ P w) A.in1 (lc (Bg l.nm l.qn ⟨[],[⟨l.y,aE,pa⟩],aE,[],[],aE,[]⟩ l.fb l.sc cl doc pm (.ref c) ctv) ⟨[u],[]⟩) (λbinds s₁=>wpAny (aQ P w) A.in1 (newFunctionEnv l.sc bR cl binds (l.qn++".<locals>.") (aA a) (.ref c) aE lh) (λenv s₂=>s₂.heap.NoLimit/\fP (aQ P w) A (cd env) R s₂) (λe s'=>R (.error e) s') s₁) (λe s'=>R (.error e) s') s:=λcd R kk=>by
  refine lO (ij rfl rfl) (DK h4 (λz f=>?_) (λhh hns hsb=>?_) h1)
  ·rw[bV.mp f];exact h7
  have S:∀b o,s.heap.get? b=aA o->hh.get? b=aA o:=λb o e=>hsb.extBut b o (d6 (cG e)) (bZ _ e);refine⟨lim.keeps S,kk hh ?_⟩
  refine⟨⟨e0.mod,h1,rfl,rfl,bH _,λy z k q1 q2=>?_,λy hy=>?_,λy k z=>(by cases z),λ_=>hr.hd,DY e0.frames,.inr ⟨rfl,rfl⟩,λb z=>absurd z (by simp[Y]),e0.bs,e0.bsz,λb _ _=>(by simp[Y]),λb z=>absurd z (by simp[Y]),e0.funs,e0.frf⟩,
   rfl,e0.bare,Un.kept S,⟨_,hns,λi y v q1 q2 q3=>?_⟩,λy k q=>?_,e0.hok.fresh (bH _),λy k q=>?_,λp hp=>absurd hp (by simp[Y]),e0.hok.kept S,by simp[Y,hvl,hfl]⟩
  ·obtain⟨i1,a1,a2⟩:=V8 L q1;obtain⟨i2,b1,b2⟩:=V8 L q2;have:i1=i2:=by
    obtain⟨l1,g1⟩:=bQ.mp a2;obtain⟨l2,g2⟩:=bQ.mp b2;exact (oY L.2.1).mp (g1.trans g2.symm)
   rw[this,b1] at a1;exact (bU a1).symm
  ·rcases hy with hy|hy
   ·exact absurd rfl (h4 _ (iS hy))
   ·obtain⟨i,hi⟩:=lq.mp (show y∈l.fr by rw[←h5];exact vu.mpr ⟨_,iS hy,rfl,rfl⟩);obtain⟨k,e,_⟩:=Xl L hi;exact⟨k,e⟩
  ·cases i with
   |zero=>
    cases q1;cases q2;exact⟨u,r,.inl ⟨h7,by simp[iy]⟩⟩
   |succ i=>
    have q1:l.fr[i]?=aA y:=q1;obtain⟨k,e1,e2⟩:=Xl L q1;obtain⟨v',e3,⟨o,ob,u',k1,k2,k3⟩⟩:=hcv i k e2;have q2:(vs.map aA)[i]?=aA (aA v):=q2;rw[c9,e3] at q2;cases q2;exact⟨u',k3,.inr ⟨.inr (h8 y (cP q1)),k,e1,o,S _ _ (e0.hok k _ k1).1,k2⟩⟩
  ·obtain⟨i,v,_,_,⟨o,ob,u',k1,k2,k3⟩⟩:=Z y k q;exact⟨aA u',o,S _ _ (e0.hok k _ k1).1,k2⟩
  ·obtain⟨i,v,_,_,⟨o,ob,u',k1,k2,k3⟩⟩:=Z y k q;exact .inr ⟨rfl,o,ob,k1⟩
 have F:i3 Y env outer s.heap.objs.size:=⟨rfl,rfl,rfl⟩;have hr':cB k0 Y.A:=hr.deeper env;have kd:∀z∈l.y::l.fr,rC l.sc z:=λz f=>(cO.mp f).elim (λq=>.inl (by rw[q];exact h7)) λq=>.inr (.inr (h8 z q));have hyf:l.y∉l.fr:=by have:=h6;rw[lY] at this;exact this.1
 have sto0:mR (Y.wish (XP Y (e_ E))) (yD Γ l G).sto:=λz f=>by
  obtain⟨z1,z2⟩:=fA.mp f;have e:z=l.y:=(cO.mp z1).resolve_right λq=>by
   have:(!l.fr.contains z)=aB:=z2;rw[ic.mpr q] at this;cases this
  rw[e];exact⟨.inl h7,.inr h7⟩
 have lcl0:∀z∈l.y::l.fr,l.fr.contains z=aD->l.sc.names.lookup z=aA .local:=λz f hc=>by
  have e:z=l.y:=(cO.mp f).resolve_right λq=>by
   rw[ic.mpr q] at hc;cases hc
  rw[e];exact h7
 have C2:Sk D (e_ E) (yD Γ l G) (Y.wish (XP Y (e_ E))) k0:={hK:=M.hK,hN:=rfl,nd:=h6,vis:=kd,dbg:=λz f=>⟨beq_eq_false_iff_ne.mpr (h9 z f).1,beq_eq_false_iff_ne.mpr (h9 z f).2⟩,dbG:=λz f=>(M.glo z (ic.mp (h10 z f).1)).2,glb:=λz f=>(h10 z f).2,glo:=λz f=>(M.glo z (ic.mp (h10 z f).1)).1,glU:=M.glo,cel:=λz f=>.inr (h8 z f),isi:=M.isi,fld:=M.fld,xcx:=M.xcx,ocx:=M.ocx,clv:=M.clv,clm:=λ_=>rfl,rom:=λ_=>hr',rmh:=⟨hr'.dp,hr'.un⟩,xe:=λe s p=>jM p,frm:=⟨_,_,_,F.stk,F.f0,F.fe⟩,lam:=c6.no rfl,kfz:=(λh=>by cases h),sto:=sto0,lcl:=lcl0,pso:=λe s p=>y9 F (jL p) e s p,xmt:=M.xmt};have sr:bA D φ α H (aA t::ts.map aA) (aA x::vs.map aA):=by
  refine⟨by simp[dts.length],λi t' e=>?_⟩;cases i with
  |zero=>cases e;exact⟨x,rfl,d⟩
  |succ i=>
   have e:(ts.map aA)[i]?=aA (aA t'):=e;rw[c9] at e;cases q:ts[i]? with
   |none=>rw[q] at e;cases e
   |some t2=>
    rw[q] at e;cases e;obtain⟨v,hv,dv⟩:=dts.get q;exact⟨v,by show (vs.map aA)[i]?=_;rw[c9,hv];rfl,dv⟩
 have X:∀e s',XP Y (e_ E) e s'->wpAny (aQ P w) (A.deeper env) (ow env e) (λ_ O=>CR (dG P w) outer P w H s Q E (.error e) O) (λe' O=>CR (dG P w) outer P w H s Q E (.error e') O) s':=λe s' p=>Je (M:=aQ P w) (F2:=λe' O=>dG Y.prog Y.w Y.outer Y.H₀ Y.s₀ E e' O) F (jL p) rfl p;rcases hE with⟨hs0,hE⟩|⟨q,ds,hs0,hds,hgq⟩
 ·refine DH hr.depth ho rfl h2 h3 (show l.fb=.expr l.body by unfold bO.fb;rw[hs0]) hrec (go (λenv=>.expr l.body env) λhh I=>?_);have B:=(w8 HR n).e C2.toCk hE [] _ _ H Q (I.wish _) ⟨φ,α,_,μ,sr,mr,_,_,p,λa U e j C st m v' dv=>hK0 a U e j C v' st m dv,λc fs U z j C cv dd st m ad xd=>hZ0 c fs U z j C cv dd st m ad xd⟩;refine DG (eI B (λv s' hs=>?_) X);obtain⟨v',C,J,rv,q'⟩:=hs;exact⟨v',C,J.os,J.bare,J.base,J.hok,rv,q'⟩
 ·rw[hgq] at p;refine D4 hr.depth ho rfl h2 h3 (show l.fb=.stmts q.2 by unfold bO.fb;rw[hs0]) hrec (go (λenv=>.func q.2 env) λhh I=>?_);have B:=wA (qZ (w8 HR n) C2 hds) [] _ _ H {nx:=λ_ C=>Q .non C,rt:=Q} (I.wish _) ⟨φ,α,_,μ,sr,mr,_,p,λ_ μ1 z j C σ' st m _=>hK0 _ _ z j C .non st m rfl,λ_ _ z=>z.elim,λ_ _ z=>z.elim,λt μ1 z j C v st m dv=>hK0 _ _ z j C v st m dv,λc fs _ μ1 z j C σ' cv dd st m _ ad xd=>hZ0 c fs μ1 z j C cv dd st m ad xd⟩;refine codeAny_func (eI B (λfl s' hs=>?_) X);cases fl with
  |ret u=>obtain⟨v',σ',C,J,rv,q'⟩:=hs;exact⟨v',C,J.os,J.bare,J.base,J.hok,rv,q'⟩
  |next=>obtain⟨σ',C,J,q'⟩:=hs;exact⟨.non,C,J.os,J.bare,J.base,J.hok,rfl,q'⟩
  |brk=>obtain⟨_,_,_,q'⟩:=hs;exact q'.elim
  |cont=>obtain⟨_,_,_,q'⟩:=hs;exact q'.elim
end
section
variable {X:Cx}{D:DP}{W:XW}{Γ:Cn}{k:Nat}{pins:List (aF×bD)}{s:Shared}{σ:St}{H:Hp}{φ α:List aF}{τ:Sl}{μ:aK}{f:De}{a c:aI}{pos:Pos}
theorem M_(C:Ck D W Γ X k)(hU:ZN∈Γ.U)(hg:Γ.gl ZN=.kap ls)(hn:(m,n)∈Γ.fld)(hc:Γ.calm=aB)(hp:qz o=aB)(M:(E.endLine==pos.line)=aB)(L:aP a=aB)(ho:PE X o (aX D W go))(ha:PE X a (aX D W f)) :
  PE X (.Call (.Attribute o m E) [a] [] pos) (aX D W (Az (ls.map λl=>(l.jt,l.g)) n go f)):=by
 have gq:=(C.glU _ hU).1;rw[hg] at gq;rintro J s Y H Q I ⟨F,α,τ,μ,sr,mr,p⟩;rw[arm_eval_Call,qK hp];refine wpAny_bind (aY (sub ho I sr mr p) ?_);rintro u s1 ⟨v,S,t,μ1,i,I1,r1,st1,sr1,mr1,d1,p1⟩;refine wpAny_bind (lQ ?_);have N:methodCallForm ([a].length+([]:List iu).length) (fL pos (d_ [a] X.env)) (la pos (li [] X.env))=aB:=Gi (by simp[L]) (by show (1:Nat)<30;decide);have hpos:oK aB o X.env E pos=pure pos:=by unfold oK;simp[M]
 have run:∀{O C0 dx:aF}{gs:List (aG×V)}{z:V}{t0:T},S O=aA (.ins C0 dx gs)->gu X.K C0->cJ X.K C0 m->gs.lookup m=aA z->u=.ref O->aZ D F i S t0 z->aJ D W F i S Y (RV D F Q) (λK Z=>∃p:Nat×(Nat×De)×List T,((ls.map λl=>(l.jt,l.g))[p.1]?=aA p.2.1/\t0=Yr p.1 p.2.1.1 p.2.2)/\((f τ μ1).bind λx μ3=>p.2.1.2 (aA x::p.2.2.map aA) μ3) K Z)->
   wpAny (aQ X.prog X.w) X.A (oI o m E pos X.env u ([a].length+([]:List iu).length) (fL pos (d_ [a] X.env)) (la pos (li [] X.env))) (EP X J Y Q) X.xe s1:=λ{O C0 dx gs z t0} e1 cl na lk hu dz p=>by
  subst hu;obtain⟨⟨j,⟨jt,gg⟩,ts⟩,⟨hj,rfl⟩,p2⟩:=p.ex1;rw[c9] at hj;obtain⟨l,hl,e⟩:=lB.mp hj;cases e;obtain⟨fa,kk,rfl,hkk,hF⟩:=gq.1 j l ts F i S z hl dz;unfold oI;rw[N];refine wpAny_bind (wpAny_holding (Ju I1 e1 cl na lk λu' s1' I1' r'=>?_));cases (show u'=cY fa from r');refine wpAny_bind (lO hpos ?_);refine PySem.W.callWith_F (first:=[]) (hF X.A X.stack s1' I1'.env0).1 (aY (zD ha qp (z4 L) pos J s1' Y S (λvs R=>∃v t G b,vs=[v]/\aO i S b R/\aL D F b R G/\aZ D F b R t v/\aJ D W F b R Y (RV D F Q) (l.g (aA t::ts.map aA) G)) I1' ⟨F,i,τ,μ1,sr1,mr1,p2.bind.mono λt h B P st m q v d=>⟨v,t,h,B,rfl,st,m,d,q⟩⟩) ?_) (z4 L) rfl;rintro us s2 ⟨vs,R,I2,rv,v2,t2,G,b,rfl,st2,m2,d2,K0,Z0,q6,k1,k2⟩;obtain⟨ux,rfl,rx⟩:=vals1 rv;obtain⟨fa',kk',e',hkk',hF'⟩:=gq.1 j l ts F b R _ hl (dz.step st2);cases e';have hE:=hF' X.A X.stack s2 I2.env0;refine⟨hE.1,lM (le (hE.2 ((C.rom hc).mono hkk') ux v2 Q t2 G K0 Z0 (λcv d P=>W cv d Y P) rx d2 m2 q6 (λt' h z B P v' st m dv=>k1 t' h z B P st m v' dv) (λc fs h z B P cv d st m ad xd=>k2 c fs h z B P cv d st m ad xd)) λr s' hq=>?_)⟩;cases r with
  |error e=>exact C.xe _ _ (uf I2 hq λcls d P q=>q)
  |ok fl=>
   cases fl with
   |ret u=>exact I2.after hq
   |next=>exact eT hq
   |brk=>exact eT hq
   |cont=>exact eT hq
 unfold Z4 at p1;split at p1
 ·split at p1
  ·rename_i c fs _ w hw;obtain⟨ad,C0,dx,gs,rfl,_,_,e1,e2,l⟩:=d1;obtain⟨y,z,hy,hz,dz⟩:=l.look hw;obtain⟨c0,c1,c2⟩:=C.fld c C0 m n e1 hn;rw[hy] at c0;cases c0;exact run e2 c1 c2 hz r1 dz p1
  ·exact aJ.elim p1
 ·obtain⟨c,fs,w,hi,hw,q⟩:=aJ.ex3 p1;obtain⟨ad,hi',rfl⟩:=d1;obtain⟨C0,dx,gs,e1,e2,l⟩:=mr1.ob _ ad _ hi' hi;obtain⟨y,z,hy,hz,dz⟩:=l.look hw;obtain⟨c0,c1,c2⟩:=C.fld c C0 m n e1 hn;rw[hy] at c0;cases c0;exact run e2 c1 c2 hz r1 dz q
 ·exact aJ.elim p1
end
noncomputable def AC (ls:List bO)(tbs:List (aF×List Pos×aG)):Nat->aF->Option HO->List V->Prop:=λn a d b=>
 (∃(j:Nat) (l:bO) (c:aF) (cl:List (aG×aF)) (cs:List aF),ls[j]?=aA l/\n=300+j/\YU l.fr cl cs/\b=.ref c::cs.map V.ref/\d=aA (.ext (xk a c l cl)))\/
 (n=200/\∃(x:V) (u:aC) (o:bD) (e:HO),b=[x]/\RelV x u/\o.data=.cell (aA u)/\d=aA (.frz o e))\/
 ∃(j:Nat) (q:aF×List Pos×aG),tbs[j]?=aA q/\j<100/\n=100+j/\b=[]/\d=aA (.ext (qC a q.2.2))
section
variable {P:Program}{w:World}{K:PySem.W.Frag}{mg:aG->Option aC}{base:aT}{n k0:Nat}
theorem O1{x:aG}{Γ:Cn}{G:bO->List aG}(HR:∀{D:DP},cI D R)(hb:tbs.length<=100)(I:∀l∈ls,(tbs[l.jt]?).map (·.2.2)=aA l.qn)
  (M:fY (l4 K A0 (AC ls tbs) λj=>tbs[j]?) P w K mg base Γ k0) (h:∀l∈ls,Y8 (yD Γ l (G l)) l=aB/\Ag R n (yD Γ l (G l)) l):cE (l4 K A0 (AC ls tbs) λj=>tbs[j]?) P w K mg base (k0+1) x (.kap ls):=by
 have Y:∀{j:Nat}{l:bO},ls[j]?=aA l->∃X b,tbs[l.jt]?=aA (X,b,l.qn):=λ{j l} e=>by
  obtain⟨⟨p1,p2,p3⟩,q1,y⟩:=lB.mp (I l (cP e));cases y;exact⟨p1,p2,q1⟩
 have lt:∀{j:Nat}{q:aF×List Pos×aG},tbs[j]?=aA q->j<100:=λe=>dL (bQ.mp e).1 hb;refine⟨λj l ts φ α H v L d=>?_,⟨λj l e=>Y e,λj l a c cl cs e h=>.inl ⟨j,l,c,cl,cs,e,rfl,h,rfl,rfl⟩,λc o u x F h1 V=>.inr (.inl ⟨rfl,x,u,o,F,rfl,V,h1,rfl⟩),λj X b qn c e=>.inr (.inr ⟨j,_,e,lt e,rfl,rfl,rfl⟩)⟩⟩;obtain⟨a,F,xs,rfl,S,J,v,q,hv,⟨c,C,xs2,k,O,i,_⟩,dl⟩:=d;rcases S with⟨j',l',c',cl,cs,e1,e2,W,e3,rfl⟩|⟨z,_⟩|⟨j',q',_,hj',z,_⟩
 ·have:j=j':=by lia
  subst this;rw[L] at e1;cases e1;rw[hv] at e3;injection e3 with e4 e5;rw[e4] at k;cases k;subst e5;have f:C=aA (.ext (qC c l.qn)):=by
   obtain⟨X,Z,hq⟩:=Y L;have:=lt hq;rcases O with⟨m,_,_,_,_,_,z,_⟩|⟨z,_⟩|⟨m,y,g,_,z,_,e⟩
   ·lia
   ·lia
   ·have:l.jt=m:=by lia
    subst this;rw[hq] at g;cases g;exact e
  subst f;refine⟨a,k0+1,rfl,bH _,λA B s e0=>?_⟩;have ha:=(J _ rfl).2.2;have N:=(i _ rfl).2.2;obtain⟨np,_⟩:=(show bB P w H s.heap a (.ext (xk a c l cl)) from e0.hok a _ ha);obtain⟨cr,_⟩:=(show bB P w H s.heap c (.ext (qC c l.qn)) from e0.hok c _ N);refine⟨?_,λhr u x Q t μ K0 Z0 E r dx mr p U T=>?_⟩
  ·obtain⟨_,_,_,_,V⟩:=np;exact⟨_,_,_,_,V⟩
  ·obtain⟨vs,h3,h4,h5⟩:=Wf (λc F xs S=>by
    rcases S with⟨m,_,_,_,_,_,z,_⟩|⟨_,z⟩|⟨m,y,_,z2,z,_⟩
    ·lia
    ·exact z
    ·lia) dl
   obtain⟨g1,g2⟩:=h l (cP L);exact Uy HR M g1 g2 hr e0 np cr W h3 h4 h5 r dx mr p U T
 ·lia
 ·lia
end
noncomputable def ro (e:aI):Option (aG×Pos×aG×Pos×aG×Pos×Pos):=(Zr e).bind λq=>(nP q.o).bind λo=>(Qi q.as).bind λa=>(nP a).bind λy=>aA (o.1,o.2,q.m,q.pa,y.1,y.2,q.pc)
theorem Gh(h:ro e=aA w):e=.Call (.Attribute (.Name w.1 w.2.1) w.2.2.1 w.2.2.2.1) [.Name w.2.2.2.2.1 w.2.2.2.2.2.1] [] w.2.2.2.2.2.2:=by
 obtain⟨q,f,h⟩:=aS h;obtain⟨o,d,h⟩:=aS h;obtain⟨a,c,h⟩:=aS h;obtain⟨y,b,h⟩:=aS h;cases h;rw[jq f,Wx d,vb c,Wx b]
noncomputable def G5 (a b:aI):Bool:=(ro a).isSome&&(ro a==ro b)
theorem My(h:G5 a b=aB):a=b:=by
 obtain⟨d,c⟩:=zy h;obtain⟨w,hw⟩:=pD.mp d;have c:=beq_iff_eq.mp c;rw[Gh hw,Gh (c.symm.trans hw)]
noncomputable def Yl(y:aG)(body:aI)(sc:Scope):List bO->Nat->Option (Nat×bO)
 |[],_=>aE
 |l::r,i=>match l.sb.isNone&&l.y==y&&l.sc==sc&&G5 l.body body with
  |true=>aA (i,l)
  |false=>Yl y body sc r (i+1)
theorem Jo{body:aI}:∀{ls:List bO}{i j:Nat},Yl y body sc ls i=aA (j,l)->i<=j/\ls[j-i]?=aA l/\l.y=y/\l.sc=sc/\l.body=body/\l.sb=aE
 |[],_,_,h=>by cases h
 |l'::r,i,j,h=>by
  unfold Yl at h;split at h
  ·rename_i q;cases h;simp only[cH,beq_iff_eq] at q;exact⟨bH _,by simp,q.1.1.2,q.1.2,My q.2,by simpa using q.1.1.1⟩
  ·obtain⟨c,b,a⟩:=Jo h;refine⟨by lia,?_,a⟩;rw[show j-i=(j-(i+1))+1 by lia,tD];exact b
noncomputable def wP:GM->Option (List bO)
 |.kap a=>aA a
 |_=>aE
theorem Yh(h:wP g=aA ls):g=.kap ls:=by
 cases g<;>first|(cases h;rfl)|cases h
noncomputable def UK:ER:=λr a e=>(pV e).bind λq=>(wP (a.gl ZN)).bind λb=>(Yl q.1 q.2.1 q.2.2.1 b 0).bind λz=>a.lam.bind λp=>(js a.N z.2.fr).bind λfs=>
 gd (a.lnm==("<lambda>":aG)&&a.U.contains ZN&&p.1==z.2.jt&&decide (q.2.2.2∈p.2)&&frees z.2.sc==z.2.fr&&decide (z.2.fr.Nodup)&&z.2.fr.all (λx=>a.fz.contains x&&a.cel.contains x)) (aA (A8 z.2.jt z.1 fs))
theorem RO:cM D UK:=by
 intro r H X W B k e d C h;unfold UK at h;obtain⟨q,m,h⟩:=aS h;obtain⟨F,i,h⟩:=aS h;obtain⟨⟨j,l⟩,g,h⟩:=aS h;obtain⟨⟨G,a⟩,f,h⟩:=aS h;obtain⟨fs,c,h⟩:=aS h;obtain⟨b,h⟩:=z8 h;cases h;simp only[cH,beq_iff_eq,decide_eq_true_eq,f_,ic] at b;obtain⟨⟨⟨⟨⟨⟨A,z⟩,y⟩,x⟩,w⟩,v⟩,u⟩:=b;obtain⟨E,rfl⟩:=XG m;obtain⟨_,t,s,p,o,n⟩:=Jo g;subst y;rw[←s,←p,←o];exact Ri C n A f x z (Yh i) (by simpa using t) w v u c
noncomputable def EV:ER:=λr b e=>(Zr e).bind λq=>(Qi q.as).bind λa=>(wP (b.gl ZN)).bind λc=>gd (qz q.o&&q.pa.endLine==q.pc.line) (gd (b.calm&&aP a) (gd (b.U.contains ZN&&q.m==("keeper":aG)) ((r.e b q.o).bind λgo=>(r.e b a).bind λf=>(b.fld.lookup q.m).bind λn=>aA (Az (c.map λl=>(l.jt,l.g)) n go f))))
theorem PB:cM D EV:=by
 intro r H X W s k e d C h;obtain⟨q,l,h⟩:=aS h;obtain⟨a,g,h⟩:=aS h;obtain⟨t,j,h⟩:=aS h;obtain⟨c,h⟩:=z8 h;obtain⟨b,h⟩:=z8 h;obtain⟨i,h⟩:=z8 h;obtain⟨go,p,h⟩:=aS h;obtain⟨f,o,h⟩:=aS h;obtain⟨n,m,h⟩:=aS h;cases h;rw[jq l,vb g];exact M_ C (by simpa using (zy i).1) (Yh j) (uX m) (zy b).1 (zy c).1 (zy c).2 (zy b).2 (H.e C p) (H.e C o)
end NH
namespace NH
open PySem PySem.Spec PyProof.Rows L2 PySem.W
noncomputable def zV (K:Frag)(x:aG)(st:bG):Prop:=∃f fd,nsIn K bR x=aA (aA (.ref f))/\me K x x st f fd
noncomputable def vo (K:Frag)(C:aF)(x q:aG)(st:bG):Prop:=∃f fd,dO K (.ref C) x=aA (aA (.ref f))/\isFn K (.ref f)=aB/\me K x q st f fd
noncomputable def Ve (K:Frag)(C:aF)(x q:aG)(st:bG):Prop:=∃f fd,nsIn K bR x=aA (aA (.ref C))/\dO K (.ref C) "__init__"=aA (aA (.ref f))/\isFn K (.ref f)=aB/\me K "__init__" q st f fd/\mW K C=aB/\fK K (.ref C)=aB
theorem dfp{K:Frag}{x:aG}{st:bG}{f:aF}{g:aC}{od an:Option aF}{d:Array (Option aC)}{kV doc e b ct:aC}(a:nsIn K bR x=aA (aA (.ref f)))(l:K.lookup f=aA ⟨g,od,.func (fnOf x x (zK st) (z3 st) (zu st) .none kV doc e an b ct),d⟩)(c:gx K b x=aB)(k:fK K (.ref f)=aB):zV K x st:=⟨f,_,a,yd l c k⟩
theorem mtp{K:Frag}{x q:aG}{st:bG}{f C:aF}{g:aC}{od an:Option aF}{d:Array (Option aC)}{kV doc e b ct:aC}(a:dO K (.ref C) x=aA (aA (.ref f)))(j:isFn K (.ref f)=aB)(l:K.lookup f=aA ⟨g,od,.func (fnOf x q (zK st) (z3 st) (zu st) .none kV doc e an b ct),d⟩)(c:gx K b q=aB)(k:fK K (.ref f)=aB):vo K C x q st:=⟨f,_,a,j,yd l c k⟩
theorem clp {K:Frag}{x q:aG}{st:bG}{f C:aF}{g:aC}{od an:Option aF}{d:Array (Option aC)}{kV doc e b ct:aC}(a:nsIn K bR x=aA (aA (.ref C))) (i:dO K (.ref C) "__init__"=aA (aA (.ref f))) (j:isFn K (.ref f)=aB) (l:K.lookup f=aA ⟨g,od,.func (fnOf "__init__" q (zK st) (z3 st) (zu st) .none kV doc e an b ct),d⟩) (c:gx K b q=aB) (k:fK K (.ref f)=aB) (m:mW K C=aB) (kk:fK K (.ref C)=aB):Ve K C x q st:=⟨f,_,a,i,j,yd l c k,m,kk⟩
noncomputable def PL:Nat->(List aC->Prop)->Prop
 |0,P=>P []
 |n+1,P=>∀a,PL n λl=>P (a::l)
theorem PL.all:∀{n:Nat}{P:List aC->Prop},PL n P->∀us:List aC,us.length=n->P us
 |0,_,h,[],_=>h
 |_+1,_,h,a::l,e=>PL.all (h a) l (su e)
noncomputable abbrev kI(st:bG):List aG:=(zK st).args.map (·.arg)
abbrev BU(x q:aG)(st:bG)(ps:List aG):Prop:=∀(kV a d:aC) (an:Option aF) (b ct:aC),PL ps.length λc=>lc (fnOf x q (zK st) (z3 st) (zu st) .none kV a d an b ct) ⟨c,[]⟩=pure (ps.zip c)
abbrev Tq(l:mh)(w:dJ)(K:Frag)(mg:aG->Option aC)(base:aT)(k:Nat)(gs:List (aG×GM)){A:ip}{clo:Nat->aF->Option HO->List V->Prop}{tabs:Nat->Option (aF×List Pos×aG)}:Prop:=bF l.prog w K mg base A clo k gs tabs
structure Pk(R:dR)(K:Frag)(mg:aG->Option aC)(base:aT)(A:ip)(cls fld:List (aG×Nat)):Prop where
 r:∀{D},cI D R
 i:K.In base
 n:base.Ns bR mg
 c:mQ K A cls fld=aB
section
variable {R:dR}{P:Program}{w:World}{K:Frag}{mg:aG->Option aC}{base:aT}{A:ip}{cls fld:List (aG×Nat)}{clo:Nat->aF->Option HO->List V->Prop}{gs:List (aG×GM)}{tabs:Nat->Option (aF×List Pos×aG)}{k:Nat}{x qu:aG}{st:bG}{f C:aF}{fd:FuncData}{ps N G cel own:List aG}{m n:Nat}{ds:List Ds}
theorem Pk.ok(Z:Pk R K mg base A cls fld)(F:me K x qu st f fd)(q:bF P w K mg base A clo k gs tabs)(a:zh ((aR R n).s (cn cls fld gs N G cel own aE)) (z3 st)=aA ds)(hs:xQ (cn cls fld gs N G cel own aE) ps (zu st)=aB)(e:N.length=ps.length+m) :
  bY P w K mg base (dG P w) (k+1) f fd ps (eU (l4 K A clo tabs) ps.length (bI ps.length m ds)):=by
 obtain⟨j,od,kV,doc,h,an,g,ct,d,rfl,lk,b⟩:=F.ex;exact xh Z.r (Zj Z.i Z.n Z.c q) lk b hs e a
theorem Pk.fn (Z:Pk R K mg base A cls fld) (p:zV K x st) (q:bF P w K mg base A clo k gs tabs) (b:zh ((aR R n).s (cn cls fld gs N G cel own aE)) (z3 st)=aA ds) (hs:xQ (cn cls fld gs N G cel own aE) (kI st) (zu st)=aB) (e:N.length=(kI st).length+m) (g:BU x x st (kI st)) (d:(x==("__debug__":aG))=aD) :
  bF P w K mg base A clo (k+1) ((x,GM.fn (bI (kI st).length m ds))::gs) tabs:=by
 obtain⟨f,fd,a,F⟩:=p;exact bF.add (q.mono (gJ k)) ⟨f,eL Z.i Z.n a,fd,(kI st),k+1,F.kp,F.binds λkV dc c an cd ct=>(g kV dc c an cd ct).all,bH _,Z.ok F q b hs e,wG⟩ d
theorem Pk.met {c:Nat}(Z:Pk R K mg base A cls fld) (p:vo K C x qu st) (q:bF P w K mg base A clo k gs tabs) (a:zh ((aR R n).s (cn cls fld gs N G cel own aE)) (z3 st)=aA ds) (b:A.cs.lookup c=aA C) (g:(i5.contains x)=aD) (hs:xQ (cn cls fld gs N G cel own aE) (kI st) (zu st)=aB) (l:N.length=(kI st).length+m) (o:BU x qu st (kI st)) (e:(eD x==("__debug__":aG))=aD) :
  bF P w K mg base A clo (k+1) ((eD x,GM.met c x (bI (kI st).length m ds))::gs) tabs:=by
 obtain⟨f,fd,i,j,F⟩:=p;refine bF.add (q.mono (gJ k)) ⟨C,f,fd,(kI st),k+1,b,WD Z.c b,⟨i,j,F.kp⟩,λi h=>?_,F.binds λkV dc d an cd ct=>(o kV dc d an cd ct).all,bH _,Z.ok F q a hs l,wG⟩ e;have:=ic.mpr (cP (show i5[i]?=aA x from h));rw[g] at this;cases this
theorem Pk.cl {c:Nat}{b:Bool}(Z:Pk R K mg base A cls fld) (p:Ve K C x qu st) (q:bF P w K mg base A clo k gs tabs) (d:zh ((aR R n).s (cn cls fld gs N G cel own aE)) (z3 st)=aA ds) (l:A.cs.lookup c=aA C) (hs:xQ (cn cls fld gs N G cel own aE) (kI st) (zu st)=aB) (h:N.length=(kI st).length+m) (o:BU "__init__" qu st (kI st)) (g:(x==("__debug__":aG))=aD) :
  bF P w K mg base A clo (k+2) ((x,GM.mk c b (bI (kI st).length m ds))::gs) tabs:=by
 obtain⟨f,fd,a,i,j,F,mk,kk⟩:=p;exact bF.add (q.mono (Nat.le_add_right k 2)) ⟨C,f,fd,(kI st),k+1,l,eL Z.i Z.n a,⟨mk,i,j,kk⟩,F.binds λkV dc e an cd ct=>(o kV dc e an cd ct).all,bH _,Z.ok F q d hs h,wG⟩ g
end
end NH
namespace NH
open PySem PySem.Spec PyProof.Rows L2
noncomputable def sIx(l:List bG)(i:Nat):bG:=l.getD i (.Pass ⟨0,0,0,0⟩)
noncomputable def Ld:bG->aI
 |.Assign _ e _=>e
 |.Return (aA e) _=>e
 |.Expr e _=>e
 |_=>.Name "" ⟨0,0,0,0⟩
noncomputable def Ir(e:aI)(i:Nat):aI:=match e with
 |.Call _ a _ _=>a.getD i e
 |_=>e
noncomputable def Lc:aI->aI
 |.Lambda _ b _ _=>b
 |e=>e
noncomputable def IQ:aI->Scope
 |.Lambda _ _ s _=>s
 |_=>⟨.function,[],aD,aD,[]⟩
noncomputable def gR{β:Type}(P:β->Prop):List β->Prop
 |[]=>True
 |a::r=>P a/\gR P r
theorem gR.mem{P:β->Prop}:∀{ls:List β},gR P ls->∀l∈ls,P l
 |[],_,_,h=>absurd h (by simp)
 |a::r,q,l,h=>(cO.mp h).elim (λe=>e▸q.1) λh=>gR.mem q.2 l h
theorem LQ{P:cF}{K:bM}{F:List aG}(M:fY D P w K mg base Γ k):fY D P w K mg base {Γ with fz:=F} k:=⟨M.hK,M.glo,M.isi,M.fld,M.xcx,M.ocx,M.clv,M.xmt⟩
theorem Nw{R:dR}{D:DP}{P:cF}{w:dJ}{K:bM}{mg:aG->Option aC}{base:aT}{Γ:Cn}{n k:Nat}(o:cI D R){f:aF}{name qual:aG}{params:Arguments}{body:List bG}{scope:Scope}{i kV doc h a ct j:aC}{an od:Option aF}{c:Array (Option aC)}{ps:List aG}{m cut:Nat}{ds:List Ds}
  (M:fY D P w K mg base Γ k) (lk:K.lookup f=aA ⟨j,od,.func (gW name qual params body scope i kV doc h an a ct),c⟩) (g:gx K a qual=aB) (hs:xQ Γ ps scope=aB) (l:Γ.N.length=ps.length+m) (e:zh ((aR R n).s {Γ with fz:=[]}) (body.take cut)=aA (ds.take cut)) (d:zh ((aR R n).s Γ) (body.drop cut)=aA (ds.drop cut)) (b:c6 D mg base a (qual++".<locals>.") k Γ.lam Γ.lnm) :
  bY P w K mg base (dG P w) (k+1) f (gW name qual params body scope i kV doc h an a ct) ps (eU D ps.length (bI ps.length m ds)):=by
 have:=Jf o M lk g hs l (D1 cut body).symm e d b;rwa[D1] at this
noncomputable def GI(kvs more:List (Key×T)):List (Key×T):=more.foldl (λa b=>u7 b.1 b.2 a) kvs
noncomputable abbrev An(o f:De):De:=λe g=>(o e g).bind λh d=>match h with
 |.mut i=>λK Z=>(∃a,d[i]?=aA (.dic a))/\f e d (λt c=>match t with
  |.dic b=>∃a,c[i]?=aA (.dic a)/\a.length+b.length<=aU/\K .non (c.set i (.dic (GI a b)))
  |_=>False) Z
 |_=>.st
section
variable {X:Cx}{D:DP}{W:XW}{Γ:Cn}{k:Nat}{pins:List (aF×bD)}{s:Shared}{σ:St}{H:Hp}{φ α:List aF}{τ:Sl}{μ:aK}{f:De}{a b:aI}{A:Around}{E:aC->Shared->Prop}
theorem RQ(I:Inv X pins σ H s)(e:H x=aA (.dK kvs))(ey:H y=aA (.dK more))(ne:x≠y)(g:kvs.length+more.length<=sizeLine)(h:∀j,Inv X pins σ (upd H x (.dK (km kvs more))) j->Q .none j):wpAny (aQ X.prog X.w) A (call (.builtin "dict.update") [.ref x,.ref y]) Q E s:=by
 obtain⟨z,hd,i,rel,dd⟩:=A9 I.hok e;obtain⟨o,d,c,a,f⟩:=A9 I.hok ey;refine call_meetsIn DV dd.typeIs PySem.F.entry_dict_update (PySem.F.args_dict_update_2 _ _) (meets_dict_update (zE X.prog X.w) x y ne d) ⟨i,c,dd,f,by rw[←rel.length,←a.length];exact g,λn b _ k=>h _ ?_⟩;have m:∃q,n.get? x=aA q:=let ⟨q,_,_,l,_⟩:=b;⟨q,l⟩;exact WA (t':=s.toks) I (by rw[e];exact gy) k m (GJ (cT (k7 more kvs) g) hd (a.merge rel) b)
noncomputable def Lo(g ty:TE):TE:=λσ H Q=>g σ H λx f=>∃a,x=.ref a/\Hi f a/\ty σ f λy e=>∃b d c,y=.ref b/\e a=aA (.dK d)/\e b=aA (.dK c)/\a≠b/\d.length+c.length<=sizeLine/\Q .non (upd e a (.dK (km d c)))
theorem OT (ho:PE X o B) (he:PE X e ty) (m:M1 X o "update" w e j):PE X (.Call (.Attribute o "update" w) [e] [] j) (Lo B ty):=by
 intro c s f H Q I h;refine wpAny_Call_method m.base m.few m.line DQ DV PySem.F.type_dict_update (aY (ho c s f H _ I h) λu n ⟨x,G,i,q,a,ex,d,t⟩=>?_);subst ex;obtain rfl:u=cY a:=q;obtain⟨l,k,_⟩:=MX i d;refine⟨l,k,?_⟩;rw[m.trees];refine tj rfl (pC (pz (aY (he c n f G _ i t) λA K ⟨y,L,E,p,b,z,g,ey,ea,eb,v,C,r⟩=>o5 ?_)));subst ey;obtain rfl:A=cY b:=p;exact RQ E ea eb v C λJ D=>⟨.non,_,D,rfl,r⟩
theorem Z2:∀{more:List (Key×T)}{gm:List (Key×V)}{kvs:List (Key×T)}{gs:List (Key×V)},bE D φ α H more gm->bE D φ α H kvs gs->bE D φ α H (GI kvs more) (km gs gm)
 |[],_,kvs,gs,h,l=>by cases h;exact l
 |p::r,_,kvs,gs,h,l=>by
  obtain⟨v,q,rfl,d,h⟩:=h;exact Z2 (more:=r) (gm:=q) (kvs:=u7 p.1 p.2 kvs) (gs:=cZ gs p.1 v) h (uI d l)
theorem Ny(C:Ck D W Γ X k)(hp:qz o=aB)(hs:aP a=aB)(g:(pa.endLine==pc.line)=aB)(ho:PE X o (aX D W go))(ha:PE X a (aX D W f)) :
  PE X (.Call (.Attribute o "update" pa) [a] [] pc) (aX D W (An go f)):=by
 have M:d_ [a] X.env=[(aD,eval a X.env)]:=z4 hs;refine PE.mono (OT ho ha ⟨qK hp,by rw[M];rfl,g,by rw[M];rfl⟩) ?_;rintro σ H Q ⟨w,U,A,T,B,mr,p⟩;refine⟨w,U,A,T,B,mr,p.bind.mono λY m n H1 r G q ov dv=>?_⟩;cases Y with
 | «mut» i=>
  obtain⟨K,Z,⟨⟨J,h0⟩,hf⟩,hk,hz⟩:=q;obtain⟨x,s,rfl⟩:=dv;obtain⟨ry,u,l0⟩:=G.ob _ x _ s h0;refine⟨x,rfl,⟨_,.inl (.inl u)⟩,w,n,A,m,B.step r,G,_,Z,hf,?_,hz⟩;intro t j L b S h F v d;cases t with
  |dic E=>
   obtain⟨kvs,O,hl,V⟩:=L;obtain⟨β,e2,_⟩:=h.ext;have e:b[i]?=aA x:=by
    rw[e2,dP (bQ.mp s).1];exact s
   obtain⟨P,N,l⟩:=F.ob i x _ e O;obtain⟨y,R,rfl,n1,n2,hy,I⟩:=d;have c:aO b S b (upd S x (.dK (km P R))):=aO.turn (cP e) ⟨_,N⟩;have hi:i<j.length:=(bQ.mp O).1;refine⟨y,P,R,rfl,N,hy,λz=>n2 (z▸cP e),by rw[qx l,qx I];exact zv hl,?_⟩;exact hk _ _ V b _ (h.trans c) (F.turn e hi c ⟨_,z5,Z2 (I.step c) (l.step c)⟩) _ rfl
  |_=>exact L.elim
 |_=>exact aJ.elim q
end
noncomputable def Fq:ER:=rk "update" An
theorem PK:cM D Fq:=KG λC b a d c e=>Ny C b a d c e
noncomputable abbrev TV(x y:T)(μ:aK):RE T:=match x with
 |.str x=>(match y with
  |.int n=>.grd (x.length=1/\1<n/\n<=1000) (.ok (.str (Txt.mul x n)) μ)
  |_=>.st)
 |_=>.st
noncomputable def uV(x:aG):List (aG×Int)->T
 |[]=>.non
 |p::r=>if p.1=x then .int p.2 else uV x r
noncomputable abbrev LR(kvs:List (aG×Int))(t:T)(μ:aK):RE T:=match t with
 |.str x=>.ok (uV x kvs) μ
 |_=>.st
noncomputable abbrev Bd(kvs:List (aG×Int))(f:De):De:=λa b=>(f a b).bind (LR kvs)
noncomputable abbrev LA(o f g:De):De:=λa h=>(o a h).bind λi d=>match i with
 |.dic e=>(f a d).bind λj c=>(g a c).bind λdt b=>match j with
  |.str z=>.ok ((qN (.inr z) e).getD dt) b
  |_=>.st
 |_=>.st
section
variable {X:Cx}{D:DP}{W:XW}{Γ:Cn}{k:Nat}{pins:List (aF×bD)}{s:Shared}{σ:St}{H:Hp}{φ α:List aF}{τ:Sl}{μ:aK}{f g:De}{a b:aI}
theorem RG:∀{kvs:List (aG×Int)},(yn (kvs.map λp=>((.inr p.1:Key),V.int p.2)) (.inr x)).getD .non=(match uV x kvs with|.int i=>V.int i|_=>V.non):=by
 intro kvs;induction kvs with
 |nil=>rfl
 |cons p r a=>
  unfold uV;by_cases e:p.1=x
  ·rw[if_pos e,dC,kX (p:=((.inr p.1:Key),V.int p.2)) (by rw[e])];rfl
  ·rw[if_neg e,dC,xV (p:=((.inr p.1:Key),V.int p.2)) (λz=>e (mw z))];exact a
theorem QG:∀{kvs:List (aG×Int)},aZ D φ α H (uV x kvs) (match uV x kvs with|.int i=>V.int i|_=>V.non)
 |[]=>rfl
 |p::r=>by
  unfold uV;by_cases e:p.1=x
  ·rw[if_pos e];rfl
  ·rw[if_neg e];exact QG
theorem O3(C:Ck D W Γ X k)(i:x∈Γ.G)(R:Γ.gl x=.tbl kvs)(hs:aP a=aB)(c:(pa.endLine==pc.line)=aB)(S:PE X a (aX D W f)) :
  PE X (.Call (.Attribute (.Name x p0) "get" pa) [a] [] pc) (aX D W (Bd kvs f)):=by
 have r:d_ [a] X.env=[(aD,eval a X.env)]:=z4 hs;have m:M1 X (.Name x p0) "get" pa a pc:=⟨qK rfl,by rw[r];rfl,c,by rw[r];rfl⟩;have q:=C.glo x i;rw[R] at q;obtain⟨ad,vs,P,T,O,u⟩:=q;rintro n s σ H Q I ⟨Z,α,τ,μ,K,N,p⟩;refine wpAny_Call_method m.base m.few m.line DQ D0 PySem.F.type_dict_get (vT I (C.glb x i) P ?_ (C.dbG x i));have dd:=u _ I.kIn;refine⟨dd.typeIs,λb e=>?_,?_⟩
 ·cases e;obtain⟨M,_,_,V,U,_⟩:=dd;exact⟨M,V,U.2.1⟩
 ·rw[m.trees];refine tj rfl (pC (pz (aY (sub S I K N p) ?_)));rintro iv s2 ⟨v,Y,t,A,B,y,L,E,J,h,j,o⟩;refine o5 ?_;cases t with
  |str z=>
   have j:v=.str z:=j;subst j;have g:=u _ y.kIn;refine call_meetsIn D0 g.typeIs PySem.F.entry_dict_get (PySem.F.args_dict_get_2 _ _) (meets_dict_get (zE X.prog X.w) ad (JA (k:=.inr z) L) T) ⟨_,g.mapOf,?_⟩;have l:=(KV.val O (.inr z)).getD (d:=.non) (d':=.none) rfl;rw[RG] at l;exact⟨_,Y,y.tok _,l,aJ.here o h QG⟩
  |_=>exact aJ.elim o
noncomputable def Eu:GM->Option (List (aG×Int))
 |.tbl a=>aA a
 |_=>aE
theorem OZ{g:GM}(h:Eu g=aA q):g=.tbl q:=by cases g<;>first|(cases h;rfl)|cases h
noncomputable def FA:ER:=λr Γ e=>(Zr e).bind λq=>(nP q.o).bind λx=>(Qi q.as).bind λa=>gd (q.m==("get":aG)) (gd ((cL Γ.N x.1).isNone&&aP a) (gd (q.pa.endLine==q.pc.line) ((r.e Γ a).bind λf=>(Eu (Γ.look x.1)).bind λb=>aA (Bd b f))))
theorem RZ:cM D FA:=by
 intro r H X W t k e d C h;obtain⟨q,s,h⟩:=aS h;obtain⟨x,p,h⟩:=aS h;obtain⟨a,o,h⟩:=aS h;obtain⟨n,h⟩:=z8 h;obtain⟨m,h⟩:=z8 h;obtain⟨l,h⟩:=z8 h;obtain⟨f,j,h⟩:=aS h;obtain⟨b,g,h⟩:=aS h;cases h;rw[jq s,Wx p,vb o,qe n];obtain⟨c,i⟩:=j9 (OZ g) (by intro z;cases z);exact O3 C c i (zy m).2 l (H.e C j)
end
noncomputable def TX:ER:=λr b e=>match e with
 |.Call (.Attribute (.Dict i d p) m k) [a,c] [] j=>gd (m==("get":aG)&&aP a&&aP c) ((r.e b (.Dict i d p)).bind λf=>(r.e b a).bind λg=>(r.e b c).bind λh=>aA (LA f g h))
 |_=>aE
noncomputable def t4 (w:dJ):List oD->List (aG×Int)->Prop
 |[],[]=>True
 |e::r,p::q=>(∃t u,e=⟨iI w p.1,.str p.1 t,.int p.2 u⟩)/\t4 w r q
 |_,_=>False
theorem Xc{P:cF}:∀{es:List oD}{kvs:List (aG×Int)},t4 w es kvs->∃vs,KV (kvs.map λp=>((.inr p.1:Key),V.int p.2)) vs/\Pairs (zE P w) es vs/\vs.map (·.1)=kvs.map (λp=>(.inr p.1:Key))/\∀e∈es,∃k,(zE P w).is k e.key=aB/\e.hash=(zE P w).hash k
 |[],[],_=>⟨[],.nil,.nil,rfl,by simp⟩
 |e::r,p::q,h=>by
  obtain⟨⟨t,u,rfl⟩,h⟩:=h;obtain⟨vs,g,f,d,c⟩:=Xc (P:=P) h;have b:(zE P w).is (.inr p.1) (.str p.1 t)=aB:=Wm p.1 t;refine⟨(.inr p.1,.int p.2 u)::vs,.cons ⟨rfl,u,rfl⟩ g,.cons b rfl f,by rw[dC,dC,d],λe a=>?_⟩;rcases cO.mp a with rfl|a
  ·exact⟨_,b,rfl⟩
  ·exact c e a
 |[],_::_,h=>h.elim
 |_::_,[],h=>h.elim
theorem MC{P:cF}{K:bM}(f:mg x=aA (.ref a))(hs:(a==gz)=aD)
  (lk:K.lookup a=aA {cls:=.type "dict",data:=.dict es ep}) (d:t4 w es.toList kvs) (nd:(kvs.map (·.1)).Nodup):cE D P w K mg base k x (.tbl kvs):=by
 obtain⟨c,m,l,j,i⟩:=Xc (P:=P) d;refine⟨a,c,f,hs,m,λh b=>⟨_,es,ep,b _ _ lk,⟨rfl,rfl,rfl⟩,rfl,λe g=>i e (DZ.mpr g),l,?_⟩⟩;rw[j,Ea,lj];have nd:=Ea.mp nd;rw[lj] at nd;exact HB (λ{p q} n e=>n (mw e)) nd
end NH
namespace NH.P
open PySem L2 NH
@[reducible] noncomputable def Zg:List Ds:=[(bS (fx (tE (zx .Eq (dD y_ (eV 0)) (eC (.int 0)))) (qc (tE (xY [3] (bC (eV 0) (eC (.int 0))))))) [(zr (eC (.bl aD)))] []),(zr (zx .Eq (Bd [("lease",5),("ask",4),("store",4),("take",4),("back",3),("fall",3),("bare",3)] (bC (eV 0) (eC (.int 0)))) (dD y_ (eV 0))))]
noncomputable def vz:Fn:=bI 1 0 Zg
end NH.P
namespace NH
open PySem PySem.Spec PyProof.Rows L2
noncomputable abbrev U4:Key->T
 |.inl i=>.int i
 |.inr z=>.str z
noncomputable def ZU(μ:aK)(i:Nat)(kvs:List (Key×T)):Prop:=μ[i]?=aA (.dic kvs)\/∃ep,μ[i]?=aA (.frd ep kvs)
abbrev GY(i ep:Nat)(kvs:List (Key×T)):aK->Prop:=λa=>a[i]?=aA (.frd ep kvs)
noncomputable abbrev iD(f:De):Di:=λc d=>(f c d).it λt b=>match t with
 |.mut i=>λK _=>∃a,ZU b i a/\∀ep,K (a.map λp=>U4 p.1) (GY i ep a) (b.set i (.frd ep a))
 |_=>RI.st
noncomputable abbrev nM(t:T)(μ:aK):RE T:=match t with
 |.mut i=>λK _=>∃a,ZU μ i a/\K (.int a.length) μ
 |_=>.st
noncomputable abbrev JO(x y:T)(μ:aK):RE T:=match x,y with
 |.mut i,.str z=>λK _=>∃a v,ZU μ i a/\qN (.inr z) a=aA v/\K v μ
 |_,_=>.st
noncomputable def Hh (a:aF)(ep n:Nat):It:=⟨λi H=>∃b p,H a=aA (.dE ep b)/\b.length=n/\b[i]?=aA p,λi H x c=>c=H/\∀b,H a=aA (.dE ep b)->∃p,b[i]?=aA p/\x=kV p.1,λi H=>∃b,H a=aA (.dE ep b)/\b.length=n/\b.length<=i⟩
theorem Lx{P:cF}(h:(zE P w).is k u=aB):RelV (kV k) u:=by
 cases k with
 |inl i=>exact BY (show rS i u=aB from h)
 |inr x=>exact Cp (show sk x u=aB from h)
theorem YA{P:cF}{K:bM}(a it:aF)(ep n:Nat):fX P w K tg (Hh a ep n) [it] it (λi h=>h.IsKeyIter it a i n ep) where
 mem:=by simp
 obj:=λi h st b j=>by
  have e:b=it:=by simpa using j
  subst e;obtain⟨o,e,c,d⟩:=st;exact⟨o,e,λv z=>by rw[d] at z;cases z⟩
 keep:=λi h y st k=>st.at λo e=>k it (by simp) o e
 item:=by
  intro X C hw D Q i g s N H E I x st B;subst C hw D;obtain⟨t,p,e,rfl,u⟩:=B;obtain⟨z,hd,f,rel,da⟩:=(show bB X.prog X.w H s.heap a (.dE ep t) from I.hok a _ e);have q:t.length=f.length:=rel.length;obtain⟨M,L,Y,J,G,F⟩:=x it (by simp);have O:i<f.length:=by rw[←q];exact (bQ.mp u).1
  have T:f[i]?=aA (f[i].1,f[i].2):=by rw[eS O]
  have U:p.1=f[i].1:=by
   have:=congrArg (λl:List Key=>l[i]?) rel.keys;simp only[c9,u,eS O,o_,o0] at this;exact this
  rw[q] at st;refine wpAny_pyNext_dict_item st da T λA y r m S=>?_;have Z:Inv X g N H {s with heap:=y}:=I.turned (t':=s.toks) (λb o j e=>(S.2 b j).trans e) M L J G F;obtain⟨o,eo,c,d⟩:=id m;exact⟨A,rfl,yI (s:={s with heap:=y}) eo c d (by decide) ⟨kV p.1,H,Z,by rw[U];exact Lx r,⟨rfl,λV R=>by rw[e] at R;cases R;exact⟨p,u,rfl⟩⟩,by rw[q];exact m,λb j=>(x b j).1⟩⟩
 done:=by
  intro X C hw D Q i g s N H E I x st B;subst C hw D;obtain⟨t,e,rfl,u⟩:=B;obtain⟨z,hd,f,rel,da⟩:=(show bB X.prog X.w H s.heap a (.dE ep t) from I.hok a _ e);have q:t.length=f.length:=rel.length;obtain⟨M,L,Y,J,G,F⟩:=x it (by simp);rw[q] at st;exact wpAny_pyNext_dict_end (I.ok.hd Q) st da (lV (by lia)) λy eb=>⟨rfl,I.turned (t':=s.toks) (λb o j e=>eb b o j e) M L J G F⟩
 self:=λ_ _ _ _ _ st h=>wpAny_pyIter_keyiter st h
section
variable {X:Cx}{D:DP}{W:XW}{Γ:Cn}{k:Nat}{pins:List (aF×bD)}{s:Shared}{σ:St}{H:Hp}{φ α:List aF}{τ:Sl}{μ:aK}{f g:De}{a b tg:aI}{pos:Pos}
theorem Xi:∀{kvs:List (Key×T)}{gs:List (Key×V)},bE D φ α H kvs gs->∀{i:Nat}{p:Key×V},gs[i]?=aA p->∃q:Key×T,kvs[i]?=aA q/\q.1=p.1
 |[],_,h,i,p,e=>by cases h;cases e
 |q::r,_,h,i,p,e=>by
  obtain⟨v,a,rfl,d,l⟩:=h;cases i with
  |zero=>cases e;exact⟨q,rfl,rfl⟩
  |succ i=>exact Xi l e
theorem OR:aZ D φ α H (U4 z) (kV z):=by cases z<;>rfl
theorem S4{ad:aF}(b:kvs.length=n):iZ D (Hh ad ep n) (λφ α H=>∃gs,H ad=aA (.dE ep gs)/\bE D φ α H kvs gs) (kvs.map λp=>U4 p.1):=
 ⟨λi φ α H ⟨gs,e,l⟩ a=>by
  have c:=qx l;have a:i<gs.length:=by rw[c];simpa using a
  exact⟨gs,gs[i],e,c.trans b,eS a⟩,λi φ α H v h t ⟨gs,e,l⟩ a y=>by
  obtain⟨rfl,y⟩:=y;obtain⟨p,f,rfl⟩:=y gs e;obtain⟨q,d,g⟩:=Xi l f;rw[c9,d] at a;cases a;exact⟨λ_ _ z=>z,g▸OR⟩,λφ α H ⟨gs,e,l⟩=>⟨gs,e,(qx l).trans b,by rw[qx l,bP];exact bH _⟩⟩
theorem Gf(a:aL D φ α H μ)(b:α[i]?=aA x)(h:ZU μ i kvs):∃gs,(H x=aA (.dK gs)\/∃ep,H x=aA (.dE ep gs))/\bE D φ α H kvs gs:=by
 rcases h with h|⟨ep,h⟩
 ·obtain⟨gs,e,l⟩:=a.ob i x _ b h;exact⟨gs,.inl e,l⟩
 ·obtain⟨gs,e,l⟩:=a.ob i x _ b h;exact⟨gs,.inr ⟨ep,e⟩,l⟩
theorem fT{β:Type}:∀{l:List β}{i:Nat}{b:β},l[i]?=aA b->l.set i b=l
 |[],_,_,h=>by cases h
 |c::r,0,b,h=>by cases h;rfl
 |c::r,i+1,b,h=>congrArg (c::·) (fT (l:=r) h)
theorem Rm(ha:PE X a (aX D W f)):PI X tg a (gZ D W (iD f)):=by
 rintro A s G H R I ⟨φ,α,τ,μ,S,U,p⟩;refine aY (sub ha I S U p) ?_;rintro u r ⟨v,k,t,i,d,L,T,P,Q,q,d1,p1⟩;cases t with
 | «mut» j=>
  obtain⟨ad,x,rfl⟩:=d1;cases T;have C:aJ D W φ d k G _ (λK _=>∃c,ZU i j c/\∀ep,K (c.map λp=>U4 p.1,GY j ep c) (i.set j (.frd ep c))):=p1;obtain⟨K0,Z0,⟨c,hd,C⟩,Z,k2⟩:=C;have B:j<i.length:=by rcases hd with h|⟨_,h⟩<;>exact (bQ.mp h).1
  have E:∃ep g,Inv X A G (upd k ad (.dE ep g)) r/\aO d k d (upd k ad (.dE ep g))/\bE D φ d k c g:=by
   rcases hd with h|⟨ep,h⟩
   ·obtain⟨g,e,l⟩:=q.ob j ad _ x h;obtain⟨ep,y⟩:=NA L e;exact⟨ep,g,y,aO.turn (cP x) ⟨_,e⟩,l⟩
   ·obtain⟨g,e,l⟩:=q.ob j ad _ x h;have:upd k ad (.dE ep g)=k:=by
     funext b;unfold upd;split
     ·subst_vars;exact e.symm
     ·rfl
    exact⟨ep,g,by rw[this];exact L,aO.turn (cP x) ⟨_,e⟩,l⟩
  obtain⟨ep,g,y,n,l⟩:=E;have Y:=bE.lk n.lk (φ:=φ) l;have V:aL D φ d (upd k ad (.dE ep g)) (i.set j (.frd ep c)):=q.turn x B n ⟨g,z5,Y⟩;obtain⟨z,hs,J,rel,da⟩:=(show bB X.prog X.w _ r.heap ad (.dE ep g) from y.hok ad _ z5);have hl:c.length=J.length:=(qx l).symm.trans rel.length;refine wpAny_pyIter_dict hs da ?_;refine⟨r.heap.objs.size,[r.heap.objs.size],_,_,_,rfl,y.kept (t':=r.toks) λb o e=>bZ _ e,YA ad _ ep J.length,⟨_,eF _ rfl,rfl,rfl⟩,λb hb=>?_,?_⟩
  ·have e:b=r.heap.objs.size:=by simpa using hb
   subst e;exact y.fpOk (bH _) (y.hok.fresh (bH _))
  ·refine Z _ _ (C ep) d _ n V _ _ (S4 hl) (λM O H' N lk m hv=>?_) ?_
   ·obtain⟨F,e',l'⟩:=m.ob j ad _ (lk.st j ad x) hv;exact⟨F,e',l'⟩
   ·show (i.set j _)[j]?=_;rw[nG B]
 |_=>exact aJ.elim p1
theorem MJ:B1 X D W (.builtin "len") nM:=by
 intro a s m H k c n t v u Q I b d r p;unfold nM at p;split at p
 ·obtain⟨x,w,⟨f,hd,p⟩,g,q⟩:=p;obtain⟨ad,h,rfl⟩:=d;cases r;obtain⟨i,e,l⟩:=Gf b h hd;refine LC I (e.imp .inl id) λt o j=>⟨.int i.length,H,j,⟨t,rfl⟩,?_⟩;rw[qx l];exact g _ _ p c H (aO.refl _ _) b _ rfl
 ·exact p.elim
theorem Oy(h:qb b=aB):AB b:=by
 intro o i;cases b<;>first|(simp[qb] at h;done)|rfl
theorem Nu(C:Ck D W Γ X k)(hs:qb b=aB)(o:PE X a (aX D W f))(P:PE X b (aX D W g)):PE X (.Subscript a b pos) (aX D W (gL JO f g)):=by
 refine PE.mono (Rg (by have:=C.unt;lia) o P (Oy hs)) ?_;rintro Y H Q ⟨r,F,s,E,u,J,p⟩;refine⟨r,F,s,E,u,J,p.bind.mono λx e j H1 n K q v d=>?_⟩;refine⟨r,j,s,e,u.step n,K,q.bind.mono λy B h V m A c w dw=>?_⟩;unfold JO at c;split at c
 ·rename_i i z;obtain⟨K0,Z0,⟨L,t,O,N,I⟩,M,Z⟩:=c;obtain⟨ad,o,rfl⟩:=d.step m;obtain⟨U,R,l⟩:=Gf A o O;obtain⟨G,T,S⟩:=Vu l N;have dw:w=.str z:=dw;subst dw;exact⟨ad,G,rfl,⟨U,.inr z,R.imp .inl id,rfl,T.symm⟩,M _ _ I h V (aO.refl _ _) A _ S⟩
 ·exact c.elim
end
noncomputable def pM(Γ:Cn)(e:aI):Bool:=match e with
 |.Name x _=>Γ.own.contains (("~":aG)++x)
 |.Attribute _ x _=>x==("seats":aG)
 |_=>aD
noncomputable def GU:IR:=λr a e=>gd (pM a e) ((r.e a e).bind λf=>aA (iD f))
theorem Nl:om D GU:=by
 intro r H X W b k c e d C g h;obtain⟨_,h⟩:=z8 h;obtain⟨f,a,h⟩:=aS h;cases h;exact Rm (H.e C a)
noncomputable def Gb:ER:=λr b e=>(y7 e).bind λq=>(Qi q.as).bind λa=>gd (pM b a) (lC "len" nM aD r b e)
theorem S0:cM D Gb:=by
 intro r H X W i k e d C h;obtain⟨q,j,h⟩:=aS h;obtain⟨a,b,h⟩:=aS h;obtain⟨_,h⟩:=z8 h;exact kG (nm:="len") (op:=nM) (cl:=aD) (λC c g _ f b=>JB C c g boot_len (by decide) f MJ b) r H C h
noncomputable def E3:ER:=λr a e=>(pO e).bind λq=>gd (pM a q.1&&qb q.2.1) ((r.e a q.1).bind λf=>(r.e a q.2.1).bind λg=>aA (gL JO f g))
theorem Pe:cM D E3:=by
 intro r H X W j k e d C h;obtain⟨q,i,h⟩:=aS h;rw[Yk i];obtain⟨a,h⟩:=z8 h;obtain⟨f,c,h⟩:=aS h;obtain⟨g,b,h⟩:=aS h;cases h;exact Nu C (zy a).2 (H.e C c) (H.e C b)
noncomputable def FS:eQ->Bool
 |.NotIn=>aB
 |_=>aD
theorem R7(h:FS op=aB):op=.NotIn:=by cases op<;>first|rfl|cases h
noncomputable def Bt (r:dF)(Γ:Cn)(e:aI):Option De:=(nS e).bind λq=>gd (FS q.op&&pM Γ q.b) (gd (vx .NotIn q.b) ((r.e Γ q.a).bind λf=>(r.e Γ q.b).bind λg=>aA (gL Vh f g)))
theorem GA{W:XW}(H:bT D r)(C:Ck D W Γ X k)(h:Bt r Γ e=aA d):PE X e (aX D W d)/\PT X e (eJ D W (tE d)):=by
 obtain⟨q,j,h⟩:=aS h;obtain⟨i,h⟩:=z8 h;obtain⟨c,h⟩:=z8 h;obtain⟨f,b,h⟩:=aS h;obtain⟨g,a,h⟩:=aS h;cases h;rw[Vm j,R7 (zy i).1];exact⟨FI (Y3 C.unt) c (H.e C b) (H.e C a),SV (Y3 C.unt) c (H.e C b) (H.e C a)⟩
noncomputable def Fh:ER:=Bt
theorem P7:cM D Fh:=λr H _ _ _ _ _ _ C h=>(GA H C h).1
noncomputable def Ga:TR:=λr a e=>(Bt r a e).bind λf=>aA (tE f)
theorem U_:rD D Ga:=by
 intro r H X W b k e d C h;obtain⟨f,a,h⟩:=aS h;cases h;exact (GA H C a).2
noncomputable def F8:ER:=λr a e=>gd (a.own.contains ("{:}":aG)) (match uF r a e with
 |some d=>aA d
 |none=>A_ r a e)
theorem SI:cM D F8:=by
 intro r H X W a k e d C h;obtain⟨_,h⟩:=z8 h;cases q:uF r a e with
 |some b=>simp only[q] at h;cases h;exact Qs r H C q
 |none=>simp only[q] at h;exact Jq r H C h
end NH
namespace NH.P
open PySem L2 NH
@[reducible] noncomputable def yQ:List Ds:=[(zM (eV 0) 21 (eV 1)),(zM (eV 0) 11 (eC .non)),(zM (eV 0) 22 (eC .non))]
noncomputable def vw:Fn:=bI 2 0 yQ
@[reducible] noncomputable def uO:List Ds:=[(zM (eV 0) 22 (eV 1))]
noncomputable def jx:Fn:=bI 2 0 uO
@[reducible] noncomputable def jn:List Ds:=[(bS (qc (xA (tE (z6 zS [(eV 2)])) (tE (z6 zS [(eV 3)])))) [(zG 16 [(eC (.str "ahead and stride are whole numbers from 0 on"))])] []),(bS (xA (tE (zx .IsNot (eV 5) (eC .non))) (qc (tE mP))) [(zG 23 [(eC (.str "no note of the shape"))])] []),(zM (eV 0) 9 (eV 1)),(zM (eV 0) 14 (eV 2)),(zM (eV 0) 15 (eV 3)),(zM (eV 0) 16 (eV 4)),(zM (eV 0) 6 (n9 (tE (zx .Is (eV 5) (eC .non))) (eC .non) (bC (eV 5) (eC (.int 0))))),(zM (eV 0) 17 (n9 (tE (zx .Is (eV 5) (eC .non))) (eC .non) (bC (eV 5) (eC (.int 1))))),(zM (eV 0) 18 (eC .non)),(zM (eV 0) 19 (Zm [])),(zM (eV 0) 20 (eC (.bl aD)))]
noncomputable def qk:Fn:=bI 6 0 jn
@[reducible] noncomputable def jA:List Ds:=[(bS (tE (zx .Eq (wq [(eV 1),(eV 2)]) (zF 45 v_ (eV 0) []))) [Be] []),(zM (eV 0) 20 (eC (.bl aB))),(zN (Az [(1,(zF 46 jx (eV 1) [(eV 0)]))] 16 (eV 0) (wq [(eV 1),(eV 2)]))),(zM (eV 0) 20 (eC (.bl aD))),(zM (eV 0) 6 (eV 1)),(zM (eV 0) 17 (eV 2))]
noncomputable def qi:Fn:=bI 3 0 jA
@[reducible] noncomputable def wh:List Ds:=[(zN (zF 45 qf (eV 0) [])),(zN (z6 vd [(zf (eV 0) 9),(eV 1)])),(zN (zF 45 qi (eV 0) [(eV 1),(zf (eV 0) 17)]))]
noncomputable def zX:Fn:=bI 2 0 wh
@[reducible] noncomputable def Vr:List Ds:=[(zr (jP (xY [4] (eV 0)) (jP (z6 vz [(eV 0)]) (z6 zJ [(bC (eV 0) (eC (.int 1)))]))))]
noncomputable def ku:Fn:=bI 1 0 Vr
@[reducible] noncomputable def xF:List Ds:=[(bS (fx (qc (tE (xY [6] (eV 0)))) (tE (zx .Eq (dD nM (eV 0)) (eC (.int 0))))) [(zr (eC (.bl aD)))] []),(zr (dD V5 (qw 1 [0] (.one 0) (iD (eV 0)) [] (jP (z6 qS [(eV 0)]) (xY [41] (gL JO (eV 1) (eV 0)))))))]
noncomputable def vU:Fn:=bI 1 0 xF
@[reducible] noncomputable def qA:List Ds:=[(zM (eV 1) 11 (Qj 45 qk [(zf (eV 0) 9),(zf (eV 0) 14),(zf (eV 0) 15),(A8 1 0 [1]),(zf (eV 1) 22)]))]
noncomputable def zL:Fn:=bI 2 0 qA
@[reducible] noncomputable def qh:List Ds:=[(bS (qc (tE (z6 vU [(eV 4)]))) [(zG 17 [(eC (.str "a world has a dict of one clock for each of some holders"))])] []),(zM (eV 0) 9 (eV 1)),(zM (eV 0) 14 (eV 2)),(zM (eV 0) 15 (eV 3)),(zM (eV 0) 23 (Qj 43 vi [(eV 1)])),(zM (eV 0) 24 (Zm [])),(zM (eV 0) 25 (eC .non)),(zM (eV 0) 26 Y1),(kn (.one 5) (iD (eV 4)) [(zp 6 (Qj 46 vw [(gL JO (eV 4) (eV 5))])),(zN (zF 47 zL (eV 0) [(eV 6)])),(ZE (zf (eV 0) 26) (eV 5) (eV 6))])]
noncomputable def vQ:Fn:=bI 5 2 qh
@[reducible] noncomputable def Zw:List Ds:=[(bS (tE (zx .Gt (bC (eV 0) (eC (.int 0))) (eC (.int 0)))) [(zp 2 (zd .Mod (bC (eV 0) (eC (.int 0))) (eV 1))),(ZE (eV 0) (eC (.int 0)) (zd .FloorDiv (bC (eV 0) (eC (.int 0))) (eV 1))),(zr (eV 2))] []),(ZE (eV 0) (eC (.int 2)) (zd .Add (bC (eV 0) (eC (.int 2))) (eC (.int 1)))),(zr (zd .Mod (z6 u9 [(bC (eV 0) (eC (.int 1))),(bC (eV 0) (eC (.int 2)))]) (eV 1)))]
noncomputable def zk:Fn:=bI 2 1 Zw
@[reducible] noncomputable def wg:List Ds:=[(bS (fx (qc (tE (z6 ve [(eV 2)]))) (tE (zx .Gt (eV 2) (zf (zf (eV 0) 9) 2)))) [(zG 20 [(eC (.str "so many are whole numbers from 1 on up to the shape's counts"))])] []),(bS (qc (tE (z6 zJ [(eV 1)]))) [(zG 16 [(eC (.str "a reading is a whole number"))])] []),(zN (zF 45 q5 (eV 0) [])),(zp 3 (zd .Mult (ig yr (bC (zf (eV 0) 6) (eC (.int 1))) (eV 1)) (zf (zf (eV 0) 9) 2))),(zp 4 (ig yr (zF 45 qQ (eV 0) []) (eV 3))),(zp 5 (zd .Add (eV 4) (eV 2))),(bS (tE (zx .Gt (eV 5) (zd .Mult (bC (zf (eV 0) 6) (eC (.int 2))) (zf (zf (eV 0) 9) 2)))) [(zG 18 [(eC (.str "the lease has not so many names"))])] []),(zp 6 (zd .Sub (zd .FloorDiv (zd .Sub (eV 5) (eC (.int 1))) (zf (zf (eV 0) 9) 2)) (zd .Add (eV 1) (zf (eV 0) 14)))),(bS (tE (zx .Gt (eV 6) (eC (.int 0)))) [Bl] []),(zr (rA 44 kD [(bC (zf (eV 0) 6) (eC (.int 0))),(eV 4),(eV 5)]))]
noncomputable def zZ:Fn:=bI 3 4 wg
end NH.P
namespace NH
open PySem PySem.Spec PyProof.Rows L2
noncomputable def qJ:List Int->List Int->Bool
 |[],[]=>aD
 |[],_::_=>aD
 |_::_,[]=>aB
 |x::b,y::a=>if x=y then qJ b a else decide (y<x)
theorem kF(x y:Int)(xs ys:List Int):qJ (x::xs) (y::ys)=if x=y then qJ xs ys else decide (y<x):=rfl
theorem Qh:qJ [] []=aD:=rfl
theorem uB(y:Int)(ys:List Int):qJ [] (y::ys)=aD:=rfl
theorem uv(x:Int)(xs:List Int):qJ (x::xs) []=aB:=rfl
theorem UC(A:eM)(s:a_)(a:Int)(t:Tok)(c:Int)(u:Tok)(prog:cF)(w:dJ)(E:aC->a_->Prop)(Q:aC->a_->Prop)(h:Q (.bool (decide (c<a))) s) :
  wpAny (aQ prog w) A (nc .Gt (.int a t) (.int c u)) Q E s:=
 (B8 h:wpAny (aQ prog w) A (d5 .Gt (.int a t) (.int c u)) Q E s)
section
open PySem.SeqAt
open PySem.AutoSeq1 (wpAny_loadPart')
open PySem.MeetsSeq PySem.MeetsSeq2 PySem.MeetsSeq3
theorem Qn(l b:aF)(items f:Array aC)(n n2:Nat)(dd O:Option aF)(S K:Array (Option aC))(ns I:List Int)(hi:dZ items.toList ns)(Q:dZ f.toList I) :
  Meets (lJ.«tuple.__gt__» ⟨[.ref l,.ref b],[]⟩)
   (λ_ R s=>s.heap.get? l=aA {cls:=.type "tuple",dict:=dd,data:=.seq items n,slots:=S}/\s.heap.get? b=aA {cls:=.type "tuple",dict:=O,data:=.seq f n2,slots:=K}/\
    R (.ok (.ret (.bool (qJ ns I)))) s):=
 .of_wp λp w A R s h=>by
  obtain⟨J,g,d,H,os⟩:=s;obtain⟨V,X,h⟩:=h;have f2:=DW;have Z:items.size=ns.length:=by rw[←hi.length];simp
  have Y:f.size=I.length:=by rw[←Q.length];simp
  wp_walk using pe V,pe X,C_ _ (λbX b L=>b.1=aE/\L=⟨J,g,d,H,os⟩/\∃(G F:List aC) (j k:List Int),bX=G.zip F/\
   dZ G j/\dZ F k/\j.length+f.size=k.length+items.size/\R (.ok (.ret (.bool (qJ j k)))) ⟨J,g,d,H,os⟩) _
  case turn=>
   rintro⟨y,x⟩ bX b L ⟨C,rfl,G,F,j,k,m,z,o,i,v⟩
   cases z with
   |nil=>rw[Dy] at m;cases m
   |cons a t E=>
    cases o with
    |nil=>rw[Dd] at m;cases m
    |cons c u D=>
     rw[py] at m;injection m with M B;injection M with T U;subst T U;rw[kF] at v;simp only[eZ] at i;obtain⟨e,W,r⟩:=HT.eqAt_int A.in1 ⟨J,g,d,H,os⟩ a t c u;refine wpAny_bind (W p w _ _ ?_);cases e with
     |true=>
      rw[if_pos (r.mp rfl)] at v;wp_walk;exact⟨rfl,rfl,_,_,_,_,B,E,D,by lia,v⟩
     |false=>
      rw[if_neg (λq=>absurd (r.mpr q) fB)] at v;have N:=UC A.in1 ⟨J,g,d,H,os⟩ a t c u p w;wp_walk using N;exact⟨_,rfl,by simpa using v⟩
  case fin=>
   rintro⟨b1,b2⟩ L ⟨C,rfl,G,F,j,k,m,z,o,i,v⟩
   simp only at C
   subst C
   have P:qJ j k=decide (f.size<items.size):=by
    cases z with
    |nil=>
     cases o with
     |nil=>
      simp only[lT] at i;rw[Qh];exact (decide_eq_false (by lia)).symm
     |cons c u hw=>
      simp only[lT,eZ] at i;rw[uB];exact (decide_eq_false (by lia)).symm
    |cons a t P=>
     cases o with
     |nil=>
      simp only[lT,eZ] at i;rw[uv];exact (decide_eq_true (by lia)).symm
     |cons c u hw=>
      rw[py] at m;cases m
   rw[P] at v
   wp_walk
   exact⟨_,rfl,by simpa[Ee] using v⟩
  case h=>
   exact⟨rfl,rfl,items.toList,f.toList,ns,I,rfl,hi,Q,by lia,h⟩
end
theorem JZ(t:hV s.heap l items)(v:hV s.heap b d)(hi:dZ items.toList ns)(u:dZ d.toList j)
  (r:A.units<cLine) (h:Q (.bool (qJ ns j)) s):wpAny (aQ prog w) A (d5 .Gt (.ref l) (.ref b)) Q E s:=by
 obtain⟨⟨cls,dd,m,p⟩,i,k,n,hd⟩:=id t;obtain⟨⟨o,g,data2,f⟩,a,e,q,c⟩:=id v;simp only at k hd e c;subst k hd e c
 exact D8 (op:=.Gt) ⟨_,i,rfl⟩ ⟨_,a,rfl⟩ PySem.F.slot_tuple_gt PySem.F.entry_tuple_gt (PySem.F.args_tuple_gt_2 _ _) (Qn l b items d n q dd g p f ns j hi u)
  ⟨i,a,show mv (qJ ns j)≠DX/\Q (.bool (qJ ns j)) s from ⟨(λx=>nomatch x),h⟩⟩ r
theorem GL:∀a:List Int,qJ a a=aD
 |[]=>rfl
 |x::r=>by rw[kF,if_pos rfl];exact GL r
theorem Gu:∀a b c:List Int,qJ a b=aB->qJ c b=aD->qJ c a=aD
 |[],[],_,h,_=>by cases h
 |[],_::_,_,h,_=>by cases h
 |_::_,_,[],_,_=>rfl
 |_::_,[],_::_,_,h=>by cases h
 |x::k,y::j,z::i,f,d=>by
  rw[kF] at f d ⊢;by_cases e:x=y
  ·rw[if_pos e] at f;by_cases g:z=y
   ·rw[if_pos g] at d;rw[if_pos (by omega)];exact Gu k j i f d
   ·rw[if_neg g] at d;have:=of_decide_eq_false d;rw[if_neg (by omega)];exact decide_eq_false (by omega)
  ·rw[if_neg e] at f;have l:=of_decide_eq_true f;by_cases g:z=y
   ·rw[if_neg (by omega)];exact decide_eq_false (by omega)
   ·rw[if_neg g] at d;have:=of_decide_eq_false d;rw[if_neg (by omega)];exact decide_eq_false (by omega)
noncomputable abbrev FN(xs:List T)(μ:aK):RE T:=λK _=>∃a,rowsOf xs=aA a/\(xs=[]->K .non μ)/\∀b∈a,(∀c∈a,qJ c b=aD)->K (.tup (b.map T.int)) μ
noncomputable abbrev J8(t:T)(μ:aK):RE T:=match t with
 |.lst a=>FN a μ
 |.mut i=>λK Z=>∃a,μ[i]?=aA (.lst a)/\FN a μ K Z
 |_=>.st
section
variable {X:Cx}{D:DP}{W:XW}{Γ:Cn}{k:Nat}{pins:List (aF×bD)}{s:Shared}{σ:St}{H:Hp}{φ α:List aF}{τ:Sl}{μ:aK}{f:De}
theorem XO{ad:aF}{F:List V}{Q:VK}{y:T->aK->Prop}(hc:X.calm=aB)(hu:X.A.units+64<cLine)(I:Inv X pins σ H s)(K:aL D φ α H μ)(q:Rd H ad (.lst F))(l:aN D φ α H xs F)(c:rowsOf xs=aA rows)
  (hE:xs=[]->y .non μ) (hK:∀ns∈rows,(∀ms∈rows,qJ ms ns=aD)->y (.tup (ns.map T.int)) μ) (k1:∀t B,y t B->∀C G,aO α H C G->aL D φ C G B->RV D φ Q t B C G) :
  wpAny (aQ X.prog X.w) X.A (call (.builtin "max") [.ref ad] [(gA "default",.none)]) (EP X pins σ Q) X.xe s:=by
 obtain⟨h,J,Y,hz⟩:=I.list (.inl q);have e1:=l.length;have M:=J.length;have e3:=kO c;have f:∀(i:Nat) v ns,h[i]?=aA v->rows[i]?=aA ns->∃a:aF,v=.ref a/\aZ D φ α H (.tup (ns.map T.int)) (.ref a)/\eO s.heap v ns:=λi v ns o m=>by
  obtain⟨w,hw,dw⟩:=l.get (yg c m);obtain⟨u,k,S⟩:=J.get hw;rw[o] at k;cases k;obtain⟨a,ys,rfl,n1,n2,r,dl⟩:=id dw;cases S;have ey:=qV (ns:=ns) (by
   clear dl hw dw r m o;induction ns with
   |nil=>rfl
   |cons n r ih=>show (bJ (r.map T.int)).map (n::·)=_;rw[ih];rfl) dl
  subst ey;obtain⟨L,p,pt,_⟩:=I.tuple (.inl r);exact⟨a,rfl,dw,a,_,rfl,pt,by simpa using intsAre_of p⟩
 have nil:h=[]->xs=[]:=λz=>by
  rw[z] at M;exact DO.mp (by rw[e1,M];rfl)
 refine SD (ks:=rows) (gt:=qJ) GL Gu ?_ (.inr rfl) (I.ok.hd hc) Y.isList (by lia) (λ_=>rfl) (λz x e g=>?_) λi v ns x e o m hb g=>?_
 ·intro E i j O N ki kj x e Q' h1 h2 h3 h4 g q;obtain⟨a,_,_,W⟩:=f i O ki h1 h2;obtain⟨b,_,_,U⟩:=f j N kj h3 h4;obtain⟨a',ia,rfl,R,na⟩:=W.keep g;obtain⟨b',ib,rfl,P,Z⟩:=U.keep g;exact JZ (s:={s with heap:=x,toks:=e}) R P na Z (by rw[cC];lia) q
 ·exact⟨.non,H,I.kept g,rfl,k1 _ _ (hE (nil z)) α H (aO.refl _ _) K _ rfl⟩
 ·obtain⟨a,rfl,d,_⟩:=f i v ns o m;exact⟨.ref a,H,I.kept g,rfl,k1 _ _ (hK ns (cP m) hb) α H (aO.refl _ _) K _ d⟩
theorem Ro(C:Ck D W Γ X k)(L:Γ.calm=aB) 
  (w:("max":aG)∈Γ.G) (z:Γ.gl "max"=.none) (e:aP a=aB) (Z:PE X a (aX D W f)) :
  PE X (.Call (.Name "max" p0) [a] [⟨aA "default",.Constant .none jj pb,pk⟩] pos) (aX D W (dD J8 f)):=by
 have K:=C.glo _ w;rw[z] at K;rintro i s B H Q I ⟨g,E,N,O,R,T,p⟩;refine gY (qR I (C.glb _ w) K (show gB "max"=aA (.builtin "max") by decide +kernel) ?_ (by decide) (C.dbG _ w));refine rP (aY (zD Z qp (z4 e) pos i s B H (λF j=>∃v t c b,F=[v]/\aO E H b j/\aL D g b j c/\aZ D g b j t v/\aJ D W g b j B (RV D g Q) (J8 t c)) I ⟨g,E,N,O,R,T,p.bind.mono λt n o H' st m q v d=>⟨v,t,n,o,rfl,st,m,d,q⟩⟩) ?_) (by rw[z4 e];rfl) (by rw[z4 e];rfl) rfl rfl;rintro us s1 ⟨F,j,M,S,v,t,c,b,rfl,st,m,d,p⟩;obtain⟨u,rfl,J⟩:=vals1 S;refine kws_cons (Constant_none (kws_nil ?_));show wpAny _ _ (call (.builtin "max") [u] [(gA "default",.none)]) _ _ _;unfold J8 at p;split at p
 ·obtain⟨K0,Z0,⟨h,x,A,y⟩,r,U⟩:=p;obtain⟨ad,P,rfl,_,_,q,l⟩:=d;cases J;exact XO (C.clm L) C.unt M m q l x A y r
 ·obtain⟨K0,Z0,⟨P,V,h,x,A,y⟩,r,U⟩:=p;obtain⟨ad,Y,rfl⟩:=d;cases J;obtain⟨ws,q,l⟩:=m.ob _ ad _ Y V;exact XO (C.clm L) C.unt M m (.inl q) l x A y r
 ·exact p.elim
end
noncomputable def FJ:ER:=λr b e=>(nR e).bind λq=>gd (q.x==("max":aG)) (gd (q.ky==("default":aG)) (gd (K_ q.v&&(cL b.N q.x).isNone) (gd (aP q.a&&b.calm) (gd (g_ (b.look "max")) ((r.e b q.a).bind λf=>aA (dD J8 f))))))
theorem UL:cM D FJ:=by
 intro r H X W o k e d C h;obtain⟨q,n,h⟩:=aS h;obtain⟨m,h⟩:=z8 h;obtain⟨l,h⟩:=z8 h;obtain⟨i,h⟩:=z8 h;obtain⟨b,h⟩:=z8 h;obtain⟨a,h⟩:=z8 h;obtain⟨f,g,h⟩:=aS h;cases h;obtain⟨j,p,c⟩:=YM (zy i).1;rw[Wt n,c,qe m,qe l];exact Ro C (zy b).2 (zA a).1 (zA a).2 (zy b).1 (H.e C g)
end NH
namespace NH
open PySem PySem.Spec PyProof.Rows L2 PySem.W
noncomputable def rp{α:Type}(lt:Nat->Nat->Bool):KasT α->α
 |.ret a=>a
 |.ask i j k=>rp lt (k (lt i j))
noncomputable def kIn{α:Type}(n:Nat):KasT α->Bool
 |.ret _=>aB
 |.ask i j k=>decide (i<n)&&decide (j<n)&&decide (i≠j)&&kIn n (k aB)&&kIn n (k aD)
theorem JW(b:∀i j C,i<n->j<n->i≠j->C (lt i j) s->d i j C s):∀t:KasT α,kIn n t=aB->G (rp lt t) s->t.kasWp d G s
 |.ret _,_,h=>h
 |.ask i j k,a,h=>by
  simp only[kIn,cH,decide_eq_true_eq] at a;obtain⟨⟨⟨⟨l,g⟩,f⟩,e⟩,c⟩:=a;refine b i j _ l g f ?_;have:kIn n (k (lt i j))=aB:=by
   cases lt i j
   ·exact c
   ·exact e
  exact JW b (k (lt i j)) this h
noncomputable def G1(b:Bool):Nat->Nat->Bool
 |1,0=>b
 |0,1=>!b
 |_,_=>aD
noncomputable def G0(c a b:Bool):Nat->Nat->Bool
 |1,0=>c
 |0,1=>!c
 |2,1=>a
 |1,2=>!a
 |2,0=>b
 |0,2=>!b
 |_,_=>aD
theorem IF:kIn 2 (mi 2)=aB:=by decide +kernel
theorem IN:kIn 3 (mi 3)=aB:=by decide +kernel
noncomputable abbrev R3:=Int×Int×aG
noncomputable def eW (a b:R3):Bool:=if a.1=b.1 then decide (a.2.1<b.2.1) else decide (a.1<b.1)
noncomputable def fC (a b:R3):Prop:=¬(a.1=b.1/\a.2.1=b.2.1)
theorem wj(h:fC a b):eW b a=!eW a b:=by
 unfold eW;unfold fC at h;by_cases e:a.1=b.1
 ·rw[if_pos e,if_pos e.symm];by_cases c:a.2.1<b.2.1
  ·rw[decide_eq_true c,decide_eq_false (by lia)];rfl
  ·rw[decide_eq_false c,decide_eq_true (by lia)];rfl
 ·rw[if_neg e,if_neg (cX e)];by_cases c:a.1<b.1
  ·rw[decide_eq_true c,decide_eq_false (by lia)];rfl
  ·rw[decide_eq_false c,decide_eq_true (by lia)];rfl
theorem QQ(h1:eW a b=aB)(h2:eW b c=aB):eW a c=aB:=by
 unfold eW at *;by_cases e:a.1=b.1
 ·rw[if_pos e] at h1;have g:=of_decide_eq_true h1;by_cases d:b.1=c.1
  ·rw[if_pos d] at h2;have f:=of_decide_eq_true h2;rw[if_pos (by omega)];exact decide_eq_true (by omega)
  ·rw[if_neg d] at h2;have f:=of_decide_eq_true h2;rw[if_neg (by omega)];exact decide_eq_true (by omega)
 ·rw[if_neg e] at h1;have g:=of_decide_eq_true h1;by_cases d:b.1=c.1
  ·rw[if_pos d] at h2;rw[if_neg (by omega)];exact decide_eq_true (by omega)
  ·rw[if_neg d] at h2;have f:=of_decide_eq_true h2;rw[if_neg (by omega)];exact decide_eq_true (by omega)
noncomputable def yZ (x:R3):List R3->List R3
 |[]=>[x]
 |y::r=>if eW y x then x::y::r else y::yZ x r
noncomputable def wm:List R3->List R3
 |[]=>[]
 |x::r=>yZ x (wm r)
theorem Vw:∀{l:List R3},(yZ x l).length=l.length+1
 |[]=>rfl
 |y::r=>by
  unfold yZ;split
  ·rfl
  ·simp[Vw]
theorem xX:∀{l:List R3},(wm l).length=l.length
 |[]=>rfl
 |x::r=>by unfold wm;rw[Vw,xX];rfl
noncomputable abbrev UX{α:Type}(p:Array Nat)(xs:List α)(d:α):List α:=(p.toList.map λi=>xs.reverse.getD i d).reverse
theorem I0(h:fC x.2 y.2):∃d:List (aC×R3),UX (rp (G1 (eW x.2 y.2)) (mi 2)) [x.1,y.1] eY=d.map (·.1)/\(∀q∈d,q∈[x,y])/\d.map (·.2)=wm [x.2,y.2]:=by
 have f:=wj h;cases a:eW x.2 y.2
 ·exact⟨[x,y],rfl,by simp,by rw[a] at f;simp[wm,yZ,f]⟩
 ·exact⟨[y,x],rfl,by simp,by rw[a] at f;simp[wm,yZ,f]⟩
theorem La(g:fC x.2 y.2)(f:fC x.2 z.2)(e:fC y.2 z.2):∃d:List (aC×R3),UX (rp (G0 (eW y.2 z.2) (eW x.2 y.2) (eW x.2 z.2)) (mi 3)) [x.1,y.1,z.1] eY=d.map (·.1)/\(∀q∈d,q∈[x,y,z])/\d.map (·.2)=wm [x.2,y.2,z.2]:=by
 have c:=wj g;have b:=wj f;have a:=wj e;cases j:eW y.2 z.2<;>cases i:eW x.2 y.2<;>cases h:eW x.2 z.2<;>rw[j] at a<;>rw[i] at c<;>rw[h] at b
 ·exact⟨[x,y,z],rfl,by simp,by simp[wm,yZ,c,b,a]⟩
 ·exact absurd (QQ a c) (by rw[b];decide)
 ·exact⟨[y,x,z],rfl,by simp,by simp[wm,yZ,c,b,a]⟩
 ·exact⟨[y,z,x],rfl,by simp,by simp[wm,yZ,c,b,a]⟩
 ·exact⟨[x,z,y],rfl,by simp,by simp[wm,yZ,c,b,a]⟩
 ·exact⟨[z,x,y],rfl,by simp,by simp[wm,yZ,c,b,a]⟩
 ·exact absurd (QQ i j) (by rw[h];decide)
 ·exact⟨[z,y,x],rfl,by simp,by simp[wm,yZ,c,b,a]⟩
noncomputable def d7 (h:aT)(v:aC)(r:R3):Prop:=∃a o n d c b,v=.ref a/\h.get? a=aA o/\o.cls=.type "tuple"/\o.data=.seq #[.int r.1 d,.int r.2.1 c,.str r.2.2 b] n
theorem d7.keep(t:d7 h v r)(k:∀b o,h.get? b=aA o->h'.get? b=aA o):d7 h' v r:=by
 obtain⟨a,o,n,t1,d,c,e,ho,f,hd⟩:=t;exact⟨a,o,n,t1,d,c,e,k _ _ ho,f,hd⟩
section
variable {prog:Program}{w:World}{A:Around}{E:aC->Shared->Prop}{s:Shared}
theorem jE(h1:d7 s.heap v r)(h2:d7 s.heap j d)(ne:fC r d)(h:Q (eW r d) s):wpAny (aQ prog w) A (keyLt' (oz aB) v j) Q E s:=by
 obtain⟨a,o,n,t,q,p,rfl,g,y,hd⟩:=h1;obtain⟨z,u,x,m,l,k,rfl,b,i,c⟩:=h2;unfold eW at h;unfold fC at ne;refine kat_lt g hd b c ?_;refine kat_cons (sN ?_);refine kat_go (λe=>?_) (λe=>?_)
 ·have e:r.1=d.1:=by simpa using e
  rw[if_pos e] at h;refine kat_yes (kat_cons (sN ?_));refine kat_go (λf=>?_) (λf=>?_)
  ·exact absurd ⟨e,by simpa using f⟩ ne
  ·exact kat_no (kat_one _ _ (rO h))
 ·have e:¬r.1=d.1:=by simpa using e
  rw[if_neg e] at h;exact kat_no (oneLt_int h)
theorem XY:∀{zs:List (aC×R3)}{h:aT},(∀q∈zs,d7 h q.1 q.2)->∃fs:List aC,KatTups h (zs.map (·.1)) fs/\fs.length=zs.length/\∀v∈fs,∃i t,v=lN i t
 |[],_,_=>⟨[],KatTups.nil,rfl,by simp⟩
 |q::r,h,k=>by
  obtain⟨fs,m,l,j⟩:=XY (zs:=r) λp d=>k p (dN _ d);obtain⟨a,o,n,c,u,s,e,f,g,hd⟩:=k q eG;refine⟨.int q.2.1 c::fs,?_,by simp[l],λv b=>?_⟩
  ·rw[dC,e];exact KatTups.cons f g hd rfl m
  ·rcases cO.mp b with rfl|b
   ·exact⟨_,_,rfl⟩
   ·exact j v b
theorem Uq{zs:List (aC×R3)}(k:∀q∈zs,d7 s.heap q.1 q.2)(d:0<zs.length)(h:Q (oz aB) s):wpAny (aQ prog w) A (keyKind' (zs.map (·.1)).toArray) Q E s:=by
 obtain⟨fs,c,e,b⟩:=XY k;refine kat_kind (T:=.type "int") c (by lia) (λv a=>?_) (by decide) h;obtain⟨i,t,rfl⟩:=b v a;exact Looks.of_pure rfl
theorem Mi{α:Type}{P:List α->Prop}(h2:∀x y,P [x,y])(a:∀x y z,P [x,y,z]):∀zs:List α,2<=zs.length->zs.length<=3->P zs
 |[],h,_=>absurd h (by simp)
 |[_],h,_=>absurd h (by simp)
 |[x,y],_,_=>h2 x y
 |[x,y,z],_,_=>a x y z
 |_::_::_::_::_,_,h=>absurd h (by simp)
theorem EH(h:i<2):i=0\/i=1:=by lia
theorem Ep(h:i<3):i=0\/i=1\/i=2:=by lia
theorem Uk{zs:List (aC×R3)}(k:∀q∈zs,d7 s.heap q.1 q.2)(l:zs.Pairwise λp q=>fC p.2 q.2)(F:2<=zs.length)(E:zs.length<=3)
  (h:∀(p:Array Nat) (a:List (aC×R3)),UX p (zs.map (·.1)) eY=a.map (·.1)->(∀q∈a,q∈zs)->a.map (·.2)=wm (zs.map (·.2))->G p s) :
  (mi zs.length).kasWp (kas_ask prog w A (oz aB) (katRev aB (zs.map (·.1)))) G s:=by
 revert k l h;revert E;revert F;revert zs;suffices H:∀zs:List (aC×R3),2<=zs.length->zs.length<=3->(∀q∈zs,d7 s.heap q.1 q.2)->zs.Pairwise (λp q=>fC p.2 q.2)->(∀(p:Array Nat) (a:List (aC×R3)),UX p (zs.map (·.1)) eY=a.map (·.1)->(∀q∈a,q∈zs)->a.map (·.2)=wm (zs.map (·.2))->G p s)->(mi zs.length).kasWp (kas_ask prog w A (oz aB) (katRev aB (zs.map (·.1)))) G s from λ{zs}=>H zs
 refine Mi (λx y=>?_) (λx y z=>?_)
 ·intro k l h;have f:=k x (by simp);have d:=k y (by simp);have b:fC x.2 y.2:=by simpa using l
  obtain⟨a,v,u,t⟩:=I0 (x:=x) (y:=y) b;refine JW (lt:=G1 (eW x.2 y.2)) (λi j C D B g c=>?_) _ IF (h _ a v u t);rcases EH D with rfl|rfl<;>rcases EH B with rfl|rfl
  ·exact absurd rfl g
  ·exact jE d f (λe=>b ⟨e.1.symm,e.2.symm⟩) (by rw[wj b];exact c)
  ·exact jE f d b c
  ·exact absurd rfl g
 ·intro k l h;have f:=k x (by simp);have d:=k y (by simp);have r:=k z (by simp);have n:(fC x.2 y.2/\fC x.2 z.2)/\fC y.2 z.2:=by simpa using l
  obtain⟨⟨b,o⟩,m⟩:=n;obtain⟨a,v,u,t⟩:=La (x:=x) (y:=y) (z:=z) b o m;refine JW (lt:=G0 (eW y.2 z.2) (eW x.2 y.2) (eW x.2 z.2)) (λi j C D B g c=>?_) _ IN (h _ a v u t);rcases Ep D with rfl|rfl|rfl<;>rcases Ep B with rfl|rfl|rfl
  ·exact absurd rfl g
  ·exact jE r d (λe=>m ⟨e.1.symm,e.2.symm⟩) (by rw[wj m];exact c)
  ·exact jE r f (λe=>o ⟨e.1.symm,e.2.symm⟩) (by rw[wj o];exact c)
  ·exact jE d r m c
  ·exact absurd rfl g
  ·exact jE d f (λe=>b ⟨e.1.symm,e.2.symm⟩) (by rw[wj b];exact c)
  ·exact jE f r o c
  ·exact jE f d b c
  ·exact absurd rfl g
theorem UR{α:Type}{zs:List (α×R3)}(h:zs.length<2):zs.map (·.2)=wm (zs.map (·.2)):=by
 match zs with
 |[]=>rfl
 |[x]=>rfl
 |_::_::_=>exact absurd h (by simp)
theorem JU {a:aF}{zs:List (aC×R3)}{P:PySem.Fin->a_->Prop}(ho:s.heap.get? a=aA (bN "list" (zs.map (·.1)).toArray n)) (k:∀q∈zs,d7 s.heap q.1 q.2) (X:zs.Pairwise λp q=>fC p.2 q.2) (I:zs.length<=3)
  (h:∀d:List (aC×R3),(∀q∈d,q∈zs)->d.map (·.2)=wm (zs.map (·.2))->P (.done (.ret .none)) {s with heap:=sortedHeap s.heap a (zs.map (·.1)) (d.map (·.1)).toArray}) :
  wpAny (aQ prog w) A (lJ.«list.sort» ⟨[.ref a],[(gA "reverse",.bool aB)]⟩) P E s:=by
 have ha:a<s.heap.objs.size:=cG ho;have C:(zs.map (·.1)).toArray.size=zs.length:=by simp
 have H:∀{m:Nat},m<=3->m<=sizeLine:=λh=>cT h (by rw[fR];lia);obtain⟨F,y⟩:∃c,(s.heap.update a (cK λ_=>#[])).get? a=aA (bN "list" #[] c):=⟨_,lw ho (λ_=>#[])⟩;rw[list_sort_rev];refine wpAny_bind (sv ho rfl (wpAny_bind (mB ho rfl ?_ (by rw[C];exact H I) (fQ _))));refine wpAny_bind (oH y rfl (wpAny_bind (wpAny_newTuple ?_ (by show (zs.map (·.1)).length<=_;rw[bP];exact H I))));refine wpAny_bind (mC (wpAny_holding ?_) (fQ _));generalize M:((s.heap.update a (cK λ_=>#[])).push (bN "tuple" (zs.map (·.1)).toArray 0)).push (bN "list" #[] 0)=g;have up:∀b o,s.heap.get? b=aA o->b≠a->g.get? b=aA o:=λb o e B=>by
  rw[←M];exact bZ _ (bZ _ (by rw[tz _ _ _ _ B];exact e))
 have v:g.get? a=aA (bN "list" #[] F):=by
  rw[←M];exact bZ _ (bZ _ y)
 have O:∀q∈zs,d7 g q.1 q.2:=λq K=>by
  obtain⟨b,o,m,W,V,U,e,B,R,hd⟩:=k q K;refine⟨b,o,m,W,V,U,e,up b o B (λz=>?_),R,hd⟩;rw[z,ho] at B;cases B;injection (show oG "list"=oG "tuple" from R) with e;exact absurd e (by decide)
 have put:∀{f:Array aC->Array aC}{out:Array aC},f #[]=out->out.size<=3->P (.done (.ret .none)) {s with heap:=g.update a (cK f)}->
   wpAny (aQ prog w) A (do
    let e ←seqEpoch a
    Hl (.ref a) f
    if (e != F)=aB then do
     rule "list.sort.modified"
     raiseErrorWords "ValueError" "list modified during sort"
     ret eY
    else ret eY) P E {s with heap:=g}:=λ{f out} he L Y=>by
  refine wpAny_bind (oH v rfl (wpAny_bind (mB v rfl ?_ (fQ _) (by rw[he];exact cT (H L) (gJ _)))));rw[show (F != F)=aD from bne_self_eq_false _,if_neg (by decide)];exact wpAny_pure Y
 dsimp only;rw[if_pos rfl];refine wpAny_bind (mu ?_);have fin:∀d:List (aC×R3),(∀q∈d,q∈zs)->d.map (·.2)=wm (zs.map (·.2))->P (.done (.ret .none)) {s with heap:=g.update a (cK λ_=>(d.map (·.1)).toArray)}:=λd m e=>by
  rw[←M];exact h d m e
 by_cases J:zs.length<2
 ·have lt:(zs.map (·.1)).toArray.size<2:=by rw[C];exact J
  rw[if_pos lt];refine wpAny_bind (wpAny_pure ?_);rw[if_pos lt,Cs];refine wpAny_bind (wpAny_pure ?_);dsimp only;have T:(Array.map (λx:aC×aC=>x.2) (((zs.map (·.1)).toArray.zip (zs.map (·.1)).toArray).reverse)).reverse=(zs.map (·.1)).toArray:=by
   apply Array.toList_inj.mp;simp[CG,CF]
  have S:=fin zs (λq h=>h) (UR J);rw[←T] at S;exact put (out:=_) rfl (by rw[if_pos rfl,if_pos rfl];exact cT (iN (congrArg Array.size T)) (by rw[C];lia)) S
 ·have N:¬(zs.map (·.1)).toArray.size<2:=by rw[C];exact J
  rw[if_neg N];refine wpAny_bind (Uq (s:={s with heap:=g}) O (by lia) ?_);rw[if_neg N,kat_pairs aB rfl];have el:(katRev aB (zs.map (·.1))).length=zs.length:=by rw[kat_len,bP]
  refine wpAny_bind (eI (kat_run (s:={s with heap:=g}) (Q:=λi l=>l={s with heap:=g}/\failedOf i=aE/\∃d:List (aC×R3),((gT i).map (·.2)).reverse=(d.map (·.1)).toArray/\(∀q∈d,q∈zs)/\d.map (·.2)=wm (zs.map (·.2)))
   (G:=λp l=>l={s with heap:=g}/\∃d:List (aC×R3),UX p (zs.map (·.1)) eY=d.map (·.1)/\(∀q∈d,q∈zs)/\d.map (·.2)=wm (zs.map (·.2))) rfl (by lia) (by lia) (λp i l a1 a2 a3 a4=>?_) ?_) (λr l K=>?_) λ_ _ z=>z)
  ·obtain⟨D,d,u,t,j⟩:=a4;refine⟨D,a3,d,?_,t,j⟩;rw[kat_snds rfl a2,←u];simp[katRev]
  ·rw[el];exact Uk (s:={s with heap:=g}) O X (by lia) I λp d u t j=>⟨rfl,d,u,t,j⟩
  ·obtain⟨⟨⟩,i⟩:=r;obtain⟨rfl,Z,d,u,t,j⟩:=K;dsimp only;rw[if_pos rfl,u,Z];have ez:d.length=zs.length:=by
    have D:=congrArg iM j;rw[bP,xX,bP] at D;exact D
   exact put rfl (by simp;lia) (fin d t j)
theorem JK{zs:List (aC×R3)}{Q:aC->a_->Prop}(t:s.heap.IsList l (zs.map (·.1)).toArray)(k:∀q∈zs,d7 s.heap q.1 q.2)(j:zs.Pairwise λp q=>fC p.2 q.2)(f:zs.length<=3)
  (h:∀d:List (aC×R3),(∀q∈d,q∈zs)->d.map (·.2)=wm (zs.map (·.2))->Q (.ref (s.heap.objs.size+1)) {s with heap:=rK s.heap (zs.map (·.1)) (d.map (·.1)).toArray}) :
  wpAny (aQ prog w) A (call (.builtin "sorted") [.ref l] [(gA "reverse",.bool aB)]) Q E s:=by
 have c:(zs.map (·.1)).length<=sizeLine:=cT (by rw[bP];exact f) (by rw[fR];lia:3<=sizeLine);refine D6 kind_sorted plain_sorted entry_sorted (args_sorted_rev _ _) ?_;unfold lJ.«sorted»;refine wpAny_bind (m:=checkCount "sorted" 1 1 _) (wpAny_pure (wpAny_bind (collect_list t (wpAny_bind (mC ?_ c)) (by simpa using c))));have a:((s.heap.push (bN "list" #[] 0)).update s.heap.objs.size (cK (·++(zs.map (·.1)).toArray))).objs.size=s.heap.objs.size+1:=by rw[sI,size_push']
 generalize g:(s.heap.push (bN "list" #[] 0)).update s.heap.objs.size (cK (·++(zs.map (·.1)).toArray))=B at a;have i:(B.push (bN "list" (zs.map (·.1)).toArray 0)).get? (s.heap.objs.size+1)=aA (bN "list" (zs.map (·.1)).toArray 0):=by rw[←a];exact eF _ rfl
 have up:∀b o,s.heap.get? b=aA o->(B.push (bN "list" (zs.map (·.1)).toArray 0)).get? b=aA o:=λb o e=>by
  have n:=cG e;refine bZ _ ?_;rw[←g,tz _ _ _ _ (d6 n)];exact bZ _ e
 show wpAny _ _ _ _ _ {s with heap:=B.push (bN "list" (zs.map (·.1)).toArray 0)};rw[a];refine wpAny_bind (wpAny_holding (Dj slot_list_sort ⟨_,i,rfl⟩ Cq (JU (s:={s with heap:=B.push (bN "list" (zs.map (·.1)).toArray 0)}) i (λq r=>(k q r).keep up) j f λd m e=>⟨_,rfl,?_⟩) (args_list_sort_rev _ _)));have:=h d m e;unfold rK at this;rw[g] at this;exact wpAny_pure ⟨_,rfl,this⟩
end
noncomputable abbrev gF(r:R3):T:=.tup [.int r.1,.int r.2.1,.str r.2.2]
noncomputable abbrev Uz(xs:List T)(μ:aK):RE T:=λK _=>∃a:List R3,xs=a.map gF/\a.length<=3/\a.Pairwise fC/\K (.lst ((wm a).map gF)) μ
noncomputable abbrev ZQ(t:T)(μ:aK):RE T:=match t with
 |.lst a=>Uz a μ
 |.mut i=>λK Z=>∃a,μ[i]?=aA (.lst a)/\Uz a μ K Z
 |_=>.st
section
variable {X:Cx}{D:DP}{W:XW}{Γ:Cn}{k:Nat}{pins:List (aF×bD)}{s:Shared}{σ:St}{H:Hp}{φ α:List aF}{τ:Sl}{μ:aK}{f:De}
theorem VO{ad:aF}{rows:List R3}{O:T->aK->Prop}(I:Inv X pins σ H s)(z:aL D φ α H μ)(q:Rd H ad (.lst U))(l:aN D φ α H (rows.map gF) U)(l3:rows.length<=3)(pw:rows.Pairwise fC)
  (hK:O (.lst ((wm rows).map gF)) μ) (k1:∀t j,O t j->∀B G,aO α H B G->aL D φ B G j->RV D φ Q t j B G) :
  wpAny (aQ X.prog X.w) X.A (call (.builtin "sorted") [.ref ad] [(gA "reverse",.bool aB)]) (EP X pins σ Q) X.xe s:=by
 obtain⟨f,J,pl,hz⟩:=I.list (.inl q);have e1:=l.length;have e2:=J.length;rw[bP] at e1;have ez:(f.zip rows).map (·.1)=f:=List.map_fst_zip (by lia);have er:(f.zip rows).map (·.2)=rows:=CF (by lia);have m:∀p∈f.zip rows,∃k:V,RelV k p.1/\aZ D φ α H (gF p.2) k/\d7 s.heap p.1 p.2:=λp h=>by
  obtain⟨i,hi,e⟩:=DM.mp h;have hi':i<f.length/\i<rows.length:=by rw[o9] at hi;lia
  rw[CJ] at e;subst e;obtain⟨k,hw,dw⟩:=l.get (i:=i) (t:=gF rows[i]) (by rw[c9,eS hi'.2];rfl);obtain⟨u,M,K⟩:=J.get hw;rw[eS hi'.1] at M;cases M;refine⟨k,K,dw,?_⟩;obtain⟨a,ys,rfl,n1,n2,r,dl⟩:=dw;obtain⟨v1,y1,rfl,d1,v2,y2,rfl,d2,v3,y3,rfl,d3,d4⟩:=dl;cases d1;cases d2;cases d3;cases d4;obtain⟨L,g,pt,_⟩:=I.tuple (.inl r);have y:f[i]'hi'.1=cY a:=K;cases g with
  |cons Z g=>cases g with
   |cons Y g=>cases g with
    |cons W g=>
     cases g
     obtain⟨S,rfl⟩:=Z
     obtain⟨R,rfl⟩:=Y
     obtain⟨P,rfl⟩:=W
     obtain⟨o,ho,hc,n,hd⟩:=pt
     exact⟨a,o,n,S,R,P,y,ho,hc,hd⟩
 have mk:∀d:List (aC×R3),(∀p∈d,p∈f.zip rows)->∃c:List V,aV c (d.map (·.1))/\aN D φ α H (d.map λp=>gF p.2) c:=λd=>by
  induction d with
  |nil=>exact λ_=>⟨[],.nil,rfl⟩
  |cons p r ih=>
   intro v;obtain⟨c,x,F⟩:=ih λp h=>v p (dN _ h);obtain⟨k,E,C,_⟩:=m p (v p eG);exact⟨k::c,.cons E x,k,c,rfl,C,F⟩
 refine JK (zs:=f.zip rows) (by rw[ez];exact pl.isList) (λp h=>(m p h).choose_spec.2.2) (lj.mp (by rw[er];exact pw)) (by rw[o9];lia) λd v N=>?_;obtain⟨c,x,F⟩:=mk d v;obtain⟨e,he⟩:=sortedAll_at s.heap ((f.zip rows).map (·.1)) (d.map (·.1)).toArray;have h:H (s.heap.objs.size+1)=aE:=I.hok.fresh (gJ _);have hl:c.length<=sizeLine:=by
  have E:=x.length;have C:=congrArg iM N;rw[bP,xX,er] at C;rw[bP] at E;rw[fR];lia
 refine⟨.ref (s.heap.objs.size+1),upd H (s.heap.objs.size+1) (.lst c),I.laid (t':=s.toks) (λb o e=>sortedAll_old e) (gJ _) (show bB X.prog X.w _ _ _ (.lst c) from ⟨hl,d.map (·.1),e,x,he⟩),rfl,?_⟩;refine k1 _ μ hK α _ (aO.new (za h)) (z.new (za h)) _ ⟨_,c,rfl,zm z h,zo z h,.inl z5,?_⟩;rw[←er,←N,fS];exact F.step (aO.new (za h))
theorem Uw(C:Ck D W Γ X k) 
  (x:("sorted":aG)∈Γ.G) (z:Γ.gl "sorted"=.none) (e:aP a=aB) (Y:PE X a (aX D W f)) :
  PE X (.Call (.Name "sorted" p0) [a] [⟨aA "reverse",.Constant (.bool aB) jj pb,pk⟩] pos) (aX D W (dD ZQ f)):=by
 have K:=C.glo _ x;rw[z] at K;rintro i s B H Q I ⟨g,E,M,N,P,S,p⟩;refine gY (qR I (C.glb _ x) K (show gB "sorted"=aA (.builtin "sorted") by decide +kernel) ?_ (by decide) (C.dbG _ x));refine rP (aY (zD Y qp (z4 e) pos i s B H (λF j=>∃v t c b,F=[v]/\aO E H b j/\aL D g b j c/\aZ D g b j t v/\aJ D W g b j B (RV D g Q) (ZQ t c)) I ⟨g,E,M,N,P,S,p.bind.mono λt n o H' st m q v d=>⟨v,t,n,o,rfl,st,m,d,q⟩⟩) ?_) (by rw[z4 e];rfl) (by rw[z4 e];rfl) rfl rfl;rintro us s1 ⟨F,j,L,R,v,t,c,b,rfl,st,m,d,p⟩;obtain⟨u,rfl,J⟩:=vals1 R;refine kws_cons (Constant_bool (kws_nil ?_));show wpAny _ _ (call (.builtin "sorted") [u] [(gA "reverse",.bool aB)]) _ _ _;unfold ZQ at p;split at p
 ·obtain⟨K0,Z,⟨h,rfl,A,r,y⟩,w,T⟩:=p;obtain⟨ad,O,rfl,_,_,q,l⟩:=d;cases J;exact VO L m q l A r y w
 ·obtain⟨K0,Z,⟨O,U,h,rfl,A,r,y⟩,w,T⟩:=p;obtain⟨ad,V,rfl⟩:=d;cases J;obtain⟨ws,q,l⟩:=m.ob _ ad _ V U;exact VO L m (.inl q) l A r y w
 ·exact p.elim
end
noncomputable def Gd:ER:=λr b e=>(nR e).bind λq=>gd (q.x==("sorted":aG)) (gd (q.ky==("reverse":aG)) (gd (J_ q.v&&(cL b.N q.x).isNone) (gd (aP q.a) (gd (g_ (b.look "sorted")) ((r.e b q.a).bind λf=>aA (dD ZQ f))))))
theorem YG:cM D Gd:=by
 intro r H X W o k e d C h;obtain⟨q,n,h⟩:=aS h;obtain⟨m,h⟩:=z8 h;obtain⟨l,h⟩:=z8 h;obtain⟨i,h⟩:=z8 h;obtain⟨g,h⟩:=z8 h;obtain⟨a,h⟩:=z8 h;obtain⟨f,c,h⟩:=aS h;cases h;obtain⟨j,p,b⟩:=YP (zy i).1;rw[Wt n,b,qe m,qe l];exact Uw C (zA a).1 (zA a).2 g (H.e C c)
end NH
namespace NH.P
open PySem L2 NH
@[reducible] noncomputable def ke:List Ds:=[(zp 2 (Zm [])),(kn (.one 3) (iE (dD ZQ (zd .Add (eV 0) (jg [(eV 1)])))) [(bS (tE (dD V5 (qw 1 [3] (.one 0) (iE (eV 2)) [] (zx .NotEq (bC (eV 1) (eC (.int 2))) (bC (eV 0) (eC (.int 2))))))) [(zN (K6 (eV 2) (eV 3)))] [])]),(zr (BF (eV 2) pN (pS (eC (.int 2)))))]
noncomputable def vf:Fn:=bI 2 2 ke
@[reducible] noncomputable def Qr:List Ds:=[(zp 2 (Zm [])),(zp 3 (jg [])),(kn (.one 4) (pP (dD y_ (eV 1))) [(zp 5 (bC (bC (eV 1) (eV 4)) (eC (.int 1)))),(zp 6 (bC (z6 jy [(eV 0),(bC (bC (eV 1) (eV 4)) (eC (.int 2)))]) (eC (.int 0)))),(zp 7 (qw 1 [5] (.one 0) (iE (eV 3)) [(tE (zx .NotEq (bC (eV 0) (eC (.int 2))) (eV 1)))] (eV 0))),(bS (tE (zx .Gt (dD y_ (eV 7)) (eC (.int 0)))) [(zN (K6 (eV 2) (wq [(zd .Sub (bC (bC (eV 7) (eC (.int 0))) (eC (.int 0))) (eV 6)),(bC (bC (eV 7) (eC (.int 0))) (eC (.int 1))),(eV 4)])))] []),(zp 3 (z6 vf [(eV 3),(wq [(eV 6),(eV 4),(eV 5)])]))]),(zr (dD J8 (eV 2)))]
noncomputable def uh:Fn:=bI 2 6 Qr
end NH.P
namespace NH
open PySem PySem.Spec PyProof.Rows L2
theorem swT{α:Type}{a b:α}{Q:α->Prop}(h:∀P∈[a,b],Q P):∀P∈[b,a],Q P:=λP c=>h P (by rcases cO.mp c with e|e;exact dN _ (bV.mpr e);rw[bV.mp e];exact eG)
end NH
namespace NH.P
open PySem L2 NH
@[reducible] noncomputable def jh:List Ds:=[(zr (dD Jn (zf (eV 0) 24)))]
noncomputable def wB:Fn:=bI 1 0 jh
@[reducible] noncomputable def jd:List Ds:=[(zp 2 (Zm [])),(zp 3 (zd .Sub (zd .Add (eV 1) (z6 zk [(eV 0),(eC (.int 30))])) (eC (.int 5)))),(kn (.one 4) (pP (z6 zk [(eV 0),(eC (.int 4))])) [(zp 5 (zd .Add (eV 3) (bC (jg [(eC (.int 0)),(z6 zk [(eV 0),(eC (.int 40))]),(zd .Sub (eC (.int 0)) (z6 zk [(eV 0),(eC (.int 40))]))]) (z6 zk [(eV 0),(eC (.int 3))])))),(zN (K6 (eV 2) (wq [(eV 3),(eV 5),(zx .Gt (z6 zk [(eV 0),(eC (.int 3))]) (eC (.int 0)))]))),(zp 3 (zd .Add (zd .Add (eV 3) (eC (.int 1))) (z6 zk [(eV 0),(eC (.int 20))])))]),(zr (wq [(bC (jg [(eC (.int 0)),(zd .Sub (z6 zk [(eV 0),(eC (.int 9))]) (eC (.int 4)))]) (z6 zk [(eV 0),(eC (.int 2))])),(eV 2)]))]
noncomputable def qt:Fn:=bI 2 4 jd
@[reducible] noncomputable def yu:List Ds:=[(pU [2,3] (eV 0)),(zp 4 (zd .Add (eV 2) (eV 1))),(kn (.tup [5,6,7]) (iE (eV 3)) [(bS (tE (zx .LtE (eV 5) (eV 1))) [(zp 4 (zd .Add (eV 6) (zd .Mult (zd .Sub (eV 1) (eV 5)) (dD p_ (eV 7)))))] [])]),(zr (eV 4))]
noncomputable def qX:Fn:=bI 2 6 yu
end NH.P
namespace NH
open PySem PySem.Spec PyProof.Rows L2
noncomputable abbrev G2(x y:T)(μ:aK):RE T:=match x,y with
 |.int i,.int j=>.grd (-1000000000000<=i/\i<=j/\j<=1000000000000/\j-i<=1000) (.ok (.lst (wL i j 1)) μ)
 |_,_=>.st
noncomputable abbrev BG(f g:De):De:=λc d=>(f c d).bind λx b=>(g c b).bind λy a=>G2 x y a
section
variable {D:DP}{W:XW}{X:Cx}{Γ:Cn}{k:Nat}{a b:aI}{f g:De}{pos:Pos}
theorem UU:∀{n:Nat}{F:Nat->V}{ys:List aC},ys.length=n->(∀j v,ys[j]?=aA v->RelV (F j) v)->aV ((eX n).map F) ys:=by
 intro n F ys b h;have e:ys=(eX n).map λj=>ys.getD j .none:=by
  apply List.ext_getElem?;intro j;by_cases z:j<n
  ·rw[c9,List.getElem?_range z];simp[List.getD,eS (b▸z:j<ys.length)]
  ·rw[lV (by lia),lV (by simp;lia)]
 rw[e];have:∀l:List Nat,(∀j∈l,j<n)->aV (l.map F) (l.map λj=>ys.getD j .none):=by
  intro l;induction l with
  |nil=>intro _;exact .nil
  |cons j l c=>
   intro a;refine .cons ?_ (c λi f=>a i (dN _ f));have d:j<ys.length:=b▸a j (eG ..);exact h j _ (by simp[List.getD,eS d])
 exact this _ λj a=>lS.mp a
theorem Xt{F:Nat->Int}:∀{l:List Nat},aN D φ α H (l.map λn=>T.int (F n)) (l.map λn=>V.int (F n))
 |[]=>rfl
 |n::r=>⟨.int (F n),_,rfl,rfl,Xt⟩
theorem PV (C:Ck D W Γ X k) (hc:X.calm=aB) (hx:("list":aG)∈Γ.G) (hg:Γ.gl "list"=.none) (E:("range":aG)∈Γ.G) (T:Γ.gl "range"=.none) (J:aP a=aB) (h:aP b=aB) (ha:PE X a (aX D W f)) (hb:PE X b (aX D W g)) :
  PE X (.Call (.Name "list" p0) [.Call (.Name "range" p1) [a,b] [] p2] [] pos) (aX D W (BG f g)):=by
 have hm:=C.glo _ hx;rw[hg] at hm;have F:=C.glo _ E;rw[T] at F;rintro A s σ H Q I ⟨w,α,τ,μ,sr,mr,p⟩;refine gY (qR I (C.glb _ hx) hm (u:=.type "list") (by decide +kernel) ?_);refine callWith_type1 (pz ?_);refine Call_ (qR I (C.glb _ E) F rV (callWith_type1 (aY (zD ha (zD hb qp (z4 h)) (z4 J) p2 A s σ H (λvs L=>∃(i j:Int) (d:aK) (c:List aF),vs=[.int i,.int j]/\aO α H c L/\aL D w c L d/\aJ D W w c L σ (RV D w Q) (G2 (.int i) (.int j) d)) I ?_) ?_) (by rw[z4 J,z4 h]) (by rw[z4 h];rfl)))
 ·refine⟨w,α,τ,μ,sr,mr,p.bind.mono λx d c L z m1 q1 v1 Y=>⟨w,c,τ,d,sr.step z,m1,q1.bind.mono λy N O H2 P m2 S v2 U=>?_⟩⟩;cases x with
  |int i=>
   cases y with
   |int j=>
    have Y:v1=.int _:=Y;have U:v2=.int _:=U;subst Y U;exact⟨i,j,N,O,rfl,z.trans P,m2,S⟩
   |_=>exact aJ.elim S
  |_=>exact aJ.elim S
 ·rintro us M ⟨vs,L,Z,rv,i,j,d,c,rfl,st,m,q⟩;cases rv with
  |cons r R=>
   cases R with
   |cons r' R=>
    cases R;obtain⟨t,rfl⟩:=r;obtain⟨t',rfl⟩:=r';obtain⟨⟨h1,h0,h2,h3⟩,q⟩:=q.grd;refine call_range_2 (o5 ?_);have e1:nH i j 1=(((if i<j then (j-i-1) / 1+1 else 0:Int).toNat:Nat):Int):=by
     unfold nH;rw[if_pos (by decide)];split
     ·rw[mo];lia
     ·lia
    have B:(if i<j then (j-i-1) / 1+1 else 0:Int).toNat<=1000:=by
     split
     ·rw[mo];lia
     ·lia
    refine call_list_range (Z.ok.hd hc) (rQ ..) ?_ e1 (by lia) ?_
    ·have fl:∀v:Int,-2000000000000<=v->v<=2000000000000->Ek v=aB:=λv a b=>by
      unfold Ek;rw[cH,decide_eq_true_eq,decide_eq_true_eq];exact⟨Int.le_trans (by decide) a,Int.lt_of_le_of_lt b (by decide)⟩
     unfold Dl;rw[e1,if_pos (show (1:Int) > 0 by decide),fl i (by lia) (by lia),fl j (by lia) (by lia),fl 1 (by decide) (by decide),fl _ (by lia) (by lia),fl _ (by lia) (by lia)];simp
    ·intro h' tk K c' kp e it;have I2:=Z.laid (a:=(M.heap.push {cls:=.type "range",data:=.fields #[.int i t,.int j t',.int 1 M.toks]}).objs.size) (o:=.lst ((eX (if i<j then (j-i-1) / 1+1 else 0:Int).toNat).map λ(n:Nat)=>V.int (i+n*1))) (h':=h') (t':=tk) (λb u e=>kp _ _ (bZ _ e)) (by rw[gX];exact gJ _) ⟨by simp only[bP,oZ];rw[fR];lia,K.toList,c',UU (by simpa using it.1) (λn v hv=>?_),by simpa using e⟩
     ·refine⟨.ref _,_,I2,rfl,?_⟩;have B:=Z.hok.fresh (a:=(M.heap.push {cls:=.type "range",data:=.fields #[.int i t,.int j t',.int 1 M.toks]}).objs.size) (by rw[gX];exact gJ _);have hh:=aJ.fresh q m (za B) ⟨_,_,rfl,zm m B,zo m B,.inl z5,(Xt (l:=eX _)).step (aO.new (za B))⟩;exact hh
     ·obtain⟨t,rfl⟩:=it.2 n v (by simpa using hv);exact⟨t,rfl⟩
end
noncomputable def FL:ER:=λr b e=>(y7 e).bind λq=>(Qi q.as).bind λa=>(y7 a).bind λc=>(pR c.as).bind λab=>gd (q.x==("list":aG)&&c.x==("range":aG)) (gd ((cL b.N q.x).isNone&&(cL b.N c.x).isNone) (gd (aP ab.1&&aP ab.2) (gd (g_ (b.look "list")&&g_ (b.look "range")) (gd b.calm ((r.e b ab.1).bind λf=>(r.e b ab.2).bind λg=>aA (BG f g))))))
theorem SF:cM D FL:=by
 intro r H X W t k e d C h;obtain⟨q,s,h⟩:=aS h;obtain⟨a,n,h⟩:=aS h;obtain⟨u,i,h⟩:=aS h;obtain⟨ab,c,h⟩:=aS h;obtain⟨j,h⟩:=z8 h;obtain⟨_,h⟩:=z8 h;obtain⟨l,h⟩:=z8 h;obtain⟨b,h⟩:=z8 h;obtain⟨m,h⟩:=z8 h;obtain⟨f,p,h⟩:=aS h;obtain⟨g,o,h⟩:=aS h;cases h;rw[wa s,vb n,wa i,V7 c,qe (zy j).1,qe (zy j).2];exact PV C (C.clm m) (zA (zy b).1).1 (zA (zy b).1).2 (zA (zy b).2).1 (zA (zy b).2).2 (zy l).1 (zy l).2 (H.e C p) (H.e C o)
noncomputable def ra(x:aG):List T->Option Bool
 |[]=>aA aD
 |.str y::r=>(ra x r).map (decide (y=x) || ·)
 |_::_=>aE
noncomputable abbrev Ya(x y:T)(μ:aK):RE T:=match x with
 |.str a=>(match y with|.tup c=>.som (ra a c) λb=>.ok (.bl b) μ|_=>.st)
 |_=>.st
noncomputable def rj(a:aG):aC->Bool
 |.str b _=>b==a
 |_=>aD
section
variable {D:DP}{W:XW}{X:Cx}{φ α:List aF}{H:Hp}{A:Around}{s:Shared}
theorem Y0{a:aG}{t:Tok}:∀{ys:List T}{c:Bool}{vs:List V}{us:List aC},ra a ys=aA c->aN D φ α H ys vs->aV vs us->(∀u∈us,hY A s u (.str a t) (rj a u))/\us.any (rj a)=c
 |[],c,vs,us,h,l,r=>by
  have l:vs=[]:=l;subst l;cases r;cases h;exact⟨by simp,rfl⟩
 |y::ys,c,vs,us,h,l,r=>by
  obtain⟨v,f,rfl,d,l⟩:=l;cases y with
  |str z=>
   have h:(ra a ys).map (decide (z=a) || ·)=aA c:=h;have d:v=.str z:=d;subst d;cases r with
   |cons j i=>
    obtain⟨g,rfl⟩:=j;obtain⟨o,n,rfl⟩:=lB.mp h;obtain⟨m,k⟩:=Y0 n l i;refine⟨λu b=>?_,?_⟩
    ·rcases cO.mp b with rfl|b
     ·exact DE z g a t
     ·exact m u b
    ·rw[ni,k];show (z==a || o)=_;by_cases e:z=a<;>simp[e]
  |_=>cases h
theorem MS:rH X D W .In Ya:=by
 intro e s C H B F E x y v w K J Q I n d u i h p;cases x with
 |str a=>
  have d:v=.str a:=d;subst d;obtain⟨t,rfl⟩:=i;cases y with
  |tup G=>
   obtain⟨c,r,q⟩:=aJ.som p;obtain⟨ad,f,rfl,_,_,rd,l⟩:=u;cases h;obtain⟨_,b,g,m⟩:=(show bB X.prog X.w H s.heap ad (.tup f) from rd.ok I.hok);obtain⟨k,j⟩:=Y0 (A:=X.A.in1) (s:=s) r l g;refine SeqAt.in_tupleAt (rj a) m (λz o=>k z (by simpa using o)) ⟨.bl _,H,I,rfl,?_⟩;have ea:b.toArray.any (rj a)=c:=by rw[←j];simp
   rw[ea];exact q.here n rfl
  |_=>exact aJ.elim p
 |_=>exact aJ.elim p
end
noncomputable def IK:aI->Bool
 |.Tuple _ _ _=>aB
 |_=>aD
noncomputable def FT:ER:=λr c e=>(nS e).bind λq=>gd (isIn q.op&&vx .In q.b) (gd (IK q.b) ((r.e c q.a).bind λf=>(r.e c q.b).bind λg=>aA (gL Ya f g)))
theorem S1{D:DP}:cM D FT:=by
 intro r H X W j k e d C h;obtain⟨q,b,h⟩:=aS h;obtain⟨a,h⟩:=z8 h;obtain⟨_,h⟩:=z8 h;obtain⟨f,i,h⟩:=aS h;obtain⟨g,c,h⟩:=aS h;cases h;rw[Vm b,Xm (zy a).1];exact FI MS (zy a).2 (H.e C i) (H.e C c)
end NH
namespace NH.P
open PySem L2 NH
@[reducible] noncomputable def wO:List Ds:=[(zN (zF 45 qf (eV 0) [])),(zp 3 (zF 45 zZ (eV 0) [(eV 1),(eV 2)])),(zN (zF 45 qi (eV 0) [(zf (eV 0) 6),(zF 45 qa (eV 0) [(zd .FloorDiv (zd .Sub (zf (eV 3) 13) (eC (.int 1))) (zf (zf (eV 0) 9) 2))])])),(zM (eV 0) 18 (z6 xg [(zf (eV 0) 9),(zf (eV 3) 11),(zd .Sub (zf (eV 3) 13) (eC (.int 1)))])),(zr (eV 3))]
noncomputable def qY:Fn:=bI 3 1 wO
@[reducible] noncomputable def k9:List Ds:=[(zp 3 (zF 45 qY (eV 0) [(eV 1),(eV 2)])),(zM (eV 0) 19 (Zm [])),(zr (z6 qg [(zf (eV 0) 9),(eV 3)]))]
noncomputable def qE:Fn:=bI 3 1 k9
@[reducible] noncomputable def wx:List Ds:=[(bS (qc (tE (z6 ku [(eV 1)]))) [(zG 25 [(eC (.str "no row of a world"))])] []),(bS (xA (tE (zx .IsNot (zf (eV 0) 25) (eC .non))) (tE (zx .Lt (bC (eV 1) (eC (.int 1))) (zf (eV 0) 25)))) [Bl] []),(bS (fx (qc (tE (z6 qS [(bC (eV 1) (eC (.int 2)))]))) (tE (gL Vh (bC (eV 1) (eC (.int 2))) (zf (eV 0) 26)))) [(zG 17 [(eC (.str "no holder of the world"))])] [])]
noncomputable def q9:Fn:=bI 2 0 wx
@[reducible] noncomputable def jw:List Ds:=[(zp 2 (gL JO (zf (eV 0) 26) (bC (eV 1) (eC (.int 2))))),(zp 3 (zF 41 zC (zf (eV 2) 21) [(bC (eV 1) (eC (.int 1)))])),(bS (tE (zx .Eq (bC (eV 1) (eC (.int 0))) (eC (.str "ask")))) [(zr (zF 45 qE (zf (eV 2) 11) [(eV 3),(bC (eV 1) (eC (.int 3)))]))] []),(bS (tE (zx .Eq (bC (eV 1) (eC (.int 0))) (eC (.str "take")))) [(zr mP)] []),(bS (tE (zx .Eq (bC (eV 1) (eC (.int 0))) (eC (.str "store")))) [(zN mP)] [(bS (tE (zx .Eq (bC (eV 1) (eC (.int 0))) (eC (.str "lease")))) [(zN (zF 45 zX (zf (eV 2) 11) [(zF 43 vN (zf (eV 0) 23) [(bC (eV 1) (eC (.int 2))),(bC (eV 1) (eC (.int 3))),(eV 3),(bC (eV 1) (eC (.int 4)))])]))] [(bS (tE (zx .Eq (bC (eV 1) (eC (.int 0))) (eC (.str "back")))) [(zp 4 mP),(zN mP)] [(bS (tE (zx .Eq (bC (eV 1) (eC (.int 0))) (eC (.str "fall")))) [(zN (zF 47 zL (eV 0) [(eV 2)]))] [(zM (eV 2) 22 (eC .non)),(zN (zF 47 zL (eV 0) [(eV 2)]))])])])]),(zr (jg []))]
noncomputable def qM:Fn:=bI 2 3 jw
@[reducible] noncomputable def jY:List Ds:=[(zN (zF 47 q9 (eV 0) [(eV 1)])),(zp 2 (zF 47 qM (eV 0) [(eV 1)])),(zM (eV 0) 25 (bC (eV 1) (eC (.int 1)))),(zN (Ar (zf (eV 0) 24) (qw 1 [1] (.one 0) (iE (eV 2)) [] (wq [(bC (eV 1) (eC (.int 1))),(bC (eV 1) (eC (.int 2))),(eV 0)])))),(zr (eV 2))]
noncomputable def zW:Fn:=bI 2 1 jY
@[reducible] noncomputable def W9:List Ds:=[(bS (qc (tE (z6 zS [(eV 1)]))) [(zG 16 [(eC (.str "ahead is a whole number from 0 on"))])] []),(zp 6 (z6 jJ [(eV 2),(eV 3),(eV 4),(eV 5)])),(zp 7 (bC (eV 6) (eC (.int 1)))),(zp 8 (bC (eV 6) (eC (.int 2)))),(zp 9 (zF 41 zC (eV 2) [(eV 7)])),(zp 10 (jg [(eV 9),(zd .Add (eV 9) (eV 1)),(zF 41 zC (eV 3) [(eV 8)])])),(bS (fx (tE (zx .Eq (zf (eV 0) 1) (eC (.int 1)))) (qc (tE (dD V5 (qw 1 [0] (.one 0) (iE (eV 10)) [] (z6 qq [(eV 0),(zf (eV 1) 0)])))))) [(zG 19 [(eC (.str "the shape has no room for it"))])] []),(zp 11 (jg [(wq [(eC (.str "lease")),(eV 7),(eC (.str "one")),(eC (.int 0)),(eC (.int 1))]),(wq [(eC (.str "ask")),(eV 7),(eC (.str "one")),(eC (.int 1))]),(wq [(eC (.str "lease")),(eV 8),(eC (.str "two")),(eC (.int 1)),(eC (.int 1))]),(wq [(eC (.str "ask")),(eV 8),(eC (.str "two")),(eC (.int 1))])])),(bS (tE (zx .Eq (eV 1) (eC (.int 0)))) [(zr (eV 11))] []),(zr (zd .Add (jg [(wq [(eC (.str "lease")),(eV 7),(eC (.str "one")),(eC (.int 0)),(eV 1)])]) (eV 11)))]
noncomputable def jI:Fn:=bI 6 6 W9
@[reducible] noncomputable def W7:List Ds:=[(bS (tE (zx .Lt (zd .Sub (eV 3) (eV 2)) (eC (.int 61)))) [(zr (BG (eV 2) (zd .Add (eV 3) (eC (.int 1)))))] []),(zp 4 (XX [((eV 2),(eC (.int 1))),((eV 3),(eC (.int 1)))])),(kn (.tup [5,6,7]) (iE (zd .Add (bC (eV 0) (eC (.int 1))) (bC (eV 1) (eC (.int 1))))) [(zN (An (eV 4) (Ai [((eV 5),(eC (.int 1))),((zd .Sub (eV 5) (eC (.int 1))),(eC (.int 1)))])))]),(zr (dD Xv (qw 1 [2,3] (.one 0) (iD (eV 4)) [(tE (iC (eV 1) [(.LtE,(eV 0)),(.LtE,(eV 2))]))] (eV 0))))]
noncomputable def ub:Fn:=bI 4 4 W7
@[reducible] noncomputable def jv:List Ds:=[(zp 4 (eC .non)),(zp 5 (z6 ub [(eV 0),(eV 1),(eV 2),(eV 3)])),(kn (.one 6) (iE (eV 5)) [(kn (.one 7) (iE (qw 1 [6] (.one 0) (iE (eV 5)) [(tE (zx .GtE (eV 0) (eV 1)))] (eV 0))) [(zp 8 (zd .Sub (z6 qX [(eV 0),(eV 6)]) (z6 qX [(eV 1),(eV 7)]))),(bS (fx (tE (zx .Is (eV 4) (eC .non))) (tE (zx .Gt (eV 8) (bC (eV 4) (eC (.int 0)))))) [(zp 4 (wq [(eV 8),(eV 6),(eV 7)]))] [])])]),(zr (eV 4))]
noncomputable def jK:Fn:=bI 4 5 jv
@[reducible] noncomputable def Zq:List Ds:=[(zp 6 (eC .non)),(nQ [(zp 6 (z6 jI [(eV 0),(eV 1),(eV 2),(eV 3),(eV 4),(eV 5)]))] [([19],aE,[(zp 6 (eC (.str "ended")))]),([16],aE,[(zp 6 (eC (.str "time")))])]),(zr (eV 6))]
noncomputable def wX:Fn:=bI 6 1 Zq
@[reducible] noncomputable def vc:List Ds:=[(zp 8 (Qj 47 vQ [(eV 1),(eV 2),(eV 3),(eV 4)])),(zp 9 (eC (.bl aB))),(kn (.one 10) (iE (eV 0)) [(zp 9 (jP (eV 9) (jP (gL Ya (bC (eV 10) (eC (.int 0))) (wq [(eC (.str "lease")),(eC (.str "ask"))])) (iC (eV 6) [(.LtE,(bC (eV 10) (eC (.int 1)))),(.LtE,(eV 7))])))),(nQ [(zN (zF 47 zW (eV 8) [(eV 10)]))] [([10],aE,[(zp 9 (eC (.bl aD)))])])]),(bS (qc (tE (eV 9))) [(zr (eC (.bl aD)))] []),(zp 11 (z6 uh [(eV 1),(zF 47 wB (eV 8) [])])),(zr (jP (zx .IsNot (eV 11) (eC .non)) (zx .Eq (bC (eV 11) (eC (.int 0))) (eV 5))))]
noncomputable def jO:Fn:=bI 8 4 vc
@[reducible] noncomputable def vH:List Ds:=[(zp 1 (z6 vr [(z6 wJ [(eV 0),(eC (.int 0))])])),(zp 2 (zd .Add (eC (.int 1)) (bC (jg [(z6 zk [(eV 1),(eC (.int 300))]),(zd .Pow (eC (.int 10)) (eC (.int 12)))]) (z6 zk [(eV 1),(eC (.int 2))])))),(zp 3 (zd .Add (eC (.int 1)) (bC (jg [(z6 zk [(eV 1),(eC (.int 5))]),(z6 zk [(eV 1),(zd .Pow (eC (.int 10)) (eC (.int 6)))])]) (z6 zk [(eV 1),(eC (.int 2))])))),(zp 4 (zd .Add (eC (.int 1)) (z6 zk [(eV 1),(eC (.int 4))]))),(zp 5 (bC (jg [(z6 zk [(eV 1),(eC (.int 9))]),(z6 zk [(eV 1),(eC (.int 90))])]) (z6 zk [(eV 1),(eC (.int 2))]))),(zp 6 (bC (jg [(z6 zk [(eV 1),(eC (.int 100))]),(zd .Sub (eC (.int 0)) (z6 zk [(eV 1),(eC (.int 20))]))]) (z6 zk [(eV 1),(eC (.int 2))]))),(zp 7 (zd .Add (eV 6) (bC (jg [(eC (.int 0)),(z6 zk [(eV 1),(eC (.int 60))]),(z6 zk [(eV 1),(eC (.int 60))]),(z6 zk [(eV 1),(zd .Pow (eC (.int 10)) (eC (.int 9)))])]) (z6 zk [(eV 1),(eC (.int 4))])))),(zp 8 (z6 qt [(z6 vr [(z6 wJ [(eV 0),(eC (.int 1))])]),(eV 6)])),(zp 9 (z6 qt [(z6 vr [(z6 wJ [(eV 0),(eC (.int 2))])]),(eV 6)])),(zp 10 (Qj 41 wV [(bC (eV 8) (eC (.int 0))),(bC (eV 8) (eC (.int 1)))])),(zp 11 (Qj 41 wV [(bC (eV 9) (eC (.int 0))),(bC (eV 9) (eC (.int 1)))])),(zp 12 (rA 40 vS [(eV 2),(eV 4),(eV 3)])),(bS (tE (zx .NotEq (z6 wX [(eV 12),(eV 5),(eV 10),(eV 11),(eV 7),(zd .Sub (zd .Sub (eV 6) (eC (.int 1))) (z6 zk [(eV 1),(eC (.int 5))]))]) (eC (.str "time")))) [(zr (eC (.bl aD)))] []),(pU [13,14,15] (z6 jK [(eV 8),(eV 9),(eV 6),(eV 7)])),(zp 16 (z6 qX [(eV 8),(eV 14)])),(zp 17 (z6 qX [(eV 9),(eV 15)])),(zp 18 (z6 wX [(eV 12),(eV 5),(eV 10),(eV 11),(eV 6),(eV 7)])),(bS (fx (tE (zx .Lt (eV 4) (eC (.int 2)))) (fx (tE (zx .Lt (ig QU (eV 16) (eV 17)) (eC (.int 0)))) (tE (zx .GtE (ig yr (zd .Add (eV 16) (eV 5)) (eV 17)) (eV 2))))) [(zr (zx .Eq (eV 18) (eC (.str "ended"))))] []),(bS (fx (qc (tE (xY [5] (eV 18)))) (tE (zx .Eq (eV 18) (jg [])))) [(zr (eC (.bl aD)))] []),(zr (z6 jO [(eV 18),(eV 12),(eV 5),(z6 zk [(eV 1),(eC (.int 9))]),(XX [((eC (.str "one")),(eV 10)),((eC (.str "two")),(eV 11))]),(zd .Add (eV 13) (eV 5)),(eV 6),(eV 7)]))]
noncomputable def xj:Fn:=bI 1 18 vH
end NH.P
namespace NH.K54
open PySem PySem.Spec PyProof.Rows L2 NH NH.P
noncomputable def st(i:Nat):bG:=PySem.Challenge.pw_namehouses_k54_the_bound_is_met.main.body.getD i (.Pass ⟨0,0,0,0⟩)
noncomputable def cls:List (aG×Nat):=[("Clock",41),("Ended",19),("HouseError",10),("NoTime",16),("bool",1),("dict",6),("int",2),("list",5),("str",3),("tuple",4)]
noncomputable def fld:List (aG×Nat):=[("moments",0),("houses",1),("counts",2),("start",3),("turns",4),("holder",5),("lease",6),("until",7),("is_cut",8),("shape",9),("grants",10),("house",11),("begin",12),("end",13),("ahead",14),("stride",15),("keeper",16),("mark",17),("newest",18),("batches",19),("has_fallen",20),("clock",21),("kept",22),("common",23),("given",24),("now",25),("seats",26),("by",29)]
noncomputable def RU:dR:=⟨[FT,FL,F8,Gb,E3,Fh,FA,Fq,EV,UK,Fj,FR,EG,EY,Fe,FU,Fk,EX,ET,F0,E4,FG,FO,F1,EU,Fg,ED,FY,FJ,Gd,UQ,Fw],[Ga,Bb,FW],[GF],[GU,FQ,F4,GV],[F7,GK,A_,uF],[GG,Gy,Fz,F9]⟩
theorem ZS{D:DP}:cI D RU:=⟨⟨S1,SF,SI,S0,Pe,P7,RZ,PK,PB,RO,Pa,Sj,PJ,O8,PX,Sb,PD,Rk,Oz,So,Pd,RF,UM,RB,Pg,PM,OB,Se,UL,YG,U3,Rx,trivial⟩,⟨U_,UT,SK,trivial⟩,⟨Uo,trivial⟩,⟨Nl,RP,UA,ND,trivial⟩,⟨SW,Uc,Jq,Qs,trivial⟩,⟨YV,YO,Ux,UZ,trivial⟩⟩
noncomputable def ry:List (aG×GM):=Yd ["ValueError","all","bool","dict","int","isinstance","len","list","max","min","range","reversed","sorted","str","sum","tuple"] [("HouseError",10),("NoShape",12),("NoName",13),("NoClock",15),("NoTime",16),("NoHolder",17),("NoLease",18),("Ended",19),("TooMany",20),("Empty",22),("NoNote",23),("Fallen",24),("NoRow",25)] [("Wait",21,29),("Backward",26,25)]
noncomputable def ZT:=st 18
noncomputable def X1:Cn:=cn cls fld ry ["thing"] ["isinstance","int","bool"] [] []
theorem KI:zh ((aR RU 60).s X1) (z3 ZT)=aA ZO:=by kernel_rfl
noncomputable def BE:List (aG×GM):=("is_whole",GM.fn zJ)::ry
noncomputable def QE:=st 19
noncomputable def YT:Cn:=cn cls fld BE ["thing"] ["is_whole"] [] []
theorem YS:zh ((aR RU 60).s YT) (z3 QE)=aA QN:=by kernel_rfl
noncomputable def BD:List (aG×GM):=("is_size",GM.fn ve)::BE
noncomputable def vC:=st 20
noncomputable def ya:Cn:=cn cls fld BD ["thing"] ["is_whole"] [] []
theorem x_:zh ((aR RU 60).s ya) (z3 vC)=aA vB:=by kernel_rfl
noncomputable def BC:List (aG×GM):=("is_from_nought",GM.fn zS)::BD
noncomputable def Zb:=st 21
noncomputable def Ks:Cn:=cn cls fld BC ["thing","bound"] ["is_whole"] [] []
theorem JS:zh ((aR RU 60).s Ks) (z3 Zb)=aA ZK:=by kernel_rfl
noncomputable def BB:List (aG×GM):=("is_below",GM.fn qq)::BC
noncomputable def xo:=aW (st 22) 0
noncomputable def V4:Cn:=cn cls fld BB ["self","moments","houses","counts"] ["is_size","NoShape"] [] []
theorem WG:zh ((aR RU 60).s V4) (z3 xo)=aA xN:=by kernel_rfl
noncomputable def BA:List (aG×GM):=("Shape",GM.mk 40 aB vS)::BB
noncomputable def uR:=st 23
noncomputable def KQ:Cn:=cn cls fld BA ["shape"] [] [] []
theorem JQ:zh ((aR RU 60).s KQ) (z3 uR)=aA u_:=by kernel_rfl
noncomputable def Bz:List (aG×GM):=("names_in",GM.fn xv)::BA
noncomputable def Wo:=st 24
noncomputable def YN:Cn:=cn cls fld Bz ["shape","thing"] ["is_below","names_in"] [] []
theorem Ub:zh ((aR RU 60).s YN) (z3 Wo)=aA We:=by kernel_rfl
noncomputable def By:List (aG×GM):=("is_name",GM.fn uq)::Bz
noncomputable def xt:=st 25
noncomputable def Vo:Cn:=cn cls fld By ["shape","thing"] ["is_name","NoName"] [] []
theorem Vq:zh ((aR RU 60).s Vo) (z3 xt)=aA xC:=by kernel_rfl
noncomputable def Bx:List (aG×GM):=("check_name",GM.fn vR)::By
noncomputable def xD:=st 26
noncomputable def WM:Cn:=cn cls fld Bx ["thing","bound"] ["is_below","NoName"] [] []
theorem Vb:zh ((aR RU 60).s WM) (z3 xD)=aA xm:=by kernel_rfl
noncomputable def Bw:List (aG×GM):=("check_part",GM.fn qW)::Bx
noncomputable def QS:=st 27
noncomputable def U9:Cn:=cn cls fld Bw ["shape","moment","house","count"] ["check_part"] [] []
theorem U7:zh ((aR RU 60).s U9) (z3 QS)=aA Qt:=by kernel_rfl
noncomputable def tT:List (aG×GM):=("name_of",GM.fn ui)::Bw
noncomputable def Zy:=st 28
noncomputable def X4:Cn:=cn cls fld tT ["shape","name","count","above"] ["check_name"] [] []
theorem KA:zh ((aR RU 60).s X4) (z3 Zy)=aA Z5:=by kernel_rfl
noncomputable def Fd:List (aG×GM):=("parts_of",GM.fn jy)::tT
noncomputable def Et:List (aG×GM):=("TIME_clocks",GM.cst (.int 0))::Fd
noncomputable def Fc:List (aG×GM):=("READING",GM.cst (.int 1))::Et
noncomputable def Ak:List (aG×GM):=("RUNS",GM.cst (.int 2))::Fc
noncomputable def Wk:=st 33
noncomputable def Yw:Cn:=cn cls fld Ak ["thing"] ["isinstance","tuple","len","is_whole","TIME_clocks","READING","RUNS","bool"] [] []
theorem YW:zh ((aR RU 60).s Yw) (z3 Wk)=aA QP:=by kernel_rfl
noncomputable def wf:List (aG×GM):=("is_turn",GM.fn uo)::Ak
noncomputable def yO:=st 34
noncomputable def Jv:Cn:=cn cls fld wf ["thing"] ["isinstance","list","all","range","len"] ["thing"] []
theorem Jk:zh ((aR RU 60).s Jv) (z3 yO)=aA yv:=by kernel_rfl
noncomputable def AA:List (aG×GM):=("are_turns",GM.fn jH)::wf
noncomputable def kZ:=aW (st 35) 0
noncomputable def Wy:Cn:=cn cls fld AA ["self","start","turns"] ["is_whole","are_turns","NoClock","list"] [] []
theorem V2:zh ((aR RU 60).s Wy) (z3 kZ)=aA xK:=by kernel_rfl
noncomputable def t5:List (aG×GM):=("Clock",GM.mk 41 aD wV)::AA
noncomputable def jc:=aW (st 35) 1
noncomputable def u4:Cn:=cn cls fld t5 ["self","time","turn"] ["is_whole","NoTime","reversed","TIME_clocks","READING","RUNS"] [] []
theorem yX:zh ((aR RU 60).s u4) (z3 jc)=aA jf:=by kernel_rfl
noncomputable def t7:List (aG×GM):=(eD "reading",GM.met 41 "reading" zC)::t5
noncomputable def xJ:=st 36
noncomputable def WS:Cn:=cn cls fld t7 ["clock","begin","end"] [] ["begin","end"] []
theorem WT:zh ((aR RU 60).s WS) (z3 xJ)=aA xl:=by kernel_rfl
noncomputable def wn:List (aG×GM):=("turn_times",GM.fn qU)::t7
noncomputable def Xu:=st 37
noncomputable def Pc:Cn:=cn cls fld wn ["one","other","begin","end","turned"] ["turn_times"] [] []
theorem Rf:zh ((aR RU 60).s Pc) (z3 Xu)=aA Xw:=by kernel_rfl
noncomputable def Av:List (aG×GM):=("edges",GM.fn XH)::wn
noncomputable def Qy:=st 38
noncomputable def Uh:Cn:=cn cls fld Av ["one","other","begin","end","time","lows","found","low","best"] ["is_whole","NoTime","turn_times","edges","min"] ["other","time"] ["found"]
theorem U1:zh ((aR RU 60).s Uh) (z3 Qy)=aA W6:=by kernel_rfl
noncomputable def EI:List (aG×GM):=("apart",GM.fn jJ)::Av
noncomputable def EA:List (aG×GM):=("HOUSE_leases",GM.cst (.int 0))::EI
noncomputable def EQ:List (aG×GM):=("FIRST",GM.cst (.int 1))::EA
noncomputable def AO:List (aG×GM):=("UNTIL",GM.cst (.int 2))::EQ
noncomputable def ZJ:=st 43
noncomputable def JV:Cn:=cn cls fld AO ["shape","thing"] ["isinstance","tuple","len","is_below","HOUSE_leases","is_whole","FIRST","UNTIL"] [] []
theorem JY:zh ((aR RU 60).s JV) (z3 ZJ)=aA uT:=by kernel_rfl
noncomputable def Af:List (aG×GM):=("is_lease",GM.fn k_)::AO
noncomputable def jZ:=st 44
noncomputable def Q8:Cn:=cn cls fld Af ["shape","thing"] ["is_lease","NoLease"] [] []
theorem Q0:zh ((aR RU 60).s Q8) (z3 jZ)=aA jX:=by kernel_rfl
noncomputable def Fl:List (aG×GM):=("check_lease",GM.fn vd)::Af
noncomputable def EL:List (aG×GM):=("LETTERS",GM.cst (.str "abcdefghijklmnopqrstuvwxyz"))::Fl
noncomputable def AJ:List (aG×GM):=("LONGEST_HOLDER",GM.cst (.int 8))::EL
noncomputable def yP:=st 49
noncomputable def Jz:Cn:=cn cls fld AJ ["thing"] ["isinstance","str","len","LONGEST_HOLDER","all"] [] []
theorem Jd:zh ((aR RU 60).s Jz) (z3 yP)=aA yM:=by kernel_rfl
noncomputable def AE:List (aG×GM):=("is_holder",GM.fn qS)::AJ
noncomputable def xW:=aW (st 50) 0
noncomputable def V9:Cn:=cn cls fld AE ["self","holder","lease"] ["UNTIL"] [] []
theorem W_:zh ((aR RU 60).s V9) (z3 xW)=aA xG:=by kernel_rfl
noncomputable def Ao:List (aG×GM):=("Grant",GM.mk 42 aD kC)::AE
noncomputable def Xh:=st 51
noncomputable def Rj:Cn:=cn cls fld Ao ["grant","first","until"] ["max","FIRST","min"] [] []
theorem Rc:zh ((aR RU 60).s Rj) (z3 Xh)=aA Xr:=by kernel_rfl
noncomputable def tQ:List (aG×GM):=("meets",GM.fn fW)::Ao
noncomputable def qy:=st 52
noncomputable def Q7:Cn:=cn cls fld tQ ["grants","moment","span","begin","grant"] ["sorted","meets"] [] [] (aA (0,[⟨155,36,155,64⟩]))
theorem Q1:zh ((aR RU 60).s Q7) (z3 qy)=aA jW:=by kernel_rfl
noncomputable def AZ:List (aG×GM):=("least_begin",GM.fn wc)::tQ
noncomputable def j_:=st 53
noncomputable def Qg:Cn:=cn cls fld AZ ["grants","moment","span","met","grant","house"] ["meets","HOUSE_leases"] [] ["met"]
theorem Q2:zh ((aR RU 60).s Qg) (z3 j_)=aA k6:=by kernel_rfl
noncomputable def tX:List (aG×GM):=("least_house",GM.fn yK)::AZ
noncomputable def kc:=aW (st 54) 0
noncomputable def Qo:Cn:=cn cls fld tX ["self","shape"] [] [] ["grants"]
theorem ZY:zh ((aR RU 60).s Qo) (z3 kc)=aA kf:=by kernel_rfl
noncomputable def tP:List (aG×GM):=("Common",GM.mk 43 aD vi)::tX
noncomputable def w_:=aW (st 54) 2
noncomputable def kE:Cn:=cn cls fld tP ["self","holder","house","moment","span"] ["is_holder","NoHolder","is_below","NoName","is_size","NoTime","is_whole"] [] []
theorem kr:zh ((aR RU 60).s kE) (z3 w_)=aA qB:=by kernel_rfl
noncomputable def At:List (aG×GM):=(eD "check_let",GM.met 43 "check_let" qj)::tP
noncomputable def wM:=aW (st 54) 4
noncomputable def kP:Cn:=cn cls fld At ["self","house"] [] ["house"] []
theorem kK:zh ((aR RU 60).s kP) (z3 wM)=aA wN:=by kernel_rfl
noncomputable def AL:List (aG×GM):=(eD "grants_of",GM.met 43 "grants_of" qm)::At
noncomputable def wy:=aW (st 54) 3
noncomputable def jT:Cn:=cn cls fld AL ["self","house","moment","span","begin"] ["least_house","least_begin"] [] []
theorem jR:zh ((aR RU 60).s jT) (z3 wy)=aA wt:=by kernel_rfl
noncomputable def t9:List (aG×GM):=(eD "free_lease",GM.met 43 "free_lease" zQ)::AL
noncomputable def xU:=aW (st 54) 1
noncomputable def WN:Cn:=cn cls fld t9 ["self","holder","house","moment","span","lease"] ["max","HOUSE_leases","UNTIL","Ended","Grant"] [] []
theorem Vl:zh ((aR RU 60).s WN) (z3 xU)=aA xy:=by kernel_rfl
noncomputable def AM:List (aG×GM):=(eD "let",GM.met 43 "let" vN)::t9
noncomputable def xZ:=aW (st 57) 0
noncomputable def Wq:Cn:=cn cls fld AM ["self","house","begin","end"] [] [] []
theorem WX:zh ((aR RU 60).s Wq) (z3 xZ)=aA xc:=by kernel_rfl
noncomputable def AK:List (aG×GM):=("Batch",GM.mk 44 aB kD)::AM
noncomputable def Wi:=st 58
noncomputable def Ui:Cn:=cn cls fld AK ["shape","house","place"] ["name_of"] [] []
theorem YJ:zh ((aR RU 60).s Ui) (z3 Wi)=aA QL:=by kernel_rfl
noncomputable def AS:List (aG×GM):=("name_at",GM.fn xg)::AK
noncomputable def wU:=st 59
noncomputable def kN:Cn:=cn cls fld AS ["shape","batch"] ["range"] ["shape","batch"] ["return"]
theorem kA:zh ((aR RU 60).s kN) (z3 wU)=aA wZ:=by kernel_rfl
noncomputable def v0:List (aG×GM):=("names_of_batch",GM.fn qg)::AS
noncomputable def k8:=st 62
noncomputable def Qd:Cn:=cn cls fld v0 ["shape","house","name","parts"] ["parts_of"] [] []
theorem Qq:zh ((aR RU 60).s Qd) (z3 k8)=aA kg:=by kernel_rfl
noncomputable def AR:List (aG×GM):=("place_above",GM.fn yB)::v0
noncomputable def yq:=aW (st 76) 0
noncomputable def Jp:Cn:=cn cls fld AR ["self","clock"] [] [] []
theorem Jw:zh ((aR RU 60).s Jp) (z3 yq)=aA yQ:=by kernel_rfl
noncomputable def AN:List (aG×GM):=("Seat",GM.mk 46 aD vw)::AR
noncomputable def Zi:=aW (st 76) 1
noncomputable def Kg:Cn:=cn cls fld AN ["self","note"] [] [] []
theorem Kp:zh ((aR RU 60).s Kg) (z3 Zi)=aA uO:=by kernel_rfl
noncomputable def tU:List (aG×GM):=(eD "jot",GM.met 46 "jot" jx)::AN
noncomputable def ES:aI:=(Ir (Ld (sIx (z3 (aW (st 77) 1)) 0)) 3)
noncomputable def L8:bO:=⟨1,((("World.come_up":aG)++".<locals>.")++"<lambda>"),"note",Lc ES,IQ ES,["seat"],(zF 46 jx (eV 1) [(eV 0)]),aE⟩
noncomputable def pZ:List bO:=[L8]
noncomputable def UD:Cn:=cn cls fld tU [] [] [] []
noncomputable def tW (l:bO):List aG:=(Z7 l.sc).filter λx=>([]:List aG).contains x
theorem M8:gR (λl=>Y8 (yD UD l (tW l)) l=aB/\Ag RU 60 (yD UD l (tW l)) l) pZ:=⟨⟨by kernel_rfl,.inl ⟨rfl,by kernel_rfl⟩⟩,trivial⟩
noncomputable def ww:List (aG×GM):=(ZN,GM.kap pZ)::tU
noncomputable def zw:=aW (st 63) 0
noncomputable def Zx:Cn:=cn cls fld ww ["self","shape","ahead","stride","keeper","note"] ["is_from_nought","NoTime","NoNote"] [] ["batches"]
theorem Z1:zh ((aR RU 60).s Zx) (z3 zw)=aA jn:=by kernel_rfl
noncomputable def E9:List (aG×GM):=("House",GM.mk 45 aD qk)::ww
noncomputable def wr:List (aG×GM):=(ri "House",GM.mkd 45 "House" 4 qk)::E9
noncomputable def vJ:=aW (st 63) 8
noncomputable def yl:Cn:=cn cls fld wr ["self"] ["Fallen"] [] []
theorem yi:zh ((aR RU 60).s yl) (z3 vJ)=aA vA:=by kernel_rfl
noncomputable def tM:List (aG×GM):=(eD "check_up",GM.met 45 "check_up" qf)::wr
noncomputable def xB:=aW (st 63) 7
noncomputable def WI:Cn:=cn cls fld tM ["self"] [] [] []
theorem WH:zh ((aR RU 60).s WI) (z3 xB)=aA xa:=by kernel_rfl
noncomputable def AU:List (aG×GM):=(eD "note",GM.met 45 "note" v_)::tM
noncomputable def jk:=aW (st 63) 15
noncomputable def uw:Cn:=cn cls fld AU ["self","lease","mark"] [] [] []
theorem Zp:zh ((aR RU 60).s uw) (z3 jk)=aA jA:=by kernel_rfl
noncomputable def AY:List (aG×GM):=(eD "keep",GM.met 45 "keep" qi)::AU
noncomputable def wk:=aW (st 63) 1
noncomputable def jl:Cn:=cn cls fld AY ["self","lease"] ["check_lease"] [] []
theorem jr:zh ((aR RU 60).s jl) (z3 wk)=aA wh:=by kernel_rfl
noncomputable def wl:List (aG×GM):=(eD "take_lease",GM.met 45 "take_lease" zX)::AY
noncomputable def qH:=aW (st 63) 9
noncomputable def vD:Cn:=cn cls fld wl ["self"] ["NoLease"] [] []
theorem vF:zh ((aR RU 60).s vD) (z3 qH)=aA qF:=by kernel_rfl
noncomputable def AG:List (aG×GM):=(eD "check_has_lease",GM.met 45 "check_has_lease" q5)::wl
noncomputable def wY:=aW (st 63) 13
noncomputable def kL:Cn:=cn cls fld AG ["self"] ["place_above","HOUSE_leases"] [] []
theorem kR:zh ((aR RU 60).s kL) (z3 wY)=aA wK:=by kernel_rfl
noncomputable def AW:List (aG×GM):=(eD "free_place",GM.met 45 "free_place" qQ)::AG
noncomputable def we:=aW (st 63) 12
noncomputable def jm:Cn:=cn cls fld AW ["self","reading","many","least","begin","end","by"] ["is_size","TooMany","is_whole","NoTime","max","FIRST","UNTIL","NoLease","Wait","Batch","HOUSE_leases"] [] []
theorem jD:zh ((aR RU 60).s jm) (z3 we)=aA wg:=by kernel_rfl
noncomputable def t6:List (aG×GM):=(eD "next_batch",GM.met 45 "next_batch" zZ)::AW
noncomputable def wu:=aW (st 63) 14
noncomputable def jV:Cn:=cn cls fld t6 ["self","moment"] ["min"] [] []
theorem jS:zh ((aR RU 60).s jV) (z3 wu)=aA qo:=by kernel_rfl
noncomputable def As:List (aG×GM):=(eD "mark_behind",GM.met 45 "mark_behind" qa)::t6
noncomputable def wR:=aW (st 63) 11
noncomputable def kM:Cn:=cn cls fld As ["self","reading","many","batch"] ["name_at"] [] []
theorem kU:zh ((aR RU 60).s kM) (z3 wR)=aA wO:=by kernel_rfl
noncomputable def xL:List (aG×GM):=(eD "hand_out",GM.met 45 "hand_out" qY)::As
noncomputable def zz:=aW (st 63) 2
noncomputable def Ql:Cn:=cn cls fld xL ["self","reading","many","batch"] ["names_of_batch"] [] ["batches"]
theorem Q4:zh ((aR RU 60).s Ql) (z3 zz)=aA k9:=by kernel_rfl
noncomputable def E5:List (aG×GM):=(eD "ask",GM.met 45 "ask" qE)::xL
noncomputable def Fo:List (aG×GM):=(ri (eD "ask"),GM.metd 45 "ask" 1 (.int 1) qE)::E5
noncomputable def EB:List (aG×GM):=("LENGTHS",GM.tbl [("lease",5),("ask",4),("store",4),("take",4),("back",3),("fall",3),("bare",3)])::Fo
noncomputable def EK:List (aG×GM):=("WORD",GM.cst (.int 0))::EB
noncomputable def Fs:List (aG×GM):=("TIME_rows",GM.cst (.int 1))::EK
noncomputable def Ez:List (aG×GM):=("HOLDER",GM.cst (.int 2))::Fs
noncomputable def EO:List (aG×GM):=("HOUSE_rows",GM.cst (.int 3))::Ez
noncomputable def Fu:List (aG×GM):=("SPAN",GM.cst (.int 4))::EO
noncomputable def AV:List (aG×GM):=("MANY",GM.cst (.int 3))::Fu
noncomputable def ZW:=st 72
noncomputable def X8:Cn:=cn cls fld AV ["parts"] ["len","isinstance","WORD","str","LENGTHS"] [] []
theorem Kb:zh ((aR RU 60).s X8) (z3 ZW)=aA Zg:=by kernel_rfl
noncomputable def AI:List (aG×GM):=("has_form",GM.fn vz)::AV
noncomputable def Jm:=st 73
noncomputable def UP:Cn:=cn cls fld AI ["thing"] ["isinstance","tuple","has_form","is_whole","TIME_rows"] [] []
theorem Uu:zh ((aR RU 60).s UP) (z3 Jm)=aA Vr:=by kernel_rfl
noncomputable def Au:List (aG×GM):=("is_row",GM.fn ku)::AI
noncomputable def xq:=st 75
noncomputable def Ws:Cn:=cn cls fld Au ["thing"] ["isinstance","dict","len","all"] ["thing"] ["~thing"]
theorem V1:zh ((aR RU 60).s Ws) (z3 xq)=aA xF:=by kernel_rfl
noncomputable def Aq:List (aG×GM):=("are_clocks",GM.fn vU)::Au
noncomputable def zP:=aW (st 77) 1
noncomputable def jb:Cn:={(cn cls fld Aq ["self","seat"] ["House"] ["seat"] [] (aA (1,[⟨421,64,421,91⟩]))) with fz:=["seat"]}
theorem yf:zh ((aR RU 60).s {jb with fz:=[]}) ((z3 zP).take 0)=aA (qA.take 0):=by kernel_rfl
theorem yY:zh ((aR RU 60).s jb) ((z3 zP).drop 0)=aA (qA.drop 0):=by kernel_rfl
noncomputable def Ay:List (aG×GM):=(eD "come_up",GM.met 47 "come_up" zL)::Aq
noncomputable def xR:=aW (st 77) 0
noncomputable def Ww:Cn:=cn cls fld Ay ["self","shape","ahead","stride","clocks","holder","seat"] ["are_clocks","NoHolder","Common","Seat"] [] ["~clocks","seats","given"]
theorem V3:zh ((aR RU 60).s Ww) (z3 xR)=aA qh:=by kernel_rfl
noncomputable def Aw:List (aG×GM):=("World",GM.mk 47 aD vQ)::Ay
noncomputable def wz:=aW (st 77) 3
noncomputable def jU:Cn:=cn cls fld Aw ["self","row"] ["is_row","NoRow","TIME_rows","Backward","is_holder","HOLDER","NoHolder"] [] []
theorem jQ:zh ((aR RU 60).s jU) (z3 wz)=aA wx:=by kernel_rfl
noncomputable def Ap:List (aG×GM):=(eD "check_row",GM.met 47 "check_row" q9)::Aw
noncomputable def jB:=aW (st 77) 4
noncomputable def uC:Cn:=cn cls fld Ap ["self","row","seat","reading","told"] ["HOLDER","TIME_rows","WORD","MANY","HOUSE_rows","SPAN"] [] []
theorem uA:zh ((aR RU 60).s uC) (z3 jB)=aA jw:=by kernel_rfl
noncomputable def Ad:List (aG×GM):=(eD "done",GM.met 47 "done" qM)::Ap
noncomputable def kl:=aW (st 77) 2
noncomputable def Qe:Cn:=cn cls fld Ad ["self","row","names"] ["TIME_rows"] ["row"] []
theorem Qm:zh ((aR RU 60).s Qe) (z3 kl)=aA jY:=by kernel_rfl
noncomputable def Ax:List (aG×GM):=(eD "put",GM.met 47 "put" zW)::Ad
noncomputable def jo:=aW (st 77) 5
noncomputable def Zz:Cn:=cn cls fld Ax ["self"] ["list"] [] []
theorem ur:zh ((aR RU 60).s Zz) (z3 jo)=aA jh:=by kernel_rfl
noncomputable def wT:List (aG×GM):=(eD "book",GM.met 47 "book" wB)::Ax
noncomputable def kb:=st 78
noncomputable def Q9:Cn:=cn cls fld wT ["highs","high","found","one"] ["sorted","all"] ["one"] ["found"]
theorem Z_:zh ((aR RU 60).s Q9) (z3 kb)=aA ke:=by kernel_rfl
noncomputable def Aa:List (aG×GM):=("highest_two",GM.fn vf)::wT
noncomputable def QM:=st 79
noncomputable def Yx:Cn:=cn cls fld Aa ["shape","book","found","highs","place","holder","moment","others"] ["range","len","parts_of","highest_two","max"] ["holder"] ["found"]
theorem YK:zh ((aR RU 60).s Yx) (z3 QM)=aA Qr:=by kernel_rfl
noncomputable def u8:List (aG×GM):=("back_by",GM.fn uh)::Aa
noncomputable def W8:=st 80
noncomputable def Yo:Cn:=cn cls fld u8 ["shape","ahead","one","other","begin","end","told","early","late","high","needed","rows"] ["is_from_nought","NoTime","apart","all","Ended"] ["shape"] []
theorem Ua:zh ((aR RU 60).s Yo) (z3 W8)=aA W9:=by kernel_rfl
noncomputable def A4:List (aG×GM):=("meeting",GM.fn jI)::u8
noncomputable def yt:=st 82
noncomputable def Jt:Cn:=cn cls fld A4 ["_law_script","_law_k"] ["len"] [] []
theorem VU:zh ((aR RU 60).s Jt) (z3 yt)=aA yH:=by kernel_rfl
noncomputable def ul:List (aG×GM):=("_law_cell_at",GM.fn wJ)::A4
noncomputable def Qz:=st 83
noncomputable def Ym:Cn:=cn cls fld ul ["_law_cell","_law_k","_law_number"] [] [] []
theorem Us:zh ((aR RU 60).s Ym) (z3 Qz)=aA QO:=by kernel_rfl
noncomputable def AQ:List (aG×GM):=("_law_mixed",GM.fn u9)::ul
noncomputable def Z9:=st 84
noncomputable def Kc:Cn:=cn cls fld AQ ["_law_cell"] [] [] ["return"]
theorem Ke:zh ((aR RU 60).s Kc) (z3 Z9)=aA uD:=by kernel_rfl
noncomputable def v4:List (aG×GM):=("_law_digits",GM.fn vr)::AQ
noncomputable def Zl:=st 85
noncomputable def K5:Cn:=cn cls fld v4 ["_law_source","_law_many","_law_found"] ["_law_mixed"] [] []
theorem K8:zh ((aR RU 60).s K5) (z3 Zl)=aA Zw:=by kernel_rfl
noncomputable def tO:List (aG×GM):=("_law_next",GM.fn zk)::v4
noncomputable def je:=st 86
noncomputable def u5:Cn:=cn cls fld tO ["_law_source","_law_begin","_law_turns","_law_time","_law_k","_law_reading_here"] ["_law_next","range"] [] ["_law_turns"]
theorem u6:zh ((aR RU 60).s u5) (z3 je)=aA jd:=by kernel_rfl
noncomputable def AF:List (aG×GM):=("_law_drawn_clock",GM.fn qt)::tO
noncomputable def yA:=st 87
noncomputable def JM:Cn:=cn cls fld AF ["_law_clock","_law_time","_law_start","_law_turns","_law_found","_law_at","_law_reading_here","_law_runs"] ["int"] [] []
theorem VL:zh ((aR RU 60).s JM) (z3 yA)=aA yu:=by kernel_rfl
noncomputable def wE:List (aG×GM):=("_law_reading",GM.fn qX)::AF
noncomputable def Wd:=st 88
noncomputable def YZ:Cn:=cn cls fld wE ["_law_one","_law_other","_law_begin","_law_end","_law_some","_law_at","_law_reading_here","_law_runs"] ["list","range","sorted"] ["_law_begin","_law_end"] ["_law_some","~_law_some"]
theorem Yp:zh ((aR RU 60).s YZ) (z3 Wd)=aA W7:=by kernel_rfl
noncomputable def Al:List (aG×GM):=("_law_times",GM.fn ub)::wE
noncomputable def yJ:=st 89
noncomputable def JH:Cn:=cn cls fld Al ["_law_one","_law_other","_law_begin","_law_end","_law_best","_law_times_here","_law_first","_law_second","_law_more"] ["_law_times","_law_reading"] ["_law_first"] []
theorem Jx:zh ((aR RU 60).s JH) (z3 yJ)=aA jv:=by kernel_rfl
noncomputable def Ab:List (aG×GM):=("_law_apart",GM.fn jK)::Al
noncomputable def Zo:=st 90
noncomputable def JR:Cn:=cn cls fld Ab ["_law_shape","_law_ahead","_law_one","_law_other","_law_begin","_law_end","_law_found"] ["meeting","Ended","NoTime"] [] []
theorem Kt:zh ((aR RU 60).s JR) (z3 Zo)=aA Zq:=by kernel_rfl
noncomputable def wv:List (aG×GM):=("_law_told",GM.fn wX)::Ab
noncomputable def yE:=st 91
noncomputable def JG:Cn:=cn cls fld wv ["_law_rows","_law_shape","_law_ahead","_law_stride","_law_clocks","_law_due","_law_begin","_law_end","_law_world","_law_good","_law_row","_law_told_here"] ["World","HouseError","back_by"] [] []
theorem JL:zh ((aR RU 60).s JG) (z3 yE)=aA vc:=by kernel_rfl
noncomputable def Fx:List (aG×GM):=("_law_right",GM.fn jO)::wv
noncomputable def qG:=st 92
noncomputable def U6:Cn:=cn cls fld Fx ["_law_script","_law_source","_law_moments","_law_counts","_law_houses","_law_ahead","_law_begin","_law_end","_law_first","_law_second","_law_one","_law_other","_law_shape","_law_more","_law_early","_law_late","_law_high","_law_low","_law_told_here"] ["_law_digits","_law_cell_at","_law_next","_law_drawn_clock","Clock","Shape","_law_told","_law_apart","_law_reading","min","max","isinstance","list","_law_right"] [] ["{:}"]
theorem Yq:zh ((aR RU 60).s U6) (z3 qG)=aA vH:=by kernel_rfl
end NH.K54
namespace NH
open PySem PySem.Spec PyProof.Rows L2
theorem zO{i:Decidable p}(h1:p->A)(h2:¬p->B):ii (decide p) A B:=by
 cases i with
 |isTrue h=>exact h1 h
 |isFalse h=>exact h2 h
theorem vX{i:Decidable p}(h:p)(a:A):ii (decide p) A B:=zO (λ_=>a) λn=>absurd h n
theorem qL{i:Decidable p}(h:¬p)(b:B):ii (decide p) A B:=zO (λy=>absurd y h) λ_=>b
theorem XN{i:Decidable p}(h1:p->B)(h2:¬p->A):ii (!decide p) A B:=by
 cases i with
 |isTrue h=>exact h1 h
 |isFalse h=>exact h2 h
theorem Y4{i:Decidable p}(h:p)(b:B):ii (!decide p) A B:=XN (λ_=>b) λn=>absurd h n
theorem xO(h1:b=aB->A)(h2:b=aD->B):ii b A B:=by
 cases b with
 |true=>exact h1 rfl
 |false=>exact h2 rfl
theorem Iz(h:b=aD)(a:B):ii b A B:=by rw[h];exact a
theorem vL{tg:Tg}{g:Sl->aK->RE (Option T)}{lv:aK->Prop}{τ:Sl}{μ:aK}{Z:Xp}(f:T->Option T){xs:List T}{K:List T->aK->Prop}
  (h:∀x∈xs,∀k:Option T->aK->Prop,k (f x) μ->∃d,hO tg x τ=aA d/\g d μ k Z) (k:K (xs.filterMap f) μ) (l:lv μ:=by trivial):zT tg g lv τ xs μ K Z:=by
 induction xs generalizing K with
 |nil=>exact k
 |cons x r j=>
  unfold zT;obtain⟨d,e,m⟩:=h x eG (λo b=>lv b/\(match o with
   |some y=>(zT tg g lv τ r b).bind λc a=>RE.ok (y::c) a
   |none=>zT tg g lv τ r b) K Z) (by
    refine⟨l,?_⟩;cases q:f x with
    |none=>
     rw[nK q] at k;exact j (λy i=>h y (dN _ i)) k
    |some y=>
     rw[nJ q] at k;exact j (K:=λc a=>K (y::c) a) (λy i=>h y (dN _ i)) k)
  exact⟨d,e,m⟩
theorem vt{tg:Tg}{g:Sl->aK->RE (Option T)}{lv:aK->Prop}{τ:Sl}{μ:aK}{Z:Xp}(f:T->T){xs:List T}{K:List T->aK->Prop}
  (h:∀x∈xs,∀k:Option T->aK->Prop,k (aA (f x)) μ->∃d,hO tg x τ=aA d/\g d μ k Z) (k:K (xs.map f) μ) (a:lv μ:=by trivial):zT tg g lv τ xs μ K Z:=
 vL (λx=>aA (f x)) h (by rw[pu];exact k) a
theorem qr{tg:Tg}{body:Ds}{lv:aK->Prop}{xs:List T}{τ:Sl}{μ:aK}{E:En}(I:Nat->Sl->aK->Prop)(h0:I 0 τ μ)
  (h:∀i x τ μ,xs[i]?=aA x->I i τ μ->∀N:Sl->aK->Prop,(∀τ μ,I (i+1) τ μ->N τ μ)->∃d,hO tg x τ=aA d/\body d μ (E.turn N))
  (k:∀τ μ,I xs.length τ μ->E.nx τ μ) (l:∀i τ μ,I i τ μ->lv μ:=by intros;trivial):dH tg body lv xs τ μ E:=by
 have go:∀(bX:List T) (i:Nat) (τ:Sl) (μ:aK),xs.drop i=bX->i<=xs.length->I i τ μ->dH tg body lv bX τ μ E:=by
  intro bX;induction bX with
  |nil=>
   intro i τ μ hd m f;have:i=xs.length:=by
    have:=congrArg iM hd;simp at this;omega
   subst this;exact k τ μ f
  |cons x r j=>
   intro i τ μ hd m f;have g:xs[i]?=aA x:=by
    have:(xs.drop i)[0]?=aA x:=by rw[hd];rfl
    simpa using this
   have c:i<xs.length:=(bQ.mp g).1;have e:xs.drop (i+1)=r:=by
    have:(xs.drop i).tail=r:=by rw[hd];rfl
    simpa using this
   exact h i x τ μ g f _ λa b z=>⟨l _ _ _ z,j (i+1) a b e c z⟩
 exact go xs 0 τ μ rfl (fQ _) h0
end NH
namespace NH.P
open PySem L2 NH
section
variable {μ:aK}{K:T->aK->Prop}{Z:Xp}
theorem zi(k:K (.bl aB) μ):zJ [.int i] μ K Z:=⟨rfl,k⟩
theorem KD{i:Nat}(h:(rangeT n)[i]?=aA x):x=.int i/\(i:Int)<n:=by
 unfold rangeT at h;rw[c9] at h;cases q:(eX n.toNat)[i]? with
 |none=>rw[q] at h;cases h
 |some j=>
  rw[q] at h;obtain⟨a,e⟩:=bQ.mp q;have e:i=j:=by simpa using e
  subst e;cases h;simp at a;exact⟨rfl,by omega⟩
theorem X2:(rangeT n).length=n.toNat:=by simp[rangeT]
noncomputable def Bv(z:aG):Bool:=!(nI "abcdefghijklmnopqrstuvwxyz" z 0 (rX "abcdefghijklmnopqrstuvwxyz") 1).isEmpty
noncomputable def mL(z:aG):List aG:=z.cps.toList.map λc=>⟨#[c]⟩
theorem Ur(z:aG):ZM z=(mL z).map T.str:=by simp[ZM,mL]
theorem ON(z:aG):(mL z).length=z.length:=by simp[mL,rX]
noncomputable def w6(z:aG):Bool:=decide (1<=(z.length:Int))&&decide ((z.length:Int)<=8)&&(mL z).all Bv
theorem yj{α:Type}(f:α->Bool):∀xs:List α,cU (xs.map λx=>T.bl (f x))=aA (xs.map f)
 |[]=>rfl
 |x::r=>by simp[cU,yj f r]
theorem w9(c:z.length<=aU)(q:K (.bl (w6 z)) μ):qS [.str z] μ K Z:=by
 unfold qS;refine⟨rfl,?_⟩;unfold w6 at q;refine⟨c,?_⟩;refine zO (λb=>?_) (λb=>?_)
 ·refine XN (λa=>?_) (λa=>?_)
  ·show (ZM z).length<=aU/\_;rw[Ur];refine⟨by rw[bP,ON];exact c,?_⟩;refine vt (λx=>match x with|.str y=>.bl (Bv y)|t=>t) (λx d k e=>?_) ?_
   ·obtain⟨y,f,rfl⟩:=c7.mp d;exact⟨_,rfl,e⟩
   ·rw[fS];refine⟨_,yj Bv (mL z),?_⟩;rw[decide_eq_true b,decide_eq_true a] at q;rw[ml];exact q
  ·have q:K (.bl aD) μ:=by simpa[a] using q
   exact q
 ·have q:K (.bl aD) μ:=by simpa[b] using q
  exact q
theorem Ji(a:z.length<=aU)(h:w6 z=b)(q:K (.bl b) μ):qS [.str z] μ K Z:=w9 a (by rw[h];exact q)
theorem Vy{xs:List α}{k:Int}(h0:0<=k)(h1:k<xs.length):vq xs k=xs[k.toNat]?:=by
 unfold vq UY;rw[if_pos h0,if_pos h1];rfl
end
section
variable {μ μ1 μ2:aK}{K:T->aK->Prop}{Z:Xp}
noncomputable def St (μ:aK)(i:Nat):Prop:=∃a b c:Int,μ[i]?=aA (.lst [.int a,.int b,.int c])
structure Up(μ:aK)(i:Nat)(μ':aK):Prop where
 len:μ'.length=μ.length
 ot:∀j,j≠i->μ'[j]?=μ[j]?
 st:St μ' i
theorem Up.trans(a:Up μ i μ1)(b:Up μ1 i μ2):Up μ i μ2:=⟨b.len.trans a.len,λj h=>(b.ot j h).trans (a.ot j h),b.st⟩
theorem aH(h:μ[i]?=aA x):(μ.set i y)[i]?=aA y:=by
 have:=(bQ.mp h).1;simp[this]
theorem Up.set(h:μ[i]?=aA x):Up μ i (μ.set i (.lst [.int a,.int b,.int c])):=⟨by simp,λj d=>by rw[cS (cX d)],a,b,c,aH h⟩
theorem zj:(μ++[x])[μ.length]?=aA x:=by rw[fN (bH _)];simp
theorem ze{i:Nat}(h:μ[i]?=aA o):(μ++[x])[i]?=aA o:=by
 rw[dP (bQ.mp h).1];exact h
noncomputable abbrev bL(x y z:Int):T:=.obj 40 [(0,.int x),(1,.int y),(2,.int z)]
theorem wb(k:K (.bl (decide (1<=n))) μ):ve [.int n] μ K Z:=by
 unfold ve;refine⟨rfl,?_⟩;refine zi ?_;exact k
theorem Q3(c:1<=x)(b:1<=y)(a:1<=z)(q:K .non [.obj 40 [(0,.int x),(1,.int y),(2,.int z)]]):vS [.mut 0,.int x,.int y,.int z] [.obj 40 []] K Z:=by
 unfold vS;refine⟨rfl,?_⟩;refine wb ?_;refine vX c ?_;refine wb ?_;refine vX b ?_;refine wb ?_;refine Y4 a ?_;refine⟨_,_,rfl,by decide,_,_,rfl,(by (show (1:Nat)<900);decide),_,_,rfl,(by (show (2:Nat)<900);decide),?_⟩;exact q
end
section
variable {μ:aK}{K:T->aK->Prop}{Z:Xp}
theorem vK{ns:List Int}(hk:0<=k)(q:∀c,K (.int c) μ):wJ [.lst (ns.map T.int),.int k] μ K Z:=by
 unfold wJ;refine⟨rfl,?_⟩;refine zO (λh=>?_) (λh=>?_)
 ·have a:k.toNat<ns.length:=by
   rw[bP] at h;omega
  refine⟨.int ns[k.toNat],?_,q _⟩;rw[Vy hk h,c9,eS a];rfl
 ·exact q _
theorem ZL:∀zs:List Int,bJ (zs.map T.int)=aA zs
 |[]=>rfl
 |z::r=>by simp[bJ,ZL r]
end
section
variable {μ μ1 μ2:aK}{K:T->aK->Prop}{Z:Xp}
theorem wW{tg:Tg}{τ:Sl}{x:T}{r:List T}{K:List T->aK->Prop}(h:∃d,hO tg x τ=aA d/\g d μ (λo μ1=>lv μ1/\(match o with
  |some y=>zT tg g lv τ r μ1 (λys μ2=>K (y::ys) μ2) Z
  |none=>zT tg g lv τ r μ1 K Z)) Z):zT tg g lv τ (x::r) μ K Z:=by
 obtain⟨d,e,h⟩:=h;unfold zT;refine⟨d,e,?_⟩;have:(λ(o:Option T) μ1=>lv μ1/\(match o with
  |some y=>zT tg g lv τ r μ1 (λys μ2=>K (y::ys) μ2) Z
  |none=>zT tg g lv τ r μ1 K Z))=λo μ1=>lv μ1/\(match o with
   |some y=>(zT tg g lv τ r μ1).bind λys μ2=>RE.ok (y::ys) μ2
   |none=>zT tg g lv τ r μ1) K Z:=by
  funext o μ1;cases o<;>rfl
 rw[this] at h;exact h
theorem vI{tg:Tg}{τ:Sl}{K:List T->aK->Prop}(h:K [] μ):zT tg g lv τ [] μ K Z:=by
 unfold zT;exact h
structure Sy(y z:Int):Prop where
 y1:1<=y
 y2:y<=10000000000
 z1:1<=z
 z2:z<=10000000000
theorem VW(s:Sy y z)(q:K (.int (x*y*z)) μ):xv [bL x y z] μ K Z:=by
 obtain⟨d,c,b,a⟩:=s;unfold xv;refine⟨rfl,?_⟩;exact⟨.inr ⟨by unfold big;lia,by unfold big;lia⟩,.inr ⟨by unfold big;lia,by unfold big;lia⟩,q⟩
theorem JI(s:Sy y z)(a:(decide (0<=n)&&decide (n<x*y*z))=b)(q:K (.bl b) μ):uq [bL x y z,.int n] μ K Z:=by
 subst a;unfold uq;refine⟨rfl,?_⟩;refine VW s ?_;unfold qq;refine⟨rfl,?_⟩;refine zi ?_;refine zO (λh=>?_) (λh=>?_)
 ·have q:K (.bl (decide (n<x*y*z))) μ:=by simpa[h] using q
  exact q
 ·have q:K (.bl aD) μ:=by simpa[h] using q
  exact q
theorem kJ{body:Ds}(e:xs=x::r)(h:∃d,hO tg x τ=aA d/\body d μ (E.turn λj μ2=>lv μ2/\dH tg body lv r j μ2 E)):dH tg body lv xs τ μ E:=by
 subst e;unfold dH;exact h
theorem UI{body:Ds}(e:xs=[])(h:E.nx τ μ):dH tg body lv xs τ μ E:=by
 subst e;unfold dH;exact h
theorem ZZ(s:Sy y z)(h:(decide (0<=n)&&decide (n<x*y*z))=aB)(q:K .non μ):vR [bL x y z,.int n] μ K Z:=by
 unfold vR;refine⟨rfl,?_⟩;refine JI s h ?_;exact q
end
section
variable {μ μ1 μ2:aK}{K:T->aK->Prop}{Z:Xp}
structure Gr where
 ho:aG
 h:Int
 f:Int
 u0:Int
 u:Int
 ct:Bool
noncomputable def Gr.L(G:Gr):T:=.tup [.int G.h,.int G.f,.int G.u0]
noncomputable def Gr.O (G:Gr):MO:=.obj 42 [(5,.str G.ho),(6,G.L),(7,.int G.u),(8,.bl G.ct)]
noncomputable abbrev Gp:=Nat×Gr
noncomputable abbrev Gp.t(p:Gp):T:=.mut p.1
structure Bk(μ:aK)(c g:Nat)(sh:T)(ps:List Gp):Prop where
 com:μ[c]?=aA (.obj 43 [(9,sh),(10,.mut g)])
 lst:μ[g]?=aA (.lst (ps.map Gp.t))
 at_:∀p∈ps,μ[p.1]?=aA p.2.O
 nd:(ps.map (·.1)).Nodup
structure Ch(S:List Nat)(μ μ':aK):Prop where
 len:μ.length<=μ'.length
 ot:∀i,i<μ.length->i∉S->μ'[i]?=μ[i]?
theorem Ch.refl:Ch S μ μ:=⟨bH _,λ_ _ _=>rfl⟩
theorem Ch.trans(a:Ch S μ μ1)(b:Ch S μ1 μ2):Ch S μ μ2:=⟨cT a.len b.len,λi h n=>(b.ot i (dL h a.len) n).trans (a.ot i h n)⟩
theorem Ch.mono(a:Ch S μ μ1)(h:∀x∈S,x∈d):Ch d μ μ1:=⟨a.len,λi hi n=>a.ot i hi λz=>n (h i z)⟩
theorem Ch.app:Ch [] μ (μ++[x]):=⟨by simp,λi h _=>dP h⟩
theorem Ch.set:Ch [i] μ (μ.set i x):=⟨by simp,λj h n=>by rw[cS];rintro rfl;exact n (by simp)⟩
theorem Ch.get(a:Ch S μ μ1)(h:μ[i]?=aA x)(n:i∉S):μ1[i]?=aA x:=(a.ot i (bQ.mp h).1 n).trans h
theorem Bk.ch(B:Bk μ c g d ps)(a:Ch S μ μ1)(h1:c∉S)(h2:g∉S)(e:∀p∈ps,p.1∉S):Bk μ1 c g d ps:=
 ⟨a.get B.com h1,a.get B.lst h2,λp b=>a.get (B.at_ p b) (e p b),B.nd⟩
noncomputable def mt(G:Gr)(b e:Int):Bool:=decide ((if G.f<b then b else G.f)<(if e<G.u then e else G.u))
theorem uN:mt G b e=aB↔G.f<G.u/\G.f<e/\b<G.u/\b<e:=by
 unfold mt;rw[decide_eq_true_eq];split<;>split<;>lia
theorem Bc(h:¬(G.f<G.u/\G.f<e/\b<G.u/\b<e)):mt G b e=aD:=by
 cases q:mt G b e with
 |false=>rfl
 |true=>exact absurd (uN.mp q) h
theorem RN(h:μ[a]?=aA G.O)(q:K (.bl (mt G b e)) μ):fW [.mut a,.int b,.int e] μ K Z:=by
 unfold fW;refine⟨rfl,_,_,_,h,rfl,_,rfl,_,_,_,h,rfl,?_⟩;exact q
theorem wI{β:Type}{tg:Tg}{g:Sl->aK->RE (Option T)}{lv:aK->Prop}{τ:Sl}(t:β->T)(f:β->Option T){ps:List β}{K:List T->aK->Prop}
  (h:∀p∈ps,∀k:Option T->aK->Prop,k (f p) μ->∃d,hO tg (t p) τ=aA d/\g d μ k Z) (k:K (ps.filterMap f) μ) (i:lv μ:=by trivial):zT tg g lv τ (ps.map t) μ K Z:=by
 induction ps generalizing K with
 |nil=>exact vI k
 |cons x r c=>
  refine wW ?_;refine h x eG _ ⟨i,?_⟩;cases q:f x with
  |none=>
   rw[nK q] at k;exact c (λy b=>h y (dN _ b)) k
  |some y=>
   rw[nJ q] at k;exact c (K:=λe a=>K (y::e) a) (λy b=>h y (dN _ b)) k
theorem XD:∀{bs:List Gp},(∀p∈bs,μ[p.1]?=aA p.2.O)->fH (bC (zf (eV 0) 6) (eC (.int 1))) μ (bs.map Gp.t) (bs.map (·.2.f))
 |[],_=>trivial
 |p::r,h=>⟨⟨_,_,_,h p eG,rfl,_,rfl,rfl,rfl⟩,XD λq a=>h q (dN _ a)⟩
end
section
variable {μ:aK}{K:T->aK->Prop}{Z:Xp}{c g:Nat}{x y z:Int}{ps:List Gp}
theorem wF(q:K (.bl (decide (0<=n)&&decide (n<b))) μ):qq [.int n,.int b] μ K Z:=by
 unfold qq;refine⟨rfl,?_⟩;refine zi ?_;refine zO (λh=>?_) (λh=>?_)
 ·have q:K (.bl (decide (n<b))) μ:=by simpa[h] using q
  exact q
 ·have q:K (.bl aD) μ:=by simpa[h] using q
  exact q
theorem jz(h0:0<=n)(h1:n<b)(q:K (.bl aB) μ):qq [.int n,.int b] μ K Z:=wF (by simpa[h0,h1] using q)
noncomputable def YE (y:Int)(t:T):Prop:=t=.non\/∃h:Int,t=.int h/\0<=h/\h<y
theorem Vd(B:Bk μ c g (bL x y z) ps)(d:ho.length<=aU)(h1:w6 ho=aB)(h2:YE y hs)(e:1<=n)(q:K .non μ):qj [.mut c,.str ho,hs,.int m,.int n] μ K Z:=by
 unfold qj;refine⟨rfl,?_⟩;refine Ji d h1 ?_;have bX:qd (qB.drop 2) [aA (.mut c),aA (.str ho),aA hs,aA (.int m),aA (.int n)] μ (En.fn K Z):=by
  refine wb ?_;refine Y4 e ?_;refine zi ?_;exact q
 rcases h2 with rfl|⟨h,rfl,a,b⟩
 ·exact bX
 ·refine⟨_,_,_,B.com,rfl,?_⟩;refine jz a b ?_;exact bX
theorem Wr(B:Bk μ c g (bL x y z) ps)(i:ps.length<=1000)(q:K (.lst ((ps.filter λp=>decide (p.2.h=h)).map Gp.t)) μ):qm [.mut c,.int h] μ K Z:=by
 unfold qm;refine⟨rfl,_,_,_,B.com,rfl,_,B.lst,by rw[bP];unfold aU;lia,?_⟩;refine wI Gp.t (λp=>if p.2.h=h then aA (Gp.t p) else aE) (λp f k a=>?_) ?_ B.lst
 ·refine⟨_,rfl,_,_,_,B.at_ p f,rfl,_,rfl,?_⟩;refine xO (λe=>?_) (λe=>?_)
  ·have e:p.2.h=h:=by simpa using e
   rw[if_pos e] at a;exact a
  ·have e:¬p.2.h=h:=by simpa using e
   rw[if_neg e] at a;exact a
 ·have e:ps.filterMap (λp=>if p.2.h=h then aA (Gp.t p) else aE)=(ps.filter λp=>decide (p.2.h=h)).map Gp.t:=by
   clear q B i;induction ps with
   |nil=>rfl
   |cons p r d=>
    by_cases z:p.2.h=h
    ·rw[nJ (b:=Gp.t p) (by rw[if_pos z]),tw (by simpa using z),dC,d]
    ·rw[nK (by rw[if_neg z]),tp (by simpa using z),d]
  rw[e];exact q
end
section
variable {μ:aK}{K:T->aK->Prop}{Z:Xp}{c:Nat}{x y z:Int}
theorem IV{a b c f:Int}:c8 [.int a,.int b,.int c] [.int d,.int e,.int f]=aA (decide (a=d)&&(decide (b=e)&&decide (c=f))):=by
 have h:∀i j:Int,(i==j)=decide (i=j):=λi j=>by
  by_cases z:i=j<;>simp[z]
 simp[c8,eqT,h]
theorem Jj{u:Int}(h0:0<=h)(h1:h<y)(f0:0<=f)(fu:f<u)(ux:u<=x)(q:K (.bl aB) μ):k_ [bL x y z,.tup [.int h,.int f,.int u]] μ K Z:=by
 unfold k_;refine⟨rfl,_,rfl,?_⟩;refine jz h0 h1 ?_;refine⟨_,rfl,?_⟩;refine zi ?_;refine⟨_,rfl,?_⟩;refine zi ?_;refine⟨_,rfl,?_⟩;refine vX f0 ?_;refine⟨_,rfl,?_⟩;refine vX fu ?_;have q:K (.bl (decide (u<=x))) μ:=by rw[decide_eq_true ux];exact q
 exact q
end
section
variable {μ:aK}{K:T->aK->Prop}{Z:Xp}{x y z:Int}
theorem uu(q:K .non (μ++[.obj 43 [(9,d),(10,.mut (μ.length+1))],.lst []])):vi [.mut μ.length,d] (μ++[.obj 43 []]) K Z:=by
 have es:∀(μ:aK) (a b:MO),(μ++[a]).set μ.length b=μ++[b]:=λμ a b=>by rw[sY _ _ (bH _)];simp
 unfold vi;refine⟨rfl,_,_,zj,by show (0:Nat)<900;decide,?_⟩;rw[es];refine⟨_,_,ze zj,by show (1:Nat)<900;decide,?_⟩;have e:∀(o a b:MO),((μ++[o])++[a]).set μ.length b=μ++[b,a]:=λo a b=>by
  rw[List.append_assoc,sY _ _ (bH _)];simp
 rw[e];have c:(μ++[MO.obj 43 [(9,d)]]).length=μ.length+1:=by simp
 show K .non (μ++[MO.obj 43 (YD 10 (T.mut (μ++[MO.obj 43 [(9,d)]]).length) [(9,d)]),.lst []]);rw[c];exact q
theorem vk(h0:0<=n)(h1:n<b)(q:K .non μ):qW [.int n,.int b] μ K Z:=by
 unfold qW;refine⟨rfl,?_⟩;refine jz h0 h1 ?_;exact q
theorem K2(c:0<=m)(m1:m<x)(h0:0<=h)(h1:h<y)(k0:0<=k)(k1:k<z):0<=(m*y+h)*z+k/\(m*y+h)*z+k<x*y*z/\((m*y+h)*z+k) / z=m*y+h/\(m*y+h) / y=m/\(m*y+h) % y=h:=by
 have a:((m*y+h)*z+k) / z=m*y+h/\((m*y+h)*z+k) % z=k:=(Dq (by lia)).mpr ⟨by rw[Cf z,ss],k0,k1⟩;have b:(m*y+h) / y=m/\(m*y+h) % y=h:=(Dq (by lia)).mpr ⟨by rw[Cf y,ss],h0,h1⟩;have g:0<=m*y:=mF c (by lia);have f:0<=(m*y+h)*z:=mF (by lia) (by lia);have e:m*y+y<=x*y:=by
  have:=pE (show m+1<=x by lia) (show 0<=y by lia);rw[m_,B9] at this;exact this
 have d:(m*y+h)*z+z<=x*y*z:=by
  have:=pE (show m*y+h+1<=x*y by lia) (show 0<=z by lia);rw[m_,B9] at this;exact this
 exact⟨by lia,by lia,a.1,b.1,b.2⟩
end
section
variable {μ:aK}{K:T->aK->Prop}{Z:Xp}{x y z:Int}{i:Nat}{sh kp bt:T}{ah sd:Int}
noncomputable abbrev Ls:=Int×Int×Int
noncomputable def gc:Option Ls->T
 |none=>.non
 |some l=>.tup [.int l.1,.int l.2.1,.int l.2.2]
noncomputable def fV:Option Int->T
 |none=>.non
 |some m=>.int m
noncomputable abbrev Tb(sh:T)(ah sd:Int)(kp:T)(l:Option Ls)(m n:Option Int)(bt:T)(fl:Bool):List (Nat×T):=[(9,sh),(14,.int ah),(15,.int sd),(16,kp),(6,gc l),(17,fV m),(18,fV n),(19,bt),(20,.bl fl)]
noncomputable abbrev fE(sh:T)(ah sd:Int)(kp:T)(l:Option Ls)(m n:Option Int)(bt:T)(fl:Bool):MO:=.obj 45 (Tb sh ah sd kp l m n bt fl)
theorem LN:∀(l l':Option Ls),eqT (gc l) (gc l')=aA (decide (l=l'))
 |none,aE=>by simp[gc,eqT]
 |none,aA b=>by simp[gc,eqT]
 |some a,aE=>by simp[gc,eqT]
 |some (a,b,c),aA (d,e,f)=>by
  show eqT (.tup _) (.tup _)=_;simp only[eqT];rw[IV];simp[Bool.decide_and]
theorem Mf:∀(l l':Option Int),eqT (fV l) (fV l')=aA (decide (l=l'))
 |none,aE=>by simp[fV,eqT]
 |none,aA b=>by simp[fV,eqT]
 |some a,aE=>by simp[fV,eqT]
 |some a,aA b=>by
  by_cases h:a=b
  ·simp[fV,eqT,h]
  ·simp[fV,eqT,h]
theorem Rb:c8 [gc l,fV m] [gc l',fV m']=aA (decide (l=l')&&decide (m=m')):=by
 simp[c8,LN,Mf]
theorem UG:v7 [gc l,fV m]<=40:=by
 cases l<;>cases m<;>simp[gc,fV,v7,xx]
variable {l:Option Ls}{m n:Option Int}
theorem yx(h:μ[i]?=aA (fE sh ah sd kp l m n bt aD))(q:K .non μ):qf [.mut i] μ K Z:=by
 unfold qf;refine⟨rfl,_,_,_,h,rfl,?_⟩;exact q
theorem OW(h:μ[i]?=aA (fE sh ah sd kp l m n bt aD))(q:K (.tup [gc l,fV m]) μ):v_ [.mut i] μ K Z:=by
 unfold v_;refine⟨rfl,_,_,_,h,rfl,_,_,_,h,rfl,?_⟩;exact q
theorem ZD(h0:0<=h)(h1:h<y)(f0:0<=f)(fu:f<u)(ux:u<=x)(q:K .non μ):vd [bL x y z,.tup [.int h,.int f,.int u]] μ K Z:=by
 unfold vd;refine⟨rfl,?_⟩;refine Jj h0 h1 f0 fu ux ?_;exact q
structure iY(x y:Int)(l:Ls):Prop where
 h0:0<=l.1
 h1:l.1<y
 f0:0<=l.2.1
 fu:l.2.1<l.2.2
 ux:l.2.2<=x
theorem vM(h:0<=a)(q:K (.bl aB) μ):zS [.int a] μ K Z:=by
 unfold zS;refine⟨rfl,?_⟩;refine zi ?_;have q:K (.bl (decide (0<=a))) μ:=by rw[decide_eq_true h];exact q
 exact q
structure Hz(x y z:Int):Prop where
 x1:1<=x
 y1:1<=y
 y2:y<=1000000
 z1:1<=z
 z2:z<=1000000
theorem Hz.sy(s:Hz x y z):Sy y z:=⟨s.y1,by have:=s.y2;lia,s.z1,by have:=s.z2;lia⟩
theorem yw(s:Hz x y z)(h0:0<=k)(h1:k<x*y*z)(q:K (.tup [.int (k / z / y),.int (k / z % y),.int (k % z)]) μ):jy [bL x y z,.int k] μ K Z:=by
 obtain⟨e,d,c,b,a⟩:=id s;unfold jy;refine⟨rfl,?_⟩;refine ZZ s.sy (by rw[decide_eq_true h0,decide_eq_true h1];rfl) ?_;refine⟨by lia,⟨by lia,by lia⟩,⟨by lia,by lia⟩,by lia,?_⟩;exact q
noncomputable abbrev t8(h b e:Int):T:=.obj 44 [(11,.int h),(12,.int b),(13,.int e)]
end
section
variable {μ:aK}{K:T->aK->Prop}{Z:Xp}{x y z:Int}
noncomputable def mM(y z h p:Int):Int:=(p / z*y+h)*z+p % z
noncomputable def Bq (y z h b k:Int):List Int:=(eX k.toNat).map λ(j:Nat)=>mM y z h (b+j)
theorem KW(s:Hz x y z)(a:0<=d)(m1:d<x)(h0:0<=h)(h1:h<y)(k0:0<=k)(k1:k<z)(q:K (.int ((d*y+h)*z+k)) μ):ui [bL x y z,.int d,.int h,.int k] μ K Z:=by
 obtain⟨g,f,e,c,b⟩:=id s;unfold ui;refine⟨rfl,?_⟩;refine vk a m1 ?_;refine vk h0 h1 ?_;refine vk k0 k1 ?_;refine⟨.inr ⟨by unfold big;lia,by unfold big;lia⟩,.inr ⟨by unfold big;lia,by unfold big;lia⟩,?_⟩;exact q
theorem place_lt(s:Hz x y z)(h1:p<x*z):p / z<x:=by
 have:=s.z1;exact Int.ediv_lt_of_lt_mul (by lia) h1
theorem Zh(s:Hz x y z)(p0:0<=p)(p1:p<x*z)(h0:0<=h)(h1:h<y)(q:K (.int (mM y z h p)) μ):xg [bL x y z,.int h,.int p] μ K Z:=by
 obtain⟨e,d,c,b,a⟩:=id s;unfold xg;refine⟨rfl,⟨by lia,by lia⟩,by lia,?_⟩;exact KW s (CA p0 (by lia)) (place_lt s p1) h0 h1 (o8 _ (by lia)) (pi _ (by lia)) q
theorem yh(q:∀a b,K (.mut μ.length) (μ++[.lst [.int a,.int b,.int 0]])):vr [.int c] μ K Z:=by
 unfold vr;refine⟨rfl,by decide,by decide,?_⟩;have e:=o8 c (show (2:Int)≠0 by decide);have d:=pi c (show (0:Int)<2 by decide);refine⟨.inr ⟨by unfold big;lia,by unfold big;lia⟩,?_⟩;exact q _ _
theorem SU(q:∀v:Int,K (.int v) μ):u9 [.int c,.int k] μ K Z:=by
 unfold u9;refine⟨rfl,by decide,.inl (by unfold big;decide),.inr (by unfold big;decide),by decide,by decide,?_⟩;have b:∀a:Int,0<=a % 2147483629/\a % 2147483629<2147483629:=λa=>⟨o8 _ (by decide),pi _ (by decide)⟩;have bb:=λa=>b a;refine⟨.inl ⟨by have:=(b ((c % 2147483629+69621*k+1)*48271));unfold big;omega,by have:=(b ((c % 2147483629+69621*k+1)*48271));unfold big;omega⟩,by decide,by decide,.inl ⟨by have:=b ((c % 2147483629+69621*k+1)*48271 % 2147483629*((c % 2147483629+69621*k+1)*48271 % 2147483629 / 1009+69621));unfold big;omega,by have:=b ((c % 2147483629+69621*k+1)*48271 % 2147483629*((c % 2147483629+69621*k+1)*48271 % 2147483629 / 1009+69621));unfold big;omega⟩,by decide,by decide,?_⟩;generalize d:(c % 2147483629+69621*k+1)*48271 % 2147483629*((c % 2147483629+69621*k+1)*48271 % 2147483629 / 1009+69621) % 2147483629*((c % 2147483629+69621*k+1)*48271 % 2147483629*((c % 2147483629+69621*k+1)*48271 % 2147483629 / 1009+69621) % 2147483629 / 907+16807+k)=A;refine⟨.inl ⟨by have:=b A;unfold big;omega,by have:=b A;unfold big;omega⟩,by decide,?_⟩;exact q _
end
section
variable {μ:aK}{K:T->aK->Prop}{Z:Xp}{x y z h:Int}{c:Nat}
theorem Yz(hk:b<=e):wL b e 1=(eX (e-b).toNat).map λ(j:Nat)=>T.int (b+j):=by
 unfold wL;by_cases c:b<e
 ·rw[if_pos c];have:(e-b-1) / 1+1=e-b:=by rw[mo];lia
  rw[this];simp
 ·rw[if_neg c];have:(e-b).toNat=(0:Int).toNat:=by lia
  rw[this];rfl
theorem JF(s:Hz x y z)(f:x*z<1000000000000000000000000000000000000000000000000000000000000)(g:0<=b)(be:b<=e)(k2:e-b<=1000)(ex:e<=x*z)(h0:0<=h)(h1:h<y)(q:K (.mut μ.length) (μ++[.lst ((Bq y z h b (e-b)).map T.int)])):qg [bL x y z,t8 h b e] μ K Z:=by
 unfold qg;refine⟨rfl,⟨⟨by lia,by lia⟩,⟨by lia,by lia⟩⟩,?_⟩;rw[Yz be];refine⟨by rw[bP,oZ];unfold aU;lia,?_⟩;refine wI (λ(j:Nat)=>T.int (b+j)) (λ(j:Nat)=>aA (T.int (mM y z h (b+j)))) (λj c d a=>?_) ?_ trivial
 ·have c:j<(e-b).toNat:=lS.mp c;refine⟨_,rfl,?_⟩;exact Zh s (by lia) (by lia) h0 h1 a
 ·rw[pu];unfold Bq at q;rw[fS] at q;exact q
end
section
variable {μ:aK}{K:T->aK->Prop}{Z:Xp}{x y z:Int}{i:Nat}{kp bt:T}{ah sd:Int}{l:Option Ls}{m n:Option Int}{a:Ls}
noncomputable def rn(a b:Int):Int:=if b<a then b else a
noncomputable def GX (x sd:Int)(m:Option Int)(a:Int):Int:=match m with
 |none=>rn (a+sd) (x-1)
 |some v=>if a<=v then v else rn (a+sd) (x-1)
theorem PU(ho:μ[i]?=aA (fE (bL x y z) ah sd kp l m n bt aD))(q:K (.int (GX x sd m d)) μ):qa [.mut i,.int d] μ K Z:=by
 unfold qa;refine⟨rfl,_,_,_,ho,rfl,?_⟩;have fin:∀a:Sl,a=[aA (.mut i),aA (.int d)]->K (.int (rn (d+sd) (x-1))) μ->qd (qo.drop 1) a μ (En.fn K Z):=λa e q=>by
  subst e;refine⟨_,_,_,ho,rfl,_,_,_,ho,rfl,?_⟩;exact q
 cases m with
 |none=>exact fin _ rfl q
 |some b=>
  refine⟨_,_,_,ho,rfl,?_⟩;have q:K (.int (if d<=b then b else rn (d+sd) (x-1))) μ:=q;refine zO (λe=>?_) (λe=>?_)
  ·rw[if_pos e] at q;refine⟨_,_,_,ho,rfl,?_⟩;exact q
  ·rw[if_neg e] at q;exact fin _ rfl q
end
section
variable {μ:aK}{K:T->aK->Prop}{Z:Xp}{x y z:Int}{i si:Nat}{sh bt ck hs kt:T}{ah sd:Int}{l l':Option Ls}{m m' n:Option Int}{a:Ls}{h:Int}
noncomputable abbrev Bp(l:Option Ls)(m:Option Int):T:=.tup [gc l,fV m]
noncomputable abbrev qP(ck hs kt:T):MO:=.obj 46 [(21,ck),(11,hs),(22,kt)]
noncomputable abbrev gG(si:Nat):T:=Yr 0 1 [.mut si]
theorem N4(h:μ[si]?=aA (qP ck hs kt))(q:K .non (μ.set si (qP ck hs t))):jx [.mut si,t] μ K Z:=by
 unfold jx;refine⟨rfl,?_⟩;exact⟨_,_,h,by show (3:Nat)<900;decide,q⟩
theorem LF(ho:μ[i]?=aA (fE sh ah sd (gG si) l m n bt aD))(c:μ[si]?=aA (qP ck hs kt))
  (j:l'=l->m'=m->K .non μ)
  (h:∀d,Ch [i,si] μ d->d.length=μ.length->d[i]?=aA (fE sh ah sd (gG si) l' m' n bt aD)->d[si]?=aA (qP ck hs (Bp l' m'))->K .non d) :
  qi [.mut i,gc l',fV m'] μ K Z:=by
 have a:si≠i:=λw=>by rw[w,ho] at c;cases c
 unfold qi;refine⟨rfl,_,ho,?_⟩;refine OW ho ?_;refine⟨UG,_,Rb,?_⟩;refine xO (λe=>?_) (λe=>?_)
 ·simp only[cH,decide_eq_true_eq] at e;exact j e.1 e.2
 ·refine⟨_,_,ho,by show (9:Nat)<900;decide,?_⟩;have g:=aH (y:=fE sh ah sd (gG si) l m n bt aB) ho;have f:(μ.set i (fE sh ah sd (gG si) l m n bt aB))[si]?=aA (qP ck hs kt):=by rw[cS (cX a)];exact c
  refine⟨_,_,_,g,rfl,⟨0,(1,_),[.mut si]⟩,⟨rfl,rfl⟩,_,f,?_⟩;refine N4 f ?_;have b:((μ.set i (fE sh ah sd (gG si) l m n bt aB)).set si (qP ck hs (Bp l' m')))[i]?=aA (fE sh ah sd (gG si) l m n bt aB):=by rw[cS a];exact g
  have k:=aH (y:=qP ck hs (Bp l' m')) f;refine⟨_,_,b,by show (9:Nat)<900;decide,_,_,aH b,by show (9:Nat)<900;decide,_,_,aH (aH b),by show (9:Nat)<900;decide,?_⟩;refine h _ (((((Ch.set.mono (by simp)).trans (Ch.set.mono (by simp))).trans (Ch.set.mono (by simp))).trans (Ch.set.mono (by simp))).trans (Ch.set.mono (by simp))) (by simp) (aH (aH (aH b))) ?_;rw[cS (cX a),cS (cX a),cS (cX a)];exact k
theorem FK(ho:μ[i]?=aA (fE sh ah sd (gG si) l m n bt aD))(a:μ[si]?=aA (qP ck hs kt))
  (q:∀d j,Ch [i,si] μ d->d.length=μ.length->d[i]?=aA (fE sh ah sd (gG si) l' m' n bt aD)->d[si]?=aA (qP ck hs j)->K .non d) :
  qi [.mut i,gc l',fV m'] μ K Z:=
 LF ho a (λg f=>q μ kt Ch.refl rfl (by rw[g,f];exact ho) a) λd ch b e c=>q d _ ch b e c
theorem NJ(ho:μ[i]?=aA (fE (bL x y z) ah sd (gG si) l m n bt aD))(b:μ[si]?=aA (qP ck hs kt))(ok:iY x y a)
  (q:∀d j,Ch [i,si] μ d->d.length=μ.length->d[i]?=aA (fE (bL x y z) ah sd (gG si) (aA a) m n bt aD)->d[si]?=aA (qP ck hs j)->K .non d) :
  zX [.mut i,gc (aA a)] μ K Z:=by
 unfold zX;refine⟨rfl,_,ho,?_⟩;refine yx ho ?_;refine⟨_,_,_,ho,rfl,?_⟩;refine ZD ok.h0 ok.h1 ok.f0 ok.fu ok.ux ?_;refine⟨_,ho,_,_,_,ho,rfl,?_⟩;exact FK ho b q
noncomputable def IU (x y:Int)(l:Option Ls):Prop:=∀a,l=aA a->iY x y a
end
section
variable {μ μ1 μ2:aK}{K:T->aK->Prop}{Z:Xp}
noncomputable abbrev Tn:=Int×Int×Bool
noncomputable def zI(p:Tn):T:=.tup [.int p.1,.int p.2.1,.bl p.2.2]
noncomputable def nN (ts:List Tn):Prop:=ts.Pairwise (λa b=>a.1<b.1)
structure Cl(μ:aK)(i:Nat)(μ':aK)(ts:List Tn):Prop where
 hi:i<μ.length
 len:μ'.length=μ.length+1
 ot:∀j,j≠i->j<μ.length->μ'[j]?=μ[j]?
 st:St μ' i
 ls:μ'[μ.length]?=aA (.lst (ts.map zI))
theorem Cl.up(c:Cl μ i μ1 ts)(u:Up μ1 i μ2):Cl μ i μ2 ts:=
 ⟨c.hi,u.len.trans c.len,λj h1 h2=>(u.ot j h1).trans (c.ot j h1 h2),u.st,(u.ot _ (iA c.hi)).trans c.ls⟩
theorem Cl.app(c:Cl μ i μ1 ts):Cl μ i (μ1.set μ.length (.lst (ts.map zI++[zI p]))) (ts++[p]):=by
 obtain⟨a,b,d,e⟩:=c.st;have hi:=c.hi;refine⟨c.hi,by rw[Cy];exact c.len,λj h1 h2=>?_,⟨a,b,d,?_⟩,?_⟩
 ·rw[cS (by lia)];exact c.ot j h1 h2
 ·rw[cS (by lia)];exact e
 ·rw[gK];exact aH c.ls
theorem Xy{ts:List Tn}{k:Int}(h0:0<=k)(h1:k<ts.length):vq (ts.map zI) k=aA (zI (ts[k.toNat]'(by lia))):=by
 rw[Vy h0 (by simpa using h1),c9,eS (by lia)];rfl
noncomputable def z0(start:Int)(ts:List Tn)(a:Int):Int:=match ts.reverse.find? (λp=>decide (p.1<=a)) with
 |some p=>p.2.1+(if p.2.2 then a-p.1 else 0)
 |none=>start+a
theorem Xg{α:Type}{f:α->Bool}:∀{l:List α}{n:Nat}{p:α},l[n]?=aA p->f p=aB->(∀q∈l.take n,f q=aD)->l.find? f=aA p
 |[],_,_,h,_,_=>by simp at h
 |x::r,0,p,h,b,_=>by
  have h:aA x=aA p:=h;cases h;simp[rT,b]
 |x::r,n+1,p,h,b,c=>by
  have d:=c x (by simp);have:=Xg (l:=r) (n:=n) (p:=p) h b λq a=>c q (by simp[a]);simp[rT,d,this]
noncomputable abbrev eH(start:Int)(ts:List Tn):MO:=.obj 41 [(3,.int start),(4,.lst (ts.map zI))]
theorem zB{start:Int}(h:μ[i]?=aA (eH start ts))(q:K (.int (z0 start ts d)) μ):zC [.mut i,.int d] μ K Z:=by
 unfold zC;refine⟨rfl,?_⟩;refine zi ?_;refine⟨_,_,_,h,rfl,?_⟩;show dH _ _ _ (ts.map zI).reverse _ _ _;rw[←CG];refine qr (λn r f=>f=μ/\(∀p∈ts.reverse.take n,decide (p.1<=d)=aD)/\∃o,r=[aA (.mut i),aA (.int d),o]) ⟨rfl,by simp,_,rfl⟩ ?_ ?_
 ·rintro n x r f k ⟨rfl,m,o,rfl⟩ N t;rw[c9] at k;cases j:ts.reverse[n]? with
  |none=>rw[j] at k;cases k
  |some p=>
   rw[j] at k;cases k;refine⟨_,rfl,_,rfl,?_⟩;refine zO (λg=>?_) (λg=>?_)
   ·have e:z0 start ts d=p.2.1+(if p.2.2 then d-p.1 else 0):=by
     unfold z0;rw[Xg j (decide_eq_true g) m]
    rw[e] at q;refine⟨_,rfl,_,rfl,?_⟩;obtain⟨a,b,c⟩:=p;cases c with
    |true=>exact⟨_,rfl,q⟩
    |false=>exact q
   ·refine t _ _ ⟨rfl,λs l=>?_,_,rfl⟩;rw[gD,j] at l;rcases cA.mp l with z|z
    ·exact m s z
    ·have z:s=p:=by simpa using z
     rw[z];exact decide_eq_false g
 ·rintro r f ⟨rfl,m,o,rfl⟩;have e:z0 start ts d=start+d:=by
   unfold z0;have:ts.reverse.find? (λp=>decide (p.1<=d))=aE:=by
    rw[List.find?_eq_none];intro p j;have:=m p (by rw[bP,nC];exact j);simpa using this
   rw[this]
  rw[e] at q;exact⟨_,_,_,h,rfl,q⟩
theorem Kr(q:K (.bl aB) μ):uo [zI p] μ K Z:=by
 unfold uo;refine⟨rfl,_,rfl,?_⟩;refine zi ?_;refine⟨_,rfl,?_⟩;refine zi ?_;exact⟨_,rfl,q⟩
theorem yS:∀(n:Nat),cU (lu n (T.bl aB))=aA (lu n aB)
 |0=>rfl
 |n+1=>by simp[List.replicate_succ,cU,yS n]
theorem yc{α:Type}(xs:List α):∃bs,cU (xs.map λ_=>T.bl aB)=aA bs/\bs.all id=aB:=by
 rw[List.map_const'];exact⟨_,yS _,by simp⟩
theorem Vc{j:Nat}{ts:List Tn}(a:μ[j]?=aA (.lst (ts.map zI)))(i:nN ts)(o:ts.length<=40)(q:K (.bl aB) μ):jH [.mut j] μ K Z:=by
 unfold jH;refine⟨rfl,_,a,_,a,by rw[bP];unfold aU;lia,?_⟩;refine vt (λ_=>.bl aB) (λx f k c=>?_) ?_ a
 ·obtain⟨p,_,rfl⟩:=c7.mp f;exact⟨_,rfl,Kr c⟩
 obtain⟨bs,e,d⟩:=yc (ts.map zI);refine⟨bs,e,?_⟩;refine Iz (by rw[d];rfl) ?_;refine⟨_,a,⟨by decide,by rw[bP];unfold l7;lia⟩,?_⟩;have b:(wL 1 (((ts.map zI).length:Nat):Int) 1).length<=40:=by
  unfold wL;rw[bP,oZ,bP];split<;>lia
 refine⟨cT b (by decide),?_⟩;refine vt (λ_=>.bl aB) (λx f k c=>?_) ?_
 ·unfold wL at f;obtain⟨n,g,rfl⟩:=c7.mp f;have g:=lS.mp g;rw[bP] at g;have h:n+1<ts.length:=by split at g<;>lia
  have e:(1:Int)+n*1-1=n:=by lia
  have d:(1:Int)+n*1=((n+1:Nat):Int):=by lia
  refine⟨_,rfl,?_⟩;have m:vq (ts.map zI) (1+(n:Int)*1-1)=aA (zI ts[n]):=by
   rw[e,Xy (by lia) (by lia)];simp
  have l:vq (ts.map zI) (1+(n:Int)*1)=aA (zI ts[n+1]):=by
   rw[d,Xy (by lia) (by lia)];simp
  refine⟨_,_,a,m,_,rfl,_,_,a,l,_,rfl,?_⟩;have:=pG.mp i n (n+1) (by lia) h (iO n);have c:k (aA (.bl (decide (ts[n].1<ts[n+1].1)))) μ:=by rw[decide_eq_true this];exact c
  exact c
 obtain⟨bs,e,d⟩:=yc (wL 1 (((ts.map zI).length:Nat):Int) 1);refine⟨bs,e,?_⟩;have q:K (.bl (bs.all id)) μ:=by rw[d];exact q
 exact q
theorem xP:∀{μ:List MO},(μ++[x]).set μ.length y=μ++[y]
 |[]=>rfl
 |m::μ=>congrArg (m::·) (xP (μ:=μ))
theorem kh{start:Int}{ts:List Tn}(a:μ[j]?=aA (.lst (ts.map zI)))(b:nN ts)(c:ts.length<=40)(q:K .non (μ++[eH start ts])):wV [.mut μ.length,.int start,.mut j] (μ++[.obj 41 []]) K Z:=by
 unfold wV;refine⟨rfl,?_⟩;refine zi ?_;refine Vc (ze a) b c ?_;refine⟨_,_,zj,by decide,?_⟩;rw[xP];refine⟨_,ze a,_,_,zj,(by (show (1:Nat)<900);decide),?_⟩;rw[xP];exact q
end
section
variable {μ:aK}{x y z:Int}{ah sd:Int}
structure Hr where
 ho:aG
 s:Nat
 c:Nat
 h:Nat
 st:Int
 ts:List Tn
 l:Option Ls
 m:Option Int
 n:Option Int
 bt:T
 kt:T
noncomputable abbrev Hr.seat(u:Hr):MO:=qP (.mut u.c) (.mut u.h) u.kt
noncomputable abbrev Hr.house(x y z ah sd:Int)(u:Hr):MO:=fE (bL x y z) ah sd (gG u.s) u.l u.m u.n u.bt aD
noncomputable abbrev y0(x y z ah sd:Int)(cm g d:Nat)(a:T):MO:=.obj 47 [(9,bL x y z),(14,.int ah),(15,.int sd),(23,.mut cm),(24,.mut g),(25,a),(26,.mut d)]
noncomputable abbrev xw(u:Hr):Key×T:=(.inr u.ho,.mut u.s)
structure cN(μ:aK)(w cm gr g d:Nat)(x y z ah sd:Int)(now:T)(us:List Hr)(rs:List T)(ps:List Gp):Prop where
 wo:μ[w]?=aA (y0 x y z ah sd cm g d now)
 bk:Bk μ cm gr (bL x y z) ps
 gv:μ[g]?=aA (.lst rs)
 dc:μ[d]?=aA (.dic (us.map xw))
 se:∀u∈us,μ[u.s]?=aA u.seat
 cl:∀u∈us,μ[u.c]?=aA (eH u.st u.ts)
 hs:∀u∈us,μ[u.h]?=aA (u.house x y z ah sd)
 n1:(us.map (·.s)).Nodup
 n2:(us.map (·.h)).Nodup
 gg:g≠gr
variable {w cm gr g d:Nat}{now:T}{us:List Hr}{rs:List T}{ps:List Gp}
theorem z_{i j:Nat}{a b:MO}(h1:μ[i]?=aA a)(h2:μ[j]?=aA b)(n:a≠b):i≠j:=λe=>by
 subst e;rw[h1] at h2;exact n (bU h2)
theorem vG{f:Hr->Nat}(n:(us.map f).Nodup){i j:Nat}{u v:Hr}(hi:us[i]?=aA u)(c:us[j]?=aA v)(e:f u=f v):i=j:=by
 have g:(us.map f)[i]?=aA (f u):=by rw[c9,hi];rfl
 have d:(us.map f)[j]?=aA (f u):=by rw[c9,c,e];rfl
 obtain⟨a,ea⟩:=bQ.mp g;obtain⟨b,eb⟩:=bQ.mp d;rcases Nat.lt_trichotomy i j with h|h|h
 ·exact absurd (ea.trans eb.symm) (pG.mp n i j a b h)
 ·exact h
 ·exact absurd (eb.trans ea.symm) (pG.mp n j i b a h)
theorem map_set{α:Type}{f:Hr->α}{i:Nat}{u v:Hr}(hi:us[i]?=aA u)(e:f v=f u):(us.set i v).map f=us.map f:=by
 rw[List.map_set,e];exact fT (by rw[c9,hi];rfl)
theorem cN.upd{k:aK}{i:Nat}{u v:Hr}(W:cN μ w cm gr g d x y z ah sd now us rs ps)(hi:us[i]?=aA u)(ch:Ch [u.h,u.s] μ k)(h1:v.ho=u.ho)(h2:v.s=u.s)(B:v.c=u.c)(r:v.h=u.h)(A:v.st=u.st)(t:v.ts=u.ts)
  (C:k[u.h]?=aA (v.house x y z ah sd)) (gs:k[u.s]?=aA v.seat):cN k w cm gr g d x y z ah sd now (us.set i v) rs ps:=by
 have n:u∈us:=cP hi;have m:=W.hs u n;have hs:=W.se u n;have out:∀{j:Nat}{a:MO},μ[j]?=aA a->a≠u.house x y z ah sd->a≠u.seat->k[j]?=aA a:=λ{j a} e n1 n2=>ch.get e (by
  simp only[cO,h_,or_false,not_or];exact⟨z_ e m n1,z_ e hs n2⟩)
 have mem:∀{q:Hr},q∈us.set i v->q=v\/∃j,j≠i/\us[j]?=aA q:=λ{q} l=>by
  obtain⟨j,b⟩:=lq.mp l;by_cases e:j=i
  ·subst e;rw[nG (bQ.mp hi).1] at b;exact .inl (bU b).symm
  ·rw[cS (cX e)] at b;exact .inr ⟨j,e,b⟩
 refine⟨out W.wo (λe=>by cases e) (λe=>by cases e),W.bk.ch ch ?_ ?_ λp o=>?_,out W.gv (λe=>by cases e) (λe=>by cases e),?_,λq l=>?_,λq l=>?_,λq l=>?_,by rw[map_set hi h2];exact W.n1,by rw[map_set hi r];exact W.n2,W.gg⟩
 ·simp only[cO,h_,or_false,not_or];exact⟨z_ W.bk.com m (λe=>by cases e),z_ W.bk.com hs (λe=>by cases e)⟩
 ·simp only[cO,h_,or_false,not_or];exact⟨z_ W.bk.lst m (λe=>by cases e),z_ W.bk.lst hs (λe=>by cases e)⟩
 ·simp only[cO,h_,or_false,not_or];exact⟨z_ (W.bk.at_ p o) m (λe=>by cases e),z_ (W.bk.at_ p o) hs (λe=>by cases e)⟩
 ·rw[map_set hi (f:=xw) (by unfold xw;rw[h1,h2])];exact out W.dc (λe=>by cases e) (λe=>by cases e)
 ·rcases mem l with rfl|⟨j,ne,b⟩
  ·rw[h2];exact gs
  ·refine ch.get (W.se q (cP b)) ?_;simp only[cO,h_,or_false,not_or];exact⟨z_ (W.se q (cP b)) m (λe=>by cases e),λe=>ne (vG W.n1 b hi e)⟩
 ·rcases mem l with rfl|⟨j,ne,b⟩
  ·rw[B,A,t];exact out (W.cl u n) (λe=>by cases e) (λe=>by cases e)
  ·exact out (W.cl q (cP b)) (λe=>by cases e) (λe=>by cases e)
 ·rcases mem l with rfl|⟨j,ne,b⟩
  ·rw[r];exact C
  ·refine ch.get (W.hs q (cP b)) ?_;simp only[cO,h_,or_false,not_or];exact⟨λe=>ne (vG W.n2 b hi e),z_ (W.hs q (cP b)) hs (λe=>by cases e)⟩
theorem cN.ch0(W:cN μ w cm gr g d x y z ah sd now us rs ps)(ch:Ch [] μ j):cN j w cm gr g d x y z ah sd now us rs ps:=
 ⟨ch.get W.wo (by simp),W.bk.ch ch (by simp) (by simp) (by simp),ch.get W.gv (by simp),ch.get W.dc (by simp),λu a=>ch.get (W.se u a) (by simp),λu a=>ch.get (W.cl u a) (by simp),λu a=>ch.get (W.hs u a) (by simp),W.n1,W.n2,W.gg⟩
theorem cN.book{b:aK}{c:List Gp}(W:cN μ w cm gr g d x y z ah sd now us rs ps)(ch:Ch [gr] μ b)(B:Bk b cm gr (bL x y z) c):cN b w cm gr g d x y z ah sd now us rs c:=by
 have out:∀{j:Nat}{a:MO},μ[j]?=aA a->(∀l,a≠.lst l)->b[j]?=aA a:=λ{j a} e n=>ch.get e (by
  simp only[cO,h_,or_false];exact z_ e W.bk.lst (n _))
 exact⟨out W.wo (λ_ e=>by cases e),B,ch.get W.gv (by simp[W.gg]),out W.dc (λ_ e=>by cases e),λu f=>out (W.se u f) (λ_ e=>by cases e),λu f=>out (W.cl u f) (λ_ e=>by cases e),λu f=>out (W.hs u f) (λ_ e=>by cases e),W.n1,W.n2,W.gg⟩
end
section
variable {μ:aK}{K:T->aK->Prop}{Z:Xp}{now:T}{us:List Hr}{t n:Int}
theorem rq{α:Type}{xs:List α}{j:Nat}{v:α}(h:xs[j]?=aA v):vq xs (j:Int)=aA v:=by
 obtain⟨a,e⟩:=bQ.mp h;unfold vq UY;rw[if_pos (by lia),if_pos (by lia)];simpa using h
theorem pX{a b:T}{r:List T}:vq (a::b::r) 1=aA b:=rq (j:=1) rfl
theorem pQ{a b c:T}{r:List T}:vq (a::b::c::r) 2=aA c:=rq (j:=2) rfl
theorem OD(q:K (.bl aB) μ):vz [.tup [.str "lease",a,b,c,e]] μ K Z:=by
 unfold vz;refine⟨rfl,_,rfl,_,rfl,?_⟩;exact q
theorem Sv(q:K (.bl aB) μ):vz [.tup [.str "ask",a,b,c]] μ K Z:=by
 unfold vz;refine⟨rfl,_,rfl,_,rfl,?_⟩;exact q
theorem NF(q:K (.bl aB) μ):ku [.tup [.str "lease",.int t,b,c,e]] μ K Z:=by
 unfold ku;refine⟨rfl,?_⟩;refine OD ?_;refine⟨_,rfl,?_⟩;exact zi q
theorem PR(q:K (.bl aB) μ):ku [.tup [.str "ask",.int t,b,c]] μ K Z:=by
 unfold ku;refine⟨rfl,?_⟩;refine Sv ?_;refine⟨_,rfl,?_⟩;exact zi q
theorem Zs:∀{us:List Hr}{i:Nat}{u:Hr},us[i]?=aA u->(us.map (·.ho)).Nodup->qN (.inr u.ho) (us.map xw)=aA (.mut u.s)
 |[],_,_,h,_=>by cases h
 |v::r,0,u,h,_=>by
  cases h;show qN _ (xw v::_)=_;unfold qN;rw[if_pos rfl]
 |v::r,i+1,u,h,n=>by
  have h:r[i]?=aA u:=h;rw[dC,lY] at n;show qN _ (xw v::r.map xw)=_;unfold qN;rw[if_neg (λe=>n.1 (c7.mpr ⟨u,cP h,(mw e).symm⟩))];exact Zs h n.2
noncomputable def XQ(now:T)(t:Int):Prop:=now=.non\/∃s:Int,now=.int s/\s<=t
end
section
variable {x y z:Int}{ah:Int}{t n k:Int}{ho:aG}{hs:T}{u:Hr}
structure Wn(x y z ah:Int):Prop where
 s:Hz x y z
 xb:x<=1000000000000000
 zb:z<=10000000
 a0:0<=ah
structure eP(x y z:Int)(u:Hr):Prop where
 h1:u.ho.length<=aU
 h2:w6 u.ho=aB
 ok:IU x y u.l
 nm:∀k,u.n=aA k->0<=k/\k<x*y*z
structure mS(v u:Hr):Prop where
 ho:v.ho=u.ho
 s:v.s=u.s
 h:v.h=u.h
 st:v.st=u.st
 ts:v.ts=u.ts
noncomputable abbrev Hr.rd(u:Hr)(t:Int):Int:=z0 u.st u.ts t
noncomputable abbrev t_(a:aG)(t:Int)(ho:aG)(k:Int):T:=.tup [.str a,.int t,.str ho,.int k]
noncomputable abbrev l6(a:aG)(t:Int)(ho:aG)(hs:T)(n:Int):T:=.tup [.str a,.int t,.str ho,hs,.int n]
end
section
variable {μ:aK}{x y z:Int}{ah sd:Int}{w cm gr g d:Nat}{now:T}{us:List Hr}{rs:List T}{ps:List Gp}{t n:Int}{ho:aG}{u:Hr}
theorem cN.now'(W:cN μ w cm gr g d x y z ah sd now us rs ps):cN (μ.set w (y0 x y z ah sd cm g d nw)) w cm gr g d x y z ah sd nw us rs ps:=by
 have out:∀{j:Nat}{a:MO},μ[j]?=aA a->a≠y0 x y z ah sd cm g d now->(μ.set w (y0 x y z ah sd cm g d nw))[j]?=aA a:=λ{j a} e n=>by
  rw[cS (cX (z_ e W.wo n))];exact e
 have ch:Ch [w] μ (μ.set w (y0 x y z ah sd cm g d nw)):=Ch.set;have b:∀{j:Nat}{a:MO},μ[j]?=aA a->a≠y0 x y z ah sd cm g d now->j∉[w]:=λ{j a} e n=>by simpa using z_ e W.wo n
 exact⟨aH W.wo,W.bk.ch ch (b W.bk.com (λe=>by cases e)) (b W.bk.lst (λe=>by cases e)) (λp f=>b (W.bk.at_ p f) (λe=>by cases e)),out W.gv (λe=>by cases e),out W.dc (λe=>by cases e),λu c=>out (W.se u c) (λe=>by cases e),λu c=>out (W.cl u c) (λe=>by cases e),λu c=>out (W.hs u c) (λe=>by cases e),W.n1,W.n2,W.gg⟩
theorem cN.gave(W:cN μ w cm gr g d x y z ah sd now us rs ps):cN (μ.set g (.lst rs')) w cm gr g d x y z ah sd now us rs' ps:=by
 have out:∀{j:Nat}{a:MO},μ[j]?=aA a->(∀l,a≠.lst l)->(μ.set g (.lst rs'))[j]?=aA a:=λ{j a} e n=>by
  rw[cS (cX (z_ e W.gv (n _)))];exact e
 have ch:Ch [g] μ (μ.set g (.lst rs')):=Ch.set;have b:∀{j:Nat}{a:MO},μ[j]?=aA a->(∀l,a≠.lst l)->j∉[g]:=λ{j a} e n=>by simpa using z_ e W.gv (n _)
 exact⟨out W.wo (λ_ e=>by cases e),W.bk.ch ch (b W.bk.com (λ_ e=>by cases e)) (by simpa using cX W.gg) (λp f=>b (W.bk.at_ p f) (λ_ e=>by cases e)),aH W.gv,out W.dc (λ_ e=>by cases e),λu c=>out (W.se u c) (λ_ e=>by cases e),λu c=>out (W.cl u c) (λ_ e=>by cases e),λu c=>out (W.hs u c) (λ_ e=>by cases e),W.n1,W.n2,W.gg⟩
noncomputable abbrev yU(t:Int)(ho:aG)(nm:Int):T:=.tup [.int t,.str ho,.int nm]
end
noncomputable def Za (ts:List Tn)(t:Int):Option Tn:=ts.reverse.find? (λp=>decide (p.1<=t))
noncomputable def tN (s:Int)(o:Option Tn)(t:Int):Int:=match o with
 |some p=>p.2.1+(if p.2.2 then t-p.1 else 0)
 |none=>s+t
noncomputable def ZF(o:Option Tn):Int:=match o with
 |some p=>if p.2.2 then 1 else 0
 |none=>1
theorem QZ:z0 s ts t=tN s (Za ts t) t:=rfl
theorem Yu:tN s o (t+1)=tN s o t+ZF o:=by
 cases o with
 |none=>show s+(t+1)=s+t+1;lia
 |some p=>
  obtain⟨a,b,c⟩:=p;cases c with
  |true=>show b+(t+1-a)=b+(t-a)+1;lia
  |false=>show b+0=b+0+0;lia
theorem uG:ZF o=0\/ZF o=1:=by
 cases o with
 |none=>exact .inr rfl
 |some p=>
  obtain⟨a,b,c⟩:=p;cases c with
  |true=>exact .inr rfl
  |false=>exact .inl rfl
theorem ZX{α:Type}{f g:α->Bool}:∀{l:List α},(∀x∈l,f x=g x)->l.find? f=l.find? g
 |[],_=>rfl
 |x::l,h=>by
  have c:=h x (by simp);have b:=ZX (l:=l) λy a=>h y (by simp[a]);simp only[rT,c,b]
noncomputable def fG (ts:List Tn)(t:Int):Prop:=∀p∈ts,p.1≠t
theorem wQ(h:fG ts (t+1)):Za ts (t+1)=Za ts t:=by
 unfold Za;refine ZX λp a=>?_;have:=h p (by simpa using a);by_cases z:p.1<=t
 ·rw[decide_eq_true z,decide_eq_true (by lia)]
 ·rw[decide_eq_false z,decide_eq_false (by lia)]
theorem qD(h:fG ts (t+1)):z0 s ts (t+1)=z0 s ts t+ZF (Za ts t):=by
 rw[QZ,QZ,wQ h,Yu]
section
variable {s1 s2:Int}{o1 o2:List Tn}{b e:Int}
noncomputable def Tr (ts:List Tn)(b e t:Int):Prop:=(∃p∈ts,p.1=t)/\b<t/\t<=e
theorem fG.of(h:¬Tr ts b e t)(h1:b<t)(h2:t<=e):fG ts t:=λp a z=>h ⟨⟨p,a,z⟩,h1,h2⟩
noncomputable def Ed (o1 o2:List Tn)(b e t:Int):Prop:=t=b\/t=e\/((Tr o1 b e t\/Tr o2 b e t)\/(Tr o1 b e (t+1)\/Tr o2 b e (t+1)))
noncomputable def Vp (b e t u:Int):Prop:=b<=t/\t<=u/\u<=e
noncomputable def Le (s1 s2:Int)(o1 o2:List Tn)(t u t' a:Int):Prop:=
 z0 s1 o1 t'-z0 s2 o2 a<z0 s1 o1 t-z0 s2 o2 u\/(z0 s1 o1 t'-z0 s2 o2 a=z0 s1 o1 t-z0 s2 o2 u/\(t<t'\/(t=t'/\u<=a)))
theorem Le.trans(a:Le s1 s2 o1 o2 t u t1 s)(c:Le s1 s2 o1 o2 t1 s w j):Le s1 s2 o1 o2 t u w j:=by
 unfold Le at *;rcases a with a|⟨a,d⟩<;>rcases c with c|⟨c,b⟩
 ·left;lia
 ·left;lia
 ·left;lia
 ·right;refine⟨by lia,?_⟩;rcases d with d|⟨d,f⟩<;>rcases b with b|⟨b,e⟩<;>lia
theorem Le.anti(a:Le s1 s2 o1 o2 t u t1 j)(c:Le s1 s2 o1 o2 t1 j t u):t=t1/\u=j:=by
 unfold Le at *;rcases a with a|⟨a,d⟩<;>rcases c with c|⟨c,b⟩
 ·lia
 ·lia
 ·lia
 ·rcases d with d|⟨d,f⟩<;>rcases b with b|⟨b,e⟩<;>lia
theorem KR(d:b<=t):∀(n:Nat) (u:Int),u=t+n->u<=e->∃v,(v=t\/(Tr o2 b e v/\t<v))/\v<=u/\z0 s2 o2 v<=z0 s2 o2 u
 |0,u,a,c=>⟨t,.inl rfl,by lia,by rw[show u=t by lia];exact dB _⟩
 |n+1,u,a,c=>by
  by_cases h:Tr o2 b e u
  ·exact⟨u,.inr ⟨h,by lia⟩,dB _,dB _⟩
  ·obtain⟨v,f,i,g⟩:=KR d n (u-1) (by lia) (by lia);have st:=qD (s:=s2) (t:=u-1) (fG.of (b:=b) (e:=e) (ts:=o2) (t:=u-1+1) (by rw[show u-1+1=u by lia];exact h) (by lia) (by lia));rw[show u-1+1=u by lia] at st;have:=@uG (Za o2 (u-1));exact⟨v,f,by lia,by lia⟩
theorem VZ(a:Tr o2 b e v):∀(n:Nat) (t:Int),v=t+1+n->b<=t->ZF (Za o1 t)=1->∃t',t<=t'/\t'<v/\Ed o1 o2 b e t'/\z0 s1 o1 t<=z0 s1 o1 t'
 |0,t,h,g,_=>⟨t,dB _,by lia,.inr (.inr (.inr (.inr (by rw[show t+1=v by lia];exact a)))),dB _⟩
 |n+1,t,h,g,f=>by
  by_cases z:Tr o1 b e (t+1)\/Tr o2 b e (t+1)
  ·exact⟨t,dB _,by lia,.inr (.inr (.inr z)),dB _⟩
  ·have d:=a.2.2;have c:fG o1 (t+1):=fG.of (λq=>z (.inl q)) (by lia) (by lia);have st:=qD (s:=s1) c;obtain⟨t',l,j,i,k⟩:=VZ a n (t+1) (by lia) (by lia) (by rw[wQ c];exact f);exact⟨t',by lia,j,i,by lia⟩
theorem Ye:∀(n:Nat) (t:Int),e=t+n->b<=t->ZF (Za o1 t)=1->ZF (Za o2 t)=0->∃t',t<=t'/\t'<=e/\Ed o1 o2 b e t'/\z0 s1 o1 t-z0 s2 o2 t+(if t<t' then 1 else 0)<=z0 s1 o1 t'-z0 s2 o2 t'
 |0,t,h,i,_,_=>⟨t,dB _,by lia,.inr (.inl (by lia)),by rw[if_neg (by lia)];lia⟩
 |n+1,t,h,i,k,j=>by
  by_cases z:Tr o1 b e (t+1)\/Tr o2 b e (t+1)
  ·exact⟨t,dB _,by lia,.inr (.inr (.inr z)),by rw[if_neg (by lia)];lia⟩
  ·have c:fG o1 (t+1):=fG.of (λq=>z (.inl q)) (by lia) (by lia);have a:fG o2 (t+1):=fG.of (λq=>z (.inr q)) (by lia) (by lia);have o:=qD (s:=s1) c;have m:=qD (s:=s2) a;obtain⟨t',l,g,f,d⟩:=Ye n (t+1) (by lia) (by lia) (by rw[wQ c];exact k) (by rw[wQ a];exact j);refine⟨t',by lia,g,f,?_⟩;rw[if_pos (by lia)];split at d<;>lia
theorem G7:∀(n:Nat) (t' d:Int),t'=b+n->Vp b e t' d->∃t u,Ed o1 o2 b e t/\Vp b e t u/\(u=t\/(Tr o2 b e u/\t<u))/\Le s1 s2 o1 o2 t u t' d:=by
 intro n;induction n with
 |zero=>
  intro t' d P c;obtain⟨v,a,p,Q⟩:=KR (s2:=s2) (o2:=o2) (b:=b) (e:=e) (t:=t') c.1 (d-t').toNat d (by have:=c.2.1;lia) c.2.2;have g:t'<=v:=by rcases a with a|a<;>lia
  refine⟨t',v,.inl (by lia),⟨c.1,g,by have:=c.2.2;lia⟩,a,?_⟩;unfold Le;by_cases z:z0 s2 o2 v=z0 s2 o2 d
  ·right;exact⟨by lia,.inr ⟨rfl,p⟩⟩
  ·left;lia
 |succ n F=>
  intro t' d P c;obtain⟨v,a,p,Q⟩:=KR (s2:=s2) (o2:=o2) (b:=b) (e:=e) (t:=t') c.1 (d-t').toNat d (by have:=c.2.1;lia) c.2.2;have g:t'<=v:=by rcases a with a|a<;>lia
  have f:v<=e:=by have:=c.2.2;lia
  have i:Le s1 s2 o1 o2 t' v t' d:=by
   unfold Le;by_cases z:z0 s2 o2 v=z0 s2 o2 d
   ·right;exact⟨by lia,.inr ⟨rfl,p⟩⟩
   ·left;lia
  by_cases ed:Ed o1 o2 b e t'
  ·exact⟨t',v,ed,⟨c.1,g,f⟩,a,i⟩
  ·have L:t'≠e:=λz=>ed (.inr (.inl z));have o:¬Tr o1 b e t':=λz=>ed (.inr (.inr (.inl (.inl z))));have m:¬Tr o2 b e t':=λz=>ed (.inr (.inr (.inl (.inr z))));have l:¬Tr o1 b e (t'+1):=λz=>ed (.inr (.inr (.inr (.inl z))));have h:¬Tr o2 b e (t'+1):=λz=>ed (.inr (.inr (.inr (.inr z))));have j:b<t':=by lia
   have N:t'<e:=by lia
   have D:fG o1 (t'-1+1):=by rw[show t'-1+1=t' by lia];exact fG.of o j (by lia)
   have C:fG o2 (t'-1+1):=by rw[show t'-1+1=t' by lia];exact fG.of m j (by lia)
   have E:fG o1 (t'+1):=fG.of l (by lia) (by lia);have M:fG o2 (t'+1):=fG.of h (by lia) (by lia);have J:=wQ D;have I:=wQ C;have B:=qD (s:=s1) D;have A:=qD (s:=s2) C;have U:=qD (s:=s1) E;have T:=qD (s:=s2) M;rw[show t'-1+1=t' by lia] at J I B A;rw[←J] at B;rw[←I] at A;rcases @uG (Za o1 t') with W|K
   ·obtain⟨t,u,x,w,r,q⟩:=F (t'-1) v (by lia) ⟨by lia,by lia,f⟩;refine⟨t,u,x,w,r,q.trans (Le.trans ?_ i)⟩;unfold Le;right;exact⟨by lia,.inl (by lia)⟩
   ·rcases a with a|⟨a,R⟩
    ·subst a;rcases @uG (Za o2 v) with S|V
     ·obtain⟨t,H,y,k,G⟩:=Ye (s1:=s1) (s2:=s2) (o1:=o1) (o2:=o2) (b:=b) (e:=e) (e-v).toNat v (by lia) c.1 K S;have:v<t:=by
       rcases Int.lt_or_eq_of_le H with z|z
       ·exact z
       ·rw[←z] at k;exact absurd k ed
      rw[if_pos this] at G;refine⟨t,t,k,⟨by lia,dB _,y⟩,.inl rfl,Le.trans ?_ i⟩;unfold Le;left;lia
     ·obtain⟨t,u,x,w,r,q⟩:=F (v-1) (v-1) (by lia) ⟨by lia,dB _,by lia⟩;refine⟨t,u,x,w,r,q.trans (Le.trans ?_ i)⟩;unfold Le;right;exact⟨by lia,.inl (by lia)⟩
    ·have O:v≠t'+1:=λz=>h (z▸a);obtain⟨t,H,y,k,G⟩:=VZ (s1:=s1) (o1:=o1) a (v-(t'+1)-1).toNat (t'+1) (by lia) (by lia) (by rw[wQ E];exact K);refine⟨t,v,k,⟨by lia,by lia,f⟩,.inr ⟨a,y⟩,Le.trans ?_ i⟩;unfold Le;left;lia
end
section
variable {μ:aK}{K:T->aK->Prop}{Z:Xp}
theorem Lg(h:HT.lexLt [a,b,c] [x,y,z]=aD):x<a\/(a=x/\(y<b\/(b=y/\z<=c))):=by
 simp only[HT.lexLt_cons,HT.lexLt_nil_nil] at h;split at h
 ·split at h
  ·split at h
   ·lia
   ·have:=of_decide_eq_false h;lia
  ·have:=of_decide_eq_false h;lia
 ·have:=of_decide_eq_false h;lia
theorem IT(h:HT.lexLt [a,b] [x,y]=aD):x<a\/(a=x/\y<=b):=by
 simp only[HT.lexLt_cons,HT.lexLt_nil_nil] at h;split at h
 ·split at h
  ·lia
  ·have:=of_decide_eq_false h;lia
 ·have:=of_decide_eq_false h;lia
noncomputable def dQ (ts:List Tn)(b e:Int):List Int:=(ts.filter λp=>decide (b<p.1)&&decide (p.1<=e)).map (·.1)
theorem q_:t∈dQ ts b e↔Tr ts b e t:=by
 unfold dQ Tr;simp only[c7,fA,cH,decide_eq_true_eq];constructor
 ·rintro⟨p,⟨d,c,a⟩,rfl⟩;exact⟨⟨p,d,rfl⟩,c,a⟩
 ·rintro⟨⟨p,d,rfl⟩,c,a⟩;exact⟨p,⟨d,c,a⟩,rfl⟩
theorem uk:(dQ ts b e).length<=ts.length:=by
 unfold dQ;rw[bP];exact pq _ _
noncomputable def Bi(b e:Int):T->Option T
 |.tup [.int a,_,_]=>if b<a then (if a<=e then aA (.int a) else aE) else aE
 |_=>aE
theorem VG:Bi b e (zI p)=if b<p.1 then (if p.1<=e then aA (.int p.1) else aE) else aE:=rfl
theorem Y2:∀ts:List Tn,(ts.map zI).filterMap (Bi b e)=(dQ ts b e).map T.int
 |[]=>rfl
 |p::r=>by
  rw[dC,ny,VG,Y2 r];unfold dQ;by_cases a:b<p.1
  ·by_cases c:p.1<=e
   ·simp[a,c]
   ·simp[a,c]
  ·simp[a]
theorem vp(h:μ[i]?=aA (eH s ts))(g:ts.length<=100)(q:K (.lst ((dQ ts b e).map T.int)) μ):qU [.mut i,.int b,.int e] μ K Z:=by
 unfold qU;refine⟨rfl,?_⟩;refine⟨_,_,_,h,rfl,?_⟩;refine⟨by rw[bP];unfold aU;lia,?_⟩;refine vL (Bi b e) (λx f k a=>?_) ?_
 ·obtain⟨p,_,rfl⟩:=c7.mp f;rw[VG] at a;refine⟨_,rfl,_,rfl,?_⟩;refine zO (λd=>?_) (λd=>?_)
  ·rw[if_pos d] at a;refine zO (λc=>?_) (λc=>?_)
   ·rw[if_pos c] at a;exact⟨_,rfl,a⟩
   ·rw[if_neg c] at a;exact a
  ·rw[if_neg d] at a;exact a
 rw[Y2];exact q
noncomputable def gj (o1 o2:List Tn)(b e:Int):List Int:=[b,e]++(dQ o1 b e++dQ o2 b e)++(dQ o1 b e++dQ o2 b e).map (· - 1)
theorem Rv(h:Ed o1 o2 b e t):t∈gj o1 o2 b e:=by
 unfold gj;simp only[cA,cO,h_,or_false,c7];rcases h with h|h|(h|h)|(h|h)
 ·exact .inl (.inl (.inl h))
 ·exact .inl (.inl (.inr h))
 ·exact .inl (.inr (.inl (q_.mpr h)))
 ·exact .inl (.inr (.inr (q_.mpr h)))
 ·exact .inr ⟨t+1,.inl (q_.mpr h),by lia⟩
 ·exact .inr ⟨t+1,.inr (q_.mpr h),by lia⟩
theorem MK(a:b<=e)(h:t∈gj o1 o2 b e):b<=t/\t<=e:=by
 unfold gj at h;simp only[cA,cO,h_,or_false,c7] at h;rcases h with ((h|h)|(h|h))|⟨u,h|h,rfl⟩
 ·lia
 ·lia
 ·have:=(q_.mp h).2;lia
 ·have:=(q_.mp h).2;lia
 ·have:=(q_.mp h).2;lia
 ·have:=(q_.mp h).2;lia
theorem SY(h1:μ[i]?=aA (eH s1 o1))(h2:μ[j]?=aA (eH s2 o2))(d:o1.length<=100)(c:o2.length<=100)(q:K (.lst ((gj o1 o2 b e).map T.int)) μ):XH [.mut i,.mut j,.int b,.int e] μ K Z:=by
 have h:=@uk o1 b e;have g:=@uk o2 b e;unfold XH;refine⟨rfl,?_⟩;refine vp h1 d ?_;refine vp h2 c ?_;refine⟨by simp;unfold aU;lia,?_⟩;refine⟨by simp;unfold aU;lia,?_⟩;refine⟨by simp;unfold aU;lia,?_⟩;refine vt (λx=>match x with|.int t=>.int (t-1)|y=>y) (λx f k a=>?_) ?_
 ·rcases cA.mp f with z|z
  ·obtain⟨t,_,rfl⟩:=c7.mp z;exact⟨_,rfl,a⟩
  ·obtain⟨t,_,rfl⟩:=c7.mp z;exact⟨_,rfl,a⟩
 refine⟨by simp;unfold aU;lia,?_⟩;have e0:(gj o1 o2 b e).map T.int=[T.int b,T.int e]++((dQ o1 b e).map T.int++(dQ o2 b e).map T.int)++((dQ o1 b e).map T.int++(dQ o2 b e).map T.int).map (λx=>match x with|.int t=>.int (t-1)|y=>y):=by
  unfold gj;simp;rfl
 rw[e0] at q;exact q
noncomputable def ol (s2:Int)(o2:List Tn)(b e t v:Int):Prop:=(v=t\/(v∈dQ o2 b e/\t<v))/\∀w,(w=t\/(w∈dQ o2 b e/\t<w))->z0 s2 o2 v<z0 s2 o2 w\/(z0 s2 o2 v=z0 s2 o2 w/\v<=w)
noncomputable def K3 (s1 s2:Int)(o1 o2:List Tn)(t v:Int):List Int:=[z0 s2 o2 v-z0 s1 o1 t,t,v]
noncomputable def cW(ns:List Int):T:=.tup (ns.map T.int)
theorem y4:∀rows:List (List Int),rowsOf (rows.map cW)=aA rows
 |[]=>rfl
 |r::rows=>by
  show (bJ (r.map T.int)).bind (λa=>(rowsOf (rows.map cW)).map (a::·))=_;rw[ZL,y4 rows];rfl
noncomputable def il (s1 s2:Int)(o1 o2:List Tn)(b e t u:Int):Prop:=Vp b e t u/\∀c a,Vp b e c a->Le s1 s2 o1 o2 t u c a
theorem il.eq(a:il s1 s2 o1 o2 b e t u)(c:il s1 s2 o1 o2 b e t1 d):t=t1/\u=d:=(a.2 _ _ c.1).anti (c.2 _ _ a.1)
theorem Ot(g:b<=e)(h1:∀r∈rows, ∃t v, r=K3 s1 s2 o1 o2 t v/\t∈gj o1 o2 b e/\ol s2 o2 b e t v)(h2:∀t∈gj o1 o2 b e, ∃v, K3 s1 s2 o1 o2 t v∈rows/\ol s2 o2 b e t v)
 (s:ns∈rows) (u:VC rows ns):∃t v, ns=K3 s1 s2 o1 o2 t v/\il s1 s2 o1 o2 b e t v:=by
  obtain⟨t, v, rfl, q, c⟩:=h1 ns s;have f:=MK g q;have k:t<=v/\v<=e:=by
    rcases c.1 with z|⟨z, a⟩
    · lia
    · have:=(q_.mp z).2;lia
  refine⟨t, v, rfl, ⟨f.1, k.1, k.2⟩, λj n l=>?_⟩;obtain⟨d, i, y, C, x, w⟩:=G7 (s1:=s1) (s2:=s2) (o1:=o1) (o2:=o2) (b:=b) (e:=e) (j-b).toNat j n (by have:=l.1;lia) l;obtain⟨h, p, o⟩:=h2 d (Rv y);have B:Le s1 s2 o1 o2 d h d i:=by
    have:=o.2 i (x.imp id λz=>⟨q_.mpr z.1, z.2⟩);unfold Le;rcases this with z|⟨z, a⟩
    · left;lia
    · right;exact⟨by lia, .inr ⟨rfl, a⟩⟩
  have A:Le s1 s2 o1 o2 t v d h:=by
    have:=Lg (u _ p);unfold Le;rcases this with z|⟨z, a|⟨a, m⟩⟩
    · left;lia
    · right;exact⟨by lia, .inl a⟩
    · right;exact⟨by lia, .inr ⟨a.symm, m⟩⟩
  exact (A.trans B).trans w
end
section
variable {μ:aK}{K:T->aK->Prop}{Z:Xp}
noncomputable def tK (t:Int):T->Option T
 |.tup [a,.int v]=>if t<v then aA (.tup [a,.int v]) else aE
 |_=>aE
theorem Xn:tK t (cW [a,v])=if t<v then aA (cW [a,v]) else aE:=rfl
theorem UH(P:b<=e)(h1:μ[i]?=aA (eH s1 o1))(h2:μ[j]?=aA (eH s2 o2))(l1:o1.length<=100)(U:o2.length<=100)
  (q:∀t u o,il s1 s2 o1 o2 b e t u->K (.tup [.int (z0 s1 o1 t-z0 s2 o2 u),.int t,.int u]) (μ++[o])):jJ [.mut i,.mut j,.int b,.int e] μ K Z:=by
 have k1:=@uk o1 b e;have k2:=@uk o2 b e;unfold jJ;refine⟨rfl,?_⟩;refine zi ?_;refine zi ?_;refine qL (by lia) ?_;refine vp h2 U ?_;refine⟨by rw[bP];unfold aU;lia,?_⟩;refine vt (λx=>match x with|.int t=>cW [z0 s2 o2 t,t]|y=>y) (λx c k s=>?_) ?_
 ·obtain⟨t,_,rfl⟩:=c7.mp c;refine⟨_,rfl,_,h2,?_⟩;exact zB h2 s
 have g1:=ze (x:=.lst []) h1;have g2:=ze (x:=.lst []) h2;refine SY g1 g2 l1 U ?_;have X:(gj o1 o2 b e).length<=402:=by unfold gj;simp;lia
 have A:((dQ o2 b e).map T.int).map (λx=>match x with|.int t=>cW [z0 s2 o2 t,t]|y=>y)=((dQ o2 b e).map λt=>[z0 s2 o2 t,t]).map cW:=by rw[fS,fS];rfl
 rw[A]
 refine qr (λn E g=>∃G F a,E=[aA (.mut i),aA (.mut j),aA (.int b),aA (.int e),G,aA (.lst (((dQ o2 b e).map λt=>[z0 s2 o2 t,t]).map cW)),aA (.mut μ.length),F,aE]/\g=μ++[.lst (a.map cW)]/\a.length=n/\
   (∀r∈a,∃t v,r=K3 s1 s2 o1 o2 t v/\t∈gj o1 o2 b e/\ol s2 o2 b e t v)/\(∀t∈(gj o1 o2 b e).take n,∃v,K3 s1 s2 o1 o2 t v∈a/\ol s2 o2 b e t v)) ⟨_,_,[],rfl,rfl,rfl,by simp,by simp⟩ ?_ ?_
 ·rintro n x E g c ⟨G,F,a,rfl,rfl,D,m,d⟩ N hN;rw[c9] at c;cases C:(gj o1 o2 b e)[n]? with
  |none=>rw[C] at c;cases c
  |some t=>
   rw[C] at c;cases c;have hlt:n<402:=by have:=(bQ.mp C).1;lia
   have W:=ze (x:=.lst (a.map cW)) h1;have V:=ze (x:=.lst (a.map cW)) h2;refine⟨_,rfl,?_⟩;refine⟨_,V,?_⟩;refine zB V ?_;refine⟨by simp;unfold aU;lia,?_⟩;refine vL (tK t) (λx c k s=>?_) ?_
   ·obtain⟨r,M,rfl⟩:=c7.mp c;obtain⟨v,_,rfl⟩:=c7.mp M;rw[Xn] at s;refine⟨_,rfl,_,rfl,?_⟩;refine zO (λh=>?_) (λh=>?_)
    ·rw[if_pos h] at s;exact s
    ·rw[if_neg h] at s;exact s
   have fl:(((dQ o2 b e).map λt=>[z0 s2 o2 t,t]).map cW).filterMap (tK t)=(((dQ o2 b e).filter λv=>decide (t<v)).map λv=>[z0 s2 o2 v,v]).map cW:=by
    generalize dQ o2 b e=l;induction l with
    |nil=>rfl
    |cons v r ih=>
     rw[dC,dC,ny,Xn,ih];by_cases z:t<v
     ·simp[z]
     ·simp[z]
   rw[fl];have Y:((dQ o2 b e).filter λv=>decide (t<v)).length<=100:=cT (pq _ _) (by lia);refine⟨by simp;unfold aU;lia,?_⟩;have er:[T.tup [.int (z0 s2 o2 t),.int t]]++(((dQ o2 b e).filter λv=>decide (t<v)).map λv=>[z0 s2 o2 v,v]).map cW=([z0 s2 o2 t,t]::((dQ o2 b e).filter λv=>decide (t<v)).map λv=>[z0 s2 o2 v,v]).map cW:=rfl;refine⟨[z0 s2 o2 t,t]::((dQ o2 b e).filter λv=>decide (t<v)).map λv=>[z0 s2 o2 v,v],by rw[er];exact y4 _,by simp,λS p Q=>?_⟩;have L:∃v,S=[z0 s2 o2 v,v]/\(v=t\/(v∈dQ o2 b e/\t<v)):=by
    rcases cO.mp p with rfl|z
    ·exact⟨t,rfl,.inl rfl⟩
    ·obtain⟨v,L,rfl⟩:=c7.mp z;have:=fA.mp L;exact⟨v,rfl,.inr ⟨this.1,of_decide_eq_true this.2⟩⟩
   obtain⟨v,rfl,J⟩:=L;have f:ol s2 o2 b e t v:=by
    refine⟨J,λw hw=>?_⟩;have hm:[z0 s2 o2 w,w]∈[z0 s2 o2 t,t]::((dQ o2 b e).filter λv=>decide (t<v)).map λv=>[z0 s2 o2 v,v]:=by
     rcases hw with rfl|⟨I,H⟩
     ·exact eG
     ·exact dN _ (c7.mpr ⟨w,fA.mpr ⟨I,decide_eq_true H⟩,rfl⟩)
    have:=IT (Q _ hm);lia
   refine⟨⟨_,zj⟩,?_⟩;refine⟨_,rfl,?_⟩;refine⟨_,W,?_⟩;refine zB W ?_;refine⟨_,rfl,?_⟩;refine⟨_,zj,by rw[bP];unfold aU;lia,?_⟩;rw[xP];have et:a.map cW++[T.tup [.int (z0 s2 o2 v-z0 s1 o1 t),.int t,.int v]]=(a++[K3 s1 s2 o1 o2 t v]).map cW:=by simp;rfl
   refine hN _ _ ⟨_,_,a++[K3 s1 s2 o1 o2 t v],rfl,by rw[←et],by simp[D],λr M=>?_,λR B=>?_⟩
   ·rcases cA.mp M with z|z
    ·exact m r z
    ·rw[bV.mp z];exact⟨t,v,rfl,cP C,f⟩
   ·rw[gD,C] at B;rcases cA.mp B with z|z
    ·obtain⟨v',m1,m2⟩:=d R z;exact⟨v',dM _ m1,m2⟩
    ·have z:R=t:=by simpa using z
     subst z;exact⟨v,by simp,f⟩
 ·rintro E g ⟨G,F,a,rfl,rfl,D,m,d⟩;rw[bP] at D;rw[bP,nC] at d;have O:0<a.length:=by rw[D];unfold gj;simp
  refine⟨_,zj,a,y4 a,by rw[bP];exact O,λS p Q=>?_⟩;obtain⟨t,v,rfl,ho⟩:=Ot P m d p Q;refine⟨_,rfl,_,rfl,_,rfl,?_⟩;have:=q t v (.lst (a.map cW)) ho;have e1:-(z0 s2 o2 v-z0 s1 o1 t)=z0 s1 o1 t-z0 s2 o2 v:=by lia
  rw[←e1] at this;exact this
end
section
noncomputable def BS (s1 s2:Int)(o1 o2:List Tn)(P:Int->Int->Prop):Option (Int×Int)->Prop
 |none=>∀t u,¬P t u
 |some p=>P p.1 p.2/\∀b a,P b a->Le s1 s2 o1 o2 p.1 p.2 b a
noncomputable def Fm (s1 s2:Int)(o1 o2:List Tn):Option (Int×Int)->T
 |none=>.non
 |some p=>.tup [.int (z0 s1 o1 p.1-z0 s2 o2 p.2),.int p.1,.int p.2]
end
section
variable {s1 s2:Int}{o1 o2:List Tn}
noncomputable def Bs (s1 s2:Int)(o1 o2:List Tn)(P:List Int)(t u:Int):Prop:=t∈P/\u∈P/\t<=u/\∀b∈P,∀a∈P,b<=a->Le s1 s2 o1 o2 t u b a
theorem yC:∀zs:List Int,bJ (zs.map T.int)=aA zs
 |[]=>rfl
 |z::r=>by simp[bJ,yC r]
end
section
variable {μ:aK}{K:T->aK->Prop}{Z:Xp}{c g i0:Nat}{x y z:Int}{ps:List Gp}{m n:Int}
theorem Wu{bs:List Gp}(h:∀p∈bs,μ[p.1]?=aA p.2.O)(Q:bs.length<64)(L:μ[i0]?=aA (.tab 0))(q:∀b,m<=b->(∀p∈bs,mt p.2 b (b+n)=aD)->(∀d,m<=d->d<b->∃p∈bs,mt p.2 d (d+n)=aB)->K (.int b) μ):wc [.lst (bs.map Gp.t),.int m,.int n] μ K Z:=by
 unfold wc;refine⟨rfl,?_⟩;refine⟨⟨i0,L⟩,by rw[bP];exact Q,bs.map (·.2.f),XD h,λU s M=>?_⟩;have ez:(bs.map (·.2.f)).zip (bs.map Gp.t)=bs.map λp=>(p.2.f,Gp.t p):=by rw[List.zip_map',]
 rw[ez] at s;obtain⟨k,E,rfl⟩:=Vt s rfl;rw[fS,lj] at *;have y:∀p∈k,μ[p.1]?=aA p.2.O:=λp s=>h p (E.mem_iff.mp s);refine qr (λi D r=>∃b o,D=[aA (.lst (bs.map Gp.t)),aA (.int m),aA (.int n),aA (.int b),o]/\r=μ/\m<=b/\(∀p∈k.take i,mt p.2 b (b+n)=aD)/\∀d,m<=d->d<b->∃p∈bs,mt p.2 d (d+n)=aB) ⟨m,aE,rfl,rfl,dB _,by simp,λd v C=>by lia⟩ ?_ ?_
 ·rintro i x D r w ⟨b,o,rfl,rfl,H,A,g⟩ N I;rw[c9] at w;cases c:k[i]? with
  |none=>rw[c] at w;cases w
  |some p=>
   rw[c] at w;cases w;have F:p∈k:=cP c;have P:i<k.length:=(bQ.mp c).1;have et:k.take (i+1)=k.take i++[p]:=by rw[gD,c];rfl
   have J:∀l∈k.take i,l.2.f<=p.2.f:=λl a=>by
    obtain⟨j,B⟩:=lq.mp a;rw[List.getElem?_take] at B;split at B
    ·rename_i G;obtain⟨v,T⟩:=bQ.mp B;obtain⟨C,S⟩:=bQ.mp c;have:=(pG.mp M) j i v C G;rw[T,S] at this;exact this
    ·cases B
   refine⟨_,rfl,?_⟩;refine RN (y p F) ?_;refine xO (λe=>?_) (λe=>?_)
   ·refine⟨_,_,_,y p F,rfl,?_⟩;have e:=uN.mp e;refine I _ _ ⟨p.2.u,_,rfl,rfl,by lia,λl a=>?_,λd v C=>?_⟩
    ·rw[et] at a;rcases cA.mp a with a|a
     ·have v:=A l a;have C:=J l a;refine Bc λz=>?_;have:mt l.2 b (b+n)=aB:=uN.mpr (by lia);rw[v] at this;cases this
     ·rw[bV.mp a];exact Bc (by lia)
    ·by_cases R:d<b
     ·exact g d v R
     ·exact⟨p,E.mem_iff.mp F,uN.mpr (by lia)⟩
   ·refine I _ _ ⟨b,_,rfl,rfl,H,λl a=>?_,g⟩;rw[et] at a;rcases cA.mp a with a|a
    ·exact A l a
    ·rw[bV.mp a];exact e
 ·rintro D r ⟨b,o,rfl,rfl,H,A,g⟩;refine q b H (λp s=>A p ?_) g;rw[bP,iT (bH _)];exact E.mem_iff.mpr s
structure i4(ps:List Gp)(h m n b:Int):Prop where
 ge:m<=b
 fr:∀p∈ps,p.2.h=h->mt p.2 b (b+n)=aD
 mn:∀b',m<=b'->b'<b->∃p∈ps,p.2.h=h/\mt p.2 b' (b'+n)=aB
theorem i4.one{h b d:Int}(a:i4 ps h m n b)(c:i4 ps h m n d):b=d:=by
 rcases Int.lt_trichotomy b d with e|e|e
 ·obtain⟨p,f,h1,h2⟩:=c.mn b a.ge e;rw[a.fr p f h1] at h2;cases h2
 ·exact e
 ·obtain⟨p,f,h1,h2⟩:=a.mn d c.ge e;rw[c.fr p f h1] at h2;cases h2
theorem VF{h:Int}(B:Bk μ c g (bL x y z) ps)(f:μ[i0]?=aA (.tab 0))(j:ps.length<64)
  (q:∀b,i4 ps h m n b->K (.tup [.int h,.int b,.int (b+n)]) μ):zQ [.mut c,.int h,.int m,.int n] μ K Z:=by
 unfold zQ;refine⟨rfl,_,B.com,?_⟩;refine Wr B (by lia) ?_;refine Wu (i0:=i0) (λp a=>B.at_ p (fA.mp a).1) (tx (pq ..) j) f λb k i d=>?_;refine q b ⟨k,λp a e=>i p (fA.mpr ⟨a,by simpa using e⟩),λs r o=>?_⟩;obtain⟨p,a,l⟩:=d s r o;exact⟨p,(fA.mp a).1,by simpa using (fA.mp a).2,l⟩
theorem IW{h b:Int}(B:Bk μ c g (bL x y z) ps)(o:μ[i0]?=aA (.tab 0))(q:ps.length<64)(h0:ho.length<=aU)(h1:w6 ho=aB)(r:0<=h)(l:h<y)(u:1<=n)(A:0<=m)(F:i4 ps h m n b)(bx:b+n<=x)
  (k:∀j a,μ.length<=a->Ch [g] μ j->Bk j c g (bL x y z) (ps++[(a,⟨ho,h,b,b+n,b+n,aD⟩)])->K (.tup [.int h,.int b,.int (b+n)]) j):vN [.mut c,.str ho,.int h,.int m,.int n] μ K Z:=by
 unfold vN;refine⟨rfl,_,B.com,?_⟩;refine Vd B h0 h1 (.inr ⟨h,rfl,r,l⟩) u ?_;refine⟨_,B.com,?_⟩;have em:(if m<0 then 0 else m)=m:=if_neg (by lia);show zQ [.mut c,.int h,.int (if m<0 then 0 else m),.int n] μ _ _;rw[em];refine VF B o q λv w=>?_;obtain rfl:=w.one F;have s:0<=v:=by have:=F.ge;lia
 refine⟨_,rfl,_,_,_,B.com,rfl,?_⟩;refine qL (by lia) ?_;refine⟨_,rfl,_,_,_,B.com,rfl,?_⟩;refine qL (by lia) ?_;refine⟨_,_,_,B.com,rfl,⟨_,B.lst⟩,?_⟩;have C:g<μ.length:=(bQ.mp B.lst).1;unfold kC;refine⟨rfl,_,_,zj,by show (0:Nat)<900;decide,_,_,aH zj,by show (1:Nat)<900;decide,_,rfl,_,_,aH (aH zj),by show (2:Nat)<900;decide,_,_,aH (aH (aH zj)),by show (3:Nat)<900;decide,rfl,?_⟩;have es:∀(μ:aK) (a b:MO),(μ++[a]).set μ.length b=μ++[b]:=λμ a b=>by rw[sY _ _ (bH _)];simp
 simp only[es];refine⟨_,ze B.lst,by rw[bP];unfold aU;lia,?_⟩;refine k _ μ.length (bH _) ((Ch.app.mono (by simp)).trans Ch.set) ?_;have f:∀p∈ps,p.1≠g/\p.1<μ.length:=λp d=>by
  refine⟨λe=>?_,(bQ.mp (B.at_ p d)).1⟩;have:=B.at_ p d;rw[e,B.lst] at this;cases this
 have cg:c≠g:=λe=>by
  have:=B.com;rw[e,B.lst] at this;cases this
 refine⟨?_,?_,λp d=>?_,?_⟩
 ·rw[cS cg.symm];exact ze B.com
 ·rw[gK];exact aH (ze B.lst)
 ·rcases cA.mp d with d|d
  ·rw[cS (f p d).1.symm];exact ze (B.at_ p d)
  ·rw[bV.mp d,cS (by show g≠μ.length;lia)];exact zj
 ·rw[gK,ll];refine⟨B.nd,by simp,λa t b i e=>?_⟩;obtain⟨p,d,rfl⟩:=c7.mp t;have i:b=μ.length:=by simpa using i
  have:=(f p d).2;lia
end
section
variable {μ μ1 μ2:aK}{a:Ls}{h:Int}
theorem Ch.geS(a:Ch S μ μ1)(b:Ch d μ1 μ2)(h:∀j∈d,μ.length<=j):Ch S μ μ2:=
 ⟨cT a.len b.len,λj c hs=>(b.ot j (dL c a.len) λw=>absurd (h j w) (by lia)).trans (a.ot j c hs)⟩
end
section
variable {l acc:List R3}{a:R3}
noncomputable def VR (acc:List R3)(a:R3):List R3:=if acc.all (λo=>decide (a.2.2≠o.2.2))=aB then acc++[a] else acc
noncomputable def iF (l:List R3):List R3:=l.foldl VR []
noncomputable def Ff (l:List R3):List R3:=(iF (wm l)).take 2
end
section
variable {μ:aK}{K:T->aK->Prop}{Z:Xp}{H:List R3}{n:R3}
theorem Vv{l:List R3}{a:R3}:iF (l++[a])=VR (iF l) a:=by unfold iF;rw[List.foldl_append];rfl
theorem PN:∀{l:List R3},(iF l).length<=l.length:=λ{l}=>by
 have:∀(r b:List R3),(r.foldl VR b).length<=b.length+r.length:=λr=>by
  induction r with
  |nil=>intro b;simp
  |cons a r c=>
   intro b;have:=c (VR b a);have q:(VR b a).length<=b.length+1:=by unfold VR;split<;>simp
   simp only[List.foldl_cons,eZ];lia
 simpa[iF] using this l []
theorem Mp{α:Type}{xs:List α}:Kz xs aE (aA 2)=xs.take 2:=by
 unfold Kz nW;simp only[List.drop_zero,Nat.sub_zero];by_cases h:2<=xs.length
 ·show xs.take (min 2 xs.length)=_;rw[Nat.min_eq_left h]
 ·show xs.take (min 2 xs.length)=_;rw[Nat.min_eq_right (by lia),iT (bH _),iT (by lia)]
theorem Zc(s:H.length<=2)(k:(H++[n]).Pairwise fC)(q:∀d,Ch [] μ d->K (.lst ((Ff (H++[n])).map gF)) d):vf [.lst (H.map gF),gF n] μ K Z:=by
 unfold vf;refine⟨rfl,by rw[bP];show _+1<=_;unfold aU;lia,H++[n],by simp,by simp;lia,k,?_⟩;generalize h:wm (H++[n])=S;have r:S.length<=3:=by rw[←h,xX];simp;lia
 refine qr (λi f d=>∃o:Option T,f=[aA (.lst (H.map gF)),aA (gF n),aA (.mut μ.length),o]/\d[μ.length]?=aA (.lst ((iF (S.take i)).map gF))/\Ch [] μ d) ⟨_,rfl,zj,Ch.app⟩ ?_ ?_
 ·rintro i u f d g ⟨o,rfl,b,ch⟩ N j;rw[c9] at g;obtain⟨a,p,rfl⟩:=lB.mp g;have et:S.take (i+1)=S.take i++[a]:=by rw[gD,p];rfl
  have ld:(iF (S.take i)).length<=3:=by have:=PN (l:=S.take i);rw[mz] at this;lia
  refine⟨_,rfl,_,b,by rw[bP];unfold aU;lia,?_⟩;refine wI gF (λo=>aA (.bl (decide (a.2.2≠o.2.2)))) (λo _ m c=>?_) ?_ b
  ·refine⟨_,rfl,_,rfl,_,rfl,?_⟩;have c:m (aA (.bl (!decide (a.2.2=o.2.2)))) d:=by rw[←decide_not];exact c
   exact c
  rw[pu];refine⟨_,yj (λo:R3=>decide (a.2.2≠o.2.2)) _,?_⟩;refine xO (λe=>?_) (λe=>?_)
  ·rw[ml] at e;have e:(iF (S.take i)).all (λo=>decide (a.2.2≠o.2.2))=aB:=e;refine⟨⟨_,b⟩,_,b,by rw[bP];unfold aU;lia,?_⟩;refine j _ _ ⟨_,rfl,?_,Ch.geS ch Ch.set (by simp)⟩;rw[aH b,et,Vv,VR,if_pos e,gK];rfl
  ·rw[ml] at e;have e:(iF (S.take i)).all (λo=>decide (a.2.2≠o.2.2))=aD:=e;refine j _ _ ⟨_,rfl,?_,ch⟩;rw[b,et,Vv,VR,if_neg (by rw[e];decide)]
 ·rintro f d ⟨o,rfl,b,ch⟩;rw[bP,nC] at b;refine⟨_,b,?_⟩;have:=q d ch;unfold Ff at this;rw[h,List.map_take,←Mp] at this;exact this
end
section
variable {u:Hr}
noncomputable abbrev Cd:=aG×Int×List Tn
noncomputable abbrev Hr.cd(u:Hr):Cd:=(u.ho,u.st,u.ts)
end
section
variable {μ:aK}{K:T->aK->Prop}{Z:Xp}{x y z:Int}{ah sd:Int}{w cm g d:Nat}{now:T}{hs:T}{i:Nat}
theorem zq(hs:St μ i)(h0:0<base)(h1:base<1000000000000000000000000000000000000000000000000000000000000)(q:∀v j,0<=v->v<base->Up μ i j->K (.int v) j):zk [.mut i,.int base] μ K Z:=by
 obtain⟨a,b,c,h⟩:=hs;have d:∀x:Int,0<=x % base/\x % base<base:=λx=>⟨o8 _ (by lia),pi _ h0⟩;unfold zk;refine⟨rfl,_,_,h,rfl,?_⟩;refine zO (λe=>?_) (λe=>?_)
 ·refine⟨_,_,h,rfl,h0,_,_,h,rfl,⟨h0,by lia⟩,?_⟩;refine .inl ⟨_,h,by simp,?_⟩;exact q _ _ (d _).1 (d _).2 (Up.set h)
 ·refine⟨_,_,h,rfl,?_⟩;refine .inl ⟨_,h,by simp,?_⟩;refine⟨_,_,aH h,rfl,_,_,aH h,rfl,?_⟩;refine SU λv=>?_;refine⟨h0,?_⟩;exact q _ _ (d _).1 (d _).2 (Up.set h)
theorem uH(h:μ[i]?=aA (.obj 45 []))(c:0<=ah)(hd:0<=sd)(q:∀s b,Ch [i] μ s->μ.length<=b->s[i]?=aA (fE j ah sd kp aE aE aE (.mut b) aD)->K .non s) :
  qk [.mut i,j,.int ah,.int sd,kp,.non] μ K Z:=by
 unfold qk;refine⟨rfl,?_⟩;refine vM c ?_;refine vM hd ?_;refine⟨_,_,h,by show (0:Nat)<900;decide,_,_,aH h,by show (1:Nat)<900;decide,_,_,aH (aH h),by show (2:Nat)<900;decide,_,_,aH (aH (aH h)),by show (3:Nat)<900;decide,_,_,aH (aH (aH (aH h))),by show (4:Nat)<900;decide,_,_,aH (aH (aH (aH (aH h)))),by show (5:Nat)<900;decide,_,_,aH (aH (aH (aH (aH (aH h))))),by show (6:Nat)<900;decide,?_⟩;have a:=aH (y:=MO.obj 45 [(9,j),(14,.int ah),(15,.int sd),(16,kp),(6,.non),(17,.non),(18,.non)]) (aH (y:=MO.obj 45 [(9,j),(14,.int ah),(15,.int sd),(16,kp),(6,.non),(17,.non)]) (aH (y:=MO.obj 45 [(9,j),(14,.int ah),(15,.int sd),(16,kp),(6,.non)]) (aH (y:=MO.obj 45 [(9,j),(14,.int ah),(15,.int sd),(16,kp)]) (aH (y:=MO.obj 45 [(9,j),(14,.int ah),(15,.int sd)]) (aH (y:=MO.obj 45 [(9,j),(14,.int ah)]) (aH (y:=MO.obj 45 [(9,j)]) h))))));refine⟨_,_,ze a,by show (7:Nat)<900;decide,_,_,aH (ze a),by show (8:Nat)<900;decide,?_⟩;refine q _ _ ((((((((((Ch.set.trans Ch.set).trans Ch.set).trans Ch.set).trans Ch.set).trans Ch.set).trans Ch.set).trans (Ch.app.mono (by simp))).trans Ch.set).trans Ch.set)) (by simp) (aH (aH (ze a)))
theorem X7{a e:Nat}{ck:T}{now:T}(hw:μ[w]?=aA (y0 x y z ah sd cm g d now))(hs:μ[a]?=aA (qP ck .non .non))(h:μ[e]?=aA (.tab 1))(k:0<=ah)(hd:0<=sd)
  (q:∀s b,Ch [a] μ s->s[a]?=aA (qP ck (.mut μ.length) .non)->s[μ.length]?=aA (fE (bL x y z) ah sd (gG a) aE aE aE (.mut b) aD)->K .non s):zL [.mut w,.mut a] μ K Z:=by
 unfold zL;refine⟨rfl,_,_,_,hw,rfl,_,_,_,hw,rfl,_,_,_,hw,rfl,⟨e,h⟩,[.mut a],rfl,_,_,_,hs,rfl,?_⟩;have m:=(bQ.mp hs).1;refine uH zj k hd λs b ch n l=>?_;have f:s[a]?=aA (qP ck .non .non):=ch.get (ze hs) (by simp;lia);refine⟨rfl,_,_,f,by show (3:Nat)<900;decide,?_⟩;refine q _ b ⟨?_,λj i c=>?_⟩ (aH f) ?_
 ·have:=ch.len;simp at this ⊢;lia
 ·have c:j≠a:=by simpa using c
  rw[cS (cX c),ch.ot j (by simp;lia) (by simp;lia),dP i]
 ·rw[cS (by lia)];exact l
end
section
variable {μ μ1 μ2:aK}{K:T->aK->Prop}{Z:Xp}{x y z:Int}{ah sd:Int}{w cm gr g d dc:Nat}{now:T}{us:List Hr}{rs:List T}{ps:List Gp}
structure Kd where
 ho:aG
 c:Nat
 st:Int
 ts:List Tn
noncomputable abbrev wC(k:Kd):Key×T:=(.inr k.ho,.mut k.c)
noncomputable abbrev Kd.cd(k:Kd):Cd:=(k.ho,k.st,k.ts)
structure gQ(μ:aK)(k:Kd):Prop where
 h1:k.ho.length<=aU
 h2:w6 k.ho=aB
 ck:μ[k.c]?=aA (eH k.st k.ts)
theorem Kw:∀{ks:List Kd}{k:Kd},k∈ks->(ks.map (·.ho)).Nodup->qN (.inr k.ho) (ks.map wC)=aA (.mut k.c)
 |[],_,h,_=>by cases h
 |v::r,k,h,n=>by
  rw[dC,lY] at n;show qN _ (wC v::r.map wC)=_;unfold qN;rcases cO.mp h with rfl|h
  ·rw[if_pos rfl]
  ·rw[if_neg (λe=>n.1 (c7.mpr ⟨k,h,(mw e).symm⟩))];exact Kw h n.2
variable {ks:List Kd}
theorem NZ(h:ZU μ i kvs)(ho:μ[j]?=aA o)(n1:∀l,o≠.dic l)(n2:∀e l,o≠.frd e l):j≠i:=λe=>by
 subst e;rcases h with h|⟨ep,h⟩
 ·rw[h] at ho;exact n1 _ (bU ho).symm
 ·rw[h] at ho;exact n2 _ _ (bU ho).symm
theorem Qb(ho:μ[dc]?=aA (.dic (ks.map wC)))(f:ks≠[])(j:ks.length<=1000)(hk:∀k∈ks,gQ μ k)(nd:(ks.map (·.ho)).Nodup)
  (q:∀ep,K (.bl aB) (μ.set dc (.frd ep (ks.map wC)))):vU [.mut dc] μ K Z:=by
 have hd:ZU μ dc (ks.map wC):=.inl ho;have dl:=(bQ.mp ho).1;unfold vU;refine⟨rfl,_,ho,_,hd,?_⟩;refine qL (by
  rw[bP];intro e;have e:ks.length=0:=by lia
  exact f (DO.mp e)) ?_
 refine⟨_,hd,λep=>?_⟩;refine⟨by rw[bP,bP];unfold aU;lia,?_⟩;rw[fS];have gd:(μ.set dc (.frd ep (ks.map wC)))[dc]?=aA (.frd ep (ks.map wC)):=aH ho;refine wI (μ:=μ.set dc (.frd ep (ks.map wC))) (λk:Kd=>T.str k.ho) (λ_=>aA (.bl aB)) (λk a i b=>?_) ?_ gd
 ·have H:=hk k a;refine⟨_,rfl,?_⟩;refine w9 H.h1 ?_;rw[H.h2];refine⟨_,_,.inr ⟨ep,gd⟩,Kw a nd,?_⟩;have ck:(μ.set dc (.frd ep (ks.map wC)))[k.c]?=aA (eH k.st k.ts):=by
   rw[cS (cX (NZ hd H.ck (λ_ e=>by cases e) (λ_ _ e=>by cases e)))];exact H.ck
  refine⟨_,ck,?_⟩;exact b
 ·rw[show ks.filterMap (λ_=>aA (T.bl aB))=ks.map (λ_=>T.bl aB) by rw[pu]];obtain⟨bs,h,g⟩:=yc ks;refine⟨_,h,?_⟩;have d:=q ep;rw[←g] at d;exact d
theorem Z6{a:Nat}(h:l.Nodup)(n:a∉l):(l++[a]).Nodup:=by
 rw[ll];exact⟨h,by simp,λb f c d e=>n (by rw[←bV.mp d,←e];exact f)⟩
theorem cN.seat(W:cN μ w cm gr g d x y z ah sd now us rs ps)(ch:Ch [d] μ A)(gd:A[d]?=aA (.dic ((us++[v]).map xw)))(t:A[v.s]?=aA v.seat)(r:A[v.c]?=aA (eH v.st v.ts))(o:A[v.h]?=aA (v.house x y z ah sd))(n1:μ.length<=v.s)(n2:μ.length<=v.h):cN A w cm gr g d x y z ah sd now (us++[v]) rs ps:=by
 have out:∀{j:Nat}{a:MO},μ[j]?=aA a->(∀l,a≠.dic l)->A[j]?=aA a:=λ{j a} e n=>ch.get e (by simpa using z_ e W.dc (n _));have f:∀{j:Nat}{a:MO},μ[j]?=aA a->(∀l,a≠.dic l)->j∉[d]:=λ{j a} e n=>by simpa using z_ e W.dc (n _)
 have lt:∀{j:Nat}{a:MO},μ[j]?=aA a->j<μ.length:=λe=>(bQ.mp e).1;have mem:∀{q:Hr}{P:Hr->Prop},(∀u∈us,P u)->P v->q∈us++[v]->P q:=λ{q P} h1 h2 i=>by
  rcases cA.mp i with h|h
  ·exact h1 q h
  ·rw[bV.mp h];exact h2
 refine⟨out W.wo (λ_ e=>by cases e),W.bk.ch ch (f W.bk.com (λ_ e=>by cases e)) (f W.bk.lst (λ_ e=>by cases e)) (λp m=>f (W.bk.at_ p m) (λ_ e=>by cases e)),out W.gv (λ_ e=>by cases e),gd,λq i=>mem (P:=λu=>A[u.s]?=aA u.seat) (λu b=>out (W.se u b) (λ_ e=>by cases e)) t i,λq i=>mem (P:=λu=>A[u.c]?=aA (eH u.st u.ts)) (λu b=>out (W.cl u b) (λ_ e=>by cases e)) r i,λq i=>mem (P:=λu=>A[u.h]?=aA (u.house x y z ah sd)) (λu b=>out (W.hs u b) (λ_ e=>by cases e)) o i,?_,?_,W.gg⟩
 ·rw[gK];exact Z6 W.n1 λk=>by
   obtain⟨u,b,e⟩:=c7.mp k;have:=lt (W.se u b);have e:u.s=v.s:=e;lia
 ·rw[gK];exact Z6 W.n2 λk=>by
   obtain⟨u,b,e⟩:=c7.mp k;have:=lt (W.hs u b);have e:u.h=v.h:=e;lia
theorem RC{z:Key}(h:z∉kvs.map (·.1)):u7 z t kvs=kvs++[(z,t)]:=by
 unfold u7;rw[if_neg];intro e;obtain⟨p,a,e⟩:=CD.mp e;exact h (c7.mpr ⟨p,a,by simpa using e⟩)
theorem Va(q:∀j,Ch [] μ j->j.length=μ.length+1->j[μ.length]?=aA (qP ck .non .non)->K .non j):vw [.mut μ.length,ck] (μ++[.obj 46 []]) K Z:=by
 unfold vw;refine⟨rfl,_,_,zj,by show (0:Nat)<900;decide,_,_,aH zj,by show (1:Nat)<900;decide,_,_,aH (aH zj),by show (2:Nat)<900;decide,?_⟩;refine q _ ?_ (by simp) (aH (aH (aH zj)));exact Ch.geS (Ch.geS (Ch.geS Ch.app Ch.set (by simp)) Ch.set (by simp)) Ch.set (by simp)
theorem PF:∀{us:List Hr}{z:aG},z∉us.map (·.ho)->(.inr z:Key)∉(us.map xw).map (·.1):=λ{us z} h a=>by
 rw[fS] at a;obtain⟨u,b,e⟩:=c7.mp a;exact h (c7.mpr ⟨u,b,mw e⟩)
structure CI(μ0 μ:aK)(w cm gr g d dc t1:Nat)(x y z ah sd:Int)(ks:List Kd)(n ep:Nat)(us:List Hr):Prop where
 W:cN μ w cm gr g d x y z ah sd .non us [] []
 cd:us.map Hr.cd=(ks.take n).map Kd.cd
 nw:∀u∈us,u.l=aE/\(u.n=aE/\u.m=aE)/\μ0.length<=u.h/\μ0.length<=u.s
 ch:Ch [dc] μ0 μ
 hd:μ[dc]?=aA (.frd ep (ks.map wC))
 tb:μ[t1]?=aA (.tab 1)
 kd:∀k∈ks,gQ μ k
theorem CI.step{t1 ep n:Nat}{k:Kd}{t:Option T}{E:En}(C:CI μ0 μ w cm gr g d dc t1 x y z ah sd ks n ep us)(hk:ks[n]?=aA k)(nd:(ks.map (·.ho)).Nodup)(hl:ks.length<=1000)(O:0<=ah)(hs:0<=sd)(U:μ0.length<=d)(dd:dc<μ0.length)
  (hN:∀I t s A,CI μ0 s w cm gr g d dc t1 x y z ah sd ks (n+1) ep A->N [aA (.mut w),aA (bL x y z),aA (.int ah),aA (.int sd),aA (.mut dc),I,t] s) :
  qd [(zp 6 (Qj 46 vw [(gL JO (eV 4) (eV 5))])),(zN (zF 47 zL (eV 0) [(eV 6)])),(ZE (zf (eV 0) 26) (eV 5) (eV 6))] [aA (.mut w),aA (bL x y z),aA (.int ah),aA (.int sd),aA (.mut dc),aA (.str k.ho),t] μ (E.turn N):=by
 obtain⟨W,cd,nw,ch,hd,tb,kd⟩:=C;have F:=cP hk;have X:=kd k F;have K:μ0.length<=μ.length:=ch.len;refine⟨_,_,.inr ⟨ep,hd⟩,Kw F nd,?_⟩;refine Va λm o J R=>?_;refine⟨rfl,?_⟩;have H:=W.ch0 o;refine⟨_,H.wo,?_⟩;refine X7 H.wo R (o.get tb (by simp)) O hs λμ2 b B Q P=>?_;have f:Ch [] μ μ2:=Ch.geS o B (by simp);have r:=W.ch0 f;refine⟨_,_,_,r.wo,rfl,?_⟩;have new:k.ho∉us.map (·.ho):=λG=>by
  have S:us.map (·.ho)=(ks.take n).map (·.ho):=by
   have:=congrArg (List.map (·.1)) cd;rw[fS,fS] at this;exact this
  rw[S] at G;have Z:n<ks.length:=(bQ.mp hk).1;have p:((ks.take n++[k]).map (·.ho)).Nodup:=by
   rw[show ks.take n++[k]=ks.take (n+1) by rw[gD,hk];rfl];exact nd.sublist ((Dz _ _).map _)
  rw[gK,ll] at p;exact p.2.2 k.ho G k.ho (by simp) rfl
 have Y:us.length<=1000:=by
  have:=congrArg iM cd;rw[bP,bP,mz] at this;lia
 refine⟨_,r.dc,by rw[bP];unfold aU;lia,?_⟩;rw[RC (PF new)];have dl:d<μ.length:=(bQ.mp W.dc).1;have q:(us.map xw++[((.inr k.ho:Key),T.mut μ.length)])=(us++[(⟨k.ho,μ.length,k.c,m.length,k.st,k.ts,aE,aE,aE,.mut b,.non⟩:Hr)]).map xw:=by rw[gK];rfl
 have V:μ2[k.c]?=aA (eH k.st k.ts):=f.get X.ck (by simp);have i:∀{j:Nat}{a:MO},μ2[j]?=aA a->(∀l,a≠.dic l)->(μ2.set d (.dic ((us++[(⟨k.ho,μ.length,k.c,m.length,k.st,k.ts,aE,aE,aE,.mut b,.non⟩:Hr)]).map xw)))[j]?=aA a:=λ{j a} e n=>by
  rw[cS (cX (z_ e r.dc (n _)))];exact e
 refine hN _ _ _ (us++[⟨k.ho,μ.length,k.c,m.length,k.st,k.ts,aE,aE,aE,.mut b,.non⟩]) ⟨?_,?_,?_,?_,?_,?_,?_⟩
 ·rw[q];exact W.seat (f.mono (by simp) |>.trans Ch.set) (aH r.dc) (i Q (λ_ e=>by cases e)) (i V (λ_ e=>by cases e)) (i P (λ_ e=>by cases e)) (bH _) (by show μ.length<=m.length;lia)
 ·rw[gK,cd,gD,hk,gK];rfl
 ·intro u M;rcases cA.mp M with h|h
  ·exact nw u h
  ·rw[bV.mp h];exact⟨rfl,⟨rfl,rfl⟩,by show μ0.length<=m.length;lia,K⟩
 ·exact Ch.geS (ch.trans (f.mono (by simp))) Ch.set (by simpa using U)
 ·rw[q];exact i (f.get hd (by simp)) (λ_ e=>by cases e)
 ·rw[q];exact i (f.get tb (by simp)) (λ_ e=>by cases e)
 ·intro L v;have D:=kd L v;rw[q];exact⟨D.h1,D.h2,i (f.get D.ck (by simp)) (λ_ e=>by cases e)⟩
end
section
variable {μ μ2:aK}{K:T->aK->Prop}{Z:Xp}{x y z:Int}{ah sd:Int}{w cm gr g d dc:Nat}{us:List Hr}{ks:List Kd}
theorem Lp{t1:Nat}(W:cN μ w cm gr g d x y z ah sd .non [] [] [])(hd:μ[dc]?=aA (.frd ep (ks.map wC)))(F:ks.length<=1000)(hk:∀k∈ks,gQ μ k)(nd:(ks.map (·.ho)).Nodup)(E:μ[t1]?=aA (.tab 1))(G:0<=ah)(hs:0<=sd)(I:μ0.length<=d)(dd:dc<μ0.length)(ch0:Ch [dc] μ0 μ)
  (q:∀A ep us,cN A w cm gr g d x y z ah sd .non us [] []->us.map Hr.cd=ks.map Kd.cd->(∀u∈us,u.l=aE/\(u.n=aE/\u.m=aE)/\μ0.length<=u.h/\μ0.length<=u.s)->Ch [dc] μ0 A->A[dc]?=aA (.frd ep (ks.map wC))->K .non A) :
  qd (qh.drop 8) [aA (.mut w),aA (bL x y z),aA (.int ah),aA (.int sd),aA (.mut dc),aE,aE] μ (En.fn K Z):=by
 have out:∀{b j:Nat}{a:MO},μ[j]?=aA a->(∀e l,a≠.frd e l)->(μ.set dc (.frd b (ks.map wC)))[j]?=aA a:=λ{b j a} e n=>by
  rw[cS (cX (z_ e hd (n _ _)))];exact e
 refine⟨_,.inr ⟨ep,hd⟩,λb=>?_⟩;have C0:CI μ0 (μ.set dc (.frd b (ks.map wC))) w cm gr g d dc t1 x y z ah sd ks 0 b []:=by
  have o:∀{j:Nat}{a:MO},μ[j]?=aA a->(∀e l,a≠.frd e l)->j∉[dc]:=λ{j a} e n=>by simpa using z_ e hd (n _ _)
  have ch:Ch [dc] μ (μ.set dc (.frd b (ks.map wC))):=Ch.set;refine⟨⟨out W.wo (λ_ _ e=>by cases e),W.bk.ch ch (o W.bk.com (λ_ _ e=>by cases e)) (o W.bk.lst (λ_ _ e=>by cases e)) (by simp),out W.gv (λ_ _ e=>by cases e),out W.dc (λ_ _ e=>by cases e),by simp,by simp,by simp,W.n1,W.n2,W.gg⟩,rfl,by simp,ch0.trans ch,aH hd,out E (λ_ _ e=>by cases e),λk v=>?_⟩;have B:=hk k v;exact⟨B.h1,B.h2,out B.ck (λ_ _ e=>by cases e)⟩
 rw[fS];refine qr (λn r A=>∃us i f,r=[aA (.mut w),aA (bL x y z),aA (.int ah),aA (.int sd),aA (.mut dc),i,f]/\CI μ0 A w cm gr g d dc t1 x y z ah sd ks n b us) ⟨[],_,_,rfl,C0⟩ ?_ ?_ ?_
 ·rintro n u r A p ⟨us,i,f,rfl,C⟩ N H;rw[c9] at p;cases c:ks[n]? with
  |none=>rw[c] at p;cases p
  |some k=>
   rw[c] at p;cases p;refine⟨_,rfl,?_⟩;exact C.step c nd F G hs I dd λi f D t J=>H _ _ ⟨t,i,f,rfl,J⟩
 ·rintro r A ⟨us,i,f,rfl,C⟩;rw[bP] at C;have cd:=C.cd;rw[iT (bH _)] at cd;exact q A b us C.W cd C.nw C.ch C.hd
 ·rintro n r A ⟨us,i,f,rfl,C⟩;exact C.hd
theorem Ml{t1:Nat}(hw:μ[w]?=aA (MO.obj 47 [(9,bL x y z),(14,.int ah),(15,.int sd)]))(J:μ0.length<=w)(hd:μ[dc]?=aA (.frd ep (ks.map wC)))(L:ks.length<=1000)(hk:∀k∈ks,gQ μ k)(nd:(ks.map (·.ho)).Nodup)(G:μ[t1]?=aA (.tab 1))(N:0<=ah)(hs:0<=sd)(dd:dc<μ0.length)(ch0:Ch [dc] μ0 μ)
  (q:∀A ep us cm gr g d,cN A w cm gr g d x y z ah sd .non us [] []->us.map Hr.cd=ks.map Kd.cd->(∀u∈us,u.l=aE/\(u.n=aE/\u.m=aE)/\μ0.length<=u.h/\μ0.length<=u.s)->μ0.length<=gr->μ0.length<=g->Ch [dc] μ0 A->A[dc]?=aA (.frd ep (ks.map wC))->K .non A) :
  qd (qh.drop 4) [aA (.mut w),aA (bL x y z),aA (.int ah),aA (.int sd),aA (.mut dc),aE,aE] μ (En.fn K Z):=by
 have I:=(bQ.mp hw).1;have U:=ch0.len;refine uu ?_;refine⟨rfl,?_⟩;have p:(μ++[MO.obj 43 [(9,bL x y z),(10,.mut (μ.length+1))],.lst []])[w]?=aA (MO.obj 47 [(9,bL x y z),(14,.int ah),(15,.int sd)]):=by rw[dP I];exact hw
 refine⟨_,_,p,by show (3:Nat)<900;decide,?_⟩;have f:=aH (y:=MO.obj 47 [(9,bL x y z),(14,.int ah),(15,.int sd),(23,.mut μ.length)]) p;have fc:Ch [w] μ ((μ++[MO.obj 43 [(9,bL x y z),(10,.mut (μ.length+1))],.lst []]).set w (MO.obj 47 [(9,bL x y z),(14,.int ah),(15,.int sd),(23,.mut μ.length)])):=⟨by simp,λj M F=>by
  have F:j≠w:=by simpa using F
  rw[cS (cX F),dP M]⟩
 have D:((μ++[MO.obj 43 [(9,bL x y z),(10,.mut (μ.length+1))],.lst []]).set w (MO.obj 47 [(9,bL x y z),(14,.int ah),(15,.int sd),(23,.mut μ.length)])).length=μ.length+2:=by simp
 have v:((μ++[MO.obj 43 [(9,bL x y z),(10,.mut (μ.length+1))],.lst []]).set w (MO.obj 47 [(9,bL x y z),(14,.int ah),(15,.int sd),(23,.mut μ.length)]))[μ.length]?=aA (MO.obj 43 [(9,bL x y z),(10,.mut (μ.length+1))]):=by
  rw[cS (by lia),fN (bH _)];simp
 have t:((μ++[MO.obj 43 [(9,bL x y z),(10,.mut (μ.length+1))],.lst []]).set w (MO.obj 47 [(9,bL x y z),(14,.int ah),(15,.int sd),(23,.mut μ.length)]))[μ.length+1]?=aA (.lst []):=by
  rw[cS (by lia),fN (by lia)];simp
 suffices H:∀b:aK,b[w]?=aA (MO.obj 47 [(9,bL x y z),(14,.int ah),(15,.int sd),(23,.mut μ.length)])->Ch [w] μ b->b.length=μ.length+2->b[μ.length]?=aA (MO.obj 43 [(9,bL x y z),(10,.mut (μ.length+1))])->b[μ.length+1]?=aA (.lst [])->qd (qh.drop 5) [aA (.mut w),aA (bL x y z),aA (.int ah),aA (.int sd),aA (.mut dc),aE,aE] b (En.fn K Z) from H _ f fc D v t
 clear p f fc D v t;intro b f fc D v t;refine⟨_,_,ze f,by show (4:Nat)<900;decide,_,_,aH (ze f),by show (5:Nat)<900;decide,?_⟩;have i:=aH (y:=MO.obj 47 [(9,bL x y z),(14,.int ah),(15,.int sd),(23,.mut μ.length),(24,.mut b.length),(25,.non)]) (aH (y:=MO.obj 47 [(9,bL x y z),(14,.int ah),(15,.int sd),(23,.mut μ.length),(24,.mut b.length)]) (ze (x:=MO.lst []) f));have fe:Ch [w] b (((b++[MO.lst []]).set w (MO.obj 47 [(9,bL x y z),(14,.int ah),(15,.int sd),(23,.mut μ.length),(24,.mut b.length)])).set w (MO.obj 47 [(9,bL x y z),(14,.int ah),(15,.int sd),(23,.mut μ.length),(24,.mut b.length),(25,.non)])):=((Ch.app.mono (by simp)).trans Ch.set).trans Ch.set;have C:(((b++[MO.lst []]).set w (MO.obj 47 [(9,bL x y z),(14,.int ah),(15,.int sd),(23,.mut μ.length),(24,.mut b.length)])).set w (MO.obj 47 [(9,bL x y z),(14,.int ah),(15,.int sd),(23,.mut μ.length),(24,.mut b.length),(25,.non)])).length=b.length+1:=by simp
 have r:(((b++[MO.lst []]).set w (MO.obj 47 [(9,bL x y z),(14,.int ah),(15,.int sd),(23,.mut μ.length),(24,.mut b.length)])).set w (MO.obj 47 [(9,bL x y z),(14,.int ah),(15,.int sd),(23,.mut μ.length),(24,.mut b.length),(25,.non)]))[b.length]?=aA (.lst []):=by
  rw[cS (by lia),cS (by lia)];exact zj
 suffices H:∀c:aK,c[w]?=aA (MO.obj 47 [(9,bL x y z),(14,.int ah),(15,.int sd),(23,.mut μ.length),(24,.mut b.length),(25,.non)])->Ch [w] b c->c.length=b.length+1->c[b.length]?=aA (.lst [])->qd (qh.drop 7) [aA (.mut w),aA (bL x y z),aA (.int ah),aA (.int sd),aA (.mut dc),aE,aE] c (En.fn K Z) from H _ i fe C r
 clear i fe C r;intro c i fe C r;refine⟨_,_,ze i,by show (6:Nat)<900;decide,?_⟩;have E:=aH (y:=y0 x y z ah sd μ.length b.length c.length .non) (ze (x:=MO.dic []) i);have ff:Ch [w] c ((c++[MO.dic []]).set w (y0 x y z ah sd μ.length b.length c.length .non)):=(Ch.app.mono (by simp)).trans Ch.set;have O:((c++[MO.dic []]).set w (y0 x y z ah sd μ.length b.length c.length .non))[c.length]?=aA (.dic []):=by
  rw[cS (by lia)];exact zj
 have all:Ch [w] μ ((c++[MO.dic []]).set w (y0 x y z ah sd μ.length b.length c.length .non)):=(fc.trans fe).trans ff;have B:∀{j:Nat}{a:MO},μ[j]?=aA a->a≠MO.obj 47 [(9,bL x y z),(14,.int ah),(15,.int sd)]->j∉[w]:=λ{j a} e n=>by simpa using z_ e hw n
 have W:cN ((c++[MO.dic []]).set w (y0 x y z ah sd μ.length b.length c.length .non)) w μ.length (μ.length+1) b.length c.length x y z ah sd .non [] [] []:=
  ⟨E,⟨(fe.trans ff).get v (by simp;lia),(fe.trans ff).get t (by simp;lia),by simp,by simp⟩,ff.get r (by simp;lia),O,by simp,by simp,by simp,by simp,by simp,by lia⟩
 refine Lp (μ0:=μ0) (t1:=t1) (ep:=ep) W (all.get hd (B hd (λe=>by cases e))) L (λk o=>⟨(hk k o).h1,(hk k o).h2,all.get (hk k o).ck (B (hk k o).ck (λe=>by cases e))⟩) nd (all.get G (B G (λe=>by cases e))) N hs (by lia) dd (Ch.geS ch0 all (by simpa using J)) λA ep us T S R Q P=>q A ep us _ _ _ _ T S R (by lia) (by lia) Q P
theorem MI{t1:Nat}(ho:μ[dc]?=aA (.dic (ks.map wC)))(w:ks≠[])(v:ks.length<=1000)(hk:∀k∈ks,gQ μ k)(nd:(ks.map (·.ho)).Nodup)(t:μ[t1]?=aA (.tab 1))(A:0<=ah)(hs:0<=sd)
  (q:∀j ep us cm gr g d,cN j μ.length cm gr g d x y z ah sd .non us [] []->us.map Hr.cd=ks.map Kd.cd->(∀u∈us,u.l=aE/\(u.n=aE/\u.m=aE)/\μ.length<=u.h/\μ.length<=u.s)->μ.length<=gr->μ.length<=g->Ch [dc] μ j->j[dc]?=aA (.frd ep (ks.map wC))->K .non j) :
  vQ [.mut μ.length,bL x y z,.int ah,.int sd,.mut dc] (μ++[.obj 47 []]) K Z:=by
 have dl:=(bQ.mp ho).1;unfold vQ;refine⟨rfl,?_⟩;refine Qb (ze ho) w v (λk a=>⟨(hk k a).h1,(hk k a).h2,ze (hk k a).ck⟩) nd λep=>?_;have b:((μ++[MO.obj 47 []]).set dc (.frd ep (ks.map wC)))[μ.length]?=aA (.obj 47 []):=by rw[cS (by lia)];exact zj
 have o:((μ++[MO.obj 47 []]).set dc (.frd ep (ks.map wC)))[dc]?=aA (.frd ep (ks.map wC)):=aH (ze ho);have ch0:Ch [dc] μ ((μ++[MO.obj 47 []]).set dc (.frd ep (ks.map wC))):=(Ch.app.mono (by simp)).trans Ch.set;refine⟨_,_,b,by show (0:Nat)<900;decide,_,_,aH b,by show (1:Nat)<900;decide,_,_,aH (aH b),by show (2:Nat)<900;decide,?_⟩;have p:∀f:aK,Ch [dc] μ f->∀k∈ks,gQ f k:=λf c k a=>⟨(hk k a).h1,(hk k a).h2,c.get (hk k a).ck (by simpa using z_ (hk k a).ck ho (λe=>by cases e))⟩;have r:=Ch.geS (Ch.geS (Ch.geS ch0 (Ch.set (i:=μ.length) (x:=MO.obj 47 [(9,bL x y z)])) (by simp)) (Ch.set (i:=μ.length) (x:=MO.obj 47 [(9,bL x y z),(14,.int ah)])) (by simp)) (Ch.set (i:=μ.length) (x:=MO.obj 47 [(9,bL x y z),(14,.int ah),(15,.int sd)])) (by simp);refine Ml (μ0:=μ) (t1:=t1) (ep:=ep) (aH (aH (aH b))) (bH _) ?_ v (p _ r) nd (r.get t (by simpa using z_ t ho (λe=>by cases e))) A hs dl r q;rw[cS (by lia),cS (by lia),cS (by lia)];exact o
end
section
variable {μ μ1 μ2:aK}{K:T->aK->Prop}{Z:Xp}{x y z:Int}{ah sd:Int}{w cm gr g d i0:Nat}{now:T}{us:List Hr}{rs:List T}{ps:List Gp}{t n h b:Int}{ho:aG}{hs:T}{i:Nat}{u:Hr}{wd:aG}
theorem Zk{i:Nat}{u:Hr}{a:T}{r:List T}(W:cN μ w cm gr g d x y z ah sd now us rs ps)(hi:us[i]?=aA u)(nd:(us.map (·.ho)).Nodup)(c:XQ now t)(h1:u.ho.length<=aU)(h2:w6 u.ho=aB)(er:a=.tup (.str ho::.int t::.str u.ho::r))
  (b:∀(K:T->aK->Prop) (Z:Xp),K (.bl aB) μ->ku [a] μ K Z) (q:K .non μ):q9 [.mut w,a] μ K Z:=by
 unfold q9;refine⟨rfl,?_⟩;refine b _ _ ?_;subst er;refine⟨_,_,_,W.wo,rfl,?_⟩;rcases c with rfl|⟨s,rfl,e⟩
 ·refine⟨_,pQ,?_⟩;refine w9 h1 ?_;rw[h2];refine⟨_,pQ,_,_,_,W.wo,rfl,_,W.dc,?_⟩;rw[Zs hi nd];exact q
 ·refine⟨_,pX,_,_,_,W.wo,rfl,?_⟩;refine qL (by lia) ?_;refine⟨_,pQ,?_⟩;refine w9 h1 ?_;rw[h2];refine⟨_,pQ,_,_,_,W.wo,rfl,_,W.dc,?_⟩;rw[Zs hi nd];exact q
theorem RT (hw:wd="lease") (W:cN μ w cm gr g d x y z ah sd now us rs ps) (hi:us[i]?=aA u) (nd:(us.map (·.ho)).Nodup) (H:eP x y z u) (D:μ[i0]?=aA (.tab 0)) (E:ps.length<64) (r:0<=h) (p:h<y) (G:1<=n) (C:0<=u.rd t) (F:i4 ps h (u.rd t) n b) (bx:b+n<=x)
  (q:∀j v a,cN j w cm gr g d x y z ah sd now (us.set i v) rs (ps++[(a,⟨u.ho,h,b,b+n,b+n,aD⟩)])->eP x y z v->mS v u->v.l=aA (h,b,b+n)->v.m=u.m->v.n=u.n->Ch [gr,u.h,u.s] μ j->K (.lst []) j) :
  qM [.mut w,l6 wd t u.ho (.int h) n] μ K Z:=by
 have c:=cP hi;unfold qM;refine⟨rfl,_,_,_,W.wo,rfl,_,rfl,_,_,.inl W.dc,Zs hi nd,_,_,_,W.se u c,rfl,_,W.cl u c,_,rfl,?_⟩;refine zB (W.cl u c) ?_;refine⟨_,rfl,?_⟩;refine qL (by rw[hw];decide) ?_;refine⟨_,rfl,?_⟩;refine qL (by rw[hw];decide) ?_;refine⟨_,rfl,?_⟩;refine qL (by rw[hw];decide) ?_;refine⟨_,rfl,?_⟩;refine vX hw ?_;refine⟨_,_,_,W.se u c,rfl,_,W.hs u c,_,_,_,W.wo,rfl,_,W.bk.com,_,rfl,_,rfl,_,rfl,?_⟩;refine IW W.bk D E H.h1 H.h2 r p G C F bx λA a al ch B=>?_;have o:=W.book ch B;have M:0<=b:=by have:=F.ge;lia
 have ok:iY x y (h,b,b+n):=⟨r,p,M,by show b<b+n;lia,bx⟩;refine NJ (a:=(h,b,b+n)) (o.hs u c) (o.se u c) ok λf k e N J I=>?_;exact q f {u with l:=aA (h,b,b+n),kt:=k} a (o.upd hi e rfl rfl rfl rfl rfl rfl J I) ⟨H.h1,H.h2,λO L=>by cases L;exact ok,H.nm⟩ ⟨rfl,rfl,rfl,rfl,rfl⟩ rfl rfl rfl ((ch.mono (by simp)).trans (e.mono (by simp)))
theorem Vg (hw:wd="lease") (W:cN μ w cm gr g d x y z ah sd now us rs ps) (hi:us[i]?=aA u) (nd:(us.map (·.ho)).Nodup) (H:eP x y z u) (A:XQ now t) (r:μ[i0]?=aA (.tab 0)) (B:ps.length<64) (C:0<=h) (p:h<y) (D:1<=n) (o:0<=u.rd t) (F:i4 ps h (u.rd t) n b) (bx:b+n<=x) (I:rs.length<=100000)
  (q:∀j v a,cN j w cm gr g d x y z ah sd (.int t) (us.set i v) rs (ps++[(a,⟨u.ho,h,b,b+n,b+n,aD⟩)])->eP x y z v->mS v u->v.l=aA (h,b,b+n)->v.m=u.m->v.n=u.n->Ch [gr,u.h,u.s,w,g] μ j->K (.lst []) j) :
  zW [.mut w,l6 wd t u.ho (.int h) n] μ K Z:=by
 unfold zW;refine⟨rfl,_,W.wo,?_⟩;refine Zk W hi nd A H.h1 H.h2 rfl (λK Z q=>by subst hw;exact NF q) ?_;refine⟨_,W.wo,?_⟩;refine RT hw W hi nd H r B C p D o F bx λj v a f G k E em en ch=>?_;refine⟨_,rfl,_,_,f.wo,by show (7:Nat)<900;decide,?_⟩;have c:=f.now' (nw:=.int t);refine⟨_,_,_,c.wo,rfl,⟨_,c.gv⟩,by decide,?_⟩;refine vI ?_;refine⟨_,_,c.gv,.inl rfl,by show rs.length+0<=aU;unfold aU;lia,?_⟩;have e:=c.gave (rs':=rs++[]);rw[gC] at e;exact q _ v a (by rw[gC];exact e) G k E em en (((ch.mono (by simp)).trans (Ch.set.mono (by simp))).trans (Ch.set.mono (by simp)))
theorem Mh{c:Nat}{kp bt:T}{r:Int}(s:Hz x y z)(h':μ[c]?=aA (fE (bL x y z) ah sd kp (aA (h,b,b+1)) aE aE bt aD))(e:0<=b)(h1:r<=b)(h2:b<=r+ah)
  (q:K (t8 h (b*z) (b*z+1)) μ):zZ [.mut c,.int r,.int 1] μ K Z:=by
 obtain⟨k,j,i,g,f⟩:=id s;have bz:0<=b*z:=mF e (by lia);unfold zZ;refine⟨rfl,?_⟩;refine wb ?_;rw[decide_eq_true (show (1:Int)<=1 by decide)];refine⟨_,_,_,h',rfl,?_⟩;refine qL (by lia) ?_;refine zi ?_;refine⟨_,h',?_⟩;unfold q5;refine⟨rfl,_,_,_,h',rfl,_,_,_,h',rfl,_,rfl,_,_,_,h',rfl,.inr ⟨by unfold big;lia,by unfold big;lia⟩,_,h',?_⟩;unfold qQ;refine⟨rfl,_,_,_,h',rfl,_,_,_,h',rfl,?_⟩;refine⟨_,_,_,h',rfl,_,rfl,_,_,_,h',rfl,.inr ⟨by unfold big;lia,by unfold big;lia⟩,?_⟩;have d:(if b<r then r else b)=b:=if_neg (by lia);have a:(if (0:Int)<(if b<r then r else b)*z then (if b<r then r else b)*z else 0)=b*z:=by rw[d];split<;>lia
 refine qL (by show ¬(b+1)*z<(if (0:Int)<(if b<r then r else b)*z then (if b<r then r else b)*z else 0)+1;rw[a,m_];lia) ?_;refine⟨_,_,_,h',rfl,⟨by lia,by lia⟩,_,_,_,h',rfl,?_⟩;refine qL (by show ¬0<((if (0:Int)<(if b<r then r else b)*z then (if b<r then r else b)*z else 0)+1-1) / z-(r+ah);rw[a,Int.add_sub_cancel,nu _ (by lia)];lia) ?_;refine⟨_,_,_,h',rfl,_,rfl,rfl,?_⟩;unfold kD;refine⟨rfl,_,_,rfl,by show (0:Nat)<900;decide,_,_,rfl,by show (1:Nat)<900;decide,_,_,rfl,by show (2:Nat)<900;decide,rfl,_,rfl,rfl,?_⟩;show K (t8 h (if (0:Int)<(if b<r then r else b)*z then (if b<r then r else b)*z else 0) ((if (0:Int)<(if b<r then r else b)*z then (if b<r then r else b)*z else 0)+1)) μ;rw[a];exact q
theorem GW(z1:1<=z):mM y z h (b*z)=(b*y+h)*z:=by
 unfold mM;rw[nu _ (by lia),Int.mul_emod_left];simp
theorem IY{i a:Nat}{r:Int}{ck hs kt bt:T}(s:Hz x y z)(xb:x<=1000000000000000)(zb:z<=10000000)(ok:iY x y (h,b,b+1))(ho:μ[i]?=aA (fE (bL x y z) ah sd (gG a) (aA (h,b,b+1)) aE aE bt aD))(e:μ[a]?=aA (qP ck hs kt))(h1:r<=b)(h2:b<=r+ah)
  (q:∀A m' B j C,Ch [i,a] μ A->μ.length<=j->j≠C->A[i]?=aA (fE (bL x y z) ah sd (gG a) (aA (h,b,b+1)) m' (aA ((b*y+h)*z)) (.mut C) aD)->A[a]?=aA (qP ck hs B)->A[j]?=aA (.lst [.int ((b*y+h)*z)])->K (.mut j) A) :
  qE [.mut i,.int r,.int 1] μ K Z:=by
 obtain⟨v,t,p,f,o⟩:=id s;have l:0<=b:=ok.f0;have bx:b+1<=x:=ok.ux;have k:0<=h:=ok.h0;have g:h<y:=ok.h1;have bz:0<=b*z:=mF l (by lia);have m:(b+1)*z<=x*z:=pE bx (by lia);rw[m_] at m;have u:x*z<=1000000000000000*10000000:=Int.mul_le_mul xb zb (by lia) (by lia);have d:a≠i:=λw=>by rw[w,ho] at e;cases e
 unfold qE;refine⟨rfl,_,ho,?_⟩;unfold qY;refine⟨rfl,_,ho,?_⟩;refine yx ho ?_;refine⟨_,ho,?_⟩;refine Mh s ho l h1 h2 ?_;refine⟨_,ho,_,_,_,ho,rfl,_,ho,_,_,_,ho,rfl,⟨by lia,by lia⟩,?_⟩;refine PU ho ?_;refine FK (l':=aA (h,b,b+1)) (m':=aA (GX x sd aE ((b*z+1-1) / z))) ho e λA B ch D c n=>?_;refine⟨_,_,_,c,rfl,?_⟩;refine Zh s (by lia) (by lia) k g ?_;rw[show b*z+1-1=b*z by lia,GW (y:=y) (h:=h) f];refine⟨_,_,c,by show (9:Nat)<900;decide,?_⟩;have E:=(bQ.mp c).1;refine⟨_,_,ze (aH c),by show (9:Nat)<900;decide,_,_,_,aH (ze (aH c)),rfl,?_⟩;refine JF s (by lia) bz (by lia) (by lia) (by lia) k g ?_;rw[show Bq y z h (b*z) (b*z+1-b*z)=[(b*y+h)*z] by
  rw[show b*z+1-b*z=1 by lia];show [mM y z h (b*z+((0:Nat):Int))]=_;rw[show b*z+((0:Nat):Int)=b*z by simp,GW (y:=y) (h:=h) f]]
 refine q _ _ B _ _ ((((ch.trans (Ch.set.mono (by simp))).trans (Ch.app.mono (by simp))).trans (Ch.set.mono (by simp))).trans (Ch.app.mono (by simp))) (by simp;lia) (by simp) (ze (aH (ze (aH c)))) ?_ zj;refine ze ?_;rw[cS (cX d)];refine ze ?_;rw[cS (cX d)];exact n
theorem VA (hw:wd="ask") (N:Wn x y z ah) (W:cN μ w cm gr g d x y z ah sd now us rs ps) (hi:us[i]?=aA u) (nd:(us.map (·.ho)).Nodup) (H:eP x y z u) (O:XQ now t) (hr:rs.length<=100000) (P:0<=h) (D:u.l=aA (h,b,b+1)) (em:u.m=aE) (en:u.n=aE) (r0:0<=u.rd t) (h1:u.rd t<=b) (h2:b<=u.rd t+ah)
  (q:∀A v j,cN A w cm gr g d x y z ah sd (.int t) (us.set i v) (rs++[yU t u.ho ((b*y+h)*z)]) ps->eP x y z v->mS v u->Ch [u.h,u.s,w,g] μ A->K (.mut j) A) :
  zW [.mut w,t_ wd t u.ho 1] μ K Z:=by
 obtain⟨x1,y1,Y,X,V⟩:=id N.s;have ok:=H.ok _ D;have S:0<=b:=ok.f0;have bx:b+1<=x:=ok.ux;have M:h<y:=ok.h1;have a:=cP hi;have B:=W.hs u a;unfold Hr.house at B;rw[D,em,en] at B;unfold zW;refine⟨rfl,_,W.wo,?_⟩;refine Zk W hi nd O H.h1 H.h2 rfl (λK Z q=>by subst hw;exact PR q) ?_;refine⟨_,W.wo,?_⟩;unfold qM;refine⟨rfl,_,_,_,W.wo,rfl,_,rfl,_,_,.inl W.dc,Zs hi nd,_,_,_,W.se u a,rfl,_,W.cl u a,_,rfl,?_⟩;refine zB (W.cl u a) ?_;refine⟨_,rfl,?_⟩;refine vX hw ?_;refine⟨_,_,_,W.se u a,rfl,_,W.hs u a,_,rfl,?_⟩;refine IY N.s N.xb N.zb ok B (W.se u a) h1 h2 λA I o j U ch hj ne R Q E=>?_;have C:=W.upd (v:={u with l:=aA (h,b,b+1),m:=I,n:=aA ((b*y+h)*z),bt:=.mut U,kt:=o}) hi ch rfl rfl rfl rfl rfl rfl R Q;refine⟨_,rfl,_,_,C.wo,by show (7:Nat)<900;decide,?_⟩;have k:=C.now' (nw:=.int t);have L:j≠w:=z_ E C.wo (λe=>by cases e);have c:(A.set w (y0 x y z ah sd cm g d (.int t)))[j]?=aA (.lst ([(b*y+h)*z].map T.int)):=by rw[cS (cX L)];exact E
 refine⟨_,_,_,k.wo,rfl,⟨_,k.gv⟩,_,c,by show 1<=aU;decide,?_⟩;refine wI T.int (λnm=>aA (yU t u.ho nm)) (λp hp kk r=>?_) ?_ c
 ·refine⟨_,rfl,_,rfl,_,rfl,?_⟩;exact r
 ·refine⟨_,_,k.gv,.inl rfl,by show rs.length+1<=aU;unfold aU;lia,?_⟩;refine q _ _ j k.gave ⟨H.h1,H.h2,λa' f=>by cases f;exact ok,λJ f=>?_⟩ ⟨rfl,rfl,rfl,rfl,rfl⟩ (((ch.mono (by simp)).trans (Ch.set.mono (by simp))).trans (Ch.set.mono (by simp)));have f:aA ((b*y+h)*z)=aA J:=f;cases f;obtain⟨G,F,_⟩:=K2 (z:=z) S (by lia:b<x) P M (dB 0) (by lia:0<z);rw[sq] at G F;exact⟨G,F⟩
end
section
variable {μ μ1 μ2:aK}{K:T->aK->Prop}{Z:Xp}{x y z:Int}{ah sd:Int}{w cm gr g d i0:Nat}{now:T}{us:List Hr}{rs:List T}{ps:List Gp}{t n h b e:Int}{ho:aG}{i:Nat}{u:Hr}{wd:aG}
noncomputable abbrev Ac:List Ds:=[(zp 9 (jP (eV 9) (jP (gL Ya (bC (eV 10) (eC (.int 0))) (wq [(eC (.str "lease")),(eC (.str "ask"))])) (iC (eV 6) [(.LtE,(bC (eV 10) (eC (.int 1)))),(.LtE,(eV 7))])))),(nQ [(zN (zF 47 zW (eV 8) [(eV 10)]))] [([10],aE,[(zp 9 (eC (.bl aD)))])])]
theorem EN{a:T}{r:List T}:vq (a::r) 0=aA a:=rq (j:=0) rfl
theorem uK {a:Int}{d:List T}{s0 s1 s2 h g f c:Option T}{E:En}{N:Sl->aK->Prop}{fs:List (Nat×T)}{P:aK->Prop}(hw:wd="lease"\/wd="ask") (h1:b<=a) (h2:a<=e) (ho:μ[w]?=aA (.obj 47 fs))
  (i:∀{k:T->aK->Prop}{l:Xp},(∀v j,P j->k v j)->zW [.mut w,.tup (.str wd::.int a::d)] μ k l)
  (q:∀j,P j->N [s0,s1,s2,h,g,f,aA (.int b),aA (.int e),aA (.mut w),aA (.bl aB),aA (.tup (.str wd::.int a::d)),c] j) :
  qd Ac [s0,s1,s2,h,g,f,aA (.int b),aA (.int e),aA (.mut w),aA (.bl aB),aA (.tup (.str wd::.int a::d)),c] μ (E.turn N):=by
 have m:vq (.str wd::.int a::d) 1=aA (.int a):=pX;rcases hw with rfl|rfl
 ·refine⟨_,EN,_,rfl,_,pX,?_⟩;refine vX h1 ?_;refine⟨_,ho,?_⟩;refine i λv j p=>?_;have q:=q j p;rw[←decide_eq_true h2] at q;exact q
 ·refine⟨_,EN,_,rfl,_,pX,?_⟩;refine vX h1 ?_;refine⟨_,ho,?_⟩;refine i λv j p=>?_;have q:=q j p;rw[←decide_eq_true h2] at q;exact q
theorem Nh(W:cN μ w cm gr g d x y z ah sd now us rs ps)(q:K (.lst rs) μ):wB [.mut w] μ K Z:=by
 unfold wB;refine⟨rfl,_,_,_,W.wo,rfl,?_⟩;exact⟨_,W.gv,q⟩
noncomputable abbrev R4(t u:Int):List T:=[l6 "lease" t "one" (.int 0) 1,t_ "ask" t "one" 1,l6 "lease" u "two" (.int 1) 1,t_ "ask" u "two" 1]
theorem X3{ps:List Gp}{h m n:Int}(no:∀p∈ps,p.2.h≠h):i4 ps h m n m:=⟨dB _,λp a e=>absurd e (no p a),λd c b=>by lia⟩
structure G_(x y z:Int)(u1 u2:Hr)(s1 s2:Int)(o1 o2:List Tn):Prop where
 n1:u1.ho="one"
 n2:u2.ho="two"
 k1:u1.st=s1/\u1.ts=o1
 k2:u2.st=s2/\u2.ts=o2
 ok1:eP x y z u1
 ok2:eP x y z u2
 m1:u1.m=aE/\u1.n=aE
 m2:u2.m=aE/\u2.n=aE
theorem Gz{f k:Hr}{s1 s2 B t u:Int}{o1 o2:List Tn}{r0 r1 r2 r3 r4 r5 r10 r11:Option T}{E:En}(N:Wn x y z ah)(W:cN μ w cm gr g d x y z ah sd now [f,k] [] ps)(U:G_ x y z f k s1 s2 o1 o2)(hn:XQ now t)(ht:μ[i0]?=aA (.tab 0))(it:i0<w)(jt:i0<gr/\i0<g/\i0<f.h/\i0<f.s/\i0<k.h/\i0<k.s)(hl:ps.length<60)(h0:∀p∈ps,p.2.h=0)(y2:2<=y)(F:i4 ps 0 (z0 s1 o1 t) 1 B)(B0:0<=z0 s1 o1 t)(B1:B=z0 s1 o1 t+ah)(B2:B+1<=x)(L0:0<=z0 s2 o2 u)(L1:z0 s2 o2 u+1<=x)(tu:t<=u)(bt:b<=t)(ue:u<=e)
  (q:∀A D now' C r10',cN A w cm gr g d x y z ah sd now' D [yU t "one" ((B*y+0)*z),yU u "two" ((z0 s2 o2 u*y+1)*z)] C->E.nx [r0,r1,r2,r3,r4,r5,aA (.int b),aA (.int e),aA (.mut w),aA (.bl aB),r10',r11] A) :
  dH (.one 10) (qd Ac) gb (R4 t u) [r0,r1,r2,r3,r4,r5,aA (.int b),aA (.int e),aA (.mut w),aA (.bl aB),r10,r11] μ E:=by
 obtain⟨n1,n2,⟨k1,k1'⟩,⟨k2,k2'⟩,ok1,ok2,⟨m1,m1'⟩,⟨m2,m2'⟩⟩:=U;obtain⟨j1,j2,j3,j4,j5,j6⟩:=jt;have Y:f.rd t=z0 s1 o1 t:=by unfold Hr.rd;rw[k1,k1']
 have a0:=N.a0;have nd:∀{v1 c:Hr},v1.ho=f.ho->c.ho=k.ho->([v1,c].map (·.ho)).Nodup:=λ{v1 c} e1 e2=>by
  show [v1.ho,c.ho].Nodup;rw[e1,e2,n1,n2];decide
 refine kJ rfl ⟨_,rfl,?_⟩;refine uK (P:=λA=>∃v a,cN A w cm gr g d x y z ah sd (.int t) [v,k] [] (ps++[(a,⟨f.ho,0,B,B+1,B+1,aD⟩)])/\eP x y z v/\mS v f/\v.l=aA (0,B,B+1)/\v.m=f.m/\v.n=f.n/\A[i0]?=aA (.tab 0)) (.inl rfl) bt (by lia) W.wo (λ{V S} R=>?_) λμ1 ⟨v,a,W1,H1,L,vl,vm,vn,ht1⟩=>⟨trivial,?_⟩
 ·have:=Vg (i:=0) (K:=V) (Z:=S) rfl W rfl (nd rfl rfl) ok1 hn ht (by lia) (dB 0) (by lia) (dB 1) (by rw[Y];exact B0) (by rw[Y];exact F) B2 (by simp) λA v a H H' L vl vm vn ch=>R _ _ ⟨v,a,H,H',L,vl,vm,vn,ch.get ht (by simp;lia)⟩;rw[n1] at this;exact this
 have M:v.ho="one":=L.ho.trans n1;have Q:v.rd t=z0 s1 o1 t:=by unfold Hr.rd;rw[L.st,L.ts,k1,k1']
 refine kJ rfl ⟨_,rfl,?_⟩;refine uK (P:=λA=>∃O,cN A w cm gr g d x y z ah sd (.int t) [O,k] [yU t "one" ((B*y+0)*z)] (ps++[(a,⟨f.ho,0,B,B+1,B+1,aD⟩)])/\O.ho="one"/\A[i0]?=aA (.tab 0)) (.inr rfl) bt (by lia) W1.wo (λ{V S} R=>?_) λμ2 ⟨O,W2,J,ht2⟩=>⟨trivial,?_⟩
 ·have:=VA (i:=0) (K:=V) (Z:=S) rfl N W1 rfl (nd L.ho rfl) H1 (.inr ⟨t,rfl,dB _⟩) (by simp) (dB 0) vl (vm.trans m1) (vn.trans m1') (by rw[Q];exact B0) (by rw[Q];lia) (by rw[Q];lia) λA O j H H' G ch=>R _ _ ⟨O,by rw[M] at H;exact H,G.ho.trans M,ch.get ht1 (by have:=L.h;have:=L.s;simp;lia)⟩;rw[M] at this;exact this
 have X:k.rd u=z0 s2 o2 u:=by unfold Hr.rd;rw[k2,k2']
 have no1:∀p∈ps++[(a,(⟨f.ho,0,B,B+1,B+1,aD⟩:Gr))],p.2.h≠1:=λp hp=>by
  rcases cA.mp hp with hp|hp
  ·rw[h0 p hp];decide
  ·rw[bV.mp hp];exact (by decide:(0:Int)≠1)
 refine kJ rfl ⟨_,rfl,?_⟩;refine uK (P:=λA=>∃c C,cN A w cm gr g d x y z ah sd (.int u) [O,c] [yU t "one" ((B*y+0)*z)] C/\eP x y z c/\mS c k/\c.l=aA (1,z0 s2 o2 u,z0 s2 o2 u+1)/\c.m=k.m/\c.n=k.n) (.inl rfl) (by lia) ue W2.wo (λ{V S} R=>?_) λμ3 ⟨c,C,W3,H3,r,vl3,vm3,vn3⟩=>⟨trivial,?_⟩
 ·have:=Vg (i:=1) (h:=1) (b:=z0 s2 o2 u) (n:=1) (K:=V) (Z:=S) rfl W2 rfl (nd (J.trans n1.symm) rfl) ok2 (.inr ⟨t,rfl,tu⟩) ht2 (by rw[gE];simp;lia) (by decide) (by lia) (dB 1) (by rw[X];exact L0) (by rw[X];exact X3 no1) L1 (by simp) λA c a' H H' G vl' vm' vn' ch=>R _ _ ⟨c,_,H,H',G,vl',vm',vn'⟩;rw[n2] at this;exact this
 have I:c.ho="two":=r.ho.trans n2;have o:c.rd u=z0 s2 o2 u:=by unfold Hr.rd;rw[r.st,r.ts,k2,k2']
 refine kJ rfl ⟨_,rfl,?_⟩;refine uK (P:=λA=>∃D now',cN A w cm gr g d x y z ah sd now' D [yU t "one" ((B*y+0)*z),yU u "two" ((z0 s2 o2 u*y+1)*z)] C) (.inr rfl) (by lia) ue W3.wo (λ{V S} R=>?_) λμ4 ⟨D,now',W4⟩=>⟨trivial,UI rfl (q _ _ _ _ _ W4)⟩;have:=VA (i:=1) (h:=1) (K:=V) (Z:=S) rfl N W3 rfl (nd (J.trans n1.symm) r.ho) H3 (.inr ⟨u,rfl,dB _⟩) (by simp) (by decide) vl3 (vm3.trans m2) (vn3.trans m2') (by rw[o];exact L0) (by rw[o];exact dB _) (by rw[o];lia) λA O j H H' G ch=>R _ _ ⟨_,_,by rw[I] at H;exact H⟩;rw[I] at this;exact this
end
section
variable {μ μ1 μ2:aK}{K:T->aK->Prop}{Z:Xp}{x y z:Int}
theorem N5{t u n1 n2:Int}(sz:Hz x y z)(b1:0<=n1/\n1<x*y*z)(l:0<=n2/\n2<x*y*z)(q:∀d,K (.tup [.int (n1 / z / y-n2 / z / y),.int 0,.int 1]) d) :
  uh [bL x y z,.lst [.tup [.int t,.str "one",.int n1],.tup [.int u,.str "two",.int n2]]] μ K Z:=by
 unfold uh;refine⟨rfl,⟨by show _<=(2:Int);decide,by show (2:Int)<_;decide⟩,?_⟩;refine kJ (xs:=rangeT 2) (x:=.int 0) (r:=[.int 1]) rfl ⟨_,rfl,?_⟩;refine⟨_,rfl,_,rfl,_,rfl,_,rfl,?_⟩;refine yw sz b1.1 b1.2 ?_;refine⟨_,rfl,by decide,?_⟩;refine vI ?_;refine Zc (H:=[]) (n:=(n1 / z / y,0,"one")) (by decide) (by simp) λc k=>?_;have i:c[μ.length]?=aA (.lst []):=k.get zj (by simp);refine⟨trivial,?_⟩;refine kJ rfl ⟨_,rfl,?_⟩;refine⟨_,rfl,_,rfl,_,rfl,_,rfl,?_⟩;refine yw sz l.1 l.2 ?_;refine⟨_,rfl,by show (1:Nat)<=aU;decide,?_⟩;refine wW ⟨_,rfl,_,rfl,?_⟩;refine⟨trivial,?_⟩;refine vI ?_;refine⟨⟨_,i⟩,_,rfl,_,rfl,_,rfl,_,rfl,_,i,by show (0:Nat)<aU;decide,?_⟩;refine Zc (H:=[(n1 / z / y,0,"one")]) (n:=(n2 / z / y,1,"two")) (by show (1:Nat)<=2;decide) (HF (λb m=>by rw[bV.mp m];exact λh=>absurd h.2 (show ¬(0:Int)=1 by decide)) (DN _ _)) λa j=>?_;refine⟨trivial,UI rfl ?_⟩;have g:a[μ.length]?=aA (.lst [.tup [.int (n1 / z / y-n2 / z / y),.int 0,.int 1]]):=j.get (aH i) (by simp);refine⟨_,g,[[n1 / z / y-n2 / z / y,0,1]],rfl,(λe=>by cases e),λo f _=>?_⟩;rw[bV.mp f];exact q _
end
section
variable {μ μ1 μ2:aK}{K:T->aK->Prop}{Z:Xp}{x y z:Int}{ah sd:Int}{w cm gr g d:Nat}{now:T}{us:List Hr}{ps:List Gp}{t n k h b e u:Int}{s1 s2:Int}{o1 o2:List Tn}
theorem LO (N:Wn x y z ah) (W:cN μ w cm gr g d x y z ah sd now us [yU t "one" (((z0 s1 o1 t+ah)*y+0)*z),yU u "two" ((z0 s2 o2 u*y+1)*z)] ps) (y2:2<=y) (Q:0<=z0 s1 o1 t) (B2:z0 s1 o1 t+ah+1<=x) (l:0<=z0 s2 o2 u) (k:z0 s2 o2 u+1<=x) (q:∀j,K (.bl aB) j) :
  qd (vc.drop 3) [J,aA (bL x y z),I,G,E,aA (.int (z0 s1 o1 t-z0 s2 o2 u+ah)),D,C,aA (.mut w),aA (.bl aB),B,A] μ (En.fn K Z):=by
 obtain⟨r,p,o,n,m⟩:=id N.s;have P:=N.a0;generalize z0 s1 o1 t=H at *;generalize z0 s2 o2 u=L at *;have f:((H+ah)*y+0)*z / z / y=H+ah:=by
  rw[nu _ (by lia),sq,nu _ (by lia)]
 have e:(L*y+1)*z / z / y=L:=by
  rw[nu _ (by lia),ss,Int.add_mul_ediv_right _ _ (by lia),Int.ediv_eq_zero_of_lt (by decide) (by lia)];lia
 refine⟨_,W.wo,?_⟩;refine Nh W ?_;have bd:∀{v h:Int},0<=v->v+1<=x->0<=h->h<y->0<=(v*y+h)*z/\(v*y+h)*z<x*y*z:=λ{v h} c b M F=>by
  have O:0<=v*y:=mF c (by lia);have i:v*y+h<x*y:=by
   have:(v+1)*y<=x*y:=pE b (by lia);rw[m_] at this;lia
  exact⟨mF (by lia) (by lia),Int.mul_lt_mul_of_pos_right i (by lia)⟩
 refine N5 N.s (bd (by lia) B2 (dB 0) (by lia)) (bd l k (by decide) (by lia)) λa=>?_;have ef:((H+ah)*y+0)*z / z / y-(L*y+1)*z / z / y=H-L+ah:=by rw[f,e];lia
 have:=q a;rw[←decide_eq_true ef] at this;exact⟨_,rfl,this⟩
theorem NY{us:List Hr}{a b:Cd}(h:us.map Hr.cd=[a,b]):∃s j,us=[s,j]/\s.cd=a/\j.cd=b:=by
 cases us with
 |nil=>cases h
 |cons u r=>
  cases r with
  |nil=>simp at h
  |cons v r=>
   cases r with
   |nil=>
    rw[dC,dC] at h;injection h with d c;injection c with c _;exact⟨u,v,rfl,d,c⟩
   |cons _ _=>simp at h
theorem OC {c1 c2 dc:Nat}{rows:List T}(N:Wn x y z ah) (y2:2<=y) (hd:μ[dc]?=aA (.dic [(.inr "one",.mut c1),(.inr "two",.mut c2)])) (g1:μ[c1]?=aA (eH s1 o1)) (g2:μ[c2]?=aA (eH s2 o2)) (A:μ[0]?=aA (.tab 0)) (R:μ[1]?=aA (.tab 1)) (O:0<=sd) (G:0<=z0 s1 o1 t) (B2:z0 s1 o1 t+ah+1<=x) (L0:0<=z0 s2 o2 u) (L1:z0 s2 o2 u+1<=x) (tu:t<=u) (bt:b<=t) (ue:u<=e)
  (er:rows=if ah=0 then R4 t u else l6 "lease" t "one" (.int 0) ah::R4 t u) (q:∀j,K (.bl aB) j) :
  jO [.lst rows,bL x y z,.int ah,.int sd,.mut dc,.int (z0 s1 o1 t-z0 s2 o2 u+ah),.int b,.int e] μ K Z:=by
 have a0:=N.a0;have V:w6 ("one":aG)=aB:=by decide +kernel
 have S:w6 ("two":aG)=aB:=by decide +kernel
 have r1:("one":aG).length<=aU:=by decide +kernel
 have r2:("two":aG).length<=aU:=by decide +kernel
 unfold jO;refine⟨rfl,?_⟩;refine MI (t1:=1) (ks:=[⟨"one",c1,s1,o1⟩,⟨"two",c2,s2,o2⟩]) hd (by simp) (by show (2:Nat)<=1000;decide) (λk hk=>?_) (by show (["one","two"]:List aG).Nodup;decide) R a0 O λD ep us cm gr g d W cd nw hgr hg ch hdc=>?_
 ·simp only[cO,h_,or_false] at hk;rcases hk with rfl|rfl
  ·exact⟨r1,V,g1⟩
  ·exact⟨r2,S,g2⟩
 refine⟨rfl,?_⟩;have l0:0<μ.length:=(bQ.mp A).1;have M:D[0]?=aA (.tab 0):=ch.get A (by simpa using z_ A hd (λe=>by cases e));have ex:∃c r,us=[c,r]/\c.cd=(("one":aG),s1,o1)/\r.cd=(("two":aG),s2,o2):=by
  exact NY cd
 obtain⟨c,r,rfl,e1,e2⟩:=ex;obtain⟨l1,⟨Q,m1⟩,b1,b1'⟩:=nw c (by simp);obtain⟨l2,⟨n2,m2⟩,b2,b2'⟩:=nw r (by simp);have U:G_ x y z c r s1 s2 o1 o2:=by
  have Y:c.ho="one":=congrArg (·.1) e1;have X:r.ho="two":=congrArg (·.1) e2;exact⟨Y,X,⟨congrArg (·.2.1) e1,congrArg (·.2.2) e1⟩,⟨congrArg (·.2.1) e2,congrArg (·.2.2) e2⟩,⟨Y▸r1,Y▸V,(by rw[l1];exact λa e=>by cases e),(by rw[Q];exact λa e=>by cases e)⟩,⟨X▸r2,X▸S,(by rw[l2];exact λa e=>by cases e),(by rw[n2];exact λa e=>by cases e)⟩,⟨m1,Q⟩,⟨m2,n2⟩⟩
 have fin:∀j f now' o (l:Option T),cN j μ.length cm gr g d x y z ah sd now' f [yU t "one" (((z0 s1 o1 t+ah)*y+0)*z),yU u "two" ((z0 s2 o2 u*y+1)*z)] o->qd (vc.drop 3) [aA (.lst rows),aA (bL x y z),aA (.int ah),aA (.int sd),aA (.mut dc),aA (.int (z0 s1 o1 t-z0 s2 o2 u+ah)),aA (.int b),aA (.int e),aA (.mut μ.length),aA (.bl aB),l,aE] j (En.fn K Z):=λj f now' o l C=>LO N C y2 G B2 L0 L1 q;show dH (.one 10) (qd Ac) gb rows _ D _;by_cases H:ah=0
 ·rw[if_pos H] at er;subst er;refine Gz (B:=z0 s1 o1 t+ah) N W U (.inl rfl) M l0 ⟨by omega,by omega,by omega,by omega,by omega,by omega⟩ (by simp) (by simp) y2 (by rw[H,sq];exact X3 (by simp)) G rfl (by omega) L0 L1 tu bt ue λj f now' o l C=>?_;exact fin _ _ _ _ _ C
 ·rw[if_neg H] at er;subst er;have E:c.rd t=z0 s1 o1 t:=by unfold Hr.rd;rw[U.k1.1,U.k1.2]
  refine kJ rfl ⟨_,rfl,?_⟩;refine uK (P:=λj=>∃v a,cN j μ.length cm gr g d x y z ah sd (.int t) [v,r] [] [(a,⟨c.ho,0,z0 s1 o1 t,z0 s1 o1 t+ah,z0 s1 o1 t+ah,aD⟩)]/\eP x y z v/\mS v c/\v.m=c.m/\v.n=c.n/\j[0]?=aA (.tab 0)) (.inl rfl) bt (by omega) W.wo (λ{K' Z'} hq=>?_) λμ2 ⟨v,a,W1,H1,w,J,I,L⟩=>⟨trivial,?_⟩
  ·have:=Vg (i:=0) (K:=K') (Z:=Z') (h:=0) (n:=ah) (b:=z0 s1 o1 t) rfl W rfl (by show [c.ho,r.ho].Nodup;rw[U.n1,U.n2];decide) U.ok1 (.inl rfl) M (by simp) (dB 0) (by omega) (by omega) (by rw[E];exact G) (by rw[E];exact X3 (by simp)) (by omega) (by simp) λj v a C H' w vl J I ch=>hq _ _ ⟨v,a,C,H',w,J,I,ch.get M (by simp;omega)⟩;rw[U.n1] at this;exact this
  ·have:=w.h;have:=w.s;refine Gz (B:=z0 s1 o1 t+ah) N W1 ⟨w.ho.trans U.n1,U.n2,⟨w.st.trans U.k1.1,w.ts.trans U.k1.2⟩,U.k2,H1,U.ok2,⟨J.trans m1,I.trans Q⟩,U.m2⟩ (.inr ⟨t,rfl,dB _⟩) L l0 ⟨by omega,by omega,by omega,by omega,by omega,by omega⟩ (by simp) (by simp) y2 ?_ G rfl (by omega) L0 L1 tu bt ue λj f now' o l C=>?_
   ·refine⟨by omega,λp hp _=>?_,λF V S=>⟨_,bV.mpr rfl,rfl,uN.mpr ?_⟩⟩
    ·rw[bV.mp hp];exact Bc (by show ¬(_/\_/\z0 s1 o1 t+ah<z0 s1 o1 t+ah/\_);omega)
    ·show z0 s1 o1 t<z0 s1 o1 t+ah/\z0 s1 o1 t<F+1/\F<z0 s1 o1 t+ah/\F<F+1;omega
   ·exact fin _ _ _ _ _ C
end
section
variable {μ μ1 μ2:aK}{K:T->aK->Prop}{Z:Xp}{st:Int}{ts:List Tn}{i j:Nat}
theorem LK(h0:0<=v)(h1:v<3)(d:-40<=a)(c:-40<=b):∃w:Int,vq [T.int 0,.int a,.int b] v=aA (.int w) /\ -40<=w:=by
 have:v=0\/v=1\/v=2:=by lia
 rcases this with rfl|rfl|rfl
 ·exact⟨0,rfl,by lia⟩
 ·exact⟨a,rfl,d⟩
 ·exact⟨b,rfl,c⟩
theorem Mg(h0:0<=v)(h1:v<2)(b:-40<=a):∃w:Int,vq [T.int 0,.int a] v=aA (.int w) /\ -40<=w:=by
 have:v=0\/v=1:=by lia
 rcases this with rfl|rfl
 ·exact⟨0,rfl,by lia⟩
 ·exact⟨a,rfl,b⟩
structure Dn(st:Int)(ts:List Tn):Prop where
 r:nN ts
 l:ts.length<=3
 s0:-1000<=st
 t0:∀p∈ts,-1000<=p.2.1
theorem Xj(hs:St μ i)(g:-500<=bg)(q:∀st ts s,Dn st ts->Cl μ i s ts->K (.tup [.int st,.mut μ.length]) s):qt [.mut i,.int bg] μ K Z:=by
 have hi:i<μ.length:=by
  obtain⟨a,b,c,h⟩:=hs;exact (bQ.mp h).1
 have M:Cl μ i (μ++[.lst []]) []:=by
  obtain⟨a,b,c,h⟩:=hs;refine⟨hi,by simp,λj h1 h2=>?_,⟨a,b,c,ze h⟩,zj⟩;rw[dP (by lia)]
 unfold qt;refine⟨rfl,?_⟩;refine zq M.st (by decide) (by decide) λv1 T a1 b1 J=>?_;refine zq J.st (by decide) (by decide) λv2 S a2 b2 X=>?_;refine⟨⟨by lia,by lia⟩,?_⟩;have c2:=(M.up J).up X;refine qr (λn o s=>∃ts d A z,o=[aA (.mut i),aA (.int bg),aA (.mut μ.length),aA (.int d),A,z] /\ -505<=d/\nN ts/\(∀p∈ts,p.1<d /\ -1000<=p.2.1)/\ts.length=n/\Cl μ i s ts) ⟨[],_,_,_,rfl,by lia,.nil,by simp,rfl,c2⟩ ?_ ?_
 ·rintro n x o t Y ⟨ts,d,A,z,rfl,h5,B,g,D,k⟩ N hN;obtain⟨rfl,hnm⟩:=KD Y;refine⟨_,rfl,?_⟩;refine zq k.st (by decide) (by decide) λu r a6 b6 f=>?_;refine zq f.st (by decide) (by decide) λI e P O m=>?_;refine zq m.st (by decide) (by decide) λv8 R a8 b8 W=>?_;obtain⟨w,ew,U⟩:=LK (a:=u) (b:=0-I) a8 b8 (by lia) (by lia);refine⟨_,ew,?_⟩;have F:=((k.up f).up m).up W;refine⟨⟨_,F.ls⟩,?_⟩;refine zq F.st (by decide) (by decide) λH Q a9 b9 V=>?_;have L:=F.up V;refine⟨_,L.ls,by rw[bP];unfold aU;lia,?_⟩;have l:=L.app (p:=(d,d+w,decide (0<H)));refine zq l.st (by decide) (by decide) λv G a11 b11 y=>?_;refine hN _ _ ⟨ts++[(d,d+w,decide (0<H))],d+1+v,_,_,rfl,by lia,?_,?_,by simp[D],l.up y⟩
  ·unfold nN;rw[List.pairwise_append];exact⟨B,DN _ _,λa ha b E=>by rw[bV.mp E];exact (g a ha).1⟩
  ·intro p C;rcases cA.mp C with h|h
   ·have:=g p h;lia
   ·rw[bV.mp h];exact⟨by show d<_;lia,by show _<=d+w;lia⟩
 ·rintro o t ⟨ts,d,A,z,rfl,h5,B,g,D,k⟩;rw[X2] at D;refine zq k.st (by decide) (by decide) λu r a6 b6 f=>?_;refine zq f.st (by decide) (by decide) λI e P O m=>?_;obtain⟨w,ew,U⟩:=Mg (a:=u-4) P O (by lia);refine⟨_,ew,?_⟩;exact q w ts e ⟨B,by lia,by lia,λp C=>(g p C).2⟩ ((k.up f).up m)
theorem Uj{p:Tn}{t:Int}:z0 st (ts++[p]) t=if p.1<=t then p.2.1+(if p.2.2 then t-p.1 else 0) else z0 st ts t:=by
 unfold z0;rw[List.reverse_append];show (match (p::ts.reverse).find? _ with|some p=>_|none=>_)=_;rw[nz];by_cases h:p.1<=t
 ·rw[decide_eq_true h,if_pos h]
 ·rw[decide_eq_false h,if_neg h]<;>rfl
theorem jG(h:μ[j]?=aA (.lst (ts.map zI)))(q:K (.int (z0 st ts t)) μ):qX [.tup [.int st,.mut j],.int t] μ K Z:=by
 unfold qX;refine⟨rfl,_,rfl,_,h,?_⟩;refine qr (λn i d=>d=μ/\∃m l k,i=[aA (.tup [.int st,.mut j]),aA (.int t),aA (.int st),aA (.mut j),aA (.int (z0 st (ts.take n) t)),m,l,k]) ⟨rfl,_,_,_,rfl⟩ ?_ ?_ ?_
 ·rintro n u i d g ⟨rfl,m,l,k,rfl⟩ N r;rw[c9] at g;cases o:ts[n]? with
  |none=>rw[o] at g;cases g
  |some p=>
   rw[o] at g;cases g;refine⟨_,rfl,?_⟩;have e:z0 st (ts.take (n+1)) t=if p.1<=t then p.2.1+(if p.2.2 then t-p.1 else 0) else z0 st (ts.take n) t:=by
    rw[gD,o];exact Uj
   refine zO (λf=>?_) (λf=>?_)
   ·rw[if_pos f] at e;obtain⟨a,b,c⟩:=p;cases c with
    |true=>
     have e:z0 st (ts.take (n+1)) t=b+(t-a)*1:=by rw[e,Int.mul_one];rfl
     refine⟨.inr ⟨(by show -big<(1:Int);decide),(by show (1:Int)<big;decide)⟩,?_⟩;refine r _ _ ?_;rw[e];exact⟨rfl,_,_,_,rfl⟩
    |false=>
     have e:z0 st (ts.take (n+1)) t=b+(t-a)*0:=by rw[e,Int.mul_zero];rfl
     refine⟨.inr ⟨(by show -big<(0:Int);decide),(by show (0:Int)<big;decide)⟩,?_⟩;refine r _ _ ?_;rw[e];exact⟨rfl,_,_,_,rfl⟩
   ·rw[if_neg f] at e;refine r _ _ ?_;rw[e];exact⟨rfl,_,_,_,rfl⟩
 ·rintro i d ⟨rfl,m,l,k,rfl⟩;rw[bP,iT (bH _)];exact q
 ·rintro n i d ⟨rfl,m,l,k,rfl⟩;exact h
end
section
variable {μ μ2:aK}{K:T->aK->Prop}{Z:Xp}{b s1 s2:Int}{o1 o2:List Tn}
theorem XZ{l:List Int}{n:Nat}{t f:Int}(st:l.Pairwise (·<·))(b:l[n]?=aA f)(a:t∈l.take n):t<f:=by
 refine st.rel_of_mem_take_of_mem_drop a ?_;have:(l.drop n)[0]?=aA f:=by rw[List.getElem?_drop];exact b
 exact cP this
theorem take_snoc{l:List Int}{n:Nat}{f:Int}(a:l[n]?=aA f):l.take (n+1)=l.take n++[f]:=by
 rw[gD,a];rfl
abbrev QA(l:List Int)(n:Nat)(t u:Int):Prop:=t∈l.take n/\u∈l/\t<=u
abbrev QB(l:List Int)(n:Nat)(f:Int)(m:Nat)(t u:Int):Prop:=QA l n t u\/(t=f/\u∈(l.filter λv=>decide (f<=v)).take m)
theorem Mw{i j:Nat}{l:List Int}{r6 Y X O M:Option T}(h1:μ[i]?=aA (.lst (o1.map zI)))(h2:μ[j]?=aA (.lst (o2.map zI)))(st:l.Pairwise (·<·))(ne:l≠[])(ln:l.length<=100)
  (q:∀t u,Bs s1 s2 o1 o2 l t u->K (.tup [.int (z0 s1 o1 t-z0 s2 o2 u),.int t,.int u]) μ) :
  qd (jv.drop 2) [aA (.tup [.int s1,.mut i]),aA (.tup [.int s2,.mut j]),O,M,aA .non,aA (.lst (l.map T.int)),r6,Y,X] μ (En.fn K Z):=by
 refine qr (λn A e=>e=μ/\∃fo Q D C,A=[aA (.tup [.int s1,.mut i]),aA (.tup [.int s2,.mut j]),O,M,aA (Fm s1 s2 o1 o2 fo),aA (.lst (l.map T.int)),Q,D,C]/\BS s1 s2 o1 o2 (QA l n) fo) ⟨rfl,aE,_,_,_,rfl,λt u h=>absurd h.1 (by simp)⟩ ?_ ?_
 ·rintro n x A e g ⟨rfl,fo,Q,D,C,rfl,d⟩ N V;rw[c9] at g;cases H:l[n]? with
  |none=>rw[H] at g;cases g
  |some f=>
   rw[H] at g;cases g;have fl:f∈l:=cP H;refine⟨_,rfl,by rw[bP];unfold aU;lia,?_⟩;refine vL (λt=>match t with|.int v=>if f<=v then aA (.int v) else aE|_=>aE) (λt ht k y=>?_) ?_
   ·obtain⟨v,_,rfl⟩:=c7.mp ht;refine⟨_,rfl,?_⟩;refine zO (λh=>?_) (λh=>?_)
    ·have h:f<=v:=h;have y:k (if f<=v then aA (T.int v) else aE) e:=y;rw[if_pos h] at y;exact y
    ·have h:¬f<=v:=h;have y:k (if f<=v then aA (T.int v) else aE) e:=y;rw[if_neg h] at y;exact y
   have ef:(l.map T.int).filterMap (λt=>match t with|.int v=>if f<=v then aA (T.int v) else aE|_=>aE)=(l.filter λv=>decide (f<=v)).map T.int:=by
    clear d V ne ln st H fl q;induction l with
    |nil=>rfl
    |cons v r U=>
     rw[dC];by_cases z:f<=v
     ·rw[nJ (b:=T.int v) (by show (if f<=v then _ else _)=_;rw[if_pos z]),tw (by simpa using z),dC,U]
     ·rw[nK (by show (if f<=v then _ else _)=_;rw[if_neg z]),tp (by simpa using z),U]
   rw[ef];have J:=st.filter λv=>decide (f<=v);have gi:∀v,v∈(l.filter λv=>decide (f<=v))↔v∈l/\f<=v:=λv=>by rw[fA];simp
   have R:BS s1 s2 o1 o2 (QB l n f 0) fo:=by
    have iff:∀t u,QB l n f 0 t u↔QA l n t u:=λt u=>⟨λh=>h.elim id λh=>absurd h.2 (by simp),.inl⟩;cases fo with
    |none=>exact λt u h=>d t u ((iff t u).mp h)
    |some p=>exact⟨(iff _ _).mpr d.1,λa c h=>d.2 a c ((iff _ _).mp h)⟩
   refine qr (λm A B=>B=e/\∃fo D C,A=[aA (.tup [.int s1,.mut i]),aA (.tup [.int s2,.mut j]),O,M,aA (Fm s1 s2 o1 o2 fo),aA (.lst (l.map T.int)),aA (.int f),D,C]/\BS s1 s2 o1 o2 (QB l n f m) fo) ⟨rfl,fo,_,_,rfl,R⟩ ?_ ?_
   ·rintro m x A B g ⟨rfl,fo,D,C,rfl,d⟩ N2 F;rw[c9] at g;cases E:(l.filter λv=>decide (f<=v))[m]? with
    |none=>rw[E] at g;cases g
    |some v=>
     rw[E] at g;cases g;have L:=take_snoc E;have new:QB l n f (m+1) f v:=.inr ⟨rfl,by rw[L];simp⟩;have P:∀t u,QB l n f m t u->QB l n f (m+1) t u:=λt u h=>h.elim .inl λh=>.inr ⟨h.1,by rw[L];exact dM _ h.2⟩;have G:∀t u,QB l n f (m+1) t u->QB l n f m t u\/(t=f/\u=v):=λt u h=>by
      rcases h with h|⟨h,o⟩
      ·exact .inl (.inl h)
      ·rw[L] at o;rcases cA.mp o with o|o
       ·exact .inl (.inr ⟨h,o⟩)
       ·exact .inr ⟨h,bV.mp o⟩
     refine⟨_,rfl,?_⟩;refine jG h1 ?_;refine jG h2 ?_;cases fo with
     |none=>
      refine F _ _ ⟨rfl,aA (f,v),_,_,rfl,new,λa c I=>?_⟩;rcases G a c I with h|⟨rfl,rfl⟩
      ·exact absurd h (d a c)
      ·exact .inr ⟨rfl,.inr ⟨rfl,dB _⟩⟩
     |some p=>
      obtain⟨t,u⟩:=p;obtain⟨s,W⟩:=d;refine⟨_,rfl,?_⟩;refine zO (λh=>?_) (λh=>?_)
      ·have h:z0 s1 o1 t-z0 s2 o2 u<z0 s1 o1 f-z0 s2 o2 v:=h;refine F _ _ ⟨rfl,aA (f,v),_,_,rfl,new,λa c I=>?_⟩;rcases G a c I with S|⟨rfl,rfl⟩
       ·have:=W a c S;unfold Le at this ⊢;left;show _<z0 s1 o1 f-z0 s2 o2 v;have this:z0 s1 o1 a-z0 s2 o2 c<z0 s1 o1 t-z0 s2 o2 u\/_:=this;lia
       ·exact .inr ⟨rfl,.inr ⟨rfl,dB _⟩⟩
      ·have h:¬z0 s1 o1 t-z0 s2 o2 u<z0 s1 o1 f-z0 s2 o2 v:=h;refine F _ _ ⟨rfl,aA (t,u),_,_,rfl,P _ _ s,λa c I=>?_⟩;rcases G a c I with S|⟨rfl,rfl⟩
       ·exact W a c S
       ·have lt:t<a\/(t=a/\u<=c):=by
         rcases s with s|⟨s,o⟩
         ·exact .inl (XZ st H s.1)
         ·exact .inr ⟨s,Int.le_of_lt (XZ J E o)⟩
        show Le s1 s2 o1 o2 t u a c;unfold Le;by_cases w:z0 s1 o1 a-z0 s2 o2 c=z0 s1 o1 t-z0 s2 o2 u
        ·exact .inr ⟨w,lt⟩
        ·left;lia
   ·rintro A B ⟨rfl,fo,D,C,rfl,d⟩;rw[bP] at d;refine V _ _ ⟨rfl,fo,_,_,_,rfl,?_⟩;have iff:∀t u,QB l n f (l.filter λv=>decide (f<=v)).length t u↔QA l (n+1) t u:=λt u=>by
     show _\/_↔_/\_;rw[iT (bH _),take_snoc H,gi];constructor
     ·rintro (h|⟨rfl,h⟩)
      ·exact⟨dM _ h.1,h.2⟩
      ·exact⟨by simp,h⟩
     ·rintro⟨h,o⟩;rcases cA.mp h with h|h
      ·exact .inl ⟨h,o⟩
      ·have:=bV.mp h;subst this;exact .inr ⟨rfl,o⟩
    cases fo with
    |none=>exact λt u h=>d t u ((iff t u).mpr h)
    |some p=>exact⟨(iff _ _).mp d.1,λa c h=>d.2 a c ((iff _ _).mpr h)⟩
 ·rintro A e ⟨rfl,fo,Q,D,C,rfl,d⟩;rw[bP] at d;have iff:∀t u,QA l l.length t u↔t∈l/\u∈l/\t<=u:=λt u=>by show _/\_↔_;rw[iT (bH _)]
  cases fo with
  |none=>
   obtain⟨v,E⟩:=List.exists_mem_of_ne_nil l ne;exact absurd ((iff v v).mpr ⟨E,E,dB _⟩) (d v v)
  |some p=>
   have s:=(iff _ _).mp d.1;exact q p.1 p.2 ⟨s.1,s.2.1,s.2.2,λa h1 c h2 h3=>d.2 a c ((iff _ _).mpr ⟨h1,h2,h3⟩)⟩
end
section
variable {μ:aK}{K:T->aK->Prop}{Z:Xp}{b e s1 s2:Int}{o1 o2:List Tn}
structure BL(o1 o2:List Tn)(b e:Int)(l:List Int):Prop where
 in_:∀x∈l,b<=x/\x<=e
 ed:∀t,Ed o1 o2 b e t->t∈l
 b_:b∈l
 st:l.Pairwise (·<·)
 len:l.length<=100
theorem LW(a:b<=e):wL b (e+1) 1=((eX (e+1-b).toNat).map λ(i:Nat)=>b+(i:Int)).map T.int:=by
 unfold wL;rw[fS];have:(if b<e+1 then (e+1-b-1) / 1+1 else 0:Int).toNat=(e+1-b).toNat:=by
  rw[if_pos (by lia),mo];congr 1;lia
 rw[this];refine pA λi _=>?_;simp
theorem FZ(a:b<=e)(h:Ed o1 o2 b e t):b<=t/\t<=e:=by
 rcases h with rfl|rfl|(h|h)|(h|h)
 ·exact⟨dB _,a⟩
 ·exact⟨a,dB _⟩
 all_goals
  obtain⟨p,_,h⟩:=h
  lia
theorem Um:(z∈kvs.map (·.1)/\(u7 z t kvs).map (·.1)=kvs.map (·.1))\/(z∉kvs.map (·.1)/\(u7 z t kvs).map (·.1)=kvs.map (·.1)++[z]):=by
 unfold u7;have e:(kvs.any λa=>decide (a.1=z))=aB↔z∈kvs.map (·.1):=by
  rw[CD,c7];exact⟨λ⟨p,h,q⟩=>⟨p,h,of_decide_eq_true q⟩,λ⟨p,h,q⟩=>⟨p,h,decide_eq_true q⟩⟩
 by_cases h:z∈kvs.map (·.1)
 ·rw[if_pos (e.mpr h),fS];refine .inl ⟨h,pA λp _=>?_⟩;show (if p.1=z then (p.1,t) else p).1=p.1;split<;>rfl
 ·rw[if_neg (λw=>h (e.mp w)),gK];exact .inr ⟨h,rfl⟩
noncomputable def Ky (S:Int->Prop)(n:Nat)(kvs:List (Key×T)):Prop:=∃a:List Int,kvs.map (·.1)=a.map i_/\a.Nodup/\(∀v,v∈a↔S v)/\a.length<=n
theorem Ky.add(h:Ky S n kvs):Ky (λv=>S v\/v=a) (n+1) (u7 (.inl a) t kvs):=by
 obtain⟨ns,h1,h2,b,i⟩:=h;unfold Ky;rcases Um (z:=.inl a) (t:=t) (kvs:=kvs) with⟨z,e⟩|⟨z,e⟩
 ·rw[e,h1];rw[h1] at z;obtain⟨v,f,g⟩:=c7.mp z;cases g;refine⟨ns,rfl,h2,λv=>⟨λh=>.inl ((b v).mp h),?_⟩,by lia⟩;rintro (h|rfl)
  ·exact (b v).mpr h
  ·exact f
 ·rw[e,h1];rw[h1] at z;have z:a∉ns:=λh=>z (c7.mpr ⟨a,h,rfl⟩);refine⟨ns++[a],by rw[gK];rfl,?_,λv=>?_,by rw[gE];simp;lia⟩
  ·rw[ll];exact⟨h2,by simp,λx d y c e=>by rw[bV.mp c] at e;exact z (e▸d)⟩
  ·rw[cA,bV,b]
theorem Ky.imp(h:Ky S n kvs)(e:∀v,S v↔d v)(nm:n<=m):Ky d m kvs:=by
 obtain⟨ns,h1,h2,a,b⟩:=h;exact⟨ns,h1,h2,λv=>(a v).trans (e v),by lia⟩
abbrev rE(b e:Int)(os:List Tn)(v:Int):Prop:=v=b\/v=e\/∃p∈os,v=p.1\/v=p.1-1
theorem Op(a:b<=e)(h:e-b<61):BL o1 o2 b e ((eX (e+1-b).toNat).map λ(i:Nat)=>b+(i:Int)):=by
 have mem:∀t,t∈((eX (e+1-b).toNat).map λ(i:Nat)=>b+(i:Int))↔b<=t/\t<=e:=λt=>by
  rw[c7];constructor
  ·rintro⟨i,d,rfl⟩;have:=lS.mp d;lia
  ·intro h;exact⟨(t-b).toNat,lS.mpr (by lia),by lia⟩
 refine⟨λt c=>(mem t).mp c,λt c=>(mem t).mpr (FZ a c),(mem b).mpr ⟨dB _,a⟩,?_,by rw[bP,oZ];lia⟩;rw[lj];exact List.pairwise_lt_range.imp λh=>by lia
theorem Pf(g:b<=e)(bl:-1000<=b)(el:e<=100000000000)(h1:μ[i]?=aA (.lst (o1.map zI)))(h2:μ[j]?=aA (.lst (o2.map zI)))(l1:o1.length<=3)(l2:o2.length<=3)
  (q:∀l d,BL o1 o2 b e l->Ch [] μ d->K (.lst (l.map T.int)) d):ub [.tup [.int s1,.mut i],.tup [.int s2,.mut j],.int b,.int e] μ K Z:=by
 unfold ub;refine⟨rfl,?_⟩;refine zO (λh=>?_) (λh=>?_)
 ·have h:e-b<61:=h;refine⟨⟨by lia,by lia,by lia,by lia⟩,?_⟩;rw[LW g];exact q _ _ (Op g h) Ch.refl
 ·have h:¬e-b<61:=h;have W:Ky (rE b e []) 2 [((.inl b:Key),T.int 1),(.inl e,.int 1)]:=⟨[b,e],rfl,by simp;lia,λv=>by simp[rE],by simp⟩;have em:(o1.map zI)++(o2.map zI)=(o1++o2).map zI:=by rw[gK]
  refine⟨by simp;lia,_,rfl,_,rfl,(_,_),⟨ze h1,ze h2⟩,by simp only[bP];unfold aU;lia,?_⟩;refine qr (λn A d=>∃a F E D,A=[aA (.tup [.int s1,.mut i]),aA (.tup [.int s2,.mut j]),aA (.int b),aA (.int e),aA (.mut μ.length),F,E,D]/\d[μ.length]?=aA (.dic a)/\Ch [] μ d/\Ky (rE b e ((o1++o2).take n)) (2+2*n) a) ⟨_,_,_,_,rfl,zj,Ch.app,W.imp (λv=>by simp) (by lia)⟩ ?_ ?_
  ·rintro n t A d w ⟨a,F,E,D,rfl,hd,ch,u⟩ N Y;rw[em,c9] at w;cases f:(o1++o2)[n]? with
   |none=>rw[f] at w;cases w
   |some p=>
    rw[f] at w;cases w;have X:n<6:=by
     have:=(bQ.mp f).1;rw[gE] at this;lia
    have L:a.length<=2+2*n:=by
     obtain⟨m,x,_,_,I⟩:=u;have:=congrArg iM x;simp at this;lia
    refine⟨_,rfl,⟨_,hd⟩,by simp;lia,_,hd,by show a.length+2<=aU;unfold aU;lia,?_⟩;refine Y _ _ ⟨_,_,_,_,rfl,aH hd,Ch.geS ch Ch.set (by simp),(u.add.add.imp (λv=>?_) (by lia))⟩;rw[gD,f];show ((v=b\/v=e\/∃q∈(o1++o2).take n,v=q.1\/v=q.1-1)\/v=p.1)\/v=p.1-1↔v=b\/v=e\/∃q∈(o1++o2).take n++[p],v=q.1\/v=q.1-1;constructor
    ·rintro (((h|h|⟨q,f,h⟩)|h)|h)
     ·exact .inl h
     ·exact .inr (.inl h)
     ·exact .inr (.inr ⟨q,dM _ f,h⟩)
     ·exact .inr (.inr ⟨p,by simp,.inl h⟩)
     ·exact .inr (.inr ⟨p,by simp,.inr h⟩)
    ·rintro (h|h|⟨q,f,h⟩)
     ·exact .inl (.inl (.inl h))
     ·exact .inl (.inl (.inr (.inl h)))
     ·rcases cA.mp f with f|f
      ·exact .inl (.inl (.inr (.inr ⟨q,f,h⟩)))
      ·rw[bV.mp f] at h;exact h.elim (λh=>.inl (.inr h)) .inr
  ·rintro A d ⟨a,F,E,D,rfl,hd,ch,u⟩;rw[em,bP,iT (bH _)] at u;obtain⟨m,x,R,Q,I⟩:=u;have J:m.length<=14:=by rw[gE] at I;lia
   have L:a.length=m.length:=by have:=congrArg iM x;simpa using this
   refine⟨_,.inl hd,λep=>?_⟩;have ek:(a.map λp=>U4 p.1)=m.map T.int:=by
    have:=congrArg (List.map U4) x;rw[fS,fS] at this;exact this
   rw[ek];refine⟨by rw[bP];unfold aU;lia,?_⟩;refine wI T.int (λv=>if b<=v/\v<=e then aA (.int v) else aE) (λv O k s=>?_) ?_ (aH hd)
   ·refine⟨_,rfl,?_⟩;refine zO (λh1=>?_) (λh1=>?_)
    ·have h1:b<=v:=h1;refine zO (λh2=>?_) (λh2=>?_)
     ·have h2:v<=e:=h2;rw[if_pos ⟨h1,h2⟩] at s;exact s
     ·have h2:¬v<=e:=h2;rw[if_neg (λz=>h2 z.2)] at s;exact s
    ·have h1:¬b<=v:=h1;rw[if_neg (λz=>h1 z.1)] at s;exact s
   ·have ef:m.filterMap (λv=>if b<=v/\v<=e then aA (T.int v) else aE)=(m.filter λv=>decide (b<=v/\v<=e)).map T.int:=by
     clear x R Q I J L ek;induction m with
     |nil=>rfl
     |cons v r M=>
      by_cases z:b<=v/\v<=e
      ·rw[nJ (b:=T.int v) (by rw[if_pos z]),tw (by simpa using z),dC,M]
      ·rw[nK (by rw[if_neg z]),tp (by simpa using z),M]
    rw[ef];have fl:(m.filter λv=>decide (b<=v/\v<=e)).length<=14:=cT (pq ..) J;refine⟨by rw[bP];lia,.inl ⟨_,yC _,λG C B=>?_⟩⟩;have H:∀v,v∈G↔rE b e (o1++o2) v/\b<=v/\v<=e:=λv=>by rw[C.mem_iff,fA,Q,decide_eq_true_eq]
    refine q G _ ⟨λv O=>((H v).mp O).2,λt P=>(H t).mpr ⟨?_,FZ g P⟩,(H b).mpr ⟨.inl rfl,dB _,g⟩,?_,by rw[C.length_eq];lia⟩ (Ch.geS ch Ch.set (by simp))
    ·have y:∀{t:Int}{o:List Tn},(∀p∈o,p∈o1++o2)->Tr o b e t->∃p∈o1++o2,p.1=t:=λh ⟨⟨p,c,e⟩,_⟩=>⟨p,h p c,e⟩;have U:∀p∈o1,p∈o1++o2:=λp c=>dM _ c;have S:∀p∈o2,p∈o1++o2:=λp c=>dU _ c;rcases P with h|h|(h|h)|(h|h)
     ·exact .inl h
     ·exact .inr (.inl h)
     ·obtain⟨p,c,e⟩:=y U h;exact .inr (.inr ⟨p,c,.inl e.symm⟩)
     ·obtain⟨p,c,e⟩:=y S h;exact .inr (.inr ⟨p,c,.inl e.symm⟩)
     ·obtain⟨p,c,e⟩:=y U h;exact .inr (.inr ⟨p,c,.inr (by lia)⟩)
     ·obtain⟨p,c,e⟩:=y S h;exact .inr (.inr ⟨p,c,.inr (by lia)⟩)
    ·have V:G.Nodup:=C.nodup_iff.mpr (R.filter _);exact (B.and V).imp λh=>by have:=h.1;have:=h.2;lia
end
section
variable {μ μ1:aK}{K:T->aK->Prop}{Z:Xp}{b e s1 s2 x y z ah:Int}{o1 o2:List Tn}
theorem NL{b:Bool}{A B:Prop}(h1:b=aB->B)(h2:b=aD->A):ii (!b) A B:=by
 cases b
 ·exact h2 rfl
 ·exact h1 rfl
theorem NX(k:BL o1 o2 b e l)(c:Bs s1 s2 o1 o2 l t u):il s1 s2 o1 o2 b e t u:=by
 refine⟨⟨(k.in_ t c.1).1,c.2.2.1,(k.in_ u c.2.1).2⟩,λf i g=>?_⟩;obtain⟨j,d,h,o,a,n⟩:=G7 (s1:=s1) (s2:=s2) (o1:=o1) (o2:=o2) (b:=b) (e:=e) (f-b).toNat f i (by have:=g.1;lia) g;have m:d∈l:=by
  rcases a with rfl|⟨a,_⟩
  ·exact k.ed _ h
  ·exact k.ed _ (.inr (.inr (.inl (.inr a))))
 exact (c.2.2.2 j (k.ed _ h) d m o.2.1).trans n
theorem O9(f:b<=e)(bl:-1000<=b)(el:e<=100000000000)(h1:μ[i]?=aA (.lst (o1.map zI)))(h2:μ[j]?=aA (.lst (o2.map zI)))(h:o1.length<=3)(g:o2.length<=3)
  (q:∀t u d,il s1 s2 o1 o2 b e t u->Ch [] μ d->K (.tup [.int (z0 s1 o1 t-z0 s2 o2 u),.int t,.int u]) d):jK [.tup [.int s1,.mut i],.tup [.int s2,.mut j],.int b,.int e] μ K Z:=by
 unfold jK;refine⟨rfl,?_⟩;refine Pf f bl el h1 h2 h g λl c a ch=>?_;exact Mw (ch.get h1 (by simp)) (ch.get h2 (by simp)) a.st (λe=>by have:=a.b_;rw[e] at this;cases this) a.len λt u bs=>q t u c (NX a bs) ch
theorem Sw(h:e<b)(q:Z 16 [] μ):jJ [.mut i,.mut j,.int b,.int e] μ K Z:=by
 unfold jJ;refine⟨rfl,?_⟩;refine zi ?_;refine zi ?_;refine vX h ?_;exact⟨by show (1:Nat)<=aU;decide,q⟩
theorem Rr(a0:0<=ah)(h:e<b)(q:Z 16 [] μ):jI [bL x y z,.int ah,.mut j,.mut d,.int b,.int e] μ K Z:=by
 unfold jI;refine⟨rfl,?_⟩;refine vM a0 ?_;exact Sw h q
noncomputable abbrev ju(ah t u:Int):List T:=if ah=0 then R4 t u else l6 "lease" t "one" (.int 0) ah::R4 t u
theorem MA(a0:0<=ah)(g:b<=e)(h1:μ[A]?=aA (eH s1 o1))(h2:μ[s]?=aA (eH s2 o2))(m:o1.length<=3)(l:o2.length<=3)
  (k:∀t u d,il s1 s2 o1 o2 b e t u->¬(y≠1/\(0<=z0 s1 o1 t/\z0 s1 o1 t+ah<x)/\0<=z0 s2 o2 u/\z0 s2 o2 u<x)->Ch [] μ d->Z 19 [] d)
  (q:∀t u d,il s1 s2 o1 o2 b e t u->y≠1->0<=z0 s1 o1 t->z0 s1 o1 t+ah<x->0<=z0 s2 o2 u->z0 s2 o2 u<x->Ch [] μ d->K (.lst (ju ah t u)) d):jI [bL x y z,.int ah,.mut A,.mut s,.int b,.int e] μ K Z:=by
 unfold jI;refine⟨rfl,?_⟩;refine vM a0 ?_;refine UH g h1 h2 (by lia) (by lia) λt u o f=>?_;have j:=ze (x:=o) h1;have i:=ze (x:=o) h2;refine⟨_,rfl,_,rfl,_,j,?_⟩;refine zB j ?_;refine⟨_,i,?_⟩;refine zB i ?_;have a:¬(y≠1/\(0<=z0 s1 o1 t/\z0 s1 o1 t+ah<x)/\0<=z0 s2 o2 u/\z0 s2 o2 u<x)->Z 19 [] (μ++[o]):=λh=>k t u _ f h Ch.app;refine zO (λh=>?_) (λh=>?_)
 ·have h:y=1:=h;exact⟨by show (1:Nat)<=aU;decide,a λz=>z.1 h⟩
 ·have h:¬y=1:=h;refine⟨by show (3:Nat)<=aU;decide,?_⟩;refine wW ⟨_,rfl,?_⟩;refine wF ?_;refine⟨trivial,wW ⟨_,rfl,?_⟩⟩;refine wF ?_;refine⟨trivial,wW ⟨_,rfl,?_⟩⟩;refine wF ?_;refine⟨trivial,vI ?_⟩;refine⟨_,rfl,?_⟩;have iff:([decide (0<=z0 s1 o1 t)&&decide (z0 s1 o1 t<x),decide (0<=z0 s1 o1 t+ah)&&decide (z0 s1 o1 t+ah<x),decide (0<=z0 s2 o2 u)&&decide (z0 s2 o2 u<x)].all id)=aB↔(0<=z0 s1 o1 t/\z0 s1 o1 t+ah<x)/\0<=z0 s2 o2 u/\z0 s2 o2 u<x:=by
   simp only[iQ,List.all_nil,id,r_,cH,decide_eq_true_eq];lia
  refine NL (λw=>?_) (λw=>?_)
  ·have w:=iff.mp w;refine zO (λc=>?_) (λc=>?_)
   ·have c:ah=0:=c;have:=q t u (μ++[o]) f h w.1.1 w.1.2 w.2.1 w.2.2 Ch.app;rw[show ju ah t u=R4 t u from if_pos c] at this;exact this
   ·have c:¬ah=0:=c;have:=q t u (μ++[o]) f h w.1.1 w.1.2 w.2.1 w.2.2 Ch.app;rw[show ju ah t u=l6 "lease" t "one" (.int 0) ah::R4 t u from if_neg c] at this;refine⟨?_,this⟩;show (1:Nat)+4<=aU;decide
  ·refine⟨by show (1:Nat)<=aU;decide,a λv=>?_⟩;rw[iff.mpr v.2] at w;cases w
end
end NH.P
section
namespace NH.P
open PySem L2 NH
variable {μ μ1 μ2:aK}{K:T->aK->Prop}{Z:Xp}{b e s1 s2 x y z ah:Int}{o1 o2:List Tn}
theorem OH (a0:0<=ah) (h:e<b) (q:K (.str "time") μ):wX [bL x y z,.int ah,.mut j,.mut d,.int b,.int e] μ K Z:=by
 unfold wX;refine⟨rfl,?_⟩;refine Rr a0 h ?_;exact q
theorem Np(a0:0<=ah)(c:b<=e)(h1:μ[w]?=aA (eH s1 o1))(h2:μ[s]?=aA (eH s2 o2))(k:o1.length<=3)(j:o2.length<=3)
  (f:∀t u d,il s1 s2 o1 o2 b e t u->¬(y≠1/\(0<=z0 s1 o1 t/\z0 s1 o1 t+ah<x)/\0<=z0 s2 o2 u/\z0 s2 o2 u<x)->Ch [] μ d->K (.str "ended") d)
  (q:∀t u d,il s1 s2 o1 o2 b e t u->y≠1->0<=z0 s1 o1 t->z0 s1 o1 t+ah<x->0<=z0 s2 o2 u->z0 s2 o2 u<x->Ch [] μ d->K (.lst (ju ah t u)) d):wX [bL x y z,.int ah,.mut w,.mut s,.int b,.int e] μ K Z:=by
 unfold wX;refine⟨rfl,?_⟩;refine MA a0 c h1 h2 k j (λt u d a n ch=>?_) λt u d a n p1 i h g ch=>?_
 ·exact f t u d a n ch
 ·exact q t u d a n p1 i h g ch
theorem VJ{l:List Int}{v:Int}(h0:0<=v)(h1:v<l.length):∃w∈l,vq (l.map T.int) v=aA (.int w):=by
 have a:v.toNat<l.length:=by lia
 refine⟨l[v.toNat],CV a,?_⟩;have:=rq (xs:=l.map T.int) (j:=v.toNat) (v:=.int l[v.toNat]) (by rw[c9,eS a];rfl);rw[Int.toNat_of_nonneg h0] at this;exact this
theorem Lf:(10:Int) ^ oC 12=1000000000000:=by decide
theorem I_:(10:Int) ^ oC 6=1000000:=by decide
theorem Iy:(10:Int) ^ oC 9=1000000000:=by decide
theorem Up.ch0(u:Up μ i μ1):Ch [i] μ μ1:=⟨iN u.len.symm,λj b a=>u.ot j (by simpa using a)⟩
theorem OL{ns:List Int}{i j:Nat}(N:Wn x y z ah)(y1:1<=y)(q:b<=e)(bl:-1000<=b)(el:e<=100000000000)(st:St μ 2)(E:μ[0]?=aA (.tab 0))(D:μ[1]?=aA (.tab 1))(h1:μ[i]?=aA (.lst (o1.map zI)))(h2:μ[j]?=aA (.lst (o2.map zI)))(K:μ[Q]?=aA (eH s1 o1))(J:μ[M]?=aA (eH s2 o2))(H:o1.length<=3)(G:o2.length<=3)(m1:Q≠2)(m2:M≠2) :
  qd (vH.drop 13) [aA (.lst (ns.map T.int)),aA (.mut 2),aA (.int x),aA (.int z),aA (.int y),aA (.int ah),aA (.int b),aA (.int e),aA (.tup [.int s1,.mut i]),aA (.tup [.int s2,.mut j]),aA (.mut Q),aA (.mut M),aA (bL x y z),aE,aE,aE,aE,aE,aE] μ (En.fn (λt _=>t=T.bl aB) λ_ _ _=>False):=by
 have W:=N.a0;refine O9 q bl el h1 h2 H G λt u L I ch=>?_;refine⟨_,rfl,?_⟩;refine jG (ch.get h1 (by simp)) ?_;refine jG (ch.get h2 (by simp)) ?_;refine Np W q (ch.get K (by simp)) (ch.get J (by simp)) H G (λk f p d no w=>?_) λk f p d n1 p1 Z U Y w=>?_
 ·obtain⟨rfl,rfl⟩:=d.eq I;have fin:∀C,(λt (_:aK)=>t=T.bl aB) (.bl aB) C:=λ_=>rfl;refine zO (λh=>?_) (λh=>?_)
  ·exact rfl
  ·have h:¬y<2:=h;refine zO (λh2=>?_) (λh2=>?_)
   ·exact rfl
   ·have h2:¬(if z0 s2 o2 f<z0 s1 o1 k then z0 s2 o2 f else z0 s1 o1 k)<0:=h2;refine zO (λB=>?_) (λB=>?_)
    ·exact rfl
    ·have B:¬x<=(if z0 s1 o1 k+ah<z0 s2 o2 f then z0 s2 o2 f else z0 s1 o1 k+ah):=B;refine absurd ?_ no;split at h2<;>split at B<;>exact⟨by lia,⟨by lia,by lia⟩,by lia,by lia⟩
 ·obtain⟨rfl,rfl⟩:=d.eq I;refine qL (by lia) ?_;refine qL (show ¬(if z0 s2 o2 f<z0 s1 o1 k then z0 s2 o2 f else z0 s1 o1 k)<0 by split<;>lia) ?_;refine qL (show ¬x<=(if z0 s1 o1 k+ah<z0 s2 o2 f then z0 s2 o2 f else z0 s1 o1 k+ah) by split<;>lia) ?_;have s:∃a r,ju ah k f=a::r:=by
   unfold ju;split<;>exact⟨_,_,rfl⟩
  obtain⟨S,R,s⟩:=s;have er:S::R=ju ah k f:=s.symm;rw[s];refine⟨?g,aD,by simp[c8],?_⟩;case g=>
   rw[←s]
   unfold ju
   split
   ·exact sZ rfl
   ·exact sZ rfl
  have A:=ch.trans w;have F:St p 2:=by
   obtain⟨a,b,c,h⟩:=st;exact⟨a,b,c,A.get h (by simp)⟩
  refine zq F (by decide) (by decide) λv m O X P=>?_;have V:=P.ch0;have l:∀{j:Nat}{o:MO},μ[j]?=aA o->j≠2->m[j]?=aA o:=λh n=>V.get (A.get h (by simp)) (by simpa using n);refine⟨(by decide:([.inr "one",.inr "two"]:List Key).Nodup),?_⟩;rw[er];refine OC (sd:=v) (dc:=m.length) N (by lia) zj (ze (l K m1)) (ze (l J m2)) (ze (l E (by decide))) (ze (l D (by decide))) O p1 (by lia) U (by lia) d.1.2.1 d.1.1 d.1.2.2 rfl λ_=>?_;exact rfl
theorem Mm{ns:List Int}{d c e f:Int}{k i h g:Nat}(B1:0<=d/\d<=1000000000000)(B2:0<=c/\c<1000000)(y:0<=e/\e<4)(o:0<=f/\f<100)(A:-20<=j/\j<=100)(z:0<=s/\s<1000000000)(st:St μ 2)(t0:μ[0]?=aA (.tab 0))(t1:μ[1]?=aA (.tab 1))(r:μ[h]?=aA (.lst (o1.map zI)))(q:μ[g]?=aA (.lst (o2.map zI)))(k1:μ[k]?=aA (eH s1 o1))(k2:μ[i]?=aA (eH s2 o2))(n1:h≠2)(n2:g≠2)(n:k≠2)(m:i≠2)(v:o1.length<=3)(u:o2.length<=3) :
  qd (vH.drop 12) [aA (.lst (ns.map T.int)),aA (.mut 2),aA (.int (1+d)),aA (.int (1+c)),aA (.int (1+e)),aA (.int f),aA (.int j),aA (.int (j+s)),aA (.tup [.int s1,.mut h]),aA (.tup [.int s2,.mut g]),aA (.mut k),aA (.mut i),aA (bL (1+d) (1+e) (1+c)),aE,aE,aE,aE,aE,aE] μ (En.fn (λt _=>t=T.bl aB) λ_ _ _=>False):=by
 refine zq st (by decide) (by decide) λp l x w b=>?_;refine OH o.1 (by lia) ?_;have a:=b.ch0;exact OL ⟨⟨by lia,by lia,by lia,by lia,by lia⟩,by lia,by lia,o.1⟩ (by lia) (by lia) (by lia) (by lia) b.st (a.get t0 (by simp)) (a.get t1 (by simp)) (a.get r (by simpa using n1)) (a.get q (by simpa using n2)) (a.get k1 (by simpa using n)) (a.get k2 (by simpa using m)) v u n m
theorem Md{ns:List Int}{v u w q:Int}(y:μ[0]?=aA (.tab 0))(x:μ[1]?=aA (.tab 1))(p:St μ 2)(B1:0<=v/\v<=1000000000000)(B2:0<=u/\u<1000000)(R:0<=w/\w<4)(V:0<=q/\q<100)(U:-20<=s/\s<=100)(S:0<=C/\C<1000000000) :
  qd (vH.drop 7) [aA (.lst (ns.map T.int)),aA (.mut 2),aA (.int (1+v)),aA (.int (1+u)),aA (.int (1+w)),aA (.int q),aA (.int s),aA (.int (s+C)),aE,aE,aE,aE,aE,aE,aE,aE,aE,aE,aE] μ (En.fn (λt _=>t=T.bl aB) λ_ _ _=>False):=by
 refine vK (by decide) λX=>?_;refine yh λQ P=>?_;refine Xj (i:=μ.length) ⟨Q,P,0,zj⟩ (by lia) λK M f k n=>?_;have F:Ch [] μ f:=⟨by rw[n.len];simp;lia,λj z _=>(n.ot j (by lia) (by simp;lia)).trans (dP z)⟩;refine vK (by decide) λW=>?_;refine yh λO N=>?_;refine Xj (i:=f.length) ⟨O,N,0,zj⟩ (by lia) λJ L e g m=>?_;have B:Ch [] f e:=⟨by rw[m.len];simp;lia,λj z _=>(m.ot j (by lia) (by simp;lia)).trans (dP z)⟩;have E:=B.get n.ls (by simp);have D:=m.ls;have A:=F.trans B;refine⟨_,rfl,_,rfl,?_⟩;refine kh E k.r (by have:=k.l;lia) ?_;refine⟨rfl,_,rfl,_,rfl,?_⟩;refine kh (ze D) g.r (by have:=g.l;lia) ?_;refine⟨rfl,rfl,?_⟩;refine Q3 (by lia) (by lia) (by lia) ?_;refine⟨rfl,_,rfl,rfl,?_⟩;have d:∀{j:Nat}{o:MO},e[j]?=aA o->(e++[eH K M]++[eH J L])[j]?=aA o:=λh=>ze (ze h);obtain⟨a,b,c,h⟩:=p;have I:2<μ.length:=(bQ.mp h).1;have H:=F.len;have G:=B.len;exact Mm B1 B2 R V U S ⟨a,b,c,d (A.get h (by simp))⟩ (d (A.get y (by simp))) (d (A.get x (by simp))) (d E) (d D) (ze zj) zj (by rw[gE];lia) (by rw[gE];lia) (by lia) (by rw[gE];lia) k.l g.l
theorem Pr:V0 xj:=by
 intro ns hns;unfold xj;refine⟨rfl,?_⟩;refine vK (by decide) λc0=>?_;refine yh λJ I=>?_;have n:St ([MO.tab 0,MO.tab 1]++[.lst [.int J,.int I,.int 0]]) 2:=⟨J,I,0,rfl⟩;refine zq n (by decide) (by decide) λv1 S a1 b1 H=>?_;refine⟨⟨by decide,by decide,by decide⟩,?_⟩;rw[Lf];refine zq H.st (by decide) (by decide) λv2 R a2 b2 G=>?_;obtain⟨w1,m1,e1⟩:=VJ (l:=[v1,1000000000000]) a2 b2;refine⟨_,e1,?_⟩;refine zq G.st (by decide) (by decide) λX Q a3 b3 F=>?_;refine⟨⟨by decide,by decide,by decide⟩,?_⟩;rw[I_];refine zq F.st (by decide) (by decide) λW P a4 b4 E=>?_;refine zq E.st (by decide) (by decide) λv5 O a5 b5 D=>?_;obtain⟨w2,m2,e2⟩:=VJ (l:=[X,W]) a5 b5;refine⟨_,e2,?_⟩;refine zq D.st (by decide) (by decide) λv6 N a6 b6 C=>?_;refine zq C.st (by decide) (by decide) λV M a7 b7 B=>?_;refine zq B.st (by decide) (by decide) λT L a8 b8 A=>?_;refine zq A.st (by decide) (by decide) λv9 K a9 b9 z=>?_;obtain⟨w3,m3,e3⟩:=VJ (l:=[V,T]) a9 b9;refine⟨_,e3,?_⟩;refine zq z.st (by decide) (by decide) λm y a10 b10 g=>?_;refine zq g.st (by decide) (by decide) λk x a11 b11 f=>?_;refine zq f.st (by decide) (by decide) λZ w r p e=>?_;obtain⟨w4,m4,e4⟩:=VJ (l:=[m,0-k]) r p;refine⟨_,e4,?_⟩;refine zq e.st (by decide) (by decide) λj v a13 b13 d=>?_;refine zq d.st (by decide) (by decide) λi u a14 b14 c=>?_;refine⟨⟨by decide,by decide,by decide⟩,?_⟩;rw[Iy];refine zq c.st (by decide) (by decide) λh t a15 b15 b=>?_;refine zq b.st (by decide) (by decide) λY s q o a=>?_;obtain⟨w5,m5,e5⟩:=VJ (l:=[0,j,i,h]) q o;refine⟨_,e5,?_⟩;have U:=(((((((((((((((H.trans G).trans F).trans E).trans D).trans C).trans B).trans A).trans z).trans g).trans f).trans e).trans d).trans c).trans b).trans a);simp only[cO,h_,or_false] at m1 m2 m3 m4 m5;exact Md ((U.ot 0 (by decide)).trans rfl) ((U.ot 1 (by decide)).trans rfl) a.st ⟨by lia,by lia⟩ ⟨by lia,by lia⟩ ⟨a6,b6⟩ ⟨by lia,by lia⟩ ⟨by lia,by lia⟩ ⟨by lia,by lia⟩
end NH.P
namespace NH.K54
open PySem L2 NH NH.P
theorem nZ:V0 xj:=Pr
end NH.K54
end
namespace NH.K54
open PySem PySem.Spec PyProof.Rows L2 NH NH.P PySem.W
theorem ID{P:List aC->Prop}(h:∀a0,P [a0]):∀us:List aC,us.length=1->P us:=PL.all (n:=1) h
theorem Es{P:List aC->Prop}(h:∀a0 d,P [a0,d]):∀us:List aC,us.length=2->P us:=PL.all (n:=2) h
theorem E_{P:List aC->Prop}(h:∀a0 j d,P [a0,j,d]):∀us:List aC,us.length=3->P us:=PL.all (n:=3) h
theorem Ik{P:List aC->Prop}(h:∀a0 u s j d,P [a0,u,s,j,d]):∀us:List aC,us.length=5->P us:=PL.all (n:=5) h
theorem Lj{P:List aC->Prop}(h:∀a0 w u s j d,P [a0,w,u,s,j,d]):∀us:List aC,us.length=6->P us:=PL.all (n:=6) h
theorem L6{P:List aC->Prop}(h:∀a0 d,P [a0,d]):∀us:List aC,us.length+1=3->P us:=λus e=>Es h us (su e)
theorem Ms{P:List aC->Prop}(h:∀a0 u s j d,P [a0,u,s,j,d]):∀us:List aC,us.length+1=6->P us:=λus e=>Ik h us (su e)
theorem all_mk {l:mh}{w:dJ}{K:Frag}{h:aT}{mg:aG->Option aC}{fa C0 C1 C2 C3 C4 C5 C6 C7 C8 C9 L J I H C14 P0 cA0 P1 cA1 CC4 q D T o C p t a y r u M E b f85:aF}{tk11 tk12 tk13 tk21 tk22 tk23 tk26 tk27 tz55 ka56_0 kb56_0 ka56_1 kb56_1 ka56_2 kb56_2 ka56_3 kb56_3 ka56_4 kb56_4 ka56_5 kb56_5 ka56_6 kb56_6 tk57 tk58 tk59 tk60 tk61 tk62:Tok}{od31 an31 od45 an45 te45 od55 an55 te55 od66 an66 od85 an85:Option aF}{sl31 sl45 ts45 sl55 ts55 sl66 sl85:Array (Option aC)}{oc31 kV31 dc31 pm31 ct31 oc45 S V Q A Y td45 oc55 R U O z W td55 oc66 kV66 dc66 pm66 ct66 oc85 kV85 dc85 pm85 cd85 ct85:aC}{tn45 tn55 ep56:Nat}(X:K.In h) (G:h.Ns bR mg) (hfa:mg "law"=aA (.ref fa))
  (e0:nsIn K bR "HouseError"=aA (aA (.ref C0)))
  (e1:nsIn K bR "NoShape"=aA (aA (.ref C1)))
  (e2:nsIn K bR "NoName"=aA (aA (.ref C2)))
  (e3:nsIn K bR "NoClock"=aA (aA (.ref C3)))
  (e4:nsIn K bR "NoTime"=aA (aA (.ref C4)))
  (e5:nsIn K bR "NoHolder"=aA (aA (.ref C5)))
  (e6:nsIn K bR "NoLease"=aA (aA (.ref C6)))
  (e7:nsIn K bR "Ended"=aA (aA (.ref C7)))
  (e8:nsIn K bR "TooMany"=aA (aA (.ref C8)))
  (e9:nsIn K bR "Wait"=aA (aA (.ref C9)))
  (e10:nsIn K bR "Empty"=aA (aA (.ref L)))
  (e11:nsIn K bR "NoNote"=aA (aA (.ref J)))
  (e12:nsIn K bR "Fallen"=aA (aA (.ref I)))
  (e13:nsIn K bR "NoRow"=aA (aA (.ref H)))
  (e14:nsIn K bR "Backward"=aA (aA (.ref C14)))
  (p0:zV K "is_whole" ZT)
  (p1:zV K "is_size" QE)
  (p2:zV K "is_from_nought" vC)
  (p3:zV K "is_below" Zb)
  (p4:Ve K CC4 "Shape" "Shape.__init__" xo)
  (p5:zV K "names_in" uR)
  (p6:zV K "is_name" Wo)
  (p7:zV K "check_name" xt)
  (p8:zV K "check_part" xD)
  (p9:zV K "name_of" QS)
  (p10:zV K "parts_of" Zy)
  (v11:nsIn K bR "TIME_clocks"=aA (aA (.int 0 tk11)))
  (v12:nsIn K bR "READING"=aA (aA (.int 1 tk12)))
  (v13:nsIn K bR "RUNS"=aA (aA (.int 2 tk13)))
  (p14:zV K "is_turn" Wk)
  (p15:zV K "are_turns" yO)
  (p16:Ve K q "Clock" "Clock.__init__" kZ)
  (p17:vo K q "reading" "Clock.reading" jc)
  (p18:zV K "turn_times" xJ)
  (p19:zV K "edges" Xu)
  (p20:zV K "apart" Qy)
  (v21:nsIn K bR "HOUSE_leases"=aA (aA (.int 0 tk21)))
  (v22:nsIn K bR "FIRST"=aA (aA (.int 1 tk22)))
  (v23:nsIn K bR "UNTIL"=aA (aA (.int 2 tk23)))
  (p24:zV K "is_lease" ZJ)
  (p25:zV K "check_lease" jZ)
  (v26:nsIn K bR "LETTERS"=aA (aA (.str "abcdefghijklmnopqrstuvwxyz" tk26)))
  (v27:nsIn K bR "LONGEST_HOLDER"=aA (aA (.int 8 tk27)))
  (p28:zV K "is_holder" yP)
  (p29:Ve K D "Grant" "Grant.__init__" xW)
  (p30:zV K "meets" Xh)
  (a31:nsIn K bR "least_begin"=aA (aA (.ref T)))
  (l31:K.lookup T=aA ⟨oc31,od31,.func (fnOf "least_begin" "least_begin" (zK qy) (z3 qy) (zu qy) .none kV31 dc31 pm31 an31 (.ref cA0) ct31),sl31⟩)
  (c31:gx K (.ref cA0) "least_begin"=aB)
  (zt0:mX K cA0 P0=aB)
  (zk0:K.lookup P0=aE)
  (zs0:P0≠m6)
  (k31:fK K (.ref T)=aB)
  (p32:zV K "least_house" j_)
  (p33:Ve K o "Common" "Common.__init__" kc)
  (p34:vo K o "check_let" "Common.check_let" w_)
  (p35:vo K o "grants_of" "Common.grants_of" wM)
  (p36:vo K o "free_lease" "Common.free_lease" wy)
  (p37:vo K o "let" "Common.let" xU)
  (p38:Ve K C "Batch" "Batch.__init__" xZ)
  (p39:zV K "name_at" Wi)
  (p40:zV K "names_of_batch" wU)
  (p41:zV K "place_above" k8)
  (p42:Ve K p "Seat" "Seat.__init__" yq)
  (p43:vo K p "jot" "Seat.jot" Zi)
  (q45:nsIn K bR "House"=aA (aA (.ref a)))
  (i45:dO K (.ref a) "__init__"=aA (aA (.ref t)))
  (j45:isFn K (.ref t)=aB)
  (l45:K.lookup t=aA ⟨oc45,od45,.func (fnOf "__init__" "House.__init__" (zK zw) (z3 zw) (zu zw) (.ref y) S V Q an45 A Y),sl45⟩)
  (d45:K.lookup y=aA ⟨td45,te45,.seq #[.none] tn45,ts45⟩)
  (c45:gx K A "House.__init__"=aB)
  (k45:fK K (.ref t)=aB)
  (mk45:mW K a=aB)
  (kk45:fK K (.ref a)=aB)
  (p46:vo K a "check_up" "House.check_up" vJ)
  (p47:vo K a "note" "House.note" xB)
  (p48:vo K a "keep" "House.keep" jk)
  (p49:vo K a "take_lease" "House.take_lease" wk)
  (p50:vo K a "check_has_lease" "House.check_has_lease" qH)
  (p51:vo K a "free_place" "House.free_place" wY)
  (p52:vo K a "next_batch" "House.next_batch" we)
  (p53:vo K a "mark_behind" "House.mark_behind" wu)
  (p54:vo K a "hand_out" "House.hand_out" wR)
  (i55:dO K (.ref a) "ask"=aA (aA (.ref r)))
  (j55:isFn K (.ref r)=aB)
  (l55:K.lookup r=aA ⟨oc55,od55,.func (fnOf "ask" "House.ask" (zK zz) (z3 zz) (zu zz) (.ref u) R U O an55 z W),sl55⟩)
  (d55:K.lookup u=aA ⟨td55,te55,.seq #[.int 1 tz55] tn55,ts55⟩)
  (c55:gx K z "House.ask"=aB)
  (k55:fK K (.ref r)=aB)
  (v56:nsIn K bR "LENGTHS"=aA (aA (.ref M)))
  (w56:K.lookup M=aA {cls:=.type "dict",data:=.dict #[⟨iI w "lease",.str "lease" ka56_0,.int 5 kb56_0⟩,⟨iI w "ask",.str "ask" ka56_1,.int 4 kb56_1⟩,⟨iI w "store",.str "store" ka56_2,.int 4 kb56_2⟩,⟨iI w "take",.str "take" ka56_3,.int 4 kb56_3⟩,⟨iI w "back",.str "back" ka56_4,.int 3 kb56_4⟩,⟨iI w "fall",.str "fall" ka56_5,.int 3 kb56_5⟩,⟨iI w "bare",.str "bare" ka56_6,.int 3 kb56_6⟩] ep56})
  (y56:(M==gz)=aD)
  (v57:nsIn K bR "WORD"=aA (aA (.int 0 tk57)))
  (v58:nsIn K bR "TIME_rows"=aA (aA (.int 1 tk58)))
  (v59:nsIn K bR "HOLDER"=aA (aA (.int 2 tk59)))
  (v60:nsIn K bR "HOUSE_rows"=aA (aA (.int 3 tk60)))
  (v61:nsIn K bR "SPAN"=aA (aA (.int 4 tk61)))
  (v62:nsIn K bR "MANY"=aA (aA (.int 3 tk62)))
  (p63:zV K "has_form" ZW)
  (p64:zV K "is_row" Jm)
  (p65:zV K "are_clocks" xq)
  (i66:dO K (.ref b) "come_up"=aA (aA (.ref E)))
  (j66:isFn K (.ref E)=aB)
  (l66:K.lookup E=aA ⟨oc66,od66,.func (fnOf "come_up" "World.come_up" (zK zP) (z3 zP) (zu zP) .none kV66 dc66 pm66 an66 (.ref cA1) ct66),sl66⟩)
  (c66:gx K (.ref cA1) "World.come_up"=aB)
  (zt1:mX K cA1 P1=aB)
  (zk1:K.lookup P1=aE)
  (zs1:P1≠m6)
  (k66:fK K (.ref E)=aB)
  (p67:Ve K b "World" "World.__init__" xR)
  (p68:vo K b "check_row" "World.check_row" wz)
  (p69:vo K b "done" "World.done" jB)
  (p70:vo K b "put" "World.put" kl)
  (p71:vo K b "book" "World.book" jo)
  (p72:zV K "highest_two" kb)
  (p73:zV K "back_by" QM)
  (p74:zV K "meeting" W8)
  (p75:zV K "_law_cell_at" yt)
  (p76:zV K "_law_mixed" Qz)
  (p77:zV K "_law_digits" Z9)
  (p78:zV K "_law_next" Zl)
  (p79:zV K "_law_drawn_clock" je)
  (p80:zV K "_law_reading" yA)
  (p81:zV K "_law_times" Wd)
  (p82:zV K "_law_apart" yJ)
  (p83:zV K "_law_told" Zo)
  (p84:zV K "_law_right" yE)
  (a85:nsIn K bR "law"=aA (aA (.ref f85)))
  (l85:K.lookup f85=aA ⟨oc85,od85,.func (fnOf "law" "law" (zK qG) (z3 qG) (zu qG) .none kV85 dc85 pm85 an85 cd85 ct85),sl85⟩)
  (c85:gx K cd85 "law"=aB)
  (k85:fK K (.ref f85)=aB)
  (x0:fy K C0 qv "ValueError.__new__"=aB)
  (x1:fy K C1 qv "ValueError.__new__"=aB)
  (x2:fy K C2 qv "ValueError.__new__"=aB)
  (x3:fy K C3 qv "ValueError.__new__"=aB)
  (x4:fy K C4 qv "ValueError.__new__"=aB)
  (x5:fy K C5 qv "ValueError.__new__"=aB)
  (x6:fy K C6 qv "ValueError.__new__"=aB)
  (x7:fy K C7 qv "ValueError.__new__"=aB)
  (x8:fy K C8 qv "ValueError.__new__"=aB)
  (x10:fy K L qv "ValueError.__new__"=aB)
  (x11:fy K J qv "ValueError.__new__"=aB)
  (x12:fy K I qv "ValueError.__new__"=aB)
  (x13:fy K H qv "ValueError.__new__"=aB)
  (zn:P0≠P1)
  (zl:KS K=aB)
  (zc:mQ K ⟨[(10,C0),(12,C1),(13,C2),(15,C3),(16,C4),(17,C5),(18,C6),(19,C7),(20,C8),(21,C9),(22,L),(23,J),(24,I),(25,H),(26,C14)],[(40,CC4),(41,q),(42,D),(43,o),(44,C),(46,p),(45,a),(47,b)]⟩ cls fld=aB)
  (zg:Ba K ⟨[(10,C0),(12,C1),(13,C2),(15,C3),(16,C4),(17,C5),(18,C6),(19,C7),(20,C8),(21,C9),(22,L),(23,J),(24,I),(25,H),(26,C14)],[(40,CC4),(41,q),(42,D),(43,o),(44,C),(46,p),(45,a),(47,b)]⟩ ["ValueError","all","bool","dict","int","isinstance","len","list","max","min","range","reversed","sorted","str","sum","tuple"] [("HouseError",10),("NoShape",12),("NoName",13),("NoClock",15),("NoTime",16),("NoHolder",17),("NoLease",18),("Ended",19),("TooMany",20),("Empty",22),("NoNote",23),("Fallen",24),("NoRow",25)] [("Wait",21,29),("Backward",26,25)]=aB) :
  (KS K=aB/\∀P∈[P0,P1],K.lookup P=aE/\P≠m6/\∃c,mX K c P=aB)/\∃fd:FuncData,(∀(s:a_) (v:aC),jp s fd ⟨[v],[]⟩ [("_law_script",v)])/\∀base:aT,K.In base->base.Ns bR mg->(∀P∈[P0,P1],base.BuiltinsAt mg P)->bY l.prog w K mg base (dG l.prog w) 79 fa fd ["_law_script"] (WB [P0,P1]):=by
 have e:=hfa.symm.trans (eL X G a85);cases e;have F31:=yd (st:=qy) l31 c31 k31;have b31:=F31.binds (ps:=["grants","moment","span"]) λ_ _ _ _ _ _=>E_ λ_ _ _=>rfl;have b45:=Qv (K:=K) (fd:=fnOf "__init__" "House.__init__" (zK zw) (z3 zw) (zu zw) (.ref y) S V Q an45 A Y) (ps:=["self","shape","ahead","stride","keeper","note"]) rfl d45 rfl <| Lj λ_ _ _ _ _ _=>⟨_,rfl,rfl⟩
 have bd45:=Wl (K:=K) (d:=.none) (fd:=fnOf "__init__" "House.__init__" (zK zw) (z3 zw) (zu zw) (.ref y) S V Q an45 A Y) (ps:=["self","shape","ahead","stride","keeper","note"]) rfl d45 rfl <| Ms λ_ _ _ _ _=>⟨_,rfl,rfl⟩
 have b55:=Qv (K:=K) (fd:=fnOf "ask" "House.ask" (zK zz) (z3 zz) (zu zz) (.ref u) R U O an55 z W) (ps:=["self","reading","many"]) rfl d55 rfl <| E_ λ_ _ _=>⟨_,rfl,rfl⟩
 have bd55:=Wl (K:=K) (d:=.int 1 tz55) (fd:=fnOf "ask" "House.ask" (zK zz) (z3 zz) (zu zz) (.ref u) R U O an55 z W) (ps:=["self","reading","many"]) rfl d55 rfl <| L6 λ_ _=>⟨_,rfl,rfl⟩
 have F66:=yd (st:=zP) l66 c66 k66;have b66:=F66.binds (ps:=["self","seat"]) λ_ _ _ _ _ _=>Es λ_ _=>rfl;have F85:=yd (st:=qG) l85 c85 k85;have b85:=F85.binds (ps:=["_law_script"]) λ_ _ _ _ _ _=>ID λ_=>rfl;refine⟨⟨zl,λP hP=>by rcases cO.mp hP with rfl|hP;exact⟨zk0,zs0,cA0,zt0⟩;rw[bV.mp hP];exact⟨zk1,zs1,cA1,zt1⟩⟩,⟨fnOf "law" "law" (zK qG) (z3 qG) (zu qG) .none kV85 dc85 pm85 an85 cd85 ct85,λs v=>.of_eq rfl,λbase g k nbt=>?_⟩⟩;let B:=@Tq l w K mg base;have Z:Pk RU K mg base _ _ _:=⟨ZS,g,k,zc⟩;have g0:bF l.prog w K mg base ⟨[(10,C0),(12,C1),(13,C2),(15,C3),(16,C4),(17,C5),(18,C6),(19,C7),(20,C8),(21,C9),(22,L),(23,J),(24,I),(25,H),(26,C14)],[(40,CC4),(41,q),(42,D),(43,o),(44,C),(46,p),(45,a),(47,b)]⟩ (AC pZ ([(P0,[⟨155,36,155,64⟩],((("least_begin":aG)++".<locals>.")++"<lambda>")),(P1,[⟨421,64,421,91⟩],((("World.come_up":aG)++".<locals>.")++"<lambda>"))]:List (aF×List Pos×aG))) 0 ry (λj=>([(P0,[⟨155,36,155,64⟩],((("least_begin":aG)++".<locals>.")++"<lambda>")),(P1,[⟨421,64,421,91⟩],((("World.come_up":aG)++".<locals>.")++"<lambda>"))]:List (aF×List Pos×aG))[j]?):=KY g k zg ⟨⟨C0,rfl,x0⟩,⟨C1,rfl,x1⟩,⟨C2,rfl,x2⟩,⟨C3,rfl,x3⟩,⟨C4,rfl,x4⟩,⟨C5,rfl,x5⟩,⟨C6,rfl,x6⟩,⟨C7,rfl,x7⟩,⟨C8,rfl,x8⟩,⟨L,rfl,x10⟩,⟨J,rfl,x11⟩,⟨I,rfl,x12⟩,⟨H,rfl,x13⟩,trivial⟩;have g1:B 1 BE:=Z.fn p0 g0 KI rfl rfl (λ_ _ _ _ _ _ _=>rfl) rfl;have g2:B 2 BD:=Z.fn p1 g1 YS rfl rfl (λ_ _ _ _ _ _ _=>rfl) rfl;have g3:B 3 BC:=Z.fn p2 g2 x_ rfl rfl (λ_ _ _ _ _ _ _=>rfl) rfl;have g4:B 4 BB:=Z.fn p3 g3 JS rfl rfl (λ_ _ _ _ _ _ _ _=>rfl) rfl;have g5:B 6 BA:=Z.cl p4 g4 WG rfl rfl rfl (λ_ _ _ _ _ _ _ _ _ _=>rfl) rfl;have g6:B 7 Bz:=Z.fn p5 g5 JQ rfl rfl (λ_ _ _ _ _ _ _=>rfl) rfl;have g7:B 8 By:=Z.fn p6 g6 Ub rfl rfl (λ_ _ _ _ _ _ _ _=>rfl) rfl;have g8:B 9 Bx:=Z.fn p7 g7 Vq rfl rfl (λ_ _ _ _ _ _ _ _=>rfl) rfl;have g9:B 10 Bw:=Z.fn p8 g8 Vb rfl rfl (λ_ _ _ _ _ _ _ _=>rfl) rfl;have g10:B 11 tT:=Z.fn p9 g9 U7 rfl rfl (λ_ _ _ _ _ _ _ _ _ _=>rfl) rfl;have g11:B 12 Fd:=Z.fn p10 g10 KA rfl rfl (λ_ _ _ _ _ _ _ _=>rfl) rfl;have g12:B 12 Et:=bF.add g11 ⟨_,(.int 0),eL g k v11,⟨_,rfl⟩,λ_ _ _=>rfl⟩ rfl;have g13:B 12 Fc:=bF.add g12 ⟨_,(.int 1),eL g k v12,⟨_,rfl⟩,λ_ _ _=>rfl⟩ rfl;have g14:B 12 Ak:=bF.add g13 ⟨_,(.int 2),eL g k v13,⟨_,rfl⟩,λ_ _ _=>rfl⟩ rfl;have g15:B 13 wf:=Z.fn p14 g14 YW rfl rfl (λ_ _ _ _ _ _ _=>rfl) rfl;have g16:B 14 AA:=Z.fn p15 g15 Jk rfl rfl (λ_ _ _ _ _ _ _=>rfl) rfl;have g17:B 16 t5:=Z.cl p16 g16 V2 rfl rfl rfl (λ_ _ _ _ _ _ _ _ _=>rfl) rfl;have g18:B 17 t7:=Z.met p17 g17 yX rfl rfl rfl rfl (λ_ _ _ _ _ _ _ _=>rfl) rfl;have g19:B 18 wn:=Z.fn p18 g18 WT rfl rfl (λ_ _ _ _ _ _ _ _ _=>rfl) rfl;have g20:B 19 Av:=Z.fn p19 g19 Rf rfl rfl (λ_ _ _ _ _ _ _ _ _ _=>rfl) rfl;have g21:B 20 EI:=Z.fn p20 g20 U1 rfl rfl (λ_ _ _ _ _ _ _ _ _ _=>rfl) rfl;have g22:B 20 EA:=bF.add g21 ⟨_,(.int 0),eL g k v21,⟨_,rfl⟩,λ_ _ _=>rfl⟩ rfl;have g23:B 20 EQ:=bF.add g22 ⟨_,(.int 1),eL g k v22,⟨_,rfl⟩,λ_ _ _=>rfl⟩ rfl;have g24:B 20 AO:=bF.add g23 ⟨_,(.int 2),eL g k v23,⟨_,rfl⟩,λ_ _ _=>rfl⟩ rfl;have g25:B 21 Af:=Z.fn p24 g24 JY rfl rfl (λ_ _ _ _ _ _ _ _=>rfl) rfl;have g26:B 22 Fl:=Z.fn p25 g25 Q0 rfl rfl (λ_ _ _ _ _ _ _ _=>rfl) rfl;have g27:B 22 EL:=bF.add g26 ⟨_,(.str "abcdefghijklmnopqrstuvwxyz"),eL g k v26,⟨_,rfl⟩,λ_ _ _=>rfl⟩ rfl;have g28:B 22 AJ:=bF.add g27 ⟨_,(.int 8),eL g k v27,⟨_,rfl⟩,λ_ _ _=>rfl⟩ rfl;have g29:B 23 AE:=Z.fn p28 g28 Jd rfl rfl (λ_ _ _ _ _ _ _=>rfl) rfl;have g30:B 25 Ao:=Z.cl p29 g29 W_ rfl rfl rfl (λ_ _ _ _ _ _ _ _ _=>rfl) rfl;have g31:B 26 tQ:=Z.fn p30 g30 Rc rfl rfl (λ_ _ _ _ _ _ _ _ _=>rfl) rfl;have W31:bY l.prog w K mg base (dG l.prog w) 27 T _ ["grants","moment","span"] (eU _ 3 wc):=xh (m:=2) ZS (Zj (N:=["grants","moment","span","begin","grant"]) (G:=["sorted","meets"]) (cel:=[]) (own:=[]) (lam:=aA (0,[⟨155,36,155,64⟩])) g k zc g31) l31 c31 rfl rfl Q1 (λj pos e=>by cases e;exact⟨by decide,cA0,P0,rfl,codeHd_of_K g zt0,nbt _ (.head _),rfl⟩);have g32:B 27 AZ:=bF.add (g31.mono (by decide)) ⟨T,eL g k a31,_,_,27,k31,b31,by decide,W31,wG⟩ rfl;have g33:B 28 tX:=Z.fn p32 g32 Q2 rfl rfl (λ_ _ _ _ _ _ _ _ _=>rfl) rfl;have g34:B 30 tP:=Z.cl p33 g33 ZY rfl rfl rfl (λ_ _ _ _ _ _ _ _=>rfl) rfl;have g35:B 31 At:=Z.met p34 g34 kr rfl rfl rfl rfl (λ_ _ _ _ _ _ _ _ _ _ _=>rfl) rfl;have g36:B 32 AL:=Z.met p35 g35 kK rfl rfl rfl rfl (λ_ _ _ _ _ _ _ _=>rfl) rfl;have g37:B 33 t9:=Z.met p36 g36 jR rfl rfl rfl rfl (λ_ _ _ _ _ _ _ _ _ _=>rfl) rfl;have g38:B 34 AM:=Z.met p37 g37 Vl rfl rfl rfl rfl (λ_ _ _ _ _ _ _ _ _ _ _=>rfl) rfl;have g39:B 36 AK:=Z.cl p38 g38 WX rfl rfl rfl (λ_ _ _ _ _ _ _ _ _ _=>rfl) rfl;have g40:B 37 AS:=Z.fn p39 g39 YJ rfl rfl (λ_ _ _ _ _ _ _ _ _=>rfl) rfl;have g41:B 38 v0:=Z.fn p40 g40 kA rfl rfl (λ_ _ _ _ _ _ _ _=>rfl) rfl;have g42:B 39 AR:=Z.fn p41 g41 Qq rfl rfl (λ_ _ _ _ _ _ _ _ _=>rfl) rfl;have g43:B 41 AN:=Z.cl p42 g42 Jw rfl rfl rfl (λ_ _ _ _ _ _ _ _=>rfl) rfl;have g44:B 42 tU:=Z.met p43 g43 Kp rfl rfl rfl rfl (λ_ _ _ _ _ _ _ _=>rfl) rfl;have g45:B 43 ww:=bF.add (g44.mono (by decide)) (O1 (n:=60) (tbs:=([(P0,[⟨155,36,155,64⟩],((("least_begin":aG)++".<locals>.")++"<lambda>")),(P1,[⟨421,64,421,91⟩],((("World.come_up":aG)++".<locals>.")++"<lambda>"))]:List (aF×List Pos×aG))) (G:=tW) ZS (by show 2<=100;decide) (gR.mem (ls:=pZ) ⟨rfl,trivial⟩) (Zj (N:=[]) (G:=[]) (cel:=[]) (own:=[]) (lam:=aE) g k zc g44) M8.mem) rfl;have W45:bY l.prog w K mg base (dG l.prog w) 44 t _ ["self","shape","ahead","stride","keeper","note"] (eU _ 6 qk):=xh (m:=0) ZS (Zj (N:=["self","shape","ahead","stride","keeper","note"]) (G:=["is_from_nought","NoTime","NoNote"]) (cel:=[]) (own:=["batches"]) (lam:=aE) g k zc g45) l45 c45 rfl rfl Z1;have g46:B 45 E9:=bF.add (g45.mono (by decide)) ⟨a,t,_,_,44,rfl,eL g k q45,⟨mk45,i45,j45,kk45⟩,b45,by decide,W45,wG⟩ rfl;have g47:B 45 wr:=bF.add (x:=ri "House") g46 ⟨a,t,_,_,44,rfl,eL g k q45,⟨mk45,i45,j45,kk45⟩,bd45,by decide,W45,wG,rfl⟩ rfl;have g48:B 46 tM:=Z.met p46 g47 yi rfl rfl rfl rfl (λ_ _ _ _ _ _ _=>rfl) rfl;have g49:B 47 AU:=Z.met p47 g48 WH rfl rfl rfl rfl (λ_ _ _ _ _ _ _=>rfl) rfl;have g50:B 48 AY:=Z.met p48 g49 Zp rfl rfl rfl rfl (λ_ _ _ _ _ _ _ _ _=>rfl) rfl;have g51:B 49 wl:=Z.met p49 g50 jr rfl rfl rfl rfl (λ_ _ _ _ _ _ _ _=>rfl) rfl;have g52:B 50 AG:=Z.met p50 g51 vF rfl rfl rfl rfl (λ_ _ _ _ _ _ _=>rfl) rfl;have g53:B 51 AW:=Z.met p51 g52 kR rfl rfl rfl rfl (λ_ _ _ _ _ _ _=>rfl) rfl;have g54:B 52 t6:=Z.met p52 g53 jD rfl rfl rfl rfl (λ_ _ _ _ _ _ _ _ _=>rfl) rfl;have g55:B 53 As:=Z.met p53 g54 jS rfl rfl rfl rfl (λ_ _ _ _ _ _ _ _=>rfl) rfl;have g56:B 54 xL:=Z.met p54 g55 kU rfl rfl rfl rfl (λ_ _ _ _ _ _ _ _ _=>rfl) rfl;have W55:bY l.prog w K mg base (dG l.prog w) 55 r _ ["self","reading","many"] (eU _ 3 qE):=xh (m:=1) ZS (Zj (N:=["self","reading","many","batch"]) (G:=["names_of_batch"]) (cel:=[]) (own:=["batches"]) (lam:=aE) g k zc g56) l55 c55 rfl rfl Q4;have g57:B 55 E5:=bF.add (g56.mono (by decide)) ⟨a,r,_,_,55,rfl,WD (c:=45) zc rfl,⟨i55,j55,k55⟩,λi h=>absurd (cP (show i5[i]?=aA "ask" from h)) (by decide +kernel),b55,by decide,W55,wG⟩ rfl;have g58:B 55 Fo:=bF.add (x:=ri (eD "ask")) g57 ⟨a,r,_,_,55,_,(.int 1),rfl,WD (c:=45) zc rfl,⟨i55,j55,k55⟩,λi h=>absurd (cP (show i5[i]?=aA "ask" from h)) (by decide +kernel),bd55,⟨_,rfl⟩,λ_ _ _=>rfl,by decide,W55,wG,rfl⟩ rfl;have g59:B 55 EB:=bF.add g58 (MC (eL g k v56) y56 w56 ⟨⟨_,_,rfl⟩,⟨_,_,rfl⟩,⟨_,_,rfl⟩,⟨_,_,rfl⟩,⟨_,_,rfl⟩,⟨_,_,rfl⟩,⟨_,_,rfl⟩,trivial⟩ (by decide)) rfl;have g60:B 55 EK:=bF.add g59 ⟨_,(.int 0),eL g k v57,⟨_,rfl⟩,λ_ _ _=>rfl⟩ rfl;have g61:B 55 Fs:=bF.add g60 ⟨_,(.int 1),eL g k v58,⟨_,rfl⟩,λ_ _ _=>rfl⟩ rfl;have g62:B 55 Ez:=bF.add g61 ⟨_,(.int 2),eL g k v59,⟨_,rfl⟩,λ_ _ _=>rfl⟩ rfl;have g63:B 55 EO:=bF.add g62 ⟨_,(.int 3),eL g k v60,⟨_,rfl⟩,λ_ _ _=>rfl⟩ rfl;have g64:B 55 Fu:=bF.add g63 ⟨_,(.int 4),eL g k v61,⟨_,rfl⟩,λ_ _ _=>rfl⟩ rfl;have g65:B 55 AV:=bF.add g64 ⟨_,(.int 3),eL g k v62,⟨_,rfl⟩,λ_ _ _=>rfl⟩ rfl;have g66:B 56 AI:=Z.fn p63 g65 Kb rfl rfl (λ_ _ _ _ _ _ _=>rfl) rfl;have g67:B 57 Au:=Z.fn p64 g66 Uu rfl rfl (λ_ _ _ _ _ _ _=>rfl) rfl;have g68:B 58 Aq:=Z.fn p65 g67 V1 rfl rfl (λ_ _ _ _ _ _ _=>rfl) rfl;have W66:bY l.prog w K mg base (dG l.prog w) 59 E _ ["self","seat"] (eU _ 2 zL):=Nw (m:=0) (cut:=0) (ds:=qA) ZS (LQ (F:=["seat"]) (Zj (N:=["self","seat"]) (G:=["House"]) (cel:=["seat"]) (own:=[]) (lam:=aA (1,[⟨421,64,421,91⟩])) g k zc g68)) l66 c66 rfl rfl yf yY (λj pos e=>by cases e;exact⟨by decide,cA1,P1,rfl,codeHd_of_K g zt1,nbt _ (.tail _ (.head _)),rfl⟩);have g69:B 59 Ay:=bF.add (g68.mono (by decide)) ⟨b,E,_,_,59,rfl,WD (c:=47) zc rfl,⟨i66,j66,k66⟩,λi h=>absurd (cP (show i5[i]?=aA "come_up" from h)) (by decide +kernel),b66,by decide,W66,wG⟩ rfl;have g70:B 61 Aw:=Z.cl p67 g69 V3 rfl rfl rfl (λ_ _ _ _ _ _ _ _ _ _ _=>rfl) rfl;have g71:B 62 Ap:=Z.met p68 g70 jQ rfl rfl rfl rfl (λ_ _ _ _ _ _ _ _=>rfl) rfl;have g72:B 63 Ad:=Z.met p69 g71 uA rfl rfl rfl rfl (λ_ _ _ _ _ _ _ _=>rfl) rfl;have g73:B 64 Ax:=Z.met p70 g72 Qm rfl rfl rfl rfl (λ_ _ _ _ _ _ _ _=>rfl) rfl;have g74:B 65 wT:=Z.met p71 g73 ur rfl rfl rfl rfl (λ_ _ _ _ _ _ _=>rfl) rfl;have g75:B 66 Aa:=Z.fn p72 g74 Z_ rfl rfl (λ_ _ _ _ _ _ _ _=>rfl) rfl;have g76:B 67 u8:=Z.fn p73 g75 YK rfl rfl (λ_ _ _ _ _ _ _ _=>rfl) rfl;have g77:B 68 A4:=Z.fn p74 g76 Ua rfl rfl (λ_ _ _ _ _ _ _ _ _ _ _ _=>rfl) rfl;have g78:B 69 ul:=Z.fn p75 g77 VU rfl rfl (λ_ _ _ _ _ _ _ _=>rfl) rfl;have g79:B 70 AQ:=Z.fn p76 g78 Us rfl rfl (λ_ _ _ _ _ _ _ _=>rfl) rfl;have g80:B 71 v4:=Z.fn p77 g79 Ke rfl rfl (λ_ _ _ _ _ _ _=>rfl) rfl;have g81:B 72 tO:=Z.fn p78 g80 K8 rfl rfl (λ_ _ _ _ _ _ _ _=>rfl) rfl;have g82:B 73 AF:=Z.fn p79 g81 u6 rfl rfl (λ_ _ _ _ _ _ _ _=>rfl) rfl;have g83:B 74 wE:=Z.fn p80 g82 VL rfl rfl (λ_ _ _ _ _ _ _ _=>rfl) rfl;have g84:B 75 Al:=Z.fn p81 g83 Yp rfl rfl (λ_ _ _ _ _ _ _ _ _ _=>rfl) rfl;have g85:B 76 Ab:=Z.fn p82 g84 Jx rfl rfl (λ_ _ _ _ _ _ _ _ _ _=>rfl) rfl;have g86:B 77 wv:=Z.fn p83 g85 Kt rfl rfl (λ_ _ _ _ _ _ _ _ _ _ _ _=>rfl) rfl;have g87:B 78 Fx:=Z.fn p84 g86 JL rfl rfl (λ_ _ _ _ _ _ _ _ _ _ _ _ _ _=>rfl) rfl;have W85:bY l.prog w K mg base (dG l.prog w) 79 fa _ ["_law_script"] (eU _ 1 xj):=xh (m:=18) ZS (Zj (N:=["_law_script","_law_source","_law_moments","_law_counts","_law_houses","_law_ahead","_law_begin","_law_end","_law_first","_law_second","_law_one","_law_other","_law_shape","_law_more","_law_early","_law_late","_law_high","_law_low","_law_told_here"]) (G:=["_law_digits","_law_cell_at","_law_next","_law_drawn_clock","Clock","Shape","_law_told","_law_apart","_law_reading","min","max","isinstance","list","_law_right"]) (cel:=[]) (own:=["{:}"]) (lam:=aE) g k zc g87) l85 c85 rfl rfl Yq;exact S2 (f:=xj) nZ rfl rfl zn W85
end NH.K54
section
open PySem PySem.W PyProof.Rows
set_option maxRecDepth 100000 in
set_option maxHeartbeats 0 in
theorem PySem.Challenge.cw_namehouses_k54_the_bound_is_met_holds : PySem.Challenge.rw_namehouses_k54_the_bound_is_met.Holds := by
 w_on;o_law;k_head;(case hw=>w_witness2);k_fill;refine NH.walkTs (l:=PySem.Challenge.rw_namehouses_k54_the_bound_is_met) (k:=79) (x:="_law_script") (by decide) rfl rfl (λw h Y=>PySem.W.km_in_of Y) (λw h Y=>NH.swT (PySem.W.km_tabs_of Y)) ?F;case F=>
  intro w mg fa h KX G hmg
  refine' NH.K54.all_mk KX G hmg ?aa ?ab ?ac ?ad ?ae ?af ?ag ?ah ?ai ?aj ?ak ?al ?am ?an ?ao ?ap ?aq ?ar ?zas ?zat ?au ?av ?aw ?ax ?ay ?az ?ba ?bb ?bc ?bd ?be ?bf ?bg ?bh ?bi ?bj ?bk ?bl ?bm ?bn ?bo ?bp ?bq ?br ?bs ?bt ?bu ?bv ?bw ?bx ?zby ?bz ?ca ?cb ?cc ?cd ?ce ?cf ?cg ?ch ?ci ?cj ?ck ?cl ?cm ?cn ?co ?cp ?cq ?cr ?cs ?ct ?cu ?cv ?cw ?cx ?cy ?cz ?da ?db ?dc ?dd ?de ?df ?dg ?dh ?di ?dj ?dk ?dl ?dm ?dn ?zdo ?dp ?dq ?dr ?ds ?dt ?du ?dv ?dw ?dx ?dy ?dz ?ea ?eb ?ec ?ed ?ee ?ef ?eg ?eh ?ei ?ej ?ek ?el ?em ?en ?eo ?ep ?eq ?er ?es ?et ?eu ?ev ?ew ?ex ?ey ?ez ?fa ?fb ?fc ?fd ?fe ?ff ?fg ?fh ?fi ?fj ?fk ?fl ?fm ?fn ?fo ?fp ?fq ?fr
  case cn=>k_is
  case zat|bf|bs|cc|ch|cl|ef=>exact NH.clp (by k_is) (by k_is) (by k_is) (by k_is) (by k_is) (by k_is) (by k_is) (by k_is)
  case ap|aq|ar|zas|au|av|aw|ax|ay|az|bd|be|bh|bi|bj|bn|bo|br|bt|cb|ci|cj|ck|du|dv|dw|ek|el|em|en|eo|ep|eq|er|es|et|eu|ev|ew=>exact NH.dfp (by k_is) (by k_is) (by k_is) (by k_is)
  case bg|cd|ce|cf|cg|cm|cw|cx|cy|cz|da|db|dc|dd|de|eg|eh|ei|ej=>exact NH.mtp (by k_is) (by k_is) (by k_is) (by k_is) (by k_is)
  case aa|ab|ac|ad|ae|af|ag|ah|ai|aj|ak|al|am|an|ao|ba|bb|bc|bk|bl|bm|bp|bq|bu|bv|bw|ca|co|cp|cq|cr|cs|ct|cu|cv|df|dg|dh|di|dj|dk|dl|zdo|dp|dq|dr|ds|dt|dx|dy|dz|ea|ee|ex|ey|ez|fa=>k_is
  case bx|zby|dm|eb|ec|fp|fq|fr=>exact rfl
  case bz|dn|ed|fo=>decide
  case fb|fc|fd|fe|ff|fg|fh|fi|fj|fk|fl|fm|fn=>k_exc
end
