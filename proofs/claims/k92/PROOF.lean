import PyProof.Rows.All
import Wide.All
import OpenK.AllK
import Wide.FinOn
import Lean
import PyProof.EqAt
import PyProof.EqKinds
import PyProof.TupleCall
import PyProof.DictIter
import PyProof.StationsW
import PySem.Syntax
import KE.KLam
import PyProof.StrBlockH
import KE.KRevIter
import PyProof.JoinWalk
import PyProof.CollectIter
import PyProof.StrCalls
import PyProof.DictStraight
import PyProof.Rows.Range3
import PyProof.StrWalks
import PyProof.LongRange
import KE.KTryMore
import KE.KItem
import PyProof.NsDelKeeps
import PyProof.DictTable
import PyProof.WalkInts
import PyProof.Rows.SortStr
import PyProof.Rows.SortWalk
import PyProof.EnumMake
import PyProof.EnumFor
import KE.KRevSl
import PyProof.Rows.StrNews
import KE.KMinBuiltin
import KE.KSortKey
import PyProof.ZipIter
import PyProof.ExcInit
import PyProof.ExcClass2
import PyProof.InstStoreFacts
import PyProof.FString
import KE.LcSums
import KE.KIntText
import PyProof.StrBlock2
import PyProof.DictWalks
import KE.KSortTup
import PyProof.Rows.SortRev
import PyProof.AttrMissHeap
import PyProof.Rows.SetFrom
import KE.KDictOf
import PyProof.DictUpdate
import PyProof.DictTruth
import PyProof.DictItems
import KE.KPairComp
import PySem.Challenge.RW_namehouses_k92_whole_how_far_names_are_b
set_option Elab.async false
open Option renaming some→aA,none→aF
open PySem renaming Value→aB,Addr→aE,Str→aG,Expr→aH,Heap→aR,Obj→bB,Stmt→bE
open Bool renaming true→aC,false→aD
open List renaming getElem?_eq_some_iff→bH,length_map→bG,mem_singleton→bU,mem_of_getElem?→cD,getElem?_set_ne→cP,mem_append_right→dF,mem_append→b_,getElem?_append_left→eN,getElem?_map→c8,mem_cons_of_mem→dQ,mem_cons→cC,getElem?_eq_getElem→eQ,size_toArray→dJ,mem_append_left→d_,mem_cons_self→d9,getElem?_append_right→fT,mem_map→cN,map_append→eM,map_cons→dW,length_cons→eZ,all_eq_true→fQ,map_map→eO,mem_iff_getElem?→ii,take_add_one→gB,lookup_cons→gm,contains_iff_mem→iA,append_nil→gA,length_append→ig,mem_filter→gN,length_take→gV,take_of_length_le→lb,pairwise_iff_getElem→mB,mem_nil_iff→iz,range→gx,getElem?_set_self→nl,nodup_append→lN,pairwise_map→lM,filterMap_eq_map'→ni,lookup→gR,mem_iff_getElem→nh,pairwise_append→nv,nodup_cons→lV,length_nil→lU,replicate→lR,getElem?_eq_none→oM,length→iR,rec→gy,all_cons→lK,filterMap_cons→oG,getElem?_replicate→rH,pairwise_singleton→rG,mem_filterMap→ou,pairwise_cons→ol,set_append_right→rE,take_sublist→oj,mem_of_mem_take→rK,isEmpty_iff→oB,filterMap_cons_none→Al,filterMap_cons_some→Ak,find?_cons→oy,zip_cons_cons→rC,getElem?_cons_succ→Ag,length_eq_zero_iff→Ab,mem_range→n7,all_map→mV,length_singleton→wP,getElem_inj→rh,cons_append→rf,take_length→rc,any_cons→n_,of_mem_zip→rA,length_zip→rn,contains_cons→wr,nodup_iff_pairwise_ne→Fa,drop_eq_getElem_cons→E_,any_eq_false→v6,length_range→t_,getElem_take→t9,length_drop→t5,getElem?_cons_zero→Fl,forIn_cons→tY,length_replicate→E5,take_append_drop→EG,mem_of_mem_drop→EC,map_congr_left→EW,map_eq_nil_iff→ES,zip_nil_right→EJ,zip_nil_left→D5,getElem_mem→Ei,mem_reverse→Eh,ext_getElem→Eg,getElem_zip→Ef,map_reverse→Ed,map_snd_zip→Ec,filter_cons→Eb,length_set→D_,nil_append→DU,map_nil→Du,map→sP,find?→Dz
open PySem.Heap renaming get?_push_of_some→bP,lt_size→bY,get?_push_size→dP,get?_none_of_le→iS,SameBut→fU,size_push→iy,get?_update_other→nj,get?_update_ne→ow,get?_update_self→rF,MadeExcOf→n6,size_update→wl,get?_push_ne→DZ,get?_push_at→DY
open Nat renaming le_refl→bC,lt_of_lt_of_le→dM,le_trans→cL,ne_of_lt→c7,zero_le→f9,ne_of_gt→gU,lt_succ_self→lL,lt_irrefl→iQ,le_succ→h_,le_of_eq→i9,beq→fO,lt_of_le_of_lt→om,lt_succ_of_lt→og,le_of_lt→mq,eq_of_beq_eq_true→wE,not_lt_zero→rl,lt_trans→tw,min_self→tj,rec→pq,ble→pj,lt_or_ge→Do,log2_lt→Dd
open Option.some renaming inj→bT,injEq→ri
open PySem.W renaming Frag→bK,findIn→cZ,fnOf→fA,emptyDict→jp,mroIn→gT,codeIn→fD,instObj→lW,kla_obj→lT,CodeHd→lQ,hasDictIn→lP,specialIn→mu,plainGet_of→oF,keepIn→eS,tabObj→mo,mg_of→dO,callWith_K→oo,plainGet→oC,callWith_K0→rJ,excIn→fF,cellsFrom_some→Aa,nsIn→mU,kitx_dict→rj,exmOne→n5,clsIn→mj,takesIn→ry,looks_clsIn→Ac,lookIn→rk,kitOne→p_,isNs_of_in→wv,methodObj→wf,plainOver→u8,Looks→nW,any_some→t7,KitX→pY,takerIn→t4,looks_findIn→pO,kitAny→tM,kla_fn→tL,kla_callFunE→Ez,kla_codeExpr→Ey,kas_sort→mP,codeRec_of→EL,mg_none_of→Eu,isFn→tI,set_plain→D8,kitx_list→D1,handedIn→DW,kla_eval→Ee,codeHdIn→nU,makesIn→nT,readsIn→s_,findCls→sZ,binds_K→DO,OpenLaw→mO,InstAt→DJ,typeIn→pA,nsOkIn→py,fnMade→DH,FnAt→Dq
open PySem renaming Shared→aU,model→aQ,mainGlobals→bR,Program→b7,sizeLine_eq→d5,wpAny_mono→dR,wpAny_Call_Name_kw→gW,compareOp→dZ,bootBuiltins→f_,mem_of_lookup→la,starEach→eF,rawInt→cW,wpAny_standAt→ie,foldedSetIterable→lO,Around→dU,World→cV,relabel→eT,wpAny_newObj_type→my,wpAny_field→ix,excClassObj→iw,sysModules→ic,wpAny_passesOwn→mx,binaryOp→gz,codeAny→fP,codeAny_mono→i8,assignEach→iu,wpAny_call→iN,wpAny_pyIter_list→oh,wpAny_loadPart_at→oE,backTo→fN,wpAny_newFunctionEnv_cells→Ap,keywordEach→lJ,CmpOp→eK,compEnvC→hY,wpAny_tryCatch→nc,swapsWith→iP,attributeBase→m_,methodCallPos→m9,plainId_quiet→m5,letOwnedTupleGo→oA,codeAny_builtin→oa,builtinsNs→lI,sliceBounds→mn,wpAny_of_eq→ml,codeAmong→i6,wpAny_typeOf→mW,codeAny_call_function→wS,wpAny_isTrue_Compare1→ww,wpAny_rule→mf,Builtin→ir,getItem→iq,wpAny_newList→n9,strLen_append→n8,codeAny_call_builtin→Ad,wpAny_letGo→mY,wpAny_execs_nil→rB,wpAny_loadPart'→rz,Keyword→iM,bindArgs→lH,NameKind→lG,backToKw→lF,wpAny_setField→ra,closureFor→mS,wpAny_FormattedValue_plain→Fc,wpAny_seqItems→pW,hashStr→i5,assign→ip,swapsWithSole→pV,swappedStores→pU,wpAny_attempt→pT,comprehension→pR,ExceptHandler→pP,wpAny_eqBool_int→t8,noFill_tuple_add→t6,wpAny_callSpecial?_slot→Fm,setFlight→mR,wpAny_comp_letGo→wn,seqItems?→mQ,holding→lC,BindsTo→lB,richCompare_meets_room→Ff,IsPart→iL,typeLookup→nZ,wpAny_pyIter_longrange→Fd,methodCall→nX,makeFunction→pX,wpAny_updateSeq→tW,ofString_length→E3,wpAny_formatField_int→E2,pyNext→i3,richCompare→pM,subscripted→pL,wpAny_Compare1→tN,wpAny_newFunctionEnv→EB,wpAny_pyIter_revIter→EA,PassesOwn→nV,OwnTail→me,valueAt→md,wpAny_isSubtype_exc→ET,behindInMarks→tT,seq_tuple_add→tS,arm_eval_Call→tQ,wpAny_pyIter_range→Ev,int_text_length_le→Er,getattributeRaised→Ep,Within→tJ,codeAny_func→tB,concat_meets→tz,wpAny_sequenceKey→D4,slot_list_getitem→D3,wpAny_pyIter_enum→D0,ExcBaseFacts→tf,cStatics→nS,pyIter→ma,wpAny_lookBehind→Eo,pastItsLine_dict→Em,cellsFrom→pF,wpAny_forIn_list→El,wpAny_call_entry→Ek,noteFrame→pE,DictEntry→pD,IsRangeIter→tG,getAttrByItsOwn→Ea,wpAny_JoinedStr→DQ,callerA→nR,wpAny_Name→sY,Result→mM,bindL→lA,bindC→ly,typeIs_str→sW,typeIs_int→sV,call_meets→sU,getAttr?→px,isInstance→sT,IsLongIter→sS,Model→l_,getMethod→sQ,leaving→pu,passOn→Dm,argsOk→nQ,call→DB
open Bool renaming and_eq_true→cI,false_ne_true→fG,not_eq_true'→ng,false_eq_true→oq,eq_iff_iff→oz,or_eq_true→tX,and_false→tO,eq_false_iff→D2,or_true→tx,false_and→DL,rec→pz,and_true→DF
open PySem.Obj renaming mapSeq→cX,mapFields→i_,isFreed_of_fields→E4,data_mapFields→EH
open PySem.Value renaming ref→cO,none→eU,int→mi,bool→mX,type→n4,notImplemented→ED,isStrOf→tV,str→pB,isInt→tH,isStrOf_shape→DN,builtin→DE,isInt_shape→DD,bytes→Dh,float→Dg
open PyProof.Rows renaming seqObj→bS,callWith_type1→ny,IntsAre→dY,slot_tuple_getitem→mv,callWith_builtin1→rO,get?_update_seq→m4,listUpdate_at→m6,envOfC→f8,AllBare→i4,subscriptTail_builtinR→Fe,call_function_entry_kw→E6,arrOf→hX,seqEpoch_at→pI,callWith_kw→pH,entry_tuple_getitem→EZ,wpAny_call_entry_kw→EU,IsTup→io,Constant_none→tU,subscriptTail→tR,args_tuple_getitem→EI,listItems_at→ti,entry_list_sort→DR,boot_range→sR,kws_cons→pv,kws_nil→pi,tuples'→pe,lt_int→sO,gt_int→C_
open Ne renaming symm→cE
open PySem.Str renaming ofString→e_,empty→mh,length→sX
open False renaming elim→eG
open Int renaming mul_le_mul_of_nonneg_right→mC,le_refl→hZ,emod_lt_of_pos→nr,emod_nonneg→mZ,ediv_lt_of_lt_mul→rD,le_trans→mT,ediv_nonneg→rq,fdiv_eq_ediv_of_nonneg→Ft,ediv_one→pZ,ediv_emod_unique→Ex,mul_nonneg→tK,mul_comm→Dl,add_comm→Dk,add_mul→Dc,one_mul→Db
open Option renaming map_eq_some_iff→lX,isSome_iff_exists→rN,bind_eq_some_iff→Af,bind_some→rg,map_some→rp,getD_some→wp,getD_none→Ej
open PySem.F renaming plain_max_loop→mz,excBase_ValueError→oJ,slot_list_getattribute→Ai,args_tuple_add_2→An,entry_tuple_add→Ah,slot_tuple_add→xL,entry_max_loop→wT,store_ValueError→E8,attr_ValueError→Fk,plainAttrs_list→Fj,plainAttrs_dict→Fi,slot_dict_items→Fg,slot_dict_get→EF
open PySem.Builtin.Range renaming rangeSize→nn,small→EX
open True renaming intro→gw
open Array renaming getElem?_eq_some_iff→oK,length_toList→nu,getElem?_setIfInBounds_ne→Fq,mem_toList_iff→EE,toList_append→EV,find?_toList→EN,forIn_toList→Et,size_zip→DG,toList→DC
open PySem.Heap.SameBut renaming update→mw
open PySem.Builtin.Str renaming occurrences→oN
open ForInStep renaming yield→lS
open PySem.W.Looks renaming here→nt,of_pure→Dj,ld→Dv
open PySem.Builtin.Slice renaming slicePlaces→rP,sliceAdjust→Ao,sliceApplied→Fp,slicePartIndex→LA,sliceFields→Lj
open PySem.Around renaming under_plainId→oI,frames_deeper→Ae,under→tF
open PySem.Builtin.Tuple renaming tupleExact→rM,tupleCompareSizes→Fs,tupleItemsOf→Fo,tupleIsExact→IU,tupleHashOf→Li
open PySem.Builtin.ObjectAttr renaming storeInDict→Aj,attrName→Fw,newKeyGuard→LC,noDictFor→Lz,bindTo→Lh
open Sum.inr renaming inj→i7
open PySem.SeqAt renaming EqAt→iO,RcAt→pG,RcNeAt→Dr
open List.Pairwise renaming nil→oi,imp_of_mem→IT,imp→IN,map→IM
open PySem.Calls renaming evalArgs_plain→rL,callWith_builtin→xz,Name_function_global→Fu,spliced_cons→EM,spliced_nil→D6
open PySem.Builtin.List renaming listTooLong→Am,listUpdate→IQ
open PySem.Builtin.Builtins renaming bindParams→Fv
open Function renaming comp_def→ul
open PySem.AutoSeq1 renaming sub_tuple_tuple→E9
open PySem.NameKind renaming free→pQ
open PySem.Builtin.Dict renaming updateFrom→Fh,selfAndRest→IS,pairItems→IL
open Sum renaming inl→lE,inr→lD
open PySem.Walks renaming list→nY
open PySem.SeqAt.EqAt renaming same→tZ,int_str→EQ,str_int→EO,int_int→EK,of_refs→Ew
open PySem.Data renaming fields→pK,cell→pC
open PySem.IsRange renaming new→pJ
open PySem.EntryCells renaming newEntry→EY
open PySem.Shared renaming TypeIs→tP
open PySem.Code renaming quiet_builtin→Es,isFrame→tD,frames→Df
open PySem.Heap.Ns1 renaming of_empty→D7
open Nat.succ renaming inj→tc
open List.Sublist renaming refl→DX
open PySem.Builtin.BaseException renaming bexcPut→LB
open List.cons renaming injEq→D9
open PySem.Heap.DictOf renaming new→DV
open StateT renaming run_pure→DT
open Array.Perm renaming refl→DS
open PySem.Builtin renaming bitAnd→DK
open PySem.SeqAt.RcNeAt renaming lists_lengths→IV,tuples→IK,lists→IP
open PySem.EqNone renaming eq_none_none→Ly,eq_none_bool→Lx,eq_bool_none→Lw,ne_none_none→Lq,ne_none_bool→Lp,ne_bool_none→Ln,eq_none_int→Lg,eq_none_str→Lf,eq_int_none→Le,eq_str_none→Lc,ne_none_int→La,ne_none_str→I_,ne_int_none→I0,ne_str_none→IY
open PySem.EqMixed renaming eq_bool_str→Lu,eq_str_bool→Lr,ne_bool_str→Lm,ne_str_bool→Ll,eq_int_str→Ld,eq_str_int→Lb,ne_int_str→IZ,ne_str_int→IW
open PySem.Paired renaming length→DM
open PySem.Heap.IsSliceOf renaming new→IJ
open PySem.W.WShape renaming has→C9
open PyProof.Rows.SortSt renaming mk'→DA
open PySem.Within renaming cons→Dy
open PyProof.Rows.IsTup renaming new→Dx
open PySem.W.WData renaming int→Dw
set_option linter.all false
set_option maxRecDepth 100000
set_option maxHeartbeats 4000000
set_option bootstrap.genMatcherCode false
noncomputable section
namespace PySem.W
structure Fast:Prop where
 (tw11999489160087711447 tw16330441297596915295 tw15598083480145086611 tw9370778015874449756 tw13004758211284456652 tw11778032338080890848 tw18085962662811107812 tw7945268131712910884 tw5946792656315198520 tw10304208444432414799 tw14079891789298013576 tw2033301324303988718 tw2208874237142960922 tw551455870041750932 tw8152827612455041401 tw15405942153699860528 tw12089416379836781967 tw18162764446422404545 tw8987562457455520231 tw2852739988683078597 tw9186288541102585875 tw9160367856153365018 tw13300126799837060923 tw6556904302917901999 tw8742735181510274805 tw12104602012408162693 tw6331678255476397367 tw9467624706195605036 tw18070428029198883333 tw12433481084965001206 tw13126280001780038194 tw598504311538238237 tw11301531687198265905 tw5980156830070780897 tw1702052225210958827 tw8933661746388576478 tw1591087997183302243 tw17578137988731177466 tw8336534891845737132 tw1916025516576960275 tw13464050445553976775 tw6280094571239593861 tw2742639642086040126 tw5809303426620313181 tw1108825069791864867 tw3530006232134524604 tw5821297984993768724 tw10274920625955282786 tw4969206275590175226 tw1265015367972406099 tw1442954633235962400 tw13168614009410521858 tw4573975249307507283 tw16498654565680839783 tw11917613334242235311 tw12539530309507434680 tw3176968869992362712 tw12539336965817112057 tw886487106907472435 tw12144819569559620862 tw16269566565932162119 tw5097068822954065986 tw10399364634803833038 tw2121736852195749380 tw424831457669116809 tw6865422140673587234 tw2656996791064765547 tw5765219971496323986 tw12407413981179933383 tw6622815736387013123 tw2188739307803288402 tw17902650011212697867 tw3307400953401035328 tw12499472468353259486 tw2207857194795569630 tw12983639967656414465 tw3499714788654645443 tw13347404667868764412 tw8884008343673107178 tw12261344937634023668 tw15320862371199824207 tw985724204696739340 tw12241929525055527818 tw17375118780203445640 tw16515719876631429198 tw9282946406446473244 tw3088273535200929693 tw1613868394107863329 tw15287687729860006223 tw14436812978182099797 tw8484532463960222917 tw9951601894632952566 tw13982608769530159648 tw6090270599438192581 tw14750888734026577647 tw14110950624318693630 tw18158564862039784589 tw17900351929652048006 tw7864687626858688570 tw14356138026938417663 tw15893172183974913531 tw6241269435839467977 tw8458409318577233507 tw14709035798063093927 tw2425792867469198783 tw7913620782874688920 tw2494943583174520511 tw18170911957510066415 tw2232029247671371852 tw15251535274046827483 tw12226915432544727050 tw1438558849703093041 tw16480874460140529932 tw12143214757639018838 tw16895068279678449087 tw3575060057984241853 tw2198791890727680348 tw2603634571681316730 tw5828830275900355187 tw11661628364937988936 tw11034906661117996076 tw7942329696578762736 tw3267017239058765937 tw4109102408199141108 tw4634266491123254803 tw10336308508624138690 tw12768298726485689635 tw5711558981680082847 tw7560682020964590636 tw17249634430846800863 tw10417867528058212801 tw7970417927059249386 tw744293738920975830 tw17055652243123253873 tw8366507744292534969 tw13987036978770652821 tw11387088464188068825 tw15314741498904743256 tw14352956520218978045 tw8525954226286069459 tw7843183834550385838 tw2079111201881991666 tw10373708524207452842 tw11629864873338165133 tw13247131262958160881 tw13906872816978483672 tw14808912829938666242 tw2560971385317042129 tw11294406970458357862 tw455567148115002332 tw10590359578402412287 tw11272051185394508066 tw687900903445024613 tw12099798715639173844 tw1705255125810942869 tw732640907659828992 tw912377352738938943 tw15744592494892060723 tw1057556253151833783 tw7344314797243135909 tw612222371918159360 tw12824174456569383412 tw2298571260143056382 tw11226698699520506569 tw1705524515431814803 tw14410421151393796355 tw7733454728119777218 tw710279034351134059 tw5184012869128660897 tw12898834554533925774 tw6652535815406109342 tw6246535106767525903 tw1574391950367013181 tw6214232405986281864 tw5514984983410371843 tw12705591671907789757 tw5726336024345966497 tw8031949659690155696 tw3136061104914125411 tw444368239976709126 tw14103169839761156595 tw962127321382222533 tw1399317328120797118 tw4904182111369818757 tw11811813086253850740 tw13049757693961548814 tw10719598474787333880 tw9117018377649966706 tw14586110466780382786 tw14587596238382700151 tw9212262141899141034 tw6002386864855015989 tw16037944348806293352 tw14267716246496201633 tw16061242238826738320 tw11682472368576494163 tw14980768579775808894 tw18050662356034269830 tw16144347419444535680 tw5887300619025508235 tw13245221972133771096 tw3674938818007935909 tw2774668071374919900 tw16569484181238341892 tw9003416440577646231 tw11481953517700187125 tw609950631266188344 tw11293315422052576077 tw7572386296489108891 tw11042236269796106669 tw11578871990102684091 tw3940503844599601583 tw15020941495323888040 tw15543464650455536605 tw11053175438832611978 tw4843299712502013033 tw2675899614742343438 tw17884247597416805159 tw9218555554772378292 tw17606987689257169976 tw948142813261275273 tw4239585084325036691 tw8741168157474372212 tw17554276595440431117 tw6095395975115499168 tw10063188964934926864 tw13843708525725953708 tw5219592269927065783 tw3635039015621494454 tw6067787906351309583 tw17771241254026710376 tw8508479362271609234 tw8437826301212685646 tw13368051319126390188 tw11013478418212200563 tw5481303212761197174 tw1517331489832334885 tw12367523012646864265 tw17513153182190127742 tw4075162436469705095 tw9323710896216219365 tw1138968964035095643 tw10499030992687814495 tw12753419935205674030 tw1958528540862254562 tw2731145324973897929 tw9130035350093384924 tw16354122611527478964 tw15713618257265478868 tw11591294592975623118 tw14559055610702848544 tw1613416267799217037 tw458538666144537481 tw10599614669652866817 tw5285060216933163355 tw17670756543308086642 tw9454878496486170770 tw10026788247285413663 tw7261811923506358150 tw13454815881438840734 tw8808998427736940801 tw2736944537868310623 tw234331604506967103 tw10854070087459243717 tw1923009947339791239 tw11922163945235435384 tw16961992761315725553 tw17104231001209057528 tw7688389363384298116 tw7504142203584209289 tw14500090314157431270 tw3482133193956560483 tw14324949336353880088 tw5485912602190616335 tw7209705133441958244 tw18212009171451661285 tw4611530155399430818 tw9929332372605446046 tw2403683273700101550 tw10346044457786559057 tw11061818727289152686 tw13893648507397846370 tw12718702257148433405 tw14665196350566825470 tw2613327945240407802 tw16119537915984431182 tw12467323306672921582 tw8651492533915893476 tw4609758108977801901 tw7707915117832998772 tw475772927197570406 tw16156546703112543271 tw11072385181543610279 tw5939694731116961758 tw14641915877058393683 tw2931077466377410856 tw17597847798585833408 tw1565805685402270325 tw4226450289816665655 tw8729024801244113450 tw16204891378332099863 tw14997964726917829950 tw2751009213224202616 tw5731754088951237279 tw8739624876540323754 tw13779371226890325752 tw13760651855215521981 tw16378531687101013029 tw2574973847230966651 tw8497642164402698837 tw11089547486330327555 tw2778291753785429804 tw15247780782956341729 tw17461033190227671400 tw666511881002913287 tw7325036240016935505 tw3046409414435678324 tw6630774335169779259 tw4952556902137343384 tw13291764166933316618 tw18304475903427531787 tw18352392785037959456 tw3740557932583333279 tw6968693513531723227 tw14999592371537808887 tw12937245457585680358 tw5252016991407495250 tw15273705450482384606 tw16144929648511907562 tw2187180250677357245 tw6919925367573540918 tw6151900295262553576 tw15957431372247352962 tw7558177770543486992 tw6972283304702298860 tw15582539866883839117 tw12157523091063849003 tw18314098324504094204 tw15908090271235074046 tw11622282914638339932 tw14233351807091769102 tw6924204903916543355 tw17583029593369742368 tw7733613686682503094 tw3643871766807248970 tw12965450894539283326 tw10369354506733073646 tw974149205744088907 tw2344457214723013397 tw2806226801306742687 tw8886208537111801291 tw3876315901530562840 tw1222415149879614481 tw7574897415044851671 tw5363955997082153601 tw17129073503156348486 tw2106130619824913507 tw7423145748393063206 tw17787591695438841070 tw18223286227135492205 tw2486864799392537660 tw11551799966331504924 tw15628156754893752843 tw17541019338610994565 tw2293210558334013572 tw10263252127165250036 tw3367691803030312817 tw6603002640657440496 tw17611897916085237746 tw12019604735816801491 tw1552490175480779304 tw17104891489690224268 tw11399607888878613190 tw4902789784092897408 tw14445734332077419110 tw7251567457310931905 tw9232407691275948032 tw13773240821126894206 tw18175636228508444800 tw17648204415740680892 tw10298644131226797711 tw16456228586505099121 tw14296476430948190285 tw2699673495676575295 tw701181644129005671 tw6487796914031237694 tw18120002655611288969 tw96490839557080852 tw11033103322760842306 tw10845602642544680545 tw301507003282659840 tw8964951937012062798 tw1381346169719461569 tw527601980929253595 tw5328462987668106282 tw13537370256656204669 tw1137127489785273315 tw8919656915837168039 tw11328115745230078211 tw16146103972074430383 tw15795846409399230966 tw5844418149420794961 tw5250443815386405361 tw4725359331306781561 tw154236857188305228 tw7068978157464929277 tw12113001389346889196 tw7845003768812376603 tw2058159106672174611 tw3987111353980378310 tw6695021970548734067 tw4192106416116173503 tw10594763640545669081 tw18215920409855905259 tw12014684551967858957 tw17695920648980990182 tw7443988395613349960 tw15540260085026937754 tw2477539788747182723 tw15836562145791765011 tw3980799704514717845 tw12453803430681003912 tw1581512946485027801 tw13565046564297645171 tw1181218955172778882 tw16509307834879823775 tw14326599375986500451 tw17815900082457137680 tw5424750876214707287 tw16609009048829147757 tw1822956143511013279 tw10395521612390274604 tw9997269675171824869 tw13035874280358604810 tw11569799383389566784 tw17224861585714195800 tw7674684512822648791 tw13906924672907528554 tw14843293617921082630 tw303503133606454494 tw14041947356263326573 tw13712772570310955555 tw4620850652806505475 tw2992298753630633870 tw485052194322063866 tw2278552056375111533 tw2805916051594280399 tw3443585801794867238 tw10274215010968485823 tw7578683850027440620 tw11275344121164040499 tw10391946182944806934 tw18266676235059550710 tw9515867132606034319 tw5305358920278242073 tw16373386143501788380 tw16278218052793649240 tw6167787394072493470 tw14232680816363381866 tw11911053974644482013 tw11734057594467995873 tw18429142774834666633 tw3043296606501973489 tw1161902674721931191 tw1821763505438150231 tw7894600345991853836 tw1652832561674572906 tw10871134464048132382 tw5981008098074303765 tw8148355807201120648 tw7915391484004330483 tw13804479081693116625 tw5499402722991493820 tw1978792600610454416 tw16083593998505255981 tw4499869025392648819 tw14870340100288234839 tw13776587098443185868 tw10407263610460951507 tw16107123717156894848 tw3418534883876810522 tw3168491274284493945 tw7127231767096104197 tw12269093831656837263 tw11571456906933683668 tw15321457854645762314 tw8511943875208155176 tw10226844307875406174 tw15786693812029944633 tw12715688741463860176 tw4537916848403321054 tw8599545248836629745 tw2454779975856616308 tw10156574676523590324 tw3686671290362853560 tw9037721273937664138 tw6785086921953833653 tw9996046820691245621 tw15787957598786910292 tw6923594626462375625 tw5992994659325535526 tw3715109528991445356 tw17018407768688603718 tw8625993812554218941 tw18148987984924735659 tw7717164856150733777 tw12532970164753033097 tw5222849771078199085 tw11540006489006660945 tw10157978256325885104 tw6093356898159613694 tw3156167414103222102 tw6831020223345462950 tw9724280649534418781 tw228557881423866863 tw13009128389966104214 tw16798207894954428400 tw15550629743232704162 tw3770299773256971870 tw7323114975229534295 tw10801616562721814243 tw3756428632600392478 tw6990462969139943006 tw11979958797754202204 tw1253221266856289597 tw10866616554288189901 tw13368165577135815380 tw13904315014405657790 tw15321697868377384613 tw1008891085038791492 tw10547873811600770465 tw9347705169558349657 tw15250726690941784341 tw11546228507151547661 tw7627383403749999251 tw15987095335241447317 tw16022747315112724042 tw5417332244367837863 tw17338859723462019212 tw10853038737802260485 tw9920624303319624526 tw11466726673466980033 tw13415910692926292104 tw1267640188683525721 tw9847251023493167557 tw8568676626742585309 tw9453093790659766404 tw11273284261295139326 tw13927716571510119341 tw15276896757425113303 tw11667581637766128908 tw6023829939950368133 tw1734107078667952527 tw4703525748484242037 tw6581373991562426678 tw4343447305545485503 tw5842995919135809380 tw10076101106761816308 tw16940953441140975474 tw15703531218381136837 tw14838607416281596021 tw5250938619525815018 tw61813629243175441 tw10517913804258149651 tw3214104799321344054 tw15185315676595855558 tw17903018083434515779 tw761497721548866864 tw7162164295856019490 tw9837946529220451402 tw17199137875303304447 tw13839853004269375582 tw1531997328432141268 tw8514796389329382394 tw852413788989410236 tw1461128222966466788 tw13178856928983122698 tw12640688027559269891 tw3241025818554240859 tw7440824206190626999 tw14422362937888373202 tw10420450640014233575 tw1704963512426587651 tw17937872190907534761 tw3468526089328398356 tw2436935027858542288 tw18290661440851130886 tw10989580872388495361 tw10664437902591744106 tw6668456664062708045 tw4336372449189194896 tw18176464425903883258 tw13019809279076575660 tw12461128607349548806 tw5570087115580506539 tw5753570097299769975 tw16735199814446202920:True)
end PySem.W
section
set_option Elab.async false
namespace L2
open PySem PySem.Spec PyProof.Rows
noncomputable abbrev Key:=Sum Int aG
noncomputable def Wh:Key->aB->Bool
 |.inl k,v=>tH k v
 |.inr x,v=>tV x v
noncomputable def kY (w:cV):Key->Int
 |.inl k=>hashInt k
 |.inr x=>i5 w x
theorem zV:∀{k:Key} {v:aB},Wh k v=aC->(∃i t,k=lE i/\v=mi i t)\/(∃x t,k=lD x/\v=pB x t)
 |.inl i,v,h=>by
  obtain⟨t,e⟩:=DD (k:=i) (v:=v) h;exact .inl ⟨i,t,rfl,e⟩
 |.inr x,v,h=>by
  obtain⟨t,e⟩:=DN (x:=x) (v:=v) h;exact .inr ⟨x,t,rfl,e⟩
theorem YX(i:Int)(t:Tok):Wh (.inl i) (.int i t)=aC:=by simp[Wh,tH]
theorem W3(x:aG)(t:Tok):Wh (.inr x) (.str x t)=aC:=by simp[Wh,tV]
theorem Ov(a b:Int):decide ((lE a:Key)=lE b)=(a==b):=by
 by_cases e:a=b
 ·subst e;simp
 ·have h:¬(lE a:Key)=lE b:=λq=>e (Sum.inl.inj q);rw[decide_eq_false h];exact (beq_eq_false_iff_ne.mpr e).symm
theorem Oq(a b:aG):decide ((lD a:Key)=lD b)=decide (a=b):=by
 by_cases e:a=b
 ·subst e;simp
 ·have h:¬(lD a:Key)=lD b:=λq=>e (i7 q);rw[decide_eq_false h,decide_eq_false e]
theorem Nq(a:Int)(b:aG):decide ((lE a:Key)=lD b)=aD:=decide_eq_false (λq=>nomatch q)
theorem NK(a:aG)(b:Int):decide ((lD a:Key)=lE b)=aD:=decide_eq_false (λq=>nomatch q)
noncomputable def zE(prog:b7)(w:cV):PySem.KeyKind prog w Key where
 is:=Wh
 hash:=kY w
 inj:=λv a b l f=>by
  rcases zV l with⟨i,t,rfl,rfl⟩|⟨x,t,rfl,rfl⟩
  ·rcases zV f with⟨j,u,rfl,e⟩|⟨y,u,rfl,e⟩
   ·injection e with c _;rw[c]
   ·exact nomatch e
  ·rcases zV f with⟨j,u,rfl,e⟩|⟨y,u,rfl,e⟩
   ·exact nomatch e
   ·injection e with c _;rw[c]
 byValue:=λk v h=>by
  rcases zV h with⟨i,t,rfl,rfl⟩|⟨x,t,rfl,rfl⟩<;>rfl
 pyHash:=λd h=>by
  rcases zV d with⟨i,t,rfl,rfl⟩|⟨x,t,rfl,rfl⟩
  ·exact wpAny_pyHash_int h
  ·exact wpAny_pyHash_str h
 eqBool:=λg d h=>by
  rcases zV g with⟨i,t,rfl,rfl⟩|⟨x,t,rfl,rfl⟩
  ·rcases zV d with⟨j,u,rfl,rfl⟩|⟨y,u,rfl,rfl⟩
   ·rw[Ov] at h;exact t8 h
   ·rw[Nq] at h;exact EQ i t y u _ _ _ _ h
  ·rcases zV d with⟨j,u,rfl,rfl⟩|⟨y,u,rfl,rfl⟩
   ·rw[NK] at h;exact EO x t j u _ _ _ _ h
   ·rw[Oq] at h;exact wpAny_eqBool_str h
 «strs»:=λk x t v h=>by
  rcases zV h with⟨i,u,rfl,e⟩|⟨y,u,rfl,e⟩
  ·exact nomatch e
  ·injection e with c _;subst c;cases v<;>rfl
theorem Vv(prog:b7)(w:cV)(i:Int)(t:Tok):(zE prog w).is (.inl i) (.int i t)=aC:=YX i t
theorem Jj(prog:b7)(w:cV)(x:aG)(t:Tok):(zE prog w).is (.inr x) (.str x t)=aC:=W3 x t
end L2
namespace L2
open PySem PySem.Spec PyProof.Rows
inductive V where
 |non|bl (b:Bool)|int (i:Int)|str (x:aG)|byt (b:Array UInt8)|flt (b:UInt64)|ref (a:aE)|ty (n:String)
 deriving DecidableEq
noncomputable def RelV:V->aB->Prop
 |.non,u=>u=eU
 |.bl b,u=>u=mX b
 |.int i,u=>∃t,u=mi i t
 |.str x,u=>∃t,u=pB x t
 |.byt b,u=>∃t,u=Dh b t
 |.flt b,u=>∃t,u=Dg b t
 |.ref a,u=>u=cO a
 |.ty n,u=>u=n4 n
abbrev aW:List V->List aB->Prop:=Paired RelV
theorem aW.length{xs:List V}{us:List aB}(r:aW xs us):xs.length=us.length:=DM r
theorem aW.get:∀{xs:List V} {us:List aB} {i:Nat} {x:V},aW xs us->xs[i]?=aA x->∃u,us[i]?=aA u/\RelV x u
 |_,_,_,_,.nil,e=>by simp at e
 |_,_,0,_,.cons r _,e=>by simp at e;subst e;exact⟨_,rfl,r⟩
 |_,_,i+1,x,.cons _ t,e=>by
  obtain⟨u,h1,h2⟩:=aW.get (i:=i) (x:=x) t (by simpa using e);exact⟨u,by simpa using h1,h2⟩
theorem aW.set(r:RelV x u):∀{xs:List V} {us:List aB} (i:Nat),aW xs us->aW (xs.set i x) (us.set i u)
 |_,_,_,.nil=>.nil
 |_,_,0,.cons _ t=>.cons r t
 |_,_,i+1,.cons q t=>.cons q (aW.set r i t)
theorem aW.append:∀{xs ys:List V} {us a:List aB},aW xs us->aW ys a->aW (xs++ys) (us++a)
 |_,_,_,_,.nil,s=>s
 |_,_,_,_,.cons r t,s=>.cons r (aW.append t s)
theorem aW.take:∀{xs:List V} {us:List aB} (n:Nat),aW xs us->aW (xs.take n) (us.take n)
 |_,_,0,_=>.nil
 |_,_,_+1,.nil=>.nil
 |_,_,n+1,.cons r t=>.cons r (aW.take n t)
theorem aW.drop:∀{xs:List V} {us:List aB} (n:Nat),aW xs us->aW (xs.drop n) (us.drop n)
 |_,_,0,r=>r
 |_,_,_+1,.nil=>.nil
 |_,_,n+1,.cons _ t=>aW.drop n t
noncomputable def dB:Option V->Option aB->Prop
 |some v,aA u=>RelV v u
 |none,aF=>True
 |_,_=>False
noncomputable def KV {a:Type}:List (a×V)->List (a×aB)->Prop:=Paired λ(p:a×V) (q:a×aB)=>p.1=q.1/\RelV p.2 q.2
noncomputable def kV:Key->V
 |.inl i=>.int i
 |.inr x=>.str x
inductive HO where
 |lst (xs:List V)
 |tup (xs:List V)
 |dK (kvs:List (Key×V))|dE (ep:Nat) (kvs:List (Key×V))
 |set (S:Int->Bool) (n:Nat)
 |ins (C dx:aE) (fs:List (aG×V))
 |own (x:aE)
 |xd (fs:List (aG×V))
 |met (f x:aE)
 |rng (lo hi:Int)
 |frz (o:bB) (u:HO)
 |tbl (ps:Array aB)
 |ext (φ:aR->Prop)
noncomputable abbrev Hp:=aE->Option HO
noncomputable def upd (H:Hp)(a:aE)(o:HO):Hp:=λb=>if b=a then aA o else H b
theorem z4:upd H a o a=aA o:=by unfold upd;rw[if_pos rfl]
theorem z8(h:b≠a):upd H a o b=H b:=by unfold upd;rw[if_neg h]
theorem Va:upd (upd H a o) a u=upd H a u:=by
 funext b;unfold upd;split<;>rfl
theorem zN{H:Hp}{a b:aE}{o:HO}(h:H a=aA o)(h':H b=aF):a≠b:=by
 intro e;subst e;rw[h] at h';cases h'
section
variable (P:Program)(w:World)
noncomputable def aY(H:Hp)(h:aR)(a:aE):HO->Prop
 |.lst e=>e.length<=sizeLine/\∃(c:List aB) (n:Nat),aW e c/\h.get? a=aA {cls:=.type "list",data:=.seq c.toArray n}
 |.tup e=>e.length<=sizeLine/\∃c:List aB,aW e c/\io h a c.toArray
 |.dK b=>b.length<=sizeLine/\(a==ic)=aD/\∃g,KV b g/\h.DictOf (zE P w) a g
 |.dE ep b=>b.length<=sizeLine/\(a==ic)=aD/\∃g,KV b g/\h.DictAt (zE P w) a g ep
 |.set S n=>h.SetOf (intKind P w) a S n
 |.ins C dx fs=>H dx=aA (.own a)/\fs.length<=1000/\dx≠a/\h.get? a=aA (lW C dx)/\
   ∃d,h.Ns1 dx d/\(∀f,dB (fs.lookup f) (d f))/\tJ d (fs.map (·.1))
 |.own _=>∃o,h.get? a=aA o
 |.xd fs=>∃d,h.Ns1 a d/\∀f,dB (fs.lookup f) (d f)
 |.rng lo m=>∃t u v,h.get? a=aA {cls:=.type "range",data:=.fields #[.int lo t,.int m u,.int 1 v]}
 |.frz o u=>h.get? a=aA o/\aY H h a u
 |.tbl l=>h.get? a=aA {cls:=.none,data:=.fields l}
 |.met f x=>h.get? a=aA (wf (.ref f) (.ref x))
 |.ext i=>i h/\(∃o,h.get? a=aA o)/\∀k j:aR,i k->(∀o,k.get? a=aA o->j.get? a=aA o)->i j
noncomputable def dN (H:Hp)(h:aR):Prop:=∀a o,H a=aA o->aY P w H h a o
end
section
variable {P:Program}{w:World}{H H':Hp}{h h':aR}{a:aE}{o:HO}
theorem aY.lt(x:aY P w H h a o):a<h.objs.size:=by
 cases o with
 |lst xs=>obtain⟨_,_,_,_,e⟩:=x;exact bY e
 |tup xs=>obtain⟨_,_,_,p⟩:=x;exact p.lt
 |dK b=>obtain⟨_,_,_,_,o,_,_,e,_⟩:=x;exact bY e
 |dE ep b=>obtain⟨_,_,_,_,o,_,e,_⟩:=x;exact bY e
 |set S n=>obtain⟨o,_,_,_,e,_⟩:=x;exact bY e
 |ins C dx fs=>obtain⟨_,_,_,e,_⟩:=x;exact bY e
 |own y=>obtain⟨_,e⟩:=x;exact bY e
 |xd fs=>obtain⟨_,⟨_,_,_,e,_⟩,_⟩:=x;exact bY e
 |rng lo hi=>obtain⟨_,_,_,e⟩:=x;exact bY e
 |frz ob u=>obtain⟨e,_⟩:=x;exact bY e
 |tbl ps=>exact bY (show h.get? a=aA _ from x)
 |met f y=>exact bY (show h.get? a=aA _ from x)
 |ext φ=>obtain⟨_,⟨_,e⟩,_⟩:=x;exact bY e
theorem aY.stay(x:aY P w H h a o)(k:∀b u,(b=a\/H b=aA (.own a))->h.get? b=aA u->h'.get? b=aA u)
  (ho:∀b,H b=aA (.own a)->H' b=aA (.own a)) (m:∀b xs,H b=aA (.tup xs)->H' b=aA (.tup xs)):aY P w H' h' a o:=by
 induction o with
 |lst xs=>obtain⟨z,its,n,r,e⟩:=x;exact⟨z,its,n,r,k _ _ (.inl rfl) e⟩
 |tup xs=>obtain⟨z,its,r,ob,e,c⟩:=x;exact⟨z,its,r,ob,k _ _ (.inl rfl) e,c⟩
 |dK i=>obtain⟨z,y,vs,r,ob,es,ep,e,c⟩:=x;exact⟨z,y,vs,r,ob,es,ep,k _ _ (.inl rfl) e,c⟩
 |dE ep i=>obtain⟨z,y,vs,r,ob,es,e,c⟩:=x;exact⟨z,y,vs,r,ob,es,k _ _ (.inl rfl) e,c⟩
 |set S n=>obtain⟨ob,es,ep,t,e,c⟩:=x;exact⟨ob,es,ep,t,k _ _ (.inl rfl) e,c⟩
 |ins C dx fs=>
  obtain⟨d,z,ne,e,g,⟨od,es,ep,l,c⟩,r⟩:=x;exact⟨ho _ d,z,ne,k _ _ (.inl rfl) e,g,⟨od,es,ep,k _ _ (.inr d) l,c⟩,r⟩
 |own y=>obtain⟨ob,e⟩:=x;exact⟨ob,k _ _ (.inl rfl) e⟩
 |xd fs=>obtain⟨g,⟨od,es,ep,e,c⟩,r⟩:=x;exact⟨g,⟨od,es,ep,k _ _ (.inl rfl) e,c⟩,r⟩
 |rng lo hi=>obtain⟨t,u,v,e⟩:=x;exact⟨t,u,v,k _ _ (.inl rfl) e⟩
 |frz ob u j=>obtain⟨e,q⟩:=x;exact⟨k _ _ (.inl rfl) e,j q⟩
 |tbl ps=>
  have e:h.get? a=aA {cls:=.none,data:=.fields ps}:=x;show h'.get? a=aA {cls:=.none,data:=.fields ps};exact k a _ (.inl rfl) e
 |met f y=>
  have e:h.get? a=aA (wf (.ref f) (.ref y)):=x;show h'.get? a=aA (wf (.ref f) (.ref y));exact k a _ (.inl rfl) e
 |ext φ=>obtain⟨p,⟨o,e⟩,st⟩:=x;exact⟨st _ _ p λo q=>k _ _ (.inl rfl) q,⟨o,k _ _ (.inl rfl) e⟩,st⟩
theorem dN.lt(x:dN P w H h)(e:H a=aA o):a<h.objs.size:=(x a o e).lt
theorem dN.fresh(x:dN P w H h)(e:h.objs.size<=a):H a=aF:=by
 cases q:H a with
 |none=>rfl
 |some u=>exact absurd (dM (x.lt q) e) (iQ _)
theorem dN.kept(x:dN P w H h)(k:∀b u,h.get? b=aA u->h'.get? b=aA u):dN P w H h':=λa o e=>
 (x a o e).stay (λb u _ q=>k b u q) (λ_ q=>q) λ_ _ q=>q
theorem dN.laid(x:dN P w H h)(k:∀b u,h.get? b=aA u->h'.get? b=aA u)(g:h.objs.size<=a)(new:aY P w (upd H a o) h' a o):dN P w (upd H a o) h':=λb u e=>by
 have d:=x.fresh g;by_cases f:b=a
 ·subst f;rw[z4] at e;cases e;exact new
 ·rw[z8 f] at e;exact (x b u e).stay (λc v _ q=>k c v q) (λc q=>by rw[z8 (zN q d)];exact q) λc xs q=>by rw[z8 (zN q d)];exact q
end
noncomputable def Rd (H:Hp)(a:aE)(u:HO):Prop:=H a=aA u\/∃o,H a=aA (.frz o u)
theorem Rd.ok{P:b7}{w:cV}{H:Hp}{h:aR}{a:aE}{u:HO}(r:Rd H a u)(x:dN P w H h):aY P w H h a u:=by
 rcases r with r|⟨o,r⟩
 ·exact x a u r
 ·obtain⟨_,q⟩:=x a _ r;exact q
noncomputable def o_:Option HO->Prop
 |some (.lst _)=>True
 |some (.dK _)=>True
 |some (.dE _ _)=>True
 |some (.set _ _)=>True
 |some (.ins _ _ _)=>True
 |some (.ext _)=>True
 |_=>False
section
variable {P:Program}{w:World}{H:Hp}{h h':aR}{x e:aE}{o':HO}
theorem dN.write(ok:dN P w H h)(g:o_ (H x))(he:e=x\/H e=aA (.own x))(k:∀b u,b≠e->h.get? b=aA u->h'.get? b=aA u)(l:∃u,h'.get? e=aA u)
  (new:aY P w (upd H x o') h' x o'):dN P w (upd H x o') h':=λb u q=>by
 have d:∀c y,H c=aA (.own y)->c≠x:=λc y r z=>by subst z;rw[r] at g;exact g
 have f:∀c xs,H c=aA (.tup xs)->c≠x:=λc xs r z=>by subst z;rw[r] at g;exact g
 by_cases j:b=x
 ·subst j;rw[z4] at q;cases q;exact new
 ·rw[z8 j] at q;by_cases a:b=e
  ·have m:H b=aA (.own x):=by
    rcases he with z|z
    ·exact absurd (a.trans z) j
    ·rw[a];exact z
   rw[q] at m;cases m;obtain⟨v,n⟩:=l;exact⟨v,by rw[a];exact n⟩
  ·refine (ok b u q).stay (λc v i r=>k c v ?_ r) (λc r=>by rw[z8 (d c b r)];exact r) λc xs r=>by rw[z8 (f c xs r)];exact r
   rcases i with rfl|i
   ·exact a
   ·rintro rfl;rcases he with z|z
    ·exact d c b i z
    ·rw[i] at z;cases z;exact j rfl
end
structure Un(fs ex:List aE)(H H':Hp)(h h':aR):Prop where
 keep:∀b o,h.get? b=aA o->H b=aF->b∉fs->b∉ex->h'.get? b=aA o
 slot:∀b o,h.get? b=aA o->H b=aF->b∈fs->b∉ex->∃sl,h'.get? b=aA {o with slots:=sl}
 free:∀b o,h.get? b=aA o->H b=aF->b∉ex->H' b=aF
 there:∀b o,h.get? b=aA o->b∉ex->∃o',h'.get? b=aA o'
 tups:∀b xs,H b=aA (.tup xs)->H' b=aA (.tup xs)
 frzs:∀b o u,H b=aA (.frz o u)->H' b=aA (.frz o u)
 tbls:∀b ps,H b=aA (.tbl ps)->∃more,H' b=aA (.tbl (ps++more))
section
variable {fs ex:List aE}{H H1:Hp}{h h1 h':aR}{a x e:aE}{o:HO}
theorem Un.any(u:Un fs ex H H1 h h1){b:aE}{ob:bB}(q:h.get? b=aA ob)(n:H b=aF)(a:b∉ex):∃d,h1.get? b=aA {ob with slots:=d}:=by
 by_cases c:b∈fs
 ·exact u.slot b ob q n c a
 ·exact⟨ob.slots,u.keep b ob q n c a⟩
theorem Un.kept(k:∀b u,h.get? b=aA u->h'.get? b=aA u):Un fs ex H H h h':=
 ⟨λb ob q _ _ _=>k b ob q,λb ob q _ _ _=>⟨ob.slots,k b ob q⟩,λ_ _ _ n _=>n,λb ob q _=>⟨ob,k b ob q⟩,λ_ _ q=>q,λ_ _ _ q=>q,λ_ ps q=>⟨#[],by rw[q];simp⟩⟩
theorem Un.refl:Un fs ex H H h h:=Un.kept λ_ _ q=>q
theorem Un.laid(k:∀b u,h.get? b=aA u->h'.get? b=aA u)(d:h.objs.size<=a)(c:H a=aF):Un fs ex H (upd H a o) h h' where
 keep:=λb u q _ _ _=>k b u q
 slot:=λb u q _ _ _=>⟨u.slots,k b u q⟩
 free:=λb u q n _=>by rw[z8 (c7 (dM (bY q) d))];exact n
 there:=λb u q _=>⟨u,k b u q⟩
 tups:=λb xs q=>by rw[z8 (zN q c)];exact q
 frzs:=λb u xs q=>by rw[z8 (zN q c)];exact q
 tbls:=λb ps q=>⟨#[],by rw[z8 (zN q c),q];simp⟩
theorem Un.write(c:o_ (H x))(he:e=x\/H e=aA (.own x))(k:∀b u,b≠e->h.get? b=aA u->h'.get? b=aA u)(f:∃u,h'.get? e=aA u):Un fs ex H (upd H x o) h h':=by
 have g:∀b,H b=aF->b≠x:=λb n z=>by subst z;rw[n] at c;exact c
 have i:∀b,H b=aF->b≠e:=λb n z=>by
  subst z;rcases he with r|r
  ·exact g b n r
  ·rw[n] at r;cases r
 have d:∀b u,H b=aA u->¬o_ (aA u)->b≠x:=λb u q nm z=>by subst z;rw[q] at c;exact nm c
 refine⟨λb u q n _ _=>k b u (i b n) q,λb u q n _ _=>⟨u.slots,k b u (i b n) q⟩,λb u q n _=>by rw[z8 (g b n)];exact n,λb u q _=>?_,
  λb xs q=>by rw[z8 (d b _ q λz=>z)];exact q,λb u xs q=>by rw[z8 (d b _ q λz=>z)];exact q,λb ps q=>⟨#[],by rw[z8 (d b _ q λz=>z),q];simp⟩⟩
 by_cases a:b=e
 ·subst a;exact f
 ·exact⟨u,k b u a q⟩
end
noncomputable def sv (h:aR)(H:Hp):List aE:=(gx h.objs.size).filter λa=>(H a).isSome
noncomputable def Qd (h:aR)(H:Hp):aR:=PySem.W.hideAll h (sv h H)
theorem Ue(h:aR)(H:Hp):(Qd h H).objs.size=h.objs.size:=PySem.W.hideAll_size _ _
theorem UF(e:h.get? b=aA o)(n:H b=aF):(Qd h H).get? b=aA o:=
 PySem.W.hideAll_get _ e λa=>by
  have q:(H b).isSome=aC:=(gN.mp a).2;rw[n] at q;simp at q
theorem PF(e:(Qd h H).get? b=aA o):h.get? b=aA o/\H b=aF:=by
 have a:h.get? b=aA o:=PySem.W.of_hideAll (sv h H) e;refine⟨a,?_⟩;cases q:H b with
 |none=>rfl
 |some x=>
  have c:b∈sv h H:=gN.mpr ⟨n7.mpr (bY a),by simp[q]⟩;have z:(Qd h H).get? b=aF:=PySem.W.hideAll_none (sv h H) c;rw[z] at e;cases e
noncomputable def RM(g h:aR)(L:aE):List (aE×bB):=(gx h.objs.size).filterMap λa=>if a=L\/(g.get? a).isSome=aC then aF else (h.get? a).map λo=>(a,o)
noncomputable def rest (g h:aR)(L d:aE):List (aE×bB):=(RM g h L).filter λp=>decide (p.1≠d)
end L2
namespace L2
open PySem PySem.Spec PyProof.Rows
structure Mod(K:PySem.W.Frag)(mg:aG->Option aB)(base:aR):Prop where
 kin:K.In base
 glob:base.Ns bR mg
 blt:∃mb,base.Ns lI mb/\∀x:aG,x≠"__name__"->mb x=f_ x
 nolimit:base.NoLimit
structure Cx where
 prog:b7
 w:cV
 K:bK
 mg:aG->Option aB
 base:aR
 A:dU
 N:List aG
 s₀:aU
 H₀:Hp
 env:Env
 outer:List Env
 stack:List Env
 ex:List aE
 fn:aG->Bool
 calm:Bool
 pn:List (aE×bB)
 xe:aB->aU->Prop
noncomputable def eY(l:List Env):List aE:=l.filterMap (·.frame)
noncomputable abbrev Cx.fs(X:Cx):List aE:=eY X.outer
noncomputable def iI(sc:Scope)(x:aG):Prop:=sc.names.lookup x=aA .local\/sc.names.lookup x=aA .cell\/sc.names.lookup x=aA .free
noncomputable def Loc(sc:Scope)(x:aG):Prop:=sc.names.lookup x=aA .local\/sc.names.lookup x=aA .cell
noncomputable def Look(env:Env)(h:aR)(m:aG->Option aB)(x:aG)(u:aB):Prop:=
 (env.kindOf x=aA .local/\m x=aA u)\/((env.kindOf x=aA .cell\/env.kindOf x=aA .free)/\∃c,env.cells.lookup x=aA c/\h.IsCell c (aA u))
structure Cx.Ok(X:Cx):Prop where
 mod:Mod X.K X.mg X.base
 kind:X.env.scope.kind=.function
 glob:X.env.globals=bR
 blt:X.env.builtins=lI
 above:X.s₀.heap.objs.size<=X.env.locals
 inj:∀x y c,X.env.cells.lookup x=aA c->X.env.cells.lookup y=aA c->x=y
 has:∀x,(X.env.kindOf x=aA .cell\/X.env.kindOf x=aA .free)->∃c,X.env.cells.lookup x=aA c
 cab:∀x c,X.fn x=aC->X.env.cells.lookup x=aA c->X.s₀.heap.objs.size<=c
 hd:X.calm=aC->X.A.handled=aF
 frames:X.A.frames=aA X.stack
 stk:X.stack=X.outer\/(X.stack=X.env::X.outer/\X.env.frame=aA X.env.locals)
 exf:∀b∈X.ex,b≠X.env.locals/\∀x c,X.env.cells.lookup x=aA c->c≠b
 bs:∀b o,X.base.get? b=aA o->X.s₀.heap.get? b=aA o/\X.H₀ b=aF
 bsz:X.base.objs.size<=X.s₀.heap.objs.size
 noex:∀b o,X.base.get? b=aA o->b∉X.ex
 exfs:∀b∈X.ex,b∉X.fs
 funs:X.s₀.heap.FunFrames X.base X.outer
 frf:∀b∈X.fs,X.H₀ b=aF
structure Inv(X:Cx)(pins:List (aE×bB))(σ:List (Option V))(H:Hp)(s:Shared):Prop where
 ok:X.Ok
 os:s.os=X.s₀.os
 bare:i4 s.gens
 base:Un X.fs X.ex X.H₀ H X.s₀.heap s.heap
 loc:∃m,s.heap.Ns X.env.locals m/\∀(i:Nat) (x:aG) (v:V),X.N[i]?=aA x->σ[i]?=aA (aA v)->iI X.env.scope x->∃u,RelV v u/\Look X.env s.heap m x u
 cell:∀x c,X.env.cells.lookup x=aA c->∃v,s.heap.IsCell c v
 free:H X.env.locals=aF
 freeC:∀x c,X.env.cells.lookup x=aA c->H c=aF\/(X.fn x=aD/\∃o u,H c=aA (.frz o u))
 pin:∀p∈X.pn++pins,s.heap.get? p.1=aA p.2/\H p.1=aF/\p.1≠X.env.locals/\p.1∉X.fs/\∀v,p.2.data≠.cell v
 hok:dN X.prog X.w H s.heap
 len:σ.length=X.N.length
section
variable {X:Cx}{pins:List (aE×bB)}{σ:List (Option V)}{H H':Hp}{s:Shared}{h':aR}
theorem Cx.Ok.nofr(ok:X.Ok)(e:X.base.get? b=aA o):b∉X.fs:=λa=>by
 have:=(ok.funs.mem a).1;rw[e] at this;cases this
theorem Inv.bs(I:Inv X pins σ H s):∀b o,X.base.get? b=aA o->s.heap.get? b=aA o/\H b=aF:=λb o e=>
 ⟨I.base.keep b o (I.ok.bs b o e).1 (I.ok.bs b o e).2 (I.ok.nofr e) (I.ok.noex b o e),I.base.free b o (I.ok.bs b o e).1 (I.ok.bs b o e).2 (I.ok.noex b o e)⟩
theorem Inv.bk(I:Inv X pins σ H s):∀b o,X.base.get? b=aA o->s.heap.get? b=aA o:=λb o e=>(I.bs b o e).1
theorem Inv.mod(I:Inv X pins σ H s):Mod X.K X.mg X.base:=I.ok.mod
theorem Inv.kIn(I:Inv X pins σ H s):X.K.In s.heap:=I.ok.mod.kin.keeps I.bk
theorem Inv.lt(I:Inv X pins σ H s):X.env.locals<s.heap.objs.size:=let ⟨_,a,_⟩:=I.loc;a.lt
theorem Inv.sz(I:Inv X pins σ H s):X.s₀.heap.objs.size<=s.heap.objs.size:=cL I.ok.above (mq I.lt)
theorem Inv.nofs(I:Inv X pins σ H s){a:aE}(h:s.heap.objs.size<=a):a∉X.fs:=λb=>by
 obtain⟨_,o,ho,_⟩:=I.ok.funs.mem b;exact absurd (dM (bY ho) (cL I.sz h)) (iQ _)
theorem Inv.cne(I:Inv X pins σ H s):∀x c,X.env.cells.lookup x=aA c->c≠X.env.locals:=λx c e z=>by
 obtain⟨v,o,ho,hd⟩:=I.cell x c e;obtain⟨m,⟨d,es,ep,a,b,_⟩,_⟩:=I.loc;rw[z,a] at ho;cases ho;rw[b] at hd;cases hd
theorem Inv.funs(I:Inv X pins σ H s):s.heap.FunFrames X.base X.outer:=by
 have all:∀(l:List Env),(∀b∈eY l,b∈X.fs)->X.s₀.heap.FunFrames X.base l->s.heap.FunFrames X.base l:=by
  intro l;induction l with
  |nil=>intro _ _;trivial
  |cons env r f=>
   intro hs i;obtain⟨hk,⟨L,o,a,h,ho,hd⟩,g⟩:=i;have d:L∈X.fs:=hs L (by unfold eY;rw[oG,a];exact d9);obtain⟨j,e⟩:=I.base.slot L o ho (I.ok.frf L d) d λz=>I.ok.exfs L z d;exact⟨hk,⟨L,_,a,h,e,hd⟩,f (λb c=>hs b (by unfold eY;rw[oG,a];exact dQ _ c)) g⟩
 exact all X.outer (λ_ c=>c) I.ok.funs
theorem Inv.stack(I:Inv X pins σ H s):s.heap.FunFrames X.base X.stack:=by
 rcases I.ok.stk with e|⟨e,b⟩
 ·rw[e];exact I.funs
 ·rw[e];obtain⟨m,a,_⟩:=I.loc;refine .cons (by rw[I.ok.kind];decide) b a ?_ I.funs;exact iS (cL I.ok.bsz I.ok.above)
theorem Inv.stkSub(I:Inv X pins σ H s):∀b∈eY X.stack,b∈X.env.locals::X.fs:=λb a=>by
 rcases I.ok.stk with e|⟨e,c⟩
 ·rw[e] at a;exact dQ _ a
 ·rw[e] at a;unfold eY at a;rw[oG,c] at a;exact a
theorem Inv.stkFree(I:Inv X pins σ H s):∀b∈eY X.stack,H b=aF:=λb a=>by
 rcases cC.mp (I.stkSub b a) with e|a
 ·rw[e];exact I.free
 ·obtain⟨_,o,ho,_⟩:=I.ok.funs.mem a;exact I.base.free b o ho (I.ok.frf b a) λz=>I.ok.exfs b z a
theorem Inv.step{g':Array GenState}{t':Nat}{d':Drawn}{ch:List aE}(I:Inv X pins σ H s)
  (h:∀b∈ch,(b∈X.ex\/X.s₀.heap.objs.size<=b)/\b≠X.env.locals/\(∀x c,X.env.cells.lookup x=aA c->c≠b)/\∀p∈X.pn++pins,p.1≠b)
  (keep:∀b o,b≠X.env.locals->b∉X.fs->b∉ch->s.heap.get? b=aA o->H b=aF->h'.get? b=aA o)
  (slot:∀b o,b≠X.env.locals->b∈X.fs->b∉ch->s.heap.get? b=aA o->H b=aF->∃G,h'.get? b=aA {o with slots:=G}) (free:∀b o,b∉ch->s.heap.get? b=aA o->H b=aF->H' b=aF)
  (there:∀b o,b∉ch->s.heap.get? b=aA o->∃B,h'.get? b=aA B)
  (tups:∀b xs,H b=aA (.tup xs)->H' b=aA (.tup xs)) (frzs:∀b o u,H b=aA (.frz o u)->H' b=aA (.frz o u)) (tbls:∀b ps,H b=aA (.tbl ps)->∃D,H' b=aA (.tbl (ps++D)))
  (ns:∀m,s.heap.Ns X.env.locals m->h'.Ns X.env.locals m) (hok:dN X.prog X.w H' h') (Q:i4 g') :
  Inv X pins σ H' {s with heap:=h',gens:=g',drawn:=d',toks:=t'}:=by
 have C:∀b o,X.s₀.heap.get? b=aA o->b≠X.env.locals:=λb o e=>c7 (dM (bY e) I.ok.above);have t:∀b o,X.s₀.heap.get? b=aA o->b∉X.ex->b∉ch:=λb o e a A=>by
  rcases (h b A).1 with z|z
  ·exact a z
  ·exact absurd (dM (bY e) z) (iQ _)
 have j:∀x c,X.env.cells.lookup x=aA c->∀v,s.heap.IsCell c v->h'.IsCell c v:=λx c e v ⟨o,ho,hd⟩=>by
  have g:c∉ch:=λz=>(h c z).2.2.1 x c e rfl;rcases I.freeC x c e with f|⟨_,ob,u,f⟩
  ·by_cases L:c∈X.fs
   ·obtain⟨G,q⟩:=slot c o (I.cne x c e) L g ho f;exact⟨_,q,hd⟩
   ·exact⟨o,keep c o (I.cne x c e) L g ho f,hd⟩
  ·have h1:=(I.hok c _ f).1;rw[ho] at h1;cases h1;exact⟨o,(hok c _ (frzs c _ u f)).1,hd⟩
 refine⟨I.ok,I.os,Q,⟨λb o e n A a=>?_,λb o e n A a=>?_,λb o e n a=>?_,λb o e a=>?_,λb xs e=>tups b xs (I.base.tups b xs e),λb o xs e=>frzs b o xs (I.base.frzs b o xs e),λb ps e=>?_⟩,?_,λx c e=>?_,?_,λx c e=>?_,λp K=>?_,hok,I.len⟩
 ·exact keep b o (C b o e) A (t b o e a) (I.base.keep b o e n A a) (I.base.free b o e n a)
 ·obtain⟨G,y⟩:=I.base.slot b o e n A a;obtain⟨F,E⟩:=slot b _ (C b o e) A (t b o e a) y (I.base.free b o e n a);exact⟨F,E⟩
 ·obtain⟨B,y⟩:=I.base.there b o e a;exact free b B (t b o e a) y (I.base.free b o e n a)
 ·obtain⟨B,y⟩:=I.base.there b o e a;exact there b B (t b o e a) y
 ·obtain⟨N,y⟩:=I.base.tbls b ps e;obtain⟨M,E⟩:=tbls b _ y;exact⟨N++M,by rw[E,Array.append_assoc]⟩
 ·obtain⟨m,O,P⟩:=I.loc;refine⟨m,ns m O,λi x v y E R=>?_⟩;obtain⟨u,r,l⟩:=P i x v y E R;refine⟨u,r,?_⟩;rcases l with l|⟨k,c,e,z⟩
  ·exact .inl l
  ·exact .inr ⟨k,c,e,j x c e _ z⟩
 ·obtain⟨v,z⟩:=I.cell x c e;exact⟨v,j x c e v z⟩
 ·obtain⟨m,⟨o,_,_,ho,_⟩,_⟩:=I.loc;exact free _ o (λz=>(h _ z).2.1 rfl) ho I.free
 ·obtain⟨v,o,ho,hd⟩:=I.cell x c e;exact (I.freeC x c e).imp (free c o (λz=>(h c z).2.2.1 x c e rfl) ho) λ⟨n,ob,u,f⟩=>⟨n,ob,u,frzs c ob u f⟩
 ·obtain⟨e,n,ne,J,d⟩:=I.pin p K;have g:p.1∉ch:=λz=>(h p.1 z).2.2.2 p K rfl;exact⟨keep p.1 p.2 ne J g e n,free p.1 p.2 g e n,ne,J,d⟩
theorem Inv.un{t':Nat}(I:Inv X pins σ H s)(u:Un X.fs [] H H' s.heap h')(hok:dN X.prog X.w H' h'):Inv X pins σ H' {s with heap:=h',toks:=t'}:=by
 obtain⟨m,⟨o,es,ep,ho,r⟩,_⟩:=id I.loc;obtain⟨j,i⟩:=u.any ho I.free (by simp);exact I.step (g':=s.gens) (d':=s.drawn) (ch:=[]) (λ_ z=>nomatch z) (λb o _ c _ e n=>u.keep b o e n c (by simp)) (λb o _ c _ e n=>u.slot b o e n c (by simp)) (λb o _ e n=>u.free b o e n (by simp)) (λb o _ e=>u.there b o e (by simp)) u.tups u.frzs u.tbls (λm' h=>by
  obtain⟨k,d,f,a,g⟩:=h;rw[ho] at a;cases a;exact⟨_,d,f,i,g⟩) hok I.bare
theorem Inv.call{g':Array GenState}{t':Nat}{d':Drawn}{ch:List aE}(I:Inv X pins σ H s)(u:Un (eY X.stack) ch H H' s.heap h')(hok:dN X.prog X.w H' h')(l:i4 g')
  (f:∀b∈ch,(b∈X.ex\/X.s₀.heap.objs.size<=b)/\b≠X.env.locals/\(∀x c,X.env.cells.lookup x=aA c->c≠b)/\∀p∈X.pn++pins,p.1≠b) :
  Inv X pins σ H' {s with heap:=h',gens:=g',drawn:=d',toks:=t'}:=by
 obtain⟨m,⟨o,es,ep,ho,r⟩,_⟩:=id I.loc;obtain⟨t,g⟩:=u.any ho I.free λz=>(f _ z).2.1 rfl;exact I.step (ch:=ch) f (λb o g q a e n=>u.keep b o e n (λz=>(cC.mp (I.stkSub b z)).elim g q) a) (λb o _ _ a e n=>u.any e n a) (λb o a e n=>u.free b o e n a) (λb o a e=>u.there b o e a) u.tups u.frzs u.tbls (λm' k=>by
  obtain⟨v,h,i,d,j⟩:=k;rw[ho] at d;cases d;exact⟨_,h,i,g,j⟩) hok l
theorem Inv.turned{t':Nat}{it:aE}(I:Inv X pins σ H s)(k:∀b o,b≠it->s.heap.get? b=aA o->h'.get? b=aA o)(g:H it=aF)(f:it≠X.env.locals)
  (h1:it∈X.ex\/X.s₀.heap.objs.size<=it) (h2:∀x c,X.env.cells.lookup x=aA c->c≠it) (j:∀p∈X.pn++pins,p.1≠it):Inv X pins σ H {s with heap:=h',toks:=t'}:=by
 have d:∀b u,H b=aA u->b≠it:=λb u e z=>by rw[z,g] at e;cases e
 refine I.step (g':=s.gens) (d':=s.drawn) (ch:=[it]) (λb i=>?_) (λb o _ _ a e _=>k b o (λz=>a (by simp[z])) e) (λb o _ _ a e _=>⟨o.slots,k b o (λz=>a (by simp[z])) e⟩) (λ_ _ _ _ n=>n)
  (λb o a e=>⟨o,k b o (λz=>a (by simp[z])) e⟩) (λ_ _ e=>e) (λ_ _ _ e=>e) (λb ps e=>⟨#[],by rw[e];simp⟩) (λm h=>?_) (λb u e=>?_) I.bare
 ·have e:b=it:=by simpa using i
  subst e;exact⟨h1,f,h2,j⟩
 ·obtain⟨o,es,ep,ho,r⟩:=h;exact⟨o,es,ep,k _ o (cE f) ho,r⟩
 ·refine (I.hok b u e).stay (λc v a q=>k c v ?_ q) (λ_ q=>q) λ_ _ q=>q;rcases a with z|z
  ·rw[z];exact d b u e
  ·exact d c _ z
theorem Inv.tok(I:Inv X pins σ H s)(t:Nat):Inv X pins σ H {s with toks:=t}:=I.un (h':=s.heap) (t':=t) Un.refl I.hok
theorem Inv.kept{t':Nat}(I:Inv X pins σ H s)(k:∀b u,s.heap.get? b=aA u->h'.get? b=aA u):Inv X pins σ H {s with heap:=h',toks:=t'}:=I.un (Un.kept k) (I.hok.kept k)
theorem Inv.laid{a:aE}{o:HO}{t':Nat}(I:Inv X pins σ H s)(k:∀b u,s.heap.get? b=aA u->h'.get? b=aA u)(c:s.heap.objs.size<=a)(new:aY X.prog X.w (upd H a o) h' a o) :
  Inv X pins σ (upd H a o) {s with heap:=h',toks:=t'}:=I.un (Un.laid k c (I.hok.fresh c)) (I.hok.laid k c new)
theorem Inv.write(I:Inv X pins σ H s)(c:o_ (H x))(he:e=x\/H e=aA (.own x))(k:∀b u,b≠e->s.heap.get? b=aA u->h'.get? b=aA u)(a:∃u,h'.get? e=aA u)
  (new:aY X.prog X.w (upd H x o) h' x o):Inv X pins σ (upd H x o) {s with heap:=h',toks:=t'}:=I.un (Un.write c he k a) (I.hok.write c he k a new)
theorem Inv.pins_of(I:Inv X pins σ H s)(h:∀p∈d,s.heap.get? p.1=aA p.2/\H p.1=aF/\p.1≠X.env.locals/\p.1∉X.fs/\∀v,p.2.data≠.cell v):Inv X d σ H s:=
 ⟨I.ok,I.os,I.bare,I.base,I.loc,I.cell,I.free,I.freeC,λp a=>(b_.mp a).elim (λz=>I.pin p (d_ _ z)) (h p),I.hok,I.len⟩
theorem vI{N:List aG}(hN:N.Nodup){i j:Nat}{x:aG}(a:N[i]?=aA x)(b:N[j]?=aA x):i=j:=by
 obtain⟨f,d⟩:=bH.mp a;obtain⟨e,c⟩:=bH.mp b;exact (rh hN).mp (d.trans c.symm)
theorem Uo{M:l_}{A:dU}{E:aB->aU->Prop}{i:Nat}{x:aG}{v:V}{u:aB}{Q:Unit->aU->Prop}(I:Inv X pins σ H s)(hN:X.N.Nodup)(hi:X.N[i]?=aA x)(B:Loc X.env.scope x)(r:RelV v u)
  (h:∀s',Inv X pins (σ.set i (aA v)) H s'->(∃a,fU a s.heap s'.heap/\(a=X.env.locals\/X.env.cells.lookup x=aA a))->Q () s') (hf:X.fn x=aC\/X.env.scope.names.lookup x=aA .local:=by first|exact .inl rfl|exact .inr rfl|assumption):wpAny M A (storeName X.env x u) Q E s:=by
 obtain⟨m,hn,hl⟩:=id I.loc;have S:(X.env.scope.kind==.class || (X.env.scope.kind==.module&&X.env.locals != X.env.globals))=aD:=by rw[I.ok.kind];rfl
 have J:i<σ.length:=by rw[I.len];exact (bH.mp hi).1
 have cne:=I.cne;have g:∀{a:aE} {O:aR},(∃o,s.heap.get? a=aA o/\H a=aF)->fU a s.heap O->dN X.prog X.w H O:=λ{a O} ha f b ob e=>by
  obtain⟨_,_,C⟩:=ha;refine (I.hok b ob e).stay (λc W t q=>(f.2 c ?_).trans q) (λ_ q=>q) λ_ _ q=>q;rintro rfl;rcases t with rfl|t
  ·rw[C] at e;cases e
  ·rw[C] at t;cases t
 rcases B with G|G
 ·refine wpAny_storeName_local G hn (λO hn' f=>?_) S;obtain⟨oL,_,_,hoL,_⟩:=id hn;refine h _ ⟨I.ok,I.os,I.bare,⟨λb o e n L B=>?_,λb o e n L B=>?_,I.base.free,λb o e B=>?_,I.base.tups,I.base.frzs,I.base.tbls⟩,⟨_,hn',λj y Z l F e3=>?_⟩,λy c e=>?_,I.free,I.freeC,λp hp=>?_,g ⟨oL,hoL,I.free⟩ f,by simpa using I.len⟩ ⟨_,f,.inl rfl⟩
  ·exact (f.2 b (c7 (dM (bY e) I.ok.above))).trans (I.base.keep b o e n L B)
  ·obtain⟨sl,l⟩:=I.base.slot b o e n L B;exact⟨sl,(f.2 b (c7 (dM (bY e) I.ok.above))).trans l⟩
  ·obtain⟨o',l⟩:=I.base.there b o e B;exact⟨o',(f.2 b (c7 (dM (bY e) I.ok.above))).trans l⟩
  ·by_cases K:j=i
   ·subst K;rw[hi] at l;cases l;rw[nl J] at F;cases F;exact⟨u,r,.inl ⟨G,by simp⟩⟩
   ·rw[cP (cE K)] at F;obtain⟨u',r',q⟩:=hl j y Z l F e3;refine⟨u',r',?_⟩;rcases q with⟨k,e⟩|⟨k,c,e,z⟩
    ·refine .inl ⟨k,?_⟩;have:y≠x:=λe=>K (vI hN l (e▸hi));simp[this,e]
    ·exact .inr ⟨k,c,e,z.sameBut f (cne y c e)⟩
  ·obtain⟨W,z⟩:=I.cell y c e;exact⟨W,z.sameBut f (cne y c e)⟩
  ·obtain⟨e,n,ne,nf,d⟩:=I.pin p hp;exact⟨(f.2 p.1 ne).trans e,n,ne,nf,d⟩
 ·have D:X.fn x=aC:=by
   rcases hf with z|z
   ·exact z
   ·rw[z] at G;cases G
  obtain⟨c,t⟩:=I.ok.has x (.inl G);obtain⟨W,z⟩:=I.cell x c t;refine wpAny_storeName_cell I.ok.kind G t z (λO U f=>?_);obtain⟨oc,R,P⟩:=id z;refine h {s with heap:=O} ⟨I.ok,I.os,I.bare,⟨λb o e n L B=>?_,λb o e n L B=>?_,I.base.free,λb o e B=>?_,I.base.tups,I.base.frzs,I.base.tbls⟩,⟨m,hn.sameBut f (cE (cne x c t)),λj y Z l F e3=>?_⟩,λy Y e=>?_,I.free,I.freeC,λp hp=>?_,g ⟨oc,R,(I.freeC x c t).resolve_right λz=>by rw[D] at z;cases z.1⟩ f,by simpa using I.len⟩ ⟨c,f,.inr t⟩
  ·exact (f.2 b (c7 (dM (bY e) (I.ok.cab x c D t)))).trans (I.base.keep b o e n L B)
  ·obtain⟨sl,l⟩:=I.base.slot b o e n L B;exact⟨sl,(f.2 b (c7 (dM (bY e) (I.ok.cab x c D t)))).trans l⟩
  ·obtain⟨o',l⟩:=I.base.there b o e B;exact⟨o',(f.2 b (c7 (dM (bY e) (I.ok.cab x c D t)))).trans l⟩
  ·by_cases K:j=i
   ·subst K;rw[hi] at l;cases l;rw[nl J] at F;cases F;exact⟨u,r,.inr ⟨.inl G,c,t,U⟩⟩
   ·rw[cP (cE K)] at F;obtain⟨u',r',q⟩:=hl j y Z l F e3;refine⟨u',r',?_⟩;rcases q with q|⟨k,Y,e,z'⟩
    ·exact .inl q
    ·refine .inr ⟨k,Y,e,z'.sameBut f ?_⟩;rintro rfl;exact K (vI hN l (I.ok.inj _ _ _ e t▸hi))
  ·by_cases T:Y=c
   ·subst T;exact⟨_,U⟩
   ·obtain⟨w2,z2⟩:=I.cell y Y e;exact⟨w2,z2.sameBut f T⟩
  ·obtain⟨e,n,ne,nf,d⟩:=I.pin p hp;refine⟨(f.2 p.1 ?_).trans e,n,ne,nf,d⟩;intro q;rw[q,R] at e;have q':oc=p.2:=bT e;exact d W (by rw[←q'];exact P)
theorem JJ{M:l_}{A:dU}{E:aB->aU->Prop}{i:Nat}{x:aG}{v:V}{u:aB}{Q:Unit->aU->Prop}(I:Inv X pins σ H s)(hN:X.N.Nodup)(hi:X.N[i]?=aA x)(a:Loc X.env.scope x)(r:RelV v u)
  (h:∀d,Inv X pins (σ.set i (aA v)) H d->Q () d) (b:X.fn x=aC\/X.env.scope.names.lookup x=aA .local:=by first|exact .inl rfl|exact .inr rfl|assumption):wpAny M A (storeName X.env x u) Q E s:=
 Uo I hN hi a r (λd c _=>h d c) b
theorem Inv.call'(I:Inv X pins σ H s)(ho:d.os=s.os)(u:Un (eY X.stack) ch H H' s.heap d.heap)(hok:dN X.prog X.w H' d.heap)(g:i4 d.gens)
  (a:∀b∈ch,(b∈X.ex\/X.s₀.heap.objs.size<=b)/\b≠X.env.locals/\(∀x c,X.env.cells.lookup x=aA c->c≠b)/\∀p∈X.pn++pins,p.1≠b):Inv X pins σ H' d:=by
 obtain⟨h',g',d',t',f⟩:=d;have e:f=s.os:=ho;subst e;exact I.call (g':=g') (t':=t') (d':=d') u hok g a
end
noncomputable abbrev XK:=aB->Option aE->Hp->Prop
noncomputable abbrev St:=List (Option V)
noncomputable abbrev VK:=V->Hp->Prop
noncomputable abbrev TE:=St->Hp->VK->Prop
noncomputable abbrev TT:=St->Hp->(Bool->Hp->Prop)->Prop
noncomputable abbrev TA:=St->Hp->(List V->Hp->Prop)->Prop
structure Ends where
 nx:St->Hp->Prop
 rt:VK
 bk:St->Hp->Prop:=λ_ _=>False
 ct:St->Hp->Prop:=λ_ _=>False
noncomputable abbrev TS:=Ends->St->Hp->Prop
inductive EP(X:Cx)(pins:List (aE×bB))(σ:St)(Q:VK)(u:aB)(s':Shared):Prop where
 |mk (v:V) (H':Hp) (i:Inv X pins σ H' s') (r:RelV v u) (q:Q v H')
inductive TP(X:Cx)(pins:List (aE×bB))(σ:St)(Q:Bool->Hp->Prop)(b:Bool)(s':Shared):Prop where
 |mk (H':Hp) (i:Inv X pins σ H' s') (q:Q b H')
inductive AP(X:Cx)(pins:List (aE×bB))(σ:St)(Q:List V->Hp->Prop)(us:List aB)(s':Shared):Prop where
 |mk (vs:List V) (H':Hp) (i:Inv X pins σ H' s') (r:aW vs us) (q:Q vs H')
noncomputable def SP (X:Cx)(b:List (aE×bB))(D:Ends)(f:Flow)(d:aU):Prop:=
 match f with
 |.next=>∃a c,Inv X b a c d/\D.nx a c
 |.brk=>∃a c,Inv X b a c d/\D.bk a c
 |.cont=>∃a c,Inv X b a c d/\D.ct a c
 |.ret u=>∃v a c,Inv X b a c d/\RelV v u/\D.rt v c
noncomputable def PE (X:Cx)(e:aH)(t:TE):Prop:=
 ∀(a:List (aE×bB)) (s:aU) (b:St) (H:Hp) (Q:VK),Inv X a b H s->t b H Q->wpAny (aQ X.prog X.w) X.A (eval e X.env) (EP X a b Q) X.xe s
noncomputable def PT (X:Cx)(e:aH)(t:TT):Prop:=
 ∀(a:List (aE×bB)) (s:aU) (b:St) (H:Hp) (Q:Bool->Hp->Prop),Inv X a b H s->t b H Q->wpAny (aQ X.prog X.w) X.A (isTrue e X.env (eval e X.env)) (TP X a b Q) X.xe s
noncomputable def PW (X:Cx)(e:aH)(t:TT):Prop:=
 ∀(b:Sem aB) (a:List (aE×bB)) (s:aU) (c:St) (H:Hp) (Q:Bool->Hp->Prop),Inv X a c H s->t c H Q->wpAny (aQ X.prog X.w) X.A (isTrue e X.env b) (TP X a c Q) X.xe s
theorem PW.pt{X:Cx}{e:aH}{t:TT}(h:PW X e t):PT X e t:=h _
noncomputable def PA (X:Cx)(es:List aH)(t:TA):Prop:=
 ∀(c:Pos) (a:List (aE×bB)) (s:aU) (b:St) (H:Hp) (Q:List V->Hp->Prop),Inv X a b H s->t b H Q->wpAny (aQ X.prog X.w) X.A (spliced (fN c (eF es X.env))) (AP X a b Q) X.xe s
noncomputable def PS (X:Cx)(st:bE)(t:TS):Prop:=
 ∀(a:List (aE×bB)) (s:aU) (b:St) (H:Hp) (D:Ends),Inv X a b H s->t D b H->wpAny (aQ X.prog X.w) X.A (exec st X.env) (SP X a D) X.xe s
noncomputable def gG (X:Cx)(st:List bE)(t:TS):Prop:=
 ∀(a:List (aE×bB)) (s:aU) (b:St) (H:Hp) (D:Ends),Inv X a b H s->t D b H->wpAny (aQ X.prog X.w) X.A (execs st X.env) (SP X a D) X.xe s
theorem a7{α:Type}{t:Sem α}{Q Q':α->aU->Prop}{M:l_}{A:dU}{E:aB->aU->Prop}{s:aU}(h:wpAny M A t Q E s)(b:∀a s,Q a s->Q' a s):wpAny M A t Q' E s:=dR h b λ_ _ x=>x
end L2
namespace L2
open PySem PySem.Spec PyProof.Rows
section
variable {X:Cx}
noncomputable def LJ (i:Nat):TE:=λa H Q=>∃v,a[i]?=aA (aA v)/\Q v H
noncomputable def tC (v:V):TE:=λ_ H Q=>Q v H
theorem yr {i:Nat} {x:aG} {pos:Pos} (hN:X.N[i]?=aA x) (k:iI X.env.scope x) (hd:(x==("__debug__":aG))=aD:=by decide) (f:(x==("__classdict__":aG))=aD:=by decide):PE X (.Name x pos) (LJ i):=by
 intro d s j H Q I h;obtain⟨v,e,h⟩:=h;obtain⟨m,n,p⟩:=I.loc;obtain⟨u,r,l⟩:=p i x v hN e k;have fin:EP X d j Q u s:=⟨v,H,I,r,h⟩;rcases l with⟨b,o⟩|⟨b,c,g,a⟩
 ·exact sY (wpAny_loadName_local I.ok.kind b n o fin) hd
 ·rcases b with b|b
  ·exact sY (wpAny_loadName_cell I.ok.kind b g a fin) hd
  ·exact sY (wpAny_loadName_free I.ok.kind b g a fin f) hd
theorem OR{i j pos}:PE X (.Constant (.int i) j pos) (tC (.int i)):=λ_ _ _ H _ I h=>wpAny_Constant_int ⟨.int i,H,I.tok _,⟨_,rfl⟩,h⟩
theorem MK{b j pos}:PE X (.Constant (.bool b) j pos) (tC (.bl b)):=λ_ _ _ H _ I h=>Constant_bool ⟨.bl b,H,I,rfl,h⟩
theorem O0{j pos}:PE X (.Constant .none j pos) (tC .non):=λ_ _ _ H _ I h=>tU ⟨.non,H,I,rfl,h⟩
theorem WO{x j pos}:PE X (.Constant (.str x) j pos) (tC (.str x)):=λ_ _ _ H _ I h=>Calls.Constant_str ⟨.str x,H,I.tok _,⟨_,rfl⟩,h⟩
noncomputable def Gl(X:Cx)(x:aG):Prop:=X.env.kindOf x=aA .globalImplicit
theorem wA{E:aB->aU->Prop}{a:List (aE×bB)}{s:aU}{b:St}{H:Hp}{x:aG}{u:aB}{pos:Pos}{Q:aB->aU->Prop}(I:Inv X a b H s)(d:Gl X x)(c:X.mg x=aA u)(h:Q u s)
  (hd:(x==("__debug__":aG))=aD:=by decide):wpAny (aQ X.prog X.w) X.A (eval (.Name x pos) X.env) Q E s:=
 Fu I.ok.kind d (Calls.loadGlobal_global (by rw[I.ok.glob];exact I.mod.glob.keeps I.bk) c h) hd
theorem qQ{E:aB->aU->Prop}{a:List (aE×bB)}{s:aU}{b:St}{H:Hp}{x:aG}{u:aB}{pos:Pos}{Q:aB->aU->Prop}(I:Inv X a b H s)(f:Gl X x)(e:X.mg x=aF)(c:f_ x=aA u)(h:Q u s)
  (d:x≠"__name__":=by decide) (hd:(x==("__debug__":aG))=aD:=by decide):wpAny (aQ X.prog X.w) X.A (eval (.Name x pos) X.env) Q E s:=by
 obtain⟨j,i,g⟩:=I.mod.blt;exact Fu I.ok.kind f (Calls.loadGlobal_builtin (by rw[I.ok.glob];exact I.mod.glob.keeps I.bk) e (by rw[I.ok.blt];exact i.keeps I.bk) ((g x d).trans c) h) hd
theorem Y3 (b:Gl X x) (a:X.mg x=aA u) (r:RelV v u) (hd:(x==("__debug__":aG))=aD:=by decide):PE X (.Name x pos) (tC v):=
 λ_ _ _ H _ I h=>wA I b a ⟨v,H,I,r,h⟩ hd
theorem RN {x:aG} {v:V} {u:aB} {pos:Pos} (d:Gl X x) (c:X.mg x=aF) (a:f_ x=aA u) (r:RelV v u) (b:x≠"__name__":=by decide) (hd:(x==("__debug__":aG))=aD:=by decide):PE X (.Name x pos) (tC v):=
 λ_ _ _ H _ I h=>qQ I d c a ⟨v,H,I,r,h⟩ b hd
variable {a b:aH}{pos:Pos}
variable {tA tB':TT}{rest:List aH}
noncomputable def x_ (t u:TT):TT:=λa H Q=>t a H λc b=>if c=aC then u a b Q else Q aD b
noncomputable def gC (t u:TT):TT:=λa H Q=>t a H λc b=>if c=aC then Q aC b else u a b Q
noncomputable def qF (t:TT):TT:=λa H Q=>t a H λc b=>Q (!c) b
theorem RX(f:PT X a tA):PW X (.BoolOp .And [a] pos) tA:=by
 intro g b s d H Q I h;refine isTrue_and (a7 (f b s d H Q I h) λc i e=>?_);cases c with
 |true=>exact isTrue_and_nil e
 |false=>exact e
theorem Of(f:PT X a tA):PW X (.BoolOp .Or [a] pos) tA:=by
 intro g b s d H Q I h;refine isTrue_or (a7 (f b s d H Q I h) λc i e=>?_);cases c with
 |false=>exact isTrue_or_nil e
 |true=>exact e
theorem NG(m:PT X a tA)(l:PW X (.BoolOp .And (b::rest) pos) tB'):PW X (.BoolOp .And (a::b::rest) pos) (x_ tA tB'):=by
 intro j d s e H Q I h;refine isTrue_and (a7 (m d s e H _ I h) λc k ⟨i,g,f⟩=>?_);cases c with
 |true=>exact l j d k e i Q g f
 |false=>exact⟨i,g,f⟩
theorem MR(m:PT X a tA)(l:PW X (.BoolOp .Or (b::rest) pos) tB'):PW X (.BoolOp .Or (a::b::rest) pos) (gC tA tB'):=by
 intro j d s e H Q I h;refine isTrue_or (a7 (m d s e H _ I h) λc k ⟨i,g,f⟩=>?_);cases c with
 |true=>exact⟨i,g,f⟩
 |false=>exact l j d k e i Q g f
theorem Ps(e:PT X a tA):PT X (.UnaryOp .Not a pos) (qF tA):=by
 intro b s d H Q I h;exact isTrue_not (a7 (e b s d H (λc f=>Q (!c) f) I h) λc j ⟨g,i,q⟩=>⟨g,i,q⟩)
theorem O9{op}(h:PE X a t):PE X (.BoolOp op [a] pos) t:=λb s c H Q I hw=>BoolOp_one (h b s c H Q I hw)
end
end L2
namespace L2
open PySem PySem.Spec PyProof.Rows
noncomputable def gu (K:bK)(H:Hp)(a:aE)(xs:List V):Prop:=
 Rd H a (.lst xs)\/
  ∃(o:bB) (b:Array aB) (n:Nat),K.lookup a=aA o/\o.cls=.type "list"/\o.dict=aF/\o.data=.seq b n/\b.size<=sizeLine/\aW xs b.toList
noncomputable def fS (K:bK)(H:Hp)(a:aE)(xs:List V):Prop:=
 Rd H a (.tup xs)\/
  ∃(o:bB) (b:Array aB) (n:Nat),K.lookup a=aA o/\o.cls=.type "tuple"/\o.data=.seq b n/\b.size<=sizeLine/\aW xs b.toList
noncomputable def LQ:aB->Option V
 |.none=>aA .non
 |.bool b=>aA (.bl b)
 |.int i _=>aA (.int i)
 |.str x _=>aA (.str x)
 |.bytes b _=>aA (.byt b)
 |.float b _=>aA (.flt b)
 |.ref a=>aA (.ref a)
 |.type n=>aA (.ty n)
 |_=>aF
theorem RelV.abs(r:RelV x u):LQ u=aA x:=by
 cases x with
 |non=>cases r;rfl
 |bl _=>cases r;rfl
 |int _=>obtain⟨t,rfl⟩:=r;rfl
 |str _=>obtain⟨t,rfl⟩:=r;rfl
 |byt _=>obtain⟨t,rfl⟩:=r;rfl
 |flt _=>obtain⟨t,rfl⟩:=r;rfl
 |ref _=>cases r;rfl
 |ty _=>cases r;rfl
theorem RelV.inj{x y:V}{u:aB}(r:RelV x u)(q:RelV y u):x=y:=bT (r.abs.symm.trans q.abs)
theorem aW.inj:∀{xs ys:List V} {us:List aB},aW xs us->aW ys us->xs=ys
 |_,_,_,.nil,.nil=>rfl
 |_,_,_,.cons r t,.cons a t'=>by rw[r.inj a,aW.inj t t']
section
variable {X:Cx}{pins:List (aE×bB)}{σ:St}{H:Hp}{s:Shared}{a:aE}{xs ys:List V}
theorem Inv.list(I:Inv X pins σ H s)(h:gu X.K H a xs):∃its:List aB,aW xs its/\PlainL s.heap a its.toArray/\xs.length<=sizeLine:=by
 rcases h with h|⟨o,its,n,hk,b,hd,hs,c,r⟩
 ·obtain⟨z,its,n,r,e⟩:=h.ok I.hok;exact⟨its,r,⟨_,n,e,rfl,rfl,rfl⟩,z⟩
 ·refine⟨its.toList,r,⟨o,n,I.kIn a o hk,b,hd,by simpa using hs⟩,?_⟩;have e:=r.length;simp only[nu] at e;lia
theorem Inv.tuple(I:Inv X pins σ H s)(h:fS X.K H a xs):∃its:List aB,aW xs its/\io s.heap a its.toArray/\xs.length<=sizeLine:=by
 rcases h with h|⟨o,its,n,hk,b,hs,c,r⟩
 ·obtain⟨z,its,r,p⟩:=h.ok I.hok;exact⟨its,r,p,z⟩
 ·refine⟨its.toList,r,⟨o,I.kIn a o hk,b,n,by simpa using hs⟩,?_⟩;have e:=r.length;simp only[nu] at e;lia
theorem Inv.list_inj(I:Inv X pins σ H s)(h:gu X.K H a xs)(h':gu X.K H a ys):xs=ys:=by
 obtain⟨its,r,⟨o,n,e,_,_,d⟩,_⟩:=I.list h;obtain⟨its',c,⟨g,i,b,_,_,d'⟩,_⟩:=I.list h';rw[e] at b;cases b;rw[d] at d';injection d' with f _;have:its=its':=by simpa using congrArg DC f
 subst this;exact r.inj c
theorem Inv.tuple_inj(I:Inv X pins σ H s)(h:fS X.K H a xs)(h':fS X.K H a ys):xs=ys:=by
 obtain⟨its,r,⟨o,e,_,n,d⟩,_⟩:=I.tuple h;obtain⟨its',c,⟨g,b,_,i,d'⟩,_⟩:=I.tuple h';rw[e] at b;cases b;rw[d] at d';injection d' with f _;have:its=its':=by simpa using congrArg DC f
 subst this;exact r.inj c
end
noncomputable abbrev Cx.wish(X:Cx)(E:aB->aU->Prop):Cx:={X with xe:=E}
theorem Cx.Ok.wish{X:Cx}(ok:X.Ok)(E:aB->aU->Prop):(X.wish E).Ok:=
 ⟨ok.mod,ok.kind,ok.glob,ok.blt,ok.above,ok.inj,ok.has,ok.cab,ok.hd,ok.frames,ok.stk,ok.exf,ok.bs,ok.bsz,ok.noex,ok.exfs,ok.funs,ok.frf⟩
theorem Cx.Ok.unwish{X:Cx}(ok:(X.wish E).Ok):X.Ok:=
 ⟨ok.mod,ok.kind,ok.glob,ok.blt,ok.above,ok.inj,ok.has,ok.cab,ok.hd,ok.frames,ok.stk,ok.exf,ok.bs,ok.bsz,ok.noex,ok.exfs,ok.funs,ok.frf⟩
section
variable {X:Cx}{pins:List (aE×bB)}{σ:St}{H:Hp}{s:Shared}{E:aB->Shared->Prop}
theorem Inv.wish(I:Inv X pins σ H s)(E:aB->aU->Prop):Inv (X.wish E) pins σ H s:=⟨I.ok.wish E,I.os,I.bare,I.base,I.loc,I.cell,I.free,I.freeC,I.pin,I.hok,I.len⟩
theorem Inv.unwish(I:Inv (X.wish E) pins σ H s):Inv X pins σ H s:=⟨I.ok.unwish,I.os,I.bare,I.base,I.loc,I.cell,I.free,I.freeC,I.pin,I.hok,I.len⟩
theorem SP.unwish(h:SP (X.wish E) pins D f d):SP X pins D f d:=by
 cases f with
 |next=>obtain⟨a,b,I,q⟩:=h;exact⟨a,b,I.unwish,q⟩
 |brk=>obtain⟨a,b,I,q⟩:=h;exact⟨a,b,I.unwish,q⟩
 |cont=>obtain⟨a,b,I,q⟩:=h;exact⟨a,b,I.unwish,q⟩
 |ret u=>obtain⟨v,a,b,I,r,q⟩:=h;exact⟨v,a,b,I.unwish,r,q⟩
end
section
variable {X:Cx}{st:bE}{rest:List bE}{t u:TS}{e:aH}{te:TE}{pos:Pos}
noncomputable def MB:TS:=λD a H=>D.nx a H
noncomputable def LV (t u:TS):TS:=λD a H=>t {D with nx:=u D} a H
theorem Yh:gG X [] MB:=λ_ _ a H _ I h=>rB ⟨a,H,I,h⟩
theorem Zi(h1:PS X st t)(h2:gG X rest u):gG X (st::rest) (LV t u):=by
 intro a s c H D I h;refine wpAny_execs_cons (a7 (h1 a s c H {D with nx:=u D} I h) λf d q=>?_);cases f with
 |next=>
  obtain⟨b,g,e,q⟩:=q;exact h2 a d b g D e q
 |ret v=>exact q
 |brk=>exact q
 |cont=>exact q
theorem Xj(h1:PS X st t):gG X [st] t:=by
 intro a s b H D I h;refine wpAny_execs_cons (a7 (h1 a s b H D I h) λf c q=>?_);cases f with
 |next=>exact rB q
 |ret v=>exact q
 |brk=>exact q
 |cont=>exact q
theorem Inv.quiet{a:List (aE×bB)}{b:St}{H:Hp}{s:aU}(I:Inv X a b H s):interactive X.env=aD:=by simp[interactive,I.ok.kind]
noncomputable def Mp(te:TE):TS:=λD a H=>te a H λ_ b=>D.nx a b
theorem WK(he:PE X e te)(hs:iP e aF pos.line X.env=pure aD:=by rfl):PS X (.Expr e pos) (Mp te):=by
 intro a s b H D I h;exact wpAny_Expr_any (a7 (he a s b H _ I h) λv g ⟨x,f,d,i,c⟩=>⟨b,f,d,c⟩) I.quiet hs
noncomputable def L0 (te:TE):TS:=λD a H=>te a H D.rt
theorem OZ(he:PE X e te):PS X (.Return (aA e) pos) (L0 te):=by
 intro a s b H D I h;exact wpAny_Return_some (a7 (he a s b H _ I h) λv i ⟨x,g,f,c,d⟩=>⟨x,b,g,f,c,d⟩)
noncomputable def MJ:TS:=λD _ H=>D.rt .non H
theorem Po:PS X (.Return aF pos) MJ:=λ_ _ a H _ I h=>wpAny_Return_none ⟨.non,a,H,I,rfl,h⟩
noncomputable def LX (c:TT)(t u:TS):TS:=λD a H=>c a H λb d=>if b=aC then t D a d else u D a d
theorem Nb{c:aH}{a b:List bE}{g:TT}(m:PT X c g)(o:gG X a t)(n:gG X b u):PS X (.If c a b pos) (LX g t u):=by
 intro e s f H D I h;refine wpAny_If (a7 (m e s f H _ I h) λd i ⟨l,k,j⟩=>?_);cases d with
 |true=>exact o e i f l D k j
 |false=>exact n e i f l D k j
end
noncomputable abbrev TG:=V->St->Hp->(St->Hp->Prop)->Prop
noncomputable abbrev mI:=List V->St->Hp->(St->Hp->Prop)->Prop
noncomputable def PG (X:Cx)(a:aH)(t:TG):Prop:=
 ∀(b:List (aE×bB)) (s:aU) (d:St) (H:Hp) (v:V) (u:aB) (Q:St->Hp->Prop),Inv X b d H s->RelV v u->t v d H Q->
  wpAny (aQ X.prog X.w) X.A (ip a X.env u) (λ_ f=>∃c e,Inv X b c e f/\Q c e) X.xe s
noncomputable def o9 (X:Cx)(ts:List aH)(t:mI):Prop:=
 ∀(a:List (aE×bB)) (s:aU) (c:St) (H:Hp) (d:List V) (e:List aB) (Q:St->Hp->Prop),Inv X a c H s->aW d e->t d c H Q->
  wpAny (aQ X.prog X.w) X.A (assignInOrder ((iu ts X.env).map (·.2)) e) (λ_ g=>∃b f,Inv X a b f g/\Q b f) X.xe s
noncomputable abbrev AA:=V->V->V->Hp->(Hp->Prop)->Prop
noncomputable def BE (X:Cx)(t:AA):Prop:=
 ∀(a:List (aE×bB)) (s:aU) (b:St) (H:Hp) (o i v:V) (c d u:aB) (Q:Hp->Prop),Inv X a b H s->RelV o c->RelV i d->RelV v u->t o i v H Q->
  wpAny (aQ X.prog X.w) X.A (setItem c d u) (λ_ f=>∃e,Inv X a b e f/\Q e) X.xe s
section
variable {X:Cx}{pos:Pos}
noncomputable def Y2(i:Nat):TG:=λv a H Q=>Q (a.set i (aA v)) H
theorem Xq(hN:X.N.Nodup)(hi:X.N[i]?=aA x)(b:Loc X.env.scope x)(c:X.fn x=aC\/X.env.scope.names.lookup x=aA .local:=by first|exact .inl rfl|exact .inr rfl|assumption):PG X (.Name x pos) (Y2 i):=by
 intro a s e H v u Q I r h;exact wpAny_assign_Name (JJ I hN hi b r (λf d=>⟨_,H,d,h⟩) c)
noncomputable def Gc:mI:=λb a H Q=>b=[]/\Q a H
noncomputable def G3(t:TG)(u:mI):mI:=λc b H Q=>∃v r,c=v::r/\t v b H λa d=>u r a d Q
theorem Ss:o9 X [] Gc:=by
 intro a s b H c d Q I r h;obtain⟨e,h⟩:=h;subst e;cases r;exact assignInOrder_nil ⟨b,H,I,h⟩
theorem T0{e:aH}{es:List aH}{t:TG}{u:mI}(h1:PG X e t)(h2:o9 X es u)
  (hs:(iu (e::es) X.env).map (·.2)=ip e X.env::(iu es X.env).map (·.2):=by rfl):o9 X (e::es) (G3 t u):=by
 intro a s c H l n Q I r h;obtain⟨v,m,i,h⟩:=h;subst i;cases r with
 |cons r f=>
  rw[hs];refine assignInOrder_cons (a7 (h1 a s c H _ _ _ I r h) λ_ d ⟨b,k,j,g⟩=>?_);exact h2 a d b k _ _ Q j f g
noncomputable def Ml (K:bK)(n:Nat)(t:mI):TG:=λv c H Q=>∃a b,v=.ref a/\fS K H a b/\b.length=n/\t b c H Q
theorem NZ{es:List aH}{k:Nat}{t:mI}{n:Nat}(x:X.calm=aC)(h:o9 X es t)
  (q:(iu es X.env).length=n:=by rfl) (d:(iu es X.env).findIdx? (·.1)=aF:=by rfl):PG X (.Tuple es k pos) (Ml X.K n t):=by
 intro c s f H v u Q I r hw;obtain⟨a,i,z,p,w,hw⟩:=hw;subst z;cases r;obtain⟨j,g,m,B⟩:=I.tuple p;refine assign_Tuple_tuple (I.ok.hd x) m (by simp[q,←w,g.length]) d λy l=>?_;have A:Inv X c f H {s with heap:=y}:=I.kept (t':=s.toks) λb o e=>l b o (c7 (bY e)) e;exact h c _ f H i _ Q A (by simpa using g) hw
noncomputable def L8 (b c:TE)(t:AA):TG:=λv a H Q=>b a H λo f=>c a f λi e=>t o i v e λd=>Q a d
theorem HQ{o i:aH}{c e:TE}{t:AA}(ho:PE X o c)(hi:PE X i e)(hs:BE X t)
  (q:∀v,ip (.Subscript o i pos) X.env v=(do
   let d ←lC [v] (eval o X.env)
   let g ←lC [v,d] (eval i X.env)
   standAt pos
   lC [v,d,g] (setItem d g v)
   release [v,d,g] []):=by intro _;rfl):PG X (.Subscript o i pos) (L8 c e t):=by
 intro a s b H v u Q I r h;rw[q];refine wpAny_bind (wpAny_holding (a7 (ho a s b H _ I h) λd j ⟨x,D,A,l,p⟩=>?_));refine wpAny_bind (wpAny_holding (a7 (hi a j b D _ A p) λg f ⟨y,C,z,k,n⟩=>?_));refine wpAny_bind (ie (wpAny_bind (wpAny_holding (a7 (hs a f b C x y v d g u _ z l k r n) λ_ E ⟨B,w,m⟩=>?_))));exact wpAny_release ⟨b,B,w,m⟩
noncomputable def Gi (b:TE)(g:TG):TS:=λD a H=>b a H λx c=>g x a c D.nx
theorem Kw{tg e:aH}{c:TE}{g:TG}(he:PE X e c)(j:PG X tg g)(hs:pV [tg] e pos.line X.env=pure aD:=by rfl)(hw:pU [tg] e X.env=pure aF:=by rfl)
  (h1:(iu [tg] X.env).map (·.2)=[ip tg X.env]:=by rfl):PS X (.Assign [tg] e pos) (Gi c g):=by
 intro a s b H D I h;refine wpAny_Assign_stores (a7 (he a s b H _ I h) λv d ⟨x,l,k,f,i⟩=>?_) hs hw;rw[h1];exact a7 (j a d b l x v _ k f i) λ_ m q=>q
theorem OP{i:Nat}{x:aG}{e:aH}{c:TE}{a:Pos}(hN:X.N.Nodup)(hi:X.N[i]?=aA x)(j:Loc X.env.scope x)(he:PE X e c)(hs:iP e (aA (.Name x a)) pos.line X.env=pure aD:=by rfl)(k:X.fn x=aC\/X.env.scope.names.lookup x=aA .local:=by first|exact .inl rfl|exact .inr rfl|assumption) :
  PS X (.Assign [.Name x a] e pos) (Gi c (Y2 i)):=by
 intro b s d H D I h;refine wpAny_Assign_Name (a7 (he b s d H _ I h) λv p ⟨y,n,m,f,g⟩=>?_) hs;exact JJ m hN hi j f (λo l=>⟨_,n,l,g⟩) k
end
section
variable {X:Cx}{pos:Pos}
noncomputable def OG(c:TT)(tb:TS):TS:=λD a H=>∃W:Nat->St->Hp->Prop,(∃m,W m a H)/\∀m a H,W m a H->
 c a H λb f=>if b=aC then ∃N:St->Hp->Prop,(∀d g,N d g->∃e,e<m/\W e d g)/\tb {D with nx:=N,ct:=N,bk:=D.nx} a f else D.nx a f
theorem Tj{c:aH}{body:List bE}{r:TT}{tb:TS}(t:nV (aQ X.prog X.w) X.A X.env X.xe)(M:PT X c r)(O:gG X body tb):PS X (.While c body [] pos) (OG r tb):=by
 intro d s C H D I h;obtain⟨W,⟨L,F⟩,turn⟩:=h;refine wpAny_While (codeAny_whileLoop (λn K=>∃g B,Inv X d g B K/\W n g B) ?_ L ⟨C,H,I,F⟩);rintro n J ⟨e,z,P,E⟩;refine mx t (a7 (M d J e z _ P (turn n e z E)) λb G ⟨y,x,k⟩=>?_);cases b with
 |true=>
  obtain⟨N,u,k⟩:=k;rw[if_pos rfl];refine mx t (a7 (O d G e y _ x k) λf Q j=>?_);cases f with
  |next=>
   obtain⟨a,i,q,m⟩:=j;obtain⟨o,p,l⟩:=u a i m;exact⟨o,p,a,i,q,l⟩
  |cont=>
   obtain⟨a,i,q,m⟩:=j;obtain⟨o,p,l⟩:=u a i m;exact⟨o,p,a,i,q,l⟩
  |brk=>exact j
  |ret v=>exact j
 |false=>
  rw[if_neg fG];exact rB ⟨e,y,x,k⟩
end
structure It where
 go:Nat->Hp->Prop
 yld:Nat->Hp->V->Hp->Prop
 stop:Nat->Hp->Prop
noncomputable def WQ (X:Cx)(a:List (aE×bB))(H:Hp)(b:aE):Prop:=
 H b=aF/\b≠X.env.locals/\b∉X.fs/\(b∈X.ex\/X.s₀.heap.objs.size<=b)/\(∀x c,X.env.cells.lookup x=aA c->c≠b)/\∀p∈X.pn++a,p.1≠b
theorem Inv.fpOk{X:Cx}{a:List (aE×bB)}{g:St}{H f:Hp}{s:aU}{b:aE}(I:Inv X a g H s)(d:s.heap.objs.size<=b)(i:f b=aF):WQ X a f b:=by
 refine⟨i,gU (dM I.lt d),I.nofs d,.inr (cL I.sz d),λx c e z=>?_,λp h z=>?_⟩
 ·obtain⟨v,q⟩:=I.cell x c e;exact absurd (dM q.lt (by rw[z];exact d)) (iQ _)
 ·exact absurd (dM (bY (I.pin p h).1) (by rw[z];exact d)) (iQ _)
structure fC(P:Program)(w:World)(K:PySem.W.Frag)(tg:aH)(J:It)(fp:List aE)(it:aE)(tn:Nat->aR->Prop):Prop where
 mem:it∈fp
 obj:∀i h,tn i h->∀b∈fp,∃o,h.get? b=aA o/\∀v,o.data≠.cell v
 keep:∀i h h',tn i h->(∀b∈fp,∀o,h.get? b=aA o->h'.get? b=aA o)->tn i h'
 item:∀(X:Cx),X.prog=P->X.w=w->X.K=K->X.calm=aC->∀(i:Nat) (pins:List (aE×bB)) (s:aU) (σ:St) (H:Hp) (E:aB->aU->Prop),Inv X pins σ H s->(∀b∈fp,WQ X pins H b)->tn i s.heap->J.go i H->
  wpAny (aQ P w) X.A (i3 (.ref it)) (λr s1=>∃u,r=aA u/\
   wpAny (aQ P w) X.A (oA tg (.ref it) u) (λ_ s2=>∃x H',Inv X pins σ H' s2/\RelV x u/\J.yld i H x H'/\tn (i+1) s2.heap/\∀b∈fp,H' b=aF) E s1) E s
 done:∀(X:Cx),X.prog=P->X.w=w->X.K=K->X.calm=aC->∀(i:Nat) (pins:List (aE×bB)) (s:aU) (σ:St) (H:Hp) (E:aB->aU->Prop),Inv X pins σ H s->(∀b∈fp,WQ X pins H b)->tn i s.heap->J.stop i H->
  wpAny (aQ P w) X.A (i3 (.ref it)) (λr s1=>r=aF/\Inv X pins σ H s1) E s
 self:∀(A:dU) (i:Nat) (s:aU) (Q:aB->aU->Prop) (E:aB->aU->Prop),tn i s.heap->Q (.ref it) s->wpAny (aQ P w) A (ma (.ref it)) Q E s
noncomputable abbrev TI:=St->Hp->(It->Hp->Prop)->Prop
noncomputable def nO (X:Cx)(a:List (aE×bB))(g:St)(tg:aH)(R:It->Hp->Prop)(c:aB)(f:aU):Prop:=
 ∃(it:aE) (fp:List aE) (e:Nat->aR->Prop) (J:It) (d:Hp),c=.ref it/\Inv X a g d f/\fC X.prog X.w X.K tg J fp it e/\e 0 f.heap/\(∀b∈fp,WQ X a d b)/\R J d
noncomputable def PI (X:Cx)(tg iter:aH)(c:TI):Prop:=
 ∀(a:List (aE×bB)) (s:aU) (b:St) (H:Hp) (R:It->Hp->Prop),Inv X a b H s->c b H R->
  wpAny (aQ X.prog X.w) X.A (eval iter X.env) (λv d=>wpAny (aQ X.prog X.w) X.A (ma v) (nO X a b tg R) X.xe d) X.xe s
theorem yR(ho:s.heap.get? it=aA o)(c:o.cls=.type n)(hd:o.data=.fields vs)
    (b:["enumerate", "zip", "dict_itemiterator", "dict_reverseitemiterator", "odict_iterator", "itertools.zip_longest", "itertools.pairwise"].contains n=aD) (a:Q () s):wpAny M A (oA tg (.ref it) u) Q E s:=by
  unfold oA
  cases tg <;> first
    |exact wpAny_pure a
    | (cases u <;> first
        |exact wpAny_pure a
        | (refine wpAny_bind (wpAny_load ho ?_)
           rw[c, hd]
           show wpAny M A (if (["enumerate", "zip", "dict_itemiterator", "dict_reverseitemiterator", "odict_iterator", "itertools.zip_longest", "itertools.pairwise"].contains n&&vs[0]? == aA (cW _))=aC then _ else _) Q E s
           rw[if_neg (by intro h;rw[b, DL] at h;cases h)]
           exact wpAny_pure a))
noncomputable def IC (K:bK)(a:aE):It:=
 ⟨λi H=>∃b x,gu K H a b/\b[i]?=aA x,λi H x c=>c=H/\∀b,gu K H a b->b[i]?=aA x,λi H=>∃b,gu K H a b/\b.length<=i⟩
noncomputable def IB (K:bK)(a:aE):It:=
 ⟨λi H=>∃b x,fS K H a b/\b[i]?=aA x,λi H x c=>c=H/\∀b,fS K H a b->b[i]?=aA x,λi H=>∃b,fS K H a b/\b.length<=i⟩
noncomputable def Itr(lo:Int)(n:Nat):It:=⟨λi _=>i<n,λi H x a=>a=H/\x=.int (lo+i),λi _=>n<=i⟩
theorem Wf{P:b7}{w:cV}{K:bK}{tg:aH}(a it:aE):fC P w K tg (IC K a) [it] it (λi h=>h.IsListIter it a i) where
 mem:=by simp
 obj:=λi h st b g=>by
  have e:b=it:=by simpa using g
  subst e;obtain⟨o,e,c,d⟩:=st;exact⟨o,e,λv z=>by rw[d] at z;cases z⟩
 keep:=λi h n st k=>st.at λo e=>k it (by simp) o e
 item:=by
  intro X A hw B M i f s L H E I m st y;subst A hw B;obtain⟨N,x,l,t⟩:=y;obtain⟨r,q,p,R⟩:=I.list l;obtain⟨u,T,Q⟩:=q.get t;obtain⟨J,G,U,F,D,C⟩:=m it (by simp);refine wpAny_pyNext_list_item st p.isList (x:=u) (by simpa using T) λn j O=>?_;have V:Inv X f L H {s with heap:=n}:=I.turned (t':=s.toks) (λb o g e=>(O.2 b g).trans e) J G F D C;obtain⟨o,e,c,d⟩:=id j;exact⟨u,rfl,yR (s:={s with heap:=n}) e c d (by decide) ⟨x,H,V,Q,⟨rfl,λY S=>by rw[I.list_inj S l];exact t⟩,j,λb g=>(m b g).1⟩⟩
 done:=by
  intro X A hw B M i f s L H E I m st y;subst A hw B;obtain⟨N,l,t⟩:=y;obtain⟨r,q,p,R⟩:=I.list l;obtain⟨J,G,U,F,D,C⟩:=m it (by simp);have Z:=q.length;exact wpAny_pyNext_list_end (I.ok.hd M) st p.isList (by simp;lia) λn eb=>⟨rfl,I.turned (t':=s.toks) (λb o g e=>eb b o g e) J G F D C⟩
 self:=λ_ _ _ _ _ st h=>wpAny_pyIter_listiter st h
theorem Kb{P:b7}{w:cV}{K:bK}{tg:aH}(a it:aE):fC P w K tg (IB K a) [it] it (λi h=>h.IsTupleIter it a i) where
 mem:=by simp
 obj:=λi h st b j=>by
  have e:b=it:=by simpa using j
  subst e;obtain⟨o,e,c,d⟩:=st;exact⟨o,e,λv z=>by rw[d] at z;cases z⟩
 keep:=λi h q st k=>st.at λo e=>k it (by simp) o e
 item:=by
  intro X A hw B M i f s L H E I n st y;subst A hw B;obtain⟨N,x,m,t⟩:=y;obtain⟨g,r,p,R⟩:=I.tuple m;obtain⟨u,T,Q⟩:=r.get t;obtain⟨J,G,U,F,D,C⟩:=n it (by simp);refine wpAny_pyNext_tuple_item st (show s.heap.IsTuple a g.toArray from p) (x:=u) (by simpa using T) λq l O=>?_;have V:Inv X f L H {s with heap:=q}:=I.turned (t':=s.toks) (λb o j e=>(O.2 b j).trans e) J G F D C;obtain⟨o,e,c,d⟩:=id l;exact⟨u,rfl,yR (s:={s with heap:=q}) e c d (by decide) ⟨x,H,V,Q,⟨rfl,λY S=>by rw[I.tuple_inj S m];exact t⟩,l,λb j=>(n b j).1⟩⟩
 done:=by
  intro X A hw B M i f s L H E I n st y;subst A hw B;obtain⟨N,m,t⟩:=y;obtain⟨g,r,p,R⟩:=I.tuple m;obtain⟨J,G,U,F,D,C⟩:=n it (by simp);have Z:=r.length;exact wpAny_pyNext_tuple_end (I.ok.hd M) st (show s.heap.IsTuple a g.toArray from p) (by simp;lia) λq eb=>⟨rfl,I.turned (t':=s.toks) (λb o j e=>eb b o j e) J G F D C⟩
 self:=λ_ _ _ _ _ st h=>wpAny_pyIter_tupleiter st h
end L2
namespace L2
open PySem PySem.Spec PyProof.Rows
section
variable {X:Cx}{tg:aH}
noncomputable def JP(c:TA):TI:=λa H R=>c a H λb d=>∃i j:Int,b=[.int i,.int j]/\(-(2 ^ 62)<=i/\i<2 ^ 62 /\ -(2 ^ 62)<=j/\j<2 ^ 62)/\R (Itr i (j-i).toNat) d
noncomputable def LZ (f:TI)(g:TG)(tb:TS):TS:=λD a H=>f a H λJ j=>∃W:Nat->Nat->St->Hp->Prop,(∃m,W 0 m a j)/\∀i m a H,W i m a H->
 (J.stop i H/\D.nx a H)\/(J.go i H/\∃N:St->Hp->Prop,(∀b c,N b c->∃e,e<m/\W (i+1) e b c)/\∀x c,J.yld i H x c->g x a c λd h=>tb {D with nx:=N,ct:=N,bk:=D.nx} d h)
noncomputable def uZ(fp:List aE)(h:aR):List (aE×bB):=fp.filterMap λb=>(h.get? b).map λo=>(b,o)
theorem j3{fp:List aE}{h:aR}{b:aE}{o:bB}(a:b∈fp)(e:h.get? b=aA o):(b,o)∈uZ fp h:=ou.mpr ⟨b,a,by rw[e];rfl⟩
theorem YP(a:p∈uZ fp h):p.1∈fp/\h.get? p.1=aA p.2:=by
 obtain⟨b,c,e⟩:=ou.mp a;cases q:h.get? b with
 |none=>rw[q] at e;cases e
 |some o=>
  rw[q] at e;have d:(b,o)=p:=bT e;subst d;exact⟨c,q⟩
theorem Inv.pinned{a:List (aE×bB)}{c:St}{H:Hp}{s:aU}{fp:List aE}(I:Inv X a c H s)(i:∀b∈fp,WQ X a H b)(ho:∀b∈fp,∃o,s.heap.get? b=aA o/\∀v,o.data≠.cell v):Inv X (a++uZ fp s.heap) c H s:=
 I.pins_of λp h=>(b_.mp h).elim (λz=>I.pin p (dF _ z)) λz=>by
  obtain⟨f,e⟩:=YP z;obtain⟨f0,k,j,_⟩:=i p.1 f;obtain⟨o,g,d⟩:=ho p.1 f;rw[e] at g;cases g;exact⟨e,f0,k,j,d⟩
theorem Inv.unpinned{a c:List (aE×bB)}{b:St}{H:Hp}{s:aU}(I:Inv X (a++c) b H s):Inv X a b H s:=I.pins_of λp d=>I.pin p (dF _ (d_ _ d))
theorem O8{iter:aH}{body:List bE}{V:TI}{g:TG}{tb:TS}{pos:Pos}(G:nV (aQ X.prog X.w) X.A X.env X.xe)(hc:X.calm=aC)(hi:PI X tg iter V)(hg:PG X tg g)(p:gG X body tb)
  (hs:∀x,lO iter X.env x=pure x:=by intro _;rfl):PS X (.For tg iter body [] pos) (LZ V g tb):=by
 intro c s U H D I h;refine wpAny_For (a7 (hi c s U H _ I h) λv s1 h1=>a7 h1 λitv s2 h2=>?_) hs;obtain⟨it,fp,Y,J,H2,e,I2,T,O,f2,W,⟨m0,w0⟩,turn⟩:=h2;subst e;have l:∀{y:Hp},(∀b∈fp,y b=aF)->∀b∈fp,WQ X c y b:=λhn b p=>⟨hn b p,(f2 b p).2⟩;refine codeAny_forLoop_any (λn s'=>∃i k y,Inv X c k y s'/\Y i s'.heap/\(∀b∈fp,y b=aF)/\W i n k y) ?_ m0 ⟨0,U,H2,I2,O,λb p=>(f2 b p).1,w0⟩;rintro n s3 ⟨i,j,L,I3,E,K,w3⟩;rcases turn i n j L w3 with⟨C,qn⟩|⟨go,N,hN,step⟩
 ·refine mx G (a7 (T.done X rfl rfl rfl hc i c s3 j L X.xe I3 (l K) E C) λr s4 ⟨Q,I4⟩=>?_);subst Q;exact rB ⟨j,L,I4,qn⟩
 ·refine mx G (a7 (T.item X rfl rfl rfl hc i c s3 j L X.xe I3 (l K) E go) λr s4 ⟨u,Q,h4⟩=>?_);subst Q;refine mx G (a7 h4 λ_ Z ⟨x,H5,I5,r5,y5,B,R⟩=>?_);have S:=I5.pinned (l R) (T.obj _ _ B);refine mx G (a7 (hg _ Z j H5 x u _ S r5 (step x H5 y5)) λ_ s6 ⟨M,H6,I6,q6⟩=>?_);refine mx G (a7 (p _ s6 M H6 _ I6 q6) λf P z=>?_);have again:∀{a:St} {t:Hp},Inv X (c++uZ fp Z.heap) a t P->N a t->∃m,m<n/\∃i k y,Inv X c k y P/\Y i P.heap/\(∀b∈fp,y b=aF)/\W i m k y:=λ{a t} q F=>by
   obtain⟨m',hm,w7⟩:=hN a t F;refine⟨m',hm,i+1,a,t,q.unpinned,T.keep _ _ _ B λb p o e=>(q.pin (b,o) (dF _ (dF _ (j3 p e)))).1,λb p=>?_,w7⟩;obtain⟨o,e,d⟩:=T.obj _ _ B b p;exact (q.pin (b,o) (dF _ (dF _ (j3 p e)))).2.1
  cases f with
  |next=>obtain⟨a,t,q,F⟩:=z;exact again q F
  |cont=>obtain⟨a,t,q,F⟩:=z;exact again q F
  |brk=>obtain⟨a,t,q,z⟩:=z;exact⟨a,t,q.unpinned,z⟩
  |ret v=>obtain⟨x7,a,t,q,r7,z⟩:=z;exact⟨x7,a,t,q.unpinned,r7,z⟩
end
end L2
namespace L2
open PySem PySem.Spec PyProof.Rows
noncomputable abbrev R2:=V->V->Hp->VK->Prop
noncomputable def dX (X:Cx)(f:aB->aB->Sem aB)(r:R2):Prop:=
 ∀(a:List (aE×bB)) (s:aU) (b:St) (H:Hp) (x y:V) (v u:aB) (Q:VK),Inv X a b H s->RelV x v->RelV y u->r x y H Q->
  wpAny (aQ X.prog X.w) X.A (f v u) (EP X a b Q) X.xe s
noncomputable def Iz (X:Cx)(f:aB->Sem aB)(r:V->Hp->VK->Prop):Prop:=
 ∀(a:List (aE×bB)) (s:aU) (b:St) (H:Hp) (x:V) (v:aB) (Q:VK),Inv X a b H s->RelV x v->r x H Q->
  wpAny (aQ X.prog X.w) X.A (f v) (EP X a b Q) X.xe s
noncomputable def XD(X:Cx)(f:aB)(r:List V->Hp->VK->Prop):Prop:=
 ∀(a:List (aE×bB)) (s:aU) (b:St) (H:Hp) (c:List V) (d:List aB) (Q:VK),Inv X a b H s->aW c d->r c H Q->
  wpAny (aQ X.prog X.w) X.A (call f d) (EP X a b Q) X.xe s
noncomputable def rI (C:Int->Int->Prop)(g:Int->Int->V):R2:=λx y H Q=>∃i j,x=.int i/\y=.int j/\C i j/\Q (g i j) H
noncomputable def lc (g:Int->Int->V):R2:=λx y H Q=>∃i j,x=.int i/\y=.int j/\Q (g i j) H
noncomputable def rU (g:Int->V):V->Hp->VK->Prop:=λx H Q=>∃i,x=.int i/\Q (g i) H
section
variable {X:Cx}
theorem oZ{f:aB->aB->Sem aB}{C:Int->Int->Prop}{g:Int->Int->Int}
  (rule:∀(i j:Int) (t u:Tok) (s:aU) (Q:aB->aU->Prop) (E:aB->aU->Prop),C i j->Q (.int (g i j) s.toks) {s with toks:=s.toks+1}->wpAny (aQ X.prog X.w) X.A (f (.int i t) (.int j u)) Q E s) :
  dX X f (rI C λi j=>.int (g i j)):=by
 intro a s k H x y v u Q I d c h;obtain⟨i,j,rfl,rfl,e,q⟩:=h;obtain⟨t,rfl⟩:=d;obtain⟨b,rfl⟩:=c;exact rule i j t b s _ _ e ⟨.int (g i j),H,I.tok _,⟨_,rfl⟩,q⟩
theorem AS{f:aB->aB->Sem aB}{g:Int->Int->Int}
  (rule:∀(i j:Int) (t u:Tok) (s:aU) (Q:aB->aU->Prop) (E:aB->aU->Prop),Q (.int (g i j) s.toks) {s with toks:=s.toks+1}->wpAny (aQ X.prog X.w) X.A (f (.int i t) (.int j u)) Q E s) :
  dX X f (lc λi j=>.int (g i j)):=by
 intro a s e H x y v u Q I d c h;obtain⟨i,j,rfl,rfl,q⟩:=h;obtain⟨t,rfl⟩:=d;obtain⟨b,rfl⟩:=c;exact rule i j t b s _ _ ⟨.int (g i j),H,I.tok _,⟨_,rfl⟩,q⟩
theorem rS{f:aB->aB->Sem aB}{g:Int->Int->Bool}
  (rule:∀(i j:Int) (t u:Tok) (s:aU) (Q:aB->aU->Prop) (E:aB->aU->Prop),Q (.bool (g i j)) s->wpAny (aQ X.prog X.w) X.A (f (.int i t) (.int j u)) Q E s) :
  dX X f (lc λi j=>.bl (g i j)):=by
 intro a s e H x y v u Q I d c h;obtain⟨i,j,rfl,rfl,q⟩:=h;obtain⟨t,rfl⟩:=d;obtain⟨b,rfl⟩:=c;exact rule i j t b s _ _ ⟨.bl (g i j),H,I,rfl,q⟩
noncomputable def LU(i j:Int):Prop:=0<=j/\j<=1000000/\i.natAbs<2 ^ 64
noncomputable def lx(i j:Int):Prop:=(-(2 ^ 64)<i/\i<2 ^ 64)\/(-(2 ^ 64)<j/\j<2 ^ 64)
theorem lx.ok{i j:Int}(h:lx i j):IntMulOk i j:=by
 rcases h with⟨h1,h2⟩|⟨h1,h2⟩
 ·exact .of_left (intBits_le_64 h1 h2)
 ·exact .of_right (intBits_le_64 h1 h2)
theorem K4(k:Nat):(0:Int)<=2 ^ k:=by
 rw[two_pow_cast];exact Int.natCast_nonneg _
theorem Oc:dX X (gz .Add) (lc λi j=>.int (i+j)):=AS λ_ _ _ _ _ _ _ q=>add_int q
theorem O1:dX X (gz .Sub) (lc λi j=>.int (i-j)):=AS λ_ _ _ _ _ _ _ q=>sub_int q
theorem NE:dX X (gz .Mult) (rI lx λi j=>.int (i*j)):=oZ λ_ _ _ _ _ _ _ a q=>mul_int q a.ok
theorem Oe:dX X (gz .Mod) (rI (λ_ j=>0<j) λi j=>.int (i % j)):=oZ λi j _ _ _ _ _ a q=>by
 have b:(0:Int)<j:=a;exact mod_int' (by lia) (by rw[Int.fmod_eq_emod_of_nonneg i (by lia)];exact q)
theorem OK:dX X (gz .Pow) (rI LU λi j=>.int (i ^ j.toNat)):=oZ λ_ _ _ _ _ _ _ a q=>pow_int_small a.1 a.2.1 a.2.2 q
theorem N5:dX X (gz .RShift) (rI (λ_ j=>0<=j) λi j=>.int (i / 2 ^ j.toNat)):=oZ λi j _ _ _ _ _ a q=>
 rshift_int a (by rw[Ft i (K4 _)];exact q)
theorem N_:dX X (gz .BitAnd) (lc λi j=>.int (DK i j)):=AS λ_ _ _ _ _ _ _ q=>and_int q
theorem unI{f:aB->Sem aB}{g:Int->Int}
  (rule:∀(i:Int) (t:Tok) (s:aU) (Q:aB->aU->Prop) (E:aB->aU->Prop),Q (.int (g i) s.toks) {s with toks:=s.toks+1}->wpAny (aQ X.prog X.w) X.A (f (.int i t)) Q E s) :
  Iz X f (rU λi=>.int (g i)):=by
 intro a s c H x v Q I b h;obtain⟨i,rfl,q⟩:=h;obtain⟨t,rfl⟩:=b;exact rule i t s _ _ ⟨.int (g i),H,I.tok _,⟨_,rfl⟩,q⟩
theorem O4:Iz X (unaryOp .USub) (rU λi=>.int (-i)):=unI λ_ _ _ _ _ q=>neg_int q
end
noncomputable def rW:V->V->Bool
 |.non,.non=>aC|.non,.int _=>aC|.int _,.non=>aC|.non,.bl _=>aC|.bl _,.non=>aC|.non,.str _=>aC|.str _,.non=>aC
 |.int _,.int _=>aC|.bl _,.bl _=>aC|.str _,.str _=>aC|.byt _,.byt _=>aC
 |.int _,.str _=>aC|.str _,.int _=>aC|.bl _,.str _=>aC|.str _,.bl _=>aC
 |_,_=>aD
noncomputable def rEq:R2:=λx y H Q=>rW x y=aC/\Q (.bl (decide (x=y))) H
noncomputable def rNe:R2:=λx y H Q=>rW x y=aC/\Q (.bl (!decide (x=y))) H
theorem Xk:decide (V.int i=V.int j)=(i==j):=by
 rw[oz];simp
theorem HL:decide (V.bl i=V.bl j)=(i==j):=by
 rw[oz];simp
theorem Xt:decide (V.str i=V.str j)=(i==j):=by
 rw[oz];simp
theorem Y7:decide (V.byt i=V.byt j)=(i.toList==j.toList):=by
 rw[oz];cases i;cases j;simp
section
variable {X:Cx}{b:aH}
theorem zt{a:List (aE×bB)}{b:St}{H:Hp}{s:aU}{Q:VK}{k c:Bool}(I:Inv X a b H s)(q:Q (.bl k) H)(e:k=c):EP X a b Q (.bool c) s:=by
 subst e;exact⟨.bl k,H,I,rfl,q⟩
theorem L3:dX X (dZ .Eq) rEq:=by
 intro e s f H x y v u Q I d a h;obtain⟨c,q⟩:=h;cases x with
 |non=>
  cases d;cases y with
  |non=>cases a;exact Ly (zt I q (by simp))
  |bl j=>cases a;exact Lx (zt I q (by simp))
  |int j=>obtain⟨b,rfl⟩:=a;exact Lg (zt I q (by simp))
  |str j=>obtain⟨b,rfl⟩:=a;exact Lf (zt I q (by simp))
  |_=>exact absurd (show aD=aC from c) fG
 |bl i=>
  cases d;cases y with
  |non=>cases a;exact Lw (zt I q (by simp))
  |bl j=>cases a;exact eq_bool (zt I q HL)
  |str j=>obtain⟨b,rfl⟩:=a;exact Lu (zt I q (by simp))
  |_=>exact absurd (show aD=aC from c) fG
 |int i=>
  obtain⟨t,rfl⟩:=d;cases y with
  |non=>cases a;exact Le (zt I q (by simp))
  |int j=>obtain⟨b,rfl⟩:=a;exact eq_int (zt I q Xk)
  |str j=>obtain⟨b,rfl⟩:=a;exact Ld (zt I q (by simp))
  |_=>exact absurd (show aD=aC from c) fG
 |str i=>
  obtain⟨t,rfl⟩:=d;cases y with
  |non=>cases a;exact Lc (zt I q (by simp))
  |bl j=>cases a;exact Lr (zt I q (by simp))
  |int j=>obtain⟨b,rfl⟩:=a;exact Lb (zt I q (by simp))
  |str j=>obtain⟨b,rfl⟩:=a;exact eq_str (zt I q Xt)
  |_=>exact absurd (show aD=aC from c) fG
 |byt i=>
  obtain⟨t,rfl⟩:=d;cases y with
  |byt j=>obtain⟨b,rfl⟩:=a;exact PySem.W.eq_bytes (zt I q Y7)
  |_=>exact absurd (show aD=aC from c) fG
 |_=>cases y<;>exact absurd (show aD=aC from c) fG
theorem My:dX X (dZ .NotEq) rNe:=by
 intro e s f H x y v u Q I d a h;obtain⟨c,q⟩:=h;cases x with
 |non=>
  cases d;cases y with
  |non=>cases a;exact Lq (zt I q (by simp))
  |bl j=>cases a;exact Lp (zt I q (by simp))
  |int j=>obtain⟨b,rfl⟩:=a;exact La (zt I q (by simp))
  |str j=>obtain⟨b,rfl⟩:=a;exact I_ (zt I q (by simp))
  |_=>exact absurd (show aD=aC from c) fG
 |bl i=>
  cases d;cases y with
  |non=>cases a;exact Ln (zt I q (by simp))
  |bl j=>cases a;exact ne_bool (zt I q (congrArg not HL))
  |str j=>obtain⟨b,rfl⟩:=a;exact Lm (zt I q (by simp))
  |_=>exact absurd (show aD=aC from c) fG
 |int i=>
  obtain⟨t,rfl⟩:=d;cases y with
  |non=>cases a;exact I0 (zt I q (by simp))
  |int j=>obtain⟨b,rfl⟩:=a;exact ne_int (zt I q (congrArg not Xk))
  |str j=>obtain⟨b,rfl⟩:=a;exact IZ (zt I q (by simp))
  |_=>exact absurd (show aD=aC from c) fG
 |str i=>
  obtain⟨t,rfl⟩:=d;cases y with
  |non=>cases a;exact IY (zt I q (by simp))
  |bl j=>cases a;exact Ll (zt I q (by simp))
  |int j=>obtain⟨b,rfl⟩:=a;exact IW (zt I q (by simp))
  |str j=>obtain⟨b,rfl⟩:=a;exact ne_str (zt I q (congrArg not Xt))
  |_=>exact absurd (show aD=aC from c) fG
 |byt i=>
  obtain⟨t,rfl⟩:=d;cases y with
  |byt j=>obtain⟨b,rfl⟩:=a;exact PySem.W.ne_bytes (zt I q (congrArg not Y7))
  |_=>exact absurd (show aD=aC from c) fG
 |_=>cases y<;>exact absurd (show aD=aC from c) fG
theorem No:dX X (dZ .Lt) (lc λi j=>.bl (decide (i<j))):=rS λ_ _ _ _ _ _ _ q=>sO q
theorem M3:dX X (dZ .LtE) (lc λi j=>.bl (decide (i<=j))):=rS λ_ _ _ _ _ _ _ q=>le_int q
theorem M2:dX X (dZ .Gt) (lc λi j=>.bl (decide (j<i))):=rS λ_ _ _ _ _ _ _ q=>C_ q
theorem Mm:dX X (dZ .GtE) (lc λi j=>.bl (decide (j<=i))):=rS λ_ _ _ _ _ _ _ q=>ge_int q
theorem Yr:dX X (dZ .In) (λx y H Q=>∃i j,x=.str i/\y=.str j/\Q (.bl (!(oN j i 0 j.length 1).isEmpty)) H):=by
 intro a s d H x y v u Q I c b h;obtain⟨i,j,rfl,rfl,q⟩:=h;obtain⟨t,rfl⟩:=c;obtain⟨e,rfl⟩:=b;exact in_str (zt I q rfl)
theorem NU:dX X (dZ .Is) (λx y H Q=>y=.non/\Q (.bl (decide (x=.non))) H):=by
 intro b s d H x y v u Q I a c h;obtain⟨rfl,q⟩:=h;cases c;refine is_none_gen (zt I q ?_)
 cases x<;>first
  |(cases a;rfl)
  |(obtain⟨t,rfl⟩:=a;rfl)
theorem Sf:dX X (dZ .IsNot) (λx y H Q=>y=.non/\Q (.bl (!decide (x=.non))) H):=by
 intro b s d H x y v u Q I a c h;obtain⟨rfl,q⟩:=h;cases c;refine isnot_none_gen (zt I q ?_)
 cases x<;>first
  |(cases a;rfl)
  |(obtain⟨t,rfl⟩:=a;rfl)
theorem WX:dX X (dZ .NotIn) (λx y H Q=>∃i j,x=.str i/\y=.str j/\Q (.bl (!(!(oN j i 0 j.length 1).isEmpty))) H):=by
 intro a s d H x y v u Q I c b h;obtain⟨i,j,rfl,rfl,q⟩:=h;obtain⟨t,rfl⟩:=c;obtain⟨e,rfl⟩:=b;exact notIn_str (zt I q rfl)
theorem HA(b:aH)(h:op≠.In:=by decide)(h2:op≠.NotIn:=by decide):tT op b=aD:=by
 have c:(op==CmpOp.In)=aD:=by cases op<;>first|rfl|exact absurd rfl h
 have a:(op==CmpOp.NotIn)=aD:=by cases op<;>first|rfl|exact absurd rfl h2
 cases b<;>simp[tT,c,a]
theorem ZO:(sizeLine:Nat)<2 ^ 63:=by rw[d5];decide
theorem KD:dX X (gz .Add) (λx y H Q=>∃i j,x=.str i/\y=.str j/\i.length+j.length<=sizeLine/\Q (.str (i++j)) H):=by
 intro a s f H x y v u Q I d c h;obtain⟨i,j,rfl,rfl,e,q⟩:=h;obtain⟨t,rfl⟩:=d;obtain⟨b,rfl⟩:=c;exact add_str (λb g=>⟨.str (i++j),H,I.tok _,⟨_,rfl⟩,q⟩) e
theorem vals1(r:aW [x] us):∃u,us=[u]/\RelV x u:=by
 cases r with
 |cons b a=>cases a;exact⟨_,rfl,b⟩
theorem vals2(r:aW [x,y] us):∃u d,us=[u,d]/\RelV x u/\RelV y d:=by
 cases r with
 |cons e c=>
  cases c with
  |cons b a=>cases a;exact⟨_,_,rfl,e,b⟩
theorem W5:XD X (.type "int") (λxs H Q=>(∃i,xs=[.int i]/\Q (.int i) H)\/∃k,xs=[.bl k]/\Q (.int (if k then 1 else 0)) H):=by
 intro a s c H xs d Q I r h;rcases h with⟨i,rfl,q⟩|⟨k,rfl,q⟩
 ·obtain⟨u,rfl,t,rfl⟩:=vals1 r;exact call_int_int ⟨.int i,H,I,⟨_,rfl⟩,q⟩
 ·obtain⟨u,rfl,b⟩:=vals1 r;cases b;exact call_int_bool ⟨.int (if k then 1 else 0),H,I.tok _,⟨_,rfl⟩,q⟩
end
end L2
namespace L2
open PySem PySem.Spec PyProof.Rows
structure gH(h:aR)(x dx C:aE)(mA:aG->Option aB):Prop where
 obj:h.get? x=aA (lW C dx)
 ns:h.Ns1 dx mA
 ne:dx≠x
theorem Yw{h:aR}{dx:aE}{c:aG->Option aB}(n:h.Ns1 dx c):∃od,h.get? dx=aA od/\∀name,rk name od=aA (c name):=by
 obtain⟨o,es,ep,f,hd,i,_,g⟩:=n;refine⟨o,f,λname=>?_⟩;have e:=g name;unfold nsFind findBy at e;rw[←EN] at e;unfold rk;rw[hd];dsimp only;split
 ·rename_i y q;rw[q] at e;exact congrArg aA e
 ·rename_i q;rw[q] at e;have a:es.toList.any (·.refKey)=aD:=by
   rw[v6];intro y d;obtain⟨z,t,b⟩:=i y (EE.mp d);simp[DictEntry.refKey,b]
  have j:¬es.toList.any (·.refKey)=aC:=by rw[a];exact fG
  rw[if_neg j];exact congrArg aA e
theorem gH.look(I:gH h x dx C d):∃od,DJ h x (lW C dx) C (aA od)/\∀name,rk name od=aA (d name):=
 let ⟨od,ho,a⟩:=Yw I.ns
 ⟨od,⟨I.obj,rfl,rfl,ho⟩,a⟩
section
variable {prog:Program}{w:World}{A:Around}{E:aB->Shared->Prop}{s:Shared}{K:PySem.W.Frag}{x dx C f:aE}{mA:aG->Option aB}{name:aG}{v:aB}
theorem lh(X:K.In s.heap)(I:gH s.heap x dx C mA)(f:oC K C name=aC)(e:lP K C=aC)
  (g:cZ K (.ref C) name=aA aF) (b:mA name=aA v) (a:DW v=aC) (h:Q v {s with toks:=s.toks+1}) :
  wpAny (aQ prog w) A (getAttr (.ref x) name d) Q E s:=by
 obtain⟨i,J,c⟩:=I.look;exact PySem.W.get_value X J (oF f).1 (PySem.W.findObj_own e g rfl (by rw[c,b])) a h
theorem U_(X:K.In s.heap)(I:gH s.heap x dx C mA)(a:oC K C name=aC)
  (g:cZ K (.ref C) name=aA (aA (.ref f))) (d:tI K (.ref f)=aC) (c:mA name=aF) (h:Q (.ref f,[.ref x]) s) :
  wpAny (aQ prog w) A (sQ (.ref x) name j) Q E s:=by
 obtain⟨b,J,e⟩:=I.look;exact PySem.W.method_fn X J (oF a).1 (oF a).2 g (beq_iff_eq.mp d) (by show (rk name b).map (·.isSome)=aA aD;rw[e,c];rfl) h
theorem R8(X:K.In s.heap)(I:gH s.heap x dx C mA)
  (hs:cZ K (.ref C) "__setattr__"=aA (aA (.builtin "object.__setattr__"))) (k:u8 K C=aC) (j:t4 K C name=aA aF) (l:lP K C=aC)
  (hw:tJ mA ns) (hsz:ns.length<=sizeLine)
  (h:∀h',gH h' x dx C (λy=>if y=name then aA v else mA y)->fU dx s.heap h'->Q () {s with heap:=h',toks:=s.toks+2}) :
  wpAny (aQ prog w) A (setAttr (.ref x) name v) Q E s:=by
 obtain⟨p,J,t⟩:=I.look;refine D8 X J hs (PySem.W.osa_open (s:={s with toks:=s.toks+1}) (r:=aF) X J k j λb=>?_);obtain⟨cd,m,f⟩:=t7 l;have i:s.heap.get? x=aA ⟨.ref C,aA dx,.plain,#[]⟩:=I.obj;refine wpAny_bind (wpAny_pure (wpAny_bind (wpAny_bind (wpAny_loadPart i (wpAny_bind (nt (s:={s with toks:=s.toks+1}) (Ac X m) ?_))))));rw[f];refine wpAny_pure (a:=aA dx) (wpAny_bind (wpAny_pure (wpAny_bind ?_)));refine wpAny_nsSet1 (s:={s with toks:=s.toks+1}) I.ns λh' nG c=>?_;obtain⟨q,n,o,d,e,g⟩:=nG.count (Dy name v hw);refine wpAny_bind (Eo d (by rw[e];exact Em (cL g (by rw[eZ];lia))) ?_);exact wpAny_pure (h _ ⟨(c.2 _ (cE I.ne)).trans I.obj,nG,I.ne⟩ c)
theorem Js{R:mM->aU->Prop}(X:K.In s.heap)(b:nT K C=aC)
  (hi:cZ K (.ref C) "__init__"=aA (aA (.ref f))) (c:pA K (.ref f)=aA (.type "function"))
  (h:fP (aQ prog w) (A.under (.builtin "type.__call__" ⟨.ref C::vs,j⟩)) (.call (.ref f) ⟨.ref (s.heap.objs.size+1)::vs,j⟩) (PySem.W.InitBack (s.heap.objs.size+1) R)
   {s with heap:=(s.heap.push jp).push (lW C s.heap.objs.size)}) :
  fP (aQ prog w) A (.call (.ref C) ⟨vs,j⟩) R s:=by
 obtain⟨e,g,d,t,os⟩:=s;exact PySem.W.make_core (PySem.W.makes_of X b) (pO X hi) (λa=>PySem.W.bind_fn X a c) (.inl rfl) h
end
noncomputable def vw(f:aG)(v:V):List (aG×V)->List (aG×V)
 |[]=>[(f,v)]
 |(g,x)::r=>if g=f then (g,v)::r else (g,x)::vw f v r
theorem yQ(f g:aG)(v:V):∀fs:List (aG×V),(vw f v fs).lookup g=if g=f then aA v else fs.lookup g
 |[]=>by
  show gR g [(f,v)]=_;by_cases h:g=f
  ·have a:(g==f)=aC:=beq_iff_eq.mpr h;simp only[gR,a,if_pos h]
  ·have a:(g==f)=aD:=beq_eq_false_iff_ne.mpr h;simp only[gR,a,if_neg h]
 |(k,x)::r=>by
  have c:=yQ f g v r;rw[show vw f v ((k,x)::r)=(if k=f then (k,v)::r else (k,x)::vw f v r) from rfl];by_cases b:k=f
  ·rw[if_pos b];by_cases h:g=k
   ·have a:(g==k)=aC:=beq_iff_eq.mpr h;simp only[gR,a,if_pos (h.trans b)]
   ·have a:(g==k)=aD:=beq_eq_false_iff_ne.mpr h;simp only[gR,a,if_neg (λe:g=f=>h (e.trans b.symm))]
  ·rw[if_neg b];by_cases h:g=k
   ·have a:(g==k)=aC:=beq_iff_eq.mpr h;simp only[gR,a,if_neg (λe:g=f=>b (h.symm.trans e))]
   ·have a:(g==k)=aD:=beq_eq_false_iff_ne.mpr h;simp only[gR,a];exact c
theorem y6(f:aG)(v:V):∀fs:List (aG×V),f∈(vw f v fs).map (·.1)/\∀g,g∈fs.map (·.1)->g∈(vw f v fs).map (·.1)
 |[]=>⟨by simp[vw],λg h=>by simp at h⟩
 |(k,x)::r=>by
  obtain⟨c,b⟩:=y6 f v r;rw[show vw f v ((k,x)::r)=(if k=f then (k,v)::r else (k,x)::vw f v r) from rfl];by_cases a:k=f
  ·rw[if_pos a];subst a;exact⟨by simp,λg h=>by simpa using h⟩
  ·rw[if_neg a];refine⟨?_,λg h=>?_⟩
   ·rw[dW];exact dQ _ c
   ·rw[dW] at h ⊢;rcases cC.mp h with e|e
    ·exact cC.mpr (.inl e)
    ·exact dQ _ (b g e)
theorem yL(f:aG)(v:V):∀fs:List (aG×V),(vw f v fs).length<=fs.length+1
 |[]=>by simp[vw]
 |(k,x)::r=>by
  have b:=yL f v r;rw[show vw f v ((k,x)::r)=(if k=f then (k,v)::r else (k,x)::vw f v r) from rfl];by_cases a:k=f
  ·rw[if_pos a,eZ,eZ];lia
  ·rw[if_neg a,eZ,eZ];lia
theorem dB.some_of(r:dB (aA v) o):∃u,o=aA u/\RelV v u:=by
 cases o with
 |none=>exact (show False from r).elim
 |some u=>exact⟨u,rfl,r⟩
theorem dB.none_of(r:dB aF o):o=aF:=by
 cases o with
 |none=>rfl
 |some u=>exact (show False from r).elim
theorem Uq(r:RelV v u):DW u=aC:=by
 cases v with
 |non=>cases (show u=eU from r);rfl
 |bl b=>cases (show u=mX b from r);rfl
 |int i=>obtain⟨t,e⟩:=(show ∃t,u=mi i t from r);cases e;rfl
 |str x=>obtain⟨t,e⟩:=(show ∃t,u=pB x t from r);cases e;rfl
 |byt b=>obtain⟨t,e⟩:=(show ∃t,u=Dh b t from r);cases e;rfl
 |flt b=>obtain⟨t,e⟩:=(show ∃t,u=Dg b t from r);cases e;rfl
 |ref a=>cases (show u=cO a from r);rfl
 |ty n=>cases (show u=n4 n from r);rfl
section
variable {P:Program}{w:World}{H:Hp}{h:aR}{a C dx:aE}{fs:List (aG×V)}
theorem xP(hok:dN P w H h)(e:H a=aA (.ins C dx fs)):∃g,gH h a dx C g/\(∀f,dB (fs.lookup f) (g f))/\tJ g (fs.map (·.1))/\fs.length<=1000/\H dx=aA (.own a):=by
 obtain⟨d,z,ne,b,g,n,r,q⟩:=(show aY P w H h a (.ins C dx fs) from hok a _ e);exact⟨g,⟨b,n,ne⟩,r,q,z,d⟩
end
structure gM(K:PySem.W.Frag)(C:aE):Prop where
 pg:oC K C mh=aC
 hd:lP K C=aC
 po:u8 K C=aC
 sa:cZ K (.ref C) "__setattr__"=aA (aA (.builtin "object.__setattr__"))
theorem gM.get{K:bK}{C:aE}(c:gM K C)(f:aG):oC K C f=aC:=c.pg
noncomputable def cH(K:bK)(C:aE)(f:aG):Prop:=cZ K (.ref C) f=aA aF
theorem cH.taker{K:bK}(n:cH K C f):t4 K C f=aA aF:=by
 unfold t4;rw[show cZ K (.ref C) f=aA aF from n];rfl
structure mK(K:PySem.W.Frag)(C:aE)(m:aG)(f:aE):Prop where
 at_:cZ K (.ref C) m=aA (aA (.ref f))
 fn:tI K (.ref f)=aC
 kp:eS K (.ref f)=aC
section
variable {X:Cx}{pins:List (aE×bB)}{σ:St}{H:Hp}{s:Shared}{a C dx:aE}{fs:List (aG×V)}{f:aG}{v:V}{A:Around}{E:aB->Shared->Prop}
theorem ZA{b:Bool}{Q:aB->aU->Prop}(I:Inv X pins σ H s)(e:H a=aA (.ins C dx fs))(c:gM X.K C)(n:cH X.K C f)(l:fs.lookup f=aA v)
  (h:∀u d,Inv X pins σ H d->RelV v u->Q u d):wpAny (aQ X.prog X.w) A (getAttr (.ref a) f b) Q E s:=by
 obtain⟨i,O,r,_,_,_⟩:=xP I.hok e;obtain⟨u,j,g⟩:=dB.some_of (v:=v) (o:=i f) (by rw[←l];exact r f);exact lh I.kIn O (c.get f) c.hd n j (Uq g) (h u _ (I.tok _) g)
theorem Kc{m:aG}{g:aE}{b:Sem Bool}{Q:aB×List aB->aU->Prop}(I:Inv X pins σ H s)(e:H a=aA (.ins C dx fs))(c:gM X.K C)(k:mK X.K C m g)(l:fs.lookup m=aF)
  (h:Q (.ref g,[.ref a]) s):wpAny (aQ X.prog X.w) A (sQ (.ref a) m b) Q E s:=by
 obtain⟨d,O,r,_,_,_⟩:=xP I.hok e;have f:d m=aF:=dB.none_of (by rw[←l];exact r m);exact U_ I.kIn O (c.get m) k.at_ k.fn f h
theorem Xc{y:V}{u:aB}{Q:Unit->aU->Prop}(I:Inv X pins σ H s)(e:H a=aA (.ins C dx fs))(c:gM X.K C)(n:cH X.K C f)(G:fs.length<1000)(p:RelV y u)
  (h:∀j,Inv X pins σ (upd H a (.ins C dx (vw f y fs))) j->Q () j):wpAny (aQ X.prog X.w) A (setAttr (.ref a) f u) Q E s:=by
 obtain⟨k,O,r,i,_,l⟩:=xP I.hok e;have t:(fs.map (·.1)).length<=sizeLine:=by rw[bG,d5];lia
 refine R8 I.kIn O c.sa c.po n.taker c.hd i t λD d m=>h _ ?_;have hd:∃o,D.get? dx=aA o:=let ⟨o,_,_,F,_⟩:=d.ns;⟨o,F⟩;refine I.write (x:=a) (e:=dx) (by rw[e];exact gw) (.inr l) (λb q B z=>(m.2 b B).trans z) hd ?_;refine⟨by rw[z8 O.ne];exact l,?_,O.ne,d.obj,_,d.ns,λg=>?_,λg v=>?_⟩
 ·have:=yL f y fs;lia
 ·show dB ((vw f y fs).lookup g) (if g=f then aA u else k g);rw[yQ];by_cases q:g=f
  ·rw[if_pos q,if_pos q];exact p
  ·rw[if_neg q,if_neg q];exact r g
 ·by_cases q:g=f
  ·rw[q];exact (y6 f y fs).1
  ·refine (y6 f y fs).2 g (i g λz=>v ?_);show (if g=f then aA u else k g)=aF;rw[if_neg q];exact z
theorem Inv.made(I:Inv X pins σ H s):Inv X pins σ (upd (upd H s.heap.objs.size (.own (s.heap.objs.size+1))) (s.heap.objs.size+1) (.ins C s.heap.objs.size []))
  {s with heap:=(s.heap.push jp).push (lW C s.heap.objs.size)}:=by
 have c:(s.heap.push jp).get? s.heap.objs.size=aA jp:=dP s.heap rfl;have g:((s.heap.push jp).push (lW C s.heap.objs.size)).get? (s.heap.objs.size+1)=aA (lW C s.heap.objs.size):=by
  have:=dP (s.heap.push jp) (o:=lW C s.heap.objs.size) rfl;rwa[iy] at this
 have f:(s.heap.push jp).Ns s.heap.objs.size (λ_=>aF):=⟨jp,#[],_,c,rfl,(λe he=>absurd he (by simp)),λ_=>rfl⟩;have h:=I.laid (a:=s.heap.objs.size) (o:=.own (s.heap.objs.size+1)) (h':=s.heap.push jp) (t':=s.toks) (λb u q=>bP _ q) (bC _) ⟨_,c⟩;refine h.laid (a:=s.heap.objs.size+1) (o:=.ins C s.heap.objs.size []) (t':=s.toks) (λb u q=>bP _ q) (i9 (iy _ _)) ?_;have ne:s.heap.objs.size≠s.heap.objs.size+1:=c7 (lL _);refine⟨by rw[z8 ne,z4],f9 _,ne,g,λ_=>aF,(D7 f).at λo q=>bP _ q,λ_=>gw,λy d=>absurd rfl d⟩
theorem PZ{prog:b7}{w:cV}{env:Env}{e:aH}{f:aG}{pos:Pos}{s:aU}{Q:aB->aU->Prop}(a:m_ e f env (eval e env)=eval e env)
  (h:wpAny (aQ prog w) A (eval e env) (λo d=>wpAny (aQ prog w) A (getAttr o f aC) Q E d) E s):wpAny (aQ prog w) A (eval (.Attribute e f pos) env) Q E s:=
 Attribute_any_ h (by rw[arm_eval_Attribute,a])
end
noncomputable def Md (K:bK)(d:TE)(f:aG):TE:=λc H Q=>d c H λx b=>∃a C dx fs v,x=.ref a/\b a=aA (.ins C dx fs)/\gM K C/\cH K C f/\fs.lookup f=aA v/\Q v b
noncomputable def zK (K:bK)(e d:TE)(f:aG):TS:=λD b H=>d b H λy g=>e b g λx c=>∃a C dx fs,x=.ref a/\c a=aA (.ins C dx fs)/\gM K C/\cH K C f/\fs.length<1000/\
 D.nx b (upd c a (.ins C dx (vw f y fs)))
section
variable {X:Cx}{o e value:aH}{f:aG}{pos pos':Pos}{ta tv:TE}
theorem OQ(he:PE X e ta)(j:m_ e f X.env (eval e X.env)=eval e X.env):PE X (.Attribute e f pos) (Md X.K ta f):=by
 intro b s d H Q I h;refine PZ j (a7 (he b s d H _ I h) λu t ⟨x,o,m,g,a,C,dx,fs,v,ex,ea,c,n,l,q⟩=>?_);subst ex;obtain rfl:u=cO a:=g;exact ZA m ea c n l λp r k i=>⟨v,o,k,i,q⟩
theorem OF(p:PE X o ta)(m:PE X value tv)(hs:iP value (aA (.Attribute o f pos')) pos.line X.env=pure aD):PS X (.Assign [.Attribute o f pos'] value pos) (zK X.K ta tv f):=by
 intro b s d H D I h;refine plainObj_wpAny_Assign_Attribute (a7 (m b s d H _ I h) λu e ⟨y,w,v,g,q⟩=>a7 (p b e d w _ v q) λk A ⟨x,B,t,i,a,C,dx,fs,ex,ea,c,n,l,j⟩=>?_) hs;subst ex;obtain rfl:k=cO a:=i;exact Xc t ea c n l g λz r=>⟨d,_,r,j⟩
end
end L2
namespace L2
open PySem PySem.Spec PyProof.Rows
structure bZ(k:Nat)(A:Around):Prop where
 hd:A.handled=aF
 dp:A.depth+3*k+5<recursionLimit
 un:A.units+16*k+200<cLine
theorem bZ.mono(r:bZ k A)(h:j<=k):bZ j A:=⟨r.hd,by have:=r.dp;lia,by have:=r.un;lia⟩
theorem bZ.deeper(r:bZ (k+1) A)(env:Env):bZ k (A.deeper env):=
 ⟨r.hd,by have:=r.dp;show A.depth+1+3*k+5<_;lia,by have:=r.un;show A.units+3+16*k+200<_;lia⟩
theorem Kf{A:dU}{C:aE}{us:List aB}{a:List (aG×aB)}:(A.under (.builtin "type.__call__" ⟨.ref C::us,a⟩)).depth=A.depth+1:=by
 first|rfl|simp[tF,Code.weight,Code.isCreation,Code.isGuard,Code.isCaller,Df,tD,guardIds]
theorem Kl{A:dU}{C:aE}{us:List aB}{a:List (aG×aB)}:(A.under (.builtin "type.__call__" ⟨.ref C::us,a⟩)).units=A.units+1:=by
 first|rfl|simp[tF,Code.cUnits,Df,tD]
theorem bZ.make(r:bZ (k+1) A)(C:aE)(us:List aB)(a:List (aG×aB)):bZ k (A.under (.builtin "type.__call__" ⟨.ref C::us,a⟩)):=
 ⟨r.hd,by have:=r.dp;rw[Kf];omega,by have:=r.un;rw[Kl];omega⟩
theorem bZ.depth(r:bZ k A):A.depth<recursionLimit:=by have:=r.dp;lia
noncomputable def LK:TA:=λ_ H Q=>Q [] H
noncomputable def Nj(d:TE)(c:TA):TA:=λa H Q=>d a H λx f=>c a f λb e=>Q (x::b) e
section
variable {X:Cx}{e:aH}{es:List aH}{te:TE}{t:TA}{pos:Pos}
theorem zZ:PA X [] LK:=λ_ _ _ _ H Q I h=>D6 ⟨[],H,I,.nil,h⟩
theorem zr(m:PE X e te)(l:PA X es t)(hs:eF (e::es) X.env=(aD,eval e X.env)::eF es X.env:=by rfl):PA X (e::es) (Nj te t):=by
 intro b a s c H Q I h;rw[hs];show wpAny _ _ (spliced ((aD,eval e X.env)::fN b (eF es X.env))) _ _ s;refine EM (a7 (m a s c H _ I h) λu f ⟨x,q,o,i,k⟩=>?_);exact a7 (l b a f c q _ o k) λr v ⟨d,p,n,g,j⟩=>⟨x::d,p,n,.cons i g,j⟩
noncomputable def LF (t:TA):TE:=λc H Q=>t c H λa b=>a.length<=sizeLine/\∀p,b p=aF->Q (.ref p) (upd b p (.tup a))
noncomputable def LD (t:TA):TE:=λc H Q=>t c H λa b=>a.length<=sizeLine/\∀p,b p=aF->Q (.ref p) (upd b p (.lst a))
theorem HD{x1}(h:PA X es t):PE X (.Tuple es x1 pos) (LF t):=by
 intro a s g H Q I k;refine wpAny_Tuple_spliced (a7 (h pos a s g H _ I k) λj c ⟨i,f,d,r,z,q⟩=>⟨by rw[←r.length];exact z,?_⟩);have l:f c.heap.objs.size=aF:=d.hok.fresh (bC _);refine⟨.ref c.heap.objs.size,upd f c.heap.objs.size (.tup i),d.laid (t':=c.toks) (λb u e=>bP _ e) (bC _) ?_,rfl,q _ l⟩;exact⟨z,j,r,⟨_,dP _ rfl,rfl,_,rfl⟩⟩
theorem UA(h:PA X es t):PE X (.List es pos) (LD t):=by
 intro a s g H Q I k;refine wpAny_List_spliced (a7 (h pos a s g H _ I k) λj c ⟨i,f,d,r,z,q⟩=>⟨by rw[←r.length];exact z,?_⟩);have l:f c.heap.objs.size=aF:=d.hok.fresh (bC _);refine⟨.ref c.heap.objs.size,upd f c.heap.objs.size (.lst i),d.laid (t':=c.toks) (λb u e=>bP _ e) (bC _) ?_,rfl,q _ l⟩;exact⟨z,j,0,r,dP _ rfl⟩
end
noncomputable abbrev Sp:=List V->Hp->VK->XK->Prop
noncomputable abbrev lw:=List Env->Hp->aU->XK->aB->aU->Prop
structure dI(P:Program)(w:World)(K:PySem.W.Frag)(mg:aG->Option aB)(base:aR)(A:Around)(outer:List Env)(s:Shared)(H:Hp):Prop where
 frames:A.frames=aA outer
 mod:Mod K mg base
 bs:∀b o,base.get? b=aA o->s.heap.get? b=aA o/\H b=aF
 bsz:base.objs.size<=s.heap.objs.size
 funs:s.heap.FunFrames base outer
 frf:∀b∈eY outer,H b=aF
 hok:dN P w H s.heap
 bare:i4 s.gens
inductive CE(outer:List Env)(P:Program)(w:World)(H:Hp)(s:Shared)(Q:VK)(u:aB)(s':Shared):Prop where
 |mk (v:V) (H':Hp) (o:s'.os=s.os) (b:i4 s'.gens) (n:Un (eY outer) [] H H' s.heap s'.heap) (k:dN P w H' s'.heap) (r:RelV v u) (q:Q v H')
noncomputable def CR (CX:lw)(outer:List Env)(P:b7)(w:cV)(H:Hp)(s:aU)(Q:VK)(E:XK)(r:mM)(a:aU):Prop:=
 match r with
 |.ok (.ret u)=>CE outer P w H s Q u a
 |.ok _=>False
 |.error e=>CX outer H s E e a
structure bQ(P:Program)(w:World)(K:PySem.W.Frag)(mg:aG->Option aB)(base:aR)(CX:lw)(k:Nat)(f:aE)(fd:FuncData)(ps:List aG)(sp:Sp):Prop where
 len:∀vs H Q E,sp vs H Q E->vs.length=ps.length
 run:∀(A:dU) (outer:List Env) (s:aU) (H:Hp) (args:Args) (us:List aB) (vs:List V) (Q:VK) (E:XK),bZ k A->dI P w K mg base A outer s H->lB s fd args (ps.zip us)->aW vs us->sp vs H Q E->
  fP (aQ P w) A (.call (.ref f) args) (CR CX outer P w H s Q E) s
theorem bQ.imp{P:b7}{K:bK}(F:bQ P w K mg base CX k f fd ps sp)
  (h:∀vs H Q E,d vs H Q E->sp vs H Q E):bQ P w K mg base CX k f fd ps d:=
 ⟨λvs H Q E q=>F.len vs H Q E (h _ _ _ _ q),λA outer s H args us vs Q E b he c a hs=>F.run A outer s H args us vs Q E b he c a (h _ _ _ _ hs)⟩
theorem dI.make{P:b7}{K:bK}(e:dI P w K mg base A outer s H)(C:aE)(us:List aB)(a:List (aG×aB)) :
  dI P w K mg base (A.under (.builtin "type.__call__" ⟨.ref C::us,a⟩)) outer s H:=⟨by first|exact e.frames|(simpa[tF,Code.envs,tD,pushEnvs] using e.frames),e.mod,e.bs,e.bsz,e.funs,e.frf,e.hok,e.bare⟩
theorem dI.in1{P:b7}{K:bK}(e:dI P w K mg base A outer s H) :
  dI P w K mg base A.in1 outer s H:=⟨e.frames,e.mod,e.bs,e.bsz,e.funs,e.frf,e.hok,e.bare⟩
section
variable {X:Cx}{pins:List (aE×bB)}{σ:St}{H:Hp}{s s':Shared}
theorem Inv.env0(I:Inv X pins σ H s):dI X.prog X.w X.K X.mg X.base X.A X.stack s H:=
 ⟨I.ok.frames,I.ok.mod,I.bs,cL I.ok.bsz I.sz,I.stack,I.stkFree,I.hok,I.bare⟩
theorem Inv.after(I:Inv X pins σ H s)(h:CE X.stack X.prog X.w H s Q u s'):EP X pins σ Q u s':=by
 obtain⟨v,e,os,bare,un,hok,r,q⟩:=h;obtain⟨c,g,d,t,a⟩:=s';obtain rfl:a=s.os:=os;exact⟨v,e,I.call (h':=c) (g':=g) (d':=d) (t':=t) (ch:=[]) un hok bare (λb z=>absurd z (by simp)),r,q⟩
end
noncomputable def Binds(K:bK)(fd:FuncData)(ps:List aG)(ds:List aB):Prop:=
 ∀(s:aU) (a:List aB),K.In s.heap->(a++ds).length=ps.length->lB s fd ⟨a,[]⟩ (ps.zip (a++ds))
theorem Binds.all{K:bK}{fd:FuncData}{ps:List aG}(h:∀us:List aB,us.length=ps.length->lH fd ⟨us,[]⟩=pure (ps.zip us)):Binds K fd ps []:=λs us _ a=>by
 rw[gA] at a ⊢;exact .of_eq (h us a)
section
variable {f C:aE}
structure Mk(K:PySem.W.Frag)(C f:aE):Prop where
 makes:nT K C=aC
 init:cZ K (.ref C) "__init__"=aA (aA (.ref f))
 fn:tI K (.ref f)=aC
 kp:eS K (.ref C)=aC
end
structure cQ(N P:List aG)(sc:Scope):Prop where
 kind:sc.kind=.function
 co:sc.isCoroutine=aD
 gen:sc.isGenerator=aD
 nd:N.Nodup
 pre:N.take P.length=P
 par:∀x∈P,sc.names.lookup x=aA .local\/sc.names.lookup x=aA .cell
 nofree:∀y∈sc.names,y.2≠.free
theorem Q_{kindOf:aG->Option lG}:∀{binds:List (aG×aB)} {m:aG->Option aB},(∀v,(x,v)∉binds)->lA kindOf binds m x=m x
 |[],_,_=>rfl
 |(n,v)::r,m,h=>by
  unfold lA;rw[Q_ λw hw=>h w (dQ _ hw)];split
  ·have:x≠n:=by rintro rfl;exact h v d9
   simp[this]
  ·rfl
theorem QW{kindOf:aG->Option lG}:∀{binds:List (aG×aB)} {m:aG->Option aB},(∀v,(x,v)∉binds)->ly kindOf binds m x=m x
 |[],_,_=>rfl
 |(n,v)::r,m,h=>by
  unfold ly;rw[QW λw hw=>h w (dQ _ hw)];split
  ·rfl
  ·have:x≠n:=by rintro rfl;exact h v d9
   simp[this]
theorem QC{kindOf:aG->Option lG}:∀{P:List aG} {vs:List aB} {i:Nat} {m:aG->Option aB},P.Nodup->P[i]?=aA x->vs[i]?=aA v->kindOf x=aA .local->
  lA kindOf (P.zip vs) m x=aA v
 |[],_,_,_,_,h,_,_=>by simp at h
 |_::_,[],_,_,_,_,h,_=>by simp at h
 |p::P,w::vs,0,m,c,b,a,d=>by
  simp at b a;subst b;subst a;show lA kindOf ((p,w)::P.zip vs) m p=_;unfold lA;rw[Q_ λv e=>(lV.mp c).1 (rA e).1,if_pos d];simp
 |p::P,w::vs,i+1,m,c,b,a,d=>by
  show lA kindOf ((p,w)::P.zip vs) m x=_;unfold lA;exact QC (i:=i) (lV.mp c).2 (by simpa using b) (by simpa using a) d
theorem QG{kindOf:aG->Option lG}:∀{P:List aG} {vs:List aB} {i:Nat} {m:aG->Option aB},P.Nodup->P[i]?=aA x->vs[i]?=aA v->kindOf x≠aA .local->
  ly kindOf (P.zip vs) m x=aA v
 |[],_,_,_,_,h,_,_=>by simp at h
 |_::_,[],_,_,_,_,h,_=>by simp at h
 |p::P,w::vs,0,m,c,b,a,d=>by
  simp at b a;subst b;subst a;show ly kindOf ((p,w)::P.zip vs) m p=_;unfold ly;rw[QW λv e=>(lV.mp c).1 (rA e).1,if_neg d];simp
 |p::P,w::vs,i+1,m,c,b,a,d=>by
  show ly kindOf ((p,w)::P.zip vs) m x=_;unfold ly;exact QG (i:=i) (lV.mp c).2 (by simpa using b) (by simpa using a) d
noncomputable def start(N:List aG)(vs:List V):St:=vs.map aA++lR (N.length-vs.length) aF
noncomputable def JB (CX:lw)(P:b7)(w:cV)(K:bK)(mg:aG->Option aB)(base:aR)(N:List aG)(qual:aG)(scope:Scope)(f:aE)(cd:aB)(A:dU)(outer:List Env)(s:aU)(H:Hp)(E:XK)(fnb:aG->Bool:=λ_=>aC):Cx where
 prog:=P
 w:=w
 K:=K
 mg:=mg
 base:=base
 A:=A.deeper (f8 qual scope s.heap.objs.size f cd)
 N:=N
 s₀:=s
 H₀:=H
 env:=f8 qual scope s.heap.objs.size f cd
 outer:=outer
 stack:=f8 qual scope s.heap.objs.size f cd::outer
 ex:=[]
 calm:=aC
 fn:=fnb
 pn:=[]
 xe:=λe b=>wpAny (aQ P w) (A.deeper (f8 qual scope s.heap.objs.size f cd)) (pu (f8 qual scope s.heap.objs.size f cd) e) (λ_ a=>CX outer H s E e a) (λc a=>CX outer H s E c a) b
theorem JE{sc:Scope}{n:Nat}{x:aG}(h:sc.names.lookup x=aA .cell):∃c,(pF n sc.names []).lookup x=aA c:=by
 have q:=Aa sc.names n [] (.inl h);exact rN.mp q
theorem yj{CX:lw}{P:b7}{w:cV}{K:bK}{mg:aG->Option aB}{base:aR}{N ps:List aG}{qual:aG}{scope:Scope}{f:aE}{cd:aB}{A:dU}{outer:List Env}{s B:aU}{H:Hp}{E:XK}{us:List aB}{vs:List V}{fnb:aG->Bool}
  (S:cQ N ps scope) (hd:A.handled=aF) (e0:dI P w K mg base A outer s H) (L:vs.length=ps.length) (r:aW vs us)
  (x:InCallC s s.heap.objs.size (lA (f8 qual scope s.heap.objs.size f cd).kindOf (ps.zip us) λ_=>aF) (pF (s.heap.objs.size+1) scope.names []) (ly (f8 qual scope s.heap.objs.size f cd).kindOf (ps.zip us) λ_=>aF) B) :
  Inv (JB CX P w K mg base N qual scope f cd A outer s H E fnb) [] (start N vs) H B:=by
 have G:ps.length<=N.length:=by have:=congrArg iR S.pre;rw[gV] at this;lia
 obtain⟨t,J,rfl,D⟩:=x.done;have g:∀b:aE,b∉(JB CX P w K mg base N qual scope f cd A outer s H E fnb).ex:=λb z=>absurd (show b∈([]:List aE) from z) (by simp)
 refine⟨⟨e0.mod,S.kind,rfl,rfl,bC _,λy z c t d=>?_,λy j=>?_,λy c _ h=>?_,λ_=>hd,Ae e0.frames,.inr ⟨rfl,rfl⟩,λb z=>absurd z (g b),e0.bs,e0.bsz,λb _ _=>g b,λb z=>absurd z (g b),e0.funs,e0.frf⟩,
  rfl,e0.bare,Un.kept D,⟨_,x.toInCall.ns,λi y v t d M=>?_⟩,λy c h=>⟨_,x.cell y c h⟩,e0.hok.fresh (bC _),λy c h=>?_,λp m=>absurd (show p∈([]:List (aE×bB)) from m) (by simp),e0.hok.kept D,?_⟩
 ·exact name_of_addr x.apart (la t) (la d)
 ·have j:scope.names.lookup y=aA .cell\/scope.names.lookup y=aA .free:=j;rcases j with j|j
  ·exact JE j
  ·exact absurd rfl (S.nofree _ (la j))
 ·exact mq (x.above y c (la h))
 ·have o:i<vs.length:=by
   unfold start at d;by_cases o:i<vs.length
   ·exact o
   ·rw[fT (by simpa using o)] at d;rw[rH] at d;split at d<;>cases d
  have I:vs[i]?=aA v:=by
   unfold start at d;rw[eN (by simpa using o),c8] at d;cases e:vs[i]? with
   |none=>rw[e] at d;cases d
   |some a=>rw[e] at d;cases d;rfl
  obtain⟨u,C,F⟩:=r.get I;have m:ps[i]?=aA y:=by
   rw[←S.pre,List.getElem?_take_of_lt (by lia)];exact t
  have l:ps.Nodup:=by rw[←S.pre];exact S.nd.sublist (oj _ _)
  refine⟨u,F,?_⟩;rcases S.par y (cD m) with k|k
  ·exact .inl ⟨k,QC l m C k⟩
  ·obtain⟨c,e⟩:=JE (n:=s.heap.objs.size+1) k;refine .inr ⟨.inl k,c,e,?_⟩;have q:=x.cell y c e;rw[QG l m C (by show scope.names.lookup y≠_;rw[k];decide)] at q;exact q
 ·exact .inl (e0.hok.fresh (mq (x.above y c (la h))))
 ·unfold start;show _=N.length;rw[ig,bG,E5];lia
theorem G9{CX:lw}{P:b7}{w:cV}{K:bK}{mg:aG->Option aB}{base:aR}{k:Nat}{f:aE}{name qual:aG}{params:Arguments}{body:List bE}{scope:Scope}{O kV doc M a ct U:aB}{an od:Option aE}
  {C:Array (Option aB)} {N ps:List aG} {sp:Sp} {fnb:aG->Bool} (lk:K.lookup f=aA ⟨U,od,.func (fA name qual params body scope O kV doc M an a ct),C⟩) (G:fD K a qual=aC) (S:cQ N ps scope)
  (len:∀vs H Q E,sp vs H Q E->vs.length=ps.length)
  (j:∀(A:dU) (outer:List Env) (s:aU) (H:Hp) (vs:List V) (Q:VK) (E:XK),bZ k (A.deeper (f8 qual scope s.heap.objs.size f a))->sp vs H Q E->(∀y c,(f8 qual scope s.heap.objs.size f a).cells.lookup y=aA c->s.heap.objs.size<=c/\H c=aF)->
   ∃t,gG (JB CX P w K mg base N qual scope f a A outer s H E fnb) body t/\t {nx:=λ_ g=>Q .non g,rt:=Q} (start N vs) H) :
  bQ P w K mg base CX (k+1) f (fA name qual params body scope O kV doc M an a ct) ps sp:=by
 refine⟨len,λA outer s H args T vs Q E F e0 hb r p=>?_⟩;have hl:=len _ _ _ _ p;have R:K.In s.heap:=e0.mod.kin.keeps λb o e=>(e0.bs b o e).1;have D:s.heap.NoLimit:=e0.mod.nolimit.keeps λb o e=>(e0.bs b o e).1;have i:∀y∈ps.zip T,scope.names.lookup y.1=aA .local\/(scope.names.lookup y.1=aA .cell/\((pF (s.heap.objs.size+1) scope.names []).lookup y.1).isSome=aC):=λ⟨n,v⟩ X=>by
  rcases S.par n (rA X).1 with q|q
  ·exact .inl q
  ·exact .inr ⟨q,Aa _ _ _ (.inl q)⟩
 refine wS F.depth (R _ _ lk) rfl S.co S.gen rfl (EL R G) (hb _ _ _ _ ?_);refine Ap S.kind i λenv he L x=>?_;subst he;refine⟨D.keeps x.toInCall.keep,tB ?_⟩;obtain⟨t,Y,Z⟩:=j A outer s H vs Q E (F.deeper _) p λy c h=>have l:=mq (x.above y c (la h));⟨l,e0.hok.fresh l⟩;have I:Inv (JB CX P w K mg base N qual scope f a A outer s H E fnb) [] (start N vs) H L:=yj S F.hd e0 hl r x;refine dR (Y [] L (start N vs) H _ I Z) (λfl z m=>?_) λe z m=>m
 have fin:∀{d:St} {g:Hp} {v:V} {u:aB},Inv (JB CX P w K mg base N qual scope f a A outer s H E fnb) [] d g z->RelV v u->Q v g->CE outer P w H s Q u z:=
  λ{d g v u} J B q=>⟨v,g,J.os,J.bare,J.base,J.hok,B,q⟩
 cases fl with
 |ret u=>
  obtain⟨v,d,g,J,B,q⟩:=m;exact fin J B q
 |next=>
  obtain⟨d,g,J,q⟩:=m;exact fin (v:=V.non) (u:=eU) J rfl q
 |brk=>
  obtain⟨_,_,_,q⟩:=m;exact eG q
 |cont=>
  obtain⟨_,_,_,q⟩:=m;exact eG q
end L2
namespace HT
open PySem PyProof.Rows
noncomputable def lexLt:List Int->List Int->Bool
 |[],[]=>aD
 |[],_::_=>aC
 |_::_,[]=>aD
 |x::b,y::a=>if x=y then lexLt b a else decide (x<y)
theorem JZ(x y:Int)(xs ys:List Int):lexLt (x::xs) (y::ys)=if x=y then lexLt xs ys else decide (x<y):=rfl
theorem Qu:lexLt [] []=aD:=rfl
theorem Zp(y:Int)(ys:List Int):lexLt [] (y::ys)=aC:=rfl
theorem Z1(x:Int)(xs:List Int):lexLt (x::xs) []=aD:=rfl
theorem eqAt_int(A:dU)(s:aU)(a:Int)(t:Tok)(c:Int)(u:Tok):∃e,iO A s (.int a t) (.int c u) e/\(e=aC↔a=c):=
 ⟨(a==c),EK a t c u,by simp⟩
theorem WF(A:dU)(s:aU)(a:Int)(t:Tok)(c:Int)(u:Tok)(prog:b7)(w:cV)(E:aB->aU->Prop)(Q:aB->aU->Prop)(h:Q (.bool (decide (a<c))) s) :
  wpAny (aQ prog w) A (pM .Lt (.int a t) (.int c u)) Q E s:=
 (sO h:wpAny (aQ prog w) A (dZ .Lt (.int a t) (.int c u)) Q E s)
section
open PySem.SeqAt
open PySem.AutoSeq1 (wpAny_loadPart')
open PySem.MeetsSeq PySem.MeetsSeq2 PySem.MeetsSeq3
theorem Qg(l b:aE)(items f:Array aB)(n n2:Nat)(dd O:Option aE)(S K:Array (Option aB))(ns I:List Int)(hi:dY items.toList ns)(Q:dY f.toList I) :
  Meets (ir.«tuple.__lt__» ⟨[.ref l,.ref b],[]⟩)
   (λ_ R s=>s.heap.get? l=aA {cls:=.type "tuple",dict:=dd,data:=.seq items n,slots:=S}/\s.heap.get? b=aA {cls:=.type "tuple",dict:=O,data:=.seq f n2,slots:=K}/\
    R (.ok (.ret (.bool (lexLt ns I)))) s):=
 .of_wp λp w A R s h=>by
  obtain⟨J,g,d,H,os⟩:=s;obtain⟨V,X,h⟩:=h;have f2:=E9;have Z:items.size=ns.length:=by rw[←hi.length];simp
  have Y:f.size=I.length:=by rw[←Q.length];simp
  wp_walk using rz V,rz X,El _ (λrest b L=>b.1=aF/\L=⟨J,g,d,H,os⟩/\∃(G F:List aB) (j k:List Int),rest=G.zip F/\
   dY G j/\dY F k/\j.length+f.size=k.length+items.size/\R (.ok (.ret (.bool (lexLt j k)))) ⟨J,g,d,H,os⟩) _
  case turn=>
   rintro⟨y,x⟩ rest b L ⟨C,rfl,G,F,j,k,m,z,o,i,v⟩
   cases z with
   |nil=>rw[D5] at m;cases m
   |cons a t E=>
    cases o with
    |nil=>rw[EJ] at m;cases m
    |cons c u D=>
     rw[rC] at m;injection m with M B;injection M with T U;subst T U;rw[JZ] at v;simp only[eZ] at i;obtain⟨e,W,r⟩:=eqAt_int A.in1 ⟨J,g,d,H,os⟩ a t c u;refine wpAny_bind (W p w _ _ ?_);cases e with
     |true=>
      rw[if_pos (r.mp rfl)] at v;wp_walk;exact⟨rfl,rfl,_,_,_,_,B,E,D,by lia,v⟩
     |false=>
      rw[if_neg (λq=>absurd (r.mpr q) fG)] at v;have N:=WF A.in1 ⟨J,g,d,H,os⟩ a t c u p w;wp_walk using N;exact⟨_,rfl,by simpa using v⟩
  case fin=>
   rintro⟨b1,b2⟩ L ⟨C,rfl,G,F,j,k,m,z,o,i,v⟩
   simp only at C
   subst C
   have P:lexLt j k=decide (items.size<f.size):=by
    cases z with
    |nil=>
     cases o with
     |nil=>
      simp only[lU] at i;rw[Qu];exact (decide_eq_false (by lia)).symm
     |cons c u hw=>
      simp only[lU,eZ] at i;rw[Zp];exact (decide_eq_true (by lia)).symm
    |cons a t P=>
     cases o with
     |nil=>
      simp only[lU,eZ] at i;rw[Z1];exact (decide_eq_false (by lia)).symm
     |cons c u hw=>
      rw[rC] at m;cases m
   rw[P] at v
   wp_walk
   exact⟨_,rfl,by simpa[Fs] using v⟩
  case h=>
   exact⟨rfl,rfl,items.toList,f.toList,ns,I,rfl,hi,Q,by lia,h⟩
end
section
variable {prog:Program}{w:World}{A:Around}{E:aB->Shared->Prop}{s:Shared}
theorem lt_tupInts(t:io s.heap l items)(v:io s.heap b d)(hi:dY items.toList ns)(u:dY d.toList g)
  (r:A.units<cLine) (h:Q (.bool (lexLt ns g)) s):wpAny (aQ prog w) A (dZ .Lt (.ref l) (.ref b)) Q E s:=by
 obtain⟨⟨cls,dd,m,p⟩,j,k,n,hd⟩:=id t;obtain⟨⟨o,i,data2,f⟩,a,e,q,c⟩:=id v;simp only at k hd e c;subst k hd e c
 exact Ff (op:=.Lt) ⟨_,j,rfl⟩ ⟨_,a,rfl⟩ PySem.F.slot_tuple_lt PySem.F.entry_tuple_lt (PySem.F.args_tuple_lt_2 _ _) (Qg l b items d n q dd i p f ns g hi u)
  ⟨j,a,show mX (lexLt ns g)≠ED/\Q (.bool (lexLt ns g)) s from ⟨(λx=>nomatch x),h⟩⟩ r
theorem cat_tup(p:io s.heap t vs.toArray)(q:io s.heap b d.toArray)(l:vs≠[])
  (h1:d=[]->Q (.ref t) s) (h2:d≠[]->Q (.ref s.heap.objs.size) {s with heap:=s.heap.push {cls:=.type "tuple",data:=.seq (vs++d).toArray}})
  (hsz:vs.length+d.length<=sizeLine):wpAny (aQ prog w) A (gz .Add (.ref t) (.ref b)) Q E s:=by
 obtain⟨⟨cls,dd,data,j⟩,i,m,n,hd⟩:=id p;obtain⟨⟨o,h,data2,c⟩,a,g,k,f⟩:=id q;simp only at m hd g f;subst m hd g f;have e:vs.toArray++d.toArray=(vs++d).toArray:=by simp
 by_cases hw:d=[]
 ·exact tz ⟨_,i,rfl⟩ ⟨_,a,rfl⟩ t6 tS xL Ah (An _ _)
   (tuple_addW1 t b vs.toArray d.toArray n k dd h j c (by simpa using l) (by simp[hw])) ⟨i,a,h1 hw⟩
 ·refine tz ⟨_,i,rfl⟩ ⟨_,a,rfl⟩ t6 tS xL Ah (An _ _)
   (tuple_addW2 t b vs.toArray d.toArray n k dd h j c (by simpa using l) (by simpa using hw) (by rw[dJ,dJ];exact hsz)) ⟨i,a,?_⟩
  rw[e];exact h2 hw
noncomputable def sIx(n d:Nat):Option Int->Nat
 |none=>d
 |some v=>if v<0 then (v+(n:Int)).toNat else min v.toNat n
theorem NN(n d:Nat)(hd:d<=n)(o:Option Int):sIx n d o<=n:=by
 cases o with
 |none=>exact hd
 |some v=>
  show (if v<0 then (v+(n:Int)).toNat else min v.toNat n)<=n;by_cases a:v<0
  ·rw[if_pos a];lia
  ·rw[if_neg a];exact Nat.min_le_right _ _
theorem Y9(v:Int)(n d:Nat):(if v<0 then max (v+(n:Int)) 0 else min v (n:Int))=((sIx n d (aA v):Nat):Int):=by
 show (if v<0 then max (v+(n:Int)) 0 else min v (n:Int))=(((if v<0 then (v+(n:Int)).toNat else min v.toNat n):Nat):Int);by_cases a:v<0
 ·simp only[if_pos a];lia
 ·simp only[if_neg a];lia
theorem Kr(lo hi:Option Int)(n:Nat):Ao lo hi 1 (n:Int)=(((sIx n 0 lo:Nat):Int),((sIx n n hi:Nat):Int)):=by
 have a:¬((1:Int)<0):=by lia
 unfold Ao;simp only[a,if_false];refine Prod.ext ?_ ?_
 ·cases lo with
  |none=>rfl
  |some v=>exact Y9 v n 0
 ·cases hi with
  |none=>rfl
  |some v=>exact Y9 v n n
theorem X3(i j:Nat):rP (i:Int) (j:Int) 1=j-i:=by
 unfold rP;have a:(1:Int) > 0:=by lia
 simp only[a,if_true,pZ];split<;>lia
theorem ZU(p:iL v o)(h:Q o s):wpAny (aQ prog w) A (LA v) Q E s:=by
 cases p with
 |none=>exact slicePart_none h
 |int i t=>exact slicePart_int h
theorem sliceApplied_gen{e:aE}{d c:aB}{lo hi:Option Int}{n:Nat}{Q:Int×Int×Nat->aU->Prop}(hs:s.heap.IsSliceOf e d c .none)(g:iL d lo)(f:iL c hi)
  (h:Q (((sIx n 0 lo:Nat):Int),1,sIx n n hi-sIx n 0 lo) s):wpAny (aQ prog w) A (Fp (.ref e) (pure (n:Int))) Q E s:=by
 obtain⟨os,a,i,b⟩:=id hs;unfold Fp Lj;refine wpAny_bind (wpAny_bind (ix a b (x:=d) rfl (wpAny_bind (ix a b (x:=c) rfl (wpAny_bind (ix a b (x:=.none) rfl (wpAny_pure ?_)))))));refine wpAny_bind (slicePart_none ?_);show wpAny _ _ (if ((1:Int)==0)=aC then _ else _) _ _ s;rw[if_neg (by decide)];refine wpAny_bind (ZU g (wpAny_bind (ZU f (wpAny_bind (wpAny_pure ?_)))));show wpAny _ _ (match Ao lo hi 1 (n:Int) with|(lo,hi)=>pure (lo,(1:Int),rP lo hi 1)) _ _ s;rw[Kr lo hi n];show wpAny _ _ (pure (((sIx n 0 lo:Nat):Int),(1:Int),rP ((sIx n 0 lo:Nat):Int) ((sIx n n hi:Nat):Int) 1)) _ _ s;rw[X3];exact wpAny_pure h
theorem UJ(xs:Array aB)(i k:Nat):((gx k).filterMap λ(m:Nat)=>xs[((i:Int)+(m:Int)*1).toNat]?).toArray=((xs.toList.drop i).take k).toArray:=by
 have e:(λ(m:Nat)=>xs[((i:Int)+(m:Int)*1).toNat]?)=λm=>xs[i+m]?:=by
  funext m;have:((i:Int)+(m:Int)*1).toNat=i+m:=by lia
  rw[this]
 rw[e];have:=pick_run xs i k;rw[List.filterMap_map] at this;have a:((λx=>xs[x]?) ∘ λx=>i+x)=λm=>xs[i+m]?:=rfl;rw[a] at this;rw[this]
theorem getItem_tuple_cut{lo:Option Int}(b:io s.heap t items)(hs:s.heap.IsSliceOf g r j .none)(k:iL r lo)(i:iL j hi)
  (hw:¬(sIx items.size 0 lo=0/\sIx items.size items.size hi=items.size))
  (h:Q (.ref s.heap.objs.size) {s with heap:=s.heap.push {cls:=.type "tuple",data:=.seq ((items.toList.drop (sIx items.size 0 lo)).take (sIx items.size items.size hi-sIx items.size 0 lo)).toArray}})
  (hsz:items.size<=sizeLine):wpAny (aQ prog w) A (iq (.ref t) (.ref g)) Q E s:=by
 have a:sizeOk (.seq ((items.toList.drop (sIx items.size 0 lo)).take (sIx items.size items.size hi-sIx items.size 0 lo)).toArray):=by
  show ((items.toList.drop (sIx items.size 0 lo)).take (sIx items.size items.size hi-sIx items.size 0 lo)).toArray.size<=sizeLine;rw[dJ,gV,t5,nu];omega
 have p:sIx items.size items.size hi<=items.size:=NN _ _ (bC _) hi;obtain⟨os,c,e,l⟩:=id hs;have f:s.TypeIs (.ref g) "slice":=⟨os,c,e⟩;unfold iq;try with_reducible refine wpAny_holding ?_
 first|refine wpAny_bind (wpAny_pure ?_)|skip
 refine wpAny_bind (D4 b.typeIs (by decide) ?_)
 refine wpAny_bind (Fm (name:=e_ "__getitem__") b.typeIs mv
  (Ek mv b.typeIs EZ ?_ (EI _ _)))
 show wpAny _ _ (Fo (.ref t) >>= _) _ _ s;refine wpAny_bind (tupleItemsOf_ b ?_);refine wpAny_bind (mW f ?_);rw[if_pos (by decide)];refine wpAny_bind (sliceApplied_gen hs k i ?_);have d:¬((((sIx items.size 0 lo:Nat):Int)==0&&(1:Int)==1&&(sIx items.size items.size hi-sIx items.size 0 lo)==items.size)=aC):=by
  intro q;rw[cI,cI] at q;have o:((sIx items.size 0 lo:Nat):Int)=0:=eq_of_beq q.1.1;have n:sIx items.size items.size hi-sIx items.size 0 lo=items.size:=eq_of_beq q.2;exact hw ⟨by omega,by omega⟩
 show wpAny _ _ (if (((sIx items.size 0 lo:Nat):Int)==0&&(1:Int)==1&&(sIx items.size items.size hi-sIx items.size 0 lo)==items.size)=aC then _ else _) _ _ s;rw[if_neg d,UJ]
 first
  |exact wpAny_bind (m:=rM _) (my (wpAny_pure ⟨_,rfl,wpAny_pure h⟩) a)
  |exact wpAny_bind (m:=rM _) (my (wpAny_bind (wpAny_pure (wpAny_pure ⟨_,rfl,wpAny_pure h⟩))) a)
  |exact wpAny_bind (wpAny_bind (m:=rM _) (my (wpAny_pure (wpAny_pure ⟨_,rfl,wpAny_pure h⟩)) a))
  |exact wpAny_bind (wpAny_bind (m:=rM _) (my (wpAny_pure ⟨_,rfl,wpAny_pure h⟩) a))
end
end HT
namespace L2
open PySem PySem.Spec PyProof.Rows
noncomputable abbrev TO:=St->Hp->(Option Int->Hp->Prop)->Prop
noncomputable def PO (X:Cx)(e:Option aH)(t:TO):Prop:=
 ∀(a:List (aE×bB)) (s:aU) (b:St) (H:Hp) (Q:Option Int->Hp->Prop),Inv X a b H s->t b H Q->
  wpAny (aQ X.prog X.w) X.A (evalPart e X.env) (λu d=>∃o c,Inv X a b c d/\iL u o/\Q o c) X.xe s
noncomputable def R1:TO:=λ_ H Q=>Q aF H
noncomputable def MS(t:TE):TO:=λa H Q=>t a H λx b=>∃i,x=.int i/\Q (aA i) b
theorem intsAre_of:∀{us:List aB},aW (ns.map V.int) us->dY us ns:=by
 induction ns with
 |nil=>intro us r;rw[Du] at r;cases r;exact .nil
 |cons n ns c=>
  intro us r;rw[dW] at r;cases r with
  |cons b a=>
   obtain⟨t,e⟩:=b;subst e;exact .cons n t (c a)
section
variable {X:Cx}{e:aH}{te:TE}{lo hi:Option aH}{tl th:TO}{pos p2:Pos}
theorem PJ:PO X aF R1:=by
 intro a s b H Q I h;rw[evalPart_none];exact wpAny_pure ⟨aF,H,I,.none,h⟩
theorem Rx(h:PE X e te):PO X (aA e) (MS te):=by
 intro a s b H Q I hw;rw[evalPart_some];refine a7 (h a s b H _ I hw) λu j ⟨x,g,f,c,d⟩=>?_;obtain⟨i,rfl,q⟩:=d;obtain⟨t,rfl⟩:=c;exact⟨aA i,g,f,.int i t,q⟩
noncomputable def lm (X:Cx)(r:V->Option Int->Option Int->Hp->VK->Prop):Prop:=
 ∀(a:List (aE×bB)) (s:aU) (b:St) (H:Hp) (x:V) (v d c:aB) (lo hi:Option Int) (e:aE) (Q:VK),Inv X a b H s->RelV x v->s.heap.IsSliceOf e d c .none->iL d lo->iL c hi->r x lo hi H Q->
  ∃T id,nZ (.type T) "__getitem__"=pure (aA (.builtin id))/\s.TypeIs v T/\wpAny (aQ X.prog X.w) X.A (iq v (.ref e)) (EP X a b Q) X.xe s
theorem lm.or(h:lm X r)(h':lm X j):lm X (λx lo hi H Q=>r x lo hi H Q\/j x lo hi H Q):=by
 intro a s b H x v d c lo hi e Q I f hs i g q;rcases q with q|q
 ·exact h a s b H x v d c lo hi e Q I f hs i g q
 ·exact h' a s b H x v d c lo hi e Q I f hs i g q
noncomputable def tSl (r:V->Option Int->Option Int->Hp->VK->Prop)(te:TE)(tl th:TO):TE:=λa H Q=>te a H λx d=>tl a d λl c=>th a c λu b=>r x l u b Q
theorem T4{r:V->Option Int->Option Int->Hp->VK->Prop}(C:lm X r)(he:PE X e te)(D:PO X lo tl)(z:PO X hi th):PE X (.Subscript e (.Slice lo hi aF p2) pos) (tSl r te tl th):=by
 intro a s d H Q I h;refine Subscript_ (a7 (he a s d H _ I h) λv k ⟨x,N,L,m,p⟩=>?_);refine wpAny_Slice (a7 (D a k d N _ L p) λg j ⟨l,M,K,y,o⟩=>a7 (z a j d M _ K o) λf c ⟨u,i,J,t,n⟩=>?_);rw[evalPart_none];refine wpAny_pure ?_;have G:Inv X a d i {c with heap:=c.heap.push {cls:=.type "slice",data:=.fields #[g,f,.none]}}:=J.kept (t':=c.toks) λb O q=>bP _ q;obtain⟨T,id,F,B,E⟩:=C a {c with heap:=c.heap.push {cls:=.type "slice",data:=.fields #[g,f,.none]}} d i x v g f l u c.heap.objs.size Q G m (IJ ..) y t n;show wpAny (aQ X.prog X.w) X.A (tR e (.Slice lo hi aF p2) v (.ref c.heap.objs.size)) (EP X a d Q) X.xe {c with heap:=c.heap.push {cls:=.type "slice",data:=.fields #[g,f,.none]}};exact tail_any (ops:=[.ref c.heap.objs.size,v]) B F E (by with_unfolding_all rfl)
noncomputable def Qj (xs:List V)(lo hi:Option Int):List V:=(xs.drop (HT.sIx xs.length 0 lo)).take (HT.sIx xs.length xs.length hi-HT.sIx xs.length 0 lo)
theorem yA(xs:List V)(lo hi:Option Int):(Qj xs lo hi).length<=xs.length:=by
 unfold Qj;rw[gV,t5];lia
noncomputable def L5 (K:bK):V->Option Int->Option Int->Hp->VK->Prop:=λx lo hi H Q=>∃a b,x=.ref a/\fS K H a b/\
 ¬(HT.sIx b.length 0 lo=0/\HT.sIx b.length b.length hi=b.length)/\∀p,H p=aF->Q (.ref p) (upd H p (.tup (Qj b lo hi)))
theorem N7:lm X (L5 X.K):=by
 intro g s t H x v w u lo f y Q I k p m l h;obtain⟨a,d,rfl,n,hw,q⟩:=h;cases k;obtain⟨e,r,j,i⟩:=I.tuple n;have c:e.toArray.size=d.length:=by rw[dJ];exact r.length.symm
 refine⟨"tuple",_,mv.lookup,j.typeIs,?_⟩;refine HT.getItem_tuple_cut j p m l (by rw[c];exact hw) ?_ (by rw[c];exact i);rw[c];refine⟨.ref s.heap.objs.size,_,I.laid (t':=s.toks) (o:=.tup (Qj d lo f)) (λb z q=>bP _ q) (bC _) ?_,rfl,q _ (I.hok.fresh (bC _))⟩;exact⟨cL (yA d lo f) i,_,(r.drop (HT.sIx d.length 0 lo)).take (HT.sIx d.length d.length f-HT.sIx d.length 0 lo),Dx _ _⟩
noncomputable def LW (K:bK):R2:=λx y H Q=>∃a b c d,x=.ref a/\y=.ref b/\fS K H a (c.map V.int)/\fS K H b (d.map V.int)/\Q (.bl (HT.lexLt c d)) H
theorem Oi(p:X.A.units<cLine):dX X (dZ .Lt) (LW X.K):=by
 intro e s w H x y v u Q I j i h;obtain⟨a,b,f,g,rfl,rfl,t,r,q⟩:=h;cases j;cases i;obtain⟨d,l,p1,_⟩:=I.tuple t;obtain⟨c,k,m,_⟩:=I.tuple r;have o:dY d.toArray.toList f:=intsAre_of l;have n:dY c.toArray.toList g:=intsAre_of k;exact HT.lt_tupInts p1 m o n p ⟨.bl (HT.lexLt f g),H,I,rfl,q⟩
noncomputable def M8(K:bK):R2:=λx y H Q=>∃a b d c,x=.ref a/\y=.ref b/\fS K H a d/\fS K H b c/\d≠[]/\d.length+c.length<=sizeLine/\
 (c=[]->Q (.ref a) H)/\(c≠[]->∀p,H p=aF->Q (.ref p) (upd H p (.tup (d++c))))
theorem aW.nil_iff(r:aW xs us):us=[]↔xs=[]:=by
 cases r with
 |nil=>simp
 |cons _ _=>simp
theorem P6:dX X (gz .Add) (M8 X.K):=by
 intro e s C H x y v u Q I l k h;obtain⟨a,b,j,i,rfl,rfl,B,A,t,g,n,m⟩:=h;cases l;cases k;obtain⟨r,d,p1,_⟩:=I.tuple B;obtain⟨f,c,p,_⟩:=I.tuple A;refine HT.cat_tup p1 p (λz=>t (d.nil_iff.mp z)) (λz=>⟨.ref a,H,I,rfl,n (c.nil_iff.mp z)⟩) (λz=>?_) (by rw[←d.length,←c.length];exact g);refine⟨.ref s.heap.objs.size,_,I.laid (t':=s.toks) (o:=.tup (j++i)) (λb D q=>bP _ q) (bC _) ?_,rfl,m (λw=>z (c.nil_iff.mpr w)) _ (I.hok.fresh (bC _))⟩;exact⟨by rw[ig];exact g,_,d.append c,Dx _ _⟩
end
end L2
namespace L2
open PySem PySem.Spec PyProof.Rows
noncomputable def o1(n:Nat)(i:Int):Option Nat:=if 0<=i then (if i<n then aA i.toNat else aF) else if -(n:Int)<=i then aA (i+n).toNat else aF
noncomputable def mH {α:Type}(xs:List α)(i:Int):Option α:=(o1 xs.length i).bind λj=>xs[j]?
theorem PB(h:o1 n i=aA j):seqIndex? i n=aA j/\j<n /\ -(n:Int)<=i/\i<n:=by
 unfold o1 at h;by_cases b:0<=i
 ·rw[if_pos b] at h;by_cases a:i<n
  ·rw[if_pos a] at h;have e:i.toNat=j:=bT h;exact⟨by rw[seqIndex_of b a,e],by lia,by lia,a⟩
  ·rw[if_neg a] at h;cases h
 ·rw[if_neg b] at h;by_cases a:-(n:Int)<=i
  ·rw[if_pos a] at h;have e:(i+n).toNat=j:=bT h;exact⟨by rw[seqIndex_neg (by lia) a,e],by lia,a,by lia⟩
  ·rw[if_neg a] at h;cases h
theorem WE{α:Type}{xs:List α}{i:Int}{v:α}(h:mH xs i=aA v):∃j,seqIndex? i xs.length=aA j/\xs[j]?=aA v/\j<xs.length /\ -(xs.length:Int)<=i/\i<xs.length:=by
 unfold mH at h;cases e:o1 xs.length i with
 |none=>rw[e] at h;cases h
 |some j=>
  rw[e] at h;obtain⟨d,c,b,a⟩:=PB e;exact⟨j,d,h,c,b,a⟩
noncomputable def PK(b:aH):Prop:=∀o i,pL b aD o i=operate [o,i] (iq o i)
noncomputable def CU (X:Cx)(r:R2):Prop:=
 ∀(c a:aH) (b:List (aE×bB)) (s:aU) (d:St) (H:Hp) (x y:V) (v u:aB) (Q:VK),Inv X b d H s->RelV x v->RelV y u->r x y H Q->
  pL a aD v u=operate [v,u] (iq v u)->wpAny (aQ X.prog X.w) X.A (tR c a v u) (EP X b d Q) X.xe s
noncomputable def IA (X:Cx)(id:String)(r:V->List V->Hp->VK->Prop):Prop:=
 ∀(a:List (aE×bB)) (s:aU) (b:St) (H:Hp) (x:V) (c:List V) (v:aB) (d:List aB) (Q:VK),Inv X a b H s->RelV x v->aW c d->r x c H Q->
  wpAny (aQ X.prog X.w) X.A (call (.builtin id) (v::d)) (EP X a b Q) X.xe s
section
variable {X:Cx}{a b:aH}
noncomputable def LO (K:bK):R2:=λx y H Q=>∃p a i v,x=.ref p/\y=.int i/\gu K H p a/\mH a i=aA v/\Q v H
noncomputable def Mj (K:bK):R2:=λx y H Q=>∃p a i v,x=.ref p/\y=.int i/\fS K H p a/\mH a i=aA v/\Q v H
noncomputable def LS:R2:=λx y H Q=>∃z i c,x=.str z/\y=.int i/\z.length<=sizeLine/\mH z.cps.toList i=aA c/\Q (.str ⟨#[c]⟩) H
theorem Yf:CU X (LO X.K):=by
 intro c d a s l H x y v u Q I B A h m;obtain⟨p,L,i,z,rfl,rfl,C,E,q⟩:=h;cases B;obtain⟨t,rfl⟩:=A;obtain⟨g,r,f,M⟩:=I.list C;obtain⟨j,b,J,O,G,F⟩:=WE E;obtain⟨w,ew,e⟩:=r.get J;have D:=r.length;have N:=ZO;have fin:EP X a l Q w s:=⟨z,H,I,e,q⟩;by_cases n:0<=i
 ·have k:i.toNat=j:=by
   rw[seqIndex_of n F] at b;exact bT b
  exact item_listR f.isList n (by lia) (by rw[k];simpa using ew) fin m
 ·have k:(i+(g.toArray.size:Int)).toNat=j:=by
   rw[seqIndex_neg (by lia) G] at b;rw[dJ,←D];exact bT b
  exact Fe (x:=w) f.isList.typeIs D3.lookup
   (wpAny_getItem_list_neg (Q:=λr o=>r=w/\EP X a l Q r o) f.isList (by lia) (by rw[dJ]<;>lia) (by lia) (by rw[k];simpa using ew) ⟨rfl,fin⟩) m
theorem NI:CU X (Mj X.K):=by
 intro b c a s e H x y v u Q I l k h n;obtain⟨p,E,i,z,rfl,rfl,o,B,q⟩:=h;cases l;obtain⟨t,rfl⟩:=k;obtain⟨m,r,f,F⟩:=I.tuple o;obtain⟨j,D,C,M,L,J⟩:=WE B;obtain⟨w,ew,d⟩:=r.get C;have A:=r.length;have G:=ZO;have fin:EP X a e Q w s:=⟨z,H,I,d,q⟩
 exact Fe (x:=w) f.typeIs mv.lookup
  (getItem_tuple (j:=j) (Q:=λr g=>r=w/\EP X a e Q r g) f (by lia) (by lia) (by rw[dJ,←A];exact D) (by simpa using ew) ⟨rfl,fin⟩) n
theorem Pg:CU X LS:=by
 intro a b d s A H x y v u Q I g f h k;obtain⟨z,i,c,rfl,rfl,C,m,q⟩:=h;obtain⟨t,rfl⟩:=g;obtain⟨B,rfl⟩:=f;obtain⟨j,e,p,E,o,n⟩:=WE m;have l:z.cps.toList.length=z.length:=by simp[sX]
 rw[l] at e o n;have D:=ZO;exact tail_any (sW s z t) slot_str_getitem.lookup (getItem_str (c:=c) (by
  have w:decide (i < -(2 ^ 63:Int))=aD:=decide_eq_false (by lia);have r:decide (i ≥ 2 ^ 63)=aD:=decide_eq_false (by lia);rw[w,r,Bool.or_false]) (by rw[e];simpa using p) ⟨.str ⟨#[c]⟩,H,I.tok _,⟨_,rfl⟩,q⟩) k
theorem WH(lo hi:Option Int)(n:Nat):(mn lo hi aF n).1=((HT.sIx n 0 lo:Nat):Int)/\(mn lo hi aF n).2.1=((HT.sIx n n hi:Nat):Int)/\(mn lo hi aF n).2.2=1:=by
 refine⟨?_,?_,rfl⟩
 ·cases lo with
  |none=>simp[mn,HT.sIx]
  |some i=>
   simp only[mn,HT.sIx,Ej,show (1:Int) > 0 by decide,if_true];by_cases h:i<0
   ·simp only[h,if_true]<;>lia
   ·simp only[h,if_false]<;>lia
 ·cases hi with
  |none=>simp[mn,HT.sIx]
  |some i=>
   simp only[mn,HT.sIx,Ej,show (1:Int) > 0 by decide,if_true];by_cases h:i<0
   ·simp only[h,if_true]<;>lia
   ·simp only[h,if_false]<;>lia
theorem Q7(its:List aB)(lo hi:Option Int):slicePick its.toArray lo hi aF=((its.drop (HT.sIx its.length 0 lo)).take (HT.sIx its.length its.length hi-HT.sIx its.length 0 lo)).toArray:=by
 obtain⟨c,b,a⟩:=WH lo hi its.toArray.size;unfold slicePick;rw[c,b,a];simp only[sliceRange_one,pick_run,dJ]<;>rfl
noncomputable def LR (K:bK):V->Option Int->Option Int->Hp->VK->Prop:=λx lo c H Q=>∃a b,x=.ref a/\gu K H a b/\∀p,H p=aF->Q (.ref p) (upd H p (.lst (Qj b lo c)))
theorem Sr:lm X (LR X.K):=by
 intro f s t H x v w u lo e y Q I i p k j h;obtain⟨a,c,rfl,n,q⟩:=h;cases i;obtain⟨l,r,g,m⟩:=I.list n;have d:=r.length;refine⟨"list",_,D3.lookup,g.isList.typeIs,?_⟩;refine wpAny_getItem_list_slice g.isList p k j .none (by simp) ?_ (by rw[dJ]<;>lia);rw[Q7,←d];refine⟨.ref s.heap.objs.size,_,I.laid (t':=s.toks) (o:=.lst (Qj c lo e)) (λb z q=>bP _ q) (bC _) ?_,rfl,q _ (I.hok.fresh (bC _))⟩;exact⟨cL (yA c lo e) m,_,0,(r.drop (HT.sIx c.length 0 lo)).take (HT.sIx c.length c.length e-HT.sIx c.length 0 lo),dP _ rfl⟩
theorem vP:XD X (.builtin "len") (λxs H Q=>∃p ys,xs=[.ref p]/\(gu X.K H p ys\/fS X.K H p ys)/\Q (.int ys.length) H):=by
 intro f s j H xs k Q I r h;obtain⟨p,ys,rfl,b,q⟩:=h;obtain⟨u,rfl,g⟩:=vals1 r;cases g;have l:=ZO;rcases b with b|b
 ·obtain⟨e,c,d,i⟩:=I.list b;have a:=c.length;exact Calls.call_len_list d.isList (by simp only[dJ]<;>lia) ⟨.int ys.length,H,I.tok _,⟨s.toks+1,by rw[dJ,a]⟩,q⟩
 ·obtain⟨e,c,d,i⟩:=I.tuple b;have a:=c.length;exact len_tuple d (by simp only[dJ]<;>lia) ⟨.int ys.length,H,I.tok _,⟨s.toks+1,by rw[dJ,a]⟩,q⟩
theorem WB:XD X (.builtin "len") (λxs H Q=>∃z,xs=[.str z]/\z.length<=sizeLine/\Q (.int z.length) H):=by
 intro a s b H xs c Q I r h;obtain⟨z,rfl,d,q⟩:=h;obtain⟨u,rfl,t,rfl⟩:=vals1 r;have e:=ZO;exact len_str (by lia) ⟨.int z.length,H,I.tok _,⟨_,rfl⟩,q⟩
theorem j8:XD X (.type "list") (λxs H Q=>∃p ys,xs=[.ref p]/\(gu X.K H p ys\/fS X.K H p ys)/\∀l,H l=aF->Q (.ref l) (upd H l (.lst ys))):=by
 intro g s z H xs B Q I r h;obtain⟨p,ys,rfl,k,q⟩:=h;obtain⟨u,rfl,A⟩:=vals1 r;cases A
 have fin:∀(a:List aB),aW ys a->ys.length<=sizeLine->∀(c:aR) (f:Nat),(∀b y,s.heap.get? b=aA y->c.get? b=aA y)->
   c.get? s.heap.objs.size=aA {cls:=.type "list",dict:=aF,data:=.seq a.toArray f,slots:=#[]}->EP X g z Q (.ref s.heap.objs.size) {s with heap:=c}:=λa d j c f i e=>
  ⟨.ref s.heap.objs.size,_,I.laid (t':=s.toks) i (bC _) (show aY X.prog X.w _ c _ (.lst ys) from ⟨j,a,f,d,e⟩),rfl,q _ (I.hok.fresh (bC _))⟩
 rcases k with k|k
 ·obtain⟨a,d,t,j⟩:=I.list k;have m:=d.length;obtain⟨o,v,x,n,hd⟩:=t.isList;exact call_list_seq p (.inl rfl) v x hd (λc f i e=>fin a d j c f i e) (by simp only[dJ]<;>lia)
 ·obtain⟨a,d,t,j⟩:=I.tuple k;have m:=d.length;obtain⟨o,v,x,n,hd⟩:=t;exact call_list_seq p (.inr rfl) v x hd (λc f i e=>fin a d j c f i e) (by simp only[dJ]<;>lia)
noncomputable def H_ (K:bK)(T:String)(x:V)(H:Hp):Prop:=match x with
 |.str _=>T="str"
 |.int _=>T="int"
 |.ref p=>(T="list"/\∃b,gu K H p b)\/(T="tuple"/\∃o,K.lookup p=aA o/\o.cls=.type "tuple"/\o.dict=aF)\/
   (T="dict"/\((∃a,H p=aA (.dK a))\/∃ep a,H p=aA (.dE ep a)))\/(T="set"/\∃S n,H p=aA (.set S n))
 |_=>False
theorem Ow{d:List (aE×bB)}{j:St}{H:Hp}{s:aU}{T:String}{x:V}{v:aB}(I:Inv X d j H s)(r:RelV x v)(ty:H_ X.K T x H) :
  s.TypeIs v T/\∀a,v=.ref a->∃ob,s.heap.get? a=aA ob/\ob.dict=aF:=by
 cases x with
 |str z=>
  obtain⟨t,rfl⟩:=r;cases (show T="str" from ty);exact⟨sW s z t,λ_ e=>nomatch e⟩
 |int i=>
  obtain⟨t,rfl⟩:=r;cases (show T="int" from ty);exact⟨sV s i t,λ_ e=>nomatch e⟩
 |ref p=>
  cases r;rcases ty with⟨rfl,q,l⟩|⟨rfl,o,b,m,hd⟩|⟨rfl,b⟩|⟨rfl,S,n,b⟩
  ·obtain⟨k,_,h,_⟩:=I.list l;refine⟨h.isList.typeIs,λa e=>?_⟩;cases e;obtain⟨o,n,e,c,hd,_⟩:=h;exact⟨o,e,hd⟩
  ·refine⟨⟨o,I.kIn p o b,m⟩,λa e=>?_⟩;cases e;exact⟨o,I.kIn _ o b,hd⟩
  ·have z:∃o,s.heap.get? p=aA o/\o.ExactDict:=by
    rcases b with⟨f,b⟩|⟨ep,f,b⟩
    ·obtain⟨_,_,_,_,o,_,_,e,ex,_⟩:=I.hok p _ b;exact⟨o,e,ex⟩
    ·obtain⟨_,_,_,_,o,_,e,ex,_⟩:=I.hok p _ b;exact⟨o,e,ex⟩
   obtain⟨o,e,ex⟩:=z;refine⟨⟨o,e,ex.1⟩,λa g=>?_⟩;cases g;exact⟨o,e,ex.2.1⟩
  ·obtain⟨o,_,_,_,e,ex,_⟩:=I.hok p _ b;refine⟨⟨o,e,ex.1⟩,λa g=>?_⟩;cases g;exact⟨o,e,ex.2.1⟩
 |_=>exact eG ty
noncomputable def tBM (K:bK)(T:String)(r:V->List V->Hp->VK->Prop)(d:TE)(t:TA):TE:=λa H Q=>d a H λx b=>H_ K T x b/\t a b λc e=>r x c e Q
variable {o e:aH}{es:List aH}{to:TE}{t:TA}{name:aG}{apos cpos:Pos}{T id:String}{r:V->List V->Hp->VK->Prop}
theorem GY (pa:PlainAttrs T) (slot:Slot T name id) (i:typeOf (.builtin id)=pure (.type "method_descriptor")) (z:IA X id r) (ho:PE X o to) (A:PA X (e::es) t)
  (d:m_ o name X.env (eval o X.env)=eval o X.env:=by rfl)
  (f:((fN cpos (eF (e::es) X.env)).all (λx=>!x.1)&&(lF cpos (lJ [] X.env)).all (λx=>x.1.isSome)
   &&decide ((e::es).length+([]:List iM).length+(if ([]:List iM).isEmpty then 0 else 1)<30))=aC:=by rfl)
  (c:(apos.endLine==cpos.line)=aC:=by rfl) (hs:eF (e::es) X.env=(aD,eval e X.env)::eF es X.env:=by rfl) (b:(fN cpos (eF es X.env)).any (·.1)=aD:=by rfl) :
  PE X (.Call (.Attribute o name apos) (e::es) [] cpos) (tBM X.K T r to t):=by
 intro a s g H Q I h;refine wpAny_Call_method_late d f c rfl (a7 (ho a s g H _ I h) λv q ⟨x,F,l,j,ty,y⟩=>?_);obtain⟨C,B⟩:=Ow l j ty;refine⟨T,id,pa,slot,i,C,B,?_⟩;have k:=A cpos a q g F _ l y;rw[hs] at k ⊢;refine xz (by show (aD || (fN cpos (eF es X.env)).any (·.1))=aD;rw[b]<;>rfl) (rL ?_);exact a7 k λn p ⟨m,E,D,u,w⟩=>z a p g E x m v n Q D j u w
end
end L2
namespace L2
open PySem PySem.Spec PyProof.Rows
noncomputable def MtM (X:Cx)(id:String)(r:V->List V->Hp->VK->Prop):Prop:=
 ∀(a:List (aE×bB)) (s:aU) (b:St) (H:Hp) (x:V) (c:List V) (v:aB) (d:List aB) (Q:VK),Inv X a b H s->RelV x v->aW c d->r x c H Q->
  wpAny (aQ X.prog X.w) X.A (call (.builtin id) (v::d)) (EP X a b Q) X.xe s
theorem aW.one:∀{x:V} {us:List aB},aW [x] us->∃u,us=[u]/\RelV x u
 |_,_,.cons r .nil=>⟨_,rfl,r⟩
section
variable {X:Cx}{pins:List (aE×bB)}{σ:St}{H:Hp}{s:Shared}{l:aE}{xs ys:List V}
theorem Inv.lset{its its':List aB}{n:Nat}{f:Array aB->Array aB}{t':Nat}(I:Inv X pins σ H s)(h:H l=aA (.lst xs))
  (e:s.heap.get? l=aA {cls:=.type "list",data:=.seq its.toArray n}) (d:f its.toArray=its'.toArray) (b:aW ys its') (a:ys.length<=sizeLine) :
  Inv X pins σ (upd H l (.lst ys)) {s with heap:=s.heap.update l (cX f),toks:=t'}:=by
 have q:=PySem.IsL.update e f;rw[d] at q;refine I.write (x:=l) (e:=l) (by rw[h];exact trivial) (.inl rfl) (λi u g c=>(nj s.heap (cX f) (cE g)).trans c) ⟨_,q⟩ ?_;exact⟨a,its',_,b,q⟩
theorem Inv.lnew(I:Inv X pins σ H s)(b:aW ys its)(a:ys.length<=sizeLine) :
  Inv X pins σ (upd H s.heap.objs.size (.lst ys)) {s with heap:=s.heap.push {cls:=.type "list",data:=.seq its.toArray},toks:=t'}:=
 I.laid (λ_ _ q=>bP _ q) (bC _) ⟨a,its,0,b,dP _ rfl⟩
theorem Inv.fresh(I:Inv X pins σ H s):H s.heap.objs.size=aF:=I.hok.fresh (bC _)
theorem Inv.lstM(I:Inv X pins σ H s)(a:H l=aA (.lst xs)):xs.length<=sizeLine/\∃(its:List aB) (n:Nat),aW xs its/\xs.length=its.length/\s.heap.get? l=aA {cls:=.type "list",data:=.seq its.toArray n}:=by
 obtain⟨z,its,n,r,e⟩:=I.hok l _ a;exact⟨z,its,n,r,r.length,e⟩
theorem T8(h:n<=sizeLine):Am n=aD:=by
 unfold Am;exact decide_eq_false (by lia)
end
section
variable {X:Cx}
noncomputable def SE:V->List V->Hp->VK->Prop:=λx b H Q=>∃l a y,x=.ref l/\b=[y]/\H l=aA (.lst a)/\a.length<sizeLine/\Q .non (upd H l (.lst (a++[y])))
theorem Wd:MtM X "list.append" SE:=by
 intro b s i H x k v m Q I d f h;obtain⟨l,j,y,rfl,rfl,c,o,q⟩:=h;cases d;obtain⟨u,rfl,g⟩:=f.one;obtain⟨z,a,n,r,p,e⟩:=I.lstM c;refine sU F.slot_list_append ⟨_,e,rfl⟩ F.entry_list_append (F.args_list_append_2 _ _) (PySem.list_append l a.toArray n u (by rw[dJ];lia)) ⟨e,?_⟩;refine⟨.non,_,I.lset (its':=a++[u]) c e (by simp) (r.append (.cons g .nil)) ?_,rfl,q⟩;rw[ig,wP];lia
end
end L2
namespace Att
open PySem PySem.W PySem.Calls PyProof.Rows
theorem yY{P:Params}:∀(ns:List Int) (vs:List aB),WellAll P h vs (ns.map Dw)->dY vs ns:=by
 intro ns;induction ns with
 |nil=>
  intro vs w;rw[Du] at w;cases w;exact .nil
 |cons n ns c=>
  intro vs w;rw[dW] at w;cases w with
  |cons a b=>
   cases a;exact .cons _ _ (c _ b)
theorem YO{l:mO}{n:Nat}(u:l.most=aA n){P:Params}{h:aR}{args:List WData}{b:List aB}
  (c:l.row.toRowW.claim.pre args=aC) (j:WellAll P h b args) :
  ∃a vs ns,b=[cO a]/\args=[WData.list (ns.map Dw)]/\h.get? a=aA {cls:=.type "list",data:=.seq vs.toArray}/\dY vs ns/\ns.length<=n:=by
 have k:WShape.hasAll [] args [.list .int]=aC:=(pre_splitW c).1;have m:l.pre.holds [] {args:=args}=aC:=(pre_splitW c).2;obtain⟨d,r,rfl,x,w⟩:=hasAllW_cons k;obtain rfl:=hasAllW_nil w;obtain⟨y,rfl,v⟩:=hasW_list x;obtain⟨ns,rfl⟩:=items_int v;have e:ns.length<=n:=by
  unfold OpenLaw.pre at m;have i:(WTm.not (.lt (.lit (.int (n:Int))) (.len (.arg 0)))).holds [] {args:=[.list (ns.map .int)]}=aC:=by
   have i:=(holds_andW m).1;rw[u] at i;exact i
  have g:=condW_of i (w_not (w_lt w_lit (w_len_list (w_arg rfl))));rw[bG] at g;refine Nat.le_of_not_lt λq=>?_;have s:(n:Int)<((ns.length:Nat):Int):=by omega
  first
   |(rw[decide_eq_true s] at g;exact absurd g (by decide))
   |(simp at g;omega)
 cases j with
 |cons p o=>
  cases o;cases p with
  |list t f=>exact⟨_,_,ns,rfl,rfl,t,yY ns _ f,e⟩
theorem YM(l:mO)(args:List WData):l.row.toRowW.claim.post args (.bool aC) args=aC:=
 postW_of (r:=l.row.toRowW) (X:=(aC==aC))
  (show C9 [] (.bool aC) .bool=aC by first|rfl|decide|simp[C9,WShape.arms,WShape.armsAll])
  (show (WTm.eq .res (.lit (.bool aC))).value [] {args:=args,res:=aA (.bool aC),after:=args}=aA (.bool (aC==aC)) from w_eq_bool (w_res rfl) w_lit) rfl
theorem attach_call{l:mO}{n:Nat}{q:b7}{c:List aG}{XP:(aG->Option aB)->aR->Prop}{z:cV->aR->Prop}{d:DefRec}
  (D:l.most=aA n) (t:d.params.defaults=[])
  (call:∀(w:cV) (s₀ b:aU) (mg m:aG->Option aB) (fa:aE) (o:bB) (k cd doc:aB) (a:aE) (vs:List aB) (ns:List Int),
   Ground q c [] XP w s₀ mg m b.heap->z w b.heap->
   b.heap.get? fa=aA o->o.data=.func (docDef d.name d.params d.body d.scope k cd doc)->b.heap.CodeRec cd d.name->mg d.name=aA (.ref fa)->
   b.heap.get? a=aA {cls:=.type "list",data:=.seq vs.toArray}->dY vs ns->ns.length<=n->b.gens=#[]->
   fP (aQ l.prog w) nR (.call (.ref fa) ⟨[.ref a],[]⟩) (λr j=>r=.ok (.ret (.bool aC))/\OldK b.heap j.heap/\j.os=b.os/\i4 j.gens) b) :
  WalkO q c XP z l.row.toRowW d [] (λf vs=>DB f vs):=by
 intro w s₀ b mg m G Y fa o k cd doc L kV C hd u y s H args v M g x A p F;obtain rfl:L=.none:=Dflts.none y t;obtain rfl:kV=.none:=Dflts.noKw y;obtain⟨a,vs,ns,rfl,rfl,h,e,i⟩:=YO D g p;refine enter_call (i8 (call w s₀ b mg m fa o k cd doc a vs ns G Y C (fd_plain hd) u s h e i H) λr j B=>?_);obtain⟨rfl,K,J,I⟩:=B;exact⟨.inl ⟨.bool aC,.bool aC,[],rfl,λ_=>rfl,.bool aC,YM l _,λ_=>⟨oi,λ_ E=>(nomatch E)⟩⟩,K,J,I⟩
section
noncomputable def Cv(h:aR)(L d:aE):List (aE×bB):=(gx h.objs.size).filterMap λa=>if a=L\/a=d then aF else (h.get? a).map λo=>(a,o)
end
end Att
namespace L2
open PySem PySem.Spec PyProof.Rows
theorem vals_ints:∀{vs:List aB} {ns:List Int},dY vs ns->aW (ns.map V.int) vs
 |_,_,.nil=>.nil
 |_,_,.cons n t h=>.cons ⟨t,rfl⟩ (vals_ints h)
end L2
namespace L2
open PySem PySem.Spec PyProof.Rows
noncomputable abbrev KOf{K:bK}{h:aR}(_:K.In h):bK:=K
end L2
namespace L2
open PySem PySem.Spec PyProof.Rows
noncomputable def aV(s:bE)(j:Nat):bE:=match s with
 |.ClassDef _ _ _ body _ _ _ _ _ _ _=>body.getD j (.Pass ⟨0,0,0,0⟩)
 |_=>.Pass ⟨0,0,0,0⟩
noncomputable def zG(s:bE):Arguments:=match s with
 |.FunctionDef _ a _ _ _ _ _ _ _ _=>a
 |_=>{posonlyargs:=[],args:=[],vararg:=aF,kwonlyargs:=[],kw_defaults:=[],kwarg:=aF,defaults:=[]}
noncomputable def z0(s:bE):List bE:=match s with
 |.FunctionDef _ _ b _ _ _ _ _ _ _=>b
 |_=>[]
noncomputable def zq(s:bE):Scope:=match s with
 |.FunctionDef _ _ _ _ _ _ a _ _ _=>a
 |_=>{kind:=.function,names:=[],isGenerator:=aD,isCoroutine:=aD}
noncomputable abbrev E0:XK:=λ_ _ _=>False
structure mL(K:PySem.W.Frag)(x qual:aG)(st:bE)(f:aE)(fd:FuncData):Prop where
 ex:∃(oc:aB) (od:Option aE) (kV doc pm:aB) (an:Option aE) (cdv ct:aB) (osl:Array (Option aB)),
  fd=fA x qual (zG st) (z0 st) (zq st) .none kV doc pm an cdv ct/\K.lookup f=aA ⟨oc,od,.func fd,osl⟩/\fD K cdv qual=aC
 kp:eS K (.ref f)=aC
section
variable {K:PySem.W.Frag}
theorem mL.binds{st:bE}(F:mL K x qual st f fd)
  (h:∀(kV doc b:aB) (an:Option aE) (a ct:aB) (us:List aB),us.length=ps.length->lH (fA x qual (zG st) (z0 st) (zq st) .none kV doc b an a ct) ⟨us,[]⟩=pure (ps.zip us)):Binds K fd ps []:=by
 obtain⟨e,od,kV,doc,b,an,a,ct,c,rfl,lk,d⟩:=F.ex;exact .all (h kV doc b an a ct)
theorem jm{x qual:aG}{st:bE}{f:aE}{e:aB}{od an:Option aE}{b:Array (Option aB)}{kV doc d a ct:aB}(l:K.lookup f=aA ⟨e,od,.func (fA x qual (zG st) (z0 st) (zq st) .none kV doc d an a ct),b⟩)
  (c:fD K a qual=aC) (k:eS K (.ref f)=aC):mL K x qual st f (fA x qual (zG st) (z0 st) (zq st) .none kV doc d an a ct):=⟨⟨e,od,kV,doc,d,an,a,ct,b,rfl,l,c⟩,k⟩
end
noncomputable def ju (H a:Hp):Prop:=∀b o,H b=aA o->a b=aA o
end L2
end
namespace NH
open PySem
noncomputable def stC:aB->aB
 |.int i _=>.ref i.toNat
 |v=>v
noncomputable def LL (h:aR)(x:aE)(cls:aB)(d:Option aE):Prop:=∃c b e,h.get? x=aA c/\(c.cls=stC cls/\c.dict=d)/\c.data=.fields b/\b[0]?=aA e/\b[1]?=aA .none/\∀a,cls=.ref a->b[2]?=aA .none
inductive fJ(h:aR)(x T:aE)(cls:aB)(d:Option aE)(fl:aB):Prop where
 |mk (oe:bB) (vs:Array aB) (a0:aB) (oT:bB) (ts:Array aB) (h1:h.get? x=aA oe) (h2:oe.cls=stC cls/\oe.dict=d) (h3:oe.data=.fields vs) (h4:vs[0]?=aA a0) (h5:vs[1]?=aA (.ref T)) (h6:T≠x) (h7:h.get? T=aA oT) (h8:oT.data=.fields ts) (h9:ts[3]?=aA fl) (h10:∀a,cls=.ref a->vs[2]?=aA .none)
noncomputable def F8 (h:aR)(x:aE)(cls:aB)(d:Option aE):Option aE->aB->Prop
 |none,fl=>LL h x cls d/\fl=.none
 |some T,fl=>fJ h x T cls d fl
structure eE(fs:List aE)(x:aE)(T T':Option aE)(h h':aR):Prop where
 keep:∀b o,h.get? b=aA o->b∉fs->b≠x->b∉T.toList->h'.get? b=aA o
 slot:∀b o,h.get? b=aA o->b∈fs->b≠x->b∉T.toList->∃sl,h'.get? b=aA {o with slots:=sl}
 newT:∀t∈T'.toList,t∈T.toList\/h.objs.size<=t
theorem eE.refl(fs:List aE)(x:aE)(T:Option aE)(h:aR):eE fs x T T h h:=⟨λ_ _ e _ _ _=>e,λ_ o e _ _ _=>⟨o.slots,e⟩,λ_ a=>.inl a⟩
theorem uL(o:bB)(f:Array aB->Array aB):(i_ f o).dict=o.dict:=by
 obtain⟨c,d,dt,a⟩:=o;cases dt<;>rfl
section
variable {M:Model}{A:Around}{E:aB->Shared->Prop}{s:Shared}
theorem Tk(a:A.frames=aA (e0::outer))(c:s.heap.FunFrames base (e0::outer))
  (d:env.frame=aA L) (h0:e0.frame=aA L) (h:∀h',Heap.SlotsOnly ((e0::outer).filterMap (·.frame)) s.heap h'->Q (.ref L) {s with heap:=h'}):wpAny M A (frameOf env) Q E s:=by
 unfold frameOf;refine wpAny_bind (wpAny_frameEnvs a ?_);have hw:((e0::outer).dropWhile λy=>y.frame != env.frame)=e0::outer:=by simp[List.dropWhile,d,h0]
 rw[hw];unfold frameObject;refine wpAny_bind (wpAny_bind (wpAny_readyFrames_fun c λe b=>wpAny_pure ?_));rw[h0];exact wpAny_pure (h e b)
theorem Z4 
  (y:A.frames=aA (e0::outer)) (B:s.heap.FunFrames base (e0::outer)) (O:env.frame=aA L) (h0:e0.frame=aA L)
  (ho:s.heap.get? x=aA u) (C:u.cls=stC cls/\u.dict=d) (hd:u.data=.fields vs) (w:vs[0]?=aA a0) (hsz:1<vs.size) (v:∀a,cls=.ref a->vs[2]?=aA .none)
  (h:∀h' t,fJ h' x t cls d (cW L)->eE ((e0::outer).filterMap (·.frame)) x T (aA t) s.heap h'->s.heap.objs.size<=t->Q () {s with heap:=h'}) :
  wpAny M A (do let a ←frameOf env;let r ←entryPlaceOf L U;let b ←EY g a .none (cW L) .none r;setField (.ref x) 1 b) Q E s:=by
 have q:x∉(e0::outer).filterMap (·.frame):=λN=>by
  obtain⟨_,o,p,I⟩:=B.mem N;rw[ho] at p;cases p;exact I vs hd
 refine wpAny_bind (Tk y B O h0 λf k=>?_);refine wpAny_bind (wpAny_entryPlaceOf λr m=>?_);unfold EY newFields;refine wpAny_bind (my ?_ (m.sizeOk5 _ _ _ _ _));have F:f.get? x=aA u:=(k.2.1 x q).trans ho;generalize n:({cls:=.type "traceback",dict:=aF,data:=.fields ([g,.ref L,.none,cW L,.none]++(if r.isEmpty then lR 6 eU else r)).toArray}:bB)=l;have D:=bP (h:=f) l F;have j:l.data=.fields ([g,.ref L,.none,cW L,.none]++(if r.isEmpty then lR 6 eU else r)).toArray:=by rw[←n]
 have i:l.isFreed=aD:=by rw[←n];rfl
 refine ra D hd hsz ?_;have z:f.objs.size≠x:=gU (bY F);have G:=EH hd (·.setIfInBounds 1 (cO f.objs.size));have R:=rF (i_ (·.setIfInBounds 1 (cO f.objs.size))) D (E4 G);have c:∀b o,b≠x->f.get? b=aA o->((f.push l).update x (i_ (·.setIfInBounds 1 (cO f.objs.size)))).get? b=aA o:=λb o P e=>by
  rw[nj _ _ (cE P)];exact bP _ e
 refine h _ f.objs.size ⟨_,_,a0,l,_,R,⟨(Obj.cls_mapFields _ _).trans C.1,(uL _ _).trans C.2⟩,G,by rw[Fq (by decide)];exact w,by simp[hsz],z,?_,j,?_,λa e=>by rw[Fq (by decide)];exact v a e⟩ ⟨λb o e J nx _=>?_,λb o e _ nx _=>?_,λt K=>.inr ?_⟩ (i9 k.1.symm)
 ·rw[nj _ _ (cE z)];exact dP _ i
 ·first|(simp;done)|(rcases m with rfl|⟨_,_,_,_,_,_,_,rfl⟩<;>simp)
 ·exact c b o nx ((k.2.1 b J).trans e)
 ·obtain⟨H,S⟩:=k.2.2 b o e;exact⟨H,c b _ nx S⟩
 ·have:t=f.objs.size:=by simpa using K
  rw[this];exact i9 k.1.symm
theorem TH 
  (q:A.frames=aA (e0::outer)) (C:s.heap.FunFrames base (e0::outer)) (F:env.frame=aA L) (h0:e0.frame=aA L) (K:F8 s.heap x cls d T fl) (D:fl=.none\/fl=cW L)
  (h:∀h' t,fJ h' x t cls d (cW L)->eE ((e0::outer).filterMap (·.frame)) x T (aA t) s.heap h'->Q () {s with heap:=h'}):wpAny M A (pE (.ref x) env) Q E s:=by
 unfold pE;simp only[F];cases T with
 |none=>
  obtain⟨⟨J,I,P,m,r,hd,l,f,k⟩,_⟩:=K;refine wpAny_bind (ix m hd f ?_);rw[if_neg (by decide)];exact Z4 (T:=aF) q C F h0 m r hd l (oK.mp f).1 k λh' t a b _=>h h' t a b
 |some T=>
  obtain⟨J,I,P,S,u,m,r,hd,l,f,O,g,i,H,k⟩:=K;refine wpAny_bind (ix m hd f ?_);rw[if_pos (show (cO T != eU)=aC from by simp)];refine wpAny_bind (ix g i H ?_);by_cases N:fl=cW L
  ·subst N;rw[if_pos (show (cW L==cW L)=aC from by simp)];exact wpAny_pure (h s.heap T ⟨J,I,P,S,u,m,r,hd,l,f,O,g,i,H,k⟩ (eE.refl _ _ _ _))
  ·obtain rfl:fl=.none:=D.resolve_right N;rw[if_neg (show ¬((eU==cW L)=aC) from by simp[cW])];refine wpAny_bind (ra g i (oK.mp H).1 ?_);have j:∀b,b≠T->(s.heap.update T (i_ (·.setIfInBounds 3 eU))).get? b=s.heap.get? b:=λb G=>nj _ _ (cE G);have fr:∀b∈(e0::outer).filterMap (·.frame),b≠T:=λb G z=>by
    obtain⟨_,o,p,v⟩:=C.mem G;rw[z,g] at p;cases p;exact v u i
   refine Z4 (T:=aA T) (s:={s with heap:=s.heap.update T (i_ (·.setIfInBounds 3 eU))}) (base:=base) q (C.of_keeps λb o e v=>⟨o,(j b λz=>?_).trans e,rfl⟩) F h0 ((j x (cE O)).trans m) r hd l (oK.mp f).1 k λh' t a b c=>h h' t a ⟨?_,?_,?_⟩
   ·rw[z,g] at e;cases e;exact v u i
   ·exact λd o e y w n=>b.keep d o ((j d λz=>n (by simp[z])).trans e) y w n
   ·exact λd o e y w n=>b.slot d o ((j d λz=>n (by simp[z])).trans e) y w n
   ·intro R B;rcases b.newT R B with z|z
    ·exact .inl z
    ·refine .inr (cL (i9 ?_) z);exact (Heap.size_after_update ..).symm
theorem KZ(v:fJ s.heap x T cls d fl)
  (h:∀h',fJ h' x T cls d (fr.elim .none λf=>cW f)->eE fs x (aA T) (aA T) s.heap h'->Q () {s with heap:=h'}):wpAny M A (mR (.ref x) fr) Q E s:=by
 obtain⟨u,q,D,F,r,l,y,hd,k,c,m,g,i,C,j⟩:=v;have sz:3<r.size:=(oK.mp C).1;unfold mR;refine wpAny_bind (ix l hd c ?_);rw[if_pos (show (cO T != eU)=aC from by simp)];refine ra g i sz ?_;have a:∀b,b≠T->(s.heap.update T (i_ (·.setIfInBounds 3 (fr.elim .none λf=>cW f)))).get? b=s.heap.get? b:=λb B=>nj _ _ (cE B);have p:=EH i (·.setIfInBounds 3 (fr.elim eU λf=>cW f))
 exact h _ ⟨u,q,D,_,_,(a x (cE m)).trans l,y,hd,k,c,m,rF _ g (E4 p),p,by simp[sz],j⟩
  ⟨λb o e _ _ n=>(a b λz=>n (by simp[z])).trans e,λb o e _ _ n=>⟨o.slots,(a b λz=>n (by simp[z])).trans e⟩,λt w=>.inl w⟩
end
end NH
namespace NH
open PySem PySem.Spec PyProof.Rows L2
noncomputable abbrev St:=L2.St
theorem QX{P:b7}(x:aY P w H h a o):∃ob,h.get? a=aA ob:=by
 cases o with
 |lst c=>obtain⟨_,_,_,_,e⟩:=x;exact⟨_,e⟩
 |tup c=>obtain⟨_,_,_,ob,e,_⟩:=x;exact⟨ob,e⟩
 |dK b=>obtain⟨_,_,_,_,o,_,_,e,_⟩:=x;exact⟨o,e⟩
 |dE ep b=>obtain⟨_,_,_,_,o,_,e,_⟩:=x;exact⟨o,e⟩
 |set S n=>obtain⟨o,_,_,_,e,_⟩:=x;exact⟨o,e⟩
 |ins C dx fs=>obtain⟨_,_,_,e,_⟩:=x;exact⟨_,e⟩
 |own y=>obtain⟨o,e⟩:=x;exact⟨o,e⟩
 |xd fs=>obtain⟨_,⟨o,_,_,e,_⟩,_⟩:=x;exact⟨o,e⟩
 |rng lo i=>obtain⟨_,_,_,e⟩:=x;exact⟨_,e⟩
 |frz ob u=>obtain⟨e,_⟩:=x;exact⟨_,e⟩
 |tbl g=>exact⟨_,(show h.get? a=aA _ from x)⟩
 |met f y=>exact⟨_,(show h.get? a=aA _ from x)⟩
 |ext d=>obtain⟨_,⟨o,e⟩,_⟩:=x;exact⟨o,e⟩
structure dL(X:Cx)(H:Hp)(b:aE):Prop where
 free:H b=aF
 loc:b≠X.env.locals
 nfs:b∉X.fs
 new:b∈X.ex\/X.s₀.heap.get? b=aF
 cel:∀x c,X.env.cells.lookup x=aA c->c≠b
 pin:∀p∈X.pn,p.1≠b
section
variable {X:Cx}{pins:List (aE×bB)}{σ:St}{H H':Hp}{s:Shared}{h':aR}
theorem Je(I:Inv X pins σ H s)(e:s.heap.get? b=aF):H b=aF:=by
 cases q:H b with
 |none=>rfl
 |some o=>
  obtain⟨a,z⟩:=QX (I.hok b o q);rw[e] at z;cases z
theorem vS(I:Inv X pins σ H s)(e:s.heap.get? b=aF):dL X H b:=by
 refine⟨Je I e,λz=>?_,λz=>?_,?_,λx c q z=>?_,λp f z=>?_⟩
 ·obtain⟨m,⟨o,_,_,a,_⟩,_⟩:=I.loc;rw[←z,e] at a;cases a
 ·obtain⟨_,o,a,_⟩:=I.funs.mem z;rw[e] at a;cases a
 ·by_cases d:b∈X.ex
  ·exact .inl d
  ·refine .inr ?_;cases q:X.s₀.heap.get? b with
   |none=>rfl
   |some o=>
    obtain⟨g,z⟩:=I.base.there b o q d;rw[e] at z;cases z
 ·obtain⟨v,o,a,_⟩:=I.cell x c q;rw[z,e] at a;cases a
 ·have:=(I.pin p (d_ _ f)).1;rw[z,e] at this;cases this
theorem xa{ch:List aE}(I:Inv X pins σ H s)(a:∀b∈ch,dL X H b/\∀p∈pins,p.1≠b)
  (keep:∀b o,b∉eY X.stack->b∉ch->s.heap.get? b=aA o->h'.get? b=aA o)
  (slot:∀b o,b∈eY X.stack->b∉ch->s.heap.get? b=aA o->∃j,h'.get? b=aA {o with slots:=j}) :
  Inv X pins σ H {s with heap:=h'}:=by
 have J:∀b u,H b=aA u->b∉ch:=λb u e z=>by rw[(a b z).1.free] at e;cases e
 have w:∀b u,H b=aA u->b∉eY X.stack:=λb u e z=>by rw[I.stkFree b z] at e;cases e
 have any:∀b o,b∉ch->s.heap.get? b=aA o->∃j,h'.get? b=aA {o with slots:=j}:=λb o t e=>by
  by_cases M:b∈eY X.stack
  ·exact slot b o M t e
  ·exact⟨o.slots,keep b o M t e⟩
 have y:∀b,b≠X.env.locals->b∉X.fs->b∉eY X.stack:=λb U T z=>(cC.mp (I.stkSub b z)).elim U T;have h:∀b o,X.s₀.heap.get? b=aA o->b∉X.ex->b∉ch:=λb o e f z=>by
  rcases (a b z).1.new with q|q
  ·exact f q
  ·rw[e] at q;cases q
 have E:∀b o,X.s₀.heap.get? b=aA o->b≠X.env.locals:=λb o e=>c7 (dM (bY e) I.ok.above);have g:∀x c,X.env.cells.lookup x=aA c->∀v,s.heap.IsCell c v->h'.IsCell c v:=λx c e v ⟨o,G,hd⟩=>by
  obtain⟨j,q⟩:=any c o (λz=>(a c z).1.cel x c e rfl) G;exact⟨_,q,hd⟩
 refine⟨I.ok,I.os,I.bare,⟨λb o e n t f=>?_,λb o e n t f=>?_,λb o e n f=>I.base.free b o e n f,λb o e f=>?_,λb C e=>I.base.tups b C e,λb o C e=>I.base.frzs b o C e,λb O e=>I.base.tbls b O e⟩,?_,λx c e=>?_,I.free,λx c e=>I.freeC x c e,λp L=>?_,λb u e=>?_,I.len⟩
 ·exact keep b o (y b (E b o e) t) (h b o e f) (I.base.keep b o e n t f)
 ·obtain⟨j,B⟩:=I.base.slot b o e n t f;obtain⟨D,A⟩:=any b _ (h b o e f) B;exact⟨D,A⟩
 ·obtain⟨P,B⟩:=I.base.there b o e f;obtain⟨j,A⟩:=any b P (h b o e f) B;exact⟨_,A⟩
 ·obtain⟨m,⟨o,es,ep,G,r⟩,Q⟩:=I.loc;obtain⟨j,S⟩:=any X.env.locals o (λz=>(a _ z).1.loc rfl) G;refine⟨m,⟨_,es,ep,S,r⟩,λi x v B A V=>?_⟩;obtain⟨u,N,l⟩:=Q i x v B A V;refine⟨u,N,?_⟩;rcases l with l|⟨k,c,e,z⟩
  ·exact .inl l
  ·exact .inr ⟨k,c,e,g x c e _ z⟩
 ·obtain⟨v,z⟩:=I.cell x c e;exact⟨v,g x c e v z⟩
 ·obtain⟨e,n,ne,K,d⟩:=I.pin p L;have F:p.1∉ch:=λz=>by
   rcases b_.mp L with q|q
   ·exact (a p.1 z).1.pin p q rfl
   ·exact (a p.1 z).2 p q rfl
  exact⟨keep p.1 p.2 (y p.1 ne K) F e,n,ne,K,d⟩
 ·refine (I.hok b u e).stay (λc v R q=>?_) (λ_ q=>q) λ_ _ q=>q;rcases R with z|z
  ·subst z;exact keep c v (w c u e) (J c u e) q
  ·exact keep c v (w c _ z) (J c _ z) q
structure lp(X:Cx)(e0:Env)(out:List Env)(L:aE):Prop where
 stk:X.stack=e0::out
 f0:e0.frame=aA L
 fe:X.env.frame=aA L
noncomputable abbrev XW:=aB->Option aE->St->Hp->Prop
inductive XP(X:Cx)(W:XW)(e:aB)(s:Shared):Prop where
 |mk (x:aE) (cls:aB) (d:Option aE) (σ:St) (H:Hp) (T:Option aE) (fl:aB) (ee:e=.ref x) (i:Inv X [] σ H s) (ox:dL X H x) (ot:∀t∈T.toList,dL X H t) (r:F8 s.heap x cls d T fl) (hf:fl=.none\/∃L,X.env.frame=aA L/\fl=cW L) (w:W cls d σ H)
theorem XH{x:aE}{T:Option aE}{t:aE}(I:Inv X [] σ H s)(ox:dL X H x)(ot:∀t∈T.toList,dL X H t)(c:eE (eY X.stack) x T (aA t) s.heap h') :
  Inv X [] σ H {s with heap:=h'}/\dL X H t:=by
 refine⟨xa (ch:=x::T.toList) I (λb g=>⟨?_,λp f=>absurd f (by simp)⟩) (λb o d a e=>?_) (λb o d a e=>?_),?_⟩
 ·rcases cC.mp g with z|z
  ·rw[z];exact ox
  ·exact ot b z
 ·exact c.keep b o e d (λz=>a (by simp[z])) (λz=>a (dQ _ z))
 ·exact c.slot b o e d (λz=>a (by simp[z])) (λz=>a (dQ _ z))
 ·rcases c.newT t (by simp) with z|z
  ·exact ot t z
  ·exact vS I (iS z)
theorem uo{W:XW}(F:lp X e0 out L)(b:A.frames=aA X.stack)(p:XP X W e s)
  (h:∀x cls d σ H T h',e=.ref x->Inv X [] σ H {s with heap:=h'}->dL X H x->dL X H T->fJ h' x T cls d (cW L)->W cls d σ H->Q () {s with heap:=h'}):wpAny M A (pE e X.env) Q E s:=by
 obtain⟨x,cls,d,σ,H,T,fl,rfl,I,g,k,n,f,w⟩:=p;have a:=I.stack;rw[F.stk] at b a;refine TH b a F.fe F.f0 n (f.imp_right λ⟨r,i,o⟩=>by rw[F.fe] at i;cases i;exact o) λh' t j m=>?_;have c:eE (eY X.stack) x T (aA t) s.heap h':=by rw[F.stk];exact m
 obtain⟨q,l⟩:=XH I g k c;exact h x cls d σ H t h' rfl q g l j w
theorem wG(I:Inv X [] σ H s)(ox:dL X H x)(c:dL X H T)(b:fJ s.heap x T cls d fl)
  (h:∀h',Inv X [] σ H {s with heap:=h'}->fJ h' x T cls d (fr.elim .none λf=>cW f)->Q () {s with heap:=h'}):wpAny M A (mR (.ref x) fr) Q E s:=by
 refine KZ (fs:=eY X.stack) b λh' a e=>h h' (XH (T:=aA T) I ox (λt g=>?_) e).1 a;have:t=T:=by simpa using g
 rw[this];exact c
theorem yh{W:XW}(F:lp X e0 out L)(f:X.A.frames=aA X.stack):nV M X.A X.env (XP X W):=by
 intro e s p;unfold notedBy;refine uo F f p λx cls d k H T j ee I h i g w=>?_;subst ee;unfold cameBackBy;obtain⟨z,v,G,l,y,q,B,hd,m,c,C,o,r,D,_⟩:=id g;refine wpAny_bind (ix q hd c ?_);rw[if_neg (show ¬((cO T==eU)=aC) from by simp)];rw[F.fe]
 have go:wpAny M X.A (mR (.ref x) (aA L)) (λ_ b=>XP X W (.ref x) b) (XP X W) {s with heap:=j}:=
  wG (s:={s with heap:=j}) I h i g λE u a=>⟨x,cls,d,k,H,aA T,cW L,rfl,u,h,λt n=>by
   have:t=T:=by simpa using n
   rw[this];exact i,a,.inr ⟨L,F.fe,rfl⟩,w⟩
 first|exact go|exact wpAny_bind (wpAny_pure go)
inductive CXP(P:Program)(w:World)(outer:List Env)(H:Hp)(s:Shared)(E:XK)(e:aB)(s':Shared):Prop where
 |mk (x T:aE) (cls:aB) (d:Option aE) (H':Hp) (ee:e=.ref x) (o:s'.os=s.os) (b:i4 s'.gens) (n:Un (eY outer) [] H H' s.heap s'.heap) (k:dN P w H' s'.heap) (h1:s.heap.get? x=aF) (h2:s.heap.get? T=aF) (h3:H' x=aF) (h4:H' T=aF) (t:fJ s'.heap x T cls d .none) (q:E cls d H')
noncomputable def dD (P:b7)(w:cV):lw:=CXP P w
noncomputable def fB (E:XK):XW:=λc d _ H=>E c d H
theorem JA(F:lp X e0 out L)(j:X.A.frames=aA X.stack)(a:X.ex=[])(p:XP X (fB E) e s) :
  wpAny M X.A (pu X.env e) (λ_ g=>dD X.prog X.w X.outer X.H₀ X.s₀ E e g) F2 s:=by
 unfold pu;refine wpAny_bind (uo F j p λx cls d n H T m ee I h i l w=>?_);subst ee;refine wG (s:={s with heap:=m}) I h i l λq c f=>?_;have k:∀b,dL X H b->X.s₀.heap.get? b=aF:=λb o=>o.new.resolve_left (by rw[a];simp);refine⟨x,T,cls,d,H,rfl,c.os,c.bare,?_,c.hok,k x h,k T i,h.free,i.free,f,w⟩;have:=c.base;rw[a] at this;exact this
theorem uj{W:XW}(I:Inv X pins σ H s)(c:dD X.prog X.w X.stack H s E e j)(h:∀cls d H',E cls d H'->W cls d σ H'):XP X W e j:=by
 obtain⟨x,T,cls,d,H',rfl,os,a,un,g,nx,l,fx,q,i,w⟩:=c;have J:Inv X pins σ H' j:=I.call' (ch:=[]) os un g a λb z=>absurd z (by simp);have k:∀b,s.heap.get? b=aF->H' b=aF->dL X H' b:=λb e f=>by
  have o:=vS I e;exact⟨f,o.loc,o.nfs,o.new,o.cel,o.pin⟩
 refine⟨x,cls,d,σ,H',aA T,.none,rfl,J.pins_of (λp n=>absurd n (by simp)),k x nx fx,λt m=>?_,i,.inl rfl,h cls d H' w⟩;have:t=T:=by simpa using m
 rw[this];exact k T l q
theorem PM{W:XW}{args:List aB}(I:Inv X pins σ H s)(mk:n6 s.heap h2 x (.ref C) args)(w:W (.ref C) aF σ H):XP X W (.ref x) {s with heap:=h2}:=by
 have J:Inv X pins σ H {s with heap:=h2,toks:=s.toks}:=I.kept mk.keeps;obtain⟨t,c,_,_⟩:=mk.there;exact⟨x,.ref C,aF,σ,H,aF,.none,rfl,J.pins_of (λp b=>absurd b (by simp)),vS I mk.new,λt a=>absurd a (by simp),⟨⟨_,_,.ref t,c,⟨rfl,rfl⟩,rfl,rfl,rfl,λ_ _=>rfl⟩,rfl⟩,.inl rfl,w⟩
noncomputable abbrev Cx.pin'(X:Cx)(pins:List (aE×bB)):Cx:={X with pn:=X.pn++pins}
noncomputable abbrev Cx.han(X:Cx)(x:aE):Cx:={X with A:=X.A.mark (aA (.ref x)),calm:=aD,xe:=λ_ _=>False}
theorem O7(ok:X.Ok):(Cx.pin' X pins).Ok:=⟨ok.mod,ok.kind,ok.glob,ok.blt,ok.above,ok.inj,ok.has,ok.cab,ok.hd,ok.frames,ok.stk,ok.exf,ok.bs,ok.bsz,ok.noex,ok.exfs,ok.funs,ok.frf⟩
theorem Jk(ok:(Cx.pin' X pins).Ok):X.Ok:=⟨ok.mod,ok.kind,ok.glob,ok.blt,ok.above,ok.inj,ok.has,ok.cab,ok.hd,ok.frames,ok.stk,ok.exf,ok.bs,ok.bsz,ok.noex,ok.exfs,ok.funs,ok.frf⟩
theorem M_(ok:X.Ok):(Cx.han X x).Ok:=⟨ok.mod,ok.kind,ok.glob,ok.blt,ok.above,ok.inj,ok.has,ok.cab,(λh=>by cases h),ok.frames,ok.stk,ok.exf,ok.bs,ok.bsz,ok.noex,ok.exfs,ok.funs,ok.frf⟩
theorem JG(I:Inv X pins σ H s):Inv (Cx.pin' X pins) [] σ H s:=⟨O7 I.ok,I.os,I.bare,I.base,I.loc,I.cell,I.free,I.freeC,λp a=>I.pin p (by simpa using a),I.hok,I.len⟩
theorem qa(I:Inv (Cx.pin' X pins) [] σ H s):Inv X pins σ H s:=⟨Jk I.ok,I.os,I.bare,I.base,I.loc,I.cell,I.free,I.freeC,λp a=>I.pin p (by simpa using a),I.hok,I.len⟩
theorem Xh(I:Inv X pins σ H s):Inv (Cx.han X x) pins σ H s:=⟨M_ I.ok,I.os,I.bare,I.base,I.loc,I.cell,I.free,I.freeC,I.pin,I.hok,I.len⟩
theorem QD(ok:X.Ok)(I:Inv (Cx.han X x) pins σ H s):Inv X pins σ H s:=⟨ok,I.os,I.bare,I.base,I.loc,I.cell,I.free,I.freeC,I.pin,I.hok,I.len⟩
theorem jM{W:XW}(p:XP (X.wish E) W e s):XP X W e s:=by
 obtain⟨x,cls,d,f,H,T,fl,a,I,b,c,r,h,g⟩:=p;exact⟨x,cls,d,f,H,T,fl,a,I.unwish,⟨b.free,b.loc,b.nfs,b.new,b.cel,b.pin⟩,λt i=>let b:=c t i;⟨b.free,b.loc,b.nfs,b.new,b.cel,b.pin⟩,r,h,g⟩
end
end NH
namespace NH
open PySem
inductive T where
 |non|bl (b:Bool)|int (i:Int)|str (x:aG)
 |tup (ts:List T)|lst (ts:List T)|obj (c:Nat) (fs:List (Nat×T))
 |mut (i:Nat)
 |exc (c:Nat) (fs:List (Nat×T))
 |dic (kvs:List (L2.Key×T))
 |clo (j:Nat) (cs:List T)
inductive MO where
 |lst (ts:List T)|obj (c:Nat) (fs:List (Nat×T))|dic (kvs:List (L2.Key×T))
 |tab (j:Nat)|dct (ks:List (Int×Int))|frd (ep:Nat) (kvs:List (L2.Key×T))
noncomputable abbrev G8:MO->Bool
 |.tab _=>aC
 |_=>aD
noncomputable abbrev aK:=List MO
noncomputable abbrev Sl:=List (Option T)
mutual
def jw:T->Bool
 |.mut _=>aD
 |.tup a=>uV a
 |.lst a=>uV a
 |.obj _ fs=>yJ fs
 |.exc _ fs=>yJ fs
 |.dic b=>Xo b
 |.clo _ cs=>uV cs
 |_=>aC
def uV:List T->Bool
 |[]=>aC
 |t::r=>jw t&&uV r
def yJ:List (Nat×T)->Bool
 |[]=>aC
 |p::r=>jw p.2&&yJ r
def Xo:List (L2.Key×T)->Bool
 |[]=>aC
 |p::r=>jw p.2&&Xo r
end
noncomputable abbrev Xp:=Nat->List (Nat×T)->aK->Prop
noncomputable abbrev RE(β:Type):=(β->aK->Prop)->Xp->Prop
noncomputable abbrev RE.ok{β:Type}(a:β)(μ:aK):RE β:=λK _=>K a μ
noncomputable abbrev RE.st{β:Type}:RE β:=λ_ _=>False
noncomputable abbrev RE.bind{β b:Type}(r:RE b)(k:b->aK->RE β):RE β:=λK Z=>r (λa μ=>k a μ K Z) Z
noncomputable abbrev RE.grd{β:Type}(p:Prop)(r:RE β):RE β:=λK Z=>p/\r K Z
noncomputable abbrev RE.som{β b:Type}(o:Option b)(k:b->RE β):RE β:=λK Z=>∃a,o=aA a/\k a K Z
@[reducible] noncomputable def iF(b:Bool)(A B:Prop):Prop:=match b with
 |true=>A
 |false=>B
noncomputable abbrev RE.br{β:Type}(b:Bool)(r s:RE β):RE β:=λK Z=>iF b (r K Z) (s K Z)
structure En where
 nx:Sl->aK->Prop
 rt:T->aK->Prop
 bk:Sl->aK->Prop
 ct:Sl->aK->Prop
 ex:Nat->List (Nat×T)->Sl->aK->Prop
noncomputable abbrev cK:=En->Prop
noncomputable abbrev En.nxt(E:En)(f:Sl->aK->Prop):En:=⟨f,E.rt,E.bk,E.ct,E.ex⟩
noncomputable abbrev En.turn(E:En)(N:Sl->aK->Prop):En:=⟨N,E.rt,E.nx,N,E.ex⟩
noncomputable abbrev En.tri(E:En)(X:Nat->List (Nat×T)->Sl->aK->Prop):En:=⟨E.nx,E.rt,E.bk,E.ct,X⟩
noncomputable abbrev En.fn(K:T->aK->Prop)(Z:Xp):En:=⟨λ_ a=>K .non a,K,λ_ _=>False,λ_ _=>False,λc fs _ a=>Z c fs a⟩
noncomputable abbrev cK.nx(τ:Sl)(μ:aK):cK:=λE=>E.nx τ μ
noncomputable abbrev cK.rt(t:T)(μ:aK):cK:=λE=>E.rt t μ
noncomputable abbrev cK.ex(c:Nat)(fs:List (Nat×T))(τ:Sl)(μ:aK):cK:=λE=>E.ex c fs τ μ
noncomputable abbrev cK.st:cK:=λ_=>False
noncomputable abbrev cK.grd(p:Prop)(o:cK):cK:=λE=>p/\o E
noncomputable abbrev cK.som{b:Type}(o:Option b)(k:b->cK):cK:=λE=>∃a,o=aA a/\k a E
noncomputable abbrev cK.br(b:Bool)(r s:cK):cK:=λE=>iF b (r E) (s E)
noncomputable abbrev cK.seq(o:cK)(f:Sl->aK->cK):cK:=λE=>o (E.nxt λτ μ=>f τ μ E)
noncomputable abbrev RE.out{β:Type}(r:RE β)(τ:Sl)(f:β->aK->cK):cK:=λE=>r (λa μ=>f a μ E) (λc fs μ=>E.ex c fs τ μ)
noncomputable abbrev Fn:=List T->aK->RE T
noncomputable abbrev De:=Sl->aK->RE T
noncomputable abbrev Dt:=Sl->aK->RE Bool
noncomputable abbrev Da:=Sl->aK->RE (List T)
noncomputable abbrev Ds:=Sl->aK->cK
noncomputable abbrev RI:=(List T->(aK->Prop)->aK->Prop)->Xp->Prop
noncomputable abbrev RI.ok(xs:List T)(o:aK->Prop)(μ:aK):RI:=λK _=>K xs o μ
noncomputable abbrev RI.st:RI:=λ_ _=>False
noncomputable abbrev RI.grd(p:Prop)(r:RI):RI:=λK Z=>p/\r K Z
noncomputable abbrev RI.go{β:Type}(r:RI)(k:List T->(aK->Prop)->aK->RE β):RE β:=λK Z=>r (λxs o μ=>k xs o μ K Z) Z
noncomputable abbrev RI.out(r:RI)(τ:Sl)(f:List T->(aK->Prop)->aK->cK):cK:=λE=>r (λxs o μ=>f xs o μ E) (λc fs μ=>E.ex c fs τ μ)
noncomputable abbrev RI.re(r:RI):RE (List T×(aK->Prop)):=λK Z=>r (λxs o μ=>K (xs,o) μ) Z
noncomputable abbrev RE.it{β:Type}(r:RE β)(k:β->aK->RI):RI:=λK Z=>r (λa μ=>k a μ K Z) Z
noncomputable abbrev Di:=Sl->aK->RI
abbrev fY:aK->Prop:=λ_=>True
abbrev iT(i:Nat)(xs:List T):aK->Prop:=λa=>a[i]?=aA (.lst xs)
structure bJ where
 jt:Nat
 qn:aG
 y:aG
 body:aH
 sc:Scope
 fr:List aG
 g:De
 sb:Option (aG×List bE)
noncomputable abbrev YI(j jt:Nat)(ts:List T):T:=.clo (300+j) (.clo (100+jt) []::ts.map λt=>.clo 200 [t])
inductive GM where
 |fn (f:Fn)
 |fnh (nm:aG) (f:Fn)
 |met (c:Nat) (nm:aG) (f:Fn)
 |mk (c:Nat) (frozen:Bool) (f:Fn)
 |cst (t:T)
 |xcl (c:Nat)
 |xcf (c:Nat) (f:Nat)
 |xbt (c:Nat) (n:String)
 |xin (c f:Nat) (nm fl:aG)
 |mkd (c:Nat) (nm:aG) (n:Nat) (f:Fn)
 |metd (c:Nat) (nm:aG) (n:Nat) (d:T) (f:Fn)
 |kpr
 |kap (ls:List bJ)
 |tbl (kvs:List (aG×Int))
 |none
 |bad
noncomputable abbrev V2(τ:Sl):Nat->Option T:=gy (motive:=λ_=>Nat->Option T) (λ_=>aF) (λo _ a i=>pq (motive:=λ_=>Option T) o (λn _=>a n) i) τ
noncomputable abbrev xM(τ:Sl):Nat->Option T->Sl:=gy (motive:=λ_=>Nat->Option T->Sl) (λ_ _=>[]) (λo r a i t=>pq (motive:=λ_=>Sl) (t::r) (λn _=>o::a n t) i) τ
theorem WV:∀{τ:Sl} {i:Nat} {t:T},V2 τ i=aA t↔τ[i]?=aA (aA t)
 |[],_,_=>by simp
 |o::r,0,t=>by show o=aA t↔_;simp
 |o::r,n+1,t=>by
  show V2 r n=aA t↔_;rw[WV (τ:=r) (i:=n)];simp
theorem V0:∀{τ:Sl} {i:Nat} {t:Option T},xM τ i t=τ.set i t
 |[],_,_=>by simp
 |o::r,0,t=>rfl
 |o::r,n+1,t=>by
  show o::xM r n t=_;rw[V0 (τ:=r) (i:=n)];simp
noncomputable abbrev JT(fs:List (Nat×T)):Nat->Option T:=gy (motive:=λ_=>Nat->Option T) (λ_=>aF) (λp _ a i=>pz (motive:=λ_=>Option T) (a i) (aA p.2) (fO p.1 i)) fs
noncomputable abbrev YN(f:Nat)(v:T)(fs:List (Nat×T)):List (Nat×T):=gy (motive:=λ_=>List (Nat×T)) [(f,v)] (λp r a=>pz (motive:=λ_=>List (Nat×T)) (p::a) ((p.1,v)::r) (fO p.1 f)) fs
theorem YF:JT (p::r) i=match fO p.1 i with
  |true=>aA p.2
  |false=>JT r i:=by
 show (pz (JT r i) (aA p.2) (fO p.1 i):Option T)=_;cases fO p.1 i<;>rfl
theorem YT:YN f v (p::r)=match fO p.1 f with
  |true=>(p.1,v)::r
  |false=>p::YN f v r:=by
 show (pz (p::YN f v r) ((p.1,v)::r) (fO p.1 f):List (Nat×T))=_;cases fO p.1 f<;>rfl
noncomputable def cF:List aG->aG->Option Nat
 |[],_=>aF
 |y::r,x=>if y=x then aA 0 else (cF r x).map (·+1)
noncomputable abbrev Ib:T->aK->Option Nat
 |.non,_=>aA 0
 |.bl _,_=>aA 1
 |.int _,_=>aA 2
 |.str _,_=>aA 3
 |.tup _,_=>aA 4
 |.lst _,_=>aA 5
 |.dic _,_=>aA 6
 |.exc c _,_=>aA c
 |.obj c _,_=>aA c
 |_,_=>aF
noncomputable abbrev Ia:MO->Nat
 |.lst _=>5
 |.obj c _=>c
 |.dic _=>6
 |.tab _=>99
 |.dct _=>6
 |.frd _ _=>6
noncomputable abbrev r_(a b:Bool):Bool:=match a with
 |true=>b
 |false=>aD
noncomputable abbrev mG(a b:Bool):Bool:=match a with
 |true=>aC
 |false=>b
noncomputable abbrev vx(a c:Nat):Bool:=mG (fO a c) (mG (r_ (fO a 1) (fO c 2)) (r_ (pj 10 a) (r_ (pj a 39) (mG (fO c 11) (r_ (fO c 10) (pj 12 a))))))
noncomputable abbrev c9(t:Nat)(cs:List Nat):Bool:=gy (motive:=λ_=>Bool) aD (λc _ a=>mG (vx t c) a) cs
theorem uM:c9 t (c::r)=mG (vx t c) (c9 t r):=rfl
noncomputable def big:Int:=18446744073709551616
noncomputable def aZ:Nat:=1000000
noncomputable abbrev BD:T->T->aK->RE T
 |.int i,.int j,a=>.ok (.int (i+j)) a
 |.str x,.str y,a=>.grd (x.length+y.length<=aZ) (.ok (.str (x++y)) a)
 |.lst c,.lst b,a=>.grd (c.length+b.length<=aZ) (.ok (.lst (c++b)) a)
 |.tup c,.tup b,a=>.grd (c.length+b.length<=aZ) (.ok (.tup (c++b)) a)
 |.mut i,.lst b,a=>λK _=>∃c,a[i]?=aA (.lst c)/\c.length+b.length<=aZ/\K (.lst (c++b)) a
 |.lst c,.mut j,a=>λK _=>∃b,a[j]?=aA (.lst b)/\c.length+b.length<=aZ/\K (.lst (c++b)) a
 |.mut i,.mut j,a=>λK _=>∃p:List T×List T,(a[i]?=aA (.lst p.1)/\a[j]?=aA (.lst p.2))/\p.1.length+p.2.length<=aZ/\K (.lst (p.1++p.2)) a
 |_,_,_=>.st
noncomputable abbrev Wt(f:Int->Int->aK->RE T):T->T->aK->RE T
 |.int i,.int j,a=>f i j a
 |_,_,_=>.st
noncomputable abbrev FS:Operator->T->T->aK->RE T
 |.Add=>BD
 |.Sub=>Wt λi j a=>.ok (.int (i-j)) a
 |.Mult=>Wt λi j a=>.grd ((-big<i/\i<big)\/(-big<j/\j<big)) (.ok (.int (i*j)) a)
 |.FloorDiv=>Wt λi j a=>.grd (0<j/\j<1606938044258990275541962092341162602522202993782792835301376) (.ok (.int (i / j)) a)
 |.Mod=>Wt λi j a=>.grd (0<j) (.ok (.int (i % j)) a)
 |.Pow=>Wt λi j a=>.grd (0<=j/\j<=1000000/\i.natAbs<18446744073709551616) (.ok (.int (i ^ j.toNat)) a)
 |.RShift=>Wt λi j a=>.grd (0<=j) (.ok (.int (i / 2 ^ j.toNat)) a)
 |.BitAnd=>Wt λi j a=>.ok (.int (DK i j)) a
 |_=>λ_ _ _=>.st
mutual
def eqT:T->T->Option Bool
 |.int i,b=>match b with
  |.int j=>aA (i==j)
  |.bl k=>aA (i==(if k then 1 else 0))
  |.str _=>aA aD
  |.non=>aA aD
  |.tup _=>aA aD
  |.lst _=>aA aD
  |_=>aF
 |.bl k,b=>match b with
  |.int j=>aA ((if k then 1 else 0)==j)
  |.bl j=>aA (k==j)
  |.str _=>aA aD
  |.non=>aA aD
  |.tup _=>aA aD
  |.lst _=>aA aD
  |_=>aF
 |.str x,b=>match b with
  |.str y=>aA (x==y)
  |.int _=>aA aD
  |.bl _=>aA aD
  |.non=>aA aD
  |.tup _=>aA aD
  |.lst _=>aA aD
  |_=>aF
 |.non,b=>match b with
  |.non=>aA aC
  |.int _=>aA aD
  |.bl _=>aA aD
  |.str _=>aA aD
  |.tup _=>aA aD
  |.lst _=>aA aD
  |_=>aF
 |.tup c,b=>match b with
  |.tup a=>dG c a
  |.non=>aA aD
  |.int _=>aA aD
  |.bl _=>aA aD
  |.str _=>aA aD
  |.lst _=>aA aD
  |_=>aF
 |.lst c,b=>match b with
  |.lst a=>dG c a
  |.non=>aA aD
  |.int _=>aA aD
  |.bl _=>aA aD
  |.str _=>aA aD
  |.tup _=>aA aD
  |_=>aF
 |_,_=>aF
def dG:List T->List T->Option Bool
 |[],[]=>aA aC
 |[],_::_=>aA aD
 |_::_,[]=>aA aD
 |x::d,y::c=>match eqT x y,dG d c with
  |some a,aA b=>aA (a&&b)
  |_,_=>aF
end
mutual
def xV:T->Nat
 |.tup a=>wI a+1
 |.lst a=>wI a+1
 |_=>0
def wI:List T->Nat
 |[]=>0
 |t::r=>max (xV t) (wI r)
end
noncomputable abbrev Ci:T->T->Option Bool
 |.non,.non=>aA aC
 |.non,.int _=>aA aD|.int _,.non=>aA aD|.non,.bl _=>aA aD|.bl _,.non=>aA aD|.non,.str _=>aA aD|.str _,.non=>aA aD
 |.int i,.int j=>aA (decide (i=j))|.bl i,.bl j=>aA (decide (i=j))|.str i,.str j=>aA (decide (i=j))
 |.int _,.str _=>aA aD|.str _,.int _=>aA aD|.bl _,.str _=>aA aD|.str _,.bl _=>aA aD
 |_,_=>aF
noncomputable abbrev sG(x y:T)(μ:aK)(k:Bool->RE T):RE T:=match x,y with
 |.tup a,.tup c=>.grd (wI a<=40) (.som (dG a c) k)
 |.lst a,.lst c=>.grd (wI a<=40) (.som (dG a c) k)
 |.mut i,.lst c=>λK Z=>∃a,μ[i]?=aA (.lst a)/\RE.grd (wI a<=40) (.som (dG a c) k) K Z
 |.lst a,.mut j=>λK Z=>∃c,μ[j]?=aA (.lst c)/\RE.grd (wI a<=40) (.som (dG a c) k) K Z
 |.mut i,.mut j=>λK Z=>∃p:List T×List T,(μ[i]?=aA (.lst p.1)/\μ[j]?=aA (.lst p.2))/\RE.grd (wI p.1<=40) (.som (dG p.1 p.2) k) K Z
 |x,y=>match Ci x y with
  |some b=>k b
  |none=>.st
noncomputable def bN:List T->Option (List Int)
 |[]=>aA []
 |.int i::r=>(bN r).map (i::·)
 |_::_=>aF
noncomputable abbrev Ij(x y:T)(k:Bool->RE T):RE T:=match x,y with
 |.int i,.int j=>k (decide (i<j))
 |.tup d,.tup c=>.som (bN d) λe=>.som (bN c) λf=>k (HT.lexLt e f)
 |.str a,.str b=>k (decide (a.cps.toList<b.cps.toList))
 |_,_=>.st
noncomputable abbrev Q8(op:eK)(x y:T)(μ:aK):RE T:=
 match op with
 |.Eq=>sG x y μ λb=>.ok (.bl b) μ
 |.NotEq=>sG x y μ λb=>.ok (.bl (!b)) μ
 |.Lt=>Ij x y λb=>.ok (.bl b) μ
 |.LtE=>match x,y with|.int i,.int j=>.ok (.bl (decide (i<=j))) μ|_,_=>.st
 |.Gt=>match x,y with|.int i,.int j=>.ok (.bl (decide (j<i))) μ|_,_=>.st
 |.GtE=>match x,y with|.int i,.int j=>.ok (.bl (decide (j<=i))) μ|_,_=>.st
 |.Is=>(match y with
  |.non=>.ok (.bl (match x with|.non=>aC|_=>aD)) μ
  |.bl b=>(match x with|.bl a=>.ok (.bl (decide (a=b))) μ|_=>.st)
  |_=>.st)
 |.IsNot=>(match y with
  |.non=>.ok (.bl (match x with|.non=>aD|_=>aC)) μ
  |.bl b=>(match x with|.bl a=>.ok (.bl (!decide (a=b))) μ|_=>.st)
  |_=>.st)
 |.In=>(match x,y with|.str i,.str j=>.ok (.bl (!(oN j i 0 j.length 1).isEmpty)) μ|_,_=>.st)
 |.NotIn=>(match x,y with|.str i,.str j=>.ok (.bl (!(!(oN j i 0 j.length 1).isEmpty))) μ|_,_=>.st)
noncomputable abbrev xB:T->aK->RE Bool
 |.bl b,a=>.ok b a
 |_,_=>.st
noncomputable abbrev eC(t:T):De:=λ_ a=>.ok t a
noncomputable abbrev eV(i:Nat):De:=λa b=>match V2 a i with
 |some t=>.ok t b
 |none=>.st
noncomputable abbrev zd(op:Operator)(f g:De):De:=λc d=>(f c d).bind λx b=>(g c b).bind λy a=>FS op x y a
noncomputable abbrev AH(f:De):De:=λb c=>(f b c).bind λx a=>match x with|.int i=>.ok (.int (-i)) a|_=>.st
noncomputable abbrev Av(f:De):De:=λc d=>(f c d).bind λx a=>match x with|.bl b=>.ok (.bl (!b)) a|_=>.st
noncomputable abbrev yk(f g:De):De:=λc d=>(f c d).bind λx a=>match x with|.bl b=>.br b (g c a) (.ok (.bl aD) a)|_=>.st
noncomputable abbrev Ix(f g:De):De:=λc d=>(f c d).bind λx a=>match x with|.bl b=>.br b (.ok (.bl aC) a) (g c a)|_=>.st
noncomputable abbrev zy(op:eK)(f g:De):De:=λc d=>(f c d).bind λx b=>(g c b).bind λy a=>Q8 op x y a
noncomputable abbrev chS(op:eK)(d:Bool)(e:T->Sl->aK->RE T)(x y:T)(τ:Sl)(c:aK):RE T:=match d with
 |true=>Q8 op x y c
 |false=>(Q8 op x y c).bind λk a=>match k with
  |.bl b=>.br b (e y τ a) (.ok (.bl aD) a)
  |_=>.st
noncomputable abbrev oS(ps:List (eK×De)):T->Sl->aK->RE T:=gy (motive:=λ_=>T->Sl->aK->RE T) (λ_ _ _=>.st) (λp r d x b c=>(p.2 b c).bind λy a=>chS p.1 r.isEmpty d x y b a) ps
noncomputable abbrev nJ(f:De)(ps:List (eK×De)):De:=λb c=>(f b c).bind λx a=>oS ps x b a
noncomputable abbrev tE(f:De):Dt:=λa b=>(f a b).bind xB
noncomputable abbrev x_(f g:Dt):Dt:=λc d=>(f c d).bind λb a=>.br b (g c a) (.ok aD a)
noncomputable abbrev gC(f g:Dt):Dt:=λc d=>(f c d).bind λb a=>.br b (.ok aC a) (g c a)
noncomputable abbrev qF(f:Dt):Dt:=λc d=>(f c d).bind λb a=>.ok (!b) a
noncomputable abbrev o5(c:Dt)(f g:De):De:=λd e=>(c d e).bind λb a=>.br b (f d a) (g d a)
noncomputable abbrev ZT(t:T)(f:Nat)(μ:aK):RE T:=match t with
 |.obj _ fs=>(match JT fs f with|some v=>.ok v μ|none=>.st)
 |.mut i=>λK _=>∃c fs v,μ[i]?=aA (.obj c fs)/\JT fs f=aA v/\K v μ
 |_=>.st
noncomputable abbrev ze(f:De)(n:Nat):De:=λb c=>(f b c).bind λt a=>ZT t n a
noncomputable def U6(n:Nat)(i:Int):Option Nat:=if 0<=i then (if i<n then aA i.toNat else aF) else if -(n:Int)<=i then aA (i+n).toNat else aF
noncomputable def vH {α:Type}(xs:List α)(i:Int):Option α:=(U6 xs.length i).bind λj=>xs[j]?
noncomputable abbrev Hg(t i:T)(μ:aK):RE T:=match i with
 |.int k=>(match t with
  |.lst a=>.som (vH a k) λv=>.ok v μ
  |.tup a=>.som (vH a k) λv=>.ok v μ
  |.mut j=>λK _=>∃a v,μ[j]?=aA (.lst a)/\vH a k=aA v/\K v μ
  |.str z=>.grd (z.length<=aZ) (.som (vH z.cps.toList k) λc=>.ok (.str ⟨#[c]⟩) μ)
  |_=>.st)
 |_=>.st
noncomputable abbrev bD(f g:De):De:=λc d=>(f c d).bind λx b=>(g c b).bind λy a=>Hg x y a
noncomputable def Uh(n d:Nat):Option Int->Nat
 |none=>d
 |some v=>if v<0 then (v+(n:Int)).toNat else min v.toNat n
noncomputable def yl {α:Type}(xs:List α)(lo hi:Option Int):List α:=(xs.drop (Uh xs.length 0 lo)).take (Uh xs.length xs.length hi-Uh xs.length 0 lo)
noncomputable abbrev Dp:=Sl->aK->RE (Option Int)
noncomputable abbrev pN:Dp:=λ_ a=>.ok aF a
noncomputable abbrev pS(f:De):Dp:=λb c=>(f b c).bind λt a=>match t with|.int i=>.ok (aA i) a|_=>.st
noncomputable abbrev Gx(x:T)(l h:Option Int)(μ:aK):RE T:=match x with
 |.lst a=>.ok (.lst (yl a l h)) μ
 |.tup a=>.ok (.tup (yl a l h)) μ
 |.str z=>.grd (z.length<=aZ) (.ok (.str (Txt.slice z l h)) μ)
 |.mut i=>λK _=>∃b,μ[i]?=aA (.lst b)/\K (.lst (yl b l h)) μ
 |_=>.st
noncomputable abbrev o3(f:De)(lo hi:Dp):De:=λa e=>(f a e).bind λx d=>(lo a d).bind λl c=>(hi a c).bind λh b=>Gx x l h b
noncomputable abbrev gF(fs:List De):Da:=gy (motive:=λ_=>Da) (λ_ c=>.ok [] c) (λf _ g d c=>(f d c).bind λt b=>(g d b).bind λe a=>.ok (t::e) a) fs
noncomputable abbrev Zs(fs:List De):De:=λb c=>(gF fs b c).bind λd a=>.ok (.lst d) a
noncomputable abbrev v5(fs:List De):De:=λb c=>(gF fs b c).bind λd a=>.ok (.tup d) a
noncomputable abbrev y7(fs:List De):De:=λb c=>(gF fs b c).bind λd a=>.ok (.mut a.length) (a++[.lst d])
noncomputable abbrev z9(g:Fn)(fs:List De):De:=λa b=>(gF fs a b).bind g
noncomputable abbrev VC(c:Nat)(g:Fn)(ts:List T)(μ:aK):RE T:=λK Z=>
 uV ts=aC/\g (.mut 0::ts) [.obj c []] (λr a=>r=.non/\∃fs,a[0]?=aA (.obj c fs)/\yJ fs=aC/\K (.obj c fs) μ) (λk fs _=>yJ fs=aC/\Z k fs μ)
noncomputable abbrev o4(c:Nat)(g:Fn)(fs:List De):De:=λa b=>(gF fs a b).bind (VC c g)
noncomputable abbrev oU(cs:List Nat)(x:T)(μ:aK):RE T:=match x with
 |.mut i=>.som μ[i]? λo=>.br (G8 o) .st (.ok (.bl (c9 (Ia o) cs)) μ)
 |x=>match Ib x μ with
  |some t=>.ok (.bl (c9 t cs)) μ
  |none=>.st
noncomputable abbrev yn(cs:List Nat)(f:De):De:=λa b=>(f a b).bind (oU cs)
noncomputable abbrev cS(op:T->aK->RE T)(f:De):De:=λa b=>(f a b).bind op
noncomputable abbrev kN(t:T)(μ:aK):RE T:=match t with
 |.lst a=>.ok (.int a.length) μ
 |.tup a=>.ok (.int a.length) μ
 |.str s=>.grd (s.length<=aZ) (.ok (.int s.length) μ)
 |.mut i=>λK _=>∃a,μ[i]?=aA (.lst a)/\K (.int a.length) μ
 |_=>.st
noncomputable abbrev ss(t:T)(μ:aK):RE T:=match t with
 |.int i=>.ok (.int i) μ
 |.bl b=>.ok (.int (if b then 1 else 0)) μ
 |_=>.st
noncomputable abbrev Jf(t:T)(μ:aK):RE T:=match t with
 |.lst a=>.ok (.lst a) μ
 |.tup a=>.ok (.lst a) μ
 |.mut i=>λK _=>∃a,μ[i]?=aA (.lst a)/\K (.lst a) μ
 |_=>.st
noncomputable def cT:List T->Option (List Bool)
 |[]=>aA []
 |.bl b::r=>(cT r).map (b::·)
 |_::_=>aF
noncomputable abbrev VH(t:T)(μ:aK):RE T:=match t with
 |.lst a=>.som (cT a) λbs=>.ok (.bl (bs.all id)) μ
 |_=>.st
noncomputable abbrev Vg(o f:De):De:=λd e=>(o d e).bind λg b=>match g with
 |.mut i=>λK Z=>(∃c,b[i]?=aA (.lst c))/\f d b (λt a=>∃c,a[i]?=aA (.lst c)/\c.length<aZ/\K .non (a.set i (.lst (c++[t])))) Z
 |_=>.st
noncomputable abbrev uH(z:aG):List T:=z.cps.toList.map λc=>T.str ⟨#[c]⟩
noncomputable abbrev Ox(t:T)(μ:aK):RI:=match t with
 |.lst a=>.ok a fY μ
 |.tup a=>.ok a fY μ
 |.str z=>.ok (uH z) fY μ
 |.mut i=>λK _=>∃a,μ[i]?=aA (.lst a)/\K a (iT i a) μ
 |_=>.st
noncomputable abbrev iE(f:De):Di:=λa b=>(f a b).it Ox
noncomputable def rangeT(n:Int):List T:=(gx n.toNat).map λ(i:Nat)=>T.int i
noncomputable def jD(a b c:Int):List T:=(gx (if a<b then (b-a-1) / c+1 else 0:Int).toNat).map λ(i:Nat)=>T.int (a+i*c)
noncomputable abbrev mF(a:Int):Prop := -1606938044258990275541962092341162602522202993782792835301376<=a/\a<1606938044258990275541962092341162602522202993782792835301376
noncomputable abbrev U4(f:De):Di:=λb c=>(f b c).it λt a=>match t with
 |.int n=>.grd (mF n) (.ok (rangeT n) fY a)
 |_=>.st
noncomputable abbrev JP(f g:De):Di:=λe h=>(f e h).it λx d=>(g e d).it λy c=>match x,y with
 |.int a,.int b=>.grd (mF a/\mF b) (.ok (jD a b 1) fY c)
 |_,_=>.st
inductive Tg where
 |one (i:Nat)|tup (is:List Nat)
noncomputable abbrev Vx(is:List Nat):List T->Sl->Option Sl:=gy (motive:=λ_=>List T->Sl->Option Sl) (λc a=>gy (motive:=λ_=>Option Sl) (aA a) (λ_ _ _=>aF) c) (λi _ d c a=>gy (motive:=λ_=>Option Sl) aF (λt b _=>d b (xM a i (aA t))) c) is
noncomputable abbrev ik:Tg->T->Sl->Option Sl
 |.one i,t,a=>aA (xM a i (aA t))
 |.tup c,.tup b,a=>Vx c b a
 |_,_,_=>aF
noncomputable def zR(tg:Tg)(g:Sl->aK->RE (Option T))(lv:aK->Prop)(τ:Sl):List T->aK->RE (List T)
 |[],d=>.ok [] d
 |x::r,d=>.som (ik tg x τ) λb=>(g b d).bind λo a=>.grd (lv a) (match o with
  |some y=>(zR tg g lv τ r a).bind λe c=>.ok (y::e) c
  |none=>zR tg g lv τ r a)
noncomputable abbrev u7(cs:List Dt)(f:De):Sl->aK->RE (Option T):=gy (motive:=λ_=>Sl->aK->RE (Option T)) (λd e=>(f d e).bind λy a=>.ok (aA y) a) (λc _ g d e=>(c d e).bind λb a=>.br b (g d a) (.ok aF a)) cs
noncomputable abbrev K3(is:List Nat)(τ:Sl):Sl:=gy (motive:=λ_=>Sl) [] (λi _ a=>V2 τ i::a) is
noncomputable abbrev g_(n:Nat)(fs:List Nat)(τ:Sl):Sl:=pq (motive:=λ_=>Sl) (K3 fs τ) (λ_ a=>aF::a) n
noncomputable abbrev qT(n:Nat)(fs:List Nat)(tg:Tg)(it:Di)(cs:List Dt)(f:De):De:=λc e=>(it c e).go λd o b=>.grd (d.length<=aZ) ((zR tg (u7 cs f) o (g_ n fs c) d b).bind λg a=>.ok (.lst g) a)
noncomputable abbrev kC(n:Nat)(fs:List Nat)(tg:Tg)(it:Di)(cs:List Dt)(f:De):De:=λc e=>(it c e).go λd o b=>.grd (d.length<=aZ) ((zR tg (u7 cs f) o (g_ n fs c) d b).bind λg a=>.ok (.mut a.length) (a++[.lst g]))
noncomputable abbrev zv(f:De):Ds:=λb c=>(f b c).out b λt a=>.rt t a
noncomputable abbrev BZ:Ds:=λ_ a=>.rt .non a
noncomputable abbrev zF(f:De):Ds:=λa c=>(f a c).out a λ_ b=>.nx a b
noncomputable abbrev qh(c:List Ds):Ds:=gy (motive:=λ_=>Ds) (λa b=>.nx a b) (λs _ d a b=>(s a b).seq d) c
noncomputable abbrev bW(c:Dt)(a b:List Ds):Ds:=λe f=>(c e f).out e λk d=>.br k (qh a e d) (qh b e d)
noncomputable abbrev zp(i:Nat)(f:De):Ds:=λa c=>(f a c).out a λt b=>.nx (xM a i (aA t)) b
noncomputable abbrev Bc(is:List Nat)(f:De):Ds:=λb d=>(f b d).out b λt c=>.som (ik (.tup is) t b) λa=>.nx a c
noncomputable abbrev zK(o:De)(n:Nat)(f:De):Ds:=λa e=>(f a e).out a λt d=>(o a d).out a λg b=>match g with
 |.mut i=>λE=>∃c fs,b[i]?=aA (.obj c fs)/\fs.length<900/\E.nx a (b.set i (.obj c (YN n t fs)))
 |_=>.st
noncomputable abbrev FD(o b f:De):Ds:=λa h=>(f a h).out a λt e=>(o a e).out a λj d=>(b a d).out a λit c=>match j,it with
 |.mut i,.int k=>λE=>∃g,c[i]?=aA (.lst g)/\(0<=k/\k<g.length/\k<9223372036854775808)/\E.nx a (c.set i (.lst (g.set k.toNat t)))
 |_,_=>.st
noncomputable def f6(tg:Tg)(body:Ds)(lv:aK->Prop):List T->Ds
 |[],d,e=>.nx d e
 |x::r,d,e=>.som (ik tg x d) λc=>λE=>body c e (E.turn λb a=>lv a/\f6 tg body lv r b a E)
noncomputable abbrev jA(tg:Tg)(it:Di)(body:List Ds):Ds:=λa c=>(it a c).out a λd o b=>f6 tg (qh body) o d a b
noncomputable def Wv(c:Dt)(body:List Ds):Ds:=λd e E=>∃I:Nat->Sl->aK->Prop,(∃n,I n d e)/\∀n d e,I n d e->
 c d e (λb a=>iF b (qh body d a (E.turn λf g=>∃m,m<n/\I m f g)) (E.nx d a)) (λk fs a=>E.ex k fs d a)
noncomputable abbrev zM(c:Nat)(fs:List De):Ds:=λa d=>(gF fs a d).out a λe b=>.grd (e.length<=aZ) (.ex c [] a b)
noncomputable abbrev u9(c f:Nat)(g:De):Ds:=λa d=>(g a d).out a λt b=>match t with
 |.int i=>.grd (i.natAbs.log2<1920) (.ex c [(f,.int i)] a b)
 |_=>.st
noncomputable abbrev FQ(i:Option Nat)(v:List Ds)(k:Nat)(fs:List (Nat×T))(τ:Sl)(μ:aK):cK:=λE=>match i with
 |some j=>qh v (xM τ j (aA (.exc k fs))) μ {nx:=λa b=>E.nx (xM a j aF) b,rt:=E.rt,bk:=λ_ _=>False,ct:=λ_ _=>False,ex:=λ_ _ _ _=>False}
 |none=>qh v τ μ {nx:=E.nx,rt:=E.rt,bk:=λ_ _=>False,ct:=λ_ _=>False,ex:=λ_ _ _ _=>False}
noncomputable abbrev rT(hs:List (List Nat×Option Nat×List Ds)):Nat->List (Nat×T)->Sl->aK->cK:=gy (motive:=λ_=>Nat->List (Nat×T)->Sl->aK->cK) (λk fs a b=>.ex k fs a b) (λp _ c k fs a b=>.br (c9 k p.1) (FQ p.2.1 p.2.2 k fs a b) (c k fs a b)) hs
noncomputable abbrev AG(b:List Ds)(hs:List (List Nat×Option Nat×List Ds)):Ds:=λd e E=>qh b d e (E.tri λk fs a c=>rT hs k fs a c E)
noncomputable abbrev Cq(n:Nat):Sl:=pq (motive:=λ_=>Sl) [] (λ_ a=>aF::a) n
noncomputable abbrev sk(ts:List T)(n:Nat):Sl:=gy (motive:=λ_=>Sl) (Cq n) (λt _ a=>aA t::a) ts
noncomputable abbrev bM(n m:Nat)(body:List Ds):Fn:=λa b K Z=>a.length=n/\qh body (sk a m) b (En.fn K Z)
end NH
namespace NH
open PySem PySem.Spec PyProof.Rows L2
section
structure DP where
 K:bK
 adr:Nat->Option aE
 cad:Nat->Option aE
 fn:Nat->Option aG
 inj:∀i j x,fn i=aA x->fn j=aA x->i=j
 clo:Nat->aE->Option HO->List V->Prop
 tabs:Nat->Option (aE×List Pos×aG)
noncomputable def Bl (a C:aE)(d:Option aE):aR->Prop:=λh=>∃b c,h.get? a=aA b/\b.cls=.ref C/\b.data=.fields c/\b.dict=d
noncomputable def UV(x:Int×Int):Int:=reduceHash (Li [hashInt x.1,hashInt x.2])
noncomputable def Hk(a:aE)(xs:List ((Int×Int)×aE)):aR->Prop:=λh=>∃o es ep,h.get? a=aA o/\o.ExactDict/\o.data=.dict es ep/\es.toList=xs.map λx=>(⟨UV x.1,.ref x.2,.bool aC⟩:pD)
noncomputable def qE(c:aE)(qn:aG):aR->Prop:=λh=>h.CodeRec (.ref c) qn
inductive DMu(α:List aE)(i:Nat)(v:V):Prop|mk (a:aE) (h:α[i]?=aA a) (e:v=.ref a)
inductive IH(φ α:List aE)(H:Hp)(c:List V->HO)(L:List V->Prop)(v:V):Prop|mk (a:aE) (xs:List V) (e:v=.ref a) (n1:a∉φ) (n2:a∉α) (r:Rd H a (c xs)) (l:L xs)
inductive DOb(φ α:List aE)(H:Hp)(ca:Option aE)(L:List (aG×V)->Prop)(v:V):Prop|mk (a C dx:aE) (gs:List (aG×V)) (e:v=.ref a) (n1:a∉φ) (n2:a∉α) (ad:ca=aA C) (q:H a=aA (.ins C dx gs)) (l:L gs)
inductive DEx(φ α:List aE)(H:Hp)(ca:Option aE)(L:Option aE->Prop)(v:V):Prop|mk (a C:aE) (d:Option aE) (e:v=.ref a) (n1:a∉φ) (n2:a∉α) (ad:ca=aA C) (q:H a=aA (.ext (Bl a C d))) (l:L d)
inductive DDi(φ α:List aE)(H:Hp)(L:List (Key×V)->Prop)(v:V):Prop|mk (a:aE) (gs:List (Key×V)) (e:v=.ref a) (n1:a∉φ) (n2:a∉α) (q:H a=aA (.dK gs)) (l:L gs)
inductive DCl(φ α:List aE)(H:Hp)(c:aE->Option HO->List V->Prop)(L:List V->Prop)(v:V):Prop|mk (a:aE) (ob:Option HO) (xs:List V) (e:v=.ref a) (h:c a ob xs) (o:∀o,ob=aA o->a∉φ/\a∉α/\H a=aA o) (l:L xs)
inductive DCo(P:V->Prop)(L:List V->Prop)(vs:List V):Prop|mk (v:V) (r:List V) (e:vs=v::r) (d:P v) (l:L r)
inductive DCf(x:Option aG)(P:V->Prop)(L:List (aG×V)->Prop)(vs:List (aG×V)):Prop|mk (y:aG) (v:V) (r:List (aG×V)) (h:x=aA y) (e:vs=(y,v)::r) (d:P v) (l:L r)
inductive DCk(k:Key)(P:V->Prop)(L:List (Key×V)->Prop)(vs:List (Key×V)):Prop|mk (v:V) (r:List (Key×V)) (e:vs=(k,v)::r) (d:P v) (l:L r)
inductive IG(φ α:List aE)(H:Hp)(dx:aE)(L:List (aG×V)->Prop):Prop|mk (gs:List (aG×V)) (n1:dx∉φ) (n2:dx∉α) (q:H dx=aA (.xd gs)) (l:L gs)
mutual
def a_ (D:DP)(φ α:List aE)(H:Hp):T->V->Prop
 |.non,v=>v=.non
 |.bl b,v=>v=.bl b
 |.int i,v=>v=.int i
 |.str x,v=>v=.str x
 |.mut i,v=>DMu α i v
 |.tup a,v=>IH φ α H .tup (aN D φ α H a) v
 |.lst a,v=>IH φ α H .lst (aN D φ α H a) v
 |.obj c fs,v=>DOb φ α H (D.cad c) (bL D φ α H fs) v
 |.exc c fs,v=>DEx φ α H (D.adr c) (λd=>match d with
  |none=>fs=[]
  |some dx=>IG φ α H dx (bL D φ α H fs)) v
 |.dic e,v=>DDi φ α H (bI D φ α H e) v
 |.clo j cs,v=>DCl φ α H (D.clo j) (aN D φ α H cs) v
def aN (D:DP)(φ α:List aE)(H:Hp):List T->List V->Prop
 |[],a=>a=[]
 |t::b,a=>DCo (a_ D φ α H t) (aN D φ α H b) a
def bL (D:DP)(φ α:List aE)(H:Hp):List (Nat×T)->List (aG×V)->Prop
 |[],a=>a=[]
 |p::fs,a=>DCf (D.fn p.1) (a_ D φ α H p.2) (bL D φ α H fs) a
def bI (D:DP)(φ α:List aE)(H:Hp):List (Key×T)->List (Key×V)->Prop
 |[],a=>a=[]
 |p::fs,a=>DCk p.1 (a_ D φ α H p.2) (bI D φ α H fs) a
end
noncomputable def CH (fs:List (Nat×T))(C:aE):aB:=if fs.length<=1 then .ref C else .int (C:Int) 0
theorem PD:stC (CH fs C)=.ref C:=by
 unfold CH;split
 ·rfl
 ·show cO (Int.toNat (C:Int))=_;rw[Int.toNat_natCast]
noncomputable def o6(c:Nat):Option String:=if c=8 then aA "KeyError" else if c=9 then aA "ZeroDivisionError" else aF
inductive iZ(D:DP)(c:Nat)(fs:List (Nat×T))(cv:aB):Prop where
 |own (C:aE) (ad:D.adr c=aA C) (e:cv=CH fs C)
 |blt (n:String) (h:o6 c=aA n) (hn:D.adr c=aF) (e:cv=.type n)
noncomputable def bX(D:DP)(φ α:List aE)(H:Hp)(fs:List (Nat×T)):Option aE->Prop
 |none=>fs=[]
 |some dx=>IG φ α H dx (bL D φ α H fs)
inductive OLs(H:Hp)(a:aE)(L:List V->Prop):Prop|mk (xs:List V) (q:H a=aA (.lst xs)) (l:L xs)
inductive OOb(H:Hp)(a:aE)(ca:Option aE)(L:List (aG×V)->Prop):Prop|mk (C dx:aE) (gs:List (aG×V)) (ad:ca=aA C) (q:H a=aA (.ins C dx gs)) (l:L gs)
inductive ODi(H:Hp)(a:aE)(L:List (Key×V)->Prop):Prop|mk (gs:List (Key×V)) (q:H a=aA (.dK gs)) (l:L gs)
inductive OTb(D:DP)(φ α:List aE)(H:Hp)(j:Nat)(a:aE):Prop|mk (poss:List Pos) (qn:aG) (ps:Array aB) (h1:D.tabs j=aA (a,poss,qn)) (h2:H a=aA (.tbl ps)) (h3:TriplesOk ps.toList) (h4:∀pos∈poss,codeAmong pos ps.toList=aF\/∃c,codeAmong pos ps.toList=aA (.ref c)/\c∉φ/\c∉α/\H c=aA (.ext (qE c qn)))
inductive ODc(φ α:List aE)(H:Hp)(ks:List (Int×Int))(a:aE):Prop|mk (xs:List ((Int×Int)×aE)) (h1:ks=xs.map (·.1)) (h2:ks.Nodup) (h3:ks.length<=100000) (h4:(a==sysModules)=aD) (h5:H a=aA (.ext (Hk a xs))) (h6:∀x∈xs,x.2∉φ/\x.2∉α/\Rd H x.2 (.tup [.int x.1.1,.int x.1.2]))
inductive OFr(H:Hp)(a:aE)(ep:Nat)(L:List (Key×V)->Prop):Prop|mk (gs:List (Key×V)) (q:H a=aA (.dE ep gs)) (l:L gs)
noncomputable def d7 (D:DP)(φ α:List aE)(H:Hp):MO->aE->Prop
 |.lst d,a=>OLs H a (aN D φ α H d)
 |.obj c fs,a=>OOb H a (D.cad c) (bL D φ α H fs)
 |.dic b,a=>ODi H a (bI D φ α H b)
 |.tab j,a=>OTb D φ α H j a
 |.dct e,a=>ODc φ α H e a
 |.frd ep b,a=>OFr H a ep (bI D φ α H b)
structure aP(α:List aE)(H:Hp)(α':List aE)(H':Hp):Prop where
 ext:∃β,α'=α++β/\∀b∈β,H b=aF
 keep:∀b o,b∉α->H b=aA o->H' b=aA o
 live:∀b,H' b=aF->H b=aF
theorem aP.refl(α:List aE)(H:Hp):aP α H α H:=⟨⟨[],by simp,by simp⟩,λ_ _ _ e=>e,λ_ e=>e⟩
theorem aP.trans(a:aP α H j s)(b:aP j s g r):aP α H g r:=by
 obtain⟨β,rfl,d⟩:=a.ext;obtain⟨i,rfl,f⟩:=b.ext;refine⟨⟨β++i,by simp,λc k=>?_⟩,λc o n e=>?_,λc e=>a.live c (b.live c e)⟩
 ·rcases b_.mp k with h|h
  ·exact d c h
  ·exact a.live c (f c h)
 ·refine b.keep c o (λh=>?_) (a.keep c o n e);rcases b_.mp h with h|h
  ·exact n h
  ·rw[d c h] at e;cases e
theorem aP.new(s:ju H d):aP α H α d:=⟨⟨[],by simp,by simp⟩,λb o _ e=>s b o e,λb e=>by
 cases q:H b with
 |none=>rfl
 |some o=>rw[s b o q] at e;cases e⟩
theorem za(h:H p=aF):ju H (upd H p o):=λb u e=>by rw[z8 (zN e h)];exact e
theorem aP.out(s:aP α H d g)(n:a∉α)(e:H a=aA o):a∉d:=by
 obtain⟨β,rfl,b⟩:=s.ext;intro h;rcases b_.mp h with h|h
 ·exact n h
 ·rw[b a h] at e;cases e
section
variable {D:DP}{φ φ' α α':List aE}{H H':Hp}
structure Lk(φ α:List aE)(H:Hp)(φ' α':List aE)(H':Hp):Prop where
 ob:∀a o,a∉φ->a∉α->H a=aA o->a∉φ'/\a∉α'/\H' a=aA o
 st:∀(i:Nat) (a:aE),α[i]?=aA a->α'[i]?=aA a
mutual
theorem a_.lk(h:Lk φ α H φ' α' H'):∀{t:T} {v:V},a_ D φ α H t v->a_ D φ' α' H' t v
 |.non,_,d=>d
 |.bl _,_,d=>d
 |.int _,_,d=>d
 |.str _,_,d=>d
 |.mut i,_,d=>by obtain⟨a,e,q⟩:=d;exact⟨a,h.st i a e,q⟩
 |.tup ts,_,d=>by
  obtain⟨a,xs,rfl,n1,n2,r,l⟩:=d;rcases r with r|⟨o,r⟩
  ·obtain⟨f,b,e⟩:=h.ob a _ n1 n2 r;exact⟨a,xs,rfl,f,b,.inl e,aN.lk h l⟩
  ·obtain⟨f,b,e⟩:=h.ob a _ n1 n2 r;exact⟨a,xs,rfl,f,b,.inr ⟨o,e⟩,aN.lk h l⟩
 |.lst ts,_,d=>by
  obtain⟨a,xs,rfl,n1,n2,r,l⟩:=d;rcases r with r|⟨o,r⟩
  ·obtain⟨f,b,e⟩:=h.ob a _ n1 n2 r;exact⟨a,xs,rfl,f,b,.inl e,aN.lk h l⟩
  ·obtain⟨f,b,e⟩:=h.ob a _ n1 n2 r;exact⟨a,xs,rfl,f,b,.inr ⟨o,e⟩,aN.lk h l⟩
 |.obj c fs,_,d=>by
  obtain⟨a,C,dx,g,rfl,n1,n2,ad,e,l⟩:=d;obtain⟨f,b,e⟩:=h.ob a _ n1 n2 e;exact⟨a,C,dx,g,rfl,f,b,ad,e,bL.lk h l⟩
 |.exc c fs,_,d=>by
  obtain⟨a,C,d,rfl,n1,n2,ad,e,l⟩:=d;obtain⟨f,b,e⟩:=h.ob a _ n1 n2 e;refine⟨a,C,d,rfl,f,b,ad,e,?_⟩;cases d with
  |none=>exact l
  |some dx=>
   obtain⟨g,k1,k2,k,l⟩:=l;obtain⟨k1,k2,k⟩:=h.ob dx _ k1 k2 k;exact⟨g,k1,k2,k,bL.lk h l⟩
 |.dic m,_,d=>by
  obtain⟨a,g,rfl,n1,n2,e,l⟩:=d;obtain⟨f,b,e⟩:=h.ob a _ n1 n2 e;exact⟨a,g,rfl,f,b,e,bI.lk h l⟩
 |.clo j cs,_,d=>by
  obtain⟨a,ob,xs,rfl,c,e,l⟩:=d;exact⟨a,ob,xs,rfl,c,λo z=>let ⟨n1,n2,q⟩:=e o z;h.ob a o n1 n2 q,aN.lk h l⟩
theorem aN.lk(h:Lk φ α H φ' α' H'):∀{ts:List T} {vs:List V},aN D φ α H ts vs->aN D φ' α' H' ts vs
 |[],_,l=>l
 |t::ts,_,l=>by
  obtain⟨v,r,rfl,a,b⟩:=l;exact⟨v,r,rfl,a_.lk h a,aN.lk h b⟩
theorem bL.lk(h:Lk φ α H φ' α' H'):∀{fs:List (Nat×T)} {c:List (aG×V)},bL D φ α H fs c->bL D φ' α' H' fs c
 |[],_,l=>l
 |p::fs,_,l=>by
  obtain⟨x,v,r,e,rfl,a,b⟩:=l;exact⟨x,v,r,e,rfl,a_.lk h a,bL.lk h b⟩
theorem bI.lk(h:Lk φ α H φ' α' H'):∀{fs:List (Key×T)} {c:List (Key×V)},bI D φ α H fs c->bI D φ' α' H' fs c
 |[],_,l=>l
 |p::fs,_,l=>by
  obtain⟨v,r,rfl,a,b⟩:=l;exact⟨v,r,rfl,a_.lk h a,bI.lk h b⟩
end
theorem aP.lk(s:aP α H α' H'):Lk φ α H φ α' H':=⟨λa o n1 n2 e=>⟨n1,s.out n2 e,s.keep a o n2 e⟩,λi a e=>by
 obtain⟨β,rfl,_⟩:=s.ext;rw[eN (bH.mp e).1];exact e⟩
theorem a_.step(s:aP α H α' H')(d:a_ D φ α H t v):a_ D φ α' H' t v:=d.lk s.lk
theorem aN.step(s:aP α H α' H')(d:aN D φ α H t v):aN D φ α' H' t v:=d.lk s.lk
theorem bL.step(s:aP α H α' H')(d:bL D φ α H t v):bL D φ α' H' t v:=d.lk s.lk
theorem bI.step(s:aP α H α' H')(d:bI D φ α H t v):bI D φ α' H' t v:=d.lk s.lk
theorem bX.lk(h:Lk φ α H φ' α' H')(x:bX D φ α H fs d):bX D φ' α' H' fs d:=by
 cases d with
 |none=>exact x
 |some dx=>
  obtain⟨b,k1,k2,a,l⟩:=x;obtain⟨k1,k2,a⟩:=h.ob dx _ k1 k2 a;exact⟨b,k1,k2,a,bL.lk h l⟩
mutual
theorem a_.hide:∀{t:T} {v:V},jw t=aC->a_ D φ α H t v->(∀a,a∉φ->a∉α->a∉φ'/\a∉β)->a_ D φ' β H t v
 |.non,_,_,h,_=>h
 |.bl _,_,_,h,_=>h
 |.int _,_,_,h,_=>h
 |.str _,_,_,h,_=>h
 |.mut i,_,p,_,_=>by simp[jw] at p
 |.tup ts,_,p,h,k=>by
  obtain⟨a,xs,rfl,n1,n2,r,l⟩:=h;exact⟨a,xs,rfl,(k a n1 n2).1,(k a n1 n2).2,r,aN.hide (by simpa[jw] using p) l k⟩
 |.lst ts,_,p,h,k=>by
  obtain⟨a,xs,rfl,n1,n2,r,l⟩:=h;exact⟨a,xs,rfl,(k a n1 n2).1,(k a n1 n2).2,r,aN.hide (by simpa[jw] using p) l k⟩
 |.obj c fs,_,p,h,k=>by
  obtain⟨a,C,dx,b,rfl,n1,n2,ad,e,l⟩:=h;exact⟨a,C,dx,b,rfl,(k a n1 n2).1,(k a n1 n2).2,ad,e,bL.hide (by simpa[jw] using p) l k⟩
 |.exc c fs,_,p,h,k=>by
  obtain⟨a,C,d,rfl,n1,n2,ad,e,l⟩:=h;refine⟨a,C,d,rfl,(k a n1 n2).1,(k a n1 n2).2,ad,e,?_⟩;cases d with
  |none=>exact l
  |some dx=>
   obtain⟨b,k1,k2,g,l⟩:=l;exact⟨b,(k dx k1 k2).1,(k dx k1 k2).2,g,bL.hide (by simpa[jw] using p) l k⟩
 |.dic f,_,p,h,k=>by
  obtain⟨a,b,rfl,n1,n2,e,l⟩:=h;exact⟨a,b,rfl,(k a n1 n2).1,(k a n1 n2).2,e,bI.hide (by simpa[jw] using p) l k⟩
 |.clo j cs,_,p,h,k=>by
  obtain⟨a,ob,xs,rfl,c,e,l⟩:=h;exact⟨a,ob,xs,rfl,c,λo z=>let ⟨n1,n2,q⟩:=e o z;⟨(k a n1 n2).1,(k a n1 n2).2,q⟩,aN.hide (by simpa[jw] using p) l k⟩
theorem aN.hide:∀{ts:List T} {vs:List V},uV ts=aC->aN D φ α H ts vs->(∀a,a∉φ->a∉α->a∉φ'/\a∉β)->aN D φ' β H ts vs
 |[],_,_,h,_=>h
 |t::ts,_,p,h,k=>by
  obtain⟨v,r,rfl,a,b⟩:=h;simp only[uV,cI] at p;exact⟨v,r,rfl,a_.hide p.1 a k,aN.hide p.2 b k⟩
theorem bL.hide:∀{fs:List (Nat×T)} {c:List (aG×V)},yJ fs=aC->bL D φ α H fs c->(∀a,a∉φ->a∉α->a∉φ'/\a∉β)->bL D φ' β H fs c
 |[],_,_,h,_=>h
 |q::fs,_,p,h,k=>by
  obtain⟨x,v,r,e,rfl,a,b⟩:=h;simp only[yJ,cI] at p;exact⟨x,v,r,e,rfl,a_.hide p.1 a k,bL.hide p.2 b k⟩
theorem bI.hide:∀{fs:List (Key×T)} {c:List (Key×V)},Xo fs=aC->bI D φ α H fs c->(∀a,a∉φ->a∉α->a∉φ'/\a∉β)->bI D φ' β H fs c
 |[],_,_,h,_=>h
 |q::fs,_,p,h,k=>by
  obtain⟨v,r,rfl,a,b⟩:=h;simp only[Xo,cI] at p;exact⟨v,r,rfl,a_.hide p.1 a k,bI.hide p.2 b k⟩
end
theorem bX.hide(p:yJ fs=aC)(x:bX D φ α H fs d)(k:∀a,a∉φ->a∉α->a∉φ'/\a∉β):bX D φ' β H fs d:=by
 cases d with
 |none=>exact x
 |some dx=>
  obtain⟨b,k1,k2,c,l⟩:=x;exact⟨b,(k dx k1 k2).1,(k dx k1 k2).2,c,bL.hide p l k⟩
theorem Rm:∀a:aE,a∉φ->a∉α->a∉φ++α/\a∉([]:List aE):=λa c b=>⟨λz=>(b_.mp z).elim c b,by simp⟩
theorem VU{β:List aE}:∀a:aE,a∉φ++α->a∉β->a∉φ/\a∉α:=λa b _=>⟨λz=>b (d_ _ z),λz=>b (dF _ z)⟩
theorem aN.length:∀{ts:List T} {vs:List V},aN D φ α H ts vs->ts.length=vs.length
 |[],_,h=>by have:_=[]:=h;subst this;rfl
 |t::ts,_,h=>by
  obtain⟨v,r,rfl,_,b⟩:=h;simp[aN.length b]
theorem aN.get:∀{ts:List T} {vs:List V} {i:Nat} {t:T},aN D φ α H ts vs->ts[i]?=aA t->∃v,vs[i]?=aA v/\a_ D φ α H t v
 |[],_,_,_,_,e=>by simp at e
 |t::ts,_,0,_,h,e=>by
  obtain⟨v,r,rfl,a,b⟩:=h;simp at e;subst e;exact⟨v,rfl,a⟩
 |t::ts,_,i+1,u,h,e=>by
  obtain⟨v,r,rfl,a,b⟩:=h;obtain⟨w,c,d⟩:=aN.get (i:=i) (t:=u) b (by simpa using e);exact⟨w,by simpa using c,d⟩
theorem aN.append:∀{ts us:List T} {vs c:List V},aN D φ α H ts vs->aN D φ α H us c->aN D φ α H (ts++us) (vs++c)
 |[],us,_,c,h,k=>by have:_=[]:=h;subst this;exact k
 |t::ts,us,_,c,h,k=>by
  obtain⟨v,r,rfl,a,b⟩:=h;exact⟨v,r++c,rfl,a,aN.append b k⟩
theorem aN.drop:∀(n:Nat) {ts:List T} {vs:List V},aN D φ α H ts vs->aN D φ α H (ts.drop n) (vs.drop n)
 |0,_,_,h=>h
 |n+1,[],_,h=>by have:_=[]:=h;subst this;exact rfl
 |n+1,t::ts,_,h=>by
  obtain⟨v,r,rfl,a,b⟩:=h;exact aN.drop n b
theorem aN.take:∀(n:Nat) {ts:List T} {vs:List V},aN D φ α H ts vs->aN D φ α H (ts.take n) (vs.take n)
 |0,_,_,h=>by simp[aN]
 |n+1,[],_,h=>by have:_=[]:=h;subst this;exact rfl
 |n+1,t::ts,_,h=>by
  obtain⟨v,r,rfl,a,b⟩:=h;exact⟨v,r.take n,rfl,a,aN.take n b⟩
theorem aN.set:∀{ts:List T} {vs:List V} {i:Nat} {t:T} {v:V},aN D φ α H ts vs->a_ D φ α H t v->aN D φ α H (ts.set i t) (vs.set i v)
 |[],vs,i,t,v,l,d=>by have l:vs=[]:=l;subst l;exact rfl
 |x::ts,_,0,t,v,l,d=>by
  obtain⟨w,r,rfl,dw,l⟩:=l;exact⟨v,r,rfl,d,l⟩
 |x::ts,_,i+1,t,v,l,d=>by
  obtain⟨w,r,rfl,dw,l⟩:=l;exact⟨w,r.set i v,rfl,dw,aN.set l d⟩
theorem bL.look:∀{fs:List (Nat×T)} {c:List (aG×V)} {f:Nat} {t:T},bL D φ α H fs c->JT fs f=aA t->∃x v,D.fn f=aA x/\c.lookup x=aA v/\a_ D φ α H t v
 |[],_,_,_,_,e=>by simp[JT] at e
 |p::fs,_,f,t,h,e=>by
  obtain⟨x,v,r,ex,rfl,a,b⟩:=h;rw[YF] at e;cases q:fO p.1 f with
  |true=>
   have d:=wE q;rw[q] at e;have e:aA p.2=aA t:=e;cases e;exact⟨x,v,by rw[←d];exact ex,by simp[gm],a⟩
  |false=>
   rw[q] at e;obtain⟨y,w,h1,h2,g⟩:=bL.look b e;refine⟨y,w,h1,?_,g⟩;rw[gm];have ne:(y==x)=aD:=by
    refine beq_eq_false_iff_ne.mpr λz=>?_;subst z;have:=D.inj _ _ _ ex h1;rw[this] at q;simp at q
   rw[ne];exact h2
theorem bL.put(b:D.fn f=aA x):∀{fs:List (Nat×T)} {a:List (aG×V)},bL D φ α H fs a->a_ D φ α H t w->bL D φ α H (YN f t fs) (vw x w a)
 |[],a,h,d=>by
  have:a=[]:=h;subst this;exact⟨x,w,[],b,rfl,d,rfl⟩
 |p::fs,a,h,d=>by
  obtain⟨z,y,r,ez,rfl,dy,l⟩:=h;rw[YT];show bL D φ α H _ (if z=x then (z,w)::r else (z,y)::vw x w r);cases q:fO p.1 f with
  |true=>
   have c:=wE q;have:z=x:=by rw[c,b] at ez;exact (bT ez).symm
   rw[if_pos this];exact⟨z,w,r,ez,rfl,d,l⟩
  |false=>
   have:z≠x:=λe=>by
    subst e;have:=D.inj _ _ _ ez b;rw[this] at q;simp at q
   rw[if_neg this];exact⟨z,y,vw x w r,ez,rfl,dy,bL.put b l d⟩
theorem bL.length:∀{fs:List (Nat×T)} {a:List (aG×V)},bL D φ α H fs a->fs.length=a.length
 |[],_,h=>by have:_=[]:=h;subst this;rfl
 |p::fs,_,h=>by
  obtain⟨x,v,r,_,rfl,_,b⟩:=h;simp[bL.length b]
noncomputable def sx:HO->Bool
 |.frz _ _=>aD
 |_=>aC
structure aM(D:DP)(φ α:List aE)(H:Hp)(μ:aK):Prop where
 len:α.length=μ.length
 nd:α.Nodup
 dis:∀b∈α,b∉φ
 phi:∀b∈φ,∃o,H b=aA o/\sx o=aC
 ob:∀(i:Nat) (a:aE) (o:MO),α[i]?=aA a->μ[i]?=aA o->d7 D φ α H o a
theorem d7.lk(s:Lk φ α H φ' α' H')(e:H' a=H a)(h:d7 D φ α H o a):d7 D φ' α' H' o a:=by
 cases o with
 |lst ts=>
  obtain⟨xs,q,l⟩:=h;exact⟨xs,e.trans q,aN.lk s l⟩
 |obj c fs=>
  obtain⟨C,dx,v,ad,q,l⟩:=h;exact⟨C,dx,v,ad,e.trans q,bL.lk s l⟩
 |dic g=>
  obtain⟨xs,q,l⟩:=h;exact⟨xs,e.trans q,bI.lk s l⟩
 |tab j=>
  obtain⟨pos,qn,ps,h1,h2,k,i⟩:=h;refine⟨pos,qn,ps,h1,e.trans h2,k,λp r=>(i p r).imp id λ⟨c,k1,k2,k3,m⟩=>?_⟩;obtain⟨f,d,b⟩:=s.ob c _ k2 k3 m;exact⟨c,k1,f,d,b⟩
 |frd ep g=>
  obtain⟨xs,q,l⟩:=h;exact⟨xs,e.trans q,bI.lk s l⟩
 |dct ks=>
  obtain⟨xs,h1,h2,k,i,u,t⟩:=h;refine⟨xs,h1,h2,k,i,e.trans u,λx n=>?_⟩;obtain⟨k1,k2,k3⟩:=t x n;rcases k3 with k3|⟨o,k3⟩
  ·obtain⟨f,d,b⟩:=s.ob _ _ k1 k2 k3;exact⟨f,d,.inl b⟩
  ·obtain⟨f,d,b⟩:=s.ob _ _ k1 k2 k3;exact⟨f,d,.inr ⟨o,b⟩⟩
theorem d7.step(s:aP α H α' H')(e:H' a=H a)(h:d7 D φ α H o a):d7 D φ α' H' o a:=h.lk s.lk e
theorem d7.some(h:d7 D φ α H o a):∃u,H a=Option.some u/\sx u=aC:=by
 cases o with
 |lst ts=>obtain⟨xs,q,_⟩:=h;exact⟨_,q,rfl⟩
 |obj c fs=>obtain⟨C,dx,d,_,q,_⟩:=h;exact⟨_,q,rfl⟩
 |dic ts=>obtain⟨xs,q,_⟩:=h;exact⟨_,q,rfl⟩
 |tab j=>obtain⟨_,_,ps,_,q,_⟩:=h;exact⟨_,q,rfl⟩
 |dct ks=>obtain⟨_,_,_,_,_,q,_⟩:=h;exact⟨_,q,rfl⟩
 |frd ep b=>obtain⟨xs,q,_⟩:=h;exact⟨_,q,rfl⟩
theorem aM.new(m:aM D φ α H μ)(s:ju H H'):aM D φ α H' μ:=
 ⟨m.len,m.nd,m.dis,λb c=>let ⟨o,e,n⟩:=m.phi b c;⟨o,s b o e,n⟩,λi a o g f=>by
  have d:=m.ob i a o g f;obtain⟨u,q,_⟩:=d.some;exact d.step (aP.new s) ((s _ _ q).trans q.symm)⟩
theorem aM.lk(h:Lk φ α H φ' α H')(c:∀a∈α,H' a=H a/\a∉φ')(d:∀b∈φ',∃o,H' b=aA o/\sx o=aC)(m:aM D φ α H μ):aM D φ' α H' μ:=
 ⟨m.len,m.nd,λb f=>(c b f).2,d,λi a o e g=>(m.ob i a o e g).lk h (c a (cD e)).1⟩
structure bA(D:DP)(φ α:List aE)(H:Hp)(τ:Sl)(σ:St):Prop where
 len:τ.length=σ.length
 val:∀(i:Nat) (t:T),τ[i]?=aA (aA t)->∃v,σ[i]?=aA (aA v)/\a_ D φ α H t v
theorem bA.lk(r:bA D φ α H τ g)(s:Lk φ α H φ' α' H'):bA D φ' α' H' τ g:=⟨r.len,λi t e=>by
 obtain⟨v,q,d⟩:=r.val i t e;exact⟨v,q,d.lk s⟩⟩
theorem bA.step(r:bA D φ α H τ d)(s:aP α H α' H'):bA D φ α' H' τ d:=r.lk s.lk
theorem bA.set(r:bA D φ α H τ g)(d:a_ D φ α H t v):bA D φ α H (xM τ i (aA t)) (g.set i (aA v)):=by
 rw[V0];refine⟨by simp[r.len],λj u e=>?_⟩;by_cases h:i=j
 ·subst h;rw[List.getElem?_set_self'] at e;cases q:τ[i]? with
  |none=>rw[q] at e;cases e
  |some o=>
   rw[q] at e;simp at e;subst e;have a:i<g.length:=by rw[←r.len];exact (bH.mp q).1
   exact⟨v,by simp[a],d⟩
 ·rw[cP h] at e ⊢;exact r.val j u e
theorem bA.get(r:bA D φ α H τ d)(e:V2 τ i=aA t):∃v,d[i]?=aA (aA v)/\a_ D φ α H t v:=r.val i t (WV.mp e)
end
theorem xZ(f:H b=aF):Lk φ α H (φ++[b]) α H:=by
 refine⟨λa o d c e=>⟨λz=>?_,c,e⟩,λ_ _ e=>e⟩;rcases b_.mp z with z|z
 ·exact d z
 ·rw[bU.mp z,f] at e;cases e
theorem Vr(h:H b=aF)(s:ju H j):Lk φ α H (φ++[b]) α j:=⟨λa o g f e=>let ⟨d,c,i⟩:=(xZ h).ob a o g f e;⟨d,c,s a o e⟩,λ_ _ e=>e⟩
theorem vA:Lk (φ++[b]) α H φ α H:=⟨λa o d c e=>⟨λz=>d (d_ _ z),c,e⟩,λ_ _ e=>e⟩
theorem ZH(f:b∈φ):Lk φ α H φ α (upd H b u):=⟨λa o c d e=>⟨c,d,by rw[z8 (λz:a=b=>c (by rw[z];exact f))];exact e⟩,λ_ _ e=>e⟩
end
inductive aJ(D:DP)(W:XW)(φ α:List aE)(H:Hp)(σ:St){β:Type}(R:β->aK->List aE->Hp->Prop)(r:RE β):Prop where
 |mk (K:β->aK->Prop) (Z:Xp) (q:r K Z) (h:(∀a μ',K a μ'->∀α' H',aP α H α' H'->aM D φ α' H' μ'->R a μ' α' H')/\
  ∀c fs μ',Z c fs μ'->∀α' H' cv d,aP α H α' H'->aM D φ α' H' μ'->iZ D c fs cv->bX D φ α' H' fs d->W cv d σ H')
inductive nN(D:DP)(H:Hp)(σ:St)(P:List aE->List aE->Sl->aK->Prop):Prop where
 |mk (φ α:List aE) (τ:Sl) (μ:aK) (sr:bA D φ α H τ σ) (mr:aM D φ α H μ) (p:P φ α τ μ)
section
variable {D:DP}{W:XW}{φ α α':List aE}{H H':Hp}{σ:St}{β γ:Type}{R R':β->aK->List aE->Hp->Prop}
theorem aJ.mono(p:aJ D W φ α H σ R r)(h:∀a d α' H',aP α H α' H'->aM D φ α' H' d->R a d α' H'->R' a d α' H'):aJ D W φ α H σ R' r:=by
 obtain⟨K,Z,q,k,z⟩:=p;exact⟨K,Z,q,λa d e α' H' s m=>h a d α' H' s m (k a d e α' H' s m),z⟩
theorem aJ.bind{r:RE γ}{k:γ->aK->RE β}(p:aJ D W φ α H σ R (r.bind k)):aJ D W φ α H σ (λa g α' H'=>aJ D W φ α' H' σ R (k a g)) r:=by
 obtain⟨K,Z,q,h,z⟩:=p;exact⟨λa μ=>k a μ K Z,Z,q,λa g e α' H' s m=>⟨K,Z,e,λb μ2 l f n i j=>h b μ2 l f n (s.trans i) j,λc fs μ2 l f n C d i j=>z c fs μ2 l f n C d (s.trans i) j⟩,z⟩
theorem aJ.elim{C:Prop}(p:aJ D W φ α H σ R RE.st):C:=by obtain⟨_,_,q,_⟩:=p;exact q.elim
theorem aJ.grd(p:aJ D W φ α H σ R (RE.grd c r)):c/\aJ D W φ α H σ R r:=by
 obtain⟨K,Z,q,h⟩:=p;exact⟨q.1,K,Z,q.2,h⟩
theorem aJ.som{o:Option γ}{k:γ->RE β}(p:aJ D W φ α H σ R (RE.som o k)):∃a,o=aA a/\aJ D W φ α H σ R (k a):=by
 obtain⟨K,Z,⟨a,e,q⟩,h⟩:=p;exact⟨a,e,K,Z,q,h⟩
theorem aJ.br(p:aJ D W φ α H σ R (RE.br b r s)):(b=aC/\aJ D W φ α H σ R r)\/(b=aD/\aJ D W φ α H σ R s):=by
 obtain⟨K,Z,q,h⟩:=p;cases b with
 |true=>exact .inl ⟨rfl,K,Z,q,h⟩
 |false=>exact .inr ⟨rfl,K,Z,q,h⟩
theorem aJ.ok(p:aJ D W φ α H σ R (RE.ok a μ))(s:aP α H α' H')(m:aM D φ α' H' μ):R a μ α' H':=by
 obtain⟨K,Z,q,h,_⟩:=p;exact h a μ q α' H' s m
theorem aJ.step(p:aJ D W φ α H σ R r)(st:aP α H α' H'):aJ D W φ α' H' σ R r:=by
 obtain⟨K,Z,q,h,z⟩:=p;exact⟨K,Z,q,λb μ2 g a i e f=>h b μ2 g a i (st.trans e) f,λc fs μ2 g a i C d e f=>z c fs μ2 g a i C d (st.trans e) f⟩
theorem aJ.ex1{a:Type}{P:a->Prop}{k:a->RE β}(p:aJ D W φ α H σ R (λK Z=>∃x,P x/\k x K Z)):∃x,P x/\aJ D W φ α H σ R (k x):=by
 obtain⟨K,Z,⟨x,b,q⟩,h⟩:=p;exact⟨x,b,K,Z,q,h⟩
end
noncomputable def aX (D:DP)(W:XW)(f:De):TE:=λc H Q=>nN D H c λb h e g=>aJ D W b h H c (λt _ a d=>∀v,a_ D b a d t v->Q v d) (f e g)
noncomputable def eP (D:DP)(W:XW)(f:Dt):TT:=λa H Q=>nN D H a λc g d e=>aJ D W c g H a (λb _ _ h=>Q b h) (f d e)
noncomputable def oY (D:DP)(W:XW)(n:Nat)(f:Da):TA:=λd H Q=>nN D H d λc i g h=>aJ D W c i H d (λj _ a e=>∀b,aN D c a e j b->b.length=n->Q b e) (f g h)
section
variable {X:Cx}{D:DP}{W:XW}{pins:List (aE×bB)}{s:Shared}{σ:St}{H:Hp}{φ α:List aE}{τ:Sl}{μ:aK}{β:Type}{R:β->aK->List aE->Hp->Prop}
inductive CO(X:Cx)(D:DP)(W:XW)(pins:List (aE×bB))(σ:St)(H:Hp)(φ α:List aE)(τ:Sl){β:Type}(R:β->aK->List aE->Hp->Prop)(k:T->aK->RE β)(u:aB)(s1:Shared):Prop where
 |mk (v:V) (H1:Hp) (t:T) (μ1:aK) (α1:List aE) (i:Inv X pins σ H1 s1) (r:RelV v u) (st:aP α H α1 H1) (sr:bA D φ α1 H1 τ σ) (mr:aM D φ α1 H1 μ1) (d:a_ D φ α1 H1 t v) (p:aJ D W φ α1 H1 σ R (k t μ1))
inductive CN(X:Cx)(D:DP)(W:XW)(pins:List (aE×bB))(σ:St)(H:Hp)(φ α:List aE)(τ:Sl){β:Type}(R:β->aK->List aE->Hp->Prop)(k:Bool->aK->RE β)(b:Bool)(s1:Shared):Prop where
 |mk (H1:Hp) (μ1:aK) (α1:List aE) (i:Inv X pins σ H1 s1) (st:aP α H α1 H1) (sr:bA D φ α1 H1 τ σ) (mr:aM D φ α1 H1 μ1) (p:aJ D W φ α1 H1 σ R (k b μ1))
inductive CP(X:Cx)(D:DP)(W:XW)(pins:List (aE×bB))(σ:St)(H:Hp)(φ α:List aE)(τ:Sl){β:Type}(R:β->aK->List aE->Hp->Prop)(n:Nat)(k:List T->aK->RE β)(us:List aB)(s1:Shared):Prop where
 |mk (vs:List V) (H1:Hp) (ts:List T) (μ1:aK) (α1:List aE) (i:Inv X pins σ H1 s1) (r:aW vs us) (st:aP α H α1 H1) (sr:bA D φ α1 H1 τ σ) (mr:aM D φ α1 H1 μ1) (d:aN D φ α1 H1 ts vs) (hn:vs.length=n) (p:aJ D W φ α1 H1 σ R (k ts μ1))
theorem sub{a:aH}{f:Sl->aK->RE T}{k:T->aK->RE β}(n:PE X a (aX D W f))(I:Inv X pins σ H s)(j:bA D φ α H τ σ)(l:aM D φ α H μ)(p:aJ D W φ α H σ R ((f τ μ).bind k)) :
  wpAny (aQ X.prog X.w) X.A (eval a X.env) (CO X D W pins σ H φ α τ R k) X.xe s:=by
 refine a7 (n pins s σ H (λv e=>∃t c b,aP α H b e/\bA D φ b e τ σ/\aM D φ b e c/\a_ D φ b e t v/\aJ D W φ b e σ R (k t c)) I ⟨φ,α,τ,μ,j,l,p.bind.mono λt g i E st m q v d=>⟨t,g,i,st,j.step st,m,d,q⟩⟩) ?_;rintro u C ⟨v,e,B,r,t,c,b,z,y,x,o,h⟩;exact⟨v,e,t,c,b,B,r,z,y,x,o,h⟩
theorem FX{a:aH}{f:Sl->aK->RE Bool}{k:Bool->aK->RE β}(n:PT X a (eP D W f))(I:Inv X pins σ H s)(j:bA D φ α H τ σ)(l:aM D φ α H μ)(p:aJ D W φ α H σ R ((f τ μ).bind k)) :
  wpAny (aQ X.prog X.w) X.A (isTrue a X.env (eval a X.env)) (CN X D W pins σ H φ α τ R k) X.xe s:=by
 refine a7 (n pins s σ H (λb e=>∃d c,aP α H c e/\bA D φ c e τ σ/\aM D φ c e d/\aJ D W φ c e σ R (k b d)) I ⟨φ,α,τ,μ,j,l,p.bind.mono λb g i x st m q=>⟨g,i,st,j.step st,m,q⟩⟩) ?_;rintro b v ⟨e,u,d,c,t,r,o,h⟩;exact⟨e,d,c,u,t,r,o,h⟩
theorem rY(u:PA X es (oY D W n f))(I:Inv X pins σ H s)(l:bA D φ α H τ σ)(o:aM D φ α H μ)(p:aJ D W φ α H σ R ((f τ μ).bind k)) :
  wpAny (aQ X.prog X.w) X.A (spliced (fN pos (eF es X.env))) (CP X D W pins σ H φ α τ R n k) X.xe s:=by
 refine a7 (u pos pins s σ H (λg c=>∃e b a,aP α H a c/\bA D φ a c τ σ/\aM D φ a c b/\aN D φ a c e g/\g.length=n/\aJ D W φ a c σ R (k e b)) I ⟨φ,α,τ,μ,l,o,p.bind.mono λe i j G st m q g d t=>⟨e,i,j,st,l.step st,m,d,t,q⟩⟩) ?_;rintro E F ⟨g,c,C,r,e,b,a,B,z,y,x,v,h⟩;exact⟨g,c,e,b,a,C,r,B,z,y,x,v,h⟩
abbrev RV(D:DP)(φ:List aE)(Q:VK):T->aK->List aE->Hp->Prop:=λt _ a b=>∀v,a_ D φ a b t v->Q v b
theorem aJ.here(p:aJ D W φ α H σ (RV D φ Q) (.ok t μ))(a:aM D φ α H μ)(d:a_ D φ α H t v):Q v H:=p.ok (aP.refl _ _) a v d
theorem aJ.fresh(p:aJ D W φ α H σ (RV D φ Q) (.ok t μ))(b:aM D φ α H μ)(a:ju H g)(d:a_ D φ α g t v):Q v g:=p.ok (aP.new a) (b.new a) v d
theorem zx(h:n<=aZ):n<=sizeLine:=cL h (by unfold aZ;decide)
theorem zh(a:aM D φ α H μ)(h:H p=aF):p∉φ:=λz=>by
 obtain⟨o,e,_⟩:=a.phi p z;rw[h] at e;cases e
theorem zi(a:aM D φ α H μ)(h:H p=aF):p∉α:=λz=>by
 obtain⟨i,b⟩:=ii.mp z;have c:i<μ.length:=by rw[←a.len];exact (bH.mp b).1
 obtain⟨u,e,_⟩:=(a.ob i p μ[i] b (by simp[c])).some;rw[h] at e;cases e
theorem wJ:∀{ts:List T} {ns:List Int} {vs:List V},bN ts=aA ns->aN D φ α H ts vs->vs=ns.map V.int
 |[],ns,vs,h,l=>by
  simp[bN] at h;subst h;exact l
 |t::ts,ns,vs,h,l=>by
  obtain⟨v,r,rfl,d,l⟩:=l;cases t with
  |int i=>
   simp only[bN] at h;cases q:bN ts with
   |none=>rw[q] at h;cases h
   |some a=>
    rw[q] at h;cases h;rw[wJ q l];have d:v=.int i:=d;rw[d];rfl
  |_=>simp[bN] at h
theorem Xv:dX X (gz .Add) (λx y H Q=>∃l b xs zs,x=.ref l/\y=.ref b/\Rd H l (.lst xs)/\Rd H b (.lst zs)/\xs.length+zs.length<=sizeLine/\∀p,H p=aF->Q (.ref p) (upd H p (.lst (xs++zs)))):=by
 intro f s t H x y v u Q I j i h;obtain⟨l,b,xs,zs,rfl,rfl,k,m,g,q⟩:=h;cases j;cases i;obtain⟨z,c,n,r,e⟩:=k.ok I.hok;obtain⟨w,a,A,d,o⟩:=m.ok I.hok;refine PySem.P.add_list e o ?_ (by rw[dJ,dJ,←r.length,←d.length];exact g);rw[show c.toArray++a.toArray=(c++a).toArray by simp];exact⟨.ref _,_,I.lnew (t':=s.toks) (r.append d) (by rw[ig];exact g),rfl,q _ I.fresh⟩
theorem SV:dX X (gz .Add) (λx y H Q=>∃a b ys,x=.ref a/\y=.ref b/\fS X.K H a []/\fS X.K H b ys/\Q (.ref b) H):=by
 intro j s E H x y v u Q I t r h;obtain⟨a,b,ys,rfl,rfl,D,C,q⟩:=h;cases t;cases r;obtain⟨B,w,p1,_⟩:=I.tuple D;obtain⟨c,G,z,_⟩:=I.tuple C;cases w;obtain⟨⟨cls,dd,m,p⟩,k,l,n,hd⟩:=id p1;obtain⟨⟨o,i,data2,g⟩,d,f,A,e⟩:=id z;simp only at l hd f e;subst l hd f e
 exact tz ⟨_,k,rfl⟩ ⟨_,d,rfl⟩ t6 tS xL Ah (An _ _)
  (tuple_addW0 a b #[] c.toArray n A dd i p g rfl) ⟨k,d,⟨.ref b,H,I,rfl,q⟩⟩
theorem T7:dX X (gz .FloorDiv) (rI (λ_ j=>0<j/\j<1606938044258990275541962092341162602522202993782792835301376) λi j=>.int (i / j)):=oZ λi j _ _ _ _ _ a q=>by
 have c:(0:Int)<j:=a.1;have b:j<1606938044258990275541962092341162602522202993782792835301376:=a.2;refine floordiv_int (by omega) (by rw[Ft i (by omega)];exact q) (.inl (PyProof.noPylong_of_log2 ?_));refine dM ((Dd (by omega)).2 (show j.natAbs<2 ^ 200 by omega)) (by decide)
theorem j0{f:Int->Int->aK->RE T}{x y:T}{Q:VK}(p:aJ D W φ α H σ (RV D φ Q) (Wt f x y μ)):∃i j,x=.int i/\y=.int j/\aJ D W φ α H σ (RV D φ Q) (f i j μ):=by
 unfold Wt at p;split at p
 ·exact⟨_,_,rfl,rfl,p⟩
 ·exact p.elim
theorem N2{op:Operator}{x y:T}{N M:V}{P O:aB}{Q:VK}(I:Inv X pins σ H s)(c:aM D φ α H μ)(m:a_ D φ α H x N)(l:a_ D φ α H y M)(q:RelV N P)(n:RelV M O)
  (p:aJ D W φ α H σ (RV D φ Q) (FS op x y μ)):wpAny (aQ X.prog X.w) X.A (gz op P O) (EP X pins σ Q) X.xe s:=by
 have G:∀{a b:aE} {d f:List V} {F E:List T},Rd H a (.lst d)->Rd H b (.lst f)->aN D φ α H F d->aN D φ α H E f->N=.ref a->M=.ref b->F.length+E.length<=aZ->aJ D W φ α H σ (RV D φ Q) (RE.ok (.lst (F++E)) μ)->wpAny (aQ X.prog X.w) X.A (gz .Add P O) (EP X pins σ Q) X.xe s:=λ{a b d f F E} t r k g Z Y h p=>by
  subst Z Y;refine Xv pins s σ H _ _ _ _ Q I q n ⟨a,b,d,f,rfl,rfl,t,r,by rw[←k.length,←g.length];exact zx h,λz B=>?_⟩;have u:=za (o:=.lst (d++f)) B;exact p.fresh c u ⟨z,_,rfl,zh c B,zi c B,.inl z4,(k.step (aP.new u)).append (g.step (aP.new u))⟩
 cases op with
 |Add=>
  replace p:aJ D W φ α H σ (RV D φ Q) (BD x y μ):=p;unfold BD at p;split at p
  ·cases m;cases l;exact Oc pins s σ H _ _ _ _ Q I q n ⟨_,_,rfl,rfl,p.here c rfl⟩
  ·cases m;cases l;obtain⟨h,p⟩:=p.grd;exact KD pins s σ H _ _ _ _ Q I q n ⟨_,_,rfl,rfl,zx h,p.here c rfl⟩
  ·obtain⟨h,p⟩:=p.grd;obtain⟨a,d,rfl,U,S,t,k⟩:=m;obtain⟨b,f,rfl,L,K,r,g⟩:=l;refine Xv pins s σ H _ _ _ _ Q I q n ⟨a,b,d,f,rfl,rfl,t,r,by rw[←k.length,←g.length];exact zx h,λz B=>?_⟩;have u:=za (o:=.lst (d++f)) B;exact p.fresh c u ⟨z,_,rfl,zh c B,zi c B,.inl z4,(k.step (aP.new u)).append (g.step (aP.new u))⟩
  ·rename_i F E;obtain⟨h,p⟩:=p.grd
   ·obtain⟨a,d,rfl,U,S,t,k⟩:=m;obtain⟨b,f,rfl,L,K,r,g⟩:=l;cases d with
    |nil=>
     cases F with
     |cons x F=>obtain⟨_,_,e,_⟩:=k;cases e
     |nil=>exact SV pins s σ H _ _ _ _ Q I q n ⟨a,b,f,rfl,rfl,.inl t,.inl r,p.here c ⟨b,f,rfl,L,K,r,g⟩⟩
    |cons v d=>
     refine P6 pins s σ H _ _ _ _ Q I q n ⟨a,b,v::d,f,rfl,rfl,.inl t,.inl r,by simp,by rw[←k.length,←g.length];exact zx h,λhw=>?_,λhw z B=>?_⟩
     ·subst hw;cases E with
      |cons y E=>obtain⟨_,_,e,_⟩:=g;cases e
      |nil=>
       rw[gA] at p;exact p.here c ⟨a,v::d,rfl,U,S,t,k⟩
     ·have u:=za (o:=.tup (v::d++f)) B;exact p.fresh c u ⟨z,_,rfl,zh c B,zi c B,.inl z4,(k.step (aP.new u)).append (g.step (aP.new u))⟩
  ·obtain⟨F,J,p⟩:=p.ex1;obtain⟨h,p⟩:=aJ.grd p;obtain⟨a,C,rfl⟩:=m;obtain⟨d,t,k⟩:=c.ob _ a _ C J;obtain⟨b,f,rfl,L,K,r,g⟩:=l;exact G (.inl t) r k g rfl rfl h p
  ·obtain⟨E,J,p⟩:=p.ex1;obtain⟨h,p⟩:=aJ.grd p;obtain⟨a,C,rfl⟩:=l;obtain⟨d,t,k⟩:=c.ob _ a _ C J;obtain⟨b,f,rfl,L,K,r,g⟩:=m;exact G r (.inl t) g k rfl rfl h p
  ·obtain⟨pr,J,p⟩:=p.ex1;obtain⟨h,p⟩:=aJ.grd p;obtain⟨a,C,rfl⟩:=m;obtain⟨d,t,k⟩:=c.ob _ a _ C J.1;obtain⟨b,R,rfl⟩:=l;obtain⟨f,r,g⟩:=c.ob _ b _ R J.2;exact G (.inl t) (.inl r) k g rfl rfl h p
  ·exact p.elim
 |Sub=>
  obtain⟨i,j,rfl,rfl,p⟩:=j0 p;cases m;cases l;exact O1 pins s σ H _ _ _ _ Q I q n ⟨_,_,rfl,rfl,p.here c rfl⟩
 |Mult=>
  obtain⟨i,j,rfl,rfl,p⟩:=j0 p;cases m;cases l;obtain⟨h,p⟩:=p.grd;exact NE pins s σ H _ _ _ _ Q I q n ⟨_,_,rfl,rfl,by simpa[lx,big] using h,p.here c rfl⟩
 |FloorDiv=>
  obtain⟨i,j,rfl,rfl,p⟩:=j0 p;cases m;cases l;obtain⟨h,p⟩:=p.grd;exact T7 pins s σ H _ _ _ _ Q I q n ⟨_,_,rfl,rfl,h,p.here c rfl⟩
 |Mod=>
  obtain⟨i,j,rfl,rfl,p⟩:=j0 p;cases m;cases l;obtain⟨h,p⟩:=p.grd;exact Oe pins s σ H _ _ _ _ Q I q n ⟨_,_,rfl,rfl,h,p.here c rfl⟩
 |Pow=>
  obtain⟨i,j,rfl,rfl,p⟩:=j0 p;cases m;cases l;obtain⟨h,p⟩:=p.grd;exact OK pins s σ H _ _ _ _ Q I q n ⟨_,_,rfl,rfl,⟨h.1,h.2.1,by simpa using h.2.2⟩,p.here c rfl⟩
 |RShift=>
  obtain⟨i,j,rfl,rfl,p⟩:=j0 p;cases m;cases l;obtain⟨h,p⟩:=p.grd;exact N5 pins s σ H _ _ _ _ Q I q n ⟨_,_,rfl,rfl,h,p.here c rfl⟩
 |BitAnd=>
  obtain⟨i,j,rfl,rfl,p⟩:=j0 p;cases m;cases l;exact N_ pins s σ H _ _ _ _ Q I q n ⟨_,_,rfl,rfl,p.here c rfl⟩
 |_=>exact (show aJ D W φ α H σ (RV D φ Q) .st from p).elim
end
section
section
variable {D:DP}{φ α:List aE}{H:Hp}
theorem Rd.inj(b:∀o z,u≠.frz o z)(hw:∀o z,w≠.frz o z)(r:Rd H a u)(q:Rd H a w):u=w:=by
 rcases r with r|⟨o,r⟩<;>rcases q with q|⟨c,q⟩<;>rw[r] at q
 ·exact bT q
 ·exact absurd (bT q) (b _ _)
 ·exact absurd (bT q).symm (hw _ _)
 ·injection bT q
mutual
theorem Zr:∀{t u:T} {v:V} {k:Bool},a_ D φ α H t v->a_ D φ α H u v->eqT t u=aA k->k=aC
 |.int i,u,_,k,d,c,e=>by
  have d:_=V.int i:=d;subst d;cases u with
  |int j=>have c:V.int i=V.int j:=c;injection c with c;subst c;rw[←bT e];simp
  |bl b=>have c:V.int i=V.bl b:=c;cases c
  |str b=>have c:V.int i=V.str b:=c;cases c
  |non=>have c:V.int i=V.non:=c;cases c
  |tup b=>obtain⟨_,_,c,_⟩:=c;cases c
  |lst b=>obtain⟨_,_,c,_⟩:=c;cases c
  |_=>cases e
 |.bl i,u,_,k,d,c,e=>by
  have d:_=V.bl i:=d;subst d;cases u with
  |bl j=>have c:V.bl i=V.bl j:=c;injection c with c;subst c;rw[←bT e];simp
  |int b=>have c:V.bl i=V.int b:=c;cases c
  |str b=>have c:V.bl i=V.str b:=c;cases c
  |non=>have c:V.bl i=V.non:=c;cases c
  |tup b=>obtain⟨_,_,c,_⟩:=c;cases c
  |lst b=>obtain⟨_,_,c,_⟩:=c;cases c
  |_=>cases e
 |.str i,u,_,k,d,c,e=>by
  have d:_=V.str i:=d;subst d;cases u with
  |str j=>have c:V.str i=V.str j:=c;injection c with c;subst c;rw[←bT e];simp
  |int b=>have c:V.str i=V.int b:=c;cases c
  |bl b=>have c:V.str i=V.bl b:=c;cases c
  |non=>have c:V.str i=V.non:=c;cases c
  |tup b=>obtain⟨_,_,c,_⟩:=c;cases c
  |lst b=>obtain⟨_,_,c,_⟩:=c;cases c
  |_=>cases e
 |.non,u,_,k,d,c,e=>by
  have d:_=V.non:=d;subst d;cases u with
  |non=>exact (bT e).symm
  |int b=>have c:V.non=V.int b:=c;cases c
  |bl b=>have c:V.non=V.bl b:=c;cases c
  |str b=>have c:V.non=V.str b:=c;cases c
  |tup b=>obtain⟨_,_,c,_⟩:=c;cases c
  |lst b=>obtain⟨_,_,c,_⟩:=c;cases c
  |_=>cases e
 |.tup o,u,_,k,d,c,e=>by
  obtain⟨a,n,rfl,_,_,r,l⟩:=d;cases u with
  |tup m=>
   obtain⟨b,h,g,_,_,f,l'⟩:=c;cases g;have:=Rd.inj (by intro _ _ z;cases z) (by intro _ _ z;cases z) r f;injection this with this;subst this;exact yd l l' e
  |lst m=>
   obtain⟨b,h,g,_,_,f,l'⟩:=c;cases g;have:=Rd.inj (by intro _ _ z;cases z) (by intro _ _ z;cases z) r f;cases this
  |int b=>have c:V.ref a=V.int b:=c;cases c
  |bl b=>have c:V.ref a=V.bl b:=c;cases c
  |str b=>have c:V.ref a=V.str b:=c;cases c
  |non=>have c:V.ref a=V.non:=c;cases c
  |_=>cases e
 |.lst o,u,_,k,d,c,e=>by
  obtain⟨a,n,rfl,_,_,r,l⟩:=d;cases u with
  |lst m=>
   obtain⟨b,h,g,_,_,f,l'⟩:=c;cases g;have:=Rd.inj (by intro _ _ z;cases z) (by intro _ _ z;cases z) r f;injection this with this;subst this;exact yd l l' e
  |tup m=>
   obtain⟨b,h,g,_,_,f,l'⟩:=c;cases g;have:=Rd.inj (by intro _ _ z;cases z) (by intro _ _ z;cases z) r f;cases this
  |int b=>have c:V.ref a=V.int b:=c;cases c
  |bl b=>have c:V.ref a=V.bl b:=c;cases c
  |str b=>have c:V.ref a=V.str b:=c;cases c
  |non=>have c:V.ref a=V.non:=c;cases c
  |_=>cases e
 |.obj _ _,_,_,_,_,_,e=>by cases e
 |.mut _,_,_,_,_,_,e=>by cases e
 |.exc _ _,_,_,_,_,_,e=>by cases e
 |.dic _,_,_,_,_,_,e=>by cases e
 |.clo _ _,_,_,_,_,_,e=>by cases e
theorem yd:∀{ts us:List T} {vs:List V} {k:Bool},aN D φ α H ts vs->aN D φ α H us vs->dG ts us=aA k->k=aC
 |[],[],_,k,_,_,e=>by simpa[dG] using e.symm
 |[],_::_,_,k,b,a,e=>by
  have b:_=[]:=b;obtain⟨_,_,a,_⟩:=a;rw[b] at a;cases a
 |_::_,[],_,k,b,a,e=>by
  have a:_=[]:=a;obtain⟨_,_,b,_⟩:=b;rw[a] at b;cases b
 |t::ts,u::us,_,k,b,a,e=>by
  obtain⟨v,r,rfl,n,l⟩:=b;obtain⟨o,p,q,m,j⟩:=a;injection q with f d;subst f d;cases h:eqT t u with
  |none=>simp[dG,h] at e
  |some x=>
   cases c:dG ts us with
   |none=>simp[dG,h,c] at e
   |some y=>
    have i:=Zr n m h;have g:=yd l j c;subst i g;simpa[dG,h,c] using e.symm
end
end
section
variable {X:Cx}{D:DP}{pins:List (aE×bB)}{s:Shared}{σ:St}{H:Hp}{φ α:List aE}
theorem Zd:∀{ts us:List T} {k:Bool},dG ts us=aA k->(∀j (h1:j<ts.length) (h2:j<us.length),∃b,eqT ts[j] us[j]=aA b)/\
  k=((gx (min ts.length us.length)).all (λj=>match ts[j]?,us[j]? with|some t,aA u=>(eqT t u).getD aD|_,_=>aD)&&ts.length==us.length)
 |[],[],k,e=>by
  simp[dG] at e;subst e;exact⟨λj h1=>by simp at h1,by simp⟩
 |[],u::us,k,e=>by
  simp[dG] at e;subst e;exact⟨λj h1=>by simp at h1,by simp⟩
 |t::ts,[],k,e=>by
  simp[dG] at e;subst e;exact⟨λj h1 h2=>by simp at h2,by simp⟩
 |t::ts,u::us,k,e=>by
  cases h:eqT t u with
  |none=>simp[dG,h] at e
  |some x=>
   cases a:dG ts us with
   |none=>simp[dG,h,a] at e
   |some y=>
    obtain⟨g,c⟩:=Zd a;simp[dG,h,a] at e;subst e;refine⟨λj h1 h2=>?_,?_⟩
    ·cases j with
     |zero=>exact⟨x,h⟩
     |succ j=>exact g j (by simpa using h1) (by simpa using h2)
    ·rw[c];have d:min (t::ts).length (u::us).length=min ts.length us.length+1:=by simp[Nat.succ_min_succ]
     rw[d,List.range_succ_eq_map,lK,mV];simp only[Fl,h,wp,ul,Ag,eZ];rw[Bool.and_assoc];congr 2;simp
theorem cM(A:dU):A.in1.units=A.units+1:=by first|rfl|simp[Around.in1,Around.units]
theorem eqAt_int(I:Inv X pins σ H s)(h1:a_ D φ α H (.int i) v)(h2:a_ D φ α H u w)(m:RelV v a)(d:RelV w b)(e:eqT (.int i) u=aA k)(o:A.units+xV (.int i)+1<cLine):iO A s a b k:=by
 have h1:_=V.int i:=h1;subst h1;obtain⟨n,rfl⟩:=m;cases u with
 |int j=>have h2:w=V.int j:=h2;subst h2;obtain⟨l,rfl⟩:=d;cases bT e;exact EK _ _ _ _
 |bl j=>have h2:w=V.bl j:=h2;subst h2;cases d;cases bT e;exact SeqAt.EqAt.int_bool _ _ _
 |str j=>have h2:w=V.str j:=h2;subst h2;obtain⟨l,rfl⟩:=d;cases bT e;exact EQ _ _ _ _
 |non=>have h2:w=V.non:=h2;subst h2;cases d;cases bT e;exact SeqAt.EqAt.int_none _ _
 |tup g=>obtain⟨c,h,rfl,_,_,r,_⟩:=h2;cases d;obtain⟨f,_,p,_⟩:=I.tuple (.inl r);cases bT e;exact SeqAt.EqAt.int_tuple _ _ p (by lia)
 |lst g=>obtain⟨c,h,rfl,_,_,r,_⟩:=h2;cases d;obtain⟨f,_,p,_⟩:=I.list (.inl r);cases bT e;exact SeqAt.EqAt.int_list _ _ p.isList (by lia)
 |_=>cases e
theorem PH(I:Inv X pins σ H s)(h1:a_ D φ α H (.bl i) v)(h2:a_ D φ α H u w)(m:RelV v a)(d:RelV w b)(e:eqT (.bl i) u=aA k)(n:A.units+xV (.bl i)+1<cLine):iO A s a b k:=by
 have h1:_=V.bl i:=h1;subst h1;cases m;cases u with
 |int j=>have h2:w=V.int j:=h2;subst h2;obtain⟨l,rfl⟩:=d;cases bT e;exact SeqAt.EqAt.bool_int _ _ _
 |bl j=>have h2:w=V.bl j:=h2;subst h2;cases d;cases bT e;exact SeqAt.EqAt.bool_bool _ _
 |str j=>have h2:w=V.str j:=h2;subst h2;obtain⟨l,rfl⟩:=d;cases bT e;exact SeqAt.EqAt.bool_str _ _ _
 |non=>have h2:w=V.non:=h2;subst h2;cases d;cases bT e;exact SeqAt.EqAt.bool_none _
 |tup g=>obtain⟨c,h,rfl,_,_,r,_⟩:=h2;cases d;obtain⟨f,_,p,_⟩:=I.tuple (.inl r);cases bT e;exact SeqAt.EqAt.bool_tuple _ p (by lia)
 |lst g=>obtain⟨c,h,rfl,_,_,r,_⟩:=h2;cases d;obtain⟨f,_,p,_⟩:=I.list (.inl r);cases bT e;exact SeqAt.EqAt.bool_list _ p.isList (by lia)
 |_=>cases e
theorem SY(I:Inv X pins σ H s)(h1:a_ D φ α H (.str i) v)(h2:a_ D φ α H u w)(m:RelV v a)(d:RelV w b)(e:eqT (.str i) u=aA k)(o:A.units+xV (.str i)+1<cLine):iO A s a b k:=by
 have h1:_=V.str i:=h1;subst h1;obtain⟨n,rfl⟩:=m;cases u with
 |int j=>have h2:w=V.int j:=h2;subst h2;obtain⟨l,rfl⟩:=d;cases bT e;exact EO _ _ _ _
 |bl j=>have h2:w=V.bl j:=h2;subst h2;cases d;cases bT e;exact SeqAt.EqAt.str_bool _ _ _
 |str j=>have h2:w=V.str j:=h2;subst h2;obtain⟨l,rfl⟩:=d;cases bT e;exact SeqAt.EqAt.str_str _ _ _ _
 |non=>have h2:w=V.non:=h2;subst h2;cases d;cases bT e;exact SeqAt.EqAt.str_none _ _
 |tup g=>obtain⟨c,h,rfl,_,_,r,_⟩:=h2;cases d;obtain⟨f,_,p,_⟩:=I.tuple (.inl r);cases bT e;exact SeqAt.EqAt.str_tuple _ _ p (by omega)
 |lst g=>obtain⟨c,h,rfl,_,_,r,_⟩:=h2;cases d;obtain⟨f,_,p,_⟩:=I.list (.inl r);cases bT e;exact SeqAt.EqAt.str_list _ _ p.isList (by omega)
 |_=>cases e
theorem T5(I:Inv X pins σ H s)(h1:a_ D φ α H .non v)(h2:a_ D φ α H u w)(l:RelV v a)(d:RelV w b)(e:eqT .non u=aA k)(m:A.units+xV .non+1<cLine):iO A s a b k:=by
 have h1:_=V.non:=h1;subst h1;cases l;cases u with
 |int j=>have h2:w=V.int j:=h2;subst h2;obtain⟨i,rfl⟩:=d;cases bT e;exact SeqAt.EqAt.none_int _ _
 |bl j=>have h2:w=V.bl j:=h2;subst h2;cases d;cases bT e;exact SeqAt.EqAt.none_bool _
 |str j=>have h2:w=V.str j:=h2;subst h2;obtain⟨i,rfl⟩:=d;cases bT e;exact SeqAt.EqAt.none_str _ _
 |non=>have h2:w=V.non:=h2;subst h2;cases d;cases bT e;exact tZ _
 |tup g=>obtain⟨c,h,rfl,_,_,r,_⟩:=h2;cases d;obtain⟨f,_,p,_⟩:=I.tuple (.inl r);cases bT e;exact SeqAt.EqAt.none_tuple p (by lia)
 |lst g=>obtain⟨c,h,rfl,_,_,r,_⟩:=h2;cases d;obtain⟨f,_,p,_⟩:=I.list (.inl r);cases bT e;exact SeqAt.EqAt.none_list p.isList (by lia)
 |_=>cases e
theorem KH(I:Inv X pins σ H s)(q:∀us,u≠.tup us)(h1:a_ D φ α H (.tup ts) B)(h2:a_ D φ α H u w)(h:RelV B a)(g:RelV w b)(e:eqT (.tup ts) u=aA k)(v:A.units+xV (.tup ts)+1<cLine):iO A s a b k:=by
 cases u with
 |tup us=>exact absurd rfl (q us)
 |lst us=>
  obtain⟨c,i,rfl,_,_,r,l⟩:=h1;obtain⟨d,t,rfl,_,_,n,l'⟩:=h2;cases h;cases g;obtain⟨_,_,p,_⟩:=I.tuple (.inl r);obtain⟨_,_,o,_⟩:=I.list (.inl n);cases bT e;exact SeqAt.EqAt.tuple_list p o.isList (by lia)
 |int j=>have h2:w=V.int j:=h2;subst h2;obtain⟨m,rfl⟩:=g;obtain⟨c,i,rfl,_,_,r,_⟩:=h1;cases h;obtain⟨f,_,p,_⟩:=I.tuple (.inl r);cases bT e;exact SeqAt.EqAt.tuple_int _ _ p (by lia)
 |bl j=>have h2:w=V.bl j:=h2;subst h2;cases g;obtain⟨c,i,rfl,_,_,r,_⟩:=h1;cases h;obtain⟨f,_,p,_⟩:=I.tuple (.inl r);cases bT e;exact SeqAt.EqAt.tuple_bool _ p (by lia)
 |str j=>have h2:w=V.str j:=h2;subst h2;obtain⟨m,rfl⟩:=g;obtain⟨c,i,rfl,_,_,r,_⟩:=h1;cases h;obtain⟨f,_,p,_⟩:=I.tuple (.inl r);cases bT e;exact SeqAt.EqAt.tuple_str _ _ p (by lia)
 |non=>have h2:w=V.non:=h2;subst h2;cases g;obtain⟨c,i,rfl,_,_,r,_⟩:=h1;cases h;obtain⟨f,_,p,_⟩:=I.tuple (.inl r);cases bT e;exact SeqAt.EqAt.tuple_none p (by lia)
 |_=>cases e
theorem Xa(I:Inv X pins σ H s)(q:∀us,u≠.lst us)(h1:a_ D φ α H (.lst ts) B)(h2:a_ D φ α H u w)(h:RelV B a)(g:RelV w b)(e:eqT (.lst ts) u=aA k)(v:A.units+xV (.lst ts)+1<cLine):iO A s a b k:=by
 cases u with
 |lst us=>exact absurd rfl (q us)
 |tup us=>
  obtain⟨c,i,rfl,_,_,r,l⟩:=h1;obtain⟨d,t,rfl,_,_,n,l'⟩:=h2;cases h;cases g;obtain⟨_,_,p,_⟩:=I.list (.inl r);obtain⟨_,_,o,_⟩:=I.tuple (.inl n);cases bT e;exact SeqAt.EqAt.list_tuple p.isList o (by lia)
 |int j=>have h2:w=V.int j:=h2;subst h2;obtain⟨m,rfl⟩:=g;obtain⟨c,i,rfl,_,_,r,_⟩:=h1;cases h;obtain⟨f,_,p,_⟩:=I.list (.inl r);cases bT e;exact SeqAt.EqAt.list_int _ _ p.isList (by lia)
 |bl j=>have h2:w=V.bl j:=h2;subst h2;cases g;obtain⟨c,i,rfl,_,_,r,_⟩:=h1;cases h;obtain⟨f,_,p,_⟩:=I.list (.inl r);cases bT e;exact SeqAt.EqAt.list_bool _ p.isList (by lia)
 |str j=>have h2:w=V.str j:=h2;subst h2;obtain⟨m,rfl⟩:=g;obtain⟨c,i,rfl,_,_,r,_⟩:=h1;cases h;obtain⟨f,_,p,_⟩:=I.list (.inl r);cases bT e;exact SeqAt.EqAt.list_str _ _ p.isList (by lia)
 |non=>have h2:w=V.non:=h2;subst h2;cases g;obtain⟨c,i,rfl,_,_,r,_⟩:=h1;cases h;obtain⟨f,_,p,_⟩:=I.list (.inl r);cases bT e;exact SeqAt.EqAt.list_none p.isList (by lia)
 |_=>cases e
noncomputable def sM (D:DP)(φ α:List aE)(H:Hp)(s:aU)(n:Nat):Prop:=∀(t u:T) (v w:V) (a b:aB) (k:Bool) (A:dU),xV t<n->a_ D φ α H t v->a_ D φ α H u w->RelV v a->RelV w b->eqT t u=aA k->A.units+xV t+1<cLine->iO A s a b k
theorem va(k:sM D φ α H s n):∀{ts us:List T} {xs ys:List V} {its a:List aB} {A:dU},wI ts<n->aN D φ α H ts xs->aN D φ α H us ys->aW xs its->aW ys a->A.units+wI ts+1<cLine->
  ∀(j:Nat) (h1:j<its.length) (h2:j<a.length),(∀(o:j<ts.length) (m:j<us.length),∃b,eqT ts[j] us[j]=aA b)->iO A s its[j] a[j] (match ts[j]?,us[j]? with|some t,aA u=>(eqT t u).getD aD|_,_=>aD)
 |[],_,xs,_,its,_,A,_,l,_,d,_,_,j,h1,_,_=>by
  have l:xs=[]:=l;subst l;cases d;simp at h1
 |t::ts,us,xs,ys,its,a,A,hd,l,l',d,c,y,j,h1,h2,g=>by
  obtain⟨v,r,rfl,B,l⟩:=l;cases d with
  | @cons _ C _ p x d=>
  cases us with
  |nil=>
   have l':ys=[]:=l';subst l';cases c;simp at h2
  |cons u us=>
   obtain⟨w,E,rfl,z,l'⟩:=l';cases c with
   | @cons _ q _ i f c=>
   simp only[wI] at y hd;cases j with
   |zero=>
    obtain⟨b,h⟩:=g (by simp) (by simp);have e:eqT t u=aA b:=by simpa using h
    simp only[Fl,e,wp,List.getElem_cons_zero];exact k _ _ _ _ _ _ _ _ (by omega) B z x f e (by omega)
   |succ j=>
    simp only[Ag,List.getElem_cons_succ];exact va k (by omega) l l' d c (by omega) j (by simpa using h1) (by simpa using h2) λo m=>by
     obtain⟨b,h⟩:=g (by simpa using o) (by simpa using m);exact⟨b,by simpa using h⟩
theorem Wm(I:Inv X pins σ H s)(v:sM D φ α H s n)(hd:wI ts<n)(l:aN D φ α H ts xs)(l':aN D φ α H us ys)(r:Rd H c (.tup xs))(i:Rd H d (.tup ys))(e:dG ts us=aA k)(B:A.units+wI ts+2<cLine):pG A s (.ref c) (.ref d) k:=by
 obtain⟨f,h,p,_⟩:=I.tuple (.inl r);obtain⟨b,a,q,_⟩:=I.tuple (.inl i);obtain⟨g,rfl⟩:=Zd e;have x:ts.length=f.length:=l.length.trans h.length;have w:us.length=b.length:=l'.length.trans a.length;have:=SeqAt.RcAt.tuples (A:=A) (e:=λj=>match ts[j]?,us[j]? with|some t,aA u=>(eqT t u).getD aD|_,_=>aD) p q (by omega) λj o m=>by
  have:=va (A:=A.in1) v hd l l' h a (by rw[cM];omega) j (by simpa using o) (by simpa using m) λz y=>g j z y;simpa using this
 simpa[x,w] using this
theorem Wk(I:Inv X pins σ H s)(x:sM D φ α H s n)(hd:wI ts<n)(l:aN D φ α H ts xs)(l':aN D φ α H us ys)(r:Rd H c (.lst xs))(q:Rd H d (.lst ys))(e:dG ts us=aA k)(C:A.units+wI ts+2<cLine):pG A s (.ref c) (.ref d) k:=by
 obtain⟨f,i,p,_⟩:=I.list (.inl r);obtain⟨b,a,m,_⟩:=I.list (.inl q);obtain⟨g,rfl⟩:=Zd e;have F:ts.length=f.length:=l.length.trans i.length;have E:us.length=b.length:=l'.length.trans a.length;by_cases o:ts.length=us.length
 ·have:=SeqAt.RcAt.lists (A:=A) (e:=λj=>match ts[j]?,us[j]? with|some t,aA u=>(eqT t u).getD aD|_,_=>aD) p.isList m.isList (by simp;lia) (by lia) λj w v=>by
   have:=va (A:=A.in1) x hd l l' i a (by rw[cM];lia) j (by simpa using w) (by simpa using v) λz y=>g j z y;simpa using this
  have B:min ts.length us.length=f.length:=by lia
  have h:(ts.length==us.length)=aC:=by simpa using o
  rw[B,h,DF];simpa using this
 ·have h:(ts.length==us.length)=aD:=by simpa using o
  rw[h,tO];exact SeqAt.RcAt.lists_lengths p.isList m.isList (by simp;lia) (by lia)
theorem WI(I:Inv X pins σ H s):∀n,sM D φ α H s n
 |0=>λ_ _ _ _ _ _ _ _ p=>absurd p (by omega)
 |n+1=>λt u v w a b k A p h g m j e o=>by
  have B:=WI I n;cases t with
  |int i=>exact eqAt_int I h g m j e o
  |bl i=>exact PH I h g m j e o
  |str i=>exact SY I h g m j e o
  |non=>exact T5 I h g m j e o
  |tup G=>
   cases u with
   |tup F=>
    have y:=λ(q:w=v)=>Zr h (q▸g) e;obtain⟨c,E,rfl,_,_,r,l⟩:=h;obtain⟨d,C,rfl,_,_,x,l'⟩:=g;cases m;cases j;by_cases f:c=d
    ·subst f;rw[y rfl];exact tZ _
    ·refine Ew f ?_;exact Wm I B (by simp only[xV] at p;omega) l l' r x e (by simp only[xV] at o;omega)
   |_=>exact KH I (by intro _ z;cases z) h g m j e o
  |lst G=>
   cases u with
   |lst F=>
    have y:=λ(q:w=v)=>Zr h (q▸g) e;obtain⟨c,E,rfl,_,_,r,l⟩:=h;obtain⟨d,C,rfl,_,_,x,l'⟩:=g;cases m;cases j;by_cases f:c=d
    ·subst f;rw[y rfl];exact tZ _
    ·refine Ew f ?_;exact Wk I B (by simp only[xV] at p;omega) l l' r x e (by simp only[xV] at o;omega)
   |_=>exact Xa I (by intro _ z;cases z) h g m j e o
  |_=>cases e
theorem SW(I:Inv X pins σ H s)(l:aN D φ α H ts xs)(l':aN D φ α H us ys)(r:Rd H c (.tup xs))(a:Rd H d (.tup ys))(e:dG ts us=aA k)(b:A.units+wI ts+2<cLine):pG A s (.ref c) (.ref d) k:=Wm I (WI I _) (lL _) l l' r a e b
theorem TY(I:Inv X pins σ H s)(l:aN D φ α H ts xs)(l':aN D φ α H us ys)(r:Rd H c (.lst xs))(a:Rd H d (.lst ys))(e:dG ts us=aA k)(b:A.units+wI ts+2<cLine):pG A s (.ref c) (.ref d) k:=Wk I (WI I _) (lL _) l l' r a e b
theorem Zk(I:Inv X pins σ H s):∀{ts us:List T} {xs ys:List V} {its a:List aB} {A:dU},aN D φ α H ts xs->aN D φ α H us ys->aW xs its->aW ys a->A.units+wI ts+1<cLine->
  ∀(j:Nat) (h1:j<its.length) (h2:j<a.length),(∀(g:j<ts.length) (f:j<us.length),∃b,eqT ts[j] us[j]=aA b)->iO A s its[j] a[j] (match ts[j]?,us[j]? with|some t,aA u=>(eqT t u).getD aD|_,_=>aD):=λl l' d c e=>va (WI I _) (lL _) l l' d c e
theorem SJ(I:Inv X pins σ H s)(l:aN D φ α H ts xs)(l':aN D φ α H us ys)(r:Rd H c (.tup xs))(i:Rd H d (.tup ys))(e:dG ts us=aA k)(y:A.units+wI ts+2<cLine):Dr A s (.ref c) (.ref d) (!k):=by
 obtain⟨f,h,p,_⟩:=I.tuple (.inl r);obtain⟨b,a,o,_⟩:=I.tuple (.inl i);obtain⟨g,rfl⟩:=Zd e;have v:ts.length=f.length:=l.length.trans h.length;have q:us.length=b.length:=l'.length.trans a.length;have:=IK (A:=A) (e:=λj=>match ts[j]?,us[j]? with|some t,aA u=>(eqT t u).getD aD|_,_=>aD) p o (by lia) λj n m=>by
  have:=Zk (A:=A.in1) I l l' h a (by rw[cM];lia) j (by simpa using n) (by simpa using m) λx w=>g j x w;simpa using this
 simpa[v,q] using this
theorem Tu(I:Inv X pins σ H s)(l:aN D φ α H ts xs)(l':aN D φ α H us ys)(r:Rd H c (.lst xs))(o:Rd H d (.lst ys))(e:dG ts us=aA k)(z:A.units+wI ts+2<cLine):Dr A s (.ref c) (.ref d) (!k):=by
 obtain⟨f,i,p,_⟩:=I.list (.inl r);obtain⟨b,a,m,_⟩:=I.list (.inl o);obtain⟨g,rfl⟩:=Zd e;have C:ts.length=f.length:=l.length.trans i.length;have B:us.length=b.length:=l'.length.trans a.length;by_cases n:ts.length=us.length
 ·have:=IP (A:=A) (e:=λj=>match ts[j]?,us[j]? with|some t,aA u=>(eqT t u).getD aD|_,_=>aD) p.isList m.isList (by simp;lia) (by lia) λj v q=>by
   have:=Zk (A:=A.in1) I l l' i a (by rw[cM];lia) j (by simpa using v) (by simpa using q) λx w=>g j x w;simpa using this
  have y:min ts.length us.length=f.length:=by lia
  have h:(ts.length==us.length)=aC:=by simpa using n
  rw[y,h,DF];simpa using this
 ·have h:(ts.length==us.length)=aD:=by simpa using n
  rw[h,tO];exact IV p.isList m.isList (by simp;lia) (by lia)
end
end
noncomputable def spM (D:DP)(f:Fn):Sp:=λh H Q E=>∃a c e d,aN D a c H e h/\aM D a c H d/\aJ D (fB E) a c H [] (λt _ b g=>∀v,a_ D a b g t v->Q v g) (f e d)
noncomputable def eW (D:DP)(n:Nat)(f:Fn):Sp:=λa H Q E=>a.length=n/\spM D f a H Q E
noncomputable def VR (D:DP)(t:Nat)(u:aB):Prop:=
 (t=0/\u=.type "NoneType")\/(t=1/\u=.type "bool")\/(t=2/\u=.type "int")\/(t=3/\u=.type "str")\/(t=4/\u=.type "tuple")\/(t=5/\u=.type "list")\/(∃C,D.adr t=aA C/\u=.ref C)\/(t=6/\u=.type "dict")\/(∃C,D.cad t=aA C/\u=.ref C)
noncomputable def ZZ(mg:aG->Option aB)(c:aG)(u:aB):Prop:=mg c=aA u\/(mg c=aF/\f_ c=aA u/\c≠"__name__")
abbrev BY(X:Cx)(c:aG)(u:aB):Prop:=ZZ X.mg c u
noncomputable def gL(v:V)(u:aB):Prop:=(∃C,v=.ref C/\u=.ref C)\/∃n,v=.ty n/\u=.type n
theorem gL.rel(h:gL v u):L2.RelV v u:=by
 rcases h with⟨C,rfl,rfl⟩|⟨n,rfl,rfl⟩<;>rfl
theorem gL.only{v:V}{u a:aB}(h:gL v u)(r:L2.RelV v a):a=u:=by
 rcases h with⟨C,rfl,rfl⟩|⟨n,rfl,rfl⟩<;>exact r
structure iH(K:PySem.W.Frag)(C:aE):Prop where
 ga:cZ K (.ref C) "__getattribute__"=aA (aA (.builtin "BaseException.__getattribute__"))
 hk:cZ K (.ref C) "__getattr__"=aA aF
 fi:cZ K (.ref C) "__class__"=aA (aA (.builtin "object.__class__"))
 sp:mu K (.builtin "object.__class__") "__get__"=aA (aA (.builtin "getset_descriptor.__get__"))
 tk:ry K (.builtin "object.__class__")=aA aC
 ob:gT K C (.type "object")=aA aC
 bx:gT K C (.type "BaseException")=aA aC
 nb:gT K C (.type "KeyError")=aA aD/\gT K C (.type "ZeroDivisionError")=aA aD
 cl:(mj K C).isSome=aC
structure mJ(K:PySem.W.Frag)(C:aE):Prop where
 cl:gM K C
 fi:cZ K (.ref C) "__class__"=aA (aA (.builtin "object.__class__"))
 sp:mu K (.builtin "object.__class__") "__get__"=aA (aA (.builtin "getset_descriptor.__get__"))
 tk:ry K (.builtin "object.__class__")=aA aC
 ob:gT K C (.type "object")=aA aC
abbrev zI:List aB:=[.type "ValueError",.type "Exception",.type "BaseException",.type "object"]
noncomputable def FOk (D:DP)(P:b7)(w:cV)(K:bK)(mg:aG->Option aB)(base:aR)(k:Nat)(fa:aE)(f:Fn):Prop:=
 ∃fd a c,eS K (.ref fa)=aC/\Binds K fd a []/\c<=k/\bQ P w K mg base (dD P w) c fa fd a (eW D a.length f)/\∀b d K Z,f b d K Z->b.length=a.length
structure gQ(k:Nat)(A:Around):Prop where
 dp:A.depth+3*k+5<recursionLimit
 un:A.units+16*k+200<cLine
theorem gQ.units{k:Nat}{A:dU}(r:gQ k A):A.units+64<cLine:=by have:=r.un;lia
noncomputable def uS(P:b7)(w:cV)(K:bK)(mg:aG->Option aB)(base:aR)(k:Nat)(f:aE)(fd:FuncData)(ps:List aG)(sp:Sp):Prop:=
 ∀(A:dU) (a:List Env) (s:aU) (H:Hp) (args:Args) (c:List aB) (b:List V) (Q:VK),gQ k A->dI P w K mg base A a s H->lB s fd args (ps.zip c)->aW b c->sp b H Q (λ_ _ _=>False)->
  fP (aQ P w) A (.call (.ref f) args) (CR (λ_ _ _ _ _ _=>False) a P w H s Q (λ_ _ _=>False)) s
noncomputable def u5 (x C:aE):aR->Prop:=λh=>∃t,h.get? x=aA {cls:=.ref C,data:=.fields #[.ref t,.none,.none,.none,.bool aD,.none]}
noncomputable def ZW(x C dx:aE):aR->Prop:=λh=>∃t,h.get? x=aA {cls:=.ref C,dict:=aA dx,data:=.fields #[.ref t,.none,.none,.none,.bool aD,.none]}
structure hV(K:PySem.W.Frag)(C HE fI:aE)(fl:aG):Prop where
 cls:∃N nm q bs hd sn sub ab col dd k0 k1 k2 k3 k5,K.lookup C=aA (iw nm q C N bs (.ref HE::zI) hd sn sub ab col dd k0 k1 k2 k3 k5 "ValueError.__new__")/\py K N=aC/\mU K N "__init__"=aA (aA (.ref fI))
 he:fF K HE zI "ValueError.__new__"=aC
 fn:pA K (.ref fI)=aA (.type "function")
 sa:cZ K (.ref C) "__setattr__"=aA (aA (.builtin "object.__setattr__"))
 no:cZ K (.ref C) fl=aA aF
 dct:lP K C=aC
 kp:eS K (.ref C)=aC
noncomputable def iB (C:aE)(fl:aG):Sp:=λa H Q E=>∃(x:aE) (i:Int),a=[.ref x,.int i]/\i.natAbs.log2<1920/\H x=aA (.ext (u5 x C))/\∀dx,H dx=aF->dx≠x->Q .non (upd (upd H x (.ext (ZW x C dx))) dx (.xd [(fl,.int i)]))
noncomputable def MV(y:aG)(sc:Scope):Bool:=(sc.kind==.function)&&!sc.isCoroutine&&!sc.isGenerator&&sc.names.all (λy=>y.2 != .free)&&(sc.names.lookup y==aA .local)&&y != ("__debug__":aG)&&y != ("__classdict__":aG)
noncomputable def M7(a c:aE)(qn:aG):aR->Prop:=λh=>∃(y:aG) (f:Pos) (g:Nat) (bp:Pos) (d:Scope) (e b:aB),MV y d=aC/\h.get? a=aA (lT "<lambda>" qn ⟨[],[⟨y,aF,f⟩],aF,[],[],aF,[]⟩ (.Constant .none g bp) d [] e c b)
noncomputable def Gf (t:T):Prop:=t=.clo 0 [.clo 100 []]\/t=.clo 1 []\/t=.clo 2 [.clo 101 []]
noncomputable def LP (D:DP)(P:b7)(w:cV)(K:bK)(mg:aG->Option aB)(base:aR)(k:Nat):Prop:=
 ∀(t:T) (c e:List aE) (H:Hp) (v:V),Gf t->a_ D c e H t v->∃a h,v=.ref a/\h<=k/\∀(A:dU) (b:List Env) (s:aU),dI P w K mg base A b s H->Dq a s.heap/\(bZ h A->∀(u:aB) (x:V) (Q:VK) (t:T) (c e:List aE) (g:aK),RelV x u->a_ D c e H t x->aM D c e H g->(∀d f,aP e H d f->aM D c d f g->Q .non f)->
  fP (aQ P w) A (.call (.ref a) ⟨[u],[]⟩) (CR (dD P w) b P w H s Q (λ_ _ _=>False)) s)
noncomputable def bJ.fb(l:bJ):FuncBody:=match l.sb with|none=>.expr l.body|some q=>.stmts q.2
noncomputable def bJ.nm(l:bJ):aG:=match l.sb with|none=>"<lambda>" | some q=>q.1
noncomputable abbrev B_(name qual:aG)(params:Arguments)(fb:FuncBody)(scope:Scope)(cl:List (aG×aE))(doc b a ct:aB):FuncData:=
 {name,qualname:=qual,params,body:=fb,scope,globals:=bR,closure:=cl,defaults:=.none,kwdefaults:=.none,doc:=doc,pyModule:=b,annotations:=aF,code:=a,closureTuple:=ct,builtins:=lI}
noncomputable def kX(a c:aE)(l:bJ)(cl:List (aG×aE)):aR->Prop:=λh=>∃(f:Pos) (e d b:aB),h.get? a=aA {cls:=.type "function",data:=.func (B_ l.nm l.qn ⟨[],[⟨l.y,aF,f⟩],aF,[],[],aF,[]⟩ l.fb l.sc cl b e (.ref c) d)}
noncomputable def YL(fr:List aG)(cl:List (aG×aE))(cs:List aE):Prop:=fr.map (λx=>cl.lookup x)=cs.map aA/\cs.Nodup/\∀x a,cl.lookup x=aA a->x∈fr
noncomputable def MW(D:DP)(P:b7)(w:cV)(K:bK)(mg:aG->Option aB)(base:aR)(k:Nat)(ls:List bJ):Prop:=
 ∀(j:Nat) (l:bJ) (p:List T) (i m:List aE) (H:Hp) (v:V),ls[j]?=aA l->a_ D i m H (YI j l.jt p) v->∃(a:aE) (r:Nat),v=.ref a/\r<=k/\∀(A:dU) (f:List Env) (s:aU),dI P w K mg base A f s H->Dq a s.heap/\(bZ r A->
  ∀(u:aB) (x:V) (Q:VK) (t:T) (n:aK) (z:T->aK->Prop) (y:Xp) (E:XK),RelV x u->a_ D i m H t x->aM D i m H n->l.g (aA t::p.map aA) n z y->(∀q e,z q e->∀b h o,aP m H b h->aM D i b h e->a_ D i b h q o->Q o h)->(∀c fs e,y c fs e->∀b h cv d,aP m H b h->aM D i b h e->iZ D c fs cv->bX D i b h fs d->E cv d h)->
  fP (aQ P w) A (.call (.ref a) ⟨[u],[]⟩) (CR (dD P w) f P w H s Q E) s)
structure l5(D:DP)(ls:List bJ):Prop where
 tb:∀(j:Nat) (l:bJ),ls[j]?=aA l->∃P' pos,D.tabs l.jt=aA (P',pos,l.qn)
 fn:∀(j:Nat) (l:bJ) (a c:aE) (cl:List (aG×aE)) (cs:List aE),ls[j]?=aA l->YL l.fr cl cs->D.clo (300+j) a (aA (.ext (kX a c l cl))) (.ref c::cs.map V.ref)
 ce:∀c (o:bB) u x ob,o.data=.cell (aA u)->RelV x u->D.clo 200 c (aA (.frz o ob)) [x]
 co:∀j P' pos qn c,D.tabs j=aA (P',pos,qn)->D.clo (100+j) c (aA (.ext (qE c qn))) []
noncomputable def cB(D:DP)(P:b7)(w:cV)(K:bK)(mg:aG->Option aB)(base:aR)(k:Nat)(x:aG):GM->Prop
 |.fn f=>∃fa,mg x=aA (.ref fa)/\FOk D P w K mg base k fa f
 |.fnh nm f=>∃fa,mg nm=aA (.ref fa)/\∃fd b e,eS K (.ref fa)=aC/\Binds K fd b []/\e<=k/\uS P w K mg base e fa fd b (eW D b.length f)/\∀l m K Z,f l m K Z->l.length=b.length
 |.met c nm f=>∃C g fd b e,D.cad c=aA C/\gM K C/\mK K C nm g/\(∀i,D.fn i≠aA nm)/\Binds K fd b []/\e<=k/\bQ P w K mg base (dD P w) e g fd b (eW D b.length f)/\∀l m K Z,f l m K Z->l.length=b.length
 |.mk c _ f=>∃C g fd b e,D.cad c=aA C/\mg x=aA (.ref C)/\Mk K C g/\Binds K fd b []/\e+1<=k/\bQ P w K mg base (dD P w) e g fd b (eW D b.length f)/\∀l m K Z,f l m K Z->l.length=b.length
 |.cst t=>∃u v,mg x=aA u/\RelV v u/\∀o q H,a_ D o q H t v
 |.xcl c=>∃C,D.adr c=aA C/\mg x=aA (.ref C)/\fF K C zI "ValueError.__new__"=aC
 |.xcf c _=>∃C,D.adr c=aA C/\mg x=aA (.ref C)
 |.xbt c n=>mg x=aF/\f_ x=aA (.type n)/\x≠"__name__"/\o6 c=aA n/\D.adr c=aF
 |.xin c f nm fl=>∃C E g fd b e,D.adr c=aA C/\mg nm=aA (.ref C)/\D.fn f=aA fl/\hV K C E g fl/\Binds K fd b []/\e+1<=k/\bQ P w K mg base (dD P w) e g fd b (iB C fl)/\uS P w K mg base e g fd b (iB C fl)
 |.mkd c nm n f=>∃C g fd b e,D.cad c=aA C/\mg nm=aA (.ref C)/\Mk K C g/\Binds K fd b [.none]/\e+1<=k/\bQ P w K mg base (dD P w) e g fd b (eW D b.length f)/\(∀l m K Z,f l m K Z->l.length=b.length)/\b.length=n+2
 |.metd c nm n d f=>∃C g fd b e du dv,D.cad c=aA C/\gM K C/\mK K C nm g/\(∀i,D.fn i≠aA nm)/\Binds K fd b [du]/\RelV dv du/\(∀o q H,a_ D o q H d dv)/\e<=k/\bQ P w K mg base (dD P w) e g fd b (eW D b.length f)/\(∀l m K Z,f l m K Z->l.length=b.length)/\b.length=n+2
 |.kpr=>LP D P w K mg base k/\∀j B s r,j<2->D.tabs j=aA (B,s,r)->∀a c,D.clo (2*j) a (aA (.ext (M7 a c r))) [.ref c]/\D.clo (100+j) c (aA (.ext (qE c r))) []
 |.kap A=>MW D P w K mg base k A/\l5 D A
 |.tbl y=>∃a z,mg x=aA (.ref a)/\(a==ic)=aD/\KV (y.map λp=>((.inr p.1:Key),V.int p.2)) z/\∀h:aR,K.In h->h.DictOf (zE P w) a z
 |.none=>mg x=aF
 |.bad=>True
abbrev F6(D:DP)(X:Cx)(k:Nat)(x:aG)(g:GM):Prop:=cB D X.prog X.w X.K X.mg X.base k x g
structure Cn where
 N:List aG
 G:List aG
 calm:Bool
 gl:aG->GM
 cls:List (aG×Nat)
 fld:List (aG×Nat)
 U:List aG
 cel:List aG
 own:List aG
 lam:Option (Nat×List Pos):=aF
 lnm:aG:="<lambda>"
 fz:List aG:=[]
noncomputable def Cn.sto(Γ:Cn):List aG:=Γ.N.filter λx=>!Γ.fz.contains x
noncomputable def Cn.look(Γ:Cn)(x:aG):GM:=if Γ.G.contains x then Γ.gl x else .bad
noncomputable def dC(D:DP)(mg:aG->Option aB)(base:aR)(code:aB)(qual:aG)(k:Nat)(l:Option (Nat×List Pos))(nm:aG):Prop:=∀j a,l=aA (j,a)->2<=k/\∃c P,code=.ref c/\lQ base c P/\base.BuiltinsAt mg P/\D.tabs j=aA (P,a,qual++nm)
theorem dC.no{code:aB}(h:l=aF):dC D mg base code qual k l nm:=λj pos e=>by rw[h] at e;cases e
structure Ck(D:DP)(W:XW)(Γ:Cn)(X:Cx)(k:Nat):Prop where
 hK:X.K=D.K
 hN:X.N=Γ.N
 nd:Γ.N.Nodup
 vis:∀x∈Γ.N,iI X.env.scope x
 dbg:∀x∈Γ.N,(x==("__debug__":aG))=aD/\(x==("__classdict__":aG))=aD
 dbG:∀x∈Γ.G,(x==("__debug__":aG))=aD
 glb:∀x∈Γ.G,Gl X x
 glo:∀x∈Γ.G,F6 D X k x (Γ.gl x)
 glU:∀x∈Γ.U,F6 D X k x (Γ.gl x)/\(x==("__debug__":aG))=aD
 cel:∀x∈Γ.cel,X.env.kindOf x=aA .cell\/X.env.kindOf x=aA .free
 isi:∀t x c,(x,c)∈Γ.cls->∀u v,VR D t u->BY X x v->p_ X.K u v=aA (vx t c)
 fld:∀c C x f,D.cad c=aA C->(x,f)∈Γ.fld->D.fn f=aA x/\gM X.K C/\cH X.K C x
 xcx:∀c C,D.adr c=aA C->iH X.K C
 ocx:∀c C,D.cad c=aA C->mJ X.K C
 clv:∀x c,(x,c)∈Γ.cls->∃u v,BY X x u/\gL v u
 clm:Γ.calm=aC->X.calm=aC
 rom:Γ.calm=aC->bZ k X.A
 rmh:gQ k X.A
 xe:∀e s,XP X W e s->X.xe e s
 frm:∃e0 out L,lp X e0 out L
 lam:dC D X.mg X.base X.env.code X.env.qual k Γ.lam Γ.lnm
 kfz:Γ.lam.isSome=aC->∀x∈Γ.fz,X.fn x=aD/\∀c,X.env.cells.lookup x=aA c->X.s₀.heap.objs.size<=c
theorem Ck.unt{W:XW}(C:Ck D W Γ X k):X.A.units+64<cLine:=C.rmh.units
theorem vi:∀{N:List aG} {x:aG} {i:Nat},cF N x=aA i->N[i]?=aA x
 |[],_,_,h=>by simp[cF] at h
 |y::r,x,i,h=>by
  simp only[cF] at h;split at h
  ·rename_i e;cases h;simp[e]
  ·cases q:cF r x with
   |none=>rw[q] at h;cases h
   |some j=>rw[q] at h;cases h;simpa using vi q
theorem wC(h:cF N x=aA i):x∈N:=cD (vi h)
section
variable {X:Cx}{D:DP}{W:XW}{Γ:Cn}{k:Nat}{pins:List (aE×bB)}{s:Shared}{σ:St}{H:Hp}{φ α:List aE}{τ:Sl}{μ:aK}{f g h:De}{a b c:aH}{pos:Pos}
theorem PE.mono(h:PE X e t)(m:∀σ H Q,t' σ H Q->t σ H Q):PE X e t':=λa s σ H Q I q=>h a s σ H Q I (m σ H Q q)
theorem Nw{i j pos}:PE X (.Constant (.int i) j pos) (aX D W (eC (.int i))):=PE.mono OR λd H Q ⟨b,f,c,e,g,a,p⟩=>aJ.here p a rfl
theorem MI{i j pos}:PE X (.Constant (.bool i) j pos) (aX D W (eC (.bl i))):=PE.mono MK λd H Q ⟨b,f,c,e,g,a,p⟩=>aJ.here p a rfl
theorem Pe{j pos}:PE X (.Constant .none j pos) (aX D W (eC .non)):=PE.mono O0 λd H Q ⟨b,f,c,e,g,a,p⟩=>aJ.here p a rfl
theorem NX{i j pos}:PE X (.Constant (.str i) j pos) (aX D W (eC (.str i))):=PE.mono WO λd H Q ⟨b,f,c,e,g,a,p⟩=>aJ.here p a rfl
theorem Pc(C:Ck D W Γ X k)(hi:cF Γ.N x=aA i):PE X (.Name x pos) (aX D W (eV i)):=by
 refine PE.mono (yr (i:=i) (by rw[C.hN];exact vi hi) (C.vis x (wC hi)) (C.dbg x (wC hi)).1 (C.dbg x (wC hi)).2) ?_;rintro g H Q ⟨c,j,f,h,a,b,p⟩;dsimp only[eV] at p;split at p
 ·rename_i t e;obtain⟨v,q,d⟩:=a.get e;exact⟨v,q,p.here b d⟩
 ·exact p.elim
theorem NL(C:Ck D W Γ X k)(a:x∈Γ.G)(c:Γ.gl x=.cst t):PE X (.Name x pos) (aX D W (eC t)):=by
 have g:=C.glo x a;rw[c] at g;obtain⟨u,v,e,r,d⟩:=g;exact PE.mono (Y3 (C.glb x a) e r (C.dbG x a)) λi H Q ⟨f,l,h,j,m,b,p⟩=>aJ.here p b (d _ _ _)
theorem NT(A:PE X a (aX D W f))(z:PE X b (aX D W g)):PE X (.BinOp a op b pos) (aX D W (zd op f g)):=by
 rintro i s K H Q I ⟨G,M,J,L,q,y,p⟩;refine wpAny_BinOp (a7 (sub A I q y p) ?_);rintro u S ⟨v,U,t,k,m,F,w,n,d,h,C,p1⟩;refine a7 (sub z F d h p1) ?_;rintro O R ⟨N,T,P,j,l,E,r,c,o,e,B,x⟩;exact N2 E e (C.step c) B w r x
theorem Oj(n:PE X a (aX D W f)):PE X (.UnaryOp .USub a pos) (aX D W (AH f)):=by
 rintro b s d H Q I ⟨w,z,x,y,j,m,p⟩;refine UnaryOp_ (a7 (sub n I j m p) ?_);rintro u k ⟨v,r,t,e,g,q,l,h,i,c,o,p1⟩;try dsimp only at p1
 split at p1
 ·cases o;exact O4 b k d r _ _ Q q l ⟨_,rfl,p1.here c rfl⟩
 ·exact p1.elim
theorem NW(m:PE X a (aX D W f)):PE X (.UnaryOp .Not a pos) (aX D W (Av f)):=by
 rintro d s x H Q I ⟨r,z,w,y,j,l,p⟩;refine UnaryOp_ (a7 (sub m I j l p) ?_);rintro u A ⟨v,q,t,e,g,o,k,h,i,c,n,p1⟩;try dsimp only at p1
 split at p1
 ·rename_i b;cases n;cases k;exact not_of (wpAny_truthy_bool ⟨.bl (!b),q,o,rfl,p1.here c rfl⟩)
 ·exact p1.elim
theorem Pw(b:PE X a (aX D W f)):PE X (.BoolOp op [a] pos) (aX D W f):=O9 b
theorem NV(A:PE X a (aX D W f))(z:PE X (.BoolOp .And (b::r) pos) (aX D W g)):PE X (.BoolOp .And (a::b::r) pos) (aX D W (yk f g)):=by
 rintro c s n H Q I ⟨l,E,m,C,q,y,p⟩;refine BoolOp_and (a7 (sub A I q y p) ?_);rintro u w ⟨v,k,t,e,h,j,x,o,i,d,B,p1⟩;try dsimp only at p1
 split at p1
 ·cases B;cases x;rcases p1.br with⟨rfl,p1⟩|⟨rfl,p1⟩
  ·exact wpAny_truthy_bool (z c w n k Q j ⟨l,h,m,e,i,d,p1⟩)
  ·exact wpAny_truthy_bool ⟨.bl aD,k,j,rfl,p1.here d rfl⟩
 ·exact p1.elim
theorem Ni(A:PE X a (aX D W f))(z:PE X (.BoolOp .Or (b::r) pos) (aX D W g)):PE X (.BoolOp .Or (a::b::r) pos) (aX D W (Ix f g)):=by
 rintro c s n H Q I ⟨l,E,m,C,q,y,p⟩;refine BoolOp_or (a7 (sub A I q y p) ?_);rintro u w ⟨v,k,t,e,h,j,x,o,i,d,B,p1⟩;try dsimp only at p1
 split at p1
 ·cases B;cases x;rcases p1.br with⟨rfl,p1⟩|⟨rfl,p1⟩
  ·exact wpAny_truthy_bool ⟨.bl aC,k,j,rfl,p1.here d rfl⟩
  ·exact wpAny_truthy_bool (z c w n k Q j ⟨l,h,m,e,i,d,p1⟩)
 ·exact p1.elim
theorem Om{x y:T}{v w:V}{b:Bool}(c:a_ D φ α H x v)(a:a_ D φ α H y w)(h:Ci x y=aA b):rW v w=aC/\decide (v=w)=b:=by
 unfold Ci at h
 split at h<;>first
  |(cases h;cases c;cases a;exact⟨rfl,by simp⟩)
  |cases h
theorem OW:dX X (dZ .Is) (λx y H Q=>∃a b,x=.bl a/\y=.bl b/\Q (.bl (decide (a=b))) H):=by
 intro c s f H x y v u Q I e d h;obtain⟨a,b,rfl,rfl,q⟩:=h;cases e;cases d;refine wpAny_is_plain (by rfl) ⟨.bl (decide (a=b)),H,I,?_,q⟩;cases a<;>cases b<;>rfl
theorem TJ:dX X (dZ .IsNot) (λx y H Q=>∃a b,x=.bl a/\y=.bl b/\Q (.bl (!decide (a=b))) H):=by
 intro c s f H x y v u Q I e d h;obtain⟨a,b,rfl,rfl,q⟩:=h;cases e;cases d;refine wpAny_isNot_plain (by rfl) ⟨.bl (!decide (a=b)),H,I,?_,q⟩;cases a<;>cases b<;>rfl
theorem Hy{b:Bool}{C:Prop}{x y:T}{v w:V}{kk:Bool->RE T}{Q:VK}(I:Inv X pins σ H s)(K:X.A.units+64<cLine)(G:aM D φ α H μ)(t:a_ D φ α H x v)(o:a_ D φ α H y w)(p:aJ D W φ α H σ (RV D φ Q) (sG x y μ kk))
  (h1:∀b,aJ D W φ α H σ (RV D φ Q) (kk b)->rW v w=aC/\decide (v=w)=b->C)
  (h2:∀b,aJ D W φ α H σ (RV D φ Q) (kk b)->((∀u j,RelV v u->RelV w j->∀{R:aB->aU->Prop},R (.bool b) s->wpAny (aQ X.prog X.w) X.A (dZ .Eq u j) R X.xe s)/\(∀u j,RelV v u->RelV w j->∀{R:aB->aU->Prop},R (.bool (!b)) s->wpAny (aQ X.prog X.w) X.A (dZ .NotEq u j) R X.xe s))->C):C:=by
 have lst:∀{B F:List T} {c d:aE} {h g:List V},v=.ref c->w=.ref d->Rd H c (.lst h)->Rd H d (.lst g)->aN D φ α H B h->aN D φ α H F g->aJ D W φ α H σ (RV D φ Q) (RE.grd (wI B<=40) (.som (dG B F) kk))->C:=λ{B F c d h g} f e r a l l' p=>by
  obtain⟨hd,p⟩:=p.grd;obtain⟨b,m,p⟩:=p.som;subst f e;exact h2 b p ⟨λu j k i R q=>by cases k;cases i;exact TY I l l' r a m (by lia) _ _ _ _ q,λu j k i R q=>by cases k;cases i;exact Tu I l l' r a m (by lia) _ _ _ _ q⟩
 unfold sG at p;split at p
 ·obtain⟨hd,p⟩:=p.grd;obtain⟨b,m,p⟩:=p.som;obtain⟨c,h,rfl,_,_,r,l⟩:=t;obtain⟨d,g,rfl,_,_,a,l'⟩:=o;exact h2 b p ⟨λu j k i R q=>by cases k;cases i;exact SW I l l' r a m (by lia) _ _ _ _ q,λu j k i R q=>by cases k;cases i;exact SJ I l l' r a m (by lia) _ _ _ _ q⟩
 ·obtain⟨c,h,f,_,_,r,l⟩:=t;obtain⟨d,g,e,_,_,a,l'⟩:=o;exact lst f e r a l l' p
 ·obtain⟨B,n,p⟩:=p.ex1;obtain⟨c,E,f⟩:=t;obtain⟨h,q,l⟩:=G.ob _ c _ E n;obtain⟨d,g,e,_,_,a,l'⟩:=o;exact lst f e (.inl q) a l l' p
 ·obtain⟨F,n,p⟩:=p.ex1;obtain⟨c,E,e⟩:=o;obtain⟨h,q,l⟩:=G.ob _ c _ E n;obtain⟨d,g,f,_,_,a,l'⟩:=t;exact lst f e a (.inl q) l' l p
 ·obtain⟨z,n,p⟩:=p.ex1;obtain⟨c,E,f⟩:=t;obtain⟨h,q,l⟩:=G.ob _ c _ E n.1;obtain⟨d,hd,e⟩:=o;obtain⟨g,J,l'⟩:=G.ob _ d _ hd n.2;exact lst f e (.inl q) (.inl J) l l' p
 ·split at p
  ·rename_i m;exact h1 _ p (Om t o m)
  ·exact p.elim
theorem WA{op:eK}{x y:T}{v w:V}{k j:aB}{Q:VK}(I:Inv X pins σ H s)(r:X.A.units+64<cLine)(f:aM D φ α H μ)(d:a_ D φ α H x v)(e:a_ D φ α H y w)(i:RelV v k)(g:RelV w j)
  (p:aJ D W φ α H σ (RV D φ Q) (Q8 op x y μ)):wpAny (aQ X.prog X.w) X.A (dZ op k j) (EP X pins σ Q) X.xe s:=by
 unfold Q8 at p;split at p
 ·refine Hy (b:=aC) I r f d e p (λb q h=>?_) (λb q h=>?_)
  ·obtain⟨m,l⟩:=h;exact L3 pins s σ H v w k j Q I i g ⟨m,by rw[l];exact aJ.here q f rfl⟩
  ·exact h.1 _ _ i g ⟨.bl b,H,I,rfl,aJ.here q f rfl⟩
 ·refine Hy (b:=aD) I r f d e p (λb q h=>?_) (λb q h=>?_)
  ·obtain⟨m,l⟩:=h;exact My pins s σ H v w k j Q I i g ⟨m,by rw[l];exact aJ.here q f rfl⟩
  ·exact h.2 _ _ i g ⟨.bl (!b),H,I,rfl,aJ.here q f rfl⟩
 ·unfold Ij at p;split at p
  ·cases d;cases e;exact No pins s σ H _ _ k j Q I i g ⟨_,_,rfl,rfl,aJ.here p f rfl⟩
  ·obtain⟨t,E,p⟩:=p.som;obtain⟨u,C,p⟩:=p.som;obtain⟨a,G,rfl,_,_,o,B⟩:=d;obtain⟨c,F,rfl,_,_,n,z⟩:=e;rw[wJ E B] at o;rw[wJ C z] at n;exact Oi (by omega) pins s σ H _ _ k j Q I i g ⟨a,c,t,u,rfl,rfl,.inl o,.inl n,aJ.here p f rfl⟩
  ·have d:v=.str _:=d;have e:w=.str _:=e;subst d e;obtain⟨K,rfl⟩:=i;obtain⟨J,rfl⟩:=g;exact PySem.P.lt_str ⟨.bl _,H,I,rfl,aJ.here p f rfl⟩
  ·exact p.elim
 ·split at p
  ·cases d;cases e;exact M3 pins s σ H _ _ k j Q I i g ⟨_,_,rfl,rfl,p.here f rfl⟩
  ·exact p.elim
 ·split at p
  ·cases d;cases e;exact M2 pins s σ H _ _ k j Q I i g ⟨_,_,rfl,rfl,p.here f rfl⟩
  ·exact p.elim
 ·split at p
  ·cases d;cases e;exact Mm pins s σ H _ _ k j Q I i g ⟨_,_,rfl,rfl,p.here f rfl⟩
  ·exact p.elim
 ·split at p
  ·cases e;refine NU pins s σ H _ _ k j Q I i g ⟨rfl,?_⟩;have q:=p.here f rfl
   cases x<;>first
    |(have d:v=_:=d;subst d;simpa using q)
    |(obtain⟨_,_,rfl,_⟩:=d;simpa using q)
    |(obtain⟨_,_,_,_,rfl,_⟩:=d;simpa using q)
    |(obtain⟨_,_,rfl⟩:=d;simpa using q)
    |(obtain⟨_,_,_,rfl,_⟩:=d;simpa using q)
  ·split at p
   ·have d:v=.bl _:=d;have e:w=.bl _:=e;subst d e;exact OW pins s σ H _ _ k j Q I i g ⟨_,_,rfl,rfl,p.here f rfl⟩
   ·exact p.elim
  ·exact p.elim
 ·split at p
  ·cases e;refine Sf pins s σ H _ _ k j Q I i g ⟨rfl,?_⟩;have q:=p.here f rfl
   cases x<;>first
    |(have d:v=_:=d;subst d;simpa using q)
    |(obtain⟨_,_,rfl,_⟩:=d;simpa using q)
    |(obtain⟨_,_,_,_,rfl,_⟩:=d;simpa using q)
    |(obtain⟨_,_,rfl⟩:=d;simpa using q)
    |(obtain⟨_,_,_,rfl,_⟩:=d;simpa using q)
  ·split at p
   ·have d:v=.bl _:=d;have e:w=.bl _:=e;subst d e;exact TJ pins s σ H _ _ k j Q I i g ⟨_,_,rfl,rfl,p.here f rfl⟩
   ·exact p.elim
  ·exact p.elim
 ·split at p
  ·have d:v=.str _:=d;have e:w=.str _:=e;subst d e;exact Yr pins s σ H _ _ k j Q I i g ⟨_,_,rfl,rfl,p.here f rfl⟩
  ·exact p.elim
 ·split at p
  ·have d:v=.str _:=d;have e:w=.str _:=e;subst d e;exact WX pins s σ H _ _ k j Q I i g ⟨_,_,rfl,rfl,p.here f rfl⟩
  ·exact p.elim
noncomputable def qe:aH->Bool
 |.Name _ _=>aC
 |.Constant _ _ _=>aC
 |.BinOp _ _ _ _=>aC
 |.UnaryOp _ _ _=>aC
 |.Call _ _ _ _=>aC
 |.Subscript _ _ _=>aC
 |.Attribute _ _ _=>aC
 |_=>aD
noncomputable def vb:aH->Bool
 |.Set _ _ _=>aD
 |_=>aC
noncomputable def xQ:eK->Bool
 |.In=>aD|.NotIn=>aD
 |_=>aC
noncomputable def jd(op:eK)(b:aH):Bool:=xQ op || vb b
noncomputable def kF:eK->Bool
 |.Lt=>aC|.LtE=>aC|.Gt=>aC|.GtE=>aC|.Eq=>aC|.NotEq=>aC
 |_=>aD
theorem jN(h:jd op b=aC):tT op b=aD:=by
 cases a:xQ op with
 |true=>exact HA b (by rintro rfl;simp[xQ] at a) (by rintro rfl;simp[xQ] at a)
 |false=>
  have c:vb b=aC:=by unfold jd at h;rw[a] at h;exact h
  cases b<;>first|rfl|(simp[vb] at c)
theorem Nx(C:Ck D W Γ X k)(ho:jd op b=aC)(B:PE X a (aX D W f))(A:PE X b (aX D W g)):PE X (.Compare a [op] [b] pos) (aX D W (zy op f g)):=by
 rintro i s M H Q I ⟨K,O,L,N,r,z,p⟩;refine tN (a7 (sub B I r z p) ?_) (jN ho);rintro u U ⟨v,Y,t,l,n,J,x,o,d,h,F,p1⟩;refine a7 (sub A J d h p1) ?_;rintro R T ⟨P,V,S,j,m,G,w,c,q,e,E,y⟩;exact WA G C.unt e (F.step c) E x w y
theorem ud{op:eK}{β:Type}{R:β->aK->List aE->Hp->Prop}{kk:T->aK->RE β}{x y:T}{v w:V}{e c:aB}(I:Inv X pins σ H s)(i:X.A.units+64<cLine)(h:aM D φ α H μ)(l:a_ D φ α H x v)(k:a_ D φ α H y w)(g:RelV v e)(f:RelV w c)
  (p:aJ D W φ α H σ R ((Q8 op x y μ).bind kk)):wpAny (aQ X.prog X.w) X.A (dZ op e c) (EP X pins σ λz u=>∃t r j,aP α H j u/\aM D φ j u r/\a_ D φ j u t z/\aJ D W φ j u σ R (kk t r)) X.xe s:=
 WA I i h l k g f (p.bind.mono λt a b n st m q v d=>⟨t,a,b,st,m,d,q⟩)
theorem vW:∀{ops:List eK} {es:List aH},ops.all kF=aC->lastMarks ops es=aD
 |[],es,_=>by cases es<;>rfl
 |[op],[],_=>rfl
 |[op],[e],h=>HA e (by rintro rfl;simp[kF] at h) (by rintro rfl;simp[kF] at h)
 |[op],_::_::_,_=>rfl
 |op::a::ops,[],_=>rfl
 |op::a::ops,e::es,h=>by
  have:lastMarks (a::ops) es=aD:=vW (by simp only[lK,cI] at h ⊢;exact h.2);cases es with
  |nil=>cases ops<;>rfl
  |cons b es=>exact this
noncomputable def Ul (X:Cx)(D:DP)(W:XW):List aH->List (eK×De)->Prop
 |[],[]=>True
 |e::es,p::a=>PE X e (aX D W p.2)/\Ul X D W es a
 |_,_=>False
theorem J5(B:X.A.units+64<cLine){Q:VK}:∀{ps:List (eK×De)} {es:List aH} {s:aU} {H:Hp} {α:List aE} {μ:aK} {x:T} {v:V} {u:aB},Ul X D W es ps->Inv X pins σ H s->bA D φ α H τ σ->aM D φ α H μ->a_ D φ α H x v->RelV v u->aJ D W φ α H σ (RV D φ Q) (oS ps x τ μ)->
  wpAny (aQ X.prog X.w) X.A (compareChain pos u (ps.map (·.1)) (evalEach es X.env)) (EP X pins σ Q) X.xe s
 |[],_,_,_,_,_,_,_,_,_,_,_,_,_,_,p=>p.elim
 |[(op,g)],[],_,_,_,_,_,_,_,h,_,_,_,_,_,_=>h.elim
 |[(op,g)],[e],s,H,α,μ,x,v,u,h,I,o,y,d,r,p=>by
  refine chain_last (a7 (sub h.1 I o y p) ?_);rintro K M ⟨J,Y,L,m,n,C,k,b,i,c,l,q⟩;exact WA C B c (d.step b) l r k q
 |[(op,g)],_::_::_,_,_,_,_,_,_,_,h,_,_,_,_,_,_=>h.2.elim
 |(op,g)::O::ps,[],_,_,_,_,_,_,_,h,_,_,_,_,_,_=>h.elim
 |(op,g)::O::ps,[e],_,_,_,_,_,_,_,h,_,_,_,_,_,_=>h.2.elim
 |(op,g)::(t,P)::ps,e::R::es,s,H,α,μ,x,v,u,h,I,o,y,d,r,p=>by
  refine chain_link (a7 (sub h.1 I o y p) ?_);rintro K M ⟨J,Y,L,m,n,C,k,b,i,c,l,q⟩;refine a7 (ud C B c (d.step b) l r k q) ?_;rintro dd s3 ⟨z,U,E,N,Z,F,G,f,j,S,a⟩;try dsimp only at a
  split at a
  ·cases S;cases N;rcases a.br with⟨rfl,a⟩|⟨rfl,a⟩
   ·exact wpAny_truthy_bool (ite_tt (J5 B (ps:=(t,P)::ps) (es:=R::es) h.2 E (i.step f) j (l.step f) k a))
   ·exact wpAny_truthy_bool (ite_ff ⟨.bl aD,U,E,rfl,a.here j rfl⟩)
  ·exact a.elim
theorem Tc(C:Ck D W Γ X k)(ho:(p1::d::ps).all (λp=>kF p.1)=aC)(o:PE X a (aX D W f))(h:Ul X D W (q::r::es) (p1::d::ps)):PE X (.Compare a (p1.1::d.1::ps.map (·.1)) (q::r::es) pos) (aX D W (nJ f (p1::d::ps))):=by
 rintro e s A H Q I ⟨y,E,z,B,l,n,p⟩;refine Compare_chain (a7 (sub o I l n p) ?_) (vW (by simpa[mV,ul] using ho));rintro u F ⟨v,G,t,g,i,x,m,j,b,c,w,p1⟩;exact J5 C.unt h x b c w m p1
theorem Ya(O:X.A.units+64<cLine){β:Type}{R:β->aK->List aE->Hp->Prop}{kk:Bool->aK->RE β}:∀{ps:List (eK×De)} {es:List aH} {s:aU} {H:Hp} {α:List aE} {μ:aK} {x:T} {v:V} {u:aB} {Q:Bool->Hp->Prop},Ul X D W es ps->Inv X pins σ H s->bA D φ α H τ σ->aM D φ α H μ->a_ D φ α H x v->RelV v u->aJ D W φ α H σ (λb _ _ j=>Q b j) ((oS ps x τ μ).bind xB)->
  wpAny (aQ X.prog X.w) X.A (testChain pos u (ps.map (·.1)) (evalEach es X.env)) (TP X pins σ Q) X.xe s
 |[],_,_,_,_,_,_,_,_,_,_,_,_,_,_,_,p=>aJ.elim p
 |[(op,g)],[],_,_,_,_,_,_,_,_,h,_,_,_,_,_,_=>h.elim
 |[(op,g)],[e],s,H,α,μ,x,v,u,Q,h,I,K,N,d,r,p=>by
  have p:aJ D W φ α H σ (λb _ _ j=>Q b j) ((g τ μ).bind λy i=>(Q8 op x y i).bind xB):=p;refine test_last (a7 (sub h.1 I K N p) ?_);rintro Z s2 ⟨Y,H2,t',c,J,S,E,n,t,o,F,M⟩;refine a7 (ud S O o (d.step n) F r E M) ?_;rintro dd s3 ⟨z,C,G,L,t3,q,l,m,f,P,a⟩;unfold xB at a;split at a
  ·cases P;cases L;exact wpAny_truthy_bool ⟨C,G,a.ok (aP.refl _ _) f⟩
  ·exact a.elim
 |[(op,g)],_::_::_,_,_,_,_,_,_,_,_,h,_,_,_,_,_,_=>h.2.elim
 |(op,g)::p'::ps,[],_,_,_,_,_,_,_,_,h,_,_,_,_,_,_=>h.elim
 |(op,g)::p'::ps,[e],_,_,_,_,_,_,_,_,h,_,_,_,_,_,_=>h.2.elim
 |(op,g)::(B,U)::ps,e::e'::es,s,H,α,μ,x,v,u,Q,h,I,K,N,d,r,p=>by
  have p:aJ D W φ α H σ (λb _ _ j=>Q b j) ((g τ μ).bind λy i=>(Q8 op x y i).bind λk c=>(match k with|.bl b=>RE.br b (oS ((B,U)::ps) y τ c) (.ok (.bl aD) c)|_=>RE.st:RE T).bind xB):=p;refine test_link (a7 (sub h.1 I K N p) ?_);rintro Z s2 ⟨Y,H2,t',c,J,S,E,n,t,o,F,M⟩;refine a7 (ud S O o (d.step n) F r E M) ?_;rintro dd s3 ⟨z,C,G,L,t3,q,l,m,f,P,a⟩;try dsimp only at a
  split at a
  ·rename_i bb;cases P;cases L;cases bb with
   |true=>exact wpAny_truthy_bool (ite_tt (Ya O (kk:=kk) (R:=R) (ps:=(B,U)::ps) (es:=e'::es) h.2 G (t.step m) f (F.step m) E a))
   |false=>
    have a:aJ D W φ l C σ (λb _ _ j=>Q b j) (RE.ok aD q):=a;exact wpAny_truthy_bool (ite_ff ⟨C,G,a.ok (aP.refl _ _) f⟩)
  ·have a:aJ D W φ l C σ (λb _ _ j=>Q b j) RE.st:=a;exact a.elim
end
section
variable {X:Cx}{D:DP}{W:XW}{Γ:Cn}{k:Nat}{pins:List (aE×bB)}{s:Shared}{σ:St}{H:Hp}{φ α:List aE}{τ:Sl}{μ:aK}{f g h:De}{ft gt:Dt}{a b c:aH}{pos:Pos}
theorem Ye(m:PE X a (aX D W f))(he:∀d,isTrue a X.env d=(do let v ←d;standAt a.pos;lC [v] (truthy v))):PT X a (eP D W (tE f)):=by
 rintro c s x H Q I ⟨r,z,w,y,j,l,p⟩;rw[he];refine wpAny_bind (a7 (sub m I j l p) ?_);rintro u A ⟨v,q,t,e,g,o,k,h,i,b,n,p1⟩;unfold xB at p1;split at p1
 ·cases n;cases k;exact wpAny_bind (ie (wpAny_holding (wpAny_truthy_bool ⟨q,o,p1.ok (aP.refl _ _) b⟩)))
 ·exact p1.elim
theorem Ka(C:Ck D W Γ X k)(ho:jd op b=aC)(V:PE X a (aX D W f))(U:PE X b (aX D W g)):PT X (.Compare a [op] [b] pos) (eP D W (tE (zy op f g))):=by
 rintro q s w H Q I ⟨r,J,o,B,N,T,p⟩;have p:aJ D W r J H w (λb _ _ H'=>Q b H') ((f o B).bind λx e=>(g o e).bind λy c=>(Q8 op x y c).bind xB):=p;refine ww (a7 (sub V I N T p) ?_) (jN ho);rintro u s1 ⟨v,H1,t,e,G,I1,R,L,j,n,d1,p1⟩;refine a7 (sub U I1 j n p1) ?_;rintro u' s2 ⟨v',H2,t',c,F,I2,P,i,M,m,Z,S⟩;refine a7 (ud I2 C.unt m (d1.step i) Z R P S) ?_;rintro d s3 ⟨z,H3,I3,O,t3,A,E,K,l,Y,h⟩;unfold xB at h;split at h
 ·cases Y;cases O;exact wpAny_truthy_bool ⟨H3,I3,h.ok (aP.refl _ _) l⟩
 ·exact h.elim
theorem JN(C:Ck D W Γ X k)(ho:(p1::d::ps).all (λp=>kF p.1)=aC)(A:PE X a (aX D W f))(h:Ul X D W (E::B::es) (p1::d::ps)):PT X (.Compare a (p1.1::d.1::ps.map (·.1)) (E::B::es) pos) (eP D W (tE (nJ f (p1::d::ps)))):=by
 rintro j s m H Q I ⟨l,q,i,n,w,z,p⟩;have p:aJ D W l q H m (λb _ _ J=>Q b J) ((f i n).bind λx c=>(oS (p1::d::ps) x i c).bind xB):=p;refine isTrue_chain (a7 (sub A I w z p) ?_) (vW (by simpa[mV,ul] using ho));rintro u K ⟨v,L,t,c,o,G,y,r,e,g,F,p1⟩;exact Ya (kk:=λ_ _=>RE.st (β:=Bool)) (R:=λ_ _ _ _=>True) C.unt h G e g F y p1
theorem OY(v:PT X a (eP D W ft))(u:PW X (.BoolOp .And (b::r) pos) (eP D W gt)):PW X (.BoolOp .And (a::b::r) pos) (eP D W (x_ ft gt)):=by
 intro d e s k H Q I t;refine NG v u d e s k H Q I ?_;obtain⟨h,n,i,l,j,o,p⟩:=t;refine⟨h,n,i,l,j,o,p.bind.mono λc f g w st m q=>?_⟩;rcases q.br with⟨rfl,q⟩|⟨rfl,q⟩
 ·exact⟨h,g,i,f,j.step st,m,q⟩
 ·exact q.ok (aP.refl _ _) m
theorem ML(v:PT X a (eP D W ft))(u:PW X (.BoolOp .Or (b::r) pos) (eP D W gt)):PW X (.BoolOp .Or (a::b::r) pos) (eP D W (gC ft gt)):=by
 intro d e s k H Q I t;refine MR v u d e s k H Q I ?_;obtain⟨h,n,i,l,j,o,p⟩:=t;refine⟨h,n,i,l,j,o,p.bind.mono λc f g w st m q=>?_⟩;rcases q.br with⟨rfl,q⟩|⟨rfl,q⟩
 ·exact q.ok (aP.refl _ _) m
 ·exact⟨h,g,i,f,j.step st,m,q⟩
theorem ND(o:PT X a (eP D W ft)):PT X (.UnaryOp .Not a pos) (eP D W (qF ft)):=by
 intro b s f H Q I n;refine Ps o b s f H Q I ?_;obtain⟨d,j,e,h,k,l,p⟩:=n;exact⟨d,j,e,h,k,l,p.bind.mono λc g i r st m q=>q.ok (aP.refl _ _) m⟩
theorem Mq(w:PT X c (eP D W ft))(y:PE X a (aX D W f))(x:PE X b (aX D W g)):PE X (.IfExp c a b pos) (aX D W (o5 ft f g)):=by
 rintro e s n H Q I ⟨l,A,m,z,u,v,p⟩;refine wpAny_IfExp (a7 (FX w I u v p) ?_);rintro d o ⟨r,h,i,q,t,j,k,p1⟩;rcases p1.br with⟨rfl,p1⟩|⟨rfl,p1⟩
 ·exact y e o n r Q q ⟨l,i,m,h,j,k,p1⟩
 ·exact x e o n r Q q ⟨l,i,m,h,j,k,p1⟩
noncomputable def ql:aH->Bool
 |.Name _ _=>aC
 |.Attribute _ _ _=>aC
 |.Subscript _ _ _=>aC
 |.Call (.Name x _) _ _ _=>x != ("super":aG)
 |.Call (.Attribute _ _ _) _ _ _=>aC
 |_=>aD
theorem aJ.ex3{β b a c:Type}{R:β->aK->List aE->Hp->Prop}{P:b->a->Prop}{d:b->a->c->Prop}{r:b->a->c->RE β}(p:aJ D W φ α H σ R (λK Z=>∃x y z,P x y/\d x y z/\r x y z K Z)):∃x y z,P x y/\d x y z/\aJ D W φ α H σ R (r x y z):=by
 obtain⟨K,Z,⟨x,y,z,h1,h2,q⟩,h⟩:=p;exact⟨x,y,z,h1,h2,K,Z,q,h⟩
theorem aJ.ex2{β a b:Type}{R:β->aK->List aE->Hp->Prop}{P:a->Prop}{c:a->b->Prop}{r:a->b->RE β}(p:aJ D W φ α H σ R (λK Z=>∃x y,P x/\c x y/\r x y K Z)):∃x y,P x/\c x y/\aJ D W φ α H σ R (r x y):=by
 obtain⟨K,Z,⟨x,y,h1,h2,q⟩,h⟩:=p;exact⟨x,y,h1,h2,K,Z,q,h⟩
theorem vU(h:qe b=aC):PK b:=by
 intro o i;cases b<;>first|(simp[qe] at h;done)|rfl
theorem uw(l:aN D φ α H ts xs)(h:vH ts i=aA t):∃v,mH xs i=aA v/\a_ D φ α H t v:=by
 unfold vH at h;have e:o1 xs.length i=U6 ts.length i:=by rw[l.length];rfl
 unfold mH;rw[e];cases q:U6 ts.length i with
 |none=>rw[q] at h;cases h
 |some j=>
  rw[q] at h;exact l.get h
theorem Mx(i:qe b=aC)(hK:X.K=D.K)(Y:PE X a (aX D W f))(V:PE X b (aX D W g)):PE X (.Subscript a b pos) (aX D W (bD f g)):=by
 rintro e s n H Q I ⟨φ,α,τ,μ,P,R,p⟩;refine Subscript_ (a7 (sub Y I P R p) ?_);rintro u s1 ⟨v,H1,t,J,M,I1,x,N,C,E,j,p1⟩;refine a7 (sub V I1 C E p1) ?_;rintro u' o ⟨v',A,t',G,L,y,q,B,O,h,d2,d⟩;have j:=j.step B;unfold Hg at d;split at d
 ·cases d2;split at d
  ·obtain⟨w,hw,d⟩:=d.som;obtain⟨ad,k,rfl,_,_,r,l⟩:=j;obtain⟨z,m,dz⟩:=uw l hw;exact Yf a b e o n A _ _ _ _ Q y x q ⟨ad,k,_,z,rfl,rfl,.inl r,m,d.here h dz⟩ (vU i _ _)
  ·obtain⟨w,hw,d⟩:=d.som;obtain⟨ad,k,rfl,_,_,r,l⟩:=j;obtain⟨z,m,dz⟩:=uw l hw;exact NI a b e o n A _ _ _ _ Q y x q ⟨ad,k,_,z,rfl,rfl,.inl r,m,d.here h dz⟩ (vU i _ _)
  ·obtain⟨ts,w,T,hw,d⟩:=d.ex2;obtain⟨ad,F,rfl⟩:=j;obtain⟨k,Z,l⟩:=h.ob _ ad _ F T;obtain⟨z,m,dz⟩:=uw l hw;exact Yf a b e o n A _ _ _ _ Q y x q ⟨ad,k,_,z,rfl,rfl,.inl (.inl Z),m,aJ.here d h dz⟩ (vU i _ _)
  ·obtain⟨S,d⟩:=d.grd;obtain⟨c,U,d⟩:=d.som;have j:v=.str _:=j;subst j;exact Pg a b e o n A _ _ _ _ Q y x q ⟨_,_,c,rfl,rfl,zx S,U,d.here h rfl⟩ (vU i _ _)
  ·exact d.elim
 ·exact d.elim
noncomputable def aO:aH->Bool
 |.Starred _ _=>aD
 |_=>aC
theorem z3(h:aO e=aC):eF (e::es) env=(aD,eval e env)::eF es env:=by
 cases e<;>first|(simp[aO] at h;done)|rfl
theorem qB(h:es.all aO=aC):(fN pos (eF es env)).any (·.1)=aD:=by
 induction es with
 |nil=>rfl
 |cons e es a=>
  simp only[lK,cI] at h;rw[z3 h.1];have:=a h.2
  first
   |(simp[fN] at this ⊢;exact this)
   |(simpa[fN] using this)
theorem Pb:PA X [] (oY D W 0 (gF [])):=by
 rintro b a s c H Q I ⟨e,h,f,g,i,d,p⟩;exact zZ b a s c H Q I (aJ.ok p (aP.refl _ _) d [] rfl rfl)
theorem Rb(hs:aO e=aC)(G:PE X e (aX D W f))(C:PA X es (oY D W n (gF fs))):PA X (e::es) (oY D W (n+1) (gF (f::fs))):=by
 intro k c s l H Q I E;refine zr G C (z3 hs) k c s l H Q I ?_;obtain⟨h,r,g,o,w,A,p⟩:=E;have p:aJ D W h r H l _ ((f g o).bind λt a=>(gF fs g a).bind λu b=>.ok (t::u) b):=p;refine⟨h,r,g,o,w,A,p.bind.mono λt a i K st m q v d=>?_⟩;refine⟨h,i,g,a,w.step st,m,q.bind.mono λu b x J j B z y dl F=>?_⟩;exact z.ok (aP.refl _ _) B _ ⟨v,y,rfl,d.step j,dl⟩ (by simp[F])
noncomputable def dT (X:Cx)(D:DP)(W:XW):List aH->List De->Prop
 |[],[]=>True
 |e::es,f::fs=>aO e=aC/\PE X e (aX D W f)/\dT X D W es fs
 |_,_=>False
theorem j5:∀{es:List aH} {fs:List De},dT X D W es fs->PA X es (oY D W es.length (gF fs))
 |[],[],_=>Pb
 |e::es,f::fs,h=>Rb h.1 h.2.1 (j5 h.2.2)
 |[],_::_,h=>h.elim
 |_::_,[],h=>h.elim
theorem dT.stars:∀{es:List aH} {fs:List De},dT X D W es fs->es.all aO=aC
 |[],[],_=>rfl
 |e::es,f::fs,h=>by simp[h.1,dT.stars h.2.2]
 |[],_::_,h=>h.elim
 |_::_,[],h=>h.elim
theorem O_(n:es.length<=aZ)(h:dT X D W es fs):PE X (.List es pos) (aX D W (Zs fs)):=by
 refine PE.mono (UA (j5 h)) ?_;rintro o H Q ⟨b,g,c,e,j,k,p⟩;refine⟨b,g,c,e,j,k,p.bind.mono λr d f s st m q i dl l=>⟨by rw[l];exact zx n,λz a=>?_⟩⟩;exact q.fresh m (za a) ⟨z,i,rfl,zh m a,zi m a,.inl z4,dl.step (aP.new (za a))⟩
theorem N6(n:es.length<=aZ)(h:dT X D W es fs):PE X (.Tuple es kk pos) (aX D W (v5 fs)):=by
 refine PE.mono (HD (j5 h)) ?_;rintro o H Q ⟨b,g,c,e,j,k,p⟩;refine⟨b,g,c,e,j,k,p.bind.mono λr d f s st m q i dl l=>⟨by rw[l];exact zx n,λz a=>?_⟩⟩;exact q.fresh m (za a) ⟨z,i,rfl,zh m a,zi m a,.inl z4,dl.step (aP.new (za a))⟩
end
section
open PySem.W
theorem QS{K:Frag}(X:K.In s.heap)(I:InstAt s.heap x ox D od)
 (f:cZ K (.ref D) "__getattribute__"=aA (aA (.builtin "BaseException.__getattribute__"))) (hk:cZ K (.ref D) "__getattr__"=aA aF)
 (l:findObj K D od "__class__"=aA (.bind (.builtin "getset_descriptor.__get__") (.builtin "object.__class__"))) (k:gT K D (.type "object")=aA aC) (n:gT K D (.type "BaseException")=aA aC)
 (h:Q (aA (.ref D)) {s with toks:=s.toks+1}):wpAny (aQ prog w) A (px (.ref x) "__class__") Q E s:=by
 obtain⟨j,g,d,t,os⟩:=s;have b:=I.type (M:=aQ prog w);have u:=pO (M:=aQ prog w) X f;have L2:=pO (M:=aQ prog w) X hk;have i:=looks_find (M:=aQ prog w) X I l;have r:=looks_mroIn (M:=aQ prog w) X n;have p:=Fk.ga.bind (.ref x);unfold px getAttrBy? getAttrBy;refine wpAny_bind (wpAny_mkText (wpAny_bind (pT (wpAny_holding (wpAny_bind (b.at (wpAny_bind (u.at ?_))))))));show wpAny _ _ (Ea (.ref x) _ (.ref D) (.builtin "BaseException.__getattribute__") aD aD) _ _ _;unfold Ea hookBefore;refine wpAny_bind ?_;show wpAny _ _ (nZ (.ref D) "__getattr__") _ _ _;refine L2.at ?_;refine wpAny_bind (pT (wpAny_holding ?_));unfold callGetattribute boundAndCalled;show wpAny _ _ (bindSpecial (.builtin "BaseException.__getattribute__") (.ref x) >>= _) _ _ _;rw[p];refine wpAny_bind (wpAny_pure ?_);show wpAny _ _ (call (.builtin "BaseException.__getattribute__") [.ref x,.str "__class__" _]) _ _ _;refine iN (Ad Fk.ga.plain PySem.F.entry_bexc_ga ?_);have e:builtinKind "BaseException.__getattribute__"=aA .slot:=by decide +kernel
 have c:splitId "BaseException.__getattribute__"=aA ("BaseException","__getattribute__"):=by decide +kernel
 have o:=PySem.F.args_bexc_ga (.ref x) (.str "__class__" t);have q:nW (aQ prog w) j (sT (.ref x) (.type "BaseException")) aC:=b.andThen r;simp only[checkBuiltinCall,e,c];refine wpAny_bind (q.at ?_);simp only[Bool.not_true,oq,if_false];refine ml (a:=()) o ?_;unfold ir.«object.__getattribute__»;refine wpAny_bind (m:=slotArgs _ _ _) (wpAny_pure ?_);dsimp only;refine wpAny_bind ?_;show wpAny _ _ (Fw (.str "__class__" t)) _ _ _
 first
  |exact wpAny_pure (wpAny_bind (b.at (wpAny_bind (i.at ?_))))
  |(refine wpAny_pure (wpAny_bind (b.at (wpAny_bind (i.at ?_)))))
  |(unfold Fw;refine wpAny_pure (wpAny_bind (b.at (wpAny_bind (i.at ?_)))))
 dsimp only;unfold Lh;show wpAny _ _ (lC [DE "object.__class__"] (call (.builtin "getset_descriptor.__get__") [.builtin "object.__class__",.ref x,.ref D]) >>= ret) _ _ _;refine wpAny_bind (wpAny_holding (iN (class_get (s:=⟨j,g,d,t+1,os⟩) X I k ?_)));refine wpAny_pure ?_;exact handed_on rfl (wpAny_pure h)
theorem iH.fo{K:Frag}(h:iH K C)(od:Option bB):findObj K C od "__class__"=aA (.bind (.builtin "getset_descriptor.__get__") (.builtin "object.__class__")):=by
 have a:=h.cl;obtain⟨cd,e⟩:=rN.mp a;unfold findObj;rw[e,h.fi];simp only[rg];rw[h.sp];simp only[rg];rw[h.tk];rfl
noncomputable def XcP (x C:aE)(d:Option aE)(h:aR):Prop:=Bl x C d h/\∀dx,d=aA dx->∃o,h.get? dx=aA o
theorem S5{K:Frag}(b:iH K C):KitX K (.ref x) (.ref C) (XcP x C d) where
 ty:=λM h _ p=>by
  obtain⟨⟨j,t,g,f,r,m⟩,_⟩:=p;exact f▸(Dv g).andThen .now
 it:=λM h X _=>by
  have a:=b.cl;unfold mj at a;split at a
  ·rename_i A y s i c;intro G E F D k q;unfold isType loadHead;exact wpAny_bind (wpAny_loadPart (k _ _ (X _ _ c)) (wpAny_pure q))
  ·cases a
 ne:=λh u dd v n B X l=>by
  refine D2.mpr λq=>?_;have e:C=u:=Value.ref.inj (beq_iff_eq.mp q);subst e;have a:=b.cl;unfold mj at a;split at a
  ·rename_i A y s i c;have z:=(X _ _ c).symm.trans l;cases z
  ·cases a
 ca:=λX p k=>by
  obtain⟨⟨j,t,g,f,r,m⟩,w⟩:=p;cases d with
  |none=>
   refine QS (ox:=j) (od:=aF) X ⟨g,f,?_,?_⟩ b.ga b.hk (b.fo _) b.ob b.bx k
   ·unfold notCls;rw[r]
   ·rw[m];trivial
  |some dx=>
   obtain⟨o,c⟩:=w dx rfl;refine QS (ox:=j) (od:=aA o) X ⟨g,f,?_,?_⟩ b.ga b.hk (b.fo _) b.ob b.bx k
   ·unfold notCls;rw[r]
   ·rw[m];exact c
end
section
variable {X:Cx}{D:DP}{W:XW}{Γ:Cn}{k:Nat}{pins:List (aE×bB)}{s:Shared}{σ:St}{H:Hp}{φ α:List aE}{τ:Sl}{μ:aK}{f g h:De}{a b c:aH}{pos:Pos}{es:List aH}{fs:List De}
theorem qX{e:aH}{f:aG}{env:Env}(h:ql e=aC):m_ e f env (eval e env)=eval e env:=by
 cases e with
 |Call g args a p=>
  cases g with
  |Name x c=>
   have b:(x != ("super":aG))=aC:=h;cases args<;>cases a<;>first|rfl|(unfold m_;simp[b])
  |Attribute _ _ _=>rfl
  |_=>exact absurd (show aD=aC from h) fG
 |_=>first|exact absurd (show aD=aC from h) fG|rfl
theorem bX.ext{D:DP}{fs:List (Nat×T)}{d:Option aE}(x:bX D φ α H fs d)(I:Inv X pins σ H s):∀dx,d=aA dx->∃o,s.heap.get? dx=aA o:=λdx e=>by
 subst e;obtain⟨a,_,_,e,_⟩:=x;exact QX (I.hok dx _ e)
noncomputable def oX (D:DP)(W:XW)(f:Dp):TO:=λσ H Q=>nN D H σ λφ α τ μ=>aJ D W φ α H σ (λo _ _ a=>Q o a) (f τ μ)
theorem SD:PO X aF (oX D W pN):=by
 rintro a s b H Q I ⟨d,g,e,f,h,c,p⟩;exact PJ a s b H Q I (aJ.ok p (aP.refl _ _) c)
theorem Su(h:PE X a (aX D W f)):PO X (aA a) (oX D W (pS f)):=by
 rintro b s g H Q I ⟨c,l,e,j,n,o,p⟩;refine Rx h b s g H Q I ⟨c,l,e,j,n,o,p.bind.mono λt i k r st m q v d=>?_⟩;split at q
 ·cases d;exact⟨_,rfl,q.ok (aP.refl _ _) m⟩
 ·exact q.elim
theorem kU(l:aN D φ α H ts xs)(lo hi:Option Int):aN D φ α H (yl ts lo hi) (Qj xs lo hi):=by
 have e:ts.length=xs.length:=l.length;have a:∀n d o,Uh n d o=HT.sIx n d o:=λn d o=>by cases o<;>rfl
 unfold yl Qj;rw[a,a,e];exact (l.drop _).take _
theorem xO{lo:Option Int}(a:io s.heap t items)(hs:s.heap.IsSliceOf j u r .none)(f:iL u lo)(e:iL r hi)
  (hw:HT.sIx items.size 0 lo=0/\HT.sIx items.size items.size hi=items.size) (h:Q (.ref t) s):wpAny (aQ prog w) A (iq (.ref t) (.ref j)) Q E s:=by
 obtain⟨os,b,c,g⟩:=id hs;have d:s.TypeIs (.ref j) "slice":=⟨os,b,c⟩;unfold iq;try with_reducible refine wpAny_holding ?_
 first|refine wpAny_bind (wpAny_pure ?_)|skip
 refine wpAny_bind (D4 a.typeIs (by decide) ?_);refine wpAny_bind (Fm (name:=e_ "__getitem__") a.typeIs mv (Ek mv a.typeIs EZ ?_ (EI _ _)));show wpAny _ _ (Fo (.ref t) >>= _) _ _ s;refine wpAny_bind (tupleItemsOf_ a ?_);refine wpAny_bind (mW d ?_);rw[if_pos (by decide)];refine wpAny_bind (HT.sliceApplied_gen hs f e ?_);show wpAny _ _ (if (((HT.sIx items.size 0 lo:Nat):Int)==0&&(1:Int)==1&&(HT.sIx items.size items.size hi-HT.sIx items.size 0 lo)==items.size)=aC then _ else _) _ _ s;rw[if_pos (by rw[hw.1,hw.2];simp)];refine wpAny_bind ?_;unfold IU;refine wpAny_bind (mW a.typeIs (wpAny_pure ?_));rw[if_pos (by decide)]
 first
  |exact wpAny_bind (mf (wpAny_pure ⟨_,rfl,wpAny_pure h⟩))
  |exact wpAny_bind (mf (wpAny_bind (wpAny_pure (wpAny_pure ⟨_,rfl,wpAny_pure h⟩))))
theorem Rk:lm X (λx lo hi H Q=>∃a xs,x=.ref a/\fS X.K H a xs/\(HT.sIx xs.length 0 lo=0/\HT.sIx xs.length xs.length hi=xs.length)/\Q (.ref a) H):=by
 intro d s l H x v n m lo hi o Q I f k i g h;obtain⟨a,xs,rfl,j,hw,q⟩:=h;cases f;obtain⟨c,r,e,p⟩:=I.tuple j;have b:c.toArray.size=xs.length:=by rw[dJ];exact r.length.symm
 exact⟨"tuple",_,mv.lookup,e.typeIs,xO e k i g (by rw[b];exact hw) ⟨.ref a,H,I,rfl,q⟩⟩
theorem Pq:lm X (λx lo hi H Q=>∃z,x=.str z/\z.length<=sizeLine/\Q (.str (Txt.slice z lo hi)) H):=by
 intro a s c H x v e d lo hi m Q I n y p b h;obtain⟨z,rfl,r,q⟩:=h;obtain⟨f,rfl⟩:=n;refine⟨"str",_,F.slot_str_getitem.lookup,sW _ _ _,?_⟩;obtain⟨o,D,C,B⟩:=y;have fin:∀(l u:Option (Int×Tok)),e=partValue l->d=partValue u->lo=l.map (·.1)->hi=u.map (·.1)->wpAny (aQ X.prog X.w) X.A (iq (.str z f) (.ref m)) (EP X a c Q) X.xe s:=by
  rintro l u rfl rfl rfl rfl;exact wpAny_getItem_str_slice (l:=l) (u:=u) (st:=aF) ⟨o,D,C,B⟩ rfl (post_val_or_str ⟨cL (Txt.slice_le z _ _) r,λg k=>⟨.str _,H,I.tok _,⟨g,rfl⟩,q⟩⟩)
 cases p with
 |none=>
  cases b with
  |none=>exact fin aF aF rfl rfl rfl rfl
  |int j u=>exact fin aF (aA (j,u)) rfl rfl rfl rfl
 |int i t=>
  cases b with
  |none=>exact fin (aA (i,t)) aF rfl rfl rfl rfl
  |int j u=>exact fin (aA (i,t)) (aA (j,u)) rfl rfl rfl rfl
theorem UT{lo:Option aH}(P:PE X a (aX D W f))(N:PO X lo (oX D W fo))(M:PO X hi (oX D W go)):PE X (.Subscript a (.Slice lo hi aF U) pos) (aX D W (o3 f fo go)):=by
 refine PE.mono (T4 (Sr.or (N7.or (Rk.or Pq))) P N M) ?_;rintro S H Q ⟨k,F,n,C,y,K,p⟩;refine⟨k,F,n,C,y,K,p.bind.mono λt s x Z st m q v d=>?_⟩;refine⟨k,x,n,s,y.step st,m,q.bind.mono λl o w Y i L G=>?_⟩;refine⟨k,w,n,o,(y.step st).step i,L,G.bind.mono λu B E V j h g=>?_⟩;unfold Gx at g;split at g
 ·obtain⟨ad,c,rfl,_,_,r,dl⟩:=(d.step i).step j;refine .inl ⟨ad,c,rfl,.inl r,λz b=>?_⟩;exact g.fresh h (za b) ⟨z,_,rfl,zh h b,zi h b,.inl z4,kU (dl.step (aP.new (za b))) _ _⟩
 ·obtain⟨ad,c,rfl,J,I,r,dl⟩:=(d.step i).step j;by_cases hw:HT.sIx c.length 0 l=0/\HT.sIx c.length c.length u=c.length
  ·refine .inr (.inr (.inl ⟨ad,c,rfl,.inl r,hw,?_⟩));have e:Qj c l u=c:=by unfold Qj;rw[hw.1,hw.2];simp
   have dd:=kU dl l u;rw[e] at dd;exact g.here h ⟨ad,c,rfl,J,I,r,dd⟩
  ·refine .inr (.inl ⟨ad,c,rfl,.inl r,hw,λz b=>?_⟩);exact g.fresh h (za b) ⟨z,_,rfl,zh h b,zi h b,.inl z4,kU (dl.step (aP.new (za b))) _ _⟩
 ·obtain⟨b,g⟩:=g.grd;have d:v=.str _:=d;subst d;exact .inr (.inr (.inr ⟨_,rfl,zx b,g.here h rfl⟩))
 ·obtain⟨T,O,g⟩:=g.ex1;obtain⟨ad,A,rfl⟩:=(d.step i).step j;obtain⟨c,R,dl⟩:=h.ob _ ad _ A O;refine .inl ⟨ad,c,rfl,.inl (.inl R),λz b=>?_⟩;exact aJ.fresh g h (za b) ⟨z,_,rfl,zh h b,zi h b,.inl z4,kU (dl.step (aP.new (za b))) _ _⟩
 ·exact g.elim
theorem ui{g:Fn}{fa:aE}{fd:FuncData}{ps:List aG}{kk:Nat}{us:List aB}{vs:List V}{ts:List T}{Q:VK}(C:Ck D W Γ X k)(F:bQ X.prog X.w X.K X.mg X.base (dD X.prog X.w) kk fa fd ps (eW D ps.length g))
  (o:bZ kk X.A) (t:Binds X.K fd ps []) (h:∀ts μ K Z,g ts μ K Z->ts.length=ps.length) (I:Inv X pins σ H s) (r:aW vs us) (m:aM D φ α H μ) (d:aN D φ α H ts vs) (p:aJ D W φ α H σ (RV D φ Q) (g ts μ)) :
  wpAny (aQ X.prog X.w) X.A (call (.ref fa) us) (EP X pins σ Q) X.xe s:=by
 obtain⟨K,Z,q,a,n⟩:=p;have i:ts.length=ps.length:=h ts μ K Z q;have j:eW D ps.length g vs H Q (λc d b=>W c d σ b):=⟨by rw[←d.length];exact i,φ,α,ts,μ,d,m,K,Z,q,a,n⟩;have f:us.length=ps.length:=by rw[←r.length,←d.length];exact i
 refine iN (i8 (F.run X.A X.stack s H ⟨us,[]⟩ us vs Q (λc d b=>W c d σ b) o I.env0 (by simpa using t s us I.kIn (by simpa using f)) r j) λr l a=>?_);cases r with
 |error e=>exact C.xe e l (uj (E:=λc d b=>W c d σ b) I a λcls d b w=>w)
 |ok fl=>
  cases fl with
  |ret u=>exact I.after a
  |next=>exact eG a
  |brk=>exact eG a
  |cont=>exact eG a
theorem Re(C:Ck D W Γ X k){x:aG}{g:Fn}{p0:Pos}(c:x∈Γ.G)(E:Γ.gl x=.fn g)(F:Γ.calm=aC)(i:dT X D W es fs):PE X (.Call (.Name x p0) es [] pos) (aX D W (z9 g fs)):=by
 have q:=C.glo x c;rw[E] at q;obtain⟨fa,B,fd,T,U,n,o,h,Fn,a⟩:=q;have m:=(C.rom F).mono h;have d:=i.stars;have A:=j5 i;rintro j s M H Q I ⟨K,O,L,N,y,l,p⟩;refine gW (wA I (C.glb x c) B ?_ (C.dbG x c));cases es with
 |nil=>
  cases fs with
  |nil=>exact rJ I.kIn n (ui (ts:=[]) C Fn m o a I .nil l rfl p)
  |cons f fs=>exact i.elim
 |cons e es=>
  simp only[lK,cI] at d;refine oo (h₀:=X.base) I.ok.mod.kin n (a7 (rY A I y l p) ?_) (z3 d.1) (qB d.2);rintro R S ⟨P,V,ts,t,u,r,z,v,w,b,J,_,p1⟩;exact⟨r.kIn,ui C Fn m o a r z b J p1⟩
theorem iC{c:Nat}{g:Fn}{C0 fI:aE}{fd:FuncData}{ps:List aG}{kk:Nat}{us:List aB}{vs:List V}{ts:List T}{Q:VK}(C:Ck D W Γ X k)(ad:D.cad c=aA C0)(M:Mk X.K C0 fI)(F:bQ X.prog X.w X.K X.mg X.base (dD X.prog X.w) kk fI fd ps (eW D ps.length g))
  (hr:bZ (kk+1) X.A) (hb:Binds X.K fd ps []) (har:∀ts μ K Z,g ts μ K Z->ts.length=ps.length) (I:Inv X pins σ H s) (r:aW vs us) (y:aM D φ α H μ) (d:aN D φ α H ts vs) (p:aJ D W φ α H σ (RV D φ Q) (VC c g ts μ)) :
  wpAny (aQ X.prog X.w) X.A (call (.ref C0) us) (EP X pins σ Q) X.xe s:=by
 obtain⟨K,Z,⟨hp,hg⟩,hk,hz⟩:=p;have hl:(T.mut 0::ts).length=ps.length:=har _ _ _ _ hg;have hq:∀x dx,H x=aF->H dx=aF->dx≠x->eW D ps.length g (.ref x::(vs++[])) (upd (upd H dx (.own x)) x (.ins C0 dx [])) (λv H2=>v=.non/\Q (.ref x) H2) (λc d G=>W c d σ G):=by
  intro x dx L hdx hne;have R:ju H (upd (upd H dx (.own x)) x (.ins C0 dx [])):=λb o e=>by rw[z8 (zN e L),z8 (zN e hdx)];exact e
  have Y:aP [] H [x] (upd (upd H dx (.own x)) x (.ins C0 dx [])):=⟨⟨[x],rfl,λb h=>by rw[bU.mp h];exact L⟩,λb o _ e=>R b o e,λb e=>by
   cases q:H b with
   |none=>rfl
   |some o=>rw[R b o q] at e;cases e⟩
  have nx:x∉φ++α:=λz=>(b_.mp z).elim (zh y L) (zi y L);have ph:∀b∈φ++α,∃o,H b=aA o/\sx o=aC:=λb h=>(b_.mp h).elim (y.phi b) λz=>by
   obtain⟨i,hi⟩:=ii.mp z;have hl':i<μ.length:=by rw[←y.len];exact (bH.mp hi).1
   exact (y.ob i b μ[i] hi (by simp[hl'])).some
  refine⟨by simp only[eZ,gA] at hl ⊢;rw[←d.length];exact hl,φ++α,[x],.mut 0::ts,[.obj c []],⟨.ref x,vs++[],rfl,⟨x,rfl,rfl⟩,by rw[gA];exact (aN.hide hp d Rm).step Y⟩,⟨rfl,by simp,λb h=>by rw[bU.mp h];exact nx,λb h=>let ⟨o,e,n⟩:=ph b h;⟨o,R b o e,n⟩,λi a o P e2=>?_⟩,?_⟩
  ·cases i with
   |zero=>simp at P e2;subst P e2;exact⟨C0,dx,[],ad,z4,rfl⟩
   |succ i=>simp at P
  have B:∀{J:List aE} {O:Hp},aP [x] (upd (upd H dx (.own x)) x (.ins C0 dx [])) J O->ju H O:=λst b o e=>st.keep b o (λz=>by rw[bU.mp z,L] at e;cases e) (R b o e);refine⟨_,_,hg,?_,?_⟩
  ·rintro t U ⟨rfl,fs,h0,N,q⟩ J O st m v dv;refine⟨dv,?_⟩;obtain⟨β,rfl,_⟩:=st.ext;obtain⟨C1,dx1,gs,ad1,P,lf⟩:=m.ob 0 x _ rfl h0;have j:=B st;exact hk _ _ q α O (aP.new j) (y.new j) _ ⟨x,C1,dx1,gs,rfl,zh y L,zi y L,ad1,P,bL.hide N lf VU⟩
  ·rintro e fs U ⟨N,q⟩ J O C1 d1 st m had xd;have j:=B st;exact hz _ _ _ q α O C1 d1 (aP.new j) (y.new j) had (bX.hide N xd VU)
 have hq1:=hq (s.heap.objs.size+1) s.heap.objs.size (I.hok.fresh (h_ _)) (I.hok.fresh (bC _)) (c7 (lL _));have S:=Inv.made (C:=C0) I;have r2:aW (V.ref (s.heap.objs.size+1)::(vs++[])) (cO (s.heap.objs.size+1)::us):=.cons rfl (by rw[gA];exact r);have hlu:(cO (s.heap.objs.size+1)::us++[]).length=ps.length:=by
  rw[gA,eZ,←r.length,←d.length];exact hl
 refine iN (Js (f:=fI) I.kIn M.makes M.init (beq_iff_eq.mp M.fn) (i8 (F.run _ X.stack _ _ ⟨cO (s.heap.objs.size+1)::us,[]⟩ (cO (s.heap.objs.size+1)::us) _ _ (λc d G=>W c d σ G) (hr.make C0 us [])
  (S.env0.make C0 us []) (by simpa using hb _ (cO (s.heap.objs.size+1)::us) S.kIn hlu) r2 hq1) λr s' l=>?_))
 cases r with
 |error e=>exact C.xe e s' (uj (E:=λc d G=>W c d σ G) S l λcls d G w=>w)
 |ok fl=>
  cases fl with
  |ret u=>
   obtain⟨v,G,I3,rv,ev,q3⟩:=S.after l;subst ev;exact⟨rv,⟨V.ref (s.heap.objs.size+1),G,I3,rfl,q3⟩⟩
  |next=>exact eG l
  |brk=>exact eG l
  |cont=>exact eG l
theorem R7(C:Ck D W Γ X k){x:aG}{c:Nat}{g:Fn}{p0:Pos}(d:x∈Γ.G)(E:Γ.gl x=.mk c aC g)(F:Γ.calm=aC)(j:dT X D W es fs):PE X (.Call (.Name x p0) es [] pos) (aX D W (o4 c g fs)):=by
 have q:=C.glo x d;rw[E] at q;obtain⟨C0,Y,fd,U,V,ad,B,M,o,i,Fn,a⟩:=q;have n:=(C.rom F).mono i;have h:=j.stars;have A:=j5 j;rintro l s N H Q I ⟨K,P,L,O,y,m,p⟩;refine gW (wA I (C.glb x d) B ?_ (C.dbG x d));cases es with
 |nil=>
  cases fs with
  |nil=>exact rJ I.kIn M.kp (iC (ts:=[]) C ad M Fn n o a I .nil m rfl p)
  |cons f fs=>exact j.elim
 |cons e es=>
  simp only[lK,cI] at h;refine oo (h₀:=X.base) I.ok.mod.kin M.kp (a7 (rY A I y m p) ?_) (z3 h.1) (qB h.2);rintro S T ⟨R,Z,ts,t,u,r,z,v,w,b,J,_,p1⟩;exact⟨r.kIn,iC C ad M Fn n o a r z b J p1⟩
theorem NQ(C:Ck D W Γ X k)(L:ql a=aC)(u:(x,n)∈Γ.fld)(N:PE X a (aX D W f)):PE X (.Attribute a x pos) (aX D W (ze f n)):=by
 refine PE.mono (OQ N (qX L)) ?_;rintro O H Q ⟨A,I,B,F,J,K,p⟩;refine⟨A,I,B,F,J,K,p.bind.mono λt E G P st m q v d=>?_⟩;unfold ZT at q;split at q
 ·split at q
  ·rename_i c fs _ w hw;obtain⟨ad,C0,dx,i,rfl,_,_,o,j,l⟩:=d;obtain⟨y,z,g,e,dz⟩:=l.look hw;obtain⟨b,s,r⟩:=C.fld c C0 x n o u;rw[g] at b;cases b;exact⟨ad,C0,dx,i,z,rfl,j,s,r,e,q.here m dz⟩
  ·exact q.elim
 ·obtain⟨c,fs,w,M,hw,q⟩:=q.ex3;obtain⟨ad,h,rfl⟩:=d;obtain⟨C0,dx,i,o,j,l⟩:=m.ob _ ad _ h M;obtain⟨y,z,g,e,dz⟩:=l.look hw;obtain⟨b,s,r⟩:=C.fld c C0 x n o u;rw[g] at b;cases b;exact⟨ad,C0,dx,i,z,rfl,j,s,r,e,aJ.here q m dz⟩
 ·exact q.elim
end
section
variable {X:Cx}{D:DP}{W:XW}{Γ:Cn}{k:Nat}{pins:List (aE×bB)}{s:Shared}{σ:St}{H:Hp}{φ α:List aE}{τ:Sl}{μ:aK}{f h:De}{a b c:aH}{pos:Pos}{es:List aH}
theorem XG{B:Prop}(C:Ck D W Γ X k){c:Nat}{C0 dx ad:aE}{e:List (aG×V)}(I:Inv X pins σ H s)(a:D.cad c=aA C0)(ea:H ad=aA (.ins C0 dx e))
  (b:∀d P,VR D c d->pY X.K (.ref ad) d P->P s.heap->(cO ad)≠.builtin "__main__.__loader__#opaque"->B):B:=by
 have o:=C.ocx c C0 a;obtain⟨g,O,_⟩:=xP I.hok ea;obtain⟨f,J,_⟩:=O.look;exact b _ _ (.inr (.inr (.inr (.inr (.inr (.inr (.inr (.inr ⟨C0,a,rfl⟩)))))))) (PySem.W.kitx_own (o.cl.get _) o.cl.hd o.fi o.sp o.tk o.ob) J (λz=>nomatch z)
theorem ON{B:Prop}(C:Ck D W Γ X k){t:T}{v:V}{u:aB}{n:Nat}(I:Inv X pins σ H s)(d:a_ D φ α H t v)(r:RelV v u)(a:Ib t μ=aA n)
  (f:∀A P,VR D n A->pY X.K u A P->P s.heap->u≠.builtin "__main__.__loader__#opaque"->B):B:=by
 cases t with
 |non=>cases d;cases r;cases a;exact f _ _ (.inl ⟨rfl,rfl⟩) PySem.W.kitx_none gw (λz=>nomatch z)
 |bl b=>cases d;cases r;cases a;exact f _ _ (.inr (.inl ⟨rfl,rfl⟩)) PySem.W.kitx_bool gw (λz=>nomatch z)
 |int i=>cases d;obtain⟨t,rfl⟩:=r;cases a;exact f _ _ (.inr (.inr (.inl ⟨rfl,rfl⟩))) PySem.W.kitx_int gw (λz=>nomatch z)
 |str i=>cases d;obtain⟨t,rfl⟩:=r;cases a;exact f _ _ (.inr (.inr (.inr (.inl ⟨rfl,rfl⟩)))) PySem.W.kitx_str gw (λz=>nomatch z)
 |tup G=>
  obtain⟨ad,F,rfl,_,_,q,_⟩:=d;cases r;cases a;obtain⟨h,_,⟨o,x,m,_⟩,_⟩:=I.tuple (.inl q);exact f _ _ (.inr (.inr (.inr (.inr (.inl ⟨rfl,rfl⟩))))) PySem.W.kitx_tuple ⟨o,x,m⟩ (λz=>nomatch z)
 |lst G=>
  obtain⟨ad,F,rfl,_,_,q,_⟩:=d;cases r;cases a;obtain⟨h,_,p,_⟩:=I.list (.inl q);obtain⟨o,x,m,_⟩:=p.isList;exact f _ _ (.inr (.inr (.inr (.inr (.inr (.inl ⟨rfl,rfl⟩)))))) D1 ⟨o,x,m⟩ (λz=>nomatch z)
 |exc c fs=>
  obtain⟨ad,C0,dd,rfl,_,_,g,y,xd⟩:=d;cases r;cases a;have L:=C.xcx n C0 g;obtain⟨p,_⟩:=(show aY X.prog X.w H s.heap ad (.ext (Bl ad C0 dd)) from I.hok ad _ y);have xd:bX D φ α H fs dd:=by cases dd<;>exact xd
  exact f _ _ (.inr (.inr (.inr (.inr (.inr (.inr (.inl ⟨C0,g,rfl⟩))))))) (S5 L) ⟨p,xd.ext I⟩ (λz=>nomatch z)
 |dic J=>
  obtain⟨ad,E,rfl,_,_,e,_⟩:=d;cases r;cases a;obtain⟨_,_,M,_,dd⟩:=(show aY X.prog X.w H s.heap ad (.dK E) from I.hok ad _ e);exact f _ _ (.inr (.inr (.inr (.inr (.inr (.inr (.inr (.inl ⟨rfl,rfl⟩)))))))) rj dd.typeIs (λz=>nomatch z)
 |obj c fs=>
  obtain⟨ad,C0,dx,E,rfl,_,_,g,y,l⟩:=d;cases r;cases a;exact XG C I g y f
 | «mut» i=>cases a
 |clo j cs=>cases a
theorem PN{B:Prop}(C:Ck D W Γ X k){i:Nat}{v:V}{u:aB}{o:MO}(I:Inv X pins σ H s)(x:aM D φ α H μ)(d:a_ D φ α H (.mut i) v)(r:RelV v u)(E:μ[i]?=aA o)(g:G8 o=aD)
  (a:∀A P,VR D (Ia o) A->pY X.K u A P->P s.heap->u≠.builtin "__main__.__loader__#opaque"->B):B:=by
 obtain⟨ad,F,rfl⟩:=d;cases r;have dd:=x.ob i ad o F E;cases o with
 |lst L=>
  obtain⟨n,q,_⟩:=dd;obtain⟨y,_,p,_⟩:=I.list (.inl (.inl q));obtain⟨o,m,h,_⟩:=p.isList;exact a _ _ (.inr (.inr (.inr (.inr (.inr (.inl ⟨rfl,rfl⟩)))))) D1 ⟨o,m,h⟩ (λz=>nomatch z)
 |obj c fs=>
  obtain⟨C0,dx,b,J,G,l⟩:=dd;exact XG C I J G a
 |dic f=>
  obtain⟨b,e,_⟩:=dd;obtain⟨_,_,t,_,dd⟩:=(show aY X.prog X.w H s.heap ad (.dK b) from I.hok ad _ e);exact a _ _ (.inr (.inr (.inr (.inr (.inr (.inr (.inr (.inl ⟨rfl,rfl⟩)))))))) rj dd.typeIs (λz=>nomatch z)
 |tab j=>cases g
 |frd ep f=>
  obtain⟨b,e,_⟩:=dd;obtain⟨_,_,t,_,dd⟩:=(show aY X.prog X.w H s.heap ad (.dE ep b) from I.hok ad _ e);exact a _ _ (.inr (.inr (.inr (.inr (.inr (.inr (.inr (.inl ⟨rfl,rfl⟩)))))))) rj dd.dictOf.typeIs (λz=>nomatch z)
 |dct M=>
  obtain⟨n,_,_,_,_,q,_⟩:=dd;obtain⟨⟨o,es,ep,m,h,_⟩,_⟩:=(show aY X.prog X.w H s.heap ad (.ext (Hk ad n)) from I.hok ad _ q);exact a _ _ (.inr (.inr (.inr (.inr (.inr (.inr (.inr (.inl ⟨rfl,rfl⟩)))))))) rj ⟨o,m,h.1⟩ (λz=>nomatch z)
theorem Xf{B:Prop}(C:Ck D W Γ X k){t:T}{v:V}{u:aB}{cs:List Nat}{Q:VK}(I:Inv X pins σ H s)(c:aM D φ α H μ)(d:a_ D φ α H t v)(r:RelV v u)(q:aJ D W φ α H σ (RV D φ Q) (oU cs t μ))
  (b:∀n g P,aJ D W φ α H σ (RV D φ Q) (.ok (.bl (c9 n cs)) μ)->VR D n g->pY X.K u g P->P s.heap->u≠.builtin "__main__.__loader__#opaque"->B):B:=by
 unfold oU at q;split at q
 ·obtain⟨o,e,q⟩:=q.som;rcases q.br with⟨_,q⟩|⟨f,q⟩
  ·exact q.elim
  ·exact PN C I c d r e f λg P=>b _ g P q
 ·split at q
  ·rename_i h a;exact ON C I d r a λg P=>b _ g P q
  ·exact q.elim
noncomputable def vL(Γ:Cn):List aH->Option (List Nat)
 |[]=>aA []
 |e::r=>match e with
  |.Name x _=>if (cF Γ.N x).isNone&&Γ.G.contains x then (match Γ.cls.lookup x with
   |some c=>(vL Γ r).map (c::·)
   |none=>aF) else aF
  |_=>aF
noncomputable def ZL(Γ:Cn)(e:aH):Option (List Nat):=match e with
 |.Name _ _=>vL Γ [e]
 |.Tuple es _ _=>if decide (es.length<=aZ) then vL Γ es else aF
 |_=>aF
theorem cA{β:Type}{x:aG}{v:β}:∀{l:List (aG×β)},l.lookup x=aA v->(x,v)∈l
 |[],h=>by cases h
 |(y,w)::r,h=>by
  rw[gm] at h;cases q:x==y with
  |true=>rw[q] at h;cases h;rw[beq_iff_eq.mp q];exact d9
  |false=>rw[q] at h;exact dQ _ (cA h)
theorem Nt(C:Ck D W Γ X k){x:aG}{c:Nat}(a:x∈Γ.G)(d:(x,c)∈Γ.cls):∃u v,BY X x u/\gL v u/\∀p0,PE X (.Name x p0) (tC v):=by
 obtain⟨u,v,cv,r⟩:=C.clv x c d;refine⟨u,v,cv,r,λp0=>?_⟩;rcases cv with h|⟨h,e,b⟩
 ·exact Y3 (C.glb x a) h r.rel (C.dbG x a)
 ·exact RN (C.glb x a) h e r.rel b (C.dbG x a)
theorem Vp(C:Ck D W Γ X k):∀{es:List aH} {cs:List Nat},vL Γ es=aA cs->∃us vs,(∀d,aW vs d->d=us)/\vs.length=es.length/\es.all aO=aC/\PA X es (λ_ H Q=>Q vs H)/\∀t g,VR D t g->tM X.K g us=aA (c9 t cs)
 |[],cs,h=>by
  simp[vL] at h;subst h;exact⟨[],[],λd r=>by cases r;rfl,rfl,rfl,λb a s f H Q I q=>zZ b a s f H Q I q,λt g _=>rfl⟩
 |e::es,cs,h=>by
  unfold vL at h;split at h
  ·rename_i x z;split at h
   ·rename_i n;simp only[cI,iA] at n;split at h
    ·rename_i c j;cases i:vL Γ es with
     |none=>rw[i] at h;cases h
     |some J=>
      rw[i] at h;cases h;have m:=cA j;obtain⟨us,vs,o,j,E,F,G⟩:=Vp C i;obtain⟨u,v,cv,r,y⟩:=Nt C n.2 m;refine⟨u::us,v::vs,λd q=>by cases q with|cons w p=>rw[r.only w,o _ p],by simp[j],by simp[aO,E],λb a s f H Q I q=>zr (y z) F (z3 rfl) b a s f H Q I q,λt g l=>?_⟩;have B:=C.isi t x c m g u l cv;have A:=G t g l;unfold tM;rw[B];rw[uM];cases L:vx t c with
      |true=>rfl
      |false=>exact A
    ·cases h
   ·cases h
  ·cases h
theorem OA (C:Ck D W Γ X k) {cs:List Nat} {p0:Pos} (hx:("isinstance":aG)∈Γ.G) (hg:Γ.gl "isinstance"=.none) (hs:aO a=aC) (h:ZL Γ c=aA cs) (ha:PE X a (aX D W f)):PE X (.Call (.Name "isinstance" p0) [a,c] [] pos) (aX D W (yn cs f)):=by
 have hm:=C.glo _ hx;rw[hg] at hm;rintro r s O H Q I ⟨j,R,τ,μ,sr,mr,p⟩;refine gW (qQ I (C.glb _ hx) hm boot_isinstance ?_ (by decide) (C.dbG _ hx));unfold ZL at h;split at h
 ·rename_i cn pc;obtain⟨V,i,hu,hl,hst,hp,hk⟩:=Vp C h;refine rO (a7 (zr ha hp (z3 hs) pos r s O H (λL e=>∃v t g b,L=v::i/\aP R H b e/\aM D j b e g/\a_ D j b e t v/\aJ D W j b e O (RV D j Q) (oU cs t g)) I ⟨j,R,τ,μ,sr,mr,p.bind.mono λt y z H' st m q v d=>⟨v,t,y,z,rfl,st,m,d,q⟩⟩) ?_) (z3 hs) (qB (by rfl));rintro us s1 ⟨L,e,x,rv,v,t,g,b,rfl,st,m,d,q⟩;cases rv with
  | @cons _ u _ A r1 F=>
  obtain rfl:=hu A F;have hlu:A.length=1:=by rw[←F.length];exact hl
  match A,hlu with
  |[uc],_=>
  refine Xf C x m d r1 q λT S P q ht kx hP E=>?_;have J:=hk T S ht;have k1:p_ X.K S uc=aA (c9 T cs):=by
   unfold tM at J;split at J
   ·rename_i hb;rw[hb];exact J
   ·rename_i hb;rw[hb];exact J
   ·cases J
  exact PySem.W.kia_one kx x.kIn hP k1 E λY=>⟨.bl _,e,x.tok Y,rfl,q.here m rfl⟩
 ·rename_i ees J pc;split at h;case isFalse=>cases h
  rename_i M;obtain⟨V,i,hu,hl,hst,hp,hk⟩:=Vp C h;refine rO (a7 (zr ha (zr (HD hp) zZ (z3 rfl)) (z3 hs) pos r s O H (λL H2=>∃v l e t g b,L=[v,.ref l]/\e l=aF/\H2=upd e l (.tup i)/\aP R H b e/\aM D j b e g/\a_ D j b e t v/\aJ D W j b e O (RV D j Q) (oU cs t g)) I ⟨j,R,τ,μ,sr,mr,p.bind.mono λt y z H' st m q v d=>⟨by rw[hl];exact zx (by simpa using M),λl B=>⟨v,l,H',t,y,z,rfl,B,rfl,st,m,d,q⟩⟩⟩) ?_) (z3 hs) (qB (by rfl));rintro us s1 ⟨L,H2,x,rv,v,l,e,t,g,b,rfl,B,rfl,st,m,d,q⟩;obtain⟨u,ut,rfl,r1,F⟩:=vals2 rv;have F:ut=cO l:=F;subst F;have U:ju e (upd e l (.tup i)):=za B;refine Xf C x (m.new U) (d.step (aP.new U)) r1 (q.step (aP.new U)) λT S P q ht kx hP E=>?_;obtain⟨_,its,Z,⟨o,ho,N,n,hd⟩⟩:=(show aY X.prog X.w _ s1.heap l (.tup i) from x.hok l _ z4);obtain rfl:=hu its Z;obtain⟨oc,odd,odt,osl⟩:=o;simp only at N hd;subst N hd;exact PySem.W.kia_tup kx x.kIn hP ho (hk T S ht) E λY=>⟨.bl _,_,x.tok Y,rfl,q.here (m.new U) rfl⟩
 ·cases h
end
section
variable {X:Cx}{D:DP}{W:XW}{Γ:Cn}{k:Nat}{pins:List (aE×bB)}{s:Shared}{σ:St}{H:Hp}{φ α:List aE}{τ:Sl}{μ:aK}{f h:De}{a b:aH}{pos:Pos}{es:List aH}
noncomputable def B1 (X:Cx)(D:DP)(W:XW)(fv:aB)(op:T->aK->RE T):Prop:=
 ∀(pins:List (aE×bB)) (s:aU) (σ:St) (H:Hp) (φ α:List aE) (μ:aK) (t:T) (v:V) (u:aB) (Q:VK),Inv X pins σ H s->aM D φ α H μ->a_ D φ α H t v->RelV v u->aJ D W φ α H σ (RV D φ Q) (op t μ)->
  wpAny (aQ X.prog X.w) X.A (call fv [u]) (EP X pins σ Q) X.xe s
theorem XS (C:Ck D W Γ X k) {id:String} (n:x∈Γ.G) (M:Γ.gl x=.none) (K:f_ x=aA (.builtin id)) (L:x≠"__name__") (hs:aO a=aC) (N:B1 X D W (.builtin id) op) (O:PE X a (aX D W f)) :
  PE X (.Call (.Name x p0) [a] [] pos) (aX D W (cS op f)):=by
 have w:=C.glo _ n;rw[M] at w;rintro e s i H Q I ⟨g,o,y,z,A,J,p⟩;refine gW (qQ I (C.glb _ n) w K ?_ L (C.dbG _ n));refine rO (a7 (zr O zZ (z3 hs) pos e s i H (λr h=>∃v t c b,r=[v]/\aP o H b h/\aM D g b h c/\a_ D g b h t v/\aJ D W g b h i (RV D g Q) (op t c)) I ⟨g,o,y,z,A,J,p.bind.mono λt j l S st m q v d=>⟨v,t,j,l,rfl,st,m,d,q⟩⟩) ?_) (z3 hs) (qB (by rfl));rintro R B ⟨r,h,P,E,v,t,c,b,rfl,st,m,d,q⟩;obtain⟨u,rfl,F⟩:=vals1 E;exact N e B i h g b c t v u Q P m d F q
theorem UZ (C:Ck D W Γ X k) {id:String} (n:x∈Γ.G) (M:Γ.gl x=.none) (K:f_ x=aA (.type id)) (L:x≠"__name__") (hs:aO a=aC) (N:B1 X D W (.type id) op) (O:PE X a (aX D W f)) :
  PE X (.Call (.Name x p0) [a] [] pos) (aX D W (cS op f)):=by
 have w:=C.glo _ n;rw[M] at w;rintro e s i H Q I ⟨g,o,y,z,A,J,p⟩;refine gW (qQ I (C.glb _ n) w K ?_ L (C.dbG _ n));refine ny (a7 (zr O zZ (z3 hs) pos e s i H (λr h=>∃v t c b,r=[v]/\aP o H b h/\aM D g b h c/\a_ D g b h t v/\aJ D W g b h i (RV D g Q) (op t c)) I ⟨g,o,y,z,A,J,p.bind.mono λt j l S st m q v d=>⟨v,t,j,l,rfl,st,m,d,q⟩⟩) ?_) (z3 hs) (qB (by rfl));rintro R B ⟨r,h,P,E,v,t,c,b,rfl,st,m,d,q⟩;obtain⟨u,rfl,F⟩:=vals1 E;exact N e B i h g b c t v u Q P m d F q
theorem MH:B1 X D W (.builtin "len") kN:=by
 intro a s e H i k j t v u Q I c d r p;unfold kN at p;split at p
 ·obtain⟨ad,b,rfl,_,_,q,l⟩:=d;exact vP a s e H _ _ Q I (.cons r .nil) ⟨ad,b,rfl,.inl (.inl q),by rw[←l.length];exact p.here c rfl⟩
 ·obtain⟨ad,b,rfl,_,_,q,l⟩:=d;exact vP a s e H _ _ Q I (.cons r .nil) ⟨ad,b,rfl,.inr (.inl q),by rw[←l.length];exact p.here c rfl⟩
 ·cases d;obtain⟨f,p⟩:=p.grd;exact WB a s e H _ _ Q I (.cons r .nil) ⟨_,rfl,zx f,p.here c rfl⟩
 ·obtain⟨m,g,p⟩:=p.ex1;obtain⟨ad,h,rfl⟩:=d;obtain⟨b,q,l⟩:=c.ob _ ad _ h g;exact vP a s e H _ _ Q I (.cons r .nil) ⟨ad,b,rfl,.inl (.inl (.inl q)),by rw[←l.length];exact aJ.here p c rfl⟩
 ·exact p.elim
theorem Mw:B1 X D W (.type "int") ss:=by
 intro a s b H e g f t v u Q I c d r p;unfold ss at p;split at p
 ·cases d;exact W5 a s b H _ _ Q I (.cons r .nil) (.inl ⟨_,rfl,p.here c rfl⟩)
 ·cases d;exact W5 a s b H _ _ Q I (.cons r .nil) (.inr ⟨_,rfl,p.here c rfl⟩)
 ·exact p.elim
theorem Ou:B1 X D W (.type "list") Jf:=by
 intro b s f H i k j t v u Q I c d r p;unfold Jf at p;split at p
 ·obtain⟨ad,e,rfl,_,_,q,l⟩:=d;exact j8 b s f H _ _ Q I (.cons r .nil) ⟨ad,e,rfl,.inl (.inl q),λz a=>p.fresh c (za a) ⟨z,e,rfl,zh c a,zi c a,.inl z4,l.step (aP.new (za a))⟩⟩
 ·obtain⟨ad,e,rfl,_,_,q,l⟩:=d;exact j8 b s f H _ _ Q I (.cons r .nil) ⟨ad,e,rfl,.inr (.inl q),λz a=>p.fresh c (za a) ⟨z,e,rfl,zh c a,zi c a,.inl z4,l.step (aP.new (za a))⟩⟩
 ·obtain⟨m,g,p⟩:=p.ex1;obtain⟨ad,h,rfl⟩:=d;obtain⟨e,q,l⟩:=c.ob _ ad _ h g;exact j8 b s f H _ _ Q I (.cons r .nil) ⟨ad,e,rfl,.inl (.inl (.inl q)),λz a=>aJ.fresh p c (za a) ⟨z,e,rfl,zh c a,zi c a,.inl z4,l.step (aP.new (za a))⟩⟩
 ·exact p.elim
theorem j7(a:H p=aF):aP α H (α++[p]) (upd H p o):=⟨⟨[p],rfl,by simpa using a⟩,λb u _ e=>za a b u e,λb e=>by
 by_cases z:b=p
 ·rw[z,z4] at e;cases e
 ·rw[z8 z] at e;exact e⟩
theorem aM.lay(m:aM D φ α H μ)(g:H p=aF)(l:aN D φ α H ts vs):aM D φ (α++[p]) (upd H p (.lst vs)) (μ++[.lst ts]):=by
 have st:aP α H (α++[p]) (upd H p (.lst vs)):=j7 g;have s:=m.len;refine⟨by simp[s],?_,λb j=>?_,λb j=>?_,λi a o c f=>?_⟩
 ·rw[lN];refine⟨m.nd,by simp,λa t b j=>?_⟩;rw[bU.mp j];intro z;exact zi m g (z▸t)
 ·rcases b_.mp j with h|h
  ·exact m.dis b h
  ·rw[bU.mp h];exact zh m g
 ·obtain⟨u,e,n⟩:=m.phi b j;exact⟨u,za g b u e,n⟩
 ·by_cases hi:i<α.length
  ·rw[eN hi] at c;rw[eN (by lia)] at f;have d:=m.ob i a o c f;obtain⟨u,q,_⟩:=d.some;exact d.step st ((za g _ _ q).trans q.symm)
  ·rw[fT (by lia)] at c f;have r:i-α.length=0:=by
    by_cases z:i-α.length=0
    ·exact z
    ·rw[oM (by simp;lia)] at c;cases c
   have k:i-μ.length=0:=by lia
   rw[r] at c;rw[k] at f;have c:aA p=aA a:=c;have f:aA (MO.lst ts)=aA o:=f;cases c;cases f;exact⟨vs,z4,l.step st⟩
theorem aJ.lay(q:aJ D W φ α H σ (RV D φ Q) (.ok (.mut μ.length) (μ++[.lst ts])))(m:aM D φ α H μ)(a:H p=aF)(l:aN D φ α H ts vs):Q (.ref p) (upd H p (.lst vs)):=
 q.ok (j7 a) (m.lay a l) _ ⟨p,by rw[←m.len,fT (bC _)];simp,rfl⟩
theorem NF(k:es.length<=aZ)(l:dT X D W es fs):PE X (.List es pos) (aX D W (y7 fs)):=by
 refine PE.mono (UA (j5 l)) ?_;rintro n H Q ⟨a,f,b,d,g,h,p⟩;refine⟨a,f,b,d,g,h,p.bind.mono λr c e s st m q o dl j=>⟨by rw[j];exact zx k,λz i=>q.lay m i dl⟩⟩
theorem Vu:∀{ts:List T} {bs:List Bool} {vs:List V} {us:List aB},cT ts=aA bs->aN D φ α H ts vs->aW vs us->us=bs.map mX
 |[],bs,vs,us,h,l,r=>by
  simp[cT] at h;subst h;have l:vs=[]:=l;subst l;cases r;rfl
 |t::ts,bs,vs,us,h,l,r=>by
  obtain⟨v,w,rfl,d,l⟩:=l;cases t with
  |bl b=>
   simp only[cT] at h;cases q:cT ts with
   |none=>rw[q] at h;cases h
   |some cs=>
    rw[q] at h;cases h;cases r with
    |cons c a=>
     cases d;cases c;rw[Vu q l a];rfl
  |_=>simp[cT] at h
theorem MT(G:X.calm=aC):B1 X D W (.builtin "all") VH:=by
 intro m s N H M P O t v u Q I z d r p;unfold VH at p;split at p;case h_2=>exact p.elim
 rename_i R;obtain⟨bs,J,p⟩:=p.som;obtain⟨ad,S,rfl,_,_,q,l⟩:=d;cases r;obtain⟨c,w,y,U⟩:=I.list (.inl q);have eb:=Vu J l w;have j:=y.isList;have g:ad<s.heap.objs.size:=by obtain⟨_,e,_⟩:=j;exact bY e
 refine call_all_walk (oh j ?_)
 refine⟨s.heap.objs.size,[s.heap.objs.size,ad],[s.heap.objs.size],c.toArray.size,_,_,λi=>(bs[i]?).getD aC,rfl,nY (A:=X.A.in1) (I.ok.hd G) _ ad (c7 g) c.toArray,
  ⟨⟨_,dP _ rfl,rfl,rfl⟩,j.push _⟩,λi v T V Y K n=>?_,λL o F=>?_⟩
 ·have a:c[i]?=aA v:=by simpa using K
  rw[eb,c8] at a;cases e:bs[i]? with
  |none=>rw[e] at a;cases a
  |some b=>
   rw[e] at a;simp at a;subst a;simp only[e,wp] at n;exact wpAny_truthy_bool n
 ·have e:((gx c.toArray.size).all λi=>(bs[i]?).getD aC)=bs.all id:=by
   have C:c.toArray.size=bs.length:=by simp[eb]
   rw[C];rw[oz];simp only[fQ,n7,id_eq];constructor
   ·intro h b k;obtain⟨i,f,rfl⟩:=nh.mp k;have:=h i f;simpa[f] using this
   ·intro h i f;have:=h bs[i] (Ei f);simpa[f] using this
  rw[e];have B:∀b x,s.heap.get? b=aA x->L.get? b=aA x:=λb x e=>F b x (λE=>by rw[bU.mp E] at e;exact iQ _ (bY e)) (bP _ e);exact⟨.bl (bs.all id),H,I.kept (t':=o) B,rfl,p.here z rfl⟩
theorem aP.turn(a:x∈α)(c:∃d,H x=aA d):aP α H α (upd H x o):=by
 refine⟨⟨[],by simp,by simp⟩,λb u n e=>?_,λb e=>?_⟩
 ·rw[z8 (λ(z:b=x)=>n (by rw[z];exact a))];exact e
 ·by_cases z:b=x
  ·rw[z,z4] at e;cases e
  ·rw[z8 z] at e;exact e
theorem aM.turn(m:aM D φ α H μ)(g:α[i]?=aA x)(hi:i<μ.length)(st:aP α H α (upd H x o))(d:d7 D φ α (upd H x o) r x):aM D φ α (upd H x o) (μ.set i r):=by
 refine⟨by simp[m.len],m.nd,m.dis,λb h=>?_,λj y k c a=>?_⟩
 ·obtain⟨u,l,n⟩:=m.phi b h;exact⟨u,st.keep b u (λz=>m.dis b z h) l,n⟩
 ·by_cases q:i=j
  ·subst q;rw[g] at c;cases c;rw[nl hi] at a;cases a;exact d
  ·rw[cP q] at a;have ne:y≠x:=λz=>by
    subst z;obtain⟨h1,f⟩:=bH.mp c;obtain⟨h2,e⟩:=bH.mp g;exact q ((rh m.nd).mp (e.trans f.symm))
   exact d7.step st (z8 ne) (m.ob j y k c a)
theorem S_(e:aM D φ α H μ)(b:α[i]?=aA x)(c:μ[i]?=aA (.lst ts))(g:H x=aA (.lst xs))(l:aN D φ α H ts xs)(d:a_ D φ α H t v) :
  aP α H α (upd H x (.lst (xs++[v])))/\aM D φ α (upd H x (.lst (xs++[v]))) (μ.set i (.lst (ts++[t]))):=by
 have a:aP α H α (upd H x (.lst (xs++[v]))):=aP.turn (cD b) ⟨_,g⟩;have f:i<μ.length:=(bH.mp c).1;exact⟨a,e.turn b f a ⟨_,z4,(l.step a).append ⟨v,[],rfl,d.step a,rfl⟩⟩⟩
theorem N4(S:ql o=aC)(hs:aO a=aC)(b:(pa.endLine==pc.line)=aC)(ho:PE X o (aX D W go))(ha:PE X a (aX D W f)) :
  PE X (.Call (.Attribute o "append" pa) [a] [] pc) (aX D W (Vg go f)):=by
 have Y:eF [a] X.env=[(aD,eval a X.env)]:=z3 hs;refine PE.mono (GY Fj PySem.F.slot_list_append PySem.F.type_list_append Wd ho (zr ha zZ (z3 hs)) (qX S) (by rw[Y];rfl) b (z3 hs) rfl) ?_;rintro σ H Q ⟨w,I,y,G,z,O,p⟩;refine⟨w,I,y,G,z,O,p.bind.mono λot k m H1 r B q ov dv=>?_⟩;split at q;case h_2=>exact q.elim
 rename_i i;obtain⟨K,Z,⟨⟨M,g⟩,V⟩,U,R⟩:=q;obtain⟨x,s,rfl⟩:=dv;obtain⟨J,u,l0⟩:=B.ob _ x _ s g;refine⟨.inl ⟨rfl,_,.inl (.inl u)⟩,w,m,y,k,z.step r,B,_,Z,V,?_,R⟩;rintro t E ⟨ts,h,T,N⟩ c H2 e A v d;obtain⟨β,e2,_⟩:=e.ext;have j:c[i]?=aA x:=by
  rw[e2,eN (bH.mp s).1];exact s
 obtain⟨L,C,l⟩:=A.ob i x _ j h;obtain⟨n,P⟩:=S_ A j h C l d;refine⟨x,L,v,rfl,rfl,C,?_,?_⟩
 ·rw[←l.length];exact dM T (zx (bC _))
 ·exact U _ _ N c _ (e.trans n) P .non rfl
end
structure il(D:DP)(J:It)(Ok:List aE->List aE->Hp->Prop)(xs:List T):Prop where
 go:∀(i:Nat) φ α H,Ok φ α H->i<xs.length->J.go i H
 yld:∀(i:Nat) φ α H v H' t,Ok φ α H->xs[i]?=aA t->J.yld i H v H'->ju H H'/\a_ D φ α H' t v
 stop:∀φ α H,Ok φ α H->J.stop xs.length H
noncomputable def sK (D:DP)(φ α:List aE)(H:Hp)(xs:List T)(lv:aK->Prop)(Ok:List aE->List aE->Hp->Prop):Prop:=∀a b d c,Lk φ α H a b d->aM D a b d c->lv c->Ok a b d
noncomputable def gD (D:DP)(W:XW)(f:Di):TI:=λd H R=>nN D H d λc i g h=>
 aJ D W c i H d (λp a b e=>∀J Ok,il D J Ok p.1->sK D c b e p.1 p.2 Ok->p.2 a->R J e) (f g h).re
theorem Lk.trans(a:Lk φ α H g r u)(b:Lk g r u d j s):Lk φ α H d j s:=
 ⟨λx o n1 n2 e=>let ⟨f,c,h⟩:=a.ob x o n1 n2 e;b.ob x o f c h,λi x e=>b.st i x (a.st i x e)⟩
theorem Yc{D:DP}{φ α:List aE}{H:Hp}{b:Type}{f:b->T}{xs:List b}{i:Nat}{t:T}(h:(xs.map f)[i]?=aA t):∃a,xs[i]?=aA a/\t=f a:=by
 rw[c8] at h;cases q:xs[i]? with
 |none=>rw[q] at h;cases h
 |some a=>rw[q] at h;cases h;exact⟨a,rfl,rfl⟩
section
variable {X:Cx}{D:DP}{W:XW}{Γ:Cn}{k:Nat}{pins:List (aE×bB)}{s:Shared}{σ:St}{H:Hp}{φ α:List aE}{τ:Sl}{μ:aK}{f g h:De}{a b c tg:aH}{pos:Pos}{es:List aH}
theorem VJ{K:bK}{ad:aE}:il D (IC K ad) (λφ α H=>∃vs,Rd H ad (.lst vs)/\aN D φ α H xs vs) xs:=
 ⟨λi φ α H ⟨vs,ok,l⟩ a=>⟨vs,vs[i]'(by rw[←l.length];exact a),.inl ok,by simp⟩,λi φ α H v c t ⟨vs,ok,l⟩ a y=>by
  obtain⟨rfl,y⟩:=y;obtain⟨x,b,d⟩:=l.get a;have e:=y vs (.inl ok);rw[e] at b;cases b;exact⟨λ_ _ z=>z,d⟩,λφ α H ⟨vs,ok,l⟩=>⟨vs,.inl ok,by rw[l.length];exact bC _⟩⟩
theorem PU{K:bK}{ad:aE}:il D (IB K ad) (λφ α H=>∃vs,Rd H ad (.tup vs)/\aN D φ α H xs vs) xs:=
 ⟨λi φ α H ⟨vs,ok,l⟩ a=>⟨vs,vs[i]'(by rw[←l.length];exact a),.inl ok,by simp⟩,λi φ α H v c t ⟨vs,ok,l⟩ a y=>by
  obtain⟨rfl,y⟩:=y;obtain⟨x,b,d⟩:=l.get a;have e:=y vs (.inl ok);rw[e] at b;cases b;exact⟨λ_ _ z=>z,d⟩,λφ α H ⟨vs,ok,l⟩=>⟨vs,.inl ok,by rw[l.length];exact bC _⟩⟩
theorem Ug{n i j:Nat}(h:(gx n)[i]?=aA j):j=i:=by
 have:=(bH.mp h).2;simpa using this.symm
noncomputable def CV(z:aG):It:=⟨λi _=>i<z.cps.toList.length,λi H x a=>a=H/\∃c,z.cps.toList[i]?=aA c/\x=.str ⟨#[c]⟩,λi _=>z.cps.toList.length<=i⟩
theorem Rw{z:aG}:il D (CV z) (λ_ _ _=>True) (z.cps.toList.map λc=>T.str ⟨#[c]⟩):=
 ⟨λi φ α H _ a=>by (show i<_);simpa using a,λi φ α H v e t _ a y=>by
  obtain⟨j,d,rfl⟩:=Yc (D:=D) (φ:=φ) (α:=α) (H:=H) a;obtain⟨rfl,c,b,rfl⟩:=y;rw[d] at b;cases b;exact⟨λ_ _ z=>z,rfl⟩,λφ α H _=>by show _<=_;simp⟩
theorem UR {P:b7} {K:bK} (hk:kd="str_ascii_iterator"\/kd="str_iterator") (it:aE) (z:aG) (t0:Tok):fC P w K tg (CV z) [it] it (λi h=>h.IsStrIter it kd z t0 i) where
 mem:=by simp
 obj:=λi h st b a=>by
  have e:b=it:=by simpa using a
  subst e;obtain⟨o,e,c,d⟩:=st;exact⟨o,e,λv z=>by rw[d] at z;cases z⟩
 keep:=λi h j st k=>let ⟨o,L,r⟩:=st;⟨o,k it (by simp) o L,r⟩
 item:=by
  intro X D hw F C i g s y H E I m st B;subst D hw F;obtain⟨x,u,N,t,q,p⟩:=m it (by simp);have M:i<z.cps.size:=by simpa[CV] using B
  have l:z.cps[i]?=aA z.cps[i]:=Array.getElem?_eq_getElem M;have n:z.cps.toList[i]?=aA z.cps[i]:=by rw[Array.getElem?_toList];exact l
  rcases hk with rfl|rfl
  ·refine wpAny_pyNext_ascii_item st l λj f A=>?_;have G:Inv X g y H {s with heap:=j,toks:=s.toks+1}:=I.turned (λb o a e=>(A.2 b a).trans e) x u t q p;obtain⟨o,e,c,d⟩:=id f;exact⟨.str ⟨#[z.cps[i]]⟩ s.toks,rfl,yR (s:={s with heap:=j,toks:=s.toks+1}) e c d (by decide) ⟨.str ⟨#[z.cps[i]]⟩,H,G,⟨_,rfl⟩,⟨rfl,z.cps[i],n,rfl⟩,f,λb a=>(m b a).1⟩⟩
  ·refine wpAny_pyNext_wide_item st l λj f A=>?_;have G:Inv X g y H {s with heap:=j,toks:=s.toks+1}:=I.turned (λb o a e=>(A.2 b a).trans e) x u t q p;obtain⟨o,e,c,d⟩:=id f;exact⟨.str ⟨#[z.cps[i]]⟩ s.toks,rfl,yR (s:={s with heap:=j,toks:=s.toks+1}) e c d (by decide) ⟨.str ⟨#[z.cps[i]]⟩,H,G,⟨_,rfl⟩,⟨rfl,z.cps[i],n,rfl⟩,f,λb a=>(m b a).1⟩⟩
 done:=by
  intro X D hw F C i g s y H E I m st B;subst D hw F;obtain⟨x,u,N,t,q,p⟩:=m it (by simp);have J:z.cps[i]?=aF:=Array.getElem?_eq_none (by have:z.cps.toList.length<=i:=B;simpa using this);rcases hk with rfl|rfl
  ·exact wpAny_pyNext_ascii_end (I.ok.hd C) st J λj eb=>⟨rfl,I.turned (t':=s.toks) (λb o a e=>eb b o a e) x u t q p⟩
  ·exact wpAny_pyNext_wide_end (I.ok.hd C) st J λj eb=>⟨rfl,I.turned (t':=s.toks) (λb o a e=>eb b o a e) x u t q p⟩
 self:=λ_ _ _ _ _ st h=>by
  rcases hk with rfl|rfl
  ·exact wpAny_pyIter_striter_ascii st h
  ·exact wpAny_pyIter_striter_wide st h
theorem P9(S:PE X a (aX D W f)):PI X tg a (gD D W (iE f)):=by
 rintro N s y H R I ⟨r,α,τ,μ,sr,mr,p⟩;refine a7 (sub S I sr mr p) ?_;rintro u c ⟨v,n,t,h,d,g,P,st1,sr1,k,B,p1⟩;cases t with
 |lst J=>
  obtain⟨ad,O,rfl,U,T,q,l⟩:=B;cases P;obtain⟨w,Y,M,Z⟩:=g.list (.inl q);refine oh M.isList ?_;refine⟨c.heap.objs.size,[c.heap.objs.size],_,_,n,rfl,g.kept (t':=c.toks) λb o e=>bP _ e,Wf ad _,⟨_,dP _ rfl,rfl,rfl⟩,λb x=>?_,?_⟩
  ·have e:b=c.heap.objs.size:=by simpa using x
   subst e;exact g.fpOk (bC _) (g.hok.fresh (bC _))
  ·have i:aJ D W r d n y _ (RE.ok (J,fY) h):=p1;exact i.ok (aP.refl _ _) k _ _ VJ (λC F H' E lk _ _=>by
    obtain⟨a',G,e,_,_,L,l'⟩:=a_.lk lk (show a_ D r d n (.lst J) (.ref ad) from ⟨ad,O,rfl,U,T,q,l⟩);cases e;exact⟨G,L,l'⟩) trivial
 |tup J=>
  obtain⟨ad,O,rfl,U,T,q,l⟩:=B;cases P;obtain⟨w,Y,M,Z⟩:=g.tuple (.inl q);refine wpAny_pyIter_tuple (show c.heap.IsTuple ad w.toArray from M) ?_;refine⟨c.heap.objs.size,[c.heap.objs.size],_,_,n,rfl,g.kept (t':=c.toks) λb o e=>bP _ e,Kb ad _,⟨_,dP _ rfl,rfl,rfl⟩,λb x=>?_,?_⟩
  ·have e:b=c.heap.objs.size:=by simpa using x
   subst e;exact g.fpOk (bC _) (g.hok.fresh (bC _))
  ·have i:aJ D W r d n y _ (RE.ok (J,fY) h):=p1;exact i.ok (aP.refl _ _) k _ _ PU (λC F H' E lk _ _=>by
    obtain⟨a',G,e,_,_,L,l'⟩:=a_.lk lk (show a_ D r d n (.tup J) (.ref ad) from ⟨ad,O,rfl,U,T,q,l⟩);cases e;exact⟨G,L,l'⟩) trivial
 | «mut» j=>
  obtain⟨ad,hj,rfl⟩:=B;cases P;have i:aJ D W r d n y _ (λK _=>∃A,h[j]?=aA (.lst A)/\K (A,iT j A) h):=p1;obtain⟨A,hx,i⟩:=i.ex1;obtain⟨O,q,l⟩:=k.ob j ad _ hj hx;obtain⟨w,Y,M,Z⟩:=g.list (.inl (.inl q));refine oh M.isList ?_;refine⟨c.heap.objs.size,[c.heap.objs.size],_,_,n,rfl,g.kept (t':=c.toks) λb o e=>bP _ e,Wf ad _,⟨_,dP _ rfl,rfl,rfl⟩,λb x=>?_,?_⟩
  ·have e:b=c.heap.objs.size:=by simpa using x
   subst e;exact g.fpOk (bC _) (g.hok.fresh (bC _))
  ·have i:aJ D W r d n y _ (RE.ok (A,iT j A) h):=i;exact i.ok (aP.refl _ _) k _ _ VJ (λC F H' E lk m hl=>by
    obtain⟨G,L,l'⟩:=m.ob j ad _ (lk.st j ad hj) hl;exact⟨G,.inl L,l'⟩) hx
 |str z=>
  have B:v=.str z:=B;subst B;obtain⟨V,rfl⟩:=P;have fin:∀{Q:String},(Q="str_ascii_iterator"\/Q="str_iterator")->nO X N y tg R (.ref c.heap.objs.size) {c with heap:=c.heap.push {cls:=.type Q,data:=.fields #[.str z V,.int 0 0]}}:=λ{Q} hk=>by
   refine⟨c.heap.objs.size,[c.heap.objs.size],_,_,n,rfl,g.kept (t':=c.toks) λb o e=>bP _ e,UR hk _ z V,⟨_,dP _ rfl,rfl,rfl⟩,λb x=>?_,?_⟩
   ·have e:b=c.heap.objs.size:=by simpa using x
    subst e;exact g.fpOk (bC _) (g.hok.fresh (bC _))
   ·have i:aJ D W r d n y _ (RE.ok (uH z,fY) h):=p1;exact i.ok (aP.refl _ _) k _ _ Rw (λ_ _ _ _ _ _ _=>gw) trivial
  cases S:z.cps.all (·<128) with
  |true=>exact wpAny_pyIter_ascii S (fin (.inl rfl))
  |false=>exact wpAny_pyIter_wide S (fin (.inr rfl))
 |_=>exact aJ.elim p1
theorem B6(h:aW (x::xs) us):∃u r,us=u::r/\RelV x u/\aW xs r:=by
 cases h with
 |cons r q=>exact⟨_,_,rfl,r,q⟩
theorem vals3(h:aW [x,y,z] us):∃u v w,us=[u,v,w]/\RelV x u/\RelV y v/\RelV z w:=by
 obtain⟨u,_,rfl,a,h⟩:=B6 h;obtain⟨v,_,rfl,b,h⟩:=B6 h;obtain⟨w,_,rfl,c,h⟩:=B6 h;cases h;exact⟨_,_,_,rfl,a,b,c⟩
noncomputable def l6(lo c:Int)(n:Nat):It:=⟨λi _=>i<n,λi H x a=>a=H/\x=.int (lo+i*c),λi _=>n<=i⟩
theorem yW{P:b7}{K:bK}(it:aE)(lo c:Int)(n:Nat):fC P w K tg (l6 lo c n) [it] it (λi h=>tG h it (lo+(i:Nat)*c) ((n:Int)-(i:Nat)) c) where
 mem:=by simp
 obj:=λi h st b d=>by
  have e:b=it:=by simpa using d
  subst e;exact⟨_,st,λv z=>by cases (show pK _=pC v from z)⟩
 keep:=λi h j st k=>k it (by simp) _ st
 item:=by
  intro X p hw q m i a s B H E I g st l;subst p hw q;obtain⟨A,y,G,x,u,r⟩:=g it (by simp);have W:=Walks.range (prog:=X.prog) (w:=X.w) (I.ok.hd m) it lo c n;refine W.item i s _ _ l st λv j C F f D=>?_;obtain⟨t,rfl⟩:=F;have J:Inv X a B H {s with heap:=j,toks:=C}:=I.turned (λb o d e=>D b o (by simpa using d) e) A y x u r;exact⟨_,rfl,yR (s:={s with heap:=j,toks:=C}) (n:="range_iterator") f rfl rfl (by decide) ⟨.int (lo+i*c),H,J,⟨t,rfl⟩,⟨rfl,rfl⟩,f,λb d=>(g b d).1⟩⟩
 done:=by
  intro X p hw q m i a s B H E I g st l;subst p hw q;obtain⟨A,y,G,x,u,r⟩:=g it (by simp);exact wpAny_pyNext_range_end (I.ok.hd m) st (by have:n<=i:=l;lia) λj eb=>⟨rfl,I.turned (t':=s.toks) (λb o d e=>eb b o d e) A y x u r⟩
 self:=λ_ _ _ _ _ st h=>wpAny_pyIter_rangeiter st h
theorem yx{P:b7}{K:bK}(it:aE)(lo c:Int)(n:Nat):fC P w K tg (l6 lo c n) [it] it (λi h=>sS h it (lo+(i:Nat)*c) ((n:Int)-(i:Nat)) c) where
 mem:=by simp
 obj:=λi h st b d=>by
  have e:b=it:=by simpa using d
  subst e;exact⟨_,st,λv z=>by cases (show pK _=pC v from z)⟩
 keep:=λi h j st k=>k it (by simp) _ st
 item:=by
  intro X p hw q m i a s B H E I g st l;subst p hw q;obtain⟨A,y,G,x,u,r⟩:=g it (by simp);have W:=Walks.longrange (prog:=X.prog) (w:=X.w) (I.ok.hd m) it lo c n;refine W.item i s _ _ l st λv j C F f D=>?_;obtain⟨t,rfl⟩:=F;have J:Inv X a B H {s with heap:=j,toks:=C}:=I.turned (λb o d e=>D b o (by simpa using d) e) A y x u r;exact⟨_,rfl,yR (s:={s with heap:=j,toks:=C}) (n:="longrange_iterator") f rfl rfl (by decide) ⟨.int (lo+i*c),H,J,⟨t,rfl⟩,⟨rfl,rfl⟩,f,λb d=>(g b d).1⟩⟩
 done:=by
  intro X p hw q m i a s B H E I g st l;subst p hw q;obtain⟨A,y,G,x,u,r⟩:=g it (by simp);exact wpAny_pyNext_long_end (I.ok.hd m) st (by have:n<=i:=l;lia) λj eb=>⟨rfl,I.turned (t':=s.toks) (λb o d e=>eb b o d e) A y x u r⟩
 self:=λ_ _ _ _ _ st h=>wpAny_pyIter_longiter st h
theorem Rp{a b c:Int}(d:0<c):nn a b c=if a<b then (b-a-1) / c+1 else 0:=by
 unfold nn;rw[if_pos d]
theorem QB{pins:List (aE×bB)}{σ:St}{H:Hp}{s:aU}{R:It->Hp->Prop}{E:aB->aU->Prop}{lo hi c:Int}{t u v:Tok}{tk:Nat}(I:Inv X pins σ H s)(i:0<c)
  (q:R (l6 lo c (if lo<hi then (hi-lo-1) / c+1 else 0:Int).toNat) H):wpAny (aQ X.prog X.w) X.A (ma (.ref s.heap.objs.size)) (nO X pins σ tg R) E {s with heap:=s.heap.push {cls:=.type "range",data:=.fields #[.int lo t,.int hi u,.int c v]},toks:=tk}:=by
 have a:Inv X pins σ H {s with heap:=s.heap.push {cls:=.type "range",data:=.fields #[.int lo t,.int hi u,.int c v]},toks:=tk}:=I.kept λb o e=>bP _ e;have h:lo+((0:Nat):Int)*c=lo:=by simp
 have g:(((if lo<hi then (hi-lo-1) / c+1 else 0:Int).toNat:Nat):Int)-((0:Nat):Int)=nn lo hi c:=by
  rw[Rp i];have:0<=(if lo<hi then (hi-lo-1) / c+1 else 0):=by
   split
   ·have j:0<=(hi-lo-1) / c:=rq (by omega) (by omega);omega
   ·omega
  omega
 have fr:∀b∈[(s.heap.push {cls:=.type "range",data:=.fields #[.int lo t,.int hi u,.int c v]}).objs.size],b=(s.heap.push {cls:=.type "range",data:=.fields #[.int lo t,.int hi u,.int c v]}).objs.size:=λb f=>by simpa using f
 cases d:EX lo hi c with
 |true=>
  refine Ev (pJ ..) d ?_
  refine⟨(s.heap.push {cls:=.type "range",data:=.fields #[.int lo t,.int hi u,.int c v]}).objs.size,[(s.heap.push {cls:=.type "range",data:=.fields #[.int lo t,.int hi u,.int c v]}).objs.size],_,_,H,rfl,
   a.kept (t':=tk) λb o e=>bP _ e,yW _ lo c (if lo<hi then (hi-lo-1) / c+1 else 0:Int).toNat,?_,λb f=>?_,q⟩
  ·show tG _ _ (lo+((0:Nat):Int)*c) ((((if lo<hi then (hi-lo-1) / c+1 else 0:Int).toNat:Nat):Int)-((0:Nat):Int)) c;rw[h,g];exact dP _ rfl
  ·rw[fr b f];exact a.fpOk (bC _) (a.hok.fresh (bC _))
 |false=>
  refine Fd (pJ ..) d ?_
  refine⟨(s.heap.push {cls:=.type "range",data:=.fields #[.int lo t,.int hi u,.int c v]}).objs.size,[(s.heap.push {cls:=.type "range",data:=.fields #[.int lo t,.int hi u,.int c v]}).objs.size],_,_,H,rfl,
   a.kept (t':=tk) λb o e=>bP _ e,yx _ lo c (if lo<hi then (hi-lo-1) / c+1 else 0:Int).toNat,?_,λb f=>?_,q⟩
  ·show sS _ _ (lo+((0:Nat):Int)*c) ((((if lo<hi then (hi-lo-1) / c+1 else 0:Int).toNat:Nat):Int)-((0:Nat):Int)) c;rw[h,g];exact dP _ rfl
  ·rw[fr b f];exact a.fpOk (bC _) (a.hok.fresh (bC _))
theorem kG{lo c:Int}{n:Nat}:il D (l6 lo c n) (λ_ _ _=>True) ((gx n).map λ(i:Nat)=>T.int (lo+i*c)):=
 ⟨λi φ α H _ a=>by (show i<n);simpa using a,λi φ α H v d t _ a y=>by
  obtain⟨j,b,rfl⟩:=Yc (D:=D) (φ:=φ) (α:=α) (H:=H) a;rw[Ug b];obtain⟨rfl,rfl⟩:=y;exact⟨λ_ _ z=>z,rfl⟩,λφ α H _=>by show n<=_;simp⟩
theorem YZ (C:Ck D W Γ X k) {p0:Pos} (L:("range":aG)∈Γ.G) (hg:Γ.gl "range"=.none) (h:aO a=aC) (d:aO b=aC) (ha:PE X a (aX D W f)) (hb:PE X b (aX D W g)) :
  PI X tg (.Call (.Name "range" p0) [a,b] [] pos) (gD D W (JP f g)):=by
 have M:=C.glo _ L;rw[hg] at M;rintro e s F H R I ⟨l,O,E,N,K,Y,p⟩;refine Call_ (qQ I (C.glb _ L) M sR (ny (a7 (zr ha (zr hb zZ (z3 d)) (z3 h) pos e s F H (λJ B=>∃i j:Int,J=[.int i,.int j]/\R (l6 i 1 (if i<j then (j-i-1) / 1+1 else 0:Int).toNat) B) I ?_) ?_) (by rw[z3 h,z3 d]) (by rw[z3 d];rfl)))
 ·refine⟨l,O,E,N,K,Y,p.bind.mono λx n u B v m1 V Q A=>⟨l,u,E,n,K.step v,m1,V.bind.mono λy m o H2 S Z c P z=>?_⟩⟩;cases x with
  |int i=>
   cases y with
   |int j=>
    have c:aJ D W l o H2 F _ (RE.grd (mF i/\mF j) (RE.ok (jD i j 1,fY) m)):=c;obtain⟨hh,c⟩:=c.grd;have A:Q=.int _:=A;have z:P=.int _:=z;subst A z;exact⟨_,_,rfl,c.ok (aP.refl _ _) Z _ _ kG (λ_ _ _ _ _ _ _=>gw) trivial⟩
   |_=>exact aJ.elim c
  |_=>exact aJ.elim c
 ·rintro us s1 ⟨J,B,I1,T,i,j,rfl,q⟩;cases T with
  |cons r w=>
   cases w with
   |cons U w=>
    cases w;obtain⟨t,rfl⟩:=r;obtain⟨t',rfl⟩:=U;exact call_range_2 (QB I1 (by omega) q)
theorem T6 (C:Ck D W Γ X k) {p0:Pos} (o:("range":aG)∈Γ.G) (J:Γ.gl "range"=.none) (hs:aO a=aC) (K:PE X a (aX D W f)) :
  PI X tg (.Call (.Name "range" p0) [a] [] pos) (gD D W (U4 f)):=by
 have u:=C.glo _ o;rw[J] at u;rintro b s h H R I ⟨g,z,x,y,A,F,p⟩;refine Call_ (qQ I (C.glb _ o) u sR (ny (a7 (zr K zZ (z3 hs) pos b s h H (λl w=>∃j:Int,l=[.int j]/\R (l6 0 1 (if 0<j then (j-0-1) / 1+1 else 0:Int).toNat) w) I ?_) ?_) (z3 hs) rfl))
 ·refine⟨g,z,x,y,A,F,p.bind.mono λt c e O st m q v d=>?_⟩;cases t with
  |int n=>
   have d:v=.int _:=d;subst d;have q:aJ D W g e O h _ (RE.grd (mF n) (RE.ok (rangeT n,fY) c)):=q;obtain⟨S,q⟩:=q.grd;have M:(if 0<n then (n-0-1) / 1+1 else 0:Int).toNat=n.toNat:=by
    split
    ·rw[pZ];congr 1;lia
    ·lia
   have L:((gx n.toNat).map λ(i:Nat)=>T.int (0+i*1))=rangeT n:=by
    unfold rangeT;refine EW λi _=>?_;simp
   refine⟨n,rfl,?_⟩;rw[M];exact q.ok (aP.refl _ _) m _ _ (L▸kG) (λ_ _ _ _ _ _ _=>gw) trivial
  |_=>exact aJ.elim q
 ·rintro P Q ⟨l,w,N,B,j,rfl,q⟩;cases B with
  |cons r E=>
   cases E;obtain⟨t,rfl⟩:=r;exact call_range_1 (QB N (by lia) q)
noncomputable def c_ (N:List aG):List aH->Option (List Nat)
 |[]=>aA []
 |.Name x _::r=>match cF N x,c_ N r with
  |some i,aA a=>aA (i::a)
  |_,_=>aF
 |_::_=>aF
noncomputable def w_ (N:List aG):aH->Option Tg
 |.Name x _=>(cF N x).map Tg.one
 |.Tuple es _ _=>(c_ N es).map Tg.tup
 |_=>aF
noncomputable def z5:aH->List aG
 |.Name x _=>[x]
 |.Tuple es _ _=>es.filterMap λe=>match e with|.Name x _=>aA x|_=>aF
 |_=>[]
noncomputable def nM (X:Cx)(S:List aG):Prop:=∀x∈S,Loc X.env.scope x/\(X.fn x=aC\/X.env.scope.names.lookup x=aA .local)
theorem Xr(hN:X.N=N)(nd:N.Nodup)(o:nM X S):∀{es:List aH} {is:List Nat} {ts:List T} {τ a:Sl},(∀e∈es,∀x p,e=.Name x p->x∈S)->c_ N es=aA is->Vx is ts τ=aA a->
  ∃t,o9 X es t/\(iu es X.env).length=ts.length/\(iu es X.env).findIdx? (·.1)=aF/\∀{σ:St} {vs:List V} {φ α H} {Q:St->Hp->Prop},bA D φ α H τ σ->aN D φ α H ts vs->(∀j,bA D φ α H a j->Q j H)->t vs σ H Q
 |[],is,ts,τ,a,_,b,h=>by
  simp[c_] at b;subst b;cases ts with
  |nil=>
   simp[Vx] at h;subst h;exact⟨Gc,Ss,rfl,rfl,λf l q=>⟨l,q _ f⟩⟩
  |cons _ _=>simp[Vx] at h
 |e::es,is,ts,τ,a,w,b,h=>by
  cases e with
  |Name x c=>
   simp only[c_] at b;split at b
   ·rename_i i m B n;cases b;cases ts with
    |nil=>simp[Vx] at h
    |cons t ts=>
     have h:Vx m ts (xM τ i (aA t))=aA a:=h;have s:=w _ d9 x c rfl;have y:PG X (.Name x c) (Y2 i):=Xq (hN▸nd) (by rw[hN];exact vi B) (o x s).1 (o x s).2;obtain⟨u,g,A,C,z⟩:=Xr hN nd o (λe E=>w e (dQ _ E)) n h;refine⟨G3 (Y2 i) u,T0 y g rfl,by simpa[iu] using A,?_,λ{σ vs φ α H Q} f l k=>?_⟩
     ·have F:iu (.Name x c::es) X.env=(aD,ip (.Name x c) X.env)::iu es X.env:=rfl;rw[F,List.findIdx?_cons];simp[C]
     ·obtain⟨v,r,rfl,d,l⟩:=l;exact⟨v,r,rfl,z (f.set d) l k⟩
   ·cases b
  |_=>simp[c_] at b
theorem Ks(hN:X.N=N)(nd:N.Nodup)(m:nM X S)(O:X.calm=aC)(z:∀x∈z5 e,x∈S)(h0:w_ N e=aA tgt)(h:ik tgt t τ=aA B)(I:Inv X pins σ H s)(o:bA D φ α H τ σ)(d:a_ D φ α H t v)(r:RelV v u) :
  wpAny (aQ X.prog X.w) X.A (ip e X.env u) (λ_ G=>∃j,Inv X pins j H G/\bA D φ α H B j) X.xe s:=by
 cases e with
 |Name x y=>
  simp only[w_] at h0;cases q:cF N x with
  |none=>rw[q] at h0;cases h0
  |some i=>
   rw[q] at h0;cases h0;cases (bT h:xM τ i (aA t)=B);have c:x∈S:=z x (by simp[z5]);refine a7 (Xq (i:=i) (hN▸nd) (by rw[hN];exact vi q) (m x c).1 (m x c).2 pins s σ H v u (λj b=>b=H/\j=σ.set i (aA v)) I r ⟨rfl,rfl⟩) ?_;rintro _ E ⟨j,b,n,rfl,rfl⟩;exact⟨_,n,o.set d⟩
 |Tuple es F y=>
  simp only[w_] at h0;cases q:c_ N es with
  |none=>rw[q] at h0;cases h0
  |some Q=>
   rw[q] at h0;cases h0;cases t with
   |tup P=>
    obtain⟨g,f,K,L,J⟩:=Xr (D:=D) hN nd m (λe M x p c=>z x (by subst c;exact ou.mpr ⟨_,M,rfl⟩)) q h;obtain⟨ad,C,rfl,_,_,q,l⟩:=d;refine a7 (NZ (k:=F) (pos:=y) O f K L pins s σ H (.ref ad) u (λj b=>b=H/\bA D φ α H B j) I r ⟨ad,C,rfl,.inl q,l.length.symm,J o l λj a=>⟨rfl,a⟩⟩) ?_;rintro _ E ⟨j,b,n,rfl,a⟩;exact⟨j,n,a⟩
   |_=>cases h
 |_=>simp[w_] at h0
end
theorem RW(env:Env):∀(names:List (aG×lG)) (cs:List (aG×aE)),(∀p∈names,p.2=.free->∃c,env.cells.lookup p.1=aA c)->
  ∃cl,(forIn names cs (λ(x:aG×lG) r=>if (x.2==.free)=aC then do let a ←cellOf env x.1;pure (lS ((x.1,a)::r)) else pure (lS r)):Sem (List (aG×aE)))=pure cl/\
   (∀x c,cl.lookup x=aA c->cs.lookup x=aA c\/(env.cells.lookup x=aA c/\∃p∈names,p.1=x/\p.2=.free))/\(∀x c,cs.lookup x=aA c->∃g,cl.lookup x=aA g)/\∀p∈names,p.2=.free->∃c,cl.lookup p.1=aA c:=by
 intro names;induction names with
 |nil=>intro cs _;exact⟨cs,rfl,λx c h=>.inl h,λx c h=>⟨c,h⟩,λp d=>absurd d (by simp)⟩
 |cons p names u=>
  intro cs h;rw[tY];by_cases d:p.2=.free
  ·obtain⟨c,v⟩:=h p d9 d;have e:cellOf env p.1=pure c:=by unfold cellOf;rw[v]
   rw[if_pos (by simp[d]),e];obtain⟨cl,t,s,k,o⟩:=u ((p.1,c)::cs) λq b=>h q (dQ _ b);refine⟨cl,t,λx g i=>?_,λx g i=>?_,λq b l=>?_⟩
   ·rcases s x g i with z|⟨z,q,b,n,m⟩
    ·rw[gm] at z;cases f:x==p.1 with
     |true=>
      simp[f] at z;subst z;have j:x=p.1:=by simpa using f
      exact .inr ⟨by rw[j];exact v,p,d9,j.symm,d⟩
     |false=>simp[f] at z;exact .inl z
    ·exact .inr ⟨z,q,dQ _ b,n,m⟩
   ·cases f:x==p.1 with
    |true=>exact k x c (by simp[gm,f])
    |false=>exact k x g (by simp[gm,f,i])
   ·rcases cC.mp b with rfl|b
    ·exact k _ c (by simp[gm])
    ·exact o q b l
  ·rw[if_neg (by simp[d])];obtain⟨cl,t,s,k,o⟩:=u cs λq b=>h q (dQ _ b);refine⟨cl,t,λx g i=>?_,k,λq b l=>?_⟩
   ·rcases s x g i with z|⟨z,q,b,n,m⟩
    ·exact .inl z
    ·exact .inr ⟨z,q,dQ _ b,n,m⟩
   ·rcases cC.mp b with rfl|b
    ·exact absurd l d
    ·exact o q b l
noncomputable def ZQ(sc:Scope):List aG:=(sc.names.filter λp=>p.2==.globalImplicit).map (·.1)
noncomputable def frees(sc:Scope):List aG:=(sc.names.filter λp=>p.2==.free).map (·.1)
theorem vz:x∈frees sc↔∃p∈sc.names,p.1=x/\p.2=.free:=by
 unfold frees;simp only[cN,gN,beq_iff_eq];constructor
 ·rintro⟨p,⟨c,b⟩,a⟩;exact⟨p,c,a,b⟩
 ·rintro⟨p,c,a,b⟩;exact⟨p,⟨c,b⟩,a⟩
theorem uA(h:∀x∈frees sc,∃c,env.cells.lookup x=aA c) :
  ∃cl,mS sc env=pure cl/\(∀x c,cl.lookup x=aA c->env.cells.lookup x=aA c/\x∈frees sc)/\∀x∈frees sc,∃c,cl.lookup x=aA c:=by
 obtain⟨cl,j,i,k,g⟩:=RW env sc.names [] λp a d=>h p.1 (vz.mpr ⟨p,a,rfl,d⟩);refine⟨cl,?_,λx c b=>?_,λx b=>?_⟩
 ·rw[←j];unfold mS;simp
 ·rcases i x c b with z|⟨z,p,a,f,e⟩
  ·simp at z
  ·exact⟨z,vz.mpr ⟨p,a,f,e⟩⟩
 ·obtain⟨p,a,rfl,d⟩:=vz.mp b;exact g p a d
section
variable {M:Model}{A:Around}{E:aB->Shared->Prop}{s:Shared}{env:Env}
noncomputable def WD(M:l_)(A:dU)(E:aB->aU->Prop)(use:Option (aB->Sem Unit))(Q:aB->aU->Prop)(a:aB)(ce:Env):mM->aU->Prop
 |.ok _,t=>(match use with
  |none=>∃m,t.heap.Ns ce.locals m/\∀g,fU ce.locals t.heap g->Q a {t with heap:=g}
  |some u=>wpAny M A (u a) (λ_ b=>∃m,b.heap.Ns ce.locals m/\∀g,fU ce.locals b.heap g->Q .none {b with heap:=g}) E t)
 |.error x,t=>∃m,t.heap.Ns ce.locals m/\∀g,fU ce.locals t.heap g->wpAny M A (passOn "comprehension.variables-let-go" x ce:Sem aB) (λ_ _=>False) E {t with heap:=g}
theorem Pm{mk fst:Sem aB}{use:Option (aB->Sem Unit)} 
  (h1:clausesOf e=g::U) (h2:∀x,lO g.iter env x=pure x) (K:mS sc env=pure cl) (n:sc.kind=.function) (J:∀x∈sc.names,x.2=.local->sc.names.lookup x.1=aA .local)
  (h:wpAny M A fst (λx t1=>wpAny M A (ma x) (λit C=>wpAny M A mk (λd B=>wpAny M A (newFunctionEnv sc env.globals cl [] env.qual aF .none (aA env)) (λce w=>
    fP M A (.compStart e 0 it d {ce with scope:=eT sc env}) (WD M A E use Q d {ce with scope:=eT sc env}) w) E B) E C) E t1) E s) :
  wpAny M A (pR e sc env pos mk aD fst use) Q E s:=by
 unfold pR;rw[K,h1];have a:∀(x:aB) (t:aU),E x t->E x t:=λ_ _ z=>z;refine wpAny_bind (dR h (λx t1 G=>?_) a);refine wpAny_bind (ie (wpAny_bind (ml (h2 x) (wpAny_bind (wpAny_holding (dR G (λit C F=>?_) a))))));refine wpAny_standIf (wpAny_bind (dR F (λd B D=>?_) a));refine wpAny_bind (wpAny_pure (wpAny_bind (dR D (λce w v=>?_) a)));dsimp only
 have H:∀y∈(sc.names.filter λx=>(x.2==.local || x.2==.cell)&&x.1 != (".0":aG)),y.2=.local->Env.kindOf {ce with scope:=eT sc env} y.1=aA .local:=
  λy i I=>lookup_relabel_local (J y (gN.mp i).1 I)
 have k:∀y∈(sc.names.filter λx=>(x.2==.local || x.2==.cell)&&x.1 != (".0":aG)).reverse,y.2=.local->Env.kindOf {ce with scope:=eT sc env} y.1=aA .local:=
  λy i=>H y (Eh.mp i)
 refine wpAny_holding (wpAny_bind (pT (wpAny_holding (wpAny_run (i8 v λr o l=>?_)))));cases r with
 |error x=>
  obtain⟨m,j,b⟩:=l;refine wpAny_bind (wpAny_holding (wn (cenv:={ce with scope:=eT sc env}) n _ o m k j λg p _ c=>?_));exact dR (b g c) (λ_ _ z=>z.elim) a
 |ok f=>
  cases use with
  |none=>
   obtain⟨m,j,b⟩:=l;exact wpAny_bind (wpAny_holding (wn (cenv:={ce with scope:=eT sc env}) n _ o m k j λg p _ c=>wpAny_pure (b g c)))
  |some u=>
   refine wpAny_bind (mf (wpAny_bind (wpAny_holding (dR l (λ_ q b=>?_) a))));obtain⟨m,j,b⟩:=b;refine wpAny_bind (wn (cenv:={ce with scope:=eT sc env}) n _ q m (λy i=>?_) j λg p _ c=>wpAny_pure (b g c));rcases b_.mp i with z|z
   ·exact k y (EC z)
   ·exact k y (rK z)
end
section
variable {prog:Program}{w:World}{A:Around}{R:Result->Shared->Prop}{s:Shared}
theorem Ti(elt a iter:aH)(ifs:List aH)(scope:Scope)(pos:Pos)(it b:aB)(env:Env) :
  compTurn (.ListComp elt [⟨a,iter,ifs,0⟩] scope pos) 0 it b env=(standAt iter.pos >>= λ_=>i3 it >>= λr=>match r with
   |none=>pure (.done .next)
   |some v=>oA a it v >>= λ_=>ip a env v >>= λ_=>
    (forIn ifs aC λc s=>if s=aC then isTrue c env (eval c env) >>= λok=>pure (lS ok) else pure (lS s)) >>= λok=>
     if ok=aC then (eval elt env >>= λx=>call (.builtin "list.append") [b,x] >>= λ_=>pure ()) >>= λ_=>
      again (.compLoop (.ListComp elt [⟨a,iter,ifs,0⟩] scope pos) 0 it b env)
     else again (.compLoop (.ListComp elt [⟨a,iter,ifs,0⟩] scope pos) 0 it b env)):=by rfl
noncomputable def yb(M:l_)(A:dU)(env:Env)(E:aB->aU->Prop):List aH->(Bool->aU->Prop)->aU->Prop
 |[],Q,s=>Q aC s
 |c::cs,Q,s=>wpAny M A (isTrue c env (eval c env)) (λb a=>if b=aC then yb M A env E cs Q a else Q aD a) E s
theorem W8:∀(cs:List aH) {s:aU},Q aD s->
  wpAny M A (forIn cs aD λc s=>if s=aC then isTrue c env (eval c env) >>= λok=>pure (lS ok) else pure (lS s)) Q E s
 |[],s,h=>wpAny_pure h
 |c::cs,s,h=>by
  rw[tY];refine wpAny_bind ?_;rw[if_neg (by decide)];exact wpAny_pure (W8 cs h)
theorem VM:∀(cs:List aH) {s:aU},yb M A env E cs Q s->
  wpAny M A (forIn cs aC λc s=>if s=aC then isTrue c env (eval c env) >>= λok=>pure (lS ok) else pure (lS s)) Q E s
 |[],s,h=>wpAny_pure h
 |c::cs,s,h=>by
  rw[tY];refine wpAny_bind ?_;rw[if_pos rfl];refine wpAny_bind (a7 h λb d a=>wpAny_pure ?_);cases b with
  |true=>rw[if_pos rfl] at a;exact VM cs a
  |false=>rw[if_neg (by decide)] at a;exact W8 cs a
theorem Us(I:Nat->aU->Prop)
  (turn:∀n s,I n s->wpAny (aQ prog w) A (i3 it) (λr j=>match r with
   |none=>R (.ok .next) j
   |some v=>wpAny (aQ prog w) A (oA d it v) (λ_ D=>wpAny (aQ prog w) A (ip d env v) (λ_ C=>yb (aQ prog w) A env (notedBy (aQ prog w) A env λx G=>R (.error x) G) ifs (λb g=>
     if b=aC then wpAny (aQ prog w) A (eval elt env) (λx B=>wpAny (aQ prog w) A (call (.builtin "list.append") [E,x]) (λ_ u=>∃m,m<n/\I m u) (λ_ _=>False) B) (notedBy (aQ prog w) A env λx G=>R (.error x) G) g else ∃m,m<n/\I m g) C) (λ_ _=>False) D) (λ_ _=>False) j) (λ_ _=>False) s)
  (n:Nat) (h:I n s):fP (aQ prog w) A (.compLoop (.ListComp elt [⟨d,iter,ifs,0⟩] scope pos) 0 it E env) R s:=by
 refine codeAny_loop rfl I (λn s o=>?_) n h;show wpAny _ _ ((compTurn (.ListComp elt [⟨d,iter,ifs,0⟩] scope pos) 0 it E env).onRaise (λx=>do pE x env;theTreesLotGoes x)) _ _ s;refine wpAny_noted ?_;rw[Ti];have nx:∀{l:Type} {t:Sem l} {Q:l->aU->Prop} {s:aU} {N:aB->aU->Prop},wpAny (aQ prog w) A t Q (λ_ _=>False) s->wpAny (aQ prog w) A t Q N s:=λh=>dR h (λ_ _ q=>q) λ_ _ z=>z.elim;refine wpAny_bind (ie (wpAny_bind (nx (a7 (turn n s o) λr j c=>?_))));cases r with
 |none=>exact wpAny_pure c
 |some v=>
  refine wpAny_bind (nx (a7 c λ_ D k=>?_));refine wpAny_bind (nx (a7 k λ_ C i=>?_));refine wpAny_bind (a7 (VM ifs i) λb g a=>?_);cases b with
  |true=>
   rw[if_pos rfl] at a ⊢;exact wpAny_bind (wpAny_bind (a7 a λx B f=>wpAny_bind (nx (a7 f λ_ u e=>wpAny_pure (wpAny_pure ⟨rfl,e⟩)))))
  |false=>
   rw[if_neg (by decide)] at a ⊢;exact wpAny_pure ⟨rfl,a⟩
end
noncomputable abbrev o0:XW:=λ_ _ _ _=>False
noncomputable def ij (X:Cx)(N:List aG)(sc:Scope)(cl:List (aG×aE))(C0:aE)(a:aU)(b:Hp)(fp:List aE):Cx:=
 {X with N:=N,s₀:=a,H₀:=b,env:=hY sc cl C0 X.env,outer:=X.stack,ex:=fp,fn:=λ_=>aD,pn:=[],xe:=λ_ _=>False}
noncomputable def JV(N cel:List aG)(tg:aH)(sc:Scope):Bool:=
 (sc.kind==.function)&&sc.names.all (λp=>p.2 != .cell)&&sc.names.all (λp=>p.2 != .local || sc.names.lookup p.1==aA .local)&&
 (z5 tg).all (λx=>sc.names.lookup x==aA .local&&x != ("__debug__":aG)&&x != ("__classdict__":aG))&&(frees sc).all (λx=>(cF N x).isSome&&sc.names.lookup x==aA .free&&cel.contains x&&x != ("__debug__":aG)&&x != ("__classdict__":aG))&&decide ((z5 tg++frees sc).Nodup)&&
 (ZQ sc).all (λx=>sc.names.lookup x==aA .globalImplicit)
structure cR(N cel:List aG)(tg:aH)(sc:Scope):Prop where
 kind:sc.kind=.function
 noc:∀p∈sc.names,p.2≠.cell
 lcl:∀p∈sc.names,p.2=.local->sc.names.lookup p.1=aA .local
 own:∀x∈z5 tg,sc.names.lookup x=aA .local/\(x==("__debug__":aG))=aD/\(x==("__classdict__":aG))=aD
 fre:∀x∈frees sc,(∃i,cF N x=aA i)/\sc.names.lookup x=aA .free/\x∈cel/\(x==("__debug__":aG))=aD/\(x==("__classdict__":aG))=aD
 nd:(z5 tg++frees sc).Nodup
 glb:∀x∈ZQ sc,sc.names.lookup x=aA .globalImplicit
theorem Ua(h:JV N cel tg sc=aC):cR N cel tg sc:=by
 unfold JV at h;simp only[cI,fQ,beq_iff_eq,bne_iff_ne,tX,decide_eq_true_eq,iA,rN,ne_eq] at h;obtain⟨⟨⟨⟨⟨⟨q,o⟩,n⟩,m⟩,l⟩,k⟩,j⟩:=h;refine⟨q,o,λp g i=>?_,λx f=>?_,λx f=>?_,k,j⟩
 ·rcases n p g with z|z
  ·exact absurd i z
  ·exact z
 ·obtain⟨⟨a,b⟩,c⟩:=m x f;exact⟨a,by simpa using b,by simpa using c⟩
 ·obtain⟨⟨⟨⟨a,b⟩,c⟩,d⟩,e⟩:=l x f;exact⟨a,b,c,by simpa using d,by simpa using e⟩
theorem z_{env:Env}{x:aG}:∀{names:List (aG×lG)} {kd:lG},names.lookup x=aA kd->
  (names.map λ(n,k)=>if (k==pQ&&env.scope.kind==.function&&env.kindOf n==aA .cell) then (n,NameKind.cell) else (n,k)).lookup x=aA (if (kd==pQ&&env.scope.kind==.function&&env.kindOf x==aA .cell) then .cell else kd)
 |[],_,h=>by simp at h
 |(n,k)::r,kd,h=>by
  have c:=@z_ env x r kd;rw[dW];rw[gm] at h;cases a:x==n with
  |true=>
   have b:x=n:=by simpa using a
   subst b;simp at h;subst h;dsimp only;split<;>simp_all[gm]
  |false=>
   simp only[a] at h;dsimp only;split
   ·rw[gm];simp only[a];exact c h
   ·rw[gm];simp only[a];exact c h
section
variable {X:Cx}{D:DP}{W:XW}{Γ:Cn}{k:Nat}{pins:List (aE×bB)}{s2:Shared}{σ:St}{H2:Hp}{φ α:List aE}{τ:Sl}{tg:aH}{sc:Scope}{cl:List (aG×aE)}{fp:List aE}
noncomputable def Jx (N:List aG)(σ:St)(fs:List aG):St:=fs.map λx=>(cF N x).bind λi=>(σ[i]?).join
noncomputable def jv (N:List aG):List aG->Option (List Nat)
 |[]=>aA []
 |x::r=>match cF N x,jv N r with
  |some i,aA a=>aA (i::a)
  |_,_=>aF
theorem Ww:∀(n:Nat) {fs:List Nat} {τ:Sl},g_ n fs τ=lR n aF++K3 fs τ
 |0,_,_=>rfl
 |n+1,fs,τ=>by
  show aF::g_ n fs τ=_;rw[Ww n];rfl
theorem Zh:∀{fs:List Nat} {τ:Sl},(K3 fs τ).length=fs.length
 |[],_=>rfl
 |i::r,τ=>by show (K3 r τ).length+1=_;rw[Zh];rfl
theorem Zo:∀{N xs:List aG} {fs:List Nat},jv N xs=aA fs->fs.length=xs.length
 |N,[],fs,h=>by cases h;rfl
 |N,x::r,fs,h=>by
  simp only[jv] at h;split at h
  ·rename_i i b c a;cases h;simp[Zo a]
  ·cases h
theorem Jl(b:bA D φ α H τ σ):∀{xs:List aG} {fs:List Nat},jv N xs=aA fs->∀(j:Nat) (t:T),(K3 fs τ)[j]?=aA (aA t)->∃v,(Jx N σ xs)[j]?=aA (aA v)/\a_ D φ α H t v
 |[],fs,h,j,t,e=>by cases h;simp[K3] at e
 |x::r,fs,h,j,t,e=>by
  simp only[jv] at h;split at h
  ·rename_i i c g f;cases h;cases j with
   |zero=>
    have e:aA (V2 τ i)=aA (aA t):=e;obtain⟨v,a,d⟩:=b.get (bT e);exact⟨v,by simp[Jx,g,a],d⟩
   |succ j=>
    have e:(K3 c τ)[j]?=aA (aA t):=e;obtain⟨v,a,d⟩:=Jl b f j t e;exact⟨v,by simpa[Jx] using a,d⟩
  ·cases h
theorem Ry{N:List aG}{H:Hp}{ns xs:List aG}{fs:List Nat}(b:bA D φ α H τ σ)(h:jv N xs=aA fs):bA D φ α H (g_ ns.length fs τ) (ns.map (λ_=>aF)++Jx N σ xs):=by
 rw[Ww];refine⟨by simp[Zh,Zo h,Jx],λj t e=>?_⟩;rcases Do j ns.length with a|a
 ·rw[eN (by simpa using a),rH] at e;split at e<;>cases e
 ·rw[fT (by simpa using a)] at e;rw[fT (by simpa using a)];simp only[bG,E5] at e ⊢;exact Jl b h _ t e
theorem KI(C:Ck D W Γ X k)(ok:cR Γ.N Γ.cel tg sc)(g:Inv X pins σ H2 s2)(hf:∀b∈fp, WQ X pins H2 b)(hfo:∀b∈fp, ∃o, s2.heap.get? b=aA o)(f:∀x c, cl.lookup x=aA c->X.env.cells.lookup x=aA c/\x∈frees sc)(s:∀x∈frees sc, ∃c, cl.lookup x=aA c)
 (V : h1.Ns (s2.heap.objs.size + 1) (fun _ => aF)) (L : fU (s2.heap.objs.size + 1) ((s2.heap.push { cls := .type "list", data := .seq ([] : List aB).toArray }).push { cls := .type "dict", data := .dict #[] }) h1) :
    Inv X pins σ (upd H2 s2.heap.objs.size (.lst [])) {s2 with heap:=s2.heap.push {cls:=.type "list", data:=.seq ([]:List aB).toArray}}/\
    Inv (ij X (z5 tg ++ frees sc) sc cl (s2.heap.objs.size + 1) { s2 with heap := s2.heap.push { cls := .type "list", data := .seq ([] : List aB).toArray } } (upd H2 s2.heap.objs.size (.lst [])) fp) []
      ((z5 tg).map (λ_=>aF)++Jx Γ.N σ (frees sc)) (upd H2 s2.heap.objs.size (.lst [])) {s2 with heap:=h1, toks:=tk}:=by
  have l:Inv X pins σ (upd H2 s2.heap.objs.size (.lst [])) {s2 with heap:=s2.heap.push {cls:=.type "list", data:=.seq ([]:List aB).toArray}}:=g.lnew (its:=[]) (t':=s2.toks) .nil (by simp);refine⟨l, ?_⟩;generalize hA:s2.heap.push {cls:=.type "list", data:=.seq ([]:List aB).toArray}=Q at L l ⊢;have I:Q.objs.size=s2.heap.objs.size+1:=by rw[←hA, iy]
  have n:∀b o, Q.get? b=aA o->h1.get? b=aA o:=λb o e=>L.extBut b o (by rw[←I];exact c7 (bY e)) (bP _ e);have fresh:(upd H2 s2.heap.objs.size (.lst [])) (s2.heap.objs.size+1)=aF:=by rw[←I];exact l.hok.fresh (bC _)
  have A:∀x∈frees sc, (ij X (z5 tg++frees sc) sc cl (s2.heap.objs.size+1) {s2 with heap:=Q} (upd H2 s2.heap.objs.size (.lst [])) fp).env.kindOf x=aA .cell\/(ij X (z5 tg++frees sc) sc cl (s2.heap.objs.size+1) {s2 with heap:=Q} (upd H2 s2.heap.objs.size (.lst [])) fp).env.kindOf x=aA .free:=λx E=>by
    have:=z_ (env:=X.env) (ok.fre x E).2.1;show (eT sc X.env).names.lookup x=aA .cell\/(eT sc X.env).names.lookup x=aA .free;unfold eT;dsimp only;rw[this];split
    · exact .inl rfl
    · exact .inr rfl
  refine⟨⟨g.ok.mod, ok.kind, g.ok.glob, g.ok.blt, ?_, ?_, ?_, λx c h=>absurd h (by simp[ij]), g.ok.hd, g.ok.frames, .inl rfl, ?_, ?_, ?_, ?_, ?_, ?_, ?_⟩, rfl, g.bare, Un.kept n, ⟨_, V, ?_⟩, ?_, fresh, ?_, λp U=>absurd U (by simp[ij]), l.hok.kept n, ?_⟩
  · show Q.objs.size <= s2.heap.objs.size + 1;lia
  · intro x y c h1 h2;exact g.ok.inj x y c (f x c h1).1 (f y c h2).1
  · intro x E;have B:(eT sc X.env).names.lookup x=aA .cell\/(eT sc X.env).names.lookup x=aA .free:=E;by_cases hm:x∈frees sc
    · exact s x hm
    · exfalso;cases q:sc.names.lookup x with
      |none=>
        have:(eT sc X.env).names.lookup x=aF:=by
          unfold eT;dsimp only;rw[List.lookup_eq_none_iff] at q ⊢;intro p U;obtain⟨p0, T, rfl⟩:=cN.mp U;have:=q p0 T;try dsimp only
          split<;>exact this
        rw[this] at B;rcases B with z|z<;>cases z
      |some S=>
        have hr:=z_ (env:=X.env) q;have d:=B;unfold eT at d;dsimp only at d;rw[hr] at d;have r:(x, S)∈sc.names:=la q;by_cases F:S=.free
        · exact hm (vz.mpr ⟨_, r, rfl, F⟩)
        · have e : (S == pQ) = aD := by simpa using F
          rw[e] at d;simp only[DL, oq, if_false, ri] at d;rcases d with z|z
          · exact ok.noc _ r z
          · exact F z
  · intro b t;obtain⟨f0, f1, f2, f3, f4, f5⟩:=hf b t;obtain⟨o, M⟩:=hfo b t;refine⟨?_, λx c h=>f4 x c (f x c h).1⟩;show b≠s2.heap.objs.size+1;exact c7 (og (bY M))
  · intro b o e;exact l.bs b o e
  · exact cL l.ok.bsz l.sz
  · intro b o e t;obtain⟨f0, f1, f2, f3, f4, f5⟩:=hf b t;rcases f3 with z|z
    · exact g.ok.noex b o e z
    · exact absurd (dM (bY e) (cL g.ok.bsz z)) (iQ _)
  · intro b t Z;obtain⟨f0, f1, f2, f3, f4, f5⟩:=hf b t;rcases cC.mp (g.stkSub b Z) with z|z
    · exact f1 z
    · exact f2 z
  · exact l.stack
  · intro b t;exact l.stkFree b t
  · intro i x v hN a hv;obtain⟨m, hn, hl⟩:=g.loc;by_cases hi:i<(z5 tg).length
    · exfalso;rw[eN (by simpa using hi), c8] at a;cases q:(z5 tg)[i]? with
      |none=>rw[q] at a;cases a
      |some y=>rw[q] at a;cases a
    · have P:(frees sc)[i-(z5 tg).length]?=aA x:=by
        have:(z5 tg++frees sc)[i]?=aA x:=hN;rwa[fT (by lia)] at this
      rw[fT (by simpa using hi)] at a;simp only[bG] at a;unfold Jx at a;rw[c8, P] at a;simp only[rp, ri] at a;have E:x∈frees sc:=cD P;obtain⟨⟨j, Y⟩, _, G, _⟩:=ok.fre x E;rw[Y] at a;simp only[rg] at a;cases u:σ[j]? with
      |none=>rw[u] at a;cases a
      |some o=>
        rw[u] at a;simp only[Option.join_some] at a;subst a;obtain⟨w, R, lk⟩:=hl j x v (by rw[C.hN];exact vi Y) u (C.vis x (wC Y));refine⟨w, R, .inr ⟨A x E, ?_⟩⟩;have K:=C.cel x G;rcases lk with⟨z, _⟩|⟨_, c, hc, H⟩
        · rw [z] at K;rcases K with K|K<;>cases K
        · obtain ⟨c', O⟩ := s x E;have:=(f x c' O).1;rw[hc] at this;cases this;refine⟨c, O, ?_⟩;obtain⟨J, M, hd⟩:=H;exact⟨J, n c J (by rw[←hA];exact bP _ M), hd⟩
  · intro x c h;obtain⟨v, J, M, hd⟩:=g.cell x c (f x c h).1;exact⟨v, J, n c J (by rw[←hA];exact bP _ M), hd⟩
  · intro x c h;exact (l.freeC x c (f x c h).1).imp id λz=>⟨rfl, z.2⟩
  · show _ = (z5 tg ++ frees sc).length;simp[Jx]
end
section
variable {X:Cx}{D:DP}{W:XW}{Γ:Cn}{k:Nat}{pins:List (aE×bB)}{s:Shared}{σ:St}{H:Hp}{φ α:List aE}{τ:Sl}{μ:aK}{tg:aH}{sc:Scope}{fp:List aE}
noncomputable def inComp(Γ:Cn)(tg:aH)(sc:Scope):Cn:={Γ with N:=z5 tg++frees sc,G:=(ZQ sc).filter Γ.U.contains,cel:=frees sc,lam:=aF}
theorem Rc(C:Ck D W Γ X k)(ok:cR Γ.N Γ.cel tg sc) 
  (f:∀e s,XP {(ij X (z5 tg++frees sc) sc cl C0 g j fp) with pn:=pn,xe:=xe} W' e s->xe e s):Ck D W' (inComp Γ tg sc) {(ij X (z5 tg++frees sc) sc cl C0 g j fp) with pn:=pn,xe:=xe} k:=by
 have b:∀x∈frees sc,(eT sc X.env).names.lookup x=aA .cell\/(eT sc X.env).names.lookup x=aA .free:=λx c=>by
  have:=z_ (env:=X.env) (ok.fre x c).2.1;unfold eT;dsimp only;rw[this];split
  ·exact .inl rfl
  ·exact .inr rfl
 have a:∀{x d},sc.names.lookup x=aA d->d≠.free->(eT sc X.env).names.lookup x=aA d:=λ{x d} h i=>by
  have:=z_ (env:=X.env) h;unfold eT;dsimp only;rw[this];have e:(d==pQ)=aD:=by simpa using i
  simp[e]
 refine⟨C.hK,rfl,ok.nd,λx c=>?_,λx c=>?_,λx c=>?_,λx c=>?_,λx c=>?_,C.glU,b,C.isi,C.fld,C.xcx,C.ocx,C.clv,C.clm,C.rom,C.rmh,f,?_,dC.no rfl,λh=>by cases h⟩
 ·rcases b_.mp c with h|h
  ·exact .inl (a (ok.own x h).1 (by decide))
  ·rcases b x h with z|z
   ·exact .inr (.inl z)
   ·exact .inr (.inr z)
 ·rcases b_.mp c with h|h
  ·exact (ok.own x h).2
  ·exact (ok.fre x h).2.2.2
 ·exact (C.glU x (by have:=(gN.mp c).2;simpa using this)).2
 ·exact a (ok.glb x (gN.mp c).1) (by decide)
 ·exact (C.glU x (by have:=(gN.mp c).2;simpa using this)).1
 ·obtain⟨e0,out,L,F⟩:=C.frm;exact⟨e0,out,L,⟨F.stk,F.f0,F.fe⟩⟩
theorem TL(ok:cR Γ.N Γ.cel tg sc):nM (ij X (z5 tg++frees sc) sc cl C0 d g fp) (z5 tg):=λx b=>by
 have e:=z_ (env:=X.env) (ok.own x b).1;have a:(eT sc X.env).names.lookup x=aA .local:=by
  unfold eT;dsimp only;rw[e];rfl
 exact⟨.inl a,.inr a⟩
theorem K7:∀{L:List aG} {i:Nat},x∈L->cF (L++M) x=aA i->i<L.length
 |[],_,h,_=>absurd h (by simp)
 |y::L,i,h,e=>by
  rw[rf] at e;simp only[cF] at e;split at e
  ·cases e;simp
  ·rename_i a;have b:x∈L:=(cC.mp h).resolve_left λz=>a z.symm;cases q:cF (L++M) x with
   |none=>rw[q] at e;cases e
   |some j=>rw[q] at e;cases e;simpa using K7 b q
theorem Wa(h:i<n):∀j,n<=j->(xM τ i t)[j]?=τ[j]?:=λj a=>by
 rw[V0,cP (by lia)]
theorem QT:∀{es:List aH} {is:List Nat} {ts:List T} {τ a:Sl},(∀e∈es,∀x p,e=.Name x p->x∈L)->c_ (L++M) es=aA is->Vx is ts τ=aA a->∀j,L.length<=j->a[j]?=τ[j]?
 |[],is,ts,τ,a,_,b,h=>by
  cases b;cases ts with
  |nil=>cases h;exact λ_ _=>rfl
  |cons _ _=>cases h
 |e::es,is,ts,τ,a,f,b,h=>by
  cases e with
  |Name x k=>
   simp only[c_] at b;split at b
   ·rename_i i c l d;cases b;cases ts with
    |nil=>cases h
    |cons t ts=>
     intro j g;rw[QT (λe m=>f e (dQ _ m)) d (show Vx c ts (xM τ i (aA t))=aA a from h) j g];exact Wa (K7 (f _ d9 x k rfl) l) j g
   ·cases b
  |_=>simp[c_] at b
theorem XV(h0:w_ (z5 e++M) e=aA tgt)(h:ik tgt t τ=aA d):∀j,(z5 e).length<=j->d[j]?=τ[j]?:=by
 cases e with
 |Name x a=>
  simp only[w_] at h0;cases q:cF (z5 (.Name x a)++M) x with
  |none=>rw[q] at h0;cases h0
  |some i=>
   rw[q] at h0;cases h0;cases (bT h:xM τ i (aA t)=d);exact Wa (K7 (by simp[z5]) q)
 |Tuple es b a=>
  simp only[w_] at h0;cases q:c_ (z5 (.Tuple es b a)++M) es with
  |none=>rw[q] at h0;cases h0
  |some k=>
   rw[q] at h0;cases h0;cases t with
   |tup g=>exact QT (λe f x p c=>by subst c;exact ou.mpr ⟨_,f,rfl⟩) q h
   |_=>cases h
 |_=>simp[w_] at h0
noncomputable def Kh (X:Cx)(D:DP)(W:XW):List aH->List Dt->Prop
 |[],[]=>True
 |e::es,f::fs=>PT X e (eP D W f)/\Kh X D W es fs
 |_,_=>False
theorem HX{M:l_}{A:dU}{β:Type}{R:β->aK->List aE->Hp->Prop}{fe:De}{kk:Option T->aK->RE β}{Qf:Bool->aU->Prop}:∀{cs:List aH} {fs:List Dt} {s:aU} {H:Hp} {α:List aE} {μ:aK},Kh X D W cs fs->Inv X pins σ H s->bA D φ α H τ σ->aM D φ α H μ->aJ D W φ α H σ R ((u7 fs fe τ μ).bind kk)->
  (∀u j d g,Inv X pins σ j u->aP α H d j->bA D φ d j τ σ->aM D φ d j g->aJ D W φ d j σ R ((fe τ g).bind λy r=>kk (aA y) r)->Qf aC u)->
  (∀u j d g,Inv X pins σ j u->aP α H d j->bA D φ d j τ σ->aM D φ d j g->aJ D W φ d j σ R (kk aF g)->Qf aD u)->
  yb (aQ X.prog X.w) X.A X.env X.xe cs Qf s
 |[],[],s,H,α,μ,_,I,m,n,p,o,_=>o s H α μ I (aP.refl _ _) m n p
 |[],_::_,_,_,_,_,h,_,_,_,_,_,_=>h.elim
 |_::_,[],_,_,_,_,h,_,_,_,_,_,_=>h.elim
 |c::cs,f::fs,s,H,α,μ,h,I,m,n,p,o,q=>by
  have p:aJ D W φ α H σ R ((f τ μ).bind λb r=>(RE.br b (u7 fs fe τ r) (.ok aF r)).bind kk):=p;refine a7 (FX h.1 I m n p) ?_;rintro b v ⟨x,r,l,t,e,i,k,p1⟩;cases b with
  |true=>
   rw[if_pos rfl];exact HX (M:=M) (A:=A) h.2 t i k p1 (λu j d g a b=>o u j d g a (e.trans b)) (λu j d g a b=>q u j d g a (e.trans b))
  |false=>
   rw[if_neg (by decide)];exact q v x l r t e i k p1
end
section
variable {X:Cx}{D:DP}{W:XW}{Γ:Cn}{k:Nat}{pins:List (aE×bB)}{s:Shared}{σ:St}{H:Hp}{φ α:List aE}{τ:Sl}{μ:aK}{tg iter elt:aH}{sc:Scope}{fp:List aE}{pos pos':Pos}
theorem yy(h:∀e s,E e s->d e s):∀{cs:List aH} {s:aU},yb M A env E cs Q s->yb M A env d cs Q s
 |[],_,q=>q
 |c::cs,s,q=>dR q (λb f a=>by
  cases b with
  |true=>rw[if_pos rfl] at a ⊢;exact yy h a
  |false=>rw[if_neg (by decide)] at a ⊢;exact a) h
theorem fJ.but{C0 x T:aE}{cls fl:aB}{d:Option aE}{h g:aR}(t:fJ h x T cls d fl)(sb:fU C0 h g)(l:x≠C0)(n:T≠C0):fJ g x T cls d fl:=by
 obtain⟨j,vs,a0,k,ts,ho,m,hd,c,b,i,e,f,o,a⟩:=t;exact⟨j,vs,a0,k,ts,sb.extBut x j l ho,m,hd,c,b,i,sb.extBut T k n e,f,o,a⟩
theorem uq(I:Inv X pins σ H s)(c:dL X H C0)(d:∀q∈pins,q.1≠C0)(sb:fU C0 s.heap h'):Inv X pins σ H {s with heap:=h'}:=
 xa (ch:=[C0]) I (λb f=>by rw[bU.mp f];exact⟨c,d⟩) (λb o _ a e=>sb.extBut b o (λz=>a (by simp[z])) e) λb o _ a e=>⟨o.slots,sb.extBut b o (λz=>a (by simp[z])) e⟩
inductive pd(D:DP)(Xb:Cx)(tn:Nat->aR->Prop)(fp φ1 α1:List aE)(H2:Hp)(acc:aE)(bl:Sl)(xs:List T)(P:Nat->List T->aK->Prop)(n:Nat)(s':Shared):Prop where
 |mk (i:Nat) (σ':St) (H':Hp) (α':List aE) (μ':aK) (yT:List T) (yV:List V) (e:n=xs.length-i) (hi:i<=xs.length) (iv:Inv Xb [] σ' H' s') (t:tn i s'.heap) (fr:∀b∈fp,H' b=aF) (st:aP α1 H2 α' H') (mr:aM D φ1 α' H' μ') (sr:bA D φ1 α' H' bl σ') (ac:H' acc=aA (.lst yV)) (dl:aN D φ1 α' H' yT yV) (hy:yT.length<=i) (q:P i yT μ')
inductive l8(D:DP)(φ1 α1:List aE)(H2:Hp)(Z0:Xp)(cls:aB)(d:Option aE)(_:St)(He:Hp):Prop where
 |mk (c:Nat) (fs':List (Nat×T)) (μ':aK) (α':List aE) (z:Z0 c fs' μ') (st:aP α1 H2 α' He) (m:aM D φ1 α' He μ') (ad:iZ D c fs' cls) (xd:bX D φ1 α' He fs' d)
structure CL(Xb X:Cx)(env:Env)(N:List aG):Prop where
 pr:Xb.prog=X.prog
 w:Xb.w=X.w
 K:Xb.K=X.K
 A:Xb.A=X.A
 en:Xb.env=env
 ca:Xb.calm=X.calm
 st:Xb.stack=X.stack
 N:Xb.N=N
theorem yp{β:Type}{R:β->aK->List aE->Hp->Prop}{fi:Di}{fs:List Nat}{tgt:Tg}{ifs:List aH}{cs:List Dt}{fe:De}{kk:List T->aK->RE β}{use:Option (aB->Sem Unit)}{Qf:aB->aU->Prop}
  (C:Ck D W Γ X k) (hc:Γ.calm=aC) (ok:cR Γ.N Γ.cel tg sc) (hfs:jv Γ.N (frees sc)=aA fs) (htg:w_ (z5 tg++frees sc) tg=aA tgt) (hi:PI X tg iter (gD D W fi)) (hel:∀X' W',Ck D W' (inComp Γ tg sc) X' k->PE X' elt (aX D W' fe)) (hts:∀X' W',Ck D W' (inComp Γ tg sc) X' k->Kh X' D W' ifs cs) (hs:∀x,lO iter X.env x=pure x)
  (I:Inv X pins σ H s) (sr:bA D φ α H τ σ) (mr:aM D φ α H μ)
  (p:aJ D W φ α H σ R ((fi τ μ).go λxs o μ1=>.grd (xs.length<=aZ) ((zR tgt (u7 cs fe) o (g_ (z5 tg).length fs τ) xs μ1).bind kk)))
  (Kq:∀acc C0 s' Q H1 H' U ys vs Y,Inv X pins σ H' s'->aP α H Q H1->aP Q H1 U H'->H1 acc=aF->acc∉φ->acc∉Q->bA D (φ++[acc]) U H' τ σ->aM D (φ++[acc]) U H' Y->H' acc=aA (.lst vs)->aN D (φ++[acc]) U H' ys vs->aJ D W φ Q H1 σ R (kk ys Y)->dL X H' C0->(∀q∈pins,q.1≠C0)->(∃m,s'.heap.Ns C0 m)->
   (match use with
    |none=>∃m,s'.heap.Ns C0 m/\∀g,fU C0 s'.heap g->Qf (.ref acc) {s' with heap:=g}
    |some u=>wpAny (aQ X.prog X.w) X.A (u (.ref acc)) (λ_ t2=>∃m,t2.heap.Ns C0 m/\∀g,fU C0 t2.heap g->Qf .none {t2 with heap:=g}) X.xe s')) :
  wpAny (aQ X.prog X.w) X.A (pR (.ListComp elt [⟨tg,iter,ifs,0⟩] sc pos) sc X.env pos' (newList []) aD (eval iter X.env) use) Qf X.xe s:=by
 obtain⟨cl,hclos,hcl,hcl2⟩:=uA (sc:=sc) (env:=X.env) λx hx=>I.ok.has x (C.cel x (ok.fre x hx).2.2.1)
 refine Pm (use:=use) rfl hs hclos ok.kind ok.lcl (a7 (hi pins s σ H (λJ H2=>∃xs o μ1 Q Ok,il D J Ok xs/\sK D φ Q H2 xs o Ok/\o μ1/\aP α H Q H2/\aM D φ Q H2 μ1/\
  aJ D W φ Q H2 σ R (.grd (xs.length<=aZ) ((zR tgt (u7 cs fe) o (g_ (z5 tg).length fs τ) xs μ1).bind kk))) I
  ⟨φ,α,τ,μ,sr,mr,(show aJ D W φ α H σ R ((fi τ μ).re.bind λpr μ1=>.grd (pr.1.length<=aZ) ((zR tgt (u7 cs fe) pr.2 (g_ (z5 tg).length fs τ) pr.1 μ1).bind kk)) from p).bind.mono λpr Y U H' st m q J Ok iv okk lv=>⟨pr.1,pr.2,Y,U,Ok,iv,okk,lv,st,m,q⟩⟩) λv s1 h1=>a7 h1 λitv l h2=>?_)
 obtain⟨it,fp,tn,J,H2,rfl,I2,Tn,tn0,f2,xs,Lv,μ1,Q,Ok,iv,okk,lv1,st1,mr1,p1⟩:=h2;obtain⟨hroom,K0,Z0,q0,hk0,hz0⟩:=p1.grd;have fo:∀b∈fp,∃o,l.heap.get? b=aA o:=λb P=>let ⟨o,e,_⟩:=Tn.obj 0 _ tn0 b P;⟨o,e⟩;refine my (EB ok.noc (by intro y hy;simp at hy) (λh₁ hns₁ hsb₁=>?_) ok.kind);have sz:(l.heap.push {cls:=.type "list",dict:=aF,data:=.seq ([]:List aB).toArray}).objs.size=l.heap.objs.size+1:=iy ..;dsimp only at hns₁ hsb₁ ⊢;rw[sz] at hns₁ hsb₁ ⊢;have hns:h₁.Ns (l.heap.objs.size+1) (λ_=>aF):=by simpa using hns₁
 obtain⟨I3,J0⟩:=KI (tk:=l.toks+([]:List (aG×aB)).length) C ok I2 f2 fo hcl hcl2 hns hsb₁;have hD:H2 l.heap.objs.size=aF:=I2.hok.fresh (bC _);have nph:l.heap.objs.size∉φ:=zh mr1 hD;have nal:l.heap.objs.size∉Q:=zi mr1 hD;have old:∀b o,l.heap.get? b=aA o->h₁.get? b=aA o:=λb o e=>hsb₁.extBut b o (c7 (og (bY e))) (bP _ (bP _ e));have n3:({l with heap:=l.heap.push {cls:=.type "list",data:=.seq ([]:List aB).toArray}}:aU).heap.get? (l.heap.objs.size+1)=aF:=iS (by show (l.heap.push _).objs.size<=_;rw[iy];exact bC _);have xo0:=vS I3 n3;have pn3:∀q∈pins,q.1≠l.heap.objs.size+1:=λq hq z=>by
  have:=(I3.pin q (dF _ hq)).1;rw[z,n3] at this;cases this
 generalize hS3:({l with heap:=l.heap.push {cls:=.type "list",data:=.seq ([]:List aB).toArray}}:aU)=S3 at I3 J0 n3;generalize hH3:upd H2 l.heap.objs.size (.lst [])=H3 at I3 J0 xo0;generalize hXb:ij X (z5 tg++frees sc) sc cl (l.heap.objs.size+1) S3 H3 fp=B at J0;have f:CL B X (hY sc cl (l.heap.objs.size+1) X.env) (z5 tg++frees sc):=by subst hXb;exact⟨rfl,rfl,rfl,rfl,rfl,rfl,rfl,rfl⟩
 have sto:nM B (z5 tg):=by subst hXb;exact TL (Γ:=Γ) ok
 have cm:B.calm=aC:=by rw[f.ca];exact C.clm hc
 have back:∀{s4:aU} {σ4:St} {H4:Hp} {E:List (aE×bB)},Inv B E σ4 H4 s4->Inv X pins σ H4 s4:=λ{s4 σ4 H4 E} I4=>by
  subst hXb;exact I3.call' (ch:=fp) I4.os I4.base I4.hok I4.bare λb P=>by
   obtain⟨f0,f1,f2',f3,f4,f5⟩:=f2 b P;exact⟨f3,f1,f4,f5⟩
 have fpk:∀{H':Hp},(∀b∈fp,H' b=aF)->∀b∈fp,WQ B [] H' b:=λhn b P=>by
  obtain⟨f0,f1,f2',f3,f4,f5⟩:=f2 b P;obtain⟨o,ho⟩:=fo b P;subst hXb;refine⟨hn b P,c7 (og (bY ho)),λz=>?_,.inl P,λx c h=>f4 x c (hcl x c h).1,λq hq=>absurd hq (by simp[ij])⟩;rcases cC.mp (I2.stkSub b z) with z|z
  ·exact f1 z
  ·exact f2' z
 have TnI:=Tn.item B f.pr f.w f.K cm;have TnD:=Tn.done B f.pr f.w f.K cm;obtain⟨e0,out,L,F⟩:=C.frm;have ce:(hY sc cl (l.heap.objs.size+1) X.env).frame=aA L:=F.fe;obtain⟨NB,hNB⟩:∃NB:aB->aU->Prop,NB=notedBy (aQ X.prog X.w) X.A (hY sc cl (l.heap.objs.size+1) X.env) (λx s'=>WD (aQ X.prog X.w) X.A X.xe use Qf (.ref l.heap.objs.size) (hY sc cl (l.heap.objs.size+1) X.env) (.error x) s'):=⟨_,rfl⟩
 have leave:∀{E:List (aE×bB)} {e:aB} {t:aU},(∀b∈fp,∃o,(b,o)∈E)->XP (Cx.pin' B E) (l8 D (φ++[l.heap.objs.size]) Q H2 Z0) e t->
   NB e t:=λ{E e t} hpp xp=>by
  have Fb:lp (Cx.pin' B E) e0 out L:=⟨by show B.stack=_;rw[f.st];exact F.stk,F.f0,by show B.env.frame=_;rw[f.en];exact ce⟩;have hfr:X.A.frames=aA (Cx.pin' B E).stack:=by show _=aA B.stack;rw[f.st];exact I.ok.frames
  rw[hNB];unfold notedBy;rw[show hY sc cl (l.heap.objs.size+1) X.env=(Cx.pin' B E).env from f.en.symm];refine uo (X:=Cx.pin' B E) Fb hfr xp λx cls d σe He T h' ee Ie ox oT tr w=>?_;subst ee;have en:(Cx.pin' B E).env=hY sc cl (l.heap.objs.size+1) X.env:=f.en;rw[en];have Iu:Inv B E σe He {t with heap:=h'}:=qa Ie;have IX:=back Iu;have nw:∀b,dL (Cx.pin' B E) He b->dL X He b/\b≠l.heap.objs.size+1:=λb o=>by
   have P:b∉fp:=λz=>by
    obtain⟨ob,hm⟩:=hpp b z;exact o.pin (b,ob) (dF _ hm) rfl
   have h3:S3.heap.get? b=aF:=by
    have:=o.new;subst hXb;exact this.resolve_left P
   have q:=vS I3 h3;refine⟨⟨o.free,q.loc,q.nfs,q.new,q.cel,q.pin⟩,?_⟩;have:=o.loc;have e2:(Cx.pin' B E).env.locals=l.heap.objs.size+1:=by rw[en];rfl
   rw[e2] at this;exact this
  have xoC:dL X He (l.heap.objs.size+1):=⟨by have:=Iu.free;rw[f.en] at this;exact this,xo0.loc,xo0.nfs,xo0.new,xo0.cel,xo0.pin⟩;obtain⟨m,hm,_⟩:=Iu.loc;rw[f.en] at hm;refine⟨m,hm,λg sb=>?_⟩;have sb':fU (l.heap.objs.size+1) h' g:=sb;have Ig:Inv X [] σ He {t with heap:=g}:=(uq IX xoC pn3 sb').pins_of λp hp=>absurd hp (by simp);have tg':=tr.but sb' (nw x ox).2 (nw T oT).2;unfold Dm;obtain⟨oe,vs',a0,oT',ts,ho,hcc,hd,hv0,hv1,hT,hoT,hdT,h3,_⟩:=id tg';refine wpAny_bind (ix ho hd hv1 ?_);rw[if_neg (show ¬((cO T==eU)=aC) from by simp)];have go:∀{t2:aU},XP X W (.ref x) t2->wpAny (aQ X.prog X.w) X.A (throw (cO x):Sem aB) (λ_ _=>False) X.xe t2:=λ{t2} xp=>wpAny_throw (C.xe _ _ xp);have fin:wpAny (aQ X.prog X.w) X.A (mR (.ref x) (hY sc cl (l.heap.objs.size+1) X.env).frame) (λ_ t2=>XP X W (.ref x) t2) X.xe {t with heap:=g}:=by
   refine wG (s:={t with heap:=g}) Ig (nw x ox).1 (nw T oT).1 tg' λh4 I4 tr4=>?_;obtain⟨c,fs',Y,U,z,stp,m',ad,xd⟩:=w;refine⟨x,cls,d,σ,He,aA T,cW L,rfl,I4,(nw x ox).1,λt ht=>?_,?_,.inr ⟨L,F.fe,rfl⟩,?_⟩
   ·have:t=T:=by simpa using ht
    rw[this];exact (nw T oT).1
   ·rw[ce] at tr4;exact tr4
   ·refine hz0 c fs' Y z U He cls d stp (m'.lk vA (λa ha=>⟨rfl,λz=>m'.dis a ha (d_ _ z)⟩) λb P=>m'.phi b (d_ _ P)) ad (xd.lk vA)
  first
   |exact wpAny_bind (a7 fin λ_ t2 xp=>go xp)
   |exact wpAny_bind (wpAny_pure (wpAny_bind (a7 fin λ_ t2 xp=>go xp)))
 have loop:fP (aQ X.prog X.w) X.A (.compLoop (.ListComp elt [⟨tg,iter,ifs,0⟩] sc pos) 0 (.ref it) (.ref l.heap.objs.size) (hY sc cl (l.heap.objs.size+1) X.env)) (WD (aQ X.prog X.w) X.A X.xe use Qf (.ref l.heap.objs.size) (hY sc cl (l.heap.objs.size+1) X.env)) {l with heap:=h₁,toks:=l.toks+([]:List (aG×aB)).length}:=by
  obtain⟨LI,hLI⟩:∃LI:Nat->aU->Prop,LI=pd D B tn fp (φ++[l.heap.objs.size]) Q H2 l.heap.objs.size (g_ (z5 tg).length fs τ) xs (λi yT Y=>Lv Y/\zR tgt (u7 cs fe) Lv (g_ (z5 tg).length fs τ) (xs.drop i) Y (λrest μ2=>kk (yT++rest) μ2 K0 Z0) Z0):=⟨_,rfl⟩;refine Us LI ?_ xs.length ?_
  ·intro n s' h0;rw[hLI] at h0;obtain⟨i,σ',H',U,Y,yT,yV,rfl,hi',Iv,tni,fr,stp,mr',sr',hacc,dly,hyl,lv',hcmi⟩:=h0;have okH:Ok (φ++[l.heap.objs.size]) U H':=okk _ U H' Y ((xZ hD).trans stp.lk) mr' lv';by_cases hlt:i<xs.length
   ·have TI:=TnI i [] s' σ' H' (λ_ _=>False) Iv (fpk fr) tni (iv.go i _ _ H' okH (by lia));rw[f.A] at TI;refine a7 TI ?_;rintro r s4 ⟨u,rfl,h4⟩;refine a7 h4 ?_;rintro _ s5 ⟨x,H5,I5,r5,y5,tn5,fr5⟩;obtain⟨sm5,dx'⟩:=iv.yld i _ _ H' x H5 xs[i] okH (by simp[hlt]) y5;have stp:=stp.trans (aP.new (α:=U) sm5);have sr':=sr'.step (aP.new (α:=U) sm5);have mr':=mr'.new sm5;have hacc:=sm5 _ _ hacc;have dly:=dly.step (aP.new (α:=U) sm5);have hdr:xs.drop i=xs[i]::xs.drop (i+1):=E_ hlt;rw[hdr] at hcmi;obtain⟨τ',ha,hfe⟩:=hcmi;have I5':=I5.pinned (fpk fr5) (Tn.obj _ _ tn5);have A6:=Ks (S:=z5 tg) (X:=B) f.N ok.nd sto cm (λx h=>h) htg ha I5' sr' dx' r5;rw[f.pr,f.w,f.A,f.en,show B.xe=λ_ _=>False by subst hXb;rfl] at A6;refine a7 A6 ?_;rintro _ s6 ⟨σ6,I6,sr6⟩;generalize hpp:([]++uZ fp s5.heap:List (aE×bB))=E at I6;have hppm:∀b∈fp,∃o,(b,o)∈E:=λb P=>by
     obtain⟨o,e,_⟩:=Tn.obj _ _ tn5 b P;exact⟨o,by rw[←hpp];exact dF _ (j3 P e)⟩
    generalize hW1:l8 D (φ++[l.heap.objs.size]) Q H2 Z0=W1;have lv:∀e t,XP (Cx.pin' B E) W1 e t->NB e t:=λe t xp=>by
     rw[←hW1] at xp;exact leave hppm xp
    have ck:Ck D W1 (inComp Γ tg sc) ((Cx.pin' B E).wish (XP (Cx.pin' B E) W1)) k:=by
     subst hXb;exact Rc (W':=W1) (pn:=[]++E) (xe:=XP (Cx.pin' (ij X (z5 tg++frees sc) sc cl (l.heap.objs.size+1) S3 H3 fp) E) W1) C ok λe s p=>jM (X:=Cx.pin' (ij X (z5 tg++frees sc) sc cl (l.heap.objs.size+1) S3 H3 fp) E) p
    have I6':Inv ((Cx.pin' B E).wish (XP (Cx.pin' B E) W1)) [] σ6 H5 s6:=(JG I6).wish _
    have next:∀{s7:aU} {H7:Hp} {Z:List aE} {O:aK} {yT':List T} {yV':List V},Inv ((Cx.pin' B E).wish (XP (Cx.pin' B E) W1)) [] σ6 H7 s7->aP Q H2 Z H7->aM D (φ++[l.heap.objs.size]) Z H7 O->bA D (φ++[l.heap.objs.size]) Z H7 τ' σ6->H7 l.heap.objs.size=aA (.lst yV')->aN D (φ++[l.heap.objs.size]) Z H7 yT' yV'->yT'.length<=i+1->
      Lv O->zR tgt (u7 cs fe) Lv (g_ (z5 tg).length fs τ) (xs.drop (i+1)) O (λrest μ2=>kk (yT'++rest) μ2 K0 Z0) Z0->
      ∃m,m<xs.length-i/\LI m s7:=λ{s7 H7 Z O yT' yV'} I7 st7 m7 sr7 ac7 dy7 hy7 lv7 q7=>by
     have I7u:Inv B E σ6 H7 s7:=qa I7.unwish;have pinned:∀b∈fp,∃o,s5.heap.get? b=aA o/\s7.heap.get? b=aA o/\H7 b=aF:=λb P=>by
      obtain⟨o,e,_⟩:=Tn.obj _ _ tn5 b P;have:=I7u.pin (b,o) (dF _ (by rw[←hpp];exact dF _ (j3 P e)));exact⟨o,e,this.1,this.2.1⟩
     refine⟨xs.length-(i+1),by lia,?_⟩;rw[hLI];refine⟨i+1,σ6,H7,Z,O,yT',yV',rfl,hlt,I7u.pins_of (λp hp=>absurd hp (by simp)),Tn.keep _ _ _ tn5 (λb P o e=>?_),λb P=>(pinned b P).choose_spec.2.2,st7,m7,⟨?_,λj t e=>?_⟩,ac7,dy7,hy7,lv7,q7⟩
     ·obtain⟨o',e1,e2,_⟩:=pinned b P;rw[e] at e1;cases e1;exact e2
     ·have:=I7u.len;rw[f.N] at this;rw[Ww,this];simp[Zh,Zo hfs]
     ·have hj:(z5 tg).length<=j:=by
       rcases Do j (z5 tg).length with h|h
       ·rw[Ww,eN (by simpa using h),rH] at e;split at e<;>cases e
       ·exact h
      exact sr7.val j t (by rw[XV htg ha j hj];exact e)
    have P0:aJ D W1 (φ++[l.heap.objs.size]) U H5 σ6 (λ(o:Option T) O Z H7=>match o with
      |some y=>∀v,a_ D (φ++[l.heap.objs.size]) Z H7 y v->Lv O/\zR tgt (u7 cs fe) Lv (g_ (z5 tg).length fs τ) (xs.drop (i+1)) O (λys μ2=>kk (yT++y::ys) μ2 K0 Z0) Z0
      |none=>Lv O/\zR tgt (u7 cs fe) Lv (g_ (z5 tg).length fs τ) (xs.drop (i+1)) O (λys μ2=>kk (yT++ys) μ2 K0 Z0) Z0) ((u7 cs fe τ' Y).bind λo O=>RE.ok o O):=by
     refine⟨_,Z0,hfe,λo O e Z H7 st m=>?_,λc fs' O z Z H7 cv d st m ad xd=>?_⟩
     ·cases o with
      |some y=>exact λv _=>e
      |none=>exact e
     ·rw[←hW1];exact⟨c,fs',O,Z,z,stp.trans st,m,ad,xd⟩
    have ep:((Cx.pin' B E).wish (XP (Cx.pin' B E) W1)).prog=X.prog:=f.pr;have ew:((Cx.pin' B E).wish (XP (Cx.pin' B E) W1)).w=X.w:=f.w;have eA:((Cx.pin' B E).wish (XP (Cx.pin' B E) W1)).A=X.A:=f.A;have ee:((Cx.pin' B E).wish (XP (Cx.pin' B E) W1)).env=hY sc cl (l.heap.objs.size+1) X.env:=f.en;have nD:l.heap.objs.size∉U:=λz=>mr'.dis _ z (by simp);have G:=HX (X:=(Cx.pin' B E).wish (XP (Cx.pin' B E) W1)) (M:=aQ X.prog X.w) (A:=X.A) (Qf:=λb s₄=>if b=aC then wpAny (aQ X.prog X.w) X.A (eval elt (hY sc cl (l.heap.objs.size+1) X.env)) (λx s₅=>wpAny (aQ X.prog X.w) X.A (call (.builtin "list.append") [.ref l.heap.objs.size,x]) (λ_ s₆=>∃m,m<xs.length-i/\LI m s₆) (λ_ _=>False) s₅) NB s₄ else ∃m,m<xs.length-i/\LI m s₄) (hts _ W1 ck) I6' sr6 mr' P0 (λs7 H7 Z O I7 st7 sr7 m7 p7=>?_) (λs7 H7 Z O I7 st7 sr7 m7 p7=>?_)
    ·rw[ep,ew,eA,ee] at G;rw[←hNB];exact yy (λe t h=>lv e t h) G
    ·rw[if_pos rfl];have E7:=sub (hel _ W1 ck) I7 sr7 m7 p7;rw[ep,ew,eA,ee] at E7;refine dR E7 (λx8 s8 h8=>?_) λe t h=>lv e t h;obtain⟨v8,H8,y8,μ8,α8,I8,r8,st8,sr8,m8,d8,p8⟩:=h8;have q8:=p8.ok (aP.refl _ _) m8 v8 d8;have acc8:H8 l.heap.objs.size=aA (.lst yV):=st8.keep _ _ (λz=>m7.dis _ z (by simp)) (st7.keep _ _ nD hacc);have hyv:yV.length<=i:=by rw[←dly.length];exact hyl
     have AP:=Wd (X:=Cx.pin' B E) [] s8 σ6 H8 (.ref l.heap.objs.size) [v8] (.ref l.heap.objs.size) [x8] (λ_ H9=>H9=upd H8 l.heap.objs.size (.lst (yV++[v8]))) I8.unwish rfl (.cons r8 .nil) ⟨_,yV,v8,rfl,rfl,acc8,om hyv (dM hlt (zx hroom)),rfl⟩;rw[show (Cx.pin' B E).prog=X.prog from f.pr,show (Cx.pin' B E).w=X.w from f.w,show (Cx.pin' B E).A=X.A from f.A,show (Cx.pin' B E).xe=λ_ _=>False by subst hXb;rfl] at AP;refine a7 AP ?_;rintro x9 s9 ⟨v9,H9,I9,r9,rfl⟩;have inphi:l.heap.objs.size∈φ++[l.heap.objs.size]:=by simp
     have t:=(stp.trans st7).trans st8;have one:aN D (φ++[l.heap.objs.size]) α8 H8 [y8] [v8]:=⟨v8,[],rfl,d8,rfl⟩;refine next (I9.wish _) ⟨t.ext,λb o n e=>?_,λb e=>t.live b ?_⟩ (m8.lk (ZH inphi) (λa ha'=>⟨by rw[z8 (λz=>m8.dis a ha' (by rw[z];simp))],m8.dis a ha'⟩) (λb P=>?_)) (sr8.lk (ZH inphi)) z4 ((((dly.step st7).step st8).append one).lk (ZH inphi)) (by simp;lia) q8.1 (by simpa using q8.2)
     ·rw[z8 (zN e hD)];exact t.keep b o n e
     ·by_cases P:b=l.heap.objs.size
      ·rw[P,z4] at e;cases e
      ·rw[z8 P] at e;exact e
     ·by_cases hb':b=l.heap.objs.size
      ·rw[hb',z4];exact⟨_,rfl,rfl⟩
      ·rw[z8 hb'];exact m8.phi b P
    ·rw[if_neg (by decide)];exact next I7 (stp.trans st7) m7 sr7 (st7.keep _ _ nD hacc) (dly.step st7) (by lia) (p7.ok (aP.refl _ _) m7).1 (p7.ok (aP.refl _ _) m7).2
   ·have hie:i=xs.length:=by lia
    have TD:=TnD i [] s' σ' H' (λ_ _=>False) Iv (fpk fr) tni (by rw[hie];exact iv.stop _ _ H' okH);rw[f.A] at TD;refine a7 TD ?_;rintro r s4 ⟨rfl,I4⟩;have hdr:xs.drop i=[]:=by rw[hie];simp
    rw[hdr] at hcmi;have q4:kk yT Y K0 Z0:=by
     have:kk (yT++[]) Y K0 Z0:=hcmi;simpa using this
    have I5:=back I4;obtain⟨m,hm,_⟩:=I4.loc;rw[f.en] at hm;exact Kq l.heap.objs.size (l.heap.objs.size+1) s4 Q H2 H' U yT yV Y I5 st1 stp hD nph nal (((sr.step st1).lk (xZ hD)).step stp) mr' hacc dly ⟨K0,Z0,q4,hk0,hz0⟩ ⟨by have:=I4.free;rw[f.en] at this;exact this,xo0.loc,xo0.nfs,xo0.new,xo0.cel,xo0.pin⟩ pn3 ⟨m,hm⟩
  ·have sm:ju H2 H3:=by rw[←hH3];exact za hD
   rw[hLI];refine⟨0,_,_,Q,μ1,[],[],rfl,f9 _,J0,Tn.keep _ _ _ tn0 λb P o e=>old b o e,λb P=>?_,aP.new sm,?_,?_,by rw[←hH3];exact z4,rfl,bC _,lv1,by simpa using q0⟩
   ·obtain⟨o,ho⟩:=fo b P;rw[←hH3,z8 (c7 (bY ho))];exact (f2 b P).1
   ·refine mr1.lk (Vr hD sm) (λa ha=>?_) λb P=>?_
    ·have na:a≠l.heap.objs.size:=λz=>nal (z▸ha);exact⟨by rw[←hH3];exact z8 na,λz=>(b_.mp z).elim (mr1.dis a ha) λz=>na (bU.mp z)⟩
    ·rcases b_.mp P with z|z
     ·obtain⟨o,e,n⟩:=mr1.phi b z;exact⟨o,sm b o e,n⟩
     ·rw[bU.mp z,←hH3,z4];exact⟨_,rfl,rfl⟩
   ·exact (Ry (sr.step st1) hfs).lk (Vr hD sm)
 exact codeAny_compStart_list loop (dR (Tn.self _ 0 _ _ _ (Tn.keep _ _ _ tn0 λb P o e=>old b o e) loop) (λ_ _ q=>q) λ_ _ q=>q)
end
section
variable {X:Cx}{D:DP}{W:XW}{Γ:Cn}{k:Nat}{pins:List (aE×bB)}{s:Shared}{σ:St}{H:Hp}{φ α:List aE}{τ:Sl}{μ:aK}{tg iter elt:aH}{sc:Scope}{pos:Pos}{fi:Di}{fs:List Nat}{tgt:Tg}{ifs:List aH}{cs:List Dt}{fe:De}
theorem VI{β:Type}{R:β->aK->List aE->Hp->Prop}{kk:T->aK->RE β}{c:aE}{g d:List aE}{k f:Hp}{ys:List T}{vs:List V}{e:aK}(st:aP g k d f)(m:k c=aF)(i:c∉φ)(h:aM D (φ++[c]) d f e)(j:f c=aA (.lst vs))(dl:aN D (φ++[c]) d f ys vs)(p:aJ D W φ g k σ R (kk (.lst ys) e)) :
  aM D φ d f e/\a_ D φ d f (.lst ys) (.ref c)/\aJ D W φ d f σ R (kk (.lst ys) e):=
 ⟨h.lk vA (λa j=>⟨rfl,λz=>h.dis a j (d_ _ z)⟩) λb l=>h.phi b (d_ _ l),⟨c,vs,rfl,i,λz=>h.dis _ z (by simp),.inl j,dl.lk vA⟩,p.step st⟩
theorem ku:Lk (φ++[g]) d j φ (d++[g]) j:=⟨λa o b c e=>⟨λz=>b (d_ _ z),λz=>(b_.mp z).elim c λz=>b (by rw[bU.mp z];simp),e⟩,λi a e=>by
 rw[eN (bH.mp e).1];exact e⟩
theorem Wc(st:aP u w g r)(y:w d=aF)(m:d∉φ)(c:aM D (φ++[d]) g r j)(t:r d=aA (.lst vs))(dl:aN D (φ++[d]) g r ys vs) :
  aP u w (g++[d]) r/\aM D φ (g++[d]) r (j++[.lst ys])/\a_ D φ (g++[d]) r (.mut j.length) (.ref d):=by
 have n:d∉g:=λz=>c.dis _ z (by simp);refine⟨?_,⟨by simp[c.len],?_,λb k=>?_,λb k=>c.phi b (d_ _ k),λi a o f l=>?_⟩,d,by rw[←c.len,fT (bC _)];simp,rfl⟩
 ·obtain⟨x,e,p⟩:=st.ext;exact⟨⟨x++[d],by rw[e];simp,λb k=>(b_.mp k).elim (p b) λz=>by rw[bU.mp z];exact y⟩,st.keep,st.live⟩
 ·rw[lN];exact⟨c.nd,by simp,λa t b k z=>n (by rw[bU.mp k] at z;exact z▸t)⟩
 ·rcases b_.mp k with h|h
  ·exact λz=>c.dis b h (d_ _ z)
  ·rw[bU.mp h];exact m
 ·by_cases v:i<g.length
  ·rw[eN v] at f;rw[eN (by rw[←c.len];exact v)] at l;exact (c.ob i a o f l).lk ku rfl
  ·have A:=c.len;rw[fT (by lia)] at f l;have s:i-g.length=0:=by
    by_cases z:i-g.length=0
    ·exact z
    ·rw[oM (by simp;lia)] at f;cases f
   have q:i-j.length=0:=by lia
   rw[s] at f;rw[q] at l;have f:aA d=aA a:=f;have l:aA (MO.lst ys)=aA o:=l;cases f;cases l;exact⟨vs,t,dl.lk ku⟩
theorem XQ(C:Ck D W Γ X k)(O:Γ.calm=aC)(ok:cR Γ.N Γ.cel tg sc)(i:jv Γ.N (frees sc)=aA fs)(h:w_ (z5 tg++frees sc) tg=aA tgt)(hi:PI X tg iter (gD D W fi))(l:∀j W',Ck D W' (inComp Γ tg sc) j k->PE j elt (aX D W' fe))(f:∀j W',Ck D W' (inComp Γ tg sc) j k->Kh j D W' ifs cs)(hs:∀x,lO iter X.env x=pure x) :
  PE X (.ListComp elt [⟨tg,iter,ifs,0⟩] sc pos) (aX D W (qT (z5 tg).length fs tgt fi cs fe)):=by
 rintro b s q H Q I ⟨U,Y,V,c,A,F,p⟩;rw[eval_ListComp];refine yp (kk:=λo c=>RE.ok (T.lst o) c) (use:=aF) (Qf:=EP X b q Q) C O ok i h hi l f hs I A F p ?_;rintro n C0 s' u H1 S v o Z r R y st L e E z m P dl a w K ⟨G,M⟩;obtain⟨J,d,a⟩:=VI (kk:=λt c=>RE.ok t c) st L e m P dl a;exact⟨G,M,λg B=>⟨.ref n,S,uq R w K B,rfl,a.here J d⟩⟩
theorem Vt(C:Ck D W Γ X k)(O:Γ.calm=aC)(ok:cR Γ.N Γ.cel tg sc)(l:jv Γ.N (frees sc)=aA fs)(i:w_ (z5 tg++frees sc) tg=aA tgt)(hi:PI X tg iter (gD D W fi))(n:∀j W',Ck D W' (inComp Γ tg sc) j k->PE j elt (aX D W' fe))(h:∀j W',Ck D W' (inComp Γ tg sc) j k->Kh j D W' ifs cs)(hs:∀x,lO iter X.env x=pure x) :
  PE X (.ListComp elt [⟨tg,iter,ifs,0⟩] sc pos) (aX D W (kC (z5 tg).length fs tgt fi cs fe)):=by
 rintro b s r H Q I ⟨U,Y,V,c,A,F,p⟩;rw[eval_ListComp];refine yp (kk:=λq c=>RE.ok (T.mut c.length) (c++[MO.lst q])) (use:=aF) (Qf:=EP X b r Q) C O ok l i hi n h hs I A F p ?_;rintro o C0 s' u H1 S v q Z t R y st L f E z m P dl a w K ⟨G,M⟩;obtain⟨e,J,d⟩:=Wc st L f m P dl;exact⟨G,M,λg B=>⟨.ref o,S,uq R w K B,rfl,a.ok e J _ d⟩⟩
theorem vZ(h:Γ.look x=g)(b:g≠.bad):x∈Γ.G/\Γ.gl x=g:=by
 unfold Cn.look at h;split at h
 ·rename_i a;exact⟨by simpa using a,h⟩
 ·exact absurd h.symm b
theorem QR(h:vb iter=aC):∀x,lO iter X.env x=pure x:=by
 intro x;cases iter<;>first|rfl|(simp[vb] at h)
end
structure o8(D:DP)(W:XW)(φ α:List aE)(H:Hp)(E:Ends)(Q:En):Prop where
 nx:∀τ μ,Q.nx τ μ->∀α' H' σ',aP α H α' H'->aM D φ α' H' μ->bA D φ α' H' τ σ'->E.nx σ' H'
 bk:∀τ μ,Q.bk τ μ->∀α' H' σ',aP α H α' H'->aM D φ α' H' μ->bA D φ α' H' τ σ'->E.bk σ' H'
 ct:∀τ μ,Q.ct τ μ->∀α' H' σ',aP α H α' H'->aM D φ α' H' μ->bA D φ α' H' τ σ'->E.ct σ' H'
 rt:∀t μ,Q.rt t μ->∀α' H' v,aP α H α' H'->aM D φ α' H' μ->a_ D φ α' H' t v->E.rt v H'
 ex:∀c fs τ μ,Q.ex c fs τ μ->∀α' H' σ' cv d,aP α H α' H'->aM D φ α' H' μ->bA D φ α' H' τ σ'->iZ D c fs cv->bX D φ α' H' fs d->W cv d σ' H'
inductive aL(D:DP)(W:XW)(φ α:List aE)(H:Hp)(E:Ends)(o:cK):Prop where
 |mk (Q:En) (q:o Q) (h:o8 D W φ α H E Q)
noncomputable def dS (D:DP)(W:XW)(f:Ds):TS:=λE c H=>nN D H c λa e b d=>aL D W a e H E (f b d)
structure Sk(D:DP)(W:XW)(Γ:Cn)(X:Cx)(k:Nat):Prop extends Ck D W Γ X k where
 sto:nM X Γ.sto
 lcl:∀x∈Γ.N,Γ.cel.contains x=aD->X.env.scope.names.lookup x=aA .local
 pso:nV (aQ X.prog X.w) X.A X.env X.xe
 xmt:∀t x c,(x,c)∈Γ.cls->c<40->∀Ct Cc,D.adr t=aA Ct->X.mg x=aA (.ref Cc)->n5 X.K (.ref Ct) (.ref Cc)=aA (vx t c)
section
variable {X:Cx}{D:DP}{W:XW}{Γ:Cn}{k:Nat}{pins:List (aE×bB)}{s:Shared}{σ:St}{H:Hp}{φ α:List aE}{τ:Sl}{μ:aK}{f g:De}{a b c e:aH}{pos:Pos}{E:Ends}{u v:Ds}
theorem aL.step{g:List aE}{h:Hp}{o:cK}(p:aL D W φ α H E o)(st:aP α H g h):aL D W φ g h E o:=by
 obtain⟨Q,q,h1,h2,k,j,i⟩:=p;exact⟨Q,q,λτ μ z b f a e=>h1 τ μ z b f a (st.trans e),λτ μ z b f a e=>h2 τ μ z b f a (st.trans e),λτ μ z b f a e=>k τ μ z b f a (st.trans e),λτ μ z b f a e=>j τ μ z b f a (st.trans e),λc fs τ μ z b f a C d e=>i c fs τ μ z b f a C d (st.trans e)⟩
theorem aL.elim{C:Prop}(p:aL D W φ α H E cK.st):C:=by obtain⟨_,q,_⟩:=p;exact q.elim
theorem aL.nx{τ:Sl}{μ:aK}(p:aL D W φ α H E (.nx τ μ)){a:List aE}{c:Hp}{b:St}(s:aP α H a c)(m:aM D φ a c μ)(r:bA D φ a c τ b):E.nx b c:=by
 obtain⟨Q,q,h1,_⟩:=p;exact h1 τ μ q a c b s m r
theorem aL.rt{t:T}{μ:aK}(p:aL D W φ α H E (.rt t μ)){a:List aE}{b:Hp}{v:V}(s:aP α H a b)(m:aM D φ a b μ)(r:a_ D φ a b t v):E.rt v b:=by
 obtain⟨Q,q,_,_,_,h,_⟩:=p;exact h t μ q a b v s m r
theorem aL.ex{c:Nat}{fs:List (Nat×T)}{τ:Sl}{μ:aK}(p:aL D W φ α H E (.ex c fs τ μ)){a:List aE}{e:Hp}{b:St}{cv:aB}{d:Option aE}(s:aP α H a e)(m:aM D φ a e μ)(r:bA D φ a e τ b)(ad:iZ D c fs cv)(x:bX D φ a e fs d):W cv d b e:=by
 obtain⟨Q,q,_,_,_,_,h⟩:=p;exact h c fs τ μ q a e b cv d s m r ad x
theorem aL.grd{c:Prop}{o:cK}(p:aL D W φ α H E (cK.grd c o)):c/\aL D W φ α H E o:=by
 obtain⟨Q,q,h⟩:=p;exact⟨q.1,Q,q.2,h⟩
theorem aL.som{b:Type}{o:Option b}{k:b->cK}(p:aL D W φ α H E (cK.som o k)):∃a,o=aA a/\aL D W φ α H E (k a):=by
 obtain⟨Q,⟨a,e,q⟩,h⟩:=p;exact⟨a,e,Q,q,h⟩
theorem aL.br{b:Bool}{r s:cK}(p:aL D W φ α H E (cK.br b r s)):(b=aC/\aL D W φ α H E r)\/(b=aD/\aL D W φ α H E s):=by
 obtain⟨Q,q,h⟩:=p;cases b with
 |true=>exact .inl ⟨rfl,Q,q,h⟩
 |false=>exact .inr ⟨rfl,Q,q,h⟩
theorem aL.ex2{b a:Type}{P c:b->a->Prop}{r:b->a->cK}(p:aL D W φ α H E (λQ=>∃x y,P x y/\c x y/\r x y Q)):∃x y,P x y/\c x y/\aL D W φ α H E (r x y):=by
 obtain⟨Q,⟨x,y,h1,h2,q⟩,h⟩:=p;exact⟨x,y,h1,h2,Q,q,h⟩
theorem aL.ex1{a:Type}{P b:a->Prop}{r:a->cK}(p:aL D W φ α H E (λQ=>∃x,P x/\b x/\r x Q)):∃x,P x/\b x/\aL D W φ α H E (r x):=by
 obtain⟨Q,⟨x,h1,h2,q⟩,h⟩:=p;exact⟨x,h1,h2,Q,q,h⟩
theorem aL.out{β:Type}{r:RE β}{kk:β->aK->cK}(b:bA D φ α H τ σ)(p:aL D W φ α H E (r.out τ kk)):aJ D W φ α H σ (λt j w A=>aL D W φ w A E (kk t j)) r:=by
 obtain⟨Q,q,h⟩:=p;refine⟨_,_,q,λa j e w A st m=>aL.step ⟨Q,e,h⟩ st,λc fs j e w A C d st m ad xd=>?_⟩;exact h.ex c fs τ j e w A σ C d st m (b.step st) ad xd
theorem OS(o:PE X a (aX D W f)):PS X (.Return (aA a) pos) (dS D W (zv f)):=by
 rintro b s h H E I ⟨e,l,g,j,c,n,p⟩;refine OZ o b s h H E I ⟨e,l,g,j,c,n,(aL.out c p).mono λt i k r st m q v d=>aL.rt q (aP.refl _ _) m d⟩
theorem Py:PS X (.Return aF pos) (dS D W BZ):=by
 rintro a s b H E I ⟨d,g,e,f,h,c,p⟩;exact Po a s b H E I (aL.rt p (aP.refl _ _) c rfl)
theorem RO(hs:iP a aF pos.line X.env=pure aD)(o:PE X a (aX D W f)):PS X (.Expr a pos) (dS D W (zF f)):=by
 rintro b s h H E I ⟨e,l,g,j,c,n,p⟩;refine WK o hs b s h H E I ⟨e,l,g,j,c,n,(aL.out c p).mono λt i k r st m q v d=>aL.nx q (aP.refl _ _) m (c.step st)⟩
theorem Ro:gG X [] (dS D W (qh [])):=by
 rintro a s b H E I ⟨e,h,f,g,c,d,p⟩;exact Yh a s b H E I (aL.nx p (aP.refl _ _) d c)
theorem Tv{st:bE}(h1:PS X st (dS D W u))(h2:gG X r (dS D W (qh fs))):gG X (st::r) (dS D W (qh (u::fs))):=by
 rintro a s o H E I ⟨g,t,l,p,v,w,Q,q,x,k,j,i,h⟩;refine Zi h1 h2 a s o H E I ⟨g,t,l,p,v,w,_,q,λb c e d y n st m f=>?_,k,j,i,h⟩;exact⟨g,d,b,c,f,m,aL.step ⟨Q,e,x,k,j,i,h⟩ st⟩
noncomputable def Z_ (X:Cx)(D:DP)(W:XW):List bE->List Ds->Prop
 |[],[]=>True
 |e::es,f::fs=>PS X e (dS D W f)/\Z_ X D W es fs
 |_,_=>False
theorem wu:∀{a:List bE} {fs:List Ds},Z_ X D W a fs->gG X a (dS D W (qh fs))
 |[],[],_=>Ro
 |st::r,f::fs,h=>Tv h.1 (wu h.2)
 |[],_::_,h=>h.elim
 |_::_,[],h=>h.elim
theorem ME{ft:Dt}{as bs:List bE}{us vs:List Ds}(n:PT X c (eP D W ft))(r:Z_ X D W as us)(o:Z_ X D W bs vs):PS X (.If c as bs pos) (dS D W (bW ft us vs)):=by
 rintro e s i H E I ⟨g,k,h,j,f,l,p⟩;refine Nb n (wu r) (wu o) e s i H E I ⟨g,k,h,j,f,l,(aL.out f p).mono λb a d t st m q=>?_⟩;rcases aL.br q with⟨rfl,q⟩|⟨rfl,q⟩
 ·exact⟨g,d,h,a,f.step st,m,q⟩
 ·exact⟨g,d,h,a,f.step st,m,q⟩
noncomputable def lg (Γ:Cn)(tg:aH):Bool:=(z5 tg).all λx=>!Γ.fz.contains x
theorem Vj{tg:aH}(h:lg Γ tg=aC)(m:∀x∈z5 tg,x∈Γ.N):∀x∈z5 tg,x∈Γ.sto:=λx a=>gN.mpr ⟨m x a,fQ.mp h x a⟩
theorem HS(C:Sk D W Γ X k){x:aG}{i:Nat}{p0:Pos}(hi:cF Γ.N x=aA i)(w:lg Γ (.Name x p0)=aC)(hs:iP a (aA (.Name x p0)) pos.line X.env=pure aD)(A:PE X a (aX D W f)):PS X (.Assign [.Name x p0] a pos) (dS D W (zp i f)):=by
 rintro b s j H E I ⟨g,r,h,n,c,u,p⟩;have e:=Vj w (λy z=>by rw[bU.mp z];exact wC hi) x (bU.mpr rfl);refine OP (i:=i) (X:=X) (by rw[C.hN];exact C.nd) (by rw[C.hN];exact vi hi) (C.sto x e).1 A hs (C.sto x e).2 b s j H E I ⟨g,r,h,n,c,u,(aL.out c p).mono λt l o B st m q v d=>?_⟩;exact aL.nx q (aP.refl _ _) m ((c.step st).set d)
theorem VO:∀{es:List aH} {is:List Nat},c_ N es=aA is->∀e∈es,∀x p,e=.Name x p->x∈N
 |[],_,_,e,a,_,_,_=>absurd a (by simp)
 |e0::es,is,h,e,a,x,p,c=>by
  cases e0 with
  |Name y g=>
   simp only[c_] at h;split at h
   ·rename_i i d f b;rcases cC.mp a with rfl|a
    ·cases c;exact wC f
    ·exact VO b e a x p c
   ·cases h
  |_=>simp[c_] at h
theorem Tw(h:w_ N e=aA tgt):∀x∈z5 e,x∈N:=by
 intro x a;cases e with
 |Name y p=>
  simp[z5] at a;subst a;simp only[w_] at h;cases q:cF N x with
  |none=>rw[q] at h;cases h
  |some i=>exact wC q
 |Tuple es f p=>
  obtain⟨e,d,q⟩:=ou.mp a;simp only[w_] at h;cases b:c_ N es with
  |none=>rw[b] at h;cases h
  |some g=>
   cases e with
   |Name y c=>
    have q:aA y=aA x:=q;cases q;exact VO b _ d x c rfl
   |_=>cases q
 |_=>simp[z5] at a
theorem GX(C:Sk D W Γ X k)(g:X.calm=aC){tg:aH}{tgt:Tg}(c:w_ Γ.N tg=aA tgt)(f:lg Γ tg=aC):PG X tg (λv σ H Q=>∃φ α τ t w,bA D φ α H τ σ/\a_ D φ α H t v/\ik tgt t τ=aA w/\∀j,bA D φ α H w j->Q j H):=by
 rintro b s σ H v u Q I r ⟨φ,α,τ,t,w,e,d,h,q⟩;refine a7 (Ks (S:=Γ.sto) C.hN C.nd C.sto g (Vj f (Tw c)) c h I e d r) ?_;rintro _ l ⟨j,i,a⟩;exact⟨j,H,i,q j a⟩
noncomputable def xf:aH->Bool
 |.Call _ _ _ _=>aC
 |.Name _ _=>aC
 |.Subscript _ _ _=>aC
 |.Attribute _ _ _=>aC
 |_=>aD
theorem Pr(C:Sk D W Γ X k)(B:Γ.calm=aC){es:List aH}{is:List Nat}{kk:Nat}{p0:Pos}(n:xf a=aC)(A:c_ Γ.N es=aA is)(z:lg Γ (.Tuple es kk p0)=aC)(F:PE X a (aX D W f)):PS X (.Assign [.Tuple es kk p0] a pos) (dS D W (Bc is f)):=by
 rintro b s r H E I ⟨j,x,l,w,i,y,p⟩;have J:pV [.Tuple es kk p0] a pos.line X.env=pure aD:=by cases a<;>first|(simp[xf] at n;done)|rfl
 have G:pU [.Tuple es kk p0] a X.env=pure aF:=by cases a<;>first|(simp[xf] at n;done)|rfl
 refine Kw F (GX C (C.clm B) (tg:=.Tuple es kk p0) (tgt:=.tup is) (by simp[w_,A]) z) J G rfl b s r H E I ⟨j,x,l,w,i,y,(aL.out i p).mono λt u e K st m q v d=>?_⟩;obtain⟨c,h,q⟩:=aL.som q;exact⟨j,e,l,t,c,i.step st,d,h,λo g=>aL.nx q (aP.refl _ _) m g⟩
theorem OB(C:Sk D W Γ X k){o:aH}{x:aG}{n:Nat}{p1:Pos}{go:De}(U:(x,n)∈Γ.fld)(Y:PE X a (aX D W f))(ho:PE X o (aX D W go)) :
  PS X (.Assign [.Attribute o x p1] a pos) (dS D W (zK go n f)):=by
 rintro l s N H E I ⟨F,P,G,O,A,R,p⟩;have T:iP a (aA (.Attribute o x p1)) pos.line X.env=pure aD:=by cases a<;>rfl
 refine OF ho Y T l s N H E I ⟨F,P,G,O,A,R,(aL.out A p).mono λt u w H1 z S q v d=>?_⟩;have e:=A.step z;refine⟨F,w,G,u,e,S,(aL.out e q).mono λot r g M h J j Z dv=>?_⟩;split at j;case h_2=>exact aL.elim j
 rename_i i;obtain⟨c,fs,m,hl,j⟩:=aL.ex2 j;obtain⟨y,B,rfl⟩:=dv;obtain⟨C0,dx,L,ad,K,df⟩:=J.ob i y _ B m;obtain⟨fx,cl,Q⟩:=C.fld c C0 x n ad U;refine⟨y,C0,dx,L,rfl,K,cl,Q,by rw[←df.length];lia,?_⟩;have b:aP g M g (upd M y (.ins C0 dx (vw x v L))):=aP.turn (cD B) ⟨_,K⟩;have V:i<r.length:=(bH.mp m).1;exact aL.nx j b (J.turn B V b ⟨C0,dx,_,ad,z4,bL.put fx (df.step b) ((d.step h).step b)⟩) ((e.step h).step b)
theorem fW:BE X (λo i v H Q=>∃l k xs,o=.ref l/\i=.int k/\H l=aA (.lst xs)/\0<=k/\k<xs.length/\k<9223372036854775808/\Q (upd H l (.lst (xs.set k.toNat v)))):=by
 intro c s A H o i v B C u Q I j m g h;obtain⟨l,k,xs,rfl,rfl,d,y,x,w,q⟩:=h;cases j;obtain⟨t,rfl⟩:=m;obtain⟨z,b,n,r,p,e⟩:=I.lstM d;refine PySem.W.ki_setAt (n:=n) (items:=b.toArray) e y (by simpa using w) (by rw[dJ,←p];exact x) ?_;exact⟨_,I.lset (t':=s.toks) (ys:=xs.set k.toNat v) (its':=b.set k.toNat u) (f:=λa=>a.setIfInBounds k.toNat u) d e (by simp) (aW.set g _ r) (by rw[D_];exact z),q⟩
theorem OC(C:Sk D W Γ X k){o:aH}{p1:Pos}{fo fb:De}(O:qe b=aC)(ha:PE X a (aX D W f))(ho:PE X o (aX D W fo))(hb:PE X b (aX D W fb)) :
  PS X (.Assign [.Subscript o b p1] a pos) (dS D W (FD fo fb f)):=by
 rintro r s T H E I ⟨w,V,y,U,K,Z,p⟩;have h1:pV [.Subscript o b p1] a pos.line X.env=pure aD:=by cases a<;>rfl
 have h2:pU [.Subscript o b p1] a X.env=pure aF:=by cases a<;>rfl
 refine Kw ha (HQ ho hb fW (λv=>by cases b<;>first|(simp[qe] at O;done)|rfl)) h1 h2 rfl r s T H E I ⟨w,V,y,U,K,Z,(aL.out K p).mono λt B G H1 J m1 q v d=>?_⟩;have h:=K.step J;refine⟨w,G,y,B,h,m1,(aL.out h q).mono λot A F H2 m m2 Y ov dv=>?_⟩;have g:=h.step m;refine⟨w,F,y,A,g,m2,(aL.out g Y).mono λit z j S e Q n iv di=>?_⟩;have d3:=(d.step m).step e;split at n;case h_2=>exact aL.elim n
 rename_i i L;have dv:=dv.step e;obtain⟨ts,u,N,n⟩:=aL.ex1 n;obtain⟨x,M,rfl⟩:=dv;have di:iv=.int L:=di;subst di;obtain⟨P,R,l⟩:=Q.ob i x _ M u;have c:aP j S j (upd S x (.lst (P.set L.toNat v))):=aP.turn (cD M) ⟨_,R⟩;have hi:i<z.length:=(bH.mp u).1;exact⟨x,L,P,rfl,rfl,R,N.1,by rw[←l.length];exact N.2.1,N.2.2,aL.nx n c (Q.turn M hi c ⟨_,z4,aN.set (l.step c) (d3.step c)⟩) ((g.step e).step c)⟩
theorem O2(C:Sk D W Γ X k)(hc:Γ.calm=aC){tg iter:aH}{tgt:Tg}(ht:w_ Γ.N tg=aA tgt)(hz:lg Γ tg=aC){fi:Di}{body:List bE}{vs:List Ds}(hi:PI X tg iter (gD D W fi))(hb:Z_ X D W body vs)(hs:∀x,lO iter X.env x=pure x) :
  PS X (.For tg iter body [] pos) (dS D W (jA tgt fi vs)):=by
 rintro pins s σ H E I ⟨B,α,τ,μ,sr,mr,p⟩;refine O8 C.pso (C.clm hc) hi (GX C (C.clm hc) ht hz) (wu hb) hs pins s σ H E I ⟨B,α,τ,μ,sr,mr,(aL.out sr (show aL D W B α H E ((fi τ μ).re.out τ λpr O=>f6 tgt (qh vs) pr.2 pr.1 τ O) from p)).mono λpr O R H1 st1 m1 q J Ok iv okk lv1=>?_⟩;obtain⟨z,o⟩:=pr;obtain⟨Q,q,h1,h2,h3,h4,h5⟩:=q;refine⟨λi m L A=>m=z.length-i/\i<=z.length/\∃a r l,aP R H1 a A/\aM D B a A l/\bA D B a A r L/\o l/\f6 tgt (qh vs) o (z.drop i) r l Q,⟨z.length,by simp,f9 _,R,τ,O,aP.refl _ _,m1,sr.step st1,lv1,by simpa using q⟩,?_⟩;rintro i m L A ⟨rfl,hi',a,r,l,g,w,F,lv',U⟩;have S:Ok B a A:=okk _ a A l g.lk w lv';by_cases K:i<z.length
 ·refine .inr ⟨iv.go i _ _ A S K,λσ2 V=>∃P Z M,aP R H1 P V/\aM D B P V M/\bA D B P V Z σ2/\o M/\f6 tgt (qh vs) o (z.drop (i+1)) Z M Q,λσ2 V h2=>⟨z.length-(i+1),by omega,rfl,K,h2⟩,λx V y=>?_⟩;obtain⟨sm,dx⟩:=iv.yld i _ _ A x V z[i] S (by simp[K]) y;have g:=g.trans (aP.new (α:=a) sm);have F:=F.step (aP.new (α:=a) sm);have w:=w.new sm;rw[E_ K] at U;obtain⟨Y,ha,U⟩:=U;refine⟨B,a,r,z[i],Y,F,dx,ha,λσ3 sr3=>⟨B,a,Y,l,sr3,w,_,U,?_,?_,?_,?_,?_⟩⟩
  ·exact λj b e f T u h G n=>⟨f,j,b,g.trans h,G,n,e⟩
  ·exact λj b e f T u h G n=>h1 j b e f T u (g.trans h) G n
  ·exact λj b e f T u h G n=>⟨f,j,b,g.trans h,G,n,e⟩
  ·exact λt b e f T v h G d4=>h4 t b e f T v (g.trans h) G d4
  ·exact λc fs j b e f T u Cc d h G n=>h5 c fs j b e f T u Cc d (g.trans h) G n
 ·have hie:i=z.length:=by omega
  rw[hie,List.drop_length] at U;exact .inl ⟨by rw[hie];exact iv.stop _ _ A S,h1 r l U a A L g w F⟩
theorem T1(C:Sk D W Γ X k){body:List bE}(hc:PT X c (eP D W ft))(hb:Z_ X D W body vs):PS X (.While c body [] pos) (dS D W (Wv ft vs)):=by
 rintro K s σ H E I ⟨F,O,Z,μ,sr,mr,Q,⟨J,⟨N,hN⟩,hJ⟩,Y,h2,h3,S,V⟩;refine Tj C.pso hc (wu hb) K s σ H E I ?_;refine⟨λm w M=>∃u i r,aP O H u M/\aM D F u M r/\bA D F u M i w/\J m i r,⟨N,O,Z,μ,aP.refl _ _,mr,sr,hN⟩,?_⟩;rintro m w M ⟨u,i,r,B,P,z,pf⟩;refine⟨F,u,i,r,z,P,_,_,hJ m i r pf,λb x e y T n L=>?_,λc fs x e y T U d n L ad xd=>V c fs i x e y T w U d (B.trans n) L (z.step n) ad xd⟩;cases b with
 |false=>exact Y i x e y T w (B.trans n) L (z.step n)
 |true=>
  rw[if_pos rfl];have G:=B.trans n;refine⟨λl p=>∃j,j<m/\∃a g f,aP O H a p/\aM D F a p f/\bA D F a p g l/\J j g f,λl p S=>S,F,y,i,x,z.step n,L,_,e,?_,?_,?_,?_,?_⟩
  ·exact λg f ⟨j,R,q⟩ a p l h A o=>⟨j,R,a,g,f,G.trans h,A,o,q⟩
  ·exact λg f e a p l h A o=>Y g f e a p l (G.trans h) A o
  ·exact λg f ⟨j,R,q⟩ a p l h A o=>⟨j,R,a,g,f,G.trans h,A,o,q⟩
  ·exact λt f e a p v h A d4=>S t f e a p v (G.trans h) A d4
  ·exact λc fs g f e a p l U d h A o=>V c fs g f e a p l U d (G.trans h) A o
theorem Rj(C:Sk D W Γ X k)(hc:Γ.calm=aC){tg iter elt:aH}{sc:Scope}{fi:Di}{fs:List Nat}{tgt:Tg}{ifs:List aH}{cs:List Dt}{fe:De}{x:aG}{P:Nat}{p0 p1:Pos}(K:cF Γ.N x=aA P)(hz:lg Γ (.Name x p0)=aC)(ok:cR Γ.N Γ.cel tg sc)(hfs:jv Γ.N (frees sc)=aA fs)(htg:w_ (z5 tg++frees sc) tg=aA tgt)(hi:PI X tg iter (gD D W fi))(hel:∀M W',Ck D W' (inComp Γ tg sc) M k->PE M elt (aX D W' fe))(hts:∀M W',Ck D W' (inComp Γ tg sc) M k->Kh M D W' ifs cs)(hs:∀x,lO iter X.env x=pure x)
  (own:Bool) (hsw:iP (.ListComp elt [⟨tg,iter,ifs,0⟩] sc p1) (aA (.Name x p0)) pos.line X.env=pure aC) :
  PS X (.Assign [.Name x p0] (.ListComp elt [⟨tg,iter,ifs,0⟩] sc p1) pos) (dS D W (zp P (match own with|true=>kC (z5 tg).length fs tgt fi cs fe|false=>qT (z5 tg).length fs tgt fi cs fe))):=by
 rintro i s σ H E I ⟨Q,α,τ,o,sr,mr,p⟩;rw[exec_Assign_Name_used _ _ _ _ hsw];refine wpAny_bind (ie (wpAny_bind ?_));show wpAny _ _ (do let _ ←pR (.ListComp elt [⟨tg,iter,ifs,0⟩] sc p1) sc X.env _ (newList []) aD (eval iter X.env) (aA (ip (.Name x p0) X.env))) _ _ s;refine wpAny_bind (a7 (yp (kk:=λR o=>match own with|true=>RE.ok (T.mut o.length) (o++[MO.lst R])|false=>RE.ok (T.lst R) o) (use:=aA (ip (.Name x p0) X.env)) (Qf:=λ_ B=>∃a f,Inv X i a f B/\E.nx a f) C.toCk hc ok hfs htg hi hel hts hs I sr mr (aL.out sr (by cases own<;>exact p)) ?_) λ_ B hq=>wpAny_pure (wpAny_pure hq));rintro j C0 B α1 H1 f α' R vs r I' st1 st hn F nal u m ha dl c O hp ⟨mm,hm⟩;have hx:=wC K;obtain⟨Z,es,ep,hoc,L,l⟩:=hm;have I2:Inv X (i++[(C0,Z)]) σ f B:=I'.pins_of λp n=>(b_.mp n).elim (λz=>I'.pin p (dF _ z)) λz=>by
  rw[bU.mp z];exact⟨hoc,O.free,O.loc,O.nfs,λv e=>by rw[L] at e;cases e⟩
 have fin:∀{b:List aE} {t:T} {μ2:aK},bA D Q b f τ σ->a_ D Q b f t (.ref j)->(∀a,bA D Q b f (xM τ P (aA t)) a->E.nx a f)->wpAny (aQ X.prog X.w) X.A (ip (.Name x p0) X.env (.ref j)) (λ_ U=>∃m,U.heap.Ns C0 m/\∀g,fU C0 U.heap g->∃a f,Inv X i a f {U with heap:=g}/\E.nx a f) X.xe B:=λ{b t μ2} Y d q=>by
  refine a7 (Ks (e:=.Name x p0) (S:=Γ.sto) (tgt:=.one P) (t:=t) (τ:=τ) C.hN C.nd C.sto (C.clm hc) (Vj hz λy hy=>by rw[bU.mp hy];exact hx) (by simp[w_,K]) rfl I2 Y d (show RelV (.ref j) (.ref j) from rfl)) ?_;rintro _ s2 ⟨a,I3,h⟩;have J:=(I3.pin (C0,Z) (dF _ (dF _ (bU.mpr rfl)))).1;refine⟨mm,⟨Z,es,ep,J,L,l⟩,λg sb=>⟨a,f,?_,q a h⟩⟩;exact uq (I3.pins_of λp n=>I3.pin p (dF _ (d_ _ n))) O hp sb
 cases own with
 |false=>
  obtain⟨G,d,c⟩:=VI (kk:=λt o=>RE.ok t o) st hn F m ha dl c;exact fin (μ2:=r) (u.lk vA) d λa h=>aL.nx (c.ok (aP.refl _ _) G) (aP.refl _ _) G h
 |true=>
  obtain⟨V,G,d⟩:=Wc st hn F m ha dl;exact fin (μ2:=r) (u.lk ku) d λa h=>aL.nx (c.ok V G) (aP.refl _ _) G h
end
noncomputable def Nd(C:aE)(h:aR):Prop:=∃b N nm q bs hd d sub ab a dd j i g f e c,h.get? C=aA (iw nm q C N bs b hd d sub ab a dd j i g f e "ValueError.__new__")/\h.Ns N c/\c "__init__"=aF/\me h zI b
theorem Vy {K:bK} (kin:K.In h) (e:fF K C zI "ValueError.__new__"=aC):Nd C h:=by
 simp only[fF] at e;revert e;cases w:K.lookup C with
 |none=>intro e;cases e
 |some o=>
  intro e;split at e;case h_2=>cases e
  rename_i dd cd d v;cases v;split at e;case h_2=>cases e
  rename_i B s l k j i n g p m;simp only[cI,beq_iff_eq,ng] at e;obtain⟨⟨⟨⟨⟨z,y⟩,r⟩,x⟩,b⟩,q⟩:=e;cases cd;rename_i nm bs mro f u hd t sub ab c A;simp only at p r b q;cases z;cases y;cases p;cases r;have a:d=#[l,k,j,i,aA (.builtin "ValueError.__new__"),g]:=by
   cases d;simp only at m;rw[m]
  cases a;exact⟨s,f,nm,u,bs,hd,t,sub,ab,c,dd,l,k,j,i,g,h.nsMap f,kin _ _ w,.of_isNs (wv kin b),PySem.W.nsMap_none_of_in kin b q,PySem.W.tail_of_in kin x⟩
section
variable {X:Cx}{D:DP}{W:XW}{Γ:Cn}{k:Nat}{pins:List (aE×bB)}{s:Shared}{σ:St}{H:Hp}{φ α:List aE}{τ:Sl}{μ:aK}{a b c e:aH}{pos:Pos}{E:Ends}{es:List aH}{fs:List De}
theorem S9(C:Sk D W Γ X k)(hc:Γ.calm=aC)(B:x∈Γ.G)(hg:Γ.gl x=.xcl n)(T:dT X D W (a::es) fs) :
  PS X (.Raise (aA (.Call (.Name x p0) (a::es) [] p1)) aF pos) (dS D W (zM n fs)):=by
 rintro j s O H E I ⟨h,P,u,U,A,mr,p⟩;have q:=C.glo x B;rw[hg] at q;obtain⟨C0,ad,hm,L⟩:=q;have K:=T.stars;obtain⟨o,N,nm,R,bs,hd,sn,sub,ab,col,dd,k0,k1,k2,k3,k5,mN,Z,Y,V,S⟩:=Vy I.ok.mod.kin L;have hb:o.contains (.type "BaseException")=aC:=S.hasType oJ.hasBase;have hp:(fN p1 (eF (a::es) X.env)).any (·.1)=aD:=qB K;refine wpAny_Raise_call_subT (nm:=nm) (q:=R) (C:=C0) (N:=N) (bs:=bs) (bm:=o) (hdct:=hd) (sn:=sn) (sub:=sub) (ab:=ab) (col:=col) (dd:=dd) (k0:=k0) (k1:=k1) (k2:=k2) (k3:=k3) (k5:=k5) (mN:=mN) oJ hb (I.ok.hd (C.clm hc)) hp V ?_;refine wA I (C.glb x B) hm ⟨rfl,?_⟩ (C.dbG x B);have J:aO a=aC:=by simp only[lK,cI] at K;exact K.1
 have Q:=a7 (j5 T p1 j s O H (λy g=>∃i c b,aP P H b g/\bA D h b g u O/\aM D h b g c/\aN D h b g i y/\aL D W h b g E (.grd (i.length<=aZ) (.ex n [] u c))) I ⟨h,P,u,U,A,mr,(aL.out A p).mono λi v w H' st m q y d _=>⟨i,v,w,st,A.step st,m,d,q⟩⟩) (Q':=λl f=>l.length<=sizeLine/\f.heap.get? C0=aA (iw nm R C0 N bs o hd sn sub ab col dd k0 k1 k2 k3 k5 "ValueError.__new__")/\f.heap.Ns N mN/\me f.heap zI o/\∀M e,n6 f.heap M e (.ref C0) l->X.xe (.ref e) {f with heap:=M}) ?_
 ·rw[z3 J] at Q ⊢;exact rL (a7 Q λl f h1=>⟨rfl,h1⟩)
 ·rintro l f ⟨y,g,t,r,i,c,b,st,z,m1,dl,q⟩;obtain⟨hl,q⟩:=aL.grd q;refine⟨?_,t.bk _ _ Z,Y.keeps t.bk,S.keeps t.bk,λM e mk=>?_⟩
  ·have e1:=dl.length;have e2:=r.length;have:=zx hl;rw[←e2,←e1];exact this
  ·exact C.xe _ _ (PM t mk (aL.ex q (aP.refl _ _) m1 z (.own C0 ad rfl) rfl))
theorem fJ.ty{M:l_}{h:aR}{x T:aE}{cls:aB}{d:Option aE}{fl:aB}(t:fJ h x T cls d fl):nW M h (typeOf (.ref x)) (stC cls):=by
 obtain⟨a,vs,a0,b,ts,h1,⟨h2,e⟩,c,_⟩:=t;exact h2▸(Dv h1).andThen .now
theorem fJ.keeps{h g:aR}{x T:aE}{cls:aB}{d:Option aE}{fl:aB}(t:fJ h x T cls d fl)(k:∀b o,h.get? b=aA o->g.get? b=aA o):fJ g x T cls d fl:=by
 obtain⟨c,vs,a0,e,ts,h1,h2,p,n,m,l,j,i,f,a⟩:=t;exact⟨c,vs,a0,e,ts,k _ _ h1,h2,p,n,m,l,k _ _ j,i,f,a⟩
noncomputable def iJ (Γ:Cn)(x:aG)(c:Nat):Prop:=x∈Γ.G/\(x,c)∈Γ.cls/\((∃f,Γ.gl x=.xcf c f)\/Γ.gl x=.xcl c)/\c<40
noncomputable def BS (Γ:Cn)(t:aH)(cs:List Nat):Prop:=∃x p c,t=.Name x p/\cs=[c]/\iJ Γ x c
noncomputable def ZP (D:DP)(Γ:Cn)(k:Nat):List pP->List (List Nat×Option Nat×List Ds)->Prop
 |[],[]=>True
 |h::f,g::r=>(∃t c a e cs b,h=.ExceptHandler (aA t) aF (c::a) e/\g=(cs,aF,b)/\BS Γ t cs/\∀d,Sk D o0 {Γ with calm:=aD} d k->Z_ d D o0 (c::a) b)/\ZP D Γ k f r
 |_,_=>False
theorem iJ.mg(C:Sk D W Γ X k){x:aG}{c:Nat}(h:iJ Γ x c):∃d,X.mg x=aA (.ref d)/\D.adr c=aA d:=by
 have q:=C.glo x h.1;rcases h.2.2.1 with⟨f,g⟩|g
 ·rw[g] at q;obtain⟨d,ad,a⟩:=q;exact⟨d,a,ad⟩
 ·rw[g] at q;obtain⟨d,ad,a,_⟩:=q;exact⟨d,a,ad⟩
theorem O3{c kk:Nat}{n:String}(h:o6 kk=aA n)(ne:c≠kk):vx kk c=aD:=by
 have e:kk=8\/kk=9:=by
  unfold o6 at h;split at h
  ·exact .inl ‹_›
  ·split at h
   ·exact .inr ‹_›
   ·cases h
 have a:fO kk c=aD:=by
  cases q:fO kk c with
  |false=>rfl
  |true=>exact absurd (wE q).symm ne
 rcases e with rfl|rfl<;>(show mG (fO _ c) _=aD;rw[a])
theorem Pl(C:Sk D W Γ X k){x:aG}{c kk:Nat}{cv:aB}{f:List (Nat×T)}{b:aE}(ad:iZ D kk f cv)(d:iJ Γ x c)(g:X.mg x=aA (.ref b))(a:D.adr c=aA b):n5 X.K (stC cv) (.ref b)=aA (vx kk c):=by
 cases ad with
 |own Ck ad e=>rw[e,PD];exact C.xmt kk x c d.2.1 d.2.2.2 Ck b ad g
 |blt n h l e=>
  have ne:c≠kk:=λz=>by rw[z,l] at a;cases a
  rw[O3 h ne,e];have q:=C.xmt c x c d.2.1 d.2.2.2 b b a g;unfold n5 at q ⊢;split at q
  ·rename_i j;rw[if_pos j];unfold PySem.W.kitCls at q ⊢;dsimp only at q ⊢;split at q
   ·rename_i i;rw[if_pos i];unfold o6 at h;split at h
    ·cases h;rfl
    ·split at h
     ·cases h;rfl
     ·cases h
   ·cases q
  ·cases q
theorem RR(C:Sk D W Γ X k){x:aE}{cv:aB}{kk:Nat}{f:List (Nat×T)}{t:aH}{cs:List Nat}{s:aU}{σ:St}{H:Hp}{Q:Bool->aU->Prop}{E F:aB->aU->Prop}(ad:iZ D kk f cv)(i:BS Γ t cs)(I:Inv (Cx.han (Cx.pin' X pins) x) [] σ H s)(ty:nW (aQ X.prog X.w) s.heap (typeOf (.ref x)) (stC cv))
  (q:∀h',(∀b o,s.heap.get? b=aA o->h'.get? b=aA o)->Q (c9 kk cs) {s with heap:=h'}):wpAny (aQ X.prog X.w) (X.A.mark (aA (.ref x))) (eval t X.env) (λc d=>wpAny (aQ X.prog X.w) (X.A.mark (aA (.ref x))) (excMatches (.ref x) c) Q E d) F s:=by
 obtain⟨y,p,c,rfl,rfl,a⟩:=i;obtain⟨j,h,g⟩:=a.mg C;refine wA (X:=Cx.han (Cx.pin' X pins) _) I (C.glb y a.1) h ?_ (C.dbG y a.1);refine (PySem.W.exm_one (M:=aQ X.prog X.w) I.kIn ty (Pl C ad a h g)).at ?_;have e:c9 kk [c]=vx kk c:=by
  rw[uM];show mG _ aD=_;cases vx kk c<;>rfl
 have:=q s.heap λ_ _ e=>e;rw[e] at this;exact this
theorem HF(C:Sk D W Γ X k){x K:aE}{cv:aB}{d:Option aE}{kk:Nat}{n:List (Nat×T)}(ad:iZ D kk n cv):∀{hs:List pP} {r:List (List Nat×Option Nat×List Ds)} {B:aU} {i:St} {l:Hp} {a:List aE} {c:Sl} {j:aK},ZP D Γ k hs r->Inv (Cx.pin' X pins) [] i l B->dL (Cx.pin' X pins) l x->dL (Cx.pin' X pins) l K->fJ B.heap x K cv d .none->
  bX D φ a l n d->aM D φ a l j->bA D φ a l c i->aL D W φ a l E (rT r kk n c j)->wpAny (aQ X.prog X.w) X.A (handleBy (.ref x) X.env hs) (SP X pins E) X.xe B
 |[],[],B,i,l,a,c,j,_,u,O,P,G,xd,Z,v,p=>by
  obtain⟨e0,out,L,F⟩:=C.frm;refine wpAny_handleBy_nil ?_;unfold Dm;obtain⟨oe,vs',a0,oT',ts,ho,hcc,hd,hv0,hv1,hT,hoT,hdT,h3,_⟩:=id G;refine wpAny_bind (ix ho hd hv1 ?_);rw[if_neg (show ¬((cO K==eU)=aC) from by simp)];have go:∀{H:aU},XP X W (.ref x) H->wpAny (aQ X.prog X.w) X.A (throw (cO x):Sem Flow) (SP X pins E) X.xe H:=λ{H} M=>wpAny_throw (C.xe _ _ M);have un:∀b,dL (Cx.pin' X pins) l b->dL X l b:=λb o=>⟨o.free,o.loc,o.nfs,o.new,o.cel,λp hp=>o.pin p (d_ _ hp)⟩;have fin:wpAny (aQ X.prog X.w) X.A (mR (.ref x) X.env.frame) (λ_ H=>XP X W (.ref x) H) X.xe B:=by
   refine wG ((qa u).pins_of λp hp=>absurd hp (by simp)) (un x O) (un K P) G λh4 I4 N=>?_;refine⟨x,cv,d,i,l,aA K,cW L,rfl,I4,un x O,λt ht=>?_,?_,.inr ⟨L,F.fe,rfl⟩,aL.ex p (aP.refl _ _) Z v ad xd⟩
   ·have:t=K:=by simpa using ht
    rw[this];exact un K P
   ·rw[F.fe] at N;exact N
  first
   |exact wpAny_bind (a7 fin λ_ H M=>go M)
   |exact wpAny_bind (wpAny_pure (wpAny_bind (a7 fin λ_ H M=>go M)))
 |[],_::_,_,_,_,_,_,_,h,_,_,_,_,_,_,_,_=>h.elim
 |_::_,[],_,_,_,_,_,_,h,_,_,_,_,_,_,_,_=>h.elim
 |hd::hs',g::r',B,i,l,a,c,j,h,u,O,P,G,xd,Z,v,p=>by
   obtain⟨⟨t,b0,Y,pp,cs,vs,rfl,rfl,ht,hsu⟩,J⟩:=h;have IX:Inv (Cx.han (Cx.pin' X pins) x) [] i l B:=Xh u;refine wpAny_handleBy_cons (codeAny_handlers_test (RR C ad ht IX (fJ.ty G) λh' R=>?_)) (λq=>by cases q);have u:Inv (Cx.pin' X pins) [] i l {B with heap:=h'}:=u.kept (t':=B.toks) R;have G:=G.keeps R;have p:aL D W φ a l E (.br (c9 kk cs) (FQ aF vs kk n c j) (rT r' kk n c j)):=p;rcases aL.br p with⟨hb,p⟩|⟨hb,p⟩
   ·rw[hb];obtain⟨Q,q,h1,h2,h3,h4,h5⟩:=p;have C2:∀{X':Cx},X'=Cx.han (Cx.pin' X pins) x->Sk D o0 {Γ with calm:=aD} X' k:=λ{X'} hX'=>by
     subst hX';obtain⟨e0,out,L,F⟩:=C.frm;exact {hK:=C.hK,hN:=C.hN,nd:=C.nd,vis:=C.vis,dbg:=C.dbg,dbG:=C.dbG,glb:=C.glb,glo:=C.glo,glU:=C.glU,cel:=C.cel,isi:=C.isi,fld:=C.fld,xcx:=C.xcx,ocx:=C.ocx,clv:=C.clv,clm:=(λz=>by cases z),rom:=(λz=>by cases z),rmh:=⟨C.rmh.dp,C.rmh.un⟩,xe:=(λe s p=>by obtain⟨_,_,_,_,_,_,_,_,_,_,_,_,_,z⟩:=p;exact z),frm:=⟨e0,out,L,F.stk,F.f0,F.fe⟩,lam:=C.lam,kfz:=C.kfz,sto:=C.sto,lcl:=C.lcl,pso:=PassesOwn.never,xmt:=C.xmt}
    have okX:X.Ok:=Jk u.ok;refine codeAny_handlers_suite (wG (X:=Cx.pin' X pins) u O P G λh3' I3 tr3=>?_);have S:=wu (hsu _ (C2 rfl)) [] _ _ _ {nx:=E.nx,rt:=E.rt} (Xh (x:=x) I3) ⟨φ,a,c,j,v,Z,_,q,h1,(λ_ _ z=>z.elim),(λ_ _ z=>z.elim),h4,(λ_ _ _ _ z=>z.elim)⟩;refine dR S (λf s6 h6=>?_) (λ_ _ z=>z.elim);cases f with
    |next=>obtain⟨m,V,U,I⟩:=h6;exact⟨m,V,qa (QD u.ok U),I⟩
    |brk=>obtain⟨m,V,U,I⟩:=h6;exact I.elim
    |cont=>obtain⟨m,V,U,I⟩:=h6;exact I.elim
    |ret w=>obtain⟨y,m,V,U,r,I⟩:=h6;exact⟨y,m,V,qa (QD u.ok U),r,I⟩
   ·rw[hb];exact HF C ad J u O P G xd Z v p
theorem OI(C:Sk D W Γ X k)(hc:Γ.calm=aC){body:List bE}(hb:∀Y W',Sk D W' Γ Y k->Z_ Y D W' body us)(hh:ZP D Γ k (h0::hs) r) :
  PS X (.Try body (h0::hs) [] [] pos) (dS D W (AG us r)):=by
 rintro a s σ H E I ⟨o,N,Z,μ,sr,mr,Q,q,j,U,T,S,h5⟩;obtain⟨e0,out,L,F⟩:=C.frm;have V:lp (Cx.pin' X a) e0 out L:=⟨F.stk,F.f0,F.fe⟩;generalize R:(λ(cls:aB) (d:Option aE) (b:St) (c:Hp)=>∃n fs g h i,rT r n fs g h Q/\iZ D n fs cls/\aP N H i c/\aM D o i c h/\bA D o i c g b/\bX D o i c fs d:XW)=u;have C1:Sk D u Γ ((Cx.pin' X a).wish (XP (Cx.pin' X a) u)) k:={hK:=C.hK,hN:=C.hN,nd:=C.nd,vis:=C.vis,dbg:=C.dbg,dbG:=C.dbG,glb:=C.glb,glo:=C.glo,glU:=C.glU,cel:=C.cel,isi:=C.isi,fld:=C.fld,xcx:=C.xcx,ocx:=C.ocx,clv:=C.clv,clm:=C.clm,rom:=C.rom,rmh:=⟨C.rmh.dp,C.rmh.un⟩,xe:=λe s p=>jM p,frm:=⟨e0,out,L,F.stk,F.f0,F.fe⟩,lam:=C.lam,kfz:=C.kfz,sto:=C.sto,lcl:=C.lcl,pso:=yh V I.ok.frames,xmt:=C.xmt};have B:=wu (hb _ u C1) [] s σ H E ((JG I).wish _) ⟨o,N,Z,μ,sr,mr,_,q,j,U,T,S,λn fs g h z v c b cv d st m K ad xd=>by rw[←R];exact⟨n,fs,g,h,v,z,ad,st,m,K,xd⟩⟩;refine wpAny_Try_except (dR B (λf t j=>?_) (λe1 t M=>?_))
 ·cases f with
  |next=>obtain⟨b,c,l,q⟩:=j;exact Yh a t b c E (qa l.unwish) q
  |brk=>obtain⟨b,c,l,q⟩:=j;exact⟨b,c,qa l.unwish,q⟩
  |cont=>obtain⟨b,c,l,q⟩:=j;exact⟨b,c,qa l.unwish,q⟩
  |ret w=>obtain⟨y,b,c,l,r,q⟩:=j;exact⟨y,b,c,qa l.unwish,r,q⟩
 have M:XP (Cx.pin' X a) u e1 t:=M;refine uo (X:=Cx.pin' X a) V I.ok.frames M λx cls d σ1 H1 Tt h' ee I1 O P tr w=>?_;subst ee;refine wG (X:=Cx.pin' X a) (s:={t with heap:=h'}) I1 O P tr λh2' I2 A=>?_;rw[←R] at w;obtain⟨n,fs,g,h,i,z,ad,G,m1,J,xd⟩:=w;exact HF C ad hh I2 O P A xd m1 J (aL.step ⟨Q,z,j,U,T,S,h5⟩ G)
end
structure dH where
 e:Cn->aH->Option De
 t:Cn->aH->Option Dt
 w:Cn->aH->Option Dt
 i:Cn->aH->Option Di
 o:Cn->aH->Option De
 s:Cn->bE->Option Ds
noncomputable abbrev ER:=dH->Cn->aH->Option De
noncomputable abbrev TR:=dH->Cn->aH->Option Dt
noncomputable abbrev IR:=dH->Cn->aH->Option Di
noncomputable abbrev SR:=dH->Cn->bE->Option Ds
structure cU where
 e:List ER
 t:List TR
 w:List TR
 i:List IR
 o:List ER
 s:List SR
noncomputable def WJ {α β:Type}:List (dH->Cn->α->Option β)->dH->Cn->α->Option β
 |[],_,_,_=>aF
 |f::fs,r,a,e=>match f r a e with
  |some d=>aA d
  |none=>WJ fs r a e
noncomputable def aT (R:cU):Nat->dH
 |0=>⟨λ_ _=>aF,λ_ _=>aF,λ_ _=>aF,λ_ _=>aF,λ_ _=>aF,λ_ _=>aF⟩
 |n+1=>⟨WJ R.e (aT R n),WJ R.t (aT R n),WJ R.w (aT R n),WJ R.i (aT R n),WJ R.o (aT R n),WJ R.s (aT R n)⟩
noncomputable def Uw:aH->Bool
 |.Tuple _ _ _=>aC
 |_=>aD
theorem Xi(h:Uw e=aC):∃d x1 g,e=.Tuple d x1 g:=by
 unfold Uw at h;split at h
 ·exact⟨_,_,_,rfl⟩
 ·cases h
noncomputable def JU (tg e:aH):Bool:=match e with
 |.Call (.Name x _) _ _ _=>(x != ("enumerate":aG)&&x != ("zip":aG)) || Uw tg
 |.Call (.Attribute _ m _) _ _ _=>m != ("items":aG) || Uw tg
 |_=>aC
structure bV(D:DP)(r:dH):Prop where
 e:∀{X W Γ k e f},Ck D W Γ X k->r.e Γ e=aA f->PE X e (aX D W f)
 t:∀{X W Γ k e f},Ck D W Γ X k->r.t Γ e=aA f->PT X e (eP D W f)
 w:∀{X W Γ k e f},Ck D W Γ X k->r.w Γ e=aA f->PW X e (eP D W f)
 i:∀{X W Γ k tg e f},Ck D W Γ X k->JU tg e=aC->r.i Γ e=aA f->PI X tg e (gD D W f)
 o:∀{X W Γ k e f},Ck D W Γ X k->r.o Γ e=aA f->PE X e (aX D W f)
 s:∀{X W Γ k e f},Sk D W Γ X k->r.s Γ e=aA f->PS X e (dS D W f)
noncomputable def cY (D:DP)(f:ER):Prop:=∀r,bV D r->∀{X W a k e d},Ck D W a X k->f r a e=aA d->PE X e (aX D W d)
noncomputable def sI (D:DP)(f:TR):Prop:=∀r,bV D r->∀{X W a k e d},Ck D W a X k->f r a e=aA d->PT X e (eP D W d)
noncomputable def Iy (D:DP)(f:TR):Prop:=∀r,bV D r->∀{X W a k e d},Ck D W a X k->f r a e=aA d->PW X e (eP D W d)
noncomputable def l7 (D:DP)(f:IR):Prop:=∀r,bV D r->∀{X W a k b e d},Ck D W a X k->JU b e=aC->f r a e=aA d->PI X b e (gD D W d)
noncomputable def o7 (D:DP)(f:SR):Prop:=∀r,bV D r->∀{X W a k e d},Sk D W a X k->f r a e=aA d->PS X e (dS D W d)
noncomputable def yI{α:Type}(P:α->Prop):List α->Prop
 |[]=>True
 |f::fs=>P f/\yI P fs
structure cG(D:DP)(R:cU):Prop where
 e:yI (cY D) R.e
 t:yI (sI D) R.t
 w:yI (Iy D) R.w
 i:yI (l7 D) R.i
 o:yI (cY D) R.o
 s:yI (o7 D) R.s
theorem vY{α β:Type}{P:(dH->Cn->α->Option β)->Prop}{C:Prop}{r:dH}{Γ:Cn}{e:α}{d:β}:∀{fs:List (dH->Cn->α->Option β)},yI P fs->(∀f,P f->f r Γ e=aA d->C)->WJ fs r Γ e=aA d->C
 |[],_,_,h=>by cases h
 |f::fs,a,k,h=>by
  unfold WJ at h;cases q:f r Γ e with
  |some b=>rw[q] at h;cases h;exact k f a.1 q
  |none=>rw[q] at h;exact vY a.2 k h
theorem we{D:DP}{R:cU}(H:cG D R):∀n,bV D (aT R n)
 |0=>⟨λ_ h=>(by cases h),λ_ h=>(by cases h),λ_ h=>(by cases h),λ_ _ h=>(by cases h),λ_ h=>(by cases h),λ_ h=>(by cases h)⟩
 |n+1=>⟨λC h=>vY H.e (λf p q=>p _ (we H n) C q) h,λC h=>vY H.t (λf p q=>p _ (we H n) C q) h,λC h=>vY H.w (λf p q=>p _ (we H n) C q) h,λC a h=>vY H.i (λf p q=>p _ (we H n) C a q) h,λC h=>vY H.o (λf p q=>p _ (we H n) C q) h,λC h=>vY H.s (λf p q=>p _ (we H n) C q) h⟩
noncomputable def gd{α:Type}(b:Bool)(o:Option α):Option α:=match b with
 |true=>o
 |false=>aF
theorem z7{α:Type}{b:Bool}{o:Option α}{x:α}(h:gd b o=aA x):b=aC/\o=aA x:=by
 cases b with
 |true=>exact⟨rfl,h⟩
 |false=>cases h
theorem aS{α β:Type}{o:Option α}{f:α->Option β}{x:β}(h:o.bind f=aA x):∃a,o=aA a/\f a=aA x:=Af.mp h
noncomputable def zj {α β:Type}(f:α->Option β):List α->Option (List β)
 |[]=>aA []
 |a::r=>(f a).bind λb=>(zj f r).bind λbs=>aA (b::bs)
noncomputable def lZ (r:dH)(Γ:Cn)(es:List aH):Option (List De):=zj (λe=>gd (aO e) (r.e Γ e)) es
section
variable {D:DP}{r:dH}{X:Cx}{W:XW}{Γ:Cn}{k:Nat}
theorem vX(h:bV D r)(C:Ck D W Γ X k):∀{es:List aH} {fs:List De},lZ r Γ es=aA fs->dT X D W es fs
 |[],fs,e=>by cases e;trivial
 |a::es,fs,e=>by
  obtain⟨f,g,e⟩:=aS e;obtain⟨i,d,e⟩:=aS e;cases e;obtain⟨c,b⟩:=z7 g;exact⟨c,h.e C b,vX h C d⟩
theorem jJ(h:bV D r)(C:Ck D W Γ X k):∀{es:List aH} {fs:List Dt},zj (r.t Γ) es=aA fs->Kh X D W es fs
 |[],fs,e=>by cases e;trivial
 |a::es,fs,e=>by
  obtain⟨f,c,e⟩:=aS e;obtain⟨d,b,e⟩:=aS e;cases e;exact⟨h.t C c,jJ h C b⟩
theorem wb(h:bV D r)(C:Sk D W Γ X k):∀{es:List bE} {fs:List Ds},zj (r.s Γ) es=aA fs->Z_ X D W es fs
 |[],fs,e=>by cases e;trivial
 |a::es,fs,e=>by
  obtain⟨f,c,e⟩:=aS e;obtain⟨d,b,e⟩:=aS e;cases e;exact⟨h.s C c,wb h C b⟩
end
noncomputable def gY:GM->Bool
 |.none=>aC
 |_=>aD
theorem Ob(h:gY g=aC):g=.none:=by cases g<;>first|rfl|cases h
theorem zB{Γ:Cn}{x:aG}(h:gY (Γ.look x)=aC):x∈Γ.G/\Γ.gl x=.none:=vZ (Ob h) (by intro z;cases z)
structure C0 where
 x:aG
 as:List aH
 p0:Pos
 pc:Pos
noncomputable def xF:aH->Option C0
 |.Call (.Name x b) c [] a=>aA ⟨x,c,b,a⟩
 |_=>aF
theorem qV{e:aH}{q:C0}(h:xF e=aA q):e=.Call (.Name q.x q.p0) q.as [] q.pc:=by
 unfold xF at h;split at h
 ·cases h;rfl
 ·cases h
structure CT where
 o:aH
 m:aG
 pa:Pos
 as:List aH
 pc:Pos
noncomputable def yv:aH->Option CT
 |.Call (.Attribute o m b) c [] a=>aA ⟨o,m,b,c,a⟩
 |_=>aF
theorem vC{e:aH}{q:CT}(h:yv e=aA q):e=.Call (.Attribute q.o q.m q.pa) q.as [] q.pc:=by
 unfold yv at h;split at h
 ·cases h;rfl
 ·cases h
structure C1 where
 a:aH
 op:eK
 b:aH
 p:Pos
noncomputable def rX:aH->Option C1
 |.Compare a [op] [b] p=>aA ⟨a,op,b,p⟩
 |_=>aF
theorem XE(h:rX e=aA q):e=.Compare q.a [q.op] [q.b] q.p:=by
 unfold rX at h;split at h
 ·cases h;rfl
 ·cases h
structure Ck1 where
 x:aG
 p0:Pos
 a:aH
 ky:aG
 v:aH
 pk:Pos
 pc:Pos
noncomputable def Ub:aH->Option Ck1
 |.Call (.Name x d) [a] [⟨aA e,v,b⟩] c=>aA ⟨x,d,a,e,v,b,c⟩
 |_=>aF
theorem ug(h:Ub e=aA q):e=.Call (.Name q.x q.p0) [q.a] [⟨aA q.ky,q.v,q.pk⟩] q.pc:=by
 unfold Ub at h;split at h
 ·cases h;rfl
 ·cases h
structure II where
 elt:aH
 tg:aH
 iter:aH
 ifs:List aH
 sc:Scope
 p:Pos
noncomputable def QZ:aH->Option II
 |.ListComp c [⟨d,a,b,0⟩] e p=>aA ⟨c,d,a,b,e,p⟩
 |_=>aF
theorem Zf{e:aH}{q:II}(h:QZ e=aA q):e=.ListComp q.elt [⟨q.tg,q.iter,q.ifs,0⟩] q.sc q.p:=by
 unfold QZ at h;split at h
 ·cases h;rfl
 ·cases h
noncomputable def V4:aH->Bool
 |.Constant .none _ _=>aC
 |_=>aD
theorem QN(h:V4 e=aC):∃j p,e=.Constant .none j p:=by
 unfold V4 at h;split at h
 ·exact⟨_,_,rfl⟩
 ·cases h
noncomputable def X2:aH->Bool
 |.Constant (.bool aC) _ _=>aC
 |_=>aD
theorem Yy(h:X2 e=aC):∃j p,e=.Constant (.bool aC) j p:=by
 unfold X2 at h;split at h
 ·exact⟨_,_,rfl⟩
 ·cases h
noncomputable def UY:aH->Option (aG×Pos)
 |.Name x p=>aA (x,p)
 |_=>aF
theorem Vc(h:UY e=aA q):e=.Name q.1 q.2:=by
 unfold UY at h;split at h
 ·cases h;rfl
 ·cases h
noncomputable def sq:aH->Option (aH×aH×Pos)
 |.Subscript a b p=>aA (a,b,p)
 |_=>aF
theorem XO(h:sq e=aA q):e=.Subscript q.1 q.2.1 q.2.2:=by
 unfold sq at h;split at h
 ·cases h;rfl
 ·cases h
noncomputable def ZV{α:Type}:List α->Option α
 |[a]=>aA a
 |_=>aF
theorem wx{α:Type}{l:List α}{a:α}(h:ZV l=aA a):l=[a]:=by
 match l with
 |[]=>cases h
 |[b]=>cases h;rfl
 |_::_::_=>cases h
noncomputable def AL{α:Type}:List α->Option (α×α)
 |[a,b]=>aA (a,b)
 |_=>aF
theorem Yi{α:Type}{l:List α}{q:α×α}(h:AL l=aA q):l=[q.1,q.2]:=by
 match l with
 |[]=>cases h
 |[_]=>cases h
 |[b,c]=>cases h;rfl
 |_::_::_::_=>cases h
theorem zu{a b:Bool}(h:(a&&b)=aC):a=aC/\b=aC:=by
 cases a with
 |true=>exact⟨rfl,h⟩
 |false=>cases h
theorem zW{x y:aG}(h:(x==y)=aC):x=y:=beq_iff_eq.mp h
noncomputable def F9:Const->Option De
 |.int i=>aA (eC (.int i))
 |.bool b=>aA (eC (.bl b))
 |.none=>aA (eC .non)
 |.str x=>aA (eC (.str x))
 |_=>aF
theorem PV{X:Cx}{D:DP}{W:XW}{c:Const}{j:Nat}{p:Pos}{d:De}(h:F9 c=aA d):PE X (.Constant c j p) (aX D W d):=by
 cases c with
 |int i=>cases h;exact Nw
 |bool i=>cases h;exact MI
 |none=>cases h;exact Pe
 |str i=>cases h;exact NX
 |_=>cases h
noncomputable def FN:GM->Option T
 |.cst t=>aA t
 |_=>aF
theorem RC{g:GM}{t:T}(h:FN g=aA t):g=.cst t:=by cases g<;>first|(cases h;rfl)|cases h
noncomputable def A2 (Γ:Cn)(x:aG):Option De:=match cF Γ.N x with
 |some i=>aA (eV i)
 |none=>(FN (Γ.look x)).bind λt=>aA (eC t)
theorem R_{D:DP}{X:Cx}{W:XW}{Γ:Cn}{k:Nat}(C:Ck D W Γ X k){x:aG}{p:Pos}{d:De}(h:A2 Γ x=aA d):PE X (.Name x p) (aX D W d):=by
 unfold A2 at h;cases q:cF Γ.N x with
 |some i=>rw[q] at h;cases h;exact Pc C q
 |none=>
  rw[q] at h;obtain⟨t,b,h⟩:=aS h;cases h;obtain⟨a,c⟩:=vZ (RC b) (by intro z;cases z);exact NL C a c
noncomputable def CJ (r:dH)(Γ:Cn):List eK->List aH->Option (List (eK×De))
 |[],[]=>aA []
 |op::a,e::es=>gd (kF op) ((r.e Γ e).bind λf=>(CJ r Γ a es).bind λb=>aA ((op,f)::b))
 |_,_=>aF
theorem UL{D:DP}{r:dH}{X:Cx}{W:XW}{Γ:Cn}{k:Nat}(H:bV D r)(C:Ck D W Γ X k):∀{ops:List eK} {es:List aH} {ps:List (eK×De)},CJ r Γ ops es=aA ps->Ul X D W es ps/\ps.map (·.1)=ops/\ps.all (λp=>kF p.1)=aC
 |[],[],ps,h=>by cases h;exact⟨trivial,rfl,rfl⟩
 |[],_::_,ps,h=>by cases h
 |_::_,[],ps,h=>by cases h
 |op::ops,e::es,ps,h=>by
  obtain⟨d,h⟩:=z7 h;obtain⟨f,i,h⟩:=aS h;obtain⟨j,g,h⟩:=aS h;cases h;obtain⟨c,b,a⟩:=UL H C g;exact⟨⟨H.e C i,c⟩,by simp[b],by simp[d,a]⟩
noncomputable def Bh (r:dH)(Γ:Cn)(a:aH)(ops:List eK)(es:List aH):Option De:=(r.e Γ a).bind λf=>(match ops,es with
 |[op],[b]=>gd (jd op b) ((r.e Γ b).bind λg=>aA (zy op f g))
 |_::_::_,_::_::_=>(CJ r Γ ops es).bind λc=>aA (nJ f c)
 |_,_=>aF)
theorem XU{D:DP}{r:dH}{X:Cx}{W:XW}{Γ:Cn}{k:Nat}(H:bV D r)(C:Ck D W Γ X k){a:aH}{ops:List eK}{es:List aH}{p:Pos}{d:De}(h:Bh r Γ a ops es=aA d):PE X (.Compare a ops es p) (aX D W d)/\PT X (.Compare a ops es p) (eP D W (tE d)):=by
 obtain⟨f,j,h⟩:=aS h;match ops,es with
 |[op],[b]=>
  obtain⟨o,h⟩:=z7 h
  obtain⟨g,i,h⟩:=aS h
  cases h
  exact⟨Nx C o (H.e C j) (H.e C i),Ka C o (H.e C j) (H.e C i)⟩
 |op::q::ops,e::t::es=>
  obtain⟨l,i,h⟩:=aS h
  cases h
  obtain⟨n,c,m⟩:=UL H C i
  match l with
  |[]=>cases c
  |[p1]=>simp at c
  |p1::s::l=>
   simp only[dW,D9] at c
   obtain⟨rfl,rfl,rfl⟩:=c
   exact⟨Tc C m (H.e C j) n,JN C m (H.e C j) n⟩
 |[],es=>cases h
 |[_],[]=>cases h
 |[_],_::_::_=>cases h
 |_::_::_,[]=>cases h
 |_::_::_,[_]=>cases h
noncomputable def Co (r:dH)(Γ:Cn):Option aH->Option Dp
 |none=>aA pN
 |some e=>(r.e Γ e).bind λf=>aA (pS f)
theorem UK{D:DP}{r:dH}{X:Cx}{W:XW}{Γ:Cn}{k:Nat}(H:bV D r)(C:Ck D W Γ X k){o:Option aH}{d:Dp}(h:Co r Γ o=aA d):PO X o (oX D W d):=by
 cases o with
 |none=>cases h;exact SD
 |some e=>
  obtain⟨f,a,h⟩:=aS h;cases h;exact Su (H.e C a)
noncomputable def BP (r:dH)(Γ:Cn)(a b:aH):Option De:=match b with
 |.Slice lo c aF _=>(r.e Γ a).bind λf=>(Co r Γ lo).bind λl=>(Co r Γ c).bind λu=>aA (o3 f l u)
 |b=>gd (qe b) ((r.e Γ a).bind λf=>(r.e Γ b).bind λg=>aA (bD f g))
theorem WC{D:DP}{r:dH}{X:Cx}{W:XW}{Γ:Cn}{k:Nat}(H:bV D r)(C:Ck D W Γ X k){a b:aH}{p:Pos}{d:De}(h:BP r Γ a b=aA d):PE X (.Subscript a b p) (aX D W d):=by
 unfold BP at h;split at h
 ·obtain⟨f,i,h⟩:=aS h;obtain⟨l,c,h⟩:=aS h;obtain⟨u,m,h⟩:=aS h;cases h;exact UT (H.e C i) (UK H C c) (UK H C m)
 ·obtain⟨j,h⟩:=z7 h;obtain⟨f,i,h⟩:=aS h;obtain⟨g,c,h⟩:=aS h;cases h;exact Mx j C.hK (H.e C i) (H.e C c)
noncomputable def unD (op:UnaryOp)(f:De):Option De:=match op with
 |.USub=>aA (AH f)
 |.Not=>aA (Av f)
 |_=>aF
noncomputable def MX(r:dH)(Γ:Cn)(op:BoolOp)(p:Pos):List aH->Option De
 |[a]=>r.e Γ a
 |a::b::l=>(r.e Γ a).bind λf=>(r.e Γ (.BoolOp op (b::l) p)).bind λg=>aA (match op with|.And=>yk f g|.Or=>Ix f g)
 |[]=>aF
noncomputable def G2:ER:=λr d e=>match e with
 |.Constant c _ _=>F9 c
 |.Name x _=>A2 d x
 |.BinOp a op b _=>(r.e d a).bind λf=>(r.e d b).bind λg=>aA (zd op f g)
 |.UnaryOp op a _=>(r.e d a).bind λf=>unD op f
 |.BoolOp op es p=>MX r d op p es
 |.Compare a h es _=>Bh r d a h es
 |.IfExp c a b _=>(r.t d c).bind λt=>(r.e d a).bind λf=>(r.e d b).bind λg=>aA (o5 t f g)
 |.Attribute a x _=>gd (ql a) ((r.e d a).bind λf=>(d.fld.lookup x).bind λn=>aA (ze f n))
 |.Subscript a b _=>BP r d a b
 |.List es _=>gd (decide (es.length<=aZ)) ((lZ r d es).bind λfs=>aA (Zs fs))
 |.Tuple es _ _=>gd (decide (es.length<=aZ)) ((lZ r d es).bind λfs=>aA (v5 fs))
 |_=>aF
theorem S4{D:DP}:cY D G2:=by
 intro r H X W v k e d C h;cases e with
 |Constant c j p=>exact PV h
 |Name x p=>exact R_ C h
 |BinOp a op b p=>
  obtain⟨f,i,h⟩:=aS h;obtain⟨g,m,h⟩:=aS h;cases h;exact NT (H.e C i) (H.e C m)
 |UnaryOp op a p=>
  obtain⟨f,i,h⟩:=aS h;cases op with
  |USub=>cases h;exact Oj (H.e C i)
  |Not=>cases h;exact NW (H.e C i)
  |_=>cases h
 |BoolOp op es p=>
  match es with
  |[]=>cases h
  |[a]=>exact Pw (H.e C h)
  |a::b::l=>
   obtain⟨f,i,h⟩:=aS h
   obtain⟨g,m,h⟩:=aS h
   cases h
   cases op with
   |And=>exact NV (H.e C i) (H.e C m)
   |Or=>exact Ni (H.e C i) (H.e C m)
 |Compare a q es p=>exact (XU H C h).1
 |IfExp c a b p=>
  obtain⟨t,u,h⟩:=aS h;obtain⟨f,i,h⟩:=aS h;obtain⟨g,m,h⟩:=aS h;cases h;exact Mq (H.t C u) (H.e C i) (H.e C m)
 |Attribute a x p=>
  obtain⟨s,h⟩:=z7 h;obtain⟨f,i,h⟩:=aS h;obtain⟨n,m,h⟩:=aS h;cases h;exact NQ C s (cA m) (H.e C i)
 |Subscript a b p=>exact WC H C h
 |List es p=>
  obtain⟨o,h⟩:=z7 h;obtain⟨fs,i,h⟩:=aS h;cases h;exact O_ (of_decide_eq_true o) (vX H C i)
 |Tuple es w p=>
  obtain⟨o,h⟩:=z7 h;obtain⟨fs,i,h⟩:=aS h;cases h;exact N6 (of_decide_eq_true o) (vX H C i)
 |_=>cases h
noncomputable def Fz (c:GM)(fs:List De):Option De:=match c with
 |.fn g=>aA (z9 g fs)
 |.mk c aC g=>aA (o4 c g fs)
 |_=>aF
noncomputable def FO:ER:=λr a e=>(xF e).bind λq=>gd ((cF a.N q.x).isNone&&a.calm) ((lZ r a q.as).bind λfs=>Fz (a.look q.x) fs)
theorem P_{D:DP}:cY D FO:=by
 intro r H X W m k e d C h;obtain⟨q,l,h⟩:=aS h;rw[qV l];obtain⟨i,h⟩:=z7 h;obtain⟨fs,j,h⟩:=aS h;unfold Fz at h;split at h
 ·rename_i g b;cases h;obtain⟨a,f⟩:=vZ b (by intro z;cases z);exact Re C a f (zu i).2 (vX H C j)
 ·rename_i c g b;cases h;obtain⟨a,f⟩:=vZ b (by intro z;cases z);exact R7 C a f (zu i).2 (vX H C j)
 ·cases h
noncomputable def lY (nm:aG)(op:T->aK->RE T)(cl:Bool):ER:=λr b e=>(xF e).bind λq=>(ZV q.as).bind λa=>gd (q.x==nm) (gd ((cF b.N q.x).isNone&&aO a) (gd (gY (b.look nm)) (gd (!cl || b.calm) ((r.e b a).bind λf=>aA (cS op f)))))
theorem ko{D:DP}{nm:aG}{op:T->aK->RE T}{cl:Bool}(n:∀{X:Cx} {W:XW} {Γ:Cn} {k:Nat} {a:aH} {f:De} {p0 pos:Pos},Ck D W Γ X k->nm∈Γ.G->Γ.gl nm=.none->(cl=aC->Γ.calm=aC)->aO a=aC->PE X a (aX D W f)->PE X (.Call (.Name nm p0) [a] [] pos) (aX D W (cS op f))):cY D (lY nm op cl):=by
 intro r H X W Γ k e d C h;obtain⟨q,m,h⟩:=aS h;obtain⟨a,j,h⟩:=aS h;obtain⟨g,h⟩:=z7 h;obtain⟨i,h⟩:=z7 h;obtain⟨b,h⟩:=z7 h;obtain⟨c,h⟩:=z7 h;obtain⟨f,l,h⟩:=aS h;cases h;rw[qV m,wx j,zW g];exact n C (zB b).1 (zB b).2 (λz=>by rw[z] at c;exact c) (zu i).2 (H.e C l)
noncomputable def Gn:ER:=lY "len" kN aD
theorem Rv:cY D Gn:=ko λC a c _ b d=>XS C a c boot_len (by decide) b MH d
noncomputable def Ga:ER:=lY "int" ss aD
theorem Sz:cY D Ga:=ko λC a c _ b d=>UZ C a c (by decide +kernel) (by decide) b Mw d
noncomputable def GH:ER:=lY "list" Jf aD
theorem S2:cY D GH:=ko λC a c _ b d=>UZ C a c (by decide +kernel) (by decide) b Ou d
noncomputable def FM:ER:=lY "all" VH aC
theorem R4:cY D FM:=ko λC a c d b e=>XS C a c boot_all (by decide) b (MT (C.clm (d rfl))) e
noncomputable def GB:ER:=λr a e=>(xF e).bind λq=>(AL q.as).bind λw=>gd (q.x==("isinstance":aG)) (gd ((cF a.N q.x).isNone&&aO w.1) (gd (gY (a.look "isinstance")) ((r.e a w.1).bind λf=>(ZL a w.2).bind λcs=>aA (yn cs f))))
theorem Rf{D:DP}:cY D GB:=by
 intro r H X W m k e d C h;obtain⟨q,l,h⟩:=aS h;obtain⟨w,g,h⟩:=aS h;obtain⟨b,h⟩:=z7 h;obtain⟨c,h⟩:=z7 h;obtain⟨a,h⟩:=z7 h;obtain⟨f,j,h⟩:=aS h;obtain⟨cs,i,h⟩:=aS h;cases h;rw[qV l,Yi g,zW b];exact OA C (zB a).1 (zB a).2 (zu c).2 i (H.e C j)
noncomputable def Cj (nm:aG)(cb:De->De->De):ER:=λr b e=>(yv e).bind λq=>(ZV q.as).bind λa=>gd (q.m==nm) (gd (ql q.o&&aO a) (gd (q.pa.endLine==q.pc.line) ((r.e b q.o).bind λf=>(r.e b a).bind λg=>aA (cb f g))))
theorem HW{D:DP}{nm:aG}{cb:De->De->De}(p:∀{X:Cx} {W:XW} {Γ:Cn} {k:Nat} {o a:aH} {f g:De} {pa pc:Pos},Ck D W Γ X k->ql o=aC->aO a=aC->(pa.endLine==pc.line)=aC->PE X o (aX D W f)->PE X a (aX D W g)->PE X (.Call (.Attribute o nm pa) [a] [] pc) (aX D W (cb f g))):cY D (Cj nm cb):=by
 intro r H X W Γ k e d C h;obtain⟨q,n,h⟩:=aS h;obtain⟨a,j,h⟩:=aS h;obtain⟨c,h⟩:=z7 h;obtain⟨b,h⟩:=z7 h;obtain⟨i,h⟩:=z7 h;obtain⟨f,m,h⟩:=aS h;obtain⟨g,l,h⟩:=aS h;cases h;rw[vC n,wx j,zW c];exact p C (zu b).1 (zu b).2 i (H.e C m) (H.e C l)
noncomputable def FV:ER:=Cj "append" Vg
theorem SG:cY D FV:=HW λC b a d c e=>N4 b a d c e
noncomputable def rR (r:dH)(Γ:Cn)(elt tg iter:aH)(ifs:List aH)(sc:Scope)(mk:Nat->List Nat->Tg->Di->List Dt->De->De):Option De:=
 gd (Γ.calm&&JV Γ.N Γ.cel tg sc&&vb iter&&JU tg iter) ((jv Γ.N (frees sc)).bind λfs=>(w_ (z5 tg++frees sc) tg).bind λa=>(r.i Γ iter).bind λfi=>(zj (r.t (inComp Γ tg sc)) ifs).bind λcs=>(r.e (inComp Γ tg sc) elt).bind λfe=>aA (mk (z5 tg).length fs a fi cs fe))
theorem Vl{r:dH}{Γ:Cn}{elt tg iter:aH}{ifs:List aH}{sc:Scope}{mk:Nat->List Nat->Tg->Di->List Dt->De->De}{d:De}(h:rR r Γ elt tg iter ifs sc mk=aA d) :
  ∃fs tgt fi cs fe,Γ.calm=aC/\cR Γ.N Γ.cel tg sc/\(vb iter=aC/\JU tg iter=aC)/\jv Γ.N (frees sc)=aA fs/\w_ (z5 tg++frees sc) tg=aA tgt/\r.i Γ iter=aA fi/\zj (r.t (inComp Γ tg sc)) ifs=aA cs/\r.e (inComp Γ tg sc) elt=aA fe/\d=mk (z5 tg).length fs tgt fi cs fe:=by
 obtain⟨a,h⟩:=z7 h;simp only[cI] at a;obtain⟨fs,j,h⟩:=aS h;obtain⟨tgt,g,h⟩:=aS h;obtain⟨fi,f,h⟩:=aS h;obtain⟨cs,c,h⟩:=aS h;obtain⟨fe,b,h⟩:=aS h;cases h;exact⟨fs,tgt,fi,cs,fe,a.1.1.1,Ua a.1.1.2,⟨a.1.2,a.2⟩,j,g,f,c,b,rfl⟩
noncomputable def GG:ER:=λr a e=>(QZ e).bind λq=>rR r a q.elt q.tg q.iter q.ifs q.sc qT
theorem ZB{D:DP}:cY D GG:=by
 intro r H X W u k e d C h;obtain⟨q,p,h⟩:=aS h;rw[Zf p];obtain⟨fs,c,fi,cs,fe,o,n,b,m,l,j,g,f,rfl⟩:=Vl h;exact XQ C o n m l (H.i C b.2 j) (λs t a=>H.e a f) (λs t a=>jJ H a g) (QR b.1)
noncomputable def Hi:TR:=λr b e=>match e with
 |.Name _ _=>(r.e b e).bind λf=>aA (tE f)
 |.Call _ _ _ _=>(r.e b e).bind λf=>aA (tE f)
 |.Subscript _ _ _=>(r.e b e).bind λf=>aA (tE f)
 |.Attribute _ _ _=>(r.e b e).bind λf=>aA (tE f)
 |.Compare a c es _=>(Bh r b a c es).bind λf=>aA (tE f)
 |.UnaryOp op a _=>(match op with
  |.Not=>(r.t b a).bind λf=>aA (qF f)
  |_=>aF)
 |.BoolOp _ _ _=>r.w b e
 |_=>aF
theorem UB{D:DP}:sI D Hi:=by
 intro r H X W j k e d C h;cases e with
 |Name x p=>
  obtain⟨f,c,h⟩:=aS h;cases h;exact Ye (H.e C c) λ_=>rfl
 |Call f args i p=>
  obtain⟨f,c,h⟩:=aS h;cases h;exact Ye (H.e C c) λ_=>rfl
 |Subscript a b p=>
  obtain⟨f,c,h⟩:=aS h;cases h;exact Ye (H.e C c) λ_=>rfl
 |Attribute a b p=>
  obtain⟨f,c,h⟩:=aS h;cases h;exact Ye (H.e C c) λ_=>rfl
 |Compare a g es p=>
  obtain⟨f,c,h⟩:=aS h;cases h;exact (XU H C c).2
 |UnaryOp op a p=>
  cases op with
  |Not=>
   obtain⟨f,c,h⟩:=aS h;cases h;exact ND (H.t C c)
  |_=>cases h
 |BoolOp op es p=>exact (H.w C h).pt
 |_=>cases h
noncomputable def Hm:TR:=λr c e=>match e with
 |.BoolOp op es p=>(match es with
  |[a]=>r.t c a
  |a::b::l=>(r.t c a).bind λf=>(r.w c (.BoolOp op (b::l) p)).bind λg=>aA (match op with|.And=>x_ f g|.Or=>gC f g)
  |[]=>aF)
 |_=>aF
theorem U0{D:DP}:Iy D Hm:=by
 intro r H X W j k e d C h;cases e with
 |BoolOp op es p=>
  match es with
  |[]=>cases h
  |[a]=>
   cases op with
   |And=>exact RX (H.t C h)
   |Or=>exact Of (H.t C h)
  |a::b::l=>
   obtain⟨f,i,h⟩:=aS h
   obtain⟨g,c,h⟩:=aS h
   cases h
   cases op with
   |And=>exact OY (H.t C i) (H.w C c)
   |Or=>exact ML (H.t C i) (H.w C c)
 |_=>cases h
noncomputable def FU (r:dH)(Γ:Cn):List aH->Option Di
 |[a]=>(r.e Γ a).bind λf=>aA (U4 f)
 |[a,b]=>(r.e Γ a).bind λf=>(r.e Γ b).bind λg=>aA (JP f g)
 |_=>aF
noncomputable def GS:IR:=λr a e=>(xF e).bind λq=>gd (q.x==("range":aG)) (gd ((cF a.N q.x).isNone&&q.as.all aO) (gd (gY (a.look "range")) (FU r a q.as)))
theorem TN{D:DP}:l7 D GS:=by
 intro r H X W n k o e d C p h;obtain⟨q,m,h⟩:=aS h;obtain⟨b,h⟩:=z7 h;obtain⟨a,h⟩:=z7 h;obtain⟨j,h⟩:=z7 h;rw[qV m,zW b];have a:=(zu a).2;obtain⟨b,i⟩:=zB j;generalize q.as=s at h a ⊢;unfold FU at h;split at h
 ·obtain⟨f,c,h⟩:=aS h;cases h;exact T6 C b i (zu a).1 (H.e C c)
 ·obtain⟨f,c,h⟩:=aS h;obtain⟨g,l,h⟩:=aS h;cases h;exact YZ C b i (zu a).1 (zu (zu a).2).1 (H.e C c) (H.e C l)
 ·cases h
noncomputable def Ih:IR:=λr a e=>(r.e a e).bind λf=>aA (iE f)
theorem OV{D:DP}:l7 D Ih:=by
 intro r H X W b k c e d C g h;obtain⟨f,a,h⟩:=aS h;cases h;exact P9 (H.e C a)
noncomputable def BX:aH->Option (List aH×Pos)
 |.List es p=>aA (es,p)
 |_=>aF
theorem RK{e:aH}{q:List aH×Pos}(h:BX e=aA q):e=.List q.1 q.2:=by
 unfold BX at h;split at h
 ·cases h;rfl
 ·cases h
noncomputable def GR:ER:=λr a e=>(BX e).bind λq=>gd (decide (q.1.length<=aZ)) ((lZ r a q.1).bind λfs=>aA (y7 fs))
theorem TZ{D:DP}:cY D GR:=by
 intro r H X W f k e d C h;obtain⟨q,c,h⟩:=aS h;rw[RK c];obtain⟨a,h⟩:=z7 h;obtain⟨fs,b,h⟩:=aS h;cases h;exact NF (of_decide_eq_true a) (vX H C b)
noncomputable def Hu:ER:=λr a e=>(QZ e).bind λq=>rR r a q.elt q.tg q.iter q.ifs q.sc kC
theorem Ud{D:DP}:cY D Hu:=by
 intro r H X W u k e d C h;obtain⟨q,p,h⟩:=aS h;rw[Zf p];obtain⟨fs,c,fi,cs,fe,o,n,b,m,l,j,g,f,rfl⟩:=Vl h;exact Vt C o n m l (H.i C b.2 j) (λs t a=>H.e a f) (λs t a=>jJ H a g) (QR b.1)
noncomputable def UD (r:dH)(Γ:Cn)(x:aG)(e:aH):Option De:=match Γ.own.contains x with
 |true=>r.o Γ e
 |false=>r.e Γ e
theorem Vm{W:XW}(H:bV D r)(C:Ck D W Γ X k)(h:UD r Γ x e=aA d):PE X e (aX D W d):=by
 unfold UD at h;cases q:Γ.own.contains x with
 |true=>rw[q] at h;exact H.o C h
 |false=>rw[q] at h;exact H.e C h
noncomputable def fH:aH->Bool
 |.Call _ _ _ _=>aC
 |.Constant _ _ _=>aC
 |_=>aD
theorem YD(h:fH e=aC):(∃f as ks p,e=.Call f as ks p)\/∃c j p,e=.Constant c j p:=by
 unfold fH at h;split at h
 ·exact .inl ⟨_,_,_,_,rfl⟩
 ·exact .inr ⟨_,_,_,rfl⟩
 ·cases h
theorem S7(h:fH e=aC):iP e aF l env=pure aD:=by
 rcases YD h with⟨_,_,_,_,rfl⟩|⟨_,_,_,rfl⟩<;>rfl
noncomputable def Hq:aH->Bool
 |.ListComp _ _ _ _=>aC
 |.SetComp _ _ _ _=>aC
 |.DictComp _ _ _ _ _=>aC
 |_=>aD
theorem Tl(h:Hq e=aD):iP e (aA (.Name x p)) l env=pure aD:=by
 cases e<;>first|rfl|cases h
noncomputable def G5(b:Bool):Nat->List Nat->Tg->Di->List Dt->De->De:=match b with
 |true=>kC
 |false=>qT
noncomputable def AE (r:dH)(Γ:Cn)(x:aG)(e:aH):Option De:=match QZ e with
 |some q=>rR r Γ q.elt q.tg q.iter q.ifs q.sc (G5 (Γ.own.contains x))
 |none=>gd (!Hq e) (UD r Γ x e)
theorem R0(H:bV D r){W:XW}(C:Sk D W Γ X k)(hi:cF Γ.N x=aA i)(d:lg Γ (.Name x p)=aC)(h:AE r Γ x e=aA f):PS X (.Assign [.Name x p] e pos) (dS D W (zp i f)):=by
 unfold AE at h;cases q:QZ e with
 |none=>
  rw[q] at h;obtain⟨B,h⟩:=z7 h;exact HS C hi d (Tl (by simpa using B)) (Vm H C.toCk h)
 |some w=>
  rw[q] at h;rw[Zf q];obtain⟨fs,a,fi,cs,fe,v,u,m,t,s,z,o,n,rfl⟩:=Vl h;have c:=H.i C.toCk m.2 z;have A:G5 (Γ.own.contains x) (z5 w.tg).length fs a fi cs fe=(match Γ.own.contains x with|true=>kC (z5 w.tg).length fs a fi cs fe|false=>qT (z5 w.tg).length fs a fi cs fe):=by cases Γ.own.contains x<;>rfl
  rw[A];have y:∀bb,iP (.ListComp w.elt [⟨w.tg,w.iter,w.ifs,0⟩] w.sc w.p) (aA (.Name x p)) pos.line X.env=pure bb->PS X (.Assign [.Name x p] (.ListComp w.elt [⟨w.tg,w.iter,w.ifs,0⟩] w.sc w.p) pos) (dS D W (zp i (match Γ.own.contains x with|true=>kC (z5 w.tg).length fs a fi cs fe|false=>qT (z5 w.tg).length fs a fi cs fe))):=λbb g=>by
   cases bb with
   |true=>exact Rj C v hi d u t s c (λj l b=>H.e b n) (λj l b=>jJ H b o) (QR m.1) _ g
   |false=>
    refine HS C hi d g ?_;cases Γ.own.contains x with
    |true=>exact Vt C.toCk v u t s c (λj l b=>H.e b n) (λj l b=>jJ H b o) (QR m.1)
    |false=>exact XQ C.toCk v u t s c (λj l b=>H.e b n) (λj l b=>jJ H b o) (QR m.1)
  exact y _ rfl
noncomputable def FH (r:dH)(Γ:Cn)(t e:aH):Option Ds:=gd (lg Γ t) (match t with
 |.Name x _=>(cF Γ.N x).bind λi=>(AE r Γ x e).bind λf=>aA (zp i f)
 |.Tuple es _ _=>gd (Γ.calm&&xf e) ((c_ Γ.N es).bind λa=>(r.e Γ e).bind λf=>aA (Bc a f))
 |.Attribute o x _=>(Γ.fld.lookup x).bind λn=>(UD r Γ x e).bind λf=>(r.e Γ o).bind λgo=>aA (zK go n f)
 |.Subscript o b _=>gd (qe b) ((r.e Γ e).bind λf=>(r.e Γ o).bind λgo=>(r.e Γ b).bind λgb=>aA (FD go gb f))
 |_=>aF)
theorem RH(H:bV D r){W:XW}(C:Sk D W Γ X k)(h:FH r Γ t e=aA d):PS X (.Assign [t] e pos) (dS D W d):=by
 obtain⟨b,h⟩:=z7 h;split at h
 ·obtain⟨i,l,h⟩:=aS h;obtain⟨f,a,h⟩:=aS h;cases h;exact R0 H C l b a
 ·obtain⟨g,h⟩:=z7 h;obtain⟨m,a,h⟩:=aS h;obtain⟨f,c,h⟩:=aS h;cases h;exact Pr C (zu g).1 (zu g).2 a b (H.e C.toCk c)
 ·obtain⟨n,a,h⟩:=aS h;obtain⟨f,c,h⟩:=aS h;obtain⟨go,j,h⟩:=aS h;cases h;exact OB C (cA a) (Vm H C.toCk c) (H.e C.toCk j)
 ·obtain⟨g,h⟩:=z7 h;obtain⟨f,a,h⟩:=aS h;obtain⟨go,c,h⟩:=aS h;obtain⟨gb,j,h⟩:=aS h;cases h;exact OC C g (H.e C.toCk a) (H.e C.toCk c) (H.e C.toCk j)
 ·cases h
noncomputable def rV:bE->Option aH
 |.Raise (aA e) aF _=>aA e
 |_=>aF
theorem Yg(h:rV s=aA e):∃p,s=.Raise (aA e) aF p:=by
 unfold rV at h;split at h
 ·cases h;exact⟨_,rfl⟩
 ·cases h
noncomputable def FL:GM->Option Nat
 |.xcl c=>aA c
 |_=>aF
theorem Ph(h:FL g=aA c):g=.xcl c:=by cases g<;>first|(cases h;rfl)|cases h
noncomputable def GU:SR:=λr b s=>(rV s).bind λe=>(xF e).bind λq=>gd (b.calm&&(cF b.N q.x).isNone) (match q.as with
 |[]=>aF
 |a::d=>(lZ r b (a::d)).bind λfs=>(FL (b.look q.x)).bind λc=>aA (zM c fs))
theorem SK:o7 D GU:=by
 intro r H X W p k e d C h;obtain⟨t,o,h⟩:=aS h;obtain⟨q,m,h⟩:=aS h;obtain⟨s,j⟩:=Yg o;rw[j,qV m];obtain⟨l,h⟩:=z7 h;generalize q.as=b at h ⊢;cases b with
 |nil=>cases h
 |cons a b=>
  obtain⟨fs,n,h⟩:=aS h;obtain⟨c,g,h⟩:=aS h;cases h;obtain⟨f,i⟩:=vZ (Ph g) (by intro z;cases z);exact S9 C (zu l).1 f i (vX H C.toCk n)
noncomputable def nB:aH->Option aG
 |.Name x _=>aA x
 |_=>aF
theorem NC(h:nB e=aA x):∃p,e=.Name x p:=by
 unfold nB at h;split at h
 ·cases h;exact⟨_,rfl⟩
 ·cases h
noncomputable def Gk (Γ:Cn)(x:aG):Option Nat:=gd ((cF Γ.N x).isNone&&Γ.G.contains x&&(match Γ.gl x with|.xcl c=>Γ.cls.lookup x==aA c&&Nat.blt c 40|.xcf c _=>Γ.cls.lookup x==aA c&&Nat.blt c 40|_=>aD)) (Γ.cls.lookup x)
theorem PC(h:Gk Γ x=aA c):iJ Γ x c:=by
 obtain⟨d,g⟩:=z7 h;simp only[cI] at d;refine⟨by simpa using d.1.2,cA g,?_⟩;have a:=d.2;rw[g] at a;cases b:Γ.gl x with
 |xcl e=>
  simp only[b,cI] at a;have:c=e:=bT (beq_iff_eq.mp a.1);rw[this];exact⟨.inr rfl,Nat.blt_eq.mp a.2⟩
 |xcf e f=>
  simp only[b,cI] at a;have:c=e:=bT (beq_iff_eq.mp a.1);rw[this];exact⟨.inl ⟨f,rfl⟩,Nat.blt_eq.mp a.2⟩
 |_=>rw[b] at a;cases a
noncomputable def Im (Γ:Cn)(t:aH):Option (List Nat):=(nB t).bind λx=>(Gk Γ x).bind λc=>aA [c]
theorem Pf(h:Im Γ t=aA cs):BS Γ t cs:=by
 obtain⟨x,q,h⟩:=aS h;obtain⟨c,a,h⟩:=aS h;cases h;obtain⟨p,rfl⟩:=NC q;exact⟨x,p,c,rfl,rfl,PC a⟩
noncomputable def sF (r:dH)(Γ:Cn):pP->Option (List Nat×Option Nat×List Ds)
 |.ExceptHandler t nm a _=>t.bind λt=>gd (!a.isEmpty&&nm.isNone) ((Im Γ t).bind λcs=>(zj (r.s {Γ with calm:=aD}) a).bind λb=>aA (cs,aF,b))
theorem H0(H:bV D r):∀{hs:List pP} {b:List (List Nat×Option Nat×List Ds)},zj (sF r Γ) hs=aA b->ZP D Γ k hs b
 |[],b,h=>by cases h;trivial
 |.ExceptHandler t nm a p::hs,b,h=>by
  obtain⟨g,v,n⟩:=aS h;obtain⟨w,u,m⟩:=aS n;cases m;have o:=H0 (k:=k) H u;obtain⟨z,c,l⟩:=aS v;subst c;obtain⟨d,j⟩:=z7 l;obtain⟨cs,s,i⟩:=aS j;obtain⟨y,q,f⟩:=aS i;cases f;cases a with
  |nil=>cases d
  |cons A a=>
   cases nm with
   |none=>exact⟨⟨_,_,_,_,_,_,rfl,rfl,Pf s,λB x=>wb H x q⟩,o⟩
   |some e=>cases d
noncomputable def HV:SR:=λr d s=>match s with
 |.Return o _=>(match o with
  |some e=>(UD r d "return" e).bind λf=>aA (zv f)
  |none=>aA BZ)
 |.Expr e _=>gd (fH e) ((r.e d e).bind λf=>aA (zF f))
 |.If c a b _=>(r.t d c).bind λt=>(zj (r.s d) a).bind λj=>(zj (r.s d) b).bind λh=>aA (bW t j h)
 |.Assign n e _=>(ZV n).bind λt=>FH r d t e
 |.For l it b g _=>gd (d.calm&&vb it) (gd (g.isEmpty&&JU l it) (gd (lg d l) ((w_ d.N l).bind λk=>(r.i d it).bind λfi=>(zj (r.s d) b).bind λh=>aA (jA k fi h))))
 |.While c b g _=>gd g.isEmpty ((r.t d c).bind λt=>(zj (r.s d) b).bind λh=>aA (Wv t h))
 |.Try b m g fin _=>gd (d.calm&&g.isEmpty) (gd (fin.isEmpty&&!m.isEmpty) ((zj (r.s d) b).bind λj=>(zj (sF r d) m).bind λp=>aA (AG j p)))
 |_=>aF
theorem YU:o7 D HV:=by
 intro r H X W A k e d C h;cases e with
 |Return o p=>
  cases o with
  |none=>cases h;exact Py
  |some e=>
   obtain⟨f,g,h⟩:=aS h;cases h;exact OS (Vm H C.toCk g)
 |Expr e p=>
  obtain⟨n,h⟩:=z7 h;obtain⟨f,g,h⟩:=aS h;cases h;exact RO (S7 n) (H.e C.toCk g)
 |If c a b p=>
  obtain⟨t,g,h⟩:=aS h;obtain⟨v,l,h⟩:=aS h;obtain⟨s,j,h⟩:=aS h;cases h;exact ME (H.t C.toCk g) (wb H C l) (wb H C j)
 |Assign B e p=>
  obtain⟨t,g,h⟩:=aS h;rw[wx g];exact RH H C h
 |For E it b m p=>
  obtain⟨g,h⟩:=z7 h;obtain⟨l,h⟩:=z7 h;obtain⟨j,h⟩:=z7 h;obtain⟨w,q,h⟩:=aS h;obtain⟨fi,y,h⟩:=aS h;obtain⟨s,x,h⟩:=aS h;cases h;rw[oB.mp (zu l).1];exact O2 C (zu g).1 q j (H.i C.toCk (zu l).2 y) (wb H C x) (QR (zu g).2)
 |While c b m p=>
  obtain⟨n,h⟩:=z7 h;obtain⟨t,g,h⟩:=aS h;obtain⟨s,j,h⟩:=aS h;cases h;rw[oB.mp n];exact T1 C (H.t C.toCk g) (wb H C j)
 |Try b u m fin p=>
  obtain⟨g,h⟩:=z7 h;obtain⟨l,h⟩:=z7 h;obtain⟨v,j,h⟩:=aS h;obtain⟨G,q,h⟩:=aS h;cases h;rw[oB.mp (zu g).2,oB.mp (zu l).1];cases u with
  |nil=>cases (zu l).2
  |cons F u=>exact OI C (zu g).1 (λI J z=>wb H z j) (H0 H q)
 |_=>cases h
structure f7(D:DP)(P:Program)(w:World)(K:PySem.W.Frag)(mg:aG->Option aB)(base:aR)(Γ:Cn)(k:Nat):Prop where
 hK:K=D.K
 glo:∀x∈Γ.U,cB D P w K mg base k x (Γ.gl x)/\(x==("__debug__":aG))=aD
 isi:∀t x c,(x,c)∈Γ.cls->∀u v,VR D t u->ZZ mg x v->p_ K u v=aA (vx t c)
 fld:∀c C x f,D.cad c=aA C->(x,f)∈Γ.fld->D.fn f=aA x/\gM K C/\cH K C x
 xcx:∀c C,D.adr c=aA C->iH K C
 ocx:∀c C,D.cad c=aA C->mJ K C
 clv:∀x c,(x,c)∈Γ.cls->∃u v,ZZ mg x u/\gL v u
 xmt:∀t x c,(x,c)∈Γ.cls->c<40->∀Ct Cc,D.adr t=aA Ct->mg x=aA (.ref Cc)->n5 K (.ref Ct) (.ref Cc)=aA (vx t c)
noncomputable def xE(Γ:Cn)(ps:List aG)(sc:Scope):Bool:=
 (sc.kind==.function)&&!sc.isCoroutine&&!sc.isGenerator&&decide (Γ.N.Nodup)&&(Γ.N.take ps.length==ps)&&sc.names.all (λy=>y.2 != .free)&&
 Γ.N.all (λx=>x != ("__debug__":aG)&&x != ("__classdict__":aG)&&(if Γ.cel.contains x then sc.names.lookup x==aA .cell else sc.names.lookup x==aA .local))&&
 Γ.G.all (λx=>Γ.U.contains x&&sc.names.lookup x==aA .globalImplicit)&&Γ.cel.all (λx=>Γ.N.contains x)&&Γ.calm
theorem jO{W:XW}(p:XP X W e s):X.A.frames=aA X.stack:=by
 obtain⟨_,_,_,_,_,_,_,_,I,_⟩:=p;exact I.ok.frames
theorem XF:∀(ts:List T) (n:Nat),sk ts n=ts.map aA++lR n aF
 |[],n=>by
  have:∀n,Cq n=lR n aF:=λn=>by
   induction n with
   |zero=>rfl
   |succ n a=>show aF::Cq n=_;rw[a];rfl
  exact this n
 |t::r,n=>by show aA t::sk r n=_;rw[XF r n];rfl
section
variable {D:DP}{P:Program}{w:World}{K:PySem.W.Frag}{mg:aG->Option aB}{base:aR}{Γ:Cn}{k n:Nat}
theorem Km(d:aN D φ α H ts vs):bA D φ α H (sk ts (N.length-ts.length)) (L2.start N vs):=by
 have b:=d.length;rw[XF];refine⟨by simp[L2.start,b],λi t e=>?_⟩;by_cases a:i<ts.length
 ·rw[eN (by simpa using a),c8] at e;cases q:ts[i]? with
  |none=>rw[q] at e;cases e
  |some c=>
   rw[q] at e;have e:aA (aA c)=aA (aA t):=e;cases e;obtain⟨v,f,dv⟩:=d.get q;refine⟨v,?_,dv⟩;unfold L2.start;rw[eN (by rw[bG,←b];exact a),c8,f];rfl
 ·rw[fT (by simpa using a),rH] at e;split at e<;>cases e
noncomputable def gn (X:Cx)(f:aG->Bool):Cx:={X with fn:=f}
theorem NY(a:∀x,f x=aC->g x=aC)(ok:(gn X g).Ok):(gn X f).Ok:=⟨ok.mod,ok.kind,ok.glob,ok.blt,ok.above,ok.inj,ok.has,λx c e=>ok.cab x c (a x e),ok.hd,ok.frames,ok.stk,ok.exf,ok.bs,ok.bsz,ok.noex,ok.exfs,ok.funs,ok.frf⟩
theorem uk{X:Cx}{f g:aG->Bool}{a:List (aE×bB)}{b:St}{H:Hp}{s:aU}(d:∀x,f x=aC->g x=aC)(I:Inv (gn X g) a b H s):Inv (gn X f) a b H s:=
 ⟨NY d I.ok,I.os,I.bare,I.base,I.loc,I.cell,I.free,λx c e=>(I.freeC x c e).imp id λz=>⟨D2.mpr λq=>Bool.noConfusion ((d x q).symm.trans (show g x=aD from z.1)),z.2⟩,I.pin,I.hok,I.len⟩
theorem M9{W:XW}(l:∀x,f x=aC->g x=aC)(p:XP (gn X g) W e s):XP (gn X f) W e s:=by
 obtain⟨x,cls,d,h,H,T,fl,a,I,b,c,r,j,i⟩:=p;exact⟨x,cls,d,h,H,T,fl,a,uk l I,⟨b.free,b.loc,b.nfs,b.new,b.cel,b.pin⟩,λt k=>let b:=c t k;⟨b.free,b.loc,b.nfs,b.new,b.cel,b.pin⟩,r,j,i⟩
theorem KN(e:∀x,f x=aC->g x=aC)(h:SP (gn X g) d E fl s):SP (gn X f) d E fl s:=by
 cases fl with
 |ret v=>obtain⟨v,a,c,b,r⟩:=h;exact⟨v,a,c,uk e b,r⟩
 |_=>obtain⟨a,c,b,r⟩:=h;exact⟨a,c,uk e b,r⟩
theorem XN{D:DP}{W:XW}{X:Cx}{f:aG->Bool}{y:List bE}{c:List Ds}(h2:Z_ (gn X f) D W y c):∀{b1:List bE} {ds1:List Ds},Z_ (gn X λ_=>aC) D W b1 ds1->
  ∀(a:List (aE×bB)) (s:aU) (d:St) (H:Hp) (E:Ends),Inv (gn X λ_=>aC) a d H s->dS D W (qh (ds1++c)) E d H->wpAny (aQ X.prog X.w) X.A (execs (b1++y) X.env) (SP (gn X f) a E) X.xe s
 |[],[],_,a,s,d,H,E,I,q=>wu h2 a s d H E (uk (λ_ _=>rfl) I) q
 |st::r,u::G,h,a,s,d,H,E,I,q=>by
  obtain⟨n,F,B,C,J,M,Q,q,N,x,t,p,o⟩:=q;refine wpAny_execs_cons (a7 (h.1 a s d H {E with nx:=λb g=>dS D W (qh (G++c)) E b g} I ⟨n,F,B,C,J,M,_,q,λi j e k g b st m l=>?_,x,t,p,o⟩) λfl K z=>?_)
  ·exact⟨n,k,i,j,l,m,aL.step ⟨Q,e,N,x,t,p,o⟩ st⟩
  ·cases fl with
   |next=>
    obtain⟨b,g,O,L⟩:=z;exact XN h2 h.2 a K b g E O L
   |ret v=>exact KN (fl:=.ret v) (E:=E) (λ_ _=>rfl) z
   |brk=>exact KN (fl:=.brk) (E:=E) (λ_ _=>rfl) z
   |cont=>exact KN (fl:=.cont) (E:=E) (λ_ _=>rfl) z
 |[],_::_,h,_,_,_,_,_,_,_=>h.elim
 |_::_,[],h,_,_,_,_,_,_,_=>h.elim
theorem VN{R:cU}(HR:cG D R){f:aE}{name qual:aG}{params:Arguments}{body b1 b2:List bE}{scope:Scope}{dV kV doc pm g ct oc:aB}{an od:Option aE}{osl:Array (Option aB)}{ps:List aG}{m:Nat}{ds1 L:List Ds}
    (M:f7 D P w K mg base Γ k) (lk:K.lookup f=aA ⟨oc,od,.func (fA name qual params body scope dV kV doc pm an g ct),osl⟩) (hcd:fD K g qual=aC) (hs:xE Γ ps scope=aC) (hm:Γ.N.length=ps.length+m) (hbo:body=b1++b2) (hd1:zj ((aT R n).s {Γ with fz:=[]}) b1=aA ds1) (hds:zj ((aT R n).s Γ) b2=aA L) (O:dC D mg base g (qual++".<locals>.") k Γ.lam Γ.lnm:=by exact dC.no rfl) :
    bQ P w K mg base (dD P w) (k+1) f (fA name qual params body scope dV kV doc pm an g ct) ps (eW D ps.length (bM ps.length m (ds1++L))):=by
  subst hbo;simp only[xE,cI,fQ,beq_iff_eq,ng,decide_eq_true_eq,bne_iff_ne,ne_eq] at hs;obtain⟨⟨⟨⟨⟨⟨⟨⟨⟨h1,h2⟩,h3⟩,h4⟩,h5⟩,h6⟩,h7⟩,h8⟩,h9⟩,h10⟩:=hs;have G:∀x∈Γ.N,(Γ.cel.contains x=aC/\scope.names.lookup x=aA .cell)\/(Γ.cel.contains x=aD/\scope.names.lookup x=aA .local):=λx a=>by
    have q:=(h7 x a).2;cases V:Γ.cel.contains x with
    |true=>rw[V,if_pos rfl] at q;exact .inl ⟨rfl,beq_iff_eq.mp q⟩
    |false=>rw[V] at q;exact .inr ⟨rfl,beq_iff_eq.mp q⟩
  have C:∀x∈Γ.N,scope.names.lookup x=aA .local\/scope.names.lookup x=aA .cell:=λx a=>(G x a).elim (λz=>.inr z.2) λz=>.inl z.2;have S:cQ Γ.N ps scope:=⟨h1,h2,h3,h4,h5,λx a=>C x (by rw[←h5] at a;exact rK a),h6⟩;refine G9 (fnb:=λx=>!Γ.fz.contains x) lk hcd S (λvs H Q E q=>q.1) λA j s H vs Q E hr hsp o=>?_;obtain⟨hl,φ,α,ts,μ,d,mr,K0,Z0,⟨hle,q⟩,T,hz0⟩:=hsp;generalize I:JB (dD P w) P w K mg base Γ.N qual scope f g A j s H E (λx=>!Γ.fz.contains x)=X;have F:lp X (f8 qual scope s.heap.objs.size f g) j s.heap.objs.size:=by rw[←I];exact⟨rfl,rfl,rfl⟩
  have U:X.fn=λx=>!Γ.fz.contains x:=by rw[←I];rfl
  have CK:∀(l:List aG),(∀x∈l,x∈Γ.fz)->Sk D (fB E) {Γ with fz:=l} (gn (X.wish (XP X (fB E))) λx=>!l.contains x || !Γ.fz.contains x) k:=λl hl'=>by
    have xe:∀e s,XP (gn (X.wish (XP X (fB E))) λx=>!l.contains x || !Γ.fz.contains x) (fB E) e s->XP X (fB E) e s:=λe s p=>by
      have p2:XP (gn (X.wish (XP X (fB E))) λx=>!Γ.fz.contains x) (fB E) e s:=M9 (λx a=>by rw[a,tx]) p;exact jM (show XP (X.wish (XP X (fB E))) (fB E) e s by rw[←U] at p2;exact p2)
    have pso:nV (aQ X.prog X.w) X.A X.env (XP X (fB E)):=λe s p=>yh F (jO p) e s p;subst I
    exact { hK := M.hK,hN := rfl,nd := h4,vis := fun x a => (C x a).elim .inl fun z => .inr (.inl z),dbg := fun x a => ⟨beq_eq_false_iff_ne.mpr (h7 x a).1.1,beq_eq_false_iff_ne.mpr (h7 x a).1.2⟩,
            dbG:=λx a=>(M.glo x (by simpa using (h8 x a).1)).2,glb:=λx a=>(h8 x a).2,glo:=λx a=>(M.glo x (by simpa using (h8 x a).1)).1,glU:=M.glo,
            cel:=λx a=>.inl ((G x (by simpa using h9 x a)).elim (λz=>z.2) λz=>by have:=z.1;rw[iA.mpr a] at this;cases this),
            isi:=M.isi,fld:=M.fld,xcx:=M.xcx,ocx:=M.ocx,clv:=M.clv,clm:=λ_=>rfl,rom:=λ_=>hr,rmh:=⟨hr.dp,hr.un⟩,xe:=xe,frm:=⟨_,_,_,F.stk,F.f0,F.fe⟩,lam:=O,kfz:=λ_ x a=>⟨by show (!l.contains x || !Γ.fz.contains x)=aD;rw[iA.mpr a,iA.mpr (hl' x a)];rfl,λc e=>(o x c e).1⟩,
            sto:=λx a=>by
              obtain⟨z1,z2⟩:=gN.mp a;exact⟨C x z1,.inl (by show (!l.contains x || _)=aC;rw[show (!l.contains x)=aC from z2];rfl)⟩,lcl:=λx a V=>(G x a).elim (λz=>by rw[z.1] at V;cases V) λz=>z.2,pso:=pso,xmt:=M.xmt}
  have B:gG X (b1++b2) (λE1 r Y=>(∀y c,X.env.cells.lookup y=aA c->X.s₀.heap.objs.size<=c/\Y c=aF)/\dS D (fB E) (qh (ds1++L)) E1 r Y):=λu s1 r Y E1 I1 ⟨hf,q⟩=>by
    have I2:Inv (gn (X.wish (XP X (fB E))) λ_=>aC) u r Y s1:=by
      have J:=I1.wish (XP X (fB E));subst I;exact⟨⟨J.ok.mod,J.ok.kind,J.ok.glob,J.ok.blt,J.ok.above,J.ok.inj,J.ok.has,λx c _ e=>(hf x c e).1,J.ok.hd,J.ok.frames,J.ok.stk,J.ok.exf,J.ok.bs,J.ok.bsz,J.ok.noex,J.ok.exfs,J.ok.funs,J.ok.frf⟩,J.os,J.bare,J.base,J.loc,J.cell,J.free,λx c e=>.inl (hf x c e).2,J.pin,J.hok,J.len⟩
    have C1:=wb (we HR n) (CK [] (by simp)) hd1;have C2:=wb (we HR n) (CK Γ.fz λ_ h=>h) hds;have e1:(λx=>!([]:List aG).contains x || !Γ.fz.contains x)=λ_=>aC:=by funext x;rfl
    have e2:(λx=>!Γ.fz.contains x || !Γ.fz.contains x)=X.fn:=by rw[U];funext x;exact Bool.or_self _
    rw[e1] at C1;rw[e2] at C2;refine dR (XN (X:=X.wish (XP X (fB E))) C2 C1 u s1 r Y E1 I2 q) (λf s' q=>SP.unwish q) λe s' p=>?_;have p:XP X (fB E) e s':=p;have:=JA (M:=aQ X.prog X.w) (F2:=λe' s''=>dD X.prog X.w X.outer X.H₀ X.s₀ E e' s'') F (jO p) (by rw[←I];rfl) p;subst I;exact this
  have hmm:Γ.N.length-ts.length=m:=by lia
  refine⟨_,B,by rw[←I];exact o,φ,α,_,μ,Km d,mr,{nx:=λ_ b=>K0 .non b,rt:=K0,bk:=λ_ _=>False,ct:=λ_ _=>False,ex:=λc fs _ b=>Z0 c fs b},by rw[hmm];exact q,λ_ b z i Z σ' st m _=>T _ _ z i Z st m .non rfl,λ_ _ z=>z.elim,λ_ _ z=>z.elim,λt b z i Z v st m dv=>T _ _ z i Z st m v dv,λc fs _ b z i Z σ' C1 dd st m _ ad xd=>hz0 c fs b z i Z C1 dd st m ad xd⟩
theorem xq{R:cU}(l:cG D R){f:aE}{name qual:aG}{params:Arguments}{body:List bE}{scope:Scope}{h kV doc g a ct i:aB}{an od:Option aE}{c:Array (Option aB)}{ps:List aG}{m:Nat}{ds:List Ds}
  (M:f7 D P w K mg base Γ k) (lk:K.lookup f=aA ⟨i,od,.func (fA name qual params body scope h kV doc g an a ct),c⟩) (e:fD K a qual=aC) (hs:xE Γ ps scope=aC) (j:Γ.N.length=ps.length+m) (d:zj ((aT R n).s Γ) body=aA ds) (b:dC D mg base a (qual++".<locals>.") k Γ.lam Γ.lnm:=by exact dC.no rfl) :
  bQ P w K mg base (dD P w) (k+1) f (fA name qual params body scope h kV doc g an a ct) ps (eW D ps.length (bM ps.length m ds)):=VN (b1:=[]) (ds1:=[]) l M lk e hs j rfl rfl d b
theorem wz:∀ts μ K Z,bM n m ds ts μ K Z->ts.length=n:=λ_ _ _ _ h=>h.1
end
noncomputable def K1:bK->Bool
 |[]=>aC
 |p::r=>(match p.2.cls with|.type t=>t != "list" | _=>aC)&&K1 r
theorem Xy:∀{K:bK} {a:aE} {o:bB},K1 K=aC->K.lookup a=aA o->o.cls≠.type "list"
 |[],_,_,_,h=>by cases h
 |(b,p)::r,a,o,c,h=>by
  simp only[K1,cI] at c;rw[gm] at h;cases q:a==b with
  |true=>
   rw[q] at h;cases h;intro e;have d:=c.1;rw[e] at d;exact absurd d (by decide)
  |false=>rw[q] at h;exact Xy c.2 h
theorem W9:∀(ns:List Int),aN D φ α H (ns.map T.int) (ns.map V.int)
 |[]=>rfl
 |n::r=>⟨.int n,r.map V.int,rfl,rfl,W9 r⟩
noncomputable def lq:List aG:=["moments","houses","counts","start","turns","holder","lease","until","is_cut","shape","grants","house","begin","end","ahead","stride","keeper","mark","newest","batches","has_fallen","clock","kept","common","given","now","seats","world","line","by"]
theorem OH:lq.Nodup:=by decide +kernel
structure im where
 xs:List (Nat×aE)
 cs:List (Nat×aE)
noncomputable def mE (K:bK)(A:im)(clo:Nat->aE->Option HO->List V->Prop)(tabs:Nat->Option (aE×List Pos×aG):=λ_=>aF):DP:=⟨K,λc=>A.xs.lookup c,λc=>A.cs.lookup c,λi=>lq[i]?,λi j x b a=>vI OH b a,clo,tabs⟩
noncomputable def cn (cls fld:List (aG×Nat)) (a:List (aG×GM)) (N G cel own:List aG) (lam:Option (Nat×List Pos):=aF) (lnm:aG:="<lambda>"):Cn where
 N:=N
 G:=G
 calm:=aC
 gl:=λx=>(a.lookup x).getD .bad
 cls:=cls
 fld:=fld
 U:=a.map (·.1)
 cel:=cel
 own:=own
 lam:=lam
 lnm:=lnm
noncomputable def Cg(A:im):List (Nat×aB):=[(0,.type "NoneType"),(1,.type "bool"),(2,.type "int"),(3,.type "str"),(4,.type "tuple"),(5,.type "list"),(6,.type "dict")]++(A.xs.map λp=>(p.1,cO p.2))++A.cs.map λp=>(p.1,cO p.2)
noncomputable def UP(K:bK)(c:aG):Option aB:=match mU K bR c with
 |some (aA v)=>aA v
 |some aF=>if c==("__name__":aG) then aF else f_ c
 |none=>aF
noncomputable def MG:aB->Bool
 |.ref _=>aC
 |.type _=>aC
 |_=>aD
noncomputable def nE(o:Option (Option aB))(s:String):Bool:=match o with
 |some (aA (.builtin x))=>x==s
 |_=>aD
theorem uN(h:nE o s=aC):o=aA (aA (.builtin s)):=by
 unfold nE at h;split at h
 ·rw[beq_iff_eq.mp h]
 ·cases h
noncomputable def oR(o:Option (Option aB)):Bool:=match o with
 |some aF=>aC
 |_=>aD
theorem V8(h:oR o=aC):o=aA aF:=by
 unfold oR at h;split at h
 ·rfl
 ·cases h
noncomputable def iU(o:Option Bool)(b:Bool):Bool:=match o with|some c=>c==b|none=>aD
theorem kO(h:iU o b=aC):o=aA b:=by
 cases o with
 |none=>cases h
 |some c=>have:(c==b)=aC:=h;rw[beq_iff_eq.mp this]
noncomputable def su (K:bK)(C:aE):Bool:=nE (cZ K (.ref C) "__class__") "object.__class__"&&nE (mu K (.builtin "object.__class__") "__get__") "getset_descriptor.__get__"&&iU (ry K (.builtin "object.__class__")) aC&&iU (gT K C (.type "object")) aC
noncomputable def G4(K:bK)(C:aE):Bool:=su K C&&nE (cZ K (.ref C) "__getattribute__") "BaseException.__getattribute__"&&oR (cZ K (.ref C) "__getattr__")&&iU (gT K C (.type "BaseException")) aC&&(iU (gT K C (.type "KeyError")) aD&&iU (gT K C (.type "ZeroDivisionError")) aD)&&(mj K C).isSome
noncomputable def Ca(K:bK)(C:aE):Bool:=su K C&&oC K C mh&&lP K C&&u8 K C&&nE (cZ K (.ref C) "__setattr__") "object.__setattr__"
noncomputable def nK (K:bK)(A:im)(cls fld:List (aG×Nat)):Bool:=
 cls.all (λp=>match UP K p.1 with
  |some v=>MG v&&(Cg A).all (λq=>iU (p_ K q.2 v) (vx q.1 p.2))&&(pj 40 p.2 || (match v with|.ref C=>A.xs.all (λq=>iU (n5 K (.ref q.2) (.ref C)) (vx q.1 p.2))|_=>aC))
  |none=>aD)&&
 A.xs.all (λq=>G4 K q.2)&&A.cs.all (λq=>Ca K q.2&&fld.all (λp=>oR (cZ K (.ref q.2) p.1)))&&fld.all (λp=>match lq[p.2]? with|some x=>x==p.1|none=>aD)
theorem uC{K:bK}(X:K.In h)(G:h.Ns bR mg)(e:UP K c=aA v):ZZ mg c v/\∀u,ZZ mg c u->u=v:=by
 unfold UP at e;split at e
 ·rename_i b q;cases e;have m:=dO X G q;refine⟨.inl m,λu z=>?_⟩;rcases z with z|⟨z,_⟩
  ·rw[m] at z;cases z;rfl
  ·rw[m] at z;cases z
 ·rename_i q;have m:=Eu X G q;split at e
  ·cases e
  ·rename_i a;refine⟨.inr ⟨m,e,λz=>a (by rw[z];rfl)⟩,λu z=>?_⟩;rcases z with z|⟨_,z,_⟩
   ·rw[m] at z;cases z
   ·rw[e] at z;cases z;rfl
 ·cases e
theorem qk{α β:Type}[BEq α][LawfulBEq α]{x:α}{v:β}:∀{l:List (α×β)},l.lookup x=aA v->(x,v)∈l
 |[],h=>by cases h
 |(y,w)::r,h=>by
  rw[gm] at h;cases q:x==y with
  |true=>rw[q] at h;cases h;rw[beq_iff_eq.mp q];exact d9
  |false=>rw[q] at h;exact dQ _ (qk h)
theorem eB{α:Type}{x:aG}:∀{l:List (aG×α)},x∈l.map (·.1)->∃v,l.lookup x=aA v
 |[],h=>by simp at h
 |(y,w)::r,h=>by
  rw[gm];cases q:x==y with
  |true=>exact⟨w,rfl⟩
  |false=>
   rcases cC.mp h with z|z
   ·have z:x=y:=z;rw[z] at q;simp at q
   ·exact eB z
section
variable {P:Program}{w:World}{K:PySem.W.Frag}{mg:aG->Option aB}{base:aR}{A:im}{clo:Nat->aE->Option HO->List V->Prop}{cls fld:List (aG×Nat)}{gs:List (aG×GM)}{N G cel own:List aG}{k:Nat}{lam:Option (Nat×List Pos)}{tabs:Nat->Option (aE×List Pos×aG)}
theorem Oz(h:VR (mE K A clo tabs) t u):(t,u)∈Cg A:=by
 unfold Cg;rcases h with⟨rfl,rfl⟩|⟨rfl,rfl⟩|⟨rfl,rfl⟩|⟨rfl,rfl⟩|⟨rfl,rfl⟩|⟨rfl,rfl⟩|⟨C,h,rfl⟩|⟨rfl,rfl⟩|⟨C,h,rfl⟩
 ·simp
 ·simp
 ·simp
 ·simp
 ·simp
 ·simp
 ·exact d_ _ (dF _ (cN.mpr ⟨(t,C),qk h,rfl⟩))
 ·simp
 ·exact dF _ (cN.mpr ⟨(t,C),qk h,rfl⟩)
noncomputable def bF (P:b7)(w:cV)(K:bK)(mg:aG->Option aB)(base:aR)(A:im)(clo:Nat->aE->Option HO->List V->Prop)(k:Nat)(gs:List (aG×GM))(tabs:Nat->Option (aE×List Pos×aG):=λ_=>aF):Prop:=∀p∈gs,cB (mE K A clo tabs) P w K mg base k p.1 p.2/\(p.1==("__debug__":aG))=aD
theorem cB.mono(h:j<=k)(q:cB D P w K mg base j x g):cB D P w K mg base k x g:=by
 cases g with
 |fn f=>obtain⟨fa,a,fd,ps,kk,b,c,d,r⟩:=q;exact⟨fa,a,fd,ps,kk,b,c,cL d h,r⟩
 |fnh nm f=>obtain⟨fa,a,fd,ps,kk,b,c,d,r⟩:=q;exact⟨fa,a,fd,ps,kk,b,c,cL d h,r⟩
 |met c nm f=>obtain⟨C,fI,fd,ps,kk,a,b,c,d,e,E,r⟩:=q;exact⟨C,fI,fd,ps,kk,a,b,c,d,e,cL E h,r⟩
 |mk c z f=>obtain⟨C,fI,fd,ps,kk,a,b,c,d,e,r⟩:=q;exact⟨C,fI,fd,ps,kk,a,b,c,d,cL e h,r⟩
 |xin c f nm fl=>obtain⟨C,HE,fI,fd,ps,kk,y,u,s,p,o,m,r⟩:=q;exact⟨C,HE,fI,fd,ps,kk,y,u,s,p,o,cL m h,r⟩
 |mkd c nm n f=>obtain⟨C,fI,fd,ps,kk,a,b,c,d,e,r⟩:=q;exact⟨C,fI,fd,ps,kk,a,b,c,d,cL e h,r⟩
 |metd c nm n d f=>obtain⟨C,fI,fd,ps,kk,du,dv,y,u,s,p,o,m,G,F,r⟩:=q;exact⟨C,fI,fd,ps,kk,du,dv,y,u,s,p,o,m,G,cL F h,r⟩
 |kap ls=>exact⟨λj l ts φ α H v e d=>let ⟨a,kk,h1,i,B⟩:=q.1 j l ts φ α H v e d;⟨a,kk,h1,cL i h,B⟩,q.2⟩
 |kpr=>exact⟨λt φ α H v A d=>let ⟨a,kk,h1,h2,i⟩:=q.1 t φ α H v A d;⟨a,kk,h1,cL h2 h,i⟩,q.2⟩
 |_=>exact q
theorem bF.mono(h:j<=k)(q:bF P w K mg base A clo j gs tabs):bF P w K mg base A clo k gs tabs:=λp a=>⟨(q p a).1.mono h,(q p a).2⟩
theorem bF.add (q:bF P w K mg base A clo k gs tabs) (h:cB (mE K A clo tabs) P w K mg base k x g) (a:(x==("__debug__":aG))=aD):bF P w K mg base A clo k ((x,g)::gs) tabs:=λp b=>by
 rcases cC.mp b with rfl|z
 ·exact⟨h,a⟩
 ·exact q p z
noncomputable def XB(bs:List aG)(xs:List (aG×Nat))(ys:List (aG×Nat×Nat)):List (aG×GM):=bs.map (λx=>(x,GM.none))++xs.map (λx=>(x.1,GM.xcl x.2))++ys.map (λx=>(x.1,GM.xcf x.2.1 x.2.2))
noncomputable def sH(K:bK)(A:im)(x:aG)(c:Nat):Bool:=match A.xs.lookup c,mU K bR x with
 |some C,aA (aA (.ref a))=>C==a
 |_,_=>aD
noncomputable def Ce(K:bK)(A:im)(bs:List aG)(xs:List (aG×Nat))(ys:List (aG×Nat×Nat)):Bool:=
 bs.all (λx=>x != ("__debug__":aG)&&oR (mU K bR x))&&
 xs.all (λx=>x.1 != ("__debug__":aG)&&sH K A x.1 x.2)&&ys.all (λx=>x.1 != ("__debug__":aG)&&sH K A x.1 x.2.1)
theorem HC(X:K.In base)(d:base.Ns bR mg)(h:sH K A x c=aC):∃C,A.xs.lookup c=aA C/\mg x=aA (.ref C):=by
 unfold sH at h;split at h
 ·rename_i C e b a;have h:C=e:=beq_iff_eq.mp h;subst h;exact⟨C,b,dO X d a⟩
 ·cases h
noncomputable def hO (K:bK)(A:im):List (aG×Nat)->Prop
 |[]=>True
 |p::r=>(∃C,A.xs.lookup p.2=aA C/\fF K C zI "ValueError.__new__"=aC)/\hO K A r
theorem hO.at:∀{xs:List (aG×Nat)} {p:aG×Nat},hO K A xs->p∈xs->∀C,A.xs.lookup p.2=aA C->fF K C zI "ValueError.__new__"=aC
 |q::r,p,h,a,C,e=>by
  rcases cC.mp a with rfl|z
  ·obtain⟨c,b,x⟩:=h.1;rw[b] at e;cases e;exact x
  ·exact hO.at h.2 z C e
theorem KY(X:K.In base)(f:base.Ns bR mg)(h:Ce K A bs xs ys=aC)(i:hO K A xs):bF P w K mg base A clo k (XB bs xs ys) tabs:=by
 simp only[Ce,cI,fQ,bne_iff_ne,ne_eq] at h;intro p g;rcases b_.mp g with z|z
 ·rcases b_.mp z with z|z
  ·obtain⟨x,a,rfl⟩:=cN.mp z;obtain⟨c,b⟩:=h.1.1 x a;exact⟨Eu X f (V8 b),beq_eq_false_iff_ne.mpr c⟩
  ·obtain⟨x,a,rfl⟩:=cN.mp z;obtain⟨c,b⟩:=h.1.2 x a;obtain⟨C,d,e⟩:=HC X f b;exact⟨⟨C,d,e,hO.at i a C d⟩,beq_eq_false_iff_ne.mpr c⟩
 ·obtain⟨x,a,rfl⟩:=cN.mp z;obtain⟨c,b⟩:=h.2 x a;obtain⟨C,d,e⟩:=HC X f b;exact⟨⟨C,d,e⟩,beq_eq_false_iff_ne.mpr c⟩
theorem Zb(X:K.In base)(L:base.Ns bR mg)(R:nK K A cls fld=aC)(q:bF P w K mg base A clo k gs tabs):f7 (mE K A clo tabs) P w K mg base (cn cls fld gs N G cel own lam lnm) k:=by
 simp only[nK,cI,fQ] at R;obtain⟨⟨⟨J,c2⟩,T⟩,c4⟩:=R;have cb:∀{C},su K C=aC->cZ K (.ref C) "__class__"=aA (aA (.builtin "object.__class__"))/\mu K (.builtin "object.__class__") "__get__"=aA (aA (.builtin "getset_descriptor.__get__"))/\ry K (.builtin "object.__class__")=aA aC/\gT K C (.type "object")=aA aC:=λ{C} h=>by
  simp only[su,cI] at h;exact⟨uN h.1.1.1,uN h.1.1.2,kO h.1.2,kO h.2⟩
 have M:∀c C,A.cs.lookup c=aA C->mJ K C:=λc C h=>by
  have a:=(T _ (qk h)).1;simp only[Ca,cI] at a;obtain⟨⟨⟨⟨I,H⟩,d⟩,F⟩,E⟩:=a;obtain⟨r,p,o,m⟩:=cb I;exact⟨⟨H,d,F,uN E⟩,r,p,o,m⟩
 refine⟨rfl,λx Y=>?_,λt x c b u v hu Z=>?_,λc C x f j Q=>?_,λc C j=>?_,M,λx c b=>?_,λt x c b hlt Ct Cc B D=>?_⟩
 ·obtain⟨g,O⟩:=eB (l:=gs) Y;have:=q _ (qk O);refine⟨?_,this.2⟩;show cB _ P w K mg base k x ((gs.lookup x).getD .bad);rw[O];exact this.1
 ·have a:=J _ b;dsimp only at a;split at a
  ·rename_i v' i;simp only[cI,fQ] at a;have e:=(uC X L i).2 v Z;subst e;exact kO (a.1.2 _ (Oz hu))
  ·cases a
 ·have a:=c4 _ Q;dsimp only at a;refine⟨?_,(M c C j).cl,V8 ((T _ (qk j)).2 _ Q)⟩;split at a
  ·rename_i y U;show lq[f]?=aA x;rw[U,beq_iff_eq.mp a]
  ·cases a
 ·have a:=c2 _ (qk j);simp only[G4,cI] at a;obtain⟨⟨⟨⟨⟨I,H⟩,d⟩,F⟩,S⟩,E⟩:=a;obtain⟨r,p,o,m⟩:=cb I;exact⟨uN H,V8 d,r,p,o,m,kO F,⟨kO S.1,kO S.2⟩,E⟩
 ·have a:=J _ b;dsimp only at a;split at a
  ·rename_i v i;simp only[cI] at a;have s:=a.1.1;refine⟨v,(match v with|.ref C=>V.ref C|.type n=>V.ty n|_=>V.non),(uC X L i).1,?_⟩;cases v with
   |ref C=>exact .inl ⟨C,rfl,rfl⟩
   |type n=>exact .inr ⟨n,rfl,rfl⟩
   |_=>cases s
  ·cases a
 ·have a:=J _ b;dsimp only at a;split at a
  ·rename_i v i;simp only[cI,tX] at a;have e:=(uC X L i).2 (.ref Cc) (.inl D);subst e;have d:=a.2.resolve_left (λz=>by have:=Nat.le_of_ble_eq_true z;lia);simp only[fQ] at d;exact kO (d _ (qk B))
  ·cases a
end
section
variable {D:DP}{H:Hp}{φ α:List aE}{μ:aK}
theorem aM.layO(m:aM D φ α H μ)(g:H p=aF)(d:d7 D φ (α++[p]) (upd H p u) r p):aM D φ (α++[p]) (upd H p u) (μ++[r]):=by
 have st:aP α H (α++[p]) (upd H p u):=j7 g;have s:=m.len;refine⟨by simp[s],?_,λb j=>?_,λb j=>?_,λi a o c f=>?_⟩
 ·rw[lN];refine⟨m.nd,by simp,λa t b j=>?_⟩;rw[bU.mp j];intro z;exact zi m g (z▸t)
 ·rcases b_.mp j with h|h
  ·exact m.dis b h
  ·rw[bU.mp h];exact zh m g
 ·obtain⟨u,e,n⟩:=m.phi b j;exact⟨u,za g b u e,n⟩
 ·by_cases hi:i<α.length
  ·rw[eN hi] at c;rw[eN (by lia)] at f;have d:=m.ob i a o c f;obtain⟨u,q,_⟩:=d.some;exact d.step st ((za g _ _ q).trans q.symm)
  ·rw[fT (by lia)] at c f;have l:i-α.length=0:=by
    by_cases z:i-α.length=0
    ·exact z
    ·rw[oM (by simp;lia)] at c;cases c
   have k:i-μ.length=0:=by lia
   rw[l] at c;rw[k] at f;have c:aA p=aA a:=c;have f:aA r=aA o:=f;cases c;cases f;exact d
end
noncomputable abbrev iX(op:T->T->aK->RE T)(f g:De):De:=λc d=>(f c d).bind λx b=>(g c b).bind λy a=>op x y a
noncomputable abbrev QH(x y:T)(μ:aK):RE T:=match x,y with
 |.int a,.int b=>.ok (.int (if b<a then b else a)) μ
 |_,_=>.st
noncomputable abbrev uP(x y:T)(μ:aK):RE T:=match x,y with
 |.int a,.int b=>.ok (.int (if a<b then b else a)) μ
 |_,_=>.st
section
variable {X:Cx}{D:DP}{W:XW}{Γ:Cn}{k:Nat}{pins:List (aE×bB)}{s:Shared}{σ:St}{H:Hp}{φ α:List aE}{τ:Sl}{μ:aK}{f g:De}{a b:aH}{pos:Pos}
noncomputable def B2 (X:Cx)(D:DP)(W:XW)(fv:aB)(op:T->T->aK->RE T):Prop:=
 ∀(pins:List (aE×bB)) (s:aU) (σ:St) (H:Hp) (φ α:List aE) (μ:aK) (t c:T) (v a:V) (u b:aB) (Q:VK),Inv X pins σ H s->aM D φ α H μ->a_ D φ α H t v->a_ D φ α H c a->RelV v u->RelV a b->aJ D W φ α H σ (RV D φ Q) (op t c μ)->
  wpAny (aQ X.prog X.w) X.A (call fv [u,b]) (EP X pins σ Q) X.xe s
theorem Hj (C:Ck D W Γ X k) {id:String} (A:x∈Γ.G) (hg:Γ.gl x=.none) (hv:f_ x=aA (.builtin id)) (hn:x≠"__name__") (r:aO a=aC) (o:aO b=aC) (hB:B2 X D W (.builtin id) op) (ha:PE X a (aX D W f)) (hb:PE X b (aX D W g)) :
  PE X (.Call (.Name x p0) [a,b] [] pos) (aX D W (iX op f g)):=by
 have L:=C.glo _ A;rw[hg] at L;rintro h s u H Q I ⟨e,O,F,N,K,mr,p⟩;refine gW (qQ I (C.glb _ A) L hv ?_ hn (C.dbG _ A))
 refine rO (a7 (zr ha (zr hb zZ (z3 o)) (z3 r) pos h s u H (λJ t=>∃j i n l d c,J=[j,i]/\aM D e c t d/\a_ D e c t n j/\a_ D e c t l i/\aJ D W e c t u (RV D e Q) (op n l d)) I
  ⟨e,O,F,N,K,mr,p.bind.mono λn v w M z m1 Z j E=>⟨e,w,F,v,K.step z,m1,Z.bind.mono λl d c t y m2 Y i B=>⟨j,i,n,l,d,c,rfl,m2,E.step y,B,Y⟩⟩⟩) ?_) (z3 r) (qB (by simp[o]))
 rintro us S ⟨J,M,I1,T,j,i,n,l,d,c,rfl,m,E,B,q⟩;obtain⟨R,P,rfl,V,U⟩:=vals2 T;exact hB h S u M e c d n l j i R P Q I1 m E B V U q
theorem NA(k:X.calm=aC):B2 X D W (.builtin "min") QH:=by
 intro a s e H n q o t B v w u x Q I b d m r g p;unfold QH at p;split at p
 ·cases d;cases m;obtain⟨A,rfl⟩:=r;obtain⟨y,rfl⟩:=g;refine min_two_ints (I.ok.hd k) λl f h=>?_;have c:Inv X a e H {s with heap:=l,toks:=f}:=I.kept h;rename_i i j;by_cases z:j<i
  ·rw[if_pos z] at p ⊢;exact⟨.int j,H,c,⟨_,rfl⟩,p.here b rfl⟩
  ·rw[if_neg z] at p ⊢;exact⟨.int i,H,c,⟨_,rfl⟩,p.here b rfl⟩
 ·exact p.elim
theorem N8(k:X.calm=aC):B2 X D W (.builtin "max") uP:=by
 intro a s e H n q o t B v w u x Q I b d m r g p;unfold uP at p;split at p
 ·cases d;cases m;obtain⟨A,rfl⟩:=r;obtain⟨y,rfl⟩:=g;refine max_two_ints (I.ok.hd k) λl f h=>?_;have c:Inv X a e H {s with heap:=l,toks:=f}:=I.kept h;rename_i i j;by_cases z:i<j
  ·rw[if_pos z] at p;rw[if_pos (show j > i from z)];exact⟨.int j,H,c,⟨_,rfl⟩,p.here b rfl⟩
  ·rw[if_neg z] at p;rw[if_neg (show ¬j > i from z)];exact⟨.int i,H,c,⟨_,rfl⟩,p.here b rfl⟩
 ·exact p.elim
theorem intsAre_of:∀{ns:List Int} {us:List aB},aW (ns.map V.int) us->dY us ns
 |[],_,.nil=>.nil
 |n::ns,_,.cons r q=>by
  obtain⟨t,rfl⟩:=r;exact .cons n t (intsAre_of q)
end
noncomputable def Cm (nm:aG)(op:T->T->aK->RE T):ER:=λr a e=>(xF e).bind λq=>(AL q.as).bind λw=>gd (q.x==nm) (gd ((cF a.N q.x).isNone&&aO w.1) (gd (aO w.2&&a.calm) (gd (gY (a.look nm)) ((r.e a w.1).bind λf=>(r.e a w.2).bind λg=>aA (iX op f g)))))
theorem HH(s:∀{X:Cx} {W:XW} {Γ:Cn} {k:Nat} {a b:aH} {f g:De} {p0 pos:Pos},Ck D W Γ X k->nm∈Γ.G->Γ.gl nm=.none->Γ.calm=aC->aO a=aC->aO b=aC->PE X a (aX D W f)->PE X b (aX D W g)->PE X (.Call (.Name nm p0) [a,b] [] pos) (aX D W (iX op f g))):cY D (Cm nm op):=by
 intro r H X W Γ k e d C h;obtain⟨q,p,h⟩:=aS h;obtain⟨w,l,h⟩:=aS h;obtain⟨j,h⟩:=z7 h;obtain⟨o,h⟩:=z7 h;obtain⟨i,h⟩:=z7 h;obtain⟨c,h⟩:=z7 h;obtain⟨f,n,h⟩:=aS h;obtain⟨g,m,h⟩:=aS h;cases h;rw[qV p,Yi l,zW j];exact s C (zB c).1 (zB c).2 (zu i).2 (zu o).2 (zu i).1 (H.e C n) (H.e C m)
noncomputable def GK:ER:=Cm "min" QH
theorem Tp:cY D GK:=HH λC a b c g f e d=>Hj C a b (by decide +kernel) (by decide) g f (NA (C.clm c)) e d
noncomputable def Hd:ER:=Cm "max" uP
theorem S0:cY D Hd:=HH λC a b c g f e d=>Hj C a b (by decide +kernel) (by decide) g f (N8 (C.clm c)) e d
noncomputable abbrev Xs(c:Nat)(g:Fn)(ts:List T)(μ:aK):RE T:=λK Z=>g (.mut μ.length::ts) (μ++[.obj c []]) (λr a=>r=.non/\K (.mut μ.length) a) Z
noncomputable abbrev Qc(c:Nat)(g:Fn)(fs:List De):De:=λa b=>(gF fs a b).bind (Xs c g)
noncomputable abbrev zT(c:Nat)(g:Fn)(o:De)(as:List De):De:=λd h=>(o d h).bind λt b=>match t with
 |.obj f fs=>.grd (f=c) ((gF as d b).bind λe a=>g (.obj f fs::e) a)
 |.mut i=>λK Z=>∃fs,b[i]?=aA (.obj c fs)/\(gF as d b).bind (λe a=>g (.mut i::e) a) K Z
 |_=>.st
section
variable {X:Cx}{D:DP}{W:XW}{Γ:Cn}{k:Nat}{pins:List (aE×bB)}{s:Shared}{σ:St}{H:Hp}{φ α:List aE}{τ:Sl}{μ:aK}{fs:List De}{c:aH}{pos:Pos}{es:List aH}
theorem Xw{c:Nat}{g:Fn}{C0 fI:aE}{fd:FuncData}{ps:List aG}{kk:Nat}{us:List aB}{vs:List V}{ts:List T}{Q:VK}(C:Ck D W Γ X k)(ad:D.cad c=aA C0)(M:Mk X.K C0 fI)(F:bQ X.prog X.w X.K X.mg X.base (dD X.prog X.w) kk fI fd ps (eW D ps.length g))
  (hr:bZ (kk+1) X.A) (hb:Binds X.K fd ps []) (P:∀ts μ K Z,g ts μ K Z->ts.length=ps.length) (I:Inv X pins σ H s) (r:aW vs us) (U:aM D φ α H μ) (d:aN D φ α H ts vs) (p:aJ D W φ α H σ (RV D φ Q) (Xs c g ts μ)) :
  wpAny (aQ X.prog X.w) X.A (call (.ref C0) us) (EP X pins σ Q) X.xe s:=by
 obtain⟨K,Z,Y,hk,hz⟩:=p;have N:(T.mut μ.length::ts).length=ps.length:=P _ _ _ _ Y;have hq:∀x dx,H x=aF->H dx=aF->dx≠x->eW D ps.length g (.ref x::(vs++[])) (upd (upd H dx (.own x)) x (.ins C0 dx [])) (λv H2=>v=.non/\Q (.ref x) H2) (λc d h=>W c d σ h):=by
  intro x dx hx O J;have l:ju H (upd H dx (.own x)):=za O;have n:upd H dx (.own x) x=aF:=by rw[z8 (cE J)];exact hx
  have B:aM D φ α (upd H dx (.own x)) μ:=U.new l;have j:aP α H (α++[x]) (upd (upd H dx (.own x)) x (.ins C0 dx [])):=(aP.new l).trans (j7 n);have z:aM D φ (α++[x]) (upd (upd H dx (.own x)) x (.ins C0 dx [])) (μ++[.obj c []]):=B.layO n ⟨C0,dx,[],ad,z4,rfl⟩;have b:(α++[x])[μ.length]?=aA x:=by rw[←U.len,fT (bC _)];simp
  refine⟨by simp only[eZ,gA] at N ⊢;rw[←d.length];exact N,φ,α++[x],.mut μ.length::ts,μ++[.obj c []],⟨.ref x,vs++[],rfl,⟨x,b,rfl⟩,by rw[gA];exact d.step j⟩,z,_,_,Y,?_,?_⟩
  ·rintro t y ⟨rfl,q⟩ i S st m v dv;refine⟨dv,?_⟩;obtain⟨β,e,_⟩:=st.ext;refine hk _ _ q i S (j.trans st) m _ ⟨x,?_,rfl⟩;rw[e,eN (bH.mp b).1];exact b
  ·rintro e fs y q i S C1 d1 st m R xd;exact hz _ _ _ q i S C1 d1 (j.trans st) m R xd
 have G:=hq (s.heap.objs.size+1) s.heap.objs.size (I.hok.fresh (h_ _)) (I.hok.fresh (bC _)) (c7 (lL _));have o:=Inv.made (C:=C0) I;have r2:aW (V.ref (s.heap.objs.size+1)::(vs++[])) (cO (s.heap.objs.size+1)::us):=.cons rfl (by rw[gA];exact r);have L:(cO (s.heap.objs.size+1)::us++[]).length=ps.length:=by
  rw[gA,eZ,←r.length,←d.length];exact N
 refine iN (Js (f:=fI) I.kIn M.makes M.init (beq_iff_eq.mp M.fn) (i8 (F.run _ X.stack _ _ ⟨cO (s.heap.objs.size+1)::us,[]⟩ (cO (s.heap.objs.size+1)::us) _ _ (λc d h=>W c d σ h) (hr.make C0 us [])
  (o.env0.make C0 us []) (by simpa using hb _ (cO (s.heap.objs.size+1)::us) o.kIn L) r2 G) λr s' a=>?_))
 cases r with
 |error e=>exact C.xe e s' (uj (E:=λc d h=>W c d σ h) o a λcls d h w=>w)
 |ok fl=>
  cases fl with
  |ret u=>
   obtain⟨v,h,I3,rv,ev,q3⟩:=o.after a;subst ev;exact⟨rv,⟨V.ref (s.heap.objs.size+1),h,I3,rfl,q3⟩⟩
  |next=>exact eG a
  |brk=>exact eG a
  |cont=>exact eG a
theorem US(C:Ck D W Γ X k){x:aG}{c:Nat}{g:Fn}{p0:Pos}(d:x∈Γ.G)(E:Γ.gl x=.mk c aD g)(F:Γ.calm=aC)(j:dT X D W es fs):PE X (.Call (.Name x p0) es [] pos) (aX D W (Qc c g fs)):=by
 have q:=C.glo x d;rw[E] at q;obtain⟨C0,Y,fd,U,V,ad,B,M,o,i,Fn,a⟩:=q;have n:=(C.rom F).mono i;have h:=j.stars;have A:=j5 j;rintro l s N H Q I ⟨K,P,L,O,y,m,p⟩;refine gW (wA I (C.glb x d) B ?_ (C.dbG x d));cases es with
 |nil=>
  cases fs with
  |nil=>exact rJ I.kIn M.kp (Xw (ts:=[]) C ad M Fn n o a I .nil m rfl p)
  |cons f fs=>exact j.elim
 |cons e es=>
  simp only[lK,cI] at h;refine oo (h₀:=X.base) I.ok.mod.kin M.kp (a7 (rY A I y m p) ?_) (z3 h.1) (qB h.2);rintro S T ⟨R,Z,ts,t,u,r,z,v,w,b,J,_,p1⟩;exact⟨r.kIn,Xw C ad M Fn n o a r z b J p1⟩
theorem Z9(a:∀i,D.fn i≠aA nm):∀{fs:List (Nat×T)} {b:List (aG×V)},bL D φ α H fs b->b.lookup nm=aF
 |[],_,h=>by cases h;rfl
 |p::r,_,h=>by
  obtain⟨x,v,q,e,rfl,_,l⟩:=h;rw[gm];have:(nm==x)=aD:=by
   apply beq_false_of_ne;intro z;exact a p.1 (by rw[z];exact e)
  rw[this];exact Z9 a l
theorem HI (hs : es.all aO = aC) (b : es.length < 30) : ((fN pos (eF es env)).all (fun x => !x.1) && (lF pos (lJ [] env)).all (fun x => x.1.isSome)
      &&decide (es.length+([]:List iM).length+(if ([]:List iM).isEmpty then 0 else 1)<30))=aC:=by
  have e:=qB (env:=env) (pos:=pos) hs;have d:(fN pos (eF es env)).all (λx=>!x.1)=aC:=by
    rw[fQ];intro x a;have:=v6.mp e x a;simpa using this
  rw[d];have c:(lF pos (lJ [] env)).all (λx=>x.1.isSome)=aC:=rfl;rw[c];simpa using b
theorem Ri(C:Ck D W Γ X k){x m:aG}{c:Nat}{g:Fn}{o:aH}{go:De}{b:Pos}(hU:x∈Γ.U)(hg:Γ.gl x=.met c m g)(hc:Γ.calm=aC)(hp:ql o=aC)(r:(b.endLine==pos.line)=aC)(hl:es.length<30)(ho:PE X o (aX D W go))(ha:dT X D W es fs) :
  PE X (.Call (.Attribute o m b) es [] pos) (aX D W (zT c g go fs)):=by
 have q:=(C.glU x hU).1;rw[hg] at q;obtain⟨C0,fI,fd,ps,kk,ad,cl,M,K,hb,hkk,Fn,L⟩:=q;have hr:=(C.rom hc).mono hkk;have R:=ha.stars;have pa:=j5 ha;rintro G s σ H Q I ⟨Z,α,τ,μ,sr,mr,p⟩;rw[tQ,qX hp];refine wpAny_bind (a7 (sub ho I sr mr p) ?_);rintro u s1 ⟨v,Y,t,μ1,j,P,r1,st1,sr1,n,S,p1⟩;refine wpAny_bind (ie ?_);have y:methodCallForm (es.length+([]:List iM).length) (fN pos (eF es X.env)) (lF pos (lJ [] X.env))=aC:=HI R hl;have J:m9 aC o X.env b pos=pure pos:=by unfold m9;simp[r]
 have go:∀{a dx:aE} {N:List (aG×V)} {F:T},Y a=aA (.ins C0 dx N)->N.lookup m=aF->u=.ref a->(∀d B,aP j Y d B->a_ D Z d B F (.ref a))->aJ D W Z j Y σ (RV D Z Q) ((gF fs τ μ1).bind λts E=>g (F::ts) E)->
   wpAny (aQ X.prog X.w) X.A (nX o m b pos X.env u (es.length+([]:List iM).length) (fN pos (eF es X.env)) (lF pos (lJ [] X.env))) (EP X G σ Q) X.xe s1:=λ{a dx N F} O lk hu hd z=>by
  subst hu;unfold nX;rw[y];refine wpAny_bind (wpAny_holding (Kc P O cl M lk ?_));refine wpAny_bind (ml J ?_);have d0:=hd j Y (aP.refl _ _);cases es with
  |nil=>
   cases fs with
   |nil=>exact rJ (first:=[.ref a]) P.kIn M.kp (ui (ts:=[F]) (us:=[.ref a]) (vs:=[.ref a]) C Fn hr hb L P (.cons rfl .nil) n ⟨_,_,rfl,d0,rfl⟩ z)
   |cons f fs=>exact ha.elim
  |cons e es=>
   simp only[lK,cI] at R;refine oo (first:=[.ref a]) (h₀:=X.base) P.ok.mod.kin M.kp (a7 (rY pa P sr1 n z) ?_) (z3 R.1) (qB R.2);rintro us s2 ⟨vs,B,ts,E,d,I2,r2,st2,sr2,mr2,d2,_,p3⟩;exact⟨I2.kIn,ui (ts:=F::ts) (us:=.ref a::us) (vs:=.ref a::vs) C Fn hr hb L I2 (.cons rfl r2) mr2 ⟨_,_,rfl,hd d B st2,d2⟩ p3⟩
 cases t with
 |obj c' gf=>
  obtain⟨hcc,z⟩:=aJ.grd p1;subst hcc;obtain⟨a,C1,dx,N,rfl,n1,n2,h,O,l⟩:=id S;rw[ad] at h;cases h;exact go O (Z9 K l) r1 (λd B st=>S.step st) z
 | «mut» i=>
  obtain⟨gf,hi,z⟩:=aJ.ex1 p1;obtain⟨a,hi',rfl⟩:=id S;obtain⟨C1,dx,N,h,O,l⟩:=n.ob i a _ hi' hi;rw[ad] at h;cases h;exact go O (Z9 K l) r1 (λd B st=>S.step st) z
 |_=>exact aJ.elim p1
end
noncomputable def BL (K:bK)(a:aE)(n:Nat):It:=⟨λi H=>∃b x,gu K H a b/\b.length=n/\i<n/\b[n-1-i]?=aA x,λi H x c=>c=H/\∀b,gu K H a b->b[n-1-i]?=aA x,λi _=>i=n⟩
theorem S1{P:b7}{K:bK}(a it:aE)(n:Nat):fC P w K tg (BL K a n) [it] it (λi h=>h.IsRevIter it a ((n:Int)-1-(i:Int))) where
 mem:=by simp
 obj:=λi h st b g=>by
  have e:b=it:=by simpa using g
  subst e;obtain⟨o,e,c,d⟩:=st;exact⟨o,e,λv z=>by rw[d] at z;cases z⟩
 keep:=λi h q st k=>st.at λo e=>k it (by simp) o e
 item:=by
  intro X r hw t M i f s G H E I m st l;subst r hw t;obtain⟨xs,x,L,hn,hi,J⟩:=l;obtain⟨R,O,p,hz⟩:=I.list L;obtain⟨u,T,Q⟩:=O.get J;obtain⟨D,C,U,B,A,y⟩:=m it (by simp);have F:(n:Int)-1-(i:Int)=((n-1-i:Nat):Int):=by lia
  have V:(n:Int)-1-((i+1:Nat):Int)=((n-1-i:Nat):Int)-1:=by lia
  rw[F] at st;refine wpAny_pyNext_rev_item st p.isList (x:=u) (by simpa using T) λq j N=>?_;have Y:Inv X f G H {s with heap:=q}:=I.turned (t':=s.toks) (λb o g e=>(N.2 b g).trans e) D C B A y;obtain⟨o,e,c,d⟩:=id j;exact⟨u,rfl,yR (s:={s with heap:=q}) e c d (by decide) ⟨x,H,Y,Q,⟨rfl,λZ S=>by rw[I.list_inj S L];exact J⟩,by show Heap.IsRevIter _ _ _ _;rw[V];exact j,λb g=>(m b g).1⟩⟩
 done:=by
  intro X r hw t M i f s G H E I m st l;subst r hw t;obtain⟨D,C,U,B,A,y⟩:=m it (by simp);have l:i=n:=l;subst l;have F:(i:Int)-1-(i:Int) = -1:=by lia
  rw[F] at st;exact wpAny_pyNext_rev_end (I.ok.hd M) st λq eb=>⟨rfl,I.turned (t':=s.toks) (λb o g e=>eb b o g e) D C B A y⟩
 self:=λ_ _ _ _ _ st h=>EA st h
noncomputable abbrev BK(t:T)(μ:aK):RI:=match t with
 |.lst a=>.ok a.reverse fY μ
 |.mut i=>λK _=>∃a,μ[i]?=aA (.lst a)/\K a.reverse (iT i a) μ
 |_=>.st
noncomputable abbrev AM(f:De):Di:=λa b=>(f a b).it BK
section
variable {X:Cx}{D:DP}{W:XW}{Γ:Cn}{k:Nat}{pins:List (aE×bB)}{s:Shared}{σ:St}{H:Hp}{φ α:List aE}{τ:Sl}{μ:aK}{f:De}{a tg:aH}{pos:Pos}
theorem Yk{K:bK}{ad:aE}:il D (BL K ad xs.length) (λφ α H=>∃vs,Rd H ad (.lst vs)/\aN D φ α H xs vs) xs.reverse:=
 ⟨λi φ α H ⟨vs,ok,l⟩ a=>by
  have f:=l.length;have a:i<xs.length:=by simpa using a
  exact⟨vs,vs[xs.length-1-i]'(by omega),.inl ok,by omega,a,by simp⟩,λi φ α H v g t ⟨vs,ok,l⟩ a y=>by
  obtain⟨rfl,y⟩:=y;have b:i<xs.length:=by
   have:=(bH.mp a).1;simpa using this
  rw[List.getElem?_reverse b] at a;obtain⟨x,c,d⟩:=l.get a;have e:=y vs (.inl ok);rw[e] at c;cases c;exact⟨λ_ _ z=>z,d⟩,λφ α H _=>by show _=_;simp⟩
theorem Nr (C:Ck D W Γ X k) (hx:("reversed":aG)∈Γ.G) (hg:Γ.gl "reversed"=.none) (hs:aO a=aC) (ha:PE X a (aX D W f)) :
  PI X tg (.Call (.Name "reversed" p0) [a] [] pos) (gD D W (AM f)):=by
 have hm:=C.glo _ hx;rw[hg] at hm;rintro B s E H R I ⟨n,U,τ,μ,sr,mr,p⟩;refine gW (qQ I (C.glb _ hx) hm (show f_ "reversed"=aA (.type "reversed") by decide +kernel) ?_ (by decide) (C.dbG _ hx));refine ny (a7 (zr ha zZ (z3 hs) pos B s E H (λz i=>∃v t g c,z=[v]/\aP U H c i/\aM D n c i g/\a_ D n c i t v/\aJ D W n c i E (λp r x O=>∀J Ok,il D J Ok p.1->sK D n x O p.1 p.2 Ok->p.2 r->R J O) (BK t g).re) I ⟨n,U,τ,μ,sr,mr,(show aJ D W n U H E _ ((f τ μ).bind λt g=>(BK t g).re) from p).bind.mono λt r x O st m q v d=>⟨v,t,r,x,rfl,st,m,d,q⟩⟩) ?_) (z3 hs) rfl;rintro us y ⟨z,i,Q,rv,v,t,g,c,rfl,st,m,d,q⟩;obtain⟨u,rfl,r1⟩:=vals1 rv;have fin:∀{ad:aE} {z:List V} {h:List T} {lv:aK->Prop},u=.ref ad->Rd i ad (.lst z)->aN D n c i h z->R (BL X.K ad h.length) i->wpAny (aQ X.prog X.w) X.A (call (.type "reversed") [u]) (λv y=>wpAny (aQ X.prog X.w) X.A (ma v) (nO X B E tg R) X.xe y) X.xe y:=λ{ad z h lv} hu q l hR=>by
  subst hu;obtain⟨L,Z,pl,hz⟩:=Q.list (.inl q);have N:L.toArray.size=h.length:=by simp[←Z.length,l.length]
  refine call_reversed_list pl.isList ?_;have hr:({y with heap:=y.heap.push (revObj ad ((L.toArray.size:Int)-1))}:aU).heap.IsRevIter y.heap.objs.size ad ((h.length:Int)-1-((0:Nat):Int)):=⟨_,dP _ rfl,rfl,by rw[←N];simp[revObj]⟩;refine EA hr ?_;refine⟨y.heap.objs.size,[y.heap.objs.size],_,_,i,rfl,Q.kept (t':=y.toks) λb o e=>bP _ e,S1 ad _ h.length,hr,λb hb=>?_,hR⟩;have e:b=y.heap.objs.size:=by simpa using hb
  subst e;exact Q.fpOk (bC _) (Q.hok.fresh (bC _))
 cases t with
 |lst ts=>
  obtain⟨ad,z,rfl,n1,n2,P,l⟩:=d;have F:aJ D W n c i E _ (RE.ok (ts.reverse,fY) g):=q;refine fin (lv:=fY) r1 P l (F.ok (aP.refl _ _) m _ _ Yk (λS x O r lk _ _=>?_) trivial);obtain⟨a',Y,e,_,_,q',l'⟩:=a_.lk lk (show a_ D n c i (.lst ts) (.ref ad) from ⟨ad,z,rfl,n1,n2,P,l⟩);cases e;exact⟨Y,q',l'⟩
 | «mut» j=>
  obtain⟨ad,hj,rfl⟩:=d;have F:aJ D W n c i E _ (λK _=>∃h,g[j]?=aA (.lst h)/\K (h.reverse,iT j h) g):=q;obtain⟨h,M,F⟩:=F.ex1;obtain⟨z,P,l⟩:=m.ob j ad _ hj M;have F:aJ D W n c i E _ (RE.ok (h.reverse,iT j h) g):=F;refine fin (lv:=iT j h) r1 (.inl P) l (F.ok (aP.refl _ _) m _ _ Yk (λS x O r lk mm hl=>?_) M);obtain⟨Y,q',l'⟩:=mm.ob j ad _ (lk.st j ad hj) hl;exact⟨Y,.inl q',l'⟩
 |_=>exact aJ.elim q
end
theorem V3{K:bK}(a:nK K A cls fld=aC)(h:A.cs.lookup c=aA C):gM K C:=by
 simp only[nK,cI,fQ] at a;obtain⟨⟨⟨m,l⟩,i⟩,k⟩:=a;have b:=(i _ (qk h)).1;simp only[Ca,cI] at b;obtain⟨⟨⟨⟨j,g⟩,f⟩,e⟩,d⟩:=b;exact⟨g,f,e,uN d⟩
noncomputable def AR:GM->Option (Nat×Fn)
 |.mk c aD g=>aA (c,g)
 |_=>aF
theorem Sc(h:AR g=aA q):g=.mk q.1 aD q.2:=by
 unfold AR at h;split at h
 ·cases h;rfl
 ·cases h
noncomputable def Gw:ER:=λr a e=>(xF e).bind λq=>gd ((cF a.N q.x).isNone&&a.calm) ((lZ r a q.as).bind λfs=>(AR (a.look q.x)).bind λw=>aA (Qc w.1 w.2 fs))
theorem Rn:cY D Gw:=by
 intro r H X W j k e d C h;obtain⟨q,i,h⟩:=aS h;obtain⟨f,h⟩:=z7 h;obtain⟨fs,g,h⟩:=aS h;obtain⟨w,b,h⟩:=aS h;cases h;rw[qV i];obtain⟨a,c⟩:=vZ (Sc b) (by intro z;cases z);exact US C a c (zu f).2 (vX H C g)
noncomputable def eD(m:aG):aG:=⟨#[46]++m.cps⟩
noncomputable def FP:GM->Option (Nat×aG×Fn)
 |.met c nm g=>aA (c,nm,g)
 |_=>aF
theorem RG(h:FP g=aA q):g=.met q.1 q.2.1 q.2.2:=by
 cases g<;>first|(cases h;rfl)|cases h
noncomputable def Gj (r:dH)(Γ:Cn)(ky:aG)(q:CT):Option De:=gd (ql q.o&&q.pa.endLine==q.pc.line) (gd (Γ.calm&&decide (q.as.length<30)) (gd (Γ.U.contains ky) ((r.e Γ q.o).bind λgo=>(lZ r Γ q.as).bind λfs=>(FP (Γ.gl ky)).bind λw=>gd (w.2.1==q.m) (aA (zT w.1 w.2.2 go fs)))))
theorem Rq{W:XW}(H:bV D r)(C:Ck D W Γ X k)(h:Gj r Γ ky q=aA d):PE X (.Call (.Attribute q.o q.m q.pa) q.as [] q.pc) (aX D W d):=by
 obtain⟨c,h⟩:=z7 h;obtain⟨b,h⟩:=z7 h;obtain⟨l,h⟩:=z7 h;obtain⟨go,j,h⟩:=aS h;obtain⟨fs,i,h⟩:=aS h;obtain⟨w,g,h⟩:=aS h;obtain⟨f,h⟩:=z7 h;cases h;have a:=RG g;rw[zW f] at a;exact Ri C (by simpa using l) a (zu b).1 (zu c).1 (zu c).2 (of_decide_eq_true (zu b).2) (H.e C j) (vX H C i)
noncomputable def FY:ER:=λr a e=>(yv e).bind λq=>Gj r a (eD q.m) q
theorem Se:cY D FY:=by
 intro r H X W b k e d C h;obtain⟨q,a,h⟩:=aS h;rw[vC a];exact Rq H C h
noncomputable def G7:IR:=λr b e=>(xF e).bind λq=>(ZV q.as).bind λa=>gd (q.x==("reversed":aG)) (gd ((cF b.N q.x).isNone&&aO a) (gd (gY (b.look "reversed")) ((r.e b a).bind λf=>aA (AM f))))
theorem WP:l7 D G7:=by
 intro r H X W m k n e d C o h;obtain⟨q,l,h⟩:=aS h;obtain⟨a,i,h⟩:=aS h;obtain⟨c,h⟩:=z7 h;obtain⟨g,h⟩:=z7 h;obtain⟨b,h⟩:=z7 h;obtain⟨f,j,h⟩:=aS h;cases h;rw[qV l,wx i,zW c];exact Nr C (zB b).1 (zB b).2 (zu g).2 (H.e C j)
section
variable {X:Cx}{pins:List (aE×bB)}{s:Shared}{σ:St}{H:Hp}
theorem wX(I:Inv X pins σ H s)(ox:dL X H x)(l:∀p∈pins,p.1≠x)(k:aY X.prog X.w (upd H x o) s.heap x o):Inv X pins σ (upd H x o) s:=by
 have ne:∀b,H b≠aF->b≠x:=λb h z=>h (by rw[z];exact ox.free);refine⟨I.ok,I.os,I.bare,⟨I.base.keep,I.base.slot,λb o e n d=>?_,I.base.there,λb g e=>?_,λb o u e=>?_,λb i e=>?_⟩,I.loc,I.cell,?_,λy c e=>?_,λp f=>?_,λb j e=>?_,I.len⟩
 ·have:b≠x:=λz=>by
   rcases ox.new with q|q
   ·exact d (by rw[z];exact q)
   ·rw[←z,e] at q;cases q
  rw[z8 this];exact I.base.free b o e n d
 ·have q:=I.base.tups b g e;rw[z8 (ne b (by rw[q];simp))];exact q
 ·have q:=I.base.frzs b o u e;rw[z8 (ne b (by rw[q];simp))];exact q
 ·obtain⟨a,q⟩:=I.base.tbls b i e;exact⟨a,by rw[z8 (ne b (by rw[q];simp))];exact q⟩
 ·rw[z8 (cE ox.loc)];exact I.free
 ·rw[z8 (ox.cel y c e)];exact I.freeC y c e
 ·obtain⟨e,n,r⟩:=I.pin p f;have:p.1≠x:=(b_.mp f).elim (ox.pin p) (l p);exact⟨e,by rw[z8 this];exact n,r⟩
 ·by_cases z:b=x
  ·subst z;rw[z4] at e;cases e;exact k
  ·rw[z8 z] at e;exact (I.hok b j e).stay (λ_ _ _ q=>q) (λc q=>by
    by_cases w:c=x
    ·rw[w,ox.free] at q;cases q
    ·rw[z8 w];exact q) λc _ q=>by
    by_cases w:c=x
    ·rw[w,ox.free] at q;cases q
    ·rw[z8 w];exact q
theorem kl(f:WQ X pins H b):dL X H b/\∀p∈pins,p.1≠b:=
 ⟨⟨f.1,f.2.1,f.2.2.1,f.2.2.2.1.imp id λh=>iS h,f.2.2.2.2.1,λp a=>f.2.2.2.2.2 p (d_ _ a)⟩,λp a=>f.2.2.2.2.2 p (dF _ a)⟩
end
noncomputable def BR (K:bK)(a:aE):It:=⟨λi H=>∃b x,gu K H a b/\b[i]?=aA x,λi H v c=>∃p x,H p=aF/\c=upd H p (.tup [.int i,x])/\v=.ref p/\∀b,gu K H a b->b[i]?=aA x,λi H=>∃b,gu K H a b/\b.length<=i⟩
theorem Ui{P:b7}{K:bK}(a e it:aE)(y:e≠it):fC P w K (.Tuple elts x1 tp) (BR K a) [e,it] e (λi h=>(∃d,IsEnum h e it (i:Nat) d)/\h.IsListIter it a i) where
 mem:=by simp
 obj:=λi h st b f=>by
  obtain⟨⟨d,j⟩,o,J,R,hd⟩:=st;have:b=e\/b=it:=by simpa using f
  rcases this with rfl|rfl
  ·exact⟨_,j,λv z=>by cases (show pK _=pC v from z)⟩
  ·exact⟨o,J,λv z=>by rw[hd] at z;cases z⟩
 keep:=λi h h' st k=>⟨let ⟨d,j⟩:=st.1;⟨d,k e (by simp) _ j⟩,st.2.at λo q=>k it (by simp) o q⟩
 item:=by
  intro X S hw T R i c s A H E I C st N;subst S hw T;obtain⟨⟨d,j⟩,l⟩:=st;obtain⟨Z,x,B,G⟩:=N;obtain⟨F,D,p,hz⟩:=I.list B;obtain⟨u,hu,ru⟩:=D.get G;have fe:=kl (C e (by simp));have fi:=kl (C it (by simp));have t:e<s.heap.objs.size:=bY j;have M:it<s.heap.objs.size:=by obtain⟨o,J,_⟩:=l;exact bY J
  refine wpAny_pyNext_enum_item j l p.isList (x:=u) (by simpa using hu) y λh1 O r ht hz1 L=>?_;refine⟨_,rfl,wpAny_letOwnedTupleGo_enum O λm Q g=>?_⟩;have g:fU e h1 m:=g;have U:∀b o,b≠e->b≠it->s.heap.get? b=aA o->m.get? b=aA o:=λb o Y h4 q=>(g.2 b Y).trans (L b o Y h4 q);have I1:Inv X c A H {s with heap:=m}:=xa (ch:=[e,it]) I (λb f=>by
   have:b=e\/b=it:=by simpa using f
   rcases this with rfl|rfl
   ·exact fe
   ·exact fi) (λb o _ f q=>U b o (λz=>f (by simp[z])) (λz=>f (by simp[z])) q) λb o _ f q=>⟨o.slots,U b o (λz=>f (by simp[z])) (λz=>f (by simp[z])) q⟩
  have I2:Inv X c A H {s with heap:=m,toks:=s.toks+1}:=I1.tok _;have n:m.get? s.heap.objs.size=aA {cls:=.type "tuple",data:=.seq #[.int i s.toks,u]}:=(g.2 _ (gU t)).trans ht;have V:H s.heap.objs.size=aF:=I.hok.fresh (bC _);have fn:=kl (I.fpOk (bC _) V);have I3:Inv X c A (upd H s.heap.objs.size (.tup [.int i,x])) {s with heap:=m,toks:=s.toks+1}:=wX I2 fn.1 fn.2 (show aY X.prog X.w _ m _ (.tup [.int i,x]) from ⟨by rw[d5];simp,[.int i s.toks,u],.cons ⟨_,rfl⟩ (.cons ru .nil),⟨_,n,rfl,_,rfl⟩⟩);refine⟨.ref s.heap.objs.size,_,I3,rfl,⟨s.heap.objs.size,x,V,rfl,rfl,λys hy=>by rw[I.list_inj hy B];exact G⟩,⟨⟨u,Q⟩,r.at λo q=>(g.2 it (cE y)).trans q⟩,λb f=>?_⟩;have:b=e\/b=it:=by simpa using f
  rcases this with rfl|rfl
  ·rw[z8 (c7 t)];exact fe.1.free
  ·rw[z8 (c7 M)];exact fi.1.free
 done:=by
  intro X S hw T R i c s A H E I C st N;subst S hw T;obtain⟨⟨d,j⟩,l⟩:=st;obtain⟨Z,B,G⟩:=N;obtain⟨F,D,p,hz⟩:=I.list B;obtain⟨f0,f1,f2,f3,f4,f5⟩:=C it (by simp);have hl:=D.length;exact wpAny_pyNext_enum_end (I.ok.hd R) j l p.isList (by simp;lia) λh' eb=>⟨rfl,I.turned (t':=s.toks) (λb o f e=>eb b o f e) f0 f1 f3 f4 f5⟩
 self:=λ_ _ _ _ _ st h=>let ⟨⟨d,j⟩,_⟩:=st;D0 j h
noncomputable def jg:Int->List T->List T
 |_,[]=>[]
 |i,x::r=>.tup [.int i,x]::jg (i+1) r
theorem vJ:∀{xs:List T} {i:Int},(jg i xs).length=xs.length
 |[],_=>rfl
 |x::r,i=>by simp[jg,vJ]
theorem jL:∀{xs:List T} {k:Int} {i:Nat} {t:T},(jg k xs)[i]?=aA t->∃x,xs[i]?=aA x/\t=.tup [.int (k+i),x]
 |[],_,_,_,h=>by simp[jg] at h
 |x::r,k,0,t,h=>by
  have h:aA (T.tup [.int k,x])=aA t:=h;cases h;exact⟨x,rfl,by simp⟩
 |x::r,k,i+1,t,h=>by
  obtain⟨y,a,e⟩:=jL (xs:=r) (k:=k+1) (i:=i) (t:=t) h;refine⟨y,a,?_⟩;rw[e,show k+((i+1:Nat):Int)=k+1+i by lia]
noncomputable abbrev Cf(t:T)(μ:aK):RI:=match t with
 |.lst a=>.ok (jg 0 a) fY μ
 |.mut i=>λK _=>∃a,μ[i]?=aA (.lst a)/\K (jg 0 a) (iT i a) μ
 |_=>.st
noncomputable abbrev Xn(f:De):Di:=λa b=>(f a b).it Cf
section
variable {X:Cx}{D:DP}{W:XW}{Γ:Cn}{k:Nat}{pins:List (aE×bB)}{s:Shared}{σ:St}{H:Hp}{φ α:List aE}{τ:Sl}{μ:aK}{f:De}{a:aH}{pos:Pos}
theorem Jb{K:bK}{ad:aE}:il D (BR K ad) (λφ α H=>(∃vs,Rd H ad (.lst vs)/\aN D φ α H xs vs)/\(∀p,H p=aF->p∉φ/\p∉α)) (jg 0 xs):=
 ⟨λi φ α H ⟨⟨vs,ok,l⟩,_⟩ a=>by
  have a:i<vs.length:=by rw[←l.length,←vJ (i:=0)];exact a
  exact⟨vs,vs[i],.inl ok,by simp⟩,λi φ α H v j t ⟨⟨vs,ok,l⟩,fr⟩ a y=>by
  obtain⟨p,z,b,rfl,rfl,g⟩:=y;obtain⟨x,h,rfl⟩:=jL a;obtain⟨v,f,d⟩:=l.get h;have e:=g vs (.inl ok);rw[e] at f;cases f;have c:ju H (upd H p (.tup [.int i,z])):=za b;refine⟨c,p,_,rfl,(fr p b).1,(fr p b).2,.inl z4,_,_,rfl,?_,_,_,rfl,d.step (aP.new c),rfl⟩;show V.int _=V.int _;simp,λφ α H ⟨⟨vs,ok,l⟩,_⟩=>⟨vs,.inl ok,by rw[vJ,l.length];exact bC _⟩⟩
theorem P4 (C:Ck D W Γ X k) (hx:("enumerate":aG)∈Γ.G) (hg:Γ.gl "enumerate"=.none) (hs:aO a=aC) (ha:PE X a (aX D W f)) :
  PI X (.Tuple Q x1 tp) (.Call (.Name "enumerate" p0) [a] [] pos) (gD D W (Xn f)):=by
 have hm:=C.glo _ hx;rw[hg] at hm;rintro z s B H R I ⟨i,U,τ,μ,sr,mr,p⟩;refine gW (qQ I (C.glb _ hx) hm (show f_ "enumerate"=aA (.type "enumerate") by decide +kernel) ?_ (by decide) (C.dbG _ hx));refine ny (a7 (zr ha zZ (z3 hs) pos z s B H (λx h=>∃v t g c,x=[v]/\aP U H c h/\aM D i c h g/\a_ D i c h t v/\aJ D W i c h B (λp n o O=>∀J Ok,il D J Ok p.1->sK D i o O p.1 p.2 Ok->p.2 n->R J O) (Cf t g).re) I ⟨i,U,τ,μ,sr,mr,(show aJ D W i U H B _ ((f τ μ).bind λt g=>(Cf t g).re) from p).bind.mono λt n o O st m q v d=>⟨v,t,n,o,rfl,st,m,d,q⟩⟩) ?_) (z3 hs) rfl;rintro us y ⟨x,h,L,rv,v,t,g,c,rfl,st,m,d,q⟩;obtain⟨u,rfl,r1⟩:=vals1 rv;have fin:∀{ad:aE} {x:List V} {r:List T},u=.ref ad->Rd h ad (.lst x)->aN D i c h r x->R (BR X.K ad) h->wpAny (aQ X.prog X.w) X.A (call (.type "enumerate") [u]) (λv y=>wpAny (aQ X.prog X.w) X.A (ma v) (nO X z B (.Tuple Q x1 tp) R) X.xe y) X.xe y:=λ{ad x r} hu q l hR=>by
  subst hu;obtain⟨its,rv2,pl,hz⟩:=L.list (.inl q);refine call_enumerate_list pl.isList λh' he hi hz' kp=>?_;refine D0 he ?_;refine⟨y.heap.objs.size+1,[y.heap.objs.size+1,y.heap.objs.size],_,_,h,rfl,L.kept (t':=y.toks) kp,Ui ad _ _ (Nat.succ_ne_self _),⟨⟨_,he⟩,hi⟩,λb hb=>?_,hR⟩;have:b=y.heap.objs.size+1\/b=y.heap.objs.size:=by simpa using hb
  rcases this with rfl|rfl
  ·exact L.fpOk (h_ _) (L.hok.fresh (h_ _))
  ·exact L.fpOk (bC _) (L.hok.fresh (bC _))
 cases t with
 |lst ts=>
  obtain⟨ad,x,rfl,n1,n2,P,l⟩:=d;have E:aJ D W i c h B _ (RE.ok (jg 0 ts,fY) g):=q;refine fin r1 P l (E.ok (aP.refl _ _) m _ _ Jb (λS o O n lk F _=>⟨?_,λp N=>⟨zh F N,zi F N⟩⟩) trivial);obtain⟨a',Y,e,_,_,Z,l'⟩:=a_.lk lk (show a_ D i c h (.lst ts) (.ref ad) from ⟨ad,x,rfl,n1,n2,P,l⟩);cases e;exact⟨Y,Z,l'⟩
 | «mut» j=>
  obtain⟨ad,hj,rfl⟩:=d;have E:aJ D W i c h B _ (λK _=>∃r,g[j]?=aA (.lst r)/\K (jg 0 r,iT j r) g):=q;obtain⟨r,M,E⟩:=E.ex1;obtain⟨x,P,l⟩:=m.ob j ad _ hj M;have E:aJ D W i c h B _ (RE.ok (jg 0 r,iT j r) g):=E;refine fin r1 (.inl P) l (E.ok (aP.refl _ _) m _ _ Jb (λS o O n lk F hl=>⟨?_,λp N=>⟨zh F N,zi F N⟩⟩) M);obtain⟨Y,Z,l'⟩:=F.ob j ad _ (lk.st j ad hj) hl;exact⟨Y,.inl Z,l'⟩
 |_=>exact aJ.elim q
end
theorem Mn (h:JU tg (.Call (.Name x p0) as ks p)=aC) (a:(x != ("enumerate":aG)&&x != ("zip":aG))=aD):∃d x1 g,tg=.Tuple d x1 g:=by
 have h:((x != ("enumerate":aG)&&x != ("zip":aG)) || Uw tg)=aC:=h;rw[a] at h;exact Xi h
noncomputable def Hx:IR:=λr b e=>(xF e).bind λq=>(ZV q.as).bind λa=>gd (q.x==("enumerate":aG)) (gd ((cF b.N q.x).isNone&&aO a) (gd (gY (b.look "enumerate")) ((r.e b a).bind λf=>aA (Xn f))))
theorem Uc:l7 D Hx:=by
 intro r H X W o k t e d C b h;obtain⟨q,n,h⟩:=aS h;obtain⟨a,l,h⟩:=aS h;obtain⟨i,h⟩:=z7 h;obtain⟨j,h⟩:=z7 h;obtain⟨c,h⟩:=z7 h;obtain⟨f,m,h⟩:=aS h;cases h;have e0:=qV n;rw[wx l,zW i] at e0;rw[e0] at b ⊢;obtain⟨g,p,s,rfl⟩:=Mn b (by decide);exact P4 C (zB c).1 (zB c).2 (zu j).2 (H.e C m)
end NH
namespace L2
open PySem PySem.Spec PyProof.Rows
section
variable {κ:Type}[DecidableEq κ]
noncomputable def y9(a:List (κ×V))(k:κ):Option V:=(a.find? λb=>decide (b.1=k)).map (·.2)
noncomputable def eH(a:List (κ×V))(k:κ)(v:V):List (κ×V):=
 if (a.any λb=>decide (b.1=k))=aC then a.map (λb=>if b.1=k then (b.1,v) else b) else a++[(k,v)]
theorem xU{p:κ×V}{r:List (κ×V)}{k:κ}(e:p.1=k):y9 (p::r) k=aA p.2:=by simp[y9,oy,e]
theorem xn{p:κ×V}{r:List (κ×V)}{k:κ}(e:¬p.1=k):y9 (p::r) k=y9 r k:=by simp[y9,oy,e]
theorem VZ(a:List (κ×V))(k:κ)(v:V):(eH a k v).length<=a.length+1:=by
 unfold eH;split
 ·rw[bG];lia
 ·rw[ig,eZ,lU];lia
theorem dB.isSome_eq(r:dB o u):o.isSome=u.isSome:=by
 cases o with
 |none=>cases u with
  |none=>rfl
  |some _=>exact (show False from r).elim
 |some _=>cases u with
  |none=>exact (show False from r).elim
  |some _=>rfl
theorem dB.getD(r:dB o u)(rd:RelV d d'):RelV (o.getD d) (u.getD d'):=by
 cases o with
 |none=>cases u with
  |none=>exact rd
  |some _=>exact (show False from r).elim
 |some _=>cases u with
  |none=>exact (show False from r).elim
  |some _=>exact r
theorem KV.val{a:List (κ×V)}{vs:List (κ×aB)}(r:KV a vs)(k:κ):dB (y9 a k) (md vs k):=by
 unfold KV at r;induction r with
 |nil=>exact gw
 | @cons p q ps c h t f=>
  obtain⟨h1,h2⟩:=h;by_cases e:p.1=k
  ·have d:q.1=k:=h1.symm.trans e;have b:md (q::c) k=aA q.2:=by simp[md,oy,d]
   rw[xU e,b];exact h2
  ·have d:¬q.1=k:=λz=>e (h1.trans z);have b:md (q::c) k=md c k:=by simp[md,oy,d]
   rw[xn e,b];exact f
theorem KV.any(r:KV d vs)(k:κ):(d.any λg=>decide (g.1=k))=vs.any λg=>decide (g.1=k):=by
 unfold KV at r;induction r with
 |nil=>rfl
 |cons h t a=>rw[n_,n_,a,h.1]
theorem KV.repl(r:KV g vs)(k:κ)(a:RelV y u) :
  KV (g.map λd=>if d.1=k then (d.1,y) else d) (vs.map λd=>if d.1=k then (d.1,u) else d):=by
 unfold KV at r ⊢;induction r with
 |nil=>exact .nil
 | @cons p q ps c h t b=>
  rw[dW,dW];refine .cons ?_ b;obtain⟨h1,h2⟩:=h;by_cases e:p.1=k
  ·rw[if_pos e,if_pos (h1.symm.trans e)];exact⟨h1,a⟩
  ·rw[if_neg e,if_neg (λz=>e (h1.trans z))];exact⟨h1,h2⟩
theorem KV.put(r:KV d vs)(k:κ)(a:RelV y u):KV (eH d k y) (stored vs k u):=by
 unfold eH stored;rw[r.any k];by_cases e:(vs.any λb=>decide (b.1=k))=aC
 ·rw[if_pos e,if_pos e];exact r.repl k a
 ·rw[if_neg e,if_neg e];exact Paired.snoc r ⟨rfl,a⟩
theorem KV.keys{a:List (κ×V)}{vs:List (κ×aB)}(r:KV a vs):a.map (·.1)=vs.map (·.1):=by
 unfold KV at r;induction r with
 |nil=>rfl
 |cons h t b=>rw[dW,dW,b,h.1]
theorem KV.length{a:List (κ×V)}{vs:List (κ×aB)}(r:KV a vs):a.length=vs.length:=DM r
end
theorem QK{P:b7}(r:RelV (kV k) u):(zE P w).is k u=aC:=by
 cases k with
 |inl i=>obtain⟨t,e⟩:=(show ∃t,u=mi i t from r);subst e;exact Vv P w i t
 |inr x=>obtain⟨t,e⟩:=(show ∃t,u=pB x t from r);subst e;exact Jj P w x t
section
variable {P:Program}{w:World}{H:Hp}{h:aR}{a:aE}
theorem Ms(ok:dN P w H h)(e:Rd H a u):aY P w H h a u:=e.ok ok
noncomputable def CQ (H:Hp)(a:aE)(b:List (Key×V)):Prop:=Rd H a (.dK b)\/∃ep,H a=aA (.dE ep b)
theorem kg(ok:dN P w H h)(e:CQ H a g):g.length<=sizeLine/\(a==ic)=aD/\∃vs,KV g vs/\h.DictOf (zE P w) a vs:=by
 rcases e with e|⟨ep,e⟩
 ·exact show aY P w H h a (.dK g) from Ms ok e
 ·obtain⟨z,y,vs,r,d⟩:=(show aY P w H h a (.dE ep g) from ok a _ e);exact⟨z,y,vs,r,d.dictOf⟩
theorem Nn(ok:dN P w H h)(e:Rd H a (.dK d)):d.length<=sizeLine/\(a==ic)=aD/\∃vs,KV d vs/\h.DictOf (zE P w) a vs:=kg ok (.inl e)
theorem Nc(ok:dN P w H h)(e:H a=aA (.dK d)):d.length<=sizeLine/\(a==ic)=aD/\∃vs,KV d vs/\h.DictOf (zE P w) a vs:=Nn ok (.inl e)
end
noncomputable def fM (H:Hp)(a:aE)(y:V)(r:Option V):Prop:=∃b k,CQ H a b/\y=kV k/\r=y9 b k
noncomputable def lu (H:Hp)(a:aE)(y v:V)(c:Hp):Prop:=∃b k,(H a=aA (.dK b)\/∃ep,H a=aA (.dE ep b))/\y=kV k/\b.length<sizeLine/\c=upd H a (.dK (eH b k v))
theorem fM.k{H:Hp}{a:aE}{b:List (Key×V)}{k:Key}(e:H a=aA (.dK b)):fM H a (kV k) (y9 b k):=⟨b,k,.inl (.inl e),rfl,rfl⟩
theorem lu.k{H:Hp}{a:aE}{b:List (Key×V)}{k:Key}{v:V}(e:H a=aA (.dK b))(c:b.length<sizeLine):lu H a (kV k) v (upd H a (.dK (eH b k v))):=⟨b,k,.inl e,rfl,c,rfl⟩
section
variable {X:Cx}{pins:List (aE×bB)}{σ:St}{H:Hp}{s:Shared}{a:aE}{y v:V}{u r:aB}{o:Option V}{A:Around}{E:aB->Shared->Prop}
theorem Inv.big(I:Inv X pins σ H s):ic<s.heap.objs.size:=by
 have h:bR<s.heap.objs.size:=(I.mod.glob.keeps I.bk).lt;exact tw (by decide) h
theorem U9(m:A.units+1<cLine)(I:Inv X pins σ H s)(g:fM H a y (aA v))(f:RelV y u)(h:∀d j,Inv X pins σ H j->RelV v d->Q d j) :
  wpAny (aQ X.prog X.w) A (iq (.ref a) u) Q E s:=by
 obtain⟨i,k,e,rfl,l⟩:=g;obtain⟨z,hd,c,rel,dd⟩:=kg I.hok e;obtain⟨d,hw,b⟩:=dB.some_of (v:=v) (o:=md c k) (by rw[l];exact rel.val k);exact wpAny_getItem_of (QK f) dd.mapOf hw (h d _ (I.tok _) b)
theorem L1(i:A.units+1<cLine)(I:Inv X pins σ H s)(g:fM H a y o)(b:RelV y u)(h:∀d,Inv X pins σ H d->Q (.bool o.isSome) d) :
  wpAny (aQ X.prog X.w) A (dZ .In u (.ref a)) Q E s:=by
 obtain⟨c,k,e,rfl,l⟩:=g;obtain⟨z,hd,f,rel,dd⟩:=kg I.hok e;refine wpAny_in_of (QK b) hd dd.mapOf ?_;rw[←(rel.val k).isSome_eq,←l];exact h _ (I.tok _)
theorem Sv(i:A.units+1<cLine)(I:Inv X pins σ H s)(g:fM H a y o)(b:RelV y u)(h:∀d,Inv X pins σ H d->Q (.bool (!o.isSome)) d) :
  wpAny (aQ X.prog X.w) A (dZ .NotIn u (.ref a)) Q E s:=by
 obtain⟨c,k,e,rfl,l⟩:=g;obtain⟨z,hd,f,rel,dd⟩:=kg I.hok e;refine wpAny_notIn_of (QK b) hd dd.mapOf ?_;rw[←(rel.val k).isSome_eq,←l];exact h _ (I.tok _)
theorem XJ(I:Inv X pins σ H s)(c:o_ (H a))(hs:fU a s.heap h')(he:∃q,h'.get? a=aA q)(new:aY X.prog X.w (upd H a ob) h' a ob) :
  Inv X pins σ (upd H a ob) {s with heap:=h',toks:=t'}:=
 I.write (x:=a) (e:=a) c (.inl rfl) (λb q d z=>(hs.2 b d).trans z) he new
theorem Pu{P:b7}(z:d.length<=sizeLine)(hd:(a==ic)=aD)(rel:KV d vs)(dd:h'.DictOf (zE P w) a vs) :
  aY P w g h' a (.dK d):=⟨z,hd,vs,rel,dd⟩
theorem U7(C:A.units+1<cLine)(I:Inv X pins σ H s)(g:lu H a y v B)(i:RelV y u)(j:RelV v r)(h:∀d,Inv X pins σ B d->Q () d) :
  wpAny (aQ X.prog X.w) A (setItem (.ref a) u r) Q E s:=by
 obtain⟨b,k,e,rfl,l,rfl⟩:=g;obtain⟨z,hd,f,rel,dd⟩:=kg I.hok (e.imp .inl id);have m:f.length<=sizeLine:=by rw[←rel.length];exact z
 have p:(eH b k v).length<=sizeLine:=by have:=VZ b k v;lia
 refine wpAny_setItem_pairs (hsz:=m) (QK i) dd λx c n=>h _ ?_;have t:∃q,x.get? a=aA q:=let ⟨q,_,_,o,_⟩:=c;⟨q,o⟩;exact XJ I (by rcases e with e|⟨ep,e⟩<;>rw[e]<;>exact gw) n t (Pu p hd (rel.put k j) c)
end
section
variable {X:Cx}{pins:List (aE×bB)}{σ:St}{H:Hp}{s:Shared}{a:aE}{kvs:List (Key×V)}{A:Around}{E:aB->Shared->Prop}
theorem UW(I:Inv X pins σ H s)(e:H a=aA (.dK kvs)):∃ep,Inv X pins σ (upd H a (.dE ep kvs)) s:=by
 obtain⟨z,hd,b,rel,dd⟩:=Nc I.hok e;obtain⟨ep,da⟩:=dd.dictAt;obtain⟨o,es,c,_⟩:=id da;exact⟨ep,XJ (s:=s) (h':=s.heap) (t':=s.toks) I (by rw[e];exact gw) ⟨rfl,λ_ _=>rfl⟩ ⟨o,c⟩ ⟨z,hd,b,rel,da⟩⟩
theorem MY(I:Inv X pins σ H s)(e:CQ H a kvs)(h:∀t d,Inv X pins σ H d->Q (.int kvs.length t) d):wpAny (aQ X.prog X.w) A (call (.builtin "len") [.ref a]) Q E s:=by
 obtain⟨z,hd,b,rel,dd⟩:=kg I.hok e;refine call_len_dict hd dd (by rw[←rel.length];rw[d5] at z;lia) ?_;rw[←rel.length];exact h _ _ (I.tok _)
end
noncomputable def Az(i:aH):Prop:=∀a b,pL i aD a b=operate [a,b] (iq a b)
theorem WC{id:String} 
  (k:nZ (.type T) "__getitem__"=pure (aA (.builtin id))) (hs:Az d)
  (h:wpAny (aQ prog w) A (eval j env) (λo u=>wpAny (aQ prog w) A (eval d env) (λi g=>g.TypeIs o T/\wpAny (aQ prog w) A (iq o i) Q E g) E u) E s) :
  wpAny (aQ prog w) A (eval (.Subscript j d pos) env) Q E s:=by
 refine Subscript_ (dR h (λo u e=>dR e (λi g a=>?_) λ_ _ x=>x) λ_ _ x=>x);obtain⟨f,a⟩:=a;unfold tR;refine wpAny_bind ?_;rw[getitemInPython_of_ne f.not_modules];refine wpAny_bind (wpAny_specialOf f k ?_);have fin:wpAny (aQ prog w) A (pL d aD o i) (λr b=>wpAny (aQ prog w) A (letTemporaryGo j o r >>= λ_=>pure r) Q E b) E g:=by
  rw[hs o i];exact wpAny_operating (dR a (λr b c=>wpAny_bind (wpAny_letTemporaryGo (wpAny_pure c))) λ_ _ x=>x)
 first
  |exact wpAny_pure (wpAny_bind fin)
  |exact wpAny_bind (wpAny_pure (wpAny_bind fin))
  |exact wpAny_bind fin
theorem Jz{X:Cx}{b:List (aE×bB)}{c:St}{H:Hp}{s:aU}{a:aE}{y:V}{o:Option V}(I:Inv X b c H s)(g:fM H a y o):s.TypeIs (.ref a) "dict":=by
 obtain⟨d,k,e,_,_⟩:=g;obtain⟨_,_,f,_,dd⟩:=kg I.hok e;exact dd.typeIs
noncomputable def MQ(d ty:TE):TE:=λb H Q=>d b H λx e=>ty b e λy c=>∃a v,x=.ref a/\fM c a y (aA v)/\Q v c
section
variable {X:Cx}{o i:aH}{pos:Pos}{td ty:TE}
theorem PP(n:X.A.units+1<cLine)(ho:PE X o td)(hi:PE X i ty)(hs:Az i):PE X (.Subscript o i pos) (MQ td ty):=by
 intro b s d H Q I h;refine WC PySem.F.slot_dict_getitem.lookup hs (a7 (ho b s d H _ I h) λu f ⟨x,t,q,k,m⟩=>a7 (hi b f d t _ q m) λC B ⟨y,r,e,j,a,v,ex,g,l⟩=>?_);subst ex;obtain rfl:u=cO a:=k;exact⟨Jz e g,U9 n e g j λw z p c=>⟨v,r,p,c,l⟩⟩
end
theorem To{P:b7}(h:aR)(a:ic<h.objs.size):aY P w H (h.push {cls:=.type "dict",data:=.dict #[]}) h.objs.size (.dK []):=
 ⟨f9 _,beq_eq_false_iff_ne.mpr (cE (c7 a)),[],.nil,DV h⟩
noncomputable def Nv:TE:=λ_ H Q=>∀p,H p=aF->Q (.ref p) (upd H p (.dK []))
section
variable {X:Cx}{pos:Pos}
theorem SN:PE X (.Dict [] [] pos) Nv:=λb s c H Q I h=>
 wpAny_Dict_empty ⟨.ref s.heap.objs.size,_,I.laid (a:=s.heap.objs.size) (o:=.dK []) (t':=s.toks) (λ_ _ q=>bP _ q) (bC _) (To s.heap I.big),rfl,h _ (I.hok.fresh (bC _))⟩
end
structure M1(X:Cx)(o:aH)(m:aG)(apos:Pos)(e:aH)(cpos:Pos):Prop where
 base:m_ o m X.env (eval o X.env)=eval o X.env
 few:((fN cpos (eF [e] X.env)).all (λx=>!x.1)&&(lF cpos (lJ [] X.env)).all (λx=>x.1.isSome)
  &&decide (([e]:List aH).length+([]:List iM).length+(if ([]:List iM).isEmpty then 0 else 1)<30))=aC
 line:(apos.endLine==cpos.line)=aC
 trees:fN cpos (eF [e] X.env)=[(aD,eval e X.env)]
end L2
namespace NH
open PySem PySem.Spec PyProof.Rows L2
noncomputable def zD(z:Key):List (Key×T)->Option T
 |[]=>aF
 |p::r=>if p.1=z then aA p.2 else zD z r
noncomputable def k_ (z:Key)(t:T)(a:List (Key×T)):List (Key×T):=
 if (a.any λb=>decide (b.1=z))=aC then a.map (λb=>if b.1=z then (b.1,t) else b) else a++[(z,t)]
noncomputable abbrev VS:De:=λ_ a=>.ok (.mut a.length) (a++[.dic []])
noncomputable abbrev M6:De:=λ_ a=>.ok (.dic []) a
noncomputable abbrev zaV(o f g:De):De:=λd h=>(o d h).bind λj c=>match j with
 |.mut i=>λK Z=>(∃a,c[i]?=aA (.lst a))/\f d c (λl e=>g d e (λt b=>match l with
  |.int k=>∃a,b[i]?=aA (.lst a)/\(0<=k/\k<=a.length/\a.length<aZ)/\K .non (b.set i (.lst (a.take k.toNat++t::a.drop k.toNat)))
  |_=>False) Z) Z
 |_=>.st
section
variable {X:Cx}{D:DP}{W:XW}{σ:St}{H:Hp}{φ α:List aE}{τ:Sl}{μ:aK}{pos:Pos}
theorem Jt:∀{a:List (Key×T)} {b:List (Key×V)},bI D φ α H a b->(b.any λg=>decide (g.1=z))=(a.any λg=>decide (g.1=z))
 |[],_,h=>by cases h;rfl
 |p::r,_,h=>by
  obtain⟨v,q,rfl,d,l⟩:=h;rw[n_,n_,Jt l]
theorem zY:∀{a:List (Key×T)} {b:List (Key×V)},bI D φ α H a b->b.length=a.length
 |[],_,h=>by cases h;rfl
 |p::r,_,h=>by
  obtain⟨v,q,rfl,d,l⟩:=h;rw[eZ,eZ,zY l]
theorem ZX(dt:a_ D φ α H t w):∀{a:List (Key×T)} {b:List (Key×V)},bI D φ α H a b->bI D φ α H (a.map λg=>if g.1=z then (g.1,t) else g) (b.map λg=>if g.1=z then (g.1,w) else g)
 |[],_,h=>by cases h;rfl
 |p::r,_,h=>by
  obtain⟨v,q,rfl,d,l⟩:=h;rw[dW,dW];by_cases e:p.1=z
  ·rw[if_pos e,if_pos (show (p.1,v).1=z from e)];exact⟨w,_,rfl,dt,ZX dt l⟩
  ·rw[if_neg e,if_neg (show ¬(p.1,v).1=z from e)];exact⟨v,_,rfl,d,ZX dt l⟩
theorem QO(dt:a_ D φ α H t w):∀{a:List (Key×T)} {b:List (Key×V)},bI D φ α H a b->bI D φ α H (a++[(z,t)]) (b++[(z,w)])
 |[],_,h=>by cases h;exact⟨w,[],rfl,dt,rfl⟩
 |p::r,_,h=>by
  obtain⟨v,q,rfl,d,l⟩:=h;exact⟨v,_,rfl,d,QO dt l⟩
theorem Jo(dt:a_ D φ α H t w)(h:bI D φ α H d g):bI D φ α H (k_ z t d) (eH g z w):=by
 unfold k_ eH;rw[Jt h];split
 ·exact ZX dt h
 ·exact QO dt h
theorem P8:PE X (.Dict [] [] pos) (aX D W VS):=by
 refine PE.mono SN ?_;rintro e H Q ⟨c,g,d,f,h,a,p⟩;intro x b;refine aJ.ok p (j7 b) (a.layO b ⟨[],z4,rfl⟩) _ ⟨x,?_,rfl⟩;rw[←a.len,fT (bC _)];simp
end
noncomputable def zaQ:ER:=λ_ _ e=>match e with
 |.Dict [] [] _=>aA M6
 |_=>aF
noncomputable def K8:ER:=λ_ _ e=>match e with
 |.Dict [] [] _=>aA VS
 |_=>aF
theorem YV:cY D K8:=by
 intro r H X W a k e d C h;unfold K8 at h;split at h
 ·cases h;exact P8
 ·cases h
end NH
namespace NH.P
open PySem L2 NH
@[reducible] noncomputable def ZJ:List Ds:=[(zv (yk (yn [2] (eV 0)) (Av (yn [1] (eV 0)))))]
noncomputable def zU:Fn:=bM 1 0 ZJ
@[reducible] noncomputable def yw:List Ds:=[(bW (gC (qF (tE (yn [3] (eV 0)))) (qF (tE (nJ (eC (.int 1)) [(.LtE,(cS kN (eV 0))),(.LtE,(eC (.int 8)))])))) [(zv (eC (.bl aD)))] []),(zv (cS VH (qT 1 [] (.one 0) (iE (eV 0)) [] (zy .In (eV 0) (eC (.str "abcdefghijklmnopqrstuvwxyz"))))))]
noncomputable def w4:Fn:=bM 1 0 yw
@[reducible] noncomputable def Qy:List Ds:=[(zv (yk (z9 zU [(eV 0)]) (zy .GtE (eV 0) (eC (.int 1)))))]
noncomputable def vf:Fn:=bM 1 0 Qy
@[reducible] noncomputable def uK:List Ds:=[(zv (yk (z9 zU [(eV 0)]) (nJ (eC (.int 0)) [(.LtE,(eV 0)),(.Lt,(eV 1))])))]
noncomputable def qS:Fn:=bM 2 0 uK
@[reducible] noncomputable def xy:List Ds:=[(bW (qF (x_ (tE (z9 vf [(eV 1)])) (x_ (tE (z9 vf [(eV 2)])) (tE (z9 vf [(eV 3)]))))) [(zM 12 [(eC (.str "a shape has three whole numbers from 1 on"))])] []),(zK (eV 0) 0 (eV 1)),(zK (eV 0) 1 (eV 2)),(zK (eV 0) 2 (eV 3))]
noncomputable def wW:Fn:=bM 4 0 xy
@[reducible] noncomputable def ZK:List Ds:=[(zv (zd .Mult (zd .Mult (ze (eV 0) 0) (ze (eV 0) 1)) (ze (eV 0) 2)))]
noncomputable def xK:Fn:=bM 1 0 ZK
@[reducible] noncomputable def QQ:List Ds:=[(zv (z9 qS [(eV 1),(z9 xK [(eV 0)])]))]
noncomputable def ue:Fn:=bM 2 0 QQ
@[reducible] noncomputable def xl:List Ds:=[(bW (qF (tE (z9 ue [(eV 0),(eV 1)]))) [(zM 13 [(eC (.str "no name of the shape"))])] [])]
noncomputable def vM:Fn:=bM 2 0 xl
@[reducible] noncomputable def yN:List Ds:=[(bW (tE (zy .Lt (eV 1) (cS kN (eV 0)))) [(zv (bD (eV 0) (eV 1)))] []),(zv (eC (.int 0)))]
noncomputable def wD:Fn:=bM 2 0 yN
@[reducible] noncomputable def Zq:List Ds:=[(zF (z9 vM [(eV 0),(eV 1)])),(zp 2 (zd .Mod (eV 1) (ze (eV 0) 2))),(zp 3 (zd .FloorDiv (eV 1) (ze (eV 0) 2))),(zv (v5 [(zd .FloorDiv (eV 3) (ze (eV 0) 1)),(zd .Mod (eV 3) (ze (eV 0) 1)),(eV 2)]))]
noncomputable def jG:Fn:=bM 2 2 Zq
end NH.P
namespace NH
open PySem PySem.Spec PyProof.Rows L2
abbrev nH:De:=λ_ _=>RE.st
def FZ:ER:=λ_ _ _=>aA nH
theorem R5:cY D FZ:=by
 intro r H X W j k e d C h;cases h;rintro a s f H Q I ⟨b,i,c,g,l,m,p⟩;exact p.elim
section
noncomputable def gP(h:aR)(v:aB)(ns:List Int):Prop:=∃a b,v=.ref a/\io h a b/\dY b.toList ns
theorem gP.keep(r:gP h v ns)(k:∀b o,h.get? b=aA o->h'.get? b=aA o):gP h' v ns:=by
 obtain⟨a,items,e,⟨o,ho,c⟩,hi⟩:=r;exact⟨a,items,e,⟨o,k _ _ ho,c⟩,hi⟩
end
def rowsOf:List T->Option (List (List Int))
 |[]=>aA []
 |.tup a::r=>(bN a).bind λb=>(rowsOf r).map (b::·)
 |_::_=>aF
theorem uJ:∀{xs:List T} {a:List (List Int)},rowsOf xs=aA a->a.length=xs.length
 |[],a,h=>by cases h;rfl
 |.tup c::r,a,h=>by
  obtain⟨d,e,h⟩:=Af.mp h;obtain⟨q,b,rfl⟩:=lX.mp h;simp[uJ b]
theorem Qw:∀{ts:List T} {ns:List Int},bN ts=aA ns->ts=ns.map T.int
 |[],ns,h=>by cases h;rfl
 |.int i::r,ns,h=>by
  obtain⟨q,a,rfl⟩:=lX.mp h;rw[Qw a];rfl
theorem Qx:∀{xs:List T} {a:List (List Int)} {i:Nat} {ns:List Int},rowsOf xs=aA a->a[i]?=aA ns->xs[i]?=aA (.tup (ns.map T.int))
 |[],a,i,ns,h,e=>by cases h;simp at e
 |.tup f::r,a,i,ns,h,e=>by
  obtain⟨b,d,h⟩:=Af.mp h;obtain⟨q,c,rfl⟩:=lX.mp h;cases i with
  |zero=>
   have e:b=ns:=by simpa using e
   subst e;rw[Qw d];rfl
  |succ i=>exact Qx (i:=i) c (by simpa using e)
section
variable {X:Cx}{D:DP}{k:Nat}{pins:List (aE×bB)}{s:Shared}{σ:St}{H:Hp}{φ α:List aE}{μ:aK}
theorem xv(I:Inv X pins σ H s)(h1:s.heap.get? q=aA o)(h2:H q=aF)(d:q≠X.env.locals)(c:q∉X.fs)(b:∀v,o.data≠.cell v):Inv X ((q,o)::pins) σ H s:=
 ⟨I.ok,I.os,I.bare,I.base,I.loc,I.cell,I.free,I.freeC,λp a=>by
  rcases b_.mp a with z|z
  ·exact I.pin p (d_ _ z)
  ·rcases cC.mp z with rfl|z
   ·exact⟨h1,h2,d,c,b⟩
   ·exact I.pin p (dF _ z),I.hok,I.len⟩
theorem w6(I:Inv X (p::pins) σ H s):Inv X pins σ H s:=
 ⟨I.ok,I.os,I.bare,I.base,I.loc,I.cell,I.free,I.freeC,λp a=>by
  rcases b_.mp a with z|z
  ·exact I.pin p (d_ _ z)
  ·exact I.pin p (dF _ (dQ _ z)),I.hok,I.len⟩
theorem Yz{P:b7}(r:h.CodeRec (.ref c) qn):aY P w H h c (.ext (qE c qn)):=by
 obtain⟨k,a,e,f,d,b,i,g⟩:=id r;cases d;refine⟨r,⟨a,b⟩,λm l p j=>?_⟩;obtain⟨k,a,e,f,d,b,i,g⟩:=p;cases d;exact⟨c,a,e,f,rfl,j _ b,i,g⟩
theorem xR{a b:aB}:∀(l:List aB),TriplesOk l->∀{x y:Int} {t u:Tok},TriplesOk (l++[.int x t,.int y u,c])
 |[],_,_,_,_,_=>trivial
 |[_],h,_,_,_,_=>by simp[TriplesOk] at h
 |[_,_],h,_,_,_,_=>by simp[TriplesOk] at h
 |p::q::r::l,h,x,y,t,u=>by
  cases p with
  |int _ _=>
   cases q with
   |int _ _=>exact xR (a:=a) (b:=b) l h
   |_=>exact h.elim
  |_=>exact h.elim
theorem KL:∀(l:List aB),TriplesOk l->i6 pos l=aF->i6 p (l++[cW pos.line,cW pos.col,c])=aA c\/i6 p (l++[cW pos.line,cW pos.col,c])=i6 p l:=by
 intro l h d;fun_induction TriplesOk l with
 |case1=>
  by_cases q:((pos.line:Int)==(p.line:Int)&&(pos.col:Int)==(p.col:Int))=aC
  ·left;simp only[DU,i6,cW];rw[if_pos q]
  ·right;simp only[DU,i6,cW];rw[if_neg q]
 |case2 a t b u x rest e=>
  simp only[rf,i6] at d ⊢
  split at d
  ·cases d
  ·split
   ·exact .inr rfl
   ·exact e h d
 |case3 l g f=>exact h.elim
theorem Ja{t0:Sem aB}{ob:aE->aB->aB->bB}{pos:Pos}{i j:Nat}{qn:aG}{c P:aE}{Q:aB->aU->Prop}(I:Inv X pins σ H s)(l:aM D φ α H μ)(hi:μ[i]?=aA (.tab j)){x:List Pos}(hD:D.tabs j=aA (P,x,qn))(hpp:pos∈x)
  (hC:lQ X.base c P) (hB:X.base.BuiltinsAt X.mg P) (E:∀a b d,(ob a b d).isFreed=aD/\∀v,(ob a b d).data≠.cell v)
  (V:∀{ps:Array aB} {Q:aB->aU->Prop},s.heap.Ns bR X.mg->lQ s.heap c P->s.heap.get? P=aA (mo ps)->TriplesOk ps.toList->i6 pos ps.toList=aF->bR≠P->s.heap.BuiltinsAt X.mg P->(∀(f:aE) (g doc:aB) (h':aR) (tk:Tok),Heap.ExtBut P s.heap h'->s.heap.objs.size<=f->f<h'.objs.size->h'.CodeRec (.ref f) qn->h'.get? P=aA (mo (ps++#[cW pos.line,cW pos.col,.ref f]))->Q (.ref h'.objs.size) {s with heap:=h'.push (ob f g doc),toks:=tk})->wpAny (aQ X.prog X.w) X.A t0 Q X.xe s)
  (hit:∀{ps:Array aB} {f:aE} {Q:aB->aU->Prop},s.heap.Ns bR X.mg->lQ s.heap c P->s.heap.get? P=aA (mo ps)->TriplesOk ps.toList->i6 pos ps.toList=aA (.ref f)->s.heap.BuiltinsAt X.mg P->(∀(g doc:aB) (h':aR) (tk:Tok),(∀b o,s.heap.get? b=aA o->h'.get? b=aA o)->s.heap.objs.size<=h'.objs.size->Q (.ref h'.objs.size) {s with heap:=h'.push (ob f g doc),toks:=tk})->wpAny (aQ X.prog X.w) X.A t0 Q X.xe s)
  (h:∀q f g doc r s',Inv X ((q,ob f g doc)::pins) σ r s'->aP α H α r->aM D φ α r μ->f∉α->r f=aA (.ext (qE f qn))->(f∉φ/\dL X r q/\∀p∈pins,p.1≠q)->Q (.ref q) s') :
  wpAny (aQ X.prog X.w) X.A t0 Q X.xe s:=by
 have hia:∃a,α[i]?=aA a:=⟨_,eQ (by rw[l.len];exact (bH.mp hi).1)⟩;obtain⟨a,ha⟩:=hia;obtain⟨pos',qn',ps,hD',t,C,F⟩:=l.ob i a _ ha hi;rw[hD] at hD';cases hD';have N:=F pos hpp;have hP:s.heap.get? P=aA (mo ps):=I.hok P _ t;have hg:s.heap.Ns bR X.mg:=I.ok.mod.glob.keeps I.bk;have hCs:lQ s.heap c P:=hC.keeps I.bk;have hBs:s.heap.BuiltinsAt X.mg P:=by
  obtain⟨bm,o,b1,b2,b3,b4,b5,b6⟩:=hB;exact⟨bm,o,b1,b2,b3,b4,I.bk _ _ b5,b6⟩
 have hPa:P∈α:=cD ha;have nL:X.env.locals≠P:=λz=>by have:=I.free;rw[z,t] at this;cases this
 rcases N with B|⟨f,hhit,n1,n2,hc'⟩
 ·have hgP:bR≠P:=λz=>by
   obtain⟨o,es,ep,e,hd,_⟩:=hg;rw[z,hP] at e;cases e;cases hd
  refine V hg hCs hP C B hgP hBs λf g doc h' tk Y M hlt Z L=>?_;have k:H f=aF:=I.hok.fresh M;have hcP:f≠P:=λz=>by rw[z,t] at k;cases k
  have K:∀{b o},s.heap.get? b=aA o->b≠f:=λ{b o} e z=>absurd (dM (bY e) M) (by rw[z];exact iQ _);generalize O:upd (upd H f (.ext (qE f qn))) P (.tbl (ps++#[cW pos.line,cW pos.col,.ref f]))=r;have HP:r P=aA (.tbl (ps++#[cW pos.line,cW pos.col,.ref f])):=by rw[←O];exact z4
  have Hc:r f=aA (.ext (qE f qn)):=by rw[←O,z8 hcP];exact z4
  have Ho:∀b,b≠P->b≠f->r b=H b:=λb h1 h2=>by rw[←O,z8 h1,z8 h2]
  have G:∀b o,b≠P->H b=aA o->r b=aA o:=λb o h1 e=>by rw[Ho b h1 (zN e k)];exact e
  have U:(h'.push (ob f g doc)).CodeRec (.ref f) qn:=by
   obtain⟨c2,oc,vs,tq,S,e2,e3⟩:=Z;exact⟨c2,oc,vs,tq,S,bP _ e2,e3⟩
  have J:Inv X pins σ r {s with heap:=h'.push (ob f g doc),toks:=tk}:=by
   refine I.step (g':=s.gens) (d':=s.drawn) (ch:=[]) (λ_ z=>nomatch z) (λb o _ _ _ e n=>?_) (λb o _ _ _ e n=>⟨o.slots,?_⟩) (λb o _ e n=>?_) (λb o _ e=>?_) (λb xs e=>?_) (λb o u e=>?_) (λb qs e=>?_) (λm hm=>?_) (λb u e=>?_) I.bare
   ·exact bP _ (Y b o (λz=>by rw[z,t] at n;cases n) e)
   ·exact bP _ (Y b o (λz=>by rw[z,t] at n;cases n) e)
   ·rw[Ho b (λz=>by rw[z,t] at n;cases n) (K e)];exact n
   ·by_cases z:b=P
    ·rw[z];exact⟨_,bP _ L⟩
    ·exact⟨o,bP _ (Y b o z e)⟩
   ·exact G b _ (λz=>by rw[z,t] at e;cases e) e
   ·exact G b _ (λz=>by rw[z,t] at e;cases e) e
   ·by_cases z:b=P
    ·rw[z,t] at e;cases e;rw[z];exact⟨_,HP⟩
    ·exact⟨#[],by rw[G b _ z e];simp⟩
   ·exact (hm.extBut Y nL).push _
   ·by_cases z:b=P
    ·subst z;rw[HP] at e;cases e;exact bP _ L
    ·by_cases T:b=f
     ·subst T;rw[Hc] at e;cases e;exact Yz U
     ·rw[Ho b z T] at e;refine (I.hok b u e).stay (λc v R q=>?_) (λc q=>?_) λc xs q=>?_
      ·refine bP _ (Y c v (λw=>?_) q);rcases R with R|R
       ·exact z (R▸w)
       ·rw[w,t] at R;cases R
      ·exact G c _ (λw=>by rw[w,t] at q;cases q) q
      ·exact G c _ (λw=>by rw[w,t] at q;cases q) q
  have fresh:s.heap.objs.size<=h'.objs.size:=mq (om M hlt);have hqP:h'.objs.size≠P:=λz=>absurd (bY L) (by rw[←z];exact iQ _);have hqc:h'.objs.size≠f:=gU hlt;have nq:r h'.objs.size=aF:=by rw[Ho _ hqP hqc];exact I.hok.fresh fresh
  have st:aP α H α r:=⟨⟨[],by simp,by simp⟩,λb o n e=>G b o (λz=>n (z▸hPa)) e,λb e=>by
   by_cases z:b=P
   ·rw[z,HP] at e;cases e
   ·by_cases T:b=f
    ·rw[T];exact k
    ·rw[Ho b z T] at e;exact e⟩
  refine h h'.objs.size f g doc r _ (xv J (dP _ (E _ _ _).1) nq (gU (dM I.lt fresh)) (I.nofs fresh) (E _ _ _).2) st ?_ (zi l k) Hc ⟨zh l k,kl (I.fpOk fresh nq)⟩;refine⟨l.len,l.nd,l.dis,λb hb=>?_,λi' a' o' S e2=>?_⟩
  ·obtain⟨u,hu,n⟩:=l.phi b hb;exact⟨u,st.keep b u (λz=>l.dis b z hb) hu,n⟩
  ·by_cases z:i'=i
   ·subst z;rw[ha] at S;cases S;rw[hi] at e2;cases e2;refine⟨x,qn,_,hD,HP,?_,λp2 hp2=>?_⟩
    ·rw[EV];exact xR (a:=.none) (b:=.none) _ C
    ·rw[EV];rcases KL (p:=p2) (c:=.ref f) _ C B with w|w
     ·exact .inr ⟨f,w,zh l k,zi l k,Hc⟩
     ·rw[show (#[cW pos.line,cW pos.col,.ref f]:Array aB).toList=[cW pos.line,cW pos.col,.ref f] from rfl,w];refine (F p2 hp2).imp id λ⟨c2,k1,k2,k3,k4⟩=>⟨c2,k1,k2,k3,?_⟩;exact G c2 _ (λz=>k3 (z▸hPa)) k4
   ·have ne:a'≠P:=λw=>by
     obtain⟨q1,q2⟩:=bH.mp S;obtain⟨q3,q4⟩:=bH.mp ha;exact z ((rh l.nd).mp (q2.trans (w.trans q4.symm)))
    have d:=l.ob i' a' o' S e2;obtain⟨u,hu,_⟩:=d.some;exact d7.step st ((G a' u ne hu).trans hu.symm) d
 ·refine hit hg hCs hP C hhit hBs λg doc h' tk hk y=>?_;have J:Inv X pins σ H {s with heap:=h'.push (ob f g doc),toks:=tk}:=I.kept λb u e=>bP _ (hk b u e);exact h h'.objs.size f g doc H _ (xv J (dP _ (E _ _ _).1) (I.hok.fresh y) (gU (dM I.lt y)) (I.nofs y) (E _ _ _).2) (aP.refl _ _) l n2 hc' ⟨n1,kl (I.fpOk y (I.hok.fresh y))⟩
theorem VX{params:Arguments}{body:aH}{scope:Scope}{pos:Pos}{line i j:Nat}{qn:aG}{c P:aE}{Q:aB->aU->Prop}(I:Inv X pins σ H s)(C:aM D φ α H μ)(hi:μ[i]?=aA (.tab j)){b:List Pos}(G:D.tabs j=aA (P,b,qn))(o:pos∈b)
  (a:X.env.code=.ref c) (J:lQ X.base c P) (K:X.base.BuiltinsAt X.mg P) {cl:List (aG×aE)} (m:mS scope X.env=pure cl)
  (h:∀q g d r u,Inv X ((q,lT "<lambda>" qn params body scope cl ((X.mg "__name__").getD .none) g d)::pins) σ r u->aP α H α r->aM D φ α r μ->g∉α->r g=aA (.ext (qE g qn))->(g∉φ/\dL X r q/\∀p∈pins,p.1≠q)->Q (.ref q) u) :
  wpAny (aQ X.prog X.w) X.A (pX "<lambda>" qn params (.expr body) scope X.env [] [] [] pos line) Q X.xe s:=by
 exact Ja (ob:=λg d _=>lT "<lambda>" qn params body scope cl ((X.mg "__name__").getD .none) g d) I C hi G o J K (λ_ _ _=>⟨rfl,λv z=>by cases z⟩) (λx f y e E t l k=>PySem.W.kla_makeFunction (mg:=X.mg) m I.ok.glob x a f y e E t l λg d B n=>k g d .none B n) (λx f y e F l k=>PySem.W.kla_makeFunctionHit (mg:=X.mg) m I.ok.glob x a f y e F l λd B n=>k d .none B n) λq g d _ r u=>h q g d r u
theorem TF{name:aG}{params:Arguments}{body:List bE}{scope:Scope}{pos:Pos}{line i j:Nat}{qn:aG}{c P:aE}{Q:aB->aU->Prop}(I:Inv X pins σ H s)(x:aM D φ α H μ)(hi:μ[i]?=aA (.tab j)){b:List Pos}(E:D.tabs j=aA (P,b,qn))(m:pos∈b)
  (a:X.env.code=.ref c) (F:lQ X.base c P) (G:X.base.BuiltinsAt X.mg P) {cl:List (aG×aE)} (l:mS scope X.env=pure cl)
  (h:∀q r g doc u B,Inv X ((q,DH name qn params body scope cl doc ((X.mg "__name__").getD .none) r g)::pins) σ u B->aP α H α u->aM D φ α u μ->r∉α->u r=aA (.ext (qE r qn))->(r∉φ/\dL X u q/\∀p∈pins,p.1≠q)->Q (.ref q) B) :
  wpAny (aQ X.prog X.w) X.A (pX name qn params (.stmts body) scope X.env [] [] [] pos line) Q X.xe s:=
 Ja (ob:=λr g doc=>DH name qn params body scope cl doc ((X.mg "__name__").getD .none) r g) I x hi E m F G (λ_ _ _=>⟨rfl,λv z=>by cases z⟩) (λo e t d y n f k=>PySem.W.makeFunction_K (mg:=X.mg) l I.ok.glob o a e t d y n f k) (λo e t d C f k=>PySem.W.makeFunction_hit (mg:=X.mg) l I.ok.glob o a e t d C f k) h
end
section
variable {X:Cx}{D:DP}{W:XW}{Γ:Cn}{k:Nat}
noncomputable abbrev xH(Γ:Cn)(x:aG)(G:List aG):Cn:={Γ with N:=[x],G:=G,U:=G,cel:=[],own:=[],lam:=aF,fz:=[]}
noncomputable def UN:GM->Bool
 |.cst _=>aC
 |.none=>aC
 |.xcl _=>aC
 |_=>aD
theorem cB.lvl{P:b7}{K:bK}(h:UN g=aC)(q:cB D P w K mg base j x g):cB D P w K mg base k x g:=by
 cases g<;>first|exact q|cases h
theorem SS{params:Arguments}{body:aH} 
    (C:Ck D W Γ X k) (hc:Γ.calm=aC) (hG:G.all (λy=>Γ.U.contains y&&UN (Γ.gl y))=aC) (hs:xE (xH Γ x G) [x] scope=aC) (hE:∀Y W k, Ck D W (xH Γ x G) Y k->PE Y body (aX D W g)) (L:∀(s:aU) (u:aB), lB s (tL "<lambda>" qn params body scope [] pm (.ref c') ctv) ⟨[u], []⟩ [(x, u)])
    (T:bZ (k0+1) A) (e0:dI X.prog X.w X.K X.mg X.base A outer s H) (ho:s.heap.get? q=aA (lT "<lambda>" qn params body scope [] pm c' ctv)) (O:s.heap.CodeRec (.ref c') qn) (r:RelV v u) (d:a_ D φ α H t v) (mr:aM D φ α H μ)
 (p : g [aA t] μ K0 (fun _ _ _ => False)) (V : ∀ t' μ', K0 t' μ' -> ∀ M H' v', aP α H M H' -> aM D φ M H' μ' -> a_ D φ M H' t' v' -> Q v' H') :
    fP (aQ X.prog X.w) A (.call (.ref q) ⟨[u], []⟩) (CR (λ_ _ _ _ _ _=>False) outer X.prog X.w H s Q (λ_ _ _=>False)) s:=by
  simp only[xE, cI, fQ, beq_iff_eq, ng, decide_eq_true_eq, bne_iff_ne, ne_eq] at hs;obtain⟨⟨⟨⟨⟨⟨⟨⟨⟨h1, h2⟩, h3⟩, h4⟩, h5⟩, h6⟩, Z⟩, h8⟩, h9⟩, h10⟩:=hs;have l:∀y∈[x], scope.names.lookup y=aA .local:=λy j=>by
    have:=(Z y j).2;simpa using this
  have S:cQ [x] [x] scope:=⟨h1, h2, h3, h4, rfl, λy j=>.inl (l y j), h6⟩;have R:s.heap.NoLimit:=e0.mod.nolimit.keeps λb o e=>(e0.bs b o e).1;refine Ez (fd:=tL "<lambda>" qn params body scope [] pm (.ref c') ctv) T.depth ho rfl S.co S.gen rfl O (L s u _ _ _ _ (Ap S.kind (λy j=>?_) λenv he s1 y=>?_))
  · obtain ⟨y, w⟩ := y;have:y=x:=by simpa using congrArg Prod.fst (bU.mp j)
    subst this;exact .inl (l y (by simp))
  subst he;refine⟨R.keeps y.toInCall.keep, Ey ?_⟩;have c:=yj (fnb:=λ_=>aC) (CX:=λ_ _ _ _ _ _=>False) (E:=λ_ _ _=>False) (f:=q) (cd:=.ref c') (qual:=qn) (A:=A) (vs:=[v]) (us:=[u]) S T.hd e0 rfl (.cons r .nil) y;generalize P:({JB (λ_ _ _ _ _ _=>False) X.prog X.w X.K X.mg X.base [x] qn scope q (.ref c') A outer s H (λ_ _ _=>False) with xe:=λ_ _=>False}:Cx)=Y;have I:Inv Y [] (start [x] [v]) H s1:=by
    subst P;exact⟨⟨c.ok.mod, c.ok.kind, c.ok.glob, c.ok.blt, c.ok.above, c.ok.inj, c.ok.has, c.ok.cab, c.ok.hd, c.ok.frames, c.ok.stk, c.ok.exf, c.ok.bs, c.ok.bsz, c.ok.noex, c.ok.exfs, c.ok.funs, c.ok.frf⟩, c.os, c.bare, c.base, c.loc, c.cell, c.free, c.freeC, c.pin, c.hok, c.len⟩
  have F:lp Y (f8 qn scope s.heap.objs.size q (.ref c')) outer s.heap.objs.size:=by rw[←P];exact⟨rfl, rfl, rfl⟩
  have n:=T.deeper (f8 qn scope s.heap.objs.size q (.ref c'));have C2:Ck D o0 (xH Γ x G) Y k0:=by
    subst P;have N:∀y∈G, cB D X.prog X.w X.K X.mg X.base k0 y (Γ.gl y)/\(y==("__debug__":aG))=aD:=λy j=>by
      have h:=fQ.mp hG y j;simp only[cI] at h;have q:=C.glU y (by simpa using h.1);exact⟨cB.lvl h.2 q.1, q.2⟩
    exact { hK := C.hK, hN := rfl, nd := h4, vis := fun y j => .inl (l y j), dbg := fun y j => ⟨beq_eq_false_iff_ne.mpr (Z y j).1.1, beq_eq_false_iff_ne.mpr (Z y j).1.2⟩,
            dbG:=λy j=>(N y j).2, glb:=λy j=>(h8 y j).2, glo:=λy j=>(N y j).1, glU:=N,
            cel:=λy j=>absurd j (by simp), isi:=C.isi, fld:=C.fld, xcx:=C.xcx, ocx:=C.ocx, clv:=C.clv, clm:=λ_=>rfl, rom:=λ_=>n, rmh:=⟨n.dp, n.un⟩, xe:=(λe s p=>by obtain⟨_, _, _, _, _, _, _, _, _, _, _, _, _, z⟩:=p;exact z), frm:=⟨_, _, _, F.stk, F.f0, F.fe⟩, lam:=dC.no rfl, kfz:=(λh=>by cases h)}
  have sr:bA D φ α H [aA t] (start [x] [v]):=⟨rfl, λi t' e=>by
    cases i with
    |zero=>
      have:t=t':=by simpa using e
      subst this;exact⟨v, rfl, d⟩
    |succ i=>simp at e⟩
  have B:=hE Y o0 k0 C2 [] s1 _ H Q I ⟨φ, α, [aA t], μ, sr, mr, _, _, p, λa μ' e M H' st m v' dv=>V a μ' e M H' v' st m dv, λ_ _ _ z=>z.elim⟩;have XA:Y.A=A.deeper (f8 qn scope s.heap.objs.size q (.ref c')):=by rw[←P];rfl
  have Xp:Y.prog=X.prog/\Y.w=X.w/\Y.env=f8 qn scope s.heap.objs.size q (.ref c')/\(∀e s, Y.xe e s->False)/\Y.fs=eY outer/\Y.H₀=H/\Y.s₀=s/\Y.ex=[]:=by
    subst P;exact⟨rfl, rfl, rfl, λ_ _ z=>z, rfl, rfl, rfl, rfl⟩
  obtain⟨x1, x2, x3, x4, x5, x6, x7, x8⟩:=Xp;rw[XA, x1, x2, x3] at B;refine dR B (λw s' hs=>?_) λe s' z=>(x4 e s' z).elim;obtain⟨v', H', J, rv, q'⟩:=hs;have b:=J.base;have o:=J.os;have hk:=J.hok;rw[x5, x6, x7, x8] at b;rw[x7] at o;rw[x1, x2] at hk;exact⟨v', H', o, J.bare, b, hk, rv, q'⟩
end
section
variable {prog:Program}{w:World}{A:Around}{E:aB->Shared->Prop}{s:Shared}{a:aE}{vs:List aB}{kz:List Int}{P:PySem.Fin->Shared->Prop}{J:Shared->Prop}{f:aB}
structure Keeps(J:Shared->Prop)(a kS:aE):Prop where
 set:∀s' b h' tk,J s'->(b=a\/b=kS)->fU b s'.heap h'->J {s' with heap:=h',toks:=tk}
 push:∀s' o,J s'->J {s' with heap:=s'.heap.push o}
theorem XZ {st:SortSt} (t:Keeps J a g) (y:J s) (v:s.heap.get? g=aA (bS "list" keys e)) (x:s.heap.get? a=aA (bS "list" #[] C)) (k:g≠a)
  (hk:dY keys.toList kz) (q:kz.length=vs.length) (z:vs.length<64) (p:(hX st).Perm (keys.zip vs.toArray)) (hs:SortedTo (hX st) (hX st).size) (l:failedOf st=aF)
  (h:∀r out c,J r->r.heap.get? a=aA (bS "list" out c)->KskOut aD kz vs out.toList->P (.done (.ret .none)) r) :
  wpAny (aQ prog w) A (ksk_tail a aD C (.ref g) st) P E s:=by
 have i:keys.size=vs.length:=by
  have B:=hk.length;rw[nu] at B;lia
 have f:(hX st).size=vs.length:=by rw[p.size_eq,DG,i,dJ,tj]
 have j:((hX st).map (·.2)).size=vs.length:=by rw[Array.size_map];exact f
 have o:=mw s.heap g (cX λ_=>(#[]:Array aB));have d:=(o.2 a k.symm).trans x;have u:=mw (s.heap.update g (cX λ_=>(#[]:Array aB))) a (cX λ_=>(hX st).map (·.2));obtain⟨n,m⟩:∃n,((s.heap.update g (cX λ_=>(#[]:Array aB))).update a (cX λ_=>(hX st).map (·.2))).get? a=aA (bS "list" ((hX st).map (·.2)) n):=⟨_,m4 d λ_=>(hX st).map (·.2)⟩;unfold ksk_tail;dsimp only;refine wpAny_bind (m6 v rfl ?_ (by rw[i,d5];lia) (f9 _));refine wpAny_bind (mY ?_);refine wpAny_bind (pI d rfl ?_);refine wpAny_bind (m6 d rfl ?_ (f9 _) (cL (i9 j) (by rw[d5];lia)));rw[l];simp only[bne_self_eq_false,oq,if_false];have F:=t.set s g _ s.toks y (.inr rfl) o;have D:=t.set _ a _ s.toks F (.inl rfl) u;refine wpAny_pure (h _ _ n D m ?_);have:=ksk_out (b:=aD) hk p hs;simpa using this
theorem Nu (v:Keeps J a u) (t:J s) (o:s.heap.get? u=aA (bS "list" keys e)) (p:s.heap.get? a=aA (bS "list" #[] D)) (m:u≠a)
  (hk:dY keys.toList kz) (d:kz.length=vs.length) (g:vs.length<64)
  (h:∀r out c,J r->r.heap.get? a=aA (bS "list" out c)->KskOut aD kz vs out.toList->P (.done (.ret .none)) r) :
  wpAny (aQ prog w) A (ksk_end a aD vs.toArray D (.ref u) keys) P E s:=by
 have l:keys.size=vs.length:=by
  have C:=hk.length;rw[nu] at C;lia
 have f:(keys.zip vs.toArray).size=vs.length:=by rw[DG,l,dJ,tj]
 unfold ksk_end;simp only[oq,if_false];by_cases k:vs.toArray.size<2
 ·rw[if_pos k,if_pos k];refine wpAny_bind (wpAny_pure ?_);rw[DT];refine wpAny_bind (wpAny_pure ?_);refine XZ (st:=DA general' (keys.zip vs.toArray) #[] 7 aF) v t o p m hk d g (DS _) ?_ rfl h;intro i j z y;have n:j<(keys.zip vs.toArray).size:=y;rw[f] at n;rw[dJ] at k;have:i=j:=by lia
  subst this;exact hZ _
 ·rw[if_neg k,if_neg k];rw[dJ] at k;rw[ksk_kind hk (by rw[l];lia)];refine wpAny_bind (wpAny_pure ?_)
  refine wpAny_bind (dR (wpS_sortRuns (a₀:=keys.zip vs.toArray) (st:=DA oneType' (keys.zip vs.toArray) #[] 7 aF)
   (Q:=λ_ b=>(hX b).Perm (keys.zip vs.toArray)/\failedOf b=aF/\SortedTo (hX b) (keys.zip vs.toArray).size)
   (ksk_intKeys hk) ⟨DS _,rfl,rfl,rfl⟩ (by rw[f];lia) (by rw[f];exact g) λb H G F=>⟨H,G,F⟩) ?_ λ_ _ e=>e)
  rintro⟨⟨⟩,b⟩ r ⟨rfl,q,B,x⟩;exact XZ v t o p m hk d g q (by rw[q.size_eq];exact x) B h
theorem Pj (y:Keeps J a (s.heap.objs.size+1)) (Y:J s) (ho:s.heap.get? a=aA (bS "list" vs.toArray n)) (C:kz.length=vs.length) (Q:vs.length<64)
  (turn:∀(i:Nat) (v:aB) (k:Int) (b:aU) (S:Array aB) (ca ck:Nat),vs[i]?=aA v->kz[i]?=aA k->J b->b.heap.get? a=aA (bS "list" #[] ca)->b.heap.get? (s.heap.objs.size+1)=aA (bS "list" S ck)->
   wpAny (aQ prog w) A (call f [v]) (λr I=>(∃g,r=.int k g)/\J I/\I.heap.get? a=aA (bS "list" #[] ca)/\I.heap.get? (s.heap.objs.size+1)=aA (bS "list" S ck)) (λ_ _=>False) b)
  (h:∀b out c,J b->b.heap.get? a=aA (bS "list" out c)->KskOut aD kz vs out.toList->P (.done (.ret .none)) b) :
  wpAny (aQ prog w) A (ksk_tree a f aD) P E s:=by
 have X:a<s.heap.objs.size:=bY ho;have G:=mw s.heap a (cX λ_=>(#[]:Array aB));obtain⟨u,B⟩:∃u,(s.heap.update a (cX λ_=>(#[]:Array aB))).get? a=aA (bS "list" #[] u):=⟨_,m4 ho λ_=>#[]⟩;unfold ksk_tree;refine wpAny_bind (ti ho rfl ?_);refine wpAny_bind (m6 ho rfl ?_ (by rw[dJ,d5];lia) (f9 _));refine wpAny_bind (pI B rfl ?_);refine wpAny_bind (wpAny_newTuple ?_ (by show vs.length<=_;rw[d5];lia));refine wpAny_bind (n9 ?_ (f9 _));refine wpAny_holding ?_;have U:(s.heap.update a (cX λ_=>(#[]:Array aB))).objs.size=s.heap.objs.size:=wl ..;have J1:=y.set s a _ s.toks Y (.inl rfl) G;have J2:=y.push _ (bS "tuple" vs.toArray 0) J1;have m:((s.heap.update a (cX λ_=>(#[]:Array aB))).push (bS "tuple" vs.toArray 0)).objs.size=s.heap.objs.size+1:=by rw[iy,U]
 have J3:=y.push _ (bS "list" #[] 0) J2;have g3:(((s.heap.update a (cX λ_=>(#[]:Array aB))).push (bS "tuple" vs.toArray 0)).push (bS "list" #[] 0)).get? a=aA (bS "list" #[] u):=bP _ (bP _ B);have gk:(((s.heap.update a (cX λ_=>(#[]:Array aB))).push (bS "tuple" vs.toArray 0)).push (bS "list" #[] 0)).get? ((s.heap.update a (cX λ_=>(#[]:Array aB))).push (bS "tuple" vs.toArray 0)).objs.size=aA (bS "list" #[] 0):=dP _ rfl;have o:((s.heap.update a (cX λ_=>(#[]:Array aB))).push (bS "tuple" vs.toArray 0)).objs.size≠a:=by rw[m];exact gU (og X)
 generalize V:((s.heap.update a (cX λ_=>(#[]:Array aB))).push (bS "tuple" vs.toArray 0)).objs.size=q at gk o m;rw[←m] at y turn;have F:wpAny (aQ prog w) A (ksk_rest a f aD vs.toArray u (.ref q)) P E {s with heap:=((s.heap.update a (cX λ_=>(#[]:Array aB))).push (bS "tuple" vs.toArray 0)).push (bS "list" #[] 0)}:=by
  unfold ksk_rest;refine wpAny_bind (mf ?_)
  first
   |rw[List.forIn_toArray]
   |(rw[←Et];simp only[List.toList_toArray])
   |rw[←Et]
  refine wpAny_bind (ksk_fold (λi b=>∃d e,J b/\b.heap.get? a=aA (bS "list" #[] u)/\b.heap.get? q=aA (bS "list" d e)/\dY d.toList (kz.take i)) vs 0 _ ⟨#[],0,J3,g3,gk,by simpa using IntsAre.nil⟩ ?step ?done);case step=>
   rintro j x b T ⟨d,e,p,L,H,t⟩
   simp only[Nat.zero_add] at t ⊢
   have hj:j<vs.length:=(bH.mp T).1
   obtain⟨k,D⟩:∃k,kz[j]?=aA k:=⟨_,eQ (by lia)⟩
   have hz:d.size<=vs.length:=by
    have h1:=t.length;rw[nu,gV] at h1;lia
   refine wpAny_bind (pT (dR (turn j x k b d u e T D p L H) (λv l W=>?_) λ_ _ Z=>Z.elim))
   obtain⟨⟨g,rfl⟩,O,K,z⟩:=W
   have G:=mw l.heap q (cX (·.push (.int k g)))
   obtain⟨R,N⟩:∃R,(l.heap.update q (cX (·.push (.int k g)))).get? q=aA (bS "list" (d.push (.int k g)) R):=⟨_,m4 z (·.push (.int k g))⟩
   have ek:kz.take (j+1)=kz.take j++[k]:=by rw[gB,D];simp
   have ea:(d.push (mi k g)).toList=d.toList++[mi k g]:=by simp
   refine wpAny_bind (m6 z rfl ?_ (by rw[d5];lia) (cL (i9 (Array.size_push ..)) (by rw[d5];lia)))
   exact wpAny_pure ⟨rfl,d.push (.int k g),R,y.set l q _ l.toks O (.inr rfl) G,(G.2 a o.symm).trans K,N,by rw[ea,ek];exact ksk_snoc t⟩
  case done=>
   rintro b ⟨d,e,p,L,H,t⟩
   have M:dY d.toList kz:=by
    have e3:kz.take (0+vs.length)=kz:=lb (by lia);rw[e3] at t;exact t
   refine wpAny_bind (ti H rfl ?_)
   exact Nu y p H L o M C Q h
 exact F
end
theorem VV{α β:Type}{f:α->β}{ps m:List β}(h:ps.Perm m):∀{l:List α},m=l.map f->∃d:List α,d.Perm l/\ps=d.map f:=by
 induction h with
 |nil=>intro l e;cases l with
  |nil=>exact⟨[],.refl _,rfl⟩
  |cons a r=>cases e
 |cons x p q=>intro l e;cases l with
  |nil=>cases e
  |cons a r=>
   rw[dW] at e
   injection e with n c
   obtain⟨d,k,j⟩:=q c
   exact⟨a::d,k.cons a,by rw[n,j];rfl⟩
 |swap x y l'=>intro l e;cases l with
  |nil=>cases e
  |cons a r=>cases r with
   |nil=>simp at e
   |cons b r=>
    rw[dW,dW] at e
    injection e with n c
    injection c with c u
    exact⟨b::a::r,.swap a b r,by rw[n,c,u];rfl⟩
 |trans p1 v i g=>
  intro l e;obtain⟨d,k,j⟩:=g e;obtain⟨o,t,s⟩:=i j;exact⟨o,t.trans k,s⟩
def fK (g:De)(μ:aK):List T->List Int->Prop
 |[],[]=>True
 |t::c,z::b=>g [aA t] μ (λd a=>d=.int z/\a=μ) (λ_ _ _=>False)/\fK g μ c b
 |_,_=>False
theorem fK.len{g:De}{μ:aK}:∀{ts:List T} {kz:List Int},fK g μ ts kz->kz.length=ts.length
 |[],[],_=>rfl
 |_::_,_::_,h=>by simp[fK.len h.2]
 |[],_::_,h=>h.elim
 |_::_,[],h=>h.elim
theorem fK.at{g:De}{μ:aK}:∀{ts:List T} {kz:List Int} {i:Nat} {t:T} {z:Int},fK g μ ts kz->ts[i]?=aA t->kz[i]?=aA z->g [aA t] μ (λt' j=>t'=.int z/\j=μ) (λ_ _ _=>False)
 |a::ts,b::zs,0,t,z,h,c,d=>by
  have c:aA a=aA t:=by simpa using c
  have d:aA b=aA z:=by simpa using d
  cases c;cases d;exact h.1
 |a::ts,b::zs,i+1,t,z,h,c,d=>fK.at (ts:=ts) (kz:=zs) (i:=i) h.2 (by simpa using c) (by simpa using d)
 |[],[],i,t,z,h,c,d=>by simp at c
 |[],_::_,_,_,_,h,_,_=>h.elim
 |_::_,[],_,_,_,h,_,_=>h.elim
abbrev Kv(j:Nat)(g:De)(xs:List T)(μ:aK):RE T:=λK _=>xs.length<64/\∃b,fK g μ xs b/\
 ∀a:List (Int×T),a.Perm (b.zip xs)->a.Pairwise (λp q=>p.1<=q.1)->K (.lst (a.map (·.2))) μ
abbrev Hw(j:Nat)(g:De)(t:T)(μ:aK):RE T:=λK Z=>(∃i:Nat,μ[i]?=aA (MO.tab j))/\(match t with
 |.lst a=>Kv j g a μ
 |.mut i=>λK Z=>∃a,μ[i]?=aA (MO.lst a)/\Kv j g a μ K Z
 |_=>.st) K Z
abbrev KP(j:Nat)(g f:De):De:=λa b=>(f a b).bind (Hw j g)
section
variable {X:Cx}{D:DP}{W:XW}{Γ:Cn}{k n:Nat}{pins:List (aE×bB)}{s:Shared}{σ:St}{H:Hp}{φ α:List aE}{τ:Sl}{μ:aK}
theorem TV{a:aE}{o:HO}(I:Inv X pins σ H s)(h0:H a=aF)(h1:X.s₀.heap.objs.size<=a)(h2:a≠X.env.locals)(i:∀x c,X.env.cells.lookup x=aA c->c≠a)(h:∀p∈X.pn++pins,p.1≠a)
  (new:aY X.prog X.w (upd H a o) s.heap a o):Inv X pins σ (upd H a o) s:=by
 have ne:∀{b u},H b=aA u->b≠a:=λ{b u} e z=>by rw[z,h0] at e;cases e
 refine I.step (h':=s.heap) (g':=s.gens) (t':=s.toks) (d':=s.drawn) (ch:=[a]) (λb d=>?_) (λb o _ _ _ e n=>e) (λb o _ _ _ e n=>⟨o.slots,e⟩) (λb o d e n=>?_) (λb o _ e=>⟨o,e⟩) (λb f e=>?_) (λb o u e=>?_) (λb j e=>?_) (λm g=>g) (λb u e=>?_) I.bare
 ·rw[bU.mp d];exact⟨.inr h1,h2,i,h⟩
 ·rw[z8 (λz=>d (by rw[z];simp))];exact n
 ·rw[z8 (ne e)];exact e
 ·rw[z8 (ne e)];exact e
 ·exact⟨#[],by rw[z8 (ne e),e];simp⟩
 ·by_cases z:b=a
  ·subst z;rw[z4] at e;cases e;exact new
  ·rw[z8 z] at e;refine (I.hok b u e).stay (λc v k q=>q) (λc q=>?_) λc f q=>?_
   ·rw[z8 (ne q)];exact q
   ·rw[z8 (ne q)];exact q
theorem JM{q F ad:aE}{x:aG}{G:List aG}{params:Arguments}{body:aH}{scope:Scope}{qn:aG}{pm M:aB}{g:De}{xs:List T}{vs:List V}{Q:VK}{j:Nat}
  (C:Ck D W Γ X k) (hk:2<=k) (hc:Γ.calm=aC) (hG:G.all (λy=>Γ.U.contains y&&UN (Γ.gl y))=aC) (hs:xE (xH Γ x G) [x] scope=aC) (hE:∀Y W k,Ck D W (xH Γ x G) Y k->PE Y body (aX D W g)) (hbind:∀(s:aU) (u:aB),lB s (tL "<lambda>" qn params body scope [] pm (.ref F) M) ⟨[u],[]⟩ [(x,u)])
  (I:Inv X ((q,lT "<lambda>" qn params body scope [] pm F M)::pins) σ H s) (mr:aM D φ α H μ) (hca:F∉α) (hcc:H F=aA (.ext (qE F qn))) (Z:Rd H ad (.lst vs)) (l:aN D φ α H xs vs) (p:aJ D W φ α H σ (RV D φ Q) (Kv j g xs μ)) :
  wpAny (aQ X.prog X.w) X.A (call (.builtin "sorted") [.ref ad] [(e_ "key",.ref q)]) (EP X pins σ Q) X.xe s:=by
 obtain⟨f,rv,pl,hz⟩:=I.list (.inl Z);obtain⟨K0,Z0,⟨h64,kz,hkr,hK⟩,k1,k2⟩:=p;have hlen:f.length<64:=by rw[←rv.length,←l.length];exact h64
 have hkl:kz.length=f.length:=by rw[hkr.len,←rv.length,←l.length]
 refine E6 kind_sorted plain_sorted entry_sorted (ksk_s1 _ _) ?_;unfold ir.«sorted»;refine wpAny_bind (m:=checkCount "sorted" 1 1 _) (wpAny_pure ?_);refine wpAny_bind (collect_list pl.isList ?_ (by rw[d5];lia));refine wpAny_bind (n9 ?_ (by rw[d5];lia));have S:((s.heap.push (bS "list" #[] 0)).update s.heap.objs.size (cX (·++f.toArray))).objs.size=s.heap.objs.size+1:=by
  rw[wl,iy]
 have hoL:(((s.heap.push (bS "list" #[] 0)).update s.heap.objs.size (cX (·++f.toArray))).push (bS "list" f.toArray 0)).get? (s.heap.objs.size+1)=aA (bS "list" f.toArray 0):=by
  rw[←S];exact dP _ rfl
 have keep:∀b o,s.heap.get? b=aA o->(((s.heap.push (bS "list" #[] 0)).update s.heap.objs.size (cX (·++f.toArray))).push (bS "list" f.toArray 0)).get? b=aA o:=λb o q=>by
  have hlt:b<s.heap.objs.size:=bY q;rw[DZ _ _ _ (by rw[S];exact c7 (og hlt)),ow _ _ _ _ (c7 hlt),DZ _ _ _ (c7 hlt)];exact q
 show wpAny _ _ _ _ _ {s with heap:=((s.heap.push (bS "list" #[] 0)).update s.heap.objs.size (cX (·++f.toArray))).push (bS "list" f.toArray 0)};rw[S];have hs1:((((s.heap.push (bS "list" #[] 0)).update s.heap.objs.size (cX (·++f.toArray))).push (bS "list" f.toArray 0))).objs.size=s.heap.objs.size+2:=by rw[iy,S]
 have I1:Inv X ((q,lT "<lambda>" qn params body scope [] pm F M)::pins) σ H {s with heap:=((s.heap.push (bS "list" #[] 0)).update s.heap.objs.size (cX (·++f.toArray))).push (bS "list" f.toArray 0)}:=I.kept (t':=s.toks) keep;generalize ((s.heap.push (bS "list" #[] 0)).update s.heap.objs.size (cX (·++f.toArray))).push (bS "list" f.toArray 0)=h1 at I1 hoL hs1 keep;generalize hca':s.heap.objs.size+1=a at hoL;have new:∀b,s.heap.objs.size<=b->H b=aF/\X.s₀.heap.objs.size<=b/\b≠X.env.locals/\(∀x c,X.env.cells.lookup x=aA c->c≠b)/\(∀p∈X.pn++pins,p.1≠b)/\b∉X.fs/\b≠q:=λb hb=>by
  have lt:∀{d o},s.heap.get? d=aA o->d≠b:=λ{d o} e z=>absurd (dM (bY e) hb) (by rw[z];exact iQ _);refine⟨I.hok.fresh hb,cL I.sz hb,gU (dM I.lt hb),λx c e=>?_,λp hp=>?_,I.nofs hb,?_⟩
  ·obtain⟨v,o,ho,_⟩:=I.cell x c e;exact lt ho
  ·exact lt ((w6 I).pin p hp).1
  ·exact (lt (I.pin _ (dF _ d9)).1).symm
 have na:=new a (by lia);have nk:=new (h1.objs.size+1) (by lia);let J:aU->Prop:=λK=>∃E,Inv X ((q,lT "<lambda>" qn params body scope [] pm F M)::pins) σ E K/\aP α H α E/\aM D φ α E μ/\E F=aA (.ext (qE F qn))/\E a=aF/\E (h1.objs.size+1)=aF;have KJ:Keeps J a (h1.objs.size+1):=by
  refine⟨λK b h' tk hj hb sb=>?_,λK o hj=>?_⟩
  ·obtain⟨E,N,J2,P,J4,O,J6⟩:=hj;have hb0:E b=aF:=by rcases hb with rfl|rfl<;>assumption
   have nb:=by
    have:=hb;exact show X.s₀.heap.objs.size<=b/\b≠X.env.locals/\(∀x c,X.env.cells.lookup x=aA c->c≠b)/\(∀p∈X.pn++pins,p.1≠b)/\b∉X.fs/\b≠q from by rcases this with rfl|rfl;exact na.2;exact nk.2
   have ex:∀c o,c≠b->K.heap.get? c=aA o->h'.get? c=aA o:=λc o n e=>(sb.2 c n).trans e;have neb:∀{c u},E c=aA u->c≠b:=λ{c u} e z=>by rw[z,hb0] at e;cases e
   refine⟨E,N.step (h':=h') (g':=K.gens) (t':=tk) (d':=K.drawn) (ch:=[b]) (λc hc=>?_) (λc o _ _ n e _=>ex c o (λz=>n (by rw[z];simp)) e) (λc o _ _ n e _=>⟨o.slots,ex c o (λz=>n (by rw[z];simp)) e⟩) (λc o _ _ n=>n) (λc o n e=>⟨o,ex c o (λz=>n (by rw[z];simp)) e⟩) (λc xs e=>e) (λc o u e=>e) (λc t e=>⟨#[],by rw[e];simp⟩) (λm hm=>?_) (λc u e=>?_) N.bare,J2,P,J4,O,J6⟩
   ·rw[bU.mp hc];refine⟨.inr nb.1,nb.2.1,nb.2.2.1,λp hp=>?_⟩;rcases b_.mp hp with z|z
    ·exact nb.2.2.2.1 p (d_ _ z)
    ·rcases cC.mp z with rfl|z
     ·exact nb.2.2.2.2.2.symm
     ·exact nb.2.2.2.1 p (dF _ z)
   ·exact hm.sameBut sb nb.2.1.symm
   ·refine (N.hok c u e).stay (λd v hd q=>ex d v (λz=>?_) q) (λd q=>q) λd xs q=>q;rcases hd with hd|hd
    ·exact neb e (hd▸z)
    ·exact neb hd z
  ·obtain⟨E,N,J2,P,J4,O,J6⟩:=hj;exact⟨E,N.kept (t':=K.toks) λb o e=>bP _ e,J2,P,J4,O,J6⟩
 refine wpAny_bind (wpAny_holding (EU slot_list_sort ⟨_,hoL,rfl⟩ DR ?body (ksk_l1 _ _)));case body=>
  show wpAny (aQ X.prog X.w) X.A.in1.in1 (ir.«list.sort» ⟨[.ref a],[(e_ "key",.ref q)]⟩) _ _ _
  rw[ksk_t1]
  refine Pj (J:=J) (kz:=kz) (vs:=f) (s:={s with heap:=h1}) KJ ⟨H,I1,aP.refl _ _,mr,hcc,na.1,nk.1⟩ hoL hkl hlen (λi v z K ka ca ck e1 e2 hj ga gk=>?_) λK out c hj ga hout=>⟨_,rfl,wpAny_pure ⟨_,rfl,?_⟩⟩
  ·obtain⟨E,N,J2,P,J4,O,J6⟩:=hj
   have J1a:=xv (xv N ga O na.2.2.1 na.2.2.2.2.2.1 (λv z=>by cases z)) gk J6 nk.2.2.1 nk.2.2.2.2.2.1 (λv z=>by cases z)
   have hi:i<f.length:=(bH.mp e1).1
   obtain⟨vv,hvv⟩:∃vv,vs[i]?=aA vv:=⟨_,eQ (by rw[rv.length];exact hi)⟩
   obtain⟨tt,htt⟩:∃tt,xs[i]?=aA tt:=⟨_,eQ (by rw[l.length,rv.length];exact hi)⟩
   have rr:RelV vv v:=by
    obtain⟨u0,e0,r0⟩:=rv.get hvv;rw[e1] at e0;cases e0;exact r0
   obtain⟨vv',hv',dd⟩:=(l.step J2).get htt
   rw[hvv] at hv';cases hv'
   have hrec:K.heap.CodeRec (.ref F) qn:=(N.hok F _ J4).1
   have ho:K.heap.get? q=aA (lT "<lambda>" qn params body scope [] pm F M):=(N.pin _ (dF _ d9)).1
   have rm:=C.rom hc
   have hr:bZ (0+1) X.A.in1.in1:=⟨rm.hd,by have:=rm.dp;show X.A.depth+3*(0+1)+5<_;lia,by have:=rm.un;show X.A.units+1+1+16*(0+1)+200<_;lia⟩
   refine iN (i8 (SS (k0:=0) C hc hG hs hE hbind hr J1a.env0.in1.in1 ho hrec rr dd P (Q:=λv' H2=>v'=.int z/\aP α E α H2/\aM D φ α H2 μ) (hkr.at htt e2) ?_) λr s2 Z=>?_)
   ·rintro t' μ' ⟨rfl,rfl⟩ α' H2 v' st m d
    have ea:α'=α:=by
     obtain⟨⟨more,e,_⟩,_,_⟩:=id st;have h1:=m.len;have h2:=P.len;rw[e,ig,h2] at h1;have:more=[]:=List.eq_nil_of_length_eq_zero (by lia);rw[e,this,gA]
    subst ea
    exact⟨d,st,m⟩
   ·cases r with
    |error e=>exact Z.elim
    |ok fl=>
     cases fl with
     |ret u=>
      obtain⟨v',H2,I2,r2,rfl,st2,m2⟩:=J1a.after Z;obtain⟨t2,rfl⟩:=r2;have p1:=I2.pin _ (dF _ d9);have p2:=(w6 I2).pin _ (dF _ d9);exact⟨⟨t2,rfl⟩,⟨H2,w6 (w6 I2),J2.trans st2,m2,st2.keep F _ hca J4,p2.2.1,p1.2.1⟩,p2.1,p1.1⟩
     |next=>exact eG Z
     |brk=>exact eG Z
     |cont=>exact eG Z
  ·obtain⟨E,N,J2,P,J4,O,J6⟩:=hj
   obtain⟨ps,hp,ho,hpw⟩:=hout
   have lz:∀{A B:Type} (a:List A) (b:List B),a.length=b.length->(a.zip b).length=b.length:=λa b h=>by rw[rn,h,tj]
   have R:vs.length=f.length:=rv.length
   have hxl:xs.length=f.length:=by rw[l.length,R]
   have em:kz.zip f=(kz.zip (f.zip (vs.zip xs))).map (λq=>(q.1,q.2.1)):=by
    refine Eg (by simp[hkl,R,hxl]) λi h1 h2=>by simp
   obtain⟨t,hqp,rfl⟩:=VV hp em
   have mem:∀q∈t,RelV q.2.2.1 q.2.1/\a_ D φ α E q.2.2.2 q.2.2.1:=λq Z=>by
    have:=hqp.mem_iff.mp Z;obtain⟨i,hi⟩:=ii.mp this;obtain⟨L,rfl⟩:=bH.mp hi;simp only[rn,Nat.lt_min] at L;have d:=(l.step J2).get (i:=i) (eQ L.2.2.2);obtain⟨v',e',d⟩:=d;rw[eQ L.2.2.1] at e';cases e';simp only[Ef];obtain⟨u0,e0,r0⟩:=rv.get (eQ L.2.2.1);rw[eQ L.2.1] at e0;cases e0;exact⟨r0,d⟩
   have hvs:∀(t:List (Int×aB×V×T)),(∀q∈t,RelV q.2.2.1 q.2.1/\a_ D φ α E q.2.2.2 q.2.2.1)->aW (t.map (·.2.2.1)) (t.map (·.2.1))/\aN D φ α E (t.map (·.2.2.2)) (t.map (·.2.2.1)):=by
    intro t;induction t with
    |nil=>exact λ_=>⟨.nil,rfl⟩
    |cons q r ih=>
     intro h;obtain⟨a1,a2⟩:=ih λq' hq'=>h q' (dQ _ hq');obtain⟨b1,b2⟩:=h q d9;exact⟨.cons b1 a1,_,_,rfl,b2,a2⟩
   obtain⟨w1,w2⟩:=hvs t mem
   have hol:out.toList=t.map (·.2.1):=by rw[ho,eO];rfl
   have hql:t.length=f.length:=by rw[hqp.length_eq];simp[hkl,R,hxl]
   have J7:Inv X pins σ (upd E a (.lst (t.map (·.2.2.1)))) K:=TV (w6 N) O na.2.1 na.2.2.1 na.2.2.2.1 na.2.2.2.2.1 (show aY X.prog X.w _ _ _ (.lst (t.map (·.2.2.1))) from ⟨by rw[bG,hql,d5];lia,t.map (·.2.1),c,w1,by rw[←hol,Array.toArray_toList];exact ga⟩)
   refine⟨.ref a,_,J7,rfl,?_⟩
   have sm:=za (o:=HO.lst (t.map (·.2.2.1))) O
   have e2:(t.map λq=>(q.1,q.2.2.2)).map (·.2)=t.map (·.2.2.2):=by rw[eO];rfl
   have e3:kz.zip xs=(kz.zip (f.zip (vs.zip xs))).map (λq=>(q.1,q.2.2.2)):=by
    refine Eg (by simp[hkl,R,hxl]) λi h1 h2=>by simp
   have kk:=hK (t.map λq=>(q.1,q.2.2.2)) (by rw[e3];exact hqp.map _) (by
    rw[lM] at hpw ⊢;exact hpw.imp λh=>by simpa using h)
   rw[e2] at kk
   refine k1 _ _ kk α _ (J2.trans (aP.new sm)) (P.new sm) _ ⟨_,_,rfl,zh P O,zi P O,.inl z4,w2.step (aP.new sm)⟩
theorem iG(a:fd.params=⟨[],[⟨y,aF,pa⟩],aF,[],[],aF,[]⟩)(hd:fd.defaults=.none):lH fd ⟨[u],[]⟩=pure [(y,u)]:=by
 have e:gR y [(y,u)]=aA u:=by simp[gR]
 unfold lH;rw[a,hd];simp[e,mQ];rfl
theorem Tb(C:Ck D W Γ X k)(hc:Γ.calm=aC){body:aH} 
  (T:("sorted":aG)∈Γ.G) (hg0:Γ.gl "sorted"=.none) (E:aO a=aC) (ha:PE X a (aX D W f)) (hlm:Γ.lam=aA (j,w)) (hnm:Γ.lnm="<lambda>") (Z:pl∈w) (hG:G.all (λy=>Γ.U.contains y&&UN (Γ.gl y))=aC) (hs:xE (xH Γ y G) [y] sc=aC) (hE:∀Y W k,Ck D W (xH Γ y G) Y k->PE Y body (aX D W g)) :
  PE X (.Call (.Name "sorted" p0) [a] [⟨aA "key",.Lambda ⟨[],[⟨y,aF,pa⟩],aF,[],[],aF,[]⟩ body sc pl,pk⟩] pos) (aX D W (KP j g f)):=by
 obtain⟨hk,c,P,F,hC,hB,hD⟩:=C.lam j w hlm;rw[hnm] at hD;have hm:=C.glo _ T;rw[hg0] at hm;have hfr:∀x∈sc.names,x.2≠.free:=by
  have M:=hs;simp only[xE,cI,fQ,bne_iff_ne,ne_eq] at M;exact M.1.1.1.1.2
 rintro J s σ H Q I ⟨A,α,τ,μ,sr,mr,p⟩;refine gW (qQ I (C.glb _ T) hm (show f_ "sorted"=aA (.builtin "sorted") by decide +kernel) ?_ (by decide) (C.dbG _ T));refine pH (a7 (zr ha zZ (z3 E) pos J s σ H (λvs R=>∃v t B h,vs=[v]/\aP α H h R/\aM D A h R B/\a_ D A h R t v/\aJ D W A h R σ (RV D A Q) (Hw j g t B)) I ⟨A,α,τ,μ,sr,mr,p.bind.mono λt b e o st m q v d=>⟨v,t,b,e,rfl,st,m,d,q⟩⟩) ?_) (by rw[z3 E];rfl) (by rw[z3 E];rfl) rfl rfl;rintro us s1 ⟨vs,R,I1,rv,v,t,B,h,rfl,st,m,d,K0,Z0,⟨⟨i,hi⟩,q⟩,k1,k2⟩;obtain⟨u,rfl,r1⟩:=vals1 rv;refine pv (Ee rfl (VX (line:=pl.line) I1 m hi hD Z F hC hB (closureFor_none hfr) λq0 c' ctv H2 s2 I2 r S O N _=>pi ?_));have L:∀t b,K0 t b->∀e o,aP h H2 e o->aM D A e o b->RV D A Q t b e o:=λt b z e o n K=>k1 t b z e o (r.trans n) K;show wpAny _ _ (call (.builtin "sorted") [u] [(e_ "key",.ref q0)]) _ _ _;split at q
 ·obtain⟨ad,xs,rfl,n1,n2,V,l⟩:=d.step r;cases r1;exact JM (j:=j) C hk hc hG hs hE (λs u=>.of_eq (iG rfl rfl)) I2 S O N V l ⟨K0,Z0,q,L,λcc fs b z e o CC dd n K=>k2 cc fs b z e o CC dd (r.trans n) K⟩
 ·obtain⟨ts,hj,q⟩:=q;obtain⟨ad,hi2,rfl⟩:=d;cases r1;obtain⟨xs,V,l⟩:=S.ob _ ad _ hi2 hj;exact JM (j:=j) C hk hc hG hs hE (λs u=>.of_eq (iG rfl rfl)) I2 S O N (.inl V) l ⟨K0,Z0,q,L,λcc fs b z e o CC dd n K=>k2 cc fs b z e o CC dd (r.trans n) K⟩
 ·exact eG q
end
noncomputable def Fy:Arg->Option aG
 |⟨y,aF,_⟩=>aA y
 |_=>aF
def Au:Arguments->Option aG
 |⟨[],[p],aF,[],[],aF,[]⟩=>Fy p
 |_=>aF
theorem Ra(h:Au a=aA y):∃p,a=⟨[],[⟨y,aF,p⟩],aF,[],[],aF,[]⟩:=by
 unfold Au at h;split at h
 ·unfold Fy at h;split at h
  ·cases h;exact⟨_,rfl⟩
  ·cases h
 ·cases h
def sf:aH->Option (aG×aH×Scope×Pos)
 |.Lambda a body b c=>(Au a).bind λy=>aA (y,body,b,c)
 |_=>aF
theorem Xu(h:sf e=aA q):∃pa,e=.Lambda ⟨[],[⟨q.1,aF,pa⟩],aF,[],[],aF,[]⟩ q.2.1 q.2.2.1 q.2.2.2:=by
 unfold sf at h;split at h
 ·obtain⟨y,b,a⟩:=aS h;cases a;obtain⟨pa,rfl⟩:=Ra b;exact⟨pa,rfl⟩
 ·cases h
def HG:ER:=λr b e=>(Ub e).bind λq=>(sf q.v).bind λw=>b.lam.bind λz=>gd (q.x==("sorted":aG)) (gd (q.ky==("key":aG)) (gd ((cF b.N q.x).isNone&&aO q.a) (gd (b.calm&&gY (b.look "sorted")) (gd ((ZQ w.2.2.1).all (λy=>b.U.contains y&&UN (b.gl y))) (gd (xE (xH b w.1 (ZQ w.2.2.1)) [w.1] w.2.2.1) (gd (decide (w.2.2.2∈z.2)&&b.lnm==("<lambda>":aG))
      ((r.e b q.a).bind λf=>(r.e (xH b w.1 (ZQ w.2.2.1)) w.2.1).bind λg=>aA (KP z.1 g f))))))))
theorem Yl:cY D HG:=by
 intro r H X W B k e d C h;obtain⟨q,x,h⟩:=aS h;obtain⟨w,v,h⟩:=aS h;obtain⟨⟨j,a⟩,m,h⟩:=aS h;obtain⟨u,h⟩:=z7 h;obtain⟨t,h⟩:=z7 h;obtain⟨s,h⟩:=z7 h;obtain⟨c,h⟩:=z7 h;obtain⟨p,h⟩:=z7 h;obtain⟨o,h⟩:=z7 h;obtain⟨b,h⟩:=z7 h;obtain⟨f,z,h⟩:=aS h;obtain⟨g,y,h⟩:=aS h;cases h;obtain⟨E,l⟩:=Xu v;rw[ug x,l,zW u,zW t];obtain⟨i,n⟩:=zB (zu c).2;exact Tb C (zu c).1 i n (zu s).2 (H.e C z) m (zW (zu b).2) (of_decide_eq_true (zu b).1) p o λY W k A=>H.e A y
abbrev o2(x y:T)(μ:aK):RE T:=match y with
 |.mut i=>(match x with
  |.int z=>λK _=>∃a,μ[i]?=aA (MO.dic a)/\K (.bl (zD (.inl z) a).isSome) μ
  |.str z=>λK _=>∃a,μ[i]?=aA (MO.dic a)/\K (.bl (zD (.inr z) a).isSome) μ
  |_=>.st)
 |_=>Q8 .In x y μ
abbrev UU(f g:De):De:=λc d=>(f c d).bind λx b=>(g c b).bind λy a=>o2 x y a
abbrev yB(o b f:De):Ds:=λd j=>(f d j).out d λt g=>(o d g).out d λl e=>(b d e).out d λit c=>match l,it with
 |.mut i,.int k=>λE=>(∃h,c[i]?=aA (.lst h)/\(0<=k/\k<h.length/\k<9223372036854775808)/\E.nx d (c.set i (.lst (h.set k.toNat t))))\/(∃a,c[i]?=aA (.dic a)/\a.length<aZ/\E.nx d (c.set i (.dic (k_ (.inl k) t a))))
 |.mut i,.str z=>λE=>∃a,c[i]?=aA (.dic a)/\a.length<aZ/\E.nx d (c.set i (.dic (k_ (.inr z) t a)))
 |_,_=>.st
section
variable {X:Cx}{D:DP}{W:XW}{Γ:Cn}{k:Nat}{pins:List (aE×bB)}{s:Shared}{σ:St}{H:Hp}{φ α:List aE}{τ:Sl}{μ:aK}{f g:De}{a b:aH}{pos:Pos}
theorem ZC:∀{a:List (Key×T)} {b:List (Key×V)},bI D φ α H a b->(y9 b z).isSome=(zD z a).isSome
 |[],_,h=>by cases h;rfl
 |p::r,_,h=>by
  obtain⟨v,q,rfl,d,l⟩:=h;unfold zD;by_cases e:p.1=z
  ·rw[if_pos e,xU (p:=(p.1,v)) e];rfl
  ·rw[if_neg e,xn (p:=(p.1,v)) e];exact ZC l
theorem GQ(I:Inv X pins σ H s)(m:X.A.units+64<cLine)(d:aM D φ α H μ)(b:a_ D φ α H x v)(g:a_ D φ α H y w)(f:RelV v r)(e:RelV w j)
  (p:aJ D W φ α H σ (RV D φ Q) (o2 x y μ)):wpAny (aQ X.prog X.w) X.A (dZ .In r j) (EP X pins σ Q) X.xe s:=by
 have go:∀{i:Nat} {z:Key} {a:List (Key×T)},y=.mut i->v=kV z->μ[i]?=aA (MO.dic a)->aJ D W φ α H σ (RV D φ Q) (.ok (.bl (zD z a).isSome) μ)->wpAny (aQ X.prog X.w) X.A (dZ .In r j) (EP X pins σ Q) X.xe s:=λ{i z a} ey ev c h=>by
  subst ey;subst ev;obtain⟨ad,n,rfl⟩:=g;cases e;obtain⟨q,o,l⟩:=d.ob i ad _ n c;refine L1 (by omega) I (fM.k (k:=z) o) f λu t=>⟨.bl (y9 q z).isSome,H,t,rfl,?_⟩;rw[ZC l];exact h.here d rfl
 unfold o2 at p;split at p
 ·split at p
  ·obtain⟨a,c,p⟩:=p.ex1;have b:v=_:=b;exact go (z:=.inl _) rfl b c p
  ·obtain⟨a,c,p⟩:=p.ex1;have b:v=_:=b;exact go (z:=.inr _) rfl b c p
  ·exact p.elim
 ·exact WA I m d b g f e p
theorem Pp(C:Ck D W Γ X k)(ho:jd .In b=aC)(B:PE X a (aX D W f))(A:PE X b (aX D W g)):PE X (.Compare a [.In] [b] pos) (aX D W (UU f g)):=by
 rintro i s M H Q I ⟨K,O,L,N,r,z,p⟩;refine tN (a7 (sub B I r z p) ?_) (jN ho);rintro u U ⟨v,Y,t,l,n,J,x,o,d,h,F,p1⟩;refine a7 (sub A J d h p1) ?_;rintro R T ⟨P,V,S,j,m,G,w,c,q,e,E,y⟩;exact GQ G C.unt e (F.step c) E x w y
theorem aL.or{E:Ends}{r a:En->Prop}(p:aL D W φ α H E λE=>r E\/a E):aL D W φ α H E r\/aL D W φ α H E a:=by
 obtain⟨E0,q,b⟩:=p;rcases q with q|q
 ·exact .inl ⟨E0,q,b⟩
 ·exact .inr ⟨E0,q,b⟩
theorem SX(m:X.A.units+1<cLine):BE X (λo i v H Q=>(∃l k xs,o=.ref l/\i=.int k/\H l=aA (.lst xs)/\0<=k/\k<xs.length/\k<9223372036854775808/\Q (upd H l (.lst (xs.set k.toNat v))))\/(∃l d z,o=.ref l/\i=kV z/\H l=aA (.dK d)/\d.length<sizeLine/\Q (upd H l (.dK (eH d z v))))):=by
 intro a s f H o i v g j u Q I c e b h;rcases h with h|⟨l,d,z,rfl,rfl,p,n,q⟩
 ·exact fW a s f H o i v g j u Q I c e b h
 ·cases c;exact U7 m I (lu.k (k:=z) p n) e b λt r=>⟨_,r,q⟩
theorem Pz(C:Sk D W Γ X k)(V:qe b=aC)(ha:PE X a (aX D W f))(ho:PE X o (aX D W fo))(hb:PE X b (aX D W fb)) :
  PS X (.Assign [.Subscript o b p1] a pos) (dS D W (yB fo fb f)):=by
 rintro G s σ H E I ⟨M,α,N,μ,T,mr,p⟩;have h1:pV [.Subscript o b p1] a pos.line X.env=pure aD:=by cases a<;>rfl
 have h2:pU [.Subscript o b p1] a X.env=pure aF:=by cases a<;>rfl
 refine Kw ha (HQ ho hb (SX (by have:=C.toCk.unt;lia)) (λv=>by cases b<;>first|(simp[qe] at V;done)|rfl)) h1 h2 rfl G s σ H E I ⟨M,α,N,μ,T,mr,(aL.out T p).mono λt P R H1 S m1 q v d=>?_⟩;have w:=T.step S;refine⟨M,R,N,P,w,m1,(aL.out w q).mono λot O Q H2 F m2 q2 ov dv=>?_⟩;have m:=w.step F;refine⟨M,Q,N,O,m,m2,(aL.out m q2).mono λit u h B j A g iv di=>?_⟩;have Y:=(d.step F).step j;have dv:=dv.step j;cases ot with
 | «mut» i=>
  obtain⟨x,n,rfl⟩:=dv;cases it with
  |int J=>
   have di:iv=.int J:=di;subst di;rcases aL.or g with g|g
   ·obtain⟨ts,e,y,g⟩:=aL.ex1 g;obtain⟨Z,r,l⟩:=A.ob i x _ n e;have c:aP h B h (upd B x (.lst (Z.set J.toNat v))):=aP.turn (cD n) ⟨_,r⟩;have K:i<u.length:=(bH.mp e).1;exact .inl ⟨x,J,Z,rfl,rfl,r,y.1,by rw[←l.length];exact y.2.1,y.2.2,aL.nx g c (A.turn n K c ⟨_,z4,aN.set (l.step c) (Y.step c)⟩) ((m.step j).step c)⟩
   ·obtain⟨U,e,y,g⟩:=aL.ex1 g;obtain⟨L,r,l⟩:=A.ob i x _ n e;have c:aP h B h (upd B x (.dK (eH L (.inl J) v))):=aP.turn (cD n) ⟨_,r⟩;have K:i<u.length:=(bH.mp e).1;exact .inr ⟨x,L,(.inl J),rfl,rfl,r,by rw[zY l];exact dM y (zx (bC _)),aL.nx g c (A.turn n K c ⟨_,z4,Jo (Y.step c) (l.step c)⟩) ((m.step j).step c)⟩
  |str z=>
   have di:iv=.str z:=di;obtain⟨U,e,y,g⟩:=aL.ex1 g;obtain⟨L,r,l⟩:=A.ob i x _ n e;have c:aP h B h (upd B x (.dK (eH L (.inr z) v))):=aP.turn (cD n) ⟨_,r⟩;have K:i<u.length:=(bH.mp e).1;exact .inr ⟨x,L,(.inr z),rfl,di,r,by rw[zY l];exact dM y (zx (bC _)),aL.nx g c (A.turn n K c ⟨_,z4,Jo (Y.step c) (l.step c)⟩) ((m.step j).step c)⟩
  |_=>exact aL.elim g
 |_=>exact aL.elim g
theorem OU{β:Type}{R:β->aK->List aE->Hp->Prop}{kk:T->aK->RE β}{x y:T}{v w:V}{e c:aB}(I:Inv X pins σ H s)(i:X.A.units+64<cLine)(h:aM D φ α H μ)(l:a_ D φ α H x v)(k:a_ D φ α H y w)(g:RelV v e)(f:RelV w c)
  (p:aJ D W φ α H σ R ((o2 x y μ).bind kk)):wpAny (aQ X.prog X.w) X.A (dZ .In e c) (EP X pins σ λz u=>∃t r j,aP α H j u/\aM D φ j u r/\a_ D φ j u t z/\aJ D W φ j u σ R (kk t r)) X.xe s:=
 GQ I i h l k g f (p.bind.mono λt a b n st m q v d=>⟨t,a,b,st,m,d,q⟩)
theorem Yn(C:Ck D W Γ X k)(ho:jd .In b=aC)(V:PE X a (aX D W f))(U:PE X b (aX D W g)):PT X (.Compare a [.In] [b] pos) (eP D W (tE (UU f g))):=by
 rintro q s w H Q I ⟨r,J,o,B,N,T,p⟩;have p:aJ D W r J H w (λb _ _ H'=>Q b H') ((f o B).bind λx e=>(g o e).bind λy c=>(o2 x y c).bind xB):=p;refine ww (a7 (sub V I N T p) ?_) (jN ho);rintro u s1 ⟨v,H1,t,e,G,I1,R,L,j,n,d1,p1⟩;refine a7 (sub U I1 j n p1) ?_;rintro u' s2 ⟨v',H2,t',c,F,I2,P,i,M,m,Z,S⟩;refine a7 (OU I2 C.unt m (d1.step i) Z R P S) ?_;rintro d s3 ⟨z,H3,I3,O,t3,A,E,K,l,Y,h⟩;unfold xB at h;split at h
 ·cases Y;cases O;exact wpAny_truthy_bool ⟨H3,I3,h.ok (aP.refl _ _) l⟩
 ·exact h.elim
end
def Hb(Γ:Cn)(b:aH):Bool:=match b with
 |.Name x _=>(cF Γ.N x).isSome
 |_=>aD
noncomputable def isIn:eK->Bool
 |.In=>aC
 |_=>aD
theorem Sj(h:isIn op=aC):op=.In:=by cases op<;>first|rfl|cases h
def Mb (r:dH)(Γ:Cn)(e:aH):Option De:=(rX e).bind λq=>gd (isIn q.op&&Hb Γ q.b) (gd (jd .In q.b) ((r.e Γ q.a).bind λf=>(r.e Γ q.b).bind λg=>aA (UU f g)))
def FW:ER:=Mb
theorem Sh:cY D FW:=by
 intro r H X W l k e d C h;obtain⟨q,c,h⟩:=aS h;obtain⟨b,h⟩:=z7 h;obtain⟨a,h⟩:=z7 h;obtain⟨f,j,h⟩:=aS h;obtain⟨g,i,h⟩:=aS h;cases h;rw[XE c,Sj (zu b).1];exact Pp C a (H.e C j) (H.e C i)
def B8:TR:=λr c e=>match e with
 |.Compare a [.In] [b] _=>gd (Hb c b&&jd .In b) ((r.e c a).bind λf=>(r.e c b).bind λg=>aA (tE (UU f g)))
 |_=>aF
theorem TX:sI D B8:=by
 intro r H X W j k e d C h;unfold B8 at h;split at h
 ·obtain⟨b,a⟩:=z7 h;obtain⟨f,i,a⟩:=aS a;obtain⟨g,c,a⟩:=aS a;cases a;simp only[cI] at b;exact Yn C b.2 (H.e C i) (H.e C c)
 ·cases h
def Bv:bE->Option (aH×aH×Pos)
 |.Assign [t] e p=>aA (t,e,p)
 |_=>aF
theorem Ru(h:Bv s=aA q):s=.Assign [q.1] q.2.1 q.2.2:=by
 unfold Bv at h;split at h
 ·cases h;rfl
 ·cases h
def HK:SR:=λr a s=>(Bv s).bind λq=>(sq q.1).bind λw=>gd (qe w.2.1) ((r.e a w.1).bind λfo=>(r.e a w.2.1).bind λfb=>(r.e a q.2.1).bind λf=>aA (yB fo fb f))
theorem YJ:o7 D HK:=by
 intro r H X W l k e d C h;obtain⟨q,c,h⟩:=aS h;obtain⟨w,b,h⟩:=aS h;obtain⟨a,h⟩:=z7 h;obtain⟨fo,j,h⟩:=aS h;obtain⟨fb,i,h⟩:=aS h;obtain⟨f,g,h⟩:=aS h;cases h;rw[Ru c,XO b];exact Pz C a (H.e C.toCk g) (H.e C.toCk j) (H.e C.toCk i)
end NH
namespace NH.P
open PySem L2 NH
@[reducible] def xT:List Ds:=[(bW (qF (tE (z9 qS [(eV 0),(eV 1)]))) [(zM 13 [(eC (.str "no moment, house or count of the shape"))])] [])]
def qZ:Fn:=bM 2 0 xT
@[reducible] def QL:List Ds:=[(zF (z9 qZ [(eV 1),(ze (eV 0) 0)])),(zF (z9 qZ [(eV 2),(ze (eV 0) 1)])),(zF (z9 qZ [(eV 3),(ze (eV 0) 2)])),(zv (zd .Add (zd .Mult (zd .Add (zd .Mult (eV 1) (ze (eV 0) 1)) (eV 2)) (ze (eV 0) 2)) (eV 3)))]
def um:Fn:=bM 4 0 QL
@[reducible] def ZD:List Ds:=[(bW (gC (qF (tE (yn [4] (eV 1)))) (tE (zy .NotEq (cS kN (eV 1)) (eC (.int 3))))) [(zv (eC (.bl aD)))] []),(bW (qF (x_ (tE (z9 qS [(bD (eV 1) (eC (.int 0))),(ze (eV 0) 1)])) (x_ (tE (z9 zU [(bD (eV 1) (eC (.int 1)))])) (tE (z9 zU [(bD (eV 1) (eC (.int 2)))]))))) [(zv (eC (.bl aD)))] []),(zv (nJ (eC (.int 0)) [(.LtE,(bD (eV 1) (eC (.int 1)))),(.Lt,(bD (eV 1) (eC (.int 2)))),(.LtE,(ze (eV 0) 0))]))]
def xA:Fn:=bM 2 0 ZD
@[reducible] def jX:List Ds:=[(bW (qF (tE (z9 xA [(eV 0),(eV 1)]))) [(zM 18 [(eC (.str "no lease of the shape"))])] [])]
def vj:Fn:=bM 2 0 jX
@[reducible] def xG:List Ds:=[(zK (eV 0) 5 (eV 1)),(zK (eV 0) 6 (eV 2)),(zK (eV 0) 7 (bD (eV 2) (eC (.int 2)))),(zK (eV 0) 8 (eC (.bl aD)))]
def kr:Fn:=bM 3 0 xG
@[reducible] def Y8:List Ds:=[(zv (zy .Lt (iX uP (bD (ze (eV 0) 6) (eC (.int 1))) (eV 1)) (iX QH (ze (eV 0) 7) (eV 2))))]
def fX:Fn:=bM 3 0 Y8
@[reducible] def jT:List Ds:=[(zp 3 (eV 1)),(jA (.one 4) (iE (KP 0 (bD (ze (eV 0) 6) (eC (.int 1))) (eV 0))) [(bW (tE (z9 fX [(eV 4),(eV 3),(zd .Add (eV 3) (eV 2))])) [(zp 3 (ze (eV 4) 7))] [])]),(zv (eV 3))]
def wk:Fn:=bM 3 2 jT
@[reducible] def k7:List Ds:=[(zp 3 VS),(jA (.one 4) (iE (eV 0)) [(bW (tE (z9 fX [(eV 4),(eV 1),(zd .Add (eV 1) (eV 2))])) [(yB (eV 3) (bD (ze (eV 4) 6) (eC (.int 0))) (eC (.bl aC)))] [])]),(zp 5 (eC (.int 0))),(Wv (tE (UU (eV 5) (eV 3))) [(zp 5 (zd .Add (eV 5) (eC (.int 1))))]),(zv (eV 5))]
def ve:Fn:=bM 3 3 k7
@[reducible] def k9:List Ds:=[(zK (eV 0) 9 (eV 1)),(zK (eV 0) 10 (y7 []))]
def vc:Fn:=bM 2 0 k9
@[reducible] def qD:List Ds:=[(bW (qF (tE (z9 w4 [(eV 1)]))) [(zM 17 [(eC (.str "a holder is a text of one to eight small letters"))])] []),(bW (x_ (tE (zy .IsNot (eV 2) (eC .non))) (qF (tE (z9 qS [(eV 2),(ze (ze (eV 0) 9) 1)])))) [(zM 13 [(eC (.str "no house of the shape"))])] []),(bW (qF (tE (z9 vf [(eV 4)]))) [(zM 16 [(eC (.str "a span is a whole number from 1 on"))])] []),(bW (qF (tE (z9 zU [(eV 3)]))) [(zM 16 [(eC (.str "a moment is a whole number"))])] [])]
def qw:Fn:=bM 5 0 qD
@[reducible] def wL:List Ds:=[(zv (qT 1 [1] (.one 0) (iE (ze (eV 0) 10)) [(tE (zy .Eq (bD (ze (eV 0) 6) (eC (.int 0))) (eV 1)))] (eV 0)))]
def qv:Fn:=bM 2 0 wL
@[reducible] def wt:List Ds:=[(bW (tE (zy .Is (eV 1) (eC .non))) [(zv (v5 [(z9 ve [(ze (eV 0) 10),(eV 2),(eV 3)]),(eV 2),(zd .Add (eV 2) (eV 3))]))] []),(zp 4 (z9 wk [(zT 43 qv (eV 0) [(eV 1)]),(eV 2),(eV 3)])),(zv (v5 [(eV 1),(eV 4),(zd .Add (eV 4) (eV 3))]))]
def qf:Fn:=bM 4 1 wt
@[reducible] def xo:List Ds:=[(zF (zT 43 qw (eV 0) [(eV 1),(eV 2),(eV 3),(eV 4)])),(zp 5 (zT 43 qf (eV 0) [(eV 2),(iX uP (eV 3) (eC (.int 0))),(eV 4)])),(bW (gC (tE (zy .GtE (bD (eV 5) (eC (.int 0))) (ze (ze (eV 0) 9) 1))) (tE (zy .Gt (bD (eV 5) (eC (.int 2))) (ze (ze (eV 0) 9) 0)))) [(zM 19 [(eC (.str "no such stretch is free"))])] []),(zF (Vg (ze (eV 0) 10) (Qc 42 kr [(eV 1),(eV 5)]))),(zv (eV 5))]
def vT:Fn:=bM 5 1 xo
end NH.P
namespace NH
open PySem PySem.Spec PyProof.Rows L2
section
variable {prog:Program}{w:World}{A:Around}{E:aB->Shared->Prop}{h:aR}{g:Array GenState}{d:Drawn}{t:Nat}{os:OsState}
variable {nm q:aG}{C N:aE}{bs bm bmB:List aB}{hdct:Bool}{sn:List aG}{sub:List aB}{ab:Bool}{col:Option Bool}{dd:Option aE}{k0 k1 k2 k3 k5:Option aB}{B newId initId:String}
theorem Uk(F:tf B newId initId bmB)(n:me h bmB bm) 
  (i:h.get? C=aA (iw nm q C N bs bm hdct sn sub ab col dd k0 k1 k2 k3 k5 newId)) (v:h.Ns N mN) (y:mN "__init__"=aA (.ref fI)) (gf:h.get? fI=aA u) (gc:u.cls=.type "function")
  (go:∀h1 x,n6 h h1 x (.ref C) us->wpAny (aQ prog w) A (call (.ref fI) (.ref x::us)) (λr s=>r=.none/\Q (.done (.ret (.ref x))) s) E ⟨h1,g,d,t,os⟩) (j:us.length<=sizeLine) :
  wpAny (aQ prog w) A (ir.«type.__call__» ⟨.ref C::us,[]⟩) Q E ⟨h,g,d,t,os⟩:=by
 repeat (first|(with_reducible refine oE i ?_)|(with_reducible refine wpAny_madeBy_exc i ?_)|wp_step)
 refine codeAny_call_builtin_code (Es _ F.quiet) (wpAny_check_new_subT F n i (codeAny_exc_new_subT F n i ?_ j));show wpAny _ _ _ _ _ _;let c:bB:={cls:=.type "tuple",data:=.seq us.toArray};let a:bB:={cls:=.ref C,data:=.fields #[.ref h.objs.size,.none,.none,.none,.bool aD,.none]};have up:∀b o,h.get? b=aA o->((h.push c).push a).get? b=aA o:=λb o e=>bP _ (bP _ e);have f:=up _ _ i;have l:=up _ _ gf;have m:((h.push c).push a).Ns N mN:=by
  obtain⟨o,es,ep,e,r⟩:=v;exact⟨o,es,ep,up _ _ e,r⟩
 have p:((h.push c).push a).get? (h.objs.size+1)=aA a:=by
  have:=dP (h.push c) (o:=a) rfl;rw[iy] at this;exact this
 have own:(cO C::bm).contains (.ref C)=aC:=by simp
 have D:me ((h.push c).push a) bmB bm:=n.keeps up;unfold sT;repeat (first|(with_reducible refine oE p ?_)|(with_reducible refine ET f ?_;rw[own])|wp_step)
 show wpAny _ _ (nZ (.ref C) _) _ _ _;refine wpAny_typeLookup_tail f m D F.mroIs F.init.lookup ?_;rw[y];refine wpAny_holding (wpAny_bind ?_);unfold bindSpecial;refine wpAny_bind (mW (T:="function") ⟨_,l,gc⟩ ?_);rw[if_pos (by decide)];have mk:n6 h ((h.push c).push a) (h.objs.size+1) (.ref C) us:=⟨up,iS (h_ _),h.objs.size,p,iS (bC _),bP _ (DY rfl rfl)⟩;refine wpAny_pure (wpAny_bind (dR (go _ _ mk) (λr s k=>?_) λ_ _ z=>z));obtain⟨rfl,k⟩:=k;wp_walk;exact k
theorem Yx(F:tf B newId initId bmB)(f:me h bmB bm) 
  (a:h.get? C=aA (iw nm q C N bs bm hdct sn sub ab col dd k0 k1 k2 k3 k5 newId)) (c:h.Ns N mN) (e:mN "__init__"=aA (.ref fI)) (gf:h.get? fI=aA s) (gc:s.cls=.type "function")
  (go:∀h1 x,n6 h h1 x (.ref C) us->wpAny (aQ prog w) (A.under (.builtin "type.__call__" ⟨.ref C::us,[]⟩)) (call (.ref fI) (.ref x::us)) (λr j=>r=.none/\Q (.ref x) j) E ⟨h1,g,d,t,os⟩) (b:us.length<=sizeLine) :
  wpAny (aQ prog w) A (call (.ref C) us) Q E ⟨h,g,d,t,os⟩:=by
 have l:=tc_lookup;have k:=tc_bind (.ref C);have i:tP ⟨h,g,d,t,os⟩ (.ref C) "type":=⟨_,a,rfl⟩;refine iN (codeAny_of_tree ?_);show wpAny _ _ (callAny (.ref C) _) _ _ _;repeat (any_goals (first|assumption|(with_reducible refine oE a ?_)|wp_step))
 refine⟨rfl,codeAny_call_builtin_at (Es _ (by decide +kernel)) entry_typeCall (wpAny_check_type_call_sub a ?_)⟩;exact Uk F f a c e gf gc (λh1 x mk=>go h1 x mk) b
theorem uR (a:bm.contains (.type "BaseException")=aC) (c:A.handled=aF)
  (go:wpAny M A x (λv j=>∃e t dx,v=.ref e/\j.heap.get? C=aA (iw nm q C N bs bm hdct sn sub ab col dd k0 k1 k2 k3 k5 newId)/\
   j.heap.get? e=aA {cls:=.ref C,dict:=dx,data:=.fields #[.ref t,.none,.none,.none,.bool aD,.none]}/\E (.ref e) j) E s) :
  wpAny M A (raiseStmt env (aA x) aF) Q E s:=by
 have iU:(cO C::bm).contains (.type "BaseException")=aC:=by rw[wr,a];simp
 unfold raiseStmt;refine wpAny_bind (dR go (λv j k=>?_) λ_ _ z=>z);obtain⟨e,t,dx,rfl,b,ge,d⟩:=k;obtain⟨h,i,l,f,g⟩:=j;repeat (first|(with_reducible refine oE ge ?_)|(with_reducible refine oE b ?_)|(with_reducible refine ET b ?_;rw[iU])|wp_step)
 exact wpAny_raiseNew_none c d
end
section
variable {prog:Program}{w:World}{A:Around}{E:aB->Shared->Prop}{s:Shared}
variable {nm q:aG}{C N:aE}{bs bm bmB:List aB}{hdct:Bool}{sn:List aG}{sub:List aB}{ab:Bool}{col:Option Bool}{dd:Option aE}{k0 k1 k2 k3 k5:Option aB}{B newId initId:String}
theorem Wp(F:tf B newId initId bmB)(k:me s.heap bmB bm){e:aE}{ob:bB}{vs:Array aB}{t0:aE}{rest:List aB}{Q:aB->aU->Prop}
  (j:s.heap.get? C=aA (iw nm q C N bs bm hdct sn sub ab col dd k0 k1 k2 k3 k5 newId)) (he:s.heap.get? e=aA ob) (c:ob.cls=.ref C) (hd:ob.data=.fields vs) (h0:vs[0]?=aA (.ref t0))
  (h:Q .none {s with heap:=(s.heap.push {cls:=.type "tuple",data:=.seq rest.toArray}).update e (i_ (·.setIfInBounds 0 (.ref s.heap.objs.size)))}) (b:rest.length<=sizeLine) :
  wpAny (aQ prog w) A (call (.builtin initId) (.ref e::rest)) Q E s:=by
 obtain⟨i,g,d,t,os⟩:=s;refine iN (Ad F.init.plain F.initEntry (wpAny_check_init_subT F k j he c ?_));unfold ir.«BaseException.__init__»;dsimp only;rw[if_neg (by simp)];unfold newTuple LB;have f:0<vs.size:=(oK.mp h0).1;have a:=bP (h:=i) {cls:=.type "tuple",data:=.seq rest.toArray} he;refine wpAny_bind (my (wpAny_bind (wpAny_bind (ix a hd h0 (wpAny_bind (ra a hd f ?_))))) (by show rest.toArray.size<=sizeLine;rw[dJ];exact b));exact mY (wpAny_pure h)
end
def vV:List aB->Bool
 |.ref _::r=>vV r
 |l=>l==zI
theorem jH(self:aB):∀{l:List aB},vV l=aC->PySem.refuseLoop self "__setattr__" l=pure ()
 |.ref c::r,e=>by rw[refuseLoop_ref];exact jH self e
 |.type n::r,e=>by rw[show n4 n::r=zI from beq_iff_eq.mp e];exact E8.passes self
 |[],e=>by cases e
 |v::r,e=>by
  unfold vV at e;split at e
  ·rename_i h;cases h;rw[refuseLoop_ref];exact jH self e
  ·rw[beq_iff_eq.mp e];exact E8.passes self
theorem kE:∀{l:List aB},vV l=aC->l.contains (.type "object")=aC
 |.ref c::r,e=>by rw[wr,kE (l:=r) e,tx]
 |[],e=>by cases e
 |v::r,e=>by
  unfold vV at e;split at e
  ·rename_i h;cases h;rw[wr,kE (l:=_) e,tx]
  ·rw[beq_iff_eq.mp e];decide
section
variable {prog:Program}{w:World}{A:Around}{E:aB->Shared->Prop}{s:Shared}{K:PySem.W.Frag}{C x:aE}
theorem R9(X:K.In s.heap)(u:s.heap.get? x=aA ox)(U:ox.cls=.ref C)(G:PySem.W.notCls ox=aC)(hd:ox.dict=aF)
  (hs:cZ K (.ref C) "__setattr__"=aA (aA (.builtin "object.__setattr__"))) (hp:((mj K C).any λcd=>vV cd.mro)=aC) (ht:cZ K (.ref C) name=aA aF) (hh:lP K C=aC)
  (h:∀h' tk,h'.get? x=aA {ox with dict:=aA s.heap.objs.size}->h'.Ns1 s.heap.objs.size (λy=>if y=name then aA v else aF)->(∀b o,b≠x->s.heap.get? b=aA o->h'.get? b=aA o)->Q () {s with heap:=h',toks:=tk}) :
  wpAny (aQ prog w) A (setAttr (.ref x) name v) Q E s:=by
 have J:DJ s.heap x ox C aF:=⟨u,U,G,by rw[hd];trivial⟩;refine D8 X J hs ?_;have I:=PySem.F.store_object;obtain⟨cd,m,L⟩:=t7 hp;obtain⟨cd',n,p⟩:=t7 hh;rw[m] at n;cases n;have ne:cd.mro.isEmpty=aD:=by cases q:cd.mro with|nil=>rw[q] at L;cases L|cons _ _=>rfl
 have sub:nW (aQ prog w) s.heap (sT (.ref x) (.type "object")) aC:=J.type.andThen (PySem.W.looks_mroIn X (by unfold gT;rw[m,rg,if_neg (by rw[ne];decide),kE L]));refine Ad I.slot.plain I.entry (@PySem.W.check_slot (aQ prog w) _ _ {s with toks:=s.toks+1} "object.__setattr__" "object" "__setattr__" (.ref x) [.str name s.toks,v] [] _ I.kind I.split sub (I.args (.ref x) (.str name s.toks) v) ?_);have hm:nW (aQ prog w) s.heap (mroOf (.ref C)) cd.mro:=(Ac X m).andThen .now;rw[PySem.W.osa_eq,refuse_eq];refine wpAny_bind (wpAny_bind (nt (s:={s with toks:=s.toks+1}) J.type (wpAny_bind (nt (s:={s with toks:=s.toks+1}) hm ?_))));rw[jH _ L];refine wpAny_pure (wpAny_bind (nt (s:={s with toks:=s.toks+1}) J.type (wpAny_bind (nt (s:={s with toks:=s.toks+1}) (pO X ht) (wpAny_bind (wpAny_pure ?_))))));obtain⟨i,g,dr,t,os⟩:=s;obtain⟨oc,odi,l,M⟩:=ox;dsimp only at U hd u;subst U hd;have D:∀c,l≠.cls c:=λc z=>by subst z;cases G
 refine wpAny_bind (wpAny_pure (wpAny_bind (wpAny_bind (wpAny_loadPart u (wpAny_bind (nt (s:=⟨i,g,dr,t+1,os⟩) (Ac X m) ?_))))));rw[p];have k:(i.push {cls:=.type "dict",data:=.dict #[]}).get? x=aA ⟨.ref C,aF,l,M⟩:=bP _ u;have B:x≠i.objs.size:=c7 (bY u)
 have go:wpAny (aQ prog w) A.in1 (do
   let d ←alloc {cls:=.type "dict",data:=.dict #[]}
   update x λo=>{o with dict:=aA d}
   dictMade (.ref C) x d) (λa j=>wpAny (aQ prog w) A.in1 (match a with
    |some d=>Aj d (.str name t) name v
    |none=>Lz (.ref x) (.ref C) name aD) (λfin j=>match fin with|.done f=>(match (Except.ok f:mM) with|.ok (.ret _)=>Q () j|.ok _=>False|.error e=>E e j)|.again Z=>Z.quiet=aC/\fP (aQ prog w) A Z (λr j=>match r with|.ok (.ret _)=>Q () j|.ok _=>False|.error e=>E e j) j) (λe j=>E e j) j) (λe j=>E e j) ⟨i,g,dr,t+1,os⟩:=by
  refine wpAny_bind (wpAny_alloc' ?_);refine wpAny_bind (wpAny_update' k ?_);refine wpAny_pure ?_
  have P:((i.push {cls:=.type "dict",data:=.dict #[]}).update x λo=>{cls:=o.cls,dict:=aA i.objs.size,data:=o.data,slots:=o.slots}).get? i.objs.size
    = aA {cls:=.type "dict",data:=.dict #[]}:=
   (ow _ _ _ _ B.symm).trans (DY rfl rfl)
  have O:((i.push {cls:=.type "dict",data:=.dict #[]}).update x λo=>{cls:=o.cls,dict:=aA i.objs.size,data:=o.data,slots:=o.slots}).Ns i.objs.size (λ_=>aF):=
   ⟨_,#[],_,P,rfl,λe he=>absurd he (by simp),λ_=>rfl⟩
  show wpAny _ _ (Aj i.objs.size (.str name t) name v) _ _ _;unfold Aj LC;refine wpAny_bind (wpAny_pure (wpAny_bind (wpAny_nsSet1 (D7 O) λh' H hs=>?_)));obtain⟨oD,esD,epD,N,S,T⟩:=H.count (Dy name v Within.nil);refine wpAny_bind (Eo N (by rw[S];exact Em (cL T (by rw[eZ,lU,d5];lia))) ?_);refine wpAny_pure (h h' _ ?_ ?_ ?_)
  ·refine (hs.2 x B).trans (rF _ k ?_);have R:=(Heap.get?_some_iff.mp u).2;cases l<;>first|rfl|exact R
  ·obtain⟨o',es,ep,e1,e2,e3,eu,e4⟩:=H;exact⟨o',es,ep,e1,e2,e3,eu,λy=>by rw[e4 y]⟩
  ·intro b o V Y;exact (hs.2 b (c7 (bY Y))).trans ((ow _ _ _ _ V).trans (bP _ Y))
 cases l<;>first|exact absurd rfl (D _)|exact go
end
theorem yi{K:bK}(X:K.In h)(e:py K N=aC)(q:mU K N x=aA (aA v)):h.nsMap N x=aA v:=by
 obtain⟨o,es,ep,b,hd,_,f⟩:=(Heap.Ns.of_isNs (wv X e):h.Ns N (h.nsMap N));unfold mU at q;split at q
 ·rename_i c d i k j a;have:=X _ _ a;rw[b] at this;cases this;cases hd;split at q
  ·rename_i g;cases q;rw[←f];unfold nsFind findBy;rw[←EN,g];rfl
  ·split at q<;>cases q
 ·cases q
theorem hV.mro{K:bK}(x:hV K C HE fI fl):((mj K C).any λcd=>vV cd.mro)=aC:=by
 obtain⟨N,nm,q,bs,hd,sn,sub,ab,col,dd,k0,k1,k2,k3,k5,h,_⟩:=x.cls;unfold mj;rw[h];show vV (.ref C::.ref HE::zI)=aC;show vV zI=aC;decide
theorem hV.at_{K:bK}(x:hV K C HE fI fl)(X:K.In h):∃N nm q bs hd sn sub ab col dd k0 k1 k2 k3 k5,h.get? C=aA (iw nm q C N bs (.ref HE::zI) hd sn sub ab col dd k0 k1 k2 k3 k5 "ValueError.__new__")/\h.Ns N (h.nsMap N)/\h.nsMap N "__init__"=aA (.ref fI)/\me h zI (.ref HE::zI):=by
 obtain⟨N,nm,q,bs,hd,sn,sub,ab,col,dd,k0,k1,k2,k3,k5,h1,h2,l⟩:=x.cls;obtain⟨t,w,d,u,r,k,c,a,s,b,p,j,i,g,f,e,mN,o,n,m,v⟩:=Vy X x.he;exact⟨N,nm,q,bs,hd,sn,sub,ab,col,dd,k0,k1,k2,k3,k5,X _ _ h1,.of_isNs (wv X h2),yi X h2 l,.own o n m .base⟩
section
variable {X:Cx}{pins:List (aE×bB)}{s:Shared}{σ:St}{H:Hp}{C HE fI:aE}{fl:aG}
theorem RS (hN:X.N[1]?=aA par) (n:iI X.env.scope par) (hd:(par==("__debug__":aG))=aD) (j:(par==("__classdict__":aG))=aD) (P:a.length<=1000) (O:b.length<=1000) :
  PE X (.JoinedStr [.Constant (.str a) Y p1,.FormattedValue (.Name par M) (-1) aF J,.Constant (.str b) U G] E) (λσ H Q=>∃i:Int,σ[1]?=aA (aA (.int i))/\i.natAbs.log2<1920/\∀z,Q (.str z) H):=by
 rintro c s σ H Q I ⟨i,o,d,q⟩;have e:=Er (k:=1920) (by decide) d;have R:(e_ (toString i)).length<=1921:=by rw[E3];exact e
 refine DQ ?_;refine a7 (WO (x:=a) c s σ H (λv f=>v=.str a/\f=H) I ⟨rfl,rfl⟩) ?_;rintro u m ⟨v,f,y,r,rfl,rfl⟩;obtain⟨D,rfl⟩:=r;have L:(mh++a).length<=1000:=by rw[n8];show 0+a.length<=1000;lia
 refine⟨_,_,rfl,by rw[d5];lia,?_⟩;refine Fc (a7 (yr (i:=1) hN n hd j c m σ f (λv g=>v=.int i/\g=f) y ⟨_,o,rfl,rfl⟩) ?_);rintro u h ⟨v,g,w,r,rfl,rfl⟩;obtain⟨C,rfl⟩:=r;refine E2 d ?_;have K:(mh++a++e_ (toString i)).length<=3000:=by rw[n8];lia
 refine⟨_,_,rfl,by rw[d5];lia,?_⟩;have t:Inv X c σ g {h with toks:=h.toks+1+1}:=w.kept (h':=h.heap) λ_ _ q=>q;refine a7 (WO (x:=b) c _ σ g (λv f=>v=.str b/\f=g) t ⟨rfl,rfl⟩) ?_;rintro u l ⟨v,A,p,r,rfl,rfl⟩;obtain⟨B,rfl⟩:=r;have F:(mh++a++e_ (toString i)++b).length<=5000:=by rw[n8];lia
 refine⟨_,_,rfl,by rw[d5];lia,by rw[d5];lia,?_⟩;exact⟨.str _,A,p.kept (h':=l.heap) λ_ _ q=>q,⟨_,rfl⟩,q _⟩
theorem Te (hN:X.N[1]?=aA par) (l:iI X.env.scope par) (hd:(par==("__debug__":aG))=aD) (f:(par==("__classdict__":aG))=aD) (E:a.length<=1000) :
  PE X (.JoinedStr [.Constant (.str a) D p1,.FormattedValue (.Name par B) (-1) aF A] w) (λσ H Q=>∃i:Int,σ[1]?=aA (aA (.int i))/\i.natAbs.log2<1920/\∀z,Q (.str z) H):=by
 rintro b s σ H Q I ⟨i,m,c,q⟩;have e:=Er (k:=1920) (by decide) c;have F:(e_ (toString i)).length<=1921:=by rw[E3];exact e
 refine DQ ?_;refine a7 (WO (x:=a) b s σ H (λv d=>v=.str a/\d=H) I ⟨rfl,rfl⟩) ?_;rintro u j ⟨v,d,o,r,rfl,rfl⟩;obtain⟨t,rfl⟩:=r;have C:(mh++a).length<=1000:=by rw[n8];show 0+a.length<=1000;lia
 refine⟨_,_,rfl,by rw[d5];lia,?_⟩;refine Fc (a7 (yr (i:=1) hN l hd f b j σ d (λv g=>v=.int i/\g=d) o ⟨_,m,rfl,rfl⟩) ?_);rintro u h ⟨v,g,n,r,rfl,rfl⟩;obtain⟨p,rfl⟩:=r;refine E2 c ?_;have y:(mh++a++e_ (toString i)).length<=3000:=by rw[n8];lia
 refine⟨_,_,rfl,by rw[d5];lia,by rw[d5];lia,?_⟩;exact⟨.str _,g,n.kept (h':=h.heap) λ_ _ q=>q,⟨_,rfl⟩,q _⟩
noncomputable def JW(par:aG)(c:List aH):Prop:=
 (∃(a b:aG) (f h:Nat) (p1 e d g:Pos),c=[.Constant (.str a) f p1,.FormattedValue (.Name par e) (-1) aF d,.Constant (.str b) h g]/\a.length<=1000/\b.length<=1000)\/
 ∃(a:aG) (f:Nat) (p1 e d:Pos),c=[.Constant (.str a) f p1,.FormattedValue (.Name par e) (-1) aF d]/\a.length<=1000
theorem z01 (hN:X.N[1]?=aA par) (f:iI X.env.scope par) (hd:(par==("__debug__":aG))=aD) (c:(par==("__classdict__":aG))=aD) (h:JW par d) :
  PE X (.JoinedStr d r) (λσ H Q=>∃i:Int,σ[1]?=aA (aA (.int i))/\i.natAbs.log2<1920/\∀z,Q (.str z) H):=by
 rcases h with⟨a,b,k,n,p1,j,g,m,rfl,e,l⟩|⟨a,k,p1,j,g,rfl,e⟩
 ·exact RS hN f hd c e l
 ·exact Te hN f hd c e
theorem Y6 (T:hV X.K C HE fI fl) (E:X.N[0]?=aA d) (p:iI X.env.scope d) (A:(d==("__debug__":aG))=aD) (n:(d==("__classdict__":aG))=aD)
  (hN:X.N[1]?=aA par) (hv:iI X.env.scope par) (hd:(par==("__debug__":aG))=aD) (D:(par==("__classdict__":aG))=aD) (y:JW par g)
  (hB:Gl X B) (hm:X.mg B=aA (.ref HE)) (G:(B==("__debug__":aG))=aD) (v:mu X.K (.ref HE) "__getattribute__"=aA (aA (.builtin "type.__getattribute__"))) (hr:s_ X.K HE (.type "type")=aC)
  (hf:sZ X.K (.ref HE) (.type "type") "__init__"=aA (.val (.builtin "ValueError.__init__"))) (f:(M.endLine==r.line)=aC) :
  PE X (.Call (.Attribute (.Name B q0) "__init__" M) [.Name d q2,.JoinedStr g p5] [] r) (λσ H Q=>∃(x:aE) (i:Int),σ[0]?=aA (aA (.ref x))/\σ[1]?=aA (aA (.int i))/\i.natAbs.log2<1920/\H x=aA (.ext (u5 x C))/\Q .non (upd H x (.ext (u5 x C)))):=by
 rintro c s σ H Q I ⟨x,i,h0,S,m,R,q⟩;rw[tQ];refine wpAny_bind (wA I hB hm ?_ G);refine wpAny_bind (ie ?_);have l:m9 aC (.Name B q0) X.env M r=pure r:=by unfold m9;simp[f]
 unfold nX;refine wpAny_bind (wpAny_holding (PySem.W.method_cls I.kIn v (PySem.W.cls_value I.kIn hr hf rfl ?_)));refine wpAny_bind (ml l ?_);have I1:Inv X c σ H {s with toks:=s.toks+1}:=I.kept (h':=s.heap) λ_ _ q=>q;have pa:PA X [.Name d q2,.JoinedStr g p5] _:=zr (yr (i:=0) E p A n) (zr (z01 hN hv hd D y) zZ);refine PySem.W.callWith_of (P:=λ_=>True) (first:=[]) rfl (λh _=>⟨.machine,.inr (.inl rfl),Dj rfl⟩) (rL (a7 (pa r c _ σ H (λL H1=>∃z,L=[.ref x,.str z]/\H1=H) I1 ⟨_,h0,i,S,m,λz=>⟨z,rfl,rfl⟩⟩) ?_));rintro U a ⟨L,H2,J,V,z,rfl,rfl⟩;obtain⟨j,rfl⟩:∃j,U=[.ref x,j]:=by
  cases V with
  |cons r1 Z=>cases Z with
   |cons r3 Y=>cases Y;cases r1;exact⟨_,rfl⟩
 refine⟨trivial,?_⟩;obtain⟨N,nm,qn,bs,hdd,sn,sub,ab,col,dd,k0,O,k2,k3,k5,g1,g2,g3,g4⟩:=T.at_ J.kIn;obtain⟨t,ex⟩:u5 x C a.heap:=(show aY X.prog X.w H2 a.heap x (.ext (u5 x C)) from J.hok _ _ R).1;refine Wp (rest:=[j]) oJ g4 g1 ex rfl rfl rfl ?_ (by rw[d5];show 1<=_;lia);have lt:x<a.heap.objs.size:=bY ex;have ex1:=bP (h:=a.heap) {cls:=.type "tuple",data:=.seq [j].toArray} ex;have O:∀b u,b≠x->a.heap.get? b=aA u->((a.heap.push {cls:=.type "tuple",data:=.seq [j].toArray}).update x (i_ (·.setIfInBounds 0 (.ref a.heap.objs.size)))).get? b=aA u:=λb u hb hu=>by
  rw[nj _ _ (cE hb)];exact bP _ hu
 have ex2:((a.heap.push {cls:=.type "tuple",data:=.seq [j].toArray}).update x (i_ (·.setIfInBounds 0 (.ref a.heap.objs.size)))).get? x=aA {cls:=.ref C,data:=.fields #[.ref a.heap.objs.size,.none,.none,.none,.bool aD,.none]}:=by
  rw[rF _ ex1 rfl];rfl
 exact⟨.non,_,J.write (x:=x) (e:=x) (o:=.ext (u5 x C)) (t':=a.toks) (by rw[R];exact gw) (.inl rfl) O ⟨_,ex2⟩ ⟨⟨_,ex2⟩,⟨_,ex2⟩,λS h2 ⟨t,e⟩ k=>⟨t,k _ e⟩⟩,rfl,q⟩
theorem Jd (m:hV X.K C HE fI fl) (F:X.N[0]?=aA d) (y:iI X.env.scope d) (B:(d==("__debug__":aG))=aD) (l:(d==("__classdict__":aG))=aD)
  (hN:X.N[1]?=aA par) (Q:iI X.env.scope par) (hd:(par==("__debug__":aG))=aD) (E:(par==("__classdict__":aG))=aD) :
  PS X (.Assign [.Attribute (.Name d q0) fl q1] (.Name par q2) q3) (λD σ H=>∃(x:aE) (i:Int),σ[0]?=aA (aA (.ref x))/\σ[1]?=aA (aA (.int i))/\H x=aA (.ext (u5 x C))/\∀dx,H dx=aF->dx≠x->D.nx σ (upd (upd H x (.ext (ZW x C dx))) dx (.xd [(fl,.int i)]))):=by
 rintro a s σ H D I ⟨x,i,W,L,J,q⟩;refine plainObj_wpAny_Assign_Attribute (a7 (yr (i:=1) hN Q hd E a s σ H (λv n=>v=.int i/\n=H) I ⟨_,L,rfl,rfl⟩) ?_) rfl;rintro u O ⟨v,n,I1,r,rfl,rfl⟩;refine a7 (yr (i:=0) F y B l a O σ n (λv g=>v=.ref x/\g=n) I1 ⟨_,W,rfl,rfl⟩) ?_;rintro ov c ⟨v,g,j,P,rfl,rfl⟩;cases P;obtain⟨t,ex⟩:u5 x C c.heap:=(show aY X.prog X.w g c.heap x (.ext (u5 x C)) from j.hok _ _ J).1;refine R9 j.kIn ex rfl rfl rfl m.sa m.mro m.no m.dct λY M G e2 Z=>?_;have lt:x<c.heap.objs.size:=bY ex;have T:g c.heap.objs.size=aF:=j.hok.fresh (bC _);have ne:c.heap.objs.size≠x:=gU lt;refine⟨σ,_,?_,q _ T ne⟩;have h:dL X g c.heap.objs.size:=vS j (iS (bC _));have A:∀p∈a,p.1≠c.heap.objs.size:=λp S z=>by
  have:=(j.pin p (dF _ S)).1;rw[z,iS (bC _)] at this;cases this
 have I3:Inv X a σ (upd g x (.ext (ZW x C c.heap.objs.size))) {c with heap:=Y,toks:=M}:=j.write (x:=x) (e:=x) (by rw[J];exact gw) (.inl rfl) (λb u U R=>Z b u U R) ⟨_,G⟩ ⟨⟨t,G⟩,⟨_,G⟩,λL h2 ⟨t,e⟩ k=>⟨t,k _ e⟩⟩;have o:dL X (upd g x (.ext (ZW x C c.heap.objs.size))) c.heap.objs.size:=⟨by rw[z8 ne];exact h.free,h.loc,h.nfs,h.new,h.cel,h.pin⟩;refine wX I3 o A ⟨_,e2,λf=>?_⟩;show dB (gR f [(fl,V.int i)]) (if f=fl then aA u else aF);by_cases z:f=fl
 ·subst z;rw[if_pos rfl];simp only[gR,beq_self_eq_true];exact r
 ·rw[if_neg z];have:(f==fl)=aD:=beq_eq_false_iff_ne.mpr z;simp only[gR,this];exact trivial
end
def UX(body:List bE)(B b par fl:aG):Prop:=∃(k d j l c i h g f e:Pos) (a:List aH),
 body=[.Expr (.Call (.Attribute (.Name B k) "__init__" d) [.Name b j,.JoinedStr a l] [] c) i,.Assign [.Attribute (.Name b h) fl g] (.Name par f) e]/\(d.endLine==c.line)=aC/\JW par a
noncomputable def oW(a par B:aG)(sc:Scope):Bool:=(sc.kind==.function)&&!sc.isCoroutine&&!sc.isGenerator&&(a != par)&&(sc.names.lookup a==aA .local)&&(sc.names.lookup par==aA .local)&&sc.names.all (λy=>y.2 != .free)&&(sc.names.lookup B==aA .globalImplicit)&&
 (a != ("__debug__":aG))&&(a != ("__classdict__":aG))&&(par != ("__debug__":aG))&&(par != ("__classdict__":aG))&&(B != ("__debug__":aG))
section
variable {P:Program}{w:World}{K:PySem.W.Frag}{mg:aG->Option aB}{base:aR}{C HE fI:aE}{fl:aG}{k:Nat}
structure CW(K:PySem.W.Frag)(mg:aG->Option aB)(HE:aE)(B:aG):Prop where
 mg:mg B=aA (.ref HE)
 ga:mu K (.ref HE) "__getattribute__"=aA (aA (.builtin "type.__getattribute__"))
 rd:s_ K HE (.type "type")=aC
 fc:sZ K (.ref HE) (.type "type") "__init__"=aA (.val (.builtin "ValueError.__init__"))
theorem MU{CX:lw}{name qual a par B:aG}{params:Arguments}{body:List bE}{scope:Scope}{I kV doc G b ct L:aB}{an od:Option aE}{n:Array (Option aB)}
  (F:hV K C HE fI fl) (hi:CW K mg HE B) (lk:K.lookup fI=aA ⟨L,od,.func (fA name qual params body scope I kV doc G an b ct),n⟩) (r:fD K b qual=aC) (M:UX body B a par fl) (hs:oW a par B scope=aC) :
  bQ P w K mg base CX (k+1) fI (fA name qual params body scope I kV doc G an b ct) [a,par] (iB C fl):=by
 simp only[oW,cI,fQ,beq_iff_eq,ng,bne_iff_ne,ne_eq] at hs;obtain⟨⟨⟨⟨⟨⟨⟨⟨⟨⟨⟨⟨X,V⟩,U⟩,T⟩,u⟩,t⟩,R⟩,O⟩,N⟩,D⟩,z⟩,y⟩,v⟩:=hs;have S:cQ [a,par] [a,par] scope:=⟨X,V,U,by simp[T],rfl,λx c=>by
  rcases cC.mp c with rfl|c
  ·exact .inl u
  ·rw[bU.mp c];exact .inl t,R⟩
 obtain⟨q0,q1,q2,p5,q4,q5,r0,r1,r2,r3,l,rfl,Z,Y⟩:=M;refine G9 (fnb:=λ_=>aC) lk r S (λJ H Q E q=>by obtain⟨x,i,rfl,_⟩:=q;rfl) λA m s H J Q E hr o _=>?_;obtain⟨x,i,rfl,d,c,q⟩:=o;have g:(a==("__debug__":aG))=aD:=beq_eq_false_iff_ne.mpr N;have j:(a==("__classdict__":aG))=aD:=beq_eq_false_iff_ne.mpr D;have f:(par==("__debug__":aG))=aD:=beq_eq_false_iff_ne.mpr z;have h:(par==("__classdict__":aG))=aD:=beq_eq_false_iff_ne.mpr y;have p:(B==("__debug__":aG))=aD:=beq_eq_false_iff_ne.mpr v;refine⟨_,Zi (WK (Y6 (C:=C) (HE:=HE) (fI:=fI) (fl:=fl) F rfl (.inl u) g j rfl (.inl t) f h Y O hi.mg p hi.ga hi.rd hi.fc Z)) (Xj (Jd (C:=C) (HE:=HE) (fI:=fI) F rfl (.inl u) g j rfl (.inl t) f h)),?_⟩;refine⟨x,i,rfl,rfl,d,c,x,i,rfl,rfl,z4,λdx e ne=>?_⟩;rw[Va];exact q dx (by rw[z8 ne] at e;exact e) ne
end
section
variable {P:Program}{w:World}{K:PySem.W.Frag}{mg:aG->Option aB}{base:aR}{C HE fI:aE}{fl:aG}{k:Nat}
theorem Op{f:aE}{name qual:aG}{params:Arguments}{body:List bE}{scope:Scope}{dV kV doc Z d ct oc:aB}{an od:Option aE}
  {F:Array (Option aB)} {N ps:List aG} {sp:Sp} (lk:K.lookup f=aA ⟨oc,od,.func (fA name qual params body scope dV kV doc Z an d ct),F⟩) (M:fD K d qual=aC) (S:cQ N ps scope)
  (len:∀vs H Q E,sp vs H Q E->vs.length=ps.length)
  (i:∀(X:Cx) (H:Hp) (vs:List V) (Q:VK),X.K=K->X.mg=mg->X.N=N->X.env.scope=scope->sp vs H Q (λ_ _ _=>False)->
   ∃t,gG X body t/\t {nx:=λ_ j=>Q .non j,rt:=Q} (start N vs) H) :
  uS P w K mg base (k+1) f (fA name qual params body scope dV kV doc Z an d ct) ps sp:=by
 intro A c s H args us vs Q hr e0 hb r m;have hl:=len _ _ _ _ m;have KX:K.In s.heap:=e0.mod.kin.keeps λb o e=>(e0.bs b o e).1;have G:s.heap.NoLimit:=e0.mod.nolimit.keeps λb o e=>(e0.bs b o e).1;have n:∀y∈ps.zip us,scope.names.lookup y.1=aA .local\/(scope.names.lookup y.1=aA .cell/\((pF (s.heap.objs.size+1) scope.names []).lookup y.1).isSome=aC):=by
  rintro⟨y,v⟩ hy;rcases S.par y (rA hy).1 with z|z
  ·exact .inl z
  ·exact .inr ⟨z,Aa _ _ _ (.inl z)⟩
 have L:A.depth<recursionLimit:=by have:=hr.dp;lia
 refine wS L (KX _ _ lk) rfl S.co S.gen rfl (EL KX M) (hb _ _ _ _ (Ap S.kind n λenv he Y x=>?_));subst he;refine⟨G.keeps x.toInCall.keep,tB ?_⟩;have O:dI P w K mg base {A with handled:=aF} c s H:=⟨e0.frames,e0.mod,e0.bs,e0.bsz,e0.funs,e0.frf,e0.hok,e0.bare⟩;have a:=yj (fnb:=λ_=>aC) (CX:=λ_ _ _ _ _ _=>False) (E:=λ_ _ _=>False) (f:=f) (cd:=d) (qual:=qual) (A:={A with handled:=aF}) S rfl O hl r x;generalize l:({JB (λ_ _ _ _ _ _=>False) P w K mg base N qual scope f d A c s H (λ_ _ _=>False) with calm:=aD,xe:=λ_ _=>False}:Cx)=X;have I:Inv X [] (start N vs) H Y:=by
  subst l;exact⟨⟨a.ok.mod,a.ok.kind,a.ok.glob,a.ok.blt,a.ok.above,a.ok.inj,a.ok.has,a.ok.cab,(λh=>by cases h),Ae e0.frames,a.ok.stk,a.ok.exf,a.ok.bs,a.ok.bsz,a.ok.noex,a.ok.exfs,a.ok.funs,a.ok.frf⟩,a.os,a.bare,a.base,a.loc,a.cell,a.free,a.freeC,a.pin,a.hok,a.len⟩
 obtain⟨t,ht,hq⟩:=i X H vs Q (by subst l;rfl) (by subst l;rfl) (by subst l;rfl) (by subst l;rfl) m;have B:=ht [] Y (start N vs) H _ I hq;have XA:X.A=A.deeper (f8 qual scope s.heap.objs.size f d):=by rw[←l];rfl
 have Xp:X.prog=P/\X.w=w/\X.env=f8 qual scope s.heap.objs.size f d/\(∀e s,X.xe e s->False)/\X.fs=eY c/\X.H₀=H/\X.s₀=s/\X.ex=[]:=by
  subst l;exact⟨rfl,rfl,rfl,λ_ _ z=>z,rfl,rfl,rfl,rfl⟩
 obtain⟨U,T,x3,x4,x5,x6,R,x8⟩:=Xp;rw[XA,U,T,x3] at B;refine dR B (λfl p C=>?_) λe p z=>(x4 e p z).elim;have fin:∀{g:St} {j:Hp} {v:V} {u:aB},Inv X [] g j p->RelV v u->Q v j->CE c P w H s Q u p:=λ{g j v u} J D q=>by
  have b:=J.base;have o:=J.os;have h:=J.hok;rw[x5,x6,R,x8] at b;rw[R] at o;rw[U,T] at h;exact⟨v,j,o,J.bare,b,h,D,q⟩
 cases fl with
 |ret u=>obtain⟨v,g,j,J,D,q⟩:=C;exact fin J D q
 |next=>obtain⟨g,j,J,q⟩:=C;exact fin (v:=V.non) (u:=eU) J rfl q
 |brk=>obtain⟨_,_,_,q⟩:=C;exact q.elim
 |cont=>obtain⟨_,_,_,q⟩:=C;exact q.elim
theorem O6{name qual a par B:aG}{params:Arguments}{body:List bE}{scope:Scope}{F kV doc D b ct I:aB}{an od:Option aE}{n:Array (Option aB)}
  (A:hV K C HE fI fl) (hi:CW K mg HE B) (lk:K.lookup fI=aA ⟨I,od,.func (fA name qual params body scope F kV doc D an b ct),n⟩) (r:fD K b qual=aC) (J:UX body B a par fl) (hs:oW a par B scope=aC) :
  uS P w K mg base (k+1) fI (fA name qual params body scope F kV doc D an b ct) [a,par] (iB C fl):=by
 simp only[oW,cI,fQ,beq_iff_eq,ng,bne_iff_ne,ne_eq] at hs;obtain⟨⟨⟨⟨⟨⟨⟨⟨⟨⟨⟨⟨U,T⟩,R⟩,O⟩,t⟩,s⟩,N⟩,M⟩,L⟩,z⟩,y⟩,v⟩,u⟩:=hs;have S:cQ [a,par] [a,par] scope:=⟨U,T,R,by simp[O],rfl,λx c=>by
  rcases cC.mp c with rfl|c
  ·exact .inl t
  ·rw[bU.mp c];exact .inl s,N⟩
 obtain⟨q0,q1,q2,p5,q4,q5,r0,r1,r2,r3,m,rfl,c5,c6⟩:=J;refine Op lk r S (λG H Q E q=>by obtain⟨x,i,rfl,_⟩:=q;rfl) λX H G Q Z Y l V o=>?_;obtain⟨x,i,rfl,d,c,q⟩:=o;have g:(a==("__debug__":aG))=aD:=beq_eq_false_iff_ne.mpr L;have j:(a==("__classdict__":aG))=aD:=beq_eq_false_iff_ne.mpr z;have f:(par==("__debug__":aG))=aD:=beq_eq_false_iff_ne.mpr y;have h:(par==("__classdict__":aG))=aD:=beq_eq_false_iff_ne.mpr v;have p:(B==("__debug__":aG))=aD:=beq_eq_false_iff_ne.mpr u;subst Z Y V;refine⟨_,Zi (WK (Y6 (C:=C) (HE:=HE) (fI:=fI) (fl:=fl) A (by rw[l];rfl) (.inl t) g j (by rw[l];rfl) (.inl s) f h c6 M hi.mg p hi.ga hi.rd hi.fc c5)) (Xj (Jd (C:=C) (HE:=HE) (fI:=fI) A (by rw[l];rfl) (.inl t) g j (by rw[l];rfl) (.inl s) f h)),?_⟩;refine⟨x,i,rfl,rfl,d,c,x,i,rfl,rfl,z4,λdx e ne=>?_⟩;rw[Va];exact q dx (by rw[z8 ne] at e;exact e) ne
theorem HM{CX:lw}{name qual a par B:aG}{params:Arguments}{body:List bE}{scope:Scope}{f kV doc d b ct i:aB}{an od:Option aE}{e:Array (Option aB)}
  (g:hV K C HE fI fl) (hi:CW K mg HE B) (lk:K.lookup fI=aA ⟨i,od,.func (fA name qual params body scope f kV doc d an b ct),e⟩) (c:fD K b qual=aC) (h:UX body B a par fl) (hs:oW a par B scope=aC) :
  bQ P w K mg base CX (k+1) fI (fA name qual params body scope f kV doc d an b ct) [a,par] (iB C fl)/\uS P w K mg base (k+1) fI (fA name qual params body scope f kV doc d an b ct) [a,par] (iB C fl):=⟨MU g hi lk c h hs,O6 g hi lk c h hs⟩
end
section
variable {X:Cx}{pins:List (aE×bB)}{s:Shared}{σ:St}{H:Hp}
theorem VD(I:Inv X pins σ (upd H x (.ext φ)) s)(k:H x=aF):Inv X pins σ H s:=by
 have h:∀b,upd H x (.ext φ) b=aF->H b=aF:=λb e=>by
  by_cases z:b=x
  ·rw[z];exact k
  ·rw[z8 z] at e;exact e
 have d:∀b o,upd H x (.ext φ) b=aA o->(∀a,o≠.ext a)->H b=aA o:=λb o e n=>by
  by_cases z:b=x
  ·rw[z,z4] at e;cases e;exact absurd rfl (n φ)
  ·rw[z8 z] at e;exact e
 refine⟨I.ok,I.os,I.bare,⟨I.base.keep,I.base.slot,λb o e n i=>h b (I.base.free b o e n i),I.base.there,λb j e=>d b _ (I.base.tups b j e) (λa z=>by cases z),λb o u e=>d b _ (I.base.frzs b o u e) (λa z=>by cases z),λb l e=>?_⟩,I.loc,I.cell,h _ I.free,λy c e=>(I.freeC y c e).imp (h _) λ⟨n,o,u,f⟩=>⟨n,o,u,d c _ f (λa z=>by cases z)⟩,λp t=>?_,λb m e=>?_,I.len⟩
 ·obtain⟨g,q⟩:=I.base.tbls b l e;exact⟨g,d b _ q (λa z=>by cases z)⟩
 ·obtain⟨e,n,r⟩:=I.pin p t;exact⟨e,h _ n,r⟩
 ·have ne:b≠x:=λz=>by rw[z,k] at e;cases e
  have q:=I.hok b m (by rw[z8 ne];exact e);exact q.stay (λ_ _ _ q=>q) (λc q=>d c _ q (λa z=>by cases z)) λc j q=>d c _ q (λa z=>by cases z)
end
section
variable {X:Cx}{D:DP}{W:XW}{Γ:Cn}{k:Nat}{pins:List (aE×bB)}{s:Shared}{σ:St}{H:Hp}{φ α:List aE}{τ:Sl}{μ:aK}{a:aH}{pos:Pos}{E:Ends}{g:De}
theorem S8{H:Hp}{x y:aE}{a b:HO}(h:x≠y):upd (upd H x a) y b=upd (upd H y b) x a:=by
 funext c;by_cases z:c=y
 ·subst z;rw[z4,z8 (cE h),z4]
 ·rw[z8 z];by_cases d:c=x
  ·subst d;rw[z4,z4]
  ·rw[z8 d,z8 d,z8 z]
theorem Sn(L:hV X.K C HE fI fl)(U:Binds X.K fd ps [])(P:bZ (kk+1) X.A)
  (F:bQ X.prog X.w X.K X.mg X.base (dD X.prog X.w) kk fI fd ps (iB C fl)) (I:Inv X pins σ H s) (r:RelV (.int i) u) (b:i.natAbs.log2<1920)
  (q:∀x dx t j,Inv X pins σ (upd H dx (.xd [(fl,.int i)])) j->H dx=aF->dL X H x->dx≠x->j.heap.get? x=aA {cls:=.ref C,dict:=aA dx,data:=.fields #[.ref t,.none,.none,.none,.bool aD,.none]}->Q (.ref x) j) :
  wpAny (aQ X.prog X.w) X.A (call (.ref C) [u]) Q X.xe s:=by
 obtain⟨N,nm,qn,bs,T,sn,sub,ab,col,dd,k0,k1,k2,k3,k5,Z,Y,W,V⟩:=L.at_ I.kIn;obtain⟨y,gf,gc⟩:∃y,s.heap.get? fI=aA y/\y.cls=.type "function":=by
  obtain⟨o,g,e⟩:=lX.mp L.fn;exact⟨o,I.kIn _ _ g,e⟩
 obtain⟨hh,gg,d,f,os⟩:=s;refine Yx oJ V Z Y W gf gc (λh x mk=>?_) (by rw[d5];show 1<=_;lia);have J:Inv X pins σ H ⟨h,gg,d,f,os⟩:=I.kept (t':=f) mk.keeps;have n:dL X H x:=vS I mk.new;have B:∀p∈pins,p.1≠x:=λp R z=>by
  have:=(I.pin p (dF _ R)).1;rw[z,mk.new] at this;cases this
 obtain⟨t,g,_,_⟩:=mk.there;have G:Inv X pins σ (upd H x (.ext (u5 x C))) ⟨h,gg,d,f,os⟩:=wX J n B ⟨⟨t,g⟩,⟨_,g⟩,λh h2 ⟨t,e⟩ k=>⟨t,k _ e⟩⟩;have O:aW [.ref x,.int i] [.ref x,u]:=.cons rfl (.cons r .nil);have S:([cO x,u]++[]).length=ps.length:=by
  have:=F.len [.ref x,.int i] (upd H x (.ext (u5 x C))) (λ_ _=>True) (λ_ _ _=>False) ⟨x,i,rfl,b,z4,λ_ _ _=>trivial⟩;exact this
 refine iN (i8 (F.run _ X.stack ⟨h,gg,d,f,os⟩ (upd H x (.ext (u5 x C))) ⟨[.ref x,u],[]⟩ [.ref x,u] [.ref x,.int i] (λv M=>v=.non/\∃dx,H dx=aF/\dx≠x/\M=upd (upd H x (.ext (ZW x C dx))) dx (.xd [(fl,.int i)])) (λ_ _ _=>False) (P.make C [u] []) (G.env0.make C [u] []) (by simpa using U _ [.ref x,u] G.kIn S) O
  ⟨x,i,rfl,b,z4,λdx a ne=>⟨rfl,dx,by rw[z8 ne] at a;exact a,ne,by rw[Va]⟩⟩) λm j c=>?_)
 cases m with
 |error e=>
  obtain⟨_,_,_,_,_,_,_,_,_,_,_,_,_,_,_,z⟩:=c;exact z.elim
 |ok D=>
  cases D with
  |ret v=>
   obtain⟨v',M,E,l,⟨rfl,dx,a,ne,rfl⟩⟩:=G.after c;refine⟨l,?_⟩;obtain⟨t',e'⟩:ZW x C dx j.heap:=(show aY X.prog X.w _ j.heap x (.ext (ZW x C dx)) from E.hok x _ (by rw[z8 (cE ne),z4])).1;rw[S8 (cE ne)] at E;have I4:=VD E (by rw[z8 (cE ne)];exact n.free);exact q x dx t' j I4 a n ne e'
  |next=>exact eG c
  |brk=>exact eG c
  |cont=>exact eG c
noncomputable def hash(m:aG):aG:=⟨#[35]++m.cps⟩
theorem Ur(C:Sk D W Γ X k)(hc:Γ.calm=aC)(hx:x∈Γ.G)(hU:hash x∈Γ.U)(hg:Γ.gl (hash x)=.xin n f x fl)(O:aO a=aC)(ha:PE X a (aX D W g)) :
  PS X (.Raise (aA (.Call (.Name x p0) [a] [] p1)) aF pos) (dS D W (u9 n f g)):=by
 rintro M s T H E I ⟨B,α,S,μ,sr,mr,p⟩;have q:=(C.glU _ hU).1;rw[hg] at q;obtain⟨C0,HE,fI,fd,ps,kk,ad,hm,hfl,Z,hb,hkk,F,_⟩:=q;have hr:=(C.rom hc).mono hkk;obtain⟨N,nm,qn,bs,hdd,sn,sub,ab,col,dd,k0,k1,k2,k3,k5,g1,g2,g3,g4⟩:=Z.at_ I.ok.mod.kin;have h:(cO HE::zI).contains (.type "BaseException")=aC:=g4.hasType oJ.hasBase
 have body:wpAny (aQ X.prog X.w) X.A (eval (.Call (.Name x p0) [a] [] p1) X.env) (λv R=>∃e t dx,v=.ref e/\R.heap.get? C0=aA (iw nm qn C0 N bs (.ref HE::zI) hdd sn sub ab col dd k0 k1 k2 k3 k5 "ValueError.__new__")/\
   R.heap.get? e=aA {cls:=.ref C0,dict:=dx,data:=.fields #[.ref t,.none,.none,.none,.bool aD,.none]}/\X.xe (.ref e) R) X.xe s:=by
  refine wpAny_Call_ofName (wA I (C.glb x hx) hm ?_ (C.dbG x hx));refine oo (K:=X.K) (first:=[]) (h₀:=X.base) I.ok.mod.kin Z.kp (a7 (zr ha zZ (z3 O) p1 M s T H (λvs j=>∃v t l b,vs=[v]/\aP α H b j/\bA D B b j S T/\aM D B b j l/\a_ D B b j t v/\aL D W B b j E ((match t with
   |.int i=>.grd (i.natAbs.log2<1920) (.ex n [(f,.int i)] S l)
   |_=>.st:cK))) I ⟨B,α,S,μ,sr,mr,(aL.out sr p).mono λt V Y H' st m q v d=>⟨v,t,V,Y,rfl,st,sr.step st,m,d,q⟩⟩) ?_) (z3 O) rfl
  rintro us R ⟨vs,j,I1,rv,v,t,l,b,rfl,st1,sr1,o,d1,p1⟩;obtain⟨u,rfl,r⟩:∃u,us=[u]/\RelV v u:=by
   cases rv with
   |cons r1 r2=>cases r2;exact⟨_,rfl,r1⟩
  refine⟨I1.kIn,?_⟩;cases t<;>first|(obtain⟨Q,q,_⟩:=p1;exact q.elim)|skip
  rename_i i;obtain⟨P,p2⟩:=aL.grd p1;cases d1;refine Sn Z hb hr F I1 r P λe dx t s' I2 y z ne he=>?_;refine⟨e,t,aA dx,rfl,I2.bk _ _ g1,he,C.xe _ _ ?_⟩;have sm:ju j (upd j dx (.xd [(fl,.int i)])):=za y;have L:aP b j b (upd j dx (.xd [(fl,.int i)])):=aP.new sm;refine⟨e,.ref C0,aA dx,T,_,aF,.none,rfl,I2.pins_of (λp hp=>absurd hp (by simp)),⟨by rw[z8 (cE ne)];exact z.free,z.loc,z.nfs,z.new,z.cel,z.pin⟩,λt ht=>absurd ht (by simp),⟨⟨_,_,.ref t,he,⟨rfl,rfl⟩,rfl,rfl,rfl,λ_ _=>rfl⟩,rfl⟩,.inl rfl,?_⟩;refine aL.ex p2 L (o.new sm) (sr1.step L) (.own C0 ad rfl) ⟨_,zh o y,zi o y,z4,?_⟩;exact⟨fl,.int i,[],hfl,rfl,rfl,rfl⟩
 rw[arm_exec_Raise]
 first
  |exact wpAny_bind (ie (uR h (I.ok.hd (C.clm hc)) (wpAny_bind (dR body (λv J c=>wpAny_bind (ie (wpAny_pure c))) λ_ _ x=>x))))
  |(simp only[evalOpt,Option.map];exact wpAny_bind (ie (uR h (I.ok.hd (C.clm hc)) (wpAny_bind (dR body (λv J c=>wpAny_bind (ie (wpAny_pure c))) λ_ _ x=>x)))))
end
def F7:GM->Option (Nat×Nat×aG×aG)
 |.xin c f nm fl=>aA (c,f,nm,fl)
 |_=>aF
theorem RD(h:F7 g=aA q):g=.xin q.1 q.2.1 q.2.2.1 q.2.2.2:=by cases g<;>first|(cases h;rfl)|cases h
def HY:SR:=λr b s=>(rV s).bind λe=>(xF e).bind λq=>(ZV q.as).bind λa=>gd (b.calm&&b.G.contains q.x) (gd (b.U.contains (hash q.x)&&aO a) ((r.e b a).bind λg=>(F7 (b.gl (hash q.x))).bind λw=>gd ((cF b.N q.x).isNone&&w.2.2.1==q.x) (aA (u9 w.1 w.2.1 g))))
theorem Yu:o7 D HY:=by
 intro r H X W s k e d C h;obtain⟨u,l,h⟩:=aS h;obtain⟨q,j,h⟩:=aS h;obtain⟨a,i,h⟩:=aS h;obtain⟨f,h⟩:=z7 h;obtain⟨c,h⟩:=z7 h;obtain⟨g,p,h⟩:=aS h;obtain⟨w,o,h⟩:=aS h;obtain⟨n,h⟩:=z7 h;cases h;obtain⟨t,m⟩:=Yg l;rw[m,qV j,wx i];have b:=RD o;rw[zW (zu n).2] at b;exact Ur C (zu f).1 (by simpa using (zu f).2) (by simpa using (zu c).1) b (zu c).2 (H.e C.toCk p)
noncomputable abbrev zaR(n:Nat)(o f:De):De:=λd e=>(o d e).bind λt c=>(ZT t n c).bind λw b=>.grd (Gf w) ((f d b).bind λ_ a=>.ok .non a)
abbrev zaU(j:Nat):De:=λ_ (a:aK) K _=>(∃i:Nat,a[i]?=aA (MO.tab j))/\K (.clo (2*j) [.clo (100+j) []]) a
noncomputable def zaW:aG:=⟨#[37]⟩
noncomputable def sw(m:aG):aG:=⟨#[126]++m.cps⟩
section
variable {X:Cx}{pins:List (aE×bB)}{s:Shared}{σ:St}{H:Hp}{c:aH}
theorem Vs{A:dU}{E:aB->aU->Prop}{ad C0 dx:aE}{a:List (aG×V)}{m:aG}{v:V}{b:Sem Bool}{Q:aB×List aB->aU->Prop}(I:Inv X pins σ H s)(e:H ad=aA (.ins C0 dx a))(c:gM X.K C0)(n:cH X.K C0 m)(l:a.lookup m=aA v)
  (h:∀u d,Inv X pins σ H d->RelV v u->Q (u,[]) d):wpAny (aQ X.prog X.w) A (sQ (.ref ad) m b) Q E s:=by
 obtain⟨g,O,r,_,_,_⟩:=xP I.hok e;obtain⟨f,J,i⟩:=O.look;exact PySem.W.method_usual I.kIn J (oF (c.get m)).1 (oF (c.get m)).2 n rfl (ZA I e c n l h)
end
theorem uO:∀{l:List (aG×Nat)},l.lookup x=aA n->(x,n)∈l
 |[],h=>by cases h
 |(y,m)::r,h=>by
  rw[gm] at h;split at h
  ·rename_i e;have e:=beq_iff_eq.mp e;cases h;rw[e];exact d9
  ·exact dQ _ (uO h)
section
variable {K:PySem.W.Frag}{k n:Nat}
theorem QJ(hd:fd.defaults=.ref d)(ho:K.lookup d=aA o)(hs:o.data=.seq items n)(h:∀us:List aB,us.length=ps.length->∃k,lH fd ⟨us,[]⟩=mQ fd.defaults >>= k/\k (aA items)=pure (ps.zip us)):Binds K fd ps []:=λs us X a=>by
 rw[gA] at a ⊢;obtain⟨k,c,b⟩:=h us a;exact DO X hd ho hs c b
theorem QY(hd:fd.defaults=.ref g)(ho:K.lookup g=aA o)(hs:o.data=.seq items n)(h:∀us:List aB,us.length+1=ps.length->∃k,lH fd ⟨us,[]⟩=mQ fd.defaults >>= k/\k (aA items)=pure (ps.zip (us++[d]))):Binds K fd ps [d]:=λs us X a=>by
 obtain⟨k,c,b⟩:=h us (by simpa using a);exact DO X hd ho hs c b
end
end NH
namespace NH.P
open PySem L2 NH
@[reducible] def vE:List Ds:=[(zv (yk (z9 zU [(eV 0)]) (zy .GtE (eV 0) (eC (.int 0)))))]
def qj:Fn:=bM 1 0 vE
@[reducible] def xS:List Ds:=[(zK (eV 0) 11 (eV 1)),(zK (eV 0) 12 (eV 2)),(zK (eV 0) 13 (eV 3))]
def kP:Fn:=bM 4 0 xS
@[reducible] def QE:List Ds:=[(zv (z9 um [(eV 0),(zd .FloorDiv (eV 2) (ze (eV 0) 2)),(eV 1),(zd .Mod (eV 2) (ze (eV 0) 2))]))]
def xi:Fn:=bM 3 0 QE
@[reducible] def jW:List Ds:=[(zp 3 (z9 jG [(eV 0),(eV 2)])),(bW (tE (zy .Lt (bD (eV 3) (eC (.int 1))) (eV 1))) [(zv (zd .Mult (bD (eV 3) (eC (.int 0))) (ze (eV 0) 2)))] []),(bW (tE (zy .Gt (bD (eV 3) (eC (.int 1))) (eV 1))) [(zv (zd .Mult (zd .Add (bD (eV 3) (eC (.int 0))) (eC (.int 1))) (ze (eV 0) 2)))] []),(zv (zd .Add (zd .Add (zd .Mult (bD (eV 3) (eC (.int 0))) (ze (eV 0) 2)) (bD (eV 3) (eC (.int 2)))) (eC (.int 1))))]
def vk:Fn:=bM 3 1 jW
@[reducible] def vt:List Ds:=[(bW (tE (ze (eV 0) 20)) [(zM 24 [(eC (.str "the house has fallen"))])] [])]
def qi:Fn:=bM 1 0 vt
@[reducible] def kW:List Ds:=[(zv (v5 [(ze (eV 0) 6),(ze (eV 0) 17)]))]
def vK:Fn:=bM 1 0 kW
@[reducible] def qO:List Ds:=[(bW (tE (zy .Is (ze (eV 0) 6) (eC .non))) [(zM 18 [(eC (.str "the house has no lease"))])] [])]
def zP:Fn:=bM 1 0 qO
@[reducible] def wK:List Ds:=[(bW (tE (zy .IsNot (ze (eV 0) 18) (eC .non))) [(zv (z9 vk [(ze (eV 0) 9),(bD (ze (eV 0) 6) (eC (.int 0))),(ze (eV 0) 18)]))] []),(bW (tE (zy .IsNot (ze (eV 0) 17) (eC .non))) [(zv (zd .Mult (zd .Add (ze (eV 0) 17) (eC (.int 1))) (ze (ze (eV 0) 9) 2)))] []),(zv (eC (.int 0)))]
def qr:Fn:=bM 1 0 wK
@[reducible] def wU:List Ds:=[(bW (gC (qF (tE (z9 vf [(eV 2)]))) (tE (zy .Gt (eV 2) (ze (ze (eV 0) 9) 2)))) [(zM 20 [(eC (.str "so many are whole numbers from 1 on up to the shape's counts"))])] []),(bW (qF (tE (z9 zU [(eV 1)]))) [(zM 16 [(eC (.str "a reading is a whole number"))])] []),(zF (zT 45 zP (eV 0) [])),(zp 3 (zd .Mult (iX uP (bD (ze (eV 0) 6) (eC (.int 1))) (eV 1)) (ze (ze (eV 0) 9) 2))),(zp 4 (iX uP (zT 45 qr (eV 0) []) (eV 3))),(zp 5 (zd .Add (eV 4) (eV 2))),(bW (tE (zy .Gt (eV 5) (zd .Mult (bD (ze (eV 0) 6) (eC (.int 2))) (ze (ze (eV 0) 9) 2)))) [(zM 18 [(eC (.str "the lease has not so many names"))])] []),(zp 6 (zd .Sub (zd .FloorDiv (zd .Sub (eV 5) (eC (.int 1))) (ze (ze (eV 0) 9) 2)) (zd .Add (eV 1) (ze (eV 0) 14)))),(bW (tE (zy .Gt (eV 6) (eC (.int 0)))) [(u9 21 29 (eV 6))] []),(zv (o4 44 kP [(bD (ze (eV 0) 6) (eC (.int 0))),(eV 4),(eV 5)]))]
def zX:Fn:=bM 3 4 wU
@[reducible] def qx:List Ds:=[(bW (x_ (tE (zy .IsNot (ze (eV 0) 17) (eC .non))) (tE (zy .LtE (eV 1) (ze (eV 0) 17)))) [(zv (ze (eV 0) 17))] []),(zv (iX QH (zd .Add (eV 1) (ze (eV 0) 15)) (zd .Sub (ze (ze (eV 0) 9) 0) (eC (.int 1)))))]
def qd:Fn:=bM 2 0 qx
@[reducible] def W2:List Ds:=[(zp 2 (zd .Mod (zd .Mult (zd .Add (zd .Add (zd .Mod (eV 0) (eC (.int 2147483629))) (zd .Mult (eC (.int 69621)) (eV 1))) (eC (.int 1))) (eC (.int 48271))) (eC (.int 2147483629)))),(zp 2 (zd .Mod (zd .Mult (eV 2) (zd .Add (zd .FloorDiv (eV 2) (eC (.int 1009))) (eC (.int 69621)))) (eC (.int 2147483629)))),(zp 2 (zd .Mod (zd .Mult (eV 2) (zd .Add (zd .Add (zd .FloorDiv (eV 2) (eC (.int 907))) (eC (.int 16807))) (eV 1))) (eC (.int 2147483629)))),(zv (zd .Mod (zd .Mult (eV 2) (zd .Add (zd .FloorDiv (eV 2) (eC (.int 1201))) (eC (.int 30011)))) (eC (.int 2147483629))))]
def ub:Fn:=bM 2 1 W2
@[reducible] def Zy:List Ds:=[(zv (y7 [(zd .Mult (zd .FloorDiv (eV 0) (eC (.int 2))) (zd .Sub (eC (.int 1)) (zd .Mod (eV 0) (eC (.int 2))))),(eV 0),(eC (.int 0))]))]
def vy:Fn:=bM 1 0 Zy
@[reducible] def QP:List Ds:=[(bW (gC (qF (tE (yn [4] (eV 0)))) (tE (zy .NotEq (cS kN (eV 0)) (eC (.int 3))))) [(zv (eC (.bl aD)))] []),(zv (yk (z9 zU [(bD (eV 0) (eC (.int 0)))]) (yk (z9 zU [(bD (eV 0) (eC (.int 1)))]) (yn [1] (bD (eV 0) (eC (.int 2)))))))]
def ua:Fn:=bM 1 0 QP
@[reducible] def yD:List Ds:=[(bW (gC (qF (tE (yn [5] (eV 0)))) (qF (tE (cS VH (qT 1 [] (.one 0) (iE (eV 0)) [] (z9 ua [(eV 0)])))))) [(zv (eC (.bl aD)))] []),(zv (cS VH (qT 1 [0] (.one 0) (JP (eC (.int 1)) (cS kN (eV 0))) [] (zy .Lt (bD (bD (eV 1) (zd .Sub (eV 0) (eC (.int 1)))) (eC (.int 0))) (bD (bD (eV 1) (eV 0)) (eC (.int 0)))))))]
def jK:Fn:=bM 1 0 yD
@[reducible] def xj:List Ds:=[(bW (gC (qF (tE (z9 zU [(eV 1)]))) (qF (tE (z9 jK [(eV 2)])))) [(zM 15 [(eC (.str "a clock has a whole number and a list of turns whose times rise"))])] []),(zK (eV 0) 3 (eV 1)),(zK (eV 0) 4 (cS Jf (eV 2)))]
def wO:Fn:=bM 3 0 xj
@[reducible] def jc:List Ds:=[(bW (qF (tE (z9 zU [(eV 1)]))) [(zM 16 [(eC (.str "a time is a whole number"))])] []),(jA (.one 2) (AM (ze (eV 0) 4)) [(bW (tE (zy .LtE (bD (eV 2) (eC (.int 0))) (eV 1))) [(zv (zd .Add (bD (eV 2) (eC (.int 1))) (o5 (tE (bD (eV 2) (eC (.int 2)))) (zd .Sub (eV 1) (bD (eV 2) (eC (.int 0)))) (eC (.int 0)))))] [])]),(zv (zd .Add (ze (eV 0) 3) (eV 1)))]
def wc:Fn:=bM 2 1 jc
end NH.P
namespace NH
open PySem PySem.Spec PyProof.Rows L2
def Mr(i:Nat)(t:T)(μ:aK)(zs:List T):Prop:=t=.lst zs\/∃j,t=.mut j/\j≠i/\μ[j]?=aA (.lst zs)
abbrev rZ(o f:De):De:=λe g=>(o e g).bind λh b=>match h with
 |.mut i=>λK Z=>(∃c,b[i]?=aA (.lst c))/\f e b (λt a=>∃c d,a[i]?=aA (.lst c)/\Mr i t a d/\c.length+d.length<=aZ/\K .non (a.set i (.lst (c++d)))) Z
 |_=>.st
section
variable {X:Cx}{D:DP}{W:XW}{pins:List (aE×bB)}{s:Shared}{σ:St}{H:Hp}{φ α:List aE}{τ:Sl}{μ:aK}{f:De}{a b:aH}
theorem Kj:IA X "list.extend" (λx vs H Q=>∃l b xs zs,x=.ref l/\vs=[.ref b]/\H l=aA (.lst xs)/\Rd H b (.lst zs)/\xs.length+zs.length<=sizeLine/\Q .non (upd H l (.lst (xs++zs)))):=by
 intro i s A H x vs v C Q I k m h;obtain⟨l,b,xs,zs,rfl,rfl,j,w,D,q⟩:=h;cases k;obtain⟨u,rfl,o⟩:=vals1 m;cases o;obtain⟨z,c,n,r,E,e⟩:=I.lstM j;obtain⟨B,a,p,g,y⟩:=w.ok I.hok;have t:=g.length;have f:c.toArray.size+a.toArray.size<=sizeLine:=by rw[dJ,dJ];lia
 have d:¬(!c.toArray.isEmpty&&Am (c.toArray.size+a.toArray.size))=aC:=by
  rw[T8 f,tO];exact fG
 refine sU F.slot_list_extend ⟨_,e,rfl⟩ F.entry_list_extend (F.args_list_extend_2 _ _)
  (AutoSeq1.list_extend_list_list_0 l c.toArray n b a.toArray p d (by rw[dJ];lia) (by lia)) ⟨e,y,?_⟩
 refine⟨.non,_,I.lset (its':=c++a) j e (by simp) (r.append g) ?_,rfl,q⟩;rw[ig];lia
theorem NM(hp:ql o=aC)(hs:aO a=aC)(h:(pa.endLine==pc.line)=aC)(ho:PE X o (aX D W go))(ha:PE X a (aX D W f)) :
  PE X (.Call (.Attribute o "extend" pa) [a] [] pc) (aX D W (rZ go f)):=by
 have hb:eF [a] X.env=[(aD,eval a X.env)]:=z3 hs;refine PE.mono (GY Fj PySem.F.slot_list_extend PySem.F.type_list_extend Kj ho (zr ha zZ (z3 hs)) (qX hp) (by rw[hb];rfl) h (z3 hs) rfl) ?_;rintro σ H Q ⟨w,S,L,R,N,mr,p⟩;refine⟨w,S,L,R,N,mr,p.bind.mono λot A B H1 C O q ov dv=>?_⟩;split at q;case h_2=>exact q.elim
 rename_i i;obtain⟨K,Z,⟨⟨V,n⟩,hf⟩,hk,hz⟩:=q;obtain⟨x,G,rfl⟩:=dv;obtain⟨U,J,l0⟩:=O.ob _ x _ G n;refine⟨.inl ⟨rfl,_,.inl (.inl J)⟩,w,B,L,A,N.step C,O,_,Z,hf,?_,hz⟩;rintro t z ⟨ts,T,s,hl,hr,Y⟩ b u k E v d;obtain⟨β,e2,_⟩:=k.ext;have g:b[i]?=aA x:=by
  rw[e2,eN (bH.mp G).1];exact G
 obtain⟨M,P,l⟩:=E.ob i x _ g s;have hv:∃y c,v=.ref y/\Rd u y (.lst c)/\aN D w b u T c:=by
  rcases hl with rfl|⟨j,rfl,hj,m⟩
  ·obtain⟨y,c,rfl,_,_,r,dl⟩:=d;exact⟨y,c,rfl,r,dl⟩
  ·obtain⟨y,hy,rfl⟩:=d;obtain⟨c,hw,dl⟩:=E.ob j y _ hy m;exact⟨y,c,rfl,.inl hw,dl⟩
 obtain⟨y,c,rfl,I,dl⟩:=hv;have e:aP b u b (upd u x (.lst (M++c))):=aP.turn (cD g) ⟨_,P⟩;have hi:i<z.length:=(bH.mp s).1;refine⟨x,y,M,c,rfl,rfl,P,I,?_,?_⟩
 ·rw[←l.length,←dl.length];exact cL hr (zx (bC _))
 ·exact hk _ _ Y b _ (k.trans e) (E.turn g hi e ⟨_,z4,(l.step e).append (dl.step e)⟩) .non rfl
end
def Gb:ER:=Cj "extend" rZ
theorem Sq:cY D Gb:=HW λC b a d c e=>NM b a d c e
end NH
namespace NH.P
open PySem L2 NH
@[reducible] def wR:List Ds:=[(zv (kC 1 [1,0] (.one 0) (JP (ze (eV 1) 12) (ze (eV 1) 13)) [] (z9 xi [(eV 2),(ze (eV 1) 11),(eV 0)])))]
def qm:Fn:=bM 2 0 wR
end NH.P
namespace NH
open PySem PySem.Spec PyProof.Rows L2
noncomputable def IF:List (aG×aB)->Prop:=λa=>a=[]\/a=[(e_ "default",.none)]
section
variable {prog:Program}{w:World}{A:Around}{E:aB->Shared->Prop}{s:Shared}{l I S:aE}{vs:List aB}{R:Result->Shared->Prop}{Q:aB->Shared->Prop}{κ:Type}
noncomputable def UH(prog:b7)(w:cV)(A:dU)(s:aU)(vs:List aB)(ks:List κ)(gt:κ->κ->Bool):Prop:=
 ∀(E:aB->aU->Prop) (i j:Nat) e d g f c (a:Nat) (Q:aB->aU->Prop),vs[i]?=aA e->ks[i]?=aA g->vs[j]?=aA d->ks[j]?=aA f->(∀b o,s.heap.get? b=aA o->c.get? b=aA o)->
  Q (.bool (gt g f)) {s with heap:=c,toks:=a}->wpAny (aQ prog w) A.in1 (pM .Gt e d) Q E {s with heap:=c,toks:=a}
theorem YS(Z:∀a,gt a a=aD)(Y:∀a b c,gt a b=aC->gt c b=aD->gt c a=aD)(Q:UH prog w A s vs ks gt)(hh:A.handled=aF)(hl:s.heap.IsList l vs.toArray)(hI:s.heap.get? I=aF)(hS:s.heap.get? S=aF)(J:S≠I)(O:ks.length=vs.length)
  (hR:∀(i:Nat) v kk h' B,vs[i]?=aA v->ks[i]?=aA kk->(∀m∈ks,gt m kk=aD)->(∀b o,s.heap.get? b=aA o->h'.get? b=aA o)->R (.ok (.ret v)) {s with heap:=h',toks:=B}) :
  ∀(r j i:Nat) (h:aR) (tk:Nat) (u:aB) (nb:κ) (c:Nat),vs.length-(j+1)=r->j+1<=vs.length->(∀b o,s.heap.get? b=aA o->h.get? b=aA o)->
   h.get? S=aA (bS "list" #[u,u] c)->h.IsListIter I l (j+1)->vs[i]?=aA u->ks[i]?=aA nb->(∀m∈ks.take (j+1),gt m nb=aD)->
   fP (aQ prog w) A (.builtin "max.loop" ⟨[.ref I,.none,.ref S],kw⟩) R {s with heap:=h,toks:=tk}:=by
 have n:(toString "max"++toString ".loop":String)="max.loop":=by decide
 have f:∀{b:aE} {o:bB},s.heap.get? b=aA o->b≠I/\b≠S:=λ{b o} e=>⟨λz=>(by rw[z,hI] at e;cases e),λz=>(by rw[z,hS] at e;cases e)⟩;have hlI:l≠I:=by obtain⟨o,ho,_⟩:=id hl;exact (f ho).1
 have W:=nY (prog:=prog) (w:=w) (A:=A.in1) hh I l hlI vs.toArray;have M:vs.toArray.size=vs.length:=dJ ..;have lst:∀{h:aR},(∀b o,s.heap.get? b=aA o->h.get? b=aA o)->h.IsList l vs.toArray:=λ{h} k=>by
  obtain⟨o,ho,hc⟩:=hl;exact⟨o,k _ _ ho,hc⟩
 intro r;induction r with
 |zero=>
  intro j i h tk u nb c hr hj L q H x y d;have P:j+1=vs.length:=by lia
  refine oa wT ?_;rw[oI mz _];show wpAny _ A.in1 (mQ (.ref S) >>= _) _ _ _;refine wpAny_bind (pW q rfl ?_);show wpAny _ A.in1 (tryCatch (i3 (.ref I)) _ >>= _) _ _ _;refine wpAny_bind (nc (W.done _ _ _ ⟨by rw[M,←P];exact H,lst L⟩ λh' B p=>?_));have g:∀b o,s.heap.get? b=aA o->h'.get? b=aA o:=λb o e=>p b o (by simpa using (f e).1) (L b o e);have t:=p S _ (by simpa using J) q;have U:=mw h' S (cX λ_=>(#[]:Array aB));show wpAny _ A.in1 (updateSeq S (λ_=>#[]) >>= _) _ _ _;refine wpAny_bind ?_;refine tW t rfl (wpAny_bind (mY (wpAny_pure ?_)));refine hR i u nb _ _ x y ?_ λb o e=>(U.2 b (f e).2).trans (g b o e);rw[P,←O,rc] at d;exact d
 |succ r ih=>
  intro j i h tk u nb c hr hj L q H x y d;have G:j+1<vs.length:=by lia
  refine oa wT ?_;rw[oI mz _];show wpAny _ A.in1 (mQ (.ref S) >>= _) _ _ _;refine wpAny_bind (pW q rfl ?_);show wpAny _ A.in1 (tryCatch (i3 (.ref I)) _ >>= _) _ _ _;refine wpAny_bind (nc (W.item (j+1) _ _ _ (by rw[M];exact G) ⟨H,lst L⟩ λv h' B hP C p=>?_));have hv:vs[j+1]?=aA v:=by simpa using hP
  have g:∀b o,s.heap.get? b=aA o->h'.get? b=aA o:=λb o e=>p b o (by simpa using (f e).1) (L b o e);have t:=p S _ (by simpa using J) q;have hn:∃D,ks[j+1]?=aA D:=⟨_,eQ (by lia)⟩;obtain⟨D,E⟩:=hn;have K:ks.take (j+1+1)=ks.take (j+1)++[D]:=by rw[gB,E];rfl
  show wpAny _ A.in1 (tryCatch (lC [v,v] (pM .Gt v u >>= _)) _ >>= _) _ _ _;refine wpAny_bind (nc (wpAny_holding (wpAny_bind (Q _ (j+1) i v u D nb h' B _ hv E x y g ?_))));refine wpAny_bind (wpAny_holding (wpAny_truthy_bool ?_));refine wpAny_bind (mY (wpAny_pure ?_));cases T:gt D nb with
  |true=>
   have U:=mw h' S (cX λ_=>#[v,v]);obtain⟨c2,hc2⟩:∃c2,(h'.update S (cX λ_=>#[v,v])).get? S=aA (bS "list" #[v,v] c2):=⟨_,m4 t λ_=>#[v,v]⟩;simp only[if_true];refine wpAny_bind ?_;refine tW t rfl (wpAny_bind (mY ?_));rw[n];obtain⟨V,N,hoc,hod⟩:=id C.1;refine wpAny_pure ⟨m5 mz _,ih (j+1) (j+1) _ _ v D c2 (by lia) G (λb o e=>(U.2 b (f e).2).trans (g b o e)) hc2 ⟨V,(U.2 I J.symm).trans N,hoc,hod⟩ hv E ?_⟩;rw[K];intro X hm;rcases b_.mp hm with z|z
   ·exact Y _ _ _ T (d X z)
   ·rw[bU.mp z];exact Z D
  |false=>
   simp only[oq,if_false];refine wpAny_bind (mY ?_);rw[n];refine wpAny_pure ⟨m5 mz _,ih (j+1) i _ _ u nb c (by lia) G g t C.1 x y ?_⟩;rw[K];intro X hm;rcases b_.mp hm with z|z
   ·exact d X z
   ·rw[bU.mp z];exact T
theorem PY(a:aB):nQ "max" ⟨[a],[]⟩:=by unfold nQ;kernel_rfl
theorem RL(a:aB):nQ "max" ⟨[a],[(e_ "default",.none)]⟩:=by unfold nQ;kernel_rfl
theorem JF {ks:List κ} {gt:κ->κ->Bool} {x:List (aG×aB)} (G:∀a,gt a a=aD) (T:∀a b c,gt a b=aC->gt c b=aD->gt c a=aD) (N:UH prog w A s vs ks gt) (M:IF x) (hh:A.handled=aF) (R:s.heap.IsList l vs.toArray) (L:ks.length=vs.length) (B:vs=[]->x=[(e_ "default",.none)])
  (hE:vs=[]->∀h' g,(∀b o,s.heap.get? b=aA o->h'.get? b=aA o)->Q .none {s with heap:=h',toks:=g})
  (hQ:∀(i:Nat) v kk h' g,vs[i]?=aA v->ks[i]?=aA kk->(∀m∈ks,gt m kk=aD)->(∀b o,s.heap.get? b=aA o->h'.get? b=aA o)->Q v {s with heap:=h',toks:=g}) :
  wpAny (aQ prog w) A (call (.builtin "max") [.ref l] x) Q E s:=by
 have q:(toString "max"++toString ".loop":String)="max.loop":=by decide
 have C:nQ "max" ⟨[.ref l],x⟩:=by rcases M with rfl|rfl;exact PY _;exact RL _
 have hbp:∃df:Option aB,Fv "max" ["key","default"] 0 ⟨[],x⟩=pure [aF,df]/\df.toList.map (λd=>(("default":aG),d))=x:=by
  rcases M with rfl|rfl
  ·exact⟨aF,rfl,rfl⟩
  ·exact⟨aA .none,rfl,rfl⟩
 obtain⟨df,hb1,hb2⟩:=hbp;refine kmb_tree PySem.F.kind_max PySem.F.plain_max PySem.F.entry_max C ?_;show wpAny _ A.in1 (Fv "max" ["key","default"] 0 ⟨[],x⟩ >>= _) _ _ s;refine wpAny_bind (ml hb1 ?_);refine wpAny_bind (wpAny_pure ?_);refine wpAny_bind (oh R ?_);refine wpAny_bind (n9 ?_ (f9 _));rw[q];show wpAny _ A.in1 (pure _) _ _ _;rw[hb2];refine wpAny_pure ⟨m5 mz _,?_⟩;let p:bB:={cls:=.type "list_iterator",data:=.fields #[.ref l,.int 0 0]};let P:bB:=bS "list" #[] 0;have e1:(s.heap.push p).objs.size=s.heap.objs.size+1:=iy ..;have up:∀b o,s.heap.get? b=aA o->((s.heap.push p).push P).get? b=aA o:=λb o e=>bP _ (bP _ e);have gI:((s.heap.push p).push P).get? s.heap.objs.size=aA p:=bP _ (dP _ rfl);have gS:((s.heap.push p).push P).get? (s.heap.push p).objs.size=aA P:=dP _ rfl;have hI:s.heap.get? s.heap.objs.size=aF:=iS (bC _);have hS:s.heap.get? (s.heap.push p).objs.size=aF:=iS (by rw[e1];exact h_ _);have D:(s.heap.push p).objs.size≠s.heap.objs.size:=by rw[e1];exact gU (lL _)
 have r:∀{b:aE} {o:bB},s.heap.get? b=aA o->b≠s.heap.objs.size/\b≠(s.heap.push p).objs.size:=λ{b o} e=>⟨λz=>(by rw[z,hI] at e;cases e),λz=>(by rw[z,hS] at e;cases e)⟩;have Y:l≠s.heap.objs.size:=by obtain⟨o,X,_⟩:=id R;exact (r X).1
 have lst:∀{h:aR},(∀b o,s.heap.get? b=aA o->h.get? b=aA o)->h.IsList l vs.toArray:=λ{h} k=>by
  obtain⟨o,X,hc⟩:=R;exact⟨o,k _ _ X,hc⟩
 have W:=nY (prog:=prog) (w:=w) (A:=A.in1) hh s.heap.objs.size l Y vs.toArray;have H:vs.toArray.size=vs.length:=dJ ..;refine oa wT ?_;rw[oI mz _];show wpAny _ A.in1 (mQ (.ref _) >>= _) _ _ _;refine wpAny_bind (pW gS rfl ?_);show wpAny _ A.in1 (tryCatch (i3 (.ref s.heap.objs.size)) _ >>= _) _ _ _;by_cases j:vs=[]
 ·have hk:=B j;refine wpAny_bind (nc (W.done _ _ _ ⟨by rw[H,j];exact⟨_,gI,rfl,rfl⟩,lst up⟩ λh' g t=>?_));have y:∀b o,s.heap.get? b=aA o->h'.get? b=aA o:=λb o e=>t b o (by simpa using (r e).1) (up b o e);subst hk;show wpAny _ A.in1 (rule _ >>= _) _ _ _;refine wpAny_bind (mf ?_);exact wpAny_pure (hE j _ _ y)
 have B:0<vs.length:=by cases vs with|nil=>exact absurd rfl j|cons _ _=>simp
 refine wpAny_bind (nc (W.item 0 _ _ _ (by rw[H];exact B) ⟨⟨_,gI,rfl,rfl⟩,lst up⟩ λv h' g hP I t=>?_));have hv:vs[0]?=aA v:=by simpa using hP
 have y:∀b o,s.heap.get? b=aA o->h'.get? b=aA o:=λb o e=>t b o (by simpa using (r e).1) (up b o e);have O:=t _ _ (by simpa using D) gS;have hn:∃u,ks[0]?=aA u:=⟨_,eQ (by lia)⟩;obtain⟨u,K⟩:=hn;have s1:=mw h' (s.heap.push p).objs.size (cX λ_=>#[v,v]);obtain⟨c2,Z⟩:∃c2,(h'.update (s.heap.push p).objs.size (cX λ_=>#[v,v])).get? (s.heap.push p).objs.size=aA (bS "list" #[v,v] c2):=⟨_,m4 O λ_=>#[v,v]⟩;refine wpAny_bind (wpAny_pure ?_);show wpAny _ A.in1 (updateSeq _ _ >>= _) _ _ _;refine wpAny_bind ?_;refine tW (s:={s with heap:=h',toks:=g}) (f:=λ_=>#[v,v]) (xs:=#[]) (n:=0) (o:=bS "list" #[] 0) O rfl ?_ (f9 _) (by show 2<=sizeLine+1;decide);rw[q];obtain⟨S,J,V,U⟩:=id I.1;refine wpAny_pure ⟨m5 mz _,YS G T N hh R hI hS D L (λi v u h' g a b c d=>hQ i v u h' g a b c d) _ 0 0 _ _ v u c2 rfl (by lia) (λb o e=>(s1.2 b (r e).2).trans (y b o e)) Z ⟨S,(s1.2 _ D.symm).trans J,V,U⟩ hv K ?_⟩;rw[gB,K];intro ms hm;have:ms=u:=by simpa using hm
 rw[this];exact G u
end
theorem UI(hi:dY vs ns):UH prog w A s vs ns (λa b=>decide (b<a)):=by
 intro E i j f e v r y g Q o l k h p q;obtain⟨n,t,rfl,d⟩:=IntsAre.at hi i f o;obtain⟨m,u,rfl,c⟩:=IntsAre.at hi j e k;rw[l] at d;cases d;rw[h] at c;cases c;exact richCompare_gives (op:=.Gt) (sV _ _ t) (sV _ _ u) PySem.F.slot_int_gt PySem.F.entry_int_gt (PySem.F.args_int_gt_2 _ _) (gives_int_gt _ _ t u) (λx=>nomatch x) q
abbrev Fx(xs:List T)(μ:aK):RE T:=λK _=>∃a,bN xs=aA a/\0<xs.length/\∀n∈a,(∀m∈a,m<=n)->K (.int n) μ
abbrev UM(t:T)(μ:aK):RE T:=match t with
 |.lst a=>Fx a μ
 |.mut i=>λK Z=>∃a,μ[i]?=aA (.lst a)/\Fx a μ K Z
 |_=>.st
abbrev GI(xs:List T)(μ:aK):RE T:=λK _=>∃a,bN xs=aA a/\(xs=[]->K .non μ)/\∀n∈a,(∀m∈a,m<=n)->K (.int n) μ
abbrev VL(t:T)(μ:aK):RE T:=match t with
 |.lst a=>GI a μ
 |.mut i=>λK Z=>∃a,μ[i]?=aA (.lst a)/\GI a μ K Z
 |_=>.st
section
variable {X:Cx}{D:DP}{W:XW}{Γ:Cn}{k:Nat}{pins:List (aE×bB)}{s:Shared}{σ:St}{H:Hp}{φ α:List aE}{τ:Sl}{μ:aK}{f:De}
theorem Vi {ad:aE} {xs:List T} {x:List V} {Q:VK} {h:List (aG×aB)} {u:T->aK->Prop} (M:X.calm=aC) (I:Inv X pins σ H s) (C:aM D φ α H μ) (q:Rd H ad (.lst x)) (l:aN D φ α H xs x) {ns:List Int} (K:bN xs=aA ns) (p:IF h) (o:xs=[]->h=[(e_ "default",.none)])
  (O:xs=[]->u .non μ) (hK:∀n∈ns,(∀m∈ns,m<=n)->u (.int n) μ) (k1:∀t d,u t d->∀g B,aP α H g B->aM D φ g B d->RV D φ Q t d g B) :
  wpAny (aQ X.prog X.w) X.A (call (.builtin "max") [.ref ad] h) (EP X pins σ Q) X.xe s:=by
 obtain⟨k,y,G,Y⟩:=I.list (.inl q);have ev:=wJ K l;subst ev;have E:=intsAre_of y;have r:=y.length;have U:=l.length;have nil:k=[]->xs=[]:=λz=>by
  rw[z] at r;exact Ab.mp (by rw[U,r];rfl)
 refine JF (ks:=ns) (gt:=λa b=>decide (b<a)) (λa=>decide_eq_false (by lia)) (λa b c R P=>decide_eq_false (by have:=of_decide_eq_true R;have:=of_decide_eq_false P;lia)) (UI E) p (I.ok.hd M) G.isList (by rw[←r,bG]) (λz=>o (nil z)) (λz S f j=>?_) λi v n S f J e N j=>?_
 ·exact⟨.non,H,I.kept j,rfl,k1 _ _ (O (nil z)) α H (aP.refl _ _) C _ rfl⟩
 ·obtain⟨W,t,rfl,F⟩:=IntsAre.at E i v J;rw[e] at F;cases F;exact⟨.int n,H,I.kept j,⟨t,rfl⟩,k1 _ _ (hK n (cD e) λm L=>by have:=of_decide_eq_false (N m L);lia) α H (aP.refl _ _) C _ rfl⟩
theorem Ot(h:X.calm=aC):B1 X D W (.builtin "max") UM:=by
 intro g s y H x B A t v u Q I b d r p;unfold UM at p;split at p
 ·obtain⟨w,o,⟨j,e,a,f⟩,c,k⟩:=p;obtain⟨ad,i,rfl,_,_,q,l⟩:=d;cases r;exact Vi h I b q l e (.inl rfl) (λz=>by rw[z] at a;exact absurd a (by simp)) (λz=>by rw[z] at a;exact absurd a (by simp)) f c
 ·obtain⟨w,o,⟨i,m,j,e,a,f⟩,c,k⟩:=p;obtain⟨ad,n,rfl⟩:=d;cases r;obtain⟨C,q,l⟩:=b.ob _ ad _ n m;exact Vi h I b (.inl q) l e (.inl rfl) (λz=>by rw[z] at a;exact absurd a (by simp)) (λz=>by rw[z] at a;exact absurd a (by simp)) f c
 ·exact p.elim
theorem Rl(C:Ck D W Γ X k)(K:Γ.calm=aC) 
  (r:("max":aG)∈Γ.G) (y:Γ.gl "max"=.none) (e:aO a=aC) (Z:PE X a (aX D W f)) :
  PE X (.Call (.Name "max" p0) [a] [⟨aA "default",.Constant .none jj pb,pk⟩] pos) (aX D W (cS VL f)):=by
 have J:=C.glo _ r;rw[y] at J;rintro h s A H Q I ⟨g,B,M,N,P,T,p⟩;refine gW (qQ I (C.glb _ r) J (show f_ "max"=aA (.builtin "max") by decide +kernel) ?_ (by decide) (C.dbG _ r));refine pH (a7 (zr Z zZ (z3 e) pos h s A H (λE i=>∃v t c b,E=[v]/\aP B H b i/\aM D g b i c/\a_ D g b i t v/\aJ D W g b i A (RV D g Q) (VL t c)) I ⟨g,B,M,N,P,T,p.bind.mono λt j n H' st m q v d=>⟨v,t,j,n,rfl,st,m,d,q⟩⟩) ?_) (by rw[z3 e];rfl) (by rw[z3 e];rfl) rfl rfl;rintro us s1 ⟨E,i,L,R,v,t,c,b,rfl,st,m,d,p⟩;obtain⟨u,rfl,F⟩:=vals1 R;refine pv (tU (pi ?_));show wpAny _ _ (call (.builtin "max") [u] [(e_ "default",.none)]) _ _ _;unfold VL at p;split at p
 ·obtain⟨K0,Z0,⟨S,w,z,x⟩,o,U⟩:=p;obtain⟨ad,O,rfl,_,_,q,l⟩:=d;cases F;exact Vi (C.clm K) L m q l w (.inr rfl) (λ_=>rfl) z x o
 ·obtain⟨K0,Z0,⟨O,V,S,w,z,x⟩,o,U⟩:=p;obtain⟨ad,Y,rfl⟩:=d;cases F;obtain⟨ws,q,l⟩:=m.ob _ ad _ Y V;exact Vi (C.clm K) L m (.inl q) l w (.inr rfl) (λ_=>rfl) z x o
 ·exact p.elim
end
def G_:ER:=lY "max" UM aC
theorem TK:cY D G_:=ko λC a c d b e=>XS C a c (by decide +kernel) (by decide) b (Ot (C.clm (d rfl))) e
def GF:ER:=λr b e=>(Ub e).bind λq=>gd (q.x==("max":aG)) (gd (q.ky==("default":aG)) (gd (V4 q.v&&(cF b.N q.x).isNone) (gd (aO q.a&&b.calm) (gd (gY (b.look "max")) ((r.e b q.a).bind λf=>aA (cS VL f))))))
theorem Tq:cY D GF:=by
 intro r H X W o k e d C h;obtain⟨q,n,h⟩:=aS h;obtain⟨m,h⟩:=z7 h;obtain⟨l,h⟩:=z7 h;obtain⟨i,h⟩:=z7 h;obtain⟨b,h⟩:=z7 h;obtain⟨a,h⟩:=z7 h;obtain⟨f,g,h⟩:=aS h;cases h;obtain⟨j,p,c⟩:=QN (zu i).1;rw[ug n,c,zW m,zW l];exact Rl C (zu b).2 (zB a).1 (zB a).2 (zu b).1 (H.e C g)
theorem Kx{P:b7}{w:cV}{K:bK}{mg X:aG->Option aB}{CX:lw}{k:Nat}{fa a:aE}{p:List aE}{fd:FuncData}{x:aG}{sp:Sp}{f:aU}{vs:List aB}{ns:List Int}
  (KX:K.In f.heap) (D:f.heap.Ns bR mg) (hb:f.heap.Ns lI X) (hbb:∀x:aG,x≠"__name__"->X x=f_ x) (M:f.heap.NoLimit) (hg:f.gens=#[])
  (hbm:∃bm ob,mg "__builtins__"=aA (.ref bm)/\bm≠lI/\f.heap.get? bm=aA ob/\ob.cls=.type "module"/\ob.dict=aA lI/\ob.data=.plain)
  (hnl:K1 K=aC) (i:∀g∈p,f.heap.get? g=aA (mo #[])) (O:∀g∈p,K.lookup g=aF/\g≠nS/\∃c,nU K c g=aC)
  (C:f.heap.get? a=aA {cls:=.type "list",data:=.seq vs.toArray}) (hi:dY vs ns) (hl:ns.length<=sizeLine) (hr:bZ k nR)
  (F:∀base:aR,K.In base->base.Ns bR mg->(∀g∈p,base.BuiltinsAt mg g)->bQ P w K mg base CX k fa fd [x] sp) (E:∀(s:aU) (u:aB),lB s fd ⟨[u],[]⟩ [(x,u)])
  (Y:∀H:Hp,Rd H a (.lst (ns.map V.int))->(∀g∈p,H g=aA (.tbl #[]))->a∉p->sp [.ref a] H (λv _=>v=.bl aC) λ_ _ _=>False)
  (hCX:∀H e A,CX [] H f (λ_ _ _=>False) e A->False) :
  fP (aQ P w) nR (.call (.ref fa) ⟨[.ref a],[]⟩) (λr A=>r=.ok (.ret (.bool aC))/\OldK f.heap A.heap/\A.os=f.os/\i4 A.gens) f:=by
 have rv:=L2.vals_ints hi;have lenV:=hi.length;have J:a∉p:=λz=>by have:=i a z;rw[this] at C;cases C
 have hKa:K.lookup a=aF:=by
  cases q:K.lookup a with
  |none=>rfl
  |some o=>
   have e:=KX a o q;rw[C] at e;cases e;exact absurd rfl (Xy hnl q)
 obtain⟨H,hH⟩:∃H:Hp,H=λb=>if b=a then aA (.frz {cls:=.type "list",data:=.seq vs.toArray} (.lst (ns.map V.int))) else if b∈p then aA (.tbl #[]) else aF:=⟨_,rfl⟩
 have Ha:H a=aA (.frz {cls:=.type "list",data:=.seq vs.toArray} (.lst (ns.map V.int))):=by rw[hH];simp
 have T:∀g∈p,H g=aA (.tbl #[]):=λg R=>by
  rw[hH];exact (if_neg (λz:g=a=>J (z▸R))).trans (if_pos R)
 have I:∀b,b≠a->b∉p->H b=aF:=λb j l=>by
  rw[hH];exact (if_neg j).trans (if_neg l)
 have Z:dN P w H f.heap:=λb u e=>by
  by_cases j:b=a
  ·subst j;rw[Ha] at e;cases e;exact⟨C,by rw[bG];exact hl,vs,_,rv,C⟩
  ·by_cases l:b∈p
   ·rw[T b l] at e;cases e;exact i b l
   ·rw[I b j l] at e;cases e
 have un:∀{b:aE} {o:bB},f.heap.get? b=aA o->o.cls≠.none->o.cls≠.type "list"->H b=aF:=λ{b o} e n1 n2=>I b (λz=>by rw[z,C] at e;cases e;exact n2 rfl) λz=>by rw[i b z] at e;cases e;exact n1 rfl
 have U:∀{b:aE} {o:bB} {es:Array pD} {ep:Nat},f.heap.get? b=aA o->o.data=.dict es ep->H b=aF:=λ{b o es ep} e d=>I b (λz=>by rw[z,C] at e;cases e;cases d) λz=>by rw[i b z] at e;cases e;cases d
 have qX:∀{b:aE} {o:bB},f.heap.get? b=aA o->H b=aF->(Qd f.heap H).get? b=aA o:=λe n=>UF e n;have B:∀{b:aE} {m:aG->Option aB},f.heap.Ns b m->(Qd f.heap H).Ns b m:=λ{b m} ⟨o,es,ep,e,d,r⟩=>⟨o,es,ep,qX e (U e d),d,r⟩;have hKf:∀b o,K.lookup b=aA o->H b=aF:=λb o e=>I b (λz=>by rw[z,hKa] at e;cases e) λz=>by rw[(O b z).1] at e;cases e
 have N:K.In (Qd f.heap H):=λb o e=>qX (KX b o e) (hKf b o e);have hM:Mod K mg (Qd f.heap H):=⟨N,B D,⟨X,B hb,hbb⟩,let ⟨mc,j,l⟩:=M;⟨mc,B j,l⟩⟩;have hB:∀g∈p,(Qd f.heap H).BuiltinsAt mg g:=λg R=>by
  obtain⟨bm,ob,b1,b2,G,S,b5,b6⟩:=hbm;refine⟨bm,ob,b1,b2,λz=>?_,λz=>?_,qX G (un G (by rw[S];exact λz=>by cases z) (by rw[S];exact λz=>absurd (Value.type.inj z) (by decide))),S,b5,b6⟩
  ·obtain⟨o,es,ep,e,d,_⟩:=D;rw[z,e] at G;cases G;rw[d] at b6;cases b6
  ·rw[z,i g R] at G;cases G;cases S
 have e0:dI P w K mg (Qd f.heap H) nR [] f H:=⟨rfl,hM,λb o e=>PF e,i9 (Ue _ _),trivial,λb hb=>absurd (show b∈([]:List aE) from hb) (by simp),Z,.of_eq hg⟩;refine i8 ((F _ N (B D) hB).run nR [] f H ⟨[.ref a],[]⟩ [.ref a] [.ref a] _ _ hr e0 (E f (.ref a)) (.cons rfl .nil) (Y H (.inr ⟨_,Ha⟩) T J)) λr A h=>?_;cases r with
 |error e=>exact (hCX H e A h).elim
 |ok fl=>
  cases fl with
  |next=>exact eG h
  |brk=>exact eG h
  |cont=>exact eG h
  |ret u=>
   obtain⟨v,H',os,Q,un,y,r',q⟩:=h;have q':v=.bl aC:=q;subst q';obtain rfl:u=mX aC:=r';have kp:∀b o,H b=aF->f.heap.get? b=aA o->A.heap.get? b=aA o:=λb o n e=>un.keep b o e n (by intro z;exact absurd (show b∈([]:List aE) from z) (by simp)) (by simp);have L:∀o,f.heap.get? a=aA o->A.heap.get? a=aA o:=λo e=>by
    have z2:=un.frzs a _ _ Ha;obtain⟨e2,_⟩:=y a _ z2;rw[C] at e;cases e;exact e2
   refine⟨rfl,⟨λb o e=>?_,λb o e=>?_⟩,os,Q⟩
   ·by_cases j:b∈p
    ·obtain⟨t,hm⟩:=un.tbls b _ (T b j);have hP':A.heap.get? b=aA (mo (#[]++t)):=y b _ hm;obtain⟨k1,k2,c,k3⟩:=O b j;have cd:=PySem.W.codeHd_of_K KX k3;rw[i b j] at e;cases e;exact .inr (.inl ⟨(cd.tab (i b j)).isCodeTable,rfl,#[],t,rfl,hP'⟩)
    ·by_cases l:b=a
     ·subst l;exact .inl (L o e)
     ·exact .inl (kp b o (I b l j) e)
   ·by_cases j:b∈p
    ·obtain⟨t,hm⟩:=un.tbls b _ (T b j);exact⟨_,y b _ hm⟩
    ·by_cases l:b=a
     ·subst l;exact⟨_,L o e⟩
     ·exact⟨_,kp b o (I b l j) e⟩
def V9(c:List aE):Sp:=λd H Q _=>∃(a:aE) (b:List Int),d=[.ref a]/\Rd H a (.lst (b.map V.int))/\(∀e∈c,H e=aA (.tbl #[]))/\a∉c/\b.length<=63/\∀f,Q (.bl aC) f
def Vh(f:Fn):Prop:=∀a:List Int,a.length<=63->f [.lst (a.map T.int)] [.tab 0,.tab 1] (λt _=>t=.bl aC) (λ_ _ _=>False)
theorem SM{P:b7}{K:bK}(C:Vh f)(I:D.tabs 0=aA (u,j,qn))(n:D.tabs 1=aA (s,g,A))(h:u≠s)
  (F:bQ P w K mg base (dD P w) k fa fd [x] (eW D 1 f)):bQ P w K mg base (dD P w) k fa fd [x] (V9 [u,s]):=by
 refine F.imp ?_;rintro M H Q E ⟨a,e,rfl,r,p,l,G,q⟩;refine⟨rfl,[],[u,s],[.lst (e.map T.int)],[.tab 0,.tab 1],⟨.ref a,[],rfl,⟨a,_,rfl,by simp,by simpa using l,r,W9 e⟩,rfl⟩,⟨rfl,by simpa using h,by simp,by simp,λi y o b c=>?_⟩,_,_,C e G,?_,?_⟩
 ·cases i with
  |succ i=>
   cases i with
   |succ i=>simp at b
   |zero=>
    have b:s=y:=by simpa using b
    have c:MO.tab 1=o:=by simpa using c
    subst b;subst c;exact⟨g,A,#[],n,p _ (by simp),trivial,λ_ _=>.inl rfl⟩
  |zero=>
   have b:u=y:=by simpa using b
   have c:MO.tab 0=o:=by simpa using c
   subst b;subst c;exact⟨j,qn,#[],I,p _ (by simp),trivial,λ_ _=>.inl rfl⟩
 ·rintro t L rfl B J st m v d;have d:v=.bl aC:=d;rw[d];exact q J
 ·exact λ_ _ _ z=>z.elim
theorem walkTs{l:mO}{q:b7}{j:List aG}{XP:(aG->Option aB)->aR->Prop}{A:cV->aR->Prop}{d:DefRec}{K:Params->bK}{x:aG}{k:Nat}{p:List aE}(hk:k<=90)(J:l.most=aA 63)(y:d.params.defaults=[])
  (O:∀(w:cV) (h:aR),A w h->(K w.params).In h) (P:∀(w:cV) (h:aR),A w h->∀r∈p,h.get? r=aA (mo #[]))
  (F:∀(w:cV) (mg:aG->Option aB) (fa:aE) (h:aR),(K w.params).In h->h.Ns bR mg->mg d.name=aA (.ref fa)->
   (K1 (K w.params)=aC/\∀r∈p,(K w.params).lookup r=aF/\r≠nS/\∃c,nU (K w.params) c r=aC)/\∃fd:FuncData,(∀(s:aU) (u:aB),lB s fd ⟨[u],[]⟩ [(x,u)])/\∀base:aR,(K w.params).In base->base.Ns bR mg->(∀r∈p,base.BuiltinsAt mg r)->bQ l.prog w (K w.params) mg base (dD l.prog w) k fa fd [x] (V9 p)) :
  PySem.W.WalkO q j XP A l.row.toRowW d [] (λf vs=>DB f vs):=by
 refine Att.attach_call J y λw C B mg mb fa o Z cd V a vs E G Y ho hd M v n m i L=>?_;have D:=O w _ Y;obtain⟨⟨U,S⟩,fd,N,R⟩:=F w mg fa _ D G.T.g v;exact Kx D G.T.g G.T.b G.T.builtins G.T.nolimit L G.T.bmain U (P w _ Y) S n m (cL i (by decide)) (bZ.mono (k:=90) ⟨rfl,by decide,by decide⟩ hk) R N (λH I Q t=>⟨a,E,rfl,I,Q,t,i,λ_=>rfl⟩) λH e X z=>by
  obtain⟨_,_,_,_,_,_,_,_,_,_,_,_,_,_,_,z⟩:=z;exact z
abbrev WZ(x y:T)(μ:aK):RE T:=match y with
 |.mut i=>(match x with
  |.str z=>λK _=>∃a,μ[i]?=aA (MO.dic a)/\K (.bl (!(zD (.inr z) a).isSome)) μ
  |_=>.st)
 |_=>.st
abbrev gO(op:T->T->aK->RE T)(f g:De):De:=λc d=>(f c d).bind λx b=>(g c b).bind λy a=>op x y a
section
variable {X:Cx}{D:DP}{W:XW}{k:Nat}{pins:List (aE×bB)}{s:Shared}{σ:St}{H:Hp}{φ α:List aE}{τ:Sl}{μ:aK}{f g:De}{a b:aH}{pos:Pos}
def CS (X:Cx)(D:DP)(W:XW)(op:eK)(r:T->T->aK->RE T):Prop:=
 ∀(pins:List (aE×bB)) (s:aU) (σ:St) (H:Hp) (φ α:List aE) (μ:aK) (x y:T) (v w:V) (b a:aB) (Q:VK),Inv X pins σ H s->aM D φ α H μ->a_ D φ α H x v->a_ D φ α H y w->RelV v b->RelV w a->aJ D W φ α H σ (RV D φ Q) (r x y μ)->
  wpAny (aQ X.prog X.w) X.A (dZ op b a) (EP X pins σ Q) X.xe s
theorem MM(h:CS X D W op r)(ho:jd op b=aC)(L:PE X a (aX D W f))(K:PE X b (aX D W g)):PE X (.Compare a [op] [b] pos) (aX D W (gO r f g)):=by
 rintro c s n H Q I ⟨m,U,S,T,B,J,p⟩;refine tN (a7 (sub L I B J p) ?_) (jN ho);rintro u V ⟨v,Y,t,o,q,P,F,z,j,l,N,p1⟩;refine a7 (sub K P j l p1) ?_;rintro x C ⟨w,R,y,d,e,O,E,i,A,k,M,G⟩;exact h c C n R m e d t y v w u x Q O k (N.step i) M F E G
theorem T3(h:CS X D W op r)(ho:jd op b=aC)(ha:PE X a (aX D W f))(hb:PE X b (aX D W g)):PT X (.Compare a [op] [b] pos) (eP D W (tE (gO r f g))):=by
 rintro l s A H Q I ⟨j,R,L,O,sr,mr,p⟩;have p:aJ D W j R H A (λb _ _ w=>Q b w) ((f L O).bind λx c=>(g L c).bind λy i=>(r x y i).bind xB):=p;refine ww (a7 (sub ha I sr mr p) ?_) (jN ho);rintro u s1 ⟨v,n,t,c,e,I1,r1,Y,F,K,d1,p1⟩;refine a7 (sub hb I1 F K p1) ?_;rintro T s2 ⟨S,M,U,i,k,I2,r2,E,Z,J,d2,p2⟩;refine a7 (h l s2 A M j k i t U v S u T (λz n=>∃t c e,aP k M e n/\aM D j e n c/\a_ D j e n t z/\aJ D W j e n A (λb _ _ w=>Q b w) (xB t c)) I2 J (d1.step E) d2 r1 r2 (p2.bind.mono λt B C w st m q v d=>⟨t,B,C,st,m,d,q⟩)) ?_;rintro d s3 ⟨z,H3,I3,r3,t3,N,P,V,G,d3,o⟩;unfold xB at o;split at o
 ·cases d3;cases r3;exact wpAny_truthy_bool ⟨H3,I3,o.ok (aP.refl _ _) G⟩
 ·exact o.elim
theorem Y1(J:X.A.units+64<cLine):CS X D W .NotIn WZ:=by
 intro b s u H t d B x y v w E C Q I c a q f e p;unfold WZ at p;split at p
 ·split at p
  ·rename_i i _ z;obtain⟨L,K,⟨g,j,p⟩,h,G⟩:=p;have a:v=.str z:=a;obtain⟨ad,m,rfl⟩:=q;cases e;obtain⟨o,n,l⟩:=c.ob i ad _ m j;subst a;refine Sv (by omega) I (fM.k (k:=.inr z) n) f λF r=>⟨.bl (!(y9 o (.inr z)).isSome),H,r,rfl,?_⟩;rw[ZC l];exact h _ _ p d H (aP.refl _ _) c _ rfl
  ·exact p.elim
 ·exact p.elim
theorem VE:∀{a:List (Key×T)} {c:List (Key×V)},bI D φ α H a c->zD z a=aA t->∃v,y9 c z=aA v/\a_ D φ α H t v
 |[],_,h,e=>by cases e
 |p::r,_,h,e=>by
  obtain⟨v,q,rfl,d,l⟩:=h;unfold zD at e;by_cases b:p.1=z
  ·rw[if_pos b] at e;cases e;exact⟨v,by rw[xU (p:=(p.1,v)) b],d⟩
  ·rw[if_neg b] at e;obtain⟨f,i,g⟩:=VE l e;exact⟨f,by rw[xn (p:=(p.1,v)) b];exact i,g⟩
end
noncomputable abbrev BQ(g:List (Nat×De))(n:Nat)(o f:De):De:=λd e=>(o d e).bind λt c=>(ZT t n c).bind λw b K Z=>∃p:Nat×(Nat×De)×List T,(g[p.1]?=aA p.2.1/\w=YI p.1 p.2.1.1 p.2.2)/\((f d b).bind λx a=>p.2.1.2 (aA x::p.2.2.map aA) a) K Z
noncomputable abbrev Mt(ds:List Ds):De:=λa b K Z=>qh ds a b (En.fn K Z)
noncomputable abbrev B0(jt j:Nat)(fs:List Nat):De:=λc (a:aK) K _=>(∃i:Nat,a[i]?=aA (MO.tab jt))/\∃b:List T,fs.map (V2 c)=b.map aA/\K (YI j jt b) a
noncomputable def Zl:aG:=⟨#[38]⟩
section
variable {X:Cx}{D:DP}{W:XW}{Γ:Cn}{k:Nat}{pins:List (aE×bB)}{s:Shared}{σ:St}{H:Hp}{φ α:List aE}{τ:Sl}{μ:aK}{g:De}{a b c:aH}{pos:Pos}
theorem TW{x:aG}{c:aE}{o:bB}{v:Option aB}(I:Inv X pins σ H s)(i:X.env.cells.lookup x=aA c)(w:X.fn x=aD)(hs:X.s₀.heap.objs.size<=c)(t:H c=aF)(ho:s.heap.get? c=aA o)(hd:o.data=.cell v):Inv X pins σ (upd H c (.frz o (.ext λ_=>True))) s:=by
 have st:∀b u,H b=aA u->upd H c (.frz o (.ext λ_=>True)) b=aA u:=λb u q=>by rw[z8 (zN q t)];exact q
 refine⟨I.ok,I.os,I.bare,⟨I.base.keep,I.base.slot,λb f e n g=>?_,I.base.there,λb h e=>st b _ (I.base.tups b h e),λb f u e=>st b _ (I.base.frzs b f u e),λb k e=>?_⟩,I.loc,I.cell,?_,λy j e=>?_,λp r=>?_,λb l e=>?_,I.len⟩
 ·rw[z8 (c7 (dM (bY e) hs))];exact I.base.free b f e n g
 ·obtain⟨a,q⟩:=I.base.tbls b k e;exact⟨a,st b _ q⟩
 ·rw[z8 (cE (I.cne x c i))];exact I.free
 ·by_cases z:j=c
  ·subst z;rw[I.ok.inj _ _ _ e i];exact .inr ⟨w,o,_,z4⟩
  ·rw[z8 z];exact I.freeC y j e
 ·obtain⟨e,n,ne,m,d⟩:=I.pin p r;have:p.1≠c:=λz=>by rw[z,ho] at e;cases e;exact d _ hd
  exact⟨e,by rw[z8 this];exact n,ne,m,d⟩
 ·by_cases z:b=c
  ·subst z;rw[z4] at e;cases e;exact⟨ho,trivial,⟨o,ho⟩,λ_ _ _ _=>trivial⟩
  ·rw[z8 z] at e;exact (I.hok b l e).stay (λ_ _ _ q=>q) (λb q=>st b _ q) λb h q=>st b _ q
theorem JO(C:Ck D W Γ X k){ls:List bJ}(KM:l5 D ls)(R:Γ.lam.isSome=aC):∀{fr:List aG} {fs:List Nat} {ts:List T} {H:Hp},(∀x∈fr,x∈Γ.fz/\x∈Γ.cel)->jv Γ.N fr=aA fs->fs.map (V2 τ)=ts.map aA->Inv X pins σ H s->bA D φ α H τ σ->aM D φ α H μ->
  ∃(O:Hp) (cs:List aE),Inv X pins σ O s/\ju H O/\fr.map (λx=>X.env.cells.lookup x)=cs.map aA/\aN D φ α O (ts.map λt=>.clo 200 [t]) (cs.map V.ref)
 |[],fs,ts,H,_,g,p,I,A,f=>by
  cases g;cases ts with
  |nil=>exact⟨H,[],I,λ_ _ e=>e,rfl,rfl⟩
  |cons _ _=>cases p
 |x::fr,fs,ts,H,U,g,p,I,A,f=>by
  simp only[jv] at g;split at g
  ·rename_i i is S L;cases g;cases ts with
   |nil=>cases p
   |cons t ts=>
    have j:=p;simp only[dW,D9] at j;obtain⟨ht,F⟩:=j;obtain⟨hz,hc⟩:=U x d9;obtain⟨v,hv,d⟩:=A.val i t (WV.mp ht);obtain⟨hf,G⟩:=C.kfz R x hz;obtain⟨m,_,J⟩:=I.loc;obtain⟨u,ru,lk⟩:=J i x v (by rw[C.hN];exact vi S) hv (C.vis x (wC S));have kd:=C.cel x hc;rcases lk with⟨z,_⟩|⟨_,c,ec,o,Q,hd⟩
    ·rcases kd with q|q<;>(rw[z] at q;cases q)
    ·obtain⟨r,l,I1,B,e1,n1,n2⟩:∃r l,Inv X pins σ r s/\ju H r/\r c=aA (.frz o l)/\c∉φ/\c∉α:=by
      rcases I.freeC x c ec with q|⟨_,P,Z,q⟩
      ·exact⟨_,_,TW I ec hf (G c ec) q Q hd,za q,z4,zh f q,zi f q⟩
      ·have Y:s.heap.get? c=aA P:=(I.hok c _ q).1;rw[Q] at Y;cases Y;refine⟨H,Z,I,λ_ _ e=>e,q,λz=>?_,λz=>?_⟩
       ·obtain⟨w,e,n⟩:=f.phi c z;rw[q] at e;cases e;cases n
       ·obtain⟨E,h⟩:=ii.mp z;have K:E<μ.length:=by rw[←f.len];exact (bH.mp h).1
        obtain⟨w,e,n⟩:=(f.ob E c μ[E] h (by simp[K])).some;rw[q] at e;cases e;cases n
     have st:=aP.new (α:=α) B;obtain⟨H2,cs,I2,a,M,dl⟩:=JO C KM R (fr:=fr) (fs:=is) (ts:=ts) (λy hy=>U y (dQ _ hy)) L F I1 (A.step st) (f.new B);refine⟨H2,c::cs,I2,λb o e=>a b o (B b o e),by simp[ec,M],⟨.ref c,cs.map V.ref,rfl,⟨c,aA (.frz o l),[v],rfl,KM.ce c o u v l hd ru,λP e=>?_,v,[],rfl,(d.step st).step (aP.new a),rfl⟩,dl⟩⟩;cases e;exact⟨n1,n2,a _ _ e1⟩
  ·cases g
theorem T9{P:b7}{w:cV}{h:aR}{q c:aE}{l:bJ}{cl:List (aG×aE)}(p:kX q c l cl h):aY P w H h q (.ext (kX q c l cl)):=by
 obtain⟨g,f,b,a,e⟩:=id p;refine⟨p,⟨_,e⟩,λj i p d=>?_⟩;obtain⟨g,f,b,a,e⟩:=p;exact⟨g,f,b,a,d _ e⟩
theorem OD{l:bJ}{pa:Pos}{pos:Pos}{line i:Nat}{c P:aE}{Q:aB->aU->Prop}(I:Inv X pins σ H s)(k:aM D φ α H μ)(hi:μ[i]?=aA (.tab l.jt)){b:List Pos}(m:D.tabs l.jt=aA (P,b,l.qn))(e:pos∈b)
  (a:X.env.code=.ref c) (n:lQ X.base c P) (o:X.base.BuiltinsAt X.mg P) {cl:List (aG×aE)} (f:mS l.sc X.env=pure cl)
  (h:∀q j d doc r u,Inv X ((q,{cls:=.type "function",data:=.func (B_ l.nm l.qn ⟨[],[⟨l.y,aF,pa⟩],aF,[],[],aF,[]⟩ l.fb l.sc cl doc ((X.mg "__name__").getD .none) (.ref j) d)})::pins) σ r u->aP α H α r->aM D φ α r μ->j∉α->r j=aA (.ext (qE j l.qn))->(j∉φ/\dL X r q/\∀p∈pins,p.1≠q)->Q (.ref q) u) :
  wpAny (aQ X.prog X.w) X.A (pX l.nm l.qn ⟨[],[⟨l.y,aF,pa⟩],aF,[],[],aF,[]⟩ l.fb l.sc X.env [] [] [] pos line) Q X.xe s:=by
 obtain⟨B,x,y,body,v,fr,g,t⟩:=l;cases t with
 |none=>exact VX I k hi m e a n o f λq j d r u=>h q j d .none r u
 |some z=>exact TF I k hi m e a n o f λq j d doc r u=>h q j d doc r u
theorem Uj(C:Ck D W Γ X k){l:bJ}{ls:List bJ}{pa pl:Pos}{j line i:Nat}{d:List Pos}{fs:List Nat}{ts:List T}(B:Γ.lam=aA (l.jt,d))(Q:pl∈d)(hU:Zl∈Γ.U)(hg:Γ.gl Zl=.kap ls)(hj:ls[j]?=aA l)(f:frees l.sc=l.fr)(S:l.fr.Nodup)(E:∀x∈l.fr,x∈Γ.fz/\x∈Γ.cel)(Y:jv Γ.N l.fr=aA fs)
  (I:Inv X pins σ H s) (sr:bA D φ α H τ σ) (mr:aM D φ α H μ) (hi:μ[i]?=aA (.tab l.jt)) (O:fs.map (V2 τ)=ts.map aA):X.env.qual++Γ.lnm=l.qn/\
  wpAny (aQ X.prog X.w) X.A (pX l.nm l.qn ⟨[],[⟨l.y,aF,pa⟩],aF,[],[],aF,[]⟩ l.fb l.sc X.env [] [] [] pl line) (λv s'=>∃q M,v=.ref q/\Inv X pins σ M s'/\aP α H α M/\aM D φ α M μ/\a_ D φ α M (YI j l.jt ts) (.ref q)) X.xe s:=by
 obtain⟨hk,c,P,n,hC,hB,K⟩:=C.lam _ d B;have gq:=(C.glU _ hU).1;rw[hg] at gq;have KM:=gq.2;obtain⟨P',pos',hD'⟩:=KM.tb j l hj;have z:X.env.qual++Γ.lnm=l.qn:=by
  have:=K.symm.trans hD';simp only[ri,Prod.mk.injEq] at this;exact this.2.2
 refine⟨z,?_⟩;rw[z] at K;obtain⟨H1,cs,I1,u,F,dl⟩:=JO C KM (by rw[B];rfl) E Y O I sr mr;have m:∀x∈frees l.sc,∃c,X.env.cells.lookup x=aA c:=λx g=>I.ok.has x (C.cel x (E x (by rw[←f];exact g)).2);obtain⟨cl,Z,G,hc2⟩:=uA m;have cat:YL l.fr cl cs:=by
  refine⟨?_,?_,λx a e=>by rw[←f];exact (G x a e).2⟩
  ·rw[←F];refine EW λx g=>?_;obtain⟨c,e⟩:=hc2 x (by rw[f];exact g);rw[e,(G x c e).1]
  ·have q:(cs.map aA).Pairwise (·≠·):=by
    rw[←F,lM];refine IT (λ{a b} ha hb R e=>R ?_) S;obtain⟨c,e1⟩:=m a (by rw[f];exact ha);exact I.ok.inj a b c e1 (by rw[←e];exact e1)
   rw[lM] at q;exact q.imp λh e=>h (congrArg aA e)
 refine OD I1 (mr.new u) hi K Q n hC hB Z λq r ctv doc H2 s2 I2 t L hca hcc g=>?_;have ho:=(I2.pin _ (dF _ d9)).1;have np:kX q r l cl s2.heap:=⟨pa,_,ctv,doc,ho⟩;have I4:=wX (o:=.ext (kX q r l cl)) (w6 I2) g.2.1 g.2.2 (T9 np);have p:=g.2.1.free;have J:ju H2 (upd H2 q (.ext (kX q r l cl))):=za p;refine⟨q,_,rfl,I4,(aP.new u).trans (t.trans (aP.new J)),L.new J,?_⟩;refine⟨q,_,_,rfl,KM.fn j l q r cl cs hj cat,λo e=>?_,.ref r,cs.map V.ref,rfl,⟨r,_,[],rfl,KM.co _ _ _ _ r K,λo e=>?_,rfl⟩,(dl.step t).step (aP.new J)⟩
 ·cases e;exact⟨zh L p,zi L p,z4⟩
 ·cases e;exact⟨g.1,hca,J _ _ hcc⟩
theorem PX (C:Ck D W Γ X k) {l:bJ} {ls:List bJ} {pa e:Pos} {j:Nat} {a:List Pos} {fs:List Nat} (c:l.sb=aF) (n:Γ.lnm="<lambda>") (p:Γ.lam=aA (l.jt,a)) (h:e∈a) (L:Zl∈Γ.U) (K:Γ.gl Zl=.kap ls) (G:ls[j]?=aA l) (u:frees l.sc=l.fr) (o:l.fr.Nodup) (r:∀x∈l.fr,x∈Γ.fz/\x∈Γ.cel) (t:jv Γ.N l.fr=aA fs) :
  PE X (.Lambda ⟨[],[⟨l.y,aF,pa⟩],aF,[],[],aF,[]⟩ l.body l.sc e) (aX D W (B0 l.jt j fs)):=by
 rintro w s V H Q I ⟨S,z,T,Y,A,E,K0,Z0,⟨⟨i,J⟩,Z,f,B⟩,F,k2⟩;obtain⟨g,b⟩:=Uj (pa:=pa) (line:=e.line) C p h L K G u o r t I A E J f;have O:l.nm="<lambda>":=by unfold bJ.nm;rw[c]
 have M:l.fb=.expr l.body:=by unfold bJ.fb;rw[c]
 rw[O,M,←g,n] at b;refine Ee rfl (a7 b ?_);rintro v s' ⟨q,R,rfl,P,st,m,d⟩;exact⟨.ref q,R,P,rfl,F _ _ B z _ st m _ d⟩
end
section
variable {D:DP}{φ α:List aE}{H:Hp}
structure iK(H:Hp)(c:aE)(x:V):Prop where
 ex:∃(o:bB) (ob:HO) (u:aB),H c=aA (.frz o ob)/\o.data=.cell (aA u)/\RelV x u
def SF(D:DP):Prop:=∀c b a,D.clo 200 c b a->∃(x:V) (u:aB) (o:bB) (d:HO),a=[x]/\RelV x u/\Obj.data o=.cell (aA u)/\b=aA (HO.frz o d)
theorem Wb(b:SF D):∀{ts:List T} {cs:List aE},aN D φ α H (ts.map λt=>.clo 200 [t]) (cs.map V.ref)->∃vs:List V,aN D φ α H ts vs/\vs.length=cs.length/\∀(i:Nat) (c:aE),cs[i]?=aA c->∃x,vs[i]?=aA x/\iK H c x
 |[],[],_=>⟨[],rfl,rfl,λi c e=>by simp at e⟩
 |[],_::_,h=>by cases (show _=[] from h)
 |t::ts,[],h=>by obtain⟨_,_,e,_⟩:=h;cases e
 |t::ts,c::cs,h=>by
  obtain⟨v,r,e,⟨a,A,w,q,j,f,dl⟩,n⟩:=h;cases e;cases q;obtain⟨vs,m,l,k⟩:=Wb b n;obtain⟨x,u,o,g,rfl,r,hd,rfl⟩:=b _ _ _ j;obtain⟨y,z,p,d,B⟩:=dl;cases p;refine⟨x::vs,⟨x,vs,rfl,d,m⟩,by simp[l],λi s e=>?_⟩;cases i with
  |zero=>cases e;exact⟨x,rfl,⟨o,g,u,(f _ rfl).2.2,hd,r⟩⟩
  |succ i=>exact k i s (by simpa using e)
theorem Ws(h:YL fr cl cs)(e:cl.lookup x=aA c):∃i:Nat,fr[i]?=aA x/\cs[i]?=aA c:=by
 obtain⟨i,a⟩:=ii.mp (h.2.2 x c e);refine⟨i,a,?_⟩;have:=congrArg (λl=>l[i]?) h.1;simp only[c8,a,rp,e] at this;cases q:cs[i]? with
 |none=>rw[q] at this;cases this
 |some b=>rw[q] at this;cases this;rfl
theorem Xl{fr:List aG}{cl:List (aG×aE)}{cs:List aE}(h:YL fr cl cs){x:aG}{i:Nat}(e:fr[i]?=aA x):∃c,cl.lookup x=aA c/\cs[i]?=aA c:=by
 have:=congrArg (λl=>l[i]?) h.1;simp only[c8,e,rp] at this;cases q:cs[i]? with
 |none=>rw[q] at this;cases this
 |some a=>rw[q] at this;exact⟨a,by simpa using this,rfl⟩
def XT(Γ:Cn)(l:bJ):Bool:=
 (l.sc.kind==.function)&&!l.sc.isCoroutine&&!l.sc.isGenerator&&l.sc.names.all (λp=>p.2 != .cell)&&(frees l.sc==l.fr)&&decide ((l.y::l.fr).Nodup)&&(l.sc.names.lookup l.y==aA .local)&&l.fr.all (λx=>l.sc.names.lookup x==aA .free)&&
 (l.y::l.fr).all (λx=>x != ("__debug__":aG)&&x != ("__classdict__":aG))&&Γ.G.all (λx=>Γ.U.contains x&&l.sc.names.lookup x==aA .globalImplicit)
noncomputable def yO(Γ:Cn)(l:bJ)(G:List aG):Cn:={Γ with N:=l.y::l.fr,G:=G,cel:=l.fr,own:=[],lam:=aF,fz:=l.fr,calm:=aC}
def A_ (R:cU)(n:Nat)(Γ:Cn)(l:bJ):Prop:=(l.sb=aF/\(aT R n).e Γ l.body=aA l.g)\/∃q ds,l.sb=aA q/\zj ((aT R n).s Γ) q.2=aA ds/\l.g=Mt ds
theorem Td{R:cU}{P:b7}{w:cV}{K:bK}{mg:aG->Option aB}{base:aR}{Γ:Cn}{G:List aG}(HR:cG D R){n k0:Nat}{l:bJ}(M:f7 D P w K mg base Γ k0)(hsc:XT (yO Γ l G) l=aC)(hE:A_ R n (yO Γ l G) l)
  {A:dU} {outer:List Env} {s:aU} {a c:aE} {cl:List (aG×aE)} {cs:List aE} (hr:bZ (k0+1) A) (e0:dI P w K mg base A outer s H) (ho:kX a c l cl s.heap) (hrec:s.heap.CodeRec (.ref c) l.qn) (L:YL l.fr cl cs)
  {ts:List T} {vs:List V} (dts:aN D φ α H ts vs) (hvl:vs.length=cs.length) (hcv:∀(i:Nat) (c:aE),cs[i]?=aA c->∃x,vs[i]?=aA x/\iK H c x)
  {u:aB} {x:V} {Q:VK} {t:T} {μ:aK} {K0:T->aK->Prop} {Z0:Xp} {E:XK} (r:RelV x u) (d:a_ D φ α H t x) (mr:aM D φ α H μ) (p:l.g (aA t::ts.map aA) μ K0 Z0) (hK0:∀t' U,K0 t' U->∀j C v',aP α H j C->aM D φ j C U->a_ D φ j C t' v'->Q v' C) (hZ0:∀c fs U,Z0 c fs U->∀j C cv d,aP α H j C->aM D φ j C U->iZ D c fs cv->bX D φ j C fs d->E cv d C) :
  fP (aQ P w) A (.call (.ref a) ⟨[u],[]⟩) (CR (dD P w) outer P w H s Q E) s:=by
 obtain⟨pa,pm,ctv,doc,ho⟩:=ho;simp only[XT,cI,fQ,beq_iff_eq,ng,decide_eq_true_eq,bne_iff_ne,ne_eq] at hsc;obtain⟨⟨⟨⟨⟨⟨⟨⟨⟨h1,h2⟩,h3⟩,h4⟩,h5⟩,h6⟩,h7⟩,h8⟩,h9⟩,h10⟩:=hsc;have lim:s.heap.NoLimit:=e0.mod.nolimit.keeps λb o e=>(e0.bs b o e).1;have hfl:l.fr.length=cs.length:=by have:=congrArg iR L.1;simpa using this
 have Z:∀z k,cl.lookup z=aA k->∃(i:Nat) (v:V),l.fr[i]?=aA z/\vs[i]?=aA v/\iK H k v:=λz k e=>by
  obtain⟨i,e1,e2⟩:=Ws L e;obtain⟨v,e3,e4⟩:=hcv i k e2;exact⟨i,v,e1,e3,e4⟩
 let env:Env:=newEnv l.sc s.heap.objs.size bR cl (l.qn++".<locals>.") (aA a) (.ref c) aF lI;let Y:Cx:={prog:=P,w:=w,K:=K,mg:=mg,base:=base,A:=A.deeper env,N:=l.y::l.fr,s₀:=s,H₀:=H,env:=env,outer:=outer,stack:=env::outer,ex:=[],fn:=λ_=>aD,calm:=aC,pn:=[],xe:=λ_ _=>False}
 have go:∀(cd:Env->Code) {R:mM->aU->Prop},(∀hh,Inv Y [] (aA x::vs.map aA) H {s with heap:=hh,toks:=s.toks+[(l.y,u)].length}->fP (aQ P w) A (cd env) R {s with heap:=hh,toks:=s.toks+[(l.y,u)].length})->
   wpAny (aQ P w) A.in1 (lH (B_ l.nm l.qn ⟨[],[⟨l.y,aF,pa⟩],aF,[],[],aF,[]⟩ l.fb l.sc cl doc pm (.ref c) ctv) ⟨[u],[]⟩) (λbinds s₁=>wpAny (aQ P w) A.in1 (newFunctionEnv l.sc bR cl binds (l.qn++".<locals>.") (aA a) (.ref c) aF lI) (λenv s₂=>s₂.heap.NoLimit/\fP (aQ P w) A (cd env) R s₂) (λe s'=>R (.error e) s') s₁) (λe s'=>R (.error e) s') s:=λcd R kk=>by
  refine ml (iG rfl rfl) (EB h4 (λz f=>?_) (λhh hns hsb=>?_) h1)
  ·rw[bU.mp f];exact h7
  have S:∀b o,s.heap.get? b=aA o->hh.get? b=aA o:=λb o e=>hsb.extBut b o (c7 (bY e)) (bP _ e);refine⟨lim.keeps S,kk hh ?_⟩
  refine⟨⟨e0.mod,h1,rfl,rfl,bC _,λy z k q1 q2=>?_,λy hy=>?_,λy k z=>(by cases z),λ_=>hr.hd,Ae e0.frames,.inr ⟨rfl,rfl⟩,λb z=>absurd z (by simp[Y]),e0.bs,e0.bsz,λb _ _=>(by simp[Y]),λb z=>absurd z (by simp[Y]),e0.funs,e0.frf⟩,
   rfl,e0.bare,Un.kept S,⟨_,hns,λi y v q1 q2 q3=>?_⟩,λy k q=>?_,e0.hok.fresh (bC _),λy k q=>?_,λp hp=>absurd hp (by simp[Y]),e0.hok.kept S,by simp[Y,hvl,hfl]⟩
  ·obtain⟨i1,a1,a2⟩:=Ws L q1;obtain⟨i2,b1,b2⟩:=Ws L q2;have:i1=i2:=by
    obtain⟨l1,g1⟩:=bH.mp a2;obtain⟨l2,g2⟩:=bH.mp b2;exact (rh L.2.1).mp (g1.trans g2.symm)
   rw[this,b1] at a1;exact (bT a1).symm
  ·rcases hy with hy|hy
   ·exact absurd rfl (h4 _ (la hy))
   ·obtain⟨i,hi⟩:=ii.mp (show y∈l.fr by rw[←h5];exact vz.mpr ⟨_,la hy,rfl,rfl⟩);obtain⟨k,e,_⟩:=Xl L hi;exact⟨k,e⟩
  ·cases i with
   |zero=>
    cases q1;cases q2;exact⟨u,r,.inl ⟨h7,by simp[gR]⟩⟩
   |succ i=>
    have q1:l.fr[i]?=aA y:=q1;obtain⟨k,e1,e2⟩:=Xl L q1;obtain⟨v',e3,⟨o,ob,u',k1,k2,k3⟩⟩:=hcv i k e2;have q2:(vs.map aA)[i]?=aA (aA v):=q2;rw[c8,e3] at q2;cases q2;exact⟨u',k3,.inr ⟨.inr (h8 y (cD q1)),k,e1,o,S _ _ (e0.hok k _ k1).1,k2⟩⟩
  ·obtain⟨i,v,_,_,⟨o,ob,u',k1,k2,k3⟩⟩:=Z y k q;exact⟨aA u',o,S _ _ (e0.hok k _ k1).1,k2⟩
  ·obtain⟨i,v,_,_,⟨o,ob,u',k1,k2,k3⟩⟩:=Z y k q;exact .inr ⟨rfl,o,ob,k1⟩
 have F:lp Y env outer s.heap.objs.size:=⟨rfl,rfl,rfl⟩;have hr':bZ k0 Y.A:=hr.deeper env;have kd:∀z∈l.y::l.fr,iI l.sc z:=λz f=>(cC.mp f).elim (λq=>.inl (by rw[q];exact h7)) λq=>.inr (.inr (h8 z q));have hyf:l.y∉l.fr:=by have:=h6;rw[lV] at this;exact this.1
 have sto0:nM (Y.wish (XP Y (fB E))) (yO Γ l G).sto:=λz f=>by
  obtain⟨z1,z2⟩:=gN.mp f;have e:z=l.y:=(cC.mp z1).resolve_right λq=>by
   have:(!l.fr.contains z)=aC:=z2;rw[iA.mpr q] at this;cases this
  rw[e];exact⟨.inl h7,.inr h7⟩
 have lcl0:∀z∈l.y::l.fr,l.fr.contains z=aD->l.sc.names.lookup z=aA .local:=λz f hc=>by
  have e:z=l.y:=(cC.mp f).resolve_right λq=>by
   rw[iA.mpr q] at hc;cases hc
  rw[e];exact h7
 have C2:Sk D (fB E) (yO Γ l G) (Y.wish (XP Y (fB E))) k0:={hK:=M.hK,hN:=rfl,nd:=h6,vis:=kd,dbg:=λz f=>⟨beq_eq_false_iff_ne.mpr (h9 z f).1,beq_eq_false_iff_ne.mpr (h9 z f).2⟩,dbG:=λz f=>(M.glo z (iA.mp (h10 z f).1)).2,glb:=λz f=>(h10 z f).2,glo:=λz f=>(M.glo z (iA.mp (h10 z f).1)).1,glU:=M.glo,cel:=λz f=>.inr (h8 z f),isi:=M.isi,fld:=M.fld,xcx:=M.xcx,ocx:=M.ocx,clv:=M.clv,clm:=λ_=>rfl,rom:=λ_=>hr',rmh:=⟨hr'.dp,hr'.un⟩,xe:=λe s p=>jM p,frm:=⟨_,_,_,F.stk,F.f0,F.fe⟩,lam:=dC.no rfl,kfz:=(λh=>by cases h),sto:=sto0,lcl:=lcl0,pso:=λe s p=>yh F (jO p) e s p,xmt:=M.xmt};have sr:bA D φ α H (aA t::ts.map aA) (aA x::vs.map aA):=by
  refine⟨by simp[dts.length],λi t' e=>?_⟩;cases i with
  |zero=>cases e;exact⟨x,rfl,d⟩
  |succ i=>
   have e:(ts.map aA)[i]?=aA (aA t'):=e;rw[c8] at e;cases q:ts[i]? with
   |none=>rw[q] at e;cases e
   |some t2=>
    rw[q] at e;cases e;obtain⟨v,hv,dv⟩:=dts.get q;exact⟨v,by show (vs.map aA)[i]?=_;rw[c8,hv];rfl,dv⟩
 have X:∀e s',XP Y (fB E) e s'->wpAny (aQ P w) (A.deeper env) (pu env e) (λ_ O=>CR (dD P w) outer P w H s Q E (.error e) O) (λe' O=>CR (dD P w) outer P w H s Q E (.error e') O) s':=λe s' p=>JA (M:=aQ P w) (F2:=λe' O=>dD Y.prog Y.w Y.outer Y.H₀ Y.s₀ E e' O) F (jO p) rfl p;rcases hE with⟨hs0,hE⟩|⟨q,ds,hs0,hds,hgq⟩
 ·refine Ez hr.depth ho rfl h2 h3 (show l.fb=.expr l.body by unfold bJ.fb;rw[hs0]) hrec (go (λenv=>.expr l.body env) λhh I=>?_);have B:=(we HR n).e C2.toCk hE [] _ _ H Q (I.wish _) ⟨φ,α,_,μ,sr,mr,_,_,p,λa U e j C st m v' dv=>hK0 a U e j C v' st m dv,λc fs U z j C cv dd st m ad xd=>hZ0 c fs U z j C cv dd st m ad xd⟩;refine Ey (dR B (λv s' hs=>?_) X);obtain⟨v',C,J,rv,q'⟩:=hs;exact⟨v',C,J.os,J.bare,J.base,J.hok,rv,q'⟩
 ·rw[hgq] at p;refine wS hr.depth ho rfl h2 h3 (show l.fb=.stmts q.2 by unfold bJ.fb;rw[hs0]) hrec (go (λenv=>.func q.2 env) λhh I=>?_);have B:=wu (wb (we HR n) C2 hds) [] _ _ H {nx:=λ_ C=>Q .non C,rt:=Q} (I.wish _) ⟨φ,α,_,μ,sr,mr,_,p,λ_ μ1 z j C σ' st m _=>hK0 _ _ z j C .non st m rfl,λ_ _ z=>z.elim,λ_ _ z=>z.elim,λt μ1 z j C v st m dv=>hK0 _ _ z j C v st m dv,λc fs _ μ1 z j C σ' cv dd st m _ ad xd=>hZ0 c fs μ1 z j C cv dd st m ad xd⟩;refine tB (dR B (λfl s' hs=>?_) X);cases fl with
  |ret u=>obtain⟨v',σ',C,J,rv,q'⟩:=hs;exact⟨v',C,J.os,J.bare,J.base,J.hok,rv,q'⟩
  |next=>obtain⟨σ',C,J,q'⟩:=hs;exact⟨.non,C,J.os,J.bare,J.base,J.hok,rfl,q'⟩
  |brk=>obtain⟨_,_,_,q'⟩:=hs;exact q'.elim
  |cont=>obtain⟨_,_,_,q'⟩:=hs;exact q'.elim
end
section
variable {X:Cx}{D:DP}{W:XW}{Γ:Cn}{k:Nat}{pins:List (aE×bB)}{s:Shared}{σ:St}{H:Hp}{φ α:List aE}{τ:Sl}{μ:aK}{f:De}{a c:aH}{pos:Pos}
theorem OE(C:Ck D W Γ X k)(hU:Zl∈Γ.U)(hg:Γ.gl Zl=.kap ls)(hn:(m,n)∈Γ.fld)(hc:Γ.calm=aC)(hp:ql o=aC)(M:(E.endLine==pos.line)=aC)(L:aO a=aC)(ho:PE X o (aX D W go))(ha:PE X a (aX D W f)) :
  PE X (.Call (.Attribute o m E) [a] [] pos) (aX D W (BQ (ls.map λl=>(l.jt,l.g)) n go f)):=by
 have gq:=(C.glU _ hU).1;rw[hg] at gq;rintro J s Y H Q I ⟨F,α,τ,μ,sr,mr,p⟩;rw[tQ,qX hp];refine wpAny_bind (a7 (sub ho I sr mr p) ?_);rintro u s1 ⟨v,S,t,μ1,i,I1,r1,st1,sr1,mr1,d1,p1⟩;refine wpAny_bind (ie ?_);have N:methodCallForm ([a].length+([]:List iM).length) (fN pos (eF [a] X.env)) (lF pos (lJ [] X.env))=aC:=HI (by simp[L]) (by show (1:Nat)<30;decide);have hpos:m9 aC o X.env E pos=pure pos:=by unfold m9;simp[M]
 have run:∀{O C0 dx:aE} {gs:List (aG×V)} {z:V} {t0:T},S O=aA (.ins C0 dx gs)->gM X.K C0->cH X.K C0 m->gs.lookup m=aA z->u=.ref O->a_ D F i S t0 z->aJ D W F i S Y (RV D F Q) (λK Z=>∃p:Nat×(Nat×De)×List T,((ls.map λl=>(l.jt,l.g))[p.1]?=aA p.2.1/\t0=YI p.1 p.2.1.1 p.2.2)/\((f τ μ1).bind λx μ3=>p.2.1.2 (aA x::p.2.2.map aA) μ3) K Z)->
   wpAny (aQ X.prog X.w) X.A (nX o m E pos X.env u ([a].length+([]:List iM).length) (fN pos (eF [a] X.env)) (lF pos (lJ [] X.env))) (EP X J Y Q) X.xe s1:=λ{O C0 dx gs z t0} e1 cl na lk hu dz p=>by
  subst hu;obtain⟨⟨j,⟨jt,gg⟩,ts⟩,⟨hj,rfl⟩,p2⟩:=p.ex1;rw[c8] at hj;obtain⟨l,hl,e⟩:=lX.mp hj;cases e;obtain⟨fa,kk,rfl,hkk,hF⟩:=gq.1 j l ts F i S z hl dz;unfold nX;rw[N];refine wpAny_bind (wpAny_holding (Vs I1 e1 cl na lk λu' s1' I1' r'=>?_));cases (show u'=cO fa from r');refine wpAny_bind (ml hpos ?_);refine PySem.W.callWith_F (first:=[]) (hF X.A X.stack s1' I1'.env0).1 (a7 (zr ha zZ (z3 L) pos J s1' Y S (λvs R=>∃v t G b,vs=[v]/\aP i S b R/\aM D F b R G/\a_ D F b R t v/\aJ D W F b R Y (RV D F Q) (l.g (aA t::ts.map aA) G)) I1' ⟨F,i,τ,μ1,sr1,mr1,p2.bind.mono λt h B P st m q v d=>⟨v,t,h,B,rfl,st,m,d,q⟩⟩) ?_) (z3 L) rfl;rintro us s2 ⟨vs,R,I2,rv,v2,t2,G,b,rfl,st2,m2,d2,K0,Z0,q6,k1,k2⟩;obtain⟨ux,rfl,rx⟩:=vals1 rv;obtain⟨fa',kk',e',hkk',hF'⟩:=gq.1 j l ts F b R _ hl (dz.step st2);cases e';have hE:=hF' X.A X.stack s2 I2.env0;refine⟨hE.1,iN (i8 (hE.2 ((C.rom hc).mono hkk') ux v2 Q t2 G K0 Z0 (λcv d P=>W cv d Y P) rx d2 m2 q6 (λt' h z B P v' st m dv=>k1 t' h z B P st m v' dv) (λc fs h z B P cv d st m ad xd=>k2 c fs h z B P cv d st m ad xd)) λr s' hq=>?_)⟩;cases r with
  |error e=>exact C.xe _ _ (uj I2 hq λcls d P q=>q)
  |ok fl=>
   cases fl with
   |ret u=>exact I2.after hq
   |next=>exact eG hq
   |brk=>exact eG hq
   |cont=>exact eG hq
 unfold ZT at p1;split at p1
 ·split at p1
  ·rename_i c fs _ w hw;obtain⟨ad,C0,dx,gs,rfl,_,_,e1,e2,l⟩:=d1;obtain⟨y,z,hy,hz,dz⟩:=l.look hw;obtain⟨c0,c1,c2⟩:=C.fld c C0 m n e1 hn;rw[hy] at c0;cases c0;exact run e2 c1 c2 hz r1 dz p1
  ·exact aJ.elim p1
 ·obtain⟨c,fs,w,hi,hw,q⟩:=aJ.ex3 p1;obtain⟨ad,hi',rfl⟩:=d1;obtain⟨C0,dx,gs,e1,e2,l⟩:=mr1.ob _ ad _ hi' hi;obtain⟨y,z,hy,hz,dz⟩:=l.look hw;obtain⟨c0,c1,c2⟩:=C.fld c C0 m n e1 hn;rw[hy] at c0;cases c0;exact run e2 c1 c2 hz r1 dz q
 ·exact aJ.elim p1
end
def BF (ls:List bJ)(tbs:List (aE×List Pos×aG)):Nat->aE->Option HO->List V->Prop:=λn a d b=>
 (∃(j:Nat) (l:bJ) (c:aE) (cl:List (aG×aE)) (cs:List aE),ls[j]?=aA l/\n=300+j/\YL l.fr cl cs/\b=.ref c::cs.map V.ref/\d=aA (.ext (kX a c l cl)))\/
 (n=200/\∃(x:V) (u:aB) (o:bB) (e:HO),b=[x]/\RelV x u/\o.data=.cell (aA u)/\d=aA (.frz o e))\/
 ∃(j:Nat) (q:aE×List Pos×aG),tbs[j]?=aA q/\j<100/\n=100+j/\b=[]/\d=aA (.ext (qE a q.2.2))
section
variable {P:Program}{w:World}{K:PySem.W.Frag}{mg:aG->Option aB}{base:aR}{n k0:Nat}
theorem RB{A0:im}{x:aG}{tbs:List (aE×List Pos×aG)}{ls:List bJ}{R:cU}{Γ:Cn}{G:bJ->List aG}(HR:∀{D:DP},cG D R)(hb:tbs.length<=100)(I:∀l∈ls,(tbs[l.jt]?).map (·.2.2)=aA l.qn)
  (M:f7 (mE K A0 (BF ls tbs) λj=>tbs[j]?) P w K mg base Γ k0) (h:∀l∈ls,XT (yO Γ l (G l)) l=aC/\A_ R n (yO Γ l (G l)) l):cB (mE K A0 (BF ls tbs) λj=>tbs[j]?) P w K mg base (k0+1) x (.kap ls):=by
 have Y:∀{j:Nat} {l:bJ},ls[j]?=aA l->∃X b,tbs[l.jt]?=aA (X,b,l.qn):=λ{j l} e=>by
  obtain⟨⟨p1,p2,p3⟩,q1,y⟩:=lX.mp (I l (cD e));cases y;exact⟨p1,p2,q1⟩
 have lt:∀{j:Nat} {q:aE×List Pos×aG},tbs[j]?=aA q->j<100:=λe=>dM (bH.mp e).1 hb;refine⟨λj l ts φ α H v L d=>?_,⟨λj l e=>Y e,λj l a c cl cs e h=>.inl ⟨j,l,c,cl,cs,e,rfl,h,rfl,rfl⟩,λc o u x F h1 V=>.inr (.inl ⟨rfl,x,u,o,F,rfl,V,h1,rfl⟩),λj X b qn c e=>.inr (.inr ⟨j,_,e,lt e,rfl,rfl,rfl⟩)⟩⟩;obtain⟨a,F,xs,rfl,S,J,v,q,hv,⟨c,C,xs2,k,O,i,_⟩,dl⟩:=d;rcases S with⟨j',l',c',cl,cs,e1,e2,W,e3,rfl⟩|⟨z,_⟩|⟨j',q',_,hj',z,_⟩
 ·have:j=j':=by lia
  subst this;rw[L] at e1;cases e1;rw[hv] at e3;injection e3 with e4 e5;rw[e4] at k;cases k;subst e5;have f:C=aA (.ext (qE c l.qn)):=by
   obtain⟨X,Z,hq⟩:=Y L;have:=lt hq;rcases O with⟨m,_,_,_,_,_,z,_⟩|⟨z,_⟩|⟨m,y,g,_,z,_,e⟩
   ·lia
   ·lia
   ·have:l.jt=m:=by lia
    subst this;rw[hq] at g;cases g;exact e
  subst f;refine⟨a,k0+1,rfl,bC _,λA B s e0=>?_⟩;have ha:=(J _ rfl).2.2;have N:=(i _ rfl).2.2;obtain⟨np,_⟩:=(show aY P w H s.heap a (.ext (kX a c l cl)) from e0.hok a _ ha);obtain⟨cr,_⟩:=(show aY P w H s.heap c (.ext (qE c l.qn)) from e0.hok c _ N);refine⟨?_,λhr u x Q t μ K0 Z0 E r dx mr p U T=>?_⟩
  ·obtain⟨_,_,_,_,V⟩:=np;exact⟨_,_,_,_,V⟩
  ·obtain⟨vs,h3,h4,h5⟩:=Wb (λc F xs S=>by
    rcases S with⟨m,_,_,_,_,_,z,_⟩|⟨_,z⟩|⟨m,y,_,z2,z,_⟩
    ·lia
    ·exact z
    ·lia) dl
   obtain⟨g1,g2⟩:=h l (cD L);exact Td HR M g1 g2 hr e0 np cr W h3 h4 h5 r dx mr p U T
 ·lia
 ·lia
end
def sC (e:aH):Option (aG×Pos×aG×Pos×aG×Pos×Pos):=(yv e).bind λq=>(UY q.o).bind λo=>(ZV q.as).bind λa=>(UY a).bind λy=>aA (o.1,o.2,q.m,q.pa,y.1,y.2,q.pc)
theorem HN(h:sC e=aA w):e=.Call (.Attribute (.Name w.1 w.2.1) w.2.2.1 w.2.2.2.1) [.Name w.2.2.2.2.1 w.2.2.2.2.2.1] [] w.2.2.2.2.2.2:=by
 obtain⟨q,f,h⟩:=aS h;obtain⟨o,d,h⟩:=aS h;obtain⟨a,c,h⟩:=aS h;obtain⟨y,b,h⟩:=aS h;cases h;rw[vC f,Vc d,wx c,Vc b]
def Iw (a b:aH):Bool:=(sC a).isSome&&(sC a==sC b)
theorem NR(h:Iw a b=aC):a=b:=by
 obtain⟨d,c⟩:=zu h;obtain⟨w,hw⟩:=rN.mp d;have c:=beq_iff_eq.mp c;rw[HN hw,HN (c.symm.trans hw)]
def Yj(y:aG)(body:aH)(sc:Scope):List bJ->Nat->Option (Nat×bJ)
 |[],_=>aF
 |l::r,i=>match l.sb.isNone&&l.y==y&&l.sc==sc&&Iw l.body body with
  |true=>aA (i,l)
  |false=>Yj y body sc r (i+1)
theorem JC{body:aH}:∀{ls:List bJ} {i j:Nat},Yj y body sc ls i=aA (j,l)->i<=j/\ls[j-i]?=aA l/\l.y=y/\l.sc=sc/\l.body=body/\l.sb=aF
 |[],_,_,h=>by cases h
 |l'::r,i,j,h=>by
  unfold Yj at h;split at h
  ·rename_i q;cases h;simp only[cI,beq_iff_eq] at q;exact⟨bC _,by simp,q.1.1.2,q.1.2,NR q.2,by simpa using q.1.1.1⟩
  ·obtain⟨c,b,a⟩:=JC h;refine⟨by lia,?_,a⟩;rw[show j-i=(j-(i+1))+1 by lia,Ag];exact b
noncomputable def BJ:GM->Option (List bJ)
 |.kap a=>aA a
 |_=>aF
theorem Yb(h:BJ g=aA ls):g=.kap ls:=by
 cases g<;>first|(cases h;rfl)|cases h
def B7:ER:=λr a e=>(sf e).bind λq=>(BJ (a.gl Zl)).bind λb=>(Yj q.1 q.2.1 q.2.2.1 b 0).bind λz=>a.lam.bind λp=>(jv a.N z.2.fr).bind λfs=>
 gd (a.lnm==("<lambda>":aG)&&a.U.contains Zl&&p.1==z.2.jt&&decide (q.2.2.2∈p.2)&&frees z.2.sc==z.2.fr&&decide (z.2.fr.Nodup)&&z.2.fr.all (λx=>a.fz.contains x&&a.cel.contains x)) (aA (B0 z.2.jt z.1 fs))
theorem Tx:cY D B7:=by
 intro r H X W B k e d C h;unfold B7 at h;obtain⟨q,m,h⟩:=aS h;obtain⟨F,i,h⟩:=aS h;obtain⟨⟨j,l⟩,g,h⟩:=aS h;obtain⟨⟨G,a⟩,f,h⟩:=aS h;obtain⟨fs,c,h⟩:=aS h;obtain⟨b,h⟩:=z7 h;cases h;simp only[cI,beq_iff_eq,decide_eq_true_eq,fQ,iA] at b;obtain⟨⟨⟨⟨⟨⟨A,z⟩,y⟩,x⟩,w⟩,v⟩,u⟩:=b;obtain⟨E,rfl⟩:=Xu m;obtain⟨_,t,s,p,o,n⟩:=JC g;subst y;rw[←s,←p,←o];exact PX C n A f x z (Yb i) (by simpa using t) w v u c
def Gg:ER:=λr b e=>(yv e).bind λq=>(ZV q.as).bind λa=>(BJ (b.gl Zl)).bind λc=>gd (ql q.o&&q.pa.endLine==q.pc.line) (gd (b.calm&&aO a) (gd (b.U.contains Zl&&q.m==("keeper":aG)) ((r.e b q.o).bind λgo=>(r.e b a).bind λf=>(b.fld.lookup q.m).bind λn=>aA (BQ (c.map λl=>(l.jt,l.g)) n go f))))
theorem Sb:cY D Gg:=by
 intro r H X W s k e d C h;obtain⟨q,l,h⟩:=aS h;obtain⟨a,g,h⟩:=aS h;obtain⟨t,j,h⟩:=aS h;obtain⟨c,h⟩:=z7 h;obtain⟨b,h⟩:=z7 h;obtain⟨i,h⟩:=z7 h;obtain⟨go,p,h⟩:=aS h;obtain⟨f,o,h⟩:=aS h;obtain⟨n,m,h⟩:=aS h;cases h;rw[vC l,wx g];exact OE C (by simpa using (zu i).1) (Yb j) (uO m) (zu b).1 (zu c).1 (zu c).2 (zu b).2 (H.e C p) (H.e C o)
end NH
namespace NH
open PySem PySem.Spec PyProof.Rows L2 PySem.W
def qg (K:Frag)(x:aG)(st:bE):Prop:=∃f fd,nsIn K bR x=aA (aA (.ref f))/\mL K x x st f fd
def vm (K:Frag)(C:aE)(x q:aG)(st:bE):Prop:=∃f fd,cZ K (.ref C) x=aA (aA (.ref f))/\isFn K (.ref f)=aC/\mL K x q st f fd
def V1 (K:Frag)(C:aE)(x q:aG)(st:bE):Prop:=∃f fd,nsIn K bR x=aA (aA (.ref C))/\cZ K (.ref C) "__init__"=aA (aA (.ref f))/\isFn K (.ref f)=aC/\mL K "__init__" q st f fd/\nT K C=aC/\eS K (.ref C)=aC
theorem dfp{K:Frag}{x:aG}{st:bE}{f:aE}{g:aB}{od an:Option aE}{d:Array (Option aB)}{kV doc e b ct:aB}(a:nsIn K bR x=aA (aA (.ref f)))(l:K.lookup f=aA ⟨g,od,.func (fnOf x x (zG st) (z0 st) (zq st) .none kV doc e an b ct),d⟩)(c:fD K b x=aC)(k:eS K (.ref f)=aC):qg K x st:=⟨f,_,a,jm l c k⟩
theorem mtp{K:Frag}{x q:aG}{st:bE}{f C:aE}{g:aB}{od an:Option aE}{d:Array (Option aB)}{kV doc e b ct:aB}(a:cZ K (.ref C) x=aA (aA (.ref f)))(j:isFn K (.ref f)=aC)(l:K.lookup f=aA ⟨g,od,.func (fnOf x q (zG st) (z0 st) (zq st) .none kV doc e an b ct),d⟩)(c:fD K b q=aC)(k:eS K (.ref f)=aC):vm K C x q st:=⟨f,_,a,j,jm l c k⟩
theorem clp {K:Frag} {x q:aG} {st:bE} {f C:aE} {g:aB} {od an:Option aE} {d:Array (Option aB)} {kV doc e b ct:aB} (a:nsIn K bR x=aA (aA (.ref C))) (i:cZ K (.ref C) "__init__"=aA (aA (.ref f))) (j:isFn K (.ref f)=aC) (l:K.lookup f=aA ⟨g,od,.func (fnOf "__init__" q (zG st) (z0 st) (zq st) .none kV doc e an b ct),d⟩) (c:fD K b q=aC) (k:eS K (.ref f)=aC) (m:nT K C=aC) (kk:eS K (.ref C)=aC):V1 K C x q st:=⟨f,_,a,i,j,jm l c k,m,kk⟩
noncomputable def PL:Nat->(List aB->Prop)->Prop
 |0,P=>P []
 |n+1,P=>∀a,PL n λl=>P (a::l)
theorem PL.all:∀{n:Nat} {P:List aB->Prop},PL n P->∀us:List aB,us.length=n->P us
 |0,_,h,[],_=>h
 |_+1,_,h,a::l,e=>PL.all (h a) l (tc e)
abbrev CY(x q:aG)(st:bE)(ps:List aG):Prop:=∀(kV a d:aB) (an:Option aE) (b ct:aB),PL ps.length λc=>lH (fnOf x q (zG st) (z0 st) (zq st) .none kV a d an b ct) ⟨c,[]⟩=pure (ps.zip c)
abbrev GsB(l:mO)(w:cV)(K:Frag)(mg:aG->Option aB)(base:aR)(k:Nat)(a:List (aG×GM)){A:im}{clo:Nat->aE->Option HO->List V->Prop}{tabs:Nat->Option (aE×List Pos×aG)}:Prop:=bF l.prog w K mg base A clo k a tabs
structure Pk(R:cU)(K:Frag)(mg:aG->Option aB)(base:aR)(A:im)(cls fld:List (aG×Nat)):Prop where
 r:∀{D},cG D R
 i:K.In base
 n:base.Ns bR mg
 c:nK K A cls fld=aC
section
variable {R:cU}{P:Program}{w:World}{K:Frag}{mg:aG->Option aB}{base:aR}{A:im}{cls fld:List (aG×Nat)}{clo:Nat->aE->Option HO->List V->Prop}{gs:List (aG×GM)}{tabs:Nat->Option (aE×List Pos×aG)}{k:Nat}{x qu:aG}{st:bE}{f C:aE}{fd:FuncData}{ps N G cel own:List aG}{m n:Nat}{ds:List Ds}
theorem Pk.ok(Z:Pk R K mg base A cls fld)(F:mL K x qu st f fd)(q:bF P w K mg base A clo k gs tabs)(a:zj ((aT R n).s (cn cls fld gs N G cel own aF)) (z0 st)=aA ds)(hs:xE (cn cls fld gs N G cel own aF) ps (zq st)=aC)(e:N.length=ps.length+m) :
  bQ P w K mg base (dD P w) (k+1) f fd ps (eW (mE K A clo tabs) ps.length (bM ps.length m ds)):=by
 obtain⟨j,od,kV,doc,h,an,g,ct,d,rfl,lk,b⟩:=F.ex;exact xq Z.r (Zb Z.i Z.n Z.c q) lk b hs e a
theorem Pk.fn (Z:Pk R K mg base A cls fld) (p:qg K x st) (q:bF P w K mg base A clo k gs tabs) (b:zj ((aT R n).s (cn cls fld gs N G cel own aF)) (z0 st)=aA ds) (hs:xE (cn cls fld gs N G cel own aF) ps (zq st)=aC) (e:N.length=ps.length+m) (g:CY x x st ps) (d:(x==("__debug__":aG))=aD) :
  bF P w K mg base A clo (k+1) ((x,GM.fn (bM ps.length m ds))::gs) tabs:=by
 obtain⟨f,fd,a,F⟩:=p;exact bF.add (q.mono (h_ k)) ⟨f,dO Z.i Z.n a,fd,ps,k+1,F.kp,F.binds λkV dc c an cd ct=>(g kV dc c an cd ct).all,bC _,Z.ok F q b hs e,wz⟩ d
theorem Pk.met {c:Nat} (Z:Pk R K mg base A cls fld) (p:vm K C x qu st) (q:bF P w K mg base A clo k gs tabs) (a:zj ((aT R n).s (cn cls fld gs N G cel own aF)) (z0 st)=aA ds) (b:A.cs.lookup c=aA C) (g:(lq.contains x)=aD) (hs:xE (cn cls fld gs N G cel own aF) ps (zq st)=aC) (l:N.length=ps.length+m) (o:CY x qu st ps) (e:(eD x==("__debug__":aG))=aD) :
  bF P w K mg base A clo (k+1) ((eD x,GM.met c x (bM ps.length m ds))::gs) tabs:=by
 obtain⟨f,fd,i,j,F⟩:=p;refine bF.add (q.mono (h_ k)) ⟨C,f,fd,ps,k+1,b,V3 Z.c b,⟨i,j,F.kp⟩,λi h=>?_,F.binds λkV dc d an cd ct=>(o kV dc d an cd ct).all,bC _,Z.ok F q a hs l,wz⟩ e;have:=iA.mpr (cD (show lq[i]?=aA x from h));rw[g] at this;cases this
theorem Pk.cl {c:Nat} {b:Bool} (Z:Pk R K mg base A cls fld) (p:V1 K C x qu st) (q:bF P w K mg base A clo k gs tabs) (d:zj ((aT R n).s (cn cls fld gs N G cel own aF)) (z0 st)=aA ds) (l:A.cs.lookup c=aA C) (hs:xE (cn cls fld gs N G cel own aF) ps (zq st)=aC) (h:N.length=ps.length+m) (o:CY "__init__" qu st ps) (g:(x==("__debug__":aG))=aD) :
  bF P w K mg base A clo (k+2) ((x,GM.mk c b (bM ps.length m ds))::gs) tabs:=by
 obtain⟨f,fd,a,i,j,F,mk,kk⟩:=p;exact bF.add (q.mono (Nat.le_add_right k 2)) ⟨C,f,fd,ps,k+1,l,dO Z.i Z.n a,⟨mk,i,j,kk⟩,F.binds λkV dc e an cd ct=>(o kV dc e an cd ct).all,bC _,Z.ok F q d hs h,wz⟩ g
end
end NH
namespace NH
open PySem PySem.Spec PyProof.Rows L2
noncomputable def sIx(l:List bE)(i:Nat):bE:=l.getD i (.Pass ⟨0,0,0,0⟩)
noncomputable def L9:bE->aH
 |.Assign _ e _=>e
 |.Return (aA e) _=>e
 |.Expr e _=>e
 |_=>.Name "" ⟨0,0,0,0⟩
noncomputable def Mc(e:aH)(i:Nat):aH:=match e with
 |.Call _ a _ _=>a.getD i e
 |_=>e
noncomputable def Mh:aH->aH
 |.Lambda _ b _ _=>b
 |e=>e
noncomputable def Mi:aH->Scope
 |.Lambda _ _ s _=>s
 |_=>⟨.function,[],aD,aD,[]⟩
noncomputable def hW{β:Type}(P:β->Prop):List β->Prop
 |[]=>True
 |a::r=>P a/\hW P r
theorem hW.mem{P:β->Prop}:∀{ls:List β},hW P ls->∀l∈ls,P l
 |[],_,_,h=>absurd h (by simp)
 |a::r,q,l,h=>(cC.mp h).elim (λe=>e▸q.1) λh=>hW.mem q.2 l h
theorem MA{P:b7}{K:bK}{F:List aG}(M:f7 D P w K mg base Γ k):f7 D P w K mg base {Γ with fz:=F} k:=⟨M.hK,M.glo,M.isi,M.fld,M.xcx,M.ocx,M.clv,M.xmt⟩
theorem OL{R:cU}{D:DP}{P:b7}{w:cV}{K:bK}{mg:aG->Option aB}{base:aR}{Γ:Cn}{n k:Nat}(o:cG D R){f:aE}{name qual:aG}{params:Arguments}{body:List bE}{scope:Scope}{i kV doc h a ct j:aB}{an od:Option aE}{c:Array (Option aB)}{ps:List aG}{m cut:Nat}{ds:List Ds}
  (M:f7 D P w K mg base Γ k) (lk:K.lookup f=aA ⟨j,od,.func (fA name qual params body scope i kV doc h an a ct),c⟩) (g:fD K a qual=aC) (hs:xE Γ ps scope=aC) (l:Γ.N.length=ps.length+m) (e:zj ((aT R n).s {Γ with fz:=[]}) (body.take cut)=aA (ds.take cut)) (d:zj ((aT R n).s Γ) (body.drop cut)=aA (ds.drop cut)) (b:dC D mg base a (qual++".<locals>.") k Γ.lam Γ.lnm) :
  bQ P w K mg base (dD P w) (k+1) f (fA name qual params body scope i kV doc h an a ct) ps (eW D ps.length (bM ps.length m ds)):=by
 have:=VN o M lk g hs l (EG cut body).symm e d b;rwa[EG] at this
abbrev zaS(x y:T)(μ:aK):RE T:=match x with
 |.str x=>(match y with
  |.int n=>.grd (x.length=1/\1<n/\n<=1000) (.ok (.str (Txt.mul x n)) μ)
  |_=>.st)
 |_=>.st
noncomputable def Z2(x:aG):List (aG×Int)->T
 |[]=>.non
 |p::r=>if p.1=x then .int p.2 else Z2 x r
abbrev Mo(a:List (aG×Int))(t:T)(μ:aK):RE T:=match t with
 |.str x=>.ok (Z2 x a) μ
 |_=>.st
abbrev B5(a:List (aG×Int))(f:De):De:=λb c=>(f b c).bind (Mo a)
abbrev Na(o f g:De):De:=λa h=>(o a h).bind λi d=>match i with
 |.dic e=>(f a d).bind λj c=>(g a c).bind λdt b=>match j with
  |.str z=>.ok ((zD (.inr z) e).getD dt) b
  |_=>.st
 |_=>.st
section
variable {X:Cx}{D:DP}{W:XW}{Γ:Cn}{k:Nat}{pins:List (aE×bB)}{s:Shared}{σ:St}{H:Hp}{φ α:List aE}{τ:Sl}{μ:aK}{f g:De}{a b:aH}
theorem z02:∀{a:List (aG×Int)},(y9 (a.map λp=>((.inr p.1:Key),V.int p.2)) (.inr x)).getD .non=(match Z2 x a with|.int i=>V.int i|_=>V.non):=by
 intro a;induction a with
 |nil=>rfl
 |cons p r b=>
  unfold Z2;by_cases e:p.1=x
  ·rw[if_pos e,dW,xU (p:=((.inr p.1:Key),V.int p.2)) (by rw[e])];rfl
  ·rw[if_neg e,dW,xn (p:=((.inr p.1:Key),V.int p.2)) (λz=>e (i7 z))];exact b
theorem Wi:∀{a:List (aG×Int)},a_ D φ α H (Z2 x a) (match Z2 x a with|.int i=>V.int i|_=>V.non)
 |[]=>rfl
 |p::r=>by
  unfold Z2;by_cases e:p.1=x
  ·rw[if_pos e];rfl
  ·rw[if_neg e];exact Wi
theorem RP(C:Ck D W Γ X k)(i:x∈Γ.G)(S:Γ.gl x=.tbl j)(hs:aO a=aC)(c:(pa.endLine==pc.line)=aC)(T:PE X a (aX D W f)) :
  PE X (.Call (.Attribute (.Name x p0) "get" pa) [a] [] pc) (aX D W (B5 j f)):=by
 have u:eF [a] X.env=[(aD,eval a X.env)]:=z3 hs;have m:M1 X (.Name x p0) "get" pa a pc:=⟨qX rfl,by rw[u];rfl,c,by rw[u];rfl⟩;have r:=C.glo x i;rw[S] at r;obtain⟨ad,vs,R,U,P,y⟩:=r;rintro o s σ H Q I ⟨φ,α,τ,μ,L,O,p⟩;refine wpAny_Call_method m.base m.few m.line Fi EF PySem.F.type_dict_get (wA I (C.glb x i) R ?_ (C.dbG x i));have dd:=y _ I.kIn;refine⟨dd.typeIs,λb e=>?_,?_⟩
 ·cases e;obtain⟨N,_,_,Y,V,_⟩:=dd;exact⟨N,Y,V.2.1⟩
 ·rw[m.trees];refine xz rfl (rL (EM (a7 (sub T I L O p) ?_)));rintro iv s2 ⟨v,Z,t,B,E,A,M,J,K,h,l,q⟩;refine D6 ?_;cases t with
  |str z=>
   have l:v=.str z:=l;subst l;have g:=y _ A.kIn;refine call_meetsIn EF g.typeIs PySem.F.entry_dict_get (PySem.F.args_dict_get_2 _ _) (meets_dict_get (zE X.prog X.w) ad (QK (k:=.inr z) M) U) ⟨_,g.mapOf,?_⟩;have n:=(KV.val P (.inr z)).getD (d:=.non) (d':=.none) rfl;rw[z02] at n;exact⟨_,Z,A.tok _,n,aJ.here q h Wi⟩
  |_=>exact aJ.elim q
noncomputable def Gv:GM->Option (List (aG×Int))
 |.tbl a=>aA a
 |_=>aF
theorem Si{g:GM}{q:List (aG×Int)}(h:Gv g=aA q):g=.tbl q:=by cases g<;>first|(cases h;rfl)|cases h
def Hh:ER:=λr Γ e=>(yv e).bind λq=>(UY q.o).bind λx=>(ZV q.as).bind λa=>gd (q.m==("get":aG)) (gd ((cF Γ.N x.1).isNone&&aO a) (gd (q.pa.endLine==q.pc.line) ((r.e Γ a).bind λf=>(Gv (Γ.look x.1)).bind λb=>aA (B5 b f))))
theorem UG{D:DP}:cY D Hh:=by
 intro r H X W t k e d C h;obtain⟨q,s,h⟩:=aS h;obtain⟨x,p,h⟩:=aS h;obtain⟨a,o,h⟩:=aS h;obtain⟨n,h⟩:=z7 h;obtain⟨m,h⟩:=z7 h;obtain⟨l,h⟩:=z7 h;obtain⟨f,j,h⟩:=aS h;obtain⟨b,g,h⟩:=aS h;cases h;rw[vC s,Vc p,wx o,zW n];obtain⟨c,i⟩:=vZ (Si g) (by intro z;cases z);exact RP C c i (zu m).2 l (H.e C j)
end
def zaT:ER:=λr b e=>match e with
 |.Call (.Attribute (.Dict i d p) m k) [a,c] [] j=>gd (m==("get":aG)&&aO a&&aO c) ((r.e b (.Dict i d p)).bind λf=>(r.e b a).bind λg=>(r.e b c).bind λh=>aA (Na f g h))
 |_=>aF
def AX (w:cV):List pD->List (aG×Int)->Prop
 |[],[]=>True
 |e::r,p::q=>(∃t u,e=⟨i5 w p.1,.str p.1 t,.int p.2 u⟩)/\AX w r q
 |_,_=>False
theorem Y4{P:b7}:∀{es:List pD} {a:List (aG×Int)},AX w es a->∃vs,KV (a.map λp=>((.inr p.1:Key),V.int p.2)) vs/\Pairs (zE P w) es vs/\vs.map (·.1)=a.map (λp=>(.inr p.1:Key))/\∀e∈es,∃k,(zE P w).is k e.key=aC/\e.hash=(zE P w).hash k
 |[],[],_=>⟨[],.nil,.nil,rfl,by simp⟩
 |e::r,p::q,h=>by
  obtain⟨⟨t,u,rfl⟩,h⟩:=h;obtain⟨vs,i,g,f,d⟩:=Y4 (P:=P) h;have c:(zE P w).is (.inr p.1) (.str p.1 t)=aC:=W3 p.1 t;refine⟨(.inr p.1,.int p.2 u)::vs,.cons ⟨rfl,u,rfl⟩ i,.cons c rfl g,by rw[dW,dW,f],λe b=>?_⟩;rcases cC.mp b with rfl|b
  ·exact⟨_,c,rfl⟩
  ·exact d e b
 |[],_::_,h=>h.elim
 |_::_,[],h=>h.elim
theorem Np{P:b7}{K:bK}(g:mg x=aA (.ref a))(hs:(a==ic)=aD)
  (lk:K.lookup a=aA {cls:=.type "dict",data:=.dict es ep}) (f:AX w es.toList d) (nd:(d.map (·.1)).Nodup):cB D P w K mg base k x (.tbl d):=by
 obtain⟨c,o,m,l,j⟩:=Y4 (P:=P) f;refine⟨a,c,g,hs,o,λh b=>⟨_,es,ep,b _ _ lk,⟨rfl,rfl,rfl⟩,rfl,λe i=>j e (EE.mpr i),m,?_⟩⟩;rw[l,Fa,lM];have nd:=Fa.mp nd;rw[lM] at nd;exact IN (λ{p q} n e=>n (i7 e)) nd
end NH
namespace NH.P
open PySem L2 NH
@[reducible] def ZG:List Ds:=[(bW (gC (tE (zy .Eq (cS kN (eV 0)) (eC (.int 0)))) (qF (tE (yn [3] (bD (eV 0) (eC (.int 0))))))) [(zv (eC (.bl aD)))] []),(zv (zy .Eq (B5 [("lease",5),("ask",4),("store",4),("take",4),("back",3),("fall",3),("bare",3)] (bD (eV 0) (eC (.int 0)))) (cS kN (eV 0))))]
def vu:Fn:=bM 1 0 ZG
end NH.P
namespace NH
open PySem PySem.Spec PyProof.Rows L2
abbrev Ut:Key->T
 |.inl i=>.int i
 |.inr z=>.str z
def jU(μ:aK)(i:Nat)(a:List (Key×T)):Prop:=μ[i]?=aA (.dic a)\/∃ep,μ[i]?=aA (.frd ep a)
abbrev sD(i ep:Nat)(a:List (Key×T)):aK->Prop:=λb=>b[i]?=aA (.frd ep a)
abbrev iD(f:De):Di:=λc d=>(f c d).it λt b=>match t with
 |.mut i=>λK _=>∃a,jU b i a/\∀ep,K (a.map λp=>Ut p.1) (sD i ep a) (b.set i (.frd ep a))
 |_=>RI.st
abbrev UQ(t:T)(μ:aK):RE T:=match t with
 |.mut i=>λK _=>∃a,jU μ i a/\K (.int a.length) μ
 |_=>.st
abbrev uv(x y:T)(μ:aK):RE T:=match x,y with
 |.mut i,.str z=>λK _=>∃a v,jU μ i a/\zD (.inr z) a=aA v/\K v μ
 |_,_=>.st
def IE (a:aE)(ep n:Nat):It:=⟨λi H=>∃b p,H a=aA (.dE ep b)/\b.length=n/\b[i]?=aA p,λi H x c=>c=H/\∀b,H a=aA (.dE ep b)->∃p,b[i]?=aA p/\x=kV p.1,λi H=>∃b,H a=aA (.dE ep b)/\b.length=n/\b.length<=i⟩
theorem GZ{P:b7}(h:(zE P w).is k u=aC):RelV (kV k) u:=by
 cases k with
 |inl i=>exact DD (show tH i u=aC from h)
 |inr x=>exact DN (show tV x u=aC from h)
theorem Yq{P:b7}{K:bK}(a it:aE)(ep n:Nat):fC P w K tg (IE a ep n) [it] it (λi h=>h.IsKeyIter it a i n ep) where
 mem:=by simp
 obj:=λi h st b j=>by
  have e:b=it:=by simpa using j
  subst e;obtain⟨o,e,c,d⟩:=st;exact⟨o,e,λv z=>by rw[d] at z;cases z⟩
 keep:=λi h y st k=>st.at λo e=>k it (by simp) o e
 item:=by
  intro X C hw D Q i g s N H E I x st B;subst C hw D;obtain⟨t,p,e,rfl,u⟩:=B;obtain⟨z,hd,f,rel,da⟩:=(show aY X.prog X.w H s.heap a (.dE ep t) from I.hok a _ e);have q:t.length=f.length:=rel.length;obtain⟨M,L,Y,J,G,F⟩:=x it (by simp);have O:i<f.length:=by rw[←q];exact (bH.mp u).1
  have T:f[i]?=aA (f[i].1,f[i].2):=by rw[eQ O]
  have U:p.1=f[i].1:=by
   have:=congrArg (λl:List Key=>l[i]?) rel.keys;simp only[c8,u,eQ O,rp,ri] at this;exact this
  rw[q] at st;refine wpAny_pyNext_dict_item st da T λA y r m S=>?_;have Z:Inv X g N H {s with heap:=y}:=I.turned (t':=s.toks) (λb o j e=>(S.2 b j).trans e) M L J G F;obtain⟨o,eo,c,d⟩:=id m;exact⟨A,rfl,yR (s:={s with heap:=y}) eo c d (by decide) ⟨kV p.1,H,Z,by rw[U];exact GZ r,⟨rfl,λV R=>by rw[e] at R;cases R;exact⟨p,u,rfl⟩⟩,by rw[q];exact m,λb j=>(x b j).1⟩⟩
 done:=by
  intro X C hw D Q i g s N H E I x st B;subst C hw D;obtain⟨t,e,rfl,u⟩:=B;obtain⟨z,hd,f,rel,da⟩:=(show aY X.prog X.w H s.heap a (.dE ep t) from I.hok a _ e);have q:t.length=f.length:=rel.length;obtain⟨M,L,Y,J,G,F⟩:=x it (by simp);rw[q] at st;exact wpAny_pyNext_dict_end (I.ok.hd Q) st da (oM (by lia)) λy eb=>⟨rfl,I.turned (t':=s.toks) (λb o j e=>eb b o j e) M L J G F⟩
 self:=λ_ _ _ _ _ st h=>wpAny_pyIter_keyiter st h
section
variable {X:Cx}{D:DP}{W:XW}{Γ:Cn}{k:Nat}{pins:List (aE×bB)}{s:Shared}{σ:St}{H:Hp}{φ α:List aE}{τ:Sl}{μ:aK}{f g:De}{a b tg:aH}{pos:Pos}
theorem XR:∀{a:List (Key×T)} {b:List (Key×V)},bI D φ α H a b->∀{i:Nat} {p:Key×V},b[i]?=aA p->∃q:Key×T,a[i]?=aA q/\q.1=p.1
 |[],_,h,i,p,e=>by cases h;cases e
 |q::r,_,h,i,p,e=>by
  obtain⟨v,c,rfl,d,l⟩:=h;cases i with
  |zero=>cases e;exact⟨q,rfl,rfl⟩
  |succ i=>exact XR l e
theorem Xe:a_ D φ α H (Ut z) (kV z):=by cases z<;>rfl
theorem Ta{ad:aE}(b:j.length=n):il D (IE ad ep n) (λφ α H=>∃d,H ad=aA (.dE ep d)/\bI D φ α H j d) (j.map λp=>Ut p.1):=
 ⟨λi φ α H ⟨d,e,l⟩ a=>by
  have c:=zY l;have a:i<d.length:=by rw[c];simpa using a
  exact⟨d,d[i],e,c.trans b,eQ a⟩,λi φ α H v k t ⟨d,e,l⟩ a y=>by
  obtain⟨rfl,y⟩:=y;obtain⟨p,g,rfl⟩:=y d e;obtain⟨q,f,h⟩:=XR l g;rw[c8,f] at a;cases a;exact⟨λ_ _ z=>z,h▸Xe⟩,λφ α H ⟨d,e,l⟩=>⟨d,e,(zY l).trans b,by rw[zY l,bG];exact bC _⟩⟩
theorem Hs(a:aM D φ α H μ)(b:α[i]?=aA x)(h:jU μ i j):∃d,(H x=aA (.dK d)\/∃ep,H x=aA (.dE ep d))/\bI D φ α H j d:=by
 rcases h with h|⟨ep,h⟩
 ·obtain⟨d,e,l⟩:=a.ob i x _ b h;exact⟨d,.inl e,l⟩
 ·obtain⟨d,e,l⟩:=a.ob i x _ b h;exact⟨d,.inr ⟨ep,e⟩,l⟩
theorem fV{β:Type}:∀{l:List β} {i:Nat} {b:β},l[i]?=aA b->l.set i b=l
 |[],_,_,h=>by cases h
 |c::r,0,b,h=>by cases h;rfl
 |c::r,i+1,b,h=>congrArg (c::·) (fV (l:=r) h)
theorem RA(ha:PE X a (aX D W f)):PI X tg a (gD D W (iD f)):=by
 rintro A s G H R I ⟨φ,α,τ,μ,S,U,p⟩;refine a7 (sub ha I S U p) ?_;rintro u r ⟨v,k,t,i,d,L,T,P,Q,q,d1,p1⟩;cases t with
 | «mut» j=>
  obtain⟨ad,x,rfl⟩:=d1;cases T;have C:aJ D W φ d k G _ (λK _=>∃c,jU i j c/\∀ep,K (c.map λp=>Ut p.1,sD j ep c) (i.set j (.frd ep c))):=p1;obtain⟨K0,Z0,⟨c,hd,C⟩,Z,k2⟩:=C;have B:j<i.length:=by rcases hd with h|⟨_,h⟩<;>exact (bH.mp h).1
  have E:∃ep g,Inv X A G (upd k ad (.dE ep g)) r/\aP d k d (upd k ad (.dE ep g))/\bI D φ d k c g:=by
   rcases hd with h|⟨ep,h⟩
   ·obtain⟨g,e,l⟩:=q.ob j ad _ x h;obtain⟨ep,y⟩:=UW L e;exact⟨ep,g,y,aP.turn (cD x) ⟨_,e⟩,l⟩
   ·obtain⟨g,e,l⟩:=q.ob j ad _ x h;have:upd k ad (.dE ep g)=k:=by
     funext b;unfold upd;split
     ·subst_vars;exact e.symm
     ·rfl
    exact⟨ep,g,by rw[this];exact L,aP.turn (cD x) ⟨_,e⟩,l⟩
  obtain⟨ep,g,y,n,l⟩:=E;have Y:=bI.lk n.lk (φ:=φ) l;have V:aM D φ d (upd k ad (.dE ep g)) (i.set j (.frd ep c)):=q.turn x B n ⟨g,z4,Y⟩;obtain⟨z,hs,J,rel,da⟩:=(show aY X.prog X.w _ r.heap ad (.dE ep g) from y.hok ad _ z4);have hl:c.length=J.length:=(zY l).symm.trans rel.length;refine wpAny_pyIter_dict hs da ?_;refine⟨r.heap.objs.size,[r.heap.objs.size],_,_,_,rfl,y.kept (t':=r.toks) λb o e=>bP _ e,Yq ad _ ep J.length,⟨_,dP _ rfl,rfl,rfl⟩,λb hb=>?_,?_⟩
  ·have e:b=r.heap.objs.size:=by simpa using hb
   subst e;exact y.fpOk (bC _) (y.hok.fresh (bC _))
  ·refine Z _ _ (C ep) d _ n V _ _ (Ta hl) (λM O H' N lk m hv=>?_) ?_
   ·obtain⟨F,e',l'⟩:=m.ob j ad _ (lk.st j ad x) hv;exact⟨F,e',l'⟩
   ·show (i.set j _)[j]?=_;rw[nl B]
 |_=>exact aJ.elim p1
theorem OT:B1 X D W (.builtin "len") UQ:=by
 intro a s m H k c n t v u Q I b d r p;unfold UQ at p;split at p
 ·obtain⟨x,w,⟨f,hd,p⟩,g,q⟩:=p;obtain⟨ad,h,rfl⟩:=d;cases r;obtain⟨i,e,l⟩:=Hs b h hd;refine MY I (e.imp .inl id) λt o j=>⟨.int i.length,H,j,⟨t,rfl⟩,?_⟩;rw[zY l];exact g _ _ p c H (aP.refl _ _) b _ rfl
 ·exact p.elim
theorem P7(h:qe b=aC):Az b:=by
 intro o i;cases b<;>first|(simp[qe] at h;done)|rfl
theorem Pa(C:Ck D W Γ X k)(hs:qe b=aC)(o:PE X a (aX D W f))(P:PE X b (aX D W g)):PE X (.Subscript a b pos) (aX D W (gO uv f g)):=by
 refine PE.mono (PP (by have:=C.unt;lia) o P (P7 hs)) ?_;rintro Y H Q ⟨r,F,s,E,u,J,p⟩;refine⟨r,F,s,E,u,J,p.bind.mono λx e j H1 n K q v d=>?_⟩;refine⟨r,j,s,e,u.step n,K,q.bind.mono λy B h V m A c w dw=>?_⟩;unfold uv at c;split at c
 ·rename_i i z;obtain⟨K0,Z0,⟨L,t,O,N,I⟩,M,Z⟩:=c;obtain⟨ad,o,rfl⟩:=d.step m;obtain⟨U,R,l⟩:=Hs A o O;obtain⟨G,T,S⟩:=VE l N;have dw:w=.str z:=dw;subst dw;exact⟨ad,G,rfl,⟨U,.inr z,R.imp .inl id,rfl,T.symm⟩,M _ _ I h V (aP.refl _ _) A _ S⟩
 ·exact c.elim
end
noncomputable def rQ(Γ:Cn)(e:aH):Bool:=match e with
 |.Name x _=>Γ.own.contains (("~":aG)++x)
 |.Attribute _ x _=>x==("seats":aG)
 |_=>aD
def Ic:IR:=λr a e=>gd (rQ a e) ((r.e a e).bind λf=>aA (iD f))
theorem Oo:l7 D Ic:=by
 intro r H X W b k c e d C g h;obtain⟨_,h⟩:=z7 h;obtain⟨f,a,h⟩:=aS h;cases h;exact RA (H.e C a)
def GN:ER:=λr b e=>(xF e).bind λq=>(ZV q.as).bind λa=>gd (rQ b a) (lY "len" UQ aD r b e)
theorem UE:cY D GN:=by
 intro r H X W i k e d C h;obtain⟨q,j,h⟩:=aS h;obtain⟨a,b,h⟩:=aS h;obtain⟨_,h⟩:=z7 h;exact ko (nm:="len") (op:=UQ) (cl:=aD) (λC c g _ f b=>XS C c g boot_len (by decide) f OT b) r H C h
def FJ:ER:=λr a e=>(sq e).bind λq=>gd (rQ a q.1&&qe q.2.1) ((r.e a q.1).bind λf=>(r.e a q.2.1).bind λg=>aA (gO uv f g))
theorem Sa:cY D FJ:=by
 intro r H X W j k e d C h;obtain⟨q,i,h⟩:=aS h;rw[XO i];obtain⟨a,h⟩:=z7 h;obtain⟨f,c,h⟩:=aS h;obtain⟨g,b,h⟩:=aS h;cases h;exact Pa C (zu a).2 (H.e C c) (H.e C b)
noncomputable def GP:eK->Bool
 |.NotIn=>aC
 |_=>aD
theorem SQ(h:GP op=aC):op=.NotIn:=by cases op<;>first|rfl|cases h
def Cs (r:dH)(Γ:Cn)(e:aH):Option De:=(rX e).bind λq=>gd (GP q.op&&rQ Γ q.b) (gd (jd .NotIn q.b) ((r.e Γ q.a).bind λf=>(r.e Γ q.b).bind λg=>aA (gO WZ f g)))
theorem HJ{W:XW}(H:bV D r)(C:Ck D W Γ X k)(h:Cs r Γ e=aA d):PE X e (aX D W d)/\PT X e (eP D W (tE d)):=by
 obtain⟨q,j,h⟩:=aS h;obtain⟨i,h⟩:=z7 h;obtain⟨c,h⟩:=z7 h;obtain⟨f,b,h⟩:=aS h;obtain⟨g,a,h⟩:=aS h;cases h;rw[XE j,SQ (zu i).1];exact⟨MM (Y1 C.unt) c (H.e C b) (H.e C a),T3 (Y1 C.unt) c (H.e C b) (H.e C a)⟩
def Gm:ER:=Cs
theorem Rh:cY D Gm:=λr H _ _ _ _ _ _ C h=>(HJ H C h).1
def GW:TR:=λr a e=>(Cs r a e).bind λf=>aA (tE f)
theorem SO:sI D GW:=by
 intro r H X W b k e d C h;obtain⟨f,a,h⟩:=aS h;cases h;exact (HJ H C a).2
end NH
namespace NH.P
open PySem L2 NH
@[reducible] def yU:List Ds:=[(zK (eV 0) 21 (eV 1)),(zK (eV 0) 11 (eC .non)),(zK (eV 0) 22 (eC .non))]
def vB:Fn:=bM 2 0 yU
@[reducible] def u_:List Ds:=[(zK (eV 0) 22 (eV 1))]
def jE:Fn:=bM 2 0 u_
@[reducible] def jl:List Ds:=[(bW (qF (x_ (tE (z9 qj [(eV 2)])) (tE (z9 qj [(eV 3)])))) [(zM 16 [(eC (.str "ahead and stride are whole numbers from 0 on"))])] []),(bW (x_ (tE (zy .IsNot (eV 5) (eC .non))) (qF (tE nH))) [(zM 23 [(eC (.str "no note of the shape"))])] []),(zK (eV 0) 9 (eV 1)),(zK (eV 0) 14 (eV 2)),(zK (eV 0) 15 (eV 3)),(zK (eV 0) 16 (eV 4)),(zK (eV 0) 6 (o5 (tE (zy .Is (eV 5) (eC .non))) (eC .non) (bD (eV 5) (eC (.int 0))))),(zK (eV 0) 17 (o5 (tE (zy .Is (eV 5) (eC .non))) (eC .non) (bD (eV 5) (eC (.int 1))))),(zK (eV 0) 18 (eC .non)),(zK (eV 0) 19 (y7 [])),(zK (eV 0) 20 (eC (.bl aD)))]
def qo:Fn:=bM 6 0 jl
@[reducible] def jx:List Ds:=[(bW (tE (zy .Eq (v5 [(eV 1),(eV 2)]) (zT 45 vK (eV 0) []))) [BZ] []),(zK (eV 0) 20 (eC (.bl aC))),(zF (BQ [(1,(zT 46 jE (eV 1) [(eV 0)]))] 16 (eV 0) (v5 [(eV 1),(eV 2)]))),(zK (eV 0) 20 (eC (.bl aD))),(zK (eV 0) 6 (eV 1)),(zK (eV 0) 17 (eV 2))]
def qp:Fn:=bM 3 0 jx
@[reducible] def wg:List Ds:=[(zF (zT 45 qi (eV 0) [])),(zF (z9 vj [(ze (eV 0) 9),(eV 1)])),(zF (zT 45 qp (eV 0) [(eV 1),(ze (eV 0) 17)]))]
def q9:Fn:=bM 2 0 wg
@[reducible] def wV:List Ds:=[(zF (zT 45 qi (eV 0) [])),(zp 3 (zT 45 zX (eV 0) [(eV 1),(eV 2)])),(zF (zT 45 qp (eV 0) [(ze (eV 0) 6),(zT 45 qd (eV 0) [(zd .FloorDiv (zd .Sub (ze (eV 3) 13) (eC (.int 1))) (ze (ze (eV 0) 9) 2))])])),(zK (eV 0) 18 (z9 xi [(ze (eV 0) 9),(ze (eV 3) 11),(zd .Sub (ze (eV 3) 13) (eC (.int 1)))])),(zv (eV 3))]
def zJ:Fn:=bM 3 1 wV
@[reducible] def k8:List Ds:=[(zp 3 (zT 45 zJ (eV 0) [(eV 1),(eV 2)])),(zK (eV 0) 19 (y7 [])),(zv (z9 qm [(ze (eV 0) 9),(eV 3)]))]
def qG:Fn:=bM 3 1 k8
@[reducible] def Jm:List Ds:=[(zv (yk (yn [4] (eV 0)) (yk (z9 vu [(eV 0)]) (z9 zU [(bD (eV 0) (eC (.int 1)))]))))]
def kA:Fn:=bM 1 0 Jm
@[reducible] def xu:List Ds:=[(bW (gC (qF (tE (yn [6] (eV 0)))) (tE (zy .Eq (cS UQ (eV 0)) (eC (.int 0))))) [(zv (eC (.bl aD)))] []),(zv (cS VH (qT 1 [0] (.one 0) (iD (eV 0)) [] (yk (z9 w4 [(eV 0)]) (yn [41] (gO uv (eV 1) (eV 0)))))))]
def j6:Fn:=bM 1 0 xu
@[reducible] def qz:List Ds:=[(zK (eV 1) 11 (Qc 45 qo [(ze (eV 0) 9),(ze (eV 0) 14),(ze (eV 0) 15),(B0 1 0 [1]),(ze (eV 1) 22)]))]
def zH:Fn:=bM 2 0 qz
@[reducible] def qq:List Ds:=[(bW (qF (tE (z9 j6 [(eV 4)]))) [(zM 17 [(eC (.str "a world has a dict of one clock for each of some holders"))])] []),(zK (eV 0) 9 (eV 1)),(zK (eV 0) 14 (eV 2)),(zK (eV 0) 15 (eV 3)),(zK (eV 0) 23 (Qc 43 vc [(eV 1)])),(zK (eV 0) 24 (y7 [])),(zK (eV 0) 25 (eC .non)),(zK (eV 0) 26 VS),(jA (.one 5) (iD (eV 4)) [(zp 6 (Qc 46 vB [(gO uv (eV 4) (eV 5))])),(zF (zT 47 zH (eV 0) [(eV 6)])),(yB (ze (eV 0) 26) (eV 5) (eV 6))])]
def v_:Fn:=bM 5 2 qq
@[reducible] def vd:List Ds:=[(bW (qF (tE (z9 kA [(eV 1)]))) [(zM 25 [(eC (.str "no row of a world"))])] []),(bW (x_ (tE (zy .IsNot (ze (eV 0) 25) (eC .non))) (tE (zy .Lt (bD (eV 1) (eC (.int 1))) (ze (eV 0) 25)))) [(u9 26 25 (ze (eV 0) 25))] []),(bW (gC (qF (tE (z9 w4 [(bD (eV 1) (eC (.int 2)))]))) (tE (gO WZ (bD (eV 1) (eC (.int 2))) (ze (eV 0) 26)))) [(zM 17 [(eC (.str "no holder of the world"))])] [])]
def qA:Fn:=bM 2 0 vd
@[reducible] def Zj:List Ds:=[(bW (tE (zy .Gt (bD (eV 0) (eC (.int 0))) (eC (.int 0)))) [(zp 2 (zd .Mod (bD (eV 0) (eC (.int 0))) (eV 1))),(yB (eV 0) (eC (.int 0)) (zd .FloorDiv (bD (eV 0) (eC (.int 0))) (eV 1))),(zv (eV 2))] []),(yB (eV 0) (eC (.int 2)) (zd .Add (bD (eV 0) (eC (.int 2))) (eC (.int 1)))),(zv (zd .Mod (z9 ub [(bD (eV 0) (eC (.int 1))),(bD (eV 0) (eC (.int 2)))]) (eV 1)))]
def zm:Fn:=bM 2 1 Zj
end NH.P
namespace NH
open PySem PySem.Spec PyProof.Rows L2
noncomputable def qN:List Int->List Int->Bool
 |[],[]=>aD
 |[],_::_=>aD
 |_::_,[]=>aC
 |x::b,y::a=>if x=y then qN b a else decide (y<x)
theorem vO(x y:Int)(xs ys:List Int):qN (x::xs) (y::ys)=if x=y then qN xs ys else decide (y<x):=rfl
theorem Q3:qN [] []=aD:=rfl
theorem uX(y:Int)(ys:List Int):qN [] (y::ys)=aD:=rfl
theorem Q0(x:Int)(xs:List Int):qN (x::xs) []=aC:=rfl
theorem Ts(A:dU)(s:aU)(a:Int)(t:Tok)(c:Int)(u:Tok)(prog:b7)(w:cV)(E:aB->aU->Prop)(Q:aB->aU->Prop)(h:Q (.bool (decide (c<a))) s) :
  wpAny (aQ prog w) A (pM .Gt (.int a t) (.int c u)) Q E s:=
 (C_ h:wpAny (aQ prog w) A (dZ .Gt (.int a t) (.int c u)) Q E s)
section
open PySem.SeqAt
open PySem.AutoSeq1 (wpAny_loadPart')
open PySem.MeetsSeq PySem.MeetsSeq2 PySem.MeetsSeq3
theorem Qp(l b:aE)(items f:Array aB)(n n2:Nat)(dd O:Option aE)(S K:Array (Option aB))(ns I:List Int)(hi:dY items.toList ns)(Q:dY f.toList I) :
  Meets (ir.«tuple.__gt__» ⟨[.ref l,.ref b],[]⟩)
   (λ_ R s=>s.heap.get? l=aA {cls:=.type "tuple",dict:=dd,data:=.seq items n,slots:=S}/\s.heap.get? b=aA {cls:=.type "tuple",dict:=O,data:=.seq f n2,slots:=K}/\
    R (.ok (.ret (.bool (qN ns I)))) s):=
 .of_wp λp w A R s h=>by
  obtain⟨J,g,d,H,os⟩:=s;obtain⟨V,X,h⟩:=h;have f2:=E9;have Z:items.size=ns.length:=by rw[←hi.length];simp
  have Y:f.size=I.length:=by rw[←Q.length];simp
  wp_walk using rz V,rz X,El _ (λrest b L=>b.1=aF/\L=⟨J,g,d,H,os⟩/\∃(G F:List aB) (j k:List Int),rest=G.zip F/\
   dY G j/\dY F k/\j.length+f.size=k.length+items.size/\R (.ok (.ret (.bool (qN j k)))) ⟨J,g,d,H,os⟩) _
  case turn=>
   rintro⟨y,x⟩ rest b L ⟨C,rfl,G,F,j,k,m,z,o,i,v⟩
   cases z with
   |nil=>rw[D5] at m;cases m
   |cons a t E=>
    cases o with
    |nil=>rw[EJ] at m;cases m
    |cons c u D=>
     rw[rC] at m;injection m with M B;injection M with T U;subst T U;rw[vO] at v;simp only[eZ] at i;obtain⟨e,W,r⟩:=HT.eqAt_int A.in1 ⟨J,g,d,H,os⟩ a t c u;refine wpAny_bind (W p w _ _ ?_);cases e with
     |true=>
      rw[if_pos (r.mp rfl)] at v;wp_walk;exact⟨rfl,rfl,_,_,_,_,B,E,D,by lia,v⟩
     |false=>
      rw[if_neg (λq=>absurd (r.mpr q) fG)] at v;have N:=Ts A.in1 ⟨J,g,d,H,os⟩ a t c u p w;wp_walk using N;exact⟨_,rfl,by simpa using v⟩
  case fin=>
   rintro⟨b1,b2⟩ L ⟨C,rfl,G,F,j,k,m,z,o,i,v⟩
   simp only at C
   subst C
   have P:qN j k=decide (f.size<items.size):=by
    cases z with
    |nil=>
     cases o with
     |nil=>
      simp only[lU] at i;rw[Q3];exact (decide_eq_false (by lia)).symm
     |cons c u hw=>
      simp only[lU,eZ] at i;rw[uX];exact (decide_eq_false (by lia)).symm
    |cons a t P=>
     cases o with
     |nil=>
      simp only[lU,eZ] at i;rw[Q0];exact (decide_eq_true (by lia)).symm
     |cons c u hw=>
      rw[rC] at m;cases m
   rw[P] at v
   wp_walk
   exact⟨_,rfl,by simpa[Fs] using v⟩
  case h=>
   exact⟨rfl,rfl,items.toList,f.toList,ns,I,rfl,hi,Q,by lia,h⟩
end
theorem K9(t:io s.heap l items)(v:io s.heap b d)(hi:dY items.toList ns)(u:dY d.toList g)
  (r:A.units<cLine) (h:Q (.bool (qN ns g)) s):wpAny (aQ prog w) A (dZ .Gt (.ref l) (.ref b)) Q E s:=by
 obtain⟨⟨cls,dd,m,p⟩,j,k,n,hd⟩:=id t;obtain⟨⟨o,i,data2,f⟩,a,e,q,c⟩:=id v;simp only at k hd e c;subst k hd e c
 exact Ff (op:=.Gt) ⟨_,j,rfl⟩ ⟨_,a,rfl⟩ PySem.F.slot_tuple_gt PySem.F.entry_tuple_gt (PySem.F.args_tuple_gt_2 _ _) (Qp l b items d n q dd i p f ns g hi u)
  ⟨j,a,show mX (qN ns g)≠ED/\Q (.bool (qN ns g)) s from ⟨(λx=>nomatch x),h⟩⟩ r
theorem HB:∀a:List Int,qN a a=aD
 |[]=>rfl
 |x::r=>by rw[vO,if_pos rfl];exact HB r
theorem HZ:∀a b c:List Int,qN a b=aC->qN c b=aD->qN c a=aD
 |[],[],_,h,_=>by cases h
 |[],_::_,_,h,_=>by cases h
 |_::_,_,[],_,_=>rfl
 |_::_,[],_::_,_,h=>by cases h
 |x::k,y::j,z::i,f,d=>by
  rw[vO] at f d ⊢;by_cases e:x=y
  ·rw[if_pos e] at f;by_cases g:z=y
   ·rw[if_pos g] at d;rw[if_pos (by omega)];exact HZ k j i f d
   ·rw[if_neg g] at d;have:=of_decide_eq_false d;rw[if_neg (by omega)];exact decide_eq_false (by omega)
  ·rw[if_neg e] at f;have l:=of_decide_eq_true f;by_cases g:z=y
   ·rw[if_neg (by omega)];exact decide_eq_false (by omega)
   ·rw[if_neg g] at d;have:=of_decide_eq_false d;rw[if_neg (by omega)];exact decide_eq_false (by omega)
abbrev G6(xs:List T)(μ:aK):RE T:=λK _=>∃a,rowsOf xs=aA a/\(xs=[]->K .non μ)/\∀b∈a,(∀c∈a,qN c b=aD)->K (.tup (b.map T.int)) μ
abbrev V_(t:T)(μ:aK):RE T:=match t with
 |.lst a=>G6 a μ
 |.mut i=>λK Z=>∃a,μ[i]?=aA (.lst a)/\G6 a μ K Z
 |_=>.st
section
variable {X:Cx}{D:DP}{W:XW}{Γ:Cn}{k:Nat}{pins:List (aE×bB)}{s:Shared}{σ:St}{H:Hp}{φ α:List aE}{τ:Sl}{μ:aK}{f:De}
theorem Xm{ad:aE}{xs:List T}{F:List V}{Q:VK}{C:T->aK->Prop}(hc:X.calm=aC)(hu:X.A.units+64<cLine)(I:Inv X pins σ H s)(K:aM D φ α H μ)(q:Rd H ad (.lst F))(l:aN D φ α H xs F){c:List (List Int)}(e:rowsOf xs=aA c)
  (hE:xs=[]->C .non μ) (hK:∀ns∈c,(∀ms∈c,qN ms ns=aD)->C (.tup (ns.map T.int)) μ) (k1:∀t g,C t g->∀B G,aP α H B G->aM D φ B G g->RV D φ Q t g B G) :
  wpAny (aQ X.prog X.w) X.A (call (.builtin "max") [.ref ad] [(e_ "default",.none)]) (EP X pins σ Q) X.xe s:=by
 obtain⟨k,J,Y,hz⟩:=I.list (.inl q);have e1:=l.length;have M:=J.length;have e3:=uJ e;have at_:∀(i:Nat) v ns,k[i]?=aA v->c[i]?=aA ns->∃a:aE,v=.ref a/\a_ D φ α H (.tup (ns.map T.int)) (.ref a)/\gP s.heap v ns:=λi v ns p o=>by
  obtain⟨w,hw,dw⟩:=l.get (Qx e o);obtain⟨u,m,S⟩:=J.get hw;rw[p] at m;cases m;obtain⟨a,ys,rfl,n1,n2,r,dl⟩:=id dw;cases S;have ey:=wJ (ns:=ns) (by
   clear dl hw dw r o p;induction ns with
   |nil=>rfl
   |cons n r ih=>show (bN (r.map T.int)).map (n::·)=_;rw[ih];rfl) dl
  subst ey;obtain⟨L,x,pt,_⟩:=I.tuple (.inl r);exact⟨a,rfl,dw,a,_,rfl,pt,by simpa using intsAre_of x⟩
 have nil:k=[]->xs=[]:=λz=>by
  rw[z] at M;exact Ab.mp (by rw[e1,M];rfl)
 refine JF (ks:=c) (gt:=qN) HB HZ ?_ (.inr rfl) (I.ok.hd hc) Y.isList (by lia) (λ_=>rfl) (λz y f h=>?_) λi v ns y f p o hb h=>?_
 ·intro E i j O N ki kj y f Q' h1 h2 h3 h4 h q;obtain⟨a,_,_,W⟩:=at_ i O ki h1 h2
  obtain⟨b,_,_,U⟩:=at_ j N kj h3 h4
  obtain⟨a',ia,rfl,R,na⟩:=W.keep h;obtain⟨b',ib,rfl,P,Z⟩:=U.keep h;exact K9 (s:={s with heap:=y,toks:=f}) R P na Z (by rw[cM];lia) q
 ·exact⟨.non,H,I.kept h,rfl,k1 _ _ (hE (nil z)) α H (aP.refl _ _) K _ rfl⟩
 ·obtain⟨a,rfl,d,_⟩:=at_ i v ns p o
  exact⟨.ref a,H,I.kept h,rfl,k1 _ _ (hK ns (cD o) hb) α H (aP.refl _ _) K _ d⟩
theorem RQ(C:Ck D W Γ X k)(L:Γ.calm=aC) 
  (w:("max":aG)∈Γ.G) (z:Γ.gl "max"=.none) (e:aO a=aC) (Z:PE X a (aX D W f)) :
  PE X (.Call (.Name "max" p0) [a] [⟨aA "default",.Constant .none jj pb,pk⟩] pos) (aX D W (cS V_ f)):=by
 have K:=C.glo _ w;rw[z] at K;rintro i s B H Q I ⟨g,E,N,O,R,T,p⟩;refine gW (qQ I (C.glb _ w) K (show f_ "max"=aA (.builtin "max") by decide +kernel) ?_ (by decide) (C.dbG _ w));refine pH (a7 (zr Z zZ (z3 e) pos i s B H (λF j=>∃v t c b,F=[v]/\aP E H b j/\aM D g b j c/\a_ D g b j t v/\aJ D W g b j B (RV D g Q) (V_ t c)) I ⟨g,E,N,O,R,T,p.bind.mono λt n o H' st m q v d=>⟨v,t,n,o,rfl,st,m,d,q⟩⟩) ?_) (by rw[z3 e];rfl) (by rw[z3 e];rfl) rfl rfl;rintro us s1 ⟨F,j,M,S,v,t,c,b,rfl,st,m,d,p⟩;obtain⟨u,rfl,J⟩:=vals1 S;refine pv (tU (pi ?_));show wpAny _ _ (call (.builtin "max") [u] [(e_ "default",.none)]) _ _ _;unfold V_ at p;split at p
 ·obtain⟨K0,Z0,⟨h,x,A,y⟩,r,U⟩:=p;obtain⟨ad,P,rfl,_,_,q,l⟩:=d;cases J;exact Xm (C.clm L) C.unt M m q l x A y r
 ·obtain⟨K0,Z0,⟨P,V,h,x,A,y⟩,r,U⟩:=p;obtain⟨ad,Y,rfl⟩:=d;cases J;obtain⟨ws,q,l⟩:=m.ob _ ad _ Y V;exact Xm (C.clm L) C.unt M m (.inl q) l x A y r
 ·exact p.elim
end
def Hf:ER:=λr b e=>(Ub e).bind λq=>gd (q.x==("max":aG)) (gd (q.ky==("default":aG)) (gd (V4 q.v&&(cF b.N q.x).isNone) (gd (aO q.a&&b.calm) (gd (gY (b.look "max")) ((r.e b q.a).bind λf=>aA (cS V_ f))))))
theorem Tz:cY D Hf:=by
 intro r H X W o k e d C h;obtain⟨q,n,h⟩:=aS h;obtain⟨m,h⟩:=z7 h;obtain⟨l,h⟩:=z7 h;obtain⟨i,h⟩:=z7 h;obtain⟨b,h⟩:=z7 h;obtain⟨a,h⟩:=z7 h;obtain⟨f,g,h⟩:=aS h;cases h;obtain⟨j,p,c⟩:=QN (zu i).1;rw[ug n,c,zW m,zW l];exact RQ C (zu b).2 (zB a).1 (zB a).2 (zu b).1 (H.e C g)
end NH
namespace NH
open PySem PySem.Spec PyProof.Rows L2 PySem.W
noncomputable def sE{α:Type}(lt:Nat->Nat->Bool):KasT α->α
 |.ret a=>a
 |.ask i j k=>sE lt (k (lt i j))
noncomputable def kIn{α:Type}(n:Nat):KasT α->Bool
 |.ret _=>aC
 |.ask i j k=>decide (i<n)&&decide (j<n)&&decide (i≠j)&&kIn n (k aC)&&kIn n (k aD)
theorem JR(b:∀i j C,i<n->j<n->i≠j->C (lt i j) s->d i j C s):∀t:KasT α,kIn n t=aC->G (sE lt t) s->t.kasWp d G s
 |.ret _,_,h=>h
 |.ask i j k,a,h=>by
  simp only[kIn,cI,decide_eq_true_eq] at a;obtain⟨⟨⟨⟨l,g⟩,f⟩,e⟩,c⟩:=a;refine b i j _ l g f ?_;have:kIn n (k (lt i j))=aC:=by
   cases lt i j
   ·exact c
   ·exact e
  exact JR b (k (lt i j)) this h
noncomputable def nC(b:Bool):Nat->Nat->Bool
 |1,0=>b
 |0,1=>!b
 |_,_=>aD
noncomputable def Ik(c a b:Bool):Nat->Nat->Bool
 |1,0=>c
 |0,1=>!c
 |2,1=>a
 |1,2=>!a
 |2,0=>b
 |0,2=>!b
 |_,_=>aD
theorem LH:kIn 2 (mP 2)=aC:=by decide +kernel
theorem L_:kIn 3 (mP 3)=aC:=by decide +kernel
noncomputable abbrev R3:=Int×Int×aG
def cJ (a b:R3):Bool:=if a.1=b.1 then decide (a.2.1<b.2.1) else decide (a.1<b.1)
def eI (a b:R3):Prop:=¬(a.1=b.1/\a.2.1=b.2.1)
theorem qU(h:eI a b):cJ b a=!cJ a b:=by
 unfold cJ;unfold eI at h;by_cases e:a.1=b.1
 ·rw[if_pos e,if_pos e.symm];by_cases c:a.2.1<b.2.1
  ·rw[decide_eq_true c,decide_eq_false (by lia)];rfl
  ·rw[decide_eq_false c,decide_eq_true (by lia)];rfl
 ·rw[if_neg e,if_neg (cE e)];by_cases c:a.1<b.1
  ·rw[decide_eq_true c,decide_eq_false (by lia)];rfl
  ·rw[decide_eq_false c,decide_eq_true (by lia)];rfl
theorem vq(h1:cJ a b=aC)(h2:cJ b c=aC):cJ a c=aC:=by
 unfold cJ at *;by_cases e:a.1=b.1
 ·rw[if_pos e] at h1;have g:=of_decide_eq_true h1;by_cases d:b.1=c.1
  ·rw[if_pos d] at h2;have f:=of_decide_eq_true h2;rw[if_pos (by omega)];exact decide_eq_true (by omega)
  ·rw[if_neg d] at h2;have f:=of_decide_eq_true h2;rw[if_neg (by omega)];exact decide_eq_true (by omega)
 ·rw[if_neg e] at h1;have g:=of_decide_eq_true h1;by_cases d:b.1=c.1
  ·rw[if_pos d] at h2;rw[if_neg (by omega)];exact decide_eq_true (by omega)
  ·rw[if_neg d] at h2;have f:=of_decide_eq_true h2;rw[if_neg (by omega)];exact decide_eq_true (by omega)
def jq (x:R3):List R3->List R3
 |[]=>[x]
 |y::r=>if cJ y x then x::y::r else y::jq x r
def qP:List R3->List R3
 |[]=>[]
 |x::r=>jq x (qP r)
theorem Ju:∀{l:List R3},(jq x l).length=l.length+1
 |[]=>rfl
 |y::r=>by
  unfold jq;split
  ·rfl
  ·simp[Ju]
theorem xw:∀{l:List R3},(qP l).length=l.length
 |[]=>rfl
 |x::r=>by unfold qP;rw[Ju,xw];rfl
abbrev oO{α:Type}(p:Array Nat)(xs:List α)(d:α):List α:=(p.toList.map λi=>xs.reverse.getD i d).reverse
theorem L7(h:eI x.2 y.2):∃d:List (aB×R3),oO (sE (nC (cJ x.2 y.2)) (mP 2)) [x.1,y.1] eU=d.map (·.1)/\(∀q∈d,q∈[x,y])/\d.map (·.2)=qP [x.2,y.2]:=by
 have f:=qU h;cases a:cJ x.2 y.2
 ·exact⟨[x,y],rfl,by simp,by rw[a] at f;simp[qP,jq,f]⟩
 ·exact⟨[y,x],rfl,by simp,by rw[a] at f;simp[qP,jq,f]⟩
theorem LY(g:eI x.2 y.2)(f:eI x.2 z.2)(e:eI y.2 z.2):∃d:List (aB×R3),oO (sE (Ik (cJ y.2 z.2) (cJ x.2 y.2) (cJ x.2 z.2)) (mP 3)) [x.1,y.1,z.1] eU=d.map (·.1)/\(∀q∈d,q∈[x,y,z])/\d.map (·.2)=qP [x.2,y.2,z.2]:=by
 have c:=qU g;have b:=qU f;have a:=qU e;cases j:cJ y.2 z.2<;>cases i:cJ x.2 y.2<;>cases h:cJ x.2 z.2<;>rw[j] at a<;>rw[i] at c<;>rw[h] at b
 ·exact⟨[x,y,z],rfl,by simp,by simp[qP,jq,c,b,a]⟩
 ·exact absurd (vq a c) (by rw[b];decide)
 ·exact⟨[y,x,z],rfl,by simp,by simp[qP,jq,c,b,a]⟩
 ·exact⟨[y,z,x],rfl,by simp,by simp[qP,jq,c,b,a]⟩
 ·exact⟨[x,z,y],rfl,by simp,by simp[qP,jq,c,b,a]⟩
 ·exact⟨[z,x,y],rfl,by simp,by simp[qP,jq,c,b,a]⟩
 ·exact absurd (vq i j) (by rw[h];decide)
 ·exact⟨[z,y,x],rfl,by simp,by simp[qP,jq,c,b,a]⟩
def d6 (h:aR)(v:aB)(r:R3):Prop:=∃a o n d c b,v=.ref a/\h.get? a=aA o/\o.cls=.type "tuple"/\o.data=.seq #[.int r.1 d,.int r.2.1 c,.str r.2.2 b] n
theorem d6.keep(t:d6 h v r)(k:∀b o,h.get? b=aA o->h'.get? b=aA o):d6 h' v r:=by
 obtain⟨a,o,n,t1,d,c,e,ho,f,hd⟩:=t;exact⟨a,o,n,t1,d,c,e,k _ _ ho,f,hd⟩
section
variable {prog:Program}{w:World}{A:Around}{E:aB->Shared->Prop}{s:Shared}
theorem ji(h1:d6 s.heap v r)(h2:d6 s.heap g d)(ne:eI r d)(h:Q (cJ r d) s):wpAny (aQ prog w) A (keyLt' (pe aC) v g) Q E s:=by
 obtain⟨a,o,n,t,q,p,rfl,i,y,hd⟩:=h1;obtain⟨z,u,x,m,l,k,rfl,b,j,c⟩:=h2;unfold cJ at h;unfold eI at ne;refine kat_lt i hd b c ?_;refine kat_cons (t8 ?_);refine kat_go (λe=>?_) (λe=>?_)
 ·have e:r.1=d.1:=by simpa using e
  rw[if_pos e] at h;refine kat_yes (kat_cons (t8 ?_));refine kat_go (λf=>?_) (λf=>?_)
  ·exact absurd ⟨e,by simpa using f⟩ ne
  ·exact kat_no (kat_one _ _ (sO h))
 ·have e:¬r.1=d.1:=by simpa using e
  rw[if_neg e] at h;exact kat_no (oneLt_int h)
theorem Y5:∀{zs:List (aB×R3)} {h:aR},(∀q∈zs,d6 h q.1 q.2)->∃fs:List aB,KatTups h (zs.map (·.1)) fs/\fs.length=zs.length/\∀v∈fs,∃i t,v=mi i t
 |[],_,_=>⟨[],KatTups.nil,rfl,by simp⟩
 |q::r,h,k=>by
  obtain⟨fs,m,l,j⟩:=Y5 (zs:=r) λp d=>k p (dQ _ d);obtain⟨a,o,n,c,u,s,e,f,g,hd⟩:=k q d9;refine⟨.int q.2.1 c::fs,?_,by simp[l],λv b=>?_⟩
  ·rw[dW,e];exact KatTups.cons f g hd rfl m
  ·rcases cC.mp b with rfl|b
   ·exact⟨_,_,rfl⟩
   ·exact j v b
theorem Ux{zs:List (aB×R3)}{Q:SortKind->aU->Prop}(k:∀q∈zs,d6 s.heap q.1 q.2)(d:0<zs.length)(h:Q (pe aC) s):wpAny (aQ prog w) A (keyKind' (zs.map (·.1)).toArray) Q E s:=by
 obtain⟨fs,c,e,b⟩:=Y5 k;refine kat_kind (T:=.type "int") c (by lia) (λv a=>?_) (by decide) h;obtain⟨i,t,rfl⟩:=b v a;exact Dj rfl
theorem Nf{α:Type}{P:List α->Prop}(h2:∀x y,P [x,y])(a:∀x y z,P [x,y,z]):∀zs:List α,2<=zs.length->zs.length<=3->P zs
 |[],h,_=>absurd h (by simp)
 |[_],h,_=>absurd h (by simp)
 |[x,y],_,_=>h2 x y
 |[x,y,z],_,_=>a x y z
 |_::_::_::_::_,_,h=>absurd h (by simp)
theorem F4(h:i<2):i=0\/i=1:=by lia
theorem Ge(h:i<3):i=0\/i=1\/i=2:=by lia
theorem U3{zs:List (aB×R3)}{G:Array Nat->aU->Prop}(k:∀q∈zs,d6 s.heap q.1 q.2)(l:zs.Pairwise λp q=>eI p.2 q.2)(E:2<=zs.length)(l3:zs.length<=3)
  (h:∀(p:Array Nat) (a:List (aB×R3)),oO p (zs.map (·.1)) eU=a.map (·.1)->(∀q∈a,q∈zs)->a.map (·.2)=qP (zs.map (·.2))->G p s) :
  (mP zs.length).kasWp (kas_ask prog w A (pe aC) (katRev aC (zs.map (·.1)))) G s:=by
 revert k l h;revert l3;revert E;revert zs;suffices H:∀zs:List (aB×R3),2<=zs.length->zs.length<=3->(∀q∈zs,d6 s.heap q.1 q.2)->zs.Pairwise (λp q=>eI p.2 q.2)->(∀(p:Array Nat) (a:List (aB×R3)),oO p (zs.map (·.1)) eU=a.map (·.1)->(∀q∈a,q∈zs)->a.map (·.2)=qP (zs.map (·.2))->G p s)->(mP zs.length).kasWp (kas_ask prog w A (pe aC) (katRev aC (zs.map (·.1)))) G s from λ{zs}=>H zs
 refine Nf (λx y=>?_) (λx y z=>?_)
 ·intro k l h;have f:=k x (by simp);have d:=k y (by simp);have b:eI x.2 y.2:=by simpa using l
  obtain⟨a,v,u,t⟩:=L7 (x:=x) (y:=y) b;refine JR (lt:=nC (cJ x.2 y.2)) (λi j C D B g c=>?_) _ LH (h _ a v u t);rcases F4 D with rfl|rfl<;>rcases F4 B with rfl|rfl
  ·exact absurd rfl g
  ·exact ji d f (λe=>b ⟨e.1.symm,e.2.symm⟩) (by rw[qU b];exact c)
  ·exact ji f d b c
  ·exact absurd rfl g
 ·intro k l h;have f:=k x (by simp);have d:=k y (by simp);have r:=k z (by simp);have n:(eI x.2 y.2/\eI x.2 z.2)/\eI y.2 z.2:=by simpa using l
  obtain⟨⟨b,o⟩,m⟩:=n;obtain⟨a,v,u,t⟩:=LY (x:=x) (y:=y) (z:=z) b o m;refine JR (lt:=Ik (cJ y.2 z.2) (cJ x.2 y.2) (cJ x.2 z.2)) (λi j C D B g c=>?_) _ L_ (h _ a v u t);rcases Ge D with rfl|rfl|rfl<;>rcases Ge B with rfl|rfl|rfl
  ·exact absurd rfl g
  ·exact ji r d (λe=>m ⟨e.1.symm,e.2.symm⟩) (by rw[qU m];exact c)
  ·exact ji r f (λe=>o ⟨e.1.symm,e.2.symm⟩) (by rw[qU o];exact c)
  ·exact ji d r m c
  ·exact absurd rfl g
  ·exact ji d f (λe=>b ⟨e.1.symm,e.2.symm⟩) (by rw[qU b];exact c)
  ·exact ji f r o c
  ·exact ji f d b c
  ·exact absurd rfl g
theorem Uz{α:Type}{zs:List (α×R3)}(h:zs.length<2):zs.map (·.2)=qP (zs.map (·.2)):=by
 match zs with
 |[]=>rfl
 |[x]=>rfl
 |_::_::_=>exact absurd h (by simp)
theorem J_ {a:aE} {zs:List (aB×R3)} {n:Nat} {P:PySem.Fin->aU->Prop} (ho:s.heap.get? a=aA (bS "list" (zs.map (·.1)).toArray n)) (k:∀q∈zs,d6 s.heap q.1 q.2) (W:zs.Pairwise λp q=>eI p.2 q.2) (l3:zs.length<=3)
  (h:∀d:List (aB×R3),(∀q∈d,q∈zs)->d.map (·.2)=qP (zs.map (·.2))->P (.done (.ret .none)) {s with heap:=sortedHeap s.heap a (zs.map (·.1)) (d.map (·.1)).toArray}) :
  wpAny (aQ prog w) A (ir.«list.sort» ⟨[.ref a],[(e_ "reverse",.bool aC)]⟩) P E s:=by
 have ha:a<s.heap.objs.size:=bY ho;have C:(zs.map (·.1)).toArray.size=zs.length:=by simp
 have H:∀{m:Nat},m<=3->m<=sizeLine:=λh=>cL h (by rw[d5];lia);obtain⟨F,y⟩:∃c,(s.heap.update a (cX λ_=>#[])).get? a=aA (bS "list" #[] c):=⟨_,m4 ho (λ_=>#[])⟩;rw[list_sort_rev];refine wpAny_bind (ti ho rfl (wpAny_bind (m6 ho rfl ?_ (by rw[C];exact H l3) (f9 _))));refine wpAny_bind (pI y rfl (wpAny_bind (wpAny_newTuple ?_ (by show (zs.map (·.1)).length<=_;rw[bG];exact H l3))));refine wpAny_bind (n9 (wpAny_holding ?_) (f9 _));generalize L:((s.heap.update a (cX λ_=>#[])).push (bS "tuple" (zs.map (·.1)).toArray 0)).push (bS "list" #[] 0)=g;have up:∀b o,s.heap.get? b=aA o->b≠a->g.get? b=aA o:=λb o e B=>by
  rw[←L];exact bP _ (bP _ (by rw[ow _ _ _ _ B];exact e))
 have v:g.get? a=aA (bS "list" #[] F):=by
  rw[←L];exact bP _ (bP _ y)
 have N:∀q∈zs,d6 g q.1 q.2:=λq J=>by
  obtain⟨b,o,m,V,U,T,e,B,O,hd⟩:=k q J;refine⟨b,o,m,V,U,T,e,up b o B (λz=>?_),O,hd⟩;rw[z,ho] at B;cases B;injection (show n4 "list"=n4 "tuple" from O) with e;exact absurd e (by decide)
 have put:∀{f:Array aB->Array aB} {out:Array aB},f #[]=out->out.size<=3->P (.done (.ret .none)) {s with heap:=g.update a (cX f)}->
   wpAny (aQ prog w) A (do
    let e ←seqEpoch a
    IQ (.ref a) f
    if (e != F)=aC then do
     rule "list.sort.modified"
     raiseErrorWords "ValueError" "list modified during sort"
     ret eU
    else ret eU) P E {s with heap:=g}:=λ{f out} Z K X=>by
  refine wpAny_bind (pI v rfl (wpAny_bind (m6 v rfl ?_ (f9 _) (by rw[Z];exact cL (H K) (h_ _)))));rw[show (F != F)=aD from bne_self_eq_false _,if_neg (by decide)];exact wpAny_pure X
 dsimp only;rw[if_pos rfl];refine wpAny_bind (mf ?_);have fin:∀d:List (aB×R3),(∀q∈d,q∈zs)->d.map (·.2)=qP (zs.map (·.2))->P (.done (.ret .none)) {s with heap:=g.update a (cX λ_=>(d.map (·.1)).toArray)}:=λd m e=>by
  rw[←L];exact h d m e
 by_cases I:zs.length<2
 ·have lt:(zs.map (·.1)).toArray.size<2:=by rw[C];exact I
  rw[if_pos lt];refine wpAny_bind (wpAny_pure ?_);rw[if_pos lt,DT];refine wpAny_bind (wpAny_pure ?_);dsimp only;have S:(Array.map (λx:aB×aB=>x.2) (((zs.map (·.1)).toArray.zip (zs.map (·.1)).toArray).reverse)).reverse=(zs.map (·.1)).toArray:=by
   apply Array.toList_inj.mp;simp[Ed,Ec]
  have R:=fin zs (λq h=>h) (Uz I);rw[←S] at R;exact put (out:=_) rfl (by rw[if_pos rfl,if_pos rfl];exact cL (i9 (congrArg Array.size S)) (by rw[C];lia)) R
 ·have M:¬(zs.map (·.1)).toArray.size<2:=by rw[C];exact I
  rw[if_neg M];refine wpAny_bind (Ux (s:={s with heap:=g}) N (by lia) ?_);rw[if_neg M,kat_pairs aC rfl];have el:(katRev aC (zs.map (·.1))).length=zs.length:=by rw[kat_len,bG]
  refine wpAny_bind (dR (kat_run (s:={s with heap:=g}) (Q:=λi l=>l={s with heap:=g}/\failedOf i=aF/\∃d:List (aB×R3),((hX i).map (·.2)).reverse=(d.map (·.1)).toArray/\(∀q∈d,q∈zs)/\d.map (·.2)=qP (zs.map (·.2)))
   (G:=λp l=>l={s with heap:=g}/\∃d:List (aB×R3),oO p (zs.map (·.1)) eU=d.map (·.1)/\(∀q∈d,q∈zs)/\d.map (·.2)=qP (zs.map (·.2))) rfl (by lia) (by lia) (λp i l a1 a2 a3 a4=>?_) ?_) (λr l J=>?_) λ_ _ z=>z)
  ·obtain⟨D,d,u,t,j⟩:=a4;refine⟨D,a3,d,?_,t,j⟩;rw[kat_snds rfl a2,←u];simp[katRev]
  ·rw[el];exact U3 (s:={s with heap:=g}) N W (by lia) l3 λp d u t j=>⟨rfl,d,u,t,j⟩
  ·obtain⟨⟨⟩,i⟩:=r;obtain⟨rfl,Y,d,u,t,j⟩:=J;dsimp only;rw[if_pos rfl,u,Y];have ez:d.length=zs.length:=by
    have D:=congrArg iR j;rw[bG,xw,bG] at D;exact D
   exact put rfl (by simp;lia) (fin d t j)
theorem Jg{l:aE}{zs:List (aB×R3)}{Q:aB->aU->Prop}(r:s.heap.IsList l (zs.map (·.1)).toArray)(k:∀q∈zs,d6 s.heap q.1 q.2)(i:zs.Pairwise λp q=>eI p.2 q.2)(l3:zs.length<=3)
  (h:∀d:List (aB×R3),(∀q∈d,q∈zs)->d.map (·.2)=qP (zs.map (·.2))->Q (.ref (s.heap.objs.size+1)) {s with heap:=sortedAll s.heap (zs.map (·.1)) (d.map (·.1)).toArray}) :
  wpAny (aQ prog w) A (call (.builtin "sorted") [.ref l] [(e_ "reverse",.bool aC)]) Q E s:=by
 have c:(zs.map (·.1)).length<=sizeLine:=cL (by rw[bG];exact l3) (by rw[d5];lia:3<=sizeLine);refine E6 kind_sorted plain_sorted entry_sorted (args_sorted_rev _ _) ?_;unfold ir.«sorted»;refine wpAny_bind (m:=checkCount "sorted" 1 1 _) (wpAny_pure (wpAny_bind (collect_list r (wpAny_bind (n9 ?_ c)) (by simpa using c))));have a:((s.heap.push (bS "list" #[] 0)).update s.heap.objs.size (cX (·++(zs.map (·.1)).toArray))).objs.size=s.heap.objs.size+1:=by rw[wl,size_push']
 generalize f:(s.heap.push (bS "list" #[] 0)).update s.heap.objs.size (cX (·++(zs.map (·.1)).toArray))=B at a;have g:(B.push (bS "list" (zs.map (·.1)).toArray 0)).get? (s.heap.objs.size+1)=aA (bS "list" (zs.map (·.1)).toArray 0):=by rw[←a];exact dP _ rfl
 have up:∀b o,s.heap.get? b=aA o->(B.push (bS "list" (zs.map (·.1)).toArray 0)).get? b=aA o:=λb o e=>by
  have j:=bY e;refine bP _ ?_;rw[←f,ow _ _ _ _ (c7 j)];exact bP _ e
 show wpAny _ _ _ _ _ {s with heap:=B.push (bS "list" (zs.map (·.1)).toArray 0)};rw[a];refine wpAny_bind (wpAny_holding (EU slot_list_sort ⟨_,g,rfl⟩ DR (J_ (s:={s with heap:=B.push (bS "list" (zs.map (·.1)).toArray 0)}) g (λq n=>(k q n).keep up) i l3 λd m e=>⟨_,rfl,?_⟩) (args_list_sort_rev _ _)));have:=h d m e;unfold sortedAll at this;rw[f] at this;exact wpAny_pure ⟨_,rfl,this⟩
end
abbrev eX(r:R3):T:=.tup [.int r.1,.int r.2.1,.str r.2.2]
abbrev Hv(xs:List T)(μ:aK):RE T:=λK _=>∃a:List R3,xs=a.map eX/\a.length<=3/\a.Pairwise eI/\K (.lst ((qP a).map eX)) μ
abbrev ZE(t:T)(μ:aK):RE T:=match t with
 |.lst a=>Hv a μ
 |.mut i=>λK Z=>∃a,μ[i]?=aA (.lst a)/\Hv a μ K Z
 |_=>.st
section
variable {X:Cx}{D:DP}{W:XW}{Γ:Cn}{k:Nat}{pins:List (aE×bB)}{s:Shared}{σ:St}{H:Hp}{φ α:List aE}{τ:Sl}{μ:aK}{f:De}
theorem Jv{ad:aE}{c:List R3}{J:List V}{Q:VK}{P:T->aK->Prop}(I:Inv X pins σ H s)(y:aM D φ α H μ)(q:Rd H ad (.lst J))(l:aN D φ α H (c.map eX) J)(l3:c.length<=3)(pw:c.Pairwise eI)
  (hK:P (.lst ((qP c).map eX)) μ) (k1:∀t B,P t B->∀C G,aP α H C G->aM D φ C G B->RV D φ Q t B C G) :
  wpAny (aQ X.prog X.w) X.A (call (.builtin "sorted") [.ref ad] [(e_ "reverse",.bool aC)]) (EP X pins σ Q) X.xe s:=by
 obtain⟨g,K,pl,hz⟩:=I.list (.inl q);have e1:=l.length;have e2:=K.length;rw[bG] at e1;have ez:(g.zip c).map (·.1)=g:=List.map_fst_zip (by lia);have er:(g.zip c).map (·.2)=c:=Ec (by lia);have at_:∀p∈g.zip c,∃k:V,RelV k p.1/\a_ D φ α H (eX p.2) k/\d6 s.heap p.1 p.2:=λp j=>by
  obtain⟨i,hi,e⟩:=nh.mp j;have hi':i<g.length/\i<c.length:=by rw[rn] at hi;lia
  rw[Ef] at e;subst e;obtain⟨k,hw,dw⟩:=l.get (i:=i) (t:=eX c[i]) (by rw[c8,eQ hi'.2];rfl);obtain⟨u,N,L⟩:=K.get hw;rw[eQ hi'.1] at N;cases N;refine⟨k,L,dw,?_⟩;obtain⟨a,ys,rfl,n1,n2,r,dl⟩:=dw;obtain⟨v1,y1,rfl,d1,v2,y2,rfl,d2,v3,y3,rfl,d3,d4⟩:=dl;cases d1;cases d2;cases d3;cases d4;obtain⟨M,h,pt,_⟩:=I.tuple (.inl r);have x:g[i]'hi'.1=cO a:=L;cases h with
  |cons Z h=>cases h with
   |cons Y h=>cases h with
    |cons W h=>
     cases h
     obtain⟨U,rfl⟩:=Z
     obtain⟨S,rfl⟩:=Y
     obtain⟨R,rfl⟩:=W
     obtain⟨o,ho,hc,n,hd⟩:=pt
     exact⟨a,o,n,U,S,R,x,ho,hc,hd⟩
 have mk:∀f:List (aB×R3),(∀p∈f,p∈g.zip c)->∃d:List V,aW d (f.map (·.1))/\aN D φ α H (f.map λp=>eX p.2) d:=λf=>by
  induction f with
  |nil=>exact λ_=>⟨[],.nil,rfl⟩
  |cons p r ih=>
   intro m;obtain⟨d,v,F⟩:=ih λp j=>m p (dQ _ j);obtain⟨k,E,z,_⟩:=at_ p (m p d9)
   exact⟨k::d,.cons E v,k,d,rfl,z,F⟩
 refine Jg (zs:=g.zip c) (by rw[ez];exact pl.isList) (λp j=>(at_ p j).choose_spec.2.2) (lM.mp (by rw[er];exact pw)) (by rw[rn];lia) λf m O=>?_;obtain⟨d,v,F⟩:=mk f m;obtain⟨e,he⟩:=sortedAll_at s.heap ((g.zip c).map (·.1)) (f.map (·.1)).toArray;have j:H (s.heap.objs.size+1)=aF:=I.hok.fresh (h_ _);have hl:d.length<=sizeLine:=by
  have E:=v.length;have z:=congrArg iR O;rw[bG,xw,er] at z;rw[bG] at E;rw[d5];lia
 refine⟨.ref (s.heap.objs.size+1),upd H (s.heap.objs.size+1) (.lst d),I.laid (t':=s.toks) (λb o e=>sortedAll_old e) (h_ _) (show aY X.prog X.w _ _ _ (.lst d) from ⟨hl,f.map (·.1),e,v,he⟩),rfl,?_⟩;refine k1 _ μ hK α _ (aP.new (za j)) (y.new (za j)) _ ⟨_,d,rfl,zh y j,zi y j,.inl z4,?_⟩;rw[←er,←O,eO];exact F.step (aP.new (za j))
theorem T_(C:Ck D W Γ X k) 
  (x:("sorted":aG)∈Γ.G) (z:Γ.gl "sorted"=.none) (e:aO a=aC) (Y:PE X a (aX D W f)) :
  PE X (.Call (.Name "sorted" p0) [a] [⟨aA "reverse",.Constant (.bool aC) jj pb,pk⟩] pos) (aX D W (cS ZE f)):=by
 have K:=C.glo _ x;rw[z] at K;rintro i s B H Q I ⟨g,E,M,N,P,S,p⟩;refine gW (qQ I (C.glb _ x) K (show f_ "sorted"=aA (.builtin "sorted") by decide +kernel) ?_ (by decide) (C.dbG _ x));refine pH (a7 (zr Y zZ (z3 e) pos i s B H (λF j=>∃v t c b,F=[v]/\aP E H b j/\aM D g b j c/\a_ D g b j t v/\aJ D W g b j B (RV D g Q) (ZE t c)) I ⟨g,E,M,N,P,S,p.bind.mono λt n o H' st m q v d=>⟨v,t,n,o,rfl,st,m,d,q⟩⟩) ?_) (by rw[z3 e];rfl) (by rw[z3 e];rfl) rfl rfl;rintro us s1 ⟨F,j,L,R,v,t,c,b,rfl,st,m,d,p⟩;obtain⟨u,rfl,J⟩:=vals1 R;refine pv (Constant_bool (pi ?_));show wpAny _ _ (call (.builtin "sorted") [u] [(e_ "reverse",.bool aC)]) _ _ _;unfold ZE at p;split at p
 ·obtain⟨K0,Z,⟨h,rfl,A,r,y⟩,w,T⟩:=p;obtain⟨ad,O,rfl,_,_,q,l⟩:=d;cases J;exact Jv L m q l A r y w
 ·obtain⟨K0,Z,⟨O,U,h,rfl,A,r,y⟩,w,T⟩:=p;obtain⟨ad,V,rfl⟩:=d;cases J;obtain⟨ws,q,l⟩:=m.ob _ ad _ V U;exact Jv L m (.inl q) l A r y w
 ·exact p.elim
end
def HU:ER:=λr b e=>(Ub e).bind λq=>gd (q.x==("sorted":aG)) (gd (q.ky==("reverse":aG)) (gd (X2 q.v&&(cF b.N q.x).isNone) (gd (aO q.a) (gd (gY (b.look "sorted")) ((r.e b q.a).bind λf=>aA (cS ZE f))))))
theorem Uu:cY D HU:=by
 intro r H X W o k e d C h;obtain⟨q,n,h⟩:=aS h;obtain⟨m,h⟩:=z7 h;obtain⟨l,h⟩:=z7 h;obtain⟨i,h⟩:=z7 h;obtain⟨g,h⟩:=z7 h;obtain⟨a,h⟩:=z7 h;obtain⟨f,c,h⟩:=aS h;cases h;obtain⟨j,p,b⟩:=Yy (zu i).1;rw[ug n,b,zW m,zW l];exact T_ C (zB a).1 (zB a).2 g (H.e C c)
end NH
namespace NH.P
open PySem L2 NH
@[reducible] def kb:List Ds:=[(zp 2 (y7 [])),(jA (.one 3) (iE (cS ZE (zd .Add (eV 0) (Zs [(eV 1)])))) [(bW (tE (cS VH (qT 1 [3] (.one 0) (iE (eV 2)) [] (zy .NotEq (bD (eV 1) (eC (.int 2))) (bD (eV 0) (eC (.int 2))))))) [(zF (Vg (eV 2) (eV 3)))] [])]),(zv (o3 (eV 2) pN (pS (eC (.int 2)))))]
def wh:Fn:=bM 2 2 kb
@[reducible] def W7:List Ds:=[(zp 2 (y7 [])),(zp 3 (Zs [])),(jA (.one 4) (U4 (cS kN (eV 1))) [(zp 5 (bD (bD (eV 1) (eV 4)) (eC (.int 1)))),(zp 6 (bD (z9 jG [(eV 0),(bD (bD (eV 1) (eV 4)) (eC (.int 2)))]) (eC (.int 0)))),(zp 7 (qT 1 [5] (.one 0) (iE (eV 3)) [(tE (zy .NotEq (bD (eV 0) (eC (.int 2))) (eV 1)))] (eV 0))),(bW (tE (zy .Gt (cS kN (eV 7)) (eC (.int 0)))) [(zF (Vg (eV 2) (v5 [(zd .Sub (bD (bD (eV 7) (eC (.int 0))) (eC (.int 0))) (eV 6)),(bD (bD (eV 7) (eC (.int 0))) (eC (.int 1))),(eV 4)])))] []),(zp 3 (z9 wh [(eV 3),(v5 [(eV 6),(eV 4),(eV 5)])]))]),(zv (cS V_ (eV 2)))]
def ur:Fn:=bM 2 6 W7
end NH.P
namespace NH
open PySem PySem.Spec PyProof.Rows L2
theorem Vq:nZ (.type "list") "keys"=pure aF:=by rw[typeLookup_type,builtinLookup_eq_fast];kernel_rfl
theorem YA 
  (l:s.heap.get? a=aA o) (m:o.cls=.type "list") (f:o.data=.seq xs k) (hd:o.dict=aF) (r:A.handled=aF)
  (h:∀h' tk,(∀b u,s.heap.get? b=aA u->h'.get? b=aA u)->Q aF {s with heap:=h',toks:=tk}) :
  wpAny (aQ prog w) A (px (.ref a) "keys") Q E s:=by
 obtain⟨c,dct,t,p⟩:=o;simp only at m f hd;subst m f hd;obtain⟨q,g,d,tk,os⟩:=s;have n:∀i,(⟨q,g,d,i,os⟩:aU).TypeIs (.ref a) "list":=λ_=>⟨_,l,rfl⟩;have D:=sub_AttributeError;have C:=Ai.lookup;have B:=Ai.bind (.ref a);have z:=am_list_getattr_none;unfold px getAttrBy? getAttrBy;repeat (any_goals (first|assumption|exact n _|((with_reducible show wpAny _ _ (call (DE "list.__getattribute__") _ _) _ _ _);refine sU Ai (n _) am_entry_list_getattribute (PySem.F.args_list_getattribute_2 _ _) (meets_getattribute_miss_list a xs k p "keys" _ Vq (by decide) (by decide)) ⟨l,r,λh' i e j=>?_⟩)|wp_step))
 obtain⟨x,v,y⟩:=j.there;show wpAny _ _ (Ep _ _ _ _ _ _ _) _ _ _;unfold Ep;repeat (any_goals (first|assumption|wp_step))
 exact h _ _ λb u e=>j.of.keeps b u e
theorem jF:entryFor table "dict.update.loop"=aA ir.«dict.update.loop»:=entryFor_of_tree (by kernel_rfl)
theorem qW:plainId "dict.update.loop"=aC:=by decide +kernel
def B4(h:aR)(v a u:aB):Prop:=∃t o n,v=.ref t/\h.get? t=aA o/\o.cls=.type "tuple"/\o.data=.seq #[a,u] n
abbrev le{K:Type}(x:K×aB×aB):K×aB:=(x.1,x.2.2)
section
variable {prog:Program}{w:World}{K:Type}[DecidableEq K]{knd:PySem.KeyKind prog w K}{A:Around}{E:aB->Shared->Prop}{s:Shared}
theorem Ko(hh:A.in1.handled=aF){R:mM->aU->Prop}{d I l:aE}{items:Array aB}{ys:List (K×aB×aB)}(B:d≠I)(sF:d≠l)(M:l≠I)(hn:(ys.map (·.1)).Nodup)(hsz:ys.length<=sizeLine)(L:items.size=ys.length)(h0:aR)
  (hpr:∀(i:Nat) (y:K×aB×aB),ys[i]?=aA y->∃v,items[i]?=aA v/\B4 h0 v y.2.1 y.2.2/\v≠.ref d/\v≠.ref I) (hky:∀y∈ys,knd.is y.1 y.2.1=aC) :
  ∀(k i:Nat) (s:aU) (t:Tok),ys.length-i=k->i<=ys.length->s.heap.IsListIter I l i->s.heap.IsList l items->s.heap.DictOf knd d ((ys.take i).map le)->(∀b u,b≠d->b≠I->h0.get? b=aA u->s.heap.get? b=aA u)->
   (∀h' tk,h'.DictOf knd d (ys.map le)->(∀b u,b≠d->b≠I->s.heap.get? b=aA u->h'.get? b=aA u)->R (.ok (.ret .none)) {s with heap:=h',toks:=tk})->
   fP (aQ prog w) A (.builtin "dict.update.loop" ⟨[.ref d,.ref I,.int i t,.none],[]⟩) R s:=by
 intro k;induction k with
 |zero=>
  intro i s t hk hi x r hd E hR;have hin:i=ys.length:=by lia
  subst hin;refine oa jF ?_;rw[oI qW _];show wpAny _ A.in1 (i3 (.ref I) >>= _) _ _ s;refine wpAny_bind ((nY hh I l M items).toS.done s _ _ ⟨by rw[L];exact x,r⟩ λW c=>?_);obtain⟨h',g',d',h,p⟩:=W;have eg:g'=s.gens:=c.gens;have ed:d'=s.drawn:=c.drawn;have eo:p=s.os:=c.os;subst eg ed eo;rw[rc] at hd;obtain⟨o,es,ep,ho,hc,hdd,he,hnn⟩:=hd;have O:∀b u,b≠d->b≠I->s.heap.get? b=aA u->h'.get? b=aA u:=λb u _ f e=>c.heap b u (by simp[f]) e;refine wpAny_bind (wpAny_pure ?_);refine wpAny_pure (hR h' h ⟨o,es,ep,c.heap d o (by simp[B]) ho,hc,hdd,he,hnn⟩ O)
 |succ k ih=>
  intro i s t hk hi x r hd E hR;have H:i<ys.length:=by lia
  obtain⟨⟨q,b,u⟩,P⟩:∃y,ys[i]?=aA y:=⟨ys[i],eQ H⟩;obtain⟨v0,Z,hpa,nd,nI⟩:=hpr i _ P;refine oa jF ?_;rw[oI qW _];show wpAny _ A.in1 (i3 (.ref I) >>= _) _ _ s;refine wpAny_bind ((nY hh I l M items).toS.item i s _ _ (by lia) ⟨x,r⟩ λv W Q j c=>?_);have Q:items[i]?=aA v:=Q;rw[Z] at Q;cases Q;obtain⟨h',g',d',h,p⟩:=W;have eg:g'=s.gens:=c.gens;have ed:d'=s.drawn:=c.drawn;have eo:p=s.os:=c.os;subst eg ed eo;have O:∀b u,b≠d->b≠I->s.heap.get? b=aA u->h'.get? b=aA u:=λb u _ f e=>c.heap b u (by simp[f]) e;have D:∀b u,b≠d->b≠I->h0.get? b=aA u->h'.get? b=aA u:=λb u g f e=>O b u g f (E b u g f e);obtain⟨S,o,n,rfl,ho,hc,hdt⟩:=hpa;have F:=D S o (λz=>nd (by rw[z])) (λz=>nI (by rw[z])) ho;have hT:tP ⟨h',s.gens,s.drawn,h,s.os⟩ (.ref S) "tuple":=⟨o,F,hc⟩;have hD:h'.DictOf knd d ((ys.take i).map le):=by
   obtain⟨od,es,ep,g1,g2⟩:=hd;exact⟨od,es,ep,c.heap d od (by simp[B]) g1,g2⟩
  have G:q∉(ys.take i).map (·.1):=by
   have z:(ys.take i++[(q,b,u)]).map (·.1) |>.Nodup:=by
    rw[show ys.take i++[(q,b,u)]=ys.take (i+1) by rw[gB,P];rfl];exact hn.sublist ((oj _ _).map _)
   rw[eM,lN] at z;exact λm=>z.2.2 q m q (by simp) rfl
  have U:stored ((ys.take i).map le) q u=(ys.take (i+1)).map le:=by
   unfold stored;have:((ys.take i).map le).any (λkv=>decide (kv.1=q))=aD:=by
    rw[v6];intro kv hkv;obtain⟨z,hz,rfl⟩:=cN.mp hkv;simp only[decide_eq_true_eq];exact λe=>G (cN.mpr ⟨z,hz,e⟩)
   rw[this,if_neg (by decide),gB,P,eM];rfl
  show wpAny _ A.in1 (lC [cO S] _ >>= _) _ _ _;refine wpAny_bind (wpAny_holding ?_);refine wpAny_bind (nc ?_);unfold IL;refine wpAny_bind (mW hT ?_);rw[if_pos (by decide)];refine wpAny_bind (pW F hdt (wpAny_pure ?_));show wpAny _ A.in1 (lC [b,u] (dictSet d b u)) _ _ _;refine wpAny_holding (wpAny_dictSet_pairs (hsz:=by rw[bG,gV];lia) (hky _ (cD P)) hD λf N V=>?_);rw[U] at N;have C:∀b u,b≠d->b≠I->h'.get? b=aA u->f.get? b=aA u:=λb u g _ e=>(V.2 b g).trans e;have hI2:f.IsListIter I l (i+1):=by
   obtain⟨X,e1,e2⟩:=j.1;exact⟨X,(V.2 I (cE B)).trans e1,e2⟩
  have hL2:f.IsList l items:=by
   obtain⟨X,e1,e2⟩:=j.2;exact⟨X,(V.2 l (cE sF)).trans e1,e2⟩
  refine wpAny_pure ⟨m5 qW _,?_⟩;have J:=ih (i+1) ⟨f,s.gens,s.drawn,h+1,s.os⟩ 0 (by lia) H hI2 hL2 N (λb u g a e=>C b u g a (D b u g a e)) λh3 T hD3 Y=>hR h3 T hD3 λb u g a e=>Y b u g a (C b u g a (O b u g a e));exact J
theorem J8 {l:aE} {items:Array aB} {n:Nat} {ys:List (K×aB×aB)} {Q:aB->aU->Prop} (R:A.handled=aF) (J:s.heap.get? l=aA {cls:=.type "list",data:=.seq items n})
  (P:(ys.map (·.1)).Nodup) (hsz:ys.length<=sizeLine) (k:items.size=ys.length)
  (B:∀(i:Nat) (y:K×aB×aB),ys[i]?=aA y->∃v,items[i]?=aA v/\B4 s.heap v y.2.1 y.2.2)
  (D:∀y∈ys,knd.is y.1 y.2.1=aC)
  (h:∀h' tk,h'.DictOf knd s.heap.objs.size (ys.map le)->(∀b u,s.heap.get? b=aA u->h'.get? b=aA u)->Q (.ref s.heap.objs.size) {s with heap:=h',toks:=tk}) :
  wpAny (aQ prog w) A (call (.type "dict") [.ref l]) Q E s:=by
 refine callType_codes (Q₁:=λobj d=>obj=.ref s.heap.objs.size/\d={s with heap:=s.heap.push {cls:=.type "dict",data:=.dict #[]}}) PySem.F.kt_called_dict (PySem.F.kt_typeCall_dict_1 _) PySem.F.entry_dict_init (kt_code_dict_new _ ⟨rfl,rfl⟩) ?_;rintro obj d ⟨rfl,rfl⟩;have I:=bY J;have a:(s.heap.push {cls:=.type "dict",data:=.dict #[]}).DictOf knd s.heap.objs.size []:=DV s.heap;have g:=bP (h:=s.heap) {cls:=.type "dict",data:=.dict #[]} J;have G:tP {s with heap:=s.heap.push {cls:=.type "dict",data:=.dict #[]}} (.ref l) "list":=⟨_,g,rfl⟩;refine⟨a.typeIs,PySem.F.args_dict_init_2 _ _,?_⟩;unfold ir.«dict.__init__»;refine wpAny_bind ?_;unfold IS;refine wpAny_bind (wpAny_notOrdered_dict a.typeIs ?_);show wpAny _ _ (pure (s.heap.objs.size,[cO l])) _ _ _;refine wpAny_pure ?_;show wpAny _ _ (Fh "dict.__init__" s.heap.objs.size (.ref l) [] .none) _ _ _;unfold Fh;refine wpAny_bind (mW G ?_);rw[if_pos (by decide)];have L:A.in1.in1.handled=aF:=by simp[R]
 refine wpAny_bind (YA (A:=A.in1.in1) g rfl rfl rfl L λq M r=>?_);have C:=r _ _ g;have p:q.IsList l items:=⟨_,C,rfl,n,rfl⟩;have nC:s.heap.objs.size<q.objs.size:=by
  obtain⟨o,_,_,e,_⟩:=id a;exact bY (r _ _ e)
 simp only[Option.isNone_none,if_true];refine wpAny_bind (mf ?_);refine wpAny_bind (oh p ?_);refine wpAny_pure ⟨m5 qW _,?_⟩;have f:∀b u,s.heap.get? b=aA u->(q.push {cls:=.type "list_iterator",data:=.fields #[.ref l,.int 0 0]}).get? b=aA u:=λb u e=>bP _ (r _ _ (bP _ e));have c:∀b u,s.heap.get? b=aA u->b≠s.heap.objs.size/\b≠q.objs.size:=λb u e=>by
  have:=bY e;constructor
  ·exact c7 this
  ·exact c7 (tw this nC)
 have S:(q.push {cls:=.type "list_iterator",data:=.fields #[.ref l,.int 0 0]}).DictOf knd s.heap.objs.size ((ys.take 0).map le):=by
  obtain⟨o,es,ep,W,V⟩:=id a;exact⟨o,es,ep,bP _ (r _ _ W),V⟩
 refine Ko (A:=A.in1) (l:=l) (items:=items) (ys:=ys) L (c7 nC) (gU I) (c7 (tw I nC)) P hsz k s.heap (λi y O=>?_) D ys.length 0 _ 0 (by lia) (f9 _) ⟨_,dP _ rfl,rfl,rfl⟩ (p.push _) S (λb u _ _ e=>f b u e) λT x H N=>⟨rfl,h T x H λb u e=>N b u (c b u e).1 (c b u e).2 (f b u e)⟩;obtain⟨v,U,j⟩:=B i y O;refine⟨v,U,j,λz=>?_,λz=>?_⟩
 ·obtain⟨t,o,m,rfl,e,_⟩:=j;cases z;exact (c _ _ e).1 rfl
 ·obtain⟨t,o,m,rfl,e,_⟩:=j;cases z;exact (c _ _ e).2 rfl
end
abbrev YH(p:Key×T):T:=.tup [Ut p.1,p.2]
abbrev r4(f:De):Di:=λc d=>(f c d).it λt b=>match t with
 |.mut i=>λK _=>∃a,jU b i a/\∀ep,K (a.map YH) (sD i ep a) (b.set i (.frd ep a))
 |_=>RI.st
abbrev li(t:T)(μ:aK):RE T:=λK _=>∃a:List (Key×T),t=.lst (a.map YH)/\(a.map (·.1)).Nodup/\a.length<=1000/\K (.mut μ.length) (μ++[.dic a])
def ID (a:aE)(ep n:Nat):It:=⟨λi H=>∃b p,H a=aA (.dE ep b)/\b.length=n/\b[i]?=aA p,λi H v c=>∃p k x,H p=aF/\c=upd H p (.tup [kV k,x])/\v=.ref p/\∀b,H a=aA (.dE ep b)->b[i]?=aA (k,x),λi H=>∃b,H a=aA (.dE ep b)/\b.length=n/\b.length<=i⟩
theorem Hl:∀{a:List (Key×V)} {vs:List (Key×aB)},KV a vs->∀{i:Nat} {p:Key×V},a[i]?=aA p->∃q:Key×aB,vs[i]?=aA q/\p.1=q.1/\RelV p.2 q.2
 |_,_,.nil,i,p,e=>by cases e
 |_,_,.cons h t,0,p,e=>by cases e;exact⟨_,rfl,h.1,h.2⟩
 |_,_,.cons h t,i+1,p,e=>Hl t e
theorem X5{P:b7}{K:bK}(a it:aE)(ep n:Nat):fC P w K (.Tuple U x1 tp) (ID a ep n) [it] it (λi h=>∃ok r,IsItemIter h it a i n ep ok r) where
 mem:=by simp
 obj:=λi h st b l=>by
  have e:b=it:=by simpa using l
  subst e;obtain⟨ok,r,e⟩:=st;exact⟨_,e,λv z=>by cases (show pK _=pC v from z)⟩
 keep:=λi h Q st k=>let ⟨ok,r,e⟩:=st;⟨ok,r,k it (by simp) _ e⟩
 item:=by
  intro X N hw O m i d s F H E I M st L;subst N hw O;obtain⟨D,p,e,rfl,J⟩:=L;obtain⟨ok,r,st⟩:=st;obtain⟨z,hd,G,rel,da⟩:=(show aY X.prog X.w H s.heap a (.dE ep D) from I.hok a _ e);obtain⟨⟨k,u⟩,Z,hk,T⟩:=Hl rel J;have ff:=kl (M it (by simp));have lt:it<s.heap.objs.size:=bY st;rw[show D.length=G.length from rel.length] at st;refine wpAny_pyNext_items_item st da Z λg Q B A y Y V=>?_;refine⟨_,rfl,wpAny_letOwnedTupleGo_items A λt C f=>?_⟩;have f:fU it Q t:=f;have x:∀c o,c∉[it]->s.heap.get? c=aA o->t.get? c=aA o:=λc o n q=>(f.2 c (λw=>n (by simp[w]))).trans (V c o (λw=>n (by simp[w])) q);have I1:Inv X d F H {s with heap:=t}:=xa (ch:=[it]) I (λc m=>by rw[bU.mp m];exact ff) (λc o _ l q=>x c o l q) λc o _ l q=>⟨o.slots,x c o l q⟩;have j:t.get? s.heap.objs.size=aA {cls:=.type "tuple",data:=.seq #[g,u]}:=(f.2 _ (gU lt)).trans y;have R:H s.heap.objs.size=aF:=I.hok.fresh (bC _);have fn:=kl (I.fpOk (bC _) R);have I3:Inv X d F (upd H s.heap.objs.size (.tup [kV p.1,p.2])) {s with heap:=t}:=wX I1 fn.1 fn.2 (show aY X.prog X.w _ t _ (.tup [kV p.1,p.2]) from ⟨by rw[d5];simp,[g,u],.cons (by rw[hk];exact GZ B) (.cons T .nil),⟨_,j,rfl,_,rfl⟩⟩);exact⟨.ref s.heap.objs.size,_,I3,rfl,⟨s.heap.objs.size,p.1,p.2,R,rfl,rfl,λgs' S=>by rw[e] at S;cases S;exact J⟩,⟨g,u,by rw[rel.length];exact C⟩,λc m=>by rw[bU.mp m,z8 (c7 lt)];exact ff.1.free⟩
 done:=by
  intro X N hw O m i d s F H E I M st L;subst N hw O;obtain⟨D,e,rfl,J⟩:=L;obtain⟨ok,r,st⟩:=st;obtain⟨z,hd,G,rel,da⟩:=(show aY X.prog X.w H s.heap a (.dE ep D) from I.hok a _ e);have hl:D.length=G.length:=rel.length;obtain⟨f0,f1,f2,f3,f4,f5⟩:=M it (by simp);rw[hl] at st;exact wpAny_pyNext_items_end (I.ok.hd m) st da (oM (by lia)) λQ eb=>⟨rfl,I.turned (t':=s.toks) (λb o l e=>eb b o l e) f0 f1 f3 f4 f5⟩
 self:=λ_ _ _ _ _ st h=>let ⟨_,_,e⟩:=st;PySem.W.kcp_self e h
section
variable {X:Cx}{D:DP}{W:XW}{k:Nat}{pins:List (aE×bB)}{s:Shared}{σ:St}{H:Hp}{φ α:List aE}{τ:Sl}{μ:aK}{f:De}{a b:aH}
theorem Ji:∀{a:List (Key×T)} {c:List (Key×V)},bI D φ α H a c->∀{i:Nat} {q:Key×T} {p:Key×V},a[i]?=aA q->c[i]?=aA p->q.1=p.1/\a_ D φ α H q.2 p.2
 |[],_,h,i,q,p,b,e=>by cases b
 |q::r,_,h,i,f,p,b,e=>by
  obtain⟨v,g,rfl,d,l⟩:=h;cases i with
  |zero=>cases e;cases b;exact⟨rfl,d⟩
  |succ i=>exact Ji l b e
theorem Ys{ad:aE}(j:g.length=n):il D (ID ad ep n) (λφ α H=>(∃d,H ad=aA (.dE ep d)/\bI D φ α H g d)/\∀p,H p=aF->p∉φ/\p∉α) (g.map YH):=
 ⟨λi φ α H ⟨⟨d,e,l⟩,_⟩ a=>by
  have m:=zY l;have a:i<d.length:=by rw[m];simpa using a
  exact⟨d,d[i],e,m.trans j,eQ a⟩,λi φ α H v o t ⟨⟨d,e,l⟩,fr⟩ a y=>by
  obtain⟨p,k,x,c,rfl,rfl,y⟩:=y;rw[c8] at a;cases b:g[i]? with
  |none=>rw[b] at a;cases a
  |some q=>
   rw[b] at a;cases a;obtain⟨f,dv⟩:=Ji l b (y d e);have h:ju H (upd H p (.tup [kV k,x])):=za c;have f:q.1=k:=f;exact⟨h,p,_,rfl,(fr p c).1,(fr p c).2,.inl z4,kV k,[x],rfl,by rw[f];exact Xe,x,[],rfl,dv.step (aP.new h),rfl⟩,λφ α H ⟨⟨d,e,l⟩,_⟩=>⟨d,e,(zY l).trans j,by rw[zY l,bG];exact bC _⟩⟩
theorem Uf{ad:aE}(I:Inv X pins σ H s)(f:aM D φ α H μ)(c:α[j]?=aA ad)(hd:jU μ j g) :
  ∃ep d,Inv X pins σ (upd H ad (.dE ep d)) s/\aP α H α (upd H ad (.dE ep d))/\aM D φ α (upd H ad (.dE ep d)) (μ.set j (.frd ep g))/\d.length=g.length:=by
 have k:j<μ.length:=by rcases hd with h|⟨_,h⟩<;>exact (bH.mp h).1
 have i:∃ep d,Inv X pins σ (upd H ad (.dE ep d)) s/\aP α H α (upd H ad (.dE ep d))/\bI D φ α H g d:=by
  rcases hd with h|⟨ep,h⟩
  ·obtain⟨d,e,l⟩:=f.ob j ad _ c h;obtain⟨ep,m⟩:=UW I e;exact⟨ep,d,m,aP.turn (cD c) ⟨_,e⟩,l⟩
  ·obtain⟨d,e,l⟩:=f.ob j ad _ c h;have:upd H ad (.dE ep d)=H:=by
    funext b;unfold upd;split
    ·subst_vars;exact e.symm
    ·rfl
   exact⟨ep,d,by rw[this];exact I,aP.turn (cD c) ⟨_,e⟩,l⟩
 obtain⟨ep,d,m,a,l⟩:=i;exact⟨ep,d,m,a,f.turn c k a ⟨d,z4,bI.lk a.lk (φ:=φ) l⟩,zY l⟩
theorem TU(n:ql o=aC)(i:(pa.endLine==pc.line)=aC)(ho:PE X o (aX D W f)) :
  PI X (.Tuple M x1 tp) (.Call (.Attribute o "items" pa) [] [] pc) (gD D W (r4 f)):=by
 rintro G s P H R I ⟨O,α,τ,μ,V,mr,p⟩;refine wpAny_Call_method0_late (qX n) i (a7 (sub ho I V mr p) ?_);rintro u g ⟨v,H1,t,c,k,I1,Y,T,U,y,d1,p1⟩;cases t with
 | «mut» j=>
  obtain⟨ad,J,rfl⟩:=d1;cases Y;have x:aJ D W O k H1 P _ (λK _=>∃a,jU c j a/\∀ep,K (a.map YH,sD j ep a) (c.set j (.frd ep a))):=p1;obtain⟨K0,Z0,⟨a,hd,x⟩,k1,k2⟩:=x;have B:j<c.length:=by rcases hd with h|⟨_,h⟩<;>exact (bH.mp h).1
  obtain⟨ep,gs,q,r,m2,A⟩:=Uf I1 y J hd;obtain⟨z,hs,l,rel,da⟩:=(show aY X.prog X.w _ g.heap ad (.dE ep gs) from q.hok ad _ z4);have hl:a.length=l.length:=A.symm.trans rel.length;have L:g.TypeIs (.ref ad) "dict":=da.dictOf.typeIs;refine⟨"dict","dict.items",Fi,Fg,PySem.F.type_dict_items,L,λb e=>?_,?_⟩
  ·cases e;obtain⟨Z,_,h1,h2,_⟩:=da;exact⟨Z,h1,h2.2.1⟩
  refine xz rfl (PySem.evalArgs_none (call_meetsIn Fg L PySem.F.entry_dict_items (PySem.F.args_dict_items_1 _) (meets_dict_items (zE X.prog X.w) ad hs) ⟨⟨l,da.dictOf⟩,?_⟩));have C:(g.heap.push {cls:=.type "dict_items",data:=.fields #[.ref ad]}).DictAt (zE X.prog X.w) ad l ep:=da.push _;refine wpAny_pyIter_items (v:=g.heap.objs.size) (d:=ad) ⟨_,dP _ rfl,rfl,rfl⟩ C ?_;refine⟨_,[_],_,_,_,rfl,q.kept (t':=g.toks) λb o e=>bP _ (bP _ e),X5 ad _ ep l.length,⟨_,_,dP _ rfl⟩,λb hb=>?_,?_⟩
  ·rw[bU.mp hb];have:g.heap.objs.size<=(g.heap.push {cls:=.type "dict_items",data:=.fields #[.ref ad]}).objs.size:=by rw[iy];exact h_ _
   exact q.fpOk this (q.hok.fresh this)
  ·refine k1 _ _ (x ep) k _ r m2 _ _ (Ys hl) (λN S H' Q lk m hv=>⟨?_,λp n=>⟨zh m n,zi m n⟩⟩) ?_
   ·obtain⟨E,e',l'⟩:=m.ob j ad _ (lk.st j ad J) hv;exact⟨E,e',l'⟩
   ·show (c.set j _)[j]?=_;rw[nl B]
 |_=>exact aJ.elim p1
theorem Uv{a b:V}{us:List aB}(r:aW [a,b] us):∃g d,us=[g,d]/\RelV a g/\RelV b d:=by
 cases r with
 |cons h f=>cases f with
  |cons e c=>cases c;exact⟨_,_,rfl,h,e⟩
theorem Tr(d:a_ D φ α H (Ut z) v):v=kV z:=by cases z<;>exact d
theorem Wl{P:b7}{w:cV}{h:aR}(ok:dN P w H h):∀{ps:List (Key×T)} {b:List V} {us:List aB},aN D φ α H (ps.map YH) b->aW b us->
  ∃(ys:List (Key×aB×aB)) (c:List (Key×V)),bI D φ α H ps c/\KV c (ys.map le)/\ys.map (·.1)=ps.map (·.1)/\us.length=ys.length/\(∀(i:Nat) y,ys[i]?=aA y->∃v,us[i]?=aA v/\B4 h v y.2.1 y.2.2)/\∀y∈ys,(zE P w).is y.1 y.2.1=aC
 |[],b,us,l,r=>by
  have l:b=[]:=l;subst l;cases r;exact⟨[],[],rfl,.nil,rfl,rfl,by simp,by simp⟩
 |p::ps,_,_,l,r=>by
  obtain⟨v,b,rfl,d,l⟩:=l;cases r with
  |cons s q=>
   rename_i u us;obtain⟨ys,c,I,G,F,E,C,B⟩:=Wl ok l q;obtain⟨t,Q,rfl,_,_,rt,z⟩:=d;obtain⟨R,S,rfl,g,e,x,rfl,O,f⟩:=z;have f:x=[]:=f;subst f;have g:=Tr g;subst g;cases s;obtain⟨_,A,n,o,L,K,m,J⟩:=(show aY P w H h t (.tup [kV p.1,e]) from rt.ok ok);obtain⟨k,j,rfl,N,M⟩:=Uv n;refine⟨(p.1,k,j)::ys,(p.1,e)::c,⟨e,c,rfl,O,I⟩,.cons ⟨rfl,M⟩ G,by rw[dW,F];rfl,by simp[E],λi y a=>?_,λy a=>?_⟩
   ·cases i with
    |zero=>cases a;exact⟨.ref t,rfl,t,o,m,rfl,L,K,J⟩
    |succ i=>exact C i y a
   ·rcases cC.mp a with rfl|a
    ·exact QK N
    ·exact B y a
theorem OM(N:X.calm=aC):B1 X D W (.type "dict") li:=by
 intro e s V H U α Y t v u Q I h d r p;obtain⟨K,Z,⟨c,rfl,A,g,O⟩,M,hz⟩:=p;obtain⟨ad,n,rfl,_,_,rd,l⟩:=d;cases r;obtain⟨z,F,m,x,L⟩:=(show aY X.prog X.w H s.heap ad (.lst n) from rd.ok I.hok);obtain⟨ys,j,e0,T,k,S,R,P⟩:=Wl I.hok l x;have B:ys.length=c.length:=by rw[←bG (f:=(·.1)),k,bG]
 have C:j.length=c.length:=zY e0;have b:H s.heap.objs.size=aF:=I.hok.fresh (bC _);refine J8 (knd:=zE X.prog X.w) (ys:=ys) (I.ok.hd N) L (by rw[k];exact A) (by rw[B];exact cL g (by decide)) (by rw[dJ];exact S) (λi y G=>?_) P λh' q dd E=>?_
 ·obtain⟨v,J,b⟩:=R i y G;exact⟨v,by simpa using J,b⟩
 ·have sz:(s.heap.objs.size==ic)=aD:=beq_eq_false_iff_ne.mpr (cE (c7 I.big));refine⟨.ref s.heap.objs.size,_,I.laid (a:=s.heap.objs.size) (o:=.dK j) (t':=q) E (bC _) ⟨by rw[C];exact cL g (by decide),sz,_,T,dd⟩,rfl,?_⟩;exact M _ _ O _ _ (j7 b) (h.layO b ⟨_,z4,bI.lk (j7 b).lk e0⟩) _ ⟨_,by rw[←h.len,fT (bC _)];simp,rfl⟩
end
theorem Nm (h:JU tg (.Call (.Attribute o "items" pa) as ks p)=aC):∃d x1 g,tg=.Tuple d x1 g:=Xi (show Uw tg=aC from h)
def G1:IR:=λr a e=>(yv e).bind λq=>gd (q.m==("items":aG)) (gd (ql q.o&&q.as.isEmpty) (gd (q.pa.endLine==q.pc.line) ((r.e a q.o).bind λf=>aA (r4 f))))
theorem SH:l7 D G1:=by
 intro r H X W m k p e d C a h;obtain⟨q,j,h⟩:=aS h;obtain⟨i,h⟩:=z7 h;obtain⟨b,h⟩:=z7 h;obtain⟨g,h⟩:=z7 h;obtain⟨f,l,h⟩:=aS h;cases h;have e0:=vC j;rw[zW i,oB.mp (zu b).2] at e0;rw[e0] at a ⊢;obtain⟨c,n,o,rfl⟩:=Nm a;exact TU (zu b).1 g (H.e C l)
noncomputable def Og:aH->Bool
 |.Call _ [.Name x _] _ _=>x==("_law_found":aG)
 |_=>aD
def GO:ER:=λr a e=>gd (Og e) (GF r a e)
theorem UC:cY D GO:=by
 intro r H X W a k e d C h;obtain⟨_,h⟩:=z7 h;exact Tq r H C h
def GL:ER:=lY "dict" li aC
theorem TM:cY D GL:=ko λC a c d b e=>UZ C a c (by decide +kernel) (by decide) b (OM (C.clm (d rfl))) e
noncomputable def ya(a b:Int):List T:=(gx (a-b).toNat).map λ(i:Nat)=>T.int (a+i*(-1))
abbrev PQ(x y z:T)(μ:aK):RI:=match x,y,z with
 |.int a,.int b,.int c=>.grd (c = -1) (.ok (ya a b) fY μ)
 |_,_,_=>.st
abbrev AO(f g h:De):Di:=λa e=>(f a e).it λx d=>(g a d).it λy c=>(h a c).it λz b=>PQ x y z b
section
variable {X:Cx}{D:DP}{W:XW}{Γ:Cn}{k:Nat}{f g h:De}{a b c tg:aH}{pos:Pos}
theorem Sx(a b:Int):nn a b (-1)=((a-b).toNat:Int):=by
 unfold nn;simp only[show ¬((-1:Int) > 0) by decide,if_false,show (-(-1):Int)=1 from rfl,pZ];split<;>lia
theorem YC{a:List (aE×bB)}{f:St}{H:Hp}{s:aU}{R:It->Hp->Prop}{E:aB->aU->Prop}{lo hi:Int}{t u v:Tok}{tk:Nat}(I:Inv X a f H s)
  (q:R (l6 lo (-1) (lo-hi).toNat) H):wpAny (aQ X.prog X.w) X.A (ma (.ref s.heap.objs.size)) (nO X a f tg R) E {s with heap:=s.heap.push {cls:=.type "range",data:=.fields #[.int lo t,.int hi u,.int (-1) v]},toks:=tk}:=by
 have c:Inv X a f H {s with heap:=s.heap.push {cls:=.type "range",data:=.fields #[.int lo t,.int hi u,.int (-1) v]},toks:=tk}:=I.kept λb o e=>bP _ e;have i:lo+((0:Nat):Int)*(-1)=lo:=by simp
 have h:((lo-hi).toNat:Int)-((0:Nat):Int)=nn lo hi (-1):=by
  rw[Sx];simp
 generalize j:(lo-hi).toNat=n at q h;cases d:EX lo hi (-1) with
 |true=>
  refine Ev (pJ ..) d ?_;refine⟨_,[_],_,_,H,rfl,c.kept (t':=tk) λb o e=>bP _ e,yW _ lo (-1) n,?_,λb g=>by rw[bU.mp g];exact c.fpOk (bC _) (c.hok.fresh (bC _)),q⟩;show tG _ _ (lo+((0:Nat):Int)*(-1)) ((n:Int)-((0:Nat):Int)) (-1);rw[i,h];exact dP _ rfl
 |false=>
  refine Fd (pJ ..) d ?_;refine⟨_,[_],_,_,H,rfl,c.kept (t':=tk) λb o e=>bP _ e,yx _ lo (-1) n,?_,λb g=>by rw[bU.mp g];exact c.fpOk (bC _) (c.hok.fresh (bC _)),q⟩;show sS _ _ (lo+((0:Nat):Int)*(-1)) ((n:Int)-((0:Nat):Int)) (-1);rw[i,h];exact dP _ rfl
theorem So (C:Ck D W Γ X k) (Q:("range":aG)∈Γ.G) (hg:Γ.gl "range"=.none) (o:aO a=aC) (n:aO b=aC) (m:aO c=aC) (ha:PE X a (aX D W f)) (hb:PE X b (aX D W g)) (hc:PE X c (aX D W h)) :
  PI X tg (.Call (.Name "range" p0) [a,b,c] [] pos) (gD D W (AO f g h)):=by
 have S:=C.glo _ Q;rw[hg] at S;rintro l s O H R I ⟨r,U,t,T,J,mr,p⟩;refine Call_ (qQ I (C.glb _ Q) S sR (ny (a7 (zr ha (zr hb (zr hc zZ (z3 m)) (z3 n)) (z3 o) pos l s O H (λP N=>∃i j:Int,P=[.int i,.int j,.int (-1)]/\R (l6 i (-1) (i-j).toNat) N) I ?_) ?_) (z3 o) (qB (by simp[n,m]))))
 ·refine⟨r,U,t,T,J,mr,p.bind.mono λx w E N e m1 q1 Z M=>⟨r,E,t,w,J.step e,m1,q1.bind.mono λy v B H2 F m2 q2 Y L=>⟨r,B,t,v,(J.step e).step F,m2,q2.bind.mono λz u A H3 st3 m3 d V K=>?_⟩⟩⟩;cases x with
  |int a=>
   cases y with
   |int b=>
    cases z with
    |int c=>
     have d:aJ D W r A H3 O _ (RE.grd (c = -1) (RE.ok (ya a b,fY) u)):=d;obtain⟨hh,q4⟩:=d.grd;have M:Z=.int _:=M;have L:Y=.int _:=L;have K:V=.int _:=K;subst M L K hh;exact⟨_,_,rfl,q4.ok (aP.refl _ _) m3 _ _ kG (λ_ _ _ _ _ _ _=>gw) trivial⟩
    |_=>exact aJ.elim d
   |_=>exact aJ.elim d
  |_=>exact aJ.elim d
 ·rintro us s1 ⟨P,N,I1,rv,i,j,rfl,q⟩;obtain⟨u1,u2,u3,rfl,r1,r2,r3⟩:=vals3 rv;obtain⟨t1,rfl⟩:=r1;obtain⟨t2,rfl⟩:=r2;obtain⟨t3,rfl⟩:=r3;exact call_range_3 (by lia) (YC I1 q) (.inl (PyProof.noPylong_small (by lia)))
end
noncomputable def NJ:aH->Bool
 |.UnaryOp _ _ _=>aC
 |_=>aD
def F5 (r:dH)(Γ:Cn):List aH->Option Di
 |[a,b,c]=>gd (NJ c) ((r.e Γ a).bind λf=>(r.e Γ b).bind λg=>(r.e Γ c).bind λh=>aA (AO f g h))
 |_=>aF
def GJ:IR:=λr a e=>(xF e).bind λq=>gd (q.x==("range":aG)) (gd ((cF a.N q.x).isNone&&q.as.all aO) (gd (gY (a.look "range")) (F5 r a q.as)))
theorem SI:l7 D GJ:=by
 intro r H X W o k p e d C s h;obtain⟨q,n,h⟩:=aS h;obtain⟨b,h⟩:=z7 h;obtain⟨a,h⟩:=z7 h;obtain⟨c,h⟩:=z7 h;rw[qV n,zW b];have a:=(zu a).2;obtain⟨b,i⟩:=zB c;generalize q.as=u at h a ⊢;unfold F5 at h;split at h
 ·obtain⟨_,h⟩:=z7 h;obtain⟨f,m,h⟩:=aS h;obtain⟨g,l,h⟩:=aS h;obtain⟨t,j,h⟩:=aS h;cases h;exact So C b i (zu a).1 (zu (zu a).2).1 (zu (zu (zu a).2).2).1 (H.e C m) (H.e C l) (H.e C j)
 ·cases h
theorem swT{α:Type}{a b:α}{Q:α->Prop}(h:∀P∈[a,b],Q P):∀P∈[b,a],Q P:=λP c=>h P (by rcases cC.mp c with e|e;exact dQ _ (bU.mpr e);rw[bU.mp e];exact d9)
end NH
namespace NH.P
open PySem L2 NH
@[reducible] def jC:List Ds:=[(zp 2 (gO uv (ze (eV 0) 26) (bD (eV 1) (eC (.int 2))))),(zp 3 (zT 41 wc (ze (eV 2) 21) [(bD (eV 1) (eC (.int 1)))])),(bW (tE (zy .Eq (bD (eV 1) (eC (.int 0))) (eC (.str "ask")))) [(zv (zT 45 qG (ze (eV 2) 11) [(eV 3),(bD (eV 1) (eC (.int 3)))]))] []),(bW (tE (zy .Eq (bD (eV 1) (eC (.int 0))) (eC (.str "take")))) [(zv nH)] []),(bW (tE (zy .Eq (bD (eV 1) (eC (.int 0))) (eC (.str "store")))) [(zF nH)] [(bW (tE (zy .Eq (bD (eV 1) (eC (.int 0))) (eC (.str "lease")))) [(zF (zT 45 q9 (ze (eV 2) 11) [(zT 43 vT (ze (eV 0) 23) [(bD (eV 1) (eC (.int 2))),(bD (eV 1) (eC (.int 3))),(eV 3),(bD (eV 1) (eC (.int 4)))])]))] [(bW (tE (zy .Eq (bD (eV 1) (eC (.int 0))) (eC (.str "back")))) [(zp 4 nH),(zF nH)] [(bW (tE (zy .Eq (bD (eV 1) (eC (.int 0))) (eC (.str "fall")))) [(zF (zT 47 zH (eV 0) [(eV 2)]))] [(zK (eV 2) 22 (eC .non)),(zF (zT 47 zH (eV 0) [(eV 2)]))])])])]),(zv (Zs []))]
def qt:Fn:=bM 2 3 jC
@[reducible] def j_:List Ds:=[(zF (zT 47 qA (eV 0) [(eV 1)])),(zp 2 (zT 47 qt (eV 0) [(eV 1)])),(zK (eV 0) 25 (bD (eV 1) (eC (.int 1)))),(zF (rZ (ze (eV 0) 24) (qT 1 [1] (.one 0) (iE (eV 2)) [] (v5 [(bD (eV 1) (eC (.int 1))),(bD (eV 1) (eC (.int 2))),(eV 0)])))),(zv (eV 2))]
def qL:Fn:=bM 2 1 j_
@[reducible] def jI:List Ds:=[(zv (cS Jf (ze (eV 0) 24)))]
def wy:Fn:=bM 1 0 jI
@[reducible] def j9:List Ds:=[(zp 2 (y7 [])),(zp 3 (zd .Sub (zd .Add (eV 1) (z9 zm [(eV 0),(eC (.int 30))])) (eC (.int 5)))),(jA (.one 4) (U4 (z9 zm [(eV 0),(eC (.int 4))])) [(zp 5 (zd .Add (eV 3) (bD (Zs [(eC (.int 0)),(z9 zm [(eV 0),(eC (.int 40))]),(zd .Sub (eC (.int 0)) (z9 zm [(eV 0),(eC (.int 40))]))]) (z9 zm [(eV 0),(eC (.int 3))])))),(zF (Vg (eV 2) (v5 [(eV 3),(eV 5),(zy .Gt (z9 zm [(eV 0),(eC (.int 3))]) (eC (.int 0)))]))),(zp 3 (zd .Add (zd .Add (eV 3) (eC (.int 1))) (z9 zm [(eV 0),(eC (.int 20))])))]),(zv (v5 [(bD (Zs [(eC (.int 0)),(zd .Sub (z9 zm [(eV 0),(eC (.int 9))]) (eC (.int 4)))]) (z9 zm [(eV 0),(eC (.int 2))])),(eV 2)]))]
def wa:Fn:=bM 2 4 j9
@[reducible] def yG:List Ds:=[(Bc [2,3] (eV 0)),(zp 4 (zd .Add (eV 2) (eV 1))),(jA (.tup [5,6,7]) (iE (eV 3)) [(bW (tE (zy .LtE (eV 5) (eV 1))) [(zp 4 (zd .Add (eV 6) (zd .Mult (zd .Sub (eV 1) (eV 5)) (cS ss (eV 7)))))] [])]),(zv (eV 4))]
def wF:Fn:=bM 2 6 yG
@[reducible] def yH:List Ds:=[(zp 4 (y7 [])),(zp 5 (eC .non)),(jA (.one 6) (AO (eV 3) (zd .Sub (eV 2) (eC (.int 1))) (AH (eC (.int 1)))) [(zp 7 (z9 wF [(eV 1),(eV 6)])),(bW (gC (tE (zy .Is (eV 5) (eC .non))) (tE (zy .Lt (eV 7) (eV 5)))) [(zp 5 (eV 7))] []),(zF (Vg (eV 4) (zd .Sub (z9 wF [(eV 0),(eV 6)]) (eV 5))))]),(zv (cS UM (eV 4)))]
def vp:Fn:=bM 4 4 yH
@[reducible] def Q1:List Ds:=[(zp 2 (Zs [])),(AG [(zp 2 (zT 47 qL (eV 0) [(eV 1)]))] [([10],aF,[(zp 2 (Zs []))])]),(zv (eV 2))]
def wj:Fn:=bM 2 1 Q1
@[reducible] def Za:List Ds:=[(zp 2 (y7 [])),(jA (.one 3) (U4 (cS kN (eV 0))) [(jA (.one 4) (U4 (eV 3)) [(bW (tE (zy .NotEq (bD (bD (eV 0) (eV 4)) (eC (.int 1))) (bD (bD (eV 0) (eV 3)) (eC (.int 1))))) [(zF (Vg (eV 2) (zd .Sub (bD (eV 1) (eV 4)) (bD (eV 1) (eV 3)))))] [])])]),(zv (cS VL (eV 2)))]
def xh:Fn:=bM 2 3 Za
@[reducible] def qI:List Ds:=[(zp 1 (z9 vy [(z9 wD [(eV 0),(eC (.int 0))])])),(zp 2 (v5 [(eC (.int 300)),(zd .Add (eC (.int 3)) (z9 zm [(eV 1),(eC (.int 2))])),(zd .Add (eC (.int 1)) (z9 zm [(eV 1),(eC (.int 6))]))])),(zp 3 (z9 zm [(eV 1),(eC (.int 9))])),(zp 4 (zd .Add (eC (.int 30)) (z9 zm [(eV 1),(eC (.int 40))]))),(zp 5 (o3 (Zs [(eC (.str "one")),(eC (.str "ones")),(eC (.str "a"))]) pN (pS (zd .Add (eC (.int 2)) (z9 zm [(eV 1),(eC (.int 2))]))))),(zp 6 VS),(jA (.tup [7,8]) (Xn (eV 5)) [(yB (eV 6) (eV 8) (z9 wa [(z9 vy [(z9 wD [(eV 0),(zd .Add (eC (.int 1)) (eV 7))])]),(eV 4)]))]),(zp 9 (cS li (qT 2 [] (.tup [0,1]) (r4 (eV 6)) [] (v5 [(eV 0),(Qc 41 wO [(bD (eV 1) (eC (.int 0))),(bD (eV 1) (eC (.int 1)))])])))),(zp 10 (Qc 47 v_ [(o4 40 wW [(bD (eV 2) (eC (.int 0))),(bD (eV 2) (eC (.int 1))),(bD (eV 2) (eC (.int 2)))]),(eV 3),(eC (.int 0)),(eV 9)])),(zp 11 (eV 4)),(jA (.tup [7,8]) (Xn (eV 5)) [(zF (z9 wj [(eV 10),(v5 [(eC (.str "lease")),(eV 11),(eV 8),(eV 7),(eC (.int 90))])]))]),(jA (.one 12) (iE (zd .Add (Zs [(z9 wD [(eV 0),(eC (.int 4))])]) (o3 (eV 0) (pS (eC (.int 5))) (pS (eC (.int 35)))))) [(zp 1 (z9 vy [(eV 12)])),(zp 11 (iX QH (zd .Add (eV 4) (eC (.int 60))) (zd .Add (eV 11) (z9 zm [(eV 1),(eC (.int 6))])))),(zp 8 (bD (eV 5) (z9 zm [(eV 1),(cS kN (eV 5))]))),(zp 13 (v5 [(eC (.str "ask")),(eV 11),(eV 8),(zd .Add (eC (.int 1)) (z9 zm [(eV 1),(bD (eV 2) (eC (.int 2)))]))])),(bW (tE (zy .Eq (z9 zm [(eV 1),(eC (.int 9))]) (eC (.int 8)))) [(zp 13 (v5 [(eC (.str "lease")),(eV 11),(eV 8),(eC .non),(zd .Add (eC (.int 1)) (z9 zm [(eV 1),(eC (.int 40))]))]))] []),(zF (z9 wj [(eV 10),(eV 13)]))]),(zp 14 (zT 47 wy (eV 10) [])),(zp 15 (qT 3 [2] (.tup [0,1,2]) (iE (eV 14)) [] (zd .FloorDiv (zd .FloorDiv (eV 2) (bD (eV 3) (eC (.int 2)))) (bD (eV 3) (eC (.int 1)))))),(zp 16 (z9 xh [(eV 14),(eV 15)])),(zp 17 (z9 ur [(o4 40 wW [(bD (eV 2) (eC (.int 0))),(bD (eV 2) (eC (.int 1))),(bD (eV 2) (eC (.int 2)))]),(eV 14)])),(bW (tE (zy .Is (eV 16) (eC .non))) [(zv (zy .Is (eV 17) (eC .non)))] []),(zp 18 (y7 [])),(jA (.one 19) (iE (eV 5)) [(zF (rZ (eV 18) (qT 1 [4,6,19,11] (.one 0) (iE (eV 5)) [(tE (zy .NotEq (eV 0) (eV 3)))] (z9 vp [(gO uv (eV 2) (eV 3)),(gO uv (eV 2) (eV 0)),(eV 1),(eV 4)]))))]),(zv (yk (zy .IsNot (eV 17) (eC .non)) (yk (zy .Eq (bD (eV 17) (eC (.int 0))) (eV 16)) (zy .LtE (eV 16) (zd .Add (eV 3) (cS UM (eV 18)))))))]
def kT:Fn:=bM 1 19 qI
end NH.P
namespace NH.K92
open PySem PySem.Spec PyProof.Rows L2 NH NH.P
noncomputable def st(i:Nat):bE:=PySem.Challenge.pw_namehouses_k92_whole_how_far_names_are_b.main.body.getD i (.Pass ⟨0,0,0,0⟩)
noncomputable def cls:List (aG×Nat):=[("Clock",41),("HouseError",10),("bool",1),("dict",6),("int",2),("list",5),("str",3),("tuple",4)]
def fld:List (aG×Nat):=[("moments",0),("houses",1),("counts",2),("start",3),("turns",4),("holder",5),("lease",6),("until",7),("is_cut",8),("shape",9),("grants",10),("house",11),("begin",12),("end",13),("ahead",14),("stride",15),("keeper",16),("mark",17),("newest",18),("batches",19),("has_fallen",20),("clock",21),("kept",22),("common",23),("given",24),("now",25),("seats",26),("by",29)]
def RU:cU:=⟨[GO,GL,GN,FJ,Gm,Hh,Gg,B7,FW,G2,FO,Gn,Ga,GH,FM,GB,FV,GG,GK,Hd,Gw,Gb,FY,G_,Hf,HU,HG,FZ],[GW,B8,Hi],[Hm],[G1,Ic,GJ,GS,G7,Hx,Ih],[GR,Hu,K8],[HK,HV,GU,HY]⟩
theorem uY{D:DP}:cG D RU:=⟨⟨UC,TM,UE,Sa,Rh,UG,Sb,Tx,Sh,S4,P_,Rv,Sz,S2,R4,Rf,SG,ZB,Tp,S0,Rn,Sq,Se,TK,Tz,Uu,Yl,R5,trivial⟩,⟨SO,TX,UB,trivial⟩,⟨U0,trivial⟩,⟨SH,Oo,SI,TN,WP,Uc,OV,trivial⟩,⟨TZ,Ud,YV,trivial⟩,⟨YJ,YU,SK,Yu,trivial⟩⟩
def Ir:List (aG×GM):=XB ["ValueError","all","bool","dict","enumerate","int","isinstance","len","list","max","min","range","reversed","sorted","str","sum","tuple"] [("HouseError",10),("NoShape",12),("NoName",13),("NoClock",15),("NoTime",16),("NoHolder",17),("NoLease",18),("Ended",19),("TooMany",20),("Empty",22),("NoNote",23),("Fallen",24),("NoRow",25)] [("Wait",21,29),("Backward",26,25)]
def v7:=aV (st 11) 0
def Iq:List (aG×GM):=(hash "Wait",GM.xin 21 29 "Wait" "by")::Ir
def Ip:List (aG×GM):=(hash "by",GM.xin 21 29 "Wait" "by")::Iq
def qC:=aV (st 16) 0
def Io:List (aG×GM):=(hash "Backward",GM.xin 26 25 "Backward" "now")::Ip
def CG:List (aG×GM):=(hash "now",GM.xin 26 25 "Backward" "now")::Io
def uQ:=st 18
def X9:Cn:=cn cls fld CG ["thing"] ["isinstance","int","bool"] [] []
theorem K2:zj ((aT RU 60).s X9) (z0 uQ)=aA ZJ:=by kernel_rfl
def CF:List (aG×GM):=("is_whole",GM.fn zU)::CG
def Wg:=st 19
def Ym:Cn:=cn cls fld CF ["thing"] ["is_whole"] [] []
theorem YG:zj ((aT RU 60).s Ym) (z0 Wg)=aA Qy:=by kernel_rfl
def CD:List (aG×GM):=("is_size",GM.fn vf)::CF
def vo:=st 20
def yo:Cn:=cn cls fld CD ["thing"] ["is_whole"] [] []
theorem xY:zj ((aT RU 60).s yo) (z0 vo)=aA vE:=by kernel_rfl
def CB:List (aG×GM):=("is_from_nought",GM.fn qj)::CD
def Zc:=st 21
def K_:Cn:=cn cls fld CB ["thing","bound"] ["is_whole"] [] []
theorem Ky:zj ((aT RU 60).s K_) (z0 Zc)=aA uK:=by kernel_rfl
def CA:List (aG×GM):=("is_below",GM.fn qS)::CB
def xC:=aV (st 22) 0
def WT:Cn:=cn cls fld CA ["self","moments","houses","counts"] ["is_size","NoShape"] [] []
theorem Vo:zj ((aT RU 60).s WT) (z0 xC)=aA xy:=by kernel_rfl
def Cz:List (aG×GM):=("Shape",GM.mk 40 aC wW)::CA
def Z7:=st 23
def Kz:Cn:=cn cls fld Cz ["shape"] [] [] []
theorem KO:zj ((aT RU 60).s Kz) (z0 Z7)=aA ZK:=by kernel_rfl
def AJ:List (aG×GM):=("names_in",GM.fn xK)::Cz
def Qz:=st 24
def Y_:Cn:=cn cls fld AJ ["shape","thing"] ["is_below","names_in"] [] []
theorem Yo:zj ((aT RU 60).s Y_) (z0 Qz)=aA QQ:=by kernel_rfl
def BV:List (aG×GM):=("is_name",GM.fn ue)::AJ
def xt:=st 25
def Wq:Cn:=cn cls fld BV ["shape","thing"] ["is_name","NoName"] [] []
theorem Wu:zj ((aT RU 60).s Wq) (z0 xt)=aA xl:=by kernel_rfl
def Bj:List (aG×GM):=("check_name",GM.fn vM)::BV
def xN:=st 26
def Wx:Cn:=cn cls fld Bj ["thing","bound"] ["is_below","NoName"] [] []
theorem Wy:zj ((aT RU 60).s Wx) (z0 xN)=aA xT:=by kernel_rfl
def A5:List (aG×GM):=("check_part",GM.fn qZ)::Bj
def QA:=st 27
def YK:Cn:=cn cls fld A5 ["shape","moment","house","count"] ["check_part"] [] []
theorem U1:zj ((aT RU 60).s YK) (z0 QA)=aA QL:=by kernel_rfl
def AB:List (aG×GM):=("name_of",GM.fn um)::A5
def Z8:=st 28
def Xd:Cn:=cn cls fld AB ["shape","name","count","above"] ["check_name"] [] []
theorem Kn:zj ((aT RU 60).s Xd) (z0 Z8)=aA Zq:=by kernel_rfl
def Gy:List (aG×GM):=("parts_of",GM.fn jG)::AB
def Gz:List (aG×GM):=("TIME_clocks",GM.cst (.int 0))::Gy
def FT:List (aG×GM):=("READING",GM.cst (.int 1))::Gz
def Bb:List (aG×GM):=("RUNS",GM.cst (.int 2))::FT
def Wo:=st 33
def Uy:Cn:=cn cls fld Bb ["thing"] ["isinstance","tuple","len","is_whole","TIME_clocks","READING","RUNS","bool"] [] []
theorem YR:zj ((aT RU 60).s Uy) (z0 Wo)=aA QP:=by kernel_rfl
def AW:List (aG×GM):=("is_turn",GM.fn ua)::Bb
def yK:=st 34
def Jp:Cn:=cn cls fld AW ["thing"] ["isinstance","list","all","range","len"] ["thing"] []
theorem JD:zj ((aT RU 60).s Jp) (z0 yK)=aA yD:=by kernel_rfl
def AI:List (aG×GM):=("are_turns",GM.fn jK)::AW
def xg:=aV (st 35) 0
def Vf:Cn:=cn cls fld AI ["self","start","turns"] ["is_whole","are_turns","NoClock","list"] [] []
theorem WL:zj ((aT RU 60).s Vf) (z0 xg)=aA xj:=by kernel_rfl
def BU:List (aG×GM):=("Clock",GM.mk 41 aD wO)::AI
def jb:=aV (st 35) 1
def y_:Cn:=cn cls fld BU ["self","time","turn"] ["is_whole","NoTime","reversed","TIME_clocks","READING","RUNS"] [] []
theorem u4:zj ((aT RU 60).s y_) (z0 jb)=aA jc:=by kernel_rfl
def Gh:List (aG×GM):=(eD "reading",GM.met 41 "reading" wc)::BU
def GC:List (aG×GM):=("HOUSE_leases",GM.cst (.int 0))::Gh
def FR:List (aG×GM):=("FIRST",GM.cst (.int 1))::GC
def Bo:List (aG×GM):=("UNTIL",GM.cst (.int 2))::FR
def ZM:=st 40
def JS:Cn:=cn cls fld Bo ["shape","thing"] ["isinstance","tuple","len","is_below","HOUSE_leases","is_whole","FIRST","UNTIL"] [] []
theorem KS:zj ((aT RU 60).s JS) (z0 ZM)=aA ZD:=by kernel_rfl
def Bu:List (aG×GM):=("is_lease",GM.fn xA)::Bo
def kc:=st 41
def Qi:Cn:=cn cls fld Bu ["shape","thing"] ["is_lease","NoLease"] [] []
theorem Q6:zj ((aT RU 60).s Qi) (z0 kc)=aA jX:=by kernel_rfl
def FG:List (aG×GM):=("check_lease",GM.fn vj)::Bu
def Gd:List (aG×GM):=("LETTERS",GM.cst (.str "abcdefghijklmnopqrstuvwxyz"))::FG
def BG:List (aG×GM):=("LONGEST_HOLDER",GM.cst (.int 8))::Gd
def yC:=st 46
def VQ:Cn:=cn cls fld BG ["thing"] ["isinstance","str","len","LONGEST_HOLDER","all"] [] []
theorem Jy:zj ((aT RU 60).s VQ) (z0 yC)=aA yw:=by kernel_rfl
def BM:List (aG×GM):=("is_holder",GM.fn w4)::BG
def xk:=aV (st 47) 0
def V7:Cn:=cn cls fld BM ["self","holder","lease"] ["UNTIL"] [] []
theorem V5:zj ((aT RU 60).s V7) (z0 xk)=aA xG:=by kernel_rfl
def A1:List (aG×GM):=("Grant",GM.mk 42 aD kr)::BM
def XM:=st 48
def Px:Cn:=cn cls fld A1 ["grant","first","until"] ["max","FIRST","min"] [] []
theorem Rg:zj ((aT RU 60).s Px) (z0 XM)=aA Y8:=by kernel_rfl
def BI:List (aG×GM):=("meets",GM.fn fX)::A1
def qy:=st 49
def Qa:Cn:=cn cls fld BI ["grants","moment","span","begin","grant"] ["sorted","meets"] [] [] (aA (0,[⟨140,36,140,64⟩]))
theorem Q4:zj ((aT RU 60).s Qa) (z0 qy)=aA jT:=by kernel_rfl
def Aq:List (aG×GM):=("least_begin",GM.fn wk)::BI
def jV:=st 50
def Ql:Cn:=cn cls fld Aq ["grants","moment","span","met","grant","house"] ["meets","HOUSE_leases"] [] ["met"]
theorem Q2:zj ((aT RU 60).s Ql) (z0 jV)=aA k7:=by kernel_rfl
def BW:List (aG×GM):=("least_house",GM.fn ve)::Aq
def jZ:=aV (st 51) 0
def Qv:Cn:=cn cls fld BW ["self","shape"] [] [] ["grants"]
theorem Qk:zj ((aT RU 60).s Qv) (z0 jZ)=aA k9:=by kernel_rfl
def AV:List (aG×GM):=("Common",GM.mk 43 aD vc)::BW
def wM:=aV (st 51) 2
def kL:Cn:=cn cls fld AV ["self","holder","house","moment","span"] ["is_holder","NoHolder","is_below","NoName","is_size","NoTime","is_whole"] [] []
theorem kH:zj ((aT RU 60).s kL) (z0 wM)=aA qD:=by kernel_rfl
def AT:List (aG×GM):=(eD "check_let",GM.met 43 "check_let" qw)::AV
def wQ:=aV (st 51) 4
def kB:Cn:=cn cls fld AT ["self","house"] [] ["house"] []
theorem kq:zj ((aT RU 60).s kB) (z0 wQ)=aA wL:=by kernel_rfl
def BO:List (aG×GM):=(eD "grants_of",GM.met 43 "grants_of" qv)::AT
def wq:=aV (st 51) 3
def jR:Cn:=cn cls fld BO ["self","house","moment","span","begin"] ["least_house","least_begin"] [] []
theorem jS:zj ((aT RU 60).s jR) (z0 wq)=aA wt:=by kernel_rfl
def Bs:List (aG×GM):=(eD "free_lease",GM.met 43 "free_lease" qf)::BO
def xr:=aV (st 51) 1
def WN:Cn:=cn cls fld Bs ["self","holder","house","moment","span","lease"] ["max","HOUSE_leases","UNTIL","Ended","Grant"] [] []
theorem Ve:zj ((aT RU 60).s WN) (z0 xr)=aA xo:=by kernel_rfl
def Bw:List (aG×GM):=(eD "let",GM.met 43 "let" vT)::Bs
def xm:=aV (st 54) 0
def WR:Cn:=cn cls fld Bw ["self","house","begin","end"] [] [] []
theorem WY:zj ((aT RU 60).s WR) (z0 xm)=aA xS:=by kernel_rfl
def Bf:List (aG×GM):=("Batch",GM.mk 44 aC kP)::Bw
def QF:=st 55
def YB:Cn:=cn cls fld Bf ["shape","house","place"] ["name_of"] [] []
theorem YW:zj ((aT RU 60).s YB) (z0 QF)=aA QE:=by kernel_rfl
def Bp:List (aG×GM):=("name_at",GM.fn xi)::Bf
def wH:=st 56
def kn:Cn:=cn cls fld Bp ["shape","batch"] ["range"] ["shape","batch"] ["return"]
theorem km:zj ((aT RU 60).s kn) (z0 wH)=aA wR:=by kernel_rfl
def AD:List (aG×GM):=("names_of_batch",GM.fn qm)::Bp
def ke:=st 59
def Qt:Cn:=cn cls fld AD ["shape","house","name","parts"] ["parts_of"] [] []
theorem Q9:zj ((aT RU 60).s Qt) (z0 ke)=aA jW:=by kernel_rfl
def BC:List (aG×GM):=("place_above",GM.fn vk)::AD
def yM:=aV (st 73) 0
def Jh:Cn:=cn cls fld BC ["self","clock"] [] [] []
theorem Jn:zj ((aT RU 60).s Jh) (z0 yM)=aA yU:=by kernel_rfl
def BB:List (aG×GM):=("Seat",GM.mk 46 aD vB)::BC
def ZS:=aV (st 73) 1
def Ke:Cn:=cn cls fld BB ["self","note"] [] [] []
theorem X4:zj ((aT RU 60).s Ke) (z0 ZS)=aA u_:=by kernel_rfl
def Bt:List (aG×GM):=(eD "jot",GM.met 46 "jot" jE)::BB
def FF:aH:=(Mc (L9 (sIx (z0 (aV (st 74) 1)) 0)) 3)
def MF:bJ:=⟨1,((("World.come_up":aG)++".<locals>.")++"<lambda>"),"note",Mh FF,Mi FF,["seat"],(zT 46 jE (eV 1) [(eV 0)]),aF⟩
def sj:List bJ:=[MF]
def Ht:Cn:=cn cls fld Bt [] [] [] []
def AQ (l:bJ):List aG:=(ZQ l.sc).filter λx=>([]:List aG).contains x
theorem N9:hW (λl=>XT (yO Ht l (AQ l)) l=aC/\A_ RU 60 (yO Ht l (AQ l)) l) sj:=⟨⟨by kernel_rfl,.inl ⟨rfl,by kernel_rfl⟩⟩,trivial⟩
def AU:List (aG×GM):=(Zl,GM.kap sj)::Bt
def zw:=aV (st 60) 0
def ZY:Cn:=cn cls fld AU ["self","shape","ahead","stride","keeper","note"] ["is_from_nought","NoTime","NoNote"] [] ["batches"]
theorem uI:zj ((aT RU 60).s ZY) (z0 zw)=aA jl:=by kernel_rfl
def FE:List (aG×GM):=("House",GM.mk 45 aD qo)::AU
def A4:List (aG×GM):=(sw "House",GM.mkd 45 "House" 4 qo)::FE
def vr:=aV (st 60) 8
def yt:Cn:=cn cls fld A4 ["self"] ["Fallen"] [] []
theorem ye:zj ((aT RU 60).s yt) (z0 vr)=aA vt:=by kernel_rfl
def AF:List (aG×GM):=(eD "check_up",GM.met 45 "check_up" qi)::A4
def xD:=aV (st 60) 7
def WW:Cn:=cn cls fld AF ["self"] [] [] []
theorem Wz:zj ((aT RU 60).s WW) (z0 xD)=aA kW:=by kernel_rfl
def AN:List (aG×GM):=(eD "note",GM.met 45 "note" vK)::AF
def jz:=aV (st 60) 15
def Zu:Cn:=cn cls fld AN ["self","lease","mark"] [] [] []
theorem uE:zj ((aT RU 60).s Zu) (z0 jz)=aA jx:=by kernel_rfl
def Ar:List (aG×GM):=(eD "keep",GM.met 45 "keep" qp)::AN
def wi:=aV (st 60) 1
def jB:Cn:=cn cls fld Ar ["self","lease"] ["check_lease"] [] []
theorem jf:zj ((aT RU 60).s jB) (z0 wi)=aA wg:=by kernel_rfl
def Ax:List (aG×GM):=(eD "take_lease",GM.met 45 "take_lease" q9)::Ar
def qJ:=aV (st 60) 9
def vF:Cn:=cn cls fld Ax ["self"] ["NoLease"] [] []
theorem vD:zj ((aT RU 60).s vF) (z0 qJ)=aA qO:=by kernel_rfl
def Br:List (aG×GM):=(eD "check_has_lease",GM.met 45 "check_has_lease" zP)::Ax
def wY:=aV (st 60) 13
def kK:Cn:=cn cls fld Br ["self"] ["place_above","HOUSE_leases"] [] []
theorem kh:zj ((aT RU 60).s kK) (z0 wY)=aA wK:=by kernel_rfl
def Be:List (aG×GM):=(eD "free_place",GM.met 45 "free_place" qr)::Br
def wZ:=aV (st 60) 12
def kR:Cn:=cn cls fld Be ["self","reading","many","least","begin","end","by"] ["is_size","TooMany","is_whole","NoTime","max","FIRST","UNTIL","NoLease","Wait","Batch","HOUSE_leases"] [] []
theorem kQ:zj ((aT RU 60).s kR) (z0 wZ)=aA wU:=by kernel_rfl
def Bd:List (aG×GM):=(eD "next_batch",GM.met 45 "next_batch" zX)::Be
def wm:=aV (st 60) 14
def jP:Cn:=cn cls fld Bd ["self","moment"] ["min"] [] []
theorem jQ:zj ((aT RU 60).s jP) (z0 wm)=aA qx:=by kernel_rfl
def By:List (aG×GM):=(eD "mark_behind",GM.met 45 "mark_behind" qd)::Bd
def wN:=aV (st 60) 11
def kM:Cn:=cn cls fld By ["self","reading","many","batch"] ["name_at"] [] []
theorem kf:zj ((aT RU 60).s kM) (z0 wN)=aA wV:=by kernel_rfl
def A8:List (aG×GM):=(eD "hand_out",GM.met 45 "hand_out" zJ)::By
def zA:=aV (st 60) 2
def Qe:Cn:=cn cls fld A8 ["self","reading","many","batch"] ["names_of_batch"] [] ["batches"]
theorem Qh:zj ((aT RU 60).s Qe) (z0 zA)=aA k8:=by kernel_rfl
def Gu:List (aG×GM):=(eD "ask",GM.met 45 "ask" qG)::A8
def F3:List (aG×GM):=(sw (eD "ask"),GM.metd 45 "ask" 1 (.int 1) qG)::Gu
def FI:List (aG×GM):=("LENGTHS",GM.tbl [("lease",5),("ask",4),("store",4),("take",4),("back",3),("fall",3),("bare",3)])::F3
def F_:List (aG×GM):=("WORD",GM.cst (.int 0))::FI
def FA:List (aG×GM):=("TIME_rows",GM.cst (.int 1))::F_
def FC:List (aG×GM):=("HOLDER",GM.cst (.int 2))::FA
def GA:List (aG×GM):=("HOUSE_rows",GM.cst (.int 3))::FC
def Gs:List (aG×GM):=("SPAN",GM.cst (.int 4))::GA
def AZ:List (aG×GM):=("MANY",GM.cst (.int 3))::Gs
def uD:=st 69
def Kp:Cn:=cn cls fld AZ ["parts"] ["len","isinstance","WORD","str","LENGTHS"] [] []
theorem Kg:zj ((aT RU 60).s Kp) (z0 uD)=aA ZG:=by kernel_rfl
def Bg:List (aG×GM):=("has_form",GM.fn vu)::AZ
def VF:=st 70
def SU:Cn:=cn cls fld Bg ["thing"] ["isinstance","tuple","has_form","is_whole","TIME_rows"] [] []
theorem TC:zj ((aT RU 60).s SU) (z0 VF)=aA Jm:=by kernel_rfl
def AK:List (aG×GM):=("is_row",GM.fn kA)::Bg
def xc:=st 72
def WM:Cn:=cn cls fld AK ["thing"] ["isinstance","dict","len","all"] ["thing"] ["~thing"]
theorem Vk:zj ((aT RU 60).s WM) (z0 xc)=aA xu:=by kernel_rfl
def Aw:List (aG×GM):=("are_clocks",GM.fn j6)::AK
def zS:=aV (st 74) 1
def je:Cn:={(cn cls fld Aw ["self","seat"] ["House"] ["seat"] [] (aA (1,[⟨406,64,406,91⟩]))) with fz:=["seat"]}
theorem yg:zj ((aT RU 60).s {je with fz:=[]}) ((z0 zS).take 0)=aA (qz.take 0):=by kernel_rfl
theorem yX:zj ((aT RU 60).s je) ((z0 zS).drop 0)=aA (qz.drop 0):=by kernel_rfl
def A7:List (aG×GM):=(eD "come_up",GM.met 47 "come_up" zH)::Aw
def xJ:=aV (st 74) 0
def WG:Cn:=cn cls fld A7 ["self","shape","ahead","stride","clocks","holder","seat"] ["are_clocks","NoHolder","Common","Seat"] [] ["~clocks","seats","given"]
theorem Wr:zj ((aT RU 60).s WG) (z0 xJ)=aA qq:=by kernel_rfl
def Bz:List (aG×GM):=("World",GM.mk 47 aD v_)::A7
def vh:=aV (st 74) 3
def xI:Cn:=cn cls fld Bz ["self","row"] ["is_row","NoRow","TIME_rows","Backward","is_holder","HOLDER","NoHolder"] [] []
theorem xW:zj ((aT RU 60).s xI) (z0 vh)=aA vd:=by kernel_rfl
def Bx:List (aG×GM):=(eD "check_row",GM.met 47 "check_row" qA)::Bz
def jh:=aV (st 74) 4
def Zx:Cn:=cn cls fld Bx ["self","row","seat","reading","told"] ["HOLDER","TIME_rows","WORD","MANY","HOUSE_rows","SPAN"] [] []
theorem uG:zj ((aT RU 60).s Zx) (z0 jh)=aA jC:=by kernel_rfl
def A9:List (aG×GM):=(eD "done",GM.met 47 "done" qt)::Bx
def jY:=aV (st 74) 2
def Qo:Cn:=cn cls fld A9 ["self","row","names"] ["TIME_rows"] ["row"] []
theorem Qm:zj ((aT RU 60).s Qo) (z0 jY)=aA j_:=by kernel_rfl
def Bm:List (aG×GM):=(eD "put",GM.met 47 "put" qL)::A9
def jy:=aV (st 74) 5
def Z6:Cn:=cn cls fld Bm ["self"] ["list"] [] []
theorem Zg:zj ((aT RU 60).s Z6) (z0 jy)=aA jI:=by kernel_rfl
def BH:List (aG×GM):=(eD "book",GM.met 47 "book" wy)::Bm
def k6:=st 75
def Qq:Cn:=cn cls fld BH ["highs","high","found","one"] ["sorted","all"] ["one"] ["found"]
theorem Qn:zj ((aT RU 60).s Qq) (z0 k6)=aA kb:=by kernel_rfl
def Ay:List (aG×GM):=("highest_two",GM.fn wh)::BH
def QM:=st 76
def Um:Cn:=cn cls fld Ay ["shape","book","found","highs","place","holder","moment","others"] ["range","len","parts_of","highest_two","max"] ["holder"] ["found"]
theorem U8:zj ((aT RU 60).s Um) (z0 QM)=aA W7:=by kernel_rfl
def At:List (aG×GM):=("back_by",GM.fn ur)::Ay
def yE:=st 78
def J9:Cn:=cn cls fld At ["_law_script","_law_k"] ["len"] [] []
theorem JH:zj ((aT RU 60).s J9) (z0 yE)=aA yN:=by kernel_rfl
def BN:List (aG×GM):=("_law_cell_at",GM.fn wD)::At
def Wj:=st 79
def U2:Cn:=cn cls fld BN ["_law_cell","_law_k","_law_number"] [] [] []
theorem YE:zj ((aT RU 60).s U2) (z0 Wj)=aA W2:=by kernel_rfl
def AC:List (aG×GM):=("_law_mixed",GM.fn ub)::BN
def ZN:=st 80
def X8:Cn:=cn cls fld AC ["_law_cell"] [] [] ["return"]
theorem Kt:zj ((aT RU 60).s X8) (z0 ZN)=aA Zy:=by kernel_rfl
def Ba:List (aG×GM):=("_law_digits",GM.fn vy)::AC
def uy:=st 81
def KC:Cn:=cn cls fld Ba ["_law_source","_law_many","_law_found"] ["_law_mixed"] [] []
theorem X6:zj ((aT RU 60).s KC) (z0 uy)=aA Zj:=by kernel_rfl
def Bq:List (aG×GM):=("_law_next",GM.fn zm)::Ba
def ja:=st 82
def yZ:Cn:=cn cls fld Bq ["_law_source","_law_begin","_law_turns","_law_time","_law_k","_law_reading_here"] ["_law_next","range"] [] ["_law_turns"]
theorem u6:zj ((aT RU 60).s yZ) (z0 ja)=aA j9:=by kernel_rfl
def As:List (aG×GM):=("_law_drawn_clock",GM.fn wa)::Bq
def yS:=st 83
def Vw:Cn:=cn cls fld As ["_law_clock","_law_time","_law_start","_law_turns","_law_found","_law_at","_law_reading_here","_law_runs"] ["int"] [] []
theorem VY:zj ((aT RU 60).s Vw) (z0 yS)=aA yG:=by kernel_rfl
def Bn:List (aG×GM):=("_law_reading",GM.fn wF)::As
def yP:=st 84
def VB:Cn:=cn cls fld Bn ["_law_one","_law_other","_law_begin","_law_end","_law_found","_law_low","_law_time","_law_reading_here"] ["range","_law_reading","max"] [] ["_law_found"]
theorem JL:zj ((aT RU 60).s VB) (z0 yP)=aA yH:=by kernel_rfl
def BA:List (aG×GM):=("_law_apart",GM.fn vp)::Bn
def Z3:=st 85
def JY:Cn:=cn cls fld BA ["_law_world","_law_row","_law_found"] ["HouseError"] [] []
theorem KR:zj ((aT RU 60).s JY) (z0 Z3)=aA Q1:=by kernel_rfl
def AY:List (aG×GM):=("_law_told",GM.fn wj)::BA
def ZF:=st 86
def K5:Cn:=cn cls fld AY ["_law_book","_law_moments","_law_found","_law_k","_law_j"] ["range","len","max"] [] ["_law_found"]
theorem KW:zj ((aT RU 60).s K5) (z0 ZF)=aA Za:=by kernel_rfl
def FK:List (aG×GM):=("_law_back",GM.fn xh)::AY
def qH:=st 87
def Yv:Cn:=cn cls fld FK ["_law_script","_law_source","_law_shape","_law_ahead","_law_begin","_law_holders","_law_clocks","_law_k","_law_holder","_law_made","_law_world","_law_time","_law_cell","_law_row","_law_book","_law_moments","_law_due","_law_told_here","_law_far","_law_one"] ["_law_digits","_law_cell_at","_law_next","enumerate","_law_drawn_clock","dict","World","Shape","_law_told","min","len","_law_back","back_by","max"] ["_law_shape","_law_begin","_law_clocks","_law_time","_law_one"] ["_law_clocks","~_law_clocks","_law_far"]
theorem U5:zj ((aT RU 60).s Yv) (z0 qH)=aA qI:=by kernel_rfl
end NH.K92
namespace NH
open PySem PySem.Spec PyProof.Rows L2
theorem qb{i:Decidable p}(h1:p->A)(h2:¬p->B):iF (decide p) A B:=by
 cases i with
 |isTrue h=>exact h1 h
 |isFalse h=>exact h2 h
theorem kD{i:Decidable p}(h:p)(a:A):iF (decide p) A B:=qb (λ_=>a) λn=>absurd h n
theorem kJ{i:Decidable p}(h:¬p)(b:B):iF (decide p) A B:=qb (λy=>absurd y h) λ_=>b
theorem Xz{i:Decidable p}(h1:p->B)(h2:¬p->A):iF (!decide p) A B:=by
 cases i with
 |isTrue h=>exact h1 h
 |isFalse h=>exact h2 h
theorem Xg{i:Decidable p}(h:p)(b:B):iF (!decide p) A B:=Xz (λ_=>b) λn=>absurd h n
theorem qR(h1:b=aC->A)(h2:b=aD->B):iF b A B:=by
 cases b with
 |true=>exact h1 rfl
 |false=>exact h2 rfl
theorem Mf(h:b=aD)(a:B):iF b A B:=by rw[h];exact a
theorem X7{tg:Tg}{g:Sl->aK->RE (Option T)}{lv:aK->Prop}{τ:Sl}{μ:aK}{Z:Xp}(f:T->Option T){xs:List T}{K:List T->aK->Prop}
  (h:∀x∈xs,∀k:Option T->aK->Prop,k (f x) μ->∃d,ik tg x τ=aA d/\g d μ k Z) (k:K (xs.filterMap f) μ) (l:lv μ:=by trivial):zR tg g lv τ xs μ K Z:=by
 induction xs generalizing K with
 |nil=>exact k
 |cons x r j=>
  unfold zR;obtain⟨d,e,m⟩:=h x d9 (λo b=>lv b/\(match o with
   |some y=>(zR tg g lv τ r b).bind λc a=>RE.ok (y::c) a
   |none=>zR tg g lv τ r b) K Z) (by
    refine⟨l,?_⟩;cases q:f x with
    |none=>
     rw[Al q] at k;exact j (λy i=>h y (dQ _ i)) k
    |some y=>
     rw[Ak q] at k;exact j (K:=λc a=>K (y::c) a) (λy i=>h y (dQ _ i)) k)
  exact⟨d,e,m⟩
theorem ym{tg:Tg}{g:Sl->aK->RE (Option T)}{lv:aK->Prop}{τ:Sl}{μ:aK}{Z:Xp}(f:T->T){xs:List T}{K:List T->aK->Prop}
  (h:∀x∈xs,∀k:Option T->aK->Prop,k (aA (f x)) μ->∃d,ik tg x τ=aA d/\g d μ k Z) (k:K (xs.map f) μ) (a:lv μ:=by trivial):zR tg g lv τ xs μ K Z:=
 X7 (λx=>aA (f x)) h (by rw[ni];exact k) a
theorem QI{tg:Tg}{g:Sl->aK->RE (Option T)}{lv:aK->Prop}{τ:Sl}{Z:Xp}(I:Nat->List T->aK->Prop){xs:List T}{K:List T->aK->Prop}{μ:aK}
  (h0:I 0 [] μ) (h:∀i x ys μ,xs[i]?=aA x->I i ys μ->∀k:Option T->aK->Prop,(∀o d,I (i+1) (match o with|some y=>ys++[y]|none=>ys) d->k o d)->∃j,ik tg x τ=aA j/\g j μ k Z)
  (k:∀ys d,I xs.length ys d->K ys d) (s:∀i ys μ,I i ys μ->lv μ:=by intros;trivial):zR tg g lv τ xs μ K Z:=by
 have go:∀(rest:List T) (i:Nat) (ys:List T) (μ:aK) (K:List T->aK->Prop),xs.drop i=rest->i<=xs.length->I i ys μ->(∀b d,I xs.length (ys++b) d->K b d)->zR tg g lv τ rest μ K Z:=by
  intro rest;induction rest with
  |nil=>
   intro i ys μ K hd t n f;have:i=xs.length:=by
    have:=congrArg iR hd;simp at this;lia
   subst this;exact f [] μ (by simpa using n)
  |cons x r p=>
   intro i ys μ K hd t n f;have q:xs[i]?=aA x:=by
    have:(xs.drop i)[0]?=aA x:=by rw[hd];rfl
    simpa using this
   have c:i<xs.length:=(bH.mp q).1;have e:xs.drop (i+1)=r:=by
    have:(xs.drop i).tail=r:=by rw[hd];rfl
    simpa using this
   unfold zR;refine h i x ys μ q n _ λo d a=>⟨s _ _ _ a,?_⟩;cases o with
   |none=>exact p (i+1) ys d K e c a f
   |some y=>exact p (i+1) (ys++[y]) d _ e c a λb l m=>f (y::b) l (by simpa using m)
 exact go xs 0 [] μ K rfl (f9 _) h0 λb d m=>k b d (by simpa using m)
theorem zL{tg:Tg}{body:Ds}{lv:aK->Prop}{xs:List T}{τ:Sl}{μ:aK}{E:En}(I:Nat->Sl->aK->Prop)(h0:I 0 τ μ)
  (h:∀i x τ μ,xs[i]?=aA x->I i τ μ->∀N:Sl->aK->Prop,(∀τ μ,I (i+1) τ μ->N τ μ)->∃d,ik tg x τ=aA d/\body d μ (E.turn N))
  (k:∀τ μ,I xs.length τ μ->E.nx τ μ) (l:∀i τ μ,I i τ μ->lv μ:=by intros;trivial):f6 tg body lv xs τ μ E:=by
 have go:∀(rest:List T) (i:Nat) (τ:Sl) (μ:aK),xs.drop i=rest->i<=xs.length->I i τ μ->f6 tg body lv rest τ μ E:=by
  intro rest;induction rest with
  |nil=>
   intro i τ μ hd m f;have:i=xs.length:=by
    have:=congrArg iR hd;simp at this;omega
   subst this;exact k τ μ f
  |cons x r j=>
   intro i τ μ hd m f;have g:xs[i]?=aA x:=by
    have:(xs.drop i)[0]?=aA x:=by rw[hd];rfl
    simpa using this
   have c:i<xs.length:=(bH.mp g).1;have e:xs.drop (i+1)=r:=by
    have:(xs.drop i).tail=r:=by rw[hd];rfl
    simpa using this
   exact h i x τ μ g f _ λa b z=>⟨l _ _ _ z,j (i+1) a b e c z⟩
 exact go xs 0 τ μ rfl (f9 _) h0
theorem Yt{body:List Ds}(I:Nat->Sl->aK->Prop)(n:Nat)(h0:I n τ μ)
  (h:∀n τ μ,I n τ μ->∀N:Sl->aK->Prop,(∀m τ μ,m<n->I m τ μ->N τ μ)->c τ μ (λb d=>iF b (qh body τ d (E.turn N)) (E.nx τ d)) (λk fs d=>E.ex k fs τ d)):Wv c body τ μ E:=
 ⟨I,⟨n,h0⟩,λn τ μ f=>h n τ μ f _ λm τ μ a e=>⟨m,a,e⟩⟩
end NH
namespace NH.P
open PySem L2 NH
section
variable {μ:aK}{K:T->aK->Prop}{Z:Xp}
theorem zo(k:K (.bl aC) μ):zU [.int i] μ K Z:=⟨rfl,k⟩
theorem vQ{n:Int}{i:Nat}{x:T}(h:(rangeT n)[i]?=aA x):x=.int i/\(i:Int)<n:=by
 unfold rangeT at h;rw[c8] at h;cases q:(gx n.toNat)[i]? with
 |none=>rw[q] at h;cases h
 |some j=>
  rw[q] at h;obtain⟨a,e⟩:=bH.mp q;have e:i=j:=by simpa using e
  subst e;cases h;simp at a;exact⟨rfl,by omega⟩
theorem vR:(rangeT n).length=n.toNat:=by simp[rangeT]
noncomputable def Cy(z:aG):Bool:=!(oN "abcdefghijklmnopqrstuvwxyz" z 0 (sX "abcdefghijklmnopqrstuvwxyz") 1).isEmpty
noncomputable def nz(z:aG):List aG:=z.cps.toList.map λc=>⟨#[c]⟩
theorem YQ(z:aG):uH z=(nz z).map T.str:=by simp[uH,nz]
theorem RJ(z:aG):(nz z).length=z.length:=by simp[nz,sX]
def wB(z:aG):Bool:=decide (1<=(z.length:Int))&&decide ((z.length:Int)<=8)&&(nz z).all Cy
theorem yu{α:Type}(f:α->Bool):∀xs:List α,cT (xs.map λx=>T.bl (f x))=aA (xs.map f)
 |[]=>rfl
 |x::r=>by simp[cT,yu f r]
theorem w9(c:z.length<=aZ)(q:K (.bl (wB z)) μ):w4 [.str z] μ K Z:=by
 unfold w4;refine⟨rfl,?_⟩;unfold wB at q;refine⟨c,?_⟩;refine qb (λb=>?_) (λb=>?_)
 ·refine Xz (λa=>?_) (λa=>?_)
  ·show (uH z).length<=aZ/\_;rw[YQ];refine⟨by rw[bG,RJ];exact c,?_⟩;refine ym (λx=>match x with|.str y=>.bl (Cy y)|t=>t) (λx d k e=>?_) ?_
   ·obtain⟨y,f,rfl⟩:=cN.mp d;exact⟨_,rfl,e⟩
   ·rw[eO];refine⟨_,yu Cy (nz z),?_⟩;rw[decide_eq_true b,decide_eq_true a] at q;rw[mV];exact q
  ·have q:K (.bl aD) μ:=by simpa[a] using q
   exact q
 ·have q:K (.bl aD) μ:=by simpa[b] using q
  exact q
theorem JQ(a:z.length<=aZ)(h:wB z=b)(q:K (.bl b) μ):w4 [.str z] μ K Z:=w9 a (by rw[h];exact q)
theorem ZI{α:Type}{xs:List α}{k:Int}(h0:0<=k)(h1:k<xs.length):vH xs k=xs[k.toNat]?:=by
 unfold vH U6;rw[if_pos h0,if_pos h1];rfl
theorem UO{α:Type}{xs:List α}{lo hi:Option Int}{x:α}(h:x∈yl xs lo hi):x∈xs:=EC (rK h)
end
section
variable {μ μ1 μ2:aK}{K:T->aK->Prop}{Z:Xp}
def St (μ:aK)(i:Nat):Prop:=∃a b c:Int,μ[i]?=aA (.lst [.int a,.int b,.int c])
structure Up(μ:aK)(i:Nat)(μ':aK):Prop where
 len:μ'.length=μ.length
 ot:∀j,j≠i->μ'[j]?=μ[j]?
 st:St μ' i
theorem Up.trans(a:Up μ i μ1)(b:Up μ1 i μ2):Up μ i μ2:=⟨b.len.trans a.len,λj h=>(b.ot j h).trans (a.ot j h),b.st⟩
theorem aI(h:μ[i]?=aA x):(μ.set i y)[i]?=aA y:=by
 have:=(bH.mp h).1;simp[this]
theorem Up.set(h:μ[i]?=aA x):Up μ i (μ.set i (.lst [.int a,.int b,.int c])):=⟨by simp,λj d=>by rw[cP (cE d)],a,b,c,aI h⟩
theorem zf:(μ++[x])[μ.length]?=aA x:=by rw[fT (bC _)];simp
theorem zk{i:Nat}{x o:MO}(h:μ[i]?=aA o):(μ++[x])[i]?=aA o:=by
 rw[eN (bH.mp h).1];exact h
noncomputable abbrev bO(x y z:Int):T:=.obj 40 [(0,.int x),(1,.int y),(2,.int z)]
theorem qM(k:K (.bl (decide (1<=n))) μ):vf [.int n] μ K Z:=by
 unfold vf;refine⟨rfl,?_⟩;refine zo ?_;exact k
theorem vn(c:1<=x)(b:1<=y)(a:1<=z)(q:K .non [.obj 40 [(0,.int x),(1,.int y),(2,.int z)]]):wW [.mut 0,.int x,.int y,.int z] [.obj 40 []] K Z:=by
 unfold wW;refine⟨rfl,?_⟩;refine qM ?_;refine kD c ?_;refine qM ?_;refine kD b ?_;refine qM ?_;refine Xg a ?_;refine⟨_,_,rfl,by decide,_,_,rfl,(by (show (1:Nat)<900);decide),_,_,rfl,(by (show (2:Nat)<900);decide),?_⟩;exact q
end
section
variable {μ:aK}{K:T->aK->Prop}{Z:Xp}
theorem vN{ns:List Int}{k:Int}(hk:0<=k)(q:∀c,K (.int c) μ):wD [.lst (ns.map T.int),.int k] μ K Z:=by
 unfold wD;refine⟨rfl,?_⟩;refine qb (λh=>?_) (λh=>?_)
 ·have a:k.toNat<ns.length:=by
   rw[bG] at h;omega
  refine⟨.int ns[k.toNat],?_,q _⟩;rw[ZI hk h,c8,eQ a];rfl
 ·exact q _
theorem j4:∀zs:List Int,bN (zs.map T.int)=aA zs
 |[]=>rfl
 |z::r=>by simp[bN,j4 r]
end
section
variable {μ μ1 μ2:aK}{K:T->aK->Prop}{Z:Xp}
theorem Ku{tg:Tg}{g:Sl->aK->RE (Option T)}{lv:aK->Prop}{τ:Sl}{x:T}{r:List T}{K:List T->aK->Prop}(h:∃d,ik tg x τ=aA d/\g d μ (λo μ1=>lv μ1/\(match o with
  |some y=>zR tg g lv τ r μ1 (λys μ2=>K (y::ys) μ2) Z
  |none=>zR tg g lv τ r μ1 K Z)) Z):zR tg g lv τ (x::r) μ K Z:=by
 obtain⟨d,e,h⟩:=h;unfold zR;refine⟨d,e,?_⟩;have:(λ(o:Option T) μ1=>lv μ1/\(match o with
  |some y=>zR tg g lv τ r μ1 (λys μ2=>K (y::ys) μ2) Z
  |none=>zR tg g lv τ r μ1 K Z))=λo μ1=>lv μ1/\(match o with
   |some y=>(zR tg g lv τ r μ1).bind λys μ2=>RE.ok (y::ys) μ2
   |none=>zR tg g lv τ r μ1) K Z:=by
  funext o μ1;cases o<;>rfl
 rw[this] at h;exact h
theorem QV{tg:Tg}{g:Sl->aK->RE (Option T)}{lv:aK->Prop}{τ:Sl}{K:List T->aK->Prop}(h:K [] μ):zR tg g lv τ [] μ K Z:=by
 unfold zR;exact h
structure Sy(y z:Int):Prop where
 y1:1<=y
 y2:y<=10000000000
 z1:1<=z
 z2:z<=10000000000
theorem VP(s:Sy y z)(q:K (.int (x*y*z)) μ):xK [bO x y z] μ K Z:=by
 obtain⟨d,c,b,a⟩:=s;unfold xK;refine⟨rfl,?_⟩;exact⟨.inr ⟨by unfold big;lia,by unfold big;lia⟩,.inr ⟨by unfold big;lia,by unfold big;lia⟩,q⟩
theorem Jr(s:Sy y z)(a:(decide (0<=n)&&decide (n<x*y*z))=b)(q:K (.bl b) μ):ue [bO x y z,.int n] μ K Z:=by
 subst a;unfold ue;refine⟨rfl,?_⟩;refine VP s ?_;unfold qS;refine⟨rfl,?_⟩;refine zo ?_;refine qb (λh=>?_) (λh=>?_)
 ·have q:K (.bl (decide (n<x*y*z))) μ:=by simpa[h] using q
  exact q
 ·have q:K (.bl aD) μ:=by simpa[h] using q
  exact q
theorem Qr(s:Sy y z)(h:(decide (0<=n)&&decide (n<x*y*z))=aC)(q:K .non μ):vM [bO x y z,.int n] μ K Z:=by
 unfold vM;refine⟨rfl,?_⟩;refine Jr s h ?_;exact q
end
section
variable {μ μ1 μ2:aK}{K:T->aK->Prop}{Z:Xp}
structure Gr where
 ho:aG
 h:Int
 f:Int
 u0:Int
 u:Int
 ct:Bool
noncomputable def Gr.L(G:Gr):T:=.tup [.int G.h,.int G.f,.int G.u0]
def Gr.O (G:Gr):MO:=.obj 42 [(5,.str G.ho),(6,G.L),(7,.int G.u),(8,.bl G.ct)]
noncomputable abbrev Gp:=Nat×Gr
abbrev Gp.t(p:Gp):T:=.mut p.1
structure Bk(μ:aK)(c g:Nat)(sh:T)(ps:List Gp):Prop where
 com:μ[c]?=aA (.obj 43 [(9,sh),(10,.mut g)])
 lst:μ[g]?=aA (.lst (ps.map Gp.t))
 at_:∀p∈ps,μ[p.1]?=aA p.2.O
 nd:(ps.map (·.1)).Nodup
structure Ch(S:List Nat)(μ μ':aK):Prop where
 len:μ.length<=μ'.length
 ot:∀i,i<μ.length->i∉S->μ'[i]?=μ[i]?
theorem Ch.refl:Ch S μ μ:=⟨bC _,λ_ _ _=>rfl⟩
theorem Ch.trans(a:Ch S μ μ1)(b:Ch S μ1 μ2):Ch S μ μ2:=⟨cL a.len b.len,λi h n=>(b.ot i (dM h a.len) n).trans (a.ot i h n)⟩
theorem Ch.mono(a:Ch S μ μ1)(h:∀x∈S,x∈d):Ch d μ μ1:=⟨a.len,λi hi n=>a.ot i hi λz=>n (h i z)⟩
theorem Ch.app:Ch [] μ (μ++[x]):=⟨by simp,λi h _=>eN h⟩
theorem Ch.set:Ch [i] μ (μ.set i x):=⟨by simp,λj h n=>by rw[cP];rintro rfl;exact n (by simp)⟩
theorem Ch.get(a:Ch S μ μ1)(h:μ[i]?=aA x)(n:i∉S):μ1[i]?=aA x:=(a.ot i (bH.mp h).1 n).trans h
theorem Bk.ch(B:Bk μ c g d ps)(a:Ch S μ μ1)(h1:c∉S)(h2:g∉S)(e:∀p∈ps,p.1∉S):Bk μ1 c g d ps:=
 ⟨a.get B.com h1,a.get B.lst h2,λp b=>a.get (B.at_ p b) (e p b),B.nd⟩
noncomputable def mt(G:Gr)(b e:Int):Bool:=decide ((if G.f<b then b else G.f)<(if e<G.u then e else G.u))
theorem Ki:mt G b e=aC↔G.f<G.u/\G.f<e/\b<G.u/\b<e:=by
 unfold mt;rw[decide_eq_true_eq];split<;>split<;>lia
theorem GV(h:¬(G.f<G.u/\G.f<e/\b<G.u/\b<e)):mt G b e=aD:=by
 cases q:mt G b e with
 |false=>rfl
 |true=>exact absurd (Ki.mp q) h
theorem VW(h:μ[a]?=aA G.O)(q:K (.bl (mt G b e)) μ):fX [.mut a,.int b,.int e] μ K Z:=by
 unfold fX;refine⟨rfl,_,_,_,h,rfl,_,rfl,_,_,_,h,rfl,?_⟩;exact q
theorem w8{β:Type}{tg:Tg}{g:Sl->aK->RE (Option T)}{lv:aK->Prop}{τ:Sl}(t:β->T)(f:β->Option T){ps:List β}{K:List T->aK->Prop}
  (h:∀p∈ps,∀k:Option T->aK->Prop,k (f p) μ->∃d,ik tg (t p) τ=aA d/\g d μ k Z) (k:K (ps.filterMap f) μ) (i:lv μ:=by trivial):zR tg g lv τ (ps.map t) μ K Z:=by
 induction ps generalizing K with
 |nil=>exact QV k
 |cons x r c=>
  refine Ku ?_;refine h x d9 _ ⟨i,?_⟩;cases q:f x with
  |none=>
   rw[Al q] at k;exact c (λy b=>h y (dQ _ b)) k
  |some y=>
   rw[Ak q] at k;exact c (K:=λe a=>K (y::e) a) (λy b=>h y (dQ _ b)) k
theorem XC:∀{bs:List Gp},(∀p∈bs,μ[p.1]?=aA p.2.O)->fK (bD (ze (eV 0) 6) (eC (.int 1))) μ (bs.map Gp.t) (bs.map (·.2.f))
 |[],_=>trivial
 |p::r,h=>⟨⟨_,_,_,h p d9,rfl,_,rfl,rfl,rfl⟩,XC λq a=>h q (dQ _ a)⟩
theorem uz{bs:List Gp}{m n:Int}{i0:Nat}(h:∀p∈bs,μ[p.1]?=aA p.2.O)(M:bs.length<64)(I:μ[i0]?=aA (.tab 0))(q:∀b,m<=b->(∀p∈bs,mt p.2 b (b+n)=aD)->K (.int b) μ):wk [.lst (bs.map Gp.t),.int m,.int n] μ K Z:=by
 unfold wk;refine⟨rfl,?_⟩;refine⟨⟨i0,I⟩,by rw[bG];exact M,bs.map (·.2.f),XC h,λR l J=>?_⟩;have ez:(bs.map (·.2.f)).zip (bs.map Gp.t)=bs.map λp=>(p.2.f,Gp.t p):=by rw[List.zip_map',]
 rw[ez] at l;obtain⟨d,D,rfl⟩:=VV l rfl;rw[eO,lM] at *;have s:∀p∈d,μ[p.1]?=aA p.2.O:=λp l=>h p (D.mem_iff.mp l);refine zL (λi y k=>∃b o,y=[aA (.lst (bs.map Gp.t)),aA (.int m),aA (.int n),aA (.int b),o]/\k=μ/\m<=b/\∀p∈d.take i,mt p.2 b (b+n)=aD) ⟨m,aF,rfl,rfl,hZ _,by simp⟩ ?_ ?_
 ·rintro i x y k r ⟨b,o,rfl,rfl,B,v⟩ N F;rw[c8] at r;cases c:d[i]? with
  |none=>rw[c] at r;cases r
  |some p=>
   rw[c] at r;cases r;have E:p∈d:=cD c;have L:i<d.length:=(bH.mp c).1;have et:d.take (i+1)=d.take i++[p]:=by rw[gB,c];rfl
   have H:∀g∈d.take i,g.2.f<=p.2.f:=λg a=>by
    obtain⟨j,w⟩:=ii.mp a;rw[List.getElem?_take] at w;split at w
    ·rename_i A;obtain⟨C,Q⟩:=bH.mp w;obtain⟨G,P⟩:=bH.mp c;have:=(mB.mp J) j i C G A;rw[Q,P] at this;exact this
    ·cases w
   refine⟨_,rfl,?_⟩;refine VW (s p E) ?_;refine qR (λe=>?_) (λe=>?_)
   ·refine⟨_,_,_,s p E,rfl,?_⟩;have e:=Ki.mp e;refine F _ _ ⟨p.2.u,_,rfl,rfl,by omega,λg a=>?_⟩;rw[et] at a;rcases b_.mp a with a|a
    ·have C:=v g a;have G:=H g a;refine GV λz=>?_;have:mt g.2 b (b+n)=aC:=Ki.mpr (by omega);rw[C] at this;cases this
    ·rw[bU.mp a];exact GV (by omega)
   ·refine F _ _ ⟨b,_,rfl,rfl,B,λg a=>?_⟩;rw[et] at a;rcases b_.mp a with a|a
    ·exact v g a
    ·rw[bU.mp a];exact e
 ·rintro y k ⟨b,o,rfl,rfl,B,v⟩;refine q b B λp l=>v p ?_;rw[bG,lb (bC _)];exact D.mem_iff.mpr l
end
section
variable {μ:aK}{K:T->aK->Prop}{Z:Xp}
theorem Zn:∀(a:List (Key×T)),(zD z (k_ z t a)).isSome=aC:=by
 intro a;unfold k_;split
 ·rename_i h;induction a with
  |nil=>simp at h
  |cons p r b=>
   rw[dW];unfold zD;by_cases e:p.1=z
   ·rw[if_pos e,if_pos e];rfl
   ·rw[if_neg e,if_neg e];exact b (by simpa[e] using h)
 ·rename_i h;induction a with
  |nil=>simp[zD]
  |cons p r b=>
   have e:p.1≠z:=λe=>h (by simp[e]);rw[rf];unfold zD;rw[if_neg e];exact b λz=>h (by simp only[n_,tX];exact .inr z)
theorem Vb(ne:y≠z):∀(b:List (Key×T)),(zD y (k_ z t b)).isSome=(zD y b).isSome:=by
 intro b;unfold k_;split
 ·rename_i h;clear h;induction b with
  |nil=>rfl
  |cons p r c=>
   rw[dW];unfold zD;by_cases e:p.1=z
   ·rw[if_pos e];have a:p.1≠y:=λd=>ne (d.symm.trans e);rw[if_neg (show ¬(p.1,t).1=y from a),if_neg a];exact c
   ·rw[if_neg e];by_cases a:p.1=y
    ·rw[if_pos a,if_pos a]
    ·rw[if_neg a,if_neg a];exact c
 ·rename_i h;clear h;induction b with
  |nil=>
   show (zD y [(z,t)]).isSome=_;unfold zD;rw[if_neg (λw=>ne w.symm)];rfl
  |cons p r c=>
   rw[rf];unfold zD;by_cases a:p.1=y
   ·rw[if_pos a,if_pos a]
   ·rw[if_neg a,if_neg a];exact c
theorem Tf:(k_ z t d).length<=d.length+1:=by
 unfold k_;split<;>simp
def nF (a:List (Key×T))(h:Int):Bool:=(zD (.inl h) a).isSome
theorem yf:∀(b:List (Key×T)),∃B:Int,∀h,nF b h=aC->h<B
 |[]=>⟨0,λh e=>by cases e⟩
 |(.inl a,t)::r=>by
  obtain⟨B,c⟩:=yf r;refine⟨if a<B then B else a+1,λh e=>?_⟩;unfold nF zD at e;by_cases z:(lE a:Key)=.inl h
  ·have:a=h:=by injection z
   split<;>omega
  ·rw[if_neg z] at e;have:=c h e;split<;>omega
 |(.inr a,t)::r=>by
  obtain⟨B,c⟩:=yf r;refine⟨B,λh e=>?_⟩;unfold nF zD at e;rw[if_neg (by intro z;cases z)] at e;exact c h e
theorem uW{ps:List Gp}{g:Nat}{m n:Int}(A:μ[g]?=aA (.lst (ps.map Gp.t)))(h:∀p∈ps,μ[p.1]?=aA p.2.O)(L:ps.length<1000)
  (q:∀b d,0<=b->(∀p∈ps,p.2.h=b->mt p.2 m (m+n)=aD)->Ch [] μ d->K (.int b) d):ve [.mut g,.int m,.int n] μ K Z:=by
 have H:g<μ.length:=(bH.mp A).1;have E:∀p∈ps,p.1<μ.length:=λp y=>(bH.mp (h p y)).1;unfold ve;refine⟨rfl,_,zk A,?_⟩;refine zL (λi j d=>∃c o,j=[aA (.mut g),aA (.int m),aA (.int n),aA (.mut μ.length),o,aF]/\d=μ++[.dic c]/\c.length<=i/\∀p∈ps.take i,mt p.2 m (m+n)=aC->nF c p.2.h=aC) ⟨[],aF,rfl,rfl,bC _,by simp⟩ ?_ ?_ ?_
 ·rintro i x j d l ⟨c,o,rfl,rfl,G,r⟩ N v;rw[c8] at l;cases f:ps[i]? with
  |none=>rw[f] at l;cases l
  |some p=>
   rw[f] at l;cases l;have C:p∈ps:=cD f;have F:i<ps.length:=(bH.mp f).1;have et:ps.take (i+1)=ps.take i++[p]:=by rw[gB,f];rfl
   refine⟨_,rfl,?_⟩;refine VW (zk (h p C)) ?_;refine qR (λe=>?_) (λe=>?_)
   ·refine⟨_,_,_,zk (h p C),rfl,_,rfl,?_⟩;refine .inr ⟨_,zf,by unfold aZ;lia,?_⟩;have es:(μ++[MO.dic c]).set μ.length (MO.dic (k_ (.inl p.2.h) (.bl aC) c))=μ++[MO.dic (k_ (.inl p.2.h) (.bl aC) c)]:=by
     rw[rE _ _ (bC _)];simp
    rw[es];refine v _ _ ⟨_,_,rfl,rfl,cL Tf (by lia),λu a s=>?_⟩;by_cases z:u.2.h=p.2.h
    ·rw[z];exact Zn _
    ·unfold nF;rw[Vb (λw=>z (by injection w))];rw[et] at a;rcases b_.mp a with a|a
     ·exact r u a s
     ·rw[bU.mp a] at z;exact absurd rfl z
   ·refine v _ _ ⟨c,_,rfl,rfl,by lia,λu a s=>?_⟩;rw[et] at a;rcases b_.mp a with a|a
    ·exact r u a s
    ·rw[bU.mp a,e] at s;cases s
 ·rintro j d ⟨c,o,rfl,rfl,G,r⟩;rw[bG,lb (bC _)] at r;obtain⟨B,J⟩:=yf c;refine Yt (λk j d=>∃b:Int,0<=b/\k=(B-b).toNat/\j=[aA (.mut g),aA (.int m),aA (.int n),aA (.mut μ.length),o,aA (.int b)]/\d=μ++[.dic c]) (B-0).toNat ⟨0,hZ _,rfl,rfl,rfl⟩ ?_;rintro k j d ⟨b,I,rfl,rfl,rfl⟩ N v;refine⟨_,zf,?_⟩;refine qR (λe=>?_) (λe=>?_)
  ·have:=J b e;exact v _ _ _ (show (B-(b+1)).toNat<(B-b).toNat by lia) ⟨b+1,by lia,rfl,rfl,rfl⟩
  ·refine q b _ I (λp y D=>?_) Ch.app;cases z:mt p.2 m (m+n) with
   |false=>rfl
   |true=>
    have:=r p y z;rw[D] at this;unfold nF at this;rw[e] at this;cases this
 ·rintro i j d ⟨c,o,rfl,rfl,_⟩;exact zk A
end
section
variable {μ μ1:aK}{K:T->aK->Prop}{Z:Xp}{c g i0:Nat}{x y z:Int}{ps:List Gp}
theorem V6(q:K (.bl (decide (0<=n)&&decide (n<b))) μ):qS [.int n,.int b] μ K Z:=by
 unfold qS;refine⟨rfl,?_⟩;refine zo ?_;refine qb (λh=>?_) (λh=>?_)
 ·have q:K (.bl (decide (n<b))) μ:=by simpa[h] using q
  exact q
 ·have q:K (.bl aD) μ:=by simpa[h] using q
  exact q
theorem js(h0:0<=n)(h1:n<b)(q:K (.bl aC) μ):qS [.int n,.int b] μ K Z:=V6 (by simpa[h0,h1] using q)
def ZP (y:Int)(t:T):Prop:=t=.non\/∃h:Int,t=.int h/\0<=h/\h<y
theorem Vn(B:Bk μ c g (bO x y z) ps)(d:ho.length<=aZ)(h1:wB ho=aC)(h2:ZP y hs)(e:1<=n)(q:K .non μ):qw [.mut c,.str ho,hs,.int m,.int n] μ K Z:=by
 unfold qw;refine⟨rfl,?_⟩;refine JQ d h1 ?_;have rest:qh (qD.drop 2) [aA (.mut c),aA (.str ho),aA hs,aA (.int m),aA (.int n)] μ (En.fn K Z):=by
  refine qM ?_;refine Xg e ?_;refine zo ?_;exact q
 rcases h2 with rfl|⟨h,rfl,a,b⟩
 ·exact rest
 ·refine⟨_,_,_,B.com,rfl,?_⟩;refine js a b ?_;exact rest
theorem WS(B:Bk μ c g (bO x y z) ps)(i:ps.length<=1000)(q:K (.lst ((ps.filter λp=>decide (p.2.h=h)).map Gp.t)) μ):qv [.mut c,.int h] μ K Z:=by
 unfold qv;refine⟨rfl,_,_,_,B.com,rfl,_,B.lst,by rw[bG];unfold aZ;lia,?_⟩;refine w8 Gp.t (λp=>if p.2.h=h then aA (Gp.t p) else aF) (λp f k a=>?_) ?_ B.lst
 ·refine⟨_,rfl,_,_,_,B.at_ p f,rfl,_,rfl,?_⟩;refine qR (λe=>?_) (λe=>?_)
  ·have e:p.2.h=h:=by simpa using e
   rw[if_pos e] at a;exact a
  ·have e:¬p.2.h=h:=by simpa using e
   rw[if_neg e] at a;exact a
 ·have e:ps.filterMap (λp=>if p.2.h=h then aA (Gp.t p) else aF)=(ps.filter λp=>decide (p.2.h=h)).map Gp.t:=by
   clear q B i;induction ps with
   |nil=>rfl
   |cons p r d=>
    by_cases z:p.2.h=h
    ·rw[Ak (b:=Gp.t p) (by rw[if_pos z]),List.filter_cons_of_pos (by simpa using z),dW,d]
    ·rw[Al (by rw[if_neg z]),List.filter_cons_of_neg (by simpa using z),d]
  rw[e];exact q
theorem Qs(B:Bk μ c g (bO x y z) ps)(k:μ[i0]?=aA (.tab 0))(l:ps.length<64)(h2:ZP y hs)
  (q:∀h b d,0<=h->m<=b->(∀h',hs=.int h'->h=h')->(∀p∈ps,p.2.h=h->mt p.2 b (b+n)=aD)->Ch [] μ d->K (.tup [.int h,.int b,.int (b+n)]) d):qf [.mut c,hs,.int m,.int n] μ K Z:=by
 unfold qf;refine⟨rfl,?_⟩;rcases h2 with rfl|⟨h,rfl,a,b⟩
 ·refine⟨_,_,_,B.com,rfl,?_⟩;refine uW B.lst B.at_ (by lia) λh d r i ch=>?_;exact q h m d r (hZ _) (λ_ e=>by cases e) i ch
 ·refine⟨_,B.com,?_⟩;refine WS B (by lia) ?_;refine uz (i0:=i0) (λp f=>B.at_ p (gN.mp f).1) (om (List.length_filter_le ..) l) k λb o i=>?_;exact q h b μ a o (λh' e=>by cases e;rfl) (λp f j=>i p (gN.mpr ⟨f,by simpa using j⟩)) Ch.refl
theorem OO(B:Bk μ c g (bO x y z) ps)(r:μ[i0]?=aA (.tab 0))(u:ps.length<64)(h0:ho.length<=aZ)(h1:wB ho=aC)(h2:ZP y hs)(A:1<=n)
  (l:∀d,Ch [] μ d->Z 19 [] d)
  (q:∀h b d a,0<=h->h<y->0<=b->b+n<=x->(∀p∈ps,p.2.h=h->mt p.2 b (b+n)=aD)->μ.length<=a->Ch [g] μ d->Bk d c g (bO x y z) (ps++[(a,⟨ho,h,b,b+n,b+n,aD⟩)])->K (.tup [.int h,.int b,.int (b+n)]) d):vT [.mut c,.str ho,hs,.int m,.int n] μ K Z:=by
 unfold vT;refine⟨rfl,_,B.com,?_⟩;refine Vn B h0 h1 h2 A ?_;refine⟨_,B.com,?_⟩;refine Qs B r u h2 λh b f v k s t ch=>?_;have B1:=B.ch ch (by simp) (by simp) (by simp);have j:0<=b:=by
  have:(0:Int)<=(if m<0 then 0 else m):=by split<;>lia
  lia
 refine⟨_,rfl,_,_,_,B1.com,rfl,?_⟩;refine qb (λe=>?_) (λe=>?_)
 ·exact⟨by show (1:Nat)<=aZ;decide,l _ ch⟩
 ·refine⟨_,rfl,_,_,_,B1.com,rfl,?_⟩;refine qb (λC=>?_) (λC=>?_)
  ·exact⟨by show (1:Nat)<=aZ;decide,l _ ch⟩
  ·refine⟨_,_,_,B1.com,rfl,⟨_,B1.lst⟩,?_⟩;have gl:g<f.length:=(bH.mp B1.lst).1;unfold kr;refine⟨rfl,_,_,zf,by show (0:Nat)<900;decide,_,_,aI zf,by show (1:Nat)<900;decide,_,rfl,_,_,aI (aI zf),by show (2:Nat)<900;decide,_,_,aI (aI (aI zf)),by show (3:Nat)<900;decide,rfl,?_⟩;have es:∀(μ:aK) (a b:MO),(μ++[a]).set μ.length b=μ++[b]:=λμ a b=>by rw[rE _ _ (bC _)];simp
   simp only[es];refine⟨_,zk B1.lst,by rw[bG];unfold aZ;lia,?_⟩;refine q h b _ f.length v (by lia) j (by lia) t ch.len ?_ ?_
   ·refine (ch.mono (by simp)).trans ((Ch.app.mono (by simp)).trans Ch.set)
   ·have o:∀p∈ps,p.1≠g/\p.1<f.length:=λp i=>by
     refine⟨λe=>?_,(bH.mp (B1.at_ p i)).1⟩;have:=B1.at_ p i;rw[e,B1.lst] at this;cases this
    have cg:c≠g:=λe=>by
     have:=B1.com;rw[e,B1.lst] at this;cases this
    refine⟨?_,?_,λp i=>?_,?_⟩
    ·rw[cP cg.symm];exact zk B1.com
    ·rw[eM];exact aI (zk B1.lst)
    ·rcases b_.mp i with i|i
     ·rw[cP (o p i).1.symm];exact zk (B1.at_ p i)
     ·rw[bU.mp i,cP (by show g≠f.length;lia)];exact zf
    ·rw[eM,lN];refine⟨B1.nd,by simp,λa w b k e=>?_⟩;obtain⟨p,i,rfl⟩:=cN.mp w;have k:b=f.length:=by simpa using k
     have:=(o p i).2;lia
end
section
variable {μ:aK}{K:T->aK->Prop}{Z:Xp}{c:Nat}{x y z:Int}
theorem LM{a b c d e f:Int}:dG [.int a,.int b,.int c] [.int d,.int e,.int f]=aA (decide (a=d)&&(decide (b=e)&&decide (c=f))):=by
 have h:∀i j:Int,(i==j)=decide (i=j):=λi j=>by
  by_cases z:i=j<;>simp[z]
 simp[dG,eqT,h]
theorem Vz{h f u:Int}(h0:0<=h)(h1:h<y)(f0:0<=f)(fu:f<u)(ux:u<=x)(q:K (.bl aC) μ):xA [bO x y z,.tup [.int h,.int f,.int u]] μ K Z:=by
 unfold xA;refine⟨rfl,_,rfl,?_⟩;refine js h0 h1 ?_;refine⟨_,rfl,?_⟩;refine zo ?_;refine⟨_,rfl,?_⟩;refine zo ?_;refine⟨_,rfl,?_⟩;refine kD f0 ?_;refine⟨_,rfl,?_⟩;refine kD fu ?_;have q:K (.bl (decide (u<=x))) μ:=by rw[decide_eq_true ux];exact q
 exact q
end
section
variable {μ:aK}{K:T->aK->Prop}{Z:Xp}{x y z:Int}
theorem uT(q:K .non (μ++[.obj 43 [(9,d),(10,.mut (μ.length+1))],.lst []])):vc [.mut μ.length,d] (μ++[.obj 43 []]) K Z:=by
 have es:∀(μ:aK) (a b:MO),(μ++[a]).set μ.length b=μ++[b]:=λμ a b=>by rw[rE _ _ (bC _)];simp
 unfold vc;refine⟨rfl,_,_,zf,by show (0:Nat)<900;decide,?_⟩;rw[es];refine⟨_,_,zk zf,by show (1:Nat)<900;decide,?_⟩;have e:∀(o a b:MO),((μ++[o])++[a]).set μ.length b=μ++[b,a]:=λo a b=>by
  rw[List.append_assoc,rE _ _ (bC _)];simp
 rw[e];have c:(μ++[MO.obj 43 [(9,d)]]).length=μ.length+1:=by simp
 show K .non (μ++[MO.obj 43 (YN 10 (T.mut (μ++[MO.obj 43 [(9,d)]]).length) [(9,d)]),.lst []]);rw[c];exact q
theorem vl(h0:0<=n)(h1:n<b)(q:K .non μ):qZ [.int n,.int b] μ K Z:=by
 unfold qZ;refine⟨rfl,?_⟩;refine js h0 h1 ?_;exact q
theorem uF(c:0<=m)(i:m<x)(h0:0<=h)(h1:h<y)(k0:0<=k)(k1:k<z):0<=(m*y+h)*z+k/\(m*y+h)*z+k<x*y*z/\((m*y+h)*z+k) / z=m*y+h/\(m*y+h) / y=m/\(m*y+h) % y=h:=by
 have a:((m*y+h)*z+k) / z=m*y+h/\((m*y+h)*z+k) % z=k:=(Ex (by lia)).mpr ⟨by rw[Dl z,Dk],k0,k1⟩;have b:(m*y+h) / y=m/\(m*y+h) % y=h:=(Ex (by lia)).mpr ⟨by rw[Dl y,Dk],h0,h1⟩;have g:0<=m*y:=tK c (by lia);have f:0<=(m*y+h)*z:=tK (by lia) (by lia);have e:m*y+y<=x*y:=by
  have:=mC (show m+1<=x by lia) (show 0<=y by lia);rw[Dc,Db] at this;exact this
 have d:(m*y+h)*z+z<=x*y*z:=by
  have:=mC (show m*y+h+1<=x*y by lia) (show 0<=z by lia);rw[Dc,Db] at this;exact this
 exact⟨by lia,by lia,a.1,b.1,b.2⟩
end
section
variable {μ:aK}{K:T->aK->Prop}{Z:Xp}{x y z:Int}{i:Nat}{sh kp bt:T}{ah sd:Int}
noncomputable abbrev Ls:=Int×Int×Int
def gE:Option Ls->T
 |none=>.non
 |some l=>.tup [.int l.1,.int l.2.1,.int l.2.2]
noncomputable def fR:Option Int->T
 |none=>.non
 |some m=>.int m
abbrev hsF(sh:T)(ah sd:Int)(kp:T)(l:Option Ls)(m n:Option Int)(bt:T)(fl:Bool):List (Nat×T):=[(9,sh),(14,.int ah),(15,.int sd),(16,kp),(6,gE l),(17,fR m),(18,fR n),(19,bt),(20,.bl fl)]
abbrev eR(sh:T)(ah sd:Int)(kp:T)(l:Option Ls)(m n:Option Int)(bt:T)(fl:Bool):MO:=.obj 45 (hsF sh ah sd kp l m n bt fl)
theorem L4:∀(l l':Option Ls),eqT (gE l) (gE l')=aA (decide (l=l'))
 |none,aF=>by simp[gE,eqT]
 |none,aA b=>by simp[gE,eqT]
 |some a,aF=>by simp[gE,eqT]
 |some (a,b,c),aA (d,e,f)=>by
  show eqT (.tup _) (.tup _)=_;simp only[eqT];rw[LM];simp[Bool.decide_and]
theorem M5:∀(l l':Option Int),eqT (fR l) (fR l')=aA (decide (l=l'))
 |none,aF=>by simp[fR,eqT]
 |none,aA b=>by simp[fR,eqT]
 |some a,aF=>by simp[fR,eqT]
 |some a,aA b=>by
  by_cases h:a=b
  ·simp[fR,eqT,h]
  ·simp[fR,eqT,h]
theorem Rt:dG [gE l,fR m] [gE l',fR m']=aA (decide (l=l')&&decide (m=m')):=by
 simp[dG,L4,M5]
theorem TB:wI [gE l,fR m]<=40:=by
 cases l<;>cases m<;>simp[gE,fR,wI,xV]
variable {l:Option Ls}{m n:Option Int}
theorem jr(h:μ[i]?=aA (eR sh ah sd kp l m n bt aD))(q:K .non μ):qi [.mut i] μ K Z:=by
 unfold qi;refine⟨rfl,_,_,_,h,rfl,?_⟩;exact q
theorem SA(h:μ[i]?=aA (eR sh ah sd kp l m n bt aD))(q:K (.tup [gE l,fR m]) μ):vK [.mut i] μ K Z:=by
 unfold vK;refine⟨rfl,_,_,_,h,rfl,_,_,_,h,rfl,?_⟩;exact q
theorem Ze(h0:0<=h)(h1:h<y)(f0:0<=f)(fu:f<u)(ux:u<=x)(q:K .non μ):vj [bO x y z,.tup [.int h,.int f,.int u]] μ K Z:=by
 unfold vj;refine⟨rfl,?_⟩;refine Vz h0 h1 f0 fu ux ?_;exact q
structure gJ(x y:Int)(l:Ls):Prop where
 h0:0<=l.1
 h1:l.1<y
 f0:0<=l.2.1
 fu:l.2.1<l.2.2
 ux:l.2.2<=x
theorem Zz(h:0<=a)(q:K (.bl aC) μ):qj [.int a] μ K Z:=by
 unfold qj;refine⟨rfl,?_⟩;refine zo ?_;have q:K (.bl (decide (0<=a))) μ:=by rw[decide_eq_true h];exact q
 exact q
structure Hz(x y z:Int):Prop where
 x1:1<=x
 y1:1<=y
 y2:y<=1000000
 z1:1<=z
 z2:z<=1000000
theorem Hz.sy(s:Hz x y z):Sy y z:=⟨s.y1,by have:=s.y2;lia,s.z1,by have:=s.z2;lia⟩
theorem yF(s:Hz x y z)(h0:0<=k)(h1:k<x*y*z)(q:K (.tup [.int (k / z / y),.int (k / z % y),.int (k % z)]) μ):jG [bO x y z,.int k] μ K Z:=by
 obtain⟨e,d,c,b,a⟩:=id s;unfold jG;refine⟨rfl,?_⟩;refine Qr s.sy (by rw[decide_eq_true h0,decide_eq_true h1];rfl) ?_;refine⟨by lia,⟨by lia,by lia⟩,⟨by lia,by lia⟩,by lia,?_⟩;exact q
noncomputable def Cp(y z h k:Int):Int:=if k / z % y<h then k / z / y*z else if h<k / z % y then (k / z / y+1)*z else k / z / y*z+k % z+1
theorem uu(s:Hz x y z)(h0:0<=k)(h1:k<x*y*z)(q:K (.int (Cp y z h k)) μ):vk [bO x y z,.int h,.int k] μ K Z:=by
 obtain⟨f,d,c,b,a⟩:=id s;unfold vk;refine⟨rfl,?_⟩;refine yF s h0 h1 ?_;refine⟨_,rfl,?_⟩;unfold Cp at q;refine qb (λe=>?_) (λe=>?_)
 ·rw[if_pos e] at q;refine⟨_,rfl,.inr ⟨by unfold big;lia,by unfold big;lia⟩,?_⟩;exact q
 ·rw[if_neg e] at q;refine⟨_,rfl,?_⟩;refine qb (λe=>?_) (λe=>?_)
  ·rw[if_pos e] at q;refine⟨_,rfl,.inr ⟨by unfold big;lia,by unfold big;lia⟩,?_⟩;exact q
  ·rw[if_neg e] at q;refine⟨_,rfl,.inr ⟨by unfold big;lia,by unfold big;lia⟩,_,rfl,?_⟩;exact q
noncomputable abbrev gp(z r ah e:Int):Int:=(e-1) / z-(r+ah)
noncomputable abbrev Bi(h b e:Int):T:=.obj 44 [(11,.int h),(12,.int b),(13,.int e)]
end
section
variable {μ:aK}{K:T->aK->Prop}{Z:Xp}{x y z:Int}
noncomputable def nA(y z h p:Int):Int:=(p / z*y+h)*z+p % z
def gX (y z h b k:Int):List Int:=(gx k.toNat).map λ(j:Nat)=>nA y z h (b+j)
theorem X0(s:Hz x y z)(b:0<=d)(a:d<x)(h0:0<=h)(h1:h<y)(k0:0<=k)(k1:k<z)(q:K (.int ((d*y+h)*z+k)) μ):um [bO x y z,.int d,.int h,.int k] μ K Z:=by
 obtain⟨i,g,f,e,c⟩:=id s;unfold um;refine⟨rfl,?_⟩;refine vl b a ?_;refine vl h0 h1 ?_;refine vl k0 k1 ?_;refine⟨.inr ⟨by unfold big;lia,by unfold big;lia⟩,.inr ⟨by unfold big;lia,by unfold big;lia⟩,?_⟩;exact q
theorem place_lt(s:Hz x y z)(h1:p<x*z):p / z<x:=by
 have:=s.z1;exact rD (by lia) h1
theorem Zv(s:Hz x y z)(p0:0<=p)(p1:p<x*z)(h0:0<=h)(h1:h<y)(q:K (.int (nA y z h p)) μ):xi [bO x y z,.int h,.int p] μ K Z:=by
 obtain⟨e,d,c,b,a⟩:=id s;unfold xi;refine⟨rfl,⟨by lia,by lia⟩,by lia,?_⟩;exact X0 s (rq p0 (by lia)) (place_lt s p1) h0 h1 (mZ _ (by lia)) (nr _ (by lia)) q
theorem xX(q:∀a b,K (.mut μ.length) (μ++[.lst [.int a,.int b,.int 0]])):vy [.int c] μ K Z:=by
 unfold vy;refine⟨rfl,by decide,by decide,?_⟩;have e:=mZ c (show (2:Int)≠0 by decide);have d:=nr c (show (0:Int)<2 by decide);refine⟨.inr ⟨by unfold big;lia,by unfold big;lia⟩,?_⟩;exact q _ _
theorem TQ(q:∀v:Int,K (.int v) μ):ub [.int c,.int k] μ K Z:=by
 unfold ub;refine⟨rfl,by decide,.inl (by unfold big;decide),.inr (by unfold big;decide),by decide,by decide,?_⟩;have b:∀a:Int,0<=a % 2147483629/\a % 2147483629<2147483629:=λa=>⟨mZ _ (by decide),nr _ (by decide)⟩;have bb:=λa=>b a;refine⟨.inl ⟨by have:=(b ((c % 2147483629+69621*k+1)*48271));unfold big;omega,by have:=(b ((c % 2147483629+69621*k+1)*48271));unfold big;omega⟩,by decide,by decide,.inl ⟨by have:=b ((c % 2147483629+69621*k+1)*48271 % 2147483629*((c % 2147483629+69621*k+1)*48271 % 2147483629 / 1009+69621));unfold big;omega,by have:=b ((c % 2147483629+69621*k+1)*48271 % 2147483629*((c % 2147483629+69621*k+1)*48271 % 2147483629 / 1009+69621));unfold big;omega⟩,by decide,by decide,?_⟩;generalize d:(c % 2147483629+69621*k+1)*48271 % 2147483629*((c % 2147483629+69621*k+1)*48271 % 2147483629 / 1009+69621) % 2147483629*((c % 2147483629+69621*k+1)*48271 % 2147483629*((c % 2147483629+69621*k+1)*48271 % 2147483629 / 1009+69621) % 2147483629 / 907+16807+k)=A;refine⟨.inl ⟨by have:=b A;unfold big;omega,by have:=b A;unfold big;omega⟩,by decide,?_⟩;exact q _
end
section
variable {μ:aK}{K:T->aK->Prop}{Z:Xp}{x y z h:Int}{c:Nat}
theorem YY(hk:b<=e):jD b e 1=(gx (e-b).toNat).map λ(j:Nat)=>T.int (b+j):=by
 unfold jD;by_cases c:b<e
 ·rw[if_pos c];have:(e-b-1) / 1+1=e-b:=by rw[pZ];lia
  rw[this];simp
 ·rw[if_neg c];have:(e-b).toNat=(0:Int).toNat:=by lia
  rw[this];rfl
theorem JK(s:Hz x y z)(f:x*z<1000000000000000000000000000000000000000000000000000000000000)(g:0<=b)(be:b<=e)(k2:e-b<=1000)(ex:e<=x*z)(h0:0<=h)(h1:h<y)(q:K (.mut μ.length) (μ++[.lst ((gX y z h b (e-b)).map T.int)])):qm [bO x y z,Bi h b e] μ K Z:=by
 unfold qm;refine⟨rfl,⟨⟨by lia,by lia⟩,⟨by lia,by lia⟩⟩,?_⟩;rw[YY be];refine⟨by rw[bG,t_];unfold aZ;lia,?_⟩;refine w8 (λ(j:Nat)=>T.int (b+j)) (λ(j:Nat)=>aA (T.int (nA y z h (b+j)))) (λj c d a=>?_) ?_ trivial
 ·have c:j<(e-b).toNat:=n7.mp c;refine⟨_,rfl,?_⟩;exact Zv s (by lia) (by lia) h0 h1 a
 ·rw[ni];unfold gX at q;rw[eO] at q;exact q
end
section
variable {μ:aK}{K:T->aK->Prop}{Z:Xp}{x y z:Int}{i:Nat}{kp bt:T}{ah sd:Int}{m n:Option Int}{a:Ls}{k h:Int}
def Yd(y z h:Int)(n m:Option Int):Int:=match n with
 |some k=>Cp y z h k
 |none=>(match m with|none=>0|some a=>(a+1)*z)
theorem JI(s:Hz x y z)(ho:μ[i]?=aA (eR (bO x y z) ah sd kp (aA a) m n bt aD))(b:∀k,n=aA k->0<=k/\k<x*y*z)(q:K (.int (Yd y z a.1 n m)) μ):qr [.mut i] μ K Z:=by
 obtain⟨g,f,e,d,c⟩:=id s;unfold qr;refine⟨rfl,_,_,_,ho,rfl,?_⟩;cases n with
 |some k=>
  refine⟨_,_,_,ho,rfl,_,_,_,ho,rfl,_,rfl,_,_,_,ho,rfl,?_⟩;exact uu s (b k rfl).1 (b k rfl).2 q
 |none=>
  refine⟨_,_,_,ho,rfl,?_⟩;cases m with
  |none=>exact q
  |some h=>
   refine⟨_,_,_,ho,rfl,_,_,_,ho,rfl,.inr ⟨by unfold big;lia,by unfold big;lia⟩,?_⟩;exact q
end
section
variable {μ:aK}{K:T->aK->Prop}{Z:Xp}{x y z:Int}{i:Nat}{kp bt:T}{ah sd:Int}{l:Option Ls}{m n:Option Int}{a:Ls}
noncomputable def sA(a b:Int):Int:=if b<a then b else a
def Ii (x sd:Int)(m:Option Int)(a:Int):Int:=match m with
 |none=>sA (a+sd) (x-1)
 |some v=>if a<=v then v else sA (a+sd) (x-1)
theorem RT(ho:μ[i]?=aA (eR (bO x y z) ah sd kp l m n bt aD))(q:K (.int (Ii x sd m d)) μ):qd [.mut i,.int d] μ K Z:=by
 unfold qd;refine⟨rfl,_,_,_,ho,rfl,?_⟩;have fin:∀a:Sl,a=[aA (.mut i),aA (.int d)]->K (.int (sA (d+sd) (x-1))) μ->qh (qx.drop 1) a μ (En.fn K Z):=λa e q=>by
  subst e;refine⟨_,_,_,ho,rfl,_,_,_,ho,rfl,?_⟩;exact q
 cases m with
 |none=>exact fin _ rfl q
 |some b=>
  refine⟨_,_,_,ho,rfl,?_⟩;have q:K (.int (if d<=b then b else sA (d+sd) (x-1))) μ:=q;refine qb (λe=>?_) (λe=>?_)
  ·rw[if_pos e] at q;refine⟨_,_,_,ho,rfl,?_⟩;exact q
  ·rw[if_neg e] at q;exact fin _ rfl q
end
section
variable {μ:aK}{K:T->aK->Prop}{Z:Xp}{x y z:Int}{i:Nat}{kp bt:T}{ah sd:Int}{m n:Option Int}{a:Ls}{r k h:Int}
def zz (y z:Int)(a:Ls)(n m:Option Int)(r:Int):Int:=if Yd y z a.1 n m<(if a.2.1<r then r else a.2.1)*z then (if a.2.1<r then r else a.2.1)*z else Yd y z a.1 n m
theorem T2(s:Hz x y z)(h:μ[i]?=aA (eR (bO x y z) ah sd kp (aA a) m n bt aD))(g:∀k,n=aA k->0<=k/\k<x*y*z)(k1:1<=k)(k2:k<=z)
  (f:a.2.2*z<zz y z a n m r+k->Z 18 [] μ)
  (d:zz y z a n m r+k<=a.2.2*z->0<gp z r ah (zz y z a n m r+k)->(gp z r ah (zz y z a n m r+k)).natAbs.log2<1920/\Z 21 [(29,.int (gp z r ah (zz y z a n m r+k)))] μ)
  (c:zz y z a n m r+k<=a.2.2*z->gp z r ah (zz y z a n m r+k)<=0->K (Bi a.1 (zz y z a n m r) (zz y z a n m r+k)) μ) :
  zX [.mut i,.int r,.int k] μ K Z:=by
 obtain⟨q,p,o,l,j⟩:=id s;unfold zX;refine⟨rfl,?_⟩;refine qM ?_;rw[decide_eq_true k1];refine⟨_,_,_,h,rfl,?_⟩;refine kJ (by lia) ?_;refine zo ?_;refine⟨_,h,?_⟩;unfold zP;refine⟨rfl,_,_,_,h,rfl,_,_,_,h,rfl,_,rfl,_,_,_,h,rfl,.inr ⟨by unfold big;lia,by unfold big;lia⟩,_,h,?_⟩;refine JI s h g ?_;refine⟨_,_,_,h,rfl,_,rfl,_,_,_,h,rfl,.inr ⟨by unfold big;lia,by unfold big;lia⟩,?_⟩;refine qb (λe=>?_) (λe=>?_)
 ·exact⟨by show (1:Nat)<=aZ;decide,f e⟩
 ·have e:zz y z a n m r+k<=a.2.2*z:=by
   have:¬a.2.2*z<zz y z a n m r+k:=e;lia
  refine⟨_,_,_,h,rfl,⟨by lia,by lia⟩,_,_,_,h,rfl,?_⟩;refine qb (λb=>?_) (λb=>?_)
  ·exact d e b
  ·refine⟨_,_,_,h,rfl,_,rfl,rfl,?_⟩;unfold kP;refine⟨rfl,_,_,rfl,by show (0:Nat)<900;decide,_,_,rfl,by show (1:Nat)<900;decide,_,_,rfl,by show (2:Nat)<900;decide,rfl,_,rfl,rfl,?_⟩;refine c e ?_;have b:¬0<gp z r ah (zz y z a n m r+k):=b;lia
theorem uh(s:Hz x y z)(ok:gJ x y a):0<=zz y z a n m r:=by
 obtain⟨g,f,d,c,b⟩:=id s;have h:=ok.f0;have w:0<=(if a.2.1<r then r else a.2.1)*z:=tK (by split<;>lia) (by lia);unfold zz;by_cases e:Yd y z a.1 n m<(if a.2.1<r then r else a.2.1)*z
 ·rw[if_pos e];exact w
 ·rw[if_neg e];exact mT w (Int.not_lt.mp e)
end
section
variable {μ:aK}{K:T->aK->Prop}{Z:Xp}{x y z:Int}{i si:Nat}{sh bt ck hs kt:T}{ah sd:Int}{l l':Option Ls}{m m' n:Option Int}{a:Ls}{r k h:Int}
abbrev Cr(l:Option Ls)(m:Option Int):T:=.tup [gE l,fR m]
noncomputable abbrev qK(ck hs kt:T):MO:=.obj 46 [(21,ck),(11,hs),(22,kt)]
abbrev fZ(si:Nat):T:=YI 0 1 [.mut si]
theorem OJ(h:μ[si]?=aA (qK ck hs kt))(q:K .non (μ.set si (qK ck hs t))):jE [.mut si,t] μ K Z:=by
 unfold jE;refine⟨rfl,?_⟩;exact⟨_,_,h,by show (3:Nat)<900;decide,q⟩
theorem M4(ho:μ[i]?=aA (eR sh ah sd (fZ si) l m n bt aD))(c:μ[si]?=aA (qK ck hs kt))
  (j:l'=l->m'=m->K .non μ)
  (h:∀d,Ch [i,si] μ d->d.length=μ.length->d[i]?=aA (eR sh ah sd (fZ si) l' m' n bt aD)->d[si]?=aA (qK ck hs (Cr l' m'))->K .non d) :
  qp [.mut i,gE l',fR m'] μ K Z:=by
 have a:si≠i:=λw=>by rw[w,ho] at c;cases c
 unfold qp;refine⟨rfl,_,ho,?_⟩;refine SA ho ?_;refine⟨TB,_,Rt,?_⟩;refine qR (λe=>?_) (λe=>?_)
 ·simp only[cI,decide_eq_true_eq] at e;exact j e.1 e.2
 ·refine⟨_,_,ho,by show (9:Nat)<900;decide,?_⟩;have g:=aI (y:=eR sh ah sd (fZ si) l m n bt aC) ho;have f:(μ.set i (eR sh ah sd (fZ si) l m n bt aC))[si]?=aA (qK ck hs kt):=by rw[cP (cE a)];exact c
  refine⟨_,_,_,g,rfl,⟨0,(1,_),[.mut si]⟩,⟨rfl,rfl⟩,_,f,?_⟩;refine OJ f ?_;have b:((μ.set i (eR sh ah sd (fZ si) l m n bt aC)).set si (qK ck hs (Cr l' m')))[i]?=aA (eR sh ah sd (fZ si) l m n bt aC):=by rw[cP a];exact g
  have k:=aI (y:=qK ck hs (Cr l' m')) f;refine⟨_,_,b,by show (9:Nat)<900;decide,_,_,aI b,by show (9:Nat)<900;decide,_,_,aI (aI b),by show (9:Nat)<900;decide,?_⟩;refine h _ (((((Ch.set.mono (by simp)).trans (Ch.set.mono (by simp))).trans (Ch.set.mono (by simp))).trans (Ch.set.mono (by simp))).trans (Ch.set.mono (by simp))) (by simp) (aI (aI (aI b))) ?_;rw[cP (cE a),cP (cE a),cP (cE a)];exact k
theorem G0(ho:μ[i]?=aA (eR sh ah sd (fZ si) l m n bt aD))(a:μ[si]?=aA (qK ck hs kt))
  (q:∀d g,Ch [i,si] μ d->d.length=μ.length->d[i]?=aA (eR sh ah sd (fZ si) l' m' n bt aD)->d[si]?=aA (qK ck hs g)->K .non d) :
  qp [.mut i,gE l',fR m'] μ K Z:=
 M4 ho a (λh f=>q μ kt Ch.refl rfl (by rw[h,f];exact ho) a) λd ch b e c=>q d _ ch b e c
theorem N3(ho:μ[i]?=aA (eR (bO x y z) ah sd (fZ si) l m n bt aD))(b:μ[si]?=aA (qK ck hs kt))(ok:gJ x y a)
  (q:∀d g,Ch [i,si] μ d->d.length=μ.length->d[i]?=aA (eR (bO x y z) ah sd (fZ si) (aA a) m n bt aD)->d[si]?=aA (qK ck hs g)->K .non d) :
  q9 [.mut i,gE (aA a)] μ K Z:=by
 unfold q9;refine⟨rfl,_,ho,?_⟩;refine jr ho ?_;refine⟨_,_,_,ho,rfl,?_⟩;refine Ze ok.h0 ok.h1 ok.f0 ok.fu ok.ux ?_;refine⟨_,ho,_,_,_,ho,rfl,?_⟩;exact G0 ho b q
theorem NP{v:Int}(h0:0<v)(h1:v<1000000000000000000):v.natAbs.log2<1920:=by
 have a:v.natAbs<2 ^ 60:=by
  have:(2:Nat) ^ 60=1152921504606846976:=by decide
  omega
 rw[Dd (by omega)];exact dM a (Nat.pow_le_pow_right (by decide) (by omega))
abbrev sB(x y z sd:Int)(a:Ls)(n m:Option Int)(r k:Int):Int:=Ii x sd m ((zz y z a n m r+k-1) / z)
abbrev mD(y z:Int)(a:Ls)(n m:Option Int)(r k:Int):Int:=nA y z a.1 (zz y z a n m r+k-1)
theorem MP(s:Hz x y z)(xb:x<=1000000000000000)(rb:-1000000000000000<=r)(ok:gJ x y a)(ho:μ[i]?=aA (eR (bO x y z) ah sd (fZ si) (aA a) m n bt aD))(f:μ[si]?=aA (qK ck hs kt))(A:∀k,n=aA k->0<=k/\k<x*y*z)(k1:1<=k)(k2:k<=z)(L:0<=ah)
  (t:a.2.2*z<zz y z a n m r+k->Z 18 [] μ) (p:zz y z a n m r+k<=a.2.2*z->0<gp z r ah (zz y z a n m r+k)->∀v,Z 21 [(29,v)] μ)
  (q:zz y z a n m r+k<=a.2.2*z->gp z r ah (zz y z a n m r+k)<=0->∀d g,Ch [i,si] μ d->d.length=μ.length->d[i]?=aA (eR (bO x y z) ah sd (fZ si) (aA a) (aA (sB x y z sd a n m r k)) (aA (mD y z a n m r k)) bt aD)->d[si]?=aA (qK ck hs g)->K (Bi a.1 (zz y z a n m r) (zz y z a n m r+k)) d) :
  zJ [.mut i,.int r,.int k] μ K Z:=by
 obtain⟨I,H,G,F,E⟩:=id s;have bn:=uh (n:=n) (m:=m) (r:=r) s ok;have o:=ok.ux;have C:=ok.h0;have B:=ok.h1;have J:a.2.2*z<=x*z:=mC o (by lia);have b:zz y z a n m r+k<=a.2.2*z->0<gp z r ah (zz y z a n m r+k)->(gp z r ah (zz y z a n m r+k)).natAbs.log2<1920:=λl j=>by
  have M:(zz y z a n m r+k-1) / z<x:=rD (by lia) (by lia);exact NP j (by show (zz y z a n m r+k-1) / z-(r+ah)<_;lia)
 unfold zJ;refine⟨rfl,_,ho,?_⟩;refine jr ho ?_;refine⟨_,ho,?_⟩;refine T2 s ho A k1 k2 t (λe0 e=>⟨b e0 e,p e0 e _⟩) λl j=>?_;refine⟨_,ho,_,_,_,ho,rfl,_,ho,_,_,_,ho,rfl,⟨by lia,by lia⟩,?_⟩;refine RT ho ?_;refine G0 (l':=aA a) (m':=aA (sB x y z sd a n m r k)) ho f λd g ch u h D=>?_;refine⟨_,_,_,h,rfl,?_⟩;refine Zv s (by lia) (by lia) C B ?_;refine⟨_,_,h,by show (9:Nat)<900;decide,?_⟩;have c:si≠i:=λw=>by rw[w,ho] at f;cases f
 refine q l j _ g (ch.trans (Ch.set.mono (by simp))) (by simp[u]) (aI h) ?_;rw[cP (cE c)];exact D
theorem Rs(ho:μ[i]?=aA (eR (bO x y z) ah sd (fZ si) aF m n bt aD))(k1:1<=k)(k2:k<=z)(a:Z 18 [] μ):zJ [.mut i,.int r,.int k] μ K Z:=by
 unfold zJ;refine⟨rfl,_,ho,?_⟩;refine jr ho ?_;refine⟨_,ho,?_⟩;unfold zX;refine⟨rfl,?_⟩;refine qM ?_;rw[decide_eq_true k1];refine⟨_,_,_,ho,rfl,?_⟩;refine kJ (by lia) ?_;refine zo ?_;refine⟨_,ho,?_⟩;unfold zP;refine⟨rfl,_,_,_,ho,rfl,?_⟩;exact⟨by show (1:Nat)<=aZ;decide,a⟩
def Gq (x y:Int)(l:Option Ls):Prop:=∀a,l=aA a->gJ x y a
theorem Ma(s:Hz x y z)(xb:x<=1000000000000000)(rb:-1000000000000000<=r)(ok:Gq x y l)(zb:z<=10000000)(O:k<=1000)(ho:μ[i]?=aA (eR (bO x y z) ah sd (fZ si) l m n bt aD))(f:μ[si]?=aA (qK ck hs kt))(B:∀k,n=aA k->0<=k/\k<x*y*z)(k1:1<=k)(k2:k<=z)(C:0<=ah)
  (o:(∀a,l=aA a->a.2.2*z<zz y z a n m r+k)->Z 18 [] μ) (A:∀a,l=aA a->zz y z a n m r+k<=a.2.2*z->0<gp z r ah (zz y z a n m r+k)->∀v,Z 21 [(29,v)] μ)
  (q:∀a,l=aA a->zz y z a n m r+k<=a.2.2*z->gp z r ah (zz y z a n m r+k)<=0->∀d g j u,Ch [i,si] μ d->μ.length<=j->μ.length<=u->j≠u->d[i]?=aA (eR (bO x y z) ah sd (fZ si) (aA a) (aA (sB x y z sd a n m r k)) (aA (mD y z a n m r k)) (.mut u) aD)->d[u]?=aA (.lst [])->d[si]?=aA (qK ck hs g)->d[j]?=aA (.lst ((gX y z a.1 (zz y z a n m r) k).map T.int))->K (.mut j) d) :
  qG [.mut i,.int r,.int k] μ K Z:=by
 obtain⟨L,I,H,G,F⟩:=id s;unfold qG;refine⟨rfl,_,ho,?_⟩;cases l with
 |none=>exact Rs ho k1 k2 (o λa e=>by cases e)
 |some a=>
  have ok:=ok a rfl;have bn:=uh (n:=n) (m:=m) (r:=r) s ok;have t:=ok.ux;have M:a.2.2*z<=x*z:=mC t (by lia);have J:x*z<=1000000000000000*10000000:=Int.mul_le_mul xb zb (by lia) (by lia);have c:si≠i:=λw=>by rw[w,ho] at f;cases f
  refine MP s xb rb ok ho f B k1 k2 C (λh=>o λQ e=>by cases e;exact h) (A a rfl) λE D d g ch N b p=>?_;have P:=(bH.mp b).1;have cl:=(bH.mp p).1;refine⟨_,_,zk b,by show (9:Nat)<900;decide,_,_,_,aI (zk b),rfl,?_⟩;refine JK s (by lia) bn (by lia) (by lia) (by lia) ok.h0 ok.h1 ?_;rw[show zz y z a n m r+k-zz y z a n m r=k by lia];refine q a rfl E D _ g _ _ (((ch.trans (Ch.app.mono (by simp))).trans (Ch.set.mono (by simp))).trans (Ch.app.mono (by simp))) (by simp;lia) (by lia) (by simp) (zk (aI (zk b))) ?_ ?_ zf
  ·refine zk ?_;rw[cP (by lia)];exact zf
  ·refine zk ?_;rw[cP (cE c)];exact zk p
end
section
variable {μ μ1 μ2:aK}{K:T->aK->Prop}{Z:Xp}
noncomputable abbrev Tn:=Int×Int×Bool
def qc(p:Tn):T:=.tup [.int p.1,.int p.2.1,.bl p.2.2]
def oP (ts:List Tn):Prop:=ts.Pairwise (λa b=>a.1<b.1)
structure Cl(μ:aK)(i:Nat)(μ':aK)(ts:List Tn):Prop where
 hi:i<μ.length
 len:μ'.length=μ.length+1
 ot:∀j,j≠i->j<μ.length->μ'[j]?=μ[j]?
 st:St μ' i
 ls:μ'[μ.length]?=aA (.lst (ts.map qc))
theorem Cl.up(c:Cl μ i μ1 ts)(u:Up μ1 i μ2):Cl μ i μ2 ts:=
 ⟨c.hi,u.len.trans c.len,λj h1 h2=>(u.ot j h1).trans (c.ot j h1 h2),u.st,(u.ot _ (gU c.hi)).trans c.ls⟩
theorem Cl.app(c:Cl μ i μ1 ts):Cl μ i (μ1.set μ.length (.lst (ts.map qc++[qc p]))) (ts++[p]):=by
 obtain⟨a,b,d,e⟩:=c.st;have hi:=c.hi;refine⟨c.hi,by rw[D_];exact c.len,λj h1 h2=>?_,⟨a,b,d,?_⟩,?_⟩
 ·rw[cP (by lia)];exact c.ot j h1 h2
 ·rw[cP (by lia)];exact e
 ·rw[eM];exact aI c.ls
theorem XY{ts:List Tn}{k:Int}(h0:0<=k)(h1:k<ts.length):vH (ts.map qc) k=aA (qc (ts[k.toNat]'(by lia))):=by
 rw[ZI h0 (by simpa using h1),c8,eQ (by lia)];rfl
def zO(start:Int)(ts:List Tn)(a:Int):Int:=match ts.reverse.find? (λp=>decide (p.1<=a)) with
 |some p=>p.2.1+(if p.2.2 then a-p.1 else 0)
 |none=>start+a
theorem X_{α:Type}{f:α->Bool}:∀{l:List α} {n:Nat} {p:α},l[n]?=aA p->f p=aC->(∀q∈l.take n,f q=aD)->l.find? f=aA p
 |[],_,_,h,_,_=>by simp at h
 |x::r,0,p,h,b,_=>by
  have h:aA x=aA p:=h;cases h;simp[Dz,b]
 |x::r,n+1,p,h,b,c=>by
  have d:=c x (by simp);have:=X_ (l:=r) (n:=n) (p:=p) h b λq a=>c q (by simp[a]);simp[Dz,d,this]
abbrev iY(start:Int)(ts:List Tn):MO:=.obj 41 [(3,.int start),(4,.lst (ts.map qc))]
theorem vG{start:Int}(h:μ[i]?=aA (iY start ts))(q:K (.int (zO start ts d)) μ):wc [.mut i,.int d] μ K Z:=by
 unfold wc;refine⟨rfl,?_⟩;refine zo ?_;refine⟨_,_,_,h,rfl,?_⟩;show f6 _ _ _ (ts.map qc).reverse _ _ _;rw[←Ed];refine zL (λn r f=>f=μ/\(∀p∈ts.reverse.take n,decide (p.1<=d)=aD)/\∃o,r=[aA (.mut i),aA (.int d),o]) ⟨rfl,by simp,_,rfl⟩ ?_ ?_
 ·rintro n x r f k ⟨rfl,m,o,rfl⟩ N t;rw[c8] at k;cases j:ts.reverse[n]? with
  |none=>rw[j] at k;cases k
  |some p=>
   rw[j] at k;cases k;refine⟨_,rfl,_,rfl,?_⟩;refine qb (λg=>?_) (λg=>?_)
   ·have e:zO start ts d=p.2.1+(if p.2.2 then d-p.1 else 0):=by
     unfold zO;rw[X_ j (decide_eq_true g) m]
    rw[e] at q;refine⟨_,rfl,_,rfl,?_⟩;obtain⟨a,b,c⟩:=p;cases c with
    |true=>exact⟨_,rfl,q⟩
    |false=>exact q
   ·refine t _ _ ⟨rfl,λs l=>?_,_,rfl⟩;rw[gB,j] at l;rcases b_.mp l with z|z
    ·exact m s z
    ·have z:s=p:=by simpa using z
     rw[z];exact decide_eq_false g
 ·rintro r f ⟨rfl,m,o,rfl⟩;have e:zO start ts d=start+d:=by
   unfold zO;have:ts.reverse.find? (λp=>decide (p.1<=d))=aF:=by
    rw[List.find?_eq_none];intro p j;have:=m p (by rw[bG,rc];exact j);simpa using this
   rw[this]
  rw[e] at q;exact⟨_,_,_,h,rfl,q⟩
theorem KU(q:K (.bl aC) μ):ua [qc p] μ K Z:=by
 unfold ua;refine⟨rfl,_,rfl,?_⟩;refine zo ?_;refine⟨_,rfl,?_⟩;refine zo ?_;exact⟨_,rfl,q⟩
theorem yz:∀(n:Nat),cT (lR n (T.bl aC))=aA (lR n aC)
 |0=>rfl
 |n+1=>by simp[List.replicate_succ,cT,yz n]
theorem y0{α:Type}(xs:List α):∃bs,cT (xs.map λ_=>T.bl aC)=aA bs/\bs.all id=aC:=by
 rw[List.map_const'];exact⟨_,yz _,by simp⟩
theorem W_{j:Nat}{ts:List Tn}(a:μ[j]?=aA (.lst (ts.map qc)))(h:oP ts)(m:ts.length<=40)(q:K (.bl aC) μ):jK [.mut j] μ K Z:=by
 unfold jK;refine⟨rfl,_,a,_,a,by rw[bG];unfold aZ;lia,?_⟩;refine ym (λ_=>.bl aC) (λx f k c=>?_) ?_ a
 ·obtain⟨p,_,rfl⟩:=cN.mp f;exact⟨_,rfl,KU c⟩
 obtain⟨bs,e,d⟩:=y0 (ts.map qc);refine⟨bs,e,?_⟩;refine Mf (by rw[d];rfl) ?_;refine⟨_,a,⟨by decide,by rw[bG];unfold mF;lia⟩,?_⟩;have b:(jD 1 (((ts.map qc).length:Nat):Int) 1).length<=40:=by
  unfold jD;rw[bG,t_,bG];split<;>lia
 refine⟨cL b (by decide),?_⟩;refine ym (λ_=>.bl aC) (λx f k c=>?_) ?_
 ·unfold jD at f;obtain⟨n,g,rfl⟩:=cN.mp f;have g:=n7.mp g;rw[bG] at g;have nG:n+1<ts.length:=by split at g<;>lia
  have e:(1:Int)+n*1-1=n:=by lia
  have d:(1:Int)+n*1=((n+1:Nat):Int):=by lia
  refine⟨_,rfl,?_⟩;have l:vH (ts.map qc) (1+(n:Int)*1-1)=aA (qc ts[n]):=by
   rw[e,XY (by lia) (by lia)];simp
  have i:vH (ts.map qc) (1+(n:Int)*1)=aA (qc ts[n+1]):=by
   rw[d,XY (by lia) (by lia)];simp
  refine⟨_,_,a,l,_,rfl,_,_,a,i,_,rfl,?_⟩;have:=mB.mp h n (n+1) (by lia) nG (lL n);have c:k (aA (.bl (decide (ts[n].1<ts[n+1].1)))) μ:=by rw[decide_eq_true this];exact c
  exact c
 obtain⟨bs,e,d⟩:=y0 (jD 1 (((ts.map qc).length:Nat):Int) 1);refine⟨bs,e,?_⟩;have q:K (.bl (bs.all id)) μ:=by rw[d];exact q
 exact q
theorem Zt:∀{μ:List MO},(μ++[x]).set μ.length y=μ++[y]
 |[]=>rfl
 |m::μ=>congrArg (m::·) (Zt (μ:=μ))
theorem Qb{j:Nat}{start:Int}{ts:List Tn}(a:μ[j]?=aA (.lst (ts.map qc)))(b:oP ts)(c:ts.length<=40)(q:K .non (μ++[iY start ts])):wO [.mut μ.length,.int start,.mut j] (μ++[.obj 41 []]) K Z:=by
 unfold wO;refine⟨rfl,?_⟩;refine zo ?_;refine W_ (zk a) b c ?_;refine⟨_,_,zf,by decide,?_⟩;rw[Zt];refine⟨_,zk a,_,_,zf,(by (show (1:Nat)<900);decide),?_⟩;rw[Zt];exact q
end
section
variable {μ:aK}{x y z:Int}{ah sd:Int}
structure Hr where
 ho:aG
 s:Nat
 c:Nat
 h:Nat
 st:Int
 ts:List Tn
 l:Option Ls
 m:Option Int
 n:Option Int
 bt:T
 kt:T
abbrev Hr.seat(u:Hr):MO:=qK (.mut u.c) (.mut u.h) u.kt
abbrev Hr.house(x y z ah sd:Int)(u:Hr):MO:=eR (bO x y z) ah sd (fZ u.s) u.l u.m u.n u.bt aD
abbrev yq(x y z ah sd:Int)(cm g d:Nat)(a:T):MO:=.obj 47 [(9,bO x y z),(14,.int ah),(15,.int sd),(23,.mut cm),(24,.mut g),(25,a),(26,.mut d)]
abbrev kY(u:Hr):Key×T:=(.inr u.ho,.mut u.s)
structure dA(μ:aK)(w cm gr g d:Nat)(x y z ah sd:Int)(now:T)(us:List Hr)(rs:List T)(ps:List Gp):Prop where
 wo:μ[w]?=aA (yq x y z ah sd cm g d now)
 bk:Bk μ cm gr (bO x y z) ps
 gv:μ[g]?=aA (.lst rs)
 dc:μ[d]?=aA (.dic (us.map kY))
 se:∀u∈us,μ[u.s]?=aA u.seat
 cl:∀u∈us,μ[u.c]?=aA (iY u.st u.ts)
 hs:∀u∈us,μ[u.h]?=aA (u.house x y z ah sd)
 n1:(us.map (·.s)).Nodup
 n2:(us.map (·.h)).Nodup
 gg:g≠gr
variable {w cm gr g d:Nat}{now:T}{us:List Hr}{rs:List T}{ps:List Gp}
theorem zQ{i j:Nat}{a b:MO}(h1:μ[i]?=aA a)(h2:μ[j]?=aA b)(n:a≠b):i≠j:=λe=>by
 subst e;rw[h1] at h2;exact n (bT h2)
theorem vI{f:Hr->Nat}(n:(us.map f).Nodup){i j:Nat}{u v:Hr}(hi:us[i]?=aA u)(c:us[j]?=aA v)(e:f u=f v):i=j:=by
 have g:(us.map f)[i]?=aA (f u):=by rw[c8,hi];rfl
 have d:(us.map f)[j]?=aA (f u):=by rw[c8,c,e];rfl
 obtain⟨a,ea⟩:=bH.mp g;obtain⟨b,eb⟩:=bH.mp d;rcases Nat.lt_trichotomy i j with h|h|h
 ·exact absurd (ea.trans eb.symm) (mB.mp n i j a b h)
 ·exact h
 ·exact absurd (eb.trans ea.symm) (mB.mp n j i b a h)
theorem map_set{α:Type}{f:Hr->α}{i:Nat}{u v:Hr}(hi:us[i]?=aA u)(e:f v=f u):(us.set i v).map f=us.map f:=by
 rw[List.map_set,e];exact fV (by rw[c8,hi];rfl)
theorem dA.upd{k:aK}{i:Nat}{u v:Hr}(W:dA μ w cm gr g d x y z ah sd now us rs ps)(hi:us[i]?=aA u)(ch:Ch [u.h,u.s] μ k)(h1:v.ho=u.ho)(h2:v.s=u.s)(B:v.c=u.c)(r:v.h=u.h)(A:v.st=u.st)(t:v.ts=u.ts)
  (gh:k[u.h]?=aA (v.house x y z ah sd)) (C:k[u.s]?=aA v.seat):dA k w cm gr g d x y z ah sd now (us.set i v) rs ps:=by
 have n:u∈us:=cD hi;have m:=W.hs u n;have hs:=W.se u n;have out:∀{j:Nat} {a:MO},μ[j]?=aA a->a≠u.house x y z ah sd->a≠u.seat->k[j]?=aA a:=λ{j a} e n1 n2=>ch.get e (by
  simp only[cC,iz,or_false,not_or];exact⟨zQ e m n1,zQ e hs n2⟩)
 have mem:∀{q:Hr},q∈us.set i v->q=v\/∃j,j≠i/\us[j]?=aA q:=λ{q} l=>by
  obtain⟨j,b⟩:=ii.mp l;by_cases e:j=i
  ·subst e;rw[nl (bH.mp hi).1] at b;exact .inl (bT b).symm
  ·rw[cP (cE e)] at b;exact .inr ⟨j,e,b⟩
 refine⟨out W.wo (λe=>by cases e) (λe=>by cases e),W.bk.ch ch ?_ ?_ λp o=>?_,out W.gv (λe=>by cases e) (λe=>by cases e),?_,λq l=>?_,λq l=>?_,λq l=>?_,by rw[map_set hi h2];exact W.n1,by rw[map_set hi r];exact W.n2,W.gg⟩
 ·simp only[cC,iz,or_false,not_or];exact⟨zQ W.bk.com m (λe=>by cases e),zQ W.bk.com hs (λe=>by cases e)⟩
 ·simp only[cC,iz,or_false,not_or];exact⟨zQ W.bk.lst m (λe=>by cases e),zQ W.bk.lst hs (λe=>by cases e)⟩
 ·simp only[cC,iz,or_false,not_or];exact⟨zQ (W.bk.at_ p o) m (λe=>by cases e),zQ (W.bk.at_ p o) hs (λe=>by cases e)⟩
 ·rw[map_set hi (f:=kY) (by unfold kY;rw[h1,h2])];exact out W.dc (λe=>by cases e) (λe=>by cases e)
 ·rcases mem l with rfl|⟨j,ne,b⟩
  ·rw[h2];exact C
  ·refine ch.get (W.se q (cD b)) ?_;simp only[cC,iz,or_false,not_or];exact⟨zQ (W.se q (cD b)) m (λe=>by cases e),λe=>ne (vI W.n1 b hi e)⟩
 ·rcases mem l with rfl|⟨j,ne,b⟩
  ·rw[B,A,t];exact out (W.cl u n) (λe=>by cases e) (λe=>by cases e)
  ·exact out (W.cl q (cD b)) (λe=>by cases e) (λe=>by cases e)
 ·rcases mem l with rfl|⟨j,ne,b⟩
  ·rw[r];exact gh
  ·refine ch.get (W.hs q (cD b)) ?_;simp only[cC,iz,or_false,not_or];exact⟨λe=>ne (vI W.n2 b hi e),zQ (W.hs q (cD b)) hs (λe=>by cases e)⟩
theorem dA.ch0(W:dA μ w cm gr g d x y z ah sd now us rs ps)(ch:Ch [] μ j):dA j w cm gr g d x y z ah sd now us rs ps:=
 ⟨ch.get W.wo (by simp),W.bk.ch ch (by simp) (by simp) (by simp),ch.get W.gv (by simp),ch.get W.dc (by simp),λu a=>ch.get (W.se u a) (by simp),λu a=>ch.get (W.cl u a) (by simp),λu a=>ch.get (W.hs u a) (by simp),W.n1,W.n2,W.gg⟩
theorem dA.book{b:aK}{c:List Gp}(W:dA μ w cm gr g d x y z ah sd now us rs ps)(ch:Ch [gr] μ b)(B:Bk b cm gr (bO x y z) c):dA b w cm gr g d x y z ah sd now us rs c:=by
 have out:∀{j:Nat} {a:MO},μ[j]?=aA a->(∀l,a≠.lst l)->b[j]?=aA a:=λ{j a} e n=>ch.get e (by
  simp only[cC,iz,or_false];exact zQ e W.bk.lst (n _))
 exact⟨out W.wo (λ_ e=>by cases e),B,ch.get W.gv (by simp[W.gg]),out W.dc (λ_ e=>by cases e),λu f=>out (W.se u f) (λ_ e=>by cases e),λu f=>out (W.cl u f) (λ_ e=>by cases e),λu f=>out (W.hs u f) (λ_ e=>by cases e),W.n1,W.n2,W.gg⟩
end
section
variable {μ:aK}{K:T->aK->Prop}{Z:Xp}{x y z:Int}{ah sd:Int}{w cm gr g d:Nat}{now:T}{us:List Hr}{rs:List T}{ps:List Gp}{t n:Int}{ho:aG}{hs:T}
theorem Il{α:Type}{xs:List α}{j:Nat}{v:α}(h:xs[j]?=aA v):vH xs (j:Int)=aA v:=by
 obtain⟨a,e⟩:=bH.mp h;unfold vH U6;rw[if_pos (by lia),if_pos (by lia)];simpa using h
theorem LN{a b:T}{r:List T}:vH (a::b::r) 1=aA b:=Il (j:=1) rfl
theorem r6{a b c:T}{r:List T}:vH (a::b::c::r) 2=aA c:=Il (j:=2) rfl
theorem R6(q:K (.bl aC) μ):vu [.tup [.str "lease",a,b,c,e]] μ K Z:=by
 unfold vu;refine⟨rfl,_,rfl,_,rfl,?_⟩;exact q
theorem Th(q:K (.bl aC) μ):vu [.tup [.str "ask",a,b,c]] μ K Z:=by
 unfold vu;refine⟨rfl,_,rfl,_,rfl,?_⟩;exact q
theorem O5(q:K (.bl aC) μ):kA [.tup [.str "lease",.int t,b,c,e]] μ K Z:=by
 unfold kA;refine⟨rfl,?_⟩;refine R6 ?_;refine⟨_,rfl,?_⟩;exact zo q
theorem PR(q:K (.bl aC) μ):kA [.tup [.str "ask",.int t,b,c]] μ K Z:=by
 unfold kA;refine⟨rfl,?_⟩;refine Th ?_;refine⟨_,rfl,?_⟩;exact zo q
theorem ZR:∀{us:List Hr} {i:Nat} {u:Hr},us[i]?=aA u->(us.map (·.ho)).Nodup->zD (.inr u.ho) (us.map kY)=aA (.mut u.s)
 |[],_,_,h,_=>by cases h
 |v::r,0,u,h,_=>by
  cases h;show zD _ (kY v::_)=_;unfold zD;rw[if_pos rfl]
 |v::r,i+1,u,h,n=>by
  have h:r[i]?=aA u:=h;rw[dW,lV] at n;show zD _ (kY v::r.map kY)=_;unfold zD;rw[if_neg (λe=>n.1 (cN.mpr ⟨u,cD h,(i7 e).symm⟩))];exact ZR h n.2
def XI(now:T)(t:Int):Prop:=now=.non\/∃s:Int,now=.int s/\s<=t
theorem xx{i:Nat}{u:Hr}{a:T}{r:List T}(W:dA μ w cm gr g d x y z ah sd now us rs ps)(hi:us[i]?=aA u)(nd:(us.map (·.ho)).Nodup)(c:XI now t)(h1:u.ho.length<=aZ)(h2:wB u.ho=aC)(er:a=.tup (.str ho::.int t::.str u.ho::r))
  (b:∀(K:T->aK->Prop) (Z:Xp),K (.bl aC) μ->kA [a] μ K Z) (q:K .non μ):qA [.mut w,a] μ K Z:=by
 unfold qA;refine⟨rfl,?_⟩;refine b _ _ ?_;subst er;refine⟨_,_,_,W.wo,rfl,?_⟩;rcases c with rfl|⟨s,rfl,e⟩
 ·refine⟨_,r6,?_⟩;refine w9 h1 ?_;rw[h2];refine⟨_,r6,_,_,_,W.wo,rfl,_,W.dc,?_⟩;rw[ZR hi nd];exact q
 ·refine⟨_,LN,_,_,_,W.wo,rfl,?_⟩;refine kJ (by lia) ?_;refine⟨_,r6,?_⟩;refine w9 h1 ?_;rw[h2];refine⟨_,r6,_,_,_,W.wo,rfl,_,W.dc,?_⟩;rw[ZR hi nd];exact q
end
section
variable {μ μ1 μ2:aK}{K:T->aK->Prop}{Z:Xp}{x y z:Int}{ah sd:Int}{w cm gr g d i0:Nat}{now:T}{us:List Hr}{rs:List T}{ps:List Gp}{t n k:Int}{ho:aG}{hs:T}{i:Nat}{u:Hr}
structure Wn(x y z ah:Int):Prop where
 s:Hz x y z
 xb:x<=1000000000000000
 zb:z<=10000000
 a0:0<=ah
structure fL(x y z:Int)(u:Hr):Prop where
 h1:u.ho.length<=aZ
 h2:wB u.ho=aC
 ok:Gq x y u.l
 nm:∀k,u.n=aA k->0<=k/\k<x*y*z
structure sJ(v u:Hr):Prop where
 ho:v.ho=u.ho
 s:v.s=u.s
 h:v.h=u.h
 st:v.st=u.st
 ts:v.ts=u.ts
abbrev Hr.rd(u:Hr)(t:Int):Int:=zO u.st u.ts t
abbrev A3(wd:aG)(t:Int)(ho:aG)(k:Int):T:=.tup [.str wd,.int t,.str ho,.int k]
abbrev Cu(wd:aG)(t:Int)(ho:aG)(hs:T)(n:Int):T:=.tup [.str wd,.int t,.str ho,hs,.int n]
theorem MD{a:Ls}{r:Int}(s:Hz x y z)(ok:gJ x y a){n m:Option Int}(k1:1<=k)(C:zz y z a n m r+k<=a.2.2*z):0<=mD y z a n m r k/\mD y z a n m r k<x*y*z:=by
 obtain⟨A,w,v,u,t⟩:=id s;have bn:=uh (n:=n) (m:=m) (r:=r) s ok;have l:=ok.h0;have j:=ok.h1;have b:=ok.ux;have B:a.2.2*z<=x*z:=mC b (by lia);generalize i:zz y z a n m r+k-1=p at *;have f:0<=p:=by lia
 have p1:p<x*z:=by lia
 have d:0<=p / z:=rq f (by lia);have c:p / z<x:=rD (by lia) p1;have h:=mZ p (show z≠0 by lia);have g:=nr p (show 0<z by lia);have e:mD y z a n m r k=(p / z*y+a.1)*z+p % z:=by show nA y z a.1 (zz y z a n m r+k-1)=_;rw[i];rfl
 rw[e];obtain⟨q,o,_⟩:=uF (z:=z) d c l j h g;exact⟨q,o⟩
theorem S6 {wd:aG} (hw:wd="ask") (N:Wn x y z ah) (W:dA μ w cm gr g d x y z ah sd now us rs ps) (hi:us[i]?=aA u) (nd:(us.map (·.ho)).Nodup) (H:fL x y z u) (rb:-1000000000000000<=u.rd t) (k1:1<=k) (k2:k<=z) (A:k<=1000)
  (p:(∀a,u.l=aA a->a.2.2*z<zz y z a u.n u.m (u.rd t)+k)->Z 18 [] μ) (o:∀a,u.l=aA a->zz y z a u.n u.m (u.rd t)+k<=a.2.2*z->0<gp z (u.rd t) ah (zz y z a u.n u.m (u.rd t)+k)->∀v,Z 21 [(29,v)] μ)
  (q:∀a,u.l=aA a->zz y z a u.n u.m (u.rd t)+k<=a.2.2*z->gp z (u.rd t) ah (zz y z a u.n u.m (u.rd t)+k)<=0->∀r v j,dA r w cm gr g d x y z ah sd now (us.set i v) rs ps->fL x y z v->sJ v u->v.l=u.l->Ch [u.h,u.s] μ r->μ.length<=j->r[j]?=aA (.lst ((gX y z a.1 (zz y z a u.n u.m (u.rd t)) k).map T.int))->K (.mut j) r) :
  qt [.mut w,A3 wd t u.ho k] μ K Z:=by
 have b:=cD hi;unfold qt;refine⟨rfl,_,_,_,W.wo,rfl,_,rfl,_,_,.inl W.dc,ZR hi nd,_,_,_,W.se u b,rfl,_,W.cl u b,_,rfl,?_⟩;refine vG (W.cl u b) ?_;refine⟨_,rfl,?_⟩;refine kD hw ?_;refine⟨_,_,_,W.se u b,rfl,_,W.hs u b,_,rfl,?_⟩;refine Ma N.s N.xb rb H.ok N.zb A (W.hs u b) (W.se u b) H.nm k1 k2 N.a0 p o λa ea f E r e j F ch C G ne gh gb D gj=>?_;refine q a ea f E r {u with l:=aA a,m:=aA (sB x y z sd a u.n u.m (u.rd t) k),n:=aA (mD y z a u.n u.m (u.rd t) k),bt:=.mut F,kt:=e} j (W.upd hi ch rfl rfl rfl rfl rfl rfl gh D) ⟨H.h1,H.h2,λI c=>by cases c;exact H.ok a ea,λB c=>?_⟩ ⟨rfl,rfl,rfl,rfl,rfl⟩ ea.symm ch C gj;have c:aA (mD y z a u.n u.m (u.rd t) k)=aA B:=c;cases c;exact MD N.s (H.ok a ea) k1 f
theorem Sd {wd:aG} (hw:wd="lease") (N:Wn x y z ah) (W:dA μ w cm gr g d x y z ah sd now us rs ps) (hi:us[i]?=aA u) (nd:(us.map (·.ho)).Nodup) (H:fL x y z u) (F:μ[i0]?=aA (.tab 0)) (I:ps.length<64) (h2:ZP y hs) (J:1<=n)
  (E:∀j,Ch [] μ j->Z 19 [] j)
  (q:∀h b j v a,0<=h->h<y->0<=b->b+n<=x->(∀p∈ps,p.2.h=h->mt p.2 b (b+n)=aD)->dA j w cm gr g d x y z ah sd now (us.set i v) rs (ps++[(a,⟨u.ho,h,b,b+n,b+n,aD⟩)])->fL x y z v->sJ v u->v.l=aA (h,b,b+n)->Ch [gr,u.h,u.s] μ j->K (.lst []) j) :
  qt [.mut w,Cu wd t u.ho hs n] μ K Z:=by
 have c:=cD hi;unfold qt;refine⟨rfl,_,_,_,W.wo,rfl,_,rfl,_,_,.inl W.dc,ZR hi nd,_,_,_,W.se u c,rfl,_,W.cl u c,_,rfl,?_⟩;refine vG (W.cl u c) ?_;refine⟨_,rfl,?_⟩;refine kJ (by rw[hw];decide) ?_;refine⟨_,rfl,?_⟩;refine kJ (by rw[hw];decide) ?_;refine⟨_,rfl,?_⟩;refine kJ (by rw[hw];decide) ?_;refine⟨_,rfl,?_⟩;refine kD hw ?_;refine⟨_,_,_,W.se u c,rfl,_,W.hs u c,_,_,_,W.wo,rfl,_,W.bk.com,_,rfl,_,rfl,_,rfl,?_⟩;refine OO W.bk F I H.h1 H.h2 h2 J E λh b D a r o C A G al ch B=>?_;have m:=W.book ch B;have ok:gJ x y (h,b,b+n):=⟨r,o,C,by show b<b+n;lia,A⟩;refine N3 (a:=(h,b,b+n)) (m.hs u c) (m.se u c) ok λf k e O gh L=>?_;exact q h b f {u with l:=aA (h,b,b+n),kt:=k} a r o C A G (m.upd hi e rfl rfl rfl rfl rfl rfl gh L) ⟨H.h1,H.h2,λP M=>by cases M;exact ok,H.nm⟩ ⟨rfl,rfl,rfl,rfl,rfl⟩ rfl ((ch.mono (by simp)).trans (e.mono (by simp)))
end
section
variable {μ:aK}{K:T->aK->Prop}{Z:Xp}{x y z:Int}{ah sd:Int}{w cm gr g d i0:Nat}{now:T}{us:List Hr}{rs:List T}{ps:List Gp}{t n k:Int}{ho:aG}{hs:T}{i:Nat}{u:Hr}{wd:aG}
theorem dA.now'(W:dA μ w cm gr g d x y z ah sd now us rs ps):dA (μ.set w (yq x y z ah sd cm g d nw)) w cm gr g d x y z ah sd nw us rs ps:=by
 have out:∀{j:Nat} {a:MO},μ[j]?=aA a->a≠yq x y z ah sd cm g d now->(μ.set w (yq x y z ah sd cm g d nw))[j]?=aA a:=λ{j a} e n=>by
  rw[cP (cE (zQ e W.wo n))];exact e
 have ch:Ch [w] μ (μ.set w (yq x y z ah sd cm g d nw)):=Ch.set;have b:∀{j:Nat} {a:MO},μ[j]?=aA a->a≠yq x y z ah sd cm g d now->j∉[w]:=λ{j a} e n=>by simpa using zQ e W.wo n
 exact⟨aI W.wo,W.bk.ch ch (b W.bk.com (λe=>by cases e)) (b W.bk.lst (λe=>by cases e)) (λp f=>b (W.bk.at_ p f) (λe=>by cases e)),out W.gv (λe=>by cases e),out W.dc (λe=>by cases e),λu c=>out (W.se u c) (λe=>by cases e),λu c=>out (W.cl u c) (λe=>by cases e),λu c=>out (W.hs u c) (λe=>by cases e),W.n1,W.n2,W.gg⟩
theorem dA.gave(W:dA μ w cm gr g d x y z ah sd now us rs ps):dA (μ.set g (.lst rs')) w cm gr g d x y z ah sd now us rs' ps:=by
 have out:∀{j:Nat} {a:MO},μ[j]?=aA a->(∀l,a≠.lst l)->(μ.set g (.lst rs'))[j]?=aA a:=λ{j a} e n=>by
  rw[cP (cE (zQ e W.gv (n _)))];exact e
 have ch:Ch [g] μ (μ.set g (.lst rs')):=Ch.set;have b:∀{j:Nat} {a:MO},μ[j]?=aA a->(∀l,a≠.lst l)->j∉[g]:=λ{j a} e n=>by simpa using zQ e W.gv (n _)
 exact⟨out W.wo (λ_ e=>by cases e),W.bk.ch ch (b W.bk.com (λ_ e=>by cases e)) (by simpa using cE W.gg) (λp f=>b (W.bk.at_ p f) (λ_ e=>by cases e)),aI W.gv,out W.dc (λ_ e=>by cases e),λu c=>out (W.se u c) (λ_ e=>by cases e),λu c=>out (W.cl u c) (λ_ e=>by cases e),λu c=>out (W.hs u c) (λ_ e=>by cases e),W.n1,W.n2,W.gg⟩
abbrev oQ(t:Int)(ho:aG)(nm:Int):T:=.tup [.int t,.str ho,.int nm]
theorem Sg (hw:wd="ask") (N:Wn x y z ah) (W:dA μ w cm gr g d x y z ah sd now us rs ps) (hi:us[i]?=aA u) (nd:(us.map (·.ho)).Nodup) (H:fL x y z u) (O:XI now t) (rb:-1000000000000000<=u.rd t) (k1:1<=k) (k2:k<=z) (J:k<=1000) (S:rs.length<=100000)
  (C:∀c fs,c=18\/c=21->(∀a,u.l=aA a->zz y z a u.n u.m (u.rd t)+k<=a.2.2*z->0<gp z (u.rd t) ah (zz y z a u.n u.m (u.rd t)+k))->Z c fs μ)
  (q:∀a,u.l=aA a->zz y z a u.n u.m (u.rd t)+k<=a.2.2*z->gp z (u.rd t) ah (zz y z a u.n u.m (u.rd t)+k)<=0->∀r v j,dA r w cm gr g d x y z ah sd (.int t) (us.set i v) (rs++(gX y z a.1 (zz y z a u.n u.m (u.rd t)) k).map (oQ t u.ho)) ps->fL x y z v->sJ v u->v.l=u.l->Ch [u.h,u.s,w,g] μ r->K (.mut j) r) :
  qL [.mut w,A3 wd t u.ho k] μ K Z:=by
 unfold qL;refine⟨rfl,_,W.wo,?_⟩;refine xx W hi nd O H.h1 H.h2 rfl (λK Z q=>by subst hw;exact PR q) ?_;refine⟨_,W.wo,?_⟩;refine S6 hw N W hi nd H rb k1 k2 J (λh=>C _ _ (.inl rfl) λa e X=>by have:=h a e;lia) (λa e F A v=>C _ _ (.inr rfl) λY G _=>by rw[e] at G;cases G;exact A) λa ea F A r v j B Q I P ch V gj=>?_;generalize E:gX y z a.1 (zz y z a u.n u.m (u.rd t)) k=L at gj;have D:L.length=k.toNat:=by rw[←E];unfold gX;simp
 refine⟨_,rfl,_,_,B.wo,by show (7:Nat)<900;decide,?_⟩;have f:=B.now' (nw:=.int t);have M:j≠w:=zQ gj B.wo (λe=>by cases e);have b:(r.set w (yq x y z ah sd cm g d (.int t)))[j]?=aA (.lst (L.map T.int)):=by rw[cP (cE M)];exact gj
 refine⟨_,_,_,f.wo,rfl,⟨_,f.gv⟩,_,b,by rw[bG,D];unfold aZ;lia,?_⟩;refine w8 T.int (λnm=>aA (oQ t u.ho nm)) (λp U R o=>?_) ?_ b
 ·refine⟨_,rfl,_,rfl,_,rfl,?_⟩;exact o
 ·rw[show L.filterMap (λnm=>aA (oQ t u.ho nm))=L.map (oQ t u.ho) by rw[ni]];refine⟨_,_,f.gv,.inl rfl,by rw[bG,D];unfold aZ;lia,?_⟩;rw[←E];exact q a ea F A _ v j f.gave Q I P (((ch.mono (by simp)).trans (Ch.set.mono (by simp))).trans (Ch.set.mono (by simp)))
theorem Oh (hw:wd="lease") (N:Wn x y z ah) (W:dA μ w cm gr g d x y z ah sd now us rs ps) (hi:us[i]?=aA u) (nd:(us.map (·.ho)).Nodup) (H:fL x y z u) (r:XI now t) (o:μ[i0]?=aA (.tab 0)) (B:ps.length<64) (h2:ZP y hs) (C:1<=n) (L:rs.length<=100000)
  (m:∀j,Ch [] μ j->Z 19 [] j)
  (q:∀h b j v a,0<=h->h<y->0<=b->b+n<=x->(∀p∈ps,p.2.h=h->mt p.2 b (b+n)=aD)->dA j w cm gr g d x y z ah sd (.int t) (us.set i v) rs (ps++[(a,⟨u.ho,h,b,b+n,b+n,aD⟩)])->fL x y z v->sJ v u->v.l=aA (h,b,b+n)->Ch [gr,u.h,u.s,w,g] μ j->K (.lst []) j) :
  qL [.mut w,Cu wd t u.ho hs n] μ K Z:=by
 unfold qL;refine⟨rfl,_,W.wo,?_⟩;refine xx W hi nd r H.h1 H.h2 rfl (λK Z q=>by subst hw;exact O5 q) ?_;refine⟨_,W.wo,?_⟩;refine Sd hw N W hi nd H o B h2 C m λh b j v a E D I G A f J k F ch=>?_;refine⟨_,rfl,_,_,f.wo,by show (7:Nat)<900;decide,?_⟩;have c:=f.now' (nw:=.int t);refine⟨_,_,_,c.wo,rfl,⟨_,c.gv⟩,by decide,?_⟩;refine QV ?_;refine⟨_,_,c.gv,.inl rfl,by show rs.length+0<=aZ;unfold aZ;lia,?_⟩;have e:=c.gave (rs':=rs++[]);rw[gA] at e;exact q h b _ v a E D I G A (by rw[gA];exact e) J k F (((ch.mono (by simp)).trans (Ch.set.mono (by simp))).trans (Ch.set.mono (by simp)))
end
section
variable {μ μ1 μ2:aK}{a:Ls}{h:Int}
theorem Ch.geS(a:Ch S μ μ1)(b:Ch d μ1 μ2)(h:∀j∈d,μ.length<=j):Ch S μ μ2:=
 ⟨cL a.len b.len,λj c hs=>(b.ot j (dM c a.len) λw=>absurd (h j w) (by lia)).trans (a.ot j c hs)⟩
end
section
variable {x y:Int}{l r pre acc:List R3}{a b:R3}
abbrev lr(l:List R3):Prop:=l.Pairwise λa b=>cJ b a=aC
theorem Zw{x:R3}:∀{l:List R3},a∈jq x l↔a=x\/a∈l
 |[]=>by simp[jq]
 |y::r=>by
  unfold jq;split
  ·simp
  ·rw[cC,Zw,cC];constructor
   ·rintro (h|h|h)
    ·exact .inr (.inl h)
    ·exact .inl h
    ·exact .inr (.inr h)
   ·rintro (h|h|h)
    ·exact .inr (.inl h)
    ·exact .inl h
    ·exact .inr (.inr h)
theorem kZ:∀{l:List R3},a∈qP l↔a∈l
 |[]=>Iff.rfl
 |x::r=>by unfold qP;rw[Zw,kZ,cC]
theorem Jw{x:R3}:∀{l:List R3},lr l->(∀a∈l,eI x a)->lr (jq x l)
 |[],_,_=>rG _ _
 |y::r,h,n=>by
  obtain⟨d,g⟩:=ol.mp h;unfold jq;by_cases e:cJ y x=aC
  ·rw[if_pos e];refine ol.mpr ⟨λb c=>?_,h⟩;rcases cC.mp c with rfl|c
   ·exact e
   ·exact vq (d b c) e
  ·rw[if_neg e];refine ol.mpr ⟨λb c=>?_,Jw g λa f=>n a (dQ _ f)⟩;rcases Zw.mp c with rfl|c
   ·have:=qU (n y d9);cases w:cJ b y
    ·rw[w] at this;exact absurd this e
    ·rfl
   ·exact d b c
theorem VT:∀{l:List R3},l.Pairwise eI->lr (qP l)
 |[],_=>oi
 |x::r,h=>by
  obtain⟨d,c⟩:=ol.mp h;exact Jw (VT c) λa b=>d a (kZ.mp b)
def uB (acc:List R3)(a:R3):List R3:=if acc.all (λo=>decide (a.2.2≠o.2.2))=aC then acc++[a] else acc
def gZ (l:List R3):List R3:=l.foldl uB []
structure DI(pre acc:List R3):Prop where
 sub:acc.Sublist pre
 hol:acc.Pairwise λa b=>a.2.2≠b.2.2
 cov:∀a∈pre,∃d∈acc,d.2.2=a.2.2/\cJ d a=aD
theorem Y0:cJ a a=aD:=by unfold cJ;simp
theorem Xx(h:cJ a b=aC):cJ b a=aD:=by
 cases w:cJ b a
 ·rfl
 ·have:=vq h w;rw[Y0] at this;cases this
theorem DI.step(h:DI pre acc)(d:lr (pre++[a])):DI (pre++[a]) (uB acc a):=by
 unfold uB;by_cases e:acc.all (λo=>decide (a.2.2≠o.2.2))=aC
 ·rw[if_pos e];have e:=fQ.mp e;refine⟨h.sub.append (DX _),nv.mpr ⟨h.hol,rG _ _,λp g q f=>?_⟩,λb c=>?_⟩
  ·rw[bU.mp f];exact λw=>of_decide_eq_true (e p g) w.symm
  ·rcases b_.mp c with c|c
   ·obtain⟨d,hd,w⟩:=h.cov b c;exact⟨d,d_ _ hd,w⟩
   ·rw[bU.mp c];exact⟨a,by simp,rfl,Y0⟩
 ·rw[if_neg e];have:∃o∈acc,a.2.2=o.2.2:=by
   have e:acc.all (λo=>decide (a.2.2≠o.2.2))=aD:=by simpa using e
   obtain⟨o,ho,w⟩:=List.all_eq_false.mp e;exact⟨o,ho,by simpa using w⟩
  obtain⟨o,ho,w⟩:=this;refine⟨h.sub.trans (List.sublist_append_left _ _),h.hol,λb c=>?_⟩;rcases b_.mp c with c|c
  ·exact h.cov b c
  ·rw[bU.mp c];exact⟨o,ho,w.symm,Xx ((nv.mp d).2.2 o (h.sub.subset ho) a (by simp))⟩
theorem XX:∀{r pre acc:List R3},DI pre acc->lr (pre++r)->DI (pre++r) (r.foldl uB acc)
 |[],pre,acc,h,_=>by rw[gA];exact h
 |a::r,pre,acc,h,d=>by
  have e:pre++a::r=(pre++[a])++r:=by simp
  rw[e] at d ⊢;exact XX (h.step (nv.mp d).1) d
theorem Od(d:lr l):DI l (gZ l):=XX (pre:=[]) ⟨DX _,oi,by simp⟩ d
def KQ (l:List R3):List R3:=(gZ (qP l)).take 2
structure CM(S H:List R3):Prop where
 len:H.length<=2
 dsc:lr H
 sub:∀a∈H,a∈S
 cov:∀a∈S,∀h,a.2.2≠h->∃b∈H,b.2.2≠h/\cJ b a=aD
theorem RF(g:l.Pairwise eI):CM l (KQ l):=by
 have D:=VT g;have I:=Od D;have ds:lr (gZ (qP l)):=D.sublist I.sub;refine⟨by unfold KQ;rw[gV];lia,ds.sublist (oj _ _),λa b=>kZ.mp (I.sub.subset (rK b)),λa b h n=>?_⟩;obtain⟨d,hd,o,c⟩:=I.cov a (kZ.mpr b);obtain⟨i,m,e⟩:=nh.mp hd;unfold KQ;generalize gZ (qP l)=L at *;by_cases w:i<2
 ·exact⟨d,nh.mpr ⟨i,by rw[gV];lia,by rw[t9];exact e⟩,by rw[o];exact n,c⟩
 ·have f:∀(k:Nat) (j:k<2),cJ (L[k]'(by lia)) a=aD:=λk j=>by
   have lt:=mB.mp ds k i (by lia) m (by lia);rw[e] at lt;cases q:cJ (L[k]'(by lia)) a
   ·rfl
   ·rw[vq lt q] at c;cases c
  have ne:=mB.mp I.hol 0 1 (by lia) (by lia) (by lia);by_cases q:(L[0]'(by lia)).2.2=h
  ·exact⟨_,nh.mpr ⟨1,by rw[gV];lia,by rw[t9]⟩,λw=>ne (q.trans w.symm),f 1 (by lia)⟩
  ·exact⟨_,nh.mpr ⟨0,by rw[gV];lia,by rw[t9]⟩,q,f 0 (by lia)⟩
end
section
variable {μ:aK}{K:T->aK->Prop}{Z:Xp}{y z:Int}{H:List R3}{n:R3}
theorem Jc{l:List R3}{a:R3}:gZ (l++[a])=uB (gZ l) a:=by unfold gZ;rw[List.foldl_append];rfl
theorem RZ:∀{l:List R3},(gZ l).length<=l.length:=λ{l}=>by
 have:∀(r b:List R3),(r.foldl uB b).length<=b.length+r.length:=λr=>by
  induction r with
  |nil=>intro b;simp
  |cons a r c=>
   intro b;have:=c (uB b a);have q:(uB b a).length<=b.length+1:=by unfold uB;split<;>simp
   simp only[List.foldl_cons,eZ];lia
 simpa[gZ] using this l []
theorem Nh{α:Type}{xs:List α}:yl xs aF (aA 2)=xs.take 2:=by
 unfold yl Uh;simp only[List.drop_zero,Nat.sub_zero];by_cases h:2<=xs.length
 ·show xs.take (min 2 xs.length)=_;rw[Nat.min_eq_left h]
 ·show xs.take (min 2 xs.length)=_;rw[Nat.min_eq_right (by lia),lb (bC _),lb (by lia)]
theorem uU(s:H.length<=2)(k:(H++[n]).Pairwise eI)(q:∀d,Ch [] μ d->K (.lst ((KQ (H++[n])).map eX)) d):wh [.lst (H.map eX),eX n] μ K Z:=by
 unfold wh;refine⟨rfl,by rw[bG];show _+1<=_;unfold aZ;lia,H++[n],by simp,by simp;lia,k,?_⟩;generalize h:qP (H++[n])=S;have r:S.length<=3:=by rw[←h,xw];simp;lia
 refine zL (λi f d=>∃o:Option T,f=[aA (.lst (H.map eX)),aA (eX n),aA (.mut μ.length),o]/\d[μ.length]?=aA (.lst ((gZ (S.take i)).map eX))/\Ch [] μ d) ⟨_,rfl,zf,Ch.app⟩ ?_ ?_
 ·rintro i u f d g ⟨o,rfl,b,ch⟩ N j;rw[c8] at g;obtain⟨a,p,rfl⟩:=lX.mp g;have et:S.take (i+1)=S.take i++[a]:=by rw[gB,p];rfl
  have ld:(gZ (S.take i)).length<=3:=by have:=RZ (l:=S.take i);rw[gV] at this;lia
  refine⟨_,rfl,_,b,by rw[bG];unfold aZ;lia,?_⟩;refine w8 eX (λo=>aA (.bl (decide (a.2.2≠o.2.2)))) (λo _ m c=>?_) ?_ b
  ·refine⟨_,rfl,_,rfl,_,rfl,?_⟩;have c:m (aA (.bl (!decide (a.2.2=o.2.2)))) d:=by rw[←decide_not];exact c
   exact c
  rw[ni];refine⟨_,yu (λo:R3=>decide (a.2.2≠o.2.2)) _,?_⟩;refine qR (λe=>?_) (λe=>?_)
  ·rw[mV] at e;have e:(gZ (S.take i)).all (λo=>decide (a.2.2≠o.2.2))=aC:=e;refine⟨⟨_,b⟩,_,b,by rw[bG];unfold aZ;lia,?_⟩;refine j _ _ ⟨_,rfl,?_,Ch.geS ch Ch.set (by simp)⟩;rw[aI b,et,Jc,uB,if_pos e,eM];rfl
  ·rw[mV] at e;have e:(gZ (S.take i)).all (λo=>decide (a.2.2≠o.2.2))=aD:=e;refine j _ _ ⟨_,rfl,?_,ch⟩;rw[b,et,Jc,uB,if_neg (by rw[e];decide)]
 ·rintro f d ⟨o,rfl,b,ch⟩;rw[bG,rc] at b;refine⟨_,b,?_⟩;have:=q d ch;unfold KQ at this;rw[h,List.map_take,←Nh] at this;exact this
noncomputable abbrev B3:=Int×aG×Int
abbrev lj(e:B3):T:=.tup [.int e.1,.str e.2.1,.int e.2.2]
noncomputable abbrev iW(f:Int×Int×Int):T:=.tup [.int f.1,.int f.2.1,.int f.2.2]
abbrev qY(y z:Int)(e:B3):Int:=e.2.2 / z / y
abbrev yc(y z:Int)(j:Nat)(e:B3):R3:=(qY y z e,(j:Int),e.2.1)
def q_(y z:Int)(es:List B3)(f:Int×Int×Int):Prop:=∃(j k:Nat) (e a:B3),j<k/\es[j]?=aA e/\es[k]?=aA a/\e.2.1≠a.2.1/\f=(qY y z e-qY y z a,(j:Int),(k:Int))
structure nP(y z:Int)(es:List B3)(n:Nat)(H:List R3)(F:List (Int×Int×Int)):Prop where
 len:H.length<=2
 dsc:lr H
 at_:∀a∈H,∃j e,j<n/\es[j]?=aA e/\a=yc y z j e
 cov:∀j e,j<n->es[j]?=aA e->∀h,e.2.1≠h->∃b∈H,b.2.2≠h/\cJ b (yc y z j e)=aD
 fok:∀f∈F,q_ y z es f
 fco:∀j k e e',j<k->k<n->es[j]?=aA e->es[k]?=aA e'->e.2.1≠e'.2.1->∃f∈F,qY y z e-qY y z e'<=f.1
 fl:F.length<=n
theorem NS(h:cJ b a=aC):eI a b:=λw=>by
 unfold cJ at h;rw[if_pos w.1.symm,w.2] at h;have:=of_decide_eq_true h;omega
theorem nP.ne{es:List B3}{n:Nat}{F:List (Int×Int×Int)}{e:B3}(I:nP y z es n H F):(H++[yc y z n e]).Pairwise eI:=by
 refine nv.mpr ⟨I.dsc.imp λh=>NS h,rG _ _,λa d b c=>?_⟩;rw[bU.mp c];obtain⟨j,g,f,_,rfl⟩:=I.at_ a d;exact λw=>by
  have:=w.2;have:(j:Int)=(n:Int):=this;lia
theorem Vd(h:cJ a b=aD):b.1<=a.1:=by
 unfold cJ at h;by_cases e:a.1=b.1
 ·lia
 ·rw[if_neg e] at h;have:=of_decide_eq_false h;lia
theorem nP.step{es:List B3}{n:Nat}{F m:List (Int×Int×Int)}{e:B3}(I:nP y z es n H F)(he:es[n]?=aA e)(h1:∀f∈m,f∈F\/q_ y z es f)(h2:∀f∈F,f∈m)(J:∀j d,j<n->es[j]?=aA d->d.2.1≠e.2.1->∃f∈m,qY y z d-qY y z e<=f.1)(G:m.length<=n+1) :
  nP y z es (n+1) (KQ (H++[yc y z n e])) m:=by
 have T:=RF (I.ne (e:=e));refine⟨T.len,T.dsc,λa o=>?_,λj d D g h A=>?_,λf s=>?_,λj k a b x M o i ne=>?_,G⟩
 ·rcases b_.mp (T.sub a o) with q|q
  ·obtain⟨j,d,D,r⟩:=I.at_ a q;exact⟨j,d,by lia,r⟩
  ·rw[bU.mp q];exact⟨n,e,by lia,he,rfl⟩
 ·by_cases w:j<n
  ·obtain⟨b,i,n1,n2⟩:=I.cov j d w g h A;obtain⟨c,E,B,l⟩:=T.cov b (d_ _ i) h n1;refine⟨c,E,B,?_⟩;cases q:cJ c (yc y z j d)
   ·rfl
   ·obtain⟨p,t,C,N,rfl⟩:=I.at_ b i;exfalso;by_cases u:cJ c (yc y z p t)=aC
    ·rw[l] at u;cases u
    ·have K:=Vd l;have L:=Vd n2;unfold cJ at q n2 l;by_cases v:c.1=(yc y z j d).1
     ·rw[if_pos v] at q;have q:=of_decide_eq_true q;rw[if_pos (show c.1=(yc y z p t).1 by lia)] at l;rw[if_pos (show (yc y z p t).1=(yc y z j d).1 by lia)] at n2;have:=of_decide_eq_false l;have:=of_decide_eq_false n2;lia
     ·rw[if_neg v] at q;have q:=of_decide_eq_true q;lia
  ·have ej:j=n:=by lia
   subst ej;rw[he] at g;cases g;exact T.cov _ (by simp) h A
 ·rcases h1 f s with q|q
  ·exact I.fok f q
  ·exact q
 ·by_cases w:k<n
  ·obtain⟨f,s,q⟩:=I.fco j k a b x w o i ne;exact⟨f,h2 f s,q⟩
  ·have ek:k=n:=by lia
   subst ek;rw[he] at i;cases i;exact J j a x o ne
end
section
variable {μ:aK}{K:T->aK->Prop}{Z:Xp}{x y z:Int}{H:List R3}{n:R3}{es:List B3}
theorem vg{α:Type}{f:α->T}{l:List α}{n:Nat}{a:α}(h:l[n]?=aA a):vH (l.map f) (n:Int)=aA (f a):=by
 obtain⟨b,e⟩:=bH.mp h;unfold vH U6;rw[if_pos (by lia),if_pos (by rw[bG];lia)];simp[h]
theorem GD(h:aG):∀l:List R3,(l.filterMap λa=>if a.2.2=h then aF else aA (eX a))=(l.filter λa=>!decide (a.2.2=h)).map eX
 |[]=>rfl
 |a::r=>by
  have:=GD h r;by_cases e:a.2.2=h
  ·rw[oG,if_pos e,Eb,if_neg (by rw[decide_eq_true e];decide),this]
  ·rw[oG,if_neg e,Eb,if_pos (by rw[decide_eq_false e];rfl),this];rfl
theorem Jq:∀F:List (Int×Int×Int),rowsOf (F.map iW)=aA (F.map λf=>[f.1,f.2.1,f.2.2])
 |[]=>rfl
 |f::r=>by
  have:=Jq r;show (bN [T.int f.1,T.int f.2.1,T.int f.2.2]).bind _=_;show Option.bind (aA [f.1,f.2.1,f.2.2]) _=_;rw[this];rfl
theorem Nl{f g:Int×Int×Int}(h:qN [g.1,g.2.1,g.2.2] [f.1,f.2.1,f.2.2]=aD):g.1<=f.1:=by
 rw[vO] at h;by_cases e:g.1=f.1
 ·lia
 ·rw[if_neg e] at h;have:=of_decide_eq_false h;lia
theorem Oy{E:En}{n:Nat}{e:B3}{s0 f c b:Option T}{M:aK}(h:H.length<=2)(g:(H++[yc y z n e]).Pairwise eI)(q:∀d,Ch [] M d->E.nx [s0,f,c,aA (.lst ((KQ (H++[yc y z n e])).map eX)),aA (.int n),aA (.str e.2.1),aA (.int (e.2.2 / z / y)),b] d) :
  qh [zp 3 (z9 wh [eV 3,v5 [eV 6,eV 4,eV 5]])] [s0,f,c,aA (.lst (H.map eX)),aA (.int n),aA (.str e.2.1),aA (.int (e.2.2 / z / y)),b] M E:=
 uU (n:=yc y z n e) h g λd a=>q d a
theorem QU(sz:Hz x y z)(ok:∀e∈es,0<=e.2.2/\e.2.2<x*y*z)(hl:es.length<=1000)
  (q0:(∀f,¬q_ y z es f)->∀d,Ch [] μ d->K .non d) (q1:∀f,q_ y z es f->(∀g,q_ y z es g->g.1<=f.1)->∀d,Ch [] μ d->K (iW f) d):ur [bO x y z,.lst (es.map lj)] μ K Z:=by
 unfold ur;refine⟨rfl,⟨by lia,by rw[bG];lia⟩,?_⟩;rw[bG];refine zL (λn B d=>∃(H:List R3) (F:List (Int×Int×Int)) (M L J G:Option T),B=[aA (bO x y z),aA (.lst (es.map lj)),aA (.mut μ.length),aA (.lst (H.map eX)),M,L,J,G]/\nP y z es n H F/\d[μ.length]?=aA (.lst (F.map iW))/\Ch [] μ d) ?_ ?_ ?_
 ·exact⟨[],[],_,_,_,_,rfl,⟨by simp,oi,by simp,λj e h=>absurd h (rl _),by simp,λj k e r _ h=>absurd h (rl _),by simp⟩,zf,Ch.app⟩
 ·rintro n u B d hx ⟨H,F,M,L,J,G,rfl,I,c,ch⟩ N hN;obtain⟨rfl,hn⟩:=vQ hx;have hn:n<es.length:=by lia
  have t:es[n]?=aA es[n]:=eQ hn;generalize es[n]=e at t;have E:=ok e (cD t);refine⟨_,rfl,_,vg t,_,rfl,_,vg t,_,rfl,?_⟩;refine yF sz E.1 E.2 ?_;refine⟨_,rfl,by rw[bG];have:=I.len;unfold aZ;lia,?_⟩;refine w8 eX (λa=>if a.2.2=e.2.1 then aF else aA (eX a)) (λa _ kk s=>?_) ?_ trivial
  ·refine⟨_,rfl,_,rfl,?_⟩;refine qR (λw=>?_) (λw=>?_)
   ·have w:(!decide (a.2.2=e.2.1))=aC:=w;rw[if_neg (by simpa using w)] at s;exact s
   ·have w:(!decide (a.2.2=e.2.1))=aD:=w;rw[if_pos (by simpa using w)] at s;exact s
  rw[GD];have W:∀b∈H,b.2.2≠e.2.1->b∈(H.filter λa=>!decide (a.2.2=e.2.1)):=λb m w=>gN.mpr ⟨m,by rw[decide_eq_false w];rfl⟩;have V:(H.filter λa=>!decide (a.2.2=e.2.1)).Sublist H:=List.filter_sublist;have A:∀b∈(H.filter λa=>!decide (a.2.2=e.2.1)),b.2.2≠e.2.1:=λb m=>by simpa using (gN.mp m).2
  generalize (H.filter λa=>!decide (a.2.2=e.2.1))=O at W V A;cases O with
  |nil=>
   refine uU I.len (I.ne (e:=e)) λC p=>?_;have v:=p.get c (by simp);refine hN _ _ ⟨_,F,_,_,_,_,rfl,I.step t (λf c=>.inl c) (λf c=>c) (λj r R i ne=>?_) (by have:=I.fl;lia),v,Ch.trans ch p⟩;obtain⟨b,m,P,n2⟩:=I.cov j r R i e.2.1 ne;exact absurd (W b m P) (by simp)
  |cons o O=>
   have oH:o∈H:=V.subset d9;obtain⟨jo,eo,jn,go,ro⟩:=I.at_ o oH;have on:=A o d9;have big:∀b∈o::O,b.1<=o.1:=λb m=>by
    rcases cC.mp m with rfl|m
    ·exact hZ _
    ·exact Vd (Xx ((ol.mp (I.dsc.sublist V)).1 b m))
   have fl:=I.fl;refine qb (λ_=>?_) (λw=>absurd (show (0:Int)<((o::O).map eX).length by simp) w);refine⟨⟨_,c⟩,_,vg (l:=o::O) (n:=0) (a:=o) rfl,_,rfl,_,vg (l:=o::O) (n:=0) (a:=o) rfl,_,rfl,_,c,by rw[bG];unfold aZ;lia,?_⟩;have S:(d.set μ.length (.lst (F.map iW++[iW (o.1-e.2.2 / z / y,o.2.1,(n:Int))])))[μ.length]?=aA (.lst ((F++[(o.1-e.2.2 / z / y,o.2.1,(n:Int))]).map iW)):=by
    rw[aI c,eM];rfl
   have Y:Ch [] μ (d.set μ.length (.lst (F.map iW++[iW (o.1-e.2.2 / z / y,o.2.1,(n:Int))]))):=Ch.geS ch Ch.set (by simp);refine Oy I.len (I.ne (e:=e)) λC p=>?_;have v:=p.get S (by simp);have new:q_ y z es (o.1-e.2.2 / z / y,o.2.1,(n:Int)):=⟨jo,n,eo,e,jn,go,t,by rw[ro] at on;exact on,by rw[ro]⟩;refine hN _ _ ⟨_,_,_,_,_,_,rfl,I.step t (λf c=>?_) (λf c=>d_ _ c) (λj r R i ne=>?_) (by simp;lia),v,Ch.trans Y p⟩
   ·rcases b_.mp c with q|q
    ·exact .inl q
    ·rw[bU.mp q];exact .inr new
   ·obtain⟨b,m,P,n2⟩:=I.cov j r R i e.2.1 ne;have h1:=big b (W b m P);have X:=Vd n2;refine⟨_,dF _ (bU.mpr rfl),?_⟩;show qY y z r-qY y z e<=o.1-e.2.2 / z / y;have X:qY y z r<=b.1:=X;show r.2.2 / z / y-e.2.2 / z / y<=o.1-e.2.2 / z / y;have:r.2.2 / z / y<=b.1:=X;lia
 ·rintro B d ⟨H,F,M,L,J,G,rfl,I,c,ch⟩;rw[vR,show ((es.length:Int)).toNat=es.length by lia] at I;have all:∀g,q_ y z es g->∃f∈F,g.1<=f.1:=λg ⟨j,k,e,r,jk,t,i,ne,eg⟩=>by
   have hk:=(bH.mp i).1;obtain⟨f,c,q⟩:=I.fco j k e r jk hk t i ne;exact⟨f,c,by rw[eg];exact q⟩
  refine⟨_,c,_,Jq F,λD=>?_,λns Q m=>?_⟩
  ·have D:F=[]:=ES.mp D;refine q0 (λf pf=>?_) d ch;obtain⟨g,hg,_⟩:=all f pf;rw[D] at hg;cases hg
  ·obtain⟨f,U,rfl⟩:=cN.mp Q;refine q1 f (I.fok f U) (λg pg=>?_) d ch;obtain⟨h,hh,q⟩:=all g pg;have:=Nl (m _ (cN.mpr ⟨h,hh,rfl⟩));lia
end
section
variable {μ μ1 μ2:aK}{K:T->aK->Prop}{Z:Xp}{x y z:Int}{ah sd:Int}{w cm gr g d i0:Nat}{now:T}{us:List Hr}{ps:List Gp}{t n k:Int}{hs:T}{i:Nat}{u:Hr}{wd:aG}{es:List B3}
theorem NO{a:Ls}{n m:Option Int}{r:Int}(z1:1<=z):r*z<=zz y z a n m r:=by
 have h:r*z<=(if a.2.1<r then r else a.2.1)*z:=mC (by split<;>lia) (by lia);unfold zz;generalize (if a.2.1<r then r else a.2.1)*z=c at h ⊢;split<;>lia
theorem Pd{a:Ls}{n m:Option Int}{r nm:Int}(s:Hz x y z)(ok:gJ x y a)(I:zz y z a n m r+k<=a.2.2*z)(t:gp z r ah (zz y z a n m r+k)<=0)(c:nm∈gX y z a.1 (zz y z a n m r) k) :
  (0<=nm/\nm<x*y*z)/\r<=nm / z / y/\nm / z / y<=r+ah:=by
 obtain⟨E,D,C,f,B⟩:=id s;have bn:=uh (n:=n) (m:=m) (r:=r) s ok;have bg:=NO (y:=y) (a:=a) (n:=n) (m:=m) (r:=r) f;have g:=ok.ux;have F:a.2.2*z<=x*z:=mC g (by lia);unfold gX at c;obtain⟨j,d,rfl⟩:=cN.mp c;have d:=n7.mp d;generalize zz y z a n m r=b at *;have l:0<=b+j:=by lia
 have p1:b+j<x*z:=by lia
 have i:0<=(b+j) / z:=rq l (by lia);have h:(b+j) / z<x:=rD (by lia) p1;have p:=mZ (b+j) (show z≠0 by lia);have o:=nr (b+j) (show 0<z by lia);obtain⟨A,w,v,u,J⟩:=uF (z:=z) i h ok.h0 ok.h1 p o;have e:nA y z a.1 (b+j)=((b+j) / z*y+a.1)*z+(b+j) % z:=rfl;rw[e];refine⟨⟨A,w⟩,?_⟩;rw[v,u];have q:r<=(b+j) / z:=(Int.le_ediv_iff_mul_le (by lia)).mpr (by lia);have H:(b+j) / z<=(b+k-1) / z:=Int.ediv_le_ediv (by lia) (by lia);have G:(b+k-1) / z-(r+ah)<=0:=t;exact⟨q,by lia⟩
abbrev Cd:=aG×Int×List Tn
abbrev Hr.cd(u:Hr):Cd:=(u.ho,u.st,u.ts)
abbrev Cd.rd(c:Cd)(t:Int):Int:=zO c.2.1 c.2.2 t
structure l9(cs:List Cd)(x y z ah t0 t1:Int)(es:List B3):Prop where
 nm:∀e∈es,0<=e.2.2/\e.2.2<x*y*z
 tm:∀e∈es,t0<=e.1/\e.1<=t1
 up:es.Pairwise λa b=>a.1<=b.1
 rd:∀e∈es,∃c∈cs,e.2.1=c.1/\c.rd e.1<=qY y z e/\qY y z e<=c.rd e.1+ah
theorem l9.later(B:l9 cs x y z ah t0 t1 es)(h:t1<=j):l9 cs x y z ah t0 j es:=
 ⟨B.nm,λe he=>⟨(B.tm e he).1,mT (B.tm e he).2 h⟩,B.up,B.rd⟩
theorem l9.add{cs:List Cd}{t0 t1:Int}{c:Cd}{L:List Int}(B:l9 cs x y z ah t0 t1 es)(h0:t0<=t1)(g:c∈cs)(f:∀nm∈L,(0<=nm/\nm<x*y*z)/\c.rd t1<=nm / z / y/\nm / z / y<=c.rd t1+ah):l9 cs x y z ah t0 t1 (es++L.map λnm=>(t1,c.1,nm)):=by
 have d:∀e∈es++L.map (λnm=>((t1,c.1,nm):B3)),e∈es\/∃nm∈L,e=(t1,c.1,nm):=λe he=>by
  rcases b_.mp he with h|h
  ·exact .inl h
  ·obtain⟨nm,h1,rfl⟩:=cN.mp h;exact .inr ⟨nm,h1,rfl⟩
 refine⟨λe he=>?_,λe he=>?_,?_,λe he=>?_⟩
 ·rcases d e he with h|⟨nm,h,rfl⟩
  ·exact B.nm e h
  ·exact (f nm h).1
 ·rcases d e he with h|⟨nm,h,rfl⟩
  ·exact B.tm e h
  ·exact⟨h0,hZ _⟩
 ·rw[nv];refine⟨B.up,?_,λa j b i=>?_⟩
  ·rw[lM];exact List.pairwise_of_forall λ_ _=>hZ _
  ·obtain⟨nm,_,rfl⟩:=cN.mp i;exact (B.tm a j).2
 ·rcases d e he with h|⟨nm,h,rfl⟩
  ·exact B.rd e h
  ·exact⟨c,g,rfl,(f nm h).2⟩
structure fE(μ:aK)(B w cm gr g d i0:Nat)(x y z ah sd:Int)(cs:List Cd)(t0 t1:Int)(m:Nat):Prop where
 N:Wn x y z ah
 ex:∃now us es ps,dA μ w cm gr g d x y z ah sd now us (es.map lj) ps/\XI now t1/\us.map Hr.cd=cs/\(∀u∈us,fL x y z u)/\l9 cs x y z ah t0 t1 es/\ps.length<=m/\es.length<=10*m/\B<=w/\B<=gr/\B<=g/\∀u∈us,B<=u.h/\B<=u.s
 nd:(cs.map (·.1)).Nodup
 tb:μ[i0]?=aA (.tab 0)
 i0:i0<B
 t01:t0<=t1
 rb:∀c∈cs,∀t,t0<=t->t<=t0+1000 -> -1000000000000000<=c.rd t
def Lo (B:Nat)(μ a:aK):Prop:=μ.length<=a.length/\∀i,i<B->a[i]?=μ[i]?
theorem Lo.of{B:Nat}{S:List Nat}(b:B<=μ.length)(ch:Ch S μ μ1)(h:∀j∈S,B<=j):Lo B μ μ1:=⟨ch.len,λi hi=>ch.ot i (by lia) λa=>by have:=h i a;lia⟩
theorem Lo.trans(a:Lo B μ μ1)(b:Lo B μ1 μ2):Lo B μ μ2:=⟨cL a.1 b.1,λi hi=>(b.2 i hi).trans (a.2 i hi)⟩
theorem Lo.get{B i:Nat}{o:MO}(a:Lo B μ μ1)(hi:i<B)(h:μ[i]?=aA o):μ1[i]?=aA o:=(a.2 i hi).trans h
variable {B:Nat}{cs:List Cd}{t0 t1:Int}{m:Nat}
theorem fE.ch0(W:fE μ B w cm gr g d i0 x y z ah sd cs t0 t1 m)(ch:Ch [] μ μ1):fE μ1 B w cm gr g d i0 x y z ah sd cs t0 t1 m:=by
 obtain⟨a,us,es,ps,b,r⟩:=W.ex;exact⟨W.N,⟨a,us,es,ps,b.ch0 ch,r⟩,W.nd,ch.get W.tb (by simp),W.i0,W.t01,W.rb⟩
theorem fE.later(W:fE μ B w cm gr g d i0 x y z ah sd cs t0 t1 m)(h:t1<=j):fE μ B w cm gr g d i0 x y z ah sd cs t0 j m:=by
 obtain⟨a,us,es,ps,i,b,h2,f,c,r⟩:=W.ex;refine⟨W.N,⟨a,us,es,ps,i,?_,h2,f,c.later h,r⟩,W.nd,W.tb,W.i0,mT W.t01 h,W.rb⟩;rcases b with e|⟨s,e,hs⟩
 ·exact .inl e
 ·exact .inr ⟨s,e,mT hs h⟩
theorem uf{P:Hr->Prop}{us:List Hr}{i:Nat}{v:Hr}(h:∀u∈us,P u)(a:P v):∀u∈us.set i v,P u:=λu b=>by
 rcases List.mem_or_eq_of_mem_set b with c|rfl
 ·exact h u c
 ·exact a
theorem K6 (hw:wd="ask") (W:fE μ B w cm gr g d i0 x y z ah sd cs t0 t1 m) {c:Cd} (E:c∈cs) (ht:t1<=t0+1000) (J:m<=1000) (k1:1<=k) (k2:k<=z) (k3:k<=10)
  (q:∀v r,fE r B w cm gr g d i0 x y z ah sd cs t0 t1 (m+1)->Lo B μ r->K v r):wj [.mut w,A3 wd t1 c.1 k] μ K Z:=by
 obtain⟨C,A,es,X,t,I,p,o,P,h5,h6,H,R,Q,G⟩:=W.ex;have e:=E;rw[←p] at e;obtain⟨u,l,rfl⟩:=cN.mp e;obtain⟨i,M⟩:=ii.mp l;have Y:(A.map (·.ho)).Nodup:=by have:=W.nd;rw[←p,eO] at this;exact this
 have O:B<=μ.length:=mq (om H (bH.mp t.wo).1);unfold wj;refine⟨rfl,_,t.wo,?_⟩;refine Sg hw W.N t M Y (o u l) I (W.rb _ E t1 W.t01 ht) k1 k2 (by lia) (by rw[bG];lia) (λc fs D _=>?_) λa ea e1 e2 r v j S H' b v4 ch=>?_
 ·have fin:fE μ B w cm gr g d i0 x y z ah sd cs t0 t1 (m+1):=⟨W.N,⟨C,A,es,X,t,I,p,o,P,by lia,by lia,H,R,Q,G⟩,W.nd,W.tb,W.i0,W.t01,W.rb⟩;have V:=q (.lst []) μ fin ⟨bC _,λ_ _=>rfl⟩;rcases D with rfl|rfl<;>exact V
 ·have hL:=λnm J=>Pd (nm:=nm) W.N.s ((o u l).ok a ea) e1 e2 J;have el:(es.map lj)++(gX y z a.1 (zz y z a u.n u.m (u.rd t1)) k).map (oQ t1 u.ho)=(es++(gX y z a.1 (zz y z a u.n u.m (u.rd t1)) k).map λnm=>(t1,u.ho,nm)).map lj:=by rw[eM,eO];rfl
  rw[el] at S;have cd:(A.set i v).map Hr.cd=cs:=by rw[map_set M (f:=Hr.cd) (by unfold Hr.cd;rw[b.ho,b.st,b.ts])];exact p
  have ln:(gX y z a.1 (zz y z a u.n u.m (u.rd t1)) k).length=k.toNat:=by unfold gX;simp
  have F:=G u l;have T:∀j∈[u.h,u.s,w,g],B<=j:=by
   intro j L;simp only[cC,iz,or_false] at L;rcases L with rfl|rfl|rfl|rfl<;>lia
  have U:B<=v.h/\B<=v.s:=by rw[b.h,b.s];exact F
  refine q _ r ⟨W.N,⟨_,_,_,_,S,.inr ⟨t1,rfl,hZ _⟩,cd,uf o H',P.add W.t01 E hL,by lia,by rw[ig,bG,ln];lia,H,R,Q,uf G U⟩,W.nd,(Lo.of O ch T).get W.i0 W.tb,W.i0,W.t01,W.rb⟩ (Lo.of O ch T)
end
section
variable {μ:aK}{K:T->aK->Prop}{Z:Xp}{x y z:Int}{ah sd:Int}{w cm gr g d i0:Nat}{now:T}{us:List Hr}{ps:List Gp}{n:Int}{hs:T}{i:Nat}{u:Hr}{wd:aG}{es:List B3}{B:Nat}{cs:List Cd}{t0 t1:Int}{m:Nat}
theorem W4 (hw:wd="lease") (W:fE μ B w cm gr g d i0 x y z ah sd cs t0 t1 m) (T:c∈cs) (hm:m<64) (h2:ZP y hs) (U:1<=n)
  (q:∀v r,fE r B w cm gr g d i0 x y z ah sd cs t0 t1 (m+1)->Lo B μ r->K v r):wj [.mut w,Cu wd t1 c.1 hs n] μ K Z:=by
 obtain⟨t,p,es,R,o,H,l,D,L,h5,h6,G,O,M,F⟩:=W.ex;have k:=T;rw[←l] at k;obtain⟨u,A,rfl⟩:=cN.mp k;obtain⟨i,J⟩:=ii.mp A;have S:(p.map (·.ho)).Nodup:=by have:=W.nd;rw[←l,eO] at this;exact this
 have C:B<=μ.length:=mq (om G (bH.mp o.wo).1);unfold wj;refine⟨rfl,_,o.wo,?_⟩;refine Oh hw W.N o J S (D u A) H W.tb (by lia) h2 U (by rw[bG];lia) (λr ch=>?_) λh b r v a e1 e2 e3 e4 e5 V X e Y ch=>?_
 ·have fin:fE r B w cm gr g d i0 x y z ah sd cs t0 t1 (m+1):=⟨W.N,⟨t,p,es,R,o.ch0 ch,H,l,D,L,by lia,by lia,G,O,M,F⟩,W.nd,ch.get W.tb (by simp),W.i0,W.t01,W.rb⟩;exact q (.lst []) r fin (Lo.of C ch (by simp))
 ·have cd:(p.set i v).map Hr.cd=cs:=by rw[map_set J (f:=Hr.cd) (by unfold Hr.cd;rw[e.ho,e.st,e.ts])];exact l
  have E:=F u A;have P:∀j∈[gr,u.h,u.s,w,g],B<=j:=by
   intro j I;simp only[cC,iz,or_false] at I;rcases I with rfl|rfl|rfl|rfl|rfl<;>lia
  have Q:B<=v.h/\B<=v.s:=by rw[e.h,e.s];exact E
  exact q _ r ⟨W.N,⟨_,_,_,_,V,.inr ⟨t1,rfl,hZ _⟩,cd,uf D X,L,by rw[ig];simp;lia,by lia,G,O,M,uf F Q⟩,W.nd,(Lo.of C ch P).get W.i0 W.tb,W.i0,W.t01,W.rb⟩ (Lo.of C ch P)
theorem zC(hs:St μ i)(h0:0<base)(h1:base<1000000000000000000000000000000000000000000000000000000000000)(q:∀v j,0<=v->v<base->Up μ i j->K (.int v) j):zm [.mut i,.int base] μ K Z:=by
 obtain⟨a,b,c,h⟩:=hs;have d:∀x:Int,0<=x % base/\x % base<base:=λx=>⟨mZ _ (by lia),nr _ h0⟩;unfold zm;refine⟨rfl,_,_,h,rfl,?_⟩;refine qb (λe=>?_) (λe=>?_)
 ·refine⟨_,_,h,rfl,h0,_,_,h,rfl,⟨h0,by lia⟩,?_⟩;refine .inl ⟨_,h,by simp,?_⟩;exact q _ _ (d _).1 (d _).2 (Up.set h)
 ·refine⟨_,_,h,rfl,?_⟩;refine .inl ⟨_,h,by simp,?_⟩;refine⟨_,_,aI h,rfl,_,_,aI h,rfl,?_⟩;refine TQ λv=>?_;refine⟨h0,?_⟩;exact q _ _ (d _).1 (d _).2 (Up.set h)
theorem Z5(h:μ[i]?=aA (.obj 45 []))(c:0<=ah)(hd:0<=sd)(q:∀r b,Ch [i] μ r->μ.length<=b->r[i]?=aA (eR j ah sd kp aF aF aF (.mut b) aD)->K .non r) :
  qo [.mut i,j,.int ah,.int sd,kp,.non] μ K Z:=by
 unfold qo;refine⟨rfl,?_⟩;refine Zz c ?_;refine Zz hd ?_;refine⟨_,_,h,by show (0:Nat)<900;decide,_,_,aI h,by show (1:Nat)<900;decide,_,_,aI (aI h),by show (2:Nat)<900;decide,_,_,aI (aI (aI h)),by show (3:Nat)<900;decide,_,_,aI (aI (aI (aI h))),by show (4:Nat)<900;decide,_,_,aI (aI (aI (aI (aI h)))),by show (5:Nat)<900;decide,_,_,aI (aI (aI (aI (aI (aI h))))),by show (6:Nat)<900;decide,?_⟩;have a:=aI (y:=MO.obj 45 [(9,j),(14,.int ah),(15,.int sd),(16,kp),(6,.non),(17,.non),(18,.non)]) (aI (y:=MO.obj 45 [(9,j),(14,.int ah),(15,.int sd),(16,kp),(6,.non),(17,.non)]) (aI (y:=MO.obj 45 [(9,j),(14,.int ah),(15,.int sd),(16,kp),(6,.non)]) (aI (y:=MO.obj 45 [(9,j),(14,.int ah),(15,.int sd),(16,kp)]) (aI (y:=MO.obj 45 [(9,j),(14,.int ah),(15,.int sd)]) (aI (y:=MO.obj 45 [(9,j),(14,.int ah)]) (aI (y:=MO.obj 45 [(9,j)]) h))))));refine⟨_,_,zk a,by show (7:Nat)<900;decide,_,_,aI (zk a),by show (8:Nat)<900;decide,?_⟩;refine q _ _ ((((((((((Ch.set.trans Ch.set).trans Ch.set).trans Ch.set).trans Ch.set).trans Ch.set).trans Ch.set).trans (Ch.app.mono (by simp))).trans Ch.set).trans Ch.set)) (by simp) (aI (aI (zk a)))
theorem X1{a e:Nat}{ck:T}{now:T}(hw:μ[w]?=aA (yq x y z ah sd cm g d now))(hs:μ[a]?=aA (qK ck .non .non))(h:μ[e]?=aA (.tab 1))(k:0<=ah)(hd:0<=sd)
  (q:∀r b,Ch [a] μ r->r[a]?=aA (qK ck (.mut μ.length) .non)->r[μ.length]?=aA (eR (bO x y z) ah sd (fZ a) aF aF aF (.mut b) aD)->K .non r):zH [.mut w,.mut a] μ K Z:=by
 unfold zH;refine⟨rfl,_,_,_,hw,rfl,_,_,_,hw,rfl,_,_,_,hw,rfl,⟨e,h⟩,[.mut a],rfl,_,_,_,hs,rfl,?_⟩;have l:=(bH.mp hs).1;refine Z5 zf k hd λr b ch m gh=>?_;have f:r[a]?=aA (qK ck .non .non):=ch.get (zk hs) (by simp;lia);refine⟨rfl,_,_,f,by show (3:Nat)<900;decide,?_⟩;refine q _ b ⟨?_,λj i c=>?_⟩ (aI f) ?_
 ·have:=ch.len;simp at this ⊢;lia
 ·have c:j≠a:=by simpa using c
  rw[cP (cE c),ch.ot j (by simp;lia) (by simp;lia),eN i]
 ·rw[cP (by lia)];exact gh
end
section
variable {μ μ1 μ2:aK}{K:T->aK->Prop}{Z:Xp}{x y z:Int}{ah sd:Int}{w cm gr g d dc:Nat}{now:T}{us:List Hr}{rs:List T}{ps:List Gp}
structure Kd where
 ho:aG
 c:Nat
 st:Int
 ts:List Tn
abbrev w5(k:Kd):Key×T:=(.inr k.ho,.mut k.c)
abbrev Kd.cd(k:Kd):Cd:=(k.ho,k.st,k.ts)
structure gK(μ:aK)(k:Kd):Prop where
 h1:k.ho.length<=aZ
 h2:wB k.ho=aC
 ck:μ[k.c]?=aA (iY k.st k.ts)
theorem Kk:∀{ks:List Kd} {k:Kd},k∈ks->(ks.map (·.ho)).Nodup->zD (.inr k.ho) (ks.map w5)=aA (.mut k.c)
 |[],_,h,_=>by cases h
 |v::r,k,h,n=>by
  rw[dW,lV] at n;show zD _ (w5 v::r.map w5)=_;unfold zD;rcases cC.mp h with rfl|h
  ·rw[if_pos rfl]
  ·rw[if_neg (λe=>n.1 (cN.mpr ⟨k,h,(i7 e).symm⟩))];exact Kk h n.2
variable {ks:List Kd}
theorem Ol(h:jU μ i r)(ho:μ[j]?=aA o)(n1:∀l,o≠.dic l)(n2:∀e l,o≠.frd e l):j≠i:=λe=>by
 subst e;rcases h with h|⟨ep,h⟩
 ·rw[h] at ho;exact n1 _ (bT ho).symm
 ·rw[h] at ho;exact n2 _ _ (bT ho).symm
theorem Q5(ho:μ[dc]?=aA (.dic (ks.map w5)))(f:ks≠[])(j:ks.length<=1000)(hk:∀k∈ks,gK μ k)(nd:(ks.map (·.ho)).Nodup)
  (q:∀ep,K (.bl aC) (μ.set dc (.frd ep (ks.map w5)))):j6 [.mut dc] μ K Z:=by
 have hd:jU μ dc (ks.map w5):=.inl ho;have dl:=(bH.mp ho).1;unfold j6;refine⟨rfl,_,ho,_,hd,?_⟩;refine kJ (by
  rw[bG];intro e;have e:ks.length=0:=by lia
  exact f (Ab.mp e)) ?_
 refine⟨_,hd,λep=>?_⟩;refine⟨by rw[bG,bG];unfold aZ;lia,?_⟩;rw[eO];have gd:(μ.set dc (.frd ep (ks.map w5)))[dc]?=aA (.frd ep (ks.map w5)):=aI ho;refine w8 (μ:=μ.set dc (.frd ep (ks.map w5))) (λk:Kd=>T.str k.ho) (λ_=>aA (.bl aC)) (λk a i b=>?_) ?_ gd
 ·have H:=hk k a;refine⟨_,rfl,?_⟩;refine w9 H.h1 ?_;rw[H.h2];refine⟨_,_,.inr ⟨ep,gd⟩,Kk a nd,?_⟩;have ck:(μ.set dc (.frd ep (ks.map w5)))[k.c]?=aA (iY k.st k.ts):=by
   rw[cP (cE (Ol hd H.ck (λ_ e=>by cases e) (λ_ _ e=>by cases e)))];exact H.ck
  refine⟨_,ck,?_⟩;exact b
 ·rw[show ks.filterMap (λ_=>aA (T.bl aC))=ks.map (λ_=>T.bl aC) by rw[ni]];obtain⟨bs,h,g⟩:=y0 ks;refine⟨_,h,?_⟩;have d:=q ep;rw[←g] at d;exact d
theorem Zm{l:List Nat}{a:Nat}(h:l.Nodup)(n:a∉l):(l++[a]).Nodup:=by
 rw[lN];exact⟨h,by simp,λb f c d e=>n (by rw[←bU.mp d,←e];exact f)⟩
theorem dA.seat(W:dA μ w cm gr g d x y z ah sd now us rs ps)(ch:Ch [d] μ r)(gd:r[d]?=aA (.dic ((us++[v]).map kY)))(A:r[v.s]?=aA v.seat)(t:r[v.c]?=aA (iY v.st v.ts))(o:r[v.h]?=aA (v.house x y z ah sd))(n1:μ.length<=v.s)(n2:μ.length<=v.h):dA r w cm gr g d x y z ah sd now (us++[v]) rs ps:=by
 have out:∀{j:Nat} {a:MO},μ[j]?=aA a->(∀l,a≠.dic l)->r[j]?=aA a:=λ{j a} e n=>ch.get e (by simpa using zQ e W.dc (n _));have f:∀{j:Nat} {a:MO},μ[j]?=aA a->(∀l,a≠.dic l)->j∉[d]:=λ{j a} e n=>by simpa using zQ e W.dc (n _)
 have lt:∀{j:Nat} {a:MO},μ[j]?=aA a->j<μ.length:=λe=>(bH.mp e).1;have mem:∀{q:Hr} {P:Hr->Prop},(∀u∈us,P u)->P v->q∈us++[v]->P q:=λ{q P} h1 h2 i=>by
  rcases b_.mp i with h|h
  ·exact h1 q h
  ·rw[bU.mp h];exact h2
 refine⟨out W.wo (λ_ e=>by cases e),W.bk.ch ch (f W.bk.com (λ_ e=>by cases e)) (f W.bk.lst (λ_ e=>by cases e)) (λp m=>f (W.bk.at_ p m) (λ_ e=>by cases e)),out W.gv (λ_ e=>by cases e),gd,λq i=>mem (P:=λu=>r[u.s]?=aA u.seat) (λu b=>out (W.se u b) (λ_ e=>by cases e)) A i,λq i=>mem (P:=λu=>r[u.c]?=aA (iY u.st u.ts)) (λu b=>out (W.cl u b) (λ_ e=>by cases e)) t i,λq i=>mem (P:=λu=>r[u.h]?=aA (u.house x y z ah sd)) (λu b=>out (W.hs u b) (λ_ e=>by cases e)) o i,?_,?_,W.gg⟩
 ·rw[eM];exact Zm W.n1 λk=>by
   obtain⟨u,b,e⟩:=cN.mp k;have:=lt (W.se u b);have e:u.s=v.s:=e;lia
 ·rw[eM];exact Zm W.n2 λk=>by
   obtain⟨u,b,e⟩:=cN.mp k;have:=lt (W.hs u b);have e:u.h=v.h:=e;lia
theorem VG{z:Key}{t:T}{a:List (Key×T)}(h:z∉a.map (·.1)):k_ z t a=a++[(z,t)]:=by
 unfold k_;rw[if_neg];intro e;obtain⟨p,b,e⟩:=List.any_eq_true.mp e;exact h (cN.mpr ⟨p,b,by simpa using e⟩)
theorem WU(q:∀j,Ch [] μ j->j.length=μ.length+1->j[μ.length]?=aA (qK ck .non .non)->K .non j):vB [.mut μ.length,ck] (μ++[.obj 46 []]) K Z:=by
 unfold vB;refine⟨rfl,_,_,zf,by show (0:Nat)<900;decide,_,_,aI zf,by show (1:Nat)<900;decide,_,_,aI (aI zf),by show (2:Nat)<900;decide,?_⟩;refine q _ ?_ (by simp) (aI (aI (aI zf)));exact Ch.geS (Ch.geS (Ch.geS Ch.app Ch.set (by simp)) Ch.set (by simp)) Ch.set (by simp)
theorem P2:∀{us:List Hr} {z:aG},z∉us.map (·.ho)->(.inr z:Key)∉(us.map kY).map (·.1):=λ{us z} h a=>by
 rw[eO] at a;obtain⟨u,b,e⟩:=cN.mp a;exact h (cN.mpr ⟨u,b,i7 e⟩)
structure CI(μ0 μ:aK)(w cm gr g d dc t1:Nat)(x y z ah sd:Int)(ks:List Kd)(n ep:Nat)(us:List Hr):Prop where
 W:dA μ w cm gr g d x y z ah sd .non us [] []
 cd:us.map Hr.cd=(ks.take n).map Kd.cd
 nw:∀u∈us,u.l=aF/\(u.n=aF/\u.m=aF)/\μ0.length<=u.h/\μ0.length<=u.s
 ch:Ch [dc] μ0 μ
 hd:μ[dc]?=aA (.frd ep (ks.map w5))
 tb:μ[t1]?=aA (.tab 1)
 kd:∀k∈ks,gK μ k
theorem CI.step{μ0:aK}{t1 ep n:Nat}{k:Kd}{t:Option T}{N:Sl->aK->Prop}{E:En}(C:CI μ0 μ w cm gr g d dc t1 x y z ah sd ks n ep us)(hk:ks[n]?=aA k)(nd:(ks.map (·.ho)).Nodup)(Z:ks.length<=1000)(O:0<=ah)(hs:0<=sd)(U:μ0.length<=d)(dd:dc<μ0.length)
  (hN:∀I t r A,CI μ0 r w cm gr g d dc t1 x y z ah sd ks (n+1) ep A->N [aA (.mut w),aA (bO x y z),aA (.int ah),aA (.int sd),aA (.mut dc),I,t] r) :
  qh [(zp 6 (Qc 46 vB [(gO uv (eV 4) (eV 5))])),(zF (zT 47 zH (eV 0) [(eV 6)])),(yB (ze (eV 0) 26) (eV 5) (eV 6))] [aA (.mut w),aA (bO x y z),aA (.int ah),aA (.int sd),aA (.mut dc),aA (.str k.ho),t] μ (E.turn N):=by
 obtain⟨W,cd,nw,ch,hd,tb,kd⟩:=C;have F:=cD hk;have V:=kd k F;have K:μ0.length<=μ.length:=ch.len;refine⟨_,_,.inr ⟨ep,hd⟩,Kk F nd,?_⟩;refine WU λm o J R=>?_;refine⟨rfl,?_⟩;have H:=W.ch0 o;refine⟨_,H.wo,?_⟩;refine X1 H.wo R (o.get tb (by simp)) O hs λμ2 b B Q P=>?_;have f:Ch [] μ μ2:=Ch.geS o B (by simp);have s:=W.ch0 f;refine⟨_,_,_,s.wo,rfl,?_⟩;have new:k.ho∉us.map (·.ho):=λG=>by
  have S:us.map (·.ho)=(ks.take n).map (·.ho):=by
   have:=congrArg (sP (·.1)) cd;rw[eO,eO] at this;exact this
  rw[S] at G;have Y:n<ks.length:=(bH.mp hk).1;have p:((ks.take n++[k]).map (·.ho)).Nodup:=by
   rw[show ks.take n++[k]=ks.take (n+1) by rw[gB,hk];rfl];exact nd.sublist ((oj _ _).map _)
  rw[eM,lN] at p;exact p.2.2 k.ho G k.ho (by simp) rfl
 have X:us.length<=1000:=by
  have:=congrArg iR cd;rw[bG,bG,gV] at this;lia
 refine⟨_,s.dc,by rw[bG];unfold aZ;lia,?_⟩;rw[VG (P2 new)];have dl:d<μ.length:=(bH.mp W.dc).1;have q:(us.map kY++[((.inr k.ho:Key),T.mut μ.length)])=(us++[(⟨k.ho,μ.length,k.c,m.length,k.st,k.ts,aF,aF,aF,.mut b,.non⟩:Hr)]).map kY:=by rw[eM];rfl
 have c2:μ2[k.c]?=aA (iY k.st k.ts):=f.get V.ck (by simp);have i:∀{j:Nat} {a:MO},μ2[j]?=aA a->(∀l,a≠.dic l)->(μ2.set d (.dic ((us++[(⟨k.ho,μ.length,k.c,m.length,k.st,k.ts,aF,aF,aF,.mut b,.non⟩:Hr)]).map kY)))[j]?=aA a:=λ{j a} e n=>by
  rw[cP (cE (zQ e s.dc (n _)))];exact e
 refine hN _ _ _ (us++[⟨k.ho,μ.length,k.c,m.length,k.st,k.ts,aF,aF,aF,.mut b,.non⟩]) ⟨?_,?_,?_,?_,?_,?_,?_⟩
 ·rw[q];exact W.seat (f.mono (by simp) |>.trans Ch.set) (aI s.dc) (i Q (λ_ e=>by cases e)) (i c2 (λ_ e=>by cases e)) (i P (λ_ e=>by cases e)) (bC _) (by show μ.length<=m.length;lia)
 ·rw[eM,cd,gB,hk,eM];rfl
 ·intro u M;rcases b_.mp M with h|h
  ·exact nw u h
  ·rw[bU.mp h];exact⟨rfl,⟨rfl,rfl⟩,by show μ0.length<=m.length;lia,K⟩
 ·exact Ch.geS (ch.trans (f.mono (by simp))) Ch.set (by simpa using U)
 ·rw[q];exact i (f.get hd (by simp)) (λ_ e=>by cases e)
 ·rw[q];exact i (f.get tb (by simp)) (λ_ e=>by cases e)
 ·intro L v;have D:=kd L v;rw[q];exact⟨D.h1,D.h2,i (f.get D.ck (by simp)) (λ_ e=>by cases e)⟩
end
section
variable {μ μ2:aK}{K:T->aK->Prop}{Z:Xp}{x y z:Int}{ah sd:Int}{w cm gr g d dc:Nat}{us:List Hr}{ks:List Kd}
theorem Mz{μ0:aK}{t1 ep:Nat}(W:dA μ w cm gr g d x y z ah sd .non [] [] [])(hd:μ[dc]?=aA (.frd ep (ks.map w5)))(F:ks.length<=1000)(hk:∀k∈ks,gK μ k)(nd:(ks.map (·.ho)).Nodup)(E:μ[t1]?=aA (.tab 1))(G:0<=ah)(hs:0<=sd)(I:μ0.length<=d)(dd:dc<μ0.length)(ch0:Ch [dc] μ0 μ)
  (q:∀r ep us,dA r w cm gr g d x y z ah sd .non us [] []->us.map Hr.cd=ks.map Kd.cd->(∀u∈us,u.l=aF/\(u.n=aF/\u.m=aF)/\μ0.length<=u.h/\μ0.length<=u.s)->Ch [dc] μ0 r->r[dc]?=aA (.frd ep (ks.map w5))->K .non r) :
  qh (qq.drop 8) [aA (.mut w),aA (bO x y z),aA (.int ah),aA (.int sd),aA (.mut dc),aF,aF] μ (En.fn K Z):=by
 have out:∀{b j:Nat} {a:MO},μ[j]?=aA a->(∀e l,a≠.frd e l)->(μ.set dc (.frd b (ks.map w5)))[j]?=aA a:=λ{b j a} e n=>by
  rw[cP (cE (zQ e hd (n _ _)))];exact e
 refine⟨_,.inr ⟨ep,hd⟩,λb=>?_⟩;have C0:CI μ0 (μ.set dc (.frd b (ks.map w5))) w cm gr g d dc t1 x y z ah sd ks 0 b []:=by
  have o:∀{j:Nat} {a:MO},μ[j]?=aA a->(∀e l,a≠.frd e l)->j∉[dc]:=λ{j a} e n=>by simpa using zQ e hd (n _ _)
  have ch:Ch [dc] μ (μ.set dc (.frd b (ks.map w5))):=Ch.set;refine⟨⟨out W.wo (λ_ _ e=>by cases e),W.bk.ch ch (o W.bk.com (λ_ _ e=>by cases e)) (o W.bk.lst (λ_ _ e=>by cases e)) (by simp),out W.gv (λ_ _ e=>by cases e),out W.dc (λ_ _ e=>by cases e),by simp,by simp,by simp,W.n1,W.n2,W.gg⟩,rfl,by simp,ch0.trans ch,aI hd,out E (λ_ _ e=>by cases e),λk A=>?_⟩;have B:=hk k A;exact⟨B.h1,B.h2,out B.ck (λ_ _ e=>by cases e)⟩
 rw[eO];refine zL (λn t r=>∃us i f,t=[aA (.mut w),aA (bO x y z),aA (.int ah),aA (.int sd),aA (.mut dc),i,f]/\CI μ0 r w cm gr g d dc t1 x y z ah sd ks n b us) ⟨[],_,_,rfl,C0⟩ ?_ ?_ ?_
 ·rintro n u t r p ⟨us,i,f,rfl,C⟩ N H;rw[c8] at p;cases c:ks[n]? with
  |none=>rw[c] at p;cases p
  |some k=>
   rw[c] at p;cases p;refine⟨_,rfl,?_⟩;exact C.step c nd F G hs I dd λi f D v J=>H _ _ ⟨v,i,f,rfl,J⟩
 ·rintro t r ⟨us,i,f,rfl,C⟩;rw[bG] at C;have cd:=C.cd;rw[lb (bC _)] at cd;exact q r b us C.W cd C.nw C.ch C.hd
 ·rintro n t r ⟨us,i,f,rfl,C⟩;exact C.hd
theorem M0{μ0:aK}{t1 ep:Nat}(hw:μ[w]?=aA (MO.obj 47 [(9,bO x y z),(14,.int ah),(15,.int sd)]))(J:μ0.length<=w)(hd:μ[dc]?=aA (.frd ep (ks.map w5)))(L:ks.length<=1000)(hk:∀k∈ks,gK μ k)(nd:(ks.map (·.ho)).Nodup)(G:μ[t1]?=aA (.tab 1))(N:0<=ah)(hs:0<=sd)(dd:dc<μ0.length)(ch0:Ch [dc] μ0 μ)
  (q:∀r ep us cm gr g d,dA r w cm gr g d x y z ah sd .non us [] []->us.map Hr.cd=ks.map Kd.cd->(∀u∈us,u.l=aF/\(u.n=aF/\u.m=aF)/\μ0.length<=u.h/\μ0.length<=u.s)->μ0.length<=gr->μ0.length<=g->Ch [dc] μ0 r->r[dc]?=aA (.frd ep (ks.map w5))->K .non r) :
  qh (qq.drop 4) [aA (.mut w),aA (bO x y z),aA (.int ah),aA (.int sd),aA (.mut dc),aF,aF] μ (En.fn K Z):=by
 have I:=(bH.mp hw).1;have U:=ch0.len;refine uT ?_;refine⟨rfl,?_⟩;have p:(μ++[MO.obj 43 [(9,bO x y z),(10,.mut (μ.length+1))],.lst []])[w]?=aA (MO.obj 47 [(9,bO x y z),(14,.int ah),(15,.int sd)]):=by rw[eN I];exact hw
 refine⟨_,_,p,by show (3:Nat)<900;decide,?_⟩;have f:=aI (y:=MO.obj 47 [(9,bO x y z),(14,.int ah),(15,.int sd),(23,.mut μ.length)]) p;have fc:Ch [w] μ ((μ++[MO.obj 43 [(9,bO x y z),(10,.mut (μ.length+1))],.lst []]).set w (MO.obj 47 [(9,bO x y z),(14,.int ah),(15,.int sd),(23,.mut μ.length)])):=⟨by simp,λj M F=>by
  have F:j≠w:=by simpa using F
  rw[cP (cE F),eN M]⟩
 have D:((μ++[MO.obj 43 [(9,bO x y z),(10,.mut (μ.length+1))],.lst []]).set w (MO.obj 47 [(9,bO x y z),(14,.int ah),(15,.int sd),(23,.mut μ.length)])).length=μ.length+2:=by simp
 have A:((μ++[MO.obj 43 [(9,bO x y z),(10,.mut (μ.length+1))],.lst []]).set w (MO.obj 47 [(9,bO x y z),(14,.int ah),(15,.int sd),(23,.mut μ.length)]))[μ.length]?=aA (MO.obj 43 [(9,bO x y z),(10,.mut (μ.length+1))]):=by
  rw[cP (by lia),fT (bC _)];simp
 have v:((μ++[MO.obj 43 [(9,bO x y z),(10,.mut (μ.length+1))],.lst []]).set w (MO.obj 47 [(9,bO x y z),(14,.int ah),(15,.int sd),(23,.mut μ.length)]))[μ.length+1]?=aA (.lst []):=by
  rw[cP (by lia),fT (by lia)];simp
 suffices H:∀b:aK,b[w]?=aA (MO.obj 47 [(9,bO x y z),(14,.int ah),(15,.int sd),(23,.mut μ.length)])->Ch [w] μ b->b.length=μ.length+2->b[μ.length]?=aA (MO.obj 43 [(9,bO x y z),(10,.mut (μ.length+1))])->b[μ.length+1]?=aA (.lst [])->qh (qq.drop 5) [aA (.mut w),aA (bO x y z),aA (.int ah),aA (.int sd),aA (.mut dc),aF,aF] b (En.fn K Z) from H _ f fc D A v
 clear p f fc D A v;intro b f fc D A v;refine⟨_,_,zk f,by show (4:Nat)<900;decide,_,_,aI (zk f),by show (5:Nat)<900;decide,?_⟩;have i:=aI (y:=MO.obj 47 [(9,bO x y z),(14,.int ah),(15,.int sd),(23,.mut μ.length),(24,.mut b.length),(25,.non)]) (aI (y:=MO.obj 47 [(9,bO x y z),(14,.int ah),(15,.int sd),(23,.mut μ.length),(24,.mut b.length)]) (zk (x:=MO.lst []) f));have fe:Ch [w] b (((b++[MO.lst []]).set w (MO.obj 47 [(9,bO x y z),(14,.int ah),(15,.int sd),(23,.mut μ.length),(24,.mut b.length)])).set w (MO.obj 47 [(9,bO x y z),(14,.int ah),(15,.int sd),(23,.mut μ.length),(24,.mut b.length),(25,.non)])):=((Ch.app.mono (by simp)).trans Ch.set).trans Ch.set;have C:(((b++[MO.lst []]).set w (MO.obj 47 [(9,bO x y z),(14,.int ah),(15,.int sd),(23,.mut μ.length),(24,.mut b.length)])).set w (MO.obj 47 [(9,bO x y z),(14,.int ah),(15,.int sd),(23,.mut μ.length),(24,.mut b.length),(25,.non)])).length=b.length+1:=by simp
 have t:(((b++[MO.lst []]).set w (MO.obj 47 [(9,bO x y z),(14,.int ah),(15,.int sd),(23,.mut μ.length),(24,.mut b.length)])).set w (MO.obj 47 [(9,bO x y z),(14,.int ah),(15,.int sd),(23,.mut μ.length),(24,.mut b.length),(25,.non)]))[b.length]?=aA (.lst []):=by
  rw[cP (by lia),cP (by lia)];exact zf
 suffices H:∀c:aK,c[w]?=aA (MO.obj 47 [(9,bO x y z),(14,.int ah),(15,.int sd),(23,.mut μ.length),(24,.mut b.length),(25,.non)])->Ch [w] b c->c.length=b.length+1->c[b.length]?=aA (.lst [])->qh (qq.drop 7) [aA (.mut w),aA (bO x y z),aA (.int ah),aA (.int sd),aA (.mut dc),aF,aF] c (En.fn K Z) from H _ i fe C t
 clear i fe C t;intro c i fe C t;refine⟨_,_,zk i,by show (6:Nat)<900;decide,?_⟩;have E:=aI (y:=yq x y z ah sd μ.length b.length c.length .non) (zk (x:=MO.dic []) i);have ff:Ch [w] c ((c++[MO.dic []]).set w (yq x y z ah sd μ.length b.length c.length .non)):=(Ch.app.mono (by simp)).trans Ch.set;have O:((c++[MO.dic []]).set w (yq x y z ah sd μ.length b.length c.length .non))[c.length]?=aA (.dic []):=by
  rw[cP (by lia)];exact zf
 have all:Ch [w] μ ((c++[MO.dic []]).set w (yq x y z ah sd μ.length b.length c.length .non)):=(fc.trans fe).trans ff;have B:∀{j:Nat} {a:MO},μ[j]?=aA a->a≠MO.obj 47 [(9,bO x y z),(14,.int ah),(15,.int sd)]->j∉[w]:=λ{j a} e n=>by simpa using zQ e hw n
 have W:dA ((c++[MO.dic []]).set w (yq x y z ah sd μ.length b.length c.length .non)) w μ.length (μ.length+1) b.length c.length x y z ah sd .non [] [] []:=
  ⟨E,⟨(fe.trans ff).get A (by simp;lia),(fe.trans ff).get v (by simp;lia),by simp,by simp⟩,ff.get t (by simp;lia),O,by simp,by simp,by simp,by simp,by simp,by lia⟩
 refine Mz (μ0:=μ0) (t1:=t1) (ep:=ep) W (all.get hd (B hd (λe=>by cases e))) L (λk o=>⟨(hk k o).h1,(hk k o).h2,all.get (hk k o).ck (B (hk k o).ck (λe=>by cases e))⟩) nd (all.get G (B G (λe=>by cases e))) N hs (by lia) dd (Ch.geS ch0 all (by simpa using J)) λr ep us T S R Q P=>q r ep us _ _ _ _ T S R (by lia) (by lia) Q P
theorem On{t1:Nat}(ho:μ[dc]?=aA (.dic (ks.map w5)))(w:ks≠[])(v:ks.length<=1000)(hk:∀k∈ks,gK μ k)(nd:(ks.map (·.ho)).Nodup)(t:μ[t1]?=aA (.tab 1))(A:0<=ah)(hs:0<=sd)
  (q:∀j ep us cm gr g d,dA j μ.length cm gr g d x y z ah sd .non us [] []->us.map Hr.cd=ks.map Kd.cd->(∀u∈us,u.l=aF/\(u.n=aF/\u.m=aF)/\μ.length<=u.h/\μ.length<=u.s)->μ.length<=gr->μ.length<=g->Ch [dc] μ j->j[dc]?=aA (.frd ep (ks.map w5))->K .non j) :
  v_ [.mut μ.length,bO x y z,.int ah,.int sd,.mut dc] (μ++[.obj 47 []]) K Z:=by
 have dl:=(bH.mp ho).1;unfold v_;refine⟨rfl,?_⟩;refine Q5 (zk ho) w v (λk a=>⟨(hk k a).h1,(hk k a).h2,zk (hk k a).ck⟩) nd λep=>?_;have b:((μ++[MO.obj 47 []]).set dc (.frd ep (ks.map w5)))[μ.length]?=aA (.obj 47 []):=by rw[cP (by lia)];exact zf
 have o:((μ++[MO.obj 47 []]).set dc (.frd ep (ks.map w5)))[dc]?=aA (.frd ep (ks.map w5)):=aI (zk ho);have ch0:Ch [dc] μ ((μ++[MO.obj 47 []]).set dc (.frd ep (ks.map w5))):=(Ch.app.mono (by simp)).trans Ch.set;refine⟨_,_,b,by show (0:Nat)<900;decide,_,_,aI b,by show (1:Nat)<900;decide,_,_,aI (aI b),by show (2:Nat)<900;decide,?_⟩;have p:∀f:aK,Ch [dc] μ f->∀k∈ks,gK f k:=λf c k a=>⟨(hk k a).h1,(hk k a).h2,c.get (hk k a).ck (by simpa using zQ (hk k a).ck ho (λe=>by cases e))⟩;have r:=Ch.geS (Ch.geS (Ch.geS ch0 (Ch.set (i:=μ.length) (x:=MO.obj 47 [(9,bO x y z)])) (by simp)) (Ch.set (i:=μ.length) (x:=MO.obj 47 [(9,bO x y z),(14,.int ah)])) (by simp)) (Ch.set (i:=μ.length) (x:=MO.obj 47 [(9,bO x y z),(14,.int ah),(15,.int sd)])) (by simp);refine M0 (μ0:=μ) (t1:=t1) (ep:=ep) (aI (aI (aI b))) (bC _) ?_ v (p _ r) nd (r.get t (by simpa using zQ t ho (λe=>by cases e))) A hs dl r q;rw[cP (by lia),cP (by lia),cP (by lia)];exact o
end
section
variable {μ μ1 μ2:aK}{K:T->aK->Prop}{Z:Xp}{st:Int}{ts:List Tn}{i j:Nat}
theorem MN(h0:0<=v)(h1:v<3)(d:-40<=a)(c:-40<=b):∃w:Int,vH [T.int 0,.int a,.int b] v=aA (.int w) /\ -40<=w:=by
 have:v=0\/v=1\/v=2:=by lia
 rcases this with rfl|rfl|rfl
 ·exact⟨0,rfl,by lia⟩
 ·exact⟨a,rfl,d⟩
 ·exact⟨b,rfl,c⟩
theorem Mv(h0:0<=v)(h1:v<2)(b:-40<=a):∃w:Int,vH [T.int 0,.int a] v=aA (.int w) /\ -40<=w:=by
 have:v=0\/v=1:=by lia
 rcases this with rfl|rfl
 ·exact⟨0,rfl,by lia⟩
 ·exact⟨a,rfl,b⟩
structure Dn(st:Int)(ts:List Tn):Prop where
 r:oP ts
 l:ts.length<=3
 s0:-1000<=st
 t0:∀p∈ts,-1000<=p.2.1
theorem Sw(hs:St μ i)(k:-500<=bg)(q:∀st ts g,Dn st ts->Cl μ i g ts->K (.tup [.int st,.mut μ.length]) g):wa [.mut i,.int bg] μ K Z:=by
 have hi:i<μ.length:=by
  obtain⟨a,b,c,h⟩:=hs;exact (bH.mp h).1
 have M:Cl μ i (μ++[.lst []]) []:=by
  obtain⟨a,b,c,h⟩:=hs;refine⟨hi,by simp,λj h1 h2=>?_,⟨a,b,c,zk h⟩,zf⟩;rw[eN (by lia)]
 unfold wa;refine⟨rfl,?_⟩;refine zC M.st (by decide) (by decide) λv1 T a1 b1 J=>?_;refine zC J.st (by decide) (by decide) λv2 S a2 b2 X=>?_;refine⟨⟨by lia,by lia⟩,?_⟩;have c2:=(M.up J).up X;refine zL (λn r g=>∃ts d A z,r=[aA (.mut i),aA (.int bg),aA (.mut μ.length),aA (.int d),A,z] /\ -505<=d/\oP ts/\(∀p∈ts,p.1<d /\ -1000<=p.2.1)/\ts.length=n/\Cl μ i g ts) ⟨[],_,_,_,rfl,by lia,.nil,by simp,rfl,c2⟩ ?_ ?_
 ·rintro n x r t Y ⟨ts,d,A,z,rfl,h5,B,k,D,l⟩ N hN;obtain⟨rfl,hnm⟩:=vQ Y;refine⟨_,rfl,?_⟩;refine zC l.st (by decide) (by decide) λu s a6 b6 f=>?_;refine zC f.st (by decide) (by decide) λI e P O o=>?_;refine zC o.st (by decide) (by decide) λv8 R a8 b8 W=>?_;obtain⟨w,ew,U⟩:=MN (a:=u) (b:=0-I) a8 b8 (by lia) (by lia);refine⟨_,ew,?_⟩;have F:=((l.up f).up o).up W;refine⟨⟨_,F.ls⟩,?_⟩;refine zC F.st (by decide) (by decide) λH Q a9 b9 V=>?_;have L:=F.up V;refine⟨_,L.ls,by rw[bG];unfold aZ;lia,?_⟩;have m:=L.app (p:=(d,d+w,decide (0<H)));refine zC m.st (by decide) (by decide) λv G a11 b11 y=>?_;refine hN _ _ ⟨ts++[(d,d+w,decide (0<H))],d+1+v,_,_,rfl,by lia,?_,?_,by simp[D],m.up y⟩
  ·unfold oP;rw[nv];exact⟨B,rG _ _,λa ha b E=>by rw[bU.mp E];exact (k a ha).1⟩
  ·intro p C;rcases b_.mp C with h|h
   ·have:=k p h;lia
   ·rw[bU.mp h];exact⟨by show d<_;lia,by show _<=d+w;lia⟩
 ·rintro r t ⟨ts,d,A,z,rfl,h5,B,k,D,l⟩;rw[vR] at D;refine zC l.st (by decide) (by decide) λu s a6 b6 f=>?_;refine zC f.st (by decide) (by decide) λI e P O o=>?_;obtain⟨w,ew,U⟩:=Mv (a:=u-4) P O (by lia);refine⟨_,ew,?_⟩;exact q w ts e ⟨B,by lia,by lia,λp C=>(k p C).2⟩ ((l.up f).up o)
theorem Dn.low(d:Dn st ts)(h:0<=t):-1000000000000000<=zO st ts t:=by
 have s0:=d.s0;unfold zO;split
 ·rename_i p a;have h1:=d.t0 p (Eh.mp (List.mem_of_find?_eq_some a));have h2:p.1<=t:=by simpa using List.find?_some a
  split<;>lia
 ·lia
theorem Yp{p:Tn}{t:Int}:zO st (ts++[p]) t=if p.1<=t then p.2.1+(if p.2.2 then t-p.1 else 0) else zO st ts t:=by
 unfold zO;rw[List.reverse_append];show (match (p::ts.reverse).find? _ with|some p=>_|none=>_)=_;rw[oy];by_cases h:p.1<=t
 ·rw[decide_eq_true h,if_pos h]
 ·rw[decide_eq_false h,if_neg h]<;>rfl
theorem We(h:μ[j]?=aA (.lst (ts.map qc)))(q:K (.int (zO st ts t)) μ):wF [.tup [.int st,.mut j],.int t] μ K Z:=by
 unfold wF;refine⟨rfl,_,rfl,_,h,?_⟩;refine zL (λn i d=>d=μ/\∃m l k,i=[aA (.tup [.int st,.mut j]),aA (.int t),aA (.int st),aA (.mut j),aA (.int (zO st (ts.take n) t)),m,l,k]) ⟨rfl,_,_,_,rfl⟩ ?_ ?_ ?_
 ·rintro n u i d g ⟨rfl,m,l,k,rfl⟩ N r;rw[c8] at g;cases o:ts[n]? with
  |none=>rw[o] at g;cases g
  |some p=>
   rw[o] at g;cases g;refine⟨_,rfl,?_⟩;have e:zO st (ts.take (n+1)) t=if p.1<=t then p.2.1+(if p.2.2 then t-p.1 else 0) else zO st (ts.take n) t:=by
    rw[gB,o];exact Yp
   refine qb (λf=>?_) (λf=>?_)
   ·rw[if_pos f] at e;obtain⟨a,b,c⟩:=p;cases c with
    |true=>
     have e:zO st (ts.take (n+1)) t=b+(t-a)*1:=by rw[e,Int.mul_one];rfl
     refine⟨.inr ⟨(by show -big<(1:Int);decide),(by show (1:Int)<big;decide)⟩,?_⟩;refine r _ _ ?_;rw[e];exact⟨rfl,_,_,_,rfl⟩
    |false=>
     have e:zO st (ts.take (n+1)) t=b+(t-a)*0:=by rw[e,Int.mul_zero];rfl
     refine⟨.inr ⟨(by show -big<(0:Int);decide),(by show (0:Int)<big;decide)⟩,?_⟩;refine r _ _ ?_;rw[e];exact⟨rfl,_,_,_,rfl⟩
   ·rw[if_neg f] at e;refine r _ _ ?_;rw[e];exact⟨rfl,_,_,_,rfl⟩
 ·rintro i d ⟨rfl,m,l,k,rfl⟩;rw[bG,lb (bC _)];exact q
 ·rintro n i d ⟨rfl,m,l,k,rfl⟩;exact h
end
section
variable {μ μ2:aK}{K:T->aK->Prop}{Z:Xp}{ts1 ts2:List Tn}{j1 j2:Nat}{s1 s2 b e y z:Int}{es:List B3}
def CZ (s1:Int)(ts1:List Tn)(s2:Int)(ts2:List Tn)(b e v:Int):Prop:=∀t a,b<=t->t<=a->a<=e->zO s1 ts1 t-zO s2 ts2 a<=v
structure sN(s1:Int)(ts1:List Tn)(s2:Int)(ts2:List Tn)(e:Int)(n:Nat)(lo:Option Int)(F:List Int):Prop where
 c1:lo=aF->n=0
 c2:∀l,lo=aA l->∀t',e-n<t'->t'<=e->l<=zO s2 ts2 t'
 c3:∀t t',e-n<t->t<=t'->t'<=e->∃f∈F,zO s1 ts1 t-zO s2 ts2 t'<=f
 c4:F.length=n
theorem sN.step{F:List Int}(I:sN s1 ts1 s2 ts2 e n lo F)(h1:l<=zO s2 ts2 (e-n))(h2:∀k,lo=aA k->l<=k):sN s1 ts1 s2 ts2 e (n+1) (aA l) (F++[zO s1 ts1 (e-n)-l]):=by
 have low:∀t',e-(n+1:Nat)<t'->t'<=e->l<=zO s2 ts2 t':=λt' g b=>by
  by_cases w:t'=e-n
  ·rw[w];exact h1
  ·cases a:lo with
   |none=>have:=I.c1 a;lia
   |some k=>exact mT (h2 k a) (I.c2 k a t' (by lia) b)
 refine⟨nofun,λl' w=>by cases w;exact low,λt t' g b c=>?_,by simp[I.c4]⟩;by_cases w:t=e-n
 ·refine⟨_,dF _ (bU.mpr rfl),?_⟩;have:=low t' (by lia) c;rw[w];lia
 ·obtain⟨f,d,q⟩:=I.c3 t t' (by lia) b c;exact⟨f,d_ _ d,q⟩
theorem KA{a c:Int}{n:Nat}{t:T}(h:(ya a c)[n]?=aA t):t=.int (a+n*(-1))/\(n:Int)<a-c:=by
 unfold ya at h;rw[c8] at h;obtain⟨i,d,rfl⟩:=lX.mp h;obtain⟨e,b⟩:=bH.mp d;rw[t_] at e;rw[List.getElem_range] at b;subst b;exact⟨rfl,by omega⟩
theorem KG:(ya a c).length=(a-c).toNat:=by unfold ya;simp
theorem Rr(h1:μ[j1]?=aA (.lst (ts1.map qc)))(h2:μ[j2]?=aA (.lst (ts2.map qc)))(D:b<=e)(hw:e<=b+1000)(q:∀v d,CZ s1 ts1 s2 ts2 b e v->Ch [] μ d->K (.int v) d) :
  vp [.tup [.int s1,.mut j1],.tup [.int s2,.mut j2],.int b,.int e] μ K Z:=by
 have C:=(bH.mp h1).1;have B:=(bH.mp h2).1;unfold vp;refine⟨rfl,rfl,?_⟩;refine zL (λn g d=>∃(lo:Option Int) (F:List Int) (m j:Option T),g=[aA (.tup [.int s1,.mut j1]),aA (.tup [.int s2,.mut j2]),aA (.int b),aA (.int e),aA (.mut μ.length),aA (fR lo),m,j]/\sN s1 ts1 s2 ts2 e n lo F/\d[μ.length]?=aA (.lst (F.map T.int))/\Ch [] μ d) ?_ ?_ ?_
 ·exact⟨aF,[],_,_,rfl,⟨λ_=>rfl,nofun,λt r p c s=>by lia,rfl⟩,zf,Ch.app⟩
 ·rintro n u g d x ⟨lo,F,m,j,rfl,I,a,ch⟩ N A;obtain⟨rfl,y⟩:=KA x;have en:e+(n:Int)*(-1)=e-n:=by lia
  rw[en];refine⟨_,rfl,?_⟩;refine We (ch.get h2 (by simp)) ?_;have fin:∀(l:Int),l<=zO s2 ts2 (e-n)->(∀k,lo=aA k->l<=k)->qh [zF (Vg (eV 4) (zd .Sub (z9 wF [eV 0,eV 6]) (eV 5)))] [aA (.tup [.int s1,.mut j1]),aA (.tup [.int s2,.mut j2]),aA (.int b),aA (.int e),aA (.mut μ.length),aA (.int l),aA (.int (e-n)),aA (.int (zO s2 ts2 (e-n)))] d ((En.fn K Z).turn N):=λl p c=>by
   refine⟨⟨_,a⟩,?_⟩;refine We (ch.get h1 (by simp)) ?_;refine⟨_,a,by rw[bG,I.c4];unfold aZ;lia,?_⟩;refine A _ _ ⟨aA l,F++[zO s1 ts1 (e-n)-l],_,_,rfl,I.step p c,?_,Ch.geS ch Ch.set (by simp)⟩;rw[eM];exact aI a
  cases lo with
  |none=>exact fin _ (hZ _) (λk w=>by cases w)
  |some l=>
   refine qb (λw=>?_) (λw=>?_)
   ·exact fin _ (hZ _) (λk i=>by cases i;lia)
   ·exact fin _ (by lia) (λk i=>by cases i;lia)
 ·rintro g d ⟨lo,F,m,j,rfl,I,a,ch⟩;rw[KG] at I;have fl:=I.c4;refine⟨_,a,_,j4 F,by rw[bG];lia,λn y z=>q n d (λt r p c s=>?_) ch⟩;obtain⟨f,o,h⟩:=I.c3 t r (by lia) c s;exact mT h (z f o)
structure l4(y z:Int)(es:List B3)(n m:Nat)(F:List Int):Prop where
 s:∀v∈F,∃f,q_ y z es f/\f.1=v
 c:∀(j k:Nat) (e e':B3),j<k->(k<n\/(k=n/\j<m))->es[j]?=aA e->es[k]?=aA e'->e.2.1≠e'.2.1->qY y z e-qY y z e'∈F
 l:F.length<=1000*n+m
theorem l4.skip{n m:Nat}{e f:B3}{F:List Int}(I:l4 y z es n m F)(h1:es[m]?=aA e)(h2:es[n]?=aA f)(eq:e.2.1=f.2.1):l4 y z es n (m+1) F:=by
 refine⟨I.s,λj k a c g h d b ne=>?_,by have:=I.l;lia⟩;by_cases w:k=n/\j=m
 ·obtain⟨rfl,rfl⟩:=w;rw[h1] at d;rw[h2] at b;cases d;cases b;exact absurd eq ne
 ·exact I.c j k a c g (by lia) d b ne
theorem l4.add{n m:Nat}{e b:B3}{F:List Int}(I:l4 y z es n m F)(i:m<n)(h1:es[m]?=aA e)(h2:es[n]?=aA b)(ne:e.2.1≠b.2.1):l4 y z es n (m+1) (F++[qY y z e-qY y z b]):=by
 refine⟨λg p=>?_,λj k a c o h f d ne=>?_,by have:=I.l;simp;lia⟩
 ·rcases b_.mp p with q|q
  ·exact I.s g q
  ·rw[bU.mp q];exact⟨_,⟨m,n,e,b,i,h1,h2,ne,rfl⟩,rfl⟩
 ·by_cases w:k=n/\j=m
  ·obtain⟨rfl,rfl⟩:=w;rw[h1] at f;rw[h2] at d;cases f;cases d;simp
  ·exact d_ _ (I.c j k a c o (by lia) f d ne)
theorem RY(Q:es.length<=1000)
  (J:(∀f,¬q_ y z es f)->∀d,Ch [] μ d->K .non d) (H:∀f,q_ y z es f->(∀g,q_ y z es g->g.1<=f.1)->∀d,Ch [] μ d->K (.int f.1) d) :
  xh [.lst (es.map lj),.lst (es.map λe=>T.int (qY y z e))] μ K Z:=by
 unfold xh;refine⟨rfl,⟨by lia,by rw[bG];lia⟩,?_⟩;rw[bG];refine zL (λn p d=>∃(F:List Int) (E q:Option T),p=[aA (.lst (es.map lj)),aA (.lst (es.map λe=>T.int (qY y z e))),aA (.mut μ.length),E,q]/\l4 y z es n 0 F/\d[μ.length]?=aA (.lst (F.map T.int))/\Ch [] μ d) ?_ ?_ ?_
 ·exact⟨[],_,_,rfl,⟨by simp,λj k e t A h=>by lia,by simp⟩,zf,Ch.app⟩
 ·rintro n u p d G ⟨F,E,q,rfl,I,i,ch⟩ N P;obtain⟨rfl,B⟩:=vQ G;have B:n<es.length:=by lia
  have b:es[n]?=aA es[n]:=eQ B;generalize es[n]=t at b;refine⟨_,rfl,⟨by show (_:Int)<=(n:Int);lia,by show (n:Int)<_;lia⟩,?_⟩;refine zL (λm p o=>∃(F:List Int) (q:Option T),p=[aA (.lst (es.map lj)),aA (.lst (es.map λe=>T.int (qY y z e))),aA (.mut μ.length),aA (.int n),q]/\l4 y z es n m F/\o[μ.length]?=aA (.lst (F.map T.int))/\Ch [] μ o) ⟨F,_,rfl,I,i,ch⟩ ?_ ?_
  ·rintro m u p o G ⟨F,q,rfl,I,i,ch⟩ R x;obtain⟨rfl,v⟩:=vQ G;have v:m<n:=by have:(m:Int)<(n:Int):=v;lia
   have r:es[m]?=aA es[m]:=eQ (by lia);generalize es[m]=e at r;refine⟨_,rfl,_,vg r,_,rfl,_,vg b,_,rfl,?_⟩;refine qR (λw=>?_) (λw=>?_)
   ·have w:(!decide (e.2.1=t.2.1))=aC:=w;have ne:e.2.1≠t.2.1:=by simpa using w
    have fl:=I.l;refine⟨⟨_,i⟩,_,vg (f:=λe=>T.int (qY y z e)) r,_,vg (f:=λe=>T.int (qY y z e)) b,_,i,by rw[bG];unfold aZ;lia,?_⟩;refine x _ _ ⟨F++[qY y z e-qY y z t],_,rfl,I.add v r b ne,?_,Ch.geS ch Ch.set (by simp)⟩;rw[aI i,eM];rfl
   ·have w:(!decide (e.2.1=t.2.1))=aD:=w;exact x _ _ ⟨F,_,rfl,I.skip r b (by simpa using w),i,ch⟩
  ·rintro p o ⟨F,q,rfl,I,i,ch⟩;rw[vR,show ((n:Int)).toNat=n by lia] at I;refine P _ _ ⟨F,_,_,rfl,⟨I.s,λj k a c A h O M ne=>I.c j k a c A (by lia) O M ne,by have:=I.l;lia⟩,i,ch⟩
 ·rintro p d ⟨F,E,q,rfl,I,i,ch⟩;rw[vR,show ((es.length:Int)).toNat=es.length by lia] at I;have all:∀g,q_ y z es g->g.1∈F:=λg ⟨j,k,e,t,A,r,b,ne,eg⟩=>by
   rw[eg];exact I.c j k e t A (.inl (bH.mp b).1) r b ne
  refine⟨_,i,_,j4 F,λC=>?_,λn B v=>?_⟩
  ·have C:F=[]:=ES.mp C;refine J (λf D=>?_) d ch;have:=all f D;rw[C] at this;cases this
  ·obtain⟨f,D,rfl⟩:=I.s n B;exact H f D (λg L=>v _ (all g L)) d ch
end
section
variable {μ μ1 μ2:aK}{K:T->aK->Prop}{Z:Xp}{b e ah:Int}{dk ep w:Nat}
structure Cw where
 ho:aG
 st:Int
 ts:List Tn
 j:Nat
abbrev kI(c:Cw):Key×T:=(.inr c.ho,.tup [.int c.st,.mut c.j])
abbrev Cw.cd(c:Cw):Cd:=(c.ho,c.st,c.ts)
noncomputable abbrev iV(cw:List Cw):T:=.lst (cw.map λc=>T.str c.ho)
theorem JX:∀{ks:List Cw} {k:Cw},k∈ks->(ks.map (·.ho)).Nodup->zD (.inr k.ho) (ks.map kI)=aA (.tup [.int k.st,.mut k.j])
 |[],_,h,_=>by cases h
 |v::r,k,h,n=>by
  rw[dW,lV] at n;show zD _ (kI v::r.map kI)=_;unfold zD;rcases cC.mp h with rfl|h
  ·rw[if_pos rfl]
  ·rw[if_neg (λe=>n.1 (cN.mpr ⟨k,h,(i7 e).symm⟩))];exact JX h n.2
structure eJ(μ:aK)(dk ep:Nat)(cw:List Cw):Prop where
 d:μ[dk]?=aA (.frd ep (cw.map kI))
 t:∀c∈cw,μ[c.j]?=aA (.lst (c.ts.map qc))
 n:(cw.map (·.ho)).Nodup
 l:cw.length<=3
theorem eJ.ch(C:eJ μ dk ep cw)(ch:Ch S μ μ1)(h:∀j∈S,μ.length<=j):eJ μ1 dk ep cw:=by
 have f:∀{j:Nat} {o:MO},μ[j]?=aA o->j∉S:=λ{j o} q b=>by have:=h j b;have:=(bH.mp q).1;lia
 exact⟨ch.get C.d (f C.d),λc a=>ch.get (C.t c a) (f (C.t c a)),C.n,C.l⟩
variable {cw:List Cw}{a:Cw}
def sL (cw:List Cw)(a:Cw)(b e:Int)(vs:List Int):Prop:=∀o∈cw,o.ho≠a.ho->∃v∈vs,CZ a.st a.ts o.st o.ts b e v
theorem Oa(C:eJ μ dk ep cw)(A:a∈cw)(L:b<=e)(hw:e<=b+1000)
  (q:∀vs g,sL cw a b e vs->vs.length<=3->Ch [] μ g->K (.lst (vs.map T.int)) g) :
  (qT 1 [4,6,19,11] (.one 0) (iE (eV 5)) [(tE (zy .NotEq (eV 0) (eV 3)))] (z9 vp [(gO uv (eV 2) (eV 3)),(gO uv (eV 2) (eV 0)),(eV 1),(eV 4)])) [s0,s1,s2,s3,aA (.int b),aA (iV cw),aA (.mut dk),s7,s8,Y,U,aA (.int e),Q,M,J,H,G,E,D,aA (.str a.ho)] μ K Z:=by
 refine⟨by rw[bG];have:=C.l;unfold aZ;lia,?_⟩;refine QI (λn r g=>∃vs:List Int,r=vs.map T.int/\(∀k<n,∀o,cw[k]?=aA o->o.ho≠a.ho->∃v∈vs,CZ a.st a.ts o.st o.ts b e v)/\vs.length<=n/\Ch [] μ g) ⟨[],rfl,λk h=>absurd h (rl _),bC _,Ch.refl⟩ ?_ ?_
 ·rintro n u r g i ⟨vs,rfl,I,z,ch⟩ P j;rw[c8] at i;cases f:cw[n]? with
  |none=>rw[f] at i;cases i
  |some o=>
   rw[f] at i;cases i;have y:=cD f;have m:=C.ch ch (by simp);refine⟨_,rfl,?_⟩;refine qR (λw=>?_) (λw=>?_)
   ·refine⟨_,_,.inr ⟨ep,m.d⟩,JX A C.n,_,_,.inr ⟨ep,m.d⟩,JX y C.n,?_⟩;refine Rr (m.t a A) (m.t o y) L hw λv p F x=>?_;refine j (aA (.int v)) p ⟨vs++[v],by rw[eM];rfl,λk h s c ne=>?_,by simp;lia,ch.trans x⟩;by_cases e:k=n
    ·rw[e,f] at c;cases c;exact⟨v,dF _ (bU.mpr rfl),F⟩
    ·obtain⟨B,O,N⟩:=I k (by lia) s c ne;exact⟨B,d_ _ O,N⟩
   ·have w:(!decide (o.ho=a.ho))=aD:=w;refine j aF g ⟨vs,rfl,λk h s c ne=>?_,by lia,ch⟩;by_cases e:k=n
    ·rw[e,f] at c;cases c;exact absurd (by simpa using w) ne
    ·exact I k (by lia) s c ne
 ·rintro r g ⟨vs,rfl,I,z,ch⟩;rw[bG] at I z;refine q vs g (λo f ne=>?_) (by have:=C.l;lia) ch;obtain⟨k,h⟩:=ii.mp f;exact I k (bH.mp h).1 o h ne
theorem MC(C:eJ μ dk ep cw)(W:b<=e)(hw:e<=b+1000)(P:f.1=v)
  (y:∀F:List Int,(∀a∈cw,sL cw a b e F)->∃u∈F,v<=ah+u) (q:∀d,K (.bl aC) d) :
  qh (qI.drop 17) [s0,s1,s2,aA (.int ah),aA (.int b),aA (iV cw),aA (.mut dk),Y,U,Q,G,aA (.int e),E,D,B,A,aA (.int v),aA (iW f),s18,s19] μ (En.fn K Z):=by
 refine zL (λn x d=>∃(F:List Int) (c:Option T),x=[s0,s1,s2,aA (.int ah),aA (.int b),aA (iV cw),aA (.mut dk),Y,U,Q,G,aA (.int e),E,D,B,A,aA (.int v),aA (iW f),aA (.mut μ.length),c]/\(∀k<n,∀a,cw[k]?=aA a->sL cw a b e F)/\F.length<=3*n/\d[μ.length]?=aA (.lst (F.map T.int))/\Ch [] μ d) ⟨[],_,rfl,λk p=>absurd p (rl _),by simp,zf,Ch.app⟩ ?_ ?_
 ·rintro n u x d i ⟨F,c,rfl,I,V,t,ch⟩ N hN;rw[c8] at i;cases m:cw[n]? with
  |none=>rw[m] at i;cases i
  |some a=>
   rw[m] at i;cases i;have R:=(bH.mp m).1;have cl:=C.l;refine⟨_,rfl,⟨_,t⟩,?_⟩;refine Oa (C.ch ch (by simp)) (cD m) W hw λM L fv lv s=>?_;have r:=s.get t (by simp);refine⟨_,_,r,.inl rfl,by rw[bG,bG];unfold aZ;lia,?_⟩;refine hN _ _ ⟨F++M,_,rfl,λk p a' g o j ne=>?_,by rw[ig];lia,?_,Ch.geS (ch.trans s) Ch.set (by simp)⟩
   ·by_cases w:k=n
    ·rw[w,m] at g;cases g;obtain⟨v,H,z⟩:=fv o j ne;exact⟨v,dF _ H,z⟩
    ·obtain⟨v,H,z⟩:=I k (by lia) a' g o j ne;exact⟨v,d_ _ H,z⟩
   ·rw[eM];exact aI r
 ·rintro x d ⟨F,c,rfl,I,V,t,ch⟩;rw[bG] at I;obtain⟨u,J,h⟩:=y F λa X=>by
   obtain⟨k,p⟩:=ii.mp X;exact I k (bH.mp p).1 a p
  refine⟨_,rfl,?_⟩;refine kD P ?_;refine⟨_,t,_,j4 F,by rw[bG];exact List.length_pos_of_mem J,λn R S=>?_⟩;have hh:=S u J;have O:K (.bl (decide (v<=ah+n))) d:=by rw[decide_eq_true (by lia)];exact q _
  exact O
end
section
variable {μ μ1 μ2:aK}{K:T->aK->Prop}{Z:Xp}{e x y z ah sd t0 t1:Int}{es:List B3}{dk ep w cm gr g d i0 B m:Nat}{cw:List Cw}{a:Cw}{cs:List Cd}
theorem Rz{F:List Int}(Bk:l9 (cw.map Cw.cd) x y z ah t0 t1 es)(v:q_ y z es f)(B:∀a∈cw,sL cw a t0 t1 F):∃u∈F,f.1<=ah+u:=by
 obtain⟨j,k,e,b,s,q,h,ne,rfl⟩:=v;have em:=cD q;have i:=cD h;obtain⟨c,w,m,H,p⟩:=Bk.rd e em;obtain⟨I,n,d,g,r⟩:=Bk.rd b i;obtain⟨a,A,rfl⟩:=cN.mp w;obtain⟨l,o,rfl⟩:=cN.mp n;have m:e.2.1=a.ho:=m;have d:b.2.1=l.ho:=d;have up:e.1<=b.1:=by
  obtain⟨D,G⟩:=bH.mp q;obtain⟨C,E⟩:=bH.mp h;have:=mB.mp Bk.up j k D C s;rw[G,E] at this;exact this
 obtain⟨u,t,ap⟩:=B a A l o (by rw[←m,←d];exact cE ne);have:=ap e.1 b.1 (Bk.tm e em).1 up (Bk.tm b i).2;refine⟨u,t,?_⟩;have p:qY y z e<=zO a.st a.ts e.1+ah:=p;have g:zO l.st l.ts b.1<=qY y z b:=g;show qY y z e-qY y z b<=ah+u;lia
theorem Pt(W:dA μ w cm gr g d x y z ah sd r us j ps)(q:K (.lst j) μ):wy [.mut w] μ K Z:=by
 unfold wy;refine⟨rfl,_,_,_,W.wo,rfl,?_⟩;exact⟨_,W.gv,q⟩
theorem Nk(W:fE μ B w cm gr g d i0 300 y z ah sd cs t0 t1 m)(hm:m<=64)(x:t1<=t0+1000)(C:eJ μ dk ep cw)(J:cs=cw.map Cw.cd)(q:∀j,K (.bl aC) j) :
  qh (qI.drop 12) [s0,s1,aA (.tup [.int 300,.int y,.int z]),aA (.int ah),aA (.int t0),aA (iV cw),aA (.mut dk),s7,Y,U,aA (.mut w),aA (.int t1),I,H,G,E,D,A,u,r] μ (En.fn K Z):=by
 obtain⟨p,S,es,T,o,X,h2,h3,n,h5,h6,b1,b2,b3,b4⟩:=W.ex;obtain⟨R,Q,P,O,M⟩:=id W.N.s;have el:es.length<=1000:=by lia
 refine⟨_,o.wo,?_⟩;refine Pt o ?_;refine⟨by rw[bG];unfold aZ;lia,?_⟩;refine w8 lj (λe=>aA (.int (qY y z e))) (λv _ V l=>⟨_,rfl,_,rfl,⟨by lia,by lia⟩,_,rfl,⟨by lia,by lia⟩,l⟩) ?_ trivial;rw[ni];subst J;refine RY el (λno h c=>?_) λf k t h c=>?_
 ·refine⟨_,rfl,_,rfl,_,rfl,rfl,?_⟩;refine vn (by lia) (by lia) (by lia) ?_;refine⟨rfl,_,rfl,rfl,?_⟩;refine QU W.N.s n.nm el (λ_ b a=>?_) λg i _ b a=>absurd i (no g);exact q _
 ·refine⟨_,rfl,_,rfl,_,rfl,rfl,?_⟩;refine vn (by lia) (by lia) (by lia) ?_;refine⟨rfl,_,rfl,rfl,?_⟩;refine QU W.N.s n.nm el (λno b a=>absurd k (no f)) λg i mg b a=>?_;have e1:=t g i;have e2:=mg f k;exact MC ((C.ch c (by simp)).ch a (by simp)) W.t01 x (by lia) (λF L=>Rz n k L) q
end
section
variable {μ μ1 μ2:aK}{K:T->aK->Prop}{Z:Xp}{e y z ah sd t0:Int}{dk ep w cm gr g d i0 B m:Nat}{cw:List Cw}{a:Cw}{cs:List Cd}
structure Cb(B dk:Nat)(cw:List Cw):Prop where
 d:dk<B
 j:∀c∈cw,c.j<B
theorem eJ.lo(C:eJ μ dk ep cw)(L:Lo B μ μ1)(D:Cb B dk cw):eJ μ1 dk ep cw:=
 ⟨L.get D.d C.d,λc a=>L.get (D.j c a) (C.t c a),C.n,C.l⟩
theorem Sm{ns:List Int}{a:Int}{j:Nat}{t:T}{lo hi:Option Int}(h:([T.int a]++yl (ns.map T.int) lo hi)[j]?=aA t):∃c,t=.int c:=by
 rcases b_.mp (cD h) with h|h
 ·exact⟨a,bU.mp h⟩
 ·obtain⟨n,_,e⟩:=cN.mp (UO h);exact⟨n,e.symm⟩
theorem B9{α:Type}{xs:List α}:(yl xs (aA 5) (aA 35)).length<=30:=by
 unfold yl Uh;simp only[gV,t5];simp;omega
theorem Up.ch{i:Nat}(u:Up μ i μ1):Ch [i] μ μ1:=⟨i9 u.len.symm,λj b a=>u.ot j (by simpa using a)⟩
theorem ixH{k:Int}(h0:0<=k)(h1:k<cw.length):∃a∈cw,vH (cw.map λc=>T.str c.ho) k=aA (.str a.ho):=by
 refine⟨cw[k.toNat]'(by lia),Ei _,?_⟩;rw[ZI h0 (by simpa using h1),c8,eQ (by lia)];rfl
theorem Mu{s0 L U K q A p o m l f e:Option T}{E:En}{N:Sl->aK->Prop}{tm tn:Int}{i n:Nat}(W':fE μ B w cm gr g d i0 300 y z ah sd cs t0 tm n)(hn:n<=60)(Y:z<=10)(cl:cw.length<=3)(r:B<=μ.length)(n0:1<=cw.length)(V:cs=cw.map Cw.cd)(J:tm<=tn)(tu:tn<=t0+60)(ch:Ch [] μ μ1)(st:St μ1 i)(hi:μ.length<=i)
  (hN:∀C a j,fE j B w cm gr g d i0 300 y z ah sd cs t0 tn (n+1)->Lo B μ j->N [s0,aA (.mut i),aA (.tup [.int 300,.int y,.int z]),aA (.int ah),aA (.int t0),aA (iV cw),aA (.mut dk),L,a,K,aA (.mut w),aA (.int tn),q,C,p,o,m,l,f,e] j) :
  qh [(zp 8 (bD (eV 5) (z9 zm [(eV 1),(cS kN (eV 5))]))),(zp 13 (v5 [(eC (.str "ask")),(eV 11),(eV 8),(zd .Add (eC (.int 1)) (z9 zm [(eV 1),(bD (eV 2) (eC (.int 2)))]))])),(bW (tE (zy .Eq (z9 zm [(eV 1),(eC (.int 9))]) (eC (.int 8)))) [(zp 13 (v5 [(eC (.str "lease")),(eV 11),(eV 8),(eC .non),(zd .Add (eC (.int 1)) (z9 zm [(eV 1),(eC (.int 40))]))]))] []),(zF (z9 wj [(eV 10),(eV 13)]))] [s0,aA (.mut i),aA (.tup [.int 300,.int y,.int z]),aA (.int ah),aA (.int t0),aA (iV cw),aA (.mut dk),L,U,K,aA (.mut w),aA (.int tn),q,A,p,o,m,l,f,e] μ1 (E.turn N):=by
 have Z:=W'.N.s.z1;refine zC st (by rw[bG];lia) (by rw[bG];lia) λv2 P X M I=>?_;rw[bG] at M;obtain⟨a,W,ea⟩:=ixH X M;refine⟨_,ea,_,rfl,?_⟩;refine zC I.st (by lia) (by lia) λR O a3 b3 H=>?_;refine zC H.st (by decide) (by decide) λv4 x a4 b4 G=>?_;have b:Ch [] μ x:=Ch.geS ch ((I.trans H).trans G).ch (by simpa using hi);have ca:a.cd∈cs:=by rw[V];exact cN.mpr ⟨a,W,rfl⟩
 refine qb (λh=>?_) (λh=>?_)
 ·refine zC G.st (by decide) (by decide) λQ u a5 b5 S=>?_;have t:Ch [] μ u:=Ch.geS b S.ch (by simpa using hi);exact W4 (wd:="lease") (c:=a.cd) (n:=1+Q) (hs:=.non) rfl ((W'.ch0 t).later J) ca (by lia) (.inl rfl) (by lia) λv j D F=>hN _ _ _ D ((Lo.of r t (by simp)).trans F)
 ·exact K6 (wd:="ask") (c:=a.cd) (k:=1+R) rfl ((W'.ch0 b).later J) ca (by lia) (by lia) (by lia) (by lia) (by lia) λv j D F=>hN _ _ _ D ((Lo.of r b (by simp)).trans F)
theorem Nz{ns:List Int}{s1 M s8 J v t o k i h f e:Option T}(W:fE μ B w cm gr g d i0 300 y z ah sd cs t0 t0 m)(hm:m<=3)(Y:z<=10)(C:eJ μ dk ep cw)(D:Cb B dk cw)(hB:B<=μ.length)(n0:1<=cw.length)(P:cs=cw.map Cw.cd)(q:∀j,K (.bl aC) j) :
  qh (qI.drop 11) [aA (.lst (ns.map T.int)),s1,aA (.tup [.int 300,.int y,.int z]),aA (.int ah),aA (.int t0),aA (iV cw),aA (.mut dk),M,s8,J,aA (.mut w),aA (.int t0),v,t,o,k,i,h,f,e] μ (En.fn K Z):=by
 have z1:=W.N.s.z1;have cl:=C.l;refine vN (by decide) λc4=>?_;refine⟨by show 1+(yl (ns.map T.int) (aA 5) (aA 35)).length<=aZ;have:=B9 (xs:=ns.map T.int);unfold aZ;lia,?_⟩;refine zL (λn p j=>∃(tm:Int) (A x c b:Option T),p=[aA (.lst (ns.map T.int)),A,aA (.tup [.int 300,.int y,.int z]),aA (.int ah),aA (.int t0),aA (iV cw),aA (.mut dk),M,x,J,aA (.mut w),aA (.int tm),c,b,o,k,i,h,f,e]/\tm<=t0+60/\fE j B w cm gr g d i0 300 y z ah sd cs t0 tm (m+n)/\Lo B μ j) ⟨_,_,_,_,_,rfl,by lia,W,bC _,λ_ _=>rfl⟩ ?_ ?_
 ·rintro n u p j O ⟨tm,A,x,c,b,rfl,F,G,L⟩ N hN;have hn:n<=30:=by
   have Q:=(bH.mp O).1;rw[ig] at Q;have h2:=B9 (xs:=ns.map T.int);simp only[wP] at Q;lia
  obtain⟨U,rfl⟩:=Sm O;have E:B<=j.length:=cL hB L.1;refine⟨_,rfl,?_⟩;refine xX λS R=>?_;have r:St (j++[.lst [.int S,.int R,.int 0]]) j.length:=⟨S,R,0,zf⟩;refine zC r (by decide) (by decide) λH X a1 b1 I=>?_;refine Mu (tm:=tm) (tn:=if tm+H<t0+60 then tm+H else t0+60) G (by lia) Y cl E n0 P (by split<;>lia) (by split<;>lia) (Ch.geS Ch.app I.ch (by simp)) I.st (bC _) λb a V W6 L6=>?_;exact hN _ _ ⟨_,_,_,_,_,rfl,by split<;>lia,W6,L.trans L6⟩
 ·rintro p j ⟨tm,A,x,c,b,rfl,F,G,L⟩;have h2:=B9 (xs:=ns.map T.int);have h3:([T.int c4]++yl (ns.map T.int) (aA 5) (aA 35)).length<=31:=by rw[ig];simp only[wP];lia
  exact Nk G (by lia) (by lia) (C.lo L D) P q
end
section
variable {μ:aK}{K:T->aK->Prop}{Z:Xp}{b e y z ah sd t0:Int}{dk ep w cm gr g d i0 B:Nat}{cw:List Cw}{a:Cw}{cs:List Cd}
theorem P5{ns:List Int}{H P O G A o m k i h f e b:Option T}(W:fE μ B w cm gr g d i0 300 y z ah sd cs t0 t0 0)(Y:3<=y)(M:z<=10)(C:eJ μ dk ep cw)(D:Cb B dk cw)(U:B<=μ.length)(Q:1<=cw.length)(I:cs=cw.map Cw.cd)(q:∀j,K (.bl aC) j) :
  qh (qI.drop 9) [aA (.lst (ns.map T.int)),H,aA (.tup [.int 300,.int y,.int z]),aA (.int ah),aA (.int t0),aA (iV cw),aA (.mut dk),P,O,G,aA (.mut w),A,o,m,k,i,h,f,e,b] μ (En.fn K Z):=by
 have cl:=C.l;refine zL (λn x j=>∃(F E:Option T),x=[aA (.lst (ns.map T.int)),H,aA (.tup [.int 300,.int y,.int z]),aA (.int ah),aA (.int t0),aA (iV cw),aA (.mut dk),F,E,G,aA (.mut w),aA (.int t0),o,m,k,i,h,f,e,b]/\fE j B w cm gr g d i0 300 y z ah sd cs t0 t0 n/\Lo B μ j) ⟨_,_,rfl,W,bC _,λ_ _=>rfl⟩ ?_ ?_
 ·rintro n u x j R ⟨F,E,rfl,s,L⟩ N S;obtain⟨t,p,rfl⟩:=jL R;rw[c8] at p;cases r:cw[n]? with
  |none=>rw[r] at p;cases p
  |some a=>
   rw[r] at p;cases p;have hn:=(bH.mp r).1;have ca:a.cd∈cs:=by rw[I];exact cN.mpr ⟨a,cD r,rfl⟩
   refine⟨_,rfl,?_⟩;exact W4 (wd:="lease") (c:=a.cd) (n:=90) (hs:=.int (0+n)) rfl s ca (by lia) (.inr ⟨_,rfl,by lia,by lia⟩) (by decide) λv J V X=>S _ _ ⟨_,_,rfl,V,L.trans X⟩
 ·rintro x j ⟨F,E,rfl,s,L⟩;rw[vJ,bG] at s;exact Nz s cl M (C.lo L D) D (cL U L.1) Q I q
theorem Ny(hd:μ[dk]?=aA (.dic (cw.map kI)))(w:∀c∈cw,Dn c.st c.ts/\μ[c.j]?=aA (.lst (c.ts.map qc)))(nd:(cw.map (·.ho)).Nodup)(l3:cw.length<=3)
  (q:∀(ep:Nat) (ks:List Kd) (i:Nat) (d:aK),ks.map Kd.cd=cw.map Cw.cd->(∀k∈ks,d[k.c]?=aA (iY k.st k.ts))->Ch [dk] μ d->d[dk]?=aA (.frd ep (cw.map kI))->d[i]?=aA (.dic (ks.map w5))->K (.mut i) d) :
  (cS li (qT 2 [] (.tup [0,1]) (r4 (eV 6)) [] (v5 [(eV 0),(Qc 41 wO [(bD (eV 1) (eC (.int 0))),(bD (eV 1) (eC (.int 1)))])]))) [s0,s1,s2,s3,s4,s5,aA (.mut dk),s7,s8,Y,U,Q,J,I,H,G,E,D,C,A] μ K Z:=by
 refine⟨_,.inl hd,λep=>?_⟩;refine⟨by rw[bG,bG];unfold aZ;lia,?_⟩;have g:(μ.set dk (.frd ep (cw.map kI)))[dk]?=aA (.frd ep (cw.map kI)):=aI hd;have y:Ch [dk] μ (μ.set dk (.frd ep (cw.map kI))):=Ch.set;have p:∀c∈cw,(μ.set dk (.frd ep (cw.map kI)))[c.j]?=aA (.lst (c.ts.map qc)):=λc z=>y.get (w c z).2 (by simpa using zQ (w c z).2 hd (λe=>by cases e));generalize (μ.set dk (.frd ep (cw.map kI)))=M at g y p;refine QI (λn s d=>∃ks:List Kd,ks.map Kd.cd=(cw.take n).map Cw.cd/\s=(ks.map w5).map YH/\(∀k∈ks,d[k.c]?=aA (iY k.st k.ts))/\Ch [] M d) ⟨[],rfl,rfl,by simp,Ch.refl⟩ ?_ ?_ ?_
 ·rintro n u s d o ⟨ks,m,rfl,v,ch⟩ F x;rw[eO,c8] at o;cases t:cw[n]? with
  |none=>rw[t] at o;cases o
  |some c=>
   rw[t] at o;cases o;have cm:=cD t;obtain⟨dn,_⟩:=w c cm;refine⟨_,rfl,_,rfl,_,rfl,?_⟩;refine Qb (ch.get (p c cm) (by simp)) dn.r (by have:=dn.l;lia) ?_;refine⟨rfl,?_⟩;refine x (aA (.tup [.str c.ho,.mut d.length])) _ ⟨ks++[⟨c.ho,d.length,c.st,c.ts⟩],?_,?_,?_,ch.trans Ch.app⟩
   ·rw[eM,m,gB,t,eM];rfl
   ·rw[eM,eM];rfl
   ·intro k f;rcases b_.mp f with h|h
    ·exact zk (v k h)
    ·rw[bU.mp h];exact zf
 ·rintro s d ⟨ks,m,rfl,v,ch⟩;rw[bG,bG,lb (bC _)] at m;have B:ks.map (·.ho)=cw.map (·.ho):=by
   have:=congrArg (sP (·.1)) m;rw[eO,eO] at this;exact this
  have L:ks.length=cw.length:=by have:=congrArg iR m;simpa using this
  refine⟨_,rfl,?_,by rw[bG];lia,?_⟩
  ·rw[eO,show (ks.map ((·.1) ∘ w5))=(ks.map (·.ho)).map (lD:aG->Key) by rw[eO];rfl,B];exact IM _ (λa b h e=>h (i7 e)) nd
  ·exact q ep ks _ _ m (λk f=>zk (v k f)) ((y.trans (ch.mono (by simp))).trans (Ch.app.mono (by simp))) (zk (ch.get g (by simp))) zf
 ·rintro n s d ⟨ks,m,rfl,v,ch⟩;exact ch.get g (by simp)
end
end NH.P
section
namespace NH.P
open PySem L2 NH
variable {μ μ1 μ2:aK}{K:T->aK->Prop}{Z:Xp}{y z ah t0 t1:Int}{dk:Nat}{cw:List Cw}{hs:List aG}
structure Hn(hs:List aG):Prop where
 ok:∀h∈hs,h.length<=aZ/\wB h=aC
 nd:hs.Nodup
 l3:hs.length<=3
 l1:1<=hs.length
theorem OX{ns:List Int}{s1 s7 s8 s9 s10 Y X V U S R Q P O:Option T}(H:Hn hs)(eh:cw.map (·.ho)=hs)(hd:μ[dk]?=aA (.dic (cw.map kI)))(F:∀c∈cw,Dn c.st c.ts/\μ[c.j]?=aA (.lst (c.ts.map qc)))(M:μ[0]?=aA (.tab 0))(L:μ[1]?=aA (.tab 1))
  (y3:3<=y) (y4:y<=4) (z1:1<=z) (z6:z<=6) (a0:0<=ah) (b0:0<=t0) (q:∀I,K (.bl aC) I) :
  qh (qI.drop 7) [aA (.lst (ns.map T.int)),s1,aA (.tup [.int 300,.int y,.int z]),aA (.int ah),aA (.int t0),aA (.lst (hs.map T.str)),aA (.mut dk),s7,s8,s9,s10,Y,X,V,U,S,R,Q,P,O] μ (En.fn K Z):=by
 have eL:hs.map T.str=cw.map λc=>T.str c.ho:=by rw[←eh,eO];rfl
 have E:(cw.map (·.ho)).Nodup:=by rw[eh];exact H.nd
 have ll:cw.length=hs.length:=by rw[←eh,bG]
 have l3:=H.l3;have l1:=H.l1;have dl:=(bH.mp hd).1;rw[eL];refine Ny hd F E (by lia) λep ks i b e1 hk ch r G=>?_;have e2:ks.map (·.ho)=cw.map (·.ho):=by
  have:=congrArg (sP (·.1)) e1;rw[eO,eO] at this;exact this
 have e3:ks.length=cw.length:=by have:=congrArg iR e1;simpa using this
 have i1:=(bH.mp G).1;have d1:=(bH.mp r).1;have m:∀{j:Nat} {o:MO},μ[j]?=aA o->(∀l,o≠.dic l)->b[j]?=aA o:=λ{j o} h n=>ch.get h (by simpa using zQ h hd (n _));have w:=m M (λ_ e=>by cases e);have N:=m L (λ_ e=>by cases e);have kd:∀k∈ks,gK b k:=λk A=>by
  have:k.ho∈hs:=by rw[←eh,←e2];exact cN.mpr ⟨k,A,rfl⟩
  exact⟨(H.ok _ this).1,(H.ok _ this).2,hk k A⟩
 refine⟨_,rfl,_,rfl,_,rfl,rfl,?_⟩;refine vn (by lia) (by lia) (by lia) ?_;refine⟨rfl,_,rfl,rfl,?_⟩;refine On (t1:=1) G (λe=>by rw[e] at e3;simp at e3;lia) (by lia) kd (by rw[e2];exact E) N a0 (by decide) λp ep2 J cm gr g d W c1 c2 c3 c4 c5 c6=>?_;refine⟨rfl,?_⟩;have di:dk≠i:=zQ r G (λe=>by cases e);have B:J.map Hr.cd=cw.map Cw.cd:=c1.trans e1;have s:∀{j:Nat} {o:MO},b[j]?=aA o->(∀l,o≠.dic l)->p[j]?=aA o:=λ{j o} h n=>c5.get h (by simpa using zQ h G (n _));have x:∀{j:Nat} {o:MO},b[j]?=aA o->j<b.length:=λh=>(bH.mp h).1;have rel:∀u∈J,∃c∈cw,c.cd=u.cd:=λu v=>by
  have:u.cd∈cw.map Cw.cd:=by rw[←B];exact cN.mpr ⟨u,v,rfl⟩
  obtain⟨c,f,e⟩:=cN.mp this;exact⟨c,f,e⟩
 have D:fE p b.length b.length cm gr g d 0 300 y z ah 0 (cw.map Cw.cd) t0 t0 0:=by
  refine⟨⟨⟨by decide,by lia,by lia,by lia,by lia⟩,by decide,by lia,a0⟩,⟨.non,J,[],[],W,.inl rfl,B,λu v=>?_,⟨by simp,by simp,oi,by simp⟩,bC _,by simp,bC _,c3,c4,λu v=>(c2 u v).2.2⟩,?_,s w (λ_ e=>by cases e),x w,hZ _,λc f t h1 h2=>?_⟩
  ·obtain⟨c,f,e⟩:=rel u v;have e:c.ho=u.ho:=congrArg (·.1) e;have hm:u.ho∈hs:=by rw[←eh,←e];exact cN.mpr ⟨c,f,rfl⟩
   obtain⟨n1,⟨n2,_⟩,_⟩:=c2 u v;exact⟨(H.ok _ hm).1,(H.ok _ hm).2,(by rw[n1];exact λa e=>by cases e),(by rw[n2];exact λa e=>by cases e)⟩
  ·rw[eO];exact E
  ·obtain⟨c',hc',rfl⟩:=cN.mp f;exact (F c' hc').1.low (by lia)
 have C:eJ p dk ep cw:=⟨s r (λ_ e=>by cases e),λc f=>s (m (F c f).2 (λ_ e=>by cases e)) (λ_ e=>by cases e),E,by lia⟩;exact P5 D y3 (by lia) C ⟨d1,λc f=>x (m (F c f).2 (λ_ e=>by cases e))⟩ c5.len (by lia) rfl q
theorem VA{ns:List Int}{S s7 Y R x w v s r p o m l k:Option T}{s6:Option T}(H:Hn hs)(I:μ[0]?=aA (.tab 0))(G:μ[1]?=aA (.tab 1))
  (W:3<=y) (V:y<=4) (z1:1<=z) (U:z<=6) (a0:0<=ah) (b0:0<=t0) (q:∀d,K (.bl aC) d) :
  qh (qI.drop 5) [aA (.lst (ns.map T.int)),S,aA (.tup [.int 300,.int y,.int z]),aA (.int ah),aA (.int t0),aA (.lst (hs.map T.str)),s6,s7,Y,R,x,w,v,s,r,p,o,m,l,k] μ (En.fn K Z):=by
 have l3:=H.l3;refine zL (λn F d=>∃(cw:List Cw) (L J:Option T),F=[aA (.lst (ns.map T.int)),S,aA (.tup [.int 300,.int y,.int z]),aA (.int ah),aA (.int t0),aA (.lst (hs.map T.str)),aA (.mut μ.length),L,J,R,x,w,v,s,r,p,o,m,l,k]/\cw.map (·.ho)=hs.take n/\d[μ.length]?=aA (.dic (cw.map kI))/\(∀c∈cw,Dn c.st c.ts/\d[c.j]?=aA (.lst (c.ts.map qc)))/\Ch [] μ d) ⟨[],_,_,rfl,rfl,zf,by simp,Ch.app⟩ ?_ ?_
 ·rintro n u F d hx ⟨cw,L,J,rfl,eh,hd,D,ch⟩ N hN;obtain⟨t,a,rfl⟩:=jL hx;rw[c8] at a;cases B:hs[n]? with
  |none=>rw[B] at a;cases a
  |some h=>
   rw[B] at a;cases a;have hn:=(bH.mp B).1;refine⟨_,rfl,?_⟩;refine vN (by lia) λc0=>?_;refine xX λP O=>?_;refine Sw (i:=d.length) ⟨P,O,0,zf⟩ (by lia) λst X g dn cl=>?_;have Q:Ch [] d g:=⟨by rw[cl.len];simp;lia,λj E _=>(cl.ot j (by lia) (by simp;lia)).trans (eN E)⟩;have b:=Q.get hd (by simp);have new:h∉cw.map (·.ho):=λC=>by
    rw[eh] at C;have A:(hs.take n++[h]).Nodup:=by
     rw[show hs.take n++[h]=hs.take (n+1) by rw[gB,B];rfl];exact H.nd.sublist (oj _ _)
    rw[lN] at A;exact A.2.2 h C h (by simp) rfl
   have M:(.inr h:Key)∉(cw.map kI).map (·.1):=λC=>by
    rw[eO] at C;obtain⟨c,f,e⟩:=cN.mp C;exact new (cN.mpr ⟨c,f,i7 e⟩)
   have ln:cw.length<=3:=by have:=congrArg iR eh;rw[bG,gV] at this;lia
   refine⟨_,b,by rw[bG];unfold aZ;lia,?_⟩;rw[VG M];have cs:Ch [μ.length] g (g.set μ.length (.dic (cw.map kI++[((.inr h:Key),T.tup [.int st,.mut (d++[MO.lst [T.int P,.int O,.int 0]]).length])]))):=Ch.set;refine hN _ _ ⟨cw++[⟨h,st,X,(d++[MO.lst [T.int P,.int O,.int 0]]).length⟩],_,_,rfl,?_,?_,?_,Ch.geS (ch.trans Q) cs (by simp)⟩
   ·rw[eM,eh,gB,B];rfl
   ·rw[eM];exact aI b
   ·intro c f;rcases b_.mp f with f|f
    ·have E:=Q.get (D c f).2 (by simp);exact⟨(D c f).1,cs.get E (by simpa using zQ E b (λe=>by cases e))⟩
    ·rw[bU.mp f];exact⟨dn,cs.get cl.ls (by simpa using zQ cl.ls b (λe=>by cases e))⟩
 ·rintro F d ⟨cw,L,J,rfl,eh,hd,D,ch⟩;rw[vJ,bG,lb (bC _)] at eh;exact OX H eh hd D (ch.get I (by simp)) (ch.get G (by simp)) W V z1 U a0 b0 q
theorem nG:Hn ["one","ones"]:=⟨λh a=>by
 simp only[cC,iz,or_false] at a;rcases a with rfl|rfl<;>exact⟨by decide,by decide +kernel⟩,by decide,by decide,by decide⟩
theorem hn3:Hn ["one","ones","a"]:=⟨λh a=>by
 simp only[cC,iz,or_false] at a;rcases a with rfl|rfl|rfl<;>exact⟨by decide,by decide +kernel⟩,by decide,by decide,by decide⟩
theorem Pn:Vh kT:=by
 intro w v;unfold kT;refine⟨rfl,?_⟩;refine vN (by decide) λx=>?_;refine xX λo n=>?_;have d:St ([MO.tab 0,MO.tab 1]++[.lst [.int o,.int n,.int 0]]) 2:=⟨o,n,0,rfl⟩;refine zC d (by decide) (by decide) λi t I E m=>?_;refine zC m.st (by decide) (by decide) λh s H D l=>?_;refine zC l.st (by decide) (by decide) λg r p C k=>?_;refine zC k.st (by decide) (by decide) λf q G B j=>?_;refine zC j.st (by decide) (by decide) λe a F A u=>?_;have U:=(((m.trans l).trans k).trans j).trans u;have c:a[0]?=aA (.tab 0):=(U.ot 0 (by decide)).trans rfl;have b:a[1]?=aA (.tab 1):=(U.ot 1 (by decide)).trans rfl;have:e=0\/e=1:=by lia
 rcases this with rfl|rfl
 ·exact VA (hs:=["one","ones"]) (y:=3+i) (z:=1+h) (ah:=g) (t0:=30+f) nG c b (by lia) (by lia) (by lia) (by lia) p (by lia) λ_=>rfl
 ·exact VA (hs:=["one","ones","a"]) (y:=3+i) (z:=1+h) (ah:=g) (t0:=30+f) hn3 c b (by lia) (by lia) (by lia) (by lia) p (by lia) λ_=>rfl
end NH.P
namespace NH.K92
open PySem L2 NH NH.P
theorem oV:Vh kT:=Pn
end NH.K92
end
namespace NH.K92
open PySem PySem.Spec PyProof.Rows L2 NH NH.P PySem.W
theorem Mg{P:List aB->Prop}(h:∀a0,P [a0]):∀us:List aB,us.length=1->P us:=PL.all (n:=1) h
theorem sg{P:List aB->Prop}(h:∀a0 d,P [a0,d]):∀us:List aB,us.length=2->P us:=PL.all (n:=2) h
theorem Go{P:List aB->Prop}(h:∀a0 g d,P [a0,g,d]):∀us:List aB,us.length=3->P us:=PL.all (n:=3) h
theorem Me{P:List aB->Prop}(h:∀a0 r j g d,P [a0,r,j,g,d]):∀us:List aB,us.length=5->P us:=PL.all (n:=5) h
theorem LG{P:List aB->Prop}(h:∀a0 s r j g d,P [a0,s,r,j,g,d]):∀us:List aB,us.length=6->P us:=PL.all (n:=6) h
theorem Ng{P:List aB->Prop}(h:∀a0 d,P [a0,d]):∀us:List aB,us.length+1=3->P us:=λus e=>sg h us (tc e)
theorem MZ{P:List aB->Prop}(h:∀a0 r j g d,P [a0,r,j,g,d]):∀us:List aB,us.length+1=6->P us:=λus e=>Me h us (tc e)
theorem all_mk {l:mO} {w:cV} {K:Frag} {h:aR} {mg:aG->Option aB} {fa C0 C1 C2 C3 C4 C5 C6 C7 C8 y O M L J o P0 cA0 P1 cA1 f0 N0 f1 N1 CC6 r H V p E q u a A t z Q I k f82:aE} {od0 an0 dd0 od1 an1 dd1 od30 an30 od44 an44 te44 od54 an54 te54 od65 an65 od82 an82:Option aE} {sl0 sl1 sl30 sl44 ts44 sl54 ts54 sl65 sl82:Array (Option aB)} {oc0 kV0 dc0 pm0 cd0 ct0 oc1 kV1 dc1 pm1 cd1 ct1 oc30 kV30 dc30 pm30 ct30 oc44 U Y S D ct44 td44 oc54 T W R C ct54 td54 oc65 kV65 dc65 pm65 ct65 oc82 kV82 dc82 pm82 cd82 ct82:aB} {nm0 qn0 nB qn1:aG} {bs0 sb0 bs1 sb1:List aB} {hd0 ab0 hd1 ab1:Bool} {sn0 sn1:List aG} {co0 co1:Option Bool} {ka0 kb0 kc0 kd0 ke0 ka1 kb1 kc1 kd1 ke1:Option aB} {tk13 tk14 tk15 tk20 tk21 tk22 tk25 tk26 tz54 ka55_0 kb55_0 ka55_1 kb55_1 ka55_2 kb55_2 ka55_3 kb55_3 ka55_4 kb55_4 ka55_5 kb55_5 ka55_6 kb55_6 tk56 tk57 tk58 tk59 tk60 tk61:Tok} {tn44 tn54 ep55:Nat} (X:K.In h) (G:h.Ns bR mg) (hfa:mg "law"=aA (.ref fa))
  (e0:nsIn K bR "HouseError"=aA (aA (.ref C0)))
  (e1:nsIn K bR "NoShape"=aA (aA (.ref C1)))
  (e2:nsIn K bR "NoName"=aA (aA (.ref C2)))
  (e3:nsIn K bR "NoClock"=aA (aA (.ref C3)))
  (e4:nsIn K bR "NoTime"=aA (aA (.ref C4)))
  (e5:nsIn K bR "NoHolder"=aA (aA (.ref C5)))
  (e6:nsIn K bR "NoLease"=aA (aA (.ref C6)))
  (e7:nsIn K bR "Ended"=aA (aA (.ref C7)))
  (e8:nsIn K bR "TooMany"=aA (aA (.ref C8)))
  (e9:nsIn K bR "Wait"=aA (aA (.ref y)))
  (e10:nsIn K bR "Empty"=aA (aA (.ref O)))
  (e11:nsIn K bR "NoNote"=aA (aA (.ref M)))
  (e12:nsIn K bR "Fallen"=aA (aA (.ref L)))
  (e13:nsIn K bR "NoRow"=aA (aA (.ref J)))
  (e14:nsIn K bR "Backward"=aA (aA (.ref o)))
  (xa0:K.lookup y=aA (iw nm0 qn0 y N0 bs0 (.ref C0::zI) hd0 sn0 sb0 ab0 co0 dd0 ka0 kb0 kc0 kd0 ke0 "ValueError.__new__"))
  (xb0:py K N0=aC)
  (xc0:nsIn K N0 "__init__"=aA (aA (.ref f0)))
  (xd0:pA K (.ref f0)=aA (.type "function"))
  (xe0:cZ K (.ref y) "__setattr__"=aA (aA (.builtin "object.__setattr__")))
  (xf0:cZ K (.ref y) "by"=aA aF)
  (xg0:lP K y=aC)
  (xh0:eS K (.ref y)=aC)
  (ha0:mu K (.ref C0) "__getattribute__"=aA (aA (.builtin "type.__getattribute__")))
  (ha1:s_ K C0 (.type "type")=aC)
  (ha2:sZ K (.ref C0) (.type "type") "__init__"=aA (.val (.builtin "ValueError.__init__")))
  (l0:K.lookup f0=aA ⟨oc0,od0,.func (fnOf "__init__" "Wait.__init__" (zG v7) (z0 v7) (zq v7) .none kV0 dc0 pm0 an0 cd0 ct0),sl0⟩)
  (c0:fD K cd0 "Wait.__init__"=aC)
  (k0:eS K (.ref f0)=aC)
  (xa1:K.lookup o=aA (iw nB qn1 o N1 bs1 (.ref C0::zI) hd1 sn1 sb1 ab1 co1 dd1 ka1 kb1 kc1 kd1 ke1 "ValueError.__new__"))
  (xb1:py K N1=aC)
  (xc1:nsIn K N1 "__init__"=aA (aA (.ref f1)))
  (xd1:pA K (.ref f1)=aA (.type "function"))
  (xe1:cZ K (.ref o) "__setattr__"=aA (aA (.builtin "object.__setattr__")))
  (xf1:cZ K (.ref o) "now"=aA aF)
  (xg1:lP K o=aC)
  (xh1:eS K (.ref o)=aC)
  (l1:K.lookup f1=aA ⟨oc1,od1,.func (fnOf "__init__" "Backward.__init__" (zG qC) (z0 qC) (zq qC) .none kV1 dc1 pm1 an1 cd1 ct1),sl1⟩)
  (c1:fD K cd1 "Backward.__init__"=aC)
  (k1:eS K (.ref f1)=aC)
  (p2:qg K "is_whole" uQ)
  (p3:qg K "is_size" Wg)
  (p4:qg K "is_from_nought" vo)
  (p5:qg K "is_below" Zc)
  (p6:V1 K CC6 "Shape" "Shape.__init__" xC)
  (p7:qg K "names_in" Z7)
  (p8:qg K "is_name" Qz)
  (p9:qg K "check_name" xt)
  (p10:qg K "check_part" xN)
  (p11:qg K "name_of" QA)
  (p12:qg K "parts_of" Z8)
  (v13:nsIn K bR "TIME_clocks"=aA (aA (.int 0 tk13)))
  (v14:nsIn K bR "READING"=aA (aA (.int 1 tk14)))
  (v15:nsIn K bR "RUNS"=aA (aA (.int 2 tk15)))
  (p16:qg K "is_turn" Wo)
  (p17:qg K "are_turns" yK)
  (p18:V1 K r "Clock" "Clock.__init__" xg)
  (p19:vm K r "reading" "Clock.reading" jb)
  (v20:nsIn K bR "HOUSE_leases"=aA (aA (.int 0 tk20)))
  (v21:nsIn K bR "FIRST"=aA (aA (.int 1 tk21)))
  (v22:nsIn K bR "UNTIL"=aA (aA (.int 2 tk22)))
  (p23:qg K "is_lease" ZM)
  (p24:qg K "check_lease" kc)
  (v25:nsIn K bR "LETTERS"=aA (aA (.str "abcdefghijklmnopqrstuvwxyz" tk25)))
  (v26:nsIn K bR "LONGEST_HOLDER"=aA (aA (.int 8 tk26)))
  (p27:qg K "is_holder" yC)
  (p28:V1 K H "Grant" "Grant.__init__" xk)
  (p29:qg K "meets" XM)
  (a30:nsIn K bR "least_begin"=aA (aA (.ref V)))
  (l30:K.lookup V=aA ⟨oc30,od30,.func (fnOf "least_begin" "least_begin" (zG qy) (z0 qy) (zq qy) .none kV30 dc30 pm30 an30 (.ref cA0) ct30),sl30⟩)
  (c30:fD K (.ref cA0) "least_begin"=aC)
  (zt0:nU K cA0 P0=aC)
  (zk0:K.lookup P0=aF)
  (zs0:P0≠nS)
  (k30:eS K (.ref V)=aC)
  (p31:qg K "least_house" jV)
  (p32:V1 K p "Common" "Common.__init__" jZ)
  (p33:vm K p "check_let" "Common.check_let" wM)
  (p34:vm K p "grants_of" "Common.grants_of" wQ)
  (p35:vm K p "free_lease" "Common.free_lease" wq)
  (p36:vm K p "let" "Common.let" xr)
  (p37:V1 K E "Batch" "Batch.__init__" xm)
  (p38:qg K "name_at" QF)
  (p39:qg K "names_of_batch" wH)
  (p40:qg K "place_above" ke)
  (p41:V1 K q "Seat" "Seat.__init__" yM)
  (p42:vm K q "jot" "Seat.jot" ZS)
  (q44:nsIn K bR "House"=aA (aA (.ref a)))
  (i44:cZ K (.ref a) "__init__"=aA (aA (.ref u)))
  (j44:isFn K (.ref u)=aC)
  (l44:K.lookup u=aA ⟨oc44,od44,.func (fnOf "__init__" "House.__init__" (zG zw) (z0 zw) (zq zw) (.ref A) U Y S an44 D ct44),sl44⟩)
  (d44:K.lookup A=aA ⟨td44,te44,.seq #[.none] tn44,ts44⟩)
  (c44:fD K D "House.__init__"=aC)
  (k44:eS K (.ref u)=aC)
  (mk44:nT K a=aC)
  (kk44:eS K (.ref a)=aC)
  (p45:vm K a "check_up" "House.check_up" vr)
  (p46:vm K a "note" "House.note" xD)
  (p47:vm K a "keep" "House.keep" jz)
  (p48:vm K a "take_lease" "House.take_lease" wi)
  (p49:vm K a "check_has_lease" "House.check_has_lease" qJ)
  (p50:vm K a "free_place" "House.free_place" wY)
  (p51:vm K a "next_batch" "House.next_batch" wZ)
  (p52:vm K a "mark_behind" "House.mark_behind" wm)
  (p53:vm K a "hand_out" "House.hand_out" wN)
  (i54:cZ K (.ref a) "ask"=aA (aA (.ref t)))
  (j54:isFn K (.ref t)=aC)
  (l54:K.lookup t=aA ⟨oc54,od54,.func (fnOf "ask" "House.ask" (zG zA) (z0 zA) (zq zA) (.ref z) T W R an54 C ct54),sl54⟩)
  (d54:K.lookup z=aA ⟨td54,te54,.seq #[.int 1 tz54] tn54,ts54⟩)
  (c54:fD K C "House.ask"=aC)
  (k54:eS K (.ref t)=aC)
  (v55:nsIn K bR "LENGTHS"=aA (aA (.ref Q)))
  (w55:K.lookup Q=aA {cls:=.type "dict",data:=.dict #[⟨i5 w "lease",.str "lease" ka55_0,.int 5 kb55_0⟩,⟨i5 w "ask",.str "ask" ka55_1,.int 4 kb55_1⟩,⟨i5 w "store",.str "store" ka55_2,.int 4 kb55_2⟩,⟨i5 w "take",.str "take" ka55_3,.int 4 kb55_3⟩,⟨i5 w "back",.str "back" ka55_4,.int 3 kb55_4⟩,⟨i5 w "fall",.str "fall" ka55_5,.int 3 kb55_5⟩,⟨i5 w "bare",.str "bare" ka55_6,.int 3 kb55_6⟩] ep55})
  (y55:(Q==ic)=aD)
  (v56:nsIn K bR "WORD"=aA (aA (.int 0 tk56)))
  (v57:nsIn K bR "TIME_rows"=aA (aA (.int 1 tk57)))
  (v58:nsIn K bR "HOLDER"=aA (aA (.int 2 tk58)))
  (v59:nsIn K bR "HOUSE_rows"=aA (aA (.int 3 tk59)))
  (v60:nsIn K bR "SPAN"=aA (aA (.int 4 tk60)))
  (v61:nsIn K bR "MANY"=aA (aA (.int 3 tk61)))
  (p62:qg K "has_form" uD)
  (p63:qg K "is_row" VF)
  (p64:qg K "are_clocks" xc)
  (i65:cZ K (.ref k) "come_up"=aA (aA (.ref I)))
  (j65:isFn K (.ref I)=aC)
  (l65:K.lookup I=aA ⟨oc65,od65,.func (fnOf "come_up" "World.come_up" (zG zS) (z0 zS) (zq zS) .none kV65 dc65 pm65 an65 (.ref cA1) ct65),sl65⟩)
  (c65:fD K (.ref cA1) "World.come_up"=aC)
  (zt1:nU K cA1 P1=aC)
  (zk1:K.lookup P1=aF)
  (zs1:P1≠nS)
  (k65:eS K (.ref I)=aC)
  (p66:V1 K k "World" "World.__init__" xJ)
  (p67:vm K k "check_row" "World.check_row" vh)
  (p68:vm K k "done" "World.done" jh)
  (p69:vm K k "put" "World.put" jY)
  (p70:vm K k "book" "World.book" jy)
  (p71:qg K "highest_two" k6)
  (p72:qg K "back_by" QM)
  (p73:qg K "_law_cell_at" yE)
  (p74:qg K "_law_mixed" Wj)
  (p75:qg K "_law_digits" ZN)
  (p76:qg K "_law_next" uy)
  (p77:qg K "_law_drawn_clock" ja)
  (p78:qg K "_law_reading" yS)
  (p79:qg K "_law_apart" yP)
  (p80:qg K "_law_told" Z3)
  (p81:qg K "_law_back" ZF)
  (a82:nsIn K bR "law"=aA (aA (.ref f82)))
  (l82:K.lookup f82=aA ⟨oc82,od82,.func (fnOf "law" "law" (zG qH) (z0 qH) (zq qH) .none kV82 dc82 pm82 an82 cd82 ct82),sl82⟩)
  (c82:fD K cd82 "law"=aC)
  (k82:eS K (.ref f82)=aC)
  (x0:fF K C0 zI "ValueError.__new__"=aC)
  (x1:fF K C1 zI "ValueError.__new__"=aC)
  (x2:fF K C2 zI "ValueError.__new__"=aC)
  (x3:fF K C3 zI "ValueError.__new__"=aC)
  (x4:fF K C4 zI "ValueError.__new__"=aC)
  (x5:fF K C5 zI "ValueError.__new__"=aC)
  (x6:fF K C6 zI "ValueError.__new__"=aC)
  (x7:fF K C7 zI "ValueError.__new__"=aC)
  (x8:fF K C8 zI "ValueError.__new__"=aC)
  (x10:fF K O zI "ValueError.__new__"=aC)
  (x11:fF K M zI "ValueError.__new__"=aC)
  (x12:fF K L zI "ValueError.__new__"=aC)
  (x13:fF K J zI "ValueError.__new__"=aC)
  (zn:P0≠P1)
  (zl:K1 K=aC)
  (zc:nK K ⟨[(10,C0),(12,C1),(13,C2),(15,C3),(16,C4),(17,C5),(18,C6),(19,C7),(20,C8),(21,y),(22,O),(23,M),(24,L),(25,J),(26,o)],[(40,CC6),(41,r),(42,H),(43,p),(44,E),(46,q),(45,a),(47,k)]⟩ cls fld=aC)
  (zg:Ce K ⟨[(10,C0),(12,C1),(13,C2),(15,C3),(16,C4),(17,C5),(18,C6),(19,C7),(20,C8),(21,y),(22,O),(23,M),(24,L),(25,J),(26,o)],[(40,CC6),(41,r),(42,H),(43,p),(44,E),(46,q),(45,a),(47,k)]⟩ ["ValueError","all","bool","dict","enumerate","int","isinstance","len","list","max","min","range","reversed","sorted","str","sum","tuple"] [("HouseError",10),("NoShape",12),("NoName",13),("NoClock",15),("NoTime",16),("NoHolder",17),("NoLease",18),("Ended",19),("TooMany",20),("Empty",22),("NoNote",23),("Fallen",24),("NoRow",25)] [("Wait",21,29),("Backward",26,25)]=aC) :
  (K1 K=aC/\∀P∈[P0,P1],K.lookup P=aF/\P≠nS/\∃c,nU K c P=aC)/\∃fd:FuncData,(∀(s:aU) (v:aB),lB s fd ⟨[v],[]⟩ [("_law_script",v)])/\∀base:aR,K.In base->base.Ns bR mg->(∀P∈[P0,P1],base.BuiltinsAt mg P)->bQ l.prog w K mg base (dD l.prog w) 78 fa fd ["_law_script"] (V9 [P0,P1]):=by
 have e:=hfa.symm.trans (dO X G a82);cases e;have F0:=jm (st:=v7) l0 c0 k0;have b0:=F0.binds (ps:=["self","by"]) λ_ _ _ _ _ _=>sg λ_ _=>rfl;have F1:=jm (st:=qC) l1 c1 k1;have b1:=F1.binds (ps:=["self","now"]) λ_ _ _ _ _ _=>sg λ_ _=>rfl;have F30:=jm (st:=qy) l30 c30 k30;have b30:=F30.binds (ps:=["grants","moment","span"]) λ_ _ _ _ _ _=>Go λ_ _ _=>rfl;have b44:=QJ (K:=K) (fd:=fnOf "__init__" "House.__init__" (zG zw) (z0 zw) (zq zw) (.ref A) U Y S an44 D ct44) (ps:=["self","shape","ahead","stride","keeper","note"]) rfl d44 rfl <| LG λ_ _ _ _ _ _=>⟨_,rfl,rfl⟩
 have bd44:=QY (K:=K) (d:=.none) (fd:=fnOf "__init__" "House.__init__" (zG zw) (z0 zw) (zq zw) (.ref A) U Y S an44 D ct44) (ps:=["self","shape","ahead","stride","keeper","note"]) rfl d44 rfl <| MZ λ_ _ _ _ _=>⟨_,rfl,rfl⟩
 have b54:=QJ (K:=K) (fd:=fnOf "ask" "House.ask" (zG zA) (z0 zA) (zq zA) (.ref z) T W R an54 C ct54) (ps:=["self","reading","many"]) rfl d54 rfl <| Go λ_ _ _=>⟨_,rfl,rfl⟩
 have bd54:=QY (K:=K) (d:=.int 1 tz54) (fd:=fnOf "ask" "House.ask" (zG zA) (z0 zA) (zq zA) (.ref z) T W R an54 C ct54) (ps:=["self","reading","many"]) rfl d54 rfl <| Ng λ_ _=>⟨_,rfl,rfl⟩
 have F65:=jm (st:=zS) l65 c65 k65;have b65:=F65.binds (ps:=["self","seat"]) λ_ _ _ _ _ _=>sg λ_ _=>rfl;have F82:=jm (st:=qH) l82 c82 k82;have b82:=F82.binds (ps:=["_law_script"]) λ_ _ _ _ _ _=>Mg λ_=>rfl;refine⟨⟨zl,λP hP=>by rcases cC.mp hP with rfl|hP;exact⟨zk0,zs0,cA0,zt0⟩;rw[bU.mp hP];exact⟨zk1,zs1,cA1,zt1⟩⟩,⟨fnOf "law" "law" (zG qH) (z0 qH) (zq qH) .none kV82 dc82 pm82 an82 cd82 ct82,λs v=>.of_eq rfl,λbase b g nbt=>?_⟩⟩;let B:=@GsB l w K mg base;have Z:Pk RU K mg base _ _ _:=⟨uY,b,g,zc⟩;have g0:bF l.prog w K mg base ⟨[(10,C0),(12,C1),(13,C2),(15,C3),(16,C4),(17,C5),(18,C6),(19,C7),(20,C8),(21,y),(22,O),(23,M),(24,L),(25,J),(26,o)],[(40,CC6),(41,r),(42,H),(43,p),(44,E),(46,q),(45,a),(47,k)]⟩ (BF sj ([(P0,[⟨140,36,140,64⟩],((("least_begin":aG)++".<locals>.")++"<lambda>")),(P1,[⟨406,64,406,91⟩],((("World.come_up":aG)++".<locals>.")++"<lambda>"))]:List (aE×List Pos×aG))) 0 Ir (λj=>([(P0,[⟨140,36,140,64⟩],((("least_begin":aG)++".<locals>.")++"<lambda>")),(P1,[⟨406,64,406,91⟩],((("World.come_up":aG)++".<locals>.")++"<lambda>"))]:List (aE×List Pos×aG))[j]?):=KY b g zg ⟨⟨C0,rfl,x0⟩,⟨C1,rfl,x1⟩,⟨C2,rfl,x2⟩,⟨C3,rfl,x3⟩,⟨C4,rfl,x4⟩,⟨C5,rfl,x5⟩,⟨C6,rfl,x6⟩,⟨C7,rfl,x7⟩,⟨C8,rfl,x8⟩,⟨O,rfl,x10⟩,⟨M,rfl,x11⟩,⟨L,rfl,x12⟩,⟨J,rfl,x13⟩,trivial⟩;have XI0:hV K y C0 f0 "by":=⟨⟨N0,nm0,qn0,bs0,hd0,sn0,sb0,ab0,co0,dd0,ka0,kb0,kc0,kd0,ke0,xa0,xb0,xc0⟩,x0,xd0,xe0,xf0,xg0,xh0⟩;have W0:bQ l.prog w K mg base (dD l.prog w) 1 f0 _ ["self","by"] (iB y "by")/\uS l.prog w K mg base 1 f0 _ ["self","by"] (iB y "by"):=HM XI0 ⟨dO b g e0,ha0,ha1,ha2⟩ l0 c0 (by first|exact⟨_,_,_,_,_,_,_,_,_,_,_,rfl,rfl,.inl ⟨_,_,_,_,_,_,_,_,rfl,by decide,by decide⟩⟩|exact⟨_,_,_,_,_,_,_,_,_,_,_,rfl,rfl,.inr ⟨_,_,_,_,_,rfl,by decide⟩⟩) rfl;have g1:B 2 Iq:=bF.add (g0.mono (by decide)) ⟨y,C0,f0,_,_,1,rfl,dO b g e9,rfl,XI0,b0,by decide,W0.1,W0.2⟩ rfl;have g2:B 2 Ip:=bF.add g1 ⟨y,C0,f0,_,_,1,rfl,dO b g e9,rfl,XI0,b0,by decide,W0.1,W0.2⟩ rfl;have XI1:hV K o C0 f1 "now":=⟨⟨N1,nB,qn1,bs1,hd1,sn1,sb1,ab1,co1,dd1,ka1,kb1,kc1,kd1,ke1,xa1,xb1,xc1⟩,x0,xd1,xe1,xf1,xg1,xh1⟩;have W1:bQ l.prog w K mg base (dD l.prog w) 3 f1 _ ["self","now"] (iB o "now")/\uS l.prog w K mg base 3 f1 _ ["self","now"] (iB o "now"):=HM XI1 ⟨dO b g e0,ha0,ha1,ha2⟩ l1 c1 (by first|exact⟨_,_,_,_,_,_,_,_,_,_,_,rfl,rfl,.inl ⟨_,_,_,_,_,_,_,_,rfl,by decide,by decide⟩⟩|exact⟨_,_,_,_,_,_,_,_,_,_,_,rfl,rfl,.inr ⟨_,_,_,_,_,rfl,by decide⟩⟩) rfl;have g3:B 4 Io:=bF.add (g2.mono (by decide)) ⟨o,C0,f1,_,_,3,rfl,dO b g e14,rfl,XI1,b1,by decide,W1.1,W1.2⟩ rfl;have g4:B 4 CG:=bF.add g3 ⟨o,C0,f1,_,_,3,rfl,dO b g e14,rfl,XI1,b1,by decide,W1.1,W1.2⟩ rfl;have g5:B 5 CF:=Z.fn (ps:=["thing"]) p2 g4 K2 rfl rfl (λ_ _ _ _ _ _ _=>rfl) rfl;have g6:B 6 CD:=Z.fn (ps:=["thing"]) p3 g5 YG rfl rfl (λ_ _ _ _ _ _ _=>rfl) rfl;have g7:B 7 CB:=Z.fn (ps:=["thing"]) p4 g6 xY rfl rfl (λ_ _ _ _ _ _ _=>rfl) rfl;have g8:B 8 CA:=Z.fn (ps:=["thing","bound"]) p5 g7 Ky rfl rfl (λ_ _ _ _ _ _ _ _=>rfl) rfl;have g9:B 10 Cz:=Z.cl (ps:=["self","moments","houses","counts"]) p6 g8 Vo rfl rfl rfl (λ_ _ _ _ _ _ _ _ _ _=>rfl) rfl;have g10:B 11 AJ:=Z.fn (ps:=["shape"]) p7 g9 KO rfl rfl (λ_ _ _ _ _ _ _=>rfl) rfl;have g11:B 12 BV:=Z.fn (ps:=["shape","thing"]) p8 g10 Yo rfl rfl (λ_ _ _ _ _ _ _ _=>rfl) rfl;have g12:B 13 Bj:=Z.fn (ps:=["shape","thing"]) p9 g11 Wu rfl rfl (λ_ _ _ _ _ _ _ _=>rfl) rfl;have g13:B 14 A5:=Z.fn (ps:=["thing","bound"]) p10 g12 Wy rfl rfl (λ_ _ _ _ _ _ _ _=>rfl) rfl;have g14:B 15 AB:=Z.fn (ps:=["shape","moment","house","count"]) p11 g13 U1 rfl rfl (λ_ _ _ _ _ _ _ _ _ _=>rfl) rfl;have g15:B 16 Gy:=Z.fn (ps:=["shape","name"]) p12 g14 Kn rfl rfl (λ_ _ _ _ _ _ _ _=>rfl) rfl;have g16:B 16 Gz:=bF.add g15 ⟨_,(.int 0),dO b g v13,⟨_,rfl⟩,λ_ _ _=>rfl⟩ rfl;have g17:B 16 FT:=bF.add g16 ⟨_,(.int 1),dO b g v14,⟨_,rfl⟩,λ_ _ _=>rfl⟩ rfl;have g18:B 16 Bb:=bF.add g17 ⟨_,(.int 2),dO b g v15,⟨_,rfl⟩,λ_ _ _=>rfl⟩ rfl;have g19:B 17 AW:=Z.fn (ps:=["thing"]) p16 g18 YR rfl rfl (λ_ _ _ _ _ _ _=>rfl) rfl;have g20:B 18 AI:=Z.fn (ps:=["thing"]) p17 g19 JD rfl rfl (λ_ _ _ _ _ _ _=>rfl) rfl;have g21:B 20 BU:=Z.cl (ps:=["self","start","turns"]) p18 g20 WL rfl rfl rfl (λ_ _ _ _ _ _ _ _ _=>rfl) rfl;have g22:B 21 Gh:=Z.met (ps:=["self","time"]) p19 g21 u4 rfl rfl rfl rfl (λ_ _ _ _ _ _ _ _=>rfl) rfl;have g23:B 21 GC:=bF.add g22 ⟨_,(.int 0),dO b g v20,⟨_,rfl⟩,λ_ _ _=>rfl⟩ rfl;have g24:B 21 FR:=bF.add g23 ⟨_,(.int 1),dO b g v21,⟨_,rfl⟩,λ_ _ _=>rfl⟩ rfl;have g25:B 21 Bo:=bF.add g24 ⟨_,(.int 2),dO b g v22,⟨_,rfl⟩,λ_ _ _=>rfl⟩ rfl;have g26:B 22 Bu:=Z.fn (ps:=["shape","thing"]) p23 g25 KS rfl rfl (λ_ _ _ _ _ _ _ _=>rfl) rfl;have g27:B 23 FG:=Z.fn (ps:=["shape","thing"]) p24 g26 Q6 rfl rfl (λ_ _ _ _ _ _ _ _=>rfl) rfl;have g28:B 23 Gd:=bF.add g27 ⟨_,(.str "abcdefghijklmnopqrstuvwxyz"),dO b g v25,⟨_,rfl⟩,λ_ _ _=>rfl⟩ rfl;have g29:B 23 BG:=bF.add g28 ⟨_,(.int 8),dO b g v26,⟨_,rfl⟩,λ_ _ _=>rfl⟩ rfl;have g30:B 24 BM:=Z.fn (ps:=["thing"]) p27 g29 Jy rfl rfl (λ_ _ _ _ _ _ _=>rfl) rfl;have g31:B 26 A1:=Z.cl (ps:=["self","holder","lease"]) p28 g30 V5 rfl rfl rfl (λ_ _ _ _ _ _ _ _ _=>rfl) rfl;have g32:B 27 BI:=Z.fn (ps:=["grant","first","until"]) p29 g31 Rg rfl rfl (λ_ _ _ _ _ _ _ _ _=>rfl) rfl;have W30:bQ l.prog w K mg base (dD l.prog w) 28 V _ ["grants","moment","span"] (eW _ 3 wk):=xq (m:=2) uY (Zb (N:=["grants","moment","span","begin","grant"]) (G:=["sorted","meets"]) (cel:=[]) (own:=[]) (lam:=aA (0,[⟨140,36,140,64⟩])) b g zc g32) l30 c30 rfl rfl Q4 (λj pos e=>by cases e;exact⟨by decide,cA0,P0,rfl,codeHd_of_K b zt0,nbt _ (.head _),rfl⟩);have g33:B 28 Aq:=bF.add (g32.mono (by decide)) ⟨V,dO b g a30,_,_,28,k30,b30,by decide,W30,wz⟩ rfl;have g34:B 29 BW:=Z.fn (ps:=["grants","moment","span"]) p31 g33 Q2 rfl rfl (λ_ _ _ _ _ _ _ _ _=>rfl) rfl;have g35:B 31 AV:=Z.cl (ps:=["self","shape"]) p32 g34 Qk rfl rfl rfl (λ_ _ _ _ _ _ _ _=>rfl) rfl;have g36:B 32 AT:=Z.met (ps:=["self","holder","house","moment","span"]) p33 g35 kH rfl rfl rfl rfl (λ_ _ _ _ _ _ _ _ _ _ _=>rfl) rfl;have g37:B 33 BO:=Z.met (ps:=["self","house"]) p34 g36 kq rfl rfl rfl rfl (λ_ _ _ _ _ _ _ _=>rfl) rfl;have g38:B 34 Bs:=Z.met (ps:=["self","house","moment","span"]) p35 g37 jS rfl rfl rfl rfl (λ_ _ _ _ _ _ _ _ _ _=>rfl) rfl;have g39:B 35 Bw:=Z.met (ps:=["self","holder","house","moment","span"]) p36 g38 Ve rfl rfl rfl rfl (λ_ _ _ _ _ _ _ _ _ _ _=>rfl) rfl;have g40:B 37 Bf:=Z.cl (ps:=["self","house","begin","end"]) p37 g39 WY rfl rfl rfl (λ_ _ _ _ _ _ _ _ _ _=>rfl) rfl;have g41:B 38 Bp:=Z.fn (ps:=["shape","house","place"]) p38 g40 YW rfl rfl (λ_ _ _ _ _ _ _ _ _=>rfl) rfl;have g42:B 39 AD:=Z.fn (ps:=["shape","batch"]) p39 g41 km rfl rfl (λ_ _ _ _ _ _ _ _=>rfl) rfl;have g43:B 40 BC:=Z.fn (ps:=["shape","house","name"]) p40 g42 Q9 rfl rfl (λ_ _ _ _ _ _ _ _ _=>rfl) rfl;have g44:B 42 BB:=Z.cl (ps:=["self","clock"]) p41 g43 Jn rfl rfl rfl (λ_ _ _ _ _ _ _ _=>rfl) rfl;have g45:B 43 Bt:=Z.met (ps:=["self","note"]) p42 g44 X4 rfl rfl rfl rfl (λ_ _ _ _ _ _ _ _=>rfl) rfl;have g46:B 44 AU:=bF.add (g45.mono (by decide)) (RB (n:=60) (tbs:=([(P0,[⟨140,36,140,64⟩],((("least_begin":aG)++".<locals>.")++"<lambda>")),(P1,[⟨406,64,406,91⟩],((("World.come_up":aG)++".<locals>.")++"<lambda>"))]:List (aE×List Pos×aG))) (G:=AQ) uY (by show 2<=100;decide) (hW.mem (ls:=sj) ⟨rfl,trivial⟩) (Zb (N:=[]) (G:=[]) (cel:=[]) (own:=[]) (lam:=aF) b g zc g45) N9.mem) rfl;have W44:bQ l.prog w K mg base (dD l.prog w) 45 u _ ["self","shape","ahead","stride","keeper","note"] (eW _ 6 qo):=xq (m:=0) uY (Zb (N:=["self","shape","ahead","stride","keeper","note"]) (G:=["is_from_nought","NoTime","NoNote"]) (cel:=[]) (own:=["batches"]) (lam:=aF) b g zc g46) l44 c44 rfl rfl uI;have g47:B 46 FE:=bF.add (g46.mono (by decide)) ⟨a,u,_,_,45,rfl,dO b g q44,⟨mk44,i44,j44,kk44⟩,b44,by decide,W44,wz⟩ rfl;have g48:B 46 A4:=bF.add (x:=sw "House") g47 ⟨a,u,_,_,45,rfl,dO b g q44,⟨mk44,i44,j44,kk44⟩,bd44,by decide,W44,wz,rfl⟩ rfl;have g49:B 47 AF:=Z.met (ps:=["self"]) p45 g48 ye rfl rfl rfl rfl (λ_ _ _ _ _ _ _=>rfl) rfl;have g50:B 48 AN:=Z.met (ps:=["self"]) p46 g49 Wz rfl rfl rfl rfl (λ_ _ _ _ _ _ _=>rfl) rfl;have g51:B 49 Ar:=Z.met (ps:=["self","lease","mark"]) p47 g50 uE rfl rfl rfl rfl (λ_ _ _ _ _ _ _ _ _=>rfl) rfl;have g52:B 50 Ax:=Z.met (ps:=["self","lease"]) p48 g51 jf rfl rfl rfl rfl (λ_ _ _ _ _ _ _ _=>rfl) rfl;have g53:B 51 Br:=Z.met (ps:=["self"]) p49 g52 vD rfl rfl rfl rfl (λ_ _ _ _ _ _ _=>rfl) rfl;have g54:B 52 Be:=Z.met (ps:=["self"]) p50 g53 kh rfl rfl rfl rfl (λ_ _ _ _ _ _ _=>rfl) rfl;have g55:B 53 Bd:=Z.met (ps:=["self","reading","many"]) p51 g54 kQ rfl rfl rfl rfl (λ_ _ _ _ _ _ _ _ _=>rfl) rfl;have g56:B 54 By:=Z.met (ps:=["self","moment"]) p52 g55 jQ rfl rfl rfl rfl (λ_ _ _ _ _ _ _ _=>rfl) rfl;have g57:B 55 A8:=Z.met (ps:=["self","reading","many"]) p53 g56 kf rfl rfl rfl rfl (λ_ _ _ _ _ _ _ _ _=>rfl) rfl;have W54:bQ l.prog w K mg base (dD l.prog w) 56 t _ ["self","reading","many"] (eW _ 3 qG):=xq (m:=1) uY (Zb (N:=["self","reading","many","batch"]) (G:=["names_of_batch"]) (cel:=[]) (own:=["batches"]) (lam:=aF) b g zc g57) l54 c54 rfl rfl Qh;have g58:B 56 Gu:=bF.add (g57.mono (by decide)) ⟨a,t,_,_,56,rfl,V3 (c:=45) zc rfl,⟨i54,j54,k54⟩,λi h=>absurd (cD (show lq[i]?=aA "ask" from h)) (by decide +kernel),b54,by decide,W54,wz⟩ rfl;have g59:B 56 F3:=bF.add (x:=sw (eD "ask")) g58 ⟨a,t,_,_,56,_,(.int 1),rfl,V3 (c:=45) zc rfl,⟨i54,j54,k54⟩,λi h=>absurd (cD (show lq[i]?=aA "ask" from h)) (by decide +kernel),bd54,⟨_,rfl⟩,λ_ _ _=>rfl,by decide,W54,wz,rfl⟩ rfl;have g60:B 56 FI:=bF.add g59 (Np (dO b g v55) y55 w55 ⟨⟨_,_,rfl⟩,⟨_,_,rfl⟩,⟨_,_,rfl⟩,⟨_,_,rfl⟩,⟨_,_,rfl⟩,⟨_,_,rfl⟩,⟨_,_,rfl⟩,trivial⟩ (by decide)) rfl;have g61:B 56 F_:=bF.add g60 ⟨_,(.int 0),dO b g v56,⟨_,rfl⟩,λ_ _ _=>rfl⟩ rfl;have g62:B 56 FA:=bF.add g61 ⟨_,(.int 1),dO b g v57,⟨_,rfl⟩,λ_ _ _=>rfl⟩ rfl;have g63:B 56 FC:=bF.add g62 ⟨_,(.int 2),dO b g v58,⟨_,rfl⟩,λ_ _ _=>rfl⟩ rfl;have g64:B 56 GA:=bF.add g63 ⟨_,(.int 3),dO b g v59,⟨_,rfl⟩,λ_ _ _=>rfl⟩ rfl;have g65:B 56 Gs:=bF.add g64 ⟨_,(.int 4),dO b g v60,⟨_,rfl⟩,λ_ _ _=>rfl⟩ rfl;have g66:B 56 AZ:=bF.add g65 ⟨_,(.int 3),dO b g v61,⟨_,rfl⟩,λ_ _ _=>rfl⟩ rfl;have g67:B 57 Bg:=Z.fn (ps:=["parts"]) p62 g66 Kg rfl rfl (λ_ _ _ _ _ _ _=>rfl) rfl;have g68:B 58 AK:=Z.fn (ps:=["thing"]) p63 g67 TC rfl rfl (λ_ _ _ _ _ _ _=>rfl) rfl;have g69:B 59 Aw:=Z.fn (ps:=["thing"]) p64 g68 Vk rfl rfl (λ_ _ _ _ _ _ _=>rfl) rfl;have W65:bQ l.prog w K mg base (dD l.prog w) 60 I _ ["self","seat"] (eW _ 2 zH):=OL (m:=0) (cut:=0) (ds:=qz) uY (MA (F:=["seat"]) (Zb (N:=["self","seat"]) (G:=["House"]) (cel:=["seat"]) (own:=[]) (lam:=aA (1,[⟨406,64,406,91⟩])) b g zc g69)) l65 c65 rfl rfl yg yX (λj pos e=>by cases e;exact⟨by decide,cA1,P1,rfl,codeHd_of_K b zt1,nbt _ (.tail _ (.head _)),rfl⟩);have g70:B 60 A7:=bF.add (g69.mono (by decide)) ⟨k,I,_,_,60,rfl,V3 (c:=47) zc rfl,⟨i65,j65,k65⟩,λi h=>absurd (cD (show lq[i]?=aA "come_up" from h)) (by decide +kernel),b65,by decide,W65,wz⟩ rfl;have g71:B 62 Bz:=Z.cl (ps:=["self","shape","ahead","stride","clocks"]) p66 g70 Wr rfl rfl rfl (λ_ _ _ _ _ _ _ _ _ _ _=>rfl) rfl;have g72:B 63 Bx:=Z.met (ps:=["self","row"]) p67 g71 xW rfl rfl rfl rfl (λ_ _ _ _ _ _ _ _=>rfl) rfl;have g73:B 64 A9:=Z.met (ps:=["self","row"]) p68 g72 uG rfl rfl rfl rfl (λ_ _ _ _ _ _ _ _=>rfl) rfl;have g74:B 65 Bm:=Z.met (ps:=["self","row"]) p69 g73 Qm rfl rfl rfl rfl (λ_ _ _ _ _ _ _ _=>rfl) rfl;have g75:B 66 BH:=Z.met (ps:=["self"]) p70 g74 Zg rfl rfl rfl rfl (λ_ _ _ _ _ _ _=>rfl) rfl;have g76:B 67 Ay:=Z.fn (ps:=["highs","high"]) p71 g75 Qn rfl rfl (λ_ _ _ _ _ _ _ _=>rfl) rfl;have g77:B 68 At:=Z.fn (ps:=["shape","book"]) p72 g76 U8 rfl rfl (λ_ _ _ _ _ _ _ _=>rfl) rfl;have g78:B 69 BN:=Z.fn (ps:=["_law_script","_law_k"]) p73 g77 JH rfl rfl (λ_ _ _ _ _ _ _ _=>rfl) rfl;have g79:B 70 AC:=Z.fn (ps:=["_law_cell","_law_k"]) p74 g78 YE rfl rfl (λ_ _ _ _ _ _ _ _=>rfl) rfl;have g80:B 71 Ba:=Z.fn (ps:=["_law_cell"]) p75 g79 Kt rfl rfl (λ_ _ _ _ _ _ _=>rfl) rfl;have g81:B 72 Bq:=Z.fn (ps:=["_law_source","_law_many"]) p76 g80 X6 rfl rfl (λ_ _ _ _ _ _ _ _=>rfl) rfl;have g82:B 73 As:=Z.fn (ps:=["_law_source","_law_begin"]) p77 g81 u6 rfl rfl (λ_ _ _ _ _ _ _ _=>rfl) rfl;have g83:B 74 Bn:=Z.fn (ps:=["_law_clock","_law_time"]) p78 g82 VY rfl rfl (λ_ _ _ _ _ _ _ _=>rfl) rfl;have g84:B 75 BA:=Z.fn (ps:=["_law_one","_law_other","_law_begin","_law_end"]) p79 g83 JL rfl rfl (λ_ _ _ _ _ _ _ _ _ _=>rfl) rfl;have g85:B 76 AY:=Z.fn (ps:=["_law_world","_law_row"]) p80 g84 KR rfl rfl (λ_ _ _ _ _ _ _ _=>rfl) rfl;have g86:B 77 FK:=Z.fn (ps:=["_law_book","_law_moments"]) p81 g85 KW rfl rfl (λ_ _ _ _ _ _ _ _=>rfl) rfl;have W82:bQ l.prog w K mg base (dD l.prog w) 78 fa _ ["_law_script"] (eW _ 1 kT):=xq (m:=19) uY (Zb (N:=["_law_script","_law_source","_law_shape","_law_ahead","_law_begin","_law_holders","_law_clocks","_law_k","_law_holder","_law_made","_law_world","_law_time","_law_cell","_law_row","_law_book","_law_moments","_law_due","_law_told_here","_law_far","_law_one"]) (G:=["_law_digits","_law_cell_at","_law_next","enumerate","_law_drawn_clock","dict","World","Shape","_law_told","min","len","_law_back","back_by","max"]) (cel:=["_law_shape","_law_begin","_law_clocks","_law_time","_law_one"]) (own:=["_law_clocks","~_law_clocks","_law_far"]) (lam:=aF) b g zc g86) l82 c82 rfl rfl U5;exact SM (f:=kT) oV rfl rfl zn W82
end NH.K92
section
open PySem PySem.W PyProof.Rows
set_option maxRecDepth 100000 in
set_option maxHeartbeats 0 in
theorem PySem.Challenge.cw_namehouses_k92_whole_how_far_names_are_b_holds : PySem.Challenge.rw_namehouses_k92_whole_how_far_names_are_b.Holds := by
 w_on;o_law;k_head;(case hw=>w_witness2);k_fill;refine NH.walkTs (l:=PySem.Challenge.rw_namehouses_k92_whole_how_far_names_are_b) (k:=78) (x:="_law_script") (by decide) rfl rfl (λw h Y=>PySem.W.km_in_of Y) (λw h Y=>NH.swT (PySem.W.km_tabs_of Y)) ?F;case F=>
  intro w mg fa h KX G hmg
  refine' NH.K92.all_mk KX G hmg ?aa ?ab ?ac ?ad ?ae ?af ?ag ?ah ?ai ?aj ?ak ?al ?am ?an ?ao ?ap ?aq ?ar ?zas ?zat ?au ?av ?aw ?ax ?ay ?az ?ba ?bb ?bc ?bd ?be ?bf ?bg ?bh ?bi ?bj ?bk ?bl ?bm ?bn ?bo ?bp ?bq ?br ?bs ?bt ?bu ?bv ?bw ?bx ?zby ?bz ?ca ?cb ?cc ?cd ?ce ?cf ?cg ?ch ?ci ?cj ?ck ?cl ?cm ?cn ?co ?cp ?cq ?cr ?cs ?ct ?cu ?cv ?cw ?cx ?cy ?cz ?da ?db ?dc ?dd ?de ?df ?dg ?dh ?di ?dj ?dk ?dl ?dm ?dn ?zdo ?dp ?dq ?dr ?ds ?dt ?du ?dv ?dw ?dx ?dy ?dz ?ea ?eb ?ec ?ed ?ee ?ef ?eg ?eh ?ei ?ej ?ek ?el ?em ?en ?eo ?ep ?eq ?er ?es ?et ?eu ?ev ?ew ?ex ?ey ?ez ?fa ?fb ?fc ?fd ?fe ?ff ?fg ?fh ?fi ?fj ?fk ?fl ?fm ?fn ?fo ?fp ?fq ?fr ?fs ?ft ?fu ?fv ?fw ?fx ?fy ?fz ?ga ?gb ?gc ?gd ?ge ?gf ?gg ?gh ?gi ?gj ?gk ?gl
  case dj=>k_is
  case bs|ce|co|cy|dd|dh|fb=>exact NH.clp (by k_is) (by k_is) (by k_is) (by k_is) (by k_is) (by k_is) (by k_is) (by k_is)
  case bo|bp|bq|br|bt|bu|bv|bw|bx|zby|cc|cd|cj|ck|cn|cp|cx|de|df|dg|eq|er|es|fg|fh|fi|fj|fk|fl|fm|fn|fo|fp|fq=>exact NH.dfp (by k_is) (by k_is) (by k_is) (by k_is)
  case cf|cz|da|db|dc|di|ds|dt|du|dv|dw|dx|dy|dz|ea|fc|fd|fe|ff=>exact NH.mtp (by k_is) (by k_is) (by k_is) (by k_is) (by k_is)
  case aa|ab|ac|ad|ae|af|ag|ah|ai|aj|ak|al|am|an|ao|ap|ar|zas|zat|au|av|aw|ax|ay|az|ba|bb|bc|bd|bf|bg|bh|bi|bj|bk|bl|bm|bn|bz|ca|cb|cg|ch|ci|cl|cm|cq|cr|cs|cw|dk|dl|dm|dn|zdo|dp|dq|dr|eb|ec|ed|ee|ef|eg|eh|ek|el|em|en|eo|ep|et|eu|ev|ew|fa|fr|fs|ft|fu=>k_is
  case aq|be=>kernel_rfl
  case ct|cu|ei|ex|ey|gj|gk|gl=>exact rfl
  case cv|ej|ez|gi=>decide
  case fv|fw|fx|fy|fz|ga|gb|gc|gd|ge|gf|gg|gh=>k_exc
end
