import PyProof.Rows.All
import Wide.All
import OpenK.AllK
import Wide.FinOn
import Lean
import PyProof.EqAt
import PyProof.EqKinds
import PyProof.TupleCall
import PyProof.DictIter
import PyProof.StationsW
import PySem.Syntax
import KE.KLam
import PyProof.StrBlockH
import KE.KRevIter
import PyProof.JoinWalk
import PyProof.CollectIter
import PyProof.StrCalls
import PyProof.DictStraight
import PyProof.Rows.Range3
import PyProof.StrWalks
import PyProof.LongRange
import KE.KTryMore
import KE.KItem
import PyProof.NsDelKeeps
import PyProof.DictTable
import PyProof.WalkInts
import PyProof.Rows.SortStr
import PyProof.Rows.SortWalk
import PyProof.EnumMake
import PyProof.EnumFor
import KE.KRevSl
import PyProof.Rows.StrNews
import KE.KMinBuiltin
import KE.KSortKey
import PyProof.ZipIter
import PyProof.ExcInit
import PyProof.ExcClass2
import PyProof.InstStoreFacts
import PyProof.FString
import KE.LcSums
import KE.KIntText
import PyProof.StrBlock2
import PyProof.DictWalks
import KE.KSortTup
import PyProof.Rows.SortRev
import PyProof.AttrMissHeap
import PyProof.Rows.SetFrom
import KE.KDictOf
import PyProof.DictUpdate
import PyProof.DictTruth
import PyProof.DictItems
import KE.KPairComp
import PySem.Challenge.RW_namehouses_k51_rows_of_a_world_refused
set_option Elab.async false
open Option renaming some→aA,none→aE
open Bool renaming true→aB,false→aC
open PySem renaming Value→aD,Addr→aF,Str→aG,Expr→aI,Heap→aV,Obj→bA,Stmt→bC
open List renaming getElem?_eq_some_iff→bI,getElem?_set_ne→bW,mem_of_getElem?→b9,mem_singleton→bT,getElem?_append_left→dN,mem_append→cH,length_map→cJ,mem_append_right→dM,mem_cons→cA,forall_mem_cons→dS,mem_cons_of_mem→d9,getElem?_append_right→fA,size_toArray→dH,mem_append_left→eK,getElem?_map→eE,getElem?_eq_getElem→fR,mem_cons_self→eU,map_cons→dU,mem_nil_iff→fN,length_cons→fU,all_eq_true→fT,contains_iff_mem→hY,lookup_cons→gB,mem_filter→fS,mem_map→eR,append_nil→gP,mem_iff_getElem?→i4,map_append→iJ,getElem?_set_self→mM,nodup_append→lu,map_map→hO,filterMap_eq_map'→mL,lookup→gS,pairwise_iff_getElem→nW,range→gM,length_append→l3,take_add_one→l8,pairwise_map→l7,take_of_length_le→n7,all_cons→iX,isEmpty_iff→l5,replicate→ly,rec→gy,getElem?_eq_none→n0,set_append_right→nZ,nodup_cons→lY,length_take→mH,getElem?_replicate→pW,mem_filterMap→nO,length→ll,mem_of_mem_take→ra,filterMap_cons→p_,filterMap_cons_none→t5,filterMap_cons_some→t4,length_nil→nR,getElem?_set_self'→tW,getElem?_cons_succ→tV,getElem_inj→pF,cons_append→pD,any_cons→nC,of_mem_zip→pQ,find?_cons→pL,mem_range→pK,contains_cons→tQ,nodup_iff_pairwise_ne→EI,drop_eq_getElem_cons→EH,length_drop→tc,getElem?_cons_zero→Et,getElem_mem→sY,length_eq_zero_iff→Ep,all_map→px,forIn_cons→tx,length_replicate→EE,take_append_drop→Ez,length_filter_le→Ex,mem_of_mem_drop→Ek,map_congr_left→DU,zip_cons_cons→DJ,getElem?_take→D8,any_eq_false→D7,take_sublist→D3,length_range→DE,ext_getElem→Dm,nil_append→DC,length_zip→DA,zip_map'→CA,map_nil→C_,find?→Cv
open PySem.Heap renaming get?_push_of_some→bU,lt_size→bZ,get?_push_size→eF,SameBut→gA,get?_update_other→lE,get?_none_of_le→lD,size_push→iI,get?_update_self→n5,MadeExcOf→nF,get?_update_ne→tS,size_update→sW,get?_push_ne→DG,get?_push_at→DF,ExtBut→CN
open Option.some renaming inj→bP,injEq→pG
open Nat renaming le_refl→bE,lt_of_lt_of_le→cY,le_trans→cU,ne_of_lt→dP,lt_irrefl→iH,zero_le→hL,lt_succ_self→l6,beq→fK,ne_of_gt→ln,le_of_eq→lm,lt_succ_of_lt→nJ,lt_of_le_of_lt→pR,eq_of_beq_eq_true→tL,le_succ→mE,le_of_lt→nG,pow_le_pow_right→DY,lt_trans→sF,min_self→sE,le_add_right→Dk,log2_lt→sq,rec→oY,ble→oX,lt_or_ge→CY
open PySem.W renaming Frag→bJ,findIn→cO,fnOf→fM,emptyDict→iZ,mroIn→gN,codeIn→eT,instObj→lC,kla_obj→lB,CodeHd→lx,callWith_K→mO,hasDictIn→lr,specialIn→lX,plainGet_of→nP,keepIn→eJ,tabObj→lW,mg_of→dG,plainGet→nU,callWith_K0→pZ,excIn→e_,cellsFrom_some→tP,nsIn→mF,kitx_dict→pH,exmOne→nE,clsIn→lQ,takesIn→pP,looks_clsIn→tT,lookIn→pJ,kitOne→pI,isNs_of_in→tR,methodObj→tH,plainOver→tG,Looks→mC,any_some→ti,looks_findIn→mD,KitX→pw,takerIn→tD,InstAt→tu,kitAny→sV,kla_fn→sU,kla_callFunE→Eh,kla_codeExpr→Eg,findObj_own→DX,codeRec_of→DL,mg_none_of→Ec,isFn→sR,set_plain→D6,kitx_list→DH,handedIn→su,kla_eval→Dl,codeHdIn→ng,makesIn→nc,readsIn→sC,findCls→sB,binds_K→Dy,OpenLaw→my,typeIn→o9,nsOkIn→o7,fnMade→Df,notCls→o0,FnAt→CZ,findObj→oW
open Bool renaming and_eq_true→cB,false_ne_true→eY,not_eq_true'→l9,false_eq_true→nN,eq_iff_iff→nS,or_eq_true→nQ,and_false→tp,eq_false_iff→DZ,or_true→sG,false_and→Dx,rec→o8,and_true→CF,not_true→CD
open PySem renaming model→aR,mainGlobals→bO,Shared→a9,wpAny_mono→dO,Program→cG,sizeLine_eq→eQ,compareOp→eG,wpAny_Call_Name_kw→iL,starEach→d7,mem_of_lookup→i3,rawInt→cT,wpAny_newObj_type→iY,wpAny_standAt→hX,wpAny_field→gO,bootBuiltins→hS,foldedSetIterable→lw,relabel→eP,sysModules→gT,codeAny_mono→iK,excClassObj→im,ExceptHandler→iW,binaryOp→gz,wpAny_call→hW,Around→eN,wpAny_passesOwn→lZ,assignEach→ik,World→dL,codeAny→f9,attributeBase→lV,wpAny_pyIter_list→nK,wpAny_loadPart_at→nI,backTo→fJ,wpAny_newFunctionEnv_cells→t9,keywordEach→lq,wpAny_setField→mK,codeAny_call_builtin→rb,wpAny_of_eq→lp,compEnvC→hI,swapsWith→iG,CmpOp→eO,wpAny_attempt→mJ,methodCallPos→mI,letOwnedTupleGo→nT,builtinsNs→lj,wpAny_callSpecial?_slot→tX,sliceBounds→lT,codeAmong→iU,codeAny_call_function→tM,wpAny_isTrue_Compare1→tK,getItem→ij,strLen_append→nB,wpAny_execs_nil→pC,getAttrByItsOwn→pO,Keyword→iC,bindArgs→li,NameKind→lh,backToKw→lg,closureFor→mG,wpAny_FormattedValue_plain→EJ,hashStr→iV,Builtin→iS,assign→ii,swapsWithSole→pB,swappedStores→pA,comprehension→pz,noFill_tuple_add→tf,wpAny_call_entry→s_,setFlight→mz,wpAny_comp_letGo→sX,wpAny_pyNext_list_item→Eo,BindsTo→lc,IsPart→iB,wpAny_typeOf→pe,typeLookup→nu,wpAny_rule→nz,methodCall→ny,makeFunction→pv,wpAny_pyNext_list_end→EF,ofString_length→EB,wpAny_formatField_int→EA,subscripted→pq,wpAny_Compare1→tj,wpAny_newFunctionEnv→Ej,wpAny_pyIter_revIter→Ei,PassesOwn→nt,OwnTail→lO,valueAt→lN,wpAny_isSubtype_exc→DS,behindInMarks→sK,seq_tuple_add→sJ,arm_eval_Call→sH,call_meets→pd,isInstance→o_,int_text_length_le→D_,slot_listiter_next→D9,Within→sS,codeAny_func→sO,concat_meets→sN,wpAny_sequenceKey→D2,slot_list_getitem→D1,ExcBaseFacts→sD,cStatics→nr,wpAny_lookBehind→Dv,pastItsLine_dict→Du,cellsFrom→o5,noteFrame→o4,DictEntry→o3,callGetattribute→Do,checkBuiltinCall→Dn,seqItems?→o2,bindSpecial→sk,wpAny_throw→sj,wpAny_loadPart'→Dj,wpAny_JoinedStr→Dz,holding→nn,getAttr→nj,callerA→nh,wpAny_Name→sx,pyNext→mx,bindL→la,bindC→kw,typeIs_str→sv,getMethod→sg,pyIter→m_,Result→m9,leaving→oZ,passOn→CW,call→Cy
open PySem.Value renaming ref→cN,none→eX,bool→lR,int→mB,type→nv,isStrOf→sL,str→o6,isInt→ss,isStrOf_shape→CH,builtin→CB,isInt_shape→Dc,bytes→CT,float→CS
open Ne renaming symm→b_
open False renaming elim→dI
open PySem.Obj renaming mapSeq→d_,mapFields→hV,isFreed_of_fields→ED,data_mapFields→Ee
open PyProof.Rows renaming seqObj→cF,slot_tuple_getitem→l4,callWith_builtin1→rh,callWith_type1→ri,IntsAre→fL,envOfC→fQ,AllBare→iT,listUpdate_at→pi,subscriptTail_builtinR→Em,get?_update_seq→tw,entry_tuple_getitem→DW,subscriptTail→sI,arrOf→ig,args_tuple_getitem→DI,IsTup→lb,lt_int→CJ
open Int renaming mul_le_mul_of_nonneg_right→n8,emod_lt_of_pos→nM,emod_nonneg→nH,ediv_lt_of_lt_mul→tJ,fdiv_eq_ediv_of_nonneg→EM,le_refl→nA,ediv_nonneg→tz,ediv_emod_unique→Ef,mul_nonneg→sT,toNat_of_nonneg→DR,ediv_one→sM,toNat_natCast→D0,mul_comm→CV,add_comm→CU,add_mul→CM,one_mul→CL
open True renaming intro→f_
open Array renaming getElem?_eq_some_iff→nY,length_toList→mQ,getElem?_setIfInBounds_ne→EG,mem_toList_iff→Ew,toList_append→DT,find?_toList→DN,forIn_toList→Eb,size_zip→Dd,toList→Db
open PySem.F renaming excBase_ValueError→nX,attr_ValueError→pV,plainAttrs_list→pU,args_tuple_add_2→t7,entry_tuple_add→tY,slot_tuple_add→tO,store_ValueError→Eu,slot_dict_clear→Es,plainAttrs_dict→Er,entry_bexc_ga→EC,slot_dict_get→Ey,args_bexc_ga→El
open PySem.Str renaming ofString→il,empty→lS,length→sw
open PySem.Builtin.Str renaming occurrences→nV
open ForInStep renaming yield→lA
open PySem.Builtin.ObjectAttr renaming attrName→rj,storeInDict→tZ,newKeyGuard→IU,noDictFor→IY,bindTo→IB
open PySem.W.Looks renaming here→mP,of_pure→II,ld→Cq
open PySem.Builtin.Slice renaming slicePlaces→rg,sliceAdjust→t8,sliceApplied→EL,slicePartIndex→IS,sliceFields→ID
open Option renaming isSome_iff_exists→rf,map_eq_some_iff→pT,bind_some→pE,map_some→pM,getD_some→sZ,getD_none→Dq
open PySem.Builtin.Tuple renaming tupleExact→pX,tupleItemsOf→EK,tupleCompareSizes→IZ,tupleIsExact→IV,tupleHashOf→IC
open PySem.SeqAt renaming EqAt→iF,RcAt→pb,RcNeAt→C9
open PySem.Calls renaming evalArgs_plain→rc,callWith_builtin→tN,Name_function_global→EN,spliced_cons→DM,spliced_nil→D4
open PySem.Heap.SameBut renaming update→pY
open PySem.Builtin.List renaming listTooLong→t6
open Sum.inr renaming inj→lU
open PySem.Builtin.Range renaming rangeSize→tU,small→Ii
open PySem.Around renaming frames_deeper→tI,under→sQ
open Function renaming comp_def→tF
open PySem.NameKind renaming free→pj
open Sum renaming inl→le,inr→lP
open Nat.succ renaming inj→pu
open PySem.SeqAt.EqAt renaming same→tB,bool_bool→Ev,int_str→DQ,str_int→DO,int_int→DK,of_refs→Ed
open PySem.EntryCells renaming newEntry→DV
open PySem.Code renaming quiet_builtin→Ea,isFrame→sP,frames→CQ
open PySem.Heap.Ns1 renaming of_empty→D5
open PySem.Builtin.BaseException renaming bexcPut→IT
open PySem.PassesOwn renaming never→Dh
open List.cons renaming injEq→Dg
open PySem.Heap.DictOf renaming new→DD
open Array.Perm renaming refl→DB
open PySem.Builtin renaming bitAnd→Dw
open PySem.SeqAt.RcNeAt renaming lists_lengths→IW,tuples→IH,lists→Ic
open PySem.EqNone renaming eq_none_none→IQ,eq_none_bool→IP,eq_bool_none→IN,ne_none_none→IK,ne_none_bool→IJ,ne_bool_none→IG,eq_none_int→IA,eq_none_str→Iz,eq_int_none→Iy,eq_str_none→Iw,ne_none_int→Iq,ne_none_str→Ip,ne_int_none→Io,ne_str_none→Il
open PySem.EqMixed renaming eq_bool_str→IM,eq_str_bool→IL,ne_bool_str→IF,ne_str_bool→IE,eq_int_str→Ix,eq_str_int→Ir,ne_int_str→Im,ne_str_int→Ik
open PySem.Paired renaming length→CG
open List.Pairwise renaming imp_of_mem→Ij,nil→Ib,imp→Ia
open PySem.Data renaming fields→CP
open PySem.IsRange renaming new→CO
open PySem.Heap.IsSliceOf renaming new→Ih
open PySem.W.WShape renaming has→Cz
open PyProof.Rows.SortSt renaming mk'→Cw
open PySem.Within renaming cons→Cu
open PyProof.Rows.IsTup renaming new→Cs
open PySem.W.WData renaming int→Cr
set_option linter.all false
set_option maxRecDepth 100000
set_option maxHeartbeats 4000000
set_option genSizeOf false
set_option genInjectivity false
set_option bootstrap.genMatcherCode false
noncomputable section
namespace PySem.W
structure Fast:Prop where
 (tw6481130969964932020 tw14788433944331141575 tw495865229987703729 tw8968524581222915616 tw7910386295764660870 tw1762553124988189100 tw15130458400691824943 tw14999898282888634312 tw14800130936337218167 tw16318750734927040380 tw3288484770302179391 tw6032732674824032101 tw6781702962393792660 tw1350113392521563295 tw15831499961272227162 tw17962994887395227299 tw15396127674821594052 tw18349219930726971490 tw16942048684069186588 tw8034905540774138638 tw4240492514321899626 tw8570785704956240288 tw7892769294026778824 tw16130207188695929647 tw2981797167277470270 tw13974188317562073843 tw2511873984777554796 tw2728679399413479423 tw18075823178295575949 tw14794242659897302081 tw16207620674412612681 tw10774528165899195448 tw18338536788493302374 tw4734491475439242527 tw5641867319583391577 tw12872721957215425225 tw8769567478690880397 tw15023630344423236683 tw438132638506569696 tw7315298034668102332 tw6034430964108057294 tw12366005099430280949 tw12063139619251828896 tw11779814524269048230 tw11615666518167719716 tw624204819404033881 tw5012586086034264496 tw8917304720689106067 tw3999437217860227712 tw3423534510092485663 tw7965849746611505447 tw2957378994105622343 tw1832093225194693779 tw16113392944040301507 tw13462525085880207553 tw2394995711135030940 tw791618412939341791 tw10133610318541983196 tw1221271051044122788 tw14595315186651096171 tw9203316163556746714 tw17081044515957994837 tw4583948521876815179 tw14484341597187889468 tw7314996566549695439 tw16311848529491086324 tw9092329478743325336 tw9697517736309842111 tw2190775420555288106 tw15089137170786982325 tw6055224802843520853 tw3124948896936191530 tw18389776154510789809 tw18084218082284368666 tw2494852223423700855 tw4668042125665960866 tw9949737721462282268 tw13818787489963461045 tw2945388958405584575 tw17051553263413028871 tw1481002490972740776 tw9708109109305908297 tw1707260199855385513 tw13294037675169561858 tw7254758177682427159 tw12536983557046019125 tw5582472127537599364 tw18049219909508709863 tw9537513893244012302 tw926711925005451743 tw1525975700820980977 tw16406961762840498 tw1900485713812109364 tw16131113113412729822 tw11658877710342277729 tw17373814047476158478 tw9536380577592823725 tw5412359575753607140 tw5926733270602651020 tw12940627731981508021 tw7717771367462424856 tw7000212783086776279 tw12073447198313416701 tw13715854325000632729 tw9759985289027391368 tw2095334324653964493 tw2335310246982312595 tw12161061839443055600 tw5742890373491620572 tw8029807319130134208 tw10306771121494233332 tw6167339176682876388 tw12967720733405808914 tw4646455805963951144 tw12997126988931353926 tw9048841256234126813 tw9045104907852112434 tw18100058072055813927 tw17359621071587924215 tw5335801607361181115 tw5040531388066555890 tw17586847098641625300 tw15969794417851601589 tw861342881341974634 tw13011519797650973458 tw16891878367613299486 tw2017529364177317902 tw4774428668272525793 tw15274868291418284535 tw11824145003589144240 tw12247521637305904276 tw17678519647468064615 tw4367059547302821112 tw17057869322118491721 tw17678203829401136657 tw15952112111706226725 tw18143316229822166980 tw7117781893994853709 tw10341372298916265747 tw12064825918716042874 tw16063652849149179851 tw8732100809313215366 tw1916641887955074057 tw7582136125613584480 tw4623037308685939242 tw15267281653812103007 tw8827801154285433878 tw9768001149626668690 tw2054469379093835751 tw15939372753383547303 tw10366928112565636404 tw9187801626236914567 tw1257972911486099792 tw6595351118296123327 tw13211008348621754730 tw6846141498399340979 tw7490442537358883507 tw202583774944575105 tw2861617221147892766 tw8986476632666473653 tw1476535522198549621 tw403474002262251670 tw18351314933129768084 tw14539630906725961581 tw14092868909316961326 tw7607450386960608160 tw13981566467185335989 tw17085364122914445525 tw11786912541382672416 tw14616276689827941620 tw11092201054074275824 tw8216383339558370273 tw7707011802207123989 tw5787263760557742660 tw11173569067696872352 tw3959502937949183312 tw3769901715761864178 tw8544111961131073405 tw16070220177729665600 tw9762672653589688846 tw972188170825653054 tw10080450992876709455 tw3963962972785566275 tw744217488671777563 tw9644070268963112318 tw2654918481406156275 tw10764735259477580156 tw11958717954842627531 tw7099661908307603653 tw15552723477602207618 tw16804202446758520073 tw6671023522012858190 tw1360163352815362613 tw13890241700467219066 tw16662927998736516671 tw16938100387202758141 tw596103121155480883 tw15287187321914663591 tw14926310407424424283 tw12182805754044241384 tw307722359407818463 tw6164750463587420879 tw12870874588477909668 tw11256152192415403916 tw8775075935171865632 tw2788995821806330349 tw2728049787464038341 tw1133644493926865142 tw8862799101577964671 tw224852409493475425 tw642029169160939478 tw10391054187721693311 tw9454675670273834213 tw10702688058037485493 tw7971215625826408230 tw10342445656433140304 tw15896325765172156073 tw13449107777988643564 tw5113925695075505507 tw9112764673240020316 tw15696267279168907275 tw17680902983286418846 tw1826778208408265578 tw4160050740529720343 tw14136969997058527683 tw18285087458158669733 tw16679147817404677349 tw12349876356534909252 tw18203701602451191467 tw17654049629665738011 tw17907862476415956801 tw5467147231882269189 tw8638279109352830392 tw17932024835118068525 tw2587355372243898479 tw15968853714598875582 tw362525757684903728 tw17662457390457661524 tw2835360096085824387 tw16273498506983102143 tw16410153635289669805 tw15541120725554680127 tw10821918173801233262 tw326902970546744444 tw12747460862780076660 tw5055887852568472317 tw14969381707075972267 tw9537180603861922821 tw17658179639673979298 tw14442770250001447978 tw9421760930968727767 tw10633563078940914272 tw1128555911511803927 tw16003314749513019525 tw10405684380431712883 tw5441193066285346193 tw2036315077614242963 tw16560905192657218929 tw16824465681015339050 tw11185502765917579284 tw8649027871836039508 tw52029938012972946 tw3942347922054703915 tw2929120039099946063 tw17535766858848114594 tw8451240681363742485 tw3282677429034655246 tw8851493722227722409 tw11128095445161080833 tw6014864377254633052 tw3675040581727862549 tw13422836428554669558 tw12074192748845539544 tw10268581576915953523 tw4408842279795908255 tw5818083295274059078 tw1991037298449570966 tw9273634170291304093 tw17071877286420797529 tw14523589478517597161 tw1699930079484849628 tw3589072576638028481 tw13384860375033923253 tw8043529586190164976 tw13153081218098588996 tw5718470500273798278 tw14748166221540372773 tw17236373072324088677 tw4692538437871808029 tw14945376077484148773 tw398862875895721455 tw9346659486339585877 tw6927971653076465450 tw7267834475764276489 tw13075984858130567429 tw16789637258234850630 tw12129835575981853080 tw10487020608031372396 tw13583444501092466987 tw261080658992637844 tw3014106118510161329 tw10598236537127813620 tw9776822363281231085 tw18209144537848212652 tw2126956250213926450 tw12768957399492573634 tw10992426754266821109 tw1410918615998131301 tw5108745702171506398 tw6061058191832266401 tw9202101456236165294 tw12729471004205250571 tw14278434560020286204 tw17213761748361390363 tw8109676066325869832 tw10800426541889584811 tw3486979216819680667 tw8982796484192390035 tw17928998775572889544 tw6632330447381245996 tw10010402503341122133 tw6520785672641295174 tw16089631372251920541 tw12609979318238682772 tw9441812851239600201 tw4668339654992720424 tw9070235139785753495 tw27839792609906808 tw7501033360560924855 tw6840451132195534087 tw10633232413829410723 tw10212342126803348409 tw14086010127525266794 tw2415678866714484758 tw15308998731165838928 tw7797459783819710457 tw9057793971982523675 tw5604923944477359201 tw3771994965112623477 tw17287576294877971561 tw7584876327371157038 tw8726591875959522206 tw3931473818032378941 tw13837562645085573229 tw14208968421660375857 tw12286966466697164969 tw4455513231890991838 tw13361053803169371992 tw15695626527105478453 tw11492112761995353615 tw14035338704343626003 tw10639855613797209259 tw12327865403672599653 tw4426451588143155490 tw4590096647719876812 tw13079871814396735901 tw1176263750892037099 tw7953395775291391606 tw792404913305138040 tw8911841369296327062 tw15036175418330972840 tw3503468497067360319 tw9434864409062967788 tw2055510361223295586 tw14392772147483107334 tw14073467312107841943 tw9375098757066101691 tw14001630263946161059 tw3696197298706862469 tw12485239075112604714 tw14004141611641933767 tw16662573708535815274 tw3452412570617249845 tw3784709541566539674 tw5351660885320949876 tw7239115533655904233 tw6327972861879181235 tw7742675132246884013 tw8102065506404327725 tw3478010611093460927 tw8861249805157503538 tw12035108960254617943 tw16591848475070125278 tw5741297856423313453 tw11942031800374527344 tw11954086086966151095 tw16340862597373539538 tw5711205133313370366 tw11968116182791525949 tw2544539306605000010 tw598963909657247706 tw15311332245100176810 tw501475032964626025 tw16182717715363371802 tw12767223086478300595 tw13661349676215098750 tw16750069537732203882 tw1904073558688517268 tw1193255373812842400 tw14033620628979836848 tw17152413298824333769 tw15016694425208119628 tw487324952261709434 tw9980142818930844594 tw14655521034218617925 tw3001648542929846013 tw15369660219550771606 tw2129414286519204254 tw521246841527201198 tw4503161412100403899 tw6191714432514922229 tw17147086755970918592 tw17010474520193443656 tw14829412566008128263 tw2681736686197698846 tw4244604277998522560 tw7743263045423085264 tw4590284767944518975 tw14976666377767758935 tw4889938363049807120 tw2218392826893823168 tw4923366001147148121 tw16453933263631132598 tw12097900135888778290 tw10385600340780284125 tw13001608281235597568 tw7927568694001235468 tw3964297594431030980 tw3794630475453655898 tw191201495881219916 tw1791821305432929602 tw17208975626662122816 tw4517911826009080259 tw2444630172672759400 tw7766699103754173435 tw11994357585236907401 tw15126886989705011671 tw10442133786859900288 tw5229996601703348464 tw6356650264930626278 tw5343821108410382410 tw9944453861226493056 tw17341776072249966583 tw14466964172687603441 tw10788349329366888652 tw1094663253412980416 tw16162697792444298291 tw5116601015599286397 tw3163942512951453845 tw6173133803095042128 tw7024003646948145408 tw2749918063534022089 tw7706350872584318772 tw18224116013901264460 tw2325216783467521910 tw14731896586312361106 tw11073942910635862229 tw6325150851528583464 tw14683223074611194691 tw3014771206065025170 tw13370154066422490649 tw15175831464621640838 tw7740506364405022997 tw18265816262637053892 tw16855692589026571756 tw15822534212215265608 tw17240058989776131291 tw1505280571225300406 tw18221436965484364727 tw14650683964032367701 tw15494390685822989997 tw18232774893693576886 tw5948575967470193082 tw6452659007861251424 tw13546863104172304325 tw4942254649722233918 tw6417326117611549448 tw17693113535959395797 tw1260116405095356299 tw1574085043245831613 tw3749017951640690381 tw5438466253869426467 tw1493923949414792348 tw16103176068983729776 tw14195392130299351039 tw5442419078983169131 tw12285807942015736736 tw18108346468969084765 tw3387619272474432768 tw2511788310162638386 tw12624907097811693367 tw14848499572187080176 tw9347827570145200378 tw17269541095859940242 tw5960094933089980939 tw8453912732265171014 tw13407000319282887896 tw15487965088406826290 tw16853542021411523070 tw268985083516122848 tw4744653983004515660 tw6970413343357658841 tw1851233495215773698 tw14662343463644228735 tw4281619173972584102 tw11876757050484304100 tw9018748435391641237 tw2676875081471855117 tw13150788068086631893 tw4235459749836471628 tw12356751995370296321 tw2766756929280147568 tw11299128974017586884 tw6629361252855222883 tw9161088627939159026 tw12700115502681443782 tw10474571469967083999 tw9444981369454542729 tw2706949474686436142 tw11713996528979070941 tw3749705290335051125 tw5627327677492660669 tw4959541756493902530 tw16546187939558925718 tw1364912170034769875 tw6392251636284826558 tw15835693231435631897 tw14477980684682920156 tw8306548200851997407 tw12226805563883059714 tw7702724251534926178 tw13541497513162757085 tw6526950865575742203 tw4031693914599854820 tw7380320121412635430 tw5709021352535640977 tw10102933582888394782 tw11237568541480297071 tw11316007039031676680 tw13653963567059896117 tw8866163731746706295 tw484344545445440857 tw3363526920234581629 tw11656609913440038084 tw11476310193349808509 tw18193069419668370676 tw1468161080026206678 tw1102881114782402583 tw2955851291056398508 tw1040307127673185215 tw16373678027046366414 tw1530738818982558936 tw12981331376451789556 tw4124396862120321643 tw2463614739431156768 tw16298853538839558816 tw9408278923013260361 tw9980267191500661997 tw7546980926052863216 tw5072119564509916758 tw15929033610951035982 tw10720326020737336860 tw3435813378206103120 tw2543666453107180071 tw1656856236703345034 tw12084986653699373117 tw16130129814693529168 tw6389204184023588969 tw10238049628746633123 tw7701664035059018476 tw12502045696662747031 tw3799929160052757461 tw8711652021728965977 tw16478461069149816617 tw16023108738199180674 tw2006219255993051221 tw17233718801736183495 tw15373535076077439247 tw3149237129321952168 tw16020586833434299777 tw17503989181584313327 tw15328481717893027425 tw8342799110459189315 tw7871593495261906677 tw1987377955942042243 tw10319570659864703650 tw11774982395625318697 tw14820489527244452344 tw13526288819066072756 tw519246995839670732 tw1005405271627702729:True)
end PySem.W
section
set_option Elab.async false
namespace L2
open PySem PySem.Spec PyProof.Rows
noncomputable abbrev Key:=Sum Int aG
noncomputable def QI:Key->aD->Bool
 |.inl k,v=>ss k v
 |.inr x,v=>sL x v
noncomputable def ju (w:dL):Key->Int
 |.inl k=>hashInt k
 |.inr x=>iV w x
theorem qj:∀{k:Key}{v:aD},QI k v=aB->(∃i t,k=le i/\v=mB i t)\/(∃x t,k=lP x/\v=o6 x t)
 |.inl i,v,h=>by
  obtain⟨t,e⟩:=Dc (k:=i) (v:=v) h;exact .inl ⟨i,t,rfl,e⟩
 |.inr x,v,h=>by
  obtain⟨t,e⟩:=CH (x:=x) (v:=v) h;exact .inr ⟨x,t,rfl,e⟩
theorem Yh(i:Int)(t:Tok):QI (.inl i) (.int i t)=aB:=by simp[QI,ss]
theorem QG(x:aG)(t:Tok):QI (.inr x) (.str x t)=aB:=by simp[QI,sL]
theorem MB(a b:Int):decide ((le a:Key)=le b)=(a==b):=by
 by_cases e:a=b
 ·subst e;simp
 ·have h:¬(le a:Key)=le b:=λq=>e (Sum.inl.inj q);rw[decide_eq_false h];exact (beq_eq_false_iff_ne.mpr e).symm
theorem Na(a b:aG):decide ((lP a:Key)=lP b)=decide (a=b):=by
 by_cases e:a=b
 ·subst e;simp
 ·have h:¬(lP a:Key)=lP b:=λq=>e (lU q);rw[decide_eq_false h,decide_eq_false e]
theorem N5(a:Int)(b:aG):decide ((le a:Key)=lP b)=aC:=decide_eq_false (λq=>nomatch q)
theorem Nb(a:aG)(b:Int):decide ((lP a:Key)=le b)=aC:=decide_eq_false (λq=>nomatch q)
noncomputable def zN(prog:cG)(w:dL):PySem.KeyKind prog w Key where
 is:=QI
 hash:=ju w
 inj:=λv a b l f=>by
  rcases qj l with⟨i,t,rfl,rfl⟩|⟨x,t,rfl,rfl⟩
  ·rcases qj f with⟨j,u,rfl,e⟩|⟨y,u,rfl,e⟩
   ·injection e with c _;rw[c]
   ·exact nomatch e
  ·rcases qj f with⟨j,u,rfl,e⟩|⟨y,u,rfl,e⟩
   ·exact nomatch e
   ·injection e with c _;rw[c]
 byValue:=λk v h=>by
  rcases qj h with⟨i,t,rfl,rfl⟩|⟨x,t,rfl,rfl⟩<;>rfl
 pyHash:=λd h=>by
  rcases qj d with⟨i,t,rfl,rfl⟩|⟨x,t,rfl,rfl⟩
  ·exact wpAny_pyHash_int h
  ·exact wpAny_pyHash_str h
 eqBool:=λg d h=>by
  rcases qj g with⟨i,t,rfl,rfl⟩|⟨x,t,rfl,rfl⟩
  ·rcases qj d with⟨j,u,rfl,rfl⟩|⟨y,u,rfl,rfl⟩
   ·rw[MB] at h;exact wpAny_eqBool_int h
   ·rw[N5] at h;exact DQ i t y u _ _ _ _ h
  ·rcases qj d with⟨j,u,rfl,rfl⟩|⟨y,u,rfl,rfl⟩
   ·rw[Nb] at h;exact DO x t j u _ _ _ _ h
   ·rw[Na] at h;exact wpAny_eqBool_str h
 «strs»:=λk x t v h=>by
  rcases qj h with⟨i,u,rfl,e⟩|⟨y,u,rfl,e⟩
  ·exact nomatch e
  ·injection e with c _;subst c;cases v<;>rfl
theorem yP(prog:cG)(w:dL)(i:Int)(t:Tok):(zN prog w).is (.inl i) (.int i t)=aB:=Yh i t
theorem yZ(prog:cG)(w:dL)(x:aG)(t:Tok):(zN prog w).is (.inr x) (.str x t)=aB:=QG x t
end L2
namespace L2
open PySem PySem.Spec PyProof.Rows
set_option genInjectivity true in
inductive V where
 |non|bl (b:Bool)|int (i:Int)|str (x:aG)|byt (b:Array UInt8)|flt (b:UInt64)|ref (a:aF)|ty (n:String)
 deriving DecidableEq
noncomputable def RelV:V->aD->Prop
 |.non,u=>u=eX
 |.bl b,u=>u=lR b
 |.int i,u=>∃t,u=mB i t
 |.str x,u=>∃t,u=o6 x t
 |.byt b,u=>∃t,u=CT b t
 |.flt b,u=>∃t,u=CS b t
 |.ref a,u=>u=cN a
 |.ty n,u=>u=nv n
abbrev aY:List V->List aD->Prop:=Paired RelV
theorem aY.length(r:aY xs us):xs.length=us.length:=CG r
theorem aY.get:∀{xs:List V}{us:List aD}{i:Nat}{x:V},aY xs us->xs[i]?=aA x->∃u,us[i]?=aA u/\RelV x u
 |_,_,_,_,.nil,e=>by simp at e
 |_,_,0,_,.cons r _,e=>by simp at e;subst e;exact⟨_,rfl,r⟩
 |_,_,i+1,x,.cons _ t,e=>by
  obtain⟨u,h1,h2⟩:=aY.get (i:=i) (x:=x) t (by simpa using e);exact⟨u,by simpa using h1,h2⟩
theorem aY.set(r:RelV x u):∀{xs:List V}{us:List aD}(i:Nat),aY xs us->aY (xs.set i x) (us.set i u)
 |_,_,_,.nil=>.nil
 |_,_,0,.cons _ t=>.cons r t
 |_,_,i+1,.cons q t=>.cons q (aY.set r i t)
theorem aY.append:∀{xs ys:List V}{us a:List aD},aY xs us->aY ys a->aY (xs++ys) (us++a)
 |_,_,_,_,.nil,s=>s
 |_,_,_,_,.cons r t,s=>.cons r (aY.append t s)
theorem aY.take:∀{xs:List V}{us:List aD}(n:Nat),aY xs us->aY (xs.take n) (us.take n)
 |_,_,0,_=>.nil
 |_,_,_+1,.nil=>.nil
 |_,_,n+1,.cons r t=>.cons r (aY.take n t)
theorem aY.drop:∀{xs:List V}{us:List aD}(n:Nat),aY xs us->aY (xs.drop n) (us.drop n)
 |_,_,0,r=>r
 |_,_,_+1,.nil=>.nil
 |_,_,n+1,.cons _ t=>aY.drop n t
noncomputable def cV:Option V->Option aD->Prop
 |some v,aA u=>RelV v u
 |none,aE=>True
 |_,_=>False
noncomputable def KV {a:Type}:List (a×V)->List (a×aD)->Prop:=Paired λ(p:a×V) (q:a×aD)=>p.1=q.1/\RelV p.2 q.2
noncomputable def kV:Key->V
 |.inl i=>.int i
 |.inr x=>.str x
inductive HO where
 |lst (xs:List V)
 |tup (xs:List V)
 |dK (kvs:List (Key×V))|dE (ep:Nat) (kvs:List (Key×V))
 |set (S:Int->Bool) (n:Nat)
 |ins (C dx:aF) (fs:List (aG×V))
 |own (x:aF)
 |xd (fs:List (aG×V))
 |met (f x:aF)
 |rng (lo hi:Int)
 |frz (o:bA) (u:HO)
 |tbl (ps:Array aD)
 |ext (φ:aV->Prop)
noncomputable abbrev Hp:=aF->Option HO
noncomputable def upd (H:Hp)(a:aF)(o:HO):Hp:=λb=>if b=a then aA o else H b
theorem z3:upd H a o a=aA o:=by unfold upd;rw[if_pos rfl]
theorem z4(h:b≠a):upd H a o b=H b:=by unfold upd;rw[if_neg h]
theorem XR:upd (upd H a o) a u=upd H a u:=by
 funext b;unfold upd;split<;>rfl
theorem zI{H:Hp}(h:H a=aA o)(h':H b=aE):a≠b:=by
 intro e;subst e;rw[h] at h';cases h'
section
variable (P:Program)(w:World)
noncomputable def a6(H:Hp)(h:aV)(a:aF):HO->Prop
 |.lst e=>e.length<=sizeLine/\∃(c:List aD) (n:Nat),aY e c/\h.get? a=aA {cls:=.type "list",data:=.seq c.toArray n}
 |.tup e=>e.length<=sizeLine/\∃c:List aD,aY e c/\lb h a c.toArray
 |.dK b=>b.length<=sizeLine/\(a==gT)=aC/\∃g,KV b g/\h.DictOf (zN P w) a g
 |.dE ep b=>b.length<=sizeLine/\(a==gT)=aC/\∃g,KV b g/\h.DictAt (zN P w) a g ep
 |.set S n=>h.SetOf (intKind P w) a S n
 |.ins C dx fs=>H dx=aA (.own a)/\fs.length<=1000/\dx≠a/\h.get? a=aA (lC C dx)/\
   ∃d,h.Ns1 dx d/\(∀f,cV (fs.lookup f) (d f))/\sS d (fs.map (·.1))
 |.own _=>∃o,h.get? a=aA o
 |.xd fs=>∃d,h.Ns1 a d/\∀f,cV (fs.lookup f) (d f)
 |.rng lo m=>∃t u v,h.get? a=aA {cls:=.type "range",data:=.fields #[.int lo t,.int m u,.int 1 v]}
 |.frz o u=>h.get? a=aA o/\a6 H h a u
 |.tbl l=>h.get? a=aA {cls:=.none,data:=.fields l}
 |.met f x=>h.get? a=aA (tH (.ref f) (.ref x))
 |.ext i=>i h/\(∃o,h.get? a=aA o)/\∀k j:aV,i k->(∀o,k.get? a=aA o->j.get? a=aA o)->i j
noncomputable def dR (H:Hp)(h:aV):Prop:=∀a o,H a=aA o->a6 P w H h a o
end
section
variable {P:Program}{w:World}{H H':Hp}{h h':aV}{a:aF}{o:HO}
theorem a6.lt(x:a6 P w H h a o):a<h.objs.size:=by
 cases o with
 |lst xs=>obtain⟨_,_,_,_,e⟩:=x;exact bZ e
 |tup xs=>obtain⟨_,_,_,p⟩:=x;exact p.lt
 |dK b=>obtain⟨_,_,_,_,o,_,_,e,_⟩:=x;exact bZ e
 |dE ep b=>obtain⟨_,_,_,_,o,_,e,_⟩:=x;exact bZ e
 |set S n=>obtain⟨o,_,_,_,e,_⟩:=x;exact bZ e
 |ins C dx fs=>obtain⟨_,_,_,e,_⟩:=x;exact bZ e
 |own y=>obtain⟨_,e⟩:=x;exact bZ e
 |xd fs=>obtain⟨_,⟨_,_,_,e,_⟩,_⟩:=x;exact bZ e
 |rng lo c=>obtain⟨_,_,_,e⟩:=x;exact bZ e
 |frz ob u=>obtain⟨e,_⟩:=x;exact bZ e
 |tbl ps=>exact bZ (show h.get? a=aA _ from x)
 |met f y=>exact bZ (show h.get? a=aA _ from x)
 |ext φ=>obtain⟨_,⟨_,e⟩,_⟩:=x;exact bZ e
theorem a6.stay(x:a6 P w H h a o)(k:∀b u,(b=a\/H b=aA (.own a))->h.get? b=aA u->h'.get? b=aA u)
  (ho:∀b,H b=aA (.own a)->H' b=aA (.own a)) (m:∀b xs,H b=aA (.tup xs)->H' b=aA (.tup xs)):a6 P w H' h' a o:=by
 induction o with
 |lst xs=>obtain⟨z,its,n,r,e⟩:=x;exact⟨z,its,n,r,k _ _ (.inl rfl) e⟩
 |tup xs=>obtain⟨z,its,r,ob,e,c⟩:=x;exact⟨z,its,r,ob,k _ _ (.inl rfl) e,c⟩
 |dK i=>obtain⟨z,y,vs,r,ob,es,ep,e,c⟩:=x;exact⟨z,y,vs,r,ob,es,ep,k _ _ (.inl rfl) e,c⟩
 |dE ep i=>obtain⟨z,y,vs,r,ob,es,e,c⟩:=x;exact⟨z,y,vs,r,ob,es,k _ _ (.inl rfl) e,c⟩
 |set S n=>obtain⟨ob,es,ep,t,e,c⟩:=x;exact⟨ob,es,ep,t,k _ _ (.inl rfl) e,c⟩
 |ins C dx fs=>
  obtain⟨d,z,ne,e,g,⟨od,es,ep,l,c⟩,r⟩:=x;exact⟨ho _ d,z,ne,k _ _ (.inl rfl) e,g,⟨od,es,ep,k _ _ (.inr d) l,c⟩,r⟩
 |own y=>obtain⟨ob,e⟩:=x;exact⟨ob,k _ _ (.inl rfl) e⟩
 |xd fs=>obtain⟨g,⟨od,es,ep,e,c⟩,r⟩:=x;exact⟨g,⟨od,es,ep,k _ _ (.inl rfl) e,c⟩,r⟩
 |rng lo s=>obtain⟨t,u,v,e⟩:=x;exact⟨t,u,v,k _ _ (.inl rfl) e⟩
 |frz ob u j=>obtain⟨e,q⟩:=x;exact⟨k _ _ (.inl rfl) e,j q⟩
 |tbl ps=>
  have e:h.get? a=aA {cls:=.none,data:=.fields ps}:=x;show h'.get? a=aA {cls:=.none,data:=.fields ps};exact k a _ (.inl rfl) e
 |met f y=>
  have e:h.get? a=aA (tH (.ref f) (.ref y)):=x;show h'.get? a=aA (tH (.ref f) (.ref y));exact k a _ (.inl rfl) e
 |ext φ=>obtain⟨p,⟨o,e⟩,st⟩:=x;exact⟨st _ _ p λo q=>k _ _ (.inl rfl) q,⟨o,k _ _ (.inl rfl) e⟩,st⟩
theorem dR.lt(x:dR P w H h)(e:H a=aA o):a<h.objs.size:=(x a o e).lt
theorem dR.fresh(x:dR P w H h)(e:h.objs.size<=a):H a=aE:=by
 cases q:H a with
 |none=>rfl
 |some u=>exact absurd (cY (x.lt q) e) (iH _)
theorem dR.kept(x:dR P w H h)(k:∀b u,h.get? b=aA u->h'.get? b=aA u):dR P w H h':=λa o e=>
 (x a o e).stay (λb u _ q=>k b u q) (λ_ q=>q) λ_ _ q=>q
theorem dR.laid(x:dR P w H h)(k:∀b u,h.get? b=aA u->h'.get? b=aA u)(g:h.objs.size<=a)(new:a6 P w (upd H a o) h' a o):dR P w (upd H a o) h':=λb u e=>by
 have d:=x.fresh g;by_cases f:b=a
 ·subst f;rw[z3] at e;cases e;exact new
 ·rw[z4 f] at e;exact (x b u e).stay (λc v _ q=>k c v q) (λc q=>by rw[z4 (zI q d)];exact q) λc xs q=>by rw[z4 (zI q d)];exact q
end
noncomputable def Rd (H:Hp)(a:aF)(u:HO):Prop:=H a=aA u\/∃o,H a=aA (.frz o u)
theorem Rd.ok{P:cG}(r:Rd H a u)(x:dR P w H h):a6 P w H h a u:=by
 rcases r with r|⟨o,r⟩
 ·exact x a u r
 ·obtain⟨_,q⟩:=x a _ r;exact q
noncomputable def oR:Option HO->Prop
 |some (.lst _)=>True
 |some (.dK _)=>True
 |some (.dE _ _)=>True
 |some (.set _ _)=>True
 |some (.ins _ _ _)=>True
 |some (.ext _)=>True
 |_=>False
section
variable {P:Program}{w:World}{H:Hp}{h h':aV}{x e:aF}{o':HO}
theorem dR.write(ok:dR P w H h)(g:oR (H x))(he:e=x\/H e=aA (.own x))(k:∀b u,b≠e->h.get? b=aA u->h'.get? b=aA u)(l:∃u,h'.get? e=aA u)
  (new:a6 P w (upd H x o') h' x o'):dR P w (upd H x o') h':=λb u q=>by
 have d:∀c y,H c=aA (.own y)->c≠x:=λc y r z=>by subst z;rw[r] at g;exact g
 have f:∀c xs,H c=aA (.tup xs)->c≠x:=λc xs r z=>by subst z;rw[r] at g;exact g
 by_cases j:b=x
 ·subst j;rw[z3] at q;cases q;exact new
 ·rw[z4 j] at q;by_cases a:b=e
  ·have m:H b=aA (.own x):=by
    rcases he with z|z
    ·exact absurd (a.trans z) j
    ·rw[a];exact z
   rw[q] at m;cases m;obtain⟨v,n⟩:=l;exact⟨v,by rw[a];exact n⟩
  ·refine (ok b u q).stay (λc v i r=>k c v ?_ r) (λc r=>by rw[z4 (d c b r)];exact r) λc xs r=>by rw[z4 (f c xs r)];exact r
   rcases i with rfl|i
   ·exact a
   ·rintro rfl;rcases he with z|z
    ·exact d c b i z
    ·rw[i] at z;cases z;exact j rfl
end
structure Un(fs ex:List aF)(H H':Hp)(h h':aV):Prop where
 keep:∀b o,h.get? b=aA o->H b=aE->b∉fs->b∉ex->h'.get? b=aA o
 slot:∀b o,h.get? b=aA o->H b=aE->b∈fs->b∉ex->∃sl,h'.get? b=aA {o with slots:=sl}
 free:∀b o,h.get? b=aA o->H b=aE->b∉ex->H' b=aE
 there:∀b o,h.get? b=aA o->b∉ex->∃o',h'.get? b=aA o'
 tups:∀b xs,H b=aA (.tup xs)->H' b=aA (.tup xs)
 frzs:∀b o u,H b=aA (.frz o u)->H' b=aA (.frz o u)
 tbls:∀b ps,H b=aA (.tbl ps)->∃more,H' b=aA (.tbl (ps++more))
section
variable {fs ex:List aF}{H H1:Hp}{h h1 h':aV}{a x e:aF}{o:HO}
theorem Un.any(u:Un fs ex H H1 h h1)(q:h.get? b=aA ob)(n:H b=aE)(hx:b∉ex):∃d,h1.get? b=aA {ob with slots:=d}:=by
 by_cases a:b∈fs
 ·exact u.slot b ob q n a hx
 ·exact⟨ob.slots,u.keep b ob q n a hx⟩
theorem Un.kept(k:∀b u,h.get? b=aA u->h'.get? b=aA u):Un fs ex H H h h':=
 ⟨λb ob q _ _ _=>k b ob q,λb ob q _ _ _=>⟨ob.slots,k b ob q⟩,λ_ _ _ n _=>n,λb ob q _=>⟨ob,k b ob q⟩,λ_ _ q=>q,λ_ _ _ q=>q,λ_ ps q=>⟨#[],by rw[q];simp⟩⟩
theorem Un.refl:Un fs ex H H h h:=Un.kept λ_ _ q=>q
theorem Un.laid(k:∀b u,h.get? b=aA u->h'.get? b=aA u)(d:h.objs.size<=a)(c:H a=aE):Un fs ex H (upd H a o) h h' where
 keep:=λb u q _ _ _=>k b u q
 slot:=λb u q _ _ _=>⟨u.slots,k b u q⟩
 free:=λb u q n _=>by rw[z4 (dP (cY (bZ q) d))];exact n
 there:=λb u q _=>⟨u,k b u q⟩
 tups:=λb xs q=>by rw[z4 (zI q c)];exact q
 frzs:=λb u xs q=>by rw[z4 (zI q c)];exact q
 tbls:=λb ps q=>⟨#[],by rw[z4 (zI q c),q];simp⟩
theorem Un.write(c:oR (H x))(he:e=x\/H e=aA (.own x))(k:∀b u,b≠e->h.get? b=aA u->h'.get? b=aA u)(f:∃u,h'.get? e=aA u):Un fs ex H (upd H x o) h h':=by
 have hx:∀b,H b=aE->b≠x:=λb n z=>by subst z;rw[n] at c;exact c
 have g:∀b,H b=aE->b≠e:=λb n z=>by
  subst z;rcases he with r|r
  ·exact hx b n r
  ·rw[n] at r;cases r
 have d:∀b u,H b=aA u->¬oR (aA u)->b≠x:=λb u q nm z=>by subst z;rw[q] at c;exact nm c
 refine⟨λb u q n _ _=>k b u (g b n) q,λb u q n _ _=>⟨u.slots,k b u (g b n) q⟩,λb u q n _=>by rw[z4 (hx b n)];exact n,λb u q _=>?_,
  λb xs q=>by rw[z4 (d b _ q λz=>z)];exact q,λb u xs q=>by rw[z4 (d b _ q λz=>z)];exact q,λb ps q=>⟨#[],by rw[z4 (d b _ q λz=>z),q];simp⟩⟩
 by_cases a:b=e
 ·subst a;exact f
 ·exact⟨u,k b u a q⟩
end
noncomputable def rM (h:aV)(H:Hp):List aF:=(gM h.objs.size).filter λa=>(H a).isSome
noncomputable def Qr (h:aV)(H:Hp):aV:=PySem.W.hideAll h (rM h H)
theorem YJ(h:aV)(H:Hp):(Qr h H).objs.size=h.objs.size:=PySem.W.hideAll_size _ _
theorem R8(e:h.get? b=aA o)(n:H b=aE):(Qr h H).get? b=aA o:=
 PySem.W.hideAll_get _ e λa=>by
  have q:(H b).isSome=aB:=(fS.mp a).2;rw[n] at q;simp at q
theorem O0(e:(Qr h H).get? b=aA o):h.get? b=aA o/\H b=aE:=by
 have a:h.get? b=aA o:=PySem.W.of_hideAll (rM h H) e;refine⟨a,?_⟩;cases q:H b with
 |none=>rfl
 |some x=>
  have c:b∈rM h H:=fS.mpr ⟨pK.mpr (bZ a),by simp[q]⟩;have z:(Qr h H).get? b=aE:=PySem.W.hideAll_none (rM h H) c;rw[z] at e;cases e
noncomputable def Rj(g h:aV)(L:aF):List (aF×bA):=(gM h.objs.size).filterMap λa=>if a=L\/(g.get? a).isSome=aB then aE else (h.get? a).map λo=>(a,o)
noncomputable def rest (g h:aV)(L d:aF):List (aF×bA):=(Rj g h L).filter λp=>decide (p.1≠d)
end L2
namespace L2
open PySem PySem.Spec PyProof.Rows
structure Mod(K:PySem.W.Frag)(mg:aG->Option aD)(base:aV):Prop where
 kin:K.In base
 glob:base.Ns bO mg
 blt:∃mb,base.Ns lj mb/\∀x:aG,x≠"__name__"->mb x=hS x
 nolimit:base.NoLimit
structure Cx where
 prog:cG
 w:dL
 K:bJ
 mg:aG->Option aD
 base:aV
 A:eN
 N:List aG
 s₀:a9
 H₀:Hp
 env:Env
 outer:List Env
 stack:List Env
 ex:List aF
 fn:aG->Bool
 calm:Bool
 pn:List (aF×bA)
 xe:aD->a9->Prop
noncomputable def eS(l:List Env):List aF:=l.filterMap (·.frame)
noncomputable abbrev Cx.fs(X:Cx):List aF:=eS X.outer
noncomputable def ie(sc:Scope)(x:aG):Prop:=sc.names.lookup x=aA .local\/sc.names.lookup x=aA .cell\/sc.names.lookup x=aA .free
noncomputable def Loc(sc:Scope)(x:aG):Prop:=sc.names.lookup x=aA .local\/sc.names.lookup x=aA .cell
noncomputable def Look(env:Env)(h:aV)(m:aG->Option aD)(x:aG)(u:aD):Prop:=
 (env.kindOf x=aA .local/\m x=aA u)\/((env.kindOf x=aA .cell\/env.kindOf x=aA .free)/\∃c,env.cells.lookup x=aA c/\h.IsCell c (aA u))
structure Cx.Ok(X:Cx):Prop where
 mod:Mod X.K X.mg X.base
 kind:X.env.scope.kind=.function
 glob:X.env.globals=bO
 blt:X.env.builtins=lj
 above:X.s₀.heap.objs.size<=X.env.locals
 inj:∀x y c,X.env.cells.lookup x=aA c->X.env.cells.lookup y=aA c->x=y
 has:∀x,(X.env.kindOf x=aA .cell\/X.env.kindOf x=aA .free)->∃c,X.env.cells.lookup x=aA c
 cab:∀x c,X.fn x=aB->X.env.cells.lookup x=aA c->X.s₀.heap.objs.size<=c
 hd:X.calm=aB->X.A.handled=aE
 frames:X.A.frames=aA X.stack
 stk:X.stack=X.outer\/(X.stack=X.env::X.outer/\X.env.frame=aA X.env.locals)
 exf:∀b∈X.ex,b≠X.env.locals/\∀x c,X.env.cells.lookup x=aA c->c≠b
 bs:∀b o,X.base.get? b=aA o->X.s₀.heap.get? b=aA o/\X.H₀ b=aE
 bsz:X.base.objs.size<=X.s₀.heap.objs.size
 noex:∀b o,X.base.get? b=aA o->b∉X.ex
 exfs:∀b∈X.ex,b∉X.fs
 funs:X.s₀.heap.FunFrames X.base X.outer
 frf:∀b∈X.fs,X.H₀ b=aE
structure Inv(X:Cx)(pins:List (aF×bA))(σ:List (Option V))(H:Hp)(s:Shared):Prop where
 ok:X.Ok
 os:s.os=X.s₀.os
 bare:iT s.gens
 base:Un X.fs X.ex X.H₀ H X.s₀.heap s.heap
 loc:∃m,s.heap.Ns X.env.locals m/\∀(i:Nat) (x:aG) (v:V),X.N[i]?=aA x->σ[i]?=aA (aA v)->ie X.env.scope x->∃u,RelV v u/\Look X.env s.heap m x u
 cell:∀x c,X.env.cells.lookup x=aA c->∃v,s.heap.IsCell c v
 free:H X.env.locals=aE
 freeC:∀x c,X.env.cells.lookup x=aA c->H c=aE\/(X.fn x=aC/\∃o u,H c=aA (.frz o u))
 pin:∀p∈X.pn++pins,s.heap.get? p.1=aA p.2/\H p.1=aE/\p.1≠X.env.locals/\p.1∉X.fs/\∀v,p.2.data≠.cell v
 hok:dR X.prog X.w H s.heap
 len:σ.length=X.N.length
section
variable {X:Cx}{pins:List (aF×bA)}{σ:List (Option V)}{H H':Hp}{s:Shared}{h':aV}
theorem Cx.Ok.nofr(ok:X.Ok)(e:X.base.get? b=aA o):b∉X.fs:=λa=>by
 have:=(ok.funs.mem a).1;rw[e] at this;cases this
theorem Inv.bs(I:Inv X pins σ H s):∀b o,X.base.get? b=aA o->s.heap.get? b=aA o/\H b=aE:=λb o e=>
 ⟨I.base.keep b o (I.ok.bs b o e).1 (I.ok.bs b o e).2 (I.ok.nofr e) (I.ok.noex b o e),I.base.free b o (I.ok.bs b o e).1 (I.ok.bs b o e).2 (I.ok.noex b o e)⟩
theorem Inv.bk(I:Inv X pins σ H s):∀b o,X.base.get? b=aA o->s.heap.get? b=aA o:=λb o e=>(I.bs b o e).1
theorem Inv.mod(I:Inv X pins σ H s):Mod X.K X.mg X.base:=I.ok.mod
theorem Inv.kIn(I:Inv X pins σ H s):X.K.In s.heap:=I.ok.mod.kin.keeps I.bk
theorem Inv.lt(I:Inv X pins σ H s):X.env.locals<s.heap.objs.size:=let ⟨_,a,_⟩:=I.loc;a.lt
theorem Inv.sz(I:Inv X pins σ H s):X.s₀.heap.objs.size<=s.heap.objs.size:=cU I.ok.above (nG I.lt)
theorem Inv.nofs(I:Inv X pins σ H s){a:aF}(h:s.heap.objs.size<=a):a∉X.fs:=λb=>by
 obtain⟨_,o,ho,_⟩:=I.ok.funs.mem b;exact absurd (cY (bZ ho) (cU I.sz h)) (iH _)
theorem Inv.cne(I:Inv X pins σ H s):∀x c,X.env.cells.lookup x=aA c->c≠X.env.locals:=λx c e z=>by
 obtain⟨v,o,ho,hd⟩:=I.cell x c e;obtain⟨m,⟨d,es,ep,a,b,_⟩,_⟩:=I.loc;rw[z,a] at ho;cases ho;rw[b] at hd;cases hd
theorem Inv.funs(I:Inv X pins σ H s):s.heap.FunFrames X.base X.outer:=by
 have all:∀(l:List Env),(∀b∈eS l,b∈X.fs)->X.s₀.heap.FunFrames X.base l->s.heap.FunFrames X.base l:=by
  intro l;induction l with
  |nil=>intro _ _;trivial
  |cons env r f=>
   intro hs i;obtain⟨hk,⟨L,o,a,h,ho,hd⟩,g⟩:=i;have d:L∈X.fs:=hs L (by unfold eS;rw[p_,a];exact eU);obtain⟨j,e⟩:=I.base.slot L o ho (I.ok.frf L d) d λz=>I.ok.exfs L z d;exact⟨hk,⟨L,_,a,h,e,hd⟩,f (λb c=>hs b (by unfold eS;rw[p_,a];exact d9 _ c)) g⟩
 exact all X.outer (λ_ c=>c) I.ok.funs
theorem Inv.stack(I:Inv X pins σ H s):s.heap.FunFrames X.base X.stack:=by
 rcases I.ok.stk with e|⟨e,b⟩
 ·rw[e];exact I.funs
 ·rw[e];obtain⟨m,a,_⟩:=I.loc;refine .cons (by rw[I.ok.kind];decide) b a ?_ I.funs;exact lD (cU I.ok.bsz I.ok.above)
theorem Inv.stkSub(I:Inv X pins σ H s):∀b∈eS X.stack,b∈X.env.locals::X.fs:=λb a=>by
 rcases I.ok.stk with e|⟨e,c⟩
 ·rw[e] at a;exact d9 _ a
 ·rw[e] at a;unfold eS at a;rw[p_,c] at a;exact a
theorem Inv.stkFree(I:Inv X pins σ H s):∀b∈eS X.stack,H b=aE:=λb a=>by
 rcases cA.mp (I.stkSub b a) with e|a
 ·rw[e];exact I.free
 ·obtain⟨_,o,ho,_⟩:=I.ok.funs.mem a;exact I.base.free b o ho (I.ok.frf b a) λz=>I.ok.exfs b z a
theorem Inv.step{ch:List aF}(I:Inv X pins σ H s)
  (g:∀b∈ch,(b∈X.ex\/X.s₀.heap.objs.size<=b)/\b≠X.env.locals/\(∀x c,X.env.cells.lookup x=aA c->c≠b)/\∀p∈X.pn++pins,p.1≠b)
  (keep:∀b o,b≠X.env.locals->b∉X.fs->b∉ch->s.heap.get? b=aA o->H b=aE->h'.get? b=aA o)
  (slot:∀b o,b≠X.env.locals->b∈X.fs->b∉ch->s.heap.get? b=aA o->H b=aE->∃G,h'.get? b=aA {o with slots:=G}) (free:∀b o,b∉ch->s.heap.get? b=aA o->H b=aE->H' b=aE)
  (there:∀b o,b∉ch->s.heap.get? b=aA o->∃A,h'.get? b=aA A)
  (tups:∀b xs,H b=aA (.tup xs)->H' b=aA (.tup xs)) (frzs:∀b o u,H b=aA (.frz o u)->H' b=aA (.frz o u)) (tbls:∀b ps,H b=aA (.tbl ps)->∃C,H' b=aA (.tbl (ps++C)))
  (ns:∀m,s.heap.Ns X.env.locals m->h'.Ns X.env.locals m) (hok:dR X.prog X.w H' h') (P:iT g') :
  Inv X pins σ H' {s with heap:=h',gens:=g',drawn:=d',toks:=t'}:=by
 have B:∀b o,X.s₀.heap.get? b=aA o->b≠X.env.locals:=λb o e=>dP (cY (bZ e) I.ok.above);have j:∀b o,X.s₀.heap.get? b=aA o->b∉X.ex->b∉ch:=λb o e hx y=>by
  rcases (g b y).1 with z|z
  ·exact hx z
  ·exact absurd (cY (bZ e) z) (iH _)
 have h:∀x c,X.env.cells.lookup x=aA c->∀v,s.heap.IsCell c v->h'.IsCell c v:=λx c e v ⟨o,ho,hd⟩=>by
  have a:c∉ch:=λz=>(g c z).2.2.1 x c e rfl;rcases I.freeC x c e with f|⟨_,ob,u,f⟩
  ·by_cases K:c∈X.fs
   ·obtain⟨G,q⟩:=slot c o (I.cne x c e) K a ho f;exact⟨_,q,hd⟩
   ·exact⟨o,keep c o (I.cne x c e) K a ho f,hd⟩
  ·have h1:=(I.hok c _ f).1;rw[ho] at h1;cases h1;exact⟨o,(hok c _ (frzs c _ u f)).1,hd⟩
 refine⟨I.ok,I.os,P,⟨λb o e n y hx=>?_,λb o e n y hx=>?_,λb o e n hx=>?_,λb o e hx=>?_,λb xs e=>tups b xs (I.base.tups b xs e),λb o xs e=>frzs b o xs (I.base.frzs b o xs e),λb ps e=>?_⟩,?_,λx c e=>?_,?_,λx c e=>?_,λp J=>?_,hok,I.len⟩
 ·exact keep b o (B b o e) y (j b o e hx) (I.base.keep b o e n y hx) (I.base.free b o e n hx)
 ·obtain⟨G,t⟩:=I.base.slot b o e n y hx;obtain⟨E,D⟩:=slot b _ (B b o e) y (j b o e hx) t (I.base.free b o e n hx);exact⟨E,D⟩
 ·obtain⟨A,t⟩:=I.base.there b o e hx;exact free b A (j b o e hx) t (I.base.free b o e n hx)
 ·obtain⟨A,t⟩:=I.base.there b o e hx;exact there b A (j b o e hx) t
 ·obtain⟨M,t⟩:=I.base.tbls b ps e;obtain⟨L,D⟩:=tbls b _ t;exact⟨M++L,by rw[D,Array.append_assoc]⟩
 ·obtain⟨m,N,O⟩:=I.loc;refine⟨m,ns m N,λi x v t D Q=>?_⟩;obtain⟨u,r,l⟩:=O i x v t D Q;refine⟨u,r,?_⟩;rcases l with l|⟨k,c,e,z⟩
  ·exact .inl l
  ·exact .inr ⟨k,c,e,h x c e _ z⟩
 ·obtain⟨v,z⟩:=I.cell x c e;exact⟨v,h x c e v z⟩
 ·obtain⟨m,⟨o,_,_,ho,_⟩,_⟩:=I.loc;exact free _ o (λz=>(g _ z).2.1 rfl) ho I.free
 ·obtain⟨v,o,ho,hd⟩:=I.cell x c e;exact (I.freeC x c e).imp (free c o (λz=>(g c z).2.2.1 x c e rfl) ho) λ⟨n,ob,u,f⟩=>⟨n,ob,u,frzs c ob u f⟩
 ·obtain⟨e,n,ne,F,d⟩:=I.pin p J;have a:p.1∉ch:=λz=>(g p.1 z).2.2.2 p J rfl;exact⟨keep p.1 p.2 ne F a e n,free p.1 p.2 a e n,ne,F,d⟩
theorem Inv.un(I:Inv X pins σ H s)(u:Un X.fs [] H H' s.heap h')(hok:dR X.prog X.w H' h'):Inv X pins σ H' {s with heap:=h',toks:=t'}:=by
 obtain⟨m,⟨o,es,ep,ho,r⟩,_⟩:=id I.loc;obtain⟨j,i⟩:=u.any ho I.free (by simp);exact I.step (g':=s.gens) (d':=s.drawn) (ch:=[]) (λ_ z=>nomatch z) (λb o _ c _ e n=>u.keep b o e n c (by simp)) (λb o _ c _ e n=>u.slot b o e n c (by simp)) (λb o _ e n=>u.free b o e n (by simp)) (λb o _ e=>u.there b o e (by simp)) u.tups u.frzs u.tbls (λm' h=>by
  obtain⟨k,d,f,a,g⟩:=h;rw[ho] at a;cases a;exact⟨_,d,f,i,g⟩) hok I.bare
theorem Inv.call{ch:List aF}(I:Inv X pins σ H s)(u:Un (eS X.stack) ch H H' s.heap h')(hok:dR X.prog X.w H' h')(l:iT g')
  (f:∀b∈ch,(b∈X.ex\/X.s₀.heap.objs.size<=b)/\b≠X.env.locals/\(∀x c,X.env.cells.lookup x=aA c->c≠b)/\∀p∈X.pn++pins,p.1≠b) :
  Inv X pins σ H' {s with heap:=h',gens:=g',drawn:=d',toks:=t'}:=by
 obtain⟨m,⟨o,es,ep,ho,r⟩,_⟩:=id I.loc;obtain⟨t,g⟩:=u.any ho I.free λz=>(f _ z).2.1 rfl;exact I.step (ch:=ch) f (λb o g q a e n=>u.keep b o e n (λz=>(cA.mp (I.stkSub b z)).elim g q) a) (λb o _ _ a e n=>u.any e n a) (λb o a e n=>u.free b o e n a) (λb o a e=>u.there b o e a) u.tups u.frzs u.tbls (λm' k=>by
  obtain⟨v,h,i,d,j⟩:=k;rw[ho] at d;cases d;exact⟨_,h,i,g,j⟩) hok l
theorem Inv.turned{t':Nat}(I:Inv X pins σ H s)(k:∀b o,b≠it->s.heap.get? b=aA o->h'.get? b=aA o)(g:H it=aE)(f:it≠X.env.locals)
  (h1:it∈X.ex\/X.s₀.heap.objs.size<=it) (h2:∀x c,X.env.cells.lookup x=aA c->c≠it) (j:∀p∈X.pn++pins,p.1≠it):Inv X pins σ H {s with heap:=h',toks:=t'}:=by
 have d:∀b u,H b=aA u->b≠it:=λb u e z=>by rw[z,g] at e;cases e
 refine I.step (g':=s.gens) (d':=s.drawn) (ch:=[it]) (λb i=>?_) (λb o _ _ a e _=>k b o (λz=>a (by simp[z])) e) (λb o _ _ a e _=>⟨o.slots,k b o (λz=>a (by simp[z])) e⟩) (λ_ _ _ _ n=>n)
  (λb o a e=>⟨o,k b o (λz=>a (by simp[z])) e⟩) (λ_ _ e=>e) (λ_ _ _ e=>e) (λb ps e=>⟨#[],by rw[e];simp⟩) (λm h=>?_) (λb u e=>?_) I.bare
 ·have e:b=it:=by simpa using i
  subst e;exact⟨h1,f,h2,j⟩
 ·obtain⟨o,es,ep,ho,r⟩:=h;exact⟨o,es,ep,k _ o (b_ f) ho,r⟩
 ·refine (I.hok b u e).stay (λc v a q=>k c v ?_ q) (λ_ q=>q) λ_ _ q=>q;rcases a with z|z
  ·rw[z];exact d b u e
  ·exact d c _ z
theorem Inv.tok(I:Inv X pins σ H s)(t:Nat):Inv X pins σ H {s with toks:=t}:=I.un (h':=s.heap) (t':=t) Un.refl I.hok
theorem Inv.kept(I:Inv X pins σ H s)(k:∀b u,s.heap.get? b=aA u->h'.get? b=aA u):Inv X pins σ H {s with heap:=h',toks:=t'}:=I.un (Un.kept k) (I.hok.kept k)
theorem Inv.laid{a:aF}(I:Inv X pins σ H s)(k:∀b u,s.heap.get? b=aA u->h'.get? b=aA u)(c:s.heap.objs.size<=a)(new:a6 X.prog X.w (upd H a o) h' a o) :
  Inv X pins σ (upd H a o) {s with heap:=h',toks:=t'}:=I.un (Un.laid k c (I.hok.fresh c)) (I.hok.laid k c new)
theorem Inv.write(I:Inv X pins σ H s)(c:oR (H x))(he:e=x\/H e=aA (.own x))(k:∀b u,b≠e->s.heap.get? b=aA u->h'.get? b=aA u)(a:∃u,h'.get? e=aA u)
  (new:a6 X.prog X.w (upd H x o) h' x o):Inv X pins σ (upd H x o) {s with heap:=h',toks:=t'}:=I.un (Un.write c he k a) (I.hok.write c he k a new)
theorem Inv.pins_of(I:Inv X pins σ H s)(h:∀p∈d,s.heap.get? p.1=aA p.2/\H p.1=aE/\p.1≠X.env.locals/\p.1∉X.fs/\∀v,p.2.data≠.cell v):Inv X d σ H s:=
 ⟨I.ok,I.os,I.bare,I.base,I.loc,I.cell,I.free,I.freeC,λp a=>(cH.mp a).elim (λz=>I.pin p (eK _ z)) (h p),I.hok,I.len⟩
theorem vi{N:List aG}(hN:N.Nodup){i:Nat}(a:N[i]?=aA x)(b:N[j]?=aA x):i=j:=by
 obtain⟨f,d⟩:=bI.mp a;obtain⟨e,c⟩:=bI.mp b;exact (pF hN).mp (d.trans c.symm)
theorem YK{E:aD->a9->Prop}{i:Nat}{x:aG}{v:V}{u:aD}(I:Inv X pins σ H s)(hN:X.N.Nodup)(R:X.N[i]?=aA x)(hx:Loc X.env.scope x)(r:RelV v u)
  (h:∀s',Inv X pins (σ.set i (aA v)) H s'->(∃a,gA a s.heap s'.heap/\(a=X.env.locals\/X.env.cells.lookup x=aA a))->Q () s') (hf:X.fn x=aB\/X.env.scope.names.lookup x=aA .local:=by first|exact .inl rfl|exact .inr rfl|assumption):wpAny M A (storeName X.env x u) Q E s:=by
 obtain⟨m,hn,hl⟩:=id I.loc;have S:(X.env.scope.kind==.class || (X.env.scope.kind==.module&&X.env.locals != X.env.globals))=aC:=by rw[I.ok.kind];rfl
 have G:i<σ.length:=by rw[I.len];exact (bI.mp R).1
 have cne:=I.cne;have g:∀{a:aF}{L:aV},(∃o,s.heap.get? a=aA o/\H a=aE)->gA a s.heap L->dR X.prog X.w H L:=λ{a L} ha f b ob e=>by
  obtain⟨_,_,B⟩:=ha;refine (I.hok b ob e).stay (λc W t q=>(f.2 c ?_).trans q) (λ_ q=>q) λ_ _ q=>q;rintro rfl;rcases t with rfl|t
  ·rw[B] at e;cases e
  ·rw[B] at t;cases t
 rcases hx with F|F
 ·refine wpAny_storeName_local F hn (λL hn' f=>?_) S;obtain⟨oL,_,_,hoL,_⟩:=id hn;refine h _ ⟨I.ok,I.os,I.bare,⟨λb o e n K hx=>?_,λb o e n K hx=>?_,I.base.free,λb o e hx=>?_,I.base.tups,I.base.frzs,I.base.tbls⟩,⟨_,hn',λj y v' l D e3=>?_⟩,λy c e=>?_,I.free,I.freeC,λp hp=>?_,g ⟨oL,hoL,I.free⟩ f,by simpa using I.len⟩ ⟨_,f,.inl rfl⟩
  ·exact (f.2 b (dP (cY (bZ e) I.ok.above))).trans (I.base.keep b o e n K hx)
  ·obtain⟨sl,l⟩:=I.base.slot b o e n K hx;exact⟨sl,(f.2 b (dP (cY (bZ e) I.ok.above))).trans l⟩
  ·obtain⟨o',l⟩:=I.base.there b o e hx;exact⟨o',(f.2 b (dP (cY (bZ e) I.ok.above))).trans l⟩
  ·by_cases J:j=i
   ·subst J;rw[R] at l;cases l;rw[mM G] at D;cases D;exact⟨u,r,.inl ⟨F,by simp⟩⟩
   ·rw[bW (b_ J)] at D;obtain⟨u',r',q⟩:=hl j y v' l D e3;refine⟨u',r',?_⟩;rcases q with⟨k,e⟩|⟨k,c,e,z⟩
    ·refine .inl ⟨k,?_⟩;have:y≠x:=λe=>J (vi hN l (e▸R));simp[this,e]
    ·exact .inr ⟨k,c,e,z.sameBut f (cne y c e)⟩
  ·obtain⟨W,z⟩:=I.cell y c e;exact⟨W,z.sameBut f (cne y c e)⟩
  ·obtain⟨e,n,Y,nf,d⟩:=I.pin p hp;exact⟨(f.2 p.1 Y).trans e,n,Y,nf,d⟩
 ·have C:X.fn x=aB:=by
   rcases hf with z|z
   ·exact z
   ·rw[z] at F;cases F
  obtain⟨c,t⟩:=I.ok.has x (.inl F);obtain⟨W,z⟩:=I.cell x c t;refine wpAny_storeName_cell I.ok.kind F t z (λL U f=>?_);obtain⟨oc,P,O⟩:=id z;refine h {s with heap:=L} ⟨I.ok,I.os,I.bare,⟨λb o e n K hx=>?_,λb o e n K hx=>?_,I.base.free,λb o e hx=>?_,I.base.tups,I.base.frzs,I.base.tbls⟩,⟨m,hn.sameBut f (b_ (cne x c t)),λj y v' l D e3=>?_⟩,λy Z e=>?_,I.free,I.freeC,λp hp=>?_,g ⟨oc,P,(I.freeC x c t).resolve_right λz=>by rw[C] at z;cases z.1⟩ f,by simpa using I.len⟩ ⟨c,f,.inr t⟩
  ·exact (f.2 b (dP (cY (bZ e) (I.ok.cab x c C t)))).trans (I.base.keep b o e n K hx)
  ·obtain⟨sl,l⟩:=I.base.slot b o e n K hx;exact⟨sl,(f.2 b (dP (cY (bZ e) (I.ok.cab x c C t)))).trans l⟩
  ·obtain⟨o',l⟩:=I.base.there b o e hx;exact⟨o',(f.2 b (dP (cY (bZ e) (I.ok.cab x c C t)))).trans l⟩
  ·by_cases J:j=i
   ·subst J;rw[R] at l;cases l;rw[mM G] at D;cases D;exact⟨u,r,.inr ⟨.inl F,c,t,U⟩⟩
   ·rw[bW (b_ J)] at D;obtain⟨u',r',q⟩:=hl j y v' l D e3;refine⟨u',r',?_⟩;rcases q with q|⟨k,Z,e,z'⟩
    ·exact .inl q
    ·refine .inr ⟨k,Z,e,z'.sameBut f ?_⟩;rintro rfl;exact J (vi hN l (I.ok.inj _ _ _ e t▸R))
  ·by_cases T:Z=c
   ·subst T;exact⟨_,U⟩
   ·obtain⟨w2,z2⟩:=I.cell y Z e;exact⟨w2,z2.sameBut f T⟩
  ·obtain⟨e,n,Y,nf,d⟩:=I.pin p hp;refine⟨(f.2 p.1 ?_).trans e,n,Y,nf,d⟩;intro q;rw[q,P] at e;have q':oc=p.2:=bP e;exact d W (by rw[←q'];exact O)
theorem uS{i:Nat}{x:aG}{v:V}(I:Inv X pins σ H s)(hN:X.N.Nodup)(a:X.N[i]?=aA x)(hx:Loc X.env.scope x)(r:RelV v u)
  (h:∀d,Inv X pins (σ.set i (aA v)) H d->Q () d) (b:X.fn x=aB\/X.env.scope.names.lookup x=aA .local:=by first|exact .inl rfl|exact .inr rfl|assumption):wpAny M A (storeName X.env x u) Q E s:=
 YK I hN a hx r (λd c _=>h d c) b
theorem Inv.call'(I:Inv X pins σ H s)(ho:d.os=s.os)(u:Un (eS X.stack) ch H H' s.heap d.heap)(hok:dR X.prog X.w H' d.heap)(g:iT d.gens)
  (a:∀b∈ch,(b∈X.ex\/X.s₀.heap.objs.size<=b)/\b≠X.env.locals/\(∀x c,X.env.cells.lookup x=aA c->c≠b)/\∀p∈X.pn++pins,p.1≠b):Inv X pins σ H' d:=by
 obtain⟨h',g',d',t',f⟩:=d;have e:f=s.os:=ho;subst e;exact I.call (g':=g') (t':=t') (d':=d') u hok g a
end
noncomputable abbrev XK:=aD->Option aF->Hp->Prop
noncomputable abbrev St:=List (Option V)
noncomputable abbrev VK:=V->Hp->Prop
noncomputable abbrev TE:=St->Hp->VK->Prop
noncomputable abbrev TT:=St->Hp->(Bool->Hp->Prop)->Prop
noncomputable abbrev TA:=St->Hp->(List V->Hp->Prop)->Prop
structure Ends where
 nx:St->Hp->Prop
 rt:VK
 bk:St->Hp->Prop:=λ_ _=>False
 ct:St->Hp->Prop:=λ_ _=>False
noncomputable abbrev TS:=Ends->St->Hp->Prop
inductive EP(X:Cx)(pins:List (aF×bA))(σ:St)(Q:VK)(u:aD)(s':Shared):Prop where
 |mk (v:V) (H':Hp) (i:Inv X pins σ H' s') (r:RelV v u) (q:Q v H')
inductive TP(X:Cx)(pins:List (aF×bA))(σ:St)(Q:Bool->Hp->Prop)(b:Bool)(s':Shared):Prop where
 |mk (H':Hp) (i:Inv X pins σ H' s') (q:Q b H')
inductive AP(X:Cx)(pins:List (aF×bA))(σ:St)(Q:List V->Hp->Prop)(us:List aD)(s':Shared):Prop where
 |mk (vs:List V) (H':Hp) (i:Inv X pins σ H' s') (r:aY vs us) (q:Q vs H')
noncomputable def SP (X:Cx)(b:List (aF×bA))(D:Ends)(f:Flow)(d:a9):Prop:=
 match f with
 |.next=>∃a c,Inv X b a c d/\D.nx a c
 |.brk=>∃a c,Inv X b a c d/\D.bk a c
 |.cont=>∃a c,Inv X b a c d/\D.ct a c
 |.ret u=>∃v a c,Inv X b a c d/\RelV v u/\D.rt v c
noncomputable def PE (X:Cx)(e:aI)(t:TE):Prop:=
 ∀(a:List (aF×bA)) (s:a9) (b:St) (H:Hp) (Q:VK),Inv X a b H s->t b H Q->wpAny (aR X.prog X.w) X.A (eval e X.env) (EP X a b Q) X.xe s
noncomputable def PT (X:Cx)(e:aI)(t:TT):Prop:=
 ∀(a:List (aF×bA)) (s:a9) (b:St) (H:Hp) (Q:Bool->Hp->Prop),Inv X a b H s->t b H Q->wpAny (aR X.prog X.w) X.A (isTrue e X.env (eval e X.env)) (TP X a b Q) X.xe s
noncomputable def PW (X:Cx)(e:aI)(t:TT):Prop:=
 ∀(b:Sem aD) (a:List (aF×bA)) (s:a9) (c:St) (H:Hp) (Q:Bool->Hp->Prop),Inv X a c H s->t c H Q->wpAny (aR X.prog X.w) X.A (isTrue e X.env b) (TP X a c Q) X.xe s
theorem PW.pt{X:Cx}(h:PW X e t):PT X e t:=h _
noncomputable def PA (X:Cx)(es:List aI)(t:TA):Prop:=
 ∀(c:Pos) (a:List (aF×bA)) (s:a9) (b:St) (H:Hp) (Q:List V->Hp->Prop),Inv X a b H s->t b H Q->wpAny (aR X.prog X.w) X.A (spliced (fJ c (d7 es X.env))) (AP X a b Q) X.xe s
noncomputable def PS (X:Cx)(st:bC)(t:TS):Prop:=
 ∀(a:List (aF×bA)) (s:a9) (b:St) (H:Hp) (D:Ends),Inv X a b H s->t D b H->wpAny (aR X.prog X.w) X.A (exec st X.env) (SP X a D) X.xe s
noncomputable def f8 (X:Cx)(st:List bC)(t:TS):Prop:=
 ∀(a:List (aF×bA)) (s:a9) (b:St) (H:Hp) (D:Ends),Inv X a b H s->t D b H->wpAny (aR X.prog X.w) X.A (execs st X.env) (SP X a D) X.xe s
theorem aX{α:Type}{t:Sem α}{Q Q':α->a9->Prop}(h:wpAny M A t Q E s)(b:∀a s,Q a s->Q' a s):wpAny M A t Q' E s:=dO h b λ_ _ x=>x
end L2
namespace L2
open PySem PySem.Spec PyProof.Rows
section
variable {X:Cx}
noncomputable def LB (i:Nat):TE:=λa H Q=>∃v,a[i]?=aA (aA v)/\Q v H
noncomputable def tC (v:V):TE:=λ_ H Q=>Q v H
theorem yk {pos:Pos}(hN:X.N[i]?=aA x) (k:ie X.env.scope x) (hd:(x==("__debug__":aG))=aC:=by decide) (f:(x==("__classdict__":aG))=aC:=by decide):PE X (.Name x pos) (LB i):=by
 intro d s j H Q I h;obtain⟨v,e,h⟩:=h;obtain⟨m,n,p⟩:=I.loc;obtain⟨u,r,l⟩:=p i x v hN e k;have fin:EP X d j Q u s:=⟨v,H,I,r,h⟩;rcases l with⟨b,o⟩|⟨b,c,g,a⟩
 ·exact sx (wpAny_loadName_local I.ok.kind b n o fin) hd
 ·rcases b with b|b
  ·exact sx (wpAny_loadName_cell I.ok.kind b g a fin) hd
  ·exact sx (wpAny_loadName_free I.ok.kind b g a fin f) hd
theorem Nh{i j pos}:PE X (.Constant (.int i) j pos) (tC (.int i)):=λ_ _ _ H _ I h=>wpAny_Constant_int ⟨.int i,H,I.tok _,⟨_,rfl⟩,h⟩
theorem L7{b j pos}:PE X (.Constant (.bool b) j pos) (tC (.bl b)):=λ_ _ _ H _ I h=>Constant_bool ⟨.bl b,H,I,rfl,h⟩
theorem M2{j pos}:PE X (.Constant .none j pos) (tC .non):=λ_ _ _ H _ I h=>Constant_none ⟨.non,H,I,rfl,h⟩
theorem Ve{x j pos}:PE X (.Constant (.str x) j pos) (tC (.str x)):=λ_ _ _ H _ I h=>Calls.Constant_str ⟨.str x,H,I.tok _,⟨_,rfl⟩,h⟩
noncomputable def Gl(X:Cx)(x:aG):Prop:=X.env.kindOf x=aA .globalImplicit
theorem wH{a:St}{H:Hp}{x:aG}{pos:Pos}(I:Inv X d a H s)(c:Gl X x)(b:X.mg x=aA u)(h:Q u s)
  (hd:(x==("__debug__":aG))=aC:=by decide):wpAny (aR X.prog X.w) X.A (eval (.Name x pos) X.env) Q E s:=
 EN I.ok.kind c (Calls.loadGlobal_global (by rw[I.ok.glob];exact I.mod.glob.keeps I.bk) b h) hd
theorem jf{E:aD->a9->Prop}{a:St}{H:Hp}{x:aG}{pos:Pos}(I:Inv X d a H s)(f:Gl X x)(e:X.mg x=aE)(b:hS x=aA u)(h:Q u s)
  (c:x≠"__name__":=by decide) (hd:(x==("__debug__":aG))=aC:=by decide):wpAny (aR X.prog X.w) X.A (eval (.Name x pos) X.env) Q E s:=by
 obtain⟨j,i,g⟩:=I.mod.blt;exact EN I.ok.kind f (Calls.loadGlobal_builtin (by rw[I.ok.glob];exact I.mod.glob.keeps I.bk) e (by rw[I.ok.blt];exact i.keeps I.bk) ((g x c).trans b) h) hd
theorem Xv (b:Gl X x) (a:X.mg x=aA u) (r:RelV v u) (hd:(x==("__debug__":aG))=aC:=by decide):PE X (.Name x pos) (tC v):=
 λ_ _ _ H _ I h=>wH I b a ⟨v,H,I,r,h⟩ hd
theorem PK {pos:Pos}(d:Gl X x) (c:X.mg x=aE) (a:hS x=aA u) (r:RelV v u) (b:x≠"__name__":=by decide) (hd:(x==("__debug__":aG))=aC:=by decide):PE X (.Name x pos) (tC v):=
 λ_ _ _ H _ I h=>jf I d c a ⟨v,H,I,r,h⟩ b hd
variable {a b:aI}{pos:Pos}
variable {tA tB':TT}{rest:List aI}
noncomputable def xm (t u:TT):TT:=λa H Q=>t a H λc b=>if c=aB then u a b Q else Q aC b
noncomputable def fO (t u:TT):TT:=λa H Q=>t a H λc b=>if c=aB then Q aB b else u a b Q
noncomputable def qW (t:TT):TT:=λa H Q=>t a H λc b=>Q (!c) b
theorem O8(f:PT X a tA):PW X (.BoolOp .And [a] pos) tA:=by
 intro g b s d H Q I h;refine isTrue_and (aX (f b s d H Q I h) λc i e=>?_);cases c with
 |true=>exact isTrue_and_nil e
 |false=>exact e
theorem Nk(f:PT X a tA):PW X (.BoolOp .Or [a] pos) tA:=by
 intro g b s d H Q I h;refine isTrue_or (aX (f b s d H Q I h) λc i e=>?_);cases c with
 |false=>exact isTrue_or_nil e
 |true=>exact e
theorem Oo(m:PT X a tA)(l:PW X (.BoolOp .And (b::rest) pos) tB'):PW X (.BoolOp .And (a::b::rest) pos) (xm tA tB'):=by
 intro j d s e H Q I h;refine isTrue_and (aX (m d s e H _ I h) λc k ⟨i,g,f⟩=>?_);cases c with
 |true=>exact l j d k e i Q g f
 |false=>exact⟨i,g,f⟩
theorem Ma(m:PT X a tA)(l:PW X (.BoolOp .Or (b::rest) pos) tB'):PW X (.BoolOp .Or (a::b::rest) pos) (fO tA tB'):=by
 intro j d s e H Q I h;refine isTrue_or (aX (m d s e H _ I h) λc k ⟨i,g,f⟩=>?_);cases c with
 |true=>exact⟨i,g,f⟩
 |false=>exact l j d k e i Q g f
theorem Oz(e:PT X a tA):PT X (.UnaryOp .Not a pos) (qW tA):=by
 intro b s d H Q I h;exact isTrue_not (aX (e b s d H (λc f=>Q (!c) f) I h) λc j ⟨g,i,q⟩=>⟨g,i,q⟩)
theorem M6{op}(h:PE X a t):PE X (.BoolOp op [a] pos) t:=λb s c H Q I hw=>BoolOp_one (h b s c H Q I hw)
end
end L2
namespace L2
open PySem PySem.Spec PyProof.Rows
noncomputable def gX (K:bJ)(H:Hp)(a:aF)(xs:List V):Prop:=
 Rd H a (.lst xs)\/
  ∃(o:bA) (b:Array aD) (n:Nat),K.lookup a=aA o/\o.cls=.type "list"/\o.dict=aE/\o.data=.seq b n/\b.size<=sizeLine/\aY xs b.toList
noncomputable def fP (K:bJ)(H:Hp)(a:aF)(xs:List V):Prop:=
 Rd H a (.tup xs)\/
  ∃(o:bA) (b:Array aD) (n:Nat),K.lookup a=aA o/\o.cls=.type "tuple"/\o.data=.seq b n/\b.size<=sizeLine/\aY xs b.toList
noncomputable def LO:aD->Option V
 |.none=>aA .non
 |.bool b=>aA (.bl b)
 |.int i _=>aA (.int i)
 |.str x _=>aA (.str x)
 |.bytes b _=>aA (.byt b)
 |.float b _=>aA (.flt b)
 |.ref a=>aA (.ref a)
 |.type n=>aA (.ty n)
 |_=>aE
theorem RelV.abs(r:RelV x u):LO u=aA x:=by
 cases x with
 |non=>cases r;rfl
 |bl _=>cases r;rfl
 |int _=>obtain⟨t,rfl⟩:=r;rfl
 |str _=>obtain⟨t,rfl⟩:=r;rfl
 |byt _=>obtain⟨t,rfl⟩:=r;rfl
 |flt _=>obtain⟨t,rfl⟩:=r;rfl
 |ref _=>cases r;rfl
 |ty _=>cases r;rfl
theorem RelV.inj(r:RelV x u)(q:RelV y u):x=y:=bP (r.abs.symm.trans q.abs)
theorem aY.inj:∀{xs ys:List V}{us:List aD},aY xs us->aY ys us->xs=ys
 |_,_,_,.nil,.nil=>rfl
 |_,_,_,.cons r t,.cons a t'=>by rw[r.inj a,aY.inj t t']
section
variable {X:Cx}{pins:List (aF×bA)}{σ:St}{H:Hp}{s:Shared}{a:aF}{xs ys:List V}
theorem Inv.list(I:Inv X pins σ H s)(h:gX X.K H a xs):∃its:List aD,aY xs its/\PlainL s.heap a its.toArray/\xs.length<=sizeLine:=by
 rcases h with h|⟨o,its,n,hk,b,hd,hs,c,r⟩
 ·obtain⟨z,its,n,r,e⟩:=h.ok I.hok;exact⟨its,r,⟨_,n,e,rfl,rfl,rfl⟩,z⟩
 ·refine⟨its.toList,r,⟨o,n,I.kIn a o hk,b,hd,by simpa using hs⟩,?_⟩;have e:=r.length;simp only[mQ] at e;lia
theorem Inv.tuple(I:Inv X pins σ H s)(h:fP X.K H a xs):∃its:List aD,aY xs its/\lb s.heap a its.toArray/\xs.length<=sizeLine:=by
 rcases h with h|⟨o,its,n,hk,b,hs,c,r⟩
 ·obtain⟨z,its,r,p⟩:=h.ok I.hok;exact⟨its,r,p,z⟩
 ·refine⟨its.toList,r,⟨o,I.kIn a o hk,b,n,by simpa using hs⟩,?_⟩;have e:=r.length;simp only[mQ] at e;lia
theorem Inv.list_inj(I:Inv X pins σ H s)(h:gX X.K H a xs)(h':gX X.K H a ys):xs=ys:=by
 obtain⟨its,r,⟨o,n,e,_,_,d⟩,_⟩:=I.list h;obtain⟨its',c,⟨g,i,b,_,_,d'⟩,_⟩:=I.list h';rw[e] at b;cases b;rw[d] at d';injection d' with f _;have:its=its':=by simpa using congrArg Db f
 subst this;exact r.inj c
theorem Inv.tuple_inj(I:Inv X pins σ H s)(h:fP X.K H a xs)(h':fP X.K H a ys):xs=ys:=by
 obtain⟨its,r,⟨o,e,_,n,d⟩,_⟩:=I.tuple h;obtain⟨its',c,⟨g,b,_,i,d'⟩,_⟩:=I.tuple h';rw[e] at b;cases b;rw[d] at d';injection d' with f _;have:its=its':=by simpa using congrArg Db f
 subst this;exact r.inj c
end
noncomputable abbrev Cx.wish(X:Cx)(E:aD->a9->Prop):Cx:={X with xe:=E}
theorem Cx.Ok.wish{X:Cx}(ok:X.Ok)(E:aD->a9->Prop):(X.wish E).Ok:=
 ⟨ok.mod,ok.kind,ok.glob,ok.blt,ok.above,ok.inj,ok.has,ok.cab,ok.hd,ok.frames,ok.stk,ok.exf,ok.bs,ok.bsz,ok.noex,ok.exfs,ok.funs,ok.frf⟩
theorem Cx.Ok.unwish{X:Cx}(ok:(X.wish E).Ok):X.Ok:=
 ⟨ok.mod,ok.kind,ok.glob,ok.blt,ok.above,ok.inj,ok.has,ok.cab,ok.hd,ok.frames,ok.stk,ok.exf,ok.bs,ok.bsz,ok.noex,ok.exfs,ok.funs,ok.frf⟩
section
variable {X:Cx}{pins:List (aF×bA)}{σ:St}{H:Hp}{s:Shared}{E:aD->Shared->Prop}
theorem Inv.wish(I:Inv X pins σ H s)(E:aD->a9->Prop):Inv (X.wish E) pins σ H s:=⟨I.ok.wish E,I.os,I.bare,I.base,I.loc,I.cell,I.free,I.freeC,I.pin,I.hok,I.len⟩
theorem Inv.unwish(I:Inv (X.wish E) pins σ H s):Inv X pins σ H s:=⟨I.ok.unwish,I.os,I.bare,I.base,I.loc,I.cell,I.free,I.freeC,I.pin,I.hok,I.len⟩
theorem SP.unwish(h:SP (X.wish E) pins D f d):SP X pins D f d:=by
 cases f with
 |next=>obtain⟨a,b,I,q⟩:=h;exact⟨a,b,I.unwish,q⟩
 |brk=>obtain⟨a,b,I,q⟩:=h;exact⟨a,b,I.unwish,q⟩
 |cont=>obtain⟨a,b,I,q⟩:=h;exact⟨a,b,I.unwish,q⟩
 |ret u=>obtain⟨v,a,b,I,r,q⟩:=h;exact⟨v,a,b,I.unwish,r,q⟩
end
section
variable {X:Cx}{st:bC}{rest:List bC}{t u:TS}{e:aI}{te:TE}{pos:Pos}
noncomputable def Mm:TS:=λD a H=>D.nx a H
noncomputable def Ld (t u:TS):TS:=λD a H=>t {D with nx:=u D} a H
theorem XO:f8 X [] Mm:=λ_ _ a H _ I h=>pC ⟨a,H,I,h⟩
theorem VE(h1:PS X st t)(h2:f8 X rest u):f8 X (st::rest) (Ld t u):=by
 intro a s c H D I h;refine wpAny_execs_cons (aX (h1 a s c H {D with nx:=u D} I h) λf d q=>?_);cases f with
 |next=>
  obtain⟨b,g,e,q⟩:=q;exact h2 a d b g D e q
 |ret v=>exact q
 |brk=>exact q
 |cont=>exact q
theorem XZ(h1:PS X st t):f8 X [st] t:=by
 intro a s b H D I h;refine wpAny_execs_cons (aX (h1 a s b H D I h) λf c q=>?_);cases f with
 |next=>exact pC q
 |ret v=>exact q
 |brk=>exact q
 |cont=>exact q
theorem Inv.quiet{a:St}(I:Inv X d a H s):interactive X.env=aC:=by simp[interactive,I.ok.kind]
noncomputable def L9(te:TE):TS:=λD a H=>te a H λ_ b=>D.nx a b
theorem XC(he:PE X e te)(hs:iG e aE pos.line X.env=pure aC:=by rfl):PS X (.Expr e pos) (L9 te):=by
 intro a s b H D I h;exact wpAny_Expr_any (aX (he a s b H _ I h) λv g ⟨x,f,d,i,c⟩=>⟨b,f,d,c⟩) I.quiet hs
noncomputable def Lw (te:TE):TS:=λD a H=>te a H D.rt
theorem NC(he:PE X e te):PS X (.Return (aA e) pos) (Lw te):=by
 intro a s b H D I h;exact wpAny_Return_some (aX (he a s b H _ I h) λv i ⟨x,g,f,c,d⟩=>⟨x,b,g,f,c,d⟩)
noncomputable def MI:TS:=λD _ H=>D.rt .non H
theorem RQ:PS X (.Return aE pos) MI:=λ_ _ a H _ I h=>wpAny_Return_none ⟨.non,a,H,I,rfl,h⟩
noncomputable def Lx (c:TT)(t u:TS):TS:=λD a H=>c a H λb d=>if b=aB then t D a d else u D a d
theorem Ll{a:List bC}(l:PT X c r)(n:f8 X a t)(m:f8 X b u):PS X (.If c a b pos) (Lx r t u):=by
 intro e s f H D I h;refine wpAny_If (aX (l e s f H _ I h) λd g ⟨k,j,i⟩=>?_);cases d with
 |true=>exact n e g f k D j i
 |false=>exact m e g f k D j i
end
noncomputable abbrev TG:=V->St->Hp->(St->Hp->Prop)->Prop
noncomputable abbrev oN:=List V->St->Hp->(St->Hp->Prop)->Prop
noncomputable def PG (X:Cx)(a:aI)(t:TG):Prop:=
 ∀(b:List (aF×bA)) (s:a9) (d:St) (H:Hp) (v:V) (u:aD) (Q:St->Hp->Prop),Inv X b d H s->RelV v u->t v d H Q->
  wpAny (aR X.prog X.w) X.A (ii a X.env u) (λ_ f=>∃c e,Inv X b c e f/\Q c e) X.xe s
noncomputable def oQ (X:Cx)(ts:List aI)(t:oN):Prop:=
 ∀(a:List (aF×bA)) (s:a9) (c:St) (H:Hp) (d:List V) (e:List aD) (Q:St->Hp->Prop),Inv X a c H s->aY d e->t d c H Q->
  wpAny (aR X.prog X.w) X.A (assignInOrder ((ik ts X.env).map (·.2)) e) (λ_ g=>∃b f,Inv X a b f g/\Q b f) X.xe s
noncomputable abbrev E3:=V->V->V->Hp->(Hp->Prop)->Prop
noncomputable def xL (X:Cx)(t:E3):Prop:=
 ∀(a:List (aF×bA)) (s:a9) (b:St) (H:Hp) (o i v:V) (c d u:aD) (Q:Hp->Prop),Inv X a b H s->RelV o c->RelV i d->RelV v u->t o i v H Q->
  wpAny (aR X.prog X.w) X.A (setItem c d u) (λ_ f=>∃e,Inv X a b e f/\Q e) X.xe s
section
variable {X:Cx}{pos:Pos}
noncomputable def Xi(i:Nat):TG:=λv a H Q=>Q (a.set i (aA v)) H
theorem Xa(hN:X.N.Nodup)(b:X.N[i]?=aA x)(hx:Loc X.env.scope x)(c:X.fn x=aB\/X.env.scope.names.lookup x=aA .local:=by first|exact .inl rfl|exact .inr rfl|assumption):PG X (.Name x pos) (Xi i):=by
 intro a s e H v u Q I r h;exact wpAny_assign_Name (uS I hN b hx r (λf d=>⟨_,H,d,h⟩) c)
noncomputable def Fc:oN:=λb a H Q=>b=[]/\Q a H
noncomputable def GL(t:TG)(u:oN):oN:=λc b H Q=>∃v r,c=v::r/\t v b H λa d=>u r a d Q
theorem Pf:oQ X [] Fc:=by
 intro a s b H c d Q I r h;obtain⟨e,h⟩:=h;subst e;cases r;exact assignInOrder_nil ⟨b,H,I,h⟩
theorem SH{t:TG}(h1:PG X e t)(h2:oQ X es u)
  (hs:(ik (e::es) X.env).map (·.2)=ii e X.env::(ik es X.env).map (·.2):=by rfl):oQ X (e::es) (GL t u):=by
 intro a s c H l n Q I r h;obtain⟨v,m,i,h⟩:=h;subst i;cases r with
 |cons r f=>
  rw[hs];refine assignInOrder_cons (aX (h1 a s c H _ _ _ I r h) λ_ d ⟨b,k,j,g⟩=>?_);exact h2 a d b k _ _ Q j f g
noncomputable def LK (K:bJ)(n:Nat)(t:oN):TG:=λv c H Q=>∃a b,v=.ref a/\fP K H a b/\b.length=n/\t b c H Q
theorem Ny{k:Nat}(x:X.calm=aB)(h:oQ X es t)
  (q:(ik es X.env).length=n:=by rfl) (d:(ik es X.env).findIdx? (·.1)=aE:=by rfl):PG X (.Tuple es k pos) (LK X.K n t):=by
 intro c s f H v u Q I r hw;obtain⟨a,i,z,p,w,hw⟩:=hw;subst z;cases r;obtain⟨j,g,m,B⟩:=I.tuple p;refine assign_Tuple_tuple (I.ok.hd x) m (by simp[q,←w,g.length]) d λy l=>?_;have A:Inv X c f H {s with heap:=y}:=I.kept (t':=s.toks) λb o e=>l b o (dP (bZ e)) e;exact h c _ f H i _ Q A (by simpa using g) hw
noncomputable def Lz (b c:TE)(t:E3):TG:=λv a H Q=>b a H λo f=>c a f λi e=>t o i v e λd=>Q a d
theorem Hj{o:aI}(ho:PE X o j)(p:PE X i w)(hs:xL X t)
  (q:∀v,ii (.Subscript o i pos) X.env v=(do
   let d ←nn [v] (eval o X.env)
   let g ←nn [v,d] (eval i X.env)
   standAt pos
   nn [v,d,g] (setItem d g v)
   release [v,d,g] []):=by intro _;rfl):PG X (.Subscript o i pos) (Lz j w t):=by
 intro a s b H v u Q I r h;rw[q];refine wpAny_bind (wpAny_holding (aX (ho a s b H _ I h) λd e ⟨x,E,B,k,n⟩=>?_));refine wpAny_bind (wpAny_holding (aX (p a e b E _ B n) λg c ⟨y,D,A,f,m⟩=>?_));refine wpAny_bind (hX (wpAny_bind (wpAny_holding (aX (hs a c b D x y v d g u _ A k f r m) λ_ F ⟨C,z,l⟩=>?_))));exact wpAny_release ⟨b,C,z,l⟩
noncomputable def EY (te:TE)(g:TG):TS:=λD a H=>te a H λx b=>g x a b D.nx
theorem JY{e:aI}(he:PE X e te)(i:PG X tg g)(hs:pB [tg] e pos.line X.env=pure aC:=by rfl)(hw:pA [tg] e X.env=pure aE:=by rfl)
  (h1:(ik [tg] X.env).map (·.2)=[ii tg X.env]:=by rfl):PS X (.Assign [tg] e pos) (EY te g):=by
 intro a s b H D I h;refine wpAny_Assign_stores (aX (he a s b H _ I h) λv c ⟨x,k,j,d,f⟩=>?_) hs hw;rw[h1];exact aX (i a c b k x v _ j d f) λ_ l q=>q
theorem G5{te:TE}(hN:X.N.Nodup)(g:X.N[i]?=aA x)(hx:Loc X.env.scope x)(he:PE X e te)(hs:iG e (aA (.Name x d)) pos.line X.env=pure aC:=by rfl)(j:X.fn x=aB\/X.env.scope.names.lookup x=aA .local:=by first|exact .inl rfl|exact .inr rfl|assumption) :
  PS X (.Assign [.Name x d] e pos) (EY te (Xi i)):=by
 intro a s b H D I h;refine wpAny_Assign_Name (aX (he a s b H _ I h) λv o ⟨y,m,l,c,f⟩=>?_) hs;exact uS l hN g hx c (λn k=>⟨_,m,k,f⟩) j
end
section
variable {X:Cx}{pos:Pos}
noncomputable def MZ(c:TT)(tb:TS):TS:=λD a H=>∃W:Nat->St->Hp->Prop,(∃m,W m a H)/\∀m a H,W m a H->
 c a H λb f=>if b=aB then ∃N:St->Hp->Prop,(∀d g,N d g->∃e,e<m/\W e d g)/\tb {D with nx:=N,ct:=N,bk:=D.nx} a f else D.nx a f
theorem Tj{body:List bC}(r:nt (aR X.prog X.w) X.A X.env X.xe)(M:PT X c G)(O:f8 X body tb):PS X (.While c body [] pos) (MZ G tb):=by
 intro d s B H D I h;obtain⟨W,⟨L,E⟩,turn⟩:=h;refine wpAny_While (codeAny_whileLoop (λn K=>∃g z,Inv X d g z K/\W n g z) ?_ L ⟨B,H,I,E⟩);rintro n J ⟨e,y,P,C⟩;refine lZ r (aX (M d J e y _ P (turn n e y C)) λb F ⟨x,u,k⟩=>?_);cases b with
 |true=>
  obtain⟨N,t,k⟩:=k;rw[if_pos rfl];refine lZ r (aX (O d F e x _ u k) λf Q j=>?_);cases f with
  |next=>
   obtain⟨a,i,q,m⟩:=j;obtain⟨o,p,l⟩:=t a i m;exact⟨o,p,a,i,q,l⟩
  |cont=>
   obtain⟨a,i,q,m⟩:=j;obtain⟨o,p,l⟩:=t a i m;exact⟨o,p,a,i,q,l⟩
  |brk=>exact j
  |ret v=>exact j
 |false=>
  rw[if_neg eY];exact pC ⟨e,x,u,k⟩
end
structure It where
 go:Nat->Hp->Prop
 yld:Nat->Hp->V->Hp->Prop
 stop:Nat->Hp->Prop
noncomputable def Wx (X:Cx)(a:List (aF×bA))(H:Hp)(b:aF):Prop:=
 H b=aE/\b≠X.env.locals/\b∉X.fs/\(b∈X.ex\/X.s₀.heap.objs.size<=b)/\(∀x c,X.env.cells.lookup x=aA c->c≠b)/\∀p∈X.pn++a,p.1≠b
theorem Inv.fpOk{X:Cx}{f:St}{H:Hp}{b:aF}(I:Inv X d f H s)(a:s.heap.objs.size<=b)(h:j b=aE):Wx X d j b:=by
 refine⟨h,ln (cY I.lt a),I.nofs a,.inr (cU I.sz a),λx c e z=>?_,λp g z=>?_⟩
 ·obtain⟨v,q⟩:=I.cell x c e;exact absurd (cY q.lt (by rw[z];exact a)) (iH _)
 ·exact absurd (cY (bZ (I.pin p g).1) (by rw[z];exact a)) (iH _)
structure ix(ok:Cx->Prop)(P:Program)(w:World)(K:PySem.W.Frag)(tg:aI)(J:It)(fp:List aF)(it:aF)(tn:Nat->aV->Prop):Prop where
 mem:it∈fp
 obj:∀i h,tn i h->∀b∈fp,∃o,h.get? b=aA o/\∀v,o.data≠.cell v
 keep:∀i h h',tn i h->(∀b∈fp,∀o,h.get? b=aA o->h'.get? b=aA o)->tn i h'
 item:∀(X:Cx),X.prog=P->X.w=w->X.K=K->ok X->∀(i:Nat) (pins:List (aF×bA)) (s:a9) (σ:St) (H:Hp) (E:aD->a9->Prop),Inv X pins σ H s->(∀b∈fp,Wx X pins H b)->tn i s.heap->J.go i H->
  wpAny (aR P w) X.A (mx (.ref it)) (λr s1=>∃u,r=aA u/\
   wpAny (aR P w) X.A (nT tg (.ref it) u) (λ_ s2=>∃x H',Inv X pins σ H' s2/\RelV x u/\J.yld i H x H'/\tn (i+1) s2.heap/\∀b∈fp,H' b=aE) E s1) E s
 done:∀(X:Cx),X.prog=P->X.w=w->X.K=K->ok X->∀(i:Nat) (pins:List (aF×bA)) (s:a9) (σ:St) (H:Hp) (E:aD->a9->Prop),Inv X pins σ H s->(∀b∈fp,Wx X pins H b)->tn i s.heap->J.stop i H->
  wpAny (aR P w) X.A (mx (.ref it)) (λr s1=>r=aE/\Inv X pins σ H s1) E s
 self:∀(A:eN) (i:Nat) (s:a9) (Q:aD->a9->Prop) (E:aD->a9->Prop),tn i s.heap->Q (.ref it) s->wpAny (aR P w) A (m_ (.ref it)) Q E s
abbrev gH(P:cG)(w:dL)(K:bJ)(tg:aI)(J:It)(fp:List aF)(it:aF)(a:Nat->aV->Prop):Prop:=ix (λX=>X.calm=aB) P w K tg J fp it a
noncomputable abbrev TI:=St->Hp->(It->Hp->Prop)->Prop
noncomputable def Fm (ok:Cx->Prop)(X:Cx)(a:List (aF×bA))(g:St)(tg:aI)(R:It->Hp->Prop)(c:aD)(f:a9):Prop:=
 ∃(it:aF) (fp:List aF) (e:Nat->aV->Prop) (J:It) (d:Hp),c=.ref it/\Inv X a g d f/\ix ok X.prog X.w X.K tg J fp it e/\e 0 f.heap/\(∀b∈fp,Wx X a d b)/\R J d
abbrev Cg(X:Cx)(a:List (aF×bA))(c:St)(tg:aI)(R:It->Hp->Prop)(b:aD)(d:a9):Prop:=Fm (λX=>X.calm=aB) X a c tg R b d
noncomputable def r6 (ok:Cx->Prop)(X:Cx)(tg iter:aI)(c:TI):Prop:=
 ∀(a:List (aF×bA)) (s:a9) (b:St) (H:Hp) (R:It->Hp->Prop),Inv X a b H s->c b H R->
  wpAny (aR X.prog X.w) X.A (eval iter X.env) (λv d=>wpAny (aR X.prog X.w) X.A (m_ v) (Fm ok X a b tg R) X.xe d) X.xe s
abbrev PI(X:Cx)(tg iter:aI)(a:TI):Prop:=r6 (λX=>X.calm=aB) X tg iter a
theorem xn(ho:s.heap.get? it=aA o)(c:o.cls=.type n)(hd:o.data=.fields vs)
    (b:["enumerate", "zip", "dict_itemiterator", "dict_reverseitemiterator", "odict_iterator", "itertools.zip_longest", "itertools.pairwise"].contains n=aC) (a:Q () s):wpAny M A (nT tg (.ref it) u) Q E s:=by
  unfold nT
  cases tg <;> first
    |exact wpAny_pure a
    | (cases u <;> first
        |exact wpAny_pure a
        | (refine wpAny_bind (wpAny_load ho ?_)
           rw[c, hd]
           show wpAny M A (if (["enumerate", "zip", "dict_itemiterator", "dict_reverseitemiterator", "odict_iterator", "itertools.zip_longest", "itertools.pairwise"].contains n&&vs[0]? == aA (cT _))=aB then _ else _) Q E s
           rw[if_neg (by intro h;rw[b, Dx] at h;cases h)]
           exact wpAny_pure a))
noncomputable def Co (K:bJ)(a:aF):It:=
 ⟨λi H=>∃b x,gX K H a b/\b[i]?=aA x,λi H x c=>c=H/\∀b,gX K H a b->b[i]?=aA x,λi H=>∃b,gX K H a b/\b.length<=i⟩
noncomputable def HX (K:bJ)(a:aF):It:=
 ⟨λi H=>∃b x,fP K H a b/\b[i]?=aA x,λi H x c=>c=H/\∀b,fP K H a b->b[i]?=aA x,λi H=>∃b,fP K H a b/\b.length<=i⟩
noncomputable def TM(lo:Int)(n:Nat):It:=⟨λi _=>i<n,λi H x a=>a=H/\x=.int (lo+i),λi _=>n<=i⟩
theorem vR{P:cG}{K:bJ}(a it:aF):gH P w K tg (Co K a) [it] it (λi h=>h.IsListIter it a i) where
 mem:=by simp
 obj:=λi h st b g=>by
  have e:b=it:=by simpa using g
  subst e;obtain⟨o,e,c,d⟩:=st;exact⟨o,e,λv z=>by rw[d] at z;cases z⟩
 keep:=λi h n st k=>st.at λo e=>k it (by simp) o e
 item:=by
  intro X A hw B M i f s L H E I m st y;subst A hw B;obtain⟨N,x,l,t⟩:=y;obtain⟨r,q,p,R⟩:=I.list l;obtain⟨u,T,Q⟩:=q.get t;obtain⟨J,G,U,F,D,C⟩:=m it (by simp);refine Eo st p.isList (x:=u) (by simpa using T) λn j O=>?_;have V:Inv X f L H {s with heap:=n}:=I.turned (t':=s.toks) (λb o g e=>(O.2 b g).trans e) J G F D C;obtain⟨o,e,c,d⟩:=id j;exact⟨u,rfl,xn (s:={s with heap:=n}) e c d (by decide) ⟨x,H,V,Q,⟨rfl,λY S=>by rw[I.list_inj S l];exact t⟩,j,λb g=>(m b g).1⟩⟩
 done:=by
  intro X A hw B M i f s L H E I m st y;subst A hw B;obtain⟨N,l,t⟩:=y;obtain⟨r,q,p,R⟩:=I.list l;obtain⟨J,G,U,F,D,C⟩:=m it (by simp);have Z:=q.length;exact EF (I.ok.hd M) st p.isList (by simp;lia) λn eb=>⟨rfl,I.turned (t':=s.toks) (λb o g e=>eb b o g e) J G F D C⟩
 self:=λ_ _ _ _ _ st h=>wpAny_pyIter_listiter st h
theorem Kh{P:cG}{K:bJ}(a it:aF):gH P w K tg (HX K a) [it] it (λi h=>h.IsTupleIter it a i) where
 mem:=by simp
 obj:=λi h st b j=>by
  have e:b=it:=by simpa using j
  subst e;obtain⟨o,e,c,d⟩:=st;exact⟨o,e,λv z=>by rw[d] at z;cases z⟩
 keep:=λi h q st k=>st.at λo e=>k it (by simp) o e
 item:=by
  intro X A hw B M i f s L H E I n st y;subst A hw B;obtain⟨N,x,m,t⟩:=y;obtain⟨g,r,p,R⟩:=I.tuple m;obtain⟨u,T,Q⟩:=r.get t;obtain⟨J,G,U,F,D,C⟩:=n it (by simp);refine wpAny_pyNext_tuple_item st (show s.heap.IsTuple a g.toArray from p) (x:=u) (by simpa using T) λq l O=>?_;have V:Inv X f L H {s with heap:=q}:=I.turned (t':=s.toks) (λb o j e=>(O.2 b j).trans e) J G F D C;obtain⟨o,e,c,d⟩:=id l;exact⟨u,rfl,xn (s:={s with heap:=q}) e c d (by decide) ⟨x,H,V,Q,⟨rfl,λY S=>by rw[I.tuple_inj S m];exact t⟩,l,λb j=>(n b j).1⟩⟩
 done:=by
  intro X A hw B M i f s L H E I n st y;subst A hw B;obtain⟨N,m,t⟩:=y;obtain⟨g,r,p,R⟩:=I.tuple m;obtain⟨J,G,U,F,D,C⟩:=n it (by simp);have Z:=r.length;exact wpAny_pyNext_tuple_end (I.ok.hd M) st (show s.heap.IsTuple a g.toArray from p) (by simp;lia) λq eb=>⟨rfl,I.turned (t':=s.toks) (λb o j e=>eb b o j e) J G F D C⟩
 self:=λ_ _ _ _ _ st h=>wpAny_pyIter_tupleiter st h
end L2
namespace L2
open PySem PySem.Spec PyProof.Rows
section
variable {X:Cx}{tg:aI}
noncomputable def Jh(c:TA):TI:=λa H R=>c a H λb d=>∃i j:Int,b=[.int i,.int j]/\(-(2 ^ 62)<=i/\i<2 ^ 62 /\ -(2 ^ 62)<=j/\j<2 ^ 62)/\R (TM i (j-i).toNat) d
noncomputable def Lq (f:TI)(g:TG)(tb:TS):TS:=λD a H=>f a H λJ j=>∃W:Nat->Nat->St->Hp->Prop,(∃m,W 0 m a j)/\∀i m a H,W i m a H->
 (J.stop i H/\D.nx a H)\/(J.go i H/\∃N:St->Hp->Prop,(∀b c,N b c->∃e,e<m/\W (i+1) e b c)/\∀x c,J.yld i H x c->g x a c λd h=>tb {D with nx:=N,ct:=N,bk:=D.nx} d h)
noncomputable def Zr(fp:List aF)(h:aV):List (aF×bA):=fp.filterMap λb=>(h.get? b).map λo=>(b,o)
theorem jb(a:b∈fp)(e:h.get? b=aA o):(b,o)∈Zr fp h:=nO.mpr ⟨b,a,by rw[e];rfl⟩
theorem YF(a:p∈Zr fp h):p.1∈fp/\h.get? p.1=aA p.2:=by
 obtain⟨b,c,e⟩:=nO.mp a;cases q:h.get? b with
 |none=>rw[q] at e;cases e
 |some o=>
  rw[q] at e;have d:(b,o)=p:=bP e;subst d;exact⟨c,q⟩
theorem Inv.pinned{a:St}(I:Inv X g a H s)(i:∀b∈fp,Wx X g H b)(ho:∀b∈fp,∃o,s.heap.get? b=aA o/\∀v,o.data≠.cell v):Inv X (g++Zr fp s.heap) a H s:=
 I.pins_of λp h=>(cH.mp h).elim (λz=>I.pin p (dM _ z)) λz=>by
  obtain⟨c,e⟩:=YF z;obtain⟨f0,k,j,_⟩:=i p.1 c;obtain⟨o,f,d⟩:=ho p.1 c;rw[e] at f;cases f;exact⟨e,f0,k,j,d⟩
theorem Inv.unpinned{a:St}(I:Inv X (d++pl) a H s):Inv X d a H s:=I.pins_of λp b=>I.pin p (dM _ (eK _ b))
theorem Nc{body:List bC}{tb:TS}(G:nt (aR X.prog X.w) X.A X.env X.xe)(hc:X.calm=aB)(hi:PI X tg iter wi)(hg:PG X tg g)(p:f8 X body tb)
  (hs:∀x,lw iter X.env x=pure x:=by intro _;rfl):PS X (.For tg iter body [] pos) (Lq wi g tb):=by
 intro c s U H D I h;refine wpAny_For (aX (hi c s U H _ I h) λv s1 h1=>aX h1 λitv s2 h2=>?_) hs;obtain⟨it,fp,V,J,H2,e,I2,T,O,f2,W,⟨m0,w0⟩,turn⟩:=h2;subst e;have l:∀{y:Hp},(∀b∈fp,y b=aE)->∀b∈fp,Wx X c y b:=λhn b p=>⟨hn b p,(f2 b p).2⟩;refine codeAny_forLoop_any (λn s'=>∃i k y,Inv X c k y s'/\V i s'.heap/\(∀b∈fp,y b=aE)/\W i n k y) ?_ m0 ⟨0,U,H2,I2,O,λb p=>(f2 b p).1,w0⟩;rintro n Z ⟨i,j,L,I3,E,K,w3⟩;rcases turn i n j L w3 with⟨C,qn⟩|⟨go,N,hN,step⟩
 ·refine lZ G (aX (T.done X rfl rfl rfl hc i c Z j L X.xe I3 (l K) E C) λr s4 ⟨Q,I4⟩=>?_);subst Q;exact pC ⟨j,L,I4,qn⟩
 ·refine lZ G (aX (T.item X rfl rfl rfl hc i c Z j L X.xe I3 (l K) E go) λr s4 ⟨u,Q,h4⟩=>?_);subst Q;refine lZ G (aX h4 λ_ Y ⟨x,H5,I5,r5,y5,B,R⟩=>?_);have S:=I5.pinned (l R) (T.obj _ _ B);refine lZ G (aX (hg _ Y j H5 x u _ S r5 (step x H5 y5)) λ_ s6 ⟨M,H6,I6,q6⟩=>?_);refine lZ G (aX (p _ s6 M H6 _ I6 q6) λf P z=>?_);have again:∀{a:St}{t:Hp},Inv X (c++Zr fp Y.heap) a t P->N a t->∃m,m<n/\∃i k y,Inv X c k y P/\V i P.heap/\(∀b∈fp,y b=aE)/\W i m k y:=λ{a t} q F=>by
   obtain⟨m',hm,w7⟩:=hN a t F;refine⟨m',hm,i+1,a,t,q.unpinned,T.keep _ _ _ B λb p o e=>(q.pin (b,o) (dM _ (dM _ (jb p e)))).1,λb p=>?_,w7⟩;obtain⟨o,e,d⟩:=T.obj _ _ B b p;exact (q.pin (b,o) (dM _ (dM _ (jb p e)))).2.1
  cases f with
  |next=>obtain⟨a,t,q,F⟩:=z;exact again q F
  |cont=>obtain⟨a,t,q,F⟩:=z;exact again q F
  |brk=>obtain⟨a,t,q,z⟩:=z;exact⟨a,t,q.unpinned,z⟩
  |ret v=>obtain⟨x7,a,t,q,r7,z⟩:=z;exact⟨x7,a,t,q.unpinned,r7,z⟩
end
end L2
namespace L2
open PySem PySem.Spec PyProof.Rows
noncomputable abbrev R2:=V->V->Hp->VK->Prop
noncomputable def dT (X:Cx)(f:aD->aD->Sem aD)(r:R2):Prop:=
 ∀(a:List (aF×bA)) (s:a9) (b:St) (H:Hp) (x y:V) (v u:aD) (Q:VK),Inv X a b H s->RelV x v->RelV y u->r x y H Q->
  wpAny (aR X.prog X.w) X.A (f v u) (EP X a b Q) X.xe s
noncomputable def HV (X:Cx)(f:aD->Sem aD)(r:V->Hp->VK->Prop):Prop:=
 ∀(a:List (aF×bA)) (s:a9) (b:St) (H:Hp) (x:V) (v:aD) (Q:VK),Inv X a b H s->RelV x v->r x H Q->
  wpAny (aR X.prog X.w) X.A (f v) (EP X a b Q) X.xe s
noncomputable def Bt(X:Cx)(f:aD)(r:List V->Hp->VK->Prop):Prop:=
 ∀(a:List (aF×bA)) (s:a9) (b:St) (H:Hp) (c:List V) (d:List aD) (Q:VK),Inv X a b H s->aY c d->r c H Q->
  wpAny (aR X.prog X.w) X.A (call f d) (EP X a b Q) X.xe s
noncomputable def rI (C:Int->Int->Prop)(g:Int->Int->V):R2:=λx y H Q=>∃i j,x=.int i/\y=.int j/\C i j/\Q (g i j) H
noncomputable def i5 (g:Int->Int->V):R2:=λx y H Q=>∃i j,x=.int i/\y=.int j/\Q (g i j) H
noncomputable def rU (g:Int->V):V->Hp->VK->Prop:=λx H Q=>∃i,x=.int i/\Q (g i) H
section
variable {X:Cx}
theorem oF{g:Int->Int->Int}
  (rule:∀(i j:Int) (t u:Tok) (s:a9) (Q:aD->a9->Prop) (E:aD->a9->Prop),C i j->Q (.int (g i j) s.toks) {s with toks:=s.toks+1}->wpAny (aR X.prog X.w) X.A (f (.int i t) (.int j u)) Q E s) :
  dT X f (rI C λi j=>.int (g i j)):=by
 intro a s k H x y v u Q I d c h;obtain⟨i,j,rfl,rfl,e,q⟩:=h;obtain⟨t,rfl⟩:=d;obtain⟨b,rfl⟩:=c;exact rule i j t b s _ _ e ⟨.int (g i j),H,I.tok _,⟨_,rfl⟩,q⟩
theorem A4{g:Int->Int->Int}
  (rule:∀(i j:Int) (t u:Tok) (s:a9) (Q:aD->a9->Prop) (E:aD->a9->Prop),Q (.int (g i j) s.toks) {s with toks:=s.toks+1}->wpAny (aR X.prog X.w) X.A (f (.int i t) (.int j u)) Q E s) :
  dT X f (i5 λi j=>.int (g i j)):=by
 intro a s e H x y v u Q I d c h;obtain⟨i,j,rfl,rfl,q⟩:=h;obtain⟨t,rfl⟩:=d;obtain⟨b,rfl⟩:=c;exact rule i j t b s _ _ ⟨.int (g i j),H,I.tok _,⟨_,rfl⟩,q⟩
theorem rl{g:Int->Int->Bool}
  (rule:∀(i j:Int) (t u:Tok) (s:a9) (Q:aD->a9->Prop) (E:aD->a9->Prop),Q (.bool (g i j)) s->wpAny (aR X.prog X.w) X.A (f (.int i t) (.int j u)) Q E s) :
  dT X f (i5 λi j=>.bl (g i j)):=by
 intro a s e H x y v u Q I d c h;obtain⟨i,j,rfl,rfl,q⟩:=h;obtain⟨t,rfl⟩:=d;obtain⟨b,rfl⟩:=c;exact rule i j t b s _ _ ⟨.bl (g i j),H,I,rfl,q⟩
noncomputable def I0(i j:Int):Prop:=0<=j/\j<=1000000/\i.natAbs<2 ^ 64
noncomputable def jp(i j:Int):Prop:=(-(2 ^ 64)<i/\i<2 ^ 64)\/(-(2 ^ 64)<j/\j<2 ^ 64)
theorem jp.ok(h:jp i j):IntMulOk i j:=by
 rcases h with⟨h1,h2⟩|⟨h1,h2⟩
 ·exact .of_left (intBits_le_64 h1 h2)
 ·exact .of_right (intBits_le_64 h1 h2)
theorem Kt(k:Nat):(0:Int)<=2 ^ k:=by
 rw[two_pow_cast];exact Int.natCast_nonneg _
theorem MV:dT X (gz .Add) (i5 λi j=>.int (i+j)):=A4 λ_ _ _ _ _ _ _ q=>add_int q
theorem Od:dT X (gz .Sub) (i5 λi j=>.int (i-j)):=A4 λ_ _ _ _ _ _ _ q=>sub_int q
theorem No:dT X (gz .Mult) (rI jp λi j=>.int (i*j)):=oF λ_ _ _ _ _ _ _ a q=>mul_int q a.ok
theorem NQ:dT X (gz .Mod) (rI (λ_ j=>0<j) λi j=>.int (i % j)):=oF λi j _ _ _ _ _ a q=>by
 have b:(0:Int)<j:=a;exact mod_int' (by lia) (by rw[Int.fmod_eq_emod_of_nonneg i (by lia)];exact q)
theorem On:dT X (gz .Pow) (rI I0 λi j=>.int (i ^ j.toNat)):=oF λ_ _ _ _ _ _ _ a q=>pow_int_small a.1 a.2.1 a.2.2 q
theorem MT:dT X (gz .RShift) (rI (λ_ j=>0<=j) λi j=>.int (i / 2 ^ j.toNat)):=oF λi j _ _ _ _ _ a q=>
 rshift_int a (by rw[EM i (Kt _)];exact q)
theorem NF:dT X (gz .BitAnd) (i5 λi j=>.int (Dw i j)):=A4 λ_ _ _ _ _ _ _ q=>and_int q
theorem Tl{g:Int->Int}
  (rule:∀(i:Int) (t:Tok) (s:a9) (Q:aD->a9->Prop) (E:aD->a9->Prop),Q (.int (g i) s.toks) {s with toks:=s.toks+1}->wpAny (aR X.prog X.w) X.A (f (.int i t)) Q E s) :
  HV X f (rU λi=>.int (g i)):=by
 intro a s c H x v Q I b h;obtain⟨i,rfl,q⟩:=h;obtain⟨t,rfl⟩:=b;exact rule i t s _ _ ⟨.int (g i),H,I.tok _,⟨_,rfl⟩,q⟩
theorem Nw:HV X (unaryOp .USub) (rU λi=>.int (-i)):=Tl λ_ _ _ _ _ q=>neg_int q
end
noncomputable def rF:V->V->Bool
 |.non,.non=>aB|.non,.int _=>aB|.int _,.non=>aB|.non,.bl _=>aB|.bl _,.non=>aB|.non,.str _=>aB|.str _,.non=>aB
 |.int _,.int _=>aB|.bl _,.bl _=>aB|.str _,.str _=>aB|.byt _,.byt _=>aB
 |.int _,.str _=>aB|.str _,.int _=>aB|.bl _,.str _=>aB|.str _,.bl _=>aB
 |_,_=>aC
noncomputable def Tu:R2:=λx y H Q=>rF x y=aB/\Q (.bl (decide (x=y))) H
noncomputable def Ts:R2:=λx y H Q=>rF x y=aB/\Q (.bl (!decide (x=y))) H
theorem XE:decide (V.int i=V.int j)=(i==j):=by
 rw[nS];simp
theorem G4:decide (V.bl i=V.bl j)=(i==j):=by
 rw[nS];simp
theorem Xg:decide (V.str i=V.str j)=(i==j):=by
 rw[nS];simp
theorem Xj:decide (V.byt i=V.byt j)=(i.toList==j.toList):=by
 rw[nS];cases i;cases j;simp
section
variable {X:Cx}{b:aI}
theorem zv{a:St}{k b:Bool}(I:Inv X d a H s)(q:Q (.bl k) H)(e:k=b):EP X d a Q (.bool b) s:=by
 subst e;exact⟨.bl k,H,I,rfl,q⟩
theorem Lm:dT X (eG .Eq) Tu:=by
 intro e s f H x y v u Q I d a h;obtain⟨c,q⟩:=h;cases x with
 |non=>
  cases d;cases y with
  |non=>cases a;exact IQ (zv I q (by simp))
  |bl j=>cases a;exact IP (zv I q (by simp))
  |int j=>obtain⟨b,rfl⟩:=a;exact IA (zv I q (by simp))
  |str j=>obtain⟨b,rfl⟩:=a;exact Iz (zv I q (by simp))
  |_=>exact absurd (show aC=aB from c) eY
 |bl i=>
  cases d;cases y with
  |non=>cases a;exact IN (zv I q (by simp))
  |bl j=>cases a;exact eq_bool (zv I q G4)
  |str j=>obtain⟨b,rfl⟩:=a;exact IM (zv I q (by simp))
  |_=>exact absurd (show aC=aB from c) eY
 |int i=>
  obtain⟨t,rfl⟩:=d;cases y with
  |non=>cases a;exact Iy (zv I q (by simp))
  |int j=>obtain⟨b,rfl⟩:=a;exact eq_int (zv I q XE)
  |str j=>obtain⟨b,rfl⟩:=a;exact Ix (zv I q (by simp))
  |_=>exact absurd (show aC=aB from c) eY
 |str i=>
  obtain⟨t,rfl⟩:=d;cases y with
  |non=>cases a;exact Iw (zv I q (by simp))
  |bl j=>cases a;exact IL (zv I q (by simp))
  |int j=>obtain⟨b,rfl⟩:=a;exact Ir (zv I q (by simp))
  |str j=>obtain⟨b,rfl⟩:=a;exact eq_str (zv I q Xg)
  |_=>exact absurd (show aC=aB from c) eY
 |byt i=>
  obtain⟨t,rfl⟩:=d;cases y with
  |byt j=>obtain⟨b,rfl⟩:=a;exact PySem.W.eq_bytes (zv I q Xj)
  |_=>exact absurd (show aC=aB from c) eY
 |_=>cases y<;>exact absurd (show aC=aB from c) eY
theorem Mj:dT X (eG .NotEq) Ts:=by
 intro e s f H x y v u Q I d a h;obtain⟨c,q⟩:=h;cases x with
 |non=>
  cases d;cases y with
  |non=>cases a;exact IK (zv I q (by simp))
  |bl j=>cases a;exact IJ (zv I q (by simp))
  |int j=>obtain⟨b,rfl⟩:=a;exact Iq (zv I q (by simp))
  |str j=>obtain⟨b,rfl⟩:=a;exact Ip (zv I q (by simp))
  |_=>exact absurd (show aC=aB from c) eY
 |bl i=>
  cases d;cases y with
  |non=>cases a;exact IG (zv I q (by simp))
  |bl j=>cases a;exact ne_bool (zv I q (congrArg not G4))
  |str j=>obtain⟨b,rfl⟩:=a;exact IF (zv I q (by simp))
  |_=>exact absurd (show aC=aB from c) eY
 |int i=>
  obtain⟨t,rfl⟩:=d;cases y with
  |non=>cases a;exact Io (zv I q (by simp))
  |int j=>obtain⟨b,rfl⟩:=a;exact ne_int (zv I q (congrArg not XE))
  |str j=>obtain⟨b,rfl⟩:=a;exact Im (zv I q (by simp))
  |_=>exact absurd (show aC=aB from c) eY
 |str i=>
  obtain⟨t,rfl⟩:=d;cases y with
  |non=>cases a;exact Il (zv I q (by simp))
  |bl j=>cases a;exact IE (zv I q (by simp))
  |int j=>obtain⟨b,rfl⟩:=a;exact Ik (zv I q (by simp))
  |str j=>obtain⟨b,rfl⟩:=a;exact ne_str (zv I q (congrArg not Xg))
  |_=>exact absurd (show aC=aB from c) eY
 |byt i=>
  obtain⟨t,rfl⟩:=d;cases y with
  |byt j=>obtain⟨b,rfl⟩:=a;exact PySem.W.ne_bytes (zv I q (congrArg not Xj))
  |_=>exact absurd (show aC=aB from c) eY
 |_=>cases y<;>exact absurd (show aC=aB from c) eY
theorem Mt:dT X (eG .Lt) (i5 λi j=>.bl (decide (i<j))):=rl λ_ _ _ _ _ _ _ q=>CJ q
theorem Mx:dT X (eG .LtE) (i5 λi j=>.bl (decide (i<=j))):=rl λ_ _ _ _ _ _ _ q=>le_int q
theorem L5:dT X (eG .Gt) (i5 λi j=>.bl (decide (j<i))):=rl λ_ _ _ _ _ _ _ q=>gt_int q
theorem Mu:dT X (eG .GtE) (i5 λi j=>.bl (decide (j<=i))):=rl λ_ _ _ _ _ _ _ q=>ge_int q
theorem Yx:dT X (eG .In) (λx y H Q=>∃i j,x=.str i/\y=.str j/\Q (.bl (!(nV j i 0 j.length 1).isEmpty)) H):=by
 intro a s d H x y v u Q I c b h;obtain⟨i,j,rfl,rfl,q⟩:=h;obtain⟨t,rfl⟩:=c;obtain⟨e,rfl⟩:=b;exact in_str (zv I q rfl)
theorem Nz:dT X (eG .Is) (λx y H Q=>y=.non/\Q (.bl (decide (x=.non))) H):=by
 intro b s d H x y v u Q I a c h;obtain⟨rfl,q⟩:=h;cases c;refine is_none_gen (zv I q ?_)
 cases x<;>first
  |(cases a;rfl)
  |(obtain⟨t,rfl⟩:=a;rfl)
theorem P_:dT X (eG .IsNot) (λx y H Q=>y=.non/\Q (.bl (!decide (x=.non))) H):=by
 intro b s d H x y v u Q I a c h;obtain⟨rfl,q⟩:=h;cases c;refine isnot_none_gen (zv I q ?_)
 cases x<;>first
  |(cases a;rfl)
  |(obtain⟨t,rfl⟩:=a;rfl)
theorem Vm:dT X (eG .NotIn) (λx y H Q=>∃i j,x=.str i/\y=.str j/\Q (.bl (!(!(nV j i 0 j.length 1).isEmpty))) H):=by
 intro a s d H x y v u Q I c b h;obtain⟨i,j,rfl,rfl,q⟩:=h;obtain⟨t,rfl⟩:=c;obtain⟨e,rfl⟩:=b;exact notIn_str (zv I q rfl)
theorem US(b:aI)(h:op≠.In:=by decide)(h2:op≠.NotIn:=by decide):sK op b=aC:=by
 have c:(op==CmpOp.In)=aC:=by cases op<;>first|rfl|exact absurd rfl h
 have a:(op==CmpOp.NotIn)=aC:=by cases op<;>first|rfl|exact absurd rfl h2
 cases b<;>simp[sK,c,a]
theorem ZO:(sizeLine:Nat)<2 ^ 63:=by rw[eQ];decide
theorem Ka:dT X (gz .Add) (λx y H Q=>∃i j,x=.str i/\y=.str j/\i.length+j.length<=sizeLine/\Q (.str (i++j)) H):=by
 intro a s f H x y v u Q I d c h;obtain⟨i,j,rfl,rfl,e,q⟩:=h;obtain⟨t,rfl⟩:=d;obtain⟨b,rfl⟩:=c;exact add_str (λb g=>⟨.str (i++j),H,I.tok _,⟨_,rfl⟩,q⟩) e
theorem vals1(r:aY [x] us):∃u,us=[u]/\RelV x u:=by
 cases r with
 |cons b a=>cases a;exact⟨_,rfl,b⟩
theorem vals2(r:aY [x,y] us):∃u d,us=[u,d]/\RelV x u/\RelV y d:=by
 cases r with
 |cons e c=>
  cases c with
  |cons b a=>cases a;exact⟨_,_,rfl,e,b⟩
end
end L2
namespace L2
open PySem PySem.Spec PyProof.Rows
structure gI(h:aV)(x dx C:aF)(mA:aG->Option aD):Prop where
 obj:h.get? x=aA (lC C dx)
 ns:h.Ns1 dx mA
 ne:dx≠x
theorem QK{h:aV}(n:h.Ns1 dx d):∃od,h.get? dx=aA od/\∀name,pJ name od=aA (d name):=by
 obtain⟨o,es,ep,f,hd,i,_,g⟩:=n;refine⟨o,f,λname=>?_⟩;have e:=g name;unfold nsFind findBy at e;rw[←DN] at e;unfold pJ;rw[hd];dsimp only;split
 ·rename_i y q;rw[q] at e;exact congrArg aA e
 ·rename_i q;rw[q] at e;have a:es.toList.any (·.refKey)=aC:=by
   rw[D7];intro y c;obtain⟨z,t,b⟩:=i y (Ew.mp c);simp[DictEntry.refKey,b]
  have j:¬es.toList.any (·.refKey)=aB:=by rw[a];exact eY
  rw[if_neg j];exact congrArg aA e
theorem gI.look(I:gI h x dx C d):∃od,tu h x (lC C dx) C (aA od)/\∀name,pJ name od=aA (d name):=
 let ⟨od,ho,a⟩:=QK I.ns
 ⟨od,⟨I.obj,rfl,rfl,ho⟩,a⟩
section
variable {prog:Program}{w:World}{A:Around}{E:aD->Shared->Prop}{s:Shared}{K:PySem.W.Frag}{x dx C f:aF}{mA:aG->Option aD}{name:aG}{v:aD}
theorem i6(X:K.In s.heap)(I:gI s.heap x dx C mA)(e:nU K C name=aB)(hh:lr K C=aB)
  (f:cO K (.ref C) name=aA aE) (b:mA name=aA v) (a:su v=aB) (h:Q v {s with toks:=s.toks+1}) :
  wpAny (aR prog w) A (nj (.ref x) name d) Q E s:=by
 obtain⟨g,J,c⟩:=I.look;exact PySem.W.get_value X J (nP e).1 (DX hh f rfl (by rw[c,b])) a h
theorem Rs(X:K.In s.heap)(I:gI s.heap x dx C mA)(a:nU K C name=aB)
  (g:cO K (.ref C) name=aA (aA (.ref f))) (d:sR K (.ref f)=aB) (c:mA name=aE) (h:Q (.ref f,[.ref x]) s) :
  wpAny (aR prog w) A (sg (.ref x) name pl) Q E s:=by
 obtain⟨b,J,e⟩:=I.look;exact PySem.W.method_fn X J (nP a).1 (nP a).2 g (beq_iff_eq.mp d) (by show (pJ name b).map (·.isSome)=aA aC;rw[e,c];rfl) h
theorem OL(X:K.In s.heap)(I:gI s.heap x dx C mA)
  (hs:cO K (.ref C) "__setattr__"=aA (aA (.builtin "object.__setattr__"))) (l:tG K C=aB) (k:tD K C name=aA aE) (hh:lr K C=aB)
  (hw:sS mA ns) (hsz:ns.length<=sizeLine)
  (h:∀h',gI h' x dx C (λy=>if y=name then aA v else mA y)->gA dx s.heap h'->Q () {s with heap:=h',toks:=s.toks+2}) :
  wpAny (aR prog w) A (setAttr (.ref x) name v) Q E s:=by
 obtain⟨p,J,t⟩:=I.look;refine D6 X J hs (PySem.W.osa_open (s:={s with toks:=s.toks+1}) (r:=aE) X J l k λb=>?_);obtain⟨cd,m,g⟩:=ti hh;have j:s.heap.get? x=aA ⟨.ref C,aA dx,.plain,#[]⟩:=I.obj;refine wpAny_bind (wpAny_pure (wpAny_bind (wpAny_bind (wpAny_loadPart j (wpAny_bind (mP (s:={s with toks:=s.toks+1}) (tT X m) ?_))))));rw[g];refine wpAny_pure (a:=aA dx) (wpAny_bind (wpAny_pure (wpAny_bind ?_)));refine wpAny_nsSet1 (s:={s with toks:=s.toks+1}) I.ns λh' d c=>?_;obtain⟨q,n,o,e,f,i⟩:=d.count (Cu name v hw);refine wpAny_bind (Dv e (by rw[f];exact Du (cU i (by rw[fU];lia))) ?_);exact wpAny_pure (h _ ⟨(c.2 _ (b_ I.ne)).trans I.obj,d,I.ne⟩ c)
theorem Jd{R:m9->a9->Prop}(X:K.In s.heap)(b:nc K C=aB)
  (c:cO K (.ref C) "__init__"=aA (aA (.ref f))) (e:o9 K (.ref f)=aA (.type "function"))
  (h:f9 (aR prog w) (A.under (.builtin "type.__call__" ⟨.ref C::vs,j⟩)) (.call (.ref f) ⟨.ref (s.heap.objs.size+1)::vs,j⟩) (PySem.W.InitBack (s.heap.objs.size+1) R)
   {s with heap:=(s.heap.push iZ).push (lC C s.heap.objs.size)}) :
  f9 (aR prog w) A (.call (.ref C) ⟨vs,j⟩) R s:=by
 obtain⟨i,g,d,t,os⟩:=s;exact PySem.W.make_core (PySem.W.makes_of X b) (mD X c) (λa=>PySem.W.bind_fn X a e) (.inl rfl) h
end
noncomputable def vN(f:aG)(v:V):List (aG×V)->List (aG×V)
 |[]=>[(f,v)]
 |(g,x)::r=>if g=f then (g,v)::r else (g,x)::vN f v r
theorem yW(f g:aG)(v:V):∀fs:List (aG×V),(vN f v fs).lookup g=if g=f then aA v else fs.lookup g
 |[]=>by
  show gS g [(f,v)]=_;by_cases h:g=f
  ·have a:(g==f)=aB:=beq_iff_eq.mpr h;simp only[gS,a,if_pos h]
  ·have a:(g==f)=aC:=beq_eq_false_iff_ne.mpr h;simp only[gS,a,if_neg h]
 |(k,x)::r=>by
  have c:=yW f g v r;rw[show vN f v ((k,x)::r)=(if k=f then (k,v)::r else (k,x)::vN f v r) from rfl];by_cases b:k=f
  ·rw[if_pos b];by_cases h:g=k
   ·have a:(g==k)=aB:=beq_iff_eq.mpr h;simp only[gS,a,if_pos (h.trans b)]
   ·have a:(g==k)=aC:=beq_eq_false_iff_ne.mpr h;simp only[gS,a,if_neg (λe:g=f=>h (e.trans b.symm))]
  ·rw[if_neg b];by_cases h:g=k
   ·have a:(g==k)=aB:=beq_iff_eq.mpr h;simp only[gS,a,if_neg (λe:g=f=>b (h.symm.trans e))]
   ·have a:(g==k)=aC:=beq_eq_false_iff_ne.mpr h;simp only[gS,a];exact c
theorem yn(f:aG)(v:V):∀fs:List (aG×V),f∈(vN f v fs).map (·.1)/\∀g,g∈fs.map (·.1)->g∈(vN f v fs).map (·.1)
 |[]=>⟨by simp[vN],λg h=>by simp at h⟩
 |(k,x)::r=>by
  obtain⟨c,b⟩:=yn f v r;rw[show vN f v ((k,x)::r)=(if k=f then (k,v)::r else (k,x)::vN f v r) from rfl];by_cases a:k=f
  ·rw[if_pos a];subst a;exact⟨by simp,λg h=>by simpa using h⟩
  ·rw[if_neg a];refine⟨?_,λg h=>?_⟩
   ·rw[dU];exact d9 _ c
   ·rw[dU] at h ⊢;rcases cA.mp h with e|e
    ·exact cA.mpr (.inl e)
    ·exact d9 _ (b g e)
theorem yU(f:aG)(v:V):∀fs:List (aG×V),(vN f v fs).length<=fs.length+1
 |[]=>by simp[vN]
 |(k,x)::r=>by
  have b:=yU f v r;rw[show vN f v ((k,x)::r)=(if k=f then (k,v)::r else (k,x)::vN f v r) from rfl];by_cases a:k=f
  ·rw[if_pos a,fU,fU];lia
  ·rw[if_neg a,fU,fU];lia
theorem cV.some_of(r:cV (aA v) o):∃u,o=aA u/\RelV v u:=by
 cases o with
 |none=>exact (show False from r).elim
 |some u=>exact⟨u,rfl,r⟩
theorem cV.none_of(r:cV aE o):o=aE:=by
 cases o with
 |none=>rfl
 |some u=>exact (show False from r).elim
theorem Wg(r:RelV v u):su u=aB:=by
 cases v with
 |non=>cases (show u=eX from r);rfl
 |bl b=>cases (show u=lR b from r);rfl
 |int i=>obtain⟨t,e⟩:=(show ∃t,u=mB i t from r);cases e;rfl
 |str x=>obtain⟨t,e⟩:=(show ∃t,u=o6 x t from r);cases e;rfl
 |byt b=>obtain⟨t,e⟩:=(show ∃t,u=CT b t from r);cases e;rfl
 |flt b=>obtain⟨t,e⟩:=(show ∃t,u=CS b t from r);cases e;rfl
 |ref a=>cases (show u=cN a from r);rfl
 |ty n=>cases (show u=nv n from r);rfl
section
variable {P:Program}{w:World}{H:Hp}{h:aV}{a C dx:aF}{fs:List (aG×V)}
theorem yb(hok:dR P w H h)(e:H a=aA (.ins C dx fs)):∃g,gI h a dx C g/\(∀f,cV (fs.lookup f) (g f))/\sS g (fs.map (·.1))/\fs.length<=1000/\H dx=aA (.own a):=by
 obtain⟨d,z,c,b,g,n,r,q⟩:=(show a6 P w H h a (.ins C dx fs) from hok a _ e);exact⟨g,⟨b,n,c⟩,r,q,z,d⟩
end
structure gL(K:PySem.W.Frag)(C:aF):Prop where
 pg:nU K C lS=aB
 hd:lr K C=aB
 po:tG K C=aB
 sa:cO K (.ref C) "__setattr__"=aA (aA (.builtin "object.__setattr__"))
theorem gL.get{K:bJ}(c:gL K C)(f:aG):nU K C f=aB:=c.pg
noncomputable def cL(K:bJ)(C:aF)(f:aG):Prop:=cO K (.ref C) f=aA aE
theorem cL.taker{K:bJ}(n:cL K C f):tD K C f=aA aE:=by
 unfold tD;rw[show cO K (.ref C) f=aA aE from n];rfl
structure ms(K:PySem.W.Frag)(C:aF)(m:aG)(f:aF):Prop where
 at_:cO K (.ref C) m=aA (aA (.ref f))
 fn:sR K (.ref f)=aB
 kp:eJ K (.ref f)=aB
section
variable {X:Cx}{pins:List (aF×bA)}{σ:St}{H:Hp}{s:Shared}{a C dx:aF}{fs:List (aG×V)}{f:aG}{v:V}{A:Around}{E:aD->Shared->Prop}
theorem uK(I:Inv X pins σ H s)(e:H a=aA (.ins C dx fs))(c:gL X.K C)(n:cL X.K C f)(l:fs.lookup f=aA v)
  (h:∀u d,Inv X pins σ H d->RelV v u->Q u d):wpAny (aR X.prog X.w) A (nj (.ref a) f b) Q E s:=by
 obtain⟨i,O,r,_,_,_⟩:=yb I.hok e;obtain⟨u,j,g⟩:=cV.some_of (v:=v) (o:=i f) (by rw[←l];exact r f);exact i6 I.kIn O (c.get f) c.hd n j (Wg g) (h u _ (I.tok _) g)
theorem Kc(I:Inv X pins σ H s)(e:H a=aA (.ins C dx fs))(c:gL X.K C)(k:ms X.K C m g)(l:fs.lookup m=aE)
  (h:Q (.ref g,[.ref a]) s):wpAny (aR X.prog X.w) A (sg (.ref a) m pl) Q E s:=by
 obtain⟨b,O,r,_,_,_⟩:=yb I.hok e;have d:b m=aE:=cV.none_of (by rw[←l];exact r m);exact Rs I.kIn O (c.get m) k.at_ k.fn d h
theorem Ke(I:Inv X pins σ H s)(e:H a=aA (.ins C dx fs))(c:gL X.K C)(n:cL X.K C f)(G:fs.length<1000)(p:RelV y u)
  (h:∀j,Inv X pins σ (upd H a (.ins C dx (vN f y fs))) j->Q () j):wpAny (aR X.prog X.w) A (setAttr (.ref a) f u) Q E s:=by
 obtain⟨k,O,r,i,_,l⟩:=yb I.hok e;have t:(fs.map (·.1)).length<=sizeLine:=by rw[cJ,eQ];lia
 refine OL I.kIn O c.sa c.po n.taker c.hd i t λD d m=>h _ ?_;have hd:∃o,D.get? dx=aA o:=let ⟨o,_,_,F,_⟩:=d.ns;⟨o,F⟩;refine I.write (x:=a) (e:=dx) (by rw[e];exact f_) (.inr l) (λb q B z=>(m.2 b B).trans z) hd ?_;refine⟨by rw[z4 O.ne];exact l,?_,O.ne,d.obj,_,d.ns,λg=>?_,λg v=>?_⟩
 ·have:=yU f y fs;lia
 ·show cV ((vN f y fs).lookup g) (if g=f then aA u else k g);rw[yW];by_cases q:g=f
  ·rw[if_pos q,if_pos q];exact p
  ·rw[if_neg q,if_neg q];exact r g
 ·by_cases q:g=f
  ·rw[q];exact (yn f y fs).1
  ·refine (yn f y fs).2 g (i g λz=>v ?_);show (if g=f then aA u else k g)=aE;rw[if_neg q];exact z
theorem Inv.made(I:Inv X pins σ H s):Inv X pins σ (upd (upd H s.heap.objs.size (.own (s.heap.objs.size+1))) (s.heap.objs.size+1) (.ins C s.heap.objs.size []))
  {s with heap:=(s.heap.push iZ).push (lC C s.heap.objs.size)}:=by
 have c:(s.heap.push iZ).get? s.heap.objs.size=aA iZ:=eF s.heap rfl;have g:((s.heap.push iZ).push (lC C s.heap.objs.size)).get? (s.heap.objs.size+1)=aA (lC C s.heap.objs.size):=by
  have:=eF (s.heap.push iZ) (o:=lC C s.heap.objs.size) rfl;rwa[iI] at this
 have f:(s.heap.push iZ).Ns s.heap.objs.size (λ_=>aE):=⟨iZ,#[],_,c,rfl,(λe he=>absurd he (by simp)),λ_=>rfl⟩;have h:=I.laid (a:=s.heap.objs.size) (o:=.own (s.heap.objs.size+1)) (h':=s.heap.push iZ) (t':=s.toks) (λb u q=>bU _ q) (bE _) ⟨_,c⟩;refine h.laid (a:=s.heap.objs.size+1) (o:=.ins C s.heap.objs.size []) (t':=s.toks) (λb u q=>bU _ q) (lm (iI _ _)) ?_;have ne:s.heap.objs.size≠s.heap.objs.size+1:=dP (l6 _);refine⟨by rw[z4 ne,z3],hL _,ne,g,λ_=>aE,(D5 f).at λo q=>bU _ q,λ_=>f_,λy d=>absurd rfl d⟩
theorem X3{env:Env}{e:aI}{f:aG}(a:lV e f env (eval e env)=eval e env)
  (h:wpAny (aR prog w) A (eval e env) (λo d=>wpAny (aR prog w) A (nj o f aB) Q E d) E s):wpAny (aR prog w) A (eval (.Attribute e f pos) env) Q E s:=
 Attribute_any_ h (by rw[arm_eval_Attribute,a])
end
noncomputable def Ln (K:bJ)(d:TE)(f:aG):TE:=λc H Q=>d c H λx b=>∃a C dx fs v,x=.ref a/\b a=aA (.ins C dx fs)/\gL K C/\cL K C f/\fs.lookup f=aA v/\Q v b
noncomputable def qa (K:bJ)(e d:TE)(f:aG):TS:=λD b H=>d b H λy g=>e b g λx c=>∃a C dx fs,x=.ref a/\c a=aA (.ins C dx fs)/\gL K C/\cL K C f/\fs.length<1000/\
 D.nx b (upd c a (.ins C dx (vN f y fs)))
section
variable {X:Cx}{o e value:aI}{f:aG}{pos pos':Pos}{ta tv:TE}
theorem MY(he:PE X e ta)(j:lV e f X.env (eval e X.env)=eval e X.env):PE X (.Attribute e f pos) (Ln X.K ta f):=by
 intro b s d H Q I h;refine X3 j (aX (he b s d H _ I h) λu t ⟨x,o,m,g,a,C,dx,fs,v,ex,ea,c,n,l,q⟩=>?_);subst ex;obtain rfl:u=cN a:=g;exact uK m ea c n l λp r k i=>⟨v,o,k,i,q⟩
theorem NT(p:PE X o ta)(m:PE X value tv)(hs:iG value (aA (.Attribute o f pos')) pos.line X.env=pure aC):PS X (.Assign [.Attribute o f pos'] value pos) (qa X.K ta tv f):=by
 intro b s d H D I h;refine plainObj_wpAny_Assign_Attribute (aX (m b s d H _ I h) λu e ⟨y,w,v,g,q⟩=>aX (p b e d w _ v q) λk A ⟨x,B,t,i,a,C,dx,fs,ex,ea,c,n,l,j⟩=>?_) hs;subst ex;obtain rfl:k=cN a:=i;exact Ke t ea c n l g λz r=>⟨d,_,r,j⟩
end
end L2
namespace L2
open PySem PySem.Spec PyProof.Rows
structure bV(k:Nat)(A:Around):Prop where
 hd:A.handled=aE
 dp:A.depth+3*k+5<recursionLimit
 un:A.units+16*k+200<cLine
theorem bV.mono(r:bV k A)(h:j<=k):bV j A:=⟨r.hd,by have:=r.dp;lia,by have:=r.un;lia⟩
theorem bV.deeper(r:bV (k+1) A)(env:Env):bV k (A.deeper env):=
 ⟨r.hd,by have:=r.dp;show A.depth+1+3*k+5<_;lia,by have:=r.un;show A.units+3+16*k+200<_;lia⟩
theorem JP{A:eN}:(A.under (.builtin "type.__call__" ⟨.ref C::us,d⟩)).depth=A.depth+1:=by
 first|rfl|simp[sQ,Code.weight,Code.isCreation,Code.isGuard,Code.isCaller,CQ,sP,guardIds]
theorem KP{A:eN}:(A.under (.builtin "type.__call__" ⟨.ref C::us,d⟩)).units=A.units+1:=by
 first|rfl|simp[sQ,Code.cUnits,CQ,sP]
theorem bV.make(r:bV (k+1) A)(C:aF)(us:List aD)(a:List (aG×aD)):bV k (A.under (.builtin "type.__call__" ⟨.ref C::us,a⟩)):=
 ⟨r.hd,by have:=r.dp;rw[JP];omega,by have:=r.un;rw[KP];omega⟩
theorem bV.depth(r:bV k A):A.depth<recursionLimit:=by have:=r.dp;lia
noncomputable def Lg:TA:=λ_ H Q=>Q [] H
noncomputable def MD(d:TE)(c:TA):TA:=λa H Q=>d a H λx f=>c a f λb e=>Q (x::b) e
section
variable {X:Cx}{e:aI}{es:List aI}{te:TE}{t:TA}{pos:Pos}
theorem qU:PA X [] Lg:=λ_ _ _ _ H Q I h=>D4 ⟨[],H,I,.nil,h⟩
theorem zM(m:PE X e te)(l:PA X es t)(hs:d7 (e::es) X.env=(aC,eval e X.env)::d7 es X.env:=by rfl):PA X (e::es) (MD te t):=by
 intro b a s c H Q I h;rw[hs];show wpAny _ _ (spliced ((aC,eval e X.env)::fJ b (d7 es X.env))) _ _ s;refine DM (aX (m a s c H _ I h) λu f ⟨x,q,o,i,k⟩=>?_);exact aX (l b a f c q _ o k) λr v ⟨d,p,n,g,j⟩=>⟨x::d,p,n,.cons i g,j⟩
noncomputable def LL (t:TA):TE:=λc H Q=>t c H λa b=>a.length<=sizeLine/\∀p,b p=aE->Q (.ref p) (upd b p (.tup a))
noncomputable def LA (t:TA):TE:=λc H Q=>t c H λa b=>a.length<=sizeLine/\∀p,b p=aE->Q (.ref p) (upd b p (.lst a))
theorem G7{x1}(h:PA X es t):PE X (.Tuple es x1 pos) (LL t):=by
 intro a s g H Q I k;refine wpAny_Tuple_spliced (aX (h pos a s g H _ I k) λj c ⟨i,f,d,r,z,q⟩=>⟨by rw[←r.length];exact z,?_⟩);have l:f c.heap.objs.size=aE:=d.hok.fresh (bE _);refine⟨.ref c.heap.objs.size,upd f c.heap.objs.size (.tup i),d.laid (t':=c.toks) (λb u e=>bU _ e) (bE _) ?_,rfl,q _ l⟩;exact⟨z,j,r,⟨_,eF _ rfl,rfl,_,rfl⟩⟩
theorem GV(h:PA X es t):PE X (.List es pos) (LA t):=by
 intro a s g H Q I k;refine wpAny_List_spliced (aX (h pos a s g H _ I k) λj c ⟨i,f,d,r,z,q⟩=>⟨by rw[←r.length];exact z,?_⟩);have l:f c.heap.objs.size=aE:=d.hok.fresh (bE _);refine⟨.ref c.heap.objs.size,upd f c.heap.objs.size (.lst i),d.laid (t':=c.toks) (λb u e=>bU _ e) (bE _) ?_,rfl,q _ l⟩;exact⟨z,j,0,r,eF _ rfl⟩
end
noncomputable abbrev Sp:=List V->Hp->VK->XK->Prop
noncomputable abbrev mw:=List Env->Hp->a9->XK->aD->a9->Prop
structure dB(P:Program)(w:World)(K:PySem.W.Frag)(mg:aG->Option aD)(base:aV)(A:Around)(outer:List Env)(s:Shared)(H:Hp):Prop where
 frames:A.frames=aA outer
 mod:Mod K mg base
 bs:∀b o,base.get? b=aA o->s.heap.get? b=aA o/\H b=aE
 bsz:base.objs.size<=s.heap.objs.size
 funs:s.heap.FunFrames base outer
 frf:∀b∈eS outer,H b=aE
 hok:dR P w H s.heap
 bare:iT s.gens
inductive CE(outer:List Env)(P:Program)(w:World)(H:Hp)(s:Shared)(Q:VK)(u:aD)(s':Shared):Prop where
 |mk (v:V) (H':Hp) (o:s'.os=s.os) (b:iT s'.gens) (n:Un (eS outer) [] H H' s.heap s'.heap) (k:dR P w H' s'.heap) (r:RelV v u) (q:Q v H')
noncomputable def CR (CX:mw)(outer:List Env)(P:cG)(w:dL)(H:Hp)(s:a9)(Q:VK)(E:XK)(r:m9)(a:a9):Prop:=
 match r with
 |.ok (.ret u)=>CE outer P w H s Q u a
 |.ok _=>False
 |.error e=>CX outer H s E e a
structure bL(P:Program)(w:World)(K:PySem.W.Frag)(mg:aG->Option aD)(base:aV)(CX:mw)(k:Nat)(f:aF)(fd:FuncData)(ps:List aG)(sp:Sp):Prop where
 len:∀vs H Q E,sp vs H Q E->vs.length=ps.length
 run:∀(A:eN) (outer:List Env) (s:a9) (H:Hp) (args:Args) (us:List aD) (vs:List V) (Q:VK) (E:XK),bV k A->dB P w K mg base A outer s H->lc s fd args (ps.zip us)->aY vs us->sp vs H Q E->
  f9 (aR P w) A (.call (.ref f) args) (CR CX outer P w H s Q E) s
theorem bL.imp{P:cG}{K:bJ}(F:bL P w K mg base CX k f fd ps sp)
  (h:∀vs H Q E,d vs H Q E->sp vs H Q E):bL P w K mg base CX k f fd ps d:=
 ⟨λvs H Q E q=>F.len vs H Q E (h _ _ _ _ q),λA outer s H args us vs Q E b he c a hs=>F.run A outer s H args us vs Q E b he c a (h _ _ _ _ hs)⟩
theorem dB.make{P:cG}{K:bJ}(e:dB P w K mg base A outer s H)(C:aF)(us:List aD)(a:List (aG×aD)) :
  dB P w K mg base (A.under (.builtin "type.__call__" ⟨.ref C::us,a⟩)) outer s H:=⟨by first|exact e.frames|(simpa[sQ,Code.envs,sP,pushEnvs] using e.frames),e.mod,e.bs,e.bsz,e.funs,e.frf,e.hok,e.bare⟩
theorem dB.in1{P:cG}{K:bJ}(e:dB P w K mg base A outer s H) :
  dB P w K mg base A.in1 outer s H:=⟨e.frames,e.mod,e.bs,e.bsz,e.funs,e.frf,e.hok,e.bare⟩
section
variable {X:Cx}{pins:List (aF×bA)}{σ:St}{H:Hp}{s s':Shared}
theorem Inv.env0(I:Inv X pins σ H s):dB X.prog X.w X.K X.mg X.base X.A X.stack s H:=
 ⟨I.ok.frames,I.ok.mod,I.bs,cU I.ok.bsz I.sz,I.stack,I.stkFree,I.hok,I.bare⟩
theorem Inv.after(I:Inv X pins σ H s)(h:CE X.stack X.prog X.w H s Q u s'):EP X pins σ Q u s':=by
 obtain⟨v,c,os,bare,un,hok,r,q⟩:=h;obtain⟨hh,g,d,t,a⟩:=s';obtain rfl:a=s.os:=os;exact⟨v,c,I.call (h':=hh) (g':=g) (d':=d) (t':=t) (ch:=[]) un hok bare (λb z=>absurd z (by simp)),r,q⟩
end
noncomputable def Binds(K:bJ)(fd:FuncData)(ps:List aG)(ds:List aD):Prop:=
 ∀(s:a9) (a:List aD),K.In s.heap->(a++ds).length=ps.length->lc s fd ⟨a,[]⟩ (ps.zip (a++ds))
theorem Binds.all{K:bJ}(h:∀us:List aD,us.length=ps.length->li fd ⟨us,[]⟩=pure (ps.zip us)):Binds K fd ps []:=λs us _ a=>by
 rw[gP] at a ⊢;exact .of_eq (h us a)
section
variable {f C:aF}
structure Mk(K:PySem.W.Frag)(C f:aF):Prop where
 makes:nc K C=aB
 init:cO K (.ref C) "__init__"=aA (aA (.ref f))
 fn:sR K (.ref f)=aB
 kp:eJ K (.ref C)=aB
end
structure c_(N P:List aG)(sc:Scope):Prop where
 kind:sc.kind=.function
 co:sc.isCoroutine=aC
 gen:sc.isGenerator=aC
 nd:N.Nodup
 pre:N.take P.length=P
 par:∀x∈P,sc.names.lookup x=aA .local\/sc.names.lookup x=aA .cell
 nofree:∀y∈sc.names,y.2≠.free
theorem QT{kindOf:aG->Option lh}:∀{binds:List (aG×aD)}{m:aG->Option aD},(∀v,(x,v)∉binds)->la kindOf binds m x=m x
 |[],_,_=>rfl
 |(n,v)::r,m,h=>by
  unfold la;rw[QT λw hw=>h w (d9 _ hw)];split
  ·have:x≠n:=by rintro rfl;exact h v eU
   simp[this]
  ·rfl
theorem W3{kindOf:aG->Option lh}:∀{binds:List (aG×aD)}{m:aG->Option aD},(∀v,(x,v)∉binds)->kw kindOf binds m x=m x
 |[],_,_=>rfl
 |(n,v)::r,m,h=>by
  unfold kw;rw[W3 λw hw=>h w (d9 _ hw)];split
  ·rfl
  ·have:x≠n:=by rintro rfl;exact h v eU
   simp[this]
theorem W8{kindOf:aG->Option lh}:∀{P:List aG}{vs:List aD}{i:Nat}{m:aG->Option aD},P.Nodup->P[i]?=aA x->vs[i]?=aA v->kindOf x=aA .local->
  la kindOf (P.zip vs) m x=aA v
 |[],_,_,_,_,h,_,_=>by simp at h
 |_::_,[],_,_,_,_,h,_=>by simp at h
 |p::P,w::vs,0,m,nd,b,a,c=>by
  simp at b a;subst b;subst a;show la kindOf ((p,w)::P.zip vs) m p=_;unfold la;rw[QT λv d=>(lY.mp nd).1 (pQ d).1,if_pos c];simp
 |p::P,w::vs,i+1,m,nd,b,a,c=>by
  show la kindOf ((p,w)::P.zip vs) m x=_;unfold la;exact W8 (i:=i) (lY.mp nd).2 (by simpa using b) (by simpa using a) c
theorem QR{kindOf:aG->Option lh}:∀{P:List aG}{vs:List aD}{i:Nat}{m:aG->Option aD},P.Nodup->P[i]?=aA x->vs[i]?=aA v->kindOf x≠aA .local->
  kw kindOf (P.zip vs) m x=aA v
 |[],_,_,_,_,h,_,_=>by simp at h
 |_::_,[],_,_,_,_,h,_=>by simp at h
 |p::P,w::vs,0,m,nd,b,a,c=>by
  simp at b a;subst b;subst a;show kw kindOf ((p,w)::P.zip vs) m p=_;unfold kw;rw[W3 λv d=>(lY.mp nd).1 (pQ d).1,if_neg c];simp
 |p::P,w::vs,i+1,m,nd,b,a,c=>by
  show kw kindOf ((p,w)::P.zip vs) m x=_;unfold kw;exact QR (i:=i) (lY.mp nd).2 (by simpa using b) (by simpa using a) c
noncomputable def start(N:List aG)(vs:List V):St:=vs.map aA++ly (N.length-vs.length) aE
noncomputable def Jw (CX:mw)(P:cG)(w:dL)(K:bJ)(mg:aG->Option aD)(base:aV)(N:List aG)(qual:aG)(scope:Scope)(f:aF)(cd:aD)(A:eN)(outer:List Env)(s:a9)(H:Hp)(E:XK)(fnb:aG->Bool:=λ_=>aB):Cx where
 prog:=P
 w:=w
 K:=K
 mg:=mg
 base:=base
 A:=A.deeper (fQ qual scope s.heap.objs.size f cd)
 N:=N
 s₀:=s
 H₀:=H
 env:=fQ qual scope s.heap.objs.size f cd
 outer:=outer
 stack:=fQ qual scope s.heap.objs.size f cd::outer
 ex:=[]
 calm:=aB
 fn:=fnb
 pn:=[]
 xe:=λe b=>wpAny (aR P w) (A.deeper (fQ qual scope s.heap.objs.size f cd)) (oZ (fQ qual scope s.heap.objs.size f cd) e) (λ_ a=>CX outer H s E e a) (λc a=>CX outer H s E c a) b
theorem Vw{sc:Scope}(h:sc.names.lookup x=aA .cell):∃c,(o5 n sc.names []).lookup x=aA c:=by
 have q:=tP sc.names n [] (.inl h);exact rf.mp q
theorem yx{CX:mw}{P:cG}{w:dL}{K:bJ}{mg:aG->Option aD}{base:aV}{N ps:List aG}{qual:aG}{f:aF}{cd:aD}{A:eN}{s B:a9}{H:Hp}{E:XK}{vs:List V} 
  (S:c_ N ps scope) (hd:A.handled=aE) (e0:dB P w K mg base A outer s H) (L:vs.length=ps.length) (r:aY vs us)
  (x:InCallC s s.heap.objs.size (la (fQ qual scope s.heap.objs.size f cd).kindOf (ps.zip us) λ_=>aE) (o5 (s.heap.objs.size+1) scope.names []) (kw (fQ qual scope s.heap.objs.size f cd).kindOf (ps.zip us) λ_=>aE) B) :
  Inv (Jw CX P w K mg base N qual scope f cd A outer s H E fnb) [] (start N vs) H B:=by
 have G:ps.length<=N.length:=by have:=congrArg ll S.pre;rw[mH] at this;lia
 obtain⟨t,J,rfl,D⟩:=x.done;have g:∀b:aF,b∉(Jw CX P w K mg base N qual scope f cd A outer s H E fnb).ex:=λb z=>absurd (show b∈([]:List aF) from z) (by simp)
 refine⟨⟨e0.mod,S.kind,rfl,rfl,bE _,λy z c t d=>?_,λy j=>?_,λy c _ h=>?_,λ_=>hd,tI e0.frames,.inr ⟨rfl,rfl⟩,λb z=>absurd z (g b),e0.bs,e0.bsz,λb _ _=>g b,λb z=>absurd z (g b),e0.funs,e0.frf⟩,
  rfl,e0.bare,Un.kept D,⟨_,x.toInCall.ns,λi y v t d M=>?_⟩,λy c h=>⟨_,x.cell y c h⟩,e0.hok.fresh (bE _),λy c h=>?_,λp m=>absurd (show p∈([]:List (aF×bA)) from m) (by simp),e0.hok.kept D,?_⟩
 ·exact name_of_addr x.apart (i3 t) (i3 d)
 ·have j:scope.names.lookup y=aA .cell\/scope.names.lookup y=aA .free:=j;rcases j with j|j
  ·exact Vw j
  ·exact absurd rfl (S.nofree _ (i3 j))
 ·exact nG (x.above y c (i3 h))
 ·have o:i<vs.length:=by
   unfold start at d;by_cases o:i<vs.length
   ·exact o
   ·rw[fA (by simpa using o)] at d;rw[pW] at d;split at d<;>cases d
  have I:vs[i]?=aA v:=by
   unfold start at d;rw[dN (by simpa using o),eE] at d;cases e:vs[i]? with
   |none=>rw[e] at d;cases d
   |some a=>rw[e] at d;cases d;rfl
  obtain⟨u,C,F⟩:=r.get I;have m:ps[i]?=aA y:=by
   rw[←S.pre,List.getElem?_take_of_lt (by lia)];exact t
  have l:ps.Nodup:=by rw[←S.pre];exact S.nd.sublist (D3 _ _)
  refine⟨u,F,?_⟩;rcases S.par y (b9 m) with k|k
  ·exact .inl ⟨k,W8 l m C k⟩
  ·obtain⟨c,e⟩:=Vw (n:=s.heap.objs.size+1) k;refine .inr ⟨.inl k,c,e,?_⟩;have q:=x.cell y c e;rw[QR l m C (by show scope.names.lookup y≠_;rw[k];decide)] at q;exact q
 ·exact .inl (e0.hok.fresh (nG (x.above y c (i3 h))))
 ·unfold start;show _=N.length;rw[l3,cJ,EE];lia
theorem GA {CX : mw}{P : cG}{w : dL}{K : bJ}{k : Nat}{f : aF}{name qual : aG}{params : Arguments}{body : List bC}{M kV doc L a ct T : aD}{an od : Option aF}
 {N ps : List aG}{sp : Sp}(lk : K.lookup f = aA ⟨T, od, .func (fM name qual params body scope M kV doc L an a ct), U⟩) (F : eT K a qual = aB) (S : c_ N ps scope)
    (len:∀vs H Q E, sp vs H Q E->vs.length=ps.length)
    (j : ∀ (A : eN) (outer : List Env) (s : a9) (H : Hp) (vs : List V) (Q : VK) (E : XK), bV k (A.deeper (fQ qual scope s.heap.objs.size f a)) -> sp vs H Q E -> (∀ y c, (fQ qual scope s.heap.objs.size f a).cells.lookup y = aA c -> s.heap.objs.size <= c /\ H c = aE) ->
      ∃t, f8 (Jw CX P w K mg base N qual scope f a A outer s H E fnb) body t/\t {nx:=λ_ g=>Q .non g, rt:=Q} (start N vs) H) :
    bL P w K mg base CX (k+1) f (fM name qual params body scope M kV doc L an a ct) ps sp:=by
  refine⟨len, λA outer s H args R vs Q E D e0 hb r p=>?_⟩;have hl:=len _ _ _ _ p;have O:K.In s.heap:=e0.mod.kin.keeps λb o e=>(e0.bs b o e).1;have C:s.heap.NoLimit:=e0.mod.nolimit.keeps λb o e=>(e0.bs b o e).1;have i:∀y∈ps.zip R, scope.names.lookup y.1=aA .local\/(scope.names.lookup y.1=aA .cell/\((o5 (s.heap.objs.size+1) scope.names []).lookup y.1).isSome=aB):=λ⟨n, v⟩ X=>by
    rcases S.par n (pQ X).1 with q|q
    · exact .inl q
    · exact .inr ⟨q, tP _ _ _ (.inl q)⟩
  refine tM D.depth (O _ _ lk) rfl S.co S.gen rfl (DL O F) (hb _ _ _ _ ?_);refine t9 S.kind i λenv he G x=>?_;subst he;refine⟨C.keeps x.toInCall.keep, sO ?_⟩;obtain⟨t, Y, Z⟩:=j A outer s H vs Q E (D.deeper _) p λy c h=>have l:=nG (x.above y c (i3 h));⟨l, e0.hok.fresh l⟩;have I:Inv (Jw CX P w K mg base N qual scope f a A outer s H E fnb) [] (start N vs) H G:=yx S D.hd e0 hl r x;refine dO (Y [] G (start N vs) H _ I Z) (λfl z m=>?_) λe z m=>m
  have fin:∀{d:St}{g:Hp}{v:V}{u:aD}, Inv (Jw CX P w K mg base N qual scope f a A outer s H E fnb) [] d g z->RelV v u->Q v g->CE outer P w H s Q u z:=
    λ{d g v u} J B q=>⟨v, g, J.os, J.bare, J.base, J.hok, B, q⟩
  cases fl with
  |ret u=>
    obtain⟨v, d, g, J, B, q⟩:=m;exact fin J B q
  |next=>
    obtain⟨d, g, J, q⟩:=m;exact fin (v:=V.non) (u:=eX) J rfl q
  |brk=>
    obtain⟨_, _, _, q⟩:=m;exact dI q
  |cont=>
    obtain⟨_, _, _, q⟩:=m;exact dI q
end L2
namespace HT
open PySem PyProof.Rows
noncomputable def lexLt:List Int->List Int->Bool
 |[],[]=>aC
 |[],_::_=>aB
 |_::_,[]=>aC
 |x::b,y::a=>if x=y then lexLt b a else decide (x<y)
theorem JQ(x y:Int)(xs ys:List Int):lexLt (x::xs) (y::ys)=if x=y then lexLt xs ys else decide (x<y):=rfl
theorem Qn:lexLt [] []=aC:=rfl
theorem uQ(y:Int)(ys:List Int):lexLt [] (y::ys)=aB:=rfl
theorem ZZ(x:Int)(xs:List Int):lexLt (x::xs) []=aC:=rfl
theorem ZP(A:eN)(s:a9)(a:Int)(t:Tok)(c:Int)(u:Tok):∃e,iF A s (.int a t) (.int c u) e/\(e=aB↔a=c):=
 ⟨(a==c),DK a t c u,by simp⟩
theorem Sg(A:eN)(s:a9)(a:Int)(t:Tok)(c:Int)(u:Tok)(prog:cG)(w:dL)(E:aD->a9->Prop)(Q:aD->a9->Prop)(h:Q (.bool (decide (a<c))) s) :
  wpAny (aR prog w) A (richCompare .Lt (.int a t) (.int c u)) Q E s:=
 (CJ h:wpAny (aR prog w) A (eG .Lt (.int a t) (.int c u)) Q E s)
section
open PySem.SeqAt
open PySem.AutoSeq1 (wpAny_loadPart')
open PySem.MeetsSeq PySem.MeetsSeq2 PySem.MeetsSeq3
theorem Ql(l b:aF)(items f:Array aD)(n n2:Nat)(dd O:Option aF)(T K:Array (Option aD))(ns I:List Int)(S:fL items.toList ns)(Q:fL f.toList I) :
  Meets (iS.«tuple.__lt__» ⟨[.ref l,.ref b],[]⟩)
   (λ_ R s=>s.heap.get? l=aA {cls:=.type "tuple",dict:=dd,data:=.seq items n,slots:=T}/\s.heap.get? b=aA {cls:=.type "tuple",dict:=O,data:=.seq f n2,slots:=K}/\
    R (.ok (.ret (.bool (lexLt ns I)))) s):=
 .of_wp λp w A R s h=>by
  obtain⟨J,g,d,H,os⟩:=s;obtain⟨W,Y,h⟩:=h;have f2:=AutoSeq1.sub_tuple_tuple;have z1:items.size=ns.length:=by rw[←S.length];simp
  have Z:f.size=I.length:=by rw[←Q.length];simp
  wp_walk using Dj W,Dj Y,wpAny_forIn_list _ (λrest b L=>b.1=aE/\L=⟨J,g,d,H,os⟩/\∃(G F:List aD) (j k:List Int),rest=G.zip F/\
   fL G j/\fL F k/\j.length+f.size=k.length+items.size/\R (.ok (.ret (.bool (lexLt j k)))) ⟨J,g,d,H,os⟩) _
  case turn=>
   rintro⟨y,x⟩ rest b L ⟨C,rfl,G,F,j,k,m,z,o,i,v⟩
   cases z with
   |nil=>rw[List.zip_nil_left] at m;cases m
   |cons a t E=>
    cases o with
    |nil=>rw[List.zip_nil_right] at m;cases m
    |cons c u D=>
     rw[DJ] at m;injection m with M B;injection M with U V;subst U V;rw[JQ] at v;simp only[fU] at i;obtain⟨e,X,r⟩:=ZP A.in1 ⟨J,g,d,H,os⟩ a t c u;refine wpAny_bind (X p w _ _ ?_);cases e with
     |true=>
      rw[if_pos (r.mp rfl)] at v;wp_walk;exact⟨rfl,rfl,_,_,_,_,B,E,D,by lia,v⟩
     |false=>
      rw[if_neg (λq=>absurd (r.mpr q) eY)] at v;have N:=Sg A.in1 ⟨J,g,d,H,os⟩ a t c u p w;wp_walk using N;exact⟨_,rfl,by simpa using v⟩
  case fin=>
   rintro⟨b1,b2⟩ L ⟨C,rfl,G,F,j,k,m,z,o,i,v⟩
   simp only at C
   subst C
   have P:lexLt j k=decide (items.size<f.size):=by
    cases z with
    |nil=>
     cases o with
     |nil=>
      simp only[nR] at i;rw[Qn];exact (decide_eq_false (by lia)).symm
     |cons c u hw=>
      simp only[nR,fU] at i;rw[uQ];exact (decide_eq_true (by lia)).symm
    |cons a t P=>
     cases o with
     |nil=>
      simp only[nR,fU] at i;rw[ZZ];exact (decide_eq_false (by lia)).symm
     |cons c u hw=>
      rw[DJ] at m;cases m
   rw[P] at v
   wp_walk
   exact⟨_,rfl,by simpa[IZ] using v⟩
  case h=>
   exact⟨rfl,rfl,items.toList,f.toList,ns,I,rfl,S,Q,by lia,h⟩
end
section
variable {prog:Program}{w:World}{A:Around}{E:aD->Shared->Prop}{s:Shared}
theorem lt_tupInts(t:lb s.heap l items)(y:lb s.heap b d)(v:fL items.toList ns)(u:fL d.toList g)
  (r:A.units<cLine) (h:Q (.bool (lexLt ns g)) s):wpAny (aR prog w) A (eG .Lt (.ref l) (.ref b)) Q E s:=by
 obtain⟨⟨cls,dd,m,p⟩,j,k,n,hd⟩:=id t;obtain⟨⟨o,i,data2,f⟩,a,e,q,c⟩:=id y;simp only at k hd e c;subst k hd e c
 exact richCompare_meets_room (op:=.Lt) ⟨_,j,rfl⟩ ⟨_,a,rfl⟩ PySem.F.slot_tuple_lt PySem.F.entry_tuple_lt (PySem.F.args_tuple_lt_2 _ _) (Ql l b items d n q dd i p f ns g v u)
  ⟨j,a,show lR (lexLt ns g)≠Value.notImplemented/\Q (.bool (lexLt ns g)) s from ⟨(λx=>nomatch x),h⟩⟩ r
theorem cat_tup(p:lb s.heap t vs.toArray)(q:lb s.heap b d.toArray)(l:vs≠[])
  (h1:d=[]->Q (.ref t) s) (h2:d≠[]->Q (.ref s.heap.objs.size) {s with heap:=s.heap.push {cls:=.type "tuple",data:=.seq (vs++d).toArray}})
  (hsz:vs.length+d.length<=sizeLine):wpAny (aR prog w) A (gz .Add (.ref t) (.ref b)) Q E s:=by
 obtain⟨⟨cls,dd,data,j⟩,i,m,n,hd⟩:=id p;obtain⟨⟨o,h,data2,c⟩,a,g,k,f⟩:=id q;simp only at m hd g f;subst m hd g f;have e:vs.toArray++d.toArray=(vs++d).toArray:=by simp
 by_cases hw:d=[]
 ·exact sN ⟨_,i,rfl⟩ ⟨_,a,rfl⟩ tf sJ tO tY (t7 _ _)
   (tuple_addW1 t b vs.toArray d.toArray n k dd h j c (by simpa using l) (by simp[hw])) ⟨i,a,h1 hw⟩
 ·refine sN ⟨_,i,rfl⟩ ⟨_,a,rfl⟩ tf sJ tO tY (t7 _ _)
   (tuple_addW2 t b vs.toArray d.toArray n k dd h j c (by simpa using l) (by simpa using hw) (by rw[dH,dH];exact hsz)) ⟨i,a,?_⟩
  rw[e];exact h2 hw
noncomputable def sIx(n d:Nat):Option Int->Nat
 |none=>d
 |some v=>if v<0 then (v+(n:Int)).toNat else min v.toNat n
theorem Oq(n d:Nat)(hd:d<=n)(o:Option Int):sIx n d o<=n:=by
 cases o with
 |none=>exact hd
 |some v=>
  show (if v<0 then (v+(n:Int)).toNat else min v.toNat n)<=n;by_cases a:v<0
  ·rw[if_pos a];lia
  ·rw[if_neg a];exact Nat.min_le_right _ _
theorem XG(v:Int)(n d:Nat):(if v<0 then max (v+(n:Int)) 0 else min v (n:Int))=((sIx n d (aA v):Nat):Int):=by
 show (if v<0 then max (v+(n:Int)) 0 else min v (n:Int))=(((if v<0 then (v+(n:Int)).toNat else min v.toNat n):Nat):Int);by_cases a:v<0
 ·simp only[if_pos a];lia
 ·simp only[if_neg a];lia
theorem Kf(lo a:Option Int)(n:Nat):t8 lo a 1 (n:Int)=(((sIx n 0 lo:Nat):Int),((sIx n n a:Nat):Int)):=by
 have b:¬((1:Int)<0):=by lia
 unfold t8;simp only[b,if_false];refine Prod.ext ?_ ?_
 ·cases lo with
  |none=>rfl
  |some v=>exact XG v n 0
 ·cases a with
  |none=>rfl
  |some v=>exact XG v n n
theorem KZ(i j:Nat):rg (i:Int) (j:Int) 1=j-i:=by
 unfold rg;have a:(1:Int) > 0:=by lia
 simp only[a,if_true,sM];split<;>lia
theorem Q3(p:iB v o)(h:Q o s):wpAny (aR prog w) A (IS v) Q E s:=by
 cases p with
 |none=>exact slicePart_none h
 |int i t=>exact slicePart_int h
theorem sliceApplied_gen{lo b:Option Int}{n:Nat}(hs:s.heap.IsSliceOf j g d .none)(pl:iB g lo)(e:iB d b)
  (h:Q (((sIx n 0 lo:Nat):Int),1,sIx n n b-sIx n 0 lo) s):wpAny (aR prog w) A (EL (.ref j) (pure (n:Int))) Q E s:=by
 obtain⟨os,a,f,c⟩:=id hs;unfold EL ID;refine wpAny_bind (wpAny_bind (gO a c (x:=g) rfl (wpAny_bind (gO a c (x:=d) rfl (wpAny_bind (gO a c (x:=.none) rfl (wpAny_pure ?_)))))));refine wpAny_bind (slicePart_none ?_);show wpAny _ _ (if ((1:Int)==0)=aB then _ else _) _ _ s;rw[if_neg (by decide)];refine wpAny_bind (Q3 pl (wpAny_bind (Q3 e (wpAny_bind (wpAny_pure ?_)))));show wpAny _ _ (match t8 lo b 1 (n:Int) with|(lo,b)=>pure (lo,(1:Int),rg lo b 1)) _ _ s;rw[Kf lo b n];show wpAny _ _ (pure (((sIx n 0 lo:Nat):Int),(1:Int),rg ((sIx n 0 lo:Nat):Int) ((sIx n n b:Nat):Int) 1)) _ _ s;rw[KZ];exact wpAny_pure h
theorem Rr(xs:Array aD)(i k:Nat):((gM k).filterMap λ(m:Nat)=>xs[((i:Int)+(m:Int)*1).toNat]?).toArray=((xs.toList.drop i).take k).toArray:=by
 have e:(λ(m:Nat)=>xs[((i:Int)+(m:Int)*1).toNat]?)=λm=>xs[i+m]?:=by
  funext m;have:((i:Int)+(m:Int)*1).toNat=i+m:=by lia
  rw[this]
 rw[e];have:=pick_run xs i k;rw[List.filterMap_map] at this;have a:((λx=>xs[x]?) ∘ λx=>i+x)=λm=>xs[i+m]?:=rfl;rw[a] at this;rw[this]
theorem getItem_tuple_cut{lo:Option Int}(b:lb s.heap t items)(hs:s.heap.IsSliceOf j z r .none)(pl:iB z lo)(i:iB r d)
  (hw:¬(sIx items.size 0 lo=0/\sIx items.size items.size d=items.size))
  (h:Q (.ref s.heap.objs.size) {s with heap:=s.heap.push {cls:=.type "tuple",data:=.seq ((items.toList.drop (sIx items.size 0 lo)).take (sIx items.size items.size d-sIx items.size 0 lo)).toArray}})
  (hsz:items.size<=sizeLine):wpAny (aR prog w) A (ij (.ref t) (.ref j)) Q E s:=by
 have a:sizeOk (.seq ((items.toList.drop (sIx items.size 0 lo)).take (sIx items.size items.size d-sIx items.size 0 lo)).toArray):=by
  show ((items.toList.drop (sIx items.size 0 lo)).take (sIx items.size items.size d-sIx items.size 0 lo)).toArray.size<=sizeLine;rw[dH,mH,tc,mQ];omega
 have o:sIx items.size items.size d<=items.size:=Oq _ _ (bE _) d;obtain⟨os,c,f,k⟩:=id hs;have g:s.TypeIs (.ref j) "slice":=⟨os,c,f⟩;unfold ij;try with_reducible refine wpAny_holding ?_
 first|refine wpAny_bind (wpAny_pure ?_)|skip
 refine wpAny_bind (D2 b.typeIs (by decide) ?_)
 refine wpAny_bind (tX (name:=il "__getitem__") b.typeIs l4
  (s_ l4 b.typeIs DW ?_ (DI _ _)))
 show wpAny _ _ (EK (.ref t) >>= _) _ _ s;refine wpAny_bind (tupleItemsOf_ b ?_);refine wpAny_bind (pe g ?_);rw[if_pos (by decide)];refine wpAny_bind (sliceApplied_gen hs pl i ?_);have e:¬((((sIx items.size 0 lo:Nat):Int)==0&&(1:Int)==1&&(sIx items.size items.size d-sIx items.size 0 lo)==items.size)=aB):=by
  intro q;rw[cB,cB] at q;have n:((sIx items.size 0 lo:Nat):Int)=0:=eq_of_beq q.1.1;have l:sIx items.size items.size d-sIx items.size 0 lo=items.size:=eq_of_beq q.2;exact hw ⟨by omega,by omega⟩
 show wpAny _ _ (if (((sIx items.size 0 lo:Nat):Int)==0&&(1:Int)==1&&(sIx items.size items.size d-sIx items.size 0 lo)==items.size)=aB then _ else _) _ _ s;rw[if_neg e,Rr]
 first
  |exact wpAny_bind (m:=pX _) (iY (wpAny_pure ⟨_,rfl,wpAny_pure h⟩) a)
  |exact wpAny_bind (m:=pX _) (iY (wpAny_bind (wpAny_pure (wpAny_pure ⟨_,rfl,wpAny_pure h⟩))) a)
  |exact wpAny_bind (wpAny_bind (m:=pX _) (iY (wpAny_pure (wpAny_pure ⟨_,rfl,wpAny_pure h⟩)) a))
  |exact wpAny_bind (wpAny_bind (m:=pX _) (iY (wpAny_pure ⟨_,rfl,wpAny_pure h⟩) a))
end
end HT
namespace L2
open PySem PySem.Spec PyProof.Rows
noncomputable abbrev TO:=St->Hp->(Option Int->Hp->Prop)->Prop
noncomputable def PO (X:Cx)(e:Option aI)(t:TO):Prop:=
 ∀(a:List (aF×bA)) (s:a9) (b:St) (H:Hp) (Q:Option Int->Hp->Prop),Inv X a b H s->t b H Q->
  wpAny (aR X.prog X.w) X.A (evalPart e X.env) (λu d=>∃o c,Inv X a b c d/\iB u o/\Q o c) X.xe s
noncomputable def Pe:TO:=λ_ H Q=>Q aE H
noncomputable def Me(t:TE):TO:=λa H Q=>t a H λx b=>∃i,x=.int i/\Q (aA i) b
theorem intsAre_of:∀{us:List aD},aY (ns.map V.int) us->fL us ns:=by
 induction ns with
 |nil=>intro us r;rw[C_] at r;cases r;exact .nil
 |cons n ns c=>
  intro us r;rw[dU] at r;cases r with
  |cons b a=>
   obtain⟨t,e⟩:=b;subst e;exact .cons n t (c a)
section
variable {X:Cx}{e:aI}{te:TE}{lo hi:Option aI}{tl th:TO}{pos p2:Pos}
theorem PJ:PO X aE Pe:=by
 intro a s b H Q I h;rw[evalPart_none];exact wpAny_pure ⟨aE,H,I,.none,h⟩
theorem OB(h:PE X e te):PO X (aA e) (Me te):=by
 intro a s b H Q I hw;rw[evalPart_some];refine aX (h a s b H _ I hw) λu j ⟨x,g,f,c,d⟩=>?_;obtain⟨i,rfl,q⟩:=d;obtain⟨t,rfl⟩:=c;exact⟨aA i,g,f,.int i t,q⟩
noncomputable def i8 (X:Cx)(r:V->Option Int->Option Int->Hp->VK->Prop):Prop:=
 ∀(a:List (aF×bA)) (s:a9) (b:St) (H:Hp) (x:V) (v d c:aD) (lo hi:Option Int) (e:aF) (Q:VK),Inv X a b H s->RelV x v->s.heap.IsSliceOf e d c .none->iB d lo->iB c hi->r x lo hi H Q->
  ∃T id,nu (.type T) "__getitem__"=pure (aA (.builtin id))/\s.TypeIs v T/\wpAny (aR X.prog X.w) X.A (ij v (.ref e)) (EP X a b Q) X.xe s
theorem i8.or(h:i8 X r)(h':i8 X j):i8 X (λx lo hi H Q=>r x lo hi H Q\/j x lo hi H Q):=by
 intro a s b H x v d c lo hi e Q I f hs pl g q;rcases q with q|q
 ·exact h a s b H x v d c lo hi e Q I f hs pl g q
 ·exact h' a s b H x v d c lo hi e Q I f hs pl g q
noncomputable def Tp (r:V->Option Int->Option Int->Hp->VK->Prop)(te:TE)(tl th:TO):TE:=λa H Q=>te a H λx d=>tl a d λl c=>th a c λu b=>r x l u b Q
theorem Sa(B:i8 X r)(he:PE X e te)(C:PO X lo tl)(y:PO X hi th):PE X (.Subscript e (.Slice lo hi aE p2) pos) (Tp r te tl th):=by
 intro a s d H Q I h;refine Subscript_ (aX (he a s d H _ I h) λv k ⟨x,M,K,m,p⟩=>?_);refine wpAny_Slice (aX (C a k d M _ K p) λg j ⟨l,L,J,pl,o⟩=>aX (y a j d L _ J o) λf c ⟨u,i,G,t,n⟩=>?_);rw[evalPart_none];refine wpAny_pure ?_;have F:Inv X a d i {c with heap:=c.heap.push {cls:=.type "slice",data:=.fields #[g,f,.none]}}:=G.kept (t':=c.toks) λb N q=>bU _ q;obtain⟨T,id,E,z,D⟩:=B a {c with heap:=c.heap.push {cls:=.type "slice",data:=.fields #[g,f,.none]}} d i x v g f l u c.heap.objs.size Q F m (Ih ..) pl t n;show wpAny (aR X.prog X.w) X.A (sI e (.Slice lo hi aE p2) v (.ref c.heap.objs.size)) (EP X a d Q) X.xe {c with heap:=c.heap.push {cls:=.type "slice",data:=.fields #[g,f,.none]}};exact tail_any (ops:=[.ref c.heap.objs.size,v]) z E D (by with_unfolding_all rfl)
noncomputable def Qh (xs:List V)(lo hi:Option Int):List V:=(xs.drop (HT.sIx xs.length 0 lo)).take (HT.sIx xs.length xs.length hi-HT.sIx xs.length 0 lo)
theorem yH(xs:List V)(lo hi:Option Int):(Qh xs lo hi).length<=xs.length:=by
 unfold Qh;rw[mH,tc];lia
noncomputable def LQ (K:bJ):V->Option Int->Option Int->Hp->VK->Prop:=λx lo hi H Q=>∃a b,x=.ref a/\fP K H a b/\
 ¬(HT.sIx b.length 0 lo=0/\HT.sIx b.length b.length hi=b.length)/\∀p,H p=aE->Q (.ref p) (upd H p (.tup (Qh b lo hi)))
theorem Of:i8 X (LQ X.K):=by
 intro g s p H x v u t lo f w Q I k n pl l h;obtain⟨a,d,rfl,m,hw,q⟩:=h;cases k;obtain⟨e,r,j,i⟩:=I.tuple m;have c:e.toArray.size=d.length:=by rw[dH];exact r.length.symm
 refine⟨"tuple",_,l4.lookup,j.typeIs,?_⟩;refine HT.getItem_tuple_cut j n pl l (by rw[c];exact hw) ?_ (by rw[c];exact i);rw[c];refine⟨.ref s.heap.objs.size,_,I.laid (t':=s.toks) (o:=.tup (Qh d lo f)) (λb y q=>bU _ q) (bE _) ?_,rfl,q _ (I.hok.fresh (bE _))⟩;exact⟨cU (yH d lo f) i,_,(r.drop (HT.sIx d.length 0 lo)).take (HT.sIx d.length d.length f-HT.sIx d.length 0 lo),Cs _ _⟩
noncomputable def LH (K:bJ):R2:=λx y H Q=>∃a b c d,x=.ref a/\y=.ref b/\fP K H a (c.map V.int)/\fP K H b (d.map V.int)/\Q (.bl (HT.lexLt c d)) H
theorem MW(p:X.A.units<cLine):dT X (eG .Lt) (LH X.K):=by
 intro e s w H x y v u Q I j i h;obtain⟨a,b,f,g,rfl,rfl,t,r,q⟩:=h;cases j;cases i;obtain⟨d,l,p1,_⟩:=I.tuple t;obtain⟨c,k,m,_⟩:=I.tuple r;have o:fL d.toArray.toList f:=intsAre_of l;have n:fL c.toArray.toList g:=intsAre_of k;exact HT.lt_tupInts p1 m o n p ⟨.bl (HT.lexLt f g),H,I,rfl,q⟩
noncomputable def Mg(K:bJ):R2:=λx y H Q=>∃a b d c,x=.ref a/\y=.ref b/\fP K H a d/\fP K H b c/\d≠[]/\d.length+c.length<=sizeLine/\
 (c=[]->Q (.ref a) H)/\(c≠[]->∀p,H p=aE->Q (.ref p) (upd H p (.tup (d++c))))
theorem aY.nil_iff(r:aY xs us):us=[]↔xs=[]:=by
 cases r with
 |nil=>simp
 |cons _ _=>simp
theorem Ra:dT X (gz .Add) (Mg X.K):=by
 intro e s C H x y v u Q I l k h;obtain⟨a,b,j,i,rfl,rfl,B,A,t,g,n,m⟩:=h;cases l;cases k;obtain⟨r,d,p1,_⟩:=I.tuple B;obtain⟨f,c,p,_⟩:=I.tuple A;refine HT.cat_tup p1 p (λz=>t (d.nil_iff.mp z)) (λz=>⟨.ref a,H,I,rfl,n (c.nil_iff.mp z)⟩) (λz=>?_) (by rw[←d.length,←c.length];exact g);refine⟨.ref s.heap.objs.size,_,I.laid (t':=s.toks) (o:=.tup (j++i)) (λb D q=>bU _ q) (bE _) ?_,rfl,m (λw=>z (c.nil_iff.mpr w)) _ (I.hok.fresh (bE _))⟩;exact⟨by rw[l3];exact g,_,d.append c,Cs _ _⟩
end
end L2
namespace L2
open PySem PySem.Spec PyProof.Rows
noncomputable def oH(n:Nat)(i:Int):Option Nat:=if 0<=i then (if i<n then aA i.toNat else aE) else if -(n:Int)<=i then aA (i+n).toNat else aE
noncomputable def mj {α:Type}(xs:List α)(i:Int):Option α:=(oH xs.length i).bind λj=>xs[j]?
theorem Rt(h:oH n i=aA j):seqIndex? i n=aA j/\j<n /\ -(n:Int)<=i/\i<n:=by
 unfold oH at h;by_cases b:0<=i
 ·rw[if_pos b] at h;by_cases a:i<n
  ·rw[if_pos a] at h;have e:i.toNat=j:=bP h;exact⟨by rw[seqIndex_of b a,e],by lia,by lia,a⟩
  ·rw[if_neg a] at h;cases h
 ·rw[if_neg b] at h;by_cases a:-(n:Int)<=i
  ·rw[if_pos a] at h;have e:(i+n).toNat=j:=bP h;exact⟨by rw[seqIndex_neg (by lia) a,e],by lia,a,by lia⟩
  ·rw[if_neg a] at h;cases h
theorem WR{xs:List α}(h:mj xs i=aA v):∃j,seqIndex? i xs.length=aA j/\xs[j]?=aA v/\j<xs.length /\ -(xs.length:Int)<=i/\i<xs.length:=by
 unfold mj at h;cases e:oH xs.length i with
 |none=>rw[e] at h;cases h
 |some j=>
  rw[e] at h;obtain⟨d,c,b,a⟩:=Rt e;exact⟨j,d,h,c,b,a⟩
noncomputable def RC(b:aI):Prop:=∀o i,pq b aC o i=operate [o,i] (ij o i)
noncomputable def Cm (X:Cx)(r:R2):Prop:=
 ∀(c a:aI) (b:List (aF×bA)) (s:a9) (d:St) (H:Hp) (x y:V) (v u:aD) (Q:VK),Inv X b d H s->RelV x v->RelV y u->r x y H Q->
  pq a aC v u=operate [v,u] (ij v u)->wpAny (aR X.prog X.w) X.A (sI c a v u) (EP X b d Q) X.xe s
noncomputable def m4 (X:Cx)(id:String)(r:V->List V->Hp->VK->Prop):Prop:=
 ∀(a:List (aF×bA)) (s:a9) (b:St) (H:Hp) (x:V) (c:List V) (v:aD) (d:List aD) (Q:VK),Inv X a b H s->RelV x v->aY c d->r x c H Q->
  wpAny (aR X.prog X.w) X.A (call (.builtin id) (v::d)) (EP X a b Q) X.xe s
section
variable {X:Cx}{a b:aI}
noncomputable def LP (K:bJ):R2:=λx y H Q=>∃p a i v,x=.ref p/\y=.int i/\gX K H p a/\mj a i=aA v/\Q v H
noncomputable def LG (K:bJ):R2:=λx y H Q=>∃p a i v,x=.ref p/\y=.int i/\fP K H p a/\mj a i=aA v/\Q v H
noncomputable def Lf:R2:=λx y H Q=>∃z i c,x=.str z/\y=.int i/\z.length<=sizeLine/\mj z.cps.toList i=aA c/\Q (.str ⟨#[c]⟩) H
theorem X8:Cm X (LP X.K):=by
 intro c d a s k H x y v u Q I A o h l;obtain⟨p,J,i,z,rfl,rfl,B,D,q⟩:=h;cases A;obtain⟨t,rfl⟩:=o;obtain⟨f,r,pl,L⟩:=I.list B;obtain⟨j,b,G,N,F,E⟩:=WR D;obtain⟨w,ew,e⟩:=r.get G;have C:=r.length;have M:=ZO;have fin:EP X a k Q w s:=⟨z,H,I,e,q⟩;by_cases m:0<=i
 ·have g:i.toNat=j:=by
   rw[seqIndex_of m E] at b;exact bP b
  exact item_listR pl.isList m (by lia) (by rw[g];simpa using ew) fin l
 ·have g:(i+(f.toArray.size:Int)).toNat=j:=by
   rw[seqIndex_neg (by lia) F] at b;rw[dH,←C];exact bP b
  exact Em (x:=w) pl.isList.typeIs D1.lookup
   (wpAny_getItem_list_neg (Q:=λr n=>r=w/\EP X a k Q r n) pl.isList (by lia) (by rw[dH]<;>lia) (by lia) (by rw[g];simpa using ew) ⟨rfl,fin⟩) l
theorem Oh:Cm X (LG X.K):=by
 intro b c a s e H x y v u Q I k g h m;obtain⟨p,D,i,z,rfl,rfl,n,A,q⟩:=h;cases k;obtain⟨t,rfl⟩:=g;obtain⟨l,r,pl,E⟩:=I.tuple n;obtain⟨j,C,B,L,J,G⟩:=WR A;obtain⟨w,ew,d⟩:=r.get B;have o:=r.length;have F:=ZO;have fin:EP X a e Q w s:=⟨z,H,I,d,q⟩
 exact Em (x:=w) pl.typeIs l4.lookup
  (getItem_tuple (j:=j) (Q:=λr f=>r=w/\EP X a e Q r f) pl (by lia) (by lia) (by rw[dH,←o];exact C) (by simpa using ew) ⟨rfl,fin⟩) m
theorem MX:Cm X Lf:=by
 intro a b d s A H x y v u Q I g f h k;obtain⟨z,i,c,rfl,rfl,C,m,q⟩:=h;obtain⟨t,rfl⟩:=g;obtain⟨B,rfl⟩:=f;obtain⟨j,e,p,E,o,n⟩:=WR m;have l:z.cps.toList.length=z.length:=by simp[sw]
 rw[l] at e o n;have D:=ZO;exact tail_any (sv s z t) slot_str_getitem.lookup (getItem_str (c:=c) (by
  have w:decide (i < -(2 ^ 63:Int))=aC:=decide_eq_false (by lia);have r:decide (i ≥ 2 ^ 63)=aC:=decide_eq_false (by lia);rw[w,r,Bool.or_false]) (by rw[e];simpa using p) ⟨.str ⟨#[c]⟩,H,I.tok _,⟨_,rfl⟩,q⟩) k
theorem Vb(lo a:Option Int)(n:Nat):(lT lo a aE n).1=((HT.sIx n 0 lo:Nat):Int)/\(lT lo a aE n).2.1=((HT.sIx n n a:Nat):Int)/\(lT lo a aE n).2.2=1:=by
 refine⟨?_,?_,rfl⟩
 ·cases lo with
  |none=>simp[lT,HT.sIx]
  |some i=>
   simp only[lT,HT.sIx,Dq,show (1:Int) > 0 by decide,if_true];by_cases h:i<0
   ·simp only[h,if_true]<;>lia
   ·simp only[h,if_false]<;>lia
 ·cases a with
  |none=>simp[lT,HT.sIx]
  |some i=>
   simp only[lT,HT.sIx,Dq,show (1:Int) > 0 by decide,if_true];by_cases h:i<0
   ·simp only[h,if_true]<;>lia
   ·simp only[h,if_false]<;>lia
theorem Qt(its:List aD)(lo a:Option Int):slicePick its.toArray lo a aE=((its.drop (HT.sIx its.length 0 lo)).take (HT.sIx its.length its.length a-HT.sIx its.length 0 lo)).toArray:=by
 obtain⟨d,c,b⟩:=Vb lo a its.toArray.size;unfold slicePick;rw[d,c,b];simp only[sliceRange_one,pick_run,dH]<;>rfl
noncomputable def LR (K:bJ):V->Option Int->Option Int->Hp->VK->Prop:=λx lo c H Q=>∃a b,x=.ref a/\gX K H a b/\∀p,H p=aE->Q (.ref p) (upd H p (.lst (Qh b lo c)))
theorem P8:i8 X (LR X.K):=by
 intro f s p H x v u t lo e w Q I i n pl j h;obtain⟨a,c,rfl,m,q⟩:=h;cases i;obtain⟨k,r,g,l⟩:=I.list m;have d:=r.length;refine⟨"list",_,D1.lookup,g.isList.typeIs,?_⟩;refine wpAny_getItem_list_slice g.isList n pl j .none (by simp) ?_ (by rw[dH]<;>lia);rw[Qt,←d];refine⟨.ref s.heap.objs.size,_,I.laid (t':=s.toks) (o:=.lst (Qh c lo e)) (λb y q=>bU _ q) (bE _) ?_,rfl,q _ (I.hok.fresh (bE _))⟩;exact⟨cU (yH c lo e) l,_,0,(r.drop (HT.sIx c.length 0 lo)).take (HT.sIx c.length c.length e-HT.sIx c.length 0 lo),eF _ rfl⟩
theorem jd:Bt X (.builtin "len") (λxs H Q=>∃p ys,xs=[.ref p]/\(gX X.K H p ys\/fP X.K H p ys)/\Q (.int ys.length) H):=by
 intro e s i H xs j Q I r h;obtain⟨p,ys,rfl,b,q⟩:=h;obtain⟨u,rfl,f⟩:=vals1 r;cases f;have k:=ZO;rcases b with b|b
 ·obtain⟨d,c,pl,g⟩:=I.list b;have a:=c.length;exact Calls.call_len_list pl.isList (by simp only[dH]<;>lia) ⟨.int ys.length,H,I.tok _,⟨s.toks+1,by rw[dH,a]⟩,q⟩
 ·obtain⟨d,c,pl,g⟩:=I.tuple b;have a:=c.length;exact len_tuple pl (by simp only[dH]<;>lia) ⟨.int ys.length,H,I.tok _,⟨s.toks+1,by rw[dH,a]⟩,q⟩
theorem WJ:Bt X (.builtin "len") (λxs H Q=>∃z,xs=[.str z]/\z.length<=sizeLine/\Q (.int z.length) H):=by
 intro a s b H xs c Q I r h;obtain⟨z,rfl,d,q⟩:=h;obtain⟨u,rfl,t,rfl⟩:=vals1 r;have e:=ZO;exact len_str (by lia) ⟨.int z.length,H,I.tok _,⟨_,rfl⟩,q⟩
theorem qP:Bt X (.type "list") (λxs H Q=>∃p ys,xs=[.ref p]/\(gX X.K H p ys\/fP X.K H p ys)/\∀l,H l=aE->Q (.ref l) (upd H l (.lst ys))):=by
 intro g s y H xs A Q I r h;obtain⟨p,ys,rfl,k,q⟩:=h;obtain⟨u,rfl,z⟩:=vals1 r;cases z
 have fin:∀(a:List aD),aY ys a->ys.length<=sizeLine->∀(c:aV) (f:Nat),(∀b x,s.heap.get? b=aA x->c.get? b=aA x)->
   c.get? s.heap.objs.size=aA {cls:=.type "list",dict:=aE,data:=.seq a.toArray f,slots:=#[]}->EP X g y Q (.ref s.heap.objs.size) {s with heap:=c}:=λa d j c f i e=>
  ⟨.ref s.heap.objs.size,_,I.laid (t':=s.toks) i (bE _) (show a6 X.prog X.w _ c _ (.lst ys) from ⟨j,a,f,d,e⟩),rfl,q _ (I.hok.fresh (bE _))⟩
 rcases k with k|k
 ·obtain⟨a,d,pl,j⟩:=I.list k;have m:=d.length;obtain⟨o,t,v,n,hd⟩:=pl.isList;exact call_list_seq p (.inl rfl) t v hd (λc f i e=>fin a d j c f i e) (by simp only[dH]<;>lia)
 ·obtain⟨a,d,pl,j⟩:=I.tuple k;have m:=d.length;obtain⟨o,t,v,n,hd⟩:=pl;exact call_list_seq p (.inr rfl) t v hd (λc f i e=>fin a d j c f i e) (by simp only[dH]<;>lia)
noncomputable def BG (K:bJ)(T:String)(x:V)(H:Hp):Prop:=match x with
 |.str _=>T="str"
 |.int _=>T="int"
 |.ref p=>(T="list"/\∃b,gX K H p b)\/(T="tuple"/\∃o,K.lookup p=aA o/\o.cls=.type "tuple"/\o.dict=aE)\/
   (T="dict"/\((∃a,H p=aA (.dK a))\/∃ep a,H p=aA (.dE ep a)))\/(T="set"/\∃S n,H p=aA (.set S n))
 |_=>False
theorem GP{h:St}{H:Hp}{x:V}(I:Inv X g h H s)(r:RelV x v)(ty:BG X.K T x H) :
  s.TypeIs v T/\∀a,v=.ref a->∃ob,s.heap.get? a=aA ob/\ob.dict=aE:=by
 cases x with
 |str z=>
  obtain⟨t,rfl⟩:=r;cases (show T="str" from ty);exact⟨sv s z t,λ_ e=>nomatch e⟩
 |int i=>
  obtain⟨t,rfl⟩:=r;cases (show T="int" from ty);exact⟨typeIs_int s i t,λ_ e=>nomatch e⟩
 |ref p=>
  cases r;rcases ty with⟨rfl,m,k⟩|⟨rfl,o,b,l,hd⟩|⟨rfl,b⟩|⟨rfl,S,n,b⟩
  ·obtain⟨j,_,pl,_⟩:=I.list k;refine⟨pl.isList.typeIs,λa e=>?_⟩;cases e;obtain⟨o,n,e,c,hd,_⟩:=pl;exact⟨o,e,hd⟩
  ·refine⟨⟨o,I.kIn p o b,l⟩,λa e=>?_⟩;cases e;exact⟨o,I.kIn _ o b,hd⟩
  ·have z:∃o,s.heap.get? p=aA o/\o.ExactDict:=by
    rcases b with⟨d,b⟩|⟨ep,d,b⟩
    ·obtain⟨_,_,_,_,o,_,_,e,ex,_⟩:=I.hok p _ b;exact⟨o,e,ex⟩
    ·obtain⟨_,_,_,_,o,_,e,ex,_⟩:=I.hok p _ b;exact⟨o,e,ex⟩
   obtain⟨o,e,ex⟩:=z;refine⟨⟨o,e,ex.1⟩,λa f=>?_⟩;cases f;exact⟨o,e,ex.2.1⟩
  ·obtain⟨o,_,_,_,e,ex,_⟩:=I.hok p _ b;refine⟨⟨o,e,ex.1⟩,λa f=>?_⟩;cases f;exact⟨o,e,ex.2.1⟩
 |_=>exact dI ty
noncomputable def LN (K:bJ)(T:String)(r:V->List V->Hp->VK->Prop)(c:TE):TE:=λb H Q=>c b H λx a=>BG K T x a/\r x [] a Q
noncomputable def Tq (K:bJ)(T:String)(r:V->List V->Hp->VK->Prop)(d:TE)(t:TA):TE:=λa H Q=>d a H λx b=>BG K T x b/\t a b λc e=>r x c e Q
variable {o e:aI}{es:List aI}{to:TE}{t:TA}{name:aG}{apos cpos:Pos}{T id:String}{r:V->List V->Hp->VK->Prop}
theorem HA (pa:PlainAttrs T) (slot:Slot T name id) (d:typeOf (.builtin id)=pure (.type "method_descriptor")) (k:m4 X id r) (ho:PE X o to)
  (c:lV o name X.env (eval o X.env)=eval o X.env:=by rfl) (b:(apos.endLine==cpos.line)=aB:=by rfl):PE X (.Call (.Attribute o name apos) [] [] cpos) (LN X.K T r to):=by
 intro a s e H Q I h;refine wpAny_Call_method0_late c b (aX (ho a s e H _ I h) λv i ⟨x,n,g,f,ty,j⟩=>?_);obtain⟨m,l⟩:=GP g f ty;exact⟨T,id,pa,slot,d,m,l,tN rfl (PySem.evalArgs_none (k a i e n x [] v [] Q g f .nil j))⟩
theorem BA (pa:PlainAttrs T) (slot:Slot T name id) (i:typeOf (.builtin id)=pure (.type "method_descriptor")) (z:m4 X id r) (ho:PE X o to) (A:PA X (e::es) t)
  (d:lV o name X.env (eval o X.env)=eval o X.env:=by rfl)
  (f:((fJ cpos (d7 (e::es) X.env)).all (λx=>!x.1)&&(lg cpos (lq [] X.env)).all (λx=>x.1.isSome)
   &&decide ((e::es).length+([]:List iC).length+(if ([]:List iC).isEmpty then 0 else 1)<30))=aB:=by rfl)
  (c:(apos.endLine==cpos.line)=aB:=by rfl) (hs:d7 (e::es) X.env=(aC,eval e X.env)::d7 es X.env:=by rfl) (b:(fJ cpos (d7 es X.env)).any (·.1)=aC:=by rfl) :
  PE X (.Call (.Attribute o name apos) (e::es) [] cpos) (Tq X.K T r to t):=by
 intro a s g H Q I h;refine wpAny_Call_method_late d f c rfl (aX (ho a s g H _ I h) λv q ⟨x,F,l,j,ty,y⟩=>?_);obtain⟨C,B⟩:=GP l j ty;refine⟨T,id,pa,slot,i,C,B,?_⟩;have k:=A cpos a q g F _ l y;rw[hs] at k ⊢;refine tN (by show (aC || (fJ cpos (d7 es X.env)).any (·.1))=aC;rw[b]<;>rfl) (rc ?_);exact aX k λn p ⟨m,E,D,u,w⟩=>z a p g E x m v n Q D j u w
end
end L2
namespace L2
open PySem PySem.Spec PyProof.Rows
noncomputable def TL (X:Cx)(id:String)(r:V->List V->Hp->VK->Prop):Prop:=
 ∀(a:List (aF×bA)) (s:a9) (b:St) (H:Hp) (x:V) (c:List V) (v:aD) (d:List aD) (Q:VK),Inv X a b H s->RelV x v->aY c d->r x c H Q->
  wpAny (aR X.prog X.w) X.A (call (.builtin id) (v::d)) (EP X a b Q) X.xe s
theorem aY.one:∀{x:V}{us:List aD},aY [x] us->∃u,us=[u]/\RelV x u
 |_,_,.cons r .nil=>⟨_,rfl,r⟩
section
variable {X:Cx}{pins:List (aF×bA)}{σ:St}{H:Hp}{s:Shared}{l:aF}{xs ys:List V}
theorem Inv.lset{its:List aD}(I:Inv X pins σ H s)(h:H l=aA (.lst xs))
  (e:s.heap.get? l=aA {cls:=.type "list",data:=.seq its.toArray n}) (d:f its.toArray=its'.toArray) (b:aY ys its') (a:ys.length<=sizeLine) :
  Inv X pins σ (upd H l (.lst ys)) {s with heap:=s.heap.update l (d_ f),toks:=t'}:=by
 have q:=PySem.IsL.update e f;rw[d] at q;refine I.write (x:=l) (e:=l) (by rw[h];exact trivial) (.inl rfl) (λi u g c=>(lE s.heap (d_ f) (b_ g)).trans c) ⟨_,q⟩ ?_;exact⟨a,its',_,b,q⟩
theorem Inv.lnew(I:Inv X pins σ H s)(b:aY ys its)(a:ys.length<=sizeLine) :
  Inv X pins σ (upd H s.heap.objs.size (.lst ys)) {s with heap:=s.heap.push {cls:=.type "list",data:=.seq its.toArray},toks:=t'}:=
 I.laid (λ_ _ q=>bU _ q) (bE _) ⟨a,its,0,b,eF _ rfl⟩
theorem Inv.fresh(I:Inv X pins σ H s):H s.heap.objs.size=aE:=I.hok.fresh (bE _)
theorem Inv.lstM(I:Inv X pins σ H s)(a:H l=aA (.lst xs)):xs.length<=sizeLine/\∃(its:List aD) (n:Nat),aY xs its/\xs.length=its.length/\s.heap.get? l=aA {cls:=.type "list",data:=.seq its.toArray n}:=by
 obtain⟨z,its,n,r,e⟩:=I.hok l _ a;exact⟨z,its,n,r,r.length,e⟩
theorem SF(h:n<=sizeLine):t6 n=aC:=by
 unfold t6;exact decide_eq_false (by lia)
end
section
variable {X:Cx}
noncomputable def Rf:V->List V->Hp->VK->Prop:=λx b H Q=>∃l a y,x=.ref l/\b=[y]/\H l=aA (.lst a)/\a.length<sizeLine/\Q .non (upd H l (.lst (a++[y])))
theorem QX:TL X "list.append" Rf:=by
 intro b s i H x k v m Q I d f h;obtain⟨l,j,y,rfl,rfl,c,o,q⟩:=h;cases d;obtain⟨u,rfl,g⟩:=f.one;obtain⟨z,a,n,r,p,e⟩:=I.lstM c;refine pd F.slot_list_append ⟨_,e,rfl⟩ F.entry_list_append (F.args_list_append_2 _ _) (PySem.list_append l a.toArray n u (by rw[dH];lia)) ⟨e,?_⟩;refine⟨.non,_,I.lset (its':=a++[u]) c e (by simp) (r.append (.cons g .nil)) ?_,rfl,q⟩;rw[l3,List.length_singleton];lia
end
end L2
namespace Att
open PySem PySem.W PySem.Calls PyProof.Rows
theorem ue{P:Params}:∀(ns:List Int) (vs:List aD),WellAll P h vs (ns.map Cr)->fL vs ns:=by
 intro ns;induction ns with
 |nil=>
  intro vs w;rw[C_] at w;cases w;exact .nil
 |cons n ns c=>
  intro vs w;rw[dU] at w;cases w with
  |cons a b=>
   cases a;exact .cons _ _ (c _ b)
theorem U2{l:my}(u:l.most=aA n){P:Params}{args:List WData} 
  (b:l.row.toRowW.claim.pre args=aB) (j:WellAll P h g args) :
  ∃a vs ns,g=[cN a]/\args=[WData.list (ns.map Cr)]/\h.get? a=aA {cls:=.type "list",data:=.seq vs.toArray}/\fL vs ns/\ns.length<=n:=by
 have k:WShape.hasAll [] args [.list .int]=aB:=(pre_splitW b).1;have m:l.pre.holds [] {args:=args}=aB:=(pre_splitW b).2;obtain⟨d,r,rfl,x,w⟩:=hasAllW_cons k;obtain rfl:=hasAllW_nil w;obtain⟨y,rfl,v⟩:=hasW_list x;obtain⟨ns,rfl⟩:=items_int v;have c:ns.length<=n:=by
  unfold OpenLaw.pre at m;have i:(WTm.not (.lt (.lit (.int (n:Int))) (.len (.arg 0)))).holds [] {args:=[.list (ns.map .int)]}=aB:=by
   have i:=(holds_andW m).1;rw[u] at i;exact i
  have f:=condW_of i (w_not (w_lt w_lit (w_len_list (w_arg rfl))));rw[cJ] at f;refine Nat.le_of_not_lt λq=>?_;have s:(n:Int)<((ns.length:Nat):Int):=by omega
  first
   |(rw[decide_eq_true s] at f;exact absurd f (by decide))
   |(simp at f;omega)
 cases j with
 |cons p o=>
  cases o;cases p with
  |list t e=>exact⟨_,_,ns,rfl,rfl,t,ue ns _ e,c⟩
theorem Ud(l:my)(args:List WData):l.row.toRowW.claim.post args (.bool aB) args=aB:=
 postW_of (r:=l.row.toRowW) (X:=(aB==aB))
  (show Cz [] (.bool aB) .bool=aB by first|rfl|decide|simp[Cz,WShape.arms,WShape.armsAll])
  (show (WTm.eq .res (.lit (.bool aB))).value [] {args:=args,res:=aA (.bool aB),after:=args}=aA (.bool (aB==aB)) from w_eq_bool (w_res rfl) w_lit) rfl
theorem attach_call{l:my}{n:Nat}{d:DefRec}
  (C:l.most=aA n) (t:d.params.defaults=[])
  (call:∀(w:dL) (s₀ b:a9) (mg m:aG->Option aD) (fa:aF) (o:bA) (k cd doc:aD) (a:aF) (vs:List aD) (ns:List Int),
   Ground q g [] XP w s₀ mg m b.heap->M w b.heap->
   b.heap.get? fa=aA o->o.data=.func (docDef d.name d.params d.body d.scope k cd doc)->b.heap.CodeRec cd d.name->mg d.name=aA (.ref fa)->
   b.heap.get? a=aA {cls:=.type "list",data:=.seq vs.toArray}->fL vs ns->ns.length<=n->b.gens=#[]->
   f9 (aR l.prog w) nh (.call (.ref fa) ⟨[.ref a],[]⟩) (λr j=>r=.ok (.ret (.bool aB))/\OldK b.heap j.heap/\j.os=b.os/\iT j.gens) b) :
  WalkO q g XP M l.row.toRowW d [] (λf vs=>Cy f vs):=by
 intro w s₀ b mg m G Y fa o k cd doc K kV B hd u y s F args v L e x z p E;obtain rfl:K=.none:=Dflts.none y t;obtain rfl:kV=.none:=Dflts.noKw y;obtain⟨a,vs,ns,rfl,rfl,h,c,i⟩:=U2 C e p;refine enter_call (iK (call w s₀ b mg m fa o k cd doc a vs ns G Y B (fd_plain hd) u s h c i F) λr j A=>?_);obtain⟨rfl,J,I,H⟩:=A;exact⟨.inl ⟨.bool aB,.bool aB,[],rfl,λ_=>rfl,.bool aB,Ud l _,λ_=>⟨Ib,λ_ D=>(nomatch D)⟩⟩,J,I,H⟩
section
noncomputable def BS(h:aV)(L d:aF):List (aF×bA):=(gM h.objs.size).filterMap λa=>if a=L\/a=d then aE else (h.get? a).map λo=>(a,o)
end
end Att
namespace L2
open PySem PySem.Spec PyProof.Rows
theorem vals_ints:∀{vs:List aD}{ns:List Int},fL vs ns->aY (ns.map V.int) vs
 |_,_,.nil=>.nil
 |_,_,.cons n t h=>.cons ⟨t,rfl⟩ (vals_ints h)
end L2
namespace L2
open PySem PySem.Spec PyProof.Rows
noncomputable abbrev Wp{K:bJ}{h:aV}(_:K.In h):bJ:=K
end L2
namespace L2
open PySem PySem.Spec PyProof.Rows
noncomputable def aS(s:bC)(j:Nat):bC:=match s with
 |.ClassDef _ _ _ body _ _ _ _ _ _ _=>body.getD j (.Pass ⟨0,0,0,0⟩)
 |_=>.Pass ⟨0,0,0,0⟩
noncomputable def zw(s:bC):Arguments:=match s with
 |.FunctionDef _ a _ _ _ _ _ _ _ _=>a
 |_=>{posonlyargs:=[],args:=[],vararg:=aE,kwonlyargs:=[],kw_defaults:=[],kwarg:=aE,defaults:=[]}
noncomputable def z0(s:bC):List bC:=match s with
 |.FunctionDef _ _ b _ _ _ _ _ _ _=>b
 |_=>[]
noncomputable def zj(s:bC):Scope:=match s with
 |.FunctionDef _ _ _ _ _ _ a _ _ _=>a
 |_=>{kind:=.function,names:=[],isGenerator:=aC,isCoroutine:=aC}
noncomputable abbrev E0:XK:=λ_ _ _=>False
structure mu(K:PySem.W.Frag)(x qual:aG)(st:bC)(f:aF)(fd:FuncData):Prop where
 ex:∃(oc:aD) (od:Option aF) (kV doc pm:aD) (an:Option aF) (cdv ct:aD) (osl:Array (Option aD)),
  fd=fM x qual (zw st) (z0 st) (zj st) .none kV doc pm an cdv ct/\K.lookup f=aA ⟨oc,od,.func fd,osl⟩/\eT K cdv qual=aB
 kp:eJ K (.ref f)=aB
section
variable {K:PySem.W.Frag}
theorem mu.binds{st:bC}(F:mu K x qual st f fd)
  (h:∀(kV doc b:aD) (an:Option aF) (a ct:aD) (us:List aD),us.length=ps.length->li (fM x qual (zw st) (z0 st) (zj st) .none kV doc b an a ct) ⟨us,[]⟩=pure (ps.zip us)):Binds K fd ps []:=by
 obtain⟨e,od,kV,doc,b,an,a,ct,c,rfl,lk,d⟩:=F.ex;exact .all (h kV doc b an a ct)
theorem jD{st:bC}{od an:Option aF}{kV doc b a ct:aD}(l:K.lookup f=aA ⟨g,od,.func (fM x qual (zw st) (z0 st) (zj st) .none kV doc b an a ct),d⟩)
  (c:eT K a qual=aB) (k:eJ K (.ref f)=aB):mu K x qual st f (fM x qual (zw st) (z0 st) (zj st) .none kV doc b an a ct):=⟨⟨g,od,kV,doc,b,an,a,ct,d,rfl,l,c⟩,k⟩
end
noncomputable def jX (H a:Hp):Prop:=∀b o,H b=aA o->a b=aA o
end L2
end
namespace NH
open PySem
noncomputable def stC:aD->aD
 |.int i _=>.ref i.toNat
 |v=>v
noncomputable def La (h:aV)(x:aF)(cls:aD)(d:Option aF):Prop:=∃c b e,h.get? x=aA c/\(c.cls=stC cls/\c.dict=d)/\c.data=.fields b/\b[0]?=aA e/\b[1]?=aA .none/\∀a,cls=.ref a->b[2]?=aA .none
inductive eI(h:aV)(x T:aF)(cls:aD)(d:Option aF)(fl:aD):Prop where
 |mk (oe:bA) (vs:Array aD) (a0:aD) (oT:bA) (ts:Array aD) (h1:h.get? x=aA oe) (h2:oe.cls=stC cls/\oe.dict=d) (h3:oe.data=.fields vs) (h4:vs[0]?=aA a0) (h5:vs[1]?=aA (.ref T)) (h6:T≠x) (h7:h.get? T=aA oT) (h8:oT.data=.fields ts) (h9:ts[3]?=aA fl) (h10:∀a,cls=.ref a->vs[2]?=aA .none)
noncomputable def EQ (h:aV)(x:aF)(cls:aD)(d:Option aF):Option aF->aD->Prop
 |none,fl=>La h x cls d/\fl=.none
 |some T,fl=>eI h x T cls d fl
structure eD(fs:List aF)(x:aF)(T T':Option aF)(h h':aV):Prop where
 keep:∀b o,h.get? b=aA o->b∉fs->b≠x->b∉T.toList->h'.get? b=aA o
 slot:∀b o,h.get? b=aA o->b∈fs->b≠x->b∉T.toList->∃sl,h'.get? b=aA {o with slots:=sl}
 newT:∀t∈T'.toList,t∈T.toList\/h.objs.size<=t
theorem eD.refl(fs:List aF)(x:aF)(T:Option aF)(h:aV):eD fs x T T h h:=⟨λ_ _ e _ _ _=>e,λ_ o e _ _ _=>⟨o.slots,e⟩,λ_ a=>.inl a⟩
theorem Z7(o:bA)(f:Array aD->Array aD):(hV f o).dict=o.dict:=by
 obtain⟨c,d,dt,a⟩:=o;cases dt<;>rfl
section
variable {M:Model}{A:Around}{E:aD->Shared->Prop}{s:Shared}
theorem Uw(a:A.frames=aA (e0::outer))(c:s.heap.FunFrames base (e0::outer))
  (d:env.frame=aA L) (h0:e0.frame=aA L) (h:∀h',Heap.SlotsOnly ((e0::outer).filterMap (·.frame)) s.heap h'->Q (.ref L) {s with heap:=h'}):wpAny M A (frameOf env) Q E s:=by
 unfold frameOf;refine wpAny_bind (wpAny_frameEnvs a ?_);have hw:((e0::outer).dropWhile λy=>y.frame != env.frame)=e0::outer:=by simp[List.dropWhile,d,h0]
 rw[hw];unfold frameObject;refine wpAny_bind (wpAny_bind (wpAny_readyFrames_fun c λe b=>wpAny_pure ?_));rw[h0];exact wpAny_pure (h e b)
theorem Z1 
  (w:A.frames=aA (e0::outer)) (z:s.heap.FunFrames base (e0::outer)) (N:env.frame=aA L) (h0:e0.frame=aA L)
  (ho:s.heap.get? x=aA r) (B:r.cls=stC cls/\r.dict=d) (hd:r.data=.fields vs) (v:vs[0]?=aA a0) (hsz:1<vs.size) (u:∀a,cls=.ref a->vs[2]?=aA .none)
  (h:∀h' t,eI h' x t cls d (cT L)->eD ((e0::outer).filterMap (·.frame)) x T (aA t) s.heap h'->s.heap.objs.size<=t->Q () {s with heap:=h'}) :
  wpAny M A (do let a ←frameOf env;let pl ←entryPlaceOf L U;let b ←DV g a .none (cT L) .none pl;setField (.ref x) 1 b) Q E s:=by
 have q:x∉(e0::outer).filterMap (·.frame):=λK=>by
  obtain⟨_,o,p,H⟩:=z.mem K;rw[ho] at p;cases p;exact H vs hd
 refine wpAny_bind (Uw w z N h0 λf k=>?_);refine wpAny_bind (wpAny_entryPlaceOf λpl m=>?_);unfold DV newFields;refine wpAny_bind (iY ?_ (m.sizeOk5 _ _ _ _ _));have D:f.get? x=aA r:=(k.2.1 x q).trans ho;generalize n:({cls:=.type "traceback",dict:=aE,data:=.fields ([g,.ref L,.none,cT L,.none]++(if pl.isEmpty then ly 6 eX else pl)).toArray}:bA)=l;have C:=bU (h:=f) l D;have j:l.data=.fields ([g,.ref L,.none,cT L,.none]++(if pl.isEmpty then ly 6 eX else pl)).toArray:=by rw[←n]
 have i:l.isFreed=aC:=by rw[←n];rfl
 refine mK C hd hsz ?_;have y:f.objs.size≠x:=ln (bZ D);have F:=Ee hd (·.setIfInBounds 1 (cN f.objs.size));have P:=n5 (hV (·.setIfInBounds 1 (cN f.objs.size))) C (ED F);have c:∀b o,b≠x->f.get? b=aA o->((f.push l).update x (hV (·.setIfInBounds 1 (cN f.objs.size)))).get? b=aA o:=λb o O e=>by
  rw[lE _ _ (b_ O)];exact bU _ e
 refine h _ f.objs.size ⟨_,_,a0,l,_,P,⟨(Obj.cls_mapFields _ _).trans B.1,(Z7 _ _).trans B.2⟩,F,by rw[EG (by decide)];exact v,by simp[hsz],y,?_,j,?_,λa e=>by rw[EG (by decide)];exact u a e⟩ ⟨λb o e I nx _=>?_,λb o e _ nx _=>?_,λt J=>.inr ?_⟩ (lm k.1.symm)
 ·rw[lE _ _ (b_ y)];exact eF _ i
 ·first|(simp;done)|(rcases m with rfl|⟨_,_,_,_,_,_,_,rfl⟩<;>simp)
 ·exact c b o nx ((k.2.1 b I).trans e)
 ·obtain⟨G,R⟩:=k.2.2 b o e;exact⟨G,c b _ nx R⟩
 ·have:t=f.objs.size:=by simpa using J
  rw[this];exact lm k.1.symm
theorem SA 
  (q:A.frames=aA (e0::outer)) (C:s.heap.FunFrames base (e0::outer)) (F:env.frame=aA L) (h0:e0.frame=aA L) (hx:EQ s.heap x cls d T fl) (D:fl=.none\/fl=cT L)
  (h:∀h' t,eI h' x t cls d (cT L)->eD ((e0::outer).filterMap (·.frame)) x T (aA t) s.heap h'->Q () {s with heap:=h'}):wpAny M A (o4 (.ref x) env) Q E s:=by
 unfold o4;simp only[F];cases T with
 |none=>
  obtain⟨⟨J,I,O,m,r,hd,l,f,k⟩,_⟩:=hx;refine wpAny_bind (gO m hd f ?_);rw[if_neg (by decide)];exact Z1 (T:=aE) q C F h0 m r hd l (nY.mp f).1 k λh' t a b _=>h h' t a b
 |some T=>
  obtain⟨J,I,O,R,u,m,r,hd,l,f,N,g,i,H,k⟩:=hx;refine wpAny_bind (gO m hd f ?_);rw[if_pos (show (cN T != eX)=aB from by simp)];refine wpAny_bind (gO g i H ?_);by_cases K:fl=cT L
  ·subst K;rw[if_pos (show (cT L==cT L)=aB from by simp)];exact wpAny_pure (h s.heap T ⟨J,I,O,R,u,m,r,hd,l,f,N,g,i,H,k⟩ (eD.refl _ _ _ _))
  ·obtain rfl:fl=.none:=D.resolve_right K;rw[if_neg (show ¬((eX==cT L)=aB) from by simp[cT])];refine wpAny_bind (mK g i (nY.mp H).1 ?_);have j:∀b,b≠T->(s.heap.update T (hV (·.setIfInBounds 3 eX))).get? b=s.heap.get? b:=λb G=>lE _ _ (b_ G);have fr:∀b∈(e0::outer).filterMap (·.frame),b≠T:=λb G z=>by
    obtain⟨_,o,p,v⟩:=C.mem G;rw[z,g] at p;cases p;exact v u i
   refine Z1 (T:=aA T) (s:={s with heap:=s.heap.update T (hV (·.setIfInBounds 3 eX))}) (base:=base) q (C.of_keeps λb o e v=>⟨o,(j b λz=>?_).trans e,rfl⟩) F h0 ((j x (b_ N)).trans m) r hd l (nY.mp f).1 k λh' t a b c=>h h' t a ⟨?_,?_,?_⟩
   ·rw[z,g] at e;cases e;exact v u i
   ·exact λd o e y w n=>b.keep d o ((j d λz=>n (by simp[z])).trans e) y w n
   ·exact λd o e y w n=>b.slot d o ((j d λz=>n (by simp[z])).trans e) y w n
   ·intro P B;rcases b.newT P B with z|z
    ·exact .inl z
    ·refine .inr (cU (lm ?_) z);exact (Heap.size_after_update ..).symm
theorem Kk(hx:eI s.heap x T cls d fl)
  (h:∀h',eI h' x T cls d (fr.elim .none λf=>cT f)->eD fs x (aA T) (aA T) s.heap h'->Q () {s with heap:=h'}):wpAny M A (mz (.ref x) fr) Q E s:=by
 obtain⟨u,q,C,D,r,l,w,hd,k,c,m,g,i,B,j⟩:=hx;have sz:3<r.size:=(nY.mp B).1;unfold mz;refine wpAny_bind (gO l hd c ?_);rw[if_pos (show (cN T != eX)=aB from by simp)];refine mK g i sz ?_;have a:∀b,b≠T->(s.heap.update T (hV (·.setIfInBounds 3 (fr.elim .none λf=>cT f)))).get? b=s.heap.get? b:=λb y=>lE _ _ (b_ y);have p:=Ee i (·.setIfInBounds 3 (fr.elim eX λf=>cT f))
 exact h _ ⟨u,q,C,_,_,(a x (b_ m)).trans l,w,hd,k,c,m,n5 _ g (ED p),p,by simp[sz],j⟩
  ⟨λb o e _ _ n=>(a b λz=>n (by simp[z])).trans e,λb o e _ _ n=>⟨o.slots,(a b λz=>n (by simp[z])).trans e⟩,λt v=>.inl v⟩
end
end NH
namespace NH
open PySem PySem.Spec PyProof.Rows L2
noncomputable abbrev St:=L2.St
theorem QJ{P:cG}(x:a6 P w H h a o):∃ob,h.get? a=aA ob:=by
 cases o with
 |lst c=>obtain⟨_,_,_,_,e⟩:=x;exact⟨_,e⟩
 |tup c=>obtain⟨_,_,_,ob,e,_⟩:=x;exact⟨ob,e⟩
 |dK b=>obtain⟨_,_,_,_,o,_,_,e,_⟩:=x;exact⟨o,e⟩
 |dE ep b=>obtain⟨_,_,_,_,o,_,e,_⟩:=x;exact⟨o,e⟩
 |set S n=>obtain⟨o,_,_,_,e,_⟩:=x;exact⟨o,e⟩
 |ins C dx fs=>obtain⟨_,_,_,e,_⟩:=x;exact⟨_,e⟩
 |own y=>obtain⟨o,e⟩:=x;exact⟨o,e⟩
 |xd fs=>obtain⟨_,⟨o,_,_,e,_⟩,_⟩:=x;exact⟨o,e⟩
 |rng lo i=>obtain⟨_,_,_,e⟩:=x;exact⟨_,e⟩
 |frz ob u=>obtain⟨e,_⟩:=x;exact⟨_,e⟩
 |tbl g=>exact⟨_,(show h.get? a=aA _ from x)⟩
 |met f y=>exact⟨_,(show h.get? a=aA _ from x)⟩
 |ext d=>obtain⟨_,⟨o,e⟩,_⟩:=x;exact⟨o,e⟩
structure dA(X:Cx)(H:Hp)(b:aF):Prop where
 free:H b=aE
 loc:b≠X.env.locals
 nfs:b∉X.fs
 new:b∈X.ex\/X.s₀.heap.get? b=aE
 cel:∀x c,X.env.cells.lookup x=aA c->c≠b
 pin:∀p∈X.pn,p.1≠b
section
variable {X:Cx}{pins:List (aF×bA)}{σ:St}{H H':Hp}{s:Shared}{h':aV}
theorem JD(I:Inv X pins σ H s)(e:s.heap.get? b=aE):H b=aE:=by
 cases q:H b with
 |none=>rfl
 |some o=>
  obtain⟨a,z⟩:=QJ (I.hok b o q);rw[e] at z;cases z
theorem j3(I:Inv X pins σ H s)(e:s.heap.get? b=aE):dA X H b:=by
 refine⟨JD I e,λz=>?_,λz=>?_,?_,λx c q z=>?_,λp f z=>?_⟩
 ·obtain⟨m,⟨o,_,_,a,_⟩,_⟩:=I.loc;rw[←z,e] at a;cases a
 ·obtain⟨_,o,a,_⟩:=I.funs.mem z;rw[e] at a;cases a
 ·by_cases d:b∈X.ex
  ·exact .inl d
  ·refine .inr ?_;cases q:X.s₀.heap.get? b with
   |none=>rfl
   |some o=>
    obtain⟨g,z⟩:=I.base.there b o q d;rw[e] at z;cases z
 ·obtain⟨v,o,a,_⟩:=I.cell x c q;rw[z,e] at a;cases a
 ·have:=(I.pin p (eK _ f)).1;rw[z,e] at this;cases this
theorem Jn{ch:List aF}(I:Inv X pins σ H s)(a:∀b∈ch,dA X H b/\∀p∈pins,p.1≠b)
  (keep:∀b o,b∉eS X.stack->b∉ch->s.heap.get? b=aA o->h'.get? b=aA o)
  (slot:∀b o,b∈eS X.stack->b∉ch->s.heap.get? b=aA o->∃j,h'.get? b=aA {o with slots:=j}) :
  Inv X pins σ H {s with heap:=h'}:=by
 have J:∀b u,H b=aA u->b∉ch:=λb u e z=>by rw[(a b z).1.free] at e;cases e
 have w:∀b u,H b=aA u->b∉eS X.stack:=λb u e z=>by rw[I.stkFree b z] at e;cases e
 have any:∀b o,b∉ch->s.heap.get? b=aA o->∃j,h'.get? b=aA {o with slots:=j}:=λb o t e=>by
  by_cases N:b∈eS X.stack
  ·exact slot b o N t e
  ·exact⟨o.slots,keep b o N t e⟩
 have y:∀b,b≠X.env.locals->b∉X.fs->b∉eS X.stack:=λb V U z=>(cA.mp (I.stkSub b z)).elim V U;have h:∀b o,X.s₀.heap.get? b=aA o->b∉X.ex->b∉ch:=λb o e f z=>by
  rcases (a b z).1.new with q|q
  ·exact f q
  ·rw[e] at q;cases q
 have E:∀b o,X.s₀.heap.get? b=aA o->b≠X.env.locals:=λb o e=>dP (cY (bZ e) I.ok.above);have g:∀x c,X.env.cells.lookup x=aA c->∀v,s.heap.IsCell c v->h'.IsCell c v:=λx c e v ⟨o,G,hd⟩=>by
  obtain⟨j,q⟩:=any c o (λz=>(a c z).1.cel x c e rfl) G;exact⟨_,q,hd⟩
 refine⟨I.ok,I.os,I.bare,⟨λb o e n t f=>?_,λb o e n t f=>?_,λb o e n f=>I.base.free b o e n f,λb o e f=>?_,λb C e=>I.base.tups b C e,λb o C e=>I.base.frzs b o C e,λb P e=>I.base.tbls b P e⟩,?_,λx c e=>?_,I.free,λx c e=>I.freeC x c e,λp M=>?_,λb u e=>?_,I.len⟩
 ·exact keep b o (y b (E b o e) t) (h b o e f) (I.base.keep b o e n t f)
 ·obtain⟨j,B⟩:=I.base.slot b o e n t f;obtain⟨D,A⟩:=any b _ (h b o e f) B;exact⟨D,A⟩
 ·obtain⟨Q,B⟩:=I.base.there b o e f;obtain⟨j,A⟩:=any b Q (h b o e f) B;exact⟨_,A⟩
 ·obtain⟨m,⟨o,es,ep,G,r⟩,R⟩:=I.loc;obtain⟨j,T⟩:=any X.env.locals o (λz=>(a _ z).1.loc rfl) G;refine⟨m,⟨_,es,ep,T,r⟩,λi x v B A W=>?_⟩;obtain⟨u,O,l⟩:=R i x v B A W;refine⟨u,O,?_⟩;rcases l with l|⟨k,c,e,z⟩
  ·exact .inl l
  ·exact .inr ⟨k,c,e,g x c e _ z⟩
 ·obtain⟨v,z⟩:=I.cell x c e;exact⟨v,g x c e v z⟩
 ·obtain⟨e,n,L,K,d⟩:=I.pin p M;have F:p.1∉ch:=λz=>by
   rcases cH.mp M with q|q
   ·exact (a p.1 z).1.pin p q rfl
   ·exact (a p.1 z).2 p q rfl
  exact⟨keep p.1 p.2 (y p.1 L K) F e,n,L,K,d⟩
 ·refine (I.hok b u e).stay (λc v S q=>?_) (λ_ q=>q) λ_ _ q=>q;rcases S with z|z
  ·subst z;exact keep c v (w c u e) (J c u e) q
  ·exact keep c v (w c _ z) (J c _ z) q
structure iR(X:Cx)(e0:Env)(out:List Env)(L:aF):Prop where
 stk:X.stack=e0::out
 f0:e0.frame=aA L
 fe:X.env.frame=aA L
noncomputable abbrev XW:=aD->Option aF->St->Hp->Prop
inductive XP(X:Cx)(W:XW)(e:aD)(s:Shared):Prop where
 |mk (x:aF) (cls:aD) (d:Option aF) (σ:St) (H:Hp) (T:Option aF) (fl:aD) (ee:e=.ref x) (i:Inv X [] σ H s) (ox:dA X H x) (ot:∀t∈T.toList,dA X H t) (r:EQ s.heap x cls d T fl) (hf:fl=.none\/∃L,X.env.frame=aA L/\fl=cT L) (w:W cls d σ H)
theorem Y8{T:Option aF}(I:Inv X [] σ H s)(ox:dA X H x)(ot:∀t∈T.toList,dA X H t)(c:eD (eS X.stack) x T (aA t) s.heap h') :
  Inv X [] σ H {s with heap:=h'}/\dA X H t:=by
 refine⟨Jn (ch:=x::T.toList) I (λb g=>⟨?_,λp f=>absurd f (by simp)⟩) (λb o d a e=>?_) (λb o d a e=>?_),?_⟩
 ·rcases cA.mp g with z|z
  ·rw[z];exact ox
  ·exact ot b z
 ·exact c.keep b o e d (λz=>a (by simp[z])) (λz=>a (d9 _ z))
 ·exact c.slot b o e d (λz=>a (by simp[z])) (λz=>a (d9 _ z))
 ·rcases c.newT t (by simp) with z|z
  ·exact ot t z
  ·exact j3 I (lD z)
theorem uo{W:XW}(F:iR X e0 out L)(b:A.frames=aA X.stack)(p:XP X W e s)
  (h:∀x cls d σ H T h',e=.ref x->Inv X [] σ H {s with heap:=h'}->dA X H x->dA X H T->eI h' x T cls d (cT L)->W cls d σ H->Q () {s with heap:=h'}):wpAny M A (o4 e X.env) Q E s:=by
 obtain⟨x,cls,d,σ,H,T,fl,rfl,I,g,k,n,f,w⟩:=p;have a:=I.stack;rw[F.stk] at b a;refine SA b a F.fe F.f0 n (f.imp_right λ⟨r,i,o⟩=>by rw[F.fe] at i;cases i;exact o) λh' t j m=>?_;have c:eD (eS X.stack) x T (aA t) s.heap h':=by rw[F.stk];exact m
 obtain⟨q,l⟩:=Y8 I g k c;exact h x cls d σ H t h' rfl q g l j w
theorem wz(I:Inv X [] σ H s)(ox:dA X H x)(c:dA X H T)(b:eI s.heap x T cls d fl)
  (h:∀h',Inv X [] σ H {s with heap:=h'}->eI h' x T cls d (fr.elim .none λf=>cT f)->Q () {s with heap:=h'}):wpAny M A (mz (.ref x) fr) Q E s:=by
 refine Kk (fs:=eS X.stack) b λh' a e=>h h' (Y8 (T:=aA T) I ox (λt g=>?_) e).1 a;have:t=T:=by simpa using g
 rw[this];exact c
theorem ye{W:XW}(F:iR X e0 out L)(f:X.A.frames=aA X.stack):nt M X.A X.env (XP X W):=by
 intro e s p;unfold notedBy;refine uo F f p λx cls d k H T j ee I h i g w=>?_;subst ee;unfold cameBackBy;obtain⟨z,v,G,l,y,q,B,hd,m,c,C,o,r,D,_⟩:=id g;refine wpAny_bind (gO q hd c ?_);rw[if_neg (show ¬((cN T==eX)=aB) from by simp)];rw[F.fe]
 have go:wpAny M X.A (mz (.ref x) (aA L)) (λ_ b=>XP X W (.ref x) b) (XP X W) {s with heap:=j}:=
  wz (s:={s with heap:=j}) I h i g λE u a=>⟨x,cls,d,k,H,aA T,cT L,rfl,u,h,λt n=>by
   have:t=T:=by simpa using n
   rw[this];exact i,a,.inr ⟨L,F.fe,rfl⟩,w⟩
 first|exact go|exact wpAny_bind (wpAny_pure go)
inductive T4(P:Program)(w:World)(outer:List Env)(H:Hp)(s:Shared)(E:XK)(e:aD)(s':Shared):Prop where
 |mk (x T:aF) (cls:aD) (d:Option aF) (H':Hp) (ee:e=.ref x) (o:s'.os=s.os) (b:iT s'.gens) (n:Un (eS outer) [] H H' s.heap s'.heap) (k:dR P w H' s'.heap) (h1:s.heap.get? x=aE) (h2:s.heap.get? T=aE) (h3:H' x=aE) (h4:H' T=aE) (t:eI s'.heap x T cls d .none) (q:E cls d H')
noncomputable def cW (P:cG)(w:dL):mw:=T4 P w
noncomputable def eW (E:XK):XW:=λc d _ H=>E c d H
theorem Jp(F:iR X e0 out L)(j:X.A.frames=aA X.stack)(a:X.ex=[])(p:XP X (eW E) e s) :
  wpAny M X.A (oZ X.env e) (λ_ g=>cW X.prog X.w X.outer X.H₀ X.s₀ E e g) F2 s:=by
 unfold oZ;refine wpAny_bind (uo F j p λx cls d n H T m ee I h i l w=>?_);subst ee;refine wz (s:={s with heap:=m}) I h i l λq c f=>?_;have k:∀b,dA X H b->X.s₀.heap.get? b=aE:=λb o=>o.new.resolve_left (by rw[a];simp);refine⟨x,T,cls,d,H,rfl,c.os,c.bare,?_,c.hok,k x h,k T i,h.free,i.free,f,w⟩;have:=c.base;rw[a] at this;exact this
theorem uq{W:XW}(I:Inv X pins σ H s)(c:cW X.prog X.w X.stack H s E e j)(h:∀cls d H',E cls d H'->W cls d σ H'):XP X W e j:=by
 obtain⟨x,T,cls,d,H',rfl,os,a,un,g,nx,l,fx,q,i,w⟩:=c;have J:Inv X pins σ H' j:=I.call' (ch:=[]) os un g a λb z=>absurd z (by simp);have k:∀b,s.heap.get? b=aE->H' b=aE->dA X H' b:=λb e f=>by
  have o:=j3 I e;exact⟨f,o.loc,o.nfs,o.new,o.cel,o.pin⟩
 refine⟨x,cls,d,σ,H',aA T,.none,rfl,J.pins_of (λp n=>absurd n (by simp)),k x nx fx,λt m=>?_,i,.inl rfl,h cls d H' w⟩;have:t=T:=by simpa using m
 rw[this];exact k T l q
theorem OH{W:XW}{args:List aD}(I:Inv X pins σ H s)(mk:nF s.heap h2 x (.ref C) args)(w:W (.ref C) aE σ H):XP X W (.ref x) {s with heap:=h2}:=by
 have J:Inv X pins σ H {s with heap:=h2,toks:=s.toks}:=I.kept mk.keeps;obtain⟨t,c,_,_⟩:=mk.there;exact⟨x,.ref C,aE,σ,H,aE,.none,rfl,J.pins_of (λp b=>absurd b (by simp)),j3 I mk.new,λt a=>absurd a (by simp),⟨⟨_,_,.ref t,c,⟨rfl,rfl⟩,rfl,rfl,rfl,λ_ _=>rfl⟩,rfl⟩,.inl rfl,w⟩
noncomputable abbrev Cx.pin'(X:Cx)(pins:List (aF×bA)):Cx:={X with pn:=X.pn++pins}
noncomputable abbrev Cx.han(X:Cx)(x:aF):Cx:={X with A:=X.A.mark (aA (.ref x)),calm:=aC,xe:=λ_ _=>False}
theorem Hm(ok:X.Ok):(Cx.pin' X pins).Ok:=⟨ok.mod,ok.kind,ok.glob,ok.blt,ok.above,ok.inj,ok.has,ok.cab,ok.hd,ok.frames,ok.stk,ok.exf,ok.bs,ok.bsz,ok.noex,ok.exfs,ok.funs,ok.frf⟩
theorem JB(ok:(Cx.pin' X pins).Ok):X.Ok:=⟨ok.mod,ok.kind,ok.glob,ok.blt,ok.above,ok.inj,ok.has,ok.cab,ok.hd,ok.frames,ok.stk,ok.exf,ok.bs,ok.bsz,ok.noex,ok.exfs,ok.funs,ok.frf⟩
theorem Ot(ok:X.Ok):(Cx.han X x).Ok:=⟨ok.mod,ok.kind,ok.glob,ok.blt,ok.above,ok.inj,ok.has,ok.cab,(λh=>by cases h),ok.frames,ok.stk,ok.exf,ok.bs,ok.bsz,ok.noex,ok.exfs,ok.funs,ok.frf⟩
theorem Vy(I:Inv X pins σ H s):Inv (Cx.pin' X pins) [] σ H s:=⟨Hm I.ok,I.os,I.bare,I.base,I.loc,I.cell,I.free,I.freeC,λp a=>I.pin p (by simpa using a),I.hok,I.len⟩
theorem qm(I:Inv (Cx.pin' X pins) [] σ H s):Inv X pins σ H s:=⟨JB I.ok,I.os,I.bare,I.base,I.loc,I.cell,I.free,I.freeC,λp a=>I.pin p (by simpa using a),I.hok,I.len⟩
theorem V9(I:Inv X pins σ H s):Inv (Cx.han X x) pins σ H s:=⟨Ot I.ok,I.os,I.bare,I.base,I.loc,I.cell,I.free,I.freeC,I.pin,I.hok,I.len⟩
theorem yq(ok:X.Ok)(I:Inv (Cx.han X x) pins σ H s):Inv X pins σ H s:=⟨ok,I.os,I.bare,I.base,I.loc,I.cell,I.free,I.freeC,I.pin,I.hok,I.len⟩
theorem jT{W:XW}(p:XP (X.wish E) W e s):XP X W e s:=by
 obtain⟨x,cls,d,f,H,T,fl,a,I,b,c,r,h,g⟩:=p;exact⟨x,cls,d,f,H,T,fl,a,I.unwish,⟨b.free,b.loc,b.nfs,b.new,b.cel,b.pin⟩,λt i=>let b:=c t i;⟨b.free,b.loc,b.nfs,b.new,b.cel,b.pin⟩,r,h,g⟩
end
end NH
namespace NH
open PySem
inductive T where
 |non|bl (b:Bool)|int (i:Int)|str (x:aG)
 |tup (ts:List T)|lst (ts:List T)|obj (c:Nat) (fs:List (Nat×T))
 |mut (i:Nat)
 |exc (c:Nat) (fs:List (Nat×T))
 |dic (kvs:List (L2.Key×T))
 |clo (j:Nat) (cs:List T)
inductive MO where
 |lst (ts:List T)|obj (c:Nat) (fs:List (Nat×T))|dic (kvs:List (L2.Key×T))
 |tab (j:Nat)|dct (ks:List (Int×Int))|frd (ep:Nat) (kvs:List (L2.Key×T))
noncomputable abbrev F_:MO->Bool
 |.tab _=>aB
 |_=>aC
noncomputable abbrev aK:=List MO
noncomputable abbrev Sl:=List (Option T)
mutual
def jI:T->Bool
 |.mut _=>aC
 |.tup a=>Zw a
 |.lst a=>Zw a
 |.obj _ fs=>yO fs
 |.exc _ fs=>yO fs
 |.dic b=>Y3 b
 |.clo _ cs=>Zw cs
 |_=>aB
def Zw:List T->Bool
 |[]=>aB
 |t::r=>jI t&&Zw r
def yO:List (Nat×T)->Bool
 |[]=>aB
 |p::r=>jI p.2&&yO r
def Y3:List (L2.Key×T)->Bool
 |[]=>aB
 |p::r=>jI p.2&&Y3 r
end
noncomputable abbrev Xp:=Nat->List (Nat×T)->aK->Prop
noncomputable abbrev RE(β:Type):=(β->aK->Prop)->Xp->Prop
noncomputable abbrev RE.ok{β:Type}(a:β)(μ:aK):RE β:=λK _=>K a μ
noncomputable abbrev RE.st{β:Type}:RE β:=λ_ _=>False
noncomputable abbrev RE.bind{β b:Type}(r:RE b)(k:b->aK->RE β):RE β:=λK Z=>r (λa μ=>k a μ K Z) Z
noncomputable abbrev RE.grd{β:Type}(p:Prop)(r:RE β):RE β:=λK Z=>p/\r K Z
noncomputable abbrev RE.som{β b:Type}(o:Option b)(k:b->RE β):RE β:=λK Z=>∃a,o=aA a/\k a K Z
@[reducible] noncomputable def ib(b:Bool)(A B:Prop):Prop:=match b with
 |true=>A
 |false=>B
noncomputable abbrev RE.br{β:Type}(b:Bool)(r s:RE β):RE β:=λK Z=>ib b (r K Z) (s K Z)
structure En where
 nx:Sl->aK->Prop
 rt:T->aK->Prop
 bk:Sl->aK->Prop
 ct:Sl->aK->Prop
 ex:Nat->List (Nat×T)->Sl->aK->Prop
noncomputable abbrev cP:=En->Prop
noncomputable abbrev En.nxt(E:En)(f:Sl->aK->Prop):En:=⟨f,E.rt,E.bk,E.ct,E.ex⟩
noncomputable abbrev En.turn(E:En)(N:Sl->aK->Prop):En:=⟨N,E.rt,E.nx,N,E.ex⟩
noncomputable abbrev En.tri(E:En)(X:Nat->List (Nat×T)->Sl->aK->Prop):En:=⟨E.nx,E.rt,E.bk,E.ct,X⟩
noncomputable abbrev En.fn(K:T->aK->Prop)(Z:Xp):En:=⟨λ_ a=>K .non a,K,λ_ _=>False,λ_ _=>False,λc fs _ a=>Z c fs a⟩
noncomputable abbrev cP.nx(τ:Sl)(μ:aK):cP:=λE=>E.nx τ μ
noncomputable abbrev cP.rt(t:T)(μ:aK):cP:=λE=>E.rt t μ
noncomputable abbrev cP.ex(c:Nat)(fs:List (Nat×T))(τ:Sl)(μ:aK):cP:=λE=>E.ex c fs τ μ
noncomputable abbrev cP.st:cP:=λ_=>False
noncomputable abbrev cP.grd(p:Prop)(o:cP):cP:=λE=>p/\o E
noncomputable abbrev cP.som{b:Type}(o:Option b)(k:b->cP):cP:=λE=>∃a,o=aA a/\k a E
noncomputable abbrev cP.br(b:Bool)(r s:cP):cP:=λE=>ib b (r E) (s E)
noncomputable abbrev cP.seq(o:cP)(f:Sl->aK->cP):cP:=λE=>o (E.nxt λτ μ=>f τ μ E)
noncomputable abbrev RE.out{β:Type}(r:RE β)(τ:Sl)(f:β->aK->cP):cP:=λE=>r (λa μ=>f a μ E) (λc fs μ=>E.ex c fs τ μ)
noncomputable abbrev Fn:=List T->aK->RE T
noncomputable abbrev De:=Sl->aK->RE T
noncomputable abbrev Dt:=Sl->aK->RE Bool
noncomputable abbrev Da:=Sl->aK->RE (List T)
noncomputable abbrev Ds:=Sl->aK->cP
noncomputable abbrev RI:=(List T->(aK->Prop)->aK->Prop)->Xp->Prop
noncomputable abbrev RI.ok(xs:List T)(o:aK->Prop)(μ:aK):RI:=λK _=>K xs o μ
noncomputable abbrev RI.st:RI:=λ_ _=>False
noncomputable abbrev RI.grd(p:Prop)(r:RI):RI:=λK Z=>p/\r K Z
noncomputable abbrev RI.go{β:Type}(r:RI)(k:List T->(aK->Prop)->aK->RE β):RE β:=λK Z=>r (λxs o μ=>k xs o μ K Z) Z
noncomputable abbrev RI.out(r:RI)(τ:Sl)(f:List T->(aK->Prop)->aK->cP):cP:=λE=>r (λxs o μ=>f xs o μ E) (λc fs μ=>E.ex c fs τ μ)
noncomputable abbrev RI.re(r:RI):RE (List T×(aK->Prop)):=λK Z=>r (λxs o μ=>K (xs,o) μ) Z
noncomputable abbrev RE.it{β:Type}(r:RE β)(k:β->aK->RI):RI:=λK Z=>r (λa μ=>k a μ K Z) Z
noncomputable abbrev Di:=Sl->aK->RI
abbrev gD:aK->Prop:=λ_=>True
abbrev iN(i:Nat)(xs:List T):aK->Prop:=λa=>a[i]?=aA (.lst xs)
structure bN where
 jt:Nat
 qn:aG
 y:aG
 body:aI
 sc:Scope
 fr:List aG
 g:De
 sb:Option (aG×List bC)
noncomputable abbrev YL(j jt:Nat)(ts:List T):T:=.clo (300+j) (.clo (100+jt) []::ts.map λt=>.clo 200 [t])
inductive GM where
 |fn (f:Fn)
 |fnh (nm:aG) (f:Fn)
 |met (c:Nat) (nm:aG) (f:Fn)
 |mk (c:Nat) (frozen:Bool) (f:Fn)
 |cst (t:T)
 |xcl (c:Nat)
 |xcf (c:Nat) (f:Nat)
 |xbt (c:Nat) (n:String)
 |xin (c f:Nat) (nm fl:aG)
 |mkd (c:Nat) (nm:aG) (n:Nat) (f:Fn)
 |metd (c:Nat) (nm:aG) (n:Nat) (d:T) (f:Fn)
 |kpr
 |kap (ls:List bN)
 |tbl (kvs:List (aG×Int))
 |none
 |bad
noncomputable abbrev Qx(τ:Sl):Nat->Option T:=gy (motive:=λ_=>Nat->Option T) (λ_=>aE) (λo _ a i=>oY (motive:=λ_=>Option T) o (λn _=>a n) i) τ
noncomputable abbrev jZ(τ:Sl):Nat->Option T->Sl:=gy (motive:=λ_=>Nat->Option T->Sl) (λ_ _=>[]) (λo r a i t=>oY (motive:=λ_=>Sl) (t::r) (λn _=>o::a n t) i) τ
theorem uA:∀{τ:Sl}{i:Nat}{t:T},Qx τ i=aA t↔τ[i]?=aA (aA t)
 |[],_,_=>by simp
 |o::r,0,t=>by show o=aA t↔_;simp
 |o::r,n+1,t=>by
  show Qx r n=aA t↔_;rw[uA (τ:=r) (i:=n)];simp
theorem xT:∀{τ:Sl}{i:Nat}{t:Option T},jZ τ i t=τ.set i t
 |[],_,_=>by simp
 |o::r,0,t=>rfl
 |o::r,n+1,t=>by
  show o::jZ r n t=_;rw[xT (τ:=r) (i:=n)];simp
noncomputable abbrev Jx(fs:List (Nat×T)):Nat->Option T:=gy (motive:=λ_=>Nat->Option T) (λ_=>aE) (λp _ a i=>o8 (motive:=λ_=>Option T) (a i) (aA p.2) (fK p.1 i)) fs
noncomputable abbrev Yu(f:Nat)(v:T)(fs:List (Nat×T)):List (Nat×T):=gy (motive:=λ_=>List (Nat×T)) [(f,v)] (λp r a=>o8 (motive:=λ_=>List (Nat×T)) (p::a) ((p.1,v)::r) (fK p.1 f)) fs
theorem U4:Jx (p::r) i=match fK p.1 i with
  |true=>aA p.2
  |false=>Jx r i:=by
 show (o8 (Jx r i) (aA p.2) (fK p.1 i):Option T)=_;cases fK p.1 i<;>rfl
theorem Yd:Yu f v (p::r)=match fK p.1 f with
  |true=>(p.1,v)::r
  |false=>p::Yu f v r:=by
 show (o8 (p::Yu f v r) ((p.1,v)::r) (fK p.1 f):List (Nat×T))=_;cases fK p.1 f<;>rfl
noncomputable def cD:List aG->aG->Option Nat
 |[],_=>aE
 |y::r,x=>if y=x then aA 0 else (cD r x).map (·+1)
noncomputable abbrev HD:T->aK->Option Nat
 |.non,_=>aA 0
 |.bl _,_=>aA 1
 |.int _,_=>aA 2
 |.str _,_=>aA 3
 |.tup _,_=>aA 4
 |.lst _,_=>aA 5
 |.dic _,_=>aA 6
 |.exc c _,_=>aA c
 |.obj c _,_=>aA c
 |_,_=>aE
noncomputable abbrev HC:MO->Nat
 |.lst _=>5
 |.obj c _=>c
 |.dic _=>6
 |.tab _=>99
 |.dct _=>6
 |.frd _ _=>6
noncomputable abbrev rk(a b:Bool):Bool:=match a with
 |true=>b
 |false=>aC
noncomputable abbrev mi(a b:Bool):Bool:=match a with
 |true=>aB
 |false=>b
noncomputable abbrev vZ(a c:Nat):Bool:=mi (fK a c) (mi (rk (fK a 1) (fK c 2)) (rk (oX 10 a) (rk (oX a 39) (mi (fK c 11) (rk (fK c 10) (oX 12 a))))))
noncomputable abbrev cI(t:Nat)(cs:List Nat):Bool:=gy (motive:=λ_=>Bool) aC (λc _ a=>mi (vZ t c) a) cs
theorem ko:cI t (c::r)=mi (vZ t c) (cI t r):=rfl
noncomputable def big:Int:=18446744073709551616
noncomputable def aQ:Nat:=1000000
noncomputable abbrev A5:T->T->aK->RE T
 |.int i,.int j,a=>.ok (.int (i+j)) a
 |.str x,.str y,a=>.grd (x.length+y.length<=aQ) (.ok (.str (x++y)) a)
 |.lst c,.lst b,a=>.grd (c.length+b.length<=aQ) (.ok (.lst (c++b)) a)
 |.tup c,.tup b,a=>.grd (c.length+b.length<=aQ) (.ok (.tup (c++b)) a)
 |.mut i,.lst b,a=>λK _=>∃c,a[i]?=aA (.lst c)/\c.length+b.length<=aQ/\K (.lst (c++b)) a
 |.lst c,.mut j,a=>λK _=>∃b,a[j]?=aA (.lst b)/\c.length+b.length<=aQ/\K (.lst (c++b)) a
 |.mut i,.mut j,a=>λK _=>∃p:List T×List T,(a[i]?=aA (.lst p.1)/\a[j]?=aA (.lst p.2))/\p.1.length+p.2.length<=aQ/\K (.lst (p.1++p.2)) a
 |_,_,_=>.st
noncomputable abbrev Vh(f:Int->Int->aK->RE T):T->T->aK->RE T
 |.int i,.int j,a=>f i j a
 |_,_,_=>.st
noncomputable abbrev F7:Operator->T->T->aK->RE T
 |.Add=>A5
 |.Sub=>Vh λi j a=>.ok (.int (i-j)) a
 |.Mult=>Vh λi j a=>.grd ((-big<i/\i<big)\/(-big<j/\j<big)) (.ok (.int (i*j)) a)
 |.FloorDiv=>Vh λi j a=>.grd (0<j/\j<1606938044258990275541962092341162602522202993782792835301376) (.ok (.int (i / j)) a)
 |.Mod=>Vh λi j a=>.grd (0<j) (.ok (.int (i % j)) a)
 |.Pow=>Vh λi j a=>.grd (0<=j/\j<=1000000/\i.natAbs<18446744073709551616) (.ok (.int (i ^ j.toNat)) a)
 |.RShift=>Vh λi j a=>.grd (0<=j) (.ok (.int (i / 2 ^ j.toNat)) a)
 |.BitAnd=>Vh λi j a=>.ok (.int (Dw i j)) a
 |_=>λ_ _ _=>.st
mutual
def eqT:T->T->Option Bool
 |.int i,b=>match b with
  |.int j=>aA (i==j)
  |.bl k=>aA (i==(if k then 1 else 0))
  |.str _=>aA aC
  |.non=>aA aC
  |.tup _=>aA aC
  |.lst _=>aA aC
  |_=>aE
 |.bl k,b=>match b with
  |.int j=>aA ((if k then 1 else 0)==j)
  |.bl j=>aA (k==j)
  |.str _=>aA aC
  |.non=>aA aC
  |.tup _=>aA aC
  |.lst _=>aA aC
  |_=>aE
 |.str x,b=>match b with
  |.str y=>aA (x==y)
  |.int _=>aA aC
  |.bl _=>aA aC
  |.non=>aA aC
  |.tup _=>aA aC
  |.lst _=>aA aC
  |_=>aE
 |.non,b=>match b with
  |.non=>aA aB
  |.int _=>aA aC
  |.bl _=>aA aC
  |.str _=>aA aC
  |.tup _=>aA aC
  |.lst _=>aA aC
  |_=>aE
 |.tup c,b=>match b with
  |.tup a=>cK c a
  |.non=>aA aC
  |.int _=>aA aC
  |.bl _=>aA aC
  |.str _=>aA aC
  |.lst _=>aA aC
  |_=>aE
 |.lst c,b=>match b with
  |.lst a=>cK c a
  |.non=>aA aC
  |.int _=>aA aC
  |.bl _=>aA aC
  |.str _=>aA aC
  |.tup _=>aA aC
  |_=>aE
 |_,_=>aE
def cK:List T->List T->Option Bool
 |[],[]=>aA aB
 |[],_::_=>aA aC
 |_::_,[]=>aA aC
 |x::d,y::c=>match eqT x y,cK d c with
  |some a,aA b=>aA (a&&b)
  |_,_=>aE
end
mutual
def xx:T->Nat
 |.tup a=>w_ a+1
 |.lst a=>w_ a+1
 |_=>0
def w_:List T->Nat
 |[]=>0
 |t::r=>max (xx t) (w_ r)
end
noncomputable abbrev BH:T->T->Option Bool
 |.non,.non=>aA aB
 |.non,.int _=>aA aC|.int _,.non=>aA aC|.non,.bl _=>aA aC|.bl _,.non=>aA aC|.non,.str _=>aA aC|.str _,.non=>aA aC
 |.int i,.int j=>aA (decide (i=j))|.bl i,.bl j=>aA (decide (i=j))|.str i,.str j=>aA (decide (i=j))
 |.int _,.str _=>aA aC|.str _,.int _=>aA aC|.bl _,.str _=>aA aC|.str _,.bl _=>aA aC
 |_,_=>aE
noncomputable abbrev rV(x y:T)(μ:aK)(k:Bool->RE T):RE T:=match x,y with
 |.tup a,.tup c=>.grd (w_ a<=40) (.som (cK a c) k)
 |.lst a,.lst c=>.grd (w_ a<=40) (.som (cK a c) k)
 |.mut i,.lst c=>λK Z=>∃a,μ[i]?=aA (.lst a)/\RE.grd (w_ a<=40) (.som (cK a c) k) K Z
 |.lst a,.mut j=>λK Z=>∃c,μ[j]?=aA (.lst c)/\RE.grd (w_ a<=40) (.som (cK a c) k) K Z
 |.mut i,.mut j=>λK Z=>∃p:List T×List T,(μ[i]?=aA (.lst p.1)/\μ[j]?=aA (.lst p.2))/\RE.grd (w_ p.1<=40) (.som (cK p.1 p.2) k) K Z
 |x,y=>match BH x y with
  |some b=>k b
  |none=>.st
noncomputable def cZ:List T->Option (List Int)
 |[]=>aA []
 |.int i::r=>(cZ r).map (i::·)
 |_::_=>aE
noncomputable abbrev HJ(x y:T)(k:Bool->RE T):RE T:=match x,y with
 |.int i,.int j=>k (decide (i<j))
 |.tup d,.tup c=>.som (cZ d) λe=>.som (cZ c) λf=>k (HT.lexLt e f)
 |.str a,.str b=>k (decide (a.cps.toList<b.cps.toList))
 |_,_=>.st
noncomputable abbrev Qc(op:eO)(x y:T)(μ:aK):RE T:=
 match op with
 |.Eq=>rV x y μ λb=>.ok (.bl b) μ
 |.NotEq=>rV x y μ λb=>.ok (.bl (!b)) μ
 |.Lt=>HJ x y λb=>.ok (.bl b) μ
 |.LtE=>match x,y with|.int i,.int j=>.ok (.bl (decide (i<=j))) μ|_,_=>.st
 |.Gt=>match x,y with|.int i,.int j=>.ok (.bl (decide (j<i))) μ|_,_=>.st
 |.GtE=>match x,y with|.int i,.int j=>.ok (.bl (decide (j<=i))) μ|_,_=>.st
 |.Is=>(match y with
  |.non=>.ok (.bl (match x with|.non=>aB|_=>aC)) μ
  |.bl b=>(match x with|.bl a=>.ok (.bl (decide (a=b))) μ|_=>.st)
  |_=>.st)
 |.IsNot=>(match y with
  |.non=>.ok (.bl (match x with|.non=>aC|_=>aB)) μ
  |.bl b=>(match x with|.bl a=>.ok (.bl (!decide (a=b))) μ|_=>.st)
  |_=>.st)
 |.In=>(match x,y with|.str i,.str j=>.ok (.bl (!(nV j i 0 j.length 1).isEmpty)) μ|_,_=>.st)
 |.NotIn=>(match x,y with|.str i,.str j=>.ok (.bl (!(!(nV j i 0 j.length 1).isEmpty))) μ|_,_=>.st)
noncomputable abbrev yc:T->aK->RE Bool
 |.bl b,a=>.ok b a
 |_,_=>.st
noncomputable abbrev eC(t:T):De:=λ_ a=>.ok t a
noncomputable abbrev eV(i:Nat):De:=λa b=>match Qx a i with
 |some t=>.ok t b
 |none=>.st
noncomputable abbrev zh(op:Operator)(f g:De):De:=λc d=>(f c d).bind λx b=>(g c b).bind λy a=>F7 op x y a
noncomputable abbrev ET(f:De):De:=λb c=>(f b c).bind λx a=>match x with|.int i=>.ok (.int (-i)) a|_=>.st
noncomputable abbrev Bj(f:De):De:=λc d=>(f c d).bind λx a=>match x with|.bl b=>.ok (.bl (!b)) a|_=>.st
noncomputable abbrev u9(f g:De):De:=λc d=>(f c d).bind λx a=>match x with|.bl b=>.br b (g c a) (.ok (.bl aC) a)|_=>.st
noncomputable abbrev HS(f g:De):De:=λc d=>(f c d).bind λx a=>match x with|.bl b=>.br b (.ok (.bl aB) a) (g c a)|_=>.st
noncomputable abbrev zE(op:eO)(f g:De):De:=λc d=>(f c d).bind λx b=>(g c b).bind λy a=>Qc op x y a
noncomputable abbrev Tw(op:eO)(d:Bool)(e:T->Sl->aK->RE T)(x y:T)(τ:Sl)(c:aK):RE T:=match d with
 |true=>Qc op x y c
 |false=>(Qc op x y c).bind λk a=>match k with
  |.bl b=>.br b (e y τ a) (.ok (.bl aC) a)
  |_=>.st
noncomputable abbrev oA(ps:List (eO×De)):T->Sl->aK->RE T:=gy (motive:=λ_=>T->Sl->aK->RE T) (λ_ _ _=>.st) (λp r d x b c=>(p.2 b c).bind λy a=>Tw p.1 r.isEmpty d x y b a) ps
noncomputable abbrev mV(f:De)(ps:List (eO×De)):De:=λb c=>(f b c).bind λx a=>oA ps x b a
noncomputable abbrev tE(f:De):Dt:=λa b=>(f a b).bind yc
noncomputable abbrev xm(f g:Dt):Dt:=λc d=>(f c d).bind λb a=>.br b (g c a) (.ok aC a)
noncomputable abbrev fO(f g:Dt):Dt:=λc d=>(f c d).bind λb a=>.br b (.ok aB a) (g c a)
noncomputable abbrev qW(f:Dt):Dt:=λc d=>(f c d).bind λb a=>.ok (!b) a
noncomputable abbrev oJ(c:Dt)(f g:De):De:=λd e=>(c d e).bind λb a=>.br b (f d a) (g d a)
noncomputable abbrev Za(t:T)(f:Nat)(μ:aK):RE T:=match t with
 |.obj _ fs=>(match Jx fs f with|some v=>.ok v μ|none=>.st)
 |.mut i=>λK _=>∃c fs v,μ[i]?=aA (.obj c fs)/\Jx fs f=aA v/\K v μ
 |_=>.st
noncomputable abbrev ze(f:De)(n:Nat):De:=λb c=>(f b c).bind λt a=>Za t n a
noncomputable def oo(n:Nat)(i:Int):Option Nat:=if 0<=i then (if i<n then aA i.toNat else aE) else if -(n:Int)<=i then aA (i+n).toNat else aE
noncomputable def vY {α:Type}(xs:List α)(i:Int):Option α:=(oo xs.length i).bind λj=>xs[j]?
noncomputable abbrev Gq(t i:T)(μ:aK):RE T:=match i with
 |.int k=>(match t with
  |.lst a=>.som (vY a k) λv=>.ok v μ
  |.tup a=>.som (vY a k) λv=>.ok v μ
  |.mut j=>λK _=>∃a v,μ[j]?=aA (.lst a)/\vY a k=aA v/\K v μ
  |.str z=>.grd (z.length<=aQ) (.som (vY z.cps.toList k) λc=>.ok (.str ⟨#[c]⟩) μ)
  |_=>.st)
 |_=>.st
noncomputable abbrev bD(f g:De):De:=λc d=>(f c d).bind λx b=>(g c b).bind λy a=>Gq x y a
noncomputable def rn(n d:Nat):Option Int->Nat
 |none=>d
 |some v=>if v<0 then (v+(n:Int)).toNat else min v.toNat n
noncomputable def Qg {α:Type}(xs:List α)(lo a:Option Int):List α:=(xs.drop (rn xs.length 0 lo)).take (rn xs.length xs.length a-rn xs.length 0 lo)
noncomputable abbrev Dp:=Sl->aK->RE (Option Int)
noncomputable abbrev pN:Dp:=λ_ a=>.ok aE a
noncomputable abbrev pS(f:De):Dp:=λb c=>(f b c).bind λt a=>match t with|.int i=>.ok (aA i) a|_=>.st
noncomputable abbrev FV(x:T)(l h:Option Int)(μ:aK):RE T:=match x with
 |.lst a=>.ok (.lst (Qg a l h)) μ
 |.tup a=>.ok (.tup (Qg a l h)) μ
 |.str z=>.grd (z.length<=aQ) (.ok (.str (Txt.slice z l h)) μ)
 |.mut i=>λK _=>∃b,μ[i]?=aA (.lst b)/\K (.lst (Qg b l h)) μ
 |_=>.st
noncomputable abbrev rW(f:De)(lo g:Dp):De:=λa e=>(f a e).bind λx d=>(lo a d).bind λl c=>(g a c).bind λh b=>FV x l h b
noncomputable abbrev gF(fs:List De):Da:=gy (motive:=λ_=>Da) (λ_ c=>.ok [] c) (λf _ g d c=>(f d c).bind λt b=>(g d b).bind λe a=>.ok (t::e) a) fs
noncomputable abbrev qx(fs:List De):De:=λb c=>(gF fs b c).bind λd a=>.ok (.lst d) a
noncomputable abbrev zG(fs:List De):De:=λb c=>(gF fs b c).bind λd a=>.ok (.tup d) a
noncomputable abbrev Qy(fs:List De):De:=λb c=>(gF fs b c).bind λd a=>.ok (.mut a.length) (a++[.lst d])
noncomputable abbrev z8(g:Fn)(fs:List De):De:=λa b=>(gF fs a b).bind g
noncomputable abbrev Vv(c:Nat)(g:Fn)(ts:List T)(μ:aK):RE T:=λK Z=>
 Zw ts=aB/\g (.mut 0::ts) [.obj c []] (λr a=>r=.non/\∃fs,a[0]?=aA (.obj c fs)/\yO fs=aB/\K (.obj c fs) μ) (λk fs _=>yO fs=aB/\Z k fs μ)
noncomputable abbrev rX(c:Nat)(g:Fn)(fs:List De):De:=λa b=>(gF fs a b).bind (Vv c g)
noncomputable abbrev Ur(cs:List Nat)(x:T)(μ:aK):RE T:=match x with
 |.mut i=>.som μ[i]? λo=>.br (F_ o) .st (.ok (.bl (cI (HC o) cs)) μ)
 |x=>match HD x μ with
  |some t=>.ok (.bl (cI t cs)) μ
  |none=>.st
noncomputable abbrev wM(cs:List Nat)(f:De):De:=λa b=>(f a b).bind (Ur cs)
noncomputable abbrev eZ(op:T->aK->RE T)(f:De):De:=λa b=>(f a b).bind op
noncomputable abbrev uH(t:T)(μ:aK):RE T:=match t with
 |.lst a=>.ok (.int a.length) μ
 |.tup a=>.ok (.int a.length) μ
 |.str s=>.grd (s.length<=aQ) (.ok (.int s.length) μ)
 |.mut i=>λK _=>∃a,μ[i]?=aA (.lst a)/\K (.int a.length) μ
 |_=>.st
noncomputable abbrev Y7(t:T)(μ:aK):RE T:=match t with
 |.lst a=>.ok (.lst a) μ
 |.tup a=>.ok (.lst a) μ
 |.mut i=>λK _=>∃a,μ[i]?=aA (.lst a)/\K (.lst a) μ
 |_=>.st
noncomputable abbrev rA(t:T)(μ:aK):RE T:=match t with
 |.lst a=>.ok (.mut μ.length) (μ++[.lst a])
 |.tup a=>.ok (.mut μ.length) (μ++[.lst a])
 |.mut i=>λK _=>∃a,μ[i]?=aA (.lst a)/\K (.mut μ.length) (μ++[.lst a])
 |_=>.st
noncomputable def bR:List T->Option (List Bool)
 |[]=>aA []
 |.bl b::r=>(bR r).map (b::·)
 |_::_=>aE
noncomputable abbrev KO(t:T)(μ:aK):RE T:=match t with
 |.lst a=>.som (bR a) λbs=>.ok (.bl (bs.all id)) μ
 |_=>.st
noncomputable abbrev U3(o f:De):De:=λd e=>(o d e).bind λg b=>match g with
 |.mut i=>λK Z=>(∃c,b[i]?=aA (.lst c))/\f d b (λt a=>∃c,a[i]?=aA (.lst c)/\c.length<aQ/\K .non (a.set i (.lst (c++[t])))) Z
 |_=>.st
noncomputable abbrev Zx(z:aG):List T:=z.cps.toList.map λc=>T.str ⟨#[c]⟩
noncomputable abbrev NR(t:T)(μ:aK):RI:=match t with
 |.lst a=>.ok a gD μ
 |.tup a=>.ok a gD μ
 |.str z=>.ok (Zx z) gD μ
 |.mut i=>λK _=>∃a,μ[i]?=aA (.lst a)/\K a (iN i a) μ
 |_=>.st
noncomputable abbrev iE(f:De):Di:=λa b=>(f a b).it NR
noncomputable def rangeT(n:Int):List T:=(gM n.toNat).map λ(i:Nat)=>T.int i
noncomputable def jL(a b c:Int):List T:=(gM (if a<b then (b-a-1) / c+1 else 0:Int).toNat).map λ(i:Nat)=>T.int (a+i*c)
noncomputable abbrev mf(a:Int):Prop := -1606938044258990275541962092341162602522202993782792835301376<=a/\a<1606938044258990275541962092341162602522202993782792835301376
noncomputable abbrev Fa(f:De):Di:=λb c=>(f b c).it λt a=>match t with
 |.int n=>.grd (mf n) (.ok (rangeT n) gD a)
 |_=>.st
noncomputable abbrev Jh(f g:De):Di:=λe h=>(f e h).it λx d=>(g e d).it λy c=>match x,y with
 |.int a,.int b=>.grd (mf a/\mf b) (.ok (jL a b 1) gD c)
 |_,_=>.st
inductive Tg where
 |one (i:Nat)|tup (is:List Nat)
noncomputable abbrev Va(is:List Nat):List T->Sl->Option Sl:=gy (motive:=λ_=>List T->Sl->Option Sl) (λc a=>gy (motive:=λ_=>Option Sl) (aA a) (λ_ _ _=>aE) c) (λi _ d c a=>gy (motive:=λ_=>Option Sl) aE (λt b _=>d b (jZ a i (aA t))) c) is
noncomputable abbrev ir:Tg->T->Sl->Option Sl
 |.one i,t,a=>aA (jZ a i (aA t))
 |.tup c,.tup b,a=>Va c b a
 |_,_,_=>aE
noncomputable def qq(tg:Tg)(g:Sl->aK->RE (Option T))(lv:aK->Prop)(τ:Sl):List T->aK->RE (List T)
 |[],d=>.ok [] d
 |x::r,d=>.som (ir tg x τ) λb=>(g b d).bind λo a=>.grd (lv a) (match o with
  |some y=>(qq tg g lv τ r a).bind λe c=>.ok (y::e) c
  |none=>qq tg g lv τ r a)
noncomputable abbrev yo(cs:List Dt)(f:De):Sl->aK->RE (Option T):=gy (motive:=λ_=>Sl->aK->RE (Option T)) (λd e=>(f d e).bind λy a=>.ok (aA y) a) (λc _ g d e=>(c d e).bind λb a=>.br b (g d a) (.ok aE a)) cs
noncomputable abbrev K8(is:List Nat)(τ:Sl):Sl:=gy (motive:=λ_=>Sl) [] (λi _ a=>Qx τ i::a) is
noncomputable abbrev gV(n:Nat)(fs:List Nat)(τ:Sl):Sl:=oY (motive:=λ_=>Sl) (K8 fs τ) (λ_ a=>aE::a) n
noncomputable abbrev vz(n:Nat)(fs:List Nat)(tg:Tg)(it:Di)(cs:List Dt)(f:De):De:=λc e=>(it c e).go λd o b=>.grd (d.length<=aQ) ((qq tg (yo cs f) o (gV n fs c) d b).bind λg a=>.ok (.lst g) a)
noncomputable abbrev jy(n:Nat)(fs:List Nat)(tg:Tg)(it:Di)(cs:List Dt)(f:De):De:=λc e=>(it c e).go λd o b=>.grd (d.length<=aQ) ((qq tg (yo cs f) o (gV n fs c) d b).bind λg a=>.ok (.mut a.length) (a++[.lst g]))
noncomputable abbrev zq(f:De):Ds:=λb c=>(f b c).out b λt a=>.rt t a
noncomputable abbrev UR:Ds:=λ_ a=>.rt .non a
noncomputable abbrev zS(f:De):Ds:=λa c=>(f a c).out a λ_ b=>.nx a b
noncomputable abbrev qe(c:List Ds):Ds:=gy (motive:=λ_=>Ds) (λa b=>.nx a b) (λs _ d a b=>(s a b).seq d) c
noncomputable abbrev bM(c:Dt)(a b:List Ds):Ds:=λe f=>(c e f).out e λk d=>.br k (qe a e d) (qe b e d)
noncomputable abbrev zt(i:Nat)(f:De):Ds:=λa c=>(f a c).out a λt b=>.nx (jZ a i (aA t)) b
noncomputable abbrev ry(is:List Nat)(f:De):Ds:=λb d=>(f b d).out b λt c=>.som (ir (.tup is) t b) λa=>.nx a c
noncomputable abbrev qa(o:De)(n:Nat)(f:De):Ds:=λa e=>(f a e).out a λt d=>(o a d).out a λg b=>match g with
 |.mut i=>λE=>∃c fs,b[i]?=aA (.obj c fs)/\fs.length<900/\E.nx a (b.set i (.obj c (Yu n t fs)))
 |_=>.st
noncomputable abbrev ES(o b f:De):Ds:=λa h=>(f a h).out a λt e=>(o a e).out a λj d=>(b a d).out a λit c=>match j,it with
 |.mut i,.int k=>λE=>∃g,c[i]?=aA (.lst g)/\(0<=k/\k<g.length/\k<9223372036854775808)/\E.nx a (c.set i (.lst (g.set k.toNat t)))
 |_,_=>.st
noncomputable def f6(tg:Tg)(body:Ds)(lv:aK->Prop):List T->Ds
 |[],d,e=>.nx d e
 |x::r,d,e=>.som (ir tg x d) λc=>λE=>body c e (E.turn λb a=>lv a/\f6 tg body lv r b a E)
noncomputable abbrev Jr(tg:Tg)(it:Di)(body:List Ds):Ds:=λa c=>(it a c).out a λd o b=>f6 tg (qe body) o d a b
noncomputable def WE(c:Dt)(body:List Ds):Ds:=λd e E=>∃I:Nat->Sl->aK->Prop,(∃n,I n d e)/\∀n d e,I n d e->
 c d e (λb a=>ib b (qe body d a (E.turn λf g=>∃m,m<n/\I m f g)) (E.nx d a)) (λk fs a=>E.ex k fs d a)
noncomputable abbrev zU(c:Nat)(fs:List De):Ds:=λa d=>(gF fs a d).out a λe b=>.grd (e.length<=aQ) (.ex c [] a b)
noncomputable abbrev uv(c f:Nat)(g:De):Ds:=λa d=>(g a d).out a λt b=>match t with
 |.int i=>.grd (i.natAbs.log2<1920) (.ex c [(f,.int i)] a b)
 |_=>.st
noncomputable abbrev FI(i:Option Nat)(v:List Ds)(k:Nat)(fs:List (Nat×T))(τ:Sl)(μ:aK):cP:=λE=>match i with
 |some j=>qe v (jZ τ j (aA (.exc k fs))) μ {nx:=λa b=>E.nx (jZ a j aE) b,rt:=E.rt,bk:=λ_ _=>False,ct:=λ_ _=>False,ex:=λ_ _ _ _=>False}
 |none=>qe v τ μ {nx:=E.nx,rt:=E.rt,bk:=λ_ _=>False,ct:=λ_ _=>False,ex:=λ_ _ _ _=>False}
noncomputable abbrev rq(hs:List (List Nat×Option Nat×List Ds)):Nat->List (Nat×T)->Sl->aK->cP:=gy (motive:=λ_=>Nat->List (Nat×T)->Sl->aK->cP) (λk fs a b=>.ex k fs a b) (λp _ c k fs a b=>.br (cI k p.1) (FI p.2.1 p.2.2 k fs a b) (c k fs a b)) hs
noncomputable abbrev om(b:List Ds)(hs:List (List Nat×Option Nat×List Ds)):Ds:=λd e E=>qe b d e (E.tri λk fs a c=>rq hs k fs a c E)
noncomputable abbrev BN(n:Nat):Sl:=oY (motive:=λ_=>Sl) [] (λ_ a=>aE::a) n
noncomputable abbrev oj(ts:List T)(n:Nat):Sl:=gy (motive:=λ_=>Sl) (BN n) (λt _ a=>aA t::a) ts
noncomputable abbrev bH(n m:Nat)(body:List Ds):Fn:=λa b K Z=>a.length=n/\qe body (oj a m) b (En.fn K Z)
end NH
namespace NH
open PySem PySem.Spec PyProof.Rows L2
section
structure DP where
 K:bJ
 adr:Nat->Option aF
 cad:Nat->Option aF
 fn:Nat->Option aG
 inj:∀i j x,fn i=aA x->fn j=aA x->i=j
 clo:Nat->aF->Option HO->List V->Prop
 tabs:Nat->Option (aF×List Pos×aG)
noncomputable def yg (a C:aF)(d:Option aF):aV->Prop:=λh=>∃b c,h.get? a=aA b/\b.cls=.ref C/\b.data=.fields c/\b.dict=d
noncomputable def Rq(x:Int×Int):Int:=reduceHash (IC [hashInt x.1,hashInt x.2])
noncomputable def Gg(a:aF)(xs:List ((Int×Int)×aF)):aV->Prop:=λh=>∃o es ep,h.get? a=aA o/\o.ExactDict/\o.data=.dict es ep/\es.toList=xs.map λx=>(⟨Rq x.1,.ref x.2,.bool aB⟩:o3)
noncomputable def wa(c:aF)(qn:aG):aV->Prop:=λh=>h.CodeRec (.ref c) qn
inductive TV(α:List aF)(i:Nat)(v:V):Prop|mk (a:aF) (h:α[i]?=aA a) (e:v=.ref a)
inductive H_(φ α:List aF)(H:Hp)(c:List V->HO)(L:List V->Prop)(v:V):Prop|mk (a:aF) (xs:List V) (e:v=.ref a) (n1:a∉φ) (n2:a∉α) (r:Rd H a (c xs)) (l:L xs)
inductive TU(φ α:List aF)(H:Hp)(ca:Option aF)(L:List (aG×V)->Prop)(v:V):Prop|mk (a C dx:aF) (gs:List (aG×V)) (e:v=.ref a) (n1:a∉φ) (n2:a∉α) (ad:ca=aA C) (q:H a=aA (.ins C dx gs)) (l:L gs)
inductive TW(φ α:List aF)(H:Hp)(ca:Option aF)(L:Option aF->Prop)(v:V):Prop|mk (a C:aF) (d:Option aF) (oe:bA) (e:v=.ref a) (n1:a∉φ) (n2:a∉α) (ad:ca=aA C) (q:H a=aA (.frz oe (.ext (yg a C d)))) (l:L d)
inductive TX(φ α:List aF)(H:Hp)(L:List (Key×V)->Prop)(v:V):Prop|mk (a:aF) (gs:List (Key×V)) (e:v=.ref a) (n1:a∉φ) (n2:a∉α) (q:H a=aA (.dK gs)) (l:L gs)
inductive TZ(φ α:List aF)(H:Hp)(c:aF->Option HO->List V->Prop)(L:List V->Prop)(v:V):Prop|mk (a:aF) (ob:Option HO) (xs:List V) (e:v=.ref a) (h:c a ob xs) (o:∀o,ob=aA o->a∉φ/\a∉α/\H a=aA o) (l:L xs)
inductive TY(P:V->Prop)(L:List V->Prop)(vs:List V):Prop|mk (v:V) (r:List V) (e:vs=v::r) (d:P v) (l:L r)
inductive T1(x:Option aG)(P:V->Prop)(L:List (aG×V)->Prop)(vs:List (aG×V)):Prop|mk (y:aG) (v:V) (r:List (aG×V)) (h:x=aA y) (e:vs=(y,v)::r) (d:P v) (l:L r)
inductive T0(k:Key)(P:V->Prop)(L:List (Key×V)->Prop)(vs:List (Key×V)):Prop|mk (v:V) (r:List (Key×V)) (e:vs=(k,v)::r) (d:P v) (l:L r)
inductive H0(φ α:List aF)(H:Hp)(dx:aF)(L:List (aG×V)->Prop):Prop|mk (gs:List (aG×V)) (n1:dx∉φ) (n2:dx∉α) (q:H dx=aA (.xd gs)) (l:L gs)
mutual
def a_ (D:DP)(φ α:List aF)(H:Hp):T->V->Prop
 |.non,v=>v=.non
 |.bl b,v=>v=.bl b
 |.int i,v=>v=.int i
 |.str x,v=>v=.str x
 |.mut i,v=>TV α i v
 |.tup a,v=>H_ φ α H .tup (aN D φ α H a) v
 |.lst a,v=>H_ φ α H .lst (aN D φ α H a) v
 |.obj c fs,v=>TU φ α H (D.cad c) (bK D φ α H fs) v
 |.exc c fs,v=>TW φ α H (D.adr c) (λd=>match d with
  |none=>fs=[]
  |some dx=>H0 φ α H dx (bK D φ α H fs)) v
 |.dic e,v=>TX φ α H (bF D φ α H e) v
 |.clo j cs,v=>TZ φ α H (D.clo j) (aN D φ α H cs) v
def aN (D:DP)(φ α:List aF)(H:Hp):List T->List V->Prop
 |[],a=>a=[]
 |t::b,a=>TY (a_ D φ α H t) (aN D φ α H b) a
def bK (D:DP)(φ α:List aF)(H:Hp):List (Nat×T)->List (aG×V)->Prop
 |[],gs=>gs=[]
 |p::fs,gs=>T1 (D.fn p.1) (a_ D φ α H p.2) (bK D φ α H fs) gs
def bF (D:DP)(φ α:List aF)(H:Hp):List (Key×T)->List (Key×V)->Prop
 |[],gs=>gs=[]
 |p::fs,gs=>T0 p.1 (a_ D φ α H p.2) (bF D φ α H fs) gs
end
noncomputable def mX (fs:List (Nat×T))(C:aF):aD:=if fs.length<=1 then .ref C else .int (C:Int) 0
theorem Xt:stC (mX fs C)=.ref C:=by
 unfold mX;split
 ·rfl
 ·show cN (Int.toNat (C:Int))=_;rw[D0]
noncomputable def oK(c:Nat):Option String:=if c=8 then aA "KeyError" else if c=9 then aA "ZeroDivisionError" else aE
inductive iQ(D:DP)(c:Nat)(fs:List (Nat×T))(cv:aD):Prop where
 |own (C:aF) (ad:D.adr c=aA C) (e:cv=mX fs C)
 |blt (n:String) (h:oK c=aA n) (hn:D.adr c=aE) (e:cv=.type n)
noncomputable def bS(D:DP)(φ α:List aF)(H:Hp)(fs:List (Nat×T)):Option aF->Prop
 |none=>fs=[]
 |some dx=>H0 φ α H dx (bK D φ α H fs)
inductive TF(H:Hp)(a:aF)(L:List V->Prop):Prop|mk (xs:List V) (q:H a=aA (.lst xs)) (l:L xs)
inductive TC(H:Hp)(a:aF)(ca:Option aF)(L:List (aG×V)->Prop):Prop|mk (C dx:aF) (gs:List (aG×V)) (ad:ca=aA C) (q:H a=aA (.ins C dx gs)) (l:L gs)
inductive TJ(H:Hp)(a:aF)(L:List (Key×V)->Prop):Prop|mk (gs:List (Key×V)) (q:H a=aA (.dK gs)) (l:L gs)
inductive TB(D:DP)(φ α:List aF)(H:Hp)(j:Nat)(a:aF):Prop|mk (poss:List Pos) (qn:aG) (ps:Array aD) (h1:D.tabs j=aA (a,poss,qn)) (h2:H a=aA (.tbl ps)) (h3:TriplesOk ps.toList) (h4:∀pos∈poss,codeAmong pos ps.toList=aE\/∃c,codeAmong pos ps.toList=aA (.ref c)/\c∉φ/\c∉α/\H c=aA (.ext (wa c qn)))
inductive TK(φ α:List aF)(H:Hp)(ks:List (Int×Int))(a:aF):Prop|mk (xs:List ((Int×Int)×aF)) (h1:ks=xs.map (·.1)) (h2:ks.Nodup) (h3:ks.length<=100000) (h4:(a==sysModules)=aC) (h5:H a=aA (.ext (Gg a xs))) (h6:∀x∈xs,x.2∉φ/\x.2∉α/\Rd H x.2 (.tup [.int x.1.1,.int x.1.2]))
inductive TH(H:Hp)(a:aF)(ep:Nat)(L:List (Key×V)->Prop):Prop|mk (gs:List (Key×V)) (q:H a=aA (.dE ep gs)) (l:L gs)
noncomputable def dZ (D:DP)(φ α:List aF)(H:Hp):MO->aF->Prop
 |.lst d,a=>TF H a (aN D φ α H d)
 |.obj c fs,a=>TC H a (D.cad c) (bK D φ α H fs)
 |.dic b,a=>TJ H a (bF D φ α H b)
 |.tab j,a=>TB D φ α H j a
 |.dct e,a=>TK φ α H e a
 |.frd ep b,a=>TH H a ep (bF D φ α H b)
structure aO(α:List aF)(H:Hp)(α':List aF)(H':Hp):Prop where
 ext:∃β,α'=α++β/\∀b∈β,H b=aE
 keep:∀b o,b∉α->H b=aA o->H' b=aA o
 live:∀b,H' b=aE->H b=aE
theorem aO.refl(α:List aF)(H:Hp):aO α H α H:=⟨⟨[],by simp,by simp⟩,λ_ _ _ e=>e,λ_ e=>e⟩
theorem aO.trans(a:aO α H j s)(b:aO j s g r):aO α H g r:=by
 obtain⟨β,rfl,d⟩:=a.ext;obtain⟨i,rfl,f⟩:=b.ext;refine⟨⟨β++i,by simp,λc k=>?_⟩,λc o n e=>?_,λc e=>a.live c (b.live c e)⟩
 ·rcases cH.mp k with h|h
  ·exact d c h
  ·exact a.live c (f c h)
 ·refine b.keep c o (λh=>?_) (a.keep c o n e);rcases cH.mp h with h|h
  ·exact n h
  ·rw[d c h] at e;cases e
theorem aO.new(s:jX H d):aO α H α d:=⟨⟨[],by simp,by simp⟩,λb o _ e=>s b o e,λb e=>by
 cases q:H b with
 |none=>rfl
 |some o=>rw[s b o q] at e;cases e⟩
theorem zf(h:H p=aE):jX H (upd H p o):=λb u e=>by rw[z4 (zI e h)];exact e
theorem aO.out(s:aO α H d g)(n:a∉α)(e:H a=aA o):a∉d:=by
 obtain⟨β,rfl,b⟩:=s.ext;intro h;rcases cH.mp h with h|h
 ·exact n h
 ·rw[b a h] at e;cases e
section
variable {D:DP}{φ φ' α α':List aF}{H H':Hp}
structure Lk(φ α:List aF)(H:Hp)(φ' α':List aF)(H':Hp):Prop where
 ob:∀a o,a∉φ->a∉α->H a=aA o->a∉φ'/\a∉α'/\H' a=aA o
 st:∀(i:Nat) (a:aF),α[i]?=aA a->α'[i]?=aA a
mutual
theorem a_.lk(h:Lk φ α H φ' α' H'):∀{t:T}{v:V},a_ D φ α H t v->a_ D φ' α' H' t v
 |.non,_,d=>d
 |.bl _,_,d=>d
 |.int _,_,d=>d
 |.str _,_,d=>d
 |.mut i,_,d=>by obtain⟨a,e,q⟩:=d;exact⟨a,h.st i a e,q⟩
 |.tup ts,_,d=>by
  obtain⟨a,xs,rfl,n1,n2,r,l⟩:=d;rcases r with r|⟨o,r⟩
  ·obtain⟨f,b,e⟩:=h.ob a _ n1 n2 r;exact⟨a,xs,rfl,f,b,.inl e,aN.lk h l⟩
  ·obtain⟨f,b,e⟩:=h.ob a _ n1 n2 r;exact⟨a,xs,rfl,f,b,.inr ⟨o,e⟩,aN.lk h l⟩
 |.lst ts,_,d=>by
  obtain⟨a,xs,rfl,n1,n2,r,l⟩:=d;rcases r with r|⟨o,r⟩
  ·obtain⟨f,b,e⟩:=h.ob a _ n1 n2 r;exact⟨a,xs,rfl,f,b,.inl e,aN.lk h l⟩
  ·obtain⟨f,b,e⟩:=h.ob a _ n1 n2 r;exact⟨a,xs,rfl,f,b,.inr ⟨o,e⟩,aN.lk h l⟩
 |.obj c fs,_,d=>by
  obtain⟨a,C,dx,gs,rfl,n1,n2,ad,e,l⟩:=d;obtain⟨f,b,e⟩:=h.ob a _ n1 n2 e;exact⟨a,C,dx,gs,rfl,f,b,ad,e,bK.lk h l⟩
 |.exc c fs,_,d=>by
  obtain⟨a,C,d,k,rfl,n1,n2,ad,e,l⟩:=d;obtain⟨f,b,e⟩:=h.ob a _ n1 n2 e;refine⟨a,C,d,k,rfl,f,b,ad,e,?_⟩;cases d with
  |none=>exact l
  |some dx=>
   obtain⟨gs,k1,k2,g,l⟩:=l;obtain⟨k1,k2,g⟩:=h.ob dx _ k1 k2 g;exact⟨gs,k1,k2,g,bK.lk h l⟩
 |.dic m,_,d=>by
  obtain⟨a,gs,rfl,n1,n2,e,l⟩:=d;obtain⟨f,b,e⟩:=h.ob a _ n1 n2 e;exact⟨a,gs,rfl,f,b,e,bF.lk h l⟩
 |.clo j cs,_,d=>by
  obtain⟨a,ob,xs,rfl,c,e,l⟩:=d;exact⟨a,ob,xs,rfl,c,λo z=>let ⟨n1,n2,q⟩:=e o z;h.ob a o n1 n2 q,aN.lk h l⟩
theorem aN.lk(h:Lk φ α H φ' α' H'):∀{ts:List T}{vs:List V},aN D φ α H ts vs->aN D φ' α' H' ts vs
 |[],_,l=>l
 |t::ts,_,l=>by
  obtain⟨v,r,rfl,a,b⟩:=l;exact⟨v,r,rfl,a_.lk h a,aN.lk h b⟩
theorem bK.lk(h:Lk φ α H φ' α' H'):∀{fs:List (Nat×T)}{gs:List (aG×V)},bK D φ α H fs gs->bK D φ' α' H' fs gs
 |[],_,l=>l
 |p::fs,_,l=>by
  obtain⟨x,v,r,e,rfl,a,b⟩:=l;exact⟨x,v,r,e,rfl,a_.lk h a,bK.lk h b⟩
theorem bF.lk(h:Lk φ α H φ' α' H'):∀{fs:List (Key×T)}{gs:List (Key×V)},bF D φ α H fs gs->bF D φ' α' H' fs gs
 |[],_,l=>l
 |p::fs,_,l=>by
  obtain⟨v,r,rfl,a,b⟩:=l;exact⟨v,r,rfl,a_.lk h a,bF.lk h b⟩
end
theorem aO.lk(s:aO α H α' H'):Lk φ α H φ α' H':=⟨λa o n1 n2 e=>⟨n1,s.out n2 e,s.keep a o n2 e⟩,λi a e=>by
 obtain⟨β,rfl,_⟩:=s.ext;rw[dN (bI.mp e).1];exact e⟩
theorem a_.step(s:aO α H α' H')(d:a_ D φ α H t v):a_ D φ α' H' t v:=d.lk s.lk
theorem aN.step(s:aO α H α' H')(d:aN D φ α H t v):aN D φ α' H' t v:=d.lk s.lk
theorem bK.step(s:aO α H α' H')(d:bK D φ α H t v):bK D φ α' H' t v:=d.lk s.lk
theorem bF.step(s:aO α H α' H')(d:bF D φ α H t v):bF D φ α' H' t v:=d.lk s.lk
theorem bS.lk(h:Lk φ α H φ' α' H')(x:bS D φ α H fs d):bS D φ' α' H' fs d:=by
 cases d with
 |none=>exact x
 |some dx=>
  obtain⟨gs,k1,k2,a,l⟩:=x;obtain⟨k1,k2,a⟩:=h.ob dx _ k1 k2 a;exact⟨gs,k1,k2,a,bK.lk h l⟩
mutual
theorem a_.hide:∀{t:T}{v:V},jI t=aB->a_ D φ α H t v->(∀a,a∉φ->a∉α->a∉φ'/\a∉β)->a_ D φ' β H t v
 |.non,_,_,h,_=>h
 |.bl _,_,_,h,_=>h
 |.int _,_,_,h,_=>h
 |.str _,_,_,h,_=>h
 |.mut i,_,p,_,_=>by simp[jI] at p
 |.tup ts,_,p,h,k=>by
  obtain⟨a,xs,rfl,n1,n2,r,l⟩:=h;exact⟨a,xs,rfl,(k a n1 n2).1,(k a n1 n2).2,r,aN.hide (by simpa[jI] using p) l k⟩
 |.lst ts,_,p,h,k=>by
  obtain⟨a,xs,rfl,n1,n2,r,l⟩:=h;exact⟨a,xs,rfl,(k a n1 n2).1,(k a n1 n2).2,r,aN.hide (by simpa[jI] using p) l k⟩
 |.obj c fs,_,p,h,k=>by
  obtain⟨a,C,dx,gs,rfl,n1,n2,ad,e,l⟩:=h;exact⟨a,C,dx,gs,rfl,(k a n1 n2).1,(k a n1 n2).2,ad,e,bK.hide (by simpa[jI] using p) l k⟩
 |.exc c fs,_,p,h,k=>by
  obtain⟨a,C,d,b,rfl,n1,n2,ad,e,l⟩:=h;refine⟨a,C,d,b,rfl,(k a n1 n2).1,(k a n1 n2).2,ad,e,?_⟩;cases d with
  |none=>exact l
  |some dx=>
   obtain⟨gs,k1,k2,g,l⟩:=l;exact⟨gs,(k dx k1 k2).1,(k dx k1 k2).2,g,bK.hide (by simpa[jI] using p) l k⟩
 |.dic f,_,p,h,k=>by
  obtain⟨a,gs,rfl,n1,n2,e,l⟩:=h;exact⟨a,gs,rfl,(k a n1 n2).1,(k a n1 n2).2,e,bF.hide (by simpa[jI] using p) l k⟩
 |.clo j cs,_,p,h,k=>by
  obtain⟨a,ob,xs,rfl,c,e,l⟩:=h;exact⟨a,ob,xs,rfl,c,λo z=>let ⟨n1,n2,q⟩:=e o z;⟨(k a n1 n2).1,(k a n1 n2).2,q⟩,aN.hide (by simpa[jI] using p) l k⟩
theorem aN.hide:∀{ts:List T}{vs:List V},Zw ts=aB->aN D φ α H ts vs->(∀a,a∉φ->a∉α->a∉φ'/\a∉β)->aN D φ' β H ts vs
 |[],_,_,h,_=>h
 |t::ts,_,p,h,k=>by
  obtain⟨v,r,rfl,a,b⟩:=h;simp only[Zw,cB] at p;exact⟨v,r,rfl,a_.hide p.1 a k,aN.hide p.2 b k⟩
theorem bK.hide:∀{fs:List (Nat×T)}{gs:List (aG×V)},yO fs=aB->bK D φ α H fs gs->(∀a,a∉φ->a∉α->a∉φ'/\a∉β)->bK D φ' β H fs gs
 |[],_,_,h,_=>h
 |q::fs,_,p,h,k=>by
  obtain⟨x,v,r,e,rfl,a,b⟩:=h;simp only[yO,cB] at p;exact⟨x,v,r,e,rfl,a_.hide p.1 a k,bK.hide p.2 b k⟩
theorem bF.hide:∀{fs:List (Key×T)}{gs:List (Key×V)},Y3 fs=aB->bF D φ α H fs gs->(∀a,a∉φ->a∉α->a∉φ'/\a∉β)->bF D φ' β H fs gs
 |[],_,_,h,_=>h
 |q::fs,_,p,h,k=>by
  obtain⟨v,r,rfl,a,b⟩:=h;simp only[Y3,cB] at p;exact⟨v,r,rfl,a_.hide p.1 a k,bF.hide p.2 b k⟩
end
theorem bS.hide(p:yO fs=aB)(x:bS D φ α H fs d)(k:∀a,a∉φ->a∉α->a∉φ'/\a∉β):bS D φ' β H fs d:=by
 cases d with
 |none=>exact x
 |some dx=>
  obtain⟨gs,k1,k2,b,l⟩:=x;exact⟨gs,(k dx k1 k2).1,(k dx k1 k2).2,b,bK.hide p l k⟩
theorem RS:∀a:aF,a∉φ->a∉α->a∉φ++α/\a∉([]:List aF):=λa c b=>⟨λz=>(cH.mp z).elim c b,by simp⟩
theorem VI{β:List aF}:∀a:aF,a∉φ++α->a∉β->a∉φ/\a∉α:=λa b _=>⟨λz=>b (eK _ z),λz=>b (dM _ z)⟩
theorem aN.length:∀{ts:List T}{vs:List V},aN D φ α H ts vs->ts.length=vs.length
 |[],_,h=>by have:_=[]:=h;subst this;rfl
 |t::ts,_,h=>by
  obtain⟨v,r,rfl,_,b⟩:=h;simp[aN.length b]
theorem aN.get:∀{ts:List T}{vs:List V}{i:Nat}{t:T},aN D φ α H ts vs->ts[i]?=aA t->∃v,vs[i]?=aA v/\a_ D φ α H t v
 |[],_,_,_,_,e=>by simp at e
 |t::ts,_,0,_,h,e=>by
  obtain⟨v,r,rfl,a,b⟩:=h;simp at e;subst e;exact⟨v,rfl,a⟩
 |t::ts,_,i+1,u,h,e=>by
  obtain⟨v,r,rfl,a,b⟩:=h;obtain⟨w,c,d⟩:=aN.get (i:=i) (t:=u) b (by simpa using e);exact⟨w,by simpa using c,d⟩
theorem aN.append:∀{ts us:List T}{vs c:List V},aN D φ α H ts vs->aN D φ α H us c->aN D φ α H (ts++us) (vs++c)
 |[],us,_,c,h,k=>by have:_=[]:=h;subst this;exact k
 |t::ts,us,_,c,h,k=>by
  obtain⟨v,r,rfl,a,b⟩:=h;exact⟨v,r++c,rfl,a,aN.append b k⟩
theorem aN.drop:∀(n:Nat) {ts:List T}{vs:List V},aN D φ α H ts vs->aN D φ α H (ts.drop n) (vs.drop n)
 |0,_,_,h=>h
 |n+1,[],_,h=>by have:_=[]:=h;subst this;exact rfl
 |n+1,t::ts,_,h=>by
  obtain⟨v,r,rfl,a,b⟩:=h;exact aN.drop n b
theorem aN.take:∀(n:Nat) {ts:List T}{vs:List V},aN D φ α H ts vs->aN D φ α H (ts.take n) (vs.take n)
 |0,_,_,h=>by simp[aN]
 |n+1,[],_,h=>by have:_=[]:=h;subst this;exact rfl
 |n+1,t::ts,_,h=>by
  obtain⟨v,r,rfl,a,b⟩:=h;exact⟨v,r.take n,rfl,a,aN.take n b⟩
theorem aN.set:∀{ts:List T}{vs:List V}{i:Nat}{t:T}{v:V},aN D φ α H ts vs->a_ D φ α H t v->aN D φ α H (ts.set i t) (vs.set i v)
 |[],vs,i,t,v,l,d=>by have l:vs=[]:=l;subst l;exact rfl
 |x::ts,_,0,t,v,l,d=>by
  obtain⟨w,r,rfl,dw,l⟩:=l;exact⟨v,r,rfl,d,l⟩
 |x::ts,_,i+1,t,v,l,d=>by
  obtain⟨w,r,rfl,dw,l⟩:=l;exact⟨w,r.set i v,rfl,dw,aN.set l d⟩
theorem bK.look:∀{fs:List (Nat×T)}{gs:List (aG×V)}{f:Nat}{t:T},bK D φ α H fs gs->Jx fs f=aA t->∃x v,D.fn f=aA x/\gs.lookup x=aA v/\a_ D φ α H t v
 |[],_,_,_,_,e=>by simp[Jx] at e
 |p::fs,_,f,t,h,e=>by
  obtain⟨x,v,r,ex,rfl,a,b⟩:=h;rw[U4] at e;cases q:fK p.1 f with
  |true=>
   have c:=tL q;rw[q] at e;have e:aA p.2=aA t:=e;cases e;exact⟨x,v,by rw[←c];exact ex,by simp[gB],a⟩
  |false=>
   rw[q] at e;obtain⟨y,w,h1,h2,d⟩:=bK.look b e;refine⟨y,w,h1,?_,d⟩;rw[gB];have ne:(y==x)=aC:=by
    refine beq_eq_false_iff_ne.mpr λz=>?_;subst z;have:=D.inj _ _ _ ex h1;rw[this] at q;simp at q
   rw[ne];exact h2
theorem bK.put(hx:D.fn f=aA x):∀{fs:List (Nat×T)}{gs:List (aG×V)},bK D φ α H fs gs->a_ D φ α H t w->bK D φ α H (Yu f t fs) (vN x w gs)
 |[],gs,h,d=>by
  have:gs=[]:=h;subst this;exact⟨x,w,[],hx,rfl,d,rfl⟩
 |p::fs,gs,h,d=>by
  obtain⟨z,y,r,ez,rfl,dy,l⟩:=h;rw[Yd];show bK D φ α H _ (if z=x then (z,w)::r else (z,y)::vN x w r);cases q:fK p.1 f with
  |true=>
   have a:=tL q;have:z=x:=by rw[a,hx] at ez;exact (bP ez).symm
   rw[if_pos this];exact⟨z,w,r,ez,rfl,d,l⟩
  |false=>
   have:z≠x:=λe=>by
    subst e;have:=D.inj _ _ _ ez hx;rw[this] at q;simp at q
   rw[if_neg this];exact⟨z,y,vN x w r,ez,rfl,dy,bK.put hx l d⟩
theorem bK.length:∀{fs:List (Nat×T)}{gs:List (aG×V)},bK D φ α H fs gs->fs.length=gs.length
 |[],_,h=>by have:_=[]:=h;subst this;rfl
 |p::fs,_,h=>by
  obtain⟨x,v,r,_,rfl,_,b⟩:=h;simp[bK.length b]
noncomputable def rO:HO->Bool
 |.frz _ _=>aC
 |_=>aB
structure aM(D:DP)(φ α:List aF)(H:Hp)(μ:aK):Prop where
 len:α.length=μ.length
 nd:α.Nodup
 dis:∀b∈α,b∉φ
 phi:∀b∈φ,∃o,H b=aA o/\rO o=aB
 ob:∀(i:Nat) (a:aF) (o:MO),α[i]?=aA a->μ[i]?=aA o->dZ D φ α H o a
theorem dZ.lk(s:Lk φ α H φ' α' H')(e:H' a=H a)(h:dZ D φ α H o a):dZ D φ' α' H' o a:=by
 cases o with
 |lst ts=>
  obtain⟨xs,q,l⟩:=h;exact⟨xs,e.trans q,aN.lk s l⟩
 |obj c fs=>
  obtain⟨C,dx,gs,ad,q,l⟩:=h;exact⟨C,dx,gs,ad,e.trans q,bK.lk s l⟩
 |dic g=>
  obtain⟨xs,q,l⟩:=h;exact⟨xs,e.trans q,bF.lk s l⟩
 |tab j=>
  obtain⟨pos,qn,ps,h1,h2,k,i⟩:=h;refine⟨pos,qn,ps,h1,e.trans h2,k,λp n=>(i p n).imp id λ⟨c,k1,k2,k3,m⟩=>?_⟩;obtain⟨f,d,b⟩:=s.ob c _ k2 k3 m;exact⟨c,k1,f,d,b⟩
 |frd ep g=>
  obtain⟨xs,q,l⟩:=h;exact⟨xs,e.trans q,bF.lk s l⟩
 |dct u=>
  obtain⟨xs,h1,h2,k,i,t,r⟩:=h;refine⟨xs,h1,h2,k,i,e.trans t,λx hx=>?_⟩;obtain⟨k1,k2,k3⟩:=r x hx;rcases k3 with k3|⟨o,k3⟩
  ·obtain⟨f,d,b⟩:=s.ob _ _ k1 k2 k3;exact⟨f,d,.inl b⟩
  ·obtain⟨f,d,b⟩:=s.ob _ _ k1 k2 k3;exact⟨f,d,.inr ⟨o,b⟩⟩
theorem dZ.step(s:aO α H α' H')(e:H' a=H a)(h:dZ D φ α H o a):dZ D φ α' H' o a:=h.lk s.lk e
theorem dZ.some(h:dZ D φ α H o a):∃u,H a=Option.some u/\rO u=aB:=by
 cases o with
 |lst ts=>obtain⟨xs,q,_⟩:=h;exact⟨_,q,rfl⟩
 |obj c fs=>obtain⟨C,dx,gs,_,q,_⟩:=h;exact⟨_,q,rfl⟩
 |dic ts=>obtain⟨xs,q,_⟩:=h;exact⟨_,q,rfl⟩
 |tab j=>obtain⟨_,_,ps,_,q,_⟩:=h;exact⟨_,q,rfl⟩
 |dct d=>obtain⟨_,_,_,_,_,q,_⟩:=h;exact⟨_,q,rfl⟩
 |frd ep b=>obtain⟨xs,q,_⟩:=h;exact⟨_,q,rfl⟩
theorem aM.new(m:aM D φ α H μ)(s:jX H H'):aM D φ α H' μ:=
 ⟨m.len,m.nd,m.dis,λb c=>let ⟨o,e,n⟩:=m.phi b c;⟨o,s b o e,n⟩,λi a o g f=>by
  have d:=m.ob i a o g f;obtain⟨u,q,_⟩:=d.some;exact d.step (aO.new s) ((s _ _ q).trans q.symm)⟩
theorem aM.lk(h:Lk φ α H φ' α H')(c:∀a∈α,H' a=H a/\a∉φ')(d:∀b∈φ',∃o,H' b=aA o/\rO o=aB)(m:aM D φ α H μ):aM D φ' α H' μ:=
 ⟨m.len,m.nd,λb f=>(c b f).2,d,λi a o e g=>(m.ob i a o e g).lk h (c a (b9 e)).1⟩
structure aZ(D:DP)(φ α:List aF)(H:Hp)(τ:Sl)(σ:St):Prop where
 len:τ.length=σ.length
 val:∀(i:Nat) (t:T),τ[i]?=aA (aA t)->∃v,σ[i]?=aA (aA v)/\a_ D φ α H t v
theorem aZ.lk(r:aZ D φ α H τ g)(s:Lk φ α H φ' α' H'):aZ D φ' α' H' τ g:=⟨r.len,λi t e=>by
 obtain⟨v,q,d⟩:=r.val i t e;exact⟨v,q,d.lk s⟩⟩
theorem aZ.step(r:aZ D φ α H τ d)(s:aO α H α' H'):aZ D φ α' H' τ d:=r.lk s.lk
theorem aZ.set(r:aZ D φ α H τ g)(d:a_ D φ α H t v):aZ D φ α H (jZ τ i (aA t)) (g.set i (aA v)):=by
 rw[xT];refine⟨by simp[r.len],λj u e=>?_⟩;by_cases h:i=j
 ·subst h;rw[tW] at e;cases q:τ[i]? with
  |none=>rw[q] at e;cases e
  |some o=>
   rw[q] at e;simp at e;subst e;have a:i<g.length:=by rw[←r.len];exact (bI.mp q).1
   exact⟨v,by simp[a],d⟩
 ·rw[bW h] at e ⊢;exact r.val j u e
theorem aZ.unset(r:aZ D φ α H τ d):aZ D φ α H (jZ τ i aE) (d.set i aE):=by
 rw[xT];refine⟨by simp[r.len],λj t e=>?_⟩;by_cases h:i=j
 ·subst h;rw[tW] at e;cases q:τ[i]? with
  |none=>rw[q] at e;cases e
  |some o=>rw[q] at e;cases e
 ·rw[bW h] at e ⊢;exact r.val j t e
theorem aZ.get(r:aZ D φ α H τ d)(e:Qx τ i=aA t):∃v,d[i]?=aA (aA v)/\a_ D φ α H t v:=r.val i t (uA.mp e)
end
theorem yr(f:H b=aE):Lk φ α H (φ++[b]) α H:=by
 refine⟨λa o d c e=>⟨λz=>?_,c,e⟩,λ_ _ e=>e⟩;rcases cH.mp z with z|z
 ·exact d z
 ·rw[bT.mp z,f] at e;cases e
theorem uJ(h:H b=aE)(s:jX H j):Lk φ α H (φ++[b]) α j:=⟨λa o g f e=>let ⟨d,c,i⟩:=(yr h).ob a o g f e;⟨d,c,s a o e⟩,λ_ _ e=>e⟩
theorem wm:Lk (φ++[b]) α H φ α H:=⟨λa o d c e=>⟨λz=>d (eK _ z),c,e⟩,λ_ _ e=>e⟩
theorem xE(f:b∈φ):Lk φ α H φ α (upd H b u):=⟨λa o c d e=>⟨c,d,by rw[z4 (λz:a=b=>c (by rw[z];exact f))];exact e⟩,λ_ _ e=>e⟩
end
inductive aJ(D:DP)(W:XW)(φ α:List aF)(H:Hp)(σ:St){β:Type}(R:β->aK->List aF->Hp->Prop)(r:RE β):Prop where
 |mk (K:β->aK->Prop) (Z:Xp) (q:r K Z) (h:(∀a μ',K a μ'->∀α' H',aO α H α' H'->aM D φ α' H' μ'->R a μ' α' H')/\
  ∀c fs μ',Z c fs μ'->∀α' H' cv d,aO α H α' H'->aM D φ α' H' μ'->iQ D c fs cv->bS D φ α' H' fs d->W cv d σ H')
inductive mo(D:DP)(H:Hp)(σ:St)(P:List aF->List aF->Sl->aK->Prop):Prop where
 |mk (φ α:List aF) (τ:Sl) (μ:aK) (sr:aZ D φ α H τ σ) (mr:aM D φ α H μ) (p:P φ α τ μ)
section
variable {D:DP}{W:XW}{φ α α':List aF}{H H':Hp}{σ:St}{β γ:Type}{R R':β->aK->List aF->Hp->Prop}
theorem aJ.mono(p:aJ D W φ α H σ R r)(h:∀a d α' H',aO α H α' H'->aM D φ α' H' d->R a d α' H'->R' a d α' H'):aJ D W φ α H σ R' r:=by
 obtain⟨K,Z,q,k,z⟩:=p;exact⟨K,Z,q,λa d e α' H' s m=>h a d α' H' s m (k a d e α' H' s m),z⟩
theorem aJ.bind{r:RE γ}(p:aJ D W φ α H σ R (r.bind k)):aJ D W φ α H σ (λa g α' H'=>aJ D W φ α' H' σ R (k a g)) r:=by
 obtain⟨K,Z,q,h,z⟩:=p;exact⟨λa μ=>k a μ K Z,Z,q,λa g e α' H' s m=>⟨K,Z,e,λb μ2 l f n i j=>h b μ2 l f n (s.trans i) j,λc fs μ2 l f n C d i j=>z c fs μ2 l f n C d (s.trans i) j⟩,z⟩
theorem aJ.elim{C:Prop}(p:aJ D W φ α H σ R RE.st):C:=by obtain⟨_,_,q,_⟩:=p;exact q.elim
theorem aJ.grd(p:aJ D W φ α H σ R (RE.grd c r)):c/\aJ D W φ α H σ R r:=by
 obtain⟨K,Z,q,h⟩:=p;exact⟨q.1,K,Z,q.2,h⟩
theorem aJ.som{k:γ->RE β}(p:aJ D W φ α H σ R (RE.som o k)):∃a,o=aA a/\aJ D W φ α H σ R (k a):=by
 obtain⟨K,Z,⟨a,e,q⟩,h⟩:=p;exact⟨a,e,K,Z,q,h⟩
theorem aJ.br(p:aJ D W φ α H σ R (RE.br b r s)):(b=aB/\aJ D W φ α H σ R r)\/(b=aC/\aJ D W φ α H σ R s):=by
 obtain⟨K,Z,q,h⟩:=p;cases b with
 |true=>exact .inl ⟨rfl,K,Z,q,h⟩
 |false=>exact .inr ⟨rfl,K,Z,q,h⟩
theorem aJ.ok(p:aJ D W φ α H σ R (RE.ok a μ))(s:aO α H α' H')(m:aM D φ α' H' μ):R a μ α' H':=by
 obtain⟨K,Z,q,h,_⟩:=p;exact h a μ q α' H' s m
theorem aJ.step(p:aJ D W φ α H σ R r)(st:aO α H α' H'):aJ D W φ α' H' σ R r:=by
 obtain⟨K,Z,q,h,z⟩:=p;exact⟨K,Z,q,λb μ2 g a i e f=>h b μ2 g a i (st.trans e) f,λc fs μ2 g a i C d e f=>z c fs μ2 g a i C d (st.trans e) f⟩
theorem aJ.ex1{a:Type}{P:a->Prop}{k:a->RE β}(p:aJ D W φ α H σ R (λK Z=>∃x,P x/\k x K Z)):∃x,P x/\aJ D W φ α H σ R (k x):=by
 obtain⟨K,Z,⟨x,hx,q⟩,h⟩:=p;exact⟨x,hx,K,Z,q,h⟩
end
noncomputable def aW (D:DP)(W:XW)(f:De):TE:=λc H Q=>mo D H c λb h e g=>aJ D W b h H c (λt _ a d=>∀v,a_ D b a d t v->Q v d) (f e g)
noncomputable def eL (D:DP)(W:XW)(f:Dt):TT:=λa H Q=>mo D H a λc g d e=>aJ D W c g H a (λb _ _ h=>Q b h) (f d e)
noncomputable def oE (D:DP)(W:XW)(n:Nat)(f:Da):TA:=λd H Q=>mo D H d λc i g h=>aJ D W c i H d (λj _ a e=>∀b,aN D c a e j b->b.length=n->Q b e) (f g h)
section
variable {X:Cx}{D:DP}{W:XW}{pins:List (aF×bA)}{s:Shared}{σ:St}{H:Hp}{φ α:List aF}{τ:Sl}{μ:aK}{β:Type}{R:β->aK->List aF->Hp->Prop}
inductive Ca(X:Cx)(D:DP)(W:XW)(pins:List (aF×bA))(σ:St)(H:Hp)(φ α:List aF)(τ:Sl){β:Type}(R:β->aK->List aF->Hp->Prop)(k:T->aK->RE β)(u:aD)(s1:Shared):Prop where
 |mk (v:V) (H1:Hp) (t:T) (μ1:aK) (α1:List aF) (i:Inv X pins σ H1 s1) (r:RelV v u) (st:aO α H α1 H1) (sr:aZ D φ α1 H1 τ σ) (mr:aM D φ α1 H1 μ1) (d:a_ D φ α1 H1 t v) (p:aJ D W φ α1 H1 σ R (k t μ1))
inductive B_(X:Cx)(D:DP)(W:XW)(pins:List (aF×bA))(σ:St)(H:Hp)(φ α:List aF)(τ:Sl){β:Type}(R:β->aK->List aF->Hp->Prop)(k:Bool->aK->RE β)(b:Bool)(s1:Shared):Prop where
 |mk (H1:Hp) (μ1:aK) (α1:List aF) (i:Inv X pins σ H1 s1) (st:aO α H α1 H1) (sr:aZ D φ α1 H1 τ σ) (mr:aM D φ α1 H1 μ1) (p:aJ D W φ α1 H1 σ R (k b μ1))
inductive Cb(X:Cx)(D:DP)(W:XW)(pins:List (aF×bA))(σ:St)(H:Hp)(φ α:List aF)(τ:Sl){β:Type}(R:β->aK->List aF->Hp->Prop)(n:Nat)(k:List T->aK->RE β)(us:List aD)(s1:Shared):Prop where
 |mk (vs:List V) (H1:Hp) (ts:List T) (μ1:aK) (α1:List aF) (i:Inv X pins σ H1 s1) (r:aY vs us) (st:aO α H α1 H1) (sr:aZ D φ α1 H1 τ σ) (mr:aM D φ α1 H1 μ1) (d:aN D φ α1 H1 ts vs) (hn:vs.length=n) (p:aJ D W φ α1 H1 σ R (k ts μ1))
theorem sub{f:Sl->aK->RE T}(n:PE X a (aW D W f))(I:Inv X pins σ H s)(j:aZ D φ α H τ σ)(l:aM D φ α H μ)(p:aJ D W φ α H σ R ((f τ μ).bind k)) :
  wpAny (aR X.prog X.w) X.A (eval a X.env) (Ca X D W pins σ H φ α τ R k) X.xe s:=by
 refine aX (n pins s σ H (λv e=>∃t c b,aO α H b e/\aZ D φ b e τ σ/\aM D φ b e c/\a_ D φ b e t v/\aJ D W φ b e σ R (k t c)) I ⟨φ,α,τ,μ,j,l,p.bind.mono λt g i E st m q v d=>⟨t,g,i,st,j.step st,m,d,q⟩⟩) ?_;rintro u C ⟨v,e,B,r,t,c,b,z,y,x,o,h⟩;exact⟨v,e,t,c,b,B,r,z,y,x,o,h⟩
theorem F9{f:Sl->aK->RE Bool}(n:PT X a (eL D W f))(I:Inv X pins σ H s)(j:aZ D φ α H τ σ)(l:aM D φ α H μ)(p:aJ D W φ α H σ R ((f τ μ).bind k)) :
  wpAny (aR X.prog X.w) X.A (isTrue a X.env (eval a X.env)) (B_ X D W pins σ H φ α τ R k) X.xe s:=by
 refine aX (n pins s σ H (λb e=>∃d c,aO α H c e/\aZ D φ c e τ σ/\aM D φ c e d/\aJ D W φ c e σ R (k b d)) I ⟨φ,α,τ,μ,j,l,p.bind.mono λb g i x st m q=>⟨g,i,st,j.step st,m,q⟩⟩) ?_;rintro b v ⟨e,u,d,c,t,r,o,h⟩;exact⟨e,d,c,u,t,r,o,h⟩
theorem UM(u:PA X es (oE D W n f))(I:Inv X pins σ H s)(l:aZ D φ α H τ σ)(o:aM D φ α H μ)(p:aJ D W φ α H σ R ((f τ μ).bind k)) :
  wpAny (aR X.prog X.w) X.A (spliced (fJ pos (d7 es X.env))) (Cb X D W pins σ H φ α τ R n k) X.xe s:=by
 refine aX (u pos pins s σ H (λg c=>∃e b a,aO α H a c/\aZ D φ a c τ σ/\aM D φ a c b/\aN D φ a c e g/\g.length=n/\aJ D W φ a c σ R (k e b)) I ⟨φ,α,τ,μ,l,o,p.bind.mono λe i j G st m q g d t=>⟨e,i,j,st,l.step st,m,d,t,q⟩⟩) ?_;rintro E F ⟨g,c,C,r,e,b,a,B,z,y,x,v,h⟩;exact⟨g,c,e,b,a,C,r,B,z,y,x,v,h⟩
abbrev RV(D:DP)(φ:List aF)(Q:VK):T->aK->List aF->Hp->Prop:=λt _ a b=>∀v,a_ D φ a b t v->Q v b
theorem aJ.here(p:aJ D W φ α H σ (RV D φ Q) (.ok t μ))(a:aM D φ α H μ)(d:a_ D φ α H t v):Q v H:=p.ok (aO.refl _ _) a v d
theorem aJ.fresh(p:aJ D W φ α H σ (RV D φ Q) (.ok t μ))(b:aM D φ α H μ)(a:jX H g)(d:a_ D φ α g t v):Q v g:=p.ok (aO.new a) (b.new a) v d
theorem zA(h:n<=aQ):n<=sizeLine:=cU h (by unfold aQ;decide)
theorem zk(a:aM D φ α H μ)(h:H p=aE):p∉φ:=λz=>by
 obtain⟨o,e,_⟩:=a.phi p z;rw[h] at e;cases e
theorem zm(a:aM D φ α H μ)(h:H p=aE):p∉α:=λz=>by
 obtain⟨i,b⟩:=i4.mp z;have c:i<μ.length:=by rw[←a.len];exact (bI.mp b).1
 obtain⟨u,e,_⟩:=(a.ob i p μ[i] b (by simp[c])).some;rw[h] at e;cases e
theorem kB:∀{ts:List T}{ns:List Int}{vs:List V},cZ ts=aA ns->aN D φ α H ts vs->vs=ns.map V.int
 |[],ns,vs,h,l=>by
  simp[cZ] at h;subst h;exact l
 |t::ts,ns,vs,h,l=>by
  obtain⟨v,r,rfl,d,l⟩:=l;cases t with
  |int i=>
   simp only[cZ] at h;cases q:cZ ts with
   |none=>rw[q] at h;cases h
   |some a=>
    rw[q] at h;cases h;rw[kB q l];have d:v=.int i:=d;rw[d];rfl
  |_=>simp[cZ] at h
theorem Ws:dT X (gz .Add) (λx y H Q=>∃l b xs d,x=.ref l/\y=.ref b/\Rd H l (.lst xs)/\Rd H b (.lst d)/\xs.length+d.length<=sizeLine/\∀p,H p=aE->Q (.ref p) (upd H p (.lst (xs++d)))):=by
 intro g s w H x y v u Q I k j h;obtain⟨l,b,xs,d,rfl,rfl,m,o,i,q⟩:=h;cases k;cases j;obtain⟨z,c,n,r,e⟩:=m.ok I.hok;obtain⟨A,a,B,f,t⟩:=o.ok I.hok;refine PySem.P.add_list e t ?_ (by rw[dH,dH,←r.length,←f.length];exact i);rw[show c.toArray++a.toArray=(c++a).toArray by simp];exact⟨.ref _,_,I.lnew (t':=s.toks) (r.append f) (by rw[l3];exact i),rfl,q _ I.fresh⟩
theorem Sc:dT X (gz .Add) (λx y H Q=>∃a b ys,x=.ref a/\y=.ref b/\fP X.K H a []/\fP X.K H b ys/\Q (.ref b) H):=by
 intro j s E H x y v u Q I t r h;obtain⟨a,b,ys,rfl,rfl,D,C,q⟩:=h;cases t;cases r;obtain⟨B,w,p1,_⟩:=I.tuple D;obtain⟨c,G,z,_⟩:=I.tuple C;cases w;obtain⟨⟨cls,dd,m,p⟩,k,l,n,hd⟩:=id p1;obtain⟨⟨o,i,data2,g⟩,d,f,A,e⟩:=id z;simp only at l hd f e;subst l hd f e
 exact sN ⟨_,k,rfl⟩ ⟨_,d,rfl⟩ tf sJ tO tY (t7 _ _)
  (tuple_addW0 a b #[] c.toArray n A dd i p g rfl) ⟨k,d,⟨.ref b,H,I,rfl,q⟩⟩
theorem S0:dT X (gz .FloorDiv) (rI (λ_ j=>0<j/\j<1606938044258990275541962092341162602522202993782792835301376) λi j=>.int (i / j)):=oF λi j _ _ _ _ _ a q=>by
 have c:(0:Int)<j:=a.1;have b:j<1606938044258990275541962092341162602522202993782792835301376:=a.2;refine floordiv_int (by omega) (by rw[EM i (by omega)];exact q) (.inl (PyProof.noPylong_of_log2 ?_));refine cY ((sq (by omega)).2 (show j.natAbs<2 ^ 200 by omega)) (by decide)
theorem jc{f:Int->Int->aK->RE T}{x:T}(p:aJ D W φ α H σ (RV D φ Q) (Vh f x y μ)):∃i j,x=.int i/\y=.int j/\aJ D W φ α H σ (RV D φ Q) (f i j μ):=by
 unfold Vh at p;split at p
 ·exact⟨_,_,rfl,rfl,p⟩
 ·exact p.elim
theorem Ow{op:Operator}{x y:T}{M:V}{u1 N:aD}(I:Inv X pins σ H s)(c:aM D φ α H μ)(m:a_ D φ α H x M)(l:a_ D φ α H y U)(q:RelV M u1)(n:RelV U N)
  (p:aJ D W φ α H σ (RV D φ Q) (F7 op x y μ)):wpAny (aR X.prog X.w) X.A (gz op u1 N) (EP X pins σ Q) X.xe s:=by
 have G:∀{a b:aF}{d f:List V}{F E:List T},Rd H a (.lst d)->Rd H b (.lst f)->aN D φ α H F d->aN D φ α H E f->M=.ref a->U=.ref b->F.length+E.length<=aQ->aJ D W φ α H σ (RV D φ Q) (RE.ok (.lst (F++E)) μ)->wpAny (aR X.prog X.w) X.A (gz .Add u1 N) (EP X pins σ Q) X.xe s:=λ{a b d f F E} t r k g Y S h p=>by
  subst Y S;refine Ws pins s σ H _ _ _ _ Q I q n ⟨a,b,d,f,rfl,rfl,t,r,by rw[←k.length,←g.length];exact zA h,λz B=>?_⟩;have u:=zf (o:=.lst (d++f)) B;exact p.fresh c u ⟨z,_,rfl,zk c B,zm c B,.inl z3,(k.step (aO.new u)).append (g.step (aO.new u))⟩
 cases op with
 |Add=>
  replace p:aJ D W φ α H σ (RV D φ Q) (A5 x y μ):=p;unfold A5 at p;split at p
  ·cases m;cases l;exact MV pins s σ H _ _ _ _ Q I q n ⟨_,_,rfl,rfl,p.here c rfl⟩
  ·cases m;cases l;obtain⟨h,p⟩:=p.grd;exact Ka pins s σ H _ _ _ _ Q I q n ⟨_,_,rfl,rfl,zA h,p.here c rfl⟩
  ·obtain⟨h,p⟩:=p.grd;obtain⟨a,d,rfl,R,P,t,k⟩:=m;obtain⟨b,f,rfl,L,K,r,g⟩:=l;refine Ws pins s σ H _ _ _ _ Q I q n ⟨a,b,d,f,rfl,rfl,t,r,by rw[←k.length,←g.length];exact zA h,λz B=>?_⟩;have u:=zf (o:=.lst (d++f)) B;exact p.fresh c u ⟨z,_,rfl,zk c B,zm c B,.inl z3,(k.step (aO.new u)).append (g.step (aO.new u))⟩
  ·rename_i F E;obtain⟨h,p⟩:=p.grd
   ·obtain⟨a,d,rfl,R,P,t,k⟩:=m;obtain⟨b,f,rfl,L,K,r,g⟩:=l;cases d with
    |nil=>
     cases F with
     |cons x F=>obtain⟨_,_,e,_⟩:=k;cases e
     |nil=>exact Sc pins s σ H _ _ _ _ Q I q n ⟨a,b,f,rfl,rfl,.inl t,.inl r,p.here c ⟨b,f,rfl,L,K,r,g⟩⟩
    |cons v d=>
     refine Ra pins s σ H _ _ _ _ Q I q n ⟨a,b,v::d,f,rfl,rfl,.inl t,.inl r,by simp,by rw[←k.length,←g.length];exact zA h,λhw=>?_,λhw z B=>?_⟩
     ·subst hw;cases E with
      |cons y E=>obtain⟨_,_,e,_⟩:=g;cases e
      |nil=>
       rw[gP] at p;exact p.here c ⟨a,v::d,rfl,R,P,t,k⟩
     ·have u:=zf (o:=.tup (v::d++f)) B;exact p.fresh c u ⟨z,_,rfl,zk c B,zm c B,.inl z3,(k.step (aO.new u)).append (g.step (aO.new u))⟩
  ·obtain⟨F,J,p⟩:=p.ex1;obtain⟨h,p⟩:=aJ.grd p;obtain⟨a,C,rfl⟩:=m;obtain⟨d,t,k⟩:=c.ob _ a _ C J;obtain⟨b,f,rfl,L,K,r,g⟩:=l;exact G (.inl t) r k g rfl rfl h p
  ·obtain⟨E,J,p⟩:=p.ex1;obtain⟨h,p⟩:=aJ.grd p;obtain⟨a,C,rfl⟩:=l;obtain⟨d,t,k⟩:=c.ob _ a _ C J;obtain⟨b,f,rfl,L,K,r,g⟩:=m;exact G r (.inl t) g k rfl rfl h p
  ·obtain⟨Z,J,p⟩:=p.ex1;obtain⟨h,p⟩:=aJ.grd p;obtain⟨a,C,rfl⟩:=m;obtain⟨d,t,k⟩:=c.ob _ a _ C J.1;obtain⟨b,O,rfl⟩:=l;obtain⟨f,r,g⟩:=c.ob _ b _ O J.2;exact G (.inl t) (.inl r) k g rfl rfl h p
  ·exact p.elim
 |Sub=>
  obtain⟨i,j,rfl,rfl,p⟩:=jc p;cases m;cases l;exact Od pins s σ H _ _ _ _ Q I q n ⟨_,_,rfl,rfl,p.here c rfl⟩
 |Mult=>
  obtain⟨i,j,rfl,rfl,p⟩:=jc p;cases m;cases l;obtain⟨h,p⟩:=p.grd;exact No pins s σ H _ _ _ _ Q I q n ⟨_,_,rfl,rfl,by simpa[jp,big] using h,p.here c rfl⟩
 |FloorDiv=>
  obtain⟨i,j,rfl,rfl,p⟩:=jc p;cases m;cases l;obtain⟨h,p⟩:=p.grd;exact S0 pins s σ H _ _ _ _ Q I q n ⟨_,_,rfl,rfl,h,p.here c rfl⟩
 |Mod=>
  obtain⟨i,j,rfl,rfl,p⟩:=jc p;cases m;cases l;obtain⟨h,p⟩:=p.grd;exact NQ pins s σ H _ _ _ _ Q I q n ⟨_,_,rfl,rfl,h,p.here c rfl⟩
 |Pow=>
  obtain⟨i,j,rfl,rfl,p⟩:=jc p;cases m;cases l;obtain⟨h,p⟩:=p.grd;exact On pins s σ H _ _ _ _ Q I q n ⟨_,_,rfl,rfl,⟨h.1,h.2.1,by simpa using h.2.2⟩,p.here c rfl⟩
 |RShift=>
  obtain⟨i,j,rfl,rfl,p⟩:=jc p;cases m;cases l;obtain⟨h,p⟩:=p.grd;exact MT pins s σ H _ _ _ _ Q I q n ⟨_,_,rfl,rfl,h,p.here c rfl⟩
 |BitAnd=>
  obtain⟨i,j,rfl,rfl,p⟩:=jc p;cases m;cases l;exact NF pins s σ H _ _ _ _ Q I q n ⟨_,_,rfl,rfl,p.here c rfl⟩
 |_=>exact (show aJ D W φ α H σ (RV D φ Q) .st from p).elim
end
section
section
variable {D:DP}{φ α:List aF}{H:Hp}
theorem Rd.inj(b:∀o z,u≠.frz o z)(hw:∀o z,w≠.frz o z)(r:Rd H a u)(q:Rd H a w):u=w:=by
 rcases r with r|⟨o,r⟩<;>rcases q with q|⟨c,q⟩<;>rw[r] at q
 ·exact bP q
 ·exact absurd (bP q) (b _ _)
 ·exact absurd (bP q).symm (hw _ _)
 ·injection bP q
mutual
theorem Zu:∀{t u:T}{v:V}{k:Bool},a_ D φ α H t v->a_ D φ α H u v->eqT t u=aA k->k=aB
 |.int i,u,_,k,d,c,e=>by
  have d:_=V.int i:=d;subst d;cases u with
  |int j=>have c:V.int i=V.int j:=c;injection c with c;subst c;rw[←bP e];simp
  |bl b=>have c:V.int i=V.bl b:=c;cases c
  |str b=>have c:V.int i=V.str b:=c;cases c
  |non=>have c:V.int i=V.non:=c;cases c
  |tup b=>obtain⟨_,_,c,_⟩:=c;cases c
  |lst b=>obtain⟨_,_,c,_⟩:=c;cases c
  |_=>cases e
 |.bl i,u,_,k,d,c,e=>by
  have d:_=V.bl i:=d;subst d;cases u with
  |bl j=>have c:V.bl i=V.bl j:=c;injection c with c;subst c;rw[←bP e];simp
  |int b=>have c:V.bl i=V.int b:=c;cases c
  |str b=>have c:V.bl i=V.str b:=c;cases c
  |non=>have c:V.bl i=V.non:=c;cases c
  |tup b=>obtain⟨_,_,c,_⟩:=c;cases c
  |lst b=>obtain⟨_,_,c,_⟩:=c;cases c
  |_=>cases e
 |.str i,u,_,k,d,c,e=>by
  have d:_=V.str i:=d;subst d;cases u with
  |str j=>have c:V.str i=V.str j:=c;injection c with c;subst c;rw[←bP e];simp
  |int b=>have c:V.str i=V.int b:=c;cases c
  |bl b=>have c:V.str i=V.bl b:=c;cases c
  |non=>have c:V.str i=V.non:=c;cases c
  |tup b=>obtain⟨_,_,c,_⟩:=c;cases c
  |lst b=>obtain⟨_,_,c,_⟩:=c;cases c
  |_=>cases e
 |.non,u,_,k,d,c,e=>by
  have d:_=V.non:=d;subst d;cases u with
  |non=>exact (bP e).symm
  |int b=>have c:V.non=V.int b:=c;cases c
  |bl b=>have c:V.non=V.bl b:=c;cases c
  |str b=>have c:V.non=V.str b:=c;cases c
  |tup b=>obtain⟨_,_,c,_⟩:=c;cases c
  |lst b=>obtain⟨_,_,c,_⟩:=c;cases c
  |_=>cases e
 |.tup o,u,_,k,d,c,e=>by
  obtain⟨a,n,rfl,_,_,r,l⟩:=d;cases u with
  |tup m=>
   obtain⟨b,h,g,_,_,f,l'⟩:=c;cases g;have:=Rd.inj (by intro _ _ z;cases z) (by intro _ _ z;cases z) r f;injection this with this;subst this;exact yB l l' e
  |lst m=>
   obtain⟨b,h,g,_,_,f,l'⟩:=c;cases g;have:=Rd.inj (by intro _ _ z;cases z) (by intro _ _ z;cases z) r f;cases this
  |int b=>have c:V.ref a=V.int b:=c;cases c
  |bl b=>have c:V.ref a=V.bl b:=c;cases c
  |str b=>have c:V.ref a=V.str b:=c;cases c
  |non=>have c:V.ref a=V.non:=c;cases c
  |_=>cases e
 |.lst o,u,_,k,d,c,e=>by
  obtain⟨a,n,rfl,_,_,r,l⟩:=d;cases u with
  |lst m=>
   obtain⟨b,h,g,_,_,f,l'⟩:=c;cases g;have:=Rd.inj (by intro _ _ z;cases z) (by intro _ _ z;cases z) r f;injection this with this;subst this;exact yB l l' e
  |tup m=>
   obtain⟨b,h,g,_,_,f,l'⟩:=c;cases g;have:=Rd.inj (by intro _ _ z;cases z) (by intro _ _ z;cases z) r f;cases this
  |int b=>have c:V.ref a=V.int b:=c;cases c
  |bl b=>have c:V.ref a=V.bl b:=c;cases c
  |str b=>have c:V.ref a=V.str b:=c;cases c
  |non=>have c:V.ref a=V.non:=c;cases c
  |_=>cases e
 |.obj _ _,_,_,_,_,_,e=>by cases e
 |.mut _,_,_,_,_,_,e=>by cases e
 |.exc _ _,_,_,_,_,_,e=>by cases e
 |.dic _,_,_,_,_,_,e=>by cases e
 |.clo _ _,_,_,_,_,_,e=>by cases e
theorem yB:∀{ts us:List T}{vs:List V}{k:Bool},aN D φ α H ts vs->aN D φ α H us vs->cK ts us=aA k->k=aB
 |[],[],_,k,_,_,e=>by simpa[cK] using e.symm
 |[],_::_,_,k,b,a,e=>by
  have b:_=[]:=b;obtain⟨_,_,a,_⟩:=a;rw[b] at a;cases a
 |_::_,[],_,k,b,a,e=>by
  have a:_=[]:=a;obtain⟨_,_,b,_⟩:=b;rw[a] at b;cases b
 |t::ts,u::us,_,k,b,a,e=>by
  obtain⟨v,r,rfl,n,l⟩:=b;obtain⟨o,p,q,m,j⟩:=a;injection q with f d;subst f d;cases h:eqT t u with
  |none=>simp[cK,h] at e
  |some x=>
   cases c:cK ts us with
   |none=>simp[cK,h,c] at e
   |some y=>
    have i:=Zu n m h;have g:=yB l j c;subst i g;simpa[cK,h,c] using e.symm
end
end
section
variable {X:Cx}{D:DP}{pins:List (aF×bA)}{s:Shared}{σ:St}{H:Hp}{φ α:List aF}
theorem uU:∀{ts us:List T}{k:Bool},cK ts us=aA k->(∀j (h1:j<ts.length) (h2:j<us.length),∃b,eqT ts[j] us[j]=aA b)/\
  k=((gM (min ts.length us.length)).all (λj=>match ts[j]?,us[j]? with|some t,aA u=>(eqT t u).getD aC|_,_=>aC)&&ts.length==us.length)
 |[],[],k,e=>by
  simp[cK] at e;subst e;exact⟨λj h1=>by simp at h1,by simp⟩
 |[],u::us,k,e=>by
  simp[cK] at e;subst e;exact⟨λj h1=>by simp at h1,by simp⟩
 |t::ts,[],k,e=>by
  simp[cK] at e;subst e;exact⟨λj h1 h2=>by simp at h2,by simp⟩
 |t::ts,u::us,k,e=>by
  cases h:eqT t u with
  |none=>simp[cK,h] at e
  |some x=>
   cases a:cK ts us with
   |none=>simp[cK,h,a] at e
   |some y=>
    obtain⟨g,c⟩:=uU a;simp[cK,h,a] at e;subst e;refine⟨λj h1 h2=>?_,?_⟩
    ·cases j with
     |zero=>exact⟨x,h⟩
     |succ j=>exact g j (by simpa using h1) (by simpa using h2)
    ·rw[c];have d:min (t::ts).length (u::us).length=min ts.length us.length+1:=by simp[Nat.succ_min_succ]
     rw[d,List.range_succ_eq_map,iX,px];simp only[Et,h,sZ,tF,tV,fU];rw[Bool.and_assoc];congr 2;simp
theorem c9(A:eN):A.in1.units=A.units+1:=by first|rfl|simp[Around.in1,Around.units]
theorem ZP(I:Inv X pins σ H s)(h1:a_ D φ α H (.int i) v)(h2:a_ D φ α H u w)(m:RelV v a)(d:RelV w b)(e:eqT (.int i) u=aA k)(o:A.units+xx (.int i)+1<cLine):iF A s a b k:=by
 have h1:_=V.int i:=h1;subst h1;obtain⟨n,rfl⟩:=m;cases u with
 |int j=>have h2:w=V.int j:=h2;subst h2;obtain⟨l,rfl⟩:=d;cases bP e;exact DK _ _ _ _
 |bl j=>have h2:w=V.bl j:=h2;subst h2;cases d;cases bP e;exact SeqAt.EqAt.int_bool _ _ _
 |str j=>have h2:w=V.str j:=h2;subst h2;obtain⟨l,rfl⟩:=d;cases bP e;exact DQ _ _ _ _
 |non=>have h2:w=V.non:=h2;subst h2;cases d;cases bP e;exact SeqAt.EqAt.int_none _ _
 |tup g=>obtain⟨c,h,rfl,_,_,r,_⟩:=h2;cases d;obtain⟨f,_,p,_⟩:=I.tuple (.inl r);cases bP e;exact SeqAt.EqAt.int_tuple _ _ p (by lia)
 |lst g=>obtain⟨c,h,rfl,_,_,r,_⟩:=h2;cases d;obtain⟨f,_,p,_⟩:=I.list (.inl r);cases bP e;exact SeqAt.EqAt.int_list _ _ p.isList (by lia)
 |_=>cases e
theorem PU(I:Inv X pins σ H s)(h1:a_ D φ α H (.bl i) v)(h2:a_ D φ α H u w)(m:RelV v a)(d:RelV w b)(e:eqT (.bl i) u=aA k)(n:A.units+xx (.bl i)+1<cLine):iF A s a b k:=by
 have h1:_=V.bl i:=h1;subst h1;cases m;cases u with
 |int j=>have h2:w=V.int j:=h2;subst h2;obtain⟨l,rfl⟩:=d;cases bP e;exact SeqAt.EqAt.bool_int _ _ _
 |bl j=>have h2:w=V.bl j:=h2;subst h2;cases d;cases bP e;exact Ev _ _
 |str j=>have h2:w=V.str j:=h2;subst h2;obtain⟨l,rfl⟩:=d;cases bP e;exact SeqAt.EqAt.bool_str _ _ _
 |non=>have h2:w=V.non:=h2;subst h2;cases d;cases bP e;exact SeqAt.EqAt.bool_none _
 |tup g=>obtain⟨c,h,rfl,_,_,r,_⟩:=h2;cases d;obtain⟨f,_,p,_⟩:=I.tuple (.inl r);cases bP e;exact SeqAt.EqAt.bool_tuple _ p (by lia)
 |lst g=>obtain⟨c,h,rfl,_,_,r,_⟩:=h2;cases d;obtain⟨f,_,p,_⟩:=I.list (.inl r);cases bP e;exact SeqAt.EqAt.bool_list _ p.isList (by lia)
 |_=>cases e
theorem RY(I:Inv X pins σ H s)(h1:a_ D φ α H (.str i) v)(h2:a_ D φ α H u w)(m:RelV v a)(d:RelV w b)(e:eqT (.str i) u=aA k)(o:A.units+xx (.str i)+1<cLine):iF A s a b k:=by
 have h1:_=V.str i:=h1;subst h1;obtain⟨n,rfl⟩:=m;cases u with
 |int j=>have h2:w=V.int j:=h2;subst h2;obtain⟨l,rfl⟩:=d;cases bP e;exact DO _ _ _ _
 |bl j=>have h2:w=V.bl j:=h2;subst h2;cases d;cases bP e;exact SeqAt.EqAt.str_bool _ _ _
 |str j=>have h2:w=V.str j:=h2;subst h2;obtain⟨l,rfl⟩:=d;cases bP e;exact SeqAt.EqAt.str_str _ _ _ _
 |non=>have h2:w=V.non:=h2;subst h2;cases d;cases bP e;exact SeqAt.EqAt.str_none _ _
 |tup g=>obtain⟨c,h,rfl,_,_,r,_⟩:=h2;cases d;obtain⟨f,_,p,_⟩:=I.tuple (.inl r);cases bP e;exact SeqAt.EqAt.str_tuple _ _ p (by omega)
 |lst g=>obtain⟨c,h,rfl,_,_,r,_⟩:=h2;cases d;obtain⟨f,_,p,_⟩:=I.list (.inl r);cases bP e;exact SeqAt.EqAt.str_list _ _ p.isList (by omega)
 |_=>cases e
theorem SI(I:Inv X pins σ H s)(h1:a_ D φ α H .non v)(h2:a_ D φ α H u w)(l:RelV v a)(d:RelV w b)(e:eqT .non u=aA k)(m:A.units+xx .non+1<cLine):iF A s a b k:=by
 have h1:_=V.non:=h1;subst h1;cases l;cases u with
 |int j=>have h2:w=V.int j:=h2;subst h2;obtain⟨i,rfl⟩:=d;cases bP e;exact SeqAt.EqAt.none_int _ _
 |bl j=>have h2:w=V.bl j:=h2;subst h2;cases d;cases bP e;exact SeqAt.EqAt.none_bool _
 |str j=>have h2:w=V.str j:=h2;subst h2;obtain⟨i,rfl⟩:=d;cases bP e;exact SeqAt.EqAt.none_str _ _
 |non=>have h2:w=V.non:=h2;subst h2;cases d;cases bP e;exact tB _
 |tup g=>obtain⟨c,h,rfl,_,_,r,_⟩:=h2;cases d;obtain⟨f,_,p,_⟩:=I.tuple (.inl r);cases bP e;exact SeqAt.EqAt.none_tuple p (by lia)
 |lst g=>obtain⟨c,h,rfl,_,_,r,_⟩:=h2;cases d;obtain⟨f,_,p,_⟩:=I.list (.inl r);cases bP e;exact SeqAt.EqAt.none_list p.isList (by lia)
 |_=>cases e
theorem Kp(I:Inv X pins σ H s)(q:∀us,u≠.tup us)(h1:a_ D φ α H (.tup ts) z)(h2:a_ D φ α H u w)(h:RelV z a)(g:RelV w b)(e:eqT (.tup ts) u=aA k)(v:A.units+xx (.tup ts)+1<cLine):iF A s a b k:=by
 cases u with
 |tup us=>exact absurd rfl (q us)
 |lst us=>
  obtain⟨c,i,rfl,_,_,r,l⟩:=h1;obtain⟨d,t,rfl,_,_,n,l'⟩:=h2;cases h;cases g;obtain⟨_,_,p,_⟩:=I.tuple (.inl r);obtain⟨_,_,o,_⟩:=I.list (.inl n);cases bP e;exact SeqAt.EqAt.tuple_list p o.isList (by lia)
 |int j=>have h2:w=V.int j:=h2;subst h2;obtain⟨m,rfl⟩:=g;obtain⟨c,i,rfl,_,_,r,_⟩:=h1;cases h;obtain⟨f,_,p,_⟩:=I.tuple (.inl r);cases bP e;exact SeqAt.EqAt.tuple_int _ _ p (by lia)
 |bl j=>have h2:w=V.bl j:=h2;subst h2;cases g;obtain⟨c,i,rfl,_,_,r,_⟩:=h1;cases h;obtain⟨f,_,p,_⟩:=I.tuple (.inl r);cases bP e;exact SeqAt.EqAt.tuple_bool _ p (by lia)
 |str j=>have h2:w=V.str j:=h2;subst h2;obtain⟨m,rfl⟩:=g;obtain⟨c,i,rfl,_,_,r,_⟩:=h1;cases h;obtain⟨f,_,p,_⟩:=I.tuple (.inl r);cases bP e;exact SeqAt.EqAt.tuple_str _ _ p (by lia)
 |non=>have h2:w=V.non:=h2;subst h2;cases g;obtain⟨c,i,rfl,_,_,r,_⟩:=h1;cases h;obtain⟨f,_,p,_⟩:=I.tuple (.inl r);cases bP e;exact SeqAt.EqAt.tuple_none p (by lia)
 |_=>cases e
theorem JS(I:Inv X pins σ H s)(q:∀us,u≠.lst us)(h1:a_ D φ α H (.lst ts) z)(h2:a_ D φ α H u w)(h:RelV z a)(g:RelV w b)(e:eqT (.lst ts) u=aA k)(v:A.units+xx (.lst ts)+1<cLine):iF A s a b k:=by
 cases u with
 |lst us=>exact absurd rfl (q us)
 |tup us=>
  obtain⟨c,i,rfl,_,_,r,l⟩:=h1;obtain⟨d,t,rfl,_,_,n,l'⟩:=h2;cases h;cases g;obtain⟨_,_,p,_⟩:=I.list (.inl r);obtain⟨_,_,o,_⟩:=I.tuple (.inl n);cases bP e;exact SeqAt.EqAt.list_tuple p.isList o (by lia)
 |int j=>have h2:w=V.int j:=h2;subst h2;obtain⟨m,rfl⟩:=g;obtain⟨c,i,rfl,_,_,r,_⟩:=h1;cases h;obtain⟨f,_,p,_⟩:=I.list (.inl r);cases bP e;exact SeqAt.EqAt.list_int _ _ p.isList (by lia)
 |bl j=>have h2:w=V.bl j:=h2;subst h2;cases g;obtain⟨c,i,rfl,_,_,r,_⟩:=h1;cases h;obtain⟨f,_,p,_⟩:=I.list (.inl r);cases bP e;exact SeqAt.EqAt.list_bool _ p.isList (by lia)
 |str j=>have h2:w=V.str j:=h2;subst h2;obtain⟨m,rfl⟩:=g;obtain⟨c,i,rfl,_,_,r,_⟩:=h1;cases h;obtain⟨f,_,p,_⟩:=I.list (.inl r);cases bP e;exact SeqAt.EqAt.list_str _ _ p.isList (by lia)
 |non=>have h2:w=V.non:=h2;subst h2;cases g;obtain⟨c,i,rfl,_,_,r,_⟩:=h1;cases h;obtain⟨f,_,p,_⟩:=I.list (.inl r);cases bP e;exact SeqAt.EqAt.list_none p.isList (by lia)
 |_=>cases e
noncomputable def r_ (D:DP)(φ α:List aF)(H:Hp)(s:a9)(n:Nat):Prop:=∀(t u:T) (v w:V) (a b:aD) (k:Bool) (A:eN),xx t<n->a_ D φ α H t v->a_ D φ α H u w->RelV v a->RelV w b->eqT t u=aA k->A.units+xx t+1<cLine->iF A s a b k
theorem vF(k:r_ D φ α H s n):∀{ts us:List T}{xs ys:List V}{its a:List aD}{A:eN},w_ ts<n->aN D φ α H ts xs->aN D φ α H us ys->aY xs its->aY ys a->A.units+w_ ts+1<cLine->
  ∀(j:Nat) (h1:j<its.length) (h2:j<a.length),(∀(o:j<ts.length) (m:j<us.length),∃b,eqT ts[j] us[j]=aA b)->iF A s its[j] a[j] (match ts[j]?,us[j]? with|some t,aA u=>(eqT t u).getD aC|_,_=>aC)
 |[],_,xs,_,its,_,A,_,l,_,d,_,_,j,h1,_,_=>by
  have l:xs=[]:=l;subst l;cases d;simp at h1
 |t::ts,us,xs,ys,its,a,A,hd,l,l',d,c,y,j,h1,h2,g=>by
  obtain⟨v,r,rfl,B,l⟩:=l;cases d with
  | @cons _ C _ p x d=>
  cases us with
  |nil=>
   have l':ys=[]:=l';subst l';cases c;simp at h2
  |cons u us=>
   obtain⟨w,E,rfl,z,l'⟩:=l';cases c with
   | @cons _ q _ i f c=>
   simp only[w_] at y hd;cases j with
   |zero=>
    obtain⟨b,h⟩:=g (by simp) (by simp);have e:eqT t u=aA b:=by simpa using h
    simp only[Et,e,sZ,List.getElem_cons_zero];exact k _ _ _ _ _ _ _ _ (by omega) B z x f e (by omega)
   |succ j=>
    simp only[tV,List.getElem_cons_succ];exact vF k (by omega) l l' d c (by omega) j (by simpa using h1) (by simpa using h2) λo m=>by
     obtain⟨b,h⟩:=g (by simpa using o) (by simpa using m);exact⟨b,by simpa using h⟩
theorem We(I:Inv X pins σ H s)(v:r_ D φ α H s n)(hd:w_ ts<n)(l:aN D φ α H ts xs)(l':aN D φ α H us ys)(r:Rd H c (.tup xs))(i:Rd H d (.tup ys))(e:cK ts us=aA k)(B:A.units+w_ ts+2<cLine):pb A s (.ref c) (.ref d) k:=by
 obtain⟨f,h,p,_⟩:=I.tuple (.inl r);obtain⟨b,a,q,_⟩:=I.tuple (.inl i);obtain⟨g,rfl⟩:=uU e;have x:ts.length=f.length:=l.length.trans h.length;have w:us.length=b.length:=l'.length.trans a.length;have:=SeqAt.RcAt.tuples (A:=A) (e:=λj=>match ts[j]?,us[j]? with|some t,aA u=>(eqT t u).getD aC|_,_=>aC) p q (by omega) λj o m=>by
  have:=vF (A:=A.in1) v hd l l' h a (by rw[c9];omega) j (by simpa using o) (by simpa using m) λz y=>g j z y;simpa using this
 simpa[x,w] using this
theorem QO(I:Inv X pins σ H s)(x:r_ D φ α H s n)(hd:w_ ts<n)(l:aN D φ α H ts xs)(l':aN D φ α H us ys)(r:Rd H c (.lst xs))(q:Rd H d (.lst ys))(e:cK ts us=aA k)(C:A.units+w_ ts+2<cLine):pb A s (.ref c) (.ref d) k:=by
 obtain⟨f,i,p,_⟩:=I.list (.inl r);obtain⟨b,a,m,_⟩:=I.list (.inl q);obtain⟨g,rfl⟩:=uU e;have F:ts.length=f.length:=l.length.trans i.length;have E:us.length=b.length:=l'.length.trans a.length;by_cases o:ts.length=us.length
 ·have:=SeqAt.RcAt.lists (A:=A) (e:=λj=>match ts[j]?,us[j]? with|some t,aA u=>(eqT t u).getD aC|_,_=>aC) p.isList m.isList (by simp;lia) (by lia) λj w v=>by
   have:=vF (A:=A.in1) x hd l l' i a (by rw[c9];lia) j (by simpa using w) (by simpa using v) λz y=>g j z y;simpa using this
  have B:min ts.length us.length=f.length:=by lia
  have h:(ts.length==us.length)=aB:=by simpa using o
  rw[B,h,CF];simpa using this
 ·have h:(ts.length==us.length)=aC:=by simpa using o
  rw[h,tp];exact SeqAt.RcAt.lists_lengths p.isList m.isList (by simp;lia) (by lia)
theorem Wo(I:Inv X pins σ H s):∀n,r_ D φ α H s n
 |0=>λ_ _ _ _ _ _ _ _ p=>absurd p (by omega)
 |n+1=>λt u v w a b k A p h g m j e o=>by
  have B:=Wo I n;cases t with
  |int i=>exact ZP I h g m j e o
  |bl i=>exact PU I h g m j e o
  |str i=>exact RY I h g m j e o
  |non=>exact SI I h g m j e o
  |tup G=>
   cases u with
   |tup F=>
    have y:=λ(q:w=v)=>Zu h (q▸g) e;obtain⟨c,E,rfl,_,_,r,l⟩:=h;obtain⟨d,C,rfl,_,_,x,l'⟩:=g;cases m;cases j;by_cases f:c=d
    ·subst f;rw[y rfl];exact tB _
    ·refine Ed f ?_;exact We I B (by simp only[xx] at p;omega) l l' r x e (by simp only[xx] at o;omega)
   |_=>exact Kp I (by intro _ z;cases z) h g m j e o
  |lst G=>
   cases u with
   |lst F=>
    have y:=λ(q:w=v)=>Zu h (q▸g) e;obtain⟨c,E,rfl,_,_,r,l⟩:=h;obtain⟨d,C,rfl,_,_,x,l'⟩:=g;cases m;cases j;by_cases f:c=d
    ·subst f;rw[y rfl];exact tB _
    ·refine Ed f ?_;exact QO I B (by simp only[xx] at p;omega) l l' r x e (by simp only[xx] at o;omega)
   |_=>exact JS I (by intro _ z;cases z) h g m j e o
  |_=>cases e
theorem Sm(I:Inv X pins σ H s)(l:aN D φ α H ts xs)(l':aN D φ α H us ys)(r:Rd H c (.tup xs))(a:Rd H d (.tup ys))(e:cK ts us=aA k)(b:A.units+w_ ts+2<cLine):pb A s (.ref c) (.ref d) k:=We I (Wo I _) (l6 _) l l' r a e b
theorem Ul(I:Inv X pins σ H s)(l:aN D φ α H ts xs)(l':aN D φ α H us ys)(r:Rd H c (.lst xs))(a:Rd H d (.lst ys))(e:cK ts us=aA k)(b:A.units+w_ ts+2<cLine):pb A s (.ref c) (.ref d) k:=QO I (Wo I _) (l6 _) l l' r a e b
theorem uG(I:Inv X pins σ H s):∀{ts us:List T}{xs ys:List V}{its a:List aD}{A:eN},aN D φ α H ts xs->aN D φ α H us ys->aY xs its->aY ys a->A.units+w_ ts+1<cLine->
  ∀(j:Nat) (h1:j<its.length) (h2:j<a.length),(∀(g:j<ts.length) (f:j<us.length),∃b,eqT ts[j] us[j]=aA b)->iF A s its[j] a[j] (match ts[j]?,us[j]? with|some t,aA u=>(eqT t u).getD aC|_,_=>aC):=λl l' d c e=>vF (Wo I _) (l6 _) l l' d c e
theorem R9(I:Inv X pins σ H s)(l:aN D φ α H ts xs)(l':aN D φ α H us ys)(r:Rd H c (.tup xs))(i:Rd H d (.tup ys))(e:cK ts us=aA k)(y:A.units+w_ ts+2<cLine):C9 A s (.ref c) (.ref d) (!k):=by
 obtain⟨f,h,p,_⟩:=I.tuple (.inl r);obtain⟨b,a,o,_⟩:=I.tuple (.inl i);obtain⟨g,rfl⟩:=uU e;have v:ts.length=f.length:=l.length.trans h.length;have q:us.length=b.length:=l'.length.trans a.length;have:=IH (A:=A) (e:=λj=>match ts[j]?,us[j]? with|some t,aA u=>(eqT t u).getD aC|_,_=>aC) p o (by lia) λj n m=>by
  have:=uG (A:=A.in1) I l l' h a (by rw[c9];lia) j (by simpa using n) (by simpa using m) λx w=>g j x w;simpa using this
 simpa[v,q] using this
theorem UG(I:Inv X pins σ H s)(l:aN D φ α H ts xs)(l':aN D φ α H us ys)(r:Rd H c (.lst xs))(o:Rd H d (.lst ys))(e:cK ts us=aA k)(z:A.units+w_ ts+2<cLine):C9 A s (.ref c) (.ref d) (!k):=by
 obtain⟨f,i,p,_⟩:=I.list (.inl r);obtain⟨b,a,m,_⟩:=I.list (.inl o);obtain⟨g,rfl⟩:=uU e;have C:ts.length=f.length:=l.length.trans i.length;have B:us.length=b.length:=l'.length.trans a.length;by_cases n:ts.length=us.length
 ·have:=Ic (A:=A) (e:=λj=>match ts[j]?,us[j]? with|some t,aA u=>(eqT t u).getD aC|_,_=>aC) p.isList m.isList (by simp;lia) (by lia) λj v q=>by
   have:=uG (A:=A.in1) I l l' i a (by rw[c9];lia) j (by simpa using v) (by simpa using q) λx w=>g j x w;simpa using this
  have y:min ts.length us.length=f.length:=by lia
  have h:(ts.length==us.length)=aB:=by simpa using n
  rw[y,h,CF];simpa using this
 ·have h:(ts.length==us.length)=aC:=by simpa using n
  rw[h,tp];exact IW p.isList m.isList (by simp;lia) (by lia)
end
end
noncomputable def Tr (D:DP)(f:Fn):Sp:=λh H Q E=>∃a c e d,aN D a c H e h/\aM D a c H d/\aJ D (eW E) a c H [] (λt _ b g=>∀v,a_ D a b g t v->Q v g) (f e d)
noncomputable def dW (D:DP)(n:Nat)(f:Fn):Sp:=λa H Q E=>a.length=n/\Tr D f a H Q E
noncomputable def Jy (D:DP)(t:Nat)(u:aD):Prop:=
 (t=0/\u=.type "NoneType")\/(t=1/\u=.type "bool")\/(t=2/\u=.type "int")\/(t=3/\u=.type "str")\/(t=4/\u=.type "tuple")\/(t=5/\u=.type "list")\/(∃C,D.adr t=aA C/\u=.ref C)\/(t=6/\u=.type "dict")\/(∃C,D.cad t=aA C/\u=.ref C)
noncomputable def Zk(mg:aG->Option aD)(c:aG)(u:aD):Prop:=mg c=aA u\/(mg c=aE/\hS c=aA u/\c≠"__name__")
abbrev Uy(X:Cx)(c:aG)(u:aD):Prop:=Zk X.mg c u
noncomputable def gK(v:V)(u:aD):Prop:=(∃C,v=.ref C/\u=.ref C)\/∃n,v=.ty n/\u=.type n
theorem gK.rel(h:gK v u):L2.RelV v u:=by
 rcases h with⟨C,rfl,rfl⟩|⟨n,rfl,rfl⟩<;>rfl
theorem gK.only(h:gK v u)(r:L2.RelV v d):d=u:=by
 rcases h with⟨C,rfl,rfl⟩|⟨n,rfl,rfl⟩<;>exact r
structure iu(K:PySem.W.Frag)(C:aF):Prop where
 ga:cO K (.ref C) "__getattribute__"=aA (aA (.builtin "BaseException.__getattribute__"))
 hk:cO K (.ref C) "__getattr__"=aA aE
 fi:cO K (.ref C) "__class__"=aA (aA (.builtin "object.__class__"))
 sp:lX K (.builtin "object.__class__") "__get__"=aA (aA (.builtin "getset_descriptor.__get__"))
 tk:pP K (.builtin "object.__class__")=aA aB
 ob:gN K C (.type "object")=aA aB
 bx:gN K C (.type "BaseException")=aA aB
 nb:gN K C (.type "KeyError")=aA aC/\gN K C (.type "ZeroDivisionError")=aA aC
 cl:(lQ K C).isSome=aB
structure mq(K:PySem.W.Frag)(C:aF):Prop where
 cl:gL K C
 fi:cO K (.ref C) "__class__"=aA (aA (.builtin "object.__class__"))
 sp:lX K (.builtin "object.__class__") "__get__"=aA (aA (.builtin "getset_descriptor.__get__"))
 tk:pP K (.builtin "object.__class__")=aA aB
 ob:gN K C (.type "object")=aA aB
abbrev zZ:List aD:=[.type "ValueError",.type "Exception",.type "BaseException",.type "object"]
noncomputable def TQ (D:DP)(P:cG)(w:dL)(K:bJ)(mg:aG->Option aD)(base:aV)(k:Nat)(fa:aF)(f:Fn):Prop:=
 ∃fd a c,eJ K (.ref fa)=aB/\Binds K fd a []/\c<=k/\bL P w K mg base (cW P w) c fa fd a (dW D a.length f)/\∀b d K Z,f b d K Z->b.length=a.length
structure dQ(k:Nat)(A:Around):Prop where
 dp:A.depth+3*k+5<recursionLimit
 un:A.units+16*k+200<cLine
theorem dQ.mono(r:dQ k A)(h:j<=k):dQ j A:=⟨by have:=r.dp;lia,by have:=r.un;lia⟩
theorem dQ.units{k:Nat}(r:dQ k A):A.units+64<cLine:=by have:=r.un;lia
noncomputable def f7 (A:eN)(H:Hp):Prop:=∀h,A.handled=aA h->∃x b a u,h=cN x/\H x=aA (.frz b u)/\b.data=.fields a/\a[2]?=aA .none
noncomputable def UA(P:cG)(w:dL)(K:bJ)(mg:aG->Option aD)(base:aV)(k:Nat)(f:aF)(fd:FuncData)(ps:List aG)(sp:Sp):Prop:=
 ∀(A:eN) (a:List Env) (s:a9) (H:Hp) (args:Args) (c:List aD) (b:List V) (Q:VK),dQ k A->f7 A H->dB P w K mg base A a s H->lc s fd args (ps.zip c)->aY b c->sp b H Q (λ_ _ _=>False)->
  f9 (aR P w) A (.call (.ref f) args) (CR (λ_ _ _ _ _ _=>False) a P w H s Q (λ_ _ _=>False)) s
noncomputable def ud (x C:aF):aV->Prop:=λh=>∃t,h.get? x=aA {cls:=.ref C,data:=.fields #[.ref t,.none,.none,.none,.bool aC,.none]}
noncomputable def uL(x C dx:aF):aV->Prop:=λh=>∃t,h.get? x=aA {cls:=.ref C,dict:=aA dx,data:=.fields #[.ref t,.none,.none,.none,.bool aC,.none]}
structure ic(K:PySem.W.Frag)(C HE fI:aF)(fl:aG):Prop where
 cls:∃N nm q bs hd sn sub ab col dd k0 k1 k2 k3 k5,K.lookup C=aA (im nm q C N bs (.ref HE::zZ) hd sn sub ab col dd k0 k1 k2 k3 k5 "ValueError.__new__")/\o7 K N=aB/\mF K N "__init__"=aA (aA (.ref fI))
 he:e_ K HE zZ "ValueError.__new__"=aB
 fn:o9 K (.ref fI)=aA (.type "function")
 sa:cO K (.ref C) "__setattr__"=aA (aA (.builtin "object.__setattr__"))
 no:cO K (.ref C) fl=aA aE
 dct:lr K C=aB
 kp:eJ K (.ref C)=aB
noncomputable def mR (C:aF)(fl:aG):Sp:=λa H Q E=>∃(x:aF) (i:Int),a=[.ref x,.int i]/\i.natAbs.log2<1920/\H x=aA (.ext (ud x C))/\∀dx,H dx=aE->dx≠x->Q .non (upd (upd H x (.ext (uL x C dx))) dx (.xd [(fl,.int i)]))
noncomputable def Mf(y:aG)(sc:Scope):Bool:=(sc.kind==.function)&&!sc.isCoroutine&&!sc.isGenerator&&sc.names.all (λy=>y.2 != .free)&&(sc.names.lookup y==aA .local)&&y != ("__debug__":aG)&&y != ("__classdict__":aG)
noncomputable def LU(a c:aF)(qn:aG):aV->Prop:=λh=>∃(y:aG) (f:Pos) (g:Nat) (bp:Pos) (d:Scope) (e b:aD),Mf y d=aB/\h.get? a=aA (lB "<lambda>" qn ⟨[],[⟨y,aE,f⟩],aE,[],[],aE,[]⟩ (.Constant .none g bp) d [] e c b)
noncomputable def FG (t:T):Prop:=t=.clo 0 [.clo 100 []]\/t=.clo 1 []\/t=.clo 2 [.clo 101 []]
noncomputable def I_ (D:DP)(P:cG)(w:dL)(K:bJ)(mg:aG->Option aD)(base:aV)(k:Nat):Prop:=
 ∀(t:T) (c e:List aF) (H:Hp) (v:V),FG t->a_ D c e H t v->∃a h,v=.ref a/\h<=k/\∀(A:eN) (b:List Env) (s:a9),dB P w K mg base A b s H->CZ a s.heap/\(bV h A->∀(u:aD) (x:V) (Q:VK) (t:T) (c e:List aF) (g:aK),RelV x u->a_ D c e H t x->aM D c e H g->(∀d f,aO e H d f->aM D c d f g->Q .non f)->
  f9 (aR P w) A (.call (.ref a) ⟨[u],[]⟩) (CR (cW P w) b P w H s Q (λ_ _ _=>False)) s)
noncomputable def bN.fb(l:bN):FuncBody:=match l.sb with|none=>.expr l.body|some q=>.stmts q.2
noncomputable def bN.nm(l:bN):aG:=match l.sb with|none=>"<lambda>" | some q=>q.1
noncomputable abbrev Bp(name qual:aG)(params:Arguments)(fb:FuncBody)(scope:Scope)(cl:List (aG×aF))(doc b a ct:aD):FuncData:=
 {name,qualname:=qual,params,body:=fb,scope,globals:=bO,closure:=cl,defaults:=.none,kwdefaults:=.none,doc:=doc,pyModule:=b,annotations:=aE,code:=a,closureTuple:=ct,builtins:=lj}
noncomputable def x_(a c:aF)(l:bN)(cl:List (aG×aF)):aV->Prop:=λh=>∃(f:Pos) (e d b:aD),h.get? a=aA {cls:=.type "function",data:=.func (Bp l.nm l.qn ⟨[],[⟨l.y,aE,f⟩],aE,[],[],aE,[]⟩ l.fb l.sc cl b e (.ref c) d)}
noncomputable def Ug(fr:List aG)(cl:List (aG×aF))(cs:List aF):Prop:=fr.map (λx=>cl.lookup x)=cs.map aA/\cs.Nodup/\∀x a,cl.lookup x=aA a->x∈fr
noncomputable def Mb(D:DP)(P:cG)(w:dL)(K:bJ)(mg:aG->Option aD)(base:aV)(k:Nat)(ls:List bN):Prop:=
 ∀(j:Nat) (l:bN) (p:List T) (i m:List aF) (H:Hp) (v:V),ls[j]?=aA l->a_ D i m H (YL j l.jt p) v->∃(a:aF) (r:Nat),v=.ref a/\r<=k/\∀(A:eN) (f:List Env) (s:a9),dB P w K mg base A f s H->CZ a s.heap/\(bV r A->
  ∀(u:aD) (x:V) (Q:VK) (t:T) (n:aK) (z:T->aK->Prop) (y:Xp) (E:XK),RelV x u->a_ D i m H t x->aM D i m H n->l.g (aA t::p.map aA) n z y->(∀q e,z q e->∀b h o,aO m H b h->aM D i b h e->a_ D i b h q o->Q o h)->(∀c fs e,y c fs e->∀b h cv d,aO m H b h->aM D i b h e->iQ D c fs cv->bS D i b h fs d->E cv d h)->
  f9 (aR P w) A (.call (.ref a) ⟨[u],[]⟩) (CR (cW P w) f P w H s Q E) s)
structure lK(D:DP)(ls:List bN):Prop where
 tb:∀(j:Nat) (l:bN),ls[j]?=aA l->∃P' pos,D.tabs l.jt=aA (P',pos,l.qn)
 fn:∀(j:Nat) (l:bN) (a c:aF) (cl:List (aG×aF)) (cs:List aF),ls[j]?=aA l->Ug l.fr cl cs->D.clo (300+j) a (aA (.ext (x_ a c l cl))) (.ref c::cs.map V.ref)
 ce:∀c (o:bA) u x ob,o.data=.cell (aA u)->RelV x u->D.clo 200 c (aA (.frz o ob)) [x]
 co:∀j P' pos qn c,D.tabs j=aA (P',pos,qn)->D.clo (100+j) c (aA (.ext (wa c qn))) []
noncomputable def cE(D:DP)(P:cG)(w:dL)(K:bJ)(mg:aG->Option aD)(base:aV)(k:Nat)(x:aG):GM->Prop
 |.fn f=>∃fa,mg x=aA (.ref fa)/\TQ D P w K mg base k fa f
 |.fnh nm f=>∃fa,mg nm=aA (.ref fa)/\∃fd b e,eJ K (.ref fa)=aB/\Binds K fd b []/\e<=k/\UA P w K mg base e fa fd b (dW D b.length f)/\∀g m K Z,f g m K Z->g.length=b.length
 |.met c nm f=>∃C l fd b e,D.cad c=aA C/\gL K C/\ms K C nm l/\(∀i,D.fn i≠aA nm)/\Binds K fd b []/\e<=k/\bL P w K mg base (cW P w) e l fd b (dW D b.length f)/\∀g m K Z,f g m K Z->g.length=b.length
 |.mk c _ f=>∃C l fd b e,D.cad c=aA C/\mg x=aA (.ref C)/\Mk K C l/\Binds K fd b []/\e+1<=k/\bL P w K mg base (cW P w) e l fd b (dW D b.length f)/\∀g m K Z,f g m K Z->g.length=b.length
 |.cst t=>∃u v,mg x=aA u/\RelV v u/\∀o q H,a_ D o q H t v
 |.xcl c=>∃C,D.adr c=aA C/\mg x=aA (.ref C)/\e_ K C zZ "ValueError.__new__"=aB
 |.xcf c _=>∃C,D.adr c=aA C/\mg x=aA (.ref C)
 |.xbt c n=>mg x=aE/\hS x=aA (.type n)/\x≠"__name__"/\oK c=aA n/\D.adr c=aE
 |.xin c f nm fl=>∃C E l fd b e,D.adr c=aA C/\mg nm=aA (.ref C)/\D.fn f=aA fl/\ic K C E l fl/\Binds K fd b []/\e+1<=k/\bL P w K mg base (cW P w) e l fd b (mR C fl)
 |.mkd c nm n f=>∃C l fd b e,D.cad c=aA C/\mg nm=aA (.ref C)/\Mk K C l/\Binds K fd b [.none]/\e+1<=k/\bL P w K mg base (cW P w) e l fd b (dW D b.length f)/\(∀g m K Z,f g m K Z->g.length=b.length)/\b.length=n+2
 |.metd c nm n d f=>∃C l fd b e du dv,D.cad c=aA C/\gL K C/\ms K C nm l/\(∀i,D.fn i≠aA nm)/\Binds K fd b [du]/\RelV dv du/\(∀o q H,a_ D o q H d dv)/\e<=k/\bL P w K mg base (cW P w) e l fd b (dW D b.length f)/\(∀g m K Z,f g m K Z->g.length=b.length)/\b.length=n+2
 |.kpr=>I_ D P w K mg base k/\∀j B s r,j<2->D.tabs j=aA (B,s,r)->∀a c,D.clo (2*j) a (aA (.ext (LU a c r))) [.ref c]/\D.clo (100+j) c (aA (.ext (wa c r))) []
 |.kap A=>Mb D P w K mg base k A/\lK D A
 |.tbl y=>∃a z,mg x=aA (.ref a)/\(a==gT)=aC/\KV (y.map λp=>((.inr p.1:Key),V.int p.2)) z/\∀h:aV,K.In h->h.DictOf (zN P w) a z
 |.none=>mg x=aE
 |.bad=>True
abbrev FN(D:DP)(X:Cx)(k:Nat)(x:aG)(g:GM):Prop:=cE D X.prog X.w X.K X.mg X.base k x g
structure Cn where
 N:List aG
 G:List aG
 calm:Bool
 gl:aG->GM
 cls:List (aG×Nat)
 fld:List (aG×Nat)
 U:List aG
 cel:List aG
 own:List aG
 lam:Option (Nat×List Pos):=aE
 lnm:aG:="<lambda>"
 fz:List aG:=[]
 qt:Bool:=aC
noncomputable def Cn.sto(Γ:Cn):List aG:=Γ.N.filter λx=>!Γ.fz.contains x
noncomputable def Cn.look(Γ:Cn)(x:aG):GM:=if Γ.G.contains x then Γ.gl x else .bad
noncomputable def cS(D:DP)(mg:aG->Option aD)(base:aV)(code:aD)(qual:aG)(k:Nat)(l:Option (Nat×List Pos))(nm:aG):Prop:=∀j a,l=aA (j,a)->2<=k/\∃c P,code=.ref c/\lx base c P/\base.BuiltinsAt mg P/\D.tabs j=aA (P,a,qual++nm)
theorem cS.no{code:aD}(h:l=aE):cS D mg base code qual k l nm:=λj pos e=>by rw[h] at e;cases e
structure Ck(D:DP)(W:XW)(Γ:Cn)(X:Cx)(k:Nat):Prop where
 hK:X.K=D.K
 hN:X.N=Γ.N
 nd:Γ.N.Nodup
 vis:∀x∈Γ.N,ie X.env.scope x
 dbg:∀x∈Γ.N,(x==("__debug__":aG))=aC/\(x==("__classdict__":aG))=aC
 dbG:∀x∈Γ.G,(x==("__debug__":aG))=aC
 glb:∀x∈Γ.G,Gl X x
 glo:∀x∈Γ.G,FN D X k x (Γ.gl x)
 glU:∀x∈Γ.U,FN D X k x (Γ.gl x)/\(x==("__debug__":aG))=aC
 cel:∀x∈Γ.cel,X.env.kindOf x=aA .cell\/X.env.kindOf x=aA .free
 isi:∀t x c,(x,c)∈Γ.cls->∀u v,Jy D t u->Uy X x v->pI X.K u v=aA (vZ t c)
 fld:∀c C x f,D.cad c=aA C->(x,f)∈Γ.fld->D.fn f=aA x/\gL X.K C/\cL X.K C x
 xcx:∀c C,D.adr c=aA C->iu X.K C
 ocx:∀c C,D.cad c=aA C->mq X.K C
 clv:∀x c,(x,c)∈Γ.cls->∃u v,Uy X x u/\gK v u
 clm:Γ.calm=aB->X.calm=aB
 rom:Γ.calm=aB->bV k X.A
 rmh:dQ k X.A
 xe:∀e s,XP X W e s->X.xe e s
 frm:∃e0 out L,iR X e0 out L
 lam:cS D X.mg X.base X.env.code X.env.qual k Γ.lam Γ.lnm
 kfz:Γ.lam.isSome=aB->∀x∈Γ.fz,X.fn x=aC/\∀c,X.env.cells.lookup x=aA c->X.s₀.heap.objs.size<=c
 qt:Γ.qt=aB->f7 X.A X.H₀
theorem Ck.unt{W:XW}(C:Ck D W Γ X k):X.A.units+64<cLine:=C.rmh.units
theorem wF:∀{N:List aG}{x:aG}{i:Nat},cD N x=aA i->N[i]?=aA x
 |[],_,_,h=>by simp[cD] at h
 |y::r,x,i,h=>by
  simp only[cD] at h;split at h
  ·rename_i e;cases h;simp[e]
  ·cases q:cD r x with
   |none=>rw[q] at h;cases h
   |some j=>rw[q] at h;cases h;simpa using wF q
theorem wt(h:cD N x=aA i):x∈N:=b9 (wF h)
section
variable {X:Cx}{D:DP}{W:XW}{Γ:Cn}{k:Nat}{pins:List (aF×bA)}{s:Shared}{σ:St}{H:Hp}{φ α:List aF}{τ:Sl}{μ:aK}{f g h:De}{a b c:aI}{pos:Pos}
theorem PE.mono(h:PE X e t)(m:∀σ H Q,t' σ H Q->t σ H Q):PE X e t':=λa s σ H Q I q=>h a s σ H Q I (m σ H Q q)
theorem NN{i j pos}:PE X (.Constant (.int i) j pos) (aW D W (eC (.int i))):=PE.mono Nh λd H Q ⟨b,f,c,e,g,a,p⟩=>aJ.here p a rfl
theorem MM{i j pos}:PE X (.Constant (.bool i) j pos) (aW D W (eC (.bl i))):=PE.mono L7 λd H Q ⟨b,f,c,e,g,a,p⟩=>aJ.here p a rfl
theorem NI{j pos}:PE X (.Constant .none j pos) (aW D W (eC .non)):=PE.mono M2 λd H Q ⟨b,f,c,e,g,a,p⟩=>aJ.here p a rfl
theorem N_{i j pos}:PE X (.Constant (.str i) j pos) (aW D W (eC (.str i))):=PE.mono Ve λd H Q ⟨b,f,c,e,g,a,p⟩=>aJ.here p a rfl
theorem GS(C:Ck D W Γ X k)(a:cD Γ.N x=aA i):PE X (.Name x pos) (aW D W (eV i)):=by
 refine PE.mono (yk (i:=i) (by rw[C.hN];exact wF a) (C.vis x (wt a)) (C.dbg x (wt a)).1 (C.dbg x (wt a)).2) ?_;rintro h H Q ⟨f,l,g,j,b,c,p⟩;dsimp only[eV] at p;split at p
 ·rename_i t e;obtain⟨v,q,d⟩:=b.get e;exact⟨v,q,p.here c d⟩
 ·exact p.elim
theorem NA(C:Ck D W Γ X k)(hx:x∈Γ.G)(b:Γ.gl x=.cst t):PE X (.Name x pos) (aW D W (eC t)):=by
 have g:=C.glo x hx;rw[b] at g;obtain⟨u,v,c,r,d⟩:=g;exact PE.mono (Xv (C.glb x hx) c r (C.dbG x hx)) λh H Q ⟨e,j,f,i,l,a,p⟩=>aJ.here p a (d _ _ _)
theorem NP(A:PE X a (aW D W f))(z:PE X b (aW D W g)):PE X (.BinOp a op b pos) (aW D W (zh op f g)):=by
 rintro i s K H Q I ⟨G,M,J,L,q,y,p⟩;refine wpAny_BinOp (aX (sub A I q y p) ?_);rintro u S ⟨v,U,t,k,m,F,w,n,d,h,C,p1⟩;refine aX (sub z F d h p1) ?_;rintro O R ⟨N,T,P,j,l,E,r,c,o,e,B,x⟩;exact Ow E e (C.step c) B w r x
theorem NS(n:PE X a (aW D W f)):PE X (.UnaryOp .USub a pos) (aW D W (ET f)):=by
 rintro b s d H Q I ⟨w,z,x,y,j,m,p⟩;refine UnaryOp_ (aX (sub n I j m p) ?_);rintro u k ⟨v,r,t,e,g,q,l,h,i,c,o,p1⟩;try dsimp only at p1
 split at p1
 ·cases o;exact Nw b k d r _ _ Q q l ⟨_,rfl,p1.here c rfl⟩
 ·exact p1.elim
theorem Ov(m:PE X a (aW D W f)):PE X (.UnaryOp .Not a pos) (aW D W (Bj f)):=by
 rintro d s x H Q I ⟨r,z,w,y,j,l,p⟩;refine UnaryOp_ (aX (sub m I j l p) ?_);rintro u A ⟨v,q,t,e,g,o,k,h,i,c,n,p1⟩;try dsimp only at p1
 split at p1
 ·rename_i b;cases n;cases k;exact not_of (wpAny_truthy_bool ⟨.bl (!b),q,o,rfl,p1.here c rfl⟩)
 ·exact p1.elim
theorem M4(b:PE X a (aW D W f)):PE X (.BoolOp op [a] pos) (aW D W f):=M6 b
theorem Nv(A:PE X a (aW D W f))(z:PE X (.BoolOp .And (b::r) pos) (aW D W g)):PE X (.BoolOp .And (a::b::r) pos) (aW D W (u9 f g)):=by
 rintro c s n H Q I ⟨l,E,m,C,q,y,p⟩;refine BoolOp_and (aX (sub A I q y p) ?_);rintro u w ⟨v,k,t,e,h,j,x,o,i,d,B,p1⟩;try dsimp only at p1
 split at p1
 ·cases B;cases x;rcases p1.br with⟨rfl,p1⟩|⟨rfl,p1⟩
  ·exact wpAny_truthy_bool (z c w n k Q j ⟨l,h,m,e,i,d,p1⟩)
  ·exact wpAny_truthy_bool ⟨.bl aC,k,j,rfl,p1.here d rfl⟩
 ·exact p1.elim
theorem MC(A:PE X a (aW D W f))(z:PE X (.BoolOp .Or (b::r) pos) (aW D W g)):PE X (.BoolOp .Or (a::b::r) pos) (aW D W (HS f g)):=by
 rintro c s n H Q I ⟨l,E,m,C,q,y,p⟩;refine BoolOp_or (aX (sub A I q y p) ?_);rintro u w ⟨v,k,t,e,h,j,x,o,i,d,B,p1⟩;try dsimp only at p1
 split at p1
 ·cases B;cases x;rcases p1.br with⟨rfl,p1⟩|⟨rfl,p1⟩
  ·exact wpAny_truthy_bool ⟨.bl aB,k,j,rfl,p1.here d rfl⟩
  ·exact wpAny_truthy_bool (z c w n k Q j ⟨l,h,m,e,i,d,p1⟩)
 ·exact p1.elim
theorem NV{b:Bool}(c:a_ D φ α H x v)(a:a_ D φ α H y w)(h:BH x y=aA b):rF v w=aB/\decide (v=w)=b:=by
 unfold BH at h
 split at h<;>first
  |(cases h;cases c;cases a;exact⟨rfl,by simp⟩)
  |cases h
theorem N6:dT X (eG .Is) (λx y H Q=>∃a b,x=.bl a/\y=.bl b/\Q (.bl (decide (a=b))) H):=by
 intro c s f H x y v u Q I e d h;obtain⟨a,b,rfl,rfl,q⟩:=h;cases e;cases d;refine wpAny_is_plain (by rfl) ⟨.bl (decide (a=b)),H,I,?_,q⟩;cases a<;>cases b<;>rfl
theorem So:dT X (eG .IsNot) (λx y H Q=>∃a b,x=.bl a/\y=.bl b/\Q (.bl (!decide (a=b))) H):=by
 intro c s f H x y v u Q I e d h;obtain⟨a,b,rfl,rfl,q⟩:=h;cases e;cases d;refine wpAny_isNot_plain (by rfl) ⟨.bl (!decide (a=b)),H,I,?_,q⟩;cases a<;>cases b<;>rfl
theorem Hd{b:Bool}{C:Prop}{x:T}{v w:V}(I:Inv X pins σ H s)(J:X.A.units+64<cLine)(F:aM D φ α H μ)(t:a_ D φ α H x v)(o:a_ D φ α H y w)(p:aJ D W φ α H σ (RV D φ Q) (rV x y μ kk))
  (h1:∀b,aJ D W φ α H σ (RV D φ Q) (kk b)->rF v w=aB/\decide (v=w)=b->C)
  (h2:∀b,aJ D W φ α H σ (RV D φ Q) (kk b)->((∀u1 j,RelV v u1->RelV w j->∀{R:aD->a9->Prop},R (.bool b) s->wpAny (aR X.prog X.w) X.A (eG .Eq u1 j) R X.xe s)/\(∀u1 j,RelV v u1->RelV w j->∀{R:aD->a9->Prop},R (.bool (!b)) s->wpAny (aR X.prog X.w) X.A (eG .NotEq u1 j) R X.xe s))->C):C:=by
 have lst:∀{u E:List T}{c d:aF}{h g:List V},v=.ref c->w=.ref d->Rd H c (.lst h)->Rd H d (.lst g)->aN D φ α H u h->aN D φ α H E g->aJ D W φ α H σ (RV D φ Q) (RE.grd (w_ u<=40) (.som (cK u E) kk))->C:=λ{u E c d h g} f e r a l l' p=>by
  obtain⟨hd,p⟩:=p.grd;obtain⟨b,m,p⟩:=p.som;subst f e;exact h2 b p ⟨λu1 j k i R q=>by cases k;cases i;exact Ul I l l' r a m (by lia) _ _ _ _ q,λu1 j k i R q=>by cases k;cases i;exact UG I l l' r a m (by lia) _ _ _ _ q⟩
 unfold rV at p;split at p
 ·obtain⟨hd,p⟩:=p.grd;obtain⟨b,m,p⟩:=p.som;obtain⟨c,h,rfl,_,_,r,l⟩:=t;obtain⟨d,g,rfl,_,_,a,l'⟩:=o;exact h2 b p ⟨λu1 j k i R q=>by cases k;cases i;exact Sm I l l' r a m (by lia) _ _ _ _ q,λu1 j k i R q=>by cases k;cases i;exact R9 I l l' r a m (by lia) _ _ _ _ q⟩
 ·obtain⟨c,h,f,_,_,r,l⟩:=t;obtain⟨d,g,e,_,_,a,l'⟩:=o;exact lst f e r a l l' p
 ·obtain⟨u,n,p⟩:=p.ex1;obtain⟨c,B,f⟩:=t;obtain⟨h,q,l⟩:=F.ob _ c _ B n;obtain⟨d,g,e,_,_,a,l'⟩:=o;exact lst f e (.inl q) a l l' p
 ·obtain⟨E,n,p⟩:=p.ex1;obtain⟨c,B,e⟩:=o;obtain⟨h,q,l⟩:=F.ob _ c _ B n;obtain⟨d,g,f,_,_,a,l'⟩:=t;exact lst f e a (.inl q) l' l p
 ·obtain⟨z,n,p⟩:=p.ex1;obtain⟨c,B,f⟩:=t;obtain⟨h,q,l⟩:=F.ob _ c _ B n.1;obtain⟨d,hd,e⟩:=o;obtain⟨g,G,l'⟩:=F.ob _ d _ hd n.2;exact lst f e (.inl q) (.inl G) l l' p
 ·split at p
  ·rename_i m;exact h1 _ p (NV t o m)
  ·exact p.elim
theorem WV{x:T}{v w:V}{j:aD}{Q:VK}(I:Inv X pins σ H s)(o:X.A.units+64<cLine)(f:aM D φ α H μ)(d:a_ D φ α H x v)(e:a_ D φ α H y w)(i:RelV v u1)(g:RelV w j)
  (p:aJ D W φ α H σ (RV D φ Q) (Qc op x y μ)):wpAny (aR X.prog X.w) X.A (eG op u1 j) (EP X pins σ Q) X.xe s:=by
 unfold Qc at p;split at p
 ·refine Hd (b:=aB) I o f d e p (λb q h=>?_) (λb q h=>?_)
  ·obtain⟨l,k⟩:=h;exact Lm pins s σ H v w u1 j Q I i g ⟨l,by rw[k];exact aJ.here q f rfl⟩
  ·exact h.1 _ _ i g ⟨.bl b,H,I,rfl,aJ.here q f rfl⟩
 ·refine Hd (b:=aC) I o f d e p (λb q h=>?_) (λb q h=>?_)
  ·obtain⟨l,k⟩:=h;exact Mj pins s σ H v w u1 j Q I i g ⟨l,by rw[k];exact aJ.here q f rfl⟩
  ·exact h.2 _ _ i g ⟨.bl (!b),H,I,rfl,aJ.here q f rfl⟩
 ·unfold HJ at p;split at p
  ·cases d;cases e;exact Mt pins s σ H _ _ u1 j Q I i g ⟨_,_,rfl,rfl,aJ.here p f rfl⟩
  ·obtain⟨r,C,p⟩:=p.som;obtain⟨t,B,p⟩:=p.som;obtain⟨a,F,rfl,_,_,n,z⟩:=d;obtain⟨c,E,rfl,_,_,m,u⟩:=e;rw[kB C z] at n;rw[kB B u] at m;exact MW (by omega) pins s σ H _ _ u1 j Q I i g ⟨a,c,r,t,rfl,rfl,.inl n,.inl m,aJ.here p f rfl⟩
  ·have d:v=.str _:=d;have e:w=.str _:=e;subst d e;obtain⟨J,rfl⟩:=i;obtain⟨G,rfl⟩:=g;exact PySem.P.lt_str ⟨.bl _,H,I,rfl,aJ.here p f rfl⟩
  ·exact p.elim
 ·split at p
  ·cases d;cases e;exact Mx pins s σ H _ _ u1 j Q I i g ⟨_,_,rfl,rfl,p.here f rfl⟩
  ·exact p.elim
 ·split at p
  ·cases d;cases e;exact L5 pins s σ H _ _ u1 j Q I i g ⟨_,_,rfl,rfl,p.here f rfl⟩
  ·exact p.elim
 ·split at p
  ·cases d;cases e;exact Mu pins s σ H _ _ u1 j Q I i g ⟨_,_,rfl,rfl,p.here f rfl⟩
  ·exact p.elim
 ·split at p
  ·cases e;refine Nz pins s σ H _ _ u1 j Q I i g ⟨rfl,?_⟩;have q:=p.here f rfl
   cases x<;>first
    |(have d:v=_:=d;subst d;simpa using q)
    |(obtain⟨_,_,rfl,_⟩:=d;simpa using q)
    |(obtain⟨_,_,_,_,rfl,_⟩:=d;simpa using q)
    |(obtain⟨_,_,rfl⟩:=d;simpa using q)
    |(obtain⟨_,_,_,rfl,_⟩:=d;simpa using q)
  ·split at p
   ·have d:v=.bl _:=d;have e:w=.bl _:=e;subst d e;exact N6 pins s σ H _ _ u1 j Q I i g ⟨_,_,rfl,rfl,p.here f rfl⟩
   ·exact p.elim
  ·exact p.elim
 ·split at p
  ·cases e;refine P_ pins s σ H _ _ u1 j Q I i g ⟨rfl,?_⟩;have q:=p.here f rfl
   cases x<;>first
    |(have d:v=_:=d;subst d;simpa using q)
    |(obtain⟨_,_,rfl,_⟩:=d;simpa using q)
    |(obtain⟨_,_,_,_,rfl,_⟩:=d;simpa using q)
    |(obtain⟨_,_,rfl⟩:=d;simpa using q)
    |(obtain⟨_,_,_,rfl,_⟩:=d;simpa using q)
  ·split at p
   ·have d:v=.bl _:=d;have e:w=.bl _:=e;subst d e;exact So pins s σ H _ _ u1 j Q I i g ⟨_,_,rfl,rfl,p.here f rfl⟩
   ·exact p.elim
  ·exact p.elim
 ·split at p
  ·have d:v=.str _:=d;have e:w=.str _:=e;subst d e;exact Yx pins s σ H _ _ u1 j Q I i g ⟨_,_,rfl,rfl,p.here f rfl⟩
  ·exact p.elim
 ·split at p
  ·have d:v=.str _:=d;have e:w=.str _:=e;subst d e;exact Vm pins s σ H _ _ u1 j Q I i g ⟨_,_,rfl,rfl,p.here f rfl⟩
  ·exact p.elim
noncomputable def qB:aI->Bool
 |.Name _ _=>aB
 |.Constant _ _ _=>aB
 |.BinOp _ _ _ _=>aB
 |.UnaryOp _ _ _=>aB
 |.Call _ _ _ _=>aB
 |.Subscript _ _ _=>aB
 |.Attribute _ _ _=>aB
 |_=>aC
noncomputable def vA:aI->Bool
 |.Set _ _ _=>aC
 |_=>aB
noncomputable def xN:eO->Bool
 |.In=>aC|.NotIn=>aC
 |_=>aB
noncomputable def jr(op:eO)(b:aI):Bool:=xN op || vA b
noncomputable def kD:eO->Bool
 |.Lt=>aB|.LtE=>aB|.Gt=>aB|.GtE=>aB|.Eq=>aB|.NotEq=>aB
 |_=>aC
theorem jU(h:jr op b=aB):sK op b=aC:=by
 cases a:xN op with
 |true=>exact US b (by rintro rfl;simp[xN] at a) (by rintro rfl;simp[xN] at a)
 |false=>
  have c:vA b=aB:=by unfold jr at h;rw[a] at h;exact h
  cases b<;>first|rfl|(simp[vA] at c)
theorem MS(C:Ck D W Γ X k)(ho:jr op b=aB)(B:PE X a (aW D W f))(A:PE X b (aW D W g)):PE X (.Compare a [op] [b] pos) (aW D W (zE op f g)):=by
 rintro i s M H Q I ⟨K,O,L,N,r,z,p⟩;refine tj (aX (sub B I r z p) ?_) (jU ho);rintro u U ⟨v,Y,t,l,n,J,x,o,d,h,F,p1⟩;refine aX (sub A J d h p1) ?_;rintro R T ⟨P,V,S,j,m,G,w,c,q,e,E,y⟩;exact WV G C.unt e (F.step c) E x w y
theorem uw{R:β->aK->List aF->Hp->Prop}{kk:T->aK->RE β}{x y:T}{v w:V}{u1:aD}(I:Inv X pins σ H s)(g:X.A.units+64<cLine)(f:aM D φ α H μ)(i:a_ D φ α H x v)(h:a_ D φ α H y w)(e:RelV v u1)(c:RelV w C)
  (p:aJ D W φ α H σ R ((Qc op x y μ).bind kk)):wpAny (aR X.prog X.w) X.A (eG op u1 C) (EP X pins σ λz B=>∃t r j,aO α H j B/\aM D φ j B r/\a_ D φ j B t z/\aJ D W φ j B σ R (kk t r)) X.xe s:=
 WV I g f i h e c (p.bind.mono λt a b k st m q v d=>⟨t,a,b,st,m,d,q⟩)
theorem jj:∀{ops:List eO}{es:List aI},ops.all kD=aB->lastMarks ops es=aC
 |[],es,_=>by cases es<;>rfl
 |[op],[],_=>rfl
 |[op],[e],h=>US e (by rintro rfl;simp[kD] at h) (by rintro rfl;simp[kD] at h)
 |[op],_::_::_,_=>rfl
 |op::a::ops,[],_=>rfl
 |op::a::ops,e::es,h=>by
  have:lastMarks (a::ops) es=aC:=jj (by simp only[iX,cB] at h ⊢;exact h.2);cases es with
  |nil=>cases ops<;>rfl
  |cons b es=>exact this
noncomputable def Ua (X:Cx)(D:DP)(W:XW):List aI->List (eO×De)->Prop
 |[],[]=>True
 |e::es,p::a=>PE X e (aW D W p.2)/\Ua X D W es a
 |_,_=>False
theorem J8(B:X.A.units+64<cLine){Q:VK}:∀{ps:List (eO×De)}{es:List aI}{s:a9}{H:Hp}{α:List aF}{μ:aK}{x:T}{v:V}{u:aD},Ua X D W es ps->Inv X pins σ H s->aZ D φ α H τ σ->aM D φ α H μ->a_ D φ α H x v->RelV v u->aJ D W φ α H σ (RV D φ Q) (oA ps x τ μ)->
  wpAny (aR X.prog X.w) X.A (compareChain pos u (ps.map (·.1)) (evalEach es X.env)) (EP X pins σ Q) X.xe s
 |[],_,_,_,_,_,_,_,_,_,_,_,_,_,_,p=>p.elim
 |[(op,g)],[],_,_,_,_,_,_,_,h,_,_,_,_,_,_=>h.elim
 |[(op,g)],[e],s,H,α,μ,x,v,u,h,I,o,y,d,r,p=>by
  refine chain_last (aX (sub h.1 I o y p) ?_);rintro K M ⟨J,Y,L,m,n,C,k,b,i,c,l,q⟩;exact WV C B c (d.step b) l r k q
 |[(op,g)],_::_::_,_,_,_,_,_,_,_,h,_,_,_,_,_,_=>h.2.elim
 |(op,g)::O::ps,[],_,_,_,_,_,_,_,h,_,_,_,_,_,_=>h.elim
 |(op,g)::O::ps,[e],_,_,_,_,_,_,_,h,_,_,_,_,_,_=>h.2.elim
 |(op,g)::(t,P)::ps,e::R::es,s,H,α,μ,x,v,u,h,I,o,y,d,r,p=>by
  refine chain_link (aX (sub h.1 I o y p) ?_);rintro K M ⟨J,Y,L,m,n,C,k,b,i,c,l,q⟩;refine aX (uw C B c (d.step b) l r k q) ?_;rintro dd s3 ⟨z,U,E,N,Z,F,G,f,j,S,a⟩;try dsimp only at a
  split at a
  ·cases S;cases N;rcases a.br with⟨rfl,a⟩|⟨rfl,a⟩
   ·exact wpAny_truthy_bool (ite_tt (J8 B (ps:=(t,P)::ps) (es:=R::es) h.2 E (i.step f) j (l.step f) k a))
   ·exact wpAny_truthy_bool (ite_ff ⟨.bl aC,U,E,rfl,a.here j rfl⟩)
  ·exact a.elim
theorem SY(C:Ck D W Γ X k)(ho:(p1::d::ps).all (λp=>kD p.1)=aB)(o:PE X a (aW D W f))(h:Ua X D W (q::r::es) (p1::d::ps)):PE X (.Compare a (p1.1::d.1::ps.map (·.1)) (q::r::es) pos) (aW D W (mV f (p1::d::ps))):=by
 rintro e s A H Q I ⟨y,E,z,B,l,n,p⟩;refine Compare_chain (aX (sub o I l n p) ?_) (jj (by simpa[px,tF] using ho));rintro u F ⟨v,G,t,g,i,x,m,j,b,c,w,p1⟩;exact J8 C.unt h x b c w m p1
theorem XB(O:X.A.units+64<cLine){β:Type}{R:β->aK->List aF->Hp->Prop}{kk:Bool->aK->RE β}:∀{ps:List (eO×De)}{es:List aI}{s:a9}{H:Hp}{α:List aF}{μ:aK}{x:T}{v:V}{u:aD}{Q:Bool->Hp->Prop},Ua X D W es ps->Inv X pins σ H s->aZ D φ α H τ σ->aM D φ α H μ->a_ D φ α H x v->RelV v u->aJ D W φ α H σ (λb _ _ j=>Q b j) ((oA ps x τ μ).bind yc)->
  wpAny (aR X.prog X.w) X.A (testChain pos u (ps.map (·.1)) (evalEach es X.env)) (TP X pins σ Q) X.xe s
 |[],_,_,_,_,_,_,_,_,_,_,_,_,_,_,_,p=>aJ.elim p
 |[(op,g)],[],_,_,_,_,_,_,_,_,h,_,_,_,_,_,_=>h.elim
 |[(op,g)],[e],s,H,α,μ,x,v,u,Q,h,I,K,N,d,r,p=>by
  have p:aJ D W φ α H σ (λb _ _ j=>Q b j) ((g τ μ).bind λy i=>(Qc op x y i).bind yc):=p;refine test_last (aX (sub h.1 I K N p) ?_);rintro Z s2 ⟨Y,H2,t',c,J,S,E,n,t,o,F,M⟩;refine aX (uw S O o (d.step n) F r E M) ?_;rintro dd s3 ⟨z,C,G,L,t3,q,l,m,f,P,a⟩;unfold yc at a;split at a
  ·cases P;cases L;exact wpAny_truthy_bool ⟨C,G,a.ok (aO.refl _ _) f⟩
  ·exact a.elim
 |[(op,g)],_::_::_,_,_,_,_,_,_,_,_,h,_,_,_,_,_,_=>h.2.elim
 |(op,g)::p'::ps,[],_,_,_,_,_,_,_,_,h,_,_,_,_,_,_=>h.elim
 |(op,g)::p'::ps,[e],_,_,_,_,_,_,_,_,h,_,_,_,_,_,_=>h.2.elim
 |(op,g)::(B,U)::ps,e::e'::es,s,H,α,μ,x,v,u,Q,h,I,K,N,d,r,p=>by
  have p:aJ D W φ α H σ (λb _ _ j=>Q b j) ((g τ μ).bind λy i=>(Qc op x y i).bind λk c=>(match k with|.bl b=>RE.br b (oA ((B,U)::ps) y τ c) (.ok (.bl aC) c)|_=>RE.st:RE T).bind yc):=p;refine test_link (aX (sub h.1 I K N p) ?_);rintro Z s2 ⟨Y,H2,t',c,J,S,E,n,t,o,F,M⟩;refine aX (uw S O o (d.step n) F r E M) ?_;rintro dd s3 ⟨z,C,G,L,t3,q,l,m,f,P,a⟩;try dsimp only at a
  split at a
  ·rename_i bb;cases P;cases L;cases bb with
   |true=>exact wpAny_truthy_bool (ite_tt (XB O (kk:=kk) (R:=R) (ps:=(B,U)::ps) (es:=e'::es) h.2 G (t.step m) f (F.step m) E a))
   |false=>
    have a:aJ D W φ l C σ (λb _ _ j=>Q b j) (RE.ok aC q):=a;exact wpAny_truthy_bool (ite_ff ⟨C,G,a.ok (aO.refl _ _) f⟩)
  ·have a:aJ D W φ l C σ (λb _ _ j=>Q b j) RE.st:=a;exact a.elim
end
section
variable {X:Cx}{D:DP}{W:XW}{Γ:Cn}{k:Nat}{pins:List (aF×bA)}{s:Shared}{σ:St}{H:Hp}{φ α:List aF}{τ:Sl}{μ:aK}{f g h:De}{ft gt:Dt}{a b c:aI}{pos:Pos}
theorem Xz(m:PE X a (aW D W f))(he:∀d,isTrue a X.env d=(do let v ←d;standAt a.pos;nn [v] (truthy v))):PT X a (eL D W (tE f)):=by
 rintro c s x H Q I ⟨r,z,w,y,j,l,p⟩;rw[he];refine wpAny_bind (aX (sub m I j l p) ?_);rintro u A ⟨v,q,t,e,g,o,k,h,i,b,n,p1⟩;unfold yc at p1;split at p1
 ·cases n;cases k;exact wpAny_bind (hX (wpAny_holding (wpAny_truthy_bool ⟨q,o,p1.ok (aO.refl _ _) b⟩)))
 ·exact p1.elim
theorem Kn(C:Ck D W Γ X k)(ho:jr op b=aB)(V:PE X a (aW D W f))(U:PE X b (aW D W g)):PT X (.Compare a [op] [b] pos) (eL D W (tE (zE op f g))):=by
 rintro q s w H Q I ⟨r,J,o,B,N,T,p⟩;have p:aJ D W r J H w (λb _ _ H'=>Q b H') ((f o B).bind λx e=>(g o e).bind λy c=>(Qc op x y c).bind yc):=p;refine tK (aX (sub V I N T p) ?_) (jU ho);rintro u s1 ⟨v,H1,t,e,G,I1,R,L,j,n,d1,p1⟩;refine aX (sub U I1 j n p1) ?_;rintro u' s2 ⟨v',H2,t',c,F,I2,P,i,M,m,Z,S⟩;refine aX (uw I2 C.unt m (d1.step i) Z R P S) ?_;rintro d s3 ⟨z,H3,I3,O,t3,A,E,K,l,Y,h⟩;unfold yc at h;split at h
 ·cases Y;cases O;exact wpAny_truthy_bool ⟨H3,I3,h.ok (aO.refl _ _) l⟩
 ·exact h.elim
theorem JK(C:Ck D W Γ X k)(ho:(p1::d::ps).all (λp=>kD p.1)=aB)(A:PE X a (aW D W f))(h:Ua X D W (E::B::es) (p1::d::ps)):PT X (.Compare a (p1.1::d.1::ps.map (·.1)) (E::B::es) pos) (eL D W (tE (mV f (p1::d::ps)))):=by
 rintro j s m H Q I ⟨l,q,i,n,w,z,p⟩;have p:aJ D W l q H m (λb _ _ J=>Q b J) ((f i n).bind λx c=>(oA (p1::d::ps) x i c).bind yc):=p;refine isTrue_chain (aX (sub A I w z p) ?_) (jj (by simpa[px,tF] using ho));rintro u K ⟨v,L,t,c,o,G,y,r,e,g,F,p1⟩;exact XB (kk:=λ_ _=>RE.st (β:=Bool)) (R:=λ_ _ _ _=>True) C.unt h G e g F y p1
theorem MQ(v:PT X a (eL D W ft))(u:PW X (.BoolOp .And (b::r) pos) (eL D W gt)):PW X (.BoolOp .And (a::b::r) pos) (eL D W (xm ft gt)):=by
 intro d e s k H Q I t;refine Oo v u d e s k H Q I ?_;obtain⟨h,n,i,l,j,o,p⟩:=t;refine⟨h,n,i,l,j,o,p.bind.mono λc f g w st m q=>?_⟩;rcases q.br with⟨rfl,q⟩|⟨rfl,q⟩
 ·exact⟨h,g,i,f,j.step st,m,q⟩
 ·exact q.ok (aO.refl _ _) m
theorem Mh(v:PT X a (eL D W ft))(u:PW X (.BoolOp .Or (b::r) pos) (eL D W gt)):PW X (.BoolOp .Or (a::b::r) pos) (eL D W (fO ft gt)):=by
 intro d e s k H Q I t;refine Ma v u d e s k H Q I ?_;obtain⟨h,n,i,l,j,o,p⟩:=t;refine⟨h,n,i,l,j,o,p.bind.mono λc f g w st m q=>?_⟩;rcases q.br with⟨rfl,q⟩|⟨rfl,q⟩
 ·exact q.ok (aO.refl _ _) m
 ·exact⟨h,g,i,f,j.step st,m,q⟩
theorem N2(o:PT X a (eL D W ft)):PT X (.UnaryOp .Not a pos) (eL D W (qW ft)):=by
 intro b s f H Q I n;refine Oz o b s f H Q I ?_;obtain⟨d,j,e,h,k,l,p⟩:=n;exact⟨d,j,e,h,k,l,p.bind.mono λc g i r st m q=>q.ok (aO.refl _ _) m⟩
theorem LV(w:PT X c (eL D W ft))(y:PE X a (aW D W f))(x:PE X b (aW D W g)):PE X (.IfExp c a b pos) (aW D W (oJ ft f g)):=by
 rintro e s n H Q I ⟨l,A,m,z,u,v,p⟩;refine wpAny_IfExp (aX (F9 w I u v p) ?_);rintro d o ⟨r,h,i,q,t,j,k,p1⟩;rcases p1.br with⟨rfl,p1⟩|⟨rfl,p1⟩
 ·exact y e o n r Q q ⟨l,i,m,h,j,k,p1⟩
 ·exact x e o n r Q q ⟨l,i,m,h,j,k,p1⟩
noncomputable def qg:aI->Bool
 |.Name _ _=>aB
 |.Attribute _ _ _=>aB
 |.Subscript _ _ _=>aB
 |.Call (.Name x _) _ _ _=>x != ("super":aG)
 |.Call (.Attribute _ _ _) _ _ _=>aB
 |_=>aC
theorem aJ.ex3{β b a c:Type}{R:β->aK->List aF->Hp->Prop}{P:b->a->Prop}{d:b->a->c->Prop}{r:b->a->c->RE β}(p:aJ D W φ α H σ R (λK Z=>∃x y z,P x y/\d x y z/\r x y z K Z)):∃x y z,P x y/\d x y z/\aJ D W φ α H σ R (r x y z):=by
 obtain⟨K,Z,⟨x,y,z,h1,h2,q⟩,h⟩:=p;exact⟨x,y,z,h1,h2,K,Z,q,h⟩
theorem aJ.ex2{β a b:Type}{R:β->aK->List aF->Hp->Prop}{P:a->Prop}{c:a->b->Prop}{r:a->b->RE β}(p:aJ D W φ α H σ R (λK Z=>∃x y,P x/\c x y/\r x y K Z)):∃x y,P x/\c x y/\aJ D W φ α H σ R (r x y):=by
 obtain⟨K,Z,⟨x,y,h1,h2,q⟩,h⟩:=p;exact⟨x,y,h1,h2,K,Z,q,h⟩
theorem j8(h:qB b=aB):RC b:=by
 intro o i;cases b<;>first|(simp[qB] at h;done)|rfl
theorem ZR(l:aN D φ α H ts xs)(h:vY ts i=aA t):∃v,mj xs i=aA v/\a_ D φ α H t v:=by
 unfold vY at h;have e:oH xs.length i=oo ts.length i:=by rw[l.length];rfl
 unfold mj;rw[e];cases q:oo ts.length i with
 |none=>rw[q] at h;cases h
 |some j=>
  rw[q] at h;exact l.get h
theorem L4(i:qB b=aB)(hK:X.K=D.K)(Y:PE X a (aW D W f))(V:PE X b (aW D W g)):PE X (.Subscript a b pos) (aW D W (bD f g)):=by
 rintro e s n H Q I ⟨φ,α,τ,μ,P,R,p⟩;refine Subscript_ (aX (sub Y I P R p) ?_);rintro u s1 ⟨v,H1,t,J,M,I1,x,N,C,E,j,p1⟩;refine aX (sub V I1 C E p1) ?_;rintro u' o ⟨v',A,t',G,L,y,q,B,O,h,d2,d⟩;have j:=j.step B;unfold Gq at d;split at d
 ·cases d2;split at d
  ·obtain⟨w,hw,d⟩:=d.som;obtain⟨ad,k,rfl,_,_,r,l⟩:=j;obtain⟨z,m,dz⟩:=ZR l hw;exact X8 a b e o n A _ _ _ _ Q y x q ⟨ad,k,_,z,rfl,rfl,.inl r,m,d.here h dz⟩ (j8 i _ _)
  ·obtain⟨w,hw,d⟩:=d.som;obtain⟨ad,k,rfl,_,_,r,l⟩:=j;obtain⟨z,m,dz⟩:=ZR l hw;exact Oh a b e o n A _ _ _ _ Q y x q ⟨ad,k,_,z,rfl,rfl,.inl r,m,d.here h dz⟩ (j8 i _ _)
  ·obtain⟨ts,w,T,hw,d⟩:=d.ex2;obtain⟨ad,F,rfl⟩:=j;obtain⟨k,Z,l⟩:=h.ob _ ad _ F T;obtain⟨z,m,dz⟩:=ZR l hw;exact X8 a b e o n A _ _ _ _ Q y x q ⟨ad,k,_,z,rfl,rfl,.inl (.inl Z),m,aJ.here d h dz⟩ (j8 i _ _)
  ·obtain⟨S,d⟩:=d.grd;obtain⟨c,U,d⟩:=d.som;have j:v=.str _:=j;subst j;exact MX a b e o n A _ _ _ _ Q y x q ⟨_,_,c,rfl,rfl,zA S,U,d.here h rfl⟩ (j8 i _ _)
  ·exact d.elim
 ·exact d.elim
noncomputable def aT:aI->Bool
 |.Starred _ _=>aC
 |_=>aB
theorem z6(h:aT e=aB):d7 (e::es) env=(aC,eval e env)::d7 es env:=by
 cases e<;>first|(simp[aT] at h;done)|rfl
theorem qT(h:es.all aT=aB):(fJ pos (d7 es env)).any (·.1)=aC:=by
 induction es with
 |nil=>rfl
 |cons e es a=>
  simp only[iX,cB] at h;rw[z6 h.1];have:=a h.2
  first
   |(simp[fJ] at this ⊢;exact this)
   |(simpa[fJ] using this)
theorem N9:PA X [] (oE D W 0 (gF [])):=by
 rintro b a s c H Q I ⟨e,h,f,g,i,d,p⟩;exact qU b a s c H Q I (aJ.ok p (aO.refl _ _) d [] rfl rfl)
theorem OY(hs:aT e=aB)(G:PE X e (aW D W f))(C:PA X es (oE D W n (gF fs))):PA X (e::es) (oE D W (n+1) (gF (f::fs))):=by
 intro k c s l H Q I E;refine zM G C (z6 hs) k c s l H Q I ?_;obtain⟨h,r,g,o,w,A,p⟩:=E;have p:aJ D W h r H l _ ((f g o).bind λt a=>(gF fs g a).bind λu b=>.ok (t::u) b):=p;refine⟨h,r,g,o,w,A,p.bind.mono λt a i K st m q v d=>?_⟩;refine⟨h,i,g,a,w.step st,m,q.bind.mono λu b x J j B z y dl F=>?_⟩;exact z.ok (aO.refl _ _) B _ ⟨v,y,rfl,d.step j,dl⟩ (by simp[F])
noncomputable def dD (X:Cx)(D:DP)(W:XW):List aI->List De->Prop
 |[],[]=>True
 |e::es,f::fs=>aT e=aB/\PE X e (aW D W f)/\dD X D W es fs
 |_,_=>False
theorem vI:∀{es:List aI}{fs:List De},dD X D W es fs->PA X es (oE D W es.length (gF fs))
 |[],[],_=>N9
 |e::es,f::fs,h=>OY h.1 h.2.1 (vI h.2.2)
 |[],_::_,h=>h.elim
 |_::_,[],h=>h.elim
theorem dD.stars:∀{es:List aI}{fs:List De},dD X D W es fs->es.all aT=aB
 |[],[],_=>rfl
 |e::es,f::fs,h=>by simp[h.1,dD.stars h.2.2]
 |[],_::_,h=>h.elim
 |_::_,[],h=>h.elim
theorem Op(n:es.length<=aQ)(h:dD X D W es fs):PE X (.List es pos) (aW D W (qx fs)):=by
 refine PE.mono (GV (vI h)) ?_;rintro o H Q ⟨b,g,c,e,j,k,p⟩;refine⟨b,g,c,e,j,k,p.bind.mono λr d f s st m q i dl l=>⟨by rw[l];exact zA n,λz a=>?_⟩⟩;exact q.fresh m (zf a) ⟨z,i,rfl,zk m a,zm m a,.inl z3,dl.step (aO.new (zf a))⟩
theorem Ol(n:es.length<=aQ)(h:dD X D W es fs):PE X (.Tuple es kk pos) (aW D W (zG fs)):=by
 refine PE.mono (G7 (vI h)) ?_;rintro o H Q ⟨b,g,c,e,j,k,p⟩;refine⟨b,g,c,e,j,k,p.bind.mono λr d f s st m q i dl l=>⟨by rw[l];exact zA n,λz a=>?_⟩⟩;exact q.fresh m (zf a) ⟨z,i,rfl,zk m a,zm m a,.inl z3,dl.step (aO.new (zf a))⟩
end
section
open PySem.W
theorem Wh{K:Frag}(X:K.In s.heap)(I:InstAt s.heap x ox D od)
 (f:cO K (.ref D) "__getattribute__"=aA (aA (.builtin "BaseException.__getattribute__"))) (hk:cO K (.ref D) "__getattr__"=aA aE)
 (l:oW K D od "__class__"=aA (.bind (.builtin "getset_descriptor.__get__") (.builtin "object.__class__"))) (k:gN K D (.type "object")=aA aB) (n:gN K D (.type "BaseException")=aA aB)
 (h:Q (aA (.ref D)) {s with toks:=s.toks+1}):wpAny (aR prog w) A (getAttr? (.ref x) "__class__") Q E s:=by
 obtain⟨j,g,d,t,os⟩:=s;have b:=I.type (M:=aR prog w);have u:=mD (M:=aR prog w) X f;have L2:=mD (M:=aR prog w) X hk;have i:=looks_find (M:=aR prog w) X I l;have r:=looks_mroIn (M:=aR prog w) X n;have p:=pV.ga.bind (.ref x);unfold getAttr? getAttrBy? getAttrBy;refine wpAny_bind (wpAny_mkText (wpAny_bind (mJ (wpAny_holding (wpAny_bind (b.at (wpAny_bind (u.at ?_))))))));show wpAny _ _ (pO (.ref x) _ (.ref D) (.builtin "BaseException.__getattribute__") aC aC) _ _ _;unfold pO hookBefore;refine wpAny_bind ?_;show wpAny _ _ (nu (.ref D) "__getattr__") _ _ _;refine L2.at ?_;refine wpAny_bind (mJ (wpAny_holding ?_));unfold Do boundAndCalled;show wpAny _ _ (sk (.builtin "BaseException.__getattribute__") (.ref x) >>= _) _ _ _;rw[p];refine wpAny_bind (wpAny_pure ?_);show wpAny _ _ (call (.builtin "BaseException.__getattribute__") [.ref x,.str "__class__" _]) _ _ _;refine hW (rb pV.ga.plain EC ?_);have e:builtinKind "BaseException.__getattribute__"=aA .slot:=by decide +kernel
 have c:splitId "BaseException.__getattribute__"=aA ("BaseException","__getattribute__"):=by decide +kernel
 have o:=El (.ref x) (.str "__class__" t);have q:mC (aR prog w) j (o_ (.ref x) (.type "BaseException")) aB:=b.andThen r;simp only[Dn,e,c];refine wpAny_bind (q.at ?_);simp only[CD,nN,if_false];refine lp (a:=()) o ?_;unfold iS.«object.__getattribute__»;refine wpAny_bind (m:=slotArgs _ _ _) (wpAny_pure ?_);dsimp only;refine wpAny_bind ?_;show wpAny _ _ (rj (.str "__class__" t)) _ _ _
 first
  |exact wpAny_pure (wpAny_bind (b.at (wpAny_bind (i.at ?_))))
  |(refine wpAny_pure (wpAny_bind (b.at (wpAny_bind (i.at ?_)))))
  |(unfold rj;refine wpAny_pure (wpAny_bind (b.at (wpAny_bind (i.at ?_)))))
 dsimp only;unfold IB;show wpAny _ _ (nn [CB "object.__class__"] (call (.builtin "getset_descriptor.__get__") [.builtin "object.__class__",.ref x,.ref D]) >>= ret) _ _ _;refine wpAny_bind (wpAny_holding (hW (class_get (s:=⟨j,g,d,t+1,os⟩) X I k ?_)));refine wpAny_pure ?_;exact handed_on rfl (wpAny_pure h)
theorem iu.fo{K:Frag}(h:iu K C)(od:Option bA):oW K C od "__class__"=aA (.bind (.builtin "getset_descriptor.__get__") (.builtin "object.__class__")):=by
 have a:=h.cl;obtain⟨cd,e⟩:=rf.mp a;unfold oW;rw[e,h.fi];simp only[pE];rw[h.sp];simp only[pE];rw[h.tk];rfl
noncomputable def Tz (x C:aF)(d:Option aF)(h:aV):Prop:=yg x C d h/\∀dx,d=aA dx->∃o,h.get? dx=aA o
theorem Uv{K:Frag}(b:iu K C):KitX K (.ref x) (.ref C) (Tz x C d) where
 ty:=λM h _ p=>by
  obtain⟨⟨j,t,g,f,r,m⟩,_⟩:=p;exact f▸(Cq g).andThen .now
 it:=λM h X _=>by
  have a:=b.cl;unfold lQ at a;split at a
  ·rename_i A y s i c;intro G E F D k q;unfold isType loadHead;exact wpAny_bind (wpAny_loadPart (k _ _ (X _ _ c)) (wpAny_pure q))
  ·cases a
 ne:=λh u dd v n B X l=>by
  refine DZ.mpr λq=>?_;have e:C=u:=Value.ref.inj (beq_iff_eq.mp q);subst e;have a:=b.cl;unfold lQ at a;split at a
  ·rename_i A y s i c;have z:=(X _ _ c).symm.trans l;cases z
  ·cases a
 ca:=λX p k=>by
  obtain⟨⟨j,t,g,f,r,m⟩,w⟩:=p;cases d with
  |none=>
   refine Wh (ox:=j) (od:=aE) X ⟨g,f,?_,?_⟩ b.ga b.hk (b.fo _) b.ob b.bx k
   ·unfold o0;rw[r]
   ·rw[m];trivial
  |some dx=>
   obtain⟨o,c⟩:=w dx rfl;refine Wh (ox:=j) (od:=aA o) X ⟨g,f,?_,?_⟩ b.ga b.hk (b.fo _) b.ob b.bx k
   ·unfold o0;rw[r]
   ·rw[m];exact c
end
section
variable {X:Cx}{D:DP}{W:XW}{Γ:Cn}{k:Nat}{pins:List (aF×bA)}{s:Shared}{σ:St}{H:Hp}{φ α:List aF}{τ:Sl}{μ:aK}{f g h:De}{a b c:aI}{pos:Pos}{es:List aI}{fs:List De}
theorem qE{f:aG}(h:qg e=aB):lV e f env (eval e env)=eval e env:=by
 cases e with
 |Call g args a p=>
  cases g with
  |Name x c=>
   have b:(x != ("super":aG))=aB:=h;cases args<;>cases a<;>first|rfl|(unfold lV;simp[b])
  |Attribute _ _ _=>rfl
  |_=>exact absurd (show aC=aB from h) eY
 |_=>first|exact absurd (show aC=aB from h) eY|rfl
theorem bS.ext{fs:List (Nat×T)}(x:bS D φ α H fs d)(I:Inv X pins σ H s):∀dx,d=aA dx->∃o,s.heap.get? dx=aA o:=λdx e=>by
 subst e;obtain⟨gs,_,_,e,_⟩:=x;exact QJ (I.hok dx _ e)
noncomputable def oC (D:DP)(W:XW)(f:Dp):TO:=λσ H Q=>mo D H σ λφ α τ μ=>aJ D W φ α H σ (λo _ _ a=>Q o a) (f τ μ)
theorem Ri:PO X aE (oC D W pN):=by
 rintro a s b H Q I ⟨d,g,e,f,h,c,p⟩;exact PJ a s b H Q I (aJ.ok p (aO.refl _ _) c)
theorem Rl(h:PE X a (aW D W f)):PO X (aA a) (oC D W (pS f)):=by
 rintro b s g H Q I ⟨c,l,e,j,n,o,p⟩;refine OB h b s g H Q I ⟨c,l,e,j,n,o,p.bind.mono λt i k r st m q v d=>?_⟩;split at q
 ·cases d;exact⟨_,rfl,q.ok (aO.refl _ _) m⟩
 ·exact q.elim
theorem ya(l:aN D φ α H ts xs)(lo a:Option Int):aN D φ α H (Qg ts lo a) (Qh xs lo a):=by
 have e:ts.length=xs.length:=l.length;have b:∀n d o,rn n d o=HT.sIx n d o:=λn d o=>by cases o<;>rfl
 unfold Qg Qh;rw[b,b,e];exact (l.drop _).take _
theorem xP{lo:Option Int}(a:lb s.heap t items)(hs:s.heap.IsSliceOf j B z .none)(pl:iB B lo)(e:iB z r)
  (hw:HT.sIx items.size 0 lo=0/\HT.sIx items.size items.size r=items.size) (h:Q (.ref t) s):wpAny (aR prog w) A (ij (.ref t) (.ref j)) Q E s:=by
 obtain⟨os,b,c,f⟩:=id hs;have d:s.TypeIs (.ref j) "slice":=⟨os,b,c⟩;unfold ij;try with_reducible refine wpAny_holding ?_
 first|refine wpAny_bind (wpAny_pure ?_)|skip
 refine wpAny_bind (D2 a.typeIs (by decide) ?_);refine wpAny_bind (tX (name:=il "__getitem__") a.typeIs l4 (s_ l4 a.typeIs DW ?_ (DI _ _)));show wpAny _ _ (EK (.ref t) >>= _) _ _ s;refine wpAny_bind (tupleItemsOf_ a ?_);refine wpAny_bind (pe d ?_);rw[if_pos (by decide)];refine wpAny_bind (HT.sliceApplied_gen hs pl e ?_);show wpAny _ _ (if (((HT.sIx items.size 0 lo:Nat):Int)==0&&(1:Int)==1&&(HT.sIx items.size items.size r-HT.sIx items.size 0 lo)==items.size)=aB then _ else _) _ _ s;rw[if_pos (by rw[hw.1,hw.2];simp)];refine wpAny_bind ?_;unfold IV;refine wpAny_bind (pe a.typeIs (wpAny_pure ?_));rw[if_pos (by decide)]
 first
  |exact wpAny_bind (nz (wpAny_pure ⟨_,rfl,wpAny_pure h⟩))
  |exact wpAny_bind (nz (wpAny_bind (wpAny_pure (wpAny_pure ⟨_,rfl,wpAny_pure h⟩))))
theorem OM:i8 X (λx lo j H Q=>∃a xs,x=.ref a/\fP X.K H a xs/\(HT.sIx xs.length 0 lo=0/\HT.sIx xs.length xs.length j=xs.length)/\Q (.ref a) H):=by
 intro d s l H x v n m lo j o Q I f k pl g h;obtain⟨a,xs,rfl,i,hw,q⟩:=h;cases f;obtain⟨c,r,e,p⟩:=I.tuple i;have b:c.toArray.size=xs.length:=by rw[dH];exact r.length.symm
 exact⟨"tuple",_,l4.lookup,e.typeIs,xP e k pl g (by rw[b];exact hw) ⟨.ref a,H,I,rfl,q⟩⟩
theorem Nn:i8 X (λx lo d H Q=>∃z,x=.str z/\z.length<=sizeLine/\Q (.str (Txt.slice z lo d)) H):=by
 intro a s c H x v f e lo d n Q I p y pl b h;obtain⟨z,rfl,r,q⟩:=h;obtain⟨g,rfl⟩:=p;refine⟨"str",_,F.slot_str_getitem.lookup,sv _ _ _,?_⟩;obtain⟨o,D,C,B⟩:=y;have fin:∀(l u:Option (Int×Tok)),f=partValue l->e=partValue u->lo=l.map (·.1)->d=u.map (·.1)->wpAny (aR X.prog X.w) X.A (ij (.str z g) (.ref n)) (EP X a c Q) X.xe s:=by
  rintro l u rfl rfl rfl rfl;exact wpAny_getItem_str_slice (l:=l) (u:=u) (st:=aE) ⟨o,D,C,B⟩ rfl (post_val_or_str ⟨cU (Txt.slice_le z _ _) r,λm k=>⟨.str _,H,I.tok _,⟨m,rfl⟩,q⟩⟩)
 cases pl with
 |none=>
  cases b with
  |none=>exact fin aE aE rfl rfl rfl rfl
  |int j u=>exact fin aE (aA (j,u)) rfl rfl rfl rfl
 |int i t=>
  cases b with
  |none=>exact fin (aA (i,t)) aE rfl rfl rfl rfl
  |int j u=>exact fin (aA (i,t)) (aA (j,u)) rfl rfl rfl rfl
theorem UK{lo:Option aI}(P:PE X a (aW D W f))(N:PO X lo (oC D W fo))(M:PO X U (oC D W go)):PE X (.Subscript a (.Slice lo U aE Y) pos) (aW D W (rW f fo go)):=by
 refine PE.mono (Sa (P8.or (Of.or (OM.or Nn))) P N M) ?_;rintro S H Q ⟨k,F,n,C,y,K,p⟩;refine⟨k,F,n,C,y,K,p.bind.mono λt s x H1 st m q v d=>?_⟩;refine⟨k,x,n,s,y.step st,m,q.bind.mono λl o w Z i L G=>?_⟩;refine⟨k,w,n,o,(y.step st).step i,L,G.bind.mono λu B E V j h g=>?_⟩;unfold FV at g;split at g
 ·obtain⟨ad,c,rfl,_,_,r,dl⟩:=(d.step i).step j;refine .inl ⟨ad,c,rfl,.inl r,λz b=>?_⟩;exact g.fresh h (zf b) ⟨z,_,rfl,zk h b,zm h b,.inl z3,ya (dl.step (aO.new (zf b))) _ _⟩
 ·obtain⟨ad,c,rfl,J,I,r,dl⟩:=(d.step i).step j;by_cases hw:HT.sIx c.length 0 l=0/\HT.sIx c.length c.length u=c.length
  ·refine .inr (.inr (.inl ⟨ad,c,rfl,.inl r,hw,?_⟩));have e:Qh c l u=c:=by unfold Qh;rw[hw.1,hw.2];simp
   have dd:=ya dl l u;rw[e] at dd;exact g.here h ⟨ad,c,rfl,J,I,r,dd⟩
  ·refine .inr (.inl ⟨ad,c,rfl,.inl r,hw,λz b=>?_⟩);exact g.fresh h (zf b) ⟨z,_,rfl,zk h b,zm h b,.inl z3,ya (dl.step (aO.new (zf b))) _ _⟩
 ·obtain⟨b,g⟩:=g.grd;have d:v=.str _:=d;subst d;exact .inr (.inr (.inr ⟨_,rfl,zA b,g.here h rfl⟩))
 ·obtain⟨T,O,g⟩:=g.ex1;obtain⟨ad,A,rfl⟩:=(d.step i).step j;obtain⟨c,R,dl⟩:=h.ob _ ad _ A O;refine .inl ⟨ad,c,rfl,.inl (.inl R),λz b=>?_⟩;exact aJ.fresh g h (zf b) ⟨z,_,rfl,zk h b,zm h b,.inl z3,ya (dl.step (aO.new (zf b))) _ _⟩
 ·exact g.elim
theorem uB{g:Fn}{fa:aF}{kk:Nat}{Q:VK}(C:Ck D W Γ X k)(F:bL X.prog X.w X.K X.mg X.base (cW X.prog X.w) kk fa fd ps (dW D ps.length g))
  (o:bV kk X.A) (t:Binds X.K fd ps []) (h:∀ts μ K Z,g ts μ K Z->ts.length=ps.length) (I:Inv X pins σ H s) (r:aY vs us) (m:aM D φ α H μ) (d:aN D φ α H ts vs) (p:aJ D W φ α H σ (RV D φ Q) (g ts μ)) :
  wpAny (aR X.prog X.w) X.A (call (.ref fa) us) (EP X pins σ Q) X.xe s:=by
 obtain⟨K,Z,q,a,n⟩:=p;have i:ts.length=ps.length:=h ts μ K Z q;have j:dW D ps.length g vs H Q (λc d b=>W c d σ b):=⟨by rw[←d.length];exact i,φ,α,ts,μ,d,m,K,Z,q,a,n⟩;have f:us.length=ps.length:=by rw[←r.length,←d.length];exact i
 refine hW (iK (F.run X.A X.stack s H ⟨us,[]⟩ us vs Q (λc d b=>W c d σ b) o I.env0 (by simpa using t s us I.kIn (by simpa using f)) r j) λr l a=>?_);cases r with
 |error e=>exact C.xe e l (uq (E:=λc d b=>W c d σ b) I a λcls d b w=>w)
 |ok fl=>
  cases fl with
  |ret u=>exact I.after a
  |next=>exact dI a
  |brk=>exact dI a
  |cont=>exact dI a
theorem RD(C:Ck D W Γ X k){g:Fn}(hx:x∈Γ.G)(B:Γ.gl x=.fn g)(E:Γ.calm=aB)(h:dD X D W es fs):PE X (.Call (.Name x p0) es [] pos) (aW D W (z8 g fs)):=by
 have q:=C.glo x hx;rw[B] at q;obtain⟨fa,A,fd,S,T,m,n,d,Fn,a⟩:=q;have l:=(C.rom E).mono d;have c:=h.stars;have z:=vI h;rintro i s L H Q I ⟨J,N,K,M,w,j,p⟩;refine iL (wH I (C.glb x hx) A ?_ (C.dbG x hx));cases es with
 |nil=>
  cases fs with
  |nil=>exact pZ I.kIn m (uB (ts:=[]) C Fn l n a I .nil j rfl p)
  |cons f fs=>exact h.elim
 |cons e es=>
  simp only[iX,cB] at c;refine mO (h₀:=X.base) I.ok.mod.kin m (aX (UM z I w j p) ?_) (z6 c.1) (qT c.2);rintro P R ⟨O,U,ts,r,t,o,y,u,v,b,F,_,p1⟩;exact⟨o.kIn,uB C Fn l n a o y b F p1⟩
theorem io{c:Nat}{g:Fn}{C0 fI:aF}{kk:Nat}{Q:VK}(C:Ck D W Γ X k)(ad:D.cad c=aA C0)(M:Mk X.K C0 fI)(F:bL X.prog X.w X.K X.mg X.base (cW X.prog X.w) kk fI fd ps (dW D ps.length g))
  (hr:bV (kk+1) X.A) (hb:Binds X.K fd ps []) (har:∀ts μ K Z,g ts μ K Z->ts.length=ps.length) (I:Inv X pins σ H s) (r:aY vs us) (y:aM D φ α H μ) (d:aN D φ α H ts vs) (p:aJ D W φ α H σ (RV D φ Q) (Vv c g ts μ)) :
  wpAny (aR X.prog X.w) X.A (call (.ref C0) us) (EP X pins σ Q) X.xe s:=by
 obtain⟨K,Z,⟨hp,hg⟩,hk,hz⟩:=p;have hl:(T.mut 0::ts).length=ps.length:=har _ _ _ _ hg;have hq:∀x dx,H x=aE->H dx=aE->dx≠x->dW D ps.length g (.ref x::(vs++[])) (upd (upd H dx (.own x)) x (.ins C0 dx [])) (λv H2=>v=.non/\Q (.ref x) H2) (λc d B=>W c d σ B):=by
  intro x dx J hdx hne;have P:jX H (upd (upd H dx (.own x)) x (.ins C0 dx [])):=λb o e=>by rw[z4 (zI e J),z4 (zI e hdx)];exact e
  have U:aO [] H [x] (upd (upd H dx (.own x)) x (.ins C0 dx [])):=⟨⟨[x],rfl,λb h=>by rw[bT.mp h];exact J⟩,λb o _ e=>P b o e,λb e=>by
   cases q:H b with
   |none=>rfl
   |some o=>rw[P b o q] at e;cases e⟩
  have nx:x∉φ++α:=λz=>(cH.mp z).elim (zk y J) (zm y J);have ph:∀b∈φ++α,∃o,H b=aA o/\rO o=aB:=λb h=>(cH.mp h).elim (y.phi b) λz=>by
   obtain⟨i,hi⟩:=i4.mp z;have hl':i<μ.length:=by rw[←y.len];exact (bI.mp hi).1
   exact (y.ob i b μ[i] hi (by simp[hl'])).some
  refine⟨by simp only[fU,gP] at hl ⊢;rw[←d.length];exact hl,φ++α,[x],.mut 0::ts,[.obj c []],⟨.ref x,vs++[],rfl,⟨x,rfl,rfl⟩,by rw[gP];exact (aN.hide hp d RS).step U⟩,⟨rfl,by simp,λb h=>by rw[bT.mp h];exact nx,λb h=>let ⟨o,e,n⟩:=ph b h;⟨o,P b o e,n⟩,λi a o O e2=>?_⟩,?_⟩
  ·cases i with
   |zero=>simp at O e2;subst O e2;exact⟨C0,dx,[],ad,z3,rfl⟩
   |succ i=>simp at O
  have back:∀{G:List aF}{N:Hp},aO [x] (upd (upd H dx (.own x)) x (.ins C0 dx [])) G N->jX H N:=λst b o e=>st.keep b o (λz=>by rw[bT.mp z,J] at e;cases e) (P b o e);refine⟨_,_,hg,?_,?_⟩
  ·rintro t S ⟨rfl,fs,h0,L,q⟩ G N st m v dv;refine⟨dv,?_⟩;obtain⟨β,rfl,_⟩:=st.ext;obtain⟨C1,dx1,gs,ad1,O,lf⟩:=m.ob 0 x _ rfl h0;have j:=back st;exact hk _ _ q α N (aO.new j) (y.new j) _ ⟨x,C1,dx1,gs,rfl,zk y J,zm y J,ad1,O,bK.hide L lf VI⟩
  ·rintro e fs S ⟨L,q⟩ G N C1 d1 st m had xd;have j:=back st;exact hz _ _ _ q α N C1 d1 (aO.new j) (y.new j) had (bS.hide L xd VI)
 have Y:=hq (s.heap.objs.size+1) s.heap.objs.size (I.hok.fresh (mE _)) (I.hok.fresh (bE _)) (dP (l6 _));have R:=Inv.made (C:=C0) I;have r2:aY (V.ref (s.heap.objs.size+1)::(vs++[])) (cN (s.heap.objs.size+1)::us):=.cons rfl (by rw[gP];exact r);have hlu:(cN (s.heap.objs.size+1)::us++[]).length=ps.length:=by
  rw[gP,fU,←r.length,←d.length];exact hl
 refine hW (Jd (f:=fI) I.kIn M.makes M.init (beq_iff_eq.mp M.fn) (iK (F.run _ X.stack _ _ ⟨cN (s.heap.objs.size+1)::us,[]⟩ (cN (s.heap.objs.size+1)::us) _ _ (λc d B=>W c d σ B) (hr.make C0 us [])
  (R.env0.make C0 us []) (by simpa using hb _ (cN (s.heap.objs.size+1)::us) R.kIn hlu) r2 Y) λr s' l=>?_))
 cases r with
 |error e=>exact C.xe e s' (uq (E:=λc d B=>W c d σ B) R l λcls d B w=>w)
 |ok fl=>
  cases fl with
  |ret u=>
   obtain⟨v,B,I3,rv,ev,q3⟩:=R.after l;subst ev;exact⟨rv,⟨V.ref (s.heap.objs.size+1),B,I3,rfl,q3⟩⟩
  |next=>exact dI l
  |brk=>exact dI l
  |cont=>exact dI l
theorem OE(C:Ck D W Γ X k){c:Nat}{g:Fn}(hx:x∈Γ.G)(B:Γ.gl x=.mk c aB g)(E:Γ.calm=aB)(i:dD X D W es fs):PE X (.Call (.Name x p0) es [] pos) (aW D W (rX c g fs)):=by
 have q:=C.glo x hx;rw[B] at q;obtain⟨C0,V,fd,T,U,ad,A,M,n,h,Fn,a⟩:=q;have m:=(C.rom E).mono h;have d:=i.stars;have z:=vI i;rintro j s L H Q I ⟨J,O,K,N,w,l,p⟩;refine iL (wH I (C.glb x hx) A ?_ (C.dbG x hx));cases es with
 |nil=>
  cases fs with
  |nil=>exact pZ I.kIn M.kp (io (ts:=[]) C ad M Fn m n a I .nil l rfl p)
  |cons f fs=>exact i.elim
 |cons e es=>
  simp only[iX,cB] at d;refine mO (h₀:=X.base) I.ok.mod.kin M.kp (aX (UM z I w l p) ?_) (z6 d.1) (qT d.2);rintro R S ⟨P,Y,ts,r,t,o,y,u,v,b,F,_,p1⟩;exact⟨o.kIn,io C ad M Fn m n a o y b F p1⟩
theorem Nu(C:Ck D W Γ X k)(K:qg a=aB)(s:(x,n)∈Γ.fld)(M:PE X a (aW D W f)):PE X (.Attribute a x pos) (aW D W (ze f n)):=by
 refine PE.mono (MY M (qE K)) ?_;rintro N H Q ⟨u,G,A,E,I,J,p⟩;refine⟨u,G,A,E,I,J,p.bind.mono λt B F O st m q v d=>?_⟩;unfold Za at q;split at q
 ·split at q
  ·rename_i c fs _ w hw;obtain⟨ad,C0,dx,gs,rfl,_,_,j,i,l⟩:=d;obtain⟨y,z,g,e,dz⟩:=l.look hw;obtain⟨b,r,o⟩:=C.fld c C0 x n j s;rw[g] at b;cases b;exact⟨ad,C0,dx,gs,z,rfl,i,r,o,e,q.here m dz⟩
  ·exact q.elim
 ·obtain⟨c,fs,w,L,hw,q⟩:=q.ex3;obtain⟨ad,h,rfl⟩:=d;obtain⟨C0,dx,gs,j,i,l⟩:=m.ob _ ad _ h L;obtain⟨y,z,g,e,dz⟩:=l.look hw;obtain⟨b,r,o⟩:=C.fld c C0 x n j s;rw[g] at b;cases b;exact⟨ad,C0,dx,gs,z,rfl,i,r,o,e,aJ.here q m dz⟩
 ·exact q.elim
end
section
variable {X:Cx}{D:DP}{W:XW}{Γ:Cn}{k:Nat}{pins:List (aF×bA)}{s:Shared}{σ:St}{H:Hp}{φ α:List aF}{τ:Sl}{μ:aK}{f h:De}{a b c:aI}{pos:Pos}{es:List aI}
theorem XT{B:Prop}(C:Ck D W Γ X k){c:Nat}{C0 dx ad:aF}(I:Inv X pins σ H s)(a:D.cad c=aA C0)(ea:H ad=aA (.ins C0 dx gs))
  (hh:∀d P,Jy D c d->pw X.K (.ref ad) d P->P s.heap->(cN ad)≠.builtin "__main__.__loader__#opaque"->B):B:=by
 have o:=C.ocx c C0 a;obtain⟨e,O,_⟩:=yb I.hok ea;obtain⟨b,J,_⟩:=O.look;exact hh _ _ (.inr (.inr (.inr (.inr (.inr (.inr (.inr (.inr ⟨C0,a,rfl⟩)))))))) (PySem.W.kitx_own (o.cl.get _) o.cl.hd o.fi o.sp o.tk o.ob) J (λz=>nomatch z)
theorem Oc{B:Prop}(C:Ck D W Γ X k){t:T}{v:V}(I:Inv X pins σ H s)(d:a_ D φ α H t v)(r:RelV v u)(a:HD t μ=aA n)
  (hh:∀A P,Jy D n A->pw X.K u A P->P s.heap->u≠.builtin "__main__.__loader__#opaque"->B):B:=by
 cases t with
 |non=>cases d;cases r;cases a;exact hh _ _ (.inl ⟨rfl,rfl⟩) PySem.W.kitx_none f_ (λz=>nomatch z)
 |bl b=>cases d;cases r;cases a;exact hh _ _ (.inr (.inl ⟨rfl,rfl⟩)) PySem.W.kitx_bool f_ (λz=>nomatch z)
 |int i=>cases d;obtain⟨t,rfl⟩:=r;cases a;exact hh _ _ (.inr (.inr (.inl ⟨rfl,rfl⟩))) PySem.W.kitx_int f_ (λz=>nomatch z)
 |str i=>cases d;obtain⟨t,rfl⟩:=r;cases a;exact hh _ _ (.inr (.inr (.inr (.inl ⟨rfl,rfl⟩)))) PySem.W.kitx_str f_ (λz=>nomatch z)
 |tup E=>
  obtain⟨ad,y,rfl,_,_,q,_⟩:=d;cases r;cases a;obtain⟨g,_,⟨o,m,h,_⟩,_⟩:=I.tuple (.inl q);exact hh _ _ (.inr (.inr (.inr (.inr (.inl ⟨rfl,rfl⟩))))) PySem.W.kitx_tuple ⟨o,m,h⟩ (λz=>nomatch z)
 |lst E=>
  obtain⟨ad,y,rfl,_,_,q,_⟩:=d;cases r;cases a;obtain⟨g,_,p,_⟩:=I.list (.inl q);obtain⟨o,m,h,_⟩:=p.isList;exact hh _ _ (.inr (.inr (.inr (.inr (.inr (.inl ⟨rfl,rfl⟩)))))) DH ⟨o,m,h⟩ (λz=>nomatch z)
 |exc c fs=>
  obtain⟨ad,C0,dd,F,rfl,_,_,f,x,xd⟩:=d;cases r;cases a;have J:=C.xcx n C0 f;obtain⟨p,_⟩:=(show a6 X.prog X.w H s.heap ad (.frz F (.ext (yg ad C0 dd))) from I.hok ad _ x).2;have xd:bS D φ α H fs dd:=by cases dd<;>exact xd
  exact hh _ _ (.inr (.inr (.inr (.inr (.inr (.inr (.inl ⟨C0,f,rfl⟩))))))) (Uv J) ⟨p,xd.ext I⟩ (λz=>nomatch z)
 |dic G=>
  obtain⟨ad,gs,rfl,_,_,e,_⟩:=d;cases r;cases a;obtain⟨_,_,L,_,dd⟩:=(show a6 X.prog X.w H s.heap ad (.dK gs) from I.hok ad _ e);exact hh _ _ (.inr (.inr (.inr (.inr (.inr (.inr (.inr (.inl ⟨rfl,rfl⟩)))))))) pH dd.typeIs (λz=>nomatch z)
 |obj c fs=>
  obtain⟨ad,C0,dx,gs,rfl,_,_,f,x,l⟩:=d;cases r;cases a;exact XT C I f x hh
 | «mut» i=>cases a
 |clo j cs=>cases a
theorem Ph{B:Prop}(C:Ck D W Γ X k){v:V}{o:MO}(I:Inv X pins σ H s)(n:aM D φ α H μ)(d:a_ D φ α H (.mut i) v)(r:RelV v u)(x:μ[i]?=aA o)(b:F_ o=aC)
  (hh:∀A P,Jy D (HC o) A->pw X.K u A P->P s.heap->u≠.builtin "__main__.__loader__#opaque"->B):B:=by
 obtain⟨ad,y,rfl⟩:=d;cases r;have dd:=n.ob i ad o y x;cases o with
 |lst G=>
  obtain⟨h,q,_⟩:=dd;obtain⟨t,_,p,_⟩:=I.list (.inl (.inl q));obtain⟨o,g,f,_⟩:=p.isList;exact hh _ _ (.inr (.inr (.inr (.inr (.inr (.inl ⟨rfl,rfl⟩)))))) DH ⟨o,g,f⟩ (λz=>nomatch z)
 |obj c fs=>
  obtain⟨C0,dx,gs,F,E,l⟩:=dd;exact XT C I F E hh
 |dic a=>
  obtain⟨gs,e,_⟩:=dd;obtain⟨_,_,m,_,dd⟩:=(show a6 X.prog X.w H s.heap ad (.dK gs) from I.hok ad _ e);exact hh _ _ (.inr (.inr (.inr (.inr (.inr (.inr (.inr (.inl ⟨rfl,rfl⟩)))))))) pH dd.typeIs (λz=>nomatch z)
 |tab j=>cases b
 |frd ep a=>
  obtain⟨gs,e,_⟩:=dd;obtain⟨_,_,m,_,dd⟩:=(show a6 X.prog X.w H s.heap ad (.dE ep gs) from I.hok ad _ e);exact hh _ _ (.inr (.inr (.inr (.inr (.inr (.inr (.inr (.inl ⟨rfl,rfl⟩)))))))) pH dd.dictOf.typeIs (λz=>nomatch z)
 |dct J=>
  obtain⟨h,_,_,_,_,q,_⟩:=dd;obtain⟨⟨o,es,ep,g,f,_⟩,_⟩:=(show a6 X.prog X.w H s.heap ad (.ext (Gg ad h)) from I.hok ad _ q);exact hh _ _ (.inr (.inr (.inr (.inr (.inr (.inr (.inr (.inl ⟨rfl,rfl⟩)))))))) pH ⟨o,g,f.1⟩ (λz=>nomatch z)
theorem XU{B:Prop}(C:Ck D W Γ X k){t:T}{v:V}{u:aD}{Q:VK}(I:Inv X pins σ H s)(b:aM D φ α H μ)(d:a_ D φ α H t v)(r:RelV v u)(q:aJ D W φ α H σ (RV D φ Q) (Ur cs t μ))
  (hh:∀n g P,aJ D W φ α H σ (RV D φ Q) (.ok (.bl (cI n cs)) μ)->Jy D n g->pw X.K u g P->P s.heap->u≠.builtin "__main__.__loader__#opaque"->B):B:=by
 unfold Ur at q;split at q
 ·obtain⟨o,c,q⟩:=q.som;rcases q.br with⟨_,q⟩|⟨e,q⟩
  ·exact q.elim
  ·exact Ph C I b d r c e λg P=>hh _ g P q
 ·split at q
  ·rename_i f a;exact Oc C I d r a λg P=>hh _ g P q
  ·exact q.elim
noncomputable def jg(Γ:Cn):List aI->Option (List Nat)
 |[]=>aA []
 |e::r=>match e with
  |.Name x _=>if (cD Γ.N x).isNone&&Γ.G.contains x then (match Γ.cls.lookup x with
   |some c=>(jg Γ r).map (c::·)
   |none=>aE) else aE
  |_=>aE
noncomputable def Zs(Γ:Cn)(e:aI):Option (List Nat):=match e with
 |.Name _ _=>jg Γ [e]
 |.Tuple es _ _=>if decide (es.length<=aQ) then jg Γ es else aE
 |_=>aE
theorem cC{β:Type}{v:β}:∀{l:List (aG×β)},l.lookup x=aA v->(x,v)∈l
 |[],h=>by cases h
 |(y,w)::r,h=>by
  rw[gB] at h;cases q:x==y with
  |true=>rw[q] at h;cases h;rw[beq_iff_eq.mp q];exact eU
  |false=>rw[q] at h;exact d9 _ (cC h)
theorem NG(C:Ck D W Γ X k){c:Nat}(a:x∈Γ.G)(d:(x,c)∈Γ.cls):∃u v,Uy X x u/\gK v u/\∀p0,PE X (.Name x p0) (tC v):=by
 obtain⟨u,v,cv,r⟩:=C.clv x c d;refine⟨u,v,cv,r,λp0=>?_⟩;rcases cv with h|⟨h,e,b⟩
 ·exact Xv (C.glb x a) h r.rel (C.dbG x a)
 ·exact PK (C.glb x a) h e r.rel b (C.dbG x a)
theorem WG(C:Ck D W Γ X k):∀{es:List aI}{cs:List Nat},jg Γ es=aA cs->∃us vs,(∀d,aY vs d->d=us)/\vs.length=es.length/\es.all aT=aB/\PA X es (λ_ H Q=>Q vs H)/\∀t g,Jy D t g->sV X.K g us=aA (cI t cs)
 |[],cs,h=>by
  simp[jg] at h;subst h;exact⟨[],[],λd r=>by cases r;rfl,rfl,rfl,λb a s f H Q I q=>qU b a s f H Q I q,λt g _=>rfl⟩
 |e::es,cs,h=>by
  unfold jg at h;split at h
  ·rename_i x z;split at h
   ·rename_i n;simp only[cB,hY] at n;split at h
    ·rename_i c j;cases i:jg Γ es with
     |none=>rw[i] at h;cases h
     |some J=>
      rw[i] at h;cases h;have m:=cC j;obtain⟨us,vs,o,j,E,F,G⟩:=WG C i;obtain⟨u,v,cv,r,y⟩:=NG C n.2 m;refine⟨u::us,v::vs,λd q=>by cases q with|cons w p=>rw[r.only w,o _ p],by simp[j],by simp[aT,E],λb a s f H Q I q=>zM (y z) F (z6 rfl) b a s f H Q I q,λt g l=>?_⟩;have B:=C.isi t x c m g u l cv;have A:=G t g l;unfold sV;rw[B];rw[ko];cases L:vZ t c with
      |true=>rfl
      |false=>exact A
    ·cases h
   ·cases h
  ·cases h
theorem Nd (C:Ck D W Γ X k) (hx:("isinstance":aG)∈Γ.G) (hg:Γ.gl "isinstance"=.none) (hs:aT a=aB) (h:Zs Γ c=aA cs) (ha:PE X a (aW D W f)):PE X (.Call (.Name "isinstance" p0) [a,c] [] pos) (aW D W (wM cs f)):=by
 have hm:=C.glo _ hx;rw[hg] at hm;rintro r s O H Q I ⟨j,R,τ,μ,sr,mr,p⟩;refine iL (jf I (C.glb _ hx) hm boot_isinstance ?_ (by decide) (C.dbG _ hx));unfold Zs at h;split at h
 ·rename_i cn pc;obtain⟨V,i,hu,hl,hst,hp,hk⟩:=WG C h;refine rh (aX (zM ha hp (z6 hs) pos r s O H (λL e=>∃v t g b,L=v::i/\aO R H b e/\aM D j b e g/\a_ D j b e t v/\aJ D W j b e O (RV D j Q) (Ur cs t g)) I ⟨j,R,τ,μ,sr,mr,p.bind.mono λt y z H' st m q v d=>⟨v,t,y,z,rfl,st,m,d,q⟩⟩) ?_) (z6 hs) (qT (by rfl));rintro us s1 ⟨L,e,x,rv,v,t,g,b,rfl,st,m,d,q⟩;cases rv with
  | @cons _ u _ A r1 F=>
  obtain rfl:=hu A F;have hlu:A.length=1:=by rw[←F.length];exact hl
  match A,hlu with
  |[uc],_=>
  refine XU C x m d r1 q λT S P q ht kx hP E=>?_;have J:=hk T S ht;have k1:pI X.K S uc=aA (cI T cs):=by
   unfold sV at J;split at J
   ·rename_i hb;rw[hb];exact J
   ·rename_i hb;rw[hb];exact J
   ·cases J
  exact PySem.W.kia_one kx x.kIn hP k1 E λY=>⟨.bl _,e,x.tok Y,rfl,q.here m rfl⟩
 ·rename_i ees J pc;split at h;case isFalse=>cases h
  rename_i M;obtain⟨V,i,hu,hl,hst,hp,hk⟩:=WG C h;refine rh (aX (zM ha (zM (G7 hp) qU (z6 rfl)) (z6 hs) pos r s O H (λL H2=>∃v l e t g b,L=[v,.ref l]/\e l=aE/\H2=upd e l (.tup i)/\aO R H b e/\aM D j b e g/\a_ D j b e t v/\aJ D W j b e O (RV D j Q) (Ur cs t g)) I ⟨j,R,τ,μ,sr,mr,p.bind.mono λt y z H' st m q v d=>⟨by rw[hl];exact zA (by simpa using M),λl B=>⟨v,l,H',t,y,z,rfl,B,rfl,st,m,d,q⟩⟩⟩) ?_) (z6 hs) (qT (by rfl));rintro us s1 ⟨L,H2,x,rv,v,l,e,t,g,b,rfl,B,rfl,st,m,d,q⟩;obtain⟨u,ut,rfl,r1,F⟩:=vals2 rv;have F:ut=cN l:=F;subst F;have U:jX e (upd e l (.tup i)):=zf B;refine XU C x (m.new U) (d.step (aO.new U)) r1 (q.step (aO.new U)) λT S P q ht kx hP E=>?_;obtain⟨_,its,Z,⟨o,ho,N,n,hd⟩⟩:=(show a6 X.prog X.w _ s1.heap l (.tup i) from x.hok l _ z3);obtain rfl:=hu its Z;obtain⟨oc,odd,odt,osl⟩:=o;simp only at N hd;subst N hd;exact PySem.W.kia_tup kx x.kIn hP ho (hk T S ht) E λY=>⟨.bl _,_,x.tok Y,rfl,q.here (m.new U) rfl⟩
 ·cases h
end
section
variable {X:Cx}{D:DP}{W:XW}{Γ:Cn}{k:Nat}{pins:List (aF×bA)}{s:Shared}{σ:St}{H:Hp}{φ α:List aF}{τ:Sl}{μ:aK}{f h:De}{a b:aI}{pos:Pos}{es:List aI}
noncomputable def B1 (X:Cx)(D:DP)(W:XW)(fv:aD)(op:T->aK->RE T):Prop:=
 ∀(pins:List (aF×bA)) (s:a9) (σ:St) (H:Hp) (φ α:List aF) (μ:aK) (t:T) (v:V) (u:aD) (Q:VK),Inv X pins σ H s->aM D φ α H μ->a_ D φ α H t v->RelV v u->aJ D W φ α H σ (RV D φ Q) (op t μ)->
  wpAny (aR X.prog X.w) X.A (call fv [u]) (EP X pins σ Q) X.xe s
theorem Uj (C:Ck D W Γ X k) {id:String}(hx:x∈Γ.G) (L:Γ.gl x=.none) (J:hS x=aA (.builtin id)) (K:x≠"__name__") (hs:aT a=aB) (M:B1 X D W (.builtin id) op) (N:PE X a (aW D W f)) :
  PE X (.Call (.Name x p0) [a] [] pos) (aW D W (eZ op f)):=by
 have r:=C.glo _ hx;rw[L] at r;rintro e s i H Q I ⟨g,n,w,y,z,F,p⟩;refine iL (jf I (C.glb _ hx) r J ?_ K (C.dbG _ hx));refine rh (aX (zM N qU (z6 hs) pos e s i H (λo h=>∃v t c b,o=[v]/\aO n H b h/\aM D g b h c/\a_ D g b h t v/\aJ D W g b h i (RV D g Q) (op t c)) I ⟨g,n,w,y,z,F,p.bind.mono λt j l R st m q v d=>⟨v,t,j,l,rfl,st,m,d,q⟩⟩) ?_) (z6 hs) (qT (by rfl));rintro P A ⟨o,h,O,B,v,t,c,b,rfl,st,m,d,q⟩;obtain⟨u,rfl,E⟩:=vals1 B;exact M e A i h g b c t v u Q O m d E q
theorem By (C:Ck D W Γ X k) {id:String}(hx:x∈Γ.G) (L:Γ.gl x=.none) (J:hS x=aA (.type id)) (K:x≠"__name__") (hs:aT a=aB) (M:B1 X D W (.type id) op) (N:PE X a (aW D W f)) :
  PE X (.Call (.Name x p0) [a] [] pos) (aW D W (eZ op f)):=by
 have r:=C.glo _ hx;rw[L] at r;rintro e s i H Q I ⟨g,n,w,y,z,F,p⟩;refine iL (jf I (C.glb _ hx) r J ?_ K (C.dbG _ hx));refine ri (aX (zM N qU (z6 hs) pos e s i H (λo h=>∃v t c b,o=[v]/\aO n H b h/\aM D g b h c/\a_ D g b h t v/\aJ D W g b h i (RV D g Q) (op t c)) I ⟨g,n,w,y,z,F,p.bind.mono λt j l R st m q v d=>⟨v,t,j,l,rfl,st,m,d,q⟩⟩) ?_) (z6 hs) (qT (by rfl));rintro P A ⟨o,h,O,B,v,t,c,b,rfl,st,m,d,q⟩;obtain⟨u,rfl,E⟩:=vals1 B;exact M e A i h g b c t v u Q O m d E q
theorem Mn:B1 X D W (.builtin "len") uH:=by
 intro a s e H i k j t v u Q I c d r p;unfold uH at p;split at p
 ·obtain⟨ad,b,rfl,_,_,q,l⟩:=d;exact jd a s e H _ _ Q I (.cons r .nil) ⟨ad,b,rfl,.inl (.inl q),by rw[←l.length];exact p.here c rfl⟩
 ·obtain⟨ad,b,rfl,_,_,q,l⟩:=d;exact jd a s e H _ _ Q I (.cons r .nil) ⟨ad,b,rfl,.inr (.inl q),by rw[←l.length];exact p.here c rfl⟩
 ·cases d;obtain⟨f,p⟩:=p.grd;exact WJ a s e H _ _ Q I (.cons r .nil) ⟨_,rfl,zA f,p.here c rfl⟩
 ·obtain⟨m,g,p⟩:=p.ex1;obtain⟨ad,h,rfl⟩:=d;obtain⟨b,q,l⟩:=c.ob _ ad _ h g;exact jd a s e H _ _ Q I (.cons r .nil) ⟨ad,b,rfl,.inl (.inl (.inl q)),by rw[←l.length];exact aJ.here p c rfl⟩
 ·exact p.elim
theorem Oj:B1 X D W (.type "list") Y7:=by
 intro b s f H i k j t v u Q I c d r p;unfold Y7 at p;split at p
 ·obtain⟨ad,e,rfl,_,_,q,l⟩:=d;exact qP b s f H _ _ Q I (.cons r .nil) ⟨ad,e,rfl,.inl (.inl q),λz a=>p.fresh c (zf a) ⟨z,e,rfl,zk c a,zm c a,.inl z3,l.step (aO.new (zf a))⟩⟩
 ·obtain⟨ad,e,rfl,_,_,q,l⟩:=d;exact qP b s f H _ _ Q I (.cons r .nil) ⟨ad,e,rfl,.inr (.inl q),λz a=>p.fresh c (zf a) ⟨z,e,rfl,zk c a,zm c a,.inl z3,l.step (aO.new (zf a))⟩⟩
 ·obtain⟨m,g,p⟩:=p.ex1;obtain⟨ad,h,rfl⟩:=d;obtain⟨e,q,l⟩:=c.ob _ ad _ h g;exact qP b s f H _ _ Q I (.cons r .nil) ⟨ad,e,rfl,.inl (.inl (.inl q)),λz a=>aJ.fresh p c (zf a) ⟨z,e,rfl,zk c a,zm c a,.inl z3,l.step (aO.new (zf a))⟩⟩
 ·exact p.elim
theorem xc(a:H p=aE):aO α H (α++[p]) (upd H p o):=⟨⟨[p],rfl,by simpa using a⟩,λb u _ e=>zf a b u e,λb e=>by
 by_cases z:b=p
 ·rw[z,z3] at e;cases e
 ·rw[z4 z] at e;exact e⟩
theorem aM.lay(m:aM D φ α H μ)(g:H p=aE)(l:aN D φ α H ts vs):aM D φ (α++[p]) (upd H p (.lst vs)) (μ++[.lst ts]):=by
 have st:aO α H (α++[p]) (upd H p (.lst vs)):=xc g;have s:=m.len;refine⟨by simp[s],?_,λb j=>?_,λb j=>?_,λi a o c f=>?_⟩
 ·rw[lu];refine⟨m.nd,by simp,λa v b j=>?_⟩;rw[bT.mp j];intro z;exact zm m g (z▸v)
 ·rcases cH.mp j with h|h
  ·exact m.dis b h
  ·rw[bT.mp h];exact zk m g
 ·obtain⟨u,e,n⟩:=m.phi b j;exact⟨u,zf g b u e,n⟩
 ·by_cases t:i<α.length
  ·rw[dN t] at c;rw[dN (by lia)] at f;have d:=m.ob i a o c f;obtain⟨u,q,_⟩:=d.some;exact d.step st ((zf g _ _ q).trans q.symm)
  ·rw[fA (by lia)] at c f;have r:i-α.length=0:=by
    by_cases z:i-α.length=0
    ·exact z
    ·rw[n0 (by simp;lia)] at c;cases c
   have k:i-μ.length=0:=by lia
   rw[r] at c;rw[k] at f;have c:aA p=aA a:=c;have f:aA (MO.lst ts)=aA o:=f;cases c;cases f;exact⟨vs,z3,l.step st⟩
theorem aJ.lay(q:aJ D W φ α H σ (RV D φ Q) (.ok (.mut μ.length) (μ++[.lst ts])))(m:aM D φ α H μ)(a:H p=aE)(l:aN D φ α H ts vs):Q (.ref p) (upd H p (.lst vs)):=
 q.ok (xc a) (m.lay a l) _ ⟨p,by rw[←m.len,fA (bE _)];simp,rfl⟩
theorem L6:B1 X D W (.type "list") rA:=by
 intro a s f H i k j t v u Q I e d r p;unfold rA at p;split at p
 ·obtain⟨ad,b,rfl,_,_,q,l⟩:=d;exact qP a s f H _ _ Q I (.cons r .nil) ⟨ad,b,rfl,.inl (.inl q),λz c=>p.lay e c l⟩
 ·obtain⟨ad,b,rfl,_,_,q,l⟩:=d;exact qP a s f H _ _ Q I (.cons r .nil) ⟨ad,b,rfl,.inr (.inl q),λz c=>p.lay e c l⟩
 ·obtain⟨m,g,p⟩:=p.ex1;obtain⟨ad,h,rfl⟩:=d;obtain⟨b,q,l⟩:=e.ob _ ad _ h g;exact qP a s f H _ _ Q I (.cons r .nil) ⟨ad,b,rfl,.inl (.inl (.inl q)),λz c=>aJ.lay p e c l⟩
 ·exact p.elim
theorem NX(k:es.length<=aQ)(l:dD X D W es fs):PE X (.List es pos) (aW D W (Qy fs)):=by
 refine PE.mono (GV (vI l)) ?_;rintro n H Q ⟨a,f,b,d,g,h,p⟩;refine⟨a,f,b,d,g,h,p.bind.mono λr c e s st m q o dl j=>⟨by rw[j];exact zA k,λz i=>q.lay m i dl⟩⟩
theorem Vu:∀{ts:List T}{bs:List Bool}{vs:List V}{us:List aD},bR ts=aA bs->aN D φ α H ts vs->aY vs us->us=bs.map lR
 |[],bs,vs,us,h,l,r=>by
  simp[bR] at h;subst h;have l:vs=[]:=l;subst l;cases r;rfl
 |t::ts,bs,vs,us,h,l,r=>by
  obtain⟨v,w,rfl,d,l⟩:=l;cases t with
  |bl b=>
   simp only[bR] at h;cases q:bR ts with
   |none=>rw[q] at h;cases h
   |some cs=>
    rw[q] at h;cases h;cases r with
    |cons c a=>
     cases d;cases c;rw[Vu q l a];rfl
  |_=>simp[bR] at h
theorem Lj(hh:X.calm=aB):B1 X D W (.builtin "all") KO:=by
 intro m s L H K N M t v u Q I y d r p;unfold KO at p;split at p;case h_2=>exact p.elim
 rename_i O;obtain⟨bs,F,p⟩:=p.som;obtain⟨ad,P,rfl,_,_,q,l⟩:=d;cases r;obtain⟨c,w,pl,S⟩:=I.list (.inl q);have eb:=Vu F l w;have j:=pl.isList;have g:ad<s.heap.objs.size:=by obtain⟨_,e,_⟩:=j;exact bZ e
 refine call_all_walk (nK j ?_)
 refine⟨s.heap.objs.size,[s.heap.objs.size,ad],[s.heap.objs.size],c.toArray.size,_,_,λi=>(bs[i]?).getD aB,rfl,Walks.list (A:=X.A.in1) (I.ok.hd hh) _ ad (dP g) c.toArray,
  ⟨⟨_,eF _ rfl,rfl,rfl⟩,j.push _⟩,λi v R T U G n=>?_,λJ o E=>?_⟩
 ·have a:c[i]?=aA v:=by simpa using G
  rw[eb,eE] at a;cases e:bs[i]? with
  |none=>rw[e] at a;cases a
  |some b=>
   rw[e] at a;simp at a;subst a;simp only[e,sZ] at n;exact wpAny_truthy_bool n
 ·have e:((gM c.toArray.size).all λi=>(bs[i]?).getD aB)=bs.all id:=by
   have B:c.toArray.size=bs.length:=by simp[eb]
   rw[B];rw[nS];simp only[fT,pK,id_eq];constructor
   ·intro h b k;obtain⟨i,f,rfl⟩:=List.mem_iff_getElem.mp k;have:=h i f;simpa[f] using this
   ·intro h i f;have:=h bs[i] (sY f);simpa[f] using this
  rw[e];have z:∀b x,s.heap.get? b=aA x->J.get? b=aA x:=λb x e=>E b x (λC=>by rw[bT.mp C] at e;exact iH _ (bZ e)) (bU _ e);exact⟨.bl (bs.all id),H,I.kept (t':=o) z,rfl,p.here y rfl⟩
theorem aO.turn(hx:x∈α)(hh:∃d,H x=aA d):aO α H α (upd H x o):=by
 refine⟨⟨[],by simp,by simp⟩,λb u n e=>?_,λb e=>?_⟩
 ·rw[z4 (λ(z:b=x)=>n (by rw[z];exact hx))];exact e
 ·by_cases z:b=x
  ·rw[z,z3] at e;cases e
  ·rw[z4 z] at e;exact e
theorem aM.turn(m:aM D φ α H μ)(hx:α[i]?=aA x)(l:i<μ.length)(st:aO α H α (upd H x o))(d:dZ D φ α (upd H x o) r x):aM D φ α (upd H x o) (μ.set i r):=by
 refine⟨by simp[m.len],m.nd,m.dis,λb g=>?_,λj y h c a=>?_⟩
 ·obtain⟨u,k,n⟩:=m.phi b g;exact⟨u,st.keep b u (λz=>m.dis b z g) k,n⟩
 ·by_cases q:i=j
  ·subst q;rw[hx] at c;cases c;rw[mM l] at a;cases a;exact d
  ·rw[bW q] at a;have ne:y≠x:=λz=>by
    subst z;obtain⟨h1,f⟩:=bI.mp c;obtain⟨h2,e⟩:=bI.mp hx;exact q ((pF m.nd).mp (e.trans f.symm))
   exact dZ.step st (z4 ne) (m.ob j y h c a)
theorem UZ(e:aM D φ α H μ)(b:α[i]?=aA x)(c:μ[i]?=aA (.lst ts))(g:H x=aA (.lst xs))(l:aN D φ α H ts xs)(d:a_ D φ α H t v) :
  aO α H α (upd H x (.lst (xs++[v])))/\aM D φ α (upd H x (.lst (xs++[v]))) (μ.set i (.lst (ts++[t]))):=by
 have a:aO α H α (upd H x (.lst (xs++[v]))):=aO.turn (b9 b) ⟨_,g⟩;have f:i<μ.length:=(bI.mp c).1;exact⟨a,e.turn b f a ⟨_,z3,(l.step a).append ⟨v,[],rfl,d.step a,rfl⟩⟩⟩
theorem N3(S:qg o=aB)(hs:aT a=aB)(b:(pa.endLine==pc.line)=aB)(ho:PE X o (aW D W go))(ha:PE X a (aW D W f)) :
  PE X (.Call (.Attribute o "append" pa) [a] [] pc) (aW D W (U3 go f)):=by
 have Y:d7 [a] X.env=[(aC,eval a X.env)]:=z6 hs;refine PE.mono (BA pU PySem.F.slot_list_append PySem.F.type_list_append QX ho (zM ha qU (z6 hs)) (qE S) (by rw[Y];rfl) b (z6 hs) rfl) ?_;rintro σ H Q ⟨w,I,y,G,z,O,p⟩;refine⟨w,I,y,G,z,O,p.bind.mono λot k m H1 r B q ov dv=>?_⟩;split at q;case h_2=>exact q.elim
 rename_i i;obtain⟨K,Z,⟨⟨M,g⟩,V⟩,U,R⟩:=q;obtain⟨x,s,rfl⟩:=dv;obtain⟨J,u,l0⟩:=B.ob _ x _ s g;refine⟨.inl ⟨rfl,_,.inl (.inl u)⟩,w,m,y,k,z.step r,B,_,Z,V,?_,R⟩;rintro t E ⟨ts,h,T,N⟩ c H2 e A v d;obtain⟨β,e2,_⟩:=e.ext;have j:c[i]?=aA x:=by
  rw[e2,dN (bI.mp s).1];exact s
 obtain⟨L,C,l⟩:=A.ob i x _ j h;obtain⟨n,P⟩:=UZ A j h C l d;refine⟨x,L,v,rfl,rfl,C,?_,?_⟩
 ·rw[←l.length];exact cY T (zA (bE _))
 ·exact U _ _ N c _ (e.trans n) P .non rfl
end
structure i9(D:DP)(J:It)(Ok:List aF->List aF->Hp->Prop)(xs:List T):Prop where
 go:∀(i:Nat) φ α H,Ok φ α H->i<xs.length->J.go i H
 yld:∀(i:Nat) φ α H v H' t,Ok φ α H->xs[i]?=aA t->J.yld i H v H'->jX H H'/\a_ D φ α H' t v
 stop:∀φ α H,Ok φ α H->J.stop xs.length H
noncomputable def Cj (D:DP)(φ α:List aF)(H:Hp)(xs:List T)(lv:aK->Prop)(Ok:List aF->List aF->Hp->Prop):Prop:=∀a b d c,Lk φ α H a b d->aM D a b d c->lv c->Ok a b d
noncomputable def gU (D:DP)(W:XW)(f:Di):TI:=λd H R=>mo D H d λc i g h=>
 aJ D W c i H d (λp a b e=>∀J Ok,i9 D J Ok p.1->Cj D c b e p.1 p.2 Ok->p.2 a->R J e) (f g h).re
theorem Lk.trans(a:Lk φ α H g r w)(b:Lk g r w d j s):Lk φ α H d j s:=
 ⟨λx o n1 n2 e=>let ⟨f,c,h⟩:=a.ob x o n1 n2 e;b.ob x o f c h,λi x e=>b.st i x (a.st i x e)⟩
theorem Y4{D:DP}{φ α:List aF}{H:Hp}{b:Type}{f:b->T}{xs:List b}{i:Nat}(h:(xs.map f)[i]?=aA t):∃a,xs[i]?=aA a/\t=f a:=by
 rw[eE] at h;cases q:xs[i]? with
 |none=>rw[q] at h;cases h
 |some a=>rw[q] at h;cases h;exact⟨a,rfl,rfl⟩
section
variable {X:Cx}{D:DP}{W:XW}{Γ:Cn}{k:Nat}{pins:List (aF×bA)}{s:Shared}{σ:St}{H:Hp}{φ α:List aF}{τ:Sl}{μ:aK}{f g h:De}{a b c tg:aI}{pos:Pos}{es:List aI}
theorem xJ{K:bJ}{ad:aF}:i9 D (Co K ad) (λφ α H=>∃vs,Rd H ad (.lst vs)/\aN D φ α H xs vs) xs:=
 ⟨λi φ α H ⟨vs,ok,l⟩ a=>⟨vs,vs[i]'(by rw[←l.length];exact a),.inl ok,by simp⟩,λi φ α H v c t ⟨vs,ok,l⟩ a y=>by
  obtain⟨rfl,y⟩:=y;obtain⟨x,b,d⟩:=l.get a;have e:=y vs (.inl ok);rw[e] at b;cases b;exact⟨λ_ _ z=>z,d⟩,λφ α H ⟨vs,ok,l⟩=>⟨vs,.inl ok,by rw[l.length];exact bE _⟩⟩
theorem O1{K:bJ}{ad:aF}:i9 D (HX K ad) (λφ α H=>∃vs,Rd H ad (.tup vs)/\aN D φ α H xs vs) xs:=
 ⟨λi φ α H ⟨vs,ok,l⟩ a=>⟨vs,vs[i]'(by rw[←l.length];exact a),.inl ok,by simp⟩,λi φ α H v c t ⟨vs,ok,l⟩ a y=>by
  obtain⟨rfl,y⟩:=y;obtain⟨x,b,d⟩:=l.get a;have e:=y vs (.inl ok);rw[e] at b;cases b;exact⟨λ_ _ z=>z,d⟩,λφ α H ⟨vs,ok,l⟩=>⟨vs,.inl ok,by rw[l.length];exact bE _⟩⟩
theorem YE{i:Nat}(h:(gM n)[i]?=aA j):j=i:=by
 have:=(bI.mp h).2;simpa using this.symm
noncomputable def Cp(z:aG):It:=⟨λi _=>i<z.cps.toList.length,λi H x a=>a=H/\∃c,z.cps.toList[i]?=aA c/\x=.str ⟨#[c]⟩,λi _=>z.cps.toList.length<=i⟩
theorem RO{z:aG}:i9 D (Cp z) (λ_ _ _=>True) (z.cps.toList.map λc=>T.str ⟨#[c]⟩):=
 ⟨λi φ α H _ a=>by (show i<_);simpa using a,λi φ α H v e t _ a y=>by
  obtain⟨j,d,rfl⟩:=Y4 (D:=D) (φ:=φ) (α:=α) (H:=H) a;obtain⟨rfl,c,b,rfl⟩:=y;rw[d] at b;cases b;exact⟨λ_ _ z=>z,rfl⟩,λφ α H _=>by show _<=_;simp⟩
theorem Si {P:cG}{K:bJ}(hk:kd="str_ascii_iterator"\/kd="str_iterator") (it:aF) (z:aG) (t0:Tok):gH P w K tg (Cp z) [it] it (λi h=>h.IsStrIter it kd z t0 i) where
 mem:=by simp
 obj:=λi h st b a=>by
  have e:b=it:=by simpa using a
  subst e;obtain⟨o,e,c,d⟩:=st;exact⟨o,e,λv z=>by rw[d] at z;cases z⟩
 keep:=λi h j st k=>let ⟨o,L,r⟩:=st;⟨o,k it (by simp) o L,r⟩
 item:=by
  intro X D hw F C i g s y H E I m st B;subst D hw F;obtain⟨x,u,N,t,q,p⟩:=m it (by simp);have M:i<z.cps.size:=by simpa[Cp] using B
  have l:z.cps[i]?=aA z.cps[i]:=Array.getElem?_eq_getElem M;have n:z.cps.toList[i]?=aA z.cps[i]:=by rw[Array.getElem?_toList];exact l
  rcases hk with rfl|rfl
  ·refine wpAny_pyNext_ascii_item st l λj f A=>?_;have G:Inv X g y H {s with heap:=j,toks:=s.toks+1}:=I.turned (λb o a e=>(A.2 b a).trans e) x u t q p;obtain⟨o,e,c,d⟩:=id f;exact⟨.str ⟨#[z.cps[i]]⟩ s.toks,rfl,xn (s:={s with heap:=j,toks:=s.toks+1}) e c d (by decide) ⟨.str ⟨#[z.cps[i]]⟩,H,G,⟨_,rfl⟩,⟨rfl,z.cps[i],n,rfl⟩,f,λb a=>(m b a).1⟩⟩
  ·refine wpAny_pyNext_wide_item st l λj f A=>?_;have G:Inv X g y H {s with heap:=j,toks:=s.toks+1}:=I.turned (λb o a e=>(A.2 b a).trans e) x u t q p;obtain⟨o,e,c,d⟩:=id f;exact⟨.str ⟨#[z.cps[i]]⟩ s.toks,rfl,xn (s:={s with heap:=j,toks:=s.toks+1}) e c d (by decide) ⟨.str ⟨#[z.cps[i]]⟩,H,G,⟨_,rfl⟩,⟨rfl,z.cps[i],n,rfl⟩,f,λb a=>(m b a).1⟩⟩
 done:=by
  intro X D hw F C i g s y H E I m st B;subst D hw F;obtain⟨x,u,N,t,q,p⟩:=m it (by simp);have J:z.cps[i]?=aE:=Array.getElem?_eq_none (by have:z.cps.toList.length<=i:=B;simpa using this);rcases hk with rfl|rfl
  ·exact wpAny_pyNext_ascii_end (I.ok.hd C) st J λj eb=>⟨rfl,I.turned (t':=s.toks) (λb o a e=>eb b o a e) x u t q p⟩
  ·exact wpAny_pyNext_wide_end (I.ok.hd C) st J λj eb=>⟨rfl,I.turned (t':=s.toks) (λb o a e=>eb b o a e) x u t q p⟩
 self:=λ_ _ _ _ _ st h=>by
  rcases hk with rfl|rfl
  ·exact wpAny_pyIter_striter_ascii st h
  ·exact wpAny_pyIter_striter_wide st h
theorem PZ(P:PE X a (aW D W f)):PI X tg a (gU D W (iE f)):=by
 rintro M s y H R I ⟨r,α,τ,μ,sr,mr,p⟩;refine aX (sub P I sr mr p) ?_;rintro u c ⟨v,n,t,h,d,g,O,st1,sr1,k,B,p1⟩;cases t with
 |lst J=>
  obtain⟨ad,N,rfl,S,Q,q,l⟩:=B;cases O;obtain⟨w,U,pl,V⟩:=g.list (.inl q);refine nK pl.isList ?_;refine⟨c.heap.objs.size,[c.heap.objs.size],_,_,n,rfl,g.kept (t':=c.toks) λb o e=>bU _ e,vR ad _,⟨_,eF _ rfl,rfl,rfl⟩,λb x=>?_,?_⟩
  ·have e:b=c.heap.objs.size:=by simpa using x
   subst e;exact g.fpOk (bE _) (g.hok.fresh (bE _))
  ·have i:aJ D W r d n y _ (RE.ok (J,gD) h):=p1;exact i.ok (aO.refl _ _) k _ _ xJ (λC F H' E lk _ _=>by
    obtain⟨a',G,e,_,_,L,l'⟩:=a_.lk lk (show a_ D r d n (.lst J) (.ref ad) from ⟨ad,N,rfl,S,Q,q,l⟩);cases e;exact⟨G,L,l'⟩) trivial
 |tup J=>
  obtain⟨ad,N,rfl,S,Q,q,l⟩:=B;cases O;obtain⟨w,U,pl,V⟩:=g.tuple (.inl q);refine wpAny_pyIter_tuple (show c.heap.IsTuple ad w.toArray from pl) ?_;refine⟨c.heap.objs.size,[c.heap.objs.size],_,_,n,rfl,g.kept (t':=c.toks) λb o e=>bU _ e,Kh ad _,⟨_,eF _ rfl,rfl,rfl⟩,λb x=>?_,?_⟩
  ·have e:b=c.heap.objs.size:=by simpa using x
   subst e;exact g.fpOk (bE _) (g.hok.fresh (bE _))
  ·have i:aJ D W r d n y _ (RE.ok (J,gD) h):=p1;exact i.ok (aO.refl _ _) k _ _ O1 (λC F H' E lk _ _=>by
    obtain⟨a',G,e,_,_,L,l'⟩:=a_.lk lk (show a_ D r d n (.tup J) (.ref ad) from ⟨ad,N,rfl,S,Q,q,l⟩);cases e;exact⟨G,L,l'⟩) trivial
 | «mut» j=>
  obtain⟨ad,Z,rfl⟩:=B;cases O;have i:aJ D W r d n y _ (λK _=>∃A,h[j]?=aA (.lst A)/\K (A,iN j A) h):=p1;obtain⟨A,Y,i⟩:=i.ex1;obtain⟨N,q,l⟩:=k.ob j ad _ Z Y;obtain⟨w,U,pl,V⟩:=g.list (.inl (.inl q));refine nK pl.isList ?_;refine⟨c.heap.objs.size,[c.heap.objs.size],_,_,n,rfl,g.kept (t':=c.toks) λb o e=>bU _ e,vR ad _,⟨_,eF _ rfl,rfl,rfl⟩,λb x=>?_,?_⟩
  ·have e:b=c.heap.objs.size:=by simpa using x
   subst e;exact g.fpOk (bE _) (g.hok.fresh (bE _))
  ·have i:aJ D W r d n y _ (RE.ok (A,iN j A) h):=i;exact i.ok (aO.refl _ _) k _ _ xJ (λC F H' E lk m hl=>by
    obtain⟨G,L,l'⟩:=m.ob j ad _ (lk.st j ad Z) hl;exact⟨G,.inl L,l'⟩) Y
 |str z=>
  have B:v=.str z:=B;subst B;obtain⟨T,rfl⟩:=O;have fin:∀{kd:String},(kd="str_ascii_iterator"\/kd="str_iterator")->Cg X M y tg R (.ref c.heap.objs.size) {c with heap:=c.heap.push {cls:=.type kd,data:=.fields #[.str z T,.int 0 0]}}:=λ{kd} hk=>by
   refine⟨c.heap.objs.size,[c.heap.objs.size],_,_,n,rfl,g.kept (t':=c.toks) λb o e=>bU _ e,Si hk _ z T,⟨_,eF _ rfl,rfl,rfl⟩,λb x=>?_,?_⟩
   ·have e:b=c.heap.objs.size:=by simpa using x
    subst e;exact g.fpOk (bE _) (g.hok.fresh (bE _))
   ·have i:aJ D W r d n y _ (RE.ok (Zx z,gD) h):=p1;exact i.ok (aO.refl _ _) k _ _ RO (λ_ _ _ _ _ _ _=>f_) trivial
  cases P:z.cps.all (·<128) with
  |true=>exact wpAny_pyIter_ascii P (fin (.inl rfl))
  |false=>exact wpAny_pyIter_wide P (fin (.inr rfl))
 |_=>exact aJ.elim p1
theorem UF(h:aY (x::xs) us):∃u r,us=u::r/\RelV x u/\aY xs r:=by
 cases h with
 |cons r q=>exact⟨_,_,rfl,r,q⟩
noncomputable def m6(lo c:Int)(n:Nat):It:=⟨λi _=>i<n,λi H x a=>a=H/\x=.int (lo+i*c),λi _=>n<=i⟩
theorem Ji{P:cG}{K:bJ}(it:aF)(lo c:Int)(n:Nat):gH P w K tg (m6 lo c n) [it] it (λi h=>IsRangeIter h it (lo+(i:Nat)*c) ((n:Int)-(i:Nat)) c) where
 mem:=by simp
 obj:=λi h st b d=>by
  have e:b=it:=by simpa using d
  subst e;exact⟨_,st,λv z=>by cases (show CP _=Data.cell v from z)⟩
 keep:=λi h j st k=>k it (by simp) _ st
 item:=by
  intro X p hw q m i a s B H E I g st l;subst p hw q;obtain⟨A,y,G,x,u,r⟩:=g it (by simp);have W:=Walks.range (prog:=X.prog) (w:=X.w) (I.ok.hd m) it lo c n;refine W.item i s _ _ l st λv j C F f D=>?_;obtain⟨t,rfl⟩:=F;have J:Inv X a B H {s with heap:=j,toks:=C}:=I.turned (λb o d e=>D b o (by simpa using d) e) A y x u r;exact⟨_,rfl,xn (s:={s with heap:=j,toks:=C}) (n:="range_iterator") f rfl rfl (by decide) ⟨.int (lo+i*c),H,J,⟨t,rfl⟩,⟨rfl,rfl⟩,f,λb d=>(g b d).1⟩⟩
 done:=by
  intro X p hw q m i a s B H E I g st l;subst p hw q;obtain⟨A,y,G,x,u,r⟩:=g it (by simp);exact wpAny_pyNext_range_end (I.ok.hd m) st (by have:n<=i:=l;lia) λj eb=>⟨rfl,I.turned (t':=s.toks) (λb o d e=>eb b o d e) A y x u r⟩
 self:=λ_ _ _ _ _ st h=>wpAny_pyIter_rangeiter st h
theorem JA{P:cG}{K:bJ}(it:aF)(lo c:Int)(n:Nat):gH P w K tg (m6 lo c n) [it] it (λi h=>IsLongIter h it (lo+(i:Nat)*c) ((n:Int)-(i:Nat)) c) where
 mem:=by simp
 obj:=λi h st b d=>by
  have e:b=it:=by simpa using d
  subst e;exact⟨_,st,λv z=>by cases (show CP _=Data.cell v from z)⟩
 keep:=λi h j st k=>k it (by simp) _ st
 item:=by
  intro X p hw q m i a s B H E I g st l;subst p hw q;obtain⟨A,y,G,x,u,r⟩:=g it (by simp);have W:=Walks.longrange (prog:=X.prog) (w:=X.w) (I.ok.hd m) it lo c n;refine W.item i s _ _ l st λv j C F f D=>?_;obtain⟨t,rfl⟩:=F;have J:Inv X a B H {s with heap:=j,toks:=C}:=I.turned (λb o d e=>D b o (by simpa using d) e) A y x u r;exact⟨_,rfl,xn (s:={s with heap:=j,toks:=C}) (n:="longrange_iterator") f rfl rfl (by decide) ⟨.int (lo+i*c),H,J,⟨t,rfl⟩,⟨rfl,rfl⟩,f,λb d=>(g b d).1⟩⟩
 done:=by
  intro X p hw q m i a s B H E I g st l;subst p hw q;obtain⟨A,y,G,x,u,r⟩:=g it (by simp);exact wpAny_pyNext_long_end (I.ok.hd m) st (by have:n<=i:=l;lia) λj eb=>⟨rfl,I.turned (t':=s.toks) (λb o d e=>eb b o d e) A y x u r⟩
 self:=λ_ _ _ _ _ st h=>wpAny_pyIter_longiter st h
theorem O7{a b c:Int}(d:0<c):tU a b c=if a<b then (b-a-1) / c+1 else 0:=by
 unfold tU;rw[if_pos d]
theorem Q_{σ:St}{H:Hp}{lo a c:Int}{t u v:Tok}(I:Inv X pins σ H s)(j:0<c)
  (q:R (m6 lo c (if lo<a then (a-lo-1) / c+1 else 0:Int).toNat) H):wpAny (aR X.prog X.w) X.A (m_ (.ref s.heap.objs.size)) (Cg X pins σ tg R) E {s with heap:=s.heap.push {cls:=.type "range",data:=.fields #[.int lo t,.int a u,.int c v]},toks:=tk}:=by
 have d:Inv X pins σ H {s with heap:=s.heap.push {cls:=.type "range",data:=.fields #[.int lo t,.int a u,.int c v]},toks:=tk}:=I.kept λb o e=>bU _ e;have i:lo+((0:Nat):Int)*c=lo:=by simp
 have h:(((if lo<a then (a-lo-1) / c+1 else 0:Int).toNat:Nat):Int)-((0:Nat):Int)=tU lo a c:=by
  rw[O7 j];have:0<=(if lo<a then (a-lo-1) / c+1 else 0):=by
   split
   ·have k:0<=(a-lo-1) / c:=tz (by omega) (by omega);omega
   ·omega
  omega
 have fr:∀b∈[(s.heap.push {cls:=.type "range",data:=.fields #[.int lo t,.int a u,.int c v]}).objs.size],b=(s.heap.push {cls:=.type "range",data:=.fields #[.int lo t,.int a u,.int c v]}).objs.size:=λb g=>by simpa using g
 cases f:Ii lo a c with
 |true=>
  refine wpAny_pyIter_range (CO ..) f ?_
  refine⟨(s.heap.push {cls:=.type "range",data:=.fields #[.int lo t,.int a u,.int c v]}).objs.size,[(s.heap.push {cls:=.type "range",data:=.fields #[.int lo t,.int a u,.int c v]}).objs.size],_,_,H,rfl,
   d.kept (t':=tk) λb o e=>bU _ e,Ji _ lo c (if lo<a then (a-lo-1) / c+1 else 0:Int).toNat,?_,λb g=>?_,q⟩
  ·show IsRangeIter _ _ (lo+((0:Nat):Int)*c) ((((if lo<a then (a-lo-1) / c+1 else 0:Int).toNat:Nat):Int)-((0:Nat):Int)) c;rw[i,h];exact eF _ rfl
  ·rw[fr b g];exact d.fpOk (bE _) (d.hok.fresh (bE _))
 |false=>
  refine wpAny_pyIter_longrange (CO ..) f ?_
  refine⟨(s.heap.push {cls:=.type "range",data:=.fields #[.int lo t,.int a u,.int c v]}).objs.size,[(s.heap.push {cls:=.type "range",data:=.fields #[.int lo t,.int a u,.int c v]}).objs.size],_,_,H,rfl,
   d.kept (t':=tk) λb o e=>bU _ e,JA _ lo c (if lo<a then (a-lo-1) / c+1 else 0:Int).toNat,?_,λb g=>?_,q⟩
  ·show IsLongIter _ _ (lo+((0:Nat):Int)*c) ((((if lo<a then (a-lo-1) / c+1 else 0:Int).toNat:Nat):Int)-((0:Nat):Int)) c;rw[i,h];exact eF _ rfl
  ·rw[fr b g];exact d.fpOk (bE _) (d.hok.fresh (bE _))
theorem Zi{lo c:Int}{n:Nat}:i9 D (m6 lo c n) (λ_ _ _=>True) ((gM n).map λ(i:Nat)=>T.int (lo+i*c)):=
 ⟨λi φ α H _ a=>by (show i<n);simpa using a,λi φ α H v d t _ a y=>by
  obtain⟨j,b,rfl⟩:=Y4 (D:=D) (φ:=φ) (α:=α) (H:=H) a;rw[YE b];obtain⟨rfl,rfl⟩:=y;exact⟨λ_ _ z=>z,rfl⟩,λφ α H _=>by show n<=_;simp⟩
theorem Yq (C:Ck D W Γ X k) (hx:("range":aG)∈Γ.G) (hg:Γ.gl "range"=.none) (h:aT a=aB) (d:aT b=aB) (ha:PE X a (aW D W f)) (hb:PE X b (aW D W g)) :
  PI X tg (.Call (.Name "range" p0) [a,b] [] pos) (gU D W (Jh f g)):=by
 have L:=C.glo _ hx;rw[hg] at L;rintro e s F H R I ⟨l,N,E,M,K,V,p⟩;refine Call_ (jf I (C.glb _ hx) L boot_range (ri (aX (zM ha (zM hb qU (z6 d)) (z6 h) pos e s F H (λJ B=>∃i j:Int,J=[.int i,.int j]/\R (m6 i 1 (if i<j then (j-i-1) / 1+1 else 0:Int).toNat) B) I ?_) ?_) (by rw[z6 h,z6 d]) (by rw[z6 d];rfl)))
 ·refine⟨l,N,E,M,K,V,p.bind.mono λx n u B v Z U P A=>⟨l,u,E,n,K.step v,Z,U.bind.mono λy m o H2 Q Y c O z=>?_⟩⟩;cases x with
  |int i=>
   cases y with
   |int j=>
    have c:aJ D W l o H2 F _ (RE.grd (mf i/\mf j) (RE.ok (jL i j 1,gD) m)):=c;obtain⟨hh,c⟩:=c.grd;have A:P=.int _:=A;have z:O=.int _:=z;subst A z;exact⟨_,_,rfl,c.ok (aO.refl _ _) Y _ _ Zi (λ_ _ _ _ _ _ _=>f_) trivial⟩
   |_=>exact aJ.elim c
  |_=>exact aJ.elim c
 ·rintro us s1 ⟨J,B,I1,S,i,j,rfl,q⟩;cases S with
  |cons r w=>
   cases w with
   |cons T w=>
    cases w;obtain⟨t,rfl⟩:=r;obtain⟨t',rfl⟩:=T;exact call_range_2 (Q_ I1 (by omega) q)
theorem S5 (C:Ck D W Γ X k) (hx:("range":aG)∈Γ.G) (F:Γ.gl "range"=.none) (hs:aT a=aB) (J:PE X a (aW D W f)) :
  PI X tg (.Call (.Name "range" p0) [a] [] pos) (gU D W (Fa f)):=by
 have o:=C.glo _ hx;rw[F] at o;rintro b s h H R I ⟨g,y,w,x,z,E,p⟩;refine Call_ (jf I (C.glb _ hx) o boot_range (ri (aX (zM J qU (z6 hs) pos b s h H (λl u=>∃j:Int,l=[.int j]/\R (m6 0 1 (if 0<j then (j-0-1) / 1+1 else 0:Int).toNat) u) I ?_) ?_) (z6 hs) rfl))
 ·refine⟨g,y,w,x,z,E,p.bind.mono λt c e N st m q v d=>?_⟩;cases t with
  |int n=>
   have d:v=.int _:=d;subst d;have q:aJ D W g e N h _ (RE.grd (mf n) (RE.ok (rangeT n,gD) c)):=q;obtain⟨Q,q⟩:=q.grd;have L:(if 0<n then (n-0-1) / 1+1 else 0:Int).toNat=n.toNat:=by
    split
    ·rw[sM];congr 1;lia
    ·lia
   have K:((gM n.toNat).map λ(i:Nat)=>T.int (0+i*1))=rangeT n:=by
    unfold rangeT;refine DU λi _=>?_;simp
   refine⟨n,rfl,?_⟩;rw[L];exact q.ok (aO.refl _ _) m _ _ (K▸Zi) (λ_ _ _ _ _ _ _=>f_) trivial
  |_=>exact aJ.elim q
 ·rintro O P ⟨l,u,M,A,j,rfl,q⟩;cases A with
  |cons r B=>
   cases B;obtain⟨t,rfl⟩:=r;exact call_range_1 (Q_ M (by lia) q)
noncomputable def c3 (N:List aG):List aI->Option (List Nat)
 |[]=>aA []
 |.Name x _::r=>match cD N x,c3 N r with
  |some i,aA a=>aA (i::a)
  |_,_=>aE
 |_::_=>aE
noncomputable def wZ (N:List aG):aI->Option Tg
 |.Name x _=>(cD N x).map Tg.one
 |.Tuple es _ _=>(c3 N es).map Tg.tup
 |_=>aE
noncomputable def z7:aI->List aG
 |.Name x _=>[x]
 |.Tuple es _ _=>es.filterMap λe=>match e with|.Name x _=>aA x|_=>aE
 |_=>[]
noncomputable def mZ (X:Cx)(S:List aG):Prop:=∀x∈S,Loc X.env.scope x/\(X.fn x=aB\/X.env.scope.names.lookup x=aA .local)
theorem Xq(hN:X.N=N)(nd:N.Nodup)(o:mZ X S):∀{es:List aI}{is:List Nat}{ts:List T}{τ a:Sl},(∀e∈es,∀x p,e=.Name x p->x∈S)->c3 N es=aA is->Va is ts τ=aA a->
  ∃t,oQ X es t/\(ik es X.env).length=ts.length/\(ik es X.env).findIdx? (·.1)=aE/\∀{σ:St}{vs:List V}{φ α H} {Q:St->Hp->Prop},aZ D φ α H τ σ->aN D φ α H ts vs->(∀j,aZ D φ α H a j->Q j H)->t vs σ H Q
 |[],is,ts,τ,a,_,b,h=>by
  simp[c3] at b;subst b;cases ts with
  |nil=>
   simp[Va] at h;subst h;exact⟨Fc,Pf,rfl,rfl,λf l q=>⟨l,q _ f⟩⟩
  |cons _ _=>simp[Va] at h
 |e::es,is,ts,τ,a,w,b,h=>by
  cases e with
  |Name x c=>
   simp only[c3] at b;split at b
   ·rename_i i m B n;cases b;cases ts with
    |nil=>simp[Va] at h
    |cons t ts=>
     have h:Va m ts (jZ τ i (aA t))=aA a:=h;have s:=w _ eU x c rfl;have y:PG X (.Name x c) (Xi i):=Xa (hN▸nd) (by rw[hN];exact wF B) (o x s).1 (o x s).2;obtain⟨u,g,A,C,z⟩:=Xq hN nd o (λe E=>w e (d9 _ E)) n h;refine⟨GL (Xi i) u,SH y g rfl,by simpa[ik] using A,?_,λ{σ vs φ α H Q} f l k=>?_⟩
     ·have F:ik (.Name x c::es) X.env=(aC,ii (.Name x c) X.env)::ik es X.env:=rfl;rw[F,List.findIdx?_cons];simp[C]
     ·obtain⟨v,r,rfl,d,l⟩:=l;exact⟨v,r,rfl,z (f.set d) l k⟩
   ·cases b
  |_=>simp[c3] at b
theorem KD(hN:X.N=N)(nd:N.Nodup)(m:mZ X S)(Q:X.calm=aB\/∃y q,e=.Name y q)(E:∀x∈z7 e,x∈S)(h0:wZ N e=aA tgt)(h:ir tgt t τ=aA B)(I:Inv X pins σ H s)(o:aZ D φ α H τ σ)(d:a_ D φ α H t v)(r:RelV v u) :
  wpAny (aR X.prog X.w) X.A (ii e X.env u) (λ_ J=>∃j,Inv X pins j H J/\aZ D φ α H B j) X.xe s:=by
 cases e with
 |Name x C=>
  simp only[wZ] at h0;cases q:cD N x with
  |none=>rw[q] at h0;cases h0
  |some i=>
   rw[q] at h0;cases h0;cases (bP h:jZ τ i (aA t)=B);have c:x∈S:=E x (by simp[z7]);refine aX (Xa (i:=i) (hN▸nd) (by rw[hN];exact wF q) (m x c).1 (m x c).2 pins s σ H v u (λj b=>b=H/\j=σ.set i (aA v)) I r ⟨rfl,rfl⟩) ?_;rintro _ G ⟨j,b,n,rfl,rfl⟩;exact⟨_,n,o.set d⟩
 |Tuple es K C=>
  simp only[wZ] at h0;cases q:c3 N es with
  |none=>rw[q] at h0;cases h0
  |some T=>
   rw[q] at h0;cases h0;cases t with
   |tup R=>
    obtain⟨g,f,M,O,L⟩:=Xq (D:=D) hN nd m (λe P x p c=>E x (by subst c;exact nO.mpr ⟨_,P,rfl⟩)) q h;obtain⟨ad,F,rfl,_,_,q,l⟩:=d;refine aX (Ny (k:=K) (pos:=C) (Q.resolve_right λ⟨_,_,z⟩=>by cases z) f M O pins s σ H (.ref ad) u (λj b=>b=H/\aZ D φ α H B j) I r ⟨ad,F,rfl,.inl q,l.length.symm,L o l λj a=>⟨rfl,a⟩⟩) ?_;rintro _ G ⟨j,b,n,rfl,a⟩;exact⟨j,n,a⟩
   |_=>cases h
 |_=>simp[wZ] at h0
end
theorem OF(env:Env):∀(names:List (aG×lh)) (cs:List (aG×aF)),(∀p∈names,p.2=.free->∃c,env.cells.lookup p.1=aA c)->
  ∃cl,(forIn names cs (λ(x:aG×lh) r=>if (x.2==.free)=aB then do let a ←cellOf env x.1;pure (lA ((x.1,a)::r)) else pure (lA r)):Sem (List (aG×aF)))=pure cl/\
   (∀x c,cl.lookup x=aA c->cs.lookup x=aA c\/(env.cells.lookup x=aA c/\∃p∈names,p.1=x/\p.2=.free))/\(∀x c,cs.lookup x=aA c->∃g,cl.lookup x=aA g)/\∀p∈names,p.2=.free->∃c,cl.lookup p.1=aA c:=by
 intro names;induction names with
 |nil=>intro cs _;exact⟨cs,rfl,λx c h=>.inl h,λx c h=>⟨c,h⟩,λp d=>absurd d (by simp)⟩
 |cons p names u=>
  intro cs h;rw[tx];by_cases d:p.2=.free
  ·obtain⟨c,v⟩:=h p eU d;have e:cellOf env p.1=pure c:=by unfold cellOf;rw[v]
   rw[if_pos (by simp[d]),e];obtain⟨cl,t,s,k,o⟩:=u ((p.1,c)::cs) λq b=>h q (d9 _ b);refine⟨cl,t,λx g i=>?_,λx g i=>?_,λq b l=>?_⟩
   ·rcases s x g i with z|⟨z,q,b,n,m⟩
    ·rw[gB] at z;cases f:x==p.1 with
     |true=>
      simp[f] at z;subst z;have j:x=p.1:=by simpa using f
      exact .inr ⟨by rw[j];exact v,p,eU,j.symm,d⟩
     |false=>simp[f] at z;exact .inl z
    ·exact .inr ⟨z,q,d9 _ b,n,m⟩
   ·cases f:x==p.1 with
    |true=>exact k x c (by simp[gB,f])
    |false=>exact k x g (by simp[gB,f,i])
   ·rcases cA.mp b with rfl|b
    ·exact k _ c (by simp[gB])
    ·exact o q b l
  ·rw[if_neg (by simp[d])];obtain⟨cl,t,s,k,o⟩:=u cs λq b=>h q (d9 _ b);refine⟨cl,t,λx g i=>?_,k,λq b l=>?_⟩
   ·rcases s x g i with z|⟨z,q,b,n,m⟩
    ·exact .inl z
    ·exact .inr ⟨z,q,d9 _ b,n,m⟩
   ·rcases cA.mp b with rfl|b
    ·exact absurd l d
    ·exact o q b l
noncomputable def uR(sc:Scope):List aG:=(sc.names.filter λp=>p.2==.globalImplicit).map (·.1)
noncomputable def frees(sc:Scope):List aG:=(sc.names.filter λp=>p.2==.free).map (·.1)
theorem vP:x∈frees sc↔∃p∈sc.names,p.1=x/\p.2=.free:=by
 unfold frees;simp only[eR,fS,beq_iff_eq];constructor
 ·rintro⟨p,⟨c,b⟩,a⟩;exact⟨p,c,a,b⟩
 ·rintro⟨p,c,a,b⟩;exact⟨p,⟨c,b⟩,a⟩
theorem ZF(h:∀x∈frees sc,∃c,env.cells.lookup x=aA c) :
  ∃cl,mG sc env=pure cl/\(∀x c,cl.lookup x=aA c->env.cells.lookup x=aA c/\x∈frees sc)/\∀x∈frees sc,∃c,cl.lookup x=aA c:=by
 obtain⟨cl,j,i,k,g⟩:=OF env sc.names [] λp a d=>h p.1 (vP.mpr ⟨p,a,rfl,d⟩);refine⟨cl,?_,λx c b=>?_,λx b=>?_⟩
 ·rw[←j];unfold mG;simp
 ·rcases i x c b with z|⟨z,p,a,f,e⟩
  ·simp at z
  ·exact⟨z,vP.mpr ⟨p,a,f,e⟩⟩
 ·obtain⟨p,a,rfl,d⟩:=vP.mp b;exact g p a d
section
variable {M:Model}{A:Around}{E:aD->Shared->Prop}{s:Shared}{env:Env}
noncomputable def WA(M:Model)(A:eN)(E:aD->a9->Prop)(use:Option (aD->Sem Unit))(Q:aD->a9->Prop)(a:aD)(ce:Env):m9->a9->Prop
 |.ok _,t=>(match use with
  |none=>∃m,t.heap.Ns ce.locals m/\∀g,gA ce.locals t.heap g->Q a {t with heap:=g}
  |some u=>wpAny M A (u a) (λ_ b=>∃m,b.heap.Ns ce.locals m/\∀g,gA ce.locals b.heap g->Q .none {b with heap:=g}) E t)
 |.error x,t=>∃m,t.heap.Ns ce.locals m/\∀g,gA ce.locals t.heap g->wpAny M A (passOn "comprehension.variables-let-go" x ce:Sem aD) (λ_ _=>False) E {t with heap:=g}
theorem OI{mk fst:Sem aD}{use:Option (aD->Sem Unit)} 
  (h1:clausesOf e=g::gs) (h2:∀x,lw g.iter env x=pure x) (K:mG sc env=pure cl) (n:sc.kind=.function) (J:∀x∈sc.names,x.2=.local->sc.names.lookup x.1=aA .local)
  (h:wpAny M A fst (λx t1=>wpAny M A (m_ x) (λit C=>wpAny M A mk (λd B=>wpAny M A (newFunctionEnv sc env.globals cl [] env.qual aE .none (aA env)) (λce w=>
    f9 M A (.compStart e 0 it d {ce with scope:=eP sc env}) (WA M A E use Q d {ce with scope:=eP sc env}) w) E B) E C) E t1) E s) :
  wpAny M A (pz e sc env pos mk aC fst use) Q E s:=by
 unfold pz;rw[K,h1];have a:∀(x:aD) (t:a9),E x t->E x t:=λ_ _ z=>z;refine wpAny_bind (dO h (λx t1 G=>?_) a);refine wpAny_bind (hX (wpAny_bind (lp (h2 x) (wpAny_bind (wpAny_holding (dO G (λit C F=>?_) a))))));refine wpAny_standIf (wpAny_bind (dO F (λd B D=>?_) a));refine wpAny_bind (wpAny_pure (wpAny_bind (dO D (λce w v=>?_) a)));dsimp only
 have H:∀y∈(sc.names.filter λx=>(x.2==.local || x.2==.cell)&&x.1 != (".0":aG)),y.2=.local->Env.kindOf {ce with scope:=eP sc env} y.1=aA .local:=
  λy i I=>lookup_relabel_local (J y (fS.mp i).1 I)
 have k:∀y∈(sc.names.filter λx=>(x.2==.local || x.2==.cell)&&x.1 != (".0":aG)).reverse,y.2=.local->Env.kindOf {ce with scope:=eP sc env} y.1=aA .local:=
  λy i=>H y (List.mem_reverse.mp i)
 refine wpAny_holding (wpAny_bind (mJ (wpAny_holding (wpAny_run (iK v λr o l=>?_)))));cases r with
 |error x=>
  obtain⟨m,j,b⟩:=l;refine wpAny_bind (wpAny_holding (sX (cenv:={ce with scope:=eP sc env}) n _ o m k j λg p _ c=>?_));exact dO (b g c) (λ_ _ z=>z.elim) a
 |ok f=>
  cases use with
  |none=>
   obtain⟨m,j,b⟩:=l;exact wpAny_bind (wpAny_holding (sX (cenv:={ce with scope:=eP sc env}) n _ o m k j λg p _ c=>wpAny_pure (b g c)))
  |some u=>
   refine wpAny_bind (nz (wpAny_bind (wpAny_holding (dO l (λ_ q b=>?_) a))));obtain⟨m,j,b⟩:=b;refine wpAny_bind (sX (cenv:={ce with scope:=eP sc env}) n _ q m (λy i=>?_) j λg p _ c=>wpAny_pure (b g c));rcases cH.mp i with z|z
   ·exact k y (Ek z)
   ·exact k y (ra z)
end
section
variable {prog:Program}{w:World}{A:Around}{R:Result->Shared->Prop}{s:Shared}
theorem SS(elt a iter:aI)(ifs:List aI)(scope:Scope)(pos:Pos)(it b:aD)(env:Env) :
  compTurn (.ListComp elt [⟨a,iter,ifs,0⟩] scope pos) 0 it b env=(standAt iter.pos >>= λ_=>mx it >>= λr=>match r with
   |none=>pure (.done .next)
   |some v=>nT a it v >>= λ_=>ii a env v >>= λ_=>
    (forIn ifs aB λc s=>if s=aB then isTrue c env (eval c env) >>= λok=>pure (lA ok) else pure (lA s)) >>= λok=>
     if ok=aB then (eval elt env >>= λx=>call (.builtin "list.append") [b,x] >>= λ_=>pure ()) >>= λ_=>
      again (.compLoop (.ListComp elt [⟨a,iter,ifs,0⟩] scope pos) 0 it b env)
     else again (.compLoop (.ListComp elt [⟨a,iter,ifs,0⟩] scope pos) 0 it b env)):=by rfl
noncomputable def yw(M:Model)(A:eN)(env:Env)(E:aD->a9->Prop):List aI->(Bool->a9->Prop)->a9->Prop
 |[],Q,s=>Q aB s
 |c::cs,Q,s=>wpAny M A (isTrue c env (eval c env)) (λb a=>if b=aB then yw M A env E cs Q a else Q aC a) E s
theorem Wi:∀(cs:List aI) {s:a9},Q aC s->
  wpAny M A (forIn cs aC λc s=>if s=aB then isTrue c env (eval c env) >>= λok=>pure (lA ok) else pure (lA s)) Q E s
 |[],s,h=>wpAny_pure h
 |c::cs,s,h=>by
  rw[tx];refine wpAny_bind ?_;rw[if_neg (by decide)];exact wpAny_pure (Wi cs h)
theorem Ja:∀(cs:List aI) {s:a9},yw M A env E cs Q s->
  wpAny M A (forIn cs aB λc s=>if s=aB then isTrue c env (eval c env) >>= λok=>pure (lA ok) else pure (lA s)) Q E s
 |[],s,h=>wpAny_pure h
 |c::cs,s,h=>by
  rw[tx];refine wpAny_bind ?_;rw[if_pos rfl];refine wpAny_bind (aX h λb d a=>wpAny_pure ?_);cases b with
  |true=>rw[if_pos rfl] at a;exact Ja cs a
  |false=>rw[if_neg (by decide)] at a;exact Wi cs a
theorem YD(I:Nat->a9->Prop)
  (turn:∀n s,I n s->wpAny (aR prog w) A (mx it) (λr j=>match r with
   |none=>R (.ok .next) j
   |some v=>wpAny (aR prog w) A (nT d it v) (λ_ E=>wpAny (aR prog w) A (ii d env v) (λ_ D=>yw (aR prog w) A env (notedBy (aR prog w) A env λx H=>R (.error x) H) ifs (λb g=>
     if b=aB then wpAny (aR prog w) A (eval elt env) (λx C=>wpAny (aR prog w) A (call (.builtin "list.append") [G,x]) (λ_ B=>∃m,m<n/\I m B) (λ_ _=>False) C) (notedBy (aR prog w) A env λx H=>R (.error x) H) g else ∃m,m<n/\I m g) D) (λ_ _=>False) E) (λ_ _=>False) j) (λ_ _=>False) s)
  (n:Nat) (h:I n s):f9 (aR prog w) A (.compLoop (.ListComp elt [⟨d,iter,ifs,0⟩] scope pos) 0 it G env) R s:=by
 refine codeAny_loop rfl I (λn s o=>?_) n h;show wpAny _ _ ((compTurn (.ListComp elt [⟨d,iter,ifs,0⟩] scope pos) 0 it G env).onRaise (λx=>do o4 x env;theTreesLotGoes x)) _ _ s;refine wpAny_noted ?_;rw[SS];have nx:∀{l:Type}{t:Sem l}{Q:l->a9->Prop}{s:a9}{N:aD->a9->Prop},wpAny (aR prog w) A t Q (λ_ _=>False) s->wpAny (aR prog w) A t Q N s:=λh=>dO h (λ_ _ q=>q) λ_ _ z=>z.elim;refine wpAny_bind (hX (wpAny_bind (nx (aX (turn n s o) λr j c=>?_))));cases r with
 |none=>exact wpAny_pure c
 |some v=>
  refine wpAny_bind (nx (aX c λ_ E k=>?_));refine wpAny_bind (nx (aX k λ_ D i=>?_));refine wpAny_bind (aX (Ja ifs i) λb g a=>?_);cases b with
  |true=>
   rw[if_pos rfl] at a ⊢;exact wpAny_bind (wpAny_bind (aX a λx C f=>wpAny_bind (nx (aX f λ_ B e=>wpAny_pure (wpAny_pure ⟨rfl,e⟩)))))
  |false=>
   rw[if_neg (by decide)] at a ⊢;exact wpAny_pure ⟨rfl,a⟩
end
noncomputable abbrev iM:XW:=λ_ _ _ _=>False
noncomputable def h_ (X:Cx)(N:List aG)(sc:Scope)(cl:List (aG×aF))(C0:aF)(a:a9)(b:Hp)(fp:List aF):Cx:=
 {X with N:=N,s₀:=a,H₀:=b,env:=hI sc cl C0 X.env,outer:=X.stack,ex:=fp,fn:=λ_=>aC,pn:=[],xe:=λ_ _=>False}
noncomputable def Wu(N cel:List aG)(tg:aI)(sc:Scope):Bool:=
 (sc.kind==.function)&&sc.names.all (λp=>p.2 != .cell)&&sc.names.all (λp=>p.2 != .local || sc.names.lookup p.1==aA .local)&&
 (z7 tg).all (λx=>sc.names.lookup x==aA .local&&x != ("__debug__":aG)&&x != ("__classdict__":aG))&&(frees sc).all (λx=>(cD N x).isSome&&sc.names.lookup x==aA .free&&cel.contains x&&x != ("__debug__":aG)&&x != ("__classdict__":aG))&&decide ((z7 tg++frees sc).Nodup)&&
 (uR sc).all (λx=>sc.names.lookup x==aA .globalImplicit)
structure cQ(N cel:List aG)(tg:aI)(sc:Scope):Prop where
 kind:sc.kind=.function
 noc:∀p∈sc.names,p.2≠.cell
 lcl:∀p∈sc.names,p.2=.local->sc.names.lookup p.1=aA .local
 own:∀x∈z7 tg,sc.names.lookup x=aA .local/\(x==("__debug__":aG))=aC/\(x==("__classdict__":aG))=aC
 fre:∀x∈frees sc,(∃i,cD N x=aA i)/\sc.names.lookup x=aA .free/\x∈cel/\(x==("__debug__":aG))=aC/\(x==("__classdict__":aG))=aC
 nd:(z7 tg++frees sc).Nodup
 glb:∀x∈uR sc,sc.names.lookup x=aA .globalImplicit
theorem W2(h:Wu N cel tg sc=aB):cQ N cel tg sc:=by
 unfold Wu at h;simp only[cB,fT,beq_iff_eq,bne_iff_ne,nQ,decide_eq_true_eq,hY,rf,ne_eq] at h;obtain⟨⟨⟨⟨⟨⟨q,o⟩,n⟩,m⟩,l⟩,k⟩,j⟩:=h;refine⟨q,o,λp g i=>?_,λx f=>?_,λx f=>?_,k,j⟩
 ·rcases n p g with z|z
  ·exact absurd i z
  ·exact z
 ·obtain⟨⟨a,b⟩,c⟩:=m x f;exact⟨a,by simpa using b,by simpa using c⟩
 ·obtain⟨⟨⟨⟨a,b⟩,c⟩,d⟩,e⟩:=l x f;exact⟨a,b,c,by simpa using d,by simpa using e⟩
theorem qr{env:Env}{x:aG}:∀{names:List (aG×lh)}{kd:lh},names.lookup x=aA kd->
  (names.map λ(n,k)=>if (k==pj&&env.scope.kind==.function&&env.kindOf n==aA .cell) then (n,NameKind.cell) else (n,k)).lookup x=aA (if (kd==pj&&env.scope.kind==.function&&env.kindOf x==aA .cell) then .cell else kd)
 |[],_,h=>by simp at h
 |(n,k)::r,kd,h=>by
  have c:=@qr env x r kd;rw[dU];rw[gB] at h;cases a:x==n with
  |true=>
   have b:x=n:=by simpa using a
   subst b;simp at h;subst h;dsimp only;split<;>simp_all[gB]
  |false=>
   simp only[a] at h;dsimp only;split
   ·rw[gB];simp only[a];exact c h
   ·rw[gB];simp only[a];exact c h
section
variable {X:Cx}{D:DP}{W:XW}{Γ:Cn}{k:Nat}{pins:List (aF×bA)}{s2:Shared}{σ:St}{H2:Hp}{φ α:List aF}{τ:Sl}{tg:aI}{sc:Scope}{cl:List (aG×aF)}{fp:List aF}
noncomputable def VT (N:List aG)(σ:St)(fs:List aG):St:=fs.map λx=>(cD N x).bind λi=>(σ[i]?).join
noncomputable def js (N:List aG):List aG->Option (List Nat)
 |[]=>aA []
 |x::r=>match cD N x,js N r with
  |some i,aA a=>aA (i::a)
  |_,_=>aE
theorem W_:∀(n:Nat) {fs:List Nat}{τ:Sl},gV n fs τ=ly n aE++K8 fs τ
 |0,_,_=>rfl
 |n+1,fs,τ=>by
  show aE::gV n fs τ=_;rw[W_ n];rfl
theorem Ze:∀{fs:List Nat}{τ:Sl},(K8 fs τ).length=fs.length
 |[],_=>rfl
 |i::r,τ=>by show (K8 r τ).length+1=_;rw[Ze];rfl
theorem Zn:∀{N xs:List aG}{fs:List Nat},js N xs=aA fs->fs.length=xs.length
 |N,[],fs,h=>by cases h;rfl
 |N,x::r,fs,h=>by
  simp only[js] at h;split at h
  ·rename_i i b c a;cases h;simp[Zn a]
  ·cases h
theorem J5(b:aZ D φ α H τ σ):∀{xs:List aG}{fs:List Nat},js N xs=aA fs->∀(j:Nat) (t:T),(K8 fs τ)[j]?=aA (aA t)->∃v,(VT N σ xs)[j]?=aA (aA v)/\a_ D φ α H t v
 |[],fs,h,j,t,e=>by cases h;simp[K8] at e
 |x::r,fs,h,j,t,e=>by
  simp only[js] at h;split at h
  ·rename_i i c g f;cases h;cases j with
   |zero=>
    have e:aA (Qx τ i)=aA (aA t):=e;obtain⟨v,a,d⟩:=b.get (bP e);exact⟨v,by simp[VT,g,a],d⟩
   |succ j=>
    have e:(K8 c τ)[j]?=aA (aA t):=e;obtain⟨v,a,d⟩:=J5 b f j t e;exact⟨v,by simpa[VT] using a,d⟩
  ·cases h
theorem Pa{N:List aG}{H:Hp}{ns xs:List aG}{fs:List Nat}(b:aZ D φ α H τ σ)(h:js N xs=aA fs):aZ D φ α H (gV ns.length fs τ) (ns.map (λ_=>aE)++VT N σ xs):=by
 rw[W_];refine⟨by simp[Ze,Zn h,VT],λj t e=>?_⟩;rcases CY j ns.length with a|a
 ·rw[dN (by simpa using a),pW] at e;split at e<;>cases e
 ·rw[fA (by simpa using a)] at e;rw[fA (by simpa using a)];simp only[cJ,EE] at e ⊢;exact J5 b h _ t e
theorem JX(C:Ck D W Γ X k)(ok:cQ Γ.N Γ.cel tg sc)(g:Inv X pins σ H2 s2)(hf:∀b∈fp, Wx X pins H2 b)(Z:∀b∈fp, ∃o, s2.heap.get? b=aA o)(f:∀x c, cl.lookup x=aA c->X.env.cells.lookup x=aA c/\x∈frees sc)(s:∀x∈frees sc, ∃c, cl.lookup x=aA c)
 (U : h1.Ns (s2.heap.objs.size + 1) (fun _ => aE)) (L : gA (s2.heap.objs.size + 1) ((s2.heap.push { cls := .type "list", data := .seq ([] : List aD).toArray }).push { cls := .type "dict", data := .dict #[] }) h1) :
    Inv X pins σ (upd H2 s2.heap.objs.size (.lst [])) {s2 with heap:=s2.heap.push {cls:=.type "list", data:=.seq ([]:List aD).toArray}}/\
    Inv (h_ X (z7 tg ++ frees sc) sc cl (s2.heap.objs.size + 1) { s2 with heap := s2.heap.push { cls := .type "list", data := .seq ([] : List aD).toArray } } (upd H2 s2.heap.objs.size (.lst [])) fp) []
      ((z7 tg).map (λ_=>aE)++VT Γ.N σ (frees sc)) (upd H2 s2.heap.objs.size (.lst [])) {s2 with heap:=h1, toks:=tk}:=by
  have l:Inv X pins σ (upd H2 s2.heap.objs.size (.lst [])) {s2 with heap:=s2.heap.push {cls:=.type "list", data:=.seq ([]:List aD).toArray}}:=g.lnew (its:=[]) (t':=s2.toks) .nil (by simp);refine⟨l, ?_⟩;generalize hA:s2.heap.push {cls:=.type "list", data:=.seq ([]:List aD).toArray}=Q at L l ⊢;have I:Q.objs.size=s2.heap.objs.size+1:=by rw[←hA, iI]
  have n:∀b o, Q.get? b=aA o->h1.get? b=aA o:=λb o e=>L.extBut b o (by rw[←I];exact dP (bZ e)) (bU _ e);have fresh:(upd H2 s2.heap.objs.size (.lst [])) (s2.heap.objs.size+1)=aE:=by rw[←I];exact l.hok.fresh (bE _)
  have A:∀x∈frees sc, (h_ X (z7 tg++frees sc) sc cl (s2.heap.objs.size+1) {s2 with heap:=Q} (upd H2 s2.heap.objs.size (.lst [])) fp).env.kindOf x=aA .cell\/(h_ X (z7 tg++frees sc) sc cl (s2.heap.objs.size+1) {s2 with heap:=Q} (upd H2 s2.heap.objs.size (.lst [])) fp).env.kindOf x=aA .free:=λx E=>by
    have:=qr (env:=X.env) (ok.fre x E).2.1;show (eP sc X.env).names.lookup x=aA .cell\/(eP sc X.env).names.lookup x=aA .free;unfold eP;dsimp only;rw[this];split
    · exact .inl rfl
    · exact .inr rfl
  refine⟨⟨g.ok.mod, ok.kind, g.ok.glob, g.ok.blt, ?_, ?_, ?_, λx c h=>absurd h (by simp[h_]), g.ok.hd, g.ok.frames, .inl rfl, ?_, ?_, ?_, ?_, ?_, ?_, ?_⟩, rfl, g.bare, Un.kept n, ⟨_, U, ?_⟩, ?_, fresh, ?_, λp T=>absurd T (by simp[h_]), l.hok.kept n, ?_⟩
  · show Q.objs.size <= s2.heap.objs.size + 1;lia
  · intro x y c h1 h2;exact g.ok.inj x y c (f x c h1).1 (f y c h2).1
  · intro x E;have B:(eP sc X.env).names.lookup x=aA .cell\/(eP sc X.env).names.lookup x=aA .free:=E;by_cases hm:x∈frees sc
    · exact s x hm
    · exfalso;cases q:sc.names.lookup x with
      |none=>
        have:(eP sc X.env).names.lookup x=aE:=by
          unfold eP;dsimp only;rw[List.lookup_eq_none_iff] at q ⊢;intro p T;obtain⟨p0, S, rfl⟩:=eR.mp T;have:=q p0 S;try dsimp only
          split<;>exact this
        rw[this] at B;rcases B with z|z<;>cases z
      |some kd=>
        have hr:=qr (env:=X.env) q;have d:=B;unfold eP at d;dsimp only at d;rw[hr] at d;have r:(x, kd)∈sc.names:=i3 q;by_cases F:kd=.free
        · exact hm (vP.mpr ⟨_, r, rfl, F⟩)
        · have e : (kd == pj) = aC := by simpa using F
          rw[e] at d;simp only[Dx, nN, if_false, pG] at d;rcases d with z|z
          · exact ok.noc _ r z
          · exact F z
  · intro b t;obtain⟨f0, f1, f2, f3, f4, f5⟩:=hf b t;obtain⟨o, M⟩:=Z b t;refine⟨?_, λx c h=>f4 x c (f x c h).1⟩;show b≠s2.heap.objs.size+1;exact dP (nJ (bZ M))
  · intro b o e;exact l.bs b o e
  · exact cU l.ok.bsz l.sz
  · intro b o e t;obtain⟨f0, f1, f2, f3, f4, f5⟩:=hf b t;rcases f3 with z|z
    · exact g.ok.noex b o e z
    · exact absurd (cY (bZ e) (cU g.ok.bsz z)) (iH _)
  · intro b t Y;obtain⟨f0, f1, f2, f3, f4, f5⟩:=hf b t;rcases cA.mp (g.stkSub b Y) with z|z
    · exact f1 z
    · exact f2 z
  · exact l.stack
  · intro b t;exact l.stkFree b t
  · intro i x v hN a hv;obtain⟨m, hn, hl⟩:=g.loc;by_cases hi:i<(z7 tg).length
    · exfalso;rw[dN (by simpa using hi), eE] at a;cases q:(z7 tg)[i]? with
      |none=>rw[q] at a;cases a
      |some y=>rw[q] at a;cases a
    · have P:(frees sc)[i-(z7 tg).length]?=aA x:=by
        have:(z7 tg++frees sc)[i]?=aA x:=hN;rwa[fA (by lia)] at this
      rw[fA (by simpa using hi)] at a;simp only[cJ] at a;unfold VT at a;rw[eE, P] at a;simp only[pM, pG] at a;have E:x∈frees sc:=b9 P;obtain⟨⟨j, V⟩, _, G, _⟩:=ok.fre x E;rw[V] at a;simp only[pE] at a;cases u:σ[j]? with
      |none=>rw[u] at a;cases a
      |some o=>
        rw[u] at a;simp only[Option.join_some] at a;subst a;obtain⟨w, R, lk⟩:=hl j x v (by rw[C.hN];exact wF V) u (C.vis x (wt V));refine⟨w, R, .inr ⟨A x E, ?_⟩⟩;have K:=C.cel x G;rcases lk with⟨z, _⟩|⟨_, c, hc, H⟩
        · rw [z] at K;rcases K with K|K<;>cases K
        · obtain ⟨c', O⟩ := s x E;have:=(f x c' O).1;rw[hc] at this;cases this;refine⟨c, O, ?_⟩;obtain⟨J, M, hd⟩:=H;exact⟨J, n c J (by rw[←hA];exact bU _ M), hd⟩
  · intro x c h;obtain⟨v, J, M, hd⟩:=g.cell x c (f x c h).1;exact⟨v, J, n c J (by rw[←hA];exact bU _ M), hd⟩
  · intro x c h;exact (l.freeC x c (f x c h).1).imp id λz=>⟨rfl, z.2⟩
  · show _ = (z7 tg ++ frees sc).length;simp[VT]
end
section
variable {X:Cx}{D:DP}{W:XW}{Γ:Cn}{k:Nat}{pins:List (aF×bA)}{s:Shared}{σ:St}{H:Hp}{φ α:List aF}{τ:Sl}{μ:aK}{tg:aI}{sc:Scope}{fp:List aF}
noncomputable def inComp(Γ:Cn)(tg:aI)(sc:Scope):Cn:={Γ with N:=z7 tg++frees sc,G:=(uR sc).filter Γ.U.contains,cel:=frees sc,lam:=aE,qt:=aC}
theorem Pz(C:Ck D W Γ X k)(ok:cQ Γ.N Γ.cel tg sc) 
  (d:∀e s,XP {(h_ X (z7 tg++frees sc) sc cl C0 g j fp) with pn:=pn,xe:=xe} W' e s->xe e s):Ck D W' (inComp Γ tg sc) {(h_ X (z7 tg++frees sc) sc cl C0 g j fp) with pn:=pn,xe:=xe} k:=by
 have b:∀x∈frees sc,(eP sc X.env).names.lookup x=aA .cell\/(eP sc X.env).names.lookup x=aA .free:=λx c=>by
  have:=qr (env:=X.env) (ok.fre x c).2.1;unfold eP;dsimp only;rw[this];split
  ·exact .inl rfl
  ·exact .inr rfl
 have a:∀{x kd},sc.names.lookup x=aA kd->kd≠.free->(eP sc X.env).names.lookup x=aA kd:=λ{x kd} h f=>by
  have:=qr (env:=X.env) h;unfold eP;dsimp only;rw[this];have e:(kd==pj)=aC:=by simpa using f
  simp[e]
 refine⟨C.hK,rfl,ok.nd,λx c=>?_,λx c=>?_,λx c=>?_,λx c=>?_,λx c=>?_,C.glU,b,C.isi,C.fld,C.xcx,C.ocx,C.clv,C.clm,C.rom,C.rmh,d,?_,cS.no rfl,(λh=>by cases h),(λh=>by cases h)⟩
 ·rcases cH.mp c with h|h
  ·exact .inl (a (ok.own x h).1 (by decide))
  ·rcases b x h with z|z
   ·exact .inr (.inl z)
   ·exact .inr (.inr z)
 ·rcases cH.mp c with h|h
  ·exact (ok.own x h).2
  ·exact (ok.fre x h).2.2.2
 ·exact (C.glU x (by have:=(fS.mp c).2;simpa using this)).2
 ·exact a (ok.glb x (fS.mp c).1) (by decide)
 ·exact (C.glU x (by have:=(fS.mp c).2;simpa using this)).1
 ·obtain⟨e0,out,L,F⟩:=C.frm;exact⟨e0,out,L,⟨F.stk,F.f0,F.fe⟩⟩
theorem Ss(ok:cQ Γ.N Γ.cel tg sc):mZ (h_ X (z7 tg++frees sc) sc cl C0 d g fp) (z7 tg):=λx b=>by
 have e:=qr (env:=X.env) (ok.own x b).1;have a:(eP sc X.env).names.lookup x=aA .local:=by
  unfold eP;dsimp only;rw[e];rfl
 exact⟨.inl a,.inr a⟩
theorem Ki:∀{L:List aG}{i:Nat},x∈L->cD (L++M) x=aA i->i<L.length
 |[],_,h,_=>absurd h (by simp)
 |y::L,i,h,e=>by
  rw[pD] at e;simp only[cD] at e;split at e
  ·cases e;simp
  ·rename_i a;have b:x∈L:=(cA.mp h).resolve_left λz=>a z.symm;cases q:cD (L++M) x with
   |none=>rw[q] at e;cases e
   |some j=>rw[q] at e;cases e;simpa using Ki b q
theorem QF(h:i<n):∀j,n<=j->(jZ τ i t)[j]?=τ[j]?:=λj a=>by
 rw[xT,bW (by lia)]
theorem QV:∀{es:List aI}{is:List Nat}{ts:List T}{τ a:Sl},(∀e∈es,∀x p,e=.Name x p->x∈L)->c3 (L++M) es=aA is->Va is ts τ=aA a->∀j,L.length<=j->a[j]?=τ[j]?
 |[],is,ts,τ,a,_,b,h=>by
  cases b;cases ts with
  |nil=>cases h;exact λ_ _=>rfl
  |cons _ _=>cases h
 |e::es,is,ts,τ,a,f,b,h=>by
  cases e with
  |Name x k=>
   simp only[c3] at b;split at b
   ·rename_i i c l d;cases b;cases ts with
    |nil=>cases h
    |cons t ts=>
     intro j g;rw[QV (λe m=>f e (d9 _ m)) d (show Va c ts (jZ τ i (aA t))=aA a from h) j g];exact QF (Ki (f _ eU x k rfl) l) j g
   ·cases b
  |_=>simp[c3] at b
theorem S1(h0:wZ (z7 e++M) e=aA tgt)(h:ir tgt t τ=aA d):∀j,(z7 e).length<=j->d[j]?=τ[j]?:=by
 cases e with
 |Name x a=>
  simp only[wZ] at h0;cases q:cD (z7 (.Name x a)++M) x with
  |none=>rw[q] at h0;cases h0
  |some i=>
   rw[q] at h0;cases h0;cases (bP h:jZ τ i (aA t)=d);exact QF (Ki (by simp[z7]) q)
 |Tuple es b a=>
  simp only[wZ] at h0;cases q:c3 (z7 (.Tuple es b a)++M) es with
  |none=>rw[q] at h0;cases h0
  |some k=>
   rw[q] at h0;cases h0;cases t with
   |tup g=>exact QV (λe f x p c=>by subst c;exact nO.mpr ⟨_,f,rfl⟩) q h
   |_=>cases h
 |_=>simp[wZ] at h0
noncomputable def K6 (X:Cx)(D:DP)(W:XW):List aI->List Dt->Prop
 |[],[]=>True
 |e::es,f::fs=>PT X e (eL D W f)/\K6 X D W es fs
 |_,_=>False
theorem GU{M:Model}{A:eN}{β:Type}{R:β->aK->List aF->Hp->Prop}{fe:De}{kk:Option T->aK->RE β}{Qf:Bool->a9->Prop}:∀{cs:List aI}{fs:List Dt}{s:a9}{H:Hp}{α:List aF}{μ:aK},K6 X D W cs fs->Inv X pins σ H s->aZ D φ α H τ σ->aM D φ α H μ->aJ D W φ α H σ R ((yo fs fe τ μ).bind kk)->
  (∀z j d g,Inv X pins σ j z->aO α H d j->aZ D φ d j τ σ->aM D φ d j g->aJ D W φ d j σ R ((fe τ g).bind λy r=>kk (aA y) r)->Qf aB z)->
  (∀z j d g,Inv X pins σ j z->aO α H d j->aZ D φ d j τ σ->aM D φ d j g->aJ D W φ d j σ R (kk aE g)->Qf aC z)->
  yw (aR X.prog X.w) X.A X.env X.xe cs Qf s
 |[],[],s,H,α,μ,_,I,m,n,p,o,_=>o s H α μ I (aO.refl _ _) m n p
 |[],_::_,_,_,_,_,h,_,_,_,_,_,_=>h.elim
 |_::_,[],_,_,_,_,h,_,_,_,_,_,_=>h.elim
 |c::cs,f::fs,s,H,α,μ,h,I,m,n,p,o,q=>by
  have p:aJ D W φ α H σ R ((f τ μ).bind λb r=>(RE.br b (yo fs fe τ r) (.ok aE r)).bind kk):=p;refine aX (F9 h.1 I m n p) ?_;rintro b u ⟨v,r,l,t,e,i,k,p1⟩;cases b with
  |true=>
   rw[if_pos rfl];exact GU (M:=M) (A:=A) h.2 t i k p1 (λz j d g a b=>o z j d g a (e.trans b)) (λz j d g a b=>q z j d g a (e.trans b))
  |false=>
   rw[if_neg (by decide)];exact q u v l r t e i k p1
end
section
variable {X:Cx}{D:DP}{W:XW}{Γ:Cn}{k:Nat}{pins:List (aF×bA)}{s:Shared}{σ:St}{H:Hp}{φ α:List aF}{τ:Sl}{μ:aK}{tg iter elt:aI}{sc:Scope}{fp:List aF}{pos pos':Pos}
theorem yQ(h:∀e s,E e s->d e s):∀{cs:List aI}{s:a9},yw M A env E cs Q s->yw M A env d cs Q s
 |[],_,q=>q
 |c::cs,s,q=>dO q (λb f a=>by
  cases b with
  |true=>rw[if_pos rfl] at a ⊢;exact yQ h a
  |false=>rw[if_neg (by decide)] at a ⊢;exact a) h
theorem eI.but{T:aF}{h g:aV}(t:eI h x T cls d fl)(sb:gA C0 h g)(hx:x≠C0)(m:T≠C0):eI g x T cls d fl:=by
 obtain⟨j,vs,a0,k,ts,ho,l,hd,c,b,i,e,f,n,a⟩:=t;exact⟨j,vs,a0,k,ts,sb.extBut x j hx ho,l,hd,c,b,i,sb.extBut T k m e,f,n,a⟩
theorem uy(I:Inv X pins σ H s)(c:dA X H C0)(d:∀q∈pins,q.1≠C0)(sb:gA C0 s.heap h'):Inv X pins σ H {s with heap:=h'}:=
 Jn (ch:=[C0]) I (λb f=>by rw[bT.mp f];exact⟨c,d⟩) (λb o _ a e=>sb.extBut b o (λz=>a (by simp[z])) e) λb o _ a e=>⟨o.slots,sb.extBut b o (λz=>a (by simp[z])) e⟩
inductive oV(D:DP)(Xb:Cx)(tn:Nat->aV->Prop)(fp φ1 α1:List aF)(H2:Hp)(acc:aF)(bl:Sl)(xs:List T)(P:Nat->List T->aK->Prop)(n:Nat)(s':Shared):Prop where
 |mk (i:Nat) (σ':St) (H':Hp) (α':List aF) (μ':aK) (yT:List T) (yV:List V) (e:n=xs.length-i) (hi:i<=xs.length) (iv:Inv Xb [] σ' H' s') (t:tn i s'.heap) (fr:∀b∈fp,H' b=aE) (st:aO α1 H2 α' H') (mr:aM D φ1 α' H' μ') (sr:aZ D φ1 α' H' bl σ') (ac:H' acc=aA (.lst yV)) (dl:aN D φ1 α' H' yT yV) (hy:yT.length<=i) (q:P i yT μ')
inductive lL(D:DP)(φ1 α1:List aF)(H2:Hp)(Z0:Xp)(cls:aD)(d:Option aF)(_:St)(He:Hp):Prop where
 |mk (c:Nat) (fs':List (Nat×T)) (μ':aK) (α':List aF) (z:Z0 c fs' μ') (st:aO α1 H2 α' He) (m:aM D φ1 α' He μ') (ad:iQ D c fs' cls) (xd:bS D φ1 α' He fs' d)
structure B9(Xb X:Cx)(env:Env)(N:List aG):Prop where
 pr:Xb.prog=X.prog
 w:Xb.w=X.w
 K:Xb.K=X.K
 A:Xb.A=X.A
 en:Xb.env=env
 ca:Xb.calm=X.calm
 st:Xb.stack=X.stack
 N:Xb.N=N
structure gR(okc:Cx->Prop)(X:Cx)(tg:aI):Prop where
 ok:∀(Xb:Cx) (pins:List (aF×bA)) (σ:St) (H:Hp) (s:a9),Inv X pins σ H s->Xb.A=X.A->Xb.calm=X.calm->(∀b o u,H b=aA (.frz o u)->Xb.H₀ b=aA (.frz o u))->okc Xb
 tg:X.calm=aB\/∃x p,tg=.Name x p
theorem gR.calm{X:Cx}{tg:aI}(h:X.calm=aB):gR (λX=>X.calm=aB) X tg:=⟨λ_ _ _ _ _ _ _ e _=>e.trans h,.inl h⟩
theorem yh{okc:Cx->Prop}{β:Type}{R:β->aK->List aF->Hp->Prop}{fi:Di}{tgt:Tg}{cs:List Dt}{fe:De}{kk:List T->aK->RE β}{use:Option (aD->Sem Unit)} 
  (C:Ck D W Γ X k) (hc:gR okc X tg) (ok:cQ Γ.N Γ.cel tg sc) (hfs:js Γ.N (frees sc)=aA fs) (htg:wZ (z7 tg++frees sc) tg=aA tgt) (hi:r6 okc X tg iter (gU D W fi)) (hel:∀X' W',Ck D W' (inComp Γ tg sc) X' k->PE X' elt (aW D W' fe)) (hts:∀X' W',Ck D W' (inComp Γ tg sc) X' k->K6 X' D W' ifs cs) (hs:∀x,lw iter X.env x=pure x)
  (I:Inv X pins σ H s) (sr:aZ D φ α H τ σ) (mr:aM D φ α H μ)
  (p:aJ D W φ α H σ R ((fi τ μ).go λxs o μ1=>.grd (xs.length<=aQ) ((qq tgt (yo cs fe) o (gV (z7 tg).length fs τ) xs μ1).bind kk)))
  (Kq:∀acc C0 s' Q H1 H' U ys vs Y,Inv X pins σ H' s'->aO α H Q H1->aO Q H1 U H'->H1 acc=aE->acc∉φ->acc∉Q->aZ D (φ++[acc]) U H' τ σ->aM D (φ++[acc]) U H' Y->H' acc=aA (.lst vs)->aN D (φ++[acc]) U H' ys vs->aJ D W φ Q H1 σ R (kk ys Y)->dA X H' C0->(∀q∈pins,q.1≠C0)->(∃m,s'.heap.Ns C0 m)->
   (match use with
    |none=>∃m,s'.heap.Ns C0 m/\∀g,gA C0 s'.heap g->Qf (.ref acc) {s' with heap:=g}
    |some u=>wpAny (aR X.prog X.w) X.A (u (.ref acc)) (λ_ t2=>∃m,t2.heap.Ns C0 m/\∀g,gA C0 t2.heap g->Qf .none {t2 with heap:=g}) X.xe s')) :
  wpAny (aR X.prog X.w) X.A (pz (.ListComp elt [⟨tg,iter,ifs,0⟩] sc pos) sc X.env pos' (newList []) aC (eval iter X.env) use) Qf X.xe s:=by
 obtain⟨cl,hclos,hcl,hcl2⟩:=ZF (sc:=sc) (env:=X.env) λx hx=>I.ok.has x (C.cel x (ok.fre x hx).2.2.1)
 refine OI (use:=use) rfl hs hclos ok.kind ok.lcl (aX (hi pins s σ H (λJ H2=>∃xs o μ1 Q Ok,i9 D J Ok xs/\Cj D φ Q H2 xs o Ok/\o μ1/\aO α H Q H2/\aM D φ Q H2 μ1/\
  aJ D W φ Q H2 σ R (.grd (xs.length<=aQ) ((qq tgt (yo cs fe) o (gV (z7 tg).length fs τ) xs μ1).bind kk))) I
  ⟨φ,α,τ,μ,sr,mr,(show aJ D W φ α H σ R ((fi τ μ).re.bind λpr μ1=>.grd (pr.1.length<=aQ) ((qq tgt (yo cs fe) pr.2 (gV (z7 tg).length fs τ) pr.1 μ1).bind kk)) from p).bind.mono λpr Y U H' st m q J Ok iv okk lv=>⟨pr.1,pr.2,Y,U,Ok,iv,okk,lv,st,m,q⟩⟩) λv s1 h1=>aX h1 λitv l h2=>?_)
 obtain⟨it,fp,tn,J,H2,rfl,I2,Tn,tn0,f2,xs,Lv,μ1,Q,Ok,iv,okk,lv1,st1,mr1,p1⟩:=h2;obtain⟨hroom,K0,Z0,q0,hk0,hz0⟩:=p1.grd;have fo:∀b∈fp,∃o,l.heap.get? b=aA o:=λb P=>let ⟨o,e,_⟩:=Tn.obj 0 _ tn0 b P;⟨o,e⟩;refine iY (Ej ok.noc (by intro y hy;simp at hy) (λh₁ hns₁ hsb₁=>?_) ok.kind);have sz:(l.heap.push {cls:=.type "list",dict:=aE,data:=.seq ([]:List aD).toArray}).objs.size=l.heap.objs.size+1:=iI ..;dsimp only at hns₁ hsb₁ ⊢;rw[sz] at hns₁ hsb₁ ⊢;have hns:h₁.Ns (l.heap.objs.size+1) (λ_=>aE):=by simpa using hns₁
 obtain⟨I3,J0⟩:=JX (tk:=l.toks+([]:List (aG×aD)).length) C ok I2 f2 fo hcl hcl2 hns hsb₁;have hD:H2 l.heap.objs.size=aE:=I2.hok.fresh (bE _);have nph:l.heap.objs.size∉φ:=zk mr1 hD;have nal:l.heap.objs.size∉Q:=zm mr1 hD;have old:∀b o,l.heap.get? b=aA o->h₁.get? b=aA o:=λb o e=>hsb₁.extBut b o (dP (nJ (bZ e))) (bU _ (bU _ e));have n3:({l with heap:=l.heap.push {cls:=.type "list",data:=.seq ([]:List aD).toArray}}:a9).heap.get? (l.heap.objs.size+1)=aE:=lD (by show (l.heap.push _).objs.size<=_;rw[iI];exact bE _);have xo0:=j3 I3 n3;have pn3:∀q∈pins,q.1≠l.heap.objs.size+1:=λq hq z=>by
  have:=(I3.pin q (dM _ hq)).1;rw[z,n3] at this;cases this
 generalize hS3:({l with heap:=l.heap.push {cls:=.type "list",data:=.seq ([]:List aD).toArray}}:a9)=S3 at I3 J0 n3;generalize hH3:upd H2 l.heap.objs.size (.lst [])=H3 at I3 J0 xo0;generalize hXb:h_ X (z7 tg++frees sc) sc cl (l.heap.objs.size+1) S3 H3 fp=B at J0;have f:B9 B X (hI sc cl (l.heap.objs.size+1) X.env) (z7 tg++frees sc):=by subst hXb;exact⟨rfl,rfl,rfl,rfl,rfl,rfl,rfl,rfl⟩
 have sto:mZ B (z7 tg):=by subst hXb;exact Ss (Γ:=Γ) ok
 have cm:okc B:=hc.ok B _ _ _ _ I2 f.A f.ca λb o u e=>by
  have e3:H3 b=aA (.frz o u):=by rw[←hH3,z4 (zI e hD)];exact e
  subst hXb;exact e3
 have cmt:B.calm=aB\/∃x p,tg=.Name x p:=by rw[f.ca];exact hc.tg
 have back:∀{s4:a9}{σ4:St}{H4:Hp}{E:List (aF×bA)},Inv B E σ4 H4 s4->Inv X pins σ H4 s4:=λ{s4 σ4 H4 E} I4=>by
  subst hXb;exact I3.call' (ch:=fp) I4.os I4.base I4.hok I4.bare λb P=>by
   obtain⟨f0,f1,f2',f3,f4,f5⟩:=f2 b P;exact⟨f3,f1,f4,f5⟩
 have fpk:∀{H':Hp},(∀b∈fp,H' b=aE)->∀b∈fp,Wx B [] H' b:=λhn b P=>by
  obtain⟨f0,f1,f2',f3,f4,f5⟩:=f2 b P;obtain⟨o,ho⟩:=fo b P;subst hXb;refine⟨hn b P,dP (nJ (bZ ho)),λz=>?_,.inl P,λx c h=>f4 x c (hcl x c h).1,λq hq=>absurd hq (by simp[h_])⟩;rcases cA.mp (I2.stkSub b z) with z|z
  ·exact f1 z
  ·exact f2' z
 have TnI:=Tn.item B f.pr f.w f.K cm;have TnD:=Tn.done B f.pr f.w f.K cm;obtain⟨e0,out,L,F⟩:=C.frm;have ce:(hI sc cl (l.heap.objs.size+1) X.env).frame=aA L:=F.fe;obtain⟨NB,hNB⟩:∃NB:aD->a9->Prop,NB=notedBy (aR X.prog X.w) X.A (hI sc cl (l.heap.objs.size+1) X.env) (λx s'=>WA (aR X.prog X.w) X.A X.xe use Qf (.ref l.heap.objs.size) (hI sc cl (l.heap.objs.size+1) X.env) (.error x) s'):=⟨_,rfl⟩
 have leave:∀{E:List (aF×bA)}{e:aD}{t:a9},(∀b∈fp,∃o,(b,o)∈E)->XP (Cx.pin' B E) (lL D (φ++[l.heap.objs.size]) Q H2 Z0) e t->
   NB e t:=λ{E e t} hpp xp=>by
  have Fb:iR (Cx.pin' B E) e0 out L:=⟨by show B.stack=_;rw[f.st];exact F.stk,F.f0,by show B.env.frame=_;rw[f.en];exact ce⟩;have hfr:X.A.frames=aA (Cx.pin' B E).stack:=by show _=aA B.stack;rw[f.st];exact I.ok.frames
  rw[hNB];unfold notedBy;rw[show hI sc cl (l.heap.objs.size+1) X.env=(Cx.pin' B E).env from f.en.symm];refine uo (X:=Cx.pin' B E) Fb hfr xp λx cls d σe He T h' ee Ie ox oT tr w=>?_;subst ee;have en:(Cx.pin' B E).env=hI sc cl (l.heap.objs.size+1) X.env:=f.en;rw[en];have Iu:Inv B E σe He {t with heap:=h'}:=qm Ie;have IX:=back Iu;have nw:∀b,dA (Cx.pin' B E) He b->dA X He b/\b≠l.heap.objs.size+1:=λb o=>by
   have P:b∉fp:=λz=>by
    obtain⟨ob,hm⟩:=hpp b z;exact o.pin (b,ob) (dM _ hm) rfl
   have h3:S3.heap.get? b=aE:=by
    have:=o.new;subst hXb;exact this.resolve_left P
   have q:=j3 I3 h3;refine⟨⟨o.free,q.loc,q.nfs,q.new,q.cel,q.pin⟩,?_⟩;have:=o.loc;have e2:(Cx.pin' B E).env.locals=l.heap.objs.size+1:=by rw[en];rfl
   rw[e2] at this;exact this
  have xoC:dA X He (l.heap.objs.size+1):=⟨by have:=Iu.free;rw[f.en] at this;exact this,xo0.loc,xo0.nfs,xo0.new,xo0.cel,xo0.pin⟩;obtain⟨m,hm,_⟩:=Iu.loc;rw[f.en] at hm;refine⟨m,hm,λg sb=>?_⟩;have sb':gA (l.heap.objs.size+1) h' g:=sb;have Ig:Inv X [] σ He {t with heap:=g}:=(uy IX xoC pn3 sb').pins_of λp hp=>absurd hp (by simp);have tg':=tr.but sb' (nw x ox).2 (nw T oT).2;unfold CW;obtain⟨oe,vs',a0,oT',ts,ho,hcc,hd,hv0,hv1,hT,hoT,hdT,h3,_⟩:=id tg';refine wpAny_bind (gO ho hd hv1 ?_);rw[if_neg (show ¬((cN T==eX)=aB) from by simp)];have go:∀{t2:a9},XP X W (.ref x) t2->wpAny (aR X.prog X.w) X.A (throw (cN x):Sem aD) (λ_ _=>False) X.xe t2:=λ{t2} xp=>sj (C.xe _ _ xp);have fin:wpAny (aR X.prog X.w) X.A (mz (.ref x) (hI sc cl (l.heap.objs.size+1) X.env).frame) (λ_ t2=>XP X W (.ref x) t2) X.xe {t with heap:=g}:=by
   refine wz (s:={t with heap:=g}) Ig (nw x ox).1 (nw T oT).1 tg' λh4 I4 tr4=>?_;obtain⟨c,fs',Y,U,z,stp,m',ad,xd⟩:=w;refine⟨x,cls,d,σ,He,aA T,cT L,rfl,I4,(nw x ox).1,λt ht=>?_,?_,.inr ⟨L,F.fe,rfl⟩,?_⟩
   ·have:t=T:=by simpa using ht
    rw[this];exact (nw T oT).1
   ·rw[ce] at tr4;exact tr4
   ·refine hz0 c fs' Y z U He cls d stp (m'.lk wm (λa ha=>⟨rfl,λz=>m'.dis a ha (eK _ z)⟩) λb P=>m'.phi b (eK _ P)) ad (xd.lk wm)
  first
   |exact wpAny_bind (aX fin λ_ t2 xp=>go xp)
   |exact wpAny_bind (wpAny_pure (wpAny_bind (aX fin λ_ t2 xp=>go xp)))
 have loop:f9 (aR X.prog X.w) X.A (.compLoop (.ListComp elt [⟨tg,iter,ifs,0⟩] sc pos) 0 (.ref it) (.ref l.heap.objs.size) (hI sc cl (l.heap.objs.size+1) X.env)) (WA (aR X.prog X.w) X.A X.xe use Qf (.ref l.heap.objs.size) (hI sc cl (l.heap.objs.size+1) X.env)) {l with heap:=h₁,toks:=l.toks+([]:List (aG×aD)).length}:=by
  obtain⟨LI,hLI⟩:∃LI:Nat->a9->Prop,LI=oV D B tn fp (φ++[l.heap.objs.size]) Q H2 l.heap.objs.size (gV (z7 tg).length fs τ) xs (λi yT Y=>Lv Y/\qq tgt (yo cs fe) Lv (gV (z7 tg).length fs τ) (xs.drop i) Y (λrest μ2=>kk (yT++rest) μ2 K0 Z0) Z0):=⟨_,rfl⟩;refine YD LI ?_ xs.length ?_
  ·intro n s' h0;rw[hLI] at h0;obtain⟨i,σ',H',U,Y,yT,yV,rfl,hi',Iv,tni,fr,stp,mr',sr',hacc,dly,hyl,lv',hcmi⟩:=h0;have okH:Ok (φ++[l.heap.objs.size]) U H':=okk _ U H' Y ((yr hD).trans stp.lk) mr' lv';by_cases hlt:i<xs.length
   ·have TI:=TnI i [] s' σ' H' (λ_ _=>False) Iv (fpk fr) tni (iv.go i _ _ H' okH (by lia));rw[f.A] at TI;refine aX TI ?_;rintro r s4 ⟨u,rfl,h4⟩;refine aX h4 ?_;rintro _ s5 ⟨x,H5,I5,r5,y5,tn5,fr5⟩;obtain⟨sm5,dx'⟩:=iv.yld i _ _ H' x H5 xs[i] okH (by simp[hlt]) y5;have stp:=stp.trans (aO.new (α:=U) sm5);have sr':=sr'.step (aO.new (α:=U) sm5);have mr':=mr'.new sm5;have hacc:=sm5 _ _ hacc;have dly:=dly.step (aO.new (α:=U) sm5);have hdr:xs.drop i=xs[i]::xs.drop (i+1):=EH hlt;rw[hdr] at hcmi;obtain⟨τ',ha,hfe⟩:=hcmi;have I5':=I5.pinned (fpk fr5) (Tn.obj _ _ tn5);have A6:=KD (S:=z7 tg) (X:=B) f.N ok.nd sto cmt (λx h=>h) htg ha I5' sr' dx' r5;rw[f.pr,f.w,f.A,f.en,show B.xe=λ_ _=>False by subst hXb;rfl] at A6;refine aX A6 ?_;rintro _ s6 ⟨σ6,I6,sr6⟩;generalize hpp:([]++Zr fp s5.heap:List (aF×bA))=E at I6;have hppm:∀b∈fp,∃o,(b,o)∈E:=λb P=>by
     obtain⟨o,e,_⟩:=Tn.obj _ _ tn5 b P;exact⟨o,by rw[←hpp];exact dM _ (jb P e)⟩
    generalize hW1:lL D (φ++[l.heap.objs.size]) Q H2 Z0=W1;have lv:∀e t,XP (Cx.pin' B E) W1 e t->NB e t:=λe t xp=>by
     rw[←hW1] at xp;exact leave hppm xp
    have ck:Ck D W1 (inComp Γ tg sc) ((Cx.pin' B E).wish (XP (Cx.pin' B E) W1)) k:=by
     subst hXb;exact Pz (W':=W1) (pn:=[]++E) (xe:=XP (Cx.pin' (h_ X (z7 tg++frees sc) sc cl (l.heap.objs.size+1) S3 H3 fp) E) W1) C ok λe s p=>jT (X:=Cx.pin' (h_ X (z7 tg++frees sc) sc cl (l.heap.objs.size+1) S3 H3 fp) E) p
    have I6':Inv ((Cx.pin' B E).wish (XP (Cx.pin' B E) W1)) [] σ6 H5 s6:=(Vy I6).wish _
    have next:∀{s7:a9}{H7:Hp}{Z:List aF}{O:aK}{yT':List T}{yV':List V},Inv ((Cx.pin' B E).wish (XP (Cx.pin' B E) W1)) [] σ6 H7 s7->aO Q H2 Z H7->aM D (φ++[l.heap.objs.size]) Z H7 O->aZ D (φ++[l.heap.objs.size]) Z H7 τ' σ6->H7 l.heap.objs.size=aA (.lst yV')->aN D (φ++[l.heap.objs.size]) Z H7 yT' yV'->yT'.length<=i+1->
      Lv O->qq tgt (yo cs fe) Lv (gV (z7 tg).length fs τ) (xs.drop (i+1)) O (λrest μ2=>kk (yT'++rest) μ2 K0 Z0) Z0->
      ∃m,m<xs.length-i/\LI m s7:=λ{s7 H7 Z O yT' yV'} I7 st7 m7 sr7 ac7 dy7 hy7 lv7 q7=>by
     have I7u:Inv B E σ6 H7 s7:=qm I7.unwish;have pinned:∀b∈fp,∃o,s5.heap.get? b=aA o/\s7.heap.get? b=aA o/\H7 b=aE:=λb P=>by
      obtain⟨o,e,_⟩:=Tn.obj _ _ tn5 b P;have:=I7u.pin (b,o) (dM _ (by rw[←hpp];exact dM _ (jb P e)));exact⟨o,e,this.1,this.2.1⟩
     refine⟨xs.length-(i+1),by lia,?_⟩;rw[hLI];refine⟨i+1,σ6,H7,Z,O,yT',yV',rfl,hlt,I7u.pins_of (λp hp=>absurd hp (by simp)),Tn.keep _ _ _ tn5 (λb P o e=>?_),λb P=>(pinned b P).choose_spec.2.2,st7,m7,⟨?_,λj t e=>?_⟩,ac7,dy7,hy7,lv7,q7⟩
     ·obtain⟨o',e1,e2,_⟩:=pinned b P;rw[e] at e1;cases e1;exact e2
     ·have:=I7u.len;rw[f.N] at this;rw[W_,this];simp[Ze,Zn hfs]
     ·have hj:(z7 tg).length<=j:=by
       rcases CY j (z7 tg).length with h|h
       ·rw[W_,dN (by simpa using h),pW] at e;split at e<;>cases e
       ·exact h
      exact sr7.val j t (by rw[S1 htg ha j hj];exact e)
    have P0:aJ D W1 (φ++[l.heap.objs.size]) U H5 σ6 (λ(o:Option T) O Z H7=>match o with
      |some y=>∀v,a_ D (φ++[l.heap.objs.size]) Z H7 y v->Lv O/\qq tgt (yo cs fe) Lv (gV (z7 tg).length fs τ) (xs.drop (i+1)) O (λys μ2=>kk (yT++y::ys) μ2 K0 Z0) Z0
      |none=>Lv O/\qq tgt (yo cs fe) Lv (gV (z7 tg).length fs τ) (xs.drop (i+1)) O (λys μ2=>kk (yT++ys) μ2 K0 Z0) Z0) ((yo cs fe τ' Y).bind λo O=>RE.ok o O):=by
     refine⟨_,Z0,hfe,λo O e Z H7 st m=>?_,λc fs' O z Z H7 cv d st m ad xd=>?_⟩
     ·cases o with
      |some y=>exact λv _=>e
      |none=>exact e
     ·rw[←hW1];exact⟨c,fs',O,Z,z,stp.trans st,m,ad,xd⟩
    have ep:((Cx.pin' B E).wish (XP (Cx.pin' B E) W1)).prog=X.prog:=f.pr;have ew:((Cx.pin' B E).wish (XP (Cx.pin' B E) W1)).w=X.w:=f.w;have eA:((Cx.pin' B E).wish (XP (Cx.pin' B E) W1)).A=X.A:=f.A;have ee:((Cx.pin' B E).wish (XP (Cx.pin' B E) W1)).env=hI sc cl (l.heap.objs.size+1) X.env:=f.en;have nD:l.heap.objs.size∉U:=λz=>mr'.dis _ z (by simp);have G:=GU (X:=(Cx.pin' B E).wish (XP (Cx.pin' B E) W1)) (M:=aR X.prog X.w) (A:=X.A) (Qf:=λb s₄=>if b=aB then wpAny (aR X.prog X.w) X.A (eval elt (hI sc cl (l.heap.objs.size+1) X.env)) (λx s₅=>wpAny (aR X.prog X.w) X.A (call (.builtin "list.append") [.ref l.heap.objs.size,x]) (λ_ s₆=>∃m,m<xs.length-i/\LI m s₆) (λ_ _=>False) s₅) NB s₄ else ∃m,m<xs.length-i/\LI m s₄) (hts _ W1 ck) I6' sr6 mr' P0 (λs7 H7 Z O I7 st7 sr7 m7 p7=>?_) (λs7 H7 Z O I7 st7 sr7 m7 p7=>?_)
    ·rw[ep,ew,eA,ee] at G;rw[←hNB];exact yQ (λe t h=>lv e t h) G
    ·rw[if_pos rfl];have E7:=sub (hel _ W1 ck) I7 sr7 m7 p7;rw[ep,ew,eA,ee] at E7;refine dO E7 (λx8 s8 h8=>?_) λe t h=>lv e t h;obtain⟨v8,H8,y8,μ8,α8,I8,r8,st8,sr8,m8,d8,p8⟩:=h8;have q8:=p8.ok (aO.refl _ _) m8 v8 d8;have acc8:H8 l.heap.objs.size=aA (.lst yV):=st8.keep _ _ (λz=>m7.dis _ z (by simp)) (st7.keep _ _ nD hacc);have hyv:yV.length<=i:=by rw[←dly.length];exact hyl
     have AP:=QX (X:=Cx.pin' B E) [] s8 σ6 H8 (.ref l.heap.objs.size) [v8] (.ref l.heap.objs.size) [x8] (λ_ H9=>H9=upd H8 l.heap.objs.size (.lst (yV++[v8]))) I8.unwish rfl (.cons r8 .nil) ⟨_,yV,v8,rfl,rfl,acc8,pR hyv (cY hlt (zA hroom)),rfl⟩;rw[show (Cx.pin' B E).prog=X.prog from f.pr,show (Cx.pin' B E).w=X.w from f.w,show (Cx.pin' B E).A=X.A from f.A,show (Cx.pin' B E).xe=λ_ _=>False by subst hXb;rfl] at AP;refine aX AP ?_;rintro x9 s9 ⟨v9,H9,I9,r9,rfl⟩;have inphi:l.heap.objs.size∈φ++[l.heap.objs.size]:=by simp
     have t:=(stp.trans st7).trans st8;have one:aN D (φ++[l.heap.objs.size]) α8 H8 [y8] [v8]:=⟨v8,[],rfl,d8,rfl⟩;refine next (I9.wish _) ⟨t.ext,λb o n e=>?_,λb e=>t.live b ?_⟩ (m8.lk (xE inphi) (λa ha'=>⟨by rw[z4 (λz=>m8.dis a ha' (by rw[z];simp))],m8.dis a ha'⟩) (λb P=>?_)) (sr8.lk (xE inphi)) z3 ((((dly.step st7).step st8).append one).lk (xE inphi)) (by simp;lia) q8.1 (by simpa using q8.2)
     ·rw[z4 (zI e hD)];exact t.keep b o n e
     ·by_cases P:b=l.heap.objs.size
      ·rw[P,z3] at e;cases e
      ·rw[z4 P] at e;exact e
     ·by_cases hb':b=l.heap.objs.size
      ·rw[hb',z3];exact⟨_,rfl,rfl⟩
      ·rw[z4 hb'];exact m8.phi b P
    ·rw[if_neg (by decide)];exact next I7 (stp.trans st7) m7 sr7 (st7.keep _ _ nD hacc) (dly.step st7) (by lia) (p7.ok (aO.refl _ _) m7).1 (p7.ok (aO.refl _ _) m7).2
   ·have hie:i=xs.length:=by lia
    have TD:=TnD i [] s' σ' H' (λ_ _=>False) Iv (fpk fr) tni (by rw[hie];exact iv.stop _ _ H' okH);rw[f.A] at TD;refine aX TD ?_;rintro r s4 ⟨rfl,I4⟩;have hdr:xs.drop i=[]:=by rw[hie];simp
    rw[hdr] at hcmi;have q4:kk yT Y K0 Z0:=by
     have:kk (yT++[]) Y K0 Z0:=hcmi;simpa using this
    have I5:=back I4;obtain⟨m,hm,_⟩:=I4.loc;rw[f.en] at hm;exact Kq l.heap.objs.size (l.heap.objs.size+1) s4 Q H2 H' U yT yV Y I5 st1 stp hD nph nal (((sr.step st1).lk (yr hD)).step stp) mr' hacc dly ⟨K0,Z0,q4,hk0,hz0⟩ ⟨by have:=I4.free;rw[f.en] at this;exact this,xo0.loc,xo0.nfs,xo0.new,xo0.cel,xo0.pin⟩ pn3 ⟨m,hm⟩
  ·have sm:jX H2 H3:=by rw[←hH3];exact zf hD
   rw[hLI];refine⟨0,_,_,Q,μ1,[],[],rfl,hL _,J0,Tn.keep _ _ _ tn0 λb P o e=>old b o e,λb P=>?_,aO.new sm,?_,?_,by rw[←hH3];exact z3,rfl,bE _,lv1,by simpa using q0⟩
   ·obtain⟨o,ho⟩:=fo b P;rw[←hH3,z4 (dP (bZ ho))];exact (f2 b P).1
   ·refine mr1.lk (uJ hD sm) (λa ha=>?_) λb P=>?_
    ·have na:a≠l.heap.objs.size:=λz=>nal (z▸ha);exact⟨by rw[←hH3];exact z4 na,λz=>(cH.mp z).elim (mr1.dis a ha) λz=>na (bT.mp z)⟩
    ·rcases cH.mp P with z|z
     ·obtain⟨o,e,n⟩:=mr1.phi b z;exact⟨o,sm b o e,n⟩
     ·rw[bT.mp z,←hH3,z3];exact⟨_,rfl,rfl⟩
   ·exact (Pa (sr.step st1) hfs).lk (uJ hD sm)
 exact codeAny_compStart_list loop (dO (Tn.self _ 0 _ _ _ (Tn.keep _ _ _ tn0 λb P o e=>old b o e) loop) (λ_ _ q=>q) λ_ _ q=>q)
end
section
variable {X:Cx}{D:DP}{W:XW}{Γ:Cn}{k:Nat}{pins:List (aF×bA)}{s:Shared}{σ:St}{H:Hp}{φ α:List aF}{τ:Sl}{μ:aK}{tg iter elt:aI}{sc:Scope}{pos:Pos}{fi:Di}{fs:List Nat}{tgt:Tg}{ifs:List aI}{cs:List Dt}{fe:De}
theorem Jz{β:Type}{R:β->aK->List aF->Hp->Prop}{kk:T->aK->RE β}{c:aF}{g d:List aF}{k f:Hp}{ys:List T}{vs:List V}{e:aK}(st:aO g k d f)(m:k c=aE)(i:c∉φ)(h:aM D (φ++[c]) d f e)(j:f c=aA (.lst vs))(dl:aN D (φ++[c]) d f ys vs)(p:aJ D W φ g k σ R (kk (.lst ys) e)) :
  aM D φ d f e/\a_ D φ d f (.lst ys) (.ref c)/\aJ D W φ d f σ R (kk (.lst ys) e):=
 ⟨h.lk wm (λa j=>⟨rfl,λz=>h.dis a j (eK _ z)⟩) λb l=>h.phi b (eK _ l),⟨c,vs,rfl,i,λz=>h.dis _ z (by simp),.inl j,dl.lk wm⟩,p.step st⟩
theorem kN:Lk (φ++[g]) d j φ (d++[g]) j:=⟨λa o b c e=>⟨λz=>b (eK _ z),λz=>(cH.mp z).elim c λz=>b (by rw[bT.mp z];simp),e⟩,λi a e=>by
 rw[dN (bI.mp e).1];exact e⟩
theorem W7(st:aO w A g r)(x:A d=aE)(m:d∉φ)(c:aM D (φ++[d]) g r j)(t:r d=aA (.lst vs))(dl:aN D (φ++[d]) g r ys vs) :
  aO w A (g++[d]) r/\aM D φ (g++[d]) r (j++[.lst ys])/\a_ D φ (g++[d]) r (.mut j.length) (.ref d):=by
 have n:d∉g:=λz=>c.dis _ z (by simp);refine⟨?_,⟨by simp[c.len],?_,λb k=>?_,λb k=>c.phi b (eK _ k),λi a o f l=>?_⟩,d,by rw[←c.len,fA (bE _)];simp,rfl⟩
 ·obtain⟨v,e,p⟩:=st.ext;exact⟨⟨v++[d],by rw[e];simp,λb k=>(cH.mp k).elim (p b) λz=>by rw[bT.mp z];exact x⟩,st.keep,st.live⟩
 ·rw[lu];exact⟨c.nd,by simp,λa t b k z=>n (by rw[bT.mp k] at z;exact z▸t)⟩
 ·rcases cH.mp k with h|h
  ·exact λz=>c.dis b h (eK _ z)
  ·rw[bT.mp h];exact m
 ·by_cases u:i<g.length
  ·rw[dN u] at f;rw[dN (by rw[←c.len];exact u)] at l;exact (c.ob i a o f l).lk kN rfl
  ·have y:=c.len;rw[fA (by lia)] at f l;have s:i-g.length=0:=by
    by_cases z:i-g.length=0
    ·exact z
    ·rw[n0 (by simp;lia)] at f;cases f
   have q:i-j.length=0:=by lia
   rw[s] at f;rw[q] at l;have f:aA d=aA a:=f;have l:aA (MO.lst ys)=aA o:=l;cases f;cases l;exact⟨vs,t,dl.lk kN⟩
theorem V0{okc:Cx->Prop}(C:Ck D W Γ X k)(P:gR okc X tg)(ok:cQ Γ.N Γ.cel tg sc)(i:js Γ.N (frees sc)=aA fs)(h:wZ (z7 tg++frees sc) tg=aA tgt)(O:r6 okc X tg iter (gU D W fi))(l:∀j W',Ck D W' (inComp Γ tg sc) j k->PE j elt (aW D W' fe))(f:∀j W',Ck D W' (inComp Γ tg sc) j k->K6 j D W' ifs cs)(hs:∀x,lw iter X.env x=pure x) :
  PE X (.ListComp elt [⟨tg,iter,ifs,0⟩] sc pos) (aW D W (vz (z7 tg).length fs tgt fi cs fe)):=by
 rintro b s q H Q I ⟨V,Z,Y,c,A,F,p⟩;rw[eval_ListComp];refine yh (kk:=λo c=>RE.ok (T.lst o) c) (use:=aE) (Qf:=EP X b q Q) C P ok i h O l f hs I A F p ?_;rintro n C0 s' u H1 U v o vs r S y st L e E z m R dl a w K ⟨G,M⟩;obtain⟨J,d,a⟩:=Jz (kk:=λt c=>RE.ok t c) st L e m R dl a;exact⟨G,M,λg B=>⟨.ref n,U,uy S w K B,rfl,a.here J d⟩⟩
theorem Vx(C:Ck D W Γ X k)(P:Γ.calm=aB)(ok:cQ Γ.N Γ.cel tg sc)(l:js Γ.N (frees sc)=aA fs)(i:wZ (z7 tg++frees sc) tg=aA tgt)(O:PI X tg iter (gU D W fi))(n:∀j W',Ck D W' (inComp Γ tg sc) j k->PE j elt (aW D W' fe))(h:∀j W',Ck D W' (inComp Γ tg sc) j k->K6 j D W' ifs cs)(hs:∀x,lw iter X.env x=pure x) :
  PE X (.ListComp elt [⟨tg,iter,ifs,0⟩] sc pos) (aW D W (jy (z7 tg).length fs tgt fi cs fe)):=by
 rintro b s r H Q I ⟨V,Z,Y,c,A,F,p⟩;rw[eval_ListComp];refine yh (kk:=λq c=>RE.ok (T.mut c.length) (c++[MO.lst q])) (use:=aE) (Qf:=EP X b r Q) C (.calm (C.clm P)) ok l i O n h hs I A F p ?_;rintro o C0 s' u H1 U v q vs t S y st L f E z m R dl a w K ⟨G,M⟩;obtain⟨e,J,d⟩:=W7 st L f m R dl;exact⟨G,M,λg B=>⟨.ref o,U,uy S w K B,rfl,a.ok e J _ d⟩⟩
theorem j5(h:Γ.look x=g)(b:g≠.bad):x∈Γ.G/\Γ.gl x=g:=by
 unfold Cn.look at h;split at h
 ·rename_i a;exact⟨by simpa using a,h⟩
 ·exact absurd h.symm b
theorem ZT(h:vA iter=aB):∀x,lw iter X.env x=pure x:=by
 intro x;cases iter<;>first|rfl|(simp[vA] at h)
end
structure oP(D:DP)(W:XW)(φ α:List aF)(H:Hp)(E:Ends)(Q:En):Prop where
 nx:∀τ μ,Q.nx τ μ->∀α' H' σ',aO α H α' H'->aM D φ α' H' μ->aZ D φ α' H' τ σ'->E.nx σ' H'
 bk:∀τ μ,Q.bk τ μ->∀α' H' σ',aO α H α' H'->aM D φ α' H' μ->aZ D φ α' H' τ σ'->E.bk σ' H'
 ct:∀τ μ,Q.ct τ μ->∀α' H' σ',aO α H α' H'->aM D φ α' H' μ->aZ D φ α' H' τ σ'->E.ct σ' H'
 rt:∀t μ,Q.rt t μ->∀α' H' v,aO α H α' H'->aM D φ α' H' μ->a_ D φ α' H' t v->E.rt v H'
 ex:∀c fs τ μ,Q.ex c fs τ μ->∀α' H' σ' cv d,aO α H α' H'->aM D φ α' H' μ->aZ D φ α' H' τ σ'->iQ D c fs cv->bS D φ α' H' fs d->W cv d σ' H'
inductive aL(D:DP)(W:XW)(φ α:List aF)(H:Hp)(E:Ends)(o:cP):Prop where
 |mk (Q:En) (q:o Q) (h:oP D W φ α H E Q)
noncomputable def dJ (D:DP)(W:XW)(f:Ds):TS:=λE c H=>mo D H c λa e b d=>aL D W a e H E (f b d)
structure Sk(D:DP)(W:XW)(Γ:Cn)(X:Cx)(k:Nat):Prop extends Ck D W Γ X k where
 sto:mZ X Γ.sto
 lcl:∀x∈Γ.N,Γ.cel.contains x=aC->X.env.scope.names.lookup x=aA .local
 pso:nt (aR X.prog X.w) X.A X.env X.xe
 xmt:∀t x c,(x,c)∈Γ.cls->c<40->∀Ct Cc,D.adr t=aA Ct->X.mg x=aA (.ref Cc)->nE X.K (.ref Ct) (.ref Cc)=aA (vZ t c)
section
variable {X:Cx}{D:DP}{W:XW}{Γ:Cn}{k:Nat}{pins:List (aF×bA)}{s:Shared}{σ:St}{H:Hp}{φ α:List aF}{τ:Sl}{μ:aK}{f g:De}{a b c e:aI}{pos:Pos}{E:Ends}{u v:Ds}
theorem aL.step(p:aL D W φ α H E o)(st:aO α H j r):aL D W φ j r E o:=by
 obtain⟨Q,q,h1,h2,i,h,g⟩:=p;exact⟨Q,q,λτ μ z b f a e=>h1 τ μ z b f a (st.trans e),λτ μ z b f a e=>h2 τ μ z b f a (st.trans e),λτ μ z b f a e=>i τ μ z b f a (st.trans e),λτ μ z b f a e=>h τ μ z b f a (st.trans e),λc fs τ μ z b f a C d e=>g c fs τ μ z b f a C d (st.trans e)⟩
theorem aL.elim{C:Prop}(p:aL D W φ α H E cP.st):C:=by obtain⟨_,q,_⟩:=p;exact q.elim
theorem aL.nx(p:aL D W φ α H E (.nx τ μ))(s:aO α H d w)(m:aM D φ d w μ)(r:aZ D φ d w τ j):E.nx j w:=by
 obtain⟨Q,q,h1,_⟩:=p;exact h1 τ μ q d w j s m r
theorem aL.rt(p:aL D W φ α H E (.rt t μ)){v:V}(s:aO α H d j)(m:aM D φ d j μ)(r:a_ D φ d j t v):E.rt v j:=by
 obtain⟨Q,q,_,_,_,h,_⟩:=p;exact h t μ q d j v s m r
theorem aL.ex{c:Nat}{τ:Sl}{μ:aK}(p:aL D W φ α H E (.ex c fs τ μ)){a:Hp}(s:aO α H j a)(m:aM D φ j a μ)(r:aZ D φ j a τ w)(ad:iQ D c fs cv)(x:bS D φ j a fs d):W cv d w a:=by
 obtain⟨Q,q,_,_,_,_,h⟩:=p;exact h c fs τ μ q j a w cv d s m r ad x
theorem aL.grd{c:Prop}(p:aL D W φ α H E (cP.grd c o)):c/\aL D W φ α H E o:=by
 obtain⟨Q,q,h⟩:=p;exact⟨q.1,Q,q.2,h⟩
theorem aL.som{o:Option d}{k:d->cP}(p:aL D W φ α H E (cP.som o k)):∃a,o=aA a/\aL D W φ α H E (k a):=by
 obtain⟨Q,⟨a,e,q⟩,h⟩:=p;exact⟨a,e,Q,q,h⟩
theorem aL.br{b:Bool}{s:cP}(p:aL D W φ α H E (cP.br b r s)):(b=aB/\aL D W φ α H E r)\/(b=aC/\aL D W φ α H E s):=by
 obtain⟨Q,q,h⟩:=p;cases b with
 |true=>exact .inl ⟨rfl,Q,q,h⟩
 |false=>exact .inr ⟨rfl,Q,q,h⟩
theorem aL.ex2{b a:Type}{P c:b->a->Prop}{r:b->a->cP}(p:aL D W φ α H E (λQ=>∃x y,P x y/\c x y/\r x y Q)):∃x y,P x y/\c x y/\aL D W φ α H E (r x y):=by
 obtain⟨Q,⟨x,y,h1,h2,q⟩,h⟩:=p;exact⟨x,y,h1,h2,Q,q,h⟩
theorem aL.ex1{a:Type}{P b:a->Prop}{r:a->cP}(p:aL D W φ α H E (λQ=>∃x,P x/\b x/\r x Q)):∃x,P x/\b x/\aL D W φ α H E (r x):=by
 obtain⟨Q,⟨x,h1,h2,q⟩,h⟩:=p;exact⟨x,h1,h2,Q,q,h⟩
theorem aL.out{kk:β->aK->cP}(b:aZ D φ α H τ σ)(p:aL D W φ α H E (r.out τ kk)):aJ D W φ α H σ (λt j w z=>aL D W φ w z E (kk t j)) r:=by
 obtain⟨Q,q,h⟩:=p;refine⟨_,_,q,λa j e w z st m=>aL.step ⟨Q,e,h⟩ st,λc fs j e w z C d st m ad xd=>?_⟩;exact h.ex c fs τ j e w z σ C d st m (b.step st) ad xd
theorem Om(o:PE X a (aW D W f)):PS X (.Return (aA a) pos) (dJ D W (zq f)):=by
 rintro b s h H E I ⟨e,l,g,j,c,n,p⟩;refine NC o b s h H E I ⟨e,l,g,j,c,n,(aL.out c p).mono λt i k r st m q v d=>aL.rt q (aO.refl _ _) m d⟩
theorem PQ:PS X (.Return aE pos) (dJ D W UR):=by
 rintro a s b H E I ⟨d,g,e,f,h,c,p⟩;exact RQ a s b H E I (aL.rt p (aO.refl _ _) c rfl)
theorem OC(hs:iG a aE pos.line X.env=pure aC)(o:PE X a (aW D W f)):PS X (.Expr a pos) (dJ D W (zS f)):=by
 rintro b s h H E I ⟨e,l,g,j,c,n,p⟩;refine XC o hs b s h H E I ⟨e,l,g,j,c,n,(aL.out c p).mono λt i k r st m q v d=>aL.nx q (aO.refl _ _) m (c.step st)⟩
theorem Pj:f8 X [] (dJ D W (qe [])):=by
 rintro a s b H E I ⟨e,h,f,g,c,d,p⟩;exact XO a s b H E I (aL.nx p (aO.refl _ _) d c)
theorem Ta{st:bC}(h1:PS X st (dJ D W u))(h2:f8 X r (dJ D W (qe fs))):f8 X (st::r) (dJ D W (qe (u::fs))):=by
 rintro a s o H E I ⟨g,t,l,p,v,w,Q,q,x,k,j,i,h⟩;refine VE h1 h2 a s o H E I ⟨g,t,l,p,v,w,_,q,λb c e d y n st m f=>?_,k,j,i,h⟩;exact⟨g,d,b,c,f,m,aL.step ⟨Q,e,x,k,j,i,h⟩ st⟩
noncomputable def Zy (X:Cx)(D:DP)(W:XW):List bC->List Ds->Prop
 |[],[]=>True
 |e::es,f::fs=>PS X e (dJ D W f)/\Zy X D W es fs
 |_,_=>False
theorem wI:∀{a:List bC}{fs:List Ds},Zy X D W a fs->f8 X a (dJ D W (qe fs))
 |[],[],_=>Pj
 |st::r,f::fs,h=>Ta h.1 (wI h.2)
 |[],_::_,h=>h.elim
 |_::_,[],h=>h.elim
theorem L1{ft:Dt}(n:PT X c (eL D W ft))(r:Zy X D W as us)(o:Zy X D W bs vs):PS X (.If c as bs pos) (dJ D W (bM ft us vs)):=by
 rintro e s i H E I ⟨g,k,h,j,f,l,p⟩;refine Ll n (wI r) (wI o) e s i H E I ⟨g,k,h,j,f,l,(aL.out f p).mono λb a d t st m q=>?_⟩;rcases aL.br q with⟨rfl,q⟩|⟨rfl,q⟩
 ·exact⟨g,d,h,a,f.step st,m,q⟩
 ·exact⟨g,d,h,a,f.step st,m,q⟩
noncomputable def ip (Γ:Cn)(tg:aI):Bool:=(z7 tg).all λx=>!Γ.fz.contains x
theorem uD(h:ip Γ tg=aB)(m:∀x∈z7 tg,x∈Γ.N):∀x∈z7 tg,x∈Γ.sto:=λx a=>fS.mpr ⟨m x a,fT.mp h x a⟩
theorem Hi(C:Sk D W Γ X k){p0:Pos}(g:cD Γ.N x=aA i)(z:ip Γ (.Name x p0)=aB)(hs:iG a (aA (.Name x p0)) pos.line X.env=pure aC)(B:PE X a (aW D W f)):PS X (.Assign [.Name x p0] a pos) (dJ D W (zt i f)):=by
 rintro b s l H E I ⟨h,u,j,o,c,w,p⟩;have e:=uD z (λy A=>by rw[bT.mp A];exact wt g) x (bT.mpr rfl);refine G5 (i:=i) (X:=X) (by rw[C.hN];exact C.nd) (by rw[C.hN];exact wF g) (C.sto x e).1 B hs (C.sto x e).2 b s l H E I ⟨h,u,j,o,c,w,(aL.out c p).mono λt n r F st m q v d=>?_⟩;exact aL.nx q (aO.refl _ _) m ((c.step st).set d)
theorem JN:∀{es:List aI}{is:List Nat},c3 N es=aA is->∀e∈es,∀x p,e=.Name x p->x∈N
 |[],_,_,e,a,_,_,_=>absurd a (by simp)
 |e0::es,is,h,e,a,x,p,c=>by
  cases e0 with
  |Name y g=>
   simp only[c3] at h;split at h
   ·rename_i i d f b;rcases cA.mp a with rfl|a
    ·cases c;exact wt f
    ·exact JN b e a x p c
   ·cases h
  |_=>simp[c3] at h
theorem Sj(h:wZ N e=aA tgt):∀x∈z7 e,x∈N:=by
 intro x a;cases e with
 |Name y p=>
  simp[z7] at a;subst a;simp only[wZ] at h;cases q:cD N x with
  |none=>rw[q] at h;cases h
  |some i=>exact wt q
 |Tuple es f p=>
  obtain⟨e,d,q⟩:=nO.mp a;simp only[wZ] at h;cases b:c3 N es with
  |none=>rw[b] at h;cases h
  |some g=>
   cases e with
   |Name y c=>
    have q:aA y=aA x:=q;cases q;exact JN b _ d x c rfl
   |_=>cases q
 |_=>simp[z7] at a
theorem GN(C:Sk D W Γ X k)(g:X.calm=aB)(c:wZ Γ.N tg=aA tgt)(f:ip Γ tg=aB):PG X tg (λv σ H Q=>∃φ α τ t w,aZ D φ α H τ σ/\a_ D φ α H t v/\ir tgt t τ=aA w/\∀j,aZ D φ α H w j->Q j H):=by
 rintro b s σ H v u Q I r ⟨φ,α,τ,t,w,e,d,h,q⟩;refine aX (KD (S:=Γ.sto) C.hN C.nd C.sto (.inl g) (uD f (Sj c)) c h I e d r) ?_;rintro _ l ⟨j,i,a⟩;exact⟨j,H,i,q j a⟩
noncomputable def xg:aI->Bool
 |.Call _ _ _ _=>aB
 |.Name _ _=>aB
 |.Subscript _ _ _=>aB
 |.Attribute _ _ _=>aB
 |_=>aC
theorem Mz(C:Sk D W Γ X k)(B:Γ.calm=aB){es:List aI}(n:xg a=aB)(A:c3 Γ.N es=aA is)(z:ip Γ (.Tuple es kk p0)=aB)(F:PE X a (aW D W f)):PS X (.Assign [.Tuple es kk p0] a pos) (dJ D W (ry is f)):=by
 rintro b s r H E I ⟨j,x,l,w,i,y,p⟩;have J:pB [.Tuple es kk p0] a pos.line X.env=pure aC:=by cases a<;>first|(simp[xg] at n;done)|rfl
 have G:pA [.Tuple es kk p0] a X.env=pure aE:=by cases a<;>first|(simp[xg] at n;done)|rfl
 refine JY F (GN C (C.clm B) (tg:=.Tuple es kk p0) (tgt:=.tup is) (by simp[wZ,A]) z) J G rfl b s r H E I ⟨j,x,l,w,i,y,(aL.out i p).mono λt u e K st m q v d=>?_⟩;obtain⟨c,h,q⟩:=aL.som q;exact⟨j,e,l,t,c,i.step st,d,h,λo g=>aL.nx q (aO.refl _ _) m g⟩
theorem Nl(C:Sk D W Γ X k){p1:Pos}(T:(x,n)∈Γ.fld)(V:PE X a (aW D W f))(ho:PE X o (aW D W go)) :
  PS X (.Assign [.Attribute o x p1] a pos) (dJ D W (qa go n f)):=by
 rintro l s M H E I ⟨F,O,G,N,A,Q,p⟩;have S:iG a (aA (.Attribute o x p1)) pos.line X.env=pure aC:=by cases a<;>rfl
 refine NT ho V S l s M H E I ⟨F,O,G,N,A,Q,(aL.out A p).mono λt u w H1 z R q v d=>?_⟩;have e:=A.step z;refine⟨F,w,G,u,e,R,(aL.out e q).mono λZ r g L h J j Y dv=>?_⟩;split at j;case h_2=>exact aL.elim j
 rename_i i;obtain⟨c,fs,m,hl,j⟩:=aL.ex2 j;obtain⟨y,B,rfl⟩:=dv;obtain⟨C0,dx,gs,ad,K,df⟩:=J.ob i y _ B m;obtain⟨fx,cl,P⟩:=C.fld c C0 x n ad T;refine⟨y,C0,dx,gs,rfl,K,cl,P,by rw[←df.length];lia,?_⟩;have b:aO g L g (upd L y (.ins C0 dx (vN x v gs))):=aO.turn (b9 B) ⟨_,K⟩;have U:i<r.length:=(bI.mp m).1;exact aL.nx j b (J.turn B U b ⟨C0,dx,_,ad,z3,bK.put fx (df.step b) ((d.step h).step b)⟩) ((e.step h).step b)
theorem fW:xL X (λo i v H Q=>∃l k xs,o=.ref l/\i=.int k/\H l=aA (.lst xs)/\0<=k/\k<xs.length/\k<9223372036854775808/\Q (upd H l (.lst (xs.set k.toNat v)))):=by
 intro c s A H o i v B C u Q I j m g h;obtain⟨l,k,xs,rfl,rfl,d,y,x,w,q⟩:=h;cases j;obtain⟨t,rfl⟩:=m;obtain⟨z,b,n,r,p,e⟩:=I.lstM d;refine PySem.W.ki_setAt (n:=n) (items:=b.toArray) e y (by simpa using w) (by rw[dH,←p];exact x) ?_;exact⟨_,I.lset (t':=s.toks) (ys:=xs.set k.toNat v) (its':=b.set k.toNat u) (f:=λa=>a.setIfInBounds k.toNat u) d e (by simp) (aY.set g _ r) (by rw[List.length_set];exact z),q⟩
theorem Ob(C:Sk D W Γ X k){p1:Pos}(O:qB b=aB)(ha:PE X a (aW D W f))(ho:PE X o (aW D W fo))(hb:PE X b (aW D W fb)) :
  PS X (.Assign [.Subscript o b p1] a pos) (dJ D W (ES fo fb f)):=by
 rintro r s T H E I ⟨w,V,y,U,K,Z,p⟩;have h1:pB [.Subscript o b p1] a pos.line X.env=pure aC:=by cases a<;>rfl
 have h2:pA [.Subscript o b p1] a X.env=pure aE:=by cases a<;>rfl
 refine JY ha (Hj ho hb fW (λv=>by cases b<;>first|(simp[qB] at O;done)|rfl)) h1 h2 rfl r s T H E I ⟨w,V,y,U,K,Z,(aL.out K p).mono λt B G H1 J m1 q v d=>?_⟩;have h:=K.step J;refine⟨w,G,y,B,h,m1,(aL.out h q).mono λot A F H2 m m2 Y ov dv=>?_⟩;have g:=h.step m;refine⟨w,F,y,A,g,m2,(aL.out g Y).mono λit z j S e Q n iv di=>?_⟩;have d3:=(d.step m).step e;split at n;case h_2=>exact aL.elim n
 rename_i i L;have dv:=dv.step e;obtain⟨ts,u,N,n⟩:=aL.ex1 n;obtain⟨x,M,rfl⟩:=dv;have di:iv=.int L:=di;subst di;obtain⟨P,R,l⟩:=Q.ob i x _ M u;have c:aO j S j (upd S x (.lst (P.set L.toNat v))):=aO.turn (b9 M) ⟨_,R⟩;have hi:i<z.length:=(bI.mp u).1;exact⟨x,L,P,rfl,rfl,R,N.1,by rw[←l.length];exact N.2.1,N.2.2,aL.nx n c (Q.turn M hi c ⟨_,z3,aN.set (l.step c) (d3.step c)⟩) ((g.step e).step c)⟩
theorem Oe(C:Sk D W Γ X k)(hc:Γ.calm=aB)(ht:wZ Γ.N tg=aA tgt)(hz:ip Γ tg=aB){body:List bC}{vs:List Ds}(hi:PI X tg iter (gU D W fi))(hb:Zy X D W body vs)(hs:∀x,lw iter X.env x=pure x) :
  PS X (.For tg iter body [] pos) (dJ D W (Jr tgt fi vs)):=by
 rintro pins s σ H E I ⟨A,α,Z,μ,sr,mr,p⟩;refine Nc C.pso (C.clm hc) hi (GN C (C.clm hc) ht hz) (wI hb) hs pins s σ H E I ⟨A,α,Z,μ,sr,mr,(aL.out sr (show aL D W A α H E ((fi Z μ).re.out Z λpr M=>f6 tgt (qe vs) pr.2 pr.1 Z M) from p)).mono λpr M P H1 st1 m1 q J Ok iv okk lv1=>?_⟩;obtain⟨w,o⟩:=pr;obtain⟨Q,q,h1,h2,h3,h4,h5⟩:=q;refine⟨λi m K z=>m=w.length-i/\i<=w.length/\∃a n j,aO P H1 a z/\aM D A a z j/\aZ D A a z n K/\o j/\f6 tgt (qe vs) o (w.drop i) n j Q,⟨w.length,by simp,hL _,P,Z,M,aO.refl _ _,m1,sr.step st1,lv1,by simpa using q⟩,?_⟩;rintro i m K z ⟨rfl,hi',a,n,j,stp,u,B,lv',T⟩;have R:Ok A a z:=okk _ a z j stp.lk u lv';by_cases G:i<w.length
 ·refine .inr ⟨iv.go i _ _ z R G,λσ2 U=>∃O Y L,aO P H1 O U/\aM D A O U L/\aZ D A O U Y σ2/\o L/\f6 tgt (qe vs) o (w.drop (i+1)) Y L Q,λσ2 U h2=>⟨w.length-(i+1),by omega,rfl,G,h2⟩,λx U y=>?_⟩;obtain⟨sm,dx⟩:=iv.yld i _ _ z x U w[i] R (by simp[G]) y;have stp:=stp.trans (aO.new (α:=a) sm);have B:=B.step (aO.new (α:=a) sm);have u:=u.new sm;rw[EH G] at T;obtain⟨V,ha,T⟩:=T;refine⟨A,a,n,w[i],V,B,dx,ha,λσ3 sr3=>⟨A,a,V,j,sr3,u,_,T,?_,?_,?_,?_,?_⟩⟩
  ·exact λh b e f S r g F l=>⟨f,h,b,stp.trans g,F,l,e⟩
  ·exact λh b e f S r g F l=>h1 h b e f S r (stp.trans g) F l
  ·exact λh b e f S r g F l=>⟨f,h,b,stp.trans g,F,l,e⟩
  ·exact λt b e f S v g F d4=>h4 t b e f S v (stp.trans g) F d4
  ·exact λc fs h b e f S r Cc d g F l=>h5 c fs h b e f S r Cc d (stp.trans g) F l
 ·have hie:i=w.length:=by omega
  rw[hie,List.drop_length] at T;exact .inl ⟨by rw[hie];exact iv.stop _ _ z R,h1 n j T a z K stp u B⟩
theorem RZ(C:Sk D W Γ X k){body:List bC}(hc:PT X c (eL D W ft))(hb:Zy X D W body vs):PS X (.While c body [] pos) (dJ D W (WE ft vs)):=by
 rintro G s Z H E I ⟨B,M,Y,μ,sr,mr,Q,⟨J,⟨N,hN⟩,hJ⟩,V,h2,h3,R,U⟩;refine Tj C.pso hc (wI hb) G s Z H E I ?_;refine⟨λm w L=>∃u i r,aO M H u L/\aM D B u L r/\aZ D B u L i w/\J m i r,⟨N,M,Y,μ,aO.refl _ _,mr,sr,hN⟩,?_⟩;rintro m w L ⟨u,i,r,stp,O,z,pf⟩;refine⟨B,u,i,r,z,O,_,_,hJ m i r pf,λb x e y S n K=>?_,λc fs x e y S T d n K ad xd=>U c fs i x e y S w T d (stp.trans n) K (z.step n) ad xd⟩;cases b with
 |false=>exact V i x e y S w (stp.trans n) K (z.step n)
 |true=>
  rw[if_pos rfl];have F:=stp.trans n;refine⟨λl p=>∃j,j<m/\∃a g f,aO M H a p/\aM D B a p f/\aZ D B a p g l/\J j g f,λl p R=>R,B,y,i,x,z.step n,K,_,e,?_,?_,?_,?_,?_⟩
  ·exact λg f ⟨j,P,q⟩ a p l h A o=>⟨j,P,a,g,f,F.trans h,A,o,q⟩
  ·exact λg f e a p l h A o=>V g f e a p l (F.trans h) A o
  ·exact λg f ⟨j,P,q⟩ a p l h A o=>⟨j,P,a,g,f,F.trans h,A,o,q⟩
  ·exact λt f e a p v h A d4=>R t f e a p v (F.trans h) A d4
  ·exact λc fs g f e a p l T d h A o=>U c fs g f e a p l T d (F.trans h) A o
theorem Px(C:Sk D W Γ X k)(hc:Γ.calm=aB){tg iter elt:aI}{fi:Di}{ifs:List aI}{fe:De}{x:aG}{P:Nat}{p0 p1:Pos}(K:cD Γ.N x=aA P)(hz:ip Γ (.Name x p0)=aB)(ok:cQ Γ.N Γ.cel tg sc)(hfs:js Γ.N (frees sc)=aA fs)(htg:wZ (z7 tg++frees sc) tg=aA tgt)(hi:PI X tg iter (gU D W fi))(hel:∀M W',Ck D W' (inComp Γ tg sc) M k->PE M elt (aW D W' fe))(hts:∀M W',Ck D W' (inComp Γ tg sc) M k->K6 M D W' ifs cs)(hs:∀x,lw iter X.env x=pure x)
  (own:Bool) (hsw:iG (.ListComp elt [⟨tg,iter,ifs,0⟩] sc p1) (aA (.Name x p0)) pos.line X.env=pure aB) :
  PS X (.Assign [.Name x p0] (.ListComp elt [⟨tg,iter,ifs,0⟩] sc p1) pos) (dJ D W (zt P (match own with|true=>jy (z7 tg).length fs tgt fi cs fe|false=>vz (z7 tg).length fs tgt fi cs fe))):=by
 rintro i s σ H E I ⟨Q,α,τ,o,sr,mr,p⟩;rw[exec_Assign_Name_used _ _ _ _ hsw];refine wpAny_bind (hX (wpAny_bind ?_));show wpAny _ _ (do let _ ←pz (.ListComp elt [⟨tg,iter,ifs,0⟩] sc p1) sc X.env _ (newList []) aC (eval iter X.env) (aA (ii (.Name x p0) X.env))) _ _ s;refine wpAny_bind (aX (yh (kk:=λR o=>match own with|true=>RE.ok (T.mut o.length) (o++[MO.lst R])|false=>RE.ok (T.lst R) o) (use:=aA (ii (.Name x p0) X.env)) (Qf:=λ_ B=>∃a f,Inv X i a f B/\E.nx a f) C.toCk (.calm (C.clm hc)) ok hfs htg hi hel hts hs I sr mr (aL.out sr (by cases own<;>exact p)) ?_) λ_ B hq=>wpAny_pure (wpAny_pure hq));rintro j C0 B α1 H1 f α' R vs r I' st1 st hn F nal u m ha dl c O hp ⟨mm,hm⟩;have hx:=wt K;obtain⟨Z,es,ep,hoc,L,l⟩:=hm;have I2:Inv X (i++[(C0,Z)]) σ f B:=I'.pins_of λp n=>(cH.mp n).elim (λz=>I'.pin p (dM _ z)) λz=>by
  rw[bT.mp z];exact⟨hoc,O.free,O.loc,O.nfs,λv e=>by rw[L] at e;cases e⟩
 have fin:∀{b:List aF}{t:T}{μ2:aK},aZ D Q b f τ σ->a_ D Q b f t (.ref j)->(∀a,aZ D Q b f (jZ τ P (aA t)) a->E.nx a f)->wpAny (aR X.prog X.w) X.A (ii (.Name x p0) X.env (.ref j)) (λ_ U=>∃m,U.heap.Ns C0 m/\∀g,gA C0 U.heap g->∃a f,Inv X i a f {U with heap:=g}/\E.nx a f) X.xe B:=λ{b t μ2} Y d q=>by
  refine aX (KD (e:=.Name x p0) (S:=Γ.sto) (tgt:=.one P) (t:=t) (τ:=τ) C.hN C.nd C.sto (.inl (C.clm hc)) (uD hz λy hy=>by rw[bT.mp hy];exact hx) (by simp[wZ,K]) rfl I2 Y d (show RelV (.ref j) (.ref j) from rfl)) ?_;rintro _ s2 ⟨a,I3,h⟩;have J:=(I3.pin (C0,Z) (dM _ (dM _ (bT.mpr rfl)))).1;refine⟨mm,⟨Z,es,ep,J,L,l⟩,λg sb=>⟨a,f,?_,q a h⟩⟩;exact uy (I3.pins_of λp n=>I3.pin p (dM _ (eK _ n))) O hp sb
 cases own with
 |false=>
  obtain⟨G,d,c⟩:=Jz (kk:=λt o=>RE.ok t o) st hn F m ha dl c;exact fin (μ2:=r) (u.lk wm) d λa h=>aL.nx (c.ok (aO.refl _ _) G) (aO.refl _ _) G h
 |true=>
  obtain⟨V,G,d⟩:=W7 st hn F m ha dl;exact fin (μ2:=r) (u.lk kN) d λa h=>aL.nx (c.ok V G) (aO.refl _ _) G h
end
noncomputable def L0(C:aF)(h:aV):Prop:=∃b N nm q bs hd d sub ab a dd j i g f e c,h.get? C=aA (im nm q C N bs b hd d sub ab a dd j i g f e "ValueError.__new__")/\h.Ns N c/\c "__init__"=aE/\lO h zZ b
theorem Vz {K:bJ}{h:aV}{C:aF}(kin:K.In h) (e:e_ K C zZ "ValueError.__new__"=aB):L0 C h:=by
 simp only[e_] at e;revert e;cases w:K.lookup C with
 |none=>intro e;cases e
 |some o=>
  intro e;split at e;case h_2=>cases e
  rename_i dd cd d v;cases v;split at e;case h_2=>cases e
  rename_i B s l k j i n g p m;simp only[cB,beq_iff_eq,l9] at e;obtain⟨⟨⟨⟨⟨z,y⟩,r⟩,x⟩,b⟩,q⟩:=e;cases cd;rename_i nm bs mro f u hd t sub ab c A;simp only at p r b q;cases z;cases y;cases p;cases r;have a:d=#[l,k,j,i,aA (.builtin "ValueError.__new__"),g]:=by
   cases d;simp only at m;rw[m]
  cases a;exact⟨s,f,nm,u,bs,hd,t,sub,ab,c,dd,l,k,j,i,g,h.nsMap f,kin _ _ w,.of_isNs (tR kin b),PySem.W.nsMap_none_of_in kin b q,PySem.W.tail_of_in kin x⟩
section
variable {X:Cx}{pins:List (aF×bA)}{s:Shared}{σ:St}{H:Hp}
theorem Yy{i:Nat}{x:aG}{m:aG->Option aD}{h':aV}{u:Option aD}{tk:Nat}(I:Inv X pins σ H s)(hN:X.N.Nodup)(L:X.N[i]?=aA x)
  (K:∀(i:Nat) (x:aG) (v:V),X.N[i]?=aA x->σ[i]?=aA (aA v)->ie X.env.scope x->∃u,RelV v u/\Look X.env s.heap m x u)
  (J:h'.Ns X.env.locals λy=>if y=x then u else m y) (hs:gA X.env.locals s.heap h'):Inv X pins (σ.set i aE) H {s with heap:=h',toks:=tk}:=by
 have cne:=I.cne;have a:∀b o,X.s₀.heap.get? b=aA o->b≠X.env.locals:=λb o e=>dP (cY (bZ e) I.ok.above);refine⟨I.ok,I.os,I.bare,⟨λb o e n A h=>?_,λb o e n A h=>?_,I.base.free,λb o e h=>?_,I.base.tups,I.base.frzs,I.base.tbls⟩,⟨_,J,λj y v g f M=>?_⟩,λy c e=>?_,I.free,I.freeC,λp G=>?_,λb D e=>?_,by simpa using I.len⟩
 ·exact (hs.2 b (a b o e)).trans (I.base.keep b o e n A h)
 ·obtain⟨C,g⟩:=I.base.slot b o e n A h;exact⟨C,(hs.2 b (a b o e)).trans g⟩
 ·obtain⟨E,g⟩:=I.base.there b o e h;exact⟨E,(hs.2 b (a b o e)).trans g⟩
 ·by_cases t:j=i
  ·subst t;rw[tW] at f;cases q:σ[j]? with
   |none=>rw[q] at f;cases f
   |some w=>rw[q] at f;cases f
  ·rw[bW (b_ t)] at f;obtain⟨w,r,q⟩:=K j y v g f M;refine⟨w,r,?_⟩;rcases q with⟨k,e⟩|⟨k,c,e,z⟩
   ·have:y≠x:=λz=>t (vi hN g (by rw[z];exact L));exact .inl ⟨k,by simp[this,e]⟩
   ·exact .inr ⟨k,c,e,z.sameBut hs (cne y c e)⟩
 ·obtain⟨w,z⟩:=I.cell y c e;exact⟨w,z.sameBut hs (cne y c e)⟩
 ·obtain⟨e,n,B,F,d⟩:=I.pin p G;exact⟨(hs.2 p.1 B).trans e,n,B,F,d⟩
 ·refine (I.hok b D e).stay (λc w l q=>(hs.2 c ?_).trans q) (λ_ q=>q) λ_ _ q=>q;rintro rfl;rcases l with rfl|l
  ·rw[I.free] at e;cases e
  ·rw[I.free] at l;cases l
theorem Ya{x C:aF}{d:Option aF}{a:bA}(I:Inv X pins σ H s)(ox:dA X H x)(F:∀p∈pins,p.1≠x)(ho:s.heap.get? x=aA a)(hx:yg x C d s.heap):Inv X pins σ (upd H x (.frz a (.ext (yg x C d)))) s:=by
 have j:∀b,H b≠aE->b≠x:=λb h z=>h (by rw[z];exact ox.free);refine⟨I.ok,I.os,I.bare,⟨I.base.keep,I.base.slot,λb o e n g=>?_,I.base.there,λb w e=>?_,λb o u e=>?_,λb B e=>?_⟩,I.loc,I.cell,?_,λy c e=>?_,λp i=>?_,λb E e=>?_,I.len⟩
 ·have:b≠x:=λz=>by
   rcases ox.new with q|q
   ·exact g (by rw[z];exact q)
   ·rw[←z,e] at q;cases q
  rw[z4 this];exact I.base.free b o e n g
 ·have q:=I.base.tups b w e;rw[z4 (j b (by rw[q];simp))];exact q
 ·have q:=I.base.frzs b o u e;rw[z4 (j b (by rw[q];simp))];exact q
 ·obtain⟨f,q⟩:=I.base.tbls b B e;exact⟨f,by rw[z4 (j b (by rw[q];simp))];exact q⟩
 ·rw[z4 (b_ ox.loc)];exact I.free
 ·rw[z4 (ox.cel y c e)];exact I.freeC y c e
 ·obtain⟨e,n,r⟩:=I.pin p i;have:p.1≠x:=(cH.mp i).elim (ox.pin p) (F p);exact⟨e,by rw[z4 this];exact n,r⟩
 ·by_cases z:b=x
  ·subst z;rw[z3] at e;cases e;obtain⟨D,J,G,K⟩:=id hx;refine⟨ho,hx,⟨D,G⟩,λM L p k=>?_⟩;obtain⟨m,l,v,t⟩:=p;exact⟨m,l,k _ v,t⟩
  ·rw[z4 z] at e;have A:∀c o,H c=aA o->upd H x (.frz a (.ext (yg x C d))) c=aA o:=λc o q=>by rw[z4 (j c (by rw[q];simp))];exact q
   exact (I.hok b E e).stay (λ_ _ _ q=>q) (λc q=>A c _ q) λc w q=>A c _ q
end
section
variable {X:Cx}{D:DP}{W:XW}{Γ:Cn}{k:Nat}{pins:List (aF×bA)}{s:Shared}{σ:St}{H:Hp}{φ α:List aF}{τ:Sl}{μ:aK}{a b c e:aI}{pos:Pos}{E:Ends}{es:List aI}{fs:List De}
theorem UY(C:Sk D W Γ X k)(hc:Γ.calm=aB){x:aG}{n:Nat}{p0 p1:Pos}(hx:x∈Γ.G)(hg:Γ.gl x=.xcl n)(S:dD X D W (a::es) fs) :
  PS X (.Raise (aA (.Call (.Name x p0) (a::es) [] p1)) aE pos) (dJ D W (zU n fs)):=by
 rintro j s M H E I ⟨h,O,u,T,A,Z,p⟩;have q:=C.glo x hx;rw[hg] at q;obtain⟨C0,ad,hm,K⟩:=q;have J:=S.stars;obtain⟨o,N,nm,Q,bs,hd,sn,sub,ab,col,dd,k0,k1,k2,k3,k5,mN,Y,V,U,R⟩:=Vz I.ok.mod.kin K;have hb:o.contains (.type "BaseException")=aB:=R.hasType nX.hasBase;have hp:(fJ p1 (d7 (a::es) X.env)).any (·.1)=aC:=qT J;refine wpAny_Raise_call_subT (nm:=nm) (q:=Q) (C:=C0) (N:=N) (bs:=bs) (bm:=o) (hdct:=hd) (sn:=sn) (sub:=sub) (ab:=ab) (col:=col) (dd:=dd) (k0:=k0) (k1:=k1) (k2:=k2) (k3:=k3) (k5:=k5) (mN:=mN) nX hb (I.ok.hd (C.clm hc)) hp U ?_;refine wH I (C.glb x hx) hm ⟨rfl,?_⟩ (C.dbG x hx);have B:aT a=aB:=by simp only[iX,cB] at J;exact J.1
 have P:=aX (vI S p1 j s M H (λy g=>∃i c b,aO O H b g/\aZ D h b g u M/\aM D h b g c/\aN D h b g i y/\aL D W h b g E (.grd (i.length<=aQ) (.ex n [] u c))) I ⟨h,O,u,T,A,Z,(aL.out A p).mono λi v w H' st m q y d _=>⟨i,v,w,st,A.step st,m,d,q⟩⟩) (Q':=λl f=>l.length<=sizeLine/\f.heap.get? C0=aA (im nm Q C0 N bs o hd sn sub ab col dd k0 k1 k2 k3 k5 "ValueError.__new__")/\f.heap.Ns N mN/\lO f.heap zZ o/\∀L e,nF f.heap L e (.ref C0) l->X.xe (.ref e) {f with heap:=L}) ?_
 ·rw[z6 B] at P ⊢;exact rc (aX P λl f h1=>⟨rfl,h1⟩)
 ·rintro l f ⟨y,g,t,r,i,c,b,st,z,m1,dl,q⟩;obtain⟨hl,q⟩:=aL.grd q;refine⟨?_,t.bk _ _ Y,V.keeps t.bk,R.keeps t.bk,λL e mk=>?_⟩
  ·have e1:=dl.length;have e2:=r.length;have:=zA hl;rw[←e2,←e1];exact this
  ·exact C.xe _ _ (OH t mk (aL.ex q (aO.refl _ _) m1 z (.own C0 ad rfl) rfl))
theorem eI.at{h:aV}{x T C:aF}{a:List (Nat×NH.T)}{d:Option aF}{fl:aD}(t:eI h x T (mX a C) d fl):yg x C d h:=by
 obtain⟨b,vs,a0,f,ts,h1,⟨h2,e⟩,c,_⟩:=t;exact⟨b,vs,h1,h2.trans Xt,c,e⟩
theorem eI.ty{M:Model}{h:aV}{x T:aF}{cls:aD}{d:Option aF}{fl:aD}(t:eI h x T cls d fl):mC M h (typeOf (.ref x)) (stC cls):=by
 obtain⟨a,vs,a0,b,ts,h1,⟨h2,e⟩,c,_⟩:=t;exact h2▸(Cq h1).andThen .now
theorem eI.keeps{h g:aV}{x T:aF}{cls:aD}{d:Option aF}{fl:aD}(t:eI h x T cls d fl)(k:∀b o,h.get? b=aA o->g.get? b=aA o):eI g x T cls d fl:=by
 obtain⟨c,vs,a0,e,ts,h1,h2,p,n,m,l,j,i,f,a⟩:=t;exact⟨c,vs,a0,e,ts,k _ _ h1,h2,p,n,m,l,k _ _ j,i,f,a⟩
theorem eI.rcd{h:aV}{x T C:aF}{a:List (Nat×NH.T)}{d:Option aF}{fl:aD}(t:eI h x T (mX a C) d fl):∃g vs,h.get? x=aA g/\g.data=.fields vs/\(a.length<=1->vs[2]?=aA .none):=by
 obtain⟨g,vs,a0,f,ts,h1,h2,e,n,m,l,k,j,i,b⟩:=t;exact⟨g,vs,h1,e,λc=>b C (if_pos c)⟩
noncomputable def BJ (D:DP)(A:eN)(i:Option Nat)(f:Ds):TS:=λE σ H=>mo D H σ λφ α τ μ=>(∀j,i=aA j->∃b a,τ[j]?=aA (aA (T.exc b a))/\(a.length<=1->f7 A H))/\aL D iM φ α H E (f τ μ)
noncomputable def gJ (Γ:Cn)(x:aG)(c:Nat):Prop:=x∈Γ.G/\(x,c)∈Γ.cls/\((∃f,Γ.gl x=.xcf c f)\/Γ.gl x=.xcl c)/\c<40
noncomputable def LJ (Γ:Cn):Option aG->Option Nat->Prop
 |none,aE=>True
 |some e,aA j=>cD Γ.N e=aA j/\Γ.cel.contains e=aC
 |_,_=>False
noncomputable def wp (Γ:Cn)(t:aI)(cs:List Nat):Prop:=∃x p c,t=.Name x p/\cs=[c]/\gJ Γ x c
noncomputable def j_ (D:DP)(Γ:Cn)(k:Nat):List iW->List (List Nat×Option Nat×List Ds)->Prop
 |[],[]=>True
 |h::j,g::r=>(∃t nm e a f cs i d,h=.ExceptHandler (aA t) nm (e::a) f/\g=(cs,i,d)/\wp Γ t cs/\(nm=aE\/∃x p c,t=.Name x p/\cs=[c]/\gJ Γ x c)/\LJ Γ nm i/\∀b,Sk D iM {Γ with calm:=aC,qt:=aC} b k->f8 b (e::a) (BJ D b.A i (qe d)))/\j_ D Γ k j r
 |_,_=>False
theorem gJ.mg(C:Sk D W Γ X k){x:aG}{c:Nat}(h:gJ Γ x c):∃d,X.mg x=aA (.ref d)/\D.adr c=aA d:=by
 have q:=C.glo x h.1;rcases h.2.2.1 with⟨f,g⟩|g
 ·rw[g] at q;obtain⟨d,ad,a⟩:=q;exact⟨d,a,ad⟩
 ·rw[g] at q;obtain⟨d,ad,a,_⟩:=q;exact⟨d,a,ad⟩
theorem Hg{c kk:Nat}{n:String}(h:oK kk=aA n)(ne:c≠kk):vZ kk c=aC:=by
 have e:kk=8\/kk=9:=by
  unfold oK at h;split at h
  ·exact .inl ‹_›
  ·split at h
   ·exact .inr ‹_›
   ·cases h
 have a:fK kk c=aC:=by
  cases q:fK kk c with
  |false=>rfl
  |true=>exact absurd (tL q).symm ne
 rcases e with rfl|rfl<;>(show mi (fK _ c) _=aC;rw[a])
theorem O2(C:Sk D W Γ X k){x:aG}{c kk:Nat}{cv:aD}{f:List (Nat×T)}{b:aF}(ad:iQ D kk f cv)(d:gJ Γ x c)(g:X.mg x=aA (.ref b))(a:D.adr c=aA b):nE X.K (stC cv) (.ref b)=aA (vZ kk c):=by
 cases ad with
 |own Ck ad e=>rw[e,Xt];exact C.xmt kk x c d.2.1 d.2.2.2 Ck b ad g
 |blt n h m e=>
  have l:c≠kk:=λz=>by rw[z,m] at a;cases a
  rw[Hg h l,e];have q:=C.xmt c x c d.2.1 d.2.2.2 b b a g;unfold nE at q ⊢;split at q
  ·rename_i j;rw[if_pos j];unfold PySem.W.kitCls at q ⊢;dsimp only at q ⊢;split at q
   ·rename_i i;rw[if_pos i];unfold oK at h;split at h
    ·cases h;rfl
    ·split at h
     ·cases h;rfl
     ·cases h
   ·cases q
  ·cases q
theorem Pr(C:Sk D W Γ X k){x:aF}{cv:aD}{kk:Nat}{t:aI}{s:a9}{σ:St}{H:Hp}{E F:aD->a9->Prop}(ad:iQ D kk j cv)(h:wp Γ t cs)(I:Inv (Cx.han (Cx.pin' X pins) x) [] σ H s)(ty:mC (aR X.prog X.w) s.heap (typeOf (.ref x)) (stC cv))
  (q:∀h',(∀b o,s.heap.get? b=aA o->h'.get? b=aA o)->Q (cI kk cs) {s with heap:=h'}):wpAny (aR X.prog X.w) (X.A.mark (aA (.ref x))) (eval t X.env) (λc d=>wpAny (aR X.prog X.w) (X.A.mark (aA (.ref x))) (excMatches (.ref x) c) Q E d) F s:=by
 obtain⟨y,p,c,rfl,rfl,a⟩:=h;obtain⟨i,g,f⟩:=a.mg C;refine wH (X:=Cx.han (Cx.pin' X pins) _) I (C.glb y a.1) g ?_ (C.dbG y a.1);refine (PySem.W.exm_one (M:=aR X.prog X.w) I.kIn ty (O2 C ad a g f)).at ?_;have e:cI kk [c]=vZ kk c:=by
  rw[ko];show mi _ aC=_;cases vZ kk c<;>rfl
 have:=q s.heap λ_ _ e=>e;rw[e] at this;exact this
theorem G_(C:Sk D W Γ X k){x Tt:aF}{cv:aD}{d:Option aF}{kk:Nat}{B:List (Nat×T)}(ad:iQ D kk B cv):∀{hs:List iW}{r:List (List Nat×Option Nat×List Ds)}{s1:a9}{J:St}{G:Hp}{l:List aF}{u:Sl}{H:aK},j_ D Γ k hs r->Inv (Cx.pin' X pins) [] J G s1->dA (Cx.pin' X pins) G x->dA (Cx.pin' X pins) G Tt->eI s1.heap x Tt cv d .none->
  bS D φ l G B d->aM D φ l G H->aZ D φ l G u J->aL D W φ l G E (rq r kk B u H)->wpAny (aR X.prog X.w) X.A (handleBy (.ref x) X.env hs) (SP X pins E) X.xe s1
 |[],[],s1,J,G,l,u,H,_,O,P,oT,Y,xd,m1,M,p=>by
  obtain⟨e0,out,L,F⟩:=C.frm;refine wpAny_handleBy_nil ?_;unfold CW;obtain⟨oe,vs',a0,oT',ts,ho,hcc,hd,hv0,hv1,hT,hoT,hdT,h3,_⟩:=id Y;refine wpAny_bind (gO ho hd hv1 ?_);rw[if_neg (show ¬((cN Tt==eX)=aB) from by simp)];have go:∀{t2:a9},XP X W (.ref x) t2->wpAny (aR X.prog X.w) X.A (throw (cN x):Sem Flow) (SP X pins E) X.xe t2:=λ{t2} xp=>sj (C.xe _ _ xp);have un:∀b,dA (Cx.pin' X pins) G b->dA X G b:=λb o=>⟨o.free,o.loc,o.nfs,o.new,o.cel,λp hp=>o.pin p (eK _ hp)⟩;have fin:wpAny (aR X.prog X.w) X.A (mz (.ref x) X.env.frame) (λ_ t2=>XP X W (.ref x) t2) X.xe s1:=by
   refine wz ((qm O).pins_of λp hp=>absurd hp (by simp)) (un x P) (un Tt oT) Y λh4 I4 tr4=>?_;refine⟨x,cv,d,J,G,aA Tt,cT L,rfl,I4,un x P,λt ht=>?_,?_,.inr ⟨L,F.fe,rfl⟩,aL.ex p (aO.refl _ _) m1 M ad xd⟩
   ·have:t=Tt:=by simpa using ht
    rw[this];exact un Tt oT
   ·rw[F.fe] at tr4;exact tr4
  first
   |exact wpAny_bind (aX fin λ_ t2 xp=>go xp)
   |exact wpAny_bind (wpAny_pure (wpAny_bind (aX fin λ_ t2 xp=>go xp)))
 |[],_::_,_,_,_,_,_,_,h,_,_,_,_,_,_,_,_=>h.elim
 |_::_,[],_,_,_,_,_,_,h,_,_,_,_,_,_,_,_=>h.elim
 |hd::hs',g::r',s1,J,G,l,u,H,h,O,P,oT,Y,xd,m1,M,p=>by
   obtain⟨⟨t,nm,b0,suite',pp,cs,i,vs,rfl,rfl,ht,hown,hnm,hsu⟩,hrest⟩:=h;have IX:Inv (Cx.han (Cx.pin' X pins) x) [] J G s1:=V9 O;refine wpAny_handleBy_cons (codeAny_handlers_test (Pr C ad ht IX (eI.ty Y) λh' hkp=>?_)) (λq=>by cases q);have O:Inv (Cx.pin' X pins) [] J G {s1 with heap:=h'}:=O.kept (t':=s1.toks) hkp;have Y:=Y.keeps hkp;have p:aL D W φ l G E (.br (cI kk cs) (FI i vs kk B u H) (rq r' kk B u H)):=p;rcases aL.br p with⟨hb,p⟩|⟨hb,p⟩
   ·rw[hb];obtain⟨Q,q,h1,h2,h3,h4,h5⟩:=p;have C2:∀{X':Cx},X'=Cx.han (Cx.pin' X pins) x->Sk D iM {Γ with calm:=aC,qt:=aC} X' k:=λ{X'} hX'=>by
     subst hX';obtain⟨e0,out,L,F⟩:=C.frm;exact {hK:=C.hK,hN:=C.hN,nd:=C.nd,vis:=C.vis,dbg:=C.dbg,dbG:=C.dbG,glb:=C.glb,glo:=C.glo,glU:=C.glU,cel:=C.cel,isi:=C.isi,fld:=C.fld,xcx:=C.xcx,ocx:=C.ocx,clv:=C.clv,clm:=(λz=>by cases z),qt:=(λz=>by cases z),rom:=(λz=>by cases z),rmh:=⟨C.rmh.dp,C.rmh.un⟩,xe:=(λe s p=>by obtain⟨_,_,_,_,_,_,_,_,_,_,_,_,_,z⟩:=p;exact z),frm:=⟨e0,out,L,F.stk,F.f0,F.fe⟩,lam:=C.lam,kfz:=C.kfz,sto:=C.sto,lcl:=C.lcl,pso:=Dh,xmt:=C.xmt}
    have okX:X.Ok:=JB O.ok;cases nm with
    |none=>
     cases i with
     |some j=>exact dI hnm
     |none=>
      refine codeAny_handlers_suite (wz (X:=Cx.pin' X pins) O P oT Y λh3' I3 tr3=>?_);have S:=hsu _ (C2 rfl) [] _ _ _ {nx:=E.nx,rt:=E.rt} (V9 (x:=x) I3) ⟨φ,l,u,H,M,m1,(λ_ z=>by cases z),_,q,h1,(λ_ _ z=>z.elim),(λ_ _ z=>z.elim),h4,(λ_ _ _ _ z=>z.elim)⟩;refine dO S (λf s6 h6=>?_) (λ_ _ z=>z.elim);cases f with
      |next=>obtain⟨a,I,U,K⟩:=h6;exact⟨a,I,qm (yq O.ok U),K⟩
      |brk=>obtain⟨a,I,U,K⟩:=h6;exact K.elim
      |cont=>obtain⟨a,I,U,K⟩:=h6;exact K.elim
      |ret w=>obtain⟨y,a,I,U,r,K⟩:=h6;exact⟨y,a,I,qm (yq O.ok U),r,K⟩
    |some e=>
     cases i with
     |none=>exact dI hnm
     |some j=>
      obtain⟨hidx,hce⟩:=hnm;obtain⟨Ck,adk,ecv⟩:∃Ck,D.adr kk=aA Ck/\cv=mX B Ck:=by
       cases ad with
       |own Ck ad e=>exact⟨Ck,ad,e⟩
       |blt n hn1 hn2 e=>
        rcases hown with z|⟨x0,p0,c,_,rfl,hc⟩
        ·cases z
        ·obtain⟨Cc,_,hac⟩:=hc.mg C;have:cI kk [c]=aC:=by
          rw[ko,Hg hn1 (λz=>by rw[z,hn2] at hac;cases hac)]
         rw[this] at hb;cases hb
      subst ecv;refine codeAny_handlers_suite_as (wz (X:=Cx.pin' X pins) O P oT Y λh3' I3 tr3=>?_);obtain⟨oe,vs0,go,gd0,g2⟩:=eI.rcd tr3;have I4:=Ya (C:=Ck) (d:=d) I3 P (λp hp=>absurd hp (by simp)) go (eI.at tr3);have Z:aO l G l (upd G x (.frz oe (.ext (yg x Ck d)))):=aO.new (zf P.free);have R:X.env.scope.names.lookup e=aA .local:=C.lcl e (wt hidx) hce;have hNd:X.N.Nodup:=by rw[C.hN];exact C.nd
      have hNi:X.N[j]?=aA e:=by rw[C.hN];exact wF hidx
      refine uS (X:=Cx.han (Cx.pin' X pins) x) (i:=j) (v:=.ref x) (V9 I4) hNd hNi (.inl R) rfl (λs5 I5=>?_) (.inr R);have xd5:=xd.lk (Z.lk (φ:=φ));have den:a_ D φ l (upd G x (.frz oe (.ext (yg x Ck d)))) (.exc kk B) (.ref x):=⟨x,Ck,d,oe,rfl,zk m1 P.free,zm m1 P.free,adk,z3,by cases d<;>exact xd5⟩;have sr5:=(M.step Z).set (i:=j) den;have m5:=m1.new (zf (o:=HO.frz oe (.ext (yg x Ck d))) P.free);have jl:j<u.length:=by
       have e1:=M.len;have e2:=O.len;have e3:=(bI.mp hNi).1;rw[e1,e2];exact e3
      have know5:∀j',aA j=aA j'->∃kk0 xfs0,(jZ u j (aA (T.exc kk B)))[j']?=aA (aA (T.exc kk0 xfs0))/\(xfs0.length<=1->f7 (Cx.han (Cx.pin' X pins) x).A (upd G x (.frz oe (.ext (yg x Ck d))))):=λj' ej=>by
       cases ej;refine⟨kk,B,by rw[xT,mM jl],λhl h eh=>⟨x,oe,vs0,_,(bP eh).symm,z3,gd0,g2 hl⟩⟩
      have S:=hsu _ (C2 rfl) [] s5 _ _ {nx:=λa I=>E.nx (a.set j aE) I,rt:=E.rt} I5 ⟨φ,l,_,H,sr5,m5,know5,_,q,(λτ2 μ2 z α' I a st m r=>h1 _ μ2 z α' I _ (Z.trans st) m r.unset),(λ_ _ z=>z.elim),(λ_ _ z=>z.elim),(λt μ2 z α' I v st m dd=>h4 t μ2 z α' I v (Z.trans st) m dd),(λ_ _ _ _ z=>z.elim)⟩;have hkf:(X.env.scope.kind==.class || (X.env.scope.kind==.module&&X.env.locals != X.env.globals))=aC:=by rw[okX.kind];rfl
      refine dO S (λf s6 h6=>?_) (λ_ _ z=>z.elim);have fin:∀{V H6},Inv (Cx.han (Cx.pin' X pins) x) [] V H6 s6->(∀s7,Inv X pins (V.set j aE) H6 s7->SP X pins E f s7)->wpAny (aR X.prog X.w) X.A (do bindName X.env e .none;unbindBehindTheSuite X.env e pp) (λ_ s7=>SP X pins E f s7) X.xe s6:=λ{V H6} I6 q=>by
       have I7:Inv X pins V H6 s6:=qm (yq (Hm okX) I6);obtain⟨m,hn,hl⟩:=I7.loc;refine wpAny_nameGoes_keeps R hn hkf λh7 u7 hn7 hs7=>?_;exact q _ (Yy I7 hNd hNi hl hn7 hs7)
      cases f with
      |next=>obtain⟨a,I,U,K⟩:=h6;exact fin U λs7 I7=>⟨_,I,I7,K⟩
      |brk=>obtain⟨a,I,U,K⟩:=h6;exact K.elim
      |cont=>obtain⟨a,I,U,K⟩:=h6;exact K.elim
      |ret w=>obtain⟨y,a,I,U,r,K⟩:=h6;exact fin U λs7 I7=>⟨y,_,I,I7,r,K⟩
   ·rw[hb];exact G_ C ad hrest O P oT Y xd m1 M p
theorem Hh(C:Sk D W Γ X k)(hc:Γ.calm=aB){body:List bC}{us:List Ds}{h0:iW}{hs:List iW}{r:List (List Nat×Option Nat×List Ds)}(hb:∀Y W',Sk D W' Γ Y k->Zy Y D W' body us)(hh:j_ D Γ k (h0::hs) r) :
  PS X (.Try body (h0::hs) [] [] pos) (dJ D W (om us r)):=by
 rintro a s σ H E I ⟨o,N,Z,μ,sr,mr,Q,q,j,U,T,S,h5⟩;obtain⟨e0,out,L,F⟩:=C.frm;have V:iR (Cx.pin' X a) e0 out L:=⟨F.stk,F.f0,F.fe⟩;generalize R:(λ(cls:aD) (d:Option aF) (b:St) (c:Hp)=>∃n fs g h i,rq r n fs g h Q/\iQ D n fs cls/\aO N H i c/\aM D o i c h/\aZ D o i c g b/\bS D o i c fs d:XW)=u;have C1:Sk D u Γ ((Cx.pin' X a).wish (XP (Cx.pin' X a) u)) k:={hK:=C.hK,hN:=C.hN,nd:=C.nd,vis:=C.vis,dbg:=C.dbg,dbG:=C.dbG,glb:=C.glb,glo:=C.glo,glU:=C.glU,cel:=C.cel,isi:=C.isi,fld:=C.fld,xcx:=C.xcx,ocx:=C.ocx,clv:=C.clv,clm:=C.clm,qt:=C.qt,rom:=C.rom,rmh:=⟨C.rmh.dp,C.rmh.un⟩,xe:=λe s p=>jT p,frm:=⟨e0,out,L,F.stk,F.f0,F.fe⟩,lam:=C.lam,kfz:=C.kfz,sto:=C.sto,lcl:=C.lcl,pso:=ye V I.ok.frames,xmt:=C.xmt};have B:=wI (hb _ u C1) [] s σ H E ((Vy I).wish _) ⟨o,N,Z,μ,sr,mr,_,q,j,U,T,S,λn fs g h z v c b cv d st m K ad xd=>by rw[←R];exact⟨n,fs,g,h,v,z,ad,st,m,K,xd⟩⟩;refine wpAny_Try_except (dO B (λf t j=>?_) (λe1 t M=>?_))
 ·cases f with
  |next=>obtain⟨b,c,l,q⟩:=j;exact XO a t b c E (qm l.unwish) q
  |brk=>obtain⟨b,c,l,q⟩:=j;exact⟨b,c,qm l.unwish,q⟩
  |cont=>obtain⟨b,c,l,q⟩:=j;exact⟨b,c,qm l.unwish,q⟩
  |ret w=>obtain⟨y,b,c,l,r,q⟩:=j;exact⟨y,b,c,qm l.unwish,r,q⟩
 have M:XP (Cx.pin' X a) u e1 t:=M;refine uo (X:=Cx.pin' X a) V I.ok.frames M λx cls d σ1 H1 Tt h' ee I1 O P tr w=>?_;subst ee;refine wz (X:=Cx.pin' X a) (s:={t with heap:=h'}) I1 O P tr λh2' I2 A=>?_;rw[←R] at w;obtain⟨n,fs,g,h,i,z,ad,G,m1,J,xd⟩:=w;exact G_ C ad hh I2 O P A xd m1 J (aL.step ⟨Q,z,j,U,T,S,h5⟩ G)
end
structure cX where
 e:Cn->aI->Option De
 t:Cn->aI->Option Dt
 w:Cn->aI->Option Dt
 i:Cn->aI->Option Di
 o:Cn->aI->Option De
 s:Cn->bC->Option Ds
noncomputable abbrev ER:=cX->Cn->aI->Option De
noncomputable abbrev TR:=cX->Cn->aI->Option Dt
noncomputable abbrev IR:=cX->Cn->aI->Option Di
noncomputable abbrev SR:=cX->Cn->bC->Option Ds
structure cR where
 e:List ER
 t:List TR
 w:List TR
 i:List IR
 o:List ER
 s:List SR
noncomputable def V4 {α β:Type}:List (cX->Cn->α->Option β)->cX->Cn->α->Option β
 |[],_,_,_=>aE
 |f::fs,r,a,e=>match f r a e with
  |some d=>aA d
  |none=>V4 fs r a e
noncomputable def aU (R:cR):Nat->cX
 |0=>⟨λ_ _=>aE,λ_ _=>aE,λ_ _=>aE,λ_ _=>aE,λ_ _=>aE,λ_ _=>aE⟩
 |n+1=>⟨V4 R.e (aU R n),V4 R.t (aU R n),V4 R.w (aU R n),V4 R.i (aU R n),V4 R.o (aU R n),V4 R.s (aU R n)⟩
noncomputable def F8:aI->Bool
 |.Tuple _ _ _=>aB
 |_=>aC
noncomputable def oz (tg e:aI):Bool:=match e with
 |.Call (.Name x _) _ _ _=>(x != ("enumerate":aG)&&x != ("zip":aG)) || F8 tg
 |.Call (.Attribute _ m _) _ _ _=>m != ("items":aG) || F8 tg
 |_=>aB
structure bQ(D:DP)(r:cX):Prop where
 e:∀{X W Γ k e f},Ck D W Γ X k->r.e Γ e=aA f->PE X e (aW D W f)
 t:∀{X W Γ k e f},Ck D W Γ X k->r.t Γ e=aA f->PT X e (eL D W f)
 w:∀{X W Γ k e f},Ck D W Γ X k->r.w Γ e=aA f->PW X e (eL D W f)
 i:∀{X W Γ k tg e f},Ck D W Γ X k->oz tg e=aB->r.i Γ e=aA f->PI X tg e (gU D W f)
 o:∀{X W Γ k e f},Ck D W Γ X k->r.o Γ e=aA f->PE X e (aW D W f)
 s:∀{X W Γ k e f},Sk D W Γ X k->r.s Γ e=aA f->PS X e (dJ D W f)
noncomputable def cM (D:DP)(f:ER):Prop:=∀r,bQ D r->∀{X W a k e d},Ck D W a X k->f r a e=aA d->PE X e (aW D W d)
noncomputable def r4 (D:DP)(f:TR):Prop:=∀r,bQ D r->∀{X W a k e d},Ck D W a X k->f r a e=aA d->PT X e (eL D W d)
noncomputable def HU (D:DP)(f:TR):Prop:=∀r,bQ D r->∀{X W a k e d},Ck D W a X k->f r a e=aA d->PW X e (eL D W d)
noncomputable def oS (D:DP)(f:IR):Prop:=∀r,bQ D r->∀{X W a k b e d},Ck D W a X k->oz b e=aB->f r a e=aA d->PI X b e (gU D W d)
noncomputable def m3 (D:DP)(f:SR):Prop:=∀r,bQ D r->∀{X W a k e d},Sk D W a X k->f r a e=aA d->PS X e (dJ D W d)
noncomputable def yR{α:Type}(P:α->Prop):List α->Prop
 |[]=>True
 |f::fs=>P f/\yR P fs
structure bY(D:DP)(R:cR):Prop where
 e:yR (cM D) R.e
 t:yR (r4 D) R.t
 w:yR (HU D) R.w
 i:yR (oS D) R.i
 o:yR (cM D) R.o
 s:yR (m3 D) R.s
theorem ji{α β:Type}{P:(cX->Cn->α->Option β)->Prop}{C:Prop}{e:α}{d:β}:∀{fs:List (cX->Cn->α->Option β)},yR P fs->(∀f,P f->f r Γ e=aA d->C)->V4 fs r Γ e=aA d->C
 |[],_,_,h=>by cases h
 |f::fs,a,k,h=>by
  unfold V4 at h;cases q:f r Γ e with
  |some b=>rw[q] at h;cases h;exact k f a.1 q
  |none=>rw[q] at h;exact ji a.2 k h
theorem wq{R:cR}(H:bY D R):∀n,bQ D (aU R n)
 |0=>⟨λ_ h=>(by cases h),λ_ h=>(by cases h),λ_ h=>(by cases h),λ_ _ h=>(by cases h),λ_ h=>(by cases h),λ_ h=>(by cases h)⟩
 |n+1=>⟨λC h=>ji H.e (λf p q=>p _ (wq H n) C q) h,λC h=>ji H.t (λf p q=>p _ (wq H n) C q) h,λC h=>ji H.w (λf p q=>p _ (wq H n) C q) h,λC a h=>ji H.i (λf p q=>p _ (wq H n) C a q) h,λC h=>ji H.o (λf p q=>p _ (wq H n) C q) h,λC h=>ji H.s (λf p q=>p _ (wq H n) C q) h⟩
noncomputable def gd{α:Type}(b:Bool)(o:Option α):Option α:=match b with
 |true=>o
 |false=>aE
theorem zc{o:Option α}(h:gd b o=aA x):b=aB/\o=aA x:=by
 cases b with
 |true=>exact⟨rfl,h⟩
 |false=>cases h
theorem aP{α β:Type}{o:Option α}{f:α->Option β}{x:β}(h:o.bind f=aA x):∃a,o=aA a/\f a=aA x:=Option.bind_eq_some_iff.mp h
noncomputable def zi {α β:Type}(f:α->Option β):List α->Option (List β)
 |[]=>aA []
 |a::r=>(f a).bind λb=>(zi f r).bind λbs=>aA (b::bs)
noncomputable def lJ (r:cX)(Γ:Cn)(es:List aI):Option (List De):=zi (λe=>gd (aT e) (r.e Γ e)) es
section
variable {D:DP}{r:cX}{X:Cx}{W:XW}{Γ:Cn}{k:Nat}
theorem jh(h:bQ D r)(C:Ck D W Γ X k):∀{es:List aI}{fs:List De},lJ r Γ es=aA fs->dD X D W es fs
 |[],fs,e=>by cases e;trivial
 |a::es,fs,e=>by
  obtain⟨f,g,e⟩:=aP e;obtain⟨gs,d,e⟩:=aP e;cases e;obtain⟨c,b⟩:=zc g;exact⟨c,h.e C b,jh h C d⟩
theorem j1(h:bQ D r)(C:Ck D W Γ X k):∀{es:List aI}{fs:List Dt},zi (r.t Γ) es=aA fs->K6 X D W es fs
 |[],fs,e=>by cases e;trivial
 |a::es,fs,e=>by
  obtain⟨f,c,e⟩:=aP e;obtain⟨gs,b,e⟩:=aP e;cases e;exact⟨h.t C c,j1 h C b⟩
theorem qO(h:bQ D r)(C:Sk D W Γ X k):∀{es:List bC}{fs:List Ds},zi (r.s Γ) es=aA fs->Zy X D W es fs
 |[],fs,e=>by cases e;trivial
 |a::es,fs,e=>by
  obtain⟨f,c,e⟩:=aP e;obtain⟨gs,b,e⟩:=aP e;cases e;exact⟨h.s C c,qO h C b⟩
end
noncomputable def lI:GM->Bool
 |.none=>aB
 |_=>aC
theorem M5(h:lI g=aB):g=.none:=by cases g<;>first|rfl|cases h
theorem qY{Γ:Cn}(h:lI (Γ.look x)=aB):x∈Γ.G/\Γ.gl x=.none:=j5 (M5 h) (by intro z;cases z)
structure C0 where
 x:aG
 as:List aI
 p0:Pos
 pc:Pos
noncomputable def yz:aI->Option C0
 |.Call (.Name x b) c [] a=>aA ⟨x,c,b,a⟩
 |_=>aE
theorem wG(h:yz e=aA q):e=.Call (.Name q.x q.p0) q.as [] q.pc:=by
 unfold yz at h;split at h
 ·cases h;rfl
 ·cases h
structure HW where
 o:aI
 m:aG
 pa:Pos
 as:List aI
 pc:Pos
noncomputable def xV:aI->Option HW
 |.Call (.Attribute o m b) c [] a=>aA ⟨o,m,b,c,a⟩
 |_=>aE
theorem v7(h:xV e=aA q):e=.Call (.Attribute q.o q.m q.pa) q.as [] q.pc:=by
 unfold xV at h;split at h
 ·cases h;rfl
 ·cases h
structure C1 where
 a:aI
 op:eO
 b:aI
 p:Pos
noncomputable def rD:aI->Option C1
 |.Compare a [op] [b] p=>aA ⟨a,op,b,p⟩
 |_=>aE
theorem Xf(h:rD e=aA q):e=.Compare q.a [q.op] [q.b] q.p:=by
 unfold rD at h;split at h
 ·cases h;rfl
 ·cases h
structure T3 where
 x:aG
 p0:Pos
 a:aI
 ky:aG
 v:aI
 pk:Pos
 pc:Pos
noncomputable def AO:aI->Option T3
 |.Call (.Name x d) [a] [⟨aA e,v,b⟩] c=>aA ⟨x,d,a,e,v,b,c⟩
 |_=>aE
theorem Rg(h:AO e=aA q):e=.Call (.Name q.x q.p0) [q.a] [⟨aA q.ky,q.v,q.pk⟩] q.pc:=by
 unfold AO at h;split at h
 ·cases h;rfl
 ·cases h
structure T2 where
 elt:aI
 tg:aI
 iter:aI
 ifs:List aI
 sc:Scope
 p:Pos
noncomputable def uZ:aI->Option T2
 |.ListComp c [⟨d,a,b,0⟩] e p=>aA ⟨c,d,a,b,e,p⟩
 |_=>aE
theorem xt(h:uZ e=aA q):e=.ListComp q.elt [⟨q.tg,q.iter,q.ifs,0⟩] q.sc q.p:=by
 unfold uZ at h;split at h
 ·cases h;rfl
 ·cases h
noncomputable def UV:aI->Bool
 |.Constant (.bool aB) _ _=>aB
 |_=>aC
noncomputable def YW:aI->Option (aG×Pos)
 |.Name x p=>aA (x,p)
 |_=>aE
theorem uE(h:YW e=aA q):e=.Name q.1 q.2:=by
 unfold YW at h;split at h
 ·cases h;rfl
 ·cases h
noncomputable def rp:aI->Option (aI×aI×Pos)
 |.Subscript a b p=>aA (a,b,p)
 |_=>aE
theorem Y5(h:rp e=aA q):e=.Subscript q.1 q.2.1 q.2.2:=by
 unfold rp at h;split at h
 ·cases h;rfl
 ·cases h
noncomputable def xZ{α:Type}:List α->Option α
 |[a]=>aA a
 |_=>aE
theorem w8{l:List α}(h:xZ l=aA a):l=[a]:=by
 match l with
 |[]=>cases h
 |[b]=>cases h;rfl
 |_::_::_=>cases h
noncomputable def wT{α:Type}:List α->Option (α×α)
 |[a,b]=>aA (a,b)
 |_=>aE
theorem XJ{l:List α}{q:α×α}(h:wT l=aA q):l=[q.1,q.2]:=by
 match l with
 |[]=>cases h
 |[_]=>cases h
 |[b,c]=>cases h;rfl
 |_::_::_::_=>cases h
theorem zF(h:(a&&b)=aB):a=aB/\b=aB:=by
 cases a with
 |true=>exact⟨rfl,h⟩
 |false=>cases h
theorem wC{x:aG}(h:(x==y)=aB):x=y:=beq_iff_eq.mp h
noncomputable def Fy:Const->Option De
 |.int i=>aA (eC (.int i))
 |.bool b=>aA (eC (.bl b))
 |.none=>aA (eC .non)
 |.str x=>aA (eC (.str x))
 |_=>aE
theorem Rh{D:DP}{W:XW}(h:Fy c=aA d):PE X (.Constant c j p) (aW D W d):=by
 cases c with
 |int i=>cases h;exact NN
 |bool i=>cases h;exact MM
 |none=>cases h;exact NI
 |str i=>cases h;exact N_
 |_=>cases h
noncomputable def FF:GM->Option T
 |.cst t=>aA t
 |_=>aE
theorem RB(h:FF g=aA t):g=.cst t:=by cases g<;>first|(cases h;rfl)|cases h
noncomputable def Au (Γ:Cn)(x:aG):Option De:=match cD Γ.N x with
 |some i=>aA (eV i)
 |none=>(FF (Γ.look x)).bind λt=>aA (eC t)
theorem Po{D:DP}{X:Cx}{W:XW}{k:Nat}(C:Ck D W Γ X k){x:aG}{p:Pos}(h:Au Γ x=aA d):PE X (.Name x p) (aW D W d):=by
 unfold Au at h;cases q:cD Γ.N x with
 |some i=>rw[q] at h;cases h;exact GS C q
 |none=>
  rw[q] at h;obtain⟨t,b,h⟩:=aP h;cases h;obtain⟨a,c⟩:=j5 (RB b) (by intro z;cases z);exact NA C a c
noncomputable def B7 (r:cX)(Γ:Cn):List eO->List aI->Option (List (eO×De))
 |[],[]=>aA []
 |op::a,e::es=>gd (kD op) ((r.e Γ e).bind λf=>(B7 r Γ a es).bind λb=>aA ((op,f)::b))
 |_,_=>aE
theorem Uu{r:cX}{W:XW}{Γ:Cn}{k:Nat}(H:bQ D r)(C:Ck D W Γ X k):∀{ops:List eO}{es:List aI}{ps:List (eO×De)},B7 r Γ ops es=aA ps->Ua X D W es ps/\ps.map (·.1)=ops/\ps.all (λp=>kD p.1)=aB
 |[],[],ps,h=>by cases h;exact⟨trivial,rfl,rfl⟩
 |[],_::_,ps,h=>by cases h
 |_::_,[],ps,h=>by cases h
 |op::ops,e::es,ps,h=>by
  obtain⟨d,h⟩:=zc h;obtain⟨f,i,h⟩:=aP h;obtain⟨j,g,h⟩:=aP h;cases h;obtain⟨c,b,a⟩:=Uu H C g;exact⟨⟨H.e C i,c⟩,by simp[b],by simp[d,a]⟩
noncomputable def wP (r:cX)(Γ:Cn)(a:aI)(ops:List eO)(es:List aI):Option De:=(r.e Γ a).bind λf=>(match ops,es with
 |[op],[b]=>gd (jr op b) ((r.e Γ b).bind λg=>aA (zE op f g))
 |_::_::_,_::_::_=>(B7 r Γ ops es).bind λc=>aA (mV f c)
 |_,_=>aE)
theorem Xr{D:DP}{X:Cx}{W:XW}{Γ:Cn}{k:Nat}(H:bQ D r)(C:Ck D W Γ X k){a:aI}{ops:List eO}{es:List aI}{d:De}(h:wP r Γ a ops es=aA d):PE X (.Compare a ops es p) (aW D W d)/\PT X (.Compare a ops es p) (eL D W (tE d)):=by
 obtain⟨f,j,h⟩:=aP h;match ops,es with
 |[op],[b]=>
  obtain⟨o,h⟩:=zc h
  obtain⟨g,i,h⟩:=aP h
  cases h
  exact⟨MS C o (H.e C j) (H.e C i),Kn C o (H.e C j) (H.e C i)⟩
 |op::q::ops,e::t::es=>
  obtain⟨l,i,h⟩:=aP h
  cases h
  obtain⟨n,c,m⟩:=Uu H C i
  match l with
  |[]=>cases c
  |[p1]=>simp at c
  |p1::s::l=>
   simp only[dU,Dg] at c
   obtain⟨rfl,rfl,rfl⟩:=c
   exact⟨SY C m (H.e C j) n,JK C m (H.e C j) n⟩
 |[],es=>cases h
 |[_],[]=>cases h
 |[_],_::_::_=>cases h
 |_::_::_,[]=>cases h
 |_::_::_,[_]=>cases h
noncomputable def BL (r:cX)(Γ:Cn):Option aI->Option Dp
 |none=>aA pN
 |some e=>(r.e Γ e).bind λf=>aA (pS f)
theorem G3{D:DP}{r:cX}{X:Cx}{W:XW}{k:Nat}(H:bQ D r)(C:Ck D W Γ X k){o:Option aI}(h:BL r Γ o=aA d):PO X o (oC D W d):=by
 cases o with
 |none=>cases h;exact Ri
 |some e=>
  obtain⟨f,a,h⟩:=aP h;cases h;exact Rl (H.e C a)
noncomputable def Bi (r:cX)(Γ:Cn)(a b:aI):Option De:=match b with
 |.Slice lo c aE _=>(r.e Γ a).bind λf=>(BL r Γ lo).bind λl=>(BL r Γ c).bind λu=>aA (rW f l u)
 |b=>gd (qB b) ((r.e Γ a).bind λf=>(r.e Γ b).bind λg=>aA (bD f g))
theorem WK{D:DP}{r:cX}{X:Cx}{W:XW}{k:Nat}(H:bQ D r)(C:Ck D W Γ X k){a b:aI}{p:Pos}(h:Bi r Γ a b=aA d):PE X (.Subscript a b p) (aW D W d):=by
 unfold Bi at h;split at h
 ·obtain⟨f,i,h⟩:=aP h;obtain⟨l,c,h⟩:=aP h;obtain⟨u,m,h⟩:=aP h;cases h;exact UK (H.e C i) (G3 H C c) (G3 H C m)
 ·obtain⟨j,h⟩:=zc h;obtain⟨f,i,h⟩:=aP h;obtain⟨g,c,h⟩:=aP h;cases h;exact L4 j C.hK (H.e C i) (H.e C c)
noncomputable def To (op:UnaryOp)(f:De):Option De:=match op with
 |.USub=>aA (ET f)
 |.Not=>aA (Bj f)
 |_=>aE
noncomputable def Mq(r:cX)(Γ:Cn)(op:BoolOp)(p:Pos):List aI->Option De
 |[a]=>r.e Γ a
 |a::b::l=>(r.e Γ a).bind λf=>(r.e Γ (.BoolOp op (b::l) p)).bind λg=>aA (match op with|.And=>u9 f g|.Or=>HS f g)
 |[]=>aE
noncomputable def Gy:ER:=λr d e=>match e with
 |.Constant c _ _=>Fy c
 |.Name x _=>Au d x
 |.BinOp a op b _=>(r.e d a).bind λf=>(r.e d b).bind λg=>aA (zh op f g)
 |.UnaryOp op a _=>(r.e d a).bind λf=>To op f
 |.BoolOp op es p=>Mq r d op p es
 |.Compare a h es _=>wP r d a h es
 |.IfExp c a b _=>(r.t d c).bind λt=>(r.e d a).bind λf=>(r.e d b).bind λg=>aA (oJ t f g)
 |.Attribute a x _=>gd (qg a) ((r.e d a).bind λf=>(d.fld.lookup x).bind λn=>aA (ze f n))
 |.Subscript a b _=>Bi r d a b
 |.List es _=>gd (decide (es.length<=aQ)) ((lJ r d es).bind λfs=>aA (qx fs))
 |.Tuple es _ _=>gd (decide (es.length<=aQ)) ((lJ r d es).bind λfs=>aA (zG fs))
 |_=>aE
theorem UP{D:DP}:cM D Gy:=by
 intro r H X W v k e d C h;cases e with
 |Constant c j p=>exact Rh h
 |Name x p=>exact Po C h
 |BinOp a op b p=>
  obtain⟨f,i,h⟩:=aP h;obtain⟨g,m,h⟩:=aP h;cases h;exact NP (H.e C i) (H.e C m)
 |UnaryOp op a p=>
  obtain⟨f,i,h⟩:=aP h;cases op with
  |USub=>cases h;exact NS (H.e C i)
  |Not=>cases h;exact Ov (H.e C i)
  |_=>cases h
 |BoolOp op es p=>
  match es with
  |[]=>cases h
  |[a]=>exact M4 (H.e C h)
  |a::b::l=>
   obtain⟨f,i,h⟩:=aP h
   obtain⟨g,m,h⟩:=aP h
   cases h
   cases op with
   |And=>exact Nv (H.e C i) (H.e C m)
   |Or=>exact MC (H.e C i) (H.e C m)
 |Compare a q es p=>exact (Xr H C h).1
 |IfExp c a b p=>
  obtain⟨t,u,h⟩:=aP h;obtain⟨f,i,h⟩:=aP h;obtain⟨g,m,h⟩:=aP h;cases h;exact LV (H.t C u) (H.e C i) (H.e C m)
 |Attribute a x p=>
  obtain⟨s,h⟩:=zc h;obtain⟨f,i,h⟩:=aP h;obtain⟨n,m,h⟩:=aP h;cases h;exact Nu C s (cC m) (H.e C i)
 |Subscript a b p=>exact WK H C h
 |List es p=>
  obtain⟨o,h⟩:=zc h;obtain⟨fs,i,h⟩:=aP h;cases h;exact Op (of_decide_eq_true o) (jh H C i)
 |Tuple es w p=>
  obtain⟨o,h⟩:=zc h;obtain⟨fs,i,h⟩:=aP h;cases h;exact Ol (of_decide_eq_true o) (jh H C i)
 |_=>cases h
noncomputable def E6 (c:GM)(fs:List De):Option De:=match c with
 |.fn g=>aA (z8 g fs)
 |.mk c aB g=>aA (rX c g fs)
 |_=>aE
noncomputable def E2:ER:=λr a e=>(yz e).bind λq=>gd ((cD a.N q.x).isNone&&a.calm) ((lJ r a q.as).bind λfs=>E6 (a.look q.x) fs)
theorem OG{D:DP}:cM D E2:=by
 intro r H X W m k e d C h;obtain⟨q,l,h⟩:=aP h;rw[wG l];obtain⟨i,h⟩:=zc h;obtain⟨fs,j,h⟩:=aP h;unfold E6 at h;split at h
 ·rename_i g b;cases h;obtain⟨a,f⟩:=j5 b (by intro z;cases z);exact RD C a f (zF i).2 (jh H C j)
 ·rename_i c g b;cases h;obtain⟨a,f⟩:=j5 b (by intro z;cases z);exact OE C a f (zF i).2 (jh H C j)
 ·cases h
noncomputable def l_ (nm:aG)(op:T->aK->RE T)(cl:Bool):ER:=λr b e=>(yz e).bind λq=>(xZ q.as).bind λa=>gd (q.x==nm) (gd ((cD b.N q.x).isNone&&aT a) (gd (lI (b.look nm)) (gd (!cl || b.calm) ((r.e b a).bind λf=>aA (eZ op f)))))
theorem yA{nm:aG}{op:T->aK->RE T}{cl:Bool}(n:∀{X:Cx}{W:XW}{Γ:Cn}{k:Nat}{a:aI}{f:De}{p0 pos:Pos},Ck D W Γ X k->nm∈Γ.G->Γ.gl nm=.none->(cl=aB->Γ.calm=aB)->aT a=aB->PE X a (aW D W f)->PE X (.Call (.Name nm p0) [a] [] pos) (aW D W (eZ op f))):cM D (l_ nm op cl):=by
 intro r H X W Γ k e d C h;obtain⟨q,m,h⟩:=aP h;obtain⟨a,j,h⟩:=aP h;obtain⟨g,h⟩:=zc h;obtain⟨i,h⟩:=zc h;obtain⟨b,h⟩:=zc h;obtain⟨c,h⟩:=zc h;obtain⟨f,l,h⟩:=aP h;cases h;rw[wG m,w8 j,wC g];exact n C (qY b).1 (qY b).2 (λz=>by rw[z] at c;exact c) (zF i).2 (H.e C l)
noncomputable def FC:ER:=l_ "len" uH aC
theorem P9:cM D FC:=yA λC a c _ b d=>Uj C a c boot_len (by decide) b Mn d
noncomputable def Gm:ER:=l_ "list" Y7 aC
theorem SG:cM D Gm:=yA λC a c _ b d=>By C a c (by decide +kernel) (by decide) b Oj d
noncomputable def Fh:ER:=l_ "all" KO aB
theorem Pq:cM D Fh:=yA λC a c d b e=>Uj C a c boot_all (by decide) b (Lj (C.clm (d rfl))) e
noncomputable def FE:ER:=λr a e=>(yz e).bind λq=>(wT q.as).bind λw=>gd (q.x==("isinstance":aG)) (gd ((cD a.N q.x).isNone&&aT w.1) (gd (lI (a.look "isinstance")) ((r.e a w.1).bind λf=>(Zs a w.2).bind λcs=>aA (wM cs f))))
theorem RN{D:DP}:cM D FE:=by
 intro r H X W m k e d C h;obtain⟨q,l,h⟩:=aP h;obtain⟨w,g,h⟩:=aP h;obtain⟨b,h⟩:=zc h;obtain⟨c,h⟩:=zc h;obtain⟨a,h⟩:=zc h;obtain⟨f,j,h⟩:=aP h;obtain⟨cs,i,h⟩:=aP h;cases h;rw[wG l,XJ g,wC b];exact Nd C (qY a).1 (qY a).2 (zF c).2 i (H.e C j)
noncomputable def rN (nm:aG)(cb:De->De->De):ER:=λr b e=>(xV e).bind λq=>(xZ q.as).bind λa=>gd (q.m==nm) (gd (qg q.o&&aT a) (gd (q.pa.endLine==q.pc.line) ((r.e b q.o).bind λf=>(r.e b a).bind λg=>aA (cb f g))))
theorem KS{D:DP}{nm:aG}{cb:De->De->De}(p:∀{X:Cx}{W:XW}{Γ:Cn}{k:Nat}{o a:aI}{f g:De}{pa pc:Pos},Ck D W Γ X k->qg o=aB->aT a=aB->(pa.endLine==pc.line)=aB->PE X o (aW D W f)->PE X a (aW D W g)->PE X (.Call (.Attribute o nm pa) [a] [] pc) (aW D W (cb f g))):cM D (rN nm cb):=by
 intro r H X W Γ k e d C h;obtain⟨q,n,h⟩:=aP h;obtain⟨a,j,h⟩:=aP h;obtain⟨c,h⟩:=zc h;obtain⟨b,h⟩:=zc h;obtain⟨i,h⟩:=zc h;obtain⟨f,m,h⟩:=aP h;obtain⟨g,l,h⟩:=aP h;cases h;rw[v7 n,w8 j,wC c];exact p C (zF b).1 (zF b).2 i (H.e C m) (H.e C l)
noncomputable def EW:ER:=rN "append" U3
theorem PY:cM D EW:=KS λC b a d c e=>N3 b a d c e
noncomputable def ro (r:cX)(Γ:Cn)(elt tg iter:aI)(ifs:List aI)(sc:Scope)(mk:Nat->List Nat->Tg->Di->List Dt->De->De):Option De:=
 gd (Γ.calm&&Wu Γ.N Γ.cel tg sc&&vA iter&&oz tg iter) ((js Γ.N (frees sc)).bind λfs=>(wZ (z7 tg++frees sc) tg).bind λa=>(r.i Γ iter).bind λfi=>(zi (r.t (inComp Γ tg sc)) ifs).bind λcs=>(r.e (inComp Γ tg sc) elt).bind λfe=>aA (mk (z7 tg).length fs a fi cs fe))
theorem WM{r:cX}{elt tg iter:aI}{ifs:List aI}{sc:Scope}{mk:Nat->List Nat->Tg->Di->List Dt->De->De}(h:ro r Γ elt tg iter ifs sc mk=aA d) :
  ∃fs tgt fi cs fe,Γ.calm=aB/\cQ Γ.N Γ.cel tg sc/\(vA iter=aB/\oz tg iter=aB)/\js Γ.N (frees sc)=aA fs/\wZ (z7 tg++frees sc) tg=aA tgt/\r.i Γ iter=aA fi/\zi (r.t (inComp Γ tg sc)) ifs=aA cs/\r.e (inComp Γ tg sc) elt=aA fe/\d=mk (z7 tg).length fs tgt fi cs fe:=by
 obtain⟨a,h⟩:=zc h;simp only[cB] at a;obtain⟨fs,j,h⟩:=aP h;obtain⟨tgt,g,h⟩:=aP h;obtain⟨fi,f,h⟩:=aP h;obtain⟨cs,c,h⟩:=aP h;obtain⟨fe,b,h⟩:=aP h;cases h;exact⟨fs,tgt,fi,cs,fe,a.1.1.1,W2 a.1.1.2,⟨a.1.2,a.2⟩,j,g,f,c,b,rfl⟩
noncomputable def Gd:ER:=λr a e=>(uZ e).bind λq=>ro r a q.elt q.tg q.iter q.ifs q.sc vz
theorem Sr{D:DP}:cM D Gd:=by
 intro r H X W u k e d C h;obtain⟨q,p,h⟩:=aP h;rw[xt p];obtain⟨fs,c,fi,cs,fe,o,n,b,m,l,j,g,f,rfl⟩:=WM h;exact V0 C (.calm (C.clm o)) n m l (H.i C b.2 j) (λs t a=>H.e a f) (λs t a=>j1 H a g) (ZT b.1)
noncomputable def GK:TR:=λr b e=>match e with
 |.Name _ _=>(r.e b e).bind λf=>aA (tE f)
 |.Call _ _ _ _=>(r.e b e).bind λf=>aA (tE f)
 |.Subscript _ _ _=>(r.e b e).bind λf=>aA (tE f)
 |.Attribute _ _ _=>(r.e b e).bind λf=>aA (tE f)
 |.Compare a c es _=>(wP r b a c es).bind λf=>aA (tE f)
 |.UnaryOp op a _=>(match op with
  |.Not=>(r.t b a).bind λf=>aA (qW f)
  |_=>aE)
 |.BoolOp _ _ _=>r.w b e
 |_=>aE
theorem Sb{D:DP}:r4 D GK:=by
 intro r H X W j k e d C h;cases e with
 |Name x p=>
  obtain⟨f,c,h⟩:=aP h;cases h;exact Xz (H.e C c) λ_=>rfl
 |Call f args i p=>
  obtain⟨f,c,h⟩:=aP h;cases h;exact Xz (H.e C c) λ_=>rfl
 |Subscript a b p=>
  obtain⟨f,c,h⟩:=aP h;cases h;exact Xz (H.e C c) λ_=>rfl
 |Attribute a b p=>
  obtain⟨f,c,h⟩:=aP h;cases h;exact Xz (H.e C c) λ_=>rfl
 |Compare a g es p=>
  obtain⟨f,c,h⟩:=aP h;cases h;exact (Xr H C c).2
 |UnaryOp op a p=>
  cases op with
  |Not=>
   obtain⟨f,c,h⟩:=aP h;cases h;exact N2 (H.t C c)
  |_=>cases h
 |BoolOp op es p=>exact (H.w C h).pt
 |_=>cases h
noncomputable def G2:TR:=λr c e=>match e with
 |.BoolOp op es p=>(match es with
  |[a]=>r.t c a
  |a::b::l=>(r.t c a).bind λf=>(r.w c (.BoolOp op (b::l) p)).bind λg=>aA (match op with|.And=>xm f g|.Or=>fO f g)
  |[]=>aE)
 |_=>aE
theorem YI{D:DP}:HU D G2:=by
 intro r H X W j k e d C h;cases e with
 |BoolOp op es p=>
  match es with
  |[]=>cases h
  |[a]=>
   cases op with
   |And=>exact O8 (H.t C h)
   |Or=>exact Nk (H.t C h)
  |a::b::l=>
   obtain⟨f,i,h⟩:=aP h
   obtain⟨g,c,h⟩:=aP h
   cases h
   cases op with
   |And=>exact MQ (H.t C i) (H.w C c)
   |Or=>exact Mh (H.t C i) (H.w C c)
 |_=>cases h
noncomputable def Fd (r:cX)(Γ:Cn):List aI->Option Di
 |[a]=>(r.e Γ a).bind λf=>aA (Fa f)
 |[a,b]=>(r.e Γ a).bind λf=>(r.e Γ b).bind λg=>aA (Jh f g)
 |_=>aE
noncomputable def GF:IR:=λr a e=>(yz e).bind λq=>gd (q.x==("range":aG)) (gd ((cD a.N q.x).isNone&&q.as.all aT) (gd (lI (a.look "range")) (Fd r a q.as)))
theorem Rm{D:DP}:oS D GF:=by
 intro r H X W n k o e d C p h;obtain⟨q,m,h⟩:=aP h;obtain⟨b,h⟩:=zc h;obtain⟨a,h⟩:=zc h;obtain⟨j,h⟩:=zc h;rw[wG m,wC b];have a:=(zF a).2;obtain⟨b,i⟩:=qY j;generalize q.as=s at h a ⊢;unfold Fd at h;split at h
 ·obtain⟨f,c,h⟩:=aP h;cases h;exact S5 C b i (zF a).1 (H.e C c)
 ·obtain⟨f,c,h⟩:=aP h;obtain⟨g,l,h⟩:=aP h;cases h;exact Yq C b i (zF a).1 (zF (zF a).2).1 (H.e C c) (H.e C l)
 ·cases h
noncomputable def HG:IR:=λr a e=>(r.e a e).bind λf=>aA (iE f)
theorem NY{D:DP}:oS D HG:=by
 intro r H X W b k c e d C g h;obtain⟨f,a,h⟩:=aP h;cases h;exact PZ (H.e C a)
noncomputable def Az:aI->Option (List aI×Pos)
 |.List es p=>aA (es,p)
 |_=>aE
theorem O5(h:Az e=aA q):e=.List q.1 q.2:=by
 unfold Az at h;split at h
 ·cases h;rfl
 ·cases h
noncomputable def GJ:ER:=λr a e=>(Az e).bind λq=>gd (decide (q.1.length<=aQ)) ((lJ r a q.1).bind λfs=>aA (Qy fs))
theorem S9{D:DP}:cM D GJ:=by
 intro r H X W f k e d C h;obtain⟨q,c,h⟩:=aP h;rw[O5 c];obtain⟨a,h⟩:=zc h;obtain⟨fs,b,h⟩:=aP h;cases h;exact NX (of_decide_eq_true a) (jh H C b)
noncomputable def G0:ER:=l_ "list" rA aC
theorem U6:cM D G0:=yA λC a c _ b d=>By C a c (by decide +kernel) (by decide) b L6 d
noncomputable def G9:ER:=λr a e=>(uZ e).bind λq=>ro r a q.elt q.tg q.iter q.ifs q.sc jy
theorem Yv{D:DP}:cM D G9:=by
 intro r H X W u k e d C h;obtain⟨q,p,h⟩:=aP h;rw[xt p];obtain⟨fs,c,fi,cs,fe,o,n,b,m,l,j,g,f,rfl⟩:=WM h;exact Vx C o n m l (H.i C b.2 j) (λs t a=>H.e a f) (λs t a=>j1 H a g) (ZT b.1)
noncomputable def oi (r:cX)(Γ:Cn)(x:aG)(e:aI):Option De:=match Γ.own.contains x with
 |true=>r.o Γ e
 |false=>r.e Γ e
theorem Wt{D:DP}{r:cX}{X:Cx}{W:XW}{Γ:Cn}{k:Nat}(H:bQ D r)(C:Ck D W Γ X k){x:aG}{e:aI}{d:De}(h:oi r Γ x e=aA d):PE X e (aW D W d):=by
 unfold oi at h;cases q:Γ.own.contains x with
 |true=>rw[q] at h;exact H.o C h
 |false=>rw[q] at h;exact H.e C h
noncomputable def fB:aI->Bool
 |.Call _ _ _ _=>aB
 |.Constant _ _ _=>aB
 |_=>aC
theorem YV{e:aI}(h:fB e=aB):(∃f as d p,e=.Call f as d p)\/∃c j p,e=.Constant c j p:=by
 unfold fB at h;split at h
 ·exact .inl ⟨_,_,_,_,rfl⟩
 ·exact .inr ⟨_,_,_,rfl⟩
 ·cases h
theorem Te{e:aI}{l:Nat}{env:Env}(h:fB e=aB):iG e aE l env=pure aC:=by
 rcases YV h with⟨_,_,_,_,rfl⟩|⟨_,_,_,rfl⟩<;>rfl
noncomputable def G1:aI->Bool
 |.ListComp _ _ _ _=>aB
 |.SetComp _ _ _ _=>aB
 |.DictComp _ _ _ _ _=>aB
 |_=>aC
theorem VS{e:aI}{x:aG}{p:Pos}{l:Nat}{env:Env}(h:G1 e=aC):iG e (aA (.Name x p)) l env=pure aC:=by
 cases e<;>first|rfl|cases h
noncomputable def Gz(b:Bool):Nat->List Nat->Tg->Di->List Dt->De->De:=match b with
 |true=>jy
 |false=>vz
noncomputable def A1 (r:cX)(Γ:Cn)(x:aG)(e:aI):Option De:=match uZ e with
 |some q=>ro r Γ q.elt q.tg q.iter q.ifs q.sc (Gz (Γ.own.contains x))
 |none=>gd (!G1 e) (oi r Γ x e)
theorem OQ{D:DP}{r:cX}(H:bQ D r){X:Cx}{W:XW}{Γ:Cn}{k:Nat}{x:aG}{e:aI}{i:Nat}{p pos:Pos}{f:De}(C:Sk D W Γ X k)(y:cD Γ.N x=aA i)(d:ip Γ (.Name x p)=aB)(h:A1 r Γ x e=aA f):PS X (.Assign [.Name x p] e pos) (dJ D W (zt i f)):=by
 unfold A1 at h;cases q:uZ e with
 |none=>
  rw[q] at h;obtain⟨B,h⟩:=zc h;exact Hi C y d (VS (by simpa using B)) (Wt H C.toCk h)
 |some w=>
  rw[q] at h;rw[xt q];obtain⟨fs,a,fi,cs,fe,v,u,m,t,s,z,o,n,rfl⟩:=WM h;have c:=H.i C.toCk m.2 z;have A:Gz (Γ.own.contains x) (z7 w.tg).length fs a fi cs fe=(match Γ.own.contains x with|true=>jy (z7 w.tg).length fs a fi cs fe|false=>vz (z7 w.tg).length fs a fi cs fe):=by cases Γ.own.contains x<;>rfl
  rw[A];have key:∀bb,iG (.ListComp w.elt [⟨w.tg,w.iter,w.ifs,0⟩] w.sc w.p) (aA (.Name x p)) pos.line X.env=pure bb->PS X (.Assign [.Name x p] (.ListComp w.elt [⟨w.tg,w.iter,w.ifs,0⟩] w.sc w.p) pos) (dJ D W (zt i (match Γ.own.contains x with|true=>jy (z7 w.tg).length fs a fi cs fe|false=>vz (z7 w.tg).length fs a fi cs fe))):=λbb g=>by
   cases bb with
   |true=>exact Px C v y d u t s c (λj l b=>H.e b n) (λj l b=>j1 H b o) (ZT m.1) _ g
   |false=>
    refine Hi C y d g ?_;cases Γ.own.contains x with
    |true=>exact Vx C.toCk v u t s c (λj l b=>H.e b n) (λj l b=>j1 H b o) (ZT m.1)
    |false=>exact V0 C.toCk (.calm (C.clm v)) u t s c (λj l b=>H.e b n) (λj l b=>j1 H b o) (ZT m.1)
  exact key _ rfl
noncomputable def E4 (r:cX)(Γ:Cn)(t e:aI):Option Ds:=gd (ip Γ t) (match t with
 |.Name x _=>(cD Γ.N x).bind λi=>(A1 r Γ x e).bind λf=>aA (zt i f)
 |.Tuple es _ _=>gd (Γ.calm&&xg e) ((c3 Γ.N es).bind λa=>(r.e Γ e).bind λf=>aA (ry a f))
 |.Attribute o x _=>(Γ.fld.lookup x).bind λn=>(oi r Γ x e).bind λf=>(r.e Γ o).bind λgo=>aA (qa go n f)
 |.Subscript o b _=>gd (qB b) ((r.e Γ e).bind λf=>(r.e Γ o).bind λgo=>(r.e Γ b).bind λgb=>aA (ES go gb f))
 |_=>aE)
theorem OR{D:DP}{r:cX}(H:bQ D r){X:Cx}{W:XW}{Γ:Cn}{k:Nat}{t e:aI}{pos:Pos}{d:Ds}(C:Sk D W Γ X k)(h:E4 r Γ t e=aA d):PS X (.Assign [t] e pos) (dJ D W d):=by
 obtain⟨b,h⟩:=zc h;split at h
 ·obtain⟨i,l,h⟩:=aP h;obtain⟨f,a,h⟩:=aP h;cases h;exact OQ H C l b a
 ·obtain⟨g,h⟩:=zc h;obtain⟨m,a,h⟩:=aP h;obtain⟨f,c,h⟩:=aP h;cases h;exact Mz C (zF g).1 (zF g).2 a b (H.e C.toCk c)
 ·obtain⟨n,a,h⟩:=aP h;obtain⟨f,c,h⟩:=aP h;obtain⟨go,j,h⟩:=aP h;cases h;exact Nl C (cC a) (Wt H C.toCk c) (H.e C.toCk j)
 ·obtain⟨g,h⟩:=zc h;obtain⟨f,a,h⟩:=aP h;obtain⟨go,c,h⟩:=aP h;obtain⟨gb,j,h⟩:=aP h;cases h;exact Ob C g (H.e C.toCk a) (H.e C.toCk c) (H.e C.toCk j)
 ·cases h
noncomputable def rz:bC->Option aI
 |.Raise (aA e) aE _=>aA e
 |_=>aE
theorem Xd{s:bC}{e:aI}(h:rz s=aA e):∃p,s=.Raise (aA e) aE p:=by
 unfold rz at h;split at h
 ·cases h;exact⟨_,rfl⟩
 ·cases h
noncomputable def Fo:GM->Option Nat
 |.xcl c=>aA c
 |_=>aE
theorem RP{g:GM}{c:Nat}(h:Fo g=aA c):g=.xcl c:=by cases g<;>first|(cases h;rfl)|cases h
noncomputable def Go:SR:=λr b s=>(rz s).bind λe=>(yz e).bind λq=>gd (b.calm&&(cD b.N q.x).isNone) (match q.as with
 |[]=>aE
 |a::d=>(lJ r b (a::d)).bind λfs=>(Fo (b.look q.x)).bind λc=>aA (zU c fs))
theorem R5{D:DP}:m3 D Go:=by
 intro r H X W p k e d C h;obtain⟨t,o,h⟩:=aP h;obtain⟨q,m,h⟩:=aP h;obtain⟨s,j⟩:=Xd o;rw[j,wG m];obtain⟨l,h⟩:=zc h;generalize q.as=b at h ⊢;cases b with
 |nil=>cases h
 |cons a b=>
  obtain⟨fs,n,h⟩:=aP h;obtain⟨c,g,h⟩:=aP h;cases h;obtain⟨f,i⟩:=j5 (RP g) (by intro z;cases z);exact UY C (zF l).1 f i (jh H C.toCk n)
noncomputable def hZ:aI->Option aG
 |.Name x _=>aA x
 |_=>aE
theorem Wz{e:aI}{x:aG}(h:hZ e=aA x):∃p,e=.Name x p:=by
 unfold hZ at h;split at h
 ·cases h;exact⟨_,rfl⟩
 ·cases h
noncomputable def Fu (Γ:Cn)(x:aG):Option Nat:=gd ((cD Γ.N x).isNone&&Γ.G.contains x&&(match Γ.gl x with|.xcl c=>Γ.cls.lookup x==aA c&&Nat.blt c 40|.xcf c _=>Γ.cls.lookup x==aA c&&Nat.blt c 40|_=>aC)) (Γ.cls.lookup x)
theorem OD{Γ:Cn}{x:aG}{c:Nat}(h:Fu Γ x=aA c):gJ Γ x c:=by
 obtain⟨d,g⟩:=zc h;simp only[cB] at d;refine⟨by simpa using d.1.2,cC g,?_⟩;have a:=d.2;rw[g] at a;cases b:Γ.gl x with
 |xcl e=>
  simp only[b,cB] at a;have:c=e:=bP (beq_iff_eq.mp a.1);rw[this];exact⟨.inr rfl,Nat.blt_eq.mp a.2⟩
 |xcf e f=>
  simp only[b,cB] at a;have:c=e:=bP (beq_iff_eq.mp a.1);rw[this];exact⟨.inl ⟨f,rfl⟩,Nat.blt_eq.mp a.2⟩
 |_=>rw[b] at a;cases a
noncomputable def BX (Γ:Cn)(t:aI):Option (List Nat):=(hZ t).bind λx=>(Fu Γ x).bind λc=>aA [c]
theorem GR{Γ:Cn}{t:aI}{cs:List Nat}(h:BX Γ t=aA cs):wp Γ t cs/\((hZ t).isSome=aB->∃x p c,t=.Name x p/\cs=[c]/\gJ Γ x c):=by
 obtain⟨x,q,h⟩:=aP h;obtain⟨c,b,h⟩:=aP h;cases h;obtain⟨p,rfl⟩:=Wz q;have a:=OD b;exact⟨⟨x,p,c,rfl,rfl,a⟩,λ_=>⟨x,p,c,rfl,rfl,a⟩⟩
noncomputable def rT (r:cX)(Γ:Cn):iW->Option (List Nat×Option Nat×List Ds)
 |.ExceptHandler t nm a _=>t.bind λt=>gd (!a.isEmpty&&(nm.isNone || (hZ t).isSome)) ((BX Γ t).bind λcs=>(zi (r.s {Γ with calm:=aC,qt:=aC}) a).bind λb=>(match nm with
   |none=>aA (cs,aE,b)
   |some e=>gd (!Γ.cel.contains e) ((cD Γ.N e).bind λj=>aA (cs,aA j,b))))
theorem Hf{D:DP}{X:Cx}{a:List bC}{vs:List Ds}{i:Option Nat}(h:Zy X D iM a vs):f8 X a (BJ D X.A i (qe vs)):=λb s e H E I ⟨c,g,d,f,j,k,_,p⟩=>wI h b s e H E I ⟨c,g,d,f,j,k,p⟩
theorem Ht{D:DP}{r:cX}(H:bQ D r){Γ:Cn}{k:Nat}:∀{hs:List iW}{gs:List (List Nat×Option Nat×List Ds)},zi (rT r Γ) hs=aA gs->j_ D Γ k hs gs
 |[],gs,h=>by cases h;trivial
 |.ExceptHandler t nm a p::hs,gs,h=>by
  obtain⟨g,C,w⟩:=aP h;obtain⟨E,B,v⟩:=aP w;cases v;have i:=Ht (k:=k) H B;obtain⟨I,b,u⟩:=aP C;subst b;obtain⟨c,s⟩:=zc u;obtain⟨cs,A,q⟩:=aP s;obtain⟨G,l,f⟩:=aP q;simp only[cB,nQ] at c;obtain⟨m,x⟩:=GR A;cases a with
  |nil=>simp at c
  |cons J a=>
   cases nm with
   |none=>
    cases f;exact⟨⟨_,_,_,_,_,_,_,_,rfl,rfl,m,.inl rfl,trivial,λF d=>Hf (qO H d l)⟩,i⟩
   |some e=>
    obtain⟨z,o⟩:=zc f;obtain⟨j,y,n⟩:=aP o;cases n;exact⟨⟨_,_,_,_,_,_,_,_,rfl,rfl,m,.inr (x (c.2.resolve_left (by simp))),⟨y,by simpa using z⟩,λF d=>Hf (qO H d l)⟩,i⟩
noncomputable def Uz:SR:=λr d s=>match s with
 |.Return o _=>(match o with
  |some e=>(oi r d "return" e).bind λf=>aA (zq f)
  |none=>aA UR)
 |.Expr e _=>gd (fB e) ((r.e d e).bind λf=>aA (zS f))
 |.If c a b _=>(r.t d c).bind λt=>(zi (r.s d) a).bind λj=>(zi (r.s d) b).bind λh=>aA (bM t j h)
 |.Assign n e _=>(xZ n).bind λt=>E4 r d t e
 |.For l it b g _=>gd (d.calm&&vA it) (gd (g.isEmpty&&oz l it) (gd (ip d l) ((wZ d.N l).bind λk=>(r.i d it).bind λfi=>(zi (r.s d) b).bind λh=>aA (Jr k fi h))))
 |.While c b g _=>gd g.isEmpty ((r.t d c).bind λt=>(zi (r.s d) b).bind λh=>aA (WE t h))
 |.Try b m g fin _=>gd (d.calm&&g.isEmpty) (gd (fin.isEmpty&&!m.isEmpty) ((zi (r.s d) b).bind λj=>(zi (rT r d) m).bind λgs=>aA (om j gs)))
 |_=>aE
theorem YC{D:DP}:m3 D Uz:=by
 intro r H X W A k e d C h;cases e with
 |Return o p=>
  cases o with
  |none=>cases h;exact PQ
  |some e=>
   obtain⟨f,g,h⟩:=aP h;cases h;exact Om (Wt H C.toCk g)
 |Expr e p=>
  obtain⟨n,h⟩:=zc h;obtain⟨f,g,h⟩:=aP h;cases h;exact OC (Te n) (H.e C.toCk g)
 |If c a b p=>
  obtain⟨t,g,h⟩:=aP h;obtain⟨v,l,h⟩:=aP h;obtain⟨s,j,h⟩:=aP h;cases h;exact L1 (H.t C.toCk g) (qO H C l) (qO H C j)
 |Assign B e p=>
  obtain⟨t,g,h⟩:=aP h;rw[w8 g];exact OR H C h
 |For E it b m p=>
  obtain⟨g,h⟩:=zc h;obtain⟨l,h⟩:=zc h;obtain⟨j,h⟩:=zc h;obtain⟨w,q,h⟩:=aP h;obtain⟨fi,y,h⟩:=aP h;obtain⟨s,x,h⟩:=aP h;cases h;rw[l5.mp (zF l).1];exact Oe C (zF g).1 q j (H.i C.toCk (zF l).2 y) (qO H C x) (ZT (zF g).2)
 |While c b m p=>
  obtain⟨n,h⟩:=zc h;obtain⟨t,g,h⟩:=aP h;obtain⟨s,j,h⟩:=aP h;cases h;rw[l5.mp n];exact RZ C (H.t C.toCk g) (qO H C j)
 |Try b u m fin p=>
  obtain⟨g,h⟩:=zc h;obtain⟨l,h⟩:=zc h;obtain⟨v,j,h⟩:=aP h;obtain⟨gs,q,h⟩:=aP h;cases h;rw[l5.mp (zF g).2,l5.mp (zF l).1];cases u with
  |nil=>cases (zF l).2
  |cons F u=>exact Hh C (zF g).1 (λG I z=>qO H z j) (Ht H q)
 |_=>cases h
structure fC(D:DP)(P:Program)(w:World)(K:PySem.W.Frag)(mg:aG->Option aD)(base:aV)(Γ:Cn)(k:Nat):Prop where
 hK:K=D.K
 glo:∀x∈Γ.U,cE D P w K mg base k x (Γ.gl x)/\(x==("__debug__":aG))=aC
 isi:∀t x c,(x,c)∈Γ.cls->∀u v,Jy D t u->Zk mg x v->pI K u v=aA (vZ t c)
 fld:∀c C x f,D.cad c=aA C->(x,f)∈Γ.fld->D.fn f=aA x/\gL K C/\cL K C x
 xcx:∀c C,D.adr c=aA C->iu K C
 ocx:∀c C,D.cad c=aA C->mq K C
 clv:∀x c,(x,c)∈Γ.cls->∃u v,Zk mg x u/\gK v u
 xmt:∀t x c,(x,c)∈Γ.cls->c<40->∀Ct Cc,D.adr t=aA Ct->mg x=aA (.ref Cc)->nE K (.ref Ct) (.ref Cc)=aA (vZ t c)
noncomputable def jH(Γ:Cn)(ps:List aG)(sc:Scope):Bool:=
 (sc.kind==.function)&&!sc.isCoroutine&&!sc.isGenerator&&decide (Γ.N.Nodup)&&(Γ.N.take ps.length==ps)&&sc.names.all (λy=>y.2 != .free)&&
 Γ.N.all (λx=>x != ("__debug__":aG)&&x != ("__classdict__":aG)&&(if Γ.cel.contains x then sc.names.lookup x==aA .cell else sc.names.lookup x==aA .local))&&
 Γ.G.all (λx=>Γ.U.contains x&&sc.names.lookup x==aA .globalImplicit)&&Γ.cel.all (λx=>Γ.N.contains x)&&Γ.calm
theorem jO{X:Cx}{W:XW}{e:aD}{s:a9}(p:XP X W e s):X.A.frames=aA X.stack:=by
 obtain⟨_,_,_,_,_,_,_,_,I,_⟩:=p;exact I.ok.frames
theorem Xs:∀(ts:List T) (n:Nat),oj ts n=ts.map aA++ly n aE
 |[],n=>by
  have:∀n,BN n=ly n aE:=λn=>by
   induction n with
   |zero=>rfl
   |succ n a=>show aE::BN n=_;rw[a];rfl
  exact this n
 |t::r,n=>by show aA t::oj r n=_;rw[Xs r n];rfl
section
variable {D:DP}{P:Program}{w:World}{K:PySem.W.Frag}{mg:aG->Option aD}{base:aV}{Γ:Cn}{k n:Nat}
theorem uO{φ α:List aF}{H:Hp}{N:List aG}{ts:List T}{vs:List V}(d:aN D φ α H ts vs):aZ D φ α H (oj ts (N.length-ts.length)) (L2.start N vs):=by
 have b:=d.length;rw[Xs];refine⟨by simp[L2.start,b],λi t e=>?_⟩;by_cases a:i<ts.length
 ·rw[dN (by simpa using a),eE] at e;cases q:ts[i]? with
  |none=>rw[q] at e;cases e
  |some c=>
   rw[q] at e;have e:aA (aA c)=aA (aA t):=e;cases e;obtain⟨v,f,dv⟩:=d.get q;refine⟨v,?_,dv⟩;unfold L2.start;rw[dN (by rw[cJ,←b];exact a),eE,f];rfl
 ·rw[fA (by simpa using a),pW] at e;split at e<;>cases e
noncomputable def gC (X:Cx)(f:aG->Bool):Cx:={X with fn:=f}
theorem Nt{X:Cx}{f g:aG->Bool}(a:∀x,f x=aB->g x=aB)(ok:(gC X g).Ok):(gC X f).Ok:=⟨ok.mod,ok.kind,ok.glob,ok.blt,ok.above,ok.inj,ok.has,λx c e=>ok.cab x c (a x e),ok.hd,ok.frames,ok.stk,ok.exf,ok.bs,ok.bsz,ok.noex,ok.exfs,ok.funs,ok.frf⟩
theorem ur{X:Cx}{f g:aG->Bool}{a:List (aF×bA)}{b:St}{H:Hp}{s:a9}(d:∀x,f x=aB->g x=aB)(I:Inv (gC X g) a b H s):Inv (gC X f) a b H s:=
 ⟨Nt d I.ok,I.os,I.bare,I.base,I.loc,I.cell,I.free,λx c e=>(I.freeC x c e).imp id λz=>⟨DZ.mpr λq=>Bool.noConfusion ((d x q).symm.trans (show g x=aC from z.1)),z.2⟩,I.pin,I.hok,I.len⟩
theorem NU{X:Cx}{f g:aG->Bool}{W:XW}{e:aD}{s:a9}(l:∀x,f x=aB->g x=aB)(p:XP (gC X g) W e s):XP (gC X f) W e s:=by
 obtain⟨x,cls,d,h,H,T,fl,a,I,b,c,r,j,i⟩:=p;exact⟨x,cls,d,h,H,T,fl,a,ur l I,⟨b.free,b.loc,b.nfs,b.new,b.cel,b.pin⟩,λt k=>let b:=c t k;⟨b.free,b.loc,b.nfs,b.new,b.cel,b.pin⟩,r,j,i⟩
theorem Kb{X:Cx}{f g:aG->Bool}{a:List (aF×bA)}{E:Ends}{fl:Flow}{s:a9}(e:∀x,f x=aB->g x=aB)(h:SP (gC X g) a E fl s):SP (gC X f) a E fl s:=by
 cases fl with
 |ret v=>obtain⟨v,b,d,c,r⟩:=h;exact⟨v,b,d,ur e c,r⟩
 |_=>obtain⟨b,d,c,r⟩:=h;exact⟨b,d,ur e c,r⟩
theorem XS{D:DP}{W:XW}{X:Cx}{f:aG->Bool}{y:List bC}{c:List Ds}(h2:Zy (gC X f) D W y c):∀{b1:List bC}{ds1:List Ds},Zy (gC X λ_=>aB) D W b1 ds1->
  ∀(a:List (aF×bA)) (s:a9) (d:St) (H:Hp) (E:Ends),Inv (gC X λ_=>aB) a d H s->dJ D W (qe (ds1++c)) E d H->wpAny (aR X.prog X.w) X.A (execs (b1++y) X.env) (SP (gC X f) a E) X.xe s
 |[],[],_,a,s,d,H,E,I,q=>wI h2 a s d H E (ur (λ_ _=>rfl) I) q
 |st::r,u::G,h,a,s,d,H,E,I,q=>by
  obtain⟨n,F,B,C,J,M,Q,q,N,x,t,p,o⟩:=q;refine wpAny_execs_cons (aX (h.1 a s d H {E with nx:=λb g=>dJ D W (qe (G++c)) E b g} I ⟨n,F,B,C,J,M,_,q,λi j e k g b st m l=>?_,x,t,p,o⟩) λfl K z=>?_)
  ·exact⟨n,k,i,j,l,m,aL.step ⟨Q,e,N,x,t,p,o⟩ st⟩
  ·cases fl with
   |next=>
    obtain⟨b,g,O,L⟩:=z;exact XS h2 h.2 a K b g E O L
   |ret v=>exact Kb (fl:=.ret v) (E:=E) (λ_ _=>rfl) z
   |brk=>exact Kb (fl:=.brk) (E:=E) (λ_ _=>rfl) z
   |cont=>exact Kb (fl:=.cont) (E:=E) (λ_ _=>rfl) z
 |[],_::_,h,_,_,_,_,_,_,_=>h.elim
 |_::_,[],h,_,_,_,_,_,_,_=>h.elim
theorem VF{R:cR}(HR:bY D R){f:aF}{name qual:aG}{params:Arguments}{body b1 b2:List bC}{scope:Scope}{dV kV doc pm g ct oc:aD}{an od:Option aF}{osl:Array (Option aD)}{ps:List aG}{m:Nat}{ds1 L:List Ds}
    (M:fC D P w K mg base Γ k) (lk:K.lookup f=aA ⟨oc,od,.func (fM name qual params body scope dV kV doc pm an g ct),osl⟩) (hcd:eT K g qual=aB) (hs:jH Γ ps scope=aB) (hm:Γ.N.length=ps.length+m) (hbo:body=b1++b2) (hd1:zi ((aU R n).s {Γ with fz:=[]}) b1=aA ds1) (hds:zi ((aU R n).s Γ) b2=aA L) (O:cS D mg base g (qual++".<locals>.") k Γ.lam Γ.lnm:=by exact cS.no rfl) :
    bL P w K mg base (cW P w) (k+1) f (fM name qual params body scope dV kV doc pm an g ct) ps (dW D ps.length (bH ps.length m (ds1++L))):=by
  subst hbo;simp only[jH,cB,fT,beq_iff_eq,l9,decide_eq_true_eq,bne_iff_ne,ne_eq] at hs;obtain⟨⟨⟨⟨⟨⟨⟨⟨⟨h1,h2⟩,h3⟩,h4⟩,h5⟩,h6⟩,h7⟩,h8⟩,h9⟩,h10⟩:=hs;have G:∀x∈Γ.N,(Γ.cel.contains x=aB/\scope.names.lookup x=aA .cell)\/(Γ.cel.contains x=aC/\scope.names.lookup x=aA .local):=λx a=>by
    have q:=(h7 x a).2;cases V:Γ.cel.contains x with
    |true=>rw[V,if_pos rfl] at q;exact .inl ⟨rfl,beq_iff_eq.mp q⟩
    |false=>rw[V] at q;exact .inr ⟨rfl,beq_iff_eq.mp q⟩
  have C:∀x∈Γ.N,scope.names.lookup x=aA .local\/scope.names.lookup x=aA .cell:=λx a=>(G x a).elim (λz=>.inr z.2) λz=>.inl z.2;have S:c_ Γ.N ps scope:=⟨h1,h2,h3,h4,h5,λx a=>C x (by rw[←h5] at a;exact ra a),h6⟩;refine GA (fnb:=λx=>!Γ.fz.contains x) lk hcd S (λvs H Q E q=>q.1) λA j s H vs Q E hr hsp o=>?_;obtain⟨hl,φ,α,ts,μ,d,mr,K0,Z0,⟨hle,q⟩,T,hz0⟩:=hsp;generalize I:Jw (cW P w) P w K mg base Γ.N qual scope f g A j s H E (λx=>!Γ.fz.contains x)=X;have F:iR X (fQ qual scope s.heap.objs.size f g) j s.heap.objs.size:=by rw[←I];exact⟨rfl,rfl,rfl⟩
  have U:X.fn=λx=>!Γ.fz.contains x:=by rw[←I];rfl
  have CK:∀(l:List aG),(∀x∈l,x∈Γ.fz)->Sk D (eW E) {Γ with fz:=l} (gC (X.wish (XP X (eW E))) λx=>!l.contains x || !Γ.fz.contains x) k:=λl hl'=>by
    have xe:∀e s,XP (gC (X.wish (XP X (eW E))) λx=>!l.contains x || !Γ.fz.contains x) (eW E) e s->XP X (eW E) e s:=λe s p=>by
      have p2:XP (gC (X.wish (XP X (eW E))) λx=>!Γ.fz.contains x) (eW E) e s:=NU (λx a=>by rw[a,sG]) p;exact jT (show XP (X.wish (XP X (eW E))) (eW E) e s by rw[←U] at p2;exact p2)
    have pso:nt (aR X.prog X.w) X.A X.env (XP X (eW E)):=λe s p=>ye F (jO p) e s p;subst I
    exact { hK := M.hK,hN := rfl,nd := h4,vis := fun x a => (C x a).elim .inl fun z => .inr (.inl z),dbg := fun x a => ⟨beq_eq_false_iff_ne.mpr (h7 x a).1.1,beq_eq_false_iff_ne.mpr (h7 x a).1.2⟩,
            dbG:=λx a=>(M.glo x (by simpa using (h8 x a).1)).2,glb:=λx a=>(h8 x a).2,glo:=λx a=>(M.glo x (by simpa using (h8 x a).1)).1,glU:=M.glo,
            cel:=λx a=>.inl ((G x (by simpa using h9 x a)).elim (λz=>z.2) λz=>by have:=z.1;rw[hY.mpr a] at this;cases this),
            isi:=M.isi,fld:=M.fld,xcx:=M.xcx,ocx:=M.ocx,clv:=M.clv,clm:=λ_=>rfl,qt:=(λ_ h e=>absurd (hr.hd.symm.trans e) (by simp)),rom:=λ_=>hr,rmh:=⟨hr.dp,hr.un⟩,xe:=xe,frm:=⟨_,_,_,F.stk,F.f0,F.fe⟩,lam:=O,kfz:=λ_ x a=>⟨by show (!l.contains x || !Γ.fz.contains x)=aC;rw[hY.mpr a,hY.mpr (hl' x a)];rfl,λc e=>(o x c e).1⟩,
            sto:=λx a=>by
              obtain⟨z1,z2⟩:=fS.mp a;exact⟨C x z1,.inl (by show (!l.contains x || _)=aB;rw[show (!l.contains x)=aB from z2];rfl)⟩,lcl:=λx a V=>(G x a).elim (λz=>by rw[z.1] at V;cases V) λz=>z.2,pso:=pso,xmt:=M.xmt}
  have B:f8 X (b1++b2) (λE1 r Y=>(∀y c,X.env.cells.lookup y=aA c->X.s₀.heap.objs.size<=c/\Y c=aE)/\dJ D (eW E) (qe (ds1++L)) E1 r Y):=λu s1 r Y E1 I1 ⟨hf,q⟩=>by
    have I2:Inv (gC (X.wish (XP X (eW E))) λ_=>aB) u r Y s1:=by
      have J:=I1.wish (XP X (eW E));subst I;exact⟨⟨J.ok.mod,J.ok.kind,J.ok.glob,J.ok.blt,J.ok.above,J.ok.inj,J.ok.has,λx c _ e=>(hf x c e).1,J.ok.hd,J.ok.frames,J.ok.stk,J.ok.exf,J.ok.bs,J.ok.bsz,J.ok.noex,J.ok.exfs,J.ok.funs,J.ok.frf⟩,J.os,J.bare,J.base,J.loc,J.cell,J.free,λx c e=>.inl (hf x c e).2,J.pin,J.hok,J.len⟩
    have C1:=qO (wq HR n) (CK [] (by simp)) hd1;have C2:=qO (wq HR n) (CK Γ.fz λ_ h=>h) hds;have e1:(λx=>!([]:List aG).contains x || !Γ.fz.contains x)=λ_=>aB:=by funext x;rfl
    have e2:(λx=>!Γ.fz.contains x || !Γ.fz.contains x)=X.fn:=by rw[U];funext x;exact Bool.or_self _
    rw[e1] at C1;rw[e2] at C2;refine dO (XS (X:=X.wish (XP X (eW E))) C2 C1 u s1 r Y E1 I2 q) (λf s' q=>SP.unwish q) λe s' p=>?_;have p:XP X (eW E) e s':=p;have:=Jp (M:=aR X.prog X.w) (F2:=λe' s''=>cW X.prog X.w X.outer X.H₀ X.s₀ E e' s'') F (jO p) (by rw[←I];rfl) p;subst I;exact this
  have hmm:Γ.N.length-ts.length=m:=by omega
  refine⟨_,B,by rw[←I];exact o,φ,α,_,μ,uO d,mr,{nx:=λ_ b=>K0 .non b,rt:=K0,bk:=λ_ _=>False,ct:=λ_ _=>False,ex:=λc fs _ b=>Z0 c fs b},by rw[hmm];exact q,λ_ b z i Z σ' st m _=>T _ _ z i Z st m .non rfl,λ_ _ z=>z.elim,λ_ _ z=>z.elim,λt b z i Z v st m dv=>T _ _ z i Z st m v dv,λc fs _ b z i Z σ' C1 dd st m _ ad xd=>hz0 c fs b z i Z C1 dd st m ad xd⟩
theorem j6{R:cR}(l:bY D R){f:aF}{name qual:aG}{params:Arguments}{body:List bC}{scope:Scope}{h kV doc g a ct i:aD}{an od:Option aF}{c:Array (Option aD)}{ps:List aG}{m:Nat}{ds:List Ds}
  (M:fC D P w K mg base Γ k) (lk:K.lookup f=aA ⟨i,od,.func (fM name qual params body scope h kV doc g an a ct),c⟩) (e:eT K a qual=aB) (hs:jH Γ ps scope=aB) (j:Γ.N.length=ps.length+m) (d:zi ((aU R n).s Γ) body=aA ds) (b:cS D mg base a (qual++".<locals>.") k Γ.lam Γ.lnm:=by exact cS.no rfl) :
  bL P w K mg base (cW P w) (k+1) f (fM name qual params body scope h kV doc g an a ct) ps (dW D ps.length (bH ps.length m ds)):=VF (b1:=[]) (ds1:=[]) l M lk e hs j rfl rfl d b
theorem qC{n m:Nat}{ds:List Ds}:∀ts μ K Z,bH n m ds ts μ K Z->ts.length=n:=λ_ _ _ _ h=>h.1
end
noncomputable def K_:bJ->Bool
 |[]=>aB
 |p::r=>(match p.2.cls with|.type t=>t != "list" | _=>aB)&&K_ r
theorem XQ:∀{K:bJ}{a:aF}{o:bA},K_ K=aB->K.lookup a=aA o->o.cls≠.type "list"
 |[],_,_,_,h=>by cases h
 |(b,p)::r,a,o,c,h=>by
  simp only[K_,cB] at c;rw[gB] at h;cases q:a==b with
  |true=>
   rw[q] at h;cases h;intro e;have d:=c.1;rw[e] at d;exact absurd d (by decide)
  |false=>rw[q] at h;exact XQ c.2 h
theorem Wd:∀(ns:List Int),aN D φ α H (ns.map T.int) (ns.map V.int)
 |[]=>rfl
 |n::r=>⟨.int n,r.map V.int,rfl,rfl,Wd r⟩
noncomputable def gZ:List aG:=["moments","houses","counts","start","turns","holder","lease","until","is_cut","shape","grants","house","begin","end","ahead","stride","keeper","mark","newest","batches","has_fallen","clock","kept","common","given","now","seats","world","line","by"]
theorem NJ:gZ.Nodup:=by decide +kernel
structure iA where
 xs:List (Nat×aF)
 cs:List (Nat×aF)
noncomputable def md (K:bJ)(A:iA)(clo:Nat->aF->Option HO->List V->Prop)(tabs:Nat->Option (aF×List Pos×aG):=λ_=>aE):DP:=⟨K,λc=>A.xs.lookup c,λc=>A.cs.lookup c,λi=>gZ[i]?,λi j x b a=>vi NJ b a,clo,tabs⟩
noncomputable def cn (cls fld:List (aG×Nat)) (gs:List (aG×GM)) (N G cel own:List aG) (lam:Option (Nat×List Pos):=aE) (lnm:aG:="<lambda>"):Cn where
 N:=N
 G:=G
 calm:=aB
 gl:=λx=>(gs.lookup x).getD .bad
 cls:=cls
 fld:=fld
 U:=gs.map (·.1)
 cel:=cel
 own:=own
 lam:=lam
 lnm:=lnm
noncomputable def BF(A:iA):List (Nat×aD):=[(0,.type "NoneType"),(1,.type "bool"),(2,.type "int"),(3,.type "str"),(4,.type "tuple"),(5,.type "list"),(6,.type "dict")]++(A.xs.map λp=>(p.1,cN p.2))++A.cs.map λp=>(p.1,cN p.2)
noncomputable def Bs(K:bJ)(c:aG):Option aD:=match mF K bO c with
 |some (aA v)=>aA v
 |some aE=>if c==("__name__":aG) then aE else hS c
 |none=>aE
noncomputable def MF:aD->Bool
 |.ref _=>aB
 |.type _=>aB
 |_=>aC
noncomputable def mT(o:Option (Option aD))(s:String):Bool:=match o with
 |some (aA (.builtin x))=>x==s
 |_=>aC
theorem ZY(h:mT o s=aB):o=aA (aA (.builtin s)):=by
 unfold mT at h;split at h
 ·rw[beq_iff_eq.mp h]
 ·cases h
noncomputable def UJ(o:Option (Option aD)):Bool:=match o with
 |some aE=>aB
 |_=>aC
theorem Vr(h:UJ o=aB):o=aA aE:=by
 unfold UJ at h;split at h
 ·rfl
 ·cases h
noncomputable def iO(o:Option Bool)(b:Bool):Bool:=match o with|some c=>c==b|none=>aC
theorem kq(h:iO o b=aB):o=aA b:=by
 cases o with
 |none=>cases h
 |some c=>have:(c==b)=aB:=h;rw[beq_iff_eq.mp this]
noncomputable def rG (K:bJ)(C:aF):Bool:=mT (cO K (.ref C) "__class__") "object.__class__"&&mT (lX K (.builtin "object.__class__") "__get__") "getset_descriptor.__get__"&&iO (pP K (.builtin "object.__class__")) aB&&iO (gN K C (.type "object")) aB
noncomputable def Gf(K:bJ)(C:aF):Bool:=rG K C&&mT (cO K (.ref C) "__getattribute__") "BaseException.__getattribute__"&&UJ (cO K (.ref C) "__getattr__")&&iO (gN K C (.type "BaseException")) aB&&(iO (gN K C (.type "KeyError")) aC&&iO (gN K C (.type "ZeroDivisionError")) aC)&&(lQ K C).isSome
noncomputable def Br(K:bJ)(C:aF):Bool:=rG K C&&nU K C lS&&lr K C&&tG K C&&mT (cO K (.ref C) "__setattr__") "object.__setattr__"
noncomputable def mY (K:bJ)(A:iA)(cls fld:List (aG×Nat)):Bool:=
 cls.all (λp=>match Bs K p.1 with
  |some v=>MF v&&(BF A).all (λq=>iO (pI K q.2 v) (vZ q.1 p.2))&&(oX 40 p.2 || (match v with|.ref C=>A.xs.all (λq=>iO (nE K (.ref q.2) (.ref C)) (vZ q.1 p.2))|_=>aB))
  |none=>aC)&&
 A.xs.all (λq=>Gf K q.2)&&A.cs.all (λq=>Br K q.2&&fld.all (λp=>UJ (cO K (.ref q.2) p.1)))&&fld.all (λp=>match gZ[p.2]? with|some x=>x==p.1|none=>aC)
theorem Q7{K:bJ}(X:K.In h)(G:h.Ns bO mg)(e:Bs K c=aA v):Zk mg c v/\∀u,Zk mg c u->u=v:=by
 unfold Bs at e;split at e
 ·rename_i b q;cases e;have m:=dG X G q;refine⟨.inl m,λu z=>?_⟩;rcases z with z|⟨z,_⟩
  ·rw[m] at z;cases z;rfl
  ·rw[m] at z;cases z
 ·rename_i q;have m:=Ec X G q;split at e
  ·cases e
  ·rename_i a;refine⟨.inr ⟨m,e,λz=>a (by rw[z];rfl)⟩,λu z=>?_⟩;rcases z with z|⟨_,z,_⟩
   ·rw[m] at z;cases z
   ·rw[e] at z;cases z;rfl
 ·cases e
theorem qL{α β:Type}[BEq α][LawfulBEq α]{x:α}{v:β}:∀{l:List (α×β)},l.lookup x=aA v->(x,v)∈l
 |[],h=>by cases h
 |(y,w)::r,h=>by
  rw[gB] at h;cases q:x==y with
  |true=>rw[q] at h;cases h;rw[beq_iff_eq.mp q];exact eU
  |false=>rw[q] at h;exact d9 _ (qL h)
theorem eB{α:Type}:∀{l:List (aG×α)},x∈l.map (·.1)->∃v,l.lookup x=aA v
 |[],h=>by simp at h
 |(y,w)::r,h=>by
  rw[gB];cases q:x==y with
  |true=>exact⟨w,rfl⟩
  |false=>
   rcases cA.mp h with z|z
   ·have z:x=y:=z;rw[z] at q;simp at q
   ·exact eB z
section
variable {P:Program}{w:World}{K:PySem.W.Frag}{mg:aG->Option aD}{base:aV}{A:iA}{clo:Nat->aF->Option HO->List V->Prop}{cls fld:List (aG×Nat)}{gs:List (aG×GM)}{N G cel own:List aG}{k:Nat}{lam:Option (Nat×List Pos)}{tabs:Nat->Option (aF×List Pos×aG)}
theorem NZ(h:Jy (md K A clo tabs) t u):(t,u)∈BF A:=by
 unfold BF;rcases h with⟨rfl,rfl⟩|⟨rfl,rfl⟩|⟨rfl,rfl⟩|⟨rfl,rfl⟩|⟨rfl,rfl⟩|⟨rfl,rfl⟩|⟨C,h,rfl⟩|⟨rfl,rfl⟩|⟨C,h,rfl⟩
 ·simp
 ·simp
 ·simp
 ·simp
 ·simp
 ·simp
 ·exact eK _ (dM _ (eR.mpr ⟨(t,C),qL h,rfl⟩))
 ·simp
 ·exact dM _ (eR.mpr ⟨(t,C),qL h,rfl⟩)
noncomputable def bB (P:cG)(w:dL)(K:bJ)(mg:aG->Option aD)(base:aV)(A:iA)(clo:Nat->aF->Option HO->List V->Prop)(k:Nat)(gs:List (aG×GM))(tabs:Nat->Option (aF×List Pos×aG):=λ_=>aE):Prop:=∀p∈gs,cE (md K A clo tabs) P w K mg base k p.1 p.2/\(p.1==("__debug__":aG))=aC
theorem cE.mono(h:j<=k)(q:cE D P w K mg base j x g):cE D P w K mg base k x g:=by
 cases g with
 |fn f=>obtain⟨fa,a,fd,ps,kk,b,c,d,r⟩:=q;exact⟨fa,a,fd,ps,kk,b,c,cU d h,r⟩
 |fnh nm f=>obtain⟨fa,a,fd,ps,kk,b,c,d,r⟩:=q;exact⟨fa,a,fd,ps,kk,b,c,cU d h,r⟩
 |met c nm f=>obtain⟨C,fI,fd,ps,kk,a,b,c,d,e,E,r⟩:=q;exact⟨C,fI,fd,ps,kk,a,b,c,d,e,cU E h,r⟩
 |mk c z f=>obtain⟨C,fI,fd,ps,kk,a,b,c,d,e,r⟩:=q;exact⟨C,fI,fd,ps,kk,a,b,c,d,cU e h,r⟩
 |xin c f nm fl=>obtain⟨C,HE,fI,fd,ps,kk,y,u,s,p,o,m,r⟩:=q;exact⟨C,HE,fI,fd,ps,kk,y,u,s,p,o,cU m h,r⟩
 |mkd c nm n f=>obtain⟨C,fI,fd,ps,kk,a,b,c,d,e,r⟩:=q;exact⟨C,fI,fd,ps,kk,a,b,c,d,cU e h,r⟩
 |metd c nm n d f=>obtain⟨C,fI,fd,ps,kk,du,dv,y,u,s,p,o,m,G,F,r⟩:=q;exact⟨C,fI,fd,ps,kk,du,dv,y,u,s,p,o,m,G,cU F h,r⟩
 |kap ls=>exact⟨λj l ts φ α H v e d=>let ⟨a,kk,h1,i,B⟩:=q.1 j l ts φ α H v e d;⟨a,kk,h1,cU i h,B⟩,q.2⟩
 |kpr=>exact⟨λt φ α H v A d=>let ⟨a,kk,h1,h2,i⟩:=q.1 t φ α H v A d;⟨a,kk,h1,cU h2 h,i⟩,q.2⟩
 |_=>exact q
theorem bB.mono(h:j<=k)(q:bB P w K mg base A clo j gs tabs):bB P w K mg base A clo k gs tabs:=λp a=>⟨(q p a).1.mono h,(q p a).2⟩
theorem bB.add (q:bB P w K mg base A clo k gs tabs) (h:cE (md K A clo tabs) P w K mg base k x g) (hx:(x==("__debug__":aG))=aC):bB P w K mg base A clo k ((x,g)::gs) tabs:=λp a=>by
 rcases cA.mp a with rfl|z
 ·exact⟨h,hx⟩
 ·exact q p z
noncomputable def Y6(bs:List aG)(xs:List (aG×Nat))(ys:List (aG×Nat×Nat)):List (aG×GM):=bs.map (λx=>(x,GM.none))++xs.map (λx=>(x.1,GM.xcl x.2))++ys.map (λx=>(x.1,GM.xcf x.2.1 x.2.2))
noncomputable def rY(K:bJ)(A:iA)(x:aG)(c:Nat):Bool:=match A.xs.lookup c,mF K bO x with
 |some C,aA (aA (.ref a))=>C==a
 |_,_=>aC
noncomputable def BB(K:bJ)(A:iA)(bs:List aG)(xs:List (aG×Nat))(ys:List (aG×Nat×Nat)):Bool:=
 bs.all (λx=>x != ("__debug__":aG)&&UJ (mF K bO x))&&
 xs.all (λx=>x.1 != ("__debug__":aG)&&rY K A x.1 x.2)&&ys.all (λx=>x.1 != ("__debug__":aG)&&rY K A x.1 x.2.1)
theorem HB(X:K.In base)(d:base.Ns bO mg)(h:rY K A x c=aB):∃C,A.xs.lookup c=aA C/\mg x=aA (.ref C):=by
 unfold rY at h;split at h
 ·rename_i C e b a;have h:C=e:=beq_iff_eq.mp h;subst h;exact⟨C,b,dG X d a⟩
 ·cases h
noncomputable def gW (K:bJ)(A:iA):List (aG×Nat)->Prop
 |[]=>True
 |p::r=>(∃C,A.xs.lookup p.2=aA C/\e_ K C zZ "ValueError.__new__"=aB)/\gW K A r
theorem gW.at:∀{xs:List (aG×Nat)}{p:aG×Nat},gW K A xs->p∈xs->∀C,A.xs.lookup p.2=aA C->e_ K C zZ "ValueError.__new__"=aB
 |q::r,p,h,a,C,e=>by
  rcases cA.mp a with rfl|z
  ·obtain⟨c,b,x⟩:=h.1;rw[b] at e;cases e;exact x
  ·exact gW.at h.2 z C e
theorem K1(X:K.In base)(f:base.Ns bO mg)(h:BB K A bs xs ys=aB)(i:gW K A xs):bB P w K mg base A clo k (Y6 bs xs ys) tabs:=by
 simp only[BB,cB,fT,bne_iff_ne,ne_eq] at h;intro p g;rcases cH.mp g with z|z
 ·rcases cH.mp z with z|z
  ·obtain⟨x,a,rfl⟩:=eR.mp z;obtain⟨c,b⟩:=h.1.1 x a;exact⟨Ec X f (Vr b),beq_eq_false_iff_ne.mpr c⟩
  ·obtain⟨x,a,rfl⟩:=eR.mp z;obtain⟨c,b⟩:=h.1.2 x a;obtain⟨C,d,e⟩:=HB X f b;exact⟨⟨C,d,e,gW.at i a C d⟩,beq_eq_false_iff_ne.mpr c⟩
 ·obtain⟨x,a,rfl⟩:=eR.mp z;obtain⟨c,b⟩:=h.2 x a;obtain⟨C,d,e⟩:=HB X f b;exact⟨⟨C,d,e⟩,beq_eq_false_iff_ne.mpr c⟩
theorem kl(X:K.In base)(L:base.Ns bO mg)(R:mY K A cls fld=aB)(q:bB P w K mg base A clo k gs tabs):fC (md K A clo tabs) P w K mg base (cn cls fld gs N G cel own lam lnm) k:=by
 simp only[mY,cB,fT] at R;obtain⟨⟨⟨J,c2⟩,T⟩,c4⟩:=R;have cb:∀{C},rG K C=aB->cO K (.ref C) "__class__"=aA (aA (.builtin "object.__class__"))/\lX K (.builtin "object.__class__") "__get__"=aA (aA (.builtin "getset_descriptor.__get__"))/\pP K (.builtin "object.__class__")=aA aB/\gN K C (.type "object")=aA aB:=λ{C} h=>by
  simp only[rG,cB] at h;exact⟨ZY h.1.1.1,ZY h.1.1.2,kq h.1.2,kq h.2⟩
 have M:∀c C,A.cs.lookup c=aA C->mq K C:=λc C h=>by
  have a:=(T _ (qL h)).1;simp only[Br,cB] at a;obtain⟨⟨⟨⟨I,H⟩,d⟩,F⟩,E⟩:=a;obtain⟨r,p,o,m⟩:=cb I;exact⟨⟨H,d,F,ZY E⟩,r,p,o,m⟩
 refine⟨rfl,λx Y=>?_,λt x c b u v hu Z=>?_,λc C x f j Q=>?_,λc C j=>?_,M,λx c b=>?_,λt x c b hlt Ct Cc B D=>?_⟩
 ·obtain⟨g,O⟩:=eB (l:=gs) Y;have:=q _ (qL O);refine⟨?_,this.2⟩;show cE _ P w K mg base k x ((gs.lookup x).getD .bad);rw[O];exact this.1
 ·have a:=J _ b;dsimp only at a;split at a
  ·rename_i v' i;simp only[cB,fT] at a;have e:=(Q7 X L i).2 v Z;subst e;exact kq (a.1.2 _ (NZ hu))
  ·cases a
 ·have a:=c4 _ Q;dsimp only at a;refine⟨?_,(M c C j).cl,Vr ((T _ (qL j)).2 _ Q)⟩;split at a
  ·rename_i y U;show gZ[f]?=aA x;rw[U,beq_iff_eq.mp a]
  ·cases a
 ·have a:=c2 _ (qL j);simp only[Gf,cB] at a;obtain⟨⟨⟨⟨⟨I,H⟩,d⟩,F⟩,S⟩,E⟩:=a;obtain⟨r,p,o,m⟩:=cb I;exact⟨ZY H,Vr d,r,p,o,m,kq F,⟨kq S.1,kq S.2⟩,E⟩
 ·have a:=J _ b;dsimp only at a;split at a
  ·rename_i v i;simp only[cB] at a;have s:=a.1.1;refine⟨v,(match v with|.ref C=>V.ref C|.type n=>V.ty n|_=>V.non),(Q7 X L i).1,?_⟩;cases v with
   |ref C=>exact .inl ⟨C,rfl,rfl⟩
   |type n=>exact .inr ⟨n,rfl,rfl⟩
   |_=>cases s
  ·cases a
 ·have a:=J _ b;dsimp only at a;split at a
  ·rename_i v i;simp only[cB,nQ] at a;have e:=(Q7 X L i).2 (.ref Cc) (.inl D);subst e;have d:=a.2.resolve_left (λz=>by have:=Nat.le_of_ble_eq_true z;lia);simp only[fT] at d;exact kq (d _ (qL B))
  ·cases a
end
noncomputable abbrev wl{β:Type}(t:T)(k:Key->RE β):RE β:=match t with
 |.int i=>k (.inl i)
 |.str x=>k (.inr x)
 |_=>.st
noncomputable abbrev mW(ps:List (De×De)):Sl->aK->RE (List (Key×T)):=gy (motive:=λ_=>Sl->aK->RE (List (Key×T))) (λ_ e=>.ok [] e) (λp _ h a e=>(p.1 a e).bind λg d=>(p.2 a d).bind λv c=>wl g λk=>(h a c).bind λf b=>.ok ((k,v)::f) b) ps
noncomputable abbrev Z3(ps:List (De×De)):De:=λc d=>(mW ps c d).bind λb a=>.grd ((b.map (·.1)).Nodup) (.ok (.mut a.length) (a++[.dic b]))
section
variable {X:Cx}{D:DP}{W:XW}{k:Nat}{pins:List (aF×bA)}{s:Shared}{σ:St}{H:Hp}{φ α:List aF}{τ:Sl}{μ:aK}{pos:Pos}
theorem aM.layO(m:aM D φ α H μ)(g:H p=aE)(d:dZ D φ (α++[p]) (upd H p u) r p):aM D φ (α++[p]) (upd H p u) (μ++[r]):=by
 have st:aO α H (α++[p]) (upd H p u):=xc g;have s:=m.len;refine⟨by simp[s],?_,λb j=>?_,λb j=>?_,λi a o c f=>?_⟩
 ·rw[lu];refine⟨m.nd,by simp,λa v b j=>?_⟩;rw[bT.mp j];intro z;exact zm m g (z▸v)
 ·rcases cH.mp j with h|h
  ·exact m.dis b h
  ·rw[bT.mp h];exact zk m g
 ·obtain⟨u,e,n⟩:=m.phi b j;exact⟨u,zf g b u e,n⟩
 ·by_cases t:i<α.length
  ·rw[dN t] at c;rw[dN (by lia)] at f;have d:=m.ob i a o c f;obtain⟨u,q,_⟩:=d.some;exact d.step st ((zf g _ _ q).trans q.symm)
  ·rw[fA (by lia)] at c f;have l:i-α.length=0:=by
    by_cases z:i-α.length=0
    ·exact z
    ·rw[n0 (by simp;lia)] at c;cases c
   have k:i-μ.length=0:=by lia
   rw[l] at c;rw[k] at f;have c:aA p=aA a:=c;have f:aA r=aA o:=f;cases c;cases f;exact d
noncomputable def fE (X:Cx)(D:DP)(W:XW):List (Option aI)->List aI->List (De×De)->Prop
 |[],[],[]=>True
 |some a::e,b::c,p::d=>PE X a (aW D W p.1)/\PE X b (aW D W p.2)/\fE X D W e c d
 |_,_,_=>False
theorem fE.all:∀{c:List (Option aI)}{vs:List aI}{ps:List (De×De)},fE X D W c vs ps->c.all (·.isSome)=aB/\c.length=vs.length/\c.length=ps.length
 |[],[],[],_=>⟨rfl,rfl,rfl⟩
 |some a::c,b::vs,p::ps,h=>by
  obtain⟨h1,h2,d⟩:=fE.all h.2.2;exact⟨by simpa using h1,by simp[h2],by simp[d]⟩
 |[],[],_::_,h=>h.elim
 |[],_::_,_,h=>h.elim
 |none::_,_,_,h=>h.elim
 |some _::_,[],_,h=>h.elim
 |some _::_,_::_,[],h=>h.elim
theorem GX{R:List (Key×T)->aK->List aF->Hp->Prop}{Qf:List (aD×aD)->a9->Prop}:∀{x:List (Option aI)}{vs:List aI}{ps:List (De×De)}{s:a9}{H:Hp}{α:List aF}{μ:aK}{R:List (Key×T)->aK->List aF->Hp->Prop},fE X D W x vs ps->Inv X pins σ H s->aZ D φ α H τ σ->aM D φ α H μ->aJ D W φ α H σ R (mW ps τ μ)->
  wpAny (aR X.prog X.w) X.A (evalPairs (pairTrees x vs X.env pos)) (λus M=>∃z g j d gs B,Inv X pins σ z M/\aO α H g z/\aM D φ g z j/\bF D φ g z d gs/\Carries (zN X.prog X.w) us B/\KV gs B/\d.length=ps.length/\R d j g z) X.xe s
 |[],[],[],s,H,α,μ,R,_,I,U,q,p=>pairTrees_nil_walk ⟨H,α,μ,[],[],[],I,aO.refl _ _,q,rfl,trivial,.nil,rfl,p.ok (aO.refl _ _) q⟩
 |some a::x,b::vs,L::ps,s,H,α,μ,R,h,I,U,q,p=>by
  have p:aJ D W φ α H σ R ((L.1 τ μ).bind λkt i=>(L.2 τ i).bind λv e=>wl kt λk=>(mW ps τ e).bind λd c=>.ok ((k,v)::d) c):=p;refine pairTrees_cons_walk (aX (sub h.1 I U q p) ?_);rintro u s1 ⟨v,H1,t,i,α1,I1,Y,G,K,O,Z,p1⟩;refine aX (sub h.2.1 I1 K O p1) ?_;rintro Q s2 ⟨P,H2,S,e,C,I2,r2,F,J,N,d2,m⟩
  have key:∀(f:Key),(zN X.prog X.w).is f u=aB->aJ D W φ C H2 σ R ((mW ps τ e).bind λd c=>.ok ((f,S)::d) c)->
    wpAny (aR X.prog X.w) X.A (evalPairs (pairTrees x vs X.env pos)) (λr V=>(λus M=>∃z g j d gs B,Inv X pins σ z M/\aO α H g z/\aM D φ g z j/\bF D φ g z d gs/\Carries (zN X.prog X.w) us B/\KV gs B/\d.length=(L::ps).length/\R d j g z) ((u,Q)::r) V) X.xe s2:=λf hk p3=>by
   refine aX (GX (Qf:=Qf) (R:=λ_ _ _ _=>True) h.2.2 I2 J N p3.bind) ?_;rintro us V ⟨H3,y,c,d,gs,B,I3,l,n,dk,cr,kv,o,q3⟩;exact⟨H3,y,c,(f,S)::d,(f,P)::gs,(f,Q)::B,I3,(G.trans F).trans l,n,⟨P,gs,rfl,d2.step l,dk⟩,⟨hk,rfl,cr⟩,.cons ⟨rfl,r2⟩ kv,by simp[o],q3.ok (aO.refl _ _) n⟩
  unfold wl at m;split at m
  ·cases Z;obtain⟨E,rfl⟩:=Y;exact key _ (yP _ _ _ E) m
  ·cases Z;obtain⟨E,rfl⟩:=Y;exact key _ (yZ _ _ _ E) m
  ·exact m.elim
 |[],[],_::_,_,_,_,_,_,h,_,_,_,_=>h.elim
 |[],_::_,_,_,_,_,_,_,h,_,_,_,_=>h.elim
 |none::_,_,_,_,_,_,_,_,h,_,_,_,_=>h.elim
 |some _::_,[],_,_,_,_,_,_,h,_,_,_,_=>h.elim
 |some _::_,_::_,[],_,_,_,_,_,h,_,_,_,_=>h.elim
theorem bF.keys:∀{a:List (Key×T)}{gs:List (Key×V)},bF D φ α H a gs->gs.map (·.1)=a.map (·.1)
 |[],_,h=>by have:_=[]:=h;subst this;rfl
 |p::r,_,h=>by
  obtain⟨v,b,rfl,_,l⟩:=h;simp[bF.keys l]
theorem KV.keys:∀{gs:List (Key×V)}{a:List (Key×aD)},KV gs a->a.map (·.1)=gs.map (·.1)
 |_,_,.nil=>rfl
 |_,_,.cons r t=>by simp[KV.keys t,r.1]
theorem Ti{vs:List aI}{Q:VK}{kk:List (Key×T)->aK->RE T}(h0:U≠[])(Y:U.length<=15)(h:fE X D W U vs ps)
  (I:Inv X pins σ H s) (sr:aZ D φ α H τ σ) (l:aM D φ α H μ) (p:aJ D W φ α H σ (RV D φ Q) ((mW ps τ μ).bind λg M=>.grd ((g.map (·.1)).Nodup) (kk g M)))
  (Kq:∀b r B g gs j,aO α H r B->H b=aE->b∉φ->b∉r->aM D (φ++[b]) r B j->(∃u,B b=aA u)->bF D (φ++[b]) r B g gs->aJ D W φ α H σ (RV D φ Q) (kk g j)->Q (.ref b) (upd B b (.dK gs))) :
  wpAny (aR X.prog X.w) X.A (eval (.Dict U vs pos) X.env) (EP X pins σ Q) X.xe s:=by
 have y:H s.heap.objs.size=aE:=I.hok.fresh (bE _);have F:jX H (upd H s.heap.objs.size (.dK [])):=zf y;have V:gT<s.heap.objs.size:=sF (show gT<bO by decide) (by first|exact (I.ok.mod.glob.keeps I.bk).lt|exact (I.mod.glob.keeps I.bk).lt);have I1:=I.laid (a:=s.heap.objs.size) (o:=.dK []) (h':=s.heap.push {cls:=.type "dict",data:=.dict #[]}) (t':=s.toks) (λ_ _ q=>bU _ q) (bE _) ⟨hL _,beq_eq_false_iff_ne.mpr (b_ (dP V)),[],.nil,DD _⟩;have n1:=zk l y;have N:=zm l y;have lk:Lk φ α H (φ++[s.heap.objs.size]) α (upd H s.heap.objs.size (.dK [])):=uJ y F;have L:=sr.lk lk;have P:aM D (φ++[s.heap.objs.size]) α (upd H s.heap.objs.size (.dK [])) μ:=l.lk lk (λc f=>by
  have na:c≠s.heap.objs.size:=λz=>N (z▸f);exact⟨z4 na,λz=>(cH.mp z).elim (l.dis c f) λz=>na (bT.mp z)⟩) λc f=>by
  rcases cH.mp f with z|z
  ·obtain⟨o,e,n⟩:=l.phi c z;exact⟨o,F c o e,n⟩
  ·rw[bT.mp z,z3];exact⟨_,rfl,rfl⟩
 obtain⟨K0,Z0,q0,S,t⟩:=p;have p1:aJ D W (φ++[s.heap.objs.size]) α (upd H s.heap.objs.size (.dK [])) σ (λg j _ _=>(g.map (·.1)).Nodup/\kk g j K0 Z0) (mW ps τ μ):=⟨_,Z0,q0,λg j e _ _ _ _=>e,λc fs j z r B C d st m ad xd=>by
  have m':=m.lk wm (λc f=>⟨rfl,λz=>m.dis c f (eK _ z)⟩) λc f=>m.phi c (eK _ f);exact t c fs j z r B C d ((aO.new F).trans st) m' ad (xd.lk wm)⟩
 refine wpAny_Dict_walk (knd:=zN X.prog X.w) h.all.1 h.all.2.1 h0 Y (aX (GX (Qf:=λ_ _=>True) (R:=λ_ _ _ _=>True) h I1 L P p1) ?_);rintro us s3 ⟨G,K,J,g,gs,E,I3,i,O,dk,cr,kv,hkl,nd,q3⟩;have Z:G s.heap.objs.size=aA (.dK []):=i.keep _ _ N z3;obtain⟨z,hd,vs0,r0,dd⟩:=(show a6 X.prog X.w G s3.heap s.heap.objs.size (.dK []) from I3.hok _ _ Z);cases r0;have hm:merged ([]:List (Key×aD)) E=E:=merged_nil_of_nodup E (by rw[KV.keys kv,bF.keys dk];exact nd);refine⟨E,cr,dd,λh' k hs=>⟨.ref s.heap.objs.size,upd G s.heap.objs.size (.dK gs),?_,rfl,?_⟩⟩
 ·rw[hm] at k;have he:∃q,h'.get? s.heap.objs.size=aA q:=let ⟨q,_,_,hq,_⟩:=k;⟨q,hq⟩;have v:gs.length<=15:=by
   have e1:gs.length=g.length:=by simpa using congrArg ll (bF.keys dk)
   have e2:=h.all.2.2;lia
  exact I3.write (x:=s.heap.objs.size) (e:=s.heap.objs.size) (by rw[Z];exact f_) (.inl rfl) (λb u V hu=>(hs.2 b V).trans hu) he ⟨cU v (by decide),hd,_,kv,k⟩
 ·exact Kq _ K G g gs J ((aO.new F).trans i) y n1 (i.out N z3) O ⟨_,Z⟩ dk ⟨K0,Z0,q3,S,t⟩
theorem OV(st:aO α H d g)(f:H b=aE):aO α H d (upd g b (.dK gs)):=
 ⟨st.ext,λc o n e=>by rw[z4 (zI e f)];exact st.keep c o n e,λc e=>by
  by_cases a:c=b
  ·rw[a];exact f
  ·rw[z4 a] at e;exact st.live c e⟩
theorem Sh(m:aM D (φ++[b]) α H μ):aM D φ α (upd H b (.dK gs)) μ:=by
 have d:b∈φ++[b]:=by simp
 have f:aM D (φ++[b]) α (upd H b (.dK gs)) μ:=m.lk (xE d) (λc a=>⟨by rw[z4 (λz=>m.dis c a (by rw[z];simp))],m.dis c a⟩) λc a=>by
  by_cases e:c=b
  ·rw[e,z3];exact⟨_,rfl,rfl⟩
  ·rw[z4 e];exact m.phi c a
 exact f.lk wm (λc a=>⟨rfl,λz=>f.dis c a (eK _ z)⟩) λc a=>f.phi c (eK _ a)
theorem OO{u:List (Option aI)}(h0:u≠[])(B:u.length<=15)(h:fE X D W u vs ps):PE X (.Dict u vs pos) (aW D W (Z3 ps)):=by
 rintro E s Y H Q I ⟨t,K,V,Z,L,O,p⟩;refine Ti h0 B h I L O p λb d r l gs g st G N M m hx dk q=>?_;have F:aM D t d (upd r b (.dK gs)) g:=Sh m;have v:aO K H (d++[b]) (upd r b (.dK gs)):=by
  obtain⟨J,rfl,x⟩:=st.ext;have C:=OV (gs:=gs) st G;exact⟨⟨J++[b],by simp,λc n=>(cH.mp n).elim (x c) λz=>by rw[bT.mp z];exact G⟩,C.keep,C.live⟩
 have k:Lk (t++[b]) d r t (d++[b]) (upd r b (.dK gs)):=⟨λa o w R e=>⟨λz=>w (eK _ z),λz=>(cH.mp z).elim R λz=>w (by rw[bT.mp z];simp),by rw[z4 (λz:a=b=>w (by rw[z];simp))];exact e⟩,λi a e=>by rw[dN (bI.mp e).1];exact e⟩;have P:aM D t (d++[b]) (upd r b (.dK gs)) (g++[.dic l]):=by
  have S:=m.len;refine⟨by simp[S],?_,λc n=>?_,F.phi,λi a o f j=>?_⟩
  ·rw[lu];refine⟨m.nd,by simp,λa U c n=>?_⟩;rw[bT.mp n];intro z;exact M (z▸U)
  ·rcases cH.mp n with h|h
   ·exact F.dis c h
   ·rw[bT.mp h];exact N
  ·by_cases T:i<d.length
   ·rw[dN T] at f;rw[dN (by lia)] at j;exact (m.ob i a o f j).lk k (z4 λz=>m.dis a (b9 f) (by rw[z];simp))
   ·rw[fA (by lia)] at f j;have A:i-d.length=0:=by
     by_cases z:i-d.length=0
     ·exact z
     ·rw[n0 (by simp;lia)] at f;cases f
    have y:i-g.length=0:=by lia
    rw[A] at f;rw[y] at j;have f:aA b=aA a:=f;have j:aA (MO.dic l)=aA o:=j;cases f;cases j;exact⟨gs,z3,dk.lk k⟩
 exact q.ok v P _ ⟨b,by rw[←m.len,fA (bE _)];simp,rfl⟩
end
noncomputable def B8 (r:cX)(Γ:Cn):List (Option aI)->List aI->Option (List (De×De))
 |[],[]=>aA []
 |some a::h,b::c=>(r.e Γ a).bind λf=>(r.e Γ b).bind λg=>(B8 r Γ h c).bind λd=>aA ((f,g)::d)
 |_,_=>aE
theorem Hk{W:XW}(H:bQ D r)(C:Ck D W Γ X k):∀{c:List (Option aI)}{vs:List aI}{ps:List (De×De)},B8 r Γ c vs=aA ps->fE X D W c vs ps
 |[],[],ps,h=>by cases h;trivial
 |some a::c,b::vs,ps,h=>by
  obtain⟨f,j,h⟩:=aP h;obtain⟨g,i,h⟩:=aP h;obtain⟨l,d,h⟩:=aP h;cases h;exact⟨H.e C j,H.e C i,Hk H C d⟩
 |[],_::_,_,h=>by cases h
 |none::_,_,_,h=>by cases h
 |some _::_,[],_,h=>by cases h
noncomputable def Fv (r:cX)(Γ:Cn)(mk:List (De×De)->De)(e:aI):Option De:=match e with
 |.Dict a b _=>gd (!a.isEmpty&&decide (a.length<=15)) ((B8 r Γ a b).bind λc=>aA (mk c))
 |_=>aE
noncomputable def GG:ER:=λr a e=>Fv r a Z3 e
theorem PM{mk:List (De×De)->De}(c:∀{X:Cx}{W:XW}{a:List (Option aI)}{vs:List aI}{ps:List (De×De)}{pos:Pos},a≠[]->a.length<=15->fE X D W a vs ps->PE X (.Dict a vs pos) (aW D W (mk ps))):cM D (λr Γ e=>Fv r Γ mk e):=by
 intro r H X W Γ k e d C h;cases e with
 |Dict a vs p=>
  obtain⟨b,h⟩:=zc h;simp only[cB,decide_eq_true_eq,l9,List.isEmpty_eq_false_iff] at b;obtain⟨ps,f,h⟩:=aP h;cases h;exact c b.1 b.2 (Hk H C f)
 |_=>cases h
theorem S4:cM D GG:=PM λa b c=>OO a b c
noncomputable abbrev i7(op:T->T->aK->RE T)(f g:De):De:=λc d=>(f c d).bind λx b=>(g c b).bind λy a=>op x y a
noncomputable abbrev VB(x y:T)(μ:aK):RE T:=match x,y with
 |.int a,.int b=>.ok (.int (if b<a then b else a)) μ
 |_,_=>.st
noncomputable abbrev Q1(x y:T)(μ:aK):RE T:=match x,y with
 |.int a,.int b=>.ok (.int (if a<b then b else a)) μ
 |_,_=>.st
section
variable {X:Cx}{D:DP}{W:XW}{Γ:Cn}{k:Nat}{pins:List (aF×bA)}{s:Shared}{σ:St}{H:Hp}{φ α:List aF}{τ:Sl}{μ:aK}{f g:De}{a b:aI}{pos:Pos}
noncomputable def B2 (X:Cx)(D:DP)(W:XW)(fv:aD)(op:T->T->aK->RE T):Prop:=
 ∀(pins:List (aF×bA)) (s:a9) (σ:St) (H:Hp) (φ α:List aF) (μ:aK) (t c:T) (v a:V) (u b:aD) (Q:VK),Inv X pins σ H s->aM D φ α H μ->a_ D φ α H t v->a_ D φ α H c a->RelV v u->RelV a b->aJ D W φ α H σ (RV D φ Q) (op t c μ)->
  wpAny (aR X.prog X.w) X.A (call fv [u,b]) (EP X pins σ Q) X.xe s
theorem Gk (C:Ck D W Γ X k) {id:String}(hx:x∈Γ.G) (hg:Γ.gl x=.none) (hv:hS x=aA (.builtin id)) (hn:x≠"__name__") (r:aT a=aB) (o:aT b=aB) (hB:B2 X D W (.builtin id) op) (ha:PE X a (aW D W f)) (hb:PE X b (aW D W g)) :
  PE X (.Call (.Name x p0) [a,b] [] pos) (aW D W (i7 op f g)):=by
 have K:=C.glo _ hx;rw[hg] at K;rintro h s u H Q I ⟨e,N,E,M,J,Z,p⟩;refine iL (jf I (C.glb _ hx) K hv ?_ hn (C.dbG _ hx))
 refine rh (aX (zM ha (zM hb qU (z6 o)) (z6 r) pos h s u H (λF t=>∃j i n l d c,F=[j,i]/\aM D e c t d/\a_ D e c t n j/\a_ D e c t l i/\aJ D W e c t u (RV D e Q) (op n l d)) I
  ⟨e,N,E,M,J,Z,p.bind.mono λn v w L z m1 Y j B=>⟨e,w,E,v,J.step z,m1,Y.bind.mono λl d c t y m2 V i A=>⟨j,i,n,l,d,c,rfl,m2,B.step y,A,V⟩⟩⟩) ?_) (z6 r) (qT (by simp[o]))
 rintro us R ⟨F,L,I1,S,j,i,n,l,d,c,rfl,m,B,A,q⟩;obtain⟨P,O,rfl,U,T⟩:=vals2 S;exact hB h R u L e c d n l j i P O Q I1 m B A U T q
theorem Nm(k:X.calm=aB):B2 X D W (.builtin "min") VB:=by
 intro a s e H n q o t B v w u x Q I b d m r g p;unfold VB at p;split at p
 ·cases d;cases m;obtain⟨A,rfl⟩:=r;obtain⟨y,rfl⟩:=g;refine min_two_ints (I.ok.hd k) λl f h=>?_;have c:Inv X a e H {s with heap:=l,toks:=f}:=I.kept h;rename_i i j;by_cases z:j<i
  ·rw[if_pos z] at p ⊢;exact⟨.int j,H,c,⟨_,rfl⟩,p.here b rfl⟩
  ·rw[if_neg z] at p ⊢;exact⟨.int i,H,c,⟨_,rfl⟩,p.here b rfl⟩
 ·exact p.elim
theorem MA(k:X.calm=aB):B2 X D W (.builtin "max") Q1:=by
 intro a s e H n q o t B v w u x Q I b d m r g p;unfold Q1 at p;split at p
 ·cases d;cases m;obtain⟨A,rfl⟩:=r;obtain⟨y,rfl⟩:=g;refine max_two_ints (I.ok.hd k) λl f h=>?_;have c:Inv X a e H {s with heap:=l,toks:=f}:=I.kept h;rename_i i j;by_cases z:i<j
  ·rw[if_pos z] at p;rw[if_pos (show j > i from z)];exact⟨.int j,H,c,⟨_,rfl⟩,p.here b rfl⟩
  ·rw[if_neg z] at p;rw[if_neg (show ¬j > i from z)];exact⟨.int i,H,c,⟨_,rfl⟩,p.here b rfl⟩
 ·exact p.elim
end
noncomputable def BK (nm:aG)(op:T->T->aK->RE T):ER:=λr a e=>(yz e).bind λq=>(wT q.as).bind λw=>gd (q.x==nm) (gd ((cD a.N q.x).isNone&&aT w.1) (gd (aT w.2&&a.calm) (gd (lI (a.look nm)) ((r.e a w.1).bind λf=>(r.e a w.2).bind λg=>aA (i7 op f g)))))
theorem G6(s:∀{X:Cx}{W:XW}{Γ:Cn}{k:Nat}{a b:aI}{f g:De}{p0 pos:Pos},Ck D W Γ X k->nm∈Γ.G->Γ.gl nm=.none->Γ.calm=aB->aT a=aB->aT b=aB->PE X a (aW D W f)->PE X b (aW D W g)->PE X (.Call (.Name nm p0) [a,b] [] pos) (aW D W (i7 op f g))):cM D (BK nm op):=by
 intro r H X W Γ k e d C h;obtain⟨q,p,h⟩:=aP h;obtain⟨w,l,h⟩:=aP h;obtain⟨j,h⟩:=zc h;obtain⟨o,h⟩:=zc h;obtain⟨i,h⟩:=zc h;obtain⟨c,h⟩:=zc h;obtain⟨f,n,h⟩:=aP h;obtain⟨g,m,h⟩:=aP h;cases h;rw[wG p,XJ l,wC j];exact s C (qY c).1 (qY c).2 (zF i).2 (zF o).2 (zF i).1 (H.e C n) (H.e C m)
noncomputable def Gv:ER:=BK "min" VB
theorem SQ:cM D Gv:=G6 λC a b c g f e d=>Gk C a b (by decide +kernel) (by decide) g f (Nm (C.clm c)) e d
noncomputable def Gs:ER:=BK "max" Q1
theorem SV:cM D Gs:=G6 λC a b c g f e d=>Gk C a b (by decide +kernel) (by decide) g f (MA (C.clm c)) e d
noncomputable abbrev Y2(c:Nat)(g:Fn)(ts:List T)(μ:aK):RE T:=λK Z=>g (.mut μ.length::ts) (μ++[.obj c []]) (λr a=>r=.non/\K (.mut μ.length) a) Z
noncomputable abbrev uh(c:Nat)(g:Fn)(fs:List De):De:=λa b=>(gF fs a b).bind (Y2 c g)
noncomputable abbrev zz(c:Nat)(g:Fn)(o:De)(as:List De):De:=λd h=>(o d h).bind λt b=>match t with
 |.obj f fs=>.grd (f=c) ((gF as d b).bind λe a=>g (.obj f fs::e) a)
 |.mut i=>λK Z=>∃fs,b[i]?=aA (.obj c fs)/\(gF as d b).bind (λe a=>g (.mut i::e) a) K Z
 |_=>.st
section
variable {X:Cx}{D:DP}{W:XW}{Γ:Cn}{k:Nat}{pins:List (aF×bA)}{s:Shared}{σ:St}{H:Hp}{φ α:List aF}{τ:Sl}{μ:aK}{fs:List De}{c:aI}{pos:Pos}{es:List aI}
theorem XY{c:Nat}{g:Fn}{C0 fI:aF}{kk:Nat}{vs:List V}{ts:List T}{Q:VK}(C:Ck D W Γ X k)(ad:D.cad c=aA C0)(M:Mk X.K C0 fI)(F:bL X.prog X.w X.K X.mg X.base (cW X.prog X.w) kk fI fd ps (dW D ps.length g))
  (hr:bV (kk+1) X.A) (hb:Binds X.K fd ps []) (P:∀ts μ K Z,g ts μ K Z->ts.length=ps.length) (I:Inv X pins σ H s) (r:aY vs us) (U:aM D φ α H μ) (d:aN D φ α H ts vs) (p:aJ D W φ α H σ (RV D φ Q) (Y2 c g ts μ)) :
  wpAny (aR X.prog X.w) X.A (call (.ref C0) us) (EP X pins σ Q) X.xe s:=by
 obtain⟨K,Z,Y,hk,hz⟩:=p;have N:(T.mut μ.length::ts).length=ps.length:=P _ _ _ _ Y;have hq:∀x dx,H x=aE->H dx=aE->dx≠x->dW D ps.length g (.ref x::(vs++[])) (upd (upd H dx (.own x)) x (.ins C0 dx [])) (λv H2=>v=.non/\Q (.ref x) H2) (λc d h=>W c d σ h):=by
  intro x dx hx O J;have l:jX H (upd H dx (.own x)):=zf O;have n:upd H dx (.own x) x=aE:=by rw[z4 (b_ J)];exact hx
  have B:aM D φ α (upd H dx (.own x)) μ:=U.new l;have j:aO α H (α++[x]) (upd (upd H dx (.own x)) x (.ins C0 dx [])):=(aO.new l).trans (xc n);have z:aM D φ (α++[x]) (upd (upd H dx (.own x)) x (.ins C0 dx [])) (μ++[.obj c []]):=B.layO n ⟨C0,dx,[],ad,z3,rfl⟩;have b:(α++[x])[μ.length]?=aA x:=by rw[←U.len,fA (bE _)];simp
  refine⟨by simp only[fU,gP] at N ⊢;rw[←d.length];exact N,φ,α++[x],.mut μ.length::ts,μ++[.obj c []],⟨.ref x,vs++[],rfl,⟨x,b,rfl⟩,by rw[gP];exact d.step j⟩,z,_,_,Y,?_,?_⟩
  ·rintro t y ⟨rfl,q⟩ i S st m v dv;refine⟨dv,?_⟩;obtain⟨β,e,_⟩:=st.ext;refine hk _ _ q i S (j.trans st) m _ ⟨x,?_,rfl⟩;rw[e,dN (bI.mp b).1];exact b
  ·rintro e fs y q i S C1 d1 st m R xd;exact hz _ _ _ q i S C1 d1 (j.trans st) m R xd
 have G:=hq (s.heap.objs.size+1) s.heap.objs.size (I.hok.fresh (mE _)) (I.hok.fresh (bE _)) (dP (l6 _));have o:=Inv.made (C:=C0) I;have r2:aY (V.ref (s.heap.objs.size+1)::(vs++[])) (cN (s.heap.objs.size+1)::us):=.cons rfl (by rw[gP];exact r);have L:(cN (s.heap.objs.size+1)::us++[]).length=ps.length:=by
  rw[gP,fU,←r.length,←d.length];exact N
 refine hW (Jd (f:=fI) I.kIn M.makes M.init (beq_iff_eq.mp M.fn) (iK (F.run _ X.stack _ _ ⟨cN (s.heap.objs.size+1)::us,[]⟩ (cN (s.heap.objs.size+1)::us) _ _ (λc d h=>W c d σ h) (hr.make C0 us [])
  (o.env0.make C0 us []) (by simpa using hb _ (cN (s.heap.objs.size+1)::us) o.kIn L) r2 G) λr s' a=>?_))
 cases r with
 |error e=>exact C.xe e s' (uq (E:=λc d h=>W c d σ h) o a λcls d h w=>w)
 |ok fl=>
  cases fl with
  |ret u=>
   obtain⟨v,h,I3,rv,ev,q3⟩:=o.after a;subst ev;exact⟨rv,⟨V.ref (s.heap.objs.size+1),h,I3,rfl,q3⟩⟩
  |next=>exact dI a
  |brk=>exact dI a
  |cont=>exact dI a
theorem R4(C:Ck D W Γ X k){c:Nat}{g:Fn}(hx:x∈Γ.G)(B:Γ.gl x=.mk c aC g)(E:Γ.calm=aB)(i:dD X D W es fs):PE X (.Call (.Name x p0) es [] pos) (aW D W (uh c g fs)):=by
 have q:=C.glo x hx;rw[B] at q;obtain⟨C0,V,fd,T,U,ad,A,M,n,h,Fn,a⟩:=q;have m:=(C.rom E).mono h;have d:=i.stars;have z:=vI i;rintro j s L H Q I ⟨J,O,K,N,w,l,p⟩;refine iL (wH I (C.glb x hx) A ?_ (C.dbG x hx));cases es with
 |nil=>
  cases fs with
  |nil=>exact pZ I.kIn M.kp (XY (ts:=[]) C ad M Fn m n a I .nil l rfl p)
  |cons f fs=>exact i.elim
 |cons e es=>
  simp only[iX,cB] at d;refine mO (h₀:=X.base) I.ok.mod.kin M.kp (aX (UM z I w l p) ?_) (z6 d.1) (qT d.2);rintro R S ⟨P,Y,ts,r,t,o,y,u,v,b,F,_,p1⟩;exact⟨o.kIn,XY C ad M Fn m n a o y b F p1⟩
theorem Zm(a:∀i,D.fn i≠aA nm):∀{fs:List (Nat×T)}{gs:List (aG×V)},bK D φ α H fs gs->gs.lookup nm=aE
 |[],_,h=>by cases h;rfl
 |p::r,_,h=>by
  obtain⟨x,v,q,e,rfl,_,l⟩:=h;rw[gB];have:(nm==x)=aC:=by
   apply beq_false_of_ne;intro z;exact a p.1 (by rw[z];exact e)
  rw[this];exact Zm a l
theorem UX (hs : es.all aT = aB) (b : es.length < 30) : ((fJ pos (d7 es env)).all (fun x => !x.1) && (lg pos (lq [] env)).all (fun x => x.1.isSome)
      &&decide (es.length+([]:List iC).length+(if ([]:List iC).isEmpty then 0 else 1)<30))=aB:=by
  have e:=qT (env:=env) (pos:=pos) hs;have d:(fJ pos (d7 es env)).all (λx=>!x.1)=aB:=by
    rw[fT];intro x a;have:=D7.mp e x a;simpa using this
  rw[d];have c:(lg pos (lq [] env)).all (λx=>x.1.isSome)=aB:=rfl;rw[c];simpa using b
theorem Py(C:Ck D W Γ X k){x m:aG}{c:Nat}{g:Fn}(hU:x∈Γ.U)(hg:Γ.gl x=.met c m g)(hc:Γ.calm=aB)(hp:qg o=aB)(r:(d.endLine==pos.line)=aB)(hl:es.length<30)(ho:PE X o (aW D W go))(ha:dD X D W es fs) :
  PE X (.Call (.Attribute o m d) es [] pos) (aW D W (zz c g go fs)):=by
 have q:=(C.glU x hU).1;rw[hg] at q;obtain⟨C0,fI,fd,ps,kk,ad,cl,M,K,hb,hkk,Fn,L⟩:=q;have hr:=(C.rom hc).mono hkk;have P:=ha.stars;have pa:=vI ha;rintro G s σ H Q I ⟨Y,α,τ,μ,sr,mr,p⟩;rw[sH,qE hp];refine wpAny_bind (aX (sub ho I sr mr p) ?_);rintro u s1 ⟨v,S,t,Z,j,O,r1,st1,sr1,n,R,p1⟩;refine wpAny_bind (hX ?_);have y:methodCallForm (es.length+([]:List iC).length) (fJ pos (d7 es X.env)) (lg pos (lq [] X.env))=aB:=UX P hl;have J:mI aB o X.env d pos=pure pos:=by unfold mI;simp[r]
 have go:∀{a dx:aF}{gs:List (aG×V)}{F:T},S a=aA (.ins C0 dx gs)->gs.lookup m=aE->u=.ref a->(∀b B,aO j S b B->a_ D Y b B F (.ref a))->aJ D W Y j S σ (RV D Y Q) ((gF fs τ Z).bind λts E=>g (F::ts) E)->
   wpAny (aR X.prog X.w) X.A (ny o m d pos X.env u (es.length+([]:List iC).length) (fJ pos (d7 es X.env)) (lg pos (lq [] X.env))) (EP X G σ Q) X.xe s1:=λ{a dx gs F} N lk hu hd z=>by
  subst hu;unfold ny;rw[y];refine wpAny_bind (wpAny_holding (Kc O N cl M lk ?_));refine wpAny_bind (lp J ?_);have d0:=hd j S (aO.refl _ _);cases es with
  |nil=>
   cases fs with
   |nil=>exact pZ (first:=[.ref a]) O.kIn M.kp (uB (ts:=[F]) (us:=[.ref a]) (vs:=[.ref a]) C Fn hr hb L O (.cons rfl .nil) n ⟨_,_,rfl,d0,rfl⟩ z)
   |cons f fs=>exact ha.elim
  |cons e es=>
   simp only[iX,cB] at P;refine mO (first:=[.ref a]) (h₀:=X.base) O.ok.mod.kin M.kp (aX (UM pa O sr1 n z) ?_) (z6 P.1) (qT P.2);rintro us s2 ⟨vs,B,ts,E,b,I2,r2,st2,sr2,mr2,d2,_,p3⟩;exact⟨I2.kIn,uB (ts:=F::ts) (us:=.ref a::us) (vs:=.ref a::vs) C Fn hr hb L I2 (.cons rfl r2) mr2 ⟨_,_,rfl,hd b B st2,d2⟩ p3⟩
 cases t with
 |obj c' gf=>
  obtain⟨hcc,z⟩:=aJ.grd p1;subst hcc;obtain⟨a,C1,dx,gs,rfl,n1,n2,h,N,l⟩:=id R;rw[ad] at h;cases h;exact go N (Zm K l) r1 (λb B st=>R.step st) z
 | «mut» i=>
  obtain⟨gf,hi,z⟩:=aJ.ex1 p1;obtain⟨a,hi',rfl⟩:=id R;obtain⟨C1,dx,gs,h,N,l⟩:=n.ob i a _ hi' hi;rw[ad] at h;cases h;exact go N (Zm K l) r1 (λb B st=>R.step st) z
 |_=>exact aJ.elim p1
end
noncomputable def Ac (K:bJ)(a:aF)(n:Nat):It:=⟨λi H=>∃b x,gX K H a b/\b.length=n/\i<n/\b[n-1-i]?=aA x,λi H x c=>c=H/\∀b,gX K H a b->b[n-1-i]?=aA x,λi _=>i=n⟩
theorem S7{P:cG}{K:bJ}(a it:aF)(n:Nat):gH P w K tg (Ac K a n) [it] it (λi h=>h.IsRevIter it a ((n:Int)-1-(i:Int))) where
 mem:=by simp
 obj:=λi h st b g=>by
  have e:b=it:=by simpa using g
  subst e;obtain⟨o,e,c,d⟩:=st;exact⟨o,e,λv z=>by rw[d] at z;cases z⟩
 keep:=λi h q st k=>st.at λo e=>k it (by simp) o e
 item:=by
  intro X r hw t M i f s G H E I m st l;subst r hw t;obtain⟨xs,x,L,hn,hi,J⟩:=l;obtain⟨R,O,p,hz⟩:=I.list L;obtain⟨u,T,Q⟩:=O.get J;obtain⟨D,C,U,B,A,y⟩:=m it (by simp);have F:(n:Int)-1-(i:Int)=((n-1-i:Nat):Int):=by lia
  have V:(n:Int)-1-((i+1:Nat):Int)=((n-1-i:Nat):Int)-1:=by lia
  rw[F] at st;refine wpAny_pyNext_rev_item st p.isList (x:=u) (by simpa using T) λq j N=>?_;have Y:Inv X f G H {s with heap:=q}:=I.turned (t':=s.toks) (λb o g e=>(N.2 b g).trans e) D C B A y;obtain⟨o,e,c,d⟩:=id j;exact⟨u,rfl,xn (s:={s with heap:=q}) e c d (by decide) ⟨x,H,Y,Q,⟨rfl,λZ S=>by rw[I.list_inj S L];exact J⟩,by show Heap.IsRevIter _ _ _ _;rw[V];exact j,λb g=>(m b g).1⟩⟩
 done:=by
  intro X r hw t M i f s G H E I m st l;subst r hw t;obtain⟨D,C,U,B,A,y⟩:=m it (by simp);have l:i=n:=l;subst l;have F:(i:Int)-1-(i:Int) = -1:=by lia
  rw[F] at st;exact wpAny_pyNext_rev_end (I.ok.hd M) st λq eb=>⟨rfl,I.turned (t':=s.toks) (λb o g e=>eb b o g e) D C B A y⟩
 self:=λ_ _ _ _ _ st h=>Ei st h
noncomputable abbrev Ab(t:T)(μ:aK):RI:=match t with
 |.lst a=>.ok a.reverse gD μ
 |.mut i=>λK _=>∃a,μ[i]?=aA (.lst a)/\K a.reverse (iN i a) μ
 |_=>.st
noncomputable abbrev Bo(f:De):Di:=λa b=>(f a b).it Ab
section
variable {X:Cx}{D:DP}{W:XW}{Γ:Cn}{k:Nat}{pins:List (aF×bA)}{s:Shared}{σ:St}{H:Hp}{φ α:List aF}{τ:Sl}{μ:aK}{f:De}{a tg:aI}{pos:Pos}
theorem X9{K:bJ}{ad:aF}:i9 D (Ac K ad xs.length) (λφ α H=>∃vs,Rd H ad (.lst vs)/\aN D φ α H xs vs) xs.reverse:=
 ⟨λi φ α H ⟨vs,ok,l⟩ a=>by
  have f:=l.length;have a:i<xs.length:=by simpa using a
  exact⟨vs,vs[xs.length-1-i]'(by omega),.inl ok,by omega,a,by simp⟩,λi φ α H v g t ⟨vs,ok,l⟩ a y=>by
  obtain⟨rfl,y⟩:=y;have b:i<xs.length:=by
   have:=(bI.mp a).1;simpa using this
  rw[List.getElem?_reverse b] at a;obtain⟨x,c,d⟩:=l.get a;have e:=y vs (.inl ok);rw[e] at c;cases c;exact⟨λ_ _ z=>z,d⟩,λφ α H _=>by show _=_;simp⟩
theorem M8 (C:Ck D W Γ X k) (hx:("reversed":aG)∈Γ.G) (hg:Γ.gl "reversed"=.none) (hs:aT a=aB) (ha:PE X a (aW D W f)) :
  PI X tg (.Call (.Name "reversed" p0) [a] [] pos) (gU D W (Bo f)):=by
 have hm:=C.glo _ hx;rw[hg] at hm;rintro B s E H R I ⟨n,U,τ,μ,sr,mr,p⟩;refine iL (jf I (C.glb _ hx) hm (show hS "reversed"=aA (.type "reversed") by decide +kernel) ?_ (by decide) (C.dbG _ hx));refine ri (aX (zM ha qU (z6 hs) pos B s E H (λz i=>∃v t g c,z=[v]/\aO U H c i/\aM D n c i g/\a_ D n c i t v/\aJ D W n c i E (λp r x O=>∀J Ok,i9 D J Ok p.1->Cj D n x O p.1 p.2 Ok->p.2 r->R J O) (Ab t g).re) I ⟨n,U,τ,μ,sr,mr,(show aJ D W n U H E _ ((f τ μ).bind λt g=>(Ab t g).re) from p).bind.mono λt r x O st m q v d=>⟨v,t,r,x,rfl,st,m,d,q⟩⟩) ?_) (z6 hs) rfl;rintro us y ⟨z,i,Q,rv,v,t,g,c,rfl,st,m,d,q⟩;obtain⟨u,rfl,r1⟩:=vals1 rv;have fin:∀{ad:aF}{z:List V}{h:List T}{lv:aK->Prop},u=.ref ad->Rd i ad (.lst z)->aN D n c i h z->R (Ac X.K ad h.length) i->wpAny (aR X.prog X.w) X.A (call (.type "reversed") [u]) (λv y=>wpAny (aR X.prog X.w) X.A (m_ v) (Cg X B E tg R) X.xe y) X.xe y:=λ{ad z h lv} hu q l hR=>by
  subst hu;obtain⟨L,Z,pl,hz⟩:=Q.list (.inl q);have N:L.toArray.size=h.length:=by simp[←Z.length,l.length]
  refine call_reversed_list pl.isList ?_;have hr:({y with heap:=y.heap.push (revObj ad ((L.toArray.size:Int)-1))}:a9).heap.IsRevIter y.heap.objs.size ad ((h.length:Int)-1-((0:Nat):Int)):=⟨_,eF _ rfl,rfl,by rw[←N];simp[revObj]⟩;refine Ei hr ?_;refine⟨y.heap.objs.size,[y.heap.objs.size],_,_,i,rfl,Q.kept (t':=y.toks) λb o e=>bU _ e,S7 ad _ h.length,hr,λb hb=>?_,hR⟩;have e:b=y.heap.objs.size:=by simpa using hb
  subst e;exact Q.fpOk (bE _) (Q.hok.fresh (bE _))
 cases t with
 |lst ts=>
  obtain⟨ad,z,rfl,n1,n2,P,l⟩:=d;have F:aJ D W n c i E _ (RE.ok (ts.reverse,gD) g):=q;refine fin (lv:=gD) r1 P l (F.ok (aO.refl _ _) m _ _ X9 (λS x O r lk _ _=>?_) trivial);obtain⟨a',Y,e,_,_,q',l'⟩:=a_.lk lk (show a_ D n c i (.lst ts) (.ref ad) from ⟨ad,z,rfl,n1,n2,P,l⟩);cases e;exact⟨Y,q',l'⟩
 | «mut» j=>
  obtain⟨ad,hj,rfl⟩:=d;have F:aJ D W n c i E _ (λK _=>∃h,g[j]?=aA (.lst h)/\K (h.reverse,iN j h) g):=q;obtain⟨h,M,F⟩:=F.ex1;obtain⟨z,P,l⟩:=m.ob j ad _ hj M;have F:aJ D W n c i E _ (RE.ok (h.reverse,iN j h) g):=F;refine fin (lv:=iN j h) r1 (.inl P) l (F.ok (aO.refl _ _) m _ _ X9 (λS x O r lk mm hl=>?_) M);obtain⟨Y,q',l'⟩:=mm.ob j ad _ (lk.st j ad hj) hl;exact⟨Y,.inl q',l'⟩
 |_=>exact aJ.elim q
end
theorem jC{K:bJ}(a:mY K A cls fld=aB)(h:A.cs.lookup c=aA C):gL K C:=by
 simp only[mY,cB,fT] at a;obtain⟨⟨⟨m,l⟩,i⟩,k⟩:=a;have b:=(i _ (qL h)).1;simp only[Br,cB] at b;obtain⟨⟨⟨⟨j,g⟩,f⟩,e⟩,d⟩:=b;exact⟨g,f,e,ZY d⟩
noncomputable def AJ:GM->Option (Nat×Fn)
 |.mk c aC g=>aA (c,g)
 |_=>aE
theorem OK(h:AJ g=aA q):g=.mk q.1 aC q.2:=by
 unfold AJ at h;split at h
 ·cases h;rfl
 ·cases h
noncomputable def Fk:ER:=λr a e=>(yz e).bind λq=>gd ((cD a.N q.x).isNone&&a.calm) ((lJ r a q.as).bind λfs=>(AJ (a.look q.x)).bind λw=>aA (uh w.1 w.2 fs))
theorem Pb:cM D Fk:=by
 intro r H X W j k e d C h;obtain⟨q,i,h⟩:=aP h;obtain⟨f,h⟩:=zc h;obtain⟨fs,g,h⟩:=aP h;obtain⟨w,b,h⟩:=aP h;cases h;rw[wG i];obtain⟨a,c⟩:=j5 (OK b) (by intro z;cases z);exact R4 C a c (zF f).2 (jh H C g)
noncomputable def dC(m:aG):aG:=⟨#[46]++m.cps⟩
noncomputable def Fj:GM->Option (Nat×aG×Fn)
 |.met c nm g=>aA (c,nm,g)
 |_=>aE
theorem PD(h:Fj g=aA q):g=.met q.1 q.2.1 q.2.2:=by
 cases g<;>first|(cases h;rfl)|cases h
noncomputable def AD (r:cX)(Γ:Cn)(ky:aG)(q:HW):Option De:=gd (qg q.o&&q.pa.endLine==q.pc.line) (gd (Γ.calm&&decide (q.as.length<30)) (gd (Γ.U.contains ky) ((r.e Γ q.o).bind λgo=>(lJ r Γ q.as).bind λfs=>(Fj (Γ.gl ky)).bind λw=>gd (w.2.1==q.m) (aA (zz w.1 w.2.2 go fs)))))
theorem XN{W:XW}(H:bQ D r)(C:Ck D W Γ X k)(h:AD r Γ ky q=aA d):PE X (.Call (.Attribute q.o q.m q.pa) q.as [] q.pc) (aW D W d):=by
 obtain⟨c,h⟩:=zc h;obtain⟨b,h⟩:=zc h;obtain⟨l,h⟩:=zc h;obtain⟨go,j,h⟩:=aP h;obtain⟨fs,i,h⟩:=aP h;obtain⟨w,g,h⟩:=aP h;obtain⟨f,h⟩:=zc h;cases h;have a:=PD g;rw[wC f] at a;exact Py C (by simpa using l) a (zF b).1 (zF c).1 (zF c).2 (of_decide_eq_true (zF b).2) (H.e C j) (jh H C i)
noncomputable def EZ:ER:=λr a e=>(xV e).bind λq=>AD r a (dC q.m) q
theorem OS:cM D EZ:=by
 intro r H X W b k e d C h;obtain⟨q,a,h⟩:=aP h;rw[v7 a];exact XN H C h
noncomputable def Gh:IR:=λr b e=>(yz e).bind λq=>(xZ q.as).bind λa=>gd (q.x==("reversed":aG)) (gd ((cD b.N q.x).isNone&&aT a) (gd (lI (b.look "reversed")) ((r.e b a).bind λf=>aA (Bo f))))
theorem R7:oS D Gh:=by
 intro r H X W m k n e d C o h;obtain⟨q,l,h⟩:=aP h;obtain⟨a,i,h⟩:=aP h;obtain⟨c,h⟩:=zc h;obtain⟨g,h⟩:=zc h;obtain⟨b,h⟩:=zc h;obtain⟨f,j,h⟩:=aP h;cases h;rw[wG l,w8 i,wC c];exact M8 C (qY b).1 (qY b).2 (zF g).2 (H.e C j)
section
variable {X:Cx}{pins:List (aF×bA)}{s:Shared}{σ:St}{H:Hp}
theorem kO(I:Inv X pins σ H s)(ox:dA X H x)(l:∀p∈pins,p.1≠x)(hx:a6 X.prog X.w (upd H x o) s.heap x o):Inv X pins σ (upd H x o) s:=by
 have g:∀b,H b≠aE->b≠x:=λb h z=>h (by rw[z];exact ox.free);refine⟨I.ok,I.os,I.bare,⟨I.base.keep,I.base.slot,λb o e n d=>?_,I.base.there,λb i e=>?_,λb o u e=>?_,λb j e=>?_⟩,I.loc,I.cell,?_,λy c e=>?_,λp f=>?_,λb k e=>?_,I.len⟩
 ·have:b≠x:=λz=>by
   rcases ox.new with q|q
   ·exact d (by rw[z];exact q)
   ·rw[←z,e] at q;cases q
  rw[z4 this];exact I.base.free b o e n d
 ·have q:=I.base.tups b i e;rw[z4 (g b (by rw[q];simp))];exact q
 ·have q:=I.base.frzs b o u e;rw[z4 (g b (by rw[q];simp))];exact q
 ·obtain⟨a,q⟩:=I.base.tbls b j e;exact⟨a,by rw[z4 (g b (by rw[q];simp))];exact q⟩
 ·rw[z4 (b_ ox.loc)];exact I.free
 ·rw[z4 (ox.cel y c e)];exact I.freeC y c e
 ·obtain⟨e,n,r⟩:=I.pin p f;have:p.1≠x:=(cH.mp f).elim (ox.pin p) (l p);exact⟨e,by rw[z4 this];exact n,r⟩
 ·by_cases z:b=x
  ·subst z;rw[z3] at e;cases e;exact hx
  ·rw[z4 z] at e;exact (I.hok b k e).stay (λ_ _ _ q=>q) (λc q=>by
    by_cases w:c=x
    ·rw[w,ox.free] at q;cases q
    ·rw[z4 w];exact q) λc _ q=>by
    by_cases w:c=x
    ·rw[w,ox.free] at q;cases q
    ·rw[z4 w];exact q
theorem Hs(f:Wx X pins H b):dA X H b/\∀p∈pins,p.1≠b:=
 ⟨⟨f.1,f.2.1,f.2.2.1,f.2.2.2.1.imp id λh=>lD h,f.2.2.2.2.1,λp a=>f.2.2.2.2.2 p (eK _ a)⟩,λp a=>f.2.2.2.2.2 p (dM _ a)⟩
end
end NH
namespace L2
open PySem PySem.Spec PyProof.Rows
section
variable {κ:Type}[DecidableEq κ]
noncomputable def yC(a:List (κ×V))(k:κ):Option V:=(a.find? λb=>decide (b.1=k)).map (·.2)
noncomputable def eH(a:List (κ×V))(k:κ)(v:V):List (κ×V):=
 if (a.any λb=>decide (b.1=k))=aB then a.map (λb=>if b.1=k then (b.1,v) else b) else a++[(k,v)]
theorem xQ{k:κ}(e:p.1=k):yC (p::r) k=aA p.2:=by simp[yC,pL,e]
theorem xX{k:κ}(e:¬p.1=k):yC (p::r) k=yC r k:=by simp[yC,pL,e]
theorem Jc(a:List (κ×V))(k:κ)(v:V):(eH a k v).length<=a.length+1:=by
 unfold eH;split
 ·rw[cJ];lia
 ·rw[l3,fU,nR];lia
theorem cV.isSome_eq(r:cV o u):o.isSome=u.isSome:=by
 cases o with
 |none=>cases u with
  |none=>rfl
  |some _=>exact (show False from r).elim
 |some _=>cases u with
  |none=>exact (show False from r).elim
  |some _=>rfl
theorem cV.getD(r:cV o u)(rd:RelV d d'):RelV (o.getD d) (u.getD d'):=by
 cases o with
 |none=>cases u with
  |none=>exact rd
  |some _=>exact (show False from r).elim
 |some _=>cases u with
  |none=>exact (show False from r).elim
  |some _=>exact r
theorem KV.val(r:KV d vs)(k:κ):cV (yC d k) (lN vs k):=by
 unfold KV at r;induction r with
 |nil=>exact f_
 | @cons p q ps a h t f=>
  obtain⟨h1,h2⟩:=h;by_cases e:p.1=k
  ·have c:q.1=k:=h1.symm.trans e;have b:lN (q::a) k=aA q.2:=by simp[lN,pL,c]
   rw[xQ e,b];exact h2
  ·have c:¬q.1=k:=λz=>e (h1.trans z);have b:lN (q::a) k=lN a k:=by simp[lN,pL,c]
   rw[xX e,b];exact f
theorem KV.any(r:KV d vs)(k:κ):(d.any λg=>decide (g.1=k))=vs.any λg=>decide (g.1=k):=by
 unfold KV at r;induction r with
 |nil=>rfl
 |cons h t a=>rw[nC,nC,a,h.1]
theorem KV.repl(r:KV g vs)(k:κ)(a:RelV y u) :
  KV (g.map λd=>if d.1=k then (d.1,y) else d) (vs.map λd=>if d.1=k then (d.1,u) else d):=by
 unfold KV at r ⊢;induction r with
 |nil=>exact .nil
 | @cons p q ps c h t b=>
  rw[dU,dU];refine .cons ?_ b;obtain⟨h1,h2⟩:=h;by_cases e:p.1=k
  ·rw[if_pos e,if_pos (h1.symm.trans e)];exact⟨h1,a⟩
  ·rw[if_neg e,if_neg (λz=>e (h1.trans z))];exact⟨h1,h2⟩
theorem KV.put(r:KV d vs)(k:κ)(a:RelV y u):KV (eH d k y) (stored vs k u):=by
 unfold eH stored;rw[r.any k];by_cases e:(vs.any λb=>decide (b.1=k))=aB
 ·rw[if_pos e,if_pos e];exact r.repl k a
 ·rw[if_neg e,if_neg e];exact Paired.snoc r ⟨rfl,a⟩
theorem KV.keys{a:List (κ×V)}(r:KV a vs):a.map (·.1)=vs.map (·.1):=by
 unfold KV at r;induction r with
 |nil=>rfl
 |cons h t b=>rw[dU,dU,b,h.1]
theorem KV.length{a:List (κ×V)}(r:KV a vs):a.length=vs.length:=CG r
end
theorem VZ{P:cG}(r:RelV (kV k) u):(zN P w).is k u=aB:=by
 cases k with
 |inl i=>obtain⟨t,e⟩:=(show ∃t,u=mB i t from r);subst e;exact yP P w i t
 |inr x=>obtain⟨t,e⟩:=(show ∃t,u=o6 x t from r);subst e;exact yZ P w x t
section
variable {P:Program}{w:World}{H:Hp}{h:aV}{a:aF}
theorem Mc(ok:dR P w H h)(e:Rd H a u):a6 P w H h a u:=e.ok ok
noncomputable def Cf (H:Hp)(a:aF)(b:List (Key×V)):Prop:=Rd H a (.dK b)\/∃ep,H a=aA (.dE ep b)
theorem jA(ok:dR P w H h)(e:Cf H a g):g.length<=sizeLine/\(a==gT)=aC/\∃vs,KV g vs/\h.DictOf (zN P w) a vs:=by
 rcases e with e|⟨ep,e⟩
 ·exact show a6 P w H h a (.dK g) from Mc ok e
 ·obtain⟨z,y,vs,r,d⟩:=(show a6 P w H h a (.dE ep g) from ok a _ e);exact⟨z,y,vs,r,d.dictOf⟩
theorem Mw(ok:dR P w H h)(e:Rd H a (.dK d)):d.length<=sizeLine/\(a==gT)=aC/\∃vs,KV d vs/\h.DictOf (zN P w) a vs:=jA ok (.inl e)
theorem ML(ok:dR P w H h)(e:H a=aA (.dK d)):d.length<=sizeLine/\(a==gT)=aC/\∃vs,KV d vs/\h.DictOf (zN P w) a vs:=Mw ok (.inl e)
end
noncomputable def fF (H:Hp)(a:aF)(y:V)(r:Option V):Prop:=∃b k,Cf H a b/\y=kV k/\r=yC b k
noncomputable def i_ (H:Hp)(a:aF)(y v:V)(c:Hp):Prop:=∃b k,(H a=aA (.dK b)\/∃ep,H a=aA (.dE ep b))/\y=kV k/\b.length<sizeLine/\c=upd H a (.dK (eH b k v))
theorem fF.k{k:Key}(e:H a=aA (.dK d)):fF H a (kV k) (yC d k):=⟨d,k,.inl (.inl e),rfl,rfl⟩
theorem i_.k{k:Key}(e:H a=aA (.dK d))(b:d.length<sizeLine):i_ H a (kV k) v (upd H a (.dK (eH d k v))):=⟨d,k,.inl e,rfl,b,rfl⟩
section
variable {X:Cx}{pins:List (aF×bA)}{σ:St}{H:Hp}{s:Shared}{a:aF}{y v:V}{u r:aD}{o:Option V}{A:Around}{E:aD->Shared->Prop}
theorem Inv.big(I:Inv X pins σ H s):gT<s.heap.objs.size:=by
 have h:bO<s.heap.objs.size:=(I.mod.glob.keeps I.bk).lt;exact sF (by decide) h
theorem YO(m:A.units+1<cLine)(I:Inv X pins σ H s)(g:fF H a y (aA v))(f:RelV y u)(h:∀d j,Inv X pins σ H j->RelV v d->Q d j) :
  wpAny (aR X.prog X.w) A (ij (.ref a) u) Q E s:=by
 obtain⟨i,k,e,rfl,l⟩:=g;obtain⟨z,hd,c,rel,dd⟩:=jA I.hok e;obtain⟨d,hw,b⟩:=cV.some_of (v:=v) (o:=lN c k) (by rw[l];exact rel.val k);exact wpAny_getItem_of (VZ f) dd.mapOf hw (h d _ (I.tok _) b)
theorem Lr(i:A.units+1<cLine)(I:Inv X pins σ H s)(g:fF H a y o)(b:RelV y u)(h:∀d,Inv X pins σ H d->Q (.bool o.isSome) d) :
  wpAny (aR X.prog X.w) A (eG .In u (.ref a)) Q E s:=by
 obtain⟨c,k,e,rfl,l⟩:=g;obtain⟨z,hd,f,rel,dd⟩:=jA I.hok e;refine wpAny_in_of (VZ b) hd dd.mapOf ?_;rw[←(rel.val k).isSome_eq,←l];exact h _ (I.tok _)
theorem OT(i:A.units+1<cLine)(I:Inv X pins σ H s)(g:fF H a y o)(b:RelV y u)(h:∀d,Inv X pins σ H d->Q (.bool (!o.isSome)) d) :
  wpAny (aR X.prog X.w) A (eG .NotIn u (.ref a)) Q E s:=by
 obtain⟨c,k,e,rfl,l⟩:=g;obtain⟨z,hd,f,rel,dd⟩:=jA I.hok e;refine wpAny_notIn_of (VZ b) hd dd.mapOf ?_;rw[←(rel.val k).isSome_eq,←l];exact h _ (I.tok _)
theorem Vc(I:Inv X pins σ H s)(c:oR (H a))(hs:gA a s.heap h')(he:∃q,h'.get? a=aA q)(new:a6 X.prog X.w (upd H a ob) h' a ob) :
  Inv X pins σ (upd H a ob) {s with heap:=h',toks:=t'}:=
 I.write (x:=a) (e:=a) c (.inl rfl) (λb q d z=>(hs.2 b d).trans z) he new
theorem Hq{P:cG}(z:d.length<=sizeLine)(hd:(a==gT)=aC)(rel:KV d vs)(dd:h'.DictOf (zN P w) a vs) :
  a6 P w g h' a (.dK d):=⟨z,hd,vs,rel,dd⟩
theorem Ue(C:A.units+1<cLine)(I:Inv X pins σ H s)(g:i_ H a y v B)(i:RelV y u)(j:RelV v r)(h:∀d,Inv X pins σ B d->Q () d) :
  wpAny (aR X.prog X.w) A (setItem (.ref a) u r) Q E s:=by
 obtain⟨b,k,e,rfl,l,rfl⟩:=g;obtain⟨z,hd,f,rel,dd⟩:=jA I.hok (e.imp .inl id);have m:f.length<=sizeLine:=by rw[←rel.length];exact z
 have p:(eH b k v).length<=sizeLine:=by have:=Jc b k v;lia
 refine wpAny_setItem_pairs (hsz:=m) (VZ i) dd λx c n=>h _ ?_;have t:∃q,x.get? a=aA q:=let ⟨q,_,_,o,_⟩:=c;⟨q,o⟩;exact Vc I (by rcases e with e|⟨ep,e⟩<;>rw[e]<;>exact f_) n t (Hq p hd (rel.put k j) c)
end
section
variable {X:Cx}{pins:List (aF×bA)}{σ:St}{H:Hp}{s:Shared}{a:aF}{kvs:List (Key×V)}{A:Around}{E:aD->Shared->Prop}
theorem RR(I:Inv X pins σ H s)(e:H a=aA (.dK kvs)\/∃ep,H a=aA (.dE ep kvs))(h:∀d,Inv X pins σ (upd H a (.dK [])) d->Q .none d):wpAny (aR X.prog X.w) A (call (.builtin "dict.clear") [.ref a]) Q E s:=by
 obtain⟨z,hd,c,rel,dd⟩:=jA I.hok (e.imp .inl id);refine call_meetsIn Es dd.typeIs PySem.F.entry_dict_clear (PySem.F.args_dict_clear_1 _) (meets_dict_clear (zN X.prog X.w) a) ⟨c,dd,by rw[←rel.length];exact z,λj b f=>h _ ?_⟩;have i:∃q,j.get? a=aA q:=let ⟨q,_,_,g,_⟩:=b;⟨q,g⟩;exact Vc (t':=s.toks) I (by rcases e with e|⟨ep,e⟩<;>rw[e]<;>exact f_) f i (Hq (hL _) hd .nil b)
theorem NL(I:Inv X pins σ H s)(e:H a=aA (.dK kvs)):∃ep,Inv X pins σ (upd H a (.dE ep kvs)) s:=by
 obtain⟨z,hd,b,rel,dd⟩:=ML I.hok e;obtain⟨ep,da⟩:=dd.dictAt;obtain⟨o,es,c,_⟩:=id da;exact⟨ep,Vc (s:=s) (h':=s.heap) (t':=s.toks) I (by rw[e];exact f_) ⟨rfl,λ_ _=>rfl⟩ ⟨o,c⟩ ⟨z,hd,b,rel,da⟩⟩
theorem LY(I:Inv X pins σ H s)(e:Cf H a kvs)(h:∀t d,Inv X pins σ H d->Q (.int kvs.length t) d):wpAny (aR X.prog X.w) A (call (.builtin "len") [.ref a]) Q E s:=by
 obtain⟨z,hd,b,rel,dd⟩:=jA I.hok e;refine call_len_dict hd dd (by rw[←rel.length];rw[eQ] at z;lia) ?_;rw[←rel.length];exact h _ _ (I.tok _)
end
noncomputable def Aw(i:aI):Prop:=∀a b,pq i aC a b=operate [a,b] (ij a b)
theorem WK{id:String} 
  (k:nu (.type T) "__getitem__"=pure (aA (.builtin id))) (hs:Aw d)
  (h:wpAny (aR prog w) A (eval j env) (λo z=>wpAny (aR prog w) A (eval d env) (λi g=>g.TypeIs o T/\wpAny (aR prog w) A (ij o i) Q E g) E z) E s) :
  wpAny (aR prog w) A (eval (.Subscript j d pos) env) Q E s:=by
 refine Subscript_ (dO h (λo z e=>dO e (λi g a=>?_) λ_ _ x=>x) λ_ _ x=>x);obtain⟨f,a⟩:=a;unfold sI;refine wpAny_bind ?_;rw[getitemInPython_of_ne f.not_modules];refine wpAny_bind (wpAny_specialOf f k ?_);have fin:wpAny (aR prog w) A (pq d aC o i) (λr b=>wpAny (aR prog w) A (letTemporaryGo j o r >>= λ_=>pure r) Q E b) E g:=by
  rw[hs o i];exact wpAny_operating (dO a (λr b c=>wpAny_bind (wpAny_letTemporaryGo (wpAny_pure c))) λ_ _ x=>x)
 first
  |exact wpAny_pure (wpAny_bind fin)
  |exact wpAny_bind (wpAny_pure (wpAny_bind fin))
  |exact wpAny_bind fin
theorem Jo{X:Cx}{b:St}{H:Hp}{y:V}(I:Inv X d b H s)(g:fF H a y o):s.TypeIs (.ref a) "dict":=by
 obtain⟨c,k,e,_,_⟩:=g;obtain⟨_,_,f,_,dd⟩:=jA I.hok e;exact dd.typeIs
noncomputable def My(d ty:TE):TE:=λb H Q=>d b H λx e=>ty b e λy c=>∃a v,x=.ref a/\fF c a y (aA v)/\Q v c
section
variable {X:Cx}{o i:aI}{pos:Pos}{td ty:TE}
theorem P2(n:X.A.units+1<cLine)(ho:PE X o td)(p:PE X i ty)(hs:Aw i):PE X (.Subscript o i pos) (My td ty):=by
 intro b s d H Q I h;refine WK PySem.F.slot_dict_getitem.lookup hs (aX (ho b s d H _ I h) λu f ⟨x,w,r,k,m⟩=>aX (p b f d w _ r m) λD C ⟨y,t,e,j,a,v,ex,g,l⟩=>?_);subst ex;obtain rfl:u=cN a:=k;exact⟨Jo e g,YO n e g j λz B q c=>⟨v,t,q,c,l⟩⟩
end
theorem Sd{P:cG}(h:aV)(a:gT<h.objs.size):a6 P w H (h.push {cls:=.type "dict",data:=.dict #[]}) h.objs.size (.dK []):=
 ⟨hL _,beq_eq_false_iff_ne.mpr (b_ (dP a)),[],.nil,DD h⟩
noncomputable def Ng:TE:=λ_ H Q=>∀p,H p=aE->Q (.ref p) (upd H p (.dK []))
section
variable {X:Cx}{pos:Pos}
theorem Vt:PE X (.Dict [] [] pos) Ng:=λb s c H Q I h=>
 wpAny_Dict_empty ⟨.ref s.heap.objs.size,_,I.laid (a:=s.heap.objs.size) (o:=.dK []) (t':=s.toks) (λ_ _ q=>bU _ q) (bE _) (Sd s.heap I.big),rfl,h _ (I.hok.fresh (bE _))⟩
end
structure M1(X:Cx)(o:aI)(m:aG)(apos:Pos)(e:aI)(cpos:Pos):Prop where
 base:lV o m X.env (eval o X.env)=eval o X.env
 few:((fJ cpos (d7 [e] X.env)).all (λx=>!x.1)&&(lg cpos (lq [] X.env)).all (λx=>x.1.isSome)
  &&decide (([e]:List aI).length+([]:List iC).length+(if ([]:List iC).isEmpty then 0 else 1)<30))=aB
 line:(apos.endLine==cpos.line)=aB
 trees:fJ cpos (d7 [e] X.env)=[(aC,eval e X.env)]
end L2
namespace NH
open PySem PySem.Spec PyProof.Rows L2
noncomputable def zL(z:Key):List (Key×T)->Option T
 |[]=>aE
 |p::r=>if p.1=z then aA p.2 else zL z r
noncomputable def xr (z:Key)(t:T)(a:List (Key×T)):List (Key×T):=
 if (a.any λb=>decide (b.1=z))=aB then a.map (λb=>if b.1=z then (b.1,t) else b) else a++[(z,t)]
noncomputable abbrev JF:De:=λ_ a=>.ok (.mut a.length) (a++[.dic []])
noncomputable abbrev Bw:De:=λ_ a=>.ok (.dic []) a
noncomputable abbrev T7(o f g:De):De:=λd h=>(o d h).bind λj c=>match j with
 |.mut i=>λK Z=>(∃a,c[i]?=aA (.lst a))/\f d c (λl e=>g d e (λt b=>match l with
  |.int k=>∃a,b[i]?=aA (.lst a)/\(0<=k/\k<=a.length/\a.length<aQ)/\K .non (b.set i (.lst (a.take k.toNat++t::a.drop k.toNat)))
  |_=>False) Z) Z
 |_=>.st
section
variable {X:Cx}{D:DP}{W:XW}{σ:St}{H:Hp}{φ α:List aF}{τ:Sl}{μ:aK}{pos:Pos}
theorem VC:∀{a:List (Key×T)}{gs:List (Key×V)},bF D φ α H a gs->(gs.any λg=>decide (g.1=z))=(a.any λg=>decide (g.1=z))
 |[],_,h=>by cases h;rfl
 |p::r,_,h=>by
  obtain⟨v,q,rfl,d,l⟩:=h;rw[nC,nC,VC l]
theorem wK:∀{a:List (Key×T)}{gs:List (Key×V)},bF D φ α H a gs->gs.length=a.length
 |[],_,h=>by cases h;rfl
 |p::r,_,h=>by
  obtain⟨v,q,rfl,d,l⟩:=h;rw[fU,fU,wK l]
theorem uM(dt:a_ D φ α H t w):∀{a:List (Key×T)}{gs:List (Key×V)},bF D φ α H a gs->bF D φ α H (a.map λg=>if g.1=z then (g.1,t) else g) (gs.map λg=>if g.1=z then (g.1,w) else g)
 |[],_,h=>by cases h;rfl
 |p::r,_,h=>by
  obtain⟨v,q,rfl,d,l⟩:=h;rw[dU,dU];by_cases e:p.1=z
  ·rw[if_pos e,if_pos (show (p.1,v).1=z from e)];exact⟨w,_,rfl,dt,uM dt l⟩
  ·rw[if_neg e,if_neg (show ¬(p.1,v).1=z from e)];exact⟨v,_,rfl,d,uM dt l⟩
theorem QP(dt:a_ D φ α H t w):∀{a:List (Key×T)}{gs:List (Key×V)},bF D φ α H a gs->bF D φ α H (a++[(z,t)]) (gs++[(z,w)])
 |[],_,h=>by cases h;exact⟨w,[],rfl,dt,rfl⟩
 |p::r,_,h=>by
  obtain⟨v,q,rfl,d,l⟩:=h;exact⟨v,_,rfl,d,QP dt l⟩
theorem JE(dt:a_ D φ α H t w)(h:bF D φ α H d gs):bF D φ α H (xr z t d) (eH gs z w):=by
 unfold xr eH;rw[VC h];split
 ·exact uM dt h
 ·exact QP dt h
theorem P5:PE X (.Dict [] [] pos) (aW D W JF):=by
 refine PE.mono Vt ?_;rintro e H Q ⟨c,g,d,f,h,a,p⟩;intro x b;refine aJ.ok p (xc b) (a.layO b ⟨[],z3,rfl⟩) _ ⟨x,?_,rfl⟩;rw[←a.len,fA (bE _)];simp
theorem Ps:PE X (.Dict [] [] pos) (aW D W Bw):=by
 refine PE.mono Vt ?_;rintro e H Q ⟨c,g,d,f,h,a,p⟩;intro x b;exact aJ.fresh p a (zf b) ⟨x,[],rfl,zk a b,zm a b,z3,rfl⟩
end
noncomputable def BC:ER:=λ_ _ e=>match e with
 |.Dict [] [] _=>aA Bw
 |_=>aE
theorem Tb:cM D BC:=by
 intro r H X W a k e d C h;unfold BC at h;split at h
 ·cases h;exact Ps
 ·cases h
noncomputable def ZX:ER:=λ_ _ e=>match e with
 |.Dict [] [] _=>aA JF
 |_=>aE
theorem QE:cM D ZX:=by
 intro r H X W a k e d C h;unfold ZX at h;split at h
 ·cases h;exact P5
 ·cases h
end NH
namespace NH.P
open PySem L2 NH
@[reducible] noncomputable def Q6:List Ds:=[(zq (u9 (wM [2] (eV 0)) (Bj (wM [1] (eV 0)))))]
noncomputable def zy:Fn:=bH 1 0 Q6
@[reducible] noncomputable def yI:List Ds:=[(bM (fO (qW (tE (wM [3] (eV 0)))) (qW (tE (mV (eC (.int 1)) [(.LtE,(eZ uH (eV 0))),(.LtE,(eC (.int 8)))])))) [(zq (eC (.bl aC)))] []),(zq (eZ KO (vz 1 [] (.one 0) (iE (eV 0)) [] (zE .In (eV 0) (eC (.str "abcdefghijklmnopqrstuvwxyz"))))))]
noncomputable def zT:Fn:=bH 1 0 yI
@[reducible] noncomputable def W4:List Ds:=[(zq (u9 (z8 zy [(eV 0)]) (zE .GtE (eV 0) (eC (.int 1)))))]
noncomputable def qQ:Fn:=bH 1 0 W4
@[reducible] noncomputable def uP:List Ds:=[(zq (u9 (z8 zy [(eV 0)]) (mV (eC (.int 0)) [(.LtE,(eV 0)),(.Lt,(eV 1))])))]
noncomputable def qz:Fn:=bH 2 0 uP
@[reducible] noncomputable def y4:List Ds:=[(bM (qW (xm (tE (z8 qQ [(eV 1)])) (xm (tE (z8 qQ [(eV 2)])) (tE (z8 qQ [(eV 3)]))))) [(zU 12 [(eC (.str "a shape has three whole numbers from 1 on"))])] []),(qa (eV 0) 0 (eV 1)),(qa (eV 0) 1 (eV 2)),(qa (eV 0) 2 (eV 3))]
noncomputable def j0:Fn:=bH 4 0 y4
@[reducible] noncomputable def Z5:List Ds:=[(zq (zh .Mult (zh .Mult (ze (eV 0) 0) (ze (eV 0) 1)) (ze (eV 0) 2)))]
noncomputable def kW:Fn:=bH 1 0 Z5
@[reducible] noncomputable def W9:List Ds:=[(zq (z8 qz [(eV 1),(z8 kW [(eV 0)])]))]
noncomputable def uC:Fn:=bH 2 0 W9
@[reducible] noncomputable def xD:List Ds:=[(bM (qW (tE (z8 uC [(eV 0),(eV 1)]))) [(zU 13 [(eC (.str "no name of the shape"))])] [])]
noncomputable def je:Fn:=bH 2 0 xD
@[reducible] noncomputable def yE:List Ds:=[(bM (tE (zE .Lt (eV 1) (eZ uH (eV 0)))) [(zq (bD (eV 0) (eV 1)))] []),(zq (eC (.int 0)))]
noncomputable def vS:Fn:=bH 2 0 yE
@[reducible] noncomputable def Q2:List Ds:=[(zS (z8 je [(eV 0),(eV 1)])),(zt 2 (zh .Mod (eV 1) (ze (eV 0) 2))),(zt 3 (zh .FloorDiv (eV 1) (ze (eV 0) 2))),(zq (zG [(zh .FloorDiv (eV 3) (ze (eV 0) 1)),(zh .Mod (eV 3) (ze (eV 0) 1)),(eV 2)]))]
noncomputable def xR:Fn:=bH 2 2 Q2
end NH.P
namespace NH
open PySem PySem.Spec PyProof.Rows L2
noncomputable abbrev mh:De:=λ_ _=>RE.st
noncomputable def Fw:ER:=λ_ _ _=>aA mh
theorem O6:cM D Fw:=by
 intro r H X W j k e d C h;cases h;rintro a s f H Q I ⟨b,i,c,g,l,m,p⟩;exact p.elim
noncomputable abbrev rJ(t:T)(μ:aK):RE T:=match t with
 |.int i=>.grd (i.natAbs<2 ^ 1900) (.ok (.str (toString i)) μ)
 |.str x=>.ok (.str x) μ
 |_=>.st
section
variable {X:Cx}{D:DP}{W:XW}{pins:List (aF×bA)}{s:Shared}{σ:St}{H:Hp}{φ α:List aF}{μ:aK}{h:De}
theorem Oy(h:n<2 ^ 1900):n.log2<1920:=by
 by_cases z:n=0
 ·subst z;decide
 ·exact sF ((sq z).mpr h) (by decide)
theorem Mo:B1 X D W (.type "str") rJ:=by
 intro a s g H f i h t v u Q I b d r p;unfold rJ at p;split at p
 ·cases d;obtain⟨e,p⟩:=p.grd;obtain⟨c,rfl⟩:=r;exact P.str_of_int (Oy e) ⟨.str _,H,I.tok _,⟨_,rfl⟩,p.here b rfl⟩
 ·cases d;obtain⟨c,rfl⟩:=r;exact P.str_of_str ⟨.str _,H,I,⟨_,rfl⟩,p.here b rfl⟩
 ·exact p.elim
noncomputable def EX:ER:=l_ "str" rJ aC
theorem OP:cM D EX:=yA λC a c _ b d=>By C a c (by decide +kernel) (by decide) b Mo d
end
section
variable {P:Program}{w:World}{K:PySem.W.Frag}{mg:aG->Option aD}{base:aV}{D:DP}{Γ:Cn}{k n:Nat}
noncomputable abbrev Cn.han(Γ:Cn):Cn:={Γ with calm:=aC,lam:=aE,qt:=aB}
theorem R1{R:cR}(HR:bY D R){f:aF}{name qual:aG}{params:Arguments}{body:List bC}{scope:Scope}{dV kV doc pm j ct oc:aD}{an od:Option aF}{osl:Array (Option aD)}{ps:List aG}{m:Nat}{ds:List Ds}
    (M:fC D P w K mg base Γ k) (lk:K.lookup f=aA ⟨oc,od,.func (fM name qual params body scope dV kV doc pm an j ct),osl⟩) (hcd:eT K j qual=aB) (hs:jH Γ ps scope=aB) (hm:Γ.N.length=ps.length+m) (hds:zi ((aU R n).s Γ.han) body=aA ds) :
    UA P w K mg base (k+1) f (fM name qual params body scope dV kV doc pm an j ct) ps (dW D ps.length (bH ps.length m ds)):=by
  simp only[jH,cB,fT,beq_iff_eq,l9,decide_eq_true_eq,bne_iff_ne,ne_eq] at hs;obtain⟨⟨⟨⟨⟨⟨⟨⟨⟨h1,h2⟩,h3⟩,h4⟩,h5⟩,h6⟩,h7⟩,h8⟩,h9⟩,h10⟩:=hs;have U:∀x∈Γ.N,(Γ.cel.contains x=aB/\scope.names.lookup x=aA .cell)\/(Γ.cel.contains x=aC/\scope.names.lookup x=aA .local):=λx g=>by
    have q:=(h7 x g).2;cases hc:Γ.cel.contains x with
    |true=>rw[hc,if_pos rfl] at q;exact .inl ⟨rfl,beq_iff_eq.mp q⟩
    |false=>rw[hc] at q;exact .inr ⟨rfl,beq_iff_eq.mp q⟩
  have T:∀x∈Γ.N,scope.names.lookup x=aA .local\/scope.names.lookup x=aA .cell:=λx g=>(U x g).elim (λz=>.inr z.2) λz=>.inl z.2;have S:c_ Γ.N ps scope:=⟨h1,h2,h3,h4,h5,λx g=>T x (by rw[←h5] at g;exact ra g),h6⟩;intro A i s H args us vs Q hr hq e0 hb r hsp;obtain⟨hl,φ,α,ts,μ,d,mr,K0,Z0,⟨hle,q⟩,hk0,hz0⟩:=hsp;have KX:K.In s.heap:=e0.mod.kin.keeps λb o e=>(e0.bs b o e).1;have lim:s.heap.NoLimit:=e0.mod.nolimit.keeps λb o e=>(e0.bs b o e).1;have Z:∀y∈ps.zip us,scope.names.lookup y.1=aA .local\/(scope.names.lookup y.1=aA .cell/\((o5 (s.heap.objs.size+1) scope.names []).lookup y.1).isSome=aB):=by
    rintro⟨y,v⟩ hy;rcases S.par y (pQ hy).1 with z|z
    · exact .inl z
    · exact .inr ⟨z,tP _ _ _ (.inl z)⟩
  have hdp:A.depth<recursionLimit:=by have:=hr.dp;lia
  refine tM hdp (KX _ _ lk) rfl S.co S.gen rfl (DL KX hcd) (hb _ _ _ _ (t9 S.kind Z λenv he s1 x=>?_));subst he;refine⟨lim.keeps x.toInCall.keep,sO ?_⟩;have e0':dB P w K mg base {A with handled:=aE} i s H:=⟨e0.frames,e0.mod,e0.bs,e0.bsz,e0.funs,e0.frf,e0.hok,e0.bare⟩;have a:=yx (fnb:=λ_=>aB) (CX:=λ_ _ _ _ _ _=>False) (E:=λ_ _ _=>False) (f:=f) (cd:=j) (qual:=qual) (A:={A with handled:=aE}) S rfl e0' hl r x;generalize Y:({Jw (λ_ _ _ _ _ _=>False) P w K mg base Γ.N qual scope f j A i s H (λ_ _ _=>False) with calm:=aC,xe:=λ_ _=>False}:Cx)=X;have I:Inv X [] (start Γ.N vs) H s1:=by
    subst Y;exact⟨⟨a.ok.mod,a.ok.kind,a.ok.glob,a.ok.blt,a.ok.above,a.ok.inj,a.ok.has,a.ok.cab,(λh=>by cases h),tI e0.frames,a.ok.stk,a.ok.exf,a.ok.bs,a.ok.bsz,a.ok.noex,a.ok.exfs,a.ok.funs,a.ok.frf⟩,a.os,a.bare,a.base,a.loc,a.cell,a.free,a.freeC,a.pin,a.hok,a.len⟩
  have F:iR X (fQ qual scope s.heap.objs.size f j) i s.heap.objs.size:=by rw[←Y];exact⟨rfl,rfl,rfl⟩
  have rmh:dQ k X.A:=by
    subst Y;exact⟨by have:=hr.dp;show A.depth+1+3*k+5<_;lia,by have:=hr.un;show A.units+3+16*k+200<_;lia⟩
  have C:Sk D iM Γ.han X k:=by
    subst Y
    exact { hK := M.hK,hN := rfl,nd := h4,vis := fun x g => (T x g).elim .inl fun z => .inr (.inl z),dbg := fun x g => ⟨beq_eq_false_iff_ne.mpr (h7 x g).1.1,beq_eq_false_iff_ne.mpr (h7 x g).1.2⟩,
            dbG:=λx g=>(M.glo x (by simpa using (h8 x g).1)).2,glb:=λx g=>(h8 x g).2,glo:=λx g=>(M.glo x (by simpa using (h8 x g).1)).1,glU:=M.glo,
            cel:=λx g=>.inl ((U x (by simpa using h9 x g)).elim (λz=>z.2) λz=>by have:=z.1;rw[hY.mpr g] at this;cases this),
            isi:=M.isi,fld:=M.fld,xcx:=M.xcx,ocx:=M.ocx,clv:=M.clv,clm:=(λz=>by cases z),qt:=(λ_=>hq),rom:=(λz=>by cases z),rmh:=rmh,xe:=(λe s p=>by obtain⟨_,_,_,_,_,_,_,_,_,_,_,_,_,z⟩:=p;exact z),frm:=⟨_,_,_,F.stk,F.f0,F.fe⟩,lam:=cS.no rfl,kfz:=(λh=>by cases h),
            sto:=λx g=>⟨T x (fS.mp g).1,.inl rfl⟩,lcl:=λx g hc=>(U x g).elim (λz=>by rw[z.1] at hc;cases hc) λz=>z.2,pso:=Dh,xmt:=M.xmt}
  have hmm:Γ.N.length-ts.length=m:=by lia
  have B:=wI (qO (wq HR n) C hds) [] s1 _ H {nx:=λ_ G=>Q .non G,rt:=Q} I ⟨φ,α,_,μ,uO d,mr,{nx:=λ_ l=>K0 .non l,rt:=K0,bk:=λ_ _=>False,ct:=λ_ _=>False,ex:=λc fs _ l=>Z0 c fs l},by show qe ds (oj ts (Γ.N.length-ts.length)) μ _;rw[hmm];exact q,λ_ l z O G L st m _=>hk0 _ _ z O G st m .non rfl,λ_ _ z=>z.elim,λ_ _ z=>z.elim,λt l z O G v st m dv=>hk0 _ _ z O G st m v dv,λc fs _ l z O G L C1 dd st m _ ad xd=>hz0 c fs l z O G C1 dd st m ad xd⟩;have XA:X.A=A.deeper (fQ qual scope s.heap.objs.size f j):=by rw[←Y];rfl
  have Xp:X.prog=P/\X.w=w/\X.env=fQ qual scope s.heap.objs.size f j/\(∀e s,X.xe e s->False)/\X.fs=eS i/\X.H₀=H/\X.s₀=s/\X.ex=[]:=by
    subst Y;exact⟨rfl,rfl,rfl,λ_ _ z=>z,rfl,rfl,rfl,rfl⟩
  obtain⟨x1,x2,x3,x4,x5,x6,x7,x8⟩:=Xp;rw[XA,x1,x2,x3] at B;refine dO B (λfl s' hs=>?_) λe s' z=>(x4 e s' z).elim;have fin:∀{L:St}{G:Hp}{v:V}{u:aD},Inv X [] L G s'->RelV v u->Q v G->CE i P w H s Q u s':=λ{L G v u} J rv q=>by
    have b:=J.base;have o:=J.os;have h:=J.hok;rw[x5,x6,x7,x8] at b;rw[x7] at o;rw[x1,x2] at h;exact⟨v,G,o,J.bare,b,h,rv,q⟩
  cases fl with
  |ret u=>obtain⟨v,L,G,J,rv,q⟩:=hs;exact fin J rv q
  |next=>obtain⟨L,G,J,q⟩:=hs;exact fin (v:=V.non) (u:=eX) J rfl q
  |brk=>obtain⟨_,_,_,q⟩:=hs;exact q.elim
  |cont=>obtain⟨_,_,_,q⟩:=hs;exact q.elim
end
section
variable {X:Cx}{D:DP}{W:XW}{pins:List (aF×bA)}{s:Shared}{σ:St}{H:Hp}{φ α:List aF}{μ:aK}
theorem f7.inv(I:Inv X pins σ H s)(q:f7 X.A X.H₀):f7 X.A H:=λh e=>let ⟨x,a,vs,u,d,c,b⟩:=q h e;⟨x,a,vs,u,d,I.base.frzs _ _ _ c,b⟩
noncomputable abbrev Wf(g:Fn):Fn:=λa μ K _=>g a μ K λ_ _ _=>False
theorem SD(F:UA X.prog X.w X.K X.mg X.base kk fa fd ps (dW D ps.length g))
  (b:f7 X.A H) (k:dQ kk X.A) (l:Binds X.K fd ps []) (f:∀ts μ K Z,g ts μ K Z->ts.length=ps.length) (I:Inv X pins σ H s) (r:aY vs us) (j:aM D φ α H μ) (d:aN D φ α H ts vs) (p:aJ D W φ α H σ (RV D φ Q) (Wf g ts μ)) :
  wpAny (aR X.prog X.w) X.A (call (.ref fa) us) (EP X pins σ Q) X.xe s:=by
 obtain⟨K,Z,q,a,n⟩:=p;have h:ts.length=ps.length:=f ts μ K _ q;have i:dW D ps.length g vs H Q (λ_ _ _=>False):=⟨by rw[←d.length];exact h,φ,α,ts,μ,d,j,K,_,q,a,λ_ _ _ z=>z.elim⟩;have c:us.length=ps.length:=by rw[←r.length,←d.length];exact h
 refine hW (iK (F X.A X.stack s H ⟨us,[]⟩ us vs Q k b I.env0 (by simpa using l s us I.kIn (by simpa using c)) r i) λr m a=>?_);cases r with
 |error e=>exact a.elim
 |ok fl=>
  cases fl with
  |ret u=>exact I.after a
  |next=>exact dI a
  |brk=>exact dI a
  |cont=>exact dI a
noncomputable def Vp(m:aG):aG:=⟨#[33]++m.cps⟩
end
section
variable {X:Cx}{D:DP}{k:Nat}{pins:List (aF×bA)}{s:Shared}{σ:St}{H:Hp}{φ α:List aF}{μ:aK}
theorem xo(I:Inv X pins σ H s)(h1:s.heap.get? q=aA o)(h2:H q=aE)(d:q≠X.env.locals)(c:q∉X.fs)(b:∀v,o.data≠.cell v):Inv X ((q,o)::pins) σ H s:=
 ⟨I.ok,I.os,I.bare,I.base,I.loc,I.cell,I.free,I.freeC,λp a=>by
  rcases cH.mp a with z|z
  ·exact I.pin p (eK _ z)
  ·rcases cA.mp z with rfl|z
   ·exact⟨h1,h2,d,c,b⟩
   ·exact I.pin p (dM _ z),I.hok,I.len⟩
theorem wy(I:Inv X (p::pins) σ H s):Inv X pins σ H s:=
 ⟨I.ok,I.os,I.bare,I.base,I.loc,I.cell,I.free,I.freeC,λp a=>by
  rcases cH.mp a with z|z
  ·exact I.pin p (eK _ z)
  ·exact I.pin p (dM _ (d9 _ z)),I.hok,I.len⟩
theorem YP{P:cG}(r:h.CodeRec (.ref c) qn):a6 P w H h c (.ext (wa c qn)):=by
 obtain⟨k,a,e,f,d,b,i,g⟩:=id r;cases d;refine⟨r,⟨a,b⟩,λm l p j=>?_⟩;obtain⟨k,a,e,f,d,b,i,g⟩:=p;cases d;exact⟨c,a,e,f,rfl,j _ b,i,g⟩
theorem xY{a b:aD}:∀(l:List aD),TriplesOk l->∀{x y:Int}{t u:Tok},TriplesOk (l++[.int x t,.int y u,c])
 |[],_,_,_,_,_=>trivial
 |[_],h,_,_,_,_=>by simp[TriplesOk] at h
 |[_,_],h,_,_,_,_=>by simp[TriplesOk] at h
 |p::q::r::l,h,x,y,t,u=>by
  cases p with
  |int _ _=>
   cases q with
   |int _ _=>exact xY (a:=a) (b:=b) l h
   |_=>exact h.elim
  |_=>exact h.elim
theorem KH:∀(l:List aD),TriplesOk l->iU pos l=aE->iU p (l++[cT pos.line,cT pos.col,c])=aA c\/iU p (l++[cT pos.line,cT pos.col,c])=iU p l:=by
 intro l h d;fun_induction TriplesOk l with
 |case1=>
  by_cases q:((pos.line:Int)==(p.line:Int)&&(pos.col:Int)==(p.col:Int))=aB
  ·left;simp only[DC,iU,cT];rw[if_pos q]
  ·right;simp only[DC,iU,cT];rw[if_neg q]
 |case2 a t b u x rest e=>
  simp only[pD,iU] at d ⊢
  split at d
  ·cases d
  ·split
   ·exact .inr rfl
   ·exact e h d
 |case3 l g f=>exact h.elim
theorem VD{ob:aF->aD->aD->bA}{i j:Nat}{qn:aG}{c P:aF}(I:Inv X pins σ H s)(l:aM D φ α H μ)(hi:μ[i]?=aA (.tab j))(hD:D.tabs j=aA (P,E,qn))(hpp:pos∈E)
  (hC:lx X.base c P) (hB:X.base.BuiltinsAt X.mg P) (C:∀a b d,(ob a b d).isFreed=aC/\∀v,(ob a b d).data≠.cell v)
  (V:∀{ps:Array aD}{Q:aD->a9->Prop},s.heap.Ns bO X.mg->lx s.heap c P->s.heap.get? P=aA (lW ps)->TriplesOk ps.toList->iU pos ps.toList=aE->bO≠P->s.heap.BuiltinsAt X.mg P->(∀(f:aF) (g doc:aD) (h':aV) (tk:Tok),CN P s.heap h'->s.heap.objs.size<=f->f<h'.objs.size->h'.CodeRec (.ref f) qn->h'.get? P=aA (lW (ps++#[cT pos.line,cT pos.col,.ref f]))->Q (.ref h'.objs.size) {s with heap:=h'.push (ob f g doc),toks:=tk})->wpAny (aR X.prog X.w) X.A t0 Q X.xe s)
  (hit:∀{ps:Array aD}{f:aF}{Q:aD->a9->Prop},s.heap.Ns bO X.mg->lx s.heap c P->s.heap.get? P=aA (lW ps)->TriplesOk ps.toList->iU pos ps.toList=aA (.ref f)->s.heap.BuiltinsAt X.mg P->(∀(g doc:aD) (h':aV) (tk:Tok),(∀b o,s.heap.get? b=aA o->h'.get? b=aA o)->s.heap.objs.size<=h'.objs.size->Q (.ref h'.objs.size) {s with heap:=h'.push (ob f g doc),toks:=tk})->wpAny (aR X.prog X.w) X.A t0 Q X.xe s)
  (h:∀q f g doc r s',Inv X ((q,ob f g doc)::pins) σ r s'->aO α H α r->aM D φ α r μ->f∉α->r f=aA (.ext (wa f qn))->(f∉φ/\dA X r q/\∀p∈pins,p.1≠q)->Q (.ref q) s') :
  wpAny (aR X.prog X.w) X.A t0 Q X.xe s:=by
 have hia:∃a,α[i]?=aA a:=⟨_,fR (by rw[l.len];exact (bI.mp hi).1)⟩;obtain⟨a,ha⟩:=hia;obtain⟨pos',qn',ps,hD',t,B,F⟩:=l.ob i a _ ha hi;rw[hD] at hD';cases hD';have N:=F pos hpp;have hP:s.heap.get? P=aA (lW ps):=I.hok P _ t;have hg:s.heap.Ns bO X.mg:=I.ok.mod.glob.keeps I.bk;have hCs:lx s.heap c P:=hC.keeps I.bk;have hBs:s.heap.BuiltinsAt X.mg P:=by
  obtain⟨bm,o,b1,b2,b3,b4,b5,b6⟩:=hB;exact⟨bm,o,b1,b2,b3,b4,I.bk _ _ b5,b6⟩
 have hPa:P∈α:=b9 ha;have nL:X.env.locals≠P:=λz=>by have:=I.free;rw[z,t] at this;cases this
 rcases N with y|⟨f,hhit,n1,n2,hc'⟩
 ·have hgP:bO≠P:=λz=>by
   obtain⟨o,es,ep,e,hd,_⟩:=hg;rw[z,hP] at e;cases e;cases hd
  refine V hg hCs hP B y hgP hBs λf g doc h' tk Y M hlt Z L=>?_;have k:H f=aE:=I.hok.fresh M;have hcP:f≠P:=λz=>by rw[z,t] at k;cases k
  have K:∀{b o},s.heap.get? b=aA o->b≠f:=λ{b o} e z=>absurd (cY (bZ e) M) (by rw[z];exact iH _);generalize O:upd (upd H f (.ext (wa f qn))) P (.tbl (ps++#[cT pos.line,cT pos.col,.ref f]))=r;have HP:r P=aA (.tbl (ps++#[cT pos.line,cT pos.col,.ref f])):=by rw[←O];exact z3
  have Hc:r f=aA (.ext (wa f qn)):=by rw[←O,z4 hcP];exact z3
  have Ho:∀b,b≠P->b≠f->r b=H b:=λb h1 h2=>by rw[←O,z4 h1,z4 h2]
  have G:∀b o,b≠P->H b=aA o->r b=aA o:=λb o h1 e=>by rw[Ho b h1 (zI e k)];exact e
  have U:(h'.push (ob f g doc)).CodeRec (.ref f) qn:=by
   obtain⟨c2,oc,vs,tq,S,e2,e3⟩:=Z;exact⟨c2,oc,vs,tq,S,bU _ e2,e3⟩
  have J:Inv X pins σ r {s with heap:=h'.push (ob f g doc),toks:=tk}:=by
   refine I.step (g':=s.gens) (d':=s.drawn) (ch:=[]) (λ_ z=>nomatch z) (λb o _ _ _ e n=>?_) (λb o _ _ _ e n=>⟨o.slots,?_⟩) (λb o _ e n=>?_) (λb o _ e=>?_) (λb xs e=>?_) (λb o u e=>?_) (λb qs e=>?_) (λm hm=>?_) (λb u e=>?_) I.bare
   ·exact bU _ (Y b o (λz=>by rw[z,t] at n;cases n) e)
   ·exact bU _ (Y b o (λz=>by rw[z,t] at n;cases n) e)
   ·rw[Ho b (λz=>by rw[z,t] at n;cases n) (K e)];exact n
   ·by_cases z:b=P
    ·rw[z];exact⟨_,bU _ L⟩
    ·exact⟨o,bU _ (Y b o z e)⟩
   ·exact G b _ (λz=>by rw[z,t] at e;cases e) e
   ·exact G b _ (λz=>by rw[z,t] at e;cases e) e
   ·by_cases z:b=P
    ·rw[z,t] at e;cases e;rw[z];exact⟨_,HP⟩
    ·exact⟨#[],by rw[G b _ z e];simp⟩
   ·exact (hm.extBut Y nL).push _
   ·by_cases z:b=P
    ·subst z;rw[HP] at e;cases e;exact bU _ L
    ·by_cases T:b=f
     ·subst T;rw[Hc] at e;cases e;exact YP U
     ·rw[Ho b z T] at e;refine (I.hok b u e).stay (λc v R q=>?_) (λc q=>?_) λc xs q=>?_
      ·refine bU _ (Y c v (λw=>?_) q);rcases R with R|R
       ·exact z (R▸w)
       ·rw[w,t] at R;cases R
      ·exact G c _ (λw=>by rw[w,t] at q;cases q) q
      ·exact G c _ (λw=>by rw[w,t] at q;cases q) q
  have fresh:s.heap.objs.size<=h'.objs.size:=nG (pR M hlt);have hqP:h'.objs.size≠P:=λz=>absurd (bZ L) (by rw[←z];exact iH _);have hqc:h'.objs.size≠f:=ln hlt;have nq:r h'.objs.size=aE:=by rw[Ho _ hqP hqc];exact I.hok.fresh fresh
  have st:aO α H α r:=⟨⟨[],by simp,by simp⟩,λb o n e=>G b o (λz=>n (z▸hPa)) e,λb e=>by
   by_cases z:b=P
   ·rw[z,HP] at e;cases e
   ·by_cases T:b=f
    ·rw[T];exact k
    ·rw[Ho b z T] at e;exact e⟩
  refine h h'.objs.size f g doc r _ (xo J (eF _ (C _ _ _).1) nq (ln (cY I.lt fresh)) (I.nofs fresh) (C _ _ _).2) st ?_ (zm l k) Hc ⟨zk l k,Hs (I.fpOk fresh nq)⟩;refine⟨l.len,l.nd,l.dis,λb hb=>?_,λi' a' o' S e2=>?_⟩
  ·obtain⟨u,hu,n⟩:=l.phi b hb;exact⟨u,st.keep b u (λz=>l.dis b z hb) hu,n⟩
  ·by_cases z:i'=i
   ·subst z;rw[ha] at S;cases S;rw[hi] at e2;cases e2;refine⟨E,qn,_,hD,HP,?_,λp2 hp2=>?_⟩
    ·rw[DT];exact xY (a:=.none) (b:=.none) _ B
    ·rw[DT];rcases KH (p:=p2) (c:=.ref f) _ B y with w|w
     ·exact .inr ⟨f,w,zk l k,zm l k,Hc⟩
     ·rw[show (#[cT pos.line,cT pos.col,.ref f]:Array aD).toList=[cT pos.line,cT pos.col,.ref f] from rfl,w];refine (F p2 hp2).imp id λ⟨c2,k1,k2,k3,k4⟩=>⟨c2,k1,k2,k3,?_⟩;exact G c2 _ (λz=>k3 (z▸hPa)) k4
   ·have ne:a'≠P:=λw=>by
     obtain⟨q1,q2⟩:=bI.mp S;obtain⟨q3,q4⟩:=bI.mp ha;exact z ((pF l.nd).mp (q2.trans (w.trans q4.symm)))
    have d:=l.ob i' a' o' S e2;obtain⟨u,hu,_⟩:=d.some;exact dZ.step st ((G a' u ne hu).trans hu.symm) d
 ·refine hit hg hCs hP B hhit hBs λg doc h' tk hk x=>?_;have J:Inv X pins σ H {s with heap:=h'.push (ob f g doc),toks:=tk}:=I.kept λb u e=>bU _ (hk b u e);exact h h'.objs.size f g doc H _ (xo J (eF _ (C _ _ _).1) (I.hok.fresh x) (ln (cY I.lt x)) (I.nofs x) (C _ _ _).2) (aO.refl _ _) l n2 hc' ⟨n1,Hs (I.fpOk x (I.hok.fresh x))⟩
theorem Jq{params:Arguments}{body:aI}{line i j:Nat}{qn:aG}{c P:aF}{Q:aD->a9->Prop}(I:Inv X pins σ H s)(y:aM D φ α H μ)(F:μ[i]?=aA (.tab j))(J:D.tabs j=aA (P,B,qn))(n:pos∈B)
  (a:X.env.code=.ref c) (K:lx X.base c P) (L:X.base.BuiltinsAt X.mg P) (l:mG scope X.env=pure cl)
  (h:∀q g d r C,Inv X ((q,lB "<lambda>" qn params body scope cl ((X.mg "__name__").getD .none) g d)::pins) σ r C->aO α H α r->aM D φ α r μ->g∉α->r g=aA (.ext (wa g qn))->(g∉φ/\dA X r q/\∀p∈pins,p.1≠q)->Q (.ref q) C) :
  wpAny (aR X.prog X.w) X.A (pv "<lambda>" qn params (.expr body) scope X.env [] [] [] pos line) Q X.xe s:=by
 exact VD (ob:=λg d _=>lB "<lambda>" qn params body scope cl ((X.mg "__name__").getD .none) g d) I y F J n K L (λ_ _ _=>⟨rfl,λv z=>by cases z⟩) (λt e u b E o f k=>PySem.W.kla_makeFunction (mg:=X.mg) l I.ok.glob t a e u b E o f λg d x m=>k g d .none x m) (λt e u b G f k=>PySem.W.kla_makeFunctionHit (mg:=X.mg) l I.ok.glob t a e u b G f λd x m=>k d .none x m) λq g d _ r C=>h q g d r C
theorem Uo{params:Arguments}{body:List bC}{pos:Pos}{line i j:Nat}{qn:aG}{c P:aF}{Q:aD->a9->Prop}(I:Inv X pins σ H s)(t:aM D φ α H μ)(x:μ[i]?=aA (.tab j))(F:D.tabs j=aA (P,B,qn))(l:pos∈B)
  (a:X.env.code=.ref c) (G:lx X.base c P) (J:X.base.BuiltinsAt X.mg P) (f:mG scope X.env=pure cl)
  (h:∀q r g doc C E,Inv X ((q,Df name qn params body scope cl doc ((X.mg "__name__").getD .none) r g)::pins) σ C E->aO α H α C->aM D φ α C μ->r∉α->C r=aA (.ext (wa r qn))->(r∉φ/\dA X C q/\∀p∈pins,p.1≠q)->Q (.ref q) E) :
  wpAny (aR X.prog X.w) X.A (pv name qn params (.stmts body) scope X.env [] [] [] pos line) Q X.xe s:=
 VD (ob:=λr g doc=>Df name qn params body scope cl doc ((X.mg "__name__").getD .none) r g) I t x F l G J (λ_ _ _=>⟨rfl,λv z=>by cases z⟩) (λn d o b u m e k=>PySem.W.makeFunction_K (mg:=X.mg) f I.ok.glob n a d o b u m e k) (λn d o b y e k=>PySem.W.makeFunction_hit (mg:=X.mg) f I.ok.glob n a d o b y e k) h
end
section
variable {X:Cx}{D:DP}{W:XW}{Γ:Cn}{k:Nat}
noncomputable abbrev xw(Γ:Cn)(x:aG)(G:List aG):Cn:={Γ with N:=[x],G:=G,U:=G,cel:=[],own:=[],lam:=aE,fz:=[]}
noncomputable def og:GM->Bool
 |.cst _=>aB
 |.none=>aB
 |.xcl _=>aB
 |_=>aC
theorem cE.lvl{P:cG}{K:bJ}(h:og g=aB)(q:cE D P w K mg base j x g):cE D P w K mg base k x g:=by
 cases g<;>first|exact q|cases h
theorem Rp{params:Arguments}{body:aI} 
    (C:Ck D W Γ X k) (hc:Γ.calm=aB) (hG:G.all (λy=>Γ.U.contains y&&og (Γ.gl y))=aB) (hs:jH (xw Γ x G) [x] scope=aB) (hE:∀Y W k, Ck D W (xw Γ x G) Y k->PE Y body (aW D W g)) (L:∀(s:a9) (u:aD), lc s (sU "<lambda>" qn params body scope [] pm (.ref c') ctv) ⟨[u], []⟩ [(x, u)])
    (T:bV (k0+1) A) (e0:dB X.prog X.w X.K X.mg X.base A outer s H) (ho:s.heap.get? q=aA (lB "<lambda>" qn params body scope [] pm c' ctv)) (O:s.heap.CodeRec (.ref c') qn) (r:RelV v u) (d:a_ D φ α H t v) (mr:aM D φ α H μ)
 (p : g [aA t] μ K0 (fun _ _ _ => False)) (V : ∀ t' μ', K0 t' μ' -> ∀ M H' v', aO α H M H' -> aM D φ M H' μ' -> a_ D φ M H' t' v' -> Q v' H') :
    f9 (aR X.prog X.w) A (.call (.ref q) ⟨[u], []⟩) (CR (λ_ _ _ _ _ _=>False) outer X.prog X.w H s Q (λ_ _ _=>False)) s:=by
  simp only[jH, cB, fT, beq_iff_eq, l9, decide_eq_true_eq, bne_iff_ne, ne_eq] at hs;obtain⟨⟨⟨⟨⟨⟨⟨⟨⟨h1, h2⟩, h3⟩, h4⟩, h5⟩, h6⟩, Z⟩, h8⟩, h9⟩, h10⟩:=hs;have n:∀y∈[x], scope.names.lookup y=aA .local:=λy j=>by
    have:=(Z y j).2;simpa using this
  have S:c_ [x] [x] scope:=⟨h1, h2, h3, h4, rfl, λy j=>.inl (n y j), h6⟩;have R:s.heap.NoLimit:=e0.mod.nolimit.keeps λb o e=>(e0.bs b o e).1;refine Eh (fd:=sU "<lambda>" qn params body scope [] pm (.ref c') ctv) T.depth ho rfl S.co S.gen rfl O (L s u _ _ _ _ (t9 S.kind (λy j=>?_) λenv he s1 y=>?_))
  · obtain ⟨y, w⟩ := y;have:y=x:=by simpa using congrArg Prod.fst (bT.mp j)
    subst this;exact .inl (n y (by simp))
  subst he;refine⟨R.keeps y.toInCall.keep, Eg ?_⟩;have c:=yx (fnb:=λ_=>aB) (CX:=λ_ _ _ _ _ _=>False) (E:=λ_ _ _=>False) (f:=q) (cd:=.ref c') (qual:=qn) (A:=A) (vs:=[v]) (us:=[u]) S T.hd e0 rfl (.cons r .nil) y;generalize P:({Jw (λ_ _ _ _ _ _=>False) X.prog X.w X.K X.mg X.base [x] qn scope q (.ref c') A outer s H (λ_ _ _=>False) with xe:=λ_ _=>False}:Cx)=Y;have I:Inv Y [] (start [x] [v]) H s1:=by
    subst P;exact⟨⟨c.ok.mod, c.ok.kind, c.ok.glob, c.ok.blt, c.ok.above, c.ok.inj, c.ok.has, c.ok.cab, c.ok.hd, c.ok.frames, c.ok.stk, c.ok.exf, c.ok.bs, c.ok.bsz, c.ok.noex, c.ok.exfs, c.ok.funs, c.ok.frf⟩, c.os, c.bare, c.base, c.loc, c.cell, c.free, c.freeC, c.pin, c.hok, c.len⟩
  have F:iR Y (fQ qn scope s.heap.objs.size q (.ref c')) outer s.heap.objs.size:=by rw[←P];exact⟨rfl, rfl, rfl⟩
  have l:=T.deeper (fQ qn scope s.heap.objs.size q (.ref c'));have C2:Ck D iM (xw Γ x G) Y k0:=by
    subst P;have N:∀y∈G, cE D X.prog X.w X.K X.mg X.base k0 y (Γ.gl y)/\(y==("__debug__":aG))=aC:=λy j=>by
      have h:=fT.mp hG y j;simp only[cB] at h;have q:=C.glU y (by simpa using h.1);exact⟨cE.lvl h.2 q.1, q.2⟩
    exact { hK := C.hK, hN := rfl, nd := h4, vis := fun y j => .inl (n y j), dbg := fun y j => ⟨beq_eq_false_iff_ne.mpr (Z y j).1.1, beq_eq_false_iff_ne.mpr (Z y j).1.2⟩,
            dbG:=λy j=>(N y j).2, glb:=λy j=>(h8 y j).2, glo:=λy j=>(N y j).1, glU:=N,
            cel:=λy j=>absurd j (by simp), isi:=C.isi, fld:=C.fld, xcx:=C.xcx, ocx:=C.ocx, clv:=C.clv, clm:=λ_=>rfl, qt:=(λ_ h e=>absurd (l.hd.symm.trans e) (by simp)), rom:=λ_=>l, rmh:=⟨l.dp, l.un⟩, xe:=(λe s p=>by obtain⟨_, _, _, _, _, _, _, _, _, _, _, _, _, z⟩:=p;exact z), frm:=⟨_, _, _, F.stk, F.f0, F.fe⟩, lam:=cS.no rfl, kfz:=(λh=>by cases h)}
  have sr:aZ D φ α H [aA t] (start [x] [v]):=⟨rfl, λi t' e=>by
    cases i with
    |zero=>
      have:t=t':=by simpa using e
      subst this;exact⟨v, rfl, d⟩
    |succ i=>simp at e⟩
  have B:=hE Y iM k0 C2 [] s1 _ H Q I ⟨φ, α, [aA t], μ, sr, mr, _, _, p, λa μ' e M H' st m v' dv=>V a μ' e M H' v' st m dv, λ_ _ _ z=>z.elim⟩;have XA:Y.A=A.deeper (fQ qn scope s.heap.objs.size q (.ref c')):=by rw[←P];rfl
  have Xp:Y.prog=X.prog/\Y.w=X.w/\Y.env=fQ qn scope s.heap.objs.size q (.ref c')/\(∀e s, Y.xe e s->False)/\Y.fs=eS outer/\Y.H₀=H/\Y.s₀=s/\Y.ex=[]:=by
    subst P;exact⟨rfl, rfl, rfl, λ_ _ z=>z, rfl, rfl, rfl, rfl⟩
  obtain⟨x1, x2, x3, x4, x5, x6, x7, x8⟩:=Xp;rw[XA, x1, x2, x3] at B;refine dO B (λw s' hs=>?_) λe s' z=>(x4 e s' z).elim;obtain⟨v', H', J, rv, q'⟩:=hs;have b:=J.base;have o:=J.os;have hk:=J.hok;rw[x5, x6, x7, x8] at b;rw[x7] at o;rw[x1, x2] at hk;exact⟨v', H', o, J.bare, b, hk, rv, q'⟩
end
section
variable {prog:Program}{w:World}{A:Around}{E:aD->Shared->Prop}{s:Shared}{a:aF}{vs:List aD}{kz:List Int}{P:PySem.Fin->Shared->Prop}{J:Shared->Prop}{f:aD}
structure Keeps(J:Shared->Prop)(a kS:aF):Prop where
 set:∀s' b h' tk,J s'->(b=a\/b=kS)->gA b s'.heap h'->J {s' with heap:=h',toks:=tk}
 push:∀s' o,J s'->J {s' with heap:=s'.heap.push o}
theorem XH {st:SortSt}(t:Keeps J a g) (y:J s) (v:s.heap.get? g=aA (cF "list" keys e)) (x:s.heap.get? a=aA (cF "list" #[] C)) (k:g≠a)
  (hk:fL keys.toList kz) (q:kz.length=vs.length) (z:vs.length<64) (p:(ig st).Perm (keys.zip vs.toArray)) (hs:SortedTo (ig st) (ig st).size) (l:failedOf st=aE)
  (h:∀r out c,J r->r.heap.get? a=aA (cF "list" out c)->KskOut aC kz vs out.toList->P (.done (.ret .none)) r) :
  wpAny (aR prog w) A (ksk_tail a aC C (.ref g) st) P E s:=by
 have i:keys.size=vs.length:=by
  have B:=hk.length;rw[mQ] at B;lia
 have f:(ig st).size=vs.length:=by rw[p.size_eq,Dd,i,dH,sE]
 have j:((ig st).map (·.2)).size=vs.length:=by rw[Array.size_map];exact f
 have o:=pY s.heap g (d_ λ_=>(#[]:Array aD));have d:=(o.2 a k.symm).trans x;have u:=pY (s.heap.update g (d_ λ_=>(#[]:Array aD))) a (d_ λ_=>(ig st).map (·.2));obtain⟨n,m⟩:∃n,((s.heap.update g (d_ λ_=>(#[]:Array aD))).update a (d_ λ_=>(ig st).map (·.2))).get? a=aA (cF "list" ((ig st).map (·.2)) n):=⟨_,tw d λ_=>(ig st).map (·.2)⟩;unfold ksk_tail;dsimp only;refine wpAny_bind (pi v rfl ?_ (by rw[i,eQ];lia) (hL _));refine wpAny_bind (wpAny_letGo ?_);refine wpAny_bind (seqEpoch_at d rfl ?_);refine wpAny_bind (pi d rfl ?_ (hL _) (cU (lm j) (by rw[eQ];lia)));rw[l];simp only[bne_self_eq_false,nN,if_false];have F:=t.set s g _ s.toks y (.inr rfl) o;have D:=t.set _ a _ s.toks F (.inl rfl) u;refine wpAny_pure (h _ _ n D m ?_);have:=ksk_out (b:=aC) hk p hs;simpa using this
theorem Og (u:Keeps J a z) (t:J s) (o:s.heap.get? z=aA (cF "list" keys e)) (p:s.heap.get? a=aA (cF "list" #[] D)) (m:z≠a)
  (hk:fL keys.toList kz) (d:kz.length=vs.length) (g:vs.length<64)
  (h:∀r out c,J r->r.heap.get? a=aA (cF "list" out c)->KskOut aC kz vs out.toList->P (.done (.ret .none)) r) :
  wpAny (aR prog w) A (ksk_end a aC vs.toArray D (.ref z) keys) P E s:=by
 have l:keys.size=vs.length:=by
  have C:=hk.length;rw[mQ] at C;lia
 have f:(keys.zip vs.toArray).size=vs.length:=by rw[Dd,l,dH,sE]
 unfold ksk_end;simp only[nN,if_false];by_cases k:vs.toArray.size<2
 ·rw[if_pos k,if_pos k];refine wpAny_bind (wpAny_pure ?_);rw[StateT.run_pure];refine wpAny_bind (wpAny_pure ?_);refine XH (st:=Cw general' (keys.zip vs.toArray) #[] 7 aE) u t o p m hk d g (DB _) ?_ rfl h;intro i j y x;have n:j<(keys.zip vs.toArray).size:=x;rw[f] at n;rw[dH] at k;have:i=j:=by lia
  subst this;exact nA _
 ·rw[if_neg k,if_neg k];rw[dH] at k;rw[ksk_kind hk (by rw[l];lia)];refine wpAny_bind (wpAny_pure ?_)
  refine wpAny_bind (dO (wpS_sortRuns (a₀:=keys.zip vs.toArray) (st:=Cw oneType' (keys.zip vs.toArray) #[] 7 aE)
   (Q:=λ_ b=>(ig b).Perm (keys.zip vs.toArray)/\failedOf b=aE/\SortedTo (ig b) (keys.zip vs.toArray).size)
   (ksk_intKeys hk) ⟨DB _,rfl,rfl,rfl⟩ (by rw[f];lia) (by rw[f];exact g) λb H G F=>⟨H,G,F⟩) ?_ λ_ _ e=>e)
  rintro⟨⟨⟩,b⟩ r ⟨rfl,q,B,v⟩;exact XH u t o p m hk d g q (by rw[q.size_eq];exact v) B h
theorem Rv (y:Keeps J a (s.heap.objs.size+1)) (X:J s) (ho:s.heap.get? a=aA (cF "list" vs.toArray n)) (C:kz.length=vs.length) (O:vs.length<64)
  (turn:∀(i:Nat) (v:aD) (k:Int) (b:a9) (R:Array aD) (ca ck:Nat),vs[i]?=aA v->kz[i]?=aA k->J b->b.heap.get? a=aA (cF "list" #[] ca)->b.heap.get? (s.heap.objs.size+1)=aA (cF "list" R ck)->
   wpAny (aR prog w) A (call f [v]) (λr H=>(∃g,r=.int k g)/\J H/\H.heap.get? a=aA (cF "list" #[] ca)/\H.heap.get? (s.heap.objs.size+1)=aA (cF "list" R ck)) (λ_ _=>False) b)
  (h:∀b out c,J b->b.heap.get? a=aA (cF "list" out c)->KskOut aC kz vs out.toList->P (.done (.ret .none)) b) :
  wpAny (aR prog w) A (ksk_tree a f aC) P E s:=by
 have W:a<s.heap.objs.size:=bZ ho;have F:=pY s.heap a (d_ λ_=>(#[]:Array aD));obtain⟨u,B⟩:∃u,(s.heap.update a (d_ λ_=>(#[]:Array aD))).get? a=aA (cF "list" #[] u):=⟨_,tw ho λ_=>#[]⟩;unfold ksk_tree;refine wpAny_bind (listItems_at ho rfl ?_);refine wpAny_bind (pi ho rfl ?_ (by rw[dH,eQ];lia) (hL _));refine wpAny_bind (seqEpoch_at B rfl ?_);refine wpAny_bind (wpAny_newTuple ?_ (by show vs.length<=_;rw[eQ];lia));refine wpAny_bind (wpAny_newList ?_ (hL _));refine wpAny_holding ?_;have T:(s.heap.update a (d_ λ_=>(#[]:Array aD))).objs.size=s.heap.objs.size:=sW ..;have J1:=y.set s a _ s.toks X (.inl rfl) F;have J2:=y.push _ (cF "tuple" vs.toArray 0) J1;have m:((s.heap.update a (d_ λ_=>(#[]:Array aD))).push (cF "tuple" vs.toArray 0)).objs.size=s.heap.objs.size+1:=by rw[iI,T]
 have J3:=y.push _ (cF "list" #[] 0) J2;have g3:(((s.heap.update a (d_ λ_=>(#[]:Array aD))).push (cF "tuple" vs.toArray 0)).push (cF "list" #[] 0)).get? a=aA (cF "list" #[] u):=bU _ (bU _ B);have gk:(((s.heap.update a (d_ λ_=>(#[]:Array aD))).push (cF "tuple" vs.toArray 0)).push (cF "list" #[] 0)).get? ((s.heap.update a (d_ λ_=>(#[]:Array aD))).push (cF "tuple" vs.toArray 0)).objs.size=aA (cF "list" #[] 0):=eF _ rfl;have o:((s.heap.update a (d_ λ_=>(#[]:Array aD))).push (cF "tuple" vs.toArray 0)).objs.size≠a:=by rw[m];exact ln (nJ W)
 generalize U:((s.heap.update a (d_ λ_=>(#[]:Array aD))).push (cF "tuple" vs.toArray 0)).objs.size=q at gk o m;rw[←m] at y turn;have back:wpAny (aR prog w) A (ksk_rest a f aC vs.toArray u (.ref q)) P E {s with heap:=((s.heap.update a (d_ λ_=>(#[]:Array aD))).push (cF "tuple" vs.toArray 0)).push (cF "list" #[] 0)}:=by
  unfold ksk_rest;refine wpAny_bind (nz ?_)
  first
   |rw[List.forIn_toArray]
   |(rw[←Eb];simp only[List.toList_toArray])
   |rw[←Eb]
  refine wpAny_bind (ksk_fold (λi b=>∃d e,J b/\b.heap.get? a=aA (cF "list" #[] u)/\b.heap.get? q=aA (cF "list" d e)/\fL d.toList (kz.take i)) vs 0 _ ⟨#[],0,J3,g3,gk,by simpa using IntsAre.nil⟩ ?step ?done);case step=>
   rintro j x b S ⟨d,e,p,K,G,t⟩
   simp only[Nat.zero_add] at t ⊢
   have hj:j<vs.length:=(bI.mp S).1
   obtain⟨k,D⟩:∃k,kz[j]?=aA k:=⟨_,fR (by lia)⟩
   have hz:d.size<=vs.length:=by
    have Z:=t.length;rw[mQ,mH] at Z;lia
   refine wpAny_bind (mJ (dO (turn j x k b d u e S D p K G) (λv l V=>?_) λ_ _ Y=>Y.elim))
   obtain⟨⟨g,rfl⟩,N,I,z⟩:=V
   have F:=pY l.heap q (d_ (·.push (.int k g)))
   obtain⟨Q,M⟩:∃Q,(l.heap.update q (d_ (·.push (.int k g)))).get? q=aA (cF "list" (d.push (.int k g)) Q):=⟨_,tw z (·.push (.int k g))⟩
   have ek:kz.take (j+1)=kz.take j++[k]:=by rw[l8,D];simp
   have ea:(d.push (mB k g)).toList=d.toList++[mB k g]:=by simp
   refine wpAny_bind (pi z rfl ?_ (by rw[eQ];lia) (cU (lm (Array.size_push ..)) (by rw[eQ];lia)))
   exact wpAny_pure ⟨rfl,d.push (.int k g),Q,y.set l q _ l.toks N (.inr rfl) F,(F.2 a o.symm).trans I,M,by rw[ea,ek];exact ksk_snoc t⟩
  case done=>
   rintro b ⟨d,e,p,K,G,t⟩
   have L:fL d.toList kz:=by
    have e3:kz.take (0+vs.length)=kz:=n7 (by lia);rw[e3] at t;exact t
   refine wpAny_bind (listItems_at G rfl ?_)
   exact Og y p G K o L C O h
 exact back
end
theorem u_{α β:Type}{f:α->β}{ps m:List β}(h:ps.Perm m):∀{l:List α},m=l.map f->∃d:List α,d.Perm l/\ps=d.map f:=by
 induction h with
 |nil=>intro l e;cases l with
  |nil=>exact⟨[],.refl _,rfl⟩
  |cons a r=>cases e
 |cons x p q=>intro l e;cases l with
  |nil=>cases e
  |cons a r=>
   rw[dU] at e
   injection e with n c
   obtain⟨d,k,j⟩:=q c
   exact⟨a::d,k.cons a,by rw[n,j];rfl⟩
 |swap x y l'=>intro l e;cases l with
  |nil=>cases e
  |cons a r=>cases r with
   |nil=>simp at e
   |cons b r=>
    rw[dU,dU] at e
    injection e with n c
    injection c with c u
    exact⟨b::a::r,.swap a b r,by rw[n,c,u];rfl⟩
 |trans p1 v i g=>
  intro l e;obtain⟨d,k,j⟩:=g e;obtain⟨o,t,s⟩:=i j;exact⟨o,t.trans k,s⟩
noncomputable def fD (g:De)(μ:aK):List T->List Int->Prop
 |[],[]=>True
 |t::c,z::b=>g [aA t] μ (λd a=>d=.int z/\a=μ) (λ_ _ _=>False)/\fD g μ c b
 |_,_=>False
theorem fD.len:∀{ts:List T}{kz:List Int},fD g μ ts kz->kz.length=ts.length
 |[],[],_=>rfl
 |_::_,_::_,h=>by simp[fD.len h.2]
 |[],_::_,h=>h.elim
 |_::_,[],h=>h.elim
theorem fD.at{μ:aK}:∀{ts:List T}{kz:List Int}{i:Nat}{t:T}{z:Int},fD g μ ts kz->ts[i]?=aA t->kz[i]?=aA z->g [aA t] μ (λt' j=>t'=.int z/\j=μ) (λ_ _ _=>False)
 |a::ts,b::e,0,t,z,h,c,d=>by
  have c:aA a=aA t:=by simpa using c
  have d:aA b=aA z:=by simpa using d
  cases c;cases d;exact h.1
 |a::ts,b::e,i+1,t,z,h,c,d=>fD.at (ts:=ts) (kz:=e) (i:=i) h.2 (by simpa using c) (by simpa using d)
 |[],[],i,t,z,h,c,d=>by simp at c
 |[],_::_,_,_,_,h,_,_=>h.elim
 |_::_,[],_,_,_,h,_,_=>h.elim
noncomputable abbrev KC(j:Nat)(g:De)(xs:List T)(μ:aK):RE T:=λK _=>xs.length<64/\∃b,fD g μ xs b/\
 ∀a:List (Int×T),a.Perm (b.zip xs)->a.Pairwise (λp q=>p.1<=q.1)->K (.lst (a.map (·.2))) μ
noncomputable abbrev GY(j:Nat)(g:De)(t:T)(μ:aK):RE T:=λK Z=>(∃i:Nat,μ[i]?=aA (MO.tab j))/\(match t with
 |.lst a=>KC j g a μ
 |.mut i=>λK Z=>∃a,μ[i]?=aA (MO.lst a)/\KC j g a μ K Z
 |_=>.st) K Z
noncomputable abbrev KA(j:Nat)(g f:De):De:=λa b=>(f a b).bind (GY j g)
section
variable {X:Cx}{D:DP}{W:XW}{Γ:Cn}{k n:Nat}{pins:List (aF×bA)}{s:Shared}{σ:St}{H:Hp}{φ α:List aF}{τ:Sl}{μ:aK}
theorem S8(I:Inv X pins σ H s)(h0:H a=aE)(h1:X.s₀.heap.objs.size<=a)(h2:a≠X.env.locals)(j:∀x c,X.env.cells.lookup x=aA c->c≠a)(i:∀p∈X.pn++pins,p.1≠a)
  (new:a6 X.prog X.w (upd H a o) s.heap a o):Inv X pins σ (upd H a o) s:=by
 have d:∀{b u},H b=aA u->b≠a:=λ{b u} e z=>by rw[z,h0] at e;cases e
 refine I.step (h':=s.heap) (g':=s.gens) (t':=s.toks) (d':=s.drawn) (ch:=[a]) (λb f=>?_) (λb o _ _ _ e n=>e) (λb o _ _ _ e n=>⟨o.slots,e⟩) (λb o f e n=>?_) (λb o _ e=>⟨o,e⟩) (λb g e=>?_) (λb o u e=>?_) (λb k e=>?_) (λm h=>h) (λb u e=>?_) I.bare
 ·rw[bT.mp f];exact⟨.inr h1,h2,j,i⟩
 ·rw[z4 (λz=>f (by rw[z];simp))];exact n
 ·rw[z4 (d e)];exact e
 ·rw[z4 (d e)];exact e
 ·exact⟨#[],by rw[z4 (d e),e];simp⟩
 ·by_cases z:b=a
  ·subst z;rw[z3] at e;cases e;exact new
  ·rw[z4 z] at e;refine (I.hok b u e).stay (λc v l q=>q) (λc q=>?_) λc g q=>?_
   ·rw[z4 (d q)];exact q
   ·rw[z4 (d q)];exact q
theorem VA{q F ad:aF}{x:aG}{G:List aG}{params:Arguments}{body:aI}{scope:Scope}{qn:aG}{pm M:aD}{g:De}{vs:List V}{Q:VK}{j:Nat}
  (C:Ck D W Γ X k) (hk:2<=k) (hc:Γ.calm=aB) (hG:G.all (λy=>Γ.U.contains y&&og (Γ.gl y))=aB) (hs:jH (xw Γ x G) [x] scope=aB) (hE:∀Y W k,Ck D W (xw Γ x G) Y k->PE Y body (aW D W g)) (hbind:∀(s:a9) (u:aD),lc s (sU "<lambda>" qn params body scope [] pm (.ref F) M) ⟨[u],[]⟩ [(x,u)])
  (I:Inv X ((q,lB "<lambda>" qn params body scope [] pm F M)::pins) σ H s) (mr:aM D φ α H μ) (hca:F∉α) (hcc:H F=aA (.ext (wa F qn))) (Z:Rd H ad (.lst vs)) (l:aN D φ α H xs vs) (p:aJ D W φ α H σ (RV D φ Q) (KC j g xs μ)) :
  wpAny (aR X.prog X.w) X.A (call (.builtin "sorted") [.ref ad] [(il "key",.ref q)]) (EP X pins σ Q) X.xe s:=by
 obtain⟨f,rv,pl,hz⟩:=I.list (.inl Z);obtain⟨K0,Z0,⟨h64,kz,hkr,hK⟩,k1,k2⟩:=p;have hlen:f.length<64:=by rw[←rv.length,←l.length];exact h64
 have hkl:kz.length=f.length:=by rw[hkr.len,←rv.length,←l.length]
 refine call_function_entry_kw kind_sorted plain_sorted entry_sorted (ksk_s1 _ _) ?_;unfold iS.«sorted»;refine wpAny_bind (m:=checkCount "sorted" 1 1 _) (wpAny_pure ?_);refine wpAny_bind (collect_list pl.isList ?_ (by rw[eQ];lia));refine wpAny_bind (wpAny_newList ?_ (by rw[eQ];lia));have S:((s.heap.push (cF "list" #[] 0)).update s.heap.objs.size (d_ (·++f.toArray))).objs.size=s.heap.objs.size+1:=by
  rw[sW,iI]
 have hoL:(((s.heap.push (cF "list" #[] 0)).update s.heap.objs.size (d_ (·++f.toArray))).push (cF "list" f.toArray 0)).get? (s.heap.objs.size+1)=aA (cF "list" f.toArray 0):=by
  rw[←S];exact eF _ rfl
 have keep:∀b o,s.heap.get? b=aA o->(((s.heap.push (cF "list" #[] 0)).update s.heap.objs.size (d_ (·++f.toArray))).push (cF "list" f.toArray 0)).get? b=aA o:=λb o q=>by
  have hlt:b<s.heap.objs.size:=bZ q;rw[DG _ _ _ (by rw[S];exact dP (nJ hlt)),tS _ _ _ _ (dP hlt),DG _ _ _ (dP hlt)];exact q
 show wpAny _ _ _ _ _ {s with heap:=((s.heap.push (cF "list" #[] 0)).update s.heap.objs.size (d_ (·++f.toArray))).push (cF "list" f.toArray 0)};rw[S];have hs1:((((s.heap.push (cF "list" #[] 0)).update s.heap.objs.size (d_ (·++f.toArray))).push (cF "list" f.toArray 0))).objs.size=s.heap.objs.size+2:=by rw[iI,S]
 have I1:Inv X ((q,lB "<lambda>" qn params body scope [] pm F M)::pins) σ H {s with heap:=((s.heap.push (cF "list" #[] 0)).update s.heap.objs.size (d_ (·++f.toArray))).push (cF "list" f.toArray 0)}:=I.kept (t':=s.toks) keep;generalize ((s.heap.push (cF "list" #[] 0)).update s.heap.objs.size (d_ (·++f.toArray))).push (cF "list" f.toArray 0)=h1 at I1 hoL hs1 keep;generalize hca':s.heap.objs.size+1=a at hoL;have new:∀b,s.heap.objs.size<=b->H b=aE/\X.s₀.heap.objs.size<=b/\b≠X.env.locals/\(∀x c,X.env.cells.lookup x=aA c->c≠b)/\(∀p∈X.pn++pins,p.1≠b)/\b∉X.fs/\b≠q:=λb hb=>by
  have lt:∀{d o},s.heap.get? d=aA o->d≠b:=λ{d o} e z=>absurd (cY (bZ e) hb) (by rw[z];exact iH _);refine⟨I.hok.fresh hb,cU I.sz hb,ln (cY I.lt hb),λx c e=>?_,λp hp=>?_,I.nofs hb,?_⟩
  ·obtain⟨v,o,ho,_⟩:=I.cell x c e;exact lt ho
  ·exact lt ((wy I).pin p hp).1
  ·exact (lt (I.pin _ (dM _ eU)).1).symm
 have na:=new a (by lia);have nk:=new (h1.objs.size+1) (by lia);let J:a9->Prop:=λK=>∃E,Inv X ((q,lB "<lambda>" qn params body scope [] pm F M)::pins) σ E K/\aO α H α E/\aM D φ α E μ/\E F=aA (.ext (wa F qn))/\E a=aE/\E (h1.objs.size+1)=aE;have KJ:Keeps J a (h1.objs.size+1):=by
  refine⟨λK b h' tk hj hb sb=>?_,λK o hj=>?_⟩
  ·obtain⟨E,N,J2,P,J4,O,J6⟩:=hj;have hb0:E b=aE:=by rcases hb with rfl|rfl<;>assumption
   have nb:=by
    have:=hb;exact show X.s₀.heap.objs.size<=b/\b≠X.env.locals/\(∀x c,X.env.cells.lookup x=aA c->c≠b)/\(∀p∈X.pn++pins,p.1≠b)/\b∉X.fs/\b≠q from by rcases this with rfl|rfl;exact na.2;exact nk.2
   have ex:∀c o,c≠b->K.heap.get? c=aA o->h'.get? c=aA o:=λc o n e=>(sb.2 c n).trans e;have neb:∀{c u},E c=aA u->c≠b:=λ{c u} e z=>by rw[z,hb0] at e;cases e
   refine⟨E,N.step (h':=h') (g':=K.gens) (t':=tk) (d':=K.drawn) (ch:=[b]) (λc hc=>?_) (λc o _ _ n e _=>ex c o (λz=>n (by rw[z];simp)) e) (λc o _ _ n e _=>⟨o.slots,ex c o (λz=>n (by rw[z];simp)) e⟩) (λc o _ _ n=>n) (λc o n e=>⟨o,ex c o (λz=>n (by rw[z];simp)) e⟩) (λc xs e=>e) (λc o u e=>e) (λc t e=>⟨#[],by rw[e];simp⟩) (λm hm=>?_) (λc u e=>?_) N.bare,J2,P,J4,O,J6⟩
   ·rw[bT.mp hc];refine⟨.inr nb.1,nb.2.1,nb.2.2.1,λp hp=>?_⟩;rcases cH.mp hp with z|z
    ·exact nb.2.2.2.1 p (eK _ z)
    ·rcases cA.mp z with rfl|z
     ·exact nb.2.2.2.2.2.symm
     ·exact nb.2.2.2.1 p (dM _ z)
   ·exact hm.sameBut sb nb.2.1.symm
   ·refine (N.hok c u e).stay (λd v hd q=>ex d v (λz=>?_) q) (λd q=>q) λd xs q=>q;rcases hd with hd|hd
    ·exact neb e (hd▸z)
    ·exact neb hd z
  ·obtain⟨E,N,J2,P,J4,O,J6⟩:=hj;exact⟨E,N.kept (t':=K.toks) λb o e=>bU _ e,J2,P,J4,O,J6⟩
 refine wpAny_bind (wpAny_holding (wpAny_call_entry_kw slot_list_sort ⟨_,hoL,rfl⟩ entry_list_sort ?body (ksk_l1 _ _)));case body=>
  show wpAny (aR X.prog X.w) X.A.in1.in1 (iS.«list.sort» ⟨[.ref a],[(il "key",.ref q)]⟩) _ _ _
  rw[ksk_t1]
  refine Rv (J:=J) (kz:=kz) (vs:=f) (s:={s with heap:=h1}) KJ ⟨H,I1,aO.refl _ _,mr,hcc,na.1,nk.1⟩ hoL hkl hlen (λi v z K ka ca ck e1 e2 hj ga gk=>?_) λK out c hj ga hout=>⟨_,rfl,wpAny_pure ⟨_,rfl,?_⟩⟩
  ·obtain⟨E,N,J2,P,J4,O,J6⟩:=hj
   have J1a:=xo (xo N ga O na.2.2.1 na.2.2.2.2.2.1 (λv z=>by cases z)) gk J6 nk.2.2.1 nk.2.2.2.2.2.1 (λv z=>by cases z)
   have hi:i<f.length:=(bI.mp e1).1
   obtain⟨vv,hvv⟩:∃vv,vs[i]?=aA vv:=⟨_,fR (by rw[rv.length];exact hi)⟩
   obtain⟨tt,htt⟩:∃tt,xs[i]?=aA tt:=⟨_,fR (by rw[l.length,rv.length];exact hi)⟩
   have rr:RelV vv v:=by
    obtain⟨u0,e0,r0⟩:=rv.get hvv;rw[e1] at e0;cases e0;exact r0
   obtain⟨vv',hv',dd⟩:=(l.step J2).get htt
   rw[hvv] at hv';cases hv'
   have hrec:K.heap.CodeRec (.ref F) qn:=(N.hok F _ J4).1
   have ho:K.heap.get? q=aA (lB "<lambda>" qn params body scope [] pm F M):=(N.pin _ (dM _ eU)).1
   have rm:=C.rom hc
   have hr:bV (0+1) X.A.in1.in1:=⟨rm.hd,by have:=rm.dp;show X.A.depth+3*(0+1)+5<_;lia,by have:=rm.un;show X.A.units+1+1+16*(0+1)+200<_;lia⟩
   refine hW (iK (Rp (k0:=0) C hc hG hs hE hbind hr J1a.env0.in1.in1 ho hrec rr dd P (Q:=λv' H2=>v'=.int z/\aO α E α H2/\aM D φ α H2 μ) (hkr.at htt e2) ?_) λr s2 Z=>?_)
   ·rintro t' μ' ⟨rfl,rfl⟩ α' H2 v' st m d
    have ea:α'=α:=by
     obtain⟨⟨more,e,_⟩,_,_⟩:=id st;have h1:=m.len;have h2:=P.len;rw[e,l3,h2] at h1;have:more=[]:=List.eq_nil_of_length_eq_zero (by lia);rw[e,this,gP]
    subst ea
    exact⟨d,st,m⟩
   ·cases r with
    |error e=>exact Z.elim
    |ok fl=>
     cases fl with
     |ret u=>
      obtain⟨v',H2,I2,r2,rfl,st2,m2⟩:=J1a.after Z;obtain⟨t2,rfl⟩:=r2;have p1:=I2.pin _ (dM _ eU);have p2:=(wy I2).pin _ (dM _ eU);exact⟨⟨t2,rfl⟩,⟨H2,wy (wy I2),J2.trans st2,m2,st2.keep F _ hca J4,p2.2.1,p1.2.1⟩,p2.1,p1.1⟩
     |next=>exact dI Z
     |brk=>exact dI Z
     |cont=>exact dI Z
  ·obtain⟨E,N,J2,P,J4,O,J6⟩:=hj
   obtain⟨ps,hp,ho,hpw⟩:=hout
   have lz:∀{A B:Type}(a:List A) (b:List B),a.length=b.length->(a.zip b).length=b.length:=λa b h=>by rw[DA,h,sE]
   have R:vs.length=f.length:=rv.length
   have hxl:xs.length=f.length:=by rw[l.length,R]
   have em:kz.zip f=(kz.zip (f.zip (vs.zip xs))).map (λq=>(q.1,q.2.1)):=by
    refine Dm (by simp[hkl,R,hxl]) λi h1 h2=>by simp
   obtain⟨t,hqp,rfl⟩:=u_ hp em
   have mem:∀q∈t,RelV q.2.2.1 q.2.1/\a_ D φ α E q.2.2.2 q.2.2.1:=λq Z=>by
    have:=hqp.mem_iff.mp Z;obtain⟨i,hi⟩:=i4.mp this;obtain⟨L,rfl⟩:=bI.mp hi;simp only[DA,Nat.lt_min] at L;have d:=(l.step J2).get (i:=i) (fR L.2.2.2);obtain⟨v',e',d⟩:=d;rw[fR L.2.2.1] at e';cases e';simp only[List.getElem_zip];obtain⟨u0,e0,r0⟩:=rv.get (fR L.2.2.1);rw[fR L.2.1] at e0;cases e0;exact⟨r0,d⟩
   have hvs:∀(t:List (Int×aD×V×T)),(∀q∈t,RelV q.2.2.1 q.2.1/\a_ D φ α E q.2.2.2 q.2.2.1)->aY (t.map (·.2.2.1)) (t.map (·.2.1))/\aN D φ α E (t.map (·.2.2.2)) (t.map (·.2.2.1)):=by
    intro t;induction t with
    |nil=>exact λ_=>⟨.nil,rfl⟩
    |cons q r ih=>
     intro h;obtain⟨a1,a2⟩:=ih λq' hq'=>h q' (d9 _ hq');obtain⟨b1,b2⟩:=h q eU;exact⟨.cons b1 a1,_,_,rfl,b2,a2⟩
   obtain⟨w1,w2⟩:=hvs t mem
   have hol:out.toList=t.map (·.2.1):=by rw[ho,hO];rfl
   have hql:t.length=f.length:=by rw[hqp.length_eq];simp[hkl,R,hxl]
   have J7:Inv X pins σ (upd E a (.lst (t.map (·.2.2.1)))) K:=S8 (wy N) O na.2.1 na.2.2.1 na.2.2.2.1 na.2.2.2.2.1 (show a6 X.prog X.w _ _ _ (.lst (t.map (·.2.2.1))) from ⟨by rw[cJ,hql,eQ];lia,t.map (·.2.1),c,w1,by rw[←hol,Array.toArray_toList];exact ga⟩)
   refine⟨.ref a,_,J7,rfl,?_⟩
   have sm:=zf (o:=HO.lst (t.map (·.2.2.1))) O
   have e2:(t.map λq=>(q.1,q.2.2.2)).map (·.2)=t.map (·.2.2.2):=by rw[hO];rfl
   have e3:kz.zip xs=(kz.zip (f.zip (vs.zip xs))).map (λq=>(q.1,q.2.2.2)):=by
    refine Dm (by simp[hkl,R,hxl]) λi h1 h2=>by simp
   have kk:=hK (t.map λq=>(q.1,q.2.2.2)) (by rw[e3];exact hqp.map _) (by
    rw[l7] at hpw ⊢;exact hpw.imp λh=>by simpa using h)
   rw[e2] at kk
   refine k1 _ _ kk α _ (J2.trans (aO.new sm)) (P.new sm) _ ⟨_,_,rfl,zk P O,zm P O,.inl z3,w2.step (aO.new sm)⟩
theorem iq(a:fd.params=⟨[],[⟨y,aE,pa⟩],aE,[],[],aE,[]⟩)(hd:fd.defaults=.none):li fd ⟨[u],[]⟩=pure [(y,u)]:=by
 have e:gS y [(y,u)]=aA u:=by simp[gS]
 unfold li;rw[a,hd];simp[e,o2];rfl
theorem RW(C:Ck D W Γ X k)(hc:Γ.calm=aB){body:aI} 
  (hx:("sorted":aG)∈Γ.G) (hg0:Γ.gl "sorted"=.none) (E:aT a=aB) (ha:PE X a (aW D W f)) (hlm:Γ.lam=aA (j,w)) (Z:Γ.lnm="<lambda>") (V:pl∈w) (hG:G.all (λy=>Γ.U.contains y&&og (Γ.gl y))=aB) (hs:jH (xw Γ y G) [y] sc=aB) (hE:∀Y W k,Ck D W (xw Γ y G) Y k->PE Y body (aW D W g)) :
  PE X (.Call (.Name "sorted" p0) [a] [⟨aA "key",.Lambda ⟨[],[⟨y,aE,pa⟩],aE,[],[],aE,[]⟩ body sc pl,pk⟩] pos) (aW D W (KA j g f)):=by
 obtain⟨hk,c,P,F,hC,hB,hD⟩:=C.lam j w hlm;rw[Z] at hD;have hm:=C.glo _ hx;rw[hg0] at hm;have hfr:∀x∈sc.names,x.2≠.free:=by
  have M:=hs;simp only[jH,cB,fT,bne_iff_ne,ne_eq] at M;exact M.1.1.1.1.2
 rintro J s σ H Q I ⟨A,α,τ,μ,sr,mr,p⟩;refine iL (jf I (C.glb _ hx) hm (show hS "sorted"=aA (.builtin "sorted") by decide +kernel) ?_ (by decide) (C.dbG _ hx));refine callWith_kw (aX (zM ha qU (z6 E) pos J s σ H (λvs R=>∃v t B h,vs=[v]/\aO α H h R/\aM D A h R B/\a_ D A h R t v/\aJ D W A h R σ (RV D A Q) (GY j g t B)) I ⟨A,α,τ,μ,sr,mr,p.bind.mono λt b e o st m q v d=>⟨v,t,b,e,rfl,st,m,d,q⟩⟩) ?_) (by rw[z6 E];rfl) (by rw[z6 E];rfl) rfl rfl;rintro us s1 ⟨vs,R,I1,rv,v,t,B,h,rfl,st,m,d,K0,Z0,⟨⟨i,hi⟩,q⟩,k1,k2⟩;obtain⟨u,rfl,r1⟩:=vals1 rv;refine kws_cons (Dl rfl (Jq (line:=pl.line) I1 m hi hD V F hC hB (closureFor_none hfr) λq0 c' ctv H2 s2 I2 r S O N _=>kws_nil ?_));have L:∀t b,K0 t b->∀e o,aO h H2 e o->aM D A e o b->RV D A Q t b e o:=λt b z e o n K=>k1 t b z e o (r.trans n) K;show wpAny _ _ (call (.builtin "sorted") [u] [(il "key",.ref q0)]) _ _ _;split at q
 ·obtain⟨ad,xs,rfl,n1,n2,T,l⟩:=d.step r;cases r1;exact VA (j:=j) C hk hc hG hs hE (λs u=>.of_eq (iq rfl rfl)) I2 S O N T l ⟨K0,Z0,q,L,λcc fs b z e o CC dd n K=>k2 cc fs b z e o CC dd (r.trans n) K⟩
 ·obtain⟨ts,hj,q⟩:=q;obtain⟨ad,hi2,rfl⟩:=d;cases r1;obtain⟨xs,T,l⟩:=S.ob _ ad _ hi2 hj;exact VA (j:=j) C hk hc hG hs hE (λs u=>.of_eq (iq rfl rfl)) I2 S O N (.inl T) l ⟨K0,Z0,q,L,λcc fs b z e o CC dd n K=>k2 cc fs b z e o CC dd (r.trans n) K⟩
 ·exact dI q
end
noncomputable def F4:Arg->Option aG
 |⟨y,aE,_⟩=>aA y
 |_=>aE
noncomputable def AB:Arguments->Option aG
 |⟨[],[p],aE,[],[],aE,[]⟩=>F4 p
 |_=>aE
theorem Pd(h:AB a=aA y):∃p,a=⟨[],[⟨y,aE,p⟩],aE,[],[],aE,[]⟩:=by
 unfold AB at h;split at h
 ·unfold F4 at h;split at h
  ·cases h;exact⟨_,rfl⟩
  ·cases h
 ·cases h
noncomputable def rH:aI->Option (aG×aI×Scope×Pos)
 |.Lambda a body b pl=>(AB a).bind λy=>aA (y,body,b,pl)
 |_=>aE
theorem X5(h:rH e=aA q):∃pa,e=.Lambda ⟨[],[⟨q.1,aE,pa⟩],aE,[],[],aE,[]⟩ q.2.1 q.2.2.1 q.2.2.2:=by
 unfold rH at h;split at h
 ·obtain⟨y,b,a⟩:=aP h;cases a;obtain⟨pa,rfl⟩:=Pd b;exact⟨pa,rfl⟩
 ·cases h
noncomputable def Hn:ER:=λr b e=>(AO e).bind λq=>(rH q.v).bind λw=>b.lam.bind λz=>gd (q.x==("sorted":aG)) (gd (q.ky==("key":aG)) (gd ((cD b.N q.x).isNone&&aT q.a) (gd (b.calm&&lI (b.look "sorted")) (gd ((uR w.2.2.1).all (λy=>b.U.contains y&&og (b.gl y))) (gd (jH (xw b w.1 (uR w.2.2.1)) [w.1] w.2.2.1) (gd (decide (w.2.2.2∈z.2)&&b.lnm==("<lambda>":aG))
      ((r.e b q.a).bind λf=>(r.e (xw b w.1 (uR w.2.2.1)) w.2.1).bind λg=>aA (KA z.1 g f))))))))
theorem Y_:cM D Hn:=by
 intro r H X W B k e d C h;obtain⟨q,x,h⟩:=aP h;obtain⟨w,v,h⟩:=aP h;obtain⟨⟨j,a⟩,m,h⟩:=aP h;obtain⟨u,h⟩:=zc h;obtain⟨t,h⟩:=zc h;obtain⟨s,h⟩:=zc h;obtain⟨c,h⟩:=zc h;obtain⟨p,h⟩:=zc h;obtain⟨o,h⟩:=zc h;obtain⟨b,h⟩:=zc h;obtain⟨f,z,h⟩:=aP h;obtain⟨g,y,h⟩:=aP h;cases h;obtain⟨E,l⟩:=X5 v;rw[Rg x,l,wC u,wC t];obtain⟨i,n⟩:=qY (zF c).2;exact RW C (zF c).1 i n (zF s).2 (H.e C z) m (wC (zF b).2) (of_decide_eq_true (zF b).1) p o λY W k A=>H.e A y
noncomputable abbrev oI(x y:T)(μ:aK):RE T:=match y with
 |.mut i=>(match x with
  |.int z=>λK _=>∃a,μ[i]?=aA (MO.dic a)/\K (.bl (zL (.inl z) a).isSome) μ
  |.str z=>λK _=>∃a,μ[i]?=aA (MO.dic a)/\K (.bl (zL (.inr z) a).isSome) μ
  |_=>.st)
 |_=>Qc .In x y μ
noncomputable abbrev n_(f g:De):De:=λc d=>(f c d).bind λx b=>(g c b).bind λy a=>oI x y a
noncomputable abbrev Zd(o b f:De):Ds:=λd j=>(f d j).out d λt g=>(o d g).out d λl e=>(b d e).out d λit c=>match l,it with
 |.mut i,.int k=>λE=>(∃h,c[i]?=aA (.lst h)/\(0<=k/\k<h.length/\k<9223372036854775808)/\E.nx d (c.set i (.lst (h.set k.toNat t))))\/(∃a,c[i]?=aA (.dic a)/\a.length<aQ/\E.nx d (c.set i (.dic (xr (.inl k) t a))))
 |.mut i,.str z=>λE=>∃a,c[i]?=aA (.dic a)/\a.length<aQ/\E.nx d (c.set i (.dic (xr (.inr z) t a)))
 |_,_=>.st
section
variable {X:Cx}{D:DP}{W:XW}{Γ:Cn}{k:Nat}{pins:List (aF×bA)}{s:Shared}{σ:St}{H:Hp}{φ α:List aF}{τ:Sl}{μ:aK}{f g:De}{a b:aI}{pos:Pos}
theorem Q0:∀{a:List (Key×T)}{gs:List (Key×V)},bF D φ α H a gs->(yC gs z).isSome=(zL z a).isSome
 |[],_,h=>by cases h;rfl
 |p::r,_,h=>by
  obtain⟨v,q,rfl,d,l⟩:=h;unfold zL;by_cases e:p.1=z
  ·rw[if_pos e,xQ (p:=(p.1,v)) e];rfl
  ·rw[if_neg e,xX (p:=(p.1,v)) e];exact Q0 l
theorem Gj(I:Inv X pins σ H s)(m:X.A.units+64<cLine)(d:aM D φ α H μ)(b:a_ D φ α H x v)(g:a_ D φ α H y w)(f:RelV v u1)(e:RelV w j)
  (p:aJ D W φ α H σ (RV D φ Q) (oI x y μ)):wpAny (aR X.prog X.w) X.A (eG .In u1 j) (EP X pins σ Q) X.xe s:=by
 have go:∀{i:Nat}{z:Key}{a:List (Key×T)},y=.mut i->v=kV z->μ[i]?=aA (MO.dic a)->aJ D W φ α H σ (RV D φ Q) (.ok (.bl (zL z a).isSome) μ)->wpAny (aR X.prog X.w) X.A (eG .In u1 j) (EP X pins σ Q) X.xe s:=λ{i z a} ey ev c h=>by
  subst ey;subst ev;obtain⟨ad,n,rfl⟩:=g;cases e;obtain⟨gs,o,l⟩:=d.ob i ad _ n c;refine Lr (by omega) I (fF.k (k:=z) o) f λr q=>⟨.bl (yC gs z).isSome,H,q,rfl,?_⟩;rw[Q0 l];exact h.here d rfl
 unfold oI at p;split at p
 ·split at p
  ·obtain⟨a,c,p⟩:=p.ex1;have b:v=_:=b;exact go (z:=.inl _) rfl b c p
  ·obtain⟨a,c,p⟩:=p.ex1;have b:v=_:=b;exact go (z:=.inr _) rfl b c p
  ·exact p.elim
 ·exact WV I m d b g f e p
theorem N7(C:Ck D W Γ X k)(ho:jr .In b=aB)(B:PE X a (aW D W f))(A:PE X b (aW D W g)):PE X (.Compare a [.In] [b] pos) (aW D W (n_ f g)):=by
 rintro i s M H Q I ⟨K,O,L,N,r,z,p⟩;refine tj (aX (sub B I r z p) ?_) (jU ho);rintro u U ⟨v,Y,t,l,n,J,x,o,d,h,F,p1⟩;refine aX (sub A J d h p1) ?_;rintro R T ⟨P,V,S,j,m,G,w,c,q,e,E,y⟩;exact Gj G C.unt e (F.step c) E x w y
theorem aL.or{r a:En->Prop}(p:aL D W φ α H E λE=>r E\/a E):aL D W φ α H E r\/aL D W φ α H E a:=by
 obtain⟨E0,q,b⟩:=p;rcases q with q|q
 ·exact .inl ⟨E0,q,b⟩
 ·exact .inr ⟨E0,q,b⟩
theorem UN(j:X.A.units+1<cLine):xL X (λo i v H Q=>(∃l k xs,o=.ref l/\i=.int k/\H l=aA (.lst xs)/\0<=k/\k<xs.length/\k<9223372036854775808/\Q (upd H l (.lst (xs.set k.toNat v))))\/(∃l gs z,o=.ref l/\i=kV z/\H l=aA (.dK gs)/\gs.length<sizeLine/\Q (upd H l (.dK (eH gs z v))))):=by
 intro a s e H o i v f g u Q I c d b h;rcases h with h|⟨l,gs,z,rfl,rfl,n,m,q⟩
 ·exact fW a s e H o i v f g u Q I c d b h
 ·cases c;exact Ue j I (i_.k (k:=z) n m) d b λr p=>⟨_,p,q⟩
theorem OW(C:Sk D W Γ X k)(U:qB b=aB)(ha:PE X a (aW D W f))(ho:PE X o (aW D W fo))(hb:PE X b (aW D W fb)) :
  PS X (.Assign [.Subscript o b p1] a pos) (dJ D W (Zd fo fb f)):=by
 rintro G s σ H E I ⟨L,α,M,μ,S,mr,p⟩;have h1:pB [.Subscript o b p1] a pos.line X.env=pure aC:=by cases a<;>rfl
 have h2:pA [.Subscript o b p1] a X.env=pure aE:=by cases a<;>rfl
 refine JY ha (Hj ho hb (UN (by have:=C.toCk.unt;lia)) (λv=>by cases b<;>first|(simp[qB] at U;done)|rfl)) h1 h2 rfl G s σ H E I ⟨L,α,M,μ,S,mr,(aL.out S p).mono λt O Q H1 R m1 q v d=>?_⟩;have w:=S.step R;refine⟨L,Q,M,O,w,m1,(aL.out w q).mono λot N P H2 F m2 q2 ov dv=>?_⟩;have m:=w.step F;refine⟨L,P,M,N,m,m2,(aL.out m q2).mono λit u h B j A g Z di=>?_⟩;have V:=(d.step F).step j;have dv:=dv.step j;cases ot with
 | «mut» i=>
  obtain⟨x,n,rfl⟩:=dv;cases it with
  |int J=>
   have di:Z=.int J:=di;subst di;rcases aL.or g with g|g
   ·obtain⟨ts,e,y,g⟩:=aL.ex1 g;obtain⟨Y,r,l⟩:=A.ob i x _ n e;have c:aO h B h (upd B x (.lst (Y.set J.toNat v))):=aO.turn (b9 n) ⟨_,r⟩;have K:i<u.length:=(bI.mp e).1;exact .inl ⟨x,J,Y,rfl,rfl,r,y.1,by rw[←l.length];exact y.2.1,y.2.2,aL.nx g c (A.turn n K c ⟨_,z3,aN.set (l.step c) (V.step c)⟩) ((m.step j).step c)⟩
   ·obtain⟨T,e,y,g⟩:=aL.ex1 g;obtain⟨gs,r,l⟩:=A.ob i x _ n e;have c:aO h B h (upd B x (.dK (eH gs (.inl J) v))):=aO.turn (b9 n) ⟨_,r⟩;have K:i<u.length:=(bI.mp e).1;exact .inr ⟨x,gs,(.inl J),rfl,rfl,r,by rw[wK l];exact cY y (zA (bE _)),aL.nx g c (A.turn n K c ⟨_,z3,JE (V.step c) (l.step c)⟩) ((m.step j).step c)⟩
  |str z=>
   have di:Z=.str z:=di;obtain⟨T,e,y,g⟩:=aL.ex1 g;obtain⟨gs,r,l⟩:=A.ob i x _ n e;have c:aO h B h (upd B x (.dK (eH gs (.inr z) v))):=aO.turn (b9 n) ⟨_,r⟩;have K:i<u.length:=(bI.mp e).1;exact .inr ⟨x,gs,(.inr z),rfl,di,r,by rw[wK l];exact cY y (zA (bE _)),aL.nx g c (A.turn n K c ⟨_,z3,JE (V.step c) (l.step c)⟩) ((m.step j).step c)⟩
  |_=>exact aL.elim g
 |_=>exact aL.elim g
theorem Nq{R:β->aK->List aF->Hp->Prop}{kk:T->aK->RE β}{x y:T}{v w:V}{u1 c:aD}(I:Inv X pins σ H s)(h:X.A.units+64<cLine)(g:aM D φ α H μ)(k:a_ D φ α H x v)(i:a_ D φ α H y w)(f:RelV v u1)(e:RelV w c)
  (p:aJ D W φ α H σ R ((oI x y μ).bind kk)):wpAny (aR X.prog X.w) X.A (eG .In u1 c) (EP X pins σ λz B=>∃t r j,aO α H j B/\aM D φ j B r/\a_ D φ j B t z/\aJ D W φ j B σ R (kk t r)) X.xe s:=
 Gj I h g k i f e (p.bind.mono λt a b l st m q v d=>⟨t,a,b,st,m,d,q⟩)
theorem Yw(C:Ck D W Γ X k)(ho:jr .In b=aB)(V:PE X a (aW D W f))(U:PE X b (aW D W g)):PT X (.Compare a [.In] [b] pos) (eL D W (tE (n_ f g))):=by
 rintro q s w H Q I ⟨r,J,o,B,N,T,p⟩;have p:aJ D W r J H w (λb _ _ H'=>Q b H') ((f o B).bind λx e=>(g o e).bind λy c=>(oI x y c).bind yc):=p;refine tK (aX (sub V I N T p) ?_) (jU ho);rintro u s1 ⟨v,H1,t,e,G,I1,R,L,j,n,d1,p1⟩;refine aX (sub U I1 j n p1) ?_;rintro u' s2 ⟨v',H2,t',c,F,I2,P,i,M,m,Z,S⟩;refine aX (Nq I2 C.unt m (d1.step i) Z R P S) ?_;rintro d s3 ⟨z,H3,I3,O,t3,A,E,K,l,Y,h⟩;unfold yc at h;split at h
 ·cases Y;cases O;exact wpAny_truthy_bool ⟨H3,I3,h.ok (aO.refl _ _) l⟩
 ·exact h.elim
end
noncomputable def GI(Γ:Cn)(b:aI):Bool:=match b with
 |.Name x _=>(cD Γ.N x).isSome
 |_=>aC
noncomputable def isIn:eO->Bool
 |.In=>aB
 |_=>aC
theorem Pn(h:isIn op=aB):op=.In:=by cases op<;>first|rfl|cases h
noncomputable def Lp (r:cX)(Γ:Cn)(e:aI):Option De:=(rD e).bind λq=>gd (isIn q.op&&GI Γ q.b) (gd (jr .In q.b) ((r.e Γ q.a).bind λf=>(r.e Γ q.b).bind λg=>aA (n_ f g)))
noncomputable def FA:ER:=Lp
theorem Rk:cM D FA:=by
 intro r H X W l k e d C h;obtain⟨q,c,h⟩:=aP h;obtain⟨b,h⟩:=zc h;obtain⟨a,h⟩:=zc h;obtain⟨f,j,h⟩:=aP h;obtain⟨g,i,h⟩:=aP h;cases h;rw[Xf c,Pn (zF b).1];exact N7 C a (H.e C j) (H.e C i)
noncomputable def UB:TR:=λr c e=>match e with
 |.Compare a [.In] [b] _=>gd (GI c b&&jr .In b) ((r.e c a).bind λf=>(r.e c b).bind λg=>aA (tE (n_ f g)))
 |_=>aE
theorem Tf:r4 D UB:=by
 intro r H X W j k e d C h;unfold UB at h;split at h
 ·obtain⟨b,a⟩:=zc h;obtain⟨f,i,a⟩:=aP a;obtain⟨g,c,a⟩:=aP a;cases a;simp only[cB] at b;exact Yw C b.2 (H.e C i) (H.e C c)
 ·cases h
noncomputable def wS:bC->Option (aI×aI×Pos)
 |.Assign [t] e p=>aA (t,e,p)
 |_=>aE
theorem P6(h:wS s=aA q):s=.Assign [q.1] q.2.1 q.2.2:=by
 unfold wS at h;split at h
 ·cases h;rfl
 ·cases h
noncomputable def UE:SR:=λr a s=>(wS s).bind λq=>(rp q.1).bind λw=>gd (qB w.2.1) ((r.e a w.1).bind λfo=>(r.e a w.2.1).bind λfb=>(r.e a q.2.1).bind λf=>aA (Zd fo fb f))
theorem Yg:m3 D UE:=by
 intro r H X W l k e d C h;obtain⟨q,c,h⟩:=aP h;obtain⟨w,b,h⟩:=aP h;obtain⟨a,h⟩:=zc h;obtain⟨fo,j,h⟩:=aP h;obtain⟨fb,i,h⟩:=aP h;obtain⟨f,g,h⟩:=aP h;cases h;rw[P6 c,Y5 b];exact OW C a (H.e C.toCk g) (H.e C.toCk j) (H.e C.toCk i)
end NH
namespace NH.P
open PySem L2 NH
@[reducible] noncomputable def y0:List Ds:=[(bM (qW (tE (z8 qz [(eV 0),(eV 1)]))) [(zU 13 [(eC (.str "no moment, house or count of the shape"))])] [])]
noncomputable def wD:Fn:=bH 2 0 y0
@[reducible] noncomputable def Wb:List Ds:=[(zS (z8 wD [(eV 1),(ze (eV 0) 0)])),(zS (z8 wD [(eV 2),(ze (eV 0) 1)])),(zS (z8 wD [(eV 3),(ze (eV 0) 2)])),(zq (zh .Add (zh .Mult (zh .Add (zh .Mult (eV 1) (ze (eV 0) 1)) (eV 2)) (ze (eV 0) 2)) (eV 3)))]
noncomputable def um:Fn:=bH 4 0 Wb
@[reducible] noncomputable def Zv:List Ds:=[(bM (fO (qW (tE (wM [4] (eV 1)))) (tE (zE .NotEq (eZ uH (eV 1)) (eC (.int 3))))) [(zq (eC (.bl aC)))] []),(bM (qW (xm (tE (z8 qz [(bD (eV 1) (eC (.int 0))),(ze (eV 0) 1)])) (xm (tE (z8 zy [(bD (eV 1) (eC (.int 1)))])) (tE (z8 zy [(bD (eV 1) (eC (.int 2)))]))))) [(zq (eC (.bl aC)))] []),(zq (mV (eC (.int 0)) [(.LtE,(bD (eV 1) (eC (.int 1)))),(.Lt,(bD (eV 1) (eC (.int 2)))),(.LtE,(ze (eV 0) 0))]))]
noncomputable def xF:Fn:=bH 2 0 Zv
@[reducible] noncomputable def km:List Ds:=[(bM (qW (tE (z8 xF [(eV 0),(eV 1)]))) [(zU 18 [(eC (.str "no lease of the shape"))])] [])]
noncomputable def vt:Fn:=bH 2 0 km
@[reducible] noncomputable def k_:List Ds:=[(qa (eV 0) 5 (eV 1)),(qa (eV 0) 6 (eV 2)),(qa (eV 0) 7 (bD (eV 2) (eC (.int 2)))),(qa (eV 0) 8 (eC (.bl aC)))]
noncomputable def ja:Fn:=bH 3 0 k_
@[reducible] noncomputable def XD:List Ds:=[(zq (zE .Lt (i7 Q1 (bD (ze (eV 0) 6) (eC (.int 1))) (eV 1)) (i7 VB (ze (eV 0) 7) (eV 2))))]
noncomputable def fY:Fn:=bH 3 0 XD
@[reducible] noncomputable def kg:List Ds:=[(zt 3 (eV 1)),(Jr (.one 4) (iE (KA 0 (bD (ze (eV 0) 6) (eC (.int 1))) (eV 0))) [(bM (tE (z8 fY [(eV 4),(eV 3),(zh .Add (eV 3) (eV 2))])) [(zt 3 (ze (eV 4) 7))] [])]),(zq (eV 3))]
noncomputable def qI:Fn:=bH 3 2 kg
@[reducible] noncomputable def ki:List Ds:=[(zt 3 JF),(Jr (.one 4) (iE (eV 0)) [(bM (tE (z8 fY [(eV 4),(eV 1),(zh .Add (eV 1) (eV 2))])) [(Zd (eV 3) (bD (ze (eV 4) 6) (eC (.int 0))) (eC (.bl aB)))] [])]),(zt 5 (eC (.int 0))),(WE (tE (n_ (eV 5) (eV 3))) [(zt 5 (zh .Add (eV 5) (eC (.int 1))))]),(zq (eV 5))]
noncomputable def vx:Fn:=bH 3 3 ki
@[reducible] noncomputable def kj:List Ds:=[(qa (eV 0) 9 (eV 1)),(qa (eV 0) 10 (Qy []))]
noncomputable def vD:Fn:=bH 2 0 kj
@[reducible] noncomputable def w9:List Ds:=[(bM (qW (tE (z8 zT [(eV 1)]))) [(zU 17 [(eC (.str "a holder is a text of one to eight small letters"))])] []),(bM (xm (tE (zE .IsNot (eV 2) (eC .non))) (qW (tE (z8 qz [(eV 2),(ze (ze (eV 0) 9) 1)])))) [(zU 13 [(eC (.str "no house of the shape"))])] []),(bM (qW (tE (z8 qQ [(eV 4)]))) [(zU 16 [(eC (.str "a span is a whole number from 1 on"))])] []),(bM (qW (tE (z8 zy [(eV 3)]))) [(zU 16 [(eC (.str "a moment is a whole number"))])] [])]
noncomputable def q9:Fn:=bH 5 0 w9
@[reducible] noncomputable def vj:List Ds:=[(zq (vz 1 [1] (.one 0) (iE (ze (eV 0) 10)) [(tE (zE .Eq (bD (ze (eV 0) 6) (eC (.int 0))) (eV 1)))] (eV 0)))]
noncomputable def qM:Fn:=bH 2 0 vj
@[reducible] noncomputable def wR:List Ds:=[(bM (tE (zE .Is (eV 1) (eC .non))) [(zq (zG [(z8 vx [(ze (eV 0) 10),(eV 2),(eV 3)]),(eV 2),(zh .Add (eV 2) (eV 3))]))] []),(zt 4 (z8 qI [(zz 43 qM (eV 0) [(eV 1)]),(eV 2),(eV 3)])),(zq (zG [(eV 1),(eV 4),(zh .Add (eV 4) (eV 3))]))]
noncomputable def zJ:Fn:=bH 4 1 wR
@[reducible] noncomputable def xi:List Ds:=[(zS (zz 43 q9 (eV 0) [(eV 1),(eV 2),(eV 3),(eV 4)])),(zt 5 (zz 43 zJ (eV 0) [(eV 2),(i7 Q1 (eV 3) (eC (.int 0))),(eV 4)])),(bM (fO (tE (zE .GtE (bD (eV 5) (eC (.int 0))) (ze (ze (eV 0) 9) 1))) (tE (zE .Gt (bD (eV 5) (eC (.int 2))) (ze (ze (eV 0) 9) 0)))) [(zU 19 [(eC (.str "no such stretch is free"))])] []),(zS (U3 (ze (eV 0) 10) (uh 42 ja [(eV 1),(eV 5)]))),(zq (eV 5))]
noncomputable def qo:Fn:=bH 5 1 xi
end NH.P
namespace NH
open PySem PySem.Spec PyProof.Rows L2
noncomputable def BU(v:aD):Bool:=match v with|.bool b=>b|_=>aC
section
variable {X:Cx}{D:DP}{pins:List (aF×bA)}{s:Shared}{σ:St}{H:Hp}{φ α:List aF}{b:aI}
theorem QW:∀{ts:List T}{bs:List Bool}{vs:List V},bR ts=aA bs->aN D φ α H ts vs->vs=bs.map V.bl
 |[],bs,vs,h,l=>by simp[bR] at h;subst h;exact l
 |.bl b::ts,bs,vs,h,l=>by
  obtain⟨v,q,rfl,d,l⟩:=l;simp only[bR,pT] at h;obtain⟨cs,h,rfl⟩:=h;have d:v=V.bl b:=d;subst d;rw[QW h l];rfl
theorem Zf:∀{bs:List Bool}{us:List aD},aY (bs.map V.bl) us->us=bs.map lR
 |[],_,.nil=>rfl
 |b::bs,_,.cons r q=>by cases r;rw[Zf q];rfl
theorem YH:m4 X "list.index" (λx vs H Q=>∃(l:aF) (a:List V) (bs:List Bool) (j:Nat),x=.ref l/\vs=[.bl aB]/\Rd H l (.lst a)/\a=bs.map V.bl/\j<1000/\bs[j]?=aA aB/\(∀m,m<j->bs[m]?=aA aC)/\Q (.int j) H):=by
 intro d s G H x vs v J Q I k o h;obtain⟨l,a,bs,j,rfl,rfl,z,rfl,N,C,B,q⟩:=h;cases k;obtain⟨K,rfl,p⟩:=vals1 o;cases p;obtain⟨u,r,pl,_⟩:=I.list (.inl z);obtain⟨⟨cls,dd,g,i⟩,e,f,n,hd⟩:=pl.isList;simp only at f hd;subst f hd;have eu:=Zf r;subst eu;obtain⟨E,D⟩:=bI.mp C;refine pd F.slot_list_index ⟨_,e,rfl⟩ F.entry_list_index (F.args_list_index_2 _ _) (SeqAt.list_indexAt l _ n dd i (.bool aB) BU j (by simpa using E) (by lia) (by simp[BU,D]) λm M c=>?_) ⟨e,λy w=>?_,?_⟩
 ·have:=B m c;obtain⟨L,t⟩:=bI.mp this;simp[BU,t]
 ·have:y∈bs.map lR:=by simpa using w
  obtain⟨b,_,rfl⟩:=eR.mp this;have:=Ev (A:=X.A.in1) (s:=s) b aB;cases b<;>exact this
 ·exact⟨.int _,H,I.tok _,⟨_,rfl⟩,q⟩
end
section
variable {prog:Program}{w:World}{A:Around}{E:aD->Shared->Prop}{h:aV}{g:Array GenState}{d:Drawn}{t:Nat}{os:OsState}
variable {nm q:aG}{C N:aF}{bs bm bmB:List aD}{hdct:Bool}{sn:List aG}{sub:List aD}{ab:Bool}{col:Option Bool}{dd:Option aF}{k0 k1 k2 k3 k5:Option aD}{B newId initId:String}
theorem YT(F:sD B newId initId bmB)(p:lO h bmB bm) 
  (j:h.get? C=aA (im nm q C N bs bm hdct sn sub ab col dd k0 k1 k2 k3 k5 newId)) (u:h.Ns N mN) (v:mN "__init__"=aA (.ref fI)) (gf:h.get? fI=aA D) (gc:D.cls=.type "function")
  (go:∀h1 x,nF h h1 x (.ref C) us->wpAny (aR prog w) A (call (.ref fI) (.ref x::us)) (λr s=>r=.none/\Q (.done (.ret (.ref x))) s) E ⟨h1,g,d,t,os⟩) (k:us.length<=sizeLine) :
  wpAny (aR prog w) A (iS.«type.__call__» ⟨.ref C::us,[]⟩) Q E ⟨h,g,d,t,os⟩:=by
 repeat (first|(with_reducible refine nI j ?_)|(with_reducible refine wpAny_madeBy_exc j ?_)|wp_step)
 refine codeAny_call_builtin_code (Ea _ F.quiet) (wpAny_check_new_subT F p j (codeAny_exc_new_subT F p j ?_ k));show wpAny _ _ _ _ _ _;let c:bA:={cls:=.type "tuple",data:=.seq us.toArray};let a:bA:={cls:=.ref C,data:=.fields #[.ref h.objs.size,.none,.none,.none,.bool aC,.none]};have f:∀b o,h.get? b=aA o->((h.push c).push a).get? b=aA o:=λb o e=>bU _ (bU _ e);have i:=f _ _ j;have m:=f _ _ gf;have n:((h.push c).push a).Ns N mN:=by
  obtain⟨o,es,ep,e,r⟩:=u;exact⟨o,es,ep,f _ _ e,r⟩
 have gx:((h.push c).push a).get? (h.objs.size+1)=aA a:=by
  have:=eF (h.push c) (o:=a) rfl;rw[iI] at this;exact this
 have own:(cN C::bm).contains (.ref C)=aB:=by simp
 have y:lO ((h.push c).push a) bmB bm:=p.keeps f;unfold o_;repeat (first|(with_reducible refine nI gx ?_)|(with_reducible refine DS i ?_;rw[own])|wp_step)
 show wpAny _ _ (nu (.ref C) _) _ _ _;refine wpAny_typeLookup_tail i n y F.mroIs F.init.lookup ?_;rw[v];refine wpAny_holding (wpAny_bind ?_);unfold sk;refine wpAny_bind (pe (T:="function") ⟨_,m,gc⟩ ?_);rw[if_pos (by decide)];have mk:nF h ((h.push c).push a) (h.objs.size+1) (.ref C) us:=⟨f,lD (mE _),h.objs.size,gx,lD (bE _),bU _ (DF rfl rfl)⟩;refine wpAny_pure (wpAny_bind (dO (go _ _ mk) (λr s l=>?_) λ_ _ z=>z));obtain⟨rfl,l⟩:=l;wp_walk;exact l
theorem U0(F:sD B newId initId bmB)(f:lO h bmB bm) 
  (a:h.get? C=aA (im nm q C N bs bm hdct sn sub ab col dd k0 k1 k2 k3 k5 newId)) (c:h.Ns N mN) (e:mN "__init__"=aA (.ref fI)) (gf:h.get? fI=aA s) (gc:s.cls=.type "function")
  (go:∀h1 x,nF h h1 x (.ref C) us->wpAny (aR prog w) (A.under (.builtin "type.__call__" ⟨.ref C::us,[]⟩)) (call (.ref fI) (.ref x::us)) (λr j=>r=.none/\Q (.ref x) j) E ⟨h1,g,d,t,os⟩) (b:us.length<=sizeLine) :
  wpAny (aR prog w) A (call (.ref C) us) Q E ⟨h,g,d,t,os⟩:=by
 have l:=tc_lookup;have k:=tc_bind (.ref C);have i:Shared.TypeIs ⟨h,g,d,t,os⟩ (.ref C) "type":=⟨_,a,rfl⟩;refine hW (codeAny_of_tree ?_);show wpAny _ _ (callAny (.ref C) _) _ _ _;repeat (any_goals (first|assumption|(with_reducible refine nI a ?_)|wp_step))
 refine⟨rfl,codeAny_call_builtin_at (Ea _ (by decide +kernel)) entry_typeCall (wpAny_check_type_call_sub a ?_)⟩;exact YT F f a c e gf gc (λh1 x mk=>go h1 x mk) b
theorem ZC (a:bm.contains (.type "BaseException")=aB) (hh:A.handled=aE)
  (go:wpAny M A x (λv j=>∃e t dx,v=.ref e/\j.heap.get? C=aA (im nm q C N bs bm hdct sn sub ab col dd k0 k1 k2 k3 k5 newId)/\
   j.heap.get? e=aA {cls:=.ref C,dict:=dx,data:=.fields #[.ref t,.none,.none,.none,.bool aC,.none]}/\E (.ref e) j) E s) :
  wpAny M A (raiseStmt env (aA x) aE) Q E s:=by
 have iO:(cN C::bm).contains (.type "BaseException")=aB:=by rw[tQ,a];simp
 unfold raiseStmt;refine wpAny_bind (dO go (λv j k=>?_) λ_ _ z=>z);obtain⟨e,t,dx,rfl,b,ge,c⟩:=k;obtain⟨g,h,i,d,f⟩:=j;repeat (first|(with_reducible refine nI ge ?_)|(with_reducible refine nI b ?_)|(with_reducible refine DS b ?_;rw[iO])|wp_step)
 exact wpAny_raiseNew_none hh c
end
section
variable {prog:Program}{w:World}{A:Around}{E:aD->Shared->Prop}{s:Shared}
variable {nm q:aG}{C N:aF}{bs bm bmB:List aD}{hdct:Bool}{sn:List aG}{sub:List aD}{ab:Bool}{col:Option Bool}{dd:Option aF}{k0 k1 k2 k3 k5:Option aD}{B newId initId:String}
theorem SE(F:sD B newId initId bmB)(k:lO s.heap bmB bm){e:aF}{ob:bA}{vs:Array aD}{t0:aF}{rest:List aD}{Q:aD->a9->Prop}
  (j:s.heap.get? C=aA (im nm q C N bs bm hdct sn sub ab col dd k0 k1 k2 k3 k5 newId)) (he:s.heap.get? e=aA ob) (c:ob.cls=.ref C) (hd:ob.data=.fields vs) (h0:vs[0]?=aA (.ref t0))
  (h:Q .none {s with heap:=(s.heap.push {cls:=.type "tuple",data:=.seq rest.toArray}).update e (hV (·.setIfInBounds 0 (.ref s.heap.objs.size)))}) (b:rest.length<=sizeLine) :
  wpAny (aR prog w) A (call (.builtin initId) (.ref e::rest)) Q E s:=by
 obtain⟨i,g,d,t,os⟩:=s;refine hW (rb F.init.plain F.initEntry (wpAny_check_init_subT F k j he c ?_));unfold iS.«BaseException.__init__»;dsimp only;rw[if_neg (by simp)];unfold newTuple IT;have f:0<vs.size:=(nY.mp h0).1;have a:=bU (h:=i) {cls:=.type "tuple",data:=.seq rest.toArray} he;refine wpAny_bind (iY (wpAny_bind (wpAny_bind (gO a hd h0 (wpAny_bind (mK a hd f ?_))))) (by show rest.toArray.size<=sizeLine;rw[dH];exact b));exact wpAny_letGo (wpAny_pure h)
end
noncomputable def j2:List aD->Bool
 |.ref _::r=>j2 r
 |l=>l==zZ
theorem jG(self:aD):∀{l:List aD},j2 l=aB->PySem.refuseLoop self "__setattr__" l=pure ()
 |.ref c::r,e=>by rw[refuseLoop_ref];exact jG self e
 |.type n::r,e=>by rw[show nv n::r=zZ from beq_iff_eq.mp e];exact Eu.passes self
 |[],e=>by cases e
 |v::r,e=>by
  unfold j2 at e;split at e
  ·rename_i h;cases h;rw[refuseLoop_ref];exact jG self e
  ·rw[beq_iff_eq.mp e];exact Eu.passes self
theorem ku:∀{l:List aD},j2 l=aB->l.contains (.type "object")=aB
 |.ref c::r,e=>by rw[tQ,ku (l:=r) e,sG]
 |[],e=>by cases e
 |v::r,e=>by
  unfold j2 at e;split at e
  ·rename_i h;cases h;rw[tQ,ku (l:=_) e,sG]
  ·rw[beq_iff_eq.mp e];decide
section
variable {prog:Program}{w:World}{A:Around}{E:aD->Shared->Prop}{s:Shared}{K:PySem.W.Frag}{C x:aF}
theorem OX(X:K.In s.heap)(hx:s.heap.get? x=aA ox)(T:ox.cls=.ref C)(D:o0 ox=aB)(hd:ox.dict=aE)
  (hs:cO K (.ref C) "__setattr__"=aA (aA (.builtin "object.__setattr__"))) (hp:((lQ K C).any λcd=>j2 cd.mro)=aB) (ht:cO K (.ref C) name=aA aE) (hh:lr K C=aB)
  (h:∀h' tk,h'.get? x=aA {ox with dict:=aA s.heap.objs.size}->h'.Ns1 s.heap.objs.size (λy=>if y=name then aA v else aE)->(∀b o,b≠x->s.heap.get? b=aA o->h'.get? b=aA o)->Q () {s with heap:=h',toks:=tk}) :
  wpAny (aR prog w) A (setAttr (.ref x) name v) Q E s:=by
 have J:tu s.heap x ox C aE:=⟨hx,T,D,by rw[hd];trivial⟩;refine D6 X J hs ?_;have H:=PySem.F.store_object;obtain⟨cd,m,I⟩:=ti hp;obtain⟨cd',n,p⟩:=ti hh;rw[m] at n;cases n;have ne:cd.mro.isEmpty=aC:=by cases q:cd.mro with|nil=>rw[q] at I;cases I|cons _ _=>rfl
 have sub:mC (aR prog w) s.heap (o_ (.ref x) (.type "object")) aB:=J.type.andThen (PySem.W.looks_mroIn X (by unfold gN;rw[m,pE,if_neg (by rw[ne];decide),ku I]));refine rb H.slot.plain H.entry (@PySem.W.check_slot (aR prog w) _ _ {s with toks:=s.toks+1} "object.__setattr__" "object" "__setattr__" (.ref x) [.str name s.toks,v] [] _ H.kind H.split sub (H.args (.ref x) (.str name s.toks) v) ?_);have hm:mC (aR prog w) s.heap (mroOf (.ref C)) cd.mro:=(tT X m).andThen .now;rw[PySem.W.osa_eq,refuse_eq];refine wpAny_bind (wpAny_bind (mP (s:={s with toks:=s.toks+1}) J.type (wpAny_bind (mP (s:={s with toks:=s.toks+1}) hm ?_))));rw[jG _ I];refine wpAny_pure (wpAny_bind (mP (s:={s with toks:=s.toks+1}) J.type (wpAny_bind (mP (s:={s with toks:=s.toks+1}) (mD X ht) (wpAny_bind (wpAny_pure ?_))))));obtain⟨i,g,dr,t,os⟩:=s;obtain⟨oc,Z,l,L⟩:=ox;dsimp only at T hd hx;subst T hd;have B:∀c,l≠.cls c:=λc z=>by subst z;cases D
 refine wpAny_bind (wpAny_pure (wpAny_bind (wpAny_bind (wpAny_loadPart hx (wpAny_bind (mP (s:=⟨i,g,dr,t+1,os⟩) (tT X m) ?_))))));rw[p];have k:(i.push {cls:=.type "dict",data:=.dict #[]}).get? x=aA ⟨.ref C,aE,l,L⟩:=bU _ hx;have u:x≠i.objs.size:=dP (bZ hx)
 have go:wpAny (aR prog w) A.in1 (do
   let d ←alloc {cls:=.type "dict",data:=.dict #[]}
   update x λo=>{o with dict:=aA d}
   dictMade (.ref C) x d) (λa j=>wpAny (aR prog w) A.in1 (match a with
    |some d=>tZ d (.str name t) name v
    |none=>IY (.ref x) (.ref C) name aC) (λfin j=>match fin with|.done f=>(match (Except.ok f:m9) with|.ok (.ret _)=>Q () j|.ok _=>False|.error e=>E e j)|.again Y=>Y.quiet=aB/\f9 (aR prog w) A Y (λr j=>match r with|.ok (.ret _)=>Q () j|.ok _=>False|.error e=>E e j) j) (λe j=>E e j) j) (λe j=>E e j) ⟨i,g,dr,t+1,os⟩:=by
  refine wpAny_bind (wpAny_alloc' ?_);refine wpAny_bind (wpAny_update' k ?_);refine wpAny_pure ?_
  have O:((i.push {cls:=.type "dict",data:=.dict #[]}).update x λo=>{cls:=o.cls,dict:=aA i.objs.size,data:=o.data,slots:=o.slots}).get? i.objs.size
    = aA {cls:=.type "dict",data:=.dict #[]}:=
   (tS _ _ _ _ u.symm).trans (DF rfl rfl)
  have N:((i.push {cls:=.type "dict",data:=.dict #[]}).update x λo=>{cls:=o.cls,dict:=aA i.objs.size,data:=o.data,slots:=o.slots}).Ns i.objs.size (λ_=>aE):=
   ⟨_,#[],_,O,rfl,λe he=>absurd he (by simp),λ_=>rfl⟩
  show wpAny _ _ (tZ i.objs.size (.str name t) name v) _ _ _;unfold tZ IU;refine wpAny_bind (wpAny_pure (wpAny_bind (wpAny_nsSet1 (D5 N) λh' G hs=>?_)));obtain⟨oD,esD,epD,M,R,S⟩:=G.count (Cu name v Within.nil);refine wpAny_bind (Dv M (by rw[R];exact Du (cU S (by rw[fU,nR,eQ];lia))) ?_);refine wpAny_pure (h h' _ ?_ ?_ ?_)
  ·refine (hs.2 x u).trans (n5 _ k ?_);have P:=(Heap.get?_some_iff.mp hx).2;cases l<;>first|rfl|exact P
  ·obtain⟨o',es,ep,e1,e2,e3,eu,e4⟩:=G;exact⟨o',es,ep,e1,e2,e3,eu,λy=>by rw[e4 y]⟩
  ·intro b o U V;exact (hs.2 b (dP (bZ V))).trans ((tS _ _ _ _ U).trans (bU _ V))
 cases l<;>first|exact absurd rfl (B _)|exact go
end
theorem yi{K:bJ}(X:K.In h)(e:o7 K N=aB)(q:mF K N x=aA (aA v)):h.nsMap N x=aA v:=by
 obtain⟨o,es,ep,b,hd,_,f⟩:=(Heap.Ns.of_isNs (tR X e):h.Ns N (h.nsMap N));unfold mF at q;split at q
 ·rename_i c d i k j a;have:=X _ _ a;rw[b] at this;cases this;cases hd;split at q
  ·rename_i g;cases q;rw[←f];unfold nsFind findBy;rw[←DN,g];rfl
  ·split at q<;>cases q
 ·cases q
theorem ic.mro{K:bJ}(x:ic K C HE fI fl):((lQ K C).any λcd=>j2 cd.mro)=aB:=by
 obtain⟨N,nm,q,bs,hd,sn,sub,ab,col,dd,k0,k1,k2,k3,k5,h,_⟩:=x.cls;unfold lQ;rw[h];show j2 (.ref C::.ref HE::zZ)=aB;show j2 zZ=aB;decide
theorem ic.at_{K:bJ}(x:ic K C HE fI fl)(X:K.In h):∃N nm q bs hd sn sub ab col dd k0 k1 k2 k3 k5,h.get? C=aA (im nm q C N bs (.ref HE::zZ) hd sn sub ab col dd k0 k1 k2 k3 k5 "ValueError.__new__")/\h.Ns N (h.nsMap N)/\h.nsMap N "__init__"=aA (.ref fI)/\lO h zZ (.ref HE::zZ):=by
 obtain⟨N,nm,q,bs,hd,sn,sub,ab,col,dd,k0,k1,k2,k3,k5,h1,h2,l⟩:=x.cls;obtain⟨t,w,d,u,r,k,c,a,s,b,p,j,i,g,f,e,mN,o,n,m,v⟩:=Vz X x.he;exact⟨N,nm,q,bs,hd,sn,sub,ab,col,dd,k0,k1,k2,k3,k5,X _ _ h1,.of_isNs (tR X h2),yi X h2 l,.own o n m .base⟩
section
variable {X:Cx}{pins:List (aF×bA)}{s:Shared}{σ:St}{H:Hp}{C HE fI:aF}{fl:aG}
theorem Ru (hN:X.N[1]?=aA par) (n:ie X.env.scope par) (hd:(par==("__debug__":aG))=aC) (j:(par==("__classdict__":aG))=aC) (P:a.length<=1000) (O:b.length<=1000) :
  PE X (.JoinedStr [.Constant (.str a) Y p1,.FormattedValue (.Name par M) (-1) aE J,.Constant (.str b) U G] E) (λσ H Q=>∃i:Int,σ[1]?=aA (aA (.int i))/\i.natAbs.log2<1920/\∀z,Q (.str z) H):=by
 rintro c s σ H Q I ⟨i,o,d,q⟩;have e:=D_ (k:=1920) (by decide) d;have R:(il (toString i)).length<=1921:=by rw[EB];exact e
 refine Dz ?_;refine aX (Ve (x:=a) c s σ H (λv f=>v=.str a/\f=H) I ⟨rfl,rfl⟩) ?_;rintro u m ⟨v,f,y,r,rfl,rfl⟩;obtain⟨D,rfl⟩:=r;have L:(lS++a).length<=1000:=by rw[nB];show 0+a.length<=1000;lia
 refine⟨_,_,rfl,by rw[eQ];lia,?_⟩;refine EJ (aX (yk (i:=1) hN n hd j c m σ f (λv g=>v=.int i/\g=f) y ⟨_,o,rfl,rfl⟩) ?_);rintro u h ⟨v,g,w,r,rfl,rfl⟩;obtain⟨C,rfl⟩:=r;refine EA d ?_;have K:(lS++a++il (toString i)).length<=3000:=by rw[nB];lia
 refine⟨_,_,rfl,by rw[eQ];lia,?_⟩;have t:Inv X c σ g {h with toks:=h.toks+1+1}:=w.kept (h':=h.heap) λ_ _ q=>q;refine aX (Ve (x:=b) c _ σ g (λv f=>v=.str b/\f=g) t ⟨rfl,rfl⟩) ?_;rintro u l ⟨v,A,p,r,rfl,rfl⟩;obtain⟨B,rfl⟩:=r;have F:(lS++a++il (toString i)++b).length<=5000:=by rw[nB];lia
 refine⟨_,_,rfl,by rw[eQ];lia,by rw[eQ];lia,?_⟩;exact⟨.str _,A,p.kept (h':=l.heap) λ_ _ q=>q,⟨_,rfl⟩,q _⟩
theorem UH (hN:X.N[1]?=aA par) (l:ie X.env.scope par) (hd:(par==("__debug__":aG))=aC) (f:(par==("__classdict__":aG))=aC) (E:a.length<=1000) :
  PE X (.JoinedStr [.Constant (.str a) D p1,.FormattedValue (.Name par B) (-1) aE A] w) (λσ H Q=>∃i:Int,σ[1]?=aA (aA (.int i))/\i.natAbs.log2<1920/\∀z,Q (.str z) H):=by
 rintro b s σ H Q I ⟨i,m,c,q⟩;have e:=D_ (k:=1920) (by decide) c;have F:(il (toString i)).length<=1921:=by rw[EB];exact e
 refine Dz ?_;refine aX (Ve (x:=a) b s σ H (λv d=>v=.str a/\d=H) I ⟨rfl,rfl⟩) ?_;rintro u j ⟨v,d,o,r,rfl,rfl⟩;obtain⟨t,rfl⟩:=r;have C:(lS++a).length<=1000:=by rw[nB];show 0+a.length<=1000;lia
 refine⟨_,_,rfl,by rw[eQ];lia,?_⟩;refine EJ (aX (yk (i:=1) hN l hd f b j σ d (λv g=>v=.int i/\g=d) o ⟨_,m,rfl,rfl⟩) ?_);rintro u h ⟨v,g,n,r,rfl,rfl⟩;obtain⟨p,rfl⟩:=r;refine EA c ?_;have y:(lS++a++il (toString i)).length<=3000:=by rw[nB];lia
 refine⟨_,_,rfl,by rw[eQ];lia,by rw[eQ];lia,?_⟩;exact⟨.str _,g,n.kept (h':=h.heap) λ_ _ q=>q,⟨_,rfl⟩,q _⟩
noncomputable def JU(par:aG)(c:List aI):Prop:=
 (∃(a b:aG) (f h:Nat) (p1 e d g:Pos),c=[.Constant (.str a) f p1,.FormattedValue (.Name par e) (-1) aE d,.Constant (.str b) h g]/\a.length<=1000/\b.length<=1000)\/
 ∃(a:aG) (f:Nat) (p1 e d:Pos),c=[.Constant (.str a) f p1,.FormattedValue (.Name par e) (-1) aE d]/\a.length<=1000
theorem Sv (hN:X.N[1]?=aA par) (f:ie X.env.scope par) (hd:(par==("__debug__":aG))=aC) (c:(par==("__classdict__":aG))=aC) (h:JU par d) :
  PE X (.JoinedStr d r) (λσ H Q=>∃i:Int,σ[1]?=aA (aA (.int i))/\i.natAbs.log2<1920/\∀z,Q (.str z) H):=by
 rcases h with⟨a,b,k,n,p1,j,g,m,rfl,e,l⟩|⟨a,k,p1,j,g,rfl,e⟩
 ·exact Ru hN f hd c e l
 ·exact UH hN f hd c e
theorem OU (T:ic X.K C HE fI fl) (E:X.N[0]?=aA d) (p:ie X.env.scope d) (A:(d==("__debug__":aG))=aC) (n:(d==("__classdict__":aG))=aC)
  (hN:X.N[1]?=aA par) (hv:ie X.env.scope par) (hd:(par==("__debug__":aG))=aC) (D:(par==("__classdict__":aG))=aC) (y:JU par g)
  (hB:Gl X B) (hm:X.mg B=aA (.ref HE)) (G:(B==("__debug__":aG))=aC) (v:lX X.K (.ref HE) "__getattribute__"=aA (aA (.builtin "type.__getattribute__"))) (hr:sC X.K HE (.type "type")=aB)
  (hf:sB X.K (.ref HE) (.type "type") "__init__"=aA (.val (.builtin "ValueError.__init__"))) (f:(M.endLine==r.line)=aB) :
  PE X (.Call (.Attribute (.Name B q0) "__init__" M) [.Name d q2,.JoinedStr g p5] [] r) (λσ H Q=>∃(x:aF) (i:Int),σ[0]?=aA (aA (.ref x))/\σ[1]?=aA (aA (.int i))/\i.natAbs.log2<1920/\H x=aA (.ext (ud x C))/\Q .non (upd H x (.ext (ud x C)))):=by
 rintro c s σ H Q I ⟨x,i,h0,S,m,R,q⟩;rw[sH];refine wpAny_bind (wH I hB hm ?_ G);refine wpAny_bind (hX ?_);have l:mI aB (.Name B q0) X.env M r=pure r:=by unfold mI;simp[f]
 unfold ny;refine wpAny_bind (wpAny_holding (PySem.W.method_cls I.kIn v (PySem.W.cls_value I.kIn hr hf rfl ?_)));refine wpAny_bind (lp l ?_);have I1:Inv X c σ H {s with toks:=s.toks+1}:=I.kept (h':=s.heap) λ_ _ q=>q;have pa:PA X [.Name d q2,.JoinedStr g p5] _:=zM (yk (i:=0) E p A n) (zM (Sv hN hv hd D y) qU);refine PySem.W.callWith_of (P:=λ_=>True) (first:=[]) rfl (λh _=>⟨.machine,.inr (.inl rfl),II rfl⟩) (rc (aX (pa r c _ σ H (λL H1=>∃z,L=[.ref x,.str z]/\H1=H) I1 ⟨_,h0,i,S,m,λz=>⟨z,rfl,rfl⟩⟩) ?_));rintro U a ⟨L,H2,J,V,z,rfl,rfl⟩;obtain⟨j,rfl⟩:∃j,U=[.ref x,j]:=by
  cases V with
  |cons r1 Z=>cases Z with
   |cons r3 Y=>cases Y;cases r1;exact⟨_,rfl⟩
 refine⟨trivial,?_⟩;obtain⟨N,nm,qn,bs,hdd,sn,sub,ab,col,dd,k0,O,k2,k3,k5,g1,g2,g3,g4⟩:=T.at_ J.kIn;obtain⟨t,ex⟩:ud x C a.heap:=(show a6 X.prog X.w H2 a.heap x (.ext (ud x C)) from J.hok _ _ R).1;refine SE (rest:=[j]) nX g4 g1 ex rfl rfl rfl ?_ (by rw[eQ];show 1<=_;lia);have lt:x<a.heap.objs.size:=bZ ex;have ex1:=bU (h:=a.heap) {cls:=.type "tuple",data:=.seq [j].toArray} ex;have O:∀b u,b≠x->a.heap.get? b=aA u->((a.heap.push {cls:=.type "tuple",data:=.seq [j].toArray}).update x (hV (·.setIfInBounds 0 (.ref a.heap.objs.size)))).get? b=aA u:=λb u hb hu=>by
  rw[lE _ _ (b_ hb)];exact bU _ hu
 have ex2:((a.heap.push {cls:=.type "tuple",data:=.seq [j].toArray}).update x (hV (·.setIfInBounds 0 (.ref a.heap.objs.size)))).get? x=aA {cls:=.ref C,data:=.fields #[.ref a.heap.objs.size,.none,.none,.none,.bool aC,.none]}:=by
  rw[n5 _ ex1 rfl];rfl
 exact⟨.non,_,J.write (x:=x) (e:=x) (o:=.ext (ud x C)) (t':=a.toks) (by rw[R];exact f_) (.inl rfl) O ⟨_,ex2⟩ ⟨⟨_,ex2⟩,⟨_,ex2⟩,λS h2 ⟨t,e⟩ k=>⟨t,k _ e⟩⟩,rfl,q⟩
theorem Sx (m:ic X.K C HE fI fl) (F:X.N[0]?=aA d) (y:ie X.env.scope d) (B:(d==("__debug__":aG))=aC) (l:(d==("__classdict__":aG))=aC)
  (hN:X.N[1]?=aA par) (R:ie X.env.scope par) (hd:(par==("__debug__":aG))=aC) (E:(par==("__classdict__":aG))=aC) :
  PS X (.Assign [.Attribute (.Name d q0) fl q1] (.Name par q2) q3) (λD σ H=>∃(x:aF) (i:Int),σ[0]?=aA (aA (.ref x))/\σ[1]?=aA (aA (.int i))/\H x=aA (.ext (ud x C))/\∀dx,H dx=aE->dx≠x->D.nx σ (upd (upd H x (.ext (uL x C dx))) dx (.xd [(fl,.int i)]))):=by
 rintro a s σ H D I ⟨x,i,Y,M,L,q⟩;refine plainObj_wpAny_Assign_Attribute (aX (yk (i:=1) hN R hd E a s σ H (λv n=>v=.int i/\n=H) I ⟨_,M,rfl,rfl⟩) ?_) rfl;rintro u P ⟨v,n,I1,r,rfl,rfl⟩;refine aX (yk (i:=0) F y B l a P σ n (λv g=>v=.ref x/\g=n) I1 ⟨_,Y,rfl,rfl⟩) ?_;rintro ov c ⟨v,g,j,Q,rfl,rfl⟩;cases Q;obtain⟨t,ex⟩:ud x C c.heap:=(show a6 X.prog X.w g c.heap x (.ext (ud x C)) from j.hok _ _ L).1;refine OX j.kIn ex rfl rfl rfl m.sa m.mro m.no m.dct λZ O G e2 e3=>?_;have lt:x<c.heap.objs.size:=bZ ex;have U:g c.heap.objs.size=aE:=j.hok.fresh (bE _);have J:c.heap.objs.size≠x:=ln lt;refine⟨σ,_,?_,q _ U J⟩;have h:dA X g c.heap.objs.size:=j3 j (lD (bE _));have A:∀p∈a,p.1≠c.heap.objs.size:=λp T z=>by
  have:=(j.pin p (dM _ T)).1;rw[z,lD (bE _)] at this;cases this
 have I3:Inv X a σ (upd g x (.ext (uL x C c.heap.objs.size))) {c with heap:=Z,toks:=O}:=j.write (x:=x) (e:=x) (by rw[L];exact f_) (.inl rfl) (λb u W S=>e3 b u W S) ⟨_,G⟩ ⟨⟨t,G⟩,⟨_,G⟩,λM h2 ⟨t,e⟩ k=>⟨t,k _ e⟩⟩;have o:dA X (upd g x (.ext (uL x C c.heap.objs.size))) c.heap.objs.size:=⟨by rw[z4 J];exact h.free,h.loc,h.nfs,h.new,h.cel,h.pin⟩;refine kO I3 o A ⟨_,e2,λf=>?_⟩;show cV (gS f [(fl,V.int i)]) (if f=fl then aA u else aE);by_cases z:f=fl
 ·subst z;rw[if_pos rfl];simp only[gS,beq_self_eq_true];exact r
 ·rw[if_neg z];have:(f==fl)=aC:=beq_eq_false_iff_ne.mpr z;simp only[gS,this];exact trivial
end
noncomputable def Gc(body:List bC)(B b par fl:aG):Prop:=∃(k d j l c i h g f e:Pos) (a:List aI),
 body=[.Expr (.Call (.Attribute (.Name B k) "__init__" d) [.Name b j,.JoinedStr a l] [] c) i,.Assign [.Attribute (.Name b h) fl g] (.Name par f) e]/\(d.endLine==c.line)=aB/\JU par a
noncomputable def BI(a par B:aG)(sc:Scope):Bool:=(sc.kind==.function)&&!sc.isCoroutine&&!sc.isGenerator&&(a != par)&&(sc.names.lookup a==aA .local)&&(sc.names.lookup par==aA .local)&&sc.names.all (λy=>y.2 != .free)&&(sc.names.lookup B==aA .globalImplicit)&&
 (a != ("__debug__":aG))&&(a != ("__classdict__":aG))&&(par != ("__debug__":aG))&&(par != ("__classdict__":aG))&&(B != ("__debug__":aG))
section
variable {P:Program}{w:World}{K:PySem.W.Frag}{mg:aG->Option aD}{base:aV}{C HE fI:aF}{fl:aG}{k:Nat}
structure HZ(K:PySem.W.Frag)(mg:aG->Option aD)(HE:aF)(B:aG):Prop where
 mg:mg B=aA (.ref HE)
 ga:lX K (.ref HE) "__getattribute__"=aA (aA (.builtin "type.__getattribute__"))
 rd:sC K HE (.type "type")=aB
 fc:sB K (.ref HE) (.type "type") "__init__"=aA (.val (.builtin "ValueError.__init__"))
theorem LZ{a par B:aG}{params:Arguments}{body:List bC}{J kV doc G b ct N:aD}{an od:Option aF} 
  (F:ic K C HE fI fl) (l:HZ K mg HE B) (lk:K.lookup fI=aA ⟨N,od,.func (fM name qual params body scope J kV doc G an b ct),M⟩) (r:eT K b qual=aB) (O:Gc body B a par fl) (hs:BI a par B scope=aB) :
  bL P w K mg base CX (k+1) fI (fM name qual params body scope J kV doc G an b ct) [a,par] (mR C fl):=by
 simp only[BI,cB,fT,beq_iff_eq,l9,bne_iff_ne,ne_eq] at hs;obtain⟨⟨⟨⟨⟨⟨⟨⟨⟨⟨⟨⟨Z,Y⟩,X⟩,V⟩,u⟩,t⟩,U⟩,T⟩,R⟩,D⟩,z⟩,y⟩,v⟩:=hs;have S:c_ [a,par] [a,par] scope:=⟨Z,Y,X,by simp[V],rfl,λx c=>by
  rcases cA.mp c with rfl|c
  ·exact .inl u
  ·rw[bT.mp c];exact .inl t,U⟩
 obtain⟨q0,q1,q2,p5,q4,q5,r0,r1,r2,r3,m,rfl,c5,c6⟩:=O;refine GA (fnb:=λ_=>aB) lk r S (λL H Q E q=>by obtain⟨x,i,rfl,_⟩:=q;rfl) λA n s H L Q E hr o _=>?_;obtain⟨x,i,rfl,d,c,q⟩:=o;have g:(a==("__debug__":aG))=aC:=beq_eq_false_iff_ne.mpr R;have j:(a==("__classdict__":aG))=aC:=beq_eq_false_iff_ne.mpr D;have f:(par==("__debug__":aG))=aC:=beq_eq_false_iff_ne.mpr z;have h:(par==("__classdict__":aG))=aC:=beq_eq_false_iff_ne.mpr y;have p:(B==("__debug__":aG))=aC:=beq_eq_false_iff_ne.mpr v;refine⟨_,VE (XC (OU (C:=C) (HE:=HE) (fI:=fI) (fl:=fl) F rfl (.inl u) g j rfl (.inl t) f h c6 T l.mg p l.ga l.rd l.fc c5)) (XZ (Sx (C:=C) (HE:=HE) (fI:=fI) F rfl (.inl u) g j rfl (.inl t) f h)),?_⟩;refine⟨x,i,rfl,rfl,d,c,x,i,rfl,rfl,z3,λdx e I=>?_⟩;rw[XR];exact q dx (by rw[z4 I] at e;exact e) I
end
section
variable {P:Program}{w:World}{K:PySem.W.Frag}{mg:aG->Option aD}{base:aV}{C HE fI:aF}{fl:aG}{k:Nat}
theorem UT{a par B:aG}{params:Arguments}{body:List bC}{e kV doc d b ct h:aD}{an od:Option aF} 
  (f:ic K C HE fI fl) (i:HZ K mg HE B) (lk:K.lookup fI=aA ⟨h,od,.func (fM name qual params body scope e kV doc d an b ct),g⟩) (c:eT K b qual=aB) (j:Gc body B a par fl) (hs:BI a par B scope=aB) :
  bL P w K mg base CX (k+1) fI (fM name qual params body scope e kV doc d an b ct) [a,par] (mR C fl):=LZ f i lk c j hs
end
section
variable {X:Cx}{pins:List (aF×bA)}{s:Shared}{σ:St}{H:Hp}
theorem JI(I:Inv X pins σ (upd H x (.ext φ)) s)(hx:H x=aE):Inv X pins σ H s:=by
 have h:∀b,upd H x (.ext φ) b=aE->H b=aE:=λb e=>by
  by_cases z:b=x
  ·rw[z];exact hx
  ·rw[z4 z] at e;exact e
 have d:∀b o,upd H x (.ext φ) b=aA o->(∀a,o≠.ext a)->H b=aA o:=λb o e n=>by
  by_cases z:b=x
  ·rw[z,z3] at e;cases e;exact absurd rfl (n φ)
  ·rw[z4 z] at e;exact e
 refine⟨I.ok,I.os,I.bare,⟨I.base.keep,I.base.slot,λb o e n i=>h b (I.base.free b o e n i),I.base.there,λb j e=>d b _ (I.base.tups b j e) (λa z=>by cases z),λb o u e=>d b _ (I.base.frzs b o u e) (λa z=>by cases z),λb k e=>?_⟩,I.loc,I.cell,h _ I.free,λy c e=>(I.freeC y c e).imp (h _) λ⟨n,o,u,f⟩=>⟨n,o,u,d c _ f (λa z=>by cases z)⟩,λp t=>?_,λb l e=>?_,I.len⟩
 ·obtain⟨g,q⟩:=I.base.tbls b k e;exact⟨g,d b _ q (λa z=>by cases z)⟩
 ·obtain⟨e,n,r⟩:=I.pin p t;exact⟨e,h _ n,r⟩
 ·have m:b≠x:=λz=>by rw[z,hx] at e;cases e
  have q:=I.hok b l (by rw[z4 m];exact e);exact q.stay (λ_ _ _ q=>q) (λc q=>d c _ q (λa z=>by cases z)) λc j q=>d c _ q (λa z=>by cases z)
end
section
variable {X:Cx}{D:DP}{W:XW}{Γ:Cn}{k:Nat}{pins:List (aF×bA)}{s:Shared}{σ:St}{H:Hp}{φ α:List aF}{τ:Sl}{μ:aK}{a:aI}{pos:Pos}{E:Ends}{g:De}
theorem UU{a b:HO}(h:x≠y):upd (upd H x a) y b=upd (upd H y b) x a:=by
 funext c;by_cases z:c=y
 ·subst z;rw[z3,z4 (b_ h),z3]
 ·rw[z4 z];by_cases d:c=x
  ·subst d;rw[z3,z3]
  ·rw[z4 d,z4 d,z4 z]
theorem O_(M:ic X.K C HE fI fl)(V:Binds X.K fd ps [])(R:bV (kk+1) X.A)
  (F:bL X.prog X.w X.K X.mg X.base (cW X.prog X.w) kk fI fd ps (mR C fl)) (I:Inv X pins σ H s) (r:RelV (.int i) u) (b:i.natAbs.log2<1920)
  (q:∀x dx t j,Inv X pins σ (upd H dx (.xd [(fl,.int i)])) j->H dx=aE->dA X H x->dx≠x->j.heap.get? x=aA {cls:=.ref C,dict:=aA dx,data:=.fields #[.ref t,.none,.none,.none,.bool aC,.none]}->Q (.ref x) j) :
  wpAny (aR X.prog X.w) X.A (call (.ref C) [u]) Q X.xe s:=by
 obtain⟨N,nm,qn,bs,U,sn,sub,ab,col,dd,k0,k1,k2,k3,k5,g1,Z,Y,W⟩:=M.at_ I.kIn;obtain⟨B,gf,gc⟩:∃B,s.heap.get? fI=aA B/\B.cls=.type "function":=by
  obtain⟨o,h,e⟩:=pT.mp M.fn;exact⟨o,I.kIn _ _ h,e⟩
 obtain⟨hh,gg,d,g,os⟩:=s;refine U0 nX W g1 Z Y gf gc (λl x mk=>?_) (by rw[eQ];show 1<=_;lia);have J:Inv X pins σ H ⟨l,gg,d,g,os⟩:=I.kept (t':=g) mk.keeps;have y:dA X H x:=j3 I mk.new;have D:∀p∈pins,p.1≠x:=λp S z=>by
  have:=(I.pin p (dM _ S)).1;rw[z,mk.new] at this;cases this
 obtain⟨t,h,_,_⟩:=mk.there;have L:Inv X pins σ (upd H x (.ext (ud x C))) ⟨l,gg,d,g,os⟩:=kO J y D ⟨⟨t,h⟩,⟨_,h⟩,λl h2 ⟨t,e⟩ k=>⟨t,k _ e⟩⟩;have P:aY [.ref x,.int i] [.ref x,u]:=.cons rfl (.cons r .nil);have T:([cN x,u]++[]).length=ps.length:=by
  have:=F.len [.ref x,.int i] (upd H x (.ext (ud x C))) (λ_ _=>True) (λ_ _ _=>False) ⟨x,i,rfl,b,z3,λ_ _ _=>trivial⟩;exact this
 refine hW (iK (F.run _ X.stack ⟨l,gg,d,g,os⟩ (upd H x (.ext (ud x C))) ⟨[.ref x,u],[]⟩ [.ref x,u] [.ref x,.int i] (λv O=>v=.non/\∃dx,H dx=aE/\dx≠x/\O=upd (upd H x (.ext (uL x C dx))) dx (.xd [(fl,.int i)])) (λ_ _ _=>False) (R.make C [u] []) (L.env0.make C [u] []) (by simpa using V _ [.ref x,u] L.kIn T) P
  ⟨x,i,rfl,b,z3,λdx a c=>⟨rfl,dx,by rw[z4 c] at a;exact a,c,by rw[XR]⟩⟩) λn j f=>?_)
 cases n with
 |error e=>
  obtain⟨_,_,_,_,_,_,_,_,_,_,_,_,_,_,_,z⟩:=f;exact z.elim
 |ok E=>
  cases E with
  |ret v=>
   obtain⟨v',O,G,m,⟨rfl,dx,a,c,rfl⟩⟩:=L.after f;refine⟨m,?_⟩;obtain⟨t',e'⟩:uL x C dx j.heap:=(show a6 X.prog X.w _ j.heap x (.ext (uL x C dx)) from G.hok x _ (by rw[z4 (b_ c),z3])).1;rw[UU (b_ c)] at G;have I4:=JI G (by rw[z4 (b_ c)];exact y.free);exact q x dx t' j I4 a y c e'
  |next=>exact dI f
  |brk=>exact dI f
  |cont=>exact dI f
noncomputable def hash(m:aG):aG:=⟨#[35]++m.cps⟩
theorem Yr(C:Sk D W Γ X k)(hc:Γ.calm=aB)(hx:x∈Γ.G)(hU:hash x∈Γ.U)(hg:Γ.gl (hash x)=.xin n f x fl)(O:aT a=aB)(ha:PE X a (aW D W g)) :
  PS X (.Raise (aA (.Call (.Name x p0) [a] [] p1)) aE pos) (dJ D W (uv n f g)):=by
 rintro M s T H E I ⟨B,α,S,μ,sr,mr,p⟩;have q:=(C.glU _ hU).1;rw[hg] at q;obtain⟨C0,HE,fI,fd,ps,kk,ad,hm,hfl,Z,hb,hkk,F⟩:=q;have hr:=(C.rom hc).mono hkk;obtain⟨N,nm,qn,bs,hdd,sn,sub,ab,col,dd,k0,k1,k2,k3,k5,g1,g2,g3,g4⟩:=Z.at_ I.ok.mod.kin;have h:(cN HE::zZ).contains (.type "BaseException")=aB:=g4.hasType nX.hasBase
 have body:wpAny (aR X.prog X.w) X.A (eval (.Call (.Name x p0) [a] [] p1) X.env) (λv R=>∃e t dx,v=.ref e/\R.heap.get? C0=aA (im nm qn C0 N bs (.ref HE::zZ) hdd sn sub ab col dd k0 k1 k2 k3 k5 "ValueError.__new__")/\
   R.heap.get? e=aA {cls:=.ref C0,dict:=dx,data:=.fields #[.ref t,.none,.none,.none,.bool aC,.none]}/\X.xe (.ref e) R) X.xe s:=by
  refine wpAny_Call_ofName (wH I (C.glb x hx) hm ?_ (C.dbG x hx));refine mO (K:=X.K) (first:=[]) (h₀:=X.base) I.ok.mod.kin Z.kp (aX (zM ha qU (z6 O) p1 M s T H (λvs j=>∃v t l b,vs=[v]/\aO α H b j/\aZ D B b j S T/\aM D B b j l/\a_ D B b j t v/\aL D W B b j E ((match t with
   |.int i=>.grd (i.natAbs.log2<1920) (.ex n [(f,.int i)] S l)
   |_=>.st:cP))) I ⟨B,α,S,μ,sr,mr,(aL.out sr p).mono λt V Y H' st m q v d=>⟨v,t,V,Y,rfl,st,sr.step st,m,d,q⟩⟩) ?_) (z6 O) rfl
  rintro us R ⟨vs,j,I1,rv,v,t,l,b,rfl,st1,sr1,o,d1,p1⟩;obtain⟨u,rfl,r⟩:∃u,us=[u]/\RelV v u:=by
   cases rv with
   |cons r1 r2=>cases r2;exact⟨_,rfl,r1⟩
  refine⟨I1.kIn,?_⟩;cases t<;>first|(obtain⟨Q,q,_⟩:=p1;exact q.elim)|skip
  rename_i i;obtain⟨P,p2⟩:=aL.grd p1;cases d1;refine O_ Z hb hr F I1 r P λe dx t s' I2 y z ne he=>?_;refine⟨e,t,aA dx,rfl,I2.bk _ _ g1,he,C.xe _ _ ?_⟩;have sm:jX j (upd j dx (.xd [(fl,.int i)])):=zf y;have L:aO b j b (upd j dx (.xd [(fl,.int i)])):=aO.new sm;refine⟨e,.ref C0,aA dx,T,_,aE,.none,rfl,I2.pins_of (λp hp=>absurd hp (by simp)),⟨by rw[z4 (b_ ne)];exact z.free,z.loc,z.nfs,z.new,z.cel,z.pin⟩,λt ht=>absurd ht (by simp),⟨⟨_,_,.ref t,he,⟨rfl,rfl⟩,rfl,rfl,rfl,λ_ _=>rfl⟩,rfl⟩,.inl rfl,?_⟩;refine aL.ex p2 L (o.new sm) (sr1.step L) (.own C0 ad rfl) ⟨_,zk o y,zm o y,z3,?_⟩;exact⟨fl,.int i,[],hfl,rfl,rfl,rfl⟩
 rw[arm_exec_Raise]
 first
  |exact wpAny_bind (hX (ZC h (I.ok.hd (C.clm hc)) (wpAny_bind (dO body (λv J c=>wpAny_bind (hX (wpAny_pure c))) λ_ _ x=>x))))
  |(simp only[evalOpt,Option.map];exact wpAny_bind (hX (ZC h (I.ok.hd (C.clm hc)) (wpAny_bind (dO body (λv J c=>wpAny_bind (hX (wpAny_pure c))) λ_ _ x=>x)))))
end
noncomputable def Fg:GM->Option (Nat×Nat×aG×aG)
 |.xin c f nm fl=>aA (c,f,nm,fl)
 |_=>aE
theorem O4(h:Fg g=aA q):g=.xin q.1 q.2.1 q.2.2.1 q.2.2.2:=by cases g<;>first|(cases h;rfl)|cases h
noncomputable def GW:SR:=λr b s=>(rz s).bind λe=>(yz e).bind λq=>(xZ q.as).bind λa=>gd (b.calm&&b.G.contains q.x) (gd (b.U.contains (hash q.x)&&aT a) ((r.e b a).bind λg=>(Fg (b.gl (hash q.x))).bind λw=>gd ((cD b.N q.x).isNone&&w.2.2.1==q.x) (aA (uv w.1 w.2.1 g))))
theorem YY:m3 D GW:=by
 intro r H X W s k e d C h;obtain⟨u,l,h⟩:=aP h;obtain⟨q,j,h⟩:=aP h;obtain⟨a,i,h⟩:=aP h;obtain⟨f,h⟩:=zc h;obtain⟨c,h⟩:=zc h;obtain⟨g,p,h⟩:=aP h;obtain⟨w,o,h⟩:=aP h;obtain⟨n,h⟩:=zc h;cases h;obtain⟨t,m⟩:=Xd l;rw[m,wG j,w8 i];have b:=O4 o;rw[wC (zF n).2] at b;exact Yr C (zF f).1 (by simpa using (zF f).2) (by simpa using (zF c).1) b (zF c).2 (H.e C.toCk p)
section
open PySem.W
theorem Yn{K:Frag}(X:K.In s.heap)(I:InstAt s.heap x ox D od)
 (k:cO K (.ref D) "__getattribute__"=aA (aA (.builtin "BaseException.__getattribute__"))) (hk:cO K (.ref D) "__getattr__"=aA aE)
 (n:oW K D od name=aA (.value v)) (o:gN K D (.type "BaseException")=aA aB) (hh:su v=aB)
 (h:Q v {s with toks:=s.toks+1}):wpAny (aR prog w) A (nj (.ref x) name j) Q E s:=by
 obtain⟨i,g,d,t,os⟩:=s;have b:=I.type (M:=aR prog w);have y:=mD (M:=aR prog w) X k;have L2:=mD (M:=aR prog w) X hk;have l:=looks_find (M:=aR prog w) X I n;have u:=looks_mroIn (M:=aR prog w) X o;have q:=pV.ga.bind (.ref x);unfold nj getAttrBy;refine wpAny_bind (wpAny_mkText (wpAny_holding (wpAny_bind (b.at (wpAny_bind (y.at ?_))))));show wpAny _ _ (pO (.ref x) _ (.ref D) (.builtin "BaseException.__getattribute__") aB j) _ _ _;unfold pO hookBefore;refine wpAny_bind ?_;show wpAny _ _ (nu (.ref D) "__getattr__") _ _ _;refine L2.at ?_;refine wpAny_bind (mJ (wpAny_holding ?_));unfold Do boundAndCalled;have c:(j&&onTheHeap (CB "BaseException.__getattribute__"))=aC:=by cases j<;>rfl
 rw[c,if_neg eY];show wpAny _ _ (sk (.builtin "BaseException.__getattribute__") (.ref x) >>= _) _ _ _;rw[q];refine wpAny_bind (wpAny_pure ?_);show wpAny _ _ (call (.builtin "BaseException.__getattribute__") [.ref x,.str name _]) _ _ _;refine hW (rb pV.ga.plain EC ?_);have f:builtinKind "BaseException.__getattribute__"=aA .slot:=by decide +kernel
 have e:splitId "BaseException.__getattribute__"=aA ("BaseException","__getattribute__"):=by decide +kernel
 have p:=El (.ref x) (.str name t);have r:mC (aR prog w) i (o_ (.ref x) (.type "BaseException")) aB:=b.andThen u;simp only[Dn,f,e];refine wpAny_bind (r.at ?_);simp only[CD,nN,if_false];refine lp (a:=()) p ?_;unfold iS.«object.__getattribute__»;refine wpAny_bind (m:=slotArgs _ _ _) (wpAny_pure ?_);dsimp only;refine wpAny_bind ?_;show wpAny _ _ (rj (.str name t)) _ _ _
 first
  |exact wpAny_pure (wpAny_bind (b.at (wpAny_bind (l.at ?_))))
  |(refine wpAny_pure (wpAny_bind (b.at (wpAny_bind (l.at ?_)))))
  |(unfold rj;refine wpAny_pure (wpAny_bind (b.at (wpAny_bind (l.at ?_)))))
 dsimp only;refine wpAny_pure ?_;exact handed_on hh h
end
noncomputable abbrev Gi(c n:Nat)(t:T)(μ:aK):RE T:=match t with
 |.exc a fs=>.grd (a=c) (match Jx fs n with|some v=>.ok v μ|none=>.st)
 |_=>.st
noncomputable abbrev Xl(c n:Nat)(f:De):De:=λb d=>(f b d).bind λt a=>Gi c n t a
section
variable {X:Cx}{D:DP}{W:XW}{Γ:Cn}{k:Nat}{pins:List (aF×bA)}{s:Shared}{σ:St}{H:Hp}{φ α:List aF}{τ:Sl}{μ:aK}{a:aI}{pos:Pos}{f:De}
theorem Rx(C:Ck D W Γ X k)(hp:qg a=aB)(hU:hash x∈Γ.U)(hg:Γ.gl (hash x)=.xin c n nm x)(ha:PE X a (aW D W f)):PE X (.Attribute a x pos) (aW D W (Xl c n f)):=by
 have q:=(C.glU _ hU).1;rw[hg] at q;obtain⟨C0,HE,fI,fd,ps,kk,ad,hm,r,E,hb,hkk,F,_⟩:=q;rintro K s σ H Q I ⟨φ,α,τ,μ,R,Z,p⟩;refine X3 (qE hp) (aX (sub ha I R Z p) ?_);rintro u g ⟨v,B,t,M,N,h,S,O,P,m,d1,p1⟩;unfold Gi at p1;split at p1
 ·rename_i c' fs;have hh:=p1.grd;clear p1;obtain⟨hc,p1⟩:=hh;subst hc;obtain⟨e,Ce,d,j,rfl,n1,n2,b,he,hd⟩:=d1;rw[ad] at b;cases b;cases S;split at p1
  ·rename_i w hw;cases d with
   |none=>rw[show fs=[] from hd] at hw;cases hw
   |some dx=>
    obtain⟨gs,m1,m2,A,l⟩:=hd;obtain⟨y,z,L,hz,dz⟩:=l.look hw;rw[r] at L;cases L;obtain⟨T,vs,g1,g2,g3,g4⟩:yg e C0 (aA dx) g.heap:=(show a6 X.prog X.w B g.heap e (.frz j (.ext (yg e C0 (aA dx)))) from h.hok _ _ he).2.1;obtain⟨mA,Y,rel⟩:=(show a6 X.prog X.w B g.heap dx (.xd gs) from h.hok _ _ A);obtain⟨uu,hu,G⟩:=cV.some_of (v:=z) (o:=mA x) (by rw[←hz];exact rel x);obtain⟨V,ho,hl⟩:=QK Y;have i:=C.xcx _ _ ad;have J:tu g.heap e T C0 (aA V):=⟨g1,g2,by unfold o0;rw[g3],by rw[g4];exact ho⟩;exact Yn h.kIn J i.ga i.hk (DX E.dct E.no rfl (by rw[hl,hu])) i.bx (Wg G) ⟨z,B,h.tok _,G,p1.here m dz⟩
  ·exact p1.elim
 ·exact p1.elim
end
noncomputable def RK:aI->Bool
 |.Name x _=>x != "self"
 |_=>aB
noncomputable def BE:ER:=λr b e=>match e with
 |.Attribute a x _=>gd (qg a&&RK a&&b.U.contains (hash x)) ((r.e b a).bind λf=>(match b.gl (hash x) with
  |.xin c n _ fl=>gd (fl==x) (aA (Xl c n f))
  |_=>aE))
 |_=>aE
theorem Uk:cM D BE:=by
 intro r H X W j k e d C h;unfold BE at h;split at h
 ·rename_i a x s;have l:=zc h;clear h;obtain⟨i,h⟩:=l;simp only[cB] at i;obtain⟨⟨q,t⟩,p⟩:=i;obtain⟨f,o,h⟩:=aP h;cases b:j.gl (hash x) with
  |xin c n nm fl=>
   simp only[b] at h;obtain⟨g,m⟩:=zc h;have g:=beq_iff_eq.mp g;subst g;cases m;exact Rx C q (by simpa using p) b (H.e C o)
  |_=>simp[b] at h
 ·cases h
section
variable {X:Cx}{D:DP}{W:XW}{pins:List (aF×bA)}{s:Shared}{σ:St}{H:Hp}{φ α:List aF}{τ:Sl}{μ:aK}{f g:De}{a b:aI}{pos:Pos}
noncomputable abbrev T5(is:List Nat)(t:T)(τ:Sl):Option Sl:=match t with
 |.lst a=>Va is a τ
 |_=>aE
noncomputable abbrev Ga(x y:T)(μ:aK):RE T:=match x,y with
 |.lst a,.lst b=>.grd (a.length+b.length<=aQ) (.ok (.mut μ.length) (μ++[.lst (a++b)]))
 |.mut i,.lst b=>λK _=>∃a,μ[i]?=aA (.lst a)/\a.length+b.length<=aQ/\K (.mut μ.length) (μ++[.lst (a++b)])
 |_,_=>.st
noncomputable abbrev XI(f g:De):De:=λτ μ=>(f τ μ).bind λx b=>(g τ b).bind λy a=>Ga x y a
theorem PP(L:PE X a (aW D W f))(hb:PE X b (aW D W g)):PE X (.BinOp a .Add b pos) (aW D W (XI f g)):=by
 rintro d s F H Q I ⟨B,α,τ,μ,Z,mr,p⟩;refine wpAny_BinOp (aX (sub L I Z mr p) ?_);rintro u s1 ⟨v,H1,t,O,P,I1,r1,U,J,K,E,p1⟩;refine aX (sub hb I1 J K p1) ?_;rintro S M ⟨R,m,t',n,e,I2,r2,G,Y,x,N,c⟩;have E:=E.step G;have y:∀{a b:aF}{j i:List V}{o C:List T},Rd m a (.lst j)->Rd m b (.lst i)->aN D B e m o j->aN D B e m C i->v=.ref a->R=.ref b->o.length+C.length<=aQ->aJ D W B e m F (RV D B Q) (RE.ok (.mut n.length) (n++[.lst (o++C)]))->wpAny (aR X.prog X.w) X.A (gz .Add u S) (EP X d F Q) X.xe M:=λ{a b j i o C} r q l k e1 e2 h p=>by
  subst e1 e2;exact Ws d M F m _ _ _ _ Q I2 r1 r2 ⟨a,b,j,i,rfl,rfl,r,q,by rw[←l.length,←k.length];exact zA h,λz hz=>p.lay x hz (l.append k)⟩
 unfold Ga at c;split at c
 ·obtain⟨h,c⟩:=c.grd;obtain⟨a,j,rfl,n1,n2,r,l⟩:=E;obtain⟨b,i,rfl,m1,m2,q,k⟩:=N;exact y r q l k rfl rfl h c
 ·obtain⟨o,hi,c⟩:=c.ex1;obtain⟨h,c⟩:=aJ.grd c;obtain⟨a,L,rfl⟩:=E;obtain⟨j,r,l⟩:=x.ob _ a _ L hi;obtain⟨b,i,rfl,m1,m2,q,k⟩:=N;exact y (.inl r) q l k rfl rfl h c
 ·exact c.elim
end
noncomputable def UQ:ER:=λr c e=>match e with
 |.BinOp a .Add b _=>(r.e c a).bind λf=>(r.e c b).bind λg=>aA (XI f g)
 |_=>aE
theorem UD:cM D UQ:=by
 intro r H X W c k e d C h;unfold UQ at h;split at h
 ·obtain⟨f,b,h⟩:=aP h;obtain⟨g,a,h⟩:=aP h;cases h;exact PP (H.e C b) (H.e C a)
 ·cases h
noncomputable abbrev Uf(n:Nat)(o f:De):De:=λd e=>(o d e).bind λt c=>(Za t n c).bind λw b=>.grd (FG w) ((f d b).bind λ_ a=>.ok .non a)
noncomputable abbrev T_(j:Nat):De:=λ_ (a:aK) K _=>(∃i:Nat,a[i]?=aA (MO.tab j))/\K (.clo (2*j) [.clo (100+j) []]) a
noncomputable def T6:aG:=⟨#[37]⟩
noncomputable def lF(m:aG):aG:=⟨#[126]++m.cps⟩
section
variable {X:Cx}{pins:List (aF×bA)}{s:Shared}{σ:St}{H:Hp}{c:aI}
theorem Jm{ad C0 dx:aF}{m:aG}{v:V}(I:Inv X pins σ H s)(e:H ad=aA (.ins C0 dx gs))(c:gL X.K C0)(n:cL X.K C0 m)(l:gs.lookup m=aA v)
  (h:∀u d,Inv X pins σ H d->RelV v u->Q (u,[]) d):wpAny (aR X.prog X.w) A (sg (.ref ad) m pl) Q E s:=by
 obtain⟨b,O,r,_,_,_⟩:=yb I.hok e;obtain⟨a,J,f⟩:=O.look;exact PySem.W.method_usual I.kIn J (nP (c.get m)).1 (nP (c.get m)).2 n rfl (uK I e c n l h)
end
theorem ZU:∀{l:List (aG×Nat)},l.lookup x=aA n->(x,n)∈l
 |[],h=>by cases h
 |(y,m)::r,h=>by
  rw[gB] at h;split at h
  ·rename_i e;have e:=beq_iff_eq.mp e;cases h;rw[e];exact eU
  ·exact d9 _ (ZU h)
section
variable {K:PySem.W.Frag}{k n:Nat}
theorem jR(hd:fd.defaults=.ref d)(ho:K.lookup d=aA o)(hs:o.data=.seq items n)(h:∀us:List aD,us.length=ps.length->∃k,li fd ⟨us,[]⟩=o2 fd.defaults >>= k/\k (aA items)=pure (ps.zip us)):Binds K fd ps []:=λs us X a=>by
 rw[gP] at a ⊢;obtain⟨k,c,b⟩:=h us a;exact Dy X hd ho hs c b
theorem jS(hd:fd.defaults=.ref g)(ho:K.lookup g=aA o)(hs:o.data=.seq items n)(h:∀us:List aD,us.length+1=ps.length->∃k,li fd ⟨us,[]⟩=o2 fd.defaults >>= k/\k (aA items)=pure (ps.zip (us++[d]))):Binds K fd ps [d]:=λs us X a=>by
 obtain⟨k,c,b⟩:=h us (by simpa using a);exact Dy X hd ho hs c b
end
end NH
namespace NH.P
open PySem L2 NH
@[reducible] noncomputable def vL:List Ds:=[(zq (u9 (z8 zy [(eV 0)]) (zE .GtE (eV 0) (eC (.int 0)))))]
noncomputable def qd:Fn:=bH 1 0 vL
@[reducible] noncomputable def xf:List Ds:=[(qa (eV 0) 11 (eV 1)),(qa (eV 0) 12 (eV 2)),(qa (eV 0) 13 (eV 3))]
noncomputable def kK:Fn:=bH 4 0 xf
@[reducible] noncomputable def QY:List Ds:=[(zq (z8 um [(eV 0),(zh .FloorDiv (eV 2) (ze (eV 0) 2)),(eV 1),(zh .Mod (eV 2) (ze (eV 0) 2))]))]
noncomputable def xG:Fn:=bH 3 0 QY
@[reducible] noncomputable def k9:List Ds:=[(zt 3 (z8 xR [(eV 0),(eV 2)])),(bM (tE (zE .Lt (bD (eV 3) (eC (.int 1))) (eV 1))) [(zq (zh .Mult (bD (eV 3) (eC (.int 0))) (ze (eV 0) 2)))] []),(bM (tE (zE .Gt (bD (eV 3) (eC (.int 1))) (eV 1))) [(zq (zh .Mult (zh .Add (bD (eV 3) (eC (.int 0))) (eC (.int 1))) (ze (eV 0) 2)))] []),(zq (zh .Add (zh .Add (zh .Mult (bD (eV 3) (eC (.int 0))) (ze (eV 0) 2)) (bD (eV 3) (eC (.int 2)))) (eC (.int 1))))]
noncomputable def vy:Fn:=bH 3 1 k9
@[reducible] noncomputable def v_:List Ds:=[(bM (tE (ze (eV 0) 20)) [(zU 24 [(eC (.str "the house has fallen"))])] [])]
noncomputable def qv:Fn:=bH 1 0 v_
@[reducible] noncomputable def xB:List Ds:=[(zq (zG [(ze (eV 0) 6),(ze (eV 0) 17)]))]
noncomputable def jk:Fn:=bH 1 0 xB
@[reducible] noncomputable def wc:List Ds:=[(bM (tE (zE .Is (ze (eV 0) 6) (eC .non))) [(zU 18 [(eC (.str "the house has no lease"))])] [])]
noncomputable def qf:Fn:=bH 1 0 wc
@[reducible] noncomputable def wY:List Ds:=[(bM (tE (zE .IsNot (ze (eV 0) 18) (eC .non))) [(zq (z8 vy [(ze (eV 0) 9),(bD (ze (eV 0) 6) (eC (.int 0))),(ze (eV 0) 18)]))] []),(bM (tE (zE .IsNot (ze (eV 0) 17) (eC .non))) [(zq (zh .Mult (zh .Add (ze (eV 0) 17) (eC (.int 1))) (ze (ze (eV 0) 9) 2)))] []),(zq (eC (.int 0)))]
noncomputable def qR:Fn:=bH 1 0 wY
@[reducible] noncomputable def vf:List Ds:=[(bM (fO (qW (tE (z8 qQ [(eV 2)]))) (tE (zE .Gt (eV 2) (ze (ze (eV 0) 9) 2)))) [(zU 20 [(eC (.str "so many are whole numbers from 1 on up to the shape's counts"))])] []),(bM (qW (tE (z8 zy [(eV 1)]))) [(zU 16 [(eC (.str "a reading is a whole number"))])] []),(zS (zz 45 qf (eV 0) [])),(zt 3 (zh .Mult (i7 Q1 (bD (ze (eV 0) 6) (eC (.int 1))) (eV 1)) (ze (ze (eV 0) 9) 2))),(zt 4 (i7 Q1 (zz 45 qR (eV 0) []) (eV 3))),(zt 5 (zh .Add (eV 4) (eV 2))),(bM (tE (zE .Gt (eV 5) (zh .Mult (bD (ze (eV 0) 6) (eC (.int 2))) (ze (ze (eV 0) 9) 2)))) [(zU 18 [(eC (.str "the lease has not so many names"))])] []),(zt 6 (zh .Sub (zh .FloorDiv (zh .Sub (eV 5) (eC (.int 1))) (ze (ze (eV 0) 9) 2)) (zh .Add (eV 1) (ze (eV 0) 14)))),(bM (tE (zE .Gt (eV 6) (eC (.int 0)))) [(uv 21 29 (eV 6))] []),(zq (rX 44 kK [(bD (ze (eV 0) 6) (eC (.int 0))),(eV 4),(eV 5)]))]
noncomputable def z_:Fn:=bH 3 4 vf
@[reducible] noncomputable def qV:List Ds:=[(bM (xm (tE (zE .IsNot (ze (eV 0) 17) (eC .non))) (tE (zE .LtE (eV 1) (ze (eV 0) 17)))) [(zq (ze (eV 0) 17))] []),(zq (i7 VB (zh .Add (eV 1) (ze (eV 0) 15)) (zh .Sub (ze (ze (eV 0) 9) 0) (eC (.int 1)))))]
noncomputable def qD:Fn:=bH 2 0 qV
@[reducible] noncomputable def W6:List Ds:=[(zt 2 (zh .Mod (zh .Mult (zh .Add (zh .Add (zh .Mod (eV 0) (eC (.int 2147483629))) (zh .Mult (eC (.int 69621)) (eV 1))) (eC (.int 1))) (eC (.int 48271))) (eC (.int 2147483629)))),(zt 2 (zh .Mod (zh .Mult (eV 2) (zh .Add (zh .FloorDiv (eV 2) (eC (.int 1009))) (eC (.int 69621)))) (eC (.int 2147483629)))),(zt 2 (zh .Mod (zh .Mult (eV 2) (zh .Add (zh .Add (zh .FloorDiv (eV 2) (eC (.int 907))) (eC (.int 16807))) (eV 1))) (eC (.int 2147483629)))),(zq (zh .Mod (zh .Mult (eV 2) (zh .Add (zh .FloorDiv (eV 2) (eC (.int 1201))) (eC (.int 30011)))) (eC (.int 2147483629))))]
noncomputable def uF:Fn:=bH 2 1 W6
@[reducible] noncomputable def Zt:List Ds:=[(zq (Qy [(zh .Mult (zh .FloorDiv (eV 0) (eC (.int 2))) (zh .Sub (eC (.int 1)) (zh .Mod (eV 0) (eC (.int 2))))),(eV 0),(eC (.int 0))]))]
noncomputable def vT:Fn:=bH 1 0 Zt
@[reducible] noncomputable def QC:List Ds:=[(bM (fO (qW (tE (wM [4] (eV 0)))) (tE (zE .NotEq (eZ uH (eV 0)) (eC (.int 3))))) [(zq (eC (.bl aC)))] []),(zq (u9 (z8 zy [(bD (eV 0) (eC (.int 0)))]) (u9 (z8 zy [(bD (eV 0) (eC (.int 1)))]) (wM [1] (bD (eV 0) (eC (.int 2)))))))]
noncomputable def uz:Fn:=bH 1 0 QC
@[reducible] noncomputable def yN:List Ds:=[(bM (fO (qW (tE (wM [5] (eV 0)))) (qW (tE (eZ KO (vz 1 [] (.one 0) (iE (eV 0)) [] (z8 uz [(eV 0)])))))) [(zq (eC (.bl aC)))] []),(zq (eZ KO (vz 1 [0] (.one 0) (Jh (eC (.int 1)) (eZ uH (eV 0))) [] (zE .Lt (bD (bD (eV 1) (zh .Sub (eV 0) (eC (.int 1)))) (eC (.int 0))) (bD (bD (eV 1) (eV 0)) (eC (.int 0)))))))]
noncomputable def jP:Fn:=bH 1 0 yN
@[reducible] noncomputable def xh:List Ds:=[(bM (fO (qW (tE (z8 zy [(eV 1)]))) (qW (tE (z8 jP [(eV 2)])))) [(zU 15 [(eC (.str "a clock has a whole number and a list of turns whose times rise"))])] []),(qa (eV 0) 3 (eV 1)),(qa (eV 0) 4 (eZ Y7 (eV 2)))]
noncomputable def wB:Fn:=bH 3 0 xh
@[reducible] noncomputable def jo:List Ds:=[(bM (qW (tE (z8 zy [(eV 1)]))) [(zU 16 [(eC (.str "a time is a whole number"))])] []),(Jr (.one 2) (Bo (ze (eV 0) 4)) [(bM (tE (zE .LtE (bD (eV 2) (eC (.int 0))) (eV 1))) [(zq (zh .Add (bD (eV 2) (eC (.int 1))) (oJ (tE (bD (eV 2) (eC (.int 2)))) (zh .Sub (eV 1) (bD (eV 2) (eC (.int 0)))) (eC (.int 0)))))] [])]),(zq (zh .Add (ze (eV 0) 3) (eV 1)))]
noncomputable def wJ:Fn:=bH 2 1 jo
@[reducible] noncomputable def vG:List Ds:=[(zq (jy 1 [] (.one 0) (iE (ze (eV 0) 10)) [] (zG [(ze (eV 0) 5),(bD (ze (eV 0) 6) (eC (.int 0))),(bD (ze (eV 0) 6) (eC (.int 1))),(ze (eV 0) 7)])))]
noncomputable def w6:Fn:=bH 1 0 vG
end NH.P
namespace NH
open PySem PySem.Spec PyProof.Rows L2
noncomputable def L8(i:Nat)(t:T)(μ:aK)(a:List T):Prop:=t=.lst a\/∃j,t=.mut j/\j≠i/\μ[j]?=aA (.lst a)
noncomputable abbrev rL(o f:De):De:=λe g=>(o e g).bind λh b=>match h with
 |.mut i=>λK Z=>(∃c,b[i]?=aA (.lst c))/\f e b (λt a=>∃c d,a[i]?=aA (.lst c)/\L8 i t a d/\c.length+d.length<=aQ/\K .non (a.set i (.lst (c++d)))) Z
 |_=>.st
noncomputable abbrev rC(o:De):De:=λb c=>(o b c).bind λe a=>match e with
 |.mut i=>λK _=>∃d,a[i]?=aA (MO.lst d)/\K .non (a.set i (.lst []))
 |_=>.st
section
variable {X:Cx}{D:DP}{W:XW}{pins:List (aF×bA)}{s:Shared}{σ:St}{H:Hp}{φ α:List aF}{τ:Sl}{μ:aK}{f:De}{a b:aI}
theorem Kg:m4 X "list.extend" (λx vs H Q=>∃l b xs g,x=.ref l/\vs=[.ref b]/\H l=aA (.lst xs)/\Rd H b (.lst g)/\xs.length+g.length<=sizeLine/\Q .non (upd H l (.lst (xs++g)))):=by
 intro j s B H x vs v D Q I m o h;obtain⟨l,b,xs,g,rfl,rfl,k,y,E,q⟩:=h;cases m;obtain⟨u,rfl,p⟩:=vals1 o;cases p;obtain⟨z,c,n,r,G,e⟩:=I.lstM k;obtain⟨C,a,t,i,A⟩:=y.ok I.hok;have w:=i.length;have f:c.toArray.size+a.toArray.size<=sizeLine:=by rw[dH,dH];lia
 have d:¬(!c.toArray.isEmpty&&t6 (c.toArray.size+a.toArray.size))=aB:=by
  rw[SF f,tp];exact eY
 refine pd F.slot_list_extend ⟨_,e,rfl⟩ F.entry_list_extend (F.args_list_extend_2 _ _)
  (AutoSeq1.list_extend_list_list_0 l c.toArray n b a.toArray t d (by rw[dH];lia) (by lia)) ⟨e,A,?_⟩
 refine⟨.non,_,I.lset (its':=c++a) k e (by simp) (r.append i) ?_,rfl,q⟩;rw[l3];lia
theorem M3(hp:qg o=aB)(hs:aT a=aB)(h:(pa.endLine==pc.line)=aB)(ho:PE X o (aW D W go))(ha:PE X a (aW D W f)) :
  PE X (.Call (.Attribute o "extend" pa) [a] [] pc) (aW D W (rL go f)):=by
 have hb:d7 [a] X.env=[(aC,eval a X.env)]:=z6 hs;refine PE.mono (BA pU PySem.F.slot_list_extend PySem.F.type_list_extend Kg ho (zM ha qU (z6 hs)) (qE hp) (by rw[hb];rfl) h (z6 hs) rfl) ?_;rintro σ H Q ⟨w,S,L,R,N,mr,p⟩;refine⟨w,S,L,R,N,mr,p.bind.mono λot A B H1 C O q ov dv=>?_⟩;split at q;case h_2=>exact q.elim
 rename_i i;obtain⟨K,Z,⟨⟨V,n⟩,hf⟩,hk,hz⟩:=q;obtain⟨x,G,rfl⟩:=dv;obtain⟨U,J,l0⟩:=O.ob _ x _ G n;refine⟨.inl ⟨rfl,_,.inl (.inl J)⟩,w,B,L,A,N.step C,O,_,Z,hf,?_,hz⟩;rintro t z ⟨ts,T,s,hl,hr,Y⟩ b u k E v d;obtain⟨β,e2,_⟩:=k.ext;have g:b[i]?=aA x:=by
  rw[e2,dN (bI.mp G).1];exact G
 obtain⟨M,P,l⟩:=E.ob i x _ g s;have hv:∃y c,v=.ref y/\Rd u y (.lst c)/\aN D w b u T c:=by
  rcases hl with rfl|⟨j,rfl,hj,m⟩
  ·obtain⟨y,c,rfl,_,_,r,dl⟩:=d;exact⟨y,c,rfl,r,dl⟩
  ·obtain⟨y,hy,rfl⟩:=d;obtain⟨c,hw,dl⟩:=E.ob j y _ hy m;exact⟨y,c,rfl,.inl hw,dl⟩
 obtain⟨y,c,rfl,I,dl⟩:=hv;have e:aO b u b (upd u x (.lst (M++c))):=aO.turn (b9 g) ⟨_,P⟩;have hi:i<z.length:=(bI.mp s).1;refine⟨x,y,M,c,rfl,rfl,P,I,?_,?_⟩
 ·rw[←l.length,←dl.length];exact cU hr (zA (bE _))
 ·exact hk _ _ Y b _ (k.trans e) (E.turn g hi e ⟨_,z3,(l.step e).append (dl.step e)⟩) .non rfl
theorem U9:m4 X "list.clear" (λx vs H Q=>∃l xs,x=.ref l/\vs=[]/\H l=aA (.lst xs)/\Q .non (upd H l (.lst []))):=by
 intro b s g H x vs v i Q I d f h;obtain⟨l,xs,rfl,rfl,c,q⟩:=h;cases d;cases f;obtain⟨z,a,n,r,j,e⟩:=I.lstM c;refine pd F.slot_list_clear ⟨_,e,rfl⟩ F.entry_list_clear (F.args_list_clear_1 _) (AutoSeq1.list_clear_list_0 l a.toArray n (by rw[dH];lia)) ⟨e,?_⟩;exact⟨.non,_,I.lset (its':=[]) (ys:=[]) c e rfl .nil (hL _),rfl,q⟩
theorem N4(y:qg o=aB)(a:(pa.endLine==pc.line)=aB)(ho:PE X o (aW D W go)) :
  PE X (.Call (.Attribute o "clear" pa) [] [] pc) (aW D W (rC go)):=by
 refine PE.mono (HA pU PySem.F.slot_list_clear PySem.F.type_list_clear U9 ho (qE y) a) ?_;rintro A H Q ⟨k,r,m,n,u,w,p⟩;refine⟨k,r,m,n,u,w,p.bind.mono λv e b j t h q C dv=>?_⟩;cases v with
 | «mut» i=>
  obtain⟨B,d,q⟩:=q.ex1;obtain⟨x,f,rfl⟩:=dv;obtain⟨s,g,l⟩:=h.ob _ x _ f d;have c:aO b j b (upd j x (.lst [])):=aO.turn (b9 f) ⟨_,g⟩;have z:i<e.length:=(bI.mp d).1;refine⟨.inl ⟨rfl,_,.inl (.inl g)⟩,x,s,rfl,rfl,g,?_⟩;exact aJ.ok q c (h.turn f z c ⟨_,z3,rfl⟩) .non rfl
 |_=>exact aJ.elim q
end
noncomputable def Ft:ER:=rN "extend" rL
theorem PR:cM D Ft:=KS λC b a d c e=>M3 b a d c e
noncomputable def Bm:ER:=λr a e=>match e with
 |.Call (.Attribute o m c) [] [] b=>gd (m==("clear":aG)&&qg o&&c.endLine==b.line) ((r.e a o).bind λgo=>aA (rC go))
 |_=>aE
theorem PH:cM D Bm:=by
 intro r H X W j k e d C h;unfold Bm at h;split at h
 ·obtain⟨c,a⟩:=zc h;clear h;simp only[cB] at c;obtain⟨⟨b,g⟩,f⟩:=c;have b:=beq_iff_eq.mp b;subst b;obtain⟨go,i,a⟩:=aP a;cases a;exact N4 g f (H.e C i)
 ·cases h
end NH
namespace NH.P
open PySem L2 NH
@[reducible] noncomputable def vl:List Ds:=[(zq (jy 1 [1,0] (.one 0) (Jh (ze (eV 1) 12) (ze (eV 1) 13)) [] (z8 xG [(eV 2),(ze (eV 1) 11),(eV 0)])))]
noncomputable def qw:Fn:=bH 2 0 vl
end NH.P
namespace NH
open PySem PySem.Spec PyProof.Rows L2
noncomputable abbrev Bu(o f:De):De:=λd e=>(o d e).bind λg b=>match g with
 |.mut i=>λK Z=>(∃c,b[i]?=aA (MO.lst c))/\f d b (λt a=>t=.bl aB/\∃c,a[i]?=aA (.lst c)/\∃p:List Bool×Nat,bR c=aA p.1/\(p.2<1000/\p.1[p.2]?=aA aB/\∀m,m<p.2->p.1[m]?=aA aC)/\K (.int p.2) a) Z
 |_=>.st
section
variable {X:Cx}{D:DP}{W:XW}{f:De}{a:aI}
theorem Rz(T:qg o=aB)(hs:aT a=aB)(b:(pa.endLine==pc.line)=aB)(ho:PE X o (aW D W go))(ha:PE X a (aW D W f)) :
  PE X (.Call (.Attribute o "index" pa) [a] [] pc) (aW D W (Bu go f)):=by
 have u:d7 [a] X.env=[(aC,eval a X.env)]:=z6 hs;refine PE.mono (BA pU PySem.F.slot_list_index PySem.F.type_list_index YH ho (zM ha qU (z6 hs)) (qE T) (by rw[u];rfl) b (z6 hs) (qT (by rfl))) ?_;rintro σ H Q ⟨y,J,z,I,A,R,p⟩;refine⟨y,J,z,I,A,R,p.bind.mono λP h j H1 k E q ov dv=>?_⟩;cases P with
 | «mut» i=>
  obtain⟨K,Z,⟨⟨N,g⟩,V⟩,U,S⟩:=q;obtain⟨x,r,rfl⟩:=dv;obtain⟨L,w,l0⟩:=E.ob _ x _ r g;refine⟨.inl ⟨rfl,_,.inl (.inl w)⟩,y,j,z,h,A.step k,E,_,Z,V,?_,S⟩;rintro t G ⟨rfl,ts,m,B,Y,s,O⟩ c H2 e C v d;obtain⟨β,e2,_⟩:=e.ext;have n:c[i]?=aA x:=by
   rw[e2,dN (bI.mp r).1];exact r
  obtain⟨M,hH,l⟩:=C.ob i x _ n m;have d:v=.bl aB:=d;subst d;exact⟨x,M,B.1,B.2,rfl,rfl,.inl hH,QW Y l,s.1,s.2.1,s.2.2,U _ _ O c H2 e C _ rfl⟩
 |_=>exact aJ.elim q
end
noncomputable def Gn:ER:=rN "index" Bu
theorem Ut:cM D Gn:=KS λC b a d c e=>Rz b a d c e
theorem K5{P:cG}{w:dL}{K:bJ}{mg X:aG->Option aD}{CX:mw}{k:Nat}{fa a:aF}{p:List aF}{fd:FuncData}{x:aG}{sp:Sp}{f:a9}{vs:List aD}{ns:List Int}
  (KX:K.In f.heap) (D:f.heap.Ns bO mg) (hb:f.heap.Ns lj X) (hbb:∀x:aG,x≠"__name__"->X x=hS x) (M:f.heap.NoLimit) (hg:f.gens=#[])
  (hbm:∃bm ob,mg "__builtins__"=aA (.ref bm)/\bm≠lj/\f.heap.get? bm=aA ob/\ob.cls=.type "module"/\ob.dict=aA lj/\ob.data=.plain)
  (hnl:K_ K=aB) (i:∀g∈p,f.heap.get? g=aA (lW #[])) (O:∀g∈p,K.lookup g=aE/\g≠nr/\∃c,ng K c g=aB)
  (C:f.heap.get? a=aA {cls:=.type "list",data:=.seq vs.toArray}) (hi:fL vs ns) (hl:ns.length<=sizeLine) (hr:bV k nh)
  (F:∀base:aV,K.In base->base.Ns bO mg->(∀g∈p,base.BuiltinsAt mg g)->bL P w K mg base CX k fa fd [x] sp) (E:∀(s:a9) (u:aD),lc s fd ⟨[u],[]⟩ [(x,u)])
  (Y:∀H:Hp,Rd H a (.lst (ns.map V.int))->(∀g∈p,H g=aA (.tbl #[]))->a∉p->sp [.ref a] H (λv _=>v=.bl aB) λ_ _ _=>False)
  (hCX:∀H e A,CX [] H f (λ_ _ _=>False) e A->False) :
  f9 (aR P w) nh (.call (.ref fa) ⟨[.ref a],[]⟩) (λr A=>r=.ok (.ret (.bool aB))/\OldK f.heap A.heap/\A.os=f.os/\iT A.gens) f:=by
 have rv:=L2.vals_ints hi;have lenV:=hi.length;have J:a∉p:=λz=>by have:=i a z;rw[this] at C;cases C
 have hKa:K.lookup a=aE:=by
  cases q:K.lookup a with
  |none=>rfl
  |some o=>
   have e:=KX a o q;rw[C] at e;cases e;exact absurd rfl (XQ hnl q)
 obtain⟨H,hH⟩:∃H:Hp,H=λb=>if b=a then aA (.frz {cls:=.type "list",data:=.seq vs.toArray} (.lst (ns.map V.int))) else if b∈p then aA (.tbl #[]) else aE:=⟨_,rfl⟩
 have Ha:H a=aA (.frz {cls:=.type "list",data:=.seq vs.toArray} (.lst (ns.map V.int))):=by rw[hH];simp
 have T:∀g∈p,H g=aA (.tbl #[]):=λg R=>by
  rw[hH];exact (if_neg (λz:g=a=>J (z▸R))).trans (if_pos R)
 have I:∀b,b≠a->b∉p->H b=aE:=λb j l=>by
  rw[hH];exact (if_neg j).trans (if_neg l)
 have Z:dR P w H f.heap:=λb u e=>by
  by_cases j:b=a
  ·subst j;rw[Ha] at e;cases e;exact⟨C,by rw[cJ];exact hl,vs,_,rv,C⟩
  ·by_cases l:b∈p
   ·rw[T b l] at e;cases e;exact i b l
   ·rw[I b j l] at e;cases e
 have un:∀{b:aF}{o:bA},f.heap.get? b=aA o->o.cls≠.none->o.cls≠.type "list"->H b=aE:=λ{b o} e n1 n2=>I b (λz=>by rw[z,C] at e;cases e;exact n2 rfl) λz=>by rw[i b z] at e;cases e;exact n1 rfl
 have U:∀{b:aF}{o:bA}{es:Array o3}{ep:Nat},f.heap.get? b=aA o->o.data=.dict es ep->H b=aE:=λ{b o es ep} e d=>I b (λz=>by rw[z,C] at e;cases e;cases d) λz=>by rw[i b z] at e;cases e;cases d
 have qE:∀{b:aF}{o:bA},f.heap.get? b=aA o->H b=aE->(Qr f.heap H).get? b=aA o:=λe n=>R8 e n;have B:∀{b:aF}{m:aG->Option aD},f.heap.Ns b m->(Qr f.heap H).Ns b m:=λ{b m} ⟨o,es,ep,e,d,r⟩=>⟨o,es,ep,qE e (U e d),d,r⟩;have hKf:∀b o,K.lookup b=aA o->H b=aE:=λb o e=>I b (λz=>by rw[z,hKa] at e;cases e) λz=>by rw[(O b z).1] at e;cases e
 have N:K.In (Qr f.heap H):=λb o e=>qE (KX b o e) (hKf b o e);have hM:Mod K mg (Qr f.heap H):=⟨N,B D,⟨X,B hb,hbb⟩,let ⟨mc,j,l⟩:=M;⟨mc,B j,l⟩⟩;have hB:∀g∈p,(Qr f.heap H).BuiltinsAt mg g:=λg R=>by
  obtain⟨bm,ob,b1,b2,G,S,b5,b6⟩:=hbm;refine⟨bm,ob,b1,b2,λz=>?_,λz=>?_,qE G (un G (by rw[S];exact λz=>by cases z) (by rw[S];exact λz=>absurd (Value.type.inj z) (by decide))),S,b5,b6⟩
  ·obtain⟨o,es,ep,e,d,_⟩:=D;rw[z,e] at G;cases G;rw[d] at b6;cases b6
  ·rw[z,i g R] at G;cases G;cases S
 have e0:dB P w K mg (Qr f.heap H) nh [] f H:=⟨rfl,hM,λb o e=>O0 e,lm (YJ _ _),trivial,λb hb=>absurd (show b∈([]:List aF) from hb) (by simp),Z,.of_eq hg⟩;refine iK ((F _ N (B D) hB).run nh [] f H ⟨[.ref a],[]⟩ [.ref a] [.ref a] _ _ hr e0 (E f (.ref a)) (.cons rfl .nil) (Y H (.inr ⟨_,Ha⟩) T J)) λr A h=>?_;cases r with
 |error e=>exact (hCX H e A h).elim
 |ok fl=>
  cases fl with
  |next=>exact dI h
  |brk=>exact dI h
  |cont=>exact dI h
  |ret u=>
   obtain⟨v,H',os,Q,un,y,r',q⟩:=h;have q':v=.bl aB:=q;subst q';obtain rfl:u=lR aB:=r';have kp:∀b o,H b=aE->f.heap.get? b=aA o->A.heap.get? b=aA o:=λb o n e=>un.keep b o e n (by intro z;exact absurd (show b∈([]:List aF) from z) (by simp)) (by simp);have L:∀o,f.heap.get? a=aA o->A.heap.get? a=aA o:=λo e=>by
    have z2:=un.frzs a _ _ Ha;obtain⟨e2,_⟩:=y a _ z2;rw[C] at e;cases e;exact e2
   refine⟨rfl,⟨λb o e=>?_,λb o e=>?_⟩,os,Q⟩
   ·by_cases j:b∈p
    ·obtain⟨t,hm⟩:=un.tbls b _ (T b j);have hP':A.heap.get? b=aA (lW (#[]++t)):=y b _ hm;obtain⟨k1,k2,c,k3⟩:=O b j;have cd:=PySem.W.codeHd_of_K KX k3;rw[i b j] at e;cases e;exact .inr (.inl ⟨(cd.tab (i b j)).isCodeTable,rfl,#[],t,rfl,hP'⟩)
    ·by_cases l:b=a
     ·subst l;exact .inl (L o e)
     ·exact .inl (kp b o (I b l j) e)
   ·by_cases j:b∈p
    ·obtain⟨t,hm⟩:=un.tbls b _ (T b j);exact⟨_,y b _ hm⟩
    ·by_cases l:b=a
     ·subst l;exact⟨_,L o e⟩
     ·exact⟨_,kp b o (I b l j) e⟩
noncomputable def Vj(c:List aF):Sp:=λd H Q _=>∃(a:aF) (b:List Int),d=[.ref a]/\Rd H a (.lst (b.map V.int))/\(∀e∈c,H e=aA (.tbl #[]))/\a∉c/\b.length<=63/\∀f,Q (.bl aB) f
noncomputable def WT(f:Fn):Prop:=∀a:List Int,a.length<=63->f [.lst (a.map T.int)] [.tab 0,.tab 1] (λt _=>t=.bl aB) (λ_ _ _=>False)
theorem R6{P:cG}{K:bJ}(C:WT f)(I:D.tabs 0=aA (A,j,qn))(n:D.tabs 1=aA (s,g,B))(h:A≠s)
  (F:bL P w K mg base (cW P w) k fa fd [x] (dW D 1 f)):bL P w K mg base (cW P w) k fa fd [x] (Vj [A,s]):=by
 refine F.imp ?_;rintro M H Q E ⟨a,e,rfl,r,p,l,G,q⟩;refine⟨rfl,[],[A,s],[.lst (e.map T.int)],[.tab 0,.tab 1],⟨.ref a,[],rfl,⟨a,_,rfl,by simp,by simpa using l,r,Wd e⟩,rfl⟩,⟨rfl,by simpa using h,by simp,by simp,λi u o b c=>?_⟩,_,_,C e G,?_,?_⟩
 ·cases i with
  |succ i=>
   cases i with
   |succ i=>simp at b
   |zero=>
    have b:s=u:=by simpa using b
    have c:MO.tab 1=o:=by simpa using c
    subst b;subst c;exact⟨g,B,#[],n,p _ (by simp),trivial,λ_ _=>.inl rfl⟩
  |zero=>
   have b:A=u:=by simpa using b
   have c:MO.tab 0=o:=by simpa using c
   subst b;subst c;exact⟨j,qn,#[],I,p _ (by simp),trivial,λ_ _=>.inl rfl⟩
 ·rintro t L rfl y J st m v d;have d:v=.bl aB:=d;rw[d];exact q J
 ·exact λ_ _ _ z=>z.elim
theorem walkTs{l:my}{q:cG}{j:List aG}{XP:(aG->Option aD)->aV->Prop}{A:dL->aV->Prop}{d:DefRec}{K:Params->bJ}{x:aG}{k:Nat}{p:List aF}(hk:k<=90)(J:l.most=aA 63)(y:d.params.defaults=[])
  (O:∀(w:dL) (h:aV),A w h->(K w.params).In h) (P:∀(w:dL) (h:aV),A w h->∀r∈p,h.get? r=aA (lW #[]))
  (F:∀(w:dL) (mg:aG->Option aD) (fa:aF) (h:aV),(K w.params).In h->h.Ns bO mg->mg d.name=aA (.ref fa)->
   (K_ (K w.params)=aB/\∀r∈p,(K w.params).lookup r=aE/\r≠nr/\∃c,ng (K w.params) c r=aB)/\∃fd:FuncData,(∀(s:a9) (u:aD),lc s fd ⟨[u],[]⟩ [(x,u)])/\∀base:aV,(K w.params).In base->base.Ns bO mg->(∀r∈p,base.BuiltinsAt mg r)->bL l.prog w (K w.params) mg base (cW l.prog w) k fa fd [x] (Vj p)) :
  PySem.W.WalkO q j XP A l.row.toRowW d [] (λf vs=>Cy f vs):=by
 refine Att.attach_call J y λw C B mg mb fa o Z cd V a vs E G Y ho hd M v n m i L=>?_;have D:=O w _ Y;obtain⟨⟨U,S⟩,fd,N,R⟩:=F w mg fa _ D G.T.g v;exact K5 D G.T.g G.T.b G.T.builtins G.T.nolimit L G.T.bmain U (P w _ Y) S n m (cU i (by decide)) (bV.mono (k:=90) ⟨rfl,by decide,by decide⟩ hk) R N (λH I Q t=>⟨a,E,rfl,I,Q,t,i,λ_=>rfl⟩) λH e X z=>by
  obtain⟨_,_,_,_,_,_,_,_,_,_,_,_,_,_,_,z⟩:=z;exact z
noncomputable abbrev WX(x y:T)(μ:aK):RE T:=match y with
 |.mut i=>(match x with
  |.str z=>λK _=>∃a,μ[i]?=aA (MO.dic a)/\K (.bl (!(zL (.inr z) a).isSome)) μ
  |_=>.st)
 |_=>.st
noncomputable abbrev iP(op:T->T->aK->RE T)(f g:De):De:=λc d=>(f c d).bind λx b=>(g c b).bind λy a=>op x y a
section
variable {X:Cx}{D:DP}{W:XW}{k:Nat}{pins:List (aF×bA)}{s:Shared}{σ:St}{H:Hp}{φ α:List aF}{τ:Sl}{μ:aK}{f g:De}{a b:aI}{pos:Pos}
noncomputable def Ci (X:Cx)(D:DP)(W:XW)(op:eO)(r:T->T->aK->RE T):Prop:=
 ∀(pins:List (aF×bA)) (s:a9) (σ:St) (H:Hp) (φ α:List aF) (μ:aK) (x y:T) (v w:V) (b a:aD) (Q:VK),Inv X pins σ H s->aM D φ α H μ->a_ D φ α H x v->a_ D φ α H y w->RelV v b->RelV w a->aJ D W φ α H σ (RV D φ Q) (r x y μ)->
  wpAny (aR X.prog X.w) X.A (eG op b a) (EP X pins σ Q) X.xe s
theorem Ml(h:Ci X D W op r)(ho:jr op b=aB)(L:PE X a (aW D W f))(K:PE X b (aW D W g)):PE X (.Compare a [op] [b] pos) (aW D W (iP r f g)):=by
 rintro c s n H Q I ⟨m,U,S,T,B,J,p⟩;refine tj (aX (sub L I B J p) ?_) (jU ho);rintro u V ⟨v,Y,t,o,q,P,F,z,j,l,N,p1⟩;refine aX (sub K P j l p1) ?_;rintro x C ⟨w,R,y,d,e,O,E,i,A,k,M,G⟩;exact h c C n R m e d t y v w u x Q O k (N.step i) M F E G
theorem Tk(h:Ci X D W op r)(ho:jr op b=aB)(ha:PE X a (aW D W f))(hb:PE X b (aW D W g)):PT X (.Compare a [op] [b] pos) (eL D W (tE (iP r f g))):=by
 rintro l s A H Q I ⟨j,R,L,O,sr,mr,p⟩;have p:aJ D W j R H A (λb _ _ w=>Q b w) ((f L O).bind λx c=>(g L c).bind λy i=>(r x y i).bind yc):=p;refine tK (aX (sub ha I sr mr p) ?_) (jU ho);rintro u s1 ⟨v,n,t,c,e,I1,r1,Y,F,K,d1,p1⟩;refine aX (sub hb I1 F K p1) ?_;rintro T s2 ⟨S,M,U,i,k,I2,r2,E,Z,J,d2,p2⟩;refine aX (h l s2 A M j k i t U v S u T (λz n=>∃t c e,aO k M e n/\aM D j e n c/\a_ D j e n t z/\aJ D W j e n A (λb _ _ w=>Q b w) (yc t c)) I2 J (d1.step E) d2 r1 r2 (p2.bind.mono λt B C w st m q v d=>⟨t,B,C,st,m,d,q⟩)) ?_;rintro d s3 ⟨z,H3,I3,r3,t3,N,P,V,G,d3,o⟩;unfold yc at o;split at o
 ·cases d3;cases r3;exact wpAny_truthy_bool ⟨H3,I3,o.ok (aO.refl _ _) G⟩
 ·exact o.elim
theorem Y9(G:X.A.units+64<cLine):Ci X D W .NotIn WX:=by
 intro b s t H r d u x y v w C B Q I c a o f e p;unfold WX at p;split at p
 ·split at p
  ·rename_i i _ z;obtain⟨K,J,⟨g,j,p⟩,h,F⟩:=p;have a:v=.str z:=a;obtain⟨ad,m,rfl⟩:=o;cases e;obtain⟨gs,n,l⟩:=c.ob i ad _ m j;subst a;refine OT (by omega) I (fF.k (k:=.inr z) n) f λE q=>⟨.bl (!(yC gs (.inr z)).isSome),H,q,rfl,?_⟩;rw[Q0 l];exact h _ _ p d H (aO.refl _ _) c _ rfl
  ·exact p.elim
 ·exact p.elim
theorem Jt:∀{a:List (Key×T)}{gs:List (Key×V)},bF D φ α H a gs->zL z a=aA t->∃v,yC gs z=aA v/\a_ D φ α H t v
 |[],_,h,e=>by cases e
 |p::r,_,h,e=>by
  obtain⟨v,q,rfl,d,l⟩:=h;unfold zL at e;by_cases b:p.1=z
  ·rw[if_pos b] at e;cases e;exact⟨v,by rw[xQ (p:=(p.1,v)) b],d⟩
  ·rw[if_neg b] at e;obtain⟨c,g,f⟩:=Jt l e;exact⟨c,by rw[xX (p:=(p.1,v)) b];exact g,f⟩
end
noncomputable abbrev AU(g:List (Nat×De))(n:Nat)(o f:De):De:=λd e=>(o d e).bind λt c=>(Za t n c).bind λw b K Z=>∃p:Nat×(Nat×De)×List T,(g[p.1]?=aA p.2.1/\w=YL p.1 p.2.1.1 p.2.2)/\((f d b).bind λx a=>p.2.1.2 (aA x::p.2.2.map aA) a) K Z
noncomputable abbrev Md(ds:List Ds):De:=λa b K Z=>qe ds a b (En.fn K Z)
noncomputable abbrev Bv(jt j:Nat)(fs:List Nat):De:=λc (a:aK) K _=>(∃i:Nat,a[i]?=aA (MO.tab jt))/\∃b:List T,fs.map (Qx c)=b.map aA/\K (YL j jt b) a
noncomputable def ZG:aG:=⟨#[38]⟩
section
variable {X:Cx}{D:DP}{W:XW}{Γ:Cn}{k:Nat}{pins:List (aF×bA)}{s:Shared}{σ:St}{H:Hp}{φ α:List aF}{τ:Sl}{μ:aK}{g:De}{a b c:aI}{pos:Pos}
theorem Sn{c:aF}(I:Inv X pins σ H s)(hx:X.env.cells.lookup x=aA c)(w:X.fn x=aC)(hs:X.s₀.heap.objs.size<=c)(t:H c=aE)(ho:s.heap.get? c=aA o)(hd:o.data=.cell v):Inv X pins σ (upd H c (.frz o (.ext λ_=>True))) s:=by
 have st:∀b u,H b=aA u->upd H c (.frz o (.ext λ_=>True)) b=aA u:=λb u q=>by rw[z4 (zI q t)];exact q
 refine⟨I.ok,I.os,I.bare,⟨I.base.keep,I.base.slot,λb f e n g=>?_,I.base.there,λb h e=>st b _ (I.base.tups b h e),λb f u e=>st b _ (I.base.frzs b f u e),λb j e=>?_⟩,I.loc,I.cell,?_,λy i e=>?_,λp r=>?_,λb k e=>?_,I.len⟩
 ·rw[z4 (dP (cY (bZ e) hs))];exact I.base.free b f e n g
 ·obtain⟨a,q⟩:=I.base.tbls b j e;exact⟨a,st b _ q⟩
 ·rw[z4 (b_ (I.cne x c hx))];exact I.free
 ·by_cases z:i=c
  ·subst z;rw[I.ok.inj _ _ _ e hx];exact .inr ⟨w,o,_,z3⟩
  ·rw[z4 z];exact I.freeC y i e
 ·obtain⟨e,n,m,l,d⟩:=I.pin p r;have:p.1≠c:=λz=>by rw[z,ho] at e;cases e;exact d _ hd
  exact⟨e,by rw[z4 this];exact n,m,l,d⟩
 ·by_cases z:b=c
  ·subst z;rw[z3] at e;cases e;exact⟨ho,trivial,⟨o,ho⟩,λ_ _ _ _=>trivial⟩
  ·rw[z4 z] at e;exact (I.hok b k e).stay (λ_ _ _ q=>q) (λb q=>st b _ q) λb h q=>st b _ q
theorem VU(C:Ck D W Γ X k){ls:List bN}(KM:lK D ls)(R:Γ.lam.isSome=aB):∀{fr:List aG}{fs:List Nat}{ts:List T}{H:Hp},(∀x∈fr,x∈Γ.fz/\x∈Γ.cel)->js Γ.N fr=aA fs->fs.map (Qx τ)=ts.map aA->Inv X pins σ H s->aZ D φ α H τ σ->aM D φ α H μ->
  ∃(O:Hp) (cs:List aF),Inv X pins σ O s/\jX H O/\fr.map (λx=>X.env.cells.lookup x)=cs.map aA/\aN D φ α O (ts.map λt=>.clo 200 [t]) (cs.map V.ref)
 |[],fs,ts,H,_,g,p,I,A,f=>by
  cases g;cases ts with
  |nil=>exact⟨H,[],I,λ_ _ e=>e,rfl,rfl⟩
  |cons _ _=>cases p
 |x::fr,fs,ts,H,U,g,p,I,A,f=>by
  simp only[js] at g;split at g
  ·rename_i i is S L;cases g;cases ts with
   |nil=>cases p
   |cons t ts=>
    have j:=p;simp only[dU,Dg] at j;obtain⟨ht,F⟩:=j;obtain⟨hz,hc⟩:=U x eU;obtain⟨v,hv,d⟩:=A.val i t (uA.mp ht);obtain⟨hf,G⟩:=C.kfz R x hz;obtain⟨m,_,J⟩:=I.loc;obtain⟨u,ru,lk⟩:=J i x v (by rw[C.hN];exact wF S) hv (C.vis x (wt S));have kd:=C.cel x hc;rcases lk with⟨z,_⟩|⟨_,c,ec,o,Q,hd⟩
    ·rcases kd with q|q<;>(rw[z] at q;cases q)
    ·obtain⟨r,l,I1,B,e1,n1,n2⟩:∃r l,Inv X pins σ r s/\jX H r/\r c=aA (.frz o l)/\c∉φ/\c∉α:=by
      rcases I.freeC x c ec with q|⟨_,P,Z,q⟩
      ·exact⟨_,_,Sn I ec hf (G c ec) q Q hd,zf q,z3,zk f q,zm f q⟩
      ·have Y:s.heap.get? c=aA P:=(I.hok c _ q).1;rw[Q] at Y;cases Y;refine⟨H,Z,I,λ_ _ e=>e,q,λz=>?_,λz=>?_⟩
       ·obtain⟨w,e,n⟩:=f.phi c z;rw[q] at e;cases e;cases n
       ·obtain⟨E,h⟩:=i4.mp z;have K:E<μ.length:=by rw[←f.len];exact (bI.mp h).1
        obtain⟨w,e,n⟩:=(f.ob E c μ[E] h (by simp[K])).some;rw[q] at e;cases e;cases n
     have st:=aO.new (α:=α) B;obtain⟨H2,cs,I2,a,M,dl⟩:=VU C KM R (fr:=fr) (fs:=is) (ts:=ts) (λy hy=>U y (d9 _ hy)) L F I1 (A.step st) (f.new B);refine⟨H2,c::cs,I2,λb o e=>a b o (B b o e),by simp[ec,M],⟨.ref c,cs.map V.ref,rfl,⟨c,aA (.frz o l),[v],rfl,KM.ce c o u v l hd ru,λP e=>?_,v,[],rfl,(d.step st).step (aO.new a),rfl⟩,dl⟩⟩;cases e;exact⟨n1,n2,a _ _ e1⟩
  ·cases g
theorem Su{P:cG}{c:aF}(p:x_ q c l cl h):a6 P w H h q (.ext (x_ q c l cl)):=by
 obtain⟨g,f,b,a,e⟩:=id p;refine⟨p,⟨_,e⟩,λj i p d=>?_⟩;obtain⟨g,f,b,a,e⟩:=p;exact⟨g,f,b,a,d _ e⟩
theorem NW{l:bN}{line i:Nat}{c P:aF}(I:Inv X pins σ H s)(f:aM D φ α H μ)(k:μ[i]?=aA (.tab l.jt))(m:D.tabs l.jt=aA (P,B,l.qn))(b:pos∈B)
  (a:X.env.code=.ref c) (n:lx X.base c P) (o:X.base.BuiltinsAt X.mg P) (e:mG l.sc X.env=pure cl)
  (h:∀q j d doc r z,Inv X ((q,{cls:=.type "function",data:=.func (Bp l.nm l.qn ⟨[],[⟨l.y,aE,pa⟩],aE,[],[],aE,[]⟩ l.fb l.sc cl doc ((X.mg "__name__").getD .none) (.ref j) d)})::pins) σ r z->aO α H α r->aM D φ α r μ->j∉α->r j=aA (.ext (wa j l.qn))->(j∉φ/\dA X r q/\∀p∈pins,p.1≠q)->Q (.ref q) z) :
  wpAny (aR X.prog X.w) X.A (pv l.nm l.qn ⟨[],[⟨l.y,aE,pa⟩],aE,[],[],aE,[]⟩ l.fb l.sc X.env [] [] [] pos line) Q X.xe s:=by
 obtain⟨C,v,y,body,u,fr,g,t⟩:=l;cases t with
 |none=>exact Jq I f k m b a n o e λq j d r z=>h q j d .none r z
 |some x=>exact Uo I f k m b a n o e λq j d doc r z=>h q j d doc r z
theorem Ym(C:Ck D W Γ X k){pa pl:Pos}{j line i:Nat}(B:Γ.lam=aA (l.jt,r))(Q:pl∈r)(hU:ZG∈Γ.U)(hg:Γ.gl ZG=.kap ls)(hj:ls[j]?=aA l)(d:frees l.sc=l.fr)(S:l.fr.Nodup)(E:∀x∈l.fr,x∈Γ.fz/\x∈Γ.cel)(T:js Γ.N l.fr=aA fs)
  (I:Inv X pins σ H s) (sr:aZ D φ α H τ σ) (mr:aM D φ α H μ) (hi:μ[i]?=aA (.tab l.jt)) (O:fs.map (Qx τ)=ts.map aA):X.env.qual++Γ.lnm=l.qn/\
  wpAny (aR X.prog X.w) X.A (pv l.nm l.qn ⟨[],[⟨l.y,aE,pa⟩],aE,[],[],aE,[]⟩ l.fb l.sc X.env [] [] [] pl line) (λv s'=>∃q M,v=.ref q/\Inv X pins σ M s'/\aO α H α M/\aM D φ α M μ/\a_ D φ α M (YL j l.jt ts) (.ref q)) X.xe s:=by
 obtain⟨hk,c,P,m,hC,hB,K⟩:=C.lam _ r B;have gq:=(C.glU _ hU).1;rw[hg] at gq;have KM:=gq.2;obtain⟨P',pos',hD'⟩:=KM.tb j l hj;have z:X.env.qual++Γ.lnm=l.qn:=by
  have:=K.symm.trans hD';simp only[pG,Prod.mk.injEq] at this;exact this.2.2
 refine⟨z,?_⟩;rw[z] at K;obtain⟨H1,cs,I1,u,F,dl⟩:=VU C KM (by rw[B];rfl) E T O I sr mr;have g:∀x∈frees l.sc,∃c,X.env.cells.lookup x=aA c:=λx f=>I.ok.has x (C.cel x (E x (by rw[←d];exact f)).2);obtain⟨cl,Y,G,hc2⟩:=ZF g;have cat:Ug l.fr cl cs:=by
  refine⟨?_,?_,λx a e=>by rw[←d];exact (G x a e).2⟩
  ·rw[←F];refine DU λx f=>?_;obtain⟨c,e⟩:=hc2 x (by rw[d];exact f);rw[e,(G x c e).1]
  ·have q:(cs.map aA).Pairwise (·≠·):=by
    rw[←F,l7];refine Ij (λ{a b} ha hb R e=>R ?_) S;obtain⟨c,e1⟩:=g a (by rw[d];exact ha);exact I.ok.inj a b c e1 (by rw[←e];exact e1)
   rw[l7] at q;exact q.imp λh e=>h (congrArg aA e)
 refine NW I1 (mr.new u) hi K Q m hC hB Y λq p ctv doc H2 s2 I2 t L hca Z f=>?_;have ho:=(I2.pin _ (dM _ eU)).1;have np:x_ q p l cl s2.heap:=⟨pa,_,ctv,doc,ho⟩;have I4:=kO (o:=.ext (x_ q p l cl)) (wy I2) f.2.1 f.2.2 (Su np);have n:=f.2.1.free;have J:jX H2 (upd H2 q (.ext (x_ q p l cl))):=zf n;refine⟨q,_,rfl,I4,(aO.new u).trans (t.trans (aO.new J)),L.new J,?_⟩;refine⟨q,_,_,rfl,KM.fn j l q p cl cs hj cat,λo e=>?_,.ref p,cs.map V.ref,rfl,⟨p,_,[],rfl,KM.co _ _ _ _ p K,λo e=>?_,rfl⟩,(dl.step t).step (aO.new J)⟩
 ·cases e;exact⟨zk L n,zm L n,z3⟩
 ·cases e;exact⟨f.1,hca,J _ _ Z⟩
theorem P7 (C:Ck D W Γ X k) {pa pl:Pos}(b:l.sb=aE) (g:Γ.lnm="<lambda>") (n:Γ.lam=aA (l.jt,r)) (f:pl∈r) (K:ZG∈Γ.U) (J:Γ.gl ZG=.kap ls) (F:ls[j]?=aA l) (t:frees l.sc=l.fr) (h:l.fr.Nodup) (o:∀x∈l.fr,x∈Γ.fz/\x∈Γ.cel) (p:js Γ.N l.fr=aA fs) :
  PE X (.Lambda ⟨[],[⟨l.y,aE,pa⟩],aE,[],[],aE,[]⟩ l.body l.sc pl) (aW D W (Bv l.jt j fs)):=by
 rintro u s T H Q I ⟨R,w,S,V,z,B,K0,Z0,⟨⟨i,G⟩,Y,c,A⟩,E,k2⟩;obtain⟨e,a⟩:=Ym (pa:=pa) (line:=pl.line) C n f K J F t h o p I z B G c;have M:l.nm="<lambda>":=by unfold bN.nm;rw[b]
 have L:l.fb=.expr l.body:=by unfold bN.fb;rw[b]
 rw[M,L,←e,g] at a;refine Dl rfl (aX a ?_);rintro v Z ⟨q,P,rfl,O,st,m,d⟩;exact⟨.ref q,P,O,rfl,E _ _ A w _ st m _ d⟩
end
section
variable {D:DP}{φ α:List aF}{H:Hp}
structure iz(H:Hp)(c:aF)(x:V):Prop where
 ex:∃(o:bA) (ob:HO) (u:aD),H c=aA (.frz o ob)/\o.data=.cell (aA u)/\RelV x u
noncomputable def O3(D:DP):Prop:=∀c b a,D.clo 200 c b a->∃(x:V) (u:aD) (o:bA) (d:HO),a=[x]/\RelV x u/\Obj.data o=.cell (aA u)/\b=aA (HO.frz o d)
theorem QQ(b:O3 D):∀{ts:List T}{cs:List aF},aN D φ α H (ts.map λt=>.clo 200 [t]) (cs.map V.ref)->∃vs:List V,aN D φ α H ts vs/\vs.length=cs.length/\∀(i:Nat) (c:aF),cs[i]?=aA c->∃x,vs[i]?=aA x/\iz H c x
 |[],[],_=>⟨[],rfl,rfl,λi c e=>by simp at e⟩
 |[],_::_,h=>by cases (show _=[] from h)
 |t::ts,[],h=>by obtain⟨_,_,e,_⟩:=h;cases e
 |t::ts,c::cs,h=>by
  obtain⟨v,r,e,⟨a,A,w,q,j,f,dl⟩,n⟩:=h;cases e;cases q;obtain⟨vs,m,l,k⟩:=QQ b n;obtain⟨x,u,o,g,rfl,r,hd,rfl⟩:=b _ _ _ j;obtain⟨y,z,p,d,B⟩:=dl;cases p;refine⟨x::vs,⟨x,vs,rfl,d,m⟩,by simp[l],λi s e=>?_⟩;cases i with
  |zero=>cases e;exact⟨x,rfl,⟨o,g,u,(f _ rfl).2.2,hd,r⟩⟩
  |succ i=>exact k i s (by simpa using e)
theorem Vg(h:Ug fr cl cs)(e:cl.lookup x=aA c):∃i:Nat,fr[i]?=aA x/\cs[i]?=aA c:=by
 obtain⟨i,a⟩:=i4.mp (h.2.2 x c e);refine⟨i,a,?_⟩;have:=congrArg (λl=>l[i]?) h.1;simp only[eE,a,pM,e] at this;cases q:cs[i]? with
 |none=>rw[q] at this;cases this
 |some b=>rw[q] at this;cases this;rfl
theorem Y1(h:Ug fr cl cs){i:Nat}(e:fr[i]?=aA x):∃c,cl.lookup x=aA c/\cs[i]?=aA c:=by
 have:=congrArg (λl=>l[i]?) h.1;simp only[eE,e,pM] at this;cases q:cs[i]? with
 |none=>rw[q] at this;cases this
 |some a=>rw[q] at this;exact⟨a,by simpa using this,rfl⟩
noncomputable def Xh(Γ:Cn)(l:bN):Bool:=
 (l.sc.kind==.function)&&!l.sc.isCoroutine&&!l.sc.isGenerator&&l.sc.names.all (λp=>p.2 != .cell)&&(frees l.sc==l.fr)&&decide ((l.y::l.fr).Nodup)&&(l.sc.names.lookup l.y==aA .local)&&l.fr.all (λx=>l.sc.names.lookup x==aA .free)&&
 (l.y::l.fr).all (λx=>x != ("__debug__":aG)&&x != ("__classdict__":aG))&&Γ.G.all (λx=>Γ.U.contains x&&l.sc.names.lookup x==aA .globalImplicit)
noncomputable def yJ(Γ:Cn)(l:bN)(G:List aG):Cn:={Γ with N:=l.y::l.fr,G:=G,cel:=l.fr,own:=[],lam:=aE,fz:=l.fr,calm:=aB}
noncomputable def v0 (R:cR)(n:Nat)(Γ:Cn)(l:bN):Prop:=(l.sb=aE/\(aU R n).e Γ l.body=aA l.g)\/∃q ds,l.sb=aA q/\zi ((aU R n).s Γ) q.2=aA ds/\l.g=Md ds
theorem R3{R:cR}{P:cG}{w:dL}{K:bJ}{base:aV}{Γ:Cn}{G:List aG}(HR:bY D R){n k0:Nat}{l:bN}(M:fC D P w K mg base Γ k0)(hsc:Xh (yJ Γ l G) l=aB)(hE:v0 R n (yJ Γ l G) l)
  {A:eN}{s:a9}{a c:aF}{cs:List aF}(hr:bV (k0+1) A) (e0:dB P w K mg base A outer s H) (ho:x_ a c l cl s.heap) (hrec:s.heap.CodeRec (.ref c) l.qn) (L:Ug l.fr cl cs)
  {ts:List T}{vs:List V}(dts:aN D φ α H ts vs) (hvl:vs.length=cs.length) (hcv:∀(i:Nat) (c:aF),cs[i]?=aA c->∃x,vs[i]?=aA x/\iz H c x)
  {u:aD}{x:V}{Q:VK}{t:T}{μ:aK}{Z0:Xp}{E:XK}(r:RelV x u) (d:a_ D φ α H t x) (mr:aM D φ α H μ) (p:l.g (aA t::ts.map aA) μ K0 Z0) (hK0:∀t' U,K0 t' U->∀j C v',aO α H j C->aM D φ j C U->a_ D φ j C t' v'->Q v' C) (hZ0:∀c fs U,Z0 c fs U->∀j C cv d,aO α H j C->aM D φ j C U->iQ D c fs cv->bS D φ j C fs d->E cv d C) :
  f9 (aR P w) A (.call (.ref a) ⟨[u],[]⟩) (CR (cW P w) outer P w H s Q E) s:=by
 obtain⟨pa,pm,ctv,doc,ho⟩:=ho;simp only[Xh,cB,fT,beq_iff_eq,l9,decide_eq_true_eq,bne_iff_ne,ne_eq] at hsc;obtain⟨⟨⟨⟨⟨⟨⟨⟨⟨h1,h2⟩,h3⟩,h4⟩,h5⟩,h6⟩,h7⟩,h8⟩,h9⟩,h10⟩:=hsc;have lim:s.heap.NoLimit:=e0.mod.nolimit.keeps λb o e=>(e0.bs b o e).1;have hfl:l.fr.length=cs.length:=by have:=congrArg ll L.1;simpa using this
 have Z:∀z k,cl.lookup z=aA k->∃(i:Nat) (v:V),l.fr[i]?=aA z/\vs[i]?=aA v/\iz H k v:=λz k e=>by
  obtain⟨i,e1,e2⟩:=Vg L e;obtain⟨v,e3,e4⟩:=hcv i k e2;exact⟨i,v,e1,e3,e4⟩
 let env:Env:=newEnv l.sc s.heap.objs.size bO cl (l.qn++".<locals>.") (aA a) (.ref c) aE lj;let Y:Cx:={prog:=P,w:=w,K:=K,mg:=mg,base:=base,A:=A.deeper env,N:=l.y::l.fr,s₀:=s,H₀:=H,env:=env,outer:=outer,stack:=env::outer,ex:=[],fn:=λ_=>aC,calm:=aB,pn:=[],xe:=λ_ _=>False}
 have go:∀(cd:Env->Code) {R:m9->a9->Prop},(∀hh,Inv Y [] (aA x::vs.map aA) H {s with heap:=hh,toks:=s.toks+[(l.y,u)].length}->f9 (aR P w) A (cd env) R {s with heap:=hh,toks:=s.toks+[(l.y,u)].length})->
   wpAny (aR P w) A.in1 (li (Bp l.nm l.qn ⟨[],[⟨l.y,aE,pa⟩],aE,[],[],aE,[]⟩ l.fb l.sc cl doc pm (.ref c) ctv) ⟨[u],[]⟩) (λbinds s₁=>wpAny (aR P w) A.in1 (newFunctionEnv l.sc bO cl binds (l.qn++".<locals>.") (aA a) (.ref c) aE lj) (λenv s₂=>s₂.heap.NoLimit/\f9 (aR P w) A (cd env) R s₂) (λe s'=>R (.error e) s') s₁) (λe s'=>R (.error e) s') s:=λcd R kk=>by
  refine lp (iq rfl rfl) (Ej h4 (λz f=>?_) (λhh hns hsb=>?_) h1)
  ·rw[bT.mp f];exact h7
  have S:∀b o,s.heap.get? b=aA o->hh.get? b=aA o:=λb o e=>hsb.extBut b o (dP (bZ e)) (bU _ e);refine⟨lim.keeps S,kk hh ?_⟩
  refine⟨⟨e0.mod,h1,rfl,rfl,bE _,λy z k q1 q2=>?_,λy hy=>?_,λy k z=>(by cases z),λ_=>hr.hd,tI e0.frames,.inr ⟨rfl,rfl⟩,λb z=>absurd z (by simp[Y]),e0.bs,e0.bsz,λb _ _=>(by simp[Y]),λb z=>absurd z (by simp[Y]),e0.funs,e0.frf⟩,
   rfl,e0.bare,Un.kept S,⟨_,hns,λi y v q1 q2 q3=>?_⟩,λy k q=>?_,e0.hok.fresh (bE _),λy k q=>?_,λp hp=>absurd hp (by simp[Y]),e0.hok.kept S,by simp[Y,hvl,hfl]⟩
  ·obtain⟨i1,a1,a2⟩:=Vg L q1;obtain⟨i2,b1,b2⟩:=Vg L q2;have:i1=i2:=by
    obtain⟨l1,g1⟩:=bI.mp a2;obtain⟨l2,g2⟩:=bI.mp b2;exact (pF L.2.1).mp (g1.trans g2.symm)
   rw[this,b1] at a1;exact (bP a1).symm
  ·rcases hy with hy|hy
   ·exact absurd rfl (h4 _ (i3 hy))
   ·obtain⟨i,hi⟩:=i4.mp (show y∈l.fr by rw[←h5];exact vP.mpr ⟨_,i3 hy,rfl,rfl⟩);obtain⟨k,e,_⟩:=Y1 L hi;exact⟨k,e⟩
  ·cases i with
   |zero=>
    cases q1;cases q2;exact⟨u,r,.inl ⟨h7,by simp[gS]⟩⟩
   |succ i=>
    have q1:l.fr[i]?=aA y:=q1;obtain⟨k,e1,e2⟩:=Y1 L q1;obtain⟨v',e3,⟨o,ob,u',k1,k2,k3⟩⟩:=hcv i k e2;have q2:(vs.map aA)[i]?=aA (aA v):=q2;rw[eE,e3] at q2;cases q2;exact⟨u',k3,.inr ⟨.inr (h8 y (b9 q1)),k,e1,o,S _ _ (e0.hok k _ k1).1,k2⟩⟩
  ·obtain⟨i,v,_,_,⟨o,ob,u',k1,k2,k3⟩⟩:=Z y k q;exact⟨aA u',o,S _ _ (e0.hok k _ k1).1,k2⟩
  ·obtain⟨i,v,_,_,⟨o,ob,u',k1,k2,k3⟩⟩:=Z y k q;exact .inr ⟨rfl,o,ob,k1⟩
 have F:iR Y env outer s.heap.objs.size:=⟨rfl,rfl,rfl⟩;have hr':bV k0 Y.A:=hr.deeper env;have kd:∀z∈l.y::l.fr,ie l.sc z:=λz f=>(cA.mp f).elim (λq=>.inl (by rw[q];exact h7)) λq=>.inr (.inr (h8 z q));have hyf:l.y∉l.fr:=by have:=h6;rw[lY] at this;exact this.1
 have sto0:mZ (Y.wish (XP Y (eW E))) (yJ Γ l G).sto:=λz f=>by
  obtain⟨z1,z2⟩:=fS.mp f;have e:z=l.y:=(cA.mp z1).resolve_right λq=>by
   have:(!l.fr.contains z)=aB:=z2;rw[hY.mpr q] at this;cases this
  rw[e];exact⟨.inl h7,.inr h7⟩
 have lcl0:∀z∈l.y::l.fr,l.fr.contains z=aC->l.sc.names.lookup z=aA .local:=λz f hc=>by
  have e:z=l.y:=(cA.mp f).resolve_right λq=>by
   rw[hY.mpr q] at hc;cases hc
  rw[e];exact h7
 have C2:Sk D (eW E) (yJ Γ l G) (Y.wish (XP Y (eW E))) k0:={hK:=M.hK,hN:=rfl,nd:=h6,vis:=kd,dbg:=λz f=>⟨beq_eq_false_iff_ne.mpr (h9 z f).1,beq_eq_false_iff_ne.mpr (h9 z f).2⟩,dbG:=λz f=>(M.glo z (hY.mp (h10 z f).1)).2,glb:=λz f=>(h10 z f).2,glo:=λz f=>(M.glo z (hY.mp (h10 z f).1)).1,glU:=M.glo,cel:=λz f=>.inr (h8 z f),isi:=M.isi,fld:=M.fld,xcx:=M.xcx,ocx:=M.ocx,clv:=M.clv,clm:=λ_=>rfl,qt:=(λ_ h e=>absurd (hr'.hd.symm.trans e) (by simp)),rom:=λ_=>hr',rmh:=⟨hr'.dp,hr'.un⟩,xe:=λe s p=>jT p,frm:=⟨_,_,_,F.stk,F.f0,F.fe⟩,lam:=cS.no rfl,kfz:=(λh=>by cases h),sto:=sto0,lcl:=lcl0,pso:=λe s p=>ye F (jO p) e s p,xmt:=M.xmt};have sr:aZ D φ α H (aA t::ts.map aA) (aA x::vs.map aA):=by
  refine⟨by simp[dts.length],λi t' e=>?_⟩;cases i with
  |zero=>cases e;exact⟨x,rfl,d⟩
  |succ i=>
   have e:(ts.map aA)[i]?=aA (aA t'):=e;rw[eE] at e;cases q:ts[i]? with
   |none=>rw[q] at e;cases e
   |some t2=>
    rw[q] at e;cases e;obtain⟨v,hv,dv⟩:=dts.get q;exact⟨v,by show (vs.map aA)[i]?=_;rw[eE,hv];rfl,dv⟩
 have X:∀e s',XP Y (eW E) e s'->wpAny (aR P w) (A.deeper env) (oZ env e) (λ_ O=>CR (cW P w) outer P w H s Q E (.error e) O) (λe' O=>CR (cW P w) outer P w H s Q E (.error e') O) s':=λe s' p=>Jp (M:=aR P w) (F2:=λe' O=>cW Y.prog Y.w Y.outer Y.H₀ Y.s₀ E e' O) F (jO p) rfl p;rcases hE with⟨hs0,hE⟩|⟨q,ds,hs0,hds,hgq⟩
 ·refine Eh hr.depth ho rfl h2 h3 (show l.fb=.expr l.body by unfold bN.fb;rw[hs0]) hrec (go (λenv=>.expr l.body env) λhh I=>?_);have B:=(wq HR n).e C2.toCk hE [] _ _ H Q (I.wish _) ⟨φ,α,_,μ,sr,mr,_,_,p,λa U e j C st m v' dv=>hK0 a U e j C v' st m dv,λc fs U z j C cv dd st m ad xd=>hZ0 c fs U z j C cv dd st m ad xd⟩;refine Eg (dO B (λv s' hs=>?_) X);obtain⟨v',C,J,rv,q'⟩:=hs;exact⟨v',C,J.os,J.bare,J.base,J.hok,rv,q'⟩
 ·rw[hgq] at p;refine tM hr.depth ho rfl h2 h3 (show l.fb=.stmts q.2 by unfold bN.fb;rw[hs0]) hrec (go (λenv=>.func q.2 env) λhh I=>?_);have B:=wI (qO (wq HR n) C2 hds) [] _ _ H {nx:=λ_ C=>Q .non C,rt:=Q} (I.wish _) ⟨φ,α,_,μ,sr,mr,_,p,λ_ μ1 z j C σ' st m _=>hK0 _ _ z j C .non st m rfl,λ_ _ z=>z.elim,λ_ _ z=>z.elim,λt μ1 z j C v st m dv=>hK0 _ _ z j C v st m dv,λc fs _ μ1 z j C σ' cv dd st m _ ad xd=>hZ0 c fs μ1 z j C cv dd st m ad xd⟩;refine sO (dO B (λfl s' hs=>?_) X);cases fl with
  |ret u=>obtain⟨v',σ',C,J,rv,q'⟩:=hs;exact⟨v',C,J.os,J.bare,J.base,J.hok,rv,q'⟩
  |next=>obtain⟨σ',C,J,q'⟩:=hs;exact⟨.non,C,J.os,J.bare,J.base,J.hok,rfl,q'⟩
  |brk=>obtain⟨_,_,_,q'⟩:=hs;exact q'.elim
  |cont=>obtain⟨_,_,_,q'⟩:=hs;exact q'.elim
end
section
variable {X:Cx}{D:DP}{W:XW}{Γ:Cn}{k:Nat}{pins:List (aF×bA)}{s:Shared}{σ:St}{H:Hp}{φ α:List aF}{τ:Sl}{μ:aK}{f:De}{a c:aI}{pos:Pos}
theorem NK(C:Ck D W Γ X k)(hU:ZG∈Γ.U)(hg:Γ.gl ZG=.kap ls)(hn:(m,n)∈Γ.fld)(hc:Γ.calm=aB)(hp:qg o=aB)(M:(E.endLine==pos.line)=aB)(L:aT a=aB)(ho:PE X o (aW D W go))(ha:PE X a (aW D W f)) :
  PE X (.Call (.Attribute o m E) [a] [] pos) (aW D W (AU (ls.map λl=>(l.jt,l.g)) n go f)):=by
 have gq:=(C.glU _ hU).1;rw[hg] at gq;rintro J s Y H Q I ⟨F,α,τ,μ,sr,mr,p⟩;rw[sH,qE hp];refine wpAny_bind (aX (sub ho I sr mr p) ?_);rintro u s1 ⟨v,S,t,μ1,i,I1,r1,st1,sr1,mr1,d1,p1⟩;refine wpAny_bind (hX ?_);have N:methodCallForm ([a].length+([]:List iC).length) (fJ pos (d7 [a] X.env)) (lg pos (lq [] X.env))=aB:=UX (by simp[L]) (by show (1:Nat)<30;decide);have hpos:mI aB o X.env E pos=pure pos:=by unfold mI;simp[M]
 have run:∀{O C0 dx:aF}{gs:List (aG×V)}{z:V}{t0:T},S O=aA (.ins C0 dx gs)->gL X.K C0->cL X.K C0 m->gs.lookup m=aA z->u=.ref O->a_ D F i S t0 z->aJ D W F i S Y (RV D F Q) (λK Z=>∃p:Nat×(Nat×De)×List T,((ls.map λl=>(l.jt,l.g))[p.1]?=aA p.2.1/\t0=YL p.1 p.2.1.1 p.2.2)/\((f τ μ1).bind λx μ3=>p.2.1.2 (aA x::p.2.2.map aA) μ3) K Z)->
   wpAny (aR X.prog X.w) X.A (ny o m E pos X.env u ([a].length+([]:List iC).length) (fJ pos (d7 [a] X.env)) (lg pos (lq [] X.env))) (EP X J Y Q) X.xe s1:=λ{O C0 dx gs z t0} e1 cl na lk hu dz p=>by
  subst hu;obtain⟨⟨j,⟨jt,gg⟩,ts⟩,⟨hj,rfl⟩,p2⟩:=p.ex1;rw[eE] at hj;obtain⟨l,hl,e⟩:=pT.mp hj;cases e;obtain⟨fa,kk,rfl,hkk,hF⟩:=gq.1 j l ts F i S z hl dz;unfold ny;rw[N];refine wpAny_bind (wpAny_holding (Jm I1 e1 cl na lk λu' s1' I1' r'=>?_));cases (show u'=cN fa from r');refine wpAny_bind (lp hpos ?_);refine PySem.W.callWith_F (first:=[]) (hF X.A X.stack s1' I1'.env0).1 (aX (zM ha qU (z6 L) pos J s1' Y S (λvs R=>∃v t G b,vs=[v]/\aO i S b R/\aM D F b R G/\a_ D F b R t v/\aJ D W F b R Y (RV D F Q) (l.g (aA t::ts.map aA) G)) I1' ⟨F,i,τ,μ1,sr1,mr1,p2.bind.mono λt h B P st m q v d=>⟨v,t,h,B,rfl,st,m,d,q⟩⟩) ?_) (z6 L) rfl;rintro us s2 ⟨vs,R,I2,rv,v2,t2,G,b,rfl,st2,m2,d2,K0,Z0,q6,k1,k2⟩;obtain⟨ux,rfl,rx⟩:=vals1 rv;obtain⟨fa',kk',e',hkk',hF'⟩:=gq.1 j l ts F b R _ hl (dz.step st2);cases e';have hE:=hF' X.A X.stack s2 I2.env0;refine⟨hE.1,hW (iK (hE.2 ((C.rom hc).mono hkk') ux v2 Q t2 G K0 Z0 (λcv d P=>W cv d Y P) rx d2 m2 q6 (λt' h z B P v' st m dv=>k1 t' h z B P st m v' dv) (λc fs h z B P cv d st m ad xd=>k2 c fs h z B P cv d st m ad xd)) λr s' hq=>?_)⟩;cases r with
  |error e=>exact C.xe _ _ (uq I2 hq λcls d P q=>q)
  |ok fl=>
   cases fl with
   |ret u=>exact I2.after hq
   |next=>exact dI hq
   |brk=>exact dI hq
   |cont=>exact dI hq
 unfold Za at p1;split at p1
 ·split at p1
  ·rename_i c fs _ w hw;obtain⟨ad,C0,dx,gs,rfl,_,_,e1,e2,l⟩:=d1;obtain⟨y,z,hy,hz,dz⟩:=l.look hw;obtain⟨c0,c1,c2⟩:=C.fld c C0 m n e1 hn;rw[hy] at c0;cases c0;exact run e2 c1 c2 hz r1 dz p1
  ·exact aJ.elim p1
 ·obtain⟨c,fs,w,hi,hw,q⟩:=aJ.ex3 p1;obtain⟨ad,hi',rfl⟩:=d1;obtain⟨C0,dx,gs,e1,e2,l⟩:=mr1.ob _ ad _ hi' hi;obtain⟨y,z,hy,hz,dz⟩:=l.look hw;obtain⟨c0,c1,c2⟩:=C.fld c C0 m n e1 hn;rw[hy] at c0;cases c0;exact run e2 c1 c2 hz r1 dz q
 ·exact aJ.elim p1
end
noncomputable def Bg (ls:List bN)(tbs:List (aF×List Pos×aG)):Nat->aF->Option HO->List V->Prop:=λn a d b=>
 (∃(j:Nat) (l:bN) (c:aF) (cl:List (aG×aF)) (cs:List aF),ls[j]?=aA l/\n=300+j/\Ug l.fr cl cs/\b=.ref c::cs.map V.ref/\d=aA (.ext (x_ a c l cl)))\/
 (n=200/\∃(x:V) (u:aD) (o:bA) (e:HO),b=[x]/\RelV x u/\o.data=.cell (aA u)/\d=aA (.frz o e))\/
 ∃(j:Nat) (q:aF×List Pos×aG),tbs[j]?=aA q/\j<100/\n=100+j/\b=[]/\d=aA (.ext (wa a q.2.2))
section
variable {P:Program}{w:World}{K:PySem.W.Frag}{mg:aG->Option aD}{base:aV}{n k0:Nat}
theorem OJ{x:aG}{Γ:Cn}{G:bN->List aG}(HR:∀{D:DP},bY D R)(hb:tbs.length<=100)(I:∀l∈ls,(tbs[l.jt]?).map (·.2.2)=aA l.qn)
  (M:fC (md K A0 (Bg ls tbs) λj=>tbs[j]?) P w K mg base Γ k0) (h:∀l∈ls,Xh (yJ Γ l (G l)) l=aB/\v0 R n (yJ Γ l (G l)) l):cE (md K A0 (Bg ls tbs) λj=>tbs[j]?) P w K mg base (k0+1) x (.kap ls):=by
 have Y:∀{j:Nat}{l:bN},ls[j]?=aA l->∃X b,tbs[l.jt]?=aA (X,b,l.qn):=λ{j l} e=>by
  obtain⟨⟨p1,p2,p3⟩,q1,y⟩:=pT.mp (I l (b9 e));cases y;exact⟨p1,p2,q1⟩
 have lt:∀{j:Nat}{q:aF×List Pos×aG},tbs[j]?=aA q->j<100:=λe=>cY (bI.mp e).1 hb;refine⟨λj l ts φ α H v L d=>?_,⟨λj l e=>Y e,λj l a c cl cs e h=>.inl ⟨j,l,c,cl,cs,e,rfl,h,rfl,rfl⟩,λc o u x F h1 V=>.inr (.inl ⟨rfl,x,u,o,F,rfl,V,h1,rfl⟩),λj X b qn c e=>.inr (.inr ⟨j,_,e,lt e,rfl,rfl,rfl⟩)⟩⟩;obtain⟨a,F,xs,rfl,S,J,v,q,hv,⟨c,C,xs2,k,O,i,_⟩,dl⟩:=d;rcases S with⟨j',l',c',cl,cs,e1,e2,W,e3,rfl⟩|⟨z,_⟩|⟨j',q',_,hj',z,_⟩
 ·have:j=j':=by lia
  subst this;rw[L] at e1;cases e1;rw[hv] at e3;injection e3 with e4 e5;rw[e4] at k;cases k;subst e5;have f:C=aA (.ext (wa c l.qn)):=by
   obtain⟨X,Z,hq⟩:=Y L;have:=lt hq;rcases O with⟨m,_,_,_,_,_,z,_⟩|⟨z,_⟩|⟨m,y,g,_,z,_,e⟩
   ·lia
   ·lia
   ·have:l.jt=m:=by lia
    subst this;rw[hq] at g;cases g;exact e
  subst f;refine⟨a,k0+1,rfl,bE _,λA B s e0=>?_⟩;have ha:=(J _ rfl).2.2;have N:=(i _ rfl).2.2;obtain⟨np,_⟩:=(show a6 P w H s.heap a (.ext (x_ a c l cl)) from e0.hok a _ ha);obtain⟨cr,_⟩:=(show a6 P w H s.heap c (.ext (wa c l.qn)) from e0.hok c _ N);refine⟨?_,λhr u x Q t μ K0 Z0 E r dx mr p U T=>?_⟩
  ·obtain⟨_,_,_,_,V⟩:=np;exact⟨_,_,_,_,V⟩
  ·obtain⟨vs,h3,h4,h5⟩:=QQ (λc F xs S=>by
    rcases S with⟨m,_,_,_,_,_,z,_⟩|⟨_,z⟩|⟨m,y,_,z2,z,_⟩
    ·lia
    ·exact z
    ·lia) dl
   obtain⟨g1,g2⟩:=h l (b9 L);exact R3 HR M g1 g2 hr e0 np cr W h3 h4 h5 r dx mr p U T
 ·lia
 ·lia
end
noncomputable def rQ (e:aI):Option (aG×Pos×aG×Pos×aG×Pos×Pos):=(xV e).bind λq=>(YW q.o).bind λo=>(xZ q.as).bind λa=>(YW a).bind λy=>aA (o.1,o.2,q.m,q.pa,y.1,y.2,q.pc)
theorem Hl(h:rQ e=aA w):e=.Call (.Attribute (.Name w.1 w.2.1) w.2.2.1 w.2.2.2.1) [.Name w.2.2.2.2.1 w.2.2.2.2.2.1] [] w.2.2.2.2.2.2:=by
 obtain⟨q,f,h⟩:=aP h;obtain⟨o,d,h⟩:=aP h;obtain⟨a,c,h⟩:=aP h;obtain⟨y,b,h⟩:=aP h;cases h;rw[v7 f,uE d,w8 c,uE b]
noncomputable def HQ (a b:aI):Bool:=(rQ a).isSome&&(rQ a==rQ b)
theorem MU(h:HQ a b=aB):a=b:=by
 obtain⟨d,c⟩:=zF h;obtain⟨w,hw⟩:=rf.mp d;have c:=beq_iff_eq.mp c;rw[Hl hw,Hl (c.symm.trans hw)]
noncomputable def Xw(y:aG)(body:aI)(sc:Scope):List bN->Nat->Option (Nat×bN)
 |[],_=>aE
 |l::r,i=>match l.sb.isNone&&l.y==y&&l.sc==sc&&HQ l.body body with
  |true=>aA (i,l)
  |false=>Xw y body sc r (i+1)
theorem VM{body:aI}:∀{ls:List bN}{i j:Nat},Xw y body sc ls i=aA (j,l)->i<=j/\ls[j-i]?=aA l/\l.y=y/\l.sc=sc/\l.body=body/\l.sb=aE
 |[],_,_,h=>by cases h
 |l'::r,i,j,h=>by
  unfold Xw at h;split at h
  ·rename_i q;cases h;simp only[cB,beq_iff_eq] at q;exact⟨bE _,by simp,q.1.1.2,q.1.2,MU q.2,by simpa using q.1.1.1⟩
  ·obtain⟨c,b,a⟩:=VM h;refine⟨by lia,?_,a⟩;rw[show j-i=(j-(i+1))+1 by lia,tV];exact b
noncomputable def v6:GM->Option (List bN)
 |.kap a=>aA a
 |_=>aE
theorem X_(h:v6 g=aA ls):g=.kap ls:=by
 cases g<;>first|(cases h;rfl)|cases h
noncomputable def Bz:ER:=λr a e=>(rH e).bind λq=>(v6 (a.gl ZG)).bind λb=>(Xw q.1 q.2.1 q.2.2.1 b 0).bind λz=>a.lam.bind λp=>(js a.N z.2.fr).bind λfs=>
 gd (a.lnm==("<lambda>":aG)&&a.U.contains ZG&&p.1==z.2.jt&&decide (q.2.2.2∈p.2)&&frees z.2.sc==z.2.fr&&decide (z.2.fr.Nodup)&&z.2.fr.all (λx=>a.fz.contains x&&a.cel.contains x)) (aA (Bv z.2.jt z.1 fs))
theorem SK:cM D Bz:=by
 intro r H X W B k e d C h;unfold Bz at h;obtain⟨q,m,h⟩:=aP h;obtain⟨F,i,h⟩:=aP h;obtain⟨⟨j,l⟩,g,h⟩:=aP h;obtain⟨⟨G,a⟩,f,h⟩:=aP h;obtain⟨fs,c,h⟩:=aP h;obtain⟨b,h⟩:=zc h;cases h;simp only[cB,beq_iff_eq,decide_eq_true_eq,fT,hY] at b;obtain⟨⟨⟨⟨⟨⟨A,z⟩,y⟩,x⟩,w⟩,v⟩,u⟩:=b;obtain⟨E,rfl⟩:=X5 m;obtain⟨_,t,s,p,o,n⟩:=VM g;subst y;rw[←s,←p,←o];exact P7 C n A f x z (X_ i) (by simpa using t) w v u c
noncomputable def Ff:ER:=λr b e=>(xV e).bind λq=>(xZ q.as).bind λa=>(v6 (b.gl ZG)).bind λc=>gd (qg q.o&&q.pa.endLine==q.pc.line) (gd (b.calm&&aT a) (gd (b.U.contains ZG&&q.m==("keeper":aG)) ((r.e b q.o).bind λgo=>(r.e b a).bind λf=>(b.fld.lookup q.m).bind λn=>aA (AU (c.map λl=>(l.jt,l.g)) n go f))))
theorem PB:cM D Ff:=by
 intro r H X W s k e d C h;obtain⟨q,l,h⟩:=aP h;obtain⟨a,g,h⟩:=aP h;obtain⟨t,j,h⟩:=aP h;obtain⟨c,h⟩:=zc h;obtain⟨b,h⟩:=zc h;obtain⟨i,h⟩:=zc h;obtain⟨go,p,h⟩:=aP h;obtain⟨f,o,h⟩:=aP h;obtain⟨n,m,h⟩:=aP h;cases h;rw[v7 l,w8 g];exact NK C (by simpa using (zF i).1) (X_ j) (ZU m) (zF b).1 (zF c).1 (zF c).2 (zF b).2 (H.e C p) (H.e C o)
end NH
namespace NH
open PySem PySem.Spec PyProof.Rows L2 PySem.W
noncomputable def qH (K:Frag)(x:aG)(st:bC):Prop:=∃f fd,nsIn K bO x=aA (aA (.ref f))/\mu K x x st f fd
noncomputable def vk (K:Frag)(C:aF)(x q:aG)(st:bC):Prop:=∃f fd,cO K (.ref C) x=aA (aA (.ref f))/\isFn K (.ref f)=aB/\mu K x q st f fd
noncomputable def V7 (K:Frag)(C:aF)(x q:aG)(st:bC):Prop:=∃f fd,nsIn K bO x=aA (aA (.ref C))/\cO K (.ref C) "__init__"=aA (aA (.ref f))/\isFn K (.ref f)=aB/\mu K "__init__" q st f fd/\nc K C=aB/\eJ K (.ref C)=aB
theorem dfp{K:Frag}{x:aG}{st:bC}{f:aF}{g:aD}{od an:Option aF}{d:Array (Option aD)}{kV doc e b ct:aD}(a:nsIn K bO x=aA (aA (.ref f)))(l:K.lookup f=aA ⟨g,od,.func (fnOf x x (zw st) (z0 st) (zj st) .none kV doc e an b ct),d⟩)(c:eT K b x=aB)(k:eJ K (.ref f)=aB):qH K x st:=⟨f,_,a,jD l c k⟩
theorem mtp{K:Frag}{x q:aG}{st:bC}{f C:aF}{g:aD}{od an:Option aF}{d:Array (Option aD)}{kV doc e b ct:aD}(a:cO K (.ref C) x=aA (aA (.ref f)))(j:isFn K (.ref f)=aB)(l:K.lookup f=aA ⟨g,od,.func (fnOf x q (zw st) (z0 st) (zj st) .none kV doc e an b ct),d⟩)(c:eT K b q=aB)(k:eJ K (.ref f)=aB):vk K C x q st:=⟨f,_,a,j,jD l c k⟩
theorem clp {K:Frag}{x q:aG}{st:bC}{f C:aF}{g:aD}{od an:Option aF}{d:Array (Option aD)}{kV doc e b ct:aD}(a:nsIn K bO x=aA (aA (.ref C))) (i:cO K (.ref C) "__init__"=aA (aA (.ref f))) (j:isFn K (.ref f)=aB) (l:K.lookup f=aA ⟨g,od,.func (fnOf "__init__" q (zw st) (z0 st) (zj st) .none kV doc e an b ct),d⟩) (c:eT K b q=aB) (k:eJ K (.ref f)=aB) (m:nc K C=aB) (kk:eJ K (.ref C)=aB):V7 K C x q st:=⟨f,_,a,i,j,jD l c k,m,kk⟩
noncomputable def PL:Nat->(List aD->Prop)->Prop
 |0,P=>P []
 |n+1,P=>∀a,PL n λl=>P (a::l)
theorem PL.all:∀{n:Nat}{P:List aD->Prop},PL n P->∀us:List aD,us.length=n->P us
 |0,_,h,[],_=>h
 |_+1,_,h,a::l,e=>PL.all (h a) l (pu e)
noncomputable abbrev vp(st:bC):List aG:=(zw st).args.map (·.arg)
abbrev sf(x q:aG)(st:bC)(ps:List aG):Prop:=∀(kV a d:aD) (an:Option aF) (b ct:aD),PL ps.length λc=>li (fnOf x q (zw st) (z0 st) (zj st) .none kV a d an b ct) ⟨c,[]⟩=pure (ps.zip c)
abbrev TN(l:my)(w:dL)(K:Frag)(mg:aG->Option aD)(base:aV)(k:Nat)(gs:List (aG×GM)){A:iA}{clo:Nat->aF->Option HO->List V->Prop}{tabs:Nat->Option (aF×List Pos×aG)}:Prop:=bB l.prog w K mg base A clo k gs tabs
structure Pk(R:cR)(K:Frag)(mg:aG->Option aD)(base:aV)(A:iA)(cls fld:List (aG×Nat)):Prop where
 r:∀{D},bY D R
 i:K.In base
 n:base.Ns bO mg
 c:mY K A cls fld=aB
section
variable {R:cR}{P:Program}{w:World}{K:Frag}{mg:aG->Option aD}{base:aV}{A:iA}{cls fld:List (aG×Nat)}{clo:Nat->aF->Option HO->List V->Prop}{gs:List (aG×GM)}{tabs:Nat->Option (aF×List Pos×aG)}{k:Nat}{x qu:aG}{st:bC}{f C:aF}{fd:FuncData}{ps N G cel own:List aG}{m n:Nat}{ds:List Ds}
theorem Pk.ok(Z:Pk R K mg base A cls fld)(F:mu K x qu st f fd)(q:bB P w K mg base A clo k gs tabs)(a:zi ((aU R n).s (cn cls fld gs N G cel own aE)) (z0 st)=aA ds)(hs:jH (cn cls fld gs N G cel own aE) ps (zj st)=aB)(e:N.length=ps.length+m) :
  bL P w K mg base (cW P w) (k+1) f fd ps (dW (md K A clo tabs) ps.length (bH ps.length m ds)):=by
 obtain⟨j,od,kV,doc,h,an,g,ct,d,rfl,lk,b⟩:=F.ex;exact j6 Z.r (kl Z.i Z.n Z.c q) lk b hs e a
theorem Pk.fn (Z:Pk R K mg base A cls fld) (p:qH K x st) (q:bB P w K mg base A clo k gs tabs) (b:zi ((aU R n).s (cn cls fld gs N G cel own aE)) (z0 st)=aA ds) (hs:jH (cn cls fld gs N G cel own aE) (vp st) (zj st)=aB) (d:N.length=(vp st).length+m) (e:sf x x st (vp st)) (hx:(x==("__debug__":aG))=aC) :
  bB P w K mg base A clo (k+1) ((x,GM.fn (bH (vp st).length m ds))::gs) tabs:=by
 obtain⟨f,fd,a,F⟩:=p;exact bB.add (q.mono (mE k)) ⟨f,dG Z.i Z.n a,fd,(vp st),k+1,F.kp,F.binds λkV dc c an cd ct=>(e kV dc c an cd ct).all,bE _,Z.ok F q b hs d,qC⟩ hx
theorem Pk.fnh (Z:Pk R K mg base A cls fld) (p:qH K nm st) (q:bB P w K mg base A clo k gs tabs) (h:bB P w K mg base A clo (k+1) ((nm,GM.fn (bH (vp st).length m g))::gs) tabs) (b:zi ((aU R n).s (cn cls fld gs N G cel own aE).han) (z0 st)=aA ds) (hs:jH (cn cls fld gs N G cel own aE) (vp st) (zj st)=aB) (l:N.length=(vp st).length+m) (o:sf nm nm st (vp st)) (hx:(Vp nm==("__debug__":aG))=aC) :
  bB P w K mg base A clo (k+1) ((Vp nm,GM.fnh nm (bH (vp st).length m ds))::(nm,GM.fn (bH (vp st).length m g))::gs) tabs:=by
 obtain⟨f,fd,a,F⟩:=p;have u:=F;obtain⟨v,od,kV,doc,e,an,t,ct,j,rfl,lk,d⟩:=F.ex;exact bB.add h ⟨f,dG Z.i Z.n a,_,(vp st),k+1,F.kp,u.binds λkV dc e an cd ct=>(o kV dc e an cd ct).all,bE _,R1 Z.r (kl Z.i Z.n Z.c q) lk d hs l b,qC⟩ hx
theorem Pk.met {c:Nat}{ky:aG}(Z:Pk R K mg base A cls fld) (p:vk K C x qu st) (q:bB P w K mg base A clo k gs tabs) (a:zi ((aU R n).s (cn cls fld gs N G cel own aE)) (z0 st)=aA ds) (b:A.cs.lookup c=aA C) (e:(gZ.contains x)=aC) (hs:jH (cn cls fld gs N G cel own aE) (vp st) (zj st)=aB) (g:N.length=(vp st).length+m) (l:sf x qu st (vp st)) (hx:(ky==("__debug__":aG))=aC) :
  bB P w K mg base A clo (k+1) ((ky,GM.met c x (bH (vp st).length m ds))::gs) tabs:=by
 obtain⟨f,fd,i,j,F⟩:=p;refine bB.add (q.mono (mE k)) ⟨C,f,fd,(vp st),k+1,b,jC Z.c b,⟨i,j,F.kp⟩,λi h=>?_,F.binds λkV dc d an cd ct=>(l kV dc d an cd ct).all,bE _,Z.ok F q a hs g,qC⟩ hx;have:=hY.mpr (b9 (show gZ[i]?=aA x from h));rw[e] at this;cases this
theorem Pk.cl {c:Nat}{b:Bool}(Z:Pk R K mg base A cls fld) (p:V7 K C x qu st) (q:bB P w K mg base A clo k gs tabs) (d:zi ((aU R n).s (cn cls fld gs N G cel own aE)) (z0 st)=aA ds) (h:A.cs.lookup c=aA C) (hs:jH (cn cls fld gs N G cel own aE) (vp st) (zj st)=aB) (g:N.length=(vp st).length+m) (l:sf "__init__" qu st (vp st)) (hx:(x==("__debug__":aG))=aC) :
  bB P w K mg base A clo (k+2) ((x,GM.mk c b (bH (vp st).length m ds))::gs) tabs:=by
 obtain⟨f,fd,a,i,j,F,mk,kk⟩:=p;exact bB.add (q.mono (Dk k 2)) ⟨C,f,fd,(vp st),k+1,h,dG Z.i Z.n a,⟨mk,i,j,kk⟩,F.binds λkV dc e an cd ct=>(l kV dc e an cd ct).all,bE _,Z.ok F q d hs g,qC⟩ hx
end
end NH
namespace NH
open PySem PySem.Spec PyProof.Rows L2
noncomputable def sIx(l:List bC)(i:Nat):bC:=l.getD i (.Pass ⟨0,0,0,0⟩)
noncomputable def Ly:bC->aI
 |.Assign _ e _=>e
 |.Return (aA e) _=>e
 |.Expr e _=>e
 |_=>.Name "" ⟨0,0,0,0⟩
noncomputable def Lh(e:aI)(i:Nat):aI:=match e with
 |.Call _ a _ _=>a.getD i e
 |_=>e
noncomputable def Lb:aI->aI
 |.Lambda _ b _ _=>b
 |e=>e
noncomputable def Le:aI->Scope
 |.Lambda _ _ s _=>s
 |_=>⟨.function,[],aC,aC,[]⟩
noncomputable def g_{β:Type}(P:β->Prop):List β->Prop
 |[]=>True
 |a::r=>P a/\g_ P r
theorem g_.mem{P:β->Prop}:∀{ls:List β},g_ P ls->∀l∈ls,P l
 |[],_,_,h=>absurd h (by simp)
 |a::r,q,l,h=>(cA.mp h).elim (λe=>e▸q.1) λh=>g_.mem q.2 l h
theorem L3{P:cG}{K:bJ}{F:List aG}(M:fC D P w K mg base Γ k):fC D P w K mg base {Γ with fz:=F} k:=⟨M.hK,M.glo,M.isi,M.fld,M.xcx,M.ocx,M.clv,M.xmt⟩
theorem Ox{R:cR}{D:DP}{P:cG}{w:dL}{K:bJ}{mg:aG->Option aD}{base:aV}{Γ:Cn}{n k:Nat}(o:bY D R){f:aF}{name qual:aG}{params:Arguments}{body:List bC}{scope:Scope}{i kV doc h a ct j:aD}{an od:Option aF}{c:Array (Option aD)}{ps:List aG}{m cut:Nat}{ds:List Ds}
  (M:fC D P w K mg base Γ k) (lk:K.lookup f=aA ⟨j,od,.func (fM name qual params body scope i kV doc h an a ct),c⟩) (g:eT K a qual=aB) (hs:jH Γ ps scope=aB) (l:Γ.N.length=ps.length+m) (e:zi ((aU R n).s {Γ with fz:=[]}) (body.take cut)=aA (ds.take cut)) (d:zi ((aU R n).s Γ) (body.drop cut)=aA (ds.drop cut)) (b:cS D mg base a (qual++".<locals>.") k Γ.lam Γ.lnm) :
  bL P w K mg base (cW P w) (k+1) f (fM name qual params body scope i kV doc h an a ct) ps (dW D ps.length (bH ps.length m ds)):=by
 have:=VF o M lk g hs l (Ez cut body).symm e d b;rwa[Ez] at this
noncomputable abbrev T8(x y:T)(μ:aK):RE T:=match x with
 |.str x=>(match y with
  |.int n=>.grd (x.length=1/\1<n/\n<=1000) (.ok (.str (Txt.mul x n)) μ)
  |_=>.st)
 |_=>.st
noncomputable def ZL(x:aG):List (aG×Int)->T
 |[]=>.non
 |p::r=>if p.1=x then .int p.2 else ZL x r
noncomputable abbrev Mi(a:List (aG×Int))(t:T)(μ:aK):RE T:=match t with
 |.str x=>.ok (ZL x a) μ
 |_=>.st
noncomputable abbrev Bx(a:List (aG×Int))(f:De):De:=λb c=>(f b c).bind (Mi a)
noncomputable abbrev Mp(o f g:De):De:=λa h=>(o a h).bind λi d=>match i with
 |.dic e=>(f a d).bind λj c=>(g a c).bind λdt b=>match j with
  |.str z=>.ok ((zL (.inr z) e).getD dt) b
  |_=>.st
 |_=>.st
section
variable {X:Cx}{D:DP}{W:XW}{Γ:Cn}{k:Nat}{pins:List (aF×bA)}{s:Shared}{σ:St}{H:Hp}{φ α:List aF}{τ:Sl}{μ:aK}{f g:De}{a b:aI}
theorem SJ:∀{a:List (aG×Int)},(yC (a.map λp=>((.inr p.1:Key),V.int p.2)) (.inr x)).getD .non=(match ZL x a with|.int i=>V.int i|_=>V.non):=by
 intro a;induction a with
 |nil=>rfl
 |cons p r b=>
  unfold ZL;by_cases e:p.1=x
  ·rw[if_pos e,dU,xQ (p:=((.inr p.1:Key),V.int p.2)) (by rw[e])];rfl
  ·rw[if_neg e,dU,xX (p:=((.inr p.1:Key),V.int p.2)) (λz=>e (lU z))];exact b
theorem Wa:∀{a:List (aG×Int)},a_ D φ α H (ZL x a) (match ZL x a with|.int i=>V.int i|_=>V.non)
 |[]=>rfl
 |p::r=>by
  unfold ZL;by_cases e:p.1=x
  ·rw[if_pos e];rfl
  ·rw[if_neg e];exact Wa
theorem Pt(C:Ck D W Γ X k)(hx:x∈Γ.G)(R:Γ.gl x=.tbl j)(hs:aT a=aB)(c:(pa.endLine==pc.line)=aB)(S:PE X a (aW D W f)) :
  PE X (.Call (.Attribute (.Name x p0) "get" pa) [a] [] pc) (aW D W (Bx j f)):=by
 have r:d7 [a] X.env=[(aC,eval a X.env)]:=z6 hs;have m:M1 X (.Name x p0) "get" pa a pc:=⟨qE rfl,by rw[r];rfl,c,by rw[r];rfl⟩;have q:=C.glo x hx;rw[R] at q;obtain⟨ad,vs,P,T,O,u⟩:=q;rintro n s σ H Q I ⟨Z,α,τ,μ,K,N,p⟩;refine wpAny_Call_method m.base m.few m.line Er Ey PySem.F.type_dict_get (wH I (C.glb x hx) P ?_ (C.dbG x hx));have dd:=u _ I.kIn;refine⟨dd.typeIs,λb e=>?_,?_⟩
 ·cases e;obtain⟨M,_,_,V,U,_⟩:=dd;exact⟨M,V,U.2.1⟩
 ·rw[m.trees];refine tN rfl (rc (DM (aX (sub S I K N p) ?_)));rintro iv s2 ⟨v,Y,t,A,B,y,L,E,J,h,i,o⟩;refine D4 ?_;cases t with
  |str z=>
   have i:v=.str z:=i;subst i;have g:=u _ y.kIn;refine call_meetsIn Ey g.typeIs PySem.F.entry_dict_get (PySem.F.args_dict_get_2 _ _) (meets_dict_get (zN X.prog X.w) ad (VZ (k:=.inr z) L) T) ⟨_,g.mapOf,?_⟩;have l:=(KV.val O (.inr z)).getD (d:=.non) (d':=.none) rfl;rw[SJ] at l;exact⟨_,Y,y.tok _,l,aJ.here o h Wa⟩
  |_=>exact aJ.elim o
noncomputable def FQ:GM->Option (List (aG×Int))
 |.tbl a=>aA a
 |_=>aE
theorem RL{g:GM}(h:FQ g=aA q):g=.tbl q:=by cases g<;>first|(cases h;rfl)|cases h
noncomputable def Gw:ER:=λr Γ e=>(xV e).bind λq=>(YW q.o).bind λx=>(xZ q.as).bind λa=>gd (q.m==("get":aG)) (gd ((cD Γ.N x.1).isNone&&aT a) (gd (q.pa.endLine==q.pc.line) ((r.e Γ a).bind λf=>(FQ (Γ.look x.1)).bind λb=>aA (Bx b f))))
theorem SW:cM D Gw:=by
 intro r H X W t k e d C h;obtain⟨q,s,h⟩:=aP h;obtain⟨x,p,h⟩:=aP h;obtain⟨a,o,h⟩:=aP h;obtain⟨n,h⟩:=zc h;obtain⟨m,h⟩:=zc h;obtain⟨l,h⟩:=zc h;obtain⟨f,j,h⟩:=aP h;obtain⟨b,g,h⟩:=aP h;cases h;rw[v7 s,uE p,w8 o,wC n];obtain⟨c,i⟩:=j5 (RL g) (by intro z;cases z);exact Pt C c i (zF m).2 l (H.e C j)
end
noncomputable def T9:ER:=λr b e=>match e with
 |.Call (.Attribute (.Dict i d p) m k) [a,c] [] j=>gd (m==("get":aG)&&aT a&&aT c) ((r.e b (.Dict i d p)).bind λf=>(r.e b a).bind λg=>(r.e b c).bind λh=>aA (Mp f g h))
 |_=>aE
noncomputable def Bl (w:dL):List o3->List (aG×Int)->Prop
 |[],[]=>True
 |e::r,p::q=>(∃t u,e=⟨iV w p.1,.str p.1 t,.int p.2 u⟩)/\Bl w r q
 |_,_=>False
theorem X7{P:cG}:∀{es:List o3}{a:List (aG×Int)},Bl w es a->∃vs,KV (a.map λp=>((.inr p.1:Key),V.int p.2)) vs/\Pairs (zN P w) es vs/\vs.map (·.1)=a.map (λp=>(.inr p.1:Key))/\∀e∈es,∃k,(zN P w).is k e.key=aB/\e.hash=(zN P w).hash k
 |[],[],_=>⟨[],.nil,.nil,rfl,by simp⟩
 |e::r,p::q,h=>by
  obtain⟨⟨t,u,rfl⟩,h⟩:=h;obtain⟨vs,i,g,f,d⟩:=X7 (P:=P) h;have c:(zN P w).is (.inr p.1) (.str p.1 t)=aB:=QG p.1 t;refine⟨(.inr p.1,.int p.2 u)::vs,.cons ⟨rfl,u,rfl⟩ i,.cons c rfl g,by rw[dU,dU,f],λe b=>?_⟩;rcases cA.mp b with rfl|b
  ·exact⟨_,c,rfl⟩
  ·exact d e b
 |[],_::_,h=>h.elim
 |_::_,[],h=>h.elim
theorem MP{P:cG}{K:bJ}(g:mg x=aA (.ref a))(hs:(a==gT)=aC)
  (lk:K.lookup a=aA {cls:=.type "dict",data:=.dict es ep}) (f:Bl w es.toList d) (nd:(d.map (·.1)).Nodup):cE D P w K mg base k x (.tbl d):=by
 obtain⟨c,o,m,l,j⟩:=X7 (P:=P) f;refine⟨a,c,g,hs,o,λh b=>⟨_,es,ep,b _ _ lk,⟨rfl,rfl,rfl⟩,rfl,λe i=>j e (Ew.mpr i),m,?_⟩⟩;rw[l,EI,l7];have nd:=EI.mp nd;rw[l7] at nd;exact Ia (λ{p q} n e=>n (lU e)) nd
end NH
namespace NH.P
open PySem L2 NH
@[reducible] noncomputable def ZW:List Ds:=[(bM (fO (tE (zE .Eq (eZ uH (eV 0)) (eC (.int 0)))) (qW (tE (wM [3] (bD (eV 0) (eC (.int 0))))))) [(zq (eC (.bl aC)))] []),(zq (zE .Eq (Bx [("lease",5),("ask",4),("store",4),("take",4),("back",3),("fall",3),("bare",3)] (bD (eV 0) (eC (.int 0)))) (eZ uH (eV 0))))]
noncomputable def z9:Fn:=bH 1 0 ZW
end NH.P
namespace NH
open PySem PySem.Spec PyProof.Rows L2
noncomputable abbrev oq:Key->T
 |.inl i=>.int i
 |.inr z=>.str z
noncomputable def qc(μ:aK)(i:Nat)(a:List (Key×T)):Prop:=μ[i]?=aA (.dic a)\/∃ep,μ[i]?=aA (.frd ep a)
abbrev HI(i ep:Nat)(a:List (Key×T)):aK->Prop:=λb=>b[i]?=aA (.frd ep a)
noncomputable abbrev iD(f:De):Di:=λc d=>(f c d).it λt b=>match t with
 |.mut i=>λK _=>∃a,qc b i a/\∀ep,K (a.map λp=>oq p.1) (HI i ep a) (b.set i (.frd ep a))
 |_=>RI.st
noncomputable abbrev UO(t:T)(μ:aK):RE T:=match t with
 |.mut i=>λK _=>∃a,qc μ i a/\K (.int a.length) μ
 |_=>.st
noncomputable abbrev K9(x y:T)(μ:aK):RE T:=match x,y with
 |.mut i,.str z=>λK _=>∃a v,qc μ i a/\zL (.inr z) a=aA v/\K v μ
 |_,_=>.st
noncomputable abbrev BD(o:De):De:=λc d=>(o c d).bind λt a=>match t with
 |.mut i=>λK _=>(∃b,qc a i b)/\K .non (a.set i (.dic []))
 |_=>.st
noncomputable def HY (a:aF)(ep n:Nat):It:=⟨λi H=>∃gs p,H a=aA (.dE ep gs)/\gs.length=n/\gs[i]?=aA p,λi H x b=>b=H/\∀gs,H a=aA (.dE ep gs)->∃p,gs[i]?=aA p/\x=kV p.1,λi H=>∃gs,H a=aA (.dE ep gs)/\gs.length=n/\gs.length<=i⟩
theorem Mr{P:cG}(h:(zN P w).is k u=aB):RelV (kV k) u:=by
 cases k with
 |inl i=>exact Dc (show ss i u=aB from h)
 |inr x=>exact CH (show sL x u=aB from h)
theorem Yj{P:cG}{K:bJ}(a it:aF)(ep n:Nat):gH P w K tg (HY a ep n) [it] it (λi h=>h.IsKeyIter it a i n ep) where
 mem:=by simp
 obj:=λi h st b j=>by
  have e:b=it:=by simpa using j
  subst e;obtain⟨o,e,c,d⟩:=st;exact⟨o,e,λv z=>by rw[d] at z;cases z⟩
 keep:=λi h x st k=>st.at λo e=>k it (by simp) o e
 item:=by
  intro X A hw B N i g s L H E I u st y;subst A hw B;obtain⟨gs,p,e,rfl,t⟩:=y;obtain⟨z,hd,f,rel,da⟩:=(show a6 X.prog X.w H s.heap a (.dE ep gs) from I.hok a _ e);have q:gs.length=f.length:=rel.length;obtain⟨J,G,U,F,D,C⟩:=u it (by simp);have M:i<f.length:=by rw[←q];exact (bI.mp t).1
  have R:f[i]?=aA (f[i].1,f[i].2):=by rw[fR M]
  have S:p.1=f[i].1:=by
   have:=congrArg (λl:List Key=>l[i]?) rel.keys;simp only[eE,t,fR M,pM,pG] at this;exact this
  rw[q] at st;refine wpAny_pyNext_dict_item st da R λkey x r m Q=>?_;have V:Inv X g L H {s with heap:=x}:=I.turned (t':=s.toks) (λb o j e=>(Q.2 b j).trans e) J G F D C;obtain⟨o,eo,c,d⟩:=id m;exact⟨key,rfl,xn (s:={s with heap:=x}) eo c d (by decide) ⟨kV p.1,H,V,by rw[S];exact Mr r,⟨rfl,λT O=>by rw[e] at O;cases O;exact⟨p,t,rfl⟩⟩,by rw[q];exact m,λb j=>(u b j).1⟩⟩
 done:=by
  intro X A hw B N i g s L H E I u st y;subst A hw B;obtain⟨gs,e,rfl,t⟩:=y;obtain⟨z,hd,f,rel,da⟩:=(show a6 X.prog X.w H s.heap a (.dE ep gs) from I.hok a _ e);have q:gs.length=f.length:=rel.length;obtain⟨J,G,U,F,D,C⟩:=u it (by simp);rw[q] at st;exact wpAny_pyNext_dict_end (I.ok.hd N) st da (n0 (by lia)) λx eb=>⟨rfl,I.turned (t':=s.toks) (λb o j e=>eb b o j e) J G F D C⟩
 self:=λ_ _ _ _ _ st h=>wpAny_pyIter_keyiter st h
section
variable {X:Cx}{D:DP}{W:XW}{Γ:Cn}{k:Nat}{pins:List (aF×bA)}{s:Shared}{σ:St}{H:Hp}{φ α:List aF}{τ:Sl}{μ:aK}{f g:De}{a b tg:aI}{pos:Pos}
theorem XM:∀{a:List (Key×T)}{gs:List (Key×V)},bF D φ α H a gs->∀{i:Nat}{p:Key×V},gs[i]?=aA p->∃q:Key×T,a[i]?=aA q/\q.1=p.1
 |[],_,h,i,p,e=>by cases h;cases e
 |q::r,_,h,i,p,e=>by
  obtain⟨v,gr,rfl,d,l⟩:=h;cases i with
  |zero=>cases e;exact⟨q,rfl,rfl⟩
  |succ i=>exact XM l e
theorem OZ:a_ D φ α H (oq z) (kV z):=by cases z<;>rfl
theorem R_{ad:aF}(b:d.length=n):i9 D (HY ad ep n) (λφ α H=>∃gs,H ad=aA (.dE ep gs)/\bF D φ α H d gs) (d.map λp=>oq p.1):=
 ⟨λi φ α H ⟨gs,e,l⟩ a=>by
  have c:=wK l;have a:i<gs.length:=by rw[c];simpa using a
  exact⟨gs,gs[i],e,c.trans b,fR a⟩,λi φ α H v j t ⟨gs,e,l⟩ a y=>by
  obtain⟨rfl,y⟩:=y;obtain⟨p,g,rfl⟩:=y gs e;obtain⟨q,f,h⟩:=XM l g;rw[eE,f] at a;cases a;exact⟨λ_ _ z=>z,h▸OZ⟩,λφ α H ⟨gs,e,l⟩=>⟨gs,e,(wK l).trans b,by rw[wK l,cJ];exact bE _⟩⟩
theorem K2(a:aM D φ α H μ)(hx:α[i]?=aA x)(h:qc μ i d):∃gs,(H x=aA (.dK gs)\/∃ep,H x=aA (.dE ep gs))/\bF D φ α H d gs:=by
 rcases h with h|⟨ep,h⟩
 ·obtain⟨gs,e,l⟩:=a.ob i x _ hx h;exact⟨gs,.inl e,l⟩
 ·obtain⟨gs,e,l⟩:=a.ob i x _ hx h;exact⟨gs,.inr ⟨ep,e⟩,l⟩
theorem fV{β:Type}:∀{l:List β}{i:Nat}{b:β},l[i]?=aA b->l.set i b=l
 |[],_,_,h=>by cases h
 |c::r,0,b,h=>by cases h;rfl
 |c::r,i+1,b,h=>congrArg (c::·) (fV (l:=r) h)
theorem PC(ha:PE X a (aW D W f)):PI X tg a (gU D W (iD f)):=by
 rintro y s E H R I ⟨φ,α,τ,μ,P,S,p⟩;refine aX (sub ha I P S p) ?_;rintro u q ⟨v,i,t,g,d,G,Q,N,O,n,d1,p1⟩;cases t with
 | «mut» j=>
  obtain⟨ad,r,rfl⟩:=d1;cases Q;have B:aJ D W φ d i E _ (λK _=>∃c,qc g j c/\∀ep,K (c.map λp=>oq p.1,HI j ep c) (g.set j (.frd ep c))):=p1;obtain⟨K0,Z0,⟨c,hd,B⟩,V,k2⟩:=B;have A:j<g.length:=by rcases hd with h|⟨_,h⟩<;>exact (bI.mp h).1
  have key:∃ep gs,Inv X y E (upd i ad (.dE ep gs)) q/\aO d i d (upd i ad (.dE ep gs))/\bF D φ d i c gs:=by
   rcases hd with h|⟨ep,h⟩
   ·obtain⟨gs,e,l⟩:=n.ob j ad _ r h;obtain⟨ep,x⟩:=NL G e;exact⟨ep,gs,x,aO.turn (b9 r) ⟨_,e⟩,l⟩
   ·obtain⟨gs,e,l⟩:=n.ob j ad _ r h;have:upd i ad (.dE ep gs)=i:=by
     funext b;unfold upd;split
     ·subst_vars;exact e.symm
     ·rfl
    exact⟨ep,gs,by rw[this];exact G,aO.turn (b9 r) ⟨_,e⟩,l⟩
  obtain⟨ep,gs,x,k,l⟩:=key;have U:=bF.lk k.lk (φ:=φ) l;have T:aM D φ d (upd i ad (.dE ep gs)) (g.set j (.frd ep c)):=n.turn r A k ⟨gs,z3,U⟩;obtain⟨z,Z,F,rel,da⟩:=(show a6 X.prog X.w _ q.heap ad (.dE ep gs) from x.hok ad _ z3);have hl:c.length=F.length:=(wK l).symm.trans rel.length;refine wpAny_pyIter_dict Z da ?_;refine⟨q.heap.objs.size,[q.heap.objs.size],_,_,_,rfl,x.kept (t':=q.toks) λb o e=>bU _ e,Yj ad _ ep F.length,⟨_,eF _ rfl,rfl,rfl⟩,λb hb=>?_,?_⟩
  ·have e:b=q.heap.objs.size:=by simpa using hb
   subst e;exact x.fpOk (bE _) (x.hok.fresh (bE _))
  ·refine V _ _ (B ep) d _ k T _ _ (R_ hl) (λJ M H' L lk m Y=>?_) ?_
   ·obtain⟨C,e',l'⟩:=m.ob j ad _ (lk.st j ad r) Y;exact⟨C,e',l'⟩
   ·show (g.set j _)[j]?=_;rw[mM A]
 |_=>exact aJ.elim p1
theorem MR:B1 X D W (.builtin "len") UO:=by
 intro a s k H j c m t v u Q I b d r p;unfold UO at p;split at p
 ·obtain⟨w,q,⟨f,hd,p⟩,g,o⟩:=p;obtain⟨ad,h,rfl⟩:=d;cases r;obtain⟨gs,e,l⟩:=K2 b h hd;refine LY I (e.imp .inl id) λt n i=>⟨.int gs.length,H,i,⟨t,rfl⟩,?_⟩;rw[wK l];exact g _ _ p c H (aO.refl _ _) b _ rfl
 ·exact p.elim
theorem PN(h:qB b=aB):Aw b:=by
 intro o i;cases b<;>first|(simp[qB] at h;done)|rfl
theorem OA(C:Ck D W Γ X k)(hs:qB b=aB)(o:PE X a (aW D W f))(P:PE X b (aW D W g)):PE X (.Subscript a b pos) (aW D W (iP K9 f g)):=by
 refine PE.mono (P2 (by have:=C.unt;lia) o P (PN hs)) ?_;rintro V H Q ⟨r,F,s,E,u,J,p⟩;refine⟨r,F,s,E,u,J,p.bind.mono λx e j H1 n K q v d=>?_⟩;refine⟨r,j,s,e,u.step n,K,q.bind.mono λy B h U m A c w dw=>?_⟩;unfold K9 at c;split at c
 ·rename_i i z;obtain⟨K0,Z,⟨L,t,O,N,I⟩,M,Y⟩:=c;obtain⟨ad,o,rfl⟩:=d.step m;obtain⟨gs,R,l⟩:=K2 A o O;obtain⟨G,T,S⟩:=Jt l N;have dw:w=.str z:=dw;subst dw;exact⟨ad,G,rfl,⟨gs,.inr z,R.imp .inl id,rfl,T.symm⟩,M _ _ I h U (aO.refl _ _) A _ S⟩
 ·exact c.elim
theorem O9:m4 X "dict.clear" (λx xs H Q=>∃l,x=.ref l/\xs=[]/\∃d,(H l=aA (.dK d)\/∃ep,H l=aA (.dE ep d))/\Q .non (upd H l (.dK []))):=by
 intro a s f H x xs v g Q I r b h;obtain⟨l,rfl,rfl,d,e,q⟩:=h;cases r;cases b;exact RR I e λi c=>⟨.non,_,c,rfl,q⟩
theorem Pu(z:qg o=aB)(b:(pa.endLine==pc.line)=aB)(ho:PE X o (aW D W go)) :
  PE X (.Call (.Attribute o "clear" pa) [] [] pc) (aW D W (BD go)):=by
 refine PE.mono (HA Er Es PySem.F.type_dict_clear O9 ho (qE z) b) ?_;rintro B H Q ⟨k,r,m,n,t,v,p⟩;refine⟨k,r,m,n,t,v,p.bind.mono λu d a j s g q C dv=>?_⟩;cases u with
 | «mut» i=>
  obtain⟨I,G,⟨⟨w,hd⟩,q⟩,y,E⟩:=q;obtain⟨x,f,rfl⟩:=dv;obtain⟨gs,e,l⟩:=K2 g f hd;have c:aO a j a (upd j x (.dK [])):=aO.turn (b9 f) (by rcases e with e|⟨ep,e⟩<;>exact⟨_,e⟩);have A:i<d.length:=by rcases hd with h|⟨_,h⟩<;>exact (bI.mp h).1
  refine⟨.inr (.inr (.inl ⟨rfl,e.imp (λe=>⟨_,e⟩) λ⟨ep,e⟩=>⟨ep,_,e⟩⟩)),x,rfl,rfl,gs,e,?_⟩;exact y _ _ q a _ c (g.turn f A c ⟨_,z3,rfl⟩) .non rfl
 |_=>exact aJ.elim q
end
noncomputable def ou(Γ:Cn)(e:aI):Bool:=match e with
 |.Name x _=>Γ.own.contains (("~":aG)++x)
 |.Attribute _ x _=>x==("seats":aG)
 |_=>aC
noncomputable def HF:IR:=λr a e=>gd (ou a e) ((r.e a e).bind λf=>aA (iD f))
theorem Nx:oS D HF:=by
 intro r H X W b k c e d C g h;obtain⟨_,h⟩:=zc h;obtain⟨f,a,h⟩:=aP h;cases h;exact PC (H.e C a)
noncomputable def GC:ER:=λr b e=>(yz e).bind λq=>(xZ q.as).bind λa=>gd (ou b a) (l_ "len" UO aC r b e)
theorem Us:cM D GC:=by
 intro r H X W i k e d C h;obtain⟨q,j,h⟩:=aP h;obtain⟨a,b,h⟩:=aP h;obtain⟨_,h⟩:=zc h;exact yA (nm:="len") (op:=UO) (cl:=aC) (λC c g _ f b=>Uj C c g boot_len (by decide) f MR b) r H C h
noncomputable def Fi:ER:=λr a e=>(rp e).bind λq=>gd (ou a q.1&&qB q.2.1) ((r.e a q.1).bind λf=>(r.e a q.2.1).bind λg=>aA (iP K9 f g))
theorem Pp:cM D Fi:=by
 intro r H X W j k e d C h;obtain⟨q,i,h⟩:=aP h;rw[Y5 i];obtain⟨a,h⟩:=zc h;obtain⟨f,c,h⟩:=aP h;obtain⟨g,b,h⟩:=aP h;cases h;exact OA C (zF a).2 (H.e C c) (H.e C b)
noncomputable def Gu:eO->Bool
 |.NotIn=>aB
 |_=>aC
theorem UI(h:Gu op=aB):op=.NotIn:=by cases op<;>first|rfl|cases h
noncomputable def BQ (r:cX)(Γ:Cn)(e:aI):Option De:=(rD e).bind λq=>gd (Gu q.op&&ou Γ q.b) (gd (jr .NotIn q.b) ((r.e Γ q.a).bind λf=>(r.e Γ q.b).bind λg=>aA (iP WX f g)))
theorem Hx{W:XW}(H:bQ D r)(C:Ck D W Γ X k)(h:BQ r Γ e=aA d):PE X e (aW D W d)/\PT X e (eL D W (tE d)):=by
 obtain⟨q,j,h⟩:=aP h;obtain⟨i,h⟩:=zc h;obtain⟨c,h⟩:=zc h;obtain⟨f,b,h⟩:=aP h;obtain⟨g,a,h⟩:=aP h;cases h;rw[Xf j,UI (zF i).1];exact⟨Ml (Y9 C.unt) c (H.e C b) (H.e C a),Tk (Y9 C.unt) c (H.e C b) (H.e C a)⟩
noncomputable def FP:ER:=BQ
theorem Rw:cM D FP:=λr H _ _ _ _ _ _ C h=>(Hx H C h).1
noncomputable def Gb:TR:=λr a e=>(BQ r a e).bind λf=>aA (tE f)
theorem Rn:r4 D Gb:=by
 intro r H X W b k e d C h;obtain⟨f,a,h⟩:=aP h;cases h;exact (Hx H C a).2
noncomputable def GO:ER:=λr a e=>(xV e).bind λq=>gd (q.m==("clear":aG)) (gd (ou a q.o&&qg q.o) (gd (q.as.isEmpty&&q.pa.endLine==q.pc.line) ((r.e a q.o).bind λgo=>aA (BD go))))
theorem SX:cM D GO:=by
 intro r H X W i k e d C h;obtain⟨q,f,h⟩:=aP h;obtain⟨c,h⟩:=zc h;obtain⟨b,h⟩:=zc h;obtain⟨a,h⟩:=zc h;obtain⟨go,g,h⟩:=aP h;cases h;rw[v7 f,wC c,l5.mp (zF a).1];exact Pu (zF b).2 (zF a).2 (H.e C g)
noncomputable def LS:aI->Bool
 |.Attribute _ x _=>x==("common":aG)
 |_=>aC
noncomputable def FR(m:aG):aG:=⟨#[64]⟩++m
noncomputable def GB:ER:=λr a e=>(xV e).bind λq=>gd (LS q.o) (AD r a (FR q.m) q)
theorem Tc:cM D GB:=by
 intro r H X W b k e d C h;obtain⟨q,a,h⟩:=aP h;obtain⟨_,h⟩:=zc h;rw[v7 a];exact XN H C h
noncomputable def GD:ER:=λr a e=>gd (a.own.contains ("{:}":aG)) (match ZX r a e with
 |some d=>aA d
 |none=>GG r a e)
theorem UL:cM D GD:=by
 intro r H X W a k e d C h;obtain⟨_,h⟩:=zc h;cases q:ZX r a e with
 |some b=>simp only[q] at h;cases h;exact QE r H C q
 |none=>simp only[q] at h;exact S4 r H C h
theorem Qi:entryFor table "proto.unchain"=aA iS.«proto.unchain»:=entryFor_of_tree (by kernel_rfl)
section
variable {prog:Program}{w:World}{A:Around}{E:aD->Shared->Prop}{s:Shared}
theorem Jv{α:Type}{e hx:aF}{a oh:bA}{vs vh:Array aD}{Q:α->a9->Prop}(hh:A.handled=aA (.ref hx))(ne:e≠hx)(ge:s.heap.get? e=aA a)(de:a.data=.fields vs)(sz:2<vs.size)
  (gh:s.heap.get? hx=aA oh) (dh:oh.data=.fields vh) (h2:vh[2]?=aA .none) (q:E (.ref e) {s with heap:=s.heap.update e (hV (·.setIfInBounds 2 (.ref hx)))}):wpAny (aR prog w) A (raiseNew (.ref e):Sem α) Q E s:=by
 unfold raiseNew;refine wpAny_bind (wpAny_handled ?_);rw[hh];dsimp only;have b:((cN hx) != cN e)=aB:=by simp;exact λz=>ne z.symm
 rw[if_pos b];refine wpAny_bind (wpAny_holding (wpAny_runValue (codeAny_builtin Qi ?_)));unfold iS.«proto.unchain»;dsimp only;refine wpAny_bind (gO gh dh h2 ?_);rw[if_pos (by rfl)];refine wpAny_bind (wpAny_pure ?_);refine wpAny_pure ?_;refine wpAny_bind ?_;show wpAny (aR prog w) A (setField (.ref e) 2 (.ref hx)) _ _ _;exact mK ge de sz (sj q)
theorem YB{it l:aF}{i:Nat}{items}{Q:Option aD->a9->Prop}{hx:aF}{oh:bA}{vh:Array aD}(hh:A.handled=aA (.ref hx))(gh:s.heap.get? hx=aA oh)(dh:oh.data=.fields vh)(h2:vh[2]?=aA .none)(ni:hx≠it)
  (hit:s.heap.IsListIter it l i) (hl:s.heap.IsList l items) (hn:items[i]?=aE)
  (hQ:∀h',CN it s.heap h'->Q aE {s with heap:=h'}):wpAny (aR prog w) A (mx (.ref it)) Q E s:=by
 obtain⟨o,ho,hc,hd⟩:=id hit;obtain⟨ol,hol,_,nl,rT⟩:=hl;unfold mx
 refine wpAny_bind (mJ (tX (name:=il "__next__") hit.typeIs D9
  (s_ D9 hit.typeIs entry_listiter_next ?_ (args_listiter_next _))))
 show wpAny _ _ (field (.ref it) 0 >>= _) _ _ s;refine wpAny_bind (gO ho hd (x:=.ref l) rfl ?_);show wpAny _ _ (if (cN l==eX)=aB then _ else _) _ _ s;rw[if_neg (show ¬((cN l==eX)=aB) from eY)];show wpAny _ _ (field (.ref it) 1 >>= _) _ _ s;refine wpAny_bind (gO ho hd (x:=.int i 0) rfl ?_);show wpAny _ _ (o2 (.ref l) >>= _) _ _ s;refine wpAny_bind (wpAny_seqItems hol rT ?_);simp only[D0,hn];refine wpAny_bind (nz (wpAny_bind (mK ho hd (by simp) ?_)));show wpAny _ _ (newExc (.type "StopIteration") [] >>= _) _ _ _;refine wpAny_bind ?_;simp only[newExc,newTuple];refine wpAny_bind (iY ?_ (by size_fits));refine wpAny_bind (m:=firstArgMember _ _) (lp (a:=eX) (by first|rfl|(simp only[firstArgMember];rfl)) ?_);refine iY ?_ (by size_fits);have up:∀{b:aF}{ob o1:bA},b≠it->s.heap.get? b=aA ob->((((s.heap.update it (hV λx=>x.setIfInBounds 0 eX)).push {cls:=nv "tuple",data:=Data.seq #[]}).push o1).get? b=aA ob):=λ{b ob o1} hb e=>bU _ (bU _ (by rw[lE _ _ (b_ hb)];exact e));have ne:∀{b:aF}{ob:bA},s.heap.get? b=aA ob->((s.heap.update it (hV λx=>x.setIfInBounds 0 eX)).push {cls:=nv "tuple",data:=Data.seq #[]}).objs.size≠b:=λ{b ob} e z=>by
  have h1:b<s.heap.objs.size:=bZ e;have h3:s.heap.objs.size+1=b:=by rw[←z,iI,sW]
  exact absurd h1 (by rw[←h3];exact Nat.not_lt.mpr (mE _))
 refine Jv (hx:=hx) (oh:=oh) (vh:=vh) hh (ne gh) (eF _ rfl) rfl (by rw[Array.size_append];exact cY (show 2<6 by decide) (Dk _ _)) (up ni gh) dh h2 ?_;refine wpAny_bind (wpAny_isInstance (T:="StopIteration") (b:=aB) ⟨_,n5 _ (eF _ rfl) rfl,rfl⟩ isSubtype_stop ?_);refine wpAny_pure (hQ _ λb ob hb e=>?_);refine Eq.trans (lE _ _ (ne e)) ?_;exact up hb e
end
section
variable {X:Cx}{D:DP}{W:XW}{pins:List (aF×bA)}{s:Shared}{σ:St}{H:Hp}{φ α:List aF}{τ:Sl}{μ:aK}{f h:De}{a b c tg:aI}
abbrev BO:Cx->Prop:=λX=>f7 X.A X.H₀
theorem uI{P:cG}{K:bJ}(a it:aF):ix BO P w K tg (Co K a) [it] it (λi h=>h.IsListIter it a i) where
 mem:=by simp
 obj:=(vR (P:=P) (w:=w) (K:=K) (tg:=tg) a it).obj
 keep:=(vR (P:=P) (w:=w) (K:=K) (tg:=tg) a it).keep
 item:=by
  intro X G hw J N i f s L H E I q st F;subst G hw J;obtain⟨Q,x,n,C⟩:=F;obtain⟨k,B,p,T⟩:=I.list n;obtain⟨u,Y,S⟩:=B.get C;obtain⟨m,z,Z,y,v,t⟩:=q it (by simp);refine Eo st p.isList (x:=u) (by simpa using Y) λr j R=>?_;have I1:Inv X f L H {s with heap:=r}:=I.turned (t':=s.toks) (λb o g e=>(R.2 b g).trans e) m z y v t;obtain⟨o,e,c,d⟩:=id j;exact⟨u,rfl,xn (s:={s with heap:=r}) e c d (by decide) ⟨x,H,I1,S,⟨rfl,λys U=>by rw[I.list_inj U n];exact C⟩,j,λb g=>(q b g).1⟩⟩
 done:=by
  intro X G hw J N i f s L H E I q st F;subst G hw J;obtain⟨Q,n,C⟩:=F;obtain⟨k,B,p,T⟩:=I.list n;obtain⟨m,z,Z,y,v,t⟩:=q it (by simp);have hl:=B.length;have l:=f7.inv I N;have en:k.toArray[i]?=aE:=by simp;lia
  cases D:X.A.handled with
  |none=>exact EF D st p.isList en λr eb=>⟨rfl,I.turned (t':=s.toks) (λb o g e=>eb b o g e) m z y v t⟩
  |some V=>
   obtain⟨x,M,vs,u,rfl,O,e2,e3⟩:=l V D;have gx:s.heap.get? x=aA M:=(show a6 X.prog X.w H s.heap x (.frz M u) from I.hok _ _ O).1;exact YB D gx e2 e3 (zI O m) st p.isList en λr eb=>⟨rfl,I.turned (t':=s.toks) (λb o g e=>eb b o g e) m z y v t⟩
 self:=(vR (P:=P) (w:=w) (K:=K) (tg:=tg) a it).self
noncomputable abbrev Ni(t:T)(μ:aK):RI:=match t with
 |.lst a=>.ok a gD μ
 |.mut i=>λK _=>∃a,μ[i]?=aA (.lst a)/\K a (iN i a) μ
 |_=>.st
noncomputable abbrev BW(f:De):Di:=λτ μ=>(f τ μ).it Ni
theorem SU(ha:PE X a (aW D W f)):r6 BO X tg a (gU D W (BW f)):=by
 rintro M s y H R I ⟨w,α,τ,μ,T,Z,p⟩;refine aX (sub ha I T Z p) ?_;rintro u g ⟨v,r,t,c,d,h,L,Q,S,k,P,p1⟩;cases t with
 |lst J=>
  obtain⟨ad,G,rfl,Y,V,q,l⟩:=P;cases L;obtain⟨E,U,pl,hz⟩:=h.list (.inl q);refine nK pl.isList ?_;refine⟨g.heap.objs.size,[g.heap.objs.size],_,_,r,rfl,h.kept (t':=g.toks) λb o e=>bU _ e,uI ad _,⟨_,eF _ rfl,rfl,rfl⟩,λb F=>?_,?_⟩
  ·have e:b=g.heap.objs.size:=by simpa using F
   subst e;exact h.fpOk (bE _) (h.hok.fresh (bE _))
  ·have i:aJ D W w d r y _ (RE.ok (J,gD) c):=p1;exact i.ok (aO.refl _ _) k _ _ xJ (λx A H' z lk _ _=>by
    obtain⟨a',B,e,_,_,C,l'⟩:=a_.lk lk (show a_ D w d r (.lst J) (.ref ad) from ⟨ad,G,rfl,Y,V,q,l⟩);cases e;exact⟨B,C,l'⟩) trivial
 | «mut» j=>
  obtain⟨ad,O,rfl⟩:=P;cases L;have i:aJ D W w d r y _ (λK _=>∃n,c[j]?=aA (.lst n)/\K (n,iN j n) c):=p1;obtain⟨n,N,i⟩:=i.ex1;obtain⟨G,q,l⟩:=k.ob j ad _ O N;obtain⟨E,U,pl,hz⟩:=h.list (.inl (.inl q));refine nK pl.isList ?_;refine⟨g.heap.objs.size,[g.heap.objs.size],_,_,r,rfl,h.kept (t':=g.toks) λb o e=>bU _ e,uI ad _,⟨_,eF _ rfl,rfl,rfl⟩,λb F=>?_,?_⟩
  ·have e:b=g.heap.objs.size:=by simpa using F
   subst e;exact h.fpOk (bE _) (h.hok.fresh (bE _))
  ·have i:aJ D W w d r y _ (RE.ok (n,iN j n) c):=i;exact i.ok (aO.refl _ _) k _ _ xJ (λx A H' z lk m hl=>by
    obtain⟨B,C,l'⟩:=m.ob j ad _ (lk.st j ad O) hl;exact⟨B,.inl C,l'⟩) N
 |_=>exact p1.elim
end
noncomputable def GQ:ER:=λr a e=>(uZ e).bind λq=>(hZ q.tg).bind λy=>(hZ q.iter).bind λx=>gd ((a.qt || (a.calm&&a.own.contains ⟨#[63]⟩))&&Wu a.N a.cel q.tg q.sc) ((js a.N (frees q.sc)).bind λfs=>(wZ (z7 q.tg++frees q.sc) q.tg).bind λb=>(r.e a q.iter).bind λf=>(zi (r.t (inComp a q.tg q.sc)) q.ifs).bind λcs=>(r.e (inComp a q.tg q.sc) q.elt).bind λfe=>aA (vz (z7 q.tg).length fs b (BW f) cs fe))
theorem Yc{D:DP}:cM D GQ:=by
 intro r H X W O k e d C h;obtain⟨q,E,h⟩:=aP h;rw[xt E];obtain⟨y,o,h⟩:=aP h;obtain⟨x,t,h⟩:=aP h;obtain⟨c,h⟩:=zc h;simp only[cB] at c;obtain⟨fs,B,h⟩:=aP h;obtain⟨m,A,h⟩:=aP h;obtain⟨f,z,h⟩:=aP h;obtain⟨cs,w,h⟩:=aP h;obtain⟨fe,v,h⟩:=aP h;cases h;obtain⟨p,et⟩:=Wz o;obtain⟨P,ei⟩:=Wz t;refine V0 (okc:=BO) C ⟨λQ i N H s I F _ b h e=>?_,.inr ⟨_,_,et⟩⟩ (W2 c.2) B A (SU (H.e C z)) (λL M g=>H.e g v) (λL M g=>j1 H g w) (ZT (by rw[ei];rfl));rw[F] at e;rcases nQ _ _▸c.1 with a|a
 ·obtain⟨j,n,l,u,K,J,G⟩:=f7.inv I (C.qt a) h e;exact⟨j,n,l,u,K,b _ _ _ J,G⟩
 ·rw[I.ok.hd (C.clm (zF a).1)] at e;cases e
section
variable {X:Cx}{D:DP}{W:XW}{Γ:Cn}{k:Nat}{pins:List (aF×bA)}{s:Shared}{σ:St}{H:Hp}{φ α:List aF}{τ:Sl}{μ:aK}{A:Around}
theorem f7.stp(g:aM D φ α H μ)(st:aO α H r w)(q:f7 A H):f7 A w:=λh e=>by
 obtain⟨x,m,vs,u,p,a,o⟩:=q h e;have n2:x∉α:=λz=>by
  obtain⟨i,k,f⟩:=List.getElem_of_mem z;have f:α[i]?=aA x:=by rw[fR k,f]
  have n:i<μ.length:=by rw[←g.len];exact k
  have d:=g.ob i x _ f (fR n);cases ho:μ[i] with
  |lst ts=>rw[ho] at d;obtain⟨xs,q,l⟩:=d;rw[a] at q;cases q
  |obj c fs=>rw[ho] at d;obtain⟨C,dx,gs,ad,q,l⟩:=d;rw[a] at q;cases q
  |dic b=>rw[ho] at d;obtain⟨gs,q,l⟩:=d;rw[a] at q;cases q
  |tab j=>rw[ho] at d;obtain⟨_,_,ps,_,q,_⟩:=d;rw[a] at q;cases q
  |dct s=>rw[ho] at d;obtain⟨_,_,_,_,_,q,_⟩:=d;rw[a] at q;cases q
  |frd ep b=>rw[ho] at d;obtain⟨gs,q,l⟩:=d;rw[a] at q;cases q
 exact⟨x,m,vs,u,p,st.keep x _ n2 a,o⟩
noncomputable abbrev VL(g:Fn)(j:Nat):De:=λτ μ=>match Qx τ j with
 |some (.exc c fs)=>.grd (fs.length<=1) (Wf g [.exc c fs] μ)
 |_=>.st
theorem PV(C:Ck D W Γ X k)(hx:x∈Γ.G)(L:Vp x∈Γ.U)(J:Γ.gl (Vp x)=.fnh x g)(F:cD Γ.N e=aA j):PE X (.Call (.Name x p0) [.Name e w] [] pos) (λσ H Q=>f7 X.A H/\aW D W (z8 (Wf g) [eV j]) σ H Q):=by
 have q:=(C.glU _ L).1;rw[J] at q;obtain⟨fa,B,fd,ps,kk,E,K,f,Fn,h⟩:=q;have z:=C.rmh.mono f;have m:dD X D W [.Name e w] [eV j]:=⟨rfl,GS C F,trivial⟩;have c:=m.stars;have y:=vI m;rintro i s σ H Q I ⟨d,O,S,P,R,u,l,p⟩;refine iL (wH I (C.glb x hx) B ?_ (C.dbG x hx));simp only[iX,cB] at c;refine mO (h₀:=X.base) I.ok.mod.kin E (aX (UM y I u l p) ?_) (z6 c.1) (qT c.2);rintro V Z ⟨T,H1,Y,o,r,n,v,a,t,b,M,_,p1⟩;exact⟨n.kIn,SD Fn (d.stp l a) z K h n v b M p1⟩
theorem M0(C:Sk D iM Γ X k)(hx:x∈Γ.G)(V:Vp x∈Γ.U)(T:Γ.gl (Vp x)=.fnh x g)(S:cD Γ.N e=aA j)(F:cD Γ.N y=aA i)(O:ip Γ (.Name y py)=aB) :
  f8 X [.Assign [.Name y py] (.Call (.Name x p0) [.Name e M] [] pos) pa] (BJ D X.A (aA j) (qe [zt i (VL g j)])):=by
 have W:PS X (.Assign [.Name y py] (.Call (.Name x p0) [.Name e M] [] pos) pa) (λE c H=>f7 X.A H/\dJ D iM (zt i (z8 (Wf g) [eV j])) E c H):=by
  rintro a s c H E I ⟨B,u,w,b,f,l,z,p⟩;have r:=uD O (λY r=>by rw[bT.mp r];exact wt F) y (bT.mpr rfl);refine G5 (i:=i) (X:=X) (te:=λc H Q=>f7 X.A H/\aW D iM (z8 (Wf g) [eV j]) c H Q) (by rw[C.hN];exact C.nd) (by rw[C.hN];exact wF F) (C.sto y r).1 (PV C.toCk hx V T S) (VS rfl) (C.sto y r).2 a s c H E I ⟨B,u,w,b,f,l,z,(aL.out l p).mono λt J K H' st m q v d=>?_⟩;exact aL.nx q (aO.refl _ _) m ((l.step st).set d)
 rintro a s c H E I ⟨u,w,b,f,l,z,n,Q,q,h⟩;obtain⟨Z,L,P,R⟩:=n j rfl;have o:=uA.mpr P;have q:zt i (VL g j) b f Q:=q;dsimp only[zt,VL] at q;rw[o] at q;refine XZ W a s c H E I ⟨R q.1,u,w,b,f,l,z,Q,?_,h⟩;show (z8 (Wf g) [eV j] b f).out b _ Q;show RE.out (RE.bind (RE.bind (eV j b f) _) _) b _ Q;dsimp only[eV];rw[o];exact q.2
end
structure oM where
 b:List bC
 h:List iW
 pos:Pos
noncomputable def E5:bC->Option oM
 |.Try b h c fin a=>gd (c.isEmpty&&fin.isEmpty) (aA ⟨b,h,a⟩)
 |_=>aE
theorem ON{s:bC}{q:oM}(h:E5 s=aA q):s=.Try q.b q.h [] [] q.pos:=by
 cases s<;>first|cases h|skip
 obtain⟨a,c⟩:=zc h;cases c;rw[l5.mp (zF a).1,l5.mp (zF a).2]
structure oU where
 t:aI
 e:aG
 st:bC
 ph:Pos
noncomputable def FO:iW->Option oU
 |.ExceptHandler t e a b=>t.bind λt=>e.bind λe=>(xZ a).bind λst=>aA ⟨t,e,st,b⟩
theorem RM{h:iW}{q:oU}(e:FO h=aA q):h=.ExceptHandler (aA q.t) (aA q.e) [q.st] q.ph:=by
 cases h;obtain⟨t,c,h⟩:=aP e;obtain⟨e,b,h⟩:=aP h;obtain⟨st,a,h⟩:=aP h;cases h;rw[c,b,w8 a]
structure lM where
 y:aG
 py:Pos
 a:aI
 pa:Pos
noncomputable def Fz:bC->Option lM
 |.Assign b a c=>(xZ b).bind λt=>(YW t).bind λy=>aA ⟨y.1,y.2,a,c⟩
 |_=>aE
theorem Re{s:bC}{q:lM}(h:Fz s=aA q):s=.Assign [.Name q.y q.py] q.a q.pa:=by
 cases s<;>first|cases h|skip
 obtain⟨t,c,h⟩:=aP h;obtain⟨y,b,h⟩:=aP h;cases h;rw[w8 c,uE b]
noncomputable def UW:GM->Option (aG×Fn)
 |.fnh nm g=>aA (nm,g)
 |_=>aE
theorem SO{m:GM}{q:aG×Fn}(h:UW m=aA q):m=.fnh q.1 q.2:=by
 unfold UW at h;split at h
 ·cases h;rfl
 ·cases h
noncomputable def Um:SR:=λr d s=>(E5 s).bind λf=>(xZ f.h).bind λh=>(FO h).bind λq=>(Fz q.st).bind λw=>(yz w.a).bind λc=>(xZ c.as).bind λl=>(hZ l).bind λe=>gd (d.calm&&e==q.e) (gd ((cD d.N c.x).isNone&&d.G.contains c.x) (gd (d.U.contains (Vp c.x)&&ip d (.Name w.y w.py)) (gd ((hZ q.t).isSome&&!d.cel.contains q.e) ((UW (d.gl (Vp c.x))).bind λg=>gd (g.1==c.x) ((BX d q.t).bind λcs=>(cD d.N q.e).bind λj=>(cD d.N w.y).bind λi=>(zi (r.s d) f.b).bind λk=>aA (om k [(cs,aA j,[zt i (VL g.2 j)])]))))))
theorem Yt{D:DP}:m3 D Um:=by
 intro r H X W Q k s d C h;obtain⟨S,L,h⟩:=aP h;obtain⟨T,b,h⟩:=aP h;obtain⟨q,a,h⟩:=aP h;obtain⟨w,K,h⟩:=aP h;obtain⟨c,J,h⟩:=aP h;obtain⟨U,I,h⟩:=aP h;obtain⟨e,G,h⟩:=aP h;obtain⟨p,h⟩:=zc h;obtain⟨N,h⟩:=zc h;obtain⟨o,h⟩:=zc h;obtain⟨n,h⟩:=zc h;obtain⟨g,F,h⟩:=aP h;obtain⟨M,h⟩:=zc h;obtain⟨cs,E,h⟩:=aP h;obtain⟨j,m,h⟩:=aP h;obtain⟨i,B,h⟩:=aP h;obtain⟨R,A,h⟩:=aP h;cases h;obtain⟨u,ee⟩:=Wz G;have l:=SO F;rw[beq_iff_eq.mp M] at l;obtain⟨v,z⟩:=GR E;have O:=beq_iff_eq.mp (zF p).2;have es:q.st=.Assign [.Name w.y w.py] (.Call (.Name c.x c.p0) [.Name q.e u] [] c.pc) w.pa:=by
  have t:=Re K;rw[wG J,w8 I,ee,O] at t;exact t
 rw[ON L,w8 b,RM a,es];refine Hh C (zF p).1 (λP V f=>qO H f A) ⟨⟨_,_,_,_,_,_,_,_,rfl,rfl,v,.inr (z (zF n).1),⟨m,by simpa using (zF n).2⟩,λP f=>?_⟩,trivial⟩;exact M0 f (by simpa using (zF N).2) (by simpa using (zF o).1) l m B (zF o).2
end NH
namespace NH.P
open PySem L2 NH
@[reducible] noncomputable def yS:List Ds:=[(qa (eV 0) 21 (eV 1)),(qa (eV 0) 11 (eC .non)),(qa (eV 0) 22 (eC .non))]
noncomputable def vW:Fn:=bH 2 0 yS
@[reducible] noncomputable def ZS:List Ds:=[(qa (eV 0) 22 (eV 1))]
noncomputable def jE:Fn:=bH 2 0 ZS
@[reducible] noncomputable def jM:List Ds:=[(bM (qW (xm (tE (z8 qd [(eV 2)])) (tE (z8 qd [(eV 3)])))) [(zU 16 [(eC (.str "ahead and stride are whole numbers from 0 on"))])] []),(bM (xm (tE (zE .IsNot (eV 5) (eC .non))) (qW (tE mh))) [(zU 23 [(eC (.str "no note of the shape"))])] []),(qa (eV 0) 9 (eV 1)),(qa (eV 0) 14 (eV 2)),(qa (eV 0) 15 (eV 3)),(qa (eV 0) 16 (eV 4)),(qa (eV 0) 6 (oJ (tE (zE .Is (eV 5) (eC .non))) (eC .non) (bD (eV 5) (eC (.int 0))))),(qa (eV 0) 17 (oJ (tE (zE .Is (eV 5) (eC .non))) (eC .non) (bD (eV 5) (eC (.int 1))))),(qa (eV 0) 18 (eC .non)),(qa (eV 0) 19 (Qy [])),(qa (eV 0) 20 (eC (.bl aC)))]
noncomputable def qi:Fn:=bH 6 0 jM
@[reducible] noncomputable def jB:List Ds:=[(bM (tE (zE .Eq (zG [(eV 1),(eV 2)]) (zz 45 jk (eV 0) []))) [UR] []),(qa (eV 0) 20 (eC (.bl aB))),(zS (AU [(1,(zz 46 jE (eV 1) [(eV 0)]))] 16 (eV 0) (zG [(eV 1),(eV 2)]))),(qa (eV 0) 20 (eC (.bl aC))),(qa (eV 0) 6 (eV 1)),(qa (eV 0) 17 (eV 2))]
noncomputable def qK:Fn:=bH 3 0 jB
@[reducible] noncomputable def wN:List Ds:=[(zS (zz 45 qv (eV 0) [])),(zS (z8 vt [(ze (eV 0) 9),(eV 1)])),(zS (zz 45 qK (eV 0) [(eV 1),(ze (eV 0) 17)]))]
noncomputable def qy:Fn:=bH 2 0 wN
@[reducible] noncomputable def vg:List Ds:=[(zS (zz 45 qv (eV 0) [])),(zt 3 (zz 45 z_ (eV 0) [(eV 1),(eV 2)])),(zS (zz 45 qK (eV 0) [(ze (eV 0) 6),(zz 45 qD (eV 0) [(zh .FloorDiv (zh .Sub (ze (eV 3) 13) (eC (.int 1))) (ze (ze (eV 0) 9) 2))])])),(qa (eV 0) 18 (z8 xG [(ze (eV 0) 9),(ze (eV 3) 11),(zh .Sub (ze (eV 3) 13) (eC (.int 1)))])),(zq (eV 3))]
noncomputable def zx:Fn:=bH 3 1 vg
@[reducible] noncomputable def k7:List Ds:=[(zt 3 (zz 45 zx (eV 0) [(eV 1),(eV 2)])),(qa (eV 0) 19 (Qy [])),(zq (z8 qw [(ze (eV 0) 9),(eV 3)]))]
noncomputable def qJ:Fn:=bH 3 1 k7
@[reducible] noncomputable def jm:List Ds:=[(zt 3 (zz 45 zx (eV 0) [(eV 1),(eV 2)])),(zS (U3 (ze (eV 0) 19) (eV 3))),(zq mh)]
noncomputable def qZ:Fn:=bH 3 1 jm
@[reducible] noncomputable def jJ:List Ds:=[(zS (zz 45 qv (eV 0) [])),(bM (qW (tE (z8 qQ [(eV 1)]))) [(zU 20 [(eC (.str "so many are whole numbers from 1 on"))])] []),(bM (tE (zE .Lt mh (eV 1))) [(zU 22 [(eC (.str "fewer are in store"))])] []),(zt 2 mh),(qa (eV 0) 19 (bD (eV 2) (eC (.int 1)))),(zt 3 (qx [])),(Jr (.one 4) (iE (bD (eV 2) (eC (.int 0)))) [(zS (rL (eV 3) (z8 qw [(ze (eV 0) 9),(eV 4)])))]),(zq (eV 3))]
noncomputable def wx:Fn:=bH 2 3 jJ
@[reducible] noncomputable def J9:List Ds:=[(zq (u9 (wM [4] (eV 0)) (u9 (z8 z9 [(eV 0)]) (z8 zy [(bD (eV 0) (eC (.int 1)))]))))]
noncomputable def zp:Fn:=bH 1 0 J9
@[reducible] noncomputable def j4:List Ds:=[(bM (fO (qW (tE (wM [6] (eV 0)))) (tE (zE .Eq (eZ UO (eV 0)) (eC (.int 0))))) [(zq (eC (.bl aC)))] []),(zq (eZ KO (vz 1 [0] (.one 0) (iD (eV 0)) [] (u9 (z8 zT [(eV 0)]) (wM [41] (iP K9 (eV 1) (eV 0)))))))]
noncomputable def qF:Fn:=bH 1 0 j4
@[reducible] noncomputable def q_:List Ds:=[(qa (eV 1) 11 (uh 45 qi [(ze (eV 0) 9),(ze (eV 0) 14),(ze (eV 0) 15),(Bv 1 0 [1]),(ze (eV 1) 22)]))]
noncomputable def zR:Fn:=bH 2 0 q_
@[reducible] noncomputable def zO:List Ds:=[(bM (qW (tE (z8 qF [(eV 4)]))) [(zU 17 [(eC (.str "a world has a dict of one clock for each of some holders"))])] []),(qa (eV 0) 9 (eV 1)),(qa (eV 0) 14 (eV 2)),(qa (eV 0) 15 (eV 3)),(qa (eV 0) 23 (uh 43 vD [(eV 1)])),(qa (eV 0) 24 (Qy [])),(qa (eV 0) 25 (eC .non)),(qa (eV 0) 26 JF),(Jr (.one 5) (iD (eV 4)) [(zt 6 (uh 46 vW [(iP K9 (eV 4) (eV 5))])),(zS (zz 47 zR (eV 0) [(eV 6)])),(Zd (ze (eV 0) 26) (eV 5) (eV 6))])]
noncomputable def zW:Fn:=bH 5 2 zO
@[reducible] noncomputable def vw:List Ds:=[(bM (qW (tE (z8 zp [(eV 1)]))) [(zU 25 [(eC (.str "no row of a world"))])] []),(bM (xm (tE (zE .IsNot (ze (eV 0) 25) (eC .non))) (tE (zE .Lt (bD (eV 1) (eC (.int 1))) (ze (eV 0) 25)))) [(uv 26 25 (ze (eV 0) 25))] []),(bM (fO (qW (tE (z8 zT [(bD (eV 1) (eC (.int 2)))]))) (tE (iP WX (bD (eV 1) (eC (.int 2))) (ze (eV 0) 26)))) [(zU 17 [(eC (.str "no holder of the world"))])] [])]
noncomputable def zV:Fn:=bH 2 0 vw
@[reducible] noncomputable def xW:List Ds:=[(zt 2 (iP K9 (ze (eV 0) 26) (bD (eV 1) (eC (.int 2))))),(zt 3 (zz 41 wJ (ze (eV 2) 21) [(bD (eV 1) (eC (.int 1)))])),(bM (tE (zE .Eq (bD (eV 1) (eC (.int 0))) (eC (.str "ask")))) [(zq (zz 45 qJ (ze (eV 2) 11) [(eV 3),(bD (eV 1) (eC (.int 3)))]))] []),(bM (tE (zE .Eq (bD (eV 1) (eC (.int 0))) (eC (.str "take")))) [(zq (zz 45 wx (ze (eV 2) 11) [(bD (eV 1) (eC (.int 3)))]))] []),(bM (tE (zE .Eq (bD (eV 1) (eC (.int 0))) (eC (.str "store")))) [(zS (zz 45 qZ (ze (eV 2) 11) [(eV 3),(bD (eV 1) (eC (.int 3)))]))] [(bM (tE (zE .Eq (bD (eV 1) (eC (.int 0))) (eC (.str "lease")))) [(zS (zz 45 qy (ze (eV 2) 11) [(zz 43 qo (ze (eV 0) 23) [(bD (eV 1) (eC (.int 2))),(bD (eV 1) (eC (.int 3))),(eV 3),(bD (eV 1) (eC (.int 4)))])]))] [(bM (tE (zE .Eq (bD (eV 1) (eC (.int 0))) (eC (.str "back")))) [(zt 4 mh),(zS mh)] [(bM (tE (zE .Eq (bD (eV 1) (eC (.int 0))) (eC (.str "fall")))) [(zS (zz 47 zR (eV 0) [(eV 2)]))] [(qa (eV 2) 22 (eC .non)),(zS (zz 47 zR (eV 0) [(eV 2)]))])])])]),(zq (qx []))]
noncomputable def ql:Fn:=bH 2 3 xW
@[reducible] noncomputable def yF:List Ds:=[(zS (zz 47 zV (eV 0) [(eV 1)])),(zt 2 (zz 47 ql (eV 0) [(eV 1)])),(qa (eV 0) 25 (bD (eV 1) (eC (.int 1)))),(zS (rL (ze (eV 0) 24) (vz 1 [1] (.one 0) (iE (eV 2)) [] (zG [(bD (eV 1) (eC (.int 1))),(bD (eV 1) (eC (.int 2))),(eV 0)])))),(zq (eV 2))]
noncomputable def zr:Fn:=bH 2 1 yF
@[reducible] noncomputable def xO:List Ds:=[(zq (eZ rA (ze (eV 0) 24)))]
noncomputable def qp:Fn:=bH 1 0 xO
@[reducible] noncomputable def jF:List Ds:=[(zq (zz 43 w6 (ze (eV 0) 23) []))]
noncomputable def qS:Fn:=bH 1 0 jF
@[reducible] noncomputable def Z6:List Ds:=[(bM (tE (zE .Gt (bD (eV 0) (eC (.int 0))) (eC (.int 0)))) [(zt 2 (zh .Mod (bD (eV 0) (eC (.int 0))) (eV 1))),(Zd (eV 0) (eC (.int 0)) (zh .FloorDiv (bD (eV 0) (eC (.int 0))) (eV 1))),(zq (eV 2))] []),(Zd (eV 0) (eC (.int 2)) (zh .Add (bD (eV 0) (eC (.int 2))) (eC (.int 1)))),(zq (zh .Mod (z8 uF [(bD (eV 0) (eC (.int 1))),(bD (eV 0) (eC (.int 2)))]) (eV 1)))]
noncomputable def zo:Fn:=bH 2 1 Z6
@[reducible] noncomputable def ve:List Ds:=[(zt 1 (Qy [(wM [25] (eV 0)),(wM [26] (eV 0)),(wM [17] (eV 0)),(wM [13] (eV 0))])),(zt 1 (XI (eV 1) (qx [(wM [16] (eV 0)),(wM [19] (eV 0)),(wM [20] (eV 0)),(wM [18] (eV 0))]))),(zt 1 (XI (eV 1) (qx [(wM [22] (eV 0)),(wM [21] (eV 0)),(wM [15] (eV 0))]))),(bM (fO (qW (tE (wM [11] (eV 0)))) (tE (zE .NotEq (eZ uH (vz 1 [] (.one 0) (BW (eV 1)) [(tE (eV 0))] (eV 0))) (eC (.int 1))))) [(zq (eC (.str "other")))] []),(zt 2 (qx [(eC (.str "row")),(eC (.str "back")),(eC (.str "holder")),(eC (.str "name")),(eC (.str "time")),(eC (.str "ended")),(eC (.str "many")),(eC (.str "lease")),(eC (.str "empty")),(eC (.str "wait")),(eC (.str "clock"))])),(zq (bD (eV 2) (Bu (eV 1) (eC (.bl aB)))))]
noncomputable def vc:Fn:=bH 1 2 ve
@[reducible] noncomputable def Z2:List Ds:=[(zt 2 (eC .non)),(om [(zS (zz 47 zr (eV 0) [(eV 1)]))] [([10],aA 3,[(zt 2 (eV 3))])]),(bM (tE (zE .Is (eV 2) (eC .non))) [(zq (eC (.str "none")))] []),(bM (xm (tE (zE .Eq (z8 vc [(eV 2)]) (eC (.str "back")))) (fO (tE (zE .NotEq (Xl 26 25 (eV 2)) (eC (.int 20)))) (tE (wM [1] (Xl 26 25 (eV 2)))))) [(zq (eC (.str "other")))] []),(zq (z8 vc [(eV 2)]))]
noncomputable def vQ:Fn:=bH 2 2 Z2
@[reducible] noncomputable def Q8:List Ds:=[(zt 4 (eC (.str "none"))),(om [(zS (uh 47 zW [(eV 0),(eV 1),(eV 2),(eV 3)]))] [([10],aA 5,[(zt 4 (VL vc 5))])]),(zq (eV 4))]
noncomputable def wu:Fn:=bH 4 2 Q8
@[reducible] noncomputable def xy:List Ds:=[(zt 2 (qx [(eC .non),(eC (.int 5)),(eC (.str "ask")),(qx []),(zG [(eC (.str "ask"))]),(zG [(eC (.str "ask")),(eV 1)]),(zG [(eC (.str "ask")),(eV 1),(eC (.str "one"))]),(zG [(eC (.str "ask")),(eV 1),(eC (.str "one")),(eC (.int 1)),(eC (.int 1))]),(qx [(eC (.str "ask")),(eV 1),(eC (.str "one")),(eC (.int 1))])])),(zt 2 (zh .Add (eV 2) (qx [(zG [(eC (.str "asks")),(eV 1),(eC (.str "one")),(eC (.int 1))]),(zG [(eC (.str "ask")),(eC (.bl aB)),(eC (.str "one")),(eC (.int 1))]),(zG [(eC (.str "ask")),(eC .non),(eC (.str "one")),(eC (.int 1))]),(zG [(eC (.str "ask")),(eZ rJ (eV 1)),(eC (.str "one")),(eC (.int 1))])]))),(zt 2 (zh .Add (eV 2) (qx [(zG [(eC .non),(eV 1),(eC (.str "one")),(eC (.int 1))]),(zG [(zG [(eC (.str "ask"))]),(eV 1),(eC (.str "one")),(eC (.int 1))]),(zG [(eC (.str "lease")),(eV 1),(eC (.str "one")),(eC (.int 0))]),(zG [(eC (.str "lease")),(eV 1),(eC (.str "one")),(eC (.int 0)),(eC (.int 1)),(eC (.int 1))])]))),(zt 2 (zh .Add (eV 2) (qx [(zG [(eC (.str "store")),(eV 1),(eC (.str "one"))]),(zG [(eC (.str "take")),(eV 1)]),(zG [(eC (.str "take")),(eV 1),(eC (.str "one")),(eC (.int 1)),(eC (.int 1))]),(zG [(eC (.str "back")),(eV 1)]),(zG [(eC (.str "back")),(eV 1),(eC (.str "one")),(eC (.int 1))])]))),(zt 2 (zh .Add (eV 2) (qx [(zG [(eC (.str "fall")),(eV 1),(eC (.str "one")),(eC (.int 0))]),(zG [(eC (.str "bare"))]),Bw,(zG [(eC (.str "Ask")),(eV 1),(eC (.str "one")),(eC (.int 1))]),(zG [(eV 1),(eC (.str "ask")),(eC (.str "one")),(eC (.int 1))]),(zG [(eC (.str "bare")),(eV 1)])]))),(zq (bD (eV 2) (z8 zo [(eV 0),(eC (.int 28))])))]
noncomputable def wb:Fn:=bH 2 1 xy
@[reducible] noncomputable def u4:List Ds:=[(zt 2 (bD (qx [(eC (.str "two")),(eC (.str "")),(eC (.str "One")),(eC .non),(eC (.int 5)),(eC (.str "oneoneone")),(zG [(eC (.str "one"))]),(eC (.str "on e"))]) (z8 zo [(eV 0),(eC (.int 8))]))),(zt 3 (bD (qx [(eC (.int 0)),(zh .Sub (eC (.int 0)) (eC (.int 1))),(eC (.bl aB)),(eC .non),(eC (.str "1")),(eC (.int 9))]) (z8 zo [(eV 0),(eC (.int 6))]))),(zt 4 (bD (qx [(eC (.int 3)),(zh .Sub (eC (.int 0)) (eC (.int 1))),(eC (.bl aB)),(eC (.str "0")),(eC (.int 9))]) (z8 zo [(eV 0),(eC (.int 5))]))),(zt 5 (bD (qx [(eC (.int 0)),(zh .Sub (eC (.int 0)) (eC (.int 1))),(eC (.bl aB)),(eC .non),(eC (.str "1"))]) (z8 zo [(eV 0),(eC (.int 5))]))),(zt 6 (z8 zo [(eV 0),(eC (.int 8))])),(bM (tE (zE .Eq (eV 6) (eC (.int 0)))) [(zq (zG [(zG [(eC (.str "lease")),(eV 1),(eV 2),(eV 4),(eV 5)]),(eC (.str "holder"))]))] []),(bM (tE (zE .Eq (eV 6) (eC (.int 1)))) [(zq (zG [(zG [(bD (qx [(eC (.str "ask")),(eC (.str "store")),(eC (.str "take"))]) (z8 zo [(eV 0),(eC (.int 3))])),(eV 1),(eV 2),(eV 3)]),(eC (.str "holder"))]))] []),(bM (tE (zE .Eq (eV 6) (eC (.int 2)))) [(zq (zG [(zG [(bD (qx [(eC (.str "back")),(eC (.str "fall")),(eC (.str "bare"))]) (z8 zo [(eV 0),(eC (.int 3))])),(eV 1),(eV 2)]),(eC (.str "holder"))]))] []),(bM (tE (zE .Eq (eV 6) (eC (.int 3)))) [(zq (zG [(zG [(eC (.str "lease")),(eV 1),(eC (.str "ones")),(eV 4),(eV 5)]),(eC (.str "name"))]))] []),(bM (tE (zE .Eq (eV 6) (eC (.int 4)))) [(zq (zG [(zG [(eC (.str "lease")),(eV 1),(eC (.str "ones")),(bD (qx [(eC .non),(eC (.int 2))]) (z8 zo [(eV 0),(eC (.int 2))])),(eV 5)]),(eC (.str "time"))]))] []),(bM (tE (zE .Eq (eV 6) (eC (.int 5)))) [(zq (zG [(zG [(eC (.str "lease")),(eV 1),(eC (.str "ones")),(bD (qx [(eC .non),(eC (.int 2))]) (z8 zo [(eV 0),(eC (.int 2))])),(zh .Add (eC (.int 500)) (z8 zo [(eV 0),(eC (.int 9))]))]),(eC (.str "ended"))]))] []),(bM (tE (zE .Eq (eV 6) (eC (.int 6)))) [(zq (zG [(zG [(bD (qx [(eC (.str "ask")),(eC (.str "store"))]) (z8 zo [(eV 0),(eC (.int 2))])),(eV 1),(eC (.str "one")),(eV 3)]),(eC (.str "many"))]))] []),(zq (zG [(zG [(eC (.str "take")),(eV 1),(eC (.str "one")),(bD (qx [(eC (.int 0)),(zh .Sub (eC (.int 0)) (eC (.int 1))),(eC (.bl aB)),(eC .non),(eC (.str "1"))]) (z8 zo [(eV 0),(eC (.int 5))]))]),(eC (.str "many"))]))]
noncomputable def wA:Fn:=bH 2 5 u4
@[reducible] noncomputable def qA:List Ds:=[(zt 1 (z8 vT [(z8 vS [(eV 0),(eC (.int 0))])])),(zt 2 (rX 40 j0 [(eC (.int 300)),(eC (.int 3)),(eC (.int 8))])),(zt 3 (Z3 [((eC (.str "one")),(uh 41 wB [(eC (.int 0)),(qx [])])),((eC (.str "ones")),(uh 41 wB [(zh .Add (eC (.int 1)) (z8 zo [(eV 1),(eC (.int 9))])),(qx [(zG [(eC (.int 5)),(eC (.int 0)),(eC (.bl aC))])])]))])),(zt 4 (z8 zo [(eV 1),(eC (.int 3))])),(zt 5 (uh 41 wB [(eC (.int 0)),(qx [])])),(zt 6 (qx [JF,(eC .non),(Z3 [((eC (.str "")),(eV 5))]),(Z3 [((eC (.str "one")),(eC .non))]),(qx [(zG [(eC (.str "one")),(eV 5)])]),(Z3 [((eC (.str "One")),(eV 5))]),(Z3 [((eC (.int 5)),(eV 5))])])),(zt 7 (bD (qx [(zh .Sub (eC (.int 0)) (eC (.int 1))),(eC (.bl aB)),(eC .non),(eC (.str "1"))]) (z8 zo [(eV 1),(eC (.int 4))]))),(zt 8 (bD (eV 6) (z8 zo [(eV 1),(eC (.int 7))]))),(zt 9 (qx [(z8 wu [(eV 2),(eV 4),(eC (.int 0)),(eV 8)]),(z8 wu [(eV 2),(eV 7),(eC (.int 0)),(eV 8)]),(z8 wu [(eV 2),(eV 7),(eC (.int 0)),(eV 3)])])),(bM (tE (zE .NotEq (zh .Add (eV 9) (qx [(z8 wu [(eV 2),(eV 4),(eV 7),(eV 3)])])) (qx [(eC (.str "holder")),(eC (.str "holder")),(eC (.str "time")),(eC (.str "time"))]))) [(zq (eC (.bl aC)))] []),(zt 10 (uh 47 zW [(eV 2),(eV 4),(eC (.int 2)),(eV 3)])),(zS (BD (eV 3))),(zS (zz 47 zr (eV 10) [(zG [(eC (.str "lease")),(eC (.int 10)),(eC (.str "one")),(eC (.int 1)),(eC (.int 200))])])),(bM (tE (zE .NotEq (zz 47 zr (eV 10) [(zG [(eC (.str "ask")),(eC (.int 20)),(eC (.str "one")),(eC (.int 2))])]) (qx [(zh .Mult (zh .Add (zh .Mult (eC (.int 20)) (eC (.int 3))) (eC (.int 1))) (eC (.int 8))),(zh .Add (zh .Mult (zh .Add (zh .Mult (eC (.int 20)) (eC (.int 3))) (eC (.int 1))) (eC (.int 8))) (eC (.int 1)))]))) [(zq (eC (.bl aC)))] []),(zt 11 (zz 47 qp (eV 10) [])),(Jr (.one 12) (iE (zh .Add (qx [(z8 vS [(eV 0),(eC (.int 1))])]) (rW (eV 0) (pS (eC (.int 2))) (pS (eC (.int 30)))))) [(zt 1 (z8 vT [(eV 12)])),(zt 13 (zh .Add (eC (.int 20)) (bD (qx [(eC (.int 0)),(z8 zo [(eV 1),(eC (.int 60))])]) (z8 zo [(eV 1),(eC (.int 2))])))),(zt 14 (zh .Sub (eC (.int 19)) (z8 zo [(eV 1),(eC (.int 30))]))),(zt 15 (Qy [(zG [(z8 wb [(eV 1),(eV 13)]),(eC (.str "row"))]),(z8 wA [(eV 1),(eV 13)]),(zG [(z8 wb [(eV 1),(eV 14)]),(eC (.str "row"))])])),(zS (U3 (eV 15) (zG [(bD (z8 wA [(eV 1),(eV 14)]) (eC (.int 0))),(eC (.str "back"))]))),(ry [16,17] (bD (eV 15) (z8 zo [(eV 1),(eC (.int 4))]))),(bM (tE (zE .NotEq (z8 vQ [(eV 10),(eV 16)]) (eV 17))) [(zq (eC (.bl aC)))] []),(bM (fO (tE (zE .NotEq (zz 47 qp (eV 10) []) (eV 11))) (tE (zE .NotEq (zz 47 qS (eV 10) []) (qx [(zG [(eC (.str "one")),(eC (.int 1)),(eC (.int 10)),(eC (.int 210))])])))) [(zq (eC (.bl aC)))] [])]),(zS (rC (zz 47 qp (eV 10) []))),(zS (rC (zz 47 qS (eV 10) []))),(zq (u9 (zE .Eq (zz 47 zr (eV 10) [(zG [(eC (.str "ask")),(eC (.int 20)),(eC (.str "one")),(eC (.int 1))])]) (qx [(zh .Add (zh .Mult (zh .Add (zh .Mult (eC (.int 20)) (eC (.int 3))) (eC (.int 1))) (eC (.int 8))) (eC (.int 2)))])) (zE .Eq (rW (zz 47 qp (eV 10) []) pN (pS (eC (.int 2)))) (eV 11))))]
noncomputable def y9:Fn:=bH 1 17 qA
end NH.P
namespace NH.K51
open PySem PySem.Spec PyProof.Rows L2 NH NH.P
noncomputable def st(i:Nat):bC:=PySem.Challenge.pw_namehouses_k51_rows_of_a_world_refused.main.body.getD i (.Pass ⟨0,0,0,0⟩)
noncomputable def cls:List (aG×Nat):=[("Backward",26),("Clock",41),("Empty",22),("Ended",19),("HouseError",10),("NoClock",15),("NoHolder",17),("NoLease",18),("NoName",13),("NoRow",25),("NoTime",16),("TooMany",20),("ValueError",11),("Wait",21),("bool",1),("dict",6),("int",2),("list",5),("str",3),("tuple",4)]
noncomputable def fld:List (aG×Nat):=[("moments",0),("houses",1),("counts",2),("start",3),("turns",4),("holder",5),("lease",6),("until",7),("is_cut",8),("shape",9),("grants",10),("house",11),("begin",12),("end",13),("ahead",14),("stride",15),("keeper",16),("mark",17),("newest",18),("batches",19),("has_fallen",20),("clock",21),("kept",22),("common",23),("given",24),("now",25),("seats",26),("by",29)]
noncomputable def RU:cR:=⟨[GQ,GD,GC,GO,Fi,FP,GB,Gw,Ff,Bz,Gn,BE,FA,Gy,E2,FC,Gm,Fh,FE,EW,Gd,Gv,Gs,Fk,Ft,Bm,EZ,BC,EX,Hn,Fw],[Gb,UB,GK],[G2],[HF,GF,Gh,HG],[GJ,G0,G9,ZX,UQ],[Um,UE,Uz,Go,GW]⟩
theorem xj{D:DP}:bY D RU:=⟨⟨Yc,UL,Us,SX,Pp,Rw,Tc,SW,PB,SK,Ut,Uk,Rk,UP,OG,P9,SG,Pq,RN,PY,Sr,SQ,SV,Pb,PR,PH,OS,Tb,OP,Y_,O6,trivial⟩,⟨Rn,Tf,Sb,trivial⟩,⟨YI,trivial⟩,⟨Nx,Rm,R7,NY,trivial⟩,⟨S9,U6,Yv,QE,UD,trivial⟩,⟨Yt,Yg,YC,R5,YY,trivial⟩⟩
noncomputable def HN:List (aG×GM):=Y6 ["ValueError","all","bool","dict","int","isinstance","len","list","max","min","range","reversed","sorted","str","sum","tuple"] [("HouseError",10),("NoShape",12),("NoName",13),("NoClock",15),("NoTime",16),("NoHolder",17),("NoLease",18),("Ended",19),("TooMany",20),("Empty",22),("NoNote",23),("Fallen",24),("NoRow",25)] [("Wait",21,29),("Backward",26,25)]
noncomputable def vr:=aS (st 11) 0
noncomputable def HM:List (aG×GM):=(hash "Wait",GM.xin 21 29 "Wait" "by")::HN
noncomputable def HL:List (aG×GM):=(hash "by",GM.xin 21 29 "Wait" "by")::HM
noncomputable def w4:=aS (st 16) 0
noncomputable def HK:List (aG×GM):=(hash "Backward",GM.xin 26 25 "Backward" "now")::HL
noncomputable def B6:List (aG×GM):=(hash "now",GM.xin 26 25 "Backward" "now")::HK
noncomputable def Z_:=st 18
noncomputable def KG:Cn:=cn cls fld B6 ["thing"] ["isinstance","int","bool"] [] []
theorem X0:zi ((aU RU 60).s KG) (z0 Z_)=aA Q6:=by kernel_rfl
noncomputable def B4:List (aG×GM):=("is_whole",GM.fn zy)::B6
noncomputable def QD:=st 19
noncomputable def YG:Cn:=cn cls fld B4 ["thing"] ["is_whole"] [] []
theorem YQ:zi ((aU RU 60).s YG) (z0 QD)=aA W4:=by kernel_rfl
noncomputable def B3:List (aG×GM):=("is_size",GM.fn qQ)::B4
noncomputable def vK:=st 20
noncomputable def ym:Cn:=cn cls fld B3 ["thing"] ["is_whole"] [] []
theorem yp:zi ((aU RU 60).s ym) (z0 vK)=aA vL:=by kernel_rfl
noncomputable def B0:List (aG×GM):=("is_from_nought",GM.fn qd)::B3
noncomputable def Q4:=st 21
noncomputable def KW:Cn:=cn cls fld B0 ["thing","bound"] ["is_whole"] [] []
theorem Ku:zi ((aU RU 60).s KW) (z0 Q4)=aA uP:=by kernel_rfl
noncomputable def BZ:List (aG×GM):=("is_below",GM.fn qz)::B0
noncomputable def yd:=aS (st 22) 0
noncomputable def WI:Cn:=cn cls fld BZ ["self","moments","houses","counts"] ["is_size","NoShape"] [] []
theorem WZ:zi ((aU RU 60).s WI) (z0 yd)=aA y4:=by kernel_rfl
noncomputable def BY:List (aG×GM):=("Shape",GM.mk 40 aB j0)::BZ
noncomputable def Zo:=st 23
noncomputable def Km:Cn:=cn cls fld BY ["shape"] [] [] []
theorem KU:zi ((aU RU 60).s Km) (z0 Zo)=aA Z5:=by kernel_rfl
noncomputable def AR:List (aG×GM):=("names_in",GM.fn kW)::BY
noncomputable def QN:=st 24
noncomputable def YA:Cn:=cn cls fld AR ["shape","thing"] ["is_below","names_in"] [] []
theorem YU:zi ((aU RU 60).s YA) (z0 QN)=aA W9:=by kernel_rfl
noncomputable def Aj:List (aG×GM):=("is_name",GM.fn uC)::AR
noncomputable def xa:=st 25
noncomputable def WH:Cn:=cn cls fld Aj ["shape","thing"] ["is_name","NoName"] [] []
theorem Wy:zi ((aU RU 60).s WH) (z0 xa)=aA xD:=by kernel_rfl
noncomputable def Am:List (aG×GM):=("check_name",GM.fn je)::Aj
noncomputable def xl:=st 26
noncomputable def WY:Cn:=cn cls fld Am ["thing","bound"] ["is_below","NoName"] [] []
theorem Wv:zi ((aU RU 60).s WY) (z0 xl)=aA y0:=by kernel_rfl
noncomputable def wr:List (aG×GM):=("check_part",GM.fn wD)::Am
noncomputable def QZ:=st 27
noncomputable def Uc:Cn:=cn cls fld wr ["shape","moment","house","count"] ["check_part"] [] []
theorem Yb:zi ((aU RU 60).s Uc) (z0 QZ)=aA Wb:=by kernel_rfl
noncomputable def A8:List (aG×GM):=("name_of",GM.fn um)::wr
noncomputable def Zp:=st 28
noncomputable def KQ:Cn:=cn cls fld A8 ["shape","name","count","above"] ["check_name"] [] []
theorem J_:zi ((aU RU 60).s KQ) (z0 Zp)=aA Q2:=by kernel_rfl
noncomputable def FY:List (aG×GM):=("parts_of",GM.fn xR)::A8
noncomputable def FW:List (aG×GM):=("TIME_clocks",GM.cst (.int 0))::FY
noncomputable def F6:List (aG×GM):=("READING",GM.cst (.int 1))::FW
noncomputable def Ak:List (aG×GM):=("RUNS",GM.cst (.int 2))::F6
noncomputable def QB:=st 33
noncomputable def Yo:Cn:=cn cls fld Ak ["thing"] ["isinstance","tuple","len","is_whole","TIME_clocks","READING","RUNS","bool"] [] []
theorem YS:zi ((aU RU 60).s Yo) (z0 QB)=aA QC:=by kernel_rfl
noncomputable def AK:List (aG×GM):=("is_turn",GM.fn uz)::Ak
noncomputable def yK:=st 34
noncomputable def Jg:Cn:=cn cls fld AK ["thing"] ["isinstance","list","all","range","len"] ["thing"] []
theorem Jj:zi ((aU RU 60).s Jg) (z0 yK)=aA yN:=by kernel_rfl
noncomputable def A7:List (aG×GM):=("are_turns",GM.fn jP)::AK
noncomputable def xH:=aS (st 35) 0
noncomputable def Vl:Cn:=cn cls fld A7 ["self","start","turns"] ["is_whole","are_turns","NoClock","list"] [] []
theorem Vq:zi ((aU RU 60).s Vl) (z0 xH)=aA xh:=by kernel_rfl
noncomputable def ul:List (aG×GM):=("Clock",GM.mk 41 aC wB)::A7
noncomputable def jn:=aS (st 35) 1
noncomputable def ug:Cn:=cn cls fld ul ["self","time","turn"] ["is_whole","NoTime","reversed","TIME_clocks","READING","RUNS"] [] []
theorem ua:zi ((aU RU 60).s ug) (z0 jn)=aA jo:=by kernel_rfl
noncomputable def FX:List (aG×GM):=(dC "reading",GM.met 41 "reading" wJ)::ul
noncomputable def FL:List (aG×GM):=("HOUSE_leases",GM.cst (.int 0))::FX
noncomputable def EO:List (aG×GM):=("FIRST",GM.cst (.int 1))::FL
noncomputable def Ag:List (aG×GM):=("UNTIL",GM.cst (.int 2))::EO
noncomputable def ZI:=st 40
noncomputable def Ks:Cn:=cn cls fld Ag ["shape","thing"] ["isinstance","tuple","len","is_below","HOUSE_leases","is_whole","FIRST","UNTIL"] [] []
theorem KN:zi ((aU RU 60).s Ks) (z0 ZI)=aA Zv:=by kernel_rfl
noncomputable def AI:List (aG×GM):=("is_lease",GM.fn xF)::Ag
noncomputable def ke:=st 41
noncomputable def Qa:Cn:=cn cls fld AI ["shape","thing"] ["is_lease","NoLease"] [] []
theorem Qz:zi ((aU RU 60).s Qa) (z0 ke)=aA km:=by kernel_rfl
noncomputable def FJ:List (aG×GM):=("check_lease",GM.fn vt)::AI
noncomputable def E9:List (aG×GM):=("LETTERS",GM.cst (.str "abcdefghijklmnopqrstuvwxyz"))::FJ
noncomputable def At:List (aG×GM):=("LONGEST_HOLDER",GM.cst (.int 8))::E9
noncomputable def yL:=st 46
noncomputable def JC:Cn:=cn cls fld At ["thing"] ["isinstance","str","len","LONGEST_HOLDER","all"] [] []
theorem Jk:zi ((aU RU 60).s JC) (z0 yL)=aA yI:=by kernel_rfl
noncomputable def Be:List (aG×GM):=("is_holder",GM.fn zT)::At
noncomputable def xU:=aS (st 47) 0
noncomputable def Vo:Cn:=cn cls fld Be ["self","holder","lease"] ["UNTIL"] [] []
theorem WW:zi ((aU RU 60).s Vo) (z0 xU)=aA k_:=by kernel_rfl
noncomputable def AG:List (aG×GM):=("Grant",GM.mk 42 aC ja)::Be
noncomputable def Xo:=st 48
noncomputable def RT:Cn:=cn cls fld AG ["grant","first","until"] ["max","FIRST","min"] [] []
theorem Rc:zi ((aU RU 60).s RT) (z0 Xo)=aA XD:=by kernel_rfl
noncomputable def Ae:List (aG×GM):=("meets",GM.fn fY)::AG
noncomputable def qX:=st 49
noncomputable def Qd:Cn:=cn cls fld Ae ["grants","moment","span","begin","grant"] ["sorted","meets"] [] [] (aA (0,[⟨140,36,140,64⟩]))
theorem Qs:zi ((aU RU 60).s Qd) (z0 qX)=aA kg:=by kernel_rfl
noncomputable def AM:List (aG×GM):=("least_begin",GM.fn qI)::Ae
noncomputable def kf:=st 50
noncomputable def Qu:Cn:=cn cls fld AM ["grants","moment","span","met","grant","house"] ["meets","HOUSE_leases"] [] ["met"]
theorem QA:zi ((aU RU 60).s Qu) (z0 kf)=aA ki:=by kernel_rfl
noncomputable def Aa:List (aG×GM):=("least_house",GM.fn vx)::AM
noncomputable def kc:=aS (st 51) 0
noncomputable def Qo:Cn:=cn cls fld Aa ["self","shape"] [] [] ["grants"]
theorem Qv:zi ((aU RU 60).s Qo) (z0 kc)=aA kj:=by kernel_rfl
noncomputable def AW:List (aG×GM):=("Common",GM.mk 43 aC vD)::Aa
noncomputable def wX:=aS (st 51) 2
noncomputable def kI:Cn:=cn cls fld AW ["self","holder","house","moment","span"] ["is_holder","NoHolder","is_below","NoName","is_size","NoTime","is_whole"] [] []
theorem kL:zi ((aU RU 60).s kI) (z0 wX)=aA w9:=by kernel_rfl
noncomputable def A2:List (aG×GM):=(dC "check_let",GM.met 43 "check_let" q9)::AW
noncomputable def vn:=aS (st 51) 4
noncomputable def kH:Cn:=cn cls fld A2 ["self","house"] [] ["house"] []
theorem kr:zi ((aU RU 60).s kH) (z0 vn)=aA vj:=by kernel_rfl
noncomputable def Bn:List (aG×GM):=(dC "grants_of",GM.met 43 "grants_of" qM)::A2
noncomputable def wV:=aS (st 51) 3
noncomputable def k6:Cn:=cn cls fld Bn ["self","house","moment","span","begin"] ["least_house","least_begin"] [] []
theorem jY:zi ((aU RU 60).s k6) (z0 wV)=aA wR:=by kernel_rfl
noncomputable def AX:List (aG×GM):=(dC "free_lease",GM.met 43 "free_lease" zJ)::Bn
noncomputable def xC:=aS (st 51) 1
noncomputable def V3:Cn:=cn cls fld AX ["self","holder","house","moment","span","lease"] ["max","HOUSE_leases","UNTIL","Ended","Grant"] [] []
theorem Vk:zi ((aU RU 60).s V3) (z0 xC)=aA xi:=by kernel_rfl
noncomputable def Av:List (aG×GM):=(dC "let",GM.met 43 "let" qo)::AX
noncomputable def vq:=aS (st 51) 7
noncomputable def xu:Cn:=cn cls fld Av ["self"] [] [] ["return"]
theorem kX:zi ((aU RU 60).s xu) (z0 vq)=aA vG:=by kernel_rfl
noncomputable def A9:List (aG×GM):=(FR "leases",GM.met 43 "leases" w6)::Av
noncomputable def xA:=aS (st 54) 0
noncomputable def Ww:Cn:=cn cls fld A9 ["self","house","begin","end"] [] [] []
theorem Vi:zi ((aU RU 60).s Ww) (z0 xA)=aA xf:=by kernel_rfl
noncomputable def A_:List (aG×GM):=("Batch",GM.mk 44 aB kK)::A9
noncomputable def Wc:=st 55
noncomputable def YR:Cn:=cn cls fld A_ ["shape","house","place"] ["name_of"] [] []
theorem Ub:zi ((aU RU 60).s YR) (z0 Wc)=aA QY:=by kernel_rfl
noncomputable def wn:List (aG×GM):=("name_at",GM.fn xG)::A_
noncomputable def vb:=st 56
noncomputable def kF:Cn:=cn cls fld wn ["shape","batch"] ["range"] ["shape","batch"] ["return"]
theorem kM:zi ((aU RU 60).s kF) (z0 vb)=aA vl:=by kernel_rfl
noncomputable def A3:List (aG×GM):=("names_of_batch",GM.fn qw)::wn
noncomputable def kh:=st 59
noncomputable def Qe:Cn:=cn cls fld A3 ["shape","house","name","parts"] ["parts_of"] [] []
theorem Qp:zi ((aU RU 60).s Qe) (z0 kh)=aA k9:=by kernel_rfl
noncomputable def Ay:List (aG×GM):=("place_above",GM.fn vy)::A3
noncomputable def yX:=aS (st 73) 0
noncomputable def Jb:Cn:=cn cls fld Ay ["self","clock"] [] [] []
theorem JL:zi ((aU RU 60).s Jb) (z0 yX)=aA yS:=by kernel_rfl
noncomputable def Ax:List (aG×GM):=("Seat",GM.mk 46 aC vW)::Ay
noncomputable def ZE:=aS (st 73) 1
noncomputable def Kj:Cn:=cn cls fld Ax ["self","note"] [] [] []
theorem KR:zi ((aU RU 60).s Kj) (z0 ZE)=aA ZS:=by kernel_rfl
noncomputable def Ap:List (aG×GM):=(dC "jot",GM.met 46 "jot" jE)::Ax
noncomputable def Fp:aI:=(Lh (Ly (sIx (z0 (aS (st 74) 1)) 0)) 3)
noncomputable def ME:bN:=⟨1,((("World.come_up":aG)++".<locals>.")++"<lambda>"),"note",Lb Fp,Le Fp,["seat"],(zz 46 jE (eV 1) [(eV 0)]),aE⟩
noncomputable def rK:List bN:=[ME]
noncomputable def U_:Cn:=cn cls fld Ap [] [] [] []
noncomputable def wE (l:bN):List aG:=(uR l.sc).filter λx=>([]:List aG).contains x
theorem Oa:g_ (λl=>Xh (yJ U_ l (wE l)) l=aB/\v0 RU 60 (yJ U_ l (wE l)) l) rK:=⟨⟨by kernel_rfl,.inl ⟨rfl,by kernel_rfl⟩⟩,trivial⟩
noncomputable def Af:List (aG×GM):=(ZG,GM.kap rK)::Ap
noncomputable def zB:=aS (st 60) 0
noncomputable def Zc:Cn:=cn cls fld Af ["self","shape","ahead","stride","keeper","note"] ["is_from_nought","NoTime","NoNote"] [] ["batches"]
theorem Z4:zi ((aU RU 60).s Zc) (z0 zB)=aA jM:=by kernel_rfl
noncomputable def FK:List (aG×GM):=("House",GM.mk 45 aC qi)::Af
noncomputable def AV:List (aG×GM):=(lF "House",GM.mkd 45 "House" 4 qi)::FK
noncomputable def vV:=aS (st 60) 8
noncomputable def yu:Cn:=cn cls fld AV ["self"] ["Fallen"] [] []
theorem yf:zi ((aU RU 60).s yu) (z0 vV)=aA v_:=by kernel_rfl
noncomputable def Ba:List (aG×GM):=(dC "check_up",GM.met 45 "check_up" qv)::AV
noncomputable def xk:=aS (st 60) 7
noncomputable def V1:Cn:=cn cls fld Ba ["self"] [] [] []
theorem Wk:zi ((aU RU 60).s V1) (z0 xk)=aA xB:=by kernel_rfl
noncomputable def zs:List (aG×GM):=(dC "note",GM.met 45 "note" jk)::Ba
noncomputable def jK:=aS (st 60) 15
noncomputable def Q9:Cn:=cn cls fld zs ["self","lease","mark"] [] [] []
theorem ZA:zi ((aU RU 60).s Q9) (z0 jK)=aA jB:=by kernel_rfl
noncomputable def AE:List (aG×GM):=(dC "keep",GM.met 45 "keep" qK)::zs
noncomputable def wO:=aS (st 60) 1
noncomputable def jv:Cn:=cn cls fld AE ["self","lease"] ["check_lease"] [] []
theorem jx:zi ((aU RU 60).s jv) (z0 wO)=aA wN:=by kernel_rfl
noncomputable def wf:List (aG×GM):=(dC "take_lease",GM.met 45 "take_lease" qy)::AE
noncomputable def wg:=aS (st 60) 9
noncomputable def vO:Cn:=cn cls fld wf ["self"] ["NoLease"] [] []
theorem vU:zi ((aU RU 60).s vO) (z0 wg)=aA wc:=by kernel_rfl
noncomputable def Bd:List (aG×GM):=(dC "check_has_lease",GM.met 45 "check_has_lease" qf)::wf
noncomputable def vd:=aS (st 60) 13
noncomputable def kP:Cn:=cn cls fld Bd ["self"] ["place_above","HOUSE_leases"] [] []
theorem kG:zi ((aU RU 60).s kP) (z0 vd)=aA wY:=by kernel_rfl
noncomputable def Bb:List (aG×GM):=(dC "free_place",GM.met 45 "free_place" qR)::Bd
noncomputable def vm:=aS (st 60) 12
noncomputable def kQ:Cn:=cn cls fld Bb ["self","reading","many","least","begin","end","by"] ["is_size","TooMany","is_whole","NoTime","max","FIRST","UNTIL","NoLease","Wait","Batch","HOUSE_leases"] [] []
theorem kT:zi ((aU RU 60).s kQ) (z0 vm)=aA vf:=by kernel_rfl
noncomputable def Ao:List (aG×GM):=(dC "next_batch",GM.met 45 "next_batch" z_)::Bb
noncomputable def wU:=aS (st 60) 14
noncomputable def jW:Cn:=cn cls fld Ao ["self","moment"] ["min"] [] []
theorem jV:zi ((aU RU 60).s jW) (z0 wU)=aA qV:=by kernel_rfl
noncomputable def xz:List (aG×GM):=(dC "mark_behind",GM.met 45 "mark_behind" qD)::Ao
noncomputable def va:=aS (st 60) 11
noncomputable def kA:Cn:=cn cls fld xz ["self","reading","many","batch"] ["name_at"] [] []
theorem kJ:zi ((aU RU 60).s kA) (z0 va)=aA vg:=by kernel_rfl
noncomputable def AH:List (aG×GM):=(dC "hand_out",GM.met 45 "hand_out" zx)::xz
noncomputable def zH:=aS (st 60) 2
noncomputable def Qq:Cn:=cn cls fld AH ["self","reading","many","batch"] ["names_of_batch"] [] ["batches"]
theorem Qm:zi ((aU RU 60).s Qq) (z0 zH)=aA k7:=by kernel_rfl
noncomputable def FH:List (aG×GM):=(dC "ask",GM.met 45 "ask" qJ)::AH
noncomputable def Bc:List (aG×GM):=(lF (dC "ask"),GM.metd 45 "ask" 1 (.int 1) qJ)::FH
noncomputable def zu:=aS (st 60) 3
noncomputable def ui:Cn:=cn cls fld Bc ["self","reading","many","batch"] [] [] []
theorem ub:zi ((aU RU 60).s ui) (z0 zu)=aA jm:=by kernel_rfl
noncomputable def F5:List (aG×GM):=(dC "store",GM.met 45 "store" qZ)::Bc
noncomputable def Bh:List (aG×GM):=(lF (dC "store"),GM.metd 45 "store" 1 (.int 1) qZ)::F5
noncomputable def zC:=aS (st 60) 4
noncomputable def Q5:Cn:=cn cls fld Bh ["self","many","parts","names","batch"] ["is_size","TooMany","Empty","names_of_batch"] [] []
theorem uX:zi ((aU RU 60).s Q5) (z0 zC)=aA jJ:=by kernel_rfl
noncomputable def FT:List (aG×GM):=(dC "take",GM.met 45 "take" wx)::Bh
noncomputable def Fs:List (aG×GM):=(lF (dC "take"),GM.metd 45 "take" 0 (.int 1) wx)::FT
noncomputable def FZ:List (aG×GM):=("LENGTHS",GM.tbl [("lease",5),("ask",4),("store",4),("take",4),("back",3),("fall",3),("bare",3)])::Fs
noncomputable def Fx:List (aG×GM):=("WORD",GM.cst (.int 0))::FZ
noncomputable def E_:List (aG×GM):=("TIME_rows",GM.cst (.int 1))::Fx
noncomputable def Fe:List (aG×GM):=("HOLDER",GM.cst (.int 2))::E_
noncomputable def E8:List (aG×GM):=("HOUSE_rows",GM.cst (.int 3))::Fe
noncomputable def F3:List (aG×GM):=("SPAN",GM.cst (.int 4))::E8
noncomputable def wv:List (aG×GM):=("MANY",GM.cst (.int 3))::F3
noncomputable def Zl:=st 69
noncomputable def KL:Cn:=cn cls fld wv ["parts"] ["len","isinstance","WORD","str","LENGTHS"] [] []
theorem Kr:zi ((aU RU 60).s KL) (z0 Zl)=aA ZW:=by kernel_rfl
noncomputable def Ar:List (aG×GM):=("has_form",GM.fn z9)::wv
noncomputable def VV:=st 70
noncomputable def SM:Cn:=cn cls fld Ar ["thing"] ["isinstance","tuple","has_form","is_whole","TIME_rows"] [] []
theorem Sf:zi ((aU RU 60).s SM) (z0 VV)=aA J9:=by kernel_rfl
noncomputable def t_:List (aG×GM):=("is_row",GM.fn zp)::Ar
noncomputable def kZ:=st 72
noncomputable def Wq:Cn:=cn cls fld t_ ["thing"] ["isinstance","dict","len","all"] ["thing"] ["~thing"]
theorem WU:zi ((aU RU 60).s Wq) (z0 kZ)=aA j4:=by kernel_rfl
noncomputable def As:List (aG×GM):=("are_clocks",GM.fn qF)::t_
noncomputable def qh:=aS (st 74) 1
noncomputable def jq:Cn:={(cn cls fld As ["self","seat"] ["House"] ["seat"] [] (aA (1,[⟨406,64,406,91⟩]))) with fz:=["seat"]}
theorem yy:zi ((aU RU 60).s {jq with fz:=[]}) ((z0 qh).take 0)=aA (q_.take 0):=by kernel_rfl
theorem uf:zi ((aU RU 60).s jq) ((z0 qh).drop 0)=aA (q_.drop 0):=by kernel_rfl
noncomputable def Aq:List (aG×GM):=(dC "come_up",GM.met 47 "come_up" zR)::As
noncomputable def xI:=aS (st 74) 0
noncomputable def Vd:Cn:=cn cls fld Aq ["self","shape","ahead","stride","clocks","holder","seat"] ["are_clocks","NoHolder","Common","Seat"] [] ["~clocks","seats","given"]
theorem V8:zi ((aU RU 60).s Vd) (z0 xI)=aA zO:=by kernel_rfl
noncomputable def AN:List (aG×GM):=("World",GM.mk 47 aC zW)::Aq
noncomputable def vu:=aS (st 74) 3
noncomputable def xq:Cn:=cn cls fld AN ["self","row"] ["is_row","NoRow","TIME_rows","Backward","is_holder","HOLDER","NoHolder"] [] []
theorem kU:zi ((aU RU 60).s xq) (z0 vu)=aA vw:=by kernel_rfl
noncomputable def AS:List (aG×GM):=(dC "check_row",GM.met 47 "check_row" zV)::AN
noncomputable def y7:=aS (st 74) 4
noncomputable def Wr:Cn:=cn cls fld AS ["self","row","seat","reading","told"] ["HOLDER","TIME_rows","WORD","MANY","HOUSE_rows","SPAN"] [] []
theorem Wl:zi ((aU RU 60).s Wr) (z0 y7)=aA xW:=by kernel_rfl
noncomputable def AF:List (aG×GM):=(dC "done",GM.met 47 "done" ql)::AS
noncomputable def u5:=aS (st 74) 2
noncomputable def VN:Cn:=cn cls fld AF ["self","row","names"] ["TIME_rows"] ["row"] []
theorem VR:zi ((aU RU 60).s VN) (z0 u5)=aA yF:=by kernel_rfl
noncomputable def AT:List (aG×GM):=(dC "put",GM.met 47 "put" zr)::AF
noncomputable def y6:=aS (st 74) 5
noncomputable def WO:Cn:=cn cls fld AT ["self"] ["list"] [] ["return"]
theorem WS:zi ((aU RU 60).s WO) (z0 y6)=aA xO:=by kernel_rfl
noncomputable def An:List (aG×GM):=(dC "book",GM.met 47 "book" qp)::AT
noncomputable def jN:=aS (st 74) 6
noncomputable def uV:Cn:=cn cls fld An ["self"] [] [] []
theorem ZJ:zi ((aU RU 60).s uV) (z0 jN)=aA jF:=by kernel_rfl
noncomputable def ww:List (aG×GM):=(dC "leases",GM.met 47 "leases" qS)::An
noncomputable def y_:=st 76
noncomputable def JH:Cn:=cn cls fld ww ["_law_script","_law_k"] ["len"] [] []
theorem V_:zi ((aU RU 60).s JH) (z0 y_)=aA yE:=by kernel_rfl
noncomputable def AY:List (aG×GM):=("_law_cell_at",GM.fn vS)::ww
noncomputable def QM:=st 77
noncomputable def Yk:Cn:=cn cls fld AY ["_law_cell","_law_k","_law_number"] [] [] []
theorem Uh:zi ((aU RU 60).s Yk) (z0 QM)=aA W6:=by kernel_rfl
noncomputable def AA:List (aG×GM):=("_law_mixed",GM.fn uF)::AY
noncomputable def ZN:=st 78
noncomputable def K3:Cn:=cn cls fld AA ["_law_cell"] [] [] ["return"]
theorem K7:zi ((aU RU 60).s K3) (z0 ZN)=aA Zt:=by kernel_rfl
noncomputable def Al:List (aG×GM):=("_law_digits",GM.fn vT)::AA
noncomputable def Zg:=st 79
noncomputable def Kx:Cn:=cn cls fld Al ["_law_source","_law_many","_law_found"] ["_law_mixed"] [] []
theorem Kl:zi ((aU RU 60).s Kx) (z0 Zg)=aA Z6:=by kernel_rfl
noncomputable def AC:List (aG×GM):=("_law_next",GM.fn zo)::Al
noncomputable def kR:=st 80
noncomputable def Zb:Cn:=cn cls fld AC ["_law_e","_law_some","_law_words"] ["isinstance","NoRow","Backward","NoHolder","NoName","NoTime","Ended","TooMany","NoLease","Empty","Wait","NoClock","ValueError","len"] [] ["_law_some","?"]
theorem JW:zi ((aU RU 60).s Zb) (z0 kR)=aA ve:=by kernel_rfl
noncomputable def FS:List (aG×GM):=("_law_word",GM.fn vc)::AC
theorem VJ:zi ((aU RU 60).s Zb.han) (z0 kR)=aA ve:=by kernel_rfl
noncomputable def AQ:List (aG×GM):=(Vp "_law_word",GM.fnh "_law_word" vc)::FS
noncomputable def Zj:=st 81
noncomputable def X1:Cn:=cn cls fld AQ ["_law_world","_law_row","_law_said_here","_law_e"] ["HouseError","_law_word","isinstance","bool"] [] []
theorem Ko:zi ((aU RU 60).s X1) (z0 Zj)=aA Z2:=by kernel_rfl
noncomputable def AZ:List (aG×GM):=("_law_said",GM.fn vQ)::AQ
noncomputable def ZH:=st 82
noncomputable def Kz:Cn:=cn cls fld AZ ["_law_shape","_law_ahead","_law_stride","_law_clocks","_law_word_here","_law_e"] ["World","HouseError","_law_word"] [] []
theorem JT:zi ((aU RU 60).s Kz) (z0 ZH)=aA Q8:=by kernel_rfl
noncomputable def AL:List (aG×GM):=("_law_made",GM.fn wu)::AZ
noncomputable def xS:=st 83
noncomputable def WC:Cn:=cn cls fld AL ["_law_source","_law_t","_law_some"] ["str","_law_next"] [] []
theorem Vf:zi ((aU RU 60).s WC) (z0 xS)=aA xy:=by kernel_rfl
noncomputable def Ah:List (aG×GM):=("_law_no_row",GM.fn wb)::AL
noncomputable def u6:=st 84
noncomputable def Js:Cn:=cn cls fld Ah ["_law_source","_law_t","_law_strange","_law_number","_law_house","_law_span","_law_way"] ["_law_next"] [] []
theorem VO:zi ((aU RU 60).s Js) (z0 u6)=aA u4:=by kernel_rfl
noncomputable def Fl:List (aG×GM):=("_law_wrong",GM.fn wA)::Ah
noncomputable def wh:=st 85
noncomputable def YN:Cn:=cn cls fld Fl ["_law_script","_law_source","_law_shape","_law_clocks","_law_ahead","_law_still","_law_bad","_law_wrong_here","_law_odd","_law_found","_law_world","_law_book","_law_cell","_law_t","_law_early","_law_some","_law_row","_law_due"] ["_law_digits","_law_cell_at","Shape","Clock","_law_next","_law_made","World","_law_no_row","_law_wrong","_law_said"] [] ["{:}","~_law_clocks","_law_some"]
theorem U5:zi ((aU RU 60).s YN) (z0 wh)=aA qA:=by kernel_rfl
end NH.K51
namespace NH
open PySem PySem.Spec PyProof.Rows L2
theorem swT{α:Type}{a b:α}{Q:α->Prop}(h:∀P∈[a,b],Q P):∀P∈[b,a],Q P:=λP c=>h P (by rcases cA.mp c with e|e;exact d9 _ (bT.mpr e);rw[bT.mp e];exact eU)
theorem zY{i:Decidable p}(h1:p->A)(h2:¬p->B):ib (decide p) A B:=by
 cases i with
 |isTrue h=>exact h1 h
 |isFalse h=>exact h2 h
theorem wQ{i:Decidable p}(h:p)(a:A):ib (decide p) A B:=zY (λ_=>a) λn=>absurd h n
theorem qG{i:Decidable p}(h:¬p)(b:B):ib (decide p) A B:=zY (λy=>absurd y h) λ_=>b
theorem Xx{i:Decidable p}(h1:p->B)(h2:¬p->A):ib (!decide p) A B:=by
 cases i with
 |isTrue h=>exact h1 h
 |isFalse h=>exact h2 h
theorem uk{i:Decidable p}(h:p)(b:B):ib (!decide p) A B:=Xx (λ_=>b) λn=>absurd h n
theorem vX(h1:b=aB->A)(h2:b=aC->B):ib b A B:=by
 cases b with
 |true=>exact h1 rfl
 |false=>exact h2 rfl
theorem EU(h:b=aB)(a:A):ib b A B:=by rw[h];exact a
theorem FU(h:b=aC)(a:B):ib b A B:=by rw[h];exact a
theorem JR{tg:Tg}{g:Sl->aK->RE (Option T)}{lv:aK->Prop}{τ:Sl}{μ:aK}{Z:Xp}(f:T->Option T){xs:List T}{K:List T->aK->Prop}
  (h:∀x∈xs,∀k:Option T->aK->Prop,k (f x) μ->∃d,ir tg x τ=aA d/\g d μ k Z) (k:K (xs.filterMap f) μ) (l:lv μ:=by trivial):qq tg g lv τ xs μ K Z:=by
 induction xs generalizing K with
 |nil=>exact k
 |cons x r j=>
  unfold qq;obtain⟨d,e,m⟩:=h x eU (λo b=>lv b/\(match o with
   |some y=>(qq tg g lv τ r b).bind λc a=>RE.ok (y::c) a
   |none=>qq tg g lv τ r b) K Z) (by
    refine⟨l,?_⟩;cases q:f x with
    |none=>
     rw[t5 q] at k;exact j (λy i=>h y (d9 _ i)) k
    |some y=>
     rw[t4 q] at k;exact j (K:=λc a=>K (y::c) a) (λy i=>h y (d9 _ i)) k)
  exact⟨d,e,m⟩
theorem yv{tg:Tg}{g:Sl->aK->RE (Option T)}{lv:aK->Prop}{τ:Sl}{μ:aK}{Z:Xp}(f:T->T){xs:List T}{K:List T->aK->Prop}
  (h:∀x∈xs,∀k:Option T->aK->Prop,k (aA (f x)) μ->∃d,ir tg x τ=aA d/\g d μ k Z) (k:K (xs.map f) μ) (a:lv μ:=by trivial):qq tg g lv τ xs μ K Z:=
 JR (λx=>aA (f x)) h (by rw[mL];exact k) a
theorem vM{tg:Tg}{body:Ds}{lv:aK->Prop}{xs:List T}{τ:Sl}{μ:aK}{E:En}(I:Nat->Sl->aK->Prop)(h0:I 0 τ μ)
  (h:∀i x τ μ,xs[i]?=aA x->I i τ μ->∀N:Sl->aK->Prop,(∀τ μ,I (i+1) τ μ->N τ μ)->∃d,ir tg x τ=aA d/\body d μ (E.turn N))
  (k:∀τ μ,I xs.length τ μ->E.nx τ μ) (l:∀i τ μ,I i τ μ->lv μ:=by intros;trivial):f6 tg body lv xs τ μ E:=by
 have go:∀(rest:List T) (i:Nat) (τ:Sl) (μ:aK),xs.drop i=rest->i<=xs.length->I i τ μ->f6 tg body lv rest τ μ E:=by
  intro rest;induction rest with
  |nil=>
   intro i τ μ hd m f;have:i=xs.length:=by
    have:=congrArg ll hd;simp at this;omega
   subst this;exact k τ μ f
  |cons x r j=>
   intro i τ μ hd m f;have g:xs[i]?=aA x:=by
    have:(xs.drop i)[0]?=aA x:=by rw[hd];rfl
    simpa using this
   have c:i<xs.length:=(bI.mp g).1;have e:xs.drop (i+1)=r:=by
    have:(xs.drop i).tail=r:=by rw[hd];rfl
    simpa using this
   exact h i x τ μ g f _ λa b z=>⟨l _ _ _ z,j (i+1) a b e c z⟩
 exact go xs 0 τ μ rfl (hL _) h0
theorem YZ{body:List Ds}(I:Nat->Sl->aK->Prop)(n:Nat)(h0:I n τ μ)
  (h:∀n τ μ,I n τ μ->∀N:Sl->aK->Prop,(∀m τ μ,m<n->I m τ μ->N τ μ)->c τ μ (λb d=>ib b (qe body τ d (E.turn N)) (E.nx τ d)) (λk fs d=>E.ex k fs τ d)):WE c body τ μ E:=
 ⟨I,⟨n,h0⟩,λn τ μ f=>h n τ μ f _ λm τ μ a e=>⟨m,a,e⟩⟩
end NH
namespace NH.P
open PySem L2 NH
section
variable {μ:aK}{K:T->aK->Prop}{Z:Xp}
theorem zd(k:K (.bl aB) μ):zy [.int i] μ K Z:=⟨rfl,k⟩
theorem wW(k:K (.bl aC) μ):zy [.str i] μ K Z:=⟨rfl,k⟩
noncomputable def BV(z:aG):Bool:=!(nV "abcdefghijklmnopqrstuvwxyz" z 0 (sw "abcdefghijklmnopqrstuvwxyz") 1).isEmpty
noncomputable def mS(z:aG):List aG:=z.cps.toList.map λc=>⟨#[c]⟩
theorem Ye(z:aG):Zx z=(mS z).map T.str:=by simp[Zx,mS]
theorem Pl(z:aG):(mS z).length=z.length:=by simp[mS,sw]
noncomputable def zP(z:aG):Bool:=decide (1<=(z.length:Int))&&decide ((z.length:Int)<=8)&&(mS z).all BV
theorem QS{α:Type}(f:α->Bool):∀xs:List α,bR (xs.map λx=>T.bl (f x))=aA (xs.map f)
 |[]=>rfl
 |x::r=>by simp[bR,QS f r]
theorem zQ(c:z.length<=aQ)(q:K (.bl (zP z)) μ):zT [.str z] μ K Z:=by
 unfold zT;refine⟨rfl,?_⟩;unfold zP at q;refine⟨c,?_⟩;refine zY (λb=>?_) (λb=>?_)
 ·refine Xx (λa=>?_) (λa=>?_)
  ·show (Zx z).length<=aQ/\_;rw[Ye];refine⟨by rw[cJ,Pl];exact c,?_⟩;refine yv (λx=>match x with|.str y=>.bl (BV y)|t=>t) (λx d k e=>?_) ?_
   ·obtain⟨y,f,rfl⟩:=eR.mp d;exact⟨_,rfl,e⟩
   ·rw[hO];refine⟨_,QS BV (mS z),?_⟩;rw[decide_eq_true b,decide_eq_true a] at q;rw[px];exact q
  ·have q:K (.bl aC) μ:=by simpa[a] using q
   exact q
 ·have q:K (.bl aC) μ:=by simpa[b] using q
  exact q
theorem jw(a:z.length<=aQ)(h:zP z=b)(q:K (.bl b) μ):zT [.str z] μ K Z:=zQ a (by rw[h];exact q)
theorem VW{xs:List α}{k:Int}(h0:0<=k)(h1:k<xs.length):vY xs k=xs[k.toNat]?:=by
 unfold vY oo;rw[if_pos h0,if_pos h1];rfl
theorem Sw{xs:List α}{lo a:Option Int}(h:x∈Qg xs lo a):x∈xs:=Ek (ra h)
theorem RH{ns:List Int}{lo a:Option Int}{i:Nat}(h:(Qg (ns.map T.int) lo a)[i]?=aA x):∃n,x=.int n:=by
 obtain⟨n,_,e⟩:=eR.mp (Sw (b9 h));exact⟨n,e.symm⟩
end
section
variable {μ μ1 μ2:aK}{K:T->aK->Prop}{Z:Xp}
noncomputable def St (μ:aK)(i:Nat):Prop:=∃a b c:Int,μ[i]?=aA (.lst [.int a,.int b,.int c])
structure Up(μ:aK)(i:Nat)(μ':aK):Prop where
 len:μ'.length=μ.length
 ot:∀j,j≠i->μ'[j]?=μ[j]?
 st:St μ' i
theorem Up.trans(a:Up μ i μ1)(b:Up μ1 i μ2):Up μ i μ2:=⟨b.len.trans a.len,λj h=>(b.ot j h).trans (a.ot j h),b.st⟩
theorem aH(h:μ[i]?=aA x):(μ.set i y)[i]?=aA y:=by
 have:=(bI.mp h).1;simp[this]
theorem Up.set(h:μ[i]?=aA x):Up μ i (μ.set i (.lst [.int a,.int b,.int c])):=⟨by simp,λj d=>by rw[bW (b_ d)],a,b,c,aH h⟩
theorem za:(μ++[x])[μ.length]?=aA x:=by rw[fA (bE _)];simp
theorem z5{i:Nat}(h:μ[i]?=aA o):(μ++[x])[i]?=aA o:=by
 rw[dN (bI.mp h).1];exact h
noncomputable abbrev bG(x y z:Int):T:=.obj 40 [(0,.int x),(1,.int y),(2,.int z)]
theorem qk(k:K (.bl (decide (1<=n))) μ):qQ [.int n] μ K Z:=by
 unfold qQ;refine⟨rfl,?_⟩;refine zd ?_;exact k
theorem Qw(hx:1<=x)(b:1<=y)(a:1<=z)(q:K .non [.obj 40 [(0,.int x),(1,.int y),(2,.int z)]]):j0 [.mut 0,.int x,.int y,.int z] [.obj 40 []] K Z:=by
 unfold j0;refine⟨rfl,?_⟩;refine qk ?_;refine wQ hx ?_;refine qk ?_;refine wQ b ?_;refine qk ?_;refine uk a ?_;refine⟨_,_,rfl,by decide,_,_,rfl,(by (show (1:Nat)<900);decide),_,_,rfl,(by (show (2:Nat)<900);decide),?_⟩;exact q
end
section
variable {μ:aK}{K:T->aK->Prop}{Z:Xp}
theorem kY{ns:List Int}(hk:0<=k)(q:∀c,K (.int c) μ):vS [.lst (ns.map T.int),.int k] μ K Z:=by
 unfold vS;refine⟨rfl,?_⟩;refine zY (λh=>?_) (λh=>?_)
 ·have a:k.toNat<ns.length:=by
   rw[cJ] at h;omega
  refine⟨.int ns[k.toNat],?_,q _⟩;rw[VW hk h,eE,fR a];rfl
 ·exact q _
end
section
variable {μ μ1 μ2:aK}{K:T->aK->Prop}{Z:Xp}
theorem Kv{tg:Tg}{τ:Sl}{x:T}{r:List T}{K:List T->aK->Prop}(h:∃d,ir tg x τ=aA d/\g d μ (λo μ1=>lv μ1/\(match o with
  |some y=>qq tg g lv τ r μ1 (λys μ2=>K (y::ys) μ2) Z
  |none=>qq tg g lv τ r μ1 K Z)) Z):qq tg g lv τ (x::r) μ K Z:=by
 obtain⟨d,e,h⟩:=h;unfold qq;refine⟨d,e,?_⟩;have:(λ(o:Option T) μ1=>lv μ1/\(match o with
  |some y=>qq tg g lv τ r μ1 (λys μ2=>K (y::ys) μ2) Z
  |none=>qq tg g lv τ r μ1 K Z))=λo μ1=>lv μ1/\(match o with
   |some y=>(qq tg g lv τ r μ1).bind λys μ2=>RE.ok (y::ys) μ2
   |none=>qq tg g lv τ r μ1) K Z:=by
  funext o μ1;cases o<;>rfl
 rw[this] at h;exact h
theorem QH{tg:Tg}{τ:Sl}{K:List T->aK->Prop}(h:K [] μ):qq tg g lv τ [] μ K Z:=by
 unfold qq;exact h
structure Sy(y z:Int):Prop where
 y1:1<=y
 y2:y<=10000000000
 z1:1<=z
 z2:z<=10000000000
theorem VY(s:Sy y z)(q:K (.int (x*y*z)) μ):kW [bG x y z] μ K Z:=by
 obtain⟨d,c,b,a⟩:=s;unfold kW;refine⟨rfl,?_⟩;exact⟨.inr ⟨by unfold big;lia,by unfold big;lia⟩,.inr ⟨by unfold big;lia,by unfold big;lia⟩,q⟩
theorem Jl(s:Sy y z)(a:(decide (0<=n)&&decide (n<x*y*z))=b)(q:K (.bl b) μ):uC [bG x y z,.int n] μ K Z:=by
 subst a;unfold uC;refine⟨rfl,?_⟩;refine VY s ?_;unfold qz;refine⟨rfl,?_⟩;refine zd ?_;refine zY (λh=>?_) (λh=>?_)
 ·have q:K (.bl (decide (n<x*y*z))) μ:=by simpa[h] using q
  exact q
 ·have q:K (.bl aC) μ:=by simpa[h] using q
  exact q
theorem Qk(s:Sy y z)(h:(decide (0<=n)&&decide (n<x*y*z))=aB)(q:K .non μ):je [bG x y z,.int n] μ K Z:=by
 unfold je;refine⟨rfl,?_⟩;refine Jl s h ?_;exact q
end
section
variable {μ μ1 μ2:aK}{K:T->aK->Prop}{Z:Xp}
structure Gr where
 ho:aG
 h:Int
 f:Int
 u0:Int
 u:Int
 ct:Bool
noncomputable def Gr.L(G:Gr):T:=.tup [.int G.h,.int G.f,.int G.u0]
noncomputable def Gr.O (G:Gr):MO:=.obj 42 [(5,.str G.ho),(6,G.L),(7,.int G.u),(8,.bl G.ct)]
noncomputable abbrev Gp:=Nat×Gr
noncomputable abbrev Gp.t(p:Gp):T:=.mut p.1
structure Bk(μ:aK)(c g:Nat)(sh:T)(ps:List Gp):Prop where
 com:μ[c]?=aA (.obj 43 [(9,sh),(10,.mut g)])
 lst:μ[g]?=aA (.lst (ps.map Gp.t))
 at_:∀p∈ps,μ[p.1]?=aA p.2.O
 nd:(ps.map (·.1)).Nodup
structure Ch(S:List Nat)(μ μ':aK):Prop where
 len:μ.length<=μ'.length
 ot:∀i,i<μ.length->i∉S->μ'[i]?=μ[i]?
theorem Ch.refl:Ch S μ μ:=⟨bE _,λ_ _ _=>rfl⟩
theorem Ch.trans(a:Ch S μ μ1)(b:Ch S μ1 μ2):Ch S μ μ2:=⟨cU a.len b.len,λi h n=>(b.ot i (cY h a.len) n).trans (a.ot i h n)⟩
theorem Ch.mono(a:Ch S μ μ1)(h:∀x∈S,x∈d):Ch d μ μ1:=⟨a.len,λi b n=>a.ot i b λz=>n (h i z)⟩
theorem Ch.app:Ch [] μ (μ++[x]):=⟨by simp,λi h _=>dN h⟩
theorem Ch.set:Ch [i] μ (μ.set i x):=⟨by simp,λj h n=>by rw[bW];rintro rfl;exact n (by simp)⟩
theorem Ch.get(a:Ch S μ μ1)(h:μ[i]?=aA x)(n:i∉S):μ1[i]?=aA x:=(a.ot i (bI.mp h).1 n).trans h
theorem Bk.ch(B:Bk μ c g d ps)(a:Ch S μ μ1)(h1:c∉S)(h2:g∉S)(e:∀p∈ps,p.1∉S):Bk μ1 c g d ps:=
 ⟨a.get B.com h1,a.get B.lst h2,λp b=>a.get (B.at_ p b) (e p b),B.nd⟩
noncomputable def mt(G:Gr)(b e:Int):Bool:=decide ((if G.f<b then b else G.f)<(if e<G.u then e else G.u))
theorem yt:mt G b e=aB↔G.f<G.u/\G.f<e/\b<G.u/\b<e:=by
 unfold mt;rw[decide_eq_true_eq];split<;>split<;>lia
theorem Y0(h:¬(G.f<G.u/\G.f<e/\b<G.u/\b<e)):mt G b e=aC:=by
 cases q:mt G b e with
 |false=>rfl
 |true=>exact absurd (yt.mp q) h
theorem ZD(h:μ[a]?=aA G.O)(q:K (.bl (mt G b e)) μ):fY [.mut a,.int b,.int e] μ K Z:=by
 unfold fY;refine⟨rfl,_,_,_,h,rfl,_,rfl,_,_,_,h,rfl,?_⟩;exact q
theorem wj{β:Type}{tg:Tg}{g:Sl->aK->RE (Option T)}{lv:aK->Prop}{τ:Sl}(t:β->T)(f:β->Option T){ps:List β}{K:List T->aK->Prop}
  (h:∀p∈ps,∀k:Option T->aK->Prop,k (f p) μ->∃d,ir tg (t p) τ=aA d/\g d μ k Z) (k:K (ps.filterMap f) μ) (i:lv μ:=by trivial):qq tg g lv τ (ps.map t) μ K Z:=by
 induction ps generalizing K with
 |nil=>exact QH k
 |cons x r c=>
  refine Kv ?_;refine h x eU _ ⟨i,?_⟩;cases q:f x with
  |none=>
   rw[t5 q] at k;exact c (λy b=>h y (d9 _ b)) k
  |some y=>
   rw[t4 q] at k;exact c (K:=λe a=>K (y::e) a) (λy b=>h y (d9 _ b)) k
theorem WQ:∀{bs:List Gp},(∀p∈bs,μ[p.1]?=aA p.2.O)->fD (bD (ze (eV 0) 6) (eC (.int 1))) μ (bs.map Gp.t) (bs.map (·.2.f))
 |[],_=>trivial
 |p::r,h=>⟨⟨_,_,_,h p eU,rfl,_,rfl,rfl,rfl⟩,WQ λq a=>h q (d9 _ a)⟩
theorem ZV{bs:List Gp}{m n:Int}{i0:Nat}(h:∀p∈bs,μ[p.1]?=aA p.2.O)(M:bs.length<64)(I:μ[i0]?=aA (.tab 0))(q:∀b,m<=b->(∀p∈bs,mt p.2 b (b+n)=aC)->K (.int b) μ):qI [.lst (bs.map Gp.t),.int m,.int n] μ K Z:=by
 unfold qI;refine⟨rfl,?_⟩;refine⟨⟨i0,I⟩,by rw[cJ];exact M,bs.map (·.2.f),WQ h,λR l J=>?_⟩;have ez:(bs.map (·.2.f)).zip (bs.map Gp.t)=bs.map λp=>(p.2.f,Gp.t p):=by rw[CA,]
 rw[ez] at l;obtain⟨d,D,rfl⟩:=u_ l rfl;rw[hO,l7] at *;have s:∀p∈d,μ[p.1]?=aA p.2.O:=λp l=>h p (D.mem_iff.mp l);refine vM (λi y k=>∃b o,y=[aA (.lst (bs.map Gp.t)),aA (.int m),aA (.int n),aA (.int b),o]/\k=μ/\m<=b/\∀p∈d.take i,mt p.2 b (b+n)=aC) ⟨m,aE,rfl,rfl,nA _,by simp⟩ ?_ ?_
 ·rintro i x y k r ⟨b,o,rfl,rfl,B,v⟩ N F;rw[eE] at r;cases c:d[i]? with
  |none=>rw[c] at r;cases r
  |some p=>
   rw[c] at r;cases r;have E:p∈d:=b9 c;have L:i<d.length:=(bI.mp c).1;have et:d.take (i+1)=d.take i++[p]:=by rw[l8,c];rfl
   have H:∀g∈d.take i,g.2.f<=p.2.f:=λg a=>by
    obtain⟨j,w⟩:=i4.mp a;rw[D8] at w;split at w
    ·rename_i A;obtain⟨C,Q⟩:=bI.mp w;obtain⟨G,P⟩:=bI.mp c;have:=(nW.mp J) j i C G A;rw[Q,P] at this;exact this
    ·cases w
   refine⟨_,rfl,?_⟩;refine ZD (s p E) ?_;refine vX (λe=>?_) (λe=>?_)
   ·refine⟨_,_,_,s p E,rfl,?_⟩;have e:=yt.mp e;refine F _ _ ⟨p.2.u,_,rfl,rfl,by omega,λg a=>?_⟩;rw[et] at a;rcases cH.mp a with a|a
    ·have C:=v g a;have G:=H g a;refine Y0 λz=>?_;have:mt g.2 b (b+n)=aB:=yt.mpr (by omega);rw[C] at this;cases this
    ·rw[bT.mp a];exact Y0 (by omega)
   ·refine F _ _ ⟨b,_,rfl,rfl,B,λg a=>?_⟩;rw[et] at a;rcases cH.mp a with a|a
    ·exact v g a
    ·rw[bT.mp a];exact e
 ·rintro y k ⟨b,o,rfl,rfl,B,v⟩;refine q b B λp l=>v p ?_;rw[cJ,n7 (bE _)];exact D.mem_iff.mpr l
end
section
variable {μ:aK}{K:T->aK->Prop}{Z:Xp}
theorem Z8:∀(a:List (Key×T)),(zL z (xr z t a)).isSome=aB:=by
 intro a;unfold xr;split
 ·rename_i h;induction a with
  |nil=>simp at h
  |cons p r b=>
   rw[dU];unfold zL;by_cases e:p.1=z
   ·rw[if_pos e,if_pos e];rfl
   ·rw[if_neg e,if_neg e];exact b (by simpa[e] using h)
 ·rename_i h;induction a with
  |nil=>simp[zL]
  |cons p r b=>
   have e:p.1≠z:=λe=>h (by simp[e]);rw[pD];unfold zL;rw[if_neg e];exact b λz=>h (by simp only[nC,nQ];exact .inr z)
theorem WB(ne:y≠z):∀(b:List (Key×T)),(zL y (xr z t b)).isSome=(zL y b).isSome:=by
 intro b;unfold xr;split
 ·rename_i h;clear h;induction b with
  |nil=>rfl
  |cons p r c=>
   rw[dU];unfold zL;by_cases e:p.1=z
   ·rw[if_pos e];have a:p.1≠y:=λd=>ne (d.symm.trans e);rw[if_neg (show ¬(p.1,t).1=y from a),if_neg a];exact c
   ·rw[if_neg e];by_cases a:p.1=y
    ·rw[if_pos a,if_pos a]
    ·rw[if_neg a,if_neg a];exact c
 ·rename_i h;clear h;induction b with
  |nil=>
   show (zL y [(z,t)]).isSome=_;unfold zL;rw[if_neg (λw=>ne w.symm)];rfl
  |cons p r c=>
   rw[pD];unfold zL;by_cases a:p.1=y
   ·rw[if_pos a,if_pos a]
   ·rw[if_neg a,if_neg a];exact c
theorem RX:(xr z t d).length<=d.length+1:=by
 unfold xr;split<;>simp
noncomputable def mU (a:List (Key×T))(h:Int):Bool:=(zL (.inl h) a).isSome
theorem yl:∀(b:List (Key×T)),∃B:Int,∀h,mU b h=aB->h<B
 |[]=>⟨0,λh e=>by cases e⟩
 |(.inl a,t)::r=>by
  obtain⟨B,c⟩:=yl r;refine⟨if a<B then B else a+1,λh e=>?_⟩;unfold mU zL at e;by_cases z:(le a:Key)=.inl h
  ·have:a=h:=by injection z
   split<;>omega
  ·rw[if_neg z] at e;have:=c h e;split<;>omega
 |(.inr a,t)::r=>by
  obtain⟨B,c⟩:=yl r;refine⟨B,λh e=>?_⟩;unfold mU zL at e;rw[if_neg (by intro z;cases z)] at e;exact c h e
theorem uY{ps:List Gp}{g:Nat}{m n:Int}(A:μ[g]?=aA (.lst (ps.map Gp.t)))(h:∀p∈ps,μ[p.1]?=aA p.2.O)(L:ps.length<1000)
  (q:∀b d,0<=b->(∀p∈ps,p.2.h=b->mt p.2 m (m+n)=aC)->Ch [] μ d->K (.int b) d):vx [.mut g,.int m,.int n] μ K Z:=by
 have H:g<μ.length:=(bI.mp A).1;have E:∀p∈ps,p.1<μ.length:=λp y=>(bI.mp (h p y)).1;unfold vx;refine⟨rfl,_,z5 A,?_⟩;refine vM (λi j d=>∃c o,j=[aA (.mut g),aA (.int m),aA (.int n),aA (.mut μ.length),o,aE]/\d=μ++[.dic c]/\c.length<=i/\∀p∈ps.take i,mt p.2 m (m+n)=aB->mU c p.2.h=aB) ⟨[],aE,rfl,rfl,bE _,by simp⟩ ?_ ?_ ?_
 ·rintro i x j d l ⟨c,o,rfl,rfl,G,r⟩ N v;rw[eE] at l;cases f:ps[i]? with
  |none=>rw[f] at l;cases l
  |some p=>
   rw[f] at l;cases l;have C:p∈ps:=b9 f;have F:i<ps.length:=(bI.mp f).1;have et:ps.take (i+1)=ps.take i++[p]:=by rw[l8,f];rfl
   refine⟨_,rfl,?_⟩;refine ZD (z5 (h p C)) ?_;refine vX (λe=>?_) (λe=>?_)
   ·refine⟨_,_,_,z5 (h p C),rfl,_,rfl,?_⟩;refine .inr ⟨_,za,by unfold aQ;lia,?_⟩;have es:(μ++[MO.dic c]).set μ.length (MO.dic (xr (.inl p.2.h) (.bl aB) c))=μ++[MO.dic (xr (.inl p.2.h) (.bl aB) c)]:=by
     rw[nZ _ _ (bE _)];simp
    rw[es];refine v _ _ ⟨_,_,rfl,rfl,cU RX (by lia),λu a s=>?_⟩;by_cases z:u.2.h=p.2.h
    ·rw[z];exact Z8 _
    ·unfold mU;rw[WB (λw=>z (by injection w))];rw[et] at a;rcases cH.mp a with a|a
     ·exact r u a s
     ·rw[bT.mp a] at z;exact absurd rfl z
   ·refine v _ _ ⟨c,_,rfl,rfl,by lia,λu a s=>?_⟩;rw[et] at a;rcases cH.mp a with a|a
    ·exact r u a s
    ·rw[bT.mp a,e] at s;cases s
 ·rintro j d ⟨c,o,rfl,rfl,G,r⟩;rw[cJ,n7 (bE _)] at r;obtain⟨B,J⟩:=yl c;refine YZ (λk j d=>∃b:Int,0<=b/\k=(B-b).toNat/\j=[aA (.mut g),aA (.int m),aA (.int n),aA (.mut μ.length),o,aA (.int b)]/\d=μ++[.dic c]) (B-0).toNat ⟨0,nA _,rfl,rfl,rfl⟩ ?_;rintro k j d ⟨b,I,rfl,rfl,rfl⟩ N v;refine⟨_,za,?_⟩;refine vX (λe=>?_) (λe=>?_)
  ·have:=J b e;exact v _ _ _ (show (B-(b+1)).toNat<(B-b).toNat by lia) ⟨b+1,by lia,rfl,rfl,rfl⟩
  ·refine q b _ I (λp y D=>?_) Ch.app;cases z:mt p.2 m (m+n) with
   |false=>rfl
   |true=>
    have:=r p y z;rw[D] at this;unfold mU at this;rw[e] at this;cases this
 ·rintro i j d ⟨c,o,rfl,rfl,_⟩;exact z5 A
end
section
variable {μ μ1:aK}{K:T->aK->Prop}{Z:Xp}{c g i0:Nat}{x y z:Int}{ps:List Gp}
theorem Wm(q:K (.bl (decide (0<=n)&&decide (n<b))) μ):qz [.int n,.int b] μ K Z:=by
 unfold qz;refine⟨rfl,?_⟩;refine zd ?_;refine zY (λh=>?_) (λh=>?_)
 ·have q:K (.bl (decide (n<b))) μ:=by simpa[h] using q
  exact q
 ·have q:K (.bl aC) μ:=by simpa[h] using q
  exact q
theorem vH(h0:0<=n)(h1:n<b)(q:K (.bl aB) μ):qz [.int n,.int b] μ K Z:=Wm (by simpa[h0,h1] using q)
noncomputable def j_ (y:Int)(t:T):Prop:=t=.non\/∃h:Int,t=.int h/\0<=h/\h<y
theorem y3(B:Bk μ c g (bG x y z) ps)(d:ho.length<=aQ)(h1:zP ho=aB)(h2:j_ y hs)(e:1<=n)(q:K .non μ):q9 [.mut c,.str ho,hs,.int m,.int n] μ K Z:=by
 unfold q9;refine⟨rfl,?_⟩;refine jw d h1 ?_;have rest:qe (w9.drop 2) [aA (.mut c),aA (.str ho),aA hs,aA (.int m),aA (.int n)] μ (En.fn K Z):=by
  refine qk ?_;refine uk e ?_;refine zd ?_;exact q
 rcases h2 with rfl|⟨h,rfl,a,b⟩
 ·exact rest
 ·refine⟨_,_,_,B.com,rfl,?_⟩;refine vH a b ?_;exact rest
theorem xK(B:Bk μ c g (bG x y z) ps)(i:ps.length<=1000)(q:K (.lst ((ps.filter λp=>decide (p.2.h=h)).map Gp.t)) μ):qM [.mut c,.int h] μ K Z:=by
 unfold qM;refine⟨rfl,_,_,_,B.com,rfl,_,B.lst,by rw[cJ];unfold aQ;lia,?_⟩;refine wj Gp.t (λp=>if p.2.h=h then aA (Gp.t p) else aE) (λp f k a=>?_) ?_ B.lst
 ·refine⟨_,rfl,_,_,_,B.at_ p f,rfl,_,rfl,?_⟩;refine vX (λe=>?_) (λe=>?_)
  ·have e:p.2.h=h:=by simpa using e
   rw[if_pos e] at a;exact a
  ·have e:¬p.2.h=h:=by simpa using e
   rw[if_neg e] at a;exact a
 ·have e:ps.filterMap (λp=>if p.2.h=h then aA (Gp.t p) else aE)=(ps.filter λp=>decide (p.2.h=h)).map Gp.t:=by
   clear q B i;induction ps with
   |nil=>rfl
   |cons p r d=>
    by_cases z:p.2.h=h
    ·rw[t4 (b:=Gp.t p) (by rw[if_pos z]),List.filter_cons_of_pos (by simpa using z),dU,d]
    ·rw[t5 (by rw[if_neg z]),List.filter_cons_of_neg (by simpa using z),d]
  rw[e];exact q
theorem Qb(B:Bk μ c g (bG x y z) ps)(k:μ[i0]?=aA (.tab 0))(l:ps.length<64)(h2:j_ y hs)
  (q:∀h b d,0<=h->m<=b->(∀h',hs=.int h'->h=h')->(∀p∈ps,p.2.h=h->mt p.2 b (b+n)=aC)->Ch [] μ d->K (.tup [.int h,.int b,.int (b+n)]) d):zJ [.mut c,hs,.int m,.int n] μ K Z:=by
 unfold zJ;refine⟨rfl,?_⟩;rcases h2 with rfl|⟨h,rfl,a,b⟩
 ·refine⟨_,_,_,B.com,rfl,?_⟩;refine uY B.lst B.at_ (by lia) λh d r i ch=>?_;exact q h m d r (nA _) (λ_ e=>by cases e) i ch
 ·refine⟨_,B.com,?_⟩;refine xK B (by lia) ?_;refine ZV (i0:=i0) (λp f=>B.at_ p (fS.mp f).1) (pR (Ex ..) l) k λb o i=>?_;exact q h b μ a o (λh' e=>by cases e;rfl) (λp f j=>i p (fS.mpr ⟨f,by simpa using j⟩)) Ch.refl
theorem NO(B:Bk μ c g (bG x y z) ps)(r:μ[i0]?=aA (.tab 0))(u:ps.length<64)(h0:ho.length<=aQ)(h1:zP ho=aB)(h2:j_ y hs)(A:1<=n)
  (l:∀d,Ch [] μ d->Z 19 [] d)
  (q:∀h b d a,0<=h->h<y->0<=b->b+n<=x->(∀p∈ps,p.2.h=h->mt p.2 b (b+n)=aC)->μ.length<=a->Ch [g] μ d->Bk d c g (bG x y z) (ps++[(a,⟨ho,h,b,b+n,b+n,aC⟩)])->K (.tup [.int h,.int b,.int (b+n)]) d):qo [.mut c,.str ho,hs,.int m,.int n] μ K Z:=by
 unfold qo;refine⟨rfl,_,B.com,?_⟩;refine y3 B h0 h1 h2 A ?_;refine⟨_,B.com,?_⟩;refine Qb B r u h2 λh b f v k s t ch=>?_;have B1:=B.ch ch (by simp) (by simp) (by simp);have j:0<=b:=by
  have:(0:Int)<=(if m<0 then 0 else m):=by split<;>lia
  lia
 refine⟨_,rfl,_,_,_,B1.com,rfl,?_⟩;refine zY (λe=>?_) (λe=>?_)
 ·exact⟨by show (1:Nat)<=aQ;decide,l _ ch⟩
 ·refine⟨_,rfl,_,_,_,B1.com,rfl,?_⟩;refine zY (λC=>?_) (λC=>?_)
  ·exact⟨by show (1:Nat)<=aQ;decide,l _ ch⟩
  ·refine⟨_,_,_,B1.com,rfl,⟨_,B1.lst⟩,?_⟩;have gl:g<f.length:=(bI.mp B1.lst).1;unfold ja;refine⟨rfl,_,_,za,by show (0:Nat)<900;decide,_,_,aH za,by show (1:Nat)<900;decide,_,rfl,_,_,aH (aH za),by show (2:Nat)<900;decide,_,_,aH (aH (aH za)),by show (3:Nat)<900;decide,rfl,?_⟩;have es:∀(μ:aK) (a b:MO),(μ++[a]).set μ.length b=μ++[b]:=λμ a b=>by rw[nZ _ _ (bE _)];simp
   simp only[es];refine⟨_,z5 B1.lst,by rw[cJ];unfold aQ;lia,?_⟩;refine q h b _ f.length v (by lia) j (by lia) t ch.len ?_ ?_
   ·refine (ch.mono (by simp)).trans ((Ch.app.mono (by simp)).trans Ch.set)
   ·have o:∀p∈ps,p.1≠g/\p.1<f.length:=λp i=>by
     refine⟨λe=>?_,(bI.mp (B1.at_ p i)).1⟩;have:=B1.at_ p i;rw[e,B1.lst] at this;cases this
    have cg:c≠g:=λe=>by
     have:=B1.com;rw[e,B1.lst] at this;cases this
    refine⟨?_,?_,λp i=>?_,?_⟩
    ·rw[bW cg.symm];exact z5 B1.com
    ·rw[iJ];exact aH (z5 B1.lst)
    ·rcases cH.mp i with i|i
     ·rw[bW (o p i).1.symm];exact z5 (B1.at_ p i)
     ·rw[bT.mp i,bW (by show g≠f.length;lia)];exact za
    ·rw[iJ,lu];refine⟨B1.nd,by simp,λa w b k e=>?_⟩;obtain⟨p,i,rfl⟩:=eR.mp w;have k:b=f.length:=by simpa using k
     have:=(o p i).2;lia
end
section
variable {μ:aK}{K:T->aK->Prop}{Z:Xp}{c:Nat}{x y z:Int}
theorem Lo{a b c f:Int}:cK [.int a,.int b,.int c] [.int d,.int e,.int f]=aA (decide (a=d)&&(decide (b=e)&&decide (c=f))):=by
 have h:∀i j:Int,(i==j)=decide (i=j):=λi j=>by
  by_cases z:i=j<;>simp[z]
 simp[cK,eqT,h]
theorem VH{u:Int}(h0:0<=h)(h1:h<y)(f0:0<=f)(fu:f<u)(ux:u<=x)(q:K (.bl aB) μ):xF [bG x y z,.tup [.int h,.int f,.int u]] μ K Z:=by
 unfold xF;refine⟨rfl,_,rfl,?_⟩;refine vH h0 h1 ?_;refine⟨_,rfl,?_⟩;refine zd ?_;refine⟨_,rfl,?_⟩;refine zd ?_;refine⟨_,rfl,?_⟩;refine wQ f0 ?_;refine⟨_,rfl,?_⟩;refine wQ fu ?_;have q:K (.bl (decide (u<=x))) μ:=by rw[decide_eq_true ux];exact q
 exact q
noncomputable def Gr.row(G:Gr):T:=.tup [.str G.ho,.int G.h,.int G.f,.int G.u]
end
section
variable {μ:aK}{K:T->aK->Prop}{Z:Xp}{x y z:Int}
theorem jz(q:K .non (μ++[.obj 43 [(9,d),(10,.mut (μ.length+1))],.lst []])):vD [.mut μ.length,d] (μ++[.obj 43 []]) K Z:=by
 have es:∀(μ:aK) (a b:MO),(μ++[a]).set μ.length b=μ++[b]:=λμ a b=>by rw[nZ _ _ (bE _)];simp
 unfold vD;refine⟨rfl,_,_,za,by show (0:Nat)<900;decide,?_⟩;rw[es];refine⟨_,_,z5 za,by show (1:Nat)<900;decide,?_⟩;have e:∀(o a b:MO),((μ++[o])++[a]).set μ.length b=μ++[b,a]:=λo a b=>by
  rw[List.append_assoc,nZ _ _ (bE _)];simp
 rw[e];have c:(μ++[MO.obj 43 [(9,d)]]).length=μ.length+1:=by simp
 show K .non (μ++[MO.obj 43 (Yu 10 (T.mut (μ++[MO.obj 43 [(9,d)]]).length) [(9,d)]),.lst []]);rw[c];exact q
theorem vJ(h0:0<=n)(h1:n<b)(q:K .non μ):wD [.int n,.int b] μ K Z:=by
 unfold wD;refine⟨rfl,?_⟩;refine vH h0 h1 ?_;exact q
theorem Ky(c:0<=m)(i:m<x)(h0:0<=h)(h1:h<y)(k0:0<=k)(k1:k<z):0<=(m*y+h)*z+k/\(m*y+h)*z+k<x*y*z/\((m*y+h)*z+k) / z=m*y+h/\(m*y+h) / y=m/\(m*y+h) % y=h:=by
 have a:((m*y+h)*z+k) / z=m*y+h/\((m*y+h)*z+k) % z=k:=(Ef (by lia)).mpr ⟨by rw[CV z,CU],k0,k1⟩;have b:(m*y+h) / y=m/\(m*y+h) % y=h:=(Ef (by lia)).mpr ⟨by rw[CV y,CU],h0,h1⟩;have g:0<=m*y:=sT c (by lia);have f:0<=(m*y+h)*z:=sT (by lia) (by lia);have e:m*y+y<=x*y:=by
  have:=n8 (show m+1<=x by lia) (show 0<=y by lia);rw[CM,CL] at this;exact this
 have d:(m*y+h)*z+z<=x*y*z:=by
  have:=n8 (show m*y+h+1<=x*y by lia) (show 0<=z by lia);rw[CM,CL] at this;exact this
 exact⟨by lia,by lia,a.1,b.1,b.2⟩
end
section
variable {μ:aK}{K:T->aK->Prop}{Z:Xp}{x y z:Int}{i:Nat}{sh kp bt:T}{ah sd:Int}
noncomputable abbrev Ls:=Int×Int×Int
noncomputable def gE:Option Ls->T
 |none=>.non
 |some l=>.tup [.int l.1,.int l.2.1,.int l.2.2]
noncomputable def fX:Option Int->T
 |none=>.non
 |some m=>.int m
noncomputable abbrev Tv(sh:T)(ah sd:Int)(kp:T)(l:Option Ls)(m n:Option Int)(bt:T)(fl:Bool):List (Nat×T):=[(9,sh),(14,.int ah),(15,.int sd),(16,kp),(6,gE l),(17,fX m),(18,fX n),(19,bt),(20,.bl fl)]
noncomputable abbrev eM(sh:T)(ah sd:Int)(kp:T)(l:Option Ls)(m n:Option Int)(bt:T)(fl:Bool):MO:=.obj 45 (Tv sh ah sd kp l m n bt fl)
theorem L_:∀(l l':Option Ls),eqT (gE l) (gE l')=aA (decide (l=l'))
 |none,aE=>by simp[gE,eqT]
 |none,aA b=>by simp[gE,eqT]
 |some a,aE=>by simp[gE,eqT]
 |some (a,b,c),aA (d,e,f)=>by
  show eqT (.tup _) (.tup _)=_;simp only[eqT];rw[Lo];simp[Bool.decide_and]
theorem MJ:∀(l l':Option Int),eqT (fX l) (fX l')=aA (decide (l=l'))
 |none,aE=>by simp[fX,eqT]
 |none,aA b=>by simp[fX,eqT]
 |some a,aE=>by simp[fX,eqT]
 |some a,aA b=>by
  by_cases h:a=b
  ·simp[fX,eqT,h]
  ·simp[fX,eqT,h]
theorem Pg:cK [gE l,fX m] [gE l',fX m']=aA (decide (l=l')&&decide (m=m')):=by
 simp[cK,L_,MJ]
theorem Ro:w_ [gE l,fX m]<=40:=by
 cases l<;>cases m<;>simp[gE,fX,w_,xx]
variable {l:Option Ls}{m n:Option Int}
theorem wL(h:μ[i]?=aA (eM sh ah sd kp l m n bt aC))(q:K .non μ):qv [.mut i] μ K Z:=by
 unfold qv;refine⟨rfl,_,_,_,h,rfl,?_⟩;exact q
theorem RG(h:μ[i]?=aA (eM sh ah sd kp l m n bt aC))(q:K (.tup [gE l,fX m]) μ):jk [.mut i] μ K Z:=by
 unfold jk;refine⟨rfl,_,_,_,h,rfl,_,_,_,h,rfl,?_⟩;exact q
theorem ZM(h0:0<=h)(h1:h<y)(f0:0<=f)(fu:f<u)(ux:u<=x)(q:K .non μ):vt [bG x y z,.tup [.int h,.int f,.int u]] μ K Z:=by
 unfold vt;refine⟨rfl,?_⟩;refine VH h0 h1 f0 fu ux ?_;exact q
structure gY(x y:Int)(l:Ls):Prop where
 h0:0<=l.1
 h1:l.1<y
 f0:0<=l.2.1
 fu:l.2.1<l.2.2
 ux:l.2.2<=x
theorem kE(h:0<=a)(q:K (.bl aB) μ):qd [.int a] μ K Z:=by
 unfold qd;refine⟨rfl,?_⟩;refine zd ?_;have q:K (.bl (decide (0<=a))) μ:=by rw[decide_eq_true h];exact q
 exact q
structure Hz(x y z:Int):Prop where
 x1:1<=x
 y1:1<=y
 y2:y<=1000000
 z1:1<=z
 z2:z<=1000000
theorem Hz.sy(s:Hz x y z):Sy y z:=⟨s.y1,by have:=s.y2;lia,s.z1,by have:=s.z2;lia⟩
theorem Ju(s:Hz x y z)(h0:0<=k)(h1:k<x*y*z)(q:K (.tup [.int (k / z / y),.int (k / z % y),.int (k % z)]) μ):xR [bG x y z,.int k] μ K Z:=by
 obtain⟨e,d,c,b,a⟩:=id s;unfold xR;refine⟨rfl,?_⟩;refine Qk s.sy (by rw[decide_eq_true h0,decide_eq_true h1];rfl) ?_;refine⟨by lia,⟨by lia,by lia⟩,⟨by lia,by lia⟩,by lia,?_⟩;exact q
noncomputable def BM(y z h k:Int):Int:=if k / z % y<h then k / z / y*z else if h<k / z % y then (k / z / y+1)*z else k / z / y*z+k % z+1
theorem Zq(s:Hz x y z)(h0:0<=k)(h1:k<x*y*z)(q:K (.int (BM y z h k)) μ):vy [bG x y z,.int h,.int k] μ K Z:=by
 obtain⟨f,d,c,b,a⟩:=id s;unfold vy;refine⟨rfl,?_⟩;refine Ju s h0 h1 ?_;refine⟨_,rfl,?_⟩;unfold BM at q;refine zY (λe=>?_) (λe=>?_)
 ·rw[if_pos e] at q;refine⟨_,rfl,.inr ⟨by unfold big;lia,by unfold big;lia⟩,?_⟩;exact q
 ·rw[if_neg e] at q;refine⟨_,rfl,?_⟩;refine zY (λe=>?_) (λe=>?_)
  ·rw[if_pos e] at q;refine⟨_,rfl,.inr ⟨by unfold big;lia,by unfold big;lia⟩,?_⟩;exact q
  ·rw[if_neg e] at q;refine⟨_,rfl,.inr ⟨by unfold big;lia,by unfold big;lia⟩,_,rfl,?_⟩;exact q
noncomputable abbrev ia(z r ah e:Int):Int:=(e-1) / z-(r+ah)
noncomputable abbrev Ai(h b e:Int):T:=.obj 44 [(11,.int h),(12,.int b),(13,.int e)]
end
section
variable {μ:aK}{K:T->aK->Prop}{Z:Xp}{x y z:Int}
noncomputable def ma(y z h p:Int):Int:=(p / z*y+h)*z+p % z
noncomputable def lH (y z h b k:Int):List Int:=(gM k.toNat).map λ(j:Nat)=>ma y z h (b+j)
theorem K4(s:Hz x y z)(b:0<=d)(a:d<x)(h0:0<=h)(h1:h<y)(k0:0<=k)(k1:k<z)(q:K (.int ((d*y+h)*z+k)) μ):um [bG x y z,.int d,.int h,.int k] μ K Z:=by
 obtain⟨i,g,f,e,c⟩:=id s;unfold um;refine⟨rfl,?_⟩;refine vJ b a ?_;refine vJ h0 h1 ?_;refine vJ k0 k1 ?_;refine⟨.inr ⟨by unfold big;lia,by unfold big;lia⟩,.inr ⟨by unfold big;lia,by unfold big;lia⟩,?_⟩;exact q
theorem place_lt(s:Hz x y z)(h1:p<x*z):p / z<x:=by
 have:=s.z1;exact tJ (by lia) h1
theorem uW(s:Hz x y z)(p0:0<=p)(p1:p<x*z)(h0:0<=h)(h1:h<y)(q:K (.int (ma y z h p)) μ):xG [bG x y z,.int h,.int p] μ K Z:=by
 obtain⟨e,d,c,b,a⟩:=id s;unfold xG;refine⟨rfl,⟨by lia,by lia⟩,by lia,?_⟩;exact K4 s (tz p0 (by lia)) (place_lt s p1) h0 h1 (nH _ (by lia)) (nM _ (by lia)) q
theorem QL(q:∀a b,K (.mut μ.length) (μ++[.lst [.int a,.int b,.int 0]])):vT [.int c] μ K Z:=by
 unfold vT;refine⟨rfl,by decide,by decide,?_⟩;have e:=nH c (show (2:Int)≠0 by decide);have d:=nM c (show (0:Int)<2 by decide);refine⟨.inr ⟨by unfold big;lia,by unfold big;lia⟩,?_⟩;exact q _ _
theorem Th(q:∀v:Int,K (.int v) μ):uF [.int c,.int k] μ K Z:=by
 unfold uF;refine⟨rfl,by decide,.inl (by unfold big;decide),.inr (by unfold big;decide),by decide,by decide,?_⟩;have b:∀a:Int,0<=a % 2147483629/\a % 2147483629<2147483629:=λa=>⟨nH _ (by decide),nM _ (by decide)⟩;have bb:=λa=>b a;refine⟨.inl ⟨by have:=(b ((c % 2147483629+69621*k+1)*48271));unfold big;omega,by have:=(b ((c % 2147483629+69621*k+1)*48271));unfold big;omega⟩,by decide,by decide,.inl ⟨by have:=b ((c % 2147483629+69621*k+1)*48271 % 2147483629*((c % 2147483629+69621*k+1)*48271 % 2147483629 / 1009+69621));unfold big;omega,by have:=b ((c % 2147483629+69621*k+1)*48271 % 2147483629*((c % 2147483629+69621*k+1)*48271 % 2147483629 / 1009+69621));unfold big;omega⟩,by decide,by decide,?_⟩;generalize d:(c % 2147483629+69621*k+1)*48271 % 2147483629*((c % 2147483629+69621*k+1)*48271 % 2147483629 / 1009+69621) % 2147483629*((c % 2147483629+69621*k+1)*48271 % 2147483629*((c % 2147483629+69621*k+1)*48271 % 2147483629 / 1009+69621) % 2147483629 / 907+16807+k)=A;refine⟨.inl ⟨by have:=b A;unfold big;omega,by have:=b A;unfold big;omega⟩,by decide,?_⟩;exact q _
end
section
variable {μ:aK}{K:T->aK->Prop}{Z:Xp}{x y z h:Int}{c:Nat}
theorem Yi(hk:b<=e):jL b e 1=(gM (e-b).toNat).map λ(j:Nat)=>T.int (b+j):=by
 unfold jL;by_cases c:b<e
 ·rw[if_pos c];have:(e-b-1) / 1+1=e-b:=by rw[sM];lia
  rw[this];simp
 ·rw[if_neg c];have:(e-b).toNat=(0:Int).toNat:=by lia
  rw[this];rfl
theorem VP(s:Hz x y z)(f:x*z<1000000000000000000000000000000000000000000000000000000000000)(g:0<=b)(be:b<=e)(k2:e-b<=1000)(ex:e<=x*z)(h0:0<=h)(h1:h<y)(q:K (.mut μ.length) (μ++[.lst ((lH y z h b (e-b)).map T.int)])):qw [bG x y z,Ai h b e] μ K Z:=by
 unfold qw;refine⟨rfl,⟨⟨by lia,by lia⟩,⟨by lia,by lia⟩⟩,?_⟩;rw[Yi be];refine⟨by rw[cJ,DE];unfold aQ;lia,?_⟩;refine wj (λ(j:Nat)=>T.int (b+j)) (λ(j:Nat)=>aA (T.int (ma y z h (b+j)))) (λj c d a=>?_) ?_ trivial
 ·have c:j<(e-b).toNat:=pK.mp c;refine⟨_,rfl,?_⟩;exact uW s (by lia) (by lia) h0 h1 a
 ·rw[mL];unfold lH at q;rw[hO] at q;exact q
end
section
variable {μ:aK}{K:T->aK->Prop}{Z:Xp}{x y z:Int}{i:Nat}{kp bt:T}{ah sd:Int}{m n:Option Int}{a:Ls}{k h:Int}
noncomputable def Xy(y z h:Int)(n m:Option Int):Int:=match n with
 |some k=>BM y z h k
 |none=>(match m with|none=>0|some a=>(a+1)*z)
theorem VX(s:Hz x y z)(ho:μ[i]?=aA (eM (bG x y z) ah sd kp (aA a) m n bt aC))(b:∀k,n=aA k->0<=k/\k<x*y*z)(q:K (.int (Xy y z a.1 n m)) μ):qR [.mut i] μ K Z:=by
 obtain⟨g,f,e,d,c⟩:=id s;unfold qR;refine⟨rfl,_,_,_,ho,rfl,?_⟩;cases n with
 |some k=>
  refine⟨_,_,_,ho,rfl,_,_,_,ho,rfl,_,rfl,_,_,_,ho,rfl,?_⟩;exact Zq s (b k rfl).1 (b k rfl).2 q
 |none=>
  refine⟨_,_,_,ho,rfl,?_⟩;cases m with
  |none=>exact q
  |some h=>
   refine⟨_,_,_,ho,rfl,_,_,_,ho,rfl,.inr ⟨by unfold big;lia,by unfold big;lia⟩,?_⟩;exact q
end
section
variable {μ:aK}{K:T->aK->Prop}{Z:Xp}{x y z:Int}{i:Nat}{kp bt:T}{ah sd:Int}{l:Option Ls}{m n:Option Int}{a:Ls}
noncomputable def rP(a b:Int):Int:=if b<a then b else a
noncomputable def rR (x sd:Int)(m:Option Int)(a:Int):Int:=match m with
 |none=>rP (a+sd) (x-1)
 |some v=>if a<=v then v else rP (a+sd) (x-1)
theorem RJ(ho:μ[i]?=aA (eM (bG x y z) ah sd kp l m n bt aC))(q:K (.int (rR x sd m d)) μ):qD [.mut i,.int d] μ K Z:=by
 unfold qD;refine⟨rfl,_,_,_,ho,rfl,?_⟩;have fin:∀a:Sl,a=[aA (.mut i),aA (.int d)]->K (.int (rP (d+sd) (x-1))) μ->qe (qV.drop 1) a μ (En.fn K Z):=λa e q=>by
  subst e;refine⟨_,_,_,ho,rfl,_,_,_,ho,rfl,?_⟩;exact q
 cases m with
 |none=>exact fin _ rfl q
 |some b=>
  refine⟨_,_,_,ho,rfl,?_⟩;have q:K (.int (if d<=b then b else rP (d+sd) (x-1))) μ:=q;refine zY (λe=>?_) (λe=>?_)
  ·rw[if_pos e] at q;refine⟨_,_,_,ho,rfl,?_⟩;exact q
  ·rw[if_neg e] at q;exact fin _ rfl q
end
section
variable {μ:aK}{K:T->aK->Prop}{Z:Xp}{x y z:Int}{i:Nat}{kp bt:T}{ah sd:Int}{m n:Option Int}{a:Ls}{r k h:Int}
noncomputable def qb (y z:Int)(a:Ls)(n m:Option Int)(r:Int):Int:=if Xy y z a.1 n m<(if a.2.1<r then r else a.2.1)*z then (if a.2.1<r then r else a.2.1)*z else Xy y z a.1 n m
theorem Sq(s:Hz x y z)(h:μ[i]?=aA (eM (bG x y z) ah sd kp (aA a) m n bt aC))(g:∀k,n=aA k->0<=k/\k<x*y*z)(k1:1<=k)(k2:k<=z)
  (f:a.2.2*z<qb y z a n m r+k->Z 18 [] μ)
  (d:qb y z a n m r+k<=a.2.2*z->0<ia z r ah (qb y z a n m r+k)->(ia z r ah (qb y z a n m r+k)).natAbs.log2<1920/\Z 21 [(29,.int (ia z r ah (qb y z a n m r+k)))] μ)
  (c:qb y z a n m r+k<=a.2.2*z->ia z r ah (qb y z a n m r+k)<=0->K (Ai a.1 (qb y z a n m r) (qb y z a n m r+k)) μ) :
  z_ [.mut i,.int r,.int k] μ K Z:=by
 obtain⟨q,p,o,l,j⟩:=id s;unfold z_;refine⟨rfl,?_⟩;refine qk ?_;rw[decide_eq_true k1];refine⟨_,_,_,h,rfl,?_⟩;refine qG (by lia) ?_;refine zd ?_;refine⟨_,h,?_⟩;unfold qf;refine⟨rfl,_,_,_,h,rfl,_,_,_,h,rfl,_,rfl,_,_,_,h,rfl,.inr ⟨by unfold big;lia,by unfold big;lia⟩,_,h,?_⟩;refine VX s h g ?_;refine⟨_,_,_,h,rfl,_,rfl,_,_,_,h,rfl,.inr ⟨by unfold big;lia,by unfold big;lia⟩,?_⟩;refine zY (λe=>?_) (λe=>?_)
 ·exact⟨by show (1:Nat)<=aQ;decide,f e⟩
 ·have e:qb y z a n m r+k<=a.2.2*z:=by
   have:¬a.2.2*z<qb y z a n m r+k:=e;lia
  refine⟨_,_,_,h,rfl,⟨by lia,by lia⟩,_,_,_,h,rfl,?_⟩;refine zY (λb=>?_) (λb=>?_)
  ·exact d e b
  ·refine⟨_,_,_,h,rfl,_,rfl,rfl,?_⟩;unfold kK;refine⟨rfl,_,_,rfl,by show (0:Nat)<900;decide,_,_,rfl,by show (1:Nat)<900;decide,_,_,rfl,by show (2:Nat)<900;decide,rfl,_,rfl,rfl,?_⟩;refine c e ?_;have b:¬0<ia z r ah (qb y z a n m r+k):=b;lia
theorem Vs(s:Hz x y z)(ok:gY x y a):0<=qb y z a n m r:=by
 obtain⟨g,f,d,c,b⟩:=id s;have h:=ok.f0;have w:0<=(if a.2.1<r then r else a.2.1)*z:=sT (by split<;>lia) (by lia);unfold qb;by_cases e:Xy y z a.1 n m<(if a.2.1<r then r else a.2.1)*z
 ·rw[if_pos e];exact w
 ·rw[if_neg e];exact Int.le_trans w (Int.not_lt.mp e)
end
section
variable {μ:aK}{K:T->aK->Prop}{Z:Xp}{x y z:Int}{i si:Nat}{sh bt ck hs kt:T}{ah sd:Int}{l l':Option Ls}{m m' n:Option Int}{a:Ls}{r k h:Int}
noncomputable abbrev BP(l:Option Ls)(m:Option Int):T:=.tup [gE l,fX m]
noncomputable abbrev we(ck hs kt:T):MO:=.obj 46 [(21,ck),(11,hs),(22,kt)]
noncomputable abbrev fZ(si:Nat):T:=YL 0 1 [.mut si]
theorem NE(h:μ[si]?=aA (we ck hs kt))(q:K .non (μ.set si (we ck hs t))):jE [.mut si,t] μ K Z:=by
 unfold jE;refine⟨rfl,?_⟩;exact⟨_,_,h,by show (3:Nat)<900;decide,q⟩
theorem MN(ho:μ[i]?=aA (eM sh ah sd (fZ si) l m n bt aC))(c:μ[si]?=aA (we ck hs kt))
  (j:l'=l->m'=m->K .non μ)
  (h:∀d,Ch [i,si] μ d->d.length=μ.length->d[i]?=aA (eM sh ah sd (fZ si) l' m' n bt aC)->d[si]?=aA (we ck hs (BP l' m'))->K .non d) :
  qK [.mut i,gE l',fX m'] μ K Z:=by
 have a:si≠i:=λw=>by rw[w,ho] at c;cases c
 unfold qK;refine⟨rfl,_,ho,?_⟩;refine RG ho ?_;refine⟨Ro,_,Pg,?_⟩;refine vX (λe=>?_) (λe=>?_)
 ·simp only[cB,decide_eq_true_eq] at e;exact j e.1 e.2
 ·refine⟨_,_,ho,by show (9:Nat)<900;decide,?_⟩;have g:=aH (y:=eM sh ah sd (fZ si) l m n bt aB) ho;have f:(μ.set i (eM sh ah sd (fZ si) l m n bt aB))[si]?=aA (we ck hs kt):=by rw[bW (b_ a)];exact c
  refine⟨_,_,_,g,rfl,⟨0,(1,_),[.mut si]⟩,⟨rfl,rfl⟩,_,f,?_⟩;refine NE f ?_;have b:((μ.set i (eM sh ah sd (fZ si) l m n bt aB)).set si (we ck hs (BP l' m')))[i]?=aA (eM sh ah sd (fZ si) l m n bt aB):=by rw[bW a];exact g
  have k:=aH (y:=we ck hs (BP l' m')) f;refine⟨_,_,b,by show (9:Nat)<900;decide,_,_,aH b,by show (9:Nat)<900;decide,_,_,aH (aH b),by show (9:Nat)<900;decide,?_⟩;refine h _ (((((Ch.set.mono (by simp)).trans (Ch.set.mono (by simp))).trans (Ch.set.mono (by simp))).trans (Ch.set.mono (by simp))).trans (Ch.set.mono (by simp))) (by simp) (aH (aH (aH b))) ?_;rw[bW (b_ a),bW (b_ a),bW (b_ a)];exact k
theorem Ge(ho:μ[i]?=aA (eM sh ah sd (fZ si) l m n bt aC))(a:μ[si]?=aA (we ck hs kt))
  (q:∀d g,Ch [i,si] μ d->d.length=μ.length->d[i]?=aA (eM sh ah sd (fZ si) l' m' n bt aC)->d[si]?=aA (we ck hs g)->K .non d) :
  qK [.mut i,gE l',fX m'] μ K Z:=
 MN ho a (λh f=>q μ kt Ch.refl rfl (by rw[h,f];exact ho) a) λd ch b e c=>q d _ ch b e c
theorem Np(ho:μ[i]?=aA (eM (bG x y z) ah sd (fZ si) l m n bt aC))(b:μ[si]?=aA (we ck hs kt))(ok:gY x y a)
  (q:∀d g,Ch [i,si] μ d->d.length=μ.length->d[i]?=aA (eM (bG x y z) ah sd (fZ si) (aA a) m n bt aC)->d[si]?=aA (we ck hs g)->K .non d) :
  qy [.mut i,gE (aA a)] μ K Z:=by
 unfold qy;refine⟨rfl,_,ho,?_⟩;refine wL ho ?_;refine⟨_,_,_,ho,rfl,?_⟩;refine ZM ok.h0 ok.h1 ok.f0 ok.fu ok.ux ?_;refine⟨_,ho,_,_,_,ho,rfl,?_⟩;exact Ge ho b q
theorem M9{v:Int}(h0:0<v)(h1:v<1000000000000000000):v.natAbs.log2<1920:=by
 have a:v.natAbs<2 ^ 60:=by
  have:(2:Nat) ^ 60=1152921504606846976:=by decide
  omega
 rw[sq (by omega)];exact cY a (DY (by decide) (by omega))
noncomputable abbrev oG(x y z sd:Int)(a:Ls)(n m:Option Int)(r k:Int):Int:=rR x sd m ((qb y z a n m r+k-1) / z)
noncomputable abbrev lG(y z:Int)(a:Ls)(n m:Option Int)(r k:Int):Int:=ma y z a.1 (qb y z a n m r+k-1)
theorem Mv(s:Hz x y z)(xb:x<=1000000000000000)(L:-1000000000000000<=r)(ok:gY x y a)(ho:μ[i]?=aA (eM (bG x y z) ah sd (fZ si) (aA a) m n bt aC))(f:μ[si]?=aA (we ck hs kt))(A:∀k,n=aA k->0<=k/\k<x*y*z)(k1:1<=k)(k2:k<=z)(M:0<=ah)
  (t:a.2.2*z<qb y z a n m r+k->Z 18 [] μ) (p:qb y z a n m r+k<=a.2.2*z->0<ia z r ah (qb y z a n m r+k)->∀v,Z 21 [(29,v)] μ)
  (q:qb y z a n m r+k<=a.2.2*z->ia z r ah (qb y z a n m r+k)<=0->∀d g,Ch [i,si] μ d->d.length=μ.length->d[i]?=aA (eM (bG x y z) ah sd (fZ si) (aA a) (aA (oG x y z sd a n m r k)) (aA (lG y z a n m r k)) bt aC)->d[si]?=aA (we ck hs g)->K (Ai a.1 (qb y z a n m r) (qb y z a n m r+k)) d) :
  zx [.mut i,.int r,.int k] μ K Z:=by
 obtain⟨I,H,G,F,E⟩:=id s;have bn:=Vs (n:=n) (m:=m) (r:=r) s ok;have o:=ok.ux;have C:=ok.h0;have B:=ok.h1;have J:a.2.2*z<=x*z:=n8 o (by lia);have b:qb y z a n m r+k<=a.2.2*z->0<ia z r ah (qb y z a n m r+k)->(ia z r ah (qb y z a n m r+k)).natAbs.log2<1920:=λl j=>by
  have N:(qb y z a n m r+k-1) / z<x:=tJ (by lia) (by lia);exact M9 j (by show (qb y z a n m r+k-1) / z-(r+ah)<_;lia)
 unfold zx;refine⟨rfl,_,ho,?_⟩;refine wL ho ?_;refine⟨_,ho,?_⟩;refine Sq s ho A k1 k2 t (λe0 e=>⟨b e0 e,p e0 e _⟩) λl j=>?_;refine⟨_,ho,_,_,_,ho,rfl,_,ho,_,_,_,ho,rfl,⟨by lia,by lia⟩,?_⟩;refine RJ ho ?_;refine Ge (l':=aA a) (m':=aA (oG x y z sd a n m r k)) ho f λd g ch u h D=>?_;refine⟨_,_,_,h,rfl,?_⟩;refine uW s (by lia) (by lia) C B ?_;refine⟨_,_,h,by show (9:Nat)<900;decide,?_⟩;have c:si≠i:=λw=>by rw[w,ho] at f;cases f
 refine q l j _ g (ch.trans (Ch.set.mono (by simp))) (by simp[u]) (aH h) ?_;rw[bW (b_ c)];exact D
theorem PX(ho:μ[i]?=aA (eM (bG x y z) ah sd (fZ si) aE m n bt aC))(k1:1<=k)(k2:k<=z)(a:Z 18 [] μ):zx [.mut i,.int r,.int k] μ K Z:=by
 unfold zx;refine⟨rfl,_,ho,?_⟩;refine wL ho ?_;refine⟨_,ho,?_⟩;unfold z_;refine⟨rfl,?_⟩;refine qk ?_;rw[decide_eq_true k1];refine⟨_,_,_,ho,rfl,?_⟩;refine qG (by lia) ?_;refine zd ?_;refine⟨_,ho,?_⟩;unfold qf;refine⟨rfl,_,_,_,ho,rfl,?_⟩;exact⟨by show (1:Nat)<=aQ;decide,a⟩
noncomputable def Fq (x y:Int)(l:Option Ls):Prop:=∀a,l=aA a->gY x y a
theorem LM(s:Hz x y z)(xb:x<=1000000000000000)(u:-1000000000000000<=r)(ok:Fq x y l)(zb:z<=10000000)(P:k<=1000)(ho:μ[i]?=aA (eM (bG x y z) ah sd (fZ si) l m n bt aC))(f:μ[si]?=aA (we ck hs kt))(C:∀k,n=aA k->0<=k/\k<x*y*z)(k1:1<=k)(k2:k<=z)(D:0<=ah)
  (o:(∀a,l=aA a->a.2.2*z<qb y z a n m r+k)->Z 18 [] μ) (B:∀a,l=aA a->qb y z a n m r+k<=a.2.2*z->0<ia z r ah (qb y z a n m r+k)->∀v,Z 21 [(29,v)] μ)
  (q:∀a,l=aA a->qb y z a n m r+k<=a.2.2*z->ia z r ah (qb y z a n m r+k)<=0->∀d g j A,Ch [i,si] μ d->μ.length<=j->μ.length<=A->j≠A->d[i]?=aA (eM (bG x y z) ah sd (fZ si) (aA a) (aA (oG x y z sd a n m r k)) (aA (lG y z a n m r k)) (.mut A) aC)->d[A]?=aA (.lst [])->d[si]?=aA (we ck hs g)->d[j]?=aA (.lst ((lH y z a.1 (qb y z a n m r) k).map T.int))->K (.mut j) d) :
  qJ [.mut i,.int r,.int k] μ K Z:=by
 obtain⟨M,J,I,H,G⟩:=id s;unfold qJ;refine⟨rfl,_,ho,?_⟩;cases l with
 |none=>exact PX ho k1 k2 (o λa e=>by cases e)
 |some a=>
  have ok:=ok a rfl;have bn:=Vs (n:=n) (m:=m) (r:=r) s ok;have t:=ok.ux;have N:a.2.2*z<=x*z:=n8 t (by lia);have L:x*z<=1000000000000000*10000000:=Int.mul_le_mul xb zb (by lia) (by lia);have c:si≠i:=λw=>by rw[w,ho] at f;cases f
  refine Mv s xb u ok ho f C k1 k2 D (λh=>o λR e=>by cases e;exact h) (B a rfl) λF E d g ch O b p=>?_;have Q:=(bI.mp b).1;have cl:=(bI.mp p).1;refine⟨_,_,z5 b,by show (9:Nat)<900;decide,_,_,_,aH (z5 b),rfl,?_⟩;refine VP s (by lia) bn (by lia) (by lia) (by lia) ok.h0 ok.h1 ?_;rw[show qb y z a n m r+k-qb y z a n m r=k by lia];refine q a rfl F E _ g _ _ (((ch.trans (Ch.app.mono (by simp))).trans (Ch.set.mono (by simp))).trans (Ch.app.mono (by simp))) (by simp;lia) (by lia) (by simp) (z5 (aH (z5 b))) ?_ ?_ za
  ·refine z5 ?_;rw[bW (by lia)];exact za
  ·refine z5 ?_;rw[bW (b_ c)];exact z5 p
end
section
variable {μ:aK}{K:T->aK->Prop}{Z:Xp}
noncomputable abbrev Tn:=Int×Int×Bool
noncomputable def vE(p:Tn):T:=.tup [.int p.1,.int p.2.1,.bl p.2.2]
noncomputable def Ui (ts:List Tn):Prop:=ts.Pairwise (λa b=>a.1<b.1)
theorem Xk{ts:List Tn}{k:Int}(h0:0<=k)(h1:k<ts.length):vY (ts.map vE) k=aA (vE (ts[k.toNat]'(by lia))):=by
 rw[VW h0 (by simpa using h1),eE,fR (by lia)];rfl
noncomputable def yM(start:Int)(ts:List Tn)(time:Int):Int:=match ts.reverse.find? (λp=>decide (p.1<=time)) with
 |some p=>p.2.1+(if p.2.2 then time-p.1 else 0)
 |none=>start+time
theorem X4{α:Type}{f:α->Bool}:∀{l:List α}{n:Nat}{p:α},l[n]?=aA p->f p=aB->(∀q∈l.take n,f q=aC)->l.find? f=aA p
 |[],_,_,h,_,_=>by simp at h
 |x::r,0,p,h,b,_=>by
  have h:aA x=aA p:=h;cases h;simp[Cv,b]
 |x::r,n+1,p,h,b,c=>by
  have d:=c x (by simp);have:=X4 (l:=r) (n:=n) (p:=p) h b λq a=>c q (by simp[a]);simp[Cv,d,this]
noncomputable abbrev gG(start:Int)(ts:List Tn):MO:=.obj 41 [(3,.int start),(4,.lst (ts.map vE))]
theorem qN{start:Int}(h:μ[i]?=aA (gG start ts))(q:K (.int (yM start ts time)) μ):wJ [.mut i,.int time] μ K Z:=by
 unfold wJ;refine⟨rfl,?_⟩;refine zd ?_;refine⟨_,_,_,h,rfl,?_⟩;show f6 _ _ _ (ts.map vE).reverse _ _ _;rw[←List.map_reverse];refine vM (λn m d=>d=μ/\(∀p∈ts.reverse.take n,decide (p.1<=time)=aC)/\∃o,m=[aA (.mut i),aA (.int time),o]) ⟨rfl,by simp,_,rfl⟩ ?_ ?_
 ·rintro n x m d j ⟨rfl,l,o,rfl⟩ N s;rw[eE] at j;cases g:ts.reverse[n]? with
  |none=>rw[g] at j;cases j
  |some p=>
   rw[g] at j;cases j;refine⟨_,rfl,_,rfl,?_⟩;refine zY (λf=>?_) (λf=>?_)
   ·have e:yM start ts time=p.2.1+(if p.2.2 then time-p.1 else 0):=by
     unfold yM;rw[X4 g (decide_eq_true f) l]
    rw[e] at q;refine⟨_,rfl,_,rfl,?_⟩;obtain⟨a,b,c⟩:=p;cases c with
    |true=>exact⟨_,rfl,q⟩
    |false=>exact q
   ·refine s _ _ ⟨rfl,λr k=>?_,_,rfl⟩;rw[l8,g] at k;rcases cH.mp k with z|z
    ·exact l r z
    ·have z:r=p:=by simpa using z
     rw[z];exact decide_eq_false f
 ·rintro m d ⟨rfl,l,o,rfl⟩;have e:yM start ts time=start+time:=by
   unfold yM;have:ts.reverse.find? (λp=>decide (p.1<=time))=aE:=by
    rw[List.find?_eq_none];intro p g;have:=l p (by rw[cJ,List.take_length];exact g);simpa using this
   rw[this]
  rw[e] at q;exact⟨_,_,_,h,rfl,q⟩
theorem JO(q:K (.bl aB) μ):uz [vE p] μ K Z:=by
 unfold uz;refine⟨rfl,_,rfl,?_⟩;refine zd ?_;refine⟨_,rfl,?_⟩;refine zd ?_;exact⟨_,rfl,q⟩
theorem yD:∀(n:Nat),bR (ly n (T.bl aB))=aA (ly n aB)
 |0=>rfl
 |n+1=>by simp[List.replicate_succ,bR,yD n]
theorem jQ{α:Type}(xs:List α):∃bs,bR (xs.map λ_=>T.bl aB)=aA bs/\bs.all id=aB:=by
 rw[List.map_const'];exact⟨_,yD _,by simp⟩
theorem ZQ:∀{μ:List MO},(μ++[x]).set μ.length y=μ++[y]
 |[]=>rfl
 |m::μ=>congrArg (m::·) (ZQ (μ:=μ))
end
section
variable {μ:aK}{x y z:Int}{ah sd:Int}
structure Hr where
 ho:aG
 s:Nat
 c:Nat
 h:Nat
 st:Int
 ts:List Tn
 l:Option Ls
 m:Option Int
 n:Option Int
 bt:T
 kt:T
noncomputable abbrev Hr.seat(u:Hr):MO:=we (.mut u.c) (.mut u.h) u.kt
noncomputable abbrev Hr.house(x y z ah sd:Int)(u:Hr):MO:=eM (bG x y z) ah sd (fZ u.s) u.l u.m u.n u.bt aC
noncomputable abbrev yj(x y z ah sd:Int)(cm g d:Nat)(a:T):MO:=.obj 47 [(9,bG x y z),(14,.int ah),(15,.int sd),(23,.mut cm),(24,.mut g),(25,a),(26,.mut d)]
noncomputable abbrev ju(u:Hr):Key×T:=(.inr u.ho,.mut u.s)
structure bX(μ:aK)(w cm gr g d:Nat)(x y z ah sd:Int)(now:T)(us:List Hr)(rs:List T)(ps:List Gp):Prop where
 wo:μ[w]?=aA (yj x y z ah sd cm g d now)
 bk:Bk μ cm gr (bG x y z) ps
 gv:μ[g]?=aA (.lst rs)
 dc:μ[d]?=aA (.dic (us.map ju))
 se:∀u∈us,μ[u.s]?=aA u.seat
 cl:∀u∈us,μ[u.c]?=aA (gG u.st u.ts)
 hs:∀u∈us,μ[u.h]?=aA (u.house x y z ah sd)
 n1:(us.map (·.s)).Nodup
 n2:(us.map (·.h)).Nodup
 gg:g≠gr
variable {w cm gr g d:Nat}{now:T}{us:List Hr}{rs:List T}{ps:List Gp}
theorem zX{i j:Nat}{a b:MO}(h1:μ[i]?=aA a)(h2:μ[j]?=aA b)(n:a≠b):i≠j:=λe=>by
 subst e;rw[h1] at h2;exact n (bP h2)
theorem vi{f:Hr->Nat}(n:(us.map f).Nodup){i j:Nat}{u v:Hr}(d:us[i]?=aA u)(c:us[j]?=aA v)(e:f u=f v):i=j:=by
 have k:(us.map f)[i]?=aA (f u):=by rw[eE,d];rfl
 have g:(us.map f)[j]?=aA (f u):=by rw[eE,c,e];rfl
 obtain⟨a,ea⟩:=bI.mp k;obtain⟨b,eb⟩:=bI.mp g;rcases Nat.lt_trichotomy i j with h|h|h
 ·exact absurd (ea.trans eb.symm) (nW.mp n i j a b h)
 ·exact h
 ·exact absurd (eb.trans ea.symm) (nW.mp n j i b a h)
theorem map_set{α:Type}{f:Hr->α}{i:Nat}{u v:Hr}(a:us[i]?=aA u)(e:f v=f u):(us.set i v).map f=us.map f:=by
 rw[List.map_set,e];exact fV (by rw[eE,a];rfl)
theorem bX.upd{k:aK}{i:Nat}{u v:Hr}(W:bX μ w cm gr g d x y z ah sd now us rs ps)(m:us[i]?=aA u)(ch:Ch [u.h,u.s] μ k)(h1:v.ho=u.ho)(h2:v.s=u.s)(B:v.c=u.c)(r:v.h=u.h)(A:v.st=u.st)(t:v.ts=u.ts)
  (gh:k[u.h]?=aA (v.house x y z ah sd)) (gs:k[u.s]?=aA v.seat):bX k w cm gr g d x y z ah sd now (us.set i v) rs ps:=by
 have n:u∈us:=b9 m;have hh:=W.hs u n;have hs:=W.se u n;have out:∀{j:Nat}{a:MO},μ[j]?=aA a->a≠u.house x y z ah sd->a≠u.seat->k[j]?=aA a:=λ{j a} e n1 n2=>ch.get e (by
  simp only[cA,fN,or_false,not_or];exact⟨zX e hh n1,zX e hs n2⟩)
 have mem:∀{q:Hr},q∈us.set i v->q=v\/∃j,j≠i/\us[j]?=aA q:=λ{q} l=>by
  obtain⟨j,b⟩:=i4.mp l;by_cases e:j=i
  ·subst e;rw[mM (bI.mp m).1] at b;exact .inl (bP b).symm
  ·rw[bW (b_ e)] at b;exact .inr ⟨j,e,b⟩
 refine⟨out W.wo (λe=>by cases e) (λe=>by cases e),W.bk.ch ch ?_ ?_ λp o=>?_,out W.gv (λe=>by cases e) (λe=>by cases e),?_,λq l=>?_,λq l=>?_,λq l=>?_,by rw[map_set m h2];exact W.n1,by rw[map_set m r];exact W.n2,W.gg⟩
 ·simp only[cA,fN,or_false,not_or];exact⟨zX W.bk.com hh (λe=>by cases e),zX W.bk.com hs (λe=>by cases e)⟩
 ·simp only[cA,fN,or_false,not_or];exact⟨zX W.bk.lst hh (λe=>by cases e),zX W.bk.lst hs (λe=>by cases e)⟩
 ·simp only[cA,fN,or_false,not_or];exact⟨zX (W.bk.at_ p o) hh (λe=>by cases e),zX (W.bk.at_ p o) hs (λe=>by cases e)⟩
 ·rw[map_set m (f:=ju) (by unfold ju;rw[h1,h2])];exact out W.dc (λe=>by cases e) (λe=>by cases e)
 ·rcases mem l with rfl|⟨j,ne,b⟩
  ·rw[h2];exact gs
  ·refine ch.get (W.se q (b9 b)) ?_;simp only[cA,fN,or_false,not_or];exact⟨zX (W.se q (b9 b)) hh (λe=>by cases e),λe=>ne (vi W.n1 b m e)⟩
 ·rcases mem l with rfl|⟨j,ne,b⟩
  ·rw[B,A,t];exact out (W.cl u n) (λe=>by cases e) (λe=>by cases e)
  ·exact out (W.cl q (b9 b)) (λe=>by cases e) (λe=>by cases e)
 ·rcases mem l with rfl|⟨j,ne,b⟩
  ·rw[r];exact gh
  ·refine ch.get (W.hs q (b9 b)) ?_;simp only[cA,fN,or_false,not_or];exact⟨λe=>ne (vi W.n2 b m e),zX (W.hs q (b9 b)) hs (λe=>by cases e)⟩
theorem bX.ch0(W:bX μ w cm gr g d x y z ah sd now us rs ps)(ch:Ch [] μ j):bX j w cm gr g d x y z ah sd now us rs ps:=
 ⟨ch.get W.wo (by simp),W.bk.ch ch (by simp) (by simp) (by simp),ch.get W.gv (by simp),ch.get W.dc (by simp),λu a=>ch.get (W.se u a) (by simp),λu a=>ch.get (W.cl u a) (by simp),λu a=>ch.get (W.hs u a) (by simp),W.n1,W.n2,W.gg⟩
theorem bX.book{b:aK}{c:List Gp}(W:bX μ w cm gr g d x y z ah sd now us rs ps)(ch:Ch [gr] μ b)(B:Bk b cm gr (bG x y z) c):bX b w cm gr g d x y z ah sd now us rs c:=by
 have out:∀{j:Nat}{a:MO},μ[j]?=aA a->(∀l,a≠.lst l)->b[j]?=aA a:=λ{j a} e n=>ch.get e (by
  simp only[cA,fN,or_false];exact zX e W.bk.lst (n _))
 exact⟨out W.wo (λ_ e=>by cases e),B,ch.get W.gv (by simp[W.gg]),out W.dc (λ_ e=>by cases e),λu f=>out (W.se u f) (λ_ e=>by cases e),λu f=>out (W.cl u f) (λ_ e=>by cases e),λu f=>out (W.hs u f) (λ_ e=>by cases e),W.n1,W.n2,W.gg⟩
end
section
variable {μ:aK}{K:T->aK->Prop}{Z:Xp}{x y z:Int}{ah sd:Int}{w cm gr g d:Nat}{now:T}{us:List Hr}{rs:List T}{ps:List Gp}{t n:Int}{ho:aG}{hs:T}
theorem rS{α:Type}{xs:List α}{j:Nat}{v:α}(h:xs[j]?=aA v):vY xs (j:Int)=aA v:=by
 obtain⟨a,e⟩:=bI.mp h;unfold vY oo;rw[if_pos (by lia),if_pos (by lia)];simpa using h
theorem ws{a b:T}{r:List T}:vY (a::b::r) 1=aA b:=rS (j:=1) rfl
theorem YM{a b c:T}{r:List T}:vY (a::b::c::r) 2=aA c:=rS (j:=2) rfl
theorem Pm(q:K (.bl aB) μ):z9 [.tup [.str "lease",a,b,c,e]] μ K Z:=by
 unfold z9;refine⟨rfl,_,rfl,_,rfl,?_⟩;exact q
theorem xM(q:K (.bl aB) μ):z9 [.tup [.str "ask",a,b,c]] μ K Z:=by
 unfold z9;refine⟨rfl,_,rfl,_,rfl,?_⟩;exact q
theorem UC(q:K (.bl aB) μ):zp [.tup [.str "lease",.int t,b,c,e]] μ K Z:=by
 unfold zp;refine⟨rfl,?_⟩;refine Pm ?_;refine⟨_,rfl,?_⟩;exact zd q
theorem RA(q:K (.bl aB) μ):zp [.tup [.str "ask",.int t,b,c]] μ K Z:=by
 unfold zp;refine⟨rfl,?_⟩;refine xM ?_;refine⟨_,rfl,?_⟩;exact zd q
theorem kn:∀{us:List Hr}{i:Nat}{u:Hr},us[i]?=aA u->(us.map (·.ho)).Nodup->zL (.inr u.ho) (us.map ju)=aA (.mut u.s)
 |[],_,_,h,_=>by cases h
 |v::r,0,u,h,_=>by
  cases h;show zL _ (ju v::_)=_;unfold zL;rw[if_pos rfl]
 |v::r,i+1,u,h,n=>by
  have h:r[i]?=aA u:=h;rw[dU,lY] at n;show zL _ (ju v::r.map ju)=_;unfold zL;rw[if_neg (λe=>n.1 (eR.mpr ⟨u,b9 h,(lU e).symm⟩))];exact kn h n.2
noncomputable def Xe(now:T)(t:Int):Prop:=now=.non\/∃s:Int,now=.int s/\s<=t
theorem j9{i:Nat}{u:Hr}{row:T}{r:List T}(W:bX μ w cm gr g d x y z ah sd now us rs ps)(a:us[i]?=aA u)(nd:(us.map (·.ho)).Nodup)(c:Xe now t)(h1:u.ho.length<=aQ)(h2:zP u.ho=aB)(er:row=.tup (.str ho::.int t::.str u.ho::r))
  (b:∀(K:T->aK->Prop) (Z:Xp),K (.bl aB) μ->zp [row] μ K Z) (q:K .non μ):zV [.mut w,row] μ K Z:=by
 unfold zV;refine⟨rfl,?_⟩;refine b _ _ ?_;subst er;refine⟨_,_,_,W.wo,rfl,?_⟩;rcases c with rfl|⟨s,rfl,e⟩
 ·refine⟨_,YM,?_⟩;refine zQ h1 ?_;rw[h2];refine⟨_,YM,_,_,_,W.wo,rfl,_,W.dc,?_⟩;rw[kn a nd];exact q
 ·refine⟨_,ws,_,_,_,W.wo,rfl,?_⟩;refine qG (by lia) ?_;refine⟨_,YM,?_⟩;refine zQ h1 ?_;rw[h2];refine⟨_,YM,_,_,_,W.wo,rfl,_,W.dc,?_⟩;rw[kn a nd];exact q
end
section
variable {x y z:Int}{ah:Int}{t n k:Int}{ho:aG}{hs:T}{u:Hr}
structure Wn(x y z ah:Int):Prop where
 s:Hz x y z
 xb:x<=1000000000000000
 zb:z<=10000000
 a0:0<=ah
structure dY(x y z:Int)(u:Hr):Prop where
 h1:u.ho.length<=aQ
 h2:zP u.ho=aB
 ok:Fq x y u.l
 nm:∀k,u.n=aA k->0<=k/\k<x*y*z
structure oO(v u:Hr):Prop where
 ho:v.ho=u.ho
 s:v.s=u.s
 h:v.h=u.h
 st:v.st=u.st
 ts:v.ts=u.ts
noncomputable abbrev Hr.rd(u:Hr)(t:Int):Int:=yM u.st u.ts t
noncomputable abbrev FM(a:aG)(t:Int)(ho:aG)(k:Int):T:=.tup [.str a,.int t,.str ho,.int k]
noncomputable abbrev BR(a:aG)(t:Int)(ho:aG)(hs:T)(n:Int):T:=.tup [.str a,.int t,.str ho,hs,.int n]
theorem MH{a:Ls}{r:Int}(s:Hz x y z)(ok:gY x y a){n m:Option Int}(k1:1<=k)(C:qb y z a n m r+k<=a.2.2*z):0<=lG y z a n m r k/\lG y z a n m r k<x*y*z:=by
 obtain⟨A,w,v,u,t⟩:=id s;have bn:=Vs (n:=n) (m:=m) (r:=r) s ok;have l:=ok.h0;have j:=ok.h1;have b:=ok.ux;have B:a.2.2*z<=x*z:=n8 b (by lia);generalize i:qb y z a n m r+k-1=p at *;have f:0<=p:=by lia
 have p1:p<x*z:=by lia
 have d:0<=p / z:=tz f (by lia);have c:p / z<x:=tJ (by lia) p1;have h:=nH p (show z≠0 by lia);have g:=nM p (show 0<z by lia);have e:lG y z a n m r k=(p / z*y+a.1)*z+p % z:=by show ma y z a.1 (qb y z a n m r+k-1)=_;rw[i];rfl
 rw[e];obtain⟨q,o,_⟩:=Ky (z:=z) d c l j h g;exact⟨q,o⟩
end
section
variable {μ:aK}{x y z:Int}{ah sd:Int}{w cm gr g d:Nat}{now:T}{us:List Hr}{rs:List T}{ps:List Gp}{t n:Int}{ho:aG}{u:Hr}
theorem bX.now'(W:bX μ w cm gr g d x y z ah sd now us rs ps):bX (μ.set w (yj x y z ah sd cm g d nw)) w cm gr g d x y z ah sd nw us rs ps:=by
 have out:∀{j:Nat}{a:MO},μ[j]?=aA a->a≠yj x y z ah sd cm g d now->(μ.set w (yj x y z ah sd cm g d nw))[j]?=aA a:=λ{j a} e n=>by
  rw[bW (b_ (zX e W.wo n))];exact e
 have ch:Ch [w] μ (μ.set w (yj x y z ah sd cm g d nw)):=Ch.set;have b:∀{j:Nat}{a:MO},μ[j]?=aA a->a≠yj x y z ah sd cm g d now->j∉[w]:=λ{j a} e n=>by simpa using zX e W.wo n
 exact⟨aH W.wo,W.bk.ch ch (b W.bk.com (λe=>by cases e)) (b W.bk.lst (λe=>by cases e)) (λp f=>b (W.bk.at_ p f) (λe=>by cases e)),out W.gv (λe=>by cases e),out W.dc (λe=>by cases e),λu c=>out (W.se u c) (λe=>by cases e),λu c=>out (W.cl u c) (λe=>by cases e),λu c=>out (W.hs u c) (λe=>by cases e),W.n1,W.n2,W.gg⟩
theorem bX.gave(W:bX μ w cm gr g d x y z ah sd now us rs ps):bX (μ.set g (.lst rs')) w cm gr g d x y z ah sd now us rs' ps:=by
 have out:∀{j:Nat}{a:MO},μ[j]?=aA a->(∀l,a≠.lst l)->(μ.set g (.lst rs'))[j]?=aA a:=λ{j a} e n=>by
  rw[bW (b_ (zX e W.gv (n _)))];exact e
 have ch:Ch [g] μ (μ.set g (.lst rs')):=Ch.set;have b:∀{j:Nat}{a:MO},μ[j]?=aA a->(∀l,a≠.lst l)->j∉[g]:=λ{j a} e n=>by simpa using zX e W.gv (n _)
 exact⟨out W.wo (λ_ e=>by cases e),W.bk.ch ch (b W.bk.com (λ_ e=>by cases e)) (by simpa using b_ W.gg) (λp f=>b (W.bk.at_ p f) (λ_ e=>by cases e)),aH W.gv,out W.dc (λ_ e=>by cases e),λu c=>out (W.se u c) (λ_ e=>by cases e),λu c=>out (W.cl u c) (λ_ e=>by cases e),λu c=>out (W.hs u c) (λ_ e=>by cases e),W.n1,W.n2,W.gg⟩
noncomputable abbrev KY(t:Int)(ho:aG)(nm:Int):T:=.tup [.int t,.str ho,.int nm]
end
section
variable {μ μ1 μ2:aK}{a:Ls}{h:Int}
theorem Ch.geS(a:Ch S μ μ1)(b:Ch d μ1 μ2)(h:∀j∈d,μ.length<=j):Ch S μ μ2:=
 ⟨cU a.len b.len,λj c hs=>(b.ot j (cY c a.len) λw=>absurd (h j w) (by lia)).trans (a.ot j c hs)⟩
end
section
variable {u:Hr}
noncomputable abbrev Cd:=aG×Int×List Tn
noncomputable abbrev Hr.cd(u:Hr):Cd:=(u.ho,u.st,u.ts)
end
section
variable {μ:aK}{K:T->aK->Prop}{Z:Xp}{x y z:Int}{ah sd:Int}{w cm g d:Nat}{now:T}{hs:T}{i:Nat}
theorem zD(hs:St μ i)(h0:0<base)(h1:base<1000000000000000000000000000000000000000000000000000000000000)(q:∀v j,0<=v->v<base->Up μ i j->K (.int v) j):zo [.mut i,.int base] μ K Z:=by
 obtain⟨a,b,c,h⟩:=hs;have d:∀x:Int,0<=x % base/\x % base<base:=λx=>⟨nH _ (by lia),nM _ h0⟩;unfold zo;refine⟨rfl,_,_,h,rfl,?_⟩;refine zY (λe=>?_) (λe=>?_)
 ·refine⟨_,_,h,rfl,h0,_,_,h,rfl,⟨h0,by lia⟩,?_⟩;refine .inl ⟨_,h,by simp,?_⟩;exact q _ _ (d _).1 (d _).2 (Up.set h)
 ·refine⟨_,_,h,rfl,?_⟩;refine .inl ⟨_,h,by simp,?_⟩;refine⟨_,_,aH h,rfl,_,_,aH h,rfl,?_⟩;refine Th λv=>?_;refine⟨h0,?_⟩;exact q _ _ (d _).1 (d _).2 (Up.set h)
theorem uT(h:μ[i]?=aA (.obj 45 []))(c:0<=ah)(hd:0<=sd)(q:∀r b,Ch [i] μ r->μ.length<=b->r[i]?=aA (eM j ah sd kp aE aE aE (.mut b) aC)->K .non r) :
  qi [.mut i,j,.int ah,.int sd,kp,.non] μ K Z:=by
 unfold qi;refine⟨rfl,?_⟩;refine kE c ?_;refine kE hd ?_;refine⟨_,_,h,by show (0:Nat)<900;decide,_,_,aH h,by show (1:Nat)<900;decide,_,_,aH (aH h),by show (2:Nat)<900;decide,_,_,aH (aH (aH h)),by show (3:Nat)<900;decide,_,_,aH (aH (aH (aH h))),by show (4:Nat)<900;decide,_,_,aH (aH (aH (aH (aH h)))),by show (5:Nat)<900;decide,_,_,aH (aH (aH (aH (aH (aH h))))),by show (6:Nat)<900;decide,?_⟩;have a:=aH (y:=MO.obj 45 [(9,j),(14,.int ah),(15,.int sd),(16,kp),(6,.non),(17,.non),(18,.non)]) (aH (y:=MO.obj 45 [(9,j),(14,.int ah),(15,.int sd),(16,kp),(6,.non),(17,.non)]) (aH (y:=MO.obj 45 [(9,j),(14,.int ah),(15,.int sd),(16,kp),(6,.non)]) (aH (y:=MO.obj 45 [(9,j),(14,.int ah),(15,.int sd),(16,kp)]) (aH (y:=MO.obj 45 [(9,j),(14,.int ah),(15,.int sd)]) (aH (y:=MO.obj 45 [(9,j),(14,.int ah)]) (aH (y:=MO.obj 45 [(9,j)]) h))))));refine⟨_,_,z5 a,by show (7:Nat)<900;decide,_,_,aH (z5 a),by show (8:Nat)<900;decide,?_⟩;refine q _ _ ((((((((((Ch.set.trans Ch.set).trans Ch.set).trans Ch.set).trans Ch.set).trans Ch.set).trans Ch.set).trans (Ch.app.mono (by simp))).trans Ch.set).trans Ch.set)) (by simp) (aH (aH (z5 a)))
theorem X2{a e:Nat}{ck:T}{now:T}(hw:μ[w]?=aA (yj x y z ah sd cm g d now))(hs:μ[a]?=aA (we ck .non .non))(f:μ[e]?=aA (.tab 1))(i:0<=ah)(hd:0<=sd)
  (q:∀r b,Ch [a] μ r->r[a]?=aA (we ck (.mut μ.length) .non)->r[μ.length]?=aA (eM (bG x y z) ah sd (fZ a) aE aE aE (.mut b) aC)->K .non r):zR [.mut w,.mut a] μ K Z:=by
 unfold zR;refine⟨rfl,_,_,_,hw,rfl,_,_,_,hw,rfl,_,_,_,hw,rfl,⟨e,f⟩,[.mut a],rfl,_,_,_,hs,rfl,?_⟩;have k:=(bI.mp hs).1;refine uT za i hd λr b ch l gh=>?_;have gs:r[a]?=aA (we ck .non .non):=ch.get (z5 hs) (by simp;lia);refine⟨rfl,_,_,gs,by show (3:Nat)<900;decide,?_⟩;refine q _ b ⟨?_,λj h c=>?_⟩ (aH gs) ?_
 ·have:=ch.len;simp at this ⊢;lia
 ·have c:j≠a:=by simpa using c
  rw[bW (b_ c),ch.ot j (by simp;lia) (by simp;lia),dN h]
 ·rw[bW (by lia)];exact gh
end
section
variable {μ μ1 μ2:aK}{K:T->aK->Prop}{Z:Xp}{x y z:Int}{ah sd:Int}{w cm gr g d dc:Nat}{now:T}{us:List Hr}{rs:List T}{ps:List Gp}
structure Kd where
 ho:aG
 c:Nat
 st:Int
 ts:List Tn
noncomputable abbrev zK(k:Kd):Key×T:=(.inr k.ho,.mut k.c)
noncomputable abbrev Kd.cd(k:Kd):Cd:=(k.ho,k.st,k.ts)
structure dX(μ:aK)(k:Kd):Prop where
 h1:k.ho.length<=aQ
 h2:zP k.ho=aB
 ck:μ[k.c]?=aA (gG k.st k.ts)
theorem Zh:∀{a:List Kd}{k:Kd},k∈a->(a.map (·.ho)).Nodup->zL (.inr k.ho) (a.map zK)=aA (.mut k.c)
 |[],_,h,_=>by cases h
 |v::r,k,h,n=>by
  rw[dU,lY] at n;show zL _ (zK v::r.map zK)=_;unfold zL;rcases cA.mp h with rfl|h
  ·rw[if_pos rfl]
  ·rw[if_neg (λe=>n.1 (eR.mpr ⟨k,h,(lU e).symm⟩))];exact Zh h n.2
variable {ks:List Kd}
theorem j7(h:qc μ i r)(ho:μ[j]?=aA o)(n1:∀l,o≠.dic l)(n2:∀e l,o≠.frd e l):j≠i:=λe=>by
 subst e;rcases h with h|⟨ep,h⟩
 ·rw[h] at ho;exact n1 _ (bP ho).symm
 ·rw[h] at ho;exact n2 _ _ (bP ho).symm
theorem kb(ho:μ[dc]?=aA (.dic (ks.map zK)))(f:ks≠[])(j:ks.length<=1000)(hk:∀k∈ks,dX μ k)(nd:(ks.map (·.ho)).Nodup)
  (q:∀ep,K (.bl aB) (μ.set dc (.frd ep (ks.map zK)))):qF [.mut dc] μ K Z:=by
 have hd:qc μ dc (ks.map zK):=.inl ho;have dl:=(bI.mp ho).1;unfold qF;refine⟨rfl,_,ho,_,hd,?_⟩;refine qG (by
  rw[cJ];intro e;have e:ks.length=0:=by lia
  exact f (Ep.mp e)) ?_
 refine⟨_,hd,λep=>?_⟩;refine⟨by rw[cJ,cJ];unfold aQ;lia,?_⟩;rw[hO];have gd:(μ.set dc (.frd ep (ks.map zK)))[dc]?=aA (.frd ep (ks.map zK)):=aH ho;refine wj (μ:=μ.set dc (.frd ep (ks.map zK))) (λk:Kd=>T.str k.ho) (λ_=>aA (.bl aB)) (λk a i b=>?_) ?_ gd
 ·have H:=hk k a;refine⟨_,rfl,?_⟩;refine zQ H.h1 ?_;rw[H.h2];refine⟨_,_,.inr ⟨ep,gd⟩,Zh a nd,?_⟩;have ck:(μ.set dc (.frd ep (ks.map zK)))[k.c]?=aA (gG k.st k.ts):=by
   rw[bW (b_ (j7 hd H.ck (λ_ e=>by cases e) (λ_ _ e=>by cases e)))];exact H.ck
  refine⟨_,ck,?_⟩;exact b
 ·rw[show ks.filterMap (λ_=>aA (T.bl aB))=ks.map (λ_=>T.bl aB) by rw[mL]];obtain⟨bs,h,g⟩:=jQ ks;refine⟨_,h,?_⟩;have d:=q ep;rw[←g] at d;exact d
theorem Zz{a:Nat}(h:l.Nodup)(n:a∉l):(l++[a]).Nodup:=by
 rw[lu];exact⟨h,by simp,λb f c d e=>n (by rw[←bT.mp d,←e];exact f)⟩
theorem bX.seat(W:bX μ w cm gr g d x y z ah sd now us rs ps)(ch:Ch [d] μ r)(gd:r[d]?=aA (.dic ((us++[v]).map ju)))(A:r[v.s]?=aA v.seat)(t:r[v.c]?=aA (gG v.st v.ts))(o:r[v.h]?=aA (v.house x y z ah sd))(n1:μ.length<=v.s)(n2:μ.length<=v.h):bX r w cm gr g d x y z ah sd now (us++[v]) rs ps:=by
 have out:∀{j:Nat}{a:MO},μ[j]?=aA a->(∀l,a≠.dic l)->r[j]?=aA a:=λ{j a} e n=>ch.get e (by simpa using zX e W.dc (n _));have f:∀{j:Nat}{a:MO},μ[j]?=aA a->(∀l,a≠.dic l)->j∉[d]:=λ{j a} e n=>by simpa using zX e W.dc (n _)
 have lt:∀{j:Nat}{a:MO},μ[j]?=aA a->j<μ.length:=λe=>(bI.mp e).1;have mem:∀{q:Hr}{P:Hr->Prop},(∀u∈us,P u)->P v->q∈us++[v]->P q:=λ{q P} h1 h2 i=>by
  rcases cH.mp i with h|h
  ·exact h1 q h
  ·rw[bT.mp h];exact h2
 refine⟨out W.wo (λ_ e=>by cases e),W.bk.ch ch (f W.bk.com (λ_ e=>by cases e)) (f W.bk.lst (λ_ e=>by cases e)) (λp m=>f (W.bk.at_ p m) (λ_ e=>by cases e)),out W.gv (λ_ e=>by cases e),gd,λq i=>mem (P:=λu=>r[u.s]?=aA u.seat) (λu b=>out (W.se u b) (λ_ e=>by cases e)) A i,λq i=>mem (P:=λu=>r[u.c]?=aA (gG u.st u.ts)) (λu b=>out (W.cl u b) (λ_ e=>by cases e)) t i,λq i=>mem (P:=λu=>r[u.h]?=aA (u.house x y z ah sd)) (λu b=>out (W.hs u b) (λ_ e=>by cases e)) o i,?_,?_,W.gg⟩
 ·rw[iJ];exact Zz W.n1 λk=>by
   obtain⟨u,b,e⟩:=eR.mp k;have:=lt (W.se u b);have e:u.s=v.s:=e;lia
 ·rw[iJ];exact Zz W.n2 λk=>by
   obtain⟨u,b,e⟩:=eR.mp k;have:=lt (W.hs u b);have e:u.h=v.h:=e;lia
theorem Td{z:Key}(h:z∉j.map (·.1)):xr z t j=j++[(z,t)]:=by
 unfold xr;rw[if_neg];intro e;obtain⟨p,a,e⟩:=List.any_eq_true.mp e;exact h (eR.mpr ⟨p,a,by simpa using e⟩)
theorem xv(q:∀j,Ch [] μ j->j.length=μ.length+1->j[μ.length]?=aA (we ck .non .non)->K .non j):vW [.mut μ.length,ck] (μ++[.obj 46 []]) K Z:=by
 unfold vW;refine⟨rfl,_,_,za,by show (0:Nat)<900;decide,_,_,aH za,by show (1:Nat)<900;decide,_,_,aH (aH za),by show (2:Nat)<900;decide,?_⟩;refine q _ ?_ (by simp) (aH (aH (aH za)));exact Ch.geS (Ch.geS (Ch.geS Ch.app Ch.set (by simp)) Ch.set (by simp)) Ch.set (by simp)
theorem PF:∀{us:List Hr}{z:aG},z∉us.map (·.ho)->(.inr z:Key)∉(us.map ju).map (·.1):=λ{us z} h a=>by
 rw[hO] at a;obtain⟨u,b,e⟩:=eR.mp a;exact h (eR.mpr ⟨u,b,lU e⟩)
structure CI(μ0 μ:aK)(w cm gr g d dc t1:Nat)(x y z ah sd:Int)(ks:List Kd)(n ep:Nat)(us:List Hr):Prop where
 W:bX μ w cm gr g d x y z ah sd .non us [] []
 cd:us.map Hr.cd=(ks.take n).map Kd.cd
 nw:∀u∈us,u.l=aE/\(u.n=aE/\u.m=aE)/\μ0.length<=u.h/\μ0.length<=u.s
 ch:Ch [dc] μ0 μ
 hd:μ[dc]?=aA (.frd ep (ks.map zK))
 tb:μ[t1]?=aA (.tab 1)
 kd:∀k∈ks,dX μ k
theorem CI.step{t1 ep n:Nat}{k:Kd}{t:Option T}{E:En}(C:CI μ0 μ w cm gr g d dc t1 x y z ah sd ks n ep us)(hk:ks[n]?=aA k)(nd:(ks.map (·.ho)).Nodup)(Z:ks.length<=1000)(O:0<=ah)(hs:0<=sd)(U:μ0.length<=d)(dd:dc<μ0.length)
  (hN:∀I t r A,CI μ0 r w cm gr g d dc t1 x y z ah sd ks (n+1) ep A->N [aA (.mut w),aA (bG x y z),aA (.int ah),aA (.int sd),aA (.mut dc),I,t] r) :
  qe [(zt 6 (uh 46 vW [(iP K9 (eV 4) (eV 5))])),(zS (zz 47 zR (eV 0) [(eV 6)])),(Zd (ze (eV 0) 26) (eV 5) (eV 6))] [aA (.mut w),aA (bG x y z),aA (.int ah),aA (.int sd),aA (.mut dc),aA (.str k.ho),t] μ (E.turn N):=by
 obtain⟨W,cd,nw,ch,hd,tb,kd⟩:=C;have F:=b9 hk;have V:=kd k F;have K:μ0.length<=μ.length:=ch.len;refine⟨_,_,.inr ⟨ep,hd⟩,Zh F nd,?_⟩;refine xv λm o J R=>?_;refine⟨rfl,?_⟩;have H:=W.ch0 o;refine⟨_,H.wo,?_⟩;refine X2 H.wo R (o.get tb (by simp)) O hs λμ2 b B Q P=>?_;have f:Ch [] μ μ2:=Ch.geS o B (by simp);have s:=W.ch0 f;refine⟨_,_,_,s.wo,rfl,?_⟩;have new:k.ho∉us.map (·.ho):=λG=>by
  have S:us.map (·.ho)=(ks.take n).map (·.ho):=by
   have:=congrArg (List.map (·.1)) cd;rw[hO,hO] at this;exact this
  rw[S] at G;have Y:n<ks.length:=(bI.mp hk).1;have p:((ks.take n++[k]).map (·.ho)).Nodup:=by
   rw[show ks.take n++[k]=ks.take (n+1) by rw[l8,hk];rfl];exact nd.sublist ((D3 _ _).map _)
  rw[iJ,lu] at p;exact p.2.2 k.ho G k.ho (by simp) rfl
 have X:us.length<=1000:=by
  have:=congrArg ll cd;rw[cJ,cJ,mH] at this;lia
 refine⟨_,s.dc,by rw[cJ];unfold aQ;lia,?_⟩;rw[Td (PF new)];have dl:d<μ.length:=(bI.mp W.dc).1;have q:(us.map ju++[((.inr k.ho:Key),T.mut μ.length)])=(us++[(⟨k.ho,μ.length,k.c,m.length,k.st,k.ts,aE,aE,aE,.mut b,.non⟩:Hr)]).map ju:=by rw[iJ];rfl
 have c2:μ2[k.c]?=aA (gG k.st k.ts):=f.get V.ck (by simp);have i:∀{j:Nat}{a:MO},μ2[j]?=aA a->(∀l,a≠.dic l)->(μ2.set d (.dic ((us++[(⟨k.ho,μ.length,k.c,m.length,k.st,k.ts,aE,aE,aE,.mut b,.non⟩:Hr)]).map ju)))[j]?=aA a:=λ{j a} e n=>by
  rw[bW (b_ (zX e s.dc (n _)))];exact e
 refine hN _ _ _ (us++[⟨k.ho,μ.length,k.c,m.length,k.st,k.ts,aE,aE,aE,.mut b,.non⟩]) ⟨?_,?_,?_,?_,?_,?_,?_⟩
 ·rw[q];exact W.seat (f.mono (by simp) |>.trans Ch.set) (aH s.dc) (i Q (λ_ e=>by cases e)) (i c2 (λ_ e=>by cases e)) (i P (λ_ e=>by cases e)) (bE _) (by show μ.length<=m.length;lia)
 ·rw[iJ,cd,l8,hk,iJ];rfl
 ·intro u M;rcases cH.mp M with h|h
  ·exact nw u h
  ·rw[bT.mp h];exact⟨rfl,⟨rfl,rfl⟩,by show μ0.length<=m.length;lia,K⟩
 ·exact Ch.geS (ch.trans (f.mono (by simp))) Ch.set (by simpa using U)
 ·rw[q];exact i (f.get hd (by simp)) (λ_ e=>by cases e)
 ·rw[q];exact i (f.get tb (by simp)) (λ_ e=>by cases e)
 ·intro L v;have D:=kd L v;rw[q];exact⟨D.h1,D.h2,i (f.get D.ck (by simp)) (λ_ e=>by cases e)⟩
end
section
variable {μ μ2:aK}{K:T->aK->Prop}{Z:Xp}{x y z:Int}{ah sd:Int}{w cm gr g d dc:Nat}{us:List Hr}{ks:List Kd}
theorem LW{t1:Nat}(W:bX μ w cm gr g d x y z ah sd .non [] [] [])(hd:μ[dc]?=aA (.frd ep (ks.map zK)))(F:ks.length<=1000)(hk:∀k∈ks,dX μ k)(nd:(ks.map (·.ho)).Nodup)(E:μ[t1]?=aA (.tab 1))(G:0<=ah)(hs:0<=sd)(I:μ0.length<=d)(dd:dc<μ0.length)(ch0:Ch [dc] μ0 μ)
  (q:∀r ep us,bX r w cm gr g d x y z ah sd .non us [] []->us.map Hr.cd=ks.map Kd.cd->(∀u∈us,u.l=aE/\(u.n=aE/\u.m=aE)/\μ0.length<=u.h/\μ0.length<=u.s)->Ch [dc] μ0 r->r[dc]?=aA (.frd ep (ks.map zK))->K .non r) :
  qe (zO.drop 8) [aA (.mut w),aA (bG x y z),aA (.int ah),aA (.int sd),aA (.mut dc),aE,aE] μ (En.fn K Z):=by
 have out:∀{b j:Nat}{a:MO},μ[j]?=aA a->(∀e l,a≠.frd e l)->(μ.set dc (.frd b (ks.map zK)))[j]?=aA a:=λ{b j a} e n=>by
  rw[bW (b_ (zX e hd (n _ _)))];exact e
 refine⟨_,.inr ⟨ep,hd⟩,λb=>?_⟩;have C0:CI μ0 (μ.set dc (.frd b (ks.map zK))) w cm gr g d dc t1 x y z ah sd ks 0 b []:=by
  have o:∀{j:Nat}{a:MO},μ[j]?=aA a->(∀e l,a≠.frd e l)->j∉[dc]:=λ{j a} e n=>by simpa using zX e hd (n _ _)
  have ch:Ch [dc] μ (μ.set dc (.frd b (ks.map zK))):=Ch.set;refine⟨⟨out W.wo (λ_ _ e=>by cases e),W.bk.ch ch (o W.bk.com (λ_ _ e=>by cases e)) (o W.bk.lst (λ_ _ e=>by cases e)) (by simp),out W.gv (λ_ _ e=>by cases e),out W.dc (λ_ _ e=>by cases e),by simp,by simp,by simp,W.n1,W.n2,W.gg⟩,rfl,by simp,ch0.trans ch,aH hd,out E (λ_ _ e=>by cases e),λk A=>?_⟩;have B:=hk k A;exact⟨B.h1,B.h2,out B.ck (λ_ _ e=>by cases e)⟩
 rw[hO];refine vM (λn t r=>∃us i f,t=[aA (.mut w),aA (bG x y z),aA (.int ah),aA (.int sd),aA (.mut dc),i,f]/\CI μ0 r w cm gr g d dc t1 x y z ah sd ks n b us) ⟨[],_,_,rfl,C0⟩ ?_ ?_ ?_
 ·rintro n u t r p ⟨us,i,f,rfl,C⟩ N H;rw[eE] at p;cases c:ks[n]? with
  |none=>rw[c] at p;cases p
  |some k=>
   rw[c] at p;cases p;refine⟨_,rfl,?_⟩;exact C.step c nd F G hs I dd λi f D v J=>H _ _ ⟨v,i,f,rfl,J⟩
 ·rintro t r ⟨us,i,f,rfl,C⟩;rw[cJ] at C;have cd:=C.cd;rw[n7 (bE _)] at cd;exact q r b us C.W cd C.nw C.ch C.hd
 ·rintro n t r ⟨us,i,f,rfl,C⟩;exact C.hd
theorem GH{t1:Nat}(hw:μ[w]?=aA (MO.obj 47 [(9,bG x y z),(14,.int ah),(15,.int sd)]))(J:μ0.length<=w)(hd:μ[dc]?=aA (.frd ep (ks.map zK)))(L:ks.length<=1000)(hk:∀k∈ks,dX μ k)(nd:(ks.map (·.ho)).Nodup)(G:μ[t1]?=aA (.tab 1))(N:0<=ah)(hs:0<=sd)(dd:dc<μ0.length)(ch0:Ch [dc] μ0 μ)
  (q:∀r ep us cm gr g d,bX r w cm gr g d x y z ah sd .non us [] []->us.map Hr.cd=ks.map Kd.cd->(∀u∈us,u.l=aE/\(u.n=aE/\u.m=aE)/\μ0.length<=u.h/\μ0.length<=u.s)->μ0.length<=gr->μ0.length<=g->Ch [dc] μ0 r->r[dc]?=aA (.frd ep (ks.map zK))->K .non r) :
  qe (zO.drop 4) [aA (.mut w),aA (bG x y z),aA (.int ah),aA (.int sd),aA (.mut dc),aE,aE] μ (En.fn K Z):=by
 have I:=(bI.mp hw).1;have U:=ch0.len;refine jz ?_;refine⟨rfl,?_⟩;have p:(μ++[MO.obj 43 [(9,bG x y z),(10,.mut (μ.length+1))],.lst []])[w]?=aA (MO.obj 47 [(9,bG x y z),(14,.int ah),(15,.int sd)]):=by rw[dN I];exact hw
 refine⟨_,_,p,by show (3:Nat)<900;decide,?_⟩;have f:=aH (y:=MO.obj 47 [(9,bG x y z),(14,.int ah),(15,.int sd),(23,.mut μ.length)]) p;have fc:Ch [w] μ ((μ++[MO.obj 43 [(9,bG x y z),(10,.mut (μ.length+1))],.lst []]).set w (MO.obj 47 [(9,bG x y z),(14,.int ah),(15,.int sd),(23,.mut μ.length)])):=⟨by simp,λj M F=>by
  have F:j≠w:=by simpa using F
  rw[bW (b_ F),dN M]⟩
 have D:((μ++[MO.obj 43 [(9,bG x y z),(10,.mut (μ.length+1))],.lst []]).set w (MO.obj 47 [(9,bG x y z),(14,.int ah),(15,.int sd),(23,.mut μ.length)])).length=μ.length+2:=by simp
 have A:((μ++[MO.obj 43 [(9,bG x y z),(10,.mut (μ.length+1))],.lst []]).set w (MO.obj 47 [(9,bG x y z),(14,.int ah),(15,.int sd),(23,.mut μ.length)]))[μ.length]?=aA (MO.obj 43 [(9,bG x y z),(10,.mut (μ.length+1))]):=by
  rw[bW (by lia),fA (bE _)];simp
 have v:((μ++[MO.obj 43 [(9,bG x y z),(10,.mut (μ.length+1))],.lst []]).set w (MO.obj 47 [(9,bG x y z),(14,.int ah),(15,.int sd),(23,.mut μ.length)]))[μ.length+1]?=aA (.lst []):=by
  rw[bW (by lia),fA (by lia)];simp
 suffices H:∀b:aK,b[w]?=aA (MO.obj 47 [(9,bG x y z),(14,.int ah),(15,.int sd),(23,.mut μ.length)])->Ch [w] μ b->b.length=μ.length+2->b[μ.length]?=aA (MO.obj 43 [(9,bG x y z),(10,.mut (μ.length+1))])->b[μ.length+1]?=aA (.lst [])->qe (zO.drop 5) [aA (.mut w),aA (bG x y z),aA (.int ah),aA (.int sd),aA (.mut dc),aE,aE] b (En.fn K Z) from H _ f fc D A v
 clear p f fc D A v;intro b f fc D A v;refine⟨_,_,z5 f,by show (4:Nat)<900;decide,_,_,aH (z5 f),by show (5:Nat)<900;decide,?_⟩;have i:=aH (y:=MO.obj 47 [(9,bG x y z),(14,.int ah),(15,.int sd),(23,.mut μ.length),(24,.mut b.length),(25,.non)]) (aH (y:=MO.obj 47 [(9,bG x y z),(14,.int ah),(15,.int sd),(23,.mut μ.length),(24,.mut b.length)]) (z5 (x:=MO.lst []) f));have fe:Ch [w] b (((b++[MO.lst []]).set w (MO.obj 47 [(9,bG x y z),(14,.int ah),(15,.int sd),(23,.mut μ.length),(24,.mut b.length)])).set w (MO.obj 47 [(9,bG x y z),(14,.int ah),(15,.int sd),(23,.mut μ.length),(24,.mut b.length),(25,.non)])):=((Ch.app.mono (by simp)).trans Ch.set).trans Ch.set;have C:(((b++[MO.lst []]).set w (MO.obj 47 [(9,bG x y z),(14,.int ah),(15,.int sd),(23,.mut μ.length),(24,.mut b.length)])).set w (MO.obj 47 [(9,bG x y z),(14,.int ah),(15,.int sd),(23,.mut μ.length),(24,.mut b.length),(25,.non)])).length=b.length+1:=by simp
 have t:(((b++[MO.lst []]).set w (MO.obj 47 [(9,bG x y z),(14,.int ah),(15,.int sd),(23,.mut μ.length),(24,.mut b.length)])).set w (MO.obj 47 [(9,bG x y z),(14,.int ah),(15,.int sd),(23,.mut μ.length),(24,.mut b.length),(25,.non)]))[b.length]?=aA (.lst []):=by
  rw[bW (by lia),bW (by lia)];exact za
 suffices H:∀c:aK,c[w]?=aA (MO.obj 47 [(9,bG x y z),(14,.int ah),(15,.int sd),(23,.mut μ.length),(24,.mut b.length),(25,.non)])->Ch [w] b c->c.length=b.length+1->c[b.length]?=aA (.lst [])->qe (zO.drop 7) [aA (.mut w),aA (bG x y z),aA (.int ah),aA (.int sd),aA (.mut dc),aE,aE] c (En.fn K Z) from H _ i fe C t
 clear i fe C t;intro c i fe C t;refine⟨_,_,z5 i,by show (6:Nat)<900;decide,?_⟩;have E:=aH (y:=yj x y z ah sd μ.length b.length c.length .non) (z5 (x:=MO.dic []) i);have ff:Ch [w] c ((c++[MO.dic []]).set w (yj x y z ah sd μ.length b.length c.length .non)):=(Ch.app.mono (by simp)).trans Ch.set;have O:((c++[MO.dic []]).set w (yj x y z ah sd μ.length b.length c.length .non))[c.length]?=aA (.dic []):=by
  rw[bW (by lia)];exact za
 have all:Ch [w] μ ((c++[MO.dic []]).set w (yj x y z ah sd μ.length b.length c.length .non)):=(fc.trans fe).trans ff;have B:∀{j:Nat}{a:MO},μ[j]?=aA a->a≠MO.obj 47 [(9,bG x y z),(14,.int ah),(15,.int sd)]->j∉[w]:=λ{j a} e n=>by simpa using zX e hw n
 have W:bX ((c++[MO.dic []]).set w (yj x y z ah sd μ.length b.length c.length .non)) w μ.length (μ.length+1) b.length c.length x y z ah sd .non [] [] []:=
  ⟨E,⟨(fe.trans ff).get A (by simp;lia),(fe.trans ff).get v (by simp;lia),by simp,by simp⟩,ff.get t (by simp;lia),O,by simp,by simp,by simp,by simp,by simp,by lia⟩
 refine LW (μ0:=μ0) (t1:=t1) (ep:=ep) W (all.get hd (B hd (λe=>by cases e))) L (λk o=>⟨(hk k o).h1,(hk k o).h2,all.get (hk k o).ck (B (hk k o).ck (λe=>by cases e))⟩) nd (all.get G (B G (λe=>by cases e))) N hs (by lia) dd (Ch.geS ch0 all (by simpa using J)) λr ep us T S R Q P=>q r ep us _ _ _ _ T S R (by lia) (by lia) Q P
theorem ND{t1:Nat}(ho:μ[dc]?=aA (.dic (ks.map zK)))(w:ks≠[])(v:ks.length<=1000)(hk:∀k∈ks,dX μ k)(nd:(ks.map (·.ho)).Nodup)(t:μ[t1]?=aA (.tab 1))(A:0<=ah)(hs:0<=sd)
  (q:∀j ep us cm gr g d,bX j μ.length cm gr g d x y z ah sd .non us [] []->us.map Hr.cd=ks.map Kd.cd->(∀u∈us,u.l=aE/\(u.n=aE/\u.m=aE)/\μ.length<=u.h/\μ.length<=u.s)->μ.length<=gr->μ.length<=g->Ch [dc] μ j->j[dc]?=aA (.frd ep (ks.map zK))->K .non j) :
  zW [.mut μ.length,bG x y z,.int ah,.int sd,.mut dc] (μ++[.obj 47 []]) K Z:=by
 have dl:=(bI.mp ho).1;unfold zW;refine⟨rfl,?_⟩;refine kb (z5 ho) w v (λk a=>⟨(hk k a).h1,(hk k a).h2,z5 (hk k a).ck⟩) nd λep=>?_;have b:((μ++[MO.obj 47 []]).set dc (.frd ep (ks.map zK)))[μ.length]?=aA (.obj 47 []):=by rw[bW (by lia)];exact za
 have o:((μ++[MO.obj 47 []]).set dc (.frd ep (ks.map zK)))[dc]?=aA (.frd ep (ks.map zK)):=aH (z5 ho);have ch0:Ch [dc] μ ((μ++[MO.obj 47 []]).set dc (.frd ep (ks.map zK))):=(Ch.app.mono (by simp)).trans Ch.set;refine⟨_,_,b,by show (0:Nat)<900;decide,_,_,aH b,by show (1:Nat)<900;decide,_,_,aH (aH b),by show (2:Nat)<900;decide,?_⟩;have p:∀f:aK,Ch [dc] μ f->∀k∈ks,dX f k:=λf c k a=>⟨(hk k a).h1,(hk k a).h2,c.get (hk k a).ck (by simpa using zX (hk k a).ck ho (λe=>by cases e))⟩;have r:=Ch.geS (Ch.geS (Ch.geS ch0 (Ch.set (i:=μ.length) (x:=MO.obj 47 [(9,bG x y z)])) (by simp)) (Ch.set (i:=μ.length) (x:=MO.obj 47 [(9,bG x y z),(14,.int ah)])) (by simp)) (Ch.set (i:=μ.length) (x:=MO.obj 47 [(9,bG x y z),(14,.int ah),(15,.int sd)])) (by simp);refine GH (μ0:=μ) (t1:=t1) (ep:=ep) (aH (aH (aH b))) (bE _) ?_ v (p _ r) nd (r.get t (by simpa using zX t ho (λe=>by cases e))) A hs dl r q;rw[bW (by lia),bW (by lia),bW (by lia)];exact o
end
section
variable {μ:aK}{K:T->aK->Prop}{Z:Xp}{c:Nat}{fs:List (Nat×T)}{w:aG}
theorem Qj{ts:List Tn}(h:Ui ts)(l:ts.length<=40)(q:K (.bl aB) μ):jP [.lst (ts.map vE)] μ K Z:=by
 unfold jP;refine⟨rfl,?_⟩;refine⟨by rw[cJ];unfold aQ;omega,?_⟩;refine yv (λ_=>.bl aB) (λx e k b=>?_) ?_
 ·obtain⟨p,_,rfl⟩:=eR.mp e;exact⟨_,rfl,JO b⟩
 obtain⟨bs,d,c⟩:=jQ (ts.map vE);refine⟨bs,d,?_⟩;refine FU (by rw[c];rfl) ?_;refine⟨⟨by decide,by rw[cJ];unfold mf;omega⟩,?_⟩;have a:(jL 1 (((ts.map vE).length:Nat):Int) 1).length<=40:=by
  unfold jL;rw[cJ,DE,cJ];split<;>omega
 refine⟨cU a (by decide),?_⟩;refine yv (λ_=>.bl aB) (λx e k b=>?_) ?_
 ·unfold jL at e;obtain⟨n,f,rfl⟩:=eR.mp e;have f:=pK.mp f;rw[cJ] at f;have g:n+1<ts.length:=by split at f<;>omega
  have d:(1:Int)+n*1-1=n:=by omega
  have c:(1:Int)+n*1=((n+1:Nat):Int):=by omega
  refine⟨_,rfl,?_⟩;have j:vY (ts.map vE) (1+(n:Int)*1-1)=aA (vE ts[n]):=by
   rw[d,Xk (by omega) (by omega)];simp
  have i:vY (ts.map vE) (1+(n:Int)*1)=aA (vE ts[n+1]):=by
   rw[c,Xk (by omega) (by omega)];simp
  refine⟨_,j,_,rfl,_,i,_,rfl,?_⟩;have:=nW.mp h n (n+1) (by omega) g (l6 n);have b:k (aA (.bl (decide (ts[n].1<ts[n+1].1)))) μ:=by rw[decide_eq_true this];exact b
  exact b
 obtain⟨bs,d,c⟩:=jQ (jL 1 (((ts.map vE).length:Nat):Int) 1);refine⟨bs,d,?_⟩;have q:K (.bl (bs.all id)) μ:=by rw[c];exact q
 exact q
theorem vo{start:Int}{ts:List Tn}(a:Ui ts)(b:ts.length<=40)(q:K .non (μ++[gG start ts])):wB [.mut μ.length,.int start,.lst (ts.map vE)] (μ++[.obj 41 []]) K Z:=by
 unfold wB;refine⟨rfl,?_⟩;refine zd ?_;refine Qj a b ?_;refine⟨_,_,za,by decide,?_⟩;rw[ZQ];refine⟨_,_,za,(by (show (1:Nat)<900);decide),?_⟩;rw[ZQ];exact q
theorem Jf{lv:aK->Prop}{K:List T->aK->Prop}(d:lv μ):∀{bs:List Bool},K ((bs.filter id).map T.bl) μ->qq (.one 0) (yo [tE (eV 0)] (eV 0)) lv [aE] (bs.map T.bl) μ K Z:=by
 intro bs q;refine wj T.bl (λb=>if b=aB then aA (T.bl b) else aE) (λb _ e a=>⟨_,rfl,?_⟩) ?_ d
 ·cases b<;>exact a
 ·have:(bs.filterMap λb=>if b=aB then aA (T.bl b) else aE)=(bs.filter id).map T.bl:=by
   clear q;induction bs with
   |nil=>rfl
   |cons b r c=>cases b<;>simp[p_,c]
  rw[this];exact q
theorem ZK:∀bs:List Bool,bR (bs.map T.bl)=aA bs
 |[]=>rfl
 |b::r=>by show (bR (r.map T.bl)).map (b::·)=_;rw[ZK r];rfl
inductive W5:aG->Nat->Nat->Prop
 |row:W5 "row" 25 0
 |back:W5 "back" 26 1
 |holder:W5 "holder" 17 2
 |name:W5 "name" 13 3
 |time:W5 "time" 16 4
 |ended:W5 "ended" 19 5
 |many:W5 "many" 20 6
noncomputable abbrev Tx(p:Nat):List Bool:=(gM 11).map λi=>decide (i=p)
theorem V6{p:Nat}(hw:W5 w c p)(q:∀d,Ch [] μ d->K (.str w) d):vc [.exc c fs] μ K Z:=by
 have go:∀{j:Nat}{d:aK},Ch [] μ d->d[j]?=aA (.lst ((Tx p).map T.bl))->qe (ve.drop 3) [aA (.exc c fs),aA (.mut j),aE] d (En.fn K Z):=λ{j d} ch b=>by
  have key:∀{bs:List Bool},bs.length=11->(bs.filter id).length=1->bs[p]?=aA aB->(∀m,m<p->bs[m]?=aA aC)->p<11->cI c [11]=aB->vY [T.str "row",.str "back",.str "holder",.str "name",.str "time",.str "ended",.str "many",.str "lease",.str "empty",.str "wait",.str "clock"] (p:Int)=aA (.str w)->d[j]?=aA (.lst (bs.map T.bl))->qe (ve.drop 3) [aA (.exc c fs),aA (.mut j),aE] d (En.fn K Z):=λ{bs} g h k i l e f b=>by
   refine FU (by show (!cI c [11])=aC;rw[e];rfl) ?_;refine⟨_,b,?_⟩;refine⟨by rw[cJ,g];decide,?_⟩;refine Jf b ?_;refine uk (by rw[cJ,h];rfl) ?_;refine⟨⟨_,b⟩,rfl,_,b,(bs,p),ZK bs,⟨by omega,k,i⟩,?_⟩;exact⟨_,f,q _ ch⟩
  cases hw
  ·exact key rfl rfl rfl (λm a=>by omega) (by decide) rfl rfl b
  ·exact key rfl rfl rfl (λm a=>by match m,a with|0,_=>rfl) (by decide) rfl rfl b
  ·exact key rfl rfl rfl (λm a=>by match m,a with|0,_=>rfl|1,_=>rfl) (by decide) rfl rfl b
  ·exact key rfl rfl rfl (λm a=>by match m,a with|0,_=>rfl|1,_=>rfl|2,_=>rfl) (by decide) rfl rfl b
  ·exact key rfl rfl rfl (λm a=>by match m,a with|0,_=>rfl|1,_=>rfl|2,_=>rfl|3,_=>rfl) (by decide) rfl rfl b
  ·exact key rfl rfl rfl (λm a=>by match m,a with|0,_=>rfl|1,_=>rfl|2,_=>rfl|3,_=>rfl|4,_=>rfl) (by decide) rfl rfl b
  ·exact key rfl rfl rfl (λm a=>by match m,a with|0,_=>rfl|1,_=>rfl|2,_=>rfl|3,_=>rfl|4,_=>rfl|5,_=>rfl) (by decide) rfl rfl b
 unfold vc;refine⟨rfl,?_⟩;refine⟨_,za,by show 8<=aQ;decide,?_⟩;refine⟨_,za,by show 11<=aQ;decide,?_⟩;cases hw<;>exact go ((Ch.app.trans Ch.app).trans Ch.app) za
end
section
variable {μ μ1 μ2:aK}{K:T->aK->Prop}{Z:Xp}{c:Nat}{w:aG}{dc t1:Nat}{ks:List Kd}{a b t sh:T}{z:Int}
theorem Hw{P:aK->Prop}{p:Nat}(hw:W5 w c p)(h:∀{i:T->aK->Prop}{e:Xp},(∀d,P d->e c [] d)->zW [.mut μ.length,sh,a,b,t] (μ++[.obj 47 []]) i e)(q:∀d g,P d->Ch [] d g->K (.str w) g):wu [sh,a,b,t] μ K Z:=by
 unfold wu;refine⟨rfl,?_⟩;refine h λd f=>?_;refine EU (by cases hw<;>rfl) ?_;refine⟨by show 0<=1;decide,?_⟩;exact V6 hw λg ch=>q d g f ch
inductive c8(μ:aK):T->Prop
 |non:c8 μ .non
 |lst (xs:List T):c8 μ (.lst xs)
 |nil (i:Nat) (h:μ[i]?=aA (.dic [])):c8 μ (.mut i)
 |key (i:Nat) (k:Key) (v:T) (h:qc μ i [(k,v)]) (n:∀z,k=.inr z->z.length<=aQ/\zP z=aC):c8 μ (.mut i)
 |val (i:Nat) (z:aG) (h:qc μ i [(.inr z,.non)]) (h1:z.length<=aQ) (h2:zP z=aB):c8 μ (.mut i)
noncomputable def rZ (L:List Nat)(μ b:aK):Prop:=Ch L μ b/\∀j∈L,∃a,qc μ j a/\a.length<=1
theorem k8{n:Int}(q:K (.bl aC) μ):zT [.int n] μ K Z:=by
 unfold zT;refine⟨rfl,?_⟩;exact q
theorem G8{i:Nat}{k:Key}{v:T}(hd:qc μ i [(k,v)])(n:(∀z,k=.inr z->z.length<=aQ/\zP z=aC)\/∃z,k=.inr z/\v=.non/\z.length<=aQ/\zP z=aB)(q:∀ep,K (.bl aC) (μ.set i (.frd ep [(k,v)]))):qe (j4.drop 1) [aA (.mut i)] μ (En.fn K Z):=by
 refine⟨_,hd,λep=>?_⟩;refine⟨by show 1<=aQ;decide,?_⟩;have g:(μ.set i (.frd ep [(k,v)]))[i]?=aA (.frd ep [(k,v)]):=by
  rcases hd with h|⟨e,h⟩<;>exact aH h
 refine wj (λp:Key×T=>oq p.1) (ps:=[(k,v)]) (λ_=>aA (.bl aC)) (λp b f a=>?_) ?_ g
 ·rw[bT.mp b];refine⟨_,rfl,?_⟩;rcases n with n|⟨z,rfl,rfl,d,c⟩
  ·cases k with
   |inl m=>exact k8 a
   |inr z=>
    refine zQ (n z rfl).1 ?_;rw[(n z rfl).2];exact a
  ·refine zQ d ?_;rw[c];refine⟨_,_,.inr ⟨ep,g⟩,by unfold zL;rw[if_pos rfl],?_⟩;exact a
 ·exact⟨[aC],rfl,q ep⟩
theorem Pc(h:c8 μ t)(q:∀d L,rZ L μ d->c8 d t->K (.bl aC) d):qF [t] μ K Z:=by
 have b:K (.bl aC) μ:=q μ [] ⟨Ch.refl,by simp⟩ h;have a:∀{i:Nat}{k:Key}{v:T}{ep:Nat},qc μ i [(k,v)]->rZ [i] μ (μ.set i (.frd ep [(k,v)]))/\qc (μ.set i (.frd ep [(k,v)])) i [(k,v)]:=λ{i k v ep} hd=>⟨⟨Ch.set,λj g=>⟨[(k,v)],by rw[bT.mp g];exact hd,by simp⟩⟩,.inr ⟨ep,by rcases hd with h|⟨e,h⟩<;>exact aH h⟩⟩;unfold qF;refine⟨rfl,?_⟩;cases h with
 |non=>exact b
 |lst l=>exact b
 |nil i h=>
  refine⟨_,h,_,.inl h,?_⟩;exact b
 |key i k v h n=>
  have fin:=G8 (K:=K) (Z:=Z) h (.inl n) λep=>q _ _ (a h).1 (.key i k v (a h).2 n);rcases h with h|⟨ep,h⟩
  ·exact⟨_,h,_,.inl h,fin⟩
  ·exact⟨_,h,_,.inr ⟨ep,h⟩,fin⟩
 |val i z h f c=>
  have fin:=G8 (K:=K) (Z:=Z) h (.inr ⟨z,rfl,rfl,f,c⟩) λep=>q _ _ (a h).1 (.val i z (a h).2 f c);rcases h with h|⟨ep,h⟩
  ·exact⟨_,h,_,.inl h,fin⟩
  ·exact⟨_,h,_,.inr ⟨ep,h⟩,fin⟩
theorem R0(h:c8 μ t)(q:∀d L,rZ L μ d->c8 d t->Z 17 [] d):zW [.mut μ.length,sh,a,b,t] (μ++[.obj 47 []]) K Z:=by
 unfold zW;refine⟨rfl,?_⟩;have y:c8 (μ++[.obj 47 []]) t:=by
  have app:∀{i:Nat}{g:List (Key×T)},qc μ i g->qc (μ++[.obj 47 []]) i g:=λ{i g} hd=>hd.imp z5 λ⟨ep,h⟩=>⟨ep,z5 h⟩;cases h with
  |non=>exact .non
  |lst r=>exact .lst r
  |nil i h=>exact .nil i (z5 h)
  |key i k v h n=>exact .key i k v (app h) n
  |val i z h x w=>exact .val i z (app h) x w
 refine Pc y λd L wk o=>?_;refine⟨by show (1:Nat)<=aQ;decide,?_⟩;refine q d L ⟨(Ch.app.mono (by simp)).trans wk.1,λj l=>?_⟩ o;obtain⟨g,hd,u⟩:=wk.2 j l;refine⟨g,?_,u⟩;have lt:∀{o:MO},(∀c f,o≠.obj c f)->(μ++[MO.obj 47 []])[j]?=aA o->μ[j]?=aA o:=λ{o} s e=>by
  by_cases l:j<μ.length
  ·rw[dN l] at e;exact e
  ·rw[fA (by omega)] at e;cases p:j-μ.length with
   |zero=>rw[p] at e;exact absurd (bP e).symm (s _ _)
   |succ m=>rw[p] at e;cases e
 exact hd.imp (lt (λ_ _ e=>by cases e)) λ⟨ep,h⟩=>⟨ep,lt (λ_ _ e=>by cases e) h⟩
theorem XF(hd:qc μ i d):(μ.set i (.frd ep kvs'))[i]?=aA (.frd ep kvs'):=by
 rcases hd with h|⟨e,h⟩<;>exact aH h
theorem yY(hd:qc μ dc (ks.map zK))(g:ks≠[])(h:ks.length<=1000)(hk:∀k∈ks,dX μ k)(nd:(ks.map (·.ho)).Nodup)
  (q:∀ep,K (.bl aB) (μ.set dc (.frd ep (ks.map zK)))):qF [.mut dc] μ K Z:=by
 rcases id hd with b|⟨e0,b⟩
 ·exact kb b g h hk nd q
 unfold qF;refine⟨rfl,_,b,_,hd,?_⟩;refine qG (by
  rw[cJ];intro e;have e:ks.length=0:=by lia
  exact g (Ep.mp e)) ?_
 refine⟨_,hd,λep=>?_⟩;refine⟨by rw[cJ,cJ];unfold aQ;lia,?_⟩;rw[hO];have gd:(μ.set dc (.frd ep (ks.map zK)))[dc]?=aA (.frd ep (ks.map zK)):=aH b;refine wj (μ:=μ.set dc (.frd ep (ks.map zK))) (λk:Kd=>T.str k.ho) (λ_=>aA (.bl aB)) (λk a l d=>?_) ?_ gd
 ·have H:=hk k a;refine⟨_,rfl,?_⟩;refine zQ H.h1 ?_;rw[H.h2];refine⟨_,_,.inr ⟨ep,gd⟩,Zh a nd,?_⟩;have ck:(μ.set dc (.frd ep (ks.map zK)))[k.c]?=aA (gG k.st k.ts):=by
   rw[bW (b_ (j7 hd H.ck (λ_ e=>by cases e) (λ_ _ e=>by cases e)))];exact H.ck
  refine⟨_,ck,?_⟩;exact d
 ·rw[show ks.filterMap (λ_=>aA (T.bl aB))=ks.map (λ_=>T.bl aB) by rw[mL]];obtain⟨bs,j,i⟩:=jQ ks;refine⟨_,j,?_⟩;have f:=q ep;rw[←i] at f;exact f
inductive fG:T->Prop
 |neg:fG (.int (-1))
 |bl:fG (.bl aB)
 |non:fG .non
 |str:fG (.str "1")
theorem yG(h:fG a)(q:K (.bl aC) μ):qd [a] μ K Z:=by
 unfold qd;refine⟨rfl,?_⟩;cases h with
 |neg=>
  refine zd ?_;exact q
 |bl=>
  show zy [_] μ _ _;exact⟨rfl,q⟩
 |non=>
  show zy [_] μ _ _;exact⟨rfl,q⟩
 |str=>
  refine wW ?_;exact q
noncomputable def oa(a b:T):Prop:=fG a\/(∃i:Int,0<=i/\a=.int i)/\fG b
theorem Yz{i:Nat}{kp:T}(h:oa a b)(q:Z 16 [] μ):qi [.mut i,sh,a,b,kp,.non] μ K Z:=by
 unfold qi;refine⟨rfl,?_⟩;rcases h with h|⟨⟨i,c,rfl⟩,h⟩
 ·refine yG h ?_;exact⟨by show (1:Nat)<=aQ;decide,q⟩
 ·refine kE c ?_;refine yG h ?_;exact⟨by show (1:Nat)<=aQ;decide,q⟩
theorem YX{w cm g d:Nat}{k:Kd}{r:List Kd}(hw:μ[w]?=aA (.obj 47 [(9,sh),(14,a),(15,b),(23,.mut cm),(24,.mut g),(25,.non),(26,.mut d)]))(hd:qc μ dc ((k::r).map zK))(hk:dX μ k)(nd:((k::r).map (·.ho)).Nodup)(h:μ[t1]?=aA (.tab 1))(u:oa a b)
  (q:∀s ep,Ch [dc] μ s->s[dc]?=aA (.frd ep ((k::r).map zK))->Z 16 [] s):qe (zO.drop 8) [aA (.mut w),aA sh,aA a,aA b,aA (.mut dc),aE,aE] μ (En.fn K Z):=by
 refine⟨_,hd,λep=>?_⟩;have gd:=XF (ep:=ep) (kvs':=(k::r).map zK) hd;have out:∀{j:Nat}{o:MO},μ[j]?=aA o->(∀l,o≠.dic l)->(∀e l,o≠.frd e l)->(μ.set dc (.frd ep ((k::r).map zK)))[j]?=aA o:=λ{j o} e p n=>by
  rw[bW (b_ (j7 hd e p n))];exact e
 have ch0:Ch [dc] μ (μ.set dc (.frd ep ((k::r).map zK))):=Ch.set;have hw:=out hw (λ_ e=>by cases e) (λ_ _ e=>by cases e);have h:=out h (λ_ e=>by cases e) (λ_ _ e=>by cases e);generalize μ.set dc (.frd ep ((k::r).map zK))=s at gd ch0 hw h ⊢;refine⟨_,rfl,?_⟩;refine⟨_,_,.inr ⟨ep,gd⟩,Zh (k:=k) (by simp) nd,?_⟩;refine xv λm f t v=>?_;refine⟨rfl,?_⟩;have c:=f.get hw (by simp);have i:=f.get h (by simp);refine⟨_,c,?_⟩;unfold zR;refine⟨rfl,_,_,_,c,rfl,_,_,_,c,rfl,_,_,_,c,rfl,⟨_,i⟩,[.mut s.length],rfl,_,_,_,v,rfl,?_⟩;refine Yz u ?_;exact q _ ep ((ch0.trans (f.mono (by simp))).trans (Ch.app.mono (by simp))) (z5 (f.get gd (by simp)))
theorem Z9(hd:qc μ dc g)(ch:Ch L μ d)(n:dc∉L):qc d dc g:=hd.imp (λh=>ch.get h n) λ⟨ep,h⟩=>⟨ep,ch.get h n⟩
theorem JZ{w:Nat}{k:Kd}{r:List Kd}(hw:μ[w]?=aA (.obj 47 [(9,sh),(14,a),(15,b)]))(hd:qc μ dc ((k::r).map zK))(hk:dX μ k)(nd:((k::r).map (·.ho)).Nodup)(o:μ[t1]?=aA (.tab 1))(v:oa a b)
  (q:∀s ep,Ch [dc,w] μ s->s[dc]?=aA (.frd ep ((k::r).map zK))->Z 16 [] s):qe (zO.drop 4) [aA (.mut w),aA sh,aA a,aA b,aA (.mut dc),aE,aE] μ (En.fn K Z):=by
 have l:dc∉[w]:=by simpa using b_ (j7 hd hw (λ_ e=>by cases e) (λ_ _ e=>by cases e))
 have p:t1∉[w]:=by simpa using zX o hw (λe=>by cases e)
 have t:k.c∉[w]:=by simpa using zX hk.ck hw (λe=>by cases e)
 refine jz ?_;refine⟨rfl,?_⟩;have f:(μ++[MO.obj 43 [(9,sh),(10,.mut (μ.length+1))],.lst []])[w]?=aA (.obj 47 [(9,sh),(14,a),(15,b)]):=by rw[dN (bI.mp hw).1];exact hw
 have y:Ch [w] μ (μ++[MO.obj 43 [(9,sh),(10,.mut (μ.length+1))],.lst []]):=⟨by simp,λj u _=>dN u⟩;refine⟨_,_,f,by show (3:Nat)<900;decide,_,_,z5 (aH f),by show (4:Nat)<900;decide,_,_,aH (z5 (aH f)),by show (5:Nat)<900;decide,_,_,z5 (aH (aH (z5 (aH f)))),by show (6:Nat)<900;decide,?_⟩;have step:∀{cm g d:Nat}{s:aK},Ch [w] μ s->s[w]?=aA (.obj 47 [(9,sh),(14,a),(15,b),(23,.mut cm),(24,.mut g),(25,.non),(26,.mut d)])->qe (zO.drop 8) [aA (.mut w),aA sh,aA a,aA b,aA (.mut dc),aE,aE] s (En.fn K Z):=λ{cm g d s} ch h=>by
  refine YX h (Z9 hd ch l) ⟨hk.h1,hk.h2,ch.get hk.ck t⟩ nd (ch.get o p) v λi m n x=>?_;exact q i m ((ch.mono (by simp)).trans (n.mono (by simp))) x
 exact step ((((((y.trans Ch.set).trans (Ch.app.mono (by simp))).trans Ch.set).trans Ch.set).trans (Ch.app.mono (by simp))).trans Ch.set) (aH (z5 (aH (aH (z5 (aH f))))))
theorem Ys{k:Kd}{r:List Kd}(hd:qc μ dc ((k::r).map zK))(t:(k::r).length<=1000)(hk:∀s∈k::r,dX μ s)(nd:((k::r).map (·.ho)).Nodup)(o:μ[t1]?=aA (.tab 1))(u:oa a b)
  (q:∀d ep,Ch [dc] μ d->d[dc]?=aA (.frd ep ((k::r).map zK))->Z 16 [] d):zW [.mut μ.length,sh,a,b,.mut dc] (μ++[.obj 47 []]) K Z:=by
 have app:qc (μ++[.obj 47 []]) dc ((k::r).map zK):=hd.imp z5 λ⟨ep,h⟩=>⟨ep,z5 h⟩;have dl:dc<μ.length:=by
  rcases hd with h|⟨e,h⟩<;>exact (bI.mp h).1
 unfold zW;refine⟨rfl,?_⟩;refine yY app (by simp) t (λk g=>⟨(hk k g).h1,(hk k g).h2,z5 (hk k g).ck⟩) nd λep=>?_;have v:=XF (ep:=ep) (kvs':=(k::r).map zK) app;have f:((μ++[MO.obj 47 []]).set dc (.frd ep ((k::r).map zK)))[μ.length]?=aA (.obj 47 []):=by rw[bW (by lia)];exact za
 have ch0:Ch [dc] μ ((μ++[MO.obj 47 []]).set dc (.frd ep ((k::r).map zK))):=(Ch.app.mono (by simp)).trans Ch.set;refine⟨_,_,f,by show (0:Nat)<900;decide,_,_,aH f,by show (1:Nat)<900;decide,_,_,aH (aH f),by show (2:Nat)<900;decide,?_⟩;have step:∀{d:aK},Ch [μ.length] ((μ++[MO.obj 47 []]).set dc (.frd ep ((k::r).map zK))) d->d[μ.length]?=aA (.obj 47 [(9,sh),(14,a),(15,b)])->qe (zO.drop 4) [aA (.mut μ.length),aA sh,aA a,aA b,aA (.mut dc),aE,aE] d (En.fn K Z):=λ{d} ch h=>by
  have c:Ch [dc] μ d:=Ch.geS ch0 ch (by simp);refine JZ h (.inr ⟨ep,ch.get v (by simp;lia)⟩) ⟨(hk k (by simp)).h1,(hk k (by simp)).h2,c.get (hk k (by simp)).ck ?_⟩ nd (c.get o ?_) u λl n i w=>?_
  ·simpa using j7 hd (hk k (by simp)).ck (λ_ e=>by cases e) (λ_ _ e=>by cases e)
  ·simpa using j7 hd o (λ_ e=>by cases e) (λ_ _ e=>by cases e)
  ·refine q l n ⟨cU c.len i.len,λj p m=>?_⟩ w;rw[i.ot j (cY p c.len) (by simp at m ⊢;exact⟨m,by lia⟩)];exact c.ot j p m
 exact step ((Ch.set.trans Ch.set).trans Ch.set) (aH (aH (aH f)))
end
section
variable {μ:aK}{K:T->aK->Prop}{Z:Xp}{c g i0:Nat}{x y z:Int}{ps:List Gp}{m n:Int}
theorem WL{bs:List Gp}(h:∀p∈bs,μ[p.1]?=aA p.2.O)(Q:bs.length<64)(L:μ[i0]?=aA (.tab 0))(q:∀b,m<=b->(∀p∈bs,mt p.2 b (b+n)=aC)->(∀d,m<=d->d<b->∃p∈bs,mt p.2 d (d+n)=aB)->K (.int b) μ):qI [.lst (bs.map Gp.t),.int m,.int n] μ K Z:=by
 unfold qI;refine⟨rfl,?_⟩;refine⟨⟨i0,L⟩,by rw[cJ];exact Q,bs.map (·.2.f),WQ h,λU s M=>?_⟩;have ez:(bs.map (·.2.f)).zip (bs.map Gp.t)=bs.map λp=>(p.2.f,Gp.t p):=by rw[CA,]
 rw[ez] at s;obtain⟨k,E,rfl⟩:=u_ s rfl;rw[hO,l7] at *;have y:∀p∈k,μ[p.1]?=aA p.2.O:=λp s=>h p (E.mem_iff.mp s);refine vM (λi D r=>∃b o,D=[aA (.lst (bs.map Gp.t)),aA (.int m),aA (.int n),aA (.int b),o]/\r=μ/\m<=b/\(∀p∈k.take i,mt p.2 b (b+n)=aC)/\∀d,m<=d->d<b->∃p∈bs,mt p.2 d (d+n)=aB) ⟨m,aE,rfl,rfl,nA _,by simp,λd v C=>by lia⟩ ?_ ?_
 ·rintro i x D r w ⟨b,o,rfl,rfl,H,A,g⟩ N I;rw[eE] at w;cases c:k[i]? with
  |none=>rw[c] at w;cases w
  |some p=>
   rw[c] at w;cases w;have F:p∈k:=b9 c;have P:i<k.length:=(bI.mp c).1;have et:k.take (i+1)=k.take i++[p]:=by rw[l8,c];rfl
   have J:∀l∈k.take i,l.2.f<=p.2.f:=λl a=>by
    obtain⟨j,B⟩:=i4.mp a;rw[D8] at B;split at B
    ·rename_i G;obtain⟨v,T⟩:=bI.mp B;obtain⟨C,S⟩:=bI.mp c;have:=(nW.mp M) j i v C G;rw[T,S] at this;exact this
    ·cases B
   refine⟨_,rfl,?_⟩;refine ZD (y p F) ?_;refine vX (λe=>?_) (λe=>?_)
   ·refine⟨_,_,_,y p F,rfl,?_⟩;have e:=yt.mp e;refine I _ _ ⟨p.2.u,_,rfl,rfl,by lia,λl a=>?_,λd v C=>?_⟩
    ·rw[et] at a;rcases cH.mp a with a|a
     ·have v:=A l a;have C:=J l a;refine Y0 λz=>?_;have:mt l.2 b (b+n)=aB:=yt.mpr (by lia);rw[v] at this;cases this
     ·rw[bT.mp a];exact Y0 (by lia)
    ·by_cases R:d<b
     ·exact g d v R
     ·exact⟨p,E.mem_iff.mp F,yt.mpr (by lia)⟩
   ·refine I _ _ ⟨b,_,rfl,rfl,H,λl a=>?_,g⟩;rw[et] at a;rcases cH.mp a with a|a
    ·exact A l a
    ·rw[bT.mp a];exact e
 ·rintro D r ⟨b,o,rfl,rfl,H,A,g⟩;refine q b H (λp s=>A p ?_) g;rw[cJ,n7 (bE _)];exact E.mem_iff.mpr s
structure mv(ps:List Gp)(h m n b:Int):Prop where
 ge:m<=b
 fr:∀p∈ps,p.2.h=h->mt p.2 b (b+n)=aC
 mn:∀b',m<=b'->b'<b->∃p∈ps,p.2.h=h/\mt p.2 b' (b'+n)=aB
theorem mv.one{h b d:Int}(a:mv ps h m n b)(c:mv ps h m n d):b=d:=by
 rcases Int.lt_trichotomy b d with e|e|e
 ·obtain⟨p,f,h1,h2⟩:=c.mn b a.ge e;rw[a.fr p f h1] at h2;cases h2
 ·exact e
 ·obtain⟨p,f,h1,h2⟩:=a.mn d c.ge e;rw[c.fr p f h1] at h2;cases h2
theorem JM{h:Int}(B:Bk μ c g (bG x y z) ps)(f:μ[i0]?=aA (.tab 0))(j:ps.length<64)
  (q:∀b,mv ps h m n b->K (.tup [.int h,.int b,.int (b+n)]) μ):zJ [.mut c,.int h,.int m,.int n] μ K Z:=by
 unfold zJ;refine⟨rfl,_,B.com,?_⟩;refine xK B (by lia) ?_;refine WL (i0:=i0) (λp a=>B.at_ p (fS.mp a).1) (pR (Ex ..) j) f λb k i d=>?_;refine q b ⟨k,λp a e=>i p (fS.mpr ⟨a,by simpa using e⟩),λs r o=>?_⟩;obtain⟨p,a,l⟩:=d s r o;exact⟨p,(fS.mp a).1,by simpa using (fS.mp a).2,l⟩
theorem LD{h b:Int}(B:Bk μ c g (bG x y z) ps)(o:μ[i0]?=aA (.tab 0))(q:ps.length<64)(h0:ho.length<=aQ)(h1:zP ho=aB)(hh:0<=h)(l:h<y)(t:1<=n)(w:0<=m)(F:mv ps h m n b)(bx:b+n<=x)
  (k:∀j a,μ.length<=a->Ch [g] μ j->Bk j c g (bG x y z) (ps++[(a,⟨ho,h,b,b+n,b+n,aC⟩)])->K (.tup [.int h,.int b,.int (b+n)]) j):qo [.mut c,.str ho,.int h,.int m,.int n] μ K Z:=by
 unfold qo;refine⟨rfl,_,B.com,?_⟩;refine y3 B h0 h1 (.inr ⟨h,rfl,hh,l⟩) t ?_;refine⟨_,B.com,?_⟩;have em:(if m<0 then 0 else m)=m:=if_neg (by lia);show zJ [.mut c,.int h,.int (if m<0 then 0 else m),.int n] μ _ _;rw[em];refine JM B o q λu v=>?_;obtain rfl:=v.one F;have r:0<=u:=by have:=F.ge;lia
 refine⟨_,rfl,_,_,_,B.com,rfl,?_⟩;refine qG (by lia) ?_;refine⟨_,rfl,_,_,_,B.com,rfl,?_⟩;refine qG (by lia) ?_;refine⟨_,_,_,B.com,rfl,⟨_,B.lst⟩,?_⟩;have gl:g<μ.length:=(bI.mp B.lst).1;unfold ja;refine⟨rfl,_,_,za,by show (0:Nat)<900;decide,_,_,aH za,by show (1:Nat)<900;decide,_,rfl,_,_,aH (aH za),by show (2:Nat)<900;decide,_,_,aH (aH (aH za)),by show (3:Nat)<900;decide,rfl,?_⟩;have es:∀(μ:aK) (a b:MO),(μ++[a]).set μ.length b=μ++[b]:=λμ a b=>by rw[nZ _ _ (bE _)];simp
 simp only[es];refine⟨_,z5 B.lst,by rw[cJ];unfold aQ;lia,?_⟩;refine k _ μ.length (bE _) ((Ch.app.mono (by simp)).trans Ch.set) ?_;have f:∀p∈ps,p.1≠g/\p.1<μ.length:=λp d=>by
  refine⟨λe=>?_,(bI.mp (B.at_ p d)).1⟩;have:=B.at_ p d;rw[e,B.lst] at this;cases this
 have cg:c≠g:=λe=>by
  have:=B.com;rw[e,B.lst] at this;cases this
 refine⟨?_,?_,λp d=>?_,?_⟩
 ·rw[bW cg.symm];exact z5 B.com
 ·rw[iJ];exact aH (z5 B.lst)
 ·rcases cH.mp d with d|d
  ·rw[bW (f p d).1.symm];exact z5 (B.at_ p d)
  ·rw[bT.mp d,bW (by show g≠μ.length;lia)];exact za
 ·rw[iJ,lu];refine⟨B.nd,by simp,λa s b i e=>?_⟩;obtain⟨p,d,rfl⟩:=eR.mp s;have i:b=μ.length:=by simpa using i
  have:=(f p d).2;lia
end
section
variable {μ μ0 μ1 μ2:aK}{K:T->aK->Prop}{Z:Xp}{x y z:Int}{ah sd:Int}{w cm gr g d i0 dc t1:Nat}{now:T}{us:List Hr}{rs:List T}{ps:List Gp}{t n k h b:Int}{ho:aG}{hs:T}{i:Nat}{u:Hr}{wd:aG}{ks:List Kd}
theorem Nj(hd:qc μ dc (ks.map zK))(A:ks≠[])(r:ks.length<=1000)(hk:∀k∈ks,dX μ k)(nd:(ks.map (·.ho)).Nodup)(p:μ[t1]?=aA (.tab 1))(B:0<=ah)(hs:0<=sd)
  (q:∀j ep us cm gr g d,bX j μ.length cm gr g d x y z ah sd .non us [] []->us.map Hr.cd=ks.map Kd.cd->(∀u∈us,u.l=aE/\(u.n=aE/\u.m=aE)/\μ.length<=u.h/\μ.length<=u.s)->μ.length<=gr->μ.length<=g->Ch [dc] μ j->j[dc]?=aA (.frd ep (ks.map zK))->K .non j) :
  zW [.mut μ.length,bG x y z,.int ah,.int sd,.mut dc] (μ++[.obj 47 []]) K Z:=by
 rcases id hd with o|⟨e0,o⟩
 ·exact ND o A r hk nd p B hs q
 have dl:=(bI.mp o).1;unfold zW;refine⟨rfl,?_⟩;refine yY (.inr ⟨e0,z5 o⟩) A r (λk a=>⟨(hk k a).h1,(hk k a).h2,z5 (hk k a).ck⟩) nd λep=>?_;have b:((μ++[MO.obj 47 []]).set dc (.frd ep (ks.map zK)))[μ.length]?=aA (.obj 47 []):=by rw[bW (by lia)];exact za
 have t:((μ++[MO.obj 47 []]).set dc (.frd ep (ks.map zK)))[dc]?=aA (.frd ep (ks.map zK)):=aH (z5 o);have ch0:Ch [dc] μ ((μ++[MO.obj 47 []]).set dc (.frd ep (ks.map zK))):=(Ch.app.mono (by simp)).trans Ch.set;refine⟨_,_,b,by show (0:Nat)<900;decide,_,_,aH b,by show (1:Nat)<900;decide,_,_,aH (aH b),by show (2:Nat)<900;decide,?_⟩;have v:∀f:aK,Ch [dc] μ f->∀k∈ks,dX f k:=λf c k a=>⟨(hk k a).h1,(hk k a).h2,c.get (hk k a).ck (by simpa using zX (hk k a).ck o (λe=>by cases e))⟩;have w:=Ch.geS (Ch.geS (Ch.geS ch0 (Ch.set (i:=μ.length) (x:=MO.obj 47 [(9,bG x y z)])) (by simp)) (Ch.set (i:=μ.length) (x:=MO.obj 47 [(9,bG x y z),(14,.int ah)])) (by simp)) (Ch.set (i:=μ.length) (x:=MO.obj 47 [(9,bG x y z),(14,.int ah),(15,.int sd)])) (by simp);refine GH (μ0:=μ) (t1:=t1) (ep:=ep) (aH (aH (aH b))) (bE _) ?_ r (v _ w) nd (w.get p (by simpa using zX p o (λe=>by cases e))) B hs dl w q;rw[bW (by lia),bW (by lia),bW (by lia)];exact t
theorem Uq (hw:wd="lease") (W:bX μ w cm gr g d x y z ah sd now us rs ps) (p:us[i]?=aA u) (nd:(us.map (·.ho)).Nodup) (H:dY x y z u) (E:μ[i0]?=aA (.tab 0)) (G:ps.length<64) (hh:0<=h) (A:h<y) (I:1<=n) (D:0<=u.rd t) (F:mv ps h (u.rd t) n b) (bx:b+n<=x)
  (q:∀j v a,bX j w cm gr g d x y z ah sd now (us.set i v) rs (ps++[(a,⟨u.ho,h,b,b+n,b+n,aC⟩)])->dY x y z v->oO v u->v.c=u.c->v.l=aA (h,b,b+n)->v.m=u.m->v.n=u.n->Ch [gr,u.h,u.s] μ j->K (.lst []) j) :
  ql [.mut w,BR wd t u.ho (.int h) n] μ K Z:=by
 have e:=b9 p;unfold ql;refine⟨rfl,_,_,_,W.wo,rfl,_,rfl,_,_,.inl W.dc,kn p nd,_,_,_,W.se u e,rfl,_,W.cl u e,_,rfl,?_⟩;refine qN (W.cl u e) ?_;refine⟨_,rfl,?_⟩;refine qG (by rw[hw];decide) ?_;refine⟨_,rfl,?_⟩;refine qG (by rw[hw];decide) ?_;refine⟨_,rfl,?_⟩;refine qG (by rw[hw];decide) ?_;refine⟨_,rfl,?_⟩;refine wQ hw ?_;refine⟨_,_,_,W.se u e,rfl,_,W.hs u e,_,_,_,W.wo,rfl,_,W.bk.com,_,rfl,_,rfl,_,rfl,?_⟩;refine LD W.bk E G H.h1 H.h2 hh A I D F bx λC a al ch B=>?_;have r:=W.book ch B;have L:0<=b:=by have:=F.ge;lia
 have ok:gY x y (h,b,b+n):=⟨hh,A,L,by show b<b+n;lia,bx⟩;refine Np (a:=(h,b,b+n)) (r.hs u e) (r.se u e) ok λk o f M gh gs=>?_;exact q k {u with l:=aA (h,b,b+n),kt:=o} a (r.upd p f rfl rfl rfl rfl rfl rfl gh gs) ⟨H.h1,H.h2,λN J=>by cases J;exact ok,H.nm⟩ ⟨rfl,rfl,rfl,rfl,rfl⟩ rfl rfl rfl rfl ((ch.mono (by simp)).trans (f.mono (by simp)))
theorem Rb (hw:wd="lease") (W:bX μ w cm gr g d x y z ah sd now us rs ps) (f:us[i]?=aA u) (nd:(us.map (·.ho)).Nodup) (H:dY x y z u) (C:Xe now t) (B:μ[i0]?=aA (.tab 0)) (D:ps.length<64) (hh:0<=h) (A:h<y) (E:1<=n) (r:0<=u.rd t) (F:mv ps h (u.rd t) n b) (bx:b+n<=x) (J:rs.length<=100000)
  (q:∀j v a,bX j w cm gr g d x y z ah sd (.int t) (us.set i v) rs (ps++[(a,⟨u.ho,h,b,b+n,b+n,aC⟩)])->dY x y z v->oO v u->v.c=u.c->v.l=aA (h,b,b+n)->v.m=u.m->v.n=u.n->Ch [gr,u.h,u.s,w,g] μ j->K (.lst []) j) :
  zr [.mut w,BR wd t u.ho (.int h) n] μ K Z:=by
 unfold zr;refine⟨rfl,_,W.wo,?_⟩;refine j9 W f nd C H.h1 H.h2 rfl (λK Z q=>by subst hw;exact UC q) ?_;refine⟨_,W.wo,?_⟩;refine Uq hw W f nd H B D hh A E r F bx λj v a o I p e0 G em en ch=>?_;refine⟨_,rfl,_,_,o.wo,by show (7:Nat)<900;decide,?_⟩;have e:=o.now' (nw:=.int t);refine⟨_,_,_,e.wo,rfl,⟨_,e.gv⟩,by decide,?_⟩;refine QH ?_;refine⟨_,_,e.gv,.inl rfl,by show rs.length+0<=aQ;unfold aQ;lia,?_⟩;have k:=e.gave (rs':=rs++[]);rw[gP] at k;exact q _ v a (by rw[gP];exact k) I p e0 G em en (((ch.mono (by simp)).trans (Ch.set.mono (by simp))).trans (Ch.set.mono (by simp)))
theorem Ux (hw:wd="ask") (N:Wn x y z ah) (W:bX μ w cm gr g d x y z ah sd now us rs ps) (B:us[i]?=aA u) (nd:(us.map (·.ho)).Nodup) (H:dY x y z u) (R:Xe now t) (J:-1000000000000000<=u.rd t) (k1:1<=k) (k2:k<=z) (M:k<=1000) (hr:rs.length<=100000) {a:Ls}(ea:u.l=aA a) (U:qb y z a u.n u.m (u.rd t)+k<=a.2.2*z) (e2:ia z (u.rd t) ah (qb y z a u.n u.m (u.rd t)+k)<=0)
  (q:∀r v j,bX r w cm gr g d x y z ah sd (.int t) (us.set i v) (rs++(lH y z a.1 (qb y z a u.n u.m (u.rd t)) k).map (KY t u.ho)) ps->dY x y z v->oO v u->v.c=u.c->v.l=aA a->v.m=aA (oG x y z sd a u.n u.m (u.rd t) k)->v.n=aA (lG y z a u.n u.m (u.rd t) k)->Ch [u.h,u.s,w,g] μ r->r[j]?=aA (.lst ((lH y z a.1 (qb y z a u.n u.m (u.rd t)) k).map T.int))->K (.mut j) r) :
  zr [.mut w,FM wd t u.ho k] μ K Z:=by
 have f:=b9 B;unfold zr;refine⟨rfl,_,W.wo,?_⟩;refine j9 W B nd R H.h1 H.h2 rfl (λK Z q=>by subst hw;exact RA q) ?_;refine⟨_,W.wo,?_⟩;unfold ql;refine⟨rfl,_,_,_,W.wo,rfl,_,rfl,_,_,.inl W.dc,kn B nd,_,_,_,W.se u f,rfl,_,W.cl u f,_,rfl,?_⟩;refine qN (W.cl u f) ?_;refine⟨_,rfl,?_⟩;refine wQ hw ?_;refine⟨_,_,_,W.se u f,rfl,_,W.hs u f,_,rfl,?_⟩;refine LM N.s N.xb J H.ok N.zb M (W.hs u f) (W.se u f) H.nm k1 k2 N.a0 (λh=>absurd (h a ea) (by lia)) (λI b _ h _=>by rw[ea] at b;cases b;lia) λI A _ _ r D j V ch hj hb X gh gb gs gj=>?_;rw[ea] at A;cases A;have F:=W.upd (v:={u with l:=aA a,m:=aA (oG x y z sd a u.n u.m (u.rd t) k),n:=aA (lG y z a u.n u.m (u.rd t) k),bt:=.mut V,kt:=D}) B ch rfl rfl rfl rfl rfl rfl gh gs;generalize S:lH y z a.1 (qb y z a u.n u.m (u.rd t)) k=L at gj q;have G:L.length=k.toNat:=by rw[←S];unfold lH;simp
 refine⟨_,rfl,_,_,F.wo,by show (7:Nat)<900;decide,?_⟩;have C:=F.now' (nw:=.int t);have P:j≠w:=zX gj F.wo (λe=>by cases e);have Q:j≠g:=by have:=(bI.mp W.gv).1;lia
 have o:(r.set w (yj x y z ah sd cm g d (.int t)))[j]?=aA (.lst (L.map T.int)):=by rw[bW (b_ P)];exact gj
 refine⟨_,_,_,C.wo,rfl,⟨_,C.gv⟩,_,o,by rw[cJ,G];unfold aQ;lia,?_⟩;refine wj T.int (λnm=>aA (KY t u.ho nm)) (λp hp Y E=>?_) ?_ o
 ·refine⟨_,rfl,_,rfl,_,rfl,?_⟩;exact E
 ·rw[show L.filterMap (λnm=>aA (KY t u.ho nm))=L.map (KY t u.ho) by rw[mL]];refine⟨_,_,C.gv,.inl rfl,by rw[cJ,G];unfold aQ;lia,?_⟩;refine q _ _ j C.gave ⟨H.h1,H.h2,λI b=>by cases b;exact H.ok a ea,λO b=>?_⟩ ⟨rfl,rfl,rfl,rfl,rfl⟩ rfl rfl rfl rfl (((ch.mono (by simp)).trans (Ch.set.mono (by simp))).trans (Ch.set.mono (by simp))) (by rw[bW (b_ Q)];exact o);have b:aA (lG y z a u.n u.m (u.rd t) k)=aA O:=b;cases b;exact MH N.s (H.ok a ea) k1 U
end
section
variable {μ:aK}{K:T->aK->Prop}{Z:Xp}{x y z:Int}{ah sd:Int}{w cm gr g d i0:Nat}{now:T}{us:List Hr}{rs:List T}{ps:List Gp}{t n h b s:Int}{ho:aG}{hs hv:T}{i:Nat}{u:Hr}{wd:aG}{row:T}{r:List T}
theorem Yp(W:bX μ w cm gr g d x y z ah sd now us rs ps)(h:∀(K:T->aK->Prop) (Z:Xp),K (.bl aC) μ->zp [row] μ K Z)(q:Z 25 [] μ):zr [.mut w,row] μ K Z:=by
 unfold zr;refine⟨rfl,_,W.wo,?_⟩;unfold zV;refine⟨rfl,?_⟩;refine h _ _ ?_;exact⟨by show (1:Nat)<=aQ;decide,q⟩
noncomputable def rE (μ:aK)(t:Int)(hv:T)(row:T):Prop:=(∃wd r,row=.tup (.str wd::.int t::hv::r))/\∀(K:T->aK->Prop) (Z:Xp),K (.bl aB) μ->zp [row] μ K Z
theorem S2(W:bX μ w cm gr g d x y z ah sd (.int s) us rs ps)(h:rE μ t hv row)(hs:t<s)(a:s.natAbs.log2<1920)(q:Z 26 [(25,.int s)] μ):zr [.mut w,row] μ K Z:=by
 obtain⟨⟨b,r,rfl⟩,h⟩:=h;unfold zr;refine⟨rfl,_,W.wo,?_⟩;unfold zV;refine⟨rfl,?_⟩;refine h _ _ ?_;refine⟨_,_,_,W.wo,rfl,?_⟩;refine⟨_,ws,_,_,_,W.wo,rfl,?_⟩;refine wQ hs ?_;exact⟨_,_,_,W.wo,rfl,a,q⟩
theorem QU:∀{us:List Hr}{z:aG},z∉us.map (·.ho)->zL (.inr z) (us.map ju)=aE
 |[],_,_=>rfl
 |u::r,z,h=>by
  show zL _ (ju u::r.map ju)=aE;unfold zL;rw[if_neg (λe=>h (by rw[dU,cA];exact .inl (lU e).symm))];exact QU λm=>h (by rw[dU,cA];exact .inr m)
noncomputable def LF (μ:aK)(us:List Hr)(hv:T):Prop:=(∀(K:T->aK->Prop) (Z:Xp),K (.bl aC) μ->zT [hv] μ K Z)\/∃z,hv=.str z/\z.length<=aQ/\zP z=aB/\z∉us.map (·.ho)
theorem Kw(W:bX μ w cm gr g d x y z ah sd (.int s) us rs ps)(h:rE μ t hv row)(hs:s<=t)(hh:LF μ us hv)(q:Z 17 [] μ):zr [.mut w,row] μ K Z:=by
 obtain⟨⟨e,r,rfl⟩,h⟩:=h;unfold zr;refine⟨rfl,_,W.wo,?_⟩;unfold zV;refine⟨rfl,?_⟩;refine h _ _ ?_;refine⟨_,_,_,W.wo,rfl,?_⟩;refine⟨_,ws,_,_,_,W.wo,rfl,?_⟩;refine qG (by lia) ?_;refine⟨_,YM,?_⟩;rcases hh with hh|⟨z,rfl,c,b,a⟩
 ·refine hh _ _ ?_;exact⟨by show (1:Nat)<=aQ;decide,q⟩
 ·refine zQ c ?_;rw[b];refine⟨_,YM,_,_,_,W.wo,rfl,_,W.dc,?_⟩;rw[QU a];exact⟨by show (1:Nat)<=aQ;decide,q⟩
inductive dF:T->Prop
 |zero:dF (.int 0)
 |neg:dF (.int (-1))
 |bl:dF (.bl aB)
 |non:dF .non
 |str:dF (.str "1")
theorem vB{a:T}(h:dF a)(q:K (.bl aC) μ):qQ [a] μ K Z:=by
 cases h with
 |zero=>exact qk q
 |neg=>exact qk q
 |bl=>
  unfold qQ;refine⟨rfl,?_⟩;show zy [_] μ _ _;exact⟨rfl,q⟩
 |non=>
  unfold qQ;refine⟨rfl,?_⟩;show zy [_] μ _ _;exact⟨rfl,q⟩
 |str=>
  unfold qQ;refine⟨rfl,?_⟩;refine wW ?_;exact q
noncomputable def ow(z:Int)(a:T):Prop:=dF a\/∃v:Int,a=.int v/\1<=v/\z<v
theorem Je{kp bt a:T}{l:Option Ls}{m e:Option Int}{d:Int}(hh:μ[i]?=aA (eM (bG x y z) ah sd kp l m e bt aC))(b:ow z a)(q:Z 20 [] μ):zx [.mut i,.int d,a] μ K Z:=by
 unfold zx;refine⟨rfl,_,hh,?_⟩;refine wL hh ?_;refine⟨_,hh,?_⟩;unfold z_;refine⟨rfl,?_⟩;rcases b with b|⟨v,rfl,c,f⟩
 ·refine vB b ?_;exact⟨by show (1:Nat)<=aQ;decide,q⟩
 ·refine qk ?_;rw[decide_eq_true c];refine⟨_,_,_,hh,rfl,?_⟩;refine wQ (by lia) ?_;exact⟨by show (1:Nat)<=aQ;decide,q⟩
noncomputable abbrev rB(wd:aG)(t:Int)(ho:aG)(a:T):T:=.tup [.str wd,.int t,.str ho,a]
theorem Yf {a:T}(hw:((wd="ask"\/wd="store")/\ow z a)\/(wd="take"/\dF a)) (W:bX μ w cm gr g d x y z ah sd now us rs ps) (e:us[i]?=aA u) (nd:(us.map (·.ho)).Nodup) (q:Z 20 [] μ):ql [.mut w,rB wd t u.ho a] μ K Z:=by
 have b:=b9 e;unfold ql;refine⟨rfl,_,_,_,W.wo,rfl,_,rfl,_,_,.inl W.dc,kn e nd,_,_,_,W.se u b,rfl,_,W.cl u b,_,rfl,?_⟩;refine qN (W.cl u b) ?_;refine⟨_,rfl,?_⟩;rcases hw with⟨hw|hw,c⟩|⟨hw,c⟩
 ·refine wQ hw ?_;refine⟨_,_,_,W.se u b,rfl,_,W.hs u b,_,rfl,?_⟩;unfold qJ;refine⟨rfl,_,W.hs u b,?_⟩;exact Je (W.hs u b) c q
 ·refine qG (by rw[hw];decide) ?_;refine⟨_,rfl,?_⟩;refine qG (by rw[hw];decide) ?_;refine⟨_,rfl,?_⟩;refine wQ hw ?_;refine⟨_,_,_,W.se u b,rfl,_,W.hs u b,_,rfl,?_⟩;unfold qZ;refine⟨rfl,_,W.hs u b,?_⟩;exact Je (W.hs u b) c q
 ·refine qG (by rw[hw];decide) ?_;refine⟨_,rfl,?_⟩;refine wQ hw ?_;refine⟨_,_,_,W.se u b,rfl,_,W.hs u b,_,rfl,?_⟩;unfold wx;refine⟨rfl,_,W.hs u b,?_⟩;refine wL (W.hs u b) ?_;refine vB c ?_;exact⟨by show (1:Nat)<=aQ;decide,q⟩
inductive fH(y:Int):T->Prop
 |int (v:Int) (h:v<0\/y<=v):fH y (.int v)
 |bl:fH y (.bl aB)
 |str:fH y (.str "0")
theorem Vn(h:fH y hs)(q:K (.bl aC) μ):qz [hs,.int y] μ K Z:=by
 unfold qz;refine⟨rfl,?_⟩;cases h with
 |int v h=>
  refine zd ?_;refine zY (λa=>?_) (λa=>?_)
  ·have q:K (.bl (decide (v<y))) μ:=by rw[decide_eq_false (by lia)];exact q
   exact q
  ·exact q
 |bl=>
  show zy [_] μ _ _;exact⟨rfl,q⟩
 |str=>
  refine wW ?_;exact q
theorem Se{c g:Nat}{m:Int}{sp:T}(B:Bk μ c g (bG x y z) ps)(h0:ho.length<=aQ)(h1:zP ho=aB)(a:fH y hs)(q:Z 13 [] μ):qo [.mut c,.str ho,hs,.int m,sp] μ K Z:=by
 unfold qo;refine⟨rfl,_,B.com,?_⟩;unfold q9;refine⟨rfl,?_⟩;refine jw h0 h1 ?_;have fin:∀{b:T->aK->Prop}{d:Xp},b (.bl aC) μ->qz [hs,.int y] μ b d:=Vn a;cases a<;>exact⟨_,_,_,B.com,rfl,fin ⟨by show (1:Nat)<=aQ;decide,q⟩⟩
theorem Sz{c g:Nat}{m:Int}{sp:T}(B:Bk μ c g (bG x y z) ps)(h0:ho.length<=aQ)(h1:zP ho=aB)(h2:j_ y hs)(d:dF sp)(q:Z 16 [] μ):qo [.mut c,.str ho,hs,.int m,sp] μ K Z:=by
 unfold qo;refine⟨rfl,_,B.com,?_⟩;unfold q9;refine⟨rfl,?_⟩;refine jw h0 h1 ?_;rcases h2 with rfl|⟨h,rfl,a,b⟩
 ·refine vB d ?_;exact⟨by show (1:Nat)<=aQ;decide,q⟩
 ·refine⟨_,_,_,B.com,rfl,?_⟩;refine vH a b ?_;refine vB d ?_;exact⟨by show (1:Nat)<=aQ;decide,q⟩
noncomputable abbrev n9(wd:aG)(t:Int)(ho:aG)(hs sp:T):T:=.tup [.str wd,.int t,.str ho,hs,sp]
theorem JV {sp:T}{c:Nat}(hw:wd="lease") (W:bX μ w cm gr g d x y z ah sd now us rs ps) (l:us[i]?=aA u) (nd:(us.map (·.ho)).Nodup) (h1:u.ho.length<=aQ) (h2:zP u.ho=aB) (o:μ[i0]?=aA (.tab 0)) (p:ps.length<64)
  (f:(fH y hs/\c=13)\/(j_ y hs/\dF sp/\c=16)\/(j_ y hs/\(∃n:Int,sp=.int n/\1<=n/\x<n)/\c=19)) (q:∀j,Ch [] μ j->Z c [] j):ql [.mut w,n9 wd t u.ho hs sp] μ K Z:=by
 have e:=b9 l;unfold ql;refine⟨rfl,_,_,_,W.wo,rfl,_,rfl,_,_,.inl W.dc,kn l nd,_,_,_,W.se u e,rfl,_,W.cl u e,_,rfl,?_⟩;refine qN (W.cl u e) ?_;refine⟨_,rfl,?_⟩;refine qG (by rw[hw];decide) ?_;refine⟨_,rfl,?_⟩;refine qG (by rw[hw];decide) ?_;refine⟨_,rfl,?_⟩;refine qG (by rw[hw];decide) ?_;refine⟨_,rfl,?_⟩;refine wQ hw ?_;refine⟨_,_,_,W.se u e,rfl,_,W.hs u e,_,_,_,W.wo,rfl,_,W.bk.com,_,rfl,_,rfl,_,rfl,?_⟩;rcases f with⟨f,rfl⟩|⟨k,f,rfl⟩|⟨k,⟨n,rfl,m,r⟩,rfl⟩
 ·exact Se W.bk h1 h2 f (q _ Ch.refl)
 ·exact Sz W.bk h1 h2 k f (q _ Ch.refl)
 ·exact NO W.bk o p h1 h2 k m (λj ch=>q j ch) λh b j a _ _ v s _ _ _ _=>by lia
theorem JG{c:Nat}(W:bX μ w cm gr g d x y z ah sd (.int s) us rs ps)(b:us[i]?=aA u)(nd:(us.map (·.ho)).Nodup)(h1:u.ho.length<=aQ)(h2:zP u.ho=aB)(hs:s<=t)(h:rE μ t (.str u.ho) row)
  (hd:∀{e:T->aK->Prop}{a:Xp},(∀j,Ch [] μ j->a c [] j)->ql [.mut w,row] μ e a) (q:∀j,Ch [] μ j->Z c [] j):zr [.mut w,row] μ K Z:=by
 obtain⟨⟨f,r,er⟩,h⟩:=h;unfold zr;refine⟨rfl,_,W.wo,?_⟩;refine j9 W b nd (.inr ⟨s,rfl,hs⟩) h1 h2 er h ?_;refine⟨_,W.wo,?_⟩;exact hd q
end
section
variable {μ μ1 μ2:aK}{K:T->aK->Prop}{Z:Xp}{t:Int}{i w c p:Nat}{fs:List (Nat×T)}{wd:aG}{row:T}
theorem NM{h:List (Nat×T)}(hw:μ[w]?=aA (.obj 47 h))(k:∀{m:T->aK->Prop}{i:Xp},(∀d,Ch [] μ d->i c fs d)->zr [.mut w,row] μ m i)(b:W5 wd c p)(l:c=26->fs=[(25,.int 20)])(q:∀d,Ch [] μ d->K (.str wd) d):vQ [.mut w,row] μ K Z:=by
 unfold vQ;refine⟨rfl,?_⟩;refine⟨_,hw,?_⟩;refine k λd ch=>?_;refine EU (by cases b<;>rfl) ?_;refine V6 b λj f=>?_;refine zY (λe=>?_) (λe=>?_)
 ·obtain rfl:c=26:=by cases b<;>first|rfl|exact absurd e (by decide)
  rw[l rfl];refine⟨rfl,⟨rfl,?_⟩⟩;exact V6 b λg a=>q _ ((ch.trans f).trans a)
 ·exact V6 b λg a=>q _ ((ch.trans f).trans a)
structure Dr(μ:aK)(i:Nat)(μ':aK):Prop where
 ch:Ch [i] μ μ'
 st:St μ' i
theorem Up.dr(u:Up μ i d):Dr μ i d:=⟨⟨lm u.len.symm,λj _ a=>u.ot j (by simpa using a)⟩,u.st⟩
theorem Dr.trans(a:Dr μ i μ1)(b:Dr μ1 i μ2):Dr μ i μ2:=⟨a.ch.trans b.ch,b.st⟩
noncomputable def Ad (row:T):Prop:=∀(a:aK) (K:T->aK->Prop) (Z:Xp),K (.bl aC) a->zp [row] a K Z
noncomputable abbrev Hy(t:Int):List T:=[.non,.int 5,.str "ask",.lst [],.tup [.str "ask"],.tup [.str "ask",.int t],.tup [.str "ask",.int t,.str "one"],.tup [.str "ask",.int t,.str "one",.int 1,.int 1],.lst [.str "ask",.int t,.str "one",.int 1],
 .tup [.str "asks",.int t,.str "one",.int 1],.tup [.str "ask",.bl aB,.str "one",.int 1],.tup [.str "ask",.non,.str "one",.int 1],.tup [.str "ask",.str (toString t),.str "one",.int 1],
 .tup [.non,.int t,.str "one",.int 1],.tup [.tup [.str "ask"],.int t,.str "one",.int 1],.tup [.str "lease",.int t,.str "one",.int 0],.tup [.str "lease",.int t,.str "one",.int 0,.int 1,.int 1],
 .tup [.str "store",.int t,.str "one"],.tup [.str "take",.int t],.tup [.str "take",.int t,.str "one",.int 1,.int 1],.tup [.str "back",.int t],.tup [.str "back",.int t,.str "one",.int 1],
 .tup [.str "fall",.int t,.str "one",.int 0],.tup [.str "bare"],.dic [],.tup [.str "Ask",.int t,.str "one",.int 1],.tup [.int t,.str "ask",.str "one",.int 1],.tup [.str "bare",.int t]]
theorem JJ{b:Bool}(q:K (.bl aC) μ):zy [.bl b] μ K Z:=⟨rfl,q⟩
theorem WD(q:K (.bl aC) μ):zy [.non] μ K Z:=⟨rfl,q⟩
theorem Yl:∀r∈Hy t,∀(b:aK) (K:T->aK->Prop) (Z:Xp),K (.bl aC) b->zp [r] b K Z:=by
 refine dS.mpr ⟨λa K Z q=>?_,?_⟩
 ·unfold zp;exact⟨rfl,q⟩
 refine dS.mpr ⟨λa K Z q=>?_,?_⟩
 ·unfold zp;exact⟨rfl,q⟩
 refine dS.mpr ⟨λa K Z q=>?_,?_⟩
 ·unfold zp;exact⟨rfl,q⟩
 refine dS.mpr ⟨λa K Z q=>?_,?_⟩
 ·unfold zp;exact⟨rfl,q⟩
 refine dS.mpr ⟨λa K Z q=>?_,?_⟩
 ·unfold zp;refine⟨rfl,?_⟩;show z9 [_] a _ _;unfold z9;refine⟨rfl,_,rfl,_,rfl,?_⟩;exact q
 refine dS.mpr ⟨λa K Z q=>?_,?_⟩
 ·unfold zp;refine⟨rfl,?_⟩;show z9 [_] a _ _;unfold z9;refine⟨rfl,_,rfl,_,rfl,?_⟩;exact q
 refine dS.mpr ⟨λa K Z q=>?_,?_⟩
 ·unfold zp;refine⟨rfl,?_⟩;show z9 [_] a _ _;unfold z9;refine⟨rfl,_,rfl,_,rfl,?_⟩;exact q
 refine dS.mpr ⟨λa K Z q=>?_,?_⟩
 ·unfold zp;refine⟨rfl,?_⟩;show z9 [_] a _ _;unfold z9;refine⟨rfl,_,rfl,_,rfl,?_⟩;exact q
 refine dS.mpr ⟨λa K Z q=>?_,?_⟩
 ·unfold zp;exact⟨rfl,q⟩
 refine dS.mpr ⟨λa K Z q=>?_,?_⟩
 ·unfold zp;refine⟨rfl,?_⟩;show z9 [_] a _ _;unfold z9;refine⟨rfl,_,rfl,_,rfl,?_⟩;exact q
 refine dS.mpr ⟨λa K Z q=>?_,?_⟩
 ·unfold zp;refine⟨rfl,?_⟩;refine xM ?_;refine⟨_,rfl,?_⟩;exact JJ q
 refine dS.mpr ⟨λa K Z q=>?_,?_⟩
 ·unfold zp;refine⟨rfl,?_⟩;refine xM ?_;refine⟨_,rfl,?_⟩;exact WD q
 refine dS.mpr ⟨λa K Z q=>?_,?_⟩
 ·unfold zp;refine⟨rfl,?_⟩;refine xM ?_;refine⟨_,rfl,?_⟩;exact wW q
 refine dS.mpr ⟨λa K Z q=>?_,?_⟩
 ·unfold zp;refine⟨rfl,?_⟩;show z9 [_] a _ _;unfold z9;refine⟨rfl,_,rfl,?_⟩;exact q
 refine dS.mpr ⟨λa K Z q=>?_,?_⟩
 ·unfold zp;refine⟨rfl,?_⟩;show z9 [_] a _ _;unfold z9;refine⟨rfl,_,rfl,?_⟩;exact q
 refine dS.mpr ⟨λa K Z q=>?_,?_⟩
 ·unfold zp;refine⟨rfl,?_⟩;show z9 [_] a _ _;unfold z9;refine⟨rfl,_,rfl,_,rfl,?_⟩;exact q
 refine dS.mpr ⟨λa K Z q=>?_,?_⟩
 ·unfold zp;refine⟨rfl,?_⟩;show z9 [_] a _ _;unfold z9;refine⟨rfl,_,rfl,_,rfl,?_⟩;exact q
 refine dS.mpr ⟨λa K Z q=>?_,?_⟩
 ·unfold zp;refine⟨rfl,?_⟩;show z9 [_] a _ _;unfold z9;refine⟨rfl,_,rfl,_,rfl,?_⟩;exact q
 refine dS.mpr ⟨λa K Z q=>?_,?_⟩
 ·unfold zp;refine⟨rfl,?_⟩;show z9 [_] a _ _;unfold z9;refine⟨rfl,_,rfl,_,rfl,?_⟩;exact q
 refine dS.mpr ⟨λa K Z q=>?_,?_⟩
 ·unfold zp;refine⟨rfl,?_⟩;show z9 [_] a _ _;unfold z9;refine⟨rfl,_,rfl,_,rfl,?_⟩;exact q
 refine dS.mpr ⟨λa K Z q=>?_,?_⟩
 ·unfold zp;refine⟨rfl,?_⟩;show z9 [_] a _ _;unfold z9;refine⟨rfl,_,rfl,_,rfl,?_⟩;exact q
 refine dS.mpr ⟨λa K Z q=>?_,?_⟩
 ·unfold zp;refine⟨rfl,?_⟩;show z9 [_] a _ _;unfold z9;refine⟨rfl,_,rfl,_,rfl,?_⟩;exact q
 refine dS.mpr ⟨λa K Z q=>?_,?_⟩
 ·unfold zp;refine⟨rfl,?_⟩;show z9 [_] a _ _;unfold z9;refine⟨rfl,_,rfl,_,rfl,?_⟩;exact q
 refine dS.mpr ⟨λa K Z q=>?_,?_⟩
 ·unfold zp;refine⟨rfl,?_⟩;show z9 [_] a _ _;unfold z9;refine⟨rfl,_,rfl,_,rfl,?_⟩;exact q
 refine dS.mpr ⟨λa K Z q=>?_,?_⟩
 ·unfold zp;exact⟨rfl,q⟩
 refine dS.mpr ⟨λa K Z q=>?_,?_⟩
 ·unfold zp;refine⟨rfl,?_⟩;show z9 [_] a _ _;unfold z9;refine⟨rfl,_,rfl,_,rfl,?_⟩;exact q
 refine dS.mpr ⟨λa K Z q=>?_,?_⟩
 ·unfold zp;refine⟨rfl,?_⟩;show z9 [_] a _ _;unfold z9;refine⟨rfl,_,rfl,?_⟩;exact q
 refine dS.mpr ⟨λa K Z q=>?_,?_⟩
 ·unfold zp;refine⟨rfl,?_⟩;show z9 [_] a _ _;unfold z9;refine⟨rfl,_,rfl,_,rfl,?_⟩;exact q
 exact λ_ h=>by cases h
theorem Wj(hs:St μ i)(k:t.natAbs<1000)(q:∀row d,Dr μ i d->Ad row->K row d):wb [.mut i,.int t] μ K Z:=by
 have b:t.natAbs<2 ^ 1900:=cY k (cU (show 1000<=2 ^ 10 by decide) (DY (by decide) (by decide)));unfold wb;refine⟨rfl,?_⟩;refine⟨b,by show 13<=aQ;decide,by show 17<=aQ;decide,by show 22<=aQ;decide,by show 28<=aQ;decide,?_⟩;refine zD (base:=28) hs (by decide) (by decide) λv a o p f=>?_;have g:∀(l:List T),l.length=28->(∀r∈l,∀(d:aK) (K:T->aK->Prop) (Z:Xp),K (.bl aC) d->zp [r] d K Z)->∃r,vY l v=aA r/\Ad r:=λl n m=>by
  have c:v.toNat<l.length:=by rw[n];omega
  refine⟨l[v.toNat],?_,m _ (sY c)⟩;have:=rS (xs:=l) (j:=v.toNat) (fR c);rw[DR o] at this;exact this
 obtain⟨r,e,h⟩:=g (Hy t) rfl Yl;exact⟨_,e,q r a f.dr h⟩
end
section
variable {μ μ1 μ2:aK}{K:T->aK->Prop}{Z:Xp}{t v:Int}{i c:Nat}{wd:aG}{row hv:T}
theorem vC{l:List T}(h0:0<=v)(h1:v<l.length):∃r∈l,vY l v=aA r:=by
 have a:v.toNat<l.length:=by lia
 refine⟨l[v.toNat],sY a,?_⟩;have:=rS (xs:=l) (j:=v.toNat) (fR a);rw[DR h0] at this;exact this
noncomputable def uj(hv:T):Prop:=(∀(μ:aK) (K:T->aK->Prop) (Z:Xp),K (.bl aC) μ->zT [hv] μ K Z)\/hv=.str "two"
theorem kC (h:hv∈[T.str "two",.str "",.str "One",.non,.int 5,.str "oneoneone",.tup [.str "one"],.str "on e"]):uj hv:=by
 have st:∀{z:aG},z.length<=aQ->zP z=aC->uj (.str z):=λ{z} e d=>.inl λb K Z q=>zQ e (by rw[d];exact q);have c:∀{a:T},(∀(b:aK) (K:T->aK->Prop) (Z:Xp),K (.bl aC) b->zT [a] b K Z)->uj a:=λh=>.inl h;simp only[cA,fN,or_false] at h;rcases h with rfl|rfl|rfl|rfl|rfl|rfl|rfl|rfl
 ·exact .inr rfl
 ·exact st (by decide) (by decide)
 ·exact st (by decide) (by decide +kernel)
 ·exact c λb K Z q=>by unfold zT;exact⟨rfl,q⟩
 ·exact c λb K Z q=>k8 q
 ·exact st (by decide) (by decide)
 ·exact c λb K Z q=>by unfold zT;exact⟨rfl,q⟩
 ·exact st (by decide) (by decide +kernel)
theorem XX {a:T}(h:a∈[T.int 0,.int (-1),.bl aB,.non,.str "1"]):dF a:=by
 simp only[cA,fN,or_false] at h;rcases h with rfl|rfl|rfl|rfl|rfl
 ·exact .zero
 ·exact .neg
 ·exact .bl
 ·exact .non
 ·exact .str
theorem RF {a:T}(h:a∈[T.int 0,.int (-1),.bl aB,.non,.str "1",.int 9]):ow 8 a:=by
 simp only[cA,fN,or_false] at h;rcases h with rfl|rfl|rfl|rfl|rfl|rfl
 ·exact .inl .zero
 ·exact .inl .neg
 ·exact .inl .bl
 ·exact .inl .non
 ·exact .inl .str
 ·exact .inr ⟨9,rfl,by decide,by decide⟩
theorem Ry {a:T}(h:a∈[T.int 3,.int (-1),.bl aB,.str "0",.int 9]):fH 3 a:=by
 simp only[cA,fN,or_false] at h;rcases h with rfl|rfl|rfl|rfl|rfl
 ·exact .int _ (by decide)
 ·exact .int _ (by decide)
 ·exact .bl
 ·exact .str
 ·exact .int _ (by decide)
theorem Xn{a:T}(h:a∈[T.non,.int 2]):j_ 3 a:=by
 simp only[cA,fN,or_false] at h;rcases h with rfl|rfl
 ·exact .inl rfl
 ·exact .inr ⟨2,rfl,by decide,by decide⟩
noncomputable def iy (t:Int)(hv row:T):Prop:=∀μ,rE μ t hv row
theorem uN{a b:T}:iy t hv (.tup [.str "lease",.int t,hv,a,b]):=λc=>⟨⟨_,_,rfl⟩,λK Z q=>UC q⟩
theorem WN {a:T}(h:wd="ask"\/wd="store"\/wd="take"):iy t hv (.tup [.str wd,.int t,hv,a]):=λb=>⟨⟨_,_,rfl⟩,λK Z q=>by
 unfold zp;refine⟨rfl,?_⟩;show z9 [_] b _ _;unfold z9;rcases h with rfl|rfl|rfl
 ·exact⟨rfl,_,rfl,_,rfl,_,rfl,zd q⟩
 ·exact⟨rfl,_,rfl,_,rfl,_,rfl,zd q⟩
 ·exact⟨rfl,_,rfl,_,rfl,_,rfl,zd q⟩⟩
theorem M_ (h:wd="back"\/wd="fall"\/wd="bare"):iy t hv (.tup [.str wd,.int t,hv]):=λa=>⟨⟨_,_,rfl⟩,λK Z q=>by
 unfold zp;refine⟨rfl,?_⟩;show z9 [_] a _ _;unfold z9;rcases h with rfl|rfl|rfl
 ·exact⟨rfl,_,rfl,_,rfl,_,rfl,zd q⟩
 ·exact⟨rfl,_,rfl,_,rfl,_,rfl,zd q⟩
 ·exact⟨rfl,_,rfl,_,rfl,_,rfl,zd q⟩⟩
inductive iw(t:Int):T->aG->Prop
 |holder (hv row:T) (f:iy t hv row) (s:uj hv):iw t row "holder"
 |name (hs sp:T) (h:fH 3 hs):iw t (n9 "lease" t "ones" hs sp) "name"
 |time (hs sp:T) (h:j_ 3 hs) (b:dF sp):iw t (n9 "lease" t "ones" hs sp) "time"
 |ended (hs:T) (n:Int) (h:j_ 3 hs) (b:500<=n):iw t (n9 "lease" t "ones" hs (.int n)) "ended"
 |many (a:T) (wd:aG) (m:wd="ask"\/wd="store") (b:ow 8 a):iw t (rB wd t "one" a) "many"
 |take (a:T) (b:dF a):iw t (rB "take" t "one" a) "many"
theorem KI{l:List aG}{a:T}(h:a∈l.map T.str):∃z∈l,a=.str z:=by
 obtain⟨z,b,e⟩:=eR.mp h;exact⟨z,b,e.symm⟩
theorem FD{α:Type}{a b c z:α}(h:z∈[a,b,c]):z=a\/z=b\/z=c:=by simpa using h
theorem Lu{α:Type}{a b z:α}(h:z∈[a,b]):z=a\/z=b:=by simpa using h
theorem VG(hs:St μ i)(q:∀row wd j,Dr μ i j->iw t row wd->K (.tup [row,.str wd]) j):wA [.mut i,.int t] μ K Z:=by
 unfold wA;refine⟨rfl,?_⟩;refine zD hs (by decide) (by decide) λv1 G a1 b1 B=>?_;obtain⟨u,r,eh⟩:=vC (l:=[T.str "two",.str "",.str "One",.non,.int 5,.str "oneoneone",.tup [.str "one"],.str "on e"]) a1 b1;refine⟨_,eh,?_⟩;refine zD B.st (by decide) (by decide) λv2 F a2 b2 A=>?_;obtain⟨J,N,en⟩:=vC (l:=[T.int 0,.int (-1),.bl aB,.non,.str "1",.int 9]) a2 b2;refine⟨_,en,?_⟩;refine zD A.st (by decide) (by decide) λv3 E a3 Y y=>?_;obtain⟨v,L,es⟩:=vC (l:=[T.int 3,.int (-1),.bl aB,.str "0",.int 9]) a3 Y;refine⟨_,es,?_⟩;refine zD y.st (by decide) (by decide) λv4 D a4 X x=>?_;obtain⟨C,M,ep⟩:=vC (l:=[T.int 0,.int (-1),.bl aB,.non,.str "1"]) a4 X;refine⟨_,ep,?_⟩;refine zD x.st (by decide) (by decide) λv5 h a5 b5 f=>?_;have U:=(((B.trans A).trans y).trans x).trans f;refine zY (λe0=>?_) (λe0=>?_)
 ·exact q _ _ h U.dr (.holder u _ uN (kC r))
 refine zY (λW=>?_) (λW=>?_)
 ·refine zD f.st (by decide) (by decide) λm b e d c=>?_;obtain⟨k,n,ew⟩:=vC (l:=[T.str "ask",.str "store",.str "take"]) e d;refine⟨_,ew,?_⟩;obtain⟨z,o,rfl⟩:=KI (l:=["ask","store","take"]) n;exact q _ _ b (U.trans c).dr (.holder u _ (WN (FD o)) (kC r))
 refine zY (λV=>?_) (λV=>?_)
 ·refine zD f.st (by decide) (by decide) λm b e d c=>?_;obtain⟨k,n,ew⟩:=vC (l:=[T.str "back",.str "fall",.str "bare"]) e d;refine⟨_,ew,?_⟩;obtain⟨z,o,rfl⟩:=KI (l:=["back","fall","bare"]) n;exact q _ _ b (U.trans c).dr (.holder u _ (M_ (FD o)) (kC r))
 refine zY (λS=>?_) (λS=>?_)
 ·exact q _ _ h U.dr (.name v C (Ry L))
 refine zY (λR=>?_) (λR=>?_)
 ·refine zD f.st (by decide) (by decide) λm b e d c=>?_;obtain⟨w,s,g⟩:=vC (l:=[T.non,.int 2]) e d;refine⟨_,g,?_⟩;exact q _ _ b (U.trans c).dr (.time w C (Xn s) (XX M))
 refine zY (λQ=>?_) (λQ=>?_)
 ·refine zD f.st (by decide) (by decide) λm b e d c=>?_;obtain⟨w,s,g⟩:=vC (l:=[T.non,.int 2]) e d;refine⟨_,g,?_⟩;refine zD c.st (by decide) (by decide) λH p a7 b7 I=>?_;exact q _ _ p ((U.trans c).trans I).dr (.ended w (500+H) (Xn s) (by lia))
 refine zY (λP=>?_) (λP=>?_)
 ·refine zD f.st (by decide) (by decide) λm b e d c=>?_;obtain⟨k,n,ew⟩:=vC (l:=[T.str "ask",.str "store"]) e d;refine⟨_,ew,?_⟩;obtain⟨z,o,rfl⟩:=KI (l:=["ask","store"]) n;exact q _ _ b (U.trans c).dr (.many J z (Lu o) (RF N))
 ·refine zD f.st (by decide) (by decide) λm b e d c=>?_;obtain⟨a,O,ea⟩:=vC (l:=[T.int 0,.int (-1),.bl aB,.non,.str "1"]) e d;refine⟨_,ea,?_⟩;exact q _ _ b (U.trans c).dr (.take a (XX O))
end
section
variable {μ:aK}{K:T->aK->Prop}{Z:Xp}{t ah:Int}{w cm gr g d c p:Nat}{wd:aG}{row hv:T}{us:List Hr}{ps:List Gp}
noncomputable abbrev gQ:List T:=[KY 20 "one" 488,KY 20 "one" 489]
structure V5(μ:aK)(w cm gr g d:Nat)(ah:Int)(us:List Hr)(ps:List Gp):Prop where
 W:bX μ w cm gr g d 300 3 8 ah 2 (.int 20) us gQ ps
 u0:∃u,us[0]?=aA u/\u.ho=("one":aG)/\u.st=0/\u.ts=[]/\u.l=aA (1,10,210)/\u.n=aA 489/\u.m=aA 22
 u1:∃u,us[1]?=aA u/\u.ho=("ones":aG)
 hh:us.map (·.ho)=[("one":aG),("ones":aG)]
 ok:∀u∈us,dY 300 3 8 u
 pp:∃a,ps=[(a,⟨"one",1,10,210,210,aC⟩)]
 tb:μ[0]?=aA (.tab 0)
 a0:0<=ah
theorem V5.ch(V:V5 μ w cm gr g d ah us ps)(h:Ch [] μ j):V5 j w cm gr g d ah us ps:=⟨V.W.ch0 h,V.u0,V.u1,V.hh,V.ok,V.pp,h.get V.tb (by simp),V.a0⟩
theorem V5.nd(V:V5 μ w cm gr g d ah us ps):(us.map (·.ho)).Nodup:=by rw[V.hh];decide +kernel
theorem V5.pl(V:V5 μ w cm gr g d ah us ps):ps.length<64:=by obtain⟨a,rfl⟩:=V.pp;show 1<64;decide
theorem iw.form(h:iw t row wd):∃hv,iy t hv row:=by
 cases h with
 |holder hv row f s=>exact⟨hv,f⟩
 |name hs sp h=>exact⟨_,uN⟩
 |time hs sp h b=>exact⟨_,uN⟩
 |ended hs n h b=>exact⟨_,uN⟩
 |many a wd m b=>exact⟨_,WN (m.imp_right .inl)⟩
 |take a b=>exact⟨_,WN (.inr (.inr rfl))⟩
noncomputable def ml (μ:aK)(w:Nat)(row:T)(wd:aG):Prop:=∃c p fs,W5 wd c p/\(c=26->fs=[(25,T.int 20)])/\∀{K:T->aK->Prop}{Z:Xp},(∀a,Ch [] μ a->Z c fs a)->zr [.mut w,row] μ K Z
theorem U8(V:V5 μ w cm gr g d ah us ps)(h:iw t row wd)(a:t<20):ml μ w row "back":=by
 obtain⟨b,f⟩:=h.form;exact⟨26,1,[(25,.int 20)],.back,λ_=>rfl,λ{K Z} q=>S2 V.W (f μ) a (by decide) (q _ Ch.refl)⟩
theorem X6(V:V5 μ w cm gr g d ah us ps)(h:Ad row):ml μ w row "row":=⟨25,0,[],.row,(λe=>by cases e),λ{K Z} q=>Yp V.W (h μ) (q _ Ch.refl)⟩
theorem U1(V:V5 μ w cm gr g d ah us ps)(h:iw t row wd)(y:20<=t):ml μ w row wd:=by
 obtain⟨u,x,eu,_⟩:=V.u0;obtain⟨A,k,z⟩:=V.u1;have H:=V.ok u (b9 x);have r:=V.ok A (b9 k);have i:∀{j l:T}{c p:Nat}{wd:aG},W5 wd c p->c≠26->(fH 3 j/\c=13)\/(j_ 3 j/\dF l/\c=16)\/(j_ 3 j/\(∃n:Int,l=.int n/\1<=n/\300<n)/\c=19)->ml μ w (n9 "lease" t "ones" j l) wd:=λ{j l c p wd} C B o=>by
  refine⟨c,p,[],C,λe=>absurd e B,λ{K Z} q=>?_⟩;rw[←z];exact JG V.W k V.nd r.h1 r.h2 y (uN μ) (λ{E D} v=>JV rfl V.W k V.nd r.h1 r.h2 V.tb V.pl o v) q
 have many:∀{a:T}{wd:aG},((wd="ask"\/wd="store")/\ow 8 a)\/(wd="take"/\dF a)->ml μ w (rB wd t "one" a) "many":=λ{a wd} o=>by
  refine⟨20,6,[],.many,(λe=>by cases e),λ{K Z} q=>?_⟩;rw[←eu];exact JG V.W x V.nd H.h1 H.h2 y (WN (o.elim (λh=>h.1.imp_right .inl) λh=>.inr (.inr h.1)) μ) (λ{E D} v=>Yf o V.W x V.nd (v _ Ch.refl)) q
 cases h with
 |holder F row f s=>
  refine⟨17,2,[],.holder,(λe=>by cases e),λ{K Z} q=>Kw V.W (f μ) y ?_ (q _ Ch.refl)⟩;rcases s with s|rfl
  ·exact .inl (s μ)
  ·exact .inr ⟨_,rfl,by decide,by decide +kernel,by rw[V.hh];decide +kernel⟩
 |name j l h=>exact i .name (by decide) (.inl ⟨h,rfl⟩)
 |time j l h b=>exact i .time (by decide) (.inr (.inl ⟨h,b,rfl⟩))
 |ended j n h b=>exact i .ended (by decide) (.inr (.inr ⟨h,⟨n,rfl,by lia,by lia⟩,rfl⟩))
 |many a wd m b=>exact many (.inl ⟨m,b⟩)
 |take a b=>exact many (.inr ⟨rfl,b⟩)
theorem S_(V:V5 μ w cm gr g d ah us ps)(h:ml μ w row wd)(q:∀j,Ch [] μ j->K (.str wd) j):vQ [.mut w,row] μ K Z:=by
 obtain⟨c,p,fs,e,b,a⟩:=h;exact NM V.W.wo a e b q
theorem P4{c g:Nat}{x y z:Int}(B:Bk μ c g (bG x y z) ps)(e:ps.length<=1000)(q:K (.mut μ.length) (μ++[.lst (ps.map λp=>p.2.row)])):w6 [.mut c] μ K Z:=by
 unfold w6;refine⟨rfl,?_⟩;refine⟨_,_,_,B.com,rfl,?_⟩;refine⟨_,B.lst,?_⟩;refine⟨by rw[cJ];unfold aQ;omega,?_⟩;refine wj Gp.t (λp=>aA p.2.row) (λp b k d=>?_) (by rw[mL];exact q) B.lst;refine⟨_,rfl,?_⟩;have a:=B.at_ p b;exact⟨_,_,_,a,rfl,_,_,_,a,rfl,_,rfl,_,_,_,a,rfl,_,rfl,_,_,_,a,rfl,d⟩
theorem Bq(V:V5 μ w cm gr g d ah us ps)(q:K (.mut μ.length) (μ++[.lst gQ])):qp [.mut w] μ K Z:=by
 unfold qp;refine⟨rfl,_,_,_,V.W.wo,rfl,?_⟩;exact⟨_,V.W.gv,q⟩
theorem VQ (V:V5 μ w cm gr g d ah us ps) (q:K (.mut μ.length) (μ++[.lst [.tup [.str "one",.int 1,.int 10,.int 210]]])):qS [.mut w] μ K Z:=by
 unfold qS;refine⟨rfl,_,_,_,V.W.wo,rfl,_,V.W.bk.com,?_⟩;refine P4 V.W.bk (by have:=V.pl;omega) ?_;obtain⟨a,rfl⟩:=V.pp;exact q
end
section
variable {μ μ1 μ2:aK}{ah:Int}{w cm gr g d bk:Nat}{wd:aG}{row:T}{us:List Hr}{ps:List Gp}
@[reducible] noncomputable def Oi:List Ds:=[(zt 1 (z8 vT [(eV 12)])),(zt 13 (zh .Add (eC (.int 20)) (bD (qx [(eC (.int 0)),(z8 zo [(eV 1),(eC (.int 60))])]) (z8 zo [(eV 1),(eC (.int 2))])))),(zt 14 (zh .Sub (eC (.int 19)) (z8 zo [(eV 1),(eC (.int 30))]))),(zt 15 (Qy [(zG [(z8 wb [(eV 1),(eV 13)]),(eC (.str "row"))]),(z8 wA [(eV 1),(eV 13)]),(zG [(z8 wb [(eV 1),(eV 14)]),(eC (.str "row"))])])),(zS (U3 (eV 15) (zG [(bD (z8 wA [(eV 1),(eV 14)]) (eC (.int 0))),(eC (.str "back"))]))),(ry [16,17] (bD (eV 15) (z8 zo [(eV 1),(eC (.int 4))]))),(bM (tE (zE .NotEq (z8 vQ [(eV 10),(eV 16)]) (eV 17))) [(zq (eC (.bl aC)))] []),(bM (fO (tE (zE .NotEq (zz 47 qp (eV 10) []) (eV 11))) (tE (zE .NotEq (zz 47 qS (eV 10) []) (qx [(zG [(eC (.str "one")),(eC (.int 1)),(eC (.int 10)),(eC (.int 210))])])))) [(zq (eC (.bl aC)))] [])]
theorem Xu:cK gQ gQ=aA aB:=by simp[cK,eqT]
theorem Ou:cK [T.tup [.str "one",.int 1,.int 10,.int 210]] [T.tup [.str "one",.int 1,.int 10,.int 210]]=aA aB:=by simp[cK,eqT]
theorem Nf{E:En}{N:Sl->aK->Prop}{x:Int}{s0 s2 s3 s4 s5 s6 D s8 s9 I u t s q p:Option T}(V:V5 μ w cm gr g d ah us ps)(hb:μ[bk]?=aA (.lst gQ))(hN:∀I u t s q p z,Ch [] μ z->N [s0,I,s2,s3,s4,s5,s6,D,s8,s9,aA (.mut w),aA (.mut bk),aA (.int x),u,t,s,q,p] z) :
  qe Oi [s0,I,s2,s3,s4,s5,s6,D,s8,s9,aA (.mut w),aA (.mut bk),aA (.int x),u,t,s,q,p] μ (E.turn N):=by
 refine QL λa b=>?_;have H:St (μ++[.lst [.int a,.int b,.int 0]]) μ.length:=⟨a,b,0,za⟩;have c0:Ch [] μ (μ++[.lst [.int a,.int b,.int 0]]):=Ch.app;refine zD H (by decide) (by decide) λG μ1 a1 b1 u1=>?_;refine zD u1.st (by decide) (by decide) λv2 μ2 a2 b2 u2=>?_;obtain⟨C,t0,t1,et⟩:∃C:Int,0<=C/\C<60/\vY [T.int 0,T.int G] v2=aA (.int C):=by
  obtain⟨r,A,er⟩:=vC (l:=[T.int 0,.int G]) a2 b2;simp only[cA,fN,or_false] at A;rcases A with rfl|rfl
  ·exact⟨0,by decide,by decide,er⟩
  ·exact⟨G,a1,b1,er⟩
 refine⟨_,et,?_⟩;refine zD u2.st (by decide) (by decide) λv3 μ3 a3 b3 u3=>?_;refine Wj u3.st (by lia) λf μ4 d4 n4=>?_;refine VG d4.st λe k μ5 d5 w5=>?_;refine Wj d5.st (by lia) λc j d6 n6=>?_;have Z:=(((u1.trans u2).trans u3).dr.trans d4).trans (d5.trans d6);have c6:Ch [] μ j:=Ch.geS c0 Z.ch (by simp);have lt:μ.length<j.length:=by
  obtain⟨_,_,_,h⟩:=Z.st;exact (bI.mp h).1
 have sA:∀{o:MO},St (j++[o]) μ.length:=λ{o}=>by
  obtain⟨X,U,S,h⟩:=Z.st;exact⟨X,U,S,z5 h⟩
 refine⟨⟨_,za⟩,?_⟩;refine VG sA λi wd4 m M w7=>?_;refine⟨_,rfl,?_⟩;have hj:m[j.length]?=aA (.lst [.tup [f,.str "row"],.tup [e,.str k],.tup [c,.str "row"]]):=M.ch.get za (by simp;lia);refine⟨_,hj,by show 4<=aQ;decide,?_⟩;have K:=aH (y:=MO.lst [.tup [f,.str "row"],.tup [e,.str k],.tup [c,.str "row"],.tup [i,.str "back"]]) hj;have c7:Ch [μ.length,j.length] (j++[MO.lst [.tup [f,.str "row"],.tup [e,.str k],.tup [c,.str "row"]]]) (m.set j.length (.lst [.tup [f,.str "row"],.tup [e,.str k],.tup [c,.str "row"],.tup [i,.str "back"]])):=(M.ch.mono (by simp)).trans (Ch.set.mono (by simp));have D:St (m.set j.length (.lst [.tup [f,.str "row"],.tup [e,.str k],.tup [c,.str "row"],.tup [i,.str "back"]])) μ.length:=by
  obtain⟨X,U,S,h⟩:=M.st;exact⟨X,U,S,by rw[bW (by lia)];exact h⟩
 have Q:Ch [] μ (m.set j.length (.lst [.tup [f,.str "row"],.tup [e,.str k],.tup [c,.str "row"],.tup [i,.str "back"]])):=Ch.geS (c6.trans Ch.app) c7 (by simp;lia);refine zD D (by decide) (by decide) λv8 n a8 b8 u8=>?_;have P:Ch [] μ n:=Ch.geS Q u8.dr.ch (by simp);have J:n[j.length]?=aA (.lst [.tup [f,.str "row"],.tup [e,.str k],.tup [c,.str "row"],.tup [i,.str "back"]]):=(u8.ot _ (by lia)).trans K;have v:=V.ch P;obtain⟨row,F,e8,R⟩:∃row F,vY [T.tup [f,.str "row"],.tup [e,.str k],.tup [c,.str "row"],.tup [i,.str "back"]] v8=aA (.tup [row,.str F])/\ml n w row F:=by
  obtain⟨r,A,er⟩:=vC (l:=[T.tup [f,.str "row"],.tup [e,.str k],.tup [c,.str "row"],.tup [i,.str "back"]]) a8 b8;simp only[cA,fN,or_false] at A;rcases A with rfl|rfl|rfl|rfl
  ·exact⟨_,_,er,X6 v n4⟩
  ·exact⟨_,_,er,U1 v w5 (by lia)⟩
  ·exact⟨_,_,er,X6 v n6⟩
  ·exact⟨_,_,er,U8 v w7 (by lia)⟩
 refine⟨_,_,J,e8,?_⟩;refine⟨_,rfl,?_⟩;refine S_ v R λμ9 O=>?_;refine uk rfl ?_;have Y:=v.ch O;refine⟨_,Y.W.wo,?_⟩;refine Bq Y ?_;have L:=(P.trans O).get hb (by simp);refine⟨(gQ,gQ),⟨za,z5 L⟩,by decide,_,Xu,?_⟩;have B:=Y.ch (Ch.app (x:=MO.lst gQ));refine⟨_,B.W.wo,?_⟩;refine VQ B ?_;refine⟨_,za,by decide,_,Ou,?_⟩;exact hN _ _ _ _ _ _ _ (((P.trans O).trans Ch.app).trans Ch.app)
end
section
variable {μ μ1 μ2:aK}{K:T->aK->Prop}{Z:Xp}{v ah:Int}{w cm gr g d bk:Nat}{us:List Hr}{ps:List Gp}
theorem V2{xs ys:List T}:Ch [] μ ((μ++[MO.lst xs]).set μ.length (MO.lst ys)):=Ch.geS Ch.app Ch.set (by simp)
theorem Lc(h:0<=ah):Wn 300 3 8 ah:=⟨⟨by decide,by decide,by decide,by decide,by decide⟩,by decide,by decide,h⟩
theorem Xc {e:List T}{c:T}{u:Hr}{k b:Int}{L:List Int}(h0:0<=ah) (W:bX μ w cm gr g d 300 3 8 ah 2 c us e ps) (x:us[0]?=aA u) (nd:(us.map (·.ho)).Nodup) (H:dY 300 3 8 u) (eh:u.ho=("one":aG)) (A:u.st=0) (z:u.ts=[]) (y:u.l=aA (1,10,210)) (t:Xe c 20) (k1:1<=k) (k2:k<=8) (p:e.length<=100000)
  (eb:qb 3 8 (1,10,210) u.n u.m 20=b) (C:b+k<=168) (f:lH 3 8 1 b k=L)
  (q:∀r v j,bX r w cm gr g d 300 3 8 ah 2 (.int 20) (us.set 0 v) (e++L.map (KY 20 "one")) ps->dY 300 3 8 v->oO v u->v.l=aA (1,10,210)->v.m=aA (rR 300 2 u.m ((b+k-1) / 8))->v.n=aA (ma 3 8 1 (b+k-1))->Ch [u.h,u.s,w,g] μ r->r[j]?=aA (.lst (L.map T.int))->K (.mut j) r) :
  zr [.mut w,.tup [.str "ask",.int 20,.str "one",.int k]] μ K Z:=by
 have er:u.rd 20=20:=by show yM u.st u.ts 20=20;rw[A,z];rfl
 have key:zr [.mut w,FM "ask" 20 u.ho k] μ K Z:=by
  refine Ux (a:=(1,10,210)) rfl (Lc h0) W x nd H t (by rw[er];decide) k1 k2 (by lia) p y (by rw[er,eb];show b+k<=210*8;lia) (by rw[er,eb];show (b+k-1) / 8-(20+ah)<=0;lia) λr v j i B o ec el em en ch gj=>?_;rw[er,eb,f,eh] at i;rw[er,eb,f] at gj;refine q r v j i B o el ?_ ?_ ch gj
  ·rw[em];show aA (rR 300 2 u.m ((qb 3 8 (1,10,210) u.n u.m (u.rd 20)+k-1) / 8))=_;rw[er,eb]
  ·rw[en];show aA (ma 3 8 1 (qb 3 8 (1,10,210) u.n u.m (u.rd 20)+k-1))=_;rw[er,eb]
 rw[eh] at key;exact key
theorem S6{b:List T}{a:T}(W:bX μ w cm gr g d 300 3 8 ah 2 a us b ps)(q:K (.mut μ.length) (μ++[.lst b])):qp [.mut w] μ K Z:=by
 unfold qp;refine⟨rfl,_,_,_,W.wo,rfl,?_⟩;exact⟨_,W.gv,q⟩
theorem MG{E D C B A z y x t s o n m l k i:Option T}(V:V5 μ w cm gr g d ah us ps)(P:μ[bk]?=aA (.lst gQ))(O:bk≠g)(q:∀r,K (.bl aB) r) :
  qe (qA.drop 16) [E,D,C,B,A,z,y,x,t,s,aA (.mut w),aA (.mut bk),o,n,m,l,k,i] μ (En.fn K Z):=by
 refine⟨_,V.W.wo,?_⟩;refine Bq V ?_;refine⟨_,za,?_⟩;suffices H:∀c,V5 c w cm gr g d ah us ps->c[bk]?=aA (.lst gQ)->qe (qA.drop 17) [E,D,C,B,A,z,y,x,t,s,aA (.mut w),aA (.mut bk),o,n,m,l,k,i] c (En.fn K Z) from H _ (V.ch V2) (V2.get P (by simp))
 intro c J I;refine⟨_,J.W.wo,?_⟩;refine VQ J ?_;refine⟨_,za,?_⟩;suffices H:∀a,V5 a w cm gr g d ah us ps->a[bk]?=aA (.lst gQ)->qe (qA.drop 18) [E,D,C,B,A,z,y,x,t,s,aA (.mut w),aA (.mut bk),o,n,m,l,k,i] a (En.fn K Z) from H _ (J.ch V2) (V2.get I (by simp))
 intro a h f;obtain⟨u,F,Y,X,U,S,R,Q⟩:=h.u0;refine⟨_,h.W.wo,?_⟩;refine Xc (b:=162) (L:=[490]) h.a0 h.W F h.nd (h.ok u (b9 F)) Y X U S (.inr ⟨20,rfl,by decide⟩) (by decide) (by decide) (by decide) (by rw[R,Q];decide) (by decide) (by decide) λp v j N H3 sm el em en ch gj=>?_;refine⟨.inr ⟨by decide,by decide⟩,.inr ⟨by decide,by decide⟩,?_⟩;refine⟨_,gj,by decide,_,(by simp[cK,eqT]:cK [T.int 490] [T.int 490]=aA aB),?_⟩;refine⟨_,N.wo,?_⟩;refine S6 N ?_;refine⟨_,za,?_⟩;have M:=b9 F;have G:p[bk]?=aA (.lst gQ):=ch.get f (by
  simp only[cA,fN,or_false,not_or];exact⟨zX f (h.W.hs u M) (λe=>by cases e),zX f (h.W.se u M) (λe=>by cases e),zX f h.W.wo (λe=>by cases e),O⟩)
 refine⟨_,z5 G,by decide,_,Xu,?_⟩;exact q _
end
section
variable {μ μ1 μ2:aK}{K:T->aK->Prop}{Z:Xp}{v ah:Int}{w cm gr g d bk:Nat}{us:List Hr}{ps:List Gp}
theorem N8{ns:List Int}{C y v u t s r p o i h e c b a:Option T}(D:ns.length<=63)(V:V5 μ w cm gr g d ah us ps)(A:μ[bk]?=aA (.lst gQ))(E:bk≠g)(q:∀j,K (.bl aB) j) :
  qe (qA.drop 15) [aA (.lst (ns.map T.int)),C,y,v,u,t,s,r,p,o,aA (.mut w),aA (.mut bk),i,h,e,c,b,a] μ (En.fn K Z):=by
 refine kY (by decide) λf=>?_;have cl:(Qg (ns.map T.int) (aA 2) (aA 30)).length<=63:=by
  unfold Qg;rw[mH,tc,cJ];omega
 refine⟨by show 1+(Qg (ns.map T.int) (aA 2) (aA 30)).length<=aQ;unfold aQ;omega,?_⟩;refine vM (λn l j=>∃k i h e c b a,l=[aA (.lst (ns.map T.int)),k,y,v,u,t,s,r,p,o,aA (.mut w),aA (.mut bk),i,h,e,c,b,a]/\Ch [] μ j) ⟨_,_,_,_,_,_,_,rfl,Ch.refl⟩ ?_ ?_
 ·rintro n x l j z ⟨k,i,h,e,c,b,a,rfl,ch⟩ N F;obtain⟨m,rfl⟩:∃m,x=.int m:=by
   cases n with
   |zero=>cases z;exact⟨f,rfl⟩
   |succ n=>exact RH z
  refine⟨_,rfl,?_⟩;exact Nf (V.ch ch) (ch.get A (by simp)) λk h e c b a B G=>F _ _ ⟨_,_,_,_,_,_,_,rfl,ch.trans G⟩
 ·rintro l j ⟨k,i,h,e,c,b,a,rfl,ch⟩;exact MG (V.ch ch) (ch.get A (by simp)) E q
theorem U7 {u:Hr}(W:bX μ w cm gr g d 300 3 8 ah 2 .non us [] []) (i:us[0]?=aA u) (nd:(us.map (·.ho)).Nodup) (H:dY 300 3 8 u) (eh:u.ho=("one":aG)) (o:u.st=0) (k:u.ts=[]) (f:μ[0]?=aA (.tab 0))
  (q:∀j v a,bX j w cm gr g d 300 3 8 ah 2 (.int 10) (us.set 0 v) [] [(a,⟨"one",1,10,210,210,aC⟩)]->dY 300 3 8 v->oO v u->v.l=aA (1,10,210)->v.m=u.m->v.n=u.n->Ch [gr,u.h,u.s,w,g] μ j->K (.lst []) j) :
  zr [.mut w,.tup [.str "lease",.int 10,.str "one",.int 1,.int 200]] μ K Z:=by
 have er:u.rd 10=10:=by show yM u.st u.ts 10=10;rw[o,k];rfl
 have key:zr [.mut w,BR "lease" 10 u.ho (.int 1) 200] μ K Z:=by
  refine Rb (b:=10) rfl W i nd H (.inl rfl) f (by decide) (by decide) (by decide) (by decide) (by rw[er];decide) (by rw[er];exact⟨by decide,by simp,λx t r=>by lia⟩) (by decide) (by decide) λj v a c p e ec el em en ch=>?_;rw[eh] at c;exact q j v a c p e el em en ch
 rw[eh] at key;exact key
theorem M7 {ns:List Int}{f c:Hr}{s1 s2 s3 Y X U S R Q:Option T}(C:ns.length<=63) (h0:0<=ah) (W:bX μ w cm gr g d 300 3 8 ah 2 .non [f,c] [] []) (ea:f.ho=("one":aG)) (H:f.st=0) (G:f.ts=[]) (eb:c.ho=("ones":aG)) (l1:f.l=aE) (n1:f.n=aE) (M:f.m=aE) (l2:c.l=aE) (n2:c.n=aE) (hgr:0<gr) (hh:0<f.h) (hs:0<f.s) (hw:0<w) (hg:0<g) (N:μ[0]?=aA (.tab 0)) (q:∀z,K (.bl aB) z) :
  qe (qA.drop 12) [aA (.lst (ns.map T.int)),s1,s2,s3,Y,X,U,S,R,Q,aA (.mut w),aE,aE,aE,aE,aE,aE,aE] μ (En.fn K Z):=by
 have nd:([f,c].map (·.ho)).Nodup:=by show [f.ho,c.ho].Nodup;rw[ea,eb];decide +kernel
 have Ha:dY 300 3 8 f:=⟨by rw[ea];decide,by rw[ea];decide +kernel,(λa e=>by rw[l1] at e;cases e),(λk e=>by rw[n1] at e;cases e)⟩;have Hb:dY 300 3 8 c:=⟨by rw[eb];decide,by rw[eb];decide +kernel,(λa e=>by rw[l2] at e;cases e),(λk e=>by rw[n2] at e;cases e)⟩;refine⟨_,W.wo,?_⟩;refine U7 W rfl nd Ha ea H G N λr v a y Hv i el em en J=>?_;have y:bX r w cm gr g d 300 3 8 ah 2 (.int 10) [v,c] [] [(a,⟨"one",1,10,210,210,aC⟩)]:=y;have A:([v,c].map (·.ho)).Nodup:=by show [v.ho,c.ho].Nodup;rw[i.ho];exact nd
 have P:r[0]?=aA (.tab 0):=J.get N (by simp;omega);refine⟨_,y.wo,?_⟩;refine Xc (b:=160) (L:=[488,489]) h0 y rfl A Hv (i.ho.trans ea) (i.st.trans H) (i.ts.trans G) el (.inr ⟨10,rfl,by decide⟩) (by decide) (by decide) (by decide) (by rw[en,em,n1,M];decide) (by decide) (by decide) λp t j x H2 o F E D I gj=>?_;have x:bX p w cm gr g d 300 3 8 ah 2 (.int 20) [t,c] gQ [(a,⟨"one",1,10,210,210,aC⟩)]:=x;have O:p[0]?=aA (.tab 0):=I.get P (by rw[i.h,i.s];simp;omega);refine⟨.inr ⟨by decide,by decide⟩,.inr ⟨by decide,by decide⟩,.inr ⟨by decide,by decide⟩,.inr ⟨by decide,by decide⟩,?_⟩;refine⟨_,gj,by decide,_,(by simp[cK,eqT]:cK [T.int 488,T.int 489] [T.int 488,T.int 489]=aA aB),?_⟩;have V:V5 p w cm gr g d ah [t,c] [(a,⟨"one",1,10,210,210,aC⟩)]:=⟨x,⟨t,rfl,(o.ho.trans i.ho).trans ea,(o.st.trans i.st).trans H,(o.ts.trans i.ts).trans G,F,by rw[D];decide,by rw[E,em,M];decide⟩,⟨c,rfl,eb⟩,by show [t.ho,c.ho]=_;rw[o.ho,i.ho,ea,eb],(λu B=>by
  rcases cA.mp B with rfl|B
  ·exact H2
  ·rw[bT.mp B];exact Hb),⟨a,rfl⟩,O,h0⟩
 refine⟨_,V.W.wo,?_⟩;refine Bq V ?_;have gl:=(bI.mp x.gv).1;exact N8 C (V.ch Ch.app) za (by omega) q
end
end NH.P
section
namespace NH.P
open PySem L2 NH
variable {μ μ1 μ2:aK}{K:T->aK->Prop}{Z:Xp}{ah st2:Int}{dc c1 c2:Nat}{od a b:T}
noncomputable abbrev me(c1 c2:Nat)(st2:Int):List Kd:=[⟨"one",c1,0,[]⟩,⟨"ones",c2,st2,[(5,0,aC)]⟩]
structure B5(μ:aK)(dc c1 c2:Nat)(st2:Int)(od:T):Prop where
 t0:μ[0]?=aA (.tab 0)
 t1:μ[1]?=aA (.tab 1)
 hd:qc μ dc ((me c1 c2 st2).map zK)
 k1:μ[c1]?=aA (gG 0 [])
 k2:μ[c2]?=aA (gG st2 [(5,0,aC)])
 od:c8 μ od
theorem B5.kd(B:B5 μ dc c1 c2 st2 od):∀k∈me c1 c2 st2,dX μ k:=λk hk=>by
 simp only[cA,fN,or_false] at hk;rcases hk with rfl|rfl
 ·exact⟨by show ("one":aG).length<=aQ;decide,by show zP ("one":aG)=aB;decide +kernel,B.k1⟩
 ·exact⟨by show ("ones":aG).length<=aQ;decide,by show zP ("ones":aG)=aB;decide +kernel,B.k2⟩
theorem HH:((me c1 c2 st2).map (·.ho)).Nodup:=by show [("one":aG),("ones":aG)].Nodup;decide +kernel
theorem c8.ch(h:c8 μ od)(ch:Ch L μ g)(n:∀i d,qc μ i d->d.length<=1->i∉L):c8 g od:=by
 cases h with
 |non=>exact .non
 |lst xs=>exact .lst xs
 |nil i h=>exact .nil i (ch.get h (n i [] (.inl h) (by simp)))
 |key i k v h m=>exact .key i k v (Z9 h ch (n i _ h (by simp))) m
 |val i z h h1 h2=>exact .val i z (Z9 h ch (n i _ h (by simp))) h1 h2
theorem Xm(h1:qc μ i d)(h2:qc μ i kvs'):d=kvs':=by
 rcases h1 with h1|⟨e,h1⟩<;>rcases h2 with h2|⟨a,h2⟩<;>(rw[h1] at h2;cases h2)
 ·rfl
 ·rfl
theorem B5.get(B:B5 μ dc c1 c2 st2 od)(ch:Ch L μ d)(n:∀j∈L,∃g,qc μ j g)(hd:qc d dc ((me c1 c2 st2).map zK))(ho:c8 d od):B5 d dc c1 c2 st2 od:=by
 have a:∀{j:Nat}{o:MO},μ[j]?=aA o->(∀l,o≠.dic l)->(∀e l,o≠.frd e l)->j∉L:=λ{j o} h n1 n2 b=>by
  obtain⟨g,hd⟩:=n j b;exact j7 hd h n1 n2 rfl
 exact⟨ch.get B.t0 (a B.t0 (λ_ e=>by cases e) (λ_ _ e=>by cases e)),ch.get B.t1 (a B.t1 (λ_ e=>by cases e) (λ_ _ e=>by cases e)),hd,ch.get B.k1 (a B.k1 (λ_ e=>by cases e) (λ_ _ e=>by cases e)),ch.get B.k2 (a B.k2 (λ_ e=>by cases e) (λ_ _ e=>by cases e)),ho⟩
theorem B5.ch0(B:B5 μ dc c1 c2 st2 od)(ch:Ch [] μ d):B5 d dc c1 c2 st2 od:=B.get ch (by simp) (Z9 B.hd ch (by simp)) (B.od.ch ch (by simp))
theorem B5.wk(B:B5 μ dc c1 c2 st2 od)(wk:rZ L μ d)(o:c8 d od):B5 d dc c1 c2 st2 od:=B.get wk.1 (λj a=>(wk.2 j a).imp λ_ h=>h.1) (Z9 B.hd wk.1 λa=>by
 obtain⟨c,h,b⟩:=wk.2 dc a;rw[←Xm B.hd h] at b;simp at b) o
theorem B5.tm(B:B5 μ dc c1 c2 st2 od)(ch:Ch [dc] μ d)(g:d[dc]?=aA (.frd ep ((me c1 c2 st2).map zK))):B5 d dc c1 c2 st2 od:=B.get ch (λj c=>⟨(me c1 c2 st2).map zK,by rw[bT.mp c];exact B.hd⟩) (.inr ⟨ep,g⟩) (B.od.ch ch λi b h a e=>by
 rw[bT.mp e] at h;rw[←Xm B.hd h] at a;simp at a)
theorem Hu (B:B5 μ dc c1 c2 st2 od) (q:∀d,B5 d dc c1 c2 st2 od->μ.length<=d.length->K (.str "holder") d):wu [bG 300 3 8,a,b,od] μ K Z:=by
 refine Hw (P:=λd=>B5 d dc c1 c2 st2 od/\μ.length<=d.length) .holder (λ{g f} h=>R0 B.od λd L wk o=>h d ⟨B.wk wk o,wk.1.len⟩) λd c e ch=>?_;exact q c (e.1.ch0 ch) (cU e.2 ch.len)
theorem GZ (B:B5 μ dc c1 c2 st2 od) (f:oa a b) (q:∀d,B5 d dc c1 c2 st2 od->μ.length<=d.length->K (.str "time") d):wu [bG 300 3 8,a,b,.mut dc] μ K Z:=by
 refine Hw (P:=λd=>B5 d dc c1 c2 st2 od/\μ.length<=d.length) .time (λ{j i} h=>Ys B.hd (by show 2<=1000;decide) B.kd HH B.t1 f λd ep ch g=>h d ⟨B.tm ch g,ch.len⟩) λd c e ch=>?_;exact q c (e.1.ch0 ch) (cU e.2 ch.len)
theorem Nr:cK [T.str "holder",.str "holder",.str "time",.str "time"] [T.str "holder",.str "holder",.str "time",.str "time"]=aA aB:=by simp[cK,eqT]
theorem bX.frd{x y z i:Int}{w cm gr g d ep:Nat}{c:T}{us:List Hr}{k:List T}{ps:List Gp}{h:List (Key×T)}{o:MO}(W:bX μ w cm gr g d x y z ah i c us k ps)(hd:μ[dc]?=aA (.frd ep h)):bX (μ.set dc o) w cm gr g d x y z ah i c us k ps:=by
 have b:∀{j:Nat}{a:MO},μ[j]?=aA a->(∀e l,a≠.frd e l)->j∉[dc]:=λ{j a} e n=>by simpa using zX e hd (n _ _)
 have ch:Ch [dc] μ (μ.set dc o):=Ch.set;have out:∀{j:Nat}{a:MO},μ[j]?=aA a->(∀e l,a≠.frd e l)->(μ.set dc o)[j]?=aA a:=λ{j a} e n=>ch.get e (b e n);exact⟨out W.wo (λ_ _ e=>by cases e),W.bk.ch ch (b W.bk.com (λ_ _ e=>by cases e)) (b W.bk.lst (λ_ _ e=>by cases e)) (λp m=>b (W.bk.at_ p m) (λ_ _ e=>by cases e)),out W.gv (λ_ _ e=>by cases e),out W.dc (λ_ _ e=>by cases e),λu f=>out (W.se u f) (λ_ _ e=>by cases e),λu f=>out (W.cl u f) (λ_ _ e=>by cases e),λu f=>out (W.hs u f) (λ_ _ e=>by cases e),W.n1,W.n2,W.gg⟩
theorem SN{ns:List Int}{p:T}{C A z:Option T}(k:ns.length<=63)(h0:0<=ah)(hw:fG p)(B:B5 μ dc c1 c2 st2 od)(N:1<μ.length)(q:∀r,K (.bl aB) r) :
  qe (qA.drop 8) [aA (.lst (ns.map T.int)),C,aA (bG 300 3 8),aA (.mut dc),aA (.int ah),A,z,aA p,aA od,aE,aE,aE,aE,aE,aE,aE,aE,aE] μ (En.fn K Z):=by
 refine Hu B λx B1 M=>?_;refine Hu B1 λw B2 L=>?_;refine GZ B2 (.inl hw) λv G J=>?_;refine GZ G (.inr ⟨⟨ah,h0,rfl⟩,hw⟩) λj c I=>?_;refine⟨by show 4<=aQ;decide,by decide,_,Nr,?_⟩;refine Nj c.hd (by simp) (by show 2<=1000;decide) c.kd HH c.t1 h0 (by decide) λi ep s cm gr g d W cd t D O ch gd=>?_;refine⟨rfl,?_⟩;refine⟨⟨_,.inr ⟨ep,gd⟩⟩,?_⟩;have H:1<j.length:=by omega
 have y:i[0]?=aA (.tab 0):=ch.get c.t0 (by simpa using j7 c.hd c.t0 (λ_ e=>by cases e) (λ_ _ e=>by cases e));obtain⟨b,a,rfl,ea,eb⟩:∃b a,s=[b,a]/\b.cd=(("one":aG),(0:Int),([]:List Tn))/\a.cd=(("ones":aG),st2,[((5:Int),(0:Int),aC)]):=by
  match s,cd with
  |[b,a],cd=>
   have cd:[b.cd,a.cd]=[(("one":aG),(0:Int),([]:List Tn)),(("ones":aG),st2,[((5:Int),(0:Int),aC)])]:=cd
   injection cd with E l
   injection l with l
   exact⟨b,a,rfl,E,l⟩
  |[],cd=>exact absurd (congrArg ll cd) (by simp)
  |[_],cd=>exact absurd (congrArg ll cd) (by simp)
  |_::_::_::_,cd=>exact absurd (congrArg ll cd) (by simp)
 have h:=t b (by simp);have u:=t a (by simp);have ea:(b.ho,b.st,b.ts)=(("one":aG),(0:Int),([]:List Tn)):=ea;have eb:(a.ho,a.st,a.ts)=(("ones":aG),st2,[((5:Int),(0:Int),aC)]):=eb;injection ea with o f;injection f with f n;injection eb with m F;have dl:dc≠0:=b_ (j7 c.hd c.t0 (λ_ e=>by cases e) (λ_ _ e=>by cases e));exact M7 k h0 (W.frd gd) o f n m h.1 h.2.1.1 h.2.1.2 u.1 u.2.1.1 (by omega) (by have:=h.2.2.1;omega) (by have:=h.2.2.2;omega) (by omega) (by omega) (by rw[bW dl];exact y) q
theorem Ms{ns:List Int}(v:ns.length<=63)(t0:μ[0]?=aA (.tab 0))(t1:μ[1]?=aA (.tab 1))(st:St μ 2)(hd:μ[dc]?=aA (.dic ((me c1 c2 st2).map zK)))(k1:μ[c1]?=aA (gG 0 []))(k2:μ[c2]?=aA (gG st2 [(5,0,aC)]))(q:∀w,K (.bl aB) w) :
  qe (qA.drop 3) [aA (.lst (ns.map T.int)),aA (.mut 2),aA (bG 300 3 8),aA (.mut dc),aE,aE,aE,aE,aE,aE,aE,aE,aE,aE,aE,aE,aE,aE] μ (En.fn K Z):=by
 have y:∀{j:Nat}{o:MO},μ[j]?=aA o->(∀l,o≠.lst l)->j≠2:=λ{j o} h n=>by
  obtain⟨_,_,_,i⟩:=st;exact zX h i (n _)
 refine zD st (by decide) (by decide) λE d V b1 u=>?_;have P:∀{j:Nat}{o:MO},μ[j]?=aA o->(∀l,o≠.lst l)->d[j]?=aA o:=λ{j o} h n=>(u.ot j (y h n)).trans h;have l2:2<d.length:=by
  obtain⟨_,_,_,i⟩:=u.st;exact (bI.mp i).1
 refine vo (ts:=[]) (by simp[Ui]) (by decide) ?_;refine⟨rfl,?_⟩;refine⟨by simp,by simp,by simp,by simp,?_⟩
 suffices H:∀(M:aK) (s r p m k:Nat),Ch [] d M->d.length<=s->d.length<=r->d.length<=p->d.length<=m->d.length<=k->M[s]?=aA (.dic [])->M[r]?=aA (.dic [(.inr "",.mut d.length)])->M[p]?=aA (.dic [(.inr "one",.non)])->M[m]?=aA (.dic [(.inr "One",.mut d.length)])->M[k]?=aA (.dic [(.inl 5,.mut d.length)])->
   qe (qA.drop 6) [aA (.lst (ns.map T.int)),aA (.mut 2),aA (bG 300 3 8),aA (.mut dc),aA (.int E),aA (.mut d.length),aA (.lst [.mut s,.non,.mut r,.mut p,.lst [.tup [.str "one",.mut d.length]],.mut m,.mut k]),aE,aE,aE,aE,aE,aE,aE,aE,aE,aE,aE] M (En.fn K Z) from
  H _ _ _ _ _ _ (((((Ch.app.trans Ch.app).trans Ch.app).trans Ch.app).trans Ch.app).trans Ch.app) (by simp) (by simp) (by simp) (by simp) (by simp) (z5 (z5 (z5 (z5 za)))) (z5 (z5 (z5 za))) (z5 (z5 za)) (z5 za) za
 intro M s r p m k ch q1 q2 q3 q4 Y O i N L J;have F:St M 2:=by
  obtain⟨a,b,c,h⟩:=u.st;exact⟨a,b,c,ch.get h (by simp)⟩
 refine zD F (by decide) (by decide) λX C U R t=>?_;obtain⟨D,A,ew⟩:=vC (l:=[T.int (-1),.bl aB,.non,.str "1"]) U R;refine⟨_,ew,?_⟩;have hw:fG D:=by
  simp only[cA,fN,or_false] at A;rcases A with rfl|rfl|rfl|rfl
  ·exact .neg
  ·exact .bl
  ·exact .non
  ·exact .str
 refine zD t.st (by decide) (by decide) λW f S Q x=>?_;have g:∀{j:Nat}{o:MO},M[j]?=aA o->j≠2->f[j]?=aA o:=λ{j o} h n=>((x.ot j n).trans (t.ot j n)).trans h;have gg:∀{j:Nat}{o:MO},μ[j]?=aA o->(∀l,o≠.lst l)->f[j]?=aA o:=λ{j o} h n=>g (ch.get (P h n) (by simp)) (y h n);obtain⟨G,B,eo⟩:=vC (l:=[.mut s,.non,.mut r,.mut p,.lst [.tup [.str "one",.mut d.length]],.mut m,.mut k]) S Q;refine⟨_,eo,?_⟩;have I:c8 f G:=by
  simp only[cA,fN,or_false] at B;rcases B with rfl|rfl|rfl|rfl|rfl|rfl|rfl
  ·exact .nil _ (g O (by omega))
  ·exact .non
  ·exact .key _ _ _ (.inl (g i (by omega))) λz e=>by cases e;exact⟨by decide,by decide⟩
  ·exact .val _ _ (.inl (g N (by omega))) (by decide) (by decide +kernel)
  ·exact .lst _
  ·exact .key _ _ _ (.inl (g L (by omega))) λz e=>by cases e;exact⟨by decide,by decide +kernel⟩
  ·exact .key _ _ _ (.inl (g J (by omega))) λz e=>by cases e
 refine SN v V hw ⟨gg t0 (λ_ e=>by cases e),gg t1 (λ_ e=>by cases e),.inl (gg hd (λ_ e=>by cases e)),gg k1 (λ_ e=>by cases e),gg k2 (λ_ e=>by cases e),I⟩ ?_ q;rw[x.len,t.len];have:=ch.len;omega
theorem Pw:WT y9:=by
 intro s l;unfold y9;refine⟨rfl,?_⟩;refine kY (by decide) λt=>?_;refine QL λf e=>?_;have q:St ([MO.tab 0,MO.tab 1]++[.lst [.int f,.int e,.int 0]]) 2:=⟨f,e,0,rfl⟩;refine⟨rfl,?_⟩;refine Qw (by decide) (by decide) (by decide) ?_;refine⟨rfl,_,rfl,rfl,?_⟩;refine vo (ts:=[]) (by simp[Ui]) (by decide) ?_;refine⟨rfl,?_⟩;have k:St ([MO.tab 0,MO.tab 1]++[.lst [.int f,.int e,.int 0]]++[gG 0 []]) 2:=⟨f,e,0,rfl⟩;refine zD k (by decide) (by decide) λr d v u g=>?_;refine vo (ts:=[(5,0,aC)]) (by simp[Ui]) (by decide) ?_;refine⟨rfl,?_⟩;refine⟨by show [(.inr "one":Key),.inr "ones"].Nodup;decide +kernel,?_⟩;have len:d.length=4:=g.len;have m:∀{j:Nat}{o:MO},([MO.tab 0,MO.tab 1]++[.lst [.int f,.int e,.int 0]]++[gG 0 []])[j]?=aA o->j≠2->d[j]?=aA o:=λ{j o} h n=>(g.ot j n).trans h;have i:∀{o p:MO},St (d++[o]++[p]) 2:=λ{o p}=>by
  obtain⟨a,b,c,h⟩:=g.st;exact⟨a,b,c,z5 (z5 h)⟩
 exact Ms (c1:=3) (c2:=d.length) l (z5 (z5 (m rfl (by decide)))) (z5 (z5 (m rfl (by decide)))) i za (z5 (z5 (m rfl (by decide)))) (z5 za) λ_=>rfl
end NH.P
namespace NH.K51
open PySem L2 NH NH.P
theorem oB:WT y9:=Pw
end NH.K51
end
namespace NH.K51
open PySem PySem.Spec PyProof.Rows L2 NH NH.P PySem.W
theorem EV{P:List aD->Prop}(h:∀a0,P [a0]):∀us:List aD,us.length=1->P us:=PL.all (n:=1) h
theorem oy{P:List aD->Prop}(h:∀a0 d,P [a0,d]):∀us:List aD,us.length=2->P us:=PL.all (n:=2) h
theorem Bf{P:List aD->Prop}(h:∀a0 g d,P [a0,g,d]):∀us:List aD,us.length=3->P us:=PL.all (n:=3) h
theorem Li{P:List aD->Prop}(h:∀a0 r j g d,P [a0,r,j,g,d]):∀us:List aD,us.length=5->P us:=PL.all (n:=5) h
theorem LC{P:List aD->Prop}(h:∀a0 s r j g d,P [a0,s,r,j,g,d]):∀us:List aD,us.length=6->P us:=PL.all (n:=6) h
theorem LX{P:List aD->Prop}(h:∀a0,P [a0]):∀us:List aD,us.length+1=2->P us:=λus e=>EV h us (pu e)
theorem Gx{P:List aD->Prop}(h:∀a0 d,P [a0,d]):∀us:List aD,us.length+1=3->P us:=λus e=>oy h us (pu e)
theorem MK{P:List aD->Prop}(h:∀a0 r j g d,P [a0,r,j,g,d]):∀us:List aD,us.length+1=6->P us:=λus e=>Li h us (pu e)
theorem all_mk {l:my}{w:dL}{K:Frag}{h:aV}{mg:aG->Option aD}{fa C0 C1 C2 C3 C4 C5 C6 C7 C8 R W V U T p P0 cA0 P1 cA1 f0 N0 f1 N1 CC6 r Q f30 o O q A a H z E y D u C Y S g f84:aF}{od0 an0 dd0 od1 an1 dd1 od30 an30 od45 an45 te45 od55 an55 te55 od56 an56 te56 od57 an57 te57 od68 an68 od84 an84:Option aF}{sl0 sl1 sl30 sl45 ts45 sl55 ts55 sl56 ts56 sl57 ts57 sl68 sl84:Array (Option aD)}{oc0 kV0 dc0 pm0 cd0 ct0 oc1 kV1 dc1 pm1 cd1 ct1 oc30 kV30 dc30 pm30 ct30 oc45 kV45 dc45 pm45 M ct45 td45 oc55 kV55 dc55 pm55 L ct55 td55 oc56 kV56 dc56 pm56 J ct56 td56 oc57 kV57 dc57 pm57 I ct57 td57 oc68 kV68 dc68 pm68 ct68 oc84 kV84 dc84 pm84 cd84 ct84:aD}{nm0 qn0 hZ qn1:aG}{bs0 sb0 bs1 sb1:List aD}{hd0 ab0 hd1 ab1:Bool}{sn0 sn1:List aG}{co0 co1:Option Bool}{ka0 kb0 kc0 kd0 ke0 ka1 kb1 kc1 kd1 ke1:Option aD}{tk13 tk14 tk15 tk20 tk21 tk22 tk25 tk26 tz55 tz56 tz57 ka58_0 kb58_0 ka58_1 kb58_1 ka58_2 kb58_2 ka58_3 kb58_3 ka58_4 kb58_4 ka58_5 kb58_5 ka58_6 kb58_6 tk59 tk60 tk61 tk62 tk63 tk64:Tok}{tn45 tn55 tn56 tn57 ep58:Nat}(X:K.In h) (G:h.Ns bO mg) (hfa:mg "law"=aA (.ref fa))
  (e0:nsIn K bO "HouseError"=aA (aA (.ref C0)))
  (e1:nsIn K bO "NoShape"=aA (aA (.ref C1)))
  (e2:nsIn K bO "NoName"=aA (aA (.ref C2)))
  (e3:nsIn K bO "NoClock"=aA (aA (.ref C3)))
  (e4:nsIn K bO "NoTime"=aA (aA (.ref C4)))
  (e5:nsIn K bO "NoHolder"=aA (aA (.ref C5)))
  (e6:nsIn K bO "NoLease"=aA (aA (.ref C6)))
  (e7:nsIn K bO "Ended"=aA (aA (.ref C7)))
  (e8:nsIn K bO "TooMany"=aA (aA (.ref C8)))
  (e9:nsIn K bO "Wait"=aA (aA (.ref R)))
  (e10:nsIn K bO "Empty"=aA (aA (.ref W)))
  (e11:nsIn K bO "NoNote"=aA (aA (.ref V)))
  (e12:nsIn K bO "Fallen"=aA (aA (.ref U)))
  (e13:nsIn K bO "NoRow"=aA (aA (.ref T)))
  (e14:nsIn K bO "Backward"=aA (aA (.ref p)))
  (xa0:K.lookup R=aA (im nm0 qn0 R N0 bs0 (.ref C0::zZ) hd0 sn0 sb0 ab0 co0 dd0 ka0 kb0 kc0 kd0 ke0 "ValueError.__new__"))
  (xb0:o7 K N0=aB)
  (xc0:nsIn K N0 "__init__"=aA (aA (.ref f0)))
  (xd0:o9 K (.ref f0)=aA (.type "function"))
  (xe0:cO K (.ref R) "__setattr__"=aA (aA (.builtin "object.__setattr__")))
  (xf0:cO K (.ref R) "by"=aA aE)
  (xg0:lr K R=aB)
  (xh0:eJ K (.ref R)=aB)
  (ha0:lX K (.ref C0) "__getattribute__"=aA (aA (.builtin "type.__getattribute__")))
  (ha1:sC K C0 (.type "type")=aB)
  (ha2:sB K (.ref C0) (.type "type") "__init__"=aA (.val (.builtin "ValueError.__init__")))
  (l0:K.lookup f0=aA ⟨oc0,od0,.func (fnOf "__init__" "Wait.__init__" (zw vr) (z0 vr) (zj vr) .none kV0 dc0 pm0 an0 cd0 ct0),sl0⟩)
  (c0:eT K cd0 "Wait.__init__"=aB)
  (k0:eJ K (.ref f0)=aB)
  (xa1:K.lookup p=aA (im hZ qn1 p N1 bs1 (.ref C0::zZ) hd1 sn1 sb1 ab1 co1 dd1 ka1 kb1 kc1 kd1 ke1 "ValueError.__new__"))
  (xb1:o7 K N1=aB)
  (xc1:nsIn K N1 "__init__"=aA (aA (.ref f1)))
  (xd1:o9 K (.ref f1)=aA (.type "function"))
  (xe1:cO K (.ref p) "__setattr__"=aA (aA (.builtin "object.__setattr__")))
  (xf1:cO K (.ref p) "now"=aA aE)
  (xg1:lr K p=aB)
  (xh1:eJ K (.ref p)=aB)
  (l1:K.lookup f1=aA ⟨oc1,od1,.func (fnOf "__init__" "Backward.__init__" (zw w4) (z0 w4) (zj w4) .none kV1 dc1 pm1 an1 cd1 ct1),sl1⟩)
  (c1:eT K cd1 "Backward.__init__"=aB)
  (k1:eJ K (.ref f1)=aB)
  (p2:qH K "is_whole" Z_)
  (p3:qH K "is_size" QD)
  (p4:qH K "is_from_nought" vK)
  (p5:qH K "is_below" Q4)
  (p6:V7 K CC6 "Shape" "Shape.__init__" yd)
  (p7:qH K "names_in" Zo)
  (p8:qH K "is_name" QN)
  (p9:qH K "check_name" xa)
  (p10:qH K "check_part" xl)
  (p11:qH K "name_of" QZ)
  (p12:qH K "parts_of" Zp)
  (v13:nsIn K bO "TIME_clocks"=aA (aA (.int 0 tk13)))
  (v14:nsIn K bO "READING"=aA (aA (.int 1 tk14)))
  (v15:nsIn K bO "RUNS"=aA (aA (.int 2 tk15)))
  (p16:qH K "is_turn" QB)
  (p17:qH K "are_turns" yK)
  (p18:V7 K r "Clock" "Clock.__init__" xH)
  (p19:vk K r "reading" "Clock.reading" jn)
  (v20:nsIn K bO "HOUSE_leases"=aA (aA (.int 0 tk20)))
  (v21:nsIn K bO "FIRST"=aA (aA (.int 1 tk21)))
  (v22:nsIn K bO "UNTIL"=aA (aA (.int 2 tk22)))
  (p23:qH K "is_lease" ZI)
  (p24:qH K "check_lease" ke)
  (v25:nsIn K bO "LETTERS"=aA (aA (.str "abcdefghijklmnopqrstuvwxyz" tk25)))
  (v26:nsIn K bO "LONGEST_HOLDER"=aA (aA (.int 8 tk26)))
  (p27:qH K "is_holder" yL)
  (p28:V7 K Q "Grant" "Grant.__init__" xU)
  (p29:qH K "meets" Xo)
  (a30:nsIn K bO "least_begin"=aA (aA (.ref f30)))
  (l30:K.lookup f30=aA ⟨oc30,od30,.func (fnOf "least_begin" "least_begin" (zw qX) (z0 qX) (zj qX) .none kV30 dc30 pm30 an30 (.ref cA0) ct30),sl30⟩)
  (c30:eT K (.ref cA0) "least_begin"=aB)
  (zt0:ng K cA0 P0=aB)
  (zk0:K.lookup P0=aE)
  (zs0:P0≠nr)
  (k30:eJ K (.ref f30)=aB)
  (p31:qH K "least_house" kf)
  (p32:V7 K o "Common" "Common.__init__" kc)
  (p33:vk K o "check_let" "Common.check_let" wX)
  (p34:vk K o "grants_of" "Common.grants_of" vn)
  (p35:vk K o "free_lease" "Common.free_lease" wV)
  (p36:vk K o "let" "Common.let" xC)
  (p37:vk K o "leases" "Common.leases" vq)
  (p38:V7 K O "Batch" "Batch.__init__" xA)
  (p39:qH K "name_at" Wc)
  (p40:qH K "names_of_batch" vb)
  (p41:qH K "place_above" kh)
  (p42:V7 K q "Seat" "Seat.__init__" yX)
  (p43:vk K q "jot" "Seat.jot" ZE)
  (q45:nsIn K bO "House"=aA (aA (.ref a)))
  (i45:cO K (.ref a) "__init__"=aA (aA (.ref A)))
  (j45:isFn K (.ref A)=aB)
  (l45:K.lookup A=aA ⟨oc45,od45,.func (fnOf "__init__" "House.__init__" (zw zB) (z0 zB) (zj zB) (.ref H) kV45 dc45 pm45 an45 M ct45),sl45⟩)
  (d45:K.lookup H=aA ⟨td45,te45,.seq #[.none] tn45,ts45⟩)
  (c45:eT K M "House.__init__"=aB)
  (k45:eJ K (.ref A)=aB)
  (mk45:nc K a=aB)
  (kk45:eJ K (.ref a)=aB)
  (p46:vk K a "check_up" "House.check_up" vV)
  (p47:vk K a "note" "House.note" xk)
  (p48:vk K a "keep" "House.keep" jK)
  (p49:vk K a "take_lease" "House.take_lease" wO)
  (p50:vk K a "check_has_lease" "House.check_has_lease" wg)
  (p51:vk K a "free_place" "House.free_place" vd)
  (p52:vk K a "next_batch" "House.next_batch" vm)
  (p53:vk K a "mark_behind" "House.mark_behind" wU)
  (p54:vk K a "hand_out" "House.hand_out" va)
  (i55:cO K (.ref a) "ask"=aA (aA (.ref z)))
  (j55:isFn K (.ref z)=aB)
  (l55:K.lookup z=aA ⟨oc55,od55,.func (fnOf "ask" "House.ask" (zw zH) (z0 zH) (zj zH) (.ref E) kV55 dc55 pm55 an55 L ct55),sl55⟩)
  (d55:K.lookup E=aA ⟨td55,te55,.seq #[.int 1 tz55] tn55,ts55⟩)
  (c55:eT K L "House.ask"=aB)
  (k55:eJ K (.ref z)=aB)
  (i56:cO K (.ref a) "store"=aA (aA (.ref y)))
  (j56:isFn K (.ref y)=aB)
  (l56:K.lookup y=aA ⟨oc56,od56,.func (fnOf "store" "House.store" (zw zu) (z0 zu) (zj zu) (.ref D) kV56 dc56 pm56 an56 J ct56),sl56⟩)
  (d56:K.lookup D=aA ⟨td56,te56,.seq #[.int 1 tz56] tn56,ts56⟩)
  (c56:eT K J "House.store"=aB)
  (k56:eJ K (.ref y)=aB)
  (i57:cO K (.ref a) "take"=aA (aA (.ref u)))
  (j57:isFn K (.ref u)=aB)
  (l57:K.lookup u=aA ⟨oc57,od57,.func (fnOf "take" "House.take" (zw zC) (z0 zC) (zj zC) (.ref C) kV57 dc57 pm57 an57 I ct57),sl57⟩)
  (d57:K.lookup C=aA ⟨td57,te57,.seq #[.int 1 tz57] tn57,ts57⟩)
  (c57:eT K I "House.take"=aB)
  (k57:eJ K (.ref u)=aB)
  (v58:nsIn K bO "LENGTHS"=aA (aA (.ref Y)))
  (w58:K.lookup Y=aA {cls:=.type "dict",data:=.dict #[⟨iV w "lease",.str "lease" ka58_0,.int 5 kb58_0⟩,⟨iV w "ask",.str "ask" ka58_1,.int 4 kb58_1⟩,⟨iV w "store",.str "store" ka58_2,.int 4 kb58_2⟩,⟨iV w "take",.str "take" ka58_3,.int 4 kb58_3⟩,⟨iV w "back",.str "back" ka58_4,.int 3 kb58_4⟩,⟨iV w "fall",.str "fall" ka58_5,.int 3 kb58_5⟩,⟨iV w "bare",.str "bare" ka58_6,.int 3 kb58_6⟩] ep58})
  (y58:(Y==gT)=aC)
  (v59:nsIn K bO "WORD"=aA (aA (.int 0 tk59)))
  (v60:nsIn K bO "TIME_rows"=aA (aA (.int 1 tk60)))
  (v61:nsIn K bO "HOLDER"=aA (aA (.int 2 tk61)))
  (v62:nsIn K bO "HOUSE_rows"=aA (aA (.int 3 tk62)))
  (v63:nsIn K bO "SPAN"=aA (aA (.int 4 tk63)))
  (v64:nsIn K bO "MANY"=aA (aA (.int 3 tk64)))
  (p65:qH K "has_form" Zl)
  (p66:qH K "is_row" VV)
  (p67:qH K "are_clocks" kZ)
  (i68:cO K (.ref g) "come_up"=aA (aA (.ref S)))
  (j68:isFn K (.ref S)=aB)
  (l68:K.lookup S=aA ⟨oc68,od68,.func (fnOf "come_up" "World.come_up" (zw qh) (z0 qh) (zj qh) .none kV68 dc68 pm68 an68 (.ref cA1) ct68),sl68⟩)
  (c68:eT K (.ref cA1) "World.come_up"=aB)
  (zt1:ng K cA1 P1=aB)
  (zk1:K.lookup P1=aE)
  (zs1:P1≠nr)
  (k68:eJ K (.ref S)=aB)
  (p69:V7 K g "World" "World.__init__" xI)
  (p70:vk K g "check_row" "World.check_row" vu)
  (p71:vk K g "done" "World.done" y7)
  (p72:vk K g "put" "World.put" u5)
  (p73:vk K g "book" "World.book" y6)
  (p74:vk K g "leases" "World.leases" jN)
  (p75:qH K "_law_cell_at" y_)
  (p76:qH K "_law_mixed" QM)
  (p77:qH K "_law_digits" ZN)
  (p78:qH K "_law_next" Zg)
  (p79:qH K "_law_word" kR)
  (p80:qH K "_law_said" Zj)
  (p81:qH K "_law_made" ZH)
  (p82:qH K "_law_no_row" xS)
  (p83:qH K "_law_wrong" u6)
  (a84:nsIn K bO "law"=aA (aA (.ref f84)))
  (l84:K.lookup f84=aA ⟨oc84,od84,.func (fnOf "law" "law" (zw wh) (z0 wh) (zj wh) .none kV84 dc84 pm84 an84 cd84 ct84),sl84⟩)
  (c84:eT K cd84 "law"=aB)
  (k84:eJ K (.ref f84)=aB)
  (x0:e_ K C0 zZ "ValueError.__new__"=aB)
  (x1:e_ K C1 zZ "ValueError.__new__"=aB)
  (x2:e_ K C2 zZ "ValueError.__new__"=aB)
  (x3:e_ K C3 zZ "ValueError.__new__"=aB)
  (x4:e_ K C4 zZ "ValueError.__new__"=aB)
  (x5:e_ K C5 zZ "ValueError.__new__"=aB)
  (x6:e_ K C6 zZ "ValueError.__new__"=aB)
  (x7:e_ K C7 zZ "ValueError.__new__"=aB)
  (x8:e_ K C8 zZ "ValueError.__new__"=aB)
  (x10:e_ K W zZ "ValueError.__new__"=aB)
  (x11:e_ K V zZ "ValueError.__new__"=aB)
  (x12:e_ K U zZ "ValueError.__new__"=aB)
  (x13:e_ K T zZ "ValueError.__new__"=aB)
  (zn:P0≠P1)
  (zl:K_ K=aB)
  (t:mY K ⟨[(10,C0),(12,C1),(13,C2),(15,C3),(16,C4),(17,C5),(18,C6),(19,C7),(20,C8),(21,R),(22,W),(23,V),(24,U),(25,T),(26,p)],[(40,CC6),(41,r),(42,Q),(43,o),(44,O),(46,q),(45,a),(47,g)]⟩ cls fld=aB)
  (zg:BB K ⟨[(10,C0),(12,C1),(13,C2),(15,C3),(16,C4),(17,C5),(18,C6),(19,C7),(20,C8),(21,R),(22,W),(23,V),(24,U),(25,T),(26,p)],[(40,CC6),(41,r),(42,Q),(43,o),(44,O),(46,q),(45,a),(47,g)]⟩ ["ValueError","all","bool","dict","int","isinstance","len","list","max","min","range","reversed","sorted","str","sum","tuple"] [("HouseError",10),("NoShape",12),("NoName",13),("NoClock",15),("NoTime",16),("NoHolder",17),("NoLease",18),("Ended",19),("TooMany",20),("Empty",22),("NoNote",23),("Fallen",24),("NoRow",25)] [("Wait",21,29),("Backward",26,25)]=aB) :
  (K_ K=aB/\∀P∈[P0,P1],K.lookup P=aE/\P≠nr/\∃c,ng K c P=aB)/\∃fd:FuncData,(∀(s:a9) (v:aD),lc s fd ⟨[v],[]⟩ [("_law_script",v)])/\∀base:aV,K.In base->base.Ns bO mg->(∀P∈[P0,P1],base.BuiltinsAt mg P)->bL l.prog w K mg base (cW l.prog w) 80 fa fd ["_law_script"] (Vj [P0,P1]):=by
 have e:=hfa.symm.trans (dG X G a84);cases e;have F0:=jD (st:=vr) l0 c0 k0;have b0:=F0.binds (ps:=["self","by"]) λ_ _ _ _ _ _=>oy λ_ _=>rfl;have F1:=jD (st:=w4) l1 c1 k1;have b1:=F1.binds (ps:=["self","now"]) λ_ _ _ _ _ _=>oy λ_ _=>rfl;have F30:=jD (st:=qX) l30 c30 k30;have b30:=F30.binds (ps:=["grants","moment","span"]) λ_ _ _ _ _ _=>Bf λ_ _ _=>rfl;have b45:=jR (K:=K) (fd:=fnOf "__init__" "House.__init__" (zw zB) (z0 zB) (zj zB) (.ref H) kV45 dc45 pm45 an45 M ct45) (ps:=["self","shape","ahead","stride","keeper","note"]) rfl d45 rfl <| LC λ_ _ _ _ _ _=>⟨_,rfl,rfl⟩
 have bd45:=jS (K:=K) (d:=.none) (fd:=fnOf "__init__" "House.__init__" (zw zB) (z0 zB) (zj zB) (.ref H) kV45 dc45 pm45 an45 M ct45) (ps:=["self","shape","ahead","stride","keeper","note"]) rfl d45 rfl <| MK λ_ _ _ _ _=>⟨_,rfl,rfl⟩
 have b55:=jR (K:=K) (fd:=fnOf "ask" "House.ask" (zw zH) (z0 zH) (zj zH) (.ref E) kV55 dc55 pm55 an55 L ct55) (ps:=["self","reading","many"]) rfl d55 rfl <| Bf λ_ _ _=>⟨_,rfl,rfl⟩
 have bd55:=jS (K:=K) (d:=.int 1 tz55) (fd:=fnOf "ask" "House.ask" (zw zH) (z0 zH) (zj zH) (.ref E) kV55 dc55 pm55 an55 L ct55) (ps:=["self","reading","many"]) rfl d55 rfl <| Gx λ_ _=>⟨_,rfl,rfl⟩
 have b56:=jR (K:=K) (fd:=fnOf "store" "House.store" (zw zu) (z0 zu) (zj zu) (.ref D) kV56 dc56 pm56 an56 J ct56) (ps:=["self","reading","many"]) rfl d56 rfl <| Bf λ_ _ _=>⟨_,rfl,rfl⟩
 have bd56:=jS (K:=K) (d:=.int 1 tz56) (fd:=fnOf "store" "House.store" (zw zu) (z0 zu) (zj zu) (.ref D) kV56 dc56 pm56 an56 J ct56) (ps:=["self","reading","many"]) rfl d56 rfl <| Gx λ_ _=>⟨_,rfl,rfl⟩
 have b57:=jR (K:=K) (fd:=fnOf "take" "House.take" (zw zC) (z0 zC) (zj zC) (.ref C) kV57 dc57 pm57 an57 I ct57) (ps:=["self","many"]) rfl d57 rfl <| oy λ_ _=>⟨_,rfl,rfl⟩
 have bd57:=jS (K:=K) (d:=.int 1 tz57) (fd:=fnOf "take" "House.take" (zw zC) (z0 zC) (zj zC) (.ref C) kV57 dc57 pm57 an57 I ct57) (ps:=["self","many"]) rfl d57 rfl <| LX λ_=>⟨_,rfl,rfl⟩
 have F68:=jD (st:=qh) l68 c68 k68;have b68:=F68.binds (ps:=["self","seat"]) λ_ _ _ _ _ _=>oy λ_ _=>rfl;have F84:=jD (st:=wh) l84 c84 k84;have b84:=F84.binds (ps:=["_law_script"]) λ_ _ _ _ _ _=>EV λ_=>rfl;refine⟨⟨zl,λP hP=>by rcases cA.mp hP with rfl|hP;exact⟨zk0,zs0,cA0,zt0⟩;rw[bT.mp hP];exact⟨zk1,zs1,cA1,zt1⟩⟩,⟨fnOf "law" "law" (zw wh) (z0 wh) (zj wh) .none kV84 dc84 pm84 an84 cd84 ct84,λs v=>.of_eq rfl,λbase b k nbt=>?_⟩⟩;let B:=@TN l w K mg base;have Z:Pk RU K mg base _ _ _:=⟨xj,b,k,t⟩;have g0:bB l.prog w K mg base ⟨[(10,C0),(12,C1),(13,C2),(15,C3),(16,C4),(17,C5),(18,C6),(19,C7),(20,C8),(21,R),(22,W),(23,V),(24,U),(25,T),(26,p)],[(40,CC6),(41,r),(42,Q),(43,o),(44,O),(46,q),(45,a),(47,g)]⟩ (Bg rK ([(P0,[⟨140,36,140,64⟩],((("least_begin":aG)++".<locals>.")++"<lambda>")),(P1,[⟨406,64,406,91⟩],((("World.come_up":aG)++".<locals>.")++"<lambda>"))]:List (aF×List Pos×aG))) 0 HN (λj=>([(P0,[⟨140,36,140,64⟩],((("least_begin":aG)++".<locals>.")++"<lambda>")),(P1,[⟨406,64,406,91⟩],((("World.come_up":aG)++".<locals>.")++"<lambda>"))]:List (aF×List Pos×aG))[j]?):=K1 b k zg ⟨⟨C0,rfl,x0⟩,⟨C1,rfl,x1⟩,⟨C2,rfl,x2⟩,⟨C3,rfl,x3⟩,⟨C4,rfl,x4⟩,⟨C5,rfl,x5⟩,⟨C6,rfl,x6⟩,⟨C7,rfl,x7⟩,⟨C8,rfl,x8⟩,⟨W,rfl,x10⟩,⟨V,rfl,x11⟩,⟨U,rfl,x12⟩,⟨T,rfl,x13⟩,trivial⟩;have XI0:ic K R C0 f0 "by":=⟨⟨N0,nm0,qn0,bs0,hd0,sn0,sb0,ab0,co0,dd0,ka0,kb0,kc0,kd0,ke0,xa0,xb0,xc0⟩,x0,xd0,xe0,xf0,xg0,xh0⟩;have W0:bL l.prog w K mg base (cW l.prog w) 1 f0 _ ["self","by"] (mR R "by"):=UT XI0 ⟨dG b k e0,ha0,ha1,ha2⟩ l0 c0 (by first|exact⟨_,_,_,_,_,_,_,_,_,_,_,rfl,rfl,.inl ⟨_,_,_,_,_,_,_,_,rfl,by decide,by decide⟩⟩|exact⟨_,_,_,_,_,_,_,_,_,_,_,rfl,rfl,.inr ⟨_,_,_,_,_,rfl,by decide⟩⟩) rfl;have g1:B 2 HM:=bB.add (g0.mono (by decide)) ⟨R,C0,f0,_,_,1,rfl,dG b k e9,rfl,XI0,b0,by decide,W0⟩ rfl;have g2:B 2 HL:=bB.add g1 ⟨R,C0,f0,_,_,1,rfl,dG b k e9,rfl,XI0,b0,by decide,W0⟩ rfl;have XI1:ic K p C0 f1 "now":=⟨⟨N1,hZ,qn1,bs1,hd1,sn1,sb1,ab1,co1,dd1,ka1,kb1,kc1,kd1,ke1,xa1,xb1,xc1⟩,x0,xd1,xe1,xf1,xg1,xh1⟩;have W1:bL l.prog w K mg base (cW l.prog w) 3 f1 _ ["self","now"] (mR p "now"):=UT XI1 ⟨dG b k e0,ha0,ha1,ha2⟩ l1 c1 (by first|exact⟨_,_,_,_,_,_,_,_,_,_,_,rfl,rfl,.inl ⟨_,_,_,_,_,_,_,_,rfl,by decide,by decide⟩⟩|exact⟨_,_,_,_,_,_,_,_,_,_,_,rfl,rfl,.inr ⟨_,_,_,_,_,rfl,by decide⟩⟩) rfl;have g3:B 4 HK:=bB.add (g2.mono (by decide)) ⟨p,C0,f1,_,_,3,rfl,dG b k e14,rfl,XI1,b1,by decide,W1⟩ rfl;have g4:B 4 B6:=bB.add g3 ⟨p,C0,f1,_,_,3,rfl,dG b k e14,rfl,XI1,b1,by decide,W1⟩ rfl;have g5:B 5 B4:=Z.fn p2 g4 X0 rfl rfl (λ_ _ _ _ _ _ _=>rfl) rfl;have g6:B 6 B3:=Z.fn p3 g5 YQ rfl rfl (λ_ _ _ _ _ _ _=>rfl) rfl;have g7:B 7 B0:=Z.fn p4 g6 yp rfl rfl (λ_ _ _ _ _ _ _=>rfl) rfl;have g8:B 8 BZ:=Z.fn p5 g7 Ku rfl rfl (λ_ _ _ _ _ _ _ _=>rfl) rfl;have g9:B 10 BY:=Z.cl p6 g8 WZ rfl rfl rfl (λ_ _ _ _ _ _ _ _ _ _=>rfl) rfl;have g10:B 11 AR:=Z.fn p7 g9 KU rfl rfl (λ_ _ _ _ _ _ _=>rfl) rfl;have g11:B 12 Aj:=Z.fn p8 g10 YU rfl rfl (λ_ _ _ _ _ _ _ _=>rfl) rfl;have g12:B 13 Am:=Z.fn p9 g11 Wy rfl rfl (λ_ _ _ _ _ _ _ _=>rfl) rfl;have g13:B 14 wr:=Z.fn p10 g12 Wv rfl rfl (λ_ _ _ _ _ _ _ _=>rfl) rfl;have g14:B 15 A8:=Z.fn p11 g13 Yb rfl rfl (λ_ _ _ _ _ _ _ _ _ _=>rfl) rfl;have g15:B 16 FY:=Z.fn p12 g14 J_ rfl rfl (λ_ _ _ _ _ _ _ _=>rfl) rfl;have g16:B 16 FW:=bB.add g15 ⟨_,(.int 0),dG b k v13,⟨_,rfl⟩,λ_ _ _=>rfl⟩ rfl;have g17:B 16 F6:=bB.add g16 ⟨_,(.int 1),dG b k v14,⟨_,rfl⟩,λ_ _ _=>rfl⟩ rfl;have g18:B 16 Ak:=bB.add g17 ⟨_,(.int 2),dG b k v15,⟨_,rfl⟩,λ_ _ _=>rfl⟩ rfl;have g19:B 17 AK:=Z.fn p16 g18 YS rfl rfl (λ_ _ _ _ _ _ _=>rfl) rfl;have g20:B 18 A7:=Z.fn p17 g19 Jj rfl rfl (λ_ _ _ _ _ _ _=>rfl) rfl;have g21:B 20 ul:=Z.cl p18 g20 Vq rfl rfl rfl (λ_ _ _ _ _ _ _ _ _=>rfl) rfl;have g22:B 21 FX:=Z.met p19 g21 ua rfl rfl rfl rfl (λ_ _ _ _ _ _ _ _=>rfl) rfl;have g23:B 21 FL:=bB.add g22 ⟨_,(.int 0),dG b k v20,⟨_,rfl⟩,λ_ _ _=>rfl⟩ rfl;have g24:B 21 EO:=bB.add g23 ⟨_,(.int 1),dG b k v21,⟨_,rfl⟩,λ_ _ _=>rfl⟩ rfl;have g25:B 21 Ag:=bB.add g24 ⟨_,(.int 2),dG b k v22,⟨_,rfl⟩,λ_ _ _=>rfl⟩ rfl;have g26:B 22 AI:=Z.fn p23 g25 KN rfl rfl (λ_ _ _ _ _ _ _ _=>rfl) rfl;have g27:B 23 FJ:=Z.fn p24 g26 Qz rfl rfl (λ_ _ _ _ _ _ _ _=>rfl) rfl;have g28:B 23 E9:=bB.add g27 ⟨_,(.str "abcdefghijklmnopqrstuvwxyz"),dG b k v25,⟨_,rfl⟩,λ_ _ _=>rfl⟩ rfl;have g29:B 23 At:=bB.add g28 ⟨_,(.int 8),dG b k v26,⟨_,rfl⟩,λ_ _ _=>rfl⟩ rfl;have g30:B 24 Be:=Z.fn p27 g29 Jk rfl rfl (λ_ _ _ _ _ _ _=>rfl) rfl;have g31:B 26 AG:=Z.cl p28 g30 WW rfl rfl rfl (λ_ _ _ _ _ _ _ _ _=>rfl) rfl;have g32:B 27 Ae:=Z.fn p29 g31 Rc rfl rfl (λ_ _ _ _ _ _ _ _ _=>rfl) rfl;have W30:bL l.prog w K mg base (cW l.prog w) 28 f30 _ ["grants","moment","span"] (dW _ 3 qI):=j6 (m:=2) xj (kl (N:=["grants","moment","span","begin","grant"]) (G:=["sorted","meets"]) (cel:=[]) (own:=[]) (lam:=aA (0,[⟨140,36,140,64⟩])) b k t g32) l30 c30 rfl rfl Qs (λj pos e=>by cases e;exact⟨by decide,cA0,P0,rfl,codeHd_of_K b zt0,nbt _ (.head _),rfl⟩);have g33:B 28 AM:=bB.add (g32.mono (by decide)) ⟨f30,dG b k a30,_,_,28,k30,b30,by decide,W30,qC⟩ rfl;have g34:B 29 Aa:=Z.fn p31 g33 QA rfl rfl (λ_ _ _ _ _ _ _ _ _=>rfl) rfl;have g35:B 31 AW:=Z.cl p32 g34 Qv rfl rfl rfl (λ_ _ _ _ _ _ _ _=>rfl) rfl;have g36:B 32 A2:=Z.met p33 g35 kL rfl rfl rfl rfl (λ_ _ _ _ _ _ _ _ _ _ _=>rfl) rfl;have g37:B 33 Bn:=Z.met p34 g36 kr rfl rfl rfl rfl (λ_ _ _ _ _ _ _ _=>rfl) rfl;have g38:B 34 AX:=Z.met p35 g37 jY rfl rfl rfl rfl (λ_ _ _ _ _ _ _ _ _ _=>rfl) rfl;have g39:B 35 Av:=Z.met p36 g38 Vk rfl rfl rfl rfl (λ_ _ _ _ _ _ _ _ _ _ _=>rfl) rfl;have g40:B 36 A9:=Z.met p37 g39 kX rfl rfl rfl rfl (λ_ _ _ _ _ _ _=>rfl) rfl;have g41:B 38 A_:=Z.cl p38 g40 Vi rfl rfl rfl (λ_ _ _ _ _ _ _ _ _ _=>rfl) rfl;have g42:B 39 wn:=Z.fn p39 g41 Ub rfl rfl (λ_ _ _ _ _ _ _ _ _=>rfl) rfl;have g43:B 40 A3:=Z.fn p40 g42 kM rfl rfl (λ_ _ _ _ _ _ _ _=>rfl) rfl;have g44:B 41 Ay:=Z.fn p41 g43 Qp rfl rfl (λ_ _ _ _ _ _ _ _ _=>rfl) rfl;have g45:B 43 Ax:=Z.cl p42 g44 JL rfl rfl rfl (λ_ _ _ _ _ _ _ _=>rfl) rfl;have g46:B 44 Ap:=Z.met p43 g45 KR rfl rfl rfl rfl (λ_ _ _ _ _ _ _ _=>rfl) rfl;have g47:B 45 Af:=bB.add (g46.mono (by decide)) (OJ (n:=60) (tbs:=([(P0,[⟨140,36,140,64⟩],((("least_begin":aG)++".<locals>.")++"<lambda>")),(P1,[⟨406,64,406,91⟩],((("World.come_up":aG)++".<locals>.")++"<lambda>"))]:List (aF×List Pos×aG))) (G:=wE) xj (by show 2<=100;decide) (g_.mem (ls:=rK) ⟨rfl,trivial⟩) (kl (N:=[]) (G:=[]) (cel:=[]) (own:=[]) (lam:=aE) b k t g46) Oa.mem) rfl;have W45:bL l.prog w K mg base (cW l.prog w) 46 A _ ["self","shape","ahead","stride","keeper","note"] (dW _ 6 qi):=j6 (m:=0) xj (kl (N:=["self","shape","ahead","stride","keeper","note"]) (G:=["is_from_nought","NoTime","NoNote"]) (cel:=[]) (own:=["batches"]) (lam:=aE) b k t g47) l45 c45 rfl rfl Z4;have g48:B 47 FK:=bB.add (g47.mono (by decide)) ⟨a,A,_,_,46,rfl,dG b k q45,⟨mk45,i45,j45,kk45⟩,b45,by decide,W45,qC⟩ rfl;have g49:B 47 AV:=bB.add (x:=lF "House") g48 ⟨a,A,_,_,46,rfl,dG b k q45,⟨mk45,i45,j45,kk45⟩,bd45,by decide,W45,qC,rfl⟩ rfl;have g50:B 48 Ba:=Z.met p46 g49 yf rfl rfl rfl rfl (λ_ _ _ _ _ _ _=>rfl) rfl;have g51:B 49 zs:=Z.met p47 g50 Wk rfl rfl rfl rfl (λ_ _ _ _ _ _ _=>rfl) rfl;have g52:B 50 AE:=Z.met p48 g51 ZA rfl rfl rfl rfl (λ_ _ _ _ _ _ _ _ _=>rfl) rfl;have g53:B 51 wf:=Z.met p49 g52 jx rfl rfl rfl rfl (λ_ _ _ _ _ _ _ _=>rfl) rfl;have g54:B 52 Bd:=Z.met p50 g53 vU rfl rfl rfl rfl (λ_ _ _ _ _ _ _=>rfl) rfl;have g55:B 53 Bb:=Z.met p51 g54 kG rfl rfl rfl rfl (λ_ _ _ _ _ _ _=>rfl) rfl;have g56:B 54 Ao:=Z.met p52 g55 kT rfl rfl rfl rfl (λ_ _ _ _ _ _ _ _ _=>rfl) rfl;have g57:B 55 xz:=Z.met p53 g56 jV rfl rfl rfl rfl (λ_ _ _ _ _ _ _ _=>rfl) rfl;have g58:B 56 AH:=Z.met p54 g57 kJ rfl rfl rfl rfl (λ_ _ _ _ _ _ _ _ _=>rfl) rfl;have W55:bL l.prog w K mg base (cW l.prog w) 57 z _ ["self","reading","many"] (dW _ 3 qJ):=j6 (m:=1) xj (kl (N:=["self","reading","many","batch"]) (G:=["names_of_batch"]) (cel:=[]) (own:=["batches"]) (lam:=aE) b k t g58) l55 c55 rfl rfl Qm;have g59:B 57 FH:=bB.add (g58.mono (by decide)) ⟨a,z,_,_,57,rfl,jC (c:=45) t rfl,⟨i55,j55,k55⟩,λi h=>absurd (b9 (show gZ[i]?=aA "ask" from h)) (by decide +kernel),b55,by decide,W55,qC⟩ rfl;have g60:B 57 Bc:=bB.add (x:=lF (dC "ask")) g59 ⟨a,z,_,_,57,_,(.int 1),rfl,jC (c:=45) t rfl,⟨i55,j55,k55⟩,λi h=>absurd (b9 (show gZ[i]?=aA "ask" from h)) (by decide +kernel),bd55,⟨_,rfl⟩,λ_ _ _=>rfl,by decide,W55,qC,rfl⟩ rfl;have W56:bL l.prog w K mg base (cW l.prog w) 58 y _ ["self","reading","many"] (dW _ 3 qZ):=j6 (m:=1) xj (kl (N:=["self","reading","many","batch"]) (G:=[]) (cel:=[]) (own:=[]) (lam:=aE) b k t g60) l56 c56 rfl rfl ub;have g61:B 58 F5:=bB.add (g60.mono (by decide)) ⟨a,y,_,_,58,rfl,jC (c:=45) t rfl,⟨i56,j56,k56⟩,λi h=>absurd (b9 (show gZ[i]?=aA "store" from h)) (by decide +kernel),b56,by decide,W56,qC⟩ rfl;have g62:B 58 Bh:=bB.add (x:=lF (dC "store")) g61 ⟨a,y,_,_,58,_,(.int 1),rfl,jC (c:=45) t rfl,⟨i56,j56,k56⟩,λi h=>absurd (b9 (show gZ[i]?=aA "store" from h)) (by decide +kernel),bd56,⟨_,rfl⟩,λ_ _ _=>rfl,by decide,W56,qC,rfl⟩ rfl;have W57:bL l.prog w K mg base (cW l.prog w) 59 u _ ["self","many"] (dW _ 2 wx):=j6 (m:=3) xj (kl (N:=["self","many","parts","names","batch"]) (G:=["is_size","TooMany","Empty","names_of_batch"]) (cel:=[]) (own:=[]) (lam:=aE) b k t g62) l57 c57 rfl rfl uX;have g63:B 59 FT:=bB.add (g62.mono (by decide)) ⟨a,u,_,_,59,rfl,jC (c:=45) t rfl,⟨i57,j57,k57⟩,λi h=>absurd (b9 (show gZ[i]?=aA "take" from h)) (by decide +kernel),b57,by decide,W57,qC⟩ rfl;have g64:B 59 Fs:=bB.add (x:=lF (dC "take")) g63 ⟨a,u,_,_,59,_,(.int 1),rfl,jC (c:=45) t rfl,⟨i57,j57,k57⟩,λi h=>absurd (b9 (show gZ[i]?=aA "take" from h)) (by decide +kernel),bd57,⟨_,rfl⟩,λ_ _ _=>rfl,by decide,W57,qC,rfl⟩ rfl;have g65:B 59 FZ:=bB.add g64 (MP (dG b k v58) y58 w58 ⟨⟨_,_,rfl⟩,⟨_,_,rfl⟩,⟨_,_,rfl⟩,⟨_,_,rfl⟩,⟨_,_,rfl⟩,⟨_,_,rfl⟩,⟨_,_,rfl⟩,trivial⟩ (by decide)) rfl;have g66:B 59 Fx:=bB.add g65 ⟨_,(.int 0),dG b k v59,⟨_,rfl⟩,λ_ _ _=>rfl⟩ rfl;have g67:B 59 E_:=bB.add g66 ⟨_,(.int 1),dG b k v60,⟨_,rfl⟩,λ_ _ _=>rfl⟩ rfl;have g68:B 59 Fe:=bB.add g67 ⟨_,(.int 2),dG b k v61,⟨_,rfl⟩,λ_ _ _=>rfl⟩ rfl;have g69:B 59 E8:=bB.add g68 ⟨_,(.int 3),dG b k v62,⟨_,rfl⟩,λ_ _ _=>rfl⟩ rfl;have g70:B 59 F3:=bB.add g69 ⟨_,(.int 4),dG b k v63,⟨_,rfl⟩,λ_ _ _=>rfl⟩ rfl;have g71:B 59 wv:=bB.add g70 ⟨_,(.int 3),dG b k v64,⟨_,rfl⟩,λ_ _ _=>rfl⟩ rfl;have g72:B 60 Ar:=Z.fn p65 g71 Kr rfl rfl (λ_ _ _ _ _ _ _=>rfl) rfl;have g73:B 61 t_:=Z.fn p66 g72 Sf rfl rfl (λ_ _ _ _ _ _ _=>rfl) rfl;have g74:B 62 As:=Z.fn p67 g73 WU rfl rfl (λ_ _ _ _ _ _ _=>rfl) rfl;have W68:bL l.prog w K mg base (cW l.prog w) 63 S _ ["self","seat"] (dW _ 2 zR):=Ox (m:=0) (cut:=0) (ds:=q_) xj (L3 (F:=["seat"]) (kl (N:=["self","seat"]) (G:=["House"]) (cel:=["seat"]) (own:=[]) (lam:=aA (1,[⟨406,64,406,91⟩])) b k t g74)) l68 c68 rfl rfl yy uf (λj pos e=>by cases e;exact⟨by decide,cA1,P1,rfl,codeHd_of_K b zt1,nbt _ (.tail _ (.head _)),rfl⟩);have g75:B 63 Aq:=bB.add (g74.mono (by decide)) ⟨g,S,_,_,63,rfl,jC (c:=47) t rfl,⟨i68,j68,k68⟩,λi h=>absurd (b9 (show gZ[i]?=aA "come_up" from h)) (by decide +kernel),b68,by decide,W68,qC⟩ rfl;have g76:B 65 AN:=Z.cl p69 g75 V8 rfl rfl rfl (λ_ _ _ _ _ _ _ _ _ _ _=>rfl) rfl;have g77:B 66 AS:=Z.met p70 g76 kU rfl rfl rfl rfl (λ_ _ _ _ _ _ _ _=>rfl) rfl;have g78:B 67 AF:=Z.met p71 g77 Wl rfl rfl rfl rfl (λ_ _ _ _ _ _ _ _=>rfl) rfl;have g79:B 68 AT:=Z.met p72 g78 VR rfl rfl rfl rfl (λ_ _ _ _ _ _ _ _=>rfl) rfl;have g80:B 69 An:=Z.met p73 g79 WS rfl rfl rfl rfl (λ_ _ _ _ _ _ _=>rfl) rfl;have g81:B 70 ww:=Z.met p74 g80 ZJ rfl rfl rfl rfl (λ_ _ _ _ _ _ _=>rfl) rfl;have g82:B 71 AY:=Z.fn p75 g81 V_ rfl rfl (λ_ _ _ _ _ _ _ _=>rfl) rfl;have g83:B 72 AA:=Z.fn p76 g82 Uh rfl rfl (λ_ _ _ _ _ _ _ _=>rfl) rfl;have g84:B 73 Al:=Z.fn p77 g83 K7 rfl rfl (λ_ _ _ _ _ _ _=>rfl) rfl;have g85:B 74 AC:=Z.fn p78 g84 Kl rfl rfl (λ_ _ _ _ _ _ _ _=>rfl) rfl;have g86:B 75 FS:=Z.fn p79 g85 JW rfl rfl (λ_ _ _ _ _ _ _=>rfl) rfl;have g87:B 75 AQ:=Z.fnh p79 g85 g86 VJ rfl rfl (λ_ _ _ _ _ _ _=>rfl) rfl;have g88:B 76 AZ:=Z.fn p80 g87 Ko rfl rfl (λ_ _ _ _ _ _ _ _=>rfl) rfl;have g89:B 77 AL:=Z.fn p81 g88 JT rfl rfl (λ_ _ _ _ _ _ _ _ _ _=>rfl) rfl;have g90:B 78 Ah:=Z.fn p82 g89 Vf rfl rfl (λ_ _ _ _ _ _ _ _=>rfl) rfl;have g91:B 79 Fl:=Z.fn p83 g90 VO rfl rfl (λ_ _ _ _ _ _ _ _=>rfl) rfl;have W84:bL l.prog w K mg base (cW l.prog w) 80 fa _ ["_law_script"] (dW _ 1 y9):=j6 (m:=17) xj (kl (N:=["_law_script","_law_source","_law_shape","_law_clocks","_law_ahead","_law_still","_law_bad","_law_wrong_here","_law_odd","_law_found","_law_world","_law_book","_law_cell","_law_t","_law_early","_law_some","_law_row","_law_due"]) (G:=["_law_digits","_law_cell_at","Shape","Clock","_law_next","_law_made","World","_law_no_row","_law_wrong","_law_said"]) (cel:=[]) (own:=["{:}","~_law_clocks","_law_some"]) (lam:=aE) b k t g91) l84 c84 rfl rfl U5;exact R6 (f:=y9) oB rfl rfl zn W84
end NH.K51
section
open PySem PySem.W PyProof.Rows
set_option maxRecDepth 100000 in
set_option maxHeartbeats 0 in
theorem PySem.Challenge.cw_namehouses_k51_rows_of_a_world_refused_holds : PySem.Challenge.rw_namehouses_k51_rows_of_a_world_refused.Holds := by
 w_on;o_law;k_head;(case hw=>w_witness2);k_fill;refine NH.walkTs (l:=PySem.Challenge.rw_namehouses_k51_rows_of_a_world_refused) (k:=80) (x:="_law_script") (by decide) rfl rfl (λw h Y=>PySem.W.km_in_of Y) (λw h Y=>NH.swT (PySem.W.km_tabs_of Y)) ?F;case F=>
  intro w mg fa h KX G hmg
  refine' NH.K51.all_mk KX G hmg ?aa ?ab ?ac ?ad ?ae ?af ?ag ?ah ?ai ?aj ?ak ?al ?am ?an ?ao ?ap ?aq ?ar ?zas ?zat ?au ?av ?aw ?ax ?ay ?az ?ba ?bb ?bc ?bd ?be ?bf ?bg ?bh ?bi ?bj ?bk ?bl ?bm ?bn ?bo ?bp ?bq ?br ?bs ?bt ?bu ?bv ?bw ?bx ?zby ?bz ?ca ?cb ?cc ?cd ?ce ?cf ?cg ?ch ?ci ?cj ?ck ?cl ?cm ?cn ?co ?cp ?cq ?cr ?cs ?ct ?cu ?cv ?cw ?cx ?cy ?cz ?da ?db ?dc ?dd ?de ?df ?dg ?dh ?di ?dj ?dk ?dl ?dm ?dn ?zdo ?dp ?dq ?dr ?ds ?dt ?du ?dv ?dw ?dx ?dy ?dz ?ea ?eb ?ec ?ed ?ee ?ef ?eg ?eh ?ei ?ej ?ek ?el ?em ?en ?eo ?ep ?eq ?er ?es ?et ?eu ?ev ?ew ?ex ?ey ?ez ?fa ?fb ?fc ?fd ?fe ?ff ?fg ?fh ?fi ?fj ?fk ?fl ?fm ?fn ?fo ?fp ?fq ?fr ?fs ?ft ?fu ?fv ?fw ?fx ?fy ?fz ?ga ?gb ?gc ?gd ?ge ?gf ?gg ?gh ?gi ?gj ?gk ?gl ?gm ?gn ?go ?gp ?gq ?gr ?gs ?gt ?gu ?gv ?gw ?gx
  case dk=>k_is
  case bs|ce|co|cy|de|di|fo=>exact NH.clp (by k_is) (by k_is) (by k_is) (by k_is) (by k_is) (by k_is) (by k_is) (by k_is)
  case bo|bp|bq|br|bt|bu|bv|bw|bx|zby|cc|cd|cj|ck|cn|cp|cx|df|dg|dh|fd|fe|ff|fu|fv|fw|fx|fy|fz|ga|gb|gc=>exact NH.dfp (by k_is) (by k_is) (by k_is) (by k_is)
  case cf|cz|da|db|dc|dd|dj|dt|du|dv|dw|dx|dy|dz|ea|eb|fp|fq|fr|fs|ft=>exact NH.mtp (by k_is) (by k_is) (by k_is) (by k_is) (by k_is)
  case aa|ab|ac|ad|ae|af|ag|ah|ai|aj|ak|al|am|an|ao|ap|ar|zas|zat|au|av|aw|ax|ay|az|ba|bb|bc|bd|bf|bg|bh|bi|bj|bk|bl|bm|bn|bz|ca|cb|cg|ch|ci|cl|cm|cq|cr|cs|cw|dl|dm|dn|zdo|dp|dq|dr|ds|ec|ed|ee|ef|eg|eh|ei|ej|ek|el|em|en|eo|ep|eq|er|es|et|eu|ex|ey|ez|fa|fb|fc|fg|fh|fi|fj|fn|gd|ge|gf|gg=>k_is
  case aq|be=>kernel_rfl
  case ct|cu|ev|fk|fl|gv|gw|gx=>exact rfl
  case cv|ew|fm|gu=>decide
  case gh|gi|gj|gk|gl|gm|gn|go|gp|gq|gr|gs|gt=>k_exc
end
