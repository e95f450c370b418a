import PyProof.Rows.All
import Wide.All
import OpenK.AllK
import Wide.FinOn
import Lean
import PyProof.EqAt
import PyProof.EqKinds
import PyProof.TupleCall
import PyProof.DictIter
import PyProof.StationsW
import PySem.Syntax
import KE.KLam
import PyProof.StrBlockH
import KE.KRevIter
import PyProof.JoinWalk
import PyProof.CollectIter
import PyProof.StrCalls
import PyProof.DictStraight
import PyProof.Rows.Range3
import PyProof.StrWalks
import PyProof.LongRange
import KE.KTryMore
import KE.KItem
import PyProof.NsDelKeeps
import PyProof.DictTable
import PyProof.WalkInts
import PyProof.Rows.SortStr
import PyProof.Rows.SortWalk
import PyProof.EnumMake
import PyProof.EnumFor
import KE.KRevSl
import PyProof.Rows.StrNews
import KE.KMinBuiltin
import KE.KSortKey
import PyProof.ZipIter
import PyProof.ExcInit
import PyProof.ExcClass2
import PyProof.InstStoreFacts
import PyProof.FString
import KE.LcSums
import KE.KIntText
import PyProof.StrBlock2
import PyProof.DictWalks
import KE.KSortTup
import PyProof.Rows.SortRev
import PyProof.AttrMissHeap
import PyProof.Rows.SetFrom
import KE.KDictOf
import PyProof.DictUpdate
import PyProof.DictTruth
import PyProof.DictItems
import KE.KPairComp
import PySem.Challenge.RW_namehouses_k91_whole_no_name_twice
set_option Elab.async false
open Option renaming some->aA,none->aE
open Bool renaming true->aB,false->aC
open PySem renaming Value->aD,Addr->aF,Str->aH,Expr->aI,Heap->aV,Obj->bF,Stmt->bG
open List renaming getElem?_eq_some_iff->bE,mem_of_getElem?->bK,getElem?_set_ne->bR,length_map->bJ,mem_singleton->bU,getElem?_append_left->dP,getElem?_map->cE,mem_append->b_,mem_cons_of_mem->cW,mem_append_right->dH,mem_map->b7,mem_cons_self->dJ,mem_cons->cK,getElem?_append_right->fP,getElem?_eq_getElem->fO,size_toArray->d7,map_map->cT,map_append->dO,map_cons->c8,mem_append_left->eY,mem_iff_getElem?->fN,take_of_length_le->gL,pairwise_iff_getElem->hQ,take_add_one->fM,mem_filter->eW,length_append->gK,lookup_cons->f7,all_eq_true->f6,contains_iff_mem->ik,length_cons->gJ,mem_of_mem_take->iN,filterMap_eq_map'->kw,append_nil->gU,length_take->hO,range->eX,getElem?_set_self->lY,mem_nil_iff->ip,nodup_append->lg,pairwise_map->lb,getElem?_eq_none->my,nodup_cons->iP,lookup->gT,set_append_right->m_,pairwise_append->m6,append_assoc->mq,map_congr_left->m5,isEmpty_iff->mn,mem_range->lP,replicate->lO,take_append_drop->ou,take_sublist->mZ,rec->gA,all_cons->lT,filterMap_cons_none->rL,filterMap_cons_some->rK,getElem?_replicate->rJ,getLast?_eq_some_getLast->zs,mem_filterMap->oz,any_cons->ms,length_filter_le->rD,flatMap_cons->og,length->lI,getElem_inj->nZ,getElem_mem->nX,cons_append->nW,filter_cons->nV,length_set->n_,find?_cons->n9,getElem?_cons_succ->wT,filter_cons_of_pos->wP,filter_cons_of_neg->wE,getElem_set->ry,length_nil->ri,nil_append->rh,filterMap_cons->wn,contains_cons->tZ,nodup_iff_pairwise_ne->E2,drop_eq_getElem_cons->EZ,any_eq_false->tX,length_range->v4,length_drop->ut,getElem?_cons_zero->Fc,getLast_mem->tV,length_eq_zero_iff->EY,pairwise_singleton->EX,map_nil->pT,all_map->pR,of_mem_zip->tN,forIn_cons->tL,length_replicate->EC,length_singleton->EA,mem_of_mem_drop->Es,getElem?_range->EK,flatMap_append->EJ,getElem?_take->Eh,pairwise_cons->Eg,map->nF,mem_reverse->Ec,ext_getElem->D_,take_length->D8,any_eq_true->D7,length_zip->D3,map_id->Du,find?->Dl
open PySem.Heap renaming get?_push_of_some->bY,lt_size->bX,get?_push_size->eK,SameBut->fR,get?_none_of_le->lX,size_push->hX,get?_update_other->nc,get?_update_self->rE,MadeExcOf->n7,get?_update_ne->t7,get?_push_ne->DU,get?_push_at->DT,size_update->Ea
open Nat renaming le_refl->bD,lt_of_lt_of_le->dC,ne_of_lt->cX,le_trans->dG,ne_of_gt->hS,lt_irrefl->iM,zero_le->hL,lt_succ_self->mo,le_of_lt->i8,beq->fL,le_succ->iK,lt_succ_of_lt->oj,le_of_eq->mf,eq_of_beq_eq_true->ww,lt_of_le_of_lt->t5,lt_trans->tf,min_self->tc,zero_add->s_,lt_trichotomy->DR,rec->pD,ble->pC,lt_or_ge->DG,log2_lt->Dv
open Option.some renaming inj->bQ,injEq->rz
open PySem.W renaming Frag->bO,findIn->c7,fnOf->f8,emptyDict->lh,mroIn->im,instObj->lR,codeIn->fB,CodeHd->lN,kla_obj->mj,hasDictIn->mi,specialIn->mw,plainGet_of->oA,tabObj->mv,callWith_K->oy,keepIn->eP,plainGet->nY,mg_of->eD,callWith_K0->rp,excIn->fA,nsIn->mY,exmOne->n0,clsIn->nR,takesIn->rk,looks_clsIn->wl,lookIn->pX,kitOne->pU,isNs_of_in->t4,methodObj->tY,plainOver->tW,Looks->p_,any_some->u8,cellsFrom_some->EW,KitX->pQ,takerIn->tO,looks_findIn->Eu,kla_fn->tI,kla_callFunE->EU,kla_codeExpr->ET,mg_none_of->Em,isFn->tw,set_plain->D1,kitx_list->DX,kitx_dict->DW,handedIn->DO,kla_eval->D9,codeHdIn->nJ,makesIn->nH,readsIn->tz,findCls->sX,OpenLaw->mP,InstAt->DL,typeIn->sR,nsOkIn->sQ,fnMade->DE
open Bool renaming and_eq_true->cO,false_ne_true->fS,not_eq_true'->oi,eq_iff_iff->nT,or_eq_true->nS,and_false->pV,false_eq_true->t6,or_true->ti,false_and->DM,rec->pB,and_true->DK
open PySem renaming mainGlobals->bT,model->aS,Shared->bB,sizeLine_eq->eG,wpAny_mono->dY,Program->cI,wpAny_Call_Name_kw->ij,starEach->dW,mem_of_lookup->li,rawInt->cV,compareOp->fC,wpAny_standAt->hW,bootBuiltins->hV,foldedSetIterable->lW,relabel->eN,sysModules->gS,wpAny_passesOwn->ml,codeAny_mono->i7,excClassObj->iL,assignEach->ig,attributeBase->lU,keywordEach->i_,backTo->eU,World->eE,codeAny->gz,wpAny_loadPart_at->oh,wpAny_field->lH,compEnvC->g_,swapsWith->iJ,Around->fQ,CmpOp->eM,methodCallPos->mW,letOwnedTupleGo->nU,builtinsNs->lM,wpAny_call->lK,sliceBounds->mh,codeAmong->i6,Keyword->hI,wpAny_pyIter_list->rA,wpAny_isTrue_Compare1->wv,strLen_append->nQ,backToKw->i4,wpAny_execs_nil->rn,call_meetsIn->nO,binaryOp->lG,NameKind->lF,wpAny_newFunctionEnv_cells->E5,wpAny_setField->pW,closureFor->mT,wpAny_FormattedValue_plain->E4,hashStr->iZ,wpAny_newObj_type->wf,wpAny_of_eq->nP,valueAt->i3,assign->ib,swapsWithSole->rg,swappedStores->rf,comprehension->rc,ExceptHandler->pZ,bindArgs->me,setFlight->mU,wpAny_comp_letGo->t9,methodCall->nM,makeFunction->pL,codeAny_call_function->EB,ofString_length->Ex,wpAny_formatField_int->Ew,subscripted->pJ,wpAny_Compare1->tJ,wpAny_newFunctionEnv->Er,wpAny_pyIter_revIter->Ep,codeAny_call_builtin->ES,PassesOwn->nK,BindsTo->l_,OwnTail->l9,evalArgs_none->EO,wpAny_isSubtype_exc->EL,behindInMarks->tS,arm_eval_Call->tQ,typeLookup->pO,call_meets->pM,int_text_length_le->Ej,getattributeRaised->Ei,Within->tH,holding->mS,getItem->mR,slot_list_getitem->DY,wpAny_pyIter_enum->DV,Builtin->mQ,ExcBaseFacts->sZ,wpAny_typeOf->sY,cStatics->nG,wpAny_lookBehind->Ef,pastItsLine_dict->Ee,noteFrame->pG,wpAny_JoinedStr->D2,codeAny_builtin->DN,callerA->nE,wpAny_Name->sV,pyNext->mO,pyIter->mM,Result->mL,bindL->lD,bindC->lC,wpAny_rule->sN,getMethod->sU,cellsFrom->sT,DictEntry->sS,leaving->pE,passOn->DF,call->Do
open Ne renaming symm->bW
open PySem.Value renaming ref->cN,none->gI,int->lJ,str->mV,isStrOf->tT,bool->pP,isInt->tG,type->sW,isStrOf_shape->DB,isInt_shape->DJ,bytes->Dy,float->Dx
open Int renaming mul_le_mul_of_nonneg_right->iO,emod_lt_of_pos->ii,le_refl->fT,emod_nonneg->io,mul_ediv_add_emod->oq,mul_comm->jp,le_ediv_iff_mul_le->rF,ediv_lt_of_lt_mul->rB,ediv_emod_unique->rq,le_trans->mX,ediv_nonneg->rj,le_of_lt->nN,ediv_le_ediv->t8,add_comm->pK,mul_nonneg->tU,add_mul->tD,one_mul->tB,mul_le_mul->DC,ediv_one->DH
open PySem.Obj renaming mapSeq->d6,mapFields->i9,isFreed_of_fields->Ez,data_mapFields->EF
open False renaming elim->eF
open PyProof.Rows renaming seqObj->cD,callWith_type1->oF,callWith_builtin1->Ac,envOfC->gH,IntsAre->ic,AllBare->iX,listUpdate_at->pY,subscriptTail_builtinR->EV,get?_update_seq->tK,subscriptTail->tR,arrOf->ia,boot_range->sO
open True renaming intro->gB
open PySem.Calls renaming callWith_builtin->ng,spliced_cons->mx,evalArgs_plain->m9,spliced_nil->om,Name_function_global->E6
open List.Pairwise renaming nil->lV,imp->DS,map->DQ,imp_of_mem->IU,sublist->ID
open Array renaming getElem?_eq_some_iff->oE,length_toList->oB,getElem?_setIfInBounds_ne->Fe,mem_toList_iff->Ev,toList_append->EM,find?_toList->EG,forIn_toList->El,size_zip->DD
open PySem.F renaming excBase_ValueError->oC,plainAttrs_dict->rG,slot_list_getattribute->Aa,slot_dict_get->rC,plainAttrs_list->wS,slot_dict_pop->ws,store_ValueError->Fd,args_dict_pop_3->E_,slot_dict_items->E8,entry_dict_pop->EE,entry_dict_get->ED,type_dict_get->Ey
open ForInStep renaming yield->lQ
open Option renaming map_eq_some_iff->ow,isSome_iff_exists->wr,map_some->oa,getD_some->t_,bind_eq_some_iff->Fa,getD_none->Ed,bind_some->Eb
open Sum.inr renaming inj->ie
open PySem.W.Looks renaming here->m4,of_pure->IE,ld->Iy
open PySem.Builtin.Range renaming rangeSize->rH,small->IB
open PySem.Builtin.ObjectAttr renaming storeInDict->Ab,newKeyGuard->Li,noDictFor->Lg
open PySem.Str renaming ofString->lS,empty->md
open PySem.SeqAt renaming EqAt->i5,RcAt->pH,RcNeAt->DI
open PySem.Heap.SameBut renaming update->ro
open PySem.Builtin.List renaming listTooLong->wp
open PySem.Builtin.Str renaming occurrences->xL
open Sum renaming inl->iY,inr->lE
open Function renaming comp_def->v6
open PySem.NameKind renaming free->ra
open PySem.Builtin.Dict renaming updateFrom->E9,selfAndRest->IT,pairItems->IS
open PySem.SeqAt.EqAt renaming same->tM,int_str->EI,str_int->EH,of_refs->Eo
open PySem.Around renaming frames_deeper->Et,under_plainId->EQ,under->tu
open PySem.Data renaming fields->pI,cell->pF
open PySem.EntryCells renaming newEntry->EN
open PySem.Shared renaming TypeIs->tP
open PySem.Code renaming quiet_builtin->Ek,isFrame->tj,frames->Dw
open PySem.Heap.Ns1 renaming of_empty->DZ
open PySem.IsRange renaming new->tF
open PySem.Builtin.BaseException renaming bexcPut->Lh
open List.cons renaming injEq->D6
open PySem.Heap.DictOf renaming new->D5
open Array.Perm renaming refl->D4
open PySem.SeqAt.RcNeAt renaming lists_lengths->IQ,tuples->IC,lists->Iz
open PySem.Walks renaming list->sP
open PySem.EqNone renaming eq_none_none->IP,eq_none_bool->IN,eq_bool_none->IM,ne_none_none->IJ,ne_none_bool->II,ne_bool_none->IH,eq_none_int->Lf,eq_none_str->Le,eq_int_none->Ld,eq_str_none->Lb,ne_none_int->I_,ne_none_str->I0,ne_int_none->IZ,ne_str_none->IW
open PySem.EqMixed renaming eq_bool_str->IL,eq_str_bool->IK,ne_bool_str->IG,ne_str_bool->IF,eq_int_str->Lc,eq_str_int->La,ne_int_str->IY,ne_str_int->IV
open PySem.Paired renaming length->DA
open Sum.inl renaming inj->Dz
open PySem.Heap.IsSliceOf renaming new->IA
open PySem.W.WShape renaming has->Dq
open PyProof.Rows.SortSt renaming mk'->Dm
open PySem.Within renaming cons->Dk
open PySem.W.WData renaming int->Dh
set_option linter.all false
set_option maxRecDepth 100000
set_option maxHeartbeats 4000000
set_option genSizeOf false
set_option genInjectivity false
set_option bootstrap.genMatcherCode false
noncomputable section
namespace PySem.W
structure Fast:Prop where
 (tw8266656171110308750 tw8337215575507384505 tw18273113797783435251 tw15774731186604428886 tw5694415930302522892 tw13720260806340187213 tw1319368651098770933 tw17819860422677249287 tw4414908844004982258 tw15184099265468178156 tw1636239291399430755 tw618202708252221691 tw11542247754986788236 tw9424109568824826028 tw9778698803679144209 tw1467056398433019066 tw11211768194893192326 tw8773057399363035455 tw17013016331777440725 tw4306105212567156437 tw3839369020925247039 tw1118748681955533287 tw10183877013369297584 tw6103061611931959702 tw4602179121332748310 tw16083689354903084914 tw9543916745698534177 tw133756881647228662 tw11450431049846654117 tw3285351615649088116 tw13770965691818387187 tw6061677871255594878 tw16303363074943285660 tw5251320543103232864 tw9630044991427858092 tw15644035061681324070 tw16544299816601649798 tw17675207434563251268 tw2528913103125225208 tw12387756039536520468 tw305544144414014366 tw3946932023021081763 tw13340545284660718745 tw18311161326608693416 tw6178968100528542487 tw18008645660168110826 tw17111610380838285015 tw989256365993105026 tw429483182578749170 tw178044593036661444 tw2944037938870437047 tw10098061887620969570 tw14974361274033623403 tw14654520236347750622 tw6548577305054460237 tw16843799899863544470 tw17278731511327576293 tw2277114757472734026 tw18440209689287357951 tw6510081101266913229 tw2461991953025204869 tw15307205855131179574 tw13984535167403910640 tw17841142083336867093 tw14200523414529475511 tw10168846456901355773 tw15545110133017444601 tw13034065240176392383 tw15278092611856537771 tw7026190735175721688 tw18048889561850164837 tw3254687845550113408 tw12342292813029100679 tw10077306699774900928 tw17767627387068609141 tw9540400823325206796 tw5595576052695153218 tw15875715955630438314 tw7867624297260201450 tw8870777818843571404 tw17738396588452674693 tw12358430808788066718 tw6076036557352408191 tw9877550726596659063 tw1689744411221412705 tw7588642138951168040 tw15477500510679338684 tw7965649941618123203 tw15244131252658401923 tw6541815747447233186 tw9715049750349013616 tw15576323342539568023 tw4133506508123861653 tw5516679455982650774 tw16116832877144063695 tw15919995371859853529 tw1585127031168047778 tw11904562419486029037 tw10165678086667958807 tw8309386910931554733 tw13115797462276571695 tw10665652406189691044 tw13503232901288205911 tw14200696823899228232 tw1074730529119280569 tw3673177268763988809 tw12383733360155536104 tw18224498432790577903 tw10557149276638484043 tw13341830197750607428 tw7025575279088694289 tw1916252185342140777 tw7358957684339344818 tw17003293643064437140 tw3400611630507832708 tw10029864374457898660 tw10322098599656969816 tw7514947120899706502 tw8602829190407052727 tw16184340969139001145 tw15588311257406060011 tw4773901251610103392 tw12971674014541325531 tw9302106269750051083 tw601375974213448380 tw3493997999970981042 tw10592180233677859427 tw8592202586844506450 tw10170761592498745075 tw2350895905618066906 tw14345468216314357158 tw5853507107149433434 tw14509545198135668166 tw2135917541755211048 tw11492726712572826020 tw11380448057348801248 tw5716022259241335961 tw10827202698174261939 tw8719590062646767884 tw988163386978000298 tw11643940399559327264 tw2198772050167083977 tw5208070655440187735 tw16090144738185053427 tw11756082649800551094 tw15514279025676527041 tw4172767455959517841 tw3063321624984168547 tw7609135438220153747 tw9055630473221041791 tw17709425196453891710 tw4531399499495650312 tw14697929008339964577 tw4820561379247487198 tw15936343830390037600 tw4831897871490534595 tw6139085076494250043 tw5028897567535979981 tw2239936802293682319 tw10484317989343905589 tw381023597008526526 tw5844366411223361783 tw7427999916469798314 tw12769389573264133226 tw8987676546296251115 tw6170244515839281109 tw11279329697721337822 tw4806946112943271389 tw16794989726475958615 tw14126095412843613761 tw10290544911214210128 tw10423913227246543831 tw1274023715630987299 tw2805384945281797746 tw5163409807871786333 tw12130526307335593794 tw3582615522722794630 tw17051468800382440312 tw1906360482130006349 tw11859850336267533033 tw4786887441676070733 tw8665633273282061772 tw16738636987308771378 tw9703391982229777630 tw14035819916382649076 tw17881196737434576779 tw2023209035853597185 tw17140064983162661690 tw15228899374082732994 tw10466068118974804098 tw5304785934613091445 tw9557777285204684989 tw6515247579134939152 tw16259297035093777984 tw11243304854324001498 tw14119166925080667059 tw3733294773766231863 tw17652231536737968291 tw9380299432014592672 tw6154244779444912749 tw13832725819408809889 tw4693853180733327058 tw14407736863434121391 tw8166931389049791886 tw9976021853639080925 tw12061980287151059849 tw15615992887079354965 tw14251760294516646411 tw3814386520191186766 tw2047305622515911918 tw12030111010665329608 tw4445989689051815194 tw839581939777675755 tw16720048370775929018 tw9715036393998627864 tw15894898018746245470 tw4043580980601190303 tw10807263433588806728 tw17071633649764689267 tw3731497231304274677 tw12034251679755337556 tw4670389010020812152 tw5157122174572836301 tw14008112688559930458 tw16799099651923597864 tw4829770519351603611 tw9610819059796678708 tw12971024892539376434 tw15907649865808092189 tw1909745640565987183 tw1202619310010753184 tw17592109498986316665 tw1855356497964702760 tw16795923642230616720 tw17780892889663800901 tw7741778337555640226 tw5751916311018778603 tw10341687081278005126 tw1956400262706857264 tw4250225985367174984 tw434325384884134860 tw14582883512120874940 tw13223360120666717828 tw12157528717837764185 tw14582258981833335121 tw5641692455328151616 tw10863878499606716114 tw17471402689064080880 tw16423773624053643185 tw12472787684158208059 tw2752267011523471627 tw6729218391032262901 tw17999934824010561851 tw10553566743250759322 tw7937839296860719521 tw12863852748079785448 tw17639726340433517895 tw8521085327858540166 tw17011482855577138402 tw6234533885510754620 tw7342493534111849309 tw11540653147131851819 tw718861040867778774 tw1023354500589526582 tw15265042592137565232 tw9611234942903046733 tw9698033478056907242 tw10370747157103510660 tw2873713550267735787 tw8990817866911005947 tw16952523907249378109 tw5485298852488584011 tw12707134879413261281 tw11673388276175721996 tw16284327427839129005 tw16325416171700963822 tw12294367779644154070 tw1214995032954225950 tw16667623196386951057 tw15156823694962826627 tw8378034502388742774 tw17586300628420620035 tw9888495621313427799 tw16277383230956137363 tw4883992541361019660 tw6772047170119218292 tw16331663547973289905 tw5015770904517272947 tw7011257839955652722 tw6158933847240736311 tw2523545360248308248 tw7118537737440550838 tw1154924683479931325 tw4751840230672455840 tw15424544565090810521 tw11278987745525463854 tw6558921931220305129 tw16096070555851161638 tw4946675280639118866 tw1501032070303427409 tw6451070712078172764 tw17399189661950422914 tw17270605239594799666 tw6387101853790786253 tw16927267503731971923 tw4255067310226291156 tw12909242828219970797 tw3988969764342049644 tw3386595622064085980 tw18252129751957174866 tw15151648369715315422 tw14678386277313076189 tw17627185701905820968 tw4274405617503078741 tw17201069479946201784 tw5727697543631523483 tw7391628393492540973 tw9354587852113004440 tw6665965658387394269 tw10352196503989058918 tw15134370277896858147 tw12675968940894332261 tw3572962960540548715 tw12210196762005620575 tw6062035989353582705 tw10063093297036701658 tw7204667257215398972 tw8858227265614608259 tw9290098318485314415 tw6560714854588942989 tw10379824178847259794 tw16468281288388958731 tw2160463614468804564 tw10266090910578520005 tw2864701568612431002 tw7060223808756528128 tw9238206990982139037 tw2197593290358938143 tw10598543526521079565 tw13091807777032775562 tw7624123185027702886 tw18124771809408615359 tw6419802522551841815 tw15106888151792722628 tw17476290705708069068 tw17512938841388834652 tw15230397013236803777 tw5579900544140022973 tw8423073088249852358 tw11322399651747201883 tw2461087983849138392 tw17777010784911214061 tw1928277429762450738 tw988339785524781741 tw13348626749640608036 tw9714201979951650405 tw12455886464814176525 tw3807780221617774995 tw9399294911199287660 tw8041538629920286871 tw10398539051151634121 tw14381921169860706492 tw9279561666242207420 tw12493053178117155732 tw16509648716842957147 tw11430797488327635537 tw1334198517816366291 tw6756592142699031767 tw4630454323779265185 tw12898272089468964845 tw14816543192617257594 tw4899056952823963766 tw17016970234699255807 tw3415479899215124389 tw17745734740524306038 tw17302313427845156961 tw1321078897351231978 tw6339693734564381132 tw14615433333310402248 tw6332428445759015527 tw12664604943270445622 tw11377782374257497996 tw9797915645424126497 tw6454978618020235209 tw131198814215641051 tw9576613634677584774 tw10636681695761915972 tw9532918873179550022 tw14704226767377958748 tw18126116820821192823 tw14320683322817567430 tw18445909276947721814 tw1891170083049171174 tw17392859155619411662 tw11385440560874551344 tw5682207004045575988 tw14501707925941619634 tw14652306281972925954 tw10463835437683761764 tw17335265247997312073 tw11363050109064474166 tw15472966507110840994 tw16851615297785498780 tw497674703132496311 tw520808680027990752 tw6619676731311192788 tw12237428932034197235 tw14610521712487891403 tw16832150548214102614 tw13991981335971273497 tw7056424118246648856 tw14234648976972349581 tw15310927939783756316 tw10991965058623625301 tw11919774080157319849 tw1470388798152304553 tw12000434932535108641 tw3388481158926648487 tw5042439470212721496 tw1049074086348389313 tw4592591505050373327 tw6306447576115246710 tw15919649102485859443 tw16618432349156254419 tw4674811534300199019 tw17318297741254376506 tw6170382387522292485 tw1370564531230583507 tw8108382606197011258 tw16020218322895289808 tw17340232928393971138 tw12952298123477215063 tw5949059937788744572 tw14699088444154935425 tw6308666216257333686 tw3016386168631907342 tw1889740909527759590 tw12417271641264707241 tw153479495423934678 tw1551135376587430190 tw14174780609221414411 tw15996173376760140495 tw7912302236343192130 tw4076651748558804736 tw12138497253398136833 tw12561341978824748241 tw2137483102603096429 tw16902579507725776618 tw16886347863403040486 tw11953774147061232904 tw13320561074204385545 tw7148729467194464587 tw4112678685324197210 tw15035975003824974721 tw14922393562799681572 tw1181772179387443670 tw13607839253377030122 tw15298045216506905283 tw5859884913041209549 tw1238835183314680865 tw11971829166064547456 tw12124623606638286634 tw12752055354146553445 tw11369642090273787045 tw6868763426548419427 tw4475555907918889980 tw2790434812161230009 tw8308840686062927366 tw10713426503480527831 tw6427500340446321788 tw11920943942863154966 tw2296862675917141650 tw17568877386120734749 tw14223543809875949665 tw1127466445513336903 tw4939226580783732160 tw5827652310501554146 tw10862000068078232168 tw11410764666504357438 tw1842075482895733853 tw14268532036085743428 tw6615818389635821700 tw14326266878743273495 tw975975923803700043 tw15645721907380290472 tw11990308995462701947 tw9765096647112050338 tw7163280287574321033 tw10958345830579020215 tw7135279946009360016 tw3092527149464480707 tw10431075791035653581 tw2097205537537803443 tw8099999166240125469 tw14763183207117754821 tw15684214845934095939 tw16049598450365930582 tw3667444967708641645 tw8389772177697997617 tw3586254167086243117 tw11926003682042199966 tw14660466959749412320 tw6653322671899963421 tw6194331042880002017 tw13499156731665980213 tw15849566455525357611 tw17335355982466145958 tw4306565289639051561 tw3564921738843923935 tw3563486669280712747 tw555627068919928481 tw6728304200197047965 tw1707691568422968558 tw9626869181896775197 tw13431541761398133309 tw13323496618688874245 tw8735877493769796480 tw12604819271737593275 tw9636029255675036204 tw393383540232329580 tw5315570805372637644 tw14897539820735858050 tw6658338833774964513 tw5635347412529580217 tw7938163970854019734 tw13400974275153402502 tw3968375154055753814 tw18118722225562098561 tw11855700180865715279 tw10184402321606800395 tw4368006322490809973 tw4412027051888934192 tw2664966234220487160 tw11523307870716571123 tw17496600462101320710 tw4402629560745935726 tw3348687445029367170 tw8779010635157669222 tw476792359838000155 tw11299361909667888635 tw14443447371648891338 tw4849836482460675088 tw2602645621431612957 tw16752846047794055077 tw1423430584425261881 tw11311540065672730068 tw3102486860245395337 tw12122935008411738216 tw1374010908615009386 tw13462522430486381940 tw3032817840810040545 tw10718345909910857117 tw14336665923699497097 tw7471006463173743886 tw1909465255820060583 tw4463179595706320331 tw5516441561602301939 tw13057665230621793429 tw1911887007539670403 tw13794083040508035606 tw8042891253797740305 tw8731139536987975654 tw5678557565767526303 tw18402393976594096412 tw12544702838942358502 tw6085635413894153521 tw3621889324453415611 tw5886889346354752107 tw12924436003942489920 tw13986538816855464031 tw7659469803539332642 tw8445064991747195789 tw15797352044428107478 tw16207789908223874580 tw107794114688053399 tw3103860912124257738 tw13930326662055000973 tw57466682758329574 tw5149009356122269313 tw4515178402399369396 tw5084173552471083556 tw2913066427016074648 tw12811831641624548997 tw9095016614394378250 tw9174936041018937914 tw2586510778201433392 tw9825277436547306069 tw12268186371392728430 tw18199047056969808328 tw13533855815566427051 tw6693345257633164356 tw16696526136715345715 tw2412312342490327955 tw1873159132325800934:True)
end PySem.W
section
set_option Elab.async false
namespace L2
open PySem PySem.Spec PyProof.Rows
noncomputable abbrev Key:=Sum Int aH
noncomputable def Wb:Key->aD->Bool
 |.inl k,v=>tG k v
 |.inr x,v=>tT x v
noncomputable def jT (w:eE):Key->Int
 |.inl k=>hashInt k
 |.inr x=>iZ w x
theorem zY:∀{k:Key}{v:aD},Wb k v=aB->(∃i t,k=iY i/\v=lJ i t)\/(∃x t,k=lE x/\v=mV x t)
 |.inl i,v,h=>by
  obtain⟨t,e⟩:=DJ (k:=i) (v:=v) h;exact .inl ⟨i,t,rfl,e⟩
 |.inr x,v,h=>by
  obtain⟨t,e⟩:=DB (x:=x) (v:=v) h;exact .inr ⟨x,t,rfl,e⟩
theorem Ul(i:Int)(t:Tok):Wb (.inl i) (.int i t)=aB:=by simp[Wb,tG]
theorem WK(x:aH)(t:Tok):Wb (.inr x) (.str x t)=aB:=by simp[Wb,tT]
theorem M8(a b:Int):decide ((iY a:Key)=iY b)=(a==b):=by
 by_cases e:a=b
 .subst e;simp
 .have h:¬(iY a:Key)=iY b:=λq=>e (Dz q);rw[decide_eq_false h];exact (beq_eq_false_iff_ne.mpr e).symm
theorem OP(a b:aH):decide ((lE a:Key)=lE b)=decide (a=b):=by
 by_cases e:a=b
 .subst e;simp
 .have h:¬(lE a:Key)=lE b:=λq=>e (ie q);rw[decide_eq_false h,decide_eq_false e]
theorem Nx(a:Int)(b:aH):decide ((iY a:Key)=lE b)=aC:=decide_eq_false (λq=>nomatch q)
theorem NX(a:aH)(b:Int):decide ((lE a:Key)=iY b)=aC:=decide_eq_false (λq=>nomatch q)
noncomputable def zD(prog:cI)(w:eE):PySem.KeyKind prog w Key where
 is:=Wb
 hash:=jT w
 inj:=λv a b l f=>by
  rcases zY l with⟨i,t,rfl,rfl⟩|⟨x,t,rfl,rfl⟩
  .rcases zY f with⟨j,u,rfl,e⟩|⟨y,u,rfl,e⟩
   .injection e with c _;rw[c]
   .exact nomatch e
  .rcases zY f with⟨j,u,rfl,e⟩|⟨y,u,rfl,e⟩
   .exact nomatch e
   .injection e with c _;rw[c]
 byValue:=λk v h=>by
  rcases zY h with⟨i,t,rfl,rfl⟩|⟨x,t,rfl,rfl⟩<;>rfl
 pyHash:=λd h=>by
  rcases zY d with⟨i,t,rfl,rfl⟩|⟨x,t,rfl,rfl⟩
  .exact wpAny_pyHash_int h
  .exact wpAny_pyHash_str h
 eqBool:=λg d h=>by
  rcases zY g with⟨i,t,rfl,rfl⟩|⟨x,t,rfl,rfl⟩
  .rcases zY d with⟨j,u,rfl,rfl⟩|⟨y,u,rfl,rfl⟩
   .rw[M8] at h;exact wpAny_eqBool_int h
   .rw[Nx] at h;exact EI i t y u _ _ _ _ h
  .rcases zY d with⟨j,u,rfl,rfl⟩|⟨y,u,rfl,rfl⟩
   .rw[NX] at h;exact EH x t j u _ _ _ _ h
   .rw[OP] at h;exact wpAny_eqBool_str h
 «strs»:=λk x t v h=>by
  rcases zY h with⟨i,u,rfl,e⟩|⟨y,u,rfl,e⟩
  .exact nomatch e
  .injection e with c _;subst c;cases v<;>rfl
theorem Kk(prog:cI)(w:eE)(i:Int)(t:Tok):(zD prog w).is (.inl i) (.int i t)=aB:=Ul i t
theorem JA(prog:cI)(w:eE)(x:aH)(t:Tok):(zD prog w).is (.inr x) (.str x t)=aB:=WK x t
end L2
namespace L2
open PySem PySem.Spec PyProof.Rows
set_option genInjectivity true in
inductive V where
 |non|bl (b:Bool)|int (i:Int)|str (x:aH)|byt (b:Array UInt8)|flt (b:UInt64)|ref (a:aF)|ty (n:String)
 deriving DecidableEq
noncomputable def RelV:V->aD->Prop
 |.non,u=>u=gI
 |.bl b,u=>u=pP b
 |.int i,u=>∃t,u=lJ i t
 |.str x,u=>∃t,u=mV x t
 |.byt b,u=>∃t,u=Dy b t
 |.flt b,u=>∃t,u=Dx b t
 |.ref a,u=>u=cN a
 |.ty n,u=>u=sW n
abbrev aY:List V->List aD->Prop:=Paired RelV
theorem aY.length(r:aY xs us):xs.length=us.length:=DA r
theorem aY.get:∀{xs:List V}{us:List aD}{i:Nat}{x:V},aY xs us->xs[i]?=aA x->∃u,us[i]?=aA u/\RelV x u
 |_,_,_,_,.nil,e=>by simp at e
 |_,_,0,_,.cons r _,e=>by simp at e;subst e;exact⟨_,rfl,r⟩
 |_,_,i+1,x,.cons _ t,e=>by
  obtain⟨u,h1,h2⟩:=aY.get (i:=i) (x:=x) t (by simpa using e);exact⟨u,by simpa using h1,h2⟩
theorem aY.set(r:RelV x u):∀{xs:List V}{us:List aD}(i:Nat),aY xs us->aY (xs.set i x) (us.set i u)
 |_,_,_,.nil=>.nil
 |_,_,0,.cons _ t=>.cons r t
 |_,_,i+1,.cons q t=>.cons q (aY.set r i t)
theorem aY.append:∀{xs ys:List V}{us a:List aD},aY xs us->aY ys a->aY (xs++ys) (us++a)
 |_,_,_,_,.nil,s=>s
 |_,_,_,_,.cons r t,s=>.cons r (aY.append t s)
theorem aY.take:∀{xs:List V}{us:List aD}(n:Nat),aY xs us->aY (xs.take n) (us.take n)
 |_,_,0,_=>.nil
 |_,_,_+1,.nil=>.nil
 |_,_,n+1,.cons r t=>.cons r (aY.take n t)
theorem aY.drop:∀{xs:List V}{us:List aD}(n:Nat),aY xs us->aY (xs.drop n) (us.drop n)
 |_,_,0,r=>r
 |_,_,_+1,.nil=>.nil
 |_,_,n+1,.cons _ t=>aY.drop n t
noncomputable def cQ:Option V->Option aD->Prop
 |some v,aA u=>RelV v u
 |none,aE=>True
 |_,_=>False
noncomputable def KV {a:Type}:List (a×V)->List (a×aD)->Prop:=Paired λ(p:a×V) (q:a×aD)=>p.1=q.1/\RelV p.2 q.2
noncomputable def kV:Key->V
 |.inl i=>.int i
 |.inr x=>.str x
inductive HO where
 |lst (xs:List V)
 |tup (xs:List V)
 |dK (kvs:List (Key×V))|dE (ep:Nat) (kvs:List (Key×V))
 |set (S:Int->Bool) (n:Nat)
 |ins (C dx:aF) (fs:List (aH×V))
 |own (x:aF)
 |xd (fs:List (aH×V))
 |met (f x:aF)
 |rng (lo hi:Int)
 |frz (o:bF) (u:HO)
 |tbl (ps:Array aD)
 |ext (φ:aV->Prop)
noncomputable abbrev Hp:=aF->Option HO
noncomputable def upd (H:Hp)(a:aF)(o:HO):Hp:=λb=>if b=a then aA o else H b
theorem z3:upd H a o a=aA o:=by unfold upd;rw[if_pos rfl]
theorem z7(h:b≠a):upd H a o b=H b:=by unfold upd;rw[if_neg h]
theorem Y0:upd (upd H a o) a u=upd H a u:=by
 funext b;unfold upd;split<;>rfl
theorem zU{H:Hp}(h:H a=aA o)(h':H b=aE):a≠b:=by
 intro e;subst e;rw[h] at h';cases h'
section
variable (P:Program)(w:World)
noncomputable def aZ(H:Hp)(h:aV)(a:aF):HO->Prop
 |.lst e=>e.length<=sizeLine/\∃(c:List aD) (n:Nat),aY e c/\h.get? a=aA {cls:=.type "list",data:=.seq c.toArray n}
 |.tup e=>e.length<=sizeLine/\∃c:List aD,aY e c/\IsTup h a c.toArray
 |.dK b=>b.length<=sizeLine/\(a==gS)=aC/\∃g,KV b g/\h.DictOf (zD P w) a g
 |.dE ep b=>b.length<=sizeLine/\(a==gS)=aC/\∃g,KV b g/\h.DictAt (zD P w) a g ep
 |.set S n=>h.SetOf (intKind P w) a S n
 |.ins C dx fs=>H dx=aA (.own a)/\fs.length<=1000/\dx≠a/\h.get? a=aA (lR C dx)/\
   ∃d,h.Ns1 dx d/\(∀f,cQ (fs.lookup f) (d f))/\tH d (fs.map (·.1))
 |.own _=>∃o,h.get? a=aA o
 |.xd fs=>∃d,h.Ns1 a d/\∀f,cQ (fs.lookup f) (d f)
 |.rng lo m=>∃t u v,h.get? a=aA {cls:=.type "range",data:=.fields #[.int lo t,.int m u,.int 1 v]}
 |.frz o u=>h.get? a=aA o/\aZ H h a u
 |.tbl l=>h.get? a=aA {cls:=.none,data:=.fields l}
 |.met f x=>h.get? a=aA (tY (.ref f) (.ref x))
 |.ext i=>i h/\(∃o,h.get? a=aA o)/\∀k j:aV,i k->(∀o,k.get? a=aA o->j.get? a=aA o)->i j
noncomputable def dN (H:Hp)(h:aV):Prop:=∀a o,H a=aA o->aZ P w H h a o
end
section
variable {P:Program}{w:World}{H H':Hp}{h h':aV}{a:aF}{o:HO}
theorem aZ.lt(x:aZ P w H h a o):a<h.objs.size:=by
 cases o with
 |lst xs=>obtain⟨_,_,_,_,e⟩:=x;exact bX e
 |tup xs=>obtain⟨_,_,_,p⟩:=x;exact p.lt
 |dK kvs=>obtain⟨_,_,_,_,o,_,_,e,_⟩:=x;exact bX e
 |dE ep kvs=>obtain⟨_,_,_,_,o,_,e,_⟩:=x;exact bX e
 |set S n=>obtain⟨o,_,_,_,e,_⟩:=x;exact bX e
 |ins C dx fs=>obtain⟨_,_,_,e,_⟩:=x;exact bX e
 |own y=>obtain⟨_,e⟩:=x;exact bX e
 |xd fs=>obtain⟨_,⟨_,_,_,e,_⟩,_⟩:=x;exact bX e
 |rng lo hi=>obtain⟨_,_,_,e⟩:=x;exact bX e
 |frz ob u=>obtain⟨e,_⟩:=x;exact bX e
 |tbl ps=>exact bX (show h.get? a=aA _ from x)
 |met f y=>exact bX (show h.get? a=aA _ from x)
 |ext φ=>obtain⟨_,⟨_,e⟩,_⟩:=x;exact bX e
theorem aZ.stay(x:aZ P w H h a o)(k:∀b u,(b=a\/H b=aA (.own a))->h.get? b=aA u->h'.get? b=aA u)
  (ho:∀b,H b=aA (.own a)->H' b=aA (.own a)) (ht:∀b xs,H b=aA (.tup xs)->H' b=aA (.tup xs)):aZ P w H' h' a o:=by
 induction o with
 |lst xs=>obtain⟨z,its,n,r,e⟩:=x;exact⟨z,its,n,r,k _ _ (.inl rfl) e⟩
 |tup xs=>obtain⟨z,its,r,ob,e,c⟩:=x;exact⟨z,its,r,ob,k _ _ (.inl rfl) e,c⟩
 |dK kvs=>obtain⟨z,y,vs,r,ob,es,ep,e,c⟩:=x;exact⟨z,y,vs,r,ob,es,ep,k _ _ (.inl rfl) e,c⟩
 |dE ep kvs=>obtain⟨z,y,vs,r,ob,es,e,c⟩:=x;exact⟨z,y,vs,r,ob,es,k _ _ (.inl rfl) e,c⟩
 |set S n=>obtain⟨ob,es,ep,t,e,c⟩:=x;exact⟨ob,es,ep,t,k _ _ (.inl rfl) e,c⟩
 |ins C dx fs=>
  obtain⟨d,z,ne,e,i,⟨g,es,ep,l,c⟩,r⟩:=x;exact⟨ho _ d,z,ne,k _ _ (.inl rfl) e,i,⟨g,es,ep,k _ _ (.inr d) l,c⟩,r⟩
 |own y=>obtain⟨ob,e⟩:=x;exact⟨ob,k _ _ (.inl rfl) e⟩
 |xd fs=>obtain⟨i,⟨g,es,ep,e,c⟩,r⟩:=x;exact⟨i,⟨g,es,ep,k _ _ (.inl rfl) e,c⟩,r⟩
 |rng lo hi=>obtain⟨t,u,v,e⟩:=x;exact⟨t,u,v,k _ _ (.inl rfl) e⟩
 |frz ob u j=>obtain⟨e,q⟩:=x;exact⟨k _ _ (.inl rfl) e,j q⟩
 |tbl ps=>
  have e:h.get? a=aA {cls:=.none,data:=.fields ps}:=x;show h'.get? a=aA {cls:=.none,data:=.fields ps};exact k a _ (.inl rfl) e
 |met f y=>
  have e:h.get? a=aA (tY (.ref f) (.ref y)):=x;show h'.get? a=aA (tY (.ref f) (.ref y));exact k a _ (.inl rfl) e
 |ext φ=>obtain⟨p,⟨o,e⟩,st⟩:=x;exact⟨st _ _ p λo q=>k _ _ (.inl rfl) q,⟨o,k _ _ (.inl rfl) e⟩,st⟩
theorem dN.lt(x:dN P w H h)(e:H a=aA o):a<h.objs.size:=(x a o e).lt
theorem dN.fresh(x:dN P w H h)(e:h.objs.size<=a):H a=aE:=by
 cases q:H a with
 |none=>rfl
 |some u=>exact absurd (dC (x.lt q) e) (iM _)
theorem dN.kept(x:dN P w H h)(k:∀b u,h.get? b=aA u->h'.get? b=aA u):dN P w H h':=λa o e=>
 (x a o e).stay (λb u _ q=>k b u q) (λ_ q=>q) λ_ _ q=>q
theorem dN.laid(x:dN P w H h)(k:∀b u,h.get? b=aA u->h'.get? b=aA u)(f:h.objs.size<=a)(new:aZ P w (upd H a o) h' a o):dN P w (upd H a o) h':=λb u e=>by
 have d:=x.fresh f;by_cases hb:b=a
 .subst hb;rw[z3] at e;cases e;exact new
 .rw[z7 hb] at e;exact (x b u e).stay (λc v _ q=>k c v q) (λc q=>by rw[z7 (zU q d)];exact q) λc xs q=>by rw[z7 (zU q d)];exact q
end
noncomputable def Rd (H:Hp)(a:aF)(u:HO):Prop:=H a=aA u\/∃o,H a=aA (.frz o u)
theorem Rd.ok{P:cI}(r:Rd H a u)(x:dN P w H h):aZ P w H h a u:=by
 rcases r with r|⟨o,r⟩
 .exact x a u r
 .obtain⟨_,q⟩:=x a _ r;exact q
noncomputable def pw:Option HO->Prop
 |some (.lst _)=>True
 |some (.dK _)=>True
 |some (.dE _ _)=>True
 |some (.set _ _)=>True
 |some (.ins _ _ _)=>True
 |some (.ext _)=>True
 |_=>False
section
variable {P:Program}{w:World}{H:Hp}{h h':aV}{x e:aF}{o':HO}
theorem dN.write(ok:dN P w H h)(g:pw (H x))(he:e=x\/H e=aA (.own x))(k:∀b u,b≠e->h.get? b=aA u->h'.get? b=aA u)(j:∃u,h'.get? e=aA u)
  (new:aZ P w (upd H x o') h' x o'):dN P w (upd H x o') h':=λb u q=>by
 have d:∀c y,H c=aA (.own y)->c≠x:=λc y r z=>by subst z;rw[r] at g;exact g
 have f:∀c xs,H c=aA (.tup xs)->c≠x:=λc xs r z=>by subst z;rw[r] at g;exact g
 by_cases hb:b=x
 .subst hb;rw[z3] at q;cases q;exact new
 .rw[z7 hb] at q;by_cases a:b=e
  .have l:H b=aA (.own x):=by
    rcases he with z|z
    .exact absurd (a.trans z) hb
    .rw[a];exact z
   rw[q] at l;cases l;obtain⟨v,m⟩:=j;exact⟨v,by rw[a];exact m⟩
  .refine (ok b u q).stay (λc v i r=>k c v ?_ r) (λc r=>by rw[z7 (d c b r)];exact r) λc xs r=>by rw[z7 (f c xs r)];exact r
   rcases i with rfl|i
   .exact a
   .rintro rfl;rcases he with z|z
    .exact d c b i z
    .rw[i] at z;cases z;exact hb rfl
end
structure Un(fs ex:List aF)(H H':Hp)(h h':aV):Prop where
 keep:∀b o,h.get? b=aA o->H b=aE->b∉fs->b∉ex->h'.get? b=aA o
 slot:∀b o,h.get? b=aA o->H b=aE->b∈fs->b∉ex->∃sl,h'.get? b=aA {o with slots:=sl}
 free:∀b o,h.get? b=aA o->H b=aE->b∉ex->H' b=aE
 there:∀b o,h.get? b=aA o->b∉ex->∃o',h'.get? b=aA o'
 tups:∀b xs,H b=aA (.tup xs)->H' b=aA (.tup xs)
 frzs:∀b o u,H b=aA (.frz o u)->H' b=aA (.frz o u)
 tbls:∀b ps,H b=aA (.tbl ps)->∃more,H' b=aA (.tbl (ps++more))
section
variable {fs ex:List aF}{H H1:Hp}{h h1 h':aV}{a x e:aF}{o:HO}
theorem Un.any(u:Un fs ex H H1 h h1)(q:h.get? b=aA ob)(n:H b=aE)(a:b∉ex):∃d,h1.get? b=aA {ob with slots:=d}:=by
 by_cases hb:b∈fs
 .exact u.slot b ob q n hb a
 .exact⟨ob.slots,u.keep b ob q n hb a⟩
theorem Un.kept(k:∀b u,h.get? b=aA u->h'.get? b=aA u):Un fs ex H H h h':=
 ⟨λb ob q _ _ _=>k b ob q,λb ob q _ _ _=>⟨ob.slots,k b ob q⟩,λ_ _ _ n _=>n,λb ob q _=>⟨ob,k b ob q⟩,λ_ _ q=>q,λ_ _ _ q=>q,λ_ ps q=>⟨#[],by rw[q];simp⟩⟩
theorem Un.refl:Un fs ex H H h h:=Un.kept λ_ _ q=>q
theorem Un.laid(k:∀b u,h.get? b=aA u->h'.get? b=aA u)(d:h.objs.size<=a)(c:H a=aE):Un fs ex H (upd H a o) h h' where
 keep:=λb u q _ _ _=>k b u q
 slot:=λb u q _ _ _=>⟨u.slots,k b u q⟩
 free:=λb u q n _=>by rw[z7 (cX (dC (bX q) d))];exact n
 there:=λb u q _=>⟨u,k b u q⟩
 tups:=λb xs q=>by rw[z7 (zU q c)];exact q
 frzs:=λb u xs q=>by rw[z7 (zU q c)];exact q
 tbls:=λb ps q=>⟨#[],by rw[z7 (zU q c),q];simp⟩
theorem Un.write(c:pw (H x))(he:e=x\/H e=aA (.own x))(k:∀b u,b≠e->h.get? b=aA u->h'.get? b=aA u)(f:∃u,h'.get? e=aA u):Un fs ex H (upd H x o) h h':=by
 have g:∀b,H b=aE->b≠x:=λb n z=>by subst z;rw[n] at c;exact c
 have hb:∀b,H b=aE->b≠e:=λb n z=>by
  subst z;rcases he with r|r
  .exact g b n r
  .rw[n] at r;cases r
 have d:∀b u,H b=aA u->¬pw (aA u)->b≠x:=λb u q nm z=>by subst z;rw[q] at c;exact nm c
 refine⟨λb u q n _ _=>k b u (hb b n) q,λb u q n _ _=>⟨u.slots,k b u (hb b n) q⟩,λb u q n _=>by rw[z7 (g b n)];exact n,λb u q _=>?_,
  λb xs q=>by rw[z7 (d b _ q λz=>z)];exact q,λb u xs q=>by rw[z7 (d b _ q λz=>z)];exact q,λb ps q=>⟨#[],by rw[z7 (d b _ q λz=>z),q];simp⟩⟩
 by_cases a:b=e
 .subst a;exact f
 .exact⟨u,k b u a q⟩
end
noncomputable def sq (h:aV)(H:Hp):List aF:=(eX h.objs.size).filter λa=>(H a).isSome
noncomputable def QO (h:aV)(H:Hp):aV:=PySem.W.hideAll h (sq h H)
theorem UQ(h:aV)(H:Hp):(QO h H).objs.size=h.objs.size:=PySem.W.hideAll_size _ _
theorem To(e:h.get? b=aA o)(n:H b=aE):(QO h H).get? b=aA o:=
 PySem.W.hideAll_get _ e λa=>by
  have q:(H b).isSome=aB:=(eW.mp a).2;rw[n] at q;simp at q
theorem Sm(e:(QO h H).get? b=aA o):h.get? b=aA o/\H b=aE:=by
 have a:h.get? b=aA o:=PySem.W.of_hideAll (sq h H) e;refine⟨a,?_⟩;cases q:H b with
 |none=>rfl
 |some x=>
  have c:b∈sq h H:=eW.mpr ⟨lP.mpr (bX a),by simp[q]⟩;have z:(QO h H).get? b=aE:=PySem.W.hideAll_none (sq h H) c;rw[z] at e;cases e
noncomputable def Pf(g h:aV)(L:aF):List (aF×bF):=(eX h.objs.size).filterMap λa=>if a=L\/(g.get? a).isSome=aB then aE else (h.get? a).map λo=>(a,o)
noncomputable def rest (g h:aV)(L d:aF):List (aF×bF):=(Pf g h L).filter λp=>decide (p.1≠d)
end L2
namespace L2
open PySem PySem.Spec PyProof.Rows
structure Mod(K:PySem.W.Frag)(mg:aH->Option aD)(base:aV):Prop where
 kin:K.In base
 glob:base.Ns bT mg
 blt:∃mb,base.Ns lM mb/\∀x:aH,x≠"__name__"->mb x=hV x
 nolimit:base.NoLimit
structure Cx where
 prog:cI
 w:eE
 K:bO
 mg:aH->Option aD
 base:aV
 A:fQ
 N:List aH
 s₀:bB
 H₀:Hp
 env:Env
 outer:List Env
 stack:List Env
 ex:List aF
 fn:aH->Bool
 calm:Bool
 pn:List (aF×bF)
 xe:aD->bB->Prop
noncomputable def eS(l:List Env):List aF:=l.filterMap (·.frame)
noncomputable abbrev Cx.fs(X:Cx):List aF:=eS X.outer
noncomputable def iB(sc:Scope)(x:aH):Prop:=sc.names.lookup x=aA .local\/sc.names.lookup x=aA .cell\/sc.names.lookup x=aA .free
noncomputable def Loc(sc:Scope)(x:aH):Prop:=sc.names.lookup x=aA .local\/sc.names.lookup x=aA .cell
noncomputable def Look(env:Env)(h:aV)(m:aH->Option aD)(x:aH)(u:aD):Prop:=
 (env.kindOf x=aA .local/\m x=aA u)\/((env.kindOf x=aA .cell\/env.kindOf x=aA .free)/\∃c,env.cells.lookup x=aA c/\h.IsCell c (aA u))
structure Cx.Ok(X:Cx):Prop where
 mod:Mod X.K X.mg X.base
 kind:X.env.scope.kind=.function
 glob:X.env.globals=bT
 blt:X.env.builtins=lM
 above:X.s₀.heap.objs.size<=X.env.locals
 inj:∀x y c,X.env.cells.lookup x=aA c->X.env.cells.lookup y=aA c->x=y
 has:∀x,(X.env.kindOf x=aA .cell\/X.env.kindOf x=aA .free)->∃c,X.env.cells.lookup x=aA c
 cab:∀x c,X.fn x=aB->X.env.cells.lookup x=aA c->X.s₀.heap.objs.size<=c
 hd:X.calm=aB->X.A.handled=aE
 frames:X.A.frames=aA X.stack
 stk:X.stack=X.outer\/(X.stack=X.env::X.outer/\X.env.frame=aA X.env.locals)
 exf:∀b∈X.ex,b≠X.env.locals/\∀x c,X.env.cells.lookup x=aA c->c≠b
 bs:∀b o,X.base.get? b=aA o->X.s₀.heap.get? b=aA o/\X.H₀ b=aE
 bsz:X.base.objs.size<=X.s₀.heap.objs.size
 noex:∀b o,X.base.get? b=aA o->b∉X.ex
 exfs:∀b∈X.ex,b∉X.fs
 funs:X.s₀.heap.FunFrames X.base X.outer
 frf:∀b∈X.fs,X.H₀ b=aE
structure Inv(X:Cx)(pins:List (aF×bF))(σ:List (Option V))(H:Hp)(s:Shared):Prop where
 ok:X.Ok
 os:s.os=X.s₀.os
 bare:iX s.gens
 base:Un X.fs X.ex X.H₀ H X.s₀.heap s.heap
 loc:∃m,s.heap.Ns X.env.locals m/\∀(i:Nat) (x:aH) (v:V),X.N[i]?=aA x->σ[i]?=aA (aA v)->iB X.env.scope x->∃u,RelV v u/\Look X.env s.heap m x u
 cell:∀x c,X.env.cells.lookup x=aA c->∃v,s.heap.IsCell c v
 free:H X.env.locals=aE
 freeC:∀x c,X.env.cells.lookup x=aA c->H c=aE\/(X.fn x=aC/\∃o u,H c=aA (.frz o u))
 pin:∀p∈X.pn++pins,s.heap.get? p.1=aA p.2/\H p.1=aE/\p.1≠X.env.locals/\p.1∉X.fs/\∀v,p.2.data≠.cell v
 hok:dN X.prog X.w H s.heap
 len:σ.length=X.N.length
section
variable {X:Cx}{pins:List (aF×bF)}{σ:List (Option V)}{H H':Hp}{s:Shared}{h':aV}
theorem Cx.Ok.nofr(ok:X.Ok)(e:X.base.get? b=aA o):b∉X.fs:=λhb=>by
 have:=(ok.funs.mem hb).1;rw[e] at this;cases this
theorem Inv.bs(I:Inv X pins σ H s):∀b o,X.base.get? b=aA o->s.heap.get? b=aA o/\H b=aE:=λb o e=>
 ⟨I.base.keep b o (I.ok.bs b o e).1 (I.ok.bs b o e).2 (I.ok.nofr e) (I.ok.noex b o e),I.base.free b o (I.ok.bs b o e).1 (I.ok.bs b o e).2 (I.ok.noex b o e)⟩
theorem Inv.bk(I:Inv X pins σ H s):∀b o,X.base.get? b=aA o->s.heap.get? b=aA o:=λb o e=>(I.bs b o e).1
theorem Inv.mod(I:Inv X pins σ H s):Mod X.K X.mg X.base:=I.ok.mod
theorem Inv.kIn(I:Inv X pins σ H s):X.K.In s.heap:=I.ok.mod.kin.keeps I.bk
theorem Inv.lt(I:Inv X pins σ H s):X.env.locals<s.heap.objs.size:=let ⟨_,a,_⟩:=I.loc;a.lt
theorem Inv.sz(I:Inv X pins σ H s):X.s₀.heap.objs.size<=s.heap.objs.size:=dG I.ok.above (i8 I.lt)
theorem Inv.nofs(I:Inv X pins σ H s){a:aF}(h:s.heap.objs.size<=a):a∉X.fs:=λhb=>by
 obtain⟨_,o,ho,_⟩:=I.ok.funs.mem hb;exact absurd (dC (bX ho) (dG I.sz h)) (iM _)
theorem Inv.cne(I:Inv X pins σ H s):∀x c,X.env.cells.lookup x=aA c->c≠X.env.locals:=λx c e z=>by
 obtain⟨v,o,ho,hd⟩:=I.cell x c e;obtain⟨m,⟨d,es,ep,a,b,_⟩,_⟩:=I.loc;rw[z,a] at ho;cases ho;rw[b] at hd;cases hd
theorem Inv.funs(I:Inv X pins σ H s):s.heap.FunFrames X.base X.outer:=by
 have all:∀(l:List Env),(∀b∈eS l,b∈X.fs)->X.s₀.heap.FunFrames X.base l->s.heap.FunFrames X.base l:=by
  intro l;induction l with
  |nil=>intro _ _;trivial
  |cons env r d=>
   intro hs g;obtain⟨hk,⟨L,o,a,f,ho,hd⟩,hr⟩:=g;have c:L∈X.fs:=hs L (by unfold eS;rw[wn,a];exact dJ);obtain⟨h,e⟩:=I.base.slot L o ho (I.ok.frf L c) c λz=>I.ok.exfs L z c;exact⟨hk,⟨L,_,a,f,e,hd⟩,d (λb hb=>hs b (by unfold eS;rw[wn,a];exact cW _ hb)) hr⟩
 exact all X.outer (λ_ hb=>hb) I.ok.funs
theorem Inv.stack(I:Inv X pins σ H s):s.heap.FunFrames X.base X.stack:=by
 rcases I.ok.stk with e|⟨e,b⟩
 .rw[e];exact I.funs
 .rw[e];obtain⟨m,a,_⟩:=I.loc;refine .cons (by rw[I.ok.kind];decide) b a ?_ I.funs;exact lX (dG I.ok.bsz I.ok.above)
theorem Inv.stkSub(I:Inv X pins σ H s):∀b∈eS X.stack,b∈X.env.locals::X.fs:=λb hb=>by
 rcases I.ok.stk with e|⟨e,a⟩
 .rw[e] at hb;exact cW _ hb
 .rw[e] at hb;unfold eS at hb;rw[wn,a] at hb;exact hb
theorem Inv.stkFree(I:Inv X pins σ H s):∀b∈eS X.stack,H b=aE:=λb hb=>by
 rcases cK.mp (I.stkSub b hb) with e|hb
 .rw[e];exact I.free
 .obtain⟨_,o,ho,_⟩:=I.ok.funs.mem hb;exact I.base.free b o ho (I.ok.frf b hb) λz=>I.ok.exfs b z hb
theorem Inv.step{ch:List aF}(I:Inv X pins σ H s)
  (h:∀b∈ch,(b∈X.ex\/X.s₀.heap.objs.size<=b)/\b≠X.env.locals/\(∀x c,X.env.cells.lookup x=aA c->c≠b)/\∀p∈X.pn++pins,p.1≠b)
  (keep:∀b o,b≠X.env.locals->b∉X.fs->b∉ch->s.heap.get? b=aA o->H b=aE->h'.get? b=aA o)
  (slot:∀b o,b≠X.env.locals->b∈X.fs->b∉ch->s.heap.get? b=aA o->H b=aE->∃G,h'.get? b=aA {o with slots:=G}) (free:∀b o,b∉ch->s.heap.get? b=aA o->H b=aE->H' b=aE)
  (there:∀b o,b∉ch->s.heap.get? b=aA o->∃A,h'.get? b=aA A)
  (tups:∀b xs,H b=aA (.tup xs)->H' b=aA (.tup xs)) (frzs:∀b o u,H b=aA (.frz o u)->H' b=aA (.frz o u)) (tbls:∀b ps,H b=aA (.tbl ps)->∃C,H' b=aA (.tbl (ps++C)))
  (ns:∀m,s.heap.Ns X.env.locals m->h'.Ns X.env.locals m) (hok:dN X.prog X.w H' h') (P:iX g') :
  Inv X pins σ H' {s with heap:=h',gens:=g',drawn:=d',toks:=t'}:=by
 have B:∀b o,X.s₀.heap.get? b=aA o->b≠X.env.locals:=λb o e=>cX (dC (bX e) I.ok.above);have t:∀b o,X.s₀.heap.get? b=aA o->b∉X.ex->b∉ch:=λb o e a hb=>by
  rcases (h b hb).1 with z|z
  .exact a z
  .exact absurd (dC (bX e) z) (iM _)
 have j:∀x c,X.env.cells.lookup x=aA c->∀v,s.heap.IsCell c v->h'.IsCell c v:=λx c e v ⟨o,ho,hd⟩=>by
  have g:c∉ch:=λz=>(h c z).2.2.1 x c e rfl;rcases I.freeC x c e with f|⟨_,ob,u,f⟩
  .by_cases K:c∈X.fs
   .obtain⟨G,q⟩:=slot c o (I.cne x c e) K g ho f;exact⟨_,q,hd⟩
   .exact⟨o,keep c o (I.cne x c e) K g ho f,hd⟩
  .have h1:=(I.hok c _ f).1;rw[ho] at h1;cases h1;exact⟨o,(hok c _ (frzs c _ u f)).1,hd⟩
 refine⟨I.ok,I.os,P,⟨λb o e n hb a=>?_,λb o e n hb a=>?_,λb o e n a=>?_,λb o e a=>?_,λb xs e=>tups b xs (I.base.tups b xs e),λb o xs e=>frzs b o xs (I.base.frzs b o xs e),λb ps e=>?_⟩,?_,λx c e=>?_,?_,λx c e=>?_,λp J=>?_,hok,I.len⟩
 .exact keep b o (B b o e) hb (t b o e a) (I.base.keep b o e n hb a) (I.base.free b o e n a)
 .obtain⟨G,y⟩:=I.base.slot b o e n hb a;obtain⟨E,D⟩:=slot b _ (B b o e) hb (t b o e a) y (I.base.free b o e n a);exact⟨E,D⟩
 .obtain⟨A,y⟩:=I.base.there b o e a;exact free b A (t b o e a) y (I.base.free b o e n a)
 .obtain⟨A,y⟩:=I.base.there b o e a;exact there b A (t b o e a) y
 .obtain⟨M,y⟩:=I.base.tbls b ps e;obtain⟨L,D⟩:=tbls b _ y;exact⟨M++L,by rw[D,Array.append_assoc]⟩
 .obtain⟨m,N,O⟩:=I.loc;refine⟨m,ns m N,λi x v y D Q=>?_⟩;obtain⟨u,r,l⟩:=O i x v y D Q;refine⟨u,r,?_⟩;rcases l with l|⟨k,c,e,z⟩
  .exact .inl l
  .exact .inr ⟨k,c,e,j x c e _ z⟩
 .obtain⟨v,z⟩:=I.cell x c e;exact⟨v,j x c e v z⟩
 .obtain⟨m,⟨o,_,_,ho,_⟩,_⟩:=I.loc;exact free _ o (λz=>(h _ z).2.1 rfl) ho I.free
 .obtain⟨v,o,ho,hd⟩:=I.cell x c e;exact (I.freeC x c e).imp (free c o (λz=>(h c z).2.2.1 x c e rfl) ho) λ⟨n,ob,u,f⟩=>⟨n,ob,u,frzs c ob u f⟩
 .obtain⟨e,n,ne,F,d⟩:=I.pin p J;have g:p.1∉ch:=λz=>(h p.1 z).2.2.2 p J rfl;exact⟨keep p.1 p.2 ne F g e n,free p.1 p.2 g e n,ne,F,d⟩
theorem Inv.un(I:Inv X pins σ H s)(u:Un X.fs [] H H' s.heap h')(hok:dN X.prog X.w H' h'):Inv X pins σ H' {s with heap:=h',toks:=t'}:=by
 obtain⟨m,⟨o,es,ep,ho,r⟩,_⟩:=id I.loc;obtain⟨i,h⟩:=u.any ho I.free (by simp);exact I.step (g':=s.gens) (d':=s.drawn) (ch:=[]) (λ_ z=>nomatch z) (λb o _ hb _ e n=>u.keep b o e n hb (by simp)) (λb o _ hb _ e n=>u.slot b o e n hb (by simp)) (λb o _ e n=>u.free b o e n (by simp)) (λb o _ e=>u.there b o e (by simp)) u.tups u.frzs u.tbls (λm' g=>by
  obtain⟨j,c,d,a,f⟩:=g;rw[ho] at a;cases a;exact⟨_,c,d,h,f⟩) hok I.bare
theorem Inv.call{ch:List aF}(I:Inv X pins σ H s)(u:Un (eS X.stack) ch H H' s.heap h')(hok:dN X.prog X.w H' h')(l:iX g')
  (f:∀b∈ch,(b∈X.ex\/X.s₀.heap.objs.size<=b)/\b≠X.env.locals/\(∀x c,X.env.cells.lookup x=aA c->c≠b)/\∀p∈X.pn++pins,p.1≠b) :
  Inv X pins σ H' {s with heap:=h',gens:=g',drawn:=d',toks:=t'}:=by
 obtain⟨m,⟨o,es,ep,ho,r⟩,_⟩:=id I.loc;obtain⟨q,g⟩:=u.any ho I.free λz=>(f _ z).2.1 rfl;exact I.step (ch:=ch) f (λb o g hb a e n=>u.keep b o e n (λz=>(cK.mp (I.stkSub b z)).elim g hb) a) (λb o _ _ a e n=>u.any e n a) (λb o a e n=>u.free b o e n a) (λb o a e=>u.there b o e a) u.tups u.frzs u.tbls (λm' k=>by
  obtain⟨t,h,i,d,j⟩:=k;rw[ho] at d;cases d;exact⟨_,h,i,g,j⟩) hok l
theorem Inv.turned{t':Nat}(I:Inv X pins σ H s)(k:∀b o,b≠it->s.heap.get? b=aA o->h'.get? b=aA o)(g:H it=aE)(f:it≠X.env.locals)
  (h1:it∈X.ex\/X.s₀.heap.objs.size<=it) (h2:∀x c,X.env.cells.lookup x=aA c->c≠it) (i:∀p∈X.pn++pins,p.1≠it):Inv X pins σ H {s with heap:=h',toks:=t'}:=by
 have d:∀b u,H b=aA u->b≠it:=λb u e z=>by rw[z,g] at e;cases e
 refine I.step (g':=s.gens) (d':=s.drawn) (ch:=[it]) (λb hb=>?_) (λb o _ _ a e _=>k b o (λz=>a (by simp[z])) e) (λb o _ _ a e _=>⟨o.slots,k b o (λz=>a (by simp[z])) e⟩) (λ_ _ _ _ n=>n)
  (λb o a e=>⟨o,k b o (λz=>a (by simp[z])) e⟩) (λ_ _ e=>e) (λ_ _ _ e=>e) (λb ps e=>⟨#[],by rw[e];simp⟩) (λm h=>?_) (λb u e=>?_) I.bare
 .have e:b=it:=by simpa using hb
  subst e;exact⟨h1,f,h2,i⟩
 .obtain⟨o,es,ep,ho,r⟩:=h;exact⟨o,es,ep,k _ o (bW f) ho,r⟩
 .refine (I.hok b u e).stay (λc v a q=>k c v ?_ q) (λ_ q=>q) λ_ _ q=>q;rcases a with z|z
  .rw[z];exact d b u e
  .exact d c _ z
theorem Inv.tok(I:Inv X pins σ H s)(t:Nat):Inv X pins σ H {s with toks:=t}:=I.un (h':=s.heap) (t':=t) Un.refl I.hok
theorem Inv.kept(I:Inv X pins σ H s)(k:∀b u,s.heap.get? b=aA u->h'.get? b=aA u):Inv X pins σ H {s with heap:=h',toks:=t'}:=I.un (Un.kept k) (I.hok.kept k)
theorem Inv.laid{a:aF}(I:Inv X pins σ H s)(k:∀b u,s.heap.get? b=aA u->h'.get? b=aA u)(c:s.heap.objs.size<=a)(new:aZ X.prog X.w (upd H a o) h' a o) :
  Inv X pins σ (upd H a o) {s with heap:=h',toks:=t'}:=I.un (Un.laid k c (I.hok.fresh c)) (I.hok.laid k c new)
theorem Inv.write(I:Inv X pins σ H s)(c:pw (H x))(he:e=x\/H e=aA (.own x))(k:∀b u,b≠e->s.heap.get? b=aA u->h'.get? b=aA u)(a:∃u,h'.get? e=aA u)
  (new:aZ X.prog X.w (upd H x o) h' x o):Inv X pins σ (upd H x o) {s with heap:=h',toks:=t'}:=I.un (Un.write c he k a) (I.hok.write c he k a new)
theorem Inv.pins_of(I:Inv X pins σ H s)(h:∀p∈d,s.heap.get? p.1=aA p.2/\H p.1=aE/\p.1≠X.env.locals/\p.1∉X.fs/\∀v,p.2.data≠.cell v):Inv X d σ H s:=
 ⟨I.ok,I.os,I.bare,I.base,I.loc,I.cell,I.free,I.freeC,λp a=>(b_.mp a).elim (λz=>I.pin p (eY _ z)) (h p),I.hok,I.len⟩
theorem Zm{N:List aH}(hN:N.Nodup){i:Nat}(a:N[i]?=aA x)(b:N[j]?=aA x):i=j:=by
 obtain⟨f,d⟩:=bE.mp a;obtain⟨e,c⟩:=bE.mp b;exact (nZ hN).mp (d.trans c.symm)
theorem U5{E:aD->bB->Prop}{i:Nat}{x:aH}{v:V}{u:aD}(I:Inv X pins σ H s)(hN:X.N.Nodup)(hi:X.N[i]?=aA x)(B:Loc X.env.scope x)(r:RelV v u)
  (h:∀s',Inv X pins (σ.set i (aA v)) H s'->(∃a,fR a s.heap s'.heap/\(a=X.env.locals\/X.env.cells.lookup x=aA a))->Q () s') (hf:X.fn x=aB\/X.env.scope.names.lookup x=aA .local:=by first|exact .inl rfl|exact .inr rfl|assumption):wpAny M A (storeName X.env x u) Q E s:=by
 obtain⟨m,hn,hl⟩:=id I.loc;have S:(X.env.scope.kind==.class || (X.env.scope.kind==.module&&X.env.locals != X.env.globals))=aC:=by rw[I.ok.kind];rfl
 have J:i<σ.length:=by rw[I.len];exact (bE.mp hi).1
 have cne:=I.cne;have g:∀{a:aF}{O:aV},(∃o,s.heap.get? a=aA o/\H a=aE)->fR a s.heap O->dN X.prog X.w H O:=λ{a O} ha f b ob e=>by
  obtain⟨_,_,C⟩:=ha;refine (I.hok b ob e).stay (λc W t q=>(f.2 c ?_).trans q) (λ_ q=>q) λ_ _ q=>q;rintro rfl;rcases t with rfl|t
  .rw[C] at e;cases e
  .rw[C] at t;cases t
 rcases B with G|G
 .refine wpAny_storeName_local G hn (λO hn' f=>?_) S;obtain⟨oL,_,_,hoL,_⟩:=id hn;refine h _ ⟨I.ok,I.os,I.bare,⟨λb o e n L B=>?_,λb o e n L B=>?_,I.base.free,λb o e B=>?_,I.base.tups,I.base.frzs,I.base.tbls⟩,⟨_,hn',λj y v' l F e3=>?_⟩,λy c e=>?_,I.free,I.freeC,λp hp=>?_,g ⟨oL,hoL,I.free⟩ f,by simpa using I.len⟩ ⟨_,f,.inl rfl⟩
  .exact (f.2 b (cX (dC (bX e) I.ok.above))).trans (I.base.keep b o e n L B)
  .obtain⟨sl,l⟩:=I.base.slot b o e n L B;exact⟨sl,(f.2 b (cX (dC (bX e) I.ok.above))).trans l⟩
  .obtain⟨o',l⟩:=I.base.there b o e B;exact⟨o',(f.2 b (cX (dC (bX e) I.ok.above))).trans l⟩
  .by_cases K:j=i
   .subst K;rw[hi] at l;cases l;rw[lY J] at F;cases F;exact⟨u,r,.inl ⟨G,by simp⟩⟩
   .rw[bR (bW K)] at F;obtain⟨u',r',q⟩:=hl j y v' l F e3;refine⟨u',r',?_⟩;rcases q with⟨k,e⟩|⟨k,c,e,z⟩
    .refine .inl ⟨k,?_⟩;have:y≠x:=λe=>K (Zm hN l (e▸hi));simp[this,e]
    .exact .inr ⟨k,c,e,z.sameBut f (cne y c e)⟩
  .obtain⟨W,z⟩:=I.cell y c e;exact⟨W,z.sameBut f (cne y c e)⟩
  .obtain⟨e,n,Y,nf,d⟩:=I.pin p hp;exact⟨(f.2 p.1 Y).trans e,n,Y,nf,d⟩
 .have D:X.fn x=aB:=by
   rcases hf with z|z
   .exact z
   .rw[z] at G;cases G
  obtain⟨c,t⟩:=I.ok.has x (.inl G);obtain⟨W,z⟩:=I.cell x c t;refine wpAny_storeName_cell I.ok.kind G t z (λO U f=>?_);obtain⟨oc,R,P⟩:=id z;refine h {s with heap:=O} ⟨I.ok,I.os,I.bare,⟨λb o e n L B=>?_,λb o e n L B=>?_,I.base.free,λb o e B=>?_,I.base.tups,I.base.frzs,I.base.tbls⟩,⟨m,hn.sameBut f (bW (cne x c t)),λj y v' l F e3=>?_⟩,λy Z e=>?_,I.free,I.freeC,λp hp=>?_,g ⟨oc,R,(I.freeC x c t).resolve_right λz=>by rw[D] at z;cases z.1⟩ f,by simpa using I.len⟩ ⟨c,f,.inr t⟩
  .exact (f.2 b (cX (dC (bX e) (I.ok.cab x c D t)))).trans (I.base.keep b o e n L B)
  .obtain⟨sl,l⟩:=I.base.slot b o e n L B;exact⟨sl,(f.2 b (cX (dC (bX e) (I.ok.cab x c D t)))).trans l⟩
  .obtain⟨o',l⟩:=I.base.there b o e B;exact⟨o',(f.2 b (cX (dC (bX e) (I.ok.cab x c D t)))).trans l⟩
  .by_cases K:j=i
   .subst K;rw[hi] at l;cases l;rw[lY J] at F;cases F;exact⟨u,r,.inr ⟨.inl G,c,t,U⟩⟩
   .rw[bR (bW K)] at F;obtain⟨u',r',q⟩:=hl j y v' l F e3;refine⟨u',r',?_⟩;rcases q with q|⟨k,Z,e,z'⟩
    .exact .inl q
    .refine .inr ⟨k,Z,e,z'.sameBut f ?_⟩;rintro rfl;exact K (Zm hN l (I.ok.inj _ _ _ e t▸hi))
  .by_cases T:Z=c
   .subst T;exact⟨_,U⟩
   .obtain⟨w2,z2⟩:=I.cell y Z e;exact⟨w2,z2.sameBut f T⟩
  .obtain⟨e,n,Y,nf,d⟩:=I.pin p hp;refine⟨(f.2 p.1 ?_).trans e,n,Y,nf,d⟩;intro q;rw[q,R] at e;have q':oc=p.2:=bQ e;exact d W (by rw[<-q'];exact P)
theorem Kr{i:Nat}{x:aH}{v:V}(I:Inv X pins σ H s)(hN:X.N.Nodup)(hi:X.N[i]?=aA x)(a:Loc X.env.scope x)(r:RelV v u)
  (h:∀d,Inv X pins (σ.set i (aA v)) H d->Q () d) (b:X.fn x=aB\/X.env.scope.names.lookup x=aA .local:=by first|exact .inl rfl|exact .inr rfl|assumption):wpAny M A (storeName X.env x u) Q E s:=
 U5 I hN hi a r (λd c _=>h d c) b
theorem Inv.call'(I:Inv X pins σ H s)(ho:d.os=s.os)(u:Un (eS X.stack) ch H H' s.heap d.heap)(hok:dN X.prog X.w H' d.heap)(g:iX d.gens)
  (a:∀b∈ch,(b∈X.ex\/X.s₀.heap.objs.size<=b)/\b≠X.env.locals/\(∀x c,X.env.cells.lookup x=aA c->c≠b)/\∀p∈X.pn++pins,p.1≠b):Inv X pins σ H' d:=by
 obtain⟨h',g',d',t',f⟩:=d;have e:f=s.os:=ho;subst e;exact I.call (g':=g') (t':=t') (d':=d') u hok g a
end
noncomputable abbrev XK:=aD->Option aF->Hp->Prop
noncomputable abbrev St:=List (Option V)
noncomputable abbrev VK:=V->Hp->Prop
noncomputable abbrev TE:=St->Hp->VK->Prop
noncomputable abbrev TT:=St->Hp->(Bool->Hp->Prop)->Prop
noncomputable abbrev TA:=St->Hp->(List V->Hp->Prop)->Prop
structure Ends where
 nx:St->Hp->Prop
 rt:VK
 bk:St->Hp->Prop:=λ_ _=>False
 ct:St->Hp->Prop:=λ_ _=>False
noncomputable abbrev TS:=Ends->St->Hp->Prop
inductive EP(X:Cx)(pins:List (aF×bF))(σ:St)(Q:VK)(u:aD)(s':Shared):Prop where
 |mk (v:V) (H':Hp) (i:Inv X pins σ H' s') (r:RelV v u) (q:Q v H')
inductive TP(X:Cx)(pins:List (aF×bF))(σ:St)(Q:Bool->Hp->Prop)(b:Bool)(s':Shared):Prop where
 |mk (H':Hp) (i:Inv X pins σ H' s') (q:Q b H')
inductive AP(X:Cx)(pins:List (aF×bF))(σ:St)(Q:List V->Hp->Prop)(us:List aD)(s':Shared):Prop where
 |mk (vs:List V) (H':Hp) (i:Inv X pins σ H' s') (r:aY vs us) (q:Q vs H')
noncomputable def SP (X:Cx)(b:List (aF×bF))(D:Ends)(f:Flow)(d:bB):Prop:=
 match f with
 |.next=>∃a c,Inv X b a c d/\D.nx a c
 |.brk=>∃a c,Inv X b a c d/\D.bk a c
 |.cont=>∃a c,Inv X b a c d/\D.ct a c
 |.ret u=>∃v a c,Inv X b a c d/\RelV v u/\D.rt v c
noncomputable def PE (X:Cx)(e:aI)(t:TE):Prop:=
 ∀(a:List (aF×bF)) (s:bB) (b:St) (H:Hp) (Q:VK),Inv X a b H s->t b H Q->wpAny (aS X.prog X.w) X.A (eval e X.env) (EP X a b Q) X.xe s
noncomputable def PT (X:Cx)(e:aI)(t:TT):Prop:=
 ∀(a:List (aF×bF)) (s:bB) (b:St) (H:Hp) (Q:Bool->Hp->Prop),Inv X a b H s->t b H Q->wpAny (aS X.prog X.w) X.A (isTrue e X.env (eval e X.env)) (TP X a b Q) X.xe s
noncomputable def PW (X:Cx)(e:aI)(t:TT):Prop:=
 ∀(b:Sem aD) (a:List (aF×bF)) (s:bB) (c:St) (H:Hp) (Q:Bool->Hp->Prop),Inv X a c H s->t c H Q->wpAny (aS X.prog X.w) X.A (isTrue e X.env b) (TP X a c Q) X.xe s
theorem PW.pt{X:Cx}(h:PW X e t):PT X e t:=h _
noncomputable def PA (X:Cx)(es:List aI)(t:TA):Prop:=
 ∀(c:Pos) (a:List (aF×bF)) (s:bB) (b:St) (H:Hp) (Q:List V->Hp->Prop),Inv X a b H s->t b H Q->wpAny (aS X.prog X.w) X.A (spliced (eU c (dW es X.env))) (AP X a b Q) X.xe s
noncomputable def PS (X:Cx)(st:bG)(t:TS):Prop:=
 ∀(a:List (aF×bF)) (s:bB) (b:St) (H:Hp) (D:Ends),Inv X a b H s->t D b H->wpAny (aS X.prog X.w) X.A (exec st X.env) (SP X a D) X.xe s
noncomputable def gP (X:Cx)(st:List bG)(t:TS):Prop:=
 ∀(a:List (aF×bF)) (s:bB) (b:St) (H:Hp) (D:Ends),Inv X a b H s->t D b H->wpAny (aS X.prog X.w) X.A (execs st X.env) (SP X a D) X.xe s
theorem aW{α:Type}{t:Sem α}{Q Q':α->bB->Prop}(h:wpAny M A t Q E s)(b:∀a s,Q a s->Q' a s):wpAny M A t Q' E s:=dY h b λ_ _ x=>x
end L2
namespace L2
open PySem PySem.Spec PyProof.Rows
section
variable {X:Cx}
noncomputable def Lx (i:Nat):TE:=λa H Q=>∃v,a[i]?=aA (aA v)/\Q v H
noncomputable def tC (v:V):TE:=λ_ H Q=>Q v H
theorem ug {pos:Pos}(hN:X.N[i]?=aA x) (n:iB X.env.scope x) (hd:(x==("__debug__":aH))=aC:=by decide) (g:(x==("__classdict__":aH))=aC:=by decide):PE X (.Name x pos) (Lx i):=by
 intro f s k H Q I h;obtain⟨v,e,h⟩:=h;obtain⟨m,o,q⟩:=I.loc;obtain⟨u,r,l⟩:=q i x v hN e n;have d:EP X f k Q u s:=⟨v,H,I,r,h⟩;rcases l with⟨b,p⟩|⟨b,c,j,a⟩
 .exact sV (wpAny_loadName_local I.ok.kind b o p d) hd
 .rcases b with b|b
  .exact sV (wpAny_loadName_cell I.ok.kind b j a d) hd
  .exact sV (wpAny_loadName_free I.ok.kind b j a d g) hd
theorem Nl{i j pos}:PE X (.Constant (.int i) j pos) (tC (.int i)):=λ_ _ _ H _ I h=>wpAny_Constant_int ⟨.int i,H,I.tok _,⟨_,rfl⟩,h⟩
theorem Mu{b j pos}:PE X (.Constant (.bool b) j pos) (tC (.bl b)):=λ_ _ _ H _ I h=>Constant_bool ⟨.bl b,H,I,rfl,h⟩
theorem Ny{j pos}:PE X (.Constant .none j pos) (tC .non):=λ_ _ _ H _ I h=>Constant_none ⟨.non,H,I,rfl,h⟩
theorem Vt{x j pos}:PE X (.Constant (.str x) j pos) (tC (.str x)):=λ_ _ _ H _ I h=>Calls.Constant_str ⟨.str x,H,I.tok _,⟨_,rfl⟩,h⟩
noncomputable def Gl(X:Cx)(x:aH):Prop:=X.env.kindOf x=aA .globalImplicit
theorem vb{a:St}{H:Hp}{x:aH}{pos:Pos}(I:Inv X d a H s)(c:Gl X x)(b:X.mg x=aA u)(h:Q u s)
  (hd:(x==("__debug__":aH))=aC:=by decide):wpAny (aS X.prog X.w) X.A (eval (.Name x pos) X.env) Q E s:=
 E6 I.ok.kind c (Calls.loadGlobal_global (by rw[I.ok.glob];exact I.mod.glob.keeps I.bk) b h) hd
theorem wH{E:aD->bB->Prop}{a:St}{H:Hp}{x:aH}{pos:Pos}(I:Inv X d a H s)(f:Gl X x)(e:X.mg x=aE)(b:hV x=aA u)(h:Q u s)
  (c:x≠"__name__":=by decide) (hd:(x==("__debug__":aH))=aC:=by decide):wpAny (aS X.prog X.w) X.A (eval (.Name x pos) X.env) Q E s:=by
 obtain⟨j,i,g⟩:=I.mod.blt;exact E6 I.ok.kind f (Calls.loadGlobal_builtin (by rw[I.ok.glob];exact I.mod.glob.keeps I.bk) e (by rw[I.ok.blt];exact i.keeps I.bk) ((g x c).trans b) h) hd
theorem Yb (b:Gl X x) (a:X.mg x=aA u) (r:RelV v u) (hd:(x==("__debug__":aH))=aC:=by decide):PE X (.Name x pos) (tC v):=
 λ_ _ _ H _ I h=>vb I b a ⟨v,H,I,r,h⟩ hd
theorem PK {pos:Pos}(d:Gl X x) (c:X.mg x=aE) (a:hV x=aA u) (r:RelV v u) (b:x≠"__name__":=by decide) (hd:(x==("__debug__":aH))=aC:=by decide):PE X (.Name x pos) (tC v):=
 λ_ _ _ H _ I h=>wH I d c a ⟨v,H,I,r,h⟩ b hd
variable {a b:aI}{pos:Pos}
variable {tA tB':TT}{rest:List aI}
noncomputable def jU (t u:TT):TT:=λa H Q=>t a H λc b=>if c=aB then u a b Q else Q aC b
noncomputable def fD (t u:TT):TT:=λa H Q=>t a H λc b=>if c=aB then Q aB b else u a b Q
noncomputable def qh (t:TT):TT:=λa H Q=>t a H λc b=>Q (!c) b
theorem RC(f:PT X a tA):PW X (.BoolOp .And [a] pos) tA:=by
 intro g b s d H Q I h;refine isTrue_and (aW (f b s d H Q I h) λc i e=>?_);cases c with
 |true=>exact isTrue_and_nil e
 |false=>exact e
theorem Nr(f:PT X a tA):PW X (.BoolOp .Or [a] pos) tA:=by
 intro g b s d H Q I h;refine isTrue_or (aW (f b s d H Q I h) λc i e=>?_);cases c with
 |false=>exact isTrue_or_nil e
 |true=>exact e
theorem OT(l:PT X a tA)(hb:PW X (.BoolOp .And (b::rest) pos) tB'):PW X (.BoolOp .And (a::b::rest) pos) (jU tA tB'):=by
 intro j d s e H Q I h;refine isTrue_and (aW (l d s e H _ I h) λc k ⟨i,g,f⟩=>?_);cases c with
 |true=>exact hb j d k e i Q g f
 |false=>exact⟨i,g,f⟩
theorem LV(l:PT X a tA)(hb:PW X (.BoolOp .Or (b::rest) pos) tB'):PW X (.BoolOp .Or (a::b::rest) pos) (fD tA tB'):=by
 intro j d s e H Q I h;refine isTrue_or (aW (l d s e H _ I h) λc k ⟨i,g,f⟩=>?_);cases c with
 |true=>exact⟨i,g,f⟩
 |false=>exact hb j d k e i Q g f
theorem Of(e:PT X a tA):PT X (.UnaryOp .Not a pos) (qh tA):=by
 intro b s d H Q I h;exact isTrue_not (aW (e b s d H (λc f=>Q (!c) f) I h) λc j ⟨g,i,q⟩=>⟨g,i,q⟩)
theorem MS{op}(h:PE X a t):PE X (.BoolOp op [a] pos) t:=λb s c H Q I hw=>BoolOp_one (h b s c H Q I hw)
end
end L2
namespace L2
open PySem PySem.Spec PyProof.Rows
noncomputable def f_ (K:bO)(H:Hp)(a:aF)(xs:List V):Prop:=
 Rd H a (.lst xs)\/
  ∃(o:bF) (b:Array aD) (n:Nat),K.lookup a=aA o/\o.cls=.type "list"/\o.dict=aE/\o.data=.seq b n/\b.size<=sizeLine/\aY xs b.toList
noncomputable def pi (K:bO)(H:Hp)(a:aF)(xs:List V):Prop:=
 Rd H a (.tup xs)\/
  ∃(o:bF) (b:Array aD) (n:Nat),K.lookup a=aA o/\o.cls=.type "tuple"/\o.data=.seq b n/\b.size<=sizeLine/\aY xs b.toList
noncomputable def Ll:aD->Option V
 |.none=>aA .non
 |.bool b=>aA (.bl b)
 |.int i _=>aA (.int i)
 |.str x _=>aA (.str x)
 |.bytes b _=>aA (.byt b)
 |.float b _=>aA (.flt b)
 |.ref a=>aA (.ref a)
 |.type n=>aA (.ty n)
 |_=>aE
theorem RelV.abs(r:RelV x u):Ll u=aA x:=by
 cases x with
 |non=>cases r;rfl
 |bl _=>cases r;rfl
 |int _=>obtain⟨t,rfl⟩:=r;rfl
 |str _=>obtain⟨t,rfl⟩:=r;rfl
 |byt _=>obtain⟨t,rfl⟩:=r;rfl
 |flt _=>obtain⟨t,rfl⟩:=r;rfl
 |ref _=>cases r;rfl
 |ty _=>cases r;rfl
theorem RelV.inj(r:RelV x u)(q:RelV y u):x=y:=bQ (r.abs.symm.trans q.abs)
theorem aY.inj:∀{xs ys:List V}{us:List aD},aY xs us->aY ys us->xs=ys
 |_,_,_,.nil,.nil=>rfl
 |_,_,_,.cons r t,.cons a t'=>by rw[r.inj a,aY.inj t t']
section
variable {X:Cx}{pins:List (aF×bF)}{σ:St}{H:Hp}{s:Shared}{a:aF}{xs ys:List V}
theorem Inv.list(I:Inv X pins σ H s)(h:f_ X.K H a xs):∃its:List aD,aY xs its/\PlainL s.heap a its.toArray/\xs.length<=sizeLine:=by
 rcases h with h|⟨o,its,n,hk,b,hd,hs,c,r⟩
 .obtain⟨z,its,n,r,e⟩:=h.ok I.hok;exact⟨its,r,⟨_,n,e,rfl,rfl,rfl⟩,z⟩
 .refine⟨its.toList,r,⟨o,n,I.kIn a o hk,b,hd,by simpa using hs⟩,?_⟩;have e:=r.length;simp only[oB] at e;lia
theorem Inv.tuple(I:Inv X pins σ H s)(h:pi X.K H a xs):∃its:List aD,aY xs its/\IsTup s.heap a its.toArray/\xs.length<=sizeLine:=by
 rcases h with h|⟨o,its,n,hk,b,hs,c,r⟩
 .obtain⟨z,its,r,p⟩:=h.ok I.hok;exact⟨its,r,p,z⟩
 .refine⟨its.toList,r,⟨o,I.kIn a o hk,b,n,by simpa using hs⟩,?_⟩;have e:=r.length;simp only[oB] at e;lia
theorem Inv.list_inj(I:Inv X pins σ H s)(h:f_ X.K H a xs)(h':f_ X.K H a ys):xs=ys:=by
 obtain⟨its,r,⟨o,n,e,_,_,d⟩,_⟩:=I.list h;obtain⟨its',c,⟨g,i,b,_,_,d'⟩,_⟩:=I.list h';rw[e] at b;cases b;rw[d] at d';injection d' with f _;have:its=its':=by simpa using congrArg Array.toList f
 subst this;exact r.inj c
end
noncomputable abbrev Cx.wish(X:Cx)(E:aD->bB->Prop):Cx:={X with xe:=E}
theorem Cx.Ok.wish{X:Cx}(ok:X.Ok)(E:aD->bB->Prop):(X.wish E).Ok:=
 ⟨ok.mod,ok.kind,ok.glob,ok.blt,ok.above,ok.inj,ok.has,ok.cab,ok.hd,ok.frames,ok.stk,ok.exf,ok.bs,ok.bsz,ok.noex,ok.exfs,ok.funs,ok.frf⟩
theorem Cx.Ok.unwish{X:Cx}(ok:(X.wish E).Ok):X.Ok:=
 ⟨ok.mod,ok.kind,ok.glob,ok.blt,ok.above,ok.inj,ok.has,ok.cab,ok.hd,ok.frames,ok.stk,ok.exf,ok.bs,ok.bsz,ok.noex,ok.exfs,ok.funs,ok.frf⟩
section
variable {X:Cx}{pins:List (aF×bF)}{σ:St}{H:Hp}{s:Shared}{E:aD->Shared->Prop}
theorem Inv.wish(I:Inv X pins σ H s)(E:aD->bB->Prop):Inv (X.wish E) pins σ H s:=⟨I.ok.wish E,I.os,I.bare,I.base,I.loc,I.cell,I.free,I.freeC,I.pin,I.hok,I.len⟩
theorem Inv.unwish(I:Inv (X.wish E) pins σ H s):Inv X pins σ H s:=⟨I.ok.unwish,I.os,I.bare,I.base,I.loc,I.cell,I.free,I.freeC,I.pin,I.hok,I.len⟩
theorem SP.unwish(h:SP (X.wish E) pins D f d):SP X pins D f d:=by
 cases f with
 |next=>obtain⟨a,b,I,q⟩:=h;exact⟨a,b,I.unwish,q⟩
 |brk=>obtain⟨a,b,I,q⟩:=h;exact⟨a,b,I.unwish,q⟩
 |cont=>obtain⟨a,b,I,q⟩:=h;exact⟨a,b,I.unwish,q⟩
 |ret u=>obtain⟨v,a,b,I,r,q⟩:=h;exact⟨v,a,b,I.unwish,r,q⟩
end
section
variable {X:Cx}{st:bG}{rest:List bG}{t u:TS}{e:aI}{te:TE}{pos:Pos}
noncomputable def MJ:TS:=λD a H=>D.nx a H
noncomputable def LO (t u:TS):TS:=λD a H=>t {D with nx:=u D} a H
theorem Yr:gP X [] MJ:=λ_ _ a H _ I h=>rn ⟨a,H,I,h⟩
theorem Kj(h1:PS X st t)(h2:gP X rest u):gP X (st::rest) (LO t u):=by
 intro a s c H D I h;refine wpAny_execs_cons (aW (h1 a s c H {D with nx:=u D} I h) λf d q=>?_);cases f with
 |next=>
  obtain⟨b,g,e,q⟩:=q;exact h2 a d b g D e q
 |ret v=>exact q
 |brk=>exact q
 |cont=>exact q
theorem Sj(h1:PS X st t):gP X [st] t:=by
 intro a s b H D I h;refine wpAny_execs_cons (aW (h1 a s b H D I h) λf c q=>?_);cases f with
 |next=>exact rn q
 |ret v=>exact q
 |brk=>exact q
 |cont=>exact q
theorem Inv.quiet{a:St}(I:Inv X d a H s):interactive X.env=aC:=by simp[interactive,I.ok.kind]
noncomputable def Mr(te:TE):TS:=λD a H=>te a H λ_ b=>D.nx a b
theorem Yo(he:PE X e te)(hs:iJ e aE pos.line X.env=pure aC:=by rfl):PS X (.Expr e pos) (Mr te):=by
 intro a s b H D I h;exact wpAny_Expr_any (aW (he a s b H _ I h) λv g ⟨x,f,d,i,c⟩=>⟨b,f,d,c⟩) I.quiet hs
noncomputable def LN (te:TE):TS:=λD a H=>te a H D.rt
theorem Ow(he:PE X e te):PS X (.Return (aA e) pos) (LN te):=by
 intro a s b H D I h;exact wpAny_Return_some (aW (he a s b H _ I h) λv i ⟨x,g,f,c,d⟩=>⟨x,b,g,f,c,d⟩)
noncomputable def L5:TS:=λD _ H=>D.rt .non H
theorem P2:PS X (.Return aE pos) L5:=λ_ _ a H _ I h=>wpAny_Return_none ⟨.non,a,H,I,rfl,h⟩
noncomputable def Lj (c:TT)(t u:TS):TS:=λD a H=>c a H λb d=>if b=aB then t D a d else u D a d
theorem MH{a:List bG}(l:PT X c r)(m:gP X a t)(hb:gP X b u):PS X (.If c a b pos) (Lj r t u):=by
 intro e s f H D I h;refine wpAny_If (aW (l e s f H _ I h) λd g ⟨k,j,i⟩=>?_);cases d with
 |true=>exact m e g f k D j i
 |false=>exact hb e g f k D j i
end
noncomputable abbrev TG:=V->St->Hp->(St->Hp->Prop)->Prop
noncomputable abbrev pe:=List V->St->Hp->(St->Hp->Prop)->Prop
noncomputable def PG (X:Cx)(a:aI)(t:TG):Prop:=
 ∀(b:List (aF×bF)) (s:bB) (d:St) (H:Hp) (v:V) (u:aD) (Q:St->Hp->Prop),Inv X b d H s->RelV v u->t v d H Q->
  wpAny (aS X.prog X.w) X.A (ib a X.env u) (λ_ f=>∃c e,Inv X b c e f/\Q c e) X.xe s
noncomputable def pv (X:Cx)(ts:List aI)(t:pe):Prop:=
 ∀(a:List (aF×bF)) (s:bB) (c:St) (H:Hp) (d:List V) (e:List aD) (Q:St->Hp->Prop),Inv X a c H s->aY d e->t d c H Q->
  wpAny (aS X.prog X.w) X.A (assignInOrder ((ig ts X.env).map (·.2)) e) (λ_ g=>∃b f,Inv X a b f g/\Q b f) X.xe s
noncomputable abbrev Fo:=V->V->V->Hp->(Hp->Prop)->Prop
noncomputable def Bv (X:Cx)(t:Fo):Prop:=
 ∀(a:List (aF×bF)) (s:bB) (b:St) (H:Hp) (o i v:V) (c d u:aD) (Q:Hp->Prop),Inv X a b H s->RelV o c->RelV i d->RelV v u->t o i v H Q->
  wpAny (aS X.prog X.w) X.A (setItem c d u) (λ_ f=>∃e,Inv X a b e f/\Q e) X.xe s
section
variable {X:Cx}{pos:Pos}
noncomputable def Y3(i:Nat):TG:=λv a H Q=>Q (a.set i (aA v)) H
theorem Yw(hN:X.N.Nodup)(hi:X.N[i]?=aA x)(b:Loc X.env.scope x)(c:X.fn x=aB\/X.env.scope.names.lookup x=aA .local:=by first|exact .inl rfl|exact .inr rfl|assumption):PG X (.Name x pos) (Y3 i):=by
 intro a s e H v u Q I r h;exact wpAny_assign_Name (Kr I hN hi b r (λf d=>⟨_,H,d,h⟩) c)
noncomputable def FX:pe:=λb a H Q=>b=[]/\Q a H
noncomputable def GK(t:TG)(u:pe):pe:=λc b H Q=>∃v r,c=v::r/\t v b H λa d=>u r a d Q
theorem OX:pv X [] FX:=by
 intro a s b H c d Q I r h;obtain⟨e,h⟩:=h;subst e;cases r;exact assignInOrder_nil ⟨b,H,I,h⟩
theorem Te{t:TG}(h1:PG X e t)(h2:pv X es u)
  (hs:(ig (e::es) X.env).map (·.2)=ib e X.env::(ig es X.env).map (·.2):=by rfl):pv X (e::es) (GK t u):=by
 intro a s c H l n Q I r h;obtain⟨v,m,i,h⟩:=h;subst i;cases r with
 |cons r f=>
  rw[hs];refine assignInOrder_cons (aW (h1 a s c H _ _ _ I r h) λ_ d ⟨b,k,j,g⟩=>?_);exact h2 a d b k _ _ Q j f g
noncomputable def LQ (K:bO)(n:Nat)(t:pe):TG:=λv c H Q=>∃a b,v=.ref a/\pi K H a b/\b.length=n/\t b c H Q
theorem M3{k:Nat}(x:X.calm=aB)(h:pv X es t)
  (q:(ig es X.env).length=n:=by rfl) (d:(ig es X.env).findIdx? (·.1)=aE:=by rfl):PG X (.Tuple es k pos) (LQ X.K n t):=by
 intro c s f H v u Q I r hw;obtain⟨a,i,z,p,w,hw⟩:=hw;subst z;cases r;obtain⟨j,g,m,B⟩:=I.tuple p;refine assign_Tuple_tuple (I.ok.hd x) m (by simp[q,<-w,g.length]) d λy l=>?_;have A:Inv X c f H {s with heap:=y}:=I.kept (t':=s.toks) λb o e=>l b o (cX (bX e)) e;exact h c _ f H i _ Q A (by simpa using g) hw
noncomputable def Lp (b c:TE)(t:Fo):TG:=λv a H Q=>b a H λo f=>c a f λi e=>t o i v e λd=>Q a d
theorem HC{o:aI}(ho:PE X o j)(hi:PE X i z)(hs:Bv X t)
  (p:∀v,ib (.Subscript o i pos) X.env v=(do
   let d ←mS [v] (eval o X.env)
   let g ←mS [v,d] (eval i X.env)
   standAt pos
   mS [v,d,g] (setItem d g v)
   release [v,d,g] []):=by intro _;rfl):PG X (.Subscript o i pos) (Lp j z t):=by
 intro a s b H v u Q I r h;rw[p];refine wpAny_bind (wpAny_holding (aW (ho a s b H _ I h) λd e ⟨x,D,A,k,n⟩=>?_));refine wpAny_bind (wpAny_holding (aW (hi a e b D _ A n) λg c ⟨y,C,w,f,m⟩=>?_));refine wpAny_bind (hW (wpAny_bind (wpAny_holding (aW (hs a c b C x y v d g u _ w k f r m) λ_ E ⟨B,q,l⟩=>?_))));exact wpAny_release ⟨b,B,q,l⟩
noncomputable def Fs (b:TE)(g:TG):TS:=λD a H=>b a H λx c=>g x a c D.nx
theorem XE{e:aI}(he:PE X e d)(j:PG X tg g)(hs:rg [tg] e pos.line X.env=pure aC:=by rfl)(hw:rf [tg] e X.env=pure aE:=by rfl)
  (h1:(ig [tg] X.env).map (·.2)=[ib tg X.env]:=by rfl):PS X (.Assign [tg] e pos) (Fs d g):=by
 intro a s b H D I h;refine wpAny_Assign_stores (aW (he a s b H _ I h) λv c ⟨x,l,k,f,i⟩=>?_) hs hw;rw[h1];exact aW (j a c b l x v _ k f i) λ_ m q=>q
theorem ON{b:TE}(hN:X.N.Nodup)(hi:X.N[i]?=aA x)(j:Loc X.env.scope x)(he:PE X e b)(hs:iJ e (aA (.Name x d)) pos.line X.env=pure aC:=by rfl)(k:X.fn x=aB\/X.env.scope.names.lookup x=aA .local:=by first|exact .inl rfl|exact .inr rfl|assumption) :
  PS X (.Assign [.Name x d] e pos) (Fs b (Y3 i)):=by
 intro a s c H D I h;refine wpAny_Assign_Name (aW (he a s c H _ I h) λv p ⟨y,n,m,f,g⟩=>?_) hs;exact Kr m hN hi j f (λo l=>⟨_,n,l,g⟩) k
end
section
variable {X:Cx}{pos:Pos}
noncomputable def OV(c:TT)(tb:TS):TS:=λD a H=>∃W:Nat->St->Hp->Prop,(∃m,W m a H)/\∀m a H,W m a H->
 c a H λb f=>if b=aB then ∃N:St->Hp->Prop,(∀d g,N d g->∃e,e<m/\W e d g)/\tb {D with nx:=N,ct:=N,bk:=D.nx} a f else D.nx a f
theorem Sa{body:List bG}(r:nK (aS X.prog X.w) X.A X.env X.xe)(M:PT X c G)(hb:gP X body tb):PS X (.While c body [] pos) (OV G tb):=by
 intro d s B H D I h;obtain⟨W,⟨L,E⟩,turn⟩:=h;refine wpAny_While (codeAny_whileLoop (λn K=>∃g z,Inv X d g z K/\W n g z) ?_ L ⟨B,H,I,E⟩);rintro n J ⟨e,y,O,C⟩;refine ml r (aW (M d J e y _ O (turn n e y C)) λb F ⟨x,u,k⟩=>?_);cases b with
 |true=>
  obtain⟨N,t,k⟩:=k;rw[if_pos rfl];refine ml r (aW (hb d F e x _ u k) λf P j=>?_);cases f with
  |next=>
   obtain⟨a,i,q,m⟩:=j;obtain⟨o,p,l⟩:=t a i m;exact⟨o,p,a,i,q,l⟩
  |cont=>
   obtain⟨a,i,q,m⟩:=j;obtain⟨o,p,l⟩:=t a i m;exact⟨o,p,a,i,q,l⟩
  |brk=>exact j
  |ret v=>exact j
 |false=>
  rw[if_neg fS];exact rn ⟨e,x,u,k⟩
end
structure It where
 go:Nat->Hp->Prop
 yld:Nat->Hp->V->Hp->Prop
 stop:Nat->Hp->Prop
noncomputable def Vz (X:Cx)(a:List (aF×bF))(H:Hp)(b:aF):Prop:=
 H b=aE/\b≠X.env.locals/\b∉X.fs/\(b∈X.ex\/X.s₀.heap.objs.size<=b)/\(∀x c,X.env.cells.lookup x=aA c->c≠b)/\∀p∈X.pn++a,p.1≠b
theorem Inv.fpOk{X:Cx}{a:St}{H:Hp}{b:aF}(I:Inv X d a H s)(hb:s.heap.objs.size<=b)(g:j b=aE):Vz X d j b:=by
 refine⟨g,hS (dC I.lt hb),I.nofs hb,.inr (dG I.sz hb),λx c e z=>?_,λp f z=>?_⟩
 .obtain⟨v,q⟩:=I.cell x c e;exact absurd (dC q.lt (by rw[z];exact hb)) (iM _)
 .exact absurd (dC (bX (I.pin p f).1) (by rw[z];exact hb)) (iM _)
structure fH(P:Program)(w:World)(K:PySem.W.Frag)(tg:aI)(J:It)(fp:List aF)(it:aF)(tn:Nat->aV->Prop):Prop where
 mem:it∈fp
 obj:∀i h,tn i h->∀b∈fp,∃o,h.get? b=aA o/\∀v,o.data≠.cell v
 keep:∀i h h',tn i h->(∀b∈fp,∀o,h.get? b=aA o->h'.get? b=aA o)->tn i h'
 item:∀(X:Cx),X.prog=P->X.w=w->X.K=K->X.calm=aB->∀(i:Nat) (pins:List (aF×bF)) (s:bB) (σ:St) (H:Hp) (E:aD->bB->Prop),Inv X pins σ H s->(∀b∈fp,Vz X pins H b)->tn i s.heap->J.go i H->
  wpAny (aS P w) X.A (mO (.ref it)) (λr s1=>∃u,r=aA u/\
   wpAny (aS P w) X.A (nU tg (.ref it) u) (λ_ s2=>∃x H',Inv X pins σ H' s2/\RelV x u/\J.yld i H x H'/\tn (i+1) s2.heap/\∀b∈fp,H' b=aE) E s1) E s
 done:∀(X:Cx),X.prog=P->X.w=w->X.K=K->X.calm=aB->∀(i:Nat) (pins:List (aF×bF)) (s:bB) (σ:St) (H:Hp) (E:aD->bB->Prop),Inv X pins σ H s->(∀b∈fp,Vz X pins H b)->tn i s.heap->J.stop i H->
  wpAny (aS P w) X.A (mO (.ref it)) (λr s1=>r=aE/\Inv X pins σ H s1) E s
 self:∀(A:fQ) (i:Nat) (s:bB) (Q:aD->bB->Prop) (E:aD->bB->Prop),tn i s.heap->Q (.ref it) s->wpAny (aS P w) A (mM (.ref it)) Q E s
noncomputable abbrev TI:=St->Hp->(It->Hp->Prop)->Prop
noncomputable def pq (X:Cx)(a:List (aF×bF))(g:St)(tg:aI)(R:It->Hp->Prop)(c:aD)(f:bB):Prop:=
 ∃(it:aF) (fp:List aF) (e:Nat->aV->Prop) (J:It) (d:Hp),c=.ref it/\Inv X a g d f/\fH X.prog X.w X.K tg J fp it e/\e 0 f.heap/\(∀b∈fp,Vz X a d b)/\R J d
noncomputable def PI (X:Cx)(tg iter:aI)(c:TI):Prop:=
 ∀(a:List (aF×bF)) (s:bB) (b:St) (H:Hp) (R:It->Hp->Prop),Inv X a b H s->c b H R->
  wpAny (aS X.prog X.w) X.A (eval iter X.env) (λv d=>wpAny (aS X.prog X.w) X.A (mM v) (pq X a b tg R) X.xe d) X.xe s
theorem ZX(ho:s.heap.get? it=aA o)(c:o.cls=.type n)(hd:o.data=.fields vs)
    (b:["enumerate", "zip", "dict_itemiterator", "dict_reverseitemiterator", "odict_iterator", "itertools.zip_longest", "itertools.pairwise"].contains n=aC) (a:Q () s):wpAny M A (nU tg (.ref it) u) Q E s:=by
  unfold nU
  cases tg <;> first
    |exact wpAny_pure a
    | (cases u <;> first
        |exact wpAny_pure a
        | (refine wpAny_bind (wpAny_load ho ?_)
           rw[c, hd]
           show wpAny M A (if (["enumerate", "zip", "dict_itemiterator", "dict_reverseitemiterator", "odict_iterator", "itertools.zip_longest", "itertools.pairwise"].contains n&&vs[0]? == aA (cV _))=aB then _ else _) Q E s
           rw[if_neg (by intro h;rw[b, DM] at h;cases h)]
           exact wpAny_pure a))
noncomputable def Ip (K:bO)(a:aF):It:=
 ⟨λi H=>∃b x,f_ K H a b/\b[i]?=aA x,λi H x c=>c=H/\∀b,f_ K H a b->b[i]?=aA x,λi H=>∃b,f_ K H a b/\b.length<=i⟩
noncomputable def Itr(lo:Int)(n:Nat):It:=⟨λi _=>i<n,λi H x a=>a=H/\x=.int (lo+i),λi _=>n<=i⟩
theorem WY{P:cI}{K:bO}(a it:aF):fH P w K tg (Ip K a) [it] it (λi h=>h.IsListIter it a i) where
 mem:=by simp
 obj:=λi h st b g=>by
  have e:b=it:=by simpa using g
  subst e;obtain⟨o,e,c,d⟩:=st;exact⟨o,e,λv z=>by rw[d] at z;cases z⟩
 keep:=λi h n st k=>st.at λo e=>k it (by simp) o e
 item:=by
  intro X A hw B M i f s L H E I m st y;subst A hw B;obtain⟨N,x,l,t⟩:=y;obtain⟨r,q,p,R⟩:=I.list l;obtain⟨u,T,Q⟩:=q.get t;obtain⟨J,G,U,F,D,C⟩:=m it (by simp);refine wpAny_pyNext_list_item st p.isList (x:=u) (by simpa using T) λn j O=>?_;have V:Inv X f L H {s with heap:=n}:=I.turned (t':=s.toks) (λb o g e=>(O.2 b g).trans e) J G F D C;obtain⟨o,e,c,d⟩:=id j;exact⟨u,rfl,ZX (s:={s with heap:=n}) e c d (by decide) ⟨x,H,V,Q,⟨rfl,λY S=>by rw[I.list_inj S l];exact t⟩,j,λb g=>(m b g).1⟩⟩
 done:=by
  intro X A hw B M i f s L H E I m st y;subst A hw B;obtain⟨N,l,t⟩:=y;obtain⟨r,q,p,R⟩:=I.list l;obtain⟨J,G,U,F,D,C⟩:=m it (by simp);have Z:=q.length;exact wpAny_pyNext_list_end (I.ok.hd M) st p.isList (by simp;lia) λn eb=>⟨rfl,I.turned (t':=s.toks) (λb o g e=>eb b o g e) J G F D C⟩
 self:=λ_ _ _ _ _ st h=>wpAny_pyIter_listiter st h
end L2
namespace L2
open PySem PySem.Spec PyProof.Rows
section
variable {X:Cx}{tg:aI}
noncomputable def Ke(c:TA):TI:=λa H R=>c a H λb d=>∃i j:Int,b=[.int i,.int j]/\(-(2 ^ 62)<=i/\i<2 ^ 62 /\ -(2 ^ 62)<=j/\j<2 ^ 62)/\R (Itr i (j-i).toNat) d
noncomputable def LP (f:TI)(g:TG)(tb:TS):TS:=λD a H=>f a H λJ j=>∃W:Nat->Nat->St->Hp->Prop,(∃m,W 0 m a j)/\∀i m a H,W i m a H->
 (J.stop i H/\D.nx a H)\/(J.go i H/\∃N:St->Hp->Prop,(∀b c,N b c->∃e,e<m/\W (i+1) e b c)/\∀x c,J.yld i H x c->g x a c λd h=>tb {D with nx:=N,ct:=N,bk:=D.nx} d h)
noncomputable def Qh(fp:List aF)(h:aV):List (aF×bF):=fp.filterMap λb=>(h.get? b).map λo=>(b,o)
theorem js(hb:b∈fp)(e:h.get? b=aA o):(b,o)∈Qh fp h:=oz.mpr ⟨b,hb,by rw[e];rfl⟩
theorem U7(a:p∈Qh fp h):p.1∈fp/\h.get? p.1=aA p.2:=by
 obtain⟨b,c,e⟩:=oz.mp a;cases q:h.get? b with
 |none=>rw[q] at e;cases e
 |some o=>
  rw[q] at e;have d:(b,o)=p:=bQ e;subst d;exact⟨c,q⟩
theorem Inv.pinned{a:St}(I:Inv X g a H s)(h:∀b∈fp,Vz X g H b)(ho:∀b∈fp,∃o,s.heap.get? b=aA o/\∀v,o.data≠.cell v):Inv X (g++Qh fp s.heap) a H s:=
 I.pins_of λp f=>(b_.mp f).elim (λz=>I.pin p (dH _ z)) λz=>by
  obtain⟨hb,e⟩:=U7 z;obtain⟨f0,j,i,_⟩:=h p.1 hb;obtain⟨o,c,d⟩:=ho p.1 hb;rw[e] at c;cases c;exact⟨e,f0,j,i,d⟩
theorem Inv.unpinned{a:St}(I:Inv X (d++pl) a H s):Inv X d a H s:=I.pins_of λp b=>I.pin p (dH _ (eY _ b))
theorem Ni{body:List bG}{tb:TS}(F:nK (aS X.prog X.w) X.A X.env X.xe)(hc:X.calm=aB)(hi:PI X tg iter wi)(hg:PG X tg g)(hb:gP X body tb)
  (hs:∀x,lW iter X.env x=pure x:=by intro _;rfl):PS X (.For tg iter body [] pos) (LP wi g tb):=by
 intro c s S H D I h;refine wpAny_For (aW (hi c s S H _ I h) λv s1 h1=>aW h1 λitv s2 h2=>?_) hs;obtain⟨it,fp,U,J,H2,e,I2,T,M,f2,W,⟨m0,w0⟩,turn⟩:=h2;subst e;have l:∀{t:Hp},(∀b∈fp,t b=aE)->∀b∈fp,Vz X c t b:=λhn b hb=>⟨hn b hb,(f2 b hb).2⟩;refine codeAny_forLoop_any (λn Z=>∃i k t,Inv X c k t Z/\U i Z.heap/\(∀b∈fp,t b=aE)/\W i n k t) ?_ m0 ⟨0,S,H2,I2,M,λb hb=>(f2 b hb).1,w0⟩;rintro n Y ⟨i,j,K,I3,C,G,w3⟩;rcases turn i n j K w3 with⟨B,qn⟩|⟨go,N,hN,step⟩
 .refine ml F (aW (T.done X rfl rfl rfl hc i c Y j K X.xe I3 (l G) C B) λr s4 ⟨P,I4⟩=>?_);subst P;exact rn ⟨j,K,I4,qn⟩
 .refine ml F (aW (T.item X rfl rfl rfl hc i c Y j K X.xe I3 (l G) C go) λr s4 ⟨u,P,h4⟩=>?_);subst P;refine ml F (aW h4 λ_ V ⟨x,H5,I5,r5,y5,z,Q⟩=>?_);have R:=I5.pinned (l Q) (T.obj _ _ z);refine ml F (aW (hg _ V j H5 x u _ R r5 (step x H5 y5)) λ_ s6 ⟨L,H6,I6,q6⟩=>?_);refine ml F (aW (hb _ s6 L H6 _ I6 q6) λf O y=>?_);have again:∀{a:St}{q:Hp},Inv X (c++Qh fp V.heap) a q O->N a q->∃m,m<n/\∃i k t,Inv X c k t O/\U i O.heap/\(∀b∈fp,t b=aE)/\W i m k t:=λ{a q} p E=>by
   obtain⟨m',hm,w7⟩:=hN a q E;refine⟨m',hm,i+1,a,q,p.unpinned,T.keep _ _ _ z λb hb o e=>(p.pin (b,o) (dH _ (dH _ (js hb e)))).1,λb hb=>?_,w7⟩;obtain⟨o,e,d⟩:=T.obj _ _ z b hb;exact (p.pin (b,o) (dH _ (dH _ (js hb e)))).2.1
  cases f with
  |next=>obtain⟨a,q,p,E⟩:=y;exact again p E
  |cont=>obtain⟨a,q,p,E⟩:=y;exact again p E
  |brk=>obtain⟨a,q,p,y⟩:=y;exact⟨a,q,p.unpinned,y⟩
  |ret v=>obtain⟨x7,a,q,p,r7,y⟩:=y;exact⟨x7,a,q,p.unpinned,r7,y⟩
end
end L2
namespace L2
open PySem PySem.Spec PyProof.Rows
noncomputable abbrev R2:=V->V->Hp->VK->Prop
noncomputable def fJ (X:Cx)(f:aD->aD->Sem aD)(r:R2):Prop:=
 ∀(a:List (aF×bF)) (s:bB) (b:St) (H:Hp) (x y:V) (v u:aD) (Q:VK),Inv X a b H s->RelV x v->RelV y u->r x y H Q->
  wpAny (aS X.prog X.w) X.A (f v u) (EP X a b Q) X.xe s
noncomputable def Ik (X:Cx)(f:aD->Sem aD)(r:V->Hp->VK->Prop):Prop:=
 ∀(a:List (aF×bF)) (s:bB) (b:St) (H:Hp) (x:V) (v:aD) (Q:VK),Inv X a b H s->RelV x v->r x H Q->
  wpAny (aS X.prog X.w) X.A (f v) (EP X a b Q) X.xe s
noncomputable def Y1(X:Cx)(f:aD)(r:List V->Hp->VK->Prop):Prop:=
 ∀(a:List (aF×bF)) (s:bB) (b:St) (H:Hp) (c:List V) (d:List aD) (Q:VK),Inv X a b H s->aY c d->r c H Q->
  wpAny (aS X.prog X.w) X.A (call f d) (EP X a b Q) X.xe s
noncomputable def rI (C:Int->Int->Prop)(g:Int->Int->V):R2:=λx y H Q=>∃i j,x=.int i/\y=.int j/\C i j/\Q (g i j) H
noncomputable def lZ (g:Int->Int->V):R2:=λx y H Q=>∃i j,x=.int i/\y=.int j/\Q (g i j) H
noncomputable def rU (g:Int->V):V->Hp->VK->Prop:=λx H Q=>∃i,x=.int i/\Q (g i) H
section
variable {X:Cx}
theorem ss{g:Int->Int->Int}
  (rule:∀(i j:Int) (t u:Tok) (s:bB) (Q:aD->bB->Prop) (E:aD->bB->Prop),C i j->Q (.int (g i j) s.toks) {s with toks:=s.toks+1}->wpAny (aS X.prog X.w) X.A (f (.int i t) (.int j u)) Q E s) :
  fJ X f (rI C λi j=>.int (g i j)):=by
 intro a s k H x y v u Q I d c h;obtain⟨i,j,rfl,rfl,e,q⟩:=h;obtain⟨t,rfl⟩:=d;obtain⟨b,rfl⟩:=c;exact rule i j t b s _ _ e ⟨.int (g i j),H,I.tok _,⟨_,rfl⟩,q⟩
theorem FO{g:Int->Int->Int}
  (rule:∀(i j:Int) (t u:Tok) (s:bB) (Q:aD->bB->Prop) (E:aD->bB->Prop),Q (.int (g i j) s.toks) {s with toks:=s.toks+1}->wpAny (aS X.prog X.w) X.A (f (.int i t) (.int j u)) Q E s) :
  fJ X f (lZ λi j=>.int (g i j)):=by
 intro a s e H x y v u Q I d c h;obtain⟨i,j,rfl,rfl,q⟩:=h;obtain⟨t,rfl⟩:=d;obtain⟨b,rfl⟩:=c;exact rule i j t b s _ _ ⟨.int (g i j),H,I.tok _,⟨_,rfl⟩,q⟩
theorem rM{g:Int->Int->Bool}
  (rule:∀(i j:Int) (t u:Tok) (s:bB) (Q:aD->bB->Prop) (E:aD->bB->Prop),Q (.bool (g i j)) s->wpAny (aS X.prog X.w) X.A (f (.int i t) (.int j u)) Q E s) :
  fJ X f (lZ λi j=>.bl (g i j)):=by
 intro a s e H x y v u Q I d c h;obtain⟨i,j,rfl,rfl,q⟩:=h;obtain⟨t,rfl⟩:=d;obtain⟨b,rfl⟩:=c;exact rule i j t b s _ _ ⟨.bl (g i j),H,I,rfl,q⟩
noncomputable def LB(i j:Int):Prop:=0<=j/\j<=1000000/\i.natAbs<2 ^ 64
noncomputable def lB(i j:Int):Prop:=(-(2 ^ 64)<i/\i<2 ^ 64)\/(-(2 ^ 64)<j/\j<2 ^ 64)
theorem lB.ok(h:lB i j):IntMulOk i j:=by
 rcases h with⟨h1,h2⟩|⟨h1,h2⟩
 .exact .of_left (intBits_le_64 h1 h2)
 .exact .of_right (intBits_le_64 h1 h2)
theorem M9:fJ X (lG .Add) (lZ λi j=>.int (i+j)):=FO λ_ _ _ _ _ _ _ q=>add_int q
theorem NA:fJ X (lG .Sub) (lZ λi j=>.int (i-j)):=FO λ_ _ _ _ _ _ _ q=>sub_int q
theorem NV:fJ X (lG .Mult) (rI lB λi j=>.int (i*j)):=ss λ_ _ _ _ _ _ _ a q=>mul_int q a.ok
theorem M_:fJ X (lG .Mod) (rI (λ_ j=>0<j) λi j=>.int (i % j)):=ss λi j _ _ _ _ _ a q=>by
 have b:(0:Int)<j:=a;exact mod_int' (by lia) (by rw[Int.fmod_eq_emod_of_nonneg i (by lia)];exact q)
theorem NL:fJ X (lG .Pow) (rI LB λi j=>.int (i ^ j.toNat)):=ss λ_ _ _ _ _ _ _ a q=>pow_int_small a.1 a.2.1 a.2.2 q
theorem UF{g:Int->Int}
  (rule:∀(i:Int) (t:Tok) (s:bB) (Q:aD->bB->Prop) (E:aD->bB->Prop),Q (.int (g i) s.toks) {s with toks:=s.toks+1}->wpAny (aS X.prog X.w) X.A (f (.int i t)) Q E s) :
  Ik X f (rU λi=>.int (g i)):=by
 intro a s c H x v Q I b h;obtain⟨i,rfl,q⟩:=h;obtain⟨t,rfl⟩:=b;exact rule i t s _ _ ⟨.int (g i),H,I.tok _,⟨_,rfl⟩,q⟩
theorem OU:Ik X (unaryOp .USub) (rU λi=>.int (-i)):=UF λ_ _ _ _ _ q=>neg_int q
end
noncomputable def r_:V->V->Bool
 |.non,.non=>aB|.non,.int _=>aB|.int _,.non=>aB|.non,.bl _=>aB|.bl _,.non=>aB|.non,.str _=>aB|.str _,.non=>aB
 |.int _,.int _=>aB|.bl _,.bl _=>aB|.str _,.str _=>aB|.byt _,.byt _=>aB
 |.int _,.str _=>aB|.str _,.int _=>aB|.bl _,.str _=>aB|.str _,.bl _=>aB
 |_,_=>aC
noncomputable def rEq:R2:=λx y H Q=>r_ x y=aB/\Q (.bl (decide (x=y))) H
noncomputable def ZB:R2:=λx y H Q=>r_ x y=aB/\Q (.bl (!decide (x=y))) H
theorem Yv:decide (V.int i=V.int j)=(i==j):=by
 rw[nT];simp
theorem Hs:decide (V.bl i=V.bl j)=(i==j):=by
 rw[nT];simp
theorem Y9:decide (V.str i=V.str j)=(i==j):=by
 rw[nT];simp
theorem YA:decide (V.byt i=V.byt j)=(i.toList==j.toList):=by
 rw[nT];cases i;cases j;simp
section
variable {X:Cx}{b:aI}
theorem zz{a:St}{k b:Bool}(I:Inv X d a H s)(q:Q (.bl k) H)(e:k=b):EP X d a Q (.bool b) s:=by
 subst e;exact⟨.bl k,H,I,rfl,q⟩
theorem Mh:fJ X (fC .Eq) rEq:=by
 intro e s f H x y v u Q I d a h;obtain⟨c,q⟩:=h;cases x with
 |non=>
  cases d;cases y with
  |non=>cases a;exact IP (zz I q (by simp))
  |bl j=>cases a;exact IN (zz I q (by simp))
  |int j=>obtain⟨b,rfl⟩:=a;exact Lf (zz I q (by simp))
  |str j=>obtain⟨b,rfl⟩:=a;exact Le (zz I q (by simp))
  |_=>exact absurd (show aC=aB from c) fS
 |bl i=>
  cases d;cases y with
  |non=>cases a;exact IM (zz I q (by simp))
  |bl j=>cases a;exact eq_bool (zz I q Hs)
  |str j=>obtain⟨b,rfl⟩:=a;exact IL (zz I q (by simp))
  |_=>exact absurd (show aC=aB from c) fS
 |int i=>
  obtain⟨t,rfl⟩:=d;cases y with
  |non=>cases a;exact Ld (zz I q (by simp))
  |int j=>obtain⟨b,rfl⟩:=a;exact eq_int (zz I q Yv)
  |str j=>obtain⟨b,rfl⟩:=a;exact Lc (zz I q (by simp))
  |_=>exact absurd (show aC=aB from c) fS
 |str i=>
  obtain⟨t,rfl⟩:=d;cases y with
  |non=>cases a;exact Lb (zz I q (by simp))
  |bl j=>cases a;exact IK (zz I q (by simp))
  |int j=>obtain⟨b,rfl⟩:=a;exact La (zz I q (by simp))
  |str j=>obtain⟨b,rfl⟩:=a;exact eq_str (zz I q Y9)
  |_=>exact absurd (show aC=aB from c) fS
 |byt i=>
  obtain⟨t,rfl⟩:=d;cases y with
  |byt j=>obtain⟨b,rfl⟩:=a;exact PySem.W.eq_bytes (zz I q YA)
  |_=>exact absurd (show aC=aB from c) fS
 |_=>cases y<;>exact absurd (show aC=aB from c) fS
theorem MD:fJ X (fC .NotEq) ZB:=by
 intro e s f H x y v u Q I d a h;obtain⟨c,q⟩:=h;cases x with
 |non=>
  cases d;cases y with
  |non=>cases a;exact IJ (zz I q (by simp))
  |bl j=>cases a;exact II (zz I q (by simp))
  |int j=>obtain⟨b,rfl⟩:=a;exact I_ (zz I q (by simp))
  |str j=>obtain⟨b,rfl⟩:=a;exact I0 (zz I q (by simp))
  |_=>exact absurd (show aC=aB from c) fS
 |bl i=>
  cases d;cases y with
  |non=>cases a;exact IH (zz I q (by simp))
  |bl j=>cases a;exact ne_bool (zz I q (congrArg not Hs))
  |str j=>obtain⟨b,rfl⟩:=a;exact IG (zz I q (by simp))
  |_=>exact absurd (show aC=aB from c) fS
 |int i=>
  obtain⟨t,rfl⟩:=d;cases y with
  |non=>cases a;exact IZ (zz I q (by simp))
  |int j=>obtain⟨b,rfl⟩:=a;exact ne_int (zz I q (congrArg not Yv))
  |str j=>obtain⟨b,rfl⟩:=a;exact IY (zz I q (by simp))
  |_=>exact absurd (show aC=aB from c) fS
 |str i=>
  obtain⟨t,rfl⟩:=d;cases y with
  |non=>cases a;exact IW (zz I q (by simp))
  |bl j=>cases a;exact IF (zz I q (by simp))
  |int j=>obtain⟨b,rfl⟩:=a;exact IV (zz I q (by simp))
  |str j=>obtain⟨b,rfl⟩:=a;exact ne_str (zz I q (congrArg not Y9))
  |_=>exact absurd (show aC=aB from c) fS
 |byt i=>
  obtain⟨t,rfl⟩:=d;cases y with
  |byt j=>obtain⟨b,rfl⟩:=a;exact PySem.W.ne_bytes (zz I q (congrArg not YA))
  |_=>exact absurd (show aC=aB from c) fS
 |_=>cases y<;>exact absurd (show aC=aB from c) fS
theorem MC:fJ X (fC .Lt) (lZ λi j=>.bl (decide (i<j))):=rM λ_ _ _ _ _ _ _ q=>lt_int q
theorem Mc:fJ X (fC .LtE) (lZ λi j=>.bl (decide (i<=j))):=rM λ_ _ _ _ _ _ _ q=>le_int q
theorem L1:fJ X (fC .Gt) (lZ λi j=>.bl (decide (j<i))):=rM λ_ _ _ _ _ _ _ q=>gt_int q
theorem L4:fJ X (fC .GtE) (lZ λi j=>.bl (decide (j<=i))):=rM λ_ _ _ _ _ _ _ q=>ge_int q
theorem Ue:fJ X (fC .In) (λx y H Q=>∃i j,x=.str i/\y=.str j/\Q (.bl (!(xL j i 0 j.length 1).isEmpty)) H):=by
 intro a s d H x y v u Q I c b h;obtain⟨i,j,rfl,rfl,q⟩:=h;obtain⟨t,rfl⟩:=c;obtain⟨e,rfl⟩:=b;exact in_str (zz I q rfl)
theorem OS:fJ X (fC .Is) (λx y H Q=>y=.non/\Q (.bl (decide (x=.non))) H):=by
 intro b s d H x y v u Q I a c h;obtain⟨rfl,q⟩:=h;cases c;refine is_none_gen (zz I q ?_)
 cases x<;>first
  |(cases a;rfl)
  |(obtain⟨t,rfl⟩:=a;rfl)
theorem P_:fJ X (fC .IsNot) (λx y H Q=>y=.non/\Q (.bl (!decide (x=.non))) H):=by
 intro b s d H x y v u Q I a c h;obtain⟨rfl,q⟩:=h;cases c;refine isnot_none_gen (zz I q ?_)
 cases x<;>first
  |(cases a;rfl)
  |(obtain⟨t,rfl⟩:=a;rfl)
theorem Hh(b:aI)(h:op≠.In:=by decide)(h2:op≠.NotIn:=by decide):tS op b=aC:=by
 have c:(op==CmpOp.In)=aC:=by cases op<;>first|rfl|exact absurd rfl h
 have a:(op==CmpOp.NotIn)=aC:=by cases op<;>first|rfl|exact absurd rfl h2
 cases b<;>simp[tS,c,a]
theorem VJ:(sizeLine:Nat)<2 ^ 63:=by rw[eG];decide
theorem vals1(r:aY [x] us):∃u,us=[u]/\RelV x u:=by
 cases r with
 |cons b a=>cases a;exact⟨_,rfl,b⟩
theorem vals2(r:aY [x,y] us):∃u d,us=[u,d]/\RelV x u/\RelV y d:=by
 cases r with
 |cons e c=>
  cases c with
  |cons b a=>cases a;exact⟨_,_,rfl,e,b⟩
theorem WB:Y1 X (.type "int") (λxs H Q=>(∃i,xs=[.int i]/\Q (.int i) H)\/∃k,xs=[.bl k]/\Q (.int (if k then 1 else 0)) H):=by
 intro a s c H xs d Q I r h;rcases h with⟨i,rfl,q⟩|⟨k,rfl,q⟩
 .obtain⟨u,rfl,t,rfl⟩:=vals1 r;exact call_int_int ⟨.int i,H,I,⟨_,rfl⟩,q⟩
 .obtain⟨u,rfl,b⟩:=vals1 r;cases b;exact call_int_bool ⟨.int (if k then 1 else 0),H,I.tok _,⟨_,rfl⟩,q⟩
end
end L2
namespace L2
open PySem PySem.Spec PyProof.Rows
structure gE(h:aV)(x dx C:aF)(mA:aH->Option aD):Prop where
 obj:h.get? x=aA (lR C dx)
 ns:h.Ns1 dx mA
 ne:dx≠x
theorem UO{h:aV}(n:h.Ns1 dx g):∃d,h.get? dx=aA d/\∀name,pX name d=aA (g name):=by
 obtain⟨o,es,ep,f,hd,j,_,i⟩:=n;refine⟨o,f,λname=>?_⟩;have e:=i name;unfold nsFind findBy at e;rw[<-EG] at e;unfold pX;rw[hd];dsimp only;split
 .rename_i y q;rw[q] at e;exact congrArg aA e
 .rename_i q;rw[q] at e;have a:es.toList.any (·.refKey)=aC:=by
   rw[tX];intro y c;obtain⟨z,t,b⟩:=j y (Ev.mp c);simp[DictEntry.refKey,b]
  have k:¬es.toList.any (·.refKey)=aB:=by rw[a];exact fS
  rw[if_neg k];exact congrArg aA e
theorem gE.look(I:gE h x dx C g):∃d,DL h x (lR C dx) C (aA d)/\∀name,pX name d=aA (g name):=
 let ⟨d,ho,a⟩:=UO I.ns
 ⟨d,⟨I.obj,rfl,rfl,ho⟩,a⟩
section
variable {prog:Program}{w:World}{A:Around}{E:aD->Shared->Prop}{s:Shared}{K:PySem.W.Frag}{x dx C f:aF}{mA:aH->Option aD}{name:aH}{v:aD}
theorem lu(X:K.In s.heap)(I:gE s.heap x dx C mA)(f:nY K C name=aB)(e:mi K C=aB)
  (g:c7 K (.ref C) name=aA aE) (b:mA name=aA v) (a:DO v=aB) (h:Q v {s with toks:=s.toks+1}) :
  wpAny (aS prog w) A (getAttr (.ref x) name d) Q E s:=by
 obtain⟨i,J,c⟩:=I.look;exact PySem.W.get_value X J (oA f).1 (PySem.W.findObj_own e g rfl (by rw[c,b])) a h
theorem SN(X:K.In s.heap)(I:gE s.heap x dx C mA)(a:nY K C name=aB)
  (e:c7 K (.ref C) name=aA (aA (.ref f))) (ht:tw K (.ref f)=aB) (c:mA name=aE) (h:Q (.ref f,[.ref x]) s) :
  wpAny (aS prog w) A (sU (.ref x) name pl) Q E s:=by
 obtain⟨b,J,d⟩:=I.look;exact PySem.W.method_fn X J (oA a).1 (oA a).2 e (beq_iff_eq.mp ht) (by show (pX name b).map (·.isSome)=aA aC;rw[d,c];rfl) h
theorem Rp(X:K.In s.heap)(I:gE s.heap x dx C mA)
  (hs:c7 K (.ref C) "__setattr__"=aA (aA (.builtin "object.__setattr__"))) (k:tW K C=aB) (ht:tO K C name=aA aE) (l:mi K C=aB)
  (hw:tH mA ns) (hsz:ns.length<=sizeLine)
  (h:∀h',gE h' x dx C (λy=>if y=name then aA v else mA y)->fR dx s.heap h'->Q () {s with heap:=h',toks:=s.toks+2}) :
  wpAny (aS prog w) A (setAttr (.ref x) name v) Q E s:=by
 obtain⟨p,J,t⟩:=I.look;refine D1 X J hs (PySem.W.osa_open (s:={s with toks:=s.toks+1}) (r:=aE) X J k ht λb=>?_);obtain⟨cd,m,g⟩:=u8 l;have j:s.heap.get? x=aA ⟨.ref C,aA dx,.plain,#[]⟩:=I.obj;refine wpAny_bind (wpAny_pure (wpAny_bind (wpAny_bind (wpAny_loadPart j (wpAny_bind (m4 (s:={s with toks:=s.toks+1}) (wl X m) ?_))))));rw[g];refine wpAny_pure (a:=aA dx) (wpAny_bind (wpAny_pure (wpAny_bind ?_)));refine wpAny_nsSet1 (s:={s with toks:=s.toks+1}) I.ns λh' d c=>?_;obtain⟨q,n,o,e,f,i⟩:=d.count (Dk name v hw);refine wpAny_bind (Ef e (by rw[f];exact Ee (dG i (by rw[gJ];lia))) ?_);exact wpAny_pure (h _ ⟨(c.2 _ (bW I.ne)).trans I.obj,d,I.ne⟩ c)
theorem JS{R:mL->bB->Prop}(X:K.In s.heap)(b:nH K C=aB)
  (hi:c7 K (.ref C) "__init__"=aA (aA (.ref f))) (c:sR K (.ref f)=aA (.type "function"))
  (h:gz (aS prog w) (A.under (.builtin "type.__call__" ⟨.ref C::vs,j⟩)) (.call (.ref f) ⟨.ref (s.heap.objs.size+1)::vs,j⟩) (PySem.W.InitBack (s.heap.objs.size+1) R)
   {s with heap:=(s.heap.push lh).push (lR C s.heap.objs.size)}) :
  gz (aS prog w) A (.call (.ref C) ⟨vs,j⟩) R s:=by
 obtain⟨e,g,d,t,os⟩:=s;exact PySem.W.make_core (PySem.W.makes_of X b) (Eu X hi) (λa=>PySem.W.bind_fn X a c) (.inl rfl) h
end
noncomputable def j7(f:aH)(v:V):List (aH×V)->List (aH×V)
 |[]=>[(f,v)]
 |(g,x)::r=>if g=f then (g,v)::r else (g,x)::j7 f v r
theorem uK(f g:aH)(v:V):∀fs:List (aH×V),(j7 f v fs).lookup g=if g=f then aA v else fs.lookup g
 |[]=>by
  show gT g [(f,v)]=_;by_cases h:g=f
  .have a:(g==f)=aB:=beq_iff_eq.mpr h;simp only[gT,a,if_pos h]
  .have a:(g==f)=aC:=beq_eq_false_iff_ne.mpr h;simp only[gT,a,if_neg h]
 |(k,x)::r=>by
  have c:=uK f g v r;rw[show j7 f v ((k,x)::r)=(if k=f then (k,v)::r else (k,x)::j7 f v r) from rfl];by_cases b:k=f
  .rw[if_pos b];by_cases h:g=k
   .have a:(g==k)=aB:=beq_iff_eq.mpr h;simp only[gT,a,if_pos (h.trans b)]
   .have a:(g==k)=aC:=beq_eq_false_iff_ne.mpr h;simp only[gT,a,if_neg (λe:g=f=>h (e.trans b.symm))]
  .rw[if_neg b];by_cases h:g=k
   .have a:(g==k)=aB:=beq_iff_eq.mpr h;simp only[gT,a,if_neg (λe:g=f=>b (h.symm.trans e))]
   .have a:(g==k)=aC:=beq_eq_false_iff_ne.mpr h;simp only[gT,a];exact c
theorem ur(f:aH)(v:V):∀fs:List (aH×V),f∈(j7 f v fs).map (·.1)/\∀g,g∈fs.map (·.1)->g∈(j7 f v fs).map (·.1)
 |[]=>⟨by simp[j7],λg h=>by simp at h⟩
 |(k,x)::r=>by
  obtain⟨c,b⟩:=ur f v r;rw[show j7 f v ((k,x)::r)=(if k=f then (k,v)::r else (k,x)::j7 f v r) from rfl];by_cases a:k=f
  .rw[if_pos a];subst a;exact⟨by simp,λg h=>by simpa using h⟩
  .rw[if_neg a];refine⟨?_,λg h=>?_⟩
   .rw[c8];exact cW _ c
   .rw[c8] at h ⊢;rcases cK.mp h with e|e
    .exact cK.mpr (.inl e)
    .exact cW _ (b g e)
theorem uU(f:aH)(v:V):∀fs:List (aH×V),(j7 f v fs).length<=fs.length+1
 |[]=>by simp[j7]
 |(k,x)::r=>by
  have b:=uU f v r;rw[show j7 f v ((k,x)::r)=(if k=f then (k,v)::r else (k,x)::j7 f v r) from rfl];by_cases a:k=f
  .rw[if_pos a,gJ,gJ];lia
  .rw[if_neg a,gJ,gJ];lia
theorem cQ.some_of(r:cQ (aA v) o):∃u,o=aA u/\RelV v u:=by
 cases o with
 |none=>exact (show False from r).elim
 |some u=>exact⟨u,rfl,r⟩
theorem cQ.none_of(r:cQ aE o):o=aE:=by
 cases o with
 |none=>rfl
 |some u=>exact (show False from r).elim
theorem UE(r:RelV v u):DO u=aB:=by
 cases v with
 |non=>cases (show u=gI from r);rfl
 |bl b=>cases (show u=pP b from r);rfl
 |int i=>obtain⟨t,e⟩:=(show ∃t,u=lJ i t from r);cases e;rfl
 |str x=>obtain⟨t,e⟩:=(show ∃t,u=mV x t from r);cases e;rfl
 |byt b=>obtain⟨t,e⟩:=(show ∃t,u=Dy b t from r);cases e;rfl
 |flt b=>obtain⟨t,e⟩:=(show ∃t,u=Dx b t from r);cases e;rfl
 |ref a=>cases (show u=cN a from r);rfl
 |ty n=>cases (show u=sW n from r);rfl
section
variable {P:Program}{w:World}{H:Hp}{h:aV}{a C dx:aF}{fs:List (aH×V)}
theorem y0(hok:dN P w H h)(e:H a=aA (.ins C dx fs)):∃g,gE h a dx C g/\(∀f,cQ (fs.lookup f) (g f))/\tH g (fs.map (·.1))/\fs.length<=1000/\H dx=aA (.own a):=by
 obtain⟨d,z,c,b,g,n,r,q⟩:=(show aZ P w H h a (.ins C dx fs) from hok a _ e);exact⟨g,⟨b,n,c⟩,r,q,z,d⟩
end
structure gR(K:PySem.W.Frag)(C:aF):Prop where
 pg:nY K C md=aB
 hd:mi K C=aB
 po:tW K C=aB
 sa:c7 K (.ref C) "__setattr__"=aA (aA (.builtin "object.__setattr__"))
theorem gR.get{K:bO}(c:gR K C)(f:aH):nY K C f=aB:=c.pg
noncomputable def cH(K:bO)(C:aF)(f:aH):Prop:=c7 K (.ref C) f=aA aE
theorem cH.taker{K:bO}(n:cH K C f):tO K C f=aA aE:=by
 unfold tO;rw[show c7 K (.ref C) f=aA aE from n];rfl
structure px(K:PySem.W.Frag)(C:aF)(m:aH)(f:aF):Prop where
 at_:c7 K (.ref C) m=aA (aA (.ref f))
 fn:tw K (.ref f)=aB
 kp:eP K (.ref f)=aB
section
variable {X:Cx}{pins:List (aF×bF)}{σ:St}{H:Hp}{s:Shared}{a C dx:aF}{fs:List (aH×V)}{f:aH}{v:V}{A:Around}{E:aD->Shared->Prop}
theorem ZT(I:Inv X pins σ H s)(e:H a=aA (.ins C dx fs))(c:gR X.K C)(n:cH X.K C f)(l:fs.lookup f=aA v)
  (h:∀u d,Inv X pins σ H d->RelV v u->Q u d):wpAny (aS X.prog X.w) A (getAttr (.ref a) f b) Q E s:=by
 obtain⟨i,O,r,_,_,_⟩:=y0 I.hok e;obtain⟨u,j,g⟩:=cQ.some_of (v:=v) (o:=i f) (by rw[<-l];exact r f);exact lu I.kIn O (c.get f) c.hd n j (UE g) (h u _ (I.tok _) g)
theorem XB(I:Inv X pins σ H s)(e:H a=aA (.ins C dx fs))(c:gR X.K C)(k:px X.K C m g)(l:fs.lookup m=aE)
  (h:Q (.ref g,[.ref a]) s):wpAny (aS X.prog X.w) A (sU (.ref a) m pl) Q E s:=by
 obtain⟨b,O,r,_,_,_⟩:=y0 I.hok e;have d:b m=aE:=cQ.none_of (by rw[<-l];exact r m);exact SN I.kIn O (c.get m) k.at_ k.fn d h
theorem XH(I:Inv X pins σ H s)(e:H a=aA (.ins C dx fs))(c:gR X.K C)(n:cH X.K C f)(G:fs.length<1000)(p:RelV y u)
  (h:∀j,Inv X pins σ (upd H a (.ins C dx (j7 f y fs))) j->Q () j):wpAny (aS X.prog X.w) A (setAttr (.ref a) f u) Q E s:=by
 obtain⟨k,O,r,i,_,l⟩:=y0 I.hok e;have t:(fs.map (·.1)).length<=sizeLine:=by rw[bJ,eG];lia
 refine Rp I.kIn O c.sa c.po n.taker c.hd i t λD d m=>h _ ?_;have hd:∃o,D.get? dx=aA o:=let ⟨o,_,_,F,_⟩:=d.ns;⟨o,F⟩;refine I.write (x:=a) (e:=dx) (by rw[e];exact gB) (.inr l) (λb q B z=>(m.2 b B).trans z) hd ?_;refine⟨by rw[z7 O.ne];exact l,?_,O.ne,d.obj,_,d.ns,λg=>?_,λg v=>?_⟩
 .have:=uU f y fs;lia
 .show cQ ((j7 f y fs).lookup g) (if g=f then aA u else k g);rw[uK];by_cases q:g=f
  .rw[if_pos q,if_pos q];exact p
  .rw[if_neg q,if_neg q];exact r g
 .by_cases q:g=f
  .rw[q];exact (ur f y fs).1
  .refine (ur f y fs).2 g (i g λz=>v ?_);show (if g=f then aA u else k g)=aE;rw[if_neg q];exact z
theorem Inv.made(I:Inv X pins σ H s):Inv X pins σ (upd (upd H s.heap.objs.size (.own (s.heap.objs.size+1))) (s.heap.objs.size+1) (.ins C s.heap.objs.size []))
  {s with heap:=(s.heap.push lh).push (lR C s.heap.objs.size)}:=by
 have c:(s.heap.push lh).get? s.heap.objs.size=aA lh:=eK s.heap rfl;have g:((s.heap.push lh).push (lR C s.heap.objs.size)).get? (s.heap.objs.size+1)=aA (lR C s.heap.objs.size):=by
  have:=eK (s.heap.push lh) (o:=lR C s.heap.objs.size) rfl;rwa[hX] at this
 have f:(s.heap.push lh).Ns s.heap.objs.size (λ_=>aE):=⟨lh,#[],_,c,rfl,(λe he=>absurd he (by simp)),λ_=>rfl⟩;have h:=I.laid (a:=s.heap.objs.size) (o:=.own (s.heap.objs.size+1)) (h':=s.heap.push lh) (t':=s.toks) (λb u q=>bY _ q) (bD _) ⟨_,c⟩;refine h.laid (a:=s.heap.objs.size+1) (o:=.ins C s.heap.objs.size []) (t':=s.toks) (λb u q=>bY _ q) (mf (hX _ _)) ?_;have ne:s.heap.objs.size≠s.heap.objs.size+1:=cX (mo _);refine⟨by rw[z7 ne,z3],hL _,ne,g,λ_=>aE,(DZ f).at λo q=>bY _ q,λ_=>gB,λy d=>absurd rfl d⟩
theorem Rc{env:Env}{e:aI}{f:aH}(hb:lU e f env (eval e env)=eval e env)
  (h:wpAny (aS prog w) A (eval e env) (λo d=>wpAny (aS prog w) A (getAttr o f aB) Q E d) E s):wpAny (aS prog w) A (eval (.Attribute e f pos) env) Q E s:=
 Attribute_any_ h (by rw[arm_eval_Attribute,hb])
end
noncomputable def Lq (K:bO)(d:TE)(f:aH):TE:=λc H Q=>d c H λx b=>∃a C dx fs v,x=.ref a/\b a=aA (.ins C dx fs)/\gR K C/\cH K C f/\fs.lookup f=aA v/\Q v b
noncomputable def zM (K:bO)(e d:TE)(f:aH):TS:=λD b H=>d b H λy g=>e b g λx c=>∃a C dx fs,x=.ref a/\c a=aA (.ins C dx fs)/\gR K C/\cH K C f/\fs.length<1000/\
 D.nx b (upd c a (.ins C dx (j7 f y fs)))
section
variable {X:Cx}{o e value:aI}{f:aH}{pos pos':Pos}{ta tv:TE}
theorem M7(he:PE X e ta)(hb:lU e f X.env (eval e X.env)=eval e X.env):PE X (.Attribute e f pos) (Lq X.K ta f):=by
 intro b s d H Q I h;refine Rc hb (aW (he b s d H _ I h) λu r ⟨x,m,k,g,a,C,dx,fs,v,ex,ea,c,n,l,q⟩=>?_);subst ex;obtain rfl:u=cN a:=g;exact ZT k ea c n l λo p j i=>⟨v,m,j,i,q⟩
theorem Om(p:PE X o ta)(m:PE X value tv)(hs:iJ value (aA (.Attribute o f pos')) pos.line X.env=pure aC):PS X (.Assign [.Attribute o f pos'] value pos) (zM X.K ta tv f):=by
 intro b s d H D I h;refine plainObj_wpAny_Assign_Attribute (aW (m b s d H _ I h) λu e ⟨y,w,v,g,q⟩=>aW (p b e d w _ v q) λk A ⟨x,B,t,i,a,C,dx,fs,ex,ea,c,n,l,j⟩=>?_) hs;subst ex;obtain rfl:k=cN a:=i;exact XH t ea c n l g λz r=>⟨d,_,r,j⟩
end
end L2
namespace L2
open PySem PySem.Spec PyProof.Rows
structure bZ(k:Nat)(A:Around):Prop where
 hd:A.handled=aE
 dp:A.depth+3*k+5<recursionLimit
 un:A.units+16*k+200<cLine
theorem bZ.mono(r:bZ k A)(h:j<=k):bZ j A:=⟨r.hd,by have:=r.dp;lia,by have:=r.un;lia⟩
theorem bZ.deeper(r:bZ (k+1) A)(env:Env):bZ k (A.deeper env):=
 ⟨r.hd,by have:=r.dp;show A.depth+1+3*k+5<_;lia,by have:=r.un;show A.units+3+16*k+200<_;lia⟩
theorem XO{A:fQ}:(A.under (.builtin "type.__call__" ⟨.ref C::us,d⟩)).depth=A.depth+1:=by
 first|rfl|simp[tu,Code.weight,Code.isCreation,Code.isGuard,Code.isCaller,Dw,tj,guardIds]
theorem KU{A:fQ}:(A.under (.builtin "type.__call__" ⟨.ref C::us,d⟩)).units=A.units+1:=by
 first|rfl|simp[tu,Code.cUnits,Dw,tj]
theorem bZ.make(r:bZ (k+1) A)(C:aF)(us:List aD)(a:List (aH×aD)):bZ k (A.under (.builtin "type.__call__" ⟨.ref C::us,a⟩)):=
 ⟨r.hd,by have:=r.dp;rw[XO];omega,by have:=r.un;rw[KU];omega⟩
theorem bZ.depth(r:bZ k A):A.depth<recursionLimit:=by have:=r.dp;lia
noncomputable def LG:TA:=λ_ H Q=>Q [] H
noncomputable def L6(d:TE)(c:TA):TA:=λa H Q=>d a H λx f=>c a f λb e=>Q (x::b) e
section
variable {X:Cx}{e:aI}{es:List aI}{te:TE}{t:TA}{pos:Pos}
theorem qL:PA X [] LG:=λ_ _ _ _ H Q I h=>om ⟨[],H,I,.nil,h⟩
theorem zK(l:PE X e te)(hr:PA X es t)(hs:dW (e::es) X.env=(aC,eval e X.env)::dW es X.env:=by rfl):PA X (e::es) (L6 te t):=by
 intro b a s c H Q I h;rw[hs];show wpAny _ _ (spliced ((aC,eval e X.env)::eU b (dW es X.env))) _ _ s;refine mx (aW (l a s c H _ I h) λu f ⟨x,p,n,i,k⟩=>?_);exact aW (hr b a f c p _ n k) λq r ⟨d,o,m,g,j⟩=>⟨x::d,o,m,.cons i g,j⟩
noncomputable def LL (t:TA):TE:=λc H Q=>t c H λa b=>a.length<=sizeLine/\∀p,b p=aE->Q (.ref p) (upd b p (.tup a))
noncomputable def LH (t:TA):TE:=λc H Q=>t c H λa b=>a.length<=sizeLine/\∀p,b p=aE->Q (.ref p) (upd b p (.lst a))
theorem Nt{x1}(h:PA X es t):PE X (.Tuple es x1 pos) (LL t):=by
 intro a s g H Q I k;refine wpAny_Tuple_spliced (aW (h pos a s g H _ I k) λj c ⟨i,f,d,r,z,q⟩=>⟨by rw[<-r.length];exact z,?_⟩);have l:f c.heap.objs.size=aE:=d.hok.fresh (bD _);refine⟨.ref c.heap.objs.size,upd f c.heap.objs.size (.tup i),d.laid (t':=c.toks) (λb u e=>bY _ e) (bD _) ?_,rfl,q _ l⟩;exact⟨z,j,r,⟨_,eK _ rfl,rfl,_,rfl⟩⟩
theorem G8(h:PA X es t):PE X (.List es pos) (LH t):=by
 intro a s g H Q I k;refine wpAny_List_spliced (aW (h pos a s g H _ I k) λj c ⟨i,f,d,r,z,q⟩=>⟨by rw[<-r.length];exact z,?_⟩);have l:f c.heap.objs.size=aE:=d.hok.fresh (bD _);refine⟨.ref c.heap.objs.size,upd f c.heap.objs.size (.lst i),d.laid (t':=c.toks) (λb u e=>bY _ e) (bD _) ?_,rfl,q _ l⟩;exact⟨z,j,0,r,eK _ rfl⟩
end
noncomputable abbrev Sp:=List V->Hp->VK->XK->Prop
noncomputable abbrev mK:=List Env->Hp->bB->XK->aD->bB->Prop
structure dZ(P:Program)(w:World)(K:PySem.W.Frag)(mg:aH->Option aD)(base:aV)(A:Around)(outer:List Env)(s:Shared)(H:Hp):Prop where
 frames:A.frames=aA outer
 mod:Mod K mg base
 bs:∀b o,base.get? b=aA o->s.heap.get? b=aA o/\H b=aE
 bsz:base.objs.size<=s.heap.objs.size
 funs:s.heap.FunFrames base outer
 frf:∀b∈eS outer,H b=aE
 hok:dN P w H s.heap
 bare:iX s.gens
inductive CE(outer:List Env)(P:Program)(w:World)(H:Hp)(s:Shared)(Q:VK)(u:aD)(s':Shared):Prop where
 |mk (v:V) (H':Hp) (o:s'.os=s.os) (b:iX s'.gens) (n:Un (eS outer) [] H H' s.heap s'.heap) (k:dN P w H' s'.heap) (r:RelV v u) (q:Q v H')
noncomputable def CR (CX:mK)(outer:List Env)(P:cI)(w:eE)(H:Hp)(s:bB)(Q:VK)(E:XK)(r:mL)(a:bB):Prop:=
 match r with
 |.ok (.ret u)=>CE outer P w H s Q u a
 |.ok _=>False
 |.error e=>CX outer H s E e a
structure bS(P:Program)(w:World)(K:PySem.W.Frag)(mg:aH->Option aD)(base:aV)(CX:mK)(k:Nat)(f:aF)(fd:FuncData)(ps:List aH)(sp:Sp):Prop where
 len:∀vs H Q E,sp vs H Q E->vs.length=ps.length
 run:∀(A:fQ) (outer:List Env) (s:bB) (H:Hp) (args:Args) (us:List aD) (vs:List V) (Q:VK) (E:XK),bZ k A->dZ P w K mg base A outer s H->l_ s fd args (ps.zip us)->aY vs us->sp vs H Q E->
  gz (aS P w) A (.call (.ref f) args) (CR CX outer P w H s Q E) s
theorem bS.imp{P:cI}{K:bO}(F:bS P w K mg base CX k f fd ps sp)
  (h:∀vs H Q E,d vs H Q E->sp vs H Q E):bS P w K mg base CX k f fd ps d:=
 ⟨λvs H Q E q=>F.len vs H Q E (h _ _ _ _ q),λA outer s H args us vs Q E hr he hb a hs=>F.run A outer s H args us vs Q E hr he hb a (h _ _ _ _ hs)⟩
theorem dZ.make{P:cI}{K:bO}(e:dZ P w K mg base A outer s H)(C:aF)(us:List aD)(a:List (aH×aD)) :
  dZ P w K mg base (A.under (.builtin "type.__call__" ⟨.ref C::us,a⟩)) outer s H:=⟨by first|exact e.frames|(simpa[tu,Code.envs,tj,pushEnvs] using e.frames),e.mod,e.bs,e.bsz,e.funs,e.frf,e.hok,e.bare⟩
theorem dZ.in1{P:cI}{K:bO}(e:dZ P w K mg base A outer s H) :
  dZ P w K mg base A.in1 outer s H:=⟨e.frames,e.mod,e.bs,e.bsz,e.funs,e.frf,e.hok,e.bare⟩
section
variable {X:Cx}{pins:List (aF×bF)}{σ:St}{H:Hp}{s s':Shared}
theorem Inv.env0(I:Inv X pins σ H s):dZ X.prog X.w X.K X.mg X.base X.A X.stack s H:=
 ⟨I.ok.frames,I.ok.mod,I.bs,dG I.ok.bsz I.sz,I.stack,I.stkFree,I.hok,I.bare⟩
theorem Inv.after(I:Inv X pins σ H s)(h:CE X.stack X.prog X.w H s Q u s'):EP X pins σ Q u s':=by
 obtain⟨v,e,os,bare,un,hok,r,q⟩:=h;obtain⟨c,g,d,t,a⟩:=s';obtain rfl:a=s.os:=os;exact⟨v,e,I.call (h':=c) (g':=g) (d':=d) (t':=t) (ch:=[]) un hok bare (λb z=>absurd z (by simp)),r,q⟩
end
noncomputable def Binds(K:bO)(fd:FuncData)(ps:List aH)(ds:List aD):Prop:=
 ∀(s:bB) (a:List aD),K.In s.heap->(a++ds).length=ps.length->l_ s fd ⟨a,[]⟩ (ps.zip (a++ds))
theorem Binds.all{K:bO}(h:∀us:List aD,us.length=ps.length->me fd ⟨us,[]⟩=pure (ps.zip us)):Binds K fd ps []:=λs us _ a=>by
 rw[gU] at a ⊢;exact .of_eq (h us a)
section
variable {f C:aF}
structure Mk(K:PySem.W.Frag)(C f:aF):Prop where
 makes:nH K C=aB
 init:c7 K (.ref C) "__init__"=aA (aA (.ref f))
 fn:tw K (.ref f)=aB
 kp:eP K (.ref C)=aB
end
structure dT(N P:List aH)(sc:Scope):Prop where
 kind:sc.kind=.function
 co:sc.isCoroutine=aC
 gen:sc.isGenerator=aC
 nd:N.Nodup
 pre:N.take P.length=P
 par:∀x∈P,sc.names.lookup x=aA .local\/sc.names.lookup x=aA .cell
 nofree:∀y∈sc.names,y.2≠.free
theorem Wv{kindOf:aH->Option lF}:∀{binds:List (aH×aD)}{m:aH->Option aD},(∀v,(x,v)∉binds)->lD kindOf binds m x=m x
 |[],_,_=>rfl
 |(n,v)::r,m,h=>by
  unfold lD;rw[Wv λw hw=>h w (cW _ hw)];split
  .have:x≠n:=by rintro rfl;exact h v dJ
   simp[this]
  .rfl
theorem Wq{kindOf:aH->Option lF}:∀{binds:List (aH×aD)}{m:aH->Option aD},(∀v,(x,v)∉binds)->lC kindOf binds m x=m x
 |[],_,_=>rfl
 |(n,v)::r,m,h=>by
  unfold lC;rw[Wq λw hw=>h w (cW _ hw)];split
  .rfl
  .have:x≠n:=by rintro rfl;exact h v dJ
   simp[this]
theorem WT{kindOf:aH->Option lF}:∀{P:List aH}{vs:List aD}{i:Nat}{m:aH->Option aD},P.Nodup->P[i]?=aA x->vs[i]?=aA v->kindOf x=aA .local->
  lD kindOf (P.zip vs) m x=aA v
 |[],_,_,_,_,h,_,_=>by simp at h
 |_::_,[],_,_,_,_,h,_=>by simp at h
 |p::P,w::vs,0,m,c,b,a,d=>by
  simp at b a;subst b;subst a;show lD kindOf ((p,w)::P.zip vs) m p=_;unfold lD;rw[Wv λv e=>(iP.mp c).1 (tN e).1,if_pos d];simp
 |p::P,w::vs,i+1,m,c,b,a,d=>by
  show lD kindOf ((p,w)::P.zip vs) m x=_;unfold lD;exact WT (i:=i) (iP.mp c).2 (by simpa using b) (by simpa using a) d
theorem Wf{kindOf:aH->Option lF}:∀{P:List aH}{vs:List aD}{i:Nat}{m:aH->Option aD},P.Nodup->P[i]?=aA x->vs[i]?=aA v->kindOf x≠aA .local->
  lC kindOf (P.zip vs) m x=aA v
 |[],_,_,_,_,h,_,_=>by simp at h
 |_::_,[],_,_,_,_,h,_=>by simp at h
 |p::P,w::vs,0,m,c,b,a,d=>by
  simp at b a;subst b;subst a;show lC kindOf ((p,w)::P.zip vs) m p=_;unfold lC;rw[Wq λv e=>(iP.mp c).1 (tN e).1,if_neg d];simp
 |p::P,w::vs,i+1,m,c,b,a,d=>by
  show lC kindOf ((p,w)::P.zip vs) m x=_;unfold lC;exact Wf (i:=i) (iP.mp c).2 (by simpa using b) (by simpa using a) d
noncomputable def start(N:List aH)(vs:List V):St:=vs.map aA++lO (N.length-vs.length) aE
noncomputable def Xo (CX:mK)(P:cI)(w:eE)(K:bO)(mg:aH->Option aD)(base:aV)(N:List aH)(qual:aH)(scope:Scope)(f:aF)(cd:aD)(A:fQ)(outer:List Env)(s:bB)(H:Hp)(E:XK)(fnb:aH->Bool:=λ_=>aB):Cx where
 prog:=P
 w:=w
 K:=K
 mg:=mg
 base:=base
 A:=A.deeper (gH qual scope s.heap.objs.size f cd)
 N:=N
 s₀:=s
 H₀:=H
 env:=gH qual scope s.heap.objs.size f cd
 outer:=outer
 stack:=gH qual scope s.heap.objs.size f cd::outer
 ex:=[]
 calm:=aB
 fn:=fnb
 pn:=[]
 xe:=λe b=>wpAny (aS P w) (A.deeper (gH qual scope s.heap.objs.size f cd)) (pE (gH qual scope s.heap.objs.size f cd) e) (λ_ a=>CX outer H s E e a) (λc a=>CX outer H s E c a) b
theorem Jr{sc:Scope}(h:sc.names.lookup x=aA .cell):∃c,(sT n sc.names []).lookup x=aA c:=by
 have q:=EW sc.names n [] (.inl h);exact wr.mp q
theorem WG{CX:mK}{P:cI}{w:eE}{K:bO}{mg:aH->Option aD}{base:aV}{N ps:List aH}{qual:aH}{f:aF}{cd:aD}{A:fQ}{s B:bB}{H:Hp}{E:XK}{vs:List V} 
  (S:dT N ps scope) (hd:A.handled=aE) (e0:dZ P w K mg base A outer s H) (L:vs.length=ps.length) (r:aY vs us)
  (x:InCallC s s.heap.objs.size (lD (gH qual scope s.heap.objs.size f cd).kindOf (ps.zip us) λ_=>aE) (sT (s.heap.objs.size+1) scope.names []) (lC (gH qual scope s.heap.objs.size f cd).kindOf (ps.zip us) λ_=>aE) B) :
  Inv (Xo CX P w K mg base N qual scope f cd A outer s H E fnb) [] (start N vs) H B:=by
 have G:ps.length<=N.length:=by have:=congrArg lI S.pre;rw[hO] at this;lia
 obtain⟨t,J,rfl,D⟩:=x.done;have g:∀b:aF,b∉(Xo CX P w K mg base N qual scope f cd A outer s H E fnb).ex:=λb z=>absurd (show b∈([]:List aF) from z) (by simp)
 refine⟨⟨e0.mod,S.kind,rfl,rfl,bD _,λy z c t d=>?_,λy j=>?_,λy c _ h=>?_,λ_=>hd,Et e0.frames,.inr ⟨rfl,rfl⟩,λb z=>absurd z (g b),e0.bs,e0.bsz,λb _ _=>g b,λb z=>absurd z (g b),e0.funs,e0.frf⟩,
  rfl,e0.bare,Un.kept D,⟨_,x.toInCall.ns,λi y v t d M=>?_⟩,λy c h=>⟨_,x.cell y c h⟩,e0.hok.fresh (bD _),λy c h=>?_,λp m=>absurd (show p∈([]:List (aF×bF)) from m) (by simp),e0.hok.kept D,?_⟩
 .exact name_of_addr x.apart (li t) (li d)
 .have j:scope.names.lookup y=aA .cell\/scope.names.lookup y=aA .free:=j;rcases j with j|j
  .exact Jr j
  .exact absurd rfl (S.nofree _ (li j))
 .exact i8 (x.above y c (li h))
 .have o:i<vs.length:=by
   unfold start at d;by_cases o:i<vs.length
   .exact o
   .rw[fP (by simpa using o)] at d;rw[rJ] at d;split at d<;>cases d
  have I:vs[i]?=aA v:=by
   unfold start at d;rw[dP (by simpa using o),cE] at d;cases e:vs[i]? with
   |none=>rw[e] at d;cases d
   |some a=>rw[e] at d;cases d;rfl
  obtain⟨u,C,F⟩:=r.get I;have m:ps[i]?=aA y:=by
   rw[<-S.pre,List.getElem?_take_of_lt (by lia)];exact t
  have l:ps.Nodup:=by rw[<-S.pre];exact S.nd.sublist (mZ _ _)
  refine⟨u,F,?_⟩;rcases S.par y (bK m) with k|k
  .exact .inl ⟨k,WT l m C k⟩
  .obtain⟨c,e⟩:=Jr (n:=s.heap.objs.size+1) k;refine .inr ⟨.inl k,c,e,?_⟩;have q:=x.cell y c e;rw[Wf l m C (by show scope.names.lookup y≠_;rw[k];decide)] at q;exact q
 .exact .inl (e0.hok.fresh (i8 (x.above y c (li h))))
 .unfold start;show _=N.length;rw[gK,bJ,EC];lia
theorem GC {CX : mK}{P : cI}{w : eE}{K : bO}{k : Nat}{f : aF}{name qual : aH}{params : Arguments}{body : List bG}{O kV doc M a ct Y : aD}{an X : Option aF}
 {N ps : List aH}{sp : Sp}(lk : K.lookup f = aA ⟨Y, X, .func (f8 name qual params body scope O kV doc M an a ct), U⟩) (G : fB K a qual = aB) (S : dT N ps scope)
    (len:∀vs H Q E, sp vs H Q E->vs.length=ps.length)
    (j : ∀ (A : fQ) (outer : List Env) (s : bB) (H : Hp) (vs : List V) (Q : VK) (E : XK), bZ k (A.deeper (gH qual scope s.heap.objs.size f a)) -> sp vs H Q E -> (∀ y c, (gH qual scope s.heap.objs.size f a).cells.lookup y = aA c -> s.heap.objs.size <= c /\ H c = aE) ->
      ∃t, gP (Xo CX P w K mg base N qual scope f a A outer s H E fnb) body t/\t {nx:=λ_ g=>Q .non g, rt:=Q} (start N vs) H) :
    bS P w K mg base CX (k+1) f (f8 name qual params body scope O kV doc M an a ct) ps sp:=by
  refine⟨len, λA outer s H args T vs Q E F e0 hb r p=>?_⟩;have hl:=len _ _ _ _ p;have R:K.In s.heap:=e0.mod.kin.keeps λb o e=>(e0.bs b o e).1;have D:s.heap.NoLimit:=e0.mod.nolimit.keeps λb o e=>(e0.bs b o e).1;have i:∀y∈ps.zip T, scope.names.lookup y.1=aA .local\/(scope.names.lookup y.1=aA .cell/\((sT (s.heap.objs.size+1) scope.names []).lookup y.1).isSome=aB):=λ⟨n, v⟩ Z=>by
    rcases S.par n (tN Z).1 with q|q
    · exact .inl q
    · exact .inr ⟨q, EW _ _ _ (.inl q)⟩
  refine EB F.depth (R _ _ lk) rfl S.co S.gen rfl (PySem.W.codeRec_of R G) (hb _ _ _ _ ?_);refine E5 S.kind i λenv he L x=>?_;subst he;refine⟨D.keeps x.toInCall.keep, codeAny_func ?_⟩;obtain⟨t, ht, hq⟩:=j A outer s H vs Q E (F.deeper _) p λy c h=>have l:=i8 (x.above y c (li h));⟨l, e0.hok.fresh l⟩;have I:Inv (Xo CX P w K mg base N qual scope f a A outer s H E fnb) [] (start N vs) H L:=WG S F.hd e0 hl r x;refine dY (ht [] L (start N vs) H _ I hq) (λfl B m=>?_) λe B m=>m
  have z:∀{d:St}{g:Hp}{v:V}{u:aD}, Inv (Xo CX P w K mg base N qual scope f a A outer s H E fnb) [] d g B->RelV v u->Q v g->CE outer P w H s Q u B:=
    λ{d g v u} J C q=>⟨v, g, J.os, J.bare, J.base, J.hok, C, q⟩
  cases fl with
  |ret u=>
    obtain⟨v, d, g, J, C, q⟩:=m;exact z J C q
  |next=>
    obtain⟨d, g, J, q⟩:=m;exact z (v:=V.non) (u:=gI) J rfl q
  |brk=>
    obtain⟨_, _, _, q⟩:=m;exact eF q
  |cont=>
    obtain⟨_, _, _, q⟩:=m;exact eF q
end L2
namespace HT
open PySem PyProof.Rows
section
noncomputable def sIx(n d:Nat):Option Int->Nat
 |none=>d
 |some v=>if v<0 then (v+(n:Int)).toNat else min v.toNat n
end
end HT
namespace L2
open PySem PySem.Spec PyProof.Rows
noncomputable abbrev TO:=St->Hp->(Option Int->Hp->Prop)->Prop
noncomputable def PO (X:Cx)(e:Option aI)(t:TO):Prop:=
 ∀(a:List (aF×bF)) (s:bB) (b:St) (H:Hp) (Q:Option Int->Hp->Prop),Inv X a b H s->t b H Q->
  wpAny (aS X.prog X.w) X.A (evalPart e X.env) (λu d=>∃o c,Inv X a b c d/\IsPart u o/\Q o c) X.xe s
noncomputable def RP:TO:=λ_ H Q=>Q aE H
noncomputable def Mz(t:TE):TO:=λa H Q=>t a H λx b=>∃i,x=.int i/\Q (aA i) b
section
variable {X:Cx}{e:aI}{te:TE}{lo hi:Option aI}{tl th:TO}{pos p2:Pos}
theorem P4:PO X aE RP:=by
 intro a s b H Q I h;rw[evalPart_none];exact wpAny_pure ⟨aE,H,I,.none,h⟩
theorem Ru(h:PE X e te):PO X (aA e) (Mz te):=by
 intro a s b H Q I hw;rw[evalPart_some];refine aW (h a s b H _ I hw) λu j ⟨x,g,f,c,d⟩=>?_;obtain⟨i,rfl,q⟩:=d;obtain⟨t,rfl⟩:=c;exact⟨aA i,g,f,.int i t,q⟩
noncomputable def Il (X:Cx)(r:V->Option Int->Option Int->Hp->VK->Prop):Prop:=
 ∀(a:List (aF×bF)) (s:bB) (b:St) (H:Hp) (x:V) (v d c:aD) (lo hi:Option Int) (e:aF) (Q:VK),Inv X a b H s->RelV x v->s.heap.IsSliceOf e d c .none->IsPart d lo->IsPart c hi->r x lo hi H Q->
  ∃T id,pO (.type T) "__getitem__"=pure (aA (.builtin id))/\s.TypeIs v T/\wpAny (aS X.prog X.w) X.A (mR v (.ref e)) (EP X a b Q) X.xe s
noncomputable def Wp (r:V->Option Int->Option Int->Hp->VK->Prop)(te:TE)(tl th:TO):TE:=λa H Q=>te a H λx d=>tl a d λl c=>th a c λu b=>r x l u b Q
theorem TB(hr:Il X r)(he:PE X e te)(C:PO X lo tl)(z:PO X hi th):PE X (.Subscript e (.Slice lo hi aE p2) pos) (Wp r te tl th):=by
 intro a s d H Q I h;refine Subscript_ (aW (he a s d H _ I h) λv k ⟨x,M,K,m,p⟩=>?_);refine wpAny_Slice (aW (C a k d M _ K p) λg j ⟨l,L,J,y,o⟩=>aW (z a j d L _ J o) λf c ⟨u,i,G,t,n⟩=>?_);rw[evalPart_none];refine wpAny_pure ?_;have F:Inv X a d i {c with heap:=c.heap.push {cls:=.type "slice",data:=.fields #[g,f,.none]}}:=G.kept (t':=c.toks) λb N q=>bY _ q;obtain⟨T,id,E,B,D⟩:=hr a {c with heap:=c.heap.push {cls:=.type "slice",data:=.fields #[g,f,.none]}} d i x v g f l u c.heap.objs.size Q F m (IA ..) y t n;show wpAny (aS X.prog X.w) X.A (tR e (.Slice lo hi aE p2) v (.ref c.heap.objs.size)) (EP X a d Q) X.xe {c with heap:=c.heap.push {cls:=.type "slice",data:=.fields #[g,f,.none]}};exact tail_any (ops:=[.ref c.heap.objs.size,v]) B E D (by with_unfolding_all rfl)
noncomputable def Ui (xs:List V)(lo hi:Option Int):List V:=(xs.drop (HT.sIx xs.length 0 lo)).take (HT.sIx xs.length xs.length hi-HT.sIx xs.length 0 lo)
theorem JN(xs:List V)(lo hi:Option Int):(Ui xs lo hi).length<=xs.length:=by
 unfold Ui;rw[hO,ut];lia
end
end L2
namespace L2
open PySem PySem.Spec PyProof.Rows
noncomputable def o6(n:Nat)(i:Int):Option Nat:=if 0<=i then (if i<n then aA i.toNat else aE) else if -(n:Int)<=i then aA (i+n).toNat else aE
noncomputable def ny {α:Type}(xs:List α)(i:Int):Option α:=(o6 xs.length i).bind λj=>xs[j]?
theorem Si(h:o6 n i=aA j):seqIndex? i n=aA j/\j<n /\ -(n:Int)<=i/\i<n:=by
 unfold o6 at h;by_cases b:0<=i
 .rw[if_pos b] at h;by_cases a:i<n
  .rw[if_pos a] at h;have e:i.toNat=j:=bQ h;exact⟨by rw[seqIndex_of b a,e],by lia,by lia,a⟩
  .rw[if_neg a] at h;cases h
 .rw[if_neg b] at h;by_cases a:-(n:Int)<=i
  .rw[if_pos a] at h;have e:(i+n).toNat=j:=bQ h;exact⟨by rw[seqIndex_neg (by lia) a,e],by lia,a,by lia⟩
  .rw[if_neg a] at h;cases h
theorem YJ{xs:List α}(h:ny xs i=aA v):∃j,seqIndex? i xs.length=aA j/\xs[j]?=aA v/\j<xs.length /\ -(xs.length:Int)<=i/\i<xs.length:=by
 unfold ny at h;cases e:o6 xs.length i with
 |none=>rw[e] at h;cases h
 |some j=>
  rw[e] at h;obtain⟨d,c,b,a⟩:=Si e;exact⟨j,d,h,c,b,a⟩
noncomputable def Rz(b:aI):Prop:=∀o i,pJ b aC o i=operate [o,i] (mR o i)
noncomputable def Io (X:Cx)(r:R2):Prop:=
 ∀(c a:aI) (b:List (aF×bF)) (s:bB) (d:St) (H:Hp) (x y:V) (v u:aD) (Q:VK),Inv X b d H s->RelV x v->RelV y u->r x y H Q->
  pJ a aC v u=operate [v,u] (mR v u)->wpAny (aS X.prog X.w) X.A (tR c a v u) (EP X b d Q) X.xe s
noncomputable def sI (X:Cx)(id:String)(r:V->List V->Hp->VK->Prop):Prop:=
 ∀(a:List (aF×bF)) (s:bB) (b:St) (H:Hp) (x:V) (c:List V) (v:aD) (d:List aD) (Q:VK),Inv X a b H s->RelV x v->aY c d->r x c H Q->
  wpAny (aS X.prog X.w) X.A (call (.builtin id) (v::d)) (EP X a b Q) X.xe s
section
variable {X:Cx}{a b:aI}
noncomputable def Ln (K:bO):R2:=λx y H Q=>∃p a i v,x=.ref p/\y=.int i/\f_ K H p a/\ny a i=aA v/\Q v H
noncomputable def LA (K:bO):R2:=λx y H Q=>∃p a i v,x=.ref p/\y=.int i/\pi K H p a/\ny a i=aA v/\Q v H
theorem Y2:Io X (Ln X.K):=by
 intro d e a s m H x y v u Q I C B h n;obtain⟨p,M,i,z,rfl,rfl,D,F,q⟩:=h;cases C;obtain⟨t,rfl⟩:=B;obtain⟨k,r,g,N⟩:=I.list D;obtain⟨j,c,L,P,J,G⟩:=YJ F;obtain⟨w,ew,f⟩:=r.get L;have E:=r.length;have O:=VJ;have b:EP X a m Q w s:=⟨z,H,I,f,q⟩;by_cases o:0<=i
 .have l:i.toNat=j:=by
   rw[seqIndex_of o G] at c;exact bQ c
  exact item_listR g.isList o (by lia) (by rw[l];simpa using ew) b n
 .have l:(i+(k.toArray.size:Int)).toNat=j:=by
   rw[seqIndex_neg (by lia) J] at c;rw[d7,<-E];exact bQ c
  exact EV (x:=w) g.isList.typeIs DY.lookup
   (wpAny_getItem_list_neg (Q:=λr A=>r=w/\EP X a m Q r A) g.isList (by lia) (by rw[d7]<;>lia) (by lia) (by rw[l];simpa using ew) ⟨rfl,b⟩) n
theorem NZ:Io X (LA X.K):=by
 intro b c a s f H x y v u Q I m l h o;obtain⟨p,F,i,z,rfl,rfl,A,C,q⟩:=h;cases m;obtain⟨t,rfl⟩:=l;obtain⟨n,r,g,G⟩:=I.tuple A;obtain⟨j,E,D,N,M,L⟩:=YJ C;obtain⟨w,ew,d⟩:=r.get D;have B:=r.length;have J:=VJ;have e:EP X a f Q w s:=⟨z,H,I,d,q⟩
 exact EV (x:=w) g.typeIs slot_tuple_getitem.lookup
  (getItem_tuple (j:=j) (Q:=λr k=>r=w/\EP X a f Q r k) g (by lia) (by lia) (by rw[d7,<-B];exact E) (by simpa using ew) ⟨rfl,e⟩) o
theorem VM(lo hi:Option Int)(n:Nat):(mh lo hi aE n).1=((HT.sIx n 0 lo:Nat):Int)/\(mh lo hi aE n).2.1=((HT.sIx n n hi:Nat):Int)/\(mh lo hi aE n).2.2=1:=by
 refine⟨?_,?_,rfl⟩
 .cases lo with
  |none=>simp[mh,HT.sIx]
  |some i=>
   simp only[mh,HT.sIx,Ed,show (1:Int) > 0 by decide,if_true];by_cases h:i<0
   .simp only[h,if_true]<;>lia
   .simp only[h,if_false]<;>lia
 .cases hi with
  |none=>simp[mh,HT.sIx]
  |some i=>
   simp only[mh,HT.sIx,Ed,show (1:Int) > 0 by decide,if_true];by_cases h:i<0
   .simp only[h,if_true]<;>lia
   .simp only[h,if_false]<;>lia
theorem QV(its:List aD)(lo hi:Option Int):slicePick its.toArray lo hi aE=((its.drop (HT.sIx its.length 0 lo)).take (HT.sIx its.length its.length hi-HT.sIx its.length 0 lo)).toArray:=by
 obtain⟨c,b,a⟩:=VM lo hi its.toArray.size;unfold slicePick;rw[c,b,a];simp only[sliceRange_one,pick_run,d7]<;>rfl
noncomputable def LD (K:bO):V->Option Int->Option Int->Hp->VK->Prop:=λx lo c H Q=>∃a b,x=.ref a/\f_ K H a b/\∀p,H p=aE->Q (.ref p) (upd H p (.lst (Ui b lo c)))
theorem Rl:Il X (LD X.K):=by
 intro f s t H x v w u lo e y Q I i p k j h;obtain⟨a,c,rfl,n,q⟩:=h;cases i;obtain⟨l,r,g,m⟩:=I.list n;have d:=r.length;refine⟨"list",_,DY.lookup,g.isList.typeIs,?_⟩;refine wpAny_getItem_list_slice g.isList p k j .none (by simp) ?_ (by rw[d7]<;>lia);rw[QV,<-d];refine⟨.ref s.heap.objs.size,_,I.laid (t':=s.toks) (o:=.lst (Ui c lo e)) (λb z q=>bY _ q) (bD _) ?_,rfl,q _ (I.hok.fresh (bD _))⟩;exact⟨dG (JN c lo e) m,_,0,(r.drop (HT.sIx c.length 0 lo)).take (HT.sIx c.length c.length e-HT.sIx c.length 0 lo),eK _ rfl⟩
theorem jz:Y1 X (.builtin "len") (λxs H Q=>∃p ys,xs=[.ref p]/\(f_ X.K H p ys\/pi X.K H p ys)/\Q (.int ys.length) H):=by
 intro f s j H xs k Q I r h;obtain⟨p,ys,rfl,b,q⟩:=h;obtain⟨u,rfl,g⟩:=vals1 r;cases g;have l:=VJ;rcases b with b|b
 .obtain⟨e,c,d,i⟩:=I.list b;have a:=c.length;exact Calls.call_len_list d.isList (by simp only[d7]<;>lia) ⟨.int ys.length,H,I.tok _,⟨s.toks+1,by rw[d7,a]⟩,q⟩
 .obtain⟨e,c,d,i⟩:=I.tuple b;have a:=c.length;exact len_tuple d (by simp only[d7]<;>lia) ⟨.int ys.length,H,I.tok _,⟨s.toks+1,by rw[d7,a]⟩,q⟩
theorem VE:Y1 X (.builtin "len") (λxs H Q=>∃z,xs=[.str z]/\z.length<=sizeLine/\Q (.int z.length) H):=by
 intro a s b H xs c Q I r h;obtain⟨z,rfl,d,q⟩:=h;obtain⟨u,rfl,t,rfl⟩:=vals1 r;have e:=VJ;exact len_str (by lia) ⟨.int z.length,H,I.tok _,⟨_,rfl⟩,q⟩
theorem jg:Y1 X (.type "list") (λxs H Q=>∃p ys,xs=[.ref p]/\(f_ X.K H p ys\/pi X.K H p ys)/\∀l,H l=aE->Q (.ref l) (upd H l (.lst ys))):=by
 intro g s A H xs C Q I r h;obtain⟨p,ys,rfl,k,q⟩:=h;obtain⟨u,rfl,B⟩:=vals1 r;cases B
 have t:∀(a:List aD),aY ys a->ys.length<=sizeLine->∀(c:aV) (f:Nat),(∀b z,s.heap.get? b=aA z->c.get? b=aA z)->
   c.get? s.heap.objs.size=aA {cls:=.type "list",dict:=aE,data:=.seq a.toArray f,slots:=#[]}->EP X g A Q (.ref s.heap.objs.size) {s with heap:=c}:=λa d j c f i e=>
  ⟨.ref s.heap.objs.size,_,I.laid (t':=s.toks) i (bD _) (show aZ X.prog X.w _ c _ (.lst ys) from ⟨j,a,f,d,e⟩),rfl,q _ (I.hok.fresh (bD _))⟩
 rcases k with k|k
 .obtain⟨a,d,v,j⟩:=I.list k;have m:=d.length;obtain⟨o,x,y,n,hd⟩:=v.isList;exact call_list_seq p (.inl rfl) x y hd (λc f i e=>t a d j c f i e) (by simp only[d7]<;>lia)
 .obtain⟨a,d,v,j⟩:=I.tuple k;have m:=d.length;obtain⟨o,x,y,n,hd⟩:=v;exact call_list_seq p (.inr rfl) x y hd (λc f i e=>t a d j c f i e) (by simp only[d7]<;>lia)
noncomputable def Cp (K:bO)(T:String)(x:V)(H:Hp):Prop:=match x with
 |.str _=>T="str"
 |.int _=>T="int"
 |.ref p=>(T="list"/\∃b,f_ K H p b)\/(T="tuple"/\∃o,K.lookup p=aA o/\o.cls=.type "tuple"/\o.dict=aE)\/
   (T="dict"/\((∃a,H p=aA (.dK a))\/∃ep a,H p=aA (.dE ep a)))\/(T="set"/\∃S n,H p=aA (.set S n))
 |_=>False
theorem Hy{h:St}{H:Hp}{x:V}(I:Inv X j h H s)(r:RelV x v)(ty:Cp X.K T x H) :
  s.TypeIs v T/\∀a,v=.ref a->∃ob,s.heap.get? a=aA ob/\ob.dict=aE:=by
 cases x with
 |str z=>
  obtain⟨t,rfl⟩:=r;cases (show T="str" from ty);exact⟨typeIs_str s z t,λ_ e=>nomatch e⟩
 |int i=>
  obtain⟨t,rfl⟩:=r;cases (show T="int" from ty);exact⟨typeIs_int s i t,λ_ e=>nomatch e⟩
 |ref p=>
  cases r;rcases ty with⟨rfl,q,l⟩|⟨rfl,o,b,m,hd⟩|⟨rfl,b⟩|⟨rfl,S,n,b⟩
  .obtain⟨k,_,g,_⟩:=I.list l;refine⟨g.isList.typeIs,λa e=>?_⟩;cases e;obtain⟨o,n,e,c,hd,_⟩:=g;exact⟨o,e,hd⟩
  .refine⟨⟨o,I.kIn p o b,m⟩,λa e=>?_⟩;cases e;exact⟨o,I.kIn _ o b,hd⟩
  .have z:∃o,s.heap.get? p=aA o/\o.ExactDict:=by
    rcases b with⟨d,b⟩|⟨ep,d,b⟩
    .obtain⟨_,_,_,_,o,_,_,e,ex,_⟩:=I.hok p _ b;exact⟨o,e,ex⟩
    .obtain⟨_,_,_,_,o,_,e,ex,_⟩:=I.hok p _ b;exact⟨o,e,ex⟩
   obtain⟨o,e,ex⟩:=z;refine⟨⟨o,e,ex.1⟩,λa f=>?_⟩;cases f;exact⟨o,e,ex.2.1⟩
  .obtain⟨o,_,_,_,e,ex,_⟩:=I.hok p _ b;refine⟨⟨o,e,ex.1⟩,λa f=>?_⟩;cases f;exact⟨o,e,ex.2.1⟩
 |_=>exact eF ty
noncomputable def Lw (K:bO)(T:String)(r:V->List V->Hp->VK->Prop)(c:TE):TE:=λb H Q=>c b H λx a=>Cp K T x a/\r x [] a Q
noncomputable def WF (K:bO)(T:String)(r:V->List V->Hp->VK->Prop)(d:TE)(t:TA):TE:=λa H Q=>d a H λx b=>Cp K T x b/\t a b λc e=>r x c e Q
variable {o e:aI}{es:List aI}{to:TE}{t:TA}{name:aH}{apos cpos:Pos}{T id:String}{r:V->List V->Hp->VK->Prop}
theorem NG (pa:PlainAttrs T) (slot:Slot T name id) (d:typeOf (.builtin id)=pure (.type "method_descriptor")) (k:sI X id r) (ho:PE X o to)
  (c:lU o name X.env (eval o X.env)=eval o X.env:=by rfl) (b:(apos.endLine==cpos.line)=aB:=by rfl):PE X (.Call (.Attribute o name apos) [] [] cpos) (Lw X.K T r to):=by
 intro a s e H Q I h;refine wpAny_Call_method0_late c b (aW (ho a s e H _ I h) λv i ⟨x,n,g,f,ty,j⟩=>?_);obtain⟨m,l⟩:=Hy g f ty;exact⟨T,id,pa,slot,d,m,l,ng rfl (EO (k a i e n x [] v [] Q g f .nil j))⟩
theorem GP (pa:PlainAttrs T) (slot:Slot T name id) (i:typeOf (.builtin id)=pure (.type "method_descriptor")) (z:sI X id r) (ho:PE X o to) (A:PA X (e::es) t)
  (d:lU o name X.env (eval o X.env)=eval o X.env:=by rfl)
  (f:((eU cpos (dW (e::es) X.env)).all (λx=>!x.1)&&(i4 cpos (i_ [] X.env)).all (λx=>x.1.isSome)
   &&decide ((e::es).length+([]:List hI).length+(if ([]:List hI).isEmpty then 0 else 1)<30))=aB:=by rfl)
  (c:(apos.endLine==cpos.line)=aB:=by rfl) (hs:dW (e::es) X.env=(aC,eval e X.env)::dW es X.env:=by rfl) (b:(eU cpos (dW es X.env)).any (·.1)=aC:=by rfl) :
  PE X (.Call (.Attribute o name apos) (e::es) [] cpos) (WF X.K T r to t):=by
 intro a s g H Q I h;refine wpAny_Call_method_late d f c rfl (aW (ho a s g H _ I h) λv q ⟨x,F,l,j,ty,y⟩=>?_);obtain⟨C,B⟩:=Hy l j ty;refine⟨T,id,pa,slot,i,C,B,?_⟩;have k:=A cpos a q g F _ l y;rw[hs] at k ⊢;refine ng (by show (aC || (eU cpos (dW es X.env)).any (·.1))=aC;rw[b]<;>rfl) (m9 ?_);exact aW k λn p ⟨m,E,D,u,w⟩=>z a p g E x m v n Q D j u w
end
end L2
namespace L2
open PySem PySem.Spec PyProof.Rows
noncomputable def MtM (X:Cx)(id:String)(r:V->List V->Hp->VK->Prop):Prop:=
 ∀(a:List (aF×bF)) (s:bB) (b:St) (H:Hp) (x:V) (c:List V) (v:aD) (d:List aD) (Q:VK),Inv X a b H s->RelV x v->aY c d->r x c H Q->
  wpAny (aS X.prog X.w) X.A (call (.builtin id) (v::d)) (EP X a b Q) X.xe s
theorem aY.one:∀{x:V}{us:List aD},aY [x] us->∃u,us=[u]/\RelV x u
 |_,_,.cons r .nil=>⟨_,rfl,r⟩
section
variable {X:Cx}{pins:List (aF×bF)}{σ:St}{H:Hp}{s:Shared}{l:aF}{xs ys:List V}
theorem Inv.lset{its:List aD}(I:Inv X pins σ H s)(g:H l=aA (.lst xs))
  (e:s.heap.get? l=aA {cls:=.type "list",data:=.seq its.toArray n}) (d:f its.toArray=its'.toArray) (b:aY ys its') (a:ys.length<=sizeLine) :
  Inv X pins σ (upd H l (.lst ys)) {s with heap:=s.heap.update l (d6 f),toks:=t'}:=by
 have q:=PySem.IsL.update e f;rw[d] at q;refine I.write (x:=l) (e:=l) (by rw[g];exact trivial) (.inl rfl) (λh u hb c=>(nc s.heap (d6 f) (bW hb)).trans c) ⟨_,q⟩ ?_;exact⟨a,its',_,b,q⟩
theorem Inv.lnew(I:Inv X pins σ H s)(b:aY ys its)(a:ys.length<=sizeLine) :
  Inv X pins σ (upd H s.heap.objs.size (.lst ys)) {s with heap:=s.heap.push {cls:=.type "list",data:=.seq its.toArray},toks:=t'}:=
 I.laid (λ_ _ q=>bY _ q) (bD _) ⟨a,its,0,b,eK _ rfl⟩
theorem Inv.fresh(I:Inv X pins σ H s):H s.heap.objs.size=aE:=I.hok.fresh (bD _)
theorem Inv.lstM(I:Inv X pins σ H s)(a:H l=aA (.lst xs)):xs.length<=sizeLine/\∃(its:List aD) (n:Nat),aY xs its/\xs.length=its.length/\s.heap.get? l=aA {cls:=.type "list",data:=.seq its.toArray n}:=by
 obtain⟨z,its,n,r,e⟩:=I.hok l _ a;exact⟨z,its,n,r,r.length,e⟩
theorem Ti(h:n<=sizeLine):wp n=aC:=by
 unfold wp;exact decide_eq_false (by lia)
end
section
variable {X:Cx}
noncomputable def Pz:V->List V->Hp->VK->Prop:=λx b H Q=>∃l a y,x=.ref l/\b=[y]/\H l=aA (.lst a)/\a.length<sizeLine/\Q .non (upd H l (.lst (a++[y])))
theorem Wh:MtM X "list.append" Pz:=by
 intro b s i H x k v m Q I d f h;obtain⟨l,j,y,rfl,rfl,c,o,q⟩:=h;cases d;obtain⟨u,rfl,g⟩:=f.one;obtain⟨z,a,n,r,p,e⟩:=I.lstM c;refine pM F.slot_list_append ⟨_,e,rfl⟩ F.entry_list_append (F.args_list_append_2 _ _) (PySem.list_append l a.toArray n u (by rw[d7];lia)) ⟨e,?_⟩;refine⟨.non,_,I.lset (its':=a++[u]) c e (by simp) (r.append (.cons g .nil)) ?_,rfl,q⟩;rw[gK,EA];lia
end
end L2
namespace Att
open PySem PySem.W PySem.Calls PyProof.Rows
theorem Z5{P:Params}:∀(ns:List Int) (vs:List aD),WellAll P h vs (ns.map Dh)->ic vs ns:=by
 intro ns;induction ns with
 |nil=>
  intro vs w;rw[pT] at w;cases w;exact .nil
 |cons n ns c=>
  intro vs w;rw[c8] at w;cases w with
  |cons a b=>
   cases a;exact .cons _ _ (c _ b)
theorem T9{l:mP}(u:l.most=aA n){P:Params}{args:List WData} 
  (b:l.row.toRowW.claim.pre args=aB) (j:WellAll P h g args) :
  ∃a vs ns,g=[cN a]/\args=[WData.list (ns.map Dh)]/\h.get? a=aA {cls:=.type "list",data:=.seq vs.toArray}/\ic vs ns/\ns.length<=n:=by
 have k:WShape.hasAll [] args [.list .int]=aB:=(pre_splitW b).1;have m:l.pre.holds [] {args:=args}=aB:=(pre_splitW b).2;obtain⟨d,r,rfl,x,w⟩:=hasAllW_cons k;obtain rfl:=hasAllW_nil w;obtain⟨y,rfl,v⟩:=hasW_list x;obtain⟨ns,rfl⟩:=items_int v;have c:ns.length<=n:=by
  unfold OpenLaw.pre at m;have i:(WTm.not (.lt (.lit (.int (n:Int))) (.len (.arg 0)))).holds [] {args:=[.list (ns.map .int)]}=aB:=by
   have i:=(holds_andW m).1;rw[u] at i;exact i
  have f:=condW_of i (w_not (w_lt w_lit (w_len_list (w_arg rfl))));rw[bJ] at f;refine Nat.le_of_not_lt λq=>?_;have s:(n:Int)<((ns.length:Nat):Int):=by omega
  first
   |(rw[decide_eq_true s] at f;exact absurd f (by decide))
   |(simp at f;omega)
 cases j with
 |cons p o=>
  cases o;cases p with
  |list t e=>exact⟨_,_,ns,rfl,rfl,t,Z5 ns _ e,c⟩
theorem YY(l:mP)(args:List WData):l.row.toRowW.claim.post args (.bool aB) args=aB:=
 postW_of (r:=l.row.toRowW) (X:=(aB==aB))
  (show Dq [] (.bool aB) .bool=aB by first|rfl|decide|simp[Dq,WShape.arms,WShape.armsAll])
  (show (WTm.eq .res (.lit (.bool aB))).value [] {args:=args,res:=aA (.bool aB),after:=args}=aA (.bool (aB==aB)) from w_eq_bool (w_res rfl) w_lit) rfl
theorem attach_call{l:mP}{n:Nat}{d:DefRec}
  (B:l.most=aA n) (s:d.params.defaults=[])
  (call:∀(w:eE) (s₀ b:bB) (mg mb:aH->Option aD) (fa:aF) (o:bF) (k cd doc:aD) (a:aF) (vs:List aD) (ns:List Int),
   Ground q g [] XP w s₀ mg mb b.heap->M w b.heap->
   b.heap.get? fa=aA o->o.data=.func (docDef d.name d.params d.body d.scope k cd doc)->b.heap.CodeRec cd d.name->mg d.name=aA (.ref fa)->
   b.heap.get? a=aA {cls:=.type "list",data:=.seq vs.toArray}->ic vs ns->ns.length<=n->b.gens=#[]->
   gz (aS l.prog w) nE (.call (.ref fa) ⟨[.ref a],[]⟩) (λr j=>r=.ok (.ret (.bool aB))/\OldK b.heap j.heap/\j.os=b.os/\iX j.gens) b) :
  WalkO q g XP M l.row.toRowW d [] (λf vs=>Do f vs):=by
 intro w s₀ b mg mb G Y fa o k cd doc J kV A hd t x p E args u K e v y m D;obtain rfl:J=.none:=Dflts.none x s;obtain rfl:kV=.none:=Dflts.noKw x;obtain⟨a,vs,ns,rfl,rfl,h,c,i⟩:=T9 B e m;refine enter_call (i7 (call w s₀ b mg mb fa o k cd doc a vs ns G Y A (fd_plain hd) t p h c i E) λr j z=>?_);obtain⟨rfl,I,H,F⟩:=z;exact⟨.inl ⟨.bool aB,.bool aB,[],rfl,λ_=>rfl,.bool aB,YY l _,λ_=>⟨lV,λ_ C=>(nomatch C)⟩⟩,I,H,F⟩
end Att
namespace L2
open PySem PySem.Spec PyProof.Rows
theorem vals_ints:∀{vs:List aD}{ns:List Int},ic vs ns->aY (ns.map V.int) vs
 |_,_,.nil=>.nil
 |_,_,.cons n t h=>.cons ⟨t,rfl⟩ (vals_ints h)
end L2
namespace L2
open PySem PySem.Spec PyProof.Rows
noncomputable def aN(s:bG)(j:Nat):bG:=match s with
 |.ClassDef _ _ _ body _ _ _ _ _ _ _=>body.getD j (.Pass ⟨0,0,0,0⟩)
 |_=>.Pass ⟨0,0,0,0⟩
noncomputable def zF(s:bG):Arguments:=match s with
 |.FunctionDef _ a _ _ _ _ _ _ _ _=>a
 |_=>{posonlyargs:=[],args:=[],vararg:=aE,kwonlyargs:=[],kw_defaults:=[],kwarg:=aE,defaults:=[]}
noncomputable def z0(s:bG):List bG:=match s with
 |.FunctionDef _ _ b _ _ _ _ _ _ _=>b
 |_=>[]
noncomputable def zu(s:bG):Scope:=match s with
 |.FunctionDef _ _ _ _ _ _ a _ _ _=>a
 |_=>{kind:=.function,names:=[],isGenerator:=aC,isCoroutine:=aC}
noncomputable abbrev E0:XK:=λ_ _ _=>False
structure mJ(K:PySem.W.Frag)(x qual:aH)(st:bG)(f:aF)(fd:FuncData):Prop where
 ex:∃(oc:aD) (od:Option aF) (kV doc pm:aD) (an:Option aF) (cdv ct:aD) (osl:Array (Option aD)),
  fd=f8 x qual (zF st) (z0 st) (zu st) .none kV doc pm an cdv ct/\K.lookup f=aA ⟨oc,od,.func fd,osl⟩/\fB K cdv qual=aB
 kp:eP K (.ref f)=aB
section
variable {K:PySem.W.Frag}
theorem mJ.binds{st:bG}(F:mJ K x qual st f fd)
  (h:∀(kV doc b:aD) (an:Option aF) (a ct:aD) (us:List aD),us.length=ps.length->me (f8 x qual (zF st) (z0 st) (zu st) .none kV doc b an a ct) ⟨us,[]⟩=pure (ps.zip us)):Binds K fd ps []:=by
 obtain⟨g,e,kV,doc,b,an,a,ct,c,rfl,lk,d⟩:=F.ex;exact .all (h kV doc b an a ct)
theorem xD{st:bG}{e an:Option aF}{kV doc b a ct:aD}(l:K.lookup f=aA ⟨g,e,.func (f8 x qual (zF st) (z0 st) (zu st) .none kV doc b an a ct),d⟩)
  (c:fB K a qual=aB) (k:eP K (.ref f)=aB):mJ K x qual st f (f8 x qual (zF st) (z0 st) (zu st) .none kV doc b an a ct):=⟨⟨g,e,kV,doc,b,an,a,ct,d,rfl,l,c⟩,k⟩
end
noncomputable def kL (H a:Hp):Prop:=∀b o,H b=aA o->a b=aA o
end L2
end
namespace NH
open PySem
noncomputable def stC:aD->aD
 |.int i _=>.ref i.toNat
 |v=>v
noncomputable def Lr (h:aV)(x:aF)(cls:aD)(d:Option aF):Prop:=∃c b e,h.get? x=aA c/\(c.cls=stC cls/\c.dict=d)/\c.data=.fields b/\b[0]?=aA e/\b[1]?=aA .none/\∀a,cls=.ref a->b[2]?=aA .none
inductive fG(h:aV)(x T:aF)(cls:aD)(d:Option aF)(fl:aD):Prop where
 |mk (oe:bF) (vs:Array aD) (a0:aD) (oT:bF) (ts:Array aD) (h1:h.get? x=aA oe) (h2:oe.cls=stC cls/\oe.dict=d) (h3:oe.data=.fields vs) (h4:vs[0]?=aA a0) (h5:vs[1]?=aA (.ref T)) (h6:T≠x) (h7:h.get? T=aA oT) (h8:oT.data=.fields ts) (h9:ts[3]?=aA fl) (h10:∀a,cls=.ref a->vs[2]?=aA .none)
noncomputable def Gb (h:aV)(x:aF)(cls:aD)(d:Option aF):Option aF->aD->Prop
 |none,fl=>Lr h x cls d/\fl=.none
 |some T,fl=>fG h x T cls d fl
structure eB(fs:List aF)(x:aF)(T T':Option aF)(h h':aV):Prop where
 keep:∀b o,h.get? b=aA o->b∉fs->b≠x->b∉T.toList->h'.get? b=aA o
 slot:∀b o,h.get? b=aA o->b∈fs->b≠x->b∉T.toList->∃sl,h'.get? b=aA {o with slots:=sl}
 newT:∀t∈T'.toList,t∈T.toList\/h.objs.size<=t
theorem eB.refl(fs:List aF)(x:aF)(T:Option aF)(h:aV):eB fs x T T h h:=⟨λ_ _ e _ _ _=>e,λ_ o e _ _ _=>⟨o.slots,e⟩,λ_ ht=>.inl ht⟩
theorem Qn(o:bF)(f:Array aD->Array aD):(i9 f o).dict=o.dict:=by
 obtain⟨c,d,dt,a⟩:=o;cases dt<;>rfl
section
variable {M:Model}{A:Around}{E:aD->Shared->Prop}{s:Shared}
theorem S4(a:A.frames=aA (e0::outer))(c:s.heap.FunFrames base (e0::outer))
  (d:env.frame=aA L) (h0:e0.frame=aA L) (h:∀h',Heap.SlotsOnly ((e0::outer).filterMap (·.frame)) s.heap h'->Q (.ref L) {s with heap:=h'}):wpAny M A (frameOf env) Q E s:=by
 unfold frameOf;refine wpAny_bind (wpAny_frameEnvs a ?_);have hw:((e0::outer).dropWhile λy=>y.frame != env.frame)=e0::outer:=by simp[List.dropWhile,d,h0]
 rw[hw];unfold frameObject;refine wpAny_bind (wpAny_bind (wpAny_readyFrames_fun c λe b=>wpAny_pure ?_));rw[h0];exact wpAny_pure (h e b)
theorem ZI 
  (w:A.frames=aA (e0::outer)) (z:s.heap.FunFrames base (e0::outer)) (N:env.frame=aA L) (h0:e0.frame=aA L)
  (ho:s.heap.get? x=aA r) (B:r.cls=stC cls/\r.dict=d) (hd:r.data=.fields vs) (v:vs[0]?=aA a0) (hsz:1<vs.size) (u:∀a,cls=.ref a->vs[2]?=aA .none)
  (h:∀h' t,fG h' x t cls d (cV L)->eB ((e0::outer).filterMap (·.frame)) x T (aA t) s.heap h'->s.heap.objs.size<=t->Q () {s with heap:=h'}) :
  wpAny M A (do let a ←frameOf env;let pl ←entryPlaceOf L U;let b ←EN g a .none (cV L) .none pl;setField (.ref x) 1 b) Q E s:=by
 have q:x∉(e0::outer).filterMap (·.frame):=λK=>by
  obtain⟨_,o,p,H⟩:=z.mem K;rw[ho] at p;cases p;exact H vs hd
 refine wpAny_bind (S4 w z N h0 λf k=>?_);refine wpAny_bind (wpAny_entryPlaceOf λpl m=>?_);unfold EN newFields;refine wpAny_bind (wf ?_ (m.sizeOk5 _ _ _ _ _));have D:f.get? x=aA r:=(k.2.1 x q).trans ho;generalize n:({cls:=.type "traceback",dict:=aE,data:=.fields ([g,.ref L,.none,cV L,.none]++(if pl.isEmpty then lO 6 gI else pl)).toArray}:bF)=l;have C:=bY (h:=f) l D;have j:l.data=.fields ([g,.ref L,.none,cV L,.none]++(if pl.isEmpty then lO 6 gI else pl)).toArray:=by rw[<-n]
 have i:l.isFreed=aC:=by rw[<-n];rfl
 refine pW C hd hsz ?_;have y:f.objs.size≠x:=hS (bX D);have F:=EF hd (·.setIfInBounds 1 (cN f.objs.size));have P:=rE (i9 (·.setIfInBounds 1 (cN f.objs.size))) C (Ez F);have c:∀b o,b≠x->f.get? b=aA o->((f.push l).update x (i9 (·.setIfInBounds 1 (cN f.objs.size)))).get? b=aA o:=λb o O e=>by
  rw[nc _ _ (bW O)];exact bY _ e
 refine h _ f.objs.size ⟨_,_,a0,l,_,P,⟨(Obj.cls_mapFields _ _).trans B.1,(Qn _ _).trans B.2⟩,F,by rw[Fe (by decide)];exact v,by simp[hsz],y,?_,j,?_,λa e=>by rw[Fe (by decide)];exact u a e⟩ ⟨λb o e I nx _=>?_,λb o e _ nx _=>?_,λt J=>.inr ?_⟩ (mf k.1.symm)
 .rw[nc _ _ (bW y)];exact eK _ i
 .first|(simp;done)|(rcases m with rfl|⟨_,_,_,_,_,_,_,rfl⟩<;>simp)
 .exact c b o nx ((k.2.1 b I).trans e)
 .obtain⟨G,R⟩:=k.2.2 b o e;exact⟨G,c b _ nx R⟩
 .have:t=f.objs.size:=by simpa using J
  rw[this];exact mf k.1.symm
theorem R9 
  (q:A.frames=aA (e0::outer)) (C:s.heap.FunFrames base (e0::outer)) (F:env.frame=aA L) (h0:e0.frame=aA L) (K:Gb s.heap x cls d T fl) (D:fl=.none\/fl=cV L)
  (h:∀h' t,fG h' x t cls d (cV L)->eB ((e0::outer).filterMap (·.frame)) x T (aA t) s.heap h'->Q () {s with heap:=h'}):wpAny M A (pG (.ref x) env) Q E s:=by
 unfold pG;simp only[F];cases T with
 |none=>
  obtain⟨⟨J,I,P,m,r,hd,l,f,k⟩,_⟩:=K;refine wpAny_bind (lH m hd f ?_);rw[if_neg (by decide)];exact ZI (T:=aE) q C F h0 m r hd l (oE.mp f).1 k λh' t a b _=>h h' t a b
 |some T=>
  obtain⟨J,I,P,S,u,m,r,hd,l,f,O,g,i,H,k⟩:=K;refine wpAny_bind (lH m hd f ?_);rw[if_pos (show (cN T != gI)=aB from by simp)];refine wpAny_bind (lH g i H ?_);by_cases N:fl=cV L
  .subst N;rw[if_pos (show (cV L==cV L)=aB from by simp)];exact wpAny_pure (h s.heap T ⟨J,I,P,S,u,m,r,hd,l,f,O,g,i,H,k⟩ (eB.refl _ _ _ _))
  .obtain rfl:fl=.none:=D.resolve_right N;rw[if_neg (show ¬((gI==cV L)=aB) from by simp[cV])];refine wpAny_bind (pW g i (oE.mp H).1 ?_);have j:∀b,b≠T->(s.heap.update T (i9 (·.setIfInBounds 3 gI))).get? b=s.heap.get? b:=λb G=>nc _ _ (bW G);have fr:∀b∈(e0::outer).filterMap (·.frame),b≠T:=λb G z=>by
    obtain⟨_,o,p,v⟩:=C.mem G;rw[z,g] at p;cases p;exact v u i
   refine ZI (T:=aA T) (s:={s with heap:=s.heap.update T (i9 (·.setIfInBounds 3 gI))}) (base:=base) q (C.of_keeps λb o e v=>⟨o,(j b λz=>?_).trans e,rfl⟩) F h0 ((j x (bW O)).trans m) r hd l (oE.mp f).1 k λh' t a b c=>h h' t a ⟨?_,?_,?_⟩
   .rw[z,g] at e;cases e;exact v u i
   .exact λd o e y w n=>b.keep d o ((j d λz=>n (by simp[z])).trans e) y w n
   .exact λd o e y w n=>b.slot d o ((j d λz=>n (by simp[z])).trans e) y w n
   .intro R B;rcases b.newT R B with z|z
    .exact .inl z
    .refine .inr (dG (mf ?_) z);exact (Heap.size_after_update ..).symm
theorem KY(v:fG s.heap x T cls d fl)
  (h:∀h',fG h' x T cls d (fr.elim .none λf=>cV f)->eB fs x (aA T) (aA T) s.heap h'->Q () {s with heap:=h'}):wpAny M A (mU (.ref x) fr) Q E s:=by
 obtain⟨u,q,D,F,r,l,y,hd,k,c,m,g,i,C,j⟩:=v;have sz:3<r.size:=(oE.mp C).1;unfold mU;refine wpAny_bind (lH l hd c ?_);rw[if_pos (show (cN T != gI)=aB from by simp)];refine pW g i sz ?_;have a:∀b,b≠T->(s.heap.update T (i9 (·.setIfInBounds 3 (fr.elim .none λf=>cV f)))).get? b=s.heap.get? b:=λb B=>nc _ _ (bW B);have p:=EF i (·.setIfInBounds 3 (fr.elim gI λf=>cV f))
 exact h _ ⟨u,q,D,_,_,(a x (bW m)).trans l,y,hd,k,c,m,rE _ g (Ez p),p,by simp[sz],j⟩
  ⟨λb o e _ _ n=>(a b λz=>n (by simp[z])).trans e,λb o e _ _ n=>⟨o.slots,(a b λz=>n (by simp[z])).trans e⟩,λt w=>.inl w⟩
end
end NH
namespace NH
open PySem PySem.Spec PyProof.Rows L2
noncomputable abbrev St:=L2.St
theorem US{P:cI}(x:aZ P w H h a o):∃ob,h.get? a=aA ob:=by
 cases o with
 |lst c=>obtain⟨_,_,_,_,e⟩:=x;exact⟨_,e⟩
 |tup c=>obtain⟨_,_,_,ob,e,_⟩:=x;exact⟨ob,e⟩
 |dK b=>obtain⟨_,_,_,_,o,_,_,e,_⟩:=x;exact⟨o,e⟩
 |dE ep b=>obtain⟨_,_,_,_,o,_,e,_⟩:=x;exact⟨o,e⟩
 |set S n=>obtain⟨o,_,_,_,e,_⟩:=x;exact⟨o,e⟩
 |ins C dx fs=>obtain⟨_,_,_,e,_⟩:=x;exact⟨_,e⟩
 |own y=>obtain⟨o,e⟩:=x;exact⟨o,e⟩
 |xd fs=>obtain⟨_,⟨o,_,_,e,_⟩,_⟩:=x;exact⟨o,e⟩
 |rng lo i=>obtain⟨_,_,_,e⟩:=x;exact⟨_,e⟩
 |frz ob u=>obtain⟨e,_⟩:=x;exact⟨_,e⟩
 |tbl g=>exact⟨_,(show h.get? a=aA _ from x)⟩
 |met f y=>exact⟨_,(show h.get? a=aA _ from x)⟩
 |ext d=>obtain⟨_,⟨o,e⟩,_⟩:=x;exact⟨o,e⟩
structure dF(X:Cx)(H:Hp)(b:aF):Prop where
 free:H b=aE
 loc:b≠X.env.locals
 nfs:b∉X.fs
 new:b∈X.ex\/X.s₀.heap.get? b=aE
 cel:∀x c,X.env.cells.lookup x=aA c->c≠b
 pin:∀p∈X.pn,p.1≠b
section
variable {X:Cx}{pins:List (aF×bF)}{σ:St}{H H':Hp}{s:Shared}{h':aV}
theorem Ks(I:Inv X pins σ H s)(e:s.heap.get? b=aE):H b=aE:=by
 cases q:H b with
 |none=>rfl
 |some o=>
  obtain⟨a,z⟩:=US (I.hok b o q);rw[e] at z;cases z
theorem jm(I:Inv X pins σ H s)(e:s.heap.get? b=aE):dF X H b:=by
 refine⟨Ks I e,λz=>?_,λz=>?_,?_,λx c q z=>?_,λp f z=>?_⟩
 .obtain⟨m,⟨o,_,_,a,_⟩,_⟩:=I.loc;rw[<-z,e] at a;cases a
 .obtain⟨_,o,a,_⟩:=I.funs.mem z;rw[e] at a;cases a
 .by_cases d:b∈X.ex
  .exact .inl d
  .refine .inr ?_;cases q:X.s₀.heap.get? b with
   |none=>rfl
   |some o=>
    obtain⟨g,z⟩:=I.base.there b o q d;rw[e] at z;cases z
 .obtain⟨v,o,a,_⟩:=I.cell x c q;rw[z,e] at a;cases a
 .have:=(I.pin p (eY _ f)).1;rw[z,e] at this;cases this
theorem yF{ch:List aF}(I:Inv X pins σ H s)(a:∀b∈ch,dF X H b/\∀p∈pins,p.1≠b)
  (keep:∀b o,b∉eS X.stack->b∉ch->s.heap.get? b=aA o->h'.get? b=aA o)
  (slot:∀b o,b∈eS X.stack->b∉ch->s.heap.get? b=aA o->∃j,h'.get? b=aA {o with slots:=j}) :
  Inv X pins σ H {s with heap:=h'}:=by
 have J:∀b u,H b=aA u->b∉ch:=λb u e z=>by rw[(a b z).1.free] at e;cases e
 have w:∀b u,H b=aA u->b∉eS X.stack:=λb u e z=>by rw[I.stkFree b z] at e;cases e
 have any:∀b o,b∉ch->s.heap.get? b=aA o->∃j,h'.get? b=aA {o with slots:=j}:=λb o t e=>by
  by_cases N:b∈eS X.stack
  .exact slot b o N t e
  .exact⟨o.slots,keep b o N t e⟩
 have y:∀b,b≠X.env.locals->b∉X.fs->b∉eS X.stack:=λb V U z=>(cK.mp (I.stkSub b z)).elim V U;have h:∀b o,X.s₀.heap.get? b=aA o->b∉X.ex->b∉ch:=λb o e f z=>by
  rcases (a b z).1.new with q|q
  .exact f q
  .rw[e] at q;cases q
 have E:∀b o,X.s₀.heap.get? b=aA o->b≠X.env.locals:=λb o e=>cX (dC (bX e) I.ok.above);have g:∀x c,X.env.cells.lookup x=aA c->∀v,s.heap.IsCell c v->h'.IsCell c v:=λx c e v ⟨o,G,hd⟩=>by
  obtain⟨j,q⟩:=any c o (λz=>(a c z).1.cel x c e rfl) G;exact⟨_,q,hd⟩
 refine⟨I.ok,I.os,I.bare,⟨λb o e n t f=>?_,λb o e n t f=>?_,λb o e n f=>I.base.free b o e n f,λb o e f=>?_,λb C e=>I.base.tups b C e,λb o C e=>I.base.frzs b o C e,λb P e=>I.base.tbls b P e⟩,?_,λx c e=>?_,I.free,λx c e=>I.freeC x c e,λp M=>?_,λb u e=>?_,I.len⟩
 .exact keep b o (y b (E b o e) t) (h b o e f) (I.base.keep b o e n t f)
 .obtain⟨j,B⟩:=I.base.slot b o e n t f;obtain⟨D,A⟩:=any b _ (h b o e f) B;exact⟨D,A⟩
 .obtain⟨Q,B⟩:=I.base.there b o e f;obtain⟨j,A⟩:=any b Q (h b o e f) B;exact⟨_,A⟩
 .obtain⟨m,⟨o,es,ep,G,r⟩,R⟩:=I.loc;obtain⟨j,T⟩:=any X.env.locals o (λz=>(a _ z).1.loc rfl) G;refine⟨m,⟨_,es,ep,T,r⟩,λi x v B A W=>?_⟩;obtain⟨u,O,l⟩:=R i x v B A W;refine⟨u,O,?_⟩;rcases l with l|⟨k,c,e,z⟩
  .exact .inl l
  .exact .inr ⟨k,c,e,g x c e _ z⟩
 .obtain⟨v,z⟩:=I.cell x c e;exact⟨v,g x c e v z⟩
 .obtain⟨e,n,L,K,d⟩:=I.pin p M;have F:p.1∉ch:=λz=>by
   rcases b_.mp M with q|q
   .exact (a p.1 z).1.pin p q rfl
   .exact (a p.1 z).2 p q rfl
  exact⟨keep p.1 p.2 (y p.1 L K) F e,n,L,K,d⟩
 .refine (I.hok b u e).stay (λc v S q=>?_) (λ_ q=>q) λ_ _ q=>q;rcases S with z|z
  .subst z;exact keep c v (w c u e) (J c u e) q
  .exact keep c v (w c _ z) (J c _ z) q
structure ly(X:Cx)(e0:Env)(out:List Env)(L:aF):Prop where
 stk:X.stack=e0::out
 f0:e0.frame=aA L
 fe:X.env.frame=aA L
noncomputable abbrev XW:=aD->Option aF->St->Hp->Prop
inductive XP(X:Cx)(W:XW)(e:aD)(s:Shared):Prop where
 |mk (x:aF) (cls:aD) (d:Option aF) (σ:St) (H:Hp) (T:Option aF) (fl:aD) (ee:e=.ref x) (i:Inv X [] σ H s) (ox:dF X H x) (ot:∀t∈T.toList,dF X H t) (r:Gb s.heap x cls d T fl) (hf:fl=.none\/∃L,X.env.frame=aA L/\fl=cV L) (w:W cls d σ H)
theorem YI{T:Option aF}(I:Inv X [] σ H s)(f:dF X H x)(ot:∀t∈T.toList,dF X H t)(c:eB (eS X.stack) x T (aA t) s.heap h') :
  Inv X [] σ H {s with heap:=h'}/\dF X H t:=by
 refine⟨yF (ch:=x::T.toList) I (λb h=>⟨?_,λp g=>absurd g (by simp)⟩) (λb o d a e=>?_) (λb o d a e=>?_),?_⟩
 .rcases cK.mp h with z|z
  .rw[z];exact f
  .exact ot b z
 .exact c.keep b o e d (λz=>a (by simp[z])) (λz=>a (cW _ z))
 .exact c.slot b o e d (λz=>a (by simp[z])) (λz=>a (cW _ z))
 .rcases c.newT t (by simp) with z|z
  .exact ot t z
  .exact jm I (lX z)
theorem Zh{W:XW}(F:ly X e0 out L)(b:A.frames=aA X.stack)(p:XP X W e s)
  (h:∀x cls d σ H T h',e=.ref x->Inv X [] σ H {s with heap:=h'}->dF X H x->dF X H T->fG h' x T cls d (cV L)->W cls d σ H->Q () {s with heap:=h'}):wpAny M A (pG e X.env) Q E s:=by
 obtain⟨x,cls,d,σ,H,T,fl,rfl,I,g,k,n,f,w⟩:=p;have a:=I.stack;rw[F.stk] at b a;refine R9 b a F.fe F.f0 n (f.imp_right λ⟨r,i,o⟩=>by rw[F.fe] at i;cases i;exact o) λh' t j m=>?_;have c:eB (eS X.stack) x T (aA t) s.heap h':=by rw[F.stk];exact m
 obtain⟨q,l⟩:=YI I g k c;exact h x cls d σ H t h' rfl q g l j w
theorem vc(I:Inv X [] σ H s)(c:dF X H x)(e:dF X H T)(b:fG s.heap x T cls d fl)
  (h:∀h',Inv X [] σ H {s with heap:=h'}->fG h' x T cls d (fr.elim .none λf=>cV f)->Q () {s with heap:=h'}):wpAny M A (mU (.ref x) fr) Q E s:=by
 refine KY (fs:=eS X.stack) b λh' a g=>h h' (YI (T:=aA T) I c (λt i=>?_) g).1 a;have:t=T:=by simpa using i
 rw[this];exact e
theorem uf{W:XW}(F:ly X e0 out L)(f:X.A.frames=aA X.stack):nK M X.A X.env (XP X W):=by
 intro e s p;unfold notedBy;refine Zh F f p λx cls d k H T j ee I h i g w=>?_;subst ee;unfold cameBackBy;obtain⟨z,v,G,l,y,q,B,hd,m,c,C,o,r,D,_⟩:=id g;refine wpAny_bind (lH q hd c ?_);rw[if_neg (show ¬((cN T==gI)=aB) from by simp)];rw[F.fe]
 have go:wpAny M X.A (mU (.ref x) (aA L)) (λ_ b=>XP X W (.ref x) b) (XP X W) {s with heap:=j}:=
  vc (s:={s with heap:=j}) I h i g λE u a=>⟨x,cls,d,k,H,aA T,cV L,rfl,u,h,λt n=>by
   have:t=T:=by simpa using n
   rw[this];exact i,a,.inr ⟨L,F.fe,rfl⟩,w⟩
 first|exact go|exact wpAny_bind (wpAny_pure go)
inductive CXP(P:Program)(w:World)(outer:List Env)(H:Hp)(s:Shared)(E:XK)(e:aD)(s':Shared):Prop where
 |mk (x T:aF) (cls:aD) (d:Option aF) (H':Hp) (ee:e=.ref x) (o:s'.os=s.os) (b:iX s'.gens) (n:Un (eS outer) [] H H' s.heap s'.heap) (k:dN P w H' s'.heap) (h1:s.heap.get? x=aE) (h2:s.heap.get? T=aE) (h3:H' x=aE) (h4:H' T=aE) (t:fG s'.heap x T cls d .none) (q:E cls d H')
noncomputable def dB (P:cI)(w:eE):mK:=CXP P w
noncomputable def eQ (E:XK):XW:=λc d _ H=>E c d H
theorem Jg(F:ly X e0 out L)(j:X.A.frames=aA X.stack)(a:X.ex=[])(p:XP X (eQ E) e s) :
  wpAny M X.A (pE X.env e) (λ_ g=>dB X.prog X.w X.outer X.H₀ X.s₀ E e g) F2 s:=by
 unfold pE;refine wpAny_bind (Zh F j p λx cls d n H T m ee I h i l w=>?_);subst ee;refine vc (s:={s with heap:=m}) I h i l λq c f=>?_;have k:∀b,dF X H b->X.s₀.heap.get? b=aE:=λb o=>o.new.resolve_left (by rw[a];simp);refine⟨x,T,cls,d,H,rfl,c.os,c.bare,?_,c.hok,k x h,k T i,h.free,i.free,f,w⟩;have:=c.base;rw[a] at this;exact this
theorem Zg{W:XW}(I:Inv X pins σ H s)(c:dB X.prog X.w X.stack H s E e j)(h:∀cls d H',E cls d H'->W cls d σ H'):XP X W e j:=by
 obtain⟨x,T,cls,d,H',rfl,os,a,un,g,nx,l,fx,q,i,w⟩:=c;have J:Inv X pins σ H' j:=I.call' (ch:=[]) os un g a λb z=>absurd z (by simp);have k:∀b,s.heap.get? b=aE->H' b=aE->dF X H' b:=λb e f=>by
  have o:=jm I e;exact⟨f,o.loc,o.nfs,o.new,o.cel,o.pin⟩
 refine⟨x,cls,d,σ,H',aA T,.none,rfl,J.pins_of (λp n=>absurd n (by simp)),k x nx fx,λt m=>?_,i,.inl rfl,h cls d H' w⟩;have:t=T:=by simpa using m
 rw[this];exact k T l q
theorem PV{W:XW}{args:List aD}(I:Inv X pins σ H s)(mk:n7 s.heap h2 x (.ref C) args)(w:W (.ref C) aE σ H):XP X W (.ref x) {s with heap:=h2}:=by
 have J:Inv X pins σ H {s with heap:=h2,toks:=s.toks}:=I.kept mk.keeps;obtain⟨t,c,_,_⟩:=mk.there;exact⟨x,.ref C,aE,σ,H,aE,.none,rfl,J.pins_of (λp b=>absurd b (by simp)),jm I mk.new,λt a=>absurd a (by simp),⟨⟨_,_,.ref t,c,⟨rfl,rfl⟩,rfl,rfl,rfl,λ_ _=>rfl⟩,rfl⟩,.inl rfl,w⟩
noncomputable abbrev Cx.pin'(X:Cx)(pins:List (aF×bF)):Cx:={X with pn:=X.pn++pins}
noncomputable abbrev Cx.han(X:Cx)(x:aF):Cx:={X with A:=X.A.mark (aA (.ref x)),calm:=aC,xe:=λ_ _=>False}
theorem NO(ok:X.Ok):(Cx.pin' X pins).Ok:=⟨ok.mod,ok.kind,ok.glob,ok.blt,ok.above,ok.inj,ok.has,ok.cab,ok.hd,ok.frames,ok.stk,ok.exf,ok.bs,ok.bsz,ok.noex,ok.exfs,ok.funs,ok.frf⟩
theorem JV(ok:(Cx.pin' X pins).Ok):X.Ok:=⟨ok.mod,ok.kind,ok.glob,ok.blt,ok.above,ok.inj,ok.has,ok.cab,ok.hd,ok.frames,ok.stk,ok.exf,ok.bs,ok.bsz,ok.noex,ok.exfs,ok.funs,ok.frf⟩
theorem Od(ok:X.Ok):(Cx.han X x).Ok:=⟨ok.mod,ok.kind,ok.glob,ok.blt,ok.above,ok.inj,ok.has,ok.cab,(λh=>by cases h),ok.frames,ok.stk,ok.exf,ok.bs,ok.bsz,ok.noex,ok.exfs,ok.funs,ok.frf⟩
theorem Jd(I:Inv X pins σ H s):Inv (Cx.pin' X pins) [] σ H s:=⟨NO I.ok,I.os,I.bare,I.base,I.loc,I.cell,I.free,I.freeC,λp a=>I.pin p (by simpa using a),I.hok,I.len⟩
theorem qm(I:Inv (Cx.pin' X pins) [] σ H s):Inv X pins σ H s:=⟨JV I.ok,I.os,I.bare,I.base,I.loc,I.cell,I.free,I.freeC,λp a=>I.pin p (by simpa using a),I.hok,I.len⟩
theorem Y8(I:Inv X pins σ H s):Inv (Cx.han X x) pins σ H s:=⟨Od I.ok,I.os,I.bare,I.base,I.loc,I.cell,I.free,I.freeC,I.pin,I.hok,I.len⟩
theorem WI(ok:X.Ok)(I:Inv (Cx.han X x) pins σ H s):Inv X pins σ H s:=⟨ok,I.os,I.bare,I.base,I.loc,I.cell,I.free,I.freeC,I.pin,I.hok,I.len⟩
theorem kK{W:XW}(p:XP (X.wish E) W e s):XP X W e s:=by
 obtain⟨x,cls,d,f,H,T,fl,a,I,b,c,r,h,g⟩:=p;exact⟨x,cls,d,f,H,T,fl,a,I.unwish,⟨b.free,b.loc,b.nfs,b.new,b.cel,b.pin⟩,λt i=>let b:=c t i;⟨b.free,b.loc,b.nfs,b.new,b.cel,b.pin⟩,r,h,g⟩
end
end NH
namespace NH
open PySem
inductive T where
 |non|bl (b:Bool)|int (i:Int)|str (x:aH)
 |tup (ts:List T)|lst (ts:List T)|obj (c:Nat) (fs:List (Nat×T))
 |mut (i:Nat)
 |clo (j:Nat) (cs:List T)
inductive MO where
 |lst (ts:List T)|obj (c:Nat) (fs:List (Nat×T))|dic (kvs:List (L2.Key×T))
 |tab (j:Nat)|frd (ep:Nat) (kvs:List (L2.Key×T))
noncomputable abbrev Gm:MO->Bool
 |.tab _=>aB
 |_=>aC
noncomputable abbrev Mem:=List MO
noncomputable abbrev Sl:=List (Option T)
mutual
def uL:T->Bool
 |.mut _=>aC
 |.tup a=>Qt a
 |.lst a=>Qt a
 |.obj _ fs=>Zl fs
 |.clo _ cs=>Qt cs
 |_=>aB
def Qt:List T->Bool
 |[]=>aB
 |t::r=>uL t&&Qt r
def Zl:List (Nat×T)->Bool
 |[]=>aB
 |p::r=>uL p.2&&Zl r
end
noncomputable abbrev Xp:=Nat->List (Nat×T)->Mem->Prop
noncomputable abbrev RE(β:Type):=(β->Mem->Prop)->Xp->Prop
noncomputable abbrev RE.ok{β:Type}(a:β)(μ:Mem):RE β:=λK _=>K a μ
noncomputable abbrev RE.st{β:Type}:RE β:=λ_ _=>False
noncomputable abbrev RE.bind{β b:Type}(r:RE b)(k:b->Mem->RE β):RE β:=λK Z=>r (λa μ=>k a μ K Z) Z
noncomputable abbrev RE.grd{β:Type}(p:Prop)(r:RE β):RE β:=λK Z=>p/\r K Z
noncomputable abbrev RE.som{β b:Type}(o:Option b)(k:b->RE β):RE β:=λK Z=>∃a,o=aA a/\k a K Z
@[reducible] noncomputable def iy(b:Bool)(A B:Prop):Prop:=match b with
 |true=>A
 |false=>B
noncomputable abbrev RE.br{β:Type}(b:Bool)(r s:RE β):RE β:=λK Z=>iy b (r K Z) (s K Z)
structure En where
 nx:Sl->Mem->Prop
 rt:T->Mem->Prop
 bk:Sl->Mem->Prop
 ct:Sl->Mem->Prop
 ex:Nat->List (Nat×T)->Sl->Mem->Prop
noncomputable abbrev cM:=En->Prop
noncomputable abbrev En.nxt(E:En)(f:Sl->Mem->Prop):En:=⟨f,E.rt,E.bk,E.ct,E.ex⟩
noncomputable abbrev En.turn(E:En)(N:Sl->Mem->Prop):En:=⟨N,E.rt,E.nx,N,E.ex⟩
noncomputable abbrev En.tri(E:En)(X:Nat->List (Nat×T)->Sl->Mem->Prop):En:=⟨E.nx,E.rt,E.bk,E.ct,X⟩
noncomputable abbrev En.fn(K:T->Mem->Prop)(Z:Xp):En:=⟨λ_ a=>K .non a,K,λ_ _=>False,λ_ _=>False,λc fs _ a=>Z c fs a⟩
noncomputable abbrev cM.nx(τ:Sl)(μ:Mem):cM:=λE=>E.nx τ μ
noncomputable abbrev cM.rt(t:T)(μ:Mem):cM:=λE=>E.rt t μ
noncomputable abbrev cM.ex(c:Nat)(fs:List (Nat×T))(τ:Sl)(μ:Mem):cM:=λE=>E.ex c fs τ μ
noncomputable abbrev cM.st:cM:=λ_=>False
noncomputable abbrev cM.grd(p:Prop)(o:cM):cM:=λE=>p/\o E
noncomputable abbrev cM.som{b:Type}(o:Option b)(k:b->cM):cM:=λE=>∃a,o=aA a/\k a E
noncomputable abbrev cM.br(b:Bool)(r s:cM):cM:=λE=>iy b (r E) (s E)
noncomputable abbrev cM.seq(o:cM)(f:Sl->Mem->cM):cM:=λE=>o (E.nxt λτ μ=>f τ μ E)
noncomputable abbrev RE.out{β:Type}(r:RE β)(τ:Sl)(f:β->Mem->cM):cM:=λE=>r (λa μ=>f a μ E) (λc fs μ=>E.ex c fs τ μ)
noncomputable abbrev Fn:=List T->Mem->RE T
noncomputable abbrev De:=Sl->Mem->RE T
noncomputable abbrev Dt:=Sl->Mem->RE Bool
noncomputable abbrev Da:=Sl->Mem->RE (List T)
noncomputable abbrev Ds:=Sl->Mem->cM
noncomputable abbrev RI:=(List T->(Mem->Prop)->Mem->Prop)->Xp->Prop
noncomputable abbrev RI.ok(xs:List T)(o:Mem->Prop)(μ:Mem):RI:=λK _=>K xs o μ
noncomputable abbrev RI.st:RI:=λ_ _=>False
noncomputable abbrev RI.grd(p:Prop)(r:RI):RI:=λK Z=>p/\r K Z
noncomputable abbrev RI.go{β:Type}(r:RI)(k:List T->(Mem->Prop)->Mem->RE β):RE β:=λK Z=>r (λxs o μ=>k xs o μ K Z) Z
noncomputable abbrev RI.out(r:RI)(τ:Sl)(f:List T->(Mem->Prop)->Mem->cM):cM:=λE=>r (λxs o μ=>f xs o μ E) (λc fs μ=>E.ex c fs τ μ)
noncomputable abbrev RI.re(r:RI):RE (List T×(Mem->Prop)):=λK Z=>r (λxs o μ=>K (xs,o) μ) Z
noncomputable abbrev RE.it{β:Type}(r:RE β)(k:β->Mem->RI):RI:=λK Z=>r (λa μ=>k a μ K Z) Z
noncomputable abbrev Di:=Sl->Mem->RI
abbrev gW:Mem->Prop:=λ_=>True
abbrev iQ(i:Nat)(xs:List T):Mem->Prop:=λa=>a[i]?=aA (.lst xs)
structure bP where
 jt:Nat
 qn:aH
 y:aH
 body:aI
 sc:Scope
 fr:List aH
 g:De
 sb:Option (aH×List bG)
noncomputable abbrev UK(j jt:Nat)(ts:List T):T:=.clo (300+j) (.clo (100+jt) []::ts.map λt=>.clo 200 [t])
inductive GM where
 |fn (f:Fn)
 |met (c:Nat) (nm:aH) (f:Fn)
 |mk (c:Nat) (frozen:Bool) (f:Fn)
 |cst (t:T)
 |xcl (c:Nat)
 |xcf (c:Nat) (f:Nat)
 |xin (c f:Nat) (nm fl:aH)
 |kap (ls:List bP)
 |tbl (kvs:List (aH×Int))
 |none
 |bad
noncomputable abbrev V3(τ:Sl):Nat->Option T:=gA (motive:=λ_=>Nat->Option T) (λ_=>aE) (λo _ a i=>pD (motive:=λ_=>Option T) o (λn _=>a n) i) τ
noncomputable abbrev Z6(τ:Sl):Nat->Option T->Sl:=gA (motive:=λ_=>Nat->Option T->Sl) (λ_ _=>[]) (λo r a i t=>pD (motive:=λ_=>Sl) (t::r) (λn _=>o::a n t) i) τ
theorem Vj:∀{τ:Sl}{i:Nat}{t:T},V3 τ i=aA t↔τ[i]?=aA (aA t)
 |[],_,_=>by simp
 |o::r,0,t=>by show o=aA t↔_;simp
 |o::r,n+1,t=>by
  show V3 r n=aA t↔_;rw[Vj (τ:=r) (i:=n)];simp
theorem Vu:∀{τ:Sl}{i:Nat}{t:Option T},Z6 τ i t=τ.set i t
 |[],_,_=>by simp
 |o::r,0,t=>rfl
 |o::r,n+1,t=>by
  show o::Z6 r n t=_;rw[Vu (τ:=r) (i:=n)];simp
noncomputable abbrev Xm(fs:List (Nat×T)):Nat->Option T:=gA (motive:=λ_=>Nat->Option T) (λ_=>aE) (λp _ a i=>pB (motive:=λ_=>Option T) (a i) (aA p.2) (fL p.1 i)) fs
noncomputable abbrev Xr(f:Nat)(v:T)(fs:List (Nat×T)):List (Nat×T):=gA (motive:=λ_=>List (Nat×T)) [(f,v)] (λp r a=>pB (motive:=λ_=>List (Nat×T)) (p::a) ((p.1,v)::r) (fL p.1 f)) fs
theorem UI:Xm (p::r) i=match fL p.1 i with
  |true=>aA p.2
  |false=>Xm r i:=by
 show (pB (Xm r i) (aA p.2) (fL p.1 i):Option T)=_;cases fL p.1 i<;>rfl
theorem YP:Xr f v (p::r)=match fL p.1 f with
  |true=>(p.1,v)::r
  |false=>p::Xr f v r:=by
 show (pB (p::Xr f v r) ((p.1,v)::r) (fL p.1 f):List (Nat×T))=_;cases fL p.1 f<;>rfl
noncomputable def cJ:List aH->aH->Option Nat
 |[],_=>aE
 |y::r,x=>if y=x then aA 0 else (cJ r x).map (·+1)
noncomputable abbrev HV:T->Mem->Option Nat
 |.non,_=>aA 0
 |.bl _,_=>aA 1
 |.int _,_=>aA 2
 |.str _,_=>aA 3
 |.tup _,_=>aA 4
 |.lst _,_=>aA 5
 |.obj c _,_=>aA c
 |_,_=>aE
noncomputable abbrev HU:MO->Nat
 |.lst _=>5
 |.obj c _=>c
 |.dic _=>6
 |.tab _=>99
 |.frd _ _=>6
noncomputable abbrev rV(a b:Bool):Bool:=match a with
 |true=>b
 |false=>aC
noncomputable abbrev mG(a b:Bool):Bool:=match a with
 |true=>aB
 |false=>b
noncomputable abbrev je(a c:Nat):Bool:=mG (fL a c) (mG (rV (fL a 1) (fL c 2)) (rV (pC 10 a) (rV (pC a 39) (mG (fL c 11) (rV (fL c 10) (pC 12 a))))))
noncomputable abbrev dD(t:Nat)(cs:List Nat):Bool:=gA (motive:=λ_=>Bool) aC (λc _ a=>mG (je t c) a) cs
theorem ZY:dD t (c::r)=mG (je t c) (dD t r):=rfl
noncomputable def big:Int:=18446744073709551616
noncomputable def aT:Nat:=1000000
noncomputable abbrev AW:T->T->Mem->RE T
 |.int i,.int j,a=>.ok (.int (i+j)) a
 |.lst c,.lst b,a=>.grd (c.length+b.length<=aT) (.ok (.lst (c++b)) a)
 |_,_,_=>.st
noncomputable abbrev Xg(f:Int->Int->Mem->RE T):T->T->Mem->RE T
 |.int i,.int j,a=>f i j a
 |_,_,_=>.st
noncomputable abbrev F8:Operator->T->T->Mem->RE T
 |.Add=>AW
 |.Sub=>Xg λi j a=>.ok (.int (i-j)) a
 |.Mult=>Xg λi j a=>.grd ((-big<i/\i<big)\/(-big<j/\j<big)) (.ok (.int (i*j)) a)
 |.FloorDiv=>Xg λi j a=>.grd (0<j/\j<1606938044258990275541962092341162602522202993782792835301376) (.ok (.int (i / j)) a)
 |.Mod=>Xg λi j a=>.grd (0<j) (.ok (.int (i % j)) a)
 |.Pow=>Xg λi j a=>.grd (0<=j/\j<=1000000/\i.natAbs<18446744073709551616) (.ok (.int (i ^ j.toNat)) a)
 |_=>λ_ _ _=>.st
mutual
def eqT:T->T->Option Bool
 |.int i,b=>match b with
  |.int j=>aA (i==j)
  |.bl k=>aA (i==(if k then 1 else 0))
  |.str _=>aA aC
  |.non=>aA aC
  |.tup _=>aA aC
  |.lst _=>aA aC
  |_=>aE
 |.bl k,b=>match b with
  |.int j=>aA ((if k then 1 else 0)==j)
  |.bl j=>aA (k==j)
  |.str _=>aA aC
  |.non=>aA aC
  |.tup _=>aA aC
  |.lst _=>aA aC
  |_=>aE
 |.str x,b=>match b with
  |.str y=>aA (x==y)
  |.int _=>aA aC
  |.bl _=>aA aC
  |.non=>aA aC
  |.tup _=>aA aC
  |.lst _=>aA aC
  |_=>aE
 |.non,b=>match b with
  |.non=>aA aB
  |.int _=>aA aC
  |.bl _=>aA aC
  |.str _=>aA aC
  |.tup _=>aA aC
  |.lst _=>aA aC
  |_=>aE
 |.tup c,b=>match b with
  |.tup a=>c_ c a
  |.non=>aA aC
  |.int _=>aA aC
  |.bl _=>aA aC
  |.str _=>aA aC
  |.lst _=>aA aC
  |_=>aE
 |.lst c,b=>match b with
  |.lst a=>c_ c a
  |.non=>aA aC
  |.int _=>aA aC
  |.bl _=>aA aC
  |.str _=>aA aC
  |.tup _=>aA aC
  |_=>aE
 |_,_=>aE
def c_:List T->List T->Option Bool
 |[],[]=>aA aB
 |[],_::_=>aA aC
 |_::_,[]=>aA aC
 |x::d,y::c=>match eqT x y,c_ d c with
  |some a,aA b=>aA (a&&b)
  |_,_=>aE
end
mutual
def kB:T->Nat
 |.tup a=>wG a+1
 |.lst a=>wG a+1
 |_=>0
def wG:List T->Nat
 |[]=>0
 |t::r=>max (kB t) (wG r)
end
noncomputable abbrev Cq:T->T->Option Bool
 |.int i,.int j=>aA (decide (i=j))|.str i,.str j=>aA (decide (i=j))
 |_,_=>aE
noncomputable abbrev sC(x y:T)(μ:Mem)(k:Bool->RE T):RE T:=match x,y with
 |.tup a,.tup c=>.grd (wG a<=40) (.som (c_ a c) k)
 |.lst a,.mut j=>λK Z=>∃c,μ[j]?=aA (.lst c)/\RE.grd (wG a<=40) (.som (c_ a c) k) K Z
 |x,y=>match Cq x y with
  |some b=>k b
  |none=>.st
noncomputable def cP:List T->Option (List Int)
 |[]=>aA []
 |.int i::r=>(cP r).map (i::·)
 |_::_=>aE
noncomputable abbrev Ia(x y:T)(k:Bool->RE T):RE T:=match x,y with
 |.int i,.int j=>k (decide (i<j))
 |_,_=>.st
noncomputable abbrev QK(op:eM)(x y:T)(μ:Mem):RE T:=
 match op with
 |.Eq=>sC x y μ λb=>.ok (.bl b) μ
 |.NotEq=>sC x y μ λb=>.ok (.bl (!b)) μ
 |.Lt=>Ia x y λb=>.ok (.bl b) μ
 |.LtE=>match x,y with|.int i,.int j=>.ok (.bl (decide (i<=j))) μ|_,_=>.st
 |.Gt=>match x,y with|.int i,.int j=>.ok (.bl (decide (j<i))) μ|_,_=>.st
 |.GtE=>match x,y with|.int i,.int j=>.ok (.bl (decide (j<=i))) μ|_,_=>.st
 |.Is=>(match y with
  |.non=>.ok (.bl (match x with|.non=>aB|_=>aC)) μ
  |_=>.st)
 |.IsNot=>(match y with
  |.non=>.ok (.bl (match x with|.non=>aC|_=>aB)) μ
  |_=>.st)
 |.In=>(match x,y with|.str i,.str j=>.ok (.bl (!(xL j i 0 j.length 1).isEmpty)) μ|_,_=>.st)
 |_=>.st
noncomputable abbrev yj:T->Mem->RE Bool
 |.bl b,a=>.ok b a
 |_,_=>.st
noncomputable abbrev eC(t:T):De:=λ_ a=>.ok t a
noncomputable abbrev eV(i:Nat):De:=λa b=>match V3 a i with
 |some t=>.ok t b
 |none=>.st
noncomputable abbrev zd(op:Operator)(f g:De):De:=λc d=>(f c d).bind λx b=>(g c b).bind λy a=>F8 op x y a
noncomputable abbrev FW(f:De):De:=λb c=>(f b c).bind λx a=>match x with|.int i=>.ok (.int (-i)) a|_=>.st
noncomputable abbrev As(f:De):De:=λc d=>(f c d).bind λx a=>match x with|.bl b=>.ok (.bl (!b)) a|_=>.st
noncomputable abbrev QB(f g:De):De:=λc d=>(f c d).bind λx a=>match x with|.bl b=>.br b (g c a) (.ok (.bl aC) a)|_=>.st
noncomputable abbrev CT(f g:De):De:=λc d=>(f c d).bind λx a=>match x with|.bl b=>.br b (.ok (.bl aB) a) (g c a)|_=>.st
noncomputable abbrev zw(op:eM)(f g:De):De:=λc d=>(f c d).bind λx b=>(g c b).bind λy a=>QK op x y a
noncomputable abbrev chS(op:eM)(d:Bool)(e:T->Sl->Mem->RE T)(x y:T)(τ:Sl)(c:Mem):RE T:=match d with
 |true=>QK op x y c
 |false=>(QK op x y c).bind λk a=>match k with
  |.bl b=>.br b (e y τ a) (.ok (.bl aC) a)
  |_=>.st
noncomputable abbrev oV(ps:List (eM×De)):T->Sl->Mem->RE T:=gA (motive:=λ_=>T->Sl->Mem->RE T) (λ_ _ _=>.st) (λp r d x b c=>(p.2 b c).bind λy a=>chS p.1 r.isEmpty d x y b a) ps
noncomputable abbrev iS(f:De)(ps:List (eM×De)):De:=λb c=>(f b c).bind λx a=>oV ps x b a
noncomputable abbrev tE(f:De):Dt:=λa b=>(f a b).bind yj
noncomputable abbrev jU(f g:Dt):Dt:=λc d=>(f c d).bind λb a=>.br b (g c a) (.ok aC a)
noncomputable abbrev fD(f g:Dt):Dt:=λc d=>(f c d).bind λb a=>.br b (.ok aB a) (g c a)
noncomputable abbrev qh(f:Dt):Dt:=λc d=>(f c d).bind λb a=>.ok (!b) a
noncomputable abbrev pb(c:Dt)(f g:De):De:=λd e=>(c d e).bind λb a=>.br b (f d a) (g d a)
noncomputable abbrev Zr(t:T)(f:Nat)(μ:Mem):RE T:=match t with
 |.obj _ fs=>(match Xm fs f with|some v=>.ok v μ|none=>.st)
 |.mut i=>λK _=>∃c fs v,μ[i]?=aA (.obj c fs)/\Xm fs f=aA v/\K v μ
 |_=>.st
noncomputable abbrev za(f:De)(n:Nat):De:=λb c=>(f b c).bind λt a=>Zr t n a
noncomputable def oK(n:Nat)(i:Int):Option Nat:=if 0<=i then (if i<n then aA i.toNat else aE) else if -(n:Int)<=i then aA (i+n).toNat else aE
noncomputable def vW {α:Type}(xs:List α)(i:Int):Option α:=(oK xs.length i).bind λj=>xs[j]?
noncomputable abbrev Gn(t i:T)(μ:Mem):RE T:=match i with
 |.int k=>(match t with
  |.lst a=>.som (vW a k) λv=>.ok v μ
  |.tup a=>.som (vW a k) λv=>.ok v μ
  |.mut j=>λK _=>∃a v,μ[j]?=aA (.lst a)/\vW a k=aA v/\K v μ
  |_=>.st)
 |_=>.st
noncomputable abbrev aX(f g:De):De:=λc d=>(f c d).bind λx b=>(g c b).bind λy a=>Gn x y a
noncomputable def Xx(n d:Nat):Option Int->Nat
 |none=>d
 |some v=>if v<0 then (v+(n:Int)).toNat else min v.toNat n
noncomputable def jx {α:Type}(xs:List α)(lo hi:Option Int):List α:=(xs.drop (Xx xs.length 0 lo)).take (Xx xs.length xs.length hi-Xx xs.length 0 lo)
noncomputable abbrev Dp:=Sl->Mem->RE (Option Int)
noncomputable abbrev pN:Dp:=λ_ a=>.ok aE a
noncomputable abbrev pS(f:De):Dp:=λb c=>(f b c).bind λt a=>match t with|.int i=>.ok (aA i) a|_=>.st
noncomputable abbrev F4(x:T)(l h:Option Int)(μ:Mem):RE T:=match x with
 |.lst a=>.ok (.lst (jx a l h)) μ
 |_=>.st
noncomputable abbrev o_(f:De)(lo hi:Dp):De:=λa e=>(f a e).bind λx d=>(lo a d).bind λl c=>(hi a c).bind λh b=>F4 x l h b
noncomputable abbrev gD(fs:List De):Da:=gA (motive:=λ_=>Da) (λ_ c=>.ok [] c) (λf _ g d c=>(f d c).bind λt b=>(g d b).bind λe a=>.ok (t::e) a) fs
noncomputable abbrev yp(fs:List De):De:=λb c=>(gD fs b c).bind λd a=>.ok (.lst d) a
noncomputable abbrev wD(fs:List De):De:=λb c=>(gD fs b c).bind λd a=>.ok (.tup d) a
noncomputable abbrev kO(fs:List De):De:=λb c=>(gD fs b c).bind λd a=>.ok (.mut a.length) (a++[.lst d])
noncomputable abbrev z4(g:Fn)(fs:List De):De:=λa b=>(gD fs a b).bind g
noncomputable abbrev Km(c:Nat)(g:Fn)(ts:List T)(μ:Mem):RE T:=λK Z=>
 Qt ts=aB/\g (.mut 0::ts) [.obj c []] (λr a=>r=.non/\∃fs,a[0]?=aA (.obj c fs)/\Zl fs=aB/\K (.obj c fs) μ) (λk fs _=>Zl fs=aB/\Z k fs μ)
noncomputable abbrev nu(c:Nat)(g:Fn)(fs:List De):De:=λa b=>(gD fs a b).bind (Km c g)
noncomputable abbrev rN(cs:List Nat)(x:T)(μ:Mem):RE T:=match x with
 |.mut i=>.som μ[i]? λo=>.br (Gm o) .st (.ok (.bl (dD (HU o) cs)) μ)
 |x=>match HV x μ with
  |some t=>.ok (.bl (dD t cs)) μ
  |none=>.st
noncomputable abbrev yP(cs:List Nat)(f:De):De:=λa b=>(f a b).bind (rN cs)
noncomputable abbrev dX(op:T->Mem->RE T)(f:De):De:=λa b=>(f a b).bind op
abbrev u4(t:T)(μ:Mem):RE T:=match t with
 |.lst a=>.ok (.int a.length) μ
 |.tup a=>.ok (.int a.length) μ
 |.str s=>.grd (s.length<=aT) (.ok (.int s.length) μ)
 |.mut i=>λK _=>∃a,μ[i]?=aA (.lst a)/\K (.int a.length) μ
 |_=>.st
abbrev oI(t:T)(μ:Mem):RE T:=match t with
 |.int i=>.ok (.int i) μ
 |.bl b=>.ok (.int (if b then 1 else 0)) μ
 |_=>.st
abbrev Jz(t:T)(μ:Mem):RE T:=match t with
 |.lst a=>.ok (.lst a) μ
 |.tup a=>.ok (.lst a) μ
 |.mut i=>λK _=>∃a,μ[i]?=aA (.lst a)/\K (.lst a) μ
 |_=>.st
noncomputable def cU:List T->Option (List Bool)
 |[]=>aA []
 |.bl b::r=>(cU r).map (b::·)
 |_::_=>aE
abbrev Xy(t:T)(μ:Mem):RE T:=match t with
 |.lst a=>.som (cU a) λbs=>.ok (.bl (bs.all id)) μ
 |_=>.st
abbrev W3(o f:De):De:=λd e=>(o d e).bind λg b=>match g with
 |.mut i=>λK Z=>(∃c,b[i]?=aA (.lst c))/\f d b (λt a=>∃c,a[i]?=aA (.lst c)/\c.length<aT/\K .non (a.set i (.lst (c++[t])))) Z
 |_=>.st
noncomputable abbrev ZO(z:aH):List T:=z.cps.toList.map λc=>T.str ⟨#[c]⟩
abbrev OI(t:T)(μ:Mem):RI:=match t with
 |.lst a=>.ok a gW μ
 |.str z=>.ok (ZO z) gW μ
 |.mut i=>λK _=>∃a,μ[i]?=aA (.lst a)/\K a (iQ i a) μ
 |_=>.st
abbrev iE(f:De):Di:=λa b=>(f a b).it OI
noncomputable def rangeT(n:Int):List T:=(eX n.toNat).map λ(i:Nat)=>T.int i
noncomputable def kb(a b c:Int):List T:=(eX (if a<b then (b-a-1) / c+1 else 0:Int).toNat).map λ(i:Nat)=>T.int (a+i*c)
abbrev mE(a:Int):Prop := -1606938044258990275541962092341162602522202993782792835301376<=a/\a<1606938044258990275541962092341162602522202993782792835301376
abbrev AY(f:De):Di:=λb c=>(f b c).it λt a=>match t with
 |.int n=>.grd (mE n) (.ok (rangeT n) gW a)
 |_=>.st
abbrev Ke(f g:De):Di:=λe h=>(f e h).it λx d=>(g e d).it λy c=>match x,y with
 |.int a,.int b=>.grd (mE a/\mE b) (.ok (kb a b 1) gW c)
 |_,_=>.st
inductive Tg where
 |one (i:Nat)|tup (is:List Nat)
noncomputable abbrev JQ(is:List Nat):List T->Sl->Option Sl:=gA (motive:=λ_=>List T->Sl->Option Sl) (λc a=>gA (motive:=λ_=>Option Sl) (aA a) (λ_ _ _=>aE) c) (λi _ d c a=>gA (motive:=λ_=>Option Sl) aE (λt b _=>d b (Z6 a i (aA t))) c) is
noncomputable abbrev h_:Tg->T->Sl->Option Sl
 |.one i,t,a=>aA (Z6 a i (aA t))
 |.tup c,.tup b,a=>JQ c b a
 |_,_,_=>aE
noncomputable def zV(tg:Tg)(g:Sl->Mem->RE (Option T))(lv:Mem->Prop)(τ:Sl):List T->Mem->RE (List T)
 |[],d=>.ok [] d
 |x::r,d=>.som (h_ tg x τ) λb=>(g b d).bind λo a=>.grd (lv a) (match o with
  |some y=>(zV tg g lv τ r a).bind λe c=>.ok (y::e) c
  |none=>zV tg g lv τ r a)
noncomputable abbrev uX(cs:List Dt)(f:De):Sl->Mem->RE (Option T):=gA (motive:=λ_=>Sl->Mem->RE (Option T)) (λd e=>(f d e).bind λy a=>.ok (aA y) a) (λc _ g d e=>(c d e).bind λb a=>.br b (g d a) (.ok aE a)) cs
noncomputable abbrev Xz(is:List Nat)(τ:Sl):Sl:=gA (motive:=λ_=>Sl) [] (λi _ a=>V3 τ i::a) is
noncomputable abbrev gX(n:Nat)(fs:List Nat)(τ:Sl):Sl:=pD (motive:=λ_=>Sl) (Xz fs τ) (λ_ a=>aE::a) n
noncomputable abbrev w9(n:Nat)(fs:List Nat)(tg:Tg)(it:Di)(cs:List Dt)(f:De):De:=λc e=>(it c e).go λd o b=>.grd (d.length<=aT) ((zV tg (uX cs f) o (gX n fs c) d b).bind λg a=>.ok (.lst g) a)
noncomputable abbrev jw(n:Nat)(fs:List Nat)(tg:Tg)(it:Di)(cs:List Dt)(f:De):De:=λc e=>(it c e).go λd o b=>.grd (d.length<=aT) ((zV tg (uX cs f) o (gX n fs c) d b).bind λg a=>.ok (.mut a.length) (a++[.lst g]))
abbrev zh(f:De):Ds:=λb c=>(f b c).out b λt a=>.rt t a
abbrev B5:Ds:=λ_ a=>.rt .non a
abbrev zB(f:De):Ds:=λa c=>(f a c).out a λ_ b=>.nx a b
noncomputable abbrev qp(c:List Ds):Ds:=gA (motive:=λ_=>Ds) (λa b=>.nx a b) (λs _ d a b=>(s a b).seq d) c
noncomputable abbrev bL(c:Dt)(a b:List Ds):Ds:=λe f=>(c e f).out e λk d=>.br k (qp a e d) (qp b e d)
noncomputable abbrev zp(i:Nat)(f:De):Ds:=λa c=>(f a c).out a λt b=>.nx (Z6 a i (aA t)) b
noncomputable abbrev A7(is:List Nat)(f:De):Ds:=λb d=>(f b d).out b λt c=>.som (h_ (.tup is) t b) λa=>.nx a c
noncomputable abbrev zM(o:De)(n:Nat)(f:De):Ds:=λa e=>(f a e).out a λt d=>(o a d).out a λg b=>match g with
 |.mut i=>λE=>∃c fs,b[i]?=aA (.obj c fs)/\fs.length<900/\E.nx a (b.set i (.obj c (Xr n t fs)))
 |_=>.st
abbrev F_(o b f:De):Ds:=λa h=>(f a h).out a λt e=>(o a e).out a λj d=>(b a d).out a λit c=>match j,it with
 |.mut i,.int k=>λE=>∃g,c[i]?=aA (.lst g)/\(0<=k/\k<g.length/\k<9223372036854775808)/\E.nx a (c.set i (.lst (g.set k.toNat t)))
 |_,_=>.st
noncomputable def fV(tg:Tg)(body:Ds)(lv:Mem->Prop):List T->Ds
 |[],d,e=>.nx d e
 |x::r,d,e=>.som (h_ tg x d) λc=>λE=>body c e (E.turn λb a=>lv a/\fV tg body lv r b a E)
noncomputable abbrev vr(tg:Tg)(it:Di)(body:List Ds):Ds:=λa c=>(it a c).out a λd o b=>fV tg (qp body) o d a b
noncomputable def Vp(c:Dt)(body:List Ds):Ds:=λd e E=>∃I:Nat->Sl->Mem->Prop,(∃n,I n d e)/\∀n d e,I n d e->
 c d e (λb a=>iy b (qp body d a (E.turn λf g=>∃m,m<n/\I m f g)) (E.nx d a)) (λk fs a=>E.ex k fs d a)
noncomputable abbrev zH(c:Nat)(fs:List De):Ds:=λa d=>(gD fs a d).out a λe b=>.grd (e.length<=aT) (.ex c [] a b)
abbrev VD(c f:Nat)(g:De):Ds:=λa d=>(g a d).out a λt b=>match t with
 |.int i=>.grd (i.natAbs.log2<1920) (.ex c [(f,.int i)] a b)
 |_=>.st
noncomputable abbrev F6(i:Option Nat)(v:List Ds)(k:Nat)(fs:List (Nat×T))(τ:Sl)(μ:Mem):cM:=λE=>match i with
 |some _=>False
 |none=>qp v τ μ {nx:=E.nx,rt:=E.rt,bk:=λ_ _=>False,ct:=λ_ _=>False,ex:=λ_ _ _ _=>False}
noncomputable abbrev sk(hs:List (List Nat×Option Nat×List Ds)):Nat->List (Nat×T)->Sl->Mem->cM:=gA (motive:=λ_=>Nat->List (Nat×T)->Sl->Mem->cM) (λk fs a b=>.ex k fs a b) (λp _ c k fs a b=>.br (dD k p.1) (F6 p.2.1 p.2.2 k fs a b) (c k fs a b)) hs
noncomputable abbrev oH(b:List Ds)(hs:List (List Nat×Option Nat×List Ds)):Ds:=λd e E=>qp b d e (E.tri λk fs a c=>sk hs k fs a c E)
noncomputable abbrev Cy(n:Nat):Sl:=pD (motive:=λ_=>Sl) [] (λ_ a=>aE::a) n
noncomputable abbrev rT(ts:List T)(n:Nat):Sl:=gA (motive:=λ_=>Sl) (Cy n) (λt _ a=>aA t::a) ts
noncomputable abbrev bI(n m:Nat)(body:List Ds):Fn:=λa b K Z=>a.length=n/\qp body (rT a m) b (En.fn K Z)
end NH
namespace NH
open PySem PySem.Spec PyProof.Rows L2
section
structure DP where
 K:bO
 adr:Nat->Option aF
 cad:Nat->Option aF
 fn:Nat->Option aH
 inj:∀i j x,fn i=aA x->fn j=aA x->i=j
 clo:Nat->aF->Option HO->List V->Prop
 tabs:Nat->Option (aF×List Pos×aH)
noncomputable def w6(c:aF)(qn:aH):aV->Prop:=λh=>h.CodeRec (.ref c) qn
inductive DMu(α:List aF)(i:Nat)(v:V):Prop|mk (a:aF) (h:α[i]?=aA a) (e:v=.ref a)
inductive Ix(φ α:List aF)(H:Hp)(c:List V->HO)(L:List V->Prop)(v:V):Prop|mk (a:aF) (xs:List V) (e:v=.ref a) (n1:a∉φ) (n2:a∉α) (r:Rd H a (c xs)) (l:L xs)
inductive DOb(φ α:List aF)(H:Hp)(ca:Option aF)(L:List (aH×V)->Prop)(v:V):Prop|mk (a C dx:aF) (gs:List (aH×V)) (e:v=.ref a) (n1:a∉φ) (n2:a∉α) (ad:ca=aA C) (q:H a=aA (.ins C dx gs)) (l:L gs)
inductive DCl(φ α:List aF)(H:Hp)(c:aF->Option HO->List V->Prop)(L:List V->Prop)(v:V):Prop|mk (a:aF) (ob:Option HO) (xs:List V) (e:v=.ref a) (h:c a ob xs) (o:∀o,ob=aA o->a∉φ/\a∉α/\H a=aA o) (l:L xs)
inductive DCo(P:V->Prop)(L:List V->Prop)(vs:List V):Prop|mk (v:V) (r:List V) (e:vs=v::r) (d:P v) (l:L r)
inductive DCf(x:Option aH)(P:V->Prop)(L:List (aH×V)->Prop)(vs:List (aH×V)):Prop|mk (y:aH) (v:V) (r:List (aH×V)) (h:x=aA y) (e:vs=(y,v)::r) (d:P v) (l:L r)
inductive DCk(k:Key)(P:V->Prop)(L:List (Key×V)->Prop)(vs:List (Key×V)):Prop|mk (v:V) (r:List (Key×V)) (e:vs=(k,v)::r) (d:P v) (l:L r)
inductive DXf(φ α:List aF)(H:Hp)(dx:aF)(L:List (aH×V)->Prop):Prop|mk (gs:List (aH×V)) (n1:dx∉φ) (n2:dx∉α) (q:H dx=aA (.xd gs)) (l:L gs)
mutual
def bA (D:DP)(φ α:List aF)(H:Hp):T->V->Prop
 |.non,v=>v=.non
 |.bl b,v=>v=.bl b
 |.int i,v=>v=.int i
 |.str x,v=>v=.str x
 |.mut i,v=>DMu α i v
 |.tup a,v=>Ix φ α H .tup (aM D φ α H a) v
 |.lst a,v=>Ix φ α H .lst (aM D φ α H a) v
 |.obj c fs,v=>DOb φ α H (D.cad c) (bN D φ α H fs) v
 |.clo j cs,v=>DCl φ α H (D.clo j) (aM D φ α H cs) v
def aM (D:DP)(φ α:List aF)(H:Hp):List T->List V->Prop
 |[],a=>a=[]
 |t::b,a=>DCo (bA D φ α H t) (aM D φ α H b) a
def bN (D:DP)(φ α:List aF)(H:Hp):List (Nat×T)->List (aH×V)->Prop
 |[],gs=>gs=[]
 |p::fs,gs=>DCf (D.fn p.1) (bA D φ α H p.2) (bN D φ α H fs) gs
def bM (D:DP)(φ α:List aF)(H:Hp):List (Key×T)->List (Key×V)->Prop
 |[],gs=>gs=[]
 |p::fs,gs=>DCk p.1 (bA D φ α H p.2) (bM D φ α H fs) gs
end
def CU (fs:List (Nat×T))(C:aF):aD:=if fs.length<=1 then .ref C else .int (C:Int) 0
theorem Rf:stC (CU fs C)=.ref C:=by
 unfold CU;split
 .rfl
 .show cN (Int.toNat (C:Int))=_;rw[Int.toNat_natCast]
noncomputable def sD(c:Nat):Option String:=if c=8 then aA "KeyError" else if c=9 then aA "ZeroDivisionError" else aE
inductive iU(D:DP)(c:Nat)(fs:List (Nat×T))(cv:aD):Prop where
 |own (C:aF) (ad:D.adr c=aA C) (e:cv=CU fs C)
 |blt (n:String) (h:sD c=aA n) (hn:D.adr c=aE) (e:cv=.type n)
def cB(D:DP)(φ α:List aF)(H:Hp)(fs:List (Nat×T)):Option aF->Prop
 |none=>fs=[]
 |some dx=>DXf φ α H dx (bN D φ α H fs)
inductive OLs(H:Hp)(a:aF)(L:List V->Prop):Prop|mk (xs:List V) (q:H a=aA (.lst xs)) (l:L xs)
inductive OOb(H:Hp)(a:aF)(ca:Option aF)(L:List (aH×V)->Prop):Prop|mk (C dx:aF) (gs:List (aH×V)) (ad:ca=aA C) (q:H a=aA (.ins C dx gs)) (l:L gs)
inductive ODi(H:Hp)(a:aF)(L:List (Key×V)->Prop):Prop|mk (gs:List (Key×V)) (q:H a=aA (.dK gs)) (l:L gs)
inductive OTb(D:DP)(φ α:List aF)(H:Hp)(j:Nat)(a:aF):Prop|mk (poss:List Pos) (qn:aH) (ps:Array aD) (h1:D.tabs j=aA (a,poss,qn)) (h2:H a=aA (.tbl ps)) (h3:TriplesOk ps.toList) (h4:∀pos∈poss,codeAmong pos ps.toList=aE\/∃c,codeAmong pos ps.toList=aA (.ref c)/\c∉φ/\c∉α/\H c=aA (.ext (w6 c qn)))
inductive OFr(H:Hp)(a:aF)(ep:Nat)(L:List (Key×V)->Prop):Prop|mk (gs:List (Key×V)) (q:H a=aA (.dE ep gs)) (l:L gs)
def d5 (D:DP)(φ α:List aF)(H:Hp):MO->aF->Prop
 |.lst d,a=>OLs H a (aM D φ α H d)
 |.obj c fs,a=>OOb H a (D.cad c) (bN D φ α H fs)
 |.dic b,a=>ODi H a (bM D φ α H b)
 |.tab j,a=>OTb D φ α H j a
 |.frd ep b,a=>OFr H a ep (bM D φ α H b)
structure aQ(α:List aF)(H:Hp)(α':List aF)(H':Hp):Prop where
 ext:∃β,α'=α++β/\∀b∈β,H b=aE
 keep:∀b o,b∉α->H b=aA o->H' b=aA o
 live:∀b,H' b=aE->H b=aE
theorem aQ.refl(α:List aF)(H:Hp):aQ α H α H:=⟨⟨[],by simp,by simp⟩,λ_ _ _ e=>e,λ_ e=>e⟩
theorem aQ.trans(a:aQ α H j s)(b:aQ j s g r):aQ α H g r:=by
 obtain⟨β,rfl,d⟩:=a.ext;obtain⟨i,rfl,f⟩:=b.ext;refine⟨⟨β++i,by simp,λc k=>?_⟩,λc o n e=>?_,λc e=>a.live c (b.live c e)⟩
 .rcases b_.mp k with h|h
  .exact d c h
  .exact a.live c (f c h)
 .refine b.keep c o (λh=>?_) (a.keep c o n e);rcases b_.mp h with h|h
  .exact n h
  .rw[d c h] at e;cases e
theorem aQ.new(s:kL H d):aQ α H α d:=⟨⟨[],by simp,by simp⟩,λb o _ e=>s b o e,λb e=>by
 cases q:H b with
 |none=>rfl
 |some o=>rw[s b o q] at e;cases e⟩
theorem zm(h:H p=aE):kL H (upd H p o):=λb u e=>by rw[z7 (zU e h)];exact e
theorem aQ.out(s:aQ α H d g)(n:a∉α)(e:H a=aA o):a∉d:=by
 obtain⟨β,rfl,b⟩:=s.ext;intro h;rcases b_.mp h with h|h
 .exact n h
 .rw[b a h] at e;cases e
section
variable {D:DP}{φ φ' α α':List aF}{H H':Hp}
structure Lk(φ α:List aF)(H:Hp)(φ' α':List aF)(H':Hp):Prop where
 ob:∀a o,a∉φ->a∉α->H a=aA o->a∉φ'/\a∉α'/\H' a=aA o
 st:∀(i:Nat) (a:aF),α[i]?=aA a->α'[i]?=aA a
mutual
theorem bA.lk(h:Lk φ α H φ' α' H'):∀{t:T}{v:V},bA D φ α H t v->bA D φ' α' H' t v
 |.non,_,d=>d
 |.bl _,_,d=>d
 |.int _,_,d=>d
 |.str _,_,d=>d
 |.mut i,_,d=>by obtain⟨a,e,q⟩:=d;exact⟨a,h.st i a e,q⟩
 |.tup ts,_,d=>by
  obtain⟨a,xs,rfl,n1,n2,r,l⟩:=d;rcases r with r|⟨o,r⟩
  .obtain⟨f,b,e⟩:=h.ob a _ n1 n2 r;exact⟨a,xs,rfl,f,b,.inl e,aM.lk h l⟩
  .obtain⟨f,b,e⟩:=h.ob a _ n1 n2 r;exact⟨a,xs,rfl,f,b,.inr ⟨o,e⟩,aM.lk h l⟩
 |.lst ts,_,d=>by
  obtain⟨a,xs,rfl,n1,n2,r,l⟩:=d;rcases r with r|⟨o,r⟩
  .obtain⟨f,b,e⟩:=h.ob a _ n1 n2 r;exact⟨a,xs,rfl,f,b,.inl e,aM.lk h l⟩
  .obtain⟨f,b,e⟩:=h.ob a _ n1 n2 r;exact⟨a,xs,rfl,f,b,.inr ⟨o,e⟩,aM.lk h l⟩
 |.obj c fs,_,d=>by
  obtain⟨a,C,dx,gs,rfl,n1,n2,ad,e,l⟩:=d;obtain⟨f,b,e⟩:=h.ob a _ n1 n2 e;exact⟨a,C,dx,gs,rfl,f,b,ad,e,bN.lk h l⟩
 |.clo j cs,_,d=>by
  obtain⟨a,ob,xs,rfl,c,e,l⟩:=d;exact⟨a,ob,xs,rfl,c,λo z=>let ⟨n1,n2,q⟩:=e o z;h.ob a o n1 n2 q,aM.lk h l⟩
theorem aM.lk(h:Lk φ α H φ' α' H'):∀{ts:List T}{vs:List V},aM D φ α H ts vs->aM D φ' α' H' ts vs
 |[],_,l=>l
 |t::ts,_,l=>by
  obtain⟨v,r,rfl,a,b⟩:=l;exact⟨v,r,rfl,bA.lk h a,aM.lk h b⟩
theorem bN.lk(h:Lk φ α H φ' α' H'):∀{fs:List (Nat×T)}{gs:List (aH×V)},bN D φ α H fs gs->bN D φ' α' H' fs gs
 |[],_,l=>l
 |p::fs,_,l=>by
  obtain⟨x,v,r,e,rfl,a,b⟩:=l;exact⟨x,v,r,e,rfl,bA.lk h a,bN.lk h b⟩
theorem bM.lk(h:Lk φ α H φ' α' H'):∀{fs:List (Key×T)}{gs:List (Key×V)},bM D φ α H fs gs->bM D φ' α' H' fs gs
 |[],_,l=>l
 |p::fs,_,l=>by
  obtain⟨v,r,rfl,a,b⟩:=l;exact⟨v,r,rfl,bA.lk h a,bM.lk h b⟩
end
theorem aQ.lk(s:aQ α H α' H'):Lk φ α H φ α' H':=⟨λa o n1 n2 e=>⟨n1,s.out n2 e,s.keep a o n2 e⟩,λi a e=>by
 obtain⟨β,rfl,_⟩:=s.ext;rw[dP (bE.mp e).1];exact e⟩
theorem bA.step(s:aQ α H α' H')(d:bA D φ α H t v):bA D φ α' H' t v:=d.lk s.lk
theorem aM.step(s:aQ α H α' H')(d:aM D φ α H t v):aM D φ α' H' t v:=d.lk s.lk
theorem bN.step(s:aQ α H α' H')(d:bN D φ α H t v):bN D φ α' H' t v:=d.lk s.lk
theorem bM.step(s:aQ α H α' H')(d:bM D φ α H t v):bM D φ α' H' t v:=d.lk s.lk
theorem cB.lk(h:Lk φ α H φ' α' H')(x:cB D φ α H fs d):cB D φ' α' H' fs d:=by
 cases d with
 |none=>exact x
 |some dx=>
  obtain⟨gs,k1,k2,a,l⟩:=x;obtain⟨k1,k2,a⟩:=h.ob dx _ k1 k2 a;exact⟨gs,k1,k2,a,bN.lk h l⟩
mutual
theorem bA.hide:∀{t:T}{v:V},uL t=aB->bA D φ α H t v->(∀a,a∉φ->a∉α->a∉φ'/\a∉β)->bA D φ' β H t v
 |.non,_,_,h,_=>h
 |.bl _,_,_,h,_=>h
 |.int _,_,_,h,_=>h
 |.str _,_,_,h,_=>h
 |.mut i,_,p,_,_=>by simp[uL] at p
 |.tup ts,_,p,h,k=>by
  obtain⟨a,xs,rfl,n1,n2,r,l⟩:=h;exact⟨a,xs,rfl,(k a n1 n2).1,(k a n1 n2).2,r,aM.hide (by simpa[uL] using p) l k⟩
 |.lst ts,_,p,h,k=>by
  obtain⟨a,xs,rfl,n1,n2,r,l⟩:=h;exact⟨a,xs,rfl,(k a n1 n2).1,(k a n1 n2).2,r,aM.hide (by simpa[uL] using p) l k⟩
 |.obj c fs,_,p,h,k=>by
  obtain⟨a,C,dx,gs,rfl,n1,n2,ad,e,l⟩:=h;exact⟨a,C,dx,gs,rfl,(k a n1 n2).1,(k a n1 n2).2,ad,e,bN.hide (by simpa[uL] using p) l k⟩
 |.clo j cs,_,p,h,k=>by
  obtain⟨a,ob,xs,rfl,c,e,l⟩:=h;exact⟨a,ob,xs,rfl,c,λo z=>let ⟨n1,n2,q⟩:=e o z;⟨(k a n1 n2).1,(k a n1 n2).2,q⟩,aM.hide (by simpa[uL] using p) l k⟩
theorem aM.hide:∀{ts:List T}{vs:List V},Qt ts=aB->aM D φ α H ts vs->(∀a,a∉φ->a∉α->a∉φ'/\a∉β)->aM D φ' β H ts vs
 |[],_,_,h,_=>h
 |t::ts,_,p,h,k=>by
  obtain⟨v,r,rfl,a,b⟩:=h;simp only[Qt,cO] at p;exact⟨v,r,rfl,bA.hide p.1 a k,aM.hide p.2 b k⟩
theorem bN.hide:∀{fs:List (Nat×T)}{gs:List (aH×V)},Zl fs=aB->bN D φ α H fs gs->(∀a,a∉φ->a∉α->a∉φ'/\a∉β)->bN D φ' β H fs gs
 |[],_,_,h,_=>h
 |q::fs,_,p,h,k=>by
  obtain⟨x,v,r,e,rfl,a,b⟩:=h;simp only[Zl,cO] at p;exact⟨x,v,r,e,rfl,bA.hide p.1 a k,bN.hide p.2 b k⟩
end
theorem cB.hide(p:Zl fs=aB)(x:cB D φ α H fs d)(k:∀a,a∉φ->a∉α->a∉φ'/\a∉β):cB D φ' β H fs d:=by
 cases d with
 |none=>exact x
 |some dx=>
  obtain⟨gs,k1,k2,b,l⟩:=x;exact⟨gs,(k dx k1 k2).1,(k dx k1 k2).2,b,bN.hide p l k⟩
theorem Pe:∀a:aF,a∉φ->a∉α->a∉φ++α/\a∉([]:List aF):=λa c b=>⟨λz=>(b_.mp z).elim c b,by simp⟩
theorem Kb{β:List aF}:∀a:aF,a∉φ++α->a∉β->a∉φ/\a∉α:=λa b _=>⟨λz=>b (eY _ z),λz=>b (dH _ z)⟩
theorem aM.length:∀{ts:List T}{vs:List V},aM D φ α H ts vs->ts.length=vs.length
 |[],_,h=>by have:_=[]:=h;subst this;rfl
 |t::ts,_,h=>by
  obtain⟨v,r,rfl,_,b⟩:=h;simp[aM.length b]
theorem aM.get:∀{ts:List T}{vs:List V}{i:Nat}{t:T},aM D φ α H ts vs->ts[i]?=aA t->∃v,vs[i]?=aA v/\bA D φ α H t v
 |[],_,_,_,_,e=>by simp at e
 |t::ts,_,0,_,h,e=>by
  obtain⟨v,r,rfl,a,b⟩:=h;simp at e;subst e;exact⟨v,rfl,a⟩
 |t::ts,_,i+1,u,h,e=>by
  obtain⟨v,r,rfl,a,b⟩:=h;obtain⟨w,c,d⟩:=aM.get (i:=i) (t:=u) b (by simpa using e);exact⟨w,by simpa using c,d⟩
theorem aM.append:∀{ts us:List T}{vs c:List V},aM D φ α H ts vs->aM D φ α H us c->aM D φ α H (ts++us) (vs++c)
 |[],us,_,c,h,k=>by have:_=[]:=h;subst this;exact k
 |t::ts,us,_,c,h,k=>by
  obtain⟨v,r,rfl,a,b⟩:=h;exact⟨v,r++c,rfl,a,aM.append b k⟩
theorem aM.drop:∀(n:Nat) {ts:List T}{vs:List V},aM D φ α H ts vs->aM D φ α H (ts.drop n) (vs.drop n)
 |0,_,_,h=>h
 |n+1,[],_,h=>by have:_=[]:=h;subst this;exact rfl
 |n+1,t::ts,_,h=>by
  obtain⟨v,r,rfl,a,b⟩:=h;exact aM.drop n b
theorem aM.take:∀(n:Nat) {ts:List T}{vs:List V},aM D φ α H ts vs->aM D φ α H (ts.take n) (vs.take n)
 |0,_,_,h=>by simp[aM]
 |n+1,[],_,h=>by have:_=[]:=h;subst this;exact rfl
 |n+1,t::ts,_,h=>by
  obtain⟨v,r,rfl,a,b⟩:=h;exact⟨v,r.take n,rfl,a,aM.take n b⟩
theorem aM.set:∀{ts:List T}{vs:List V}{i:Nat}{t:T}{v:V},aM D φ α H ts vs->bA D φ α H t v->aM D φ α H (ts.set i t) (vs.set i v)
 |[],vs,i,t,v,l,d=>by have l:vs=[]:=l;subst l;exact rfl
 |x::ts,_,0,t,v,l,d=>by
  obtain⟨w,r,rfl,dw,l⟩:=l;exact⟨v,r,rfl,d,l⟩
 |x::ts,_,i+1,t,v,l,d=>by
  obtain⟨w,r,rfl,dw,l⟩:=l;exact⟨w,r.set i v,rfl,dw,aM.set l d⟩
theorem bN.look:∀{fs:List (Nat×T)}{gs:List (aH×V)}{f:Nat}{t:T},bN D φ α H fs gs->Xm fs f=aA t->∃x v,D.fn f=aA x/\gs.lookup x=aA v/\bA D φ α H t v
 |[],_,_,_,_,e=>by simp[Xm] at e
 |p::fs,_,f,t,h,e=>by
  obtain⟨x,v,r,ex,rfl,a,b⟩:=h;rw[UI] at e;cases q:fL p.1 f with
  |true=>
   have c:=ww q;rw[q] at e;have e:aA p.2=aA t:=e;cases e;exact⟨x,v,by rw[<-c];exact ex,by simp[f7],a⟩
  |false=>
   rw[q] at e;obtain⟨y,w,h1,h2,d⟩:=bN.look b e;refine⟨y,w,h1,?_,d⟩;rw[f7];have ne:(y==x)=aC:=by
    refine beq_eq_false_iff_ne.mpr λz=>?_;subst z;have:=D.inj _ _ _ ex h1;rw[this] at q;simp at q
   rw[ne];exact h2
theorem bN.put(a:D.fn f=aA x):∀{fs:List (Nat×T)}{gs:List (aH×V)},bN D φ α H fs gs->bA D φ α H t w->bN D φ α H (Xr f t fs) (j7 x w gs)
 |[],gs,h,d=>by
  have:gs=[]:=h;subst this;exact⟨x,w,[],a,rfl,d,rfl⟩
 |p::fs,gs,h,d=>by
  obtain⟨z,y,r,ez,rfl,dy,l⟩:=h;rw[YP];show bN D φ α H _ (if z=x then (z,w)::r else (z,y)::j7 x w r);cases q:fL p.1 f with
  |true=>
   have b:=ww q;have:z=x:=by rw[b,a] at ez;exact (bQ ez).symm
   rw[if_pos this];exact⟨z,w,r,ez,rfl,d,l⟩
  |false=>
   have:z≠x:=λe=>by
    subst e;have:=D.inj _ _ _ ez a;rw[this] at q;simp at q
   rw[if_neg this];exact⟨z,y,j7 x w r,ez,rfl,dy,bN.put a l d⟩
theorem bN.length:∀{fs:List (Nat×T)}{gs:List (aH×V)},bN D φ α H fs gs->fs.length=gs.length
 |[],_,h=>by have:_=[]:=h;subst this;rfl
 |p::fs,_,h=>by
  obtain⟨x,v,r,_,rfl,_,b⟩:=h;simp[bN.length b]
noncomputable def sv:HO->Bool
 |.frz _ _=>aC
 |_=>aB
structure aL(D:DP)(φ α:List aF)(H:Hp)(μ:Mem):Prop where
 len:α.length=μ.length
 nd:α.Nodup
 dis:∀b∈α,b∉φ
 phi:∀b∈φ,∃o,H b=aA o/\sv o=aB
 ob:∀(i:Nat) (a:aF) (o:MO),α[i]?=aA a->μ[i]?=aA o->d5 D φ α H o a
theorem d5.lk(s:Lk φ α H φ' α' H')(e:H' a=H a)(h:d5 D φ α H o a):d5 D φ' α' H' o a:=by
 cases o with
 |lst ts=>
  obtain⟨xs,q,l⟩:=h;exact⟨xs,e.trans q,aM.lk s l⟩
 |obj c fs=>
  obtain⟨C,dx,gs,ad,q,l⟩:=h;exact⟨C,dx,gs,ad,e.trans q,bN.lk s l⟩
 |dic kvs=>
  obtain⟨xs,q,l⟩:=h;exact⟨xs,e.trans q,bM.lk s l⟩
 |tab j=>
  obtain⟨pos,qn,ps,h1,h2,m,k⟩:=h;refine⟨pos,qn,ps,h1,e.trans h2,m,λp i=>(k p i).imp id λ⟨c,k1,k2,k3,g⟩=>?_⟩;obtain⟨f,d,b⟩:=s.ob c _ k2 k3 g;exact⟨c,k1,f,d,b⟩
 |frd ep kvs=>
  obtain⟨xs,q,l⟩:=h;exact⟨xs,e.trans q,bM.lk s l⟩
theorem d5.step(s:aQ α H α' H')(e:H' a=H a)(h:d5 D φ α H o a):d5 D φ α' H' o a:=h.lk s.lk e
theorem d5.some(h:d5 D φ α H o a):∃u,H a=Option.some u/\sv u=aB:=by
 cases o with
 |lst ts=>obtain⟨xs,q,_⟩:=h;exact⟨_,q,rfl⟩
 |obj c fs=>obtain⟨C,dx,gs,_,q,_⟩:=h;exact⟨_,q,rfl⟩
 |dic ts=>obtain⟨xs,q,_⟩:=h;exact⟨_,q,rfl⟩
 |tab j=>obtain⟨_,_,ps,_,q,_⟩:=h;exact⟨_,q,rfl⟩
 |frd ep kvs=>obtain⟨xs,q,_⟩:=h;exact⟨_,q,rfl⟩
theorem aL.new(m:aL D φ α H μ)(s:kL H H'):aL D φ α H' μ:=
 ⟨m.len,m.nd,m.dis,λb hb=>let ⟨o,e,n⟩:=m.phi b hb;⟨o,s b o e,n⟩,λi a o f c=>by
  have d:=m.ob i a o f c;obtain⟨u,q,_⟩:=d.some;exact d.step (aQ.new s) ((s _ _ q).trans q.symm)⟩
theorem aL.lk(h:Lk φ α H φ' α H')(c:∀a∈α,H' a=H a/\a∉φ')(d:∀b∈φ',∃o,H' b=aA o/\sv o=aB)(m:aL D φ α H μ):aL D φ' α H' μ:=
 ⟨m.len,m.nd,λb hb=>(c b hb).2,d,λi a o e f=>(m.ob i a o e f).lk h (c a (bK e)).1⟩
structure a_(D:DP)(φ α:List aF)(H:Hp)(τ:Sl)(σ:St):Prop where
 len:τ.length=σ.length
 val:∀(i:Nat) (t:T),τ[i]?=aA (aA t)->∃v,σ[i]?=aA (aA v)/\bA D φ α H t v
theorem a_.lk(r:a_ D φ α H τ g)(s:Lk φ α H φ' α' H'):a_ D φ' α' H' τ g:=⟨r.len,λi t e=>by
 obtain⟨v,q,d⟩:=r.val i t e;exact⟨v,q,d.lk s⟩⟩
theorem a_.step(r:a_ D φ α H τ d)(s:aQ α H α' H'):a_ D φ α' H' τ d:=r.lk s.lk
theorem a_.set(r:a_ D φ α H τ g)(d:bA D φ α H t v):a_ D φ α H (Z6 τ i (aA t)) (g.set i (aA v)):=by
 rw[Vu];refine⟨by simp[r.len],λj u e=>?_⟩;by_cases h:i=j
 .subst h;rw[List.getElem?_set_self'] at e;cases q:τ[i]? with
  |none=>rw[q] at e;cases e
  |some o=>
   rw[q] at e;simp at e;subst e;have a:i<g.length:=by rw[<-r.len];exact (bE.mp q).1
   exact⟨v,by simp[a],d⟩
 .rw[bR h] at e ⊢;exact r.val j u e
theorem a_.get(r:a_ D φ α H τ d)(e:V3 τ i=aA t):∃v,d[i]?=aA (aA v)/\bA D φ α H t v:=r.val i t (Vj.mp e)
end
theorem u7(hb:H b=aE):Lk φ α H (φ++[b]) α H:=by
 refine⟨λa o d c e=>⟨λz=>?_,c,e⟩,λ_ _ e=>e⟩;rcases b_.mp z with z|z
 .exact d z
 .rw[bU.mp z,hb] at e;cases e
theorem Kn(hb:H b=aE)(s:kL H j):Lk φ α H (φ++[b]) α j:=⟨λa o g f e=>let ⟨d,c,h⟩:=(u7 hb).ob a o g f e;⟨d,c,s a o e⟩,λ_ _ e=>e⟩
theorem j5:Lk (φ++[b]) α H φ α H:=⟨λa o d c e=>⟨λz=>d (eY _ z),c,e⟩,λ_ _ e=>e⟩
theorem ZF(hb:b∈φ):Lk φ α H φ α (upd H b u):=⟨λa o c d e=>⟨c,d,by rw[z7 (λz:a=b=>c (by rw[z];exact hb))];exact e⟩,λ_ _ e=>e⟩
end
inductive aJ(D:DP)(W:XW)(φ α:List aF)(H:Hp)(σ:St){β:Type}(R:β->Mem->List aF->Hp->Prop)(r:RE β):Prop where
 |mk (K:β->Mem->Prop) (Z:Xp) (q:r K Z) (h:(∀a μ',K a μ'->∀α' H',aQ α H α' H'->aL D φ α' H' μ'->R a μ' α' H')/\
  ∀c fs μ',Z c fs μ'->∀α' H' cv d,aQ α H α' H'->aL D φ α' H' μ'->iU D c fs cv->cB D φ α' H' fs d->W cv d σ H')
inductive nB(D:DP)(H:Hp)(σ:St)(P:List aF->List aF->Sl->Mem->Prop):Prop where
 |mk (φ α:List aF) (τ:Sl) (μ:Mem) (sr:a_ D φ α H τ σ) (mr:aL D φ α H μ) (p:P φ α τ μ)
section
variable {D:DP}{W:XW}{φ α α':List aF}{H H':Hp}{σ:St}{β γ:Type}{R R':β->Mem->List aF->Hp->Prop}
theorem aJ.mono(p:aJ D W φ α H σ R r)(h:∀a d α' H',aQ α H α' H'->aL D φ α' H' d->R a d α' H'->R' a d α' H'):aJ D W φ α H σ R' r:=by
 obtain⟨K,Z,q,k,z⟩:=p;exact⟨K,Z,q,λa d e α' H' s m=>h a d α' H' s m (k a d e α' H' s m),z⟩
theorem aJ.bind{r:RE γ}(p:aJ D W φ α H σ R (r.bind k)):aJ D W φ α H σ (λa g α' H'=>aJ D W φ α' H' σ R (k a g)) r:=by
 obtain⟨K,Z,q,h,z⟩:=p;exact⟨λa μ=>k a μ K Z,Z,q,λa g e α' H' s m=>⟨K,Z,e,λb μ2 l f n i j=>h b μ2 l f n (s.trans i) j,λc fs μ2 l f n C d i j=>z c fs μ2 l f n C d (s.trans i) j⟩,z⟩
theorem aJ.elim{C:Prop}(p:aJ D W φ α H σ R RE.st):C:=by obtain⟨_,_,q,_⟩:=p;exact q.elim
theorem aJ.grd(p:aJ D W φ α H σ R (RE.grd c r)):c/\aJ D W φ α H σ R r:=by
 obtain⟨K,Z,q,h⟩:=p;exact⟨q.1,K,Z,q.2,h⟩
theorem aJ.som{k:γ->RE β}(p:aJ D W φ α H σ R (RE.som o k)):∃a,o=aA a/\aJ D W φ α H σ R (k a):=by
 obtain⟨K,Z,⟨a,e,q⟩,h⟩:=p;exact⟨a,e,K,Z,q,h⟩
theorem aJ.br(p:aJ D W φ α H σ R (RE.br b r s)):(b=aB/\aJ D W φ α H σ R r)\/(b=aC/\aJ D W φ α H σ R s):=by
 obtain⟨K,Z,q,h⟩:=p;cases b with
 |true=>exact .inl ⟨rfl,K,Z,q,h⟩
 |false=>exact .inr ⟨rfl,K,Z,q,h⟩
theorem aJ.ok(p:aJ D W φ α H σ R (RE.ok a μ))(s:aQ α H α' H')(m:aL D φ α' H' μ):R a μ α' H':=by
 obtain⟨K,Z,q,h,_⟩:=p;exact h a μ q α' H' s m
theorem aJ.step(p:aJ D W φ α H σ R r)(st:aQ α H α' H'):aJ D W φ α' H' σ R r:=by
 obtain⟨K,Z,q,h,z⟩:=p;exact⟨K,Z,q,λb μ2 g a i e f=>h b μ2 g a i (st.trans e) f,λc fs μ2 g a i C d e f=>z c fs μ2 g a i C d (st.trans e) f⟩
theorem aJ.ex1{a:Type}{P:a->Prop}{k:a->RE β}(p:aJ D W φ α H σ R (λK Z=>∃x,P x/\k x K Z)):∃x,P x/\aJ D W φ α H σ R (k x):=by
 obtain⟨K,Z,⟨x,b,q⟩,h⟩:=p;exact⟨x,b,K,Z,q,h⟩
end
def aU (D:DP)(W:XW)(f:De):TE:=λc H Q=>nB D H c λb h e g=>aJ D W b h H c (λt _ a d=>∀v,bA D b a d t v->Q v d) (f e g)
def eJ (D:DP)(W:XW)(f:Dt):TT:=λa H Q=>nB D H a λc g d e=>aJ D W c g H a (λb _ _ h=>Q b h) (f d e)
def o1 (D:DP)(W:XW)(n:Nat)(f:Da):TA:=λd H Q=>nB D H d λc i g h=>aJ D W c i H d (λj _ a e=>∀b,aM D c a e j b->b.length=n->Q b e) (f g h)
section
variable {X:Cx}{D:DP}{W:XW}{pins:List (aF×bF)}{s:Shared}{σ:St}{H:Hp}{φ α:List aF}{τ:Sl}{μ:Mem}{β:Type}{R:β->Mem->List aF->Hp->Prop}
inductive CZ(X:Cx)(D:DP)(W:XW)(pins:List (aF×bF))(σ:St)(H:Hp)(φ α:List aF)(τ:Sl){β:Type}(R:β->Mem->List aF->Hp->Prop)(k:T->Mem->RE β)(u:aD)(s1:Shared):Prop where
 |mk (v:V) (H1:Hp) (t:T) (μ1:Mem) (α1:List aF) (i:Inv X pins σ H1 s1) (r:RelV v u) (st:aQ α H α1 H1) (sr:a_ D φ α1 H1 τ σ) (mr:aL D φ α1 H1 μ1) (d:bA D φ α1 H1 t v) (p:aJ D W φ α1 H1 σ R (k t μ1))
inductive CY(X:Cx)(D:DP)(W:XW)(pins:List (aF×bF))(σ:St)(H:Hp)(φ α:List aF)(τ:Sl){β:Type}(R:β->Mem->List aF->Hp->Prop)(k:Bool->Mem->RE β)(b:Bool)(s1:Shared):Prop where
 |mk (H1:Hp) (μ1:Mem) (α1:List aF) (i:Inv X pins σ H1 s1) (st:aQ α H α1 H1) (sr:a_ D φ α1 H1 τ σ) (mr:aL D φ α1 H1 μ1) (p:aJ D W φ α1 H1 σ R (k b μ1))
inductive C9(X:Cx)(D:DP)(W:XW)(pins:List (aF×bF))(σ:St)(H:Hp)(φ α:List aF)(τ:Sl){β:Type}(R:β->Mem->List aF->Hp->Prop)(n:Nat)(k:List T->Mem->RE β)(us:List aD)(s1:Shared):Prop where
 |mk (vs:List V) (H1:Hp) (ts:List T) (μ1:Mem) (α1:List aF) (i:Inv X pins σ H1 s1) (r:aY vs us) (st:aQ α H α1 H1) (sr:a_ D φ α1 H1 τ σ) (mr:aL D φ α1 H1 μ1) (d:aM D φ α1 H1 ts vs) (hn:vs.length=n) (p:aJ D W φ α1 H1 σ R (k ts μ1))
theorem sub{f:Sl->Mem->RE T}(n:PE X a (aU D W f))(I:Inv X pins σ H s)(j:a_ D φ α H τ σ)(l:aL D φ α H μ)(p:aJ D W φ α H σ R ((f τ μ).bind k)) :
  wpAny (aS X.prog X.w) X.A (eval a X.env) (CZ X D W pins σ H φ α τ R k) X.xe s:=by
 refine aW (n pins s σ H (λv e=>∃t c b,aQ α H b e/\a_ D φ b e τ σ/\aL D φ b e c/\bA D φ b e t v/\aJ D W φ b e σ R (k t c)) I ⟨φ,α,τ,μ,j,l,p.bind.mono λt g i E st m q v d=>⟨t,g,i,st,j.step st,m,d,q⟩⟩) ?_;rintro u C ⟨v,e,B,r,t,c,b,z,y,x,o,h⟩;exact⟨v,e,t,c,b,B,r,z,y,x,o,h⟩
theorem FR{f:Sl->Mem->RE Bool}(n:PT X a (eJ D W f))(I:Inv X pins σ H s)(j:a_ D φ α H τ σ)(l:aL D φ α H μ)(p:aJ D W φ α H σ R ((f τ μ).bind k)) :
  wpAny (aS X.prog X.w) X.A (isTrue a X.env (eval a X.env)) (CY X D W pins σ H φ α τ R k) X.xe s:=by
 refine aW (n pins s σ H (λb e=>∃d c,aQ α H c e/\a_ D φ c e τ σ/\aL D φ c e d/\aJ D W φ c e σ R (k b d)) I ⟨φ,α,τ,μ,j,l,p.bind.mono λb g i x st m q=>⟨g,i,st,j.step st,m,q⟩⟩) ?_;rintro b v ⟨e,u,d,c,t,r,o,h⟩;exact⟨e,d,c,u,t,r,o,h⟩
theorem rR(u:PA X es (o1 D W n f))(I:Inv X pins σ H s)(l:a_ D φ α H τ σ)(o:aL D φ α H μ)(p:aJ D W φ α H σ R ((f τ μ).bind k)) :
  wpAny (aS X.prog X.w) X.A (spliced (eU pos (dW es X.env))) (C9 X D W pins σ H φ α τ R n k) X.xe s:=by
 refine aW (u pos pins s σ H (λg c=>∃e b a,aQ α H a c/\a_ D φ a c τ σ/\aL D φ a c b/\aM D φ a c e g/\g.length=n/\aJ D W φ a c σ R (k e b)) I ⟨φ,α,τ,μ,l,o,p.bind.mono λe i j G st m q g d t=>⟨e,i,j,st,l.step st,m,d,t,q⟩⟩) ?_;rintro E F ⟨g,c,C,r,e,b,a,B,z,y,x,v,h⟩;exact⟨g,c,e,b,a,C,r,B,z,y,x,v,h⟩
abbrev RV(D:DP)(φ:List aF)(Q:VK):T->Mem->List aF->Hp->Prop:=λt _ a b=>∀v,bA D φ a b t v->Q v b
theorem aJ.here(p:aJ D W φ α H σ (RV D φ Q) (.ok t μ))(a:aL D φ α H μ)(d:bA D φ α H t v):Q v H:=p.ok (aQ.refl _ _) a v d
theorem aJ.fresh(p:aJ D W φ α H σ (RV D φ Q) (.ok t μ))(a:aL D φ α H μ)(sm:kL H g)(d:bA D φ α g t v):Q v g:=p.ok (aQ.new sm) (a.new sm) v d
theorem qa(h:n<=aT):n<=sizeLine:=dG h (by unfold aT;decide)
theorem zr(a:aL D φ α H μ)(h:H p=aE):p∉φ:=λz=>by
 obtain⟨o,e,_⟩:=a.phi p z;rw[h] at e;cases e
theorem zt(a:aL D φ α H μ)(h:H p=aE):p∉α:=λz=>by
 obtain⟨i,b⟩:=fN.mp z;have c:i<μ.length:=by rw[<-a.len];exact (bE.mp b).1
 obtain⟨u,e,_⟩:=(a.ob i p μ[i] b (by simp[c])).some;rw[h] at e;cases e
theorem ZP:∀{ts:List T}{ns:List Int}{vs:List V},cP ts=aA ns->aM D φ α H ts vs->vs=ns.map V.int
 |[],ns,vs,h,l=>by
  simp[cP] at h;subst h;exact l
 |t::ts,ns,vs,h,l=>by
  obtain⟨v,r,rfl,d,l⟩:=l;cases t with
  |int i=>
   simp only[cP] at h;cases q:cP ts with
   |none=>rw[q] at h;cases h
   |some a=>
    rw[q] at h;cases h;rw[ZP q l];have d:v=.int i:=d;rw[d];rfl
  |_=>simp[cP] at h
theorem PY:fJ X (lG .Add) (λx y H Q=>∃l b xs d,x=.ref l/\y=.ref b/\Rd H l (.lst xs)/\Rd H b (.lst d)/\xs.length+d.length<=sizeLine/\∀p,H p=aE->Q (.ref p) (upd H p (.lst (xs++d)))):=by
 intro g s w H x y v u Q I k j h;obtain⟨l,b,xs,d,rfl,rfl,m,o,i,q⟩:=h;cases k;cases j;obtain⟨z,c,n,r,e⟩:=m.ok I.hok;obtain⟨A,a,B,f,t⟩:=o.ok I.hok;refine PySem.P.add_list e t ?_ (by rw[d7,d7,<-r.length,<-f.length];exact i);rw[show c.toArray++a.toArray=(c++a).toArray by simp];exact⟨.ref _,_,I.lnew (t':=s.toks) (r.append f) (by rw[gK];exact i),rfl,q _ I.fresh⟩
theorem Tu:fJ X (lG .FloorDiv) (rI (λ_ j=>0<j/\j<1606938044258990275541962092341162602522202993782792835301376) λi j=>.int (i / j)):=ss λi j _ _ _ _ _ a q=>by
 have c:(0:Int)<j:=a.1;have b:j<1606938044258990275541962092341162602522202993782792835301376:=a.2;refine floordiv_int (by omega) (by rw[Int.fdiv_eq_ediv_of_nonneg i (by omega)];exact q) (.inl (PyProof.noPylong_of_log2 ?_));refine dC ((Dv (by omega)).2 (show j.natAbs<2 ^ 200 by omega)) (by decide)
theorem yr{f:Int->Int->Mem->RE T}{x:T}(p:aJ D W φ α H σ (RV D φ Q) (Xg f x y μ)):∃i j,x=.int i/\y=.int j/\aJ D W φ α H σ (RV D φ Q) (f i j μ):=by
 unfold Xg at p;split at p
 .exact⟨_,_,rfl,rfl,p⟩
 .exact p.elim
theorem N7{op:Operator}{x y:T}{q:V}{t r:aD}(I:Inv X pins σ H s)(c:aL D φ α H μ)(g:bA D φ α H x q)(f:bA D φ α H y B)(e:RelV q t)(d:RelV B r)
  (p:aJ D W φ α H σ (RV D φ Q) (F8 op x y μ)):wpAny (aS X.prog X.w) X.A (lG op t r) (EP X pins σ Q) X.xe s:=by
 cases op with
 |Add=>
  replace p:aJ D W φ α H σ (RV D φ Q) (AW x y μ):=p;unfold AW at p;split at p
  .cases g;cases f;exact M9 pins s σ H _ _ _ _ Q I e d ⟨_,_,rfl,rfl,p.here c rfl⟩
  .obtain⟨h,p⟩:=p.grd;obtain⟨a,n,rfl,G,F,E,v⟩:=g;obtain⟨b,m,rfl,K,J,C,u⟩:=f;refine PY pins s σ H _ _ _ _ Q I e d ⟨a,b,n,m,rfl,rfl,E,C,by rw[<-v.length,<-u.length];exact qa h,λz l=>?_⟩;have k:=zm (o:=.lst (n++m)) l;exact p.fresh c k ⟨z,_,rfl,zr c l,zt c l,.inl z3,(v.step (aQ.new k)).append (u.step (aQ.new k))⟩
  .exact p.elim
 |Sub=>
  obtain⟨i,j,rfl,rfl,p⟩:=yr p;cases g;cases f;exact NA pins s σ H _ _ _ _ Q I e d ⟨_,_,rfl,rfl,p.here c rfl⟩
 |Mult=>
  obtain⟨i,j,rfl,rfl,p⟩:=yr p;cases g;cases f;obtain⟨h,p⟩:=p.grd;exact NV pins s σ H _ _ _ _ Q I e d ⟨_,_,rfl,rfl,by simpa[lB,big] using h,p.here c rfl⟩
 |FloorDiv=>
  obtain⟨i,j,rfl,rfl,p⟩:=yr p;cases g;cases f;obtain⟨h,p⟩:=p.grd;exact Tu pins s σ H _ _ _ _ Q I e d ⟨_,_,rfl,rfl,h,p.here c rfl⟩
 |Mod=>
  obtain⟨i,j,rfl,rfl,p⟩:=yr p;cases g;cases f;obtain⟨h,p⟩:=p.grd;exact M_ pins s σ H _ _ _ _ Q I e d ⟨_,_,rfl,rfl,h,p.here c rfl⟩
 |Pow=>
  obtain⟨i,j,rfl,rfl,p⟩:=yr p;cases g;cases f;obtain⟨h,p⟩:=p.grd;exact NL pins s σ H _ _ _ _ Q I e d ⟨_,_,rfl,rfl,⟨h.1,h.2.1,by simpa using h.2.2⟩,p.here c rfl⟩
 |_=>exact (show aJ D W φ α H σ (RV D φ Q) .st from p).elim
end
section
section
variable {D:DP}{φ α:List aF}{H:Hp}
theorem Rd.inj(b:∀o z,u≠.frz o z)(hw:∀o z,w≠.frz o z)(r:Rd H a u)(q:Rd H a w):u=w:=by
 rcases r with r|⟨o,r⟩<;>rcases q with q|⟨c,q⟩<;>rw[r] at q
 .exact bQ q
 .exact absurd (bQ q) (b _ _)
 .exact absurd (bQ q).symm (hw _ _)
 .injection bQ q
mutual
theorem Zk:∀{t u:T}{v:V}{k:Bool},bA D φ α H t v->bA D φ α H u v->eqT t u=aA k->k=aB
 |.int i,u,_,k,d,c,e=>by
  have d:_=V.int i:=d;subst d;cases u with
  |int j=>have c:V.int i=V.int j:=c;injection c with c;subst c;rw[<-bQ e];simp
  |bl b=>have c:V.int i=V.bl b:=c;cases c
  |str b=>have c:V.int i=V.str b:=c;cases c
  |non=>have c:V.int i=V.non:=c;cases c
  |tup b=>obtain⟨_,_,c,_⟩:=c;cases c
  |lst b=>obtain⟨_,_,c,_⟩:=c;cases c
  |_=>cases e
 |.bl i,u,_,k,d,c,e=>by
  have d:_=V.bl i:=d;subst d;cases u with
  |bl j=>have c:V.bl i=V.bl j:=c;injection c with c;subst c;rw[<-bQ e];simp
  |int b=>have c:V.bl i=V.int b:=c;cases c
  |str b=>have c:V.bl i=V.str b:=c;cases c
  |non=>have c:V.bl i=V.non:=c;cases c
  |tup b=>obtain⟨_,_,c,_⟩:=c;cases c
  |lst b=>obtain⟨_,_,c,_⟩:=c;cases c
  |_=>cases e
 |.str i,u,_,k,d,c,e=>by
  have d:_=V.str i:=d;subst d;cases u with
  |str j=>have c:V.str i=V.str j:=c;injection c with c;subst c;rw[<-bQ e];simp
  |int b=>have c:V.str i=V.int b:=c;cases c
  |bl b=>have c:V.str i=V.bl b:=c;cases c
  |non=>have c:V.str i=V.non:=c;cases c
  |tup b=>obtain⟨_,_,c,_⟩:=c;cases c
  |lst b=>obtain⟨_,_,c,_⟩:=c;cases c
  |_=>cases e
 |.non,u,_,k,d,c,e=>by
  have d:_=V.non:=d;subst d;cases u with
  |non=>exact (bQ e).symm
  |int b=>have c:V.non=V.int b:=c;cases c
  |bl b=>have c:V.non=V.bl b:=c;cases c
  |str b=>have c:V.non=V.str b:=c;cases c
  |tup b=>obtain⟨_,_,c,_⟩:=c;cases c
  |lst b=>obtain⟨_,_,c,_⟩:=c;cases c
  |_=>cases e
 |.tup o,u,_,k,d,c,e=>by
  obtain⟨a,n,rfl,_,_,r,l⟩:=d;cases u with
  |tup m=>
   obtain⟨b,h,g,_,_,f,l'⟩:=c;cases g;have:=Rd.inj (by intro _ _ z;cases z) (by intro _ _ z;cases z) r f;injection this with this;subst this;exact ub l l' e
  |lst m=>
   obtain⟨b,h,g,_,_,f,l'⟩:=c;cases g;have:=Rd.inj (by intro _ _ z;cases z) (by intro _ _ z;cases z) r f;cases this
  |int b=>have c:V.ref a=V.int b:=c;cases c
  |bl b=>have c:V.ref a=V.bl b:=c;cases c
  |str b=>have c:V.ref a=V.str b:=c;cases c
  |non=>have c:V.ref a=V.non:=c;cases c
  |_=>cases e
 |.lst o,u,_,k,d,c,e=>by
  obtain⟨a,n,rfl,_,_,r,l⟩:=d;cases u with
  |lst m=>
   obtain⟨b,h,g,_,_,f,l'⟩:=c;cases g;have:=Rd.inj (by intro _ _ z;cases z) (by intro _ _ z;cases z) r f;injection this with this;subst this;exact ub l l' e
  |tup m=>
   obtain⟨b,h,g,_,_,f,l'⟩:=c;cases g;have:=Rd.inj (by intro _ _ z;cases z) (by intro _ _ z;cases z) r f;cases this
  |int b=>have c:V.ref a=V.int b:=c;cases c
  |bl b=>have c:V.ref a=V.bl b:=c;cases c
  |str b=>have c:V.ref a=V.str b:=c;cases c
  |non=>have c:V.ref a=V.non:=c;cases c
  |_=>cases e
 |.obj _ _,_,_,_,_,_,e=>by cases e
 |.mut _,_,_,_,_,_,e=>by cases e
 |.clo _ _,_,_,_,_,_,e=>by cases e
theorem ub:∀{ts us:List T}{vs:List V}{k:Bool},aM D φ α H ts vs->aM D φ α H us vs->c_ ts us=aA k->k=aB
 |[],[],_,k,_,_,e=>by simpa[c_] using e.symm
 |[],_::_,_,k,b,a,e=>by
  have b:_=[]:=b;obtain⟨_,_,a,_⟩:=a;rw[b] at a;cases a
 |_::_,[],_,k,b,a,e=>by
  have a:_=[]:=a;obtain⟨_,_,b,_⟩:=b;rw[a] at b;cases b
 |t::ts,u::us,_,k,b,a,e=>by
  obtain⟨v,r,rfl,n,l⟩:=b;obtain⟨o,p,q,m,j⟩:=a;injection q with f d;subst f d;cases h:eqT t u with
  |none=>simp[c_,h] at e
  |some x=>
   cases c:c_ ts us with
   |none=>simp[c_,h,c] at e
   |some y=>
    have i:=Zk n m h;have g:=ub l j c;subst i g;simpa[c_,h,c] using e.symm
end
end
section
variable {X:Cx}{D:DP}{pins:List (aF×bF)}{s:Shared}{σ:St}{H:Hp}{φ α:List aF}
theorem Ql:∀{ts us:List T}{k:Bool},c_ ts us=aA k->(∀j (h1:j<ts.length) (h2:j<us.length),∃b,eqT ts[j] us[j]=aA b)/\
  k=((eX (min ts.length us.length)).all (λj=>match ts[j]?,us[j]? with|some t,aA u=>(eqT t u).getD aC|_,_=>aC)&&ts.length==us.length)
 |[],[],k,e=>by
  simp[c_] at e;subst e;exact⟨λj h1=>by simp at h1,by simp⟩
 |[],u::us,k,e=>by
  simp[c_] at e;subst e;exact⟨λj h1=>by simp at h1,by simp⟩
 |t::ts,[],k,e=>by
  simp[c_] at e;subst e;exact⟨λj h1 h2=>by simp at h2,by simp⟩
 |t::ts,u::us,k,e=>by
  cases h:eqT t u with
  |none=>simp[c_,h] at e
  |some x=>
   cases a:c_ ts us with
   |none=>simp[c_,h,a] at e
   |some y=>
    obtain⟨g,c⟩:=Ql a;simp[c_,h,a] at e;subst e;refine⟨λj h1 h2=>?_,?_⟩
    .cases j with
     |zero=>exact⟨x,h⟩
     |succ j=>exact g j (by simpa using h1) (by simpa using h2)
    .rw[c];have d:min (t::ts).length (u::us).length=min ts.length us.length+1:=by simp[Nat.succ_min_succ]
     rw[d,List.range_succ_eq_map,lT,pR];simp only[Fc,h,t_,v6,wT,gJ];rw[Bool.and_assoc];congr 2;simp
theorem c9(A:fQ):A.in1.units=A.units+1:=by first|rfl|simp[Around.in1,Around.units]
theorem Tj(I:Inv X pins σ H s)(h1:bA D φ α H (.int i) v)(h2:bA D φ α H u w)(m:RelV v a)(d:RelV w b)(e:eqT (.int i) u=aA k)(o:A.units+kB (.int i)+1<cLine):i5 A s a b k:=by
 have h1:_=V.int i:=h1;subst h1;obtain⟨n,rfl⟩:=m;cases u with
 |int j=>have h2:w=V.int j:=h2;subst h2;obtain⟨l,rfl⟩:=d;cases bQ e;exact SeqAt.EqAt.int_int _ _ _ _
 |bl j=>have h2:w=V.bl j:=h2;subst h2;cases d;cases bQ e;exact SeqAt.EqAt.int_bool _ _ _
 |str j=>have h2:w=V.str j:=h2;subst h2;obtain⟨l,rfl⟩:=d;cases bQ e;exact EI _ _ _ _
 |non=>have h2:w=V.non:=h2;subst h2;cases d;cases bQ e;exact SeqAt.EqAt.int_none _ _
 |tup g=>obtain⟨c,h,rfl,_,_,r,_⟩:=h2;cases d;obtain⟨f,_,p,_⟩:=I.tuple (.inl r);cases bQ e;exact SeqAt.EqAt.int_tuple _ _ p (by lia)
 |lst g=>obtain⟨c,h,rfl,_,_,r,_⟩:=h2;cases d;obtain⟨f,_,p,_⟩:=I.list (.inl r);cases bQ e;exact SeqAt.EqAt.int_list _ _ p.isList (by lia)
 |_=>cases e
theorem Rg(I:Inv X pins σ H s)(h1:bA D φ α H (.bl i) v)(h2:bA D φ α H u w)(m:RelV v a)(d:RelV w b)(e:eqT (.bl i) u=aA k)(n:A.units+kB (.bl i)+1<cLine):i5 A s a b k:=by
 have h1:_=V.bl i:=h1;subst h1;cases m;cases u with
 |int j=>have h2:w=V.int j:=h2;subst h2;obtain⟨l,rfl⟩:=d;cases bQ e;exact SeqAt.EqAt.bool_int _ _ _
 |bl j=>have h2:w=V.bl j:=h2;subst h2;cases d;cases bQ e;exact SeqAt.EqAt.bool_bool _ _
 |str j=>have h2:w=V.str j:=h2;subst h2;obtain⟨l,rfl⟩:=d;cases bQ e;exact SeqAt.EqAt.bool_str _ _ _
 |non=>have h2:w=V.non:=h2;subst h2;cases d;cases bQ e;exact SeqAt.EqAt.bool_none _
 |tup g=>obtain⟨c,h,rfl,_,_,r,_⟩:=h2;cases d;obtain⟨f,_,p,_⟩:=I.tuple (.inl r);cases bQ e;exact SeqAt.EqAt.bool_tuple _ p (by lia)
 |lst g=>obtain⟨c,h,rfl,_,_,r,_⟩:=h2;cases d;obtain⟨f,_,p,_⟩:=I.list (.inl r);cases bQ e;exact SeqAt.EqAt.bool_list _ p.isList (by lia)
 |_=>cases e
theorem SU(I:Inv X pins σ H s)(h1:bA D φ α H (.str i) v)(h2:bA D φ α H u w)(m:RelV v a)(d:RelV w b)(e:eqT (.str i) u=aA k)(o:A.units+kB (.str i)+1<cLine):i5 A s a b k:=by
 have h1:_=V.str i:=h1;subst h1;obtain⟨n,rfl⟩:=m;cases u with
 |int j=>have h2:w=V.int j:=h2;subst h2;obtain⟨l,rfl⟩:=d;cases bQ e;exact EH _ _ _ _
 |bl j=>have h2:w=V.bl j:=h2;subst h2;cases d;cases bQ e;exact SeqAt.EqAt.str_bool _ _ _
 |str j=>have h2:w=V.str j:=h2;subst h2;obtain⟨l,rfl⟩:=d;cases bQ e;exact SeqAt.EqAt.str_str _ _ _ _
 |non=>have h2:w=V.non:=h2;subst h2;cases d;cases bQ e;exact SeqAt.EqAt.str_none _ _
 |tup g=>obtain⟨c,h,rfl,_,_,r,_⟩:=h2;cases d;obtain⟨f,_,p,_⟩:=I.tuple (.inl r);cases bQ e;exact SeqAt.EqAt.str_tuple _ _ p (by omega)
 |lst g=>obtain⟨c,h,rfl,_,_,r,_⟩:=h2;cases d;obtain⟨f,_,p,_⟩:=I.list (.inl r);cases bQ e;exact SeqAt.EqAt.str_list _ _ p.isList (by omega)
 |_=>cases e
theorem TZ(I:Inv X pins σ H s)(h1:bA D φ α H .non v)(h2:bA D φ α H u w)(l:RelV v a)(d:RelV w b)(e:eqT .non u=aA k)(m:A.units+kB .non+1<cLine):i5 A s a b k:=by
 have h1:_=V.non:=h1;subst h1;cases l;cases u with
 |int j=>have h2:w=V.int j:=h2;subst h2;obtain⟨i,rfl⟩:=d;cases bQ e;exact SeqAt.EqAt.none_int _ _
 |bl j=>have h2:w=V.bl j:=h2;subst h2;cases d;cases bQ e;exact SeqAt.EqAt.none_bool _
 |str j=>have h2:w=V.str j:=h2;subst h2;obtain⟨i,rfl⟩:=d;cases bQ e;exact SeqAt.EqAt.none_str _ _
 |non=>have h2:w=V.non:=h2;subst h2;cases d;cases bQ e;exact tM _
 |tup g=>obtain⟨c,h,rfl,_,_,r,_⟩:=h2;cases d;obtain⟨f,_,p,_⟩:=I.tuple (.inl r);cases bQ e;exact SeqAt.EqAt.none_tuple p (by lia)
 |lst g=>obtain⟨c,h,rfl,_,_,r,_⟩:=h2;cases d;obtain⟨f,_,p,_⟩:=I.list (.inl r);cases bQ e;exact SeqAt.EqAt.none_list p.isList (by lia)
 |_=>cases e
theorem K_(I:Inv X pins σ H s)(q:∀us,u≠.tup us)(h1:bA D φ α H (.tup ts) z)(h2:bA D φ α H u w)(h:RelV z a)(g:RelV w b)(e:eqT (.tup ts) u=aA k)(v:A.units+kB (.tup ts)+1<cLine):i5 A s a b k:=by
 cases u with
 |tup us=>exact absurd rfl (q us)
 |lst us=>
  obtain⟨c,i,rfl,_,_,r,l⟩:=h1;obtain⟨d,t,rfl,_,_,n,l'⟩:=h2;cases h;cases g;obtain⟨_,_,p,_⟩:=I.tuple (.inl r);obtain⟨_,_,o,_⟩:=I.list (.inl n);cases bQ e;exact SeqAt.EqAt.tuple_list p o.isList (by lia)
 |int j=>have h2:w=V.int j:=h2;subst h2;obtain⟨m,rfl⟩:=g;obtain⟨c,i,rfl,_,_,r,_⟩:=h1;cases h;obtain⟨f,_,p,_⟩:=I.tuple (.inl r);cases bQ e;exact SeqAt.EqAt.tuple_int _ _ p (by lia)
 |bl j=>have h2:w=V.bl j:=h2;subst h2;cases g;obtain⟨c,i,rfl,_,_,r,_⟩:=h1;cases h;obtain⟨f,_,p,_⟩:=I.tuple (.inl r);cases bQ e;exact SeqAt.EqAt.tuple_bool _ p (by lia)
 |str j=>have h2:w=V.str j:=h2;subst h2;obtain⟨m,rfl⟩:=g;obtain⟨c,i,rfl,_,_,r,_⟩:=h1;cases h;obtain⟨f,_,p,_⟩:=I.tuple (.inl r);cases bQ e;exact SeqAt.EqAt.tuple_str _ _ p (by lia)
 |non=>have h2:w=V.non:=h2;subst h2;cases g;obtain⟨c,i,rfl,_,_,r,_⟩:=h1;cases h;obtain⟨f,_,p,_⟩:=I.tuple (.inl r);cases bQ e;exact SeqAt.EqAt.tuple_none p (by lia)
 |_=>cases e
theorem XD(I:Inv X pins σ H s)(q:∀us,u≠.lst us)(h1:bA D φ α H (.lst ts) z)(h2:bA D φ α H u w)(h:RelV z a)(g:RelV w b)(e:eqT (.lst ts) u=aA k)(v:A.units+kB (.lst ts)+1<cLine):i5 A s a b k:=by
 cases u with
 |lst us=>exact absurd rfl (q us)
 |tup us=>
  obtain⟨c,i,rfl,_,_,r,l⟩:=h1;obtain⟨d,t,rfl,_,_,n,l'⟩:=h2;cases h;cases g;obtain⟨_,_,p,_⟩:=I.list (.inl r);obtain⟨_,_,o,_⟩:=I.tuple (.inl n);cases bQ e;exact SeqAt.EqAt.list_tuple p.isList o (by lia)
 |int j=>have h2:w=V.int j:=h2;subst h2;obtain⟨m,rfl⟩:=g;obtain⟨c,i,rfl,_,_,r,_⟩:=h1;cases h;obtain⟨f,_,p,_⟩:=I.list (.inl r);cases bQ e;exact SeqAt.EqAt.list_int _ _ p.isList (by lia)
 |bl j=>have h2:w=V.bl j:=h2;subst h2;cases g;obtain⟨c,i,rfl,_,_,r,_⟩:=h1;cases h;obtain⟨f,_,p,_⟩:=I.list (.inl r);cases bQ e;exact SeqAt.EqAt.list_bool _ p.isList (by lia)
 |str j=>have h2:w=V.str j:=h2;subst h2;obtain⟨m,rfl⟩:=g;obtain⟨c,i,rfl,_,_,r,_⟩:=h1;cases h;obtain⟨f,_,p,_⟩:=I.list (.inl r);cases bQ e;exact SeqAt.EqAt.list_str _ _ p.isList (by lia)
 |non=>have h2:w=V.non:=h2;subst h2;cases g;obtain⟨c,i,rfl,_,_,r,_⟩:=h1;cases h;obtain⟨f,_,p,_⟩:=I.list (.inl r);cases bQ e;exact SeqAt.EqAt.list_none p.isList (by lia)
 |_=>cases e
def sM (D:DP)(φ α:List aF)(H:Hp)(s:bB)(n:Nat):Prop:=∀(t u:T) (v w:V) (a b:aD) (k:Bool) (A:fQ),kB t<n->bA D φ α H t v->bA D φ α H u w->RelV v a->RelV w b->eqT t u=aA k->A.units+kB t+1<cLine->i5 A s a b k
theorem vR(k:sM D φ α H s n):∀{ts us:List T}{xs ys:List V}{its a:List aD}{A:fQ},wG ts<n->aM D φ α H ts xs->aM D φ α H us ys->aY xs its->aY ys a->A.units+wG ts+1<cLine->
  ∀(j:Nat) (h1:j<its.length) (h2:j<a.length),(∀(o:j<ts.length) (m:j<us.length),∃b,eqT ts[j] us[j]=aA b)->i5 A s its[j] a[j] (match ts[j]?,us[j]? with|some t,aA u=>(eqT t u).getD aC|_,_=>aC)
 |[],_,xs,_,its,_,A,_,l,_,d,_,_,j,h1,_,_=>by
  have l:xs=[]:=l;subst l;cases d;simp at h1
 |t::ts,us,xs,ys,its,a,A,hd,l,l',d,c,y,j,h1,h2,g=>by
  obtain⟨v,r,rfl,B,l⟩:=l;cases d with
  | @cons _ C _ p x d=>
  cases us with
  |nil=>
   have l':ys=[]:=l';subst l';cases c;simp at h2
  |cons u us=>
   obtain⟨w,E,rfl,z,l'⟩:=l';cases c with
   | @cons _ q _ i f c=>
   simp only[wG] at y hd;cases j with
   |zero=>
    obtain⟨b,h⟩:=g (by simp) (by simp);have e:eqT t u=aA b:=by simpa using h
    simp only[Fc,e,t_,List.getElem_cons_zero];exact k _ _ _ _ _ _ _ _ (by omega) B z x f e (by omega)
   |succ j=>
    simp only[wT,List.getElem_cons_succ];exact vR k (by omega) l l' d c (by omega) j (by simpa using h1) (by simpa using h2) λo m=>by
     obtain⟨b,h⟩:=g (by simpa using o) (by simpa using m);exact⟨b,by simpa using h⟩
theorem WM(I:Inv X pins σ H s)(v:sM D φ α H s n)(hd:wG ts<n)(l:aM D φ α H ts xs)(l':aM D φ α H us ys)(r:Rd H c (.tup xs))(i:Rd H d (.tup ys))(e:c_ ts us=aA k)(B:A.units+wG ts+2<cLine):pH A s (.ref c) (.ref d) k:=by
 obtain⟨f,h,p,_⟩:=I.tuple (.inl r);obtain⟨b,a,q,_⟩:=I.tuple (.inl i);obtain⟨g,rfl⟩:=Ql e;have x:ts.length=f.length:=l.length.trans h.length;have w:us.length=b.length:=l'.length.trans a.length;have:=SeqAt.RcAt.tuples (A:=A) (e:=λj=>match ts[j]?,us[j]? with|some t,aA u=>(eqT t u).getD aC|_,_=>aC) p q (by omega) λj o m=>by
  have:=vR (A:=A.in1) v hd l l' h a (by rw[c9];omega) j (by simpa using o) (by simpa using m) λz y=>g j z y;simpa using this
 simpa[x,w] using this
theorem We(I:Inv X pins σ H s)(x:sM D φ α H s n)(hd:wG ts<n)(l:aM D φ α H ts xs)(l':aM D φ α H us ys)(r:Rd H c (.lst xs))(q:Rd H d (.lst ys))(e:c_ ts us=aA k)(C:A.units+wG ts+2<cLine):pH A s (.ref c) (.ref d) k:=by
 obtain⟨f,i,p,_⟩:=I.list (.inl r);obtain⟨b,a,m,_⟩:=I.list (.inl q);obtain⟨g,rfl⟩:=Ql e;have F:ts.length=f.length:=l.length.trans i.length;have E:us.length=b.length:=l'.length.trans a.length;by_cases o:ts.length=us.length
 .have:=SeqAt.RcAt.lists (A:=A) (e:=λj=>match ts[j]?,us[j]? with|some t,aA u=>(eqT t u).getD aC|_,_=>aC) p.isList m.isList (by simp;lia) (by lia) λj w v=>by
   have:=vR (A:=A.in1) x hd l l' i a (by rw[c9];lia) j (by simpa using w) (by simpa using v) λz y=>g j z y;simpa using this
  have B:min ts.length us.length=f.length:=by lia
  have h:(ts.length==us.length)=aB:=by simpa using o
  rw[B,h,DK];simpa using this
 .have h:(ts.length==us.length)=aC:=by simpa using o
  rw[h,pV];exact SeqAt.RcAt.lists_lengths p.isList m.isList (by simp;lia) (by lia)
theorem VC(I:Inv X pins σ H s):∀n,sM D φ α H s n
 |0=>λ_ _ _ _ _ _ _ _ p=>absurd p (by omega)
 |n+1=>λt u v w a b k A p h g m j e o=>by
  have B:=VC I n;cases t with
  |int i=>exact Tj I h g m j e o
  |bl i=>exact Rg I h g m j e o
  |str i=>exact SU I h g m j e o
  |non=>exact TZ I h g m j e o
  |tup G=>
   cases u with
   |tup F=>
    have y:=λ(q:w=v)=>Zk h (q▸g) e;obtain⟨c,E,rfl,_,_,r,l⟩:=h;obtain⟨d,C,rfl,_,_,x,l'⟩:=g;cases m;cases j;by_cases f:c=d
    .subst f;rw[y rfl];exact tM _
    .refine Eo f ?_;exact WM I B (by simp only[kB] at p;omega) l l' r x e (by simp only[kB] at o;omega)
   |_=>exact K_ I (by intro _ z;cases z) h g m j e o
  |lst G=>
   cases u with
   |lst F=>
    have y:=λ(q:w=v)=>Zk h (q▸g) e;obtain⟨c,E,rfl,_,_,r,l⟩:=h;obtain⟨d,C,rfl,_,_,x,l'⟩:=g;cases m;cases j;by_cases f:c=d
    .subst f;rw[y rfl];exact tM _
    .refine Eo f ?_;exact We I B (by simp only[kB] at p;omega) l l' r x e (by simp only[kB] at o;omega)
   |_=>exact XD I (by intro _ z;cases z) h g m j e o
  |_=>cases e
theorem Sd(I:Inv X pins σ H s)(l:aM D φ α H ts xs)(l':aM D φ α H us ys)(r:Rd H c (.tup xs))(a:Rd H d (.tup ys))(e:c_ ts us=aA k)(b:A.units+wG ts+2<cLine):pH A s (.ref c) (.ref d) k:=WM I (VC I _) (mo _) l l' r a e b
theorem TN(I:Inv X pins σ H s)(l:aM D φ α H ts xs)(l':aM D φ α H us ys)(r:Rd H c (.lst xs))(a:Rd H d (.lst ys))(e:c_ ts us=aA k)(b:A.units+wG ts+2<cLine):pH A s (.ref c) (.ref d) k:=We I (VC I _) (mo _) l l' r a e b
theorem Zs(I:Inv X pins σ H s):∀{ts us:List T}{xs ys:List V}{its a:List aD}{A:fQ},aM D φ α H ts xs->aM D φ α H us ys->aY xs its->aY ys a->A.units+wG ts+1<cLine->
  ∀(j:Nat) (h1:j<its.length) (h2:j<a.length),(∀(g:j<ts.length) (f:j<us.length),∃b,eqT ts[j] us[j]=aA b)->i5 A s its[j] a[j] (match ts[j]?,us[j]? with|some t,aA u=>(eqT t u).getD aC|_,_=>aC):=λl l' d c e=>vR (VC I _) (mo _) l l' d c e
theorem S2(I:Inv X pins σ H s)(l:aM D φ α H ts xs)(l':aM D φ α H us ys)(r:Rd H c (.tup xs))(i:Rd H d (.tup ys))(e:c_ ts us=aA k)(y:A.units+wG ts+2<cLine):DI A s (.ref c) (.ref d) (!k):=by
 obtain⟨f,h,p,_⟩:=I.tuple (.inl r);obtain⟨b,a,o,_⟩:=I.tuple (.inl i);obtain⟨g,rfl⟩:=Ql e;have v:ts.length=f.length:=l.length.trans h.length;have q:us.length=b.length:=l'.length.trans a.length;have:=IC (A:=A) (e:=λj=>match ts[j]?,us[j]? with|some t,aA u=>(eqT t u).getD aC|_,_=>aC) p o (by lia) λj n m=>by
  have:=Zs (A:=A.in1) I l l' h a (by rw[c9];lia) j (by simpa using n) (by simpa using m) λx w=>g j x w;simpa using this
 simpa[v,q] using this
theorem R6(I:Inv X pins σ H s)(l:aM D φ α H ts xs)(l':aM D φ α H us ys)(r:Rd H c (.lst xs))(o:Rd H d (.lst ys))(e:c_ ts us=aA k)(z:A.units+wG ts+2<cLine):DI A s (.ref c) (.ref d) (!k):=by
 obtain⟨f,i,p,_⟩:=I.list (.inl r);obtain⟨b,a,m,_⟩:=I.list (.inl o);obtain⟨g,rfl⟩:=Ql e;have C:ts.length=f.length:=l.length.trans i.length;have B:us.length=b.length:=l'.length.trans a.length;by_cases n:ts.length=us.length
 .have:=Iz (A:=A) (e:=λj=>match ts[j]?,us[j]? with|some t,aA u=>(eqT t u).getD aC|_,_=>aC) p.isList m.isList (by simp;lia) (by lia) λj v q=>by
   have:=Zs (A:=A.in1) I l l' i a (by rw[c9];lia) j (by simpa using v) (by simpa using q) λx w=>g j x w;simpa using this
  have y:min ts.length us.length=f.length:=by lia
  have h:(ts.length==us.length)=aB:=by simpa using n
  rw[y,h,DK];simpa using this
 .have h:(ts.length==us.length)=aC:=by simpa using n
  rw[h,pV];exact IQ p.isList m.isList (by simp;lia) (by lia)
end
end
def WP (D:DP)(f:Fn):Sp:=λh H Q E=>∃a c e d,aM D a c H e h/\aL D a c H d/\aJ D (eQ E) a c H [] (λt _ b g=>∀v,bA D a b g t v->Q v g) (f e d)
def eR (D:DP)(n:Nat)(f:Fn):Sp:=λa H Q E=>a.length=n/\WP D f a H Q E
def Xq (D:DP)(t:Nat)(u:aD):Prop:=
 (t=0/\u=.type "NoneType")\/(t=1/\u=.type "bool")\/(t=2/\u=.type "int")\/(t=3/\u=.type "str")\/(t=4/\u=.type "tuple")\/(t=5/\u=.type "list")\/(∃C,D.adr t=aA C/\u=.ref C)\/(t=6/\u=.type "dict")\/(∃C,D.cad t=aA C/\u=.ref C)
noncomputable def Zy(mg:aH->Option aD)(c:aH)(u:aD):Prop:=mg c=aA u\/(mg c=aE/\hV c=aA u/\c≠"__name__")
abbrev B7(X:Cx)(c:aH)(u:aD):Prop:=Zy X.mg c u
noncomputable def gG(v:V)(u:aD):Prop:=(∃C,v=.ref C/\u=.ref C)\/∃n,v=.ty n/\u=.type n
theorem gG.rel(h:gG v u):L2.RelV v u:=by
 rcases h with⟨C,rfl,rfl⟩|⟨n,rfl,rfl⟩<;>rfl
theorem gG.only(h:gG v u)(r:L2.RelV v d):d=u:=by
 rcases h with⟨C,rfl,rfl⟩|⟨n,rfl,rfl⟩<;>exact r
structure pd(K:PySem.W.Frag)(C:aF):Prop where
 ga:c7 K (.ref C) "__getattribute__"=aA (aA (.builtin "BaseException.__getattribute__"))
 hk:c7 K (.ref C) "__getattr__"=aA aE
 fi:c7 K (.ref C) "__class__"=aA (aA (.builtin "object.__class__"))
 sp:mw K (.builtin "object.__class__") "__get__"=aA (aA (.builtin "getset_descriptor.__get__"))
 tk:rk K (.builtin "object.__class__")=aA aB
 ob:im K C (.type "object")=aA aB
 bx:im K C (.type "BaseException")=aA aB
 nb:im K C (.type "KeyError")=aA aC/\im K C (.type "ZeroDivisionError")=aA aC
 cl:(nR K C).isSome=aB
structure mH(K:PySem.W.Frag)(C:aF):Prop where
 cl:gR K C
 fi:c7 K (.ref C) "__class__"=aA (aA (.builtin "object.__class__"))
 sp:mw K (.builtin "object.__class__") "__get__"=aA (aA (.builtin "getset_descriptor.__get__"))
 tk:rk K (.builtin "object.__class__")=aA aB
 ob:im K C (.type "object")=aA aB
abbrev zT:List aD:=[.type "ValueError",.type "Exception",.type "BaseException",.type "object"]
def FOk (D:DP)(P:cI)(w:eE)(K:bO)(mg:aH->Option aD)(base:aV)(k:Nat)(fa:aF)(f:Fn):Prop:=
 ∃fd a c,eP K (.ref fa)=aB/\Binds K fd a []/\c<=k/\bS P w K mg base (dB P w) c fa fd a (eR D a.length f)/\∀b d K Z,f b d K Z->b.length=a.length
structure iC(k:Nat)(A:Around):Prop where
 dp:A.depth+3*k+5<recursionLimit
 un:A.units+16*k+200<cLine
theorem iC.units{k:Nat}(r:iC k A):A.units+64<cLine:=by have:=r.un;lia
def uY (x C:aF):aV->Prop:=λh=>∃t,h.get? x=aA {cls:=.ref C,data:=.fields #[.ref t,.none,.none,.none,.bool aC,.none]}
def ZA(x C dx:aF):aV->Prop:=λh=>∃t,h.get? x=aA {cls:=.ref C,dict:=aA dx,data:=.fields #[.ref t,.none,.none,.none,.bool aC,.none]}
structure iA(K:PySem.W.Frag)(C HE fI:aF)(fl:aH):Prop where
 cls:∃N nm q bs hd sn sub ab col dd k0 k1 k2 k3 k5,K.lookup C=aA (iL nm q C N bs (.ref HE::zT) hd sn sub ab col dd k0 k1 k2 k3 k5 "ValueError.__new__")/\sQ K N=aB/\mY K N "__init__"=aA (aA (.ref fI))
 he:fA K HE zT "ValueError.__new__"=aB
 fn:sR K (.ref fI)=aA (.type "function")
 sa:c7 K (.ref C) "__setattr__"=aA (aA (.builtin "object.__setattr__"))
 no:c7 K (.ref C) fl=aA aE
 dct:mi K C=aB
 kp:eP K (.ref C)=aB
def oZ (C:aF)(fl:aH):Sp:=λa H Q E=>∃(x:aF) (i:Int),a=[.ref x,.int i]/\i.natAbs.log2<1920/\H x=aA (.ext (uY x C))/\∀dx,H dx=aE->dx≠x->Q .non (upd (upd H x (.ext (ZA x C dx))) dx (.xd [(fl,.int i)]))
def LK (t:T):Prop:=t=.clo 0 [.clo 100 []]\/t=.clo 1 []\/t=.clo 2 [.clo 101 []]
noncomputable def bP.fb(l:bP):FuncBody:=match l.sb with|none=>.expr l.body|some q=>.stmts q.2
noncomputable def bP.nm(l:bP):aH:=match l.sb with|none=>"<lambda>" | some q=>q.1
abbrev Ce(name qual:aH)(params:Arguments)(fb:FuncBody)(scope:Scope)(cl:List (aH×aF))(doc b a ct:aD):FuncData:=
 {name,qualname:=qual,params,body:=fb,scope,globals:=bT,closure:=cl,defaults:=.none,kwdefaults:=.none,doc:=doc,pyModule:=b,annotations:=aE,code:=a,closureTuple:=ct,builtins:=lM}
def yf(a c:aF)(l:bP)(cl:List (aH×aF)):aV->Prop:=λh=>∃(f:Pos) (e d b:aD),h.get? a=aA {cls:=.type "function",data:=.func (Ce l.nm l.qn ⟨[],[⟨l.y,aE,f⟩],aE,[],[],aE,[]⟩ l.fb l.sc cl b e (.ref c) d)}
noncomputable def U4(fr:List aH)(cl:List (aH×aF))(cs:List aF):Prop:=fr.map (λx=>cl.lookup x)=cs.map aA/\cs.Nodup/\∀x a,cl.lookup x=aA a->x∈fr
def MI(D:DP)(P:cI)(w:eE)(K:bO)(mg:aH->Option aD)(base:aV)(k:Nat)(ls:List bP):Prop:=
 ∀(j:Nat) (l:bP) (p:List T) (i m:List aF) (H:Hp) (v:V),ls[j]?=aA l->bA D i m H (UK j l.jt p) v->∃(a:aF) (r:Nat),v=.ref a/\r<=k/\∀(A:fQ) (f:List Env) (s:bB),dZ P w K mg base A f s H->PySem.W.FnAt a s.heap/\(bZ r A->
  ∀(u:aD) (x:V) (Q:VK) (t:T) (n:Mem) (z:T->Mem->Prop) (y:Xp) (E:XK),RelV x u->bA D i m H t x->aL D i m H n->l.g (aA t::p.map aA) n z y->(∀q e,z q e->∀b h o,aQ m H b h->aL D i b h e->bA D i b h q o->Q o h)->(∀c fs e,y c fs e->∀b h cv d,aQ m H b h->aL D i b h e->iU D c fs cv->cB D i b h fs d->E cv d h)->
  gz (aS P w) A (.call (.ref a) ⟨[u],[]⟩) (CR (dB P w) f P w H s Q E) s)
structure l6(D:DP)(ls:List bP):Prop where
 tb:∀(j:Nat) (l:bP),ls[j]?=aA l->∃P' pos,D.tabs l.jt=aA (P',pos,l.qn)
 fn:∀(j:Nat) (l:bP) (a c:aF) (cl:List (aH×aF)) (cs:List aF),ls[j]?=aA l->U4 l.fr cl cs->D.clo (300+j) a (aA (.ext (yf a c l cl))) (.ref c::cs.map V.ref)
 ce:∀c (o:bF) u x ob,o.data=.cell (aA u)->RelV x u->D.clo 200 c (aA (.frz o ob)) [x]
 co:∀j P' pos qn c,D.tabs j=aA (P',pos,qn)->D.clo (100+j) c (aA (.ext (w6 c qn))) []
def cC(D:DP)(P:cI)(w:eE)(K:bO)(mg:aH->Option aD)(base:aV)(k:Nat)(x:aH):GM->Prop
 |.fn f=>∃fa,mg x=aA (.ref fa)/\FOk D P w K mg base k fa f
 |.met c nm f=>∃C e fd b d,D.cad c=aA C/\gR K C/\px K C nm e/\(∀i,D.fn i≠aA nm)/\Binds K fd b []/\d<=k/\bS P w K mg base (dB P w) d e fd b (eR D b.length f)/\∀g j K Z,f g j K Z->g.length=b.length
 |.mk c _ f=>∃C e fd b d,D.cad c=aA C/\mg x=aA (.ref C)/\Mk K C e/\Binds K fd b []/\d+1<=k/\bS P w K mg base (dB P w) d e fd b (eR D b.length f)/\∀g j K Z,f g j K Z->g.length=b.length
 |.cst t=>∃u v,mg x=aA u/\RelV v u/\∀n o H,bA D n o H t v
 |.xcl c=>∃C,D.adr c=aA C/\mg x=aA (.ref C)/\fA K C zT "ValueError.__new__"=aB
 |.xcf c _=>∃C,D.adr c=aA C/\mg x=aA (.ref C)
 |.xin c f nm fl=>∃C q e fd b d,D.adr c=aA C/\mg nm=aA (.ref C)/\D.fn f=aA fl/\iA K C q e fl/\Binds K fd b []/\d+1<=k/\bS P w K mg base (dB P w) d e fd b (oZ C fl)
 |.kap ls=>MI D P w K mg base k ls/\l6 D ls
 |.tbl l=>∃a m,mg x=aA (.ref a)/\(a==gS)=aC/\KV (l.map λp=>((.inr p.1:Key),V.int p.2)) m/\∀h:aV,K.In h->h.DictOf (zD P w) a m
 |.none=>mg x=aE
 |.bad=>True
abbrev Gc(D:DP)(X:Cx)(k:Nat)(x:aH)(g:GM):Prop:=cC D X.prog X.w X.K X.mg X.base k x g
structure Cn where
 N:List aH
 G:List aH
 calm:Bool
 gl:aH->GM
 cls:List (aH×Nat)
 fld:List (aH×Nat)
 U:List aH
 cel:List aH
 own:List aH
 lam:Option (Nat×List Pos):=aE
 lnm:aH:="<lambda>"
 fz:List aH:=[]
noncomputable def Cn.sto(Γ:Cn):List aH:=Γ.N.filter λx=>!Γ.fz.contains x
noncomputable def Cn.look(Γ:Cn)(x:aH):GM:=if Γ.G.contains x then Γ.gl x else .bad
def cZ(D:DP)(mg:aH->Option aD)(base:aV)(code:aD)(qual:aH)(k:Nat)(l:Option (Nat×List Pos))(nm:aH):Prop:=∀j a,l=aA (j,a)->2<=k/\∃c P,code=.ref c/\lN base c P/\base.BuiltinsAt mg P/\D.tabs j=aA (P,a,qual++nm)
theorem cZ.no{code:aD}(h:l=aE):cZ D mg base code qual k l nm:=λj pos e=>by rw[h] at e;cases e
structure Ck(D:DP)(W:XW)(Γ:Cn)(X:Cx)(k:Nat):Prop where
 hK:X.K=D.K
 hN:X.N=Γ.N
 nd:Γ.N.Nodup
 vis:∀x∈Γ.N,iB X.env.scope x
 dbg:∀x∈Γ.N,(x==("__debug__":aH))=aC/\(x==("__classdict__":aH))=aC
 dbG:∀x∈Γ.G,(x==("__debug__":aH))=aC
 glb:∀x∈Γ.G,Gl X x
 glo:∀x∈Γ.G,Gc D X k x (Γ.gl x)
 glU:∀x∈Γ.U,Gc D X k x (Γ.gl x)/\(x==("__debug__":aH))=aC
 cel:∀x∈Γ.cel,X.env.kindOf x=aA .cell\/X.env.kindOf x=aA .free
 isi:∀t x c,(x,c)∈Γ.cls->∀u v,Xq D t u->B7 X x v->pU X.K u v=aA (je t c)
 fld:∀c C x f,D.cad c=aA C->(x,f)∈Γ.fld->D.fn f=aA x/\gR X.K C/\cH X.K C x
 xcx:∀c C,D.adr c=aA C->pd X.K C
 ocx:∀c C,D.cad c=aA C->mH X.K C
 clv:∀x c,(x,c)∈Γ.cls->∃u v,B7 X x u/\gG v u
 clm:Γ.calm=aB->X.calm=aB
 rom:Γ.calm=aB->bZ k X.A
 rmh:iC k X.A
 xe:∀e s,XP X W e s->X.xe e s
 frm:∃e0 out L,ly X e0 out L
 lam:cZ D X.mg X.base X.env.code X.env.qual k Γ.lam Γ.lnm
 kfz:Γ.lam.isSome=aB->∀x∈Γ.fz,X.fn x=aC/\∀c,X.env.cells.lookup x=aA c->X.s₀.heap.objs.size<=c
theorem Ck.unt{W:XW}(C:Ck D W Γ X k):X.A.units+64<cLine:=C.rmh.units
theorem vT:∀{N:List aH}{x:aH}{i:Nat},cJ N x=aA i->N[i]?=aA x
 |[],_,_,h=>by simp[cJ] at h
 |y::r,x,i,h=>by
  simp only[cJ] at h;split at h
  .rename_i e;cases h;simp[e]
  .cases q:cJ r x with
   |none=>rw[q] at h;cases h
   |some j=>rw[q] at h;cases h;simpa using vT q
theorem wW(h:cJ N x=aA i):x∈N:=bK (vT h)
section
variable {X:Cx}{D:DP}{W:XW}{Γ:Cn}{k:Nat}{pins:List (aF×bF)}{s:Shared}{σ:St}{H:Hp}{φ α:List aF}{τ:Sl}{μ:Mem}{f g h:De}{a b c:aI}{pos:Pos}
theorem PE.mono(h:PE X e t)(m:∀σ H Q,t' σ H Q->t σ H Q):PE X e t':=λa s σ H Q I q=>h a s σ H Q I (m σ H Q q)
theorem M4{i j pos}:PE X (.Constant (.int i) j pos) (aU D W (eC (.int i))):=PE.mono Nl λd H Q ⟨b,f,c,e,g,a,p⟩=>aJ.here p a rfl
theorem Mb{i j pos}:PE X (.Constant (.bool i) j pos) (aU D W (eC (.bl i))):=PE.mono Mu λd H Q ⟨b,f,c,e,g,a,p⟩=>aJ.here p a rfl
theorem MT{j pos}:PE X (.Constant .none j pos) (aU D W (eC .non)):=PE.mono Ny λd H Q ⟨b,f,c,e,g,a,p⟩=>aJ.here p a rfl
theorem OD{i j pos}:PE X (.Constant (.str i) j pos) (aU D W (eC (.str i))):=PE.mono Vt λd H Q ⟨b,f,c,e,g,a,p⟩=>aJ.here p a rfl
theorem OB(C:Ck D W Γ X k)(hi:cJ Γ.N x=aA i):PE X (.Name x pos) (aU D W (eV i)):=by
 refine PE.mono (ug (i:=i) (by rw[C.hN];exact vT hi) (C.vis x (wW hi)) (C.dbg x (wW hi)).1 (C.dbg x (wW hi)).2) ?_;rintro g H Q ⟨c,j,f,h,a,b,p⟩;dsimp only[eV] at p;split at p
 .rename_i t e;obtain⟨v,q,d⟩:=a.get e;exact⟨v,q,p.here b d⟩
 .exact p.elim
theorem Og(C:Ck D W Γ X k)(a:x∈Γ.G)(ht:Γ.gl x=.cst t):PE X (.Name x pos) (aU D W (eC t)):=by
 have g:=C.glo x a;rw[ht] at g;obtain⟨u,v,c,r,d⟩:=g;exact PE.mono (Yb (C.glb x a) c r (C.dbG x a)) λh H Q ⟨e,j,f,i,l,b,p⟩=>aJ.here p b (d _ _ _)
theorem Oa(z:PE X a (aU D W f))(hb:PE X b (aU D W g)):PE X (.BinOp a op b pos) (aU D W (zd op f g)):=by
 rintro i s J H Q I ⟨F,L,G,K,q,y,p⟩;refine wpAny_BinOp (aW (sub z I q y p) ?_);rintro u R ⟨v,T,t,k,m,E,w,n,d,h,B,p1⟩;refine aW (sub hb E d h p1) ?_;rintro N P ⟨M,S,O,j,l,C,r,c,o,e,A,x⟩;exact N7 C e (B.step c) A w r x
theorem Ng(n:PE X a (aU D W f)):PE X (.UnaryOp .USub a pos) (aU D W (FW f)):=by
 rintro b s d H Q I ⟨w,z,x,y,j,m,p⟩;refine UnaryOp_ (aW (sub n I j m p) ?_);rintro u k ⟨v,r,t,e,g,q,l,h,i,c,o,p1⟩;try dsimp only at p1
 split at p1
 .cases o;exact OU b k d r _ _ Q q l ⟨_,rfl,p1.here c rfl⟩
 .exact p1.elim
theorem NF(m:PE X a (aU D W f)):PE X (.UnaryOp .Not a pos) (aU D W (As f)):=by
 rintro d s x H Q I ⟨r,z,w,y,j,l,p⟩;refine UnaryOp_ (aW (sub m I j l p) ?_);rintro u A ⟨v,q,t,e,g,o,k,h,i,c,n,p1⟩;try dsimp only at p1
 split at p1
 .rename_i b;cases n;cases k;exact not_of (wpAny_truthy_bool ⟨.bl (!b),q,o,rfl,p1.here c rfl⟩)
 .exact p1.elim
theorem N8(b:PE X a (aU D W f)):PE X (.BoolOp op [a] pos) (aU D W f):=MS b
theorem Nu(z:PE X a (aU D W f))(hb:PE X (.BoolOp .And (b::r) pos) (aU D W g)):PE X (.BoolOp .And (a::b::r) pos) (aU D W (QB f g)):=by
 rintro c s n H Q I ⟨l,C,m,B,q,y,p⟩;refine BoolOp_and (aW (sub z I q y p) ?_);rintro u w ⟨v,k,t,e,h,j,x,o,i,d,A,p1⟩;try dsimp only at p1
 split at p1
 .cases A;cases x;rcases p1.br with⟨rfl,p1⟩|⟨rfl,p1⟩
  .exact wpAny_truthy_bool (hb c w n k Q j ⟨l,h,m,e,i,d,p1⟩)
  .exact wpAny_truthy_bool ⟨.bl aC,k,j,rfl,p1.here d rfl⟩
 .exact p1.elim
theorem L0(z:PE X a (aU D W f))(hb:PE X (.BoolOp .Or (b::r) pos) (aU D W g)):PE X (.BoolOp .Or (a::b::r) pos) (aU D W (CT f g)):=by
 rintro c s n H Q I ⟨l,C,m,B,q,y,p⟩;refine BoolOp_or (aW (sub z I q y p) ?_);rintro u w ⟨v,k,t,e,h,j,x,o,i,d,A,p1⟩;try dsimp only at p1
 split at p1
 .cases A;cases x;rcases p1.br with⟨rfl,p1⟩|⟨rfl,p1⟩
  .exact wpAny_truthy_bool ⟨.bl aB,k,j,rfl,p1.here d rfl⟩
  .exact wpAny_truthy_bool (hb c w n k Q j ⟨l,h,m,e,i,d,p1⟩)
 .exact p1.elim
theorem Nq{b:Bool}(c:bA D φ α H x v)(a:bA D φ α H y w)(h:Cq x y=aA b):r_ v w=aB/\decide (v=w)=b:=by
 unfold Cq at h
 split at h<;>first
  |(cases h;cases c;cases a;exact⟨rfl,by simp⟩)
  |cases h
theorem HN{b:Bool}{C:Prop}{x:T}{v w:V}(I:Inv X pins σ H s)(G:X.A.units+64<cLine)(B:aL D φ α H μ)(z:bA D φ α H x v)(t:bA D φ α H y w)(p:aJ D W φ α H σ (RV D φ Q) (sC x y μ kk))
  (h1:∀b,aJ D W φ α H σ (RV D φ Q) (kk b)->r_ v w=aB/\decide (v=w)=b->C)
  (h2:∀b,aJ D W φ α H σ (RV D φ Q) (kk b)->((∀u j,RelV v u->RelV w j->∀{R:aD->bB->Prop},R (.bool b) s->wpAny (aS X.prog X.w) X.A (fC .Eq u j) R X.xe s)/\(∀u j,RelV v u->RelV w j->∀{R:aD->bB->Prop},R (.bool (!b)) s->wpAny (aS X.prog X.w) X.A (fC .NotEq u j) R X.xe s))->C):C:=by
 have lst:∀{m k:List T}{c d:aF}{i h:List V},v=.ref c->w=.ref d->Rd H c (.lst i)->Rd H d (.lst h)->aM D φ α H m i->aM D φ α H k h->aJ D W φ α H σ (RV D φ Q) (RE.grd (wG m<=40) (.som (c_ m k) kk))->C:=λ{m k c d i h} o n r f l l' p=>by
  obtain⟨hd,p⟩:=p.grd;obtain⟨b,g,p⟩:=p.som;subst o n;exact h2 b p ⟨λu j e a R q=>by cases e;cases a;exact TN I l l' r f g (by lia) _ _ _ _ q,λu j e a R q=>by cases e;cases a;exact R6 I l l' r f g (by lia) _ _ _ _ q⟩
 unfold sC at p;split at p
 .obtain⟨hd,p⟩:=p.grd;obtain⟨b,g,p⟩:=p.som;obtain⟨c,i,rfl,_,_,r,l⟩:=z;obtain⟨d,h,rfl,_,_,f,l'⟩:=t;exact h2 b p ⟨λu j e a R q=>by cases e;cases a;exact Sd I l l' r f g (by lia) _ _ _ _ q,λu j e a R q=>by cases e;cases a;exact S2 I l l' r f g (by lia) _ _ _ _ q⟩
 .obtain⟨k,E,p⟩:=p.ex1;obtain⟨c,F,n⟩:=t;obtain⟨i,q,l⟩:=B.ob _ c _ F E;obtain⟨d,h,o,_,_,f,l'⟩:=z;exact lst o n f (.inl q) l' l p
 .split at p
  .rename_i g;exact h1 _ p (Nq z t g)
  .exact p.elim
theorem Vl{x:T}{v w:V}{d:aD}{Q:VK}(I:Inv X pins σ H s)(l:X.A.units+64<cLine)(c:aL D φ α H μ)(a:bA D φ α H x v)(g:bA D φ α H y w)(f:RelV v j)(e:RelV w d)
  (p:aJ D W φ α H σ (RV D φ Q) (QK op x y μ)):wpAny (aS X.prog X.w) X.A (fC op j d) (EP X pins σ Q) X.xe s:=by
 unfold QK at p;split at p
 .refine HN (b:=aB) I l c a g p (λb q h=>?_) (λb q h=>?_)
  .obtain⟨k,i⟩:=h;exact Mh pins s σ H v w j d Q I f e ⟨k,by rw[i];exact aJ.here q c rfl⟩
  .exact h.1 _ _ f e ⟨.bl b,H,I,rfl,aJ.here q c rfl⟩
 .refine HN (b:=aC) I l c a g p (λb q h=>?_) (λb q h=>?_)
  .obtain⟨k,i⟩:=h;exact MD pins s σ H v w j d Q I f e ⟨k,by rw[i];exact aJ.here q c rfl⟩
  .exact h.2 _ _ f e ⟨.bl (!b),H,I,rfl,aJ.here q c rfl⟩
 .unfold Ia at p;split at p
  .cases a;cases g;exact MC pins s σ H _ _ j d Q I f e ⟨_,_,rfl,rfl,aJ.here p c rfl⟩
  .exact p.elim
 .split at p
  .cases a;cases g;exact Mc pins s σ H _ _ j d Q I f e ⟨_,_,rfl,rfl,p.here c rfl⟩
  .exact p.elim
 .split at p
  .cases a;cases g;exact L1 pins s σ H _ _ j d Q I f e ⟨_,_,rfl,rfl,p.here c rfl⟩
  .exact p.elim
 .split at p
  .cases a;cases g;exact L4 pins s σ H _ _ j d Q I f e ⟨_,_,rfl,rfl,p.here c rfl⟩
  .exact p.elim
 .split at p
  .cases g;refine OS pins s σ H _ _ j d Q I f e ⟨rfl,?_⟩;have q:=p.here c rfl
   cases x<;>first
    |(have a:v=_:=a;subst a;simpa using q)
    |(obtain⟨_,_,rfl,_⟩:=a;simpa using q)
    |(obtain⟨_,_,_,_,rfl,_⟩:=a;simpa using q)
    |(obtain⟨_,_,rfl⟩:=a;simpa using q)
    |(obtain⟨_,_,_,rfl,_⟩:=a;simpa using q)
  .exact p.elim
 .split at p
  .cases g;refine P_ pins s σ H _ _ j d Q I f e ⟨rfl,?_⟩;have q:=p.here c rfl
   cases x<;>first
    |(have a:v=_:=a;subst a;simpa using q)
    |(obtain⟨_,_,rfl,_⟩:=a;simpa using q)
    |(obtain⟨_,_,_,_,rfl,_⟩:=a;simpa using q)
    |(obtain⟨_,_,rfl⟩:=a;simpa using q)
    |(obtain⟨_,_,_,rfl,_⟩:=a;simpa using q)
  .exact p.elim
 .split at p
  .have a:v=.str _:=a;have g:w=.str _:=g;subst a g;exact Ue pins s σ H _ _ j d Q I f e ⟨_,_,rfl,rfl,p.here c rfl⟩
  .exact p.elim
 .exact p.elim
noncomputable def qD:aI->Bool
 |.Name _ _=>aB
 |.Constant _ _ _=>aB
 |.BinOp _ _ _ _=>aB
 |.UnaryOp _ _ _=>aB
 |.Call _ _ _ _=>aB
 |.Subscript _ _ _=>aB
 |.Attribute _ _ _=>aB
 |_=>aC
noncomputable def vI:aI->Bool
 |.Set _ _ _=>aC
 |_=>aB
noncomputable def yI:eM->Bool
 |.In=>aC|.NotIn=>aC
 |_=>aB
def jL(op:eM)(b:aI):Bool:=yI op || vI b
noncomputable def xH:eM->Bool
 |.Lt=>aB|.LtE=>aB|.Gt=>aB|.GtE=>aB|.Eq=>aB|.NotEq=>aB
 |_=>aC
theorem kI(h:jL op b=aB):tS op b=aC:=by
 cases a:yI op with
 |true=>exact Hh b (by rintro rfl;simp[yI] at a) (by rintro rfl;simp[yI] at a)
 |false=>
  have c:vI b=aB:=by unfold jL at h;rw[a] at h;exact h
  cases b<;>first|rfl|(simp[vI] at c)
theorem OE(C:Ck D W Γ X k)(ho:jL op b=aB)(A:PE X a (aU D W f))(hb:PE X b (aU D W g)):PE X (.Compare a [op] [b] pos) (aU D W (zw op f g)):=by
 rintro i s L H Q I ⟨J,N,K,M,r,z,p⟩;refine tJ (aW (sub A I r z p) ?_) (kI ho);rintro u T ⟨v,V,t,l,n,G,x,o,d,h,E,p1⟩;refine aW (sub hb G d h p1) ?_;rintro P S ⟨O,U,R,j,m,F,w,c,q,e,B,y⟩;exact Vl F C.unt e (E.step c) B x w y
theorem Z9{R:β->Mem->List aF->Hp->Prop}{kk:T->Mem->RE β}{x y:T}{v w:V}{c:aD}(I:Inv X pins σ H s)(h:X.A.units+64<cLine)(g:aL D φ α H μ)(k:bA D φ α H x v)(i:bA D φ α H y w)(f:RelV v c)(e:RelV w B)
  (p:aJ D W φ α H σ R ((QK op x y μ).bind kk)):wpAny (aS X.prog X.w) X.A (fC op c B) (EP X pins σ λz u=>∃t r j,aQ α H j u/\aL D φ j u r/\bA D φ j u t z/\aJ D W φ j u σ R (kk t r)) X.xe s:=
 Vl I h g k i f e (p.bind.mono λt a b l st m q v d=>⟨t,a,b,st,m,d,q⟩)
theorem jv:∀{ops:List eM}{es:List aI},ops.all xH=aB->lastMarks ops es=aC
 |[],es,_=>by cases es<;>rfl
 |[op],[],_=>rfl
 |[op],[e],h=>Hh e (by rintro rfl;simp[xH] at h) (by rintro rfl;simp[xH] at h)
 |[op],_::_::_,_=>rfl
 |op::a::ops,[],_=>rfl
 |op::a::ops,e::es,h=>by
  have:lastMarks (a::ops) es=aC:=jv (by simp only[lT,cO] at h ⊢;exact h.2);cases es with
  |nil=>cases ops<;>rfl
  |cons b es=>exact this
def ni (X:Cx)(D:DP)(W:XW):List aI->List (eM×De)->Prop
 |[],[]=>True
 |e::es,p::a=>PE X e (aU D W p.2)/\ni X D W es a
 |_,_=>False
theorem JP(B:X.A.units+64<cLine){Q:VK}:∀{ps:List (eM×De)}{es:List aI}{s:bB}{H:Hp}{α:List aF}{μ:Mem}{x:T}{v:V}{u:aD},ni X D W es ps->Inv X pins σ H s->a_ D φ α H τ σ->aL D φ α H μ->bA D φ α H x v->RelV v u->aJ D W φ α H σ (RV D φ Q) (oV ps x τ μ)->
  wpAny (aS X.prog X.w) X.A (compareChain pos u (ps.map (·.1)) (evalEach es X.env)) (EP X pins σ Q) X.xe s
 |[],_,_,_,_,_,_,_,_,_,_,_,_,_,_,p=>p.elim
 |[(op,g)],[],_,_,_,_,_,_,_,h,_,_,_,_,_,_=>h.elim
 |[(op,g)],[e],s,H,α,μ,x,v,u,h,I,o,y,d,r,p=>by
  refine chain_last (aW (sub h.1 I o y p) ?_);rintro K M ⟨J,Y,L,m,n,C,k,b,i,c,l,q⟩;exact Vl C B c (d.step b) l r k q
 |[(op,g)],_::_::_,_,_,_,_,_,_,_,h,_,_,_,_,_,_=>h.2.elim
 |(op,g)::O::ps,[],_,_,_,_,_,_,_,h,_,_,_,_,_,_=>h.elim
 |(op,g)::O::ps,[e],_,_,_,_,_,_,_,h,_,_,_,_,_,_=>h.2.elim
 |(op,g)::(t,P)::ps,e::R::es,s,H,α,μ,x,v,u,h,I,o,y,d,r,p=>by
  refine chain_link (aW (sub h.1 I o y p) ?_);rintro K M ⟨J,Y,L,m,n,C,k,b,i,c,l,q⟩;refine aW (Z9 C B c (d.step b) l r k q) ?_;rintro dd s3 ⟨z,U,E,N,Z,F,G,f,j,S,a⟩;try dsimp only at a
  split at a
  .cases S;cases N;rcases a.br with⟨rfl,a⟩|⟨rfl,a⟩
   .exact wpAny_truthy_bool (ite_tt (JP B (ps:=(t,P)::ps) (es:=R::es) h.2 E (i.step f) j (l.step f) k a))
   .exact wpAny_truthy_bool (ite_ff ⟨.bl aC,U,E,rfl,a.here j rfl⟩)
  .exact a.elim
theorem TC(C:Ck D W Γ X k)(ho:(p1::d::ps).all (λp=>xH p.1)=aB)(o:PE X a (aU D W f))(h:ni X D W (q::r::es) (p1::d::ps)):PE X (.Compare a (p1.1::d.1::ps.map (·.1)) (q::r::es) pos) (aU D W (iS f (p1::d::ps))):=by
 rintro e s A H Q I ⟨y,E,z,B,l,n,p⟩;refine Compare_chain (aW (sub o I l n p) ?_) (jv (by simpa[pR,v6] using ho));rintro u F ⟨v,G,t,g,i,x,m,j,b,c,w,p1⟩;exact JP C.unt h x b c w m p1
theorem Yh(O:X.A.units+64<cLine){β:Type}{R:β->Mem->List aF->Hp->Prop}{kk:Bool->Mem->RE β}:∀{ps:List (eM×De)}{es:List aI}{s:bB}{H:Hp}{α:List aF}{μ:Mem}{x:T}{v:V}{u:aD}{Q:Bool->Hp->Prop},ni X D W es ps->Inv X pins σ H s->a_ D φ α H τ σ->aL D φ α H μ->bA D φ α H x v->RelV v u->aJ D W φ α H σ (λb _ _ j=>Q b j) ((oV ps x τ μ).bind yj)->
  wpAny (aS X.prog X.w) X.A (testChain pos u (ps.map (·.1)) (evalEach es X.env)) (TP X pins σ Q) X.xe s
 |[],_,_,_,_,_,_,_,_,_,_,_,_,_,_,_,p=>aJ.elim p
 |[(op,g)],[],_,_,_,_,_,_,_,_,h,_,_,_,_,_,_=>h.elim
 |[(op,g)],[e],s,H,α,μ,x,v,u,Q,h,I,K,N,d,r,p=>by
  have p:aJ D W φ α H σ (λb _ _ j=>Q b j) ((g τ μ).bind λy i=>(QK op x y i).bind yj):=p;refine test_last (aW (sub h.1 I K N p) ?_);rintro Z s2 ⟨Y,H2,t',c,J,S,E,n,t,o,F,M⟩;refine aW (Z9 S O o (d.step n) F r E M) ?_;rintro dd s3 ⟨z,C,G,L,t3,q,l,m,f,P,a⟩;unfold yj at a;split at a
  .cases P;cases L;exact wpAny_truthy_bool ⟨C,G,a.ok (aQ.refl _ _) f⟩
  .exact a.elim
 |[(op,g)],_::_::_,_,_,_,_,_,_,_,_,h,_,_,_,_,_,_=>h.2.elim
 |(op,g)::p'::ps,[],_,_,_,_,_,_,_,_,h,_,_,_,_,_,_=>h.elim
 |(op,g)::p'::ps,[e],_,_,_,_,_,_,_,_,h,_,_,_,_,_,_=>h.2.elim
 |(op,g)::(B,U)::ps,e::e'::es,s,H,α,μ,x,v,u,Q,h,I,K,N,d,r,p=>by
  have p:aJ D W φ α H σ (λb _ _ j=>Q b j) ((g τ μ).bind λy i=>(QK op x y i).bind λk c=>(match k with|.bl b=>RE.br b (oV ((B,U)::ps) y τ c) (.ok (.bl aC) c)|_=>RE.st:RE T).bind yj):=p;refine test_link (aW (sub h.1 I K N p) ?_);rintro Z s2 ⟨Y,H2,t',c,J,S,E,n,t,o,F,M⟩;refine aW (Z9 S O o (d.step n) F r E M) ?_;rintro dd s3 ⟨z,C,G,L,t3,q,l,m,f,P,a⟩;try dsimp only at a
  split at a
  .rename_i bb;cases P;cases L;cases bb with
   |true=>exact wpAny_truthy_bool (ite_tt (Yh O (kk:=kk) (R:=R) (ps:=(B,U)::ps) (es:=e'::es) h.2 G (t.step m) f (F.step m) E a))
   |false=>
    have a:aJ D W φ l C σ (λb _ _ j=>Q b j) (RE.ok aC q):=a;exact wpAny_truthy_bool (ite_ff ⟨C,G,a.ok (aQ.refl _ _) f⟩)
  .have a:aJ D W φ l C σ (λb _ _ j=>Q b j) RE.st:=a;exact a.elim
end
section
variable {X:Cx}{D:DP}{W:XW}{Γ:Cn}{k:Nat}{pins:List (aF×bF)}{s:Shared}{σ:St}{H:Hp}{φ α:List aF}{τ:Sl}{μ:Mem}{f g h:De}{ft gt:Dt}{a b c:aI}{pos:Pos}
theorem Yi(m:PE X a (aU D W f))(he:∀d,isTrue a X.env d=(do let v ←d;standAt a.pos;mS [v] (truthy v))):PT X a (eJ D W (tE f)):=by
 rintro c s x H Q I ⟨r,z,w,y,j,l,p⟩;rw[he];refine wpAny_bind (aW (sub m I j l p) ?_);rintro u A ⟨v,q,t,e,g,o,k,h,i,b,n,p1⟩;unfold yj at p1;split at p1
 .cases n;cases k;exact wpAny_bind (hW (wpAny_holding (wpAny_truthy_bool ⟨q,o,p1.ok (aQ.refl _ _) b⟩)))
 .exact p1.elim
theorem X1(C:Ck D W Γ X k)(ho:jL op b=aB)(U:PE X a (aU D W f))(hb:PE X b (aU D W g)):PT X (.Compare a [op] [b] pos) (eJ D W (tE (zw op f g))):=by
 rintro q s w H Q I ⟨r,J,o,B,N,T,p⟩;have p:aJ D W r J H w (λb _ _ H'=>Q b H') ((f o B).bind λx e=>(g o e).bind λy c=>(QK op x y c).bind yj):=p;refine wv (aW (sub U I N T p) ?_) (kI ho);rintro u s1 ⟨v,H1,t,e,G,I1,R,L,j,n,Z,p1⟩;refine aW (sub hb I1 j n p1) ?_;rintro u' s2 ⟨v',H2,t',c,F,I2,P,i,M,m,Y,S⟩;refine aW (Z9 I2 C.unt m (Z.step i) Y R P S) ?_;rintro d s3 ⟨z,H3,I3,O,t3,A,E,K,l,V,h⟩;unfold yj at h;split at h
 .cases V;cases O;exact wpAny_truthy_bool ⟨H3,I3,h.ok (aQ.refl _ _) l⟩
 .exact h.elim
theorem Jc(C:Ck D W Γ X k)(ho:(p1::d::ps).all (λp=>xH p.1)=aB)(A:PE X a (aU D W f))(h:ni X D W (E::B::es) (p1::d::ps)):PT X (.Compare a (p1.1::d.1::ps.map (·.1)) (E::B::es) pos) (eJ D W (tE (iS f (p1::d::ps)))):=by
 rintro j s m H Q I ⟨l,q,i,n,w,z,p⟩;have p:aJ D W l q H m (λb _ _ J=>Q b J) ((f i n).bind λx c=>(oV (p1::d::ps) x i c).bind yj):=p;refine isTrue_chain (aW (sub A I w z p) ?_) (jv (by simpa[pR,v6] using ho));rintro u K ⟨v,L,t,c,o,G,y,r,e,g,F,p1⟩;exact Yh (kk:=λ_ _=>RE.st (β:=Bool)) (R:=λ_ _ _ _=>True) C.unt h G e g F y p1
theorem NQ(u:PT X a (eJ D W ft))(hb:PW X (.BoolOp .And (b::r) pos) (eJ D W gt)):PW X (.BoolOp .And (a::b::r) pos) (eJ D W (jU ft gt)):=by
 intro d e s k H Q I t;refine OT u hb d e s k H Q I ?_;obtain⟨h,n,i,l,j,o,p⟩:=t;refine⟨h,n,i,l,j,o,p.bind.mono λc f g v st m q=>?_⟩;rcases q.br with⟨rfl,q⟩|⟨rfl,q⟩
 .exact⟨h,g,i,f,j.step st,m,q⟩
 .exact q.ok (aQ.refl _ _) m
theorem My(u:PT X a (eJ D W ft))(hb:PW X (.BoolOp .Or (b::r) pos) (eJ D W gt)):PW X (.BoolOp .Or (a::b::r) pos) (eJ D W (fD ft gt)):=by
 intro d e s k H Q I t;refine LV u hb d e s k H Q I ?_;obtain⟨h,n,i,l,j,o,p⟩:=t;refine⟨h,n,i,l,j,o,p.bind.mono λc f g v st m q=>?_⟩;rcases q.br with⟨rfl,q⟩|⟨rfl,q⟩
 .exact q.ok (aQ.refl _ _) m
 .exact⟨h,g,i,f,j.step st,m,q⟩
theorem Oe(o:PT X a (eJ D W ft)):PT X (.UnaryOp .Not a pos) (eJ D W (qh ft)):=by
 intro b s f H Q I n;refine Of o b s f H Q I ?_;obtain⟨d,j,e,h,k,l,p⟩:=n;exact⟨d,j,e,h,k,l,p.bind.mono λc g i r st m q=>q.ok (aQ.refl _ _) m⟩
theorem LZ(w:PT X c (eJ D W ft))(x:PE X a (aU D W f))(hb:PE X b (aU D W g)):PE X (.IfExp c a b pos) (aU D W (pb ft f g)):=by
 rintro e s n H Q I ⟨l,z,m,y,u,v,p⟩;refine wpAny_IfExp (aW (FR w I u v p) ?_);rintro d o ⟨r,h,i,q,t,j,k,p1⟩;rcases p1.br with⟨rfl,p1⟩|⟨rfl,p1⟩
 .exact x e o n r Q q ⟨l,i,m,h,j,k,p1⟩
 .exact hb e o n r Q q ⟨l,i,m,h,j,k,p1⟩
noncomputable def zZ:aI->Bool
 |.Name _ _=>aB
 |.Attribute _ _ _=>aB
 |.Subscript _ _ _=>aB
 |.Call (.Name x _) _ _ _=>x != ("super":aH)
 |.Call (.Attribute _ _ _) _ _ _=>aB
 |_=>aC
theorem aJ.ex3{β b a c:Type}{R:β->Mem->List aF->Hp->Prop}{P:b->a->Prop}{d:b->a->c->Prop}{r:b->a->c->RE β}(p:aJ D W φ α H σ R (λK Z=>∃x y z,P x y/\d x y z/\r x y z K Z)):∃x y z,P x y/\d x y z/\aJ D W φ α H σ R (r x y z):=by
 obtain⟨K,Z,⟨x,y,z,h1,h2,q⟩,h⟩:=p;exact⟨x,y,z,h1,h2,K,Z,q,h⟩
theorem aJ.ex2{β a b:Type}{R:β->Mem->List aF->Hp->Prop}{P:a->Prop}{c:a->b->Prop}{r:a->b->RE β}(p:aJ D W φ α H σ R (λK Z=>∃x y,P x/\c x y/\r x y K Z)):∃x y,P x/\c x y/\aJ D W φ α H σ R (r x y):=by
 obtain⟨K,Z,⟨x,y,h1,h2,q⟩,h⟩:=p;exact⟨x,y,h1,h2,K,Z,q,h⟩
theorem xO(h:qD b=aB):Rz b:=by
 intro o i;cases b<;>first|(simp[qD] at h;done)|rfl
theorem ZK(l:aM D φ α H ts xs)(h:vW ts i=aA t):∃v,ny xs i=aA v/\bA D φ α H t v:=by
 unfold vW at h;have e:o6 xs.length i=oK ts.length i:=by rw[l.length];rfl
 unfold ny;rw[e];cases q:oK ts.length i with
 |none=>rw[q] at h;cases h
 |some j=>
  rw[q] at h;exact l.get h
theorem MR(h:qD b=aB)(hK:X.K=D.K)(S:PE X a (aU D W f))(hb:PE X b (aU D W g)):PE X (.Subscript a b pos) (aU D W (aX f g)):=by
 rintro d s m H Q I ⟨Y,α,Z,μ,O,P,p⟩;refine Subscript_ (aW (sub S I O P p) ?_);rintro u s1 ⟨v,H1,t,G,L,V,y,M,o,A,k,p1⟩;refine aW (sub hb V o A p1) ?_;rintro u' q ⟨v',E,t',F,J,C,x,n,N,e,U,c⟩;have k:=k.step n;unfold Gn at c;split at c
 .cases U;split at c
  .obtain⟨w,hw,c⟩:=c.som;obtain⟨ad,i,rfl,_,_,r,l⟩:=k;obtain⟨z,j,dz⟩:=ZK l hw;exact Y2 a b d q m E _ _ _ _ Q C y x ⟨ad,i,_,z,rfl,rfl,.inl r,j,c.here e dz⟩ (xO h _ _)
  .obtain⟨w,hw,c⟩:=c.som;obtain⟨ad,i,rfl,_,_,r,l⟩:=k;obtain⟨z,j,dz⟩:=ZK l hw;exact NZ a b d q m E _ _ _ _ Q C y x ⟨ad,i,_,z,rfl,rfl,.inl r,j,c.here e dz⟩ (xO h _ _)
  .obtain⟨ts,w,R,hw,c⟩:=c.ex2;obtain⟨ad,B,rfl⟩:=k;obtain⟨i,T,l⟩:=e.ob _ ad _ B R;obtain⟨z,j,dz⟩:=ZK l hw;exact Y2 a b d q m E _ _ _ _ Q C y x ⟨ad,i,_,z,rfl,rfl,.inl (.inl T),j,aJ.here c e dz⟩ (xO h _ _)
  .exact c.elim
 .exact c.elim
noncomputable def aO:aI->Bool
 |.Starred _ _=>aC
 |_=>aB
theorem z5(h:aO e=aB):dW (e::es) env=(aC,eval e env)::dW es env:=by
 cases e<;>first|(simp[aO] at h;done)|rfl
theorem wh(h:es.all aO=aB):(eU pos (dW es env)).any (·.1)=aC:=by
 induction es with
 |nil=>rfl
 |cons e es a=>
  simp only[lT,cO] at h;rw[z5 h.1];have:=a h.2
  first
   |(simp[eU] at this ⊢;exact this)
   |(simpa[eU] using this)
theorem Oc:PA X [] (o1 D W 0 (gD [])):=by
 rintro b a s c H Q I ⟨e,h,f,g,i,d,p⟩;exact qL b a s c H Q I (aJ.ok p (aQ.refl _ _) d [] rfl rfl)
theorem O_(hs:aO e=aB)(F:PE X e (aU D W f))(hr:PA X es (o1 D W n (gD fs))):PA X (e::es) (o1 D W (n+1) (gD (f::fs))):=by
 intro k c s l H Q I C;refine zK F hr (z5 hs) k c s l H Q I ?_;obtain⟨h,r,g,o,w,A,p⟩:=C;have p:aJ D W h r H l _ ((f g o).bind λt a=>(gD fs g a).bind λu b=>.ok (t::u) b):=p;refine⟨h,r,g,o,w,A,p.bind.mono λt a i J st m q v d=>?_⟩;refine⟨h,i,g,a,w.step st,m,q.bind.mono λu b x G j B z y dl E=>?_⟩;exact z.ok (aQ.refl _ _) B _ ⟨v,y,rfl,d.step j,dl⟩ (by simp[E])
def dU (X:Cx)(D:DP)(W:XW):List aI->List De->Prop
 |[],[]=>True
 |e::es,f::fs=>aO e=aB/\PE X e (aU D W f)/\dU X D W es fs
 |_,_=>False
theorem jk:∀{es:List aI}{fs:List De},dU X D W es fs->PA X es (o1 D W es.length (gD fs))
 |[],[],_=>Oc
 |e::es,f::fs,h=>O_ h.1 h.2.1 (jk h.2.2)
 |[],_::_,h=>h.elim
 |_::_,[],h=>h.elim
theorem dU.stars:∀{es:List aI}{fs:List De},dU X D W es fs->es.all aO=aB
 |[],[],_=>rfl
 |e::es,f::fs,h=>by simp[h.1,dU.stars h.2.2]
 |[],_::_,h=>h.elim
 |_::_,[],h=>h.elim
theorem M0(n:es.length<=aT)(h:dU X D W es fs):PE X (.List es pos) (aU D W (yp fs)):=by
 refine PE.mono (G8 (jk h)) ?_;rintro o H Q ⟨b,g,c,e,j,k,p⟩;refine⟨b,g,c,e,j,k,p.bind.mono λr d f s st m q i dl l=>⟨by rw[l];exact qa n,λz a=>?_⟩⟩;exact q.fresh m (zm a) ⟨z,i,rfl,zr m a,zt m a,.inl z3,dl.step (aQ.new (zm a))⟩
theorem Hl(n:es.length<=aT)(h:dU X D W es fs):PE X (.Tuple es kk pos) (aU D W (wD fs)):=by
 refine PE.mono (Nt (jk h)) ?_;rintro o H Q ⟨b,g,c,e,j,k,p⟩;refine⟨b,g,c,e,j,k,p.bind.mono λr d f s st m q i dl l=>⟨by rw[l];exact qa n,λz a=>?_⟩⟩;exact q.fresh m (zm a) ⟨z,i,rfl,zr m a,zt m a,.inl z3,dl.step (aQ.new (zm a))⟩
end
section
variable {X:Cx}{D:DP}{W:XW}{Γ:Cn}{k:Nat}{pins:List (aF×bF)}{s:Shared}{σ:St}{H:Hp}{φ α:List aF}{τ:Sl}{μ:Mem}{f g h:De}{a b c:aI}{pos:Pos}{es:List aI}{fs:List De}
theorem qy{f:aH}(h:zZ e=aB):lU e f env (eval e env)=eval e env:=by
 cases e with
 |Call g args a p=>
  cases g with
  |Name x c=>
   have b:(x != ("super":aH))=aB:=h;cases args<;>cases a<;>first|rfl|(unfold lU;simp[b])
  |Attribute _ _ _=>rfl
  |_=>exact absurd (show aC=aB from h) fS
 |_=>first|exact absurd (show aC=aB from h) fS|rfl
def o0 (D:DP)(W:XW)(f:Dp):TO:=λσ H Q=>nB D H σ λφ α τ μ=>aJ D W φ α H σ (λo _ _ a=>Q o a) (f τ μ)
theorem Po:PO X aE (o0 D W pN):=by
 rintro a s b H Q I ⟨d,g,e,f,h,c,p⟩;exact P4 a s b H Q I (aJ.ok p (aQ.refl _ _) c)
theorem Px(h:PE X a (aU D W f)):PO X (aA a) (o0 D W (pS f)):=by
 rintro b s g H Q I ⟨c,l,e,j,n,o,p⟩;refine Ru h b s g H Q I ⟨c,l,e,j,n,o,p.bind.mono λt i k r st m q v d=>?_⟩;split at q
 .cases d;exact⟨_,rfl,q.ok (aQ.refl _ _) m⟩
 .exact q.elim
theorem Tw(l:aM D φ α H ts xs)(lo hi:Option Int):aM D φ α H (jx ts lo hi) (Ui xs lo hi):=by
 have e:ts.length=xs.length:=l.length;have a:∀n d o,Xx n d o=HT.sIx n d o:=λn d o=>by cases o<;>rfl
 unfold jx Ui;rw[a,a,e];exact (l.drop _).take _
theorem RY{lo:Option aI}(K:PE X a (aU D W f))(J:PO X lo (o0 D W fo))(I:PO X hi (o0 D W go)):PE X (.Subscript a (.Slice lo hi aE M) pos) (aU D W (o_ f fo go)):=by
 refine PE.mono (TB Rl K J I) ?_;rintro L H Q ⟨g,B,h,y,s,F,p⟩;refine⟨g,B,h,y,s,F,p.bind.mono λt j n P st m q v d=>?_⟩;refine⟨g,n,h,j,s.step st,m,q.bind.mono λl i k O b G E=>?_⟩;refine⟨g,k,h,i,(s.step st).step b,G,E.bind.mono λu x A N o w c=>?_⟩;unfold F4 at c;split at c
 .obtain⟨ad,C,rfl,_,_,r,dl⟩:=(d.step b).step o;refine⟨ad,C,rfl,.inl r,λz e=>?_⟩;exact c.fresh w (zm e) ⟨z,_,rfl,zr w e,zt w e,.inl z3,Tw (dl.step (aQ.new (zm e))) _ _⟩
 .exact c.elim
theorem Z8{g:Fn}{fa:aF}{kk:Nat}{Q:VK}(C:Ck D W Γ X k)(F:bS X.prog X.w X.K X.mg X.base (dB X.prog X.w) kk fa fd ps (eR D ps.length g))
  (hr:bZ kk X.A) (hb:Binds X.K fd ps []) (h:∀ts μ K Z,g ts μ K Z->ts.length=ps.length) (I:Inv X pins σ H s) (r:aY vs us) (m:aL D φ α H μ) (d:aM D φ α H ts vs) (p:aJ D W φ α H σ (RV D φ Q) (g ts μ)) :
  wpAny (aS X.prog X.w) X.A (call (.ref fa) us) (EP X pins σ Q) X.xe s:=by
 obtain⟨K,Z,q,a,n⟩:=p;have i:ts.length=ps.length:=h ts μ K Z q;have j:eR D ps.length g vs H Q (λc d b=>W c d σ b):=⟨by rw[<-d.length];exact i,φ,α,ts,μ,d,m,K,Z,q,a,n⟩;have f:us.length=ps.length:=by rw[<-r.length,<-d.length];exact i
 refine lK (i7 (F.run X.A X.stack s H ⟨us,[]⟩ us vs Q (λc d b=>W c d σ b) hr I.env0 (by simpa using hb s us I.kIn (by simpa using f)) r j) λr l a=>?_);cases r with
 |error e=>exact C.xe e l (Zg (E:=λc d b=>W c d σ b) I a λcls d b w=>w)
 |ok fl=>
  cases fl with
  |ret u=>exact I.after a
  |next=>exact eF a
  |brk=>exact eF a
  |cont=>exact eF a
theorem PX(C:Ck D W Γ X k){g:Fn}(c:x∈Γ.G)(E:Γ.gl x=.fn g)(F:Γ.calm=aB)(i:dU X D W es fs):PE X (.Call (.Name x p0) es [] pos) (aU D W (z4 g fs)):=by
 have q:=C.glo x c;rw[E] at q;obtain⟨fa,B,fd,T,U,n,o,h,Fn,a⟩:=q;have m:=(C.rom F).mono h;have d:=i.stars;have A:=jk i;rintro j s M H Q I ⟨K,O,L,N,y,l,p⟩;refine ij (vb I (C.glb x c) B ?_ (C.dbG x c));cases es with
 |nil=>
  cases fs with
  |nil=>exact rp I.kIn n (Z8 (ts:=[]) C Fn m o a I .nil l rfl p)
  |cons f fs=>exact i.elim
 |cons e es=>
  simp only[lT,cO] at d;refine oy (h₀:=X.base) I.ok.mod.kin n (aW (rR A I y l p) ?_) (z5 d.1) (wh d.2);rintro R S ⟨P,V,ts,t,u,r,z,v,w,b,J,_,p1⟩;exact⟨r.kIn,Z8 C Fn m o a r z b J p1⟩
theorem iq{c:Nat}{g:Fn}{C0 fI:aF}{kk:Nat}{Q:VK}(C:Ck D W Γ X k)(ad:D.cad c=aA C0)(M:Mk X.K C0 fI)(F:bS X.prog X.w X.K X.mg X.base (dB X.prog X.w) kk fI fd ps (eR D ps.length g))
  (hr:bZ (kk+1) X.A) (hb:Binds X.K fd ps []) (har:∀ts μ K Z,g ts μ K Z->ts.length=ps.length) (I:Inv X pins σ H s) (r:aY vs us) (y:aL D φ α H μ) (d:aM D φ α H ts vs) (p:aJ D W φ α H σ (RV D φ Q) (Km c g ts μ)) :
  wpAny (aS X.prog X.w) X.A (call (.ref C0) us) (EP X pins σ Q) X.xe s:=by
 obtain⟨K,Z,⟨hp,hg⟩,hk,hz⟩:=p;have hl:(T.mut 0::ts).length=ps.length:=har _ _ _ _ hg;have hq:∀x dx,H x=aE->H dx=aE->dx≠x->eR D ps.length g (.ref x::(vs++[])) (upd (upd H dx (.own x)) x (.ins C0 dx [])) (λv H2=>v=.non/\Q (.ref x) H2) (λc d B=>W c d σ B):=by
  intro x dx J hdx hne;have P:kL H (upd (upd H dx (.own x)) x (.ins C0 dx [])):=λb o e=>by rw[z7 (zU e J),z7 (zU e hdx)];exact e
  have U:aQ [] H [x] (upd (upd H dx (.own x)) x (.ins C0 dx [])):=⟨⟨[x],rfl,λb h=>by rw[bU.mp h];exact J⟩,λb o _ e=>P b o e,λb e=>by
   cases q:H b with
   |none=>rfl
   |some o=>rw[P b o q] at e;cases e⟩
  have nx:x∉φ++α:=λz=>(b_.mp z).elim (zr y J) (zt y J);have ph:∀b∈φ++α,∃o,H b=aA o/\sv o=aB:=λb h=>(b_.mp h).elim (y.phi b) λz=>by
   obtain⟨i,hi⟩:=fN.mp z;have hl':i<μ.length:=by rw[<-y.len];exact (bE.mp hi).1
   exact (y.ob i b μ[i] hi (by simp[hl'])).some
  refine⟨by simp only[gJ,gU] at hl ⊢;rw[<-d.length];exact hl,φ++α,[x],.mut 0::ts,[.obj c []],⟨.ref x,vs++[],rfl,⟨x,rfl,rfl⟩,by rw[gU];exact (aM.hide hp d Pe).step U⟩,⟨rfl,by simp,λb h=>by rw[bU.mp h];exact nx,λb h=>let ⟨o,e,n⟩:=ph b h;⟨o,P b o e,n⟩,λi a o O e2=>?_⟩,?_⟩
  .cases i with
   |zero=>simp at O e2;subst O e2;exact⟨C0,dx,[],ad,z3,rfl⟩
   |succ i=>simp at O
  have back:∀{G:List aF}{N:Hp},aQ [x] (upd (upd H dx (.own x)) x (.ins C0 dx [])) G N->kL H N:=λst b o e=>st.keep b o (λz=>by rw[bU.mp z,J] at e;cases e) (P b o e);refine⟨_,_,hg,?_,?_⟩
  .rintro t S ⟨rfl,fs,h0,L,q⟩ G N st m v dv;refine⟨dv,?_⟩;obtain⟨β,rfl,_⟩:=st.ext;obtain⟨C1,dx1,gs,ad1,O,lf⟩:=m.ob 0 x _ rfl h0;have j:=back st;exact hk _ _ q α N (aQ.new j) (y.new j) _ ⟨x,C1,dx1,gs,rfl,zr y J,zt y J,ad1,O,bN.hide L lf Kb⟩
  .rintro e fs S ⟨L,q⟩ G N C1 d1 st m had xd;have j:=back st;exact hz _ _ _ q α N C1 d1 (aQ.new j) (y.new j) had (cB.hide L xd Kb)
 have Y:=hq (s.heap.objs.size+1) s.heap.objs.size (I.hok.fresh (iK _)) (I.hok.fresh (bD _)) (cX (mo _));have R:=Inv.made (C:=C0) I;have r2:aY (V.ref (s.heap.objs.size+1)::(vs++[])) (cN (s.heap.objs.size+1)::us):=.cons rfl (by rw[gU];exact r);have hlu:(cN (s.heap.objs.size+1)::us++[]).length=ps.length:=by
  rw[gU,gJ,<-r.length,<-d.length];exact hl
 refine lK (JS (f:=fI) I.kIn M.makes M.init (beq_iff_eq.mp M.fn) (i7 (F.run _ X.stack _ _ ⟨cN (s.heap.objs.size+1)::us,[]⟩ (cN (s.heap.objs.size+1)::us) _ _ (λc d B=>W c d σ B) (hr.make C0 us [])
  (R.env0.make C0 us []) (by simpa using hb _ (cN (s.heap.objs.size+1)::us) R.kIn hlu) r2 Y) λr s' l=>?_))
 cases r with
 |error e=>exact C.xe e s' (Zg (E:=λc d B=>W c d σ B) R l λcls d B w=>w)
 |ok fl=>
  cases fl with
  |ret u=>
   obtain⟨v,B,I3,rv,ev,q3⟩:=R.after l;subst ev;exact⟨rv,⟨V.ref (s.heap.objs.size+1),B,I3,rfl,q3⟩⟩
  |next=>exact eF l
  |brk=>exact eF l
  |cont=>exact eF l
theorem Rr(C:Ck D W Γ X k){c:Nat}{g:Fn}(d:x∈Γ.G)(E:Γ.gl x=.mk c aB g)(F:Γ.calm=aB)(j:dU X D W es fs):PE X (.Call (.Name x p0) es [] pos) (aU D W (nu c g fs)):=by
 have q:=C.glo x d;rw[E] at q;obtain⟨C0,Y,fd,U,V,ad,B,M,o,i,Fn,a⟩:=q;have n:=(C.rom F).mono i;have h:=j.stars;have A:=jk j;rintro l s N H Q I ⟨K,P,L,O,y,m,p⟩;refine ij (vb I (C.glb x d) B ?_ (C.dbG x d));cases es with
 |nil=>
  cases fs with
  |nil=>exact rp I.kIn M.kp (iq (ts:=[]) C ad M Fn n o a I .nil m rfl p)
  |cons f fs=>exact j.elim
 |cons e es=>
  simp only[lT,cO] at h;refine oy (h₀:=X.base) I.ok.mod.kin M.kp (aW (rR A I y m p) ?_) (z5 h.1) (wh h.2);rintro S T ⟨R,Z,ts,t,u,r,z,v,w,b,J,_,p1⟩;exact⟨r.kIn,iq C ad M Fn n o a r z b J p1⟩
theorem Oq(C:Ck D W Γ X k)(K:zZ a=aB)(s:(x,n)∈Γ.fld)(M:PE X a (aU D W f)):PE X (.Attribute a x pos) (aU D W (za f n)):=by
 refine PE.mono (M7 M (qy K)) ?_;rintro N H Q ⟨u,G,A,E,I,J,p⟩;refine⟨u,G,A,E,I,J,p.bind.mono λt B F O st m q v d=>?_⟩;unfold Zr at q;split at q
 .split at q
  .rename_i c fs _ w hw;obtain⟨ad,C0,dx,gs,rfl,_,_,j,i,l⟩:=d;obtain⟨y,z,g,e,dz⟩:=l.look hw;obtain⟨b,r,o⟩:=C.fld c C0 x n j s;rw[g] at b;cases b;exact⟨ad,C0,dx,gs,z,rfl,i,r,o,e,q.here m dz⟩
  .exact q.elim
 .obtain⟨c,fs,w,L,hw,q⟩:=q.ex3;obtain⟨ad,h,rfl⟩:=d;obtain⟨C0,dx,gs,j,i,l⟩:=m.ob _ ad _ h L;obtain⟨y,z,g,e,dz⟩:=l.look hw;obtain⟨b,r,o⟩:=C.fld c C0 x n j s;rw[g] at b;cases b;exact⟨ad,C0,dx,gs,z,rfl,i,r,o,e,aJ.here q m dz⟩
 .exact q.elim
end
section
variable {X:Cx}{D:DP}{W:XW}{Γ:Cn}{k:Nat}{pins:List (aF×bF)}{s:Shared}{σ:St}{H:Hp}{φ α:List aF}{τ:Sl}{μ:Mem}{f h:De}{a b c:aI}{pos:Pos}
theorem Yk{B:Prop}(C:Ck D W Γ X k){c:Nat}{C0 dx ad:aF}(I:Inv X pins σ H s)(a:D.cad c=aA C0)(ea:H ad=aA (.ins C0 dx gs))
  (b:∀d P,Xq D c d->pQ X.K (.ref ad) d P->P s.heap->(cN ad)≠.builtin "__main__.__loader__#opaque"->B):B:=by
 have o:=C.ocx c C0 a;obtain⟨f,O,_⟩:=y0 I.hok ea;obtain⟨e,J,_⟩:=O.look;exact b _ _ (.inr (.inr (.inr (.inr (.inr (.inr (.inr (.inr ⟨C0,a,rfl⟩)))))))) (PySem.W.kitx_own (o.cl.get _) o.cl.hd o.fi o.sp o.tk o.ob) J (λz=>nomatch z)
theorem NP{B:Prop}(C:Ck D W Γ X k){t:T}{v:V}(I:Inv X pins σ H s)(d:bA D φ α H t v)(r:RelV v u)(ht:HV t μ=aA n)
  (a:∀A P,Xq D n A->pQ X.K u A P->P s.heap->u≠.builtin "__main__.__loader__#opaque"->B):B:=by
 cases t with
 |non=>cases d;cases r;cases ht;exact a _ _ (.inl ⟨rfl,rfl⟩) PySem.W.kitx_none gB (λz=>nomatch z)
 |bl b=>cases d;cases r;cases ht;exact a _ _ (.inr (.inl ⟨rfl,rfl⟩)) PySem.W.kitx_bool gB (λz=>nomatch z)
 |int i=>cases d;obtain⟨t,rfl⟩:=r;cases ht;exact a _ _ (.inr (.inr (.inl ⟨rfl,rfl⟩))) PySem.W.kitx_int gB (λz=>nomatch z)
 |str i=>cases d;obtain⟨t,rfl⟩:=r;cases ht;exact a _ _ (.inr (.inr (.inr (.inl ⟨rfl,rfl⟩)))) PySem.W.kitx_str gB (λz=>nomatch z)
 |tup m=>
  obtain⟨ad,h,rfl,_,_,q,_⟩:=d;cases r;cases ht;obtain⟨e,_,⟨o,g,f,_⟩,_⟩:=I.tuple (.inl q);exact a _ _ (.inr (.inr (.inr (.inr (.inl ⟨rfl,rfl⟩))))) PySem.W.kitx_tuple ⟨o,g,f⟩ (λz=>nomatch z)
 |lst m=>
  obtain⟨ad,h,rfl,_,_,q,_⟩:=d;cases r;cases ht;obtain⟨e,_,p,_⟩:=I.list (.inl q);obtain⟨o,g,f,_⟩:=p.isList;exact a _ _ (.inr (.inr (.inr (.inr (.inr (.inl ⟨rfl,rfl⟩)))))) DX ⟨o,g,f⟩ (λz=>nomatch z)
 |obj c fs=>
  obtain⟨ad,C0,dx,gs,rfl,_,_,x,w,l⟩:=d;cases r;cases ht;exact Yk C I x w a
 | «mut» i=>cases ht
 |clo j cs=>cases ht
theorem P6{B:Prop}(C:Ck D W Γ X k){v:V}{o:MO}(I:Inv X pins σ H s)(m:aL D φ α H μ)(d:bA D φ α H (.mut i) v)(r:RelV v u)(ht:μ[i]?=aA o)(f:Gm o=aC)
  (a:∀g P,Xq D (HU o) g->pQ X.K u g P->P s.heap->u≠.builtin "__main__.__loader__#opaque"->B):B:=by
 obtain⟨ad,t,rfl⟩:=d;cases r;have dd:=m.ob i ad o t ht;cases o with
 |lst G=>
  obtain⟨F,q,_⟩:=dd;obtain⟨n,_,p,_⟩:=I.list (.inl (.inl q));obtain⟨o,y,x,_⟩:=p.isList;exact a _ _ (.inr (.inr (.inr (.inr (.inr (.inl ⟨rfl,rfl⟩)))))) DX ⟨o,y,x⟩ (λz=>nomatch z)
 |obj c fs=>
  obtain⟨C0,dx,gs,E,A,l⟩:=dd;exact Yk C I E A a
 |dic b=>
  obtain⟨gs,e,_⟩:=dd;obtain⟨_,_,h,_,dd⟩:=(show aZ X.prog X.w H s.heap ad (.dK gs) from I.hok ad _ e);exact a _ _ (.inr (.inr (.inr (.inr (.inr (.inr (.inr (.inl ⟨rfl,rfl⟩)))))))) DW dd.typeIs (λz=>nomatch z)
 |tab j=>cases f
 |frd ep b=>
  obtain⟨gs,e,_⟩:=dd;obtain⟨_,_,h,_,dd⟩:=(show aZ X.prog X.w H s.heap ad (.dE ep gs) from I.hok ad _ e);exact a _ _ (.inr (.inr (.inr (.inr (.inr (.inr (.inr (.inl ⟨rfl,rfl⟩)))))))) DW dd.dictOf.typeIs (λz=>nomatch z)
theorem RT{B:Prop}(C:Ck D W Γ X k){t:T}{v:V}{u:aD}{Q:VK}(I:Inv X pins σ H s)(c:aL D φ α H μ)(d:bA D φ α H t v)(r:RelV v u)(q:aJ D W φ α H σ (RV D φ Q) (rN cs t μ))
  (b:∀n g P,aJ D W φ α H σ (RV D φ Q) (.ok (.bl (dD n cs)) μ)->Xq D n g->pQ X.K u g P->P s.heap->u≠.builtin "__main__.__loader__#opaque"->B):B:=by
 unfold rN at q;split at q
 .obtain⟨o,e,q⟩:=q.som;rcases q.br with⟨_,q⟩|⟨f,q⟩
  .exact q.elim
  .exact P6 C I c d r e f λg P=>b _ g P q
 .split at q
  .rename_i h a;exact NP C I d r a λg P=>b _ g P q
  .exact q.elim
noncomputable def H_:aI->Option (aH×Pos)
 |.Name x p=>aA (x,p)
 |_=>aE
theorem Nb(h:H_ e=aA q):e=.Name q.1 q.2:=by cases e<;>first|(cases h;rfl)|cases h
def J_(Γ:Cn)(e:aI):Option (List Nat):=(H_ e).bind λq=>if (cJ Γ.N q.1).isNone&&Γ.G.contains q.1 then (Γ.cls.lookup q.1).map λc=>[c] else aE
theorem cA{β:Type}{v:β}:∀{l:List (aH×β)},l.lookup x=aA v->(x,v)∈l
 |[],h=>by cases h
 |(y,w)::r,h=>by
  rw[f7] at h;cases q:x==y with
  |true=>rw[q] at h;cases h;rw[beq_iff_eq.mp q];exact dJ
  |false=>rw[q] at h;exact cW _ (cA h)
theorem N3(C:Ck D W Γ X k){c:Nat}(a:x∈Γ.G)(d:(x,c)∈Γ.cls):∃u v,B7 X x u/\gG v u/\∀p0,PE X (.Name x p0) (tC v):=by
 obtain⟨u,v,cv,r⟩:=C.clv x c d;refine⟨u,v,cv,r,λp0=>?_⟩;rcases cv with h|⟨h,e,b⟩
 .exact Yb (C.glb x a) h r.rel (C.dbG x a)
 .exact PK (C.glb x a) h e r.rel b (C.dbG x a)
theorem Ol (C:Ck D W Γ X k) (y:("isinstance":aH)∈Γ.G) (hg:Γ.gl "isinstance"=.none) (hs:aO a=aB) (e:J_ Γ c=aA cs) (ha:PE X a (aU D W f)):PE X (.Call (.Name "isinstance" p0) [a,c] [] pos) (aU D W (yP cs f)):=by
 have l:=C.glo _ y;rw[hg] at l;rintro j s B H Q I ⟨i,E,M,N,S,mr,p⟩;refine ij (wH I (C.glb _ y) l boot_isinstance ?_ (by decide) (C.dbG _ y));obtain⟨Y,hq,e⟩:=Fa.mp e;rw[Nb hq];split at e
 .rename_i hc;obtain⟨n,hl,rfl⟩:=ow.mp e;have l:=cA hl;obtain⟨J,O,cv,r,Z⟩:=N3 C (ik.mp ((cO ..).mp hc).2) l;refine Ac (aW (zK ha (zK (Z _) qL (z5 rfl)) (z5 hs) pos j s B H (λF h=>∃v t g b,F=[v,O]/\aQ E H b h/\aL D i b h g/\bA D i b h t v/\aJ D W i b h B (RV D i Q) (rN [n] t g)) I ⟨i,E,M,N,S,mr,p.bind.mono λt o w H' st m q v d=>⟨v,t,o,w,rfl,st,m,d,q⟩⟩) ?_) (z5 hs) (wh (by rfl));rintro us s1 ⟨F,h,A,T,v,t,g,b,rfl,st,m,d,q⟩;obtain⟨u,u2,rfl,V,U⟩:=vals2 T;rw[r.only U];refine RT C A m d V q λx L P q ht kx hP z=>?_;have k1:pU X.K L J=aA (dD x [n]):=by
   rw[C.isi x Y.1 n l L J ht cv,ZY];cases je x n<;>rfl
  exact PySem.W.kia_one kx A.kIn hP k1 z λR=>⟨.bl _,h,A.tok R,rfl,q.here m rfl⟩
 .cases e
end
section
variable {X:Cx}{D:DP}{W:XW}{Γ:Cn}{k:Nat}{pins:List (aF×bF)}{s:Shared}{σ:St}{H:Hp}{φ α:List aF}{τ:Sl}{μ:Mem}{f h:De}{a b:aI}{pos:Pos}{es:List aI}
def B1 (X:Cx)(D:DP)(W:XW)(fv:aD)(op:T->Mem->RE T):Prop:=
 ∀(pins:List (aF×bF)) (s:bB) (σ:St) (H:Hp) (φ α:List aF) (μ:Mem) (t:T) (v:V) (u:aD) (Q:VK),Inv X pins σ H s->aL D φ α H μ->bA D φ α H t v->RelV v u->aJ D W φ α H σ (RV D φ Q) (op t μ)->
  wpAny (aS X.prog X.w) X.A (call fv [u]) (EP X pins σ Q) X.xe s
theorem J5 (C:Ck D W Γ X k) {id:String}(n:x∈Γ.G) (M:Γ.gl x=.none) (K:hV x=aA (.builtin id)) (L:x≠"__name__") (hs:aO a=aB) (hb:B1 X D W (.builtin id) op) (N:PE X a (aU D W f)) :
  PE X (.Call (.Name x p0) [a] [] pos) (aU D W (dX op f)):=by
 have w:=C.glo _ n;rw[M] at w;rintro e s i H Q I ⟨g,o,y,z,A,J,p⟩;refine ij (wH I (C.glb _ n) w K ?_ L (C.dbG _ n));refine Ac (aW (zK N qL (z5 hs) pos e s i H (λr h=>∃v t c b,r=[v]/\aQ o H b h/\aL D g b h c/\bA D g b h t v/\aJ D W g b h i (RV D g Q) (op t c)) I ⟨g,o,y,z,A,J,p.bind.mono λt j l R st m q v d=>⟨v,t,j,l,rfl,st,m,d,q⟩⟩) ?_) (z5 hs) (wh (by rfl));rintro P B ⟨r,h,O,E,v,t,c,b,rfl,st,m,d,q⟩;obtain⟨u,rfl,F⟩:=vals1 E;exact hb e B i h g b c t v u Q O m d F q
theorem Cm (C:Ck D W Γ X k) {id:String}(n:x∈Γ.G) (M:Γ.gl x=.none) (K:hV x=aA (.type id)) (L:x≠"__name__") (hs:aO a=aB) (hb:B1 X D W (.type id) op) (N:PE X a (aU D W f)) :
  PE X (.Call (.Name x p0) [a] [] pos) (aU D W (dX op f)):=by
 have w:=C.glo _ n;rw[M] at w;rintro e s i H Q I ⟨g,o,y,z,A,J,p⟩;refine ij (wH I (C.glb _ n) w K ?_ L (C.dbG _ n));refine oF (aW (zK N qL (z5 hs) pos e s i H (λr h=>∃v t c b,r=[v]/\aQ o H b h/\aL D g b h c/\bA D g b h t v/\aJ D W g b h i (RV D g Q) (op t c)) I ⟨g,o,y,z,A,J,p.bind.mono λt j l R st m q v d=>⟨v,t,j,l,rfl,st,m,d,q⟩⟩) ?_) (z5 hs) (wh (by rfl));rintro P B ⟨r,h,O,E,v,t,c,b,rfl,st,m,d,q⟩;obtain⟨u,rfl,F⟩:=vals1 E;exact hb e B i h g b c t v u Q O m d F q
theorem Mp:B1 X D W (.builtin "len") u4:=by
 intro a s e H i k j t v u Q I c d r p;unfold u4 at p;split at p
 .obtain⟨ad,b,rfl,_,_,q,l⟩:=d;exact jz a s e H _ _ Q I (.cons r .nil) ⟨ad,b,rfl,.inl (.inl q),by rw[<-l.length];exact p.here c rfl⟩
 .obtain⟨ad,b,rfl,_,_,q,l⟩:=d;exact jz a s e H _ _ Q I (.cons r .nil) ⟨ad,b,rfl,.inr (.inl q),by rw[<-l.length];exact p.here c rfl⟩
 .cases d;obtain⟨f,p⟩:=p.grd;exact VE a s e H _ _ Q I (.cons r .nil) ⟨_,rfl,qa f,p.here c rfl⟩
 .obtain⟨m,g,p⟩:=p.ex1;obtain⟨ad,h,rfl⟩:=d;obtain⟨b,q,l⟩:=c.ob _ ad _ h g;exact jz a s e H _ _ Q I (.cons r .nil) ⟨ad,b,rfl,.inl (.inl (.inl q)),by rw[<-l.length];exact aJ.here p c rfl⟩
 .exact p.elim
theorem MF:B1 X D W (.type "int") oI:=by
 intro a s b H e g f t v u Q I c d r p;unfold oI at p;split at p
 .cases d;exact WB a s b H _ _ Q I (.cons r .nil) (.inl ⟨_,rfl,p.here c rfl⟩)
 .cases d;exact WB a s b H _ _ Q I (.cons r .nil) (.inr ⟨_,rfl,p.here c rfl⟩)
 .exact p.elim
theorem NN:B1 X D W (.type "list") Jz:=by
 intro b s f H i k j t v u Q I c d r p;unfold Jz at p;split at p
 .obtain⟨ad,e,rfl,_,_,q,l⟩:=d;exact jg b s f H _ _ Q I (.cons r .nil) ⟨ad,e,rfl,.inl (.inl q),λz a=>p.fresh c (zm a) ⟨z,e,rfl,zr c a,zt c a,.inl z3,l.step (aQ.new (zm a))⟩⟩
 .obtain⟨ad,e,rfl,_,_,q,l⟩:=d;exact jg b s f H _ _ Q I (.cons r .nil) ⟨ad,e,rfl,.inr (.inl q),λz a=>p.fresh c (zm a) ⟨z,e,rfl,zr c a,zt c a,.inl z3,l.step (aQ.new (zm a))⟩⟩
 .obtain⟨m,g,p⟩:=p.ex1;obtain⟨ad,h,rfl⟩:=d;obtain⟨e,q,l⟩:=c.ob _ ad _ h g;exact jg b s f H _ _ Q I (.cons r .nil) ⟨ad,e,rfl,.inl (.inl (.inl q)),λz a=>aJ.fresh p c (zm a) ⟨z,e,rfl,zr c a,zt c a,.inl z3,l.step (aQ.new (zm a))⟩⟩
 .exact p.elim
theorem jB(a:H p=aE):aQ α H (α++[p]) (upd H p o):=⟨⟨[p],rfl,by simpa using a⟩,λb u _ e=>zm a b u e,λb e=>by
 by_cases z:b=p
 .rw[z,z3] at e;cases e
 .rw[z7 z] at e;exact e⟩
theorem aL.lay(m:aL D φ α H μ)(g:H p=aE)(l:aM D φ α H ts vs):aL D φ (α++[p]) (upd H p (.lst vs)) (μ++[.lst ts]):=by
 have st:aQ α H (α++[p]) (upd H p (.lst vs)):=jB g;have r:=m.len;refine⟨by simp[r],?_,λb hb=>?_,λb hb=>?_,λi a o c f=>?_⟩
 .rw[lg];refine⟨m.nd,by simp,λa s b hb=>?_⟩;rw[bU.mp hb];intro z;exact zt m g (z▸s)
 .rcases b_.mp hb with h|h
  .exact m.dis b h
  .rw[bU.mp h];exact zr m g
 .obtain⟨u,e,n⟩:=m.phi b hb;exact⟨u,zm g b u e,n⟩
 .by_cases hi:i<α.length
  .rw[dP hi] at c;rw[dP (by lia)] at f;have d:=m.ob i a o c f;obtain⟨u,q,_⟩:=d.some;exact d.step st ((zm g _ _ q).trans q.symm)
  .rw[fP (by lia)] at c f;have k:i-α.length=0:=by
    by_cases z:i-α.length=0
    .exact z
    .rw[my (by simp;lia)] at c;cases c
   have j:i-μ.length=0:=by lia
   rw[k] at c;rw[j] at f;have c:aA p=aA a:=c;have f:aA (MO.lst ts)=aA o:=f;cases c;cases f;exact⟨vs,z3,l.step st⟩
theorem aJ.lay(q:aJ D W φ α H σ (RV D φ Q) (.ok (.mut μ.length) (μ++[.lst ts])))(m:aL D φ α H μ)(a:H p=aE)(l:aM D φ α H ts vs):Q (.ref p) (upd H p (.lst vs)):=
 q.ok (jB a) (m.lay a l) _ ⟨p,by rw[<-m.len,fP (bD _)];simp,rfl⟩
theorem NT(k:es.length<=aT)(l:dU X D W es fs):PE X (.List es pos) (aU D W (kO fs)):=by
 refine PE.mono (G8 (jk l)) ?_;rintro n H Q ⟨a,f,b,d,g,h,p⟩;refine⟨a,f,b,d,g,h,p.bind.mono λr c e s st m q o dl j=>⟨by rw[j];exact qa k,λz i=>q.lay m i dl⟩⟩
theorem JW:∀{ts:List T}{bs:List Bool}{vs:List V}{us:List aD},cU ts=aA bs->aM D φ α H ts vs->aY vs us->us=bs.map pP
 |[],bs,vs,us,h,l,r=>by
  simp[cU] at h;subst h;have l:vs=[]:=l;subst l;cases r;rfl
 |t::ts,bs,vs,us,h,l,r=>by
  obtain⟨v,w,rfl,d,l⟩:=l;cases t with
  |bl b=>
   simp only[cU] at h;cases q:cU ts with
   |none=>rw[q] at h;cases h
   |some cs=>
    rw[q] at h;cases h;cases r with
    |cons c a=>
     cases d;cases c;rw[JW q l a];rfl
  |_=>simp[cU] at h
theorem Mv(G:X.calm=aB):B1 X D W (.builtin "all") Xy:=by
 intro m s N H M P O t v u Q I z d r p;unfold Xy at p;split at p;case h_2=>exact p.elim
 rename_i R;obtain⟨bs,J,p⟩:=p.som;obtain⟨ad,S,rfl,_,_,q,l⟩:=d;cases r;obtain⟨c,w,y,U⟩:=I.list (.inl q);have eb:=JW J l w;have j:=y.isList;have g:ad<s.heap.objs.size:=by obtain⟨_,e,_⟩:=j;exact bX e
 refine call_all_walk (rA j ?_)
 refine⟨s.heap.objs.size,[s.heap.objs.size,ad],[s.heap.objs.size],c.toArray.size,_,_,λi=>(bs[i]?).getD aB,rfl,sP (A:=X.A.in1) (I.ok.hd G) _ ad (cX g) c.toArray,
  ⟨⟨_,eK _ rfl,rfl,rfl⟩,j.push _⟩,λi v T V Y K n=>?_,λL o F=>?_⟩
 .have a:c[i]?=aA v:=by simpa using K
  rw[eb,cE] at a;cases e:bs[i]? with
  |none=>rw[e] at a;cases a
  |some b=>
   rw[e] at a;simp at a;subst a;simp only[e,t_] at n;exact wpAny_truthy_bool n
 .have e:((eX c.toArray.size).all λi=>(bs[i]?).getD aB)=bs.all id:=by
   have C:c.toArray.size=bs.length:=by simp[eb]
   rw[C];rw[nT];simp only[f6,lP,id_eq];constructor
   .intro h b k;obtain⟨i,f,rfl⟩:=List.mem_iff_getElem.mp k;have:=h i f;simpa[f] using this
   .intro h i f;have:=h bs[i] (nX f);simpa[f] using this
  rw[e];have B:∀b x,s.heap.get? b=aA x->L.get? b=aA x:=λb x e=>F b x (λE=>by rw[bU.mp E] at e;exact iM _ (bX e)) (bY _ e);exact⟨.bl (bs.all id),H,I.kept (t':=o) B,rfl,p.here z rfl⟩
theorem aQ.turn(a:x∈α)(c:∃d,H x=aA d):aQ α H α (upd H x o):=by
 refine⟨⟨[],by simp,by simp⟩,λb u n e=>?_,λb e=>?_⟩
 .rw[z7 (λ(z:b=x)=>n (by rw[z];exact a))];exact e
 .by_cases z:b=x
  .rw[z,z3] at e;cases e
  .rw[z7 z] at e;exact e
theorem aL.turn(m:aL D φ α H μ)(g:α[i]?=aA x)(hi:i<μ.length)(st:aQ α H α (upd H x o))(d:d5 D φ α (upd H x o) r x):aL D φ α (upd H x o) (μ.set i r):=by
 refine⟨by simp[m.len],m.nd,m.dis,λb hb=>?_,λj y h c a=>?_⟩
 .obtain⟨u,k,n⟩:=m.phi b hb;exact⟨u,st.keep b u (λz=>m.dis b z hb) k,n⟩
 .by_cases q:i=j
  .subst q;rw[g] at c;cases c;rw[lY hi] at a;cases a;exact d
  .rw[bR q] at a;have ne:y≠x:=λz=>by
    subst z;obtain⟨h1,f⟩:=bE.mp c;obtain⟨h2,e⟩:=bE.mp g;exact q ((nZ m.nd).mp (e.trans f.symm))
   exact d5.step st (z7 ne) (m.ob j y h c a)
theorem Tk(e:aL D φ α H μ)(b:α[i]?=aA x)(c:μ[i]?=aA (.lst ts))(g:H x=aA (.lst xs))(l:aM D φ α H ts xs)(d:bA D φ α H t v) :
  aQ α H α (upd H x (.lst (xs++[v])))/\aL D φ α (upd H x (.lst (xs++[v]))) (μ.set i (.lst (ts++[t]))):=by
 have a:aQ α H α (upd H x (.lst (xs++[v]))):=aQ.turn (bK b) ⟨_,g⟩;have f:i<μ.length:=(bE.mp c).1;exact⟨a,e.turn b f a ⟨_,z3,(l.step a).append ⟨v,[],rfl,d.step a,rfl⟩⟩⟩
theorem Nw(S:zZ o=aB)(hs:aO a=aB)(b:(pa.endLine==pc.line)=aB)(ho:PE X o (aU D W go))(ha:PE X a (aU D W f)) :
  PE X (.Call (.Attribute o "append" pa) [a] [] pc) (aU D W (W3 go f)):=by
 have Y:dW [a] X.env=[(aC,eval a X.env)]:=z5 hs;refine PE.mono (GP wS PySem.F.slot_list_append PySem.F.type_list_append Wh ho (zK ha qL (z5 hs)) (qy S) (by rw[Y];rfl) b (z5 hs) rfl) ?_;rintro σ H Q ⟨w,I,y,G,z,O,p⟩;refine⟨w,I,y,G,z,O,p.bind.mono λot k m H1 r B q ov dv=>?_⟩;split at q;case h_2=>exact q.elim
 rename_i i;obtain⟨K,Z,⟨⟨M,g⟩,V⟩,U,R⟩:=q;obtain⟨x,s,rfl⟩:=dv;obtain⟨J,u,l0⟩:=B.ob _ x _ s g;refine⟨.inl ⟨rfl,_,.inl (.inl u)⟩,w,m,y,k,z.step r,B,_,Z,V,?_,R⟩;rintro t E ⟨ts,h,T,N⟩ c H2 e A v d;obtain⟨β,e2,_⟩:=e.ext;have j:c[i]?=aA x:=by
  rw[e2,dP (bE.mp s).1];exact s
 obtain⟨L,C,l⟩:=A.ob i x _ j h;obtain⟨n,P⟩:=Tk A j h C l d;refine⟨x,L,v,rfl,rfl,C,?_,?_⟩
 .rw[<-l.length];exact dC T (qa (bD _))
 .exact U _ _ N c _ (e.trans n) P .non rfl
end
structure iF(D:DP)(J:It)(Ok:List aF->List aF->Hp->Prop)(xs:List T):Prop where
 go:∀(i:Nat) φ α H,Ok φ α H->i<xs.length->J.go i H
 yld:∀(i:Nat) φ α H v H' t,Ok φ α H->xs[i]?=aA t->J.yld i H v H'->kL H H'/\bA D φ α H' t v
 stop:∀φ α H,Ok φ α H->J.stop xs.length H
def sH (D:DP)(φ α:List aF)(H:Hp)(xs:List T)(lv:Mem->Prop)(Ok:List aF->List aF->Hp->Prop):Prop:=∀a b d c,Lk φ α H a b d->aL D a b d c->lv c->Ok a b d
def gM (D:DP)(W:XW)(f:Di):TI:=λd H R=>nB D H d λc i g h=>
 aJ D W c i H d (λp a b e=>∀J Ok,iF D J Ok p.1->sH D c b e p.1 p.2 Ok->p.2 a->R J e) (f g h).re
theorem Lk.trans(a:Lk φ α H g r u)(b:Lk g r u d j s):Lk φ α H d j s:=
 ⟨λx o n1 n2 e=>let ⟨f,c,h⟩:=a.ob x o n1 n2 e;b.ob x o f c h,λi x e=>b.st i x (a.st i x e)⟩
theorem YE{D:DP}{φ α:List aF}{H:Hp}{b:Type}{f:b->T}{xs:List b}{i:Nat}(h:(xs.map f)[i]?=aA t):∃a,xs[i]?=aA a/\t=f a:=by
 rw[cE] at h;cases q:xs[i]? with
 |none=>rw[q] at h;cases h
 |some a=>rw[q] at h;cases h;exact⟨a,rfl,rfl⟩
section
variable {X:Cx}{D:DP}{W:XW}{Γ:Cn}{k:Nat}{pins:List (aF×bF)}{s:Shared}{σ:St}{H:Hp}{φ α:List aF}{τ:Sl}{μ:Mem}{f g h:De}{a b c tg:aI}{pos:Pos}{es:List aI}
theorem JI{K:bO}{ad:aF}:iF D (Ip K ad) (λφ α H=>∃vs,Rd H ad (.lst vs)/\aM D φ α H xs vs) xs:=
 ⟨λi φ α H ⟨vs,ok,l⟩ a=>⟨vs,vs[i]'(by rw[<-l.length];exact a),.inl ok,by simp⟩,λi φ α H v c t ⟨vs,ok,l⟩ a y=>by
  obtain⟨rfl,y⟩:=y;obtain⟨x,b,d⟩:=l.get a;have e:=y vs (.inl ok);rw[e] at b;cases b;exact⟨λ_ _ z=>z,d⟩,λφ α H ⟨vs,ok,l⟩=>⟨vs,.inl ok,by rw[l.length];exact bD _⟩⟩
theorem Us{i:Nat}(h:(eX n)[i]?=aA j):j=i:=by
 have:=(bE.mp h).2;simpa using this.symm
noncomputable def Dd(z:aH):It:=⟨λi _=>i<z.cps.toList.length,λi H x a=>a=H/\∃c,z.cps.toList[i]?=aA c/\x=.str ⟨#[c]⟩,λi _=>z.cps.toList.length<=i⟩
theorem PM{z:aH}:iF D (Dd z) (λ_ _ _=>True) (z.cps.toList.map λc=>T.str ⟨#[c]⟩):=
 ⟨λi φ α H _ a=>by (show i<_);simpa using a,λi φ α H v e t _ a y=>by
  obtain⟨j,d,rfl⟩:=YE (D:=D) (φ:=φ) (α:=α) (H:=H) a;obtain⟨rfl,c,b,rfl⟩:=y;rw[d] at b;cases b;exact⟨λ_ _ z=>z,rfl⟩,λφ α H _=>by show _<=_;simp⟩
theorem R8 {P:cI}{K:bO}(hk:kd="str_ascii_iterator"\/kd="str_iterator") (it:aF) (z:aH) (t0:Tok):fH P w K tg (Dd z) [it] it (λi h=>h.IsStrIter it kd z t0 i) where
 mem:=by simp
 obj:=λi h st b a=>by
  have e:b=it:=by simpa using a
  subst e;obtain⟨o,e,c,d⟩:=st;exact⟨o,e,λv z=>by rw[d] at z;cases z⟩
 keep:=λi h j st k=>let ⟨o,L,r⟩:=st;⟨o,k it (by simp) o L,r⟩
 item:=by
  intro X D hw F C i g s y H E I m st B;subst D hw F;obtain⟨x,u,N,t,q,p⟩:=m it (by simp);have M:i<z.cps.size:=by simpa[Dd] using B
  have l:z.cps[i]?=aA z.cps[i]:=Array.getElem?_eq_getElem M;have n:z.cps.toList[i]?=aA z.cps[i]:=by rw[Array.getElem?_toList];exact l
  rcases hk with rfl|rfl
  .refine wpAny_pyNext_ascii_item st l λj f A=>?_;have G:Inv X g y H {s with heap:=j,toks:=s.toks+1}:=I.turned (λb o a e=>(A.2 b a).trans e) x u t q p;obtain⟨o,e,c,d⟩:=id f;exact⟨.str ⟨#[z.cps[i]]⟩ s.toks,rfl,ZX (s:={s with heap:=j,toks:=s.toks+1}) e c d (by decide) ⟨.str ⟨#[z.cps[i]]⟩,H,G,⟨_,rfl⟩,⟨rfl,z.cps[i],n,rfl⟩,f,λb a=>(m b a).1⟩⟩
  .refine wpAny_pyNext_wide_item st l λj f A=>?_;have G:Inv X g y H {s with heap:=j,toks:=s.toks+1}:=I.turned (λb o a e=>(A.2 b a).trans e) x u t q p;obtain⟨o,e,c,d⟩:=id f;exact⟨.str ⟨#[z.cps[i]]⟩ s.toks,rfl,ZX (s:={s with heap:=j,toks:=s.toks+1}) e c d (by decide) ⟨.str ⟨#[z.cps[i]]⟩,H,G,⟨_,rfl⟩,⟨rfl,z.cps[i],n,rfl⟩,f,λb a=>(m b a).1⟩⟩
 done:=by
  intro X D hw F C i g s y H E I m st B;subst D hw F;obtain⟨x,u,N,t,q,p⟩:=m it (by simp);have J:z.cps[i]?=aE:=Array.getElem?_eq_none (by have:z.cps.toList.length<=i:=B;simpa using this);rcases hk with rfl|rfl
  .exact wpAny_pyNext_ascii_end (I.ok.hd C) st J λj eb=>⟨rfl,I.turned (t':=s.toks) (λb o a e=>eb b o a e) x u t q p⟩
  .exact wpAny_pyNext_wide_end (I.ok.hd C) st J λj eb=>⟨rfl,I.turned (t':=s.toks) (λb o a e=>eb b o a e) x u t q p⟩
 self:=λ_ _ _ _ _ st h=>by
  rcases hk with rfl|rfl
  .exact wpAny_pyIter_striter_ascii st h
  .exact wpAny_pyIter_striter_wide st h
theorem Ro(F:PE X a (aU D W f)):PI X tg a (gM D W (iE f)):=by
 rintro y s x H R I ⟨w,α,τ,μ,sr,mr,p⟩;refine aW (sub F I sr mr p) ?_;rintro u c ⟨v,n,t,d,g,h,N,Z,sr1,k,C,p1⟩;cases t with
 |lst T=>
  obtain⟨ad,S,rfl,n1,n2,q,l⟩:=C;cases N;obtain⟨Q,rv,P,hz⟩:=h.list (.inl q);refine rA P.isList ?_;refine⟨c.heap.objs.size,[c.heap.objs.size],_,_,n,rfl,h.kept (t':=c.toks) λb o e=>bY _ e,WY ad _,⟨_,eK _ rfl,rfl,rfl⟩,λb A=>?_,?_⟩
  .have e:b=c.heap.objs.size:=by simpa using A
   subst e;exact h.fpOk (bD _) (h.hok.fresh (bD _))
  .have i:aJ D W w g n x _ (RE.ok (T,gW) d):=p1;exact i.ok (aQ.refl _ _) k _ _ JI (λG L H' J lk _ _=>by
    obtain⟨a',M,e,_,_,O,l'⟩:=bA.lk lk (show bA D w g n (.lst T) (.ref ad) from ⟨ad,S,rfl,n1,n2,q,l⟩);cases e;exact⟨M,O,l'⟩) trivial
 | «mut» j=>
  obtain⟨ad,Y,rfl⟩:=C;cases N;have i:aJ D W w g n x _ (λK _=>∃r,d[j]?=aA (.lst r)/\K (r,iQ j r) d):=p1;obtain⟨r,V,i⟩:=i.ex1;obtain⟨S,q,l⟩:=k.ob j ad _ Y V;obtain⟨Q,rv,P,hz⟩:=h.list (.inl (.inl q));refine rA P.isList ?_;refine⟨c.heap.objs.size,[c.heap.objs.size],_,_,n,rfl,h.kept (t':=c.toks) λb o e=>bY _ e,WY ad _,⟨_,eK _ rfl,rfl,rfl⟩,λb A=>?_,?_⟩
  .have e:b=c.heap.objs.size:=by simpa using A
   subst e;exact h.fpOk (bD _) (h.hok.fresh (bD _))
  .have i:aJ D W w g n x _ (RE.ok (r,iQ j r) d):=i;exact i.ok (aQ.refl _ _) k _ _ JI (λG L H' J lk m hl=>by
    obtain⟨M,O,l'⟩:=m.ob j ad _ (lk.st j ad Y) hl;exact⟨M,.inl O,l'⟩) V
 |str z=>
  have C:v=.str z:=C;subst C;obtain⟨U,rfl⟩:=N;have B:∀{E:String},(E="str_ascii_iterator"\/E="str_iterator")->pq X y x tg R (.ref c.heap.objs.size) {c with heap:=c.heap.push {cls:=.type E,data:=.fields #[.str z U,.int 0 0]}}:=λ{E} hk=>by
   refine⟨c.heap.objs.size,[c.heap.objs.size],_,_,n,rfl,h.kept (t':=c.toks) λb o e=>bY _ e,R8 hk _ z U,⟨_,eK _ rfl,rfl,rfl⟩,λb A=>?_,?_⟩
   .have e:b=c.heap.objs.size:=by simpa using A
    subst e;exact h.fpOk (bD _) (h.hok.fresh (bD _))
   .have i:aJ D W w g n x _ (RE.ok (ZO z,gW) d):=p1;exact i.ok (aQ.refl _ _) k _ _ PM (λ_ _ _ _ _ _ _=>gB) trivial
  cases F:z.cps.all (·<128) with
  |true=>exact wpAny_pyIter_ascii F (B (.inl rfl))
  |false=>exact wpAny_pyIter_wide F (B (.inr rfl))
 |_=>exact aJ.elim p1
theorem zbw(h:aY (x::xs) us):∃u r,us=u::r/\RelV x u/\aY xs r:=by
 cases h with
 |cons r q=>exact⟨_,_,rfl,r,q⟩
noncomputable def nC(lo c:Int)(n:Nat):It:=⟨λi _=>i<n,λi H x a=>a=H/\x=.int (lo+i*c),λi _=>n<=i⟩
theorem V_{P:cI}{K:bO}(it:aF)(lo c:Int)(n:Nat):fH P w K tg (nC lo c n) [it] it (λi h=>IsRangeIter h it (lo+(i:Nat)*c) ((n:Int)-(i:Nat)) c) where
 mem:=by simp
 obj:=λi h st b d=>by
  have e:b=it:=by simpa using d
  subst e;exact⟨_,st,λv z=>by cases (show pI _=pF v from z)⟩
 keep:=λi h j st k=>k it (by simp) _ st
 item:=by
  intro X p hw q m i a s B H E I g st l;subst p hw q;obtain⟨A,y,G,x,u,r⟩:=g it (by simp);have W:=Walks.range (prog:=X.prog) (w:=X.w) (I.ok.hd m) it lo c n;refine W.item i s _ _ l st λv j C F f D=>?_;obtain⟨t,rfl⟩:=F;have J:Inv X a B H {s with heap:=j,toks:=C}:=I.turned (λb o d e=>D b o (by simpa using d) e) A y x u r;exact⟨_,rfl,ZX (s:={s with heap:=j,toks:=C}) (n:="range_iterator") f rfl rfl (by decide) ⟨.int (lo+i*c),H,J,⟨t,rfl⟩,⟨rfl,rfl⟩,f,λb d=>(g b d).1⟩⟩
 done:=by
  intro X p hw q m i a s B H E I g st l;subst p hw q;obtain⟨A,y,G,x,u,r⟩:=g it (by simp);exact wpAny_pyNext_range_end (I.ok.hd m) st (by have:n<=i:=l;lia) λj eb=>⟨rfl,I.turned (t':=s.toks) (λb o d e=>eb b o d e) A y x u r⟩
 self:=λ_ _ _ _ _ st h=>wpAny_pyIter_rangeiter st h
theorem Jl{P:cI}{K:bO}(it:aF)(lo c:Int)(n:Nat):fH P w K tg (nC lo c n) [it] it (λi h=>IsLongIter h it (lo+(i:Nat)*c) ((n:Int)-(i:Nat)) c) where
 mem:=by simp
 obj:=λi h st b d=>by
  have e:b=it:=by simpa using d
  subst e;exact⟨_,st,λv z=>by cases (show pI _=pF v from z)⟩
 keep:=λi h j st k=>k it (by simp) _ st
 item:=by
  intro X p hw q m i a s B H E I g st l;subst p hw q;obtain⟨A,y,G,x,u,r⟩:=g it (by simp);have W:=Walks.longrange (prog:=X.prog) (w:=X.w) (I.ok.hd m) it lo c n;refine W.item i s _ _ l st λv j C F f D=>?_;obtain⟨t,rfl⟩:=F;have J:Inv X a B H {s with heap:=j,toks:=C}:=I.turned (λb o d e=>D b o (by simpa using d) e) A y x u r;exact⟨_,rfl,ZX (s:={s with heap:=j,toks:=C}) (n:="longrange_iterator") f rfl rfl (by decide) ⟨.int (lo+i*c),H,J,⟨t,rfl⟩,⟨rfl,rfl⟩,f,λb d=>(g b d).1⟩⟩
 done:=by
  intro X p hw q m i a s B H E I g st l;subst p hw q;obtain⟨A,y,G,x,u,r⟩:=g it (by simp);exact wpAny_pyNext_long_end (I.ok.hd m) st (by have:n<=i:=l;lia) λj eb=>⟨rfl,I.turned (t':=s.toks) (λb o d e=>eb b o d e) A y x u r⟩
 self:=λ_ _ _ _ _ st h=>wpAny_pyIter_longiter st h
theorem Ry{a b c:Int}(d:0<c):rH a b c=if a<b then (b-a-1) / c+1 else 0:=by
 unfold rH;rw[if_pos d]
theorem Wr{σ:St}{H:Hp}{lo hi c:Int}{t u v:Tok}(I:Inv X pins σ H s)(i:0<c)
  (q:R (nC lo c (if lo<hi then (hi-lo-1) / c+1 else 0:Int).toNat) H):wpAny (aS X.prog X.w) X.A (mM (.ref s.heap.objs.size)) (pq X pins σ tg R) E {s with heap:=s.heap.push {cls:=.type "range",data:=.fields #[.int lo t,.int hi u,.int c v]},toks:=tk}:=by
 have a:Inv X pins σ H {s with heap:=s.heap.push {cls:=.type "range",data:=.fields #[.int lo t,.int hi u,.int c v]},toks:=tk}:=I.kept λb o e=>bY _ e;have h:lo+((0:Nat):Int)*c=lo:=by simp
 have g:(((if lo<hi then (hi-lo-1) / c+1 else 0:Int).toNat:Nat):Int)-((0:Nat):Int)=rH lo hi c:=by
  rw[Ry i];have:0<=(if lo<hi then (hi-lo-1) / c+1 else 0):=by
   split
   .have j:0<=(hi-lo-1) / c:=rj (by omega) (by omega);omega
   .omega
  omega
 have fr:∀b∈[(s.heap.push {cls:=.type "range",data:=.fields #[.int lo t,.int hi u,.int c v]}).objs.size],b=(s.heap.push {cls:=.type "range",data:=.fields #[.int lo t,.int hi u,.int c v]}).objs.size:=λb f=>by simpa using f
 cases d:IB lo hi c with
 |true=>
  refine wpAny_pyIter_range (tF ..) d ?_
  refine⟨(s.heap.push {cls:=.type "range",data:=.fields #[.int lo t,.int hi u,.int c v]}).objs.size,[(s.heap.push {cls:=.type "range",data:=.fields #[.int lo t,.int hi u,.int c v]}).objs.size],_,_,H,rfl,
   a.kept (t':=tk) λb o e=>bY _ e,V_ _ lo c (if lo<hi then (hi-lo-1) / c+1 else 0:Int).toNat,?_,λb f=>?_,q⟩
  .show IsRangeIter _ _ (lo+((0:Nat):Int)*c) ((((if lo<hi then (hi-lo-1) / c+1 else 0:Int).toNat:Nat):Int)-((0:Nat):Int)) c;rw[h,g];exact eK _ rfl
  .rw[fr b f];exact a.fpOk (bD _) (a.hok.fresh (bD _))
 |false=>
  refine wpAny_pyIter_longrange (tF ..) d ?_
  refine⟨(s.heap.push {cls:=.type "range",data:=.fields #[.int lo t,.int hi u,.int c v]}).objs.size,[(s.heap.push {cls:=.type "range",data:=.fields #[.int lo t,.int hi u,.int c v]}).objs.size],_,_,H,rfl,
   a.kept (t':=tk) λb o e=>bY _ e,Jl _ lo c (if lo<hi then (hi-lo-1) / c+1 else 0:Int).toNat,?_,λb f=>?_,q⟩
  .show IsLongIter _ _ (lo+((0:Nat):Int)*c) ((((if lo<hi then (hi-lo-1) / c+1 else 0:Int).toNat:Nat):Int)-((0:Nat):Int)) c;rw[h,g];exact eK _ rfl
  .rw[fr b f];exact a.fpOk (bD _) (a.hok.fresh (bD _))
theorem ZS{lo c:Int}{n:Nat}:iF D (nC lo c n) (λ_ _ _=>True) ((eX n).map λ(i:Nat)=>T.int (lo+i*c)):=
 ⟨λi φ α H _ a=>by (show i<n);simpa using a,λi φ α H v d t _ a y=>by
  obtain⟨j,b,rfl⟩:=YE (D:=D) (φ:=φ) (α:=α) (H:=H) a;rw[Us b];obtain⟨rfl,rfl⟩:=y;exact⟨λ_ _ z=>z,rfl⟩,λφ α H _=>by show n<=_;simp⟩
theorem Uq (C:Ck D W Γ X k) (L:("range":aH)∈Γ.G) (hg:Γ.gl "range"=.none) (h:aO a=aB) (d:aO b=aB) (ha:PE X a (aU D W f)) (hb:PE X b (aU D W g)) :
  PI X tg (.Call (.Name "range" p0) [a,b] [] pos) (gM D W (Ke f g)):=by
 have M:=C.glo _ L;rw[hg] at M;rintro e s F H R I ⟨l,O,E,N,K,Y,p⟩;refine Call_ (wH I (C.glb _ L) M sO (oF (aW (zK ha (zK hb qL (z5 d)) (z5 h) pos e s F H (λJ B=>∃i j:Int,J=[.int i,.int j]/\R (nC i 1 (if i<j then (j-i-1) / 1+1 else 0:Int).toNat) B) I ?_) ?_) (by rw[z5 h,z5 d]) (by rw[z5 d];rfl)))
 .refine⟨l,O,E,N,K,Y,p.bind.mono λx n u B v m1 V Q A=>⟨l,u,E,n,K.step v,m1,V.bind.mono λy m o H2 S Z c P z=>?_⟩⟩;cases x with
  |int i=>
   cases y with
   |int j=>
    have c:aJ D W l o H2 F _ (RE.grd (mE i/\mE j) (RE.ok (kb i j 1,gW) m)):=c;obtain⟨hh,c⟩:=c.grd;have A:Q=.int _:=A;have z:P=.int _:=z;subst A z;exact⟨_,_,rfl,c.ok (aQ.refl _ _) Z _ _ ZS (λ_ _ _ _ _ _ _=>gB) trivial⟩
   |_=>exact aJ.elim c
  |_=>exact aJ.elim c
 .rintro us s1 ⟨J,B,I1,T,i,j,rfl,q⟩;cases T with
  |cons r w=>
   cases w with
   |cons U w=>
    cases w;obtain⟨t,rfl⟩:=r;obtain⟨t',rfl⟩:=U;exact call_range_2 (Wr I1 (by omega) q)
theorem RZ (C:Ck D W Γ X k) (o:("range":aH)∈Γ.G) (J:Γ.gl "range"=.none) (hs:aO a=aB) (K:PE X a (aU D W f)) :
  PI X tg (.Call (.Name "range" p0) [a] [] pos) (gM D W (AY f)):=by
 have u:=C.glo _ o;rw[J] at u;rintro b s h H R I ⟨g,z,x,y,A,F,p⟩;refine Call_ (wH I (C.glb _ o) u sO (oF (aW (zK K qL (z5 hs) pos b s h H (λl w=>∃j:Int,l=[.int j]/\R (nC 0 1 (if 0<j then (j-0-1) / 1+1 else 0:Int).toNat) w) I ?_) ?_) (z5 hs) rfl))
 .refine⟨g,z,x,y,A,F,p.bind.mono λt c e O st m q v d=>?_⟩;cases t with
  |int n=>
   have d:v=.int _:=d;subst d;have q:aJ D W g e O h _ (RE.grd (mE n) (RE.ok (rangeT n,gW) c)):=q;obtain⟨S,q⟩:=q.grd;have M:(if 0<n then (n-0-1) / 1+1 else 0:Int).toNat=n.toNat:=by
    split
    .rw[DH];congr 1;lia
    .lia
   have L:((eX n.toNat).map λ(i:Nat)=>T.int (0+i*1))=rangeT n:=by
    unfold rangeT;refine m5 λi _=>?_;simp
   refine⟨n,rfl,?_⟩;rw[M];exact q.ok (aQ.refl _ _) m _ _ (L▸ZS) (λ_ _ _ _ _ _ _=>gB) trivial
  |_=>exact aJ.elim q
 .rintro P Q ⟨l,w,N,B,j,rfl,q⟩;cases B with
  |cons r E=>
   cases E;obtain⟨t,rfl⟩:=r;exact call_range_1 (Wr N (by lia) q)
def cY (N:List aH):List aI->Option (List Nat)
 |[]=>aA []
 |.Name x _::r=>match cJ N x,cY N r with
  |some i,aA a=>aA (i::a)
  |_,_=>aE
 |_::_=>aE
def vF (N:List aH):aI->Option Tg
 |.Name x _=>(cJ N x).map Tg.one
 |.Tuple es _ _=>(cY N es).map Tg.tup
 |_=>aE
noncomputable def z6:aI->List aH
 |.Name x _=>[x]
 |.Tuple es _ _=>es.filterMap λe=>match e with|.Name x _=>aA x|_=>aE
 |_=>[]
def nz (X:Cx)(S:List aH):Prop:=∀x∈S,Loc X.env.scope x/\(X.fn x=aB\/X.env.scope.names.lookup x=aA .local)
theorem Yd(hN:X.N=N)(nd:N.Nodup)(o:nz X S):∀{es:List aI}{is:List Nat}{ts:List T}{τ a:Sl},(∀e∈es,∀x p,e=.Name x p->x∈S)->cY N es=aA is->JQ is ts τ=aA a->
  ∃t,pv X es t/\(ig es X.env).length=ts.length/\(ig es X.env).findIdx? (·.1)=aE/\∀{σ:St}{vs:List V}{φ α H} {Q:St->Hp->Prop},a_ D φ α H τ σ->aM D φ α H ts vs->(∀j,a_ D φ α H a j->Q j H)->t vs σ H Q
 |[],is,ts,τ,a,_,b,h=>by
  simp[cY] at b;subst b;cases ts with
  |nil=>
   simp[JQ] at h;subst h;exact⟨FX,OX,rfl,rfl,λf l q=>⟨l,q _ f⟩⟩
  |cons _ _=>simp[JQ] at h
 |e::es,is,ts,τ,a,w,b,h=>by
  cases e with
  |Name x c=>
   simp only[cY] at b;split at b
   .rename_i i m B n;cases b;cases ts with
    |nil=>simp[JQ] at h
    |cons t ts=>
     have h:JQ m ts (Z6 τ i (aA t))=aA a:=h;have s:=w _ dJ x c rfl;have y:PG X (.Name x c) (Y3 i):=Yw (hN▸nd) (by rw[hN];exact vT B) (o x s).1 (o x s).2;obtain⟨u,g,A,C,z⟩:=Yd hN nd o (λe E=>w e (cW _ E)) n h;refine⟨GK (Y3 i) u,Te y g rfl,by simpa[ig] using A,?_,λ{σ vs φ α H Q} f l k=>?_⟩
     .have F:ig (.Name x c::es) X.env=(aC,ib (.Name x c) X.env)::ig es X.env:=rfl;rw[F,List.findIdx?_cons];simp[C]
     .obtain⟨v,r,rfl,d,l⟩:=l;exact⟨v,r,rfl,z (f.set d) l k⟩
   .cases b
  |_=>simp[cY] at b
theorem XF(hN:X.N=N)(nd:N.Nodup)(m:nz X S)(O:X.calm=aB)(B:∀x∈z6 e,x∈S)(h0:vF N e=aA tgt)(h:h_ tgt t τ=aA z)(I:Inv X pins σ H s)(o:a_ D φ α H τ σ)(d:bA D φ α H t v)(r:RelV v u) :
  wpAny (aS X.prog X.w) X.A (ib e X.env u) (λ_ G=>∃j,Inv X pins j H G/\a_ D φ α H z j) X.xe s:=by
 cases e with
 |Name x y=>
  simp only[vF] at h0;cases q:cJ N x with
  |none=>rw[q] at h0;cases h0
  |some i=>
   rw[q] at h0;cases h0;cases (bQ h:Z6 τ i (aA t)=z);have c:x∈S:=B x (by simp[z6]);refine aW (Yw (i:=i) (hN▸nd) (by rw[hN];exact vT q) (m x c).1 (m x c).2 pins s σ H v u (λj b=>b=H/\j=σ.set i (aA v)) I r ⟨rfl,rfl⟩) ?_;rintro _ E ⟨j,b,n,rfl,rfl⟩;exact⟨_,n,o.set d⟩
 |Tuple es F y=>
  simp only[vF] at h0;cases q:cY N es with
  |none=>rw[q] at h0;cases h0
  |some Q=>
   rw[q] at h0;cases h0;cases t with
   |tup P=>
    obtain⟨g,f,K,L,J⟩:=Yd (D:=D) hN nd m (λe M x p c=>B x (by subst c;exact oz.mpr ⟨_,M,rfl⟩)) q h;obtain⟨ad,C,rfl,_,_,q,l⟩:=d;refine aW (M3 (k:=F) (pos:=y) O f K L pins s σ H (.ref ad) u (λj b=>b=H/\a_ D φ α H z j) I r ⟨ad,C,rfl,.inl q,l.length.symm,J o l λj a=>⟨rfl,a⟩⟩) ?_;rintro _ E ⟨j,b,n,rfl,a⟩;exact⟨j,n,a⟩
   |_=>cases h
 |_=>simp[vF] at h0
end
theorem RN(env:Env):∀(names:List (aH×lF)) (cs:List (aH×aF)),(∀p∈names,p.2=.free->∃c,env.cells.lookup p.1=aA c)->
  ∃cl,(forIn names cs (λ(x:aH×lF) r=>if (x.2==.free)=aB then do let a ←cellOf env x.1;pure (lQ ((x.1,a)::r)) else pure (lQ r)):Sem (List (aH×aF)))=pure cl/\
   (∀x c,cl.lookup x=aA c->cs.lookup x=aA c\/(env.cells.lookup x=aA c/\∃p∈names,p.1=x/\p.2=.free))/\(∀x c,cs.lookup x=aA c->∃g,cl.lookup x=aA g)/\∀p∈names,p.2=.free->∃c,cl.lookup p.1=aA c:=by
 intro names;induction names with
 |nil=>intro cs _;exact⟨cs,rfl,λx c h=>.inl h,λx c h=>⟨c,h⟩,λp d=>absurd d (by simp)⟩
 |cons p names u=>
  intro cs h;rw[tL];by_cases d:p.2=.free
  .obtain⟨c,v⟩:=h p dJ d;have e:cellOf env p.1=pure c:=by unfold cellOf;rw[v]
   rw[if_pos (by simp[d]),e];obtain⟨cl,t,s,k,o⟩:=u ((p.1,c)::cs) λq b=>h q (cW _ b);refine⟨cl,t,λx g i=>?_,λx g i=>?_,λq b l=>?_⟩
   .rcases s x g i with z|⟨z,q,b,n,m⟩
    .rw[f7] at z;cases f:x==p.1 with
     |true=>
      simp[f] at z;subst z;have j:x=p.1:=by simpa using f
      exact .inr ⟨by rw[j];exact v,p,dJ,j.symm,d⟩
     |false=>simp[f] at z;exact .inl z
    .exact .inr ⟨z,q,cW _ b,n,m⟩
   .cases f:x==p.1 with
    |true=>exact k x c (by simp[f7,f])
    |false=>exact k x g (by simp[f7,f,i])
   .rcases cK.mp b with rfl|b
    .exact k _ c (by simp[f7])
    .exact o q b l
  .rw[if_neg (by simp[d])];obtain⟨cl,t,s,k,o⟩:=u cs λq b=>h q (cW _ b);refine⟨cl,t,λx g i=>?_,k,λq b l=>?_⟩
   .rcases s x g i with z|⟨z,q,b,n,m⟩
    .exact .inl z
    .exact .inr ⟨z,q,cW _ b,n,m⟩
   .rcases cK.mp b with rfl|b
    .exact absurd l d
    .exact o q b l
noncomputable def Qo(sc:Scope):List aH:=(sc.names.filter λp=>p.2==.globalImplicit).map (·.1)
noncomputable def frees(sc:Scope):List aH:=(sc.names.filter λp=>p.2==.free).map (·.1)
theorem j0:x∈frees sc↔∃p∈sc.names,p.1=x/\p.2=.free:=by
 unfold frees;simp only[b7,eW,beq_iff_eq];constructor
 .rintro⟨p,⟨c,b⟩,a⟩;exact⟨p,c,a,b⟩
 .rintro⟨p,c,a,b⟩;exact⟨p,⟨c,b⟩,a⟩
theorem Q7(h:∀x∈frees sc,∃c,env.cells.lookup x=aA c) :
  ∃cl,mT sc env=pure cl/\(∀x c,cl.lookup x=aA c->env.cells.lookup x=aA c/\x∈frees sc)/\∀x∈frees sc,∃c,cl.lookup x=aA c:=by
 obtain⟨cl,j,i,k,g⟩:=RN env sc.names [] λp a d=>h p.1 (j0.mpr ⟨p,a,rfl,d⟩);refine⟨cl,?_,λx c b=>?_,λx b=>?_⟩
 .rw[<-j];unfold mT;simp
 .rcases i x c b with z|⟨z,p,a,f,e⟩
  .simp at z
  .exact⟨z,j0.mpr ⟨p,a,f,e⟩⟩
 .obtain⟨p,a,rfl,d⟩:=j0.mp b;exact g p a d
section
variable {M:Model}{A:Around}{E:aD->Shared->Prop}{s:Shared}{env:Env}
def Vv(M:Model)(A:fQ)(E:aD->bB->Prop)(use:Option (aD->Sem Unit))(Q:aD->bB->Prop)(a:aD)(ce:Env):mL->bB->Prop
 |.ok _,t=>(match use with
  |none=>∃m,t.heap.Ns ce.locals m/\∀g,fR ce.locals t.heap g->Q a {t with heap:=g}
  |some u=>wpAny M A (u a) (λ_ b=>∃m,b.heap.Ns ce.locals m/\∀g,fR ce.locals b.heap g->Q .none {b with heap:=g}) E t)
 |.error x,t=>∃m,t.heap.Ns ce.locals m/\∀g,fR ce.locals t.heap g->wpAny M A (passOn "comprehension.variables-let-go" x ce:Sem aD) (λ_ _=>False) E {t with heap:=g}
theorem O3{mk fst:Sem aD}{use:Option (aD->Sem Unit)} 
  (h1:clausesOf e=g::gs) (h2:∀x,lW g.iter env x=pure x) (K:mT sc env=pure cl) (n:sc.kind=.function) (J:∀x∈sc.names,x.2=.local->sc.names.lookup x.1=aA .local)
  (h:wpAny M A fst (λx t1=>wpAny M A (mM x) (λit D=>wpAny M A mk (λd C=>wpAny M A (newFunctionEnv sc env.globals cl [] env.qual aE .none (aA env)) (λce B=>
    gz M A (.compStart e 0 it d {ce with scope:=eN sc env}) (Vv M A E use Q d {ce with scope:=eN sc env}) B) E C) E D) E t1) E s) :
  wpAny M A (rc e sc env pos mk aC fst use) Q E s:=by
 unfold rc;rw[K,h1];have a:∀(x:aD) (t:bB),E x t->E x t:=λ_ _ z=>z;refine wpAny_bind (dY h (λx t1 G=>?_) a);refine wpAny_bind (hW (wpAny_bind (nP (h2 x) (wpAny_bind (wpAny_holding (dY G (λit D F=>?_) a))))));refine wpAny_standIf (wpAny_bind (dY F (λd C w=>?_) a));refine wpAny_bind (wpAny_pure (wpAny_bind (dY w (λce B v=>?_) a)));dsimp only
 have H:∀y∈(sc.names.filter λx=>(x.2==.local || x.2==.cell)&&x.1 != (".0":aH)),y.2=.local->Env.kindOf {ce with scope:=eN sc env} y.1=aA .local:=
  λy i I=>lookup_relabel_local (J y (eW.mp i).1 I)
 have k:∀y∈(sc.names.filter λx=>(x.2==.local || x.2==.cell)&&x.1 != (".0":aH)).reverse,y.2=.local->Env.kindOf {ce with scope:=eN sc env} y.1=aA .local:=
  λy i=>H y (Ec.mp i)
 refine wpAny_holding (wpAny_bind (wpAny_attempt (wpAny_holding (wpAny_run (i7 v λr o l=>?_)))));cases r with
 |error x=>
  obtain⟨m,j,b⟩:=l;refine wpAny_bind (wpAny_holding (t9 (cenv:={ce with scope:=eN sc env}) n _ o m k j λg p _ c=>?_));exact dY (b g c) (λ_ _ z=>z.elim) a
 |ok f=>
  cases use with
  |none=>
   obtain⟨m,j,b⟩:=l;exact wpAny_bind (wpAny_holding (t9 (cenv:={ce with scope:=eN sc env}) n _ o m k j λg p _ c=>wpAny_pure (b g c)))
  |some u=>
   refine wpAny_bind (sN (wpAny_bind (wpAny_holding (dY l (λ_ q b=>?_) a))));obtain⟨m,j,b⟩:=b;refine wpAny_bind (t9 (cenv:={ce with scope:=eN sc env}) n _ q m (λy i=>?_) j λg p _ c=>wpAny_pure (b g c));rcases b_.mp i with z|z
   .exact k y (Es z)
   .exact k y (iN z)
end
section
variable {prog:Program}{w:World}{A:Around}{R:Result->Shared->Prop}{s:Shared}
theorem S5(elt a iter:aI)(ifs:List aI)(scope:Scope)(pos:Pos)(it b:aD)(env:Env) :
  compTurn (.ListComp elt [⟨a,iter,ifs,0⟩] scope pos) 0 it b env=(standAt iter.pos >>= λ_=>mO it >>= λr=>match r with
   |none=>pure (.done .next)
   |some v=>nU a it v >>= λ_=>ib a env v >>= λ_=>
    (forIn ifs aB λc s=>if s=aB then isTrue c env (eval c env) >>= λok=>pure (lQ ok) else pure (lQ s)) >>= λok=>
     if ok=aB then (eval elt env >>= λx=>call (.builtin "list.append") [b,x] >>= λ_=>pure ()) >>= λ_=>
      again (.compLoop (.ListComp elt [⟨a,iter,ifs,0⟩] scope pos) 0 it b env)
     else again (.compLoop (.ListComp elt [⟨a,iter,ifs,0⟩] scope pos) 0 it b env)):=by rfl
noncomputable def ua(M:Model)(A:fQ)(env:Env)(E:aD->bB->Prop):List aI->(Bool->bB->Prop)->bB->Prop
 |[],Q,s=>Q aB s
 |c::cs,Q,s=>wpAny M A (isTrue c env (eval c env)) (λb a=>if b=aB then ua M A env E cs Q a else Q aC a) E s
theorem WV:∀(cs:List aI) {s:bB},Q aC s->
  wpAny M A (forIn cs aC λc s=>if s=aB then isTrue c env (eval c env) >>= λok=>pure (lQ ok) else pure (lQ s)) Q E s
 |[],s,h=>wpAny_pure h
 |c::cs,s,h=>by
  rw[tL];refine wpAny_bind ?_;rw[if_neg (by decide)];exact wpAny_pure (WV cs h)
theorem Jx:∀(cs:List aI) {s:bB},ua M A env E cs Q s->
  wpAny M A (forIn cs aB λc s=>if s=aB then isTrue c env (eval c env) >>= λok=>pure (lQ ok) else pure (lQ s)) Q E s
 |[],s,h=>wpAny_pure h
 |c::cs,s,h=>by
  rw[tL];refine wpAny_bind ?_;rw[if_pos rfl];refine wpAny_bind (aW h λb d a=>wpAny_pure ?_);cases b with
  |true=>rw[if_pos rfl] at a;exact Jx cs a
  |false=>rw[if_neg (by decide)] at a;exact WV cs a
theorem YQ(I:Nat->bB->Prop)
  (turn:∀n s,I n s->wpAny (aS prog w) A (mO it) (λr j=>match r with
   |none=>R (.ok .next) j
   |some v=>wpAny (aS prog w) A (nU d it v) (λ_ D=>wpAny (aS prog w) A (ib d env v) (λ_ C=>ua (aS prog w) A env (notedBy (aS prog w) A env λx G=>R (.error x) G) ifs (λb g=>
     if b=aB then wpAny (aS prog w) A (eval elt env) (λx B=>wpAny (aS prog w) A (call (.builtin "list.append") [E,x]) (λ_ u=>∃m,m<n/\I m u) (λ_ _=>False) B) (notedBy (aS prog w) A env λx G=>R (.error x) G) g else ∃m,m<n/\I m g) C) (λ_ _=>False) D) (λ_ _=>False) j) (λ_ _=>False) s)
  (n:Nat) (h:I n s):gz (aS prog w) A (.compLoop (.ListComp elt [⟨d,iter,ifs,0⟩] scope pos) 0 it E env) R s:=by
 refine codeAny_loop rfl I (λn s o=>?_) n h;show wpAny _ _ ((compTurn (.ListComp elt [⟨d,iter,ifs,0⟩] scope pos) 0 it E env).onRaise (λx=>do pG x env;theTreesLotGoes x)) _ _ s;refine wpAny_noted ?_;rw[S5];have nx:∀{l:Type}{t:Sem l}{Q:l->bB->Prop}{s:bB}{N:aD->bB->Prop},wpAny (aS prog w) A t Q (λ_ _=>False) s->wpAny (aS prog w) A t Q N s:=λh=>dY h (λ_ _ q=>q) λ_ _ z=>z.elim;refine wpAny_bind (hW (wpAny_bind (nx (aW (turn n s o) λr j c=>?_))));cases r with
 |none=>exact wpAny_pure c
 |some v=>
  refine wpAny_bind (nx (aW c λ_ D k=>?_));refine wpAny_bind (nx (aW k λ_ C i=>?_));refine wpAny_bind (aW (Jx ifs i) λb g a=>?_);cases b with
  |true=>
   rw[if_pos rfl] at a ⊢;exact wpAny_bind (wpAny_bind (aW a λx B f=>wpAny_bind (nx (aW f λ_ u e=>wpAny_pure (wpAny_pure ⟨rfl,e⟩)))))
  |false=>
   rw[if_neg (by decide)] at a ⊢;exact wpAny_pure ⟨rfl,a⟩
end
abbrev o2:XW:=λ_ _ _ _=>False
def hZ (X:Cx)(N:List aH)(sc:Scope)(cl:List (aH×aF))(C0:aF)(a:bB)(b:Hp)(fp:List aF):Cx:=
 {X with N:=N,s₀:=a,H₀:=b,env:=g_ sc cl C0 X.env,outer:=X.stack,ex:=fp,fn:=λ_=>aC,pn:=[],xe:=λ_ _=>False}
def Xe(N cel:List aH)(tg:aI)(sc:Scope):Bool:=
 (sc.kind==.function)&&sc.names.all (λp=>p.2 != .cell)&&sc.names.all (λp=>p.2 != .local || sc.names.lookup p.1==aA .local)&&
 (z6 tg).all (λx=>sc.names.lookup x==aA .local&&x != ("__debug__":aH)&&x != ("__classdict__":aH))&&(frees sc).all (λx=>(cJ N x).isSome&&sc.names.lookup x==aA .free&&cel.contains x&&x != ("__debug__":aH)&&x != ("__classdict__":aH))&&decide ((z6 tg++frees sc).Nodup)&&
 (Qo sc).all (λx=>sc.names.lookup x==aA .globalImplicit)
structure cS(N cel:List aH)(tg:aI)(sc:Scope):Prop where
 kind:sc.kind=.function
 noc:∀p∈sc.names,p.2≠.cell
 lcl:∀p∈sc.names,p.2=.local->sc.names.lookup p.1=aA .local
 own:∀x∈z6 tg,sc.names.lookup x=aA .local/\(x==("__debug__":aH))=aC/\(x==("__classdict__":aH))=aC
 fre:∀x∈frees sc,(∃i,cJ N x=aA i)/\sc.names.lookup x=aA .free/\x∈cel/\(x==("__debug__":aH))=aC/\(x==("__classdict__":aH))=aC
 nd:(z6 tg++frees sc).Nodup
 glb:∀x∈Qo sc,sc.names.lookup x=aA .globalImplicit
theorem YW(h:Xe N cel tg sc=aB):cS N cel tg sc:=by
 unfold Xe at h;simp only[cO,f6,beq_iff_eq,bne_iff_ne,nS,decide_eq_true_eq,ik,wr,ne_eq] at h;obtain⟨⟨⟨⟨⟨⟨q,o⟩,n⟩,m⟩,l⟩,k⟩,j⟩:=h;refine⟨q,o,λp g i=>?_,λx f=>?_,λx f=>?_,k,j⟩
 .rcases n p g with z|z
  .exact absurd i z
  .exact z
 .obtain⟨⟨a,b⟩,c⟩:=m x f;exact⟨a,by simpa using b,by simpa using c⟩
 .obtain⟨⟨⟨⟨a,b⟩,c⟩,d⟩,e⟩:=l x f;exact⟨a,b,c,by simpa using d,by simpa using e⟩
theorem qd{env:Env}{x:aH}:∀{names:List (aH×lF)}{kd:lF},names.lookup x=aA kd->
  (names.map λ(n,k)=>if (k==ra&&env.scope.kind==.function&&env.kindOf n==aA .cell) then (n,NameKind.cell) else (n,k)).lookup x=aA (if (kd==ra&&env.scope.kind==.function&&env.kindOf x==aA .cell) then .cell else kd)
 |[],_,h=>by simp at h
 |(n,k)::r,kd,h=>by
  have c:=@qd env x r kd;rw[c8];rw[f7] at h;cases a:x==n with
  |true=>
   have b:x=n:=by simpa using a
   subst b;simp at h;subst h;dsimp only;split<;>simp_all[f7]
  |false=>
   simp only[a] at h;dsimp only;split
   .rw[f7];simp only[a];exact c h
   .rw[f7];simp only[a];exact c h
section
variable {X:Cx}{D:DP}{W:XW}{Γ:Cn}{k:Nat}{pins:List (aF×bF)}{s2:Shared}{σ:St}{H2:Hp}{φ α:List aF}{τ:Sl}{tg:aI}{sc:Scope}{cl:List (aH×aF)}{fp:List aF}
def Kp (N:List aH)(σ:St)(fs:List aH):St:=fs.map λx=>(cJ N x).bind λi=>(σ[i]?).join
def jX (N:List aH):List aH->Option (List Nat)
 |[]=>aA []
 |x::r=>match cJ N x,jX N r with
  |some i,aA a=>aA (i::a)
  |_,_=>aE
theorem Vx:∀(n:Nat) {fs:List Nat}{τ:Sl},gX n fs τ=lO n aE++Xz fs τ
 |0,_,_=>rfl
 |n+1,fs,τ=>by
  show aE::gX n fs τ=_;rw[Vx n];rfl
theorem Q8:∀{fs:List Nat}{τ:Sl},(Xz fs τ).length=fs.length
 |[],_=>rfl
 |i::r,τ=>by show (Xz r τ).length+1=_;rw[Q8];rfl
theorem Qb:∀{N xs:List aH}{fs:List Nat},jX N xs=aA fs->fs.length=xs.length
 |N,[],fs,h=>by cases h;rfl
 |N,x::r,fs,h=>by
  simp only[jX] at h;split at h
  .rename_i i b c a;cases h;simp[Qb a]
  .cases h
theorem Kt(b:a_ D φ α H τ σ):∀{xs:List aH}{fs:List Nat},jX N xs=aA fs->∀(j:Nat) (t:T),(Xz fs τ)[j]?=aA (aA t)->∃v,(Kp N σ xs)[j]?=aA (aA v)/\bA D φ α H t v
 |[],fs,h,j,t,e=>by cases h;simp[Xz] at e
 |x::r,fs,h,j,t,e=>by
  simp only[jX] at h;split at h
  .rename_i i c g f;cases h;cases j with
   |zero=>
    have e:aA (V3 τ i)=aA (aA t):=e;obtain⟨v,a,d⟩:=b.get (bQ e);exact⟨v,by simp[Kp,g,a],d⟩
   |succ j=>
    have e:(Xz c τ)[j]?=aA (aA t):=e;obtain⟨v,a,d⟩:=Kt b f j t e;exact⟨v,by simpa[Kp] using a,d⟩
  .cases h
theorem Pp{N:List aH}{H:Hp}{ns xs:List aH}{fs:List Nat}(b:a_ D φ α H τ σ)(h:jX N xs=aA fs):a_ D φ α H (gX ns.length fs τ) (ns.map (λ_=>aE)++Kp N σ xs):=by
 rw[Vx];refine⟨by simp[Q8,Qb h,Kp],λj t e=>?_⟩;rcases DG j ns.length with a|a
 .rw[dP (by simpa using a),rJ] at e;split at e<;>cases e
 .rw[fP (by simpa using a)] at e;rw[fP (by simpa using a)];simp only[bJ,EC] at e ⊢;exact Kt b h _ t e
theorem Xi(C:Ck D W Γ X k)(ok:cS Γ.N Γ.cel tg sc)(g:Inv X pins σ H2 s2)(hf:∀b∈fp, Vz X pins H2 b)(hfo:∀b∈fp, ∃o, s2.heap.get? b=aA o)(f:∀x c, cl.lookup x=aA c->X.env.cells.lookup x=aA c/\x∈frees sc)(s:∀x∈frees sc, ∃c, cl.lookup x=aA c)
 (V : h1.Ns (s2.heap.objs.size + 1) (fun _ => aE)) (L : fR (s2.heap.objs.size + 1) ((s2.heap.push { cls := .type "list", data := .seq ([] : List aD).toArray }).push { cls := .type "dict", data := .dict #[] }) h1) :
    Inv X pins σ (upd H2 s2.heap.objs.size (.lst [])) {s2 with heap:=s2.heap.push {cls:=.type "list", data:=.seq ([]:List aD).toArray}}/\
    Inv (hZ X (z6 tg ++ frees sc) sc cl (s2.heap.objs.size + 1) { s2 with heap := s2.heap.push { cls := .type "list", data := .seq ([] : List aD).toArray } } (upd H2 s2.heap.objs.size (.lst [])) fp) []
      ((z6 tg).map (λ_=>aE)++Kp Γ.N σ (frees sc)) (upd H2 s2.heap.objs.size (.lst [])) {s2 with heap:=h1, toks:=tk}:=by
  have l:Inv X pins σ (upd H2 s2.heap.objs.size (.lst [])) {s2 with heap:=s2.heap.push {cls:=.type "list", data:=.seq ([]:List aD).toArray}}:=g.lnew (its:=[]) (t':=s2.toks) .nil (by simp);refine⟨l, ?_⟩;generalize hA:s2.heap.push {cls:=.type "list", data:=.seq ([]:List aD).toArray}=Q at L l ⊢;have I:Q.objs.size=s2.heap.objs.size+1:=by rw[<-hA, hX]
  have n:∀b o, Q.get? b=aA o->h1.get? b=aA o:=λb o e=>L.extBut b o (by rw[<-I];exact cX (bX e)) (bY _ e);have fresh:(upd H2 s2.heap.objs.size (.lst [])) (s2.heap.objs.size+1)=aE:=by rw[<-I];exact l.hok.fresh (bD _)
  have A:∀x∈frees sc, (hZ X (z6 tg++frees sc) sc cl (s2.heap.objs.size+1) {s2 with heap:=Q} (upd H2 s2.heap.objs.size (.lst [])) fp).env.kindOf x=aA .cell\/(hZ X (z6 tg++frees sc) sc cl (s2.heap.objs.size+1) {s2 with heap:=Q} (upd H2 s2.heap.objs.size (.lst [])) fp).env.kindOf x=aA .free:=λx E=>by
    have:=qd (env:=X.env) (ok.fre x E).2.1;show (eN sc X.env).names.lookup x=aA .cell\/(eN sc X.env).names.lookup x=aA .free;unfold eN;dsimp only;rw[this];split
    · exact .inl rfl
    · exact .inr rfl
  refine⟨⟨g.ok.mod, ok.kind, g.ok.glob, g.ok.blt, ?_, ?_, ?_, λx c h=>absurd h (by simp[hZ]), g.ok.hd, g.ok.frames, .inl rfl, ?_, ?_, ?_, ?_, ?_, ?_, ?_⟩, rfl, g.bare, Un.kept n, ⟨_, V, ?_⟩, ?_, fresh, ?_, λp U=>absurd U (by simp[hZ]), l.hok.kept n, ?_⟩
  · show Q.objs.size <= s2.heap.objs.size + 1;lia
  · intro x y c h1 h2;exact g.ok.inj x y c (f x c h1).1 (f y c h2).1
  · intro x E;have B:(eN sc X.env).names.lookup x=aA .cell\/(eN sc X.env).names.lookup x=aA .free:=E;by_cases hm:x∈frees sc
    · exact s x hm
    · exfalso;cases q:sc.names.lookup x with
      |none=>
        have:(eN sc X.env).names.lookup x=aE:=by
          unfold eN;dsimp only;rw[List.lookup_eq_none_iff] at q ⊢;intro p U;obtain⟨p0, T, rfl⟩:=b7.mp U;have:=q p0 T;try dsimp only
          split<;>exact this
        rw[this] at B;rcases B with z|z<;>cases z
      |some S=>
        have hr:=qd (env:=X.env) q;have d:=B;unfold eN at d;dsimp only at d;rw[hr] at d;have r:(x, S)∈sc.names:=li q;by_cases F:S=.free
        · exact hm (j0.mpr ⟨_, r, rfl, F⟩)
        · have e : (S == ra) = aC := by simpa using F
          rw[e] at d;simp only[DM, t6, if_false, rz] at d;rcases d with z|z
          · exact ok.noc _ r z
          · exact F z
  · intro b t;obtain⟨f0, f1, f2, f3, f4, f5⟩:=hf b t;obtain⟨o, M⟩:=hfo b t;refine⟨?_, λx c h=>f4 x c (f x c h).1⟩;show b≠s2.heap.objs.size+1;exact cX (oj (bX M))
  · intro b o e;exact l.bs b o e
  · exact dG l.ok.bsz l.sz
  · intro b o e t;obtain⟨f0, f1, f2, f3, f4, f5⟩:=hf b t;rcases f3 with z|z
    · exact g.ok.noex b o e z
    · exact absurd (dC (bX e) (dG g.ok.bsz z)) (iM _)
  · intro b t Z;obtain⟨f0, f1, f2, f3, f4, f5⟩:=hf b t;rcases cK.mp (g.stkSub b Z) with z|z
    · exact f1 z
    · exact f2 z
  · exact l.stack
  · intro b t;exact l.stkFree b t
  · intro i x v hN a hv;obtain⟨m, hn, hl⟩:=g.loc;by_cases hi:i<(z6 tg).length
    · exfalso;rw[dP (by simpa using hi), cE] at a;cases q:(z6 tg)[i]? with
      |none=>rw[q] at a;cases a
      |some y=>rw[q] at a;cases a
    · have P:(frees sc)[i-(z6 tg).length]?=aA x:=by
        have:(z6 tg++frees sc)[i]?=aA x:=hN;rwa[fP (by lia)] at this
      rw[fP (by simpa using hi)] at a;simp only[bJ] at a;unfold Kp at a;rw[cE, P] at a;simp only[oa, rz] at a;have E:x∈frees sc:=bK P;obtain⟨⟨j, Y⟩, _, G, _⟩:=ok.fre x E;rw[Y] at a;simp only[Eb] at a;cases u:σ[j]? with
      |none=>rw[u] at a;cases a
      |some o=>
        rw[u] at a;simp only[Option.join_some] at a;subst a;obtain⟨w, R, lk⟩:=hl j x v (by rw[C.hN];exact vT Y) u (C.vis x (wW Y));refine⟨w, R, .inr ⟨A x E, ?_⟩⟩;have K:=C.cel x G;rcases lk with⟨z, _⟩|⟨_, c, hc, H⟩
        · rw [z] at K;rcases K with K|K<;>cases K
        · obtain ⟨c', O⟩ := s x E;have:=(f x c' O).1;rw[hc] at this;cases this;refine⟨c, O, ?_⟩;obtain⟨J, M, hd⟩:=H;exact⟨J, n c J (by rw[<-hA];exact bY _ M), hd⟩
  · intro x c h;obtain⟨v, J, M, hd⟩:=g.cell x c (f x c h).1;exact⟨v, J, n c J (by rw[<-hA];exact bY _ M), hd⟩
  · intro x c h;exact (l.freeC x c (f x c h).1).imp id λz=>⟨rfl, z.2⟩
  · show _ = (z6 tg ++ frees sc).length;simp[Kp]
end
section
variable {X:Cx}{D:DP}{W:XW}{Γ:Cn}{k:Nat}{pins:List (aF×bF)}{s:Shared}{σ:St}{H:Hp}{φ α:List aF}{τ:Sl}{μ:Mem}{tg:aI}{sc:Scope}{fp:List aF}
def inComp(Γ:Cn)(tg:aI)(sc:Scope):Cn:={Γ with N:=z6 tg++frees sc,G:=(Qo sc).filter Γ.U.contains,cel:=frees sc,lam:=aE}
theorem Rk(C:Ck D W Γ X k)(ok:cS Γ.N Γ.cel tg sc) 
  (f:∀e s,XP {(hZ X (z6 tg++frees sc) sc cl C0 g j fp) with pn:=pn,xe:=xe} W' e s->xe e s):Ck D W' (inComp Γ tg sc) {(hZ X (z6 tg++frees sc) sc cl C0 g j fp) with pn:=pn,xe:=xe} k:=by
 have b:∀x∈frees sc,(eN sc X.env).names.lookup x=aA .cell\/(eN sc X.env).names.lookup x=aA .free:=λx c=>by
  have:=qd (env:=X.env) (ok.fre x c).2.1;unfold eN;dsimp only;rw[this];split
  .exact .inl rfl
  .exact .inr rfl
 have a:∀{x d},sc.names.lookup x=aA d->d≠.free->(eN sc X.env).names.lookup x=aA d:=λ{x d} h i=>by
  have:=qd (env:=X.env) h;unfold eN;dsimp only;rw[this];have e:(d==ra)=aC:=by simpa using i
  simp[e]
 refine⟨C.hK,rfl,ok.nd,λx c=>?_,λx c=>?_,λx c=>?_,λx c=>?_,λx c=>?_,C.glU,b,C.isi,C.fld,C.xcx,C.ocx,C.clv,C.clm,C.rom,C.rmh,f,?_,cZ.no rfl,λh=>by cases h⟩
 .rcases b_.mp c with h|h
  .exact .inl (a (ok.own x h).1 (by decide))
  .rcases b x h with z|z
   .exact .inr (.inl z)
   .exact .inr (.inr z)
 .rcases b_.mp c with h|h
  .exact (ok.own x h).2
  .exact (ok.fre x h).2.2.2
 .exact (C.glU x (by have:=(eW.mp c).2;simpa using this)).2
 .exact a (ok.glb x (eW.mp c).1) (by decide)
 .exact (C.glU x (by have:=(eW.mp c).2;simpa using this)).1
 .obtain⟨e0,out,L,F⟩:=C.frm;exact⟨e0,out,L,⟨F.stk,F.f0,F.fe⟩⟩
theorem Sn(ok:cS Γ.N Γ.cel tg sc):nz (hZ X (z6 tg++frees sc) sc cl C0 d g fp) (z6 tg):=λx b=>by
 have e:=qd (env:=X.env) (ok.own x b).1;have a:(eN sc X.env).names.lookup x=aA .local:=by
  unfold eN;dsimp only;rw[e];rfl
 exact⟨.inl a,.inr a⟩
theorem Xn:∀{L:List aH}{i:Nat},x∈L->cJ (L++M) x=aA i->i<L.length
 |[],_,h,_=>absurd h (by simp)
 |y::L,i,h,e=>by
  rw[nW] at e;simp only[cJ] at e;split at e
  .cases e;simp
  .rename_i a;have b:x∈L:=(cK.mp h).resolve_left λz=>a z.symm;cases q:cJ (L++M) x with
   |none=>rw[q] at e;cases e
   |some j=>rw[q] at e;cases e;simpa using Xn b q
theorem Wt(h:i<n):∀j,n<=j->(Z6 τ i t)[j]?=τ[j]?:=λj a=>by
 rw[Vu,bR (by lia)]
theorem WX:∀{es:List aI}{is:List Nat}{ts:List T}{τ a:Sl},(∀e∈es,∀x p,e=.Name x p->x∈L)->cY (L++M) es=aA is->JQ is ts τ=aA a->∀j,L.length<=j->a[j]?=τ[j]?
 |[],is,ts,τ,a,_,b,h=>by
  cases b;cases ts with
  |nil=>cases h;exact λ_ _=>rfl
  |cons _ _=>cases h
 |e::es,is,ts,τ,a,f,b,h=>by
  cases e with
  |Name x k=>
   simp only[cY] at b;split at b
   .rename_i i c l d;cases b;cases ts with
    |nil=>cases h
    |cons t ts=>
     intro j g;rw[WX (λe m=>f e (cW _ m)) d (show JQ c ts (Z6 τ i (aA t))=aA a from h) j g];exact Wt (Xn (f _ dJ x k rfl) l) j g
   .cases b
  |_=>simp[cY] at b
theorem Tc(h0:vF (z6 e++M) e=aA tgt)(h:h_ tgt t τ=aA d):∀j,(z6 e).length<=j->d[j]?=τ[j]?:=by
 cases e with
 |Name x a=>
  simp only[vF] at h0;cases q:cJ (z6 (.Name x a)++M) x with
  |none=>rw[q] at h0;cases h0
  |some i=>
   rw[q] at h0;cases h0;cases (bQ h:Z6 τ i (aA t)=d);exact Wt (Xn (by simp[z6]) q)
 |Tuple es b a=>
  simp only[vF] at h0;cases q:cY (z6 (.Tuple es b a)++M) es with
  |none=>rw[q] at h0;cases h0
  |some k=>
   rw[q] at h0;cases h0;cases t with
   |tup g=>exact WX (λe f x p c=>by subst c;exact oz.mpr ⟨_,f,rfl⟩) q h
   |_=>cases h
 |_=>simp[vF] at h0
def KA (X:Cx)(D:DP)(W:XW):List aI->List Dt->Prop
 |[],[]=>True
 |e::es,f::fs=>PT X e (eJ D W f)/\KA X D W es fs
 |_,_=>False
theorem Hx{M:Model}{A:fQ}{β:Type}{R:β->Mem->List aF->Hp->Prop}{fe:De}{kk:Option T->Mem->RE β}{Qf:Bool->bB->Prop}:∀{cs:List aI}{fs:List Dt}{s:bB}{H:Hp}{α:List aF}{μ:Mem},KA X D W cs fs->Inv X pins σ H s->a_ D φ α H τ σ->aL D φ α H μ->aJ D W φ α H σ R ((uX fs fe τ μ).bind kk)->
  (∀u j d g,Inv X pins σ j u->aQ α H d j->a_ D φ d j τ σ->aL D φ d j g->aJ D W φ d j σ R ((fe τ g).bind λy r=>kk (aA y) r)->Qf aB u)->
  (∀u j d g,Inv X pins σ j u->aQ α H d j->a_ D φ d j τ σ->aL D φ d j g->aJ D W φ d j σ R (kk aE g)->Qf aC u)->
  ua (aS X.prog X.w) X.A X.env X.xe cs Qf s
 |[],[],s,H,α,μ,_,I,m,n,p,o,_=>o s H α μ I (aQ.refl _ _) m n p
 |[],_::_,_,_,_,_,h,_,_,_,_,_,_=>h.elim
 |_::_,[],_,_,_,_,h,_,_,_,_,_,_=>h.elim
 |c::cs,f::fs,s,H,α,μ,h,I,m,n,p,o,q=>by
  have p:aJ D W φ α H σ R ((f τ μ).bind λb r=>(RE.br b (uX fs fe τ r) (.ok aE r)).bind kk):=p;refine aW (FR h.1 I m n p) ?_;rintro b v ⟨x,r,l,t,e,i,k,p1⟩;cases b with
  |true=>
   rw[if_pos rfl];exact Hx (M:=M) (A:=A) h.2 t i k p1 (λu j d g a b=>o u j d g a (e.trans b)) (λu j d g a b=>q u j d g a (e.trans b))
  |false=>
   rw[if_neg (by decide)];exact q v x l r t e i k p1
end
section
variable {X:Cx}{D:DP}{W:XW}{Γ:Cn}{k:Nat}{pins:List (aF×bF)}{s:Shared}{σ:St}{H:Hp}{φ α:List aF}{τ:Sl}{μ:Mem}{tg iter elt:aI}{sc:Scope}{fp:List aF}{pos pos':Pos}
theorem uE(h:∀e s,E e s->d e s):∀{cs:List aI}{s:bB},ua M A env E cs Q s->ua M A env d cs Q s
 |[],_,q=>q
 |c::cs,s,q=>dY q (λb f a=>by
  cases b with
  |true=>rw[if_pos rfl] at a ⊢;exact uE h a
  |false=>rw[if_neg (by decide)] at a ⊢;exact a) h
theorem fG.but{T:aF}{h g:aV}(t:fG h x T cls d fl)(sb:fR C0 h g)(l:x≠C0)(n:T≠C0):fG g x T cls d fl:=by
 obtain⟨j,vs,a0,k,ts,ho,m,hd,c,b,i,e,f,o,a⟩:=t;exact⟨j,vs,a0,k,ts,sb.extBut x j l ho,m,hd,c,b,i,sb.extBut T k n e,f,o,a⟩
theorem Zd(I:Inv X pins σ H s)(c:dF X H C0)(d:∀q∈pins,q.1≠C0)(sb:fR C0 s.heap h'):Inv X pins σ H {s with heap:=h'}:=
 yF (ch:=[C0]) I (λb f=>by rw[bU.mp f];exact⟨c,d⟩) (λb o _ a e=>sb.extBut b o (λz=>a (by simp[z])) e) λb o _ a e=>⟨o.slots,sb.extBut b o (λz=>a (by simp[z])) e⟩
inductive pA(D:DP)(Xb:Cx)(tn:Nat->aV->Prop)(fp φ1 α1:List aF)(H2:Hp)(acc:aF)(bl:Sl)(xs:List T)(P:Nat->List T->Mem->Prop)(n:Nat)(s':Shared):Prop where
 |mk (i:Nat) (σ':St) (H':Hp) (α':List aF) (μ':Mem) (yT:List T) (yV:List V) (e:n=xs.length-i) (hi:i<=xs.length) (iv:Inv Xb [] σ' H' s') (t:tn i s'.heap) (fr:∀b∈fp,H' b=aE) (st:aQ α1 H2 α' H') (mr:aL D φ1 α' H' μ') (sr:a_ D φ1 α' H' bl σ') (ac:H' acc=aA (.lst yV)) (dl:aM D φ1 α' H' yT yV) (hy:yT.length<=i) (q:P i yT μ')
inductive l7(D:DP)(φ1 α1:List aF)(H2:Hp)(Z0:Xp)(cls:aD)(d:Option aF)(_:St)(He:Hp):Prop where
 |mk (c:Nat) (fs':List (Nat×T)) (μ':Mem) (α':List aF) (z:Z0 c fs' μ') (st:aQ α1 H2 α' He) (m:aL D φ1 α' He μ') (ad:iU D c fs' cls) (xd:cB D φ1 α' He fs' d)
structure CW(Xb X:Cx)(env:Env)(N:List aH):Prop where
 pr:Xb.prog=X.prog
 w:Xb.w=X.w
 K:Xb.K=X.K
 A:Xb.A=X.A
 en:Xb.env=env
 ca:Xb.calm=X.calm
 st:Xb.stack=X.stack
 N:Xb.N=N
theorem u6{β:Type}{R:β->Mem->List aF->Hp->Prop}{fi:Di}{tgt:Tg}{cs:List Dt}{fe:De}{kk:List T->Mem->RE β}{use:Option (aD->Sem Unit)} 
  (C:Ck D W Γ X k) (hc:Γ.calm=aB) (ok:cS Γ.N Γ.cel tg sc) (hfs:jX Γ.N (frees sc)=aA fs) (htg:vF (z6 tg++frees sc) tg=aA tgt) (hi:PI X tg iter (gM D W fi)) (hel:∀X' W',Ck D W' (inComp Γ tg sc) X' k->PE X' elt (aU D W' fe)) (hts:∀X' W',Ck D W' (inComp Γ tg sc) X' k->KA X' D W' ifs cs) (hs:∀x,lW iter X.env x=pure x)
  (I:Inv X pins σ H s) (sr:a_ D φ α H τ σ) (mr:aL D φ α H μ)
  (p:aJ D W φ α H σ R ((fi τ μ).go λxs o μ1=>.grd (xs.length<=aT) ((zV tgt (uX cs fe) o (gX (z6 tg).length fs τ) xs μ1).bind kk)))
  (Kq:∀acc C0 s' Q H1 H' U ys vs Y,Inv X pins σ H' s'->aQ α H Q H1->aQ Q H1 U H'->H1 acc=aE->acc∉φ->acc∉Q->a_ D (φ++[acc]) U H' τ σ->aL D (φ++[acc]) U H' Y->H' acc=aA (.lst vs)->aM D (φ++[acc]) U H' ys vs->aJ D W φ Q H1 σ R (kk ys Y)->dF X H' C0->(∀q∈pins,q.1≠C0)->(∃m,s'.heap.Ns C0 m)->
   (match use with
    |none=>∃m,s'.heap.Ns C0 m/\∀g,fR C0 s'.heap g->Qf (.ref acc) {s' with heap:=g}
    |some u=>wpAny (aS X.prog X.w) X.A (u (.ref acc)) (λ_ t2=>∃m,t2.heap.Ns C0 m/\∀g,fR C0 t2.heap g->Qf .none {t2 with heap:=g}) X.xe s')) :
  wpAny (aS X.prog X.w) X.A (rc (.ListComp elt [⟨tg,iter,ifs,0⟩] sc pos) sc X.env pos' (newList []) aC (eval iter X.env) use) Qf X.xe s:=by
 obtain⟨cl,hclos,hcl,hcl2⟩:=Q7 (sc:=sc) (env:=X.env) λx hx=>I.ok.has x (C.cel x (ok.fre x hx).2.2.1)
 refine O3 (use:=use) rfl hs hclos ok.kind ok.lcl (aW (hi pins s σ H (λJ H2=>∃xs o μ1 Q Ok,iF D J Ok xs/\sH D φ Q H2 xs o Ok/\o μ1/\aQ α H Q H2/\aL D φ Q H2 μ1/\
  aJ D W φ Q H2 σ R (.grd (xs.length<=aT) ((zV tgt (uX cs fe) o (gX (z6 tg).length fs τ) xs μ1).bind kk))) I
  ⟨φ,α,τ,μ,sr,mr,(show aJ D W φ α H σ R ((fi τ μ).re.bind λpr μ1=>.grd (pr.1.length<=aT) ((zV tgt (uX cs fe) pr.2 (gX (z6 tg).length fs τ) pr.1 μ1).bind kk)) from p).bind.mono λpr Y U H' st m q J Ok iv okk lv=>⟨pr.1,pr.2,Y,U,Ok,iv,okk,lv,st,m,q⟩⟩) λv s1 h1=>aW h1 λitv l h2=>?_)
 obtain⟨it,fp,tn,J,H2,rfl,I2,Tn,tn0,f2,xs,Lv,μ1,Q,Ok,iv,okk,lv1,st1,mr1,p1⟩:=h2;obtain⟨hroom,K0,Z0,q0,hk0,hz0⟩:=p1.grd;have fo:∀b∈fp,∃o,l.heap.get? b=aA o:=λb P=>let ⟨o,e,_⟩:=Tn.obj 0 _ tn0 b P;⟨o,e⟩;refine wf (Er ok.noc (by intro y hy;simp at hy) (λh₁ hns₁ hsb₁=>?_) ok.kind);have sz:(l.heap.push {cls:=.type "list",dict:=aE,data:=.seq ([]:List aD).toArray}).objs.size=l.heap.objs.size+1:=hX ..;dsimp only at hns₁ hsb₁ ⊢;rw[sz] at hns₁ hsb₁ ⊢;have hns:h₁.Ns (l.heap.objs.size+1) (λ_=>aE):=by simpa using hns₁
 obtain⟨I3,J0⟩:=Xi (tk:=l.toks+([]:List (aH×aD)).length) C ok I2 f2 fo hcl hcl2 hns hsb₁;have hD:H2 l.heap.objs.size=aE:=I2.hok.fresh (bD _);have nph:l.heap.objs.size∉φ:=zr mr1 hD;have nal:l.heap.objs.size∉Q:=zt mr1 hD;have old:∀b o,l.heap.get? b=aA o->h₁.get? b=aA o:=λb o e=>hsb₁.extBut b o (cX (oj (bX e))) (bY _ (bY _ e));have n3:({l with heap:=l.heap.push {cls:=.type "list",data:=.seq ([]:List aD).toArray}}:bB).heap.get? (l.heap.objs.size+1)=aE:=lX (by show (l.heap.push _).objs.size<=_;rw[hX];exact bD _);have xo0:=jm I3 n3;have pn3:∀q∈pins,q.1≠l.heap.objs.size+1:=λq hq z=>by
  have:=(I3.pin q (dH _ hq)).1;rw[z,n3] at this;cases this
 generalize hS3:({l with heap:=l.heap.push {cls:=.type "list",data:=.seq ([]:List aD).toArray}}:bB)=S3 at I3 J0 n3;generalize hH3:upd H2 l.heap.objs.size (.lst [])=H3 at I3 J0 xo0;generalize hXb:hZ X (z6 tg++frees sc) sc cl (l.heap.objs.size+1) S3 H3 fp=B at J0;have f:CW B X (g_ sc cl (l.heap.objs.size+1) X.env) (z6 tg++frees sc):=by subst hXb;exact⟨rfl,rfl,rfl,rfl,rfl,rfl,rfl,rfl⟩
 have sto:nz B (z6 tg):=by subst hXb;exact Sn (Γ:=Γ) ok
 have cm:B.calm=aB:=by rw[f.ca];exact C.clm hc
 have back:∀{s4:bB}{σ4:St}{H4:Hp}{E:List (aF×bF)},Inv B E σ4 H4 s4->Inv X pins σ H4 s4:=λ{s4 σ4 H4 E} I4=>by
  subst hXb;exact I3.call' (ch:=fp) I4.os I4.base I4.hok I4.bare λb P=>by
   obtain⟨f0,f1,f2',f3,f4,f5⟩:=f2 b P;exact⟨f3,f1,f4,f5⟩
 have fpk:∀{H':Hp},(∀b∈fp,H' b=aE)->∀b∈fp,Vz B [] H' b:=λhn b P=>by
  obtain⟨f0,f1,f2',f3,f4,f5⟩:=f2 b P;obtain⟨o,ho⟩:=fo b P;subst hXb;refine⟨hn b P,cX (oj (bX ho)),λz=>?_,.inl P,λx c h=>f4 x c (hcl x c h).1,λq hq=>absurd hq (by simp[hZ])⟩;rcases cK.mp (I2.stkSub b z) with z|z
  .exact f1 z
  .exact f2' z
 have TnI:=Tn.item B f.pr f.w f.K cm;have TnD:=Tn.done B f.pr f.w f.K cm;obtain⟨e0,out,L,F⟩:=C.frm;have ce:(g_ sc cl (l.heap.objs.size+1) X.env).frame=aA L:=F.fe;obtain⟨NB,hNB⟩:∃NB:aD->bB->Prop,NB=notedBy (aS X.prog X.w) X.A (g_ sc cl (l.heap.objs.size+1) X.env) (λx s'=>Vv (aS X.prog X.w) X.A X.xe use Qf (.ref l.heap.objs.size) (g_ sc cl (l.heap.objs.size+1) X.env) (.error x) s'):=⟨_,rfl⟩
 have leave:∀{E:List (aF×bF)}{e:aD}{t:bB},(∀b∈fp,∃o,(b,o)∈E)->XP (Cx.pin' B E) (l7 D (φ++[l.heap.objs.size]) Q H2 Z0) e t->
   NB e t:=λ{E e t} hpp xp=>by
  have Fb:ly (Cx.pin' B E) e0 out L:=⟨by show B.stack=_;rw[f.st];exact F.stk,F.f0,by show B.env.frame=_;rw[f.en];exact ce⟩;have hfr:X.A.frames=aA (Cx.pin' B E).stack:=by show _=aA B.stack;rw[f.st];exact I.ok.frames
  rw[hNB];unfold notedBy;rw[show g_ sc cl (l.heap.objs.size+1) X.env=(Cx.pin' B E).env from f.en.symm];refine Zh (X:=Cx.pin' B E) Fb hfr xp λx cls d σe He T h' ee Ie ox oT tr w=>?_;subst ee;have en:(Cx.pin' B E).env=g_ sc cl (l.heap.objs.size+1) X.env:=f.en;rw[en];have Iu:Inv B E σe He {t with heap:=h'}:=qm Ie;have IX:=back Iu;have nw:∀b,dF (Cx.pin' B E) He b->dF X He b/\b≠l.heap.objs.size+1:=λb o=>by
   have P:b∉fp:=λz=>by
    obtain⟨ob,hm⟩:=hpp b z;exact o.pin (b,ob) (dH _ hm) rfl
   have h3:S3.heap.get? b=aE:=by
    have:=o.new;subst hXb;exact this.resolve_left P
   have q:=jm I3 h3;refine⟨⟨o.free,q.loc,q.nfs,q.new,q.cel,q.pin⟩,?_⟩;have:=o.loc;have e2:(Cx.pin' B E).env.locals=l.heap.objs.size+1:=by rw[en];rfl
   rw[e2] at this;exact this
  have xoC:dF X He (l.heap.objs.size+1):=⟨by have:=Iu.free;rw[f.en] at this;exact this,xo0.loc,xo0.nfs,xo0.new,xo0.cel,xo0.pin⟩;obtain⟨m,hm,_⟩:=Iu.loc;rw[f.en] at hm;refine⟨m,hm,λg sb=>?_⟩;have sb':fR (l.heap.objs.size+1) h' g:=sb;have Ig:Inv X [] σ He {t with heap:=g}:=(Zd IX xoC pn3 sb').pins_of λp hp=>absurd hp (by simp);have tg':=tr.but sb' (nw x ox).2 (nw T oT).2;unfold DF;obtain⟨oe,vs',a0,oT',ts,ho,hcc,hd,hv0,hv1,hT,hoT,hdT,h3,_⟩:=id tg';refine wpAny_bind (lH ho hd hv1 ?_);rw[if_neg (show ¬((cN T==gI)=aB) from by simp)];have go:∀{t2:bB},XP X W (.ref x) t2->wpAny (aS X.prog X.w) X.A (throw (cN x):Sem aD) (λ_ _=>False) X.xe t2:=λ{t2} xp=>wpAny_throw (C.xe _ _ xp);have fin:wpAny (aS X.prog X.w) X.A (mU (.ref x) (g_ sc cl (l.heap.objs.size+1) X.env).frame) (λ_ t2=>XP X W (.ref x) t2) X.xe {t with heap:=g}:=by
   refine vc (s:={t with heap:=g}) Ig (nw x ox).1 (nw T oT).1 tg' λh4 I4 tr4=>?_;obtain⟨c,fs',Y,U,z,stp,m',ad,xd⟩:=w;refine⟨x,cls,d,σ,He,aA T,cV L,rfl,I4,(nw x ox).1,λt ht=>?_,?_,.inr ⟨L,F.fe,rfl⟩,?_⟩
   .have:t=T:=by simpa using ht
    rw[this];exact (nw T oT).1
   .rw[ce] at tr4;exact tr4
   .refine hz0 c fs' Y z U He cls d stp (m'.lk j5 (λa ha=>⟨rfl,λz=>m'.dis a ha (eY _ z)⟩) λb P=>m'.phi b (eY _ P)) ad (xd.lk j5)
  first
   |exact wpAny_bind (aW fin λ_ t2 xp=>go xp)
   |exact wpAny_bind (wpAny_pure (wpAny_bind (aW fin λ_ t2 xp=>go xp)))
 have loop:gz (aS X.prog X.w) X.A (.compLoop (.ListComp elt [⟨tg,iter,ifs,0⟩] sc pos) 0 (.ref it) (.ref l.heap.objs.size) (g_ sc cl (l.heap.objs.size+1) X.env)) (Vv (aS X.prog X.w) X.A X.xe use Qf (.ref l.heap.objs.size) (g_ sc cl (l.heap.objs.size+1) X.env)) {l with heap:=h₁,toks:=l.toks+([]:List (aH×aD)).length}:=by
  obtain⟨LI,hLI⟩:∃LI:Nat->bB->Prop,LI=pA D B tn fp (φ++[l.heap.objs.size]) Q H2 l.heap.objs.size (gX (z6 tg).length fs τ) xs (λi yT Y=>Lv Y/\zV tgt (uX cs fe) Lv (gX (z6 tg).length fs τ) (xs.drop i) Y (λrest μ2=>kk (yT++rest) μ2 K0 Z0) Z0):=⟨_,rfl⟩;refine YQ LI ?_ xs.length ?_
  .intro n s' h0;rw[hLI] at h0;obtain⟨i,σ',H',U,Y,yT,yV,rfl,hi',Iv,tni,fr,stp,mr',sr',hacc,dly,hyl,lv',hcmi⟩:=h0;have okH:Ok (φ++[l.heap.objs.size]) U H':=okk _ U H' Y ((u7 hD).trans stp.lk) mr' lv';by_cases hlt:i<xs.length
   .have TI:=TnI i [] s' σ' H' (λ_ _=>False) Iv (fpk fr) tni (iv.go i _ _ H' okH (by lia));rw[f.A] at TI;refine aW TI ?_;rintro r s4 ⟨u,rfl,h4⟩;refine aW h4 ?_;rintro _ s5 ⟨x,H5,I5,r5,y5,tn5,fr5⟩;obtain⟨sm5,dx'⟩:=iv.yld i _ _ H' x H5 xs[i] okH (by simp[hlt]) y5;have stp:=stp.trans (aQ.new (α:=U) sm5);have sr':=sr'.step (aQ.new (α:=U) sm5);have mr':=mr'.new sm5;have hacc:=sm5 _ _ hacc;have dly:=dly.step (aQ.new (α:=U) sm5);have hdr:xs.drop i=xs[i]::xs.drop (i+1):=EZ hlt;rw[hdr] at hcmi;obtain⟨τ',ha,hfe⟩:=hcmi;have I5':=I5.pinned (fpk fr5) (Tn.obj _ _ tn5);have A6:=XF (S:=z6 tg) (X:=B) f.N ok.nd sto cm (λx h=>h) htg ha I5' sr' dx' r5;rw[f.pr,f.w,f.A,f.en,show B.xe=λ_ _=>False by subst hXb;rfl] at A6;refine aW A6 ?_;rintro _ s6 ⟨σ6,I6,sr6⟩;generalize hpp:([]++Qh fp s5.heap:List (aF×bF))=E at I6;have hppm:∀b∈fp,∃o,(b,o)∈E:=λb P=>by
     obtain⟨o,e,_⟩:=Tn.obj _ _ tn5 b P;exact⟨o,by rw[<-hpp];exact dH _ (js P e)⟩
    generalize hW1:l7 D (φ++[l.heap.objs.size]) Q H2 Z0=W1;have lv:∀e t,XP (Cx.pin' B E) W1 e t->NB e t:=λe t xp=>by
     rw[<-hW1] at xp;exact leave hppm xp
    have ck:Ck D W1 (inComp Γ tg sc) ((Cx.pin' B E).wish (XP (Cx.pin' B E) W1)) k:=by
     subst hXb;exact Rk (W':=W1) (pn:=[]++E) (xe:=XP (Cx.pin' (hZ X (z6 tg++frees sc) sc cl (l.heap.objs.size+1) S3 H3 fp) E) W1) C ok λe s p=>kK (X:=Cx.pin' (hZ X (z6 tg++frees sc) sc cl (l.heap.objs.size+1) S3 H3 fp) E) p
    have I6':Inv ((Cx.pin' B E).wish (XP (Cx.pin' B E) W1)) [] σ6 H5 s6:=(Jd I6).wish _
    have next:∀{s7:bB}{H7:Hp}{Z:List aF}{O:Mem}{yT':List T}{yV':List V},Inv ((Cx.pin' B E).wish (XP (Cx.pin' B E) W1)) [] σ6 H7 s7->aQ Q H2 Z H7->aL D (φ++[l.heap.objs.size]) Z H7 O->a_ D (φ++[l.heap.objs.size]) Z H7 τ' σ6->H7 l.heap.objs.size=aA (.lst yV')->aM D (φ++[l.heap.objs.size]) Z H7 yT' yV'->yT'.length<=i+1->
      Lv O->zV tgt (uX cs fe) Lv (gX (z6 tg).length fs τ) (xs.drop (i+1)) O (λrest μ2=>kk (yT'++rest) μ2 K0 Z0) Z0->
      ∃m,m<xs.length-i/\LI m s7:=λ{s7 H7 Z O yT' yV'} I7 st7 m7 sr7 ac7 dy7 hy7 lv7 q7=>by
     have I7u:Inv B E σ6 H7 s7:=qm I7.unwish;have pinned:∀b∈fp,∃o,s5.heap.get? b=aA o/\s7.heap.get? b=aA o/\H7 b=aE:=λb P=>by
      obtain⟨o,e,_⟩:=Tn.obj _ _ tn5 b P;have:=I7u.pin (b,o) (dH _ (by rw[<-hpp];exact dH _ (js P e)));exact⟨o,e,this.1,this.2.1⟩
     refine⟨xs.length-(i+1),by lia,?_⟩;rw[hLI];refine⟨i+1,σ6,H7,Z,O,yT',yV',rfl,hlt,I7u.pins_of (λp hp=>absurd hp (by simp)),Tn.keep _ _ _ tn5 (λb P o e=>?_),λb P=>(pinned b P).choose_spec.2.2,st7,m7,⟨?_,λj t e=>?_⟩,ac7,dy7,hy7,lv7,q7⟩
     .obtain⟨o',e1,e2,_⟩:=pinned b P;rw[e] at e1;cases e1;exact e2
     .have:=I7u.len;rw[f.N] at this;rw[Vx,this];simp[Q8,Qb hfs]
     .have hj:(z6 tg).length<=j:=by
       rcases DG j (z6 tg).length with h|h
       .rw[Vx,dP (by simpa using h),rJ] at e;split at e<;>cases e
       .exact h
      exact sr7.val j t (by rw[Tc htg ha j hj];exact e)
    have P0:aJ D W1 (φ++[l.heap.objs.size]) U H5 σ6 (λ(o:Option T) O Z H7=>match o with
      |some y=>∀v,bA D (φ++[l.heap.objs.size]) Z H7 y v->Lv O/\zV tgt (uX cs fe) Lv (gX (z6 tg).length fs τ) (xs.drop (i+1)) O (λys μ2=>kk (yT++y::ys) μ2 K0 Z0) Z0
      |none=>Lv O/\zV tgt (uX cs fe) Lv (gX (z6 tg).length fs τ) (xs.drop (i+1)) O (λys μ2=>kk (yT++ys) μ2 K0 Z0) Z0) ((uX cs fe τ' Y).bind λo O=>RE.ok o O):=by
     refine⟨_,Z0,hfe,λo O e Z H7 st m=>?_,λc fs' O z Z H7 cv d st m ad xd=>?_⟩
     .cases o with
      |some y=>exact λv _=>e
      |none=>exact e
     .rw[<-hW1];exact⟨c,fs',O,Z,z,stp.trans st,m,ad,xd⟩
    have ep:((Cx.pin' B E).wish (XP (Cx.pin' B E) W1)).prog=X.prog:=f.pr;have ew:((Cx.pin' B E).wish (XP (Cx.pin' B E) W1)).w=X.w:=f.w;have eA:((Cx.pin' B E).wish (XP (Cx.pin' B E) W1)).A=X.A:=f.A;have ee:((Cx.pin' B E).wish (XP (Cx.pin' B E) W1)).env=g_ sc cl (l.heap.objs.size+1) X.env:=f.en;have nD:l.heap.objs.size∉U:=λz=>mr'.dis _ z (by simp);have G:=Hx (X:=(Cx.pin' B E).wish (XP (Cx.pin' B E) W1)) (M:=aS X.prog X.w) (A:=X.A) (Qf:=λb s₄=>if b=aB then wpAny (aS X.prog X.w) X.A (eval elt (g_ sc cl (l.heap.objs.size+1) X.env)) (λx s₅=>wpAny (aS X.prog X.w) X.A (call (.builtin "list.append") [.ref l.heap.objs.size,x]) (λ_ s₆=>∃m,m<xs.length-i/\LI m s₆) (λ_ _=>False) s₅) NB s₄ else ∃m,m<xs.length-i/\LI m s₄) (hts _ W1 ck) I6' sr6 mr' P0 (λs7 H7 Z O I7 st7 sr7 m7 p7=>?_) (λs7 H7 Z O I7 st7 sr7 m7 p7=>?_)
    .rw[ep,ew,eA,ee] at G;rw[<-hNB];exact uE (λe t h=>lv e t h) G
    .rw[if_pos rfl];have E7:=sub (hel _ W1 ck) I7 sr7 m7 p7;rw[ep,ew,eA,ee] at E7;refine dY E7 (λx8 s8 h8=>?_) λe t h=>lv e t h;obtain⟨v8,H8,y8,μ8,α8,I8,r8,st8,sr8,m8,d8,p8⟩:=h8;have q8:=p8.ok (aQ.refl _ _) m8 v8 d8;have acc8:H8 l.heap.objs.size=aA (.lst yV):=st8.keep _ _ (λz=>m7.dis _ z (by simp)) (st7.keep _ _ nD hacc);have hyv:yV.length<=i:=by rw[<-dly.length];exact hyl
     have AP:=Wh (X:=Cx.pin' B E) [] s8 σ6 H8 (.ref l.heap.objs.size) [v8] (.ref l.heap.objs.size) [x8] (λ_ H9=>H9=upd H8 l.heap.objs.size (.lst (yV++[v8]))) I8.unwish rfl (.cons r8 .nil) ⟨_,yV,v8,rfl,rfl,acc8,t5 hyv (dC hlt (qa hroom)),rfl⟩;rw[show (Cx.pin' B E).prog=X.prog from f.pr,show (Cx.pin' B E).w=X.w from f.w,show (Cx.pin' B E).A=X.A from f.A,show (Cx.pin' B E).xe=λ_ _=>False by subst hXb;rfl] at AP;refine aW AP ?_;rintro x9 s9 ⟨v9,H9,I9,r9,rfl⟩;have inphi:l.heap.objs.size∈φ++[l.heap.objs.size]:=by simp
     have t:=(stp.trans st7).trans st8;have one:aM D (φ++[l.heap.objs.size]) α8 H8 [y8] [v8]:=⟨v8,[],rfl,d8,rfl⟩;refine next (I9.wish _) ⟨t.ext,λb o n e=>?_,λb e=>t.live b ?_⟩ (m8.lk (ZF inphi) (λa ha'=>⟨by rw[z7 (λz=>m8.dis a ha' (by rw[z];simp))],m8.dis a ha'⟩) (λb P=>?_)) (sr8.lk (ZF inphi)) z3 ((((dly.step st7).step st8).append one).lk (ZF inphi)) (by simp;lia) q8.1 (by simpa using q8.2)
     .rw[z7 (zU e hD)];exact t.keep b o n e
     .by_cases P:b=l.heap.objs.size
      .rw[P,z3] at e;cases e
      .rw[z7 P] at e;exact e
     .by_cases hb':b=l.heap.objs.size
      .rw[hb',z3];exact⟨_,rfl,rfl⟩
      .rw[z7 hb'];exact m8.phi b P
    .rw[if_neg (by decide)];exact next I7 (stp.trans st7) m7 sr7 (st7.keep _ _ nD hacc) (dly.step st7) (by lia) (p7.ok (aQ.refl _ _) m7).1 (p7.ok (aQ.refl _ _) m7).2
   .have hie:i=xs.length:=by lia
    have TD:=TnD i [] s' σ' H' (λ_ _=>False) Iv (fpk fr) tni (by rw[hie];exact iv.stop _ _ H' okH);rw[f.A] at TD;refine aW TD ?_;rintro r s4 ⟨rfl,I4⟩;have hdr:xs.drop i=[]:=by rw[hie];simp
    rw[hdr] at hcmi;have q4:kk yT Y K0 Z0:=by
     have:kk (yT++[]) Y K0 Z0:=hcmi;simpa using this
    have I5:=back I4;obtain⟨m,hm,_⟩:=I4.loc;rw[f.en] at hm;exact Kq l.heap.objs.size (l.heap.objs.size+1) s4 Q H2 H' U yT yV Y I5 st1 stp hD nph nal (((sr.step st1).lk (u7 hD)).step stp) mr' hacc dly ⟨K0,Z0,q4,hk0,hz0⟩ ⟨by have:=I4.free;rw[f.en] at this;exact this,xo0.loc,xo0.nfs,xo0.new,xo0.cel,xo0.pin⟩ pn3 ⟨m,hm⟩
  .have sm:kL H2 H3:=by rw[<-hH3];exact zm hD
   rw[hLI];refine⟨0,_,_,Q,μ1,[],[],rfl,hL _,J0,Tn.keep _ _ _ tn0 λb P o e=>old b o e,λb P=>?_,aQ.new sm,?_,?_,by rw[<-hH3];exact z3,rfl,bD _,lv1,by simpa using q0⟩
   .obtain⟨o,ho⟩:=fo b P;rw[<-hH3,z7 (cX (bX ho))];exact (f2 b P).1
   .refine mr1.lk (Kn hD sm) (λa ha=>?_) λb P=>?_
    .have na:a≠l.heap.objs.size:=λz=>nal (z▸ha);exact⟨by rw[<-hH3];exact z7 na,λz=>(b_.mp z).elim (mr1.dis a ha) λz=>na (bU.mp z)⟩
    .rcases b_.mp P with z|z
     .obtain⟨o,e,n⟩:=mr1.phi b z;exact⟨o,sm b o e,n⟩
     .rw[bU.mp z,<-hH3,z3];exact⟨_,rfl,rfl⟩
   .exact (Pp (sr.step st1) hfs).lk (Kn hD sm)
 exact codeAny_compStart_list loop (dY (Tn.self _ 0 _ _ _ (Tn.keep _ _ _ tn0 λb P o e=>old b o e) loop) (λ_ _ q=>q) λ_ _ q=>q)
end
section
variable {X:Cx}{D:DP}{W:XW}{Γ:Cn}{k:Nat}{pins:List (aF×bF)}{s:Shared}{σ:St}{H:Hp}{φ α:List aF}{τ:Sl}{μ:Mem}{tg iter elt:aI}{sc:Scope}{pos:Pos}{fi:Di}{fs:List Nat}{tgt:Tg}{ifs:List aI}{cs:List Dt}{fe:De}
theorem Jj{β:Type}{R:β->Mem->List aF->Hp->Prop}{kk:T->Mem->RE β}{c:aF}{g d:List aF}{k f:Hp}{ys:List T}{vs:List V}{e:Mem}(st:aQ g k d f)(m:k c=aE)(i:c∉φ)(h:aL D (φ++[c]) d f e)(j:f c=aA (.lst vs))(dl:aM D (φ++[c]) d f ys vs)(p:aJ D W φ g k σ R (kk (.lst ys) e)) :
  aL D φ d f e/\bA D φ d f (.lst ys) (.ref c)/\aJ D W φ d f σ R (kk (.lst ys) e):=
 ⟨h.lk j5 (λa j=>⟨rfl,λz=>h.dis a j (eY _ z)⟩) λb l=>h.phi b (eY _ l),⟨c,vs,rfl,i,λz=>h.dis _ z (by simp),.inl j,dl.lk j5⟩,p.step st⟩
theorem xX:Lk (φ++[g]) d j φ (d++[g]) j:=⟨λa o b c e=>⟨λz=>b (eY _ z),λz=>(b_.mp z).elim c λz=>b (by rw[bU.mp z];simp),e⟩,λi a e=>by
 rw[dP (bE.mp e).1];exact e⟩
theorem WQ(st:aQ u A g r)(x:A d=aE)(m:d∉φ)(c:aL D (φ++[d]) g r j)(t:r d=aA (.lst vs))(dl:aM D (φ++[d]) g r ys vs) :
  aQ u A (g++[d]) r/\aL D φ (g++[d]) r (j++[.lst ys])/\bA D φ (g++[d]) r (.mut j.length) (.ref d):=by
 have n:d∉g:=λz=>c.dis _ z (by simp);refine⟨?_,⟨by simp[c.len],?_,λb k=>?_,λb k=>c.phi b (eY _ k),λi a o f l=>?_⟩,d,by rw[<-c.len,fP (bD _)];simp,rfl⟩
 .obtain⟨w,e,p⟩:=st.ext;exact⟨⟨w++[d],by rw[e];simp,λb k=>(b_.mp k).elim (p b) λz=>by rw[bU.mp z];exact x⟩,st.keep,st.live⟩
 .rw[lg];exact⟨c.nd,by simp,λa t b k z=>n (by rw[bU.mp k] at z;exact z▸t)⟩
 .rcases b_.mp k with h|h
  .exact λz=>c.dis b h (eY _ z)
  .rw[bU.mp h];exact m
 .by_cases v:i<g.length
  .rw[dP v] at f;rw[dP (by rw[<-c.len];exact v)] at l;exact (c.ob i a o f l).lk xX rfl
  .have y:=c.len;rw[fP (by lia)] at f l;have s:i-g.length=0:=by
    by_cases z:i-g.length=0
    .exact z
    .rw[my (by simp;lia)] at f;cases f
   have q:i-j.length=0:=by lia
   rw[s] at f;rw[q] at l;have f:aA d=aA a:=f;have l:aA (MO.lst ys)=aA o:=l;cases f;cases l;exact⟨vs,t,dl.lk xX⟩
theorem X_(C:Ck D W Γ X k)(O:Γ.calm=aB)(ok:cS Γ.N Γ.cel tg sc)(i:jX Γ.N (frees sc)=aA fs)(h:vF (z6 tg++frees sc) tg=aA tgt)(hi:PI X tg iter (gM D W fi))(l:∀j W',Ck D W' (inComp Γ tg sc) j k->PE j elt (aU D W' fe))(f:∀j W',Ck D W' (inComp Γ tg sc) j k->KA j D W' ifs cs)(hs:∀x,lW iter X.env x=pure x) :
  PE X (.ListComp elt [⟨tg,iter,ifs,0⟩] sc pos) (aU D W (w9 (z6 tg).length fs tgt fi cs fe)):=by
 rintro b s q H Q I ⟨U,Y,V,c,A,F,p⟩;rw[eval_ListComp];refine u6 (kk:=λo c=>RE.ok (T.lst o) c) (use:=aE) (Qf:=EP X b q Q) C O ok i h hi l f hs I A F p ?_;rintro n C0 s' u H1 S v o Z r R y st L e E z m P dl a w K ⟨G,M⟩;obtain⟨J,d,a⟩:=Jj (kk:=λt c=>RE.ok t c) st L e m P dl a;exact⟨G,M,λg B=>⟨.ref n,S,Zd R w K B,rfl,a.here J d⟩⟩
theorem K9(C:Ck D W Γ X k)(O:Γ.calm=aB)(ok:cS Γ.N Γ.cel tg sc)(l:jX Γ.N (frees sc)=aA fs)(i:vF (z6 tg++frees sc) tg=aA tgt)(hi:PI X tg iter (gM D W fi))(n:∀j W',Ck D W' (inComp Γ tg sc) j k->PE j elt (aU D W' fe))(h:∀j W',Ck D W' (inComp Γ tg sc) j k->KA j D W' ifs cs)(hs:∀x,lW iter X.env x=pure x) :
  PE X (.ListComp elt [⟨tg,iter,ifs,0⟩] sc pos) (aU D W (jw (z6 tg).length fs tgt fi cs fe)):=by
 rintro b s r H Q I ⟨U,Y,V,c,A,F,p⟩;rw[eval_ListComp];refine u6 (kk:=λq c=>RE.ok (T.mut c.length) (c++[MO.lst q])) (use:=aE) (Qf:=EP X b r Q) C O ok l i hi n h hs I A F p ?_;rintro o C0 s' u H1 S v q Z t R y st L f E z m P dl a w K ⟨G,M⟩;obtain⟨e,J,d⟩:=WQ st L f m P dl;exact⟨G,M,λg B=>⟨.ref o,S,Zd R w K B,rfl,a.ok e J _ d⟩⟩
theorem jK(h:Γ.look x=g)(b:g≠.bad):x∈Γ.G/\Γ.gl x=g:=by
 unfold Cn.look at h;split at h
 .rename_i a;exact⟨by simpa using a,h⟩
 .exact absurd h.symm b
theorem WD(h:vI iter=aB):∀x,lW iter X.env x=pure x:=by
 intro x;cases iter<;>first|rfl|(simp[vI] at h)
end
structure pj(D:DP)(W:XW)(φ α:List aF)(H:Hp)(E:Ends)(Q:En):Prop where
 nx:∀τ μ,Q.nx τ μ->∀α' H' σ',aQ α H α' H'->aL D φ α' H' μ->a_ D φ α' H' τ σ'->E.nx σ' H'
 bk:∀τ μ,Q.bk τ μ->∀α' H' σ',aQ α H α' H'->aL D φ α' H' μ->a_ D φ α' H' τ σ'->E.bk σ' H'
 ct:∀τ μ,Q.ct τ μ->∀α' H' σ',aQ α H α' H'->aL D φ α' H' μ->a_ D φ α' H' τ σ'->E.ct σ' H'
 rt:∀t μ,Q.rt t μ->∀α' H' v,aQ α H α' H'->aL D φ α' H' μ->bA D φ α' H' t v->E.rt v H'
 ex:∀c fs τ μ,Q.ex c fs τ μ->∀α' H' σ' cv d,aQ α H α' H'->aL D φ α' H' μ->a_ D φ α' H' τ σ'->iU D c fs cv->cB D φ α' H' fs d->W cv d σ' H'
inductive aK(D:DP)(W:XW)(φ α:List aF)(H:Hp)(E:Ends)(o:cM):Prop where
 |mk (Q:En) (q:o Q) (h:pj D W φ α H E Q)
def dQ (D:DP)(W:XW)(f:Ds):TS:=λE c H=>nB D H c λa e b d=>aK D W a e H E (f b d)
structure Sk(D:DP)(W:XW)(Γ:Cn)(X:Cx)(k:Nat):Prop extends Ck D W Γ X k where
 sto:nz X Γ.sto
 lcl:∀x∈Γ.N,Γ.cel.contains x=aC->X.env.scope.names.lookup x=aA .local
 pso:nK (aS X.prog X.w) X.A X.env X.xe
 xmt:∀t x c,(x,c)∈Γ.cls->c<40->∀Ct Cc,D.adr t=aA Ct->X.mg x=aA (.ref Cc)->n0 X.K (.ref Ct) (.ref Cc)=aA (je t c)
section
variable {X:Cx}{D:DP}{W:XW}{Γ:Cn}{k:Nat}{pins:List (aF×bF)}{s:Shared}{σ:St}{H:Hp}{φ α:List aF}{τ:Sl}{μ:Mem}{f g:De}{a b c e:aI}{pos:Pos}{E:Ends}{u v:Ds}
theorem aK.step(p:aK D W φ α H E o)(st:aQ α H j r):aK D W φ j r E o:=by
 obtain⟨Q,q,h1,h2,i,h,g⟩:=p;exact⟨Q,q,λτ μ z b f a e=>h1 τ μ z b f a (st.trans e),λτ μ z b f a e=>h2 τ μ z b f a (st.trans e),λτ μ z b f a e=>i τ μ z b f a (st.trans e),λτ μ z b f a e=>h τ μ z b f a (st.trans e),λc fs τ μ z b f a C d e=>g c fs τ μ z b f a C d (st.trans e)⟩
theorem aK.elim{C:Prop}(p:aK D W φ α H E cM.st):C:=by obtain⟨_,q,_⟩:=p;exact q.elim
theorem aK.nx(p:aK D W φ α H E (.nx τ μ))(s:aQ α H d z)(m:aL D φ d z μ)(r:a_ D φ d z τ j):E.nx j z:=by
 obtain⟨Q,q,h1,_⟩:=p;exact h1 τ μ q d z j s m r
theorem aK.rt(p:aK D W φ α H E (.rt t μ)){v:V}(s:aQ α H d j)(m:aL D φ d j μ)(r:bA D φ d j t v):E.rt v j:=by
 obtain⟨Q,q,_,_,_,h,_⟩:=p;exact h t μ q d j v s m r
theorem aK.ex{c:Nat}{τ:Sl}{μ:Mem}(p:aK D W φ α H E (.ex c fs τ μ)){a:Hp}(s:aQ α H j a)(m:aL D φ j a μ)(r:a_ D φ j a τ z)(ad:iU D c fs cv)(x:cB D φ j a fs d):W cv d z a:=by
 obtain⟨Q,q,_,_,_,_,h⟩:=p;exact h c fs τ μ q j a z cv d s m r ad x
theorem aK.grd{c:Prop}(p:aK D W φ α H E (cM.grd c o)):c/\aK D W φ α H E o:=by
 obtain⟨Q,q,h⟩:=p;exact⟨q.1,Q,q.2,h⟩
theorem aK.som{o:Option d}{k:d->cM}(p:aK D W φ α H E (cM.som o k)):∃a,o=aA a/\aK D W φ α H E (k a):=by
 obtain⟨Q,⟨a,e,q⟩,h⟩:=p;exact⟨a,e,Q,q,h⟩
theorem aK.br{b:Bool}{s:cM}(p:aK D W φ α H E (cM.br b r s)):(b=aB/\aK D W φ α H E r)\/(b=aC/\aK D W φ α H E s):=by
 obtain⟨Q,q,h⟩:=p;cases b with
 |true=>exact .inl ⟨rfl,Q,q,h⟩
 |false=>exact .inr ⟨rfl,Q,q,h⟩
theorem aK.ex2{b a:Type}{P c:b->a->Prop}{r:b->a->cM}(p:aK D W φ α H E (λQ=>∃x y,P x y/\c x y/\r x y Q)):∃x y,P x y/\c x y/\aK D W φ α H E (r x y):=by
 obtain⟨Q,⟨x,y,h1,h2,q⟩,h⟩:=p;exact⟨x,y,h1,h2,Q,q,h⟩
theorem aK.ex1{a:Type}{P b:a->Prop}{r:a->cM}(p:aK D W φ α H E (λQ=>∃x,P x/\b x/\r x Q)):∃x,P x/\b x/\aK D W φ α H E (r x):=by
 obtain⟨Q,⟨x,h1,h2,q⟩,h⟩:=p;exact⟨x,h1,h2,Q,q,h⟩
theorem aK.out{kk:β->Mem->cM}(b:a_ D φ α H τ σ)(p:aK D W φ α H E (r.out τ kk)):aJ D W φ α H σ (λt j z A=>aK D W φ z A E (kk t j)) r:=by
 obtain⟨Q,q,h⟩:=p;refine⟨_,_,q,λa j e z A st m=>aK.step ⟨Q,e,h⟩ st,λc fs j e z A C d st m ad xd=>?_⟩;exact h.ex c fs τ j e z A σ C d st m (b.step st) ad xd
theorem N1(o:PE X a (aU D W f)):PS X (.Return (aA a) pos) (dQ D W (zh f)):=by
 rintro b s h H E I ⟨e,l,g,j,c,n,p⟩;refine Ow o b s h H E I ⟨e,l,g,j,c,n,(aK.out c p).mono λt i k r st m q v d=>aK.rt q (aQ.refl _ _) m d⟩
theorem P7:PS X (.Return aE pos) (dQ D W B5):=by
 rintro a s b H E I ⟨d,g,e,f,h,c,p⟩;exact P2 a s b H E I (aK.rt p (aQ.refl _ _) c rfl)
theorem OZ(hs:iJ a aE pos.line X.env=pure aC)(o:PE X a (aU D W f)):PS X (.Expr a pos) (dQ D W (zB f)):=by
 rintro b s h H E I ⟨e,l,g,j,c,n,p⟩;refine Yo o hs b s h H E I ⟨e,l,g,j,c,n,(aK.out c p).mono λt i k r st m q v d=>aK.nx q (aQ.refl _ _) m (c.step st)⟩
theorem Rn:gP X [] (dQ D W (qp [])):=by
 rintro a s b H E I ⟨e,h,f,g,c,d,p⟩;exact Yr a s b H E I (aK.nx p (aQ.refl _ _) d c)
theorem SI{st:bG}(h1:PS X st (dQ D W u))(h2:gP X r (dQ D W (qp fs))):gP X (st::r) (dQ D W (qp (u::fs))):=by
 rintro a s o H E I ⟨g,t,l,p,v,w,Q,q,x,k,j,i,h⟩;refine Kj h1 h2 a s o H E I ⟨g,t,l,p,v,w,_,q,λb c e d y n st m f=>?_,k,j,i,h⟩;exact⟨g,d,b,c,f,m,aK.step ⟨Q,e,x,k,j,i,h⟩ st⟩
def QC (X:Cx)(D:DP)(W:XW):List bG->List Ds->Prop
 |[],[]=>True
 |e::es,f::fs=>PS X e (dQ D W f)/\QC X D W es fs
 |_,_=>False
theorem va:∀{a:List bG}{fs:List Ds},QC X D W a fs->gP X a (dQ D W (qp fs))
 |[],[],_=>Rn
 |st::r,f::fs,h=>SI h.1 (va h.2)
 |[],_::_,h=>h.elim
 |_::_,[],h=>h.elim
theorem LX{ft:Dt}(n:PT X c (eJ D W ft))(o:QC X D W as us)(hb:QC X D W bs vs):PS X (.If c as bs pos) (dQ D W (bL ft us vs)):=by
 rintro e s i H E I ⟨g,k,h,j,f,l,p⟩;refine MH n (va o) (va hb) e s i H E I ⟨g,k,h,j,f,l,(aK.out f p).mono λb a d r st m q=>?_⟩;rcases aK.br q with⟨rfl,q⟩|⟨rfl,q⟩
 .exact⟨g,d,h,a,f.step st,m,q⟩
 .exact⟨g,d,h,a,f.step st,m,q⟩
def lr (Γ:Cn)(tg:aI):Bool:=(z6 tg).all λx=>!Γ.fz.contains x
theorem V5(h:lr Γ tg=aB)(m:∀x∈z6 tg,x∈Γ.N):∀x∈z6 tg,x∈Γ.sto:=λx a=>eW.mpr ⟨m x a,f6.mp h x a⟩
theorem Hm(C:Sk D W Γ X k){p0:Pos}(hi:cJ Γ.N x=aA i)(w:lr Γ (.Name x p0)=aB)(hs:iJ a (aA (.Name x p0)) pos.line X.env=pure aC)(A:PE X a (aU D W f)):PS X (.Assign [.Name x p0] a pos) (dQ D W (zp i f)):=by
 rintro b s j H E I ⟨g,r,h,n,c,u,p⟩;have e:=V5 w (λy z=>by rw[bU.mp z];exact wW hi) x (bU.mpr rfl);refine ON (i:=i) (X:=X) (by rw[C.hN];exact C.nd) (by rw[C.hN];exact vT hi) (C.sto x e).1 A hs (C.sto x e).2 b s j H E I ⟨g,r,h,n,c,u,(aK.out c p).mono λt l o B st m q v d=>?_⟩;exact aK.nx q (aQ.refl _ _) m ((c.step st).set d)
theorem JL:∀{es:List aI}{is:List Nat},cY N es=aA is->∀e∈es,∀x p,e=.Name x p->x∈N
 |[],_,_,e,a,_,_,_=>absurd a (by simp)
 |e0::es,is,h,e,a,x,p,c=>by
  cases e0 with
  |Name y g=>
   simp only[cY] at h;split at h
   .rename_i i d f b;rcases cK.mp a with rfl|a
    .cases c;exact wW f
    .exact JL b e a x p c
   .cases h
  |_=>simp[cY] at h
theorem S6(h:vF N e=aA tgt):∀x∈z6 e,x∈N:=by
 intro x a;cases e with
 |Name y p=>
  simp[z6] at a;subst a;simp only[vF] at h;cases q:cJ N x with
  |none=>rw[q] at h;cases h
  |some i=>exact wW q
 |Tuple es f p=>
  obtain⟨e,d,q⟩:=oz.mp a;simp only[vF] at h;cases b:cY N es with
  |none=>rw[b] at h;cases h
  |some g=>
   cases e with
   |Name y c=>
    have q:aA y=aA x:=q;cases q;exact JL b _ d x c rfl
   |_=>cases q
 |_=>simp[z6] at a
theorem G0(C:Sk D W Γ X k)(f:X.calm=aB)(ht:vF Γ.N tg=aA tgt)(e:lr Γ tg=aB):PG X tg (λv σ H Q=>∃φ α τ t z,a_ D φ α H τ σ/\bA D φ α H t v/\h_ tgt t τ=aA z/\∀j,a_ D φ α H z j->Q j H):=by
 rintro b s σ H v u Q I r ⟨φ,α,τ,t,z,c,d,g,q⟩;refine aW (XF (S:=Γ.sto) C.hN C.nd C.sto f (V5 e (S6 ht)) ht g I c d r) ?_;rintro _ i ⟨j,h,a⟩;exact⟨j,H,h,q j a⟩
noncomputable def yH:aI->Bool
 |.Call _ _ _ _=>aB
 |.Name _ _=>aB
 |.Subscript _ _ _=>aB
 |.Attribute _ _ _=>aB
 |_=>aC
theorem Np(C:Sk D W Γ X k)(B:Γ.calm=aB){es:List aI}(n:yH a=aB)(A:cY Γ.N es=aA is)(z:lr Γ (.Tuple es kk p0)=aB)(F:PE X a (aU D W f)):PS X (.Assign [.Tuple es kk p0] a pos) (dQ D W (A7 is f)):=by
 rintro b s r H E I ⟨j,x,l,w,i,y,p⟩;have J:rg [.Tuple es kk p0] a pos.line X.env=pure aC:=by cases a<;>first|(simp[yH] at n;done)|rfl
 have G:rf [.Tuple es kk p0] a X.env=pure aE:=by cases a<;>first|(simp[yH] at n;done)|rfl
 refine XE F (G0 C (C.clm B) (tg:=.Tuple es kk p0) (tgt:=.tup is) (by simp[vF,A]) z) J G rfl b s r H E I ⟨j,x,l,w,i,y,(aK.out i p).mono λt u e K st m q v d=>?_⟩;obtain⟨c,h,q⟩:=aK.som q;exact⟨j,e,l,t,c,i.step st,d,h,λo g=>aK.nx q (aQ.refl _ _) m g⟩
theorem OH(C:Sk D W Γ X k){p1:Pos}(T:(x,n)∈Γ.fld)(V:PE X a (aU D W f))(ho:PE X o (aU D W go)) :
  PS X (.Assign [.Attribute o x p1] a pos) (dQ D W (zM go n f)):=by
 rintro l s M H E I ⟨F,O,G,N,A,Q,p⟩;have S:iJ a (aA (.Attribute o x p1)) pos.line X.env=pure aC:=by cases a<;>rfl
 refine Om ho V S l s M H E I ⟨F,O,G,N,A,Q,(aK.out A p).mono λt u w H1 z R q v d=>?_⟩;have e:=A.step z;refine⟨F,w,G,u,e,R,(aK.out e q).mono λZ r g L h J j Y dv=>?_⟩;split at j;case h_2=>exact aK.elim j
 rename_i i;obtain⟨c,fs,m,hl,j⟩:=aK.ex2 j;obtain⟨y,B,rfl⟩:=dv;obtain⟨C0,dx,gs,ad,K,df⟩:=J.ob i y _ B m;obtain⟨fx,cl,P⟩:=C.fld c C0 x n ad T;refine⟨y,C0,dx,gs,rfl,K,cl,P,by rw[<-df.length];lia,?_⟩;have b:aQ g L g (upd L y (.ins C0 dx (j7 x v gs))):=aQ.turn (bK B) ⟨_,K⟩;have U:i<r.length:=(bE.mp m).1;exact aK.nx j b (J.turn B U b ⟨C0,dx,_,ad,z3,bN.put fx (df.step b) ((d.step h).step b)⟩) ((e.step h).step b)
theorem fU:Bv X (λo i v H Q=>∃l k xs,o=.ref l/\i=.int k/\H l=aA (.lst xs)/\0<=k/\k<xs.length/\k<9223372036854775808/\Q (upd H l (.lst (xs.set k.toNat v)))):=by
 intro c s A H o i v B C u Q I j m g h;obtain⟨l,k,xs,rfl,rfl,d,y,x,w,q⟩:=h;cases j;obtain⟨t,rfl⟩:=m;obtain⟨z,b,n,r,p,e⟩:=I.lstM d;refine PySem.W.ki_setAt (n:=n) (items:=b.toArray) e y (by simpa using w) (by rw[d7,<-p];exact x) ?_;exact⟨_,I.lset (t':=s.toks) (ys:=xs.set k.toNat v) (its':=b.set k.toNat u) (f:=λa=>a.setIfInBounds k.toNat u) d e (by simp) (aY.set g _ r) (by rw[n_];exact z),q⟩
theorem Nc(C:Sk D W Γ X k){p1:Pos}(O:qD b=aB)(ha:PE X a (aU D W f))(ho:PE X o (aU D W fo))(hb:PE X b (aU D W fb)) :
  PS X (.Assign [.Subscript o b p1] a pos) (dQ D W (F_ fo fb f)):=by
 rintro r s T H E I ⟨w,V,y,U,K,Z,p⟩;have h1:rg [.Subscript o b p1] a pos.line X.env=pure aC:=by cases a<;>rfl
 have h2:rf [.Subscript o b p1] a X.env=pure aE:=by cases a<;>rfl
 refine XE ha (HC ho hb fU (λv=>by cases b<;>first|(simp[qD] at O;done)|rfl)) h1 h2 rfl r s T H E I ⟨w,V,y,U,K,Z,(aK.out K p).mono λt B G H1 J m1 q v d=>?_⟩;have h:=K.step J;refine⟨w,G,y,B,h,m1,(aK.out h q).mono λot A F H2 m m2 Y ov dv=>?_⟩;have g:=h.step m;refine⟨w,F,y,A,g,m2,(aK.out g Y).mono λit z j S e Q n iv di=>?_⟩;have d3:=(d.step m).step e;split at n;case h_2=>exact aK.elim n
 rename_i i L;have dv:=dv.step e;obtain⟨ts,u,N,n⟩:=aK.ex1 n;obtain⟨x,M,rfl⟩:=dv;have di:iv=.int L:=di;subst di;obtain⟨P,R,l⟩:=Q.ob i x _ M u;have c:aQ j S j (upd S x (.lst (P.set L.toNat v))):=aQ.turn (bK M) ⟨_,R⟩;have hi:i<z.length:=(bE.mp u).1;exact⟨x,L,P,rfl,rfl,R,N.1,by rw[<-l.length];exact N.2.1,N.2.2,aK.nx n c (Q.turn M hi c ⟨_,z3,aM.set (l.step c) (d3.step c)⟩) ((g.step e).step c)⟩
theorem OK(C:Sk D W Γ X k)(hc:Γ.calm=aB)(ht:vF Γ.N tg=aA tgt)(hz:lr Γ tg=aB){body:List bG}{vs:List Ds}(hi:PI X tg iter (gM D W fi))(hb:QC X D W body vs)(hs:∀x,lW iter X.env x=pure x) :
  PS X (.For tg iter body [] pos) (dQ D W (vr tgt fi vs)):=by
 rintro pins s σ H E I ⟨B,α,τ,μ,sr,mr,p⟩;refine Ni C.pso (C.clm hc) hi (G0 C (C.clm hc) ht hz) (va hb) hs pins s σ H E I ⟨B,α,τ,μ,sr,mr,(aK.out sr (show aK D W B α H E ((fi τ μ).re.out τ λpr O=>fV tgt (qp vs) pr.2 pr.1 τ O) from p)).mono λpr O R H1 st1 m1 q J Ok iv okk lv1=>?_⟩;obtain⟨z,o⟩:=pr;obtain⟨Q,q,h1,h2,h3,h4,h5⟩:=q;refine⟨λi m L A=>m=z.length-i/\i<=z.length/\∃a r l,aQ R H1 a A/\aL D B a A l/\a_ D B a A r L/\o l/\fV tgt (qp vs) o (z.drop i) r l Q,⟨z.length,by simp,hL _,R,τ,O,aQ.refl _ _,m1,sr.step st1,lv1,by simpa using q⟩,?_⟩;rintro i m L A ⟨rfl,hi',a,r,l,g,w,F,lv',U⟩;have S:Ok B a A:=okk _ a A l g.lk w lv';by_cases K:i<z.length
 .refine .inr ⟨iv.go i _ _ A S K,λσ2 V=>∃P Z M,aQ R H1 P V/\aL D B P V M/\a_ D B P V Z σ2/\o M/\fV tgt (qp vs) o (z.drop (i+1)) Z M Q,λσ2 V h2=>⟨z.length-(i+1),by omega,rfl,K,h2⟩,λx V y=>?_⟩;obtain⟨sm,dx⟩:=iv.yld i _ _ A x V z[i] S (by simp[K]) y;have g:=g.trans (aQ.new (α:=a) sm);have F:=F.step (aQ.new (α:=a) sm);have w:=w.new sm;rw[EZ K] at U;obtain⟨Y,ha,U⟩:=U;refine⟨B,a,r,z[i],Y,F,dx,ha,λσ3 sr3=>⟨B,a,Y,l,sr3,w,_,U,?_,?_,?_,?_,?_⟩⟩
  .exact λj b e f T u h G n=>⟨f,j,b,g.trans h,G,n,e⟩
  .exact λj b e f T u h G n=>h1 j b e f T u (g.trans h) G n
  .exact λj b e f T u h G n=>⟨f,j,b,g.trans h,G,n,e⟩
  .exact λt b e f T v h G d4=>h4 t b e f T v (g.trans h) G d4
  .exact λc fs j b e f T u Cc d h G n=>h5 c fs j b e f T u Cc d (g.trans h) G n
 .have hie:i=z.length:=by omega
  rw[hie,List.drop_length] at U;exact .inl ⟨by rw[hie];exact iv.stop _ _ A S,h1 r l U a A L g w F⟩
theorem TK(C:Sk D W Γ X k){body:List bG}(hc:PT X c (eJ D W ft))(hb:QC X D W body vs):PS X (.While c body [] pos) (dQ D W (Vp ft vs)):=by
 rintro K s σ H E I ⟨F,O,Z,μ,sr,mr,Q,⟨J,⟨N,hN⟩,hJ⟩,Y,h2,h3,S,V⟩;refine Sa C.pso hc (va hb) K s σ H E I ?_;refine⟨λm w M=>∃u i r,aQ O H u M/\aL D F u M r/\a_ D F u M i w/\J m i r,⟨N,O,Z,μ,aQ.refl _ _,mr,sr,hN⟩,?_⟩;rintro m w M ⟨u,i,r,B,P,z,pf⟩;refine⟨F,u,i,r,z,P,_,_,hJ m i r pf,λb x e y T n L=>?_,λc fs x e y T U d n L ad xd=>V c fs i x e y T w U d (B.trans n) L (z.step n) ad xd⟩;cases b with
 |false=>exact Y i x e y T w (B.trans n) L (z.step n)
 |true=>
  rw[if_pos rfl];have G:=B.trans n;refine⟨λl p=>∃j,j<m/\∃a g f,aQ O H a p/\aL D F a p f/\a_ D F a p g l/\J j g f,λl p S=>S,F,y,i,x,z.step n,L,_,e,?_,?_,?_,?_,?_⟩
  .exact λg f ⟨j,R,q⟩ a p l h A o=>⟨j,R,a,g,f,G.trans h,A,o,q⟩
  .exact λg f e a p l h A o=>Y g f e a p l (G.trans h) A o
  .exact λg f ⟨j,R,q⟩ a p l h A o=>⟨j,R,a,g,f,G.trans h,A,o,q⟩
  .exact λt f e a p v h A d4=>S t f e a p v (G.trans h) A d4
  .exact λc fs g f e a p l U d h A o=>V c fs g f e a p l U d (G.trans h) A o
theorem O4(C:Sk D W Γ X k)(hc:Γ.calm=aB){tg iter elt:aI}{fi:Di}{ifs:List aI}{fe:De}{x:aH}{P:Nat}{p0 p1:Pos}(K:cJ Γ.N x=aA P)(hz:lr Γ (.Name x p0)=aB)(ok:cS Γ.N Γ.cel tg sc)(hfs:jX Γ.N (frees sc)=aA fs)(htg:vF (z6 tg++frees sc) tg=aA tgt)(hi:PI X tg iter (gM D W fi))(hel:∀Q W',Ck D W' (inComp Γ tg sc) Q k->PE Q elt (aU D W' fe))(hts:∀Q W',Ck D W' (inComp Γ tg sc) Q k->KA Q D W' ifs cs)(hs:∀x,lW iter X.env x=pure x)
  (own:Bool) (hsw:iJ (.ListComp elt [⟨tg,iter,ifs,0⟩] sc p1) (aA (.Name x p0)) pos.line X.env=pure aB) :
  PS X (.Assign [.Name x p0] (.ListComp elt [⟨tg,iter,ifs,0⟩] sc p1) pos) (dQ D W (zp P (match own with|true=>jw (z6 tg).length fs tgt fi cs fe|false=>w9 (z6 tg).length fs tgt fi cs fe))):=by
 rintro i s σ H E I ⟨R,α,τ,o,sr,mr,p⟩;rw[exec_Assign_Name_used _ _ _ _ hsw];refine wpAny_bind (hW (wpAny_bind ?_));show wpAny _ _ (do let _ ←rc (.ListComp elt [⟨tg,iter,ifs,0⟩] sc p1) sc X.env _ (newList []) aC (eval iter X.env) (aA (ib (.Name x p0) X.env))) _ _ s;refine wpAny_bind (aW (u6 (kk:=λU o=>match own with|true=>RE.ok (T.mut o.length) (o++[MO.lst U])|false=>RE.ok (T.lst U) o) (use:=aA (ib (.Name x p0) X.env)) (Qf:=λ_ B=>∃a f,Inv X i a f B/\E.nx a f) C.toCk hc ok hfs htg hi hel hts hs I sr mr (aK.out sr (by cases own<;>exact p)) ?_) λ_ B hq=>wpAny_pure (wpAny_pure hq));rintro j C0 B α1 H1 f α' U vs r I' st1 st hn F nal u m ha dl c O hp ⟨mm,hm⟩;have hx:=wW K;obtain⟨oc,es,ep,hoc,L,l⟩:=hm;have I2:Inv X (i++[(C0,oc)]) σ f B:=I'.pins_of λp n=>(b_.mp n).elim (λz=>I'.pin p (dH _ z)) λz=>by
  rw[bU.mp z];exact⟨hoc,O.free,O.loc,O.nfs,λv e=>by rw[L] at e;cases e⟩
 have M:∀{b:List aF}{t:T}{μ2:Mem},a_ D R b f τ σ->bA D R b f t (.ref j)->(∀a,a_ D R b f (Z6 τ P (aA t)) a->E.nx a f)->wpAny (aS X.prog X.w) X.A (ib (.Name x p0) X.env (.ref j)) (λ_ V=>∃m,V.heap.Ns C0 m/\∀g,fR C0 V.heap g->∃a f,Inv X i a f {V with heap:=g}/\E.nx a f) X.xe B:=λ{b t μ2} Z d q=>by
  refine aW (XF (e:=.Name x p0) (S:=Γ.sto) (tgt:=.one P) (t:=t) (τ:=τ) C.hN C.nd C.sto (C.clm hc) (V5 hz λy hy=>by rw[bU.mp hy];exact hx) (by simp[vF,K]) rfl I2 Z d (show RelV (.ref j) (.ref j) from rfl)) ?_;rintro _ s2 ⟨a,I3,h⟩;have J:=(I3.pin (C0,oc) (dH _ (dH _ (bU.mpr rfl)))).1;refine⟨mm,⟨oc,es,ep,J,L,l⟩,λg sb=>⟨a,f,?_,q a h⟩⟩;exact Zd (I3.pins_of λp n=>I3.pin p (dH _ (eY _ n))) O hp sb
 cases own with
 |false=>
  obtain⟨G,d,c⟩:=Jj (kk:=λt o=>RE.ok t o) st hn F m ha dl c;exact M (μ2:=r) (u.lk j5) d λa h=>aK.nx (c.ok (aQ.refl _ _) G) (aQ.refl _ _) G h
 |true=>
  obtain⟨Y,G,d⟩:=WQ st hn F m ha dl;exact M (μ2:=r) (u.lk xX) d λa h=>aK.nx (c.ok Y G) (aQ.refl _ _) G h
end
def ME(C:aF)(h:aV):Prop:=∃b N nm q bs hd d sub ab a dd j i g f e c,h.get? C=aA (iL nm q C N bs b hd d sub ab a dd j i g f e "ValueError.__new__")/\h.Ns N c/\c "__init__"=aE/\l9 h zT b
theorem Js {K:bO}(kin:K.In h) (e:fA K C zT "ValueError.__new__"=aB):ME C h:=by
 simp only[fA] at e;revert e;cases w:K.lookup C with
 |none=>intro e;cases e
 |some o=>
  intro e;split at e;case h_2=>cases e
  rename_i dd cd d v;cases v;split at e;case h_2=>cases e
  rename_i B s l k j i n g p m;simp only[cO,beq_iff_eq,oi] at e;obtain⟨⟨⟨⟨⟨z,y⟩,r⟩,x⟩,b⟩,q⟩:=e;cases cd;rename_i nm bs mro f u hd t sub ab c A;simp only at p r b q;cases z;cases y;cases p;cases r;have a:d=#[l,k,j,i,aA (.builtin "ValueError.__new__"),g]:=by
   cases d;simp only at m;rw[m]
  cases a;exact⟨s,f,nm,u,bs,hd,t,sub,ab,c,dd,l,k,j,i,g,h.nsMap f,kin _ _ w,.of_isNs (t4 kin b),PySem.W.nsMap_none_of_in kin b q,PySem.W.tail_of_in kin x⟩
section
variable {X:Cx}{D:DP}{W:XW}{Γ:Cn}{k:Nat}{pins:List (aF×bF)}{s:Shared}{σ:St}{H:Hp}{φ α:List aF}{τ:Sl}{μ:Mem}{a b c e:aI}{pos:Pos}{E:Ends}{es:List aI}{fs:List De}
theorem SD(C:Sk D W Γ X k)(hc:Γ.calm=aB)(B:x∈Γ.G)(hg:Γ.gl x=.xcl n)(T:dU X D W (a::es) fs) :
  PS X (.Raise (aA (.Call (.Name x p0) (a::es) [] p1)) aE pos) (dQ D W (zH n fs)):=by
 rintro j s O H E I ⟨h,P,u,U,A,mr,p⟩;have q:=C.glo x B;rw[hg] at q;obtain⟨C0,ad,hm,L⟩:=q;have K:=T.stars;obtain⟨o,N,nm,R,bs,hd,sn,sub,ab,col,dd,k0,k1,k2,k3,k5,mN,Z,Y,V,S⟩:=Js I.ok.mod.kin L;have hb:o.contains (.type "BaseException")=aB:=S.hasType oC.hasBase;have hp:(eU p1 (dW (a::es) X.env)).any (·.1)=aC:=wh K;refine wpAny_Raise_call_subT (nm:=nm) (q:=R) (C:=C0) (N:=N) (bs:=bs) (bm:=o) (hdct:=hd) (sn:=sn) (sub:=sub) (ab:=ab) (col:=col) (dd:=dd) (k0:=k0) (k1:=k1) (k2:=k2) (k3:=k3) (k5:=k5) (mN:=mN) oC hb (I.ok.hd (C.clm hc)) hp V ?_;refine vb I (C.glb x B) hm ⟨rfl,?_⟩ (C.dbG x B);have J:aO a=aB:=by simp only[lT,cO] at K;exact K.1
 have Q:=aW (jk T p1 j s O H (λy g=>∃i c b,aQ P H b g/\a_ D h b g u O/\aL D h b g c/\aM D h b g i y/\aK D W h b g E (.grd (i.length<=aT) (.ex n [] u c))) I ⟨h,P,u,U,A,mr,(aK.out A p).mono λi v w H' st m q y d _=>⟨i,v,w,st,A.step st,m,d,q⟩⟩) (Q':=λl f=>l.length<=sizeLine/\f.heap.get? C0=aA (iL nm R C0 N bs o hd sn sub ab col dd k0 k1 k2 k3 k5 "ValueError.__new__")/\f.heap.Ns N mN/\l9 f.heap zT o/\∀M e,n7 f.heap M e (.ref C0) l->X.xe (.ref e) {f with heap:=M}) ?_
 .rw[z5 J] at Q ⊢;exact m9 (aW Q λl f h1=>⟨rfl,h1⟩)
 .rintro l f ⟨y,g,t,r,i,c,b,st,z,m1,dl,q⟩;obtain⟨hl,q⟩:=aK.grd q;refine⟨?_,t.bk _ _ Z,Y.keeps t.bk,S.keeps t.bk,λM e mk=>?_⟩
  .have e1:=dl.length;have e2:=r.length;have:=qa hl;rw[<-e2,<-e1];exact this
  .exact C.xe _ _ (PV t mk (aK.ex q (aQ.refl _ _) m1 z (.own C0 ad rfl) rfl))
theorem fG.ty{M:Model}{h:aV}{x T:aF}(t:fG h x T cls d fl):p_ M h (typeOf (.ref x)) (stC cls):=by
 obtain⟨a,vs,a0,b,ts,h1,⟨h2,e⟩,c,_⟩:=t;exact h2▸(Iy h1).andThen .now
theorem fG.keeps{h g:aV}{x T:aF}(t:fG h x T cls d fl)(k:∀b o,h.get? b=aA o->g.get? b=aA o):fG g x T cls d fl:=by
 obtain⟨c,vs,a0,e,ts,h1,h2,p,n,m,l,j,i,f,a⟩:=t;exact⟨c,vs,a0,e,ts,k _ _ h1,h2,p,n,m,l,k _ _ j,i,f,a⟩
def iG (Γ:Cn)(x:aH)(c:Nat):Prop:=x∈Γ.G/\(x,c)∈Γ.cls/\((∃f,Γ.gl x=.xcf c f)\/Γ.gl x=.xcl c)/\c<40
def BL (Γ:Cn)(t:aI)(cs:List Nat):Prop:=∃x p c,t=.Name x p/\cs=[c]/\iG Γ x c
def QE (D:DP)(Γ:Cn)(k:Nat):List pZ->List (List Nat×Option Nat×List Ds)->Prop
 |[],[]=>True
 |h::f,g::r=>(∃t c a e cs b,h=.ExceptHandler (aA t) aE (c::a) e/\g=(cs,aE,b)/\BL Γ t cs/\∀d,Sk D o2 {Γ with calm:=aC} d k->QC d D o2 (c::a) b)/\QE D Γ k f r
 |_,_=>False
theorem iG.mg(C:Sk D W Γ X k){c:Nat}(h:iG Γ x c):∃d,X.mg x=aA (.ref d)/\D.adr c=aA d:=by
 have q:=C.glo x h.1;rcases h.2.2.1 with⟨f,g⟩|g
 .rw[g] at q;obtain⟨d,ad,a⟩:=q;exact⟨d,a,ad⟩
 .rw[g] at q;obtain⟨d,ad,a,_⟩:=q;exact⟨d,a,ad⟩
theorem NE{c:Nat}(h:sD kk=aA n)(ne:c≠kk):je kk c=aC:=by
 have e:kk=8\/kk=9:=by
  unfold sD at h;split at h
  .exact .inl ‹_›
  .split at h
   .exact .inr ‹_›
   .cases h
 have a:fL kk c=aC:=by
  cases q:fL kk c with
  |false=>rfl
  |true=>exact absurd (ww q).symm ne
 rcases e with rfl|rfl<;>(show mG (fL _ c) _=aC;rw[a])
theorem RG(C:Sk D W Γ X k){x:aH}{c kk:Nat}(ad:iU D kk g cv)(b:iG Γ x c)(f:X.mg x=aA (.ref d))(a:D.adr c=aA d):n0 X.K (stC cv) (.ref d)=aA (je kk c):=by
 cases ad with
 |own Ck ad e=>rw[e,Rf];exact C.xmt kk x c b.2.1 b.2.2.2 Ck d ad f
 |blt n h m e=>
  have l:c≠kk:=λz=>by rw[z,m] at a;cases a
  rw[NE h l,e];have q:=C.xmt c x c b.2.1 b.2.2.2 d d a f;unfold n0 at q ⊢;split at q
  .rename_i j;rw[if_pos j];unfold PySem.W.kitCls at q ⊢;dsimp only at q ⊢;split at q
   .rename_i i;rw[if_pos i];unfold sD at h;split at h
    .cases h;rfl
    .split at h
     .cases h;rfl
     .cases h
   .cases q
  .cases q
theorem O6(C:Sk D W Γ X k){x:aF}{cv:aD}{kk:Nat}{t:aI}{s:bB}{σ:St}{H:Hp}{E F:aD->bB->Prop}(ad:iU D kk j cv)(ht:BL Γ t cs)(I:Inv (Cx.han (Cx.pin' X pins) x) [] σ H s)(ty:p_ (aS X.prog X.w) s.heap (typeOf (.ref x)) (stC cv))
  (q:∀h',(∀b o,s.heap.get? b=aA o->h'.get? b=aA o)->Q (dD kk cs) {s with heap:=h'}):wpAny (aS X.prog X.w) (X.A.mark (aA (.ref x))) (eval t X.env) (λc d=>wpAny (aS X.prog X.w) (X.A.mark (aA (.ref x))) (excMatches (.ref x) c) Q E d) F s:=by
 obtain⟨y,p,c,rfl,rfl,a⟩:=ht;obtain⟨h,g,f⟩:=a.mg C;refine vb (X:=Cx.han (Cx.pin' X pins) _) I (C.glb y a.1) g ?_ (C.dbG y a.1);refine (PySem.W.exm_one (M:=aS X.prog X.w) I.kIn ty (RG C ad a g f)).at ?_;have e:dD kk [c]=je kk c:=by
  rw[ZY];show mG _ aC=_;cases je kk c<;>rfl
 have:=q s.heap λ_ _ e=>e;rw[e] at this;exact this
theorem G9(C:Sk D W Γ X k){x K:aF}{cv:aD}{d:Option aF}{kk:Nat}{n:List (Nat×T)}(ad:iU D kk n cv):∀{hs:List pZ}{r:List (List Nat×Option Nat×List Ds)}{B:bB}{i:St}{l:Hp}{a:List aF}{c:Sl}{j:Mem},QE D Γ k hs r->Inv (Cx.pin' X pins) [] i l B->dF (Cx.pin' X pins) l x->dF (Cx.pin' X pins) l K->fG B.heap x K cv d .none->
  cB D φ a l n d->aL D φ a l j->a_ D φ a l c i->aK D W φ a l E (sk r kk n c j)->wpAny (aS X.prog X.w) X.A (handleBy (.ref x) X.env hs) (SP X pins E) X.xe B
 |[],[],B,i,l,a,c,j,_,u,O,P,G,xd,m1,v,p=>by
  obtain⟨e0,out,L,F⟩:=C.frm;refine wpAny_handleBy_nil ?_;unfold DF;obtain⟨oe,vs',a0,oT',ts,ho,hcc,hd,hv0,hv1,hT,hoT,hdT,h3,_⟩:=id G;refine wpAny_bind (lH ho hd hv1 ?_);rw[if_neg (show ¬((cN K==gI)=aB) from by simp)];have go:∀{H:bB},XP X W (.ref x) H->wpAny (aS X.prog X.w) X.A (throw (cN x):Sem Flow) (SP X pins E) X.xe H:=λ{H} M=>wpAny_throw (C.xe _ _ M);have un:∀b,dF (Cx.pin' X pins) l b->dF X l b:=λb o=>⟨o.free,o.loc,o.nfs,o.new,o.cel,λp hp=>o.pin p (eY _ hp)⟩;have U:wpAny (aS X.prog X.w) X.A (mU (.ref x) X.env.frame) (λ_ H=>XP X W (.ref x) H) X.xe B:=by
   refine vc ((qm u).pins_of λp hp=>absurd hp (by simp)) (un x O) (un K P) G λh4 I4 N=>?_;refine⟨x,cv,d,i,l,aA K,cV L,rfl,I4,un x O,λt ht=>?_,?_,.inr ⟨L,F.fe,rfl⟩,aK.ex p (aQ.refl _ _) m1 v ad xd⟩
   .have:t=K:=by simpa using ht
    rw[this];exact un K P
   .rw[F.fe] at N;exact N
  first
   |exact wpAny_bind (aW U λ_ H M=>go M)
   |exact wpAny_bind (wpAny_pure (wpAny_bind (aW U λ_ H M=>go M)))
 |[],_::_,_,_,_,_,_,_,h,_,_,_,_,_,_,_,_=>h.elim
 |_::_,[],_,_,_,_,_,_,h,_,_,_,_,_,_,_,_=>h.elim
 |hd::hs',g::r',B,i,l,a,c,j,h,u,O,P,G,xd,m1,v,p=>by
   obtain⟨⟨t,b0,Z,pp,cs,vs,rfl,rfl,ht,hsu⟩,J⟩:=h;have IX:Inv (Cx.han (Cx.pin' X pins) x) [] i l B:=Y8 u;refine wpAny_handleBy_cons (codeAny_handlers_test (O6 C ad ht IX (fG.ty G) λh' R=>?_)) (λq=>by cases q);have u:Inv (Cx.pin' X pins) [] i l {B with heap:=h'}:=u.kept (t':=B.toks) R;have G:=G.keeps R;have p:aK D W φ a l E (.br (dD kk cs) (F6 aE vs kk n c j) (sk r' kk n c j)):=p;rcases aK.br p with⟨hb,p⟩|⟨hb,p⟩
   .rw[hb];obtain⟨Q,q,h1,h2,h3,h4,h5⟩:=p;have C2:∀{X':Cx},X'=Cx.han (Cx.pin' X pins) x->Sk D o2 {Γ with calm:=aC} X' k:=λ{X'} hX'=>by
     subst hX';obtain⟨e0,out,L,F⟩:=C.frm;exact {hK:=C.hK,hN:=C.hN,nd:=C.nd,vis:=C.vis,dbg:=C.dbg,dbG:=C.dbG,glb:=C.glb,glo:=C.glo,glU:=C.glU,cel:=C.cel,isi:=C.isi,fld:=C.fld,xcx:=C.xcx,ocx:=C.ocx,clv:=C.clv,clm:=(λz=>by cases z),rom:=(λz=>by cases z),rmh:=⟨C.rmh.dp,C.rmh.un⟩,xe:=(λe s p=>by obtain⟨_,_,_,_,_,_,_,_,_,_,_,_,_,z⟩:=p;exact z),frm:=⟨e0,out,L,F.stk,F.f0,F.fe⟩,lam:=C.lam,kfz:=C.kfz,sto:=C.sto,lcl:=C.lcl,pso:=PassesOwn.never,xmt:=C.xmt}
    have okX:X.Ok:=JV u.ok;refine codeAny_handlers_suite (vc (X:=Cx.pin' X pins) u O P G λh3' I3 tr3=>?_);have S:=va (hsu _ (C2 rfl)) [] _ _ _ {nx:=E.nx,rt:=E.rt} (Y8 (x:=x) I3) ⟨φ,a,c,j,v,m1,_,q,h1,(λ_ _ z=>z.elim),(λ_ _ z=>z.elim),h4,(λ_ _ _ _ z=>z.elim)⟩;refine dY S (λf s6 h6=>?_) (λ_ _ z=>z.elim);cases f with
    |next=>obtain⟨m,Y,V,I⟩:=h6;exact⟨m,Y,qm (WI u.ok V),I⟩
    |brk=>obtain⟨m,Y,V,I⟩:=h6;exact I.elim
    |cont=>obtain⟨m,Y,V,I⟩:=h6;exact I.elim
    |ret w=>obtain⟨y,m,Y,V,r,I⟩:=h6;exact⟨y,m,Y,qm (WI u.ok V),r,I⟩
   .rw[hb];exact G9 C ad J u O P G xd m1 v p
theorem NY(C:Sk D W Γ X k)(hc:Γ.calm=aB){body:List bG}(hb:∀Y W',Sk D W' Γ Y k->QC Y D W' body us)(hh:QE D Γ k (h0::hs) r) :
  PS X (.Try body (h0::hs) [] [] pos) (dQ D W (oH us r)):=by
 rintro a s σ H E I ⟨o,N,Z,μ,sr,mr,Q,q,j,U,T,S,h5⟩;obtain⟨e0,out,L,F⟩:=C.frm;have V:ly (Cx.pin' X a) e0 out L:=⟨F.stk,F.f0,F.fe⟩;generalize R:(λ(cls:aD) (d:Option aF) (b:St) (c:Hp)=>∃n fs g h i,sk r n fs g h Q/\iU D n fs cls/\aQ N H i c/\aL D o i c h/\a_ D o i c g b/\cB D o i c fs d:XW)=u;have C1:Sk D u Γ ((Cx.pin' X a).wish (XP (Cx.pin' X a) u)) k:={hK:=C.hK,hN:=C.hN,nd:=C.nd,vis:=C.vis,dbg:=C.dbg,dbG:=C.dbG,glb:=C.glb,glo:=C.glo,glU:=C.glU,cel:=C.cel,isi:=C.isi,fld:=C.fld,xcx:=C.xcx,ocx:=C.ocx,clv:=C.clv,clm:=C.clm,rom:=C.rom,rmh:=⟨C.rmh.dp,C.rmh.un⟩,xe:=λe s p=>kK p,frm:=⟨e0,out,L,F.stk,F.f0,F.fe⟩,lam:=C.lam,kfz:=C.kfz,sto:=C.sto,lcl:=C.lcl,pso:=uf V I.ok.frames,xmt:=C.xmt};have B:=va (hb _ u C1) [] s σ H E ((Jd I).wish _) ⟨o,N,Z,μ,sr,mr,_,q,j,U,T,S,λn fs g h z v c b cv d st m K ad xd=>by rw[<-R];exact⟨n,fs,g,h,v,z,ad,st,m,K,xd⟩⟩;refine wpAny_Try_except (dY B (λf t j=>?_) (λe1 t M=>?_))
 .cases f with
  |next=>obtain⟨b,c,l,q⟩:=j;exact Yr a t b c E (qm l.unwish) q
  |brk=>obtain⟨b,c,l,q⟩:=j;exact⟨b,c,qm l.unwish,q⟩
  |cont=>obtain⟨b,c,l,q⟩:=j;exact⟨b,c,qm l.unwish,q⟩
  |ret w=>obtain⟨y,b,c,l,r,q⟩:=j;exact⟨y,b,c,qm l.unwish,r,q⟩
 have M:XP (Cx.pin' X a) u e1 t:=M;refine Zh (X:=Cx.pin' X a) V I.ok.frames M λx cls d σ1 H1 Tt h' ee I1 O P tr w=>?_;subst ee;refine vc (X:=Cx.pin' X a) (s:={t with heap:=h'}) I1 O P tr λh2' I2 A=>?_;rw[<-R] at w;obtain⟨n,fs,g,h,i,z,ad,G,m1,J,xd⟩:=w;exact G9 C ad hh I2 O P A xd m1 J (aK.step ⟨Q,z,j,U,T,S,h5⟩ G)
end
structure dM where
 e:Cn->aI->Option De
 t:Cn->aI->Option Dt
 w:Cn->aI->Option Dt
 i:Cn->aI->Option Di
 o:Cn->aI->Option De
 s:Cn->bG->Option Ds
abbrev ER:=dM->Cn->aI->Option De
abbrev TR:=dM->Cn->aI->Option Dt
abbrev IR:=dM->Cn->aI->Option Di
abbrev SR:=dM->Cn->bG->Option Ds
structure dS where
 e:List ER
 t:List TR
 w:List TR
 i:List IR
 o:List ER
 s:List SR
def Vc {α β:Type}:List (dM->Cn->α->Option β)->dM->Cn->α->Option β
 |[],_,_,_=>aE
 |f::fs,r,a,e=>match f r a e with
  |some d=>aA d
  |none=>Vc fs r a e
def aP (R:dS):Nat->dM
 |0=>⟨λ_ _=>aE,λ_ _=>aE,λ_ _=>aE,λ_ _=>aE,λ_ _=>aE,λ_ _=>aE⟩
 |n+1=>⟨Vc R.e (aP R n),Vc R.t (aP R n),Vc R.w (aP R n),Vc R.i (aP R n),Vc R.o (aP R n),Vc R.s (aP R n)⟩
noncomputable def Uj:aI->Bool
 |.Tuple _ _ _=>aB
 |_=>aC
theorem Yc(h:Uj e=aB):∃d x1 g,e=.Tuple d x1 g:=by
 unfold Uj at h;split at h
 .exact⟨_,_,_,rfl⟩
 .cases h
def KS (tg e:aI):Bool:=match e with
 |.Call (.Name x _) _ _ _=>(x != ("enumerate":aH)&&x != ("zip":aH)) || Uj tg
 |.Call (.Attribute _ m _) _ _ _=>m != ("items":aH) || Uj tg
 |_=>aB
structure bV(D:DP)(r:dM):Prop where
 e:∀{X W Γ k e f},Ck D W Γ X k->r.e Γ e=aA f->PE X e (aU D W f)
 t:∀{X W Γ k e f},Ck D W Γ X k->r.t Γ e=aA f->PT X e (eJ D W f)
 w:∀{X W Γ k e f},Ck D W Γ X k->r.w Γ e=aA f->PW X e (eJ D W f)
 i:∀{X W Γ k tg e f},Ck D W Γ X k->KS tg e=aB->r.i Γ e=aA f->PI X tg e (gM D W f)
 o:∀{X W Γ k e f},Ck D W Γ X k->r.o Γ e=aA f->PE X e (aU D W f)
 s:∀{X W Γ k e f},Sk D W Γ X k->r.s Γ e=aA f->PS X e (dQ D W f)
def cR (D:DP)(f:ER):Prop:=∀r,bV D r->∀{X W a k e d},Ck D W a X k->f r a e=aA d->PE X e (aU D W d)
def sF (D:DP)(f:TR):Prop:=∀r,bV D r->∀{X W a k e d},Ck D W a X k->f r a e=aA d->PT X e (eJ D W d)
def Ij (D:DP)(f:TR):Prop:=∀r,bV D r->∀{X W a k e d},Ck D W a X k->f r a e=aA d->PW X e (eJ D W d)
def mI (D:DP)(f:IR):Prop:=∀r,bV D r->∀{X W a k b e d},Ck D W a X k->KS b e=aB->f r a e=aA d->PI X b e (gM D W d)
def nA (D:DP)(f:SR):Prop:=∀r,bV D r->∀{X W a k e d},Sk D W a X k->f r a e=aA d->PS X e (dQ D W d)
def uQ{α:Type}(P:α->Prop):List α->Prop
 |[]=>True
 |f::fs=>P f/\uQ P fs
structure cG(D:DP)(R:dS):Prop where
 e:uQ (cR D) R.e
 t:uQ (sF D) R.t
 w:uQ (Ij D) R.w
 i:uQ (mI D) R.i
 o:uQ (cR D) R.o
 s:uQ (nA D) R.s
theorem jJ{α β:Type}{P:(dM->Cn->α->Option β)->Prop}{C:Prop}{e:α}{d:β}:∀{fs:List (dM->Cn->α->Option β)},uQ P fs->(∀f,P f->f r Γ e=aA d->C)->Vc fs r Γ e=aA d->C
 |[],_,_,h=>by cases h
 |f::fs,a,k,h=>by
  unfold Vc at h;cases q:f r Γ e with
  |some b=>rw[q] at h;cases h;exact k f a.1 q
  |none=>rw[q] at h;exact jJ a.2 k h
theorem wq{R:dS}(H:cG D R):∀n,bV D (aP R n)
 |0=>⟨λ_ h=>(by cases h),λ_ h=>(by cases h),λ_ h=>(by cases h),λ_ _ h=>(by cases h),λ_ h=>(by cases h),λ_ h=>(by cases h)⟩
 |n+1=>⟨λC h=>jJ H.e (λf p q=>p _ (wq H n) C q) h,λC h=>jJ H.t (λf p q=>p _ (wq H n) C q) h,λC h=>jJ H.w (λf p q=>p _ (wq H n) C q) h,λC a h=>jJ H.i (λf p q=>p _ (wq H n) C a q) h,λC h=>jJ H.o (λf p q=>p _ (wq H n) C q) h,λC h=>jJ H.s (λf p q=>p _ (wq H n) C q) h⟩
noncomputable def gd{α:Type}(b:Bool)(o:Option α):Option α:=match b with
 |true=>o
 |false=>aE
theorem z9{o:Option α}(h:gd b o=aA x):b=aB/\o=aA x:=by
 cases b with
 |true=>exact⟨rfl,h⟩
 |false=>cases h
theorem aR{α β:Type}{o:Option α}{f:α->Option β}{x:β}(h:o.bind f=aA x):∃a,o=aA a/\f a=aA x:=Fa.mp h
def zf {α β:Type}(f:α->Option β):List α->Option (List β)
 |[]=>aA []
 |a::r=>(f a).bind λb=>(zf f r).bind λbs=>aA (b::bs)
def l5 (r:dM)(Γ:Cn)(es:List aI):Option (List De):=zf (λe=>gd (aO e) (r.e Γ e)) es
section
variable {D:DP}{r:dM}{X:Cx}{W:XW}{Γ:Cn}{k:Nat}
theorem jC(h:bV D r)(C:Ck D W Γ X k):∀{es:List aI}{fs:List De},l5 r Γ es=aA fs->dU X D W es fs
 |[],fs,e=>by cases e;trivial
 |a::es,fs,e=>by
  obtain⟨f,g,e⟩:=aR e;obtain⟨gs,d,e⟩:=aR e;cases e;obtain⟨c,b⟩:=z9 g;exact⟨c,h.e C b,jC h C d⟩
theorem kH(h:bV D r)(C:Ck D W Γ X k):∀{es:List aI}{fs:List Dt},zf (r.t Γ) es=aA fs->KA X D W es fs
 |[],fs,e=>by cases e;trivial
 |a::es,fs,e=>by
  obtain⟨f,c,e⟩:=aR e;obtain⟨gs,b,e⟩:=aR e;cases e;exact⟨h.t C c,kH h C b⟩
theorem wu(h:bV D r)(C:Sk D W Γ X k):∀{es:List bG}{fs:List Ds},zf (r.s Γ) es=aA fs->QC X D W es fs
 |[],fs,e=>by cases e;trivial
 |a::es,fs,e=>by
  obtain⟨f,c,e⟩:=aR e;obtain⟨gs,b,e⟩:=aR e;cases e;exact⟨h.s C c,wu h C b⟩
end
noncomputable def ir:GM->Bool
 |.none=>aB
 |_=>aC
theorem N5(h:ir g=aB):g=.none:=by cases g<;>first|rfl|cases h
theorem zQ{Γ:Cn}(h:ir (Γ.look x)=aB):x∈Γ.G/\Γ.gl x=.none:=jK (N5 h) (by intro z;cases z)
structure C0 where
 x:aH
 as:List aI
 p0:Pos
 pc:Pos
noncomputable def k_:aI->Option C0
 |.Call (.Name x b) c [] a=>aA ⟨x,c,b,a⟩
 |_=>aE
theorem qQ(h:k_ e=aA q):e=.Call (.Name q.x q.p0) q.as [] q.pc:=by
 unfold k_ at h;split at h
 .cases h;rfl
 .cases h
structure Im where
 o:aI
 m:aH
 pa:Pos
 as:List aI
 pc:Pos
noncomputable def xo:aI->Option Im
 |.Call (.Attribute o m b) c [] a=>aA ⟨o,m,b,c,a⟩
 |_=>aE
theorem wF(h:xo e=aA q):e=.Call (.Attribute q.o q.m q.pa) q.as [] q.pc:=by
 unfold xo at h;split at h
 .cases h;rfl
 .cases h
structure C1 where
 a:aI
 op:eM
 b:aI
 p:Pos
noncomputable def r4:aI->Option C1
 |.Compare a [op] [b] p=>aA ⟨a,op,b,p⟩
 |_=>aE
theorem Y4(h:r4 e=aA q):e=.Compare q.a [q.op] [q.b] q.p:=by
 unfold r4 at h;split at h
 .cases h;rfl
 .cases h
structure Ck1 where
 x:aH
 p0:Pos
 a:aI
 ky:aH
 v:aI
 pk:Pos
 pc:Pos
noncomputable def Ar:aI->Option Ck1
 |.Call (.Name x d) [a] [⟨aA e,v,b⟩] c=>aA ⟨x,d,a,e,v,b,c⟩
 |_=>aE
theorem RW(h:Ar e=aA q):e=.Call (.Name q.x q.p0) [q.a] [⟨aA q.ky,q.v,q.pk⟩] q.pc:=by
 unfold Ar at h;split at h
 .cases h;rfl
 .cases h
structure Cp1 where
 elt:aI
 tg:aI
 iter:aI
 ifs:List aI
 sc:Scope
 p:Pos
noncomputable def Wl:aI->Option Cp1
 |.ListComp c [⟨d,a,b,0⟩] e p=>aA ⟨c,d,a,b,e,p⟩
 |_=>aE
theorem ZN(h:Wl e=aA q):e=.ListComp q.elt [⟨q.tg,q.iter,q.ifs,0⟩] q.sc q.p:=by
 unfold Wl at h;split at h
 .cases h;rfl
 .cases h
noncomputable def zb3:aI->Bool
 |.Constant (.bool aB) _ _=>aB
 |_=>aC
noncomputable def oU:aI->Option (aH×Pos)
 |.Name x p=>aA (x,p)
 |_=>aE
theorem VG(h:oU e=aA q):e=.Name q.1 q.2:=by
 unfold oU at h;split at h
 .cases h;rfl
 .cases h
noncomputable def KP:aI->Option (aI×aI×Pos)
 |.Subscript a b p=>aA (a,b,p)
 |_=>aE
theorem Yq(h:KP e=aA q):e=.Subscript q.1 q.2.1 q.2.2:=by
 unfold KP at h;split at h
 .cases h;rfl
 .cases h
noncomputable def yO{α:Type}:List α->Option α
 |[a]=>aA a
 |_=>aE
theorem q_{l:List α}(h:yO l=aA a):l=[a]:=by
 match l with
 |[]=>cases h
 |[b]=>cases h;rfl
 |_::_::_=>cases h
noncomputable def rY{α:Type}:List α->Option (α×α)
 |[a,b]=>aA (a,b)
 |_=>aE
theorem Vy{l:List α}{q:α×α}(h:rY l=aA q):l=[q.1,q.2]:=by
 match l with
 |[]=>cases h
 |[_]=>cases h
 |[b,c]=>cases h;rfl
 |_::_::_::_=>cases h
theorem zy(h:(a&&b)=aB):a=aB/\b=aB:=by
 cases a with
 |true=>exact⟨rfl,h⟩
 |false=>cases h
theorem qr{x:aH}(h:(x==y)=aB):x=y:=beq_iff_eq.mp h
def FH:Const->Option De
 |.int i=>aA (eC (.int i))
 |.bool b=>aA (eC (.bl b))
 |.none=>aA (eC .non)
 |.str x=>aA (eC (.str x))
 |_=>aE
theorem RS{D:DP}{W:XW}(h:FH c=aA d):PE X (.Constant c j p) (aU D W d):=by
 cases c with
 |int i=>cases h;exact M4
 |bool i=>cases h;exact Mb
 |none=>cases h;exact MT
 |str i=>cases h;exact OD
 |_=>cases h
def FE:GM->Option T
 |.cst t=>aA t
 |_=>aE
theorem Py(h:FE g=aA t):g=.cst t:=by cases g<;>first|(cases h;rfl)|cases h
def Bp (Γ:Cn)(x:aH):Option De:=match cJ Γ.N x with
 |some i=>aA (eV i)
 |none=>(FE (Γ.look x)).bind λt=>aA (eC t)
theorem Rs{D:DP}{X:Cx}{W:XW}{k:Nat}(C:Ck D W Γ X k){x:aH}{p:Pos}(h:Bp Γ x=aA d):PE X (.Name x p) (aU D W d):=by
 unfold Bp at h;cases q:cJ Γ.N x with
 |some i=>rw[q] at h;cases h;exact OB C q
 |none=>
  rw[q] at h;obtain⟨t,b,h⟩:=aR h;cases h;obtain⟨a,c⟩:=jK (Py b) (by intro z;cases z);exact Og C a c
def CV (r:dM)(Γ:Cn):List eM->List aI->Option (List (eM×De))
 |[],[]=>aA []
 |op::a,e::es=>gd (xH op) ((r.e Γ e).bind λf=>(CV r Γ a es).bind λb=>aA ((op,f)::b))
 |_,_=>aE
theorem Hn{r:dM}{W:XW}{Γ:Cn}{k:Nat}(H:bV D r)(C:Ck D W Γ X k):∀{ops:List eM}{es:List aI}{ps:List (eM×De)},CV r Γ ops es=aA ps->ni X D W es ps/\ps.map (·.1)=ops/\ps.all (λp=>xH p.1)=aB
 |[],[],ps,h=>by cases h;exact⟨trivial,rfl,rfl⟩
 |[],_::_,ps,h=>by cases h
 |_::_,[],ps,h=>by cases h
 |op::ops,e::es,ps,h=>by
  obtain⟨d,h⟩:=z9 h;obtain⟨f,i,h⟩:=aR h;obtain⟨j,g,h⟩:=aR h;cases h;obtain⟨c,b,a⟩:=Hn H C g;exact⟨⟨H.e C i,c⟩,by simp[b],by simp[d,a]⟩
def BE (r:dM)(Γ:Cn)(a:aI)(ops:List eM)(es:List aI):Option De:=(r.e Γ a).bind λf=>(match ops,es with
 |[op],[b]=>gd (jL op b) ((r.e Γ b).bind λg=>aA (zw op f g))
 |_::_::_,_::_::_=>(CV r Γ ops es).bind λc=>aA (iS f c)
 |_,_=>aE)
theorem Yt{D:DP}{X:Cx}{W:XW}{Γ:Cn}{k:Nat}(H:bV D r)(C:Ck D W Γ X k){a:aI}{ops:List eM}{es:List aI}{d:De}(h:BE r Γ a ops es=aA d):PE X (.Compare a ops es p) (aU D W d)/\PT X (.Compare a ops es p) (eJ D W (tE d)):=by
 obtain⟨f,j,h⟩:=aR h;match ops,es with
 |[op],[b]=>
  obtain⟨o,h⟩:=z9 h
  obtain⟨g,i,h⟩:=aR h
  cases h
  exact⟨OE C o (H.e C j) (H.e C i),X1 C o (H.e C j) (H.e C i)⟩
 |op::q::ops,e::t::es=>
  obtain⟨l,i,h⟩:=aR h
  cases h
  obtain⟨n,c,m⟩:=Hn H C i
  match l with
  |[]=>cases c
  |[p1]=>simp at c
  |p1::s::l=>
   simp only[c8,D6] at c
   obtain⟨rfl,rfl,rfl⟩:=c
   exact⟨TC C m (H.e C j) n,Jc C m (H.e C j) n⟩
 |[],es=>cases h
 |[_],[]=>cases h
 |[_],_::_::_=>cases h
 |_::_::_,[]=>cases h
 |_::_::_,[_]=>cases h
def Cv (r:dM)(Γ:Cn):Option aI->Option Dp
 |none=>aA pN
 |some e=>(r.e Γ e).bind λf=>aA (pS f)
theorem HH{D:DP}{r:dM}{X:Cx}{W:XW}{k:Nat}(H:bV D r)(C:Ck D W Γ X k){o:Option aI}(h:Cv r Γ o=aA d):PO X o (o0 D W d):=by
 cases o with
 |none=>cases h;exact Po
 |some e=>
  obtain⟨f,a,h⟩:=aR h;cases h;exact Px (H.e C a)
def Ad (r:dM)(Γ:Cn)(a b:aI):Option De:=match b with
 |.Slice lo c aE _=>(r.e Γ a).bind λf=>(Cv r Γ lo).bind λl=>(Cv r Γ c).bind λu=>aA (o_ f l u)
 |b=>gd (qD b) ((r.e Γ a).bind λf=>(r.e Γ b).bind λg=>aA (aX f g))
theorem VF{D:DP}{r:dM}{X:Cx}{W:XW}{k:Nat}(H:bV D r)(C:Ck D W Γ X k){a b:aI}{p:Pos}(h:Ad r Γ a b=aA d):PE X (.Subscript a b p) (aU D W d):=by
 unfold Ad at h;split at h
 .obtain⟨f,i,h⟩:=aR h;obtain⟨l,c,h⟩:=aR h;obtain⟨u,m,h⟩:=aR h;cases h;exact RY (H.e C i) (HH H C c) (HH H C m)
 .obtain⟨j,h⟩:=z9 h;obtain⟨f,i,h⟩:=aR h;obtain⟨g,c,h⟩:=aR h;cases h;exact MR j C.hK (H.e C i) (H.e C c)
def UV (op:UnaryOp)(f:De):Option De:=match op with
 |.USub=>aA (FW f)
 |.Not=>aA (As f)
 |_=>aE
def L7(r:dM)(Γ:Cn)(op:BoolOp)(p:Pos):List aI->Option De
 |[a]=>r.e Γ a
 |a::b::l=>(r.e Γ a).bind λf=>(r.e Γ (.BoolOp op (b::l) p)).bind λg=>aA (match op with|.And=>QB f g|.Or=>CT f g)
 |[]=>aE
def GS:ER:=λr d e=>match e with
 |.Constant c _ _=>FH c
 |.Name x _=>Bp d x
 |.BinOp a op b _=>(r.e d a).bind λf=>(r.e d b).bind λg=>aA (zd op f g)
 |.UnaryOp op a _=>(r.e d a).bind λf=>UV op f
 |.BoolOp op es p=>L7 r d op p es
 |.Compare a h es _=>BE r d a h es
 |.IfExp c a b _=>(r.t d c).bind λt=>(r.e d a).bind λf=>(r.e d b).bind λg=>aA (pb t f g)
 |.Attribute a x _=>gd (zZ a) ((r.e d a).bind λf=>(d.fld.lookup x).bind λn=>aA (za f n))
 |.Subscript a b _=>Ad r d a b
 |.List es _=>gd (decide (es.length<=aT)) ((l5 r d es).bind λfs=>aA (yp fs))
 |.Tuple es _ _=>gd (decide (es.length<=aT)) ((l5 r d es).bind λfs=>aA (wD fs))
 |_=>aE
theorem Sz{D:DP}:cR D GS:=by
 intro r H X W v k e d C h;cases e with
 |Constant c j p=>exact RS h
 |Name x p=>exact Rs C h
 |BinOp a op b p=>
  obtain⟨f,i,h⟩:=aR h;obtain⟨g,m,h⟩:=aR h;cases h;exact Oa (H.e C i) (H.e C m)
 |UnaryOp op a p=>
  obtain⟨f,i,h⟩:=aR h;cases op with
  |USub=>cases h;exact Ng (H.e C i)
  |Not=>cases h;exact NF (H.e C i)
  |_=>cases h
 |BoolOp op es p=>
  match es with
  |[]=>cases h
  |[a]=>exact N8 (H.e C h)
  |a::b::l=>
   obtain⟨f,i,h⟩:=aR h
   obtain⟨g,m,h⟩:=aR h
   cases h
   cases op with
   |And=>exact Nu (H.e C i) (H.e C m)
   |Or=>exact L0 (H.e C i) (H.e C m)
 |Compare a q es p=>exact (Yt H C h).1
 |IfExp c a b p=>
  obtain⟨t,u,h⟩:=aR h;obtain⟨f,i,h⟩:=aR h;obtain⟨g,m,h⟩:=aR h;cases h;exact LZ (H.t C u) (H.e C i) (H.e C m)
 |Attribute a x p=>
  obtain⟨s,h⟩:=z9 h;obtain⟨f,i,h⟩:=aR h;obtain⟨n,m,h⟩:=aR h;cases h;exact Oq C s (cA m) (H.e C i)
 |Subscript a b p=>exact VF H C h
 |List es p=>
  obtain⟨o,h⟩:=z9 h;obtain⟨fs,i,h⟩:=aR h;cases h;exact M0 (of_decide_eq_true o) (jC H C i)
 |Tuple es w p=>
  obtain⟨o,h⟩:=z9 h;obtain⟨fs,i,h⟩:=aR h;cases h;exact Hl (of_decide_eq_true o) (jC H C i)
 |_=>cases h
def FP (c:GM)(fs:List De):Option De:=match c with
 |.fn g=>aA (z4 g fs)
 |.mk c aB g=>aA (nu c g fs)
 |_=>aE
def Ff:ER:=λr a e=>(k_ e).bind λq=>gd ((cJ a.N q.x).isNone&&a.calm) ((l5 r a q.as).bind λfs=>FP (a.look q.x) fs)
theorem RB{D:DP}:cR D Ff:=by
 intro r H X W m k e d C h;obtain⟨q,l,h⟩:=aR h;rw[qQ l];obtain⟨i,h⟩:=z9 h;obtain⟨fs,j,h⟩:=aR h;unfold FP at h;split at h
 .rename_i g b;cases h;obtain⟨a,f⟩:=jK b (by intro z;cases z);exact PX C a f (zy i).2 (jC H C j)
 .rename_i c g b;cases h;obtain⟨a,f⟩:=jK b (by intro z;cases z);exact Rr C a f (zy i).2 (jC H C j)
 .cases h
def lm (nm:aH)(op:T->Mem->RE T)(cl:Bool):ER:=λr b e=>(k_ e).bind λq=>(yO q.as).bind λa=>gd (q.x==nm) (gd ((cJ b.N q.x).isNone&&aO a) (gd (ir (b.look nm)) (gd (!cl || b.calm) ((r.e b a).bind λf=>aA (dX op f)))))
theorem kg{nm:aH}{op:T->Mem->RE T}{cl:Bool}(n:∀{X:Cx}{W:XW}{Γ:Cn}{k:Nat}{a:aI}{f:De}{p0 pos:Pos},Ck D W Γ X k->nm∈Γ.G->Γ.gl nm=.none->(cl=aB->Γ.calm=aB)->aO a=aB->PE X a (aU D W f)->PE X (.Call (.Name nm p0) [a] [] pos) (aU D W (dX op f))):cR D (lm nm op cl):=by
 intro r H X W Γ k e d C h;obtain⟨q,m,h⟩:=aR h;obtain⟨a,j,h⟩:=aR h;obtain⟨g,h⟩:=z9 h;obtain⟨i,h⟩:=z9 h;obtain⟨b,h⟩:=z9 h;obtain⟨c,h⟩:=z9 h;obtain⟨f,l,h⟩:=aR h;cases h;rw[qQ m,q_ j,qr g];exact n C (zQ b).1 (zQ b).2 (λz=>by rw[z] at c;exact c) (zy i).2 (H.e C l)
def Fq:ER:=lm "len" u4 aC
theorem PC:cR D Fq:=kg λC a c _ b d=>J5 C a c boot_len (by decide) b Mp d
def Fg:ER:=lm "int" oI aC
theorem RK:cR D Fg:=kg λC a c _ b d=>Cm C a c (by decide +kernel) (by decide) b MF d
def Gu:ER:=lm "list" Jz aC
theorem R_:cR D Gu:=kg λC a c _ b d=>Cm C a c (by decide +kernel) (by decide) b NN d
def Fz:ER:=lm "all" Xy aB
theorem RA:cR D Fz:=kg λC a c d b e=>J5 C a c boot_all (by decide) b (Mv (C.clm (d rfl))) e
def FM:ER:=λr a e=>(k_ e).bind λq=>(rY q.as).bind λw=>gd (q.x==("isinstance":aH)) (gd ((cJ a.N q.x).isNone&&aO w.1) (gd (ir (a.look "isinstance")) ((r.e a w.1).bind λf=>(J_ a w.2).bind λcs=>aA (yP cs f))))
theorem Pu{D:DP}:cR D FM:=by
 intro r H X W m k e d C h;obtain⟨q,l,h⟩:=aR h;obtain⟨w,g,h⟩:=aR h;obtain⟨b,h⟩:=z9 h;obtain⟨c,h⟩:=z9 h;obtain⟨a,h⟩:=z9 h;obtain⟨f,j,h⟩:=aR h;obtain⟨cs,i,h⟩:=aR h;cases h;rw[qQ l,Vy g,qr b];exact Ol C (zQ a).1 (zQ a).2 (zy c).2 i (H.e C j)
def Cs (nm:aH)(cb:De->De->De):ER:=λr b e=>(xo e).bind λq=>(yO q.as).bind λa=>gd (q.m==nm) (gd (zZ q.o&&aO a) (gd (q.pa.endLine==q.pc.line) ((r.e b q.o).bind λf=>(r.e b a).bind λg=>aA (cb f g))))
theorem Hi{D:DP}{nm:aH}{cb:De->De->De}(p:∀{X:Cx}{W:XW}{Γ:Cn}{k:Nat}{o a:aI}{f g:De}{pa pc:Pos},Ck D W Γ X k->zZ o=aB->aO a=aB->(pa.endLine==pc.line)=aB->PE X o (aU D W f)->PE X a (aU D W g)->PE X (.Call (.Attribute o nm pa) [a] [] pc) (aU D W (cb f g))):cR D (Cs nm cb):=by
 intro r H X W Γ k e d C h;obtain⟨q,n,h⟩:=aR h;obtain⟨a,j,h⟩:=aR h;obtain⟨c,h⟩:=z9 h;obtain⟨b,h⟩:=z9 h;obtain⟨i,h⟩:=z9 h;obtain⟨f,m,h⟩:=aR h;obtain⟨g,l,h⟩:=aR h;cases h;rw[wF n,q_ j,qr c];exact p C (zy b).1 (zy b).2 i (H.e C m) (H.e C l)
def Fh:ER:=Cs "append" W3
theorem Pb:cR D Fh:=Hi λC b a d c e=>Nw b a d c e
def rO (r:dM)(Γ:Cn)(elt tg iter:aI)(ifs:List aI)(sc:Scope)(mk:Nat->List Nat->Tg->Di->List Dt->De->De):Option De:=
 gd (Γ.calm&&Xe Γ.N Γ.cel tg sc&&vI iter&&KS tg iter) ((jX Γ.N (frees sc)).bind λfs=>(vF (z6 tg++frees sc) tg).bind λa=>(r.i Γ iter).bind λfi=>(zf (r.t (inComp Γ tg sc)) ifs).bind λcs=>(r.e (inComp Γ tg sc) elt).bind λfe=>aA (mk (z6 tg).length fs a fi cs fe))
theorem VX{r:dM}{elt tg iter:aI}{ifs:List aI}{sc:Scope}{mk:Nat->List Nat->Tg->Di->List Dt->De->De}(h:rO r Γ elt tg iter ifs sc mk=aA d) :
  ∃fs tgt fi cs fe,Γ.calm=aB/\cS Γ.N Γ.cel tg sc/\(vI iter=aB/\KS tg iter=aB)/\jX Γ.N (frees sc)=aA fs/\vF (z6 tg++frees sc) tg=aA tgt/\r.i Γ iter=aA fi/\zf (r.t (inComp Γ tg sc)) ifs=aA cs/\r.e (inComp Γ tg sc) elt=aA fe/\d=mk (z6 tg).length fs tgt fi cs fe:=by
 obtain⟨a,h⟩:=z9 h;simp only[cO] at a;obtain⟨fs,j,h⟩:=aR h;obtain⟨tgt,g,h⟩:=aR h;obtain⟨fi,f,h⟩:=aR h;obtain⟨cs,c,h⟩:=aR h;obtain⟨fe,b,h⟩:=aR h;cases h;exact⟨fs,tgt,fi,cs,fe,a.1.1.1,YW a.1.1.2,⟨a.1.2,a.2⟩,j,g,f,c,b,rfl⟩
def GX:ER:=λr a e=>(Wl e).bind λq=>rO r a q.elt q.tg q.iter q.ifs q.sc w9
theorem Su{D:DP}:cR D GX:=by
 intro r H X W u k e d C h;obtain⟨q,p,h⟩:=aR h;rw[ZN p];obtain⟨fs,c,fi,cs,fe,o,n,b,m,l,j,g,f,rfl⟩:=VX h;exact X_ C o n m l (H.i C b.2 j) (λs t a=>H.e a f) (λs t a=>kH H a g) (WD b.1)
def GN:TR:=λr b e=>match e with
 |.Name _ _=>(r.e b e).bind λf=>aA (tE f)
 |.Call _ _ _ _=>(r.e b e).bind λf=>aA (tE f)
 |.Subscript _ _ _=>(r.e b e).bind λf=>aA (tE f)
 |.Attribute _ _ _=>(r.e b e).bind λf=>aA (tE f)
 |.Compare a c es _=>(BE r b a c es).bind λf=>aA (tE f)
 |.UnaryOp op a _=>(match op with
  |.Not=>(r.t b a).bind λf=>aA (qh f)
  |_=>aE)
 |.BoolOp _ _ _=>r.w b e
 |_=>aE
theorem SM{D:DP}:sF D GN:=by
 intro r H X W j k e d C h;cases e with
 |Name x p=>
  obtain⟨f,c,h⟩:=aR h;cases h;exact Yi (H.e C c) λ_=>rfl
 |Call f args i p=>
  obtain⟨f,c,h⟩:=aR h;cases h;exact Yi (H.e C c) λ_=>rfl
 |Subscript a b p=>
  obtain⟨f,c,h⟩:=aR h;cases h;exact Yi (H.e C c) λ_=>rfl
 |Attribute a b p=>
  obtain⟨f,c,h⟩:=aR h;cases h;exact Yi (H.e C c) λ_=>rfl
 |Compare a g es p=>
  obtain⟨f,c,h⟩:=aR h;cases h;exact (Yt H C c).2
 |UnaryOp op a p=>
  cases op with
  |Not=>
   obtain⟨f,c,h⟩:=aR h;cases h;exact Oe (H.t C c)
  |_=>cases h
 |BoolOp op es p=>exact (H.w C h).pt
 |_=>cases h
def HJ:TR:=λr c e=>match e with
 |.BoolOp op es p=>(match es with
  |[a]=>r.t c a
  |a::b::l=>(r.t c a).bind λf=>(r.w c (.BoolOp op (b::l) p)).bind λg=>aA (match op with|.And=>jU f g|.Or=>fD f g)
  |[]=>aE)
 |_=>aE
theorem T6{D:DP}:Ij D HJ:=by
 intro r H X W j k e d C h;cases e with
 |BoolOp op es p=>
  match es with
  |[]=>cases h
  |[a]=>
   cases op with
   |And=>exact RC (H.t C h)
   |Or=>exact Nr (H.t C h)
  |a::b::l=>
   obtain⟨f,i,h⟩:=aR h
   obtain⟨g,c,h⟩:=aR h
   cases h
   cases op with
   |And=>exact NQ (H.t C i) (H.w C c)
   |Or=>exact My (H.t C i) (H.w C c)
 |_=>cases h
def FC (r:dM)(Γ:Cn):List aI->Option Di
 |[a]=>(r.e Γ a).bind λf=>aA (AY f)
 |[a,b]=>(r.e Γ a).bind λf=>(r.e Γ b).bind λg=>aA (Ke f g)
 |_=>aE
def Gk:IR:=λr a e=>(k_ e).bind λq=>gd (q.x==("range":aH)) (gd ((cJ a.N q.x).isNone&&q.as.all aO) (gd (ir (a.look "range")) (FC r a q.as)))
theorem S8{D:DP}:mI D Gk:=by
 intro r H X W n k o e d C p h;obtain⟨q,m,h⟩:=aR h;obtain⟨b,h⟩:=z9 h;obtain⟨a,h⟩:=z9 h;obtain⟨j,h⟩:=z9 h;rw[qQ m,qr b];have a:=(zy a).2;obtain⟨b,i⟩:=zQ j;generalize q.as=s at h a ⊢;unfold FC at h;split at h
 .obtain⟨f,c,h⟩:=aR h;cases h;exact RZ C b i (zy a).1 (H.e C c)
 .obtain⟨f,c,h⟩:=aR h;obtain⟨g,l,h⟩:=aR h;cases h;exact Uq C b i (zy a).1 (zy (zy a).2).1 (H.e C c) (H.e C l)
 .cases h
def HZ:IR:=λr a e=>(r.e a e).bind λf=>aA (iE f)
theorem Oy{D:DP}:mI D HZ:=by
 intro r H X W b k c e d C g h;obtain⟨f,a,h⟩:=aR h;cases h;exact Ro (H.e C a)
noncomputable def AN:aI->Option (List aI×Pos)
 |.List es p=>aA (es,p)
 |_=>aE
theorem Ri(h:AN e=aA q):e=.List q.1 q.2:=by
 unfold AN at h;split at h
 .cases h;rfl
 .cases h
def Gi:ER:=λr a e=>(AN e).bind λq=>gd (decide (q.1.length<=aT)) ((l5 r a q.1).bind λfs=>aA (kO fs))
theorem Tf{D:DP}:cR D Gi:=by
 intro r H X W f k e d C h;obtain⟨q,c,h⟩:=aR h;rw[Ri c];obtain⟨a,h⟩:=z9 h;obtain⟨fs,b,h⟩:=aR h;cases h;exact NT (of_decide_eq_true a) (jC H C b)
def HM:ER:=λr a e=>(Wl e).bind λq=>rO r a q.elt q.tg q.iter q.ifs q.sc jw
theorem UX{D:DP}:cR D HM:=by
 intro r H X W u k e d C h;obtain⟨q,p,h⟩:=aR h;rw[ZN p];obtain⟨fs,c,fi,cs,fe,o,n,b,m,l,j,g,f,rfl⟩:=VX h;exact K9 C o n m l (H.i C b.2 j) (λs t a=>H.e a f) (λs t a=>kH H a g) (WD b.1)
def HX:ER:=λr a e=>r.e a e
theorem NU:cR D HX:=λr H _ _ _ _ _ _ C h=>H.e C h
def oW (r:dM)(Γ:Cn)(x:aH)(e:aI):Option De:=match Γ.own.contains x with
 |true=>r.o Γ e
 |false=>r.e Γ e
theorem VV{W:XW}(H:bV D r)(C:Ck D W Γ X k)(h:oW r Γ x e=aA d):PE X e (aU D W d):=by
 unfold oW at h;cases q:Γ.own.contains x with
 |true=>rw[q] at h;exact H.o C h
 |false=>rw[q] at h;exact H.e C h
noncomputable def fF:aI->Bool
 |.Call _ _ _ _=>aB
 |.Constant _ _ _=>aB
 |_=>aC
theorem YZ(h:fF e=aB):(∃f as d p,e=.Call f as d p)\/∃c j p,e=.Constant c j p:=by
 unfold fF at h;split at h
 .exact .inl ⟨_,_,_,_,rfl⟩
 .exact .inr ⟨_,_,_,rfl⟩
 .cases h
theorem Tq(h:fF e=aB):iJ e aE l env=pure aC:=by
 rcases YZ h with⟨_,_,_,_,rfl⟩|⟨_,_,_,rfl⟩<;>rfl
noncomputable def Hg:aI->Bool
 |.ListComp _ _ _ _=>aB
 |.SetComp _ _ _ _=>aB
 |.DictComp _ _ _ _ _=>aB
 |_=>aC
theorem TU(h:Hg e=aC):iJ e (aA (.Name x p)) l env=pure aC:=by
 cases e<;>first|rfl|cases h
def GL(b:Bool):Nat->List Nat->Tg->Di->List Dt->De->De:=match b with
 |true=>jw
 |false=>w9
def AR (r:dM)(Γ:Cn)(x:aH)(e:aI):Option De:=match Wl e with
 |some q=>rO r Γ q.elt q.tg q.iter q.ifs q.sc (GL (Γ.own.contains x))
 |none=>gd (!Hg e) (oW r Γ x e)
theorem Rx(H:bV D r){W:XW}(C:Sk D W Γ X k)(hi:cJ Γ.N x=aA i)(d:lr Γ (.Name x p)=aB)(h:AR r Γ x e=aA f):PS X (.Assign [.Name x p] e pos) (dQ D W (zp i f)):=by
 unfold AR at h;cases q:Wl e with
 |none=>
  rw[q] at h;obtain⟨B,h⟩:=z9 h;exact Hm C hi d (TU (by simpa using B)) (VV H C.toCk h)
 |some w=>
  rw[q] at h;rw[ZN q];obtain⟨fs,a,fi,cs,fe,v,u,m,t,s,z,o,n,rfl⟩:=VX h;have c:=H.i C.toCk m.2 z;have A:GL (Γ.own.contains x) (z6 w.tg).length fs a fi cs fe=(match Γ.own.contains x with|true=>jw (z6 w.tg).length fs a fi cs fe|false=>w9 (z6 w.tg).length fs a fi cs fe):=by cases Γ.own.contains x<;>rfl
  rw[A];have y:∀bb,iJ (.ListComp w.elt [⟨w.tg,w.iter,w.ifs,0⟩] w.sc w.p) (aA (.Name x p)) pos.line X.env=pure bb->PS X (.Assign [.Name x p] (.ListComp w.elt [⟨w.tg,w.iter,w.ifs,0⟩] w.sc w.p) pos) (dQ D W (zp i (match Γ.own.contains x with|true=>jw (z6 w.tg).length fs a fi cs fe|false=>w9 (z6 w.tg).length fs a fi cs fe))):=λbb g=>by
   cases bb with
   |true=>exact O4 C v hi d u t s c (λj l b=>H.e b n) (λj l b=>kH H b o) (WD m.1) _ g
   |false=>
    refine Hm C hi d g ?_;cases Γ.own.contains x with
    |true=>exact K9 C.toCk v u t s c (λj l b=>H.e b n) (λj l b=>kH H b o) (WD m.1)
    |false=>exact X_ C.toCk v u t s c (λj l b=>H.e b n) (λj l b=>kH H b o) (WD m.1)
  exact y _ rfl
def FK (r:dM)(Γ:Cn)(t e:aI):Option Ds:=gd (lr Γ t) (match t with
 |.Name x _=>(cJ Γ.N x).bind λi=>(AR r Γ x e).bind λf=>aA (zp i f)
 |.Tuple es _ _=>gd (Γ.calm&&yH e) ((cY Γ.N es).bind λa=>(r.e Γ e).bind λf=>aA (A7 a f))
 |.Attribute o x _=>(Γ.fld.lookup x).bind λn=>(oW r Γ x e).bind λf=>(r.e Γ o).bind λgo=>aA (zM go n f)
 |.Subscript o b _=>gd (qD b) ((r.e Γ e).bind λf=>(r.e Γ o).bind λgo=>(r.e Γ b).bind λgb=>aA (F_ go gb f))
 |_=>aE)
theorem O8(H:bV D r){W:XW}(C:Sk D W Γ X k)(h:FK r Γ t e=aA d):PS X (.Assign [t] e pos) (dQ D W d):=by
 obtain⟨b,h⟩:=z9 h;split at h
 .obtain⟨i,l,h⟩:=aR h;obtain⟨f,a,h⟩:=aR h;cases h;exact Rx H C l b a
 .obtain⟨g,h⟩:=z9 h;obtain⟨m,a,h⟩:=aR h;obtain⟨f,c,h⟩:=aR h;cases h;exact Np C (zy g).1 (zy g).2 a b (H.e C.toCk c)
 .obtain⟨n,a,h⟩:=aR h;obtain⟨f,c,h⟩:=aR h;obtain⟨go,j,h⟩:=aR h;cases h;exact OH C (cA a) (VV H C.toCk c) (H.e C.toCk j)
 .obtain⟨g,h⟩:=z9 h;obtain⟨f,a,h⟩:=aR h;obtain⟨go,c,h⟩:=aR h;obtain⟨gb,j,h⟩:=aR h;cases h;exact Nc C g (H.e C.toCk a) (H.e C.toCk c) (H.e C.toCk j)
 .cases h
noncomputable def r6:bG->Option aI
 |.Raise (aA e) aE _=>aA e
 |_=>aE
theorem YN(h:r6 s=aA e):∃p,s=.Raise (aA e) aE p:=by
 unfold r6 at h;split at h
 .cases h;exact⟨_,rfl⟩
 .cases h
noncomputable def Fv:GM->Option Nat
 |.xcl c=>aA c
 |_=>aE
theorem PR(h:Fv g=aA c):g=.xcl c:=by cases g<;>first|(cases h;rfl)|cases h
def GV:SR:=λr b s=>(r6 s).bind λe=>(k_ e).bind λq=>gd (b.calm&&(cJ b.N q.x).isNone) (match q.as with
 |[]=>aE
 |a::d=>(l5 r b (a::d)).bind λfs=>(Fv (b.look q.x)).bind λc=>aA (zH c fs))
theorem S9:nA D GV:=by
 intro r H X W p k e d C h;obtain⟨t,o,h⟩:=aR h;obtain⟨q,m,h⟩:=aR h;obtain⟨s,j⟩:=YN o;rw[j,qQ m];obtain⟨l,h⟩:=z9 h;generalize q.as=b at h ⊢;cases b with
 |nil=>cases h
 |cons a b=>
  obtain⟨fs,n,h⟩:=aR h;obtain⟨c,g,h⟩:=aR h;cases h;obtain⟨f,i⟩:=jK (PR g) (by intro z;cases z);exact SD C (zy l).1 f i (jC H C.toCk n)
noncomputable def Cz:aI->Option aH
 |.Name x _=>aA x
 |_=>aE
theorem N_(h:Cz e=aA x):∃p,e=.Name x p:=by
 unfold Cz at h;split at h
 .cases h;exact⟨_,rfl⟩
 .cases h
def F1 (Γ:Cn)(x:aH):Option Nat:=gd ((cJ Γ.N x).isNone&&Γ.G.contains x&&(match Γ.gl x with|.xcl c=>Γ.cls.lookup x==aA c&&Nat.blt c 40|.xcf c _=>Γ.cls.lookup x==aA c&&Nat.blt c 40|_=>aC)) (Γ.cls.lookup x)
theorem Rt(h:F1 Γ x=aA c):iG Γ x c:=by
 obtain⟨d,g⟩:=z9 h;simp only[cO] at d;refine⟨by simpa using d.1.2,cA g,?_⟩;have a:=d.2;rw[g] at a;cases b:Γ.gl x with
 |xcl e=>
  simp only[b,cO] at a;have:c=e:=bQ (beq_iff_eq.mp a.1);rw[this];exact⟨.inr rfl,Nat.blt_eq.mp a.2⟩
 |xcf e f=>
  simp only[b,cO] at a;have:c=e:=bQ (beq_iff_eq.mp a.1);rw[this];exact⟨.inl ⟨f,rfl⟩,Nat.blt_eq.mp a.2⟩
 |_=>rw[b] at a;cases a
def Ib (Γ:Cn)(t:aI):Option (List Nat):=(Cz t).bind λx=>(F1 Γ x).bind λc=>aA [c]
theorem OL(h:Ib Γ t=aA cs):BL Γ t cs:=by
 obtain⟨x,q,h⟩:=aR h;obtain⟨c,a,h⟩:=aR h;cases h;obtain⟨p,rfl⟩:=N_ q;exact⟨x,p,c,rfl,rfl,Rt a⟩
def sB (r:dM)(Γ:Cn):pZ->Option (List Nat×Option Nat×List Ds)
 |.ExceptHandler t nm a _=>t.bind λt=>gd (!a.isEmpty&&nm.isNone) ((Ib Γ t).bind λcs=>(zf (r.s {Γ with calm:=aC}) a).bind λb=>aA (cs,aE,b))
theorem Hk(H:bV D r):∀{hs:List pZ}{gs:List (List Nat×Option Nat×List Ds)},zf (sB r Γ) hs=aA gs->QE D Γ k hs gs
 |[],gs,h=>by cases h;trivial
 |.ExceptHandler t nm a p::hs,gs,h=>by
  obtain⟨g,u,m⟩:=aR h;obtain⟨v,s,l⟩:=aR m;cases l;have n:=Hk (k:=k) H s;obtain⟨y,b,j⟩:=aR u;subst b;obtain⟨c,i⟩:=z9 j;obtain⟨cs,q,f⟩:=aR i;obtain⟨x,o,d⟩:=aR f;cases d;cases a with
  |nil=>cases c
  |cons z a=>
   cases nm with
   |none=>exact⟨⟨_,_,_,_,_,_,rfl,rfl,OL q,λA w=>wu H w o⟩,n⟩
   |some e=>cases c
def Hq:SR:=λr d s=>match s with
 |.Return o _=>(match o with
  |some e=>(oW r d "return" e).bind λf=>aA (zh f)
  |none=>aA B5)
 |.Expr e _=>gd (fF e) ((r.e d e).bind λf=>aA (zB f))
 |.If c a b _=>(r.t d c).bind λt=>(zf (r.s d) a).bind λj=>(zf (r.s d) b).bind λh=>aA (bL t j h)
 |.Assign p e _=>(yO p).bind λt=>FK r d t e
 |.For l it b g _=>gd (d.calm&&vI it) (gd (g.isEmpty&&KS l it) (gd (lr d l) ((vF d.N l).bind λk=>(r.i d it).bind λfi=>(zf (r.s d) b).bind λh=>aA (vr k fi h))))
 |.While c b g _=>gd g.isEmpty ((r.t d c).bind λt=>(zf (r.s d) b).bind λh=>aA (Vp t h))
 |.Try b n g m _=>gd (d.calm&&g.isEmpty) (gd (m.isEmpty&&!n.isEmpty) ((zf (r.s d) b).bind λj=>(zf (sB r d) n).bind λgs=>aA (oH j gs)))
 |_=>aE
theorem Uo:nA D Hq:=by
 intro r H X W B k e d C h;cases e with
 |Return o p=>
  cases o with
  |none=>cases h;exact P7
  |some e=>
   obtain⟨f,g,h⟩:=aR h;cases h;exact N1 (VV H C.toCk g)
 |Expr e p=>
  obtain⟨n,h⟩:=z9 h;obtain⟨f,g,h⟩:=aR h;cases h;exact OZ (Tq n) (H.e C.toCk g)
 |If c a b p=>
  obtain⟨t,g,h⟩:=aR h;obtain⟨v,l,h⟩:=aR h;obtain⟨s,j,h⟩:=aR h;cases h;exact LX (H.t C.toCk g) (wu H C l) (wu H C j)
 |Assign E e p=>
  obtain⟨t,g,h⟩:=aR h;rw[q_ g];exact O8 H C h
 |For F it b m p=>
  obtain⟨g,h⟩:=z9 h;obtain⟨l,h⟩:=z9 h;obtain⟨j,h⟩:=z9 h;obtain⟨w,q,h⟩:=aR h;obtain⟨fi,y,h⟩:=aR h;obtain⟨s,x,h⟩:=aR h;cases h;rw[mn.mp (zy l).1];exact OK C (zy g).1 q j (H.i C.toCk (zy l).2 y) (wu H C x) (WD (zy g).2)
 |While c b m p=>
  obtain⟨n,h⟩:=z9 h;obtain⟨t,g,h⟩:=aR h;obtain⟨s,j,h⟩:=aR h;cases h;rw[mn.mp n];exact TK C (H.t C.toCk g) (wu H C j)
 |Try b u m z p=>
  obtain⟨g,h⟩:=z9 h;obtain⟨l,h⟩:=z9 h;obtain⟨v,j,h⟩:=aR h;obtain⟨gs,q,h⟩:=aR h;cases h;rw[mn.mp (zy g).2,mn.mp (zy l).1];cases u with
  |nil=>cases (zy l).2
  |cons G u=>exact NY C (zy g).1 (λI J A=>wu H A j) (Hk H q)
 |_=>cases h
structure fY(D:DP)(P:Program)(w:World)(K:PySem.W.Frag)(mg:aH->Option aD)(base:aV)(Γ:Cn)(k:Nat):Prop where
 hK:K=D.K
 glo:∀x∈Γ.U,cC D P w K mg base k x (Γ.gl x)/\(x==("__debug__":aH))=aC
 isi:∀t x c,(x,c)∈Γ.cls->∀u v,Xq D t u->Zy mg x v->pU K u v=aA (je t c)
 fld:∀c C x f,D.cad c=aA C->(x,f)∈Γ.fld->D.fn f=aA x/\gR K C/\cH K C x
 xcx:∀c C,D.adr c=aA C->pd K C
 ocx:∀c C,D.cad c=aA C->mH K C
 clv:∀x c,(x,c)∈Γ.cls->∃u v,Zy mg x u/\gG v u
 xmt:∀t x c,(x,c)∈Γ.cls->c<40->∀Ct Cc,D.adr t=aA Ct->mg x=aA (.ref Cc)->n0 K (.ref Ct) (.ref Cc)=aA (je t c)
noncomputable def yQ(Γ:Cn)(ps:List aH)(sc:Scope):Bool:=
 (sc.kind==.function)&&!sc.isCoroutine&&!sc.isGenerator&&decide (Γ.N.Nodup)&&(Γ.N.take ps.length==ps)&&sc.names.all (λy=>y.2 != .free)&&
 Γ.N.all (λx=>x != ("__debug__":aH)&&x != ("__classdict__":aH)&&(if Γ.cel.contains x then sc.names.lookup x==aA .cell else sc.names.lookup x==aA .local))&&
 Γ.G.all (λx=>Γ.U.contains x&&sc.names.lookup x==aA .globalImplicit)&&Γ.cel.all (λx=>Γ.N.contains x)&&Γ.calm
theorem kG{W:XW}(p:XP X W e s):X.A.frames=aA X.stack:=by
 obtain⟨_,_,_,_,_,_,_,_,I,_⟩:=p;exact I.ok.frames
theorem XY:∀(ts:List T) (n:Nat),rT ts n=ts.map aA++lO n aE
 |[],n=>by
  have:∀n,Cy n=lO n aE:=λn=>by
   induction n with
   |zero=>rfl
   |succ n a=>show aE::Cy n=_;rw[a];rfl
  exact this n
 |t::r,n=>by show aA t::rT r n=_;rw[XY r n];rfl
section
variable {D:DP}{P:Program}{w:World}{K:PySem.W.Frag}{mg:aH->Option aD}{base:aV}{Γ:Cn}{k n:Nat}
theorem XG(d:aM D φ α H ts vs):a_ D φ α H (rT ts (N.length-ts.length)) (L2.start N vs):=by
 have b:=d.length;rw[XY];refine⟨by simp[L2.start,b],λi t e=>?_⟩;by_cases a:i<ts.length
 .rw[dP (by simpa using a),cE] at e;cases q:ts[i]? with
  |none=>rw[q] at e;cases e
  |some c=>
   rw[q] at e;have e:aA (aA c)=aA (aA t):=e;cases e;obtain⟨v,f,dv⟩:=d.get q;refine⟨v,?_,dv⟩;unfold L2.start;rw[dP (by rw[bJ,<-b];exact a),cE,f];rfl
 .rw[fP (by simpa using a),rJ] at e;split at e<;>cases e
def f9 (X:Cx)(f:aH->Bool):Cx:={X with fn:=f}
theorem On(a:∀x,f x=aB->g x=aB)(ok:(f9 X g).Ok):(f9 X f).Ok:=⟨ok.mod,ok.kind,ok.glob,ok.blt,ok.above,ok.inj,ok.has,λx c e=>ok.cab x c (a x e),ok.hd,ok.frames,ok.stk,ok.exf,ok.bs,ok.bsz,ok.noex,ok.exfs,ok.funs,ok.frf⟩
theorem Zb{f g:aH->Bool}{a:St}(b:∀x,f x=aB->g x=aB)(I:Inv (f9 X g) d a H s):Inv (f9 X f) d a H s:=
 ⟨On b I.ok,I.os,I.bare,I.base,I.loc,I.cell,I.free,λx c e=>(I.freeC x c e).imp id λz=>⟨Bool.eq_false_iff.mpr λq=>Bool.noConfusion ((b x q).symm.trans (show g x=aC from z.1)),z.2⟩,I.pin,I.hok,I.len⟩
theorem MU{W:XW}(l:∀x,f x=aB->g x=aB)(p:XP (f9 X g) W e s):XP (f9 X f) W e s:=by
 obtain⟨x,cls,d,h,H,T,fl,a,I,b,c,r,j,i⟩:=p;exact⟨x,cls,d,h,H,T,fl,a,Zb l I,⟨b.free,b.loc,b.nfs,b.new,b.cel,b.pin⟩,λt k=>let b:=c t k;⟨b.free,b.loc,b.nfs,b.new,b.cel,b.pin⟩,r,j,i⟩
theorem X9(e:∀x,f x=aB->g x=aB)(h:SP (f9 X g) d E fl s):SP (f9 X f) d E fl s:=by
 cases fl with
 |ret v=>obtain⟨v,a,c,b,r⟩:=h;exact⟨v,a,c,Zb e b,r⟩
 |_=>obtain⟨a,c,b,r⟩:=h;exact⟨a,c,Zb e b,r⟩
theorem YM{W:XW}{f:aH->Bool}{y:List bG}{c:List Ds}(h2:QC (f9 X f) D W y c):∀{b1:List bG}{ds1:List Ds},QC (f9 X λ_=>aB) D W b1 ds1->
  ∀(a:List (aF×bF)) (s:bB) (d:St) (H:Hp) (E:Ends),Inv (f9 X λ_=>aB) a d H s->dQ D W (qp (ds1++c)) E d H->wpAny (aS X.prog X.w) X.A (execs (b1++y) X.env) (SP (f9 X f) a E) X.xe s
 |[],[],_,a,s,d,H,E,I,q=>va h2 a s d H E (Zb (λ_ _=>rfl) I) q
 |st::r,u::G,h,a,s,d,H,E,I,q=>by
  obtain⟨n,F,B,C,J,M,Q,q,N,x,t,p,o⟩:=q;refine wpAny_execs_cons (aW (h.1 a s d H {E with nx:=λb g=>dQ D W (qp (G++c)) E b g} I ⟨n,F,B,C,J,M,_,q,λi j e k g b st m l=>?_,x,t,p,o⟩) λfl K z=>?_)
  .exact⟨n,k,i,j,l,m,aK.step ⟨Q,e,N,x,t,p,o⟩ st⟩
  .cases fl with
   |next=>
    obtain⟨b,g,O,L⟩:=z;exact YM h2 h.2 a K b g E O L
   |ret v=>exact X9 (fl:=.ret v) (E:=E) (λ_ _=>rfl) z
   |brk=>exact X9 (fl:=.brk) (E:=E) (λ_ _=>rfl) z
   |cont=>exact X9 (fl:=.cont) (E:=E) (λ_ _=>rfl) z
 |[],_::_,h,_,_,_,_,_,_,_=>h.elim
 |_::_,[],h,_,_,_,_,_,_,_=>h.elim
theorem K2(HR:cG D R){name qual:aH}{params:Arguments}{body b1 b2:List bG}{dV kV doc pm g ct oc:aD}{an od:Option aF}{m:Nat}{ds1 L:List Ds}
    (M:fY D P w K mg base Γ k) (lk:K.lookup f=aA ⟨oc,od,.func (f8 name qual params body scope dV kV doc pm an g ct),osl⟩) (hcd:fB K g qual=aB) (hs:yQ Γ ps scope=aB) (hm:Γ.N.length=ps.length+m) (hbo:body=b1++b2) (hd1:zf ((aP R n).s {Γ with fz:=[]}) b1=aA ds1) (hds:zf ((aP R n).s Γ) b2=aA L) (O:cZ D mg base g (qual++".<locals>.") k Γ.lam Γ.lnm:=by exact cZ.no rfl) :
    bS P w K mg base (dB P w) (k+1) f (f8 name qual params body scope dV kV doc pm an g ct) ps (eR D ps.length (bI ps.length m (ds1++L))):=by
  subst hbo;simp only[yQ,cO,f6,beq_iff_eq,oi,decide_eq_true_eq,bne_iff_ne,ne_eq] at hs;obtain⟨⟨⟨⟨⟨⟨⟨⟨⟨h1,h2⟩,h3⟩,h4⟩,h5⟩,h6⟩,h7⟩,h8⟩,h9⟩,h10⟩:=hs;have G:∀x∈Γ.N,(Γ.cel.contains x=aB/\scope.names.lookup x=aA .cell)\/(Γ.cel.contains x=aC/\scope.names.lookup x=aA .local):=λx a=>by
    have q:=(h7 x a).2;cases V:Γ.cel.contains x with
    |true=>rw[V,if_pos rfl] at q;exact .inl ⟨rfl,beq_iff_eq.mp q⟩
    |false=>rw[V] at q;exact .inr ⟨rfl,beq_iff_eq.mp q⟩
  have C:∀x∈Γ.N,scope.names.lookup x=aA .local\/scope.names.lookup x=aA .cell:=λx a=>(G x a).elim (λz=>.inr z.2) λz=>.inl z.2;have S:dT Γ.N ps scope:=⟨h1,h2,h3,h4,h5,λx a=>C x (by rw[<-h5] at a;exact iN a),h6⟩;refine GC (fnb:=λx=>!Γ.fz.contains x) lk hcd S (λvs H Q E q=>q.1) λA j s H vs Q E hr hsp o=>?_;obtain⟨hl,φ,α,ts,μ,d,mr,K0,Z0,⟨hle,q⟩,T,hz0⟩:=hsp;generalize I:Xo (dB P w) P w K mg base Γ.N qual scope f g A j s H E (λx=>!Γ.fz.contains x)=X;have F:ly X (gH qual scope s.heap.objs.size f g) j s.heap.objs.size:=by rw[<-I];exact⟨rfl,rfl,rfl⟩
  have U:X.fn=λx=>!Γ.fz.contains x:=by rw[<-I];rfl
  have CK:∀(l:List aH),(∀x∈l,x∈Γ.fz)->Sk D (eQ E) {Γ with fz:=l} (f9 (X.wish (XP X (eQ E))) λx=>!l.contains x || !Γ.fz.contains x) k:=λl hl'=>by
    have xe:∀e s,XP (f9 (X.wish (XP X (eQ E))) λx=>!l.contains x || !Γ.fz.contains x) (eQ E) e s->XP X (eQ E) e s:=λe s p=>by
      have p2:XP (f9 (X.wish (XP X (eQ E))) λx=>!Γ.fz.contains x) (eQ E) e s:=MU (λx a=>by rw[a,ti]) p;exact kK (show XP (X.wish (XP X (eQ E))) (eQ E) e s by rw[<-U] at p2;exact p2)
    have pso:nK (aS X.prog X.w) X.A X.env (XP X (eQ E)):=λe s p=>uf F (kG p) e s p;subst I
    exact { hK := M.hK,hN := rfl,nd := h4,vis := fun x a => (C x a).elim .inl fun z => .inr (.inl z),dbg := fun x a => ⟨beq_eq_false_iff_ne.mpr (h7 x a).1.1,beq_eq_false_iff_ne.mpr (h7 x a).1.2⟩,
            dbG:=λx a=>(M.glo x (by simpa using (h8 x a).1)).2,glb:=λx a=>(h8 x a).2,glo:=λx a=>(M.glo x (by simpa using (h8 x a).1)).1,glU:=M.glo,
            cel:=λx a=>.inl ((G x (by simpa using h9 x a)).elim (λz=>z.2) λz=>by have:=z.1;rw[ik.mpr a] at this;cases this),
            isi:=M.isi,fld:=M.fld,xcx:=M.xcx,ocx:=M.ocx,clv:=M.clv,clm:=λ_=>rfl,rom:=λ_=>hr,rmh:=⟨hr.dp,hr.un⟩,xe:=xe,frm:=⟨_,_,_,F.stk,F.f0,F.fe⟩,lam:=O,kfz:=λ_ x a=>⟨by show (!l.contains x || !Γ.fz.contains x)=aC;rw[ik.mpr a,ik.mpr (hl' x a)];rfl,λc e=>(o x c e).1⟩,
            sto:=λx a=>by
              obtain⟨z1,z2⟩:=eW.mp a;exact⟨C x z1,.inl (by show (!l.contains x || _)=aB;rw[show (!l.contains x)=aB from z2];rfl)⟩,lcl:=λx a V=>(G x a).elim (λz=>by rw[z.1] at V;cases V) λz=>z.2,pso:=pso,xmt:=M.xmt}
  have B:gP X (b1++b2) (λE1 r Y=>(∀y c,X.env.cells.lookup y=aA c->X.s₀.heap.objs.size<=c/\Y c=aE)/\dQ D (eQ E) (qp (ds1++L)) E1 r Y):=λu s1 r Y E1 I1 ⟨hf,q⟩=>by
    have I2:Inv (f9 (X.wish (XP X (eQ E))) λ_=>aB) u r Y s1:=by
      have J:=I1.wish (XP X (eQ E));subst I;exact⟨⟨J.ok.mod,J.ok.kind,J.ok.glob,J.ok.blt,J.ok.above,J.ok.inj,J.ok.has,λx c _ e=>(hf x c e).1,J.ok.hd,J.ok.frames,J.ok.stk,J.ok.exf,J.ok.bs,J.ok.bsz,J.ok.noex,J.ok.exfs,J.ok.funs,J.ok.frf⟩,J.os,J.bare,J.base,J.loc,J.cell,J.free,λx c e=>.inl (hf x c e).2,J.pin,J.hok,J.len⟩
    have C1:=wu (wq HR n) (CK [] (by simp)) hd1;have C2:=wu (wq HR n) (CK Γ.fz λ_ h=>h) hds;have e1:(λx=>!([]:List aH).contains x || !Γ.fz.contains x)=λ_=>aB:=by funext x;rfl
    have e2:(λx=>!Γ.fz.contains x || !Γ.fz.contains x)=X.fn:=by rw[U];funext x;exact Bool.or_self _
    rw[e1] at C1;rw[e2] at C2;refine dY (YM (X:=X.wish (XP X (eQ E))) C2 C1 u s1 r Y E1 I2 q) (λf s' q=>SP.unwish q) λe s' p=>?_;have p:XP X (eQ E) e s':=p;have:=Jg (M:=aS X.prog X.w) (F2:=λe' s''=>dB X.prog X.w X.outer X.H₀ X.s₀ E e' s'') F (kG p) (by rw[<-I];rfl) p;subst I;exact this
  have hmm:Γ.N.length-ts.length=m:=by lia
  refine⟨_,B,by rw[<-I];exact o,φ,α,_,μ,XG d,mr,{nx:=λ_ b=>K0 .non b,rt:=K0,bk:=λ_ _=>False,ct:=λ_ _=>False,ex:=λc fs _ b=>Z0 c fs b},by rw[hmm];exact q,λ_ b z i Z σ' st m _=>T _ _ z i Z st m .non rfl,λ_ _ z=>z.elim,λ_ _ z=>z.elim,λt b z i Z v st m dv=>T _ _ z i Z st m v dv,λc fs _ b z i Z σ' C1 dd st m _ ad xd=>hz0 c fs b z i Z C1 dd st m ad xd⟩
theorem jI(o:cG D R){f:aF}{name qual:aH}{params:Arguments}{body:List bG}{g kV doc e a ct i:aD}{an h:Option aF}{m:Nat} 
  (M:fY D P w K mg base Γ k) (lk:K.lookup f=aA ⟨i,h,.func (f8 name qual params body scope g kV doc e an a ct),j⟩) (d:fB K a qual=aB) (hs:yQ Γ ps scope=aB) (l:Γ.N.length=ps.length+m) (c:zf ((aP R n).s Γ) body=aA ds) (b:cZ D mg base a (qual++".<locals>.") k Γ.lam Γ.lnm:=by exact cZ.no rfl) :
  bS P w K mg base (dB P w) (k+1) f (f8 name qual params body scope g kV doc e an a ct) ps (eR D ps.length (bI ps.length m ds)):=K2 (b1:=[]) (ds1:=[]) o M lk d hs l rfl rfl c b
theorem wY:∀ts μ K Z,bI n m ds ts μ K Z->ts.length=n:=λ_ _ _ _ h=>h.1
end
def Xs:bO->Bool
 |[]=>aB
 |p::r=>(match p.2.cls with|.type t=>t != "list" | _=>aB)&&Xs r
theorem Yl:∀{K:bO}{a:aF}{o:bF},Xs K=aB->K.lookup a=aA o->o.cls≠.type "list"
 |[],_,_,_,h=>by cases h
 |(b,p)::r,a,o,c,h=>by
  simp only[Xs,cO] at c;rw[f7] at h;cases q:a==b with
  |true=>
   rw[q] at h;cases h;intro e;have d:=c.1;rw[e] at d;exact absurd d (by decide)
  |false=>rw[q] at h;exact Yl c.2 h
theorem Wj:∀(ns:List Int),aM D φ α H (ns.map T.int) (ns.map V.int)
 |[]=>rfl
 |n::r=>⟨.int n,r.map V.int,rfl,rfl,Wj r⟩
def iW:List aH:=["moments","houses","counts","start","turns","holder","lease","until","is_cut","shape","grants","house","begin","end","ahead","stride","keeper","mark","newest","batches","has_fallen","clock","kept","common","given","now","seats","world","line","by"]
theorem N6:iW.Nodup:=by decide +kernel
structure iI where
 xs:List (Nat×aF)
 cs:List (Nat×aF)
def mB (K:bO)(A:iI)(clo:Nat->aF->Option HO->List V->Prop)(tabs:Nat->Option (aF×List Pos×aH):=λ_=>aE):DP:=⟨K,λc=>A.xs.lookup c,λc=>A.cs.lookup c,λi=>iW[i]?,λi j x b a=>Zm N6 b a,clo,tabs⟩
def cn (cls fld:List (aH×Nat)) (gs:List (aH×GM)) (N G cel own:List aH) (lam:Option (Nat×List Pos):=aE) (lnm:aH:="<lambda>"):Cn where
 N:=N
 G:=G
 calm:=aB
 gl:=λx=>(gs.lookup x).getD .bad
 cls:=cls
 fld:=fld
 U:=gs.map (·.1)
 cel:=cel
 own:=own
 lam:=lam
 lnm:=lnm
noncomputable def Co(A:iI):List (Nat×aD):=[(0,.type "NoneType"),(1,.type "bool"),(2,.type "int"),(3,.type "str"),(4,.type "tuple"),(5,.type "list"),(6,.type "dict")]++(A.xs.map λp=>(p.1,cN p.2))++A.cs.map λp=>(p.1,cN p.2)
noncomputable def B_(K:bO)(c:aH):Option aD:=match mY K bT c with
 |some (aA v)=>aA v
 |some aE=>if c==("__name__":aH) then aE else hV c
 |none=>aE
noncomputable def MM:aD->Bool
 |.ref _=>aB
 |.type _=>aB
 |_=>aC
noncomputable def nr(o:Option (Option aD))(s:String):Bool:=match o with
 |some (aA (.builtin x))=>x==s
 |_=>aC
theorem Q5(h:nr o s=aB):o=aA (aA (.builtin s)):=by
 unfold nr at h;split at h
 .rw[beq_iff_eq.mp h]
 .cases h
noncomputable def oQ(o:Option (Option aD)):Bool:=match o with
 |some aE=>aB
 |_=>aC
theorem VR(h:oQ o=aB):o=aA aE:=by
 unfold oQ at h;split at h
 .rfl
 .cases h
noncomputable def iR(o:Option Bool)(b:Bool):Bool:=match o with|some c=>c==b|none=>aC
theorem xQ(h:iR o b=aB):o=aA b:=by
 cases o with
 |none=>cases h
 |some c=>have:(c==b)=aB:=h;rw[beq_iff_eq.mp this]
def sj (K:bO)(C:aF):Bool:=nr (c7 K (.ref C) "__class__") "object.__class__"&&nr (mw K (.builtin "object.__class__") "__get__") "getset_descriptor.__get__"&&iR (rk K (.builtin "object.__class__")) aB&&iR (im K C (.type "object")) aB
def GG(K:bO)(C:aF):Bool:=sj K C&&nr (c7 K (.ref C) "__getattribute__") "BaseException.__getattribute__"&&oQ (c7 K (.ref C) "__getattr__")&&iR (im K C (.type "BaseException")) aB&&(iR (im K C (.type "KeyError")) aC&&iR (im K C (.type "ZeroDivisionError")) aC)&&(nR K C).isSome
def Ca(K:bO)(C:aF):Bool:=sj K C&&nY K C md&&mi K C&&tW K C&&nr (c7 K (.ref C) "__setattr__") "object.__setattr__"
def nv (K:bO)(A:iI)(cls fld:List (aH×Nat)):Bool:=
 cls.all (λp=>match B_ K p.1 with
  |some v=>MM v&&(Co A).all (λq=>iR (pU K q.2 v) (je q.1 p.2))&&(pC 40 p.2 || (match v with|.ref C=>A.xs.all (λq=>iR (n0 K (.ref q.2) (.ref C)) (je q.1 p.2))|_=>aB))
  |none=>aC)&&
 A.xs.all (λq=>GG K q.2)&&A.cs.all (λq=>Ca K q.2&&fld.all (λp=>oQ (c7 K (.ref q.2) p.1)))&&fld.all (λp=>match iW[p.2]? with|some x=>x==p.1|none=>aC)
theorem ZW{K:bO}(X:K.In h)(G:h.Ns bT mg)(e:B_ K c=aA v):Zy mg c v/\∀u,Zy mg c u->u=v:=by
 unfold B_ at e;split at e
 .rename_i b q;cases e;have m:=eD X G q;refine⟨.inl m,λu z=>?_⟩;rcases z with z|⟨z,_⟩
  .rw[m] at z;cases z;rfl
  .rw[m] at z;cases z
 .rename_i q;have m:=Em X G q;split at e
  .cases e
  .rename_i a;refine⟨.inr ⟨m,e,λz=>a (by rw[z];rfl)⟩,λu z=>?_⟩;rcases z with z|⟨_,z,_⟩
   .rw[m] at z;cases z
   .rw[e] at z;cases z;rfl
 .cases e
theorem qI{α β:Type}[BEq α][LawfulBEq α]{x:α}{v:β}:∀{l:List (α×β)},l.lookup x=aA v->(x,v)∈l
 |[],h=>by cases h
 |(y,w)::r,h=>by
  rw[f7] at h;cases q:x==y with
  |true=>rw[q] at h;cases h;rw[beq_iff_eq.mp q];exact dJ
  |false=>rw[q] at h;exact cW _ (qI h)
theorem d9{α:Type}:∀{l:List (aH×α)},x∈l.map (·.1)->∃v,l.lookup x=aA v
 |[],h=>by simp at h
 |(y,w)::r,h=>by
  rw[f7];cases q:x==y with
  |true=>exact⟨w,rfl⟩
  |false=>
   rcases cK.mp h with z|z
   .have z:x=y:=z;rw[z] at q;simp at q
   .exact d9 z
section
variable {P:Program}{w:World}{K:PySem.W.Frag}{mg:aH->Option aD}{base:aV}{A:iI}{clo:Nat->aF->Option HO->List V->Prop}{cls fld:List (aH×Nat)}{gs:List (aH×GM)}{N G cel own:List aH}{k:Nat}{lam:Option (Nat×List Pos)}{tabs:Nat->Option (aF×List Pos×aH)}
theorem OA(h:Xq (mB K A clo tabs) t u):(t,u)∈Co A:=by
 unfold Co;rcases h with⟨rfl,rfl⟩|⟨rfl,rfl⟩|⟨rfl,rfl⟩|⟨rfl,rfl⟩|⟨rfl,rfl⟩|⟨rfl,rfl⟩|⟨C,h,rfl⟩|⟨rfl,rfl⟩|⟨C,h,rfl⟩
 .simp
 .simp
 .simp
 .simp
 .simp
 .simp
 .exact eY _ (dH _ (b7.mpr ⟨(t,C),qI h,rfl⟩))
 .simp
 .exact dH _ (b7.mpr ⟨(t,C),qI h,rfl⟩)
def bH (P:cI)(w:eE)(K:bO)(mg:aH->Option aD)(base:aV)(A:iI)(clo:Nat->aF->Option HO->List V->Prop)(k:Nat)(gs:List (aH×GM))(tabs:Nat->Option (aF×List Pos×aH):=λ_=>aE):Prop:=∀p∈gs,cC (mB K A clo tabs) P w K mg base k p.1 p.2/\(p.1==("__debug__":aH))=aC
theorem cC.mono(h:j<=k)(q:cC D P w K mg base j x g):cC D P w K mg base k x g:=by
 cases g with
 |fn f=>obtain⟨fa,a,fd,ps,kk,b,c,d,r⟩:=q;exact⟨fa,a,fd,ps,kk,b,c,dG d h,r⟩
 |met c nm f=>obtain⟨C,fI,fd,ps,kk,a,b,c,d,e,n,r⟩:=q;exact⟨C,fI,fd,ps,kk,a,b,c,d,e,dG n h,r⟩
 |mk c z f=>obtain⟨C,fI,fd,ps,kk,a,b,c,d,e,r⟩:=q;exact⟨C,fI,fd,ps,kk,a,b,c,d,dG e h,r⟩
 |xin c f nm fl=>obtain⟨C,HE,fI,fd,ps,kk,y,u,t,s,p,o,r⟩:=q;exact⟨C,HE,fI,fd,ps,kk,y,u,t,s,p,dG o h,r⟩
 |kap ls=>exact⟨λj l ts φ α H v e d=>let ⟨a,kk,h1,m,i⟩:=q.1 j l ts φ α H v e d;⟨a,kk,h1,dG m h,i⟩,q.2⟩
 |_=>exact q
theorem bH.mono(h:j<=k)(q:bH P w K mg base A clo j gs tabs):bH P w K mg base A clo k gs tabs:=λp a=>⟨(q p a).1.mono h,(q p a).2⟩
theorem bH.add (q:bH P w K mg base A clo k gs tabs) (h:cC (mB K A clo tabs) P w K mg base k x g) (a:(x==("__debug__":aH))=aC):bH P w K mg base A clo k ((x,g)::gs) tabs:=λp b=>by
 rcases cK.mp b with rfl|z
 .exact⟨h,a⟩
 .exact q p z
noncomputable def Yf(bs:List aH)(xs:List (aH×Nat))(ys:List (aH×Nat×Nat)):List (aH×GM):=bs.map (λx=>(x,GM.none))++xs.map (λx=>(x.1,GM.xcl x.2))++ys.map (λx=>(x.1,GM.xcf x.2.1 x.2.2))
noncomputable def sE(K:bO)(A:iI)(x:aH)(c:Nat):Bool:=match A.xs.lookup c,mY K bT x with
 |some C,aA (aA (.ref a))=>C==a
 |_,_=>aC
def B4(K:bO)(A:iI)(bs:List aH)(xs:List (aH×Nat))(ys:List (aH×Nat×Nat)):Bool:=
 bs.all (λx=>x != ("__debug__":aH)&&oQ (mY K bT x))&&
 xs.all (λx=>x.1 != ("__debug__":aH)&&sE K A x.1 x.2)&&ys.all (λx=>x.1 != ("__debug__":aH)&&sE K A x.1 x.2.1)
theorem Hw(X:K.In base)(d:base.Ns bT mg)(h:sE K A x c=aB):∃C,A.xs.lookup c=aA C/\mg x=aA (.ref C):=by
 unfold sE at h;split at h
 .rename_i C e b a;have h:C=e:=beq_iff_eq.mp h;subst h;exact⟨C,b,eD X d a⟩
 .cases h
def gY (K:bO)(A:iI):List (aH×Nat)->Prop
 |[]=>True
 |p::r=>(∃C,A.xs.lookup p.2=aA C/\fA K C zT "ValueError.__new__"=aB)/\gY K A r
theorem gY.at:∀{xs:List (aH×Nat)}{p:aH×Nat},gY K A xs->p∈xs->∀C,A.xs.lookup p.2=aA C->fA K C zT "ValueError.__new__"=aB
 |q::r,p,h,a,C,e=>by
  rcases cK.mp a with rfl|z
  .obtain⟨c,b,x⟩:=h.1;rw[b] at e;cases e;exact x
  .exact gY.at h.2 z C e
theorem KO(X:K.In base)(f:base.Ns bT mg)(h:B4 K A bs xs ys=aB)(i:gY K A xs):bH P w K mg base A clo k (Yf bs xs ys) tabs:=by
 simp only[B4,cO,f6,bne_iff_ne,ne_eq] at h;intro p g;rcases b_.mp g with z|z
 .rcases b_.mp z with z|z
  .obtain⟨x,a,rfl⟩:=b7.mp z;obtain⟨c,b⟩:=h.1.1 x a;exact⟨Em X f (VR b),beq_eq_false_iff_ne.mpr c⟩
  .obtain⟨x,a,rfl⟩:=b7.mp z;obtain⟨c,b⟩:=h.1.2 x a;obtain⟨C,d,e⟩:=Hw X f b;exact⟨⟨C,d,e,gY.at i a C d⟩,beq_eq_false_iff_ne.mpr c⟩
 .obtain⟨x,a,rfl⟩:=b7.mp z;obtain⟨c,b⟩:=h.2 x a;obtain⟨C,d,e⟩:=Hw X f b;exact⟨⟨C,d,e⟩,beq_eq_false_iff_ne.mpr c⟩
theorem yd(X:K.In base)(L:base.Ns bT mg)(R:nv K A cls fld=aB)(q:bH P w K mg base A clo k gs tabs):fY (mB K A clo tabs) P w K mg base (cn cls fld gs N G cel own lam lnm) k:=by
 simp only[nv,cO,f6] at R;obtain⟨⟨⟨J,c2⟩,T⟩,c4⟩:=R;have cb:∀{C},sj K C=aB->c7 K (.ref C) "__class__"=aA (aA (.builtin "object.__class__"))/\mw K (.builtin "object.__class__") "__get__"=aA (aA (.builtin "getset_descriptor.__get__"))/\rk K (.builtin "object.__class__")=aA aB/\im K C (.type "object")=aA aB:=λ{C} h=>by
  simp only[sj,cO] at h;exact⟨Q5 h.1.1.1,Q5 h.1.1.2,xQ h.1.2,xQ h.2⟩
 have M:∀c C,A.cs.lookup c=aA C->mH K C:=λc C h=>by
  have a:=(T _ (qI h)).1;simp only[Ca,cO] at a;obtain⟨⟨⟨⟨I,H⟩,d⟩,F⟩,E⟩:=a;obtain⟨r,p,o,m⟩:=cb I;exact⟨⟨H,d,F,Q5 E⟩,r,p,o,m⟩
 refine⟨rfl,λx Y=>?_,λt x c b u v hu Z=>?_,λc C x f j Q=>?_,λc C j=>?_,M,λx c b=>?_,λt x c b hlt Ct Cc B D=>?_⟩
 .obtain⟨g,O⟩:=d9 (l:=gs) Y;have:=q _ (qI O);refine⟨?_,this.2⟩;show cC _ P w K mg base k x ((gs.lookup x).getD .bad);rw[O];exact this.1
 .have a:=J _ b;dsimp only at a;split at a
  .rename_i v' i;simp only[cO,f6] at a;have e:=(ZW X L i).2 v Z;subst e;exact xQ (a.1.2 _ (OA hu))
  .cases a
 .have a:=c4 _ Q;dsimp only at a;refine⟨?_,(M c C j).cl,VR ((T _ (qI j)).2 _ Q)⟩;split at a
  .rename_i y U;show iW[f]?=aA x;rw[U,beq_iff_eq.mp a]
  .cases a
 .have a:=c2 _ (qI j);simp only[GG,cO] at a;obtain⟨⟨⟨⟨⟨I,H⟩,d⟩,F⟩,S⟩,E⟩:=a;obtain⟨r,p,o,m⟩:=cb I;exact⟨Q5 H,VR d,r,p,o,m,xQ F,⟨xQ S.1,xQ S.2⟩,E⟩
 .have a:=J _ b;dsimp only at a;split at a
  .rename_i v i;simp only[cO] at a;have s:=a.1.1;refine⟨v,(match v with|.ref C=>V.ref C|.type n=>V.ty n|_=>V.non),(ZW X L i).1,?_⟩;cases v with
   |ref C=>exact .inl ⟨C,rfl,rfl⟩
   |type n=>exact .inr ⟨n,rfl,rfl⟩
   |_=>cases s
  .cases a
 .have a:=J _ b;dsimp only at a;split at a
  .rename_i v i;simp only[cO,nS] at a;have e:=(ZW X L i).2 (.ref Cc) (.inl D);subst e;have d:=a.2.resolve_left (λz=>by have:=Nat.le_of_ble_eq_true z;lia);simp only[f6] at d;exact xQ (d _ (qI B))
  .cases a
end
section
variable {D:DP}{H:Hp}{φ α:List aF}{μ:Mem}
theorem aL.layO(m:aL D φ α H μ)(g:H p=aE)(d:d5 D φ (α++[p]) (upd H p u) r p):aL D φ (α++[p]) (upd H p u) (μ++[r]):=by
 have st:aQ α H (α++[p]) (upd H p u):=jB g;have l:=m.len;refine⟨by simp[l],?_,λb hb=>?_,λb hb=>?_,λi a o c f=>?_⟩
 .rw[lg];refine⟨m.nd,by simp,λa s b hb=>?_⟩;rw[bU.mp hb];intro z;exact zt m g (z▸s)
 .rcases b_.mp hb with h|h
  .exact m.dis b h
  .rw[bU.mp h];exact zr m g
 .obtain⟨u,e,n⟩:=m.phi b hb;exact⟨u,zm g b u e,n⟩
 .by_cases hi:i<α.length
  .rw[dP hi] at c;rw[dP (by lia)] at f;have d:=m.ob i a o c f;obtain⟨u,q,_⟩:=d.some;exact d.step st ((zm g _ _ q).trans q.symm)
  .rw[fP (by lia)] at c f;have k:i-α.length=0:=by
    by_cases z:i-α.length=0
    .exact z
    .rw[my (by simp;lia)] at c;cases c
   have j:i-μ.length=0:=by lia
   rw[k] at c;rw[j] at f;have c:aA p=aA a:=c;have f:aA r=aA o:=f;cases c;cases f;exact d
end
abbrev gN(op:T->T->Mem->RE T)(f g:De):De:=λc d=>(f c d).bind λx b=>(g c b).bind λy a=>op x y a
abbrev yh(x y:T)(μ:Mem):RE T:=match x,y with
 |.int a,.int b=>.ok (.int (if b<a then b else a)) μ
 |_,_=>.st
abbrev uN(x y:T)(μ:Mem):RE T:=match x,y with
 |.int a,.int b=>.ok (.int (if a<b then b else a)) μ
 |_,_=>.st
section
variable {X:Cx}{D:DP}{W:XW}{Γ:Cn}{k:Nat}{pins:List (aF×bF)}{s:Shared}{σ:St}{H:Hp}{φ α:List aF}{τ:Sl}{μ:Mem}{f g:De}{a b:aI}{pos:Pos}
def B2 (X:Cx)(D:DP)(W:XW)(fv:aD)(op:T->T->Mem->RE T):Prop:=
 ∀(pins:List (aF×bF)) (s:bB) (σ:St) (H:Hp) (φ α:List aF) (μ:Mem) (t c:T) (v a:V) (u b:aD) (Q:VK),Inv X pins σ H s->aL D φ α H μ->bA D φ α H t v->bA D φ α H c a->RelV v u->RelV a b->aJ D W φ α H σ (RV D φ Q) (op t c μ)->
  wpAny (aS X.prog X.w) X.A (call fv [u,b]) (EP X pins σ Q) X.xe s
theorem Gv (C:Ck D W Γ X k) {id:String}(A:x∈Γ.G) (hg:Γ.gl x=.none) (hv:hV x=aA (.builtin id)) (hn:x≠"__name__") (r:aO a=aB) (o:aO b=aB) (hB:B2 X D W (.builtin id) op) (ha:PE X a (aU D W f)) (hb:PE X b (aU D W g)) :
  PE X (.Call (.Name x p0) [a,b] [] pos) (aU D W (gN op f g)):=by
 have L:=C.glo _ A;rw[hg] at L;rintro h s u H Q I ⟨e,O,F,N,K,mr,p⟩;refine ij (wH I (C.glb _ A) L hv ?_ hn (C.dbG _ A))
 refine Ac (aW (zK ha (zK hb qL (z5 o)) (z5 r) pos h s u H (λJ t=>∃j i n l d c,J=[j,i]/\aL D e c t d/\bA D e c t n j/\bA D e c t l i/\aJ D W e c t u (RV D e Q) (op n l d)) I
  ⟨e,O,F,N,K,mr,p.bind.mono λn v w M z m1 Z j E=>⟨e,w,F,v,K.step z,m1,Z.bind.mono λl d c t y m2 Y i B=>⟨j,i,n,l,d,c,rfl,m2,E.step y,B,Y⟩⟩⟩) ?_) (z5 r) (wh (by simp[o]))
 rintro us S ⟨J,M,I1,T,j,i,n,l,d,c,rfl,m,E,B,q⟩;obtain⟨R,P,rfl,V,U⟩:=vals2 T;exact hB h S u M e c d n l j i R P Q I1 m E B V U q
theorem OC(k:X.calm=aB):B2 X D W (.builtin "min") yh:=by
 intro a s e H n q o t B v w u x Q I b d m r g p;unfold yh at p;split at p
 .cases d;cases m;obtain⟨A,rfl⟩:=r;obtain⟨y,rfl⟩:=g;refine min_two_ints (I.ok.hd k) λl f h=>?_;have c:Inv X a e H {s with heap:=l,toks:=f}:=I.kept h;rename_i i j;by_cases z:j<i
  .rw[if_pos z] at p ⊢;exact⟨.int j,H,c,⟨_,rfl⟩,p.here b rfl⟩
  .rw[if_neg z] at p ⊢;exact⟨.int i,H,c,⟨_,rfl⟩,p.here b rfl⟩
 .exact p.elim
theorem M5(k:X.calm=aB):B2 X D W (.builtin "max") uN:=by
 intro a s e H n q o t B v w u x Q I b d m r g p;unfold uN at p;split at p
 .cases d;cases m;obtain⟨A,rfl⟩:=r;obtain⟨y,rfl⟩:=g;refine max_two_ints (I.ok.hd k) λl f h=>?_;have c:Inv X a e H {s with heap:=l,toks:=f}:=I.kept h;rename_i i j;by_cases z:i<j
  .rw[if_pos z] at p;rw[if_pos (show j > i from z)];exact⟨.int j,H,c,⟨_,rfl⟩,p.here b rfl⟩
  .rw[if_neg z] at p;rw[if_neg (show ¬j > i from z)];exact⟨.int i,H,c,⟨_,rfl⟩,p.here b rfl⟩
 .exact p.elim
theorem intsAre_of:∀{ns:List Int}{us:List aD},aY (ns.map V.int) us->ic us ns
 |[],_,.nil=>.nil
 |n::ns,_,.cons r q=>by
  obtain⟨t,rfl⟩:=r;exact .cons n t (intsAre_of q)
end
def Cu (nm:aH)(op:T->T->Mem->RE T):ER:=λr a e=>(k_ e).bind λq=>(rY q.as).bind λw=>gd (q.x==nm) (gd ((cJ a.N q.x).isNone&&aO w.1) (gd (aO w.2&&a.calm) (gd (ir (a.look nm)) ((r.e a w.1).bind λf=>(r.e a w.2).bind λg=>aA (gN op f g)))))
theorem HL(s:∀{X:Cx}{W:XW}{Γ:Cn}{k:Nat}{a b:aI}{f g:De}{p0 pos:Pos},Ck D W Γ X k->nm∈Γ.G->Γ.gl nm=.none->Γ.calm=aB->aO a=aB->aO b=aB->PE X a (aU D W f)->PE X b (aU D W g)->PE X (.Call (.Name nm p0) [a,b] [] pos) (aU D W (gN op f g))):cR D (Cu nm op):=by
 intro r H X W Γ k e d C h;obtain⟨q,p,h⟩:=aR h;obtain⟨w,l,h⟩:=aR h;obtain⟨j,h⟩:=z9 h;obtain⟨o,h⟩:=z9 h;obtain⟨i,h⟩:=z9 h;obtain⟨c,h⟩:=z9 h;obtain⟨f,n,h⟩:=aR h;obtain⟨g,m,h⟩:=aR h;cases h;rw[qQ p,Vy l,qr j];exact s C (zQ c).1 (zQ c).2 (zy i).2 (zy o).2 (zy i).1 (H.e C n) (H.e C m)
def Gj:ER:=Cu "min" yh
theorem S0:cR D Gj:=HL λC a b c g f e d=>Gv C a b (by decide +kernel) (by decide) g f (OC (C.clm c)) e d
def Gw:ER:=Cu "max" uN
theorem Sr:cR D Gw:=HL λC a b c g f e d=>Gv C a b (by decide +kernel) (by decide) g f (M5 (C.clm c)) e d
abbrev YD(c:Nat)(g:Fn)(ts:List T)(μ:Mem):RE T:=λK Z=>g (.mut μ.length::ts) (μ++[.obj c []]) (λr a=>r=.non/\K (.mut μ.length) a) Z
noncomputable abbrev W8(c:Nat)(g:Fn)(fs:List De):De:=λa b=>(gD fs a b).bind (YD c g)
noncomputable abbrev zv(c:Nat)(g:Fn)(o:De)(as:List De):De:=λd h=>(o d h).bind λt b=>match t with
 |.obj f fs=>.grd (f=c) ((gD as d b).bind λe a=>g (.obj f fs::e) a)
 |.mut i=>λK Z=>∃fs,b[i]?=aA (.obj c fs)/\(gD as d b).bind (λe a=>g (.mut i::e) a) K Z
 |_=>.st
section
variable {X:Cx}{D:DP}{W:XW}{Γ:Cn}{k:Nat}{pins:List (aF×bF)}{s:Shared}{σ:St}{H:Hp}{φ α:List aF}{τ:Sl}{μ:Mem}{fs:List De}{c:aI}{pos:Pos}{es:List aI}
theorem XZ{c:Nat}{g:Fn}{C0 fI:aF}{kk:Nat}{vs:List V}{ts:List T}{Q:VK}(C:Ck D W Γ X k)(ad:D.cad c=aA C0)(M:Mk X.K C0 fI)(F:bS X.prog X.w X.K X.mg X.base (dB X.prog X.w) kk fI fd ps (eR D ps.length g))
  (hr:bZ (kk+1) X.A) (hb:Binds X.K fd ps []) (P:∀ts μ K Z,g ts μ K Z->ts.length=ps.length) (I:Inv X pins σ H s) (r:aY vs us) (U:aL D φ α H μ) (d:aM D φ α H ts vs) (p:aJ D W φ α H σ (RV D φ Q) (YD c g ts μ)) :
  wpAny (aS X.prog X.w) X.A (call (.ref C0) us) (EP X pins σ Q) X.xe s:=by
 obtain⟨K,Z,Y,hk,hz⟩:=p;have N:(T.mut μ.length::ts).length=ps.length:=P _ _ _ _ Y;have hq:∀x dx,H x=aE->H dx=aE->dx≠x->eR D ps.length g (.ref x::(vs++[])) (upd (upd H dx (.own x)) x (.ins C0 dx [])) (λv H2=>v=.non/\Q (.ref x) H2) (λc d h=>W c d σ h):=by
  intro x dx hx O J;have l:kL H (upd H dx (.own x)):=zm O;have n:upd H dx (.own x) x=aE:=by rw[z7 (bW J)];exact hx
  have B:aL D φ α (upd H dx (.own x)) μ:=U.new l;have j:aQ α H (α++[x]) (upd (upd H dx (.own x)) x (.ins C0 dx [])):=(aQ.new l).trans (jB n);have z:aL D φ (α++[x]) (upd (upd H dx (.own x)) x (.ins C0 dx [])) (μ++[.obj c []]):=B.layO n ⟨C0,dx,[],ad,z3,rfl⟩;have b:(α++[x])[μ.length]?=aA x:=by rw[<-U.len,fP (bD _)];simp
  refine⟨by simp only[gJ,gU] at N ⊢;rw[<-d.length];exact N,φ,α++[x],.mut μ.length::ts,μ++[.obj c []],⟨.ref x,vs++[],rfl,⟨x,b,rfl⟩,by rw[gU];exact d.step j⟩,z,_,_,Y,?_,?_⟩
  .rintro t y ⟨rfl,q⟩ i S st m v dv;refine⟨dv,?_⟩;obtain⟨β,e,_⟩:=st.ext;refine hk _ _ q i S (j.trans st) m _ ⟨x,?_,rfl⟩;rw[e,dP (bE.mp b).1];exact b
  .rintro e fs y q i S C1 d1 st m R xd;exact hz _ _ _ q i S C1 d1 (j.trans st) m R xd
 have G:=hq (s.heap.objs.size+1) s.heap.objs.size (I.hok.fresh (iK _)) (I.hok.fresh (bD _)) (cX (mo _));have o:=Inv.made (C:=C0) I;have r2:aY (V.ref (s.heap.objs.size+1)::(vs++[])) (cN (s.heap.objs.size+1)::us):=.cons rfl (by rw[gU];exact r);have L:(cN (s.heap.objs.size+1)::us++[]).length=ps.length:=by
  rw[gU,gJ,<-r.length,<-d.length];exact N
 refine lK (JS (f:=fI) I.kIn M.makes M.init (beq_iff_eq.mp M.fn) (i7 (F.run _ X.stack _ _ ⟨cN (s.heap.objs.size+1)::us,[]⟩ (cN (s.heap.objs.size+1)::us) _ _ (λc d h=>W c d σ h) (hr.make C0 us [])
  (o.env0.make C0 us []) (by simpa using hb _ (cN (s.heap.objs.size+1)::us) o.kIn L) r2 G) λr s' a=>?_))
 cases r with
 |error e=>exact C.xe e s' (Zg (E:=λc d h=>W c d σ h) o a λcls d h w=>w)
 |ok fl=>
  cases fl with
  |ret u=>
   obtain⟨v,h,I3,rv,ev,q3⟩:=o.after a;subst ev;exact⟨rv,⟨V.ref (s.heap.objs.size+1),h,I3,rfl,q3⟩⟩
  |next=>exact eF a
  |brk=>exact eF a
  |cont=>exact eF a
theorem T1(C:Ck D W Γ X k){c:Nat}{g:Fn}(d:x∈Γ.G)(E:Γ.gl x=.mk c aC g)(F:Γ.calm=aB)(j:dU X D W es fs):PE X (.Call (.Name x p0) es [] pos) (aU D W (W8 c g fs)):=by
 have q:=C.glo x d;rw[E] at q;obtain⟨C0,Y,fd,U,V,ad,B,M,o,i,Fn,a⟩:=q;have n:=(C.rom F).mono i;have h:=j.stars;have A:=jk j;rintro l s N H Q I ⟨K,P,L,O,y,m,p⟩;refine ij (vb I (C.glb x d) B ?_ (C.dbG x d));cases es with
 |nil=>
  cases fs with
  |nil=>exact rp I.kIn M.kp (XZ (ts:=[]) C ad M Fn n o a I .nil m rfl p)
  |cons f fs=>exact j.elim
 |cons e es=>
  simp only[lT,cO] at h;refine oy (h₀:=X.base) I.ok.mod.kin M.kp (aW (rR A I y m p) ?_) (z5 h.1) (wh h.2);rintro S T ⟨R,Z,ts,t,u,r,z,v,w,b,J,_,p1⟩;exact⟨r.kIn,XZ C ad M Fn n o a r z b J p1⟩
theorem Zx(a:∀i,D.fn i≠aA nm):∀{fs:List (Nat×T)}{gs:List (aH×V)},bN D φ α H fs gs->gs.lookup nm=aE
 |[],_,h=>by cases h;rfl
 |p::r,_,h=>by
  obtain⟨x,v,q,e,rfl,_,l⟩:=h;rw[f7];have:(nm==x)=aC:=by
   apply beq_false_of_ne;intro z;exact a p.1 (by rw[z];exact e)
  rw[this];exact Zx a l
theorem G1 (hs : es.all aO = aB) (b : es.length < 30) : ((eU pos (dW es env)).all (fun x => !x.1) && (i4 pos (i_ [] env)).all (fun x => x.1.isSome)
      &&decide (es.length+([]:List hI).length+(if ([]:List hI).isEmpty then 0 else 1)<30))=aB:=by
  have e:=wh (env:=env) (pos:=pos) hs;have d:(eU pos (dW es env)).all (λx=>!x.1)=aB:=by
    rw[f6];intro x a;have:=tX.mp e x a;simpa using this
  rw[d];have c:(i4 pos (i_ [] env)).all (λx=>x.1.isSome)=aB:=rfl;rw[c];simpa using b
theorem Rb(C:Ck D W Γ X k){x m:aH}{c:Nat}{g:Fn}(hU:x∈Γ.U)(hg:Γ.gl x=.met c m g)(hc:Γ.calm=aB)(hp:zZ o=aB)(r:(d.endLine==pos.line)=aB)(hl:es.length<30)(ho:PE X o (aU D W go))(ha:dU X D W es fs) :
  PE X (.Call (.Attribute o m d) es [] pos) (aU D W (zv c g go fs)):=by
 have q:=(C.glU x hU).1;rw[hg] at q;obtain⟨C0,fI,fd,ps,kk,ad,cl,M,K,hb,hkk,Fn,L⟩:=q;have hr:=(C.rom hc).mono hkk;have P:=ha.stars;have pa:=jk ha;rintro G s σ H Q I ⟨Y,α,τ,μ,sr,mr,p⟩;rw[tQ,qy hp];refine wpAny_bind (aW (sub ho I sr mr p) ?_);rintro u s1 ⟨v,S,t,Z,j,O,r1,st1,sr1,n,R,p1⟩;refine wpAny_bind (hW ?_);have y:methodCallForm (es.length+([]:List hI).length) (eU pos (dW es X.env)) (i4 pos (i_ [] X.env))=aB:=G1 P hl;have J:mW aB o X.env d pos=pure pos:=by unfold mW;simp[r]
 have go:∀{a dx:aF}{gs:List (aH×V)}{F:T},S a=aA (.ins C0 dx gs)->gs.lookup m=aE->u=.ref a->(∀b B,aQ j S b B->bA D Y b B F (.ref a))->aJ D W Y j S σ (RV D Y Q) ((gD fs τ Z).bind λts E=>g (F::ts) E)->
   wpAny (aS X.prog X.w) X.A (nM o m d pos X.env u (es.length+([]:List hI).length) (eU pos (dW es X.env)) (i4 pos (i_ [] X.env))) (EP X G σ Q) X.xe s1:=λ{a dx gs F} N lk hu hd z=>by
  subst hu;unfold nM;rw[y];refine wpAny_bind (wpAny_holding (XB O N cl M lk ?_));refine wpAny_bind (nP J ?_);have d0:=hd j S (aQ.refl _ _);cases es with
  |nil=>
   cases fs with
   |nil=>exact rp (first:=[.ref a]) O.kIn M.kp (Z8 (ts:=[F]) (us:=[.ref a]) (vs:=[.ref a]) C Fn hr hb L O (.cons rfl .nil) n ⟨_,_,rfl,d0,rfl⟩ z)
   |cons f fs=>exact ha.elim
  |cons e es=>
   simp only[lT,cO] at P;refine oy (first:=[.ref a]) (h₀:=X.base) O.ok.mod.kin M.kp (aW (rR pa O sr1 n z) ?_) (z5 P.1) (wh P.2);rintro us s2 ⟨vs,B,ts,E,b,I2,r2,st2,sr2,mr2,d2,_,p3⟩;exact⟨I2.kIn,Z8 (ts:=F::ts) (us:=.ref a::us) (vs:=.ref a::vs) C Fn hr hb L I2 (.cons rfl r2) mr2 ⟨_,_,rfl,hd b B st2,d2⟩ p3⟩
 cases t with
 |obj c' gf=>
  obtain⟨hcc,z⟩:=aJ.grd p1;subst hcc;obtain⟨a,C1,dx,gs,rfl,n1,n2,h,N,l⟩:=id R;rw[ad] at h;cases h;exact go N (Zx K l) r1 (λb B st=>R.step st) z
 | «mut» i=>
  obtain⟨gf,hi,z⟩:=aJ.ex1 p1;obtain⟨a,hi',rfl⟩:=id R;obtain⟨C1,dx,gs,h,N,l⟩:=n.ob i a _ hi' hi;rw[ad] at h;cases h;exact go N (Zx K l) r1 (λb B st=>R.step st) z
 |_=>exact aJ.elim p1
end
def Ay (K:bO)(a:aF)(n:Nat):It:=⟨λi H=>∃b x,f_ K H a b/\b.length=n/\i<n/\b[n-1-i]?=aA x,λi H x c=>c=H/\∀b,f_ K H a b->b[n-1-i]?=aA x,λi _=>i=n⟩
theorem SJ{P:cI}{K:bO}(a it:aF)(n:Nat):fH P w K tg (Ay K a n) [it] it (λi h=>h.IsRevIter it a ((n:Int)-1-(i:Int))) where
 mem:=by simp
 obj:=λi h st b g=>by
  have e:b=it:=by simpa using g
  subst e;obtain⟨o,e,c,d⟩:=st;exact⟨o,e,λv z=>by rw[d] at z;cases z⟩
 keep:=λi h q st k=>st.at λo e=>k it (by simp) o e
 item:=by
  intro X r hw t M i f s G H E I m st l;subst r hw t;obtain⟨xs,x,L,hn,hi,J⟩:=l;obtain⟨R,O,p,hz⟩:=I.list L;obtain⟨u,T,Q⟩:=O.get J;obtain⟨D,C,U,B,A,y⟩:=m it (by simp);have F:(n:Int)-1-(i:Int)=((n-1-i:Nat):Int):=by lia
  have V:(n:Int)-1-((i+1:Nat):Int)=((n-1-i:Nat):Int)-1:=by lia
  rw[F] at st;refine wpAny_pyNext_rev_item st p.isList (x:=u) (by simpa using T) λq j N=>?_;have Y:Inv X f G H {s with heap:=q}:=I.turned (t':=s.toks) (λb o g e=>(N.2 b g).trans e) D C B A y;obtain⟨o,e,c,d⟩:=id j;exact⟨u,rfl,ZX (s:={s with heap:=q}) e c d (by decide) ⟨x,H,Y,Q,⟨rfl,λZ S=>by rw[I.list_inj S L];exact J⟩,by show Heap.IsRevIter _ _ _ _;rw[V];exact j,λb g=>(m b g).1⟩⟩
 done:=by
  intro X r hw t M i f s G H E I m st l;subst r hw t;obtain⟨D,C,U,B,A,y⟩:=m it (by simp);have l:i=n:=l;subst l;have F:(i:Int)-1-(i:Int) = -1:=by lia
  rw[F] at st;exact wpAny_pyNext_rev_end (I.ok.hd M) st λq eb=>⟨rfl,I.turned (t':=s.toks) (λb o g e=>eb b o g e) D C B A y⟩
 self:=λ_ _ _ _ _ st h=>Ep st h
abbrev An(t:T)(μ:Mem):RI:=match t with
 |.lst a=>.ok a.reverse gW μ
 |.mut i=>λK _=>∃a,μ[i]?=aA (.lst a)/\K a.reverse (iQ i a) μ
 |_=>.st
abbrev BK(f:De):Di:=λa b=>(f a b).it An
section
variable {X:Cx}{D:DP}{W:XW}{Γ:Cn}{k:Nat}{pins:List (aF×bF)}{s:Shared}{σ:St}{H:Hp}{φ α:List aF}{τ:Sl}{μ:Mem}{f:De}{a tg:aI}{pos:Pos}
theorem Ye{K:bO}{ad:aF}:iF D (Ay K ad xs.length) (λφ α H=>∃vs,Rd H ad (.lst vs)/\aM D φ α H xs vs) xs.reverse:=
 ⟨λi φ α H ⟨vs,ok,l⟩ a=>by
  have f:=l.length;have a:i<xs.length:=by simpa using a
  exact⟨vs,vs[xs.length-1-i]'(by omega),.inl ok,by omega,a,by simp⟩,λi φ α H v g t ⟨vs,ok,l⟩ a y=>by
  obtain⟨rfl,y⟩:=y;have b:i<xs.length:=by
   have:=(bE.mp a).1;simpa using this
  rw[List.getElem?_reverse b] at a;obtain⟨x,c,d⟩:=l.get a;have e:=y vs (.inl ok);rw[e] at c;cases c;exact⟨λ_ _ z=>z,d⟩,λφ α H _=>by show _=_;simp⟩
theorem Oh (C:Ck D W Γ X k) (hx:("reversed":aH)∈Γ.G) (hg:Γ.gl "reversed"=.none) (hs:aO a=aB) (ha:PE X a (aU D W f)) :
  PI X tg (.Call (.Name "reversed" p0) [a] [] pos) (gM D W (BK f)):=by
 have hm:=C.glo _ hx;rw[hg] at hm;rintro B s E H R I ⟨n,Y,τ,μ,sr,mr,p⟩;refine ij (wH I (C.glb _ hx) hm (show hV "reversed"=aA (.type "reversed") by decide +kernel) ?_ (by decide) (C.dbG _ hx));refine oF (aW (zK ha qL (z5 hs) pos B s E H (λz i=>∃v t g c,z=[v]/\aQ Y H c i/\aL D n c i g/\bA D n c i t v/\aJ D W n c i E (λp r x P=>∀J Ok,iF D J Ok p.1->sH D n x P p.1 p.2 Ok->p.2 r->R J P) (An t g).re) I ⟨n,Y,τ,μ,sr,mr,(show aJ D W n Y H E _ ((f τ μ).bind λt g=>(An t g).re) from p).bind.mono λt r x P st m q v d=>⟨v,t,r,x,rfl,st,m,d,q⟩⟩) ?_) (z5 hs) rfl;rintro us y ⟨z,i,S,rv,v,t,g,c,rfl,st,m,d,q⟩;obtain⟨u,rfl,r1⟩:=vals1 rv;have O:∀{ad:aF}{z:List V}{h:List T}{lv:Mem->Prop},u=.ref ad->Rd i ad (.lst z)->aM D n c i h z->R (Ay X.K ad h.length) i->wpAny (aS X.prog X.w) X.A (call (.type "reversed") [u]) (λv y=>wpAny (aS X.prog X.w) X.A (mM v) (pq X B E tg R) X.xe y) X.xe y:=λ{ad z h lv} hu q l hR=>by
  subst hu;obtain⟨L,rv2,pl,hz⟩:=S.list (.inl q);have N:L.toArray.size=h.length:=by simp[<-rv2.length,l.length]
  refine call_reversed_list pl.isList ?_;have hr:({y with heap:=y.heap.push (revObj ad ((L.toArray.size:Int)-1))}:bB).heap.IsRevIter y.heap.objs.size ad ((h.length:Int)-1-((0:Nat):Int)):=⟨_,eK _ rfl,rfl,by rw[<-N];simp[revObj]⟩;refine Ep hr ?_;refine⟨y.heap.objs.size,[y.heap.objs.size],_,_,i,rfl,S.kept (t':=y.toks) λb o e=>bY _ e,SJ ad _ h.length,hr,λb hb=>?_,hR⟩;have e:b=y.heap.objs.size:=by simpa using hb
  subst e;exact S.fpOk (bD _) (S.hok.fresh (bD _))
 cases t with
 |lst ts=>
  obtain⟨ad,z,rfl,n1,n2,Q,l⟩:=d;have F:aJ D W n c i E _ (RE.ok (ts.reverse,gW) g):=q;refine O (lv:=gW) r1 Q l (F.ok (aQ.refl _ _) m _ _ Ye (λU x P r lk _ _=>?_) trivial);obtain⟨a',Z,e,_,_,q',l'⟩:=bA.lk lk (show bA D n c i (.lst ts) (.ref ad) from ⟨ad,z,rfl,n1,n2,Q,l⟩);cases e;exact⟨Z,q',l'⟩
 | «mut» j=>
  obtain⟨ad,hj,rfl⟩:=d;have F:aJ D W n c i E _ (λK _=>∃h,g[j]?=aA (.lst h)/\K (h.reverse,iQ j h) g):=q;obtain⟨h,M,F⟩:=F.ex1;obtain⟨z,Q,l⟩:=m.ob j ad _ hj M;have F:aJ D W n c i E _ (RE.ok (h.reverse,iQ j h) g):=F;refine O (lv:=iQ j h) r1 (.inl Q) l (F.ok (aQ.refl _ _) m _ _ Ye (λU x P r lk mm hl=>?_) M);obtain⟨Z,q',l'⟩:=mm.ob j ad _ (lk.st j ad hj) hl;exact⟨Z,.inl q',l'⟩
 |_=>exact aJ.elim q
end
theorem ZQ{K:bO}(a:nv K A cls fld=aB)(h:A.cs.lookup c=aA C):gR K C:=by
 simp only[nv,cO,f6] at a;obtain⟨⟨⟨m,l⟩,i⟩,k⟩:=a;have b:=(i _ (qI h)).1;simp only[Ca,cO] at b;obtain⟨⟨⟨⟨j,g⟩,f⟩,e⟩,d⟩:=b;exact⟨g,f,e,Q5 d⟩
def A2:GM->Option (Nat×Fn)
 |.mk c aC g=>aA (c,g)
 |_=>aE
theorem Sf(h:A2 g=aA q):g=.mk q.1 aC q.2:=by
 unfold A2 at h;split at h
 .cases h;rfl
 .cases h
def Fm:ER:=λr a e=>(k_ e).bind λq=>gd ((cJ a.N q.x).isNone&&a.calm) ((l5 r a q.as).bind λfs=>(A2 (a.look q.x)).bind λw=>aA (W8 w.1 w.2 fs))
theorem O5:cR D Fm:=by
 intro r H X W j k e d C h;obtain⟨q,i,h⟩:=aR h;obtain⟨f,h⟩:=z9 h;obtain⟨fs,g,h⟩:=aR h;obtain⟨w,b,h⟩:=aR h;cases h;rw[qQ i];obtain⟨a,c⟩:=jK (Sf b) (by intro z;cases z);exact T1 C a c (zy f).2 (jC H C g)
noncomputable def dL(m:aH):aH:=⟨#[46]++m.cps⟩
def F3:GM->Option (Nat×aH×Fn)
 |.met c nm g=>aA (c,nm,g)
 |_=>aE
theorem RL(h:F3 g=aA q):g=.met q.1 q.2.1 q.2.2:=by
 cases g<;>first|(cases h;rfl)|cases h
def Bj (r:dM)(Γ:Cn)(ky:aH)(q:Im):Option De:=gd (zZ q.o&&q.pa.endLine==q.pc.line) (gd (Γ.calm&&decide (q.as.length<30)) (gd (Γ.U.contains ky) ((r.e Γ q.o).bind λgo=>(l5 r Γ q.as).bind λfs=>(F3 (Γ.gl ky)).bind λw=>gd (w.2.1==q.m) (aA (zv w.1 w.2.2 go fs)))))
theorem Yu{W:XW}(H:bV D r)(C:Ck D W Γ X k)(h:Bj r Γ ky q=aA d):PE X (.Call (.Attribute q.o q.m q.pa) q.as [] q.pc) (aU D W d):=by
 obtain⟨c,h⟩:=z9 h;obtain⟨b,h⟩:=z9 h;obtain⟨l,h⟩:=z9 h;obtain⟨go,j,h⟩:=aR h;obtain⟨fs,i,h⟩:=aR h;obtain⟨w,g,h⟩:=aR h;obtain⟨f,h⟩:=z9 h;cases h;have a:=RL g;rw[qr f] at a;exact Rb C (by simpa using l) a (zy b).1 (zy c).1 (zy c).2 (of_decide_eq_true (zy b).2) (H.e C j) (jC H C i)
def Ga:ER:=λr a e=>(xo e).bind λq=>Bj r a (dL q.m) q
theorem Pr:cR D Ga:=by
 intro r H X W b k e d C h;obtain⟨q,a,h⟩:=aR h;rw[wF a];exact Yu H C h
def GI:IR:=λr b e=>(k_ e).bind λq=>(yO q.as).bind λa=>gd (q.x==("reversed":aH)) (gd ((cJ b.N q.x).isNone&&aO a) (gd (ir (b.look "reversed")) ((r.e b a).bind λf=>aA (BK f))))
theorem SQ:mI D GI:=by
 intro r H X W m k n e d C o h;obtain⟨q,l,h⟩:=aR h;obtain⟨a,i,h⟩:=aR h;obtain⟨c,h⟩:=z9 h;obtain⟨g,h⟩:=z9 h;obtain⟨b,h⟩:=z9 h;obtain⟨f,j,h⟩:=aR h;cases h;rw[qQ l,q_ i,qr c];exact Oh C (zQ b).1 (zQ b).2 (zy g).2 (H.e C j)
section
variable {X:Cx}{pins:List (aF×bF)}{s:Shared}{σ:St}{H:Hp}
theorem vz(I:Inv X pins σ H s)(a:dF X H x)(t:∀p∈pins,p.1≠x)(m:aZ X.prog X.w (upd H x o) s.heap x o):Inv X pins σ (upd H x o) s:=by
 have i:∀b,H b≠aE->b≠x:=λb h z=>h (by rw[z];exact a.free);refine⟨I.ok,I.os,I.bare,⟨I.base.keep,I.base.slot,λb o e n f=>?_,I.base.there,λb j e=>?_,λb o u e=>?_,λb k e=>?_⟩,I.loc,I.cell,?_,λy c e=>?_,λp g=>?_,λb l e=>?_,I.len⟩
 .have:b≠x:=λz=>by
   rcases a.new with q|q
   .exact f (by rw[z];exact q)
   .rw[<-z,e] at q;cases q
  rw[z7 this];exact I.base.free b o e n f
 .have q:=I.base.tups b j e;rw[z7 (i b (by rw[q];simp))];exact q
 .have q:=I.base.frzs b o u e;rw[z7 (i b (by rw[q];simp))];exact q
 .obtain⟨d,q⟩:=I.base.tbls b k e;exact⟨d,by rw[z7 (i b (by rw[q];simp))];exact q⟩
 .rw[z7 (bW a.loc)];exact I.free
 .rw[z7 (a.cel y c e)];exact I.freeC y c e
 .obtain⟨e,n,r⟩:=I.pin p g;have:p.1≠x:=(b_.mp g).elim (a.pin p) (t p);exact⟨e,by rw[z7 this];exact n,r⟩
 .by_cases z:b=x
  .subst z;rw[z3] at e;cases e;exact m
  .rw[z7 z] at e;exact (I.hok b l e).stay (λ_ _ _ q=>q) (λc q=>by
    by_cases w:c=x
    .rw[w,a.free] at q;cases q
    .rw[z7 w];exact q) λc _ q=>by
    by_cases w:c=x
    .rw[w,a.free] at q;cases q
    .rw[z7 w];exact q
theorem xV(f:Vz X pins H b):dF X H b/\∀p∈pins,p.1≠b:=
 ⟨⟨f.1,f.2.1,f.2.2.1,f.2.2.2.1.imp id λh=>lX h,f.2.2.2.2.1,λp a=>f.2.2.2.2.2 p (eY _ a)⟩,λp a=>f.2.2.2.2.2 p (dH _ a)⟩
end
def BQ (K:bO)(a:aF):It:=⟨λi H=>∃b x,f_ K H a b/\b[i]?=aA x,λi H v c=>∃p x,H p=aE/\c=upd H p (.tup [.int i,x])/\v=.ref p/\∀b,f_ K H a b->b[i]?=aA x,λi H=>∃b,f_ K H a b/\b.length<=i⟩
theorem Ut{P:cI}{K:bO}(a e it:aF)(y:e≠it):fH P w K (.Tuple elts x1 tp) (BQ K a) [e,it] e (λi h=>(∃d,IsEnum h e it (i:Nat) d)/\h.IsListIter it a i) where
 mem:=by simp
 obj:=λi h st b f=>by
  obtain⟨⟨d,j⟩,o,J,R,hd⟩:=st;have:b=e\/b=it:=by simpa using f
  rcases this with rfl|rfl
  .exact⟨_,j,λv z=>by cases (show pI _=pF v from z)⟩
  .exact⟨o,J,λv z=>by rw[hd] at z;cases z⟩
 keep:=λi h h' st k=>⟨let ⟨d,j⟩:=st.1;⟨d,k e (by simp) _ j⟩,st.2.at λo q=>k it (by simp) o q⟩
 item:=by
  intro X S hw T R i c s A H E I C st N;subst S hw T;obtain⟨⟨d,j⟩,l⟩:=st;obtain⟨Z,x,B,G⟩:=N;obtain⟨F,D,p,hz⟩:=I.list B;obtain⟨u,hu,ru⟩:=D.get G;have fe:=xV (C e (by simp));have fi:=xV (C it (by simp));have t:e<s.heap.objs.size:=bX j;have M:it<s.heap.objs.size:=by obtain⟨o,J,_⟩:=l;exact bX J
  refine wpAny_pyNext_enum_item j l p.isList (x:=u) (by simpa using hu) y λh1 O r ht hz1 L=>?_;refine⟨_,rfl,wpAny_letOwnedTupleGo_enum O λm Q g=>?_⟩;have g:fR e h1 m:=g;have U:∀b o,b≠e->b≠it->s.heap.get? b=aA o->m.get? b=aA o:=λb o Y h4 q=>(g.2 b Y).trans (L b o Y h4 q);have I1:Inv X c A H {s with heap:=m}:=yF (ch:=[e,it]) I (λb f=>by
   have:b=e\/b=it:=by simpa using f
   rcases this with rfl|rfl
   .exact fe
   .exact fi) (λb o _ f q=>U b o (λz=>f (by simp[z])) (λz=>f (by simp[z])) q) λb o _ f q=>⟨o.slots,U b o (λz=>f (by simp[z])) (λz=>f (by simp[z])) q⟩
  have I2:Inv X c A H {s with heap:=m,toks:=s.toks+1}:=I1.tok _;have n:m.get? s.heap.objs.size=aA {cls:=.type "tuple",data:=.seq #[.int i s.toks,u]}:=(g.2 _ (hS t)).trans ht;have V:H s.heap.objs.size=aE:=I.hok.fresh (bD _);have fn:=xV (I.fpOk (bD _) V);have I3:Inv X c A (upd H s.heap.objs.size (.tup [.int i,x])) {s with heap:=m,toks:=s.toks+1}:=vz I2 fn.1 fn.2 (show aZ X.prog X.w _ m _ (.tup [.int i,x]) from ⟨by rw[eG];simp,[.int i s.toks,u],.cons ⟨_,rfl⟩ (.cons ru .nil),⟨_,n,rfl,_,rfl⟩⟩);refine⟨.ref s.heap.objs.size,_,I3,rfl,⟨s.heap.objs.size,x,V,rfl,rfl,λys hy=>by rw[I.list_inj hy B];exact G⟩,⟨⟨u,Q⟩,r.at λo q=>(g.2 it (bW y)).trans q⟩,λb f=>?_⟩;have:b=e\/b=it:=by simpa using f
  rcases this with rfl|rfl
  .rw[z7 (cX t)];exact fe.1.free
  .rw[z7 (cX M)];exact fi.1.free
 done:=by
  intro X S hw T R i c s A H E I C st N;subst S hw T;obtain⟨⟨d,j⟩,l⟩:=st;obtain⟨Z,B,G⟩:=N;obtain⟨F,D,p,hz⟩:=I.list B;obtain⟨f0,f1,f2,f3,f4,f5⟩:=C it (by simp);have hl:=D.length;exact wpAny_pyNext_enum_end (I.ok.hd R) j l p.isList (by simp;lia) λh' eb=>⟨rfl,I.turned (t':=s.toks) (λb o f e=>eb b o f e) f0 f1 f3 f4 f5⟩
 self:=λ_ _ _ _ _ st h=>let ⟨⟨d,j⟩,_⟩:=st;DV j h
noncomputable def k8:Int->List T->List T
 |_,[]=>[]
 |i,x::r=>.tup [.int i,x]::k8 (i+1) r
theorem kF:∀{xs:List T}{i:Int},(k8 i xs).length=xs.length
 |[],_=>rfl
 |x::r,i=>by simp[k8,kF]
theorem kJ:∀{xs:List T}{k:Int}{i:Nat}{t:T},(k8 k xs)[i]?=aA t->∃x,xs[i]?=aA x/\t=.tup [.int (k+i),x]
 |[],_,_,_,h=>by simp[k8] at h
 |x::r,k,0,t,h=>by
  have h:aA (T.tup [.int k,x])=aA t:=h;cases h;exact⟨x,rfl,by simp⟩
 |x::r,k,i+1,t,h=>by
  obtain⟨y,a,e⟩:=kJ (xs:=r) (k:=k+1) (i:=i) (t:=t) h;refine⟨y,a,?_⟩;rw[e,show k+((i+1:Nat):Int)=k+1+i by lia]
abbrev B0(t:T)(μ:Mem):RI:=match t with
 |.lst a=>.ok (k8 0 a) gW μ
 |.mut i=>λK _=>∃a,μ[i]?=aA (.lst a)/\K (k8 0 a) (iQ i a) μ
 |_=>.st
abbrev Yz(f:De):Di:=λa b=>(f a b).it B0
section
variable {X:Cx}{D:DP}{W:XW}{Γ:Cn}{k:Nat}{pins:List (aF×bF)}{s:Shared}{σ:St}{H:Hp}{φ α:List aF}{τ:Sl}{μ:Mem}{f:De}{a:aI}{pos:Pos}
theorem JH{K:bO}{ad:aF}:iF D (BQ K ad) (λφ α H=>(∃vs,Rd H ad (.lst vs)/\aM D φ α H xs vs)/\(∀p,H p=aE->p∉φ/\p∉α)) (k8 0 xs):=
 ⟨λi φ α H ⟨⟨vs,ok,l⟩,_⟩ a=>by
  have a:i<vs.length:=by rw[<-l.length,<-kF (i:=0)];exact a
  exact⟨vs,vs[i],.inl ok,by simp⟩,λi φ α H v j t ⟨⟨vs,ok,l⟩,fr⟩ a y=>by
  obtain⟨p,z,b,rfl,rfl,g⟩:=y;obtain⟨x,h,rfl⟩:=kJ a;obtain⟨v,f,d⟩:=l.get h;have e:=g vs (.inl ok);rw[e] at f;cases f;have c:kL H (upd H p (.tup [.int i,z])):=zm b;refine⟨c,p,_,rfl,(fr p b).1,(fr p b).2,.inl z3,_,_,rfl,?_,_,_,rfl,d.step (aQ.new c),rfl⟩;show V.int _=V.int _;simp,λφ α H ⟨⟨vs,ok,l⟩,_⟩=>⟨vs,.inl ok,by rw[kF,l.length];exact bD _⟩⟩
theorem PD (C:Ck D W Γ X k) (hx:("enumerate":aH)∈Γ.G) (hg:Γ.gl "enumerate"=.none) (hs:aO a=aB) (ha:PE X a (aU D W f)) :
  PI X (.Tuple Q x1 tp) (.Call (.Name "enumerate" p0) [a] [] pos) (gM D W (Yz f)):=by
 have hm:=C.glo _ hx;rw[hg] at hm;rintro z s B H R I ⟨i,Y,τ,μ,sr,mr,p⟩;refine ij (wH I (C.glb _ hx) hm (show hV "enumerate"=aA (.type "enumerate") by decide +kernel) ?_ (by decide) (C.dbG _ hx));refine oF (aW (zK ha qL (z5 hs) pos z s B H (λx h=>∃v t g c,x=[v]/\aQ Y H c h/\aL D i c h g/\bA D i c h t v/\aJ D W i c h B (λp n o P=>∀J Ok,iF D J Ok p.1->sH D i o P p.1 p.2 Ok->p.2 n->R J P) (B0 t g).re) I ⟨i,Y,τ,μ,sr,mr,(show aJ D W i Y H B _ ((f τ μ).bind λt g=>(B0 t g).re) from p).bind.mono λt n o P st m q v d=>⟨v,t,n,o,rfl,st,m,d,q⟩⟩) ?_) (z5 hs) rfl;rintro us y ⟨x,h,L,rv,v,t,g,c,rfl,st,m,d,q⟩;obtain⟨u,rfl,r1⟩:=vals1 rv;have O:∀{ad:aF}{x:List V}{r:List T},u=.ref ad->Rd h ad (.lst x)->aM D i c h r x->R (BQ X.K ad) h->wpAny (aS X.prog X.w) X.A (call (.type "enumerate") [u]) (λv y=>wpAny (aS X.prog X.w) X.A (mM v) (pq X z B (.Tuple Q x1 tp) R) X.xe y) X.xe y:=λ{ad x r} hu q l hR=>by
  subst hu;obtain⟨its,rv2,pl,hz⟩:=L.list (.inl q);refine call_enumerate_list pl.isList λh' he hi hz' kp=>?_;refine DV he ?_;refine⟨y.heap.objs.size+1,[y.heap.objs.size+1,y.heap.objs.size],_,_,h,rfl,L.kept (t':=y.toks) kp,Ut ad _ _ (Nat.succ_ne_self _),⟨⟨_,he⟩,hi⟩,λb hb=>?_,hR⟩;have:b=y.heap.objs.size+1\/b=y.heap.objs.size:=by simpa using hb
  rcases this with rfl|rfl
  .exact L.fpOk (iK _) (L.hok.fresh (iK _))
  .exact L.fpOk (bD _) (L.hok.fresh (bD _))
 cases t with
 |lst ts=>
  obtain⟨ad,x,rfl,n1,n2,S,l⟩:=d;have E:aJ D W i c h B _ (RE.ok (k8 0 ts,gW) g):=q;refine O r1 S l (E.ok (aQ.refl _ _) m _ _ JH (λU o P n lk F _=>⟨?_,λp N=>⟨zr F N,zt F N⟩⟩) trivial);obtain⟨a',Z,e,_,_,q',l'⟩:=bA.lk lk (show bA D i c h (.lst ts) (.ref ad) from ⟨ad,x,rfl,n1,n2,S,l⟩);cases e;exact⟨Z,q',l'⟩
 | «mut» j=>
  obtain⟨ad,hj,rfl⟩:=d;have E:aJ D W i c h B _ (λK _=>∃r,g[j]?=aA (.lst r)/\K (k8 0 r,iQ j r) g):=q;obtain⟨r,M,E⟩:=E.ex1;obtain⟨x,S,l⟩:=m.ob j ad _ hj M;have E:aJ D W i c h B _ (RE.ok (k8 0 r,iQ j r) g):=E;refine O r1 (.inl S) l (E.ok (aQ.refl _ _) m _ _ JH (λU o P n lk F hl=>⟨?_,λp N=>⟨zr F N,zt F N⟩⟩) M);obtain⟨Z,q',l'⟩:=F.ob j ad _ (lk.st j ad hj) hl;exact⟨Z,.inl q',l'⟩
 |_=>exact aJ.elim q
end
theorem L9 (h:KS tg (.Call (.Name x p0) as j p)=aB) (a:(x != ("enumerate":aH)&&x != ("zip":aH))=aC):∃d x1 g,tg=.Tuple d x1 g:=by
 have h:((x != ("enumerate":aH)&&x != ("zip":aH)) || Uj tg)=aB:=h;rw[a] at h;exact Yc h
def G6:IR:=λr b e=>(k_ e).bind λq=>(yO q.as).bind λa=>gd (q.x==("enumerate":aH)) (gd ((cJ b.N q.x).isNone&&aO a) (gd (ir (b.look "enumerate")) ((r.e b a).bind λf=>aA (Yz f))))
theorem T8:mI D G6:=by
 intro r H X W o k t e d C b h;obtain⟨q,n,h⟩:=aR h;obtain⟨a,l,h⟩:=aR h;obtain⟨i,h⟩:=z9 h;obtain⟨j,h⟩:=z9 h;obtain⟨c,h⟩:=z9 h;obtain⟨f,m,h⟩:=aR h;cases h;have e0:=qQ n;rw[q_ l,qr i] at e0;rw[e0] at b ⊢;obtain⟨g,p,s,rfl⟩:=L9 b (by decide);exact PD C (zQ c).1 (zQ c).2 (zy j).2 (H.e C m)
end NH
namespace L2
open PySem PySem.Spec PyProof.Rows
section
variable {κ:Type}[DecidableEq κ]
noncomputable def vB(kvs:List (κ×V))(k:κ):Option V:=(kvs.find? λa=>decide (a.1=k)).map (·.2)
noncomputable def eH(kvs:List (κ×V))(k:κ)(v:V):List (κ×V):=
 if (kvs.any λa=>decide (a.1=k))=aB then kvs.map (λa=>if a.1=k then (a.1,v) else a) else kvs++[(k,v)]
noncomputable def yK(kvs:List (κ×V))(k:κ):List (κ×V):=kvs.filter λa=>decide (a.1≠k)
theorem yn{k:κ}(e:p.1=k):vB (p::r) k=aA p.2:=by simp[vB,n9,e]
theorem kj{k:κ}(e:¬p.1=k):vB (p::r) k=vB r k:=by simp[vB,n9,e]
theorem Je(kvs:List (κ×V))(k:κ)(v:V):(eH kvs k v).length<=kvs.length+1:=by
 unfold eH;split
 .rw[bJ];lia
 .rw[gK,gJ,ri];lia
theorem cQ.isSome_eq(r:cQ o u):o.isSome=u.isSome:=by
 cases o with
 |none=>cases u with
  |none=>rfl
  |some _=>exact (show False from r).elim
 |some _=>cases u with
  |none=>exact (show False from r).elim
  |some _=>rfl
theorem cQ.getD(r:cQ o u)(rd:RelV d d'):RelV (o.getD d) (u.getD d'):=by
 cases o with
 |none=>cases u with
  |none=>exact rd
  |some _=>exact (show False from r).elim
 |some _=>cases u with
  |none=>exact (show False from r).elim
  |some _=>exact r
theorem KV.val(r:KV kvs vs)(k:κ):cQ (vB kvs k) (i3 vs k):=by
 unfold KV at r;induction r with
 |nil=>exact gB
 | @cons p q ps a h t d=>
  obtain⟨h1,h2⟩:=h;by_cases e:p.1=k
  .have c:q.1=k:=h1.symm.trans e;have b:i3 (q::a) k=aA q.2:=by simp[i3,n9,c]
   rw[yn e,b];exact h2
  .have c:¬q.1=k:=λz=>e (h1.trans z);have b:i3 (q::a) k=i3 a k:=by simp[i3,n9,c]
   rw[kj e,b];exact d
theorem KV.any(r:KV kvs vs)(k:κ):(kvs.any λd=>decide (d.1=k))=vs.any λd=>decide (d.1=k):=by
 unfold KV at r;induction r with
 |nil=>rfl
 |cons h t a=>rw[ms,ms,a,h.1]
theorem KV.repl(r:KV kvs vs)(k:κ)(a:RelV y u) :
  KV (kvs.map λd=>if d.1=k then (d.1,y) else d) (vs.map λd=>if d.1=k then (d.1,u) else d):=by
 unfold KV at r ⊢;induction r with
 |nil=>exact .nil
 | @cons p q ps c h t b=>
  rw[c8,c8];refine .cons ?_ b;obtain⟨h1,h2⟩:=h;by_cases e:p.1=k
  .rw[if_pos e,if_pos (h1.symm.trans e)];exact⟨h1,a⟩
  .rw[if_neg e,if_neg (λz=>e (h1.trans z))];exact⟨h1,h2⟩
theorem KV.put(r:KV kvs vs)(k:κ)(a:RelV y u):KV (eH kvs k y) (stored vs k u):=by
 unfold eH stored;rw[r.any k];by_cases e:(vs.any λb=>decide (b.1=k))=aB
 .rw[if_pos e,if_pos e];exact r.repl k a
 .rw[if_neg e,if_neg e];exact Paired.snoc r ⟨rfl,a⟩
theorem KV.drop(r:KV kvs vs)(k:κ):KV (yK kvs k) (without vs k):=by
 unfold KV at r ⊢;unfold yK without;induction r with
 |nil=>exact .nil
 | @cons p q ps f h t c=>
  obtain⟨h1,h2⟩:=h;rw[nV,nV];by_cases e:p.1=k
  .have a:¬decide (p.1≠k)=aB:=by simp[e]
   have b:¬decide (q.1≠k)=aB:=by simp[h1.symm.trans e]
   rw[if_neg a,if_neg b];exact c
  .have d:¬q.1=k:=λz=>e (h1.trans z);have a:decide (p.1≠k)=aB:=by simp[e]
   have b:decide (q.1≠k)=aB:=by simp[d]
   rw[if_pos a,if_pos b];exact .cons ⟨h1,h2⟩ c
theorem KV.keys{kvs:List (κ×V)}(r:KV kvs vs):kvs.map (·.1)=vs.map (·.1):=by
 unfold KV at r;induction r with
 |nil=>rfl
 |cons h t a=>rw[c8,c8,a,h.1]
theorem KV.length{kvs:List (κ×V)}(r:KV kvs vs):kvs.length=vs.length:=DA r
theorem SK(kvs:List (κ×V))(k:κ):(yK kvs k).length<=kvs.length:=rD _ _
end
theorem yl{P:cI}(r:RelV (kV k) u):(zD P w).is k u=aB:=by
 cases k with
 |inl i=>obtain⟨t,e⟩:=(show ∃t,u=lJ i t from r);subst e;exact Kk P w i t
 |inr x=>obtain⟨t,e⟩:=(show ∃t,u=mV x t from r);subst e;exact JA P w x t
section
variable {P:Program}{w:World}{H:Hp}{h:aV}{a:aF}
theorem L8(ok:dN P w H h)(e:Rd H a u):aZ P w H h a u:=e.ok ok
def sG (H:Hp)(a:aF)(kvs:List (Key×V)):Prop:=Rd H a (.dK kvs)\/∃ep,H a=aA (.dE ep kvs)
theorem jH(ok:dN P w H h)(e:sG H a kvs):kvs.length<=sizeLine/\(a==gS)=aC/\∃vs,KV kvs vs/\h.DictOf (zD P w) a vs:=by
 rcases e with e|⟨ep,e⟩
 .exact show aZ P w H h a (.dK kvs) from L8 ok e
 .obtain⟨z,y,vs,r,d⟩:=(show aZ P w H h a (.dE ep kvs) from ok a _ e);exact⟨z,y,vs,r,d.dictOf⟩
theorem Ma(ok:dN P w H h)(e:Rd H a (.dK kvs)):kvs.length<=sizeLine/\(a==gS)=aC/\∃vs,KV kvs vs/\h.DictOf (zD P w) a vs:=jH ok (.inl e)
theorem B3(ok:dN P w H h)(e:H a=aA (.dK kvs)):kvs.length<=sizeLine/\(a==gS)=aC/\∃vs,KV kvs vs/\h.DictOf (zD P w) a vs:=Ma ok (.inl e)
end
def eI (H:Hp)(a:aF)(y:V)(r:Option V):Prop:=∃b k,sG H a b/\y=kV k/\r=vB b k
def lA (H:Hp)(a:aF)(y v:V)(c:Hp):Prop:=∃b k,(H a=aA (.dK b)\/∃ep,H a=aA (.dE ep b))/\y=kV k/\b.length<sizeLine/\c=upd H a (.dK (eH b k v))
theorem eI.k{k:Key}(e:H a=aA (.dK kvs)):eI H a (kV k) (vB kvs k):=⟨kvs,k,.inl (.inl e),rfl,rfl⟩
theorem lA.k{k:Key}(e:H a=aA (.dK kvs))(b:kvs.length<sizeLine):lA H a (kV k) v (upd H a (.dK (eH kvs k v))):=⟨kvs,k,.inl e,rfl,b,rfl⟩
section
variable {X:Cx}{pins:List (aF×bF)}{σ:St}{H:Hp}{s:Shared}{a:aF}{y v:V}{u r:aD}{o:Option V}{A:Around}{E:aD->Shared->Prop}
theorem Inv.big(I:Inv X pins σ H s):gS<s.heap.objs.size:=by
 have h:bT<s.heap.objs.size:=(I.mod.glob.keeps I.bk).lt;exact tf (by decide) h
theorem UB(m:A.units+1<cLine)(I:Inv X pins σ H s)(g:eI H a y (aA v))(f:RelV y u)(h:∀d j,Inv X pins σ H j->RelV v d->Q d j) :
  wpAny (aS X.prog X.w) A (mR (.ref a) u) Q E s:=by
 obtain⟨i,k,e,rfl,l⟩:=g;obtain⟨z,hd,c,rel,dd⟩:=jH I.hok e;obtain⟨d,hw,b⟩:=cQ.some_of (v:=v) (o:=i3 c k) (by rw[l];exact rel.val k);exact wpAny_getItem_of (yl f) dd.mapOf hw (h d _ (I.tok _) b)
theorem Ly(i:A.units+1<cLine)(I:Inv X pins σ H s)(g:eI H a y o)(b:RelV y u)(h:∀d,Inv X pins σ H d->Q (.bool o.isSome) d) :
  wpAny (aS X.prog X.w) A (fC .In u (.ref a)) Q E s:=by
 obtain⟨c,k,e,rfl,l⟩:=g;obtain⟨z,hd,f,rel,dd⟩:=jH I.hok e;refine wpAny_in_of (yl b) hd dd.mapOf ?_;rw[<-(rel.val k).isSome_eq,<-l];exact h _ (I.tok _)
theorem RH(i:A.units+1<cLine)(I:Inv X pins σ H s)(g:eI H a y o)(b:RelV y u)(h:∀d,Inv X pins σ H d->Q (.bool (!o.isSome)) d) :
  wpAny (aS X.prog X.w) A (fC .NotIn u (.ref a)) Q E s:=by
 obtain⟨c,k,e,rfl,l⟩:=g;obtain⟨z,hd,f,rel,dd⟩:=jH I.hok e;refine wpAny_notIn_of (yl b) hd dd.mapOf ?_;rw[<-(rel.val k).isSome_eq,<-l];exact h _ (I.tok _)
theorem VN(I:Inv X pins σ H s)(c:pw (H a))(hs:fR a s.heap h')(he:∃q,h'.get? a=aA q)(new:aZ X.prog X.w (upd H a ob) h' a ob) :
  Inv X pins σ (upd H a ob) {s with heap:=h',toks:=t'}:=
 I.write (x:=a) (e:=a) c (.inl rfl) (λb q d z=>(hs.2 b d).trans z) he new
theorem G3{P:cI}(z:kvs.length<=sizeLine)(hd:(a==gS)=aC)(rel:KV kvs vs)(dd:h'.DictOf (zD P w) a vs) :
  aZ P w d h' a (.dK kvs):=⟨z,hd,vs,rel,dd⟩
theorem Uf(C:A.units+1<cLine)(I:Inv X pins σ H s)(g:lA H a y v B)(i:RelV y u)(j:RelV v r)(h:∀d,Inv X pins σ B d->Q () d) :
  wpAny (aS X.prog X.w) A (setItem (.ref a) u r) Q E s:=by
 obtain⟨b,k,e,rfl,l,rfl⟩:=g;obtain⟨z,hd,f,rel,dd⟩:=jH I.hok (e.imp .inl id);have m:f.length<=sizeLine:=by rw[<-rel.length];exact z
 have p:(eH b k v).length<=sizeLine:=by have:=Je b k v;lia
 refine wpAny_setItem_pairs (hsz:=m) (yl i) dd λx c n=>h _ ?_;have t:∃q,x.get? a=aA q:=let ⟨q,_,_,o,_⟩:=c;⟨q,o⟩;exact VN I (by rcases e with e|⟨ep,e⟩<;>rw[e]<;>exact gB) n t (G3 p hd (rel.put k j) c)
end
section
variable {X:Cx}{pins:List (aF×bF)}{σ:St}{H:Hp}{s:Shared}{a:aF}{kvs:List (Key×V)}{k:Key}{u:aD}{A:Around}{E:aD->Shared->Prop}
theorem L_(I:Inv X pins σ H s)(e:H a=aA (.dK kvs))(c:RelV (kV k) u)(l:vB kvs k=aA v)(m:d=[]\/∃x,d=[x])
  (h:∀g r,Inv X pins σ (upd H a (.dK (yK kvs k))) r->RelV v g->Q g r):wpAny (aS X.prog X.w) A (call (.builtin "dict.pop") (.ref a::u::d)) Q E s:=by
 obtain⟨z,hd,j,rel,dd⟩:=B3 I.hok e;obtain⟨g,hw,f⟩:=cQ.some_of (v:=v) (o:=i3 j k) (by rw[<-l];exact rel.val k);have y:(keyPart u).isSome=aB:=by
  cases k with
  |inl i=>obtain⟨t,q⟩:=(show ∃t,u=lJ i t from c);subst q;rfl
  |inr x=>obtain⟨t,q⟩:=(show ∃t,u=mV x t from c);subst q;rfl
 have C:argsOk "dict.pop" ⟨.ref a::u::d,[]⟩:=by
  rcases m with q|⟨x,q⟩
  .subst q;exact PySem.F.args_dict_pop_2 _ _
  .subst q;exact E_ _ _ _
 refine nO ws dd.typeIs EE C (meets_dict_pop_there (zD X.prog X.w) a (yl c) d m y)
  ⟨j,g,dd,by rw[<-rel.length];exact z,hw,λD b n=>h g _ ?_ f⟩
 have B:∃q,D.get? a=aA q:=let ⟨q,_,_,p,_⟩:=b;⟨q,p⟩;exact VN I (by rw[e];exact gB) n B (G3 (dG (SK kvs k) z) hd (rel.drop k) b)
theorem OG(I:Inv X pins σ H s)(e:H a=aA (.dK kvs))(b:RelV (kV k) u)(l:vB kvs k=aE)(h:∀d,Inv X pins σ H d->Q r d) :
  wpAny (aS X.prog X.w) A (call (.builtin "dict.pop") [.ref a,u,r]) Q E s:=by
 obtain⟨z,hd,c,rel,dd⟩:=B3 I.hok e;have g:i3 c k=aE:=cQ.none_of (by rw[<-l];exact rel.val k);have f:(keyPart u).isSome=aB:=by
  cases k with
  |inl i=>obtain⟨t,q⟩:=(show ∃t,u=lJ i t from b);subst q;rfl
  |inr x=>obtain⟨t,q⟩:=(show ∃t,u=mV x t from b);subst q;rfl
 exact nO ws dd.typeIs EE (E_ _ _ _) (meets_dict_pop_default (zD X.prog X.w) a (yl b) hd f r) ⟨c,dd,g,h _ (I.tok _)⟩
theorem G2(I:Inv X pins σ H s)(e:H a=aA (.dK kvs)):∃ep,Inv X pins σ (upd H a (.dE ep kvs)) s:=by
 obtain⟨z,hd,b,rel,dd⟩:=B3 I.hok e;obtain⟨ep,da⟩:=dd.dictAt;obtain⟨o,es,c,_⟩:=id da;exact⟨ep,VN (s:=s) (h':=s.heap) (t':=s.toks) I (by rw[e];exact gB) ⟨rfl,λ_ _=>rfl⟩ ⟨o,c⟩ ⟨z,hd,b,rel,da⟩⟩
theorem L3(I:Inv X pins σ H s)(e:sG H a kvs)(h:∀t d,Inv X pins σ H d->Q (.int kvs.length t) d):wpAny (aS X.prog X.w) A (call (.builtin "len") [.ref a]) Q E s:=by
 obtain⟨z,hd,b,rel,dd⟩:=jH I.hok e;refine call_len_dict hd dd (by rw[<-rel.length];rw[eG] at z;lia) ?_;rw[<-rel.length];exact h _ _ (I.tok _)
end
noncomputable def AL(i:aI):Prop:=∀a b,pJ i aC a b=operate [a,b] (mR a b)
theorem VF{id:String} 
  (l:pO (.type T) "__getitem__"=pure (aA (.builtin id))) (hs:AL d)
  (h:wpAny (aS prog w) A (eval j env) (λo u=>wpAny (aS prog w) A (eval d env) (λi g=>g.TypeIs o T/\wpAny (aS prog w) A (mR o i) Q E g) E u) E s) :
  wpAny (aS prog w) A (eval (.Subscript j d pos) env) Q E s:=by
 refine Subscript_ (dY h (λo u f=>dY f (λi g a=>?_) λ_ _ x=>x) λ_ _ x=>x);obtain⟨k,a⟩:=a;unfold tR;refine wpAny_bind ?_;rw[getitemInPython_of_ne k.not_modules];refine wpAny_bind (wpAny_specialOf k l ?_);have c:wpAny (aS prog w) A (pJ d aC o i) (λr b=>wpAny (aS prog w) A (letTemporaryGo j o r >>= λ_=>pure r) Q E b) E g:=by
  rw[hs o i];exact wpAny_operating (dY a (λr b e=>wpAny_bind (wpAny_letTemporaryGo (wpAny_pure e))) λ_ _ x=>x)
 first
  |exact wpAny_pure (wpAny_bind c)
  |exact wpAny_bind (wpAny_pure (wpAny_bind c))
  |exact wpAny_bind c
theorem JB{X:Cx}{b:St}{H:Hp}{y:V}(I:Inv X d b H s)(g:eI H a y o):s.TypeIs (.ref a) "dict":=by
 obtain⟨c,k,e,_,_⟩:=g;obtain⟨_,_,f,_,dd⟩:=jH I.hok e;exact dd.typeIs
def Mf(d ty:TE):TE:=λb H Q=>d b H λx e=>ty b e λy c=>∃a v,x=.ref a/\eI c a y (aA v)/\Q v c
section
variable {X:Cx}{o i:aI}{pos:Pos}{td ty:TE}
theorem Rj(n:X.A.units+1<cLine)(ho:PE X o td)(hi:PE X i ty)(hs:AL i):PE X (.Subscript o i pos) (Mf td ty):=by
 intro b s d H Q I h;refine VF PySem.F.slot_dict_getitem.lookup hs (aW (ho b s d H _ I h) λu f ⟨x,t,q,k,m⟩=>aW (hi b f d t _ q m) λC B ⟨y,r,e,j,a,v,ex,g,l⟩=>?_);subst ex;obtain rfl:u=cN a:=k;exact⟨JB e g,UB n e g j λw z p c=>⟨v,r,p,c,l⟩⟩
end
theorem SF{P:cI}(h:aV)(hb:gS<h.objs.size):aZ P w H (h.push {cls:=.type "dict",data:=.dict #[]}) h.objs.size (.dK []):=
 ⟨hL _,beq_eq_false_iff_ne.mpr (bW (cX hb)),[],.nil,D5 h⟩
def Ov:TE:=λ_ H Q=>∀p,H p=aE->Q (.ref p) (upd H p (.dK []))
section
variable {X:Cx}{pos:Pos}
theorem Td:PE X (.Dict [] [] pos) Ov:=λb s c H Q I h=>
 wpAny_Dict_empty ⟨.ref s.heap.objs.size,_,I.laid (a:=s.heap.objs.size) (o:=.dK []) (t':=s.toks) (λ_ _ q=>bY _ q) (bD _) (SF s.heap I.big),rfl,h _ (I.hok.fresh (bD _))⟩
end
structure M1(X:Cx)(o:aI)(m:aH)(apos:Pos)(e:aI)(cpos:Pos):Prop where
 base:lU o m X.env (eval o X.env)=eval o X.env
 few:((eU cpos (dW [e] X.env)).all (λx=>!x.1)&&(i4 cpos (i_ [] X.env)).all (λx=>x.1.isSome)
  &&decide (([e]:List aI).length+([]:List hI).length+(if ([]:List hI).isEmpty then 0 else 1)<30))=aB
 line:(apos.endLine==cpos.line)=aB
 trees:eU cpos (dW [e] X.env)=[(aC,eval e X.env)]
structure M2(X:Cx)(o:aI)(m:aH)(apos:Pos)(e f:aI)(cpos:Pos):Prop where
 base:lU o m X.env (eval o X.env)=eval o X.env
 few:((eU cpos (dW [e,f] X.env)).all (λx=>!x.1)&&(i4 cpos (i_ [] X.env)).all (λx=>x.1.isSome)
  &&decide (([e,f]:List aI).length+([]:List hI).length+(if ([]:List hI).isEmpty then 0 else 1)<30))=aB
 line:(apos.endLine==cpos.line)=aB
 trees:eU cpos (dW [e,f] X.env)=[(aC,eval e X.env),(aC,eval f X.env)]
def sK (H:Hp)(a:aF):Prop:=∃b,sG H a b
theorem HS{c:St}{H:Hp}(I:Inv X g c H s)(d:sK H a) :
  s.TypeIs (.ref a) "dict"/\(∀b,cN a=.ref b->∃ob,s.heap.get? b=aA ob/\ob.dict=aE)/\(a==gS)=aC:=by
 obtain⟨f,e⟩:=d;obtain⟨_,hd,j,_,dd⟩:=jH I.hok e;refine⟨dd.typeIs,λb q=>?_,hd⟩;cases q;obtain⟨ob,_,_,i,h,_⟩:=dd;exact⟨ob,i,h.2.1⟩
section
variable {X:Cx}{pins:List (aF×bF)}{σ:St}{H:Hp}{s:Shared}{a:aF}{y d:V}{u r:aD}{o:Option V}{A:Around}{E:aD->Shared->Prop}
theorem OO(i:A.units+1<cLine)(I:Inv X pins σ H s)(g:eI H a y o)(b:RelV y u)(rd:RelV d r)(h:∀j B,Inv X pins σ H B->RelV (o.getD d) j->Q j B) :
  wpAny (aS X.prog X.w) A (call (.builtin "dict.get") [.ref a,u,r]) Q E s:=by
 obtain⟨c,k,e,rfl,l⟩:=g;obtain⟨z,hd,f,rel,dd⟩:=jH I.hok e;refine nO rC dd.typeIs ED (PySem.F.args_dict_get_3 _ _ _) (meets_dict_get_default (zD X.prog X.w) a (yl b) hd r) ⟨_,dd.mapOf,h _ _ (I.tok _) ?_⟩;rw[l];exact (rel.val k).getD rd
end
def Nv(f ty e:TE):TE:=λb H Q=>f b H λx d=>∃a,x=.ref a/\sK d a/\ty b d λy g=>e b g λz c=>∃o,eI c a y o/\Q (o.getD z) c
def M6(g ty f:TE):TE:=λc H Q=>g c H λx e=>∃a,x=.ref a/\sK e a/\ty c e λy h=>f c h λz d=>∃b k,d a=aA (.dK b)/\y=kV k/\
 (∀v,vB b k=aA v->Q v (upd d a (.dK (yK b k))))/\(vB b k=aE->Q z d)
section
variable {X:Cx}{o e f:aI}{apos cpos:Pos}{td ty tx:TE}
theorem TW (C:X.A.units+1<cLine) (ho:PE X o td) (he:PE X e ty) (D:PE X f tx) (m:M2 X o "get" apos e f cpos):PE X (.Call (.Attribute o "get" apos) [e,f] [] cpos) (Nv td ty tx):=by
 intro b s c H Q I h;refine wpAny_Call_method m.base m.few m.line rG rC Ey (aW (ho b s c H _ I h) λu p ⟨x,M,j,t,a,ex,d,B⟩=>?_);subst ex;obtain rfl:u=cN a:=t;obtain⟨l,k,_⟩:=HS j d;refine⟨l,k,?_⟩;rw[m.trees];refine ng rfl (m9 (mx (aW (he b p c M _ j B) λS n ⟨y,L,J,r,w⟩=>
  mx (aW (D b n c L _ J w) λfv P ⟨z,K,G,q,R,g,v⟩=>om ?_))))
 exact OO C G g r q λN O E i=>⟨_,K,E,i,v⟩
theorem R5 (ho:PE X o td) (he:PE X e ty) (L:PE X f tx) (m:M2 X o "pop" apos e f cpos):PE X (.Call (.Attribute o "pop" apos) [e,f] [] cpos) (M6 td ty tx):=by
 intro b s c H Q I h;refine wpAny_Call_method m.base m.few m.line rG ws PySem.F.type_dict_pop (aW (ho b s c H _ I h) λu B ⟨x,P,q,D,a,ex,d,K⟩=>?_);subst ex;obtain rfl:u=cN a:=D;obtain⟨t,r,_⟩:=HS q d;refine⟨t,r,?_⟩;rw[m.trees];refine ng rfl (m9 (mx (aW (he b B c P _ q K) λT A ⟨y,O,M,n,J⟩=>
  mx (aW (L b A c O _ M J) λfv S ⟨z,N,p,C,i,k,ea,ey,G,E⟩=>om ?_))))
 subst ey;cases l:vB i k with
 |some v=>exact L_ p ea n l (.inr ⟨fv,rfl⟩) λR w j g=>⟨v,_,j,g,G v l⟩
 |none=>exact OG p ea n l λw j=>⟨z,N,j,C,E l⟩
end
end L2
namespace NH
open PySem PySem.Spec PyProof.Rows L2
def ze(z:Key):List (Key×T)->Option T
 |[]=>aE
 |p::r=>if p.1=z then aA p.2 else ze z r
def jV (z:Key)(t:T)(kvs:List (Key×T)):List (Key×T):=
 if (kvs.any λa=>decide (a.1=z))=aB then kvs.map (λa=>if a.1=z then (a.1,t) else a) else kvs++[(z,t)]
abbrev Wg:De:=λ_ a=>.ok (.mut a.length) (a++[.dic []])
abbrev zbz(o f g:De):De:=λd h=>(o d h).bind λj c=>match j with
 |.mut i=>λK Z=>(∃a,c[i]?=aA (.lst a))/\f d c (λl e=>g d e (λt b=>match l with
  |.int k=>∃a,b[i]?=aA (.lst a)/\(0<=k/\k<=a.length/\a.length<aT)/\K .non (b.set i (.lst (a.take k.toNat++t::a.drop k.toNat)))
  |_=>False) Z) Z
 |_=>.st
section
variable {X:Cx}{D:DP}{W:XW}{σ:St}{H:Hp}{φ α:List aF}{τ:Sl}{μ:Mem}{pos:Pos}
theorem Ki:∀{kvs:List (Key×T)}{gs:List (Key×V)},bM D φ α H kvs gs->(gs.any λg=>decide (g.1=z))=(kvs.any λg=>decide (g.1=z))
 |[],_,h=>by cases h;rfl
 |p::r,_,h=>by
  obtain⟨v,q,rfl,d,l⟩:=h;rw[ms,ms,Ki l]
theorem qg:∀{kvs:List (Key×T)}{gs:List (Key×V)},bM D φ α H kvs gs->gs.length=kvs.length
 |[],_,h=>by cases h;rfl
 |p::r,_,h=>by
  obtain⟨v,q,rfl,d,l⟩:=h;rw[gJ,gJ,qg l]
theorem Qe(dt:bA D φ α H t w):∀{kvs:List (Key×T)}{gs:List (Key×V)},bM D φ α H kvs gs->bM D φ α H (kvs.map λg=>if g.1=z then (g.1,t) else g) (gs.map λg=>if g.1=z then (g.1,w) else g)
 |[],_,h=>by cases h;rfl
 |p::r,_,h=>by
  obtain⟨v,q,rfl,d,l⟩:=h;rw[c8,c8];by_cases e:p.1=z
  .rw[if_pos e,if_pos (show (p.1,v).1=z from e)];exact⟨w,_,rfl,dt,Qe dt l⟩
  .rw[if_neg e,if_neg (show ¬(p.1,v).1=z from e)];exact⟨v,_,rfl,d,Qe dt l⟩
theorem Wz(dt:bA D φ α H t w):∀{kvs:List (Key×T)}{gs:List (Key×V)},bM D φ α H kvs gs->bM D φ α H (kvs++[(z,t)]) (gs++[(z,w)])
 |[],_,h=>by cases h;exact⟨w,[],rfl,dt,rfl⟩
 |p::r,_,h=>by
  obtain⟨v,q,rfl,d,l⟩:=h;exact⟨v,_,rfl,d,Wz dt l⟩
theorem Jh(dt:bA D φ α H t w)(h:bM D φ α H kvs gs):bM D φ α H (jV z t kvs) (eH gs z w):=by
 unfold jV eH;rw[Ki h];split
 .exact Qe dt h
 .exact Wz dt h
theorem Ra:PE X (.Dict [] [] pos) (aU D W Wg):=by
 refine PE.mono Td ?_;rintro e H Q ⟨c,g,d,f,h,a,p⟩;intro x b;refine aJ.ok p (jB b) (a.layO b ⟨[],z3,rfl⟩) _ ⟨x,?_,rfl⟩;rw[<-a.len,fP (bD _)];simp
end
noncomputable def Fj:aI->Option (List (Option aI)×List aI×Pos)
 |.Dict b a p=>aA (b,a,p)
 |_=>aE
theorem PJ(h:Fj e=aA q):e=.Dict q.1 q.2.1 q.2.2:=by cases e<;>first|(cases h;rfl)|cases h
def HD:ER:=λ_ _ e=>(Fj e).bind λq=>gd (q.1.isEmpty&&q.2.1.isEmpty) (aA Wg)
theorem Uh:cR D HD:=by
 intro r H X W c k e d C h;obtain⟨q,b,h⟩:=aR h;obtain⟨a,h⟩:=z9 h;cases h;rw[PJ b,mn.mp (zy a).1,mn.mp (zy a).2];exact Ra
end NH
namespace NH.P
open PySem L2 NH
@[reducible] def Zt:List Ds:=[(zh (QB (yP [2] (eV 0)) (As (yP [1] (eV 0)))))]
def zP:Fn:=bI 1 0 Zt
@[reducible] def uJ:List Ds:=[(bL (fD (qh (tE (yP [3] (eV 0)))) (qh (tE (iS (eC (.int 1)) [(.LtE,(dX u4 (eV 0))),(.LtE,(eC (.int 8)))])))) [(zh (eC (.bl aC)))] []),(zh (dX Xy (w9 1 [] (.one 0) (iE (eV 0)) [] (zw .In (eV 0) (eC (.str "abcdefghijklmnopqrstuvwxyz"))))))]
def we:Fn:=bI 1 0 uJ
@[reducible] def WH:List Ds:=[(zh (QB (z4 zP [(eV 0)]) (zw .GtE (eV 0) (eC (.int 1)))))]
def wX:Fn:=bI 1 0 WH
@[reducible] def ZH:List Ds:=[(zh (QB (z4 zP [(eV 0)]) (iS (eC (.int 0)) [(.LtE,(eV 0)),(.Lt,(eV 1))])))]
def qE:Fn:=bI 2 0 ZH
@[reducible] def yB:List Ds:=[(bL (qh (jU (tE (z4 wX [(eV 1)])) (jU (tE (z4 wX [(eV 2)])) (tE (z4 wX [(eV 3)]))))) [(zH 12 [(eC (.str "a shape has three whole numbers from 1 on"))])] []),(zM (eV 0) 0 (eV 1)),(zM (eV 0) 1 (eV 2)),(zM (eV 0) 2 (eV 3))]
def jo:Fn:=bI 4 0 yB
@[reducible] def Z_:List Ds:=[(zh (zd .Mult (zd .Mult (za (eV 0) 0) (za (eV 0) 1)) (za (eV 0) 2)))]
def yq:Fn:=bI 1 0 Z_
@[reducible] def Wn:List Ds:=[(zh (z4 qE [(eV 1),(z4 yq [(eV 0)])]))]
def jj:Fn:=bI 2 0 Wn
@[reducible] def yz:List Ds:=[(bL (qh (tE (z4 jj [(eV 0),(eV 1)]))) [(zH 13 [(eC (.str "no name of the shape"))])] [])]
def wa:Fn:=bI 2 0 yz
@[reducible] def uF:List Ds:=[(bL (tE (zw .Lt (eV 1) (dX u4 (eV 0)))) [(zh (aX (eV 0) (eV 1)))] []),(zh (eC (.int 0)))]
def ve:Fn:=bI 2 0 uF
@[reducible] def Qz:List Ds:=[(zB (z4 wa [(eV 0),(eV 1)])),(zp 2 (zd .Mod (eV 1) (za (eV 0) 2))),(zp 3 (zd .FloorDiv (eV 1) (za (eV 0) 2))),(zh (wD [(zd .FloorDiv (eV 3) (za (eV 0) 1)),(zd .Mod (eV 3) (za (eV 0) 1)),(eV 2)]))]
def qM:Fn:=bI 2 2 Qz
end NH.P
namespace NH
open PySem PySem.Spec PyProof.Rows L2
abbrev HW:Ds:=λ_ _=>cM.st
def GR:SR:=λ_ _ _=>aA HW
theorem S1:nA D GR:=by
 intro r H X W j k e d C h;cases h;rintro a s f H E I ⟨b,i,c,g,l,m,Q,q,_⟩;exact q.elim
section
variable {X:Cx}{D:DP}{k:Nat}{pins:List (aF×bF)}{s:Shared}{σ:St}{H:Hp}{φ α:List aF}{μ:Mem}
theorem yL(I:Inv X pins σ H s)(h1:s.heap.get? q=aA o)(h2:H q=aE)(d:q≠X.env.locals)(c:q∉X.fs)(b:∀v,o.data≠.cell v):Inv X ((q,o)::pins) σ H s:=
 ⟨I.ok,I.os,I.bare,I.base,I.loc,I.cell,I.free,I.freeC,λp a=>by
  rcases b_.mp a with z|z
  .exact I.pin p (eY _ z)
  .rcases cK.mp z with rfl|z
   .exact⟨h1,h2,d,c,b⟩
   .exact I.pin p (dH _ z),I.hok,I.len⟩
theorem wc(I:Inv X (p::pins) σ H s):Inv X pins σ H s:=
 ⟨I.ok,I.os,I.bare,I.base,I.loc,I.cell,I.free,I.freeC,λp a=>by
  rcases b_.mp a with z|z
  .exact I.pin p (eY _ z)
  .exact I.pin p (dH _ (cW _ z)),I.hok,I.len⟩
theorem Y_{P:cI}(r:h.CodeRec (.ref c) qn):aZ P w H h c (.ext (w6 c qn)):=by
 obtain⟨k,a,e,f,d,b,i,g⟩:=id r;cases d;refine⟨r,⟨a,b⟩,λm l p j=>?_⟩;obtain⟨k,a,e,f,d,b,i,g⟩:=p;cases d;exact⟨c,a,e,f,rfl,j _ b,i,g⟩
theorem yX{a b:aD}:∀(l:List aD),TriplesOk l->∀{x y:Int}{t u:Tok},TriplesOk (l++[.int x t,.int y u,c])
 |[],_,_,_,_,_=>trivial
 |[_],h,_,_,_,_=>by simp[TriplesOk] at h
 |[_,_],h,_,_,_,_=>by simp[TriplesOk] at h
 |p::q::r::l,h,x,y,t,u=>by
  cases p with
  |int _ _=>
   cases q with
   |int _ _=>exact yX (a:=a) (b:=b) l h
   |_=>exact h.elim
  |_=>exact h.elim
theorem Xj:∀(l:List aD),TriplesOk l->i6 pos l=aE->i6 p (l++[cV pos.line,cV pos.col,c])=aA c\/i6 p (l++[cV pos.line,cV pos.col,c])=i6 p l:=by
 intro l h d;fun_induction TriplesOk l with
 |case1=>
  by_cases q:((pos.line:Int)==(p.line:Int)&&(pos.col:Int)==(p.col:Int))=aB
  .left;simp only[rh,i6,cV];rw[if_pos q]
  .right;simp only[rh,i6,cV];rw[if_neg q]
 |case2 a t b u x rest e=>
  simp only[nW,i6] at d ⊢
  split at d
  .cases d
  .split
   .exact .inr rfl
   .exact e h d
 |case3 l g f=>exact h.elim
theorem Kh{ob:aF->aD->aD->bF}{i j:Nat}{qn:aH}{c P:aF}(I:Inv X pins σ H s)(l:aL D φ α H μ)(hi:μ[i]?=aA (.tab j))(hD:D.tabs j=aA (P,E,qn))(hpp:pos∈E)
  (hC:lN X.base c P) (hB:X.base.BuiltinsAt X.mg P) (C:∀a b d,(ob a b d).isFreed=aC/\∀v,(ob a b d).data≠.cell v)
  (U:∀{ps:Array aD}{Q:aD->bB->Prop},s.heap.Ns bT X.mg->lN s.heap c P->s.heap.get? P=aA (mv ps)->TriplesOk ps.toList->i6 pos ps.toList=aE->bT≠P->s.heap.BuiltinsAt X.mg P->(∀(f:aF) (g doc:aD) (h':aV) (tk:Tok),Heap.ExtBut P s.heap h'->s.heap.objs.size<=f->f<h'.objs.size->h'.CodeRec (.ref f) qn->h'.get? P=aA (mv (ps++#[cV pos.line,cV pos.col,.ref f]))->Q (.ref h'.objs.size) {s with heap:=h'.push (ob f g doc),toks:=tk})->wpAny (aS X.prog X.w) X.A t0 Q X.xe s)
  (hit:∀{ps:Array aD}{f:aF}{Q:aD->bB->Prop},s.heap.Ns bT X.mg->lN s.heap c P->s.heap.get? P=aA (mv ps)->TriplesOk ps.toList->i6 pos ps.toList=aA (.ref f)->s.heap.BuiltinsAt X.mg P->(∀(g doc:aD) (h':aV) (tk:Tok),(∀b o,s.heap.get? b=aA o->h'.get? b=aA o)->s.heap.objs.size<=h'.objs.size->Q (.ref h'.objs.size) {s with heap:=h'.push (ob f g doc),toks:=tk})->wpAny (aS X.prog X.w) X.A t0 Q X.xe s)
  (h:∀q f g doc r s',Inv X ((q,ob f g doc)::pins) σ r s'->aQ α H α r->aL D φ α r μ->f∉α->r f=aA (.ext (w6 f qn))->(f∉φ/\dF X r q/\∀p∈pins,p.1≠q)->Q (.ref q) s') :
  wpAny (aS X.prog X.w) X.A t0 Q X.xe s:=by
 have hia:∃a,α[i]?=aA a:=⟨_,fO (by rw[l.len];exact (bE.mp hi).1)⟩;obtain⟨a,ha⟩:=hia;obtain⟨pos',qn',ps,hD',t,B,F⟩:=l.ob i a _ ha hi;rw[hD] at hD';cases hD';have M:=F pos hpp;have hP:s.heap.get? P=aA (mv ps):=I.hok P _ t;have hg:s.heap.Ns bT X.mg:=I.ok.mod.glob.keeps I.bk;have hCs:lN s.heap c P:=hC.keeps I.bk;have hBs:s.heap.BuiltinsAt X.mg P:=by
  obtain⟨bm,o,b1,b2,b3,b4,b5,b6⟩:=hB;exact⟨bm,o,b1,b2,b3,b4,I.bk _ _ b5,b6⟩
 have hPa:P∈α:=bK ha;have nL:X.env.locals≠P:=λz=>by have:=I.free;rw[z,t] at this;cases this
 rcases M with y|⟨f,hhit,n1,n2,hc'⟩
 .have hgP:bT≠P:=λz=>by
   obtain⟨o,es,ep,e,hd,_⟩:=hg;rw[z,hP] at e;cases e;cases hd
  refine U hg hCs hP B y hgP hBs λf g doc h' tk V L Z Y K=>?_;have k:H f=aE:=I.hok.fresh L;have hcP:f≠P:=λz=>by rw[z,t] at k;cases k
  have qP:∀{b o},s.heap.get? b=aA o->b≠f:=λ{b o} e z=>absurd (dC (bX e) L) (by rw[z];exact iM _);generalize N:upd (upd H f (.ext (w6 f qn))) P (.tbl (ps++#[cV pos.line,cV pos.col,.ref f]))=r;have HP:r P=aA (.tbl (ps++#[cV pos.line,cV pos.col,.ref f])):=by rw[<-N];exact z3
  have Hc:r f=aA (.ext (w6 f qn)):=by rw[<-N,z7 hcP];exact z3
  have Ho:∀b,b≠P->b≠f->r b=H b:=λb h1 h2=>by rw[<-N,z7 h1,z7 h2]
  have G:∀b o,b≠P->H b=aA o->r b=aA o:=λb o h1 e=>by rw[Ho b h1 (zU e k)];exact e
  have T:(h'.push (ob f g doc)).CodeRec (.ref f) qn:=by
   obtain⟨c2,oc,vs,tq,R,e2,e3⟩:=Y;exact⟨c2,oc,vs,tq,R,bY _ e2,e3⟩
  have J:Inv X pins σ r {s with heap:=h'.push (ob f g doc),toks:=tk}:=by
   refine I.step (g':=s.gens) (d':=s.drawn) (ch:=[]) (λ_ z=>nomatch z) (λb o _ _ _ e n=>?_) (λb o _ _ _ e n=>⟨o.slots,?_⟩) (λb o _ e n=>?_) (λb o _ e=>?_) (λb xs e=>?_) (λb o u e=>?_) (λb qs e=>?_) (λm hm=>?_) (λb u e=>?_) I.bare
   .exact bY _ (V b o (λz=>by rw[z,t] at n;cases n) e)
   .exact bY _ (V b o (λz=>by rw[z,t] at n;cases n) e)
   .rw[Ho b (λz=>by rw[z,t] at n;cases n) (qP e)];exact n
   .by_cases z:b=P
    .rw[z];exact⟨_,bY _ K⟩
    .exact⟨o,bY _ (V b o z e)⟩
   .exact G b _ (λz=>by rw[z,t] at e;cases e) e
   .exact G b _ (λz=>by rw[z,t] at e;cases e) e
   .by_cases z:b=P
    .rw[z,t] at e;cases e;rw[z];exact⟨_,HP⟩
    .exact⟨#[],by rw[G b _ z e];simp⟩
   .exact (hm.extBut V nL).push _
   .by_cases z:b=P
    .subst z;rw[HP] at e;cases e;exact bY _ K
    .by_cases S:b=f
     .subst S;rw[Hc] at e;cases e;exact Y_ T
     .rw[Ho b z S] at e;refine (I.hok b u e).stay (λc v O q=>?_) (λc q=>?_) λc xs q=>?_
      .refine bY _ (V c v (λw=>?_) q);rcases O with O|O
       .exact z (O▸w)
       .rw[w,t] at O;cases O
      .exact G c _ (λw=>by rw[w,t] at q;cases q) q
      .exact G c _ (λw=>by rw[w,t] at q;cases q) q
  have fresh:s.heap.objs.size<=h'.objs.size:=i8 (t5 L Z);have hqP:h'.objs.size≠P:=λz=>absurd (bX K) (by rw[<-z];exact iM _);have hqc:h'.objs.size≠f:=hS Z;have nq:r h'.objs.size=aE:=by rw[Ho _ hqP hqc];exact I.hok.fresh fresh
  have st:aQ α H α r:=⟨⟨[],by simp,by simp⟩,λb o n e=>G b o (λz=>n (z▸hPa)) e,λb e=>by
   by_cases z:b=P
   .rw[z,HP] at e;cases e
   .by_cases S:b=f
    .rw[S];exact k
    .rw[Ho b z S] at e;exact e⟩
  refine h h'.objs.size f g doc r _ (yL J (eK _ (C _ _ _).1) nq (hS (dC I.lt fresh)) (I.nofs fresh) (C _ _ _).2) st ?_ (zt l k) Hc ⟨zr l k,xV (I.fpOk fresh nq)⟩;refine⟨l.len,l.nd,l.dis,λb hb=>?_,λi' a' o' R e2=>?_⟩
  .obtain⟨u,hu,n⟩:=l.phi b hb;exact⟨u,st.keep b u (λz=>l.dis b z hb) hu,n⟩
  .by_cases z:i'=i
   .subst z;rw[ha] at R;cases R;rw[hi] at e2;cases e2;refine⟨E,qn,_,hD,HP,?_,λp2 hp2=>?_⟩
    .rw[EM];exact yX (a:=.none) (b:=.none) _ B
    .rw[EM];rcases Xj (p:=p2) (c:=.ref f) _ B y with w|w
     .exact .inr ⟨f,w,zr l k,zt l k,Hc⟩
     .rw[show (#[cV pos.line,cV pos.col,.ref f]:Array aD).toList=[cV pos.line,cV pos.col,.ref f] from rfl,w];refine (F p2 hp2).imp id λ⟨c2,k1,k2,k3,k4⟩=>⟨c2,k1,k2,k3,?_⟩;exact G c2 _ (λz=>k3 (z▸hPa)) k4
   .have ne:a'≠P:=λw=>by
     obtain⟨q1,q2⟩:=bE.mp R;obtain⟨q3,q4⟩:=bE.mp ha;exact z ((nZ l.nd).mp (q2.trans (w.trans q4.symm)))
    have d:=l.ob i' a' o' R e2;obtain⟨u,hu,_⟩:=d.some;exact d5.step st ((G a' u ne hu).trans hu.symm) d
 .refine hit hg hCs hP B hhit hBs λg doc h' tk hk x=>?_;have J:Inv X pins σ H {s with heap:=h'.push (ob f g doc),toks:=tk}:=I.kept λb u e=>bY _ (hk b u e);exact h h'.objs.size f g doc H _ (yL J (eK _ (C _ _ _).1) (I.hok.fresh x) (hS (dC I.lt x)) (I.nofs x) (C _ _ _).2) (aQ.refl _ _) l n2 hc' ⟨n1,xV (I.fpOk x (I.hok.fresh x))⟩
theorem JG{params:Arguments}{body:aI}{line i j:Nat}{qn:aH}{c P:aF}{Q:aD->bB->Prop}(I:Inv X pins σ H s)(C:aL D φ α H μ)(hi:μ[i]?=aA (.tab j))(G:D.tabs j=aA (P,u,qn))(n:pos∈u)
  (a:X.env.code=.ref c) (J:lN X.base c P) (K:X.base.BuiltinsAt X.mg P) (l:mT scope X.env=pure cl)
  (h:∀q g d r B,Inv X ((q,mj "<lambda>" qn params body scope cl ((X.mg "__name__").getD .none) g d)::pins) σ r B->aQ α H α r->aL D φ α r μ->g∉α->r g=aA (.ext (w6 g qn))->(g∉φ/\dF X r q/\∀p∈pins,p.1≠q)->Q (.ref q) B) :
  wpAny (aS X.prog X.w) X.A (pL "<lambda>" qn params (.expr body) scope X.env [] [] [] pos line) Q X.xe s:=by
 exact Kh (ob:=λg d _=>mj "<lambda>" qn params body scope cl ((X.mg "__name__").getD .none) g d) I C hi G n J K (λ_ _ _=>⟨rfl,λv z=>by cases z⟩) (λt e x b E o f k=>PySem.W.kla_makeFunction (mg:=X.mg) l I.ok.glob t a e x b E o f λg d y m=>k g d .none y m) (λt e x b F f k=>PySem.W.kla_makeFunctionHit (mg:=X.mg) l I.ok.glob t a e x b F f λd y m=>k d .none y m) λq g d _ r B=>h q g d r B
theorem T0{params:Arguments}{body:List bG}{pos:Pos}{line i j:Nat}{qn:aH}{c P:aF}{Q:aD->bB->Prop}(I:Inv X pins σ H s)(t:aL D φ α H μ)(hi:μ[i]?=aA (.tab j))(E:D.tabs j=aA (P,u,qn))(l:pos∈u)
  (a:X.env.code=.ref c) (F:lN X.base c P) (G:X.base.BuiltinsAt X.mg P) (f:mT scope X.env=pure cl)
  (h:∀q r g doc B C,Inv X ((q,DE name qn params body scope cl doc ((X.mg "__name__").getD .none) r g)::pins) σ B C->aQ α H α B->aL D φ α B μ->r∉α->B r=aA (.ext (w6 r qn))->(r∉φ/\dF X B q/\∀p∈pins,p.1≠q)->Q (.ref q) C) :
  wpAny (aS X.prog X.w) X.A (pL name qn params (.stmts body) scope X.env [] [] [] pos line) Q X.xe s:=
 Kh (ob:=λr g doc=>DE name qn params body scope cl doc ((X.mg "__name__").getD .none) r g) I t hi E l F G (λ_ _ _=>⟨rfl,λv z=>by cases z⟩) (λn d o b x m e k=>PySem.W.makeFunction_K (mg:=X.mg) f I.ok.glob n a d o b x m e k) (λn d o b y e k=>PySem.W.makeFunction_hit (mg:=X.mg) f I.ok.glob n a d o b y e k) h
end
section
variable {X:Cx}{D:DP}{W:XW}{Γ:Cn}{k:Nat}
noncomputable abbrev yx(Γ:Cn)(x:aH)(G:List aH):Cn:={Γ with N:=[x],G:=G,U:=G,cel:=[],own:=[],lam:=aE,fz:=[]}
noncomputable def oR:GM->Bool
 |.cst _=>aB
 |.none=>aB
 |.xcl _=>aB
 |_=>aC
theorem cC.lvl{P:cI}{K:bO}(h:oR g=aB)(q:cC D P w K mg base j x g):cC D P w K mg base k x g:=by
 cases g<;>first|exact q|cases h
theorem Ss{params:Arguments}{body:aI} 
    (C:Ck D W Γ X k) (hc:Γ.calm=aB) (hG:G.all (λy=>Γ.U.contains y&&oR (Γ.gl y))=aB) (hs:yQ (yx Γ x G) [x] scope=aB) (hE:∀Y W k, Ck D W (yx Γ x G) Y k->PE Y body (aU D W g)) (L:∀(s:bB) (u:aD), l_ s (tI "<lambda>" qn params body scope [] pm (.ref c') ctv) ⟨[u], []⟩ [(x, u)])
    (hr:bZ (k0+1) A) (e0:dZ X.prog X.w X.K X.mg X.base A outer s H) (ho:s.heap.get? q=aA (mj "<lambda>" qn params body scope [] pm c' ctv)) (O:s.heap.CodeRec (.ref c') qn) (r:RelV v u) (d:bA D φ α H t v) (mr:aL D φ α H μ)
 (p : g [aA t] μ K0 (fun _ _ _ => False)) (T : ∀ t' μ', K0 t' μ' -> ∀ M H' v', aQ α H M H' -> aL D φ M H' μ' -> bA D φ M H' t' v' -> Q v' H') :
    gz (aS X.prog X.w) A (.call (.ref q) ⟨[u], []⟩) (CR (λ_ _ _ _ _ _=>False) outer X.prog X.w H s Q (λ_ _ _=>False)) s:=by
  simp only[yQ, cO, f6, beq_iff_eq, oi, decide_eq_true_eq, bne_iff_ne, ne_eq] at hs;obtain⟨⟨⟨⟨⟨⟨⟨⟨⟨h1, h2⟩, h3⟩, h4⟩, h5⟩, h6⟩, V⟩, h8⟩, h9⟩, h10⟩:=hs;have l:∀y∈[x], scope.names.lookup y=aA .local:=λy j=>by
    have:=(V y j).2;simpa using this
  have S:dT [x] [x] scope:=⟨h1, h2, h3, h4, rfl, λy j=>.inl (l y j), h6⟩;have R:s.heap.NoLimit:=e0.mod.nolimit.keeps λb o e=>(e0.bs b o e).1;refine EU (fd:=tI "<lambda>" qn params body scope [] pm (.ref c') ctv) hr.depth ho rfl S.co S.gen rfl O (L s u _ _ _ _ (E5 S.kind (λy j=>?_) λenv he s1 y=>?_))
  · obtain ⟨y, w⟩ := y;have:y=x:=by simpa using congrArg Prod.fst (bU.mp j)
    subst this;exact .inl (l y (by simp))
  subst he;refine⟨R.keeps y.toInCall.keep, ET ?_⟩;have c:=WG (fnb:=λ_=>aB) (CX:=λ_ _ _ _ _ _=>False) (E:=λ_ _ _=>False) (f:=q) (cd:=.ref c') (qual:=qn) (A:=A) (vs:=[v]) (us:=[u]) S hr.hd e0 rfl (.cons r .nil) y;generalize P:({Xo (λ_ _ _ _ _ _=>False) X.prog X.w X.K X.mg X.base [x] qn scope q (.ref c') A outer s H (λ_ _ _=>False) with xe:=λ_ _=>False}:Cx)=Y;have I:Inv Y [] (start [x] [v]) H s1:=by
    subst P;exact⟨⟨c.ok.mod, c.ok.kind, c.ok.glob, c.ok.blt, c.ok.above, c.ok.inj, c.ok.has, c.ok.cab, c.ok.hd, c.ok.frames, c.ok.stk, c.ok.exf, c.ok.bs, c.ok.bsz, c.ok.noex, c.ok.exfs, c.ok.funs, c.ok.frf⟩, c.os, c.bare, c.base, c.loc, c.cell, c.free, c.freeC, c.pin, c.hok, c.len⟩
  have F:ly Y (gH qn scope s.heap.objs.size q (.ref c')) outer s.heap.objs.size:=by rw[<-P];exact⟨rfl, rfl, rfl⟩
  have n:=hr.deeper (gH qn scope s.heap.objs.size q (.ref c'));have C2:Ck D o2 (yx Γ x G) Y k0:=by
    subst P;have N:∀y∈G, cC D X.prog X.w X.K X.mg X.base k0 y (Γ.gl y)/\(y==("__debug__":aH))=aC:=λy j=>by
      have h:=f6.mp hG y j;simp only[cO] at h;have q:=C.glU y (by simpa using h.1);exact⟨cC.lvl h.2 q.1, q.2⟩
    exact { hK := C.hK, hN := rfl, nd := h4, vis := fun y j => .inl (l y j), dbg := fun y j => ⟨beq_eq_false_iff_ne.mpr (V y j).1.1, beq_eq_false_iff_ne.mpr (V y j).1.2⟩,
            dbG:=λy j=>(N y j).2, glb:=λy j=>(h8 y j).2, glo:=λy j=>(N y j).1, glU:=N,
            cel:=λy j=>absurd j (by simp), isi:=C.isi, fld:=C.fld, xcx:=C.xcx, ocx:=C.ocx, clv:=C.clv, clm:=λ_=>rfl, rom:=λ_=>n, rmh:=⟨n.dp, n.un⟩, xe:=(λe s p=>by obtain⟨_, _, _, _, _, _, _, _, _, _, _, _, _, z⟩:=p;exact z), frm:=⟨_, _, _, F.stk, F.f0, F.fe⟩, lam:=cZ.no rfl, kfz:=(λh=>by cases h)}
  have sr:a_ D φ α H [aA t] (start [x] [v]):=⟨rfl, λi t' e=>by
    cases i with
    |zero=>
      have:t=t':=by simpa using e
      subst this;exact⟨v, rfl, d⟩
    |succ i=>simp at e⟩
  have B:=hE Y o2 k0 C2 [] s1 _ H Q I ⟨φ, α, [aA t], μ, sr, mr, _, _, p, λa μ' e M H' st m v' dv=>T a μ' e M H' v' st m dv, λ_ _ _ z=>z.elim⟩;have XA:Y.A=A.deeper (gH qn scope s.heap.objs.size q (.ref c')):=by rw[<-P];rfl
  have Xp:Y.prog=X.prog/\Y.w=X.w/\Y.env=gH qn scope s.heap.objs.size q (.ref c')/\(∀e s, Y.xe e s->False)/\Y.fs=eS outer/\Y.H₀=H/\Y.s₀=s/\Y.ex=[]:=by
    subst P;exact⟨rfl, rfl, rfl, λ_ _ z=>z, rfl, rfl, rfl, rfl⟩
  obtain⟨x1, x2, x3, x4, x5, x6, Z, x8⟩:=Xp;rw[XA, x1, x2, x3] at B;refine dY B (λw s' hs=>?_) λe s' z=>(x4 e s' z).elim;obtain⟨v', H', J, rv, q'⟩:=hs;have b:=J.base;have o:=J.os;have hk:=J.hok;rw[x5, x6, Z, x8] at b;rw[Z] at o;rw[x1, x2] at hk;exact⟨v', H', o, J.bare, b, hk, rv, q'⟩
end
section
variable {prog:Program}{w:World}{A:Around}{E:aD->Shared->Prop}{s:Shared}{a:aF}{vs:List aD}{kz:List Int}{P:PySem.Fin->Shared->Prop}{J:Shared->Prop}{f:aD}
structure Keeps(J:Shared->Prop)(a kS:aF):Prop where
 set:∀s' b h' tk,J s'->(b=a\/b=kS)->fR b s'.heap h'->J {s' with heap:=h',toks:=tk}
 push:∀s' o,J s'->J {s' with heap:=s'.heap.push o}
theorem XT {st:SortSt}(t:Keeps J a g) (y:J s) (v:s.heap.get? g=aA (cD "list" keys e)) (x:s.heap.get? a=aA (cD "list" #[] C)) (k:g≠a)
  (hk:ic keys.toList kz) (q:kz.length=vs.length) (z:vs.length<64) (p:(ia st).Perm (keys.zip vs.toArray)) (hs:SortedTo (ia st) (ia st).size) (l:failedOf st=aE)
  (h:∀r out c,J r->r.heap.get? a=aA (cD "list" out c)->KskOut aC kz vs out.toList->P (.done (.ret .none)) r) :
  wpAny (aS prog w) A (ksk_tail a aC C (.ref g) st) P E s:=by
 have i:keys.size=vs.length:=by
  have B:=hk.length;rw[oB] at B;lia
 have f:(ia st).size=vs.length:=by rw[p.size_eq,DD,i,d7,tc]
 have j:((ia st).map (·.2)).size=vs.length:=by rw[Array.size_map];exact f
 have o:=ro s.heap g (d6 λ_=>(#[]:Array aD));have d:=(o.2 a k.symm).trans x;have u:=ro (s.heap.update g (d6 λ_=>(#[]:Array aD))) a (d6 λ_=>(ia st).map (·.2));obtain⟨n,m⟩:∃n,((s.heap.update g (d6 λ_=>(#[]:Array aD))).update a (d6 λ_=>(ia st).map (·.2))).get? a=aA (cD "list" ((ia st).map (·.2)) n):=⟨_,tK d λ_=>(ia st).map (·.2)⟩;unfold ksk_tail;dsimp only;refine wpAny_bind (pY v rfl ?_ (by rw[i,eG];lia) (hL _));refine wpAny_bind (wpAny_letGo ?_);refine wpAny_bind (seqEpoch_at d rfl ?_);refine wpAny_bind (pY d rfl ?_ (hL _) (dG (mf j) (by rw[eG];lia)));rw[l];simp only[bne_self_eq_false,t6,if_false];have F:=t.set s g _ s.toks y (.inr rfl) o;have D:=t.set _ a _ s.toks F (.inl rfl) u;refine wpAny_pure (h _ _ n D m ?_);have:=ksk_out (b:=aC) hk p hs;simpa using this
theorem MV (v:Keeps J a u) (t:J s) (o:s.heap.get? u=aA (cD "list" keys e)) (p:s.heap.get? a=aA (cD "list" #[] D)) (m:u≠a)
  (hk:ic keys.toList kz) (d:kz.length=vs.length) (g:vs.length<64)
  (h:∀r out c,J r->r.heap.get? a=aA (cD "list" out c)->KskOut aC kz vs out.toList->P (.done (.ret .none)) r) :
  wpAny (aS prog w) A (ksk_end a aC vs.toArray D (.ref u) keys) P E s:=by
 have l:keys.size=vs.length:=by
  have C:=hk.length;rw[oB] at C;lia
 have f:(keys.zip vs.toArray).size=vs.length:=by rw[DD,l,d7,tc]
 unfold ksk_end;simp only[t6,if_false];by_cases k:vs.toArray.size<2
 .rw[if_pos k,if_pos k];refine wpAny_bind (wpAny_pure ?_);rw[StateT.run_pure];refine wpAny_bind (wpAny_pure ?_);refine XT (st:=Dm general' (keys.zip vs.toArray) #[] 7 aE) v t o p m hk d g (D4 _) ?_ rfl h;intro i j z y;have n:j<(keys.zip vs.toArray).size:=y;rw[f] at n;rw[d7] at k;have:i=j:=by lia
  subst this;exact fT _
 .rw[if_neg k,if_neg k];rw[d7] at k;rw[ksk_kind hk (by rw[l];lia)];refine wpAny_bind (wpAny_pure ?_)
  refine wpAny_bind (dY (wpS_sortRuns (a₀:=keys.zip vs.toArray) (st:=Dm oneType' (keys.zip vs.toArray) #[] 7 aE)
   (Q:=λ_ b=>(ia b).Perm (keys.zip vs.toArray)/\failedOf b=aE/\SortedTo (ia b) (keys.zip vs.toArray).size)
   (ksk_intKeys hk) ⟨D4 _,rfl,rfl,rfl⟩ (by rw[f];lia) (by rw[f];exact g) λb H G F=>⟨H,G,F⟩) ?_ λ_ _ e=>e)
  rintro⟨⟨⟩,b⟩ r ⟨rfl,q,B,x⟩;exact XT v t o p m hk d g q (by rw[q.size_eq];exact x) B h
theorem RJ (y:Keeps J a (s.heap.objs.size+1)) (X:J s) (ho:s.heap.get? a=aA (cD "list" vs.toArray n)) (C:kz.length=vs.length) (O:vs.length<64)
  (turn:∀(i:Nat) (v:aD) (k:Int) (b:bB) (R:Array aD) (ca ck:Nat),vs[i]?=aA v->kz[i]?=aA k->J b->b.heap.get? a=aA (cD "list" #[] ca)->b.heap.get? (s.heap.objs.size+1)=aA (cD "list" R ck)->
   wpAny (aS prog w) A (call f [v]) (λr H=>(∃g,r=.int k g)/\J H/\H.heap.get? a=aA (cD "list" #[] ca)/\H.heap.get? (s.heap.objs.size+1)=aA (cD "list" R ck)) (λ_ _=>False) b)
  (h:∀b out c,J b->b.heap.get? a=aA (cD "list" out c)->KskOut aC kz vs out.toList->P (.done (.ret .none)) b) :
  wpAny (aS prog w) A (ksk_tree a f aC) P E s:=by
 have W:a<s.heap.objs.size:=bX ho;have F:=ro s.heap a (d6 λ_=>(#[]:Array aD));obtain⟨u,B⟩:∃u,(s.heap.update a (d6 λ_=>(#[]:Array aD))).get? a=aA (cD "list" #[] u):=⟨_,tK ho λ_=>#[]⟩;unfold ksk_tree;refine wpAny_bind (listItems_at ho rfl ?_);refine wpAny_bind (pY ho rfl ?_ (by rw[d7,eG];lia) (hL _));refine wpAny_bind (seqEpoch_at B rfl ?_);refine wpAny_bind (wpAny_newTuple ?_ (by show vs.length<=_;rw[eG];lia));refine wpAny_bind (wpAny_newList ?_ (hL _));refine wpAny_holding ?_;have T:(s.heap.update a (d6 λ_=>(#[]:Array aD))).objs.size=s.heap.objs.size:=Ea ..;have J1:=y.set s a _ s.toks X (.inl rfl) F;have J2:=y.push _ (cD "tuple" vs.toArray 0) J1;have m:((s.heap.update a (d6 λ_=>(#[]:Array aD))).push (cD "tuple" vs.toArray 0)).objs.size=s.heap.objs.size+1:=by rw[hX,T]
 have J3:=y.push _ (cD "list" #[] 0) J2;have g3:(((s.heap.update a (d6 λ_=>(#[]:Array aD))).push (cD "tuple" vs.toArray 0)).push (cD "list" #[] 0)).get? a=aA (cD "list" #[] u):=bY _ (bY _ B);have gk:(((s.heap.update a (d6 λ_=>(#[]:Array aD))).push (cD "tuple" vs.toArray 0)).push (cD "list" #[] 0)).get? ((s.heap.update a (d6 λ_=>(#[]:Array aD))).push (cD "tuple" vs.toArray 0)).objs.size=aA (cD "list" #[] 0):=eK _ rfl;have o:((s.heap.update a (d6 λ_=>(#[]:Array aD))).push (cD "tuple" vs.toArray 0)).objs.size≠a:=by rw[m];exact hS (oj W)
 generalize U:((s.heap.update a (d6 λ_=>(#[]:Array aD))).push (cD "tuple" vs.toArray 0)).objs.size=q at gk o m;rw[<-m] at y turn;have back:wpAny (aS prog w) A (ksk_rest a f aC vs.toArray u (.ref q)) P E {s with heap:=((s.heap.update a (d6 λ_=>(#[]:Array aD))).push (cD "tuple" vs.toArray 0)).push (cD "list" #[] 0)}:=by
  unfold ksk_rest;refine wpAny_bind (sN ?_)
  first
   |rw[List.forIn_toArray]
   |(rw[<-El];simp only[List.toList_toArray])
   |rw[<-El]
  refine wpAny_bind (ksk_fold (λi b=>∃d e,J b/\b.heap.get? a=aA (cD "list" #[] u)/\b.heap.get? q=aA (cD "list" d e)/\ic d.toList (kz.take i)) vs 0 _ ⟨#[],0,J3,g3,gk,by simpa using IntsAre.nil⟩ ?step ?done);case step=>
   rintro j x b S ⟨d,e,p,K,G,t⟩
   simp only[s_] at t ⊢
   have hj:j<vs.length:=(bE.mp S).1
   obtain⟨k,D⟩:∃k,kz[j]?=aA k:=⟨_,fO (by lia)⟩
   have hz:d.size<=vs.length:=by
    have Z:=t.length;rw[oB,hO] at Z;lia
   refine wpAny_bind (wpAny_attempt (dY (turn j x k b d u e S D p K G) (λv l V=>?_) λ_ _ Y=>Y.elim))
   obtain⟨⟨g,rfl⟩,N,I,z⟩:=V
   have F:=ro l.heap q (d6 (·.push (.int k g)))
   obtain⟨Q,M⟩:∃Q,(l.heap.update q (d6 (·.push (.int k g)))).get? q=aA (cD "list" (d.push (.int k g)) Q):=⟨_,tK z (·.push (.int k g))⟩
   have ek:kz.take (j+1)=kz.take j++[k]:=by rw[fM,D];simp
   have ea:(d.push (lJ k g)).toList=d.toList++[lJ k g]:=by simp
   refine wpAny_bind (pY z rfl ?_ (by rw[eG];lia) (dG (mf (Array.size_push ..)) (by rw[eG];lia)))
   exact wpAny_pure ⟨rfl,d.push (.int k g),Q,y.set l q _ l.toks N (.inr rfl) F,(F.2 a o.symm).trans I,M,by rw[ea,ek];exact ksk_snoc t⟩
  case done=>
   rintro b ⟨d,e,p,K,G,t⟩
   have L:ic d.toList kz:=by
    have e3:kz.take (0+vs.length)=kz:=gL (by lia);rw[e3] at t;exact t
   refine wpAny_bind (listItems_at G rfl ?_)
   exact MV y p G K o L C O h
 exact back
end
theorem K8{α β:Type}{f:α->β}{ps m:List β}(h:ps.Perm m):∀{l:List α},m=l.map f->∃d:List α,d.Perm l/\ps=d.map f:=by
 induction h with
 |nil=>intro l e;cases l with
  |nil=>exact⟨[],.refl _,rfl⟩
  |cons a r=>cases e
 |cons x p q=>intro l e;cases l with
  |nil=>cases e
  |cons a r=>
   rw[c8] at e
   injection e with n c
   obtain⟨d,k,j⟩:=q c
   exact⟨a::d,k.cons a,by rw[n,j];rfl⟩
 |swap x y l'=>intro l e;cases l with
  |nil=>cases e
  |cons a r=>cases r with
   |nil=>simp at e
   |cons b r=>
    rw[c8,c8] at e
    injection e with n c
    injection c with c u
    exact⟨b::a::r,.swap a b r,by rw[n,c,u];rfl⟩
 |trans p1 v i g=>
  intro l e;obtain⟨d,k,j⟩:=g e;obtain⟨o,t,s⟩:=i j;exact⟨o,t.trans k,s⟩
def fK (g:De)(μ:Mem):List T->List Int->Prop
 |[],[]=>True
 |t::c,z::b=>g [aA t] μ (λd a=>d=.int z/\a=μ) (λ_ _ _=>False)/\fK g μ c b
 |_,_=>False
theorem fK.len:∀{ts:List T}{kz:List Int},fK g μ ts kz->kz.length=ts.length
 |[],[],_=>rfl
 |_::_,_::_,h=>by simp[fK.len h.2]
 |[],_::_,h=>h.elim
 |_::_,[],h=>h.elim
theorem fK.at{μ:Mem}:∀{ts:List T}{kz:List Int}{i:Nat}{t:T}{z:Int},fK g μ ts kz->ts[i]?=aA t->kz[i]?=aA z->g [aA t] μ (λt' j=>t'=.int z/\j=μ) (λ_ _ _=>False)
 |a::ts,b::e,0,t,z,h,c,d=>by
  have c:aA a=aA t:=by simpa using c
  have d:aA b=aA z:=by simpa using d
  cases c;cases d;exact h.1
 |a::ts,b::e,i+1,t,z,h,c,d=>fK.at (ts:=ts) (kz:=e) (i:=i) h.2 (by simpa using c) (by simpa using d)
 |[],[],i,t,z,h,c,d=>by simp at c
 |[],_::_,_,_,_,h,_,_=>h.elim
 |_::_,[],_,_,_,h,_,_=>h.elim
abbrev Kv(j:Nat)(g:De)(xs:List T)(μ:Mem):RE T:=λK _=>xs.length<64/\∃b,fK g μ xs b/\
 ∀a:List (Int×T),a.Perm (b.zip xs)->a.Pairwise (λp q=>p.1<=q.1)->K (.lst (a.map (·.2))) μ
abbrev HF(j:Nat)(g:De)(t:T)(μ:Mem):RE T:=λK Z=>(∃i:Nat,μ[i]?=aA (MO.tab j))/\(match t with
 |.lst a=>Kv j g a μ
 |.mut i=>λK Z=>∃a,μ[i]?=aA (MO.lst a)/\Kv j g a μ K Z
 |_=>.st) K Z
abbrev Kx(j:Nat)(g f:De):De:=λa b=>(f a b).bind (HF j g)
section
variable {X:Cx}{D:DP}{W:XW}{Γ:Cn}{k n:Nat}{pins:List (aF×bF)}{s:Shared}{σ:St}{H:Hp}{φ α:List aF}{τ:Sl}{μ:Mem}
theorem Sw(I:Inv X pins σ H s)(h0:H a=aE)(h1:X.s₀.heap.objs.size<=a)(h2:a≠X.env.locals)(j:∀x c,X.env.cells.lookup x=aA c->c≠a)(i:∀p∈X.pn++pins,p.1≠a)
  (new:aZ X.prog X.w (upd H a o) s.heap a o):Inv X pins σ (upd H a o) s:=by
 have d:∀{b u},H b=aA u->b≠a:=λ{b u} e z=>by rw[z,h0] at e;cases e
 refine I.step (h':=s.heap) (g':=s.gens) (t':=s.toks) (d':=s.drawn) (ch:=[a]) (λb f=>?_) (λb o _ _ _ e n=>e) (λb o _ _ _ e n=>⟨o.slots,e⟩) (λb o f e n=>?_) (λb o _ e=>⟨o,e⟩) (λb g e=>?_) (λb o u e=>?_) (λb k e=>?_) (λm h=>h) (λb u e=>?_) I.bare
 .rw[bU.mp f];exact⟨.inr h1,h2,j,i⟩
 .rw[z7 (λz=>f (by rw[z];simp))];exact n
 .rw[z7 (d e)];exact e
 .rw[z7 (d e)];exact e
 .exact⟨#[],by rw[z7 (d e),e];simp⟩
 .by_cases z:b=a
  .subst z;rw[z3] at e;cases e;exact new
  .rw[z7 z] at e;refine (I.hok b u e).stay (λc v l q=>q) (λc q=>?_) λc g q=>?_
   .rw[z7 (d q)];exact q
   .rw[z7 (d q)];exact q
theorem JZ{q F ad:aF}{x:aH}{G:List aH}{params:Arguments}{body:aI}{scope:Scope}{qn:aH}{pm M:aD}{g:De}{vs:List V}{Q:VK}{j:Nat}
  (C:Ck D W Γ X k) (hk:2<=k) (hc:Γ.calm=aB) (hG:G.all (λy=>Γ.U.contains y&&oR (Γ.gl y))=aB) (hs:yQ (yx Γ x G) [x] scope=aB) (hE:∀Y W k,Ck D W (yx Γ x G) Y k->PE Y body (aU D W g)) (hbind:∀(s:bB) (u:aD),l_ s (tI "<lambda>" qn params body scope [] pm (.ref F) M) ⟨[u],[]⟩ [(x,u)])
  (I:Inv X ((q,mj "<lambda>" qn params body scope [] pm F M)::pins) σ H s) (mr:aL D φ α H μ) (hca:F∉α) (hcc:H F=aA (.ext (w6 F qn))) (Z:Rd H ad (.lst vs)) (l:aM D φ α H xs vs) (p:aJ D W φ α H σ (RV D φ Q) (Kv j g xs μ)) :
  wpAny (aS X.prog X.w) X.A (call (.builtin "sorted") [.ref ad] [(lS "key",.ref q)]) (EP X pins σ Q) X.xe s:=by
 obtain⟨f,rv,pl,hz⟩:=I.list (.inl Z);obtain⟨K0,Z0,⟨h64,kz,hkr,hK⟩,k1,k2⟩:=p;have hlen:f.length<64:=by rw[<-rv.length,<-l.length];exact h64
 have hkl:kz.length=f.length:=by rw[hkr.len,<-rv.length,<-l.length]
 refine call_function_entry_kw kind_sorted plain_sorted entry_sorted (ksk_s1 _ _) ?_;unfold mQ.«sorted»;refine wpAny_bind (m:=checkCount "sorted" 1 1 _) (wpAny_pure ?_);refine wpAny_bind (collect_list pl.isList ?_ (by rw[eG];lia));refine wpAny_bind (wpAny_newList ?_ (by rw[eG];lia));have S:((s.heap.push (cD "list" #[] 0)).update s.heap.objs.size (d6 (·++f.toArray))).objs.size=s.heap.objs.size+1:=by
  rw[Ea,hX]
 have hoL:(((s.heap.push (cD "list" #[] 0)).update s.heap.objs.size (d6 (·++f.toArray))).push (cD "list" f.toArray 0)).get? (s.heap.objs.size+1)=aA (cD "list" f.toArray 0):=by
  rw[<-S];exact eK _ rfl
 have keep:∀b o,s.heap.get? b=aA o->(((s.heap.push (cD "list" #[] 0)).update s.heap.objs.size (d6 (·++f.toArray))).push (cD "list" f.toArray 0)).get? b=aA o:=λb o q=>by
  have hlt:b<s.heap.objs.size:=bX q;rw[DU _ _ _ (by rw[S];exact cX (oj hlt)),t7 _ _ _ _ (cX hlt),DU _ _ _ (cX hlt)];exact q
 show wpAny _ _ _ _ _ {s with heap:=((s.heap.push (cD "list" #[] 0)).update s.heap.objs.size (d6 (·++f.toArray))).push (cD "list" f.toArray 0)};rw[S];have hs1:((((s.heap.push (cD "list" #[] 0)).update s.heap.objs.size (d6 (·++f.toArray))).push (cD "list" f.toArray 0))).objs.size=s.heap.objs.size+2:=by rw[hX,S]
 have I1:Inv X ((q,mj "<lambda>" qn params body scope [] pm F M)::pins) σ H {s with heap:=((s.heap.push (cD "list" #[] 0)).update s.heap.objs.size (d6 (·++f.toArray))).push (cD "list" f.toArray 0)}:=I.kept (t':=s.toks) keep;generalize ((s.heap.push (cD "list" #[] 0)).update s.heap.objs.size (d6 (·++f.toArray))).push (cD "list" f.toArray 0)=h1 at I1 hoL hs1 keep;generalize hca':s.heap.objs.size+1=a at hoL;have new:∀b,s.heap.objs.size<=b->H b=aE/\X.s₀.heap.objs.size<=b/\b≠X.env.locals/\(∀x c,X.env.cells.lookup x=aA c->c≠b)/\(∀p∈X.pn++pins,p.1≠b)/\b∉X.fs/\b≠q:=λb hb=>by
  have lt:∀{d o},s.heap.get? d=aA o->d≠b:=λ{d o} e z=>absurd (dC (bX e) hb) (by rw[z];exact iM _);refine⟨I.hok.fresh hb,dG I.sz hb,hS (dC I.lt hb),λx c e=>?_,λp hp=>?_,I.nofs hb,?_⟩
  .obtain⟨v,o,ho,_⟩:=I.cell x c e;exact lt ho
  .exact lt ((wc I).pin p hp).1
  .exact (lt (I.pin _ (dH _ dJ)).1).symm
 have na:=new a (by lia);have nk:=new (h1.objs.size+1) (by lia);let J:bB->Prop:=λK=>∃E,Inv X ((q,mj "<lambda>" qn params body scope [] pm F M)::pins) σ E K/\aQ α H α E/\aL D φ α E μ/\E F=aA (.ext (w6 F qn))/\E a=aE/\E (h1.objs.size+1)=aE;have KJ:Keeps J a (h1.objs.size+1):=by
  refine⟨λK b h' tk hj hb sb=>?_,λK o hj=>?_⟩
  .obtain⟨E,N,J2,P,J4,O,J6⟩:=hj;have hb0:E b=aE:=by rcases hb with rfl|rfl<;>assumption
   have nb:=by
    have:=hb;exact show X.s₀.heap.objs.size<=b/\b≠X.env.locals/\(∀x c,X.env.cells.lookup x=aA c->c≠b)/\(∀p∈X.pn++pins,p.1≠b)/\b∉X.fs/\b≠q from by rcases this with rfl|rfl;exact na.2;exact nk.2
   have ex:∀c o,c≠b->K.heap.get? c=aA o->h'.get? c=aA o:=λc o n e=>(sb.2 c n).trans e;have neb:∀{c u},E c=aA u->c≠b:=λ{c u} e z=>by rw[z,hb0] at e;cases e
   refine⟨E,N.step (h':=h') (g':=K.gens) (t':=tk) (d':=K.drawn) (ch:=[b]) (λc hc=>?_) (λc o _ _ n e _=>ex c o (λz=>n (by rw[z];simp)) e) (λc o _ _ n e _=>⟨o.slots,ex c o (λz=>n (by rw[z];simp)) e⟩) (λc o _ _ n=>n) (λc o n e=>⟨o,ex c o (λz=>n (by rw[z];simp)) e⟩) (λc xs e=>e) (λc o u e=>e) (λc t e=>⟨#[],by rw[e];simp⟩) (λm hm=>?_) (λc u e=>?_) N.bare,J2,P,J4,O,J6⟩
   .rw[bU.mp hc];refine⟨.inr nb.1,nb.2.1,nb.2.2.1,λp hp=>?_⟩;rcases b_.mp hp with z|z
    .exact nb.2.2.2.1 p (eY _ z)
    .rcases cK.mp z with rfl|z
     .exact nb.2.2.2.2.2.symm
     .exact nb.2.2.2.1 p (dH _ z)
   .exact hm.sameBut sb nb.2.1.symm
   .refine (N.hok c u e).stay (λd v hd q=>ex d v (λz=>?_) q) (λd q=>q) λd xs q=>q;rcases hd with hd|hd
    .exact neb e (hd▸z)
    .exact neb hd z
  .obtain⟨E,N,J2,P,J4,O,J6⟩:=hj;exact⟨E,N.kept (t':=K.toks) λb o e=>bY _ e,J2,P,J4,O,J6⟩
 refine wpAny_bind (wpAny_holding (wpAny_call_entry_kw slot_list_sort ⟨_,hoL,rfl⟩ entry_list_sort ?body (ksk_l1 _ _)));case body=>
  show wpAny (aS X.prog X.w) X.A.in1.in1 (mQ.«list.sort» ⟨[.ref a],[(lS "key",.ref q)]⟩) _ _ _
  rw[ksk_t1]
  refine RJ (J:=J) (kz:=kz) (vs:=f) (s:={s with heap:=h1}) KJ ⟨H,I1,aQ.refl _ _,mr,hcc,na.1,nk.1⟩ hoL hkl hlen (λi v z K ka ca ck e1 e2 hj ga gk=>?_) λK out c hj ga hout=>⟨_,rfl,wpAny_pure ⟨_,rfl,?_⟩⟩
  .obtain⟨E,N,J2,P,J4,O,J6⟩:=hj
   have J1a:=yL (yL N ga O na.2.2.1 na.2.2.2.2.2.1 (λv z=>by cases z)) gk J6 nk.2.2.1 nk.2.2.2.2.2.1 (λv z=>by cases z)
   have hi:i<f.length:=(bE.mp e1).1
   obtain⟨vv,hvv⟩:∃vv,vs[i]?=aA vv:=⟨_,fO (by rw[rv.length];exact hi)⟩
   obtain⟨tt,htt⟩:∃tt,xs[i]?=aA tt:=⟨_,fO (by rw[l.length,rv.length];exact hi)⟩
   have rr:RelV vv v:=by
    obtain⟨u0,e0,r0⟩:=rv.get hvv;rw[e1] at e0;cases e0;exact r0
   obtain⟨vv',hv',dd⟩:=(l.step J2).get htt
   rw[hvv] at hv';cases hv'
   have hrec:K.heap.CodeRec (.ref F) qn:=(N.hok F _ J4).1
   have ho:K.heap.get? q=aA (mj "<lambda>" qn params body scope [] pm F M):=(N.pin _ (dH _ dJ)).1
   have rm:=C.rom hc
   have hr:bZ (0+1) X.A.in1.in1:=⟨rm.hd,by have:=rm.dp;show X.A.depth+3*(0+1)+5<_;lia,by have:=rm.un;show X.A.units+1+1+16*(0+1)+200<_;lia⟩
   refine lK (i7 (Ss (k0:=0) C hc hG hs hE hbind hr J1a.env0.in1.in1 ho hrec rr dd P (Q:=λv' H2=>v'=.int z/\aQ α E α H2/\aL D φ α H2 μ) (hkr.at htt e2) ?_) λr s2 Z=>?_)
   .rintro t' μ' ⟨rfl,rfl⟩ α' H2 v' st m d
    have ea:α'=α:=by
     obtain⟨⟨more,e,_⟩,_,_⟩:=id st;have h1:=m.len;have h2:=P.len;rw[e,gK,h2] at h1;have:more=[]:=List.eq_nil_of_length_eq_zero (by lia);rw[e,this,gU]
    subst ea
    exact⟨d,st,m⟩
   .cases r with
    |error e=>exact Z.elim
    |ok fl=>
     cases fl with
     |ret u=>
      obtain⟨v',H2,I2,r2,rfl,st2,m2⟩:=J1a.after Z;obtain⟨t2,rfl⟩:=r2;have p1:=I2.pin _ (dH _ dJ);have p2:=(wc I2).pin _ (dH _ dJ);exact⟨⟨t2,rfl⟩,⟨H2,wc (wc I2),J2.trans st2,m2,st2.keep F _ hca J4,p2.2.1,p1.2.1⟩,p2.1,p1.1⟩
     |next=>exact eF Z
     |brk=>exact eF Z
     |cont=>exact eF Z
  .obtain⟨E,N,J2,P,J4,O,J6⟩:=hj
   obtain⟨ps,hp,ho,hpw⟩:=hout
   have lz:∀{A B:Type}(a:List A) (b:List B),a.length=b.length->(a.zip b).length=b.length:=λa b h=>by rw[D3,h,tc]
   have R:vs.length=f.length:=rv.length
   have hxl:xs.length=f.length:=by rw[l.length,R]
   have em:kz.zip f=(kz.zip (f.zip (vs.zip xs))).map (λq=>(q.1,q.2.1)):=by
    refine D_ (by simp[hkl,R,hxl]) λi h1 h2=>by simp
   obtain⟨t,hqp,rfl⟩:=K8 hp em
   have mem:∀q∈t,RelV q.2.2.1 q.2.1/\bA D φ α E q.2.2.2 q.2.2.1:=λq Z=>by
    have:=hqp.mem_iff.mp Z;obtain⟨i,hi⟩:=fN.mp this;obtain⟨L,rfl⟩:=bE.mp hi;simp only[D3,Nat.lt_min] at L;have d:=(l.step J2).get (i:=i) (fO L.2.2.2);obtain⟨v',e',d⟩:=d;rw[fO L.2.2.1] at e';cases e';simp only[List.getElem_zip];obtain⟨u0,e0,r0⟩:=rv.get (fO L.2.2.1);rw[fO L.2.1] at e0;cases e0;exact⟨r0,d⟩
   have hvs:∀(t:List (Int×aD×V×T)),(∀q∈t,RelV q.2.2.1 q.2.1/\bA D φ α E q.2.2.2 q.2.2.1)->aY (t.map (·.2.2.1)) (t.map (·.2.1))/\aM D φ α E (t.map (·.2.2.2)) (t.map (·.2.2.1)):=by
    intro t;induction t with
    |nil=>exact λ_=>⟨.nil,rfl⟩
    |cons q r ih=>
     intro h;obtain⟨a1,a2⟩:=ih λq' hq'=>h q' (cW _ hq');obtain⟨b1,b2⟩:=h q dJ;exact⟨.cons b1 a1,_,_,rfl,b2,a2⟩
   obtain⟨w1,w2⟩:=hvs t mem
   have hol:out.toList=t.map (·.2.1):=by rw[ho,cT];rfl
   have hql:t.length=f.length:=by rw[hqp.length_eq];simp[hkl,R,hxl]
   have J7:Inv X pins σ (upd E a (.lst (t.map (·.2.2.1)))) K:=Sw (wc N) O na.2.1 na.2.2.1 na.2.2.2.1 na.2.2.2.2.1 (show aZ X.prog X.w _ _ _ (.lst (t.map (·.2.2.1))) from ⟨by rw[bJ,hql,eG];lia,t.map (·.2.1),c,w1,by rw[<-hol,Array.toArray_toList];exact ga⟩)
   refine⟨.ref a,_,J7,rfl,?_⟩
   have sm:=zm (o:=HO.lst (t.map (·.2.2.1))) O
   have e2:(t.map λq=>(q.1,q.2.2.2)).map (·.2)=t.map (·.2.2.2):=by rw[cT];rfl
   have e3:kz.zip xs=(kz.zip (f.zip (vs.zip xs))).map (λq=>(q.1,q.2.2.2)):=by
    refine D_ (by simp[hkl,R,hxl]) λi h1 h2=>by simp
   have kk:=hK (t.map λq=>(q.1,q.2.2.2)) (by rw[e3];exact hqp.map _) (by
    rw[lb] at hpw ⊢;exact hpw.imp λh=>by simpa using h)
   rw[e2] at kk
   refine k1 _ _ kk α _ (J2.trans (aQ.new sm)) (P.new sm) _ ⟨_,_,rfl,zr P O,zt P O,.inl z3,w2.step (aQ.new sm)⟩
theorem iz(a:fd.params=⟨[],[⟨y,aE,pa⟩],aE,[],[],aE,[]⟩)(hd:fd.defaults=.none):me fd ⟨[u],[]⟩=pure [(y,u)]:=by
 have e:gT y [(y,u)]=aA u:=by simp[gT]
 unfold me;rw[a,hd];simp[e,seqItems?];rfl
theorem S7(C:Ck D W Γ X k)(hc:Γ.calm=aB){body:aI} 
  (T:("sorted":aH)∈Γ.G) (hg0:Γ.gl "sorted"=.none) (E:aO a=aB) (ha:PE X a (aU D W f)) (hlm:Γ.lam=aA (j,A)) (hnm:Γ.lnm="<lambda>") (Z:pl∈A) (hG:G.all (λy=>Γ.U.contains y&&oR (Γ.gl y))=aB) (hs:yQ (yx Γ y G) [y] sc=aB) (hE:∀Y W k,Ck D W (yx Γ y G) Y k->PE Y body (aU D W g)) :
  PE X (.Call (.Name "sorted" p0) [a] [⟨aA "key",.Lambda ⟨[],[⟨y,aE,pa⟩],aE,[],[],aE,[]⟩ body sc pl,pk⟩] pos) (aU D W (Kx j g f)):=by
 obtain⟨hk,c,P,F,hC,hB,hD⟩:=C.lam j A hlm;rw[hnm] at hD;have hm:=C.glo _ T;rw[hg0] at hm;have hfr:∀x∈sc.names,x.2≠.free:=by
  have M:=hs;simp only[yQ,cO,f6,bne_iff_ne,ne_eq] at M;exact M.1.1.1.1.2
 rintro J s σ H Q I ⟨w,α,τ,μ,sr,mr,p⟩;refine ij (wH I (C.glb _ T) hm (show hV "sorted"=aA (.builtin "sorted") by decide +kernel) ?_ (by decide) (C.dbG _ T));refine callWith_kw (aW (zK ha qL (z5 E) pos J s σ H (λvs R=>∃v t B h,vs=[v]/\aQ α H h R/\aL D w h R B/\bA D w h R t v/\aJ D W w h R σ (RV D w Q) (HF j g t B)) I ⟨w,α,τ,μ,sr,mr,p.bind.mono λt b e o st m q v d=>⟨v,t,b,e,rfl,st,m,d,q⟩⟩) ?_) (by rw[z5 E];rfl) (by rw[z5 E];rfl) rfl rfl;rintro us s1 ⟨vs,R,I1,rv,v,t,B,h,rfl,st,m,d,K0,Z0,⟨⟨i,hi⟩,q⟩,k1,k2⟩;obtain⟨u,rfl,r1⟩:=vals1 rv;refine kws_cons (D9 rfl (JG (line:=pl.line) I1 m hi hD Z F hC hB (closureFor_none hfr) λq0 c' ctv H2 s2 I2 r S O N _=>kws_nil ?_));have L:∀t b,K0 t b->∀e o,aQ h H2 e o->aL D w e o b->RV D w Q t b e o:=λt b z e o n K=>k1 t b z e o (r.trans n) K;show wpAny _ _ (call (.builtin "sorted") [u] [(lS "key",.ref q0)]) _ _ _;split at q
 .obtain⟨ad,xs,rfl,n1,n2,V,l⟩:=d.step r;cases r1;exact JZ (j:=j) C hk hc hG hs hE (λs u=>.of_eq (iz rfl rfl)) I2 S O N V l ⟨K0,Z0,q,L,λcc fs b z e o CC dd n K=>k2 cc fs b z e o CC dd (r.trans n) K⟩
 .obtain⟨ts,hj,q⟩:=q;obtain⟨ad,hi2,rfl⟩:=d;cases r1;obtain⟨xs,V,l⟩:=S.ob _ ad _ hi2 hj;exact JZ (j:=j) C hk hc hG hs hE (λs u=>.of_eq (iz rfl rfl)) I2 S O N (.inl V) l ⟨K0,Z0,q,L,λcc fs b z e o CC dd n K=>k2 cc fs b z e o CC dd (r.trans n) K⟩
 .exact eF q
end
noncomputable def FN:Arg->Option aH
 |⟨y,aE,_⟩=>aA y
 |_=>aE
def Al:Arguments->Option aH
 |⟨[],[p],aE,[],[],aE,[]⟩=>FN p
 |_=>aE
theorem RR(h:Al a=aA y):∃p,a=⟨[],[⟨y,aE,p⟩],aE,[],[],aE,[]⟩:=by
 unfold Al at h;split at h
 .unfold FN at h;split at h
  .cases h;exact⟨_,rfl⟩
  .cases h
 .cases h
def rX:aI->Option (aH×aI×Scope×Pos)
 |.Lambda a body b c=>(Al a).bind λy=>aA (y,body,b,c)
 |_=>aE
theorem Ya(h:rX e=aA q):∃pa,e=.Lambda ⟨[],[⟨q.1,aE,pa⟩],aE,[],[],aE,[]⟩ q.2.1 q.2.2.1 q.2.2.2:=by
 unfold rX at h;split at h
 .obtain⟨y,b,a⟩:=aR h;cases a;obtain⟨pa,rfl⟩:=RR b;exact⟨pa,rfl⟩
 .cases h
def Ht:ER:=λr b e=>(Ar e).bind λq=>(rX q.v).bind λw=>b.lam.bind λz=>gd (q.x==("sorted":aH)) (gd (q.ky==("key":aH)) (gd ((cJ b.N q.x).isNone&&aO q.a) (gd (b.calm&&ir (b.look "sorted")) (gd ((Qo w.2.2.1).all (λy=>b.U.contains y&&oR (b.gl y))) (gd (yQ (yx b w.1 (Qo w.2.2.1)) [w.1] w.2.2.1) (gd (decide (w.2.2.2∈z.2)&&b.lnm==("<lambda>":aH))
      ((r.e b q.a).bind λf=>(r.e (yx b w.1 (Qo w.2.2.1)) w.2.1).bind λg=>aA (Kx z.1 g f))))))))
theorem UZ:cR D Ht:=by
 intro r H X W B k e d C h;obtain⟨q,x,h⟩:=aR h;obtain⟨w,v,h⟩:=aR h;obtain⟨⟨j,a⟩,m,h⟩:=aR h;obtain⟨u,h⟩:=z9 h;obtain⟨t,h⟩:=z9 h;obtain⟨s,h⟩:=z9 h;obtain⟨c,h⟩:=z9 h;obtain⟨p,h⟩:=z9 h;obtain⟨o,h⟩:=z9 h;obtain⟨b,h⟩:=z9 h;obtain⟨f,z,h⟩:=aR h;obtain⟨g,y,h⟩:=aR h;cases h;obtain⟨E,l⟩:=Ya v;rw[RW x,l,qr u,qr t];obtain⟨i,n⟩:=zQ (zy c).2;exact S7 C (zy c).1 i n (zy s).2 (H.e C z) m (qr (zy b).2) (of_decide_eq_true (zy b).1) p o λY W k A=>H.e A y
abbrev o9(x y:T)(μ:Mem):RE T:=match y with
 |.mut i=>(match x with
  |.int z=>λK _=>∃a,μ[i]?=aA (MO.dic a)/\K (.bl (ze (.inl z) a).isSome) μ
  |.str z=>λK _=>∃a,μ[i]?=aA (MO.dic a)/\K (.bl (ze (.inr z) a).isSome) μ
  |_=>.st)
 |_=>QK .In x y μ
abbrev oN(f g:De):De:=λc d=>(f c d).bind λx b=>(g c b).bind λy a=>o9 x y a
abbrev xu(o b f:De):Ds:=λd j=>(f d j).out d λt g=>(o d g).out d λl e=>(b d e).out d λit c=>match l,it with
 |.mut i,.int k=>λE=>(∃h,c[i]?=aA (.lst h)/\(0<=k/\k<h.length/\k<9223372036854775808)/\E.nx d (c.set i (.lst (h.set k.toNat t))))\/(∃a,c[i]?=aA (.dic a)/\a.length<aT/\E.nx d (c.set i (.dic (jV (.inl k) t a))))
 |.mut i,.str z=>λE=>∃a,c[i]?=aA (.dic a)/\a.length<aT/\E.nx d (c.set i (.dic (jV (.inr z) t a)))
 |_,_=>.st
section
variable {X:Cx}{D:DP}{W:XW}{Γ:Cn}{k:Nat}{pins:List (aF×bF)}{s:Shared}{σ:St}{H:Hp}{φ α:List aF}{τ:Sl}{μ:Mem}{f g:De}{a b:aI}{pos:Pos}
theorem Zv:∀{kvs:List (Key×T)}{gs:List (Key×V)},bM D φ α H kvs gs->(vB gs z).isSome=(ze z kvs).isSome
 |[],_,h=>by cases h;rfl
 |p::r,_,h=>by
  obtain⟨v,q,rfl,d,l⟩:=h;unfold ze;by_cases e:p.1=z
  .rw[if_pos e,yn (p:=(p.1,v)) e];rfl
  .rw[if_neg e,kj (p:=(p.1,v)) e];exact Zv l
theorem GB(I:Inv X pins σ H s)(m:X.A.units+64<cLine)(d:aL D φ α H μ)(b:bA D φ α H x v)(g:bA D φ α H y w)(f:RelV v r)(e:RelV w j)
  (p:aJ D W φ α H σ (RV D φ Q) (o9 x y μ)):wpAny (aS X.prog X.w) X.A (fC .In r j) (EP X pins σ Q) X.xe s:=by
 have go:∀{i:Nat}{z:Key}{a:List (Key×T)},y=.mut i->v=kV z->μ[i]?=aA (MO.dic a)->aJ D W φ α H σ (RV D φ Q) (.ok (.bl (ze z a).isSome) μ)->wpAny (aS X.prog X.w) X.A (fC .In r j) (EP X pins σ Q) X.xe s:=λ{i z a} ey ev c h=>by
  subst ey;subst ev;obtain⟨ad,n,rfl⟩:=g;cases e;obtain⟨gs,o,l⟩:=d.ob i ad _ n c;refine Ly (by omega) I (eI.k (k:=z) o) f λt q=>⟨.bl (vB gs z).isSome,H,q,rfl,?_⟩;rw[Zv l];exact h.here d rfl
 unfold o9 at p;split at p
 .split at p
  .obtain⟨a,c,p⟩:=p.ex1;have b:v=_:=b;exact go (z:=.inl _) rfl b c p
  .obtain⟨a,c,p⟩:=p.ex1;have b:v=_:=b;exact go (z:=.inr _) rfl b c p
  .exact p.elim
 .exact Vl I m d b g f e p
theorem Nz(C:Ck D W Γ X k)(ho:jL .In b=aB)(A:PE X a (aU D W f))(hb:PE X b (aU D W g)):PE X (.Compare a [.In] [b] pos) (aU D W (oN f g)):=by
 rintro i s L H Q I ⟨J,N,K,M,r,z,p⟩;refine tJ (aW (sub A I r z p) ?_) (kI ho);rintro u T ⟨v,V,t,l,n,G,x,o,d,h,E,p1⟩;refine aW (sub hb G d h p1) ?_;rintro P S ⟨O,U,R,j,m,F,w,c,q,e,B,y⟩;exact GB F C.unt e (E.step c) B x w y
theorem aK.or{r a:En->Prop}(p:aK D W φ α H E λE=>r E\/a E):aK D W φ α H E r\/aK D W φ α H E a:=by
 obtain⟨E0,q,b⟩:=p;rcases q with q|q
 .exact .inl ⟨E0,q,b⟩
 .exact .inr ⟨E0,q,b⟩
theorem Sb(j:X.A.units+1<cLine):Bv X (λo i v H Q=>(∃l k xs,o=.ref l/\i=.int k/\H l=aA (.lst xs)/\0<=k/\k<xs.length/\k<9223372036854775808/\Q (upd H l (.lst (xs.set k.toNat v))))\/(∃l gs z,o=.ref l/\i=kV z/\H l=aA (.dK gs)/\gs.length<sizeLine/\Q (upd H l (.dK (eH gs z v))))):=by
 intro a s e H o i v f g u Q I c d b h;rcases h with h|⟨l,gs,z,rfl,rfl,n,m,q⟩
 .exact fU a s e H o i v f g u Q I c d b h
 .cases c;exact Uf j I (lA.k (k:=z) n m) d b λr p=>⟨_,p,q⟩
theorem O2(C:Sk D W Γ X k)(U:qD b=aB)(ha:PE X a (aU D W f))(ho:PE X o (aU D W fo))(hb:PE X b (aU D W fb)) :
  PS X (.Assign [.Subscript o b p1] a pos) (dQ D W (xu fo fb f)):=by
 rintro G s σ H E I ⟨L,α,M,μ,S,mr,p⟩;have h1:rg [.Subscript o b p1] a pos.line X.env=pure aC:=by cases a<;>rfl
 have h2:rf [.Subscript o b p1] a X.env=pure aE:=by cases a<;>rfl
 refine XE ha (HC ho hb (Sb (by have:=C.toCk.unt;lia)) (λv=>by cases b<;>first|(simp[qD] at U;done)|rfl)) h1 h2 rfl G s σ H E I ⟨L,α,M,μ,S,mr,(aK.out S p).mono λt O Q H1 R m1 q v d=>?_⟩;have w:=S.step R;refine⟨L,Q,M,O,w,m1,(aK.out w q).mono λot N P H2 F m2 q2 ov dv=>?_⟩;have m:=w.step F;refine⟨L,P,M,N,m,m2,(aK.out m q2).mono λit u h B j A g Z di=>?_⟩;have V:=(d.step F).step j;have dv:=dv.step j;cases ot with
 | «mut» i=>
  obtain⟨x,n,rfl⟩:=dv;cases it with
  |int J=>
   have di:Z=.int J:=di;subst di;rcases aK.or g with g|g
   .obtain⟨ts,e,y,g⟩:=aK.ex1 g;obtain⟨Y,r,l⟩:=A.ob i x _ n e;have c:aQ h B h (upd B x (.lst (Y.set J.toNat v))):=aQ.turn (bK n) ⟨_,r⟩;have K:i<u.length:=(bE.mp e).1;exact .inl ⟨x,J,Y,rfl,rfl,r,y.1,by rw[<-l.length];exact y.2.1,y.2.2,aK.nx g c (A.turn n K c ⟨_,z3,aM.set (l.step c) (V.step c)⟩) ((m.step j).step c)⟩
   .obtain⟨T,e,y,g⟩:=aK.ex1 g;obtain⟨gs,r,l⟩:=A.ob i x _ n e;have c:aQ h B h (upd B x (.dK (eH gs (.inl J) v))):=aQ.turn (bK n) ⟨_,r⟩;have K:i<u.length:=(bE.mp e).1;exact .inr ⟨x,gs,(.inl J),rfl,rfl,r,by rw[qg l];exact dC y (qa (bD _)),aK.nx g c (A.turn n K c ⟨_,z3,Jh (V.step c) (l.step c)⟩) ((m.step j).step c)⟩
  |str z=>
   have di:Z=.str z:=di;obtain⟨T,e,y,g⟩:=aK.ex1 g;obtain⟨gs,r,l⟩:=A.ob i x _ n e;have c:aQ h B h (upd B x (.dK (eH gs (.inr z) v))):=aQ.turn (bK n) ⟨_,r⟩;have K:i<u.length:=(bE.mp e).1;exact .inr ⟨x,gs,(.inr z),rfl,di,r,by rw[qg l];exact dC y (qa (bD _)),aK.nx g c (A.turn n K c ⟨_,z3,Jh (V.step c) (l.step c)⟩) ((m.step j).step c)⟩
  |_=>exact aK.elim g
 |_=>exact aK.elim g
theorem MW{R:β->Mem->List aF->Hp->Prop}{kk:T->Mem->RE β}{x y:T}{v w:V}{e c:aD}(I:Inv X pins σ H s)(i:X.A.units+64<cLine)(h:aL D φ α H μ)(l:bA D φ α H x v)(k:bA D φ α H y w)(g:RelV v e)(f:RelV w c)
  (p:aJ D W φ α H σ R ((o9 x y μ).bind kk)):wpAny (aS X.prog X.w) X.A (fC .In e c) (EP X pins σ λz u=>∃t r j,aQ α H j u/\aL D φ j u r/\bA D φ j u t z/\aJ D W φ j u σ R (kk t r)) X.xe s:=
 GB I i h l k g f (p.bind.mono λt a b n st m q v d=>⟨t,a,b,st,m,d,q⟩)
theorem TJ(C:Ck D W Γ X k)(ho:jL .In b=aB)(U:PE X a (aU D W f))(hb:PE X b (aU D W g)):PT X (.Compare a [.In] [b] pos) (eJ D W (tE (oN f g))):=by
 rintro q s w H Q I ⟨r,J,o,B,N,T,p⟩;have p:aJ D W r J H w (λb _ _ H'=>Q b H') ((f o B).bind λx e=>(g o e).bind λy c=>(o9 x y c).bind yj):=p;refine wv (aW (sub U I N T p) ?_) (kI ho);rintro u s1 ⟨v,H1,t,e,G,I1,R,L,j,n,Z,p1⟩;refine aW (sub hb I1 j n p1) ?_;rintro u' s2 ⟨v',H2,t',c,F,I2,P,i,M,m,Y,S⟩;refine aW (MW I2 C.unt m (Z.step i) Y R P S) ?_;rintro d s3 ⟨z,H3,I3,O,t3,A,E,K,l,V,h⟩;unfold yj at h;split at h
 .cases V;cases O;exact wpAny_truthy_bool ⟨H3,I3,h.ok (aQ.refl _ _) l⟩
 .exact h.elim
end
def GQ(Γ:Cn)(b:aI):Bool:=match b with
 |.Name x _=>(cJ Γ.N x).isSome
 |_=>aC
noncomputable def isIn:eM->Bool
 |.In=>aB
 |_=>aC
theorem PH(h:isIn op=aB):op=.In:=by cases op<;>first|rfl|cases h
def LC (r:dM)(Γ:Cn)(e:aI):Option De:=(r4 e).bind λq=>gd (isIn q.op&&GQ Γ q.b) (gd (jL .In q.b) ((r.e Γ q.a).bind λf=>(r.e Γ q.b).bind λg=>aA (oN f g)))
def FL:ER:=LC
theorem RM:cR D FL:=by
 intro r H X W l k e d C h;obtain⟨q,c,h⟩:=aR h;obtain⟨b,h⟩:=z9 h;obtain⟨a,h⟩:=z9 h;obtain⟨f,j,h⟩:=aR h;obtain⟨g,i,h⟩:=aR h;cases h;rw[Y4 c,PH (zy b).1];exact Nz C a (H.e C j) (H.e C i)
def B9:TR:=λr c e=>match e with
 |.Compare a [.In] [b] _=>gd (GQ c b&&jL .In b) ((r.e c a).bind λf=>(r.e c b).bind λg=>aA (tE (oN f g)))
 |_=>aE
theorem TQ:sF D B9:=by
 intro r H X W j k e d C h;unfold B9 at h;split at h
 .obtain⟨b,a⟩:=z9 h;obtain⟨f,i,a⟩:=aR a;obtain⟨g,c,a⟩:=aR a;cases a;simp only[cO] at b;exact TJ C b.2 (H.e C i) (H.e C c)
 .cases h
def Bn:bG->Option (aI×aI×Pos)
 |.Assign [t] e p=>aA (t,e,p)
 |_=>aE
theorem PP(h:Bn s=aA q):s=.Assign [q.1] q.2.1 q.2.2:=by
 unfold Bn at h;split at h
 .cases h;rfl
 .cases h
def G_:SR:=λr a s=>(Bn s).bind λq=>(KP q.1).bind λw=>gd (qD w.2.1) ((r.e a w.1).bind λfo=>(r.e a w.2.1).bind λfb=>(r.e a q.2.1).bind λf=>aA (xu fo fb f))
theorem Ux:nA D G_:=by
 intro r H X W l k e d C h;obtain⟨q,c,h⟩:=aR h;obtain⟨w,b,h⟩:=aR h;obtain⟨a,h⟩:=z9 h;obtain⟨fo,j,h⟩:=aR h;obtain⟨fb,i,h⟩:=aR h;obtain⟨f,g,h⟩:=aR h;cases h;rw[PP c,Yq b];exact O2 C a (H.e C.toCk g) (H.e C.toCk j) (H.e C.toCk i)
end NH
namespace NH.P
open PySem L2 NH
@[reducible] def yW:List Ds:=[(bL (qh (tE (z4 qE [(eV 0),(eV 1)]))) [(zH 13 [(eC (.str "no moment, house or count of the shape"))])] [])]
def wb:Fn:=bI 2 0 yW
@[reducible] def WL:List Ds:=[(zB (z4 wb [(eV 1),(za (eV 0) 0)])),(zB (z4 wb [(eV 2),(za (eV 0) 1)])),(zB (z4 wb [(eV 3),(za (eV 0) 2)])),(zh (zd .Add (zd .Mult (zd .Add (zd .Mult (eV 1) (za (eV 0) 1)) (eV 2)) (za (eV 0) 2)) (eV 3)))]
def Zc:Fn:=bI 4 0 WL
@[reducible] def Zj:List Ds:=[(bL (fD (qh (tE (yP [4] (eV 1)))) (tE (zw .NotEq (dX u4 (eV 1)) (eC (.int 3))))) [(zh (eC (.bl aC)))] []),(bL (qh (jU (tE (z4 qE [(aX (eV 1) (eC (.int 0))),(za (eV 0) 1)])) (jU (tE (z4 zP [(aX (eV 1) (eC (.int 1)))])) (tE (z4 zP [(aX (eV 1) (eC (.int 2)))]))))) [(zh (eC (.bl aC)))] []),(zh (iS (eC (.int 0)) [(.LtE,(aX (eV 1) (eC (.int 1)))),(.Lt,(aX (eV 1) (eC (.int 2)))),(.LtE,(za (eV 0) 0))]))]
def kA:Fn:=bI 2 0 Zj
@[reducible] def xq:List Ds:=[(bL (qh (tE (z4 kA [(eV 0),(eV 1)]))) [(zH 18 [(eC (.str "no lease of the shape"))])] [])]
def qU:Fn:=bI 2 0 xq
@[reducible] def yA:List Ds:=[(zM (eV 0) 5 (eV 1)),(zM (eV 0) 6 (eV 2)),(zM (eV 0) 7 (aX (eV 2) (eC (.int 2)))),(zM (eV 0) 8 (eC (.bl aC)))]
def xI:Fn:=bI 3 0 yA
@[reducible] def XS:List Ds:=[(zh (zw .Lt (gN uN (aX (za (eV 0) 6) (eC (.int 1))) (eV 1)) (gN yh (za (eV 0) 7) (eV 2))))]
def e_:Fn:=bI 3 0 XS
@[reducible] def xm:List Ds:=[(zp 3 (eV 1)),(vr (.one 4) (iE (Kx 0 (aX (za (eV 0) 6) (eC (.int 1))) (eV 0))) [(bL (tE (z4 e_ [(eV 4),(eV 3),(zd .Add (eV 3) (eV 2))])) [(zp 3 (za (eV 4) 7))] [])]),(zh (eV 3))]
def wy:Fn:=bI 3 2 xm
@[reducible] def xv:List Ds:=[(zp 3 Wg),(vr (.one 4) (iE (eV 0)) [(bL (tE (z4 e_ [(eV 4),(eV 1),(zd .Add (eV 1) (eV 2))])) [(xu (eV 3) (aX (za (eV 4) 6) (eC (.int 0))) (eC (.bl aB)))] [])]),(zp 5 (eC (.int 0))),(Vp (tE (oN (eV 5) (eV 3))) [(zp 5 (zd .Add (eV 5) (eC (.int 1))))]),(zh (eV 5))]
def vH:Fn:=bI 3 3 xv
@[reducible] def xw:List Ds:=[(zM (eV 0) 9 (eV 1)),(zM (eV 0) 10 (kO []))]
def vQ:Fn:=bI 2 0 xw
@[reducible] def qS:List Ds:=[(bL (qh (tE (z4 we [(eV 1)]))) [(zH 17 [(eC (.str "a holder is a text of one to eight small letters"))])] []),(bL (jU (tE (zw .IsNot (eV 2) (eC .non))) (qh (tE (z4 qE [(eV 2),(za (za (eV 0) 9) 1)])))) [(zH 13 [(eC (.str "no house of the shape"))])] []),(bL (qh (tE (z4 wX [(eV 4)]))) [(zH 16 [(eC (.str "a span is a whole number from 1 on"))])] []),(bL (qh (tE (z4 zP [(eV 3)]))) [(zH 16 [(eC (.str "a moment is a whole number"))])] [])]
def qH:Fn:=bI 5 0 qS
@[reducible] def vq:List Ds:=[(zh (w9 1 [1] (.one 0) (iE (za (eV 0) 10)) [(tE (zw .Eq (aX (za (eV 0) 6) (eC (.int 0))) (eV 1)))] (eV 0)))]
def q9:Fn:=bI 2 0 vq
@[reducible] def wM:List Ds:=[(bL (tE (zw .Is (eV 1) (eC .non))) [(zh (wD [(z4 vH [(za (eV 0) 10),(eV 2),(eV 3)]),(eV 2),(zd .Add (eV 2) (eV 3))]))] []),(zp 4 (z4 wy [(zv 43 q9 (eV 0) [(eV 1)]),(eV 2),(eV 3)])),(zh (wD [(eV 1),(eV 4),(zd .Add (eV 4) (eV 3))]))]
def qv:Fn:=bI 4 1 wM
@[reducible] def yN:List Ds:=[(zB (zv 43 qH (eV 0) [(eV 1),(eV 2),(eV 3),(eV 4)])),(zp 5 (zv 43 qv (eV 0) [(eV 2),(gN uN (eV 3) (eC (.int 0))),(eV 4)])),(bL (fD (tE (zw .GtE (aX (eV 5) (eC (.int 0))) (za (za (eV 0) 9) 1))) (tE (zw .Gt (aX (eV 5) (eC (.int 2))) (za (za (eV 0) 9) 0)))) [(zH 19 [(eC (.str "no such stretch is free"))])] []),(zB (W3 (za (eV 0) 10) (W8 42 xI [(eV 1),(eV 5)]))),(zh (eV 5))]
def ju:Fn:=bI 5 1 yN
@[reducible] def ke:List Ds:=[(zB (z4 qU [(za (eV 0) 9),(eV 1)])),(vr (.one 2) (iE (za (eV 0) 10)) [(bL (jU (tE (zw .Eq (za (eV 2) 6) (eV 1))) (qh (tE (za (eV 2) 8)))) [(zh (eV 2))] [])]),(zH 18 [(eC (.str "no lease that was let and isn't cut"))])]
def v5:Fn:=bI 2 1 ke
@[reducible] def jD:List Ds:=[(zp 3 (zv 43 v5 (eV 0) [(eV 1)])),(bL (tE (zw .Is (eV 2) (eC .non))) [(zp 4 (aX (eV 1) (eC (.int 1))))] [(bL (jU (tE (z4 zP [(eV 2)])) (tE (iS (aX (eV 1) (eC (.int 1))) [(.LtE,(eV 2)),(.Lt,(aX (eV 1) (eC (.int 2))))]))) [(zp 4 (zd .Add (eV 2) (eC (.int 1))))] [(zH 16 [(eC (.str "no moment of the lease"))])])]),(zM (eV 3) 7 (eV 4)),(zM (eV 3) 8 (eC (.bl aB)))]
def jE:Fn:=bI 3 2 jD
@[reducible] def jM:List Ds:=[(zh (w9 1 [] (.one 0) (iE (za (eV 0) 10)) [] (wD [(za (eV 0) 5),(aX (za (eV 0) 6) (eC (.int 0))),(aX (za (eV 0) 6) (eC (.int 1))),(za (eV 0) 7)])))]
def wk:Fn:=bI 1 0 jM
@[reducible] def vo:List Ds:=[(zp 2 (z4 qM [(za (eV 0) 9),(eV 1)])),(zp 3 (aX (eV 2) (eC (.int 0)))),(vr (.one 4) (iE (zv 43 q9 (eV 0) [(aX (eV 2) (eC (.int 1)))])) [(bL (tE (z4 e_ [(eV 4),(eV 3),(zd .Add (eV 3) (eC (.int 1)))])) [(zh (za (eV 4) 5))] [])]),(zh (eC .non))]
def zJ:Fn:=bI 2 3 vo
end NH.P
namespace NH
open PySem PySem.Spec PyProof.Rows L2
section
variable {prog:Program}{w:World}{A:Around}{E:aD->Shared->Prop}{h:aV}{g:Array GenState}{d:Drawn}{t:Nat}{os:OsState}
variable {nm q:aH}{C N:aF}{bs bm bmB:List aD}{hdct:Bool}{sn:List aH}{sub:List aD}{ab:Bool}{col:Option Bool}{dd:Option aF}{k0 k1 k2 k3 k5:Option aD}{B newId initId:String}
theorem T7(F:sZ B newId initId bmB)(n:l9 h bmB bm) 
  (i:h.get? C=aA (iL nm q C N bs bm hdct sn sub ab col dd k0 k1 k2 k3 k5 newId)) (p:h.Ns N mN) (v:mN "__init__"=aA (.ref fI)) (gf:h.get? fI=aA u) (gc:u.cls=.type "function")
  (go:∀h1 x,n7 h h1 x (.ref C) us->wpAny (aS prog w) A (call (.ref fI) (.ref x::us)) (λr s=>r=.none/\Q (.done (.ret (.ref x))) s) E ⟨h1,g,d,t,os⟩) (j:us.length<=sizeLine) :
  wpAny (aS prog w) A (mQ.«type.__call__» ⟨.ref C::us,[]⟩) Q E ⟨h,g,d,t,os⟩:=by
 repeat (first|(with_reducible refine oh i ?_)|(with_reducible refine wpAny_madeBy_exc i ?_)|wp_step)
 refine codeAny_call_builtin_code (Ek _ F.quiet) (wpAny_check_new_subT F n i (codeAny_exc_new_subT F n i ?_ j));show wpAny _ _ _ _ _ _;let c:bF:={cls:=.type "tuple",data:=.seq us.toArray};let a:bF:={cls:=.ref C,data:=.fields #[.ref h.objs.size,.none,.none,.none,.bool aC,.none]};have up:∀b o,h.get? b=aA o->((h.push c).push a).get? b=aA o:=λb o e=>bY _ (bY _ e);have f:=up _ _ i;have l:=up _ _ gf;have m:((h.push c).push a).Ns N mN:=by
  obtain⟨o,es,ep,e,r⟩:=p;exact⟨o,es,ep,up _ _ e,r⟩
 have gx:((h.push c).push a).get? (h.objs.size+1)=aA a:=by
  have:=eK (h.push c) (o:=a) rfl;rw[hX] at this;exact this
 have own:(cN C::bm).contains (.ref C)=aB:=by simp
 have y:l9 ((h.push c).push a) bmB bm:=n.keeps up;unfold isInstance;repeat (first|(with_reducible refine oh gx ?_)|(with_reducible refine EL f ?_;rw[own])|wp_step)
 show wpAny _ _ (pO (.ref C) _) _ _ _;refine wpAny_typeLookup_tail f m y F.mroIs F.init.lookup ?_;rw[v];refine wpAny_holding (wpAny_bind ?_);unfold bindSpecial;refine wpAny_bind (sY (T:="function") ⟨_,l,gc⟩ ?_);rw[if_pos (by decide)];have mk:n7 h ((h.push c).push a) (h.objs.size+1) (.ref C) us:=⟨up,lX (iK _),h.objs.size,gx,lX (bD _),bY _ (DT rfl rfl)⟩;refine wpAny_pure (wpAny_bind (dY (go _ _ mk) (λr s k=>?_) λ_ _ z=>z));obtain⟨rfl,k⟩:=k;wp_walk;exact k
theorem UY(F:sZ B newId initId bmB)(f:l9 h bmB bm) 
  (a:h.get? C=aA (iL nm q C N bs bm hdct sn sub ab col dd k0 k1 k2 k3 k5 newId)) (c:h.Ns N mN) (e:mN "__init__"=aA (.ref fI)) (gf:h.get? fI=aA s) (gc:s.cls=.type "function")
  (go:∀h1 x,n7 h h1 x (.ref C) us->wpAny (aS prog w) (A.under (.builtin "type.__call__" ⟨.ref C::us,[]⟩)) (call (.ref fI) (.ref x::us)) (λr j=>r=.none/\Q (.ref x) j) E ⟨h1,g,d,t,os⟩) (b:us.length<=sizeLine) :
  wpAny (aS prog w) A (call (.ref C) us) Q E ⟨h,g,d,t,os⟩:=by
 have l:=tc_lookup;have k:=tc_bind (.ref C);have i:tP ⟨h,g,d,t,os⟩ (.ref C) "type":=⟨_,a,rfl⟩;refine lK (codeAny_of_tree ?_);show wpAny _ _ (callAny (.ref C) _) _ _ _;repeat (any_goals (first|assumption|(with_reducible refine oh a ?_)|wp_step))
 refine⟨rfl,codeAny_call_builtin_at (Ek _ (by decide +kernel)) entry_typeCall (wpAny_check_type_call_sub a ?_)⟩;exact T7 F f a c e gf gc (λh1 x mk=>go h1 x mk) b
theorem Zu (a:bm.contains (.type "BaseException")=aB) (c:A.handled=aE)
  (go:wpAny M A x (λv j=>∃e t dx,v=.ref e/\j.heap.get? C=aA (iL nm q C N bs bm hdct sn sub ab col dd k0 k1 k2 k3 k5 newId)/\
   j.heap.get? e=aA {cls:=.ref C,dict:=dx,data:=.fields #[.ref t,.none,.none,.none,.bool aC,.none]}/\E (.ref e) j) E s) :
  wpAny M A (raiseStmt env (aA x) aE) Q E s:=by
 have iR:(cN C::bm).contains (.type "BaseException")=aB:=by rw[tZ,a];simp
 unfold raiseStmt;refine wpAny_bind (dY go (λv j k=>?_) λ_ _ z=>z);obtain⟨e,t,dx,rfl,b,ge,d⟩:=k;obtain⟨h,i,l,f,g⟩:=j;repeat (first|(with_reducible refine oh ge ?_)|(with_reducible refine oh b ?_)|(with_reducible refine EL b ?_;rw[iR])|wp_step)
 exact wpAny_raiseNew_none c d
end
section
variable {prog:Program}{w:World}{A:Around}{E:aD->Shared->Prop}{s:Shared}
variable {nm q:aH}{C N:aF}{bs bm bmB:List aD}{hdct:Bool}{sn:List aH}{sub:List aD}{ab:Bool}{col:Option Bool}{dd:Option aF}{k0 k1 k2 k3 k5:Option aD}{B newId initId:String}
theorem TF(F:sZ B newId initId bmB)(k:l9 s.heap bmB bm){e:aF}{ob:bF}{vs:Array aD}{t0:aF}{rest:List aD}{Q:aD->bB->Prop}
  (j:s.heap.get? C=aA (iL nm q C N bs bm hdct sn sub ab col dd k0 k1 k2 k3 k5 newId)) (he:s.heap.get? e=aA ob) (c:ob.cls=.ref C) (hd:ob.data=.fields vs) (h0:vs[0]?=aA (.ref t0))
  (h:Q .none {s with heap:=(s.heap.push {cls:=.type "tuple",data:=.seq rest.toArray}).update e (i9 (·.setIfInBounds 0 (.ref s.heap.objs.size)))}) (b:rest.length<=sizeLine) :
  wpAny (aS prog w) A (call (.builtin initId) (.ref e::rest)) Q E s:=by
 obtain⟨i,g,d,t,os⟩:=s;refine lK (ES F.init.plain F.initEntry (wpAny_check_init_subT F k j he c ?_));unfold mQ.«BaseException.__init__»;dsimp only;rw[if_neg (by simp)];unfold newTuple Lh;have f:0<vs.size:=(oE.mp h0).1;have a:=bY (h:=i) {cls:=.type "tuple",data:=.seq rest.toArray} he;refine wpAny_bind (wf (wpAny_bind (wpAny_bind (lH a hd h0 (wpAny_bind (pW a hd f ?_))))) (by show rest.toArray.size<=sizeLine;rw[d7];exact b));exact wpAny_letGo (wpAny_pure h)
end
def jy:List aD->Bool
 |.ref _::r=>jy r
 |l=>l==zT
theorem kq(self:aD):∀{l:List aD},jy l=aB->PySem.refuseLoop self "__setattr__" l=pure ()
 |.ref c::r,e=>by rw[refuseLoop_ref];exact kq self e
 |.type n::r,e=>by rw[show sW n::r=zT from beq_iff_eq.mp e];exact Fd.passes self
 |[],e=>by cases e
 |v::r,e=>by
  unfold jy at e;split at e
  .rename_i h;cases h;rw[refuseLoop_ref];exact kq self e
  .rw[beq_iff_eq.mp e];exact Fd.passes self
theorem xM:∀{l:List aD},jy l=aB->l.contains (.type "object")=aB
 |.ref c::r,e=>by rw[tZ,xM (l:=r) e,ti]
 |[],e=>by cases e
 |v::r,e=>by
  unfold jy at e;split at e
  .rename_i h;cases h;rw[tZ,xM (l:=_) e,ti]
  .rw[beq_iff_eq.mp e];decide
section
variable {prog:Program}{w:World}{A:Around}{E:aD->Shared->Prop}{s:Shared}{K:PySem.W.Frag}{C x:aF}
theorem RQ(X:K.In s.heap)(B:s.heap.get? x=aA u)(V:u.cls=.ref C)(H:PySem.W.notCls u=aB)(hd:u.dict=aE)
  (hs:c7 K (.ref C) "__setattr__"=aA (aA (.builtin "object.__setattr__"))) (hp:((nR K C).any λcd=>jy cd.mro)=aB) (ht:c7 K (.ref C) name=aA aE) (hh:mi K C=aB)
  (h:∀h' tk,h'.get? x=aA {u with dict:=aA s.heap.objs.size}->h'.Ns1 s.heap.objs.size (λy=>if y=name then aA v else aE)->(∀b o,b≠x->s.heap.get? b=aA o->h'.get? b=aA o)->Q () {s with heap:=h',toks:=tk}) :
  wpAny (aS prog w) A (setAttr (.ref x) name v) Q E s:=by
 have J:DL s.heap x u C aE:=⟨B,V,H,by rw[hd];trivial⟩;refine D1 X J hs ?_;have L:=PySem.F.store_object;obtain⟨cd,m,M⟩:=u8 hp;obtain⟨cd',n,p⟩:=u8 hh;rw[m] at n;cases n;have ne:cd.mro.isEmpty=aC:=by cases q:cd.mro with|nil=>rw[q] at M;cases M|cons _ _=>rfl
 have sub:p_ (aS prog w) s.heap (isInstance (.ref x) (.type "object")) aB:=J.type.andThen (PySem.W.looks_mroIn X (by unfold im;rw[m,Eb,if_neg (by rw[ne];decide),xM M]));refine ES L.slot.plain L.entry (@PySem.W.check_slot (aS prog w) _ _ {s with toks:=s.toks+1} "object.__setattr__" "object" "__setattr__" (.ref x) [.str name s.toks,v] [] _ L.kind L.split sub (L.args (.ref x) (.str name s.toks) v) ?_);have hm:p_ (aS prog w) s.heap (mroOf (.ref C)) cd.mro:=(wl X m).andThen .now;rw[PySem.W.osa_eq,refuse_eq];refine wpAny_bind (wpAny_bind (m4 (s:={s with toks:=s.toks+1}) J.type (wpAny_bind (m4 (s:={s with toks:=s.toks+1}) hm ?_))));rw[kq _ M];refine wpAny_pure (wpAny_bind (m4 (s:={s with toks:=s.toks+1}) J.type (wpAny_bind (m4 (s:={s with toks:=s.toks+1}) (Eu X ht) (wpAny_bind (wpAny_pure ?_))))));obtain⟨i,g,dr,t,os⟩:=s;obtain⟨oc,odi,l,N⟩:=u;dsimp only at V hd B;subst V hd;have G:∀c,l≠.cls c:=λc z=>by subst z;cases H
 refine wpAny_bind (wpAny_pure (wpAny_bind (wpAny_bind (wpAny_loadPart B (wpAny_bind (m4 (s:=⟨i,g,dr,t+1,os⟩) (wl X m) ?_))))));rw[p];have k:(i.push {cls:=.type "dict",data:=.dict #[]}).get? x=aA ⟨.ref C,aE,l,N⟩:=bY _ B;have D:x≠i.objs.size:=cX (bX B)
 have go:wpAny (aS prog w) A.in1 (do
   let d ←alloc {cls:=.type "dict",data:=.dict #[]}
   update x λo=>{o with dict:=aA d}
   dictMade (.ref C) x d) (λa j=>wpAny (aS prog w) A.in1 (match a with
    |some d=>Ab d (.str name t) name v
    |none=>Lg (.ref x) (.ref C) name aC) (λZ j=>match Z with|.done f=>(match (Except.ok f:mL) with|.ok (.ret _)=>Q () j|.ok _=>False|.error e=>E e j)|.again c'=>c'.quiet=aB/\gz (aS prog w) A c' (λr j=>match r with|.ok (.ret _)=>Q () j|.ok _=>False|.error e=>E e j) j) (λe j=>E e j) j) (λe j=>E e j) ⟨i,g,dr,t+1,os⟩:=by
  refine wpAny_bind (wpAny_alloc' ?_);refine wpAny_bind (wpAny_update' k ?_);refine wpAny_pure ?_
  have R:((i.push {cls:=.type "dict",data:=.dict #[]}).update x λo=>{cls:=o.cls,dict:=aA i.objs.size,data:=o.data,slots:=o.slots}).get? i.objs.size
    = aA {cls:=.type "dict",data:=.dict #[]}:=
   (t7 _ _ _ _ D.symm).trans (DT rfl rfl)
  have P:((i.push {cls:=.type "dict",data:=.dict #[]}).update x λo=>{cls:=o.cls,dict:=aA i.objs.size,data:=o.data,slots:=o.slots}).Ns i.objs.size (λ_=>aE):=
   ⟨_,#[],_,R,rfl,λe he=>absurd he (by simp),λ_=>rfl⟩
  show wpAny _ _ (Ab i.objs.size (.str name t) name v) _ _ _;unfold Ab Li;refine wpAny_bind (wpAny_pure (wpAny_bind (wpAny_nsSet1 (DZ P) λh' I hs=>?_)));obtain⟨oD,esD,epD,O,T,U⟩:=I.count (Dk name v Within.nil);refine wpAny_bind (Ef O (by rw[T];exact Ee (dG U (by rw[gJ,ri,eG];lia))) ?_);refine wpAny_pure (h h' _ ?_ ?_ ?_)
  .refine (hs.2 x D).trans (rE _ k ?_);have S:=(Heap.get?_some_iff.mp B).2;cases l<;>first|rfl|exact S
  .obtain⟨o',es,ep,e1,e2,e3,eu,e4⟩:=I;exact⟨o',es,ep,e1,e2,e3,eu,λy=>by rw[e4 y]⟩
  .intro b o Y hb;exact (hs.2 b (cX (bX hb))).trans ((t7 _ _ _ _ Y).trans (bY _ hb))
 cases l<;>first|exact absurd rfl (G _)|exact go
end
theorem uq{K:bO}(X:K.In h)(e:sQ K N=aB)(q:mY K N x=aA (aA v)):h.nsMap N x=aA v:=by
 obtain⟨o,es,ep,b,hd,_,f⟩:=(Heap.Ns.of_isNs (t4 X e):h.Ns N (h.nsMap N));unfold mY at q;split at q
 .rename_i c d i k j a;have:=X _ _ a;rw[b] at this;cases this;cases hd;split at q
  .rename_i g;cases q;rw[<-f];unfold nsFind findBy;rw[<-EG,g];rfl
  .split at q<;>cases q
 .cases q
theorem iA.mro{K:bO}(x:iA K C HE fI fl):((nR K C).any λcd=>jy cd.mro)=aB:=by
 obtain⟨N,nm,q,bs,hd,sn,sub,ab,col,dd,k0,k1,k2,k3,k5,h,_⟩:=x.cls;unfold nR;rw[h];show jy (.ref C::.ref HE::zT)=aB;show jy zT=aB;decide
theorem iA.at_{K:bO}(x:iA K C HE fI fl)(X:K.In h):∃N nm q bs hd sn sub ab col dd k0 k1 k2 k3 k5,h.get? C=aA (iL nm q C N bs (.ref HE::zT) hd sn sub ab col dd k0 k1 k2 k3 k5 "ValueError.__new__")/\h.Ns N (h.nsMap N)/\h.nsMap N "__init__"=aA (.ref fI)/\l9 h zT (.ref HE::zT):=by
 obtain⟨N,nm,q,bs,hd,sn,sub,ab,col,dd,k0,k1,k2,k3,k5,h1,h2,l⟩:=x.cls;obtain⟨t,w,d,u,r,k,c,a,s,b,p,j,i,g,f,e,mN,o,n,m,v⟩:=Js X x.he;exact⟨N,nm,q,bs,hd,sn,sub,ab,col,dd,k0,k1,k2,k3,k5,X _ _ h1,.of_isNs (t4 X h2),uq X h2 l,.own o n m .base⟩
section
variable {X:Cx}{pins:List (aF×bF)}{s:Shared}{σ:St}{H:Hp}{C HE fI:aF}{fl:aH}
theorem Se (hN:X.N[1]?=aA par) (n:iB X.env.scope par) (hd:(par==("__debug__":aH))=aC) (j:(par==("__classdict__":aH))=aC) (O:a.length<=1000) (hb:b.length<=1000) :
  PE X (.JoinedStr [.Constant (.str a) Y p1,.FormattedValue (.Name par M) (-1) aE J,.Constant (.str b) U G] E) (λσ H Q=>∃i:Int,σ[1]?=aA (aA (.int i))/\i.natAbs.log2<1920/\∀z,Q (.str z) H):=by
 rintro c s σ H Q I ⟨i,o,d,q⟩;have e:=Ej (k:=1920) (by decide) d;have P:(lS (toString i)).length<=1921:=by rw[Ex];exact e
 refine D2 ?_;refine aW (Vt (x:=a) c s σ H (λv f=>v=.str a/\f=H) I ⟨rfl,rfl⟩) ?_;rintro u m ⟨v,f,y,r,rfl,rfl⟩;obtain⟨D,rfl⟩:=r;have L:(md++a).length<=1000:=by rw[nQ];show 0+a.length<=1000;lia
 refine⟨_,_,rfl,by rw[eG];lia,?_⟩;refine E4 (aW (ug (i:=1) hN n hd j c m σ f (λv g=>v=.int i/\g=f) y ⟨_,o,rfl,rfl⟩) ?_);rintro u h ⟨v,g,w,r,rfl,rfl⟩;obtain⟨C,rfl⟩:=r;refine Ew d ?_;have K:(md++a++lS (toString i)).length<=3000:=by rw[nQ];lia
 refine⟨_,_,rfl,by rw[eG];lia,?_⟩;have t:Inv X c σ g {h with toks:=h.toks+1+1}:=w.kept (h':=h.heap) λ_ _ q=>q;refine aW (Vt (x:=b) c _ σ g (λv f=>v=.str b/\f=g) t ⟨rfl,rfl⟩) ?_;rintro u l ⟨v,A,p,r,rfl,rfl⟩;obtain⟨B,rfl⟩:=r;have F:(md++a++lS (toString i)++b).length<=5000:=by rw[nQ];lia
 refine⟨_,_,rfl,by rw[eG];lia,by rw[eG];lia,?_⟩;exact⟨.str _,A,p.kept (h':=l.heap) λ_ _ q=>q,⟨_,rfl⟩,q _⟩
theorem Sc (hN:X.N[1]?=aA par) (l:iB X.env.scope par) (hd:(par==("__debug__":aH))=aC) (f:(par==("__classdict__":aH))=aC) (C:a.length<=1000) :
  PE X (.JoinedStr [.Constant (.str a) E p1,.FormattedValue (.Name par D) (-1) aE B] A) (λσ H Q=>∃i:Int,σ[1]?=aA (aA (.int i))/\i.natAbs.log2<1920/\∀z,Q (.str z) H):=by
 rintro b s σ H Q I ⟨i,m,c,q⟩;have e:=Ej (k:=1920) (by decide) c;have F:(lS (toString i)).length<=1921:=by rw[Ex];exact e
 refine D2 ?_;refine aW (Vt (x:=a) b s σ H (λv d=>v=.str a/\d=H) I ⟨rfl,rfl⟩) ?_;rintro u j ⟨v,d,o,r,rfl,rfl⟩;obtain⟨t,rfl⟩:=r;have y:(md++a).length<=1000:=by rw[nQ];show 0+a.length<=1000;lia
 refine⟨_,_,rfl,by rw[eG];lia,?_⟩;refine E4 (aW (ug (i:=1) hN l hd f b j σ d (λv g=>v=.int i/\g=d) o ⟨_,m,rfl,rfl⟩) ?_);rintro u h ⟨v,g,n,r,rfl,rfl⟩;obtain⟨p,rfl⟩:=r;refine Ew c ?_;have w:(md++a++lS (toString i)).length<=3000:=by rw[nQ];lia
 refine⟨_,_,rfl,by rw[eG];lia,by rw[eG];lia,?_⟩;exact⟨.str _,g,n.kept (h':=h.heap) λ_ _ q=>q,⟨_,rfl⟩,q _⟩
noncomputable def Xk(par:aH)(c:List aI):Prop:=
 (∃(a b:aH) (f h:Nat) (p1 e d g:Pos),c=[.Constant (.str a) f p1,.FormattedValue (.Name par e) (-1) aE d,.Constant (.str b) h g]/\a.length<=1000/\b.length<=1000)\/
 ∃(a:aH) (f:Nat) (p1 e d:Pos),c=[.Constant (.str a) f p1,.FormattedValue (.Name par e) (-1) aE d]/\a.length<=1000
theorem Tp (hN:X.N[1]?=aA par) (f:iB X.env.scope par) (hd:(par==("__debug__":aH))=aC) (c:(par==("__classdict__":aH))=aC) (h:Xk par d) :
  PE X (.JoinedStr d r) (λσ H Q=>∃i:Int,σ[1]?=aA (aA (.int i))/\i.natAbs.log2<1920/\∀z,Q (.str z) H):=by
 rcases h with⟨a,b,k,n,p1,j,g,m,rfl,e,l⟩|⟨a,k,p1,j,g,rfl,e⟩
 .exact Se hN f hd c e l
 .exact Sc hN f hd c e
theorem PQ (T:iA X.K C HE fI fl) (E:X.N[0]?=aA d) (p:iB X.env.scope d) (A:(d==("__debug__":aH))=aC) (n:(d==("__classdict__":aH))=aC)
  (hN:X.N[1]?=aA par) (hv:iB X.env.scope par) (hd:(par==("__debug__":aH))=aC) (D:(par==("__classdict__":aH))=aC) (y:Xk par g)
  (hB:Gl X B) (hm:X.mg B=aA (.ref HE)) (G:(B==("__debug__":aH))=aC) (v:mw X.K (.ref HE) "__getattribute__"=aA (aA (.builtin "type.__getattribute__"))) (hr:tz X.K HE (.type "type")=aB)
  (hf:sX X.K (.ref HE) (.type "type") "__init__"=aA (.val (.builtin "ValueError.__init__"))) (f:(M.endLine==r.line)=aB) :
  PE X (.Call (.Attribute (.Name B q0) "__init__" M) [.Name d q2,.JoinedStr g p5] [] r) (λσ H Q=>∃(x:aF) (i:Int),σ[0]?=aA (aA (.ref x))/\σ[1]?=aA (aA (.int i))/\i.natAbs.log2<1920/\H x=aA (.ext (uY x C))/\Q .non (upd H x (.ext (uY x C)))):=by
 rintro c s σ H Q I ⟨x,i,h0,S,m,R,q⟩;rw[tQ];refine wpAny_bind (vb I hB hm ?_ G);refine wpAny_bind (hW ?_);have l:mW aB (.Name B q0) X.env M r=pure r:=by unfold mW;simp[f]
 unfold nM;refine wpAny_bind (wpAny_holding (PySem.W.method_cls I.kIn v (PySem.W.cls_value I.kIn hr hf rfl ?_)));refine wpAny_bind (nP l ?_);have I1:Inv X c σ H {s with toks:=s.toks+1}:=I.kept (h':=s.heap) λ_ _ q=>q;have pa:PA X [.Name d q2,.JoinedStr g p5] _:=zK (ug (i:=0) E p A n) (zK (Tp hN hv hd D y) qL);refine PySem.W.callWith_of (P:=λ_=>True) (first:=[]) rfl (λh _=>⟨.machine,.inr (.inl rfl),IE rfl⟩) (m9 (aW (pa r c _ σ H (λL H1=>∃z,L=[.ref x,.str z]/\H1=H) I1 ⟨_,h0,i,S,m,λz=>⟨z,rfl,rfl⟩⟩) ?_));rintro U a ⟨L,H2,J,V,z,rfl,rfl⟩;obtain⟨j,rfl⟩:∃j,U=[.ref x,j]:=by
  cases V with
  |cons r1 Z=>cases Z with
   |cons r3 Y=>cases Y;cases r1;exact⟨_,rfl⟩
 refine⟨trivial,?_⟩;obtain⟨N,nm,qn,bs,hdd,sn,sub,ab,col,dd,k0,O,k2,k3,k5,g1,g2,g3,g4⟩:=T.at_ J.kIn;obtain⟨t,ex⟩:uY x C a.heap:=(show aZ X.prog X.w H2 a.heap x (.ext (uY x C)) from J.hok _ _ R).1;refine TF (rest:=[j]) oC g4 g1 ex rfl rfl rfl ?_ (by rw[eG];show 1<=_;lia);have lt:x<a.heap.objs.size:=bX ex;have ex1:=bY (h:=a.heap) {cls:=.type "tuple",data:=.seq [j].toArray} ex;have O:∀b u,b≠x->a.heap.get? b=aA u->((a.heap.push {cls:=.type "tuple",data:=.seq [j].toArray}).update x (i9 (·.setIfInBounds 0 (.ref a.heap.objs.size)))).get? b=aA u:=λb u hb hu=>by
  rw[nc _ _ (bW hb)];exact bY _ hu
 have ex2:((a.heap.push {cls:=.type "tuple",data:=.seq [j].toArray}).update x (i9 (·.setIfInBounds 0 (.ref a.heap.objs.size)))).get? x=aA {cls:=.ref C,data:=.fields #[.ref a.heap.objs.size,.none,.none,.none,.bool aC,.none]}:=by
  rw[rE _ ex1 rfl];rfl
 exact⟨.non,_,J.write (x:=x) (e:=x) (o:=.ext (uY x C)) (t':=a.toks) (by rw[R];exact gB) (.inl rfl) O ⟨_,ex2⟩ ⟨⟨_,ex2⟩,⟨_,ex2⟩,λS h2 ⟨t,e⟩ k=>⟨t,k _ e⟩⟩,rfl,q⟩
theorem Tx (m:iA X.K C HE fI fl) (F:X.N[0]?=aA d) (y:iB X.env.scope d) (B:(d==("__debug__":aH))=aC) (l:(d==("__classdict__":aH))=aC)
  (hN:X.N[1]?=aA par) (R:iB X.env.scope par) (hd:(par==("__debug__":aH))=aC) (E:(par==("__classdict__":aH))=aC) :
  PS X (.Assign [.Attribute (.Name d q0) fl q1] (.Name par q2) q3) (λD σ H=>∃(x:aF) (i:Int),σ[0]?=aA (aA (.ref x))/\σ[1]?=aA (aA (.int i))/\H x=aA (.ext (uY x C))/\∀dx,H dx=aE->dx≠x->D.nx σ (upd (upd H x (.ext (ZA x C dx))) dx (.xd [(fl,.int i)]))):=by
 rintro a s σ H D I ⟨x,i,Y,M,L,q⟩;refine plainObj_wpAny_Assign_Attribute (aW (ug (i:=1) hN R hd E a s σ H (λv n=>v=.int i/\n=H) I ⟨_,M,rfl,rfl⟩) ?_) rfl;rintro u P ⟨v,n,I1,r,rfl,rfl⟩;refine aW (ug (i:=0) F y B l a P σ n (λv g=>v=.ref x/\g=n) I1 ⟨_,Y,rfl,rfl⟩) ?_;rintro ov c ⟨v,g,j,Q,rfl,rfl⟩;cases Q;obtain⟨t,ex⟩:uY x C c.heap:=(show aZ X.prog X.w g c.heap x (.ext (uY x C)) from j.hok _ _ L).1;refine RQ j.kIn ex rfl rfl rfl m.sa m.mro m.no m.dct λZ O G e2 e3=>?_;have lt:x<c.heap.objs.size:=bX ex;have U:g c.heap.objs.size=aE:=j.hok.fresh (bD _);have J:c.heap.objs.size≠x:=hS lt;refine⟨σ,_,?_,q _ U J⟩;have h:dF X g c.heap.objs.size:=jm j (lX (bD _));have A:∀p∈a,p.1≠c.heap.objs.size:=λp T z=>by
  have:=(j.pin p (dH _ T)).1;rw[z,lX (bD _)] at this;cases this
 have I3:Inv X a σ (upd g x (.ext (ZA x C c.heap.objs.size))) {c with heap:=Z,toks:=O}:=j.write (x:=x) (e:=x) (by rw[L];exact gB) (.inl rfl) (λb u W S=>e3 b u W S) ⟨_,G⟩ ⟨⟨t,G⟩,⟨_,G⟩,λM h2 ⟨t,e⟩ k=>⟨t,k _ e⟩⟩;have o:dF X (upd g x (.ext (ZA x C c.heap.objs.size))) c.heap.objs.size:=⟨by rw[z7 J];exact h.free,h.loc,h.nfs,h.new,h.cel,h.pin⟩;refine vz I3 o A ⟨_,e2,λf=>?_⟩;show cQ (gT f [(fl,V.int i)]) (if f=fl then aA u else aE);by_cases z:f=fl
 .subst z;rw[if_pos rfl];simp only[gT,beq_self_eq_true];exact r
 .rw[if_neg z];have:(f==fl)=aC:=beq_eq_false_iff_ne.mpr z;simp only[gT,this];exact trivial
end
def GZ(body:List bG)(B b par fl:aH):Prop:=∃(k d j l c i h g f e:Pos) (a:List aI),
 body=[.Expr (.Call (.Attribute (.Name B k) "__init__" d) [.Name b j,.JoinedStr a l] [] c) i,.Assign [.Attribute (.Name b h) fl g] (.Name par f) e]/\(d.endLine==c.line)=aB/\Xk par a
noncomputable def Cr(a par B:aH)(sc:Scope):Bool:=(sc.kind==.function)&&!sc.isCoroutine&&!sc.isGenerator&&(a != par)&&(sc.names.lookup a==aA .local)&&(sc.names.lookup par==aA .local)&&sc.names.all (λy=>y.2 != .free)&&(sc.names.lookup B==aA .globalImplicit)&&
 (a != ("__debug__":aH))&&(a != ("__classdict__":aH))&&(par != ("__debug__":aH))&&(par != ("__classdict__":aH))&&(B != ("__debug__":aH))
section
variable {P:Program}{w:World}{K:PySem.W.Frag}{mg:aH->Option aD}{base:aV}{C HE fI:aF}{fl:aH}{k:Nat}
structure Iw(K:PySem.W.Frag)(mg:aH->Option aD)(HE:aF)(B:aH):Prop where
 mg:mg B=aA (.ref HE)
 ga:mw K (.ref HE) "__getattribute__"=aA (aA (.builtin "type.__getattribute__"))
 rd:tz K HE (.type "type")=aB
 fc:sX K (.ref HE) (.type "type") "__init__"=aA (.val (.builtin "ValueError.__init__"))
theorem Mj{a par B:aH}{params:Arguments}{body:List bG}{I kV doc F b ct N:aD}{an L:Option aF} 
  (D:iA K C HE fI fl) (hi:Iw K mg HE B) (lk:K.lookup fI=aA ⟨N,L,.func (f8 name qual params body scope I kV doc F an b ct),M⟩) (p:fB K b qual=aB) (O:GZ body B a par fl) (hs:Cr a par B scope=aB) :
  bS P w K mg base CX (k+1) fI (f8 name qual params body scope I kV doc F an b ct) [a,par] (oZ C fl):=by
 simp only[Cr,cO,f6,beq_iff_eq,oi,bne_iff_ne,ne_eq] at hs;obtain⟨⟨⟨⟨⟨⟨⟨⟨⟨⟨⟨⟨Z,Y⟩,X⟩,V⟩,t⟩,r⟩,U⟩,T⟩,R⟩,z⟩,y⟩,v⟩,u⟩:=hs;have S:dT [a,par] [a,par] scope:=⟨Z,Y,X,by simp[V],rfl,λx c=>by
  rcases cK.mp c with rfl|c
  .exact .inl t
  .rw[bU.mp c];exact .inl r,U⟩
 obtain⟨q0,q1,q2,p5,q4,q5,r0,r1,r2,r3,l,rfl,c5,c6⟩:=O;refine GC (fnb:=λ_=>aB) lk p S (λJ H Q E q=>by obtain⟨x,i,rfl,_⟩:=q;rfl) λA m s H J Q E hr n _=>?_;obtain⟨x,i,rfl,d,c,q⟩:=n;have g:(a==("__debug__":aH))=aC:=beq_eq_false_iff_ne.mpr R;have j:(a==("__classdict__":aH))=aC:=beq_eq_false_iff_ne.mpr z;have f:(par==("__debug__":aH))=aC:=beq_eq_false_iff_ne.mpr y;have h:(par==("__classdict__":aH))=aC:=beq_eq_false_iff_ne.mpr v;have o:(B==("__debug__":aH))=aC:=beq_eq_false_iff_ne.mpr u;refine⟨_,Kj (Yo (PQ (C:=C) (HE:=HE) (fI:=fI) (fl:=fl) D rfl (.inl t) g j rfl (.inl r) f h c6 T hi.mg o hi.ga hi.rd hi.fc c5)) (Sj (Tx (C:=C) (HE:=HE) (fI:=fI) D rfl (.inl t) g j rfl (.inl r) f h)),?_⟩;refine⟨x,i,rfl,rfl,d,c,x,i,rfl,rfl,z3,λdx e G=>?_⟩;rw[Y0];exact q dx (by rw[z7 G] at e;exact e) G
end
section
variable {P:Program}{w:World}{K:PySem.W.Frag}{mg:aH->Option aD}{base:aV}{C HE fI:aF}{fl:aH}{k:Nat}
theorem Oi{a par B:aH}{params:Arguments}{body:List bG}{e kV doc d b ct i:aD}{an h:Option aF} 
  (f:iA K C HE fI fl) (hi:Iw K mg HE B) (lk:K.lookup fI=aA ⟨i,h,.func (f8 name qual params body scope e kV doc d an b ct),g⟩) (c:fB K b qual=aB) (j:GZ body B a par fl) (hs:Cr a par B scope=aB) :
  bS P w K mg base CX (k+1) fI (f8 name qual params body scope e kV doc d an b ct) [a,par] (oZ C fl):=Mj f hi lk c j hs
end
section
variable {X:Cx}{pins:List (aF×bF)}{s:Shared}{σ:St}{H:Hp}
theorem Ji(I:Inv X pins σ (upd H x (.ext φ)) s)(j:H x=aE):Inv X pins σ H s:=by
 have nn:∀b,upd H x (.ext φ) b=aE->H b=aE:=λb e=>by
  by_cases z:b=x
  .rw[z];exact j
  .rw[z7 z] at e;exact e
 have d:∀b o,upd H x (.ext φ) b=aA o->(∀a,o≠.ext a)->H b=aA o:=λb o e n=>by
  by_cases z:b=x
  .rw[z,z3] at e;cases e;exact absurd rfl (n φ)
  .rw[z7 z] at e;exact e
 refine⟨I.ok,I.os,I.bare,⟨I.base.keep,I.base.slot,λb o e n h=>nn b (I.base.free b o e n h),I.base.there,λb i e=>d b _ (I.base.tups b i e) (λa z=>by cases z),λb o u e=>d b _ (I.base.frzs b o u e) (λa z=>by cases z),λb k e=>?_⟩,I.loc,I.cell,nn _ I.free,λy c e=>(I.freeC y c e).imp (nn _) λ⟨n,o,u,f⟩=>⟨n,o,u,d c _ f (λa z=>by cases z)⟩,λp t=>?_,λb l e=>?_,I.len⟩
 .obtain⟨g,q⟩:=I.base.tbls b k e;exact⟨g,d b _ q (λa z=>by cases z)⟩
 .obtain⟨e,n,r⟩:=I.pin p t;exact⟨e,nn _ n,r⟩
 .have m:b≠x:=λz=>by rw[z,j] at e;cases e
  have q:=I.hok b l (by rw[z7 m];exact e);exact q.stay (λ_ _ _ q=>q) (λc q=>d c _ q (λa z=>by cases z)) λc i q=>d c _ q (λa z=>by cases z)
end
section
variable {X:Cx}{D:DP}{W:XW}{Γ:Cn}{k:Nat}{pins:List (aF×bF)}{s:Shared}{σ:St}{H:Hp}{φ α:List aF}{τ:Sl}{μ:Mem}{a:aI}{pos:Pos}{E:Ends}{g:De}
theorem TM{a b:HO}(h:x≠y):upd (upd H x a) y b=upd (upd H y b) x a:=by
 funext c;by_cases z:c=y
 .subst z;rw[z3,z7 (bW h),z3]
 .rw[z7 z];by_cases d:c=x
  .subst d;rw[z3,z3]
  .rw[z7 d,z7 d,z7 z]
theorem Rm(M:iA X.K C HE fI fl)(hb:Binds X.K fd ps [])(hr:bZ (kk+1) X.A)
  (F:bS X.prog X.w X.K X.mg X.base (dB X.prog X.w) kk fI fd ps (oZ C fl)) (I:Inv X pins σ H s) (r:RelV (.int i) u) (b:i.natAbs.log2<1920)
  (q:∀x dx t j,Inv X pins σ (upd H dx (.xd [(fl,.int i)])) j->H dx=aE->dF X H x->dx≠x->j.heap.get? x=aA {cls:=.ref C,dict:=aA dx,data:=.fields #[.ref t,.none,.none,.none,.bool aC,.none]}->Q (.ref x) j) :
  wpAny (aS X.prog X.w) X.A (call (.ref C) [u]) Q X.xe s:=by
 obtain⟨N,nm,qn,bs,T,sn,sub,ab,col,dd,k0,k1,k2,k3,k5,Y,W,V,U⟩:=M.at_ I.kIn;obtain⟨B,gf,gc⟩:∃B,s.heap.get? fI=aA B/\B.cls=.type "function":=by
  obtain⟨o,h,e⟩:=ow.mp M.fn;exact⟨o,I.kIn _ _ h,e⟩
 obtain⟨hh,gg,d,g,os⟩:=s;refine UY oC U Y W V gf gc (λl x mk=>?_) (by rw[eG];show 1<=_;lia);have J:Inv X pins σ H ⟨l,gg,d,g,os⟩:=I.kept (t':=g) mk.keeps;have y:dF X H x:=jm I mk.new;have D:∀p∈pins,p.1≠x:=λp R z=>by
  have:=(I.pin p (dH _ R)).1;rw[z,mk.new] at this;cases this
 obtain⟨t,h,_,_⟩:=mk.there;have L:Inv X pins σ (upd H x (.ext (uY x C))) ⟨l,gg,d,g,os⟩:=vz J y D ⟨⟨t,h⟩,⟨_,h⟩,λl h2 ⟨t,e⟩ k=>⟨t,k _ e⟩⟩;have P:aY [.ref x,.int i] [.ref x,u]:=.cons rfl (.cons r .nil);have S:([cN x,u]++[]).length=ps.length:=by
  have:=F.len [.ref x,.int i] (upd H x (.ext (uY x C))) (λ_ _=>True) (λ_ _ _=>False) ⟨x,i,rfl,b,z3,λ_ _ _=>trivial⟩;exact this
 refine lK (i7 (F.run _ X.stack ⟨l,gg,d,g,os⟩ (upd H x (.ext (uY x C))) ⟨[.ref x,u],[]⟩ [.ref x,u] [.ref x,.int i] (λv O=>v=.non/\∃dx,H dx=aE/\dx≠x/\O=upd (upd H x (.ext (ZA x C dx))) dx (.xd [(fl,.int i)])) (λ_ _ _=>False) (hr.make C [u] []) (L.env0.make C [u] []) (by simpa using hb _ [.ref x,u] L.kIn S) P
  ⟨x,i,rfl,b,z3,λdx a c=>⟨rfl,dx,by rw[z7 c] at a;exact a,c,by rw[Y0]⟩⟩) λn j f=>?_)
 cases n with
 |error e=>
  obtain⟨_,_,_,_,_,_,_,_,_,_,_,_,_,_,_,z⟩:=f;exact z.elim
 |ok E=>
  cases E with
  |ret v=>
   obtain⟨v',O,G,m,⟨rfl,dx,a,c,rfl⟩⟩:=L.after f;refine⟨m,?_⟩;obtain⟨t',Z⟩:ZA x C dx j.heap:=(show aZ X.prog X.w _ j.heap x (.ext (ZA x C dx)) from G.hok x _ (by rw[z7 (bW c),z3])).1;rw[TM (bW c)] at G;have I4:=Ji G (by rw[z7 (bW c)];exact y.free);exact q x dx t' j I4 a y c Z
  |next=>exact eF f
  |brk=>exact eF f
  |cont=>exact eF f
noncomputable def hash(m:aH):aH:=⟨#[35]++m.cps⟩
theorem U9(C:Sk D W Γ X k)(hc:Γ.calm=aB)(hx:x∈Γ.G)(hU:hash x∈Γ.U)(hg:Γ.gl (hash x)=.xin n f x fl)(O:aO a=aB)(ha:PE X a (aU D W g)) :
  PS X (.Raise (aA (.Call (.Name x p0) [a] [] p1)) aE pos) (dQ D W (VD n f g)):=by
 rintro M s T H E I ⟨B,α,S,μ,sr,mr,p⟩;have q:=(C.glU _ hU).1;rw[hg] at q;obtain⟨C0,HE,fI,fd,ps,kk,ad,hm,hfl,Z,hb,hkk,F⟩:=q;have hr:=(C.rom hc).mono hkk;obtain⟨N,nm,qn,bs,hdd,sn,sub,ab,col,dd,k0,k1,k2,k3,k5,g1,g2,g3,g4⟩:=Z.at_ I.ok.mod.kin;have h:(cN HE::zT).contains (.type "BaseException")=aB:=g4.hasType oC.hasBase
 have body:wpAny (aS X.prog X.w) X.A (eval (.Call (.Name x p0) [a] [] p1) X.env) (λv R=>∃e t dx,v=.ref e/\R.heap.get? C0=aA (iL nm qn C0 N bs (.ref HE::zT) hdd sn sub ab col dd k0 k1 k2 k3 k5 "ValueError.__new__")/\
   R.heap.get? e=aA {cls:=.ref C0,dict:=dx,data:=.fields #[.ref t,.none,.none,.none,.bool aC,.none]}/\X.xe (.ref e) R) X.xe s:=by
  refine wpAny_Call_ofName (vb I (C.glb x hx) hm ?_ (C.dbG x hx));refine oy (K:=X.K) (first:=[]) (h₀:=X.base) I.ok.mod.kin Z.kp (aW (zK ha qL (z5 O) p1 M s T H (λvs j=>∃v t l b,vs=[v]/\aQ α H b j/\a_ D B b j S T/\aL D B b j l/\bA D B b j t v/\aK D W B b j E ((match t with
   |.int i=>.grd (i.natAbs.log2<1920) (.ex n [(f,.int i)] S l)
   |_=>.st:cM))) I ⟨B,α,S,μ,sr,mr,(aK.out sr p).mono λt V Y H' st m q v d=>⟨v,t,V,Y,rfl,st,sr.step st,m,d,q⟩⟩) ?_) (z5 O) rfl
  rintro us R ⟨vs,j,I1,rv,v,t,l,b,rfl,st1,sr1,o,d1,p1⟩;obtain⟨u,rfl,r⟩:∃u,us=[u]/\RelV v u:=by
   cases rv with
   |cons r1 r2=>cases r2;exact⟨_,rfl,r1⟩
  refine⟨I1.kIn,?_⟩;cases t<;>first|(obtain⟨Q,q,_⟩:=p1;exact q.elim)|skip
  rename_i i;obtain⟨P,p2⟩:=aK.grd p1;cases d1;refine Rm Z hb hr F I1 r P λe dx t s' I2 y z ne he=>?_;refine⟨e,t,aA dx,rfl,I2.bk _ _ g1,he,C.xe _ _ ?_⟩;have sm:kL j (upd j dx (.xd [(fl,.int i)])):=zm y;have L:aQ b j b (upd j dx (.xd [(fl,.int i)])):=aQ.new sm;refine⟨e,.ref C0,aA dx,T,_,aE,.none,rfl,I2.pins_of (λp hp=>absurd hp (by simp)),⟨by rw[z7 (bW ne)];exact z.free,z.loc,z.nfs,z.new,z.cel,z.pin⟩,λt ht=>absurd ht (by simp),⟨⟨_,_,.ref t,he,⟨rfl,rfl⟩,rfl,rfl,rfl,λ_ _=>rfl⟩,rfl⟩,.inl rfl,?_⟩;refine aK.ex p2 L (o.new sm) (sr1.step L) (.own C0 ad rfl) ⟨_,zr o y,zt o y,z3,?_⟩;exact⟨fl,.int i,[],hfl,rfl,rfl,rfl⟩
 rw[arm_exec_Raise]
 first
  |exact wpAny_bind (hW (Zu h (I.ok.hd (C.clm hc)) (wpAny_bind (dY body (λv J c=>wpAny_bind (hW (wpAny_pure c))) λ_ _ x=>x))))
  |(simp only[evalOpt,Option.map];exact wpAny_bind (hW (Zu h (I.ok.hd (C.clm hc)) (wpAny_bind (dY body (λv J c=>wpAny_bind (hW (wpAny_pure c))) λ_ _ x=>x)))))
end
def FQ:GM->Option (Nat×Nat×aH×aH)
 |.xin c f nm fl=>aA (c,f,nm,fl)
 |_=>aE
theorem Pa(h:FQ g=aA q):g=.xin q.1 q.2.1 q.2.2.1 q.2.2.2:=by cases g<;>first|(cases h;rfl)|cases h
def HA:SR:=λr b s=>(r6 s).bind λe=>(k_ e).bind λq=>(yO q.as).bind λa=>gd (b.calm&&b.G.contains q.x) (gd (b.U.contains (hash q.x)&&aO a) ((r.e b a).bind λg=>(FQ (b.gl (hash q.x))).bind λw=>gd ((cJ b.N q.x).isNone&&w.2.2.1==q.x) (aA (VD w.1 w.2.1 g))))
theorem UT:nA D HA:=by
 intro r H X W s k e d C h;obtain⟨u,l,h⟩:=aR h;obtain⟨q,j,h⟩:=aR h;obtain⟨a,i,h⟩:=aR h;obtain⟨f,h⟩:=z9 h;obtain⟨c,h⟩:=z9 h;obtain⟨g,p,h⟩:=aR h;obtain⟨w,o,h⟩:=aR h;obtain⟨n,h⟩:=z9 h;cases h;obtain⟨t,m⟩:=YN l;rw[m,qQ j,q_ i];have b:=Pa o;rw[qr (zy n).2] at b;exact U9 C (zy f).1 (by simpa using (zy f).2) (by simpa using (zy c).1) b (zy c).2 (H.e C.toCk p)
noncomputable abbrev zbu(n:Nat)(o f:De):De:=λd e=>(o d e).bind λt c=>(Zr t n c).bind λw b=>.grd (LK w) ((f d b).bind λ_ a=>.ok .non a)
abbrev zbx(j:Nat):De:=λ_ (a:Mem) K _=>(∃i:Nat,a[i]?=aA (MO.tab j))/\K (.clo (2*j) [.clo (100+j) []]) a
noncomputable def zbA:aH:=⟨#[37]⟩
section
variable {X:Cx}{pins:List (aF×bF)}{s:Shared}{σ:St}{H:Hp}{c:aI}
theorem K4{ad C0 dx:aF}{m:aH}{v:V}(I:Inv X pins σ H s)(e:H ad=aA (.ins C0 dx gs))(c:gR X.K C0)(n:cH X.K C0 m)(l:gs.lookup m=aA v)
  (h:∀u d,Inv X pins σ H d->RelV v u->Q (u,[]) d):wpAny (aS X.prog X.w) A (sU (.ref ad) m pl) Q E s:=by
 obtain⟨b,O,r,_,_,_⟩:=y0 I.hok e;obtain⟨a,J,f⟩:=O.look;exact PySem.W.method_usual I.kIn J (oA (c.get m)).1 (oA (c.get m)).2 n rfl (ZT I e c n l h)
end
theorem Zz:∀{l:List (aH×Nat)},l.lookup x=aA n->(x,n)∈l
 |[],h=>by cases h
 |(y,m)::r,h=>by
  rw[f7] at h;split at h
  .rename_i e;have e:=beq_iff_eq.mp e;cases h;rw[e];exact dJ
  .exact cW _ (Zz h)
section
variable {K:PySem.W.Frag}{k n:Nat}
theorem kE(hd:fd.defaults=.ref d)(ho:K.lookup d=aA o)(hs:o.data=.seq items n)(h:∀us:List aD,us.length=ps.length->∃k,me fd ⟨us,[]⟩=seqItems? fd.defaults >>= k/\k (aA items)=pure (ps.zip us)):Binds K fd ps []:=λs us X a=>by
 rw[gU] at a ⊢;obtain⟨k,c,b⟩:=h us a;exact PySem.W.binds_K X hd ho hs c b
end
end NH
namespace NH.P
open PySem L2 NH
@[reducible] def j3:List Ds:=[(zh (QB (z4 zP [(eV 0)]) (zw .GtE (eV 0) (eC (.int 0)))))]
def qF:Fn:=bI 1 0 j3
@[reducible] def ud:List Ds:=[(bL (fD (qh (tE (yP [4] (eV 1)))) (tE (zw .NotEq (dX u4 (eV 1)) (eC (.int 2))))) [(zh (eC (.bl aC)))] []),(bL (qh (fD (tE (zw .Is (aX (eV 1) (eC (.int 0))) (eC .non))) (tE (z4 kA [(eV 0),(aX (eV 1) (eC (.int 0)))])))) [(zh (eC (.bl aC)))] []),(zh (CT (zw .Is (aX (eV 1) (eC (.int 1))) (eC .non)) (z4 qE [(aX (eV 1) (eC (.int 1))),(za (eV 0) 0)])))]
def Zf:Fn:=bI 2 0 ud
@[reducible] def yo:List Ds:=[(zM (eV 0) 11 (eV 1)),(zM (eV 0) 12 (eV 2)),(zM (eV 0) 13 (eV 3))]
def qT:Fn:=bI 4 0 yo
@[reducible] def WC:List Ds:=[(zh (z4 Zc [(eV 0),(zd .FloorDiv (eV 2) (za (eV 0) 2)),(eV 1),(zd .Mod (eV 2) (za (eV 0) 2))]))]
def y6:Fn:=bI 3 0 WC
@[reducible] def xk:List Ds:=[(zp 3 (z4 qM [(eV 0),(eV 2)])),(bL (tE (zw .Lt (aX (eV 3) (eC (.int 1))) (eV 1))) [(zh (zd .Mult (aX (eV 3) (eC (.int 0))) (za (eV 0) 2)))] []),(bL (tE (zw .Gt (aX (eV 3) (eC (.int 1))) (eV 1))) [(zh (zd .Mult (zd .Add (aX (eV 3) (eC (.int 0))) (eC (.int 1))) (za (eV 0) 2)))] []),(zh (zd .Add (zd .Add (zd .Mult (aX (eV 3) (eC (.int 0))) (za (eV 0) 2)) (aX (eV 3) (eC (.int 2)))) (eC (.int 1))))]
def vG:Fn:=bI 3 1 xk
@[reducible] def j8:List Ds:=[(bL (tE (za (eV 0) 20)) [(zH 24 [(eC (.str "the house has fallen"))])] [])]
def zR:Fn:=bI 1 0 j8
@[reducible] def yU:List Ds:=[(zh (wD [(za (eV 0) 6),(za (eV 0) 17)]))]
def jh:Fn:=bI 1 0 yU
@[reducible] def qV:List Ds:=[(bL (tE (zw .Is (za (eV 0) 6) (eC .non))) [(zH 18 [(eC (.str "the house has no lease"))])] [])]
def zC:Fn:=bI 1 0 qV
@[reducible] def vu:List Ds:=[(bL (tE (zw .IsNot (za (eV 0) 18) (eC .non))) [(zh (z4 vG [(za (eV 0) 9),(aX (za (eV 0) 6) (eC (.int 0))),(za (eV 0) 18)]))] []),(bL (tE (zw .IsNot (za (eV 0) 17) (eC .non))) [(zh (zd .Mult (zd .Add (za (eV 0) 17) (eC (.int 1))) (za (za (eV 0) 9) 2)))] []),(zh (eC (.int 0)))]
def qJ:Fn:=bI 1 0 vu
@[reducible] def vf:List Ds:=[(bL (fD (qh (tE (z4 wX [(eV 2)]))) (tE (zw .Gt (eV 2) (za (za (eV 0) 9) 2)))) [(zH 20 [(eC (.str "so many are whole numbers from 1 on up to the shape's counts"))])] []),(bL (qh (tE (z4 zP [(eV 1)]))) [(zH 16 [(eC (.str "a reading is a whole number"))])] []),(zB (zv 45 zC (eV 0) [])),(zp 3 (zd .Mult (gN uN (aX (za (eV 0) 6) (eC (.int 1))) (eV 1)) (za (za (eV 0) 9) 2))),(zp 4 (gN uN (zv 45 qJ (eV 0) []) (eV 3))),(zp 5 (zd .Add (eV 4) (eV 2))),(bL (tE (zw .Gt (eV 5) (zd .Mult (aX (za (eV 0) 6) (eC (.int 2))) (za (za (eV 0) 9) 2)))) [(zH 18 [(eC (.str "the lease has not so many names"))])] []),(zp 6 (zd .Sub (zd .FloorDiv (zd .Sub (eV 5) (eC (.int 1))) (za (za (eV 0) 9) 2)) (zd .Add (eV 1) (za (eV 0) 14)))),(bL (tE (zw .Gt (eV 6) (eC (.int 0)))) [(VD 21 29 (eV 6))] []),(zh (nu 44 qT [(aX (za (eV 0) 6) (eC (.int 0))),(eV 4),(eV 5)]))]
def qf:Fn:=bI 3 4 vf
@[reducible] def qK:List Ds:=[(bL (jU (tE (zw .IsNot (za (eV 0) 17) (eC .non))) (tE (zw .LtE (eV 1) (za (eV 0) 17)))) [(zh (za (eV 0) 17))] []),(zh (gN yh (zd .Add (eV 1) (za (eV 0) 15)) (zd .Sub (za (za (eV 0) 9) 0) (eC (.int 1)))))]
def qA:Fn:=bI 2 0 qK
@[reducible] def Wo:List Ds:=[(zp 2 (zd .Mod (zd .Mult (zd .Add (zd .Add (zd .Mod (eV 0) (eC (.int 2147483629))) (zd .Mult (eC (.int 69621)) (eV 1))) (eC (.int 1))) (eC (.int 48271))) (eC (.int 2147483629)))),(zp 2 (zd .Mod (zd .Mult (eV 2) (zd .Add (zd .FloorDiv (eV 2) (eC (.int 1009))) (eC (.int 69621)))) (eC (.int 2147483629)))),(zp 2 (zd .Mod (zd .Mult (eV 2) (zd .Add (zd .Add (zd .FloorDiv (eV 2) (eC (.int 907))) (eC (.int 16807))) (eV 1))) (eC (.int 2147483629)))),(zh (zd .Mod (zd .Mult (eV 2) (zd .Add (zd .FloorDiv (eV 2) (eC (.int 1201))) (eC (.int 30011)))) (eC (.int 2147483629))))]
def Ze:Fn:=bI 2 1 Wo
@[reducible] def Q4:List Ds:=[(zh (kO [(zd .Mult (zd .FloorDiv (eV 0) (eC (.int 2))) (zd .Sub (eC (.int 1)) (zd .Mod (eV 0) (eC (.int 2))))),(eV 0),(eC (.int 0))]))]
def j6:Fn:=bI 1 0 Q4
@[reducible] def Wk:List Ds:=[(bL (fD (qh (tE (yP [4] (eV 0)))) (tE (zw .NotEq (dX u4 (eV 0)) (eC (.int 3))))) [(zh (eC (.bl aC)))] []),(zh (QB (z4 zP [(aX (eV 0) (eC (.int 0)))]) (QB (z4 zP [(aX (eV 0) (eC (.int 1)))]) (yP [1] (aX (eV 0) (eC (.int 2)))))))]
def Z7:Fn:=bI 1 0 Wk
@[reducible] def uI:List Ds:=[(bL (fD (qh (tE (yP [5] (eV 0)))) (qh (tE (dX Xy (w9 1 [] (.one 0) (iE (eV 0)) [] (z4 Z7 [(eV 0)])))))) [(zh (eC (.bl aC)))] []),(zh (dX Xy (w9 1 [0] (.one 0) (Ke (eC (.int 1)) (dX u4 (eV 0))) [] (zw .Lt (aX (aX (eV 1) (zd .Sub (eV 0) (eC (.int 1)))) (eC (.int 0))) (aX (aX (eV 1) (eV 0)) (eC (.int 0)))))))]
def kD:Fn:=bI 1 0 uI
@[reducible] def y7:List Ds:=[(bL (fD (qh (tE (z4 zP [(eV 1)]))) (qh (tE (z4 kD [(eV 2)])))) [(zH 15 [(eC (.str "a clock has a whole number and a list of turns whose times rise"))])] []),(zM (eV 0) 3 (eV 1)),(zM (eV 0) 4 (dX Jz (eV 2)))]
def vw:Fn:=bI 3 0 y7
@[reducible] def jQ:List Ds:=[(bL (qh (tE (z4 zP [(eV 1)]))) [(zH 16 [(eC (.str "a time is a whole number"))])] []),(vr (.one 2) (BK (za (eV 0) 4)) [(bL (tE (zw .LtE (aX (eV 2) (eC (.int 0))) (eV 1))) [(zh (zd .Add (aX (eV 2) (eC (.int 1))) (pb (tE (aX (eV 2) (eC (.int 2)))) (zd .Sub (eV 1) (aX (eV 2) (eC (.int 0)))) (eC (.int 0)))))] [])]),(zh (zd .Add (za (eV 0) 3) (eV 1)))]
def wt:Fn:=bI 2 1 jQ
end NH.P
namespace NH
open PySem PySem.Spec PyProof.Rows L2
abbrev Ak(ts:List T)(μ:Mem):RE T:=.som (cP ts) λa=>.ok (.int a.sum) μ
abbrev rQ(t:T)(μ:Mem):RE T:=match t with
 |.lst a=>Ak a μ
 |.mut i=>λK Z=>∃a,μ[i]?=aA (.lst a)/\Ak a μ K Z
 |_=>.st
def Mq(i:Nat)(t:T)(μ:Mem)(a:List T):Prop:=t=.lst a\/∃j,t=.mut j/\j≠i/\μ[j]?=aA (.lst a)
abbrev rZ(o f:De):De:=λe g=>(o e g).bind λh b=>match h with
 |.mut i=>λK Z=>(∃c,b[i]?=aA (.lst c))/\f e b (λt a=>∃c d,a[i]?=aA (.lst c)/\Mq i t a d/\c.length+d.length<=aT/\K .non (a.set i (.lst (c++d)))) Z
 |_=>.st
abbrev oM(o:De):De:=λb c=>(o b c).bind λe a=>match e with
 |.mut i=>λK _=>∃d,a[i]?=aA (MO.lst d)/\K .non (a.set i (.lst []))
 |_=>.st
section
variable {X:Cx}{D:DP}{W:XW}{pins:List (aF×bF)}{s:Shared}{σ:St}{H:Hp}{φ α:List aF}{τ:Sl}{μ:Mem}{f:De}{a b:aI}
theorem MX(g:A.handled=aE)(e:s.heap.IsList l vs.toArray)(hi:ic vs ns)
  (h:∀h' tk t',(∀b o,s.heap.get? b=aA o->h'.get? b=aA o)->Q (.int ns.sum t') {s with heap:=h',toks:=tk}):wpAny (aS prog w) A (call (.builtin "sum") [.ref l]) Q E s:=by
 obtain⟨a,d⟩:=hi.allInts.items;have c:s.heap.IsList l (intItems a):=d▸e;refine sum_intListG g c λh' tk t' f=>?_;have j:ns=a.toList.map (·.1):=by
  rw[<-nums_intItems,<-d];exact (show numsOf vs.toArray.toList=ns from hi.numsOf).symm
 have i:preSum (numAt a) a.size=ns.sum:=by
  rw[preSum_eq,gL (by simp),j]
 rw[i];exact h h' tk t' f
theorem G7{ad:aF}(i:X.calm=aB)(I:Inv X pins σ H s)(f:aL D φ α H μ)(q:Rd H ad (.lst d))(l:aM D φ α H xs d)(p:aJ D W φ α H σ (RV D φ Q) (Ak xs μ)) :
  wpAny (aS X.prog X.w) X.A (call (.builtin "sum") [.ref ad]) (EP X pins σ Q) X.xe s:=by
 obtain⟨h,b,c,m⟩:=I.list (.inl q);obtain⟨e,a,p⟩:=aJ.som p;have ey:=ZP a l;subst ey;refine MX (I.ok.hd i) c.isList (intsAre_of b) λn j k g=>?_;exact⟨.int e.sum,H,I.kept g,⟨_,rfl⟩,aJ.here p f rfl⟩
theorem OM(c:X.calm=aB):B1 X D W (.builtin "sum") rQ:=by
 intro b s i H h k j t v u Q I a d r p;unfold rQ at p;split at p
 .obtain⟨ad,e,rfl,_,_,q,l⟩:=d;cases r;exact G7 c I a q l p
 .obtain⟨m,f,p⟩:=p.ex1;obtain⟨ad,g,rfl⟩:=d;cases r;obtain⟨e,q,l⟩:=a.ob _ ad _ g f;exact G7 c I a (.inl q) l p
 .exact p.elim
theorem X0:sI X "list.extend" (λx vs H Q=>∃l b xs g,x=.ref l/\vs=[.ref b]/\H l=aA (.lst xs)/\Rd H b (.lst g)/\xs.length+g.length<=sizeLine/\Q .non (upd H l (.lst (xs++g)))):=by
 intro j s B H x vs v D Q I m o h;obtain⟨l,b,xs,g,rfl,rfl,k,y,E,q⟩:=h;cases m;obtain⟨u,rfl,p⟩:=vals1 o;cases p;obtain⟨z,c,n,r,G,e⟩:=I.lstM k;obtain⟨C,a,t,i,A⟩:=y.ok I.hok;have w:=i.length;have f:c.toArray.size+a.toArray.size<=sizeLine:=by rw[d7,d7];lia
 have d:¬(!c.toArray.isEmpty&&wp (c.toArray.size+a.toArray.size))=aB:=by
  rw[Ti f,pV];exact fS
 refine pM F.slot_list_extend ⟨_,e,rfl⟩ F.entry_list_extend (F.args_list_extend_2 _ _)
  (AutoSeq1.list_extend_list_list_0 l c.toArray n b a.toArray t d (by rw[d7];lia) (by lia)) ⟨e,A,?_⟩
 refine⟨.non,_,I.lset (its':=c++a) k e (by simp) (r.append i) ?_,rfl,q⟩;rw[gK];lia
theorem Nh(hp:zZ o=aB)(hs:aO a=aB)(h:(pa.endLine==pc.line)=aB)(ho:PE X o (aU D W go))(ha:PE X a (aU D W f)) :
  PE X (.Call (.Attribute o "extend" pa) [a] [] pc) (aU D W (rZ go f)):=by
 have hb:dW [a] X.env=[(aC,eval a X.env)]:=z5 hs;refine PE.mono (GP wS PySem.F.slot_list_extend PySem.F.type_list_extend X0 ho (zK ha qL (z5 hs)) (qy hp) (by rw[hb];rfl) h (z5 hs) rfl) ?_;rintro σ H Q ⟨w,S,L,R,N,mr,p⟩;refine⟨w,S,L,R,N,mr,p.bind.mono λot A B H1 C O q ov dv=>?_⟩;split at q;case h_2=>exact q.elim
 rename_i i;obtain⟨K,Z,⟨⟨V,n⟩,hf⟩,hk,hz⟩:=q;obtain⟨x,G,rfl⟩:=dv;obtain⟨U,J,l0⟩:=O.ob _ x _ G n;refine⟨.inl ⟨rfl,_,.inl (.inl J)⟩,w,B,L,A,N.step C,O,_,Z,hf,?_,hz⟩;rintro t z ⟨ts,T,s,hl,hr,Y⟩ b u k E v d;obtain⟨β,e2,_⟩:=k.ext;have g:b[i]?=aA x:=by
  rw[e2,dP (bE.mp G).1];exact G
 obtain⟨M,P,l⟩:=E.ob i x _ g s;have hv:∃y c,v=.ref y/\Rd u y (.lst c)/\aM D w b u T c:=by
  rcases hl with rfl|⟨j,rfl,hj,m⟩
  .obtain⟨y,c,rfl,_,_,r,dl⟩:=d;exact⟨y,c,rfl,r,dl⟩
  .obtain⟨y,hy,rfl⟩:=d;obtain⟨c,hw,dl⟩:=E.ob j y _ hy m;exact⟨y,c,rfl,.inl hw,dl⟩
 obtain⟨y,c,rfl,I,dl⟩:=hv;have e:aQ b u b (upd u x (.lst (M++c))):=aQ.turn (bK g) ⟨_,P⟩;have hi:i<z.length:=(bE.mp s).1;refine⟨x,y,M,c,rfl,rfl,P,I,?_,?_⟩
 .rw[<-l.length,<-dl.length];exact dG hr (qa (bD _))
 .exact hk _ _ Y b _ (k.trans e) (E.turn g hi e ⟨_,z3,(l.step e).append (dl.step e)⟩) .non rfl
theorem UM:sI X "list.clear" (λx vs H Q=>∃l xs,x=.ref l/\vs=[]/\H l=aA (.lst xs)/\Q .non (upd H l (.lst []))):=by
 intro b s g H x vs v i Q I d f h;obtain⟨l,xs,rfl,rfl,c,q⟩:=h;cases d;cases f;obtain⟨z,a,n,r,j,e⟩:=I.lstM c;refine pM F.slot_list_clear ⟨_,e,rfl⟩ F.entry_list_clear (F.args_list_clear_1 _) (AutoSeq1.list_clear_list_0 l a.toArray n (by rw[d7];lia)) ⟨e,?_⟩;exact⟨.non,_,I.lset (its':=[]) (ys:=[]) c e rfl .nil (hL _),rfl,q⟩
theorem Nm(y:zZ o=aB)(a:(pa.endLine==pc.line)=aB)(ho:PE X o (aU D W go)) :
  PE X (.Call (.Attribute o "clear" pa) [] [] pc) (aU D W (oM go)):=by
 refine PE.mono (NG wS PySem.F.slot_list_clear PySem.F.type_list_clear UM ho (qy y) a) ?_;rintro A H Q ⟨k,r,m,n,u,w,p⟩;refine⟨k,r,m,n,u,w,p.bind.mono λv e b j t h q C dv=>?_⟩;cases v with
 | «mut» i=>
  obtain⟨B,d,q⟩:=q.ex1;obtain⟨x,f,rfl⟩:=dv;obtain⟨s,g,l⟩:=h.ob _ x _ f d;have c:aQ b j b (upd j x (.lst [])):=aQ.turn (bK f) ⟨_,g⟩;have z:i<e.length:=(bE.mp d).1;refine⟨.inl ⟨rfl,_,.inl (.inl g)⟩,x,s,rfl,rfl,g,?_⟩;exact aJ.ok q c (h.turn f z c ⟨_,z3,rfl⟩) .non rfl
 |_=>exact aJ.elim q
end
def Ft:ER:=lm "sum" rQ aB
theorem Pc:cR D Ft:=kg λC a c d b e=>J5 C a c (by decide +kernel) (by decide) b (OM (C.clm (d rfl))) e
def Fx:ER:=Cs "extend" rZ
theorem Pw:cR D Fx:=Hi λC b a d c e=>Nh b a d c e
def Aw:ER:=λr a e=>match e with
 |.Call (.Attribute o m c) [] [] b=>gd (m==("clear":aH)&&zZ o&&c.endLine==b.line) ((r.e a o).bind λgo=>aA (oM go))
 |_=>aE
theorem Sg:cR D Aw:=by
 intro r H X W j k e d C h;unfold Aw at h;split at h
 .obtain⟨c,a⟩:=z9 h;clear h;simp only[cO] at c;obtain⟨⟨b,g⟩,f⟩:=c;have b:=beq_iff_eq.mp b;subst b;obtain⟨go,i,a⟩:=aR a;cases a;exact Nm g f (H.e C i)
 .cases h
def Xv:ER:=λr c e=>match e with
 |.Tuple [a,b] _ _=>gd (aO a&&aO b) ((r.e c a).bind λf=>(r.o c b).bind λg=>aA (wD [f,g]))
 |_=>aE
theorem YU:cR D Xv:=by
 intro r H X W i k e d C h;unfold Xv at h;split at h
 .obtain⟨a,h⟩:=z9 h;simp only[cO] at a;obtain⟨f,c,h⟩:=aR h;obtain⟨g,b,h⟩:=aR h;cases h;exact Hl (by show (2:Nat)<=aT;decide) ⟨a.1,H.e C c,a.2,H.o C b,trivial⟩
 .cases h
end NH
namespace NH.P
open PySem L2 NH
@[reducible] def vC:List Ds:=[(zh (jw 1 [1,0] (.one 0) (Ke (za (eV 1) 12) (za (eV 1) 13)) [] (z4 y6 [(eV 2),(za (eV 1) 11),(eV 0)])))]
def qc:Fn:=bI 2 0 vC
@[reducible] def uw:List Ds:=[(zh (dX rQ (w9 1 [] (.one 0) (iE (eV 0)) [] (zd .Sub (za (eV 0) 13) (za (eV 0) 12)))))]
def j4:Fn:=bI 1 0 uw
@[reducible] def JD:List Ds:=[(zp 2 (kO [])),(zp 3 (kO [])),(zp 4 (eV 1)),(vr (.one 5) (iE (eV 0)) [(zp 6 (gN yh (zd .Add (za (eV 5) 12) (eV 4)) (za (eV 5) 13))),(zp 4 (zd .Sub (eV 4) (zd .Sub (eV 6) (za (eV 5) 12)))),(zB (W3 (eV 2) (nu 44 qT [(za (eV 5) 11),(za (eV 5) 12),(eV 6)]))),(zB (W3 (eV 3) (nu 44 qT [(za (eV 5) 11),(eV 6),(za (eV 5) 13)])))]),(zh (wD [(eV 2),(jw 1 [] (.one 0) (iE (eV 3)) [(tE (zw .Lt (za (eV 0) 12) (za (eV 0) 13)))] (eV 0))]))]
def fE:Fn:=bI 2 5 JD
@[reducible] def kC:List Ds:=[(bL (qh (jU (tE (z4 qF [(eV 2)])) (tE (z4 qF [(eV 3)])))) [(zH 16 [(eC (.str "ahead and stride are whole numbers from 0 on"))])] []),(bL (jU (tE (zw .IsNot (eV 5) (eC .non))) (qh (tE (z4 Zf [(eV 1),(eV 5)])))) [(zH 23 [(eC (.str "no note of the shape"))])] []),(zM (eV 0) 9 (eV 1)),(zM (eV 0) 14 (eV 2)),(zM (eV 0) 15 (eV 3)),(zM (eV 0) 16 (eV 4)),(zM (eV 0) 6 (pb (tE (zw .Is (eV 5) (eC .non))) (eC .non) (aX (eV 5) (eC (.int 0))))),(zM (eV 0) 17 (pb (tE (zw .Is (eV 5) (eC .non))) (eC .non) (aX (eV 5) (eC (.int 1))))),(zM (eV 0) 18 (eC .non)),(zM (eV 0) 19 (kO [])),(zM (eV 0) 20 (eC (.bl aC)))]
def qo:Fn:=bI 6 0 kC
@[reducible] def jq:List Ds:=[(zB (zv 45 zR (eV 0) [])),(bL (qh (tE (z4 wX [(eV 1)]))) [(zH 20 [(eC (.str "so many are whole numbers from 1 on"))])] []),(bL (tE (zw .Lt (z4 j4 [(za (eV 0) 19)]) (eV 1))) [(zH 22 [(eC (.str "fewer are in store"))])] []),(zp 2 (z4 fE [(za (eV 0) 19),(eV 1)])),(zM (eV 0) 19 (aX (eV 2) (eC (.int 1)))),(zp 3 (kO [])),(vr (.one 4) (iE (aX (eV 2) (eC (.int 0)))) [(zB (rZ (eV 3) (z4 qc [(za (eV 0) 9),(eV 4)])))]),(zh (eV 3))]
def vg:Fn:=bI 2 3 jq
@[reducible] def WJ:List Ds:=[(bL (fD (tE (zw .Is (eV 1) (eC .non))) (tE (zw .Lt (eV 1) (aX (eV 0) (eC (.int 1)))))) [(zh (eC .non))] []),(zh (gN yh (eV 1) (zd .Sub (aX (eV 0) (eC (.int 2))) (eC (.int 1)))))]
def Za:Fn:=bI 2 0 WJ
@[reducible] def wI:List Ds:=[(bL (tE (zw .Is (za (eV 0) 18) (eC .non))) [(zh (za (eV 0) 17))] []),(zh (aX (z4 qM [(za (eV 0) 9),(za (eV 0) 18)]) (eC (.int 0))))]
def qw:Fn:=bI 1 0 wI
end NH.P
namespace NH
open PySem PySem.Spec PyProof.Rows L2
theorem XN{P:cI}{w:eE}{K:bO}{mg mb:aH->Option aD}{CX:mK}{k:Nat}{fa a:aF}{p:List aF}{fd:FuncData}{x:aH}{sp:Sp}{f:bB}{vs:List aD}{ns:List Int}
  (KX:K.In f.heap) (D:f.heap.Ns bT mg) (hb:f.heap.Ns lM mb) (hbb:∀x:aH,x≠"__name__"->mb x=hV x) (M:f.heap.NoLimit) (hg:f.gens=#[])
  (hbm:∃bm ob,mg "__builtins__"=aA (.ref bm)/\bm≠lM/\f.heap.get? bm=aA ob/\ob.cls=.type "module"/\ob.dict=aA lM/\ob.data=.plain)
  (Z:Xs K=aB) (i:∀g∈p,f.heap.get? g=aA (mv #[])) (O:∀g∈p,K.lookup g=aE/\g≠nG/\∃c,nJ K c g=aB)
  (C:f.heap.get? a=aA {cls:=.type "list",data:=.seq vs.toArray}) (hi:ic vs ns) (hl:ns.length<=sizeLine) (hr:bZ k nE)
  (F:∀base:aV,K.In base->base.Ns bT mg->(∀g∈p,base.BuiltinsAt mg g)->bS P w K mg base CX k fa fd [x] sp) (E:∀(s:bB) (u:aD),l_ s fd ⟨[u],[]⟩ [(x,u)])
  (X:∀H:Hp,Rd H a (.lst (ns.map V.int))->(∀g∈p,H g=aA (.tbl #[]))->a∉p->sp [.ref a] H (λv _=>v=.bl aB) λ_ _ _=>False)
  (hCX:∀H e A,CX [] H f (λ_ _ _=>False) e A->False) :
  gz (aS P w) nE (.call (.ref fa) ⟨[.ref a],[]⟩) (λr A=>r=.ok (.ret (.bool aB))/\OldK f.heap A.heap/\A.os=f.os/\iX A.gens) f:=by
 have rv:=L2.vals_ints hi;have lenV:=hi.length;have J:a∉p:=λz=>by have:=i a z;rw[this] at C;cases C
 have hKa:K.lookup a=aE:=by
  cases q:K.lookup a with
  |none=>rfl
  |some o=>
   have e:=KX a o q;rw[C] at e;cases e;exact absurd rfl (Yl Z q)
 obtain⟨H,hH⟩:∃H:Hp,H=λb=>if b=a then aA (.frz {cls:=.type "list",data:=.seq vs.toArray} (.lst (ns.map V.int))) else if b∈p then aA (.tbl #[]) else aE:=⟨_,rfl⟩
 have Ha:H a=aA (.frz {cls:=.type "list",data:=.seq vs.toArray} (.lst (ns.map V.int))):=by rw[hH];simp
 have T:∀g∈p,H g=aA (.tbl #[]):=λg R=>by
  rw[hH];exact (if_neg (λz:g=a=>J (z▸R))).trans (if_pos R)
 have I:∀b,b≠a->b∉p->H b=aE:=λb j l=>by
  rw[hH];exact (if_neg j).trans (if_neg l)
 have Y:dN P w H f.heap:=λb u e=>by
  by_cases j:b=a
  .subst j;rw[Ha] at e;cases e;exact⟨C,by rw[bJ];exact hl,vs,_,rv,C⟩
  .by_cases l:b∈p
   .rw[T b l] at e;cases e;exact i b l
   .rw[I b j l] at e;cases e
 have un:∀{b:aF}{o:bF},f.heap.get? b=aA o->o.cls≠.none->o.cls≠.type "list"->H b=aE:=λ{b o} e n1 n2=>I b (λz=>by rw[z,C] at e;cases e;exact n2 rfl) λz=>by rw[i b z] at e;cases e;exact n1 rfl
 have U:∀{b:aF}{o:bF}{es:Array sS}{ep:Nat},f.heap.get? b=aA o->o.data=.dict es ep->H b=aE:=λ{b o es ep} e d=>I b (λz=>by rw[z,C] at e;cases e;cases d) λz=>by rw[i b z] at e;cases e;cases d
 have qy:∀{b:aF}{o:bF},f.heap.get? b=aA o->H b=aE->(QO f.heap H).get? b=aA o:=λe n=>To e n;have B:∀{b:aF}{m:aH->Option aD},f.heap.Ns b m->(QO f.heap H).Ns b m:=λ{b m} ⟨o,es,ep,e,d,r⟩=>⟨o,es,ep,qy e (U e d),d,r⟩;have hKf:∀b o,K.lookup b=aA o->H b=aE:=λb o e=>I b (λz=>by rw[z,hKa] at e;cases e) λz=>by rw[(O b z).1] at e;cases e
 have N:K.In (QO f.heap H):=λb o e=>qy (KX b o e) (hKf b o e);have hM:Mod K mg (QO f.heap H):=⟨N,B D,⟨mb,B hb,hbb⟩,let ⟨mc,j,l⟩:=M;⟨mc,B j,l⟩⟩;have hB:∀g∈p,(QO f.heap H).BuiltinsAt mg g:=λg R=>by
  obtain⟨bm,ob,b1,b2,G,S,b5,b6⟩:=hbm;refine⟨bm,ob,b1,b2,λz=>?_,λz=>?_,qy G (un G (by rw[S];exact λz=>by cases z) (by rw[S];exact λz=>absurd (Value.type.inj z) (by decide))),S,b5,b6⟩
  .obtain⟨o,es,ep,e,d,_⟩:=D;rw[z,e] at G;cases G;rw[d] at b6;cases b6
  .rw[z,i g R] at G;cases G;cases S
 have e0:dZ P w K mg (QO f.heap H) nE [] f H:=⟨rfl,hM,λb o e=>Sm e,mf (UQ _ _),trivial,λb hb=>absurd (show b∈([]:List aF) from hb) (by simp),Y,.of_eq hg⟩;refine i7 ((F _ N (B D) hB).run nE [] f H ⟨[.ref a],[]⟩ [.ref a] [.ref a] _ _ hr e0 (E f (.ref a)) (.cons rfl .nil) (X H (.inr ⟨_,Ha⟩) T J)) λr A h=>?_;cases r with
 |error e=>exact (hCX H e A h).elim
 |ok fl=>
  cases fl with
  |next=>exact eF h
  |brk=>exact eF h
  |cont=>exact eF h
  |ret u=>
   obtain⟨v,H',os,Q,un,y,r',q⟩:=h;have q':v=.bl aB:=q;subst q';obtain rfl:u=pP aB:=r';have kp:∀b o,H b=aE->f.heap.get? b=aA o->A.heap.get? b=aA o:=λb o n e=>un.keep b o e n (by intro z;exact absurd (show b∈([]:List aF) from z) (by simp)) (by simp);have L:∀o,f.heap.get? a=aA o->A.heap.get? a=aA o:=λo e=>by
    have z2:=un.frzs a _ _ Ha;obtain⟨e2,_⟩:=y a _ z2;rw[C] at e;cases e;exact e2
   refine⟨rfl,⟨λb o e=>?_,λb o e=>?_⟩,os,Q⟩
   .by_cases j:b∈p
    .obtain⟨t,hm⟩:=un.tbls b _ (T b j);have hP':A.heap.get? b=aA (mv (#[]++t)):=y b _ hm;obtain⟨k1,k2,c,k3⟩:=O b j;have cd:=PySem.W.codeHd_of_K KX k3;rw[i b j] at e;cases e;exact .inr (.inl ⟨(cd.tab (i b j)).isCodeTable,rfl,#[],t,rfl,hP'⟩)
    .by_cases l:b=a
     .subst l;exact .inl (L o e)
     .exact .inl (kp b o (I b l j) e)
   .by_cases j:b∈p
    .obtain⟨t,hm⟩:=un.tbls b _ (T b j);exact⟨_,y b _ hm⟩
    .by_cases l:b=a
     .subst l;exact⟨_,L o e⟩
     .exact⟨_,kp b o (I b l j) e⟩
def V0(c:List aF):Sp:=λd H Q _=>∃(a:aF) (b:List Int),d=[.ref a]/\Rd H a (.lst (b.map V.int))/\(∀e∈c,H e=aA (.tbl #[]))/\a∉c/\b.length<=63/\∀f,Q (.bl aB) f
def Vg(f:Fn):Prop:=∀a:List Int,a.length<=63->f [.lst (a.map T.int)] [.tab 0,.tab 1] (λt _=>t=.bl aB) (λ_ _ _=>False)
theorem R3{P:cI}{K:bO}(ht:Vg f)(G:D.tabs 0=aA (u,j,qn))(n:D.tabs 1=aA (s,g,A))(h:u≠s)
  (F:bS P w K mg base (dB P w) k fa fd [x] (eR D 1 f)):bS P w K mg base (dB P w) k fa fd [x] (V0 [u,s]):=by
 refine F.imp ?_;rintro L H Q E ⟨a,e,rfl,r,p,l,C,q⟩;refine⟨rfl,[],[u,s],[.lst (e.map T.int)],[.tab 0,.tab 1],⟨.ref a,[],rfl,⟨a,_,rfl,by simp,by simpa using l,r,Wj e⟩,rfl⟩,⟨rfl,by simpa using h,by simp,by simp,λi y o b c=>?_⟩,_,_,ht e C,?_,?_⟩
 .cases i with
  |succ i=>
   cases i with
   |succ i=>simp at b
   |zero=>
    have b:s=y:=by simpa using b
    have c:MO.tab 1=o:=by simpa using c
    subst b;subst c;exact⟨g,A,#[],n,p _ (by simp),trivial,λ_ _=>.inl rfl⟩
  |zero=>
   have b:u=y:=by simpa using b
   have c:MO.tab 0=o:=by simpa using c
   subst b;subst c;exact⟨j,qn,#[],G,p _ (by simp),trivial,λ_ _=>.inl rfl⟩
 .rintro t J rfl B I st m v d;have d:v=.bl aB:=d;rw[d];exact q I
 .exact λ_ _ _ z=>z.elim
theorem walkTs{l:mP}{q:cI}{j:List aH}{XP:(aH->Option aD)->aV->Prop}{A:eE->aV->Prop}{d:DefRec}{K:Params->bO}{x:aH}{k:Nat}{p:List aF}(hk:k<=90)(J:l.most=aA 63)(y:d.params.defaults=[])
  (O:∀(w:eE) (h:aV),A w h->(K w.params).In h) (P:∀(w:eE) (h:aV),A w h->∀r∈p,h.get? r=aA (mv #[]))
  (F:∀(w:eE) (mg:aH->Option aD) (fa:aF) (h:aV),(K w.params).In h->h.Ns bT mg->mg d.name=aA (.ref fa)->
   (Xs (K w.params)=aB/\∀r∈p,(K w.params).lookup r=aE/\r≠nG/\∃c,nJ (K w.params) c r=aB)/\∃fd:FuncData,(∀(s:bB) (u:aD),l_ s fd ⟨[u],[]⟩ [(x,u)])/\∀base:aV,(K w.params).In base->base.Ns bT mg->(∀r∈p,base.BuiltinsAt mg r)->bS l.prog w (K w.params) mg base (dB l.prog w) k fa fd [x] (V0 p)) :
  PySem.W.WalkO q j XP A l.row.toRowW d [] (λf vs=>Do f vs):=by
 refine Att.attach_call J y λw C B mg mb fa o Z cd V a vs E G Y ho hd M v n m i L=>?_;have D:=O w _ Y;obtain⟨⟨U,S⟩,fd,N,R⟩:=F w mg fa _ D G.T.g v;exact XN D G.T.g G.T.b G.T.builtins G.T.nolimit L G.T.bmain U (P w _ Y) S n m (dG i (by decide)) (bZ.mono (k:=90) ⟨rfl,by decide,by decide⟩ hk) R N (λH I Q t=>⟨a,E,rfl,I,Q,t,i,λ_=>rfl⟩) λH e X z=>by
  obtain⟨_,_,_,_,_,_,_,_,_,_,_,_,_,_,_,z⟩:=z;exact z
abbrev Va(x y:T)(μ:Mem):RE T:=match y with
 |.mut i=>(match x with
  |.str z=>λK _=>∃a,μ[i]?=aA (MO.dic a)/\K (.bl (!(ze (.inr z) a).isSome)) μ
  |_=>.st)
 |_=>.st
abbrev hY(op:T->T->Mem->RE T)(f g:De):De:=λc d=>(f c d).bind λx b=>(g c b).bind λy a=>op x y a
section
variable {X:Cx}{D:DP}{W:XW}{k:Nat}{pins:List (aF×bF)}{s:Shared}{σ:St}{H:Hp}{φ α:List aF}{τ:Sl}{μ:Mem}{f g:De}{a b:aI}{pos:Pos}
def Dc (X:Cx)(D:DP)(W:XW)(op:eM)(r:T->T->Mem->RE T):Prop:=
 ∀(pins:List (aF×bF)) (s:bB) (σ:St) (H:Hp) (φ α:List aF) (μ:Mem) (x y:T) (v w:V) (b a:aD) (Q:VK),Inv X pins σ H s->aL D φ α H μ->bA D φ α H x v->bA D φ α H y w->RelV v b->RelV w a->aJ D W φ α H σ (RV D φ Q) (r x y μ)->
  wpAny (aS X.prog X.w) X.A (fC op b a) (EP X pins σ Q) X.xe s
theorem Mi(h:Dc X D W op r)(ho:jL op b=aB)(K:PE X a (aU D W f))(hb:PE X b (aU D W g)):PE X (.Compare a [op] [b] pos) (aU D W (hY r f g)):=by
 rintro c s n H Q I ⟨m,T,R,S,B,J,p⟩;refine tJ (aW (sub K I B J p) ?_) (kI ho);rintro u U ⟨v,V,t,o,q,O,F,z,j,l,M,p1⟩;refine aW (sub hb O j l p1) ?_;rintro x C ⟨w,P,y,d,e,N,E,i,A,k,L,G⟩;exact h c C n P m e d t y v w u x Q N k (M.step i) L F E G
theorem SG(h:Dc X D W op r)(ho:jL op b=aB)(ha:PE X a (aU D W f))(hb:PE X b (aU D W g)):PT X (.Compare a [op] [b] pos) (eJ D W (tE (hY r f g))):=by
 rintro l s A H Q I ⟨j,R,L,O,sr,mr,p⟩;have p:aJ D W j R H A (λb _ _ w=>Q b w) ((f L O).bind λx c=>(g L c).bind λy i=>(r x y i).bind yj):=p;refine wv (aW (sub ha I sr mr p) ?_) (kI ho);rintro u s1 ⟨v,n,t,c,e,I1,r1,Y,F,K,d1,p1⟩;refine aW (sub hb I1 F K p1) ?_;rintro T s2 ⟨S,M,U,i,k,I2,r2,E,Z,J,d2,p2⟩;refine aW (h l s2 A M j k i t U v S u T (λz n=>∃t c e,aQ k M e n/\aL D j e n c/\bA D j e n t z/\aJ D W j e n A (λb _ _ w=>Q b w) (yj t c)) I2 J (d1.step E) d2 r1 r2 (p2.bind.mono λt B C w st m q v d=>⟨t,B,C,st,m,d,q⟩)) ?_;rintro d s3 ⟨z,H3,I3,r3,t3,N,P,V,G,d3,o⟩;unfold yj at o;split at o
 .cases d3;cases r3;exact wpAny_truthy_bool ⟨H3,I3,o.ok (aQ.refl _ _) G⟩
 .exact o.elim
theorem Y7(G:X.A.units+64<cLine):Dc X D W .NotIn Va:=by
 intro b s t H r d u x y v w C B Q I c a o f e p;unfold Va at p;split at p
 .split at p
  .rename_i i _ z;obtain⟨K,J,⟨g,j,p⟩,h,F⟩:=p;have a:v=.str z:=a;obtain⟨ad,m,rfl⟩:=o;cases e;obtain⟨gs,n,l⟩:=c.ob i ad _ m j;subst a;refine RH (by omega) I (eI.k (k:=.inr z) n) f λE q=>⟨.bl (!(vB gs (.inr z)).isSome),H,q,rfl,?_⟩;rw[Zv l];exact h _ _ p d H (aQ.refl _ _) c _ rfl
  .exact p.elim
 .exact p.elim
theorem yt:∀{kvs:List (Key×T)}{gs:List (Key×V)},bM D φ α H kvs gs->ze z kvs=aA t->∃v,vB gs z=aA v/\bA D φ α H t v
 |[],_,h,e=>by cases e
 |p::r,_,h,e=>by
  obtain⟨v,q,rfl,d,l⟩:=h;unfold ze at e;by_cases a:p.1=z
  .rw[if_pos a] at e;cases e;exact⟨v,by rw[yn (p:=(p.1,v)) a],d⟩
  .rw[if_neg a] at e;obtain⟨b,f,c⟩:=yt l e;exact⟨b,by rw[kj (p:=(p.1,v)) a];exact f,c⟩
end
noncomputable abbrev BY(g:List (Nat×De))(n:Nat)(o f:De):De:=λd e=>(o d e).bind λt c=>(Zr t n c).bind λw b K Z=>∃p:Nat×(Nat×De)×List T,(g[p.1]?=aA p.2.1/\w=UK p.1 p.2.1.1 p.2.2)/\((f d b).bind λx a=>p.2.1.2 (aA x::p.2.2.map aA) a) K Z
noncomputable abbrev LU(ds:List Ds):De:=λa b K Z=>qp ds a b (En.fn K Z)
noncomputable abbrev Ci(jt j:Nat)(fs:List Nat):De:=λc (a:Mem) K _=>(∃i:Nat,a[i]?=aA (MO.tab jt))/\∃b:List T,fs.map (V3 c)=b.map aA/\K (UK j jt b) a
noncomputable def Qu:aH:=⟨#[38]⟩
section
variable {X:Cx}{D:DP}{W:XW}{Γ:Cn}{k:Nat}{pins:List (aF×bF)}{s:Shared}{σ:St}{H:Hp}{φ α:List aF}{τ:Sl}{μ:Mem}{g:De}{a b c:aI}{pos:Pos}
theorem TV{c:aF}(I:Inv X pins σ H s)(i:X.env.cells.lookup x=aA c)(A:X.fn x=aC)(hs:X.s₀.heap.objs.size<=c)(w:H c=aE)(ho:s.heap.get? c=aA o)(hd:o.data=.cell v):Inv X pins σ (upd H c (.frz o (.ext λ_=>True))) s:=by
 have st:∀b u,H b=aA u->upd H c (.frz o (.ext λ_=>True)) b=aA u:=λb u q=>by rw[z7 (zU q w)];exact q
 refine⟨I.ok,I.os,I.bare,⟨I.base.keep,I.base.slot,λb f e n g=>?_,I.base.there,λb h e=>st b _ (I.base.tups b h e),λb f u e=>st b _ (I.base.frzs b f u e),λb k e=>?_⟩,I.loc,I.cell,?_,λy j e=>?_,λp t=>?_,λb l e=>?_,I.len⟩
 .rw[z7 (cX (dC (bX e) hs))];exact I.base.free b f e n g
 .obtain⟨a,q⟩:=I.base.tbls b k e;exact⟨a,st b _ q⟩
 .rw[z7 (bW (I.cne x c i))];exact I.free
 .by_cases z:j=c
  .subst z;rw[I.ok.inj _ _ _ e i];exact .inr ⟨A,o,_,z3⟩
  .rw[z7 z];exact I.freeC y j e
 .obtain⟨e,n,r,m,d⟩:=I.pin p t;have:p.1≠c:=λz=>by rw[z,ho] at e;cases e;exact d _ hd
  exact⟨e,by rw[z7 this];exact n,r,m,d⟩
 .by_cases z:b=c
  .subst z;rw[z3] at e;cases e;exact⟨ho,trivial,⟨o,ho⟩,λ_ _ _ _=>trivial⟩
  .rw[z7 z] at e;exact (I.hok b l e).stay (λ_ _ _ q=>q) (λb q=>st b _ q) λb h q=>st b _ q
theorem Kf(C:Ck D W Γ X k){ls:List bP}(KM:l6 D ls)(R:Γ.lam.isSome=aB):∀{fr:List aH}{fs:List Nat}{ts:List T}{H:Hp},(∀x∈fr,x∈Γ.fz/\x∈Γ.cel)->jX Γ.N fr=aA fs->fs.map (V3 τ)=ts.map aA->Inv X pins σ H s->a_ D φ α H τ σ->aL D φ α H μ->
  ∃(O:Hp) (cs:List aF),Inv X pins σ O s/\kL H O/\fr.map (λx=>X.env.cells.lookup x)=cs.map aA/\aM D φ α O (ts.map λt=>.clo 200 [t]) (cs.map V.ref)
 |[],fs,ts,H,_,g,p,I,A,f=>by
  cases g;cases ts with
  |nil=>exact⟨H,[],I,λ_ _ e=>e,rfl,rfl⟩
  |cons _ _=>cases p
 |x::fr,fs,ts,H,U,g,p,I,A,f=>by
  simp only[jX] at g;split at g
  .rename_i i is S L;cases g;cases ts with
   |nil=>cases p
   |cons t ts=>
    have j:=p;simp only[c8,D6] at j;obtain⟨ht,F⟩:=j;obtain⟨hz,hc⟩:=U x dJ;obtain⟨v,hv,d⟩:=A.val i t (Vj.mp ht);obtain⟨hf,G⟩:=C.kfz R x hz;obtain⟨m,_,J⟩:=I.loc;obtain⟨u,ru,lk⟩:=J i x v (by rw[C.hN];exact vT S) hv (C.vis x (wW S));have kd:=C.cel x hc;rcases lk with⟨z,_⟩|⟨_,c,ec,o,Q,hd⟩
    .rcases kd with q|q<;>(rw[z] at q;cases q)
    .obtain⟨r,l,I1,B,e1,n1,n2⟩:∃r l,Inv X pins σ r s/\kL H r/\r c=aA (.frz o l)/\c∉φ/\c∉α:=by
      rcases I.freeC x c ec with q|⟨_,P,Z,q⟩
      .exact⟨_,_,TV I ec hf (G c ec) q Q hd,zm q,z3,zr f q,zt f q⟩
      .have Y:s.heap.get? c=aA P:=(I.hok c _ q).1;rw[Q] at Y;cases Y;refine⟨H,Z,I,λ_ _ e=>e,q,λz=>?_,λz=>?_⟩
       .obtain⟨w,e,n⟩:=f.phi c z;rw[q] at e;cases e;cases n
       .obtain⟨E,h⟩:=fN.mp z;have K:E<μ.length:=by rw[<-f.len];exact (bE.mp h).1
        obtain⟨w,e,n⟩:=(f.ob E c μ[E] h (by simp[K])).some;rw[q] at e;cases e;cases n
     have st:=aQ.new (α:=α) B;obtain⟨H2,cs,I2,a,M,dl⟩:=Kf C KM R (fr:=fr) (fs:=is) (ts:=ts) (λy hy=>U y (cW _ hy)) L F I1 (A.step st) (f.new B);refine⟨H2,c::cs,I2,λb o e=>a b o (B b o e),by simp[ec,M],⟨.ref c,cs.map V.ref,rfl,⟨c,aA (.frz o l),[v],rfl,KM.ce c o u v l hd ru,λP e=>?_,v,[],rfl,(d.step st).step (aQ.new a),rfl⟩,dl⟩⟩;cases e;exact⟨n1,n2,a _ _ e1⟩
  .cases g
theorem R4{P:cI}{c:aF}(p:yf q c l cl h):aZ P w H h q (.ext (yf q c l cl)):=by
 obtain⟨g,f,b,a,e⟩:=id p;refine⟨p,⟨_,e⟩,λj i p d=>?_⟩;obtain⟨g,f,b,a,e⟩:=p;exact⟨g,f,b,a,d _ e⟩
theorem NI{l:bP}{line i:Nat}{c P:aF}(I:Inv X pins σ H s)(f:aL D φ α H μ)(hi:μ[i]?=aA (.tab l.jt))(k:D.tabs l.jt=aA (P,z,l.qn))(b:pos∈z)
  (a:X.env.code=.ref c) (m:lN X.base c P) (n:X.base.BuiltinsAt X.mg P) (e:mT l.sc X.env=pure cl)
  (h:∀q j d doc r u,Inv X ((q,{cls:=.type "function",data:=.func (Ce l.nm l.qn ⟨[],[⟨l.y,aE,pa⟩],aE,[],[],aE,[]⟩ l.fb l.sc cl doc ((X.mg "__name__").getD .none) (.ref j) d)})::pins) σ r u->aQ α H α r->aL D φ α r μ->j∉α->r j=aA (.ext (w6 j l.qn))->(j∉φ/\dF X r q/\∀p∈pins,p.1≠q)->Q (.ref q) u) :
  wpAny (aS X.prog X.w) X.A (pL l.nm l.qn ⟨[],[⟨l.y,aE,pa⟩],aE,[],[],aE,[]⟩ l.fb l.sc X.env [] [] [] pos line) Q X.xe s:=by
 obtain⟨B,v,y,body,t,fr,g,o⟩:=l;cases o with
 |none=>exact JG I f hi k b a m n e λq j d r u=>h q j d .none r u
 |some x=>exact T0 I f hi k b a m n e λq j d doc r u=>h q j d doc r u
theorem UD(C:Ck D W Γ X k){pa pl:Pos}{j line i:Nat}(B:Γ.lam=aA (l.jt,r))(Q:pl∈r)(hU:Qu∈Γ.U)(hg:Γ.gl Qu=.kap ls)(hj:ls[j]?=aA l)(d:frees l.sc=l.fr)(S:l.fr.Nodup)(E:∀x∈l.fr,x∈Γ.fz/\x∈Γ.cel)(T:jX Γ.N l.fr=aA fs)
  (I:Inv X pins σ H s) (sr:a_ D φ α H τ σ) (mr:aL D φ α H μ) (hi:μ[i]?=aA (.tab l.jt)) (O:fs.map (V3 τ)=ts.map aA):X.env.qual++Γ.lnm=l.qn/\
  wpAny (aS X.prog X.w) X.A (pL l.nm l.qn ⟨[],[⟨l.y,aE,pa⟩],aE,[],[],aE,[]⟩ l.fb l.sc X.env [] [] [] pl line) (λv s'=>∃q M,v=.ref q/\Inv X pins σ M s'/\aQ α H α M/\aL D φ α M μ/\bA D φ α M (UK j l.jt ts) (.ref q)) X.xe s:=by
 obtain⟨hk,c,P,m,hC,hB,K⟩:=C.lam _ r B;have gq:=(C.glU _ hU).1;rw[hg] at gq;have KM:=gq.2;obtain⟨P',pos',hD'⟩:=KM.tb j l hj;have z:X.env.qual++Γ.lnm=l.qn:=by
  have:=K.symm.trans hD';simp only[rz,Prod.mk.injEq] at this;exact this.2.2
 refine⟨z,?_⟩;rw[z] at K;obtain⟨H1,cs,I1,u,F,dl⟩:=Kf C KM (by rw[B];rfl) E T O I sr mr;have g:∀x∈frees l.sc,∃c,X.env.cells.lookup x=aA c:=λx f=>I.ok.has x (C.cel x (E x (by rw[<-d];exact f)).2);obtain⟨cl,Y,G,hc2⟩:=Q7 g;have cat:U4 l.fr cl cs:=by
  refine⟨?_,?_,λx a e=>by rw[<-d];exact (G x a e).2⟩
  .rw[<-F];refine m5 λx f=>?_;obtain⟨c,e⟩:=hc2 x (by rw[d];exact f);rw[e,(G x c e).1]
  .have q:(cs.map aA).Pairwise (·≠·):=by
    rw[<-F,lb];refine IU (λ{a b} ha hb R e=>R ?_) S;obtain⟨c,e1⟩:=g a (by rw[d];exact ha);exact I.ok.inj a b c e1 (by rw[<-e];exact e1)
   rw[lb] at q;exact q.imp λh e=>h (congrArg aA e)
 refine NI I1 (mr.new u) hi K Q m hC hB Y λq p ctv doc H2 s2 I2 t L hca Z f=>?_;have ho:=(I2.pin _ (dH _ dJ)).1;have np:yf q p l cl s2.heap:=⟨pa,_,ctv,doc,ho⟩;have I4:=vz (o:=.ext (yf q p l cl)) (wc I2) f.2.1 f.2.2 (R4 np);have n:=f.2.1.free;have J:kL H2 (upd H2 q (.ext (yf q p l cl))):=zm n;refine⟨q,_,rfl,I4,(aQ.new u).trans (t.trans (aQ.new J)),L.new J,?_⟩;refine⟨q,_,_,rfl,KM.fn j l q p cl cs hj cat,λo e=>?_,.ref p,cs.map V.ref,rfl,⟨p,_,[],rfl,KM.co _ _ _ _ p K,λo e=>?_,rfl⟩,(dl.step t).step (aQ.new J)⟩
 .cases e;exact⟨zr L n,zt L n,z3⟩
 .cases e;exact⟨f.1,hca,J _ _ Z⟩
theorem Pd (C:Ck D W Γ X k) {pa pl:Pos}(b:l.sb=aE) (g:Γ.lnm="<lambda>") (n:Γ.lam=aA (l.jt,r)) (f:pl∈r) (J:Qu∈Γ.U) (G:Γ.gl Qu=.kap ls) (hj:ls[j]?=aA l) (t:frees l.sc=l.fr) (h:l.fr.Nodup) (o:∀x∈l.fr,x∈Γ.fz/\x∈Γ.cel) (p:jX Γ.N l.fr=aA fs) :
  PE X (.Lambda ⟨[],[⟨l.y,aE,pa⟩],aE,[],[],aE,[]⟩ l.body l.sc pl) (aU D W (Ci l.jt j fs)):=by
 rintro u s S H Q I ⟨P,w,R,T,z,B,K0,Z0,⟨⟨i,F⟩,V,c,A⟩,E,Z⟩;obtain⟨e,a⟩:=UD (pa:=pa) (line:=pl.line) C n f J G hj t h o p I z B F c;have L:l.nm="<lambda>":=by unfold bP.nm;rw[b]
 have K:l.fb=.expr l.body:=by unfold bP.fb;rw[b]
 rw[L,K,<-e,g] at a;refine D9 rfl (aW a ?_);rintro v Y ⟨q,O,rfl,M,st,m,d⟩;exact⟨.ref q,O,M,rfl,E _ _ A w _ st m _ d⟩
end
section
variable {D:DP}{φ α:List aF}{H:Hp}
structure iH(H:Hp)(c:aF)(x:V):Prop where
 ex:∃(o:bF) (ob:HO) (u:aD),H c=aA (.frz o ob)/\o.data=.cell (aA u)/\RelV x u
def RF(D:DP):Prop:=∀c b a,D.clo 200 c b a->∃(x:V) (u:aD) (o:bF) (d:HO),a=[x]/\RelV x u/\Obj.data o=.cell (aA u)/\b=aA (HO.frz o d)
theorem Wc(b:RF D):∀{ts:List T}{cs:List aF},aM D φ α H (ts.map λt=>.clo 200 [t]) (cs.map V.ref)->∃vs:List V,aM D φ α H ts vs/\vs.length=cs.length/\∀(i:Nat) (c:aF),cs[i]?=aA c->∃x,vs[i]?=aA x/\iH H c x
 |[],[],_=>⟨[],rfl,rfl,λi c e=>by simp at e⟩
 |[],_::_,h=>by cases (show _=[] from h)
 |t::ts,[],h=>by obtain⟨_,_,e,_⟩:=h;cases e
 |t::ts,c::cs,h=>by
  obtain⟨v,r,e,⟨a,A,w,q,j,f,dl⟩,n⟩:=h;cases e;cases q;obtain⟨vs,m,l,k⟩:=Wc b n;obtain⟨x,u,o,g,rfl,r,hd,rfl⟩:=b _ _ _ j;obtain⟨y,z,p,d,B⟩:=dl;cases p;refine⟨x::vs,⟨x,vs,rfl,d,m⟩,by simp[l],λi s e=>?_⟩;cases i with
  |zero=>cases e;exact⟨x,rfl,⟨o,g,u,(f _ rfl).2.2,hd,r⟩⟩
  |succ i=>exact k i s (by simpa using e)
theorem V1(h:U4 fr cl cs)(e:cl.lookup x=aA c):∃i:Nat,fr[i]?=aA x/\cs[i]?=aA c:=by
 obtain⟨i,a⟩:=fN.mp (h.2.2 x c e);refine⟨i,a,?_⟩;have:=congrArg (λl=>l[i]?) h.1;simp only[cE,a,oa,e] at this;cases q:cs[i]? with
 |none=>rw[q] at this;cases this
 |some b=>rw[q] at this;cases this;rfl
theorem XU(h:U4 fr cl cs){i:Nat}(e:fr[i]?=aA x):∃c,cl.lookup x=aA c/\cs[i]?=aA c:=by
 have:=congrArg (λl=>l[i]?) h.1;simp only[cE,e,oa] at this;cases q:cs[i]? with
 |none=>rw[q] at this;cases this
 |some a=>rw[q] at this;exact⟨a,by simpa using this,rfl⟩
def YC(Γ:Cn)(l:bP):Bool:=
 (l.sc.kind==.function)&&!l.sc.isCoroutine&&!l.sc.isGenerator&&l.sc.names.all (λp=>p.2 != .cell)&&(frees l.sc==l.fr)&&decide ((l.y::l.fr).Nodup)&&(l.sc.names.lookup l.y==aA .local)&&l.fr.all (λx=>l.sc.names.lookup x==aA .free)&&
 (l.y::l.fr).all (λx=>x != ("__debug__":aH)&&x != ("__classdict__":aH))&&Γ.G.all (λx=>Γ.U.contains x&&l.sc.names.lookup x==aA .globalImplicit)
noncomputable def uB(Γ:Cn)(l:bP)(G:List aH):Cn:={Γ with N:=l.y::l.fr,G:=G,cel:=l.fr,own:=[],lam:=aE,fz:=l.fr,calm:=aB}
def AU (R:dS)(n:Nat)(Γ:Cn)(l:bP):Prop:=(l.sb=aE/\(aP R n).e Γ l.body=aA l.g)\/∃q ds,l.sb=aA q/\zf ((aP R n).s Γ) q.2=aA ds/\l.g=LU ds
theorem R1{R:dS}{P:cI}{w:eE}{K:bO}{base:aV}{Γ:Cn}{G:List aH}(HR:cG D R){n k0:Nat}{l:bP}(M:fY D P w K mg base Γ k0)(hsc:YC (uB Γ l G) l=aB)(hE:AU R n (uB Γ l G) l)
  {A:fQ}{s:bB}{a c:aF}{cs:List aF}(hr:bZ (k0+1) A) (e0:dZ P w K mg base A outer s H) (ho:yf a c l cl s.heap) (hrec:s.heap.CodeRec (.ref c) l.qn) (L:U4 l.fr cl cs)
  {ts:List T}{vs:List V}(dts:aM D φ α H ts vs) (hvl:vs.length=cs.length) (hcv:∀(i:Nat) (c:aF),cs[i]?=aA c->∃x,vs[i]?=aA x/\iH H c x)
  {u:aD}{x:V}{Q:VK}{t:T}{μ:Mem}{Z0:Xp}{E:XK}(r:RelV x u) (d:bA D φ α H t x) (mr:aL D φ α H μ) (p:l.g (aA t::ts.map aA) μ K0 Z0) (hK0:∀t' U,K0 t' U->∀j C v',aQ α H j C->aL D φ j C U->bA D φ j C t' v'->Q v' C) (hZ0:∀c fs U,Z0 c fs U->∀j C cv d,aQ α H j C->aL D φ j C U->iU D c fs cv->cB D φ j C fs d->E cv d C) :
  gz (aS P w) A (.call (.ref a) ⟨[u],[]⟩) (CR (dB P w) outer P w H s Q E) s:=by
 obtain⟨pa,pm,ctv,doc,ho⟩:=ho;simp only[YC,cO,f6,beq_iff_eq,oi,decide_eq_true_eq,bne_iff_ne,ne_eq] at hsc;obtain⟨⟨⟨⟨⟨⟨⟨⟨⟨h1,h2⟩,h3⟩,h4⟩,h5⟩,h6⟩,h7⟩,h8⟩,h9⟩,h10⟩:=hsc;have lim:s.heap.NoLimit:=e0.mod.nolimit.keeps λb o e=>(e0.bs b o e).1;have hfl:l.fr.length=cs.length:=by have:=congrArg lI L.1;simpa using this
 have Z:∀z k,cl.lookup z=aA k->∃(i:Nat) (v:V),l.fr[i]?=aA z/\vs[i]?=aA v/\iH H k v:=λz k e=>by
  obtain⟨i,e1,e2⟩:=V1 L e;obtain⟨v,e3,e4⟩:=hcv i k e2;exact⟨i,v,e1,e3,e4⟩
 let env:Env:=newEnv l.sc s.heap.objs.size bT cl (l.qn++".<locals>.") (aA a) (.ref c) aE lM;let Y:Cx:={prog:=P,w:=w,K:=K,mg:=mg,base:=base,A:=A.deeper env,N:=l.y::l.fr,s₀:=s,H₀:=H,env:=env,outer:=outer,stack:=env::outer,ex:=[],fn:=λ_=>aC,calm:=aB,pn:=[],xe:=λ_ _=>False}
 have go:∀(cd:Env->Code) {R:mL->bB->Prop},(∀hh,Inv Y [] (aA x::vs.map aA) H {s with heap:=hh,toks:=s.toks+[(l.y,u)].length}->gz (aS P w) A (cd env) R {s with heap:=hh,toks:=s.toks+[(l.y,u)].length})->
   wpAny (aS P w) A.in1 (me (Ce l.nm l.qn ⟨[],[⟨l.y,aE,pa⟩],aE,[],[],aE,[]⟩ l.fb l.sc cl doc pm (.ref c) ctv) ⟨[u],[]⟩) (λbinds s₁=>wpAny (aS P w) A.in1 (newFunctionEnv l.sc bT cl binds (l.qn++".<locals>.") (aA a) (.ref c) aE lM) (λenv s₂=>s₂.heap.NoLimit/\gz (aS P w) A (cd env) R s₂) (λe s'=>R (.error e) s') s₁) (λe s'=>R (.error e) s') s:=λcd R kk=>by
  refine nP (iz rfl rfl) (Er h4 (λz f=>?_) (λhh hns hsb=>?_) h1)
  .rw[bU.mp f];exact h7
  have S:∀b o,s.heap.get? b=aA o->hh.get? b=aA o:=λb o e=>hsb.extBut b o (cX (bX e)) (bY _ e);refine⟨lim.keeps S,kk hh ?_⟩
  refine⟨⟨e0.mod,h1,rfl,rfl,bD _,λy z k q1 q2=>?_,λy hy=>?_,λy k z=>(by cases z),λ_=>hr.hd,Et e0.frames,.inr ⟨rfl,rfl⟩,λb z=>absurd z (by simp[Y]),e0.bs,e0.bsz,λb _ _=>(by simp[Y]),λb z=>absurd z (by simp[Y]),e0.funs,e0.frf⟩,
   rfl,e0.bare,Un.kept S,⟨_,hns,λi y v q1 q2 q3=>?_⟩,λy k q=>?_,e0.hok.fresh (bD _),λy k q=>?_,λp hp=>absurd hp (by simp[Y]),e0.hok.kept S,by simp[Y,hvl,hfl]⟩
  .obtain⟨i1,a1,a2⟩:=V1 L q1;obtain⟨i2,b1,b2⟩:=V1 L q2;have:i1=i2:=by
    obtain⟨l1,g1⟩:=bE.mp a2;obtain⟨l2,g2⟩:=bE.mp b2;exact (nZ L.2.1).mp (g1.trans g2.symm)
   rw[this,b1] at a1;exact (bQ a1).symm
  .rcases hy with hy|hy
   .exact absurd rfl (h4 _ (li hy))
   .obtain⟨i,hi⟩:=fN.mp (show y∈l.fr by rw[<-h5];exact j0.mpr ⟨_,li hy,rfl,rfl⟩);obtain⟨k,e,_⟩:=XU L hi;exact⟨k,e⟩
  .cases i with
   |zero=>
    cases q1;cases q2;exact⟨u,r,.inl ⟨h7,by simp[gT]⟩⟩
   |succ i=>
    have q1:l.fr[i]?=aA y:=q1;obtain⟨k,e1,e2⟩:=XU L q1;obtain⟨v',e3,⟨o,ob,u',k1,k2,k3⟩⟩:=hcv i k e2;have q2:(vs.map aA)[i]?=aA (aA v):=q2;rw[cE,e3] at q2;cases q2;exact⟨u',k3,.inr ⟨.inr (h8 y (bK q1)),k,e1,o,S _ _ (e0.hok k _ k1).1,k2⟩⟩
  .obtain⟨i,v,_,_,⟨o,ob,u',k1,k2,k3⟩⟩:=Z y k q;exact⟨aA u',o,S _ _ (e0.hok k _ k1).1,k2⟩
  .obtain⟨i,v,_,_,⟨o,ob,u',k1,k2,k3⟩⟩:=Z y k q;exact .inr ⟨rfl,o,ob,k1⟩
 have F:ly Y env outer s.heap.objs.size:=⟨rfl,rfl,rfl⟩;have hr':bZ k0 Y.A:=hr.deeper env;have kd:∀z∈l.y::l.fr,iB l.sc z:=λz f=>(cK.mp f).elim (λq=>.inl (by rw[q];exact h7)) λq=>.inr (.inr (h8 z q));have hyf:l.y∉l.fr:=by have:=h6;rw[iP] at this;exact this.1
 have sto0:nz (Y.wish (XP Y (eQ E))) (uB Γ l G).sto:=λz f=>by
  obtain⟨z1,z2⟩:=eW.mp f;have e:z=l.y:=(cK.mp z1).resolve_right λq=>by
   have:(!l.fr.contains z)=aB:=z2;rw[ik.mpr q] at this;cases this
  rw[e];exact⟨.inl h7,.inr h7⟩
 have lcl0:∀z∈l.y::l.fr,l.fr.contains z=aC->l.sc.names.lookup z=aA .local:=λz f hc=>by
  have e:z=l.y:=(cK.mp f).resolve_right λq=>by
   rw[ik.mpr q] at hc;cases hc
  rw[e];exact h7
 have C2:Sk D (eQ E) (uB Γ l G) (Y.wish (XP Y (eQ E))) k0:={hK:=M.hK,hN:=rfl,nd:=h6,vis:=kd,dbg:=λz f=>⟨beq_eq_false_iff_ne.mpr (h9 z f).1,beq_eq_false_iff_ne.mpr (h9 z f).2⟩,dbG:=λz f=>(M.glo z (ik.mp (h10 z f).1)).2,glb:=λz f=>(h10 z f).2,glo:=λz f=>(M.glo z (ik.mp (h10 z f).1)).1,glU:=M.glo,cel:=λz f=>.inr (h8 z f),isi:=M.isi,fld:=M.fld,xcx:=M.xcx,ocx:=M.ocx,clv:=M.clv,clm:=λ_=>rfl,rom:=λ_=>hr',rmh:=⟨hr'.dp,hr'.un⟩,xe:=λe s p=>kK p,frm:=⟨_,_,_,F.stk,F.f0,F.fe⟩,lam:=cZ.no rfl,kfz:=(λh=>by cases h),sto:=sto0,lcl:=lcl0,pso:=λe s p=>uf F (kG p) e s p,xmt:=M.xmt};have sr:a_ D φ α H (aA t::ts.map aA) (aA x::vs.map aA):=by
  refine⟨by simp[dts.length],λi t' e=>?_⟩;cases i with
  |zero=>cases e;exact⟨x,rfl,d⟩
  |succ i=>
   have e:(ts.map aA)[i]?=aA (aA t'):=e;rw[cE] at e;cases q:ts[i]? with
   |none=>rw[q] at e;cases e
   |some t2=>
    rw[q] at e;cases e;obtain⟨v,hv,dv⟩:=dts.get q;exact⟨v,by show (vs.map aA)[i]?=_;rw[cE,hv];rfl,dv⟩
 have X:∀e s',XP Y (eQ E) e s'->wpAny (aS P w) (A.deeper env) (pE env e) (λ_ O=>CR (dB P w) outer P w H s Q E (.error e) O) (λe' O=>CR (dB P w) outer P w H s Q E (.error e') O) s':=λe s' p=>Jg (M:=aS P w) (F2:=λe' O=>dB Y.prog Y.w Y.outer Y.H₀ Y.s₀ E e' O) F (kG p) rfl p;rcases hE with⟨hs0,hE⟩|⟨q,ds,hs0,hds,hgq⟩
 .refine EU hr.depth ho rfl h2 h3 (show l.fb=.expr l.body by unfold bP.fb;rw[hs0]) hrec (go (λenv=>.expr l.body env) λhh I=>?_);have B:=(wq HR n).e C2.toCk hE [] _ _ H Q (I.wish _) ⟨φ,α,_,μ,sr,mr,_,_,p,λa U e j C st m v' dv=>hK0 a U e j C v' st m dv,λc fs U z j C cv dd st m ad xd=>hZ0 c fs U z j C cv dd st m ad xd⟩;refine ET (dY B (λv s' hs=>?_) X);obtain⟨v',C,J,rv,q'⟩:=hs;exact⟨v',C,J.os,J.bare,J.base,J.hok,rv,q'⟩
 .rw[hgq] at p;refine EB hr.depth ho rfl h2 h3 (show l.fb=.stmts q.2 by unfold bP.fb;rw[hs0]) hrec (go (λenv=>.func q.2 env) λhh I=>?_);have B:=va (wu (wq HR n) C2 hds) [] _ _ H {nx:=λ_ C=>Q .non C,rt:=Q} (I.wish _) ⟨φ,α,_,μ,sr,mr,_,p,λ_ μ1 z j C σ' st m _=>hK0 _ _ z j C .non st m rfl,λ_ _ z=>z.elim,λ_ _ z=>z.elim,λt μ1 z j C v st m dv=>hK0 _ _ z j C v st m dv,λc fs _ μ1 z j C σ' cv dd st m _ ad xd=>hZ0 c fs μ1 z j C cv dd st m ad xd⟩;refine codeAny_func (dY B (λfl s' hs=>?_) X);cases fl with
  |ret u=>obtain⟨v',σ',C,J,rv,q'⟩:=hs;exact⟨v',C,J.os,J.bare,J.base,J.hok,rv,q'⟩
  |next=>obtain⟨σ',C,J,q'⟩:=hs;exact⟨.non,C,J.os,J.bare,J.base,J.hok,rfl,q'⟩
  |brk=>obtain⟨_,_,_,q'⟩:=hs;exact q'.elim
  |cont=>obtain⟨_,_,_,q'⟩:=hs;exact q'.elim
end
section
variable {X:Cx}{D:DP}{W:XW}{Γ:Cn}{k:Nat}{pins:List (aF×bF)}{s:Shared}{σ:St}{H:Hp}{φ α:List aF}{τ:Sl}{μ:Mem}{f:De}{a c:aI}{pos:Pos}
theorem NR(C:Ck D W Γ X k)(hU:Qu∈Γ.U)(hg:Γ.gl Qu=.kap ls)(hn:(m,n)∈Γ.fld)(hc:Γ.calm=aB)(hp:zZ o=aB)(M:(E.endLine==pos.line)=aB)(L:aO a=aB)(ho:PE X o (aU D W go))(ha:PE X a (aU D W f)) :
  PE X (.Call (.Attribute o m E) [a] [] pos) (aU D W (BY (ls.map λl=>(l.jt,l.g)) n go f)):=by
 have gq:=(C.glU _ hU).1;rw[hg] at gq;rintro J s Y H Q I ⟨F,α,τ,μ,sr,mr,p⟩;rw[tQ,qy hp];refine wpAny_bind (aW (sub ho I sr mr p) ?_);rintro u s1 ⟨v,S,t,μ1,i,I1,r1,st1,sr1,mr1,d1,p1⟩;refine wpAny_bind (hW ?_);have N:methodCallForm ([a].length+([]:List hI).length) (eU pos (dW [a] X.env)) (i4 pos (i_ [] X.env))=aB:=G1 (by simp[L]) (by show (1:Nat)<30;decide);have hpos:mW aB o X.env E pos=pure pos:=by unfold mW;simp[M]
 have run:∀{O C0 dx:aF}{gs:List (aH×V)}{z:V}{t0:T},S O=aA (.ins C0 dx gs)->gR X.K C0->cH X.K C0 m->gs.lookup m=aA z->u=.ref O->bA D F i S t0 z->aJ D W F i S Y (RV D F Q) (λK Z=>∃p:Nat×(Nat×De)×List T,((ls.map λl=>(l.jt,l.g))[p.1]?=aA p.2.1/\t0=UK p.1 p.2.1.1 p.2.2)/\((f τ μ1).bind λx μ3=>p.2.1.2 (aA x::p.2.2.map aA) μ3) K Z)->
   wpAny (aS X.prog X.w) X.A (nM o m E pos X.env u ([a].length+([]:List hI).length) (eU pos (dW [a] X.env)) (i4 pos (i_ [] X.env))) (EP X J Y Q) X.xe s1:=λ{O C0 dx gs z t0} e1 cl na lk hu dz p=>by
  subst hu;obtain⟨⟨j,⟨jt,gg⟩,ts⟩,⟨hj,rfl⟩,p2⟩:=p.ex1;rw[cE] at hj;obtain⟨l,hl,e⟩:=ow.mp hj;cases e;obtain⟨fa,kk,rfl,hkk,hF⟩:=gq.1 j l ts F i S z hl dz;unfold nM;rw[N];refine wpAny_bind (wpAny_holding (K4 I1 e1 cl na lk λu' s1' I1' r'=>?_));cases (show u'=cN fa from r');refine wpAny_bind (nP hpos ?_);refine PySem.W.callWith_F (first:=[]) (hF X.A X.stack s1' I1'.env0).1 (aW (zK ha qL (z5 L) pos J s1' Y S (λvs R=>∃v t G b,vs=[v]/\aQ i S b R/\aL D F b R G/\bA D F b R t v/\aJ D W F b R Y (RV D F Q) (l.g (aA t::ts.map aA) G)) I1' ⟨F,i,τ,μ1,sr1,mr1,p2.bind.mono λt h B P st m q v d=>⟨v,t,h,B,rfl,st,m,d,q⟩⟩) ?_) (z5 L) rfl;rintro us s2 ⟨vs,R,I2,rv,v2,t2,G,b,rfl,st2,m2,d2,K0,Z0,q6,k1,k2⟩;obtain⟨ux,rfl,rx⟩:=vals1 rv;obtain⟨fa',kk',e',hkk',hF'⟩:=gq.1 j l ts F b R _ hl (dz.step st2);cases e';have hE:=hF' X.A X.stack s2 I2.env0;refine⟨hE.1,lK (i7 (hE.2 ((C.rom hc).mono hkk') ux v2 Q t2 G K0 Z0 (λcv d P=>W cv d Y P) rx d2 m2 q6 (λt' h z B P v' st m dv=>k1 t' h z B P st m v' dv) (λc fs h z B P cv d st m ad xd=>k2 c fs h z B P cv d st m ad xd)) λr s' hq=>?_)⟩;cases r with
  |error e=>exact C.xe _ _ (Zg I2 hq λcls d P q=>q)
  |ok fl=>
   cases fl with
   |ret u=>exact I2.after hq
   |next=>exact eF hq
   |brk=>exact eF hq
   |cont=>exact eF hq
 unfold Zr at p1;split at p1
 .split at p1
  .rename_i c fs _ w hw;obtain⟨ad,C0,dx,gs,rfl,_,_,e1,e2,l⟩:=d1;obtain⟨y,z,hy,hz,dz⟩:=l.look hw;obtain⟨c0,c1,c2⟩:=C.fld c C0 m n e1 hn;rw[hy] at c0;cases c0;exact run e2 c1 c2 hz r1 dz p1
  .exact aJ.elim p1
 .obtain⟨c,fs,w,hi,hw,q⟩:=aJ.ex3 p1;obtain⟨ad,hi',rfl⟩:=d1;obtain⟨C0,dx,gs,e1,e2,l⟩:=mr1.ob _ ad _ hi' hi;obtain⟨y,z,hy,hz,dz⟩:=l.look hw;obtain⟨c0,c1,c2⟩:=C.fld c C0 m n e1 hn;rw[hy] at c0;cases c0;exact run e2 c1 c2 hz r1 dz q
 .exact aJ.elim p1
end
def AD (ls:List bP)(tbs:List (aF×List Pos×aH)):Nat->aF->Option HO->List V->Prop:=λn a d b=>
 (∃(j:Nat) (l:bP) (c:aF) (cl:List (aH×aF)) (cs:List aF),ls[j]?=aA l/\n=300+j/\U4 l.fr cl cs/\b=.ref c::cs.map V.ref/\d=aA (.ext (yf a c l cl)))\/
 (n=200/\∃(x:V) (u:aD) (o:bF) (e:HO),b=[x]/\RelV x u/\o.data=.cell (aA u)/\d=aA (.frz o e))\/
 ∃(j:Nat) (q:aF×List Pos×aH),tbs[j]?=aA q/\j<100/\n=100+j/\b=[]/\d=aA (.ext (w6 a q.2.2))
section
variable {P:Program}{w:World}{K:PySem.W.Frag}{mg:aH->Option aD}{base:aV}{n k0:Nat}
theorem O9{x:aH}{Γ:Cn}{G:bP->List aH}(HR:∀{D:DP},cG D R)(hb:tbs.length<=100)(I:∀l∈ls,(tbs[l.jt]?).map (·.2.2)=aA l.qn)
  (M:fY (mB K A0 (AD ls tbs) λj=>tbs[j]?) P w K mg base Γ k0) (h:∀l∈ls,YC (uB Γ l (G l)) l=aB/\AU R n (uB Γ l (G l)) l):cC (mB K A0 (AD ls tbs) λj=>tbs[j]?) P w K mg base (k0+1) x (.kap ls):=by
 have Y:∀{j:Nat}{l:bP},ls[j]?=aA l->∃X b,tbs[l.jt]?=aA (X,b,l.qn):=λ{j l} e=>by
  obtain⟨⟨p1,p2,p3⟩,q1,y⟩:=ow.mp (I l (bK e));cases y;exact⟨p1,p2,q1⟩
 have lt:∀{j:Nat}{q:aF×List Pos×aH},tbs[j]?=aA q->j<100:=λe=>dC (bE.mp e).1 hb;refine⟨λj l ts φ α H v L d=>?_,⟨λj l e=>Y e,λj l a c cl cs e h=>.inl ⟨j,l,c,cl,cs,e,rfl,h,rfl,rfl⟩,λc o u x F h1 V=>.inr (.inl ⟨rfl,x,u,o,F,rfl,V,h1,rfl⟩),λj X b qn c e=>.inr (.inr ⟨j,_,e,lt e,rfl,rfl,rfl⟩)⟩⟩;obtain⟨a,F,xs,rfl,S,J,v,q,hv,⟨c,C,xs2,k,O,i,_⟩,dl⟩:=d;rcases S with⟨j',l',c',cl,cs,e1,e2,W,e3,rfl⟩|⟨z,_⟩|⟨j',q',_,hj',z,_⟩
 .have:j=j':=by lia
  subst this;rw[L] at e1;cases e1;rw[hv] at e3;injection e3 with e4 e5;rw[e4] at k;cases k;subst e5;have f:C=aA (.ext (w6 c l.qn)):=by
   obtain⟨X,Z,hq⟩:=Y L;have:=lt hq;rcases O with⟨m,_,_,_,_,_,z,_⟩|⟨z,_⟩|⟨m,y,g,_,z,_,e⟩
   .lia
   .lia
   .have:l.jt=m:=by lia
    subst this;rw[hq] at g;cases g;exact e
  subst f;refine⟨a,k0+1,rfl,bD _,λA B s e0=>?_⟩;have ha:=(J _ rfl).2.2;have N:=(i _ rfl).2.2;obtain⟨np,_⟩:=(show aZ P w H s.heap a (.ext (yf a c l cl)) from e0.hok a _ ha);obtain⟨cr,_⟩:=(show aZ P w H s.heap c (.ext (w6 c l.qn)) from e0.hok c _ N);refine⟨?_,λhr u x Q t μ K0 Z0 E r dx mr p U T=>?_⟩
  .obtain⟨_,_,_,_,V⟩:=np;exact⟨_,_,_,_,V⟩
  .obtain⟨vs,h3,h4,h5⟩:=Wc (λc F xs S=>by
    rcases S with⟨m,_,_,_,_,_,z,_⟩|⟨_,z⟩|⟨m,y,_,z2,z,_⟩
    .lia
    .exact z
    .lia) dl
   obtain⟨g1,g2⟩:=h l (bK L);exact R1 HR M g1 g2 hr e0 np cr W h3 h4 h5 r dx mr p U T
 .lia
 .lia
end
def sw (e:aI):Option (aH×Pos×aH×Pos×aH×Pos×Pos):=(xo e).bind λq=>(oU q.o).bind λo=>(yO q.as).bind λa=>(oU a).bind λy=>aA (o.1,o.2,q.m,q.pa,y.1,y.2,q.pc)
theorem G5(h:sw e=aA w):e=.Call (.Attribute (.Name w.1 w.2.1) w.2.2.1 w.2.2.2.1) [.Name w.2.2.2.2.1 w.2.2.2.2.2.1] [] w.2.2.2.2.2.2:=by
 obtain⟨q,f,h⟩:=aR h;obtain⟨o,d,h⟩:=aR h;obtain⟨a,c,h⟩:=aR h;obtain⟨y,b,h⟩:=aR h;cases h;rw[wF f,VG d,q_ c,VG b]
def Ii (a b:aI):Bool:=(sw a).isSome&&(sw a==sw b)
theorem Nd(h:Ii a b=aB):a=b:=by
 obtain⟨d,c⟩:=zy h;obtain⟨w,hw⟩:=wr.mp d;have c:=beq_iff_eq.mp c;rw[G5 hw,G5 (c.symm.trans hw)]
def Yg(y:aH)(body:aI)(sc:Scope):List bP->Nat->Option (Nat×bP)
 |[],_=>aE
 |l::r,i=>match l.sb.isNone&&l.y==y&&l.sc==sc&&Ii l.body body with
  |true=>aA (i,l)
  |false=>Yg y body sc r (i+1)
theorem JR{body:aI}:∀{ls:List bP}{i j:Nat},Yg y body sc ls i=aA (j,l)->i<=j/\ls[j-i]?=aA l/\l.y=y/\l.sc=sc/\l.body=body/\l.sb=aE
 |[],_,_,h=>by cases h
 |l'::r,i,j,h=>by
  unfold Yg at h;split at h
  .rename_i q;cases h;simp only[cO,beq_iff_eq] at q;exact⟨bD _,by simp,q.1.1.2,q.1.2,Nd q.2,by simpa using q.1.1.1⟩
  .obtain⟨c,b,a⟩:=JR h;refine⟨by lia,?_,a⟩;rw[show j-i=(j-(i+1))+1 by lia,wT];exact b
noncomputable def Bb:GM->Option (List bP)
 |.kap ls=>aA ls
 |_=>aE
theorem YF(h:Bb g=aA ls):g=.kap ls:=by
 cases g<;>first|(cases h;rfl)|cases h
def Cb:ER:=λr a e=>(rX e).bind λq=>(Bb (a.gl Qu)).bind λls=>(Yg q.1 q.2.1 q.2.2.1 ls 0).bind λz=>a.lam.bind λp=>(jX a.N z.2.fr).bind λfs=>
 gd (a.lnm==("<lambda>":aH)&&a.U.contains Qu&&p.1==z.2.jt&&decide (q.2.2.2∈p.2)&&frees z.2.sc==z.2.fr&&decide (z.2.fr.Nodup)&&z.2.fr.all (λx=>a.fz.contains x&&a.cel.contains x)) (aA (Ci z.2.jt z.1 fs))
theorem SY:cR D Cb:=by
 intro r H X W B k e d C h;unfold Cb at h;obtain⟨q,m,h⟩:=aR h;obtain⟨ls,i,h⟩:=aR h;obtain⟨⟨j,l⟩,g,h⟩:=aR h;obtain⟨⟨F,a⟩,f,h⟩:=aR h;obtain⟨fs,c,h⟩:=aR h;obtain⟨b,h⟩:=z9 h;cases h;simp only[cO,beq_iff_eq,decide_eq_true_eq,f6,ik] at b;obtain⟨⟨⟨⟨⟨⟨A,z⟩,y⟩,x⟩,w⟩,v⟩,u⟩:=b;obtain⟨E,rfl⟩:=Ya m;obtain⟨_,t,s,p,o,n⟩:=JR g;subst y;rw[<-s,<-p,<-o];exact Pd C n A f x z (YF i) (by simpa using t) w v u c
def Gg:ER:=λr b e=>(xo e).bind λq=>(yO q.as).bind λa=>(Bb (b.gl Qu)).bind λls=>gd (zZ q.o&&q.pa.endLine==q.pc.line) (gd (b.calm&&aO a) (gd (b.U.contains Qu&&q.m==("keeper":aH)) ((r.e b q.o).bind λgo=>(r.e b a).bind λf=>(b.fld.lookup q.m).bind λn=>aA (BY (ls.map λl=>(l.jt,l.g)) n go f))))
theorem O0:cR D Gg:=by
 intro r H X W s k e d C h;obtain⟨q,l,h⟩:=aR h;obtain⟨a,g,h⟩:=aR h;obtain⟨ls,j,h⟩:=aR h;obtain⟨c,h⟩:=z9 h;obtain⟨b,h⟩:=z9 h;obtain⟨i,h⟩:=z9 h;obtain⟨go,p,h⟩:=aR h;obtain⟨f,o,h⟩:=aR h;obtain⟨n,m,h⟩:=aR h;cases h;rw[wF l,q_ g];exact NR C (by simpa using (zy i).1) (YF j) (Zz m) (zy b).1 (zy c).1 (zy c).2 (zy b).2 (H.e C p) (H.e C o)
end NH
namespace NH
open PySem PySem.Spec PyProof.Rows L2 PySem.W
def qi (K:Frag)(x:aH)(st:bG):Prop:=∃f fd,nsIn K bT x=aA (aA (.ref f))/\mJ K x x st f fd
def qY (K:Frag)(C:aF)(x q:aH)(st:bG):Prop:=∃f fd,c7 K (.ref C) x=aA (aA (.ref f))/\isFn K (.ref f)=aB/\mJ K x q st f fd
def V7 (K:Frag)(C:aF)(x q:aH)(st:bG):Prop:=∃f fd,nsIn K bT x=aA (aA (.ref C))/\c7 K (.ref C) "__init__"=aA (aA (.ref f))/\isFn K (.ref f)=aB/\mJ K "__init__" q st f fd/\nH K C=aB/\eP K (.ref C)=aB
theorem dfp{K:Frag}{x:aH}{st:bG}{f:aF}{h:aD}{g an:Option aF}{d:Array (Option aD)}{kV doc e b ct:aD}(a:nsIn K bT x=aA (aA (.ref f)))(l:K.lookup f=aA ⟨h,g,.func (fnOf x x (zF st) (z0 st) (zu st) .none kV doc e an b ct),d⟩)(c:fB K b x=aB)(k:eP K (.ref f)=aB):qi K x st:=⟨f,_,a,xD l c k⟩
theorem mtp{K:Frag}{x q:aH}{st:bG}{f C:aF}{h:aD}{g an:Option aF}{d:Array (Option aD)}{kV doc e b ct:aD}(a:c7 K (.ref C) x=aA (aA (.ref f)))(j:isFn K (.ref f)=aB)(l:K.lookup f=aA ⟨h,g,.func (fnOf x q (zF st) (z0 st) (zu st) .none kV doc e an b ct),d⟩)(c:fB K b q=aB)(k:eP K (.ref f)=aB):qY K C x q st:=⟨f,_,a,j,xD l c k⟩
theorem clp {K:Frag}{x q:aH}{st:bG}{f C:aF}{h:aD}{g an:Option aF}{d:Array (Option aD)}{kV doc e b ct:aD}(a:nsIn K bT x=aA (aA (.ref C))) (i:c7 K (.ref C) "__init__"=aA (aA (.ref f))) (j:isFn K (.ref f)=aB) (l:K.lookup f=aA ⟨h,g,.func (fnOf "__init__" q (zF st) (z0 st) (zu st) .none kV doc e an b ct),d⟩) (c:fB K b q=aB) (k:eP K (.ref f)=aB) (m:nH K C=aB) (kk:eP K (.ref C)=aB):V7 K C x q st:=⟨f,_,a,i,j,xD l c k,m,kk⟩
noncomputable def PL:Nat->(List aD->Prop)->Prop
 |0,P=>P []
 |n+1,P=>∀a,PL n λl=>P (a::l)
theorem PL.all:∀{n:Nat}{P:List aD->Prop},PL n P->∀us:List aD,us.length=n->P us
 |0,_,h,[],_=>h
 |_+1,_,h,a::l,e=>PL.all (h a) l (Nat.succ.inj e)
abbrev xC(st:bG):List aH:=(zF st).args.map (·.arg)
abbrev Dg(x q:aH)(st:bG)(ps:List aH):Prop:=∀(kV a d:aD) (an:Option aF) (b ct:aD),PL ps.length λc=>me (fnOf x q (zF st) (z0 st) (zu st) .none kV a d an b ct) ⟨c,[]⟩=pure (ps.zip c)
abbrev GsB(l:mP)(w:eE)(K:Frag)(mg:aH->Option aD)(base:aV)(k:Nat)(gs:List (aH×GM)){A:iI}{clo:Nat->aF->Option HO->List V->Prop}{tabs:Nat->Option (aF×List Pos×aH)}:Prop:=bH l.prog w K mg base A clo k gs tabs
structure Pk(R:dS)(K:Frag)(mg:aH->Option aD)(base:aV)(A:iI)(cls fld:List (aH×Nat)):Prop where
 r:∀{D},cG D R
 i:K.In base
 n:base.Ns bT mg
 c:nv K A cls fld=aB
section
variable {R:dS}{P:Program}{w:World}{K:Frag}{mg:aH->Option aD}{base:aV}{A:iI}{cls fld:List (aH×Nat)}{clo:Nat->aF->Option HO->List V->Prop}{gs:List (aH×GM)}{tabs:Nat->Option (aF×List Pos×aH)}{k:Nat}{x qu:aH}{st:bG}{f C:aF}{fd:FuncData}{ps N G cel own:List aH}{m n:Nat}{ds:List Ds}
theorem Pk.ok(Z:Pk R K mg base A cls fld)(F:mJ K x qu st f fd)(q:bH P w K mg base A clo k gs tabs)(a:zf ((aP R n).s (cn cls fld gs N G cel own aE)) (z0 st)=aA ds)(hs:yQ (cn cls fld gs N G cel own aE) ps (zu st)=aB)(e:N.length=ps.length+m) :
  bS P w K mg base (dB P w) (k+1) f fd ps (eR (mB K A clo tabs) ps.length (bI ps.length m ds)):=by
 obtain⟨l,j,kV,doc,h,an,g,ct,d,rfl,lk,b⟩:=F.ex;exact jI Z.r (yd Z.i Z.n Z.c q) lk b hs e a
theorem Pk.fn (Z:Pk R K mg base A cls fld) (p:qi K x st) (q:bH P w K mg base A clo k gs tabs) (b:zf ((aP R n).s (cn cls fld gs N G cel own aE)) (z0 st)=aA ds) (hs:yQ (cn cls fld gs N G cel own aE) (xC st) (zu st)=aB) (e:N.length=(xC st).length+m) (hb:Dg x x st (xC st)) (d:(x==("__debug__":aH))=aC) :
  bH P w K mg base A clo (k+1) ((x,GM.fn (bI (xC st).length m ds))::gs) tabs:=by
 obtain⟨f,fd,a,F⟩:=p;exact bH.add (q.mono (iK k)) ⟨f,eD Z.i Z.n a,fd,(xC st),k+1,F.kp,F.binds λkV dc c an cd ct=>(hb kV dc c an cd ct).all,bD _,Z.ok F q b hs e,wY⟩ d
theorem Pk.met {c:Nat}{ky:aH}(Z:Pk R K mg base A cls fld) (p:qY K C x qu st) (q:bH P w K mg base A clo k gs tabs) (a:zf ((aP R n).s (cn cls fld gs N G cel own aE)) (z0 st)=aA ds) (b:A.cs.lookup c=aA C) (g:(iW.contains x)=aC) (hs:yQ (cn cls fld gs N G cel own aE) (xC st) (zu st)=aB) (l:N.length=(xC st).length+m) (hb:Dg x qu st (xC st)) (e:(ky==("__debug__":aH))=aC) :
  bH P w K mg base A clo (k+1) ((ky,GM.met c x (bI (xC st).length m ds))::gs) tabs:=by
 obtain⟨f,fd,i,j,F⟩:=p;refine bH.add (q.mono (iK k)) ⟨C,f,fd,(xC st),k+1,b,ZQ Z.c b,⟨i,j,F.kp⟩,λi h=>?_,F.binds λkV dc d an cd ct=>(hb kV dc d an cd ct).all,bD _,Z.ok F q a hs l,wY⟩ e;have:=ik.mpr (bK (show iW[i]?=aA x from h));rw[g] at this;cases this
theorem Pk.cl {c:Nat}{b:Bool}(Z:Pk R K mg base A cls fld) (p:V7 K C x qu st) (q:bH P w K mg base A clo k gs tabs) (d:zf ((aP R n).s (cn cls fld gs N G cel own aE)) (z0 st)=aA ds) (l:A.cs.lookup c=aA C) (hs:yQ (cn cls fld gs N G cel own aE) (xC st) (zu st)=aB) (h:N.length=(xC st).length+m) (hb:Dg "__init__" qu st (xC st)) (g:(x==("__debug__":aH))=aC) :
  bH P w K mg base A clo (k+2) ((x,GM.mk c b (bI (xC st).length m ds))::gs) tabs:=by
 obtain⟨f,fd,a,i,j,F,mk,kk⟩:=p;exact bH.add (q.mono (Nat.le_add_right k 2)) ⟨C,f,fd,(xC st),k+1,l,eD Z.i Z.n a,⟨mk,i,j,kk⟩,F.binds λkV dc e an cd ct=>(hb kV dc e an cd ct).all,bD _,Z.ok F q d hs h,wY⟩ g
end
end NH
namespace NH
open PySem PySem.Spec PyProof.Rows L2
noncomputable def sIx(l:List bG)(i:Nat):bG:=l.getD i (.Pass ⟨0,0,0,0⟩)
noncomputable def LM:bG->aI
 |.Assign _ e _=>e
 |.Return (aA e) _=>e
 |.Expr e _=>e
 |_=>.Name "" ⟨0,0,0,0⟩
noncomputable def Lm(e:aI)(i:Nat):aI:=match e with
 |.Call _ a _ _=>a.getD i e
 |_=>e
noncomputable def LJ:aI->aI
 |.Lambda _ b _ _=>b
 |e=>e
noncomputable def Lo:aI->Scope
 |.Lambda _ _ s _=>s
 |_=>⟨.function,[],aC,aC,[]⟩
noncomputable def gZ{β:Type}(P:β->Prop):List β->Prop
 |[]=>True
 |a::r=>P a/\gZ P r
theorem gZ.mem{P:β->Prop}:∀{ls:List β},gZ P ls->∀l∈ls,P l
 |[],_,_,h=>absurd h (by simp)
 |a::r,q,l,h=>(cK.mp h).elim (λe=>e▸q.1) λh=>gZ.mem q.2 l h
theorem MA{P:cI}{K:bO}{F:List aH}(M:fY D P w K mg base Γ k):fY D P w K mg base {Γ with fz:=F} k:=⟨M.hK,M.glo,M.isi,M.fld,M.xcx,M.ocx,M.clv,M.xmt⟩
theorem Nk{R:dS}{D:DP}{P:cI}{w:eE}{K:bO}{mg:aH->Option aD}{base:aV}{Γ:Cn}{n k:Nat}(p:cG D R){f:aF}{name qual:aH}{params:Arguments}{body:List bG}{scope:Scope}{i kV doc h a ct l:aD}{an j:Option aF}{c:Array (Option aD)}{ps:List aH}{m cut:Nat}{ds:List Ds}
  (M:fY D P w K mg base Γ k) (lk:K.lookup f=aA ⟨l,j,.func (f8 name qual params body scope i kV doc h an a ct),c⟩) (g:fB K a qual=aB) (hs:yQ Γ ps scope=aB) (o:Γ.N.length=ps.length+m) (e:zf ((aP R n).s {Γ with fz:=[]}) (body.take cut)=aA (ds.take cut)) (d:zf ((aP R n).s Γ) (body.drop cut)=aA (ds.drop cut)) (b:cZ D mg base a (qual++".<locals>.") k Γ.lam Γ.lnm) :
  bS P w K mg base (dB P w) (k+1) f (f8 name qual params body scope i kV doc h an a ct) ps (eR D ps.length (bI ps.length m ds)):=by
 have:=K2 p M lk g hs o (ou cut body).symm e d b;rwa[ou] at this
abbrev zbv(x y:T)(μ:Mem):RE T:=match x with
 |.str x=>(match y with
  |.int n=>.grd (x.length=1/\1<n/\n<=1000) (.ok (.str (Txt.mul x n)) μ)
  |_=>.st)
 |_=>.st
noncomputable def Qa(x:aH):List (aH×Int)->T
 |[]=>.non
 |p::r=>if p.1=x then .int p.2 else Qa x r
abbrev LS(kvs:List (aH×Int))(t:T)(μ:Mem):RE T:=match t with
 |.str x=>.ok (Qa x kvs) μ
 |_=>.st
abbrev B8(kvs:List (aH×Int))(f:De):De:=λa b=>(f a b).bind (LS kvs)
section
variable {X:Cx}{D:DP}{W:XW}{Γ:Cn}{k:Nat}{pins:List (aF×bF)}{s:Shared}{σ:St}{H:Hp}{φ α:List aF}{τ:Sl}{μ:Mem}{f g:De}{a b:aI}
theorem TL:∀{kvs:List (aH×Int)},(vB (kvs.map λp=>((.inr p.1:Key),V.int p.2)) (.inr x)).getD .non=(match Qa x kvs with|.int i=>V.int i|_=>V.non):=by
 intro kvs;induction kvs with
 |nil=>rfl
 |cons p r a=>
  unfold Qa;by_cases e:p.1=x
  .rw[if_pos e,c8,yn (p:=((.inr p.1:Key),V.int p.2)) (by rw[e])];rfl
  .rw[if_neg e,c8,kj (p:=((.inr p.1:Key),V.int p.2)) (λz=>e (ie z))];exact a
theorem WO:∀{kvs:List (aH×Int)},bA D φ α H (Qa x kvs) (match Qa x kvs with|.int i=>V.int i|_=>V.non)
 |[]=>rfl
 |p::r=>by
  unfold Qa;by_cases e:p.1=x
  .rw[if_pos e];rfl
  .rw[if_neg e];exact WO
theorem PB(C:Ck D W Γ X k)(i:x∈Γ.G)(R:Γ.gl x=.tbl kvs)(hs:aO a=aB)(c:(pa.endLine==pc.line)=aB)(S:PE X a (aU D W f)) :
  PE X (.Call (.Attribute (.Name x p0) "get" pa) [a] [] pc) (aU D W (B8 kvs f)):=by
 have r:dW [a] X.env=[(aC,eval a X.env)]:=z5 hs;have m:M1 X (.Name x p0) "get" pa a pc:=⟨qy rfl,by rw[r];rfl,c,by rw[r];rfl⟩;have q:=C.glo x i;rw[R] at q;obtain⟨ad,vs,P,T,O,u⟩:=q;rintro n s σ H Q I ⟨Z,α,τ,μ,K,N,p⟩;refine wpAny_Call_method m.base m.few m.line rG rC Ey (vb I (C.glb x i) P ?_ (C.dbG x i));have dd:=u _ I.kIn;refine⟨dd.typeIs,λb e=>?_,?_⟩
 .cases e;obtain⟨M,_,_,V,U,_⟩:=dd;exact⟨M,V,U.2.1⟩
 .rw[m.trees];refine ng rfl (m9 (mx (aW (sub S I K N p) ?_)));rintro iv s2 ⟨v,Y,t,A,B,y,L,E,J,h,j,o⟩;refine om ?_;cases t with
  |str z=>
   have j:v=.str z:=j;subst j;have g:=u _ y.kIn;refine nO rC g.typeIs ED (PySem.F.args_dict_get_2 _ _) (meets_dict_get (zD X.prog X.w) ad (yl (k:=.inr z) L) T) ⟨_,g.mapOf,?_⟩;have l:=(KV.val O (.inr z)).getD (d:=.non) (d':=.none) rfl;rw[TL] at l;exact⟨_,Y,y.tok _,l,aJ.here o h WO⟩
  |_=>exact aJ.elim o
noncomputable def Ge:GM->Option (List (aH×Int))
 |.tbl a=>aA a
 |_=>aE
theorem O7{g:GM}(h:Ge g=aA q):g=.tbl q:=by cases g<;>first|(cases h;rfl)|cases h
def GO:ER:=λr Γ e=>(xo e).bind λq=>(oU q.o).bind λx=>(yO q.as).bind λa=>gd (q.m==("get":aH)) (gd ((cJ Γ.N x.1).isNone&&aO a) (gd (q.pa.endLine==q.pc.line) ((r.e Γ a).bind λf=>(Ge (Γ.look x.1)).bind λb=>aA (B8 b f))))
theorem SH:cR D GO:=by
 intro r H X W t k e d C h;obtain⟨q,s,h⟩:=aR h;obtain⟨x,p,h⟩:=aR h;obtain⟨a,o,h⟩:=aR h;obtain⟨n,h⟩:=z9 h;obtain⟨m,h⟩:=z9 h;obtain⟨l,h⟩:=z9 h;obtain⟨f,j,h⟩:=aR h;obtain⟨b,g,h⟩:=aR h;cases h;rw[wF s,VG p,q_ o,qr n];obtain⟨c,i⟩:=jK (O7 g) (by intro z;cases z);exact PB C c i (zy m).2 l (H.e C j)
end
def Ao (w:eE):List sS->List (aH×Int)->Prop
 |[],[]=>True
 |e::r,p::q=>(∃t u,e=⟨iZ w p.1,.str p.1 t,.int p.2 u⟩)/\Ao w r q
 |_,_=>False
theorem Y5{P:cI}:∀{es:List sS}{kvs:List (aH×Int)},Ao w es kvs->∃vs,KV (kvs.map λp=>((.inr p.1:Key),V.int p.2)) vs/\Pairs (zD P w) es vs/\vs.map (·.1)=kvs.map (λp=>(.inr p.1:Key))/\∀e∈es,∃k,(zD P w).is k e.key=aB/\e.hash=(zD P w).hash k
 |[],[],_=>⟨[],.nil,.nil,rfl,by simp⟩
 |e::r,p::q,h=>by
  obtain⟨⟨t,u,rfl⟩,h⟩:=h;obtain⟨vs,g,f,d,c⟩:=Y5 (P:=P) h;have b:(zD P w).is (.inr p.1) (.str p.1 t)=aB:=WK p.1 t;refine⟨(.inr p.1,.int p.2 u)::vs,.cons ⟨rfl,u,rfl⟩ g,.cons b rfl f,by rw[c8,c8,d],λe a=>?_⟩;rcases cK.mp a with rfl|a
  .exact⟨_,b,rfl⟩
  .exact c e a
 |[],_::_,h=>h.elim
 |_::_,[],h=>h.elim
theorem NC{P:cI}{K:bO}(d:mg x=aA (.ref a))(hs:(a==gS)=aC)
  (lk:K.lookup a=aA {cls:=.type "dict",data:=.dict es ep}) (hr:Ao w es.toList kvs) (nd:(kvs.map (·.1)).Nodup):cC D P w K mg base k x (.tbl kvs):=by
 obtain⟨c,l,j,i,g⟩:=Y5 (P:=P) hr;refine⟨a,c,d,hs,l,λh b=>⟨_,es,ep,b _ _ lk,⟨rfl,rfl,rfl⟩,rfl,λe f=>g e (Ev.mpr f),j,?_⟩⟩;rw[i,E2,lb];have nd:=E2.mp nd;rw[lb] at nd;exact DS (λ{p q} n e=>n (ie e)) nd
end NH
namespace NH.P
open PySem L2 NH
@[reducible] def Qj:List Ds:=[(bL (fD (tE (zw .Eq (dX u4 (eV 0)) (eC (.int 0)))) (qh (tE (yP [3] (aX (eV 0) (eC (.int 0))))))) [(zh (eC (.bl aC)))] []),(zh (zw .Eq (B8 [("lease",5),("ask",4),("store",4),("take",4),("back",3),("fall",3),("bare",3)] (aX (eV 0) (eC (.int 0)))) (dX u4 (eV 0))))]
def wx:Fn:=bI 1 0 Qj
end NH.P
namespace NH
open PySem PySem.Spec PyProof.Rows L2
abbrev UL:Key->T
 |.inl i=>.int i
 |.inr z=>.str z
def xj(μ:Mem)(i:Nat)(kvs:List (Key×T)):Prop:=μ[i]?=aA (.dic kvs)\/∃ep,μ[i]?=aA (.frd ep kvs)
abbrev sx(i ep:Nat)(kvs:List (Key×T)):Mem->Prop:=λa=>a[i]?=aA (.frd ep kvs)
abbrev iD(f:De):Di:=λc d=>(f c d).it λt b=>match t with
 |.mut i=>λK _=>∃a,xj b i a/\∀ep,K (a.map λp=>UL p.1) (sx i ep a) (b.set i (.frd ep a))
 |_=>RI.st
abbrev JJ(t:T)(μ:Mem):RE T:=match t with
 |.mut i=>λK _=>∃a,xj μ i a/\K (.int a.length) μ
 |_=>.st
abbrev W_(x y:T)(μ:Mem):RE T:=match x,y with
 |.mut i,.str z=>λK _=>∃a v,xj μ i a/\ze (.inr z) a=aA v/\K v μ
 |_,_=>.st
def Ir (a:aF)(ep n:Nat):It:=⟨λi H=>∃gs p,H a=aA (.dE ep gs)/\gs.length=n/\gs[i]?=aA p,λi H x b=>b=H/\∀gs,H a=aA (.dE ep gs)->∃p,gs[i]?=aA p/\x=kV p.1,λi H=>∃gs,H a=aA (.dE ep gs)/\gs.length=n/\gs.length<=i⟩
theorem Gq{P:cI}(h:(zD P w).is k u=aB):RelV (kV k) u:=by
 cases k with
 |inl i=>exact DJ (show tG i u=aB from h)
 |inr x=>exact DB (show tT x u=aB from h)
theorem Ug{P:cI}{K:bO}(a it:aF)(ep n:Nat):fH P w K tg (Ir a ep n) [it] it (λi h=>h.IsKeyIter it a i n ep) where
 mem:=by simp
 obj:=λi h st b j=>by
  have e:b=it:=by simpa using j
  subst e;obtain⟨o,e,c,d⟩:=st;exact⟨o,e,λv z=>by rw[d] at z;cases z⟩
 keep:=λi h x st k=>st.at λo e=>k it (by simp) o e
 item:=by
  intro X B hw C O i g s M H E I u st A;subst B hw C;obtain⟨gs,p,e,rfl,t⟩:=A;obtain⟨z,hd,f,rel,da⟩:=(show aZ X.prog X.w H s.heap a (.dE ep gs) from I.hok a _ e);have q:gs.length=f.length:=rel.length;obtain⟨L,J,V,G,F,D⟩:=u it (by simp);have N:i<f.length:=by rw[<-q];exact (bE.mp t).1
  have S:f[i]?=aA (f[i].1,f[i].2):=by rw[fO N]
  have T:p.1=f[i].1:=by
   have:=congrArg (λl:List Key=>l[i]?) rel.keys;simp only[cE,t,fO N,oa,rz] at this;exact this
  rw[q] at st;refine wpAny_pyNext_dict_item st da S λy x r m R=>?_;have Y:Inv X g M H {s with heap:=x}:=I.turned (t':=s.toks) (λb o j e=>(R.2 b j).trans e) L J G F D;obtain⟨o,eo,c,d⟩:=id m;exact⟨y,rfl,ZX (s:={s with heap:=x}) eo c d (by decide) ⟨kV p.1,H,Y,by rw[T];exact Gq r,⟨rfl,λU Q=>by rw[e] at Q;cases Q;exact⟨p,t,rfl⟩⟩,by rw[q];exact m,λb j=>(u b j).1⟩⟩
 done:=by
  intro X B hw C O i g s M H E I u st A;subst B hw C;obtain⟨gs,e,rfl,t⟩:=A;obtain⟨z,hd,f,rel,da⟩:=(show aZ X.prog X.w H s.heap a (.dE ep gs) from I.hok a _ e);have q:gs.length=f.length:=rel.length;obtain⟨L,J,V,G,F,D⟩:=u it (by simp);rw[q] at st;exact wpAny_pyNext_dict_end (I.ok.hd O) st da (my (by lia)) λx eb=>⟨rfl,I.turned (t':=s.toks) (λb o j e=>eb b o j e) L J G F D⟩
 self:=λ_ _ _ _ _ st h=>wpAny_pyIter_keyiter st h
section
variable {X:Cx}{D:DP}{W:XW}{Γ:Cn}{k:Nat}{pins:List (aF×bF)}{s:Shared}{σ:St}{H:Hp}{φ α:List aF}{τ:Sl}{μ:Mem}{f g:De}{a b tg:aI}{pos:Pos}
theorem Yx:∀{kvs:List (Key×T)}{gs:List (Key×V)},bM D φ α H kvs gs->∀{i:Nat}{p:Key×V},gs[i]?=aA p->∃q:Key×T,kvs[i]?=aA q/\q.1=p.1
 |[],_,h,i,p,e=>by cases h;cases e
 |q::r,_,h,i,p,e=>by
  obtain⟨v,gr,rfl,d,l⟩:=h;cases i with
  |zero=>cases e;exact⟨q,rfl,rfl⟩
  |succ i=>exact Yx l e
theorem YL:bA D φ α H (UL z) (kV z):=by cases z<;>rfl
theorem Tb{ad:aF}(b:kvs.length=n):iF D (Ir ad ep n) (λφ α H=>∃gs,H ad=aA (.dE ep gs)/\bM D φ α H kvs gs) (kvs.map λp=>UL p.1):=
 ⟨λi φ α H ⟨gs,e,l⟩ a=>by
  have c:=qg l;have a:i<gs.length:=by rw[c];simpa using a
  exact⟨gs,gs[i],e,c.trans b,fO a⟩,λi φ α H v h t ⟨gs,e,l⟩ a y=>by
  obtain⟨rfl,y⟩:=y;obtain⟨p,f,rfl⟩:=y gs e;obtain⟨q,d,g⟩:=Yx l f;rw[cE,d] at a;cases a;exact⟨λ_ _ z=>z,g▸YL⟩,λφ α H ⟨gs,e,l⟩=>⟨gs,e,(qg l).trans b,by rw[qg l,bJ];exact bD _⟩⟩
theorem Hb(a:aL D φ α H μ)(b:α[i]?=aA x)(h:xj μ i kvs):∃gs,(H x=aA (.dK gs)\/∃ep,H x=aA (.dE ep gs))/\bM D φ α H kvs gs:=by
 rcases h with h|⟨ep,h⟩
 .obtain⟨gs,e,l⟩:=a.ob i x _ b h;exact⟨gs,.inl e,l⟩
 .obtain⟨gs,e,l⟩:=a.ob i x _ b h;exact⟨gs,.inr ⟨ep,e⟩,l⟩
theorem set_same{β:Type}:∀{l:List β}{i:Nat}{b:β},l[i]?=aA b->l.set i b=l
 |[],_,_,h=>by cases h
 |c::r,0,b,h=>by cases h;rfl
 |c::r,i+1,b,h=>congrArg (c::·) (set_same (l:=r) h)
theorem PZ(ha:PE X a (aU D W f)):PI X tg a (gM D W (iD f)):=by
 rintro y s F H R I ⟨φ,α,τ,μ,Q,T,p⟩;refine aW (sub ha I Q T p) ?_;rintro u q ⟨v,i,t,g,d,J,S,O,P,n,d1,p1⟩;cases t with
 | «mut» j=>
  obtain⟨ad,r,rfl⟩:=d1;cases S;have B:aJ D W φ d i F _ (λK _=>∃c,xj g j c/\∀ep,K (c.map λp=>UL p.1,sx j ep c) (g.set j (.frd ep c))):=p1;obtain⟨K0,Z0,⟨c,hd,B⟩,Y,k2⟩:=B;have A:j<g.length:=by rcases hd with h|⟨_,h⟩<;>exact (bE.mp h).1
  have C:∃ep gs,Inv X y F (upd i ad (.dE ep gs)) q/\aQ d i d (upd i ad (.dE ep gs))/\bM D φ d i c gs:=by
   rcases hd with h|⟨ep,h⟩
   .obtain⟨gs,e,l⟩:=n.ob j ad _ r h;obtain⟨ep,x⟩:=G2 J e;exact⟨ep,gs,x,aQ.turn (bK r) ⟨_,e⟩,l⟩
   .obtain⟨gs,e,l⟩:=n.ob j ad _ r h;have:upd i ad (.dE ep gs)=i:=by
     funext b;unfold upd;split
     .subst_vars;exact e.symm
     .rfl
    exact⟨ep,gs,by rw[this];exact J,aQ.turn (bK r) ⟨_,e⟩,l⟩
  obtain⟨ep,gs,x,k,l⟩:=C;have V:=bM.lk k.lk (φ:=φ) l;have U:aL D φ d (upd i ad (.dE ep gs)) (g.set j (.frd ep c)):=n.turn r A k ⟨gs,z3,V⟩;obtain⟨z,hs,G,rel,da⟩:=(show aZ X.prog X.w _ q.heap ad (.dE ep gs) from x.hok ad _ z3);have hl:c.length=G.length:=(qg l).symm.trans rel.length;refine wpAny_pyIter_dict hs da ?_;refine⟨q.heap.objs.size,[q.heap.objs.size],_,_,_,rfl,x.kept (t':=q.toks) λb o e=>bY _ e,Ug ad _ ep G.length,⟨_,eK _ rfl,rfl,rfl⟩,λb hb=>?_,?_⟩
  .have e:b=q.heap.objs.size:=by simpa using hb
   subst e;exact x.fpOk (bD _) (x.hok.fresh (bD _))
  .refine Y _ _ (B ep) d _ k U _ _ (Tb hl) (λL N H' M lk m Z=>?_) ?_
   .obtain⟨E,e',l'⟩:=m.ob j ad _ (lk.st j ad r) Z;exact⟨E,e',l'⟩
   .show (g.set j _)[j]?=_;rw[lY A]
 |_=>exact aJ.elim p1
theorem HG:B1 X D W (.builtin "len") JJ:=by
 intro a s k H j c m t v u Q I b d r p;unfold JJ at p;split at p
 .obtain⟨w,q,⟨f,hd,p⟩,g,o⟩:=p;obtain⟨ad,h,rfl⟩:=d;cases r;obtain⟨gs,e,l⟩:=Hb b h hd;refine L3 I (e.imp .inl id) λt n i=>⟨.int gs.length,H,i,⟨t,rfl⟩,?_⟩;rw[qg l];exact g _ _ p c H (aQ.refl _ _) b _ rfl
 .exact p.elim
theorem Pq(h:qD b=aB):AL b:=by
 intro o i;cases b<;>first|(simp[qD] at h;done)|rfl
theorem OR(C:Ck D W Γ X k)(hs:qD b=aB)(o:PE X a (aU D W f))(hb:PE X b (aU D W g)):PE X (.Subscript a b pos) (aU D W (hY W_ f g)):=by
 refine PE.mono (Rj (by have:=C.unt;lia) o hb (Pq hs)) ?_;rintro U H Q ⟨r,F,s,E,u,J,p⟩;refine⟨r,F,s,E,u,J,p.bind.mono λx e j H1 n K q v d=>?_⟩;refine⟨r,j,s,e,u.step n,K,q.bind.mono λy B h T m A c w dw=>?_⟩;unfold W_ at c;split at c
 .rename_i i z;obtain⟨Z,Y,⟨L,t,O,N,I⟩,M,V⟩:=c;obtain⟨ad,o,rfl⟩:=d.step m;obtain⟨gs,P,l⟩:=Hb A o O;obtain⟨G,S,R⟩:=yt l N;have dw:w=.str z:=dw;subst dw;exact⟨ad,G,rfl,⟨gs,.inr z,P.imp .inl id,rfl,S.symm⟩,M _ _ I h T (aQ.refl _ _) A _ R⟩
 .exact c.elim
end
noncomputable def sg(Γ:Cn)(e:aI):Bool:=match e with
 |.Name x _=>Γ.own.contains (("~":aH)++x)
 |.Attribute _ x _=>x==("seats":aH)
 |_=>aC
def HY:IR:=λr a e=>gd (sg a e) ((r.e a e).bind λf=>aA (iD f))
theorem OF:mI D HY:=by
 intro r H X W b k c e d C g h;obtain⟨_,h⟩:=z9 h;obtain⟨f,a,h⟩:=aR h;cases h;exact PZ (H.e C a)
def GA:ER:=λr b e=>(k_ e).bind λq=>(yO q.as).bind λa=>gd (sg b a) (lm "len" JJ aC r b e)
theorem TX:cR D GA:=by
 intro r H X W i k e d C h;obtain⟨q,j,h⟩:=aR h;obtain⟨a,b,h⟩:=aR h;obtain⟨_,h⟩:=z9 h;exact kg (nm:="len") (op:=JJ) (cl:=aC) (λC c g _ f b=>J5 C c g boot_len (by decide) f HG b) r H C h
def F7:ER:=λr a e=>(KP e).bind λq=>gd (sg a q.1&&qD q.2.1) ((r.e a q.1).bind λf=>(r.e a q.2.1).bind λg=>aA (hY W_ f g))
theorem P8:cR D F7:=by
 intro r H X W j k e d C h;obtain⟨q,i,h⟩:=aR h;rw[Yq i];obtain⟨a,h⟩:=z9 h;obtain⟨f,c,h⟩:=aR h;obtain⟨g,b,h⟩:=aR h;cases h;exact OR C (zy a).2 (H.e C c) (H.e C b)
noncomputable def GY:eM->Bool
 |.NotIn=>aB
 |_=>aC
theorem Tz(h:GY op=aB):op=.NotIn:=by cases op<;>first|rfl|cases h
def CA (r:dM)(Γ:Cn)(e:aI):Option De:=(r4 e).bind λq=>gd (GY q.op&&sg Γ q.b) (gd (jL .NotIn q.b) ((r.e Γ q.a).bind λf=>(r.e Γ q.b).bind λg=>aA (hY Va f g)))
theorem Hu{W:XW}(H:bV D r)(C:Ck D W Γ X k)(h:CA r Γ e=aA d):PE X e (aU D W d)/\PT X e (eJ D W (tE d)):=by
 obtain⟨q,j,h⟩:=aR h;obtain⟨i,h⟩:=z9 h;obtain⟨c,h⟩:=z9 h;obtain⟨f,b,h⟩:=aR h;obtain⟨g,a,h⟩:=aR h;cases h;rw[Y4 j,Tz (zy i).1];exact⟨Mi (Y7 C.unt) c (H.e C b) (H.e C a),SG (Y7 C.unt) c (H.e C b) (H.e C a)⟩
def F5:ER:=CA
theorem P9:cR D F5:=λr H _ _ _ _ _ _ C h=>(Hu H C h).1
def GD:TR:=λr a e=>(CA r a e).bind λf=>aA (tE f)
theorem TH:sF D GD:=by
 intro r H X W b k e d C h;obtain⟨f,a,h⟩:=aR h;cases h;exact (Hu H C a).2
noncomputable def Mw:aI->Bool
 |.Attribute _ x _=>x==("common":aH)
 |_=>aC
noncomputable def Bd(m:aH):aH:=⟨#[64]⟩++m
def Gy:ER:=λr a e=>(xo e).bind λq=>gd (Mw q.o) (Bj r a (Bd q.m) q)
theorem SS:cR D Gy:=by
 intro r H X W b k e d C h;obtain⟨q,a,h⟩:=aR h;obtain⟨_,h⟩:=z9 h;rw[wF a];exact Yu H C h
end NH
namespace NH.P
open PySem L2 NH
@[reducible] def uT:List Ds:=[(zM (eV 0) 21 (eV 1)),(zM (eV 0) 11 (eC .non)),(zM (eV 0) 22 (eC .non))]
def jf:Fn:=bI 2 0 uT
@[reducible] def Zq:List Ds:=[(zM (eV 0) 22 (eV 1))]
def kn:Fn:=bI 2 0 Zq
@[reducible] def jZ:List Ds:=[(bL (tE (zw .Eq (wD [(eV 1),(eV 2)]) (zv 45 jh (eV 0) []))) [B5] []),(zM (eV 0) 20 (eC (.bl aB))),(zB (BY [(1,(zv 46 kn (eV 1) [(eV 0)]))] 16 (eV 0) (wD [(eV 1),(eV 2)]))),(zM (eV 0) 20 (eC (.bl aC))),(zM (eV 0) 6 (eV 1)),(zM (eV 0) 17 (eV 2))]
def qk:Fn:=bI 3 0 jZ
@[reducible] def wz:List Ds:=[(zB (zv 45 zR (eV 0) [])),(zB (z4 qU [(za (eV 0) 9),(eV 1)])),(zB (zv 45 qk (eV 0) [(eV 1),(za (eV 0) 17)]))]
def qj:Fn:=bI 2 0 wz
@[reducible] def vi:List Ds:=[(zB (zv 45 zR (eV 0) [])),(zp 3 (zv 45 qf (eV 0) [(eV 1),(eV 2)])),(zB (zv 45 qk (eV 0) [(za (eV 0) 6),(zv 45 qA (eV 0) [(zd .FloorDiv (zd .Sub (za (eV 3) 13) (eC (.int 1))) (za (za (eV 0) 9) 2))])])),(zM (eV 0) 18 (z4 y6 [(za (eV 0) 9),(za (eV 3) 11),(zd .Sub (za (eV 3) 13) (eC (.int 1)))])),(zh (eV 3))]
def zI:Fn:=bI 3 1 vi
@[reducible] def xl:List Ds:=[(zp 3 (zv 45 zI (eV 0) [(eV 1),(eV 2)])),(zM (eV 0) 19 (kO [])),(zh (z4 qc [(za (eV 0) 9),(eV 3)]))]
def wB:Fn:=bI 3 1 xl
@[reducible] def K1:List Ds:=[(zh (QB (yP [4] (eV 0)) (QB (z4 wx [(eV 0)]) (z4 zP [(aX (eV 0) (eC (.int 1)))]))))]
def vt:Fn:=bI 1 0 K1
@[reducible] def ym:List Ds:=[(bL (fD (qh (tE (yP [6] (eV 0)))) (tE (zw .Eq (dX JJ (eV 0)) (eC (.int 0))))) [(zh (eC (.bl aC)))] []),(zh (dX Xy (w9 1 [0] (.one 0) (iD (eV 0)) [] (QB (z4 we [(eV 0)]) (yP [41] (hY W_ (eV 1) (eV 0)))))))]
def ji:Fn:=bI 1 0 ym
@[reducible] def wN:List Ds:=[(bL (qh (tE (z4 vt [(eV 1)]))) [(zH 25 [(eC (.str "no row of a world"))])] []),(bL (jU (tE (zw .IsNot (za (eV 0) 25) (eC .non))) (tE (zw .Lt (aX (eV 1) (eC (.int 1))) (za (eV 0) 25)))) [HW] []),(bL (fD (qh (tE (z4 we [(aX (eV 1) (eC (.int 2)))]))) (tE (hY Va (aX (eV 1) (eC (.int 2))) (za (eV 0) 26)))) [(zH 17 [(eC (.str "no holder of the world"))])] [])]
def qt:Fn:=bI 2 0 wN
@[reducible] def Qk:List Ds:=[(bL (tE (zw .Gt (aX (eV 0) (eC (.int 0))) (eC (.int 0)))) [(zp 2 (zd .Mod (aX (eV 0) (eC (.int 0))) (eV 1))),(xu (eV 0) (eC (.int 0)) (zd .FloorDiv (aX (eV 0) (eC (.int 0))) (eV 1))),(zh (eV 2))] []),(xu (eV 0) (eC (.int 2)) (zd .Add (aX (eV 0) (eC (.int 2))) (eC (.int 1)))),(zh (zd .Mod (z4 Ze [(aX (eV 0) (eC (.int 1))),(aX (eV 0) (eC (.int 2)))]) (eV 1)))]
def zi:Fn:=bI 2 1 Qk
end NH.P
namespace NH
open PySem PySem.Spec PyProof.Rows L2
theorem VB:pO (.type "list") "keys"=pure aE:=by rw[typeLookup_type,builtinLookup_eq_fast];kernel_rfl
theorem YT 
  (l:s.heap.get? a=aA o) (m:o.cls=.type "list") (f:o.data=.seq xs k) (hd:o.dict=aE) (r:A.handled=aE)
  (h:∀h' tk,(∀b u,s.heap.get? b=aA u->h'.get? b=aA u)->Q aE {s with heap:=h',toks:=tk}) :
  wpAny (aS prog w) A (getAttr? (.ref a) "keys") Q E s:=by
 obtain⟨c,t,v,p⟩:=o;simp only at m f hd;subst m f hd;obtain⟨q,g,d,tk,os⟩:=s;have n:∀i,(⟨q,g,d,i,os⟩:bB).TypeIs (.ref a) "list":=λ_=>⟨_,l,rfl⟩;have G:=sub_AttributeError;have D:=Aa.lookup;have C:=Aa.bind (.ref a);have B:=am_list_getattr_none;unfold getAttr? getAttrBy? getAttrBy;repeat (any_goals (first|assumption|exact n _|((with_reducible show wpAny _ _ (call (Value.builtin "list.__getattribute__") _ _) _ _ _);refine pM Aa (n _) am_entry_list_getattribute (PySem.F.args_list_getattribute_2 _ _) (meets_getattribute_miss_list a xs k p "keys" _ VB (by decide) (by decide)) ⟨l,r,λh' i e j=>?_⟩)|wp_step))
 obtain⟨y,x,z⟩:=j.there;show wpAny _ _ (Ei _ _ _ _ _ _ _) _ _ _;unfold Ei;repeat (any_goals (first|assumption|wp_step))
 exact h _ _ λb u e=>j.of.keeps b u e
theorem ko:entryFor table "dict.update.loop"=aA mQ.«dict.update.loop»:=entryFor_of_tree (by kernel_rfl)
theorem w5:plainId "dict.update.loop"=aB:=by decide +kernel
def Cf(h:aV)(v a u:aD):Prop:=∃t o n,v=.ref t/\h.get? t=aA o/\o.cls=.type "tuple"/\o.data=.seq #[a,u] n
abbrev lp{K:Type}(x:K×aD×aD):K×aD:=(x.1,x.2.2)
section
variable {prog:Program}{w:World}{K:Type}[DecidableEq K]{knd:PySem.KeyKind prog w K}{A:Around}{E:aD->Shared->Prop}{s:Shared}
theorem KZ(hh:A.in1.handled=aE){R:mL->bB->Prop}{d I l:aF}{items:Array aD}{ys:List (K×aD×aD)}(B:d≠I)(sB:d≠l)(M:l≠I)(hn:(ys.map (·.1)).Nodup)(hsz:ys.length<=sizeLine)(L:items.size=ys.length)(h0:aV)
  (hpr:∀(i:Nat) (y:K×aD×aD),ys[i]?=aA y->∃v,items[i]?=aA v/\Cf h0 v y.2.1 y.2.2/\v≠.ref d/\v≠.ref I) (hky:∀y∈ys,knd.is y.1 y.2.1=aB) :
  ∀(k i:Nat) (s:bB) (t:Tok),ys.length-i=k->i<=ys.length->s.heap.IsListIter I l i->s.heap.IsList l items->s.heap.DictOf knd d ((ys.take i).map lp)->(∀b u,b≠d->b≠I->h0.get? b=aA u->s.heap.get? b=aA u)->
   (∀h' tk,h'.DictOf knd d (ys.map lp)->(∀b u,b≠d->b≠I->s.heap.get? b=aA u->h'.get? b=aA u)->R (.ok (.ret .none)) {s with heap:=h',toks:=tk})->
   gz (aS prog w) A (.builtin "dict.update.loop" ⟨[.ref d,.ref I,.int i t,.none],[]⟩) R s:=by
 intro k;induction k with
 |zero=>
  intro i s t hk hi x r hd E hR;have hin:i=ys.length:=by lia
  subst hin;refine DN ko ?_;rw[EQ w5 _];show wpAny _ A.in1 (mO (.ref I) >>= _) _ _ s;refine wpAny_bind ((sP hh I l M items).toS.done s _ _ ⟨by rw[L];exact x,r⟩ λW c=>?_);obtain⟨h',g',d',h,p⟩:=W;have eg:g'=s.gens:=c.gens;have ed:d'=s.drawn:=c.drawn;have eo:p=s.os:=c.os;subst eg ed eo;rw[D8] at hd;obtain⟨o,es,ep,ho,hc,hdd,he,hnn⟩:=hd;have O:∀b u,b≠d->b≠I->s.heap.get? b=aA u->h'.get? b=aA u:=λb u _ f e=>c.heap b u (by simp[f]) e;refine wpAny_bind (wpAny_pure ?_);refine wpAny_pure (hR h' h ⟨o,es,ep,c.heap d o (by simp[B]) ho,hc,hdd,he,hnn⟩ O)
 |succ k ih=>
  intro i s t hk hi x r hd E hR;have H:i<ys.length:=by lia
  obtain⟨⟨q,b,u⟩,P⟩:∃y,ys[i]?=aA y:=⟨ys[i],fO H⟩;obtain⟨v0,Z,hpa,nd,nI⟩:=hpr i _ P;refine DN ko ?_;rw[EQ w5 _];show wpAny _ A.in1 (mO (.ref I) >>= _) _ _ s;refine wpAny_bind ((sP hh I l M items).toS.item i s _ _ (by lia) ⟨x,r⟩ λv W Q j c=>?_);have Q:items[i]?=aA v:=Q;rw[Z] at Q;cases Q;obtain⟨h',g',d',h,p⟩:=W;have eg:g'=s.gens:=c.gens;have ed:d'=s.drawn:=c.drawn;have eo:p=s.os:=c.os;subst eg ed eo;have O:∀b u,b≠d->b≠I->s.heap.get? b=aA u->h'.get? b=aA u:=λb u _ f e=>c.heap b u (by simp[f]) e;have D:∀b u,b≠d->b≠I->h0.get? b=aA u->h'.get? b=aA u:=λb u g f e=>O b u g f (E b u g f e);obtain⟨S,o,n,rfl,ho,hc,hdt⟩:=hpa;have F:=D S o (λz=>nd (by rw[z])) (λz=>nI (by rw[z])) ho;have hT:tP ⟨h',s.gens,s.drawn,h,s.os⟩ (.ref S) "tuple":=⟨o,F,hc⟩;have hD:h'.DictOf knd d ((ys.take i).map lp):=by
   obtain⟨od,es,ep,g1,g2⟩:=hd;exact⟨od,es,ep,c.heap d od (by simp[B]) g1,g2⟩
  have G:q∉(ys.take i).map (·.1):=by
   have z:(ys.take i++[(q,b,u)]).map (·.1) |>.Nodup:=by
    rw[show ys.take i++[(q,b,u)]=ys.take (i+1) by rw[fM,P];rfl];exact hn.sublist ((mZ _ _).map _)
   rw[dO,lg] at z;exact λm=>z.2.2 q m q (by simp) rfl
  have U:stored ((ys.take i).map lp) q u=(ys.take (i+1)).map lp:=by
   unfold stored;have:((ys.take i).map lp).any (λkv=>decide (kv.1=q))=aC:=by
    rw[tX];intro kv hkv;obtain⟨z,hz,rfl⟩:=b7.mp hkv;simp only[decide_eq_true_eq];exact λe=>G (b7.mpr ⟨z,hz,e⟩)
   rw[this,if_neg (by decide),fM,P,dO];rfl
  show wpAny _ A.in1 (mS [cN S] _ >>= _) _ _ _;refine wpAny_bind (wpAny_holding ?_);refine wpAny_bind (wpAny_tryCatch ?_);unfold IS;refine wpAny_bind (sY hT ?_);rw[if_pos (by decide)];refine wpAny_bind (wpAny_seqItems F hdt (wpAny_pure ?_));show wpAny _ A.in1 (mS [b,u] (dictSet d b u)) _ _ _;refine wpAny_holding (wpAny_dictSet_pairs (hsz:=by rw[bJ,hO];lia) (hky _ (bK P)) hD λf N V=>?_);rw[U] at N;have C:∀b u,b≠d->b≠I->h'.get? b=aA u->f.get? b=aA u:=λb u g _ e=>(V.2 b g).trans e;have hI2:f.IsListIter I l (i+1):=by
   obtain⟨X,e1,e2⟩:=j.1;exact⟨X,(V.2 I (bW B)).trans e1,e2⟩
  have hL2:f.IsList l items:=by
   obtain⟨X,e1,e2⟩:=j.2;exact⟨X,(V.2 l (bW sB)).trans e1,e2⟩
  refine wpAny_pure ⟨plainId_quiet w5 _,?_⟩;have J:=ih (i+1) ⟨f,s.gens,s.drawn,h+1,s.os⟩ 0 (by lia) H hI2 hL2 N (λb u g a e=>C b u g a (D b u g a e)) λh3 T hD3 Y=>hR h3 T hD3 λb u g a e=>Y b u g a (C b u g a (O b u g a e));exact J
theorem JT {l:aF}{items:Array aD}{n:Nat}{ys:List (K×aD×aD)}{Q:aD->bB->Prop}(S:A.handled=aE) (L:s.heap.get? l=aA {cls:=.type "list",data:=.seq items n})
  (R:(ys.map (·.1)).Nodup) (hsz:ys.length<=sizeLine) (p:items.size=ys.length)
  (C:∀(i:Nat) (y:K×aD×aD),ys[i]?=aA y->∃v,items[i]?=aA v/\Cf s.heap v y.2.1 y.2.2)
  (G:∀y∈ys,knd.is y.1 y.2.1=aB)
  (h:∀h' tk,h'.DictOf knd s.heap.objs.size (ys.map lp)->(∀b u,s.heap.get? b=aA u->h'.get? b=aA u)->Q (.ref s.heap.objs.size) {s with heap:=h',toks:=tk}) :
  wpAny (aS prog w) A (call (.type "dict") [.ref l]) Q E s:=by
 refine callType_codes (Q₁:=λobj d=>obj=.ref s.heap.objs.size/\d={s with heap:=s.heap.push {cls:=.type "dict",data:=.dict #[]}}) PySem.F.kt_called_dict (PySem.F.kt_typeCall_dict_1 _) PySem.F.entry_dict_init (kt_code_dict_new _ ⟨rfl,rfl⟩) ?_;rintro obj d ⟨rfl,rfl⟩;have J:=bX L;have a:(s.heap.push {cls:=.type "dict",data:=.dict #[]}).DictOf knd s.heap.objs.size []:=D5 s.heap;have j:=bY (h:=s.heap) {cls:=.type "dict",data:=.dict #[]} L;have H:tP {s with heap:=s.heap.push {cls:=.type "dict",data:=.dict #[]}} (.ref l) "list":=⟨_,j,rfl⟩;refine⟨a.typeIs,PySem.F.args_dict_init_2 _ _,?_⟩;unfold mQ.«dict.__init__»;refine wpAny_bind ?_;unfold IT;refine wpAny_bind (wpAny_notOrdered_dict a.typeIs ?_);show wpAny _ _ (pure (s.heap.objs.size,[cN l])) _ _ _;refine wpAny_pure ?_;show wpAny _ _ (E9 "dict.__init__" s.heap.objs.size (.ref l) [] .none) _ _ _;unfold E9;refine wpAny_bind (sY H ?_);rw[if_pos (by decide)];have M:A.in1.in1.handled=aE:=by simp[S]
 refine wpAny_bind (YT (A:=A.in1.in1) j rfl rfl rfl M λr N x=>?_);have D:=x _ _ j;have q:r.IsList l items:=⟨_,D,rfl,n,rfl⟩;have g:s.heap.objs.size<r.objs.size:=by
  obtain⟨o,_,_,e,_⟩:=id a;exact bX (x _ _ e)
 simp only[Option.isNone_none,if_true];refine wpAny_bind (sN ?_);refine wpAny_bind (rA q ?_);refine wpAny_pure ⟨plainId_quiet w5 _,?_⟩;have f:∀b u,s.heap.get? b=aA u->(r.push {cls:=.type "list_iterator",data:=.fields #[.ref l,.int 0 0]}).get? b=aA u:=λb u e=>bY _ (x _ _ (bY _ e));have c:∀b u,s.heap.get? b=aA u->b≠s.heap.objs.size/\b≠r.objs.size:=λb u e=>by
  have:=bX e;constructor
  .exact cX this
  .exact cX (tf this g)
 have T:(r.push {cls:=.type "list_iterator",data:=.fields #[.ref l,.int 0 0]}).DictOf knd s.heap.objs.size ((ys.take 0).map lp):=by
  obtain⟨o,es,ep,X,W⟩:=id a;exact⟨o,es,ep,bY _ (x _ _ X),W⟩
 refine KZ (A:=A.in1) (l:=l) (items:=items) (ys:=ys) M (cX g) (hS J) (cX (tf J g)) R hsz p s.heap (λi y P=>?_) G ys.length 0 _ 0 (by lia) (hL _) ⟨_,eK _ rfl,rfl,rfl⟩ (q.push _) T (λb u _ _ e=>f b u e) λU B I O=>⟨rfl,h U B I λb u e=>O b u (c b u e).1 (c b u e).2 (f b u e)⟩;obtain⟨v,V,k⟩:=C i y P;refine⟨v,V,k,λz=>?_,λz=>?_⟩
 .obtain⟨t,o,m,rfl,e,_⟩:=k;cases z;exact (c _ _ e).1 rfl
 .obtain⟨t,o,m,rfl,e,_⟩:=k;cases z;exact (c _ _ e).2 rfl
end
abbrev UH(p:Key×T):T:=.tup [UL p.1,p.2]
abbrev rP(f:De):Di:=λc d=>(f c d).it λt b=>match t with
 |.mut i=>λK _=>∃a,xj b i a/\∀ep,K (a.map UH) (sx i ep a) (b.set i (.frd ep a))
 |_=>RI.st
abbrev iu(t:T)(μ:Mem):RE T:=λK _=>∃a:List (Key×T),t=.lst (a.map UH)/\(a.map (·.1)).Nodup/\a.length<=1000/\K (.mut μ.length) (μ++[.dic a])
def Iq (a:aF)(ep n:Nat):It:=⟨λi H=>∃gs p,H a=aA (.dE ep gs)/\gs.length=n/\gs[i]?=aA p,λi H v b=>∃p k x,H p=aE/\b=upd H p (.tup [kV k,x])/\v=.ref p/\∀gs,H a=aA (.dE ep gs)->gs[i]?=aA (k,x),λi H=>∃gs,H a=aA (.dE ep gs)/\gs.length=n/\gs.length<=i⟩
theorem HB:∀{gs:List (Key×V)}{vs:List (Key×aD)},KV gs vs->∀{i:Nat}{p:Key×V},gs[i]?=aA p->∃q:Key×aD,vs[i]?=aA q/\p.1=q.1/\RelV p.2 q.2
 |_,_,.nil,i,p,e=>by cases e
 |_,_,.cons h t,0,p,e=>by cases e;exact⟨_,rfl,h.1,h.2⟩
 |_,_,.cons h t,i+1,p,e=>HB t e
theorem Xw{P:cI}{K:bO}(a it:aF)(ep n:Nat):fH P w K (.Tuple U x1 tp) (Iq a ep n) [it] it (λi h=>∃ok r,IsItemIter h it a i n ep ok r) where
 mem:=by simp
 obj:=λi h st b l=>by
  have e:b=it:=by simpa using l
  subst e;obtain⟨ok,r,e⟩:=st;exact⟨_,e,λv z=>by cases (show pI _=pF v from z)⟩
 keep:=λi h O st k=>let ⟨ok,r,e⟩:=st;⟨ok,r,k it (by simp) _ e⟩
 item:=by
  intro X M hw N m i d s D H E I L st J;subst M hw N;obtain⟨gs,p,e,rfl,G⟩:=J;obtain⟨ok,r,st⟩:=st;obtain⟨z,hd,F,rel,da⟩:=(show aZ X.prog X.w H s.heap a (.dE ep gs) from I.hok a _ e);obtain⟨⟨k,u⟩,Y,hk,S⟩:=HB rel G;have ff:=xV (L it (by simp));have lt:it<s.heap.objs.size:=bX st;rw[show gs.length=F.length from rel.length] at st;refine wpAny_pyNext_items_item st da Y λg O B A y V T=>?_;refine⟨_,rfl,wpAny_letOwnedTupleGo_items A λt C f=>?_⟩;have f:fR it O t:=f;have x:∀c o,c∉[it]->s.heap.get? c=aA o->t.get? c=aA o:=λc o n q=>(f.2 c (λw=>n (by simp[w]))).trans (T c o (λw=>n (by simp[w])) q);have I1:Inv X d D H {s with heap:=t}:=yF (ch:=[it]) I (λc m=>by rw[bU.mp m];exact ff) (λc o _ l q=>x c o l q) λc o _ l q=>⟨o.slots,x c o l q⟩;have j:t.get? s.heap.objs.size=aA {cls:=.type "tuple",data:=.seq #[g,u]}:=(f.2 _ (hS lt)).trans y;have Q:H s.heap.objs.size=aE:=I.hok.fresh (bD _);have fn:=xV (I.fpOk (bD _) Q);have I3:Inv X d D (upd H s.heap.objs.size (.tup [kV p.1,p.2])) {s with heap:=t}:=vz I1 fn.1 fn.2 (show aZ X.prog X.w _ t _ (.tup [kV p.1,p.2]) from ⟨by rw[eG];simp,[g,u],.cons (by rw[hk];exact Gq B) (.cons S .nil),⟨_,j,rfl,_,rfl⟩⟩);exact⟨.ref s.heap.objs.size,_,I3,rfl,⟨s.heap.objs.size,p.1,p.2,Q,rfl,rfl,λgs' R=>by rw[e] at R;cases R;exact G⟩,⟨g,u,by rw[rel.length];exact C⟩,λc m=>by rw[bU.mp m,z7 (cX lt)];exact ff.1.free⟩
 done:=by
  intro X M hw N m i d s D H E I L st J;subst M hw N;obtain⟨gs,e,rfl,G⟩:=J;obtain⟨ok,r,st⟩:=st;obtain⟨z,hd,F,rel,da⟩:=(show aZ X.prog X.w H s.heap a (.dE ep gs) from I.hok a _ e);have Z:gs.length=F.length:=rel.length;obtain⟨f0,f1,f2,f3,f4,f5⟩:=L it (by simp);rw[Z] at st;exact wpAny_pyNext_items_end (I.ok.hd m) st da (my (by lia)) λO eb=>⟨rfl,I.turned (t':=s.toks) (λb o l e=>eb b o l e) f0 f1 f3 f4 f5⟩
 self:=λ_ _ _ _ _ st h=>let ⟨_,_,e⟩:=st;PySem.W.kcp_self e h
section
variable {X:Cx}{D:DP}{W:XW}{k:Nat}{pins:List (aF×bF)}{s:Shared}{σ:St}{H:Hp}{φ α:List aF}{τ:Sl}{μ:Mem}{f:De}{a b:aI}
theorem Jw:∀{kvs:List (Key×T)}{gs:List (Key×V)},bM D φ α H kvs gs->∀{i:Nat}{q:Key×T}{p:Key×V},kvs[i]?=aA q->gs[i]?=aA p->q.1=p.1/\bA D φ α H q.2 p.2
 |[],_,h,i,q,p,a,e=>by cases a
 |q::r,_,h,i,b,p,a,e=>by
  obtain⟨v,gr,rfl,d,l⟩:=h;cases i with
  |zero=>cases e;cases a;exact⟨rfl,d⟩
  |succ i=>exact Jw l a e
theorem Ur{ad:aF}(g:kvs.length=n):iF D (Iq ad ep n) (λφ α H=>(∃gs,H ad=aA (.dE ep gs)/\bM D φ α H kvs gs)/\∀p,H p=aE->p∉φ/\p∉α) (kvs.map UH):=
 ⟨λi φ α H ⟨⟨gs,e,l⟩,_⟩ a=>by
  have h:=qg l;have a:i<gs.length:=by rw[h];simpa using a
  exact⟨gs,gs[i],e,h.trans g,fO a⟩,λi φ α H v j t ⟨⟨gs,e,l⟩,fr⟩ a y=>by
  obtain⟨p,k,x,c,rfl,rfl,y⟩:=y;rw[cE] at a;cases b:kvs[i]? with
  |none=>rw[b] at a;cases a
  |some q=>
   rw[b] at a;cases a;obtain⟨d,dv⟩:=Jw l b (y gs e);have f:kL H (upd H p (.tup [kV k,x])):=zm c;have d:q.1=k:=d;exact⟨f,p,_,rfl,(fr p c).1,(fr p c).2,.inl z3,kV k,[x],rfl,by rw[d];exact YL,x,[],rfl,dv.step (aQ.new f),rfl⟩,λφ α H ⟨⟨gs,e,l⟩,_⟩=>⟨gs,e,(qg l).trans g,by rw[qg l,bJ];exact bD _⟩⟩
theorem SW{ad:aF}(I:Inv X pins σ H s)(c:aL D φ α H μ)(hj:α[j]?=aA ad)(hd:xj μ j kvs) :
  ∃ep gs,Inv X pins σ (upd H ad (.dE ep gs)) s/\aQ α H α (upd H ad (.dE ep gs))/\aL D φ α (upd H ad (.dE ep gs)) (μ.set j (.frd ep kvs))/\gs.length=kvs.length:=by
 have f:j<μ.length:=by rcases hd with h|⟨_,h⟩<;>exact (bE.mp h).1
 have d:∃ep gs,Inv X pins σ (upd H ad (.dE ep gs)) s/\aQ α H α (upd H ad (.dE ep gs))/\bM D φ α H kvs gs:=by
  rcases hd with h|⟨ep,h⟩
  .obtain⟨gs,e,l⟩:=c.ob j ad _ hj h;obtain⟨ep,g⟩:=G2 I e;exact⟨ep,gs,g,aQ.turn (bK hj) ⟨_,e⟩,l⟩
  .obtain⟨gs,e,l⟩:=c.ob j ad _ hj h;have:upd H ad (.dE ep gs)=H:=by
    funext b;unfold upd;split
    .subst_vars;exact e.symm
    .rfl
   exact⟨ep,gs,by rw[this];exact I,aQ.turn (bK hj) ⟨_,e⟩,l⟩
 obtain⟨ep,gs,g,a,l⟩:=d;exact⟨ep,gs,g,a,c.turn hj f a ⟨gs,z3,bM.lk a.lk (φ:=φ) l⟩,qg l⟩
theorem SX(n:zZ o=aB)(i:(pa.endLine==pc.line)=aB)(ho:PE X o (aU D W f)) :
  PI X (.Tuple M x1 tp) (.Call (.Attribute o "items" pa) [] [] pc) (gM D W (rP f)):=by
 rintro G s P H R I ⟨O,α,τ,μ,V,mr,p⟩;refine wpAny_Call_method0_late (qy n) i (aW (sub ho I V mr p) ?_);rintro u g ⟨v,H1,t,c,k,I1,Y,T,U,y,d1,p1⟩;cases t with
 | «mut» j=>
  obtain⟨ad,J,rfl⟩:=d1;cases Y;have x:aJ D W O k H1 P _ (λK _=>∃a,xj c j a/\∀ep,K (a.map UH,sx j ep a) (c.set j (.frd ep a))):=p1;obtain⟨K0,Z0,⟨a,hd,x⟩,k1,k2⟩:=x;have B:j<c.length:=by rcases hd with h|⟨_,h⟩<;>exact (bE.mp h).1
  obtain⟨ep,gs,q,r,m2,A⟩:=SW I1 y J hd;obtain⟨z,hs,l,rel,da⟩:=(show aZ X.prog X.w _ g.heap ad (.dE ep gs) from q.hok ad _ z3);have hl:a.length=l.length:=A.symm.trans rel.length;have L:g.TypeIs (.ref ad) "dict":=da.dictOf.typeIs;refine⟨"dict","dict.items",rG,E8,PySem.F.type_dict_items,L,λb e=>?_,?_⟩
  .cases e;obtain⟨Z,_,h1,h2,_⟩:=da;exact⟨Z,h1,h2.2.1⟩
  refine ng rfl (EO (nO E8 L PySem.F.entry_dict_items (PySem.F.args_dict_items_1 _) (meets_dict_items (zD X.prog X.w) ad hs) ⟨⟨l,da.dictOf⟩,?_⟩));have C:(g.heap.push {cls:=.type "dict_items",data:=.fields #[.ref ad]}).DictAt (zD X.prog X.w) ad l ep:=da.push _;refine wpAny_pyIter_items (v:=g.heap.objs.size) (d:=ad) ⟨_,eK _ rfl,rfl,rfl⟩ C ?_;refine⟨_,[_],_,_,_,rfl,q.kept (t':=g.toks) λb o e=>bY _ (bY _ e),Xw ad _ ep l.length,⟨_,_,eK _ rfl⟩,λb hb=>?_,?_⟩
  .rw[bU.mp hb];have:g.heap.objs.size<=(g.heap.push {cls:=.type "dict_items",data:=.fields #[.ref ad]}).objs.size:=by rw[hX];exact iK _
   exact q.fpOk this (q.hok.fresh this)
  .refine k1 _ _ (x ep) k _ r m2 _ _ (Ur hl) (λN S H' Q lk m hv=>⟨?_,λp n=>⟨zr m n,zt m n⟩⟩) ?_
   .obtain⟨E,e',l'⟩:=m.ob j ad _ (lk.st j ad J) hv;exact⟨E,e',l'⟩
   .show (c.set j _)[j]?=_;rw[lY B]
 |_=>exact aJ.elim p1
theorem U_{a b:V}(r:aY [a,b] us):∃g d,us=[g,d]/\RelV a g/\RelV b d:=by
 cases r with
 |cons h f=>cases f with
  |cons e c=>cases c;exact⟨_,_,rfl,h,e⟩
theorem Th(d:bA D φ α H (UL z) v):v=kV z:=by cases z<;>exact d
theorem WE{P:cI}{h:aV}(ok:dN P w H h):∀{ps:List (Key×T)}{b:List V}{us:List aD},aM D φ α H (ps.map UH) b->aY b us->
  ∃(ys:List (Key×aD×aD)) (gs:List (Key×V)),bM D φ α H ps gs/\KV gs (ys.map lp)/\ys.map (·.1)=ps.map (·.1)/\us.length=ys.length/\(∀(i:Nat) y,ys[i]?=aA y->∃v,us[i]?=aA v/\Cf h v y.2.1 y.2.2)/\∀y∈ys,(zD P w).is y.1 y.2.1=aB
 |[],b,us,l,r=>by
  have l:b=[]:=l;subst l;cases r;exact⟨[],[],rfl,.nil,rfl,rfl,by simp,by simp⟩
 |p::ps,_,_,l,r=>by
  obtain⟨v,b,rfl,d,l⟩:=l;cases r with
  |cons q n=>
   rename_i u us;obtain⟨ys,gs,G,F,E,C,B,A⟩:=WE ok l n;obtain⟨t,O,rfl,_,_,rt,x⟩:=d;obtain⟨Q,R,rfl,f,c,s,rfl,N,e⟩:=x;have e:s=[]:=e;subst e;have f:=Th f;subst f;cases q;obtain⟨_,z,k,o,K,J,m,I⟩:=(show aZ P w H h t (.tup [kV p.1,c]) from rt.ok ok);obtain⟨j,g,rfl,M,L⟩:=U_ k;refine⟨(p.1,j,g)::ys,(p.1,c)::gs,⟨c,gs,rfl,N,G⟩,.cons ⟨rfl,L⟩ F,by rw[c8,E];rfl,by simp[C],λi y a=>?_,λy a=>?_⟩
   .cases i with
    |zero=>cases a;exact⟨.ref t,rfl,t,o,m,rfl,K,J,I⟩
    |succ i=>exact B i y a
   .rcases cK.mp a with rfl|a
    .exact yl M
    .exact A y a
theorem ND(M:X.calm=aB):B1 X D W (.type "dict") iu:=by
 intro e s U H T Y V t v u Q I h d r p;obtain⟨K,Z,⟨c,rfl,x,g,N⟩,L,hz⟩:=p;obtain⟨ad,k,rfl,_,_,rd,l⟩:=d;cases r;obtain⟨z,E,m,q,J⟩:=(show aZ X.prog X.w H s.heap ad (.lst k) from rd.ok I.hok);obtain⟨ys,gs,e0,S,j,R,P,O⟩:=WE I.hok l q;have A:ys.length=c.length:=by rw[<-bJ (f:=(·.1)),j,bJ]
 have B:gs.length=c.length:=qg e0;have b:H s.heap.objs.size=aE:=I.hok.fresh (bD _);refine JT (knd:=zD X.prog X.w) (ys:=ys) (I.ok.hd M) J (by rw[j];exact x) (by rw[A];exact dG g (by decide)) (by rw[d7];exact R) (λi y F=>?_) O λh' n dd C=>?_
 .obtain⟨v,G,b⟩:=P i y F;exact⟨v,by simpa using G,b⟩
 .have sz:(s.heap.objs.size==gS)=aC:=beq_eq_false_iff_ne.mpr (bW (cX I.big));refine⟨.ref s.heap.objs.size,_,I.laid (a:=s.heap.objs.size) (o:=.dK gs) (t':=n) C (bD _) ⟨by rw[B];exact dG g (by decide),sz,_,S,dd⟩,rfl,?_⟩;exact L _ _ N _ _ (jB b) (h.layO b ⟨_,z3,bM.lk (jB b).lk e0⟩) _ ⟨_,by rw[<-h.len,fP (bD _)];simp,rfl⟩
end
theorem Mg (h:KS tg (.Call (.Attribute o "items" pa) as j p)=aB):∃d x1 g,tg=.Tuple d x1 g:=Yc (show Uj tg=aB from h)
def GW:IR:=λr a e=>(xo e).bind λq=>gd (q.m==("items":aH)) (gd (zZ q.o&&q.as.isEmpty) (gd (q.pa.endLine==q.pc.line) ((r.e a q.o).bind λf=>aA (rP f))))
theorem TY:mI D GW:=by
 intro r H X W m k p e d C a h;obtain⟨q,j,h⟩:=aR h;obtain⟨i,h⟩:=z9 h;obtain⟨b,h⟩:=z9 h;obtain⟨g,h⟩:=z9 h;obtain⟨f,l,h⟩:=aR h;cases h;have e0:=wF j;rw[qr i,mn.mp (zy b).2] at e0;rw[e0] at a ⊢;obtain⟨c,n,o,rfl⟩:=Mg a;exact SX (zy b).1 g (H.e C l)
def GF:ER:=lm "dict" iu aB
theorem Sv:cR D GF:=kg λC a c d b e=>Cm C a c (by decide +kernel) (by decide) b (ND (C.clm (d rfl))) e
theorem swT{α:Type}{a b:α}{Q:α->Prop}(h:∀P∈[a,b],Q P):∀P∈[b,a],Q P:=λP c=>h P (by rcases cK.mp c with e|e;exact cW _ (bU.mpr e);rw[bU.mp e];exact dJ)
end NH
namespace NH.P
open PySem L2 NH
@[reducible] def jY:List Ds:=[(zh (dX Jz (za (eV 0) 24)))]
def w_:Fn:=bI 1 0 jY
@[reducible] def jS:List Ds:=[(zp 2 (kO [])),(zp 3 (zd .Sub (zd .Add (eV 1) (z4 zi [(eV 0),(eC (.int 30))])) (eC (.int 5)))),(vr (.one 4) (AY (z4 zi [(eV 0),(eC (.int 4))])) [(zp 5 (zd .Add (eV 3) (aX (yp [(eC (.int 0)),(z4 zi [(eV 0),(eC (.int 40))]),(zd .Sub (eC (.int 0)) (z4 zi [(eV 0),(eC (.int 40))]))]) (z4 zi [(eV 0),(eC (.int 3))])))),(zB (W3 (eV 2) (wD [(eV 3),(eV 5),(zw .Gt (z4 zi [(eV 0),(eC (.int 3))]) (eC (.int 0)))]))),(zp 3 (zd .Add (zd .Add (eV 3) (eC (.int 1))) (z4 zi [(eV 0),(eC (.int 20))])))]),(zh (wD [(aX (yp [(eC (.int 0)),(zd .Sub (z4 zi [(eV 0),(eC (.int 9))]) (eC (.int 4)))]) (z4 zi [(eV 0),(eC (.int 2))])),(eV 2)]))]
def wg:Fn:=bI 2 4 jS
@[reducible] def uC:List Ds:=[(A7 [2,3] (eV 0)),(zp 4 (zd .Add (eV 2) (eV 1))),(vr (.tup [5,6,7]) (iE (eV 3)) [(bL (tE (zw .LtE (eV 5) (eV 1))) [(zp 4 (zd .Add (eV 6) (zd .Mult (zd .Sub (eV 1) (eV 5)) (dX oI (eV 7)))))] [])]),(zh (eV 4))]
def j2:Fn:=bI 2 6 uC
end NH.P
namespace NH
open PySem PySem.Spec PyProof.Rows L2
def WU(z:aH)(kvs:List (Key×T)):List (Key×T):=kvs.filter λa=>decide (a.1≠.inr z)
abbrev gpT(b:Bool)(i:Nat)(kt t:T)(μ:Mem)(K:T->Mem->Prop):Prop:=match kt with
 |.str z=>∃a,μ[i]?=aA (.dic a)/\(∀v,ze (.inr z) a=aA v->K v (if b then μ.set i (.dic (WU z a)) else μ))/\(ze (.inr z) a=aE->K t μ)
 |_=>False
abbrev mF(j:Bool)(o f g:De):De:=λb h=>(o b h).bind λk a=>match k with
 |.mut i=>λK Z=>(∃e,a[i]?=aA (.dic e))/\f b a (λl d=>g b d (λt c=>gpT j i l t c K) Z) Z
 |_=>.st
section
variable {X:Cx}{D:DP}{W:XW}{Γ:Cn}{k:Nat}{pins:List (aF×bF)}{s:Shared}{σ:St}{H:Hp}{φ α:List aF}{τ:Sl}{μ:Mem}{f g go:De}{a b o:aI}{pos pa pc:Pos}
theorem WW:∀{kvs:List (Key×T)}{gs:List (Key×V)},bM D φ α H kvs gs->ze z kvs=aE->vB gs z=aE
 |[],_,h,e=>by cases h;rfl
 |p::r,_,h,e=>by
  obtain⟨v,q,rfl,d,l⟩:=h;unfold ze at e;by_cases a:p.1=z
  .rw[if_pos a] at e;cases e
  .rw[if_neg a] at e;rw[kj (p:=(p.1,v)) a];exact WW l e
theorem WR:∀{kvs:List (Key×T)}{gs:List (Key×V)},bM D φ α H kvs gs->bM D φ α H (WU z kvs) (yK gs (.inr z))
 |[],_,h=>by cases h;rfl
 |p::r,_,h=>by
  obtain⟨v,q,rfl,d,l⟩:=h;have b:=WR (z:=z) l;unfold WU yK at b ⊢;rw[nV,nV];by_cases a:p.1=.inr z
  .rw[if_neg (by simpa using a),if_neg (by simpa using a)];exact b
  .rw[if_pos (by simpa using a),if_pos (by simpa using a)];exact⟨v,_,rfl,d,b⟩
theorem Ml(C:Ck D W Γ X k)(T:Bool)(hp:zZ o=aB)(hs:aO a=aB)(hs2:aO b=aB)(r:(pa.endLine==pc.line)=aB)(ho:PE X o (aU D W go))(ha:PE X a (aU D W f))(hb:PE X b (aU D W g)) :
  PE X (.Call (.Attribute o (if T then "pop" else "get") pa) [a,b] [] pc) (aU D W (mF T go f g)):=by
 have F:dW [a,b] X.env=[(aC,eval a X.env),(aC,eval b X.env)]:=by rw[z5 hs,z5 hs2];rfl
 have key:∀{G H Q},aU D W (mF T go f g) G H Q->aU D W go G H λx Y=>∃a',x=.ref a'/\sK Y a'/\aU D W f G Y λy H2=>aU D W g G H2 λz R=>∃e N,R a'=aA (.dK e)/\y=kV N/\
   (∀v,vB e N=aA v->Q v (if T then upd R a' (.dK (yK e N)) else R))/\(vB e N=aE->Q z R):=by
  rintro G H Q ⟨s,J,u,I,E,M,p⟩;refine⟨s,J,u,I,E,M,p.bind.mono λot w A Y n m1 q U dv=>?_⟩;cases ot with
  | «mut» i=>
   obtain⟨K,Z,⟨⟨kvs0,h0⟩,hf⟩,hk,hz⟩:=q;obtain⟨x,hx,rfl⟩:=dv;obtain⟨CS,hH0,l0⟩:=m1.ob _ x _ hx h0;refine⟨x,rfl,⟨_,.inl (.inl hH0)⟩,s,A,u,w,E.step n,m1,_,Z,hf,?_,hz⟩;intro kt μ2 hkt α2 H2 L m2 vk dk;refine⟨s,α2,u,μ2,(E.step n).step L,m2,_,Z,hkt,?_,λc fs μ' z α' H' C d st m ad xd=>hz c fs μ' z α' H' C d (L.trans st) m ad xd⟩;intro t μ3 ht j R st3 m3 v d;have dk:=dk.step st3;cases kt with
   |str z=>
    obtain⟨e,hμ,S,q2⟩:=ht;have dk:vk=.str z:=dk;subst dk;have h:=L.trans st3;obtain⟨β,e2,_⟩:=h.ext;have O:j[i]?=aA x:=by
     rw[e2,dP (bE.mp hx).1];exact hx
    obtain⟨gs,hH,l⟩:=m3.ob i x _ O hμ;refine⟨gs,.inr z,hH,rfl,λv' P=>?_,λhn=>?_⟩
    .cases V:ze (.inr z) e with
     |none=>rw[WW l V] at P;cases P
     |some t'=>
      obtain⟨v2,h1,h2⟩:=yt l V;rw[h1] at P;cases P;have S:=S t' V;cases T with
      |false=>exact hk _ _ S j _ h m3 _ h2
      |true=>
       have B:aQ j R j (upd R x (.dK (yK gs (.inr z)))):=aQ.turn (bK O) ⟨_,hH⟩;have hi:i<μ3.length:=(bE.mp hμ).1;exact hk _ _ S j _ (h.trans B) (m3.turn O hi B ⟨_,z3,WR (bM.lk B.lk l)⟩) _ (h2.step B)
    .cases V:ze (.inr z) e with
     |some t'=>
      obtain⟨v2,h1,h2⟩:=yt l V;rw[h1] at hn;cases hn
     |none=>exact hk _ _ (q2 V) j _ h m3 _ d
   |_=>exact ht.elim
  |_=>exact aJ.elim q
 cases T with
 |true=>exact PE.mono (R5 ho ha hb ⟨qy hp,by rw[F];rfl,r,by rw[F];rfl⟩) λG H Q p=>key p
 |false=>
  refine PE.mono (TW (by have:=C.unt;lia) ho ha hb ⟨qy hp,by rw[F];rfl,r,by rw[F];rfl⟩) λG H Q p=>?_;obtain⟨s,J,u,I,E,M,p⟩:=key p;refine⟨s,J,u,I,E,M,p.mono λot w A Y n m1 q U dv=>?_⟩;obtain⟨x,h1,h2,s,J,u,I,E,M,p⟩:=q U dv;refine⟨x,h1,h2,s,J,u,I,E,M,p.mono λot w A Y n m1 q U dv=>?_⟩;obtain⟨s,J,u,I,E,M,p⟩:=q U dv;refine⟨s,J,u,I,E,M,p.mono λot w A Y n m1 q U dv=>?_⟩;obtain⟨e,N,e1,rfl,S,q2⟩:=q U dv;refine⟨vB e N,eI.k e1,?_⟩;cases P:vB e N with
  |none=>exact q2 P
  |some v=>exact S v P
abbrev Bq(f:De):De:=λτ μ=>(f τ μ).bind λx a=>match x with
 |.int i=>.grd (0<=i/\i<=1000) (.ok (.lst ((eX i.toNat).map λ(n:Nat)=>T.int (n:Int))) a)
 |_=>.st
theorem Rh:∀{n:Nat}{F:Nat->V}{ys:List aD},ys.length=n->(∀j v,ys[j]?=aA v->RelV (F j) v)->aY ((eX n).map F) ys:=by
 intro n F ys b h;have e:ys=(eX n).map λj=>ys.getD j .none:=by
  apply List.ext_getElem?;intro j;by_cases z:j<n
  .rw[cE,EK z];simp[List.getD,fO (b▸z:j<ys.length)]
  .rw[my (by lia),my (by simp;lia)]
 rw[e];have:∀l:List Nat,(∀j∈l,j<n)->aY (l.map F) (l.map λj=>ys.getD j .none):=by
  intro l;induction l with
  |nil=>intro _;exact .nil
  |cons j l c=>
   intro a;refine .cons ?_ (c λi f=>a i (cW _ f));have d:j<ys.length:=b▸a j (dJ ..);exact h j _ (by simp[List.getD,fO d])
 exact this _ λj a=>lP.mp a
theorem GH:∀{l:List Nat},aM D φ α H (l.map λ(n:Nat)=>T.int (n:Int)) (l.map λ(n:Nat)=>V.int (n:Int))
 |[]=>rfl
 |n::r=>⟨.int n,_,rfl,rfl,GH⟩
theorem MY (C:Ck D W Γ X k) (hc:X.calm=aB) (R:("list":aH)∈Γ.G) (hg:Γ.gl "list"=.none) (j:("range":aH)∈Γ.G) (J:Γ.gl "range"=.none) (y:aO a=aB) (ha:PE X a (aU D W f)) :
  PE X (.Call (.Name "list" p0) [.Call (.Name "range" p1) [a] [] p2] [] pos) (aU D W (Bq f)):=by
 have S:=C.glo _ R;rw[hg] at S;have w:=C.glo _ j;rw[J] at w;rintro h s M H Q I ⟨B,N,U,Y,sr,mr,p⟩;refine ij (wH I (C.glb _ R) S (u:=.type "list") (by decide +kernel) ?_);refine callWith_type1 (mx ?_);refine Call_ (wH I (C.glb _ j) w sO (callWith_type1 (aW (zK ha qL (z5 y) p2 h s M H (λO A=>∃(i:Int) (d:Mem) (c:List aF),O=[.int i]/\aQ N H c A/\aL D B c A d/\aJ D W B c A M (RV D B Q) (RE.grd (0<=i/\i<=1000) (RE.ok (T.lst ((eX i.toNat).map λ(n:Nat)=>T.int (n:Int))) d))) I ?_) ?_) (by rw[z5 y]) rfl))
 .refine⟨B,N,U,Y,sr,mr,p.bind.mono λx d c A F m1 P Z K=>?_⟩;cases x with
  |int i=>
   have K:Z=.int _:=K;subst K;exact⟨i,d,c,rfl,F,m1,P⟩
  |_=>exact aJ.elim P
 .rintro us g ⟨O,A,L,rv,i,d,c,rfl,st,m,q⟩;cases rv with
  |cons r rr=>
   cases rr;obtain⟨t',rfl⟩:=r;obtain⟨⟨h0,h1⟩,q⟩:=q.grd;refine call_range_1 (om ?_);have e1:rH 0 i 1=((i.toNat:Nat):Int):=by rw[rangeSize_one];split<;>lia
   refine call_list_range (L.ok.hd hc) (tF ..) (small_one (by lia) (by lia) (by lia) (by lia)) e1 (by lia) ?_;intro h' tk z c' kp e it;have I2:=L.laid (a:=(g.heap.push {cls:=.type "range",data:=.fields #[.int 0 g.toks,.int i t',.int 1 (g.toks+1)]}).objs.size) (o:=.lst ((eX i.toNat).map λ(n:Nat)=>V.int (n:Int))) (h':=h') (t':=tk) (λb u e=>kp _ _ (bY _ e)) (by rw[hX];exact iK _) ⟨by simp only[bJ,v4];rw[eG];lia,z.toList,c',Rh (by simpa using it.1) (λn v hv=>?_),by simpa using e⟩
   .refine⟨.ref _,_,I2,rfl,?_⟩;have E:=L.hok.fresh (a:=(g.heap.push {cls:=.type "range",data:=.fields #[.int 0 g.toks,.int i t',.int 1 (g.toks+1)]}).objs.size) (by rw[hX];exact iK _);exact aJ.fresh q m (zm E) ⟨_,_,rfl,zr m E,zt m E,.inl z3,(GH (l:=eX _)).step (aQ.new (zm E))⟩
   .obtain⟨t,rfl⟩:=it.2 n v (by simpa using hv);exact⟨t,by simp⟩
end
def H0:ER:=λr a e=>(xo e).bind λq=>(rY q.as).bind λab=>gd ((q.m==("get":aH) || q.m==("pop":aH))&&zZ q.o) (gd (aO ab.1&&aO ab.2) (gd (q.pa.endLine==q.pc.line) ((r.e a q.o).bind λgo=>(r.e a ab.1).bind λf=>(r.e a ab.2).bind λg=>aA (mF (q.m==("pop":aH)) go f g))))
theorem Na:cR D H0:=by
 intro r H X W u k e d C h;obtain⟨q,o,h⟩:=aR h;obtain⟨ab,b,h⟩:=aR h;obtain⟨i,h⟩:=z9 h;obtain⟨c,h⟩:=z9 h;obtain⟨n,h⟩:=z9 h;obtain⟨go,t,h⟩:=aR h;obtain⟨f,s,h⟩:=aR h;obtain⟨g,p,h⟩:=aR h;cases h;have l:q.m=(if (q.m==("pop":aH)) then "pop" else "get":aH):=by
  by_cases e:(q.m==("pop":aH))=aB
  .rw[if_pos e];exact qr e
  .rw[if_neg e];rcases (nS ..).mp (zy i).1 with h|h
   .exact qr h
   .exact absurd h e
 have a:=λj=>Ml (pa:=q.pa) (pc:=q.pc) C j (zy i).2 (zy c).1 (zy c).2 n (H.e C t) (H.e C s) (H.e C p);have e0:=wF o;rw[Vy b,l] at e0;rw[e0];exact a _
def FU:ER:=λr c e=>(k_ e).bind λq=>(yO q.as).bind λa=>(k_ a).bind λd=>(yO d.as).bind λb=>gd (q.x==("list":aH)&&d.x==("range":aH)) (gd ((cJ c.N q.x).isNone&&(cJ c.N d.x).isNone) (gd (aO b&&c.calm) (gd (ir (c.look "list")&&ir (c.look "range")) ((r.e c b).bind λf=>aA (Bq f)))))
theorem Pg:cR D FU:=by
 intro r H X W p k e d C h;obtain⟨q,o,h⟩:=aR h;obtain⟨a,m,h⟩:=aR h;obtain⟨s,g,h⟩:=aR h;obtain⟨b,l,h⟩:=aR h;obtain⟨i,h⟩:=z9 h;obtain⟨_,h⟩:=z9 h;obtain⟨j,h⟩:=z9 h;obtain⟨c,h⟩:=z9 h;obtain⟨f,n,h⟩:=aR h;cases h;rw[qQ o,q_ m,qQ g,q_ l,qr (zy i).1,qr (zy i).2];exact MY C (C.clm (zy j).2) (zQ (zy c).1).1 (zQ (zy c).1).2 (zQ (zy c).2).1 (zQ (zy c).2).2 (zy j).1 (H.e C n)
noncomputable def Lz:aI->Bool
 |.Call (.Name x _) _ _ _=>x==("dict":aH)
 |_=>aC
def GJ:ER:=λr b e=>(k_ e).bind λq=>(yO q.as).bind λa=>gd (Lz a) (lm "len" JJ aC r b e)
theorem R7:cR D GJ:=by
 intro r H X W i k e d C h;obtain⟨q,j,h⟩:=aR h;obtain⟨a,b,h⟩:=aR h;obtain⟨_,h⟩:=z9 h;exact kg (nm:="len") (op:=JJ) (cl:=aC) (λC c g _ f b=>J5 C c g boot_len (by decide) f HG b) r H C h
end NH
namespace NH.P
open PySem L2 NH
@[reducible] def jN:List Ds:=[(zp 3 (zv 45 zI (eV 0) [(eV 1),(eV 2)])),(zB (W3 (za (eV 0) 19) (eV 3))),(zh (z4 j4 [(za (eV 0) 19)]))]
def qN:Fn:=bI 3 1 jN
@[reducible] def wO:List Ds:=[(zB (zv 45 zR (eV 0) [])),(zB (zv 45 zC (eV 0) [])),(zp 1 (wD [(za (eV 0) 6),(z4 Za [(za (eV 0) 6),(zv 45 qw (eV 0) [])])])),(zB (zv 45 qk (eV 0) [(eC .non),(za (eV 0) 17)])),(zM (eV 0) 19 (kO [])),(zh (eV 1))]
def qB:Fn:=bI 1 1 wO
@[reducible] def qz:List Ds:=[(zM (eV 1) 11 (W8 45 qo [(za (eV 0) 9),(za (eV 0) 14),(za (eV 0) 15),(Ci 1 0 [1]),(za (eV 1) 22)]))]
def zE:Fn:=bI 2 0 qz
@[reducible] def qb:List Ds:=[(bL (qh (tE (z4 ji [(eV 4)]))) [(zH 17 [(eC (.str "a world has a dict of one clock for each of some holders"))])] []),(zM (eV 0) 9 (eV 1)),(zM (eV 0) 14 (eV 2)),(zM (eV 0) 15 (eV 3)),(zM (eV 0) 23 (W8 43 vQ [(eV 1)])),(zM (eV 0) 24 (kO [])),(zM (eV 0) 25 (eC .non)),(zM (eV 0) 26 Wg),(vr (.one 5) (iD (eV 4)) [(zp 6 (W8 46 jf [(hY W_ (eV 4) (eV 5))])),(zB (zv 47 zE (eV 0) [(eV 6)])),(xu (za (eV 0) 26) (eV 5) (eV 6))])]
def wU:Fn:=bI 5 2 qb
@[reducible] def vj:List Ds:=[(zp 2 (hY W_ (za (eV 0) 26) (aX (eV 1) (eC (.int 2))))),(zp 3 (zv 41 wt (za (eV 2) 21) [(aX (eV 1) (eC (.int 1)))])),(bL (tE (zw .Eq (aX (eV 1) (eC (.int 0))) (eC (.str "ask")))) [(zh (zv 45 wB (za (eV 2) 11) [(eV 3),(aX (eV 1) (eC (.int 3)))]))] []),(bL (tE (zw .Eq (aX (eV 1) (eC (.int 0))) (eC (.str "take")))) [(zh (zv 45 vg (za (eV 2) 11) [(aX (eV 1) (eC (.int 3)))]))] []),(bL (tE (zw .Eq (aX (eV 1) (eC (.int 0))) (eC (.str "store")))) [(zB (zv 45 qN (za (eV 2) 11) [(eV 3),(aX (eV 1) (eC (.int 3)))]))] [(bL (tE (zw .Eq (aX (eV 1) (eC (.int 0))) (eC (.str "lease")))) [(zB (zv 45 qj (za (eV 2) 11) [(zv 43 ju (za (eV 0) 23) [(aX (eV 1) (eC (.int 2))),(aX (eV 1) (eC (.int 3))),(eV 3),(aX (eV 1) (eC (.int 4)))])]))] [(bL (tE (zw .Eq (aX (eV 1) (eC (.int 0))) (eC (.str "back")))) [(zp 4 (zv 45 qB (za (eV 2) 11) [])),(zB (zv 43 jE (za (eV 0) 23) [(aX (eV 4) (eC (.int 0))),(aX (eV 4) (eC (.int 1)))]))] [(bL (tE (zw .Eq (aX (eV 1) (eC (.int 0))) (eC (.str "fall")))) [(zB (zv 47 zE (eV 0) [(eV 2)]))] [(zM (eV 2) 22 (eC .non)),(zB (zv 47 zE (eV 0) [(eV 2)]))])])])]),(zh (kO []))]
def zx:Fn:=bI 2 3 vj
@[reducible] def xr:List Ds:=[(zB (zv 47 qt (eV 0) [(eV 1)])),(zp 2 (zv 47 zx (eV 0) [(eV 1)])),(zM (eV 0) 25 (aX (eV 1) (eC (.int 1)))),(zB (rZ (za (eV 0) 24) (w9 1 [1] (.one 0) (iE (eV 2)) [] (wD [(aX (eV 1) (eC (.int 1))),(aX (eV 1) (eC (.int 2))),(eV 0)])))),(zh (eV 2))]
def vM:Fn:=bI 2 1 xr
@[reducible] def ja:List Ds:=[(zh (zv 43 wk (za (eV 0) 23) []))]
def qZ:Fn:=bI 1 0 ja
@[reducible] def vN:List Ds:=[(zh (zv 43 zJ (za (eV 0) 23) [(eV 1)]))]
def zX:Fn:=bI 2 0 vN
@[reducible] def xi:List Ds:=[(zp 4 (aX (eV 2) (z4 zi [(eV 0),(dX u4 (eV 2))]))),(zp 5 (z4 zi [(eV 0),(eC (.int 12))])),(zp 6 (zd .Add (eC (.int 1)) (z4 zi [(eV 0),(gN yh (aX (eV 3) (eC (.int 2))) (eC (.int 12)))]))),(bL (tE (zw .Lt (eV 5) (eC (.int 2)))) [(zp 7 (aX (zd .Add (yp [(eC .non)]) (Bq (aX (eV 3) (eC (.int 1))))) (z4 zi [(eV 0),(zd .Add (aX (eV 3) (eC (.int 1))) (eC (.int 1)))]))),(zh (wD [(eC (.str "lease")),(eV 1),(eV 4),(eV 7),(zd .Add (eC (.int 1)) (z4 zi [(eV 0),(eC (.int 20))]))]))] []),(bL (tE (zw .Lt (eV 5) (eC (.int 7)))) [(zh (wD [(eC (.str "ask")),(eV 1),(eV 4),(eV 6)]))] []),(bL (tE (zw .Lt (eV 5) (eC (.int 9)))) [(zh (wD [(aX (yp [(eC (.str "store")),(eC (.str "take"))]) (zd .Sub (eV 5) (eC (.int 7)))),(eV 1),(eV 4),(eV 6)]))] []),(zh (wD [(aX (yp [(eC (.str "back")),(eC (.str "fall")),(eC (.str "bare"))]) (zd .Sub (eV 5) (eC (.int 9)))),(eV 1),(eV 4)]))]
def vK:Fn:=bI 4 4 xi
@[reducible] def k7:List Ds:=[(zp 4 (jw 1 [3] (.one 0) (iE (eV 1)) [] (wD [(eC (.str "lease")),(eV 1),(eV 0),(eC .non),(eC (.int 12))]))),(vr (.one 5) (iE (eV 0)) [(zp 6 (z4 j6 [(eV 5)])),(zp 3 (zd .Add (eV 3) (aX (yp [(eC (.int 0)),(z4 zi [(eV 6),(eC (.int 3))]),(z4 zi [(eV 6),(eC (.int 12))])]) (z4 zi [(eV 6),(eC (.int 3))])))),(zB (W3 (eV 4) (z4 vK [(eV 6),(eV 3),(eV 1),(eV 2)])))]),(zh (eV 4))]
def wZ:Fn:=bI 4 3 k7
@[reducible] def Q2:List Ds:=[(zp 2 (kO [])),(oH [(zp 2 (zv 47 vM (eV 0) [(eV 1)]))] [([10],aE,[(zp 2 (kO []))])]),(zh (eV 2))]
def j1:Fn:=bI 2 1 Q2
@[reducible] def vY:List Ds:=[(vr (.tup [1,2]) (Yz (eV 0)) [(vr (.one 3) (iE (o_ (eV 0) pN (pS (eV 1)))) [(bL (jU (tE (zw .Eq (aX (eV 2) (eC (.int 1))) (aX (eV 3) (eC (.int 1))))) (tE (zw .Lt (gN uN (aX (eV 2) (eC (.int 2))) (aX (eV 3) (eC (.int 2)))) (gN yh (aX (eV 2) (eC (.int 3))) (aX (eV 3) (eC (.int 3))))))) [(zh (eC (.bl aC)))] [])])]),(zh (eC (.bl aB)))]
def w4:Fn:=bI 1 3 vY
@[reducible] def xg:List Ds:=[(zp 6 (w9 3 [] (.tup [0,1,2]) (iE (eV 1)) [] (eV 2))),(bL (fD (tE (zw .NotEq (dX u4 (eV 6)) (dX JJ (dX iu (w9 1 [] (.one 0) (iE (eV 6)) [] (wD [(eV 0),(eC (.int 1))])))))) (tE (zw .NotEq (zv 47 w_ (eV 0) []) (eV 1)))) [(zh (eC (.bl aC)))] []),(vr (.tup [3,4,5]) (iE (eV 1)) [(bL (fD (qh (tE (iS (eC (.int 0)) [(.LtE,(eV 5)),(.Lt,(zd .Mult (zd .Mult (aX (eV 2) (eC (.int 0))) (aX (eV 2) (eC (.int 1)))) (aX (eV 2) (eC (.int 2)))))]))) (tE (zw .NotEq (zv 47 zX (eV 0) [(eV 5)]) (eV 4)))) [(zh (eC (.bl aC)))] [])]),(vr (.one 7) (iE (yp [(zd .Sub (eC (.int 0)) (eC (.int 1))),(zd .Mult (zd .Mult (aX (eV 2) (eC (.int 0))) (aX (eV 2) (eC (.int 1)))) (aX (eV 2) (eC (.int 2)))),(eC .non),(eC (.bl aB)),(eC (.str "0"))])) [(zp 8 (eC (.bl aC))),(oH [(zB (zv 47 zX (eV 0) [(eV 7)]))] [([13],aE,[(zp 8 (eC (.bl aB)))])]),(bL (qh (tE (eV 8))) [(zh (eC (.bl aC)))] [])]),(zh (z4 w4 [(zv 47 qZ (eV 0) [])]))]
def vL:Fn:=bI 3 6 xg
@[reducible] def vd:List Ds:=[(zp 1 (z4 j6 [(z4 ve [(eV 0),(eC (.int 0))])])),(zp 2 (aX (yp [(eC (.int 0)),(zd .Pow (eC (.int 10)) (eC (.int 12)))]) (z4 zi [(eV 1),(eC (.int 2))]))),(zp 3 (wD [(zd .Add (zd .Add (eV 2) (eC (.int 60))) (z4 zi [(eV 1),(eC (.int 200))])),(zd .Add (eC (.int 1)) (z4 zi [(eV 1),(eC (.int 4))])),(zd .Add (eC (.int 1)) (z4 zi [(eV 1),(eC (.int 12))]))])),(zp 4 (z4 zi [(eV 1),(eC (.int 4))])),(zp 5 (aX (yp [(eC (.int 0)),(z4 zi [(eV 1),(eC (.int 6))])]) (z4 zi [(eV 1),(eC (.int 2))]))),(zp 6 (zd .Add (eV 2) (z4 zi [(eV 1),(eC (.int 40))]))),(zp 7 (yp [(eC (.str "one")),(eC (.str "ones")),(eC (.str "a")),(eC (.str "b")),(eC (.str "bees")),(eC (.str "c")),(eC (.str "two")),(eC (.str "twos"))])),(zp 7 (o_ (eV 7) pN (pS (zd .Add (eC (.int 1)) (aX (yp [(z4 zi [(eV 1),(eC (.int 3))]),(z4 zi [(eV 1),(eC (.int 8))])]) (dX oI (zw .Eq (z4 zi [(eV 1),(eC (.int 8))]) (eC (.int 7))))))))),(zp 8 Wg),(vr (.tup [9,10]) (Yz (eV 7)) [(xu (eV 8) (eV 10) (z4 wg [(z4 j6 [(z4 ve [(eV 0),(zd .Add (eC (.int 1)) (eV 9))])]),(eV 6)]))]),(zp 11 (dX iu (w9 2 [] (.tup [0,1]) (rP (eV 8)) [] (wD [(eV 0),(W8 41 vw [(aX (eV 1) (eC (.int 0))),(aX (eV 1) (eC (.int 1)))])])))),(zp 12 (W8 47 wU [(nu 40 jo [(aX (eV 3) (eC (.int 0))),(aX (eV 3) (eC (.int 1))),(aX (eV 3) (eC (.int 2)))]),(eV 4),(eV 5),(eV 11)])),(zp 13 (kO [])),(zp 14 Wg),(vr (.one 15) (iE (z4 wZ [(zd .Add (yp [(z4 ve [(eV 0),(eC (.int 4))])]) (o_ (eV 0) (pS (eC (.int 5))) (pS (eC (.int 45))))),(eV 7),(eV 3),(eV 6)])) [(zp 16 (z4 j1 [(eV 12),(eV 15)])),(zp 17 (z4 j2 [(hY W_ (eV 8) (aX (eV 15) (eC (.int 2)))),(aX (eV 15) (eC (.int 1)))])),(bL (tE (zw .Eq (aX (eV 15) (eC (.int 0))) (eC (.str "bare")))) [(zB (mF aB (eV 14) (aX (eV 15) (eC (.int 2))) (eC .non)))] []),(vr (.one 18) (iE (eV 16)) [(bL (tE (zw .LtE (eV 18) (mF aC (eV 14) (aX (eV 15) (eC (.int 2))) (zd .Sub (eC (.int 0)) (eC (.int 1)))))) [(zh (eC (.bl aC)))] []),(zp 19 (zd .FloorDiv (zd .FloorDiv (eV 18) (aX (eV 3) (eC (.int 2)))) (aX (eV 3) (eC (.int 1))))),(bL (jU (tE (zw .Eq (aX (eV 15) (eC (.int 0))) (eC (.str "ask")))) (qh (tE (iS (eV 17) [(.LtE,(eV 19)),(.LtE,(zd .Add (eV 17) (eV 4)))])))) [(zh (eC (.bl aC)))] []),(xu (eV 14) (aX (eV 15) (eC (.int 2))) (eV 18)),(zB (W3 (eV 13) (wD [(aX (eV 15) (eC (.int 1))),(aX (eV 15) (eC (.int 2))),(eV 18)])))]),(zB (oM (eV 16)))]),(zh (z4 vL [(eV 12),(eV 13),(eV 3)]))]
def yb:Fn:=bI 1 19 vd
end NH.P
namespace NH.K91
open PySem PySem.Spec PyProof.Rows L2 NH NH.P
noncomputable def st(i:Nat):bG:=PySem.Challenge.pw_namehouses_k91_whole_no_name_twice.main.body.getD i (.Pass ⟨0,0,0,0⟩)
noncomputable def cls:List (aH×Nat):=[("Clock",41),("HouseError",10),("NoName",13),("bool",1),("dict",6),("int",2),("list",5),("str",3),("tuple",4)]
def fld:List (aH×Nat):=[("moments",0),("houses",1),("counts",2),("start",3),("turns",4),("holder",5),("lease",6),("until",7),("is_cut",8),("shape",9),("grants",10),("house",11),("begin",12),("end",13),("ahead",14),("stride",15),("keeper",16),("mark",17),("newest",18),("batches",19),("has_fallen",20),("clock",21),("kept",22),("common",23),("given",24),("now",25),("seats",26),("by",29)]
def RU:dS:=⟨[GJ,H0,FU,GF,GA,F7,F5,Gy,GO,Gg,Cb,FL,GS,Ff,Fq,Fg,Gu,Fz,FM,Fh,GX,Gj,Gw,Fm,Ft,Fx,Aw,Ga,Ht],[GD,B9,GN],[HJ],[GW,HY,Gk,GI,G6,HZ],[Xv,Gi,HM,HD,HX],[G_,Hq,GV,HA,GR]⟩
theorem ya{D:DP}:cG D RU:=⟨⟨R7,Na,Pg,Sv,TX,P8,P9,SS,SH,O0,SY,RM,Sz,RB,PC,RK,R_,RA,Pu,Pb,Su,S0,Sr,O5,Pc,Pw,Sg,Pr,UZ,trivial⟩,⟨TH,TQ,SM,trivial⟩,⟨T6,trivial⟩,⟨TY,OF,S8,SQ,T8,Oy,trivial⟩,⟨YU,Tf,UX,Uh,NU,trivial⟩,⟨Ux,Uo,S9,UT,S1,trivial⟩⟩
def CS:List (aH×GM):=Yf ["ValueError","all","bool","dict","enumerate","int","isinstance","len","list","max","min","range","reversed","sorted","str","sum","tuple"] [("HouseError",10),("NoShape",12),("NoName",13),("NoClock",15),("NoTime",16),("NoHolder",17),("NoLease",18),("Ended",19),("TooMany",20),("Empty",22),("NoNote",23),("Fallen",24),("NoRow",25)] [("Wait",21,29),("Backward",26,25)]
def vO:=aN (st 10) 0
def Ih:List (aH×GM):=(hash "Wait",GM.xin 21 29 "Wait" "by")::CS
def CQ:List (aH×GM):=(hash "by",GM.xin 21 29 "Wait" "by")::Ih
def Qi:=st 17
def KQ:Cn:=cn cls fld CQ ["thing"] ["isinstance","int","bool"] [] []
theorem KG:zf ((aP RU 60).s KQ) (z0 Qi)=aA Zt:=by kernel_rfl
def CP:List (aH×GM):=("is_whole",GM.fn zP)::CQ
def Ws:=st 18
def U8:Cn:=cn cls fld CP ["thing"] ["is_whole"] [] []
theorem UG:zf ((aP RU 60).s U8) (z0 Ws)=aA WH:=by kernel_rfl
def CO:List (aH×GM):=("is_size",GM.fn wX)::CP
def vZ:=st 19
def uv:Cn:=cn cls fld CO ["thing"] ["is_whole"] [] []
theorem uc:zf ((aP RU 60).s uv) (z0 vZ)=aA j3:=by kernel_rfl
def CN:List (aH×GM):=("is_from_nought",GM.fn qF)::CO
def Q0:=st 20
def XR:Cn:=cn cls fld CN ["thing","bound"] ["is_whole"] [] []
theorem KW:zf ((aP RU 60).s XR) (z0 Q0)=aA ZH:=by kernel_rfl
def CM:List (aH×GM):=("is_below",GM.fn qE)::CN
def yE:=aN (st 21) 0
def Vq:Cn:=cn cls fld CM ["self","moments","houses","counts"] ["is_size","NoShape"] [] []
theorem Vd:zf ((aP RU 60).s Vq) (z0 yE)=aA yB:=by kernel_rfl
def CL:List (aH×GM):=("Shape",GM.mk 40 aB jo)::CM
def ZJ:=st 22
def X3:Cn:=cn cls fld CL ["shape"] [] [] []
theorem KR:zf ((aP RU 60).s X3) (z0 ZJ)=aA Z_:=by kernel_rfl
def CI:List (aH×GM):=("names_in",GM.fn yq)::CL
def Wy:=st 23
def UC:Cn:=cn cls fld CI ["shape","thing"] ["is_below","names_in"] [] []
theorem Uk:zf ((aP RU 60).s UC) (z0 Wy)=aA Wn:=by kernel_rfl
def CH:List (aH×GM):=("is_name",GM.fn jj)::CI
def ye:=st 24
def VP:Cn:=cn cls fld CH ["shape","thing"] ["is_name","NoName"] [] []
theorem Vo:zf ((aP RU 60).s VP) (z0 ye)=aA yz:=by kernel_rfl
def Bl:List (aH×GM):=("check_name",GM.fn wa)::CH
def yc:=st 25
def V2:Cn:=cn cls fld Bl ["thing","bound"] ["is_below","NoName"] [] []
theorem V4:zf ((aP RU 60).s V2) (z0 yc)=aA yW:=by kernel_rfl
def BI:List (aH×GM):=("check_part",GM.fn wb)::Bl
def WN:=st 26
def T3:Cn:=cn cls fld BI ["shape","moment","house","count"] ["check_part"] [] []
theorem U1:zf ((aP RU 60).s T3) (z0 WN)=aA WL:=by kernel_rfl
def Bu:List (aH×GM):=("name_of",GM.fn Zc)::BI
def Qx:=st 27
def X2:Cn:=cn cls fld Bu ["shape","name","count","above"] ["check_name"] [] []
theorem KN:zf ((aP RU 60).s X2) (z0 Qx)=aA Qz:=by kernel_rfl
def Fy:List (aH×GM):=("parts_of",GM.fn qM)::Bu
def Gf:List (aH×GM):=("TIME_clocks",GM.cst (.int 0))::Fy
def FY:List (aH×GM):=("READING",GM.cst (.int 1))::Gf
def Bc:List (aH×GM):=("RUNS",GM.cst (.int 2))::FY
def Wu:=st 32
def Uy:Cn:=cn cls fld Bc ["thing"] ["isinstance","tuple","len","is_whole","TIME_clocks","READING","RUNS","bool"] [] []
theorem Ua:zf ((aP RU 60).s Uy) (z0 Wu)=aA Wk:=by kernel_rfl
def AX:List (aH×GM):=("is_turn",GM.fn Z7)::Bc
def uD:=st 33
def Jn:Cn:=cn cls fld AX ["thing"] ["isinstance","list","all","range","len"] ["thing"] []
theorem Ka:zf ((aP RU 60).s Jn) (z0 uD)=aA uI:=by kernel_rfl
def BN:List (aH×GM):=("are_turns",GM.fn kD)::AX
def yu:=aN (st 34) 0
def V9:Cn:=cn cls fld BN ["self","start","turns"] ["is_whole","are_turns","NoClock","list"] [] []
theorem VT:zf ((aP RU 60).s V9) (z0 yu)=aA y7:=by kernel_rfl
def A8:List (aH×GM):=("Clock",GM.mk 41 aC vw)::BN
def jR:=aN (st 34) 1
def uZ:Cn:=cn cls fld A8 ["self","time","turn"] ["is_whole","NoTime","reversed","TIME_clocks","READING","RUNS"] [] []
theorem uW:zf ((aP RU 60).s uZ) (z0 jR)=aA jQ:=by kernel_rfl
def Fl:List (aH×GM):=(dL "reading",GM.met 41 "reading" wt)::A8
def FD:List (aH×GM):=("HOUSE_leases",GM.cst (.int 0))::Fl
def FV:List (aH×GM):=("FIRST",GM.cst (.int 1))::FD
def Br:List (aH×GM):=("UNTIL",GM.cst (.int 2))::FV
def ZM:=st 39
def XC:Cn:=cn cls fld Br ["shape","thing"] ["isinstance","tuple","len","is_below","HOUSE_leases","is_whole","FIRST","UNTIL"] [] []
theorem Xh:zf ((aP RU 60).s XC) (z0 ZM)=aA Zj:=by kernel_rfl
def AE:List (aH×GM):=("is_lease",GM.fn kA)::Br
def xf:=st 40
def QN:Cn:=cn cls fld AE ["shape","thing"] ["is_lease","NoLease"] [] []
theorem W4:zf ((aP RU 60).s QN) (z0 xf)=aA xq:=by kernel_rfl
def Ae:List (aH×GM):=("check_lease",GM.fn qU)::AE
def WA:=st 41
def YR:Cn:=cn cls fld Ae ["lease","moment"] ["FIRST","min","UNTIL"] [] []
theorem U0:zf ((aP RU 60).s YR) (z0 WA)=aA WJ:=by kernel_rfl
def FF:List (aH×GM):=("used_of",GM.fn Za)::Ae
def Fw:List (aH×GM):=("LETTERS",GM.cst (.str "abcdefghijklmnopqrstuvwxyz"))::FF
def BJ:List (aH×GM):=("LONGEST_HOLDER",GM.cst (.int 8))::Fw
def uM:=st 45
def K6:Cn:=cn cls fld BJ ["thing"] ["isinstance","str","len","LONGEST_HOLDER","all"] [] []
theorem Jt:zf ((aP RU 60).s K6) (z0 uM)=aA uJ:=by kernel_rfl
def AA:List (aH×GM):=("is_holder",GM.fn we)::BJ
def yR:=aN (st 46) 0
def Vf:Cn:=cn cls fld AA ["self","holder","lease"] ["UNTIL"] [] []
theorem V6:zf ((aP RU 60).s Vf) (z0 yR)=aA yA:=by kernel_rfl
def AC:List (aH×GM):=("Grant",GM.mk 42 aC xI)::AA
def Yp:=st 47
def PF:Cn:=cn cls fld AC ["grant","first","until"] ["max","FIRST","min"] [] []
theorem RO:zf ((aP RU 60).s PF) (z0 Yp)=aA XS:=by kernel_rfl
def Aj:List (aH×GM):=("meets",GM.fn e_)::AC
def qO:=st 48
def QP:Cn:=cn cls fld Aj ["grants","moment","span","begin","grant"] ["sorted","meets"] [] [] (aA (0,[⟨137,36,137,64⟩]))
theorem W9:zf ((aP RU 60).s QP) (z0 qO)=aA xm:=by kernel_rfl
def Ax:List (aH×GM):=("least_begin",GM.fn wy)::Aj
def xc:=st 49
def QU:Cn:=cn cls fld Ax ["grants","moment","span","met","grant","house"] ["meets","HOUSE_leases"] [] ["met"]
theorem QL:zf ((aP RU 60).s QU) (z0 xc)=aA xv:=by kernel_rfl
def AG:List (aH×GM):=("least_house",GM.fn vH)::Ax
def xy:=aN (st 50) 0
def Wa:Cn:=cn cls fld AG ["self","shape"] [] [] ["grants"]
theorem W2:zf ((aP RU 60).s Wa) (z0 xy)=aA xw:=by kernel_rfl
def BA:List (aH×GM):=("Common",GM.mk 43 aC vQ)::AG
def vy:=aN (st 50) 2
def xE:Cn:=cn cls fld BA ["self","holder","house","moment","span"] ["is_holder","NoHolder","is_below","NoName","is_size","NoTime","is_whole"] [] []
theorem xN:zf ((aP RU 60).s xE) (z0 vy)=aA qS:=by kernel_rfl
def AF:List (aH×GM):=(dL "check_let",GM.met 43 "check_let" qH)::BA
def vn:=aN (st 50) 4
def xG:Cn:=cn cls fld AF ["self","house"] [] ["house"] []
theorem xR:zf ((aP RU 60).s xG) (z0 vn)=aA vq:=by kernel_rfl
def BC:List (aH×GM):=(dL "grants_of",GM.met 43 "grants_of" q9)::AF
def wQ:=aN (st 50) 3
def kN:Cn:=cn cls fld BC ["self","house","moment","span","begin"] ["least_house","least_begin"] [] []
theorem xa:zf ((aP RU 60).s kN) (z0 wQ)=aA wM:=by kernel_rfl
def AI:List (aH×GM):=(dL "free_lease",GM.met 43 "free_lease" qv)::BC
def yS:=aN (st 50) 1
def Vw:Cn:=cn cls fld AI ["self","holder","house","moment","span","lease"] ["max","HOUSE_leases","UNTIL","Ended","Grant"] [] []
theorem Vn:zf ((aP RU 60).s Vw) (z0 yS)=aA yN:=by kernel_rfl
def Bz:List (aH×GM):=(dL "let",GM.met 43 "let" ju)::AI
def km:=aN (st 50) 6
def Q6:Cn:=cn cls fld Bz ["self","lease","grant"] ["check_lease","NoLease"] [] []
theorem Qm:zf ((aP RU 60).s Q6) (z0 km)=aA ke:=by kernel_rfl
def A5:List (aH×GM):=(dL "uncut",GM.met 43 "uncut" v5)::Bz
def yk:=aN (st 50) 5
def VW:Cn:=cn cls fld A5 ["self","lease","used","grant","until"] ["FIRST","is_whole","UNTIL","NoTime"] [] []
theorem Ve:zf ((aP RU 60).s VW) (z0 yk)=aA jD:=by kernel_rfl
def AS:List (aH×GM):=(dL "cut",GM.met 43 "cut" jE)::A5
def jO:=aN (st 50) 7
def Z4:Cn:=cn cls fld AS ["self"] [] [] []
theorem Z1:zf ((aP RU 60).s Z4) (z0 jO)=aA jM:=by kernel_rfl
def Aq:List (aH×GM):=(Bd "leases",GM.met 43 "leases" wk)::AS
def vh:=aN (st 50) 8
def xK:Cn:=cn cls fld Aq ["self","name","parts","moment","grant"] ["parts_of","meets"] [] []
theorem xZ:zf ((aP RU 60).s xK) (z0 vh)=aA vo:=by kernel_rfl
def Be:List (aH×GM):=(Bd "holder_of",GM.met 43 "holder_of" zJ)::Aq
def Ww:=st 52
def Uc:Cn:=cn cls fld Be ["shape","thing"] ["isinstance","tuple","len","is_lease","is_below"] [] []
theorem Uu:zf ((aP RU 60).s Uc) (z0 Ww)=aA ud:=by kernel_rfl
def Az:List (aH×GM):=("is_note",GM.fn Zf)::Be
def y9:=aN (st 53) 0
def Vm:Cn:=cn cls fld Az ["self","house","begin","end"] [] [] []
theorem Vs:zf ((aP RU 60).s Vm) (z0 y9)=aA yo:=by kernel_rfl
def A3:List (aH×GM):=("Batch",GM.mk 44 aB qT)::Az
def Wx:=st 54
def UP:Cn:=cn cls fld A3 ["shape","house","place"] ["name_of"] [] []
theorem T4:zf ((aP RU 60).s UP) (z0 Wx)=aA WC:=by kernel_rfl
def AM:List (aH×GM):=("name_at",GM.fn y6)::A3
def vD:=st 55
def xJ:Cn:=cn cls fld AM ["shape","batch"] ["range"] ["shape","batch"] ["return"]
theorem xA:zf ((aP RU 60).s xJ) (z0 vD)=aA vC:=by kernel_rfl
def A9:List (aH×GM):=("names_of_batch",GM.fn qc)::AM
def uS:=st 56
def JC:Cn:=cn cls fld A9 ["batches"] ["sum"] [] []
theorem JE:zf ((aP RU 60).s JC) (z0 uS)=aA uw:=by kernel_rfl
def BG:List (aH×GM):=("size_of",GM.fn j4)::A9
def J9:=st 57
def Tr:Cn:=cn cls fld BG ["batches","many","firsts","others","rest","batch","middle"] ["min","Batch"] [] ["firsts","others","return"]
theorem Tv:zf ((aP RU 60).s Tr) (z0 J9)=aA JD:=by kernel_rfl
def BD:List (aH×GM):=("parted",GM.fn fE)::BG
def xn:=st 58
def QR:Cn:=cn cls fld BD ["shape","house","name","parts"] ["parts_of"] [] []
theorem QT:zf ((aP RU 60).s QR) (z0 xn)=aA xk:=by kernel_rfl
def Ag:List (aH×GM):=("place_above",GM.fn vG)::BD
def uG:=aN (st 72) 0
def Jp:Cn:=cn cls fld Ag ["self","clock"] [] [] []
theorem Kc:zf ((aP RU 60).s Jp) (z0 uG)=aA uT:=by kernel_rfl
def BP:List (aH×GM):=("Seat",GM.mk 46 aC jf)::Ag
def Qy:=aN (st 72) 1
def X4:Cn:=cn cls fld BP ["self","note"] [] [] []
theorem XQ:zf ((aP RU 60).s X4) (z0 Qy)=aA Zq:=by kernel_rfl
def By:List (aH×GM):=(dL "jot",GM.met 46 "jot" kn)::BP
def Fu:aI:=(Lm (LM (sIx (z0 (aN (st 73) 1)) 0)) 3)
def Mn:bP:=⟨1,((("World.come_up":aH)++".<locals>.")++"<lambda>"),"note",LJ Fu,Lo Fu,["seat"],(zv 46 kn (eV 1) [(eV 0)]),aE⟩
def rS:List bP:=[Mn]
def HK:Cn:=cn cls fld By [] [] [] []
def BU (l:bP):List aH:=(Qo l.sc).filter λx=>([]:List aH).contains x
theorem N9:gZ (λl=>YC (uB HK l (BU l)) l=aB/\AU RU 60 (uB HK l (BU l)) l) rS:=⟨⟨by kernel_rfl,.inl ⟨rfl,by kernel_rfl⟩⟩,trivial⟩
def AK:List (aH×GM):=(Qu,GM.kap rS)::By
def zS:=aN (st 59) 0
def ZG:Cn:=cn cls fld AK ["self","shape","ahead","stride","keeper","note"] ["is_from_nought","NoTime","is_note","NoNote"] [] ["batches"]
theorem Qc:zf ((aP RU 60).s ZG) (z0 zS)=aA kC:=by kernel_rfl
def AQ:List (aH×GM):=("House",GM.mk 45 aC qo)::AK
def jc:=aN (st 59) 8
def yY:Cn:=cn cls fld AQ ["self"] ["Fallen"] [] []
theorem y_:zf ((aP RU 60).s yY) (z0 jc)=aA j8:=by kernel_rfl
def BH:List (aH×GM):=(dL "check_up",GM.met 45 "check_up" zR)::AQ
def yw:=aN (st 59) 7
def VS:Cn:=cn cls fld BH ["self"] [] [] []
theorem Vi:zf ((aP RU 60).s VS) (z0 yw)=aA yU:=by kernel_rfl
def BF:List (aH×GM):=(dL "note",GM.met 45 "note" jh)::BH
def k6:=aN (st 59) 15
def Qg:Cn:=cn cls fld BF ["self","lease","mark"] [] [] []
theorem QD:zf ((aP RU 60).s Qg) (z0 k6)=aA jZ:=by kernel_rfl
def A4:List (aH×GM):=(dL "keep",GM.met 45 "keep" qk)::BF
def wA:=aN (st 59) 1
def ki:Cn:=cn cls fld A4 ["self","lease"] ["check_lease"] [] []
theorem kr:zf ((aP RU 60).s ki) (z0 wA)=aA wz:=by kernel_rfl
def Bw:List (aH×GM):=(dL "take_lease",GM.met 45 "take_lease" qj)::A4
def qX:=aN (st 59) 9
def vX:Cn:=cn cls fld Bw ["self"] ["NoLease"] [] []
theorem v_:zf ((aP RU 60).s vX) (z0 qX)=aA qV:=by kernel_rfl
def Ba:List (aH×GM):=(dL "check_has_lease",GM.met 45 "check_has_lease" zC)::Bw
def vl:=aN (st 59) 13
def xY:Cn:=cn cls fld Ba ["self"] ["place_above","HOUSE_leases"] [] []
theorem xF:zf ((aP RU 60).s xY) (z0 vl)=aA vu:=by kernel_rfl
def Bg:List (aH×GM):=(dL "free_place",GM.met 45 "free_place" qJ)::Ba
def vx:=aN (st 59) 12
def xU:Cn:=cn cls fld Bg ["self","reading","many","least","begin","end","by"] ["is_size","TooMany","is_whole","NoTime","max","FIRST","UNTIL","NoLease","Wait","Batch","HOUSE_leases"] [] []
theorem xS:zf ((aP RU 60).s xU) (z0 vx)=aA vf:=by kernel_rfl
def BX:List (aH×GM):=(dL "next_batch",GM.met 45 "next_batch" qf)::Bg
def wR:=aN (st 59) 14
def kW:Cn:=cn cls fld BX ["self","moment"] ["min"] [] []
theorem kY:zf ((aP RU 60).s kW) (z0 wR)=aA qK:=by kernel_rfl
def AH:List (aH×GM):=(dL "mark_behind",GM.met 45 "mark_behind" qA)::BX
def vE:=aN (st 59) 11
def xP:Cn:=cn cls fld AH ["self","reading","many","batch"] ["name_at"] [] []
theorem xW:zf ((aP RU 60).s xP) (z0 vE)=aA vi:=by kernel_rfl
def Bi:List (aH×GM):=(dL "hand_out",GM.met 45 "hand_out" zI)::AH
def z_:=aN (st 59) 2
def QS:Cn:=cn cls fld Bi ["self","reading","many","batch"] ["names_of_batch"] [] ["batches"]
theorem W6:zf ((aP RU 60).s QS) (z0 z_)=aA xl:=by kernel_rfl
def BW:List (aH×GM):=(dL "ask",GM.met 45 "ask" wB)::Bi
def zO:=aN (st 59) 3
def Z2:Cn:=cn cls fld BW ["self","reading","many","batch"] ["size_of"] [] []
theorem u_:zf ((aP RU 60).s Z2) (z0 zO)=aA jN:=by kernel_rfl
def AJ:List (aH×GM):=(dL "store",GM.met 45 "store" qN)::BW
def ql:=aN (st 59) 4
def VL:Cn:=cn cls fld AJ ["self","many","parts","names","batch"] ["is_size","TooMany","size_of","Empty","parted","names_of_batch"] [] ["names"]
theorem V8:zf ((aP RU 60).s VL) (z0 ql)=aA jq:=by kernel_rfl
def Ai:List (aH×GM):=(dL "take",GM.met 45 "take" vg)::AJ
def wL:=aN (st 59) 10
def kP:Cn:=cn cls fld Ai ["self"] ["parts_of"] [] []
theorem kX:zf ((aP RU 60).s kP) (z0 wL)=aA wI:=by kernel_rfl
def AB:List (aH×GM):=(dL "last_moment",GM.met 45 "last_moment" qw)::Ai
def wJ:=aN (st 59) 5
def kQ:Cn:=cn cls fld AB ["self","told"] ["used_of"] [] ["batches"]
theorem kT:zf ((aP RU 60).s kQ) (z0 wJ)=aA wO:=by kernel_rfl
def FI:List (aH×GM):=(dL "give_back",GM.met 45 "give_back" qB)::AB
def FS:List (aH×GM):=("LENGTHS",GM.tbl [("lease",5),("ask",4),("store",4),("take",4),("back",3),("fall",3),("bare",3)])::FI
def Fk:List (aH×GM):=("WORD",GM.cst (.int 0))::FS
def FA:List (aH×GM):=("TIME_rows",GM.cst (.int 1))::Fk
def Gh:List (aH×GM):=("HOLDER",GM.cst (.int 2))::FA
def F9:List (aH×GM):=("HOUSE_rows",GM.cst (.int 3))::Gh
def Fp:List (aH×GM):=("SPAN",GM.cst (.int 4))::F9
def Bm:List (aH×GM):=("MANY",GM.cst (.int 3))::Fp
def Qq:=st 68
def Xt:Cn:=cn cls fld Bm ["parts"] ["len","isinstance","WORD","str","LENGTHS"] [] []
theorem KL:zf ((aP RU 60).s Xt) (z0 Qq)=aA Qj:=by kernel_rfl
def Af:List (aH×GM):=("has_form",GM.fn wx)::Bm
def Jm:=st 69
def Sq:Cn:=cn cls fld Af ["thing"] ["isinstance","tuple","has_form","is_whole","TIME_rows"] [] []
theorem Tl:zf ((aP RU 60).s Sq) (z0 Jm)=aA K1:=by kernel_rfl
def BO:List (aH×GM):=("is_row",GM.fn vt)::Af
def yC:=st 71
def VQ:Cn:=cn cls fld BO ["thing"] ["isinstance","dict","len","all"] ["thing"] ["~thing"]
theorem Vk:zf ((aP RU 60).s VQ) (z0 yC)=aA ym:=by kernel_rfl
def Bh:List (aH×GM):=("are_clocks",GM.fn ji)::BO
def zL:=aN (st 73) 1
def vS:Cn:={(cn cls fld Bh ["self","seat"] ["House"] ["seat"] [] (aA (1,[⟨408,64,408,91⟩]))) with fz:=["seat"]}
theorem xT:zf ((aP RU 60).s {vS with fz:=[]}) ((z0 zL).take 0)=aA (qz.take 0):=by kernel_rfl
theorem yy:zf ((aP RU 60).s vS) ((z0 zL).drop 0)=aA (qz.drop 0):=by kernel_rfl
def Ah:List (aH×GM):=(dL "come_up",GM.met 47 "come_up" zE)::Bh
def j_:=aN (st 73) 0
def ZU:Cn:=cn cls fld Ah ["self","shape","ahead","stride","clocks","holder","seat"] ["are_clocks","NoHolder","Common","Seat"] [] ["~clocks","seats","given"]
theorem ZD:zf ((aP RU 60).s ZU) (z0 j_)=aA qb:=by kernel_rfl
def AV:List (aH×GM):=("World",GM.mk 47 aC wU)::Ah
def wK:=aN (st 73) 3
def kM:Cn:=cn cls fld AV ["self","row"] ["is_row","NoRow","TIME_rows","Backward","is_holder","HOLDER","NoHolder"] [] []
theorem kU:zf ((aP RU 60).s kM) (z0 wK)=aA wN:=by kernel_rfl
def BR:List (aH×GM):=(dL "check_row",GM.met 47 "check_row" qt)::AV
def ku:=aN (st 73) 4
def Qw:Cn:=cn cls fld BR ["self","row","seat","reading","told"] ["HOLDER","TIME_rows","WORD","MANY","HOUSE_rows","SPAN"] [] ["return"]
theorem Q1:zf ((aP RU 60).s Qw) (z0 ku)=aA vj:=by kernel_rfl
def BV:List (aH×GM):=(dL "done",GM.met 47 "done" zx)::BR
def xx:=aN (st 73) 2
def QX:Cn:=cn cls fld BV ["self","row","names"] ["TIME_rows"] ["row"] []
theorem Q_:zf ((aP RU 60).s QX) (z0 xx)=aA xr:=by kernel_rfl
def A_:List (aH×GM):=(dL "put",GM.met 47 "put" vM)::BV
def kf:=aN (st 73) 5
def Zp:Cn:=cn cls fld A_ ["self"] ["list"] [] []
theorem Qd:zf ((aP RU 60).s Zp) (z0 kf)=aA jY:=by kernel_rfl
def At:List (aH×GM):=(dL "book",GM.met 47 "book" w_)::A_
def jd:=aN (st 73) 6
def uk:Cn:=cn cls fld At ["self"] [] [] []
theorem ue:zf ((aP RU 60).s uk) (z0 jd)=aA ja:=by kernel_rfl
def Bf:List (aH×GM):=(dL "leases",GM.met 47 "leases" qZ)::At
def vJ:=aN (st 73) 7
def x_:Cn:=cn cls fld Bf ["self","name"] [] [] []
theorem yv:zf ((aP RU 60).s x_) (z0 vJ)=aA vN:=by kernel_rfl
def Am:List (aH×GM):=(dL "holder_of",GM.met 47 "holder_of" zX)::Bf
def uy:=st 75
def Jk:Cn:=cn cls fld Am ["_law_script","_law_k"] ["len"] [] []
theorem Kg:zf ((aP RU 60).s Jk) (z0 uy)=aA uF:=by kernel_rfl
def AT:List (aH×GM):=("_law_cell_at",GM.fn ve)::Am
def WS:=st 76
def UA:Cn:=cn cls fld AT ["_law_cell","_law_k","_law_number"] [] [] []
theorem UU:zf ((aP RU 60).s UA) (z0 WS)=aA Wo:=by kernel_rfl
def Av:List (aH×GM):=("_law_mixed",GM.fn Ze)::AT
def QF:=st 77
def Xu:Cn:=cn cls fld Av ["_law_cell"] [] [] ["return"]
theorem KH:zf ((aP RU 60).s Xu) (z0 QF)=aA Q4:=by kernel_rfl
def BS:List (aH×GM):=("_law_digits",GM.fn j6)::Av
def Qr:=st 78
def Xl:Cn:=cn cls fld BS ["_law_source","_law_many","_law_found"] ["_law_mixed"] [] []
theorem X6:zf ((aP RU 60).s Xl) (z0 Qr)=aA Qk:=by kernel_rfl
def BB:List (aH×GM):=("_law_next",GM.fn zi)::BS
def jP:=st 79
def Z3:Cn:=cn cls fld BB ["_law_source","_law_begin","_law_turns","_law_time","_law_k","_law_reading_here"] ["_law_next","range"] [] ["_law_turns"]
theorem uV:zf ((aP RU 60).s Z3) (z0 jP)=aA jS:=by kernel_rfl
def Bx:List (aH×GM):=("_law_drawn_clock",GM.fn wg)::BB
def uO:=st 80
def Jf:Cn:=cn cls fld Bx ["_law_clock","_law_time","_law_start","_law_turns","_law_found","_law_at","_law_reading_here","_law_runs"] ["int"] [] []
theorem Ko:zf ((aP RU 60).s Jf) (z0 uO)=aA uC:=by kernel_rfl
def Au:List (aH×GM):=("_law_reading",GM.fn j2)::Bx
def xh:=st 81
def QQ:Cn:=cn cls fld Au ["_law_source","_law_time","_law_holders","_law_shape","_law_holder","_law_way","_law_many","_law_house"] ["_law_next","len","min","list","range"] [] []
theorem QW:zf ((aP RU 60).s QQ) (z0 xh)=aA xi:=by kernel_rfl
def Bs:List (aH×GM):=("_law_drawn_row",GM.fn vK)::Au
def kh:=st 82
def ZL:Cn:=cn cls fld Bs ["_law_cells","_law_holders","_law_shape","_law_time","_law_rows","_law_cell","_law_source"] ["_law_digits","_law_next","_law_drawn_row"] ["_law_time"] ["_law_rows"]
theorem Q3:zf ((aP RU 60).s ZL) (z0 kh)=aA k7:=by kernel_rfl
def BZ:List (aH×GM):=("_law_drawn_rows",GM.fn wZ)::Bs
def Qp:=st 83
def KI:Cn:=cn cls fld BZ ["_law_world","_law_row","_law_found"] ["HouseError"] [] ["_law_found"]
theorem Xf:zf ((aP RU 60).s KI) (z0 Qp)=aA Q2:=by kernel_rfl
def AO:List (aH×GM):=("_law_told",GM.fn j1)::BZ
def j9:=st 84
def yZ:Cn:=cn cls fld AO ["_law_leases","_law_k","_law_one","_law_other"] ["enumerate","max","min"] [] []
theorem ui:zf ((aP RU 60).s yZ) (z0 j9)=aA vY:=by kernel_rfl
def A1:List (aH×GM):=("_law_leases_right",GM.fn w4)::AO
def xt:=st 85
def QY:Cn:=cn cls fld A1 ["_law_world","_law_book","_law_shape","_law_time","_law_holder","_law_name","_law_names","_law_wrong","_law_said"] ["len","dict","NoName","_law_leases_right"] [] []
theorem W7:zf ((aP RU 60).s QY) (z0 xt)=aA xg:=by kernel_rfl
def FJ:List (aH×GM):=("_law_all_right",GM.fn vL)::A1
def qW:=st 86
def UW:Cn:=cn cls fld FJ ["_law_script","_law_source","_law_far","_law_shape","_law_ahead","_law_stride","_law_begin","_law_holders","_law_clocks","_law_k","_law_holder","_law_made","_law_world","_law_book","_law_last","_law_row","_law_told_here","_law_reading_here","_law_name","_law_moment"] ["_law_digits","_law_cell_at","_law_next","int","enumerate","_law_drawn_clock","dict","World","Shape","_law_drawn_rows","_law_told","_law_reading","_law_all_right"] [] ["_law_clocks","~_law_clocks","_law_book","_law_last"]
theorem UJ:zf ((aP RU 60).s UW) (z0 qW)=aA vd:=by kernel_rfl
end NH.K91
namespace NH
open PySem PySem.Spec PyProof.Rows L2
theorem zN{i:Decidable p}(h1:p->A)(h2:¬p->B):iy (decide p) A B:=by
 cases i with
 |isTrue h=>exact h1 h
 |isFalse h=>exact h2 h
theorem qe{i:Decidable p}(h:p)(a:A):iy (decide p) A B:=zN (λ_=>a) λn=>absurd h n
theorem zA{i:Decidable p}(h:¬p)(b:B):iy (decide p) A B:=zN (λy=>absurd y h) λ_=>b
theorem YK{i:Decidable p}(h1:p->B)(h2:¬p->A):iy (!decide p) A B:=by
 cases i with
 |isTrue h=>exact h1 h
 |isFalse h=>exact h2 h
theorem qR{i:Decidable p}(h:p)(b:B):iy (!decide p) A B:=YK (λ_=>b) λn=>absurd h n
theorem vp(h1:b=aB->A)(h2:b=aC->B):iy b A B:=by
 cases b with
 |true=>exact h1 rfl
 |false=>exact h2 rfl
theorem Fi(h:b=aC)(a:B):iy b A B:=by rw[h];exact a
theorem X7{tg:Tg}{g:Sl->Mem->RE (Option T)}{lv:Mem->Prop}{τ:Sl}{μ:Mem}{Z:Xp}(f:T->Option T){xs:List T}{K:List T->Mem->Prop}
  (h:∀x∈xs,∀k:Option T->Mem->Prop,k (f x) μ->∃d,h_ tg x τ=aA d/\g d μ k Z) (k:K (xs.filterMap f) μ) (l:lv μ:=by trivial):zV tg g lv τ xs μ K Z:=by
 induction xs generalizing K with
 |nil=>exact k
 |cons x r j=>
  unfold zV;obtain⟨d,e,m⟩:=h x dJ (λo b=>lv b/\(match o with
   |some y=>(zV tg g lv τ r b).bind λc a=>RE.ok (y::c) a
   |none=>zV tg g lv τ r b) K Z) (by
    refine⟨l,?_⟩;cases q:f x with
    |none=>
     rw[rL q] at k;exact j (λy i=>h y (cW _ i)) k
    |some y=>
     rw[rK q] at k;exact j (K:=λc a=>K (y::c) a) (λy i=>h y (cW _ i)) k)
  exact⟨d,e,m⟩
theorem u9{tg:Tg}{g:Sl->Mem->RE (Option T)}{lv:Mem->Prop}{τ:Sl}{μ:Mem}{Z:Xp}(f:T->T){xs:List T}{K:List T->Mem->Prop}
  (h:∀x∈xs,∀k:Option T->Mem->Prop,k (aA (f x)) μ->∃d,h_ tg x τ=aA d/\g d μ k Z) (k:K (xs.map f) μ) (a:lv μ:=by trivial):zV tg g lv τ xs μ K Z:=
 X7 (λx=>aA (f x)) h (by rw[kw];exact k) a
theorem Uw{tg:Tg}{g:Sl->Mem->RE (Option T)}{lv:Mem->Prop}{τ:Sl}{Z:Xp}(I:Nat->List T->Mem->Prop){xs:List T}{K:List T->Mem->Prop}{μ:Mem}
  (h0:I 0 [] μ) (h:∀i x ys μ,xs[i]?=aA x->I i ys μ->∀k:Option T->Mem->Prop,(∀o d,I (i+1) (match o with|some y=>ys++[y]|none=>ys) d->k o d)->∃j,h_ tg x τ=aA j/\g j μ k Z)
  (k:∀ys d,I xs.length ys d->K ys d) (s:∀i ys μ,I i ys μ->lv μ:=by intros;trivial):zV tg g lv τ xs μ K Z:=by
 have go:∀(rest:List T) (i:Nat) (ys:List T) (μ:Mem) (K:List T->Mem->Prop),xs.drop i=rest->i<=xs.length->I i ys μ->(∀b d,I xs.length (ys++b) d->K b d)->zV tg g lv τ rest μ K Z:=by
  intro rest;induction rest with
  |nil=>
   intro i ys μ K hd t n f;have:i=xs.length:=by
    have:=congrArg lI hd;simp at this;lia
   subst this;exact f [] μ (by simpa using n)
  |cons x r p=>
   intro i ys μ K hd t n f;have q:xs[i]?=aA x:=by
    have:(xs.drop i)[0]?=aA x:=by rw[hd];rfl
    simpa using this
   have c:i<xs.length:=(bE.mp q).1;have e:xs.drop (i+1)=r:=by
    have:(xs.drop i).tail=r:=by rw[hd];rfl
    simpa using this
   unfold zV;refine h i x ys μ q n _ λo d a=>⟨s _ _ _ a,?_⟩;cases o with
   |none=>exact p (i+1) ys d K e c a f
   |some y=>exact p (i+1) (ys++[y]) d _ e c a λb l m=>f (y::b) l (by simpa using m)
 exact go xs 0 [] μ K rfl (hL _) h0 λb d m=>k b d (by simpa using m)
theorem zG{tg:Tg}{body:Ds}{lv:Mem->Prop}{xs:List T}{τ:Sl}{μ:Mem}{E:En}(I:Nat->Sl->Mem->Prop)(h0:I 0 τ μ)
  (h:∀i x τ μ,xs[i]?=aA x->I i τ μ->∀N:Sl->Mem->Prop,(∀τ μ,I (i+1) τ μ->N τ μ)->∃d,h_ tg x τ=aA d/\body d μ (E.turn N))
  (k:∀τ μ,I xs.length τ μ->E.nx τ μ) (l:∀i τ μ,I i τ μ->lv μ:=by intros;trivial):fV tg body lv xs τ μ E:=by
 have go:∀(rest:List T) (i:Nat) (τ:Sl) (μ:Mem),xs.drop i=rest->i<=xs.length->I i τ μ->fV tg body lv rest τ μ E:=by
  intro rest;induction rest with
  |nil=>
   intro i τ μ hd m f;have:i=xs.length:=by
    have:=congrArg lI hd;simp at this;omega
   subst this;exact k τ μ f
  |cons x r j=>
   intro i τ μ hd m f;have g:xs[i]?=aA x:=by
    have:(xs.drop i)[0]?=aA x:=by rw[hd];rfl
    simpa using this
   have c:i<xs.length:=(bE.mp g).1;have e:xs.drop (i+1)=r:=by
    have:(xs.drop i).tail=r:=by rw[hd];rfl
    simpa using this
   exact h i x τ μ g f _ λa b z=>⟨l _ _ _ z,j (i+1) a b e c z⟩
 exact go xs 0 τ μ rfl (hL _) h0
theorem YS{body:List Ds}(I:Nat->Sl->Mem->Prop)(n:Nat)(h0:I n τ μ)
  (h:∀n τ μ,I n τ μ->∀N:Sl->Mem->Prop,(∀m τ μ,m<n->I m τ μ->N τ μ)->c τ μ (λb d=>iy b (qp body τ d (E.turn N)) (E.nx τ d)) (λk fs d=>E.ex k fs τ d)):Vp c body τ μ E:=
 ⟨I,⟨n,h0⟩,λn τ μ f=>h n τ μ f _ λm τ μ a e=>⟨m,a,e⟩⟩
end NH
namespace NH.P
open PySem L2 NH
section
local macro_rules | `(tactic| walk_at "grd") => `(tactic| first | decide | exact Or.inl (by decide) | exact Or.inr (by decide) | omega | (simp only [big, room]; omega) | fail)
local macro_rules | `(tactic| walk_at "go") => `(tactic| repeat' (first | (with_reducible refine ⟨_, rfl, ?_⟩) | (with_reducible refine ⟨?w, ?h, ?_⟩; case h => exact rfl) | (with_reducible refine And.intro ?_ ?_; walk_at "grd") | (with_reducible refine qR ?_ ?_; rfl) | (with_reducible refine qe ?_ ?_; rfl) | (with_reducible refine brn_neg ?_ ?_; decide) | (with_reducible refine zA ?_ ?_; decide) | fail))
variable {μ:Mem}{K:T->Mem->Prop}{Z:Xp}
theorem zk(k:K (.bl aB) μ):zP [.int i] μ K Z:=⟨rfl,k⟩
theorem Kw{i:Nat}(h:(rangeT n)[i]?=aA x):x=.int i/\(i:Int)<n:=by
 unfold rangeT at h;rw[cE] at h;cases q:(eX n.toNat)[i]? with
 |none=>rw[q] at h;cases h
 |some j=>
  rw[q] at h;obtain⟨a,e⟩:=bE.mp q;have e:i=j:=by simpa using e
  subst e;cases h;simp at a;exact⟨rfl,by omega⟩
theorem X8:(rangeT n).length=n.toNat:=by simp[rangeT]
noncomputable def CF(z:aH):Bool:=!(xL "abcdefghijklmnopqrstuvwxyz" z 0 (Str.length "abcdefghijklmnopqrstuvwxyz") 1).isEmpty
noncomputable def nj(z:aH):List aH:=z.cps.toList.map λc=>⟨#[c]⟩
theorem Ub(z:aH):ZO z=(nj z).map T.str:=by simp[ZO,nj]
theorem P5(z:aH):(nj z).length=z.length:=by simp[nj,Str.length]
def wm(z:aH):Bool:=decide (1<=(z.length:Int))&&decide ((z.length:Int)<=8)&&(nj z).all CF
theorem Wd{α:Type}(f:α->Bool):∀xs:List α,cU (xs.map λx=>T.bl (f x))=aA (xs.map f)
 |[]=>rfl
 |x::r=>by simp[cU,Wd f r]
theorem wj(c:z.length<=aT)(q:K (.bl (wm z)) μ):we [.str z] μ K Z:=by
 unfold we;refine⟨rfl,?_⟩;unfold wm at q;refine⟨c,?_⟩;refine zN (λb=>?_) (λb=>?_)
 .refine YK (λa=>?_) (λa=>?_)
  .show (ZO z).length<=aT/\_;rw[Ub];refine⟨by rw[bJ,P5];exact c,?_⟩;refine u9 (λx=>match x with|.str y=>.bl (CF y)|t=>t) (λx d k e=>?_) ?_
   .obtain⟨y,f,rfl⟩:=b7.mp d;exact⟨_,rfl,e⟩
   .rw[cT];refine⟨_,Wd CF (nj z),?_⟩;rw[decide_eq_true b,decide_eq_true a] at q;rw[pR];exact q
  .have q:K (.bl aC) μ:=by simpa[a] using q
   exact q
 .have q:K (.bl aC) μ:=by simpa[b] using q
  exact q
theorem K3(a:z.length<=aT)(h:wm z=b)(q:K (.bl b) μ):we [.str z] μ K Z:=wj a (by rw[h];exact q)
theorem yg{xs:List α}{k:Int}(h0:0<=k)(h1:k<xs.length):vW xs k=xs[k.toNat]?:=by
 unfold vW oK;rw[if_pos h0,if_pos h1];rfl
theorem Ja(h:(match t with|.int _=>aC|.mut _=>aC|.clo _ _=>aC|.obj _ _=>aC|_=>aB)=aB)(k:K (.bl aC) μ):zP [t] μ K Z:=by
 cases t<;>first|(cases h;done)|exact⟨rfl,k⟩
end
section
local macro_rules | `(tactic| walk_at "grd") => `(tactic| first | decide | exact Or.inl (by decide) | exact Or.inr (by decide) | omega | (simp only [big, room]; omega) | fail)
local macro_rules | `(tactic| walk_at "go") => `(tactic| repeat' (first | (with_reducible refine ⟨_, rfl, ?_⟩) | (with_reducible refine ⟨?w, ?h, ?_⟩; case h => exact rfl) | (with_reducible refine And.intro ?_ ?_; walk_at "grd") | (with_reducible refine qR ?_ ?_; rfl) | (with_reducible refine qe ?_ ?_; rfl) | (with_reducible refine brn_neg ?_ ?_; decide) | (with_reducible refine zA ?_ ?_; decide) | fail))
variable {μ μ1 μ2:Mem}{K:T->Mem->Prop}{Z:Xp}
def St (μ:Mem)(i:Nat):Prop:=∃a b c:Int,μ[i]?=aA (.lst [.int a,.int b,.int c])
structure Up(μ:Mem)(i:Nat)(μ':Mem):Prop where
 len:μ'.length=μ.length
 ot:∀j,j≠i->μ'[j]?=μ[j]?
 st:St μ' i
theorem Up.trans(a:Up μ i μ1)(b:Up μ1 i μ2):Up μ i μ2:=⟨b.len.trans a.len,λj h=>(b.ot j h).trans (a.ot j h),b.st⟩
theorem aG(h:μ[i]?=aA x):(μ.set i y)[i]?=aA y:=by
 have:=(bE.mp h).1;simp[this]
theorem Up.set(h:μ[i]?=aA x):Up μ i (μ.set i (.lst [.int a,.int b,.int c])):=⟨by simp,λj hj=>by rw[bR (bW hj)],a,b,c,aG h⟩
theorem zc:(μ++[x])[μ.length]?=aA x:=by rw[fP (bD _)];simp
theorem z8{i:Nat}(h:μ[i]?=aA o):(μ++[x])[i]?=aA o:=by
 rw[dP (bE.mp h).1];exact h
noncomputable abbrev bC(x y z:Int):T:=.obj 40 [(0,.int x),(1,.int y),(2,.int z)]
theorem qG(k:K (.bl (decide (1<=n))) μ):wX [.int n] μ K Z:=by
 unfold wX;refine⟨rfl,?_⟩;refine zk ?_;exact k
theorem QJ(c:1<=x)(b:1<=y)(a:1<=z)(q:K .non [.obj 40 [(0,.int x),(1,.int y),(2,.int z)]]):jo [.mut 0,.int x,.int y,.int z] [.obj 40 []] K Z:=by
 unfold jo;refine⟨rfl,?_⟩;refine qG ?_;refine qe c ?_;refine qG ?_;refine qe b ?_;refine qG ?_;refine qR a ?_;refine⟨_,_,rfl,by decide,_,_,rfl,(by (show (1:Nat)<900);decide),_,_,rfl,(by (show (2:Nat)<900);decide),?_⟩;exact q
end
section
local macro_rules | `(tactic| walk_at "grd") => `(tactic| first | decide | exact Or.inl (by decide) | exact Or.inr (by decide) | omega | (simp only [big, room]; omega) | fail)
local macro_rules | `(tactic| walk_at "go") => `(tactic| repeat' (first | (with_reducible refine ⟨_, rfl, ?_⟩) | (with_reducible refine ⟨?w, ?h, ?_⟩; case h => exact rfl) | (with_reducible refine And.intro ?_ ?_; walk_at "grd") | (with_reducible refine qR ?_ ?_; rfl) | (with_reducible refine qe ?_ ?_; rfl) | (with_reducible refine brn_neg ?_ ?_; decide) | (with_reducible refine zA ?_ ?_; decide) | fail))
variable {μ:Mem}{K:T->Mem->Prop}{Z:Xp}
theorem jA{ns:List Int}(hk:0<=k)(q:∀c,K (.int c) μ):ve [.lst (ns.map T.int),.int k] μ K Z:=by
 unfold ve;refine⟨rfl,?_⟩;refine zN (λh=>?_) (λh=>?_)
 .have a:k.toNat<ns.length:=by
   rw[bJ] at h;omega
  refine⟨.int ns[k.toNat],?_,q _⟩;rw[yg hk h,cE,fO a];rfl
 .exact q _
end
section
local macro_rules | `(tactic| walk_at "grd") => `(tactic| first | decide | exact Or.inl (by decide) | exact Or.inr (by decide) | omega | (simp only [big, room]; omega) | fail)
local macro_rules | `(tactic| walk_at "go") => `(tactic| repeat' (first | (with_reducible refine ⟨_, rfl, ?_⟩) | (with_reducible refine ⟨?w, ?h, ?_⟩; case h => exact rfl) | (with_reducible refine And.intro ?_ ?_; walk_at "grd") | (with_reducible refine qR ?_ ?_; rfl) | (with_reducible refine qe ?_ ?_; rfl) | (with_reducible refine brn_neg ?_ ?_; decide) | (with_reducible refine zA ?_ ?_; decide) | fail))
variable {μ μ1 μ2:Mem}{K:T->Mem->Prop}{Z:Xp}
theorem X5{tg:Tg}{τ:Sl}{x:T}{r:List T}{K:List T->Mem->Prop}(h:∃d,h_ tg x τ=aA d/\g d μ (λo μ1=>lv μ1/\(match o with
  |some y=>zV tg g lv τ r μ1 (λys μ2=>K (y::ys) μ2) Z
  |none=>zV tg g lv τ r μ1 K Z)) Z):zV tg g lv τ (x::r) μ K Z:=by
 obtain⟨d,e,h⟩:=h;unfold zV;refine⟨d,e,?_⟩;have:(λ(o:Option T) μ1=>lv μ1/\(match o with
  |some y=>zV tg g lv τ r μ1 (λys μ2=>K (y::ys) μ2) Z
  |none=>zV tg g lv τ r μ1 K Z))=λo μ1=>lv μ1/\(match o with
   |some y=>(zV tg g lv τ r μ1).bind λys μ2=>RE.ok (y::ys) μ2
   |none=>zV tg g lv τ r μ1) K Z:=by
  funext o μ1;cases o<;>rfl
 rw[this] at h;exact h
theorem T_{tg:Tg}{τ:Sl}{K:List T->Mem->Prop}(h:K [] μ):zV tg g lv τ [] μ K Z:=by
 unfold zV;exact h
structure Sy(y z:Int):Prop where
 y1:1<=y
 y2:y<=10000000000
 z1:1<=z
 z2:z<=10000000000
theorem uR(s:Sy y z)(q:K (.int (x*y*z)) μ):yq [bC x y z] μ K Z:=by
 obtain⟨d,c,b,a⟩:=s;unfold yq;refine⟨rfl,?_⟩;exact⟨.inr ⟨by unfold big;lia,by unfold big;lia⟩,.inr ⟨by unfold big;lia,by unfold big;lia⟩,q⟩
theorem k9(s:Sy y z)(hb:(decide (0<=n)&&decide (n<x*y*z))=b)(q:K (.bl b) μ):jj [bC x y z,.int n] μ K Z:=by
 subst hb;unfold jj;refine⟨rfl,?_⟩;refine uR s ?_;unfold qE;refine⟨rfl,?_⟩;refine zk ?_;refine zN (λh=>?_) (λh=>?_)
 .have q:K (.bl (decide (n<x*y*z))) μ:=by simpa[h] using q
  exact q
 .have q:K (.bl aC) μ:=by simpa[h] using q
  exact q
theorem Xa(s:Sy y z)(h:(match t with|.int _=>aC|.mut _=>aC|.clo _ _=>aC|.obj _ _=>aC|_=>aB)=aB)(q:K (.bl aC) μ):jj [bC x y z,t] μ K Z:=by
 unfold jj;refine⟨rfl,?_⟩;refine uR s ?_;unfold qE;refine⟨rfl,?_⟩;exact Ja h q
theorem QH(s:Sy y z)(h:(decide (0<=n)&&decide (n<x*y*z))=aB)(q:K .non μ):wa [bC x y z,.int n] μ K Z:=by
 unfold wa;refine⟨rfl,?_⟩;refine k9 s h ?_;exact q
end
section
local macro_rules | `(tactic| walk_at "grd") => `(tactic| first | decide | exact Or.inl (by decide) | exact Or.inr (by decide) | omega | (simp only [big, room]; omega) | fail)
local macro_rules | `(tactic| walk_at "go") => `(tactic| repeat' (first | (with_reducible refine ⟨_, rfl, ?_⟩) | (with_reducible refine ⟨?w, ?h, ?_⟩; case h => exact rfl) | (with_reducible refine And.intro ?_ ?_; walk_at "grd") | (with_reducible refine qR ?_ ?_; rfl) | (with_reducible refine qe ?_ ?_; rfl) | (with_reducible refine brn_neg ?_ ?_; decide) | (with_reducible refine zA ?_ ?_; decide) | fail))
variable {μ μ1 μ2:Mem}{K:T->Mem->Prop}{Z:Xp}
structure Gr where
 ho:aH
 h:Int
 f:Int
 u0:Int
 u:Int
 ct:Bool
noncomputable def Gr.L(G:Gr):T:=.tup [.int G.h,.int G.f,.int G.u0]
def Gr.O (G:Gr):MO:=.obj 42 [(5,.str G.ho),(6,G.L),(7,.int G.u),(8,.bl G.ct)]
noncomputable abbrev Gp:=Nat×Gr
abbrev Gp.t(p:Gp):T:=.mut p.1
structure Bk(μ:Mem)(c g:Nat)(sh:T)(ps:List Gp):Prop where
 com:μ[c]?=aA (.obj 43 [(9,sh),(10,.mut g)])
 lst:μ[g]?=aA (.lst (ps.map Gp.t))
 at_:∀p∈ps,μ[p.1]?=aA p.2.O
 nd:(ps.map (·.1)).Nodup
structure Ch(S:List Nat)(μ μ':Mem):Prop where
 len:μ.length<=μ'.length
 ot:∀i,i<μ.length->i∉S->μ'[i]?=μ[i]?
theorem Ch.refl:Ch S μ μ:=⟨bD _,λ_ _ _=>rfl⟩
theorem Ch.trans(a:Ch S μ μ1)(b:Ch S μ1 μ2):Ch S μ μ2:=⟨dG a.len b.len,λi h n=>(b.ot i (dC h a.len) n).trans (a.ot i h n)⟩
theorem Ch.mono(a:Ch S μ μ1)(h:∀x∈S,x∈d):Ch d μ μ1:=⟨a.len,λi hi n=>a.ot i hi λz=>n (h i z)⟩
theorem Ch.app:Ch [] μ (μ++[x]):=⟨by simp,λi h _=>dP h⟩
theorem Ch.set:Ch [i] μ (μ.set i x):=⟨by simp,λj h n=>by rw[bR];rintro rfl;exact n (by simp)⟩
theorem Ch.get(a:Ch S μ μ1)(h:μ[i]?=aA x)(n:i∉S):μ1[i]?=aA x:=(a.ot i (bE.mp h).1 n).trans h
theorem Bk.ch(B:Bk μ c g sh ps)(a:Ch S μ μ1)(h1:c∉S)(h2:g∉S)(d:∀p∈ps,p.1∉S):Bk μ1 c g sh ps:=
 ⟨a.get B.com h1,a.get B.lst h2,λp b=>a.get (B.at_ p b) (d p b),B.nd⟩
noncomputable def mt(G:Gr)(b e:Int):Bool:=decide ((if G.f<b then b else G.f)<(if e<G.u then e else G.u))
theorem vV:mt G b e=aB↔G.f<G.u/\G.f<e/\b<G.u/\b<e:=by
 unfold mt;rw[decide_eq_true_eq];split<;>split<;>lia
theorem Jy(h:¬(G.f<G.u/\G.f<e/\b<G.u/\b<e)):mt G b e=aC:=by
 cases q:mt G b e with
 |false=>rfl
 |true=>exact absurd (vV.mp q) h
theorem ZR(h:μ[a]?=aA G.O)(q:K (.bl (mt G b e)) μ):e_ [.mut a,.int b,.int e] μ K Z:=by
 unfold e_;refine⟨rfl,_,_,_,h,rfl,_,rfl,_,_,_,h,rfl,?_⟩;exact q
theorem qq{β:Type}{tg:Tg}{g:Sl->Mem->RE (Option T)}{lv:Mem->Prop}{τ:Sl}(t:β->T)(f:β->Option T){ps:List β}{K:List T->Mem->Prop}
  (h:∀p∈ps,∀k:Option T->Mem->Prop,k (f p) μ->∃d,h_ tg (t p) τ=aA d/\g d μ k Z) (k:K (ps.filterMap f) μ) (i:lv μ:=by trivial):zV tg g lv τ (ps.map t) μ K Z:=by
 induction ps generalizing K with
 |nil=>exact T_ k
 |cons x r c=>
  refine X5 ?_;refine h x dJ _ ⟨i,?_⟩;cases q:f x with
  |none=>
   rw[rL q] at k;exact c (λy b=>h y (cW _ b)) k
  |some y=>
   rw[rK q] at k;exact c (K:=λe a=>K (y::e) a) (λy b=>h y (cW _ b)) k
theorem Yj:∀{bs:List Gp},(∀p∈bs,μ[p.1]?=aA p.2.O)->fK (aX (za (eV 0) 6) (eC (.int 1))) μ (bs.map Gp.t) (bs.map (·.2.f))
 |[],_=>trivial
 |p::r,h=>⟨⟨_,_,_,h p dJ,rfl,_,rfl,rfl,rfl⟩,Yj λq a=>h q (cW _ a)⟩
theorem Zw{bs:List Gp}{m n:Int}{i0:Nat}(h:∀p∈bs,μ[p.1]?=aA p.2.O)(L:bs.length<64)(ht:μ[i0]?=aA (.tab 0))(q:∀b,m<=b->(∀p∈bs,mt p.2 b (b+n)=aC)->K (.int b) μ):wy [.lst (bs.map Gp.t),.int m,.int n] μ K Z:=by
 unfold wy;refine⟨rfl,?_⟩;refine⟨⟨i0,ht⟩,by rw[bJ];exact L,bs.map (·.2.f),Yj h,λQ l I=>?_⟩;have ez:(bs.map (·.2.f)).zip (bs.map Gp.t)=bs.map λp=>(p.2.f,Gp.t p):=by rw[List.zip_map',]
 rw[ez] at l;obtain⟨d,D,rfl⟩:=K8 l rfl;rw[cT,lb] at *;have s:∀p∈d,μ[p.1]?=aA p.2.O:=λp l=>h p (D.mem_iff.mp l);refine zG (λi y k=>∃b o,y=[aA (.lst (bs.map Gp.t)),aA (.int m),aA (.int n),aA (.int b),o]/\k=μ/\m<=b/\∀p∈d.take i,mt p.2 b (b+n)=aC) ⟨m,aE,rfl,rfl,fT _,by simp⟩ ?_ ?_
 .rintro i x y k r ⟨b,o,rfl,rfl,B,v⟩ N F;rw[cE] at r;cases c:d[i]? with
  |none=>rw[c] at r;cases r
  |some p=>
   rw[c] at r;cases r;have E:p∈d:=bK c;have J:i<d.length:=(bE.mp c).1;have et:d.take (i+1)=d.take i++[p]:=by rw[fM,c];rfl
   have H:∀g∈d.take i,g.2.f<=p.2.f:=λg a=>by
    obtain⟨j,w⟩:=fN.mp a;rw[Eh] at w;split at w
    .rename_i A;obtain⟨C,P⟩:=bE.mp w;obtain⟨G,M⟩:=bE.mp c;have:=(hQ.mp I) j i C G A;rw[P,M] at this;exact this
    .cases w
   refine⟨_,rfl,?_⟩;refine ZR (s p E) ?_;refine vp (λe=>?_) (λe=>?_)
   .refine⟨_,_,_,s p E,rfl,?_⟩;have e:=vV.mp e;refine F _ _ ⟨p.2.u,_,rfl,rfl,by omega,λg a=>?_⟩;rw[et] at a;rcases b_.mp a with a|a
    .have C:=v g a;have G:=H g a;refine Jy λz=>?_;have:mt g.2 b (b+n)=aB:=vV.mpr (by omega);rw[C] at this;cases this
    .rw[bU.mp a];exact Jy (by omega)
   .refine F _ _ ⟨b,_,rfl,rfl,B,λg a=>?_⟩;rw[et] at a;rcases b_.mp a with a|a
    .exact v g a
    .rw[bU.mp a];exact e
 .rintro y k ⟨b,o,rfl,rfl,B,v⟩;refine q b B λp l=>v p ?_;rw[bJ,gL (bD _)];exact D.mem_iff.mpr l
end
section
variable {μ:Mem}{K:T->Mem->Prop}{Z:Xp}
theorem QG:∀(kvs:List (Key×T)),(ze z (jV z t kvs)).isSome=aB:=by
 intro kvs;unfold jV;split
 .rename_i h;induction kvs with
  |nil=>simp at h
  |cons p r a=>
   rw[c8];unfold ze;by_cases e:p.1=z
   .rw[if_pos e,if_pos e];rfl
   .rw[if_neg e,if_neg e];exact a (by simpa[e] using h)
 .rename_i h;induction kvs with
  |nil=>simp[ze]
  |cons p r a=>
   have e:p.1≠z:=λe=>h (by simp[e]);rw[nW];unfold ze;rw[if_neg e];exact a λz=>h (by simp only[ms,nS];exact .inr z)
theorem VH(ne:y≠z):∀(kvs:List (Key×T)),(ze y (jV z t kvs)).isSome=(ze y kvs).isSome:=by
 intro kvs;unfold jV;split
 .rename_i h;clear h;induction kvs with
  |nil=>rfl
  |cons p r b=>
   rw[c8];unfold ze;by_cases e:p.1=z
   .rw[if_pos e];have a:p.1≠y:=λc=>ne (c.symm.trans e);rw[if_neg (show ¬(p.1,t).1=y from a),if_neg a];exact b
   .rw[if_neg e];by_cases a:p.1=y
    .rw[if_pos a,if_pos a]
    .rw[if_neg a,if_neg a];exact b
 .rename_i h;clear h;induction kvs with
  |nil=>
   show (ze y [(z,t)]).isSome=_;unfold ze;rw[if_neg (λw=>ne w.symm)];rfl
  |cons p r b=>
   rw[nW];unfold ze;by_cases a:p.1=y
   .rw[if_pos a,if_pos a]
   .rw[if_neg a,if_neg a];exact b
theorem Jv:(jV z t kvs).length<=kvs.length+1:=by
 unfold jV;split<;>simp
def nt (kvs:List (Key×T))(h:Int):Bool:=(ze (.inl h) kvs).isSome
theorem uo:∀(kvs:List (Key×T)),∃B:Int,∀h,nt kvs h=aB->h<B
 |[]=>⟨0,λh e=>by cases e⟩
 |(.inl a,t)::r=>by
  obtain⟨B,b⟩:=uo r;refine⟨if a<B then B else a+1,λh e=>?_⟩;unfold nt ze at e;by_cases z:(iY a:Key)=.inl h
  .have:a=h:=by injection z
   split<;>omega
  .rw[if_neg z] at e;have:=b h e;split<;>omega
 |(.inr a,t)::r=>by
  obtain⟨B,b⟩:=uo r;refine⟨B,λh e=>?_⟩;unfold nt ze at e;rw[if_neg (by intro z;cases z)] at e;exact b h e
theorem Q9{ps:List Gp}{g:Nat}{m n:Int}(A:μ[g]?=aA (.lst (ps.map Gp.t)))(h:∀p∈ps,μ[p.1]?=aA p.2.O)(L:ps.length<1000)
  (q:∀b d,0<=b->(∀p∈ps,p.2.h=b->mt p.2 m (m+n)=aC)->Ch [] μ d->K (.int b) d):vH [.mut g,.int m,.int n] μ K Z:=by
 have H:g<μ.length:=(bE.mp A).1;have E:∀p∈ps,p.1<μ.length:=λp y=>(bE.mp (h p y)).1;unfold vH;refine⟨rfl,_,z8 A,?_⟩;refine zG (λi j d=>∃c o,j=[aA (.mut g),aA (.int m),aA (.int n),aA (.mut μ.length),o,aE]/\d=μ++[.dic c]/\c.length<=i/\∀p∈ps.take i,mt p.2 m (m+n)=aB->nt c p.2.h=aB) ⟨[],aE,rfl,rfl,bD _,by simp⟩ ?_ ?_ ?_
 .rintro i x j d l ⟨c,o,rfl,rfl,G,r⟩ N v;rw[cE] at l;cases f:ps[i]? with
  |none=>rw[f] at l;cases l
  |some p=>
   rw[f] at l;cases l;have C:p∈ps:=bK f;have F:i<ps.length:=(bE.mp f).1;have et:ps.take (i+1)=ps.take i++[p]:=by rw[fM,f];rfl
   refine⟨_,rfl,?_⟩;refine ZR (z8 (h p C)) ?_;refine vp (λe=>?_) (λe=>?_)
   .refine⟨_,_,_,z8 (h p C),rfl,_,rfl,?_⟩;refine .inr ⟨_,zc,by unfold aT;lia,?_⟩;have es:(μ++[MO.dic c]).set μ.length (MO.dic (jV (.inl p.2.h) (.bl aB) c))=μ++[MO.dic (jV (.inl p.2.h) (.bl aB) c)]:=by
     rw[m_ _ _ (bD _)];simp
    rw[es];refine v _ _ ⟨_,_,rfl,rfl,dG Jv (by lia),λu a s=>?_⟩;by_cases z:u.2.h=p.2.h
    .rw[z];exact QG _
    .unfold nt;rw[VH (λw=>z (by injection w))];rw[et] at a;rcases b_.mp a with a|a
     .exact r u a s
     .rw[bU.mp a] at z;exact absurd rfl z
   .refine v _ _ ⟨c,_,rfl,rfl,by lia,λu a s=>?_⟩;rw[et] at a;rcases b_.mp a with a|a
    .exact r u a s
    .rw[bU.mp a,e] at s;cases s
 .rintro j d ⟨c,o,rfl,rfl,G,r⟩;rw[bJ,gL (bD _)] at r;obtain⟨B,J⟩:=uo c;refine YS (λk j d=>∃b:Int,0<=b/\k=(B-b).toNat/\j=[aA (.mut g),aA (.int m),aA (.int n),aA (.mut μ.length),o,aA (.int b)]/\d=μ++[.dic c]) (B-0).toNat ⟨0,fT _,rfl,rfl,rfl⟩ ?_;rintro k j d ⟨b,I,rfl,rfl,rfl⟩ N v;refine⟨_,zc,?_⟩;refine vp (λe=>?_) (λe=>?_)
  .have:=J b e;exact v _ _ _ (show (B-(b+1)).toNat<(B-b).toNat by lia) ⟨b+1,by lia,rfl,rfl,rfl⟩
  .refine q b _ I (λp y D=>?_) Ch.app;cases z:mt p.2 m (m+n) with
   |false=>rfl
   |true=>
    have:=r p y z;rw[D] at this;unfold nt at this;rw[e] at this;cases this
 .rintro i j d ⟨c,o,rfl,rfl,_⟩;exact z8 A
end
section
variable {μ μ1:Mem}{K:T->Mem->Prop}{Z:Xp}{c g i0:Nat}{x y z:Int}{ps:List Gp}
theorem VA(q:K (.bl (decide (0<=n)&&decide (n<b))) μ):qE [.int n,.int b] μ K Z:=by
 unfold qE;refine⟨rfl,?_⟩;refine zk ?_;refine zN (λh=>?_) (λh=>?_)
 .have q:K (.bl (decide (n<b))) μ:=by simpa[h] using q
  exact q
 .have q:K (.bl aC) μ:=by simpa[h] using q
  exact q
theorem vP(h0:0<=n)(h1:n<b)(q:K (.bl aB) μ):qE [.int n,.int b] μ K Z:=VA (by simpa[h0,h1] using q)
def QE (y:Int)(t:T):Prop:=t=.non\/∃h:Int,t=.int h/\0<=h/\h<y
theorem VU(B:Bk μ c g (bC x y z) ps)(d:ho.length<=aT)(h1:wm ho=aB)(h2:QE y hs)(e:1<=n)(q:K .non μ):qH [.mut c,.str ho,hs,.int m,.int n] μ K Z:=by
 unfold qH;refine⟨rfl,?_⟩;refine K3 d h1 ?_;have rest:qp (qS.drop 2) [aA (.mut c),aA (.str ho),aA hs,aA (.int m),aA (.int n)] μ (En.fn K Z):=by
  refine qG ?_;refine qR e ?_;refine zk ?_;exact q
 rcases h2 with rfl|⟨h,rfl,a,b⟩
 .exact rest
 .refine⟨_,_,_,B.com,rfl,?_⟩;refine vP a b ?_;exact rest
theorem y3(B:Bk μ c g (bC x y z) ps)(i:ps.length<=1000)(q:K (.lst ((ps.filter λp=>decide (p.2.h=h)).map Gp.t)) μ):q9 [.mut c,.int h] μ K Z:=by
 unfold q9;refine⟨rfl,_,_,_,B.com,rfl,_,B.lst,by rw[bJ];unfold aT;lia,?_⟩;refine qq Gp.t (λp=>if p.2.h=h then aA (Gp.t p) else aE) (λp f k a=>?_) ?_ B.lst
 .refine⟨_,rfl,_,_,_,B.at_ p f,rfl,_,rfl,?_⟩;refine vp (λe=>?_) (λe=>?_)
  .have e:p.2.h=h:=by simpa using e
   rw[if_pos e] at a;exact a
  .have e:¬p.2.h=h:=by simpa using e
   rw[if_neg e] at a;exact a
 .have e:ps.filterMap (λp=>if p.2.h=h then aA (Gp.t p) else aE)=(ps.filter λp=>decide (p.2.h=h)).map Gp.t:=by
   clear q B i;induction ps with
   |nil=>rfl
   |cons p r d=>
    by_cases z:p.2.h=h
    .rw[rK (b:=Gp.t p) (by rw[if_pos z]),wP (by simpa using z),c8,d]
    .rw[rL (by rw[if_neg z]),wE (by simpa using z),d]
  rw[e];exact q
theorem QI(B:Bk μ c g (bC x y z) ps)(ht:μ[i0]?=aA (.tab 0))(k:ps.length<64)(h2:QE y hs)
  (q:∀h b d,0<=h->m<=b->(∀h',hs=.int h'->h=h')->(∀p∈ps,p.2.h=h->mt p.2 b (b+n)=aC)->Ch [] μ d->K (.tup [.int h,.int b,.int (b+n)]) d):qv [.mut c,hs,.int m,.int n] μ K Z:=by
 unfold qv;refine⟨rfl,?_⟩;rcases h2 with rfl|⟨h,rfl,a,b⟩
 .refine⟨_,_,_,B.com,rfl,?_⟩;refine Q9 B.lst B.at_ (by lia) λh d o i ch=>?_;exact q h m d o (fT _) (λ_ e=>by cases e) i ch
 .refine⟨_,B.com,?_⟩;refine y3 B (by lia) ?_;refine Zw (i0:=i0) (λp f=>B.at_ p (eW.mp f).1) (t5 (rD ..) k) ht λb l i=>?_;exact q h b μ a l (λh' e=>by cases e;rfl) (λp f j=>i p (eW.mpr ⟨f,by simpa using j⟩)) Ch.refl
theorem Op(B:Bk μ c g (bC x y z) ps)(ht:μ[i0]?=aA (.tab 0))(t:ps.length<64)(h0:ho.length<=aT)(h1:wm ho=aB)(h2:QE y hs)(w:1<=n)
  (l:∀d,Ch [] μ d->Z 19 [] d)
  (q:∀h b d a,0<=h->h<y->0<=b->b+n<=x->(∀p∈ps,p.2.h=h->mt p.2 b (b+n)=aC)->μ.length<=a->Ch [g] μ d->Bk d c g (bC x y z) (ps++[(a,⟨ho,h,b,b+n,b+n,aC⟩)])->K (.tup [.int h,.int b,.int (b+n)]) d):ju [.mut c,.str ho,hs,.int m,.int n] μ K Z:=by
 unfold ju;refine⟨rfl,_,B.com,?_⟩;refine VU B h0 h1 h2 w ?_;refine⟨_,B.com,?_⟩;refine QI B ht t h2 λh b f u k r s ch=>?_;have B1:=B.ch ch (by simp) (by simp) (by simp);have j:0<=b:=by
  have:(0:Int)<=(if m<0 then 0 else m):=by split<;>lia
  lia
 refine⟨_,rfl,_,_,_,B1.com,rfl,?_⟩;refine zN (λe=>?_) (λe=>?_)
 .exact⟨by show (1:Nat)<=aT;decide,l _ ch⟩
 .refine⟨_,rfl,_,_,_,B1.com,rfl,?_⟩;refine zN (λA=>?_) (λA=>?_)
  .exact⟨by show (1:Nat)<=aT;decide,l _ ch⟩
  .refine⟨_,_,_,B1.com,rfl,⟨_,B1.lst⟩,?_⟩;have gl:g<f.length:=(bE.mp B1.lst).1;unfold xI;refine⟨rfl,_,_,zc,by show (0:Nat)<900;decide,_,_,aG zc,by show (1:Nat)<900;decide,_,rfl,_,_,aG (aG zc),by show (2:Nat)<900;decide,_,_,aG (aG (aG zc)),by show (3:Nat)<900;decide,rfl,?_⟩;have es:∀(μ:Mem) (a b:MO),(μ++[a]).set μ.length b=μ++[b]:=λμ a b=>by rw[m_ _ _ (bD _)];simp
   simp only[es];refine⟨_,z8 B1.lst,by rw[bJ];unfold aT;lia,?_⟩;refine q h b _ f.length u (by lia) j (by lia) s ch.len ?_ ?_
   .refine (ch.mono (by simp)).trans ((Ch.app.mono (by simp)).trans Ch.set)
   .have o:∀p∈ps,p.1≠g/\p.1<f.length:=λp i=>by
     refine⟨λe=>?_,(bE.mp (B1.at_ p i)).1⟩;have:=B1.at_ p i;rw[e,B1.lst] at this;cases this
    have cg:c≠g:=λe=>by
     have:=B1.com;rw[e,B1.lst] at this;cases this
    refine⟨?_,?_,λp i=>?_,?_⟩
    .rw[bR cg.symm];exact z8 B1.com
    .rw[dO];exact aG (z8 B1.lst)
    .rcases b_.mp i with i|i
     .rw[bR (o p i).1.symm];exact z8 (B1.at_ p i)
     .rw[bU.mp i,bR (by show g≠f.length;lia)];exact zc
    .rw[dO,lg];refine⟨B1.nd,by simp,λa v b k e=>?_⟩;obtain⟨p,i,rfl⟩:=b7.mp v;have k:b=f.length:=by simpa using k
     have:=(o p i).2;lia
end
section
variable {μ:Mem}{K:T->Mem->Prop}{Z:Xp}{c g:Nat}{x y z:Int}{ps:List Gp}
theorem FG{a b c f:Int}:c_ [.int a,.int b,.int c] [.int d,.int e,.int f]=aA (decide (a=d)&&(decide (b=e)&&decide (c=f))):=by
 have h:∀i j:Int,(i==j)=decide (i=j):=λi j=>by
  by_cases z:i=j<;>simp[z]
 simp[c_,eqT,h]
theorem Mo{c:Int}:wG [.int a,.int b,.int c]<=40:=by simp[wG,kB]
theorem kc{u:Int}(h0:0<=h)(h1:h<y)(f0:0<=f)(fu:f<u)(ux:u<=x)(q:K (.bl aB) μ):kA [bC x y z,.tup [.int h,.int f,.int u]] μ K Z:=by
 unfold kA;refine⟨rfl,_,rfl,?_⟩;refine vP h0 h1 ?_;refine⟨_,rfl,?_⟩;refine zk ?_;refine⟨_,rfl,?_⟩;refine zk ?_;refine⟨_,rfl,?_⟩;refine qe f0 ?_;refine⟨_,rfl,?_⟩;refine qe fu ?_;have q:K (.bl (decide (u<=x))) μ:=by rw[decide_eq_true ux];exact q
 exact q
theorem T2{u:Int}(B:Bk μ c g (bC x y z) ps)(h0:0<=h)(h1:h<y)(f0:0<=f)(fu:f<u)(ux:u<=x)
  (q:∀p∈ps,p.2.h=h->p.2.f=f->p.2.u0=u->p.2.ct=aC->K (.mut p.1) μ) (v:(∀p∈ps,p.2.h=h->p.2.f=f->p.2.u0=u->p.2.ct=aB)->Z 18 [] μ):v5 [.mut c,.tup [.int h,.int f,.int u]] μ K Z:=by
 unfold v5;refine⟨rfl,_,_,_,B.com,rfl,?_⟩;unfold qU;refine⟨rfl,?_⟩;refine kc h0 h1 f0 fu ux ?_;refine⟨_,_,_,B.com,rfl,_,B.lst,?_⟩;refine zG (λi m j=>∃o,m=[aA (.mut c),aA (.tup [.int h,.int f,.int u]),o]/\j=μ/\∀p∈ps.take i,p.2.h=h->p.2.f=f->p.2.u0=u->p.2.ct=aB) ⟨aE,rfl,rfl,by simp⟩ ?_ ?_ ?_
 .rintro i t m j l ⟨o,rfl,rfl,n⟩ N C;rw[cE] at l;cases k:ps[i]? with
  |none=>rw[k] at l;cases l
  |some p=>
   rw[k] at l;cases l;have r:p∈ps:=bK k;have et:ps.take (i+1)=ps.take i++[p]:=by rw[fM,k];rfl
   have next:(p.2.h=h->p.2.f=f->p.2.u0=u->p.2.ct=aB)->N [aA (.mut c),aA (.tup [.int h,.int f,.int u]),aA (.mut p.1)] j:=λA=>C _ _ ⟨_,rfl,rfl,λw d=>by
    rw[et] at d;rcases b_.mp d with d|d
    .exact n w d
    .rw[bU.mp d];exact A⟩
   refine⟨_,rfl,_,_,_,B.at_ p r,rfl,Mo,_,FG,?_⟩;refine vp (λe=>?_) (λe=>?_)
   .simp only[cO,decide_eq_true_eq] at e;refine⟨_,_,_,B.at_ p r,rfl,?_⟩;cases s:p.2.ct with
    |true=>exact next λ_ _ _=>s
    |false=>exact q p r e.1 e.2.1 e.2.2 s
   .refine next λa b c=>?_
    rw[decide_eq_true a,decide_eq_true b,decide_eq_true c] at e;cases e
 .rintro m j ⟨o,rfl,rfl,n⟩;rw[bJ,gL (bD _)] at n;exact⟨by show (1:Nat)<=aT;decide,v n⟩
 .rintro i m j ⟨o,rfl,rfl,_⟩;exact B.lst
def Ap (f u:Int)(t:T)(e:Int):Prop:=(t=.non/\e=f)\/∃s:Int,t=.int s/\f<=s/\s<u/\e=s+1
def dI (a:Nat)(e:Int)(ps:List Gp):List Gp:=ps.map λp=>if p.1=a then (p.1,{p.2 with u:=e,ct:=aB}) else p
theorem JX:(dI a e ps).map (·.1)=ps.map (·.1):=by
 unfold dI;rw[cT];refine m5 λp _=>?_;show (if p.1=a then _ else _:Gp).1=p.1;split<;>rfl
theorem NM:(dI a e ps).map Gp.t=ps.map Gp.t:=by
 have:=congrArg (nF T.mut) (JX (ps:=ps) (a:=a) (e:=e));simp only[cT] at this;exact this
theorem NJ(B:Bk μ c g (bC x y z) ps)(h0:0<=h)(h1:h<y)(f0:0<=f)(fu:f<u)(ux:u<=x)(O:Ap f u t e)(C:∃p∈ps,p.2.h=h/\p.2.f=f/\p.2.u0=u/\p.2.ct=aC)
  (q:∀p∈ps,p.2.h=h->p.2.f=f->p.2.u0=u->p.2.ct=aC->∀d,Ch [p.1] μ d->d.length=μ.length->Bk d c g (bC x y z) (dI p.1 e ps)->K .non d):jE [.mut c,.tup [.int h,.int f,.int u],t] μ K Z:=by
 unfold jE;refine⟨rfl,_,B.com,?_⟩;refine T2 B h0 h1 f0 fu ux (λp n G F E D=>?_) λP=>?_
 .have o:qp (jD.drop 2) [aA (.mut c),aA (.tup [.int h,.int f,.int u]),aA t,aA (.mut p.1),aA (.int e)] μ (En.fn K Z):=by
   have k:=B.at_ p n;refine⟨_,_,k,by show (4:Nat)<900;decide,_,_,aG k,by show (4:Nat)<900;decide,?_⟩;have es:∀(a b:MO),(μ.set p.1 a).set p.1 b=μ.set p.1 b:=λa b=>by rw[List.set_set]
   rw[es];have J:p.1≠g:=λz=>by rw[z,B.lst] at k;cases k
   have L:p.1≠c:=λz=>by
    rw[z,B.com] at k;have k:MO.obj 43 _=MO.obj 42 _:=bQ k;injection k with w _;exact absurd w (by decide)
   refine q p n G F E D _ Ch.set (by simp) ⟨?_,?_,λS A=>?_,?_⟩
   .rw[bR L];exact B.com
   .rw[bR J,NM];exact B.lst
   .obtain⟨l,m,rfl⟩:=b7.mp A;by_cases z:l.1=p.1
    .have:l=p:=by
      obtain⟨i,R⟩:=fN.mp m;obtain⟨j,Q⟩:=fN.mp n;obtain⟨N,I⟩:=bE.mp R;obtain⟨M,H⟩:=bE.mp Q;have:i=j:=(nZ (h₀:=by simpa using N) (h₁:=by simpa using M) B.nd).mp (by simp[I,H,z]);subst this;rw[<-I,<-H]
     subst this;rw[if_pos rfl];show (μ.set l.1 _)[l.1]?=_;rw[aG k];rfl
    .rw[if_neg z,bR (λw=>z w.symm)];exact B.at_ l m
   .rw[JX];exact B.nd
  rcases O with⟨rfl,rfl⟩|⟨s,rfl,v,r,rfl⟩
  .exact⟨_,rfl,o⟩
  .refine zk ?_;refine⟨_,rfl,?_⟩;refine qe v ?_;refine⟨_,rfl,?_⟩;refine qe r ?_;exact o
 .obtain⟨p,n,G,F,E,D⟩:=C;have:=P p n G F E;rw[D] at this;cases this
noncomputable def Gr.row(G:Gr):T:=.tup [.str G.ho,.int G.h,.int G.f,.int G.u]
theorem T5(B:Bk μ c g (bC x y z) ps)(e:ps.length<=1000)(q:K (.lst (ps.map λp=>p.2.row)) μ):wk [.mut c] μ K Z:=by
 unfold wk;refine⟨rfl,_,_,_,B.com,rfl,_,B.lst,by rw[bJ];unfold aT;lia,?_⟩;refine qq Gp.t (λp=>aA p.2.row) (λp b k d=>?_) (by rw[kw];exact q) B.lst;refine⟨_,rfl,?_⟩;have a:=B.at_ p b;refine⟨_,_,_,a,rfl,_,_,_,a,rfl,_,rfl,_,_,_,a,rfl,_,rfl,_,_,_,a,rfl,?_⟩;exact d
structure Sh(x y z:Int):Prop where
 x1:1<=x
 y1:1<=y
 y2:y<=5
 z1:1<=z
 z2:z<=12
theorem Sh.sy(s:Sh x y z):Sy y z:=⟨s.y1,by have:=s.y2;lia,s.z1,by have:=s.z2;lia⟩
theorem jF(h:∀(K:T->Mem->Prop) (Z:Xp),K (.bl b) μ->jj [sh,t] μ K Z)(q:if b then K .non μ else Z 13 [] μ):wa [sh,t] μ K Z:=by
 unfold wa;refine⟨rfl,?_⟩;refine h _ _ ?_;cases b with
 |true=>exact q
 |false=>exact⟨by show (1:Nat)<=aT;decide,q⟩
theorem S_(s:Sh x y z)(h0:0<=n)(h1:n<x*y*z)(q:K (.tup [.int (n / z / y),.int (n / z % y),.int (n % z)]) μ):qM [bC x y z,.int n] μ K Z:=by
 obtain⟨f,e,d,c,a⟩:=id s;unfold qM;refine⟨rfl,?_⟩;refine jF (b:=aB) (λK Z k=>k9 s.sy (by rw[decide_eq_true h0,decide_eq_true h1];rfl) k) ?_;refine⟨by lia,by lia,by lia,by lia,?_⟩;exact q
theorem RX(s:Sh x y z)(ht:(∃n:Int,t=.int n/\(n<0\/x*y*z<=n))\/(match t with|.int _=>aC|.mut _=>aC|.clo _ _=>aC|.obj _ _=>aC|_=>aB)=aB)(q:Z 13 [] μ):qM [bC x y z,t] μ K Z:=by
 unfold qM;refine⟨rfl,?_⟩;rcases ht with⟨n,rfl,h⟩|h
 .refine jF (b:=aC) (λK Z k=>k9 s.sy ?_ k) q;rcases h with h|h
  .rw[decide_eq_false (by lia)];rfl
  .rw[decide_eq_false (show ¬n<x*y*z by lia),pV]
 .exact jF (b:=aC) (λK Z k=>Xa s.sy h k) q
theorem YX(s:Sh x y z)(B:Bk μ c g (bC x y z) ps)(D:ps.length<=1000)(h0:0<=n)(h1:n<x*y*z)
  (q:∀p∈ps,p.2.h=n / z % y->mt p.2 (n / z / y) (n / z / y+1)=aB->K (.str p.2.ho) μ) (w:(∀p∈ps,p.2.h=n / z % y->mt p.2 (n / z / y) (n / z / y+1)=aC)->K .non μ):zJ [.mut c,.int n] μ K Z:=by
 unfold zJ;refine⟨rfl,_,_,_,B.com,rfl,?_⟩;refine S_ s h0 h1 ?_;refine⟨_,rfl,_,B.com,_,rfl,?_⟩;refine y3 B D ?_;generalize v:(ps.filter λp=>decide (p.2.h=n / z % y))=S;have mem:∀p∈S,p∈ps/\p.2.h=n / z % y:=λp l=>by
  rw[<-v] at l;obtain⟨a,b⟩:=eW.mp l;exact⟨a,by simpa using b⟩
 refine zG (λi u j=>∃o,u=[aA (.mut c),aA (.int n),aA (.tup [.int (n / z / y),.int (n / z % y),.int (n % z)]),aA (.int (n / z / y)),o]/\j=μ/\∀p∈S.take i,mt p.2 (n / z / y) (n / z / y+1)=aC) ⟨aE,rfl,rfl,by simp⟩ ?_ ?_
 .rintro i t u j k ⟨o,rfl,rfl,m⟩ N E;rw[cE] at k;cases f:S[i]? with
  |none=>rw[f] at k;cases k
  |some p=>
   rw[f] at k;cases k;have r:=mem p (bK f);have et:S.take (i+1)=S.take i++[p]:=by rw[fM,f];rfl
   refine⟨_,rfl,?_⟩;refine ZR (B.at_ p r.1) ?_;refine vp (λe=>?_) (λe=>?_)
   .exact⟨_,_,_,B.at_ p r.1,rfl,q p r.1 r.2 e⟩
   .refine E _ _ ⟨_,rfl,rfl,λC d=>?_⟩;rw[et] at d;rcases b_.mp d with d|d
    .exact m C d
    .rw[bU.mp d];exact e
 .rintro u j ⟨o,rfl,rfl,m⟩;rw[bJ,gL (bD _)] at m;refine w λp l A=>m p ?_;rw[<-v];exact eW.mpr ⟨l,by simpa using A⟩
theorem UN(s:Sh x y z)(B:Bk μ c g (bC x y z) ps)(ht:(∃n:Int,t=.int n/\(n<0\/x*y*z<=n))\/(match t with|.int _=>aC|.mut _=>aC|.clo _ _=>aC|.obj _ _=>aC|_=>aB)=aB)(q:Z 13 [] μ):zJ [.mut c,t] μ K Z:=by
 unfold zJ;refine⟨rfl,_,_,_,B.com,rfl,?_⟩;exact RX s ht q
end
section
variable {r:Nat}{x y z:Int}{ps:List Gp}
structure pz(x y:Int)(G:Gr):Prop where
 h0:0<=G.h
 h1:G.h<y
 f0:0<=G.f
 fu0:G.f<G.u0
 ux:G.u0<=x
 fu:G.f<=G.u
 uu:G.u<=G.u0
 op:G.ct=aC->G.u=G.u0
def Dj (p q:Gp):Prop:=p.2.h=q.2.h->mt p.2 q.2.f q.2.u=aC
structure Gd(x y:Int)(ps:List Gp):Prop where
 ok:∀p∈ps,pz x y p.2
 dj:ps.Pairwise Dj
theorem Dj.symm(h:Dj p q):Dj q p:=λe=>Jy λw=>by
 have:=h e.symm;have h2:mt p.2 q.2.f q.2.u=aB:=vV.mpr (by omega);rw[this] at h2;cases h2
theorem Gd.one(G:Gd x y ps){i j:Nat}{p q:Gp}(hi:ps[i]?=aA p)(hj:ps[j]?=aA q)(e:p.2.h=q.2.h)(m:p.2.f<p.2.u/\q.2.f<q.2.u/\p.2.f<q.2.u/\q.2.f<p.2.u):i=j:=by
 obtain⟨d,k⟩:=bE.mp hi;obtain⟨c,g⟩:=bE.mp hj;have no:∀{i j:Nat}{p q:Gp}(d:i<ps.length) (c:j<ps.length),ps[i]=p->ps[j]=q->p.2.h=q.2.h->(p.2.f<p.2.u/\q.2.f<q.2.u/\p.2.f<q.2.u/\q.2.f<p.2.u)->¬i<j:=λ{i j p q} d c k g e m l=>by
  have:=(hQ.mp G.dj) i j d c l;rw[k,g] at this;have h2:mt p.2 q.2.f q.2.u=aB:=vV.mpr (by lia);rw[this e] at h2;cases h2
 have a:=no d c k g e m;have b:=no c d g k e.symm (by lia);lia
theorem K7:∀{ps:List Gp}{i:Nat}{p:Gp},(ps.map (·.1)).Nodup->ps[i]?=aA p->dI p.1 e ps=ps.set i (p.1,{p.2 with u:=e,ct:=aB})
 |[],i,p,_,h=>by simp at h
 |q::r,0,p,a,h=>by
  have h:q=p:=by simpa using h
  subst h;rw[c8,iP] at a;show (if q.1=q.1 then _ else q)::dI q.1 e r=_;rw[if_pos rfl];have:dI q.1 e r=r:=by
   unfold dI;conv=>rhs;rw[<-Du r]
   refine m5 λp c=>?_;rw[if_neg (λ(z:p.1=q.1)=>a.1 (b7.mpr ⟨p,c,z⟩))];rfl
  rw[this];rfl
 |q::r,i+1,p,a,h=>by
  rw[c8,iP] at a;have h:r[i]?=aA p:=by simpa using h
  have b:q.1≠p.1:=λz=>a.1 (b7.mpr ⟨p,bK h,z.symm⟩);show (if q.1=p.1 then _ else q)::dI p.1 e r=_;rw[if_neg b,K7 a.2 h];rfl
theorem Gd.cut(G:Gd x y ps)(hi:ps[i]?=aA p)(h1:p.2.f<=e)(h2:e<=p.2.u):Gd x y (ps.set i (p.1,{p.2 with u:=e,ct:=aB})):=by
 have c:=G.ok p (bK hi);obtain⟨m,h⟩:=bE.mp hi;refine⟨λq d=>?_,?_⟩
 .rcases List.mem_or_eq_of_mem_set d with d|rfl
  .exact G.ok q d
  .exact⟨c.h0,c.h1,c.f0,c.fu0,c.ux,h1,mX h2 c.uu,λz=>by cases z⟩
 .rw[hQ];intro a b j hb g;rw[n_] at j hb;have:=(hQ.mp G.dj) a b j hb g;rw[ry,ry];split
  .rename_i l;subst l;rw[h] at this;rw[if_neg (by omega)];intro ee;have:=this ee;refine Jy λw=>?_;have w:p.2.f<e/\p.2.f<ps[b].2.u/\ps[b].2.f<e/\ps[b].2.f<ps[b].2.u:=w;have h2:mt p.2 ps[b].2.f ps[b].2.u=aB:=vV.mpr (by omega);rw[this] at h2;cases h2
  .split
   .rename_i k;subst k;rw[h] at this;intro ee;have:=this ee;refine Jy λw=>?_;have w:ps[a].2.f<ps[a].2.u/\ps[a].2.f<e/\p.2.f<ps[a].2.u/\p.2.f<e:=w;have h2:mt ps[a].2 p.2.f p.2.u=aB:=vV.mpr (by omega);rw[this] at h2;cases h2
   .exact this
theorem Gd.add(G:Gd x y ps)(d:pz x y q.2)(h:∀p∈ps,p.2.h=q.2.h->mt p.2 q.2.f q.2.u=aC):Gd x y (ps++[q]):=by
 refine⟨λp c=>?_,?_⟩
 .rcases b_.mp c with c|c
  .exact G.ok p c
  .rw[bU.mp c];exact d
 .rw[m6];exact⟨G.dj,by simp,λa e b hb=>by rw[bU.mp hb];exact h a e⟩
end
section
variable {μ:Mem}{K:T->Mem->Prop}{Z:Xp}{x y z:Int}
theorem Zo(q:K .non (μ++[.obj 43 [(9,sh),(10,.mut (μ.length+1))],.lst []])):vQ [.mut μ.length,sh] (μ++[.obj 43 []]) K Z:=by
 have es:∀(μ:Mem) (a b:MO),(μ++[a]).set μ.length b=μ++[b]:=λμ a b=>by rw[m_ _ _ (bD _)];simp
 unfold vQ;refine⟨rfl,_,_,zc,by show (0:Nat)<900;decide,?_⟩;rw[es];refine⟨_,_,z8 zc,by show (1:Nat)<900;decide,?_⟩;have d:∀(o a b:MO),((μ++[o])++[a]).set μ.length b=μ++[b,a]:=λo a b=>by
  rw[mq,m_ _ _ (bD _)];simp
 rw[d];have c:(μ++[MO.obj 43 [(9,sh)]]).length=μ.length+1:=by simp
 show K .non (μ++[MO.obj 43 (Xr 10 (T.mut (μ++[MO.obj 43 [(9,sh)]]).length) [(9,sh)]),.lst []]);rw[c];exact q
theorem vU(h0:0<=n)(h1:n<b)(q:K .non μ):wb [.int n,.int b] μ K Z:=by
 unfold wb;refine⟨rfl,?_⟩;refine vP h0 h1 ?_;exact q
theorem Ky(c:0<=m)(i:m<x)(h0:0<=h)(h1:h<y)(k0:0<=k)(k1:k<z):0<=(m*y+h)*z+k/\(m*y+h)*z+k<x*y*z/\((m*y+h)*z+k) / z=m*y+h/\(m*y+h) / y=m/\(m*y+h) % y=h:=by
 have a:((m*y+h)*z+k) / z=m*y+h/\((m*y+h)*z+k) % z=k:=(rq (by lia)).mpr ⟨by rw[jp z,pK],k0,k1⟩;have b:(m*y+h) / y=m/\(m*y+h) % y=h:=(rq (by lia)).mpr ⟨by rw[jp y,pK],h0,h1⟩;have g:0<=m*y:=tU c (by lia);have f:0<=(m*y+h)*z:=tU (by lia) (by lia);have e:m*y+y<=x*y:=by
  have:=iO (show m+1<=x by lia) (show 0<=y by lia);rw[tD,tB] at this;exact this
 have d:(m*y+h)*z+z<=x*y*z:=by
  have:=iO (show m*y+h+1<=x*y by lia) (show 0<=z by lia);rw[tD,tB] at this;exact this
 exact⟨by lia,by lia,a.1,b.1,b.2⟩
end
section
variable {μ:Mem}{K:T->Mem->Prop}{Z:Xp}{x y z:Int}{i:Nat}{sh kp bt:T}{ah sd:Int}
noncomputable abbrev Ls:=Int×Int×Int
def eL:Option Ls->T
 |none=>.non
 |some l=>.tup [.int l.1,.int l.2.1,.int l.2.2]
noncomputable def dR:Option Int->T
 |none=>.non
 |some m=>.int m
abbrev Ic(sh:T)(ah sd:Int)(kp:T)(l:Option Ls)(m n:Option Int)(bt:T)(fl:Bool):List (Nat×T):=[(9,sh),(14,.int ah),(15,.int sd),(16,kp),(6,eL l),(17,dR m),(18,dR n),(19,bt),(20,.bl fl)]
abbrev cL(sh:T)(ah sd:Int)(kp:T)(l:Option Ls)(m n:Option Int)(bt:T)(fl:Bool):MO:=.obj 45 (Ic sh ah sd kp l m n bt fl)
theorem MN:∀(l l':Option Ls),eqT (eL l) (eL l')=aA (decide (l=l'))
 |none,aE=>by simp[eL,eqT]
 |none,aA b=>by simp[eL,eqT]
 |some a,aE=>by simp[eL,eqT]
 |some (a,b,c),aA (d,e,f)=>by
  show eqT (.tup _) (.tup _)=_;simp only[eqT];rw[FG];simp[Bool.decide_and]
theorem LR:∀(l l':Option Int),eqT (dR l) (dR l')=aA (decide (l=l'))
 |none,aE=>by simp[dR,eqT]
 |none,aA b=>by simp[dR,eqT]
 |some a,aE=>by simp[dR,eqT]
 |some a,aA b=>by
  by_cases h:a=b
  .simp[dR,eqT,h]
  .simp[dR,eqT,h]
theorem Rq:c_ [eL l,dR m] [eL l',dR m']=aA (decide (l=l')&&decide (m=m')):=by
 simp[c_,MN,LR]
theorem Ts:wG [eL l,dR m]<=40:=by
 cases l<;>cases m<;>simp[eL,dR,wG,kB]
variable {l:Option Ls}{m n:Option Int}
theorem wC(h:μ[i]?=aA (cL sh ah sd kp l m n bt aC))(q:K .non μ):zR [.mut i] μ K Z:=by
 unfold zR;refine⟨rfl,_,_,_,h,rfl,?_⟩;exact q
theorem Pm(h:μ[i]?=aA (cL sh ah sd kp l m n bt aC))(q:K (.tup [eL l,dR m]) μ):jh [.mut i] μ K Z:=by
 unfold jh;refine⟨rfl,_,_,_,h,rfl,_,_,_,h,rfl,?_⟩;exact q
theorem ZV(h0:0<=h)(h1:h<y)(f0:0<=f)(fu:f<u)(ux:u<=x)(q:K .non μ):qU [bC x y z,.tup [.int h,.int f,.int u]] μ K Z:=by
 unfold qU;refine⟨rfl,?_⟩;refine kc h0 h1 f0 fu ux ?_;exact q
structure eT(x y:Int)(l:Ls):Prop where
 h0:0<=l.1
 h1:l.1<y
 f0:0<=l.2.1
 fu:l.2.1<l.2.2
 ux:l.2.2<=x
theorem jG(h:0<=a)(q:K (.bl aB) μ):qF [.int a] μ K Z:=by
 unfold qF;refine⟨rfl,?_⟩;refine zk ?_;have q:K (.bl (decide (0<=a))) μ:=by rw[decide_eq_true h];exact q
 exact q
structure Hz(x y z:Int):Prop where
 x1:1<=x
 y1:1<=y
 y2:y<=1000000
 z1:1<=z
 z2:z<=1000000
theorem Hz.sy(s:Hz x y z):Sy y z:=⟨s.y1,by have:=s.y2;lia,s.z1,by have:=s.z2;lia⟩
theorem uA(s:Hz x y z)(h0:0<=k)(h1:k<x*y*z)(q:K (.tup [.int (k / z / y),.int (k / z % y),.int (k % z)]) μ):qM [bC x y z,.int k] μ K Z:=by
 obtain⟨e,d,c,b,a⟩:=id s;unfold qM;refine⟨rfl,?_⟩;refine QH s.sy (by rw[decide_eq_true h0,decide_eq_true h1];rfl) ?_;refine⟨by lia,⟨by lia,by lia⟩,⟨by lia,by lia⟩,by lia,?_⟩;exact q
noncomputable def mz(y z h k:Int):Int:=if k / z % y<h then k / z / y*z else if h<k / z % y then (k / z / y+1)*z else k / z / y*z+k % z+1
theorem Zn(s:Hz x y z)(h0:0<=k)(h1:k<x*y*z)(q:K (.int (mz y z h k)) μ):vG [bC x y z,.int h,.int k] μ K Z:=by
 obtain⟨f,d,c,b,a⟩:=id s;unfold vG;refine⟨rfl,?_⟩;refine uA s h0 h1 ?_;refine⟨_,rfl,?_⟩;unfold mz at q;refine zN (λe=>?_) (λe=>?_)
 .rw[if_pos e] at q;refine⟨_,rfl,.inr ⟨by unfold big;lia,by unfold big;lia⟩,?_⟩;exact q
 .rw[if_neg e] at q;refine⟨_,rfl,?_⟩;refine zN (λe=>?_) (λe=>?_)
  .rw[if_pos e] at q;refine⟨_,rfl,.inr ⟨by unfold big;lia,by unfold big;lia⟩,?_⟩;exact q
  .rw[if_neg e] at q;refine⟨_,rfl,.inr ⟨by unfold big;lia,by unfold big;lia⟩,_,rfl,?_⟩;exact q
noncomputable abbrev ix(z r ah e:Int):Int:=(e-1) / z-(r+ah)
noncomputable abbrev QZ(h b e:Int):T:=.obj 44 [(11,.int h),(12,.int b),(13,.int e)]
end
section
variable {μ:Mem}{K:T->Mem->Prop}{Z:Xp}{x y z:Int}
noncomputable def eZ(y z h p:Int):Int:=(p / z*y+h)*z+p % z
def cF (y z h b k:Int):List Int:=(eX k.toNat).map λ(j:Nat)=>eZ y z h (b+j)
theorem XJ(s:Hz x y z)(b:0<=d)(a:d<x)(h0:0<=h)(h1:h<y)(k0:0<=k)(k1:k<z)(q:K (.int ((d*y+h)*z+k)) μ):Zc [bC x y z,.int d,.int h,.int k] μ K Z:=by
 obtain⟨i,g,f,e,c⟩:=id s;unfold Zc;refine⟨rfl,?_⟩;refine vU b a ?_;refine vU h0 h1 ?_;refine vU k0 k1 ?_;refine⟨.inr ⟨by unfold big;lia,by unfold big;lia⟩,.inr ⟨by unfold big;lia,by unfold big;lia⟩,?_⟩;exact q
theorem place_lt(s:Hz x y z)(h1:p<x*z):p / z<x:=by
 have:=s.z1;exact rB (by lia) h1
theorem ZZ(s:Hz x y z)(p0:0<=p)(p1:p<x*z)(h0:0<=h)(h1:h<y)(q:K (.int (eZ y z h p)) μ):y6 [bC x y z,.int h,.int p] μ K Z:=by
 obtain⟨e,d,c,b,a⟩:=id s;unfold y6;refine⟨rfl,⟨by lia,by lia⟩,by lia,?_⟩;exact XJ s (rj p0 (by lia)) (place_lt s p1) h0 h1 (io _ (by lia)) (ii _ (by lia)) q
theorem um(q:∀a b,K (.mut μ.length) (μ++[.lst [.int a,.int b,.int 0]])):j6 [.int c] μ K Z:=by
 unfold j6;refine⟨rfl,by decide,by decide,?_⟩;have e:=io c (show (2:Int)≠0 by decide);have d:=ii c (show (0:Int)<2 by decide);refine⟨.inr ⟨by unfold big;lia,by unfold big;lia⟩,?_⟩;exact q _ _
theorem SO(q:∀v:Int,K (.int v) μ):Ze [.int c,.int k] μ K Z:=by
 unfold Ze;refine⟨rfl,by decide,.inl (by unfold big;decide),.inr (by unfold big;decide),by decide,by decide,?_⟩;have b:∀a:Int,0<=a % 2147483629/\a % 2147483629<2147483629:=λa=>⟨io _ (by decide),ii _ (by decide)⟩;have bb:=λa=>b a;refine⟨.inl ⟨by have:=(b ((c % 2147483629+69621*k+1)*48271));unfold big;omega,by have:=(b ((c % 2147483629+69621*k+1)*48271));unfold big;omega⟩,by decide,by decide,.inl ⟨by have:=b ((c % 2147483629+69621*k+1)*48271 % 2147483629*((c % 2147483629+69621*k+1)*48271 % 2147483629 / 1009+69621));unfold big;omega,by have:=b ((c % 2147483629+69621*k+1)*48271 % 2147483629*((c % 2147483629+69621*k+1)*48271 % 2147483629 / 1009+69621));unfold big;omega⟩,by decide,by decide,?_⟩;generalize d:(c % 2147483629+69621*k+1)*48271 % 2147483629*((c % 2147483629+69621*k+1)*48271 % 2147483629 / 1009+69621) % 2147483629*((c % 2147483629+69621*k+1)*48271 % 2147483629*((c % 2147483629+69621*k+1)*48271 % 2147483629 / 1009+69621) % 2147483629 / 907+16807+k)=A;refine⟨.inl ⟨by have:=b A;unfold big;omega,by have:=b A;unfold big;omega⟩,by decide,?_⟩;exact q _
end
section
variable {x y z:Int}
theorem JK(j:0<=c)(i:c<z)(d0:0<=d)(g:d<z):a*z+c<b*z+d↔a<b\/(a=b/\c<d):=by
 have up:∀{p q:Int},p<q->p*z+z<=q*z:=λ{p q} h=>by
  have:=iO (show p+1<=q by lia) (show 0<=z by lia);rw[tD,tB] at this;exact this
 constructor
 .intro h;by_cases e:a<b
  .exact .inl e
  .by_cases f:a=b
   .subst f;exact .inr ⟨rfl,by lia⟩
   .have:=up (show b<a by lia);lia
 .rintro (h|⟨rfl,h⟩)
  .have:=up h;lia
  .lia
theorem Sx(k:Int)(y z:Int):k=(k / z / y*y+k / z % y)*z+k % z:=by
 have b:=oq k z;have a:=oq (k / z) y;rw[jp (k / z / y) y,a,jp (k / z) z];exact b.symm
theorem MZ(s:Hz x y z)(h0:0<=h)(h1:h<y):k<eZ y z h p↔mz y z h k<=p:=by
 obtain⟨G,F,E,D,C⟩:=id s;have q:=io k (show z≠0 by lia);have o:=ii k (show 0<z by lia);have n:=io p (show z≠0 by lia);have m:=ii p (show 0<z by lia);have i:=io (k / z) (show y≠0 by lia);have g:=ii (k / z) (show 0<y by lia);have ep:=oq p z;have ek:=Sx k y z;unfold eZ mz;conv=>lhs;lhs;rw[ek]
 rw[JK q o n m,JK i g h0 h1];have l:∀A:Int,A*z<=p↔A<=p / z:=λA=>(rF (by lia)).symm;have f:∀A B:Int,A*y+k / z % y=B*y+h↔A=B/\k / z % y=h:=λA B=>by
  have t:=JK (z:=y) (a:=A) (b:=B) (c:=k / z % y) (d:=h) i g h0 h1;have r:=JK (z:=y) (a:=B) (b:=A) (c:=h) (d:=k / z % y) h0 h1 i g;constructor
  .intro e;have I:¬(A<B\/(A=B/\k / z % y<h)):=λw=>by have:=t.mpr w;lia
   have H:¬(B<A\/(B=A/\h<k / z % y)):=λw=>by have:=r.mpr w;lia
   lia
  .rintro⟨rfl,e⟩;rw[e]
 rw[f];split
 .rename_i e;rw[l];lia
 .split
  .rename_i v u;rw[l];lia
  .rename_i v u;have J:k / z % y=h:=by lia
   have j:=JK (z:=z) (a:=k / z / y) (b:=p / z) (c:=k % z) (d:=p % z) q o n m;have:p=p / z*z+p % z:=by rw[jp];exact ep.symm
   constructor
   .intro w;have:=j.mpr (by lia);lia
   .intro w;have:=j.mp (by lia);lia
theorem YG(s:Hz x y z)(h0:0<=h)(h1:h<y)(r:p<q):eZ y z h p<eZ y z h q:=by
 obtain⟨o,n,m,l,k⟩:=id s;have i:=io p (show z≠0 by lia);have g:=ii p (show 0<z by lia);have f:=io q (show z≠0 by lia);have e:=ii q (show 0<z by lia);have u:p=p / z*z+p % z:=by rw[jp];exact (oq p z).symm
 have t:q=q / z*z+q % z:=by rw[jp];exact (oq q z).symm
 have j:=(JK (z:=z) (a:=p / z) (b:=q / z) (c:=p % z) (d:=q % z) i g f e).mp (by lia);unfold eZ;rw[JK i g f e];rcases j with w|⟨w,v⟩
 .have:=(JK (z:=y) (a:=p / z) (b:=q / z) (c:=h) (d:=h) h0 h1 h0 h1).mpr (.inl w);exact .inl this
 .rw[w];exact .inr ⟨rfl,v⟩
theorem Kl(s:Hz x y z)(h0:0<=h)(h1:h<y):eZ y z h p / z / y=p / z/\eZ y z h p / z % y=h/\eZ y z h p % z=p % z:=by
 obtain⟨j,i,g,f,e⟩:=id s;have d:=io p (show z≠0 by lia);have c:=ii p (show 0<z by lia);have a:((p / z*y+h)*z+p % z) / z=p / z*y+h/\((p / z*y+h)*z+p % z) % z=p % z:=(rq (by lia)).mpr ⟨by rw[jp z,pK],d,c⟩;have b:(p / z*y+h) / y=p / z/\(p / z*y+h) % y=h:=(rq (by lia)).mpr ⟨by rw[jp y,pK],h0,h1⟩;unfold eZ;rw[a.1,b.1,b.2,a.2];exact⟨rfl,rfl,rfl⟩
theorem MB(s:Hz x y z)(h0:0<=h)(h1:h<y)(p0:0<=p)(p1:p<x*z):0<=eZ y z h p/\eZ y z h p<x*y*z:=by
 obtain⟨e,d,c,b,a⟩:=id s;have:=Ky (x:=x) (y:=y) (z:=z) (rj p0 (show 0<=z by lia)) (place_lt s p1) h0 h1 (io p (show z≠0 by lia)) (ii p (show 0<z by lia));exact⟨this.1,this.2.1⟩
end
section
variable {μ:Mem}{K:T->Mem->Prop}{Z:Xp}{x y z h:Int}{n:Option Int}{a:Ls}{r k:Int}{c:Nat}
theorem yM:(cF y z h b k).length=k.toNat:=by unfold cF;simp
theorem Pj(h1:0<=k1)(h2:0<=k2):cF y z h b (k1+k2)=cF y z h b k1++cF y z h (b+k1) k2:=by
 unfold cF;have e:(k1+k2).toNat=k1.toNat+k2.toNat:=by lia
 rw[e,List.range_add,dO,cT];congr 1;refine m5 λj _=>?_;show eZ y z h (b+((k1.toNat+j:Nat):Int))=eZ y z h (b+k1+(j:Int));congr 1;push_cast;lia
theorem K5:cF y z h b 0=[]:=rfl
theorem U6(hk:b<=e):kb b e 1=(eX (e-b).toNat).map λ(j:Nat)=>T.int (b+j):=by
 unfold kb;by_cases c:b<e
 .rw[if_pos c];have:(e-b-1) / 1+1=e-b:=by rw[DH];lia
  rw[this];simp
 .rw[if_neg c];have:(e-b).toNat=(0:Int).toNat:=by lia
  rw[this];rfl
theorem uH(s:Hz x y z)(hb:x*z<1000000000000000000000000000000000000000000000000000000000000)(b0:0<=b)(be:b<=e)(k2:e-b<=1000)(ex:e<=x*z)(h0:0<=h)(h1:h<y)(q:K (.mut μ.length) (μ++[.lst ((cF y z h b (e-b)).map T.int)])):qc [bC x y z,QZ h b e] μ K Z:=by
 unfold qc;refine⟨rfl,⟨⟨by lia,by lia⟩,⟨by lia,by lia⟩⟩,?_⟩;rw[U6 be];refine⟨by rw[bJ,v4];unfold aT;lia,?_⟩;refine qq (λ(j:Nat)=>T.int (b+j)) (λ(j:Nat)=>aA (T.int (eZ y z h (b+j)))) (λj c d a=>?_) ?_ trivial
 .have c:j<(e-b).toNat:=lP.mp c;refine⟨_,rfl,?_⟩;exact ZZ s (by lia) (by lia) h0 h1 a
 .rw[kw];unfold cF at q;rw[cT] at q;exact q
theorem yG:∀ns:List Int,cP (ns.map T.int)=aA ns
 |[]=>rfl
 |n::r=>by show (cP (r.map T.int)).map (n::·)=_;rw[yG r];rfl
theorem QA{α:Type}(A B C:List α)(n a:Nat)(c:A.length=a)(b:(B=[]/\a<=n)\/n=a):(A++(B++C)).take n=A++C.take (n-a)/\(A++(B++C)).drop n=B++C.drop (n-a):=by
 subst c;rcases b with⟨rfl,h⟩|rfl
 .rw[rh,List.take_append,List.drop_append,gL h,List.drop_of_length_le h];exact⟨rfl,rfl⟩
 .rw[Nat.sub_self,List.take_left,List.drop_left];simp
end
section
variable {μ:Mem}
local macro_rules | `(tactic| walk_at "bat") => `(tactic| (refine ⟨rfl, ?_⟩; (try unfold qT); refine ⟨rfl, ?_⟩; refine ⟨_, _, rfl, by show (0 : Nat) < 900; decide, ?_⟩; refine ⟨_, _, rfl, by show (1 : Nat) < 900; decide, ?_⟩; refine ⟨_, _, rfl, by show (2 : Nat) < 900; decide, ?_⟩; refine ⟨rfl, _, rfl, rfl, ?_⟩))
theorem MQ{A a B:MO}:(μ++[A]++[B]).set μ.length a=μ++[a]++[B]:=by
 rw[mq,m_ _ _ (bD _)];simp
theorem MK{A B a:MO}:(μ++[A]++[B]).set (μ++[A]).length a=μ++[A]++[a]:=by
 rw[m_ _ _ (bD _)];simp
end
section
variable {μ μ1 μ2:Mem}{K:T->Mem->Prop}{Z:Xp}{y h:Int}{i bi:Nat}{sh kp:T}{ah sd:Int}{a:Ls}
theorem Ch.ge(a:Ch [] μ μ1)(b:Ch S μ1 μ2)(h:∀j∈S,μ.length<=j):Ch [] μ μ2:=
 ⟨dG a.len b.len,λj hj _=>(b.ot j (dC hj a.len) λw=>absurd (h j w) (by lia)).trans (a.ot j hj (by simp))⟩
theorem SV(ho:μ[i]?=aA (.obj 45 []))(c:0<=ah)(hs:0<=sd)(q:∀d bi,Ch [i] μ d->μ.length<=bi->d[i]?=aA (cL sh ah sd kp aE aE aE (.mut bi) aC)->d[bi]?=aA (.lst [])->K .non d) :
  qo [.mut i,sh,.int ah,.int sd,kp,.non] μ K Z:=by
 have b:=(bE.mp ho).1;unfold qo;refine⟨rfl,?_⟩;refine jG c ?_;refine jG hs ?_;refine⟨_,_,ho,by show (0:Nat)<900;decide,?_⟩;refine⟨_,_,aG ho,by show (1:Nat)<900;decide,?_⟩;refine⟨_,_,aG (aG ho),by show (2:Nat)<900;decide,?_⟩;refine⟨_,_,aG (aG (aG ho)),by show (3:Nat)<900;decide,?_⟩;refine⟨_,_,aG (aG (aG (aG ho))),by show (4:Nat)<900;decide,?_⟩;refine⟨_,_,aG (aG (aG (aG (aG ho)))),by show (5:Nat)<900;decide,?_⟩;refine⟨_,_,aG (aG (aG (aG (aG (aG ho))))),by show (6:Nat)<900;decide,?_⟩;have a:=aG (y:=.obj 45 [(9,sh),(14,.int ah),(15,.int sd),(16,kp),(6,.non),(17,.non),(18,.non)]) (aG (y:=.obj 45 [(9,sh),(14,.int ah),(15,.int sd),(16,kp),(6,.non),(17,.non)]) (aG (y:=.obj 45 [(9,sh),(14,.int ah),(15,.int sd),(16,kp),(6,.non)]) (aG (y:=.obj 45 [(9,sh),(14,.int ah),(15,.int sd),(16,kp)]) (aG (y:=.obj 45 [(9,sh),(14,.int ah),(15,.int sd)]) (aG (y:=.obj 45 [(9,sh),(14,.int ah)]) (aG (y:=.obj 45 [(9,sh)]) ho))))));refine⟨_,_,z8 a,by show (7:Nat)<900;decide,?_⟩;refine⟨_,_,aG (z8 a),by show (8:Nat)<900;decide,?_⟩;refine q _ _ ((((((((((Ch.set.trans Ch.set).trans Ch.set).trans Ch.set).trans Ch.set).trans Ch.set).trans Ch.set).trans (Ch.app.mono (by simp))).trans Ch.set).trans Ch.set)) ?_ (aG (aG (z8 a))) ?_
 .simp
 .rw[bR (by simp;lia),bR (by simp;lia)];exact zc
end
section
variable {μ:Mem}{K:T->Mem->Prop}{Z:Xp}{x y z:Int}{i bi:Nat}{kp bt:T}{ah sd:Int}{l:Option Ls}{m n:Option Int}{a:Ls}{k h:Int}
def Jq(y z h:Int)(n m:Option Int):Int:=match n with
 |some k=>mz y z h k
 |none=>(match m with|none=>0|some a=>(a+1)*z)
theorem JF(s:Hz x y z)(ho:μ[i]?=aA (cL (bC x y z) ah sd kp (aA a) m n bt aC))(b:∀k,n=aA k->0<=k/\k<x*y*z)(q:K (.int (Jq y z a.1 n m)) μ):qJ [.mut i] μ K Z:=by
 obtain⟨g,f,e,d,c⟩:=id s;unfold qJ;refine⟨rfl,_,_,_,ho,rfl,?_⟩;cases n with
 |some k=>
  refine⟨_,_,_,ho,rfl,_,_,_,ho,rfl,_,rfl,_,_,_,ho,rfl,?_⟩;exact Zn s (b k rfl).1 (b k rfl).2 q
 |none=>
  refine⟨_,_,_,ho,rfl,?_⟩;cases m with
  |none=>exact q
  |some h=>
   refine⟨_,_,_,ho,rfl,_,_,_,ho,rfl,.inr ⟨by unfold big;lia,by unfold big;lia⟩,?_⟩;exact q
theorem KC(b:∀v,m=aA v->0<=v/\v<x)(c:∀v,l=aA v->eT x y v)(q:K (.bl aB) μ):Zf [bC x y z,.tup [eL l,dR m]] μ K Z:=by
 unfold Zf;refine⟨rfl,_,rfl,?_⟩;have a:qp (ud.drop 2) [aA (bC x y z),aA (.tup [eL l,dR m])] μ (En.fn K Z):=by
  refine⟨_,rfl,?_⟩;cases m with
  |none=>exact q
  |some v=>
   refine⟨_,rfl,?_⟩;exact vP (b v rfl).1 (b v rfl).2 q
 cases l with
 |none=>exact a
 |some v=>
  have ok:=c v rfl;refine⟨_,rfl,?_⟩;exact kc ok.h0 ok.h1 ok.f0 ok.fu ok.ux a
theorem Ud(ho:μ[i]?=aA (.obj 45 []))(f:0<=ah)(hs:0<=sd)(b:∀v,m=aA v->0<=v/\v<x)(c:∀v,l=aA v->eT x y v)(q:∀d bi,Ch [i] μ d->μ.length<=bi->d[i]?=aA (cL (bC x y z) ah sd kp l m aE (.mut bi) aC)->d[bi]?=aA (.lst [])->K .non d) :
  qo [.mut i,bC x y z,.int ah,.int sd,kp,.tup [eL l,dR m]] μ K Z:=by
 have e:=(bE.mp ho).1;unfold qo;refine⟨rfl,?_⟩;refine jG f ?_;refine jG hs ?_;refine KC b c ?_;refine⟨_,_,ho,by show (0:Nat)<900;decide,_,_,aG ho,by show (1:Nat)<900;decide,_,_,aG (aG ho),by show (2:Nat)<900;decide,_,_,aG (aG (aG ho)),by show (3:Nat)<900;decide,_,rfl,_,_,aG (aG (aG (aG ho))),by show (4:Nat)<900;decide,_,rfl,_,_,aG (aG (aG (aG (aG ho)))),by show (5:Nat)<900;decide,_,_,aG (aG (aG (aG (aG (aG ho))))),by show (6:Nat)<900;decide,?_⟩;have a:=aG (y:=.obj 45 [(9,bC x y z),(14,.int ah),(15,.int sd),(16,kp),(6,eL l),(17,dR m),(18,.non)]) (aG (y:=.obj 45 [(9,bC x y z),(14,.int ah),(15,.int sd),(16,kp),(6,eL l),(17,dR m)]) (aG (y:=.obj 45 [(9,bC x y z),(14,.int ah),(15,.int sd),(16,kp),(6,eL l)]) (aG (y:=.obj 45 [(9,bC x y z),(14,.int ah),(15,.int sd),(16,kp)]) (aG (y:=.obj 45 [(9,bC x y z),(14,.int ah),(15,.int sd)]) (aG (y:=.obj 45 [(9,bC x y z),(14,.int ah)]) (aG (y:=.obj 45 [(9,bC x y z)]) ho))))));refine⟨_,_,z8 a,by show (7:Nat)<900;decide,_,_,aG (z8 a),by show (8:Nat)<900;decide,?_⟩;refine q _ _ ((((((((((Ch.set.trans Ch.set).trans Ch.set).trans Ch.set).trans Ch.set).trans Ch.set).trans Ch.set).trans (Ch.app.mono (by simp))).trans Ch.set).trans Ch.set)) ?_ (aG (aG (z8 a))) ?_
 .simp
 .rw[bR (by simp;lia),bR (by simp;lia)];exact zc
noncomputable def yD(f u:Int):Option Int->Option Int
 |none=>aE
 |some v=>if v<f then aE else aA (if u-1<v then u-1 else v)
theorem Xd(q:K (dR (yD a.2.1 a.2.2 o)) μ):Za [eL (aA a),dR o] μ K Z:=by
 unfold Za;refine⟨rfl,?_⟩;cases o with
 |none=>exact q
 |some v=>
  refine⟨_,rfl,?_⟩;have q:K (dR (if v<a.2.1 then aE else aA (if a.2.2-1<v then a.2.2-1 else v))) μ:=q;refine zN (λe=>?_) (λe=>?_)
  .rw[if_pos e] at q;exact q
  .rw[if_neg e] at q;refine⟨_,rfl,?_⟩;exact q
noncomputable def Vb(y z:Int)(n m:Option Int):Option Int:=match n with
 |none=>m
 |some k=>aA (k / z / y)
theorem Zi(s:Hz x y z)(ho:μ[i]?=aA (cL (bC x y z) ah sd kp l m n bt aC))(a:∀k,n=aA k->0<=k/\k<x*y*z)(q:K (dR (Vb y z n m)) μ):qw [.mut i] μ K Z:=by
 unfold qw;refine⟨rfl,_,_,_,ho,rfl,?_⟩;cases n with
 |none=>
  refine⟨_,_,_,ho,rfl,?_⟩;exact q
 |some k=>
  refine⟨_,_,_,ho,rfl,_,_,_,ho,rfl,?_⟩;refine uA s (a k rfl).1 (a k rfl).2 ?_;refine⟨_,rfl,?_⟩;exact q
end
section
variable {μ:Mem}{K:T->Mem->Prop}{Z:Xp}{x y z:Int}{i:Nat}{kp bt:T}{ah sd:Int}{l:Option Ls}{m n:Option Int}{a:Ls}
noncomputable def gV(a b:Int):Int:=if b<a then b else a
def mC (x sd:Int)(m:Option Int)(a:Int):Int:=match m with
 |none=>gV (a+sd) (x-1)
 |some v=>if a<=v then v else gV (a+sd) (x-1)
theorem Pl(ho:μ[i]?=aA (cL (bC x y z) ah sd kp l m n bt aC))(q:K (.int (mC x sd m d)) μ):qA [.mut i,.int d] μ K Z:=by
 unfold qA;refine⟨rfl,_,_,_,ho,rfl,?_⟩;have a:∀b:Sl,b=[aA (.mut i),aA (.int d)]->K (.int (gV (d+sd) (x-1))) μ->qp (qK.drop 1) b μ (En.fn K Z):=λb e q=>by
  subst e;refine⟨_,_,_,ho,rfl,_,_,_,ho,rfl,?_⟩;exact q
 cases m with
 |none=>exact a _ rfl q
 |some c=>
  refine⟨_,_,_,ho,rfl,?_⟩;have q:K (.int (if d<=c then c else gV (d+sd) (x-1))) μ:=q;refine zN (λe=>?_) (λe=>?_)
  .rw[if_pos e] at q;refine⟨_,_,_,ho,rfl,?_⟩;exact q
  .rw[if_neg e] at q;exact a _ rfl q
end
section
variable {μ:Mem}{K:T->Mem->Prop}{Z:Xp}{x y z:Int}{i:Nat}{kp bt:T}{ah sd:Int}{m n:Option Int}{a:Ls}{r k h:Int}
def zj (y z:Int)(a:Ls)(n m:Option Int)(r:Int):Int:=if Jq y z a.1 n m<(if a.2.1<r then r else a.2.1)*z then (if a.2.1<r then r else a.2.1)*z else Jq y z a.1 n m
theorem SA(s:Hz x y z)(h:μ[i]?=aA (cL (bC x y z) ah sd kp (aA a) m n bt aC))(g:∀k,n=aA k->0<=k/\k<x*y*z)(k1:1<=k)(k2:k<=z)
  (f:a.2.2*z<zj y z a n m r+k->Z 18 [] μ)
  (d:zj y z a n m r+k<=a.2.2*z->0<ix z r ah (zj y z a n m r+k)->(ix z r ah (zj y z a n m r+k)).natAbs.log2<1920/\Z 21 [(29,.int (ix z r ah (zj y z a n m r+k)))] μ)
  (c:zj y z a n m r+k<=a.2.2*z->ix z r ah (zj y z a n m r+k)<=0->K (QZ a.1 (zj y z a n m r) (zj y z a n m r+k)) μ) :
  qf [.mut i,.int r,.int k] μ K Z:=by
 obtain⟨q,p,o,l,j⟩:=id s;unfold qf;refine⟨rfl,?_⟩;refine qG ?_;rw[decide_eq_true k1];refine⟨_,_,_,h,rfl,?_⟩;refine zA (by lia) ?_;refine zk ?_;refine⟨_,h,?_⟩;unfold zC;refine⟨rfl,_,_,_,h,rfl,_,_,_,h,rfl,_,rfl,_,_,_,h,rfl,.inr ⟨by unfold big;lia,by unfold big;lia⟩,_,h,?_⟩;refine JF s h g ?_;refine⟨_,_,_,h,rfl,_,rfl,_,_,_,h,rfl,.inr ⟨by unfold big;lia,by unfold big;lia⟩,?_⟩;refine zN (λe=>?_) (λe=>?_)
 .exact⟨by show (1:Nat)<=aT;decide,f e⟩
 .have e:zj y z a n m r+k<=a.2.2*z:=by
   have:¬a.2.2*z<zj y z a n m r+k:=e;lia
  refine⟨_,_,_,h,rfl,⟨by lia,by lia⟩,_,_,_,h,rfl,?_⟩;refine zN (λb=>?_) (λb=>?_)
  .exact d e b
  .refine⟨_,_,_,h,rfl,_,rfl,rfl,?_⟩;unfold qT;refine⟨rfl,_,_,rfl,by show (0:Nat)<900;decide,_,_,rfl,by show (1:Nat)<900;decide,_,_,rfl,by show (2:Nat)<900;decide,rfl,_,rfl,rfl,?_⟩;refine c e ?_;have b:¬0<ix z r ah (zj y z a n m r+k):=b;lia
theorem yi(s:Hz x y z)(ok:eT x y a):0<=zj y z a n m r:=by
 obtain⟨g,f,d,c,b⟩:=id s;have h:=ok.f0;have w:0<=(if a.2.1<r then r else a.2.1)*z:=tU (by split<;>lia) (by lia);unfold zj;by_cases e:Jq y z a.1 n m<(if a.2.1<r then r else a.2.1)*z
 .rw[if_pos e];exact w
 .rw[if_neg e];exact mX w (Int.not_lt.mp e)
end
section
variable {μ:Mem}{K:T->Mem->Prop}{Z:Xp}{x y z:Int}{i si:Nat}{sh bt ck hs kt:T}{ah sd:Int}{l l':Option Ls}{m m' n:Option Int}{a:Ls}{r k h:Int}
abbrev su(l:Option Ls)(m:Option Int):T:=.tup [eL l,dR m]
noncomputable abbrev zW(ck hs kt:T):MO:=.obj 46 [(21,ck),(11,hs),(22,kt)]
abbrev d_(si:Nat):T:=UK 0 1 [.mut si]
theorem Ob(h:μ[si]?=aA (zW ck hs kt))(q:K .non (μ.set si (zW ck hs t))):kn [.mut si,t] μ K Z:=by
 unfold kn;refine⟨rfl,?_⟩;exact⟨_,_,h,by show (3:Nat)<900;decide,q⟩
theorem Me(ho:μ[i]?=aA (cL sh ah sd (d_ si) l m n bt aC))(c:μ[si]?=aA (zW ck hs kt))
  (j:l'=l->m'=m->K .non μ)
  (h:∀d,Ch [i,si] μ d->d.length=μ.length->d[i]?=aA (cL sh ah sd (d_ si) l' m' n bt aC)->d[si]?=aA (zW ck hs (su l' m'))->K .non d) :
  qk [.mut i,eL l',dR m'] μ K Z:=by
 have a:si≠i:=λw=>by rw[w,ho] at c;cases c
 unfold qk;refine⟨rfl,_,ho,?_⟩;refine Pm ho ?_;refine⟨Ts,_,Rq,?_⟩;refine vp (λe=>?_) (λe=>?_)
 .simp only[cO,decide_eq_true_eq] at e;exact j e.1 e.2
 .refine⟨_,_,ho,by show (9:Nat)<900;decide,?_⟩;have g:=aG (y:=cL sh ah sd (d_ si) l m n bt aB) ho;have f:(μ.set i (cL sh ah sd (d_ si) l m n bt aB))[si]?=aA (zW ck hs kt):=by rw[bR (bW a)];exact c
  refine⟨_,_,_,g,rfl,⟨0,(1,_),[.mut si]⟩,⟨rfl,rfl⟩,_,f,?_⟩;refine Ob f ?_;have b:((μ.set i (cL sh ah sd (d_ si) l m n bt aB)).set si (zW ck hs (su l' m')))[i]?=aA (cL sh ah sd (d_ si) l m n bt aB):=by rw[bR a];exact g
  have k:=aG (y:=zW ck hs (su l' m')) f;refine⟨_,_,b,by show (9:Nat)<900;decide,_,_,aG b,by show (9:Nat)<900;decide,_,_,aG (aG b),by show (9:Nat)<900;decide,?_⟩;refine h _ (((((Ch.set.mono (by simp)).trans (Ch.set.mono (by simp))).trans (Ch.set.mono (by simp))).trans (Ch.set.mono (by simp))).trans (Ch.set.mono (by simp))) (by simp) (aG (aG (aG b))) ?_;rw[bR (bW a),bR (bW a),bR (bW a)];exact k
theorem OJ{v:Int}(h0:0<v)(h1:v<1000000000000000000):v.natAbs.log2<1920:=by
 have a:v.natAbs<2 ^ 60:=by
  have:(2:Nat) ^ 60=1152921504606846976:=by decide
  omega
 rw[Dv (by omega)];exact dC a (Nat.pow_le_pow_right (by decide) (by omega))
abbrev gC(x y z sd:Int)(a:Ls)(n m:Option Int)(r k:Int):Int:=mC x sd m ((zj y z a n m r+k-1) / z)
abbrev lq(y z:Int)(a:Ls)(n m:Option Int)(r k:Int):Int:=eZ y z a.1 (zj y z a n m r+k-1)
theorem Pn(ho:μ[i]?=aA (cL (bC x y z) ah sd (d_ si) aE m n bt aC))(k1:1<=k)(k2:k<=z)(a:Z 18 [] μ):zI [.mut i,.int r,.int k] μ K Z:=by
 unfold zI;refine⟨rfl,_,ho,?_⟩;refine wC ho ?_;refine⟨_,ho,?_⟩;unfold qf;refine⟨rfl,?_⟩;refine qG ?_;rw[decide_eq_true k1];refine⟨_,_,_,ho,rfl,?_⟩;refine zA (by lia) ?_;refine zk ?_;refine⟨_,ho,?_⟩;unfold zC;refine⟨rfl,_,_,_,ho,rfl,?_⟩;exact⟨by show (1:Nat)<=aT;decide,a⟩
def oX (x y:Int)(l:Option Ls):Prop:=∀a,l=aA a->eT x y a
end
section
local macro_rules | `(tactic| walk_at "grd") => `(tactic| first | decide | exact Or.inl (by decide) | exact Or.inr (by decide) | omega | (simp only [big, room]; omega) | fail)
local macro_rules | `(tactic| walk_at "go") => `(tactic| repeat' (first | (with_reducible refine ⟨_, rfl, ?_⟩) | (with_reducible refine ⟨?w, ?h, ?_⟩; case h => exact rfl) | (with_reducible refine And.intro ?_ ?_; walk_at "grd") | (with_reducible refine qR ?_ ?_; rfl) | (with_reducible refine qe ?_ ?_; rfl) | (with_reducible refine brn_neg ?_ ?_; decide) | (with_reducible refine zA ?_ ?_; decide) | fail))
variable {μ μ1 μ2:Mem}{K:T->Mem->Prop}{Z:Xp}
noncomputable abbrev Tn:=Int×Int×Bool
def qC(p:Tn):T:=.tup [.int p.1,.int p.2.1,.bl p.2.2]
def oO (ts:List Tn):Prop:=ts.Pairwise (λa b=>a.1<b.1)
structure Cl(μ:Mem)(i:Nat)(μ':Mem)(ts:List Tn):Prop where
 hi:i<μ.length
 len:μ'.length=μ.length+1
 ot:∀j,j≠i->j<μ.length->μ'[j]?=μ[j]?
 st:St μ' i
 ls:μ'[μ.length]?=aA (.lst (ts.map qC))
theorem Cl.up(c:Cl μ i μ1 ts)(u:Up μ1 i μ2):Cl μ i μ2 ts:=
 ⟨c.hi,u.len.trans c.len,λj h1 h2=>(u.ot j h1).trans (c.ot j h1 h2),u.st,(u.ot _ (hS c.hi)).trans c.ls⟩
theorem Cl.app(c:Cl μ i μ1 ts):Cl μ i (μ1.set μ.length (.lst (ts.map qC++[qC p]))) (ts++[p]):=by
 obtain⟨a,b,d,e⟩:=c.st;have hi:=c.hi;refine⟨c.hi,by rw[n_];exact c.len,λj h1 h2=>?_,⟨a,b,d,?_⟩,?_⟩
 .rw[bR (by lia)];exact c.ot j h1 h2
 .rw[bR (by lia)];exact e
 .rw[dO];exact aG c.ls
theorem YH{ts:List Tn}{k:Int}(h0:0<=k)(h1:k<ts.length):vW (ts.map qC) k=aA (qC (ts[k.toNat]'(by lia))):=by
 rw[yg h0 (by simpa using h1),cE,fO (by lia)];rfl
def w8(start:Int)(ts:List Tn)(a:Int):Int:=match ts.reverse.find? (λp=>decide (p.1<=a)) with
 |some p=>p.2.1+(if p.2.2 then a-p.1 else 0)
 |none=>start+a
theorem Ys{α:Type}{f:α->Bool}:∀{l:List α}{n:Nat}{p:α},l[n]?=aA p->f p=aB->(∀q∈l.take n,f q=aC)->l.find? f=aA p
 |[],_,_,h,_,_=>by simp at h
 |x::r,0,p,h,b,_=>by
  have h:aA x=aA p:=h;cases h;simp[Dl,b]
 |x::r,n+1,p,h,b,c=>by
  have d:=c x (by simp);have:=Ys (l:=r) (n:=n) (p:=p) h b λq a=>c q (by simp[a]);simp[Dl,d,this]
abbrev iw(start:Int)(ts:List Tn):MO:=.obj 41 [(3,.int start),(4,.lst (ts.map qC))]
theorem uh{start:Int}(h:μ[i]?=aA (iw start ts))(q:K (.int (w8 start ts d)) μ):wt [.mut i,.int d] μ K Z:=by
 unfold wt;refine⟨rfl,?_⟩;refine zk ?_;refine⟨_,_,_,h,rfl,?_⟩;show fV _ _ _ (ts.map qC).reverse _ _ _;rw[<-List.map_reverse];refine zG (λn r f=>f=μ/\(∀p∈ts.reverse.take n,decide (p.1<=d)=aC)/\∃o,r=[aA (.mut i),aA (.int d),o]) ⟨rfl,by simp,_,rfl⟩ ?_ ?_
 .rintro n x r f k ⟨rfl,m,o,rfl⟩ N t;rw[cE] at k;cases j:ts.reverse[n]? with
  |none=>rw[j] at k;cases k
  |some p=>
   rw[j] at k;cases k;refine⟨_,rfl,_,rfl,?_⟩;refine zN (λg=>?_) (λg=>?_)
   .have e:w8 start ts d=p.2.1+(if p.2.2 then d-p.1 else 0):=by
     unfold w8;rw[Ys j (decide_eq_true g) m]
    rw[e] at q;refine⟨_,rfl,_,rfl,?_⟩;obtain⟨a,b,c⟩:=p;cases c with
    |true=>exact⟨_,rfl,q⟩
    |false=>exact q
   .refine t _ _ ⟨rfl,λs l=>?_,_,rfl⟩;rw[fM,j] at l;rcases b_.mp l with z|z
    .exact m s z
    .have z:s=p:=by simpa using z
     rw[z];exact decide_eq_false g
 .rintro r f ⟨rfl,m,o,rfl⟩;have e:w8 start ts d=start+d:=by
   unfold w8;have:ts.reverse.find? (λp=>decide (p.1<=d))=aE:=by
    rw[List.find?_eq_none];intro p j;have:=m p (by rw[bJ,D8];exact j);simpa using this
   rw[this]
  rw[e] at q;exact⟨_,_,_,h,rfl,q⟩
theorem Xc(q:K (.bl aB) μ):Z7 [qC p] μ K Z:=by
 unfold Z7;refine⟨rfl,_,rfl,?_⟩;refine zk ?_;refine⟨_,rfl,?_⟩;refine zk ?_;exact⟨_,rfl,q⟩
theorem uP:∀(n:Nat),cU (lO n (T.bl aB))=aA (lO n aB)
 |0=>rfl
 |n+1=>by simp[List.replicate_succ,cU,uP n]
theorem u1{α:Type}(xs:List α):∃bs,cU (xs.map λ_=>T.bl aB)=aA bs/\bs.all id=aB:=by
 rw[List.map_const'];exact⟨_,uP _,by simp⟩
theorem VO{j:Nat}{ts:List Tn}(hj:μ[j]?=aA (.lst (ts.map qC)))(hr:oO ts)(l:ts.length<=40)(q:K (.bl aB) μ):kD [.mut j] μ K Z:=by
 unfold kD;refine⟨rfl,_,hj,_,hj,by rw[bJ];unfold aT;lia,?_⟩;refine u9 (λ_=>.bl aB) (λx e k b=>?_) ?_ hj
 .obtain⟨p,_,rfl⟩:=b7.mp e;exact⟨_,rfl,Xc b⟩
 obtain⟨bs,d,c⟩:=u1 (ts.map qC);refine⟨bs,d,?_⟩;refine Fi (by rw[c];rfl) ?_;refine⟨_,hj,⟨by decide,by rw[bJ];unfold mE;lia⟩,?_⟩;have a:(kb 1 (((ts.map qC).length:Nat):Int) 1).length<=40:=by
  unfold kb;rw[bJ,v4,bJ];split<;>lia
 refine⟨dG a (by decide),?_⟩;refine u9 (λ_=>.bl aB) (λx e k b=>?_) ?_
 .unfold kb at e;obtain⟨n,f,rfl⟩:=b7.mp e;have f:=lP.mp f;rw[bJ] at f;have g:n+1<ts.length:=by split at f<;>lia
  have d:(1:Int)+n*1-1=n:=by lia
  have c:(1:Int)+n*1=((n+1:Nat):Int):=by lia
  refine⟨_,rfl,?_⟩;have i:vW (ts.map qC) (1+(n:Int)*1-1)=aA (qC ts[n]):=by
   rw[d,YH (by lia) (by lia)];simp
  have h:vW (ts.map qC) (1+(n:Int)*1)=aA (qC ts[n+1]):=by
   rw[c,YH (by lia) (by lia)];simp
  refine⟨_,_,hj,i,_,rfl,_,_,hj,h,_,rfl,?_⟩;have:=hQ.mp hr n (n+1) (by lia) g (mo n);have b:k (aA (.bl (decide (ts[n].1<ts[n+1].1)))) μ:=by rw[decide_eq_true this];exact b
  exact b
 obtain⟨bs,d,c⟩:=u1 (kb 1 (((ts.map qC).length:Nat):Int) 1);refine⟨bs,d,?_⟩;have q:K (.bl (bs.all id)) μ:=by rw[c];exact q
 exact q
theorem Qs:∀{μ:List MO},(μ++[x]).set μ.length y=μ++[y]
 |[]=>rfl
 |m::μ=>congrArg (m::·) (Qs (μ:=μ))
theorem QM{start:Int}{ts:List Tn}(hj:μ[j]?=aA (.lst (ts.map qC)))(hr:oO ts)(a:ts.length<=40)(q:K .non (μ++[iw start ts])):vw [.mut μ.length,.int start,.mut j] (μ++[.obj 41 []]) K Z:=by
 unfold vw;refine⟨rfl,?_⟩;refine zk ?_;refine VO (z8 hj) hr a ?_;refine⟨_,_,zc,by decide,?_⟩;rw[Qs];refine⟨_,z8 hj,_,_,zc,(by (show (1:Nat)<900);decide),?_⟩;rw[Qs];exact q
end
section
variable {μ:Mem}{x y z:Int}{ah sd:Int}
structure Hr where
 ho:aH
 s:Nat
 c:Nat
 h:Nat
 st:Int
 ts:List Tn
 l:Option Ls
 m:Option Int
 n:Option Int
 bt:T
 kt:T
abbrev Hr.seat(u:Hr):MO:=zW (.mut u.c) (.mut u.h) u.kt
abbrev Hr.house(x y z ah sd:Int)(u:Hr):MO:=cL (bC x y z) ah sd (d_ u.s) u.l u.m u.n u.bt aC
abbrev kR(x y z ah sd:Int)(cm g d:Nat)(a:T):MO:=.obj 47 [(9,bC x y z),(14,.int ah),(15,.int sd),(23,.mut cm),(24,.mut g),(25,a),(26,.mut d)]
abbrev jT(u:Hr):Key×T:=(.inr u.ho,.mut u.s)
structure eO(μ:Mem)(w cm gr g d:Nat)(x y z ah sd:Int)(now:T)(us:List Hr)(rs:List T)(ps:List Gp):Prop where
 wo:μ[w]?=aA (kR x y z ah sd cm g d now)
 bk:Bk μ cm gr (bC x y z) ps
 gv:μ[g]?=aA (.lst rs)
 dc:μ[d]?=aA (.dic (us.map jT))
 se:∀u∈us,μ[u.s]?=aA u.seat
 cl:∀u∈us,μ[u.c]?=aA (iw u.st u.ts)
 hs:∀u∈us,μ[u.h]?=aA (u.house x y z ah sd)
 n1:(us.map (·.s)).Nodup
 n2:(us.map (·.h)).Nodup
 gg:g≠gr
variable {w cm gr g d:Nat}{now:T}{us:List Hr}{rs:List T}{ps:List Gp}
theorem zq{i j:Nat}{a b:MO}(h1:μ[i]?=aA a)(h2:μ[j]?=aA b)(n:a≠b):i≠j:=λe=>by
 subst e;rw[h1] at h2;exact n (bQ h2)
theorem eO.ch0(W:eO μ w cm gr g d x y z ah sd now us rs ps)(ch:Ch [] μ j):eO j w cm gr g d x y z ah sd now us rs ps:=
 ⟨ch.get W.wo (by simp),W.bk.ch ch (by simp) (by simp) (by simp),ch.get W.gv (by simp),ch.get W.dc (by simp),λu a=>ch.get (W.se u a) (by simp),λu a=>ch.get (W.cl u a) (by simp),λu a=>ch.get (W.hs u a) (by simp),W.n1,W.n2,W.gg⟩
end
section
variable {μ:Mem}{K:T->Mem->Prop}{Z:Xp}{x y z:Int}{ah sd:Int}{w cm gr g d:Nat}{now:T}{us:List Hr}{rs:List T}{ps:List Gp}{t n:Int}{ho:aH}{hs:T}
theorem CD{α:Type}{xs:List α}{j:Nat}{v:α}(h:xs[j]?=aA v):vW xs (j:Int)=aA v:=by
 obtain⟨a,e⟩:=bE.mp h;unfold vW oK;rw[if_pos (by lia),if_pos (by lia)];simpa using h
theorem UR{a b:T}{r:List T}:vW (a::b::r) 1=aA b:=CD (j:=1) rfl
theorem ZC{a b c:T}{r:List T}:vW (a::b::c::r) 2=aA c:=CD (j:=2) rfl
theorem RD(q:K (.bl aB) μ):wx [.tup [.str "lease",a,b,c,e]] μ K Z:=by
 unfold wx;refine⟨rfl,_,rfl,_,rfl,?_⟩;exact q
theorem Oo(q:K (.bl aB) μ):vt [.tup [.str "lease",.int t,b,c,e]] μ K Z:=by
 unfold vt;refine⟨rfl,?_⟩;refine RD ?_;refine⟨_,rfl,?_⟩;exact zk q
theorem VY:∀{us:List Hr}{i:Nat}{u:Hr},us[i]?=aA u->(us.map (·.ho)).Nodup->ze (.inr u.ho) (us.map jT)=aA (.mut u.s)
 |[],_,_,h,_=>by cases h
 |v::r,0,u,h,_=>by
  cases h;show ze _ (jT v::_)=_;unfold ze;rw[if_pos rfl]
 |v::r,i+1,u,h,n=>by
  have h:r[i]?=aA u:=h;rw[c8,iP] at n;show ze _ (jT v::r.map jT)=_;unfold ze;rw[if_neg (λe=>n.1 (b7.mpr ⟨u,bK h,(ie e).symm⟩))];exact VY h n.2
def Wi(now:T)(t:Int):Prop:=now=.non\/∃s:Int,now=.int s/\s<=t
theorem Vr{i:Nat}{u:Hr}{row:T}{r:List T}(W:eO μ w cm gr g d x y z ah sd now us rs ps)(hi:us[i]?=aA u)(nd:(us.map (·.ho)).Nodup)(a:Wi now t)(h1:u.ho.length<=aT)(h2:wm u.ho=aB)(er:row=.tup (.str ho::.int t::.str u.ho::r))
  (hr:∀(K:T->Mem->Prop) (Z:Xp),K (.bl aB) μ->vt [row] μ K Z) (q:K .non μ):qt [.mut w,row] μ K Z:=by
 unfold qt;refine⟨rfl,?_⟩;refine hr _ _ ?_;subst er;refine⟨_,_,_,W.wo,rfl,?_⟩;rcases a with rfl|⟨s,rfl,b⟩
 .refine⟨_,ZC,?_⟩;refine wj h1 ?_;rw[h2];refine⟨_,ZC,_,_,_,W.wo,rfl,_,W.dc,?_⟩;rw[VY hi nd];exact q
 .refine⟨_,UR,_,_,_,W.wo,rfl,?_⟩;refine zA (by lia) ?_;refine⟨_,ZC,?_⟩;refine wj h1 ?_;rw[h2];refine⟨_,ZC,_,_,_,W.wo,rfl,_,W.dc,?_⟩;rw[VY hi nd];exact q
end
section
variable {t n k:Int}{ho:aH}{hs:T}{u:Hr}
abbrev Hr.rd(u:Hr)(t:Int):Int:=w8 u.st u.ts t
abbrev Uz(wd:aH)(t:Int)(ho:aH)(k:Int):T:=.tup [.str wd,.int t,.str ho,.int k]
abbrev l4(wd:aH)(t:Int)(ho:aH)(hs:T)(n:Int):T:=.tup [.str wd,.int t,.str ho,hs,.int n]
end
section
variable {μ:Mem}{x y z:Int}{ah sd:Int}{w cm gr g d:Nat}{now:T}{us:List Hr}{rs:List T}{ps:List Gp}{t n:Int}{ho:aH}{u:Hr}
theorem eO.now'(W:eO μ w cm gr g d x y z ah sd now us rs ps):eO (μ.set w (kR x y z ah sd cm g d nw)) w cm gr g d x y z ah sd nw us rs ps:=by
 have out:∀{j:Nat}{a:MO},μ[j]?=aA a->a≠kR x y z ah sd cm g d now->(μ.set w (kR x y z ah sd cm g d nw))[j]?=aA a:=λ{j a} e n=>by
  rw[bR (bW (zq e W.wo n))];exact e
 have ch:Ch [w] μ (μ.set w (kR x y z ah sd cm g d nw)):=Ch.set;have b:∀{j:Nat}{a:MO},μ[j]?=aA a->a≠kR x y z ah sd cm g d now->j∉[w]:=λ{j a} e n=>by simpa using zq e W.wo n
 exact⟨aG W.wo,W.bk.ch ch (b W.bk.com (λe=>by cases e)) (b W.bk.lst (λe=>by cases e)) (λp f=>b (W.bk.at_ p f) (λe=>by cases e)),out W.gv (λe=>by cases e),out W.dc (λe=>by cases e),λu c=>out (W.se u c) (λe=>by cases e),λu c=>out (W.cl u c) (λe=>by cases e),λu c=>out (W.hs u c) (λe=>by cases e),W.n1,W.n2,W.gg⟩
theorem eO.gave(W:eO μ w cm gr g d x y z ah sd now us rs ps):eO (μ.set g (.lst r)) w cm gr g d x y z ah sd now us r ps:=by
 have out:∀{j:Nat}{a:MO},μ[j]?=aA a->(∀l,a≠.lst l)->(μ.set g (.lst r))[j]?=aA a:=λ{j a} e n=>by
  rw[bR (bW (zq e W.gv (n _)))];exact e
 have ch:Ch [g] μ (μ.set g (.lst r)):=Ch.set;have b:∀{j:Nat}{a:MO},μ[j]?=aA a->(∀l,a≠.lst l)->j∉[g]:=λ{j a} e n=>by simpa using zq e W.gv (n _)
 exact⟨out W.wo (λ_ e=>by cases e),W.bk.ch ch (b W.bk.com (λ_ e=>by cases e)) (by simpa using bW W.gg) (λp f=>b (W.bk.at_ p f) (λ_ e=>by cases e)),aG W.gv,out W.dc (λ_ e=>by cases e),λu c=>out (W.se u c) (λ_ e=>by cases e),λu c=>out (W.cl u c) (λ_ e=>by cases e),λu c=>out (W.hs u c) (λ_ e=>by cases e),W.n1,W.n2,W.gg⟩
abbrev oS(t:Int)(ho:aH)(nm:Int):T:=.tup [.int t,.str ho,.int nm]
end
section
variable {μ μ1 μ2:Mem}{a:Ls}{h:Int}
theorem Ch.geS(a:Ch S μ μ1)(b:Ch d μ1 μ2)(h:∀j∈d,μ.length<=j):Ch S μ μ2:=
 ⟨dG a.len b.len,λj hj hs=>(b.ot j (dC hj a.len) λw=>absurd (h j w) (by lia)).trans (a.ot j hj hs)⟩
end
end NH.P
namespace NH.P
open PySem L2 NH
namespace X
section
variable {μ μ1:Mem}{K:T->Mem->Prop}{Z:Xp}{x y z:Int}{i bi:Nat}{kp:T}{ah sd:Int}{l:Option Ls}{m n:Option Int}{r k:Int}{c:Nat}
noncomputable abbrev Bt:=Int×Int×Int
abbrev btT(p:Bt):T:=QZ p.1 p.2.1 p.2.2
def nmB (y z:Int)(bs:List Bt):List Int:=bs.flatMap λp=>cF y z p.1 p.2.1 (p.2.2-p.2.1)
structure BOk(x y z:Int)(bs:List Bt):Prop where
 h0:∀p∈bs,0<=p.1
 h1:∀p∈bs,p.1<y
 b0:∀p∈bs,0<=p.2.1
 be:∀p∈bs,p.2.1<=p.2.2
 ex:∀p∈bs,p.2.2<=x*z
 sz:∀p∈bs,p.2.2-p.2.1<=1000
theorem Y6:∀{bs:List Bt},(∀p∈bs,p.2.1<=p.2.2)->((nmB y z bs).length:Int)=(bs.map λp=>p.2.2-p.2.1).sum
 |[],_=>rfl
 |p::r,b=>by
  have a:=Y6 (bs:=r) λq c=>b q (cW _ c);have:=b p dJ;unfold nmB at a ⊢;rw[og,gK,c8,List.sum_cons,yM];push_cast;rw[a];omega
theorem size_of_sp{bs:List Bt}(hi:μ[i]?=aA (.lst (bs.map btT)))(d:bs.length<=1000)(hb:∀p∈bs,p.2.1<=p.2.2)(q:K (.int ((nmB y z bs).length:Int)) μ):j4 [.mut i] μ K Z:=by
 unfold j4;refine⟨rfl,?_⟩;refine⟨_,hi,?_⟩;refine⟨by rw[bJ];unfold aT;omega,?_⟩;refine qq btT (λp=>aA (T.int (p.2.2-p.2.1))) (λp c b a=>⟨_,rfl,a⟩) ?_ hi;rw[kw];rw[Y6 hb] at q;refine⟨bs.map λp=>p.2.2-p.2.1,?_,q⟩;have:=yG (bs.map λp=>p.2.2-p.2.1);rw[cT] at this;exact this
structure Pt where
 r:Int
 fs:List Bt
 os:List Bt
def Pt.step(s:Pt)(p:Bt):Pt:=
 let m:=if p.2.2<p.2.1+s.r then p.2.2 else p.2.1+s.r
 ⟨s.r-(m-p.2.1),s.fs++[(p.1,p.2.1,m)],s.os++[(p.1,m,p.2.2)]⟩
structure Db(x y z:Int)(s0 s:Pt)(bs:List Bt):Prop where
 r0:0<=s.r
 fo:BOk x y z s0.fs->BOk x y z s.fs
 oo:BOk x y z s0.os->BOk x y z s.os
 fn:nmB y z s.fs=nmB y z s0.fs++(nmB y z bs).take s0.r.toNat
 on:nmB y z s.os=nmB y z s0.os++(nmB y z bs).drop s0.r.toNat
 fl:s.fs.length=s0.fs.length+bs.length
 ol:s.os.length=s0.os.length+bs.length
theorem BOk.snoc{bs:List Bt}{p:Bt}(B:BOk x y z bs)(e:0<=p.1)(d:p.1<y)(h1:0<=p.2.1)(h2:p.2.1<=p.2.2)(c:p.2.2<=x*z)(b:p.2.2-p.2.1<=1000):BOk x y z (bs++[p]):=by
 refine⟨λq a=>?_,λq a=>?_,λq a=>?_,λq a=>?_,λq a=>?_,λq a=>?_⟩<;>(rcases b_.mp a with a|a)<;>first|exact B.h0 q a|exact B.h1 q a|exact B.b0 q a|exact B.be q a|exact B.ex q a|exact B.sz q a|(rw[bU.mp a];assumption)
theorem nmB_snoc{bs:List Bt}{p:Bt}:nmB y z (bs++[p])=nmB y z bs++cF y z p.1 p.2.1 (p.2.2-p.2.1):=by
 unfold nmB;rw[EJ];simp
theorem Cg:∀{bs:List Bt}{s0:Pt},BOk x y z bs->0<=s0.r->Db x y z s0 (bs.foldl Pt.step s0) bs
 |[],s0,_,m=>⟨m,id,id,by simp[nmB],by simp[nmB],by simp,by simp⟩
 |p::bs,s0,B,m=>by
  have o:=B.h0 p dJ;have n:=B.h1 p dJ;have E:=B.b0 p dJ;have be:=B.be p dJ;have ex:=B.ex p dJ;have sz:=B.sz p dJ;have G:BOk x y z bs:=⟨λq d=>B.h0 q (cW _ d),λq d=>B.h1 q (cW _ d),λq d=>B.b0 q (cW _ d),λq d=>B.be q (cW _ d),λq d=>B.ex q (cW _ d),λq d=>B.sz q (cW _ d)⟩;obtain⟨a,l⟩:∃a,a=if p.2.2<p.2.1+s0.r then p.2.2 else p.2.1+s0.r:=⟨_,rfl⟩
  have i:s0.step p=⟨s0.r-(a-p.2.1),s0.fs++[(p.1,p.2.1,a)],s0.os++[(p.1,a,p.2.2)]⟩:=by rw[l];rfl
  have g:(p.2.2<p.2.1+s0.r/\a=p.2.2)\/(¬p.2.2<p.2.1+s0.r/\a=p.2.1+s0.r):=by
   rw[l];split
   .exact .inl ⟨by assumption,rfl⟩
   .exact .inr ⟨by assumption,rfl⟩
  have k:=Cg (bs:=bs) (s0:=s0.step p) G (by rw[i];show 0<=s0.r-(a-p.2.1);omega);rw[i] at k;obtain⟨D,C,A,w,v,u,t⟩:=k;have c:cF y z p.1 p.2.1 (p.2.2-p.2.1)=cF y z p.1 p.2.1 (a-p.2.1)++cF y z p.1 a (p.2.2-a):=by
   have:=Pj (y:=y) (z:=z) (h:=p.1) (b:=p.2.1) (k1:=a-p.2.1) (k2:=p.2.2-a) (by omega) (by omega);rw[show a-p.2.1+(p.2.2-a)=p.2.2-p.2.1 by omega,show p.2.1+(a-p.2.1)=a by omega] at this;exact this
  have e:nmB y z (p::bs)=cF y z p.1 p.2.1 (p.2.2-p.2.1)++nmB y z bs:=by unfold nmB;rw[og]
  have cs:(cF y z p.1 a (p.2.2-a)=[]/\(a-p.2.1).toNat<=s0.r.toNat)\/s0.r.toNat=(a-p.2.1).toNat:=by
   rcases g with⟨s,j⟩|⟨s,j⟩
   .refine .inl ⟨?_,by omega⟩;rw[j,show p.2.2-p.2.2=0 by omega];exact K5
   .exact .inr (by omega)
  rw[List.foldl_cons,i];refine⟨D,λF=>C (F.snoc o n E (by show p.2.1<=a;omega) (by show a<=x*z;omega) (by show a-p.2.1<=1000;omega)),λF=>A (F.snoc o n (by show 0<=a;omega) (by show a<=p.2.2;omega) ex (by show p.2.2-a<=1000;omega)),?_,?_,by simp at u ⊢;omega,by simp at t ⊢;omega⟩
  .have f:=(QA (cF y z p.1 p.2.1 (a-p.2.1)) (cF y z p.1 a (p.2.2-a)) (nmB y z bs) s0.r.toNat (a-p.2.1).toNat yM cs).1;rw[w,nmB_snoc,e,c,mq (cF y z p.1 p.2.1 (a-p.2.1)),f,<-mq];show nmB y z s0.fs++cF y z p.1 p.2.1 (a-p.2.1)++(nmB y z bs).take (s0.r-(a-p.2.1)).toNat=_;rw[show s0.r.toNat-(a-p.2.1).toNat=(s0.r-(a-p.2.1)).toNat by omega]
  .have f:=(QA (cF y z p.1 p.2.1 (a-p.2.1)) (cF y z p.1 a (p.2.2-a)) (nmB y z bs) s0.r.toNat (a-p.2.1).toNat yM cs).2;rw[v,nmB_snoc,e,c,mq (cF y z p.1 p.2.1 (a-p.2.1)),f,<-mq];show nmB y z s0.os++cF y z p.1 a (p.2.2-a)++(nmB y z bs).drop (s0.r-(a-p.2.1)).toNat=_;rw[show s0.r.toNat-(a-p.2.1).toNat=(s0.r-(a-p.2.1)).toNat by omega]
local macro_rules | `(tactic| walk_at "bat") => `(tactic| (refine ⟨rfl, ?_⟩; (try unfold qT); refine ⟨rfl, ?_⟩; refine ⟨_, _, rfl, by show (0 : Nat) < 900; decide, ?_⟩; refine ⟨_, _, rfl, by show (1 : Nat) < 900; decide, ?_⟩; refine ⟨_, _, rfl, by show (2 : Nat) < 900; decide, ?_⟩; refine ⟨rfl, _, rfl, rfl, ?_⟩))
theorem Hf:∀{bs:List Bt},(bs.filterMap λp=>if p.2.1<p.2.2 then aA (btT p) else aE)=(bs.filter λp=>decide (p.2.1<p.2.2)).map btT
 |[]=>rfl
 |p::r=>by
  have a:=Hf (bs:=r);by_cases c:p.2.1<p.2.2
  .rw[rK (b:=btT p) (by rw[if_pos c]),wP (by simpa using c),c8,a]
  .rw[rL (by rw[if_neg c]),wE (by simpa using c),a]
theorem Hj:∀{bs:List Bt},(∀p∈bs,p.2.1<=p.2.2)->nmB y z (bs.filter λp=>decide (p.2.1<p.2.2))=nmB y z bs
 |[],_=>rfl
 |p::r,b=>by
  have a:=Hj (bs:=r) λq d=>b q (cW _ d);have be:=b p dJ;by_cases c:p.2.1<p.2.2
  .rw[wP (by simpa using c)];unfold nmB at a ⊢;rw[og,og,a]
  .rw[wE (by simpa using c),a];unfold nmB;rw[og,show p.2.2-p.2.1=0 by omega,K5,rh]
theorem BOk.fil{bs:List Bt}(B:BOk x y z bs):BOk x y z (bs.filter λp=>decide (p.2.1<p.2.2)):=
 ⟨λp a=>B.h0 p (eW.mp a).1,λp a=>B.h1 p (eW.mp a).1,λp a=>B.b0 p (eW.mp a).1,λp a=>B.be p (eW.mp a).1,λp a=>B.ex p (eW.mp a).1,λp a=>B.sz p (eW.mp a).1⟩
theorem BOk.nil:BOk x y z []:=⟨by simp,by simp,by simp,by simp,by simp,by simp⟩
theorem YV{bs:List Bt}(hi:μ[i]?=aA (.lst (bs.map btT)))(J:bs.length<=1000)(k0:0<=k)(B:BOk x y z bs)
  (q:∀fs os d u s,BOk x y z fs->BOk x y z os->nmB y z fs=(nmB y z bs).take k.toNat->nmB y z os=(nmB y z bs).drop k.toNat->fs.length<=bs.length->os.length<=bs.length->Ch [] μ d->μ.length<=u->μ.length<=s->u≠s->
   d[u]?=aA (.lst (fs.map btT))->d[s]?=aA (.lst (os.map btT))->K (.tup [.mut u,.mut s]) d):fE [.mut i,.int k] μ K Z:=by
 have E:=(bE.mp hi).1;unfold fE;refine⟨rfl,?_⟩;refine⟨_,z8 (z8 hi),?_⟩;refine zG (λj l d=>∃n m,l=[aA (.mut i),aA (.int k),aA (.mut μ.length),aA (.mut (μ++[MO.lst []]).length),aA (.int ((bs.take j).foldl Pt.step ⟨k,[],[]⟩).r),n,m]/\d=μ++[.lst (((bs.take j).foldl Pt.step ⟨k,[],[]⟩).fs.map btT)]++[.lst (((bs.take j).foldl Pt.step ⟨k,[],[]⟩).os.map btT)]) ⟨aE,aE,rfl,rfl⟩ ?_ ?_ ?_
 .rintro j t l d f ⟨n,m,rfl,rfl⟩ N G;rw[cE] at f;cases b:bs[j]? with
  |none=>rw[b] at f;cases f
  |some p=>
   rw[b] at f;cases f;have et:bs.take (j+1)=bs.take j++[p]:=by rw[fM,b];rfl
   have D:j<bs.length:=(bE.mp b).1;have B1:BOk x y z (bs.take j):=⟨λp a=>B.h0 p (iN a),λp a=>B.h1 p (iN a),λp a=>B.b0 p (iN a),λp a=>B.be p (iN a),λp a=>B.ex p (iN a),λp a=>B.sz p (iN a)⟩;have P:=Cg (x:=x) (y:=y) (z:=z) (s0:=⟨k,[],[]⟩) B1 k0;generalize F:(bs.take j).foldl Pt.step ⟨k,[],[]⟩=S at P ⊢;have v:=P.fl;have o:=P.ol;simp only[ri,s_,hO] at v o;have g:(bs.take (j+1)).foldl Pt.step ⟨k,[],[]⟩=S.step p:=by rw[et,List.foldl_append,F];rfl
   refine⟨_,rfl,?_⟩;have H:(μ++[MO.lst []]).length=(μ++[MO.lst (S.fs.map btT)]).length:=by simp
   refine⟨⟨_,z8 zc⟩,?_⟩;walk_at "bat";refine⟨_,z8 zc,by rw[bJ];unfold aT;omega,?_⟩;rw[MQ];have h:(μ++[MO.lst (S.fs.map btT++[QZ p.1 p.2.1 (if p.2.2<p.2.1+S.r then p.2.2 else p.2.1+S.r)])]++[MO.lst (S.os.map btT)])[(μ++[MO.lst []]).length]?=aA (MO.lst (S.os.map btT)):=by
    have:(μ++[MO.lst []]).length=(μ++[MO.lst (S.fs.map btT++[QZ p.1 p.2.1 (if p.2.2<p.2.1+S.r then p.2.2 else p.2.1+S.r)])]).length:=by simp
    rw[this];exact zc
   refine⟨⟨_,h⟩,?_⟩;walk_at "bat";refine⟨_,h,by rw[bJ];unfold aT;omega,?_⟩;refine G _ _ ⟨aA (btT p),aA (.int (if p.2.2<p.2.1+S.r then p.2.2 else p.2.1+S.r)),?_,?_⟩
   .rw[g];rfl
   .show (μ++[MO.lst (S.fs.map btT++[QZ p.1 p.2.1 (if p.2.2<p.2.1+S.r then p.2.2 else p.2.1+S.r)])]++[MO.lst (S.os.map btT)]).set (μ++[MO.lst []]).length (MO.lst (S.os.map btT++[QZ p.1 (if p.2.2<p.2.1+S.r then p.2.2 else p.2.1+S.r) p.2.2]))=_;have:(μ++[MO.lst []]).length=(μ++[MO.lst (S.fs.map btT++[QZ p.1 p.2.1 (if p.2.2<p.2.1+S.r then p.2.2 else p.2.1+S.r)])]).length:=by simp
    rw[this,MK,g];show _=μ++[MO.lst ((S.fs++[(p.1,p.2.1,if p.2.2<p.2.1+S.r then p.2.2 else p.2.1+S.r)]).map btT)]++[MO.lst ((S.os++[(p.1,if p.2.2<p.2.1+S.r then p.2.2 else p.2.1+S.r,p.2.2)]).map btT)];rw[dO,dO];rfl
 .rintro l d ⟨n,m,rfl,rfl⟩;rw[bJ,gL (bD _)];have P:=Cg (x:=x) (y:=y) (z:=z) (s0:=⟨k,[],[]⟩) B k0;generalize bs.foldl Pt.step ⟨k,[],[]⟩=S at P ⊢;have v:=P.fl;have o:=P.ol;simp only[ri,s_] at v o;have C:(μ++[MO.lst []]).length=(μ++[MO.lst (S.fs.map btT)]).length:=by simp
  have fo:=P.fo BOk.nil;have w:=P.oo BOk.nil;have fn:nmB y z S.fs=(nmB y z bs).take k.toNat:=by have:=P.fn;simpa[nmB] using this
  have on:nmB y z S.os=(nmB y z bs).drop k.toNat:=by have:=P.on;simpa[nmB] using this
  have h:(μ++[MO.lst (S.fs.map btT)]++[MO.lst (S.os.map btT)])[(μ++[MO.lst []]).length]?=aA (MO.lst (S.os.map btT)):=by rw[C];exact zc
  refine⟨_,h,?_⟩;refine⟨by rw[bJ];unfold aT;omega,?_⟩;refine qq btT (λp=>if p.2.1<p.2.2 then aA (btT p) else aE) (λp a I e=>⟨_,rfl,?_⟩) ?_ h
  .refine zN (λc=>?_) (λc=>?_)
   .rw[if_pos c] at e;exact e
   .rw[if_neg c] at e;exact e
  .rw[Hf];have A:(μ++[MO.lst (S.fs.map btT)]++[MO.lst (S.os.map btT)]).length=μ.length+2:=by simp
   refine q S.fs (S.os.filter λp=>decide (p.2.1<p.2.2)) _ _ _ fo w.fil fn ?_ (by omega) ?_ ⟨by simp,λj L _=>?_⟩ (bD _) (by omega) (by omega) (z8 (z8 zc)) ?_
   .rw[Hj w.be];exact on
   .have:=rD (λp:Bt=>decide (p.2.1<p.2.2)) S.os;omega
   .rw[dP (by simp;omega),dP (by simp;omega),dP (by omega)]
   .rw[A];have:=zc (μ:=μ++[MO.lst (S.fs.map btT)]++[MO.lst (S.os.map btT)]) (x:=MO.lst ((S.os.filter λp=>decide (p.2.1<p.2.2)).map btT));rw[A] at this;exact this
 .rintro j l d ⟨n,m,rfl,rfl⟩;exact z8 (z8 hi)
theorem take_sp{bs:List Bt}(s:Hz x y z)(hb:x*z<1000000000000000000000000000000000000000000000000000000000000)(ho:μ[i]?=aA (cL (bC x y z) ah sd kp l m n (.mut bi) aC))(D:μ[bi]?=aA (.lst (bs.map btT)))(M:bs.length<=1000)(B:BOk x y z bs)(hn:(nmB y z bs).length<=100000)(k1:1<=k)
  (P:((nmB y z bs).length:Int)<k->Z 22 [] μ)
  (O:k<=((nmB y z bs).length:Int)->∀os d j g,BOk x y z os->nmB y z os=(nmB y z bs).drop k.toNat->os.length<=bs.length->Ch [i] μ d->μ.length<=j->μ.length<=g->j≠g->d[i]?=aA (cL (bC x y z) ah sd kp l m n (.mut g) aC)->d[g]?=aA (.lst (os.map btT))->d[j]?=aA (.lst (((nmB y z bs).take k.toNat).map T.int))->K (.mut j) d) :
  vg [.mut i,.int k] μ K Z:=by
 have S:=(bE.mp ho).1;unfold vg;refine⟨rfl,?_⟩;refine⟨_,ho,?_⟩;refine wC ho ?_;refine qG ?_;rw[decide_eq_true k1];refine⟨_,_,_,ho,rfl,?_⟩;refine size_of_sp (y:=y) (z:=z) D M B.be ?_;refine zN (λe=>?_) (λe=>?_)
 .exact⟨by show (1:Nat)<=aT;decide,P e⟩
 .refine⟨_,_,_,ho,rfl,?_⟩;refine YV (y:=y) D M (by omega) B λfs os b H g v Bo fn on fl Q E l1 R ne g1 Y=>?_;have C:=E.get ho (by simp);refine⟨_,rfl,?_⟩;refine⟨_,_,C,by show (9:Nat)<900;decide,?_⟩;have f:=aG (y:=cL (bC x y z) ah sd kp l m n (.mut g) aC) C;have r:Ch [i] μ (b.set i (cL (bC x y z) ah sd kp l m n (.mut g) aC)):=(E.mono (by simp)).trans Ch.set;have J:H≠i:=by omega
  have I:g≠i:=by omega
  have h:(b.set i (cL (bC x y z) ah sd kp l m n (.mut g) aC))[H]?=aA (.lst (fs.map btT)):=by rw[bR (bW J)];exact g1
  have q:(b.set i (cL (bC x y z) ah sd kp l m n (.mut g) aC))[g]?=aA (.lst (os.map btT)):=by rw[bR (bW I)];exact Y
  generalize L:b.set i (cL (bC x y z) ah sd kp l m n (.mut g) aC)=a at f r h q;have w:b.set i (.obj 45 (Xr 19 (.mut g) (Ic (bC x y z) ah sd kp l m n (.mut bi) aC)))=a:=L;have step:qp (jq.drop 5) [aA (.mut i),aA (.int k),aA (.tup [.mut H,.mut g]),aE,aE] a (En.fn K Z):=by
   refine⟨_,rfl,?_⟩;refine⟨_,z8 h,?_⟩;have W:=(bE.mp h).1;have V:=(bE.mp q).1;have U:=(bE.mp f).1;refine zG (λj F d=>∃G,F=[aA (.mut i),aA (.int k),aA (.tup [.mut H,.mut g]),aA (.mut a.length),G]/\Ch [] a d/\d[a.length]?=aA (.lst ((nmB y z (fs.take j)).map T.int))) ⟨aE,rfl,Ch.app,zc⟩ ?_ ?_ ?_
   .rintro j t F d A ⟨G,rfl,ch,gn⟩ N X;rw[cE] at A;cases c:fs[j]? with
    |none=>rw[c] at A;cases A
    |some p=>
     rw[c] at A;cases A;have u:p∈fs:=bK c;have et:fs.take (j+1)=fs.take j++[p]:=by rw[fM,c];rfl
     refine⟨_,rfl,?_⟩;refine⟨⟨_,gn⟩,?_⟩;refine⟨_,_,_,ch.get f (by simp),rfl,?_⟩;refine uH s hb (v.b0 p u) (v.be p u) (v.sz p u) (v.ex p u) (v.h0 p u) (v.h1 p u) ?_;have ln:a.length<d.length:=(bE.mp gn).1;have o:((nmB y z (fs.take j)).map T.int).length+((cF y z p.1 p.2.1 (p.2.2-p.2.1)).map T.int).length<=aT:=by
      rw[bJ,bJ];have e1:nmB y z fs=nmB y z (fs.take (j+1))++nmB y z (fs.drop (j+1)):=by
       unfold nmB;rw[<-EJ,ou]
      have e2:(nmB y z fs).length<=(nmB y z bs).length:=by rw[fn];exact List.length_take_le' _ _
      rw[e1,et,nmB_snoc,gK,gK] at e2;unfold aT;omega
     refine⟨_,_,z8 gn,.inr ⟨_,rfl,by omega,zc⟩,o,?_⟩;refine X _ _ ⟨_,rfl,?_,?_⟩
     .exact (Ch.ge (Ch.ge ch Ch.app (by simp)) Ch.set (by simp))
     .rw[et,nmB_snoc,dO];exact aG (z8 gn)
   .rintro F d ⟨G,rfl,ch,gn⟩;rw[bJ,gL (bD _),fn] at gn;refine O (by omega) os d _ g Bo on Q (r.trans (ch.mono (by simp))) ?_ R (by omega) (ch.get f (by simp)) (ch.get q (by simp)) gn;exact r.len
   .rintro j F d ⟨G,rfl,ch,gn⟩;exact ch.get h (by simp)
  rw[<-w] at step;exact step
end
end X
end NH.P
namespace NH.P
open PySem L2 NH
section
variable {μ:Mem}{K:T->Mem->Prop}{Z:Xp}{x y z:Int}{i si bi:Nat}{sh bt ck hs kt:T}{ah sd:Int}{l l':Option Ls}{m m' n:Option Int}{a:Ls}{r k:Int}{bs:List X.Bt}
def kZ (kt:T)(l:Option Ls)(m:Option Int):Prop:=(kt=.non/\l=aE/\m=aE)\/kt=su l m
theorem Cj(hk:kZ kt l m)(ho:μ[i]?=aA (cL sh ah sd (d_ si) l m n bt aC))(a:μ[si]?=aA (zW ck hs kt))
  (q:∀d g,kZ g l' m'->Ch [i,si] μ d->d.length=μ.length->d[i]?=aA (cL sh ah sd (d_ si) l' m' n bt aC)->d[si]?=aA (zW ck hs g)->K .non d) :
  qk [.mut i,eL l',dR m'] μ K Z:=
 Me ho a (λc b=>q μ kt (by rw[c,b];exact hk) Ch.refl rfl (by rw[c,b];exact ho) a) λd ch e h f=>q d _ (.inr rfl) ch e h f
theorem NW(hk:kZ kt l m)(ho:μ[i]?=aA (cL (bC x y z) ah sd (d_ si) l m n bt aC))(b:μ[si]?=aA (zW ck hs kt))(ok:eT x y a)
  (q:∀d g,kZ g (aA a) m->Ch [i,si] μ d->d.length=μ.length->d[i]?=aA (cL (bC x y z) ah sd (d_ si) (aA a) m n bt aC)->d[si]?=aA (zW ck hs g)->K .non d) :
  qj [.mut i,eL (aA a)] μ K Z:=by
 unfold qj;refine⟨rfl,_,ho,?_⟩;refine wC ho ?_;refine⟨_,_,_,ho,rfl,?_⟩;refine ZV ok.h0 ok.h1 ok.f0 ok.fu ok.ux ?_;refine⟨_,ho,_,_,_,ho,rfl,?_⟩;exact Cj hk ho b q
theorem Gz(s:Hz x y z)(xb:x<=10000000000000)(M:-1000000000000000<=r)(ok:oX x y l)(hk:kZ kt l m)(ho:μ[i]?=aA (cL (bC x y z) ah sd (d_ si) l m n bt aC))(o:μ[si]?=aA (zW ck hs kt))(B:∀k,n=aA k->0<=k/\k<x*y*z)(k1:1<=k)(k2:k<=z)(N:0<=ah)
  (f:∀c fs,c=18\/c=21->Z c fs μ)
  (q:∀a,l=aA a->zj y z a n m r+k<=a.2.2*z->ix z r ah (zj y z a n m r+k)<=0->∀d g,kZ g (aA a) (aA (gC x y z sd a n m r k))->Ch [i,si] μ d->d.length=μ.length->d[i]?=aA (cL (bC x y z) ah sd (d_ si) (aA a) (aA (gC x y z sd a n m r k)) (aA (lq y z a n m r k)) bt aC)->d[si]?=aA (zW ck hs g)->K (QZ a.1 (zj y z a n m r) (zj y z a n m r+k)) d) :
  zI [.mut i,.int r,.int k] μ K Z:=by
 obtain⟨J,I,H,G,F⟩:=id s;cases l with
 |none=>exact Pn ho k1 k2 (f _ _ (.inl rfl))
 |some a=>
  have ok:=ok a rfl;have bn:=yi (n:=n) (m:=m) (r:=r) s ok;have v:=ok.ux;have D:=ok.h0;have C:=ok.h1;have L:a.2.2*z<=x*z:=iO v (by lia);have b:zj y z a n m r+k<=a.2.2*z->0<ix z r ah (zj y z a n m r+k)->(ix z r ah (zj y z a n m r+k)).natAbs.log2<1920:=λu t=>by
   have O:(zj y z a n m r+k-1) / z<x:=rB (by lia) (by lia);exact OJ t (by show (zj y z a n m r+k-1) / z-(r+ah)<_;lia)
  unfold zI;refine⟨rfl,_,ho,?_⟩;refine wC ho ?_;refine⟨_,ho,?_⟩;refine SA s ho B k1 k2 (λ_=>f _ _ (.inl rfl)) (λe0 e=>⟨b e0 e,f _ _ (.inr rfl)⟩) λu t=>?_;refine⟨_,ho,_,_,_,ho,rfl,_,ho,_,_,_,ho,rfl,⟨by lia,by lia⟩,?_⟩;refine Pl ho ?_;refine Cj (l':=aA a) (m':=aA (gC x y z sd a n m r k)) hk ho o λd g j ch A p E=>?_;refine⟨_,_,_,p,rfl,?_⟩;refine ZZ s (by lia) (by lia) D C ?_;refine⟨_,_,p,by show (9:Nat)<900;decide,?_⟩;have h:si≠i:=λw=>by rw[w,ho] at o;cases o
  refine q a rfl u t _ g j (ch.trans (Ch.set.mono (by simp))) (by simp[A]) (aG p) ?_;rw[bR (bW h)];exact E
theorem Lu(s:Hz x y z)(xb:x<=10000000000000)(t:-1000000000000000<=r)(ok:oX x y l)(hk:kZ kt l m)(zb:z<=1000)(ho:μ[i]?=aA (cL (bC x y z) ah sd (d_ si) l m n bt aC))(h:μ[si]?=aA (zW ck hs kt))(A:∀k,n=aA k->0<=k/\k<x*y*z)(k1:1<=k)(k2:k<=z)(B:0<=ah)
  (v:∀c fs,c=18\/c=21->Z c fs μ)
  (q:∀a,l=aA a->zj y z a n m r+k<=a.2.2*z->ix z r ah (zj y z a n m r+k)<=0->∀d g j u,kZ g (aA a) (aA (gC x y z sd a n m r k))->Ch [i,si] μ d->μ.length<=j->μ.length<=u->j≠u->d[i]?=aA (cL (bC x y z) ah sd (d_ si) (aA a) (aA (gC x y z sd a n m r k)) (aA (lq y z a n m r k)) (.mut u) aC)->d[u]?=aA (.lst [])->d[si]?=aA (zW ck hs g)->d[j]?=aA (.lst ((cF y z a.1 (zj y z a n m r) k).map T.int))->K (.mut j) d) :
  wB [.mut i,.int r,.int k] μ K Z:=by
 obtain⟨J,H,G,F,E⟩:=id s;unfold wB;refine⟨rfl,_,ho,?_⟩;refine Gz s xb t ok hk ho h A k1 k2 B v λa ea D C d g f ch M b o=>?_;subst ea;have ok:=ok a rfl;have bn:=yi (n:=n) (m:=m) (r:=r) s ok;have p:=ok.ux;have L:a.2.2*z<=x*z:=iO p (by lia);have I:x*z<=10000000000000*1000:=DC xb zb (by lia) (by lia);have e:si≠i:=λw=>by rw[w,ho] at h;cases h
 have N:=(bE.mp b).1;have cl:=(bE.mp o).1;refine⟨_,_,z8 b,by show (9:Nat)<900;decide,_,_,_,aG (z8 b),rfl,?_⟩;refine uH s (by lia) bn (by lia) (by lia) (by lia) ok.h0 ok.h1 ?_;rw[show zj y z a n m r+k-zj y z a n m r=k by lia];refine q a rfl D C _ g _ _ f (((ch.trans (Ch.app.mono (by simp))).trans (Ch.set.mono (by simp))).trans (Ch.app.mono (by simp))) (by simp;lia) (by lia) (by simp) (z8 (aG (z8 b))) ?_ ?_ zc
 .refine z8 ?_;rw[bR (by lia)];exact zc
 .refine z8 ?_;rw[bR (bW e)];exact z8 o
theorem N4(s:Hz x y z)(xb:x<=10000000000000)(D:-1000000000000000<=r)(ok:oX x y l)(hk:kZ kt l m)(ho:μ[i]?=aA (cL (bC x y z) ah sd (d_ si) l m n (.mut bi) aC))(A:μ[si]?=aA (zW ck hs kt))(b:μ[bi]?=aA (.lst (bs.map X.btT)))(N:bs.length<=900)(j:∀p∈bs,p.2.1<=p.2.2)(F:∀k,n=aA k->0<=k/\k<x*y*z)(k1:1<=k)(k2:k<=z)(G:0<=ah)
  (E:∀c fs,c=18\/c=21->Z c fs μ)
  (q:∀a,l=aA a->zj y z a n m r+k<=a.2.2*z->ix z r ah (zj y z a n m r+k)<=0->∀d g v,kZ g (aA a) (aA (gC x y z sd a n m r k))->Ch [i,si,bi] μ d->d[i]?=aA (cL (bC x y z) ah sd (d_ si) (aA a) (aA (gC x y z sd a n m r k)) (aA (lq y z a n m r k)) (.mut bi) aC)->d[si]?=aA (zW ck hs g)->d[bi]?=aA (.lst ((bs++[(a.1,zj y z a n m r,zj y z a n m r+k)]).map X.btT))->K v d) :
  qN [.mut i,.int r,.int k] μ K Z:=by
 have t:bi≠i:=λw=>by rw[w,ho] at b;cases b
 have u:bi≠si:=λw=>by rw[w,A] at b;cases b
 unfold qN;refine⟨rfl,_,ho,?_⟩;refine Gz s xb D ok hk ho A F k1 k2 G E λa ea L J d g h ch M C I=>?_;have gb:=ch.get b (by simp[t,u]);refine⟨_,_,_,C,rfl,⟨_,gb⟩,_,gb,by rw[bJ];unfold aT;lia,?_⟩;have B:∀{o:MO},(d.set bi o)[i]?=aA (cL (bC x y z) ah sd (d_ si) (aA a) (aA (gC x y z sd a n m r k)) (aA (lq y z a n m r k)) (.mut bi) aC):=by intro o;rw[bR t];exact C
 have H:∀{o:MO},(d.set bi o)[si]?=aA (zW ck hs g):=by intro o;rw[bR u];exact I
 have f:(d.set bi (.lst (bs.map X.btT++[QZ a.1 (zj y z a n m r) (zj y z a n m r+k)])))[bi]?=aA (.lst ((bs++[(a.1,zj y z a n m r,zj y z a n m r+k)]).map X.btT)):=by
  rw[aG gb,dO];rfl
 refine⟨_,_,_,B,rfl,?_⟩;refine X.size_of_sp (y:=y) (z:=z) f (by simp;lia) (λp e=>?_) ?_
 .rcases b_.mp e with e|e
  .exact j p e
  .rw[bU.mp e];show zj y z a n m r<=zj y z a n m r+k;lia
 .exact q a ea L J _ g _ h ((ch.mono (by simp)).trans (Ch.set.mono (by simp))) B H f
theorem Mm(s:Hz x y z)(hk:kZ kt l m)(ho:μ[i]?=aA (cL (bC x y z) ah sd (d_ si) l m n bt aC))(e:μ[si]?=aA (zW ck hs kt))(p:∀k,n=aA k->0<=k/\k<x*y*z)
  (o:Z 18 [] μ)
  (q:∀a,l=aA a->∀d g j,kZ g aE m->Ch [i,si] μ d->μ.length<=j->d[i]?=aA (cL (bC x y z) ah sd (d_ si) aE m n (.mut j) aC)->d[si]?=aA (zW ck hs g)->d[j]?=aA (.lst [])->K (.tup [eL (aA a),dR (yD a.2.1 a.2.2 (Vb y z n m))]) d):qB [.mut i] μ K Z:=by
 have r:=(bE.mp ho).1;have b:si≠i:=λw=>by rw[w,ho] at e;cases e
 unfold qB;refine⟨rfl,_,ho,?_⟩;refine wC ho ?_;refine⟨_,ho,?_⟩;unfold zC;refine⟨rfl,_,_,_,ho,rfl,?_⟩;cases l with
 |none=>exact⟨by show (1:Nat)<=aT;decide,o⟩
 |some a=>
  refine⟨_,_,_,ho,rfl,_,_,_,ho,rfl,_,ho,?_⟩;refine Zi s ho p ?_;refine Xd ?_;refine⟨_,ho,_,_,_,ho,rfl,?_⟩;refine Cj (l':=aE) hk ho e λd g c ch u h f=>?_;refine⟨_,_,z8 h,by show (9:Nat)<900;decide,?_⟩;have t:=(bE.mp f).1;refine q a rfl _ g d.length c ((ch.trans (Ch.app.mono (by simp))).trans (Ch.set.mono (by simp))) (by lia) (aG (z8 h)) ?_ ?_
  .rw[bR (bW b)];exact z8 f
  .rw[bR (by lia)];exact zc
theorem ZE{w cm g d i:Nat}{e:T}(hw:μ[w]?=aA (kR x y z ah sd cm g d e))(a:μ[si]?=aA (zW ck hs kt))(ht:μ[i]?=aA (.tab 1))(k:0<=ah)(hd:0<=sd)(hk:kZ kt l m)(n:∀v,m=aA v->0<=v/\v<x)(o:oX x y l)
  (q:∀s u,Ch [si] μ s->μ.length<u->s[si]?=aA (zW ck (.mut μ.length) kt)->s[μ.length]?=aA (cL (bC x y z) ah sd (d_ si) l m aE (.mut u) aC)->s[u]?=aA (.lst [])->K .non s):zE [.mut w,.mut si] μ K Z:=by
 have r:=(bE.mp a).1;have c:∀(s:Mem) (u:Nat),Ch [μ.length] (μ++[MO.obj 45 []]) s->(μ++[MO.obj 45 []]).length<=u->s[μ.length]?=aA (cL (bC x y z) ah sd (d_ si) l m aE (.mut u) aC)->s[u]?=aA (.lst [])->K .non (s.set si (zW ck (.mut μ.length) kt))/\s[si]?=aA (zW ck hs kt):=λs u ch b gh gb=>by
  have b:μ.length<u:=by simp at b;lia
  have gs:s[si]?=aA (zW ck hs kt):=ch.get (z8 a) (by simp;lia);refine⟨q _ u ⟨?_,λj p h=>?_⟩ b (aG gs) ?_ ?_,gs⟩
  .have:=ch.len;simp at this ⊢;lia
  .have h:j≠si:=by simpa using h
   rw[bR (bW h),ch.ot j (by simp;lia) (by simp;lia),dP p]
  .rw[bR (by lia)];exact gh
  .rw[bR (by lia)];exact gb
 unfold zE;refine⟨rfl,_,_,_,hw,rfl,_,_,_,hw,rfl,_,_,_,hw,rfl,⟨i,ht⟩,[.mut si],rfl,_,_,_,a,rfl,?_⟩;rcases hk with⟨rfl,rfl,rfl⟩|rfl
 .refine SV zc k hd λs u ch b gh gb=>?_;obtain⟨f,gs⟩:=c s u ch b gh gb;exact⟨rfl,_,_,gs,by show (3:Nat)<900;decide,f⟩
 .refine Ud zc k hd n o λs u ch b gh gb=>?_;obtain⟨f,gs⟩:=c s u ch b gh gb;exact⟨rfl,_,_,gs,by show (3:Nat)<900;decide,f⟩
end
section
variable {μ μ':Mem}{x y z:Int}{ah sd:Int}{w cm gr g d i j:Nat}{now:T}{rs:List T}{ps:List Gp}
structure Vh where
 u:Hr
 b:Nat
 bs:List X.Bt
 la:Option Int
structure Wm(μ:Mem)(w cm gr g d:Nat)(x y z ah sd:Int)(now:T)(vs:List Vh)(rs:List T)(ps:List Gp):Prop where
 W:eO μ w cm gr g d x y z ah sd now (vs.map (·.u)) rs ps
 bt:∀v∈vs,v.u.bt=.mut v.b
 bl:∀v∈vs,μ[v.b]?=aA (.lst (v.bs.map X.btT))
 bn:(vs.map (·.b)).Nodup
 bg:∀v∈vs,v.b≠gr/\v.b≠g
variable {vs:List Vh}{v v':Vh}
abbrev mD(o:MO):Prop:=∃c fs,o=.obj c fs
structure Fr(gr g d:Nat)(vs:List Vh)(i:Nat):Prop where
 n1:i≠gr
 n2:i≠g
 n3:i≠d
 n4:∀v∈vs,i≠v.b
theorem qP{i:Nat}{o:MO}(h:μ[i]?=aA o):i<μ.length:=(bE.mp h).1
theorem Wm.law(M:Wm μ w cm gr g d x y z ah sd now vs rs ps)(ch:Ch S μ μ')(h:∀j∈S,Fr gr g d vs j/\∀o,μ[j]?=aA o->¬mD o):Wm μ' w cm gr g d x y z ah sd now vs rs ps:=by
 obtain⟨W,bt,bl,bn,bg⟩:=M;have ob:∀{j c fs},μ[j]?=aA (MO.obj c fs)->j∉S:=λe hj=>(h _ hj).2 _ e ⟨_,_,rfl⟩;exact⟨⟨ch.get W.wo (ob W.wo),W.bk.ch ch (ob W.bk.com) (λhj=>(h _ hj).1.n1 rfl) (λp f=>ob (W.bk.at_ p f)),ch.get W.gv (λhj=>(h _ hj).1.n2 rfl),ch.get W.dc (λhj=>(h _ hj).1.n3 rfl),λu a=>ch.get (W.se u a) (ob (W.se u a)),λu a=>ch.get (W.cl u a) (ob (W.cl u a)),λu a=>ch.get (W.hs u a) (ob (W.hs u a)),W.n1,W.n2,W.gg⟩,bt,λv b=>ch.get (bl v b) (λhj=>(h _ hj).1.n4 v b rfl),bn,bg⟩
theorem yJ{P:Vh->Prop}{q:Vh}(c:q∈vs.set i v'):q=v'\/∃j,j≠i/\vs[j]?=aA q:=by
 obtain⟨j,a⟩:=fN.mp c;by_cases e:j=i
 .subst e;have b:j<(vs.set j v').length:=(bE.mp a).1;rw[n_] at b;rw[lY b] at a;exact .inl (bQ a).symm
 .rw[bR (bW e)] at a;exact .inr ⟨j,e,a⟩
theorem u3{β:Type}{f:Vh->β}(n:(vs.map f).Nodup){i j:Nat}{u v:Vh}(hi:vs[i]?=aA u)(hj:vs[j]?=aA v)(e:f u=f v):i=j:=by
 have d:(vs.map f)[i]?=aA (f u):=by rw[cE,hi];rfl
 have c:(vs.map f)[j]?=aA (f u):=by rw[cE,hj,e];rfl
 obtain⟨a,ea⟩:=bE.mp d;obtain⟨b,eb⟩:=bE.mp c;rcases DR i j with h|h|h
 .exact absurd (ea.trans eb.symm) (hQ.mp n i j a b h)
 .exact h
 .exact absurd (eb.trans ea.symm) (hQ.mp n j i b a h)
theorem sf{β:Type}{f:Vh->β}(hi:vs[i]?=aA v)(e:f v'=f v):(vs.set i v').map f=vs.map f:=by
 rw[List.map_set,e];exact set_same (by rw[cE,hi];rfl)
theorem XM{f:Vh->Nat}(n:(vs.map f).Nodup)(hi:vs[i]?=aA v)(h:f v'=f v\/∀q∈vs,f q≠f v'):((vs.set i v').map f).Nodup:=by
 rcases h with h|h
 .rw[sf hi h];exact n
 .unfold List.Nodup at n ⊢;rw[lb,hQ] at n ⊢;intro a b e d c;rw[n_] at e d;rw[ry,ry];split
  .rw[if_neg (by lia)];exact bW (h _ (nX _))
  .split
   .exact h _ (nX _)
   .exact n a b e d c
structure C_(v' v:Vh):Prop where
 ho:v'.u.ho=v.u.ho
 s:v'.u.s=v.u.s
 c:v'.u.c=v.u.c
 st:v'.u.st=v.u.st
 ts:v'.u.ts=v.u.ts
theorem Wm.upd(M:Wm μ w cm gr g d x y z ah sd now vs rs ps)(hi:vs[i]?=aA v)(ch:Ch [v.u.h,v.u.s,v.b] μ μ')(sm:C_ v' v)(D:v'.u.h=v.u.h\/μ.length<=v'.u.h)(hb:v'.b=v.b\/μ.length<=v'.b)
  (gh:μ'[v'.u.h]?=aA (v'.u.house x y z ah sd)) (gs:μ'[v.u.s]?=aA v'.u.seat) (et:v'.u.bt=.mut v'.b) (gb:μ'[v'.b]?=aA (.lst (v'.bs.map X.btT))):Wm μ' w cm gr g d x y z ah sd now (vs.set i v') rs ps:=by
 obtain⟨W,bt,bl,bn,bg⟩:=M;have t:v∈vs:=bK hi;have B:v.u∈vs.map (·.u):=b7.mpr ⟨v,t,rfl⟩;have r:=W.hs _ B;have hs:=W.se _ B;have C:=bl v t;have out:∀{j:Nat}{a:MO},μ[j]?=aA a->a≠v.u.house x y z ah sd->a≠v.u.seat->j≠v.b->μ'[j]?=aA a:=λ{j a} e n1 n2 n3=>ch.get e (by
  simp only[cK,ip,or_false,not_or];exact⟨zq e r n1,zq e hs n2,n3⟩)
 have nb:∀{j:Nat}{a:MO},μ[j]?=aA a->(∀l,a≠.lst l)->j≠v.b:=λ{j a} e n=>zq e C (n _);have o:∀{q:Hr},q∈(vs.set i v').map (·.u)->q=v'.u\/∃j p,j≠i/\vs[j]?=aA p/\q=p.u:=λ{q} k=>by
  obtain⟨p,A,rfl⟩:=b7.mp k;rcases yJ (P:=λ_=>True) A with rfl|⟨j,n,hj⟩
  .exact .inl rfl
  .exact .inr ⟨j,p,n,hj,rfl⟩
 have m:∀{j:Nat}{p:Vh},vs[j]?=aA p->p.u∈vs.map (·.u):=λh=>b7.mpr ⟨_,bK h,rfl⟩;have n1:(vs.map (·.u.s)).Nodup:=by have:=W.n1;rw[cT] at this;exact this
 have n2:(vs.map (·.u.h)).Nodup:=by have:=W.n2;rw[cT] at this;exact this
 have f:∀{j:Nat},j≠v.u.h->j≠v.u.s->j≠v.b->j∉[v.u.h,v.u.s,v.b]:=λa b c=>by
  simp only[cK,ip,or_false,not_or];exact⟨a,b,c⟩
 refine⟨⟨out W.wo (λe=>by cases e) (λe=>by cases e) (nb W.wo (λ_ e=>by cases e)),W.bk.ch ch (f (zq W.bk.com r (λe=>by cases e)) (zq W.bk.com hs (λe=>by cases e)) (nb W.bk.com (λ_ e=>by cases e))) (f (zq W.bk.lst r (λe=>by cases e)) (zq W.bk.lst hs (λe=>by cases e)) (bW (bg v t).1)) λp A=>?_,out W.gv (λe=>by cases e) (λe=>by cases e) (bW (bg v t).2),?_,λq k=>?_,λq k=>?_,λq k=>?_,?_,?_,W.gg⟩,λq k=>?_,λq k=>?_,?_,λq k=>?_⟩
 .exact f (zq (W.bk.at_ p A) r (λe=>by cases e)) (zq (W.bk.at_ p A) hs (λe=>by cases e)) (nb (W.bk.at_ p A) (λ_ e=>by cases e))
 .have e:((vs.set i v').map (·.u)).map jT=(vs.map (·.u)).map jT:=by
   rw[cT,cT];exact sf hi (by show jT v'.u=jT v.u;unfold jT;rw[sm.ho,sm.s])
  rw[e];exact out W.dc (λe=>by cases e) (λe=>by cases e) (nb W.dc (λ_ e=>by cases e))
 .rcases o k with rfl|⟨j,p,ne,hj,rfl⟩
  .rw[sm.s];exact gs
  .have e:=W.se _ (m hj);exact ch.get e (f (zq e r (λe=>by cases e)) (λe=>ne (u3 n1 hj hi e)) (nb e (λ_ e=>by cases e)))
 .rcases o k with rfl|⟨j,p,ne,hj,rfl⟩
  .rw[sm.c,sm.st,sm.ts];exact out (W.cl _ B) (λe=>by cases e) (λe=>by cases e) (nb (W.cl _ B) (λ_ e=>by cases e))
  .exact out (W.cl _ (m hj)) (λe=>by cases e) (λe=>by cases e) (nb (W.cl _ (m hj)) (λ_ e=>by cases e))
 .rcases o k with rfl|⟨j,p,ne,hj,rfl⟩
  .exact gh
  .have e:=W.hs _ (m hj);exact ch.get e (f (λe=>ne (u3 n2 hj hi e)) (zq e hs (λe=>by cases e)) (nb e (λ_ e=>by cases e)))
 .rw[cT];exact XM n1 hi (.inl sm.s)
 .rw[cT];refine XM n2 hi (D.imp id λh q k e=>?_);have:=qP (W.hs q.u (b7.mpr ⟨q,k,rfl⟩));have e:q.u.h=v'.u.h:=e;lia
 .rcases yJ (P:=λ_=>True) k with rfl|⟨j,n,hj⟩
  .exact et
  .exact bt q (bK hj)
 .rcases yJ (P:=λ_=>True) k with rfl|⟨j,n,hj⟩
  .exact gb
  .have e:=bl q (bK hj);exact ch.get e (f (zq e r (λe=>by cases e)) (zq e hs (λe=>by cases e)) (λe=>n (u3 bn hj hi e)))
 .refine XM bn hi (hb.imp id λh q k e=>?_);have:=qP (bl q k);have e:q.b=v'.b:=e;lia
 .rcases yJ (P:=λ_=>True) k with rfl|⟨j,n,hj⟩
  .rcases hb with h|h
   .rw[h];exact bg v t
   .have h1:=qP W.bk.lst;have h2:=qP W.gv;constructor<;>lia
  .exact bg q (bK hj)
theorem Wm.book{ps':List Gp}(M:Wm μ w cm gr g d x y z ah sd now vs rs ps)(ch:Ch S μ μ')(k:∀j∈S,j=gr\/∃p∈ps,j=p.1)(B:Bk μ' cm gr (bC x y z) ps'):Wm μ' w cm gr g d x y z ah sd now vs rs ps':=by
 obtain⟨W,bt,bl,bn,bg⟩:=M;have c:∀{j:Nat}{a:MO},μ[j]?=aA a->j≠gr->(∀G:Gr,a≠G.O)->j∉S:=λ{j a} e n1 n2 hj=>by
  rcases k j hj with h|⟨p,i,h⟩
  .exact n1 h
  .exact zq e (W.bk.at_ p i) (n2 p.2) h
 have nl:∀{j:Nat}{a:MO},μ[j]?=aA a->(∀l,a≠.lst l)->j≠gr:=λ{j a} e n=>zq e W.bk.lst (n _);exact⟨⟨ch.get W.wo (c W.wo (nl W.wo (λ_ e=>by cases e)) (λ_ e=>by cases e)),B,ch.get W.gv (c W.gv W.gg (λ_ e=>by cases e)),ch.get W.dc (c W.dc (nl W.dc (λ_ e=>by cases e)) (λ_ e=>by cases e)),λu b=>ch.get (W.se u b) (c (W.se u b) (nl (W.se u b) (λ_ e=>by cases e)) (λ_ e=>by cases e)),λu b=>ch.get (W.cl u b) (c (W.cl u b) (nl (W.cl u b) (λ_ e=>by cases e)) (λ_ e=>by cases e)),λu b=>ch.get (W.hs u b) (c (W.hs u b) (nl (W.hs u b) (λ_ e=>by cases e)) (λ_ e=>by cases e)),W.n1,W.n2,W.gg⟩,bt,λv f=>ch.get (bl v f) (c (bl v f) (bg v f).1 (λ_ e=>by cases e)),bn,bg⟩
theorem Wm.now'(M:Wm μ w cm gr g d x y z ah sd now vs rs ps):Wm (μ.set w (kR x y z ah sd cm g d nw)) w cm gr g d x y z ah sd nw vs rs ps:=
 ⟨M.W.now',M.bt,λv a=>by rw[bR (bW (zq (M.bl v a) M.W.wo (λe=>by cases e)))];exact M.bl v a,M.bn,M.bg⟩
theorem Wm.gave(M:Wm μ w cm gr g d x y z ah sd now vs rs ps):Wm (μ.set g (.lst r)) w cm gr g d x y z ah sd now vs r ps:=
 ⟨M.W.gave,M.bt,λv a=>by rw[bR (bW (M.bg v a).2)];exact M.bl v a,M.bn,M.bg⟩
end
section
variable {x y z ah sd r k t:Int}{i j:Nat}{ps ps':List Gp}{vs:List Vh}{v v':Vh}{a:Ls}{n m:Option Int}{nm:Int}
noncomputable abbrev E3:=Int×aH×Int
abbrev Df(y z:Int)(G:Gr)(nm:Int):Prop:=nm / z % y=G.h/\G.f<=nm / z / y/\nm / z / y<G.u
abbrev py(y z:Int)(a:Ls)(nm:Int):Prop:=nm / z % y=a.1/\a.2.1<=nm / z / y/\nm / z / y<a.2.2
abbrev fZ(y z:Int)(ps:List Gp)(ho:aH)(nm:Int):Prop:=∃p∈ps,p.2.ho=ho/\Df y z p.2 nm
structure Hd(x y z r ah:Int)(a:Ls)(n m:Option Int)(nm:Int):Prop where
 il:py y z a nm
 nb:0<=nm/\nm<x*y*z
 up:∀j,n=aA j->j<nm
 ma:∀v,n=aE->m=aA v->v<nm / z / y
 rd:r<=nm / z / y/\nm / z / y<=r+ah
theorem Ot(z1:1<=z):Jq y z a.1 n m<=zj y z a n m r/\a.2.1*z<=zj y z a n m r/\r*z<=zj y z a n m r:=by
 have h:r*z<=(if a.2.1<r then r else a.2.1)*z:=iO (by split<;>lia) (by lia);have b:a.2.1*z<=(if a.2.1<r then r else a.2.1)*z:=iO (by split<;>lia) (by lia);unfold zj;generalize (if a.2.1<r then r else a.2.1)*z=c at h b ⊢;split<;>lia
theorem HI(s:Hz x y z)(ok:eT x y a)(J:zj y z a n m r+k<=a.2.2*z)(g:ix z r ah (zj y z a n m r+k)<=0)(d:nm∈cF y z a.1 (zj y z a n m r) k):Hd x y z r ah a n m nm:=by
 obtain⟨D,C,B,h,A⟩:=id s;obtain⟨c,I,H⟩:=Ot (y:=y) (a:=a) (n:=n) (m:=m) (r:=r) h;have bn:=yi (n:=n) (m:=m) (r:=r) s ok;have l:=ok.ux;have E:a.2.2*z<=x*z:=iO l (by lia);have g:(zj y z a n m r+k-1) / z-(r+ah)<=0:=g;unfold cF at d;obtain⟨j,f,rfl⟩:=b7.mp d;have f:=lP.mp f;generalize zj y z a n m r=b at *;obtain⟨p1,o,F⟩:=Kl (p:=b+j) s ok.h0 ok.h1;have u:a.2.1<=(b+j) / z:=(rF (by lia)).mpr (by lia);have t:(b+j) / z<a.2.2:=rB (by lia) (by lia);have q:r<=(b+j) / z:=(rF (by lia)).mpr (by lia);have G:(b+j) / z<=(b+k-1) / z:=t8 (by lia) (by lia);refine⟨⟨o,by rw[p1];exact⟨u,t⟩⟩,MB s ok.h0 ok.h1 (by lia) (by lia),λi e=>?_,λv e w=>?_,by rw[p1];exact⟨q,by lia⟩⟩
 .subst e;exact (MZ s ok.h0 ok.h1).mpr (show mz y z a.1 i<=b+j by have:mz y z a.1 i<=b:=c;lia)
 .subst e w;have c:(v+1)*z<=b:=c;rw[p1];have:v+1<=(b+j) / z:=(rF (by lia)).mpr (by lia);lia
theorem Gx(s:Hz x y z)(ok:eT x y a){b:Int}:(cF y z a.1 b k).Pairwise (·<·):=by
 unfold cF;rw[lb];exact DS (λh=>YG s ok.h0 ok.h1 (by lia)) List.pairwise_lt_range
theorem YB(s:Hz x y z)(ok:eT x y a)(k1:1<=k):lq y z a n m r k∈cF y z a.1 (zj y z a n m r) k/\∀nm∈cF y z a.1 (zj y z a n m r) k,nm<=lq y z a n m r k:=by
 show eZ y z a.1 (zj y z a n m r+k-1)∈_/\∀nm∈_,nm<=eZ y z a.1 (zj y z a n m r+k-1);generalize zj y z a n m r=b;unfold cF;refine⟨b7.mpr ⟨(k-1).toNat,lP.mpr (by lia),by rw[show b+((k-1).toNat:Int)=b+k-1 by lia]⟩,λnm h=>?_⟩;obtain⟨j,c,rfl⟩:=b7.mp h;have c:=lP.mp c;by_cases e:(j:Int)=k-1
 .rw[show b+(j:Int)=b+k-1 by lia];exact fT _
 .exact nN (YG s ok.h0 ok.h1 (by lia))
theorem GU(s:Hz x y z)(ok:eT x y a)(u:zj y z a n m r+k<=a.2.2*z)(k1:1<=k)(hd:0<=sd)(g:∀v,m=aA v->0<=v/\v<x):0<=gC x y z sd a n m r k/\gC x y z sd a n m r k<x/\lq y z a n m r k / z / y<=gC x y z sd a n m r k/\∀v,m=aA v->v<=gC x y z sd a n m r k:=by
 obtain⟨o,l,j,i,h⟩:=id s;have bn:=yi (n:=n) (m:=m) (r:=r) s ok;have b:=ok.ux;have t:a.2.2*z<=x*z:=iO b (by lia);show 0<=mC x sd m ((zj y z a n m r+k-1) / z)/\mC x sd m ((zj y z a n m r+k-1) / z)<x/\eZ y z a.1 (zj y z a n m r+k-1) / z / y<=mC x sd m ((zj y z a n m r+k-1) / z)/\∀v,m=aA v->v<=mC x sd m ((zj y z a n m r+k-1) / z);rw[(Kl s ok.h0 ok.h1).1];have f:0<=(zj y z a n m r+k-1) / z:=rj (by lia) (by lia);have d:(zj y z a n m r+k-1) / z<x:=rB (by lia) (by lia);generalize (zj y z a n m r+k-1) / z=c at f d;unfold mC;cases m with
 |none=>
  refine⟨?_,?_,?_,λv e=>by cases e⟩<;>(show _ ;unfold gV;split<;>lia)
 |some w=>
  obtain⟨q,p⟩:=g w rfl;refine⟨?_,?_,?_,λv e=>?_⟩
  .show 0<=if c<=w then w else gV (c+sd) (x-1)
   unfold gV;split<;>(try split)<;>lia
  .show (if c<=w then w else gV (c+sd) (x-1))<x;unfold gV;split<;>(try split)<;>lia
  .show c<=if c<=w then w else gV (c+sd) (x-1)
   unfold gV;split<;>(try split)<;>lia
  .cases e;show w<=if c<=w then w else gV (c+sd) (x-1)
   unfold gV;split<;>(try split)<;>lia
structure gO(x y z:Int)(ps:List Gp)(v:Vh):Prop where
 h1:v.u.ho.length<=aT
 h2:wm v.u.ho=aB
 ok:oX x y v.u.l
 nb:∀k,v.u.n=aA k->0<=k/\k<x*y*z
 mb:∀w,v.u.m=aA w->0<=w/\w<x
 kt:kZ v.u.kt v.u.l v.u.m
 ls:∀a,v.u.l=aA a->∃p∈ps,p.2.ho=v.u.ho/\p.2.h=a.1/\p.2.f=a.2.1/\p.2.u0=a.2.2/\p.2.ct=aC
 nm:∀k,v.u.n=aA k->∃w,v.u.m=aA w/\k / z / y<=w
 la:∀a,v.la=aA a->(∃w,v.u.m=aA w/\a / z / y<=w)/\∀k,v.u.n=aA k->a<=k
 bo:X.BOk x y z v.bs
 bi:∀q∈X.nmB y z v.bs,(0<=q/\q<x*y*z)/\(∀a,v.la=aA a->a<q)/\(∃k,v.u.n=aA k/\q<=k)/\fZ y z ps v.u.ho q
 bp:(X.nmB y z v.bs).Pairwise (·<·)
def Nf (y z:Int)(v:Vh)(nm:Int):Prop:=(∃a,v.la=aA a/\nm<=a)\/((∀a,v.u.l=aA a->¬py y z a nm)/\nm∉X.nmB y z v.bs)
structure dA(x y z:Int)(vs:List Vh)(ps:List Gp)(es:List E3):Prop where
 gd:Gd x y ps
 nh:(vs.map (·.u.ho)).Nodup
 v:∀v∈vs,gO x y z ps v
 eb:∀e∈es,0<=e.2.2/\e.2.2<x*y*z
 eg:∀e∈es,fZ y z ps e.2.1 e.2.2
 en:∀e∈es,∀v∈vs,v.u.ho=e.2.1->Nf y z v e.2.2
 nd:(es.map (·.2.2)).Nodup
variable {es:List E3}
theorem fZ.mono(h:fZ y z ps ho nm)(s:∀p∈ps,p∈ps'):fZ y z ps' ho nm:=let ⟨p,a,r⟩:=h;⟨p,s p a,r⟩
theorem gO.mono(V:gO x y z ps v)(s:∀p∈ps,p∈ps'):gO x y z ps' v:=
 ⟨V.h1,V.h2,V.ok,V.nb,V.mb,V.kt,λa e=>let ⟨p,g,r⟩:=V.ls a e;⟨p,s p g,r⟩,V.nm,V.la,V.bo,λq f=>let ⟨a,b,c,d⟩:=V.bi q f;⟨a,b,c,d.mono s⟩,V.bp⟩
theorem Gd.same(G:Gd x y ps){p q:Gp}(b:p∈ps)(a:q∈ps)(e:p.2.h=q.2.h)(m:p.2.f<p.2.u/\q.2.f<q.2.u/\p.2.f<q.2.u/\q.2.f<p.2.u):p=q:=by
 obtain⟨i,hi⟩:=fN.mp b;obtain⟨j,hj⟩:=fN.mp a;have:=G.one hi hj e m;subst this;rw[hi] at hj;exact bQ hj
theorem Gd.name(G:Gd x y ps){p q:Gp}(b:p∈ps)(a:q∈ps)(h1:Df y z p.2 nm)(h2:Df y z q.2 nm):p=q:=
 G.same b a (h1.1.symm.trans h2.1) ⟨by lia,by lia,by lia,by lia⟩
theorem CB(n:(vs.map (·.u.ho)).Nodup)(hi:vs[i]?=aA v)(e:v'.u.ho=v.u.ho):((vs.set i v').map (·.u.ho)).Nodup:=by rw[sf (f:=λq:Vh=>q.u.ho) hi e];exact n
theorem dA.upd(I:dA x y z vs ps es)(hi:vs[i]?=aA v)(V:gO x y z ps v')(ho:v'.u.ho=v.u.ho)(h:∀nm,Nf y z v nm->Nf y z v' nm):dA x y z (vs.set i v') ps es:=by
 refine⟨I.gd,CB I.nh hi ho,λq a=>?_,I.eb,I.eg,λe he q a eq=>?_,I.nd⟩
 .rcases yJ (P:=λ_=>True) a with rfl|⟨j,n,hj⟩
  .exact V
  .exact I.v q (bK hj)
 .rcases yJ (P:=λ_=>True) a with rfl|⟨j,n,hj⟩
  .exact h _ (I.en e he v (bK hi) (ho.symm.trans eq))
  .exact I.en e he q (bK hj) eq
theorem dA.new(I:dA x y z vs ps es)(d:v∈vs)(h1:∀a,v.la=aA a->a<nm)(h2:fZ y z ps v.u.ho nm)(c:(∃a,v.u.l=aA a/\py y z a nm)\/nm∈X.nmB y z v.bs):nm∉es.map (·.2.2):=by
 intro k;obtain⟨e,he,rfl⟩:=b7.mp k;obtain⟨p,j,ep,g⟩:=I.eg e he;obtain⟨q,i,eq,f⟩:=h2;have:=I.gd.name j i g f;subst this;rcases I.en e he v d (eq.symm.trans ep) with⟨a,b,m⟩|⟨n1,n2⟩
 .have:=h1 a b;lia
 .rcases c with⟨a,b,h⟩|c
  .exact n1 a b h
  .exact n2 c
theorem dA.tell{L:List Int}(I:dA x y z vs ps es)(i:v∈vs)(up:L.Pairwise (·<·))(h:∀nm∈L,(0<=nm/\nm<x*y*z)/\fZ y z ps v.u.ho nm/\Nf y z v nm/\nm∉es.map (·.2.2)):dA x y z vs ps (es++L.map λnm=>(t,v.u.ho,nm)):=by
 have c:∀e∈es++L.map (λnm=>((t,v.u.ho,nm):E3)),e∈es\/∃nm∈L,e=(t,v.u.ho,nm):=λe he=>by
  rcases b_.mp he with h|h
  .exact .inl h
  .obtain⟨nm,h1,rfl⟩:=b7.mp h;exact .inr ⟨nm,h1,rfl⟩
 refine⟨I.gd,I.nh,I.v,λe he=>?_,λe he=>?_,λe he q g eq=>?_,?_⟩
 .rcases c e he with h'|⟨nm,h',rfl⟩
  .exact I.eb e h'
  .exact (h nm h').1
 .rcases c e he with h'|⟨nm,h',rfl⟩
  .exact I.eg e h'
  .exact (h nm h').2.1
 .rcases c e he with h'|⟨nm,h',rfl⟩
  .exact I.en e h' q g eq
  .obtain⟨a,d⟩:=fN.mp g;obtain⟨b,hb⟩:=fN.mp i;have:=u3 (f:=(·.u.ho)) I.nh d hb eq;subst this;rw[d] at hb;cases hb;exact (h nm h').2.2.1
 .rw[dO,cT,lg];refine⟨I.nd,?_,λa d b hb e=>?_⟩
  .show (L.map λnm=>nm).Nodup;rw[List.map_id'];exact up.imp λh=>by lia
  .obtain⟨nm,j,rfl⟩:=b7.mp hb;have e:a=nm:=e;subst e;exact (h a j).2.2.2 d
theorem dA.lease{h b l:Int}{ad:Nat}(I:dA x y z vs ps es)(hi:vs[i]?=aA v)(h0:0<=h)(h1:h<y)(b0:0<=b)(l1:1<=l)(b1:b+l<=x)(fr:∀p∈ps,p.2.h=h->mt p.2 b (b+l)=aC){kt:T}(hk:kZ kt (aA (h,b,b+l)) v.u.m) :
  dA x y z (vs.set i {v with u:={v.u with l:=aA (h,b,b+l),kt:=kt}}) (ps++[(ad,⟨v.u.ho,h,b,b+l,b+l,aC⟩)]) es:=by
 have g:=bK hi;have sub:∀p∈ps,p∈ps++[((ad,⟨v.u.ho,h,b,b+l,b+l,aC⟩):Gp)]:=λp d=>eY _ d;have o:Gd x y (ps++[(ad,⟨v.u.ho,h,b,b+l,b+l,aC⟩)]):=I.gd.add (q:=(ad,⟨v.u.ho,h,b,b+l,b+l,aC⟩)) ⟨h0,h1,b0,by show b<b+l;lia,b1,by show b<=b+l;lia,fT _,λ_=>rfl⟩ λp d e=>fr p d e;have f:dA x y z vs (ps++[(ad,⟨v.u.ho,h,b,b+l,b+l,aC⟩)]) es:=⟨o,I.nh,λq c=>(I.v q c).mono sub,I.eb,λe he=>(I.eg e he).mono sub,I.en,I.nd⟩;have V:=f.v v g;refine⟨o,CB I.nh hi rfl,λq c=>?_,I.eb,f.eg,λe he q c eq=>?_,I.nd⟩
 .rcases yJ (P:=λ_=>True) c with rfl|⟨j,n,hj⟩
  .exact⟨V.h1,V.h2,λa e=>by cases e;exact⟨h0,h1,b0,by show b<b+l;lia,b1⟩,V.nb,V.mb,hk,λa e=>by cases e;exact⟨_,dH _ (bU.mpr rfl),rfl,rfl,rfl,rfl,rfl⟩,V.nm,V.la,V.bo,V.bi,V.bp⟩
  .exact f.v q (bK hj)
 .rcases yJ (P:=λ_=>True) c with rfl|⟨j,n,hj⟩
  .rcases I.en e he v g eq with h'|⟨_,h'⟩
   .exact .inl h'
   .refine .inr ⟨λa ea il=>?_,h'⟩;cases ea;obtain⟨p,d,_,s⟩:=I.eg e he;have r:=fr p d (s.1.symm.trans il.1);have k:mt p.2 b (b+l)=aB:=vV.mpr ⟨by lia,by have:=il.2.2;lia,by have:=il.2.1;lia,by lia⟩;rw[r] at k;cases k
  .exact I.en e he q (bK hj) eq
theorem JU{p q:Gp}{e:Int}(a:q∈ps)(n:q.1≠p.1):q∈dI p.1 e ps:=by
 unfold dI;exact b7.mpr ⟨q,a,if_neg n⟩
theorem XX{p q:Int}(y1:1<=y)(z1:1<=z)(h:p<=q):p / z / y<=q / z / y:=t8 (by lia) (t8 (by lia) h)
theorem dA.cut{p:Gp}{e:Int}(s:Hz x y z)(I:dA x y z vs ps es)(nd:(ps.map (·.1)).Nodup)(hi:vs[i]?=aA v)(H:v.u.l=aA a)(C:p∈ps)(L:p.2.h=a.1)(e2:p.2.f=a.2.1)(e3:p.2.u0=a.2.2)(e4:p.2.ct=aC)
  (B:Ap a.2.1 a.2.2 (dR (yD a.2.1 a.2.2 (Vb y z v.u.n v.u.m))) e) {kt:T}(hk:kZ kt aE v.u.m) {b:Nat}{bt:T} :
  dA x y z (vs.set i ⟨{v.u with l:=aE,kt:=kt,bt:=bt},b,[],v.la⟩) (dI p.1 e ps) es:=by
 obtain⟨x1,y1,y2,z1,z2⟩:=id s;have E:=bK hi;have V:=I.v v E;have M:=I.gd.ok p C;have pu:p.2.u=p.2.u0:=M.op e4;have fu0:=M.fu0;obtain⟨g,A,F,U,o3,o4,S⟩:=V.ls a H;have O:g.2.u=g.2.u0:=(I.gd.ok g A).op S;have R:g=p:=I.gd.same A C (U.trans L.symm) ⟨by lia,by lia,by lia,by lia⟩;subst R;have inj:∀q∈ps,q.1=g.1->q=g:=λq d e=>by
  obtain⟨j,hj⟩:=fN.mp d;obtain⟨k,hk⟩:=fN.mp C;have h1:(ps.map (·.1))[j]?=aA g.1:=by rw[cE,hj];exact congrArg aA e
  have h2:(ps.map (·.1))[k]?=aA g.1:=by rw[cE,hk];rfl
  obtain⟨l1,K⟩:=bE.mp h1;obtain⟨G,J⟩:=bE.mp h2;have:j=k:=by
   rcases DR j k with h|h|h
   .exact absurd (K.trans J.symm) (hQ.mp nd j k l1 G h)
   .exact h
   .exact absurd (J.trans K.symm) (hQ.mp nd k j G l1 h)
  subst this;rw[hj] at hk;exact bQ hk
 have o:∀q∈ps,q.2.ho≠v.u.ho->q∈dI g.1 e ps:=λq d n=>JU d λe=>n (by rw[inj q d e];exact F);have eb:a.2.1<=e/\e<=a.2.2:=by
  rcases B with⟨_,rfl⟩|⟨s,_,h1,h2,rfl⟩<;>(constructor<;>lia)
 have G':Gd x y (dI g.1 e ps):=by
  obtain⟨k,hk⟩:=fN.mp C;rw[K7 nd hk];exact I.gd.cut hk (by lia) (by lia)
 refine⟨G',CB I.nh hi rfl,λq d=>?_,I.eb,λr hr=>?_,λr hr q d eq=>?_,I.nd⟩
 .rcases yJ (P:=λ_=>True) d with rfl|⟨j,n,hj⟩
  .exact⟨V.h1,V.h2,(λa e=>by cases e),V.nb,V.mb,hk,(λa e=>by cases e),V.nm,V.la,X.BOk.nil,(λq d=>by cases d),lV⟩
  .have Q:=I.v q (bK hj);have ne:q.u.ho≠v.u.ho:=λe=>n (u3 (f:=(·.u.ho)) I.nh hj hi e);exact⟨Q.h1,Q.h2,Q.ok,Q.nb,Q.mb,Q.kt,λa e=>by
    obtain⟨r,hr,h1,h2⟩:=Q.ls a e;exact⟨r,o r hr (by rw[h1];exact ne),h1,h2⟩,Q.nm,Q.la,Q.bo,λw hw=>by
    obtain⟨c0,c1,c2,r,hr,h1,h2⟩:=Q.bi w hw;exact⟨c0,c1,c2,r,o r hr (by rw[h1];exact ne),h1,h2⟩,Q.bp⟩
 .obtain⟨q,d,h1,h2⟩:=I.eg r hr;by_cases c:q.1=g.1
  .have:=inj q d c;subst this;refine⟨(q.1,{q.2 with u:=e,ct:=aB}),b7.mpr ⟨q,d,if_pos rfl⟩,h1,h2.1,h2.2.1,?_⟩;show r.2.2 / z / y<e;have il:py y z a r.2.2:=⟨h2.1.trans L,by have:=h2.2.1;lia,by have:=h2.2.2;lia⟩;rcases I.en r hr v E (F.symm.trans h1) with⟨w,hw,D⟩|⟨n1,_⟩
   .obtain⟨⟨W,hm,m1⟩,Y⟩:=V.la w hw;have D:=XX y1 z1 D;have:∃t,Vb y z v.u.n v.u.m=aA t/\r.2.2 / z / y<=t:=by
     cases Z:v.u.n with
     |none=>exact⟨W,hm,by lia⟩
     |some k=>exact⟨k / z / y,rfl,mX D (XX y1 z1 (Y k Z))⟩
    obtain⟨t,et,tl⟩:=this;rw[et] at B;have i1:=il.2.1;have i2:=il.2.2;have N:yD a.2.1 a.2.2 (aA t)=aA (if a.2.2-1<t then a.2.2-1 else t):=by
     unfold yD;exact if_neg (by lia)
    rw[N] at B;rcases B with⟨h,_⟩|⟨s,h,_,_,rfl⟩
    .cases h
    .have h:(if a.2.2-1<t then a.2.2-1 else t)=s:=by injection h
     subst h;split<;>lia
   .exact (n1 a H il).elim
  .exact⟨q,JU d c,h1,h2⟩
 .rcases yJ (P:=λ_=>True) d with rfl|⟨j,n,hj⟩
  .exact .inr ⟨(λa e=>by cases e),λh=>by cases h⟩
  .exact I.en r hr q (bK hj) eq
end
section
variable {μ μ':Mem}{K:T->Mem->Prop}{Z:Xp}{x y z ah sd t k:Int}{w cm gr g d i j:Nat}{now:T}{rs:List T}{ps ps':List Gp}{vs:List Vh}{v v':Vh}{wd:aH}{L:List Int}
structure iV(x y z ah sd:Int):Prop where
 s:Hz x y z
 xb:x<=10000000000000
 zb:z<=12
 a0:0<=ah
 d0:0<=sd
structure Kq(gr g d:Nat)(vs:List Vh)(μ μ':Mem):Prop where
 len:μ.length<=μ'.length
 ot:∀i o,μ[i]?=aA o->¬mD o->Fr gr g d vs i->μ'[i]?=aA o
theorem Kq.of{S:List Nat}(ch:Ch S μ μ')(h:∀j∈S,(∃o,μ[j]?=aA o/\mD o)\/j=gr\/j=g\/∃v∈vs,j=v.b):Kq gr g d vs μ μ':=
 ⟨ch.len,λi o e n F=>ch.get e λf=>by
  rcases h i f with⟨k,a,h⟩|h|h|⟨v,c,h⟩
  .rw[e] at a;cases a;exact n h
  .exact F.n1 h
  .exact F.n2 h
  .exact F.n4 v c h⟩
theorem Fr.of{o:MO}(M:Wm μ w cm gr g d x y z ah sd now vs rs ps)(h:μ[i]?=aA o)(n1:∀l,o≠.lst l)(n2:∀l,o≠.dic l):Fr gr g d vs i:=
 ⟨zq h M.W.bk.lst (n1 _),zq h M.W.gv (n1 _),zq h M.W.dc (n2 _),λv a=>zq h (M.bl v a) (n1 _)⟩
theorem Fr.set{L:Nat}(F:Fr gr g d vs j)(hj:j<L)(hi:vs[i]?=aA v)(hb:v'.b=v.b\/L<=v'.b):Fr gr g d (vs.set i v') j:=
 ⟨F.n1,F.n2,F.n3,λq c=>by
  rcases yJ (P:=λ_=>True) c with rfl|⟨e,n,a⟩
  .rcases hb with h|h
   .rw[h];exact F.n4 v (bK hi)
   .lia
  .exact F.n4 q (bK a)⟩
theorem Fr.new(M:Wm μ w cm gr g d x y z ah sd now vs rs ps)(hj:μ.length<=j)(hi:vs[i]?=aA v)(n:j≠v'.b):Fr gr g d (vs.set i v') j:=by
 have h1:=qP M.W.bk.lst;have h2:=qP M.W.gv;have f:=qP M.W.dc;refine⟨by lia,by lia,by lia,λq c=>?_⟩;rcases yJ (P:=λ_=>True) c with rfl|⟨e,_,a⟩
 .exact n
 .have:=qP (M.bl q (bK a));lia
structure fX(w cm gr g d:Nat)(x y z ah sd t:Int)(now:T)(rs:List T)(vs:List Vh)(ps:List Gp)(i:Nat)(v:Vh)(wd:aH)(μ μ':Mem)(j:Nat)(L:List Int)(v':Vh)(ps':List Gp):Prop where
 M:Wm μ' w cm gr g d x y z ah sd now (vs.set i v') rs ps'
 sm:C_ v' v
 hj:μ'[j]?=aA (.lst (L.map T.int))
 jn:μ.length<=j
 fj:Fr gr g d (vs.set i v') j
 kp:Kq gr g d vs μ μ'
 fr:∀q,q<μ.length->Fr gr g d vs q->Fr gr g d (vs.set i v') q
 I:∀es,dA x y z vs ps es->dA x y z (vs.set i v') ps' (es++L.map λnm=>(t,v.u.ho,nm))
 up:L.Pairwise (·<·)
 gt:∀nm∈L,0<=nm/\∀a,v.la=aA a->a<nm
 la:v'.la=if L=[] then (if wd="bare" then aE else v.la) else L.getLast?
 ask:wd="ask"->∀nm∈L,v.u.rd t<=nm / z / y/\nm / z / y<=v.u.rd t+ah
 ln:L.length<=12
 pl:ps'.length<=ps.length+1
 bl:v'.bs.length<=v.bs.length+1
 nl:(X.nmB y z v'.bs).length<=(X.nmB y z v.bs).length+12
abbrev lx(w cm gr g d:Nat)(x y z ah sd t:Int)(now:T)(rs:List T)(vs:List Vh)(ps:List Gp)(i:Nat)(v:Vh)(wd:aH)(μ:Mem)(K:T->Mem->Prop):Prop:=
 ∀j L v' ps' μ',fX w cm gr g d x y z ah sd t now rs vs ps i v wd μ μ' j L v' ps'->K (.mut j) μ'
theorem l3(I:dA x y z vs ps es):((vs.map (·.u)).map (·.ho)).Nodup:=by rw[cT];exact I.nh
theorem iT(hi:vs[i]?=aA v):(vs.map (·.u))[i]?=aA v.u:=by rw[cE,hi];rfl
theorem vA{r:List T}(M:Wm μ w cm gr g d x y z ah sd now vs rs ps)(hi:vs[i]?=aA v)(nd:((vs.map (·.u)).map (·.ho)).Nodup)
  (q:qp (vj.drop 2) [aA (.mut w),aA (.tup (.str wd::.int t::.str v.u.ho::r)),aA (.mut v.u.s),aA (.int (v.u.rd t)),aE] μ (En.fn K Z)):zx [.mut w,.tup (.str wd::.int t::.str v.u.ho::r)] μ K Z:=by
 have a:=bK (iT hi);have W:=M.W;unfold zx;refine⟨rfl,_,_,_,W.wo,rfl,_,ZC,_,_,.inl W.dc,VY (iT hi) nd,_,_,_,W.se _ a,rfl,_,W.cl _ a,_,UR,?_⟩;exact uh (W.cl _ a) q
theorem JO(W:eO μ w cm gr g d x y z ah sd now us rs ps){u:Hr}(a:u∈us):(∃o,μ[u.h]?=aA o/\mD o)/\∃o,μ[u.s]?=aA o/\mD o:=⟨⟨_,W.hs u a,_,_,rfl⟩,⟨_,W.se u a,_,_,rfl⟩⟩
theorem Ym{L:List Int}{b:Int}(f:b∈L)(g:∀a∈L,a<=b)(up:L.Pairwise (·<·)):L.getLast?=aA b:=by
 have d:L≠[]:=λe=>by rw[e] at f;cases f
 rw[zs d];have i:=g _ (tV d);have j:b<=L.getLast d:=by
  clear g i;induction L with
  |nil=>exact absurd rfl d
  |cons a r h=>
   rw[Eg] at up;cases r with
   |nil=>rw[bU.mp f];exact fT _
   |cons c r=>
    rw[List.getLast_cons (by simp)];rcases cK.mp f with rfl|f
    .exact nN (up.1 _ (tV _))
    .exact h f up.2 (by simp)
 congr 1;lia
theorem gO.gtla(V:gO x y z ps v)(y1:1<=y)(z1:1<=z){r:Int}{a:Ls}{nm:Int}(H:Hd x y z r ah a v.u.n v.u.m nm):∀b,v.la=aA b->b<nm:=λb hb=>by
 obtain⟨⟨w,hw,h1⟩,h2⟩:=V.la b hb;cases d:v.u.n with
 |some k=>have:=H.up k d;have:=h2 k d;lia
 |none=>
  have:=H.ma w d hw;by_cases c:nm<=b
  .have:=XX y1 z1 c;lia
  .lia
theorem gO.hasl(V:gO x y z ps v)(G:Gd x y ps){a:Ls}(h:v.u.l=aA a){nm:Int}(il:py y z a nm):fZ y z ps v.u.ho nm:=by
 obtain⟨p,b,g,f,e,d,c⟩:=V.ls a h;have:=(G.ok p b).op c;exact⟨p,b,g,il.1.trans f.symm,by rw[e];exact il.2.1,by rw[this,d];exact il.2.2⟩
theorem Kz (hw:wd="ask") (N:iV x y z ah sd) (M:Wm μ w cm gr g d x y z ah sd now vs rs ps) (I:dA x y z vs ps es) (hi:vs[i]?=aA v) (rb:-1000000000000000<=v.u.rd t) (k1:1<=k) (k2:k<=z)
  (qx:∀c fs,c=18\/c=21->Z c fs μ) (q:lx w cm gr g d x y z ah sd t now rs vs ps i v wd μ K) :
  zx [.mut w,Uz wd t v.u.ho k] μ K Z:=by
 obtain⟨x1,J,y2,H,z2⟩:=id N.s;have p:=bK (iT hi);have Q:=bK hi;have W:=M.W;have V:=I.v v Q;have zb:=N.zb;refine vA M hi (l3 I) ?_;refine⟨_,rfl,?_⟩;refine qe hw ?_;refine⟨_,_,_,W.se _ p,rfl,_,W.hs _ p,_,rfl,?_⟩;refine Lu N.s N.xb rb V.ok V.kt (by lia) (W.hs _ p) (W.se _ p) V.nb k1 k2 N.a0 qx λa ea U e2 G o j A hk ch D E ne gh gb gs gj=>?_;have ok:=V.ok a ea;have f:=λnm (h:nm∈cF y z a.1 (zj y z a v.u.n v.u.m (v.u.rd t)) k)=>HI N.s ok U e2 h;obtain⟨C,S⟩:=YB (n:=v.u.n) (m:=v.u.m) (r:=v.u.rd t) N.s ok k1;obtain⟨m0,m1,R,m3⟩:=GU (sd:=sd) N.s ok U k1 N.d0 V.mb;have up:(cF y z a.1 (zj y z a v.u.n v.u.m (v.u.rd t)) k).Pairwise (·<·):=Gx N.s ok;have ll:(cF y z a.1 (zj y z a v.u.n v.u.m (v.u.rd t)) k).length=k.toNat:=yM;have gl:=Ym C S up;have O:cF y z a.1 (zj y z a v.u.n v.u.m (v.u.rd t)) k≠[]:=λe=>by rw[e] at C;cases C
 have mu:∀c,v.u.m=aA c->c<=gC x y z sd a v.u.n v.u.m (v.u.rd t) k:=m3;generalize gC x y z sd a v.u.n v.u.m (v.u.rd t) k=B at *;generalize lq y z a v.u.n v.u.m (v.u.rd t) k=nn at *;generalize cF y z a.1 (zj y z a v.u.n v.u.m (v.u.rd t)) k=L at *
 have V':gO x y z ps ⟨{v.u with l:=aA a,m:=aA B,n:=aA nn,bt:=.mut A,kt:=o},A,[],aA nn⟩:=
  ⟨V.h1,V.h2,λY e=>by cases e;exact ok,λT e=>by cases e;exact (f nn C).nb,λc e=>by cases e;exact⟨m0,m1⟩,hk,λY e=>by cases e;exact V.ls a ea,λT e=>by cases e;exact⟨B,rfl,R⟩,λb e=>by cases e;exact⟨⟨B,rfl,R⟩,λT e=>by cases e;exact fT _⟩,X.BOk.nil,(λq P=>by cases P),lV⟩
 refine q j L ⟨{v.u with l:=aA a,m:=aA B,n:=aA nn,bt:=.mut A,kt:=o},A,[],aA nn⟩ ps G ⟨M.upd hi (ch.mono (by simp)) ⟨rfl,rfl,rfl,rfl,rfl⟩ (.inl rfl) (.inr E) gh gs rfl gb,⟨rfl,rfl,rfl,rfl,rfl⟩,gj,D,Fr.new M D hi ne,Kq.of ch (λj D=>?_),λq P F=>F.set P hi (.inr E),λes I=>?_,up,λnm h=>⟨(f nm h).nb.1,V.gtla J H (f nm h)⟩,?_,λ_ nm h=>(f nm h).rd,by lia,by lia,by simp,by show 0<=_;lia⟩
 .simp only[cK,ip,or_false] at D;rcases D with rfl|rfl
  .exact .inl (JO W p).1
  .exact .inl (JO W p).2
 .refine (I.upd hi V' rfl λnm hN=>?_).tell (v:=⟨{v.u with l:=aA a,m:=aA B,n:=aA nn,bt:=.mut A,kt:=o},A,[],aA nn⟩) (bK (lY (bE.mp hi).1)) up λnm h=>⟨(f nm h).nb,V.hasl I.gd ea (f nm h).il,.inl ⟨nn,rfl,S nm h⟩,I.new Q (V.gtla J H (f nm h)) (V.hasl I.gd ea (f nm h).il) (.inl ⟨a,ea,(f nm h).il⟩)⟩;rcases hN with⟨b,E,le⟩|⟨n1,n2⟩
  .have:=V.gtla J H (f nn C) b E;exact .inl ⟨nn,rfl,by lia⟩
  .exact .inr ⟨λY e=>by cases e;exact n1 a ea,λh=>by cases h⟩
 .rw[if_neg O];exact gl.symm
end
section
variable {μ μ':Mem}{K:T->Mem->Prop}{Z:Xp}{x y z ah sd t k:Int}{w cm gr g d i j:Nat}{now:T}{rs:List T}{ps ps':List Gp}{vs:List Vh}{v v':Vh}{wd:aH}{L:List Int}{es:List E3}
theorem Fr.len(M:Wm μ w cm gr g d x y z ah sd now vs rs ps)(hj:μ.length<=j):Fr gr g d vs j:=by
 have h1:=qP M.W.bk.lst;have h2:=qP M.W.gv;have b:=qP M.W.dc;exact⟨by lia,by lia,by lia,λq a=>by have:=qP (M.bl q a);lia⟩
theorem fX.nil (hi:vs[i]?=aA v) (a:Wm μ' w cm gr g d x y z ah sd now (vs.set i v') rs ps') (sm:C_ v' v) (hb:v'.b=v.b\/μ.length<=v'.b) (kp:Kq gr g d vs μ μ') (f:∀es,dA x y z vs ps es->dA x y z (vs.set i v') ps' es) (la:v'.la=if wd="bare" then aE else v.la) (pl:ps'.length<=ps.length+1) (bl:v'.bs.length<=v.bs.length+1) (nl:(X.nmB y z v'.bs).length<=(X.nmB y z v.bs).length+12) :
  fX w cm gr g d x y z ah sd t now rs vs ps i v wd μ (μ'++[.lst []]) μ'.length [] v' ps':=
 ⟨a.law Ch.app (by simp),sm,zc,kp.len,Fr.len a (bD _),⟨by simp;have:=kp.len;lia,λi o e n F=>z8 (kp.ot i o e n F)⟩,λq c F=>F.set c hi hb,λes I=>by rw[pT,gU];exact f es I,lV,(λnm h=>by cases h),by rw[la,if_pos rfl],(λ_ nm h=>by cases h),by simp,pl,bl,nl⟩
theorem sA{S:List Nat}(M:Wm μ w cm gr g d x y z ah sd now vs rs ps)(c:v∈vs)(ch:Ch S μ μ')(h:∀j∈S,j∈[v.u.h,v.u.s,v.b]):Kq gr g d vs μ μ':=Kq.of ch λj a=>by
 have e:v.u∈vs.map (·.u):=b7.mpr ⟨v,c,rfl⟩;have a:=h j a;simp only[cK,ip,or_false] at a;rcases a with rfl|rfl|rfl
 .exact .inl (JO M.W e).1
 .exact .inl (JO M.W e).2
 .exact .inr (.inr (.inr ⟨v,c,rfl⟩))
theorem CG(M:Wm μ w cm gr g d x y z ah sd now vs rs ps)(a:v∈vs):μ[v.u.h]?=aA (cL (bC x y z) ah sd (d_ v.u.s) v.u.l v.u.m v.u.n (.mut v.b) aC):=by
 have:=M.W.hs v.u (b7.mpr ⟨v,a,rfl⟩);rw[<-M.bt v a];exact this
theorem WZ (hw:wd="store") (N:iV x y z ah sd) (M:Wm μ w cm gr g d x y z ah sd now vs rs ps) (I:dA x y z vs ps es) (hi:vs[i]?=aA v) (rb:-1000000000000000<=v.u.rd t) (k1:1<=k) (k2:k<=z) (H:v.bs.length<=900)
  (qx:∀c fs,c=18\/c=21->Z c fs μ) (q:lx w cm gr g d x y z ah sd t now rs vs ps i v wd μ K) :
  zx [.mut w,Uz wd t v.u.ho k] μ K Z:=by
 obtain⟨x1,O,y2,J,z2⟩:=id N.s;have E:=bK (iT hi);have A:=bK hi;have W:=M.W;have V:=I.v v A;have zb:=N.zb;refine vA M hi (l3 I) ?_;refine⟨_,rfl,?_⟩;refine zA (by rw[hw];decide) ?_;refine⟨_,rfl,?_⟩;refine zA (by rw[hw];decide) ?_;refine⟨_,rfl,?_⟩;refine qe hw ?_;refine⟨_,_,_,W.se _ E,rfl,_,W.hs _ E,_,rfl,?_⟩;refine N4 N.s N.xb rb V.ok V.kt (CG M A) (W.se _ E) (M.bl v A) H V.bo.be V.nb k1 k2 N.a0 qx λa ea S e2 U j _ hk ch gh gs gb=>?_;have ok:=V.ok a ea;have Y:=ok.ux;have uz:a.2.2*z<=x*z:=iO Y (by lia);have bn:=yi (n:=v.u.n) (m:=v.u.m) (r:=v.u.rd t) N.s ok;have o:=λnm (h:nm∈cF y z a.1 (zj y z a v.u.n v.u.m (v.u.rd t)) k)=>HI N.s ok S e2 h;obtain⟨F,l2⟩:=YB (n:=v.u.n) (m:=v.u.m) (r:=v.u.rd t) N.s ok k1;obtain⟨m0,m1,m2,m3⟩:=GU (sd:=sd) N.s ok S k1 N.d0 V.mb;have up:(cF y z a.1 (zj y z a v.u.n v.u.m (v.u.rd t)) k).Pairwise (·<·):=Gx N.s ok;have ll:(cF y z a.1 (zj y z a v.u.n v.u.m (v.u.rd t)) k).length=k.toNat:=yM;have D:X.nmB y z (v.bs++[(a.1,zj y z a v.u.n v.u.m (v.u.rd t),zj y z a v.u.n v.u.m (v.u.rd t)+k)])=X.nmB y z v.bs++cF y z a.1 (zj y z a v.u.n v.u.m (v.u.rd t)) k:=by
  rw[X.nmB_snoc];show _++cF y z a.1 (zj y z a v.u.n v.u.m (v.u.rd t)) (zj y z a v.u.n v.u.m (v.u.rd t)+k-zj y z a v.u.n v.u.m (v.u.rd t))=_;rw[show zj y z a v.u.n v.u.m (v.u.rd t)+k-zj y z a v.u.n v.u.m (v.u.rd t)=k by lia]
 have Bo:X.BOk x y z (v.bs++[(a.1,zj y z a v.u.n v.u.m (v.u.rd t),zj y z a v.u.n v.u.m (v.u.rd t)+k)]):=V.bo.snoc ok.h0 ok.h1 bn (by show zj y z a v.u.n v.u.m (v.u.rd t)<=zj y z a v.u.n v.u.m (v.u.rd t)+k;lia) (by show zj y z a v.u.n v.u.m (v.u.rd t)+k<=_;lia) (by show zj y z a v.u.n v.u.m (v.u.rd t)+k-zj y z a v.u.n v.u.m (v.u.rd t)<=_;lia);generalize (a.1,zj y z a v.u.n v.u.m (v.u.rd t),zj y z a v.u.n v.u.m (v.u.rd t)+k)=bb at *;generalize gC x y z sd a v.u.n v.u.m (v.u.rd t) k=B at *;generalize lq y z a v.u.n v.u.m (v.u.rd t) k=nn at *;generalize cF y z a.1 (zj y z a v.u.n v.u.m (v.u.rd t)) k=L at *;have C:∀q∈X.nmB y z v.bs,∀p∈L,q<p:=λq f p hp=>by
  obtain⟨_,_,⟨c,G,le⟩,_⟩:=V.bi q f;have:=(o p hp).up c G;lia
 have V':gO x y z ps ⟨{v.u with l:=aA a,m:=aA B,n:=aA nn,kt:=j},v.b,v.bs++[bb],v.la⟩:=
  ⟨V.h1,V.h2,λT e=>by cases e;exact ok,λQ e=>by cases e;exact (o nn F).nb,λc e=>by cases e;exact⟨m0,m1⟩,hk,λT e=>by cases e;exact V.ls a ea,λQ e=>by cases e;exact⟨B,rfl,m2⟩,λb R=>by
   obtain⟨⟨c,G,h1⟩,_⟩:=V.la b R;refine⟨⟨B,rfl,mX h1 (m3 c G)⟩,λQ e=>?_⟩;cases e;exact nN (V.gtla O J (o nn F) b R),Bo,λq f=>by
   have f:q∈X.nmB y z (v.bs++[bb]):=f;rw[D] at f;rcases b_.mp f with f|f
   .obtain⟨c0,c1,c2,c3⟩:=V.bi q f;exact⟨c0,c1,⟨nn,rfl,nN (C q f nn F)⟩,c3⟩
   .exact⟨(o q f).nb,V.gtla O J (o q f),⟨nn,rfl,l2 q f⟩,V.hasl I.gd ea (o q f).il⟩,by
   show (X.nmB y z (v.bs++[bb])).Pairwise _;rw[D,m6];exact⟨V.bp,up,C⟩⟩
 refine q _ _ _ _ _ (fX.nil (v':=⟨{v.u with l:=aA a,m:=aA B,n:=aA nn,kt:=j},v.b,v.bs++[bb],v.la⟩) (ps':=ps) hi (M.upd hi ch ⟨rfl,rfl,rfl,rfl,rfl⟩ (.inl rfl) (.inl rfl) (by rw[show (Hr.house x y z ah sd {v.u with l:=aA a,m:=aA B,n:=aA nn,kt:=j})=cL (bC x y z) ah sd (d_ v.u.s) (aA a) (aA B) (aA nn) v.u.bt aC from rfl,M.bt v A];exact gh) gs (M.bt v A) gb) ⟨rfl,rfl,rfl,rfl,rfl⟩ (.inl rfl) (sA M A ch λ_ h=>h) (λes I=>I.upd hi V' rfl λnm hN=>?_) (by rw[if_neg (by rw[hw];decide)]) (by lia) (by simp) (by show (X.nmB y z (v.bs++[bb])).length<=_;rw[D,gK];lia));rcases hN with h|⟨P,n2⟩
 .exact .inl h
 .refine .inr ⟨λT e=>by cases e;exact P a ea,λh=>?_⟩;have h:nm∈X.nmB y z (v.bs++[bb]):=h;rw[D] at h;rcases b_.mp h with h|h
  .exact n2 h
  .exact P a ea (o nm h).il
theorem JM (hw:wd="take") (N:iV x y z ah sd) (M:Wm μ w cm gr g d x y z ah sd now vs rs ps) (I:dA x y z vs ps es) (hi:vs[i]?=aA v) (k1:1<=k) (k3:k<=12) (hbl:v.bs.length<=900) (P:(X.nmB y z v.bs).length<=100000)
  (qx:Z 22 [] μ) (q:lx w cm gr g d x y z ah sd t now rs vs ps i v wd μ K) :
  zx [.mut w,Uz wd t v.u.ho k] μ K Z:=by
 obtain⟨x1,y1,y2,z1,z2⟩:=id N.s;have E:=bK (iT hi);have D:=bK hi;have W:=M.W;have V:=I.v v D;have xb:=N.xb;have Y:=N.zb;have xz:x*z<=10000000000000*12:=DC xb Y (by lia) (by lia);refine vA M hi (l3 I) ?_;refine⟨_,rfl,?_⟩;refine zA (by rw[hw];decide) ?_;refine⟨_,rfl,?_⟩;refine qe hw ?_;refine⟨_,_,_,W.se _ E,rfl,_,W.hs _ E,_,rfl,?_⟩;refine X.take_sp N.s (by lia) (CG M D) (M.bl v D) (by lia) V.bo P k1 (λ_=>qx) λhk os J j C Bo eo ol ch R fl ne gh gb gj=>?_;have bi:=V.bi;have bp:=V.bp;have f:∀q∈(X.nmB y z v.bs).take k.toNat,q∈X.nmB y z v.bs:=λq h=>iN h;have KP:∀q∈X.nmB y z os,q∈X.nmB y z v.bs:=λq h=>by rw[eo] at h;exact Es h
 have A:∀p∈(X.nmB y z v.bs).take k.toNat,∀q∈X.nmB y z os,p<q:=by
  rw[eo];have:=bp;rw[<-ou k.toNat (X.nmB y z v.bs),m6] at this;exact this.2.2
 have up:((X.nmB y z v.bs).take k.toNat).Pairwise (·<·):=bp.sublist (mZ _ _);have Q:(X.nmB y z os).Pairwise (·<·):=by rw[eo];exact bp.sublist (List.drop_sublist _ _)
 have oP:((X.nmB y z v.bs).take k.toNat).length=k.toNat:=by rw[hO];lia
 have rW:(X.nmB y z os).length<=(X.nmB y z v.bs).length:=by rw[eo,ut];lia
 generalize (X.nmB y z v.bs).take k.toNat=L at *;have l:L≠[]:=λe=>by rw[e] at oP;simp at oP;lia
 obtain⟨b,G⟩:∃b,L.getLast?=aA b:=⟨_,zs l⟩;have bm:b∈L:=by rw[zs l] at G;cases G;exact tV l
 have le:∀p∈L,p<=b:=λp S=>by
  obtain⟨m,B,H⟩:∃m∈L,∀q∈L,q<=m:=by
   clear G bm S A gj oP f;induction L with
   |nil=>exact absurd rfl l
   |cons a r ih=>
    cases r with
    |nil=>exact⟨a,by simp,λq o=>by rw[bU.mp o];exact fT _⟩
    |cons c r=>
     rw[Eg] at up;obtain⟨m,B,H⟩:=ih up.2 (by simp);exact⟨m,cW _ B,λq o=>by
      rcases cK.mp o with rfl|o
      .exact nN (up.1 m B)
      .exact H q o⟩
  have:=Ym B H up;rw[G] at this;cases this;exact H p S
 have V':gO x y z ps ⟨{v.u with bt:=.mut C},C,os,aA b⟩:=
  ⟨V.h1,V.h2,V.ok,V.nb,V.mb,V.kt,V.ls,V.nm,λc e=>by
   cases e;obtain⟨_,_,⟨n,T,U⟩,_⟩:=bi b (f b bm);obtain⟨m,B,h2⟩:=V.nm n T;exact⟨⟨m,B,mX (XX y1 z1 U) h2⟩,λk' e=>by rw[T] at e;cases e;exact U⟩,Bo,λq o=>by
   obtain⟨c0,c1,c2,c3⟩:=bi q (KP q o);exact⟨c0,λc e=>by cases e;exact A b bm q o,c2,c3⟩,Q⟩
 have O:v.u.s≠v.u.h:=zq (W.se _ E) (W.hs _ E) (λe=>by cases e);refine q j L ⟨{v.u with bt:=.mut C},C,os,aA b⟩ ps J ⟨M.upd hi (ch.mono (by simp)) ⟨rfl,rfl,rfl,rfl,rfl⟩ (.inl rfl) (.inr fl) gh (ch.get (W.se _ E) (by simpa using O)) rfl gb,⟨rfl,rfl,rfl,rfl,rfl⟩,gj,R,Fr.new M R hi ne,sA M D ch (by simp),λq o F=>F.set o hi (.inr fl),λes I=>?_,up,λnm h=>⟨(bi nm (f nm h)).1.1,(bi nm (f nm h)).2.1⟩,by rw[if_neg l,G],λe=>by rw[hw] at e;exact absurd e (by decide),by lia,by lia,by show os.length<=_;lia,by show (X.nmB y z os).length<=_;lia⟩;refine (I.upd hi V' rfl λnm hN=>?_).tell (v:=⟨{v.u with bt:=.mut C},C,os,aA b⟩) (bK (lY (bE.mp hi).1)) up λnm h=>⟨(bi nm (f nm h)).1,(bi nm (f nm h)).2.2.2,.inl ⟨b,rfl,le nm h⟩,I.new D (bi nm (f nm h)).2.1 (bi nm (f nm h)).2.2.2 (.inr (f nm h))⟩;rcases hN with⟨c,hc,h⟩|⟨n1,n2⟩
 .have:=(bi b (f b bm)).2.1 c hc;exact .inl ⟨b,rfl,by lia⟩
 .exact .inr ⟨n1,λh=>n2 (KP nm h)⟩
end
section
variable {μ μ1 μ2 μ':Mem}{K:T->Mem->Prop}{Z:Xp}{x y z ah sd t k n:Int}{w cm gr g d i j i0 i1:Nat}{now hs:T}{rs:List T}{ps:List Gp}{vs:List Vh}{v v':Vh}{wd:aH}{es:List E3}
theorem Um (hw:wd="lease") (N:iV x y z ah sd) (M:Wm μ w cm gr g d x y z ah sd now vs rs ps) (I:dA x y z vs ps es) (hi:vs[i]?=aA v) (ht:μ[i0]?=aA (.tab 0)) (O:ps.length<64) (h2:QE y hs) (A:1<=n)
  (H:∀μ',Ch [] μ μ'->Z 19 [] μ') (q:lx w cm gr g d x y z ah sd t now rs vs ps i v wd μ K) :
  zx [.mut w,l4 wd t v.u.ho hs n] μ K Z:=by
 have f:=bK (iT hi);have c:=bK hi;have W:=M.W;have V:=I.v v c;refine vA M hi (l3 I) ?_;refine⟨_,rfl,?_⟩;refine zA (by rw[hw];decide) ?_;refine⟨_,rfl,?_⟩;refine zA (by rw[hw];decide) ?_;refine⟨_,rfl,?_⟩;refine zA (by rw[hw];decide) ?_;refine⟨_,rfl,?_⟩;refine qe hw ?_;refine⟨_,_,_,W.se _ f,rfl,_,W.hs _ f,_,_,_,W.wo,rfl,_,W.bk.com,_,rfl,_,rfl,_,rfl,?_⟩;refine Op W.bk ht O V.h1 V.h2 h2 A H λh b G a D C F E L al ch B=>?_;have M1:=M.book ch (λj p=>.inl (bU.mp p)) B;have ok:eT x y (h,b,b+n):=⟨D,C,F,by show b<b+n;lia,E⟩;refine NW (a:=(h,b,b+n)) V.kt (CG M1 c) (M1.W.se _ f) ok λr o P k Q gh gs=>?_;have M2:=M1.upd (v':={v with u:={v.u with l:=aA (h,b,b+n),kt:=o}}) hi (k.mono (by simp)) ⟨rfl,rfl,rfl,rfl,rfl⟩ (.inl rfl) (.inl rfl) (by rw[show (Hr.house x y z ah sd {v.u with l:=aA (h,b,b+n),kt:=o})=cL (bC x y z) ah sd (d_ v.u.s) (aA (h,b,b+n)) v.u.m v.u.n v.u.bt aC from rfl,M.bt v c];exact gh) gs (M.bt v c) (k.get (M1.bl v c) (by
  simp only[cK,ip,or_false,not_or];exact⟨zq (M1.bl v c) (M1.W.hs _ f) (λe=>by cases e),zq (M1.bl v c) (M1.W.se _ f) (λe=>by cases e)⟩))
 have J:Kq gr g d vs μ r:=Kq.of (S:=[gr,v.u.h,v.u.s]) ((ch.mono (by simp)).trans (k.mono (by simp))) λj p=>by
  simp only[cK,ip,or_false] at p;rcases p with rfl|rfl|rfl
  .exact .inr (.inl rfl)
  .exact .inl (JO W f).1
  .exact .inl (JO W f).2
 exact q _ _ _ _ _ (fX.nil hi M2 ⟨rfl,rfl,rfl,rfl,rfl⟩ (.inl rfl) J (λes I=>I.lease (ad:=a) hi D C F A E L P) (by rw[if_neg (by rw[hw];decide)]) (by simp) (by simp) (by simp))
def FZ (f u:Int)(o:Option Int):Int:=match yD f u o with
 |none=>f
 |some s=>s+1
theorem Yn{f u:Int}(fu:f<u)(o:Option Int):Ap f u (dR (yD f u o)) (FZ f u o):=by
 unfold FZ;cases h:yD f u o with
 |none=>exact .inl ⟨rfl,rfl⟩
 |some s=>
  refine .inr ⟨s,rfl,?_,?_,rfl⟩<;>(unfold yD at h;cases o with
   |none=>cases h
   |some c=>
    simp only at h
    split at h
    .cases h
    .cases h;split<;>lia)
theorem Ju (hw:wd="back") (N:iV x y z ah sd) (M:Wm μ w cm gr g d x y z ah sd now vs rs ps) (I:dA x y z vs ps es) (hi:vs[i]?=aA v)
  (G:Z 18 [] μ) (q:lx w cm gr g d x y z ah sd t now rs vs ps i v wd μ K) :
  zx [.mut w,.tup [.str wd,.int t,.str v.u.ho]] μ K Z:=by
 have b:=bK (iT hi);have F:=bK hi;have W:=M.W;have V:=I.v v F;refine vA M hi (l3 I) ?_;refine⟨_,rfl,?_⟩;refine zA (by rw[hw];decide) ?_;refine⟨_,rfl,?_⟩;refine zA (by rw[hw];decide) ?_;refine⟨_,rfl,?_⟩;refine zA (by rw[hw];decide) ?_;refine⟨_,rfl,?_⟩;refine zA (by rw[hw];decide) ?_;refine⟨_,rfl,?_⟩;refine qe hw ?_;refine⟨_,_,_,W.se _ b,rfl,_,W.hs _ b,?_⟩;refine Mm N.s V.kt (W.hs _ b) (W.se _ b) V.nb G λa ea E A D J ch C gh gs gb=>?_;have ok:=V.ok a ea;have M1:=M.upd (v':=⟨{v.u with l:=aE,kt:=A,bt:=.mut D},D,[],v.la⟩) hi (ch.mono (by simp)) ⟨rfl,rfl,rfl,rfl,rfl⟩ (.inl rfl) (.inr C) gh gs rfl gb;refine⟨_,_,_,M1.W.wo,rfl,_,M1.W.bk.com,_,rfl,_,rfl,?_⟩;refine NJ (h:=a.1) (f:=a.2.1) (u:=a.2.2) M1.W.bk ok.h0 ok.h1 ok.f0 ok.fu ok.ux (Yn ok.fu _) ?_ λp c p1 r o n m e L B=>?_
 .obtain⟨p,c,_,p1,r,o,n⟩:=V.ls a ea;exact⟨p,c,p1,r,o,n⟩
 have M2:=M1.book e (λj k=>.inr ⟨p,c,bU.mp k⟩) B;have H:Kq gr g d vs μ m:=Kq.of (S:=[p.1,v.u.h,v.u.s]) ((ch.mono (by simp)).trans (e.mono (by simp))) λj k=>by
  simp only[cK,ip,or_false] at k;rcases k with rfl|rfl|rfl
  .exact .inl ⟨_,W.bk.at_ p c,_,_,rfl⟩
  .exact .inl (JO W b).1
  .exact .inl (JO W b).2
 exact q _ _ _ _ _ (fX.nil hi M2 ⟨rfl,rfl,rfl,rfl,rfl⟩ (.inr C) H (λes I=>I.cut N.s W.bk.nd hi ea c p1 r o n (Yn ok.fu _) J) (by rw[if_neg (by rw[hw];decide)]) (by unfold dI;simp) (by simp) (by show 0<=_;lia))
theorem J8 (hw:wd="fall") (N:iV x y z ah sd) (M:Wm μ w cm gr g d x y z ah sd now vs rs ps) (I:dA x y z vs ps es) (hi:vs[i]?=aA v) (ht:μ[i1]?=aA (.tab 1))
  (q:lx w cm gr g d x y z ah sd t now rs vs ps i v wd μ K) :
  zx [.mut w,.tup [.str wd,.int t,.str v.u.ho]] μ K Z:=by
 have l:=bK (iT hi);have c:=bK hi;have W:=M.W;have V:=I.v v c;refine vA M hi (l3 I) ?_;refine⟨_,rfl,?_⟩;refine zA (by rw[hw];decide) ?_;refine⟨_,rfl,?_⟩;refine zA (by rw[hw];decide) ?_;refine⟨_,rfl,?_⟩;refine zA (by rw[hw];decide) ?_;refine⟨_,rfl,?_⟩;refine zA (by rw[hw];decide) ?_;refine⟨_,rfl,?_⟩;refine zA (by rw[hw];decide) ?_;refine⟨_,rfl,?_⟩;refine qe hw ?_;refine⟨_,W.wo,?_⟩;refine ZE W.wo (W.se _ l) ht N.a0 N.d0 V.kt V.mb V.ok λj b ch f gs gh gb=>?_;have r:gO x y z ps ⟨{v.u with h:=μ.length,n:=aE,bt:=.mut b},b,[],v.la⟩:=⟨V.h1,V.h2,V.ok,(λk e=>by cases e),V.mb,V.kt,V.ls,(λk e=>by cases e),λa e=>⟨(V.la a e).1,λk e=>by cases e⟩,X.BOk.nil,(λq o=>by cases o),lV⟩;have M1:=M.upd (v':=⟨{v.u with h:=μ.length,n:=aE,bt:=.mut b},b,[],v.la⟩) hi (ch.mono (by simp)) ⟨rfl,rfl,rfl,rfl,rfl⟩ (.inr (bD _)) (.inr (i8 f)) gh gs rfl gb;refine q _ _ _ _ _ (fX.nil hi M1 ⟨rfl,rfl,rfl,rfl,rfl⟩ (.inr (i8 f)) (sA M c ch (by simp)) (λes I=>I.upd hi r rfl λnm p=>?_) (by rw[if_neg (by rw[hw];decide)]) (by lia) (by simp) (by show 0<=_;lia));rcases p with h|⟨m,s⟩
 .exact .inl h
 .exact .inr ⟨m,λh=>by cases h⟩
theorem JY (hw:wd="bare") (N:iV x y z ah sd) (M:Wm μ w cm gr g d x y z ah sd now vs rs ps) (I:dA x y z vs ps es) (hi:vs[i]?=aA v) (ht:μ[i1]?=aA (.tab 1))
  (q:lx w cm gr g d x y z ah sd t now rs vs ps i v wd μ K) :
  zx [.mut w,.tup [.str wd,.int t,.str v.u.ho]] μ K Z:=by
 have j:=bK (iT hi);have E:=bK hi;have W:=M.W;have V:=I.v v E;refine vA M hi (l3 I) ?_;refine⟨_,rfl,?_⟩;refine zA (by rw[hw];decide) ?_;refine⟨_,rfl,?_⟩;refine zA (by rw[hw];decide) ?_;refine⟨_,rfl,?_⟩;refine zA (by rw[hw];decide) ?_;refine⟨_,rfl,?_⟩;refine zA (by rw[hw];decide) ?_;refine⟨_,rfl,?_⟩;refine zA (by rw[hw];decide) ?_;refine⟨_,rfl,?_⟩;refine zA (by rw[hw];decide) ?_;refine⟨_,_,W.se _ j,by show (3:Nat)<900;decide,?_⟩;have G:=aG (y:=zW (.mut v.u.c) (.mut v.u.h) .non) (W.se _ j);have A:w≠v.u.s:=zq W.wo (W.se _ j) (λe=>by cases e);have C:Ch [v.u.s] μ (μ.set v.u.s (zW (.mut v.u.c) (.mut v.u.h) .non)):=Ch.set;have D:=C.get W.wo (by simpa using A);refine⟨_,D,?_⟩;refine ZE (l:=aE) (m:=aE) D G (C.get ht (by simpa using zq ht (W.se _ j) (λe=>by cases e))) N.a0 N.d0 (.inl ⟨rfl,rfl,rfl⟩) (λv e=>by cases e) (λv e=>by cases e) λr f ch p gs gh gb=>?_;have p:μ.length<f:=by simpa using p
 have b:Ch [v.u.s] μ r:=C.trans ch;have H:gO x y z ps ⟨{v.u with h:=μ.length,l:=aE,m:=aE,n:=aE,bt:=.mut f,kt:=.non},f,[],aE⟩:=⟨V.h1,V.h2,(λa e=>by cases e),(λk e=>by cases e),(λk e=>by cases e),.inl ⟨rfl,rfl,rfl⟩,(λa e=>by cases e),(λk e=>by cases e),(λa e=>by cases e),X.BOk.nil,(λq F=>by cases F),lV⟩;have el:(μ.set v.u.s (zW (.mut v.u.c) (.mut v.u.h) .non)).length=μ.length:=by simp
 have B:∀o,(μ.set v.u.s o).length=μ.length:=λo=>by simp
 rw[B] at gs gh;have M1:=M.upd (v':=⟨{v.u with h:=μ.length,l:=aE,m:=aE,n:=aE,bt:=.mut f,kt:=.non},f,[],aE⟩) hi (b.mono (by simp)) ⟨rfl,rfl,rfl,rfl,rfl⟩ (.inr (bD _)) (.inr (i8 p)) gh gs rfl gb;exact q _ _ _ _ _ (fX.nil hi M1 ⟨rfl,rfl,rfl,rfl,rfl⟩ (.inr (i8 p)) (sA M E b (by simp)) (λes I=>I.upd hi H rfl λnm J=>.inr ⟨(λa e=>by cases e),λh=>by cases h⟩) (by rw[if_pos hw]) (by lia) (by simp) (by show 0<=_;lia))
end
section
variable {μ μ':Mem}{K:T->Mem->Prop}{Z:Xp}{x y z ah sd t k n:Int}{w cm gr g d i j i0 i1:Nat}{now hs row:T}{rs:List T}{ps ps':List Gp}{vs:List Vh}{v v':Vh}{wd:aH}{L:List Int}{es:List E3}
theorem fX.put(R:fX w cm gr g d x y z ah sd t now rs vs ps i v wd μ μ' j L v' ps') :
  fX w cm gr g d x y z ah sd t (.int t) r vs ps i v wd μ ((μ'.set w (kR x y z ah sd cm g d (.int t))).set g (.lst r)) j L v' ps':=by
 have c:j≠w:=zq R.hj R.M.W.wo (λe=>by cases e);have a:((μ'.set w (kR x y z ah sd cm g d (.int t))).set g (.lst r))[j]?=aA (.lst (L.map T.int)):=by
  rw[bR (bW R.fj.n2),bR (bW c)];exact R.hj
 refine⟨R.M.now'.gave,R.sm,a,R.jn,R.fj,⟨by simp;exact R.kp.len,λq o e n F=>?_⟩,R.fr,R.I,R.up,R.gt,R.la,R.ask,R.ln,R.pl,R.bl,R.nl⟩;have b:=R.kp.ot q o e n F;rw[bR (bW F.n2),bR (bW (zq b R.M.W.wo (λh=>n ⟨_,_,h⟩)))];exact b
abbrev AZ(w cm gr g d:Nat)(x y z ah sd t:Int)(rs:List T)(vs:List Vh)(ps:List Gp)(i:Nat)(v:Vh)(wd:aH)(μ:Mem)(K:T->Mem->Prop):Prop:=
 ∀a j L v' ps' μ',Wi a t->fX w cm gr g d x y z ah sd t a (rs++L.map (oS t v.u.ho)) vs ps i v wd μ μ' j L v' ps'->K (.mut j) μ'
theorem Ms{r:List T}(er:row=.tup (.str wd::.int t::.str v.u.ho::r))(hr:∀(K:T->Mem->Prop) (Z:Xp),K (.bl aB) μ->vt [row] μ K Z)(M:Wm μ w cm gr g d x y z ah sd now vs rs ps)(I:dA x y z vs ps es)(hi:vs[i]?=aA v)(k:Wi now t)(A:rs.length<=100000)
  (done:∀s,lx w cm gr g d x y z ah sd t now rs vs ps i v wd μ s->zx [.mut w,row] μ s Z)
  (q:AZ w cm gr g d x y z ah sd t rs vs ps i v wd μ K):vM [.mut w,row] μ K Z:=by
 have W:=M.W;have V:=I.v v (bK hi);unfold vM;refine⟨rfl,_,W.wo,?_⟩;refine Vr W (iT hi) (l3 I) k V.h1 V.h2 er hr ?_;refine⟨_,W.wo,?_⟩;refine done _ λj L l f b R=>?_;subst er;refine⟨_,UR,_,_,R.M.W.wo,by show (7:Nat)<900;decide,?_⟩;have M2:=R.M.now' (nw:=.int t);have h:j≠w:=zq R.hj R.M.W.wo (λe=>by cases e);have m:=R.ln;have a:(b.set w (kR x y z ah sd cm g d (.int t)))[j]?=aA (.lst (L.map T.int)):=by rw[bR (bW h)];exact R.hj
 refine⟨_,_,_,M2.W.wo,rfl,⟨_,M2.W.gv⟩,_,a,by rw[bJ];unfold aT;lia,?_⟩;refine qq T.int (λnm=>aA (oS t v.u.ho nm)) (λp o n c=>?_) ?_ a
 .refine⟨_,rfl,_,UR,_,ZC,?_⟩;exact c
 .rw[show L.filterMap (λnm=>aA (oS t v.u.ho nm))=L.map (oS t v.u.ho) by rw[kw]];refine⟨_,_,M2.W.gv,.inl rfl,by rw[bJ];unfold aT;lia,?_⟩;exact q _ _ _ _ _ _ (.inr ⟨t,rfl,fT _⟩) R.put
noncomputable def RfC(c:Nat):Prop:=c=18\/c=19\/c=21\/c=22
theorem fX.back(R:fX w cm gr g d x y z ah sd t now rs vs ps i v wd (μ++[o]) μ' j L v' ps'):fX w cm gr g d x y z ah sd t now rs vs ps i v wd μ μ' j L v' ps':=by
 have jn:=R.jn;have kl:=R.kp.len;rw[gK] at jn kl;exact⟨R.M,R.sm,R.hj,by lia,R.fj,⟨by lia,λq o e n F=>R.kp.ot q o (z8 e) n F⟩,λq a F=>R.fr q (by rw[gK];lia) F,R.I,R.up,R.gt,R.la,R.ask,R.ln,R.pl,R.bl,R.nl⟩
theorem u5{r:List T}(er:row=.tup (.str wd::.int t::.str v.u.ho::r))(hr:∀(μ:Mem) (K:T->Mem->Prop) (Z:Xp),K (.bl aB) μ->vt [row] μ K Z)(M:Wm μ w cm gr g d x y z ah sd now vs rs ps)(I:dA x y z vs ps es)(hi:vs[i]?=aA v)(m:Wi now t)(p:rs.length<=100000)
  (done:∀s A,Wm (μ++[.lst []]) w cm gr g d x y z ah sd now vs rs ps->lx w cm gr g d x y z ah sd t now rs vs ps i v wd (μ++[.lst []]) s->(∀c fs μ',wd≠"bare"->RfC c->Ch [] (μ++[.lst []]) μ'->A c fs μ')->zx [.mut w,row] (μ++[.lst []]) s A)
  (q:AZ w cm gr g d x y z ah sd t rs vs ps i v wd μ K):j1 [.mut w,row] μ K Z:=by
 have a:Wm (μ++[.lst []]) w cm gr g d x y z ah sd now vs rs ps:=M.law Ch.app (by simp);have same:vs.set i v=vs:=set_same hi;have l:∀(μ':Mem),wd≠"bare"->Ch [] (μ++[.lst []]) μ'->K (.mut μ'.length) (μ'++[.lst []]):=λμ' e ch=>by
  refine q now _ [] v ps _ m ?_;rw[pT,gU];refine fX.back (o:=.lst []) (fX.nil (v':=v) hi (by rw[same];exact a.law ch (by simp)) ⟨rfl,rfl,rfl,rfl,rfl⟩ (.inl rfl) (Kq.of ch (by simp)) (λes I=>by rw[same];exact I) (by rw[if_neg e]) (by lia) (by lia) (by lia))
 unfold j1;refine⟨rfl,_,a.W.wo,?_⟩;refine Ms er (hr _) a I hi m p (λs h=>done s _ a h λc fs μ' e B ch=>?_) λn j L v' b μ' k R=>?_
 .have f:=l μ' e ch;rcases B with rfl|rfl|rfl|rfl<;>exact f
 .exact q n j L v' b μ' k R.back
theorem MG (h:wd="ask"\/wd="store"\/wd="take") (q:K (.bl aB) μ):wx [Uz wd t ho k] μ K Z:=by
 unfold wx;refine⟨rfl,_,rfl,_,rfl,?_⟩;rcases h with rfl|rfl|rfl<;>exact q
theorem LW (h:wd="ask"\/wd="store"\/wd="take") (q:K (.bl aB) μ):vt [Uz wd t ho k] μ K Z:=by
 unfold vt;refine⟨rfl,?_⟩;refine MG h ?_;exact⟨_,rfl,zk q⟩
theorem ML (h:wd="back"\/wd="fall"\/wd="bare") (q:K (.bl aB) μ):wx [.tup [.str wd,.int t,.str ho]] μ K Z:=by
 unfold wx;refine⟨rfl,_,rfl,_,rfl,?_⟩;rcases h with rfl|rfl|rfl<;>exact q
theorem Mx (h:wd="back"\/wd="fall"\/wd="bare") (q:K (.bl aB) μ):vt [.tup [.str wd,.int t,.str ho]] μ K Z:=by
 unfold vt;refine⟨rfl,?_⟩;refine ML h ?_;exact⟨_,rfl,zk q⟩
inductive Rw(y z t:Int)(ho:aH):aH->T->Prop
 |ls {wd:aH}{hs:T}{n:Int}:wd="lease"->QE y hs->1<=n->Rw y z t ho wd (l4 wd t ho hs n)
 |nn {wd:aH}{k:Int}:wd="ask"\/wd="store"\/wd="take"->1<=k->k<=z->k<=12->Rw y z t ho wd (Uz wd t ho k)
 |th {wd:aH}:wd="back"\/wd="fall"\/wd="bare"->Rw y z t ho wd (.tup [.str wd,.int t,.str ho])
theorem N2(N:iV x y z ah sd)(e:Rw y z t v.u.ho wd row)(M:Wm μ w cm gr g d x y z ah sd now vs rs ps)(I:dA x y z vs ps es)(hi:vs[i]?=aA v)(j:Wi now t)(k:rs.length<=100000)(t0:μ[i0]?=aA (.tab 0))(t1:μ[i1]?=aA (.tab 1))(pl:ps.length<64)(bl:v.bs.length<=900)(nl:(X.nmB y z v.bs).length<=100000)(m:-1000000000000000<=v.u.rd t)
  (q:AZ w cm gr g d x y z ah sd t rs vs ps i v wd μ K):j1 [.mut w,row] μ K Z:=by
 cases e with
 |ls hw D C=>exact u5 rfl (λμ K Z E=>by rw[hw];exact Oo E) M I hi j k (λr l a h b=>Um hw N a I hi (z8 t0) pl D C (λs ch=>b _ _ _ (by rw[hw];decide) (.inr (.inl rfl)) ch) h) q
 |nn hw f p A=>
  refine u5 rfl (λμ K Z q=>LW hw q) M I hi j k (λr l a h b=>?_) q;have o:wd≠"bare":=by rcases hw with rfl|rfl|rfl<;>decide
  have n:∀c fs,c=18\/c=21->l c fs (μ++[.lst []]):=λc fs B=>b c fs _ o (B.imp id λh=>.inr (.inl h)) Ch.refl;rcases hw with hw|hw|hw
  .exact Kz hw N a I hi m f p n h
  .exact WZ hw N a I hi m f p bl n h
  .exact JM hw N a I hi f A bl nl (b _ _ _ o (.inr (.inr (.inr rfl))) Ch.refl) h
 |th hw=>
  refine u5 rfl (λμ K Z q=>Mx hw q) M I hi j k (λr l a h b=>?_) q;rcases hw with hw|hw|hw
  .exact Ju hw N a I hi (b _ _ _ (by rw[hw];decide) (.inl rfl) Ch.refl) h
  .exact J8 hw N a I hi (z8 t1) h
  .exact JY hw N a I hi (z8 t1) h
end
section
variable {u:Hr}
abbrev Cd:=aH×Int×List Tn
abbrev Hr.cd(u:Hr):Cd:=(u.ho,u.st,u.ts)
end
section
variable {μ:Mem}{K:T->Mem->Prop}{Z:Xp}{x:Int}{hs:T}{i:Nat}
theorem zo(hs:St μ i)(h0:0<base)(h1:base<1000000000000000000000000000000000000000000000000000000000000)(q:∀v d,0<=v->v<base->Up μ i d->K (.int v) d):zi [.mut i,.int base] μ K Z:=by
 obtain⟨a,b,c,h⟩:=hs;have e:∀x:Int,0<=x % base/\x % base<base:=λx=>⟨io _ (by lia),ii _ h0⟩;unfold zi;refine⟨rfl,_,_,h,rfl,?_⟩;refine zN (λf=>?_) (λf=>?_)
 .refine⟨_,_,h,rfl,h0,_,_,h,rfl,⟨h0,by lia⟩,?_⟩;refine .inl ⟨_,h,by simp,?_⟩;exact q _ _ (e _).1 (e _).2 (Up.set h)
 .refine⟨_,_,h,rfl,?_⟩;refine .inl ⟨_,h,by simp,?_⟩;refine⟨_,_,aG h,rfl,_,_,aG h,rfl,?_⟩;refine SO λv=>?_;refine⟨h0,?_⟩;exact q _ _ (e _).1 (e _).2 (Up.set h)
end
section
variable {μ:Mem}{K:T->Mem->Prop}{Z:Xp}{x y z:Int}{ah sd:Int}{w cm gr g d dc:Nat}{now:T}{us:List Hr}{rs:List T}{ps:List Gp}
structure Kd where
 ho:aH
 c:Nat
 st:Int
 ts:List Tn
abbrev wV(k:Kd):Key×T:=(.inr k.ho,.mut k.c)
abbrev Kd.cd(k:Kd):Cd:=(k.ho,k.st,k.ts)
structure gF(μ:Mem)(k:Kd):Prop where
 h1:k.ho.length<=aT
 h2:wm k.ho=aB
 ck:μ[k.c]?=aA (iw k.st k.ts)
theorem XI:∀{a:List Kd}{k:Kd},k∈a->(a.map (·.ho)).Nodup->ze (.inr k.ho) (a.map wV)=aA (.mut k.c)
 |[],_,h,_=>by cases h
 |v::r,k,h,n=>by
  rw[c8,iP] at n;show ze _ (wV v::r.map wV)=_;unfold ze;rcases cK.mp h with rfl|h
  .rw[if_pos rfl]
  .rw[if_neg (λe=>n.1 (b7.mpr ⟨k,h,(ie e).symm⟩))];exact XI h n.2
variable {ks:List Kd}
theorem Ou(h:xj μ i kvs)(ho:μ[j]?=aA o)(n1:∀l,o≠.dic l)(n2:∀e l,o≠.frd e l):j≠i:=λe=>by
 subst e;rcases h with h|⟨ep,h⟩
 .rw[h] at ho;exact n1 _ (bQ ho).symm
 .rw[h] at ho;exact n2 _ _ (bQ ho).symm
theorem W5(ho:μ[dc]?=aA (.dic (ks.map wV)))(f:ks≠[])(j:ks.length<=1000)(hk:∀k∈ks,gF μ k)(nd:(ks.map (·.ho)).Nodup)
  (q:∀ep,K (.bl aB) (μ.set dc (.frd ep (ks.map wV)))):ji [.mut dc] μ K Z:=by
 have hd:xj μ dc (ks.map wV):=.inl ho;have dl:=(bE.mp ho).1;unfold ji;refine⟨rfl,_,ho,_,hd,?_⟩;refine zA (by
  rw[bJ];intro e;have e:ks.length=0:=by lia
  exact f (EY.mp e)) ?_
 refine⟨_,hd,λep=>?_⟩;refine⟨by rw[bJ,bJ];unfold aT;lia,?_⟩;rw[cT];have gd:(μ.set dc (.frd ep (ks.map wV)))[dc]?=aA (.frd ep (ks.map wV)):=aG ho;refine qq (μ:=μ.set dc (.frd ep (ks.map wV))) (λk:Kd=>T.str k.ho) (λ_=>aA (.bl aB)) (λk a i b=>?_) ?_ gd
 .have H:=hk k a;refine⟨_,rfl,?_⟩;refine wj H.h1 ?_;rw[H.h2];refine⟨_,_,.inr ⟨ep,gd⟩,XI a nd,?_⟩;have ck:(μ.set dc (.frd ep (ks.map wV)))[k.c]?=aA (iw k.st k.ts):=by
   rw[bR (bW (Ou hd H.ck (λ_ e=>by cases e) (λ_ _ e=>by cases e)))];exact H.ck
  refine⟨_,ck,?_⟩;exact b
 .rw[show ks.filterMap (λ_=>aA (T.bl aB))=ks.map (λ_=>T.bl aB) by rw[kw]];obtain⟨bs,h,g⟩:=u1 ks;refine⟨_,h,?_⟩;have d:=q ep;rw[<-g] at d;exact d
theorem xB{a:Nat}(h:l.Nodup)(n:a∉l):(l++[a]).Nodup:=by
 rw[lg];exact⟨h,by simp,λb f c d e=>n (by rw[<-bU.mp d,<-e];exact f)⟩
theorem eO.seat(W:eO μ w cm gr g d x y z ah sd now us rs ps)(ch:Ch [d] μ r)(gd:r[d]?=aA (.dic ((us++[v]).map jT)))(A:r[v.s]?=aA v.seat)(t:r[v.c]?=aA (iw v.st v.ts))(o:r[v.h]?=aA (v.house x y z ah sd))(n1:μ.length<=v.s)(n2:μ.length<=v.h):eO r w cm gr g d x y z ah sd now (us++[v]) rs ps:=by
 have out:∀{j:Nat}{a:MO},μ[j]?=aA a->(∀l,a≠.dic l)->r[j]?=aA a:=λ{j a} e n=>ch.get e (by simpa using zq e W.dc (n _));have f:∀{j:Nat}{a:MO},μ[j]?=aA a->(∀l,a≠.dic l)->j∉[d]:=λ{j a} e n=>by simpa using zq e W.dc (n _)
 have lt:∀{j:Nat}{a:MO},μ[j]?=aA a->j<μ.length:=λe=>(bE.mp e).1;have mem:∀{q:Hr}{P:Hr->Prop},(∀u∈us,P u)->P v->q∈us++[v]->P q:=λ{q P} h1 h2 i=>by
  rcases b_.mp i with h|h
  .exact h1 q h
  .rw[bU.mp h];exact h2
 refine⟨out W.wo (λ_ e=>by cases e),W.bk.ch ch (f W.bk.com (λ_ e=>by cases e)) (f W.bk.lst (λ_ e=>by cases e)) (λp m=>f (W.bk.at_ p m) (λ_ e=>by cases e)),out W.gv (λ_ e=>by cases e),gd,λq i=>mem (P:=λu=>r[u.s]?=aA u.seat) (λu b=>out (W.se u b) (λ_ e=>by cases e)) A i,λq i=>mem (P:=λu=>r[u.c]?=aA (iw u.st u.ts)) (λu b=>out (W.cl u b) (λ_ e=>by cases e)) t i,λq i=>mem (P:=λu=>r[u.h]?=aA (u.house x y z ah sd)) (λu b=>out (W.hs u b) (λ_ e=>by cases e)) o i,?_,?_,W.gg⟩
 .rw[dO];exact xB W.n1 λk=>by
   obtain⟨u,b,e⟩:=b7.mp k;have:=lt (W.se u b);have e:u.s=v.s:=e;lia
 .rw[dO];exact xB W.n2 λk=>by
   obtain⟨u,b,e⟩:=b7.mp k;have:=lt (W.hs u b);have e:u.h=v.h:=e;lia
theorem Ku{z:Key}(h:z∉kvs.map (·.1)):jV z t kvs=kvs++[(z,t)]:=by
 unfold jV;rw[if_neg];intro e;obtain⟨p,a,e⟩:=D7.mp e;exact h (b7.mpr ⟨p,a,by simpa using e⟩)
theorem VI(q:∀j,Ch [] μ j->j.length=μ.length+1->j[μ.length]?=aA (zW ck .non .non)->K .non j):jf [.mut μ.length,ck] (μ++[.obj 46 []]) K Z:=by
 unfold jf;refine⟨rfl,_,_,zc,by show (0:Nat)<900;decide,_,_,aG zc,by show (1:Nat)<900;decide,_,_,aG (aG zc),by show (2:Nat)<900;decide,?_⟩;refine q _ ?_ (by simp) (aG (aG (aG zc)));exact Ch.geS (Ch.geS (Ch.geS Ch.app Ch.set (by simp)) Ch.set (by simp)) Ch.set (by simp)
theorem O1:∀{us:List Hr}{z:aH},z∉us.map (·.ho)->(.inr z:Key)∉(us.map jT).map (·.1):=λ{us z} h a=>by
 rw[cT] at a;obtain⟨u,b,e⟩:=b7.mp a;exact h (b7.mpr ⟨u,b,ie e⟩)
end
section
variable {μ μ1 μ2:Mem}{K:T->Mem->Prop}{Z:Xp}{x y z:Int}{ah sd:Int}{w cm gr g d dc:Nat}{now:T}{vs:List Vh}{v:Vh}{rs:List T}{ps:List Gp}{ks:List Kd}
structure gQ(v:Vh):Prop where
 l:v.u.l=aE
 m:v.u.m=aE
 n:v.u.n=aE
 kt:v.u.kt=.non
 bs:v.bs=[]
 la:v.la=aE
theorem Wm.seat(M:Wm μ w cm gr g d x y z ah sd now vs rs ps)(ch:Ch [d] μ j)(gd:j[d]?=aA (.dic (((vs++[v]).map (·.u)).map jT)))(m:j[v.u.s]?=aA v.u.seat)(l:j[v.u.c]?=aA (iw v.u.st v.u.ts))(k:j[v.u.h]?=aA (v.u.house x y z ah sd))(n1:μ.length<=v.u.s)(n2:μ.length<=v.u.h)(et:v.u.bt=.mut v.b)(gb:j[v.b]?=aA (.lst (v.bs.map X.btT)))(nb:μ.length<=v.b):Wm j w cm gr g d x y z ah sd now (vs++[v]) rs ps:=by
 have mem:∀{q:Vh}{P:Vh->Prop},(∀u∈vs,P u)->P v->q∈vs++[v]->P q:=λ{q P} h1 h2 a=>by
  rcases b_.mp a with h|h
  .exact h1 q h
  .rw[bU.mp h];exact h2
 have h1:=qP M.W.bk.lst;have h2:=qP M.W.gv;refine⟨?_,λq a=>mem (P:=λv=>v.u.bt=.mut v.b) M.bt et a,λq a=>mem (P:=λv=>j[v.b]?=aA (.lst (v.bs.map X.btT))) (λq a=>ch.get (M.bl q a) (by simpa using zq (M.bl q a) M.W.dc (λe=>by cases e))) gb a,?_,λq a=>mem (P:=λv=>v.b≠gr/\v.b≠g) M.bg ⟨by lia,by lia⟩ a⟩
 .rw[dO] at gd ⊢;exact M.W.seat ch gd m l k n1 n2
 .rw[dO];exact xB M.bn λi=>by
   obtain⟨u,f,e⟩:=b7.mp i;have:=qP (M.bl u f);have e:u.b=v.b:=e;lia
structure CJ(μ0 μ:Mem)(w cm gr g d dc t1:Nat)(x y z ah sd:Int)(ks:List Kd)(n ep:Nat)(vs:List Vh):Prop where
 M:Wm μ w cm gr g d x y z ah sd .non vs [] []
 cd:vs.map (·.u.cd)=(ks.take n).map Kd.cd
 nw:∀v∈vs,gQ v/\μ0.length<=v.b
 ch:Ch [dc] μ0 μ
 hd:μ[dc]?=aA (.frd ep (ks.map wV))
 tb:μ[t1]?=aA (.tab 1)
 kd:∀k∈ks,gF μ k
theorem CJ.step{t1 ep n:Nat}{k:Kd}{t:Option T}{E:En}(C:CJ μ0 μ w cm gr g d dc t1 x y z ah sd ks n ep vs)(hk:ks[n]?=aA k)(nd:(ks.map (·.ho)).Nodup)(hl:ks.length<=1000)(S:0<=ah)(hs:0<=sd)(d0:μ0.length<=d)(dd:dc<μ0.length)
  (hN:∀Q t r A,CJ μ0 r w cm gr g d dc t1 x y z ah sd ks (n+1) ep A->N [aA (.mut w),aA (bC x y z),aA (.int ah),aA (.int sd),aA (.mut dc),Q,t] r) :
  qp [(zp 6 (W8 46 jf [(hY W_ (eV 4) (eV 5))])),(zB (zv 47 zE (eV 0) [(eV 6)])),(xu (za (eV 0) 26) (eV 5) (eV 6))] [aA (.mut w),aA (bC x y z),aA (.int ah),aA (.int sd),aA (.mut dc),aA (.str k.ho),t] μ (E.turn N):=by
 obtain⟨M,cd,nw,ch,hd,tb,kd⟩:=C;have I:=bK hk;have KD:=kd k I;have l0:μ0.length<=μ.length:=ch.len;refine⟨_,_,.inr ⟨ep,hd⟩,XI I nd,?_⟩;refine VI λo p O Y=>?_;refine⟨rfl,?_⟩;have K:=M.W.ch0 p;refine⟨_,K.wo,?_⟩;refine ZE (l:=aE) (m:=aE) K.wo Y (p.get tb (by simp)) S hs (.inl ⟨rfl,rfl,rfl⟩) (λv e=>by cases e) (λv e=>by cases e) λμ2 b F hb X V U=>?_;have f:Ch [] μ μ2:=Ch.geS p F (by simp);have s:=M.W.ch0 f;refine⟨_,_,_,s.wo,rfl,?_⟩;have new:k.ho∉(vs.map (·.u)).map (·.ho):=λJ=>by
  have Z:(vs.map (·.u)).map (·.ho)=(ks.take n).map (·.ho):=by
   have:=congrArg (nF (·.1)) cd;rw[cT,cT] at this;rw[cT];exact this
  rw[Z] at J;have hn:n<ks.length:=(bE.mp hk).1;have q:((ks.take n++[k]).map (·.ho)).Nodup:=by
   rw[show ks.take n++[k]=ks.take (n+1) by rw[fM,hk];rfl];exact nd.sublist ((mZ _ _).map _)
  rw[dO,lg] at q;exact q.2.2 k.ho J k.ho (by simp) rfl
 have ul:vs.length<=1000:=by
  have:=congrArg lI cd;rw[bJ,bJ,hO] at this;lia
 refine⟨_,s.dc,by rw[bJ,bJ];unfold aT;lia,?_⟩;rw[Ku (O1 new)];have dl:d<μ.length:=(bE.mp M.W.dc).1;have L:((vs.map (·.u)).map jT++[((.inr k.ho:Key),T.mut μ.length)])=((vs++[(⟨⟨k.ho,μ.length,k.c,o.length,k.st,k.ts,aE,aE,aE,.mut b,.non⟩,b,[],aE⟩:Vh)]).map (·.u)).map jT:=by rw[dO,dO];rfl
 have c2:μ2[k.c]?=aA (iw k.st k.ts):=f.get KD.ck (by simp);rw[L];generalize B:(⟨⟨k.ho,μ.length,k.c,o.length,k.st,k.ts,aE,aE,aE,.mut b,.non⟩,b,[],aE⟩:Vh)=H;have i:∀{j:Nat}{a:MO},μ2[j]?=aA a->(∀l,a≠.dic l)->(μ2.set d (.dic (((vs++[H]).map (·.u)).map jT)))[j]?=aA a:=λ{j a} e n=>by
  rw[bR (bW (zq e s.dc (n _)))];exact e
 refine hN _ _ _ (vs++[H]) ⟨?_,?_,?_,?_,?_,?_,?_⟩
 .refine M.seat (f.mono (by simp) |>.trans Ch.set) (aG s.dc) ?_ ?_ ?_ ?_ ?_ ?_ ?_ ?_<;>subst B
  .exact i X (λ_ e=>by cases e)
  .exact i c2 (λ_ e=>by cases e)
  .exact i V (λ_ e=>by cases e)
  .exact bD _
  .show μ.length<=o.length;lia
  .rfl
  .exact i U (λ_ e=>by cases e)
  .show μ.length<=b;lia
 .rw[dO,cd,fM,hk,dO,<-B];rfl
 .intro u R;rcases b_.mp R with h|h
  .exact nw u h
  .rw[bU.mp h,<-B];exact⟨⟨rfl,rfl,rfl,rfl,rfl,rfl⟩,by show μ0.length<=b;lia⟩
 .exact Ch.geS (ch.trans (f.mono (by simp))) Ch.set (by simpa using d0)
 .exact i (f.get hd (by simp)) (λ_ e=>by cases e)
 .exact i (f.get tb (by simp)) (λ_ e=>by cases e)
 .intro P D;have G:=kd P D;exact⟨G.h1,G.h2,i (f.get G.ck (by simp)) (λ_ e=>by cases e)⟩
theorem OY{t1:Nat}(W:eO μ w cm gr g d x y z ah sd .non [] [] [])(hd:μ[dc]?=aA (.frd ep (ks.map wV)))(D:ks.length<=1000)(hk:∀k∈ks,gF μ k)(nd:(ks.map (·.ho)).Nodup)(ht:μ[t1]?=aA (.tab 1))(E:0<=ah)(hs:0<=sd)(d0:μ0.length<=d)(dd:dc<μ0.length)(ch0:Ch [dc] μ0 μ)
  (q:∀r vs,Wm r w cm gr g d x y z ah sd .non vs [] []->vs.map (·.u.cd)=ks.map Kd.cd->(∀v∈vs,gQ v/\μ0.length<=v.b)->Ch [dc] μ0 r->K .non r) :
  qp (qb.drop 8) [aA (.mut w),aA (bC x y z),aA (.int ah),aA (.int sd),aA (.mut dc),aE,aE] μ (En.fn K Z):=by
 have out:∀{c j:Nat}{a:MO},μ[j]?=aA a->(∀e l,a≠.frd e l)->(μ.set dc (.frd c (ks.map wV)))[j]?=aA a:=λ{c j a} e n=>by
  rw[bR (bW (zq e hd (n _ _)))];exact e
 refine⟨_,.inr ⟨ep,hd⟩,λc=>?_⟩;have C0:CJ μ0 (μ.set dc (.frd c (ks.map wV))) w cm gr g d dc t1 x y z ah sd ks 0 c []:=by
  have m:∀{j:Nat}{a:MO},μ[j]?=aA a->(∀e l,a≠.frd e l)->j∉[dc]:=λ{j a} e n=>by simpa using zq e hd (n _ _)
  have ch:Ch [dc] μ (μ.set dc (.frd c (ks.map wV))):=Ch.set;refine⟨⟨⟨out W.wo (λ_ _ e=>by cases e),W.bk.ch ch (m W.bk.com (λ_ _ e=>by cases e)) (m W.bk.lst (λ_ _ e=>by cases e)) (by simp),out W.gv (λ_ _ e=>by cases e),out W.dc (λ_ _ e=>by cases e),by simp,by simp,by simp,W.n1,W.n2,W.gg⟩,by simp,by simp,by simp,by simp⟩,rfl,by simp,ch0.trans ch,aG hd,out ht (λ_ _ e=>by cases e),λk t=>?_⟩;have A:=hk k t;exact⟨A.h1,A.h2,out A.ck (λ_ _ e=>by cases e)⟩
 rw[cT];refine zG (λn p r=>∃vs i h,p=[aA (.mut w),aA (bC x y z),aA (.int ah),aA (.int sd),aA (.mut dc),i,h]/\CJ μ0 r w cm gr g d dc t1 x y z ah sd ks n c vs) ⟨[],_,_,rfl,C0⟩ ?_ ?_ ?_
 .rintro n u p r o ⟨vs,i,h,rfl,C⟩ N F;rw[cE] at o;cases f:ks[n]? with
  |none=>rw[f] at o;cases o
  |some k=>
   rw[f] at o;cases o;refine⟨_,rfl,?_⟩;exact C.step f nd D E hs d0 dd λi h B s G=>F _ _ ⟨s,i,h,rfl,G⟩
 .rintro p r ⟨vs,i,h,rfl,C⟩;rw[bJ] at C;have cd:=C.cd;rw[gL (bD _)] at cd;exact q r vs C.M cd C.nw C.ch
 .rintro n p r ⟨vs,i,h,rfl,C⟩;exact C.hd
theorem PN{t1:Nat}(hw:μ[w]?=aA (MO.obj 47 [(9,bC x y z),(14,.int ah),(15,.int sd)]))(F:μ0.length<=w)(hd:μ[dc]?=aA (.frd ep (ks.map wV)))(G:ks.length<=1000)(hk:∀k∈ks,gF μ k)(nd:(ks.map (·.ho)).Nodup)(ht:μ[t1]?=aA (.tab 1))(J:0<=ah)(hs:0<=sd)(dd:dc<μ0.length)(ch0:Ch [dc] μ0 μ)
  (q:∀r vs cm gr g d,Wm r w cm gr g d x y z ah sd .non vs [] []->vs.map (·.u.cd)=ks.map Kd.cd->(∀v∈vs,gQ v/\μ0.length<=v.b)->μ0.length<=gr->μ0.length<=g->μ0.length<=d->Ch [dc] μ0 r->K .non r) :
  qp (qb.drop 4) [aA (.mut w),aA (bC x y z),aA (.int ah),aA (.int sd),aA (.mut dc),aE,aE] μ (En.fn K Z):=by
 have E:=(bE.mp hw).1;have Q:=ch0.len;refine Zo ?_;refine⟨rfl,?_⟩;have m:(μ++[MO.obj 43 [(9,bC x y z),(10,.mut (μ.length+1))],.lst []])[w]?=aA (MO.obj 47 [(9,bC x y z),(14,.int ah),(15,.int sd)]):=by rw[dP E];exact hw
 refine⟨_,_,m,by show (3:Nat)<900;decide,?_⟩;have h:=aG (y:=MO.obj 47 [(9,bC x y z),(14,.int ah),(15,.int sd),(23,.mut μ.length)]) m;have fc:Ch [w] μ ((μ++[MO.obj 43 [(9,bC x y z),(10,.mut (μ.length+1))],.lst []]).set w (MO.obj 47 [(9,bC x y z),(14,.int ah),(15,.int sd),(23,.mut μ.length)])):=⟨by simp,λj I D=>by
  have D:j≠w:=by simpa using D
  rw[bR (bW D),dP I]⟩
 have B:((μ++[MO.obj 43 [(9,bC x y z),(10,.mut (μ.length+1))],.lst []]).set w (MO.obj 47 [(9,bC x y z),(14,.int ah),(15,.int sd),(23,.mut μ.length)])).length=μ.length+2:=by simp
 have s:((μ++[MO.obj 43 [(9,bC x y z),(10,.mut (μ.length+1))],.lst []]).set w (MO.obj 47 [(9,bC x y z),(14,.int ah),(15,.int sd),(23,.mut μ.length)]))[μ.length]?=aA (MO.obj 43 [(9,bC x y z),(10,.mut (μ.length+1))]):=by
  rw[bR (by lia),fP (bD _)];simp
 have p:((μ++[MO.obj 43 [(9,bC x y z),(10,.mut (μ.length+1))],.lst []]).set w (MO.obj 47 [(9,bC x y z),(14,.int ah),(15,.int sd),(23,.mut μ.length)]))[μ.length+1]?=aA (.lst []):=by
  rw[bR (by lia),fP (by lia)];simp
 suffices H:∀c:Mem,c[w]?=aA (MO.obj 47 [(9,bC x y z),(14,.int ah),(15,.int sd),(23,.mut μ.length)])->Ch [w] μ c->c.length=μ.length+2->c[μ.length]?=aA (MO.obj 43 [(9,bC x y z),(10,.mut (μ.length+1))])->c[μ.length+1]?=aA (.lst [])->qp (qb.drop 5) [aA (.mut w),aA (bC x y z),aA (.int ah),aA (.int sd),aA (.mut dc),aE,aE] c (En.fn K Z) from H _ h fc B s p
 clear m h fc B s p;intro c h fc B s p;refine⟨_,_,z8 h,by show (4:Nat)<900;decide,_,_,aG (z8 h),by show (5:Nat)<900;decide,?_⟩;have i:=aG (y:=MO.obj 47 [(9,bC x y z),(14,.int ah),(15,.int sd),(23,.mut μ.length),(24,.mut c.length),(25,.non)]) (aG (y:=MO.obj 47 [(9,bC x y z),(14,.int ah),(15,.int sd),(23,.mut μ.length),(24,.mut c.length)]) (z8 (x:=MO.lst []) h));have fe:Ch [w] c (((c++[MO.lst []]).set w (MO.obj 47 [(9,bC x y z),(14,.int ah),(15,.int sd),(23,.mut μ.length),(24,.mut c.length)])).set w (MO.obj 47 [(9,bC x y z),(14,.int ah),(15,.int sd),(23,.mut μ.length),(24,.mut c.length),(25,.non)])):=((Ch.app.mono (by simp)).trans Ch.set).trans Ch.set;have A:(((c++[MO.lst []]).set w (MO.obj 47 [(9,bC x y z),(14,.int ah),(15,.int sd),(23,.mut μ.length),(24,.mut c.length)])).set w (MO.obj 47 [(9,bC x y z),(14,.int ah),(15,.int sd),(23,.mut μ.length),(24,.mut c.length),(25,.non)])).length=c.length+1:=by simp
 have o:(((c++[MO.lst []]).set w (MO.obj 47 [(9,bC x y z),(14,.int ah),(15,.int sd),(23,.mut μ.length),(24,.mut c.length)])).set w (MO.obj 47 [(9,bC x y z),(14,.int ah),(15,.int sd),(23,.mut μ.length),(24,.mut c.length),(25,.non)]))[c.length]?=aA (.lst []):=by
  rw[bR (by lia),bR (by lia)];exact zc
 suffices H:∀f:Mem,f[w]?=aA (MO.obj 47 [(9,bC x y z),(14,.int ah),(15,.int sd),(23,.mut μ.length),(24,.mut c.length),(25,.non)])->Ch [w] c f->f.length=c.length+1->f[c.length]?=aA (.lst [])->qp (qb.drop 7) [aA (.mut w),aA (bC x y z),aA (.int ah),aA (.int sd),aA (.mut dc),aE,aE] f (En.fn K Z) from H _ i fe A o
 clear i fe A o;intro f i fe A o;refine⟨_,_,z8 i,by show (6:Nat)<900;decide,?_⟩;have C:=aG (y:=kR x y z ah sd μ.length c.length f.length .non) (z8 (x:=MO.dic []) i);have ff:Ch [w] f ((f++[MO.dic []]).set w (kR x y z ah sd μ.length c.length f.length .non)):=(Ch.app.mono (by simp)).trans Ch.set;have L:((f++[MO.dic []]).set w (kR x y z ah sd μ.length c.length f.length .non))[f.length]?=aA (.dic []):=by
  rw[bR (by lia)];exact zc
 have all:Ch [w] μ ((f++[MO.dic []]).set w (kR x y z ah sd μ.length c.length f.length .non)):=(fc.trans fe).trans ff;have t:∀{j:Nat}{a:MO},μ[j]?=aA a->a≠MO.obj 47 [(9,bC x y z),(14,.int ah),(15,.int sd)]->j∉[w]:=λ{j a} e n=>by simpa using zq e hw n
 have W:eO ((f++[MO.dic []]).set w (kR x y z ah sd μ.length c.length f.length .non)) w μ.length (μ.length+1) c.length f.length x y z ah sd .non [] [] []:=
  ⟨C,⟨(fe.trans ff).get s (by simp;lia),(fe.trans ff).get p (by simp;lia),by simp,by simp⟩,ff.get o (by simp;lia),L,by simp,by simp,by simp,by simp,by simp,by lia⟩
 refine OY (μ0:=μ0) (t1:=t1) (ep:=ep) W (all.get hd (t hd (λe=>by cases e))) G (λk l=>⟨(hk k l).h1,(hk k l).h2,all.get (hk k l).ck (t (hk k l).ck (λe=>by cases e))⟩) nd (all.get ht (t ht (λe=>by cases e))) J hs (by lia) dd (Ch.geS ch0 all (by simpa using F)) λr vs P O N M=>q r vs _ _ _ _ P O N (by lia) (by lia) (by lia) M
theorem Oz{t1:Nat}(ho:μ[dc]?=aA (.dic (ks.map wV)))(p:ks≠[])(o:ks.length<=1000)(hk:∀k∈ks,gF μ k)(nd:(ks.map (·.ho)).Nodup)(ht:μ[t1]?=aA (.tab 1))(r:0<=ah)(hs:0<=sd)
  (q:∀j vs cm gr g d,Wm j μ.length cm gr g d x y z ah sd .non vs [] []->vs.map (·.u.cd)=ks.map Kd.cd->(∀v∈vs,gQ v/\μ.length<=v.b)->μ.length<=gr->μ.length<=g->μ.length<=d->Ch [dc] μ j->K .non j) :
  wU [.mut μ.length,bC x y z,.int ah,.int sd,.mut dc] (μ++[.obj 47 []]) K Z:=by
 have dl:=(bE.mp ho).1;unfold wU;refine⟨rfl,?_⟩;refine W5 (z8 ho) p o (λk a=>⟨(hk k a).h1,(hk k a).h2,z8 (hk k a).ck⟩) nd λep=>?_;have f:((μ++[MO.obj 47 []]).set dc (.frd ep (ks.map wV)))[μ.length]?=aA (.obj 47 []):=by rw[bR (by lia)];exact zc
 have l:((μ++[MO.obj 47 []]).set dc (.frd ep (ks.map wV)))[dc]?=aA (.frd ep (ks.map wV)):=aG (z8 ho);have ch0:Ch [dc] μ ((μ++[MO.obj 47 []]).set dc (.frd ep (ks.map wV))):=(Ch.app.mono (by simp)).trans Ch.set;refine⟨_,_,f,by show (0:Nat)<900;decide,_,_,aG f,by show (1:Nat)<900;decide,_,_,aG (aG f),by show (2:Nat)<900;decide,?_⟩;have m:∀h:Mem,Ch [dc] μ h->∀k∈ks,gF h k:=λh c k a=>⟨(hk k a).h1,(hk k a).h2,c.get (hk k a).ck (by simpa using zq (hk k a).ck ho (λe=>by cases e))⟩;have n:=Ch.geS (Ch.geS (Ch.geS ch0 (Ch.set (i:=μ.length) (x:=MO.obj 47 [(9,bC x y z)])) (by simp)) (Ch.set (i:=μ.length) (x:=MO.obj 47 [(9,bC x y z),(14,.int ah)])) (by simp)) (Ch.set (i:=μ.length) (x:=MO.obj 47 [(9,bC x y z),(14,.int ah),(15,.int sd)])) (by simp);refine PN (μ0:=μ) (t1:=t1) (ep:=ep) (aG (aG (aG f))) (bD _) ?_ o (m _ n) nd (n.get ht (by simpa using zq ht ho (λe=>by cases e))) r hs dl n q;rw[bR (by lia),bR (by lia),bR (by lia)];exact l
end
section
variable {μ μ1 μ2:Mem}{K:T->Mem->Prop}{Z:Xp}{st:Int}{ts:List Tn}{i j:Nat}
theorem MP(h0:0<=v)(h1:v<3)(c:-40<=a)(hb:-40<=b):∃w:Int,vW [T.int 0,.int a,.int b] v=aA (.int w) /\ -40<=w:=by
 have:v=0\/v=1\/v=2:=by lia
 rcases this with rfl|rfl|rfl
 .exact⟨0,rfl,by lia⟩
 .exact⟨a,rfl,c⟩
 .exact⟨b,rfl,hb⟩
theorem Md(h0:0<=v)(h1:v<2)(b:-40<=a):∃w:Int,vW [T.int 0,.int a] v=aA (.int w) /\ -40<=w:=by
 have:v=0\/v=1:=by lia
 rcases this with rfl|rfl
 .exact⟨0,rfl,by lia⟩
 .exact⟨a,rfl,b⟩
structure Dn(st:Int)(ts:List Tn):Prop where
 r:oO ts
 l:ts.length<=3
 s0:-1000<=st
 t0:∀p∈ts,-1000<=p.2.1
theorem Ps(hs:St μ i)(hb:-500<=bg)(q:∀st ts g,Dn st ts->Cl μ i g ts->K (.tup [.int st,.mut μ.length]) g):wg [.mut i,.int bg] μ K Z:=by
 have hi:i<μ.length:=by
  obtain⟨a,b,c,h⟩:=hs;exact (bE.mp h).1
 have L:Cl μ i (μ++[.lst []]) []:=by
  obtain⟨a,b,c,h⟩:=hs;refine⟨hi,by simp,λj h1 h2=>?_,⟨a,b,c,z8 h⟩,zc⟩;rw[dP (by lia)]
 unfold wg;refine⟨rfl,?_⟩;refine zo L.st (by decide) (by decide) λv1 S a1 b1 I=>?_;refine zo I.st (by decide) (by decide) λv2 R a2 b2 W=>?_;refine⟨⟨by lia,by lia⟩,?_⟩;have c2:=(L.up I).up W;refine zG (λn o g=>∃ts d z y,o=[aA (.mut i),aA (.int bg),aA (.mut μ.length),aA (.int d),z,y] /\ -505<=d/\oO ts/\(∀p∈ts,p.1<d /\ -1000<=p.2.1)/\ts.length=n/\Cl μ i g ts) ⟨[],_,_,_,rfl,by lia,.nil,by simp,rfl,c2⟩ ?_ ?_
 .rintro n x o s X ⟨ts,d,z,y,rfl,h5,A,hb,C,k⟩ N hN;obtain⟨rfl,Y⟩:=Kw X;refine⟨_,rfl,?_⟩;refine zo k.st (by decide) (by decide) λt r a6 b6 f=>?_;refine zo f.st (by decide) (by decide) λH e O M m=>?_;refine zo m.st (by decide) (by decide) λv8 Q a8 b8 V=>?_;obtain⟨w,ew,T⟩:=MP (a:=t) (b:=0-H) a8 b8 (by lia) (by lia);refine⟨_,ew,?_⟩;have E:=((k.up f).up m).up V;refine⟨⟨_,E.ls⟩,?_⟩;refine zo E.st (by decide) (by decide) λG P a9 b9 U=>?_;have J:=E.up U;refine⟨_,J.ls,by rw[bJ];unfold aT;lia,?_⟩;have l:=J.app (p:=(d,d+w,decide (0<G)));refine zo l.st (by decide) (by decide) λu F a11 b11 v=>?_;refine hN _ _ ⟨ts++[(d,d+w,decide (0<G))],d+1+u,_,_,rfl,by lia,?_,?_,by simp[C],l.up v⟩
  .unfold oO;rw[m6];exact⟨A,EX _ _,λa ha b D=>by rw[bU.mp D];exact (hb a ha).1⟩
  .intro p B;rcases b_.mp B with h|h
   .have:=hb p h;lia
   .rw[bU.mp h];exact⟨by show d<_;lia,by show _<=d+w;lia⟩
 .rintro o s ⟨ts,d,z,y,rfl,h5,A,hb,C,k⟩;rw[X8] at C;refine zo k.st (by decide) (by decide) λt r a6 b6 f=>?_;refine zo f.st (by decide) (by decide) λH e O M m=>?_;obtain⟨w,ew,T⟩:=Md (a:=t-4) O M (by lia);refine⟨_,ew,?_⟩;exact q w ts e ⟨A,by lia,by lia,λp B=>(hb p B).2⟩ ((k.up f).up m)
theorem Dn.low(d:Dn st ts)(h:0<=t):-1000000000000000<=w8 st ts t:=by
 have s0:=d.s0;unfold w8;split
 .rename_i p a;have h1:=d.t0 p (Ec.mp (List.mem_of_find?_eq_some a));have h2:p.1<=t:=by simpa using List.find?_some a
  split<;>lia
 .lia
theorem U3{p:Tn}{t:Int}:w8 st (ts++[p]) t=if p.1<=t then p.2.1+(if p.2.2 then t-p.1 else 0) else w8 st ts t:=by
 unfold w8;rw[List.reverse_append];show (match (p::ts.reverse).find? _ with|some p=>_|none=>_)=_;rw[n9];by_cases h:p.1<=t
 .rw[decide_eq_true h,if_pos h]
 .rw[decide_eq_false h,if_neg h]<;>rfl
theorem YO(h:μ[j]?=aA (.lst (ts.map qC)))(q:K (.int (w8 st ts t)) μ):j2 [.tup [.int st,.mut j],.int t] μ K Z:=by
 unfold j2;refine⟨rfl,_,rfl,_,h,?_⟩;refine zG (λn i d=>d=μ/\∃m l k,i=[aA (.tup [.int st,.mut j]),aA (.int t),aA (.int st),aA (.mut j),aA (.int (w8 st (ts.take n) t)),m,l,k]) ⟨rfl,_,_,_,rfl⟩ ?_ ?_ ?_
 .rintro n u i d g ⟨rfl,m,l,k,rfl⟩ N r;rw[cE] at g;cases o:ts[n]? with
  |none=>rw[o] at g;cases g
  |some p=>
   rw[o] at g;cases g;refine⟨_,rfl,?_⟩;have e:w8 st (ts.take (n+1)) t=if p.1<=t then p.2.1+(if p.2.2 then t-p.1 else 0) else w8 st (ts.take n) t:=by
    rw[fM,o];exact U3
   refine zN (λf=>?_) (λf=>?_)
   .rw[if_pos f] at e;obtain⟨a,b,c⟩:=p;cases c with
    |true=>
     have e:w8 st (ts.take (n+1)) t=b+(t-a)*1:=by rw[e,Int.mul_one];rfl
     refine⟨.inr ⟨(by show -big<(1:Int);decide),(by show (1:Int)<big;decide)⟩,?_⟩;refine r _ _ ?_;rw[e];exact⟨rfl,_,_,_,rfl⟩
    |false=>
     have e:w8 st (ts.take (n+1)) t=b+(t-a)*0:=by rw[e,Int.mul_zero];rfl
     refine⟨.inr ⟨(by show -big<(0:Int);decide),(by show (0:Int)<big;decide)⟩,?_⟩;refine r _ _ ?_;rw[e];exact⟨rfl,_,_,_,rfl⟩
   .rw[if_neg f] at e;refine r _ _ ?_;rw[e];exact⟨rfl,_,_,_,rfl⟩
 .rintro i d ⟨rfl,m,l,k,rfl⟩;rw[bJ,gL (bD _)];exact q
 .rintro n i d ⟨rfl,m,l,k,rfl⟩;exact h
end
section
variable {μ μ1 μ2:Mem}{K:T->Mem->Prop}{Z:Xp}{x y z t:Int}{i j:Nat}{hs:List aH}
theorem ixS{k:Int}(h0:0<=k)(h1:k<hs.length):∃h∈hs,vW (hs.map T.str) k=aA (.str h):=by
 refine⟨hs[k.toNat]'(by lia),nX _,?_⟩;rw[yg h0 (by simpa using h1),cE,fO (by lia)];rfl
theorem ixR{v:Int}(h0:0<=v)(h1:v<y+1):∃t,vW ([T.non]++(eX y.toNat).map λ(n:Nat)=>T.int (n:Int)) v=aA t/\QE y t:=by
 have a:v<(([T.non]++(eX y.toNat).map λ(n:Nat)=>T.int (n:Int)).length:Int):=by simp;lia
 rw[yg h0 a];by_cases e:v=0
 .subst e;exact⟨.non,rfl,.inl rfl⟩
 .refine⟨.int (v-1),?_,.inr ⟨v-1,rfl,by lia,by lia⟩⟩;rw[fP (by simp;lia),cE,EK (by simp;lia)];simp only[EA,oa];rw[show ((v.toNat-1:Nat):Int)=v-1 by lia]
theorem Jb(st:St μ i)(l1:1<=hs.length)(l8:hs.length<=8)(y1:1<=y)(y4:y<=4)(z1:1<=z)(u:z<=12)
  (q:∀row wd ho d,ho∈hs->Rw y z t ho wd row->Up μ i d->K row d):vK [.mut i,.int t,.lst (hs.map T.str),.tup [.int x,.int y,.int z]] μ K Z:=by
 unfold vK;refine⟨rfl,?_⟩;refine zo st (by rw[bJ];lia) (by rw[bJ];lia) λG s D m l=>?_;rw[bJ] at m;obtain⟨ho,a,eh⟩:=ixS D m;refine⟨_,eh,?_⟩;refine zo l.st (by decide) (by decide) λc r M I k=>?_;refine⟨_,rfl,?_⟩;refine zo k.st (by split<;>lia) (by split<;>lia) λf p L B j=>?_;have b:1+f<=z/\1+f<=12:=by
  split at B<;>(constructor<;>lia)
 have U:=(l.trans k).trans j;refine zN (λh=>?_) (λh=>?_)
 .refine⟨_,rfl,⟨by lia,by lia⟩,by simp;unfold aT;lia,_,rfl,?_⟩;refine zo j.st (by lia) (by lia) λF o C A g=>?_;obtain⟨th,w,e⟩:=ixR C A;refine⟨_,w,?_⟩;refine zo g.st (by decide) (by decide) λE n J H v=>?_;exact q _ "lease" ho _ a (.ls rfl e (by lia)) ((U.trans g).trans v)
 .refine zN (λh=>?_) (λh=>?_)
  .exact q _ "ask" ho _ a (.nn (.inl rfl) (by lia) b.1 b.2) U
  .refine zN (λh=>?_) (λh=>?_)
   .have:c=7\/c=8:=by lia
    rcases this with rfl|rfl
    .exact⟨_,rfl,q _ "store" ho _ a (.nn (.inr (.inl rfl)) (by lia) b.1 b.2) U⟩
    .exact⟨_,rfl,q _ "take" ho _ a (.nn (.inr (.inr rfl)) (by lia) b.1 b.2) U⟩
   .have:c=9\/c=10\/c=11:=by lia
    rcases this with rfl|rfl|rfl
    .exact⟨_,rfl,q _ "back" ho _ a (.th (.inl rfl)) U⟩
    .exact⟨_,rfl,q _ "fall" ho _ a (.th (.inr (.inl rfl))) U⟩
    .exact⟨_,rfl,q _ "bare" ho _ a (.th (.inr (.inr rfl))) U⟩
structure Re where
 t:Int
 ho:aH
 wd:aH
 row:T
structure Dr(y z t0 t1:Int)(hs:List aH)(rl:List Re):Prop where
 rw:∀e∈rl,Rw y z e.t e.ho e.wd e.row
 ho:∀e∈rl,e.ho∈hs
 tm:∀e∈rl,t0<=e.t/\e.t<=t1
 up:rl.Pairwise λa b=>a.t<=b.t
theorem Ox{v a b:Int}(h0:0<=v)(h1:v<3)(c:0<=a)(hb:0<=b):∃w:Int,vW [T.int 0,.int a,.int b] v=aA (.int w)/\0<=w:=by
 have:v=0\/v=1\/v=2:=by lia
 rcases this with rfl|rfl|rfl
 .exact⟨0,rfl,by lia⟩
 .exact⟨a,rfl,c⟩
 .exact⟨b,rfl,hb⟩
theorem VZ{cs:List Int}{t0:Int}(cl:cs.length<=41)(l1:1<=hs.length)(l8:hs.length<=8)(y1:1<=y)(y4:y<=4)(z1:1<=z)(s:z<=12)
  (q:∀g t1 d j,Dr y z t0 t1 hs g->g.length<=49->μ.length<=j->Ch [] μ d->d[j]?=aA (.lst (g.map (·.row)))->K (.mut j) d):wZ [.lst (cs.map T.int),.lst (hs.map T.str),.tup [.int x,.int y,.int z],.int t0] μ K Z:=by
 unfold wZ;refine⟨rfl,?_⟩;refine⟨by rw[bJ];unfold aT;lia,?_⟩;refine qq T.str (λh=>aA (l4 "lease" t0 h .non 12)) (λp hp kk C=>⟨_,rfl,C⟩) ?_ trivial;rw[kw];have e0:hs.map (λh=>l4 "lease" t0 h .non 12)=(hs.map λh=>(⟨t0,h,"lease",l4 "lease" t0 h .non 12⟩:Re)).map (·.row):=by rw[cT];rfl
 have D0:Dr y z t0 t0 hs (hs.map λh=>(⟨t0,h,"lease",l4 "lease" t0 h .non 12⟩:Re)):=by
  refine⟨λe f=>?_,λe f=>?_,λe f=>?_,?_⟩
  .obtain⟨h,_,rfl⟩:=b7.mp f;exact .ls rfl (.inl rfl) (by decide)
  .obtain⟨h,B,rfl⟩:=b7.mp f;exact B
  .obtain⟨h,_,rfl⟩:=b7.mp f;exact⟨fT _,fT _⟩
  .rw[lb];exact List.pairwise_of_forall λ_ _=>fT _
 have E:(hs.map λx=>l4 "lease" t0 x .non 12)=(hs.map λh=>(⟨t0,h,"lease",l4 "lease" t0 h .non 12⟩:Re)).map (·.row):=e0;rw[E];refine zG (λn o d=>∃g k A w,o=[aA (.lst (cs.map T.int)),aA (.lst (hs.map T.str)),aA (.tup [.int x,.int y,.int z]),aA (.int k),aA (.mut μ.length),A,w]/\Dr y z t0 k hs g/\g.length=hs.length+n/\Ch [] μ d/\d[μ.length]?=aA (.lst (g.map (·.row)))) ⟨_,_,_,_,rfl,D0,by simp,Ch.app,zc⟩ ?_ ?_
 .rintro n u o d J ⟨g,k,A,w,rfl,D,m,ch,gl⟩ N hN;have hn:n<cs.length:=by have:=(bE.mp J).1;rwa[bJ] at this
  obtain⟨c,rfl⟩:∃c,u=T.int c:=by
   obtain⟨c,_,e⟩:=b7.mp (bK J);exact⟨c,e.symm⟩
  have V:=(bE.mp gl).1;refine⟨_,rfl,?_⟩;refine um λd1 d2=>?_;refine zo (i:=d.length) ⟨d1,d2,0,zc⟩ (by decide) (by decide) λv1 P a1 b1 I=>?_;refine zo I.st (by decide) (by decide) λv2 O a2 b2 H=>?_;refine zo H.st (by decide) (by decide) λv3 r a3 b3 G=>?_;obtain⟨dt,ed,d0⟩:=Ox a3 b3 a1 a2;refine⟨_,ed,?_⟩;have U:=(I.trans H).trans G;have M:r[μ.length]?=aA (.lst (g.map (·.row))):=(U.ot _ (by lia)).trans (z8 gl);refine⟨⟨_,M⟩,?_⟩;refine Jb G.st l1 l8 y1 y4 z1 s λrow Q S l B R v=>?_;have L:l[μ.length]?=aA (.lst (g.map (·.row))):=(v.ot _ (by lia)).trans M;refine⟨_,L,by rw[bJ];unfold aT;lia,?_⟩;have F:Ch [] d l:=⟨by rw[(U.trans v).len];simp,λj W _=>((U.trans v).ot j (by lia)).trans (dP W)⟩;refine hN _ _ ⟨g++[⟨k+dt,S,Q,row⟩],k+dt,_,_,rfl,⟨λe f=>?_,λe f=>?_,λe f=>?_,?_⟩,by simp[m];lia,Ch.geS (ch.trans F) Ch.set (by simp),?_⟩
  .rcases b_.mp f with h|h
   .exact D.rw e h
   .rw[bU.mp h];exact R
  .rcases b_.mp f with h|h
   .exact D.ho e h
   .rw[bU.mp h];exact B
  .rcases b_.mp f with h|h
   .have:=D.tm e h;constructor<;>lia
   .rw[bU.mp h];have:t0<=k:=by
     cases hs with
     |nil=>simp at l1
     |cons h0 hs=>
      have:0<g.length:=by rw[m];simp;lia
      have:=D.tm g[0] (nX this);lia
    exact⟨by show t0<=k+dt;lia,fT _⟩
  .rw[m6];exact⟨D.up,EX _ _,λa Y b X=>by rw[bU.mp X];have:=(D.tm a Y).2;show a.t<=k+dt;lia⟩
  .rw[dO];exact aG L
 .rintro o d ⟨g,k,A,w,rfl,D,m,ch,gl⟩;rw[bJ] at m;exact q g k d _ D (by lia) (bD _) ch gl
end
section
theorem U2{α:Type}{xs:List α}{i n:Nat}{t:α}(hi:i<=xs.length)(h:(jx xs aE (aA (i:Int)))[n]?=aA t):xs[n]?=aA t/\n<i:=by
 have e:jx xs aE (aA (i:Int))=xs.take i:=by
  unfold jx Xx;have b:¬((i:Int)<0):=by omega
  simp[b]
 rw[e,Eh] at h;split at h
 .rename_i a;exact⟨h,a⟩
 .cases h
end
section
variable {μ:Mem}{K:T->Mem->Prop}{Z:Xp}{x y z ah sd t:Int}{w cm gr g d i bk:Nat}{now:T}{us:List Hr}{ps:List Gp}{es:List E3}
theorem Ta(G:Gd x y ps)(I:ps.length<=1000)(q:K (.bl aB) μ):w4 [.lst (ps.map λp=>p.2.row)] μ K Z:=by
 unfold w4;refine⟨rfl,?_⟩;refine zG (λn g c=>c=μ/\∃m l h,g=[aA (.lst (ps.map λp=>p.2.row)),m,l,h]) ⟨rfl,_,_,_,rfl⟩ ?_ ?_
 .rintro i t g c s ⟨rfl,m,l,h,rfl⟩ N A;obtain⟨H,b,rfl⟩:=kJ s;rw[cE] at b;cases j:ps[i]? with
  |none=>rw[j] at b;cases b
  |some p=>
   rw[j] at b;cases b;have z:i<ps.length:=(bE.mp j).1;refine⟨_,rfl,?_⟩;refine zG (λn g a=>a=c/\∃h,g=[aA (.lst (ps.map λp=>p.2.row)),aA (.int (0+(i:Int))),aA p.2.row,h]) ⟨rfl,_,rfl⟩ ?_ ?_
   .rintro n t g a d ⟨rfl,h,rfl⟩ F r;rw[show (0:Int)+(i:Int)=(i:Int) by lia] at d;obtain⟨d,v⟩:=U2 (by rw[bJ];lia) d;rw[cE] at d;cases o:ps[n]? with
    |none=>rw[o] at d;cases d
    |some k=>
     rw[o] at d;cases d;have nx:F _ a:=r [aA (.lst (ps.map λp=>p.2.row)),aA (.int (0+(i:Int))),aA p.2.row,aA k.2.row] a ⟨rfl,_,rfl⟩;refine⟨_,rfl,_,rfl,_,rfl,?_⟩;refine zN (λe=>?_) (λe=>nx);refine⟨_,rfl,_,rfl,_,rfl,_,rfl,?_⟩;have w:mt p.2 k.2.f k.2.u=aC:=by
      obtain⟨E,D⟩:=bE.mp j;obtain⟨C,B⟩:=bE.mp o;have:=(hQ.mp G.dj) n i C E v;rw[D,B] at this;exact this.symm e
     exact Fi w nx
   .rintro g a ⟨rfl,h,rfl⟩;exact A _ _ ⟨rfl,_,_,_,rfl⟩
 .rintro g c ⟨rfl,m,l,h,rfl⟩;exact q
abbrev fW(e:E3):T:=.tup [.int e.1,.str e.2.1,.int e.2.2]
theorem HQ:∀(es:List E3),c_ (es.map fW) (es.map fW)=aA aB
 |[]=>by simp[c_]
 |e::r=>by
  have h:eqT (fW e) (fW e)=aA aB:=by simp[eqT,c_]
  rw[c8,c_,h,HQ r];rfl
theorem Hv:∀(es:List E3),wG (es.map fW)<=1
 |[]=>by simp[wG]
 |e::r=>by
  have h:kB (fW e)<=1:=by simp[kB,wG]
  have:=Hv r;rw[c8,wG];lia
theorem Gs{t:T}(M:eO μ w cm gr g d x y z ah sd now us j ps)(h:zJ [.mut cm,t] μ K Z):zX [.mut w,t] μ K Z:=by
 unfold zX;refine⟨rfl,_,_,_,M.wo,rfl,_,M.bk.com,?_⟩;exact h
theorem Ph(M:eO μ w cm gr g d x y z ah sd now us j ps)(a:ps.length<=1000)(q:K (.lst (ps.map λp=>p.2.row)) μ):qZ [.mut w] μ K Z:=by
 unfold qZ;refine⟨rfl,_,_,_,M.wo,rfl,_,M.bk.com,?_⟩;exact T5 M.bk a q
theorem No(W:eO μ w cm gr g d x y z ah sd now us j ps)(q:K (.lst j) μ):w_ [.mut w] μ K Z:=by
 unfold w_;refine⟨rfl,_,_,_,W.wo,rfl,?_⟩;exact⟨_,W.gv,q⟩
theorem OW{f e c b a h:Option T}{sh u:T}{E:En}{N:Sl->Mem->Prop}(s:Sh x y z)(W:eO μ w cm gr g d x y z ah sd now us r ps)(ht:(∃n:Int,u=.int n/\(n<0\/x*y*z<=n))\/(match u with|.int _=>aC|.mut _=>aC|.clo _ _=>aC|.obj _ _=>aC|_=>aB)=aB)
  (hN:∀j,N [aA (.mut w),f,aA sh,e,c,b,a,aA u,j] μ) :
  qp [(zp 8 (eC (.bl aC))),(oH [(zB (zv 47 zX (eV 0) [(eV 7)]))] [([13],aE,[(zp 8 (eC (.bl aB)))])]),(bL (qh (tE (eV 8))) [(zh (eC (.bl aC)))] [])] [aA (.mut w),f,aA sh,e,c,b,a,aA u,h] μ (E.turn N):=by
 refine⟨_,W.wo,?_⟩;refine Gs W ?_;refine UN s W.bk ht ?_;exact hN _
theorem LY(s:Sh x y z)(W:eO μ w cm gr g d x y z ah sd now us (es.map fW) ps)(I:dA x y z vs ps es)(hb:μ[bk]?=aA (.lst (es.map fW)))(el:es.length<=1000)(pl:ps.length<=1000)(q:∀j,K (.bl aB) j) :
  vL [.mut w,.mut bk,.tup [.int x,.int y,.int z]] μ K Z:=by
 obtain⟨Y,X,V,U,S⟩:=id s;unfold vL;refine⟨rfl,_,hb,?_⟩;refine⟨by rw[bJ];unfold aT;lia,?_⟩;refine qq fW (λe=>aA (.int e.2.2)) (λp F P r=>⟨_,rfl,r⟩) ?_ hb;rw[kw];refine⟨by rw[bJ];unfold aT;lia,?_⟩;refine qq (λe:E3=>T.int e.2.2) (λe=>aA (.tup [.int e.2.2,.int 1])) (λp F P r=>⟨_,rfl,r⟩) ?_ trivial;rw[kw];refine⟨es.map λe=>((.inl e.2.2:Key),T.int 1),by rw[cT];rfl,?_,by rw[bJ];exact el,?_⟩
 .rw[cT,show (es.map ((·.1) ∘ λe=>((.inl e.2.2:Key),T.int 1)))=(es.map (·.2.2)).map (iY:Int->Key) by rw[cT];rfl];exact DQ _ (λa b h e=>h (Dz e)) I.nd
 have ch:Ch [] μ (μ++[.dic (es.map λe=>((.inl e.2.2:Key),T.int 1))]):=Ch.app;have l:=W.ch0 ch;have t:=ch.get hb (by simp);refine⟨_,.inl zc,?_⟩;generalize (μ++[.dic (es.map λe=>((.inl e.2.2:Key),T.int 1))])=M at *;refine qR (by rw[bJ,bJ]) ?_;refine⟨_,l.wo,?_⟩;refine No l ?_;refine⟨_,t,⟨dG (Hv es) (by decide),_,HQ es,?_⟩⟩;refine⟨_,t,?_⟩;refine zG (λn i j=>j=M/\∃B A v k f,i=[aA (.mut w),aA (.mut bk),aA (.tup [.int x,.int y,.int z]),B,A,v,aA (.lst (es.map λe=>T.int e.2.2)),k,f]) ⟨rfl,_,_,_,_,_,rfl⟩ ?_ ?_ ?_
 .rintro n u i j o ⟨rfl,B,A,v,k,f,rfl⟩ N J;rw[cE] at o;cases H:es[n]? with
  |none=>rw[H] at o;cases o
  |some e=>
   rw[H] at o;cases o;have em:=bK H;obtain⟨O,L⟩:=I.eb e em;refine⟨_,rfl,?_⟩;refine qe O ?_;refine⟨_,rfl,_,rfl,.inr ⟨by unfold big;lia,by unfold big;lia⟩,_,rfl,.inr ⟨by unfold big;lia,by unfold big;lia⟩,?_⟩;refine qR L ?_;refine⟨_,l.wo,?_⟩;refine Gs l ?_;obtain⟨E,D,G,C⟩:=I.eg e em;refine YX s l.bk pl O L (λp F R Q=>?_) λno=>?_
   .have m:=vV.mp Q;have:p=E:=I.gd.name (y:=y) (z:=z) (nm:=e.2.2) F D ⟨R.symm,by lia,by lia⟩ C;subst this;refine qR G ?_;exact J _ _ ⟨rfl,_,_,_,_,_,rfl⟩
   .have:=no E D C.1.symm;have m:mt E.2 (e.2.2 / z / y) (e.2.2 / z / y+1)=aB:=vV.mpr ⟨by lia,by lia,by lia,by lia⟩;rw[this] at m;cases m
 .rintro i j ⟨rfl,B,A,v,k,f,rfl⟩;refine⟨_,rfl,_,rfl,.inr ⟨by unfold big;lia,by unfold big;lia⟩,_,rfl,.inr ⟨by unfold big;lia,by unfold big;lia⟩,?_⟩;refine zG (λn i c=>c=j/\∃k f,i=[aA (.mut w),aA (.mut bk),aA (.tup [.int x,.int y,.int z]),B,A,v,aA (.lst (es.map λe=>T.int e.2.2)),k,f]) ⟨rfl,_,_,rfl⟩ ?_ ?_
  .rintro n u i c o ⟨rfl,k,f,rfl⟩ N J;refine⟨_,rfl,?_⟩;refine OW s l ?_ λf=>J _ _ ⟨rfl,_,_,rfl⟩;have:=bK o;simp only[cK,ip,or_false] at this;rcases this with rfl|rfl|rfl|rfl|rfl
   .exact .inl ⟨_,rfl,.inl (by lia)⟩
   .exact .inl ⟨_,rfl,.inr (fT _)⟩
   .exact .inr rfl
   .exact .inr rfl
   .exact .inr rfl
  .rintro i c ⟨rfl,k,f,rfl⟩;refine⟨_,l.wo,?_⟩;refine Ph l pl ?_;exact Ta I.gd pl (q _)
 .rintro n i j ⟨rfl,B,A,v,k,f,rfl⟩;exact t
end
section
variable {e:Int}
structure Cw where
 ho:aH
 st:Int
 ts:List Tn
 j:Nat
abbrev jW(c:Cw):Key×T:=(.inr c.ho,.tup [.int c.st,.mut c.j])
abbrev Cw.cd(c:Cw):Cd:=(c.ho,c.st,c.ts)
theorem G4:∀{a:List Cw}{k:Cw},k∈a->(a.map (·.ho)).Nodup->ze (.inr k.ho) (a.map jW)=aA (.tup [.int k.st,.mut k.j])
 |[],_,h,_=>by cases h
 |v::r,k,h,n=>by
  rw[c8,iP] at n;show ze _ (jW v::r.map jW)=_;unfold ze;rcases cK.mp h with rfl|h
  .rw[if_pos rfl]
  .rw[if_neg (λe=>n.1 (b7.mpr ⟨k,h,(ie e).symm⟩))];exact G4 h n.2
end
section
variable {μ:Mem}{x y z ah t:Int}{w i j bk ld dk:Nat}{row:T}{es:List E3}{wd:aH}{L:List Int}{kvs:List (Key×T)}
theorem Rw.form(h:Rw y z t ho wd row):∃r,row=.tup (.str wd::.int t::.str ho::r):=by
 cases h with
 |ls=>exact⟨_,rfl⟩
 |nn=>exact⟨_,rfl⟩
 |th=>exact⟨_,rfl⟩
abbrev oJ(kvs:List (Key×T))(ho:aH)(o:Option Int):Prop:=ze (.inr ho) kvs=o.map T.int
theorem Jo:∀{kvs:List (Key×T)}{b y':Key}{t:T},ze y' (jV b t kvs)=if y'=b then aA t else ze y' kvs:=by
 intro kvs b y' t;have j:∀l:List (Key×T),(l.any λd=>decide (d.1=b))=aB->ze y' (l.map λd=>if d.1=b then (d.1,t) else d)=if y'=b then aA t else ze y' l:=by
  intro l;induction l with
  |nil=>intro h;cases h
  |cons p r f=>
   intro h;rw[c8];by_cases c:p.1=b
   .rw[if_pos c];unfold ze;by_cases e:y'=b
    .subst e;rw[if_pos c,if_pos rfl]
    .rw[if_neg e,if_neg (λh=>e (h.symm.trans c)),if_neg (λh=>e (h.symm.trans c))];by_cases a:(r.any λd=>decide (d.1=b))=aB
     .rw[f a,if_neg e]
     .have:(r.map λd=>if d.1=b then (d.1,t) else d)=r:=by
       conv=>rhs;rw[<-Du r]
       refine m5 λq g=>if_neg λh=>a (D7.mpr ⟨q,g,by simpa using h⟩)
      rw[this]
   .rw[if_neg c];unfold ze;have a:(r.any λd=>decide (d.1=b))=aB:=by rw[ms,decide_eq_false c,Bool.false_or] at h;exact h
    rw[f a];by_cases e:p.1=y'
    .rw[if_pos e,if_pos e,if_neg (λh=>c (e.trans h))]
    .rw[if_neg e,if_neg e]
 have i:∀l:List (Key×T),¬(l.any λd=>decide (d.1=b))=aB->ze y' (l++[(b,t)])=if y'=b then aA t else ze y' l:=by
  intro l;induction l with
  |nil=>
   intro _;show ze y' [(b,t)]=_;unfold ze ze;by_cases e:b=y'
   .subst e;simp
   .rw[if_neg e,if_neg (λh=>e h.symm)]
  |cons p r f=>
   intro h;rw[ms,nS,not_or] at h;have c:p.1≠b:=by simpa using h.1
   rw[nW];unfold ze;rw[f h.2];by_cases e:p.1=y'
   .rw[if_pos e,if_pos e,if_neg (λh=>c (e.trans h))]
   .rw[if_neg e,if_neg e]
 unfold jV;split
 .rename_i h;exact j _ h
 .rename_i h;exact i _ h
theorem uj:∀{kvs:List (Key×T)}{h:aH}{y':Key},ze y' (WU h kvs)=if y'=.inr h then aE else ze y' kvs
 |[],h,y'=>by show aE=_;split<;>rfl
 |p::r,h,y'=>by
  have a:=uj (kvs:=r) (h:=h) (y':=y');unfold WU at a ⊢;rw[nV];by_cases c:p.1=.inr h
  .rw[if_neg (by simpa using c),a];by_cases e:y'=.inr h
   .rw[if_pos e,if_pos e]
   .rw[if_neg e,if_neg e];conv=>rhs;unfold ze
    rw[if_neg (λh=>e (h.symm.trans c))]
  .rw[if_pos (by simpa using c)];unfold ze;rw[a];by_cases e:p.1=y'
   .rw[if_pos e,if_pos e,if_neg (λh=>c (e.trans h))]
   .rw[if_neg e,if_neg e]
theorem FT{a:T}{r:List T}:vW (a::r) 0=aA a:=CD (j:=0) rfl
abbrev lj(s0 m l:Option T)(x y z ah:Int)(k j i:Option T)(dk:Nat)(h b a:Option T)(w bk ld:Nat)(g f e d c:Option T):Sl:=[s0,m,l,aA (.tup [.int x,.int y,.int z]),aA (.int ah),k,j,i,aA (.mut dk),h,b,a,aA (.mut w),aA (.mut bk),aA (.mut ld),g,f,e,d,c]
@[reducible] def Qv:List Ds:=[(bL (tE (zw .LtE (eV 18) (mF aC (eV 14) (aX (eV 15) (eC (.int 2))) (zd .Sub (eC (.int 0)) (eC (.int 1)))))) [(zh (eC (.bl aC)))] []),(zp 19 (zd .FloorDiv (zd .FloorDiv (eV 18) (aX (eV 3) (eC (.int 2)))) (aX (eV 3) (eC (.int 1))))),(bL (jU (tE (zw .Eq (aX (eV 15) (eC (.int 0))) (eC (.str "ask")))) (qh (tE (iS (eV 17) [(.LtE,(eV 19)),(.LtE,(zd .Add (eV 17) (eV 4)))])))) [(zh (eC (.bl aC)))] []),(xu (eV 14) (aX (eV 15) (eC (.int 2))) (eV 18)),(zB (W3 (eV 13) (wD [(aX (eV 15) (eC (.int 1))),(aX (eV 15) (eC (.int 2))),(eV 18)])))]
def oG (ho:aH)(la:Option Int)(L:List Int)(n:Nat):Option Int:=if n=0 then la else L[n-1]?
theorem Rv{s0 F D C B A v m k f b:Option T}{E:En}{rd:Int}{r:List T}{la:Option Int}{ho:aH}(y1:1<=y)(y4:y<=4)(z1:1<=z)(S:z<=12)
  (hj:μ[j]?=aA (.lst (L.map T.int))) (hb:μ[bk]?=aA (.lst (es.map fW))) (hd:μ[ld]?=aA (.dic kvs)) (Q:j≠bk)
  (up:L.Pairwise (·<·)) (gt:∀nm∈L,0<=nm/\∀a,la=aA a->a<nm) (Z:oJ kvs ho la) (ask:wd="ask"->∀nm∈L,rd<=nm / z / y/\nm / z / y<=rd+ah) (el:es.length+L.length<=10000) (kl:kvs.length+L.length<=10000)
  (q:∀g d f b,Ch [bk,ld] μ g->g.length=μ.length->g[j]?=aA (.lst (L.map T.int))->g[bk]?=aA (.lst ((es++L.map λnm=>(t,ho,nm)).map fW))->g[ld]?=aA (.dic d)->oJ d ho (if L=[] then la else L.getLast?)->(∀h,h≠ho->ze (.inr h) d=ze (.inr h) kvs)->d.length<=kvs.length+L.length->E.nx (lj s0 F D x y z ah C B A dk v m k w bk ld (aA (.tup (.str wd::.int t::.str ho::r))) (aA (.mut j)) (aA (.int rd)) f b) g) :
  vr (.one 18) (iE (eV 16)) Qv (lj s0 F D x y z ah C B A dk v m k w bk ld (aA (.tup (.str wd::.int t::.str ho::r))) (aA (.mut j)) (aA (.int rd)) f b) μ E:=by
 have G:∀{i:Nat}{l:List T},μ[i]?=aA (.lst l)->i≠ld:=λh=>zq h hd (λe=>by cases e);refine⟨_,hj,?_⟩;refine zG (λn K g=>∃d f b,K=lj s0 F D x y z ah C B A dk v m k w bk ld (aA (.tup (.str wd::.int t::.str ho::r))) (aA (.mut j)) (aA (.int rd)) f b/\Ch [bk,ld] μ g/\g.length=μ.length/\g[bk]?=aA (.lst ((es++(L.take n).map λnm=>(t,ho,nm)).map fW))/\g[ld]?=aA (.dic d)/\oJ d ho (oG ho la L n)/\(∀h,h≠ho->ze (.inr h) d=ze (.inr h) kvs)/\d.length<=kvs.length+n) ⟨kvs,_,_,rfl,Ch.refl,rfl,by simpa using hb,hd,Z,λ_ _=>rfl,by simp⟩ ?_ ?_ ?_
 .rintro n u K g H ⟨d,f,b,rfl,ch,O,gb,gd,lo,M,P⟩ N hN;rw[cE] at H;cases p:L[n]? with
  |none=>rw[p] at H;cases H
  |some nm=>
   rw[p] at H;cases H;have nL:=(bE.mp p).1;have o:=bK p;have lt:∀a,oG ho la L n=aA a->a<nm:=λa e=>by
    unfold oG at e;by_cases c:n=0
    .rw[if_pos c] at e;exact (gt nm o).2 a e
    .rw[if_neg c] at e;obtain⟨X,g1⟩:=bE.mp e;obtain⟨W,g2⟩:=bE.mp p;have:=hQ.mp up (n-1) n X W (by lia);rw[g1,g2] at this;exact this
   have g0:=(gt nm o).1;refine⟨_,rfl,?_⟩;have rest:qp (Qv.drop 1) (lj s0 F D x y z ah C B A dk v m k w bk ld (aA (.tup (.str wd::.int t::.str ho::r))) (aA (.mut j)) (aA (.int rd)) (aA (.int nm)) b) g (E.turn N):=by
    refine⟨_,rfl,⟨by lia,by lia⟩,_,rfl,⟨by lia,by lia⟩,?_⟩;have J:qp (Qv.drop 3) (lj s0 F D x y z ah C B A dk v m k w bk ld (aA (.tup (.str wd::.int t::.str ho::r))) (aA (.mut j)) (aA (.int rd)) (aA (.int nm)) (aA (.int (nm / z / y)))) g (E.turn N):=by
     refine⟨_,ZC,_,gd,by unfold aT;lia,?_⟩;have s:(g.set ld (.dic (jV (.inr ho) (.int nm) d)))[bk]?=aA (.lst ((es++(L.take n).map λnm=>(t,ho,nm)).map fW)):=by
      rw[bR (bW (zq gb gd (λe=>by cases e)))];exact gb
     refine⟨⟨_,s⟩,_,UR,_,ZC,_,s,by simp only[bJ,gK,hO];unfold aT;lia,?_⟩;refine hN _ _ ⟨jV (.inr ho) (.int nm) d,_,_,rfl,(ch.trans (Ch.set.mono (by simp))).trans (Ch.set.mono (by simp)),by simp[O],?_,?_,?_,λh I=>?_,?_⟩
     .rw[fM,p];rw[aG s];simp only[dO,Option.toList_some,c8,pT,mq]
     .rw[bR (zq gb gd (λe=>by cases e))];exact aG gd
     .show ze _ _=_;rw[Jo,if_pos rfl];unfold oG;rw[if_neg (by lia),show n+1-1=n by lia,p];rfl
     .rw[Jo,if_neg (λe=>I (ie e))];exact M h I
     .have:=Jv (z:=(.inr ho:Key)) (t:=T.int nm) (kvs:=d);lia
    refine⟨_,FT,?_⟩;refine zN (λea=>?_) (λ_=>J);obtain⟨V,U⟩:=ask ea nm o;refine qe V ?_;exact qR U J
   refine⟨⟨_,gd⟩,_,ZC,_,gd,λa R=>?_,λY=>?_⟩
   .rw[lo] at R;obtain⟨a',e1,rfl⟩:=ow.mp R;have:=lt a' e1;exact zA (by lia) rest
   .exact zA (by lia) rest
 .rintro K g ⟨d,f,b,rfl,ch,O,gb,gd,lo,M,P⟩;rw[bJ] at gb lo P;rw[gL (bD _)] at gb;refine q g d f b ch O (ch.get hj (by simp[Q,G hj])) gb gd ?_ M P;show ze _ _=_;rw[lo];unfold oG;by_cases c:L=[]
  .rw[if_pos c,if_pos (by rw[c];rfl)]
  .rw[if_neg c,if_neg (λh=>c (EY.mp h)),List.getLast?_eq_getElem?]
 .rintro n K g ⟨d,f,b,rfl,ch,O,gb,gd,lo,M,P⟩;exact ch.get hj (by simp[Q,G hj])
end
section
variable {μ μ1 μ2:Mem}{x y z ah sd t:Int}{w cm gr g d i j bk ld dk ep jr n:Nat}{now row:T}{vs:List Vh}{v:Vh}{ps:List Gp}{es:List E3}{cw:List Cw}{wd:aH}{L:List Int}{kvs:List (Key×T)}{rl:List Re}
structure sJ(μ:Mem)(w cm gr g d bk ld dk ep jr:Nat)(x y z ah sd:Int)(cw:List Cw)(rl:List Re)(now:T)(vs:List Vh)(ps:List Gp)(es:List E3)(kvs:List (Key×T))(n:Nat):Prop where
 M:Wm μ w cm gr g d x y z ah sd now vs (es.map fW) ps
 I:dA x y z vs ps es
 nw:∀e∈rl.drop n,Wi now e.t
 cd:vs.map (·.u.cd)=cw.map Cw.cd
 hb:μ[bk]?=aA (.lst (es.map fW))
 hd:μ[ld]?=aA (.dic kvs)
 lo:∀v∈vs,oJ kvs v.u.ho v.la
 fb:Fr gr g d vs bk
 fd:Fr gr g d vs ld
 hk:μ[dk]?=aA (.frd ep (cw.map jW))
 ht:∀c∈cw,μ[c.j]?=aA (.lst (c.ts.map qC))/\Fr gr g d vs c.j/\c.j≠bk
 hr:μ[jr]?=aA (.lst (rl.map (·.row)))
 fr:Fr gr g d vs jr/\jr≠bk
 t0:μ[0]?=aA (.tab 0)
 t1:μ[1]?=aA (.tab 1)
 pl:ps.length<=n
 el:es.length<=12*n
 kl:kvs.length<=12*n
 bl:∀v∈vs,v.bs.length<=n/\(X.nmB y z v.bs).length<=12*n
theorem NS(h:vs.map (·.u.cd)=cw.map Cw.cd){ho:aH}(d:ho∈cw.map (·.ho)):∃(i:Nat) (v:Vh) (c:Cw),vs[i]?=aA v/\c∈cw/\c.cd=v.u.cd/\v.u.ho=ho:=by
 obtain⟨c,a,rfl⟩:=b7.mp d;have:c.cd∈vs.map (·.u.cd):=by rw[h];exact b7.mpr ⟨c,a,rfl⟩
 obtain⟨v,b,e⟩:=b7.mp this;obtain⟨i,f⟩:=fN.mp b;exact⟨i,v,c,f,a,e.symm,congrArg (·.1) e⟩
theorem o5{l:List T}:¬mD (.lst l):=λ⟨_,_,e⟩=>by cases e
theorem NK{s0 s1 s2 s5 s6 s7 s9 S Q V U K H:Option T}{E:En}{N:Sl->Mem->Prop}{e:Re}(Nn:iV x y z ah sd)(y4:y<=4)(J:sJ μ w cm gr g d bk ld dk ep jr x y z ah sd cw rl now vs ps es kvs n)(he:rl[n]?=aA e)(R0:Rw y z e.t e.ho e.wd e.row)(hm:e.ho∈cw.map (·.ho))(nd:(cw.map (·.ho)).Nodup)(up:rl.Pairwise λa b=>a.t<=b.t)(rb:∀c∈cw,-1000000000000000<=w8 c.st c.ts e.t)(n49:n<=49)
  (hN:∀μ' now' vs' ps' es' kvs' V U K H,sJ μ' w cm gr g d bk ld dk ep jr x y z ah sd cw rl now' vs' ps' es' kvs' (n+1)->N (lj s0 s1 s2 x y z ah s5 s6 s7 dk s9 S Q w bk ld (aA e.row) V U K H) μ') :
  qp [(zp 16 (z4 j1 [(eV 12),(eV 15)])),(zp 17 (z4 j2 [(hY W_ (eV 8) (aX (eV 15) (eC (.int 2)))),(aX (eV 15) (eC (.int 1)))])),(bL (tE (zw .Eq (aX (eV 15) (eC (.int 0))) (eC (.str "bare")))) [(zB (mF aB (eV 14) (aX (eV 15) (eC (.int 2))) (eC .non)))] []),vr (.one 18) (iE (eV 16)) Qv,(zB (oM (eV 16)))] (lj s0 s1 s2 x y z ah s5 s6 s7 dk s9 S Q w bk ld (aA e.row) V U K H) μ (E.turn N):=by
 obtain⟨x1,y1,y2,z1,z2⟩:=id Nn.s;have zb:=Nn.zb;obtain⟨M,I,nw,cd,hb,hd,lo,fb,fd,hk,W,hr,fr,t0,t1,pl,el,kl,bl⟩:=J;obtain⟨i,v,c,hi,C,ec,eh⟩:=NS cd hm;have vm:=bK hi;obtain⟨t,ho,wd,row⟩:=e;have eh:v.u.ho=ho:=eh;subst eh;obtain⟨r,er⟩:=R0.form;have er:row=.tup (.str wd::.int t::.str v.u.ho::r):=er;have ecr:w8 c.st c.ts t=v.u.rd t:=by
  have h1:c.st=v.u.st:=congrArg (λp:Cd=>p.2.1) ec;have h2:c.ts=v.u.ts:=congrArg (λp:Cd=>p.2.2) ec;rw[h1,h2]
 have ech:c.ho=v.u.ho:=congrArg (λp:Cd=>p.1) ec;have emd:(⟨t,v.u.ho,wd,row⟩:Re)∈rl.drop n:=by
  have:=List.getElem?_drop (xs:=rl) (i:=n) (j:=0);exact bK (this.trans he)
 refine N2 (wd:=wd) Nn R0 M I hi (nw _ emd) (by rw[bJ];lia) t0 t1 (by lia) (by have:=(bl v vm).1;lia) (by have:=(bl v vm).2;lia) (by rw[<-ecr];exact rb c C) λnw' j L v' ps' m hn' R=>?_;have k:∀{q:Nat}{o:MO},μ[q]?=aA o->¬mD o->Fr gr g d vs q->m[q]?=aA o:=λh n F=>R.kp.ot _ _ h n F;have D:=k hb o5 fb;have B:=k hd (λ⟨_,_,e⟩=>by cases e) fd;have X:=k hk (λ⟨_,_,e⟩=>by cases e) (Fr.of M hk (λ_ e=>by cases e) (λ_ e=>by cases e));have ht1:=λc C=>k (W c C).1 o5 (W c C).2.1;have hr1:=k hr o5 fr.1;have t01:=k t0 (λ⟨_,_,e⟩=>by cases e) (Fr.of M t0 (λ_ e=>by cases e) (λ_ e=>by cases e));have t11:=k t1 (λ⟨_,_,e⟩=>by cases e) (Fr.of M t1 (λ_ e=>by cases e) (λ_ e=>by cases e));have jb:∀{q:Nat}{o:MO},μ[q]?=aA o->q≠j:=λh=>by have:=qP h;have:=R.jn;lia
 have lL:=R.ln;subst er;have lk:ze (.inr v.u.ho) (cw.map jW)=aA (.tup [.int c.st,.mut c.j]):=by rw[<-ech];exact G4 C nd
 refine⟨_,ZC,_,_,.inr ⟨ep,X⟩,lk,_,UR,?_⟩;refine YO (ht1 c C) ?_;rw[ecr];refine⟨_,FT,?_⟩
 have rest:∀(G:Mem) (A:List (Key×T)),Ch [ld] m G->G.length=m.length->G[ld]?=aA (.dic A)->oJ A v.u.ho (if wd="bare" then aE else v.la)->(∀h,h≠v.u.ho->ze (.inr h) A=ze (.inr h) kvs)->A.length<=kvs.length->
   qp [vr (.one 18) (iE (eV 16)) Qv,(zB (oM (eV 16)))] (lj s0 s1 s2 x y z ah s5 s6 s7 dk s9 S Q w bk ld (aA (.tup (.str wd::.int t::.str v.u.ho::r))) (aA (.mut j)) (aA (.int (v.u.rd t))) K H) G (E.turn N):=λG A Y ln2 hd2 lo2 ot2 kl2=>by
  have nld:∀{q:Nat}{o:MO},m[q]?=aA o->(∀l,o≠.dic l)->q∉[ld]:=λh n=>by simpa using zq h B (n _)
  have hj2:=Y.get R.hj (nld R.hj (λ_ e=>by cases e));have hb2:=Y.get D (nld D (λ_ e=>by cases e));refine Rv (ah:=ah) (la:=if wd="bare" then aE else v.la) y1 y4 z1 zb hj2 hb2 hd2 (λe=>jb hb e.symm) R.up (λnm hm=>⟨(R.gt nm hm).1,λa e=>?_⟩) lo2 R.ask (by lia) (by lia) λμ3 kvs3 K H ch3 ln3 hj3 hb3 hd3 lo3 ot3 kl3=>?_
  .split at e
   .cases e
   .exact (R.gt nm hm).2 a e
  refine⟨_,hj3,?_⟩;have chA:Ch [bk,ld,j] m (μ3.set j (.lst [])):=((Y.mono (by simp)).trans (ch3.mono (by simp))).trans (Ch.set.mono (by simp));have F':∀{q:Nat}{o:MO},μ[q]?=aA o->Fr gr g d vs q->Fr gr g d (vs.set i v') q:=λh F=>R.fr _ (qP h) F;have out:∀{q:Nat}{o:MO},μ[q]?=aA o->m[q]?=aA o->q≠bk->(∀l,o≠.dic l)->(μ3.set j (.lst []))[q]?=aA o:=λh0 h n1 n2=>chA.get h (by
   simp only[cK,ip,or_false,not_or];exact⟨n1,zq h B (n2 _),jb h0⟩)
  refine hN _ nw' (vs.set i v') ps' (es++L.map λnm=>(t,v.u.ho,nm)) kvs3 _ _ _ _ ⟨?_,R.I es I,λe' he'=>?_,?_,?_,?_,λq Z=>?_,F' hb fb,F' hd fd,out hk X (zq X D (λe=>by cases e)) (λ_ e=>by cases e),λc C=>⟨out (W c C).1 (ht1 c C) (W c C).2.2 (λ_ e=>by cases e),F' (W c C).1 (W c C).2.1,(W c C).2.2⟩,out hr hr1 fr.2 (λ_ e=>by cases e),⟨F' hr fr.1,fr.2⟩,out t0 t01 (zq t01 D (λe=>by cases e)) (λ_ e=>by cases e),out t1 t11 (zq t11 D (λe=>by cases e)) (λ_ e=>by cases e),by have:=R.pl;lia,by rw[gK,bJ];lia,by lia,λq Z=>?_⟩
  .have e:(es++L.map λnm=>((t,v.u.ho,nm):E3)).map fW=es.map fW++L.map (oS t v.u.ho):=by rw[dO,cT];rfl
   rw[e];refine R.M.law chA λq Z=>?_;simp only[cK,ip,or_false] at Z;rcases Z with rfl|rfl|rfl
   .exact⟨F' hb fb,λo h=>by rw[D] at h;cases h;exact o5⟩
   .exact⟨F' hd fd,λo h=>by rw[B] at h;cases h;exact λ⟨_,_,e⟩=>by cases e⟩
   .exact⟨R.fj,λo h=>by rw[R.hj] at h;cases h;exact o5⟩
  .have h1:e'∈rl.drop (n+1):=he';have le:t<=e'.t:=by
    have hp:=up;rw[<-ou (n+1) rl,m6] at hp;refine hp.2.2 ⟨t,v.u.ho,wd,.tup (.str wd::.int t::.str v.u.ho::r)⟩ ?_ e' h1;rw[fM,he];exact dH _ (by simp)
   rcases hn' with h|⟨s,h,hs⟩
   .exact .inl h
   .exact .inr ⟨s,h,mX hs le⟩
  .rw[sf (f:=λq:Vh=>q.u.cd) hi (by show v'.u.cd=v.u.cd;unfold Hr.cd;rw[R.sm.ho,R.sm.st,R.sm.ts])];exact cd
  .rw[bR (bW (jb hb))];exact hb3
  .rw[bR (bW (jb hd))];exact hd3
  .rcases yJ (P:=λ_=>True) Z with rfl|⟨j',n',O⟩
   .rw[R.sm.ho,R.la];exact lo3
   .have ne:q.u.ho≠v.u.ho:=λe=>n' (u3 (f:=(·.u.ho)) I.nh O hi e);show ze _ _=_;rw[ot3 _ ne,ot2 _ ne];exact lo q (bK O)
  .rcases yJ (P:=λ_=>True) Z with rfl|⟨j',n',O⟩
   .have:=R.bl;have:=R.nl;have:=bl v vm;constructor<;>lia
   .have:=bl q (bK O);constructor<;>lia
 refine zN (λeb=>?_) (λnb=>?_)
 .refine⟨⟨_,B⟩,_,ZC,_,B,λa ha=>?_,λhno=>?_⟩
  .refine rest _ (WU v.u.ho kvs) Ch.set (by simp) (aG B) ?_ (λh hne=>?_) (rD _ _)
   .show ze _ _=_;rw[uj,if_pos rfl,if_pos eb];rfl
   .rw[uj,if_neg (λe=>hne (ie e))]
  .exact rest m kvs Ch.refl rfl B (by show ze _ _=_;rw[hno,if_pos eb];rfl) (λ_ _=>rfl) (bD _)
 .exact rest m kvs Ch.refl rfl B (by rw[if_neg nb];exact lo v vm) (λ_ _=>rfl) (bD _)
end
section
variable {μ μ2:Mem}{K:T->Mem->Prop}{Z:Xp}{x y z ah sd b0:Int}{w cm gr g d dk ep:Nat}{vs:List Vh}{cw:List Cw}
theorem Yy{α β:Type}{f:α->β}{xs:List α}{lo hi:Option Int}:jx (xs.map f) lo hi=(jx xs lo hi).map f:=by
 unfold jx;rw[bJ,List.map_take,List.map_drop]
theorem Go{α:Type}{xs:List α}:(jx xs (aA 5) (aA 45)).length<=40:=by
 unfold jx Xx;simp only[hO,ut];simp;omega
structure lw(x y z ah sd b0:Int):Prop where
 x1:1<=x
 xb:x<=10000000000000
 y1:1<=y
 y4:y<=4
 z1:1<=z
 zb:z<=12
 a0:0<=ah
 d0:0<=sd
 b0:0<=b0
theorem lw.n(Q:lw x y z ah sd b0):iV x y z ah sd:=by
 obtain⟨x1,xb,y1,y4,z1,zb,a0,d0,h0⟩:=Q;exact⟨⟨x1,y1,by lia,z1,by lia⟩,xb,zb,a0,d0⟩
theorem lw.sh(Q:lw x y z ah sd b0):Sh x y z:=by
 obtain⟨x1,xb,y1,y4,z1,zb,a0,d0,h0⟩:=Q;exact⟨x1,y1,by lia,z1,by lia⟩
theorem OQ{ns:List Int}{s1 s2 s9 t s U S R P O L H:Option T}(Q:lw x y z ah sd b0)(M:Wm μ w cm gr g d x y z ah sd .non vs [] [])(I:dA x y z vs [] [])(nw:∀v∈vs,v.bs=[]/\v.la=aE)(cd:vs.map (·.u.cd)=cw.map Cw.cd)(nd:(cw.map (·.ho)).Nodup)(l1:1<=cw.length)(l8:cw.length<=8)
  (hk:μ[dk]?=aA (.frd ep (cw.map jW))) (ht:∀c∈cw,(Dn c.st c.ts/\μ[c.j]?=aA (.lst (c.ts.map qC)))/\Fr gr g d vs c.j) (t0:μ[0]?=aA (.tab 0)) (t1:μ[1]?=aA (.tab 1)) (q:∀r,K (.bl aB) r) :
  qp (vd.drop 12) [aA (.lst (ns.map T.int)),s1,s2,aA (.tup [.int x,.int y,.int z]),aA (.int ah),aA (.int sd),aA (.int b0),aA (.lst ((cw.map (·.ho)).map T.str)),aA (.mut dk),s9,t,s,aA (.mut w),U,S,R,P,O,L,H] μ (En.fn K Z):=by
 have N:=Q.n;have chb:Ch [] μ (μ++[.lst []]++[.dic []]):=Ch.app.trans Ch.app;refine jA (by decide) λE=>?_;refine⟨by show 1+(jx (ns.map T.int) (aA 5) (aA 45)).length<=aT;have:=Go (xs:=ns.map T.int);unfold aT;lia,?_⟩;have ec:[T.int E]++jx (ns.map T.int) (aA 5) (aA 45)=(E::jx ns (aA 5) (aA 45)).map T.int:=by rw[Yy];rfl
 have lc:(E::jx ns (aA 5) (aA 45)).length<=41:=by have:=Go (xs:=ns);simp;lia
 generalize (E::jx ns (aA 5) (aA 45))=cs at ec lc;rw[show ([T.int E]++jx (ns.map T.int) (aA 5) (aA 45))=cs.map T.int from ec];refine VZ (t0:=b0) lc (by simpa using l1) (by simpa using l8) Q.y1 Q.y4 Q.z1 Q.zb λV tE k jr D rlen jl p hr=>?_;have i:Ch [] μ k:=chb.trans p;have hb2:k[μ.length]?=aA (.lst []):=p.get (z8 zc) (by simp);have Y:k[(μ++[MO.lst []]).length]?=aA (.dic []):=p.get zc (by simp);have jn:(μ++[MO.lst []]++[MO.dic []]).length=μ.length+2:=by simp
 have ln1:(μ++[MO.lst []]).length=μ.length+1:=by simp
 rw[jn] at jl;have J0:sJ k w cm gr g d μ.length (μ++[MO.lst []]).length dk ep jr x y z ah sd cw V .non vs [] [] [] 0:=by
  refine⟨M.law i (by simp),I,λe _=>.inl rfl,cd,hb2,Y,λv X=>by rw[(nw v X).2];rfl,Fr.len M (bD _),Fr.len M (by lia),i.get hk (by simp),λc C=>⟨i.get (ht c C).1.2 (by simp),(ht c C).2,by have:=qP (ht c C).1.2;lia⟩,hr,⟨Fr.len M (by lia),by lia⟩,i.get t0 (by simp),i.get t1 (by simp),bD _,by simp,by simp,λv X=>?_⟩;rw[(nw v X).1];exact⟨by simp,by show 0<=_;lia⟩
 refine⟨_,hr,?_⟩;refine zG (λn F r=>∃m vs G es o l h f b a,F=lj (aA (.lst (ns.map T.int))) s1 s2 x y z ah (aA (.int sd)) (aA (.int b0)) (aA (.lst ((cw.map (·.ho)).map T.str))) dk s9 t s w μ.length (μ++[MO.lst []]).length l h f b a/\sJ r w cm gr g d μ.length (μ++[MO.lst []]).length dk ep jr x y z ah sd cw V m vs G es o n) ⟨_,_,_,_,_,_,_,_,_,_,rfl,J0⟩ ?_ ?_ ?_
 .rintro n u F r A ⟨m,vs,G,es,o,l,h,f,b,a,rfl,J⟩ N' hN;rw[cE] at A;cases B:V[n]? with
  |none=>rw[B] at A;cases A
  |some e=>
   rw[B] at A;cases A;have em:=bK B;have hl:=(bE.mp B).1;refine⟨_,rfl,?_⟩;exact NK N Q.y4 J B (D.rw e em) (D.ho e em) nd D.up (λc C=>(ht c C).1.1.low (by have:=(D.tm e em).1;have:=Q.b0;lia)) (by lia) λr now' vs' ps' es' kvs' h f b a J'=>hN _ _ ⟨_,_,_,_,_,_,_,_,_,_,rfl,J'⟩
 .rintro F r ⟨m,vs,G,es,o,l,h,f,b,a,rfl,J⟩;have pl:=J.pl;have el:=J.el;rw[bJ] at pl el;exact LY Q.sh J.M.W J.I J.hb (by lia) (by lia) q
 .rintro n F r ⟨m,vs,G,es,o,l,h,f,b,a,rfl,J⟩;exact J.hr
end
end NH.P
section
namespace NH.P
open PySem L2 NH
variable {μ μ1 μ2:Mem}{K:T->Mem->Prop}{Z:Xp}{x y z ah sd b0:Int}{w cm gr g d dk ep:Nat}{vs:List Vh}{cw:List Cw}{hs:List aH}
theorem Nj(hd:μ[dk]?=aA (.dic (cw.map jW)))(ht:∀c∈cw,Dn c.st c.ts/\μ[c.j]?=aA (.lst (c.ts.map qC)))(nd:(cw.map (·.ho)).Nodup)(L:cw.length<=8)
  (q:∀(ep:Nat) (f:List Kd) (i:Nat) (d:Mem),f.map Kd.cd=cw.map Cw.cd->(∀k∈f,d[k.c]?=aA (iw k.st k.ts))->Ch [dk] μ d->d[dk]?=aA (.frd ep (cw.map jW))->d[i]?=aA (.dic (f.map wV))->K (.mut i) d) :
  (dX iu (w9 2 [] (.tup [0,1]) (rP (eV 8)) [] (wD [(eV 0),(W8 41 vw [(aX (eV 1) (eC (.int 0))),(aX (eV 1) (eC (.int 1)))])]))) [s0,s1,s2,s3,s4,s5,s6,Y,aA (.mut dk),U,Q,J,I,H,G,E,D,C,B,A] μ K Z:=by
 refine⟨_,.inl hd,λep=>?_⟩;refine⟨by rw[bJ,bJ];unfold aT;lia,?_⟩;have m:(μ.set dk (.frd ep (cw.map jW)))[dk]?=aA (.frd ep (cw.map jW)):=aG hd;have y:Ch [dk] μ (μ.set dk (.frd ep (cw.map jW))):=Ch.set;have s:∀c∈cw,(μ.set dk (.frd ep (cw.map jW)))[c.j]?=aA (.lst (c.ts.map qC)):=λc z=>y.get (ht c z).2 (by simpa using zq (ht c z).2 hd (λe=>by cases e));generalize (μ.set dk (.frd ep (cw.map jW)))=M at m y s;refine Uw (λn t d=>∃f:List Kd,f.map Kd.cd=(cw.take n).map Cw.cd/\t=(f.map wV).map UH/\(∀k∈f,d[k.c]?=aA (iw k.st k.ts))/\Ch [] M d) ⟨[],rfl,rfl,by simp,Ch.refl⟩ ?_ ?_ ?_
 .rintro n u t d p ⟨f,o,rfl,w,ch⟩ N x;rw[cT,cE] at p;cases v:cw[n]? with
  |none=>rw[v] at p;cases p
  |some c=>
   rw[v] at p;cases p;have cm:=bK v;obtain⟨dn,_⟩:=ht c cm;refine⟨_,rfl,_,rfl,_,rfl,?_⟩;refine QM (ch.get (s c cm) (by simp)) dn.r (by have:=dn.l;lia) ?_;refine⟨rfl,?_⟩;refine x (aA (.tup [.str c.ho,.mut d.length])) _ ⟨f++[⟨c.ho,d.length,c.st,c.ts⟩],?_,?_,?_,ch.trans Ch.app⟩
   .rw[dO,o,fM,v,dO];rfl
   .rw[dO,dO];rfl
   .intro k g;rcases b_.mp g with h|h
    .exact z8 (w k h)
    .rw[bU.mp h];exact zc
 .rintro t d ⟨f,o,rfl,w,ch⟩;rw[bJ,bJ,gL (bD _)] at o;have F:f.map (·.ho)=cw.map (·.ho):=by
   have:=congrArg (nF (·.1)) o;rw[cT,cT] at this;exact this
  have O:f.length=cw.length:=by have:=congrArg lI o;simpa using this
  refine⟨_,rfl,?_,by rw[bJ];lia,?_⟩
  .rw[cT,show (f.map ((·.1) ∘ wV))=(f.map (·.ho)).map (lE:aH->Key) by rw[cT];rfl,F];exact DQ _ (λa b h e=>h (ie e)) nd
  .exact q ep f _ _ o (λk g=>z8 (w k g)) ((y.trans (ch.mono (by simp))).trans (Ch.app.mono (by simp))) (z8 (ch.get m (by simp))) zc
 .rintro n t d ⟨f,o,rfl,w,ch⟩;exact ch.get m (by simp)
structure sL(hs:List aH):Prop where
 ok:∀h∈hs,h.length<=aT/\wm h=aB
 nd:hs.Nodup
 l8:hs.length<=8
 l1:1<=hs.length
theorem Oj{ns:List Int}{s1 s2 s9 W V U S R P O N L J:Option T}(Q:lw x y z ah sd b0)(H:sL hs)(eh:cw.map (·.ho)=hs)(hd:μ[dk]?=aA (.dic (cw.map jW)))(ht:∀c∈cw,Dn c.st c.ts/\μ[c.j]?=aA (.lst (c.ts.map qC)))(F:μ[0]?=aA (.tab 0))(E:μ[1]?=aA (.tab 1))(q:∀D,K (.bl aB) D) :
  qp (vd.drop 10) [aA (.lst (ns.map T.int)),s1,s2,aA (.tup [.int x,.int y,.int z]),aA (.int ah),aA (.int sd),aA (.int b0),aA (.lst (hs.map T.str)),aA (.mut dk),s9,W,V,U,S,R,P,O,N,L,J] μ (En.fn K Z):=by
 have nd:(cw.map (·.ho)).Nodup:=by rw[eh];exact H.nd
 have ll:cw.length=hs.length:=by rw[<-eh,bJ]
 have l8:=H.l8;have l1:=H.l1;have dl:=(bE.mp hd).1;refine Nj hd ht nd (by lia) λep ks i b e1 hk ch hd1 hi=>?_;have e2:ks.map (·.ho)=cw.map (·.ho):=by
  have:=congrArg (nF (·.1)) e1;rw[cT,cT] at this;exact this
 have e3:ks.length=cw.length:=by have:=congrArg lI e1;simpa using this
 have m:∀{j:Nat}{o:MO},μ[j]?=aA o->(∀l,o≠.dic l)->b[j]?=aA o:=λ{j o} h n=>ch.get h (by simpa using zq h hd (n _));have G:=m F (λ_ e=>by cases e);have r:=m E (λ_ e=>by cases e);have kd:∀k∈ks,gF b k:=λk s=>by
  have:k.ho∈hs:=by rw[<-eh,<-e2];exact b7.mpr ⟨k,s,rfl⟩
  exact⟨(H.ok _ this).1,(H.ok _ this).2,hk k s⟩
 refine⟨_,rfl,_,rfl,_,rfl,rfl,?_⟩;refine QJ Q.x1 Q.y1 Q.z1 ?_;refine⟨rfl,_,rfl,rfl,?_⟩;refine Oz (t1:=1) hi (λe=>by rw[e] at e3;simp at e3;lia) (by lia) kd (by rw[e2];exact nd) r Q.a0 Q.d0 λC A cm gr g d M c1 B c3 c4 c5 c6=>?_;refine⟨rfl,?_⟩;have w:A.map (·.u.cd)=cw.map Cw.cd:=c1.trans e1;have f:∀{j:Nat}{o:MO},b[j]?=aA o->(∀l,o≠.dic l)->C[j]?=aA o:=λ{j o} h n=>c6.get h (by simpa using zq h hi (n _));have t:A.map (·.u.ho)=hs:=by
  have:=congrArg (nF (·.1)) w;rw[cT,cT] at this;exact Eq.trans this eh
 have I:dA x y z A [] []:=by
  refine⟨⟨by simp,lV⟩,by rw[t];exact H.nd,λv p=>?_,by simp,by simp,by simp,by simp⟩;obtain⟨⟨n1,n2,n3,n4,n5,n6⟩,_⟩:=B v p;have hm:v.u.ho∈hs:=by rw[<-t];exact b7.mpr ⟨v,p,rfl⟩
  refine⟨(H.ok _ hm).1,(H.ok _ hm).2,?_,?_,?_,?_,?_,?_,?_,?_,?_,?_⟩
  .rw[n1];exact λa e=>by cases e
  .rw[n3];exact λa e=>by cases e
  .rw[n2];exact λa e=>by cases e
  .exact .inl ⟨n4,n1,n2⟩
  .rw[n1];exact λa e=>by cases e
  .rw[n3];exact λa e=>by cases e
  .rw[n6];exact λa e=>by cases e
  .rw[n5];exact X.BOk.nil
  .rw[n5];exact λq hq=>by cases hq
  .rw[n5];exact lV
 have Y:∀{j:Nat}{o:MO},b[j]?=aA o->Fr gr g d A j:=λh=>by
  have:=qP h;exact⟨by lia,by lia,by lia,λv p=>by have:=(B v p).2;lia⟩
 rw[<-eh];exact OQ Q M I (λv p=>⟨(B v p).1.bs,(B v p).1.la⟩) w nd (by lia) (by lia) (f hd1 (λ_ e=>by cases e)) (λc hc=>⟨⟨(ht c hc).1,f (m (ht c hc).2 (λ_ e=>by cases e)) (λ_ e=>by cases e)⟩,Y (m (ht c hc).2 (λ_ e=>by cases e))⟩) (f G (λ_ e=>by cases e)) (f r (λ_ e=>by cases e)) q
theorem SE{ns:List Int}{U S X W J w v s p o m l k g:Option T}(Q:lw x y z ah sd b0)(H:sL hs)(I:μ[0]?=aA (.tab 0))(G:μ[1]?=aA (.tab 1))(q:∀r,K (.bl aB) r) :
  qp (vd.drop 8) [aA (.lst (ns.map T.int)),U,S,aA (.tup [.int x,.int y,.int z]),aA (.int ah),aA (.int sd),aA (.int b0),aA (.lst (hs.map T.str)),X,W,J,w,v,s,p,o,m,l,k,g] μ (En.fn K Z):=by
 have l8:=H.l8;have hb0:=Q.b0;refine zG (λn F r=>∃(cw:List Cw) (Y L:Option T),F=[aA (.lst (ns.map T.int)),U,S,aA (.tup [.int x,.int y,.int z]),aA (.int ah),aA (.int sd),aA (.int b0),aA (.lst (hs.map T.str)),aA (.mut μ.length),Y,L,w,v,s,p,o,m,l,k,g]/\cw.map (·.ho)=hs.take n/\r[μ.length]?=aA (.dic (cw.map jW))/\(∀c∈cw,Dn c.st c.ts/\r[c.j]?=aA (.lst (c.ts.map qC)))/\Ch [] μ r) ⟨[],_,_,rfl,rfl,zc,by simp,Ch.app⟩ ?_ ?_
 .rintro n u F r hx ⟨cw,o7,o8,rfl,eh,hd,D,ch⟩ N hN;obtain⟨t,a,rfl⟩:=kJ hx;rw[cE] at a;cases B:hs[n]? with
  |none=>rw[B] at a;cases a
  |some h=>
   rw[B] at a;cases a;have hn:=(bE.mp B).1;refine⟨_,rfl,?_⟩;refine jA (by lia) λc0=>?_;refine um λP O=>?_;refine Ps (i:=r.length) ⟨P,O,0,zc⟩ (by lia) λst V f dn cl=>?_;have R:Ch [] r f:=⟨by rw[cl.len];simp;lia,λj E _=>(cl.ot j (by lia) (by simp;lia)).trans (dP E)⟩;have b:=R.get hd (by simp);have new:h∉cw.map (·.ho):=λC=>by
    rw[eh] at C;have A:(hs.take n++[h]).Nodup:=by
     rw[show hs.take n++[h]=hs.take (n+1) by rw[fM,B];rfl];exact H.nd.sublist (mZ _ _)
    rw[lg] at A;exact A.2.2 h C h (by simp) rfl
   have M:(.inr h:Key)∉(cw.map jW).map (·.1):=λC=>by
    rw[cT] at C;obtain⟨c,d,e⟩:=b7.mp C;exact new (b7.mpr ⟨c,d,ie e⟩)
   have ln:cw.length<=8:=by have:=congrArg lI eh;rw[bJ,hO] at this;lia
   refine⟨_,b,by rw[bJ];unfold aT;lia,?_⟩;rw[Ku M];have cs:Ch [μ.length] f (f.set μ.length (.dic (cw.map jW++[((.inr h:Key),T.tup [.int st,.mut (r++[MO.lst [T.int P,.int O,.int 0]]).length])]))):=Ch.set;refine hN _ _ ⟨cw++[⟨h,st,V,(r++[MO.lst [T.int P,.int O,.int 0]]).length⟩],_,_,rfl,?_,?_,?_,Ch.geS (ch.trans R) cs (by simp)⟩
   .rw[dO,eh,fM,B];rfl
   .rw[dO];exact aG b
   .intro c d;rcases b_.mp d with d|d
    .have E:=R.get (D c d).2 (by simp);exact⟨(D c d).1,cs.get E (by simpa using zq E b (λe=>by cases e))⟩
    .rw[bU.mp d];exact⟨dn,cs.get cl.ls (by simpa using zq cl.ls b (λe=>by cases e))⟩
 .rintro F r ⟨cw,o7,o8,rfl,eh,hd,D,ch⟩;rw[kF,bJ,gL (bD _)] at eh;exact Oj Q H eh hd D (ch.get I (by simp)) (ch.get G (by simp)) q
theorem Uv{ns:List Int}{s r p o n m l k i h g f e d:Option T}{c:List T}(ec:c=hs.map T.str)(Q:lw x y z ah sd b0)(H:sL hs)(b:μ[0]?=aA (.tab 0))(a:μ[1]?=aA (.tab 1))(q:∀j,K (.bl aB) j) :
  qp (vd.drop 8) [aA (.lst (ns.map T.int)),s,r,aA (.tup [.int x,.int y,.int z]),aA (.int ah),aA (.int sd),aA (.int b0),aA (.lst c),p,o,n,m,l,k,i,h,g,f,e,d] μ (En.fn K Z):=by
 subst ec;exact SE Q H b a q
noncomputable def n8:List aH:=["one","ones","a","b","bees","c","two","twos"]
theorem Mt:∀h∈n8,h.length<=aT/\wm h=aB:=by
 intro h a;simp only[n8,cK,ip,or_false] at a;rcases a with rfl|rfl|rfl|rfl|rfl|rfl|rfl|rfl<;>exact⟨by decide,by decide +kernel⟩
theorem hn8{k:Nat}(h1:1<=k)(b:k<=8):sL (n8.take k):=by
 have e:n8.length=8:=rfl;exact⟨λh a=>Mt h (iN a),ID (mZ _ _) (show n8.Nodup by unfold n8;decide),by rw[hO];lia,by rw[hO];lia⟩
theorem So{k:Int}(h0:0<=k)(b:k<=8):jx (n8.map T.str) aE (aA k)=(n8.take k.toNat).map T.str:=by
 rw[Yy];congr 1;unfold jx Xx;have a:¬k<0:=by lia
 have e:n8.length=8:=rfl;simp[a,e]
theorem B6{a b v:Int}(h0:0<=v)(h1:v<2)(c:0<=a)(hb:0<=b):∃w:Int,vW [T.int a,.int b] v=aA (.int w)/\0<=w/\(w<=a\/w<=b):=by
 have:v=0\/v=1:=by lia
 rcases this with rfl|rfl
 .exact⟨a,rfl,c,.inl (fT _)⟩
 .exact⟨b,rfl,hb,.inr (fT _)⟩
theorem PU:Vg yb:=by
 intro ns V;unfold yb;refine⟨rfl,?_⟩;refine jA (by decide) λc0=>?_;refine um λA z=>?_;have m:St ([MO.tab 0,MO.tab 1]++[.lst [.int A,.int z,.int 0]]) 2:=⟨A,z,0,rfl⟩;refine⟨⟨by decide,by decide,by decide⟩,?_⟩;refine zo m (by decide) (by decide) λv1 J a1 b1 y=>?_;obtain⟨d,ef,f0,W⟩:=B6 (a:=0) (b:=10 ^ (12:Int).toNat) a1 b1 (by decide) (by decide);have fb:d<=1000000000000:=by
  have e:(10:Int) ^ (12:Int).toNat=1000000000000:=by decide
  rw[e] at W;lia
 refine⟨_,ef,?_⟩;refine zo y.st (by decide) (by decide) λR I a2 b2 x=>?_;refine zo x.st (by decide) (by decide) λP H a3 b3 w=>?_;refine zo w.st (by decide) (by decide) λO G a4 b4 u=>?_;refine zo u.st (by decide) (by decide) λN F a5 b5 t=>?_;refine zo t.st (by decide) (by decide) λM E a6 b6 s=>?_;refine zo s.st (by decide) (by decide) λv7 D a7 X r=>?_;obtain⟨S,es,T,_⟩:=B6 (a:=0) (b:=M) a7 X (by decide) a6;refine⟨_,es,?_⟩;refine zo r.st (by decide) (by decide) λL C a8 b8 q=>?_;refine zo q.st (by decide) (by decide) λK B a9 b9 p=>?_;refine zo p.st (by decide) (by decide) λh o n Z f=>?_;refine zo f.st (by decide) (by decide) λg c a11 Y i=>?_;have U:=(((((((((y.trans x).trans w).trans u).trans t).trans s).trans r).trans q).trans p).trans f).trans i;have l:c[0]?=aA (.tab 0):=(U.ot 0 (by decide)).trans rfl;have j:c[1]?=aA (.tab 1):=(U.ot 1 (by decide)).trans rfl;obtain⟨k,ek,k0,k1⟩:=B6 (a:=K) (b:=h) (v:=if decide (g=7) then 1 else 0) (by split<;>decide) (by split<;>decide) a9 n;refine⟨_,ek,?_⟩;have ec:=So (k:=1+k) (by lia) (by lia);have Q:lw (d+60+R) (1+P) (1+O) N S (d+L):=⟨by lia,by lia,by lia,by lia,by lia,by lia,a5,T,by lia⟩;exact Uv (hs:=n8.take (1+k).toNat) ec Q (hn8 (by lia) (by lia)) l j λ_=>rfl
end NH.P
namespace NH.K91
open PySem L2 NH NH.P
theorem oY:Vg yb:=PU
end NH.K91
end
namespace NH.K91
open PySem PySem.Spec PyProof.Rows L2 NH NH.P PySem.W
theorem oP{P:List aD->Prop}(h:∀a0,P [a0]):∀us:List aD,us.length=1->P us:=PL.all (n:=1) h
theorem rW{P:List aD->Prop}(h:∀a0 d,P [a0,d]):∀us:List aD,us.length=2->P us:=PL.all (n:=2) h
theorem BM{P:List aD->Prop}(h:∀a0 g d,P [a0,g,d]):∀us:List aD,us.length=3->P us:=PL.all (n:=3) h
theorem LF{P:List aD->Prop}(h:∀a0 s r j g d,P [a0,s,r,j,g,d]):∀us:List aD,us.length=6->P us:=PL.all (n:=6) h
theorem all_mk {l:mP}{w:eE}{K:Frag}{h:aV}{mg:aH->Option aD}{fa C0 C1 C2 C3 C4 C5 C6 C7 C8 t I H E D C14 P0 cA0 P1 Y f0 N0 CC5 p r L d q o C a R A Q z O y M J x b f95:aF}{od0 an0 dd0 od30 an30 od51 an51 te51 od61 an61 te61 od62 an62 te62 od63 an63 te63 od76 an76 od95 an95:Option aF}{sl0 sl30 sl51 ts51 sl61 ts61 sl62 ts62 sl63 ts63 sl76 sl95:Array (Option aD)}{oc0 kV0 dc0 pm0 cd0 ct0 oc30 kV30 dc30 pm30 ct30 oc51 kV51 dc51 pm51 W ct51 td51 oc61 kV61 dc61 pm61 V ct61 td61 oc62 kV62 dc62 pm62 U ct62 td62 oc63 kV63 dc63 pm63 T ct63 td63 oc76 kV76 dc76 pm76 ct76 oc95 kV95 dc95 pm95 S ct95:aD}{nm0 qn0:aH}{bs0 sb0:List aD}{hd0 ab0:Bool}{sn0:List aH}{co0:Option Bool}{ka0 kb0 kc0 kd0 ke0:Option aD}{tk12 tk13 tk14 tk19 tk20 tk21 tk25 tk26 tz61 tz62 tz63 ka66_0 kb66_0 ka66_1 kb66_1 ka66_2 kb66_2 ka66_3 kb66_3 ka66_4 kb66_4 ka66_5 kb66_5 ka66_6 kb66_6 tk67 tk68 tk69 tk70 tk71 tk72:Tok}{tn51 tn61 tn62 tn63 ep66:Nat}(X:K.In h) (G:h.Ns bT mg) (hfa:mg "law"=aA (.ref fa))
  (e0:nsIn K bT "HouseError"=aA (aA (.ref C0)))
  (e1:nsIn K bT "NoShape"=aA (aA (.ref C1)))
  (e2:nsIn K bT "NoName"=aA (aA (.ref C2)))
  (e3:nsIn K bT "NoClock"=aA (aA (.ref C3)))
  (e4:nsIn K bT "NoTime"=aA (aA (.ref C4)))
  (e5:nsIn K bT "NoHolder"=aA (aA (.ref C5)))
  (e6:nsIn K bT "NoLease"=aA (aA (.ref C6)))
  (e7:nsIn K bT "Ended"=aA (aA (.ref C7)))
  (e8:nsIn K bT "TooMany"=aA (aA (.ref C8)))
  (e9:nsIn K bT "Wait"=aA (aA (.ref t)))
  (e10:nsIn K bT "Empty"=aA (aA (.ref I)))
  (e11:nsIn K bT "NoNote"=aA (aA (.ref H)))
  (e12:nsIn K bT "Fallen"=aA (aA (.ref E)))
  (e13:nsIn K bT "NoRow"=aA (aA (.ref D)))
  (e14:nsIn K bT "Backward"=aA (aA (.ref C14)))
  (xa0:K.lookup t=aA (iL nm0 qn0 t N0 bs0 (.ref C0::zT) hd0 sn0 sb0 ab0 co0 dd0 ka0 kb0 kc0 kd0 ke0 "ValueError.__new__"))
  (xb0:sQ K N0=aB)
  (xc0:nsIn K N0 "__init__"=aA (aA (.ref f0)))
  (xd0:sR K (.ref f0)=aA (.type "function"))
  (xe0:c7 K (.ref t) "__setattr__"=aA (aA (.builtin "object.__setattr__")))
  (xf0:c7 K (.ref t) "by"=aA aE)
  (xg0:mi K t=aB)
  (xh0:eP K (.ref t)=aB)
  (ha0:mw K (.ref C0) "__getattribute__"=aA (aA (.builtin "type.__getattribute__")))
  (ha1:tz K C0 (.type "type")=aB)
  (ha2:sX K (.ref C0) (.type "type") "__init__"=aA (.val (.builtin "ValueError.__init__")))
  (l0:K.lookup f0=aA ⟨oc0,od0,.func (fnOf "__init__" "Wait.__init__" (zF vO) (z0 vO) (zu vO) .none kV0 dc0 pm0 an0 cd0 ct0),sl0⟩)
  (c0:fB K cd0 "Wait.__init__"=aB)
  (k0:eP K (.ref f0)=aB)
  (p1:qi K "is_whole" Qi)
  (p2:qi K "is_size" Ws)
  (p3:qi K "is_from_nought" vZ)
  (p4:qi K "is_below" Q0)
  (p5:V7 K CC5 "Shape" "Shape.__init__" yE)
  (p6:qi K "names_in" ZJ)
  (p7:qi K "is_name" Wy)
  (p8:qi K "check_name" ye)
  (p9:qi K "check_part" yc)
  (p10:qi K "name_of" WN)
  (p11:qi K "parts_of" Qx)
  (v12:nsIn K bT "TIME_clocks"=aA (aA (.int 0 tk12)))
  (v13:nsIn K bT "READING"=aA (aA (.int 1 tk13)))
  (v14:nsIn K bT "RUNS"=aA (aA (.int 2 tk14)))
  (p15:qi K "is_turn" Wu)
  (p16:qi K "are_turns" uD)
  (p17:V7 K p "Clock" "Clock.__init__" yu)
  (p18:qY K p "reading" "Clock.reading" jR)
  (v19:nsIn K bT "HOUSE_leases"=aA (aA (.int 0 tk19)))
  (v20:nsIn K bT "FIRST"=aA (aA (.int 1 tk20)))
  (v21:nsIn K bT "UNTIL"=aA (aA (.int 2 tk21)))
  (p22:qi K "is_lease" ZM)
  (p23:qi K "check_lease" xf)
  (p24:qi K "used_of" WA)
  (v25:nsIn K bT "LETTERS"=aA (aA (.str "abcdefghijklmnopqrstuvwxyz" tk25)))
  (v26:nsIn K bT "LONGEST_HOLDER"=aA (aA (.int 8 tk26)))
  (p27:qi K "is_holder" uM)
  (p28:V7 K r "Grant" "Grant.__init__" yR)
  (p29:qi K "meets" Yp)
  (a30:nsIn K bT "least_begin"=aA (aA (.ref L)))
  (l30:K.lookup L=aA ⟨oc30,od30,.func (fnOf "least_begin" "least_begin" (zF qO) (z0 qO) (zu qO) .none kV30 dc30 pm30 an30 (.ref cA0) ct30),sl30⟩)
  (c30:fB K (.ref cA0) "least_begin"=aB)
  (zt0:nJ K cA0 P0=aB)
  (zk0:K.lookup P0=aE)
  (zs0:P0≠nG)
  (k30:eP K (.ref L)=aB)
  (p31:qi K "least_house" xc)
  (p32:V7 K d "Common" "Common.__init__" xy)
  (p33:qY K d "check_let" "Common.check_let" vy)
  (p34:qY K d "grants_of" "Common.grants_of" vn)
  (p35:qY K d "free_lease" "Common.free_lease" wQ)
  (p36:qY K d "let" "Common.let" yS)
  (p37:qY K d "uncut" "Common.uncut" km)
  (p38:qY K d "cut" "Common.cut" yk)
  (p39:qY K d "leases" "Common.leases" jO)
  (p40:qY K d "holder_of" "Common.holder_of" vh)
  (p41:qi K "is_note" Ww)
  (p42:V7 K q "Batch" "Batch.__init__" y9)
  (p43:qi K "name_at" Wx)
  (p44:qi K "names_of_batch" vD)
  (p45:qi K "size_of" uS)
  (p46:qi K "parted" J9)
  (p47:qi K "place_above" xn)
  (p48:V7 K o "Seat" "Seat.__init__" uG)
  (p49:qY K o "jot" "Seat.jot" Qy)
  (q51:nsIn K bT "House"=aA (aA (.ref a)))
  (i51:c7 K (.ref a) "__init__"=aA (aA (.ref C)))
  (j51:isFn K (.ref C)=aB)
  (l51:K.lookup C=aA ⟨oc51,od51,.func (fnOf "__init__" "House.__init__" (zF zS) (z0 zS) (zu zS) (.ref R) kV51 dc51 pm51 an51 W ct51),sl51⟩)
  (d51:K.lookup R=aA ⟨td51,te51,.seq #[.none] tn51,ts51⟩)
  (c51:fB K W "House.__init__"=aB)
  (k51:eP K (.ref C)=aB)
  (mk51:nH K a=aB)
  (kk51:eP K (.ref a)=aB)
  (p52:qY K a "check_up" "House.check_up" jc)
  (p53:qY K a "note" "House.note" yw)
  (p54:qY K a "keep" "House.keep" k6)
  (p55:qY K a "take_lease" "House.take_lease" wA)
  (p56:qY K a "check_has_lease" "House.check_has_lease" qX)
  (p57:qY K a "free_place" "House.free_place" vl)
  (p58:qY K a "next_batch" "House.next_batch" vx)
  (p59:qY K a "mark_behind" "House.mark_behind" wR)
  (p60:qY K a "hand_out" "House.hand_out" vE)
  (i61:c7 K (.ref a) "ask"=aA (aA (.ref A)))
  (j61:isFn K (.ref A)=aB)
  (l61:K.lookup A=aA ⟨oc61,od61,.func (fnOf "ask" "House.ask" (zF z_) (z0 z_) (zu z_) (.ref Q) kV61 dc61 pm61 an61 V ct61),sl61⟩)
  (d61:K.lookup Q=aA ⟨td61,te61,.seq #[.int 1 tz61] tn61,ts61⟩)
  (c61:fB K V "House.ask"=aB)
  (k61:eP K (.ref A)=aB)
  (i62:c7 K (.ref a) "store"=aA (aA (.ref z)))
  (j62:isFn K (.ref z)=aB)
  (l62:K.lookup z=aA ⟨oc62,od62,.func (fnOf "store" "House.store" (zF zO) (z0 zO) (zu zO) (.ref O) kV62 dc62 pm62 an62 U ct62),sl62⟩)
  (d62:K.lookup O=aA ⟨td62,te62,.seq #[.int 1 tz62] tn62,ts62⟩)
  (c62:fB K U "House.store"=aB)
  (k62:eP K (.ref z)=aB)
  (i63:c7 K (.ref a) "take"=aA (aA (.ref y)))
  (j63:isFn K (.ref y)=aB)
  (l63:K.lookup y=aA ⟨oc63,od63,.func (fnOf "take" "House.take" (zF ql) (z0 ql) (zu ql) (.ref M) kV63 dc63 pm63 an63 T ct63),sl63⟩)
  (d63:K.lookup M=aA ⟨td63,te63,.seq #[.int 1 tz63] tn63,ts63⟩)
  (c63:fB K T "House.take"=aB)
  (k63:eP K (.ref y)=aB)
  (p64:qY K a "last_moment" "House.last_moment" wL)
  (p65:qY K a "give_back" "House.give_back" wJ)
  (v66:nsIn K bT "LENGTHS"=aA (aA (.ref J)))
  (w66:K.lookup J=aA {cls:=.type "dict",data:=.dict #[⟨iZ w "lease",.str "lease" ka66_0,.int 5 kb66_0⟩,⟨iZ w "ask",.str "ask" ka66_1,.int 4 kb66_1⟩,⟨iZ w "store",.str "store" ka66_2,.int 4 kb66_2⟩,⟨iZ w "take",.str "take" ka66_3,.int 4 kb66_3⟩,⟨iZ w "back",.str "back" ka66_4,.int 3 kb66_4⟩,⟨iZ w "fall",.str "fall" ka66_5,.int 3 kb66_5⟩,⟨iZ w "bare",.str "bare" ka66_6,.int 3 kb66_6⟩] ep66})
  (y66:(J==gS)=aC)
  (v67:nsIn K bT "WORD"=aA (aA (.int 0 tk67)))
  (v68:nsIn K bT "TIME_rows"=aA (aA (.int 1 tk68)))
  (v69:nsIn K bT "HOLDER"=aA (aA (.int 2 tk69)))
  (v70:nsIn K bT "HOUSE_rows"=aA (aA (.int 3 tk70)))
  (v71:nsIn K bT "SPAN"=aA (aA (.int 4 tk71)))
  (v72:nsIn K bT "MANY"=aA (aA (.int 3 tk72)))
  (p73:qi K "has_form" Qq)
  (p74:qi K "is_row" Jm)
  (p75:qi K "are_clocks" yC)
  (i76:c7 K (.ref b) "come_up"=aA (aA (.ref x)))
  (j76:isFn K (.ref x)=aB)
  (l76:K.lookup x=aA ⟨oc76,od76,.func (fnOf "come_up" "World.come_up" (zF zL) (z0 zL) (zu zL) .none kV76 dc76 pm76 an76 (.ref Y) ct76),sl76⟩)
  (c76:fB K (.ref Y) "World.come_up"=aB)
  (zt1:nJ K Y P1=aB)
  (zk1:K.lookup P1=aE)
  (zs1:P1≠nG)
  (k76:eP K (.ref x)=aB)
  (p77:V7 K b "World" "World.__init__" j_)
  (p78:qY K b "check_row" "World.check_row" wK)
  (p79:qY K b "done" "World.done" ku)
  (p80:qY K b "put" "World.put" xx)
  (p81:qY K b "book" "World.book" kf)
  (p82:qY K b "leases" "World.leases" jd)
  (p83:qY K b "holder_of" "World.holder_of" vJ)
  (p84:qi K "_law_cell_at" uy)
  (p85:qi K "_law_mixed" WS)
  (p86:qi K "_law_digits" QF)
  (p87:qi K "_law_next" Qr)
  (p88:qi K "_law_drawn_clock" jP)
  (p89:qi K "_law_reading" uO)
  (p90:qi K "_law_drawn_row" xh)
  (p91:qi K "_law_drawn_rows" kh)
  (p92:qi K "_law_told" Qp)
  (p93:qi K "_law_leases_right" j9)
  (p94:qi K "_law_all_right" xt)
  (a95:nsIn K bT "law"=aA (aA (.ref f95)))
  (l95:K.lookup f95=aA ⟨oc95,od95,.func (fnOf "law" "law" (zF qW) (z0 qW) (zu qW) .none kV95 dc95 pm95 an95 S ct95),sl95⟩)
  (c95:fB K S "law"=aB)
  (k95:eP K (.ref f95)=aB)
  (x0:fA K C0 zT "ValueError.__new__"=aB)
  (x1:fA K C1 zT "ValueError.__new__"=aB)
  (x2:fA K C2 zT "ValueError.__new__"=aB)
  (x3:fA K C3 zT "ValueError.__new__"=aB)
  (x4:fA K C4 zT "ValueError.__new__"=aB)
  (x5:fA K C5 zT "ValueError.__new__"=aB)
  (x6:fA K C6 zT "ValueError.__new__"=aB)
  (x7:fA K C7 zT "ValueError.__new__"=aB)
  (x8:fA K C8 zT "ValueError.__new__"=aB)
  (x10:fA K I zT "ValueError.__new__"=aB)
  (x11:fA K H zT "ValueError.__new__"=aB)
  (x12:fA K E zT "ValueError.__new__"=aB)
  (x13:fA K D zT "ValueError.__new__"=aB)
  (zn:P0≠P1)
  (zl:Xs K=aB)
  (u:nv K ⟨[(10,C0),(12,C1),(13,C2),(15,C3),(16,C4),(17,C5),(18,C6),(19,C7),(20,C8),(21,t),(22,I),(23,H),(24,E),(25,D),(26,C14)],[(40,CC5),(41,p),(42,r),(43,d),(44,q),(46,o),(45,a),(47,b)]⟩ cls fld=aB)
  (zg:B4 K ⟨[(10,C0),(12,C1),(13,C2),(15,C3),(16,C4),(17,C5),(18,C6),(19,C7),(20,C8),(21,t),(22,I),(23,H),(24,E),(25,D),(26,C14)],[(40,CC5),(41,p),(42,r),(43,d),(44,q),(46,o),(45,a),(47,b)]⟩ ["ValueError","all","bool","dict","enumerate","int","isinstance","len","list","max","min","range","reversed","sorted","str","sum","tuple"] [("HouseError",10),("NoShape",12),("NoName",13),("NoClock",15),("NoTime",16),("NoHolder",17),("NoLease",18),("Ended",19),("TooMany",20),("Empty",22),("NoNote",23),("Fallen",24),("NoRow",25)] [("Wait",21,29),("Backward",26,25)]=aB) :
  (Xs K=aB/\∀P∈[P0,P1],K.lookup P=aE/\P≠nG/\∃c,nJ K c P=aB)/\∃fd:FuncData,(∀(s:bB) (v:aD),l_ s fd ⟨[v],[]⟩ [("_law_script",v)])/\∀base:aV,K.In base->base.Ns bT mg->(∀P∈[P0,P1],base.BuiltinsAt mg P)->bS l.prog w K mg base (dB l.prog w) 90 fa fd ["_law_script"] (V0 [P0,P1]):=by
 have e:=hfa.symm.trans (eD X G a95);cases e;have F0:=xD (st:=vO) l0 c0 k0;have b0:=F0.binds (ps:=["self","by"]) λ_ _ _ _ _ _=>rW λ_ _=>rfl;have F30:=xD (st:=qO) l30 c30 k30;have b30:=F30.binds (ps:=["grants","moment","span"]) λ_ _ _ _ _ _=>BM λ_ _ _=>rfl;have b51:=kE (K:=K) (fd:=fnOf "__init__" "House.__init__" (zF zS) (z0 zS) (zu zS) (.ref R) kV51 dc51 pm51 an51 W ct51) (ps:=["self","shape","ahead","stride","keeper","note"]) rfl d51 rfl <| LF λ_ _ _ _ _ _=>⟨_,rfl,rfl⟩
 have b61:=kE (K:=K) (fd:=fnOf "ask" "House.ask" (zF z_) (z0 z_) (zu z_) (.ref Q) kV61 dc61 pm61 an61 V ct61) (ps:=["self","reading","many"]) rfl d61 rfl <| BM λ_ _ _=>⟨_,rfl,rfl⟩
 have b62:=kE (K:=K) (fd:=fnOf "store" "House.store" (zF zO) (z0 zO) (zu zO) (.ref O) kV62 dc62 pm62 an62 U ct62) (ps:=["self","reading","many"]) rfl d62 rfl <| BM λ_ _ _=>⟨_,rfl,rfl⟩
 have b63:=kE (K:=K) (fd:=fnOf "take" "House.take" (zF ql) (z0 ql) (zu ql) (.ref M) kV63 dc63 pm63 an63 T ct63) (ps:=["self","many"]) rfl d63 rfl <| rW λ_ _=>⟨_,rfl,rfl⟩
 have F76:=xD (st:=zL) l76 c76 k76;have b76:=F76.binds (ps:=["self","seat"]) λ_ _ _ _ _ _=>rW λ_ _=>rfl;have F95:=xD (st:=qW) l95 c95 k95;have b95:=F95.binds (ps:=["_law_script"]) λ_ _ _ _ _ _=>oP λ_=>rfl;refine⟨⟨zl,λP hP=>by rcases cK.mp hP with rfl|hP;exact⟨zk0,zs0,cA0,zt0⟩;rw[bU.mp hP];exact⟨zk1,zs1,Y,zt1⟩⟩,⟨fnOf "law" "law" (zF qW) (z0 qW) (zu qW) .none kV95 dc95 pm95 an95 S ct95,λs v=>.of_eq rfl,λbase g k nbt=>?_⟩⟩;let B:=@GsB l w K mg base;have Z:Pk RU K mg base _ _ _:=⟨ya,g,k,u⟩;have g0:bH l.prog w K mg base ⟨[(10,C0),(12,C1),(13,C2),(15,C3),(16,C4),(17,C5),(18,C6),(19,C7),(20,C8),(21,t),(22,I),(23,H),(24,E),(25,D),(26,C14)],[(40,CC5),(41,p),(42,r),(43,d),(44,q),(46,o),(45,a),(47,b)]⟩ (AD rS ([(P0,[⟨137,36,137,64⟩],((("least_begin":aH)++".<locals>.")++"<lambda>")),(P1,[⟨408,64,408,91⟩],((("World.come_up":aH)++".<locals>.")++"<lambda>"))]:List (aF×List Pos×aH))) 0 CS (λj=>([(P0,[⟨137,36,137,64⟩],((("least_begin":aH)++".<locals>.")++"<lambda>")),(P1,[⟨408,64,408,91⟩],((("World.come_up":aH)++".<locals>.")++"<lambda>"))]:List (aF×List Pos×aH))[j]?):=KO g k zg ⟨⟨C0,rfl,x0⟩,⟨C1,rfl,x1⟩,⟨C2,rfl,x2⟩,⟨C3,rfl,x3⟩,⟨C4,rfl,x4⟩,⟨C5,rfl,x5⟩,⟨C6,rfl,x6⟩,⟨C7,rfl,x7⟩,⟨C8,rfl,x8⟩,⟨I,rfl,x10⟩,⟨H,rfl,x11⟩,⟨E,rfl,x12⟩,⟨D,rfl,x13⟩,trivial⟩;have XI0:iA K t C0 f0 "by":=⟨⟨N0,nm0,qn0,bs0,hd0,sn0,sb0,ab0,co0,dd0,ka0,kb0,kc0,kd0,ke0,xa0,xb0,xc0⟩,x0,xd0,xe0,xf0,xg0,xh0⟩;have W0:bS l.prog w K mg base (dB l.prog w) 1 f0 _ ["self","by"] (oZ t "by"):=Oi XI0 ⟨eD g k e0,ha0,ha1,ha2⟩ l0 c0 (by first|exact⟨_,_,_,_,_,_,_,_,_,_,_,rfl,rfl,.inl ⟨_,_,_,_,_,_,_,_,rfl,by decide,by decide⟩⟩|exact⟨_,_,_,_,_,_,_,_,_,_,_,rfl,rfl,.inr ⟨_,_,_,_,_,rfl,by decide⟩⟩) rfl;have g1:B 2 Ih:=bH.add (g0.mono (by decide)) ⟨t,C0,f0,_,_,1,rfl,eD g k e9,rfl,XI0,b0,by decide,W0⟩ rfl;have g2:B 2 CQ:=bH.add g1 ⟨t,C0,f0,_,_,1,rfl,eD g k e9,rfl,XI0,b0,by decide,W0⟩ rfl;have g3:B 3 CP:=Z.fn p1 g2 KG rfl rfl (λ_ _ _ _ _ _ _=>rfl) rfl;have g4:B 4 CO:=Z.fn p2 g3 UG rfl rfl (λ_ _ _ _ _ _ _=>rfl) rfl;have g5:B 5 CN:=Z.fn p3 g4 uc rfl rfl (λ_ _ _ _ _ _ _=>rfl) rfl;have g6:B 6 CM:=Z.fn p4 g5 KW rfl rfl (λ_ _ _ _ _ _ _ _=>rfl) rfl;have g7:B 8 CL:=Z.cl p5 g6 Vd rfl rfl rfl (λ_ _ _ _ _ _ _ _ _ _=>rfl) rfl;have g8:B 9 CI:=Z.fn p6 g7 KR rfl rfl (λ_ _ _ _ _ _ _=>rfl) rfl;have g9:B 10 CH:=Z.fn p7 g8 Uk rfl rfl (λ_ _ _ _ _ _ _ _=>rfl) rfl;have g10:B 11 Bl:=Z.fn p8 g9 Vo rfl rfl (λ_ _ _ _ _ _ _ _=>rfl) rfl;have g11:B 12 BI:=Z.fn p9 g10 V4 rfl rfl (λ_ _ _ _ _ _ _ _=>rfl) rfl;have g12:B 13 Bu:=Z.fn p10 g11 U1 rfl rfl (λ_ _ _ _ _ _ _ _ _ _=>rfl) rfl;have g13:B 14 Fy:=Z.fn p11 g12 KN rfl rfl (λ_ _ _ _ _ _ _ _=>rfl) rfl;have g14:B 14 Gf:=bH.add g13 ⟨_,(.int 0),eD g k v12,⟨_,rfl⟩,λ_ _ _=>rfl⟩ rfl;have g15:B 14 FY:=bH.add g14 ⟨_,(.int 1),eD g k v13,⟨_,rfl⟩,λ_ _ _=>rfl⟩ rfl;have g16:B 14 Bc:=bH.add g15 ⟨_,(.int 2),eD g k v14,⟨_,rfl⟩,λ_ _ _=>rfl⟩ rfl;have g17:B 15 AX:=Z.fn p15 g16 Ua rfl rfl (λ_ _ _ _ _ _ _=>rfl) rfl;have g18:B 16 BN:=Z.fn p16 g17 Ka rfl rfl (λ_ _ _ _ _ _ _=>rfl) rfl;have g19:B 18 A8:=Z.cl p17 g18 VT rfl rfl rfl (λ_ _ _ _ _ _ _ _ _=>rfl) rfl;have g20:B 19 Fl:=Z.met p18 g19 uW rfl rfl rfl rfl (λ_ _ _ _ _ _ _ _=>rfl) rfl;have g21:B 19 FD:=bH.add g20 ⟨_,(.int 0),eD g k v19,⟨_,rfl⟩,λ_ _ _=>rfl⟩ rfl;have g22:B 19 FV:=bH.add g21 ⟨_,(.int 1),eD g k v20,⟨_,rfl⟩,λ_ _ _=>rfl⟩ rfl;have g23:B 19 Br:=bH.add g22 ⟨_,(.int 2),eD g k v21,⟨_,rfl⟩,λ_ _ _=>rfl⟩ rfl;have g24:B 20 AE:=Z.fn p22 g23 Xh rfl rfl (λ_ _ _ _ _ _ _ _=>rfl) rfl;have g25:B 21 Ae:=Z.fn p23 g24 W4 rfl rfl (λ_ _ _ _ _ _ _ _=>rfl) rfl;have g26:B 22 FF:=Z.fn p24 g25 U0 rfl rfl (λ_ _ _ _ _ _ _ _=>rfl) rfl;have g27:B 22 Fw:=bH.add g26 ⟨_,(.str "abcdefghijklmnopqrstuvwxyz"),eD g k v25,⟨_,rfl⟩,λ_ _ _=>rfl⟩ rfl;have g28:B 22 BJ:=bH.add g27 ⟨_,(.int 8),eD g k v26,⟨_,rfl⟩,λ_ _ _=>rfl⟩ rfl;have g29:B 23 AA:=Z.fn p27 g28 Jt rfl rfl (λ_ _ _ _ _ _ _=>rfl) rfl;have g30:B 25 AC:=Z.cl p28 g29 V6 rfl rfl rfl (λ_ _ _ _ _ _ _ _ _=>rfl) rfl;have g31:B 26 Aj:=Z.fn p29 g30 RO rfl rfl (λ_ _ _ _ _ _ _ _ _=>rfl) rfl;have W30:bS l.prog w K mg base (dB l.prog w) 27 L _ ["grants","moment","span"] (eR _ 3 wy):=jI (m:=2) ya (yd (N:=["grants","moment","span","begin","grant"]) (G:=["sorted","meets"]) (cel:=[]) (own:=[]) (lam:=aA (0,[⟨137,36,137,64⟩])) g k u g31) l30 c30 rfl rfl W9 (λj pos e=>by cases e;exact⟨by decide,cA0,P0,rfl,codeHd_of_K g zt0,nbt _ (.head _),rfl⟩);have g32:B 27 Ax:=bH.add (g31.mono (by decide)) ⟨L,eD g k a30,_,_,27,k30,b30,by decide,W30,wY⟩ rfl;have g33:B 28 AG:=Z.fn p31 g32 QL rfl rfl (λ_ _ _ _ _ _ _ _ _=>rfl) rfl;have g34:B 30 BA:=Z.cl p32 g33 W2 rfl rfl rfl (λ_ _ _ _ _ _ _ _=>rfl) rfl;have g35:B 31 AF:=Z.met p33 g34 xN rfl rfl rfl rfl (λ_ _ _ _ _ _ _ _ _ _ _=>rfl) rfl;have g36:B 32 BC:=Z.met p34 g35 xR rfl rfl rfl rfl (λ_ _ _ _ _ _ _ _=>rfl) rfl;have g37:B 33 AI:=Z.met p35 g36 xa rfl rfl rfl rfl (λ_ _ _ _ _ _ _ _ _ _=>rfl) rfl;have g38:B 34 Bz:=Z.met p36 g37 Vn rfl rfl rfl rfl (λ_ _ _ _ _ _ _ _ _ _ _=>rfl) rfl;have g39:B 35 A5:=Z.met p37 g38 Qm rfl rfl rfl rfl (λ_ _ _ _ _ _ _ _=>rfl) rfl;have g40:B 36 AS:=Z.met p38 g39 Ve rfl rfl rfl rfl (λ_ _ _ _ _ _ _ _ _=>rfl) rfl;have g41:B 37 Aq:=Z.met p39 g40 Z1 rfl rfl rfl rfl (λ_ _ _ _ _ _ _=>rfl) rfl;have g42:B 38 Be:=Z.met p40 g41 xZ rfl rfl rfl rfl (λ_ _ _ _ _ _ _ _=>rfl) rfl;have g43:B 39 Az:=Z.fn p41 g42 Uu rfl rfl (λ_ _ _ _ _ _ _ _=>rfl) rfl;have g44:B 41 A3:=Z.cl p42 g43 Vs rfl rfl rfl (λ_ _ _ _ _ _ _ _ _ _=>rfl) rfl;have g45:B 42 AM:=Z.fn p43 g44 T4 rfl rfl (λ_ _ _ _ _ _ _ _ _=>rfl) rfl;have g46:B 43 A9:=Z.fn p44 g45 xA rfl rfl (λ_ _ _ _ _ _ _ _=>rfl) rfl;have g47:B 44 BG:=Z.fn p45 g46 JE rfl rfl (λ_ _ _ _ _ _ _=>rfl) rfl;have g48:B 45 BD:=Z.fn p46 g47 Tv rfl rfl (λ_ _ _ _ _ _ _ _=>rfl) rfl;have g49:B 46 Ag:=Z.fn p47 g48 QT rfl rfl (λ_ _ _ _ _ _ _ _ _=>rfl) rfl;have g50:B 48 BP:=Z.cl p48 g49 Kc rfl rfl rfl (λ_ _ _ _ _ _ _ _=>rfl) rfl;have g51:B 49 By:=Z.met p49 g50 XQ rfl rfl rfl rfl (λ_ _ _ _ _ _ _ _=>rfl) rfl;have g52:B 50 AK:=bH.add (g51.mono (by decide)) (O9 (n:=60) (tbs:=([(P0,[⟨137,36,137,64⟩],((("least_begin":aH)++".<locals>.")++"<lambda>")),(P1,[⟨408,64,408,91⟩],((("World.come_up":aH)++".<locals>.")++"<lambda>"))]:List (aF×List Pos×aH))) (G:=BU) ya (by show 2<=100;decide) (gZ.mem (ls:=rS) ⟨rfl,trivial⟩) (yd (N:=[]) (G:=[]) (cel:=[]) (own:=[]) (lam:=aE) g k u g51) N9.mem) rfl;have W51:bS l.prog w K mg base (dB l.prog w) 51 C _ ["self","shape","ahead","stride","keeper","note"] (eR _ 6 qo):=jI (m:=0) ya (yd (N:=["self","shape","ahead","stride","keeper","note"]) (G:=["is_from_nought","NoTime","is_note","NoNote"]) (cel:=[]) (own:=["batches"]) (lam:=aE) g k u g52) l51 c51 rfl rfl Qc;have g53:B 52 AQ:=bH.add (g52.mono (by decide)) ⟨a,C,_,_,51,rfl,eD g k q51,⟨mk51,i51,j51,kk51⟩,b51,by decide,W51,wY⟩ rfl;have g54:B 53 BH:=Z.met p52 g53 y_ rfl rfl rfl rfl (λ_ _ _ _ _ _ _=>rfl) rfl;have g55:B 54 BF:=Z.met p53 g54 Vi rfl rfl rfl rfl (λ_ _ _ _ _ _ _=>rfl) rfl;have g56:B 55 A4:=Z.met p54 g55 QD rfl rfl rfl rfl (λ_ _ _ _ _ _ _ _ _=>rfl) rfl;have g57:B 56 Bw:=Z.met p55 g56 kr rfl rfl rfl rfl (λ_ _ _ _ _ _ _ _=>rfl) rfl;have g58:B 57 Ba:=Z.met p56 g57 v_ rfl rfl rfl rfl (λ_ _ _ _ _ _ _=>rfl) rfl;have g59:B 58 Bg:=Z.met p57 g58 xF rfl rfl rfl rfl (λ_ _ _ _ _ _ _=>rfl) rfl;have g60:B 59 BX:=Z.met p58 g59 xS rfl rfl rfl rfl (λ_ _ _ _ _ _ _ _ _=>rfl) rfl;have g61:B 60 AH:=Z.met p59 g60 kY rfl rfl rfl rfl (λ_ _ _ _ _ _ _ _=>rfl) rfl;have g62:B 61 Bi:=Z.met p60 g61 xW rfl rfl rfl rfl (λ_ _ _ _ _ _ _ _ _=>rfl) rfl;have W61:bS l.prog w K mg base (dB l.prog w) 62 A _ ["self","reading","many"] (eR _ 3 wB):=jI (m:=1) ya (yd (N:=["self","reading","many","batch"]) (G:=["names_of_batch"]) (cel:=[]) (own:=["batches"]) (lam:=aE) g k u g62) l61 c61 rfl rfl W6;have g63:B 62 BW:=bH.add (g62.mono (by decide)) ⟨a,A,_,_,62,rfl,ZQ (c:=45) u rfl,⟨i61,j61,k61⟩,λi h=>absurd (bK (show iW[i]?=aA "ask" from h)) (by decide +kernel),b61,by decide,W61,wY⟩ rfl;have W62:bS l.prog w K mg base (dB l.prog w) 63 z _ ["self","reading","many"] (eR _ 3 qN):=jI (m:=1) ya (yd (N:=["self","reading","many","batch"]) (G:=["size_of"]) (cel:=[]) (own:=[]) (lam:=aE) g k u g63) l62 c62 rfl rfl u_;have g64:B 63 AJ:=bH.add (g63.mono (by decide)) ⟨a,z,_,_,63,rfl,ZQ (c:=45) u rfl,⟨i62,j62,k62⟩,λi h=>absurd (bK (show iW[i]?=aA "store" from h)) (by decide +kernel),b62,by decide,W62,wY⟩ rfl;have W63:bS l.prog w K mg base (dB l.prog w) 64 y _ ["self","many"] (eR _ 2 vg):=jI (m:=3) ya (yd (N:=["self","many","parts","names","batch"]) (G:=["is_size","TooMany","size_of","Empty","parted","names_of_batch"]) (cel:=[]) (own:=["names"]) (lam:=aE) g k u g64) l63 c63 rfl rfl V8;have g65:B 64 Ai:=bH.add (g64.mono (by decide)) ⟨a,y,_,_,64,rfl,ZQ (c:=45) u rfl,⟨i63,j63,k63⟩,λi h=>absurd (bK (show iW[i]?=aA "take" from h)) (by decide +kernel),b63,by decide,W63,wY⟩ rfl;have g66:B 65 AB:=Z.met p64 g65 kX rfl rfl rfl rfl (λ_ _ _ _ _ _ _=>rfl) rfl;have g67:B 66 FI:=Z.met p65 g66 kT rfl rfl rfl rfl (λ_ _ _ _ _ _ _=>rfl) rfl;have g68:B 66 FS:=bH.add g67 (NC (eD g k v66) y66 w66 ⟨⟨_,_,rfl⟩,⟨_,_,rfl⟩,⟨_,_,rfl⟩,⟨_,_,rfl⟩,⟨_,_,rfl⟩,⟨_,_,rfl⟩,⟨_,_,rfl⟩,trivial⟩ (by decide)) rfl;have g69:B 66 Fk:=bH.add g68 ⟨_,(.int 0),eD g k v67,⟨_,rfl⟩,λ_ _ _=>rfl⟩ rfl;have g70:B 66 FA:=bH.add g69 ⟨_,(.int 1),eD g k v68,⟨_,rfl⟩,λ_ _ _=>rfl⟩ rfl;have g71:B 66 Gh:=bH.add g70 ⟨_,(.int 2),eD g k v69,⟨_,rfl⟩,λ_ _ _=>rfl⟩ rfl;have g72:B 66 F9:=bH.add g71 ⟨_,(.int 3),eD g k v70,⟨_,rfl⟩,λ_ _ _=>rfl⟩ rfl;have g73:B 66 Fp:=bH.add g72 ⟨_,(.int 4),eD g k v71,⟨_,rfl⟩,λ_ _ _=>rfl⟩ rfl;have g74:B 66 Bm:=bH.add g73 ⟨_,(.int 3),eD g k v72,⟨_,rfl⟩,λ_ _ _=>rfl⟩ rfl;have g75:B 67 Af:=Z.fn p73 g74 KL rfl rfl (λ_ _ _ _ _ _ _=>rfl) rfl;have g76:B 68 BO:=Z.fn p74 g75 Tl rfl rfl (λ_ _ _ _ _ _ _=>rfl) rfl;have g77:B 69 Bh:=Z.fn p75 g76 Vk rfl rfl (λ_ _ _ _ _ _ _=>rfl) rfl;have W76:bS l.prog w K mg base (dB l.prog w) 70 x _ ["self","seat"] (eR _ 2 zE):=Nk (m:=0) (cut:=0) (ds:=qz) ya (MA (F:=["seat"]) (yd (N:=["self","seat"]) (G:=["House"]) (cel:=["seat"]) (own:=[]) (lam:=aA (1,[⟨408,64,408,91⟩])) g k u g77)) l76 c76 rfl rfl xT yy (λj pos e=>by cases e;exact⟨by decide,Y,P1,rfl,codeHd_of_K g zt1,nbt _ (.tail _ (.head _)),rfl⟩);have g78:B 70 Ah:=bH.add (g77.mono (by decide)) ⟨b,x,_,_,70,rfl,ZQ (c:=47) u rfl,⟨i76,j76,k76⟩,λi h=>absurd (bK (show iW[i]?=aA "come_up" from h)) (by decide +kernel),b76,by decide,W76,wY⟩ rfl;have g79:B 72 AV:=Z.cl p77 g78 ZD rfl rfl rfl (λ_ _ _ _ _ _ _ _ _ _ _=>rfl) rfl;have g80:B 73 BR:=Z.met p78 g79 kU rfl rfl rfl rfl (λ_ _ _ _ _ _ _ _=>rfl) rfl;have g81:B 74 BV:=Z.met p79 g80 Q1 rfl rfl rfl rfl (λ_ _ _ _ _ _ _ _=>rfl) rfl;have g82:B 75 A_:=Z.met p80 g81 Q_ rfl rfl rfl rfl (λ_ _ _ _ _ _ _ _=>rfl) rfl;have g83:B 76 At:=Z.met p81 g82 Qd rfl rfl rfl rfl (λ_ _ _ _ _ _ _=>rfl) rfl;have g84:B 77 Bf:=Z.met p82 g83 ue rfl rfl rfl rfl (λ_ _ _ _ _ _ _=>rfl) rfl;have g85:B 78 Am:=Z.met p83 g84 yv rfl rfl rfl rfl (λ_ _ _ _ _ _ _ _=>rfl) rfl;have g86:B 79 AT:=Z.fn p84 g85 Kg rfl rfl (λ_ _ _ _ _ _ _ _=>rfl) rfl;have g87:B 80 Av:=Z.fn p85 g86 UU rfl rfl (λ_ _ _ _ _ _ _ _=>rfl) rfl;have g88:B 81 BS:=Z.fn p86 g87 KH rfl rfl (λ_ _ _ _ _ _ _=>rfl) rfl;have g89:B 82 BB:=Z.fn p87 g88 X6 rfl rfl (λ_ _ _ _ _ _ _ _=>rfl) rfl;have g90:B 83 Bx:=Z.fn p88 g89 uV rfl rfl (λ_ _ _ _ _ _ _ _=>rfl) rfl;have g91:B 84 Au:=Z.fn p89 g90 Ko rfl rfl (λ_ _ _ _ _ _ _ _=>rfl) rfl;have g92:B 85 Bs:=Z.fn p90 g91 QW rfl rfl (λ_ _ _ _ _ _ _ _ _ _=>rfl) rfl;have g93:B 86 BZ:=Z.fn p91 g92 Q3 rfl rfl (λ_ _ _ _ _ _ _ _ _ _=>rfl) rfl;have g94:B 87 AO:=Z.fn p92 g93 Xf rfl rfl (λ_ _ _ _ _ _ _ _=>rfl) rfl;have g95:B 88 A1:=Z.fn p93 g94 ui rfl rfl (λ_ _ _ _ _ _ _=>rfl) rfl;have g96:B 89 FJ:=Z.fn p94 g95 W7 rfl rfl (λ_ _ _ _ _ _ _ _ _=>rfl) rfl;have W95:bS l.prog w K mg base (dB l.prog w) 90 fa _ ["_law_script"] (eR _ 1 yb):=jI (m:=19) ya (yd (N:=["_law_script","_law_source","_law_far","_law_shape","_law_ahead","_law_stride","_law_begin","_law_holders","_law_clocks","_law_k","_law_holder","_law_made","_law_world","_law_book","_law_last","_law_row","_law_told_here","_law_reading_here","_law_name","_law_moment"]) (G:=["_law_digits","_law_cell_at","_law_next","int","enumerate","_law_drawn_clock","dict","World","Shape","_law_drawn_rows","_law_told","_law_reading","_law_all_right"]) (cel:=[]) (own:=["_law_clocks","~_law_clocks","_law_book","_law_last"]) (lam:=aE) g k u g96) l95 c95 rfl rfl UJ;exact R3 (f:=yb) oY rfl rfl zn W95
end NH.K91
section
open PySem PySem.W PyProof.Rows
set_option maxRecDepth 100000 in
set_option maxHeartbeats 0 in
theorem PySem.Challenge.cw_namehouses_k91_whole_no_name_twice_holds : PySem.Challenge.rw_namehouses_k91_whole_no_name_twice.Holds := by
 w_on;o_law;k_head;(case hw=>w_witness2);k_fill;refine NH.walkTs (l:=PySem.Challenge.rw_namehouses_k91_whole_no_name_twice) (k:=90) (x:="_law_script") (by decide) rfl rfl (λw h Y=>PySem.W.km_in_of Y) (λw h Y=>NH.swT (PySem.W.km_tabs_of Y)) ?F;case F=>
  intro w mg fa h KX G hmg
  refine' NH.K91.all_mk KX G hmg ?aa ?ab ?ac ?ad ?ae ?af ?ag ?ah ?ai ?aj ?ak ?al ?am ?an ?ao ?ap ?aq ?ar ?zas ?zat ?au ?av ?aw ?ax ?ay ?az ?ba ?bb ?bc ?bd ?be ?bf ?bg ?bh ?bi ?bj ?bk ?bl ?bm ?bn ?bo ?bp ?bq ?br ?bs ?bt ?bu ?bv ?bw ?bx ?zby ?bz ?ca ?cb ?cc ?cd ?ce ?cf ?cg ?ch ?ci ?cj ?ck ?cl ?cm ?cn ?co ?cp ?cq ?cr ?cs ?ct ?cu ?cv ?cw ?cx ?cy ?cz ?da ?db ?dc ?dd ?de ?df ?dg ?dh ?di ?dj ?dk ?dl ?dm ?dn ?zdo ?dp ?dq ?dr ?ds ?dt ?du ?dv ?dw ?dx ?dy ?dz ?ea ?eb ?ec ?ed ?ee ?ef ?eg ?eh ?ei ?ej ?ek ?el ?em ?en ?eo ?ep ?eq ?er ?es ?et ?eu ?ev ?ew ?ex ?ey ?ez ?fa ?fb ?fc ?fd ?fe ?ff ?fg ?fh ?fi ?fj ?fk ?fl ?fm ?fn ?fo ?fp ?fq ?fr ?fs ?ft ?fu ?fv ?fw ?fx ?fy ?fz ?ga ?gb ?gc ?gd ?ge ?gf ?gg ?gh ?gi ?gj ?gk ?gl ?gm ?gn ?go ?gp ?gq ?gr ?gs ?gt ?gu ?gv ?gw ?gx ?gy
  case dg=>k_is
  case bh|bt|ce|co|cy|de|fm=>exact NH.clp (by k_is) (by k_is) (by k_is) (by k_is) (by k_is) (by k_is) (by k_is) (by k_is)
  case bd|be|bf|bg|bi|bj|bk|bl|bm|bn|br|bs|zby|bz|ca|cd|cf|cn|cx|cz|da|db|dc|dd|fb|fc|fd|ft|fu|fv|fw|fx|fy|fz|ga|gb|gc|gd=>exact NH.dfp (by k_is) (by k_is) (by k_is) (by k_is)
  case bu|cp|cq|cr|cs|ct|cu|cv|cw|df|dp|dq|dr|ds|dt|du|dv|dw|dx|eq|er|fn|fo|fp|fq|fr|fs=>exact NH.mtp (by k_is) (by k_is) (by k_is) (by k_is) (by k_is)
  case aa|ab|ac|ad|ae|af|ag|ah|ai|aj|ak|al|am|an|ao|ap|ar|zas|zat|au|av|aw|ax|ay|az|ba|bb|bc|bo|bp|bq|bv|bw|bx|cb|cc|cg|ch|ci|cm|dh|di|dj|dk|dl|dm|dn|zdo|dy|dz|ea|eb|ec|ed|ee|ef|eg|eh|ei|ej|ek|el|em|en|eo|ep|es|ev|ew|ex|ey|ez|fa|fe|ff|fg|fh|fl|ge|gf|gg|gh=>k_is
  case aq=>kernel_rfl
  case cj|ck|et|fi|fj|gw|gx|gy=>exact rfl
  case cl|eu|fk|gv=>decide
  case gi|gj|gk|gl|gm|gn|go|gp|gq|gr|gs|gt|gu=>k_exc
end
