import PyProof.Rows.All
import Wide.All
import OpenK.AllK
import Wide.FinOn
import Lean
import PyProof.EqAt
import PyProof.EqKinds
import PyProof.TupleCall
import PyProof.DictIter
import PyProof.StationsW
import PySem.Syntax
import KE.KLam
import PyProof.StrBlockH
import KE.KRevIter
import PyProof.JoinWalk
import PyProof.CollectIter
import PyProof.StrCalls
import PyProof.DictStraight
import PyProof.Rows.Range3
import PyProof.StrWalks
import PyProof.LongRange
import KE.KTryMore
import KE.KItem
import PyProof.NsDelKeeps
import PyProof.DictTable
import PyProof.WalkInts
import PyProof.Rows.SortStr
import PyProof.Rows.SortWalk
import PyProof.EnumMake
import PyProof.EnumFor
import KE.KRevSl
import PyProof.Rows.StrNews
import KE.KMinBuiltin
import KE.KSortKey
import PyProof.ZipIter
import PyProof.ExcInit
import PyProof.ExcClass2
import PyProof.InstStoreFacts
import PyProof.FString
import KE.LcSums
import KE.KSortTup
import PyProof.Rows.SortRev
import KE.KIntText
import PyProof.StrBlock2
import PyProof.DictWalks
import PyProof.AttrMissHeap
import PyProof.Rows.SetFrom
import KE.KDictOf
import PyProof.DictUpdate
import PyProof.DictTruth
import PyProof.DictItems
import KE.KPairComp
import PyProof.StrReplace2
import PyProof.Rows.StrNews2
import PySem.Challenge.RW_namehouses_k86_rows_that_are_none
set_option Elab.async false
open Option renaming some->aA,none->aF
open Bool renaming true->aB,false->aD
open PySem renaming Value->aC,Addr->aE,Str->aG,Expr->aH,Heap->aT,Obj->a_,Stmt->bB
open PySem.Heap renaming get?_push_of_some->bN,lt_size->bW,get?_push_size->dQ,get?_none_of_le->iJ,get?_update_other->i3,SameBut->fN,get?_update_self->l6,size_push->lT,get?_update_ne->pZ,MadeExcOf->nE,get?_push_at->tu
open Bool renaming and_eq_true->bK,false_ne_true->eO,not_eq_true'->mJ,eq_iff_iff->nJ,eq_false_iff->pD,false_eq_true->sY,or_eq_true->sP,and_false->sM,or_true->sk,false_and->Dr,rec->oS,and_true->CZ
open List renaming getElem?_eq_some_iff->cH,mem_of_getElem?->cY,mem_append_right->dR,mem_singleton->c8,getElem?_append_left->eL,mem_append->cM,size_toArray->dH,mem_append_left->d9,mem_cons_of_mem->eH,getElem?_append_right->fP,mem_cons->dG,length_cons->eG,all_eq_true->eF,getElem?_map->eX,length_map->eN,getElem?_eq_getElem->ir,mem_cons_self->fZ,lookup_cons->fH,contains_iff_mem->iq,map_cons->eW,getElem?_take_of_lt->i6,length_take->gC,length_append->iI,mem_filter->h_,append_nil->hZ,getElem?_set_ne->l5,mem_of_mem_take->ma,lookup->gE,mem_iff_getElem?->mU,getElem?_eq_none->mT,take_append_drop->mS,length_nil->lA,all_cons->iX,rec->fL,nodup_append->mK,mem_of_mem_drop->nO,range->hX,getElem?_replicate->pV,getElem?_set_self->ra,mem_filterMap->nS,mem_map->ly,pairwise_map->nR,replicate->mO,nodup_cons->nI,zip_cons_cons->pG,contains_cons->pF,getElem?_set_self'->tM,getElem?_cons_succ->tL,append_assoc->pU,getElem_inj->pT,length_drop->pR,isEmpty_iff->pP,any_cons->nH,length->mG,of_mem_zip->pM,find?_cons->pH,filterMap_cons->tR,nodup_iff_pairwise_ne->EC,drop_eq_getElem_cons->EB,getElem?_cons_zero->EL,forIn_cons->sQ,length_replicate->Ex,getElem?_reverse->Et,mem_iff_getElem->Ef,map_congr_left->DO,zip_nil_right->Eb,getElem?_drop->D2,any_eq_false->D1,zip_nil_left->DY,all_map->sq,take_add_one->DF,map_reverse->Dg,cons_append->Df,map_snd_zip->Dc,nil_append->Dy,length_zip->Dv,mem_range->Du,map_nil->CU
open Option.some renaming inj->bQ,injEq->pA
open PySem.W renaming Frag->bH,findIn->cD,fnOf->eE,mg_of->bY,emptyDict->iZ,mroIn->gF,codeIn->eD,CodeHd->i5,exmOne->i4,instObj->lB,callWith_K->mL,hasDictIn->iT,specialIn->lU,plainGet_of->nN,callWith_K0->nM,keepIn->dU,tabObj->lZ,subIn->lX,plainGet->nQ,excIn->eM,cellsFrom_some->tJ,nsIn->mD,kitx_dict->pC,clsIn->lS,takesIn->pJ,looks_clsIn->tP,lookIn->pj,kitOne->pi,isNs_of_in->sX,methodObj->sV,plainOver->sU,Looks->nz,any_some->ti,KitX->pe,takerIn->sT,kla_obj->sS,looks_findIn->o9,kitAny->sK,kitCls->sJ,kas_sort->mw,codeRec_of->Ec,mg_none_of->D5,isFn->sF,set_plain->D0,kitx_list->DI,handedIn->Dn,codeHdIn->oV,makesIn->nk,kitMeta->DC,exm_one->DB,readsIn->sh,findCls->sg,binds_K->Dw,OpenLaw->mq,InstAt->Do,typeIn->nl,nsOkIn->nj,exmAny->C_,fnMade->C3,FnAt->CS
open PySem renaming mainGlobals->bE,model->aR,Shared->aW,wpAny_mono->cR,Program->bZ,wpAny_Call_Name_kw->gP,compareOp->dD,wpAny_standAt->fF,starEach->dC,sizeLine_eq->eZ,mem_of_lookup->i0,rawInt->cF,bootBuiltins->fW,excClassObj->fY,foldedSetIterable->lD,wpAny_newObj_type->lC,wpAny_field->gD,strValues->fG,relabel->d7,wpAny_loadPart_at->l4,Around->dW,wpAny_passesOwn->lV,World->cX,binaryOp->fM,codeAny_mono->iS,sysModules->hY,assignEach->hV,wpAny_call->hO,ExceptHandler->lw,CmpOp->dA,codeAny->fE,codeAny_builtin->mP,attributeBase->lY,backTo->eU,typeIs_str->iV,keywordEach->lx,codeAny_call_builtin->p_,wpAny_tryCatch->mM,compEnvC->gN,swapsWith->iH,plainId_quiet->mI,methodCallPos->mH,letOwnedTupleGo->nK,builtinsNs->lr,sliceBounds->lR,wpAny_of_eq->lQ,codeAmong->iR,wpAny_typeOf->mE,wpAny_setField->nF,wpAny_pyIter_list->pB,codeAny_call_function->tV,wpAny_isTrue_Compare1->tU,getItem->hL,strLen_append->nG,wpAny_pyIter_revIter->tS,wpAny_execs_nil->pO,wpAny_loadPart'->pL,wpAny_isSubtype_exc->tO,Keyword->iF,setFlight->lO,bindArgs->lq,NameKind->lp,wpAny_newFunctionEnv_cells->EG,typeLookup->mB,backToKw->lm,call_meets->mz,closureFor->my,wpAny_FormattedValue_plain->ED,hashStr->iQ,Builtin->iO,wpAny_letGo->nA,assign->hG,swapsWithSole->pz,swappedStores->py,JoinOk->g_,comprehension->pw,wpAny_eqBool_int->tj,noFill_tuple_add->tc,wpAny_callSpecial?_slot->EM,wpAny_comp_letGo->s0,seqItems?->mC,richCompare_meets_room->EA,IsPart->iC,wpAny_rule->nv,codeAny_handlers_suite->Ey,methodCall->nu,makeFunction->pd,wpAny_specialOf->sR,wpAny_updateSeq->sO,builtinLookup_eq_fast->Ev,codeAny_handlers_test->Er,ofString_length->Eo,wpAny_formatField_int->Em,richCompare->o8,subscripted->o7,Operator->mx,wpAny_Compare1->sL,wpAny_newFunctionEnv->Ee,wpAny_seqItems->sI,PassesOwn->nr,OwnTail->lL,valueAt->lK,wpAny_handleBy_cons->DN,behindInMarks->sx,seq_tuple_add->sw,wpAny_attempt->su,arm_eval_Call->ss,wpAny_newList->sH,call_reversed_list->D7,int_text_length_le->D3,Within->sG,holding->mv,BindsTo->mu,codeAny_func->sC,concat_meets->sB,wpAny_sequenceKey->DK,slot_list_getitem->DJ,ExcBaseFacts->sj,wpAny_Call_ofName->DG,pyNext->lJ,wpAny_lookBehind->Dm,pastItsLine_dict->Dl,cellsFrom->o0,wpAny_forIn_list->Dk,wpAny_call_entry->Dj,noteFrame->oY,DictEntry->oX,wpAny_Try_except->Dd,raiseStmt->oU,wpAny_throw->r6,getAttrByItsOwn->DE,typeLookup_type->DD,wpAny_JoinedStr->Dx,callerA->nn,wpAny_Name->sf,pyIter->mo,bindL->lj,bindC->li,cameBackBy->se,isInstance->r4,cStatics->oR,getMethod->rY,Result->ni,leaving->oQ,passOn->CP,argsOk->nh,call->Cy
open Nat renaming le_refl->bG,lt_of_lt_of_le->dI,le_trans->cV,eq_of_beq_eq_true->fJ,ne_of_lt->dF,beq->cC,lt_succ_self->iY,lt_irrefl->ip,ble->dX,zero_le->gQ,le_succ->iW,blt_eq->iU,ne_of_gt->lW,le_of_eq->mF,le_of_lt->nB,lt_succ_of_lt->tw,blt->ll,le_of_ble_eq_true->Ep,add_sub_cancel'->DL,lt_of_le_of_lt->D6,le_add_right->Db,rec->oP,lt_or_ge->CQ,lt_trans->CO,sub_self->CN,log2_lt->CD
open PySem.Value renaming ref->b9,none->dP,bool->lu,type->ny,notImplemented->Ej,int->nt,isStrOf->sy,str->o5,isInt->sd,isStrOf_shape->CG,isInt_shape->CY,bytes->CL,float->CJ
open Option renaming map_eq_some_iff->gR,isSome_iff_exists->pX,bind_eq_some_iff->rb,bind_some->pQ,map_some->pI,getD_some->s_,getD_none->Dh,map->Cw
open False renaming elim->dL
open PySem.Str renaming ofString->e_,empty->lP
open PySem.F renaming excBase_ValueError->l8,plain_max_loop->l7,args_tuple_add_2->tX,entry_tuple_add->tN,slot_tuple_add->tI,plainAttrs_str->tG,entry_max_loop->tF,args_str_split_2->sW,entry_str_split->tm,store_ValueError->EN,attr_ValueError->EK,plainAttrs_list->EJ,slot_str_split->pu,slot_str_join->o_,type_str_join->Es,slot_dict_get->El,plain_list_iadd->DH
open PySem.Obj renaming mapFields->fO,mapSeq->gB,isFreed_of_fields->Ew,data_mapFields->D_
open Ne renaming symm->c7
open PyProof.Rows renaming callWith_type1->nV,slot_tuple_getitem->l_,IntsAre->d5,callWith_builtin1->rc,seqObj->eY,envOfC->gM,AllBare->iP,subscriptTail_builtinR->Ez,get?_update_seq->sN,entry_tuple_getitem->DX,IsTup->gZ,subscriptTail->sv,args_tuple_getitem->Ea,tuples'->oO,lt_int->rW,gt_int->CA
open Array renaming getElem?_eq_some_iff->nU,getElem?_eq_getElem->tY,getElem?_setIfInBounds_ne->EV,length_toList->tQ,getElem?_toList->Eu,mem_toList_iff->Ek,toList_append->DM,find?_toList->Ed,toList->CW
open True renaming intro->fX
open PySem.Calls renaming spliced_cons->l9,evalArgs_plain->mR,spliced_nil->pE,callWith_builtin->tH,Name_function_global->EI
open PySem.Txt renaming partition->iK,join->iG,split->oW,slice->rX
open PySem.Builtin.Str renaming occurrences->nT
open ForInStep renaming yield->lz
open PySem.W.Looks renaming here->mQ,of_pure->CM,ld->Cs
open PySem.SeqAt renaming EqAt->gO,RcAt->o6,RcNeAt->CT
open PySem.Builtin.Slice renaming slicePlaces->pY,sliceAdjust->tZ,sliceApplied->EF,slicePartIndex->LP,sliceFields->Lp
open PySem.Around renaming under_plainId->nP,frames_deeper->tT,under->sE
open PySem.Builtin.Tuple renaming tupleExact->pW,tupleCompareSizes->EW,tupleItemsOf->EE,tupleIsExact->LJ,tupleHashOf->Lo
open PySem.Builtin.ObjectAttr renaming storeInDict->t1,attrName->EU,newKeyGuard->LM,noDictFor->LO,bindTo->Ln
open PySem.Builtin.List renaming listTooLong->tW,listExtendWith->ET,listSameRef->EO,listLengthHint->LN,listUpdate->LD
open PySem.Builtin.Range renaming rangeSize->tK,small->La
open PySem.SeqAt.EqAt renaming same->pK,int_str->tB,str_int->tz,int_int->sZ,bool_bool->Ei,bool_none->Eh,none_bool->Eg,int_none->DV,bool_str->DU,str_bool->DT,str_none->DS,none_int->DR,none_str->DQ,str_str->D9,of_refs->D8
open PySem.Heap.SameBut renaming update->tD
open PySem.Builtin.Builtins renaming bindParams->ES
open Int renaming fdiv_eq_ediv_of_nonneg->EH,ediv_one->CV
open Function renaming comp_def->tx
open PySem.AutoSeq1 renaming sub_tuple_tuple->EQ
open PySem.NameKind renaming free->pv
open Sum renaming inl->lN,inr->lM
open PySem.EntryCells renaming newEntry->DW
open PySem.Code renaming quiet_builtin->D4,isFrame->sD,frames->CI
open PySem.Heap.Ns1 renaming of_empty->DZ
open Nat.succ renaming inj->si
open PyProof.Rows.IsTup renaming new->oZ
open Sum.inr renaming inj->r_
open PySem.Builtin.BaseException renaming bexcPut->LL
open PySem.PassesOwn renaming never->DA
open List.cons renaming injEq->Dz
open PySem.Builtin renaming bitAnd->Dq
open PySem.SeqAt.RcNeAt renaming lists_lengths->LK,tuples->Lb,lists->I0
open PySem.Walks renaming list->rZ
open PySem.Value.type renaming inj->CH
open PySem.EqNone renaming eq_none_none->LB,eq_none_bool->LA,eq_bool_none->Lz,ne_none_none->Lw,ne_none_bool->Lu,ne_bool_none->Ls,eq_none_int->Lm,eq_none_str->Ll,eq_int_none->Lj,eq_str_none->Lh,ne_none_int->Lf,ne_none_str->Le,ne_int_none->Ld,ne_str_none->LH
open PySem.EqMixed renaming eq_bool_str->Ly,eq_str_bool->Lx,ne_bool_str->Lr,ne_str_bool->Lq,eq_int_str->Li,eq_str_int->Lg,ne_int_str->Lc,ne_str_int->LG
open PySem.Paired renaming length->CF
open List.Pairwise renaming imp_of_mem->LF,nil->IZ,imp->IY
open PySem.W.KIN renaming call_text->LC
open PySem.Data renaming fields->CC
open PySem.IsRange renaming new->CB
open PySem.Heap.IsSliceOf renaming new->I_
open PySem.W.WShape renaming has->Cz
open PySem.Within renaming cons->Cv
open PySem.W.WData renaming int->Cu
open PySem.Heap.DictOf renaming new->IW
set_option linter.all false
set_option maxRecDepth 100000
set_option maxHeartbeats 4000000
set_option genSizeOf false
set_option genInjectivity false
set_option bootstrap.genMatcherCode false
noncomputable section
namespace PySem.W
structure Fast:Prop where
 (tw18158093991497538752 tw13185043016529446378 tw6111706178511959015 tw12933914694125631503 tw1743368144375129896 tw6225537339269703960 tw7029233319857996262 tw1884085195563297691 tw15851950598404396122 tw7170065452516839764 tw12844901177711296891 tw2343226590734436674 tw16165780253593432071 tw14096533763433099692 tw7997139759744694846 tw4146692920184584731 tw3533933241860063580 tw7569117442086586003 tw10385380995740168120 tw3757603449271022931 tw2105333147025369011 tw14526622718377067317 tw8383002254508099197 tw16483484565269909819 tw8251446392052736340 tw7265139077179574517 tw11461229143024235155 tw9403764492132786590 tw17215003350717250 tw18378297272188330118 tw2220167501710002113 tw2272901020866293607 tw6658980863553937860 tw18231015790303264063 tw15826158553292692919 tw5193283227108878506 tw17927269770125752409 tw2372269428353082059 tw7307613709079108067 tw4120317518984912429 tw5099520926561633964 tw15597020323497898688 tw3301798761743566555 tw3443764956584668617 tw8534549641363452942 tw17352329223504562186 tw15021649621884101935 tw18024586245893050870 tw18400976966737397834 tw5113072648240969409 tw3701476917446041140 tw10936692477952831890 tw1811512587317241303 tw18184963408532190339 tw200557251787684005 tw10294170138896330575 tw534230893174230336 tw674180289214452087 tw7514518605391128564 tw18044487713134704011 tw2878450777895547188 tw8677590245760745334 tw9661873333282695831 tw15733757354429657011 tw15884219569330844652 tw16732182255155890008 tw13404814161150792206 tw2340319768101867341 tw3097232032127668704 tw1948273908704069724 tw3982744440123097127 tw3935467664973854395 tw14417185094541651923 tw1348186884501317398 tw6043517875062724254 tw18196489809357748972 tw9099100769957355995 tw2380162508818175960 tw50226440775553737 tw340575866908952339 tw7365251848846933563 tw2870865316250276774 tw15371833582077085039 tw2757037856355770887 tw1394278000295869357 tw12800232829440173575 tw17471317150142417619 tw18247280051810915717 tw5184210498036746184 tw4987732794318333355 tw3420684934377761116 tw4359271964769756033 tw10964737263609329804 tw2659618237710727963 tw1615554434741571580 tw15425116365389186675 tw15810562923928193221 tw6753291961751938750 tw9465257219284974323 tw5410082231967503547 tw9918128526507772105 tw12281040578051972074 tw17137552630272203858 tw130504877122875756 tw8900123084120377618 tw5755280465854251898 tw7648472263713625344 tw18308951554667129285 tw9447736329450705600 tw9040600193361107169 tw4332207089363569371 tw55890508897801056 tw5580130825320468970 tw482856570778502976 tw10553392619406459408 tw7517851049530378139 tw16785590712398803127 tw17926037903895116149 tw13839249333756521287 tw6202960895447455889 tw17656514493189839968 tw14600614626785742674 tw11909417846290971712 tw16651632521009924137 tw16282374878129326021 tw4878521339573427555 tw4168609982209687058 tw101908468451914119 tw10369232325930049718 tw4928146030017039303 tw375363128179280870 tw5240869087617582087 tw18059051054659943585 tw4302235164092869969 tw15362162553102286777 tw12194885413602228387 tw3790599811552111348 tw16447175515714770045 tw16343783857054168630 tw17871659850417662749 tw13146830479874470100 tw1583479439703730874 tw8373844379339856674 tw1668997179001629149 tw2668004293463573153 tw4156528254132789021 tw6082082510217516173 tw3359898844921589228 tw9628404440242586332 tw13404025571272005971 tw12942432475435432049 tw1628844413380300882 tw2535170108784542553 tw14904750072216935208 tw9995045444761672535 tw8927224886389209416 tw6992089004590118367 tw7268285630569325707 tw16637976057397379718 tw6752727845908760463 tw4467252562640230081 tw12014271624140031231 tw6635094732024696358 tw16847046803434137389 tw11237893224457253195 tw1911515317802349118 tw12642938478582093237 tw3683465971748260454 tw4303395795008231527 tw16527775990228024386 tw13727843713670945120 tw18383910215226427964 tw3396427033198275919 tw15229157857249906382 tw16447188964084101294 tw6471383883465145546 tw11105770047957703306 tw10523467344647771733 tw5841469770034885628 tw8398853156537751972 tw12640611301261031263 tw12594867370343745589 tw12825080008236719832 tw11997206398913216664 tw16989546294903226221 tw7731264772736477791 tw442320467269147328 tw764057388186576096 tw17059752739165105200 tw1459056288039647317 tw3756764169293994690 tw13831358814282046653 tw12563911822605639675 tw14434518761121715796 tw4383130602261822972 tw11510817236075407154 tw10430443780426122832 tw4335129952826991461 tw14147485249483375097 tw224919829674087499 tw14764022808247861783 tw12837609735853262664 tw7316772672884986961 tw7460081825724400682 tw14146298359394905996 tw7052433469392428980 tw10266154990223644901 tw16686767006467596922 tw14784150688571009245 tw16827180993496703684 tw3882595129878401435 tw17404440215913380986 tw16228095020586451270 tw7880875202957958106 tw3423140159306201436 tw9507139522484142435 tw16308688049597956455 tw17500416401024326686 tw15634718320383743054 tw4456698912440610316 tw16577892897600308722 tw10379490916969983265 tw15453197098559497175 tw5280172726098534785 tw11131033681189137196 tw3245170478103813340 tw10879128063643015272 tw856605511736650293 tw6693978427600202866 tw1496195564295846754 tw3494423360638421739 tw4611092030233429077 tw2755454708751326860 tw1409894560004272845 tw16249085535598816412 tw8127286038677664175 tw909923581192355283 tw14598019377243183399 tw17283961109377984971 tw15003716803721549843 tw12961019766690256664 tw2060828437309609785 tw7706643803433593683 tw4232235875096778531 tw4144060185045401225 tw16155309012553154730 tw6244836916422205963 tw11276756277049296611 tw17308891961717216473 tw15158573472735932567 tw1108453450394297073 tw7231031054421829253 tw12427138582249361187 tw9173855394523762775 tw239206711078976126 tw3793996574769549800 tw8644507508813756663 tw13440218500761397602 tw13467609378307649588 tw14700193449677892366 tw14750491626882242161 tw72061954352042512 tw12525087035585744323 tw12722686042769474339 tw6055037084165848178 tw7057246845373582030 tw9026591402823580895 tw13140778006729342026 tw9293900410074315868 tw17156041121770492823 tw6784525085668002314 tw16760348916644623621 tw10540655110019803772 tw4947453777704486891 tw6446774716145644487 tw8407427280945356692 tw12298658629017355724 tw16600758424272862038 tw8201354194983990960 tw16877343926040158166 tw13916752419137578693 tw13035924974591245676 tw1792173468365119484 tw15692081284909177268 tw4552826848824789522 tw53529034902064776 tw15900418838558673485 tw13015728618636499555 tw14463449036410343007 tw11619246373144661933 tw13536109191471675490 tw16307804583726797996 tw12079772316957610939 tw6346679494138460531 tw6514865485853127730 tw15083658348563833892 tw2288131203446484142 tw6046595376130342821 tw12248334946952677890 tw17042318712952681525 tw10028998281102869771 tw8928928469069797891 tw13091315154296136214 tw6318162077867784706 tw12271217859656026112 tw5087163718090003694 tw6537902502952409771 tw12007699666849627346 tw14194654447611058858 tw17500603999466727492 tw4978587826500397632 tw429981212673237388 tw13552282695313784739 tw5280213526448534773 tw11033205566289461221 tw6674600864581746489 tw3057081024120579343 tw4067225986549838069 tw4488097288001058354 tw14607503577300697025 tw6672044538129118233 tw11239079041307950040 tw12653576928562430011 tw4305487399878786168 tw3154098388782700768 tw1375177138462313662 tw9515214835518905604 tw11988482065940948706 tw16483950031669735779 tw15704172278361745513 tw11471251447701625783 tw5781494433863830549 tw11959298460412462834 tw17428065381273244652 tw1368398397443480294 tw5719091822531751873 tw238505668779124315 tw213633876126630423 tw12180406959547303220 tw13523340959783248853 tw13650653380259491077 tw15413865640929866843 tw4081832320038195459 tw12731879743610157251 tw4134094346086885239 tw1754366948211053459 tw3116466276598026218 tw4735149008070241959 tw2782313762180082380 tw3687082251832523312 tw1812373024176540295 tw15930293860679967133 tw3108919999080460852 tw15797893631147682822 tw14826471152368106067 tw12417464134081350902 tw147274941740205619 tw10204788633609381412 tw4450867334594496684 tw6345426426291777544 tw12051075998979728856 tw16184272417172460769 tw16451993977448924381 tw5170385893826320690 tw4715106992638661431 tw2407540979001927410 tw14899440825663048530 tw7007259010556785514 tw17898326961952361387 tw9916223667014430057 tw1258951943987275292 tw7476205134814937987 tw4441708991808324930 tw2541578842418410132 tw15430714868113121023 tw13513119234846475741 tw11710822356995139087 tw12200465156347906459 tw11440588473377163719 tw14101582799289427867 tw16614520154964421801 tw6943358447256257544 tw14611514530855784953 tw9588842801244867640 tw16364422690722728194 tw8602708209394580155 tw216718282665423839 tw551038428322160915 tw12933984264270305348 tw6882983497479598055 tw16587820207704373238 tw490154876143170607 tw6599111668084082619 tw4647131183228287871 tw6674672282113185443 tw4373532229732084585 tw16758532577344902164 tw13530492217177617790 tw4389597034655747415 tw18406973824420667937 tw6858257946941223842 tw4983926792348578019 tw10212750031524693585 tw14811062428183549372 tw8579459775753797725 tw7895613612697421459 tw4310459865779157179 tw9308300640452404308 tw8099598687095252430 tw9208323907766828723 tw3197611398908404110 tw1995016928145056641 tw10789071823195692340 tw5585036139311252841 tw16570923071109470106 tw15809328920213928498 tw4119022619778986238 tw2473881058471001318 tw14813762046036022540 tw7948424829481105867 tw7367834916442203748 tw9277238800390645311 tw3005876848254247914 tw17942563912197569658 tw14214774979571924447 tw9139861952033364218 tw11901088876728719426 tw16439688157110850146 tw115636409853516278 tw10943337385737613969 tw7756464752516005642 tw8793909990744173381 tw9767803956857576046 tw17771198065049308040 tw9549983377304520613 tw6183204281496085175 tw2552785335015238975 tw2602254232981847816 tw13111700491864790314 tw16655424999680859490 tw906423207162017602 tw1038570143047421644 tw4959651833720291922 tw2762338525760064463 tw2279227056354181730 tw2185444295850407097 tw10513986328659145218 tw8514068006002898509 tw11813318816758129337 tw3668843253452295693 tw13478669848396333869 tw4573068232731196322 tw6653107840136696848 tw12771055765390665712 tw4336163259587670105 tw1310380751664848497 tw11872236022111612913 tw8441318394767823655 tw9619997970771983989 tw9585220752906991162 tw18442317566965065291 tw7619763683168273839 tw15466927611368246181 tw8798032796585041510 tw6476093559821305227 tw9030284948869730876 tw5784106608428547467 tw15683136292099364755 tw8488969926369418297 tw6393660541574476781 tw2832715000814334685 tw2178463416046108933 tw12983490884027102757 tw14152702559102360806 tw17271034328270425852 tw7760480478940935888 tw10493241238436588487 tw6465971375312446737 tw8046256388246022042 tw16166798388668537166 tw5660475777411465236 tw12420171622451259154 tw8231138718965687945 tw5258484664698487090 tw550000377583740076 tw8009208424705417552 tw17746285177483432779 tw3403461114363842108 tw10757343511063755472 tw10640185439495147546 tw17187889389862782592 tw10370475683507823736 tw5745750284919805553 tw676605515522011737 tw14795392893771352874 tw2996094750555182438 tw596303545775085778 tw16516405779008151287 tw16200290608025894738 tw4528999812419122279 tw16193081058832340334 tw5172284302368518793 tw11052200972801410745 tw17617616940074350728 tw5855618619885732115 tw5279841945987444026 tw4903288837149652520 tw7286365487076148911 tw4774788182614347306 tw13557592941759784868 tw6657463409773069923 tw3138304759229701853 tw15247168905803317236 tw4596026880902974435 tw10439134451366720998 tw17040473547508242256 tw6005809314129384494 tw14212870949521208621 tw5717908285420800617 tw10860762071376002684 tw1981444500845939193 tw16756496142107063438 tw11903765762285519738 tw15778741692936348272 tw16111041862136332710 tw2405236929633458719 tw703559929086852181 tw3086539158308154357 tw16596877653478579072 tw15199292752990238131 tw15491083852645909166 tw5501418061803315706 tw5389136226105846905 tw3997945750623343254 tw15269072713235380710 tw15203387612312597575 tw6393291070456218645 tw8351351565183316811 tw8913025054079093678 tw10889211288320432263 tw12936154333890302285 tw1309572444660532382 tw4528917683744856816 tw7485448434413429126 tw1354264213783180721 tw7216451155591014986 tw13208799492120833921 tw6315803933620519328 tw8023624838770376845 tw11982044274543121360 tw12275285350689818138 tw16966336015685908151 tw9482834070820432687 tw3764006815924407679 tw14819857243703129101 tw9398198643245483844 tw13554855029783927555 tw2439573499823159305 tw10056841844918493488 tw11664175688908299658 tw6234236546647993328 tw13603140423822090866 tw988024165127282629 tw5846502669797951550 tw4624343994374043790 tw17322863326361144200 tw9143615094098409745 tw2946565735852131164 tw7784487786678607937 tw3302653832470090862 tw14935117084639898771 tw18190050501865087899 tw16368694965869293792 tw3132637552777056699 tw17038475799977912327 tw4604466676242387404 tw5002021996450592306 tw3641583171566072787 tw4022195401270808235 tw4399024418806900118 tw8579256176772881577 tw17614054545339582292 tw4763066848972808551 tw1160819487751796820 tw11030051080651072654 tw14334065104092243867 tw15517914923441315340 tw12064363460586207719 tw4611964860815038072 tw829286566420447612 tw8867052253519734410 tw7462941006983767207 tw10298420261896941625 tw12916335929636463821 tw5921851385888993421 tw12703707216365448704 tw16543373340667845948 tw17648139443255010813 tw1710970404833464069 tw1114462870023759417 tw15371156389703188928 tw17389253474140255275 tw7941695873079946714 tw4921194469647364419 tw6971180510651646129 tw15905614954274561992 tw16394444132965186858 tw172811698128116079 tw14711725746311079077 tw14044417471320348942 tw12051454579239904736 tw12592023878152952779 tw15390326401235339302 tw17289125696458073788 tw16967119928221645422 tw8134465210655886715 tw10526244256193952224 tw14472379844585203567 tw16842156757019482931 tw18372390024722199237 tw5705090315266025879 tw649995430173753582 tw10878931536427776667 tw14273643424154858013 tw12989325424250806738 tw3562754821919538991 tw14458071247718812599 tw5920902514930268189 tw8625213940090122718 tw18337480560421787071 tw14323806246760010727 tw16380319307504836144 tw16286011301025999854 tw17162842178930345071 tw17534858560073252707 tw1869281515946075676 tw7376723562501936670 tw15081062966934401133 tw17818000534782822305 tw4818854920510918555 tw7616787476687513156 tw18091040574505982458 tw11100687686707646306 tw357449025608052679 tw17792063669137194212 tw4767591298552493734 tw14068610007736882384 tw8970234287326139876 tw16393206449479199796 tw14391409470015759187 tw10490907242793027614 tw9281753458267247435 tw16175631474230918036 tw12955185255644653849 tw16229345280459886828 tw2249449164839078807 tw12528278110759622711 tw16033712093933529202 tw17334538445261473703 tw9599432757427899401 tw2656091005777046577 tw1605508996469176772 tw5300767985811111683 tw8775945762525998802 tw17174973589955038642 tw2039392464838327947 tw11312603131667671624 tw8379156853210562028 tw14775681708035091890 tw12949496229653002229 tw9397998712224386241 tw4886199014404867574 tw18042709159511469053 tw9800368345542031847 tw2441325921835764928 tw10587342055499756863 tw9651281245107629834 tw3567348913921443430 tw15461282278267449674 tw16924436611925240582 tw16620016807383664796 tw4040735883394178408 tw3230172051094340990 tw13993164652604940759 tw6258358925013536098 tw11765326498966332497 tw14877876345745476092 tw17488253233640640296 tw9800563741813085803 tw14139821765290875092 tw631326131004551473 tw12944580843355150819 tw11443956559219658268 tw7877441496362486116 tw9150800094446118981 tw5835839502230694290 tw11557427939056810648 tw9642662638919499443 tw10400232332432303155 tw16494039386894498971 tw3659007450904111117 tw13714618745333282849 tw2852782954293995962 tw9722059344909548975 tw4469415014712801040 tw3103279620126587523 tw6129953415319447169 tw3927820866454353855 tw4278352401523444256 tw8776579353986524008 tw12659984313940886555 tw4474366700453909471 tw8347565440664265889 tw5848415361018574027 tw14247198931521696769 tw13237896285242839496 tw4663864784339792818 tw3246191552014767111 tw16036361898850575053 tw17279660319525952850 tw5869419077269219671 tw16915957802009023046 tw14466443229623173776 tw4696257550742742730 tw12723244212911829757 tw2853213982956534182 tw17252859801111232115 tw13838061810019456651 tw11813259143584129521 tw7948928500062570495 tw1333233771405556055 tw16716843406407271469 tw12621973913537561144 tw14494225093842674535 tw2482812397655996616 tw7923487586812564409 tw15099750681553902943 tw9188850584718232364 tw1915636725100891735 tw8832542800550974449 tw15986664103360748810 tw3114050865257322069 tw2510119606513411589 tw5007348281906432899 tw10328347124800994962 tw3453107625954815173 tw11986139373979827228 tw11725665402968140177 tw8391681212126192676 tw1276309045987097520 tw15399871513608571365 tw4373324601901930450 tw5313839618703289273:True)
end PySem.W
section
set_option Elab.async false
namespace L2
open PySem PySem.Spec PyProof.Rows
noncomputable abbrev Key:=Sum Int aG
noncomputable def Wa:Key->aC->Bool
 |.inl k,v=>sd k v
 |.inr x,v=>sy x v
noncomputable def L5 (w:cX):Key->Int
 |.inl k=>hashInt k
 |.inr x=>iQ w x
theorem zw:∀{k:Key}{v:aC},Wa k v=aB->(∃i t,k=lN i/\v=nt i t)\/(∃x t,k=lM x/\v=o5 x t)
 |.inl i,v,h=>by
  obtain⟨t,e⟩:=CY (k:=i) (v:=v) h;exact .inl ⟨i,t,rfl,e⟩
 |.inr x,v,h=>by
  obtain⟨t,e⟩:=CG (x:=x) (v:=v) h;exact .inr ⟨x,t,rfl,e⟩
theorem Yy(i:Int)(t:Tok):Wa (.inl i) (.int i t)=aB:=by simp[Wa,sd]
theorem QZ(x:aG)(t:Tok):Wa (.inr x) (.str x t)=aB:=by simp[Wa,sy]
theorem OJ(a b:Int):decide ((lN a:Key)=lN b)=(a==b):=by
 by_cases e:a=b
 .subst e;simp
 .have h:¬(lN a:Key)=lN b:=λq=>e (Sum.inl.inj q);rw[decide_eq_false h];exact (beq_eq_false_iff_ne.mpr e).symm
theorem NV(a b:aG):decide ((lM a:Key)=lM b)=decide (a=b):=by
 by_cases e:a=b
 .subst e;simp
 .have h:¬(lM a:Key)=lM b:=λq=>e (r_ q);rw[decide_eq_false h,decide_eq_false e]
theorem N7(a:Int)(b:aG):decide ((lN a:Key)=lM b)=aD:=decide_eq_false (λq=>nomatch q)
theorem NF(a:aG)(b:Int):decide ((lM a:Key)=lN b)=aD:=decide_eq_false (λq=>nomatch q)
noncomputable def zz(prog:bZ)(w:cX):PySem.KeyKind prog w Key where
 is:=Wa
 hash:=L5 w
 inj:=λv a b l f=>by
  rcases zw l with⟨i,t,rfl,rfl⟩|⟨x,t,rfl,rfl⟩
  .rcases zw f with⟨j,u,rfl,e⟩|⟨y,u,rfl,e⟩
   .injection e with c _;rw[c]
   .exact nomatch e
  .rcases zw f with⟨j,u,rfl,e⟩|⟨y,u,rfl,e⟩
   .exact nomatch e
   .injection e with c _;rw[c]
 byValue:=λk v h=>by
  rcases zw h with⟨i,t,rfl,rfl⟩|⟨x,t,rfl,rfl⟩<;>rfl
 pyHash:=λd h=>by
  rcases zw d with⟨i,t,rfl,rfl⟩|⟨x,t,rfl,rfl⟩
  .exact wpAny_pyHash_int h
  .exact wpAny_pyHash_str h
 eqBool:=λg d h=>by
  rcases zw g with⟨i,t,rfl,rfl⟩|⟨x,t,rfl,rfl⟩
  .rcases zw d with⟨j,u,rfl,rfl⟩|⟨y,u,rfl,rfl⟩
   .rw[OJ] at h;exact tj h
   .rw[N7] at h;exact tB i t y u _ _ _ _ h
  .rcases zw d with⟨j,u,rfl,rfl⟩|⟨y,u,rfl,rfl⟩
   .rw[NF] at h;exact tz x t j u _ _ _ _ h
   .rw[NV] at h;exact wpAny_eqBool_str h
 «strs»:=λk x t v h=>by
  rcases zw h with⟨i,u,rfl,e⟩|⟨y,u,rfl,e⟩
  .exact nomatch e
  .injection e with c _;subst c;cases v<;>rfl
theorem VV(prog:bZ)(w:cX)(i:Int)(t:Tok):(zz prog w).is (.inl i) (.int i t)=aB:=Yy i t
theorem J6(prog:bZ)(w:cX)(x:aG)(t:Tok):(zz prog w).is (.inr x) (.str x t)=aB:=QZ x t
end L2
namespace L2
open PySem PySem.Spec PyProof.Rows
set_option genInjectivity true in
inductive V where
 |non|bl (b:Bool)|int (i:Int)|str (x:aG)|byt (b:Array UInt8)|flt (b:UInt64)|ref (a:aE)|ty (n:String)
 deriving DecidableEq
noncomputable def RelV:V->aC->Prop
 |.non,u=>u=dP
 |.bl b,u=>u=lu b
 |.int i,u=>∃t,u=nt i t
 |.str x,u=>∃t,u=o5 x t
 |.byt b,u=>∃t,u=CL b t
 |.flt b,u=>∃t,u=CJ b t
 |.ref a,u=>u=b9 a
 |.ty n,u=>u=ny n
abbrev aU:List V->List aC->Prop:=Paired RelV
theorem aU.length(r:aU xs us):xs.length=us.length:=CF r
theorem aU.get:∀{xs:List V}{us:List aC}{i:Nat}{x:V},aU xs us->xs[i]?=aA x->∃u,us[i]?=aA u/\RelV x u
 |_,_,_,_,.nil,e=>by simp at e
 |_,_,0,_,.cons r _,e=>by simp at e;subst e;exact⟨_,rfl,r⟩
 |_,_,i+1,x,.cons _ t,e=>by
  obtain⟨u,b,a⟩:=aU.get (i:=i) (x:=x) t (by simpa using e);exact⟨u,by simpa using b,a⟩
theorem aU.set(r:RelV x u):∀{xs:List V}{us:List aC}(i:Nat),aU xs us->aU (xs.set i x) (us.set i u)
 |_,_,_,.nil=>.nil
 |_,_,0,.cons _ t=>.cons r t
 |_,_,i+1,.cons q t=>.cons q (aU.set r i t)
theorem aU.append:∀{xs ys:List V}{us a:List aC},aU xs us->aU ys a->aU (xs++ys) (us++a)
 |_,_,_,_,.nil,s=>s
 |_,_,_,_,.cons r t,s=>.cons r (aU.append t s)
theorem aU.take:∀{xs:List V}{us:List aC}(n:Nat),aU xs us->aU (xs.take n) (us.take n)
 |_,_,0,_=>.nil
 |_,_,_+1,.nil=>.nil
 |_,_,n+1,.cons r t=>.cons r (aU.take n t)
theorem aU.drop:∀{xs:List V}{us:List aC}(n:Nat),aU xs us->aU (xs.drop n) (us.drop n)
 |_,_,0,r=>r
 |_,_,_+1,.nil=>.nil
 |_,_,n+1,.cons _ t=>aU.drop n t
noncomputable def cL:Option V->Option aC->Prop
 |some v,aA u=>RelV v u
 |none,aF=>True
 |_,_=>False
noncomputable def KV {a:Type}:List (a×V)->List (a×aC)->Prop:=Paired λ(p:a×V) (q:a×aC)=>p.1=q.1/\RelV p.2 q.2
noncomputable def kV:Key->V
 |.inl i=>.int i
 |.inr x=>.str x
inductive HO where
 |lst (xs:List V)
 |tup (xs:List V)
 |dK (kvs:List (Key×V))|dE (ep:Nat) (kvs:List (Key×V))
 |set (S:Int->Bool) (n:Nat)
 |ins (C dx:aE) (fs:List (aG×V))
 |own (x:aE)
 |xd (fs:List (aG×V))
 |met (f x:aE)
 |rng (lo hi:Int)
 |frz (o:a_) (u:HO)
 |tbl (ps:Array aC)
 |ext (φ:aT->Prop)
noncomputable abbrev Hp:=aE->Option HO
noncomputable def aX (H:Hp)(a:aE)(o:HO):Hp:=λb=>if b=a then aA o else H b
theorem z4:aX H a o a=aA o:=by unfold aX;rw[if_pos rfl]
theorem z6(h:b≠a):aX H a o b=H b:=by unfold aX;rw[if_neg h]
theorem WU:aX (aX H a o) a u=aX H a u:=by
 funext b;unfold aX;split<;>rfl
theorem zu{H:Hp}(h:H a=aA o)(h':H b=aF):a≠b:=by
 intro e;subst e;rw[h] at h';cases h'
section
variable (P:Program)(w:World)
noncomputable def a8(H:Hp)(h:aT)(a:aE):HO->Prop
 |.lst xs=>xs.length<=sizeLine/\∃(c:List aC) (n:Nat),aU xs c/\h.get? a=aA {cls:=.type "list",data:=.seq c.toArray n}
 |.tup xs=>xs.length<=sizeLine/\∃c:List aC,aU xs c/\gZ h a c.toArray
 |.dK b=>b.length<=sizeLine/\(a==hY)=aD/\∃e,KV b e/\h.DictOf (zz P w) a e
 |.dE ep b=>b.length<=sizeLine/\(a==hY)=aD/\∃e,KV b e/\h.DictAt (zz P w) a e ep
 |.set S n=>h.SetOf (intKind P w) a S n
 |.ins C dx fs=>H dx=aA (.own a)/\fs.length<=1000/\dx≠a/\h.get? a=aA (lB C dx)/\
   ∃d,h.Ns1 dx d/\(∀f,cL (fs.lookup f) (d f))/\sG d (fs.map (·.1))
 |.own _=>∃o,h.get? a=aA o
 |.xd fs=>∃d,h.Ns1 a d/\∀f,cL (fs.lookup f) (d f)
 |.rng lo l=>∃t u v,h.get? a=aA {cls:=.type "range",data:=.fields #[.int lo t,.int l u,.int 1 v]}
 |.frz o u=>h.get? a=aA o/\a8 H h a u
 |.tbl k=>h.get? a=aA {cls:=.none,data:=.fields k}
 |.met f x=>h.get? a=aA (sV (.ref f) (.ref x))
 |.ext g=>g h/\(∃o,h.get? a=aA o)/\∀j i:aT,g j->(∀o,j.get? a=aA o->i.get? a=aA o)->g i
noncomputable def c_ (H:Hp)(h:aT):Prop:=∀a o,H a=aA o->a8 P w H h a o
end
section
variable {P:Program}{w:World}{H H':Hp}{h h':aT}{a:aE}{o:HO}
theorem a8.lt(x:a8 P w H h a o):a<h.objs.size:=by
 cases o with
 |lst xs=>obtain⟨_,_,_,_,e⟩:=x;exact bW e
 |tup xs=>obtain⟨_,_,_,p⟩:=x;exact p.lt
 |dK b=>obtain⟨_,_,_,_,o,_,_,e,_⟩:=x;exact bW e
 |dE ep b=>obtain⟨_,_,_,_,o,_,e,_⟩:=x;exact bW e
 |set S n=>obtain⟨o,_,_,_,e,_⟩:=x;exact bW e
 |ins C dx fs=>obtain⟨_,_,_,e,_⟩:=x;exact bW e
 |own y=>obtain⟨_,e⟩:=x;exact bW e
 |xd fs=>obtain⟨_,⟨_,_,_,e,_⟩,_⟩:=x;exact bW e
 |rng lo c=>obtain⟨_,_,_,e⟩:=x;exact bW e
 |frz ob u=>obtain⟨e,_⟩:=x;exact bW e
 |tbl ps=>exact bW (show h.get? a=aA _ from x)
 |met f y=>exact bW (show h.get? a=aA _ from x)
 |ext φ=>obtain⟨_,⟨_,e⟩,_⟩:=x;exact bW e
theorem a8.stay(x:a8 P w H h a o)(k:∀b u,(b=a\/H b=aA (.own a))->h.get? b=aA u->h'.get? b=aA u)
  (j:∀b,H b=aA (.own a)->H' b=aA (.own a)) (m:∀b xs,H b=aA (.tup xs)->H' b=aA (.tup xs)):a8 P w H' h' a o:=by
 induction o with
 |lst xs=>obtain⟨z,its,n,r,e⟩:=x;exact⟨z,its,n,r,k _ _ (.inl rfl) e⟩
 |tup xs=>obtain⟨z,its,r,ob,e,c⟩:=x;exact⟨z,its,r,ob,k _ _ (.inl rfl) e,c⟩
 |dK i=>obtain⟨z,y,vs,r,ob,es,ep,e,c⟩:=x;exact⟨z,y,vs,r,ob,es,ep,k _ _ (.inl rfl) e,c⟩
 |dE ep i=>obtain⟨z,y,vs,r,ob,es,e,c⟩:=x;exact⟨z,y,vs,r,ob,es,k _ _ (.inl rfl) e,c⟩
 |set S n=>obtain⟨ob,es,ep,t,e,c⟩:=x;exact⟨ob,es,ep,t,k _ _ (.inl rfl) e,c⟩
 |ins C dx fs=>
  obtain⟨d,z,ne,e,g,⟨od,es,ep,l,c⟩,r⟩:=x;exact⟨j _ d,z,ne,k _ _ (.inl rfl) e,g,⟨od,es,ep,k _ _ (.inr d) l,c⟩,r⟩
 |own y=>obtain⟨ob,e⟩:=x;exact⟨ob,k _ _ (.inl rfl) e⟩
 |xd fs=>obtain⟨g,⟨od,es,ep,e,c⟩,r⟩:=x;exact⟨g,⟨od,es,ep,k _ _ (.inl rfl) e,c⟩,r⟩
 |rng lo s=>obtain⟨t,u,v,e⟩:=x;exact⟨t,u,v,k _ _ (.inl rfl) e⟩
 |frz ob u ih=>obtain⟨e,q⟩:=x;exact⟨k _ _ (.inl rfl) e,ih q⟩
 |tbl ps=>
  have e:h.get? a=aA {cls:=.none,data:=.fields ps}:=x;show h'.get? a=aA {cls:=.none,data:=.fields ps};exact k a _ (.inl rfl) e
 |met f y=>
  have e:h.get? a=aA (sV (.ref f) (.ref y)):=x;show h'.get? a=aA (sV (.ref f) (.ref y));exact k a _ (.inl rfl) e
 |ext φ=>obtain⟨p,⟨o,e⟩,st⟩:=x;exact⟨st _ _ p λo q=>k _ _ (.inl rfl) q,⟨o,k _ _ (.inl rfl) e⟩,st⟩
theorem c_.lt(x:c_ P w H h)(e:H a=aA o):a<h.objs.size:=(x a o e).lt
theorem c_.fresh(x:c_ P w H h)(e:h.objs.size<=a):H a=aF:=by
 cases q:H a with
 |none=>rfl
 |some u=>exact absurd (dI (x.lt q) e) (ip _)
theorem c_.kept(x:c_ P w H h)(k:∀b u,h.get? b=aA u->h'.get? b=aA u):c_ P w H h':=λa o e=>
 (x a o e).stay (λb u _ q=>k b u q) (λ_ q=>q) λ_ _ q=>q
theorem c_.laid(x:c_ P w H h)(k:∀b u,h.get? b=aA u->h'.get? b=aA u)(g:h.objs.size<=a)(new:a8 P w (aX H a o) h' a o):c_ P w (aX H a o) h':=λb u e=>by
 have d:=x.fresh g;by_cases f:b=a
 .subst f;rw[z4] at e;cases e;exact new
 .rw[z6 f] at e;exact (x b u e).stay (λc v _ q=>k c v q) (λc q=>by rw[z6 (zu q d)];exact q) λc xs q=>by rw[z6 (zu q d)];exact q
end
noncomputable def Rd (H:Hp)(a:aE)(u:HO):Prop:=H a=aA u\/∃o,H a=aA (.frz o u)
theorem Rd.ok{P:bZ}(r:Rd H a u)(x:c_ P w H h):a8 P w H h a u:=by
 rcases r with r|⟨o,r⟩
 .exact x a u r
 .obtain⟨_,q⟩:=x a _ r;exact q
noncomputable def oK:Option HO->Prop
 |some (.lst _)=>True
 |some (.dK _)=>True
 |some (.dE _ _)=>True
 |some (.set _ _)=>True
 |some (.ins _ _ _)=>True
 |some (.ext _)=>True
 |_=>False
section
variable {P:Program}{w:World}{H:Hp}{h h':aT}{x e:aE}{o':HO}
theorem c_.write(ok:c_ P w H h)(g:oK (H x))(he:e=x\/H e=aA (.own x))(k:∀b u,b≠e->h.get? b=aA u->h'.get? b=aA u)(l:∃u,h'.get? e=aA u)
  (new:a8 P w (aX H x o') h' x o'):c_ P w (aX H x o') h':=λb u q=>by
 have d:∀c y,H c=aA (.own y)->c≠x:=λc y r z=>by subst z;rw[r] at g;exact g
 have f:∀c xs,H c=aA (.tup xs)->c≠x:=λc xs r z=>by subst z;rw[r] at g;exact g
 by_cases j:b=x
 .subst j;rw[z4] at q;cases q;exact new
 .rw[z6 j] at q;by_cases a:b=e
  .have m:H b=aA (.own x):=by
    rcases he with z|z
    .exact absurd (a.trans z) j
    .rw[a];exact z
   rw[q] at m;cases m;obtain⟨v,n⟩:=l;exact⟨v,by rw[a];exact n⟩
  .refine (ok b u q).stay (λc v i r=>k c v ?_ r) (λc r=>by rw[z6 (d c b r)];exact r) λc xs r=>by rw[z6 (f c xs r)];exact r
   rcases i with rfl|i
   .exact a
   .rintro rfl;rcases he with z|z
    .exact d c b i z
    .rw[i] at z;cases z;exact j rfl
end
structure Un(fs ex:List aE)(H H':Hp)(h h':aT):Prop where
 keep:∀b o,h.get? b=aA o->H b=aF->b∉fs->b∉ex->h'.get? b=aA o
 slot:∀b o,h.get? b=aA o->H b=aF->b∈fs->b∉ex->∃sl,h'.get? b=aA {o with slots:=sl}
 free:∀b o,h.get? b=aA o->H b=aF->b∉ex->H' b=aF
 there:∀b o,h.get? b=aA o->b∉ex->∃o',h'.get? b=aA o'
 tups:∀b xs,H b=aA (.tup xs)->H' b=aA (.tup xs)
 frzs:∀b o u,H b=aA (.frz o u)->H' b=aA (.frz o u)
 tbls:∀b ps,H b=aA (.tbl ps)->∃more,H' b=aA (.tbl (ps++more))
section
variable {fs ex:List aE}{H H1:Hp}{h h1 h':aT}{a x e:aE}{o:HO}
theorem Un.any(u:Un fs ex H H1 h h1)(q:h.get? b=aA ob)(n:H b=aF)(hx:b∉ex):∃d,h1.get? b=aA {ob with slots:=d}:=by
 by_cases a:b∈fs
 .exact u.slot b ob q n a hx
 .exact⟨ob.slots,u.keep b ob q n a hx⟩
theorem Un.kept(k:∀b u,h.get? b=aA u->h'.get? b=aA u):Un fs ex H H h h':=
 ⟨λb ob q _ _ _=>k b ob q,λb ob q _ _ _=>⟨ob.slots,k b ob q⟩,λ_ _ _ n _=>n,λb ob q _=>⟨ob,k b ob q⟩,λ_ _ q=>q,λ_ _ _ q=>q,λ_ ps q=>⟨#[],by rw[q];simp⟩⟩
theorem Un.refl:Un fs ex H H h h:=Un.kept λ_ _ q=>q
theorem Un.laid(k:∀b u,h.get? b=aA u->h'.get? b=aA u)(d:h.objs.size<=a)(c:H a=aF):Un fs ex H (aX H a o) h h' where
 keep:=λb u q _ _ _=>k b u q
 slot:=λb u q _ _ _=>⟨u.slots,k b u q⟩
 free:=λb u q n _=>by rw[z6 (dF (dI (bW q) d))];exact n
 there:=λb u q _=>⟨u,k b u q⟩
 tups:=λb xs q=>by rw[z6 (zu q c)];exact q
 frzs:=λb u xs q=>by rw[z6 (zu q c)];exact q
 tbls:=λb ps q=>⟨#[],by rw[z6 (zu q c),q];simp⟩
theorem Un.write(c:oK (H x))(he:e=x\/H e=aA (.own x))(k:∀b u,b≠e->h.get? b=aA u->h'.get? b=aA u)(f:∃u,h'.get? e=aA u):Un fs ex H (aX H x o) h h':=by
 have hx:∀b,H b=aF->b≠x:=λb n z=>by subst z;rw[n] at c;exact c
 have g:∀b,H b=aF->b≠e:=λb n z=>by
  subst z;rcases he with r|r
  .exact hx b n r
  .rw[n] at r;cases r
 have d:∀b u,H b=aA u->¬oK (aA u)->b≠x:=λb u q nm z=>by subst z;rw[q] at c;exact nm c
 refine⟨λb u q n _ _=>k b u (g b n) q,λb u q n _ _=>⟨u.slots,k b u (g b n) q⟩,λb u q n _=>by rw[z6 (hx b n)];exact n,λb u q _=>?_,
  λb xs q=>by rw[z6 (d b _ q λz=>z)];exact q,λb u xs q=>by rw[z6 (d b _ q λz=>z)];exact q,λb ps q=>⟨#[],by rw[z6 (d b _ q λz=>z),q];simp⟩⟩
 by_cases a:b=e
 .subst a;exact f
 .exact⟨u,k b u a q⟩
end
noncomputable def rH (h:aT)(H:Hp):List aE:=(hX h.objs.size).filter λa=>(H a).isSome
noncomputable def Qh (h:aT)(H:Hp):aT:=PySem.W.hideAll h (rH h H)
theorem YA(h:aT)(H:Hp):(Qh h H).objs.size=h.objs.size:=PySem.W.hideAll_size _ _
theorem z0T(e:h.get? b=aA o)(n:H b=aF):(Qh h H).get? b=aA o:=
 PySem.W.hideAll_get _ e λa=>by
  have q:(H b).isSome=aB:=(h_.mp a).2;rw[n] at q;simp at q
theorem SQ(e:(Qh h H).get? b=aA o):h.get? b=aA o/\H b=aF:=by
 have a:h.get? b=aA o:=PySem.W.of_hideAll (rH h H) e;refine⟨a,?_⟩;cases q:H b with
 |none=>rfl
 |some x=>
  have c:b∈rH h H:=h_.mpr ⟨Du.mpr (bW a),by simp[q]⟩;have z:(Qh h H).get? b=aF:=PySem.W.hideAll_none (rH h H) c;rw[z] at e;cases e
noncomputable def PP(g h:aT)(L:aE):List (aE×a_):=(hX h.objs.size).filterMap λa=>if a=L\/(g.get? a).isSome=aB then aF else (h.get? a).map λo=>(a,o)
noncomputable def rest (g h:aT)(L d:aE):List (aE×a_):=(PP g h L).filter λp=>decide (p.1≠d)
end L2
namespace L2
open PySem PySem.Spec PyProof.Rows
structure Mod(K:PySem.W.Frag)(mg:aG->Option aC)(base:aT):Prop where
 kin:K.In base
 glob:base.Ns bE mg
 blt:∃mb,base.Ns lr mb/\∀x:aG,x≠"__name__"->mb x=fW x
 nolimit:base.NoLimit
structure Cx where
 prog:bZ
 w:cX
 K:bH
 mg:aG->Option aC
 base:aT
 A:dW
 N:List aG
 s₀:aW
 H₀:Hp
 env:Env
 outer:List Env
 stack:List Env
 ex:List aE
 fn:aG->Bool
 calm:Bool
 pn:List (aE×a_)
 xe:aC->aW->Prop
noncomputable def eJ(l:List Env):List aE:=l.filterMap (·.frame)
noncomputable abbrev Cx.fs(X:Cx):List aE:=eJ X.outer
noncomputable def gY(sc:Scope)(x:aG):Prop:=sc.names.lookup x=aA .local\/sc.names.lookup x=aA .cell\/sc.names.lookup x=aA .free
noncomputable def Loc(sc:Scope)(x:aG):Prop:=sc.names.lookup x=aA .local\/sc.names.lookup x=aA .cell
noncomputable def Look(env:Env)(h:aT)(m:aG->Option aC)(x:aG)(u:aC):Prop:=
 (env.kindOf x=aA .local/\m x=aA u)\/((env.kindOf x=aA .cell\/env.kindOf x=aA .free)/\∃c,env.cells.lookup x=aA c/\h.IsCell c (aA u))
structure Cx.Ok(X:Cx):Prop where
 mod:Mod X.K X.mg X.base
 kind:X.env.scope.kind=.function
 glob:X.env.globals=bE
 blt:X.env.builtins=lr
 above:X.s₀.heap.objs.size<=X.env.locals
 inj:∀x y c,X.env.cells.lookup x=aA c->X.env.cells.lookup y=aA c->x=y
 has:∀x,(X.env.kindOf x=aA .cell\/X.env.kindOf x=aA .free)->∃c,X.env.cells.lookup x=aA c
 cab:∀x c,X.fn x=aB->X.env.cells.lookup x=aA c->X.s₀.heap.objs.size<=c
 hd:X.calm=aB->X.A.handled=aF
 frames:X.A.frames=aA X.stack
 stk:X.stack=X.outer\/(X.stack=X.env::X.outer/\X.env.frame=aA X.env.locals)
 exf:∀b∈X.ex,b≠X.env.locals/\∀x c,X.env.cells.lookup x=aA c->c≠b
 bs:∀b o,X.base.get? b=aA o->X.s₀.heap.get? b=aA o/\X.H₀ b=aF
 bsz:X.base.objs.size<=X.s₀.heap.objs.size
 noex:∀b o,X.base.get? b=aA o->b∉X.ex
 exfs:∀b∈X.ex,b∉X.fs
 funs:X.s₀.heap.FunFrames X.base X.outer
 frf:∀b∈X.fs,X.H₀ b=aF
structure Inv(X:Cx)(pins:List (aE×a_))(σ:List (Option V))(H:Hp)(s:Shared):Prop where
 ok:X.Ok
 os:s.os=X.s₀.os
 bare:iP s.gens
 base:Un X.fs X.ex X.H₀ H X.s₀.heap s.heap
 loc:∃m,s.heap.Ns X.env.locals m/\∀(i:Nat) (x:aG) (v:V),X.N[i]?=aA x->σ[i]?=aA (aA v)->gY X.env.scope x->∃u,RelV v u/\Look X.env s.heap m x u
 cell:∀x c,X.env.cells.lookup x=aA c->∃v,s.heap.IsCell c v
 free:H X.env.locals=aF
 freeC:∀x c,X.env.cells.lookup x=aA c->H c=aF\/(X.fn x=aD/\∃o u,H c=aA (.frz o u))
 pin:∀p∈X.pn++pins,s.heap.get? p.1=aA p.2/\H p.1=aF/\p.1≠X.env.locals/\p.1∉X.fs/\∀v,p.2.data≠.cell v
 hok:c_ X.prog X.w H s.heap
 len:σ.length=X.N.length
section
variable {X:Cx}{pins:List (aE×a_)}{σ:List (Option V)}{H H':Hp}{s:Shared}{h':aT}
theorem Cx.Ok.nofr(ok:X.Ok)(e:X.base.get? b=aA o):b∉X.fs:=λa=>by
 have:=(ok.funs.mem a).1;rw[e] at this;cases this
theorem Inv.bs(I:Inv X pins σ H s):∀b o,X.base.get? b=aA o->s.heap.get? b=aA o/\H b=aF:=λb o e=>
 ⟨I.base.keep b o (I.ok.bs b o e).1 (I.ok.bs b o e).2 (I.ok.nofr e) (I.ok.noex b o e),I.base.free b o (I.ok.bs b o e).1 (I.ok.bs b o e).2 (I.ok.noex b o e)⟩
theorem Inv.bk(I:Inv X pins σ H s):∀b o,X.base.get? b=aA o->s.heap.get? b=aA o:=λb o e=>(I.bs b o e).1
theorem Inv.mod(I:Inv X pins σ H s):Mod X.K X.mg X.base:=I.ok.mod
theorem Inv.kIn(I:Inv X pins σ H s):X.K.In s.heap:=I.ok.mod.kin.keeps I.bk
theorem Inv.lt(I:Inv X pins σ H s):X.env.locals<s.heap.objs.size:=let ⟨_,a,_⟩:=I.loc;a.lt
theorem Inv.sz(I:Inv X pins σ H s):X.s₀.heap.objs.size<=s.heap.objs.size:=cV I.ok.above (nB I.lt)
theorem Inv.nofs(I:Inv X pins σ H s){a:aE}(h:s.heap.objs.size<=a):a∉X.fs:=λc=>by
 obtain⟨_,o,b,_⟩:=I.ok.funs.mem c;exact absurd (dI (bW b) (cV I.sz h)) (ip _)
theorem Inv.cne(I:Inv X pins σ H s):∀x c,X.env.cells.lookup x=aA c->c≠X.env.locals:=λx c e z=>by
 obtain⟨v,o,d,hd⟩:=I.cell x c e;obtain⟨m,⟨f,es,ep,a,b,_⟩,_⟩:=I.loc;rw[z,a] at d;cases d;rw[b] at hd;cases hd
theorem Inv.funs(I:Inv X pins σ H s):s.heap.FunFrames X.base X.outer:=by
 have all:∀(l:List Env),(∀b∈eJ l,b∈X.fs)->X.s₀.heap.FunFrames X.base l->s.heap.FunFrames X.base l:=by
  intro l;induction l with
  |nil=>intro _ _;trivial
  |cons env r ih=>
   intro hs i;obtain⟨hk,⟨L,o,a,h,g,hd⟩,f⟩:=i;have d:L∈X.fs:=hs L (by unfold eJ;rw[tR,a];exact fZ);obtain⟨j,e⟩:=I.base.slot L o g (I.ok.frf L d) d λz=>I.ok.exfs L z d;exact⟨hk,⟨L,_,a,h,e,hd⟩,ih (λb c=>hs b (by unfold eJ;rw[tR,a];exact eH _ c)) f⟩
 exact all X.outer (λ_ c=>c) I.ok.funs
theorem Inv.stack(I:Inv X pins σ H s):s.heap.FunFrames X.base X.stack:=by
 rcases I.ok.stk with e|⟨e,b⟩
 .rw[e];exact I.funs
 .rw[e];obtain⟨m,a,_⟩:=I.loc;refine .cons (by rw[I.ok.kind];decide) b a ?_ I.funs;exact iJ (cV I.ok.bsz I.ok.above)
theorem Inv.stkSub(I:Inv X pins σ H s):∀b∈eJ X.stack,b∈X.env.locals::X.fs:=λb a=>by
 rcases I.ok.stk with e|⟨e,c⟩
 .rw[e] at a;exact eH _ a
 .rw[e] at a;unfold eJ at a;rw[tR,c] at a;exact a
theorem Inv.stkFree(I:Inv X pins σ H s):∀b∈eJ X.stack,H b=aF:=λb a=>by
 rcases dG.mp (I.stkSub b a) with e|a
 .rw[e];exact I.free
 .obtain⟨_,o,c,_⟩:=I.ok.funs.mem a;exact I.base.free b o c (I.ok.frf b a) λz=>I.ok.exfs b z a
theorem Inv.step{ch:List aE}(I:Inv X pins σ H s)
  (g:∀b∈ch,(b∈X.ex\/X.s₀.heap.objs.size<=b)/\b≠X.env.locals/\(∀x c,X.env.cells.lookup x=aA c->c≠b)/\∀p∈X.pn++pins,p.1≠b)
  (keep:∀b o,b≠X.env.locals->b∉X.fs->b∉ch->s.heap.get? b=aA o->H b=aF->h'.get? b=aA o)
  (slot:∀b o,b≠X.env.locals->b∈X.fs->b∉ch->s.heap.get? b=aA o->H b=aF->∃G,h'.get? b=aA {o with slots:=G}) (free:∀b o,b∉ch->s.heap.get? b=aA o->H b=aF->H' b=aF)
  (there:∀b o,b∉ch->s.heap.get? b=aA o->∃B,h'.get? b=aA B)
  (tups:∀b xs,H b=aA (.tup xs)->H' b=aA (.tup xs)) (frzs:∀b o u,H b=aA (.frz o u)->H' b=aA (.frz o u)) (tbls:∀b ps,H b=aA (.tbl ps)->∃D,H' b=aA (.tbl (ps++D)))
  (ns:∀m,s.heap.Ns X.env.locals m->h'.Ns X.env.locals m) (hok:c_ X.prog X.w H' h') (R:iP g') :
  Inv X pins σ H' {s with heap:=h',gens:=g',drawn:=d',toks:=t'}:=by
 have C:∀b o,X.s₀.heap.get? b=aA o->b≠X.env.locals:=λb o e=>dF (dI (bW e) I.ok.above);have j:∀b o,X.s₀.heap.get? b=aA o->b∉X.ex->b∉ch:=λb o e hx A=>by
  rcases (g b A).1 with z|z
  .exact hx z
  .exact absurd (dI (bW e) z) (ip _)
 have h:∀x c,X.env.cells.lookup x=aA c->∀v,s.heap.IsCell c v->h'.IsCell c v:=λx c e v ⟨o,y,hd⟩=>by
  have a:c∉ch:=λz=>(g c z).2.2.1 x c e rfl;rcases I.freeC x c e with f|⟨_,ob,u,f⟩
  .by_cases L:c∈X.fs
   .obtain⟨G,q⟩:=slot c o (I.cne x c e) L a y f;exact⟨_,q,hd⟩
   .exact⟨o,keep c o (I.cne x c e) L a y f,hd⟩
  .have M:=(I.hok c _ f).1;rw[y] at M;cases M;exact⟨o,(hok c _ (frzs c _ u f)).1,hd⟩
 refine⟨I.ok,I.os,R,⟨λb o e n A hx=>?_,λb o e n A hx=>?_,λb o e n hx=>?_,λb o e hx=>?_,λb xs e=>tups b xs (I.base.tups b xs e),λb o xs e=>frzs b o xs (I.base.frzs b o xs e),λb ps e=>?_⟩,?_,λx c e=>?_,?_,λx c e=>?_,λp K=>?_,hok,I.len⟩
 .exact keep b o (C b o e) A (j b o e hx) (I.base.keep b o e n A hx) (I.base.free b o e n hx)
 .obtain⟨G,t⟩:=I.base.slot b o e n A hx;obtain⟨F,E⟩:=slot b _ (C b o e) A (j b o e hx) t (I.base.free b o e n hx);exact⟨F,E⟩
 .obtain⟨B,t⟩:=I.base.there b o e hx;exact free b B (j b o e hx) t (I.base.free b o e n hx)
 .obtain⟨B,t⟩:=I.base.there b o e hx;exact there b B (j b o e hx) t
 .obtain⟨O,t⟩:=I.base.tbls b ps e;obtain⟨N,E⟩:=tbls b _ t;exact⟨O++N,by rw[E,Array.append_assoc]⟩
 .obtain⟨m,P,Q⟩:=I.loc;refine⟨m,ns m P,λi x v t E S=>?_⟩;obtain⟨u,r,l⟩:=Q i x v t E S;refine⟨u,r,?_⟩;rcases l with l|⟨k,c,e,z⟩
  .exact .inl l
  .exact .inr ⟨k,c,e,h x c e _ z⟩
 .obtain⟨v,z⟩:=I.cell x c e;exact⟨v,h x c e v z⟩
 .obtain⟨m,⟨o,_,_,y,_⟩,_⟩:=I.loc;exact free _ o (λz=>(g _ z).2.1 rfl) y I.free
 .obtain⟨v,o,y,hd⟩:=I.cell x c e;exact (I.freeC x c e).imp (free c o (λz=>(g c z).2.2.1 x c e rfl) y) λ⟨n,ob,u,f⟩=>⟨n,ob,u,frzs c ob u f⟩
 .obtain⟨e,n,ne,J,d⟩:=I.pin p K;have a:p.1∉ch:=λz=>(g p.1 z).2.2.2 p K rfl;exact⟨keep p.1 p.2 ne J a e n,free p.1 p.2 a e n,ne,J,d⟩
theorem Inv.un(I:Inv X pins σ H s)(u:Un X.fs [] H H' s.heap h')(hok:c_ X.prog X.w H' h'):Inv X pins σ H' {s with heap:=h',toks:=t'}:=by
 obtain⟨m,⟨o,es,ep,g,r⟩,_⟩:=id I.loc;obtain⟨k,j⟩:=u.any g I.free (by simp);exact I.step (g':=s.gens) (d':=s.drawn) (ch:=[]) (λ_ z=>nomatch z) (λb o _ c _ e n=>u.keep b o e n c (by simp)) (λb o _ c _ e n=>u.slot b o e n c (by simp)) (λb o _ e n=>u.free b o e n (by simp)) (λb o _ e=>u.there b o e (by simp)) u.tups u.frzs u.tbls (λp i=>by
  obtain⟨l,d,f,a,h⟩:=i;rw[g] at a;cases a;exact⟨_,d,f,j,h⟩) hok I.bare
theorem Inv.call{ch:List aE}(I:Inv X pins σ H s)(u:Un (eJ X.stack) ch H H' s.heap h')(hok:c_ X.prog X.w H' h')(q:iP g')
  (f:∀b∈ch,(b∈X.ex\/X.s₀.heap.objs.size<=b)/\b≠X.env.locals/\(∀x c,X.env.cells.lookup x=aA c->c≠b)/\∀p∈X.pn++pins,p.1≠b) :
  Inv X pins σ H' {s with heap:=h',gens:=g',drawn:=d',toks:=t'}:=by
 obtain⟨m,⟨o,es,ep,j,r⟩,_⟩:=id I.loc;obtain⟨v,g⟩:=u.any j I.free λz=>(f _ z).2.1 rfl;exact I.step (ch:=ch) f (λb o g t a e n=>u.keep b o e n (λz=>(dG.mp (I.stkSub b z)).elim g t) a) (λb o _ _ a e n=>u.any e n a) (λb o a e n=>u.free b o e n a) (λb o a e=>u.there b o e a) u.tups u.frzs u.tbls (λA l=>by
  obtain⟨y,h,i,d,k⟩:=l;rw[j] at d;cases d;exact⟨_,h,i,g,k⟩) hok q
theorem Inv.turned{t':Nat}(I:Inv X pins σ H s)(k:∀b o,b≠it->s.heap.get? b=aA o->h'.get? b=aA o)(h:H it=aF)(f:it≠X.env.locals)
  (w:it∈X.ex\/X.s₀.heap.objs.size<=it) (t:∀x c,X.env.cells.lookup x=aA c->c≠it) (l:∀p∈X.pn++pins,p.1≠it):Inv X pins σ H {s with heap:=h',toks:=t'}:=by
 have d:∀b u,H b=aA u->b≠it:=λb u e z=>by rw[z,h] at e;cases e
 refine I.step (g':=s.gens) (d':=s.drawn) (ch:=[it]) (λb j=>?_) (λb o _ _ a e _=>k b o (λz=>a (by simp[z])) e) (λb o _ _ a e _=>⟨o.slots,k b o (λz=>a (by simp[z])) e⟩) (λ_ _ _ _ n=>n)
  (λb o a e=>⟨o,k b o (λz=>a (by simp[z])) e⟩) (λ_ _ e=>e) (λ_ _ _ e=>e) (λb ps e=>⟨#[],by rw[e];simp⟩) (λm i=>?_) (λb u e=>?_) I.bare
 .have e:b=it:=by simpa using j
  subst e;exact⟨w,f,t,l⟩
 .obtain⟨o,es,ep,g,r⟩:=i;exact⟨o,es,ep,k _ o (c7 f) g,r⟩
 .refine (I.hok b u e).stay (λc v a q=>k c v ?_ q) (λ_ q=>q) λ_ _ q=>q;rcases a with z|z
  .rw[z];exact d b u e
  .exact d c _ z
theorem Inv.tok(I:Inv X pins σ H s)(t:Nat):Inv X pins σ H {s with toks:=t}:=I.un (h':=s.heap) (t':=t) Un.refl I.hok
theorem Inv.kept(I:Inv X pins σ H s)(k:∀b u,s.heap.get? b=aA u->h'.get? b=aA u):Inv X pins σ H {s with heap:=h',toks:=t'}:=I.un (Un.kept k) (I.hok.kept k)
theorem Inv.laid{a:aE}(I:Inv X pins σ H s)(k:∀b u,s.heap.get? b=aA u->h'.get? b=aA u)(c:s.heap.objs.size<=a)(new:a8 X.prog X.w (aX H a o) h' a o) :
  Inv X pins σ (aX H a o) {s with heap:=h',toks:=t'}:=I.un (Un.laid k c (I.hok.fresh c)) (I.hok.laid k c new)
theorem Inv.write(I:Inv X pins σ H s)(c:oK (H x))(he:e=x\/H e=aA (.own x))(k:∀b u,b≠e->s.heap.get? b=aA u->h'.get? b=aA u)(a:∃u,h'.get? e=aA u)
  (new:a8 X.prog X.w (aX H x o) h' x o):Inv X pins σ (aX H x o) {s with heap:=h',toks:=t'}:=I.un (Un.write c he k a) (I.hok.write c he k a new)
theorem Inv.pins_of(I:Inv X pins σ H s)(h:∀p∈pins',s.heap.get? p.1=aA p.2/\H p.1=aF/\p.1≠X.env.locals/\p.1∉X.fs/\∀v,p.2.data≠.cell v):Inv X pins' σ H s:=
 ⟨I.ok,I.os,I.bare,I.base,I.loc,I.cell,I.free,I.freeC,λp a=>(cM.mp a).elim (λz=>I.pin p (d9 _ z)) (h p),I.hok,I.len⟩
theorem xB{N:List aG}(hN:N.Nodup){i:Nat}(a:N[i]?=aA x)(b:N[j]?=aA x):i=j:=by
 obtain⟨f,d⟩:=cH.mp a;obtain⟨e,c⟩:=cH.mp b;exact (pT hN).mp (d.trans c.symm)
theorem Uw{E:aC->aW->Prop}{i:Nat}{x:aG}{v:V}{u:aC}(I:Inv X pins σ H s)(hN:X.N.Nodup)(R:X.N[i]?=aA x)(hx:Loc X.env.scope x)(r:RelV v u)
  (h:∀s',Inv X pins (σ.set i (aA v)) H s'->(∃a,fN a s.heap s'.heap/\(a=X.env.locals\/X.env.cells.lookup x=aA a))->Q () s') (hf:X.fn x=aB\/X.env.scope.names.lookup x=aA .local:=by first|exact .inl rfl|exact .inr rfl|assumption):wpAny M A (storeName X.env x u) Q E s:=by
 obtain⟨m,hn,hl⟩:=id I.loc;have S:(X.env.scope.kind==.class || (X.env.scope.kind==.module&&X.env.locals != X.env.globals))=aD:=by rw[I.ok.kind];rfl
 have G:i<σ.length:=by rw[I.len];exact (cH.mp R).1
 have cne:=I.cne;have g:∀{a:aE}{L:aT},(∃o,s.heap.get? a=aA o/\H a=aF)->fN a s.heap L->c_ X.prog X.w H L:=λ{a L} ha f b ob e=>by
  obtain⟨_,_,B⟩:=ha;refine (I.hok b ob e).stay (λc W t q=>(f.2 c ?_).trans q) (λ_ q=>q) λ_ _ q=>q;rintro rfl;rcases t with rfl|t
  .rw[B] at e;cases e
  .rw[B] at t;cases t
 rcases hx with F|F
 .refine wpAny_storeName_local F hn (λL hn' f=>?_) S;obtain⟨oL,_,_,hoL,_⟩:=id hn;refine h _ ⟨I.ok,I.os,I.bare,⟨λb o e n K hx=>?_,λb o e n K hx=>?_,I.base.free,λb o e hx=>?_,I.base.tups,I.base.frzs,I.base.tbls⟩,⟨_,hn',λj y v' l D e3=>?_⟩,λy c e=>?_,I.free,I.freeC,λp hp=>?_,g ⟨oL,hoL,I.free⟩ f,by simpa using I.len⟩ ⟨_,f,.inl rfl⟩
  .exact (f.2 b (dF (dI (bW e) I.ok.above))).trans (I.base.keep b o e n K hx)
  .obtain⟨sl,l⟩:=I.base.slot b o e n K hx;exact⟨sl,(f.2 b (dF (dI (bW e) I.ok.above))).trans l⟩
  .obtain⟨o',l⟩:=I.base.there b o e hx;exact⟨o',(f.2 b (dF (dI (bW e) I.ok.above))).trans l⟩
  .by_cases J:j=i
   .subst J;rw[R] at l;cases l;rw[ra G] at D;cases D;exact⟨u,r,.inl ⟨F,by simp⟩⟩
   .rw[l5 (c7 J)] at D;obtain⟨u',r',q⟩:=hl j y v' l D e3;refine⟨u',r',?_⟩;rcases q with⟨k,e⟩|⟨k,c,e,z⟩
    .refine .inl ⟨k,?_⟩;have:y≠x:=λe=>J (xB hN l (e▸R));simp[this,e]
    .exact .inr ⟨k,c,e,z.sameBut f (cne y c e)⟩
  .obtain⟨W,z⟩:=I.cell y c e;exact⟨W,z.sameBut f (cne y c e)⟩
  .obtain⟨e,n,Y,nf,d⟩:=I.pin p hp;exact⟨(f.2 p.1 Y).trans e,n,Y,nf,d⟩
 .have C:X.fn x=aB:=by
   rcases hf with z|z
   .exact z
   .rw[z] at F;cases F
  obtain⟨c,t⟩:=I.ok.has x (.inl F);obtain⟨W,z⟩:=I.cell x c t;refine wpAny_storeName_cell I.ok.kind F t z (λL U f=>?_);obtain⟨oc,P,O⟩:=id z;refine h {s with heap:=L} ⟨I.ok,I.os,I.bare,⟨λb o e n K hx=>?_,λb o e n K hx=>?_,I.base.free,λb o e hx=>?_,I.base.tups,I.base.frzs,I.base.tbls⟩,⟨m,hn.sameBut f (c7 (cne x c t)),λj y v' l D e3=>?_⟩,λy Z e=>?_,I.free,I.freeC,λp hp=>?_,g ⟨oc,P,(I.freeC x c t).resolve_right λz=>by rw[C] at z;cases z.1⟩ f,by simpa using I.len⟩ ⟨c,f,.inr t⟩
  .exact (f.2 b (dF (dI (bW e) (I.ok.cab x c C t)))).trans (I.base.keep b o e n K hx)
  .obtain⟨sl,l⟩:=I.base.slot b o e n K hx;exact⟨sl,(f.2 b (dF (dI (bW e) (I.ok.cab x c C t)))).trans l⟩
  .obtain⟨o',l⟩:=I.base.there b o e hx;exact⟨o',(f.2 b (dF (dI (bW e) (I.ok.cab x c C t)))).trans l⟩
  .by_cases J:j=i
   .subst J;rw[R] at l;cases l;rw[ra G] at D;cases D;exact⟨u,r,.inr ⟨.inl F,c,t,U⟩⟩
   .rw[l5 (c7 J)] at D;obtain⟨u',r',q⟩:=hl j y v' l D e3;refine⟨u',r',?_⟩;rcases q with q|⟨k,Z,e,z'⟩
    .exact .inl q
    .refine .inr ⟨k,Z,e,z'.sameBut f ?_⟩;rintro rfl;exact J (xB hN l (I.ok.inj _ _ _ e t▸R))
  .by_cases T:Z=c
   .subst T;exact⟨_,U⟩
   .obtain⟨w2,z2⟩:=I.cell y Z e;exact⟨w2,z2.sameBut f T⟩
  .obtain⟨e,n,Y,nf,d⟩:=I.pin p hp;refine⟨(f.2 p.1 ?_).trans e,n,Y,nf,d⟩;intro q;rw[q,P] at e;have q':oc=p.2:=bQ e;exact d W (by rw[<-q'];exact O)
theorem Zy{i:Nat}{x:aG}{v:V}(I:Inv X pins σ H s)(hN:X.N.Nodup)(a:X.N[i]?=aA x)(hx:Loc X.env.scope x)(r:RelV v u)
  (h:∀d,Inv X pins (σ.set i (aA v)) H d->Q () d) (b:X.fn x=aB\/X.env.scope.names.lookup x=aA .local:=by first|exact .inl rfl|exact .inr rfl|assumption):wpAny M A (storeName X.env x u) Q E s:=
 Uw I hN a hx r (λd c _=>h d c) b
theorem Inv.call'(I:Inv X pins σ H s)(g:d.os=s.os)(u:Un (eJ X.stack) ch H H' s.heap d.heap)(hok:c_ X.prog X.w H' d.heap)(h:iP d.gens)
  (a:∀b∈ch,(b∈X.ex\/X.s₀.heap.objs.size<=b)/\b≠X.env.locals/\(∀x c,X.env.cells.lookup x=aA c->c≠b)/\∀p∈X.pn++pins,p.1≠b):Inv X pins σ H' d:=by
 obtain⟨h',g',d',t',f⟩:=d;have e:f=s.os:=g;subst e;exact I.call (g':=g') (t':=t') (d':=d') u hok h a
end
noncomputable abbrev XK:=aC->Option aE->Hp->Prop
noncomputable abbrev St:=List (Option V)
noncomputable abbrev VK:=V->Hp->Prop
noncomputable abbrev TE:=St->Hp->VK->Prop
noncomputable abbrev TT:=St->Hp->(Bool->Hp->Prop)->Prop
noncomputable abbrev TA:=St->Hp->(List V->Hp->Prop)->Prop
structure Ends where
 nx:St->Hp->Prop
 rt:VK
 bk:St->Hp->Prop:=λ_ _=>False
 ct:St->Hp->Prop:=λ_ _=>False
noncomputable abbrev TS:=Ends->St->Hp->Prop
inductive EP(X:Cx)(pins:List (aE×a_))(σ:St)(Q:VK)(u:aC)(s':Shared):Prop where
 |mk (v:V) (H':Hp) (i:Inv X pins σ H' s') (r:RelV v u) (q:Q v H')
inductive TP(X:Cx)(pins:List (aE×a_))(σ:St)(Q:Bool->Hp->Prop)(b:Bool)(s':Shared):Prop where
 |mk (H':Hp) (i:Inv X pins σ H' s') (q:Q b H')
inductive AP(X:Cx)(pins:List (aE×a_))(σ:St)(Q:List V->Hp->Prop)(us:List aC)(s':Shared):Prop where
 |mk (vs:List V) (H':Hp) (i:Inv X pins σ H' s') (r:aU vs us) (q:Q vs H')
noncomputable def SP (X:Cx)(pins:List (aE×a_))(D:Ends)(f:Flow)(c:aW):Prop:=
 match f with
 |.next=>∃a b,Inv X pins a b c/\D.nx a b
 |.brk=>∃a b,Inv X pins a b c/\D.bk a b
 |.cont=>∃a b,Inv X pins a b c/\D.ct a b
 |.ret u=>∃v a b,Inv X pins a b c/\RelV v u/\D.rt v b
noncomputable def PE (X:Cx)(e:aH)(t:TE):Prop:=
 ∀(a:List (aE×a_)) (s:aW) (b:St) (H:Hp) (Q:VK),Inv X a b H s->t b H Q->wpAny (aR X.prog X.w) X.A (eval e X.env) (EP X a b Q) X.xe s
noncomputable def PT (X:Cx)(e:aH)(t:TT):Prop:=
 ∀(a:List (aE×a_)) (s:aW) (b:St) (H:Hp) (Q:Bool->Hp->Prop),Inv X a b H s->t b H Q->wpAny (aR X.prog X.w) X.A (isTrue e X.env (eval e X.env)) (TP X a b Q) X.xe s
noncomputable def PW (X:Cx)(e:aH)(t:TT):Prop:=
 ∀(b:Sem aC) (a:List (aE×a_)) (s:aW) (c:St) (H:Hp) (Q:Bool->Hp->Prop),Inv X a c H s->t c H Q->wpAny (aR X.prog X.w) X.A (isTrue e X.env b) (TP X a c Q) X.xe s
theorem PW.pt{X:Cx}(h:PW X e t):PT X e t:=h _
noncomputable def PA (X:Cx)(es:List aH)(t:TA):Prop:=
 ∀(c:Pos) (a:List (aE×a_)) (s:aW) (b:St) (H:Hp) (Q:List V->Hp->Prop),Inv X a b H s->t b H Q->wpAny (aR X.prog X.w) X.A (spliced (eU c (dC es X.env))) (AP X a b Q) X.xe s
noncomputable def PS (X:Cx)(st:bB)(t:TS):Prop:=
 ∀(a:List (aE×a_)) (s:aW) (b:St) (H:Hp) (D:Ends),Inv X a b H s->t D b H->wpAny (aR X.prog X.w) X.A (exec st X.env) (SP X a D) X.xe s
noncomputable def fS (X:Cx)(st:List bB)(t:TS):Prop:=
 ∀(a:List (aE×a_)) (s:aW) (b:St) (H:Hp) (D:Ends),Inv X a b H s->t D b H->wpAny (aR X.prog X.w) X.A (execs st X.env) (SP X a D) X.xe s
theorem aY{α:Type}{t:Sem α}{Q Q':α->aW->Prop}(h:wpAny M A t Q E s)(b:∀a s,Q a s->Q' a s):wpAny M A t Q' E s:=cR h b λ_ _ x=>x
end L2
namespace L2
open PySem PySem.Spec PyProof.Rows
section
variable {X:Cx}
noncomputable def L6 (i:Nat):TE:=λa H Q=>∃v,a[i]?=aA (aA v)/\Q v H
noncomputable def tC (v:V):TE:=λ_ H Q=>Q v H
theorem xY {pos:Pos}(hN:X.N[i]?=aA x) (k:gY X.env.scope x) (hd:(x==("__debug__":aG))=aD:=by decide) (f:(x==("__classdict__":aG))=aD:=by decide):PE X (.Name x pos) (L6 i):=by
 intro d s j H Q I h;obtain⟨v,e,h⟩:=h;obtain⟨m,n,p⟩:=I.loc;obtain⟨u,r,l⟩:=p i x v hN e k;have fin:EP X d j Q u s:=⟨v,H,I,r,h⟩;rcases l with⟨b,o⟩|⟨b,c,g,a⟩
 .exact sf (wpAny_loadName_local I.ok.kind b n o fin) hd
 .rcases b with b|b
  .exact sf (wpAny_loadName_cell I.ok.kind b g a fin) hd
  .exact sf (wpAny_loadName_free I.ok.kind b g a fin f) hd
theorem Ot{i j pos}:PE X (.Constant (.int i) j pos) (tC (.int i)):=λ_ _ _ H _ I h=>wpAny_Constant_int ⟨.int i,H,I.tok _,⟨_,rfl⟩,h⟩
theorem MY{b j pos}:PE X (.Constant (.bool b) j pos) (tC (.bl b)):=λ_ _ _ H _ I h=>Constant_bool ⟨.bl b,H,I,rfl,h⟩
theorem NJ{j pos}:PE X (.Constant .none j pos) (tC .non):=λ_ _ _ H _ I h=>Constant_none ⟨.non,H,I,rfl,h⟩
theorem Ze{x j pos}:PE X (.Constant (.str x) j pos) (tC (.str x)):=λ_ _ _ H _ I h=>Calls.Constant_str ⟨.str x,H,I.tok _,⟨_,rfl⟩,h⟩
noncomputable def Gl(X:Cx)(x:aG):Prop:=X.env.kindOf x=aA .globalImplicit
theorem zR{a:St}{H:Hp}{x:aG}{pos:Pos}(I:Inv X pins a H s)(c:Gl X x)(b:X.mg x=aA u)(h:Q u s)
  (hd:(x==("__debug__":aG))=aD:=by decide):wpAny (aR X.prog X.w) X.A (eval (.Name x pos) X.env) Q E s:=
 EI I.ok.kind c (Calls.loadGlobal_global (by rw[I.ok.glob];exact I.mod.glob.keeps I.bk) b h) hd
theorem qH{E:aC->aW->Prop}{a:St}{H:Hp}{x:aG}{pos:Pos}(I:Inv X pins a H s)(e:Gl X x)(d:X.mg x=aF)(b:fW x=aA u)(h:Q u s)
  (c:x≠"__name__":=by decide) (hd:(x==("__debug__":aG))=aD:=by decide):wpAny (aR X.prog X.w) X.A (eval (.Name x pos) X.env) Q E s:=by
 obtain⟨i,g,f⟩:=I.mod.blt;exact EI I.ok.kind e (Calls.loadGlobal_builtin (by rw[I.ok.glob];exact I.mod.glob.keeps I.bk) d (by rw[I.ok.blt];exact g.keeps I.bk) ((f x c).trans b) h) hd
theorem Ym (b:Gl X x) (a:X.mg x=aA u) (r:RelV v u) (hd:(x==("__debug__":aG))=aD:=by decide):PE X (.Name x pos) (tC v):=
 λ_ _ _ H _ I h=>zR I b a ⟨v,H,I,r,h⟩ hd
theorem RC {pos:Pos}(d:Gl X x) (c:X.mg x=aF) (a:fW x=aA u) (r:RelV v u) (b:x≠"__name__":=by decide) (hd:(x==("__debug__":aG))=aD:=by decide):PE X (.Name x pos) (tC v):=
 λ_ _ _ H _ I h=>qH I d c a ⟨v,H,I,r,h⟩ b hd
variable {a b:aH}{pos:Pos}
variable {tA tB':TT}{rest:List aH}
noncomputable def tAnd (t u:TT):TT:=λa H Q=>t a H λc b=>if c=aB then u a b Q else Q aD b
noncomputable def tOr (t u:TT):TT:=λa H Q=>t a H λc b=>if c=aB then Q aB b else u a b Q
noncomputable def tNot (t:TT):TT:=λa H Q=>t a H λc b=>Q (!c) b
theorem RK(f:PT X a tA):PW X (.BoolOp .And [a] pos) tA:=by
 intro g b s d H Q I h;refine isTrue_and (aY (f b s d H Q I h) λc i e=>?_);cases c with
 |true=>exact isTrue_and_nil e
 |false=>exact e
theorem Oh(f:PT X a tA):PW X (.BoolOp .Or [a] pos) tA:=by
 intro g b s d H Q I h;refine isTrue_or (aY (f b s d H Q I h) λc i e=>?_);cases c with
 |false=>exact isTrue_or_nil e
 |true=>exact e
theorem N5(m:PT X a tA)(l:PW X (.BoolOp .And (b::rest) pos) tB'):PW X (.BoolOp .And (a::b::rest) pos) (tAnd tA tB'):=by
 intro j d s e H Q I h;refine isTrue_and (aY (m d s e H _ I h) λc k ⟨i,g,f⟩=>?_);cases c with
 |true=>exact l j d k e i Q g f
 |false=>exact⟨i,g,f⟩
theorem MV(m:PT X a tA)(l:PW X (.BoolOp .Or (b::rest) pos) tB'):PW X (.BoolOp .Or (a::b::rest) pos) (tOr tA tB'):=by
 intro j d s e H Q I h;refine isTrue_or (aY (m d s e H _ I h) λc k ⟨i,g,f⟩=>?_);cases c with
 |true=>exact⟨i,g,f⟩
 |false=>exact l j d k e i Q g f
theorem Op(e:PT X a tA):PT X (.UnaryOp .Not a pos) (tNot tA):=by
 intro b s d H Q I h;exact isTrue_not (aY (e b s d H (λc f=>Q (!c) f) I h) λc j ⟨g,i,q⟩=>⟨g,i,q⟩)
theorem OP{op}(h:PE X a t):PE X (.BoolOp op [a] pos) t:=λb s c H Q I hw=>BoolOp_one (h b s c H Q I hw)
end
end L2
namespace L2
open PySem PySem.Spec PyProof.Rows
noncomputable def f9 (K:bH)(H:Hp)(a:aE)(xs:List V):Prop:=
 Rd H a (.lst xs)\/
  ∃(o:a_) (b:Array aC) (n:Nat),K.lookup a=aA o/\o.cls=.type "list"/\o.dict=aF/\o.data=.seq b n/\b.size<=sizeLine/\aU xs b.toList
noncomputable def eS (K:bH)(H:Hp)(a:aE)(xs:List V):Prop:=
 Rd H a (.tup xs)\/
  ∃(o:a_) (b:Array aC) (n:Nat),K.lookup a=aA o/\o.cls=.type "tuple"/\o.data=.seq b n/\b.size<=sizeLine/\aU xs b.toList
noncomputable def L9:aC->Option V
 |.none=>aA .non
 |.bool b=>aA (.bl b)
 |.int i _=>aA (.int i)
 |.str x _=>aA (.str x)
 |.bytes b _=>aA (.byt b)
 |.float b _=>aA (.flt b)
 |.ref a=>aA (.ref a)
 |.type n=>aA (.ty n)
 |_=>aF
theorem RelV.abs(r:RelV x u):L9 u=aA x:=by
 cases x with
 |non=>cases r;rfl
 |bl _=>cases r;rfl
 |int _=>obtain⟨t,rfl⟩:=r;rfl
 |str _=>obtain⟨t,rfl⟩:=r;rfl
 |byt _=>obtain⟨t,rfl⟩:=r;rfl
 |flt _=>obtain⟨t,rfl⟩:=r;rfl
 |ref _=>cases r;rfl
 |ty _=>cases r;rfl
theorem RelV.inj(r:RelV x u)(q:RelV y u):x=y:=bQ (r.abs.symm.trans q.abs)
theorem aU.inj:∀{xs ys:List V}{us:List aC},aU xs us->aU ys us->xs=ys
 |_,_,_,.nil,.nil=>rfl
 |_,_,_,.cons r t,.cons a t'=>by rw[r.inj a,aU.inj t t']
section
variable {X:Cx}{pins:List (aE×a_)}{σ:St}{H:Hp}{s:Shared}{a:aE}{xs ys:List V}
theorem Inv.list(I:Inv X pins σ H s)(h:f9 X.K H a xs):∃its:List aC,aU xs its/\PlainL s.heap a its.toArray/\xs.length<=sizeLine:=by
 rcases h with h|⟨o,its,n,hk,b,hd,hs,c,r⟩
 .obtain⟨z,its,n,r,e⟩:=h.ok I.hok;exact⟨its,r,⟨_,n,e,rfl,rfl,rfl⟩,z⟩
 .refine⟨its.toList,r,⟨o,n,I.kIn a o hk,b,hd,by simpa using hs⟩,?_⟩;have e:=r.length;simp only[tQ] at e;lia
theorem Inv.tuple(I:Inv X pins σ H s)(h:eS X.K H a xs):∃its:List aC,aU xs its/\gZ s.heap a its.toArray/\xs.length<=sizeLine:=by
 rcases h with h|⟨o,its,n,hk,b,hs,c,r⟩
 .obtain⟨z,its,r,p⟩:=h.ok I.hok;exact⟨its,r,p,z⟩
 .refine⟨its.toList,r,⟨o,I.kIn a o hk,b,n,by simpa using hs⟩,?_⟩;have e:=r.length;simp only[tQ] at e;lia
theorem Inv.list_inj(I:Inv X pins σ H s)(h:f9 X.K H a xs)(h':f9 X.K H a ys):xs=ys:=by
 obtain⟨its,r,⟨o,n,e,_,_,d⟩,_⟩:=I.list h;obtain⟨its',c,⟨g,i,b,_,_,d'⟩,_⟩:=I.list h';rw[e] at b;cases b;rw[d] at d';injection d' with f _;have:its=its':=by simpa using congrArg CW f
 subst this;exact r.inj c
theorem Inv.tuple_inj(I:Inv X pins σ H s)(h:eS X.K H a xs)(h':eS X.K H a ys):xs=ys:=by
 obtain⟨its,r,⟨o,e,_,n,d⟩,_⟩:=I.tuple h;obtain⟨its',c,⟨g,b,_,i,d'⟩,_⟩:=I.tuple h';rw[e] at b;cases b;rw[d] at d';injection d' with f _;have:its=its':=by simpa using congrArg CW f
 subst this;exact r.inj c
end
noncomputable abbrev Cx.wish(X:Cx)(E:aC->aW->Prop):Cx:={X with xe:=E}
theorem Cx.Ok.wish{X:Cx}(ok:X.Ok)(E:aC->aW->Prop):(X.wish E).Ok:=
 ⟨ok.mod,ok.kind,ok.glob,ok.blt,ok.above,ok.inj,ok.has,ok.cab,ok.hd,ok.frames,ok.stk,ok.exf,ok.bs,ok.bsz,ok.noex,ok.exfs,ok.funs,ok.frf⟩
theorem Cx.Ok.unwish{X:Cx}(ok:(X.wish E).Ok):X.Ok:=
 ⟨ok.mod,ok.kind,ok.glob,ok.blt,ok.above,ok.inj,ok.has,ok.cab,ok.hd,ok.frames,ok.stk,ok.exf,ok.bs,ok.bsz,ok.noex,ok.exfs,ok.funs,ok.frf⟩
section
variable {X:Cx}{pins:List (aE×a_)}{σ:St}{H:Hp}{s:Shared}{E:aC->Shared->Prop}
theorem Inv.wish(I:Inv X pins σ H s)(E:aC->aW->Prop):Inv (X.wish E) pins σ H s:=⟨I.ok.wish E,I.os,I.bare,I.base,I.loc,I.cell,I.free,I.freeC,I.pin,I.hok,I.len⟩
theorem Inv.unwish(I:Inv (X.wish E) pins σ H s):Inv X pins σ H s:=⟨I.ok.unwish,I.os,I.bare,I.base,I.loc,I.cell,I.free,I.freeC,I.pin,I.hok,I.len⟩
theorem SP.unwish(h:SP (X.wish E) pins D f d):SP X pins D f d:=by
 cases f with
 |next=>obtain⟨a,H',I,q⟩:=h;exact⟨a,H',I.unwish,q⟩
 |brk=>obtain⟨a,H',I,q⟩:=h;exact⟨a,H',I.unwish,q⟩
 |cont=>obtain⟨a,H',I,q⟩:=h;exact⟨a,H',I.unwish,q⟩
 |ret u=>obtain⟨v,a,H',I,r,q⟩:=h;exact⟨v,a,H',I.unwish,r,q⟩
end
section
variable {X:Cx}{st:bB}{rest:List bB}{t u:TS}{e:aH}{te:TE}{pos:Pos}
noncomputable def M8:TS:=λD a H=>D.nx a H
noncomputable def LY (t u:TS):TS:=λD a H=>t {D with nx:=u D} a H
theorem WO:fS X [] M8:=λ_ _ a H _ I h=>pO ⟨a,H,I,h⟩
theorem ZJ(g:PS X st t)(e:fS X rest u):fS X (st::rest) (LY t u):=by
 intro a s c H D I h;refine wpAny_execs_cons (aY (g a s c H {D with nx:=u D} I h) λf d q=>?_);cases f with
 |next=>
  obtain⟨b,j,i,q⟩:=q;exact e a d b j D i q
 |ret v=>exact q
 |brk=>exact q
 |cont=>exact q
theorem XU(c:PS X st t):fS X [st] t:=by
 intro a s b H D I h;refine wpAny_execs_cons (aY (c a s b H D I h) λf d q=>?_);cases f with
 |next=>exact pO q
 |ret v=>exact q
 |brk=>exact q
 |cont=>exact q
theorem Inv.quiet{a:St}(I:Inv X pins a H s):interactive X.env=aD:=by simp[interactive,I.ok.kind]
noncomputable def MX(te:TE):TS:=λD a H=>te a H λ_ b=>D.nx a b
theorem V5(he:PE X e te)(hs:iH e aF pos.line X.env=pure aD:=by rfl):PS X (.Expr e pos) (MX te):=by
 intro a s b H D I h;exact wpAny_Expr_any (aY (he a s b H _ I h) λv g ⟨x,f,d,i,c⟩=>⟨b,f,d,c⟩) I.quiet hs
noncomputable def Mu (te:TE):TS:=λD a H=>te a H D.rt
theorem Nf(he:PE X e te):PS X (.Return (aA e) pos) (Mu te):=by
 intro a s b H D I h;exact wpAny_Return_some (aY (he a s b H _ I h) λv i ⟨x,g,f,c,d⟩=>⟨x,b,g,f,c,d⟩)
noncomputable def M3:TS:=λD _ H=>D.rt .non H
theorem Rw:PS X (.Return aF pos) M3:=λ_ _ a H _ I h=>wpAny_Return_none ⟨.non,a,H,I,rfl,h⟩
noncomputable def Ml (c:TT)(t u:TS):TS:=λD a H=>c a H λb d=>if b=aB then t D a d else u D a d
theorem MM{a:List bB}(l:PT X c m)(o:fS X a t)(n:fS X b u):PS X (.If c a b pos) (Ml m t u):=by
 intro e s f H D I h;refine wpAny_If (aY (l e s f H _ I h) λd g ⟨k,j,i⟩=>?_);cases d with
 |true=>exact o e g f k D j i
 |false=>exact n e g f k D j i
end
noncomputable abbrev TG:=V->St->Hp->(St->Hp->Prop)->Prop
noncomputable abbrev oG:=List V->St->Hp->(St->Hp->Prop)->Prop
noncomputable def PG (X:Cx)(a:aH)(t:TG):Prop:=
 ∀(b:List (aE×a_)) (s:aW) (d:St) (H:Hp) (v:V) (u:aC) (Q:St->Hp->Prop),Inv X b d H s->RelV v u->t v d H Q->
  wpAny (aR X.prog X.w) X.A (hG a X.env u) (λ_ f=>∃c e,Inv X b c e f/\Q c e) X.xe s
noncomputable def oJ (X:Cx)(ts:List aH)(t:oG):Prop:=
 ∀(a:List (aE×a_)) (s:aW) (c:St) (H:Hp) (d:List V) (e:List aC) (Q:St->Hp->Prop),Inv X a c H s->aU d e->t d c H Q->
  wpAny (aR X.prog X.w) X.A (assignInOrder ((hV ts X.env).map (·.2)) e) (λ_ g=>∃b f,Inv X a b f g/\Q b f) X.xe s
noncomputable abbrev FD:=V->V->V->Hp->(Hp->Prop)->Prop
noncomputable def A1 (X:Cx)(t:FD):Prop:=
 ∀(a:List (aE×a_)) (s:aW) (b:St) (H:Hp) (o i v:V) (c d u:aC) (Q:Hp->Prop),Inv X a b H s->RelV o c->RelV i d->RelV v u->t o i v H Q->
  wpAny (aR X.prog X.w) X.A (setItem c d u) (λ_ f=>∃e,Inv X a b e f/\Q e) X.xe s
section
variable {X:Cx}{pos:Pos}
noncomputable def Y9(i:Nat):TG:=λv a H Q=>Q (a.set i (aA v)) H
theorem Ye(hN:X.N.Nodup)(b:X.N[i]?=aA x)(hx:Loc X.env.scope x)(c:X.fn x=aB\/X.env.scope.names.lookup x=aA .local:=by first|exact .inl rfl|exact .inr rfl|assumption):PG X (.Name x pos) (Y9 i):=by
 intro a s e H v u Q I r h;exact wpAny_assign_Name (Zy I hN b hx r (λf d=>⟨_,H,d,h⟩) c)
noncomputable def Fo:oG:=λb a H Q=>b=[]/\Q a H
noncomputable def G6(t:TG)(u:oG):oG:=λc b H Q=>∃v r,c=v::r/\t v b H λa d=>u r a d Q
theorem Pp:oJ X [] Fo:=by
 intro a s b H c d Q I r h;obtain⟨e,h⟩:=h;subst e;cases r;exact assignInOrder_nil ⟨b,H,I,h⟩
theorem Tz{t:TG}(j:PG X e t)(i:oJ X es u)
  (hs:(hV (e::es) X.env).map (·.2)=hG e X.env::(hV es X.env).map (·.2):=by rfl):oJ X (e::es) (G6 t u):=by
 intro a s c H n p Q I r h;obtain⟨v,o,k,h⟩:=h;subst k;cases r with
 |cons r f=>
  rw[hs];refine assignInOrder_cons (aY (j a s c H _ _ _ I r h) λ_ d ⟨b,m,l,g⟩=>?_);exact i a d b m _ _ Q l f g
noncomputable def LR (K:bH)(n:Nat)(t:oG):TG:=λv b H Q=>∃a xs,v=.ref a/\eS K H a xs/\xs.length=n/\t xs b H Q
theorem OC{k:Nat}(w:X.calm=aB)(h:oJ X es t)
  (p:(hV es X.env).length=n:=by rfl) (d:(hV es X.env).findIdx? (·.1)=aF:=by rfl):PG X (.Tuple es k pos) (LR X.K n t):=by
 intro c s f H v u Q I r hw;obtain⟨a,xs,y,m,q,hw⟩:=hw;subst y;cases r;obtain⟨i,g,l,A⟩:=I.tuple m;refine assign_Tuple_tuple (I.ok.hd w) l (by simp[p,<-q,g.length]) d λx j=>?_;have z:Inv X c f H {s with heap:=x}:=I.kept (t':=s.toks) λb o e=>j b o (dF (bW e)) e;exact h c _ f H xs _ Q z (by simpa using g) hw
noncomputable def Ms (b c:TE)(t:FD):TG:=λv a H Q=>b a H λo f=>c a f λi e=>t o i v e λd=>Q a d
theorem HH{o:aH}(q:PE X o j)(w:PE X i m)(hs:A1 X t)
  (z:∀v,hG (.Subscript o i pos) X.env v=(do
   let d ←mv [v] (eval o X.env)
   let g ←mv [v,d] (eval i X.env)
   standAt pos
   mv [v,d,g] (setItem d g v)
   release [v,d,g] []):=by intro _;rfl):PG X (.Subscript o i pos) (Ms j m t):=by
 intro a s b H v u Q I r h;rw[z];refine wpAny_bind (wpAny_holding (aY (q a s b H _ I h) λd e ⟨x,F,C,k,p⟩=>?_));refine wpAny_bind (wpAny_holding (aY (w a e b F _ C p) λg c ⟨y,E,B,f,n⟩=>?_));refine wpAny_bind (fF (wpAny_bind (wpAny_holding (aY (hs a c b E x y v d g u _ B k f r n) λ_ G ⟨D,A,l⟩=>?_))));exact wpAny_release ⟨b,D,A,l⟩
noncomputable def Ft (b:TE)(g:TG):TS:=λD a H=>b a H λx c=>g x a c D.nx
theorem KR{e:aH}(he:PE X e d)(j:PG X tg g)(hs:pz [tg] e pos.line X.env=pure aD:=by rfl)(hw:py [tg] e X.env=pure aF:=by rfl)
  (k:(hV [tg] X.env).map (·.2)=[hG tg X.env]:=by rfl):PS X (.Assign [tg] e pos) (Ft d g):=by
 intro a s b H D I h;refine wpAny_Assign_stores (aY (he a s b H _ I h) λv c ⟨x,m,l,f,i⟩=>?_) hs hw;rw[k];exact aY (j a c b m x v _ l f i) λ_ n q=>q
theorem O3{b:TE}(hN:X.N.Nodup)(j:X.N[i]?=aA x)(hx:Loc X.env.scope x)(he:PE X e b)(hs:iH e (aA (.Name x d)) pos.line X.env=pure aD:=by rfl)(k:X.fn x=aB\/X.env.scope.names.lookup x=aA .local:=by first|exact .inl rfl|exact .inr rfl|assumption) :
  PS X (.Assign [.Name x d] e pos) (Ft b (Y9 i)):=by
 intro a s c H D I h;refine wpAny_Assign_Name (aY (he a s c H _ I h) λv p ⟨y,n,m,f,g⟩=>?_) hs;exact Zy m hN j hx f (λo l=>⟨_,n,l,g⟩) k
end
section
variable {X:Cx}{pos:Pos}
noncomputable def Om(c:TT)(tb:TS):TS:=λD a H=>∃W:Nat->St->Hp->Prop,(∃m,W m a H)/\∀m a H,W m a H->
 c a H λb f=>if b=aB then ∃N:St->Hp->Prop,(∀d g,N d g->∃e,e<m/\W e d g)/\tb {D with nx:=N,ct:=N,bk:=D.nx} a f else D.nx a f
theorem UR{body:List bB}(r:nr (aR X.prog X.w) X.A X.env X.xe)(M:PT X c G)(O:fS X body tb):PS X (.While c body [] pos) (Om G tb):=by
 intro d s B H D I h;obtain⟨W,⟨L,E⟩,turn⟩:=h;refine wpAny_While (codeAny_whileLoop (λn K=>∃g z,Inv X d g z K/\W n g z) ?_ L ⟨B,H,I,E⟩);rintro n J ⟨e,y,P,C⟩;refine lV r (aY (M d J e y _ P (turn n e y C)) λb F ⟨x,u,k⟩=>?_);cases b with
 |true=>
  obtain⟨N,t,k⟩:=k;rw[if_pos rfl];refine lV r (aY (O d F e x _ u k) λf Q j=>?_);cases f with
  |next=>
   obtain⟨a,i,q,m⟩:=j;obtain⟨o,p,l⟩:=t a i m;exact⟨o,p,a,i,q,l⟩
  |cont=>
   obtain⟨a,i,q,m⟩:=j;obtain⟨o,p,l⟩:=t a i m;exact⟨o,p,a,i,q,l⟩
  |brk=>exact j
  |ret v=>exact j
 |false=>
  rw[if_neg eO];exact pO ⟨e,x,u,k⟩
end
structure It where
 go:Nat->Hp->Prop
 yld:Nat->Hp->V->Hp->Prop
 stop:Nat->Hp->Prop
noncomputable def Vg (X:Cx)(pins:List (aE×a_))(H:Hp)(b:aE):Prop:=
 H b=aF/\b≠X.env.locals/\b∉X.fs/\(b∈X.ex\/X.s₀.heap.objs.size<=b)/\(∀x c,X.env.cells.lookup x=aA c->c≠b)/\∀p∈X.pn++pins,p.1≠b
theorem Inv.fpOk{X:Cx}{d:St}{H:Hp}{b:aE}(I:Inv X pins d H s)(a:s.heap.objs.size<=b)(g:H' b=aF):Vg X pins H' b:=by
 refine⟨g,lW (dI I.lt a),I.nofs a,.inr (cV I.sz a),λx c e z=>?_,λp f z=>?_⟩
 .obtain⟨v,q⟩:=I.cell x c e;exact absurd (dI q.lt (by rw[z];exact a)) (ip _)
 .exact absurd (dI (bW (I.pin p f).1) (by rw[z];exact a)) (ip _)
structure fC(P:Program)(w:World)(K:PySem.W.Frag)(tg:aH)(J:It)(fp:List aE)(it:aE)(tn:Nat->aT->Prop):Prop where
 mem:it∈fp
 obj:∀i h,tn i h->∀b∈fp,∃o,h.get? b=aA o/\∀v,o.data≠.cell v
 keep:∀i h h',tn i h->(∀b∈fp,∀o,h.get? b=aA o->h'.get? b=aA o)->tn i h'
 item:∀(X:Cx),X.prog=P->X.w=w->X.K=K->X.calm=aB->∀(i:Nat) (pins:List (aE×a_)) (s:aW) (σ:St) (H:Hp) (E:aC->aW->Prop),Inv X pins σ H s->(∀b∈fp,Vg X pins H b)->tn i s.heap->J.go i H->
  wpAny (aR P w) X.A (lJ (.ref it)) (λr s1=>∃u,r=aA u/\
   wpAny (aR P w) X.A (nK tg (.ref it) u) (λ_ s2=>∃x H',Inv X pins σ H' s2/\RelV x u/\J.yld i H x H'/\tn (i+1) s2.heap/\∀b∈fp,H' b=aF) E s1) E s
 done:∀(X:Cx),X.prog=P->X.w=w->X.K=K->X.calm=aB->∀(i:Nat) (pins:List (aE×a_)) (s:aW) (σ:St) (H:Hp) (E:aC->aW->Prop),Inv X pins σ H s->(∀b∈fp,Vg X pins H b)->tn i s.heap->J.stop i H->
  wpAny (aR P w) X.A (lJ (.ref it)) (λr s1=>r=aF/\Inv X pins σ H s1) E s
 self:∀(A:dW) (i:Nat) (s:aW) (Q:aC->aW->Prop) (E:aC->aW->Prop),tn i s.heap->Q (.ref it) s->wpAny (aR P w) A (mo (.ref it)) Q E s
noncomputable abbrev TI:=St->Hp->(It->Hp->Prop)->Prop
noncomputable def rQ (X:Cx)(pins:List (aE×a_))(f:St)(tg:aH)(R:It->Hp->Prop)(a:aC)(e:aW):Prop:=
 ∃(it:aE) (fp:List aE) (d:Nat->aT->Prop) (J:It) (c:Hp),a=.ref it/\Inv X pins f c e/\fC X.prog X.w X.K tg J fp it d/\d 0 e.heap/\(∀b∈fp,Vg X pins c b)/\R J c
noncomputable def PI (X:Cx)(tg iter:aH)(c:TI):Prop:=
 ∀(a:List (aE×a_)) (s:aW) (b:St) (H:Hp) (R:It->Hp->Prop),Inv X a b H s->c b H R->
  wpAny (aR X.prog X.w) X.A (eval iter X.env) (λv d=>wpAny (aR X.prog X.w) X.A (mo v) (rQ X a b tg R) X.xe d) X.xe s
theorem yG(b:s.heap.get? it=aA o)(d:o.cls=.type n)(hd:o.data=.fields vs)
    (c:["enumerate", "zip", "dict_itemiterator", "dict_reverseitemiterator", "odict_iterator", "itertools.zip_longest", "itertools.pairwise"].contains n=aD) (a:Q () s):wpAny M A (nK tg (.ref it) u) Q E s:=by
  unfold nK
  cases tg <;> first
    |exact wpAny_pure a
    | (cases u <;> first
        |exact wpAny_pure a
        | (refine wpAny_bind (wpAny_load b ?_)
           rw[d, hd]
           show wpAny M A (if (["enumerate", "zip", "dict_itemiterator", "dict_reverseitemiterator", "odict_iterator", "itertools.zip_longest", "itertools.pairwise"].contains n&&vs[0]? == aA (cF _))=aB then _ else _) Q E s
           rw[if_neg (by intro h;rw[c, Dr] at h;cases h)]
           exact wpAny_pure a))
noncomputable def IQ (K:bH)(a:aE):It:=
 ⟨λi H=>∃xs x,f9 K H a xs/\xs[i]?=aA x,λi H x b=>b=H/\∀xs,f9 K H a xs->xs[i]?=aA x,λi H=>∃xs,f9 K H a xs/\xs.length<=i⟩
noncomputable def IP (K:bH)(a:aE):It:=
 ⟨λi H=>∃xs x,eS K H a xs/\xs[i]?=aA x,λi H x b=>b=H/\∀xs,eS K H a xs->xs[i]?=aA x,λi H=>∃xs,eS K H a xs/\xs.length<=i⟩
noncomputable def Itr(lo:Int)(n:Nat):It:=⟨λi _=>i<n,λi H x a=>a=H/\x=.int (lo+i),λi _=>n<=i⟩
theorem Wo{P:bZ}{K:bH}(a it:aE):fC P w K tg (IQ K a) [it] it (λi h=>h.IsListIter it a i) where
 mem:=by simp
 obj:=λi h st b g=>by
  have e:b=it:=by simpa using g
  subst e;obtain⟨o,e,c,d⟩:=st;exact⟨o,e,λv z=>by rw[d] at z;cases z⟩
 keep:=λi h n st k=>st.at λo e=>k it (by simp) o e
 item:=by
  intro X A hw B M i f s L H E I m st y;subst A hw B;obtain⟨xs,x,l,t⟩:=y;obtain⟨r,q,p,Q⟩:=I.list l;obtain⟨u,S,O⟩:=q.get t;obtain⟨J,G,T,F,D,C⟩:=m it (by simp);refine wpAny_pyNext_list_item st p.isList (x:=u) (by simpa using S) λn j N=>?_;have U:Inv X f L H {s with heap:=n}:=I.turned (t':=s.toks) (λb o g e=>(N.2 b g).trans e) J G F D C;obtain⟨o,e,c,d⟩:=id j;exact⟨u,rfl,yG (s:={s with heap:=n}) e c d (by decide) ⟨x,H,U,O,⟨rfl,λV R=>by rw[I.list_inj R l];exact t⟩,j,λb g=>(m b g).1⟩⟩
 done:=by
  intro X A hw B M i f s L H E I m st y;subst A hw B;obtain⟨xs,l,t⟩:=y;obtain⟨r,q,p,Q⟩:=I.list l;obtain⟨J,G,T,F,D,C⟩:=m it (by simp);have Y:=q.length;exact wpAny_pyNext_list_end (I.ok.hd M) st p.isList (by simp;lia) λn eb=>⟨rfl,I.turned (t':=s.toks) (λb o g e=>eb b o g e) J G F D C⟩
 self:=λ_ _ _ _ _ st h=>wpAny_pyIter_listiter st h
theorem JR{P:bZ}{K:bH}(a it:aE):fC P w K tg (IP K a) [it] it (λi h=>h.IsTupleIter it a i) where
 mem:=by simp
 obj:=λi h st b j=>by
  have e:b=it:=by simpa using j
  subst e;obtain⟨o,e,c,d⟩:=st;exact⟨o,e,λv z=>by rw[d] at z;cases z⟩
 keep:=λi h q st k=>st.at λo e=>k it (by simp) o e
 item:=by
  intro X A hw B M i f s L H E I n st y;subst A hw B;obtain⟨xs,x,m,t⟩:=y;obtain⟨g,r,p,Q⟩:=I.tuple m;obtain⟨u,S,O⟩:=r.get t;obtain⟨J,G,T,F,D,C⟩:=n it (by simp);refine wpAny_pyNext_tuple_item st (show s.heap.IsTuple a g.toArray from p) (x:=u) (by simpa using S) λq l N=>?_;have U:Inv X f L H {s with heap:=q}:=I.turned (t':=s.toks) (λb o j e=>(N.2 b j).trans e) J G F D C;obtain⟨o,e,c,d⟩:=id l;exact⟨u,rfl,yG (s:={s with heap:=q}) e c d (by decide) ⟨x,H,U,O,⟨rfl,λV R=>by rw[I.tuple_inj R m];exact t⟩,l,λb j=>(n b j).1⟩⟩
 done:=by
  intro X A hw B M i f s L H E I n st y;subst A hw B;obtain⟨xs,m,t⟩:=y;obtain⟨g,r,p,Q⟩:=I.tuple m;obtain⟨J,G,T,F,D,C⟩:=n it (by simp);have Y:=r.length;exact wpAny_pyNext_tuple_end (I.ok.hd M) st (show s.heap.IsTuple a g.toArray from p) (by simp;lia) λq eb=>⟨rfl,I.turned (t':=s.toks) (λb o j e=>eb b o j e) J G F D C⟩
 self:=λ_ _ _ _ _ st h=>wpAny_pyIter_tupleiter st h
end L2
namespace L2
open PySem PySem.Spec PyProof.Rows
section
variable {X:Cx}{tg:aH}
noncomputable def iRng2(c:TA):TI:=λa H R=>c a H λb d=>∃i j:Int,b=[.int i,.int j]/\(-(2 ^ 62)<=i/\i<2 ^ 62 /\ -(2 ^ 62)<=j/\j<2 ^ 62)/\R (Itr i (j-i).toNat) d
noncomputable def Mz (f:TI)(g:TG)(tb:TS):TS:=λD a H=>f a H λJ j=>∃W:Nat->Nat->St->Hp->Prop,(∃m,W 0 m a j)/\∀i m a H,W i m a H->
 (J.stop i H/\D.nx a H)\/(J.go i H/\∃N:St->Hp->Prop,(∀b c,N b c->∃e,e<m/\W (i+1) e b c)/\∀x c,J.yld i H x c->g x a c λd h=>tb {D with nx:=N,ct:=N,bk:=D.nx} d h)
noncomputable def Zg(fp:List aE)(h:aT):List (aE×a_):=fp.filterMap λb=>(h.get? b).map λo=>(b,o)
theorem wW(a:b∈fp)(e:h.get? b=aA o):(b,o)∈Zg fp h:=nS.mpr ⟨b,a,by rw[e];rfl⟩
theorem YB(a:p∈Zg fp h):p.1∈fp/\h.get? p.1=aA p.2:=by
 obtain⟨b,c,e⟩:=nS.mp a;cases q:h.get? b with
 |none=>rw[q] at e;cases e
 |some o=>
  rw[q] at e;have d:(b,o)=p:=bQ e;subst d;exact⟨c,q⟩
theorem Inv.pinned{a:St}(I:Inv X pins a H s)(i:∀b∈fp,Vg X pins H b)(h:∀b∈fp,∃o,s.heap.get? b=aA o/\∀v,o.data≠.cell v):Inv X (pins++Zg fp s.heap) a H s:=
 I.pins_of λp g=>(cM.mp g).elim (λz=>I.pin p (dR _ z)) λz=>by
  obtain⟨c,e⟩:=YB z;obtain⟨f0,k,j,_⟩:=i p.1 c;obtain⟨o,f,d⟩:=h p.1 c;rw[e] at f;cases f;exact⟨e,f0,k,j,d⟩
theorem Inv.unpinned{a:St}(I:Inv X (pins++d) a H s):Inv X pins a H s:=I.pins_of λp b=>I.pin p (dR _ (d9 _ b))
theorem NN{body:List bB}{tb:TS}(G:nr (aR X.prog X.w) X.A X.env X.xe)(hc:X.calm=aB)(hi:PI X tg iter wi)(hg:PG X tg g)(p:fS X body tb)
  (hs:∀x,lD iter X.env x=pure x:=by intro _;rfl):PS X (.For tg iter body [] pos) (Mz wi g tb):=by
 intro c s U H D I h;refine wpAny_For (aY (hi c s U H _ I h) λv s1 h1=>aY h1 λitv s2 h2=>?_) hs;obtain⟨it,fp,V,J,H2,e,I2,T,O,f2,W,⟨m0,w0⟩,turn⟩:=h2;subst e;have l:∀{y:Hp},(∀b∈fp,y b=aF)->∀b∈fp,Vg X c y b:=λhn b p=>⟨hn b p,(f2 b p).2⟩;refine codeAny_forLoop_any (λn s'=>∃i k y,Inv X c k y s'/\V i s'.heap/\(∀b∈fp,y b=aF)/\W i n k y) ?_ m0 ⟨0,U,H2,I2,O,λb p=>(f2 b p).1,w0⟩;rintro n Z ⟨i,j,L,I3,E,K,w3⟩;rcases turn i n j L w3 with⟨C,qn⟩|⟨go,N,hN,step⟩
 .refine lV G (aY (T.done X rfl rfl rfl hc i c Z j L X.xe I3 (l K) E C) λr s4 ⟨Q,I4⟩=>?_);subst Q;exact pO ⟨j,L,I4,qn⟩
 .refine lV G (aY (T.item X rfl rfl rfl hc i c Z j L X.xe I3 (l K) E go) λr s4 ⟨u,Q,h4⟩=>?_);subst Q;refine lV G (aY h4 λ_ Y ⟨x,H5,I5,r5,y5,B,R⟩=>?_);have S:=I5.pinned (l R) (T.obj _ _ B);refine lV G (aY (hg _ Y j H5 x u _ S r5 (step x H5 y5)) λ_ s6 ⟨M,H6,I6,q6⟩=>?_);refine lV G (aY (p _ s6 M H6 _ I6 q6) λf P z=>?_);have again:∀{a:St}{t:Hp},Inv X (c++Zg fp Y.heap) a t P->N a t->∃m,m<n/\∃i k y,Inv X c k y P/\V i P.heap/\(∀b∈fp,y b=aF)/\W i m k y:=λ{a t} q F=>by
   obtain⟨m',hm,w7⟩:=hN a t F;refine⟨m',hm,i+1,a,t,q.unpinned,T.keep _ _ _ B λb p o e=>(q.pin (b,o) (dR _ (dR _ (wW p e)))).1,λb p=>?_,w7⟩;obtain⟨o,e,d⟩:=T.obj _ _ B b p;exact (q.pin (b,o) (dR _ (dR _ (wW p e)))).2.1
  cases f with
  |next=>obtain⟨a,t,q,F⟩:=z;exact again q F
  |cont=>obtain⟨a,t,q,F⟩:=z;exact again q F
  |brk=>obtain⟨a,t,q,z⟩:=z;exact⟨a,t,q.unpinned,z⟩
  |ret v=>obtain⟨x7,a,t,q,r7,z⟩:=z;exact⟨x7,a,t,q.unpinned,r7,z⟩
end
end L2
namespace L2
open PySem PySem.Spec PyProof.Rows
noncomputable abbrev R2:=V->V->Hp->VK->Prop
noncomputable def dB (X:Cx)(f:aC->aC->Sem aC)(r:R2):Prop:=
 ∀(a:List (aE×a_)) (s:aW) (b:St) (H:Hp) (x y:V) (v u:aC) (Q:VK),Inv X a b H s->RelV x v->RelV y u->r x y H Q->
  wpAny (aR X.prog X.w) X.A (f v u) (EP X a b Q) X.xe s
noncomputable def IM (X:Cx)(f:aC->Sem aC)(r:V->Hp->VK->Prop):Prop:=
 ∀(a:List (aE×a_)) (s:aW) (b:St) (H:Hp) (x:V) (v:aC) (Q:VK),Inv X a b H s->RelV x v->r x H Q->
  wpAny (aR X.prog X.w) X.A (f v) (EP X a b Q) X.xe s
noncomputable def VE(X:Cx)(f:aC)(r:List V->Hp->VK->Prop):Prop:=
 ∀(a:List (aE×a_)) (s:aW) (b:St) (H:Hp) (xs:List V) (c:List aC) (Q:VK),Inv X a b H s->aU xs c->r xs H Q->
  wpAny (aR X.prog X.w) X.A (call f c) (EP X a b Q) X.xe s
noncomputable def rI (C:Int->Int->Prop)(g:Int->Int->V):R2:=λx y H Q=>∃i j,x=.int i/\y=.int j/\C i j/\Q (g i j) H
noncomputable def i8 (g:Int->Int->V):R2:=λx y H Q=>∃i j,x=.int i/\y=.int j/\Q (g i j) H
noncomputable def rU (g:Int->V):V->Hp->VK->Prop:=λx H Q=>∃i,x=.int i/\Q (g i) H
section
variable {X:Cx}
theorem oz{g:Int->Int->Int}
  (rule:∀(i j:Int) (t u:Tok) (s:aW) (Q:aC->aW->Prop) (E:aC->aW->Prop),C i j->Q (.int (g i j) s.toks) {s with toks:=s.toks+1}->wpAny (aR X.prog X.w) X.A (f (.int i t) (.int j u)) Q E s) :
  dB X f (rI C λi j=>.int (g i j)):=by
 intro a s k H x y v u Q I d c h;obtain⟨i,j,rfl,rfl,e,q⟩:=h;obtain⟨t,rfl⟩:=d;obtain⟨b,rfl⟩:=c;exact rule i j t b s _ _ e ⟨.int (g i j),H,I.tok _,⟨_,rfl⟩,q⟩
theorem t6{g:Int->Int->Int}
  (rule:∀(i j:Int) (t u:Tok) (s:aW) (Q:aC->aW->Prop) (E:aC->aW->Prop),Q (.int (g i j) s.toks) {s with toks:=s.toks+1}->wpAny (aR X.prog X.w) X.A (f (.int i t) (.int j u)) Q E s) :
  dB X f (i8 λi j=>.int (g i j)):=by
 intro a s e H x y v u Q I d c h;obtain⟨i,j,rfl,rfl,q⟩:=h;obtain⟨t,rfl⟩:=d;obtain⟨b,rfl⟩:=c;exact rule i j t b s _ _ ⟨.int (g i j),H,I.tok _,⟨_,rfl⟩,q⟩
theorem rp{g:Int->Int->Bool}
  (rule:∀(i j:Int) (t u:Tok) (s:aW) (Q:aC->aW->Prop) (E:aC->aW->Prop),Q (.bool (g i j)) s->wpAny (aR X.prog X.w) X.A (f (.int i t) (.int j u)) Q E s) :
  dB X f (i8 λi j=>.bl (g i j)):=by
 intro a s e H x y v u Q I d c h;obtain⟨i,j,rfl,rfl,q⟩:=h;obtain⟨t,rfl⟩:=d;obtain⟨b,rfl⟩:=c;exact rule i j t b s _ _ ⟨.bl (g i j),H,I,rfl,q⟩
noncomputable def LV(i j:Int):Prop:=0<=j/\j<=1000000/\i.natAbs<2 ^ 64
noncomputable def lh(i j:Int):Prop:=(-(2 ^ 64)<i/\i<2 ^ 64)\/(-(2 ^ 64)<j/\j<2 ^ 64)
theorem lh.ok(h:lh i j):IntMulOk i j:=by
 rcases h with⟨b,a⟩|⟨b,a⟩
 .exact .of_left (intBits_le_64 b a)
 .exact .of_right (intBits_le_64 b a)
theorem Ki(k:Nat):(0:Int)<=2 ^ k:=by
 rw[two_pow_cast];exact Int.natCast_nonneg _
theorem OI:dB X (fM .Add) (i8 λi j=>.int (i+j)):=t6 λ_ _ _ _ _ _ _ q=>add_int q
theorem Oq:dB X (fM .Sub) (i8 λi j=>.int (i-j)):=t6 λ_ _ _ _ _ _ _ q=>sub_int q
theorem OT:dB X (fM .Mult) (rI lh λi j=>.int (i*j)):=oz λ_ _ _ _ _ _ _ a q=>mul_int q a.ok
theorem O8:dB X (fM .Mod) (rI (λ_ j=>0<j) λi j=>.int (i % j)):=oz λi j _ _ _ _ _ a q=>by
 have b:(0:Int)<j:=a;exact mod_int' (by lia) (by rw[Int.fmod_eq_emod_of_nonneg i (by lia)];exact q)
theorem NY:dB X (fM .Pow) (rI LV λi j=>.int (i ^ j.toNat)):=oz λ_ _ _ _ _ _ _ a q=>pow_int_small a.1 a.2.1 a.2.2 q
theorem NI:dB X (fM .RShift) (rI (λ_ j=>0<=j) λi j=>.int (i / 2 ^ j.toNat)):=oz λi j _ _ _ _ _ a q=>
 rshift_int a (by rw[EH i (Ki _)];exact q)
theorem Pm:dB X (fM .BitAnd) (i8 λi j=>.int (Dq i j)):=t6 λ_ _ _ _ _ _ _ q=>and_int q
theorem unI{g:Int->Int}
  (rule:∀(i:Int) (t:Tok) (s:aW) (Q:aC->aW->Prop) (E:aC->aW->Prop),Q (.int (g i) s.toks) {s with toks:=s.toks+1}->wpAny (aR X.prog X.w) X.A (f (.int i t)) Q E s) :
  IM X f (rU λi=>.int (g i)):=by
 intro a s c H x v Q I b h;obtain⟨i,rfl,q⟩:=h;obtain⟨t,rfl⟩:=b;exact rule i t s _ _ ⟨.int (g i),H,I.tok _,⟨_,rfl⟩,q⟩
theorem OD:IM X (unaryOp .USub) (rU λi=>.int (-i)):=unI λ_ _ _ _ _ q=>neg_int q
end
noncomputable def rs:V->V->Bool
 |.non,.non=>aB|.non,.int _=>aB|.int _,.non=>aB|.non,.bl _=>aB|.bl _,.non=>aB|.non,.str _=>aB|.str _,.non=>aB
 |.int _,.int _=>aB|.bl _,.bl _=>aB|.str _,.str _=>aB|.byt _,.byt _=>aB
 |.int _,.str _=>aB|.str _,.int _=>aB|.bl _,.str _=>aB|.str _,.bl _=>aB
 |_,_=>aD
noncomputable def rEq:R2:=λx y H Q=>rs x y=aB/\Q (.bl (decide (x=y))) H
noncomputable def rNe:R2:=λx y H Q=>rs x y=aB/\Q (.bl (!decide (x=y))) H
theorem XG:decide (V.int i=V.int j)=(i==j):=by
 rw[nJ];simp
theorem UY:decide (V.bl i=V.bl j)=(i==j):=by
 rw[nJ];simp
theorem Y0:decide (V.str i=V.str j)=(i==j):=by
 rw[nJ];simp
theorem Xj:decide (V.byt i=V.byt j)=(i.toList==j.toList):=by
 rw[nJ];cases i;cases j;simp
section
variable {X:Cx}{b:aH}
theorem ze{a:St}{k b:Bool}(I:Inv X pins a H s)(q:Q (.bl k) H)(e:k=b):EP X pins a Q (.bool b) s:=by
 subst e;exact⟨.bl k,H,I,rfl,q⟩
theorem M4:dB X (dD .Eq) rEq:=by
 intro e s f H x y v u Q I d a h;obtain⟨c,q⟩:=h;cases x with
 |non=>
  cases d;cases y with
  |non=>cases a;exact LB (ze I q (by simp))
  |bl j=>cases a;exact LA (ze I q (by simp))
  |int j=>obtain⟨b,rfl⟩:=a;exact Lm (ze I q (by simp))
  |str j=>obtain⟨b,rfl⟩:=a;exact Ll (ze I q (by simp))
  |_=>exact absurd (show aD=aB from c) eO
 |bl i=>
  cases d;cases y with
  |non=>cases a;exact Lz (ze I q (by simp))
  |bl j=>cases a;exact eq_bool (ze I q UY)
  |str j=>obtain⟨b,rfl⟩:=a;exact Ly (ze I q (by simp))
  |_=>exact absurd (show aD=aB from c) eO
 |int i=>
  obtain⟨t,rfl⟩:=d;cases y with
  |non=>cases a;exact Lj (ze I q (by simp))
  |int j=>obtain⟨b,rfl⟩:=a;exact eq_int (ze I q XG)
  |str j=>obtain⟨b,rfl⟩:=a;exact Li (ze I q (by simp))
  |_=>exact absurd (show aD=aB from c) eO
 |str i=>
  obtain⟨t,rfl⟩:=d;cases y with
  |non=>cases a;exact Lh (ze I q (by simp))
  |bl j=>cases a;exact Lx (ze I q (by simp))
  |int j=>obtain⟨b,rfl⟩:=a;exact Lg (ze I q (by simp))
  |str j=>obtain⟨b,rfl⟩:=a;exact eq_str (ze I q Y0)
  |_=>exact absurd (show aD=aB from c) eO
 |byt i=>
  obtain⟨t,rfl⟩:=d;cases y with
  |byt j=>obtain⟨b,rfl⟩:=a;exact PySem.W.eq_bytes (ze I q Xj)
  |_=>exact absurd (show aD=aB from c) eO
 |_=>cases y<;>exact absurd (show aD=aB from c) eO
theorem Me:dB X (dD .NotEq) rNe:=by
 intro e s f H x y v u Q I d a h;obtain⟨c,q⟩:=h;cases x with
 |non=>
  cases d;cases y with
  |non=>cases a;exact Lw (ze I q (by simp))
  |bl j=>cases a;exact Lu (ze I q (by simp))
  |int j=>obtain⟨b,rfl⟩:=a;exact Lf (ze I q (by simp))
  |str j=>obtain⟨b,rfl⟩:=a;exact Le (ze I q (by simp))
  |_=>exact absurd (show aD=aB from c) eO
 |bl i=>
  cases d;cases y with
  |non=>cases a;exact Ls (ze I q (by simp))
  |bl j=>cases a;exact ne_bool (ze I q (congrArg not UY))
  |str j=>obtain⟨b,rfl⟩:=a;exact Lr (ze I q (by simp))
  |_=>exact absurd (show aD=aB from c) eO
 |int i=>
  obtain⟨t,rfl⟩:=d;cases y with
  |non=>cases a;exact Ld (ze I q (by simp))
  |int j=>obtain⟨b,rfl⟩:=a;exact ne_int (ze I q (congrArg not XG))
  |str j=>obtain⟨b,rfl⟩:=a;exact Lc (ze I q (by simp))
  |_=>exact absurd (show aD=aB from c) eO
 |str i=>
  obtain⟨t,rfl⟩:=d;cases y with
  |non=>cases a;exact LH (ze I q (by simp))
  |bl j=>cases a;exact Lq (ze I q (by simp))
  |int j=>obtain⟨b,rfl⟩:=a;exact LG (ze I q (by simp))
  |str j=>obtain⟨b,rfl⟩:=a;exact ne_str (ze I q (congrArg not Y0))
  |_=>exact absurd (show aD=aB from c) eO
 |byt i=>
  obtain⟨t,rfl⟩:=d;cases y with
  |byt j=>obtain⟨b,rfl⟩:=a;exact PySem.W.ne_bytes (ze I q (congrArg not Xj))
  |_=>exact absurd (show aD=aB from c) eO
 |_=>cases y<;>exact absurd (show aD=aB from c) eO
theorem M0:dB X (dD .Lt) (i8 λi j=>.bl (decide (i<j))):=rp λ_ _ _ _ _ _ _ q=>rW q
theorem MH:dB X (dD .LtE) (i8 λi j=>.bl (decide (i<=j))):=rp λ_ _ _ _ _ _ _ q=>le_int q
theorem ML:dB X (dD .Gt) (i8 λi j=>.bl (decide (j<i))):=rp λ_ _ _ _ _ _ _ q=>CA q
theorem Nv:dB X (dD .GtE) (i8 λi j=>.bl (decide (j<=i))):=rp λ_ _ _ _ _ _ _ q=>ge_int q
theorem U0:dB X (dD .In) (λx y H Q=>∃i j,x=.str i/\y=.str j/\Q (.bl (!(nT j i 0 j.length 1).isEmpty)) H):=by
 intro a s d H x y v u Q I c b h;obtain⟨i,j,rfl,rfl,q⟩:=h;obtain⟨t,rfl⟩:=c;obtain⟨e,rfl⟩:=b;exact in_str (ze I q rfl)
theorem Nr:dB X (dD .Is) (λx y H Q=>y=.non/\Q (.bl (decide (x=.non))) H):=by
 intro b s d H x y v u Q I a c h;obtain⟨rfl,q⟩:=h;cases c;refine is_none_gen (ze I q ?_)
 cases x<;>first
  |(cases a;rfl)
  |(obtain⟨t,rfl⟩:=a;rfl)
theorem P2:dB X (dD .IsNot) (λx y H Q=>y=.non/\Q (.bl (!decide (x=.non))) H):=by
 intro b s d H x y v u Q I a c h;obtain⟨rfl,q⟩:=h;cases c;refine isnot_none_gen (ze I q ?_)
 cases x<;>first
  |(cases a;rfl)
  |(obtain⟨t,rfl⟩:=a;rfl)
theorem V9:dB X (dD .NotIn) (λx y H Q=>∃i j,x=.str i/\y=.str j/\Q (.bl (!(!(nT j i 0 j.length 1).isEmpty))) H):=by
 intro a s d H x y v u Q I c b h;obtain⟨i,j,rfl,rfl,q⟩:=h;obtain⟨t,rfl⟩:=c;obtain⟨e,rfl⟩:=b;exact notIn_str (ze I q rfl)
theorem HD(b:aH)(h:op≠.In:=by decide)(a:op≠.NotIn:=by decide):sx op b=aD:=by
 have d:(op==CmpOp.In)=aD:=by cases op<;>first|rfl|exact absurd rfl h
 have c:(op==CmpOp.NotIn)=aD:=by cases op<;>first|rfl|exact absurd rfl a
 cases b<;>simp[sx,d,c]
theorem ZW:(sizeLine:Nat)<2 ^ 63:=by rw[eZ];decide
theorem Kr:dB X (fM .Add) (λx y H Q=>∃i j,x=.str i/\y=.str j/\i.length+j.length<=sizeLine/\Q (.str (i++j)) H):=by
 intro a s f H x y v u Q I d c h;obtain⟨i,j,rfl,rfl,e,q⟩:=h;obtain⟨t,rfl⟩:=d;obtain⟨b,rfl⟩:=c;exact add_str (λb g=>⟨.str (i++j),H,I.tok _,⟨_,rfl⟩,q⟩) e
theorem vals1(r:aU [x] us):∃u,us=[u]/\RelV x u:=by
 cases r with
 |cons b a=>cases a;exact⟨_,rfl,b⟩
theorem vals2(r:aU [x,y] us):∃u d,us=[u,d]/\RelV x u/\RelV y d:=by
 cases r with
 |cons e c=>
  cases c with
  |cons b a=>cases a;exact⟨_,_,rfl,e,b⟩
theorem W4:VE X (.type "int") (λxs H Q=>(∃i,xs=[.int i]/\Q (.int i) H)\/∃k,xs=[.bl k]/\Q (.int (if k then 1 else 0)) H):=by
 intro a s c H xs d Q I r h;rcases h with⟨i,rfl,q⟩|⟨k,rfl,q⟩
 .obtain⟨u,rfl,t,rfl⟩:=vals1 r;exact call_int_int ⟨.int i,H,I,⟨_,rfl⟩,q⟩
 .obtain⟨u,rfl,b⟩:=vals1 r;cases b;exact call_int_bool ⟨.int (if k then 1 else 0),H,I.tok _,⟨_,rfl⟩,q⟩
end
end L2
namespace L2
open PySem PySem.Spec PyProof.Rows
structure fT(h:aT)(x dx C:aE)(mA:aG->Option aC):Prop where
 obj:h.get? x=aA (lB C dx)
 ns:h.Ns1 dx mA
 ne:dx≠x
theorem Uy{h:aT}(n:h.Ns1 dx d):∃od,h.get? dx=aA od/\∀name,pj name od=aA (d name):=by
 obtain⟨o,es,ep,f,hd,i,_,g⟩:=n;refine⟨o,f,λname=>?_⟩;have e:=g name;unfold nsFind findBy at e;rw[<-Ed] at e;unfold pj;rw[hd];dsimp only;split
 .rename_i y q;rw[q] at e;exact congrArg aA e
 .rename_i q;rw[q] at e;have a:es.toList.any (·.refKey)=aD:=by
   rw[D1];intro y c;obtain⟨z,t,b⟩:=i y (Ek.mp c);simp[DictEntry.refKey,b]
  have j:¬es.toList.any (·.refKey)=aB:=by rw[a];exact eO
  rw[if_neg j];exact congrArg aA e
theorem fT.look(I:fT h x dx C d):∃od,Do h x (lB C dx) C (aA od)/\∀name,pj name od=aA (d name):=
 let ⟨od,a,b⟩:=Uy I.ns
 ⟨od,⟨I.obj,rfl,rfl,a⟩,b⟩
section
variable {prog:Program}{w:World}{A:Around}{E:aC->Shared->Prop}{s:Shared}{K:PySem.W.Frag}{x dx C f:aE}{mA:aG->Option aC}{name:aG}{v:aC}
theorem la(X:K.In s.heap)(I:fT s.heap x dx C mA)(f:nQ K C name=aB)(e:iT K C=aB)
  (g:cD K (.ref C) name=aA aF) (b:mA name=aA v) (a:Dn v=aB) (h:Q v {s with toks:=s.toks+1}) :
  wpAny (aR prog w) A (getAttr (.ref x) name d) Q E s:=by
 obtain⟨i,J,c⟩:=I.look;exact PySem.W.get_value X J (nN f).1 (PySem.W.findObj_own e g rfl (by rw[c,b])) a h
theorem To(X:K.In s.heap)(I:fT s.heap x dx C mA)(a:nQ K C name=aB)
  (g:cD K (.ref C) name=aA (aA (.ref f))) (d:sF K (.ref f)=aB) (c:mA name=aF) (h:Q (.ref f,[.ref x]) s) :
  wpAny (aR prog w) A (rY (.ref x) name j) Q E s:=by
 obtain⟨b,J,e⟩:=I.look;exact PySem.W.method_fn X J (nN a).1 (nN a).2 g (beq_iff_eq.mp d) (by show (pj name b).map (·.isSome)=aA aD;rw[e,c];rfl) h
theorem RX(X:K.In s.heap)(I:fT s.heap x dx C mA)
  (hs:cD K (.ref C) "__setattr__"=aA (aA (.builtin "object.__setattr__"))) (l:sU K C=aB) (k:sT K C name=aA aF) (m:iT K C=aB)
  (hw:sG mA ns) (hsz:ns.length<=sizeLine)
  (h:∀h',fT h' x dx C (λy=>if y=name then aA v else mA y)->fN dx s.heap h'->Q () {s with heap:=h',toks:=s.toks+2}) :
  wpAny (aR prog w) A (setAttr (.ref x) name v) Q E s:=by
 obtain⟨q,J,u⟩:=I.look;refine D0 X J hs (PySem.W.osa_open (s:={s with toks:=s.toks+1}) (r:=aF) X J l k λb=>?_);obtain⟨cd,n,g⟩:=ti m;have j:s.heap.get? x=aA ⟨.ref C,aA dx,.plain,#[]⟩:=I.obj;refine wpAny_bind (wpAny_pure (wpAny_bind (wpAny_bind (wpAny_loadPart j (wpAny_bind (mQ (s:={s with toks:=s.toks+1}) (tP X n) ?_))))));rw[g];refine wpAny_pure (a:=aA dx) (wpAny_bind (wpAny_pure (wpAny_bind ?_)));refine wpAny_nsSet1 (s:={s with toks:=s.toks+1}) I.ns λh' d c=>?_;obtain⟨t,o,p,e,f,i⟩:=d.count (Cv name v hw);refine wpAny_bind (Dm e (by rw[f];exact Dl (cV i (by rw[eG];lia))) ?_);exact wpAny_pure (h _ ⟨(c.2 _ (c7 I.ne)).trans I.obj,d,I.ne⟩ c)
theorem VW{R:ni->aW->Prop}(X:K.In s.heap)(b:nk K C=aB)
  (c:cD K (.ref C) "__init__"=aA (aA (.ref f))) (e:nl K (.ref f)=aA (.type "function"))
  (h:fE (aR prog w) (A.under (.builtin "type.__call__" ⟨.ref C::vs,j⟩)) (.call (.ref f) ⟨.ref (s.heap.objs.size+1)::vs,j⟩) (PySem.W.InitBack (s.heap.objs.size+1) R)
   {s with heap:=(s.heap.push iZ).push (lB C s.heap.objs.size)}) :
  fE (aR prog w) A (.call (.ref C) ⟨vs,j⟩) R s:=by
 obtain⟨i,g,d,t,os⟩:=s;exact PySem.W.make_core (PySem.W.makes_of X b) (o9 X c) (λa=>PySem.W.bind_fn X a e) (.inl rfl) h
end
noncomputable def wO(f:aG)(v:V):List (aG×V)->List (aG×V)
 |[]=>[(f,v)]
 |(g,x)::r=>if g=f then (g,v)::r else (g,x)::wO f v r
theorem yA(f g:aG)(v:V):∀fs:List (aG×V),(wO f v fs).lookup g=if g=f then aA v else fs.lookup g
 |[]=>by
  show gE g [(f,v)]=_;by_cases h:g=f
  .have a:(g==f)=aB:=beq_iff_eq.mpr h;simp only[gE,a,if_pos h]
  .have a:(g==f)=aD:=beq_eq_false_iff_ne.mpr h;simp only[gE,a,if_neg h]
 |(k,x)::r=>by
  have ih:=yA f g v r;rw[show wO f v ((k,x)::r)=(if k=f then (k,v)::r else (k,x)::wO f v r) from rfl];by_cases b:k=f
  .rw[if_pos b];by_cases h:g=k
   .have a:(g==k)=aB:=beq_iff_eq.mpr h;simp only[gE,a,if_pos (h.trans b)]
   .have a:(g==k)=aD:=beq_eq_false_iff_ne.mpr h;simp only[gE,a,if_neg (λe:g=f=>h (e.trans b.symm))]
  .rw[if_neg b];by_cases h:g=k
   .have a:(g==k)=aB:=beq_iff_eq.mpr h;simp only[gE,a,if_neg (λe:g=f=>b (h.symm.trans e))]
   .have a:(g==k)=aD:=beq_eq_false_iff_ne.mpr h;simp only[gE,a];exact ih
theorem x_(f:aG)(v:V):∀fs:List (aG×V),f∈(wO f v fs).map (·.1)/\∀g,g∈fs.map (·.1)->g∈(wO f v fs).map (·.1)
 |[]=>⟨by simp[wO],λg h=>by simp at h⟩
 |(k,x)::r=>by
  obtain⟨c,b⟩:=x_ f v r;rw[show wO f v ((k,x)::r)=(if k=f then (k,v)::r else (k,x)::wO f v r) from rfl];by_cases a:k=f
  .rw[if_pos a];subst a;exact⟨by simp,λg h=>by simpa using h⟩
  .rw[if_neg a];refine⟨?_,λg h=>?_⟩
   .rw[eW];exact eH _ c
   .rw[eW] at h ⊢;rcases dG.mp h with e|e
    .exact dG.mpr (.inl e)
    .exact eH _ (b g e)
theorem yz(f:aG)(v:V):∀fs:List (aG×V),(wO f v fs).length<=fs.length+1
 |[]=>by simp[wO]
 |(k,x)::r=>by
  have ih:=yz f v r;rw[show wO f v ((k,x)::r)=(if k=f then (k,v)::r else (k,x)::wO f v r) from rfl];by_cases a:k=f
  .rw[if_pos a,eG,eG];lia
  .rw[if_neg a,eG,eG];lia
theorem cL.some_of(r:cL (aA v) o):∃u,o=aA u/\RelV v u:=by
 cases o with
 |none=>exact (show False from r).elim
 |some u=>exact⟨u,rfl,r⟩
theorem cL.none_of(r:cL aF o):o=aF:=by
 cases o with
 |none=>rfl
 |some u=>exact (show False from r).elim
theorem Uz(r:RelV v u):Dn u=aB:=by
 cases v with
 |non=>cases (show u=dP from r);rfl
 |bl b=>cases (show u=lu b from r);rfl
 |int i=>obtain⟨t,e⟩:=(show ∃t,u=nt i t from r);cases e;rfl
 |str x=>obtain⟨t,e⟩:=(show ∃t,u=o5 x t from r);cases e;rfl
 |byt b=>obtain⟨t,e⟩:=(show ∃t,u=CL b t from r);cases e;rfl
 |flt b=>obtain⟨t,e⟩:=(show ∃t,u=CJ b t from r);cases e;rfl
 |ref a=>cases (show u=b9 a from r);rfl
 |ty n=>cases (show u=ny n from r);rfl
section
variable {P:Program}{w:World}{H:Hp}{h:aT}{a C dx:aE}{fs:List (aG×V)}
theorem xt(hok:c_ P w H h)(e:H a=aA (.ins C dx fs)):∃g,fT h a dx C g/\(∀f,cL (fs.lookup f) (g f))/\sG g (fs.map (·.1))/\fs.length<=1000/\H dx=aA (.own a):=by
 obtain⟨d,z,c,b,g,n,r,q⟩:=(show a8 P w H h a (.ins C dx fs) from hok a _ e);exact⟨g,⟨b,n,c⟩,r,q,z,d⟩
end
structure fV(K:PySem.W.Frag)(C:aE):Prop where
 pg:nQ K C lP=aB
 hd:iT K C=aB
 po:sU K C=aB
 sa:cD K (.ref C) "__setattr__"=aA (aA (.builtin "object.__setattr__"))
theorem fV.get{K:bH}(c:fV K C)(f:aG):nQ K C f=aB:=c.pg
noncomputable def b_(K:bH)(C:aE)(f:aG):Prop:=cD K (.ref C) f=aA aF
theorem b_.taker{K:bH}(n:b_ K C f):sT K C f=aA aF:=by
 unfold sT;rw[show cD K (.ref C) f=aA aF from n];rfl
structure ml(K:PySem.W.Frag)(C:aE)(m:aG)(f:aE):Prop where
 at_:cD K (.ref C) m=aA (aA (.ref f))
 fn:sF K (.ref f)=aB
 kp:dU K (.ref f)=aB
section
variable {X:Cx}{pins:List (aE×a_)}{σ:St}{H:Hp}{s:Shared}{a C dx:aE}{fs:List (aG×V)}{f:aG}{v:V}{A:Around}{E:aC->Shared->Prop}
theorem uI(I:Inv X pins σ H s)(e:H a=aA (.ins C dx fs))(c:fV X.K C)(n:b_ X.K C f)(l:fs.lookup f=aA v)
  (h:∀u d,Inv X pins σ H d->RelV v u->Q u d):wpAny (aR X.prog X.w) A (getAttr (.ref a) f b) Q E s:=by
 obtain⟨i,O,r,_,_,_⟩:=xt I.hok e;obtain⟨u,j,g⟩:=cL.some_of (v:=v) (o:=i f) (by rw[<-l];exact r f);exact la I.kIn O (c.get f) c.hd n j (Uz g) (h u _ (I.tok _) g)
theorem JN(I:Inv X pins σ H s)(e:H a=aA (.ins C dx fs))(c:fV X.K C)(k:ml X.K C m g)(l:fs.lookup m=aF)
  (h:Q (.ref g,[.ref a]) s):wpAny (aR X.prog X.w) A (rY (.ref a) m j) Q E s:=by
 obtain⟨b,O,r,_,_,_⟩:=xt I.hok e;have d:b m=aF:=cL.none_of (by rw[<-l];exact r m);exact To I.kIn O (c.get m) k.at_ k.fn d h
theorem X3(I:Inv X pins σ H s)(e:H a=aA (.ins C dx fs))(c:fV X.K C)(n:b_ X.K C f)(G:fs.length<1000)(p:RelV y u)
  (h:∀j,Inv X pins σ (aX H a (.ins C dx (wO f y fs))) j->Q () j):wpAny (aR X.prog X.w) A (setAttr (.ref a) f u) Q E s:=by
 obtain⟨k,O,r,i,_,l⟩:=xt I.hok e;have t:(fs.map (·.1)).length<=sizeLine:=by rw[eN,eZ];lia
 refine RX I.kIn O c.sa c.po n.taker c.hd i t λD d m=>h _ ?_;have hd:∃o,D.get? dx=aA o:=let ⟨o,_,_,F,_⟩:=d.ns;⟨o,F⟩;refine I.write (x:=a) (e:=dx) (by rw[e];exact fX) (.inr l) (λb q B z=>(m.2 b B).trans z) hd ?_;refine⟨by rw[z6 O.ne];exact l,?_,O.ne,d.obj,_,d.ns,λg=>?_,λg v=>?_⟩
 .have:=yz f y fs;lia
 .show cL ((wO f y fs).lookup g) (if g=f then aA u else k g);rw[yA];by_cases q:g=f
  .rw[if_pos q,if_pos q];exact p
  .rw[if_neg q,if_neg q];exact r g
 .by_cases q:g=f
  .rw[q];exact (x_ f y fs).1
  .refine (x_ f y fs).2 g (i g λz=>v ?_);show (if g=f then aA u else k g)=aF;rw[if_neg q];exact z
theorem Inv.made(I:Inv X pins σ H s):Inv X pins σ (aX (aX H s.heap.objs.size (.own (s.heap.objs.size+1))) (s.heap.objs.size+1) (.ins C s.heap.objs.size []))
  {s with heap:=(s.heap.push iZ).push (lB C s.heap.objs.size)}:=by
 have c:(s.heap.push iZ).get? s.heap.objs.size=aA iZ:=dQ s.heap rfl;have g:((s.heap.push iZ).push (lB C s.heap.objs.size)).get? (s.heap.objs.size+1)=aA (lB C s.heap.objs.size):=by
  have:=dQ (s.heap.push iZ) (o:=lB C s.heap.objs.size) rfl;rwa[lT] at this
 have f:(s.heap.push iZ).Ns s.heap.objs.size (λ_=>aF):=⟨iZ,#[],_,c,rfl,(λe he=>absurd he (by simp)),λ_=>rfl⟩;have h:=I.laid (a:=s.heap.objs.size) (o:=.own (s.heap.objs.size+1)) (h':=s.heap.push iZ) (t':=s.toks) (λb u q=>bN _ q) (bG _) ⟨_,c⟩;refine h.laid (a:=s.heap.objs.size+1) (o:=.ins C s.heap.objs.size []) (t':=s.toks) (λb u q=>bN _ q) (mF (lT _ _)) ?_;have ne:s.heap.objs.size≠s.heap.objs.size+1:=dF (iY _);refine⟨by rw[z6 ne,z4],gQ _,ne,g,λ_=>aF,(DZ f).at λo q=>bN _ q,λ_=>fX,λy d=>absurd rfl d⟩
theorem PJ{env:Env}{e:aH}{f:aG}(a:lY e f env (eval e env)=eval e env)
  (h:wpAny (aR prog w) A (eval e env) (λo d=>wpAny (aR prog w) A (getAttr o f aB) Q E d) E s):wpAny (aR prog w) A (eval (.Attribute e f pos) env) Q E s:=
 Attribute_any_ h (by rw[arm_eval_Attribute,a])
end
noncomputable def Mn (K:bH)(d:TE)(f:aG):TE:=λc H Q=>d c H λx b=>∃a C dx fs v,x=.ref a/\b a=aA (.ins C dx fs)/\fV K C/\b_ K C f/\fs.lookup f=aA v/\Q v b
noncomputable def sFld (K:bH)(e d:TE)(f:aG):TS:=λD b H=>d b H λy g=>e b g λx c=>∃a C dx fs,x=.ref a/\c a=aA (.ins C dx fs)/\fV K C/\b_ K C f/\fs.length<1000/\
 D.nx b (aX c a (.ins C dx (wO f y fs)))
section
variable {X:Cx}{o e value:aH}{f:aG}{pos pos':Pos}{ta tv:TE}
theorem No(he:PE X e ta)(j:lY e f X.env (eval e X.env)=eval e X.env):PE X (.Attribute e f pos) (Mn X.K ta f):=by
 intro b s d H Q I h;refine PJ j (aY (he b s d H _ I h) λu t ⟨x,o,m,g,a,C,dx,fs,v,ex,ea,c,n,l,q⟩=>?_);subst ex;obtain rfl:u=b9 a:=g;exact uI m ea c n l λp r k i=>⟨v,o,k,i,q⟩
theorem OB(p:PE X o ta)(m:PE X value tv)(hs:iH value (aA (.Attribute o f pos')) pos.line X.env=pure aD):PS X (.Assign [.Attribute o f pos'] value pos) (sFld X.K ta tv f):=by
 intro b s d H D I h;refine plainObj_wpAny_Assign_Attribute (aY (m b s d H _ I h) λu e ⟨y,w,v,g,q⟩=>aY (p b e d w _ v q) λk A ⟨x,B,t,i,a,C,dx,fs,ex,ea,c,n,l,j⟩=>?_) hs;subst ex;obtain rfl:k=b9 a:=i;exact X3 t ea c n l g λz r=>⟨d,_,r,j⟩
end
end L2
namespace L2
open PySem PySem.Spec PyProof.Rows
structure bU(k:Nat)(A:Around):Prop where
 hd:A.handled=aF
 dp:A.depth+3*k+5<recursionLimit
 un:A.units+16*k+200<cLine
theorem bU.mono(r:bU k A)(h:j<=k):bU j A:=⟨r.hd,by have:=r.dp;lia,by have:=r.un;lia⟩
theorem bU.deeper(r:bU (k+1) A)(env:Env):bU k (A.deeper env):=
 ⟨r.hd,by have:=r.dp;show A.depth+1+3*k+5<_;lia,by have:=r.un;show A.units+3+16*k+200<_;lia⟩
theorem K6{A:dW}:(A.under (.builtin "type.__call__" ⟨.ref C::us,d⟩)).depth=A.depth+1:=by
 first|rfl|simp[sE,Code.weight,Code.isCreation,Code.isGuard,Code.isCaller,CI,sD,guardIds]
theorem Ke{A:dW}:(A.under (.builtin "type.__call__" ⟨.ref C::us,d⟩)).units=A.units+1:=by
 first|rfl|simp[sE,Code.cUnits,CI,sD]
theorem bU.make(r:bU (k+1) A)(C:aE)(us:List aC)(a:List (aG×aC)):bU k (A.under (.builtin "type.__call__" ⟨.ref C::us,a⟩)):=
 ⟨r.hd,by have:=r.dp;rw[K6];omega,by have:=r.un;rw[Ke];omega⟩
theorem bU.depth(r:bU k A):A.depth<recursionLimit:=by have:=r.dp;lia
noncomputable def L4:TA:=λ_ H Q=>Q [] H
noncomputable def Nz(c:TE)(b:TA):TA:=λa H Q=>c a H λx e=>b a e λxs d=>Q (x::xs) d
section
variable {X:Cx}{e:aH}{es:List aH}{te:TE}{t:TA}{pos:Pos}
theorem zC:PA X [] L4:=λ_ _ _ _ H Q I h=>pE ⟨[],H,I,.nil,h⟩
theorem zj(l:PE X e te)(k:PA X es t)(hs:dC (e::es) X.env=(aD,eval e X.env)::dC es X.env:=by rfl):PA X (e::es) (Nz te t):=by
 intro b a s c H Q I h;rw[hs];show wpAny _ _ (spliced ((aD,eval e X.env)::eU b (dC es X.env))) _ _ s;refine l9 (aY (l a s c H _ I h) λu d ⟨x,p,n,g,j⟩=>?_);exact aY (k b a d c p _ n j) λq r ⟨xs,o,m,f,i⟩=>⟨x::xs,o,m,.cons g f,i⟩
noncomputable def LZ (t:TA):TE:=λb H Q=>t b H λxs a=>xs.length<=sizeLine/\∀p,a p=aF->Q (.ref p) (aX a p (.tup xs))
noncomputable def L1 (t:TA):TE:=λb H Q=>t b H λxs a=>xs.length<=sizeLine/\∀p,a p=aF->Q (.ref p) (aX a p (.lst xs))
theorem Hs{j}(h:PA X es t):PE X (.Tuple es j pos) (LZ t):=by
 intro a s g H Q I k;refine wpAny_Tuple_spliced (aY (h pos a s g H _ I k) λi c ⟨xs,f,d,r,z,q⟩=>⟨by rw[<-r.length];exact z,?_⟩);have l:f c.heap.objs.size=aF:=d.hok.fresh (bG _);refine⟨.ref c.heap.objs.size,aX f c.heap.objs.size (.tup xs),d.laid (t':=c.toks) (λb u e=>bN _ e) (bG _) ?_,rfl,q _ l⟩;exact⟨z,i,r,⟨_,dQ _ rfl,rfl,_,rfl⟩⟩
theorem HB(h:PA X es t):PE X (.List es pos) (L1 t):=by
 intro a s g H Q I j;refine wpAny_List_spliced (aY (h pos a s g H _ I j) λi c ⟨xs,f,d,r,z,q⟩=>⟨by rw[<-r.length];exact z,?_⟩);have k:f c.heap.objs.size=aF:=d.hok.fresh (bG _);refine⟨.ref c.heap.objs.size,aX f c.heap.objs.size (.lst xs),d.laid (t':=c.toks) (λb u e=>bN _ e) (bG _) ?_,rfl,q _ k⟩;exact⟨z,i,0,r,dQ _ rfl⟩
end
noncomputable abbrev Sp:=List V->Hp->VK->XK->Prop
noncomputable abbrev ng:=List Env->Hp->aW->XK->aC->aW->Prop
structure dT(P:Program)(w:World)(K:PySem.W.Frag)(mg:aG->Option aC)(base:aT)(A:Around)(outer:List Env)(s:Shared)(H:Hp):Prop where
 frames:A.frames=aA outer
 mod:Mod K mg base
 bs:∀b o,base.get? b=aA o->s.heap.get? b=aA o/\H b=aF
 bsz:base.objs.size<=s.heap.objs.size
 funs:s.heap.FunFrames base outer
 frf:∀b∈eJ outer,H b=aF
 hok:c_ P w H s.heap
 bare:iP s.gens
inductive CE(outer:List Env)(P:Program)(w:World)(H:Hp)(s:Shared)(Q:VK)(u:aC)(s':Shared):Prop where
 |mk (v:V) (H':Hp) (o:s'.os=s.os) (b:iP s'.gens) (n:Un (eJ outer) [] H H' s.heap s'.heap) (k:c_ P w H' s'.heap) (r:RelV v u) (q:Q v H')
noncomputable def CR (CX:ng)(outer:List Env)(P:bZ)(w:cX)(H:Hp)(s:aW)(Q:VK)(E:XK)(r:ni)(a:aW):Prop:=
 match r with
 |.ok (.ret u)=>CE outer P w H s Q u a
 |.ok _=>False
 |.error e=>CX outer H s E e a
structure bI(P:Program)(w:World)(K:PySem.W.Frag)(mg:aG->Option aC)(base:aT)(CX:ng)(k:Nat)(f:aE)(fd:FuncData)(ps:List aG)(sp:Sp):Prop where
 len:∀vs H Q E,sp vs H Q E->vs.length=ps.length
 run:∀(A:dW) (outer:List Env) (s:aW) (H:Hp) (args:Args) (us:List aC) (vs:List V) (Q:VK) (E:XK),bU k A->dT P w K mg base A outer s H->mu s fd args (ps.zip us)->aU vs us->sp vs H Q E->
  fE (aR P w) A (.call (.ref f) args) (CR CX outer P w H s Q E) s
theorem bI.imp{P:bZ}{K:bH}(F:bI P w K mg base CX k f fd ps sp)
  (h:∀vs H Q E,d vs H Q E->sp vs H Q E):bI P w K mg base CX k f fd ps d:=
 ⟨λvs H Q E q=>F.len vs H Q E (h _ _ _ _ q),λA outer s H args us vs Q E b he c a hs=>F.run A outer s H args us vs Q E b he c a (h _ _ _ _ hs)⟩
theorem dT.make{P:bZ}{K:bH}(e:dT P w K mg base A outer s H)(C:aE)(us:List aC)(a:List (aG×aC)) :
  dT P w K mg base (A.under (.builtin "type.__call__" ⟨.ref C::us,a⟩)) outer s H:=⟨by first|exact e.frames|(simpa[sE,Code.envs,sD,pushEnvs] using e.frames),e.mod,e.bs,e.bsz,e.funs,e.frf,e.hok,e.bare⟩
section
variable {X:Cx}{pins:List (aE×a_)}{σ:St}{H:Hp}{s s':Shared}
theorem Inv.env0(I:Inv X pins σ H s):dT X.prog X.w X.K X.mg X.base X.A X.stack s H:=
 ⟨I.ok.frames,I.ok.mod,I.bs,cV I.ok.bsz I.sz,I.stack,I.stkFree,I.hok,I.bare⟩
theorem Inv.after(I:Inv X pins σ H s)(h:CE X.stack X.prog X.w H s Q u s'):EP X pins σ Q u s':=by
 obtain⟨v,H',os,bare,un,hok,r,q⟩:=h;obtain⟨c,g,d,t,a⟩:=s';obtain rfl:a=s.os:=os;exact⟨v,H',I.call (h':=c) (g':=g) (d':=d) (t':=t) (ch:=[]) un hok bare (λb z=>absurd z (by simp)),r,q⟩
end
noncomputable def Binds(K:bH)(fd:FuncData)(ps:List aG)(ds:List aC):Prop:=
 ∀(s:aW) (a:List aC),K.In s.heap->(a++ds).length=ps.length->mu s fd ⟨a,[]⟩ (ps.zip (a++ds))
theorem Binds.all{K:bH}(h:∀us:List aC,us.length=ps.length->lq fd ⟨us,[]⟩=pure (ps.zip us)):Binds K fd ps []:=λs us _ a=>by
 rw[hZ] at a ⊢;exact .of_eq (h us a)
section
variable {f C:aE}
structure Mk(K:PySem.W.Frag)(C f:aE):Prop where
 makes:nk K C=aB
 init:cD K (.ref C) "__init__"=aA (aA (.ref f))
 fn:sF K (.ref f)=aB
 kp:dU K (.ref C)=aB
end
structure cP(N P:List aG)(sc:Scope):Prop where
 kind:sc.kind=.function
 co:sc.isCoroutine=aD
 gen:sc.isGenerator=aD
 nd:N.Nodup
 pre:N.take P.length=P
 par:∀x∈P,sc.names.lookup x=aA .local\/sc.names.lookup x=aA .cell
 nofree:∀y∈sc.names,y.2≠.free
theorem Wi{kindOf:aG->Option lp}:∀{binds:List (aG×aC)}{m:aG->Option aC},(∀v,(x,v)∉binds)->lj kindOf binds m x=m x
 |[],_,_=>rfl
 |(n,v)::r,m,h=>by
  unfold lj;rw[Wi λw hw=>h w (eH _ hw)];split
  .have:x≠n:=by rintro rfl;exact h v fZ
   simp[this]
  .rfl
theorem QR{kindOf:aG->Option lp}:∀{binds:List (aG×aC)}{m:aG->Option aC},(∀v,(x,v)∉binds)->li kindOf binds m x=m x
 |[],_,_=>rfl
 |(n,v)::r,m,h=>by
  unfold li;rw[QR λw hw=>h w (eH _ hw)];split
  .rfl
  .have:x≠n:=by rintro rfl;exact h v fZ
   simp[this]
theorem QL{kindOf:aG->Option lp}:∀{P:List aG}{vs:List aC}{i:Nat}{m:aG->Option aC},P.Nodup->P[i]?=aA x->vs[i]?=aA v->kindOf x=aA .local->
  lj kindOf (P.zip vs) m x=aA v
 |[],_,_,_,_,h,_,_=>by simp at h
 |_::_,[],_,_,_,_,h,_=>by simp at h
 |p::P,w::vs,0,m,c,b,a,d=>by
  simp at b a;subst b;subst a;show lj kindOf ((p,w)::P.zip vs) m p=_;unfold lj;rw[Wi λv e=>(nI.mp c).1 (pM e).1,if_pos d];simp
 |p::P,w::vs,i+1,m,c,b,a,d=>by
  show lj kindOf ((p,w)::P.zip vs) m x=_;unfold lj;exact QL (i:=i) (nI.mp c).2 (by simpa using b) (by simpa using a) d
theorem Wg{kindOf:aG->Option lp}:∀{P:List aG}{vs:List aC}{i:Nat}{m:aG->Option aC},P.Nodup->P[i]?=aA x->vs[i]?=aA v->kindOf x≠aA .local->
  li kindOf (P.zip vs) m x=aA v
 |[],_,_,_,_,h,_,_=>by simp at h
 |_::_,[],_,_,_,_,h,_=>by simp at h
 |p::P,w::vs,0,m,c,b,a,d=>by
  simp at b a;subst b;subst a;show li kindOf ((p,w)::P.zip vs) m p=_;unfold li;rw[QR λv e=>(nI.mp c).1 (pM e).1,if_neg d];simp
 |p::P,w::vs,i+1,m,c,b,a,d=>by
  show li kindOf ((p,w)::P.zip vs) m x=_;unfold li;exact Wg (i:=i) (nI.mp c).2 (by simpa using b) (by simpa using a) d
noncomputable def start(N:List aG)(vs:List V):St:=vs.map aA++mO (N.length-vs.length) aF
noncomputable def Kx (CX:ng)(P:bZ)(w:cX)(K:bH)(mg:aG->Option aC)(base:aT)(N:List aG)(qual:aG)(scope:Scope)(f:aE)(cd:aC)(A:dW)(outer:List Env)(s:aW)(H:Hp)(E:XK)(fnb:aG->Bool:=λ_=>aB):Cx where
 prog:=P
 w:=w
 K:=K
 mg:=mg
 base:=base
 A:=A.deeper (gM qual scope s.heap.objs.size f cd)
 N:=N
 s₀:=s
 H₀:=H
 env:=gM qual scope s.heap.objs.size f cd
 outer:=outer
 stack:=gM qual scope s.heap.objs.size f cd::outer
 ex:=[]
 calm:=aB
 fn:=fnb
 pn:=[]
 xe:=λe b=>wpAny (aR P w) (A.deeper (gM qual scope s.heap.objs.size f cd)) (oQ (gM qual scope s.heap.objs.size f cd) e) (λ_ a=>CX outer H s E e a) (λc a=>CX outer H s E c a) b
theorem VS{sc:Scope}(h:sc.names.lookup x=aA .cell):∃c,(o0 n sc.names []).lookup x=aA c:=by
 have q:=tJ sc.names n [] (.inl h);exact pX.mp q
theorem QQ{CX:ng}{P:bZ}{w:cX}{K:bH}{mg:aG->Option aC}{base:aT}{N ps:List aG}{qual:aG}{f:aE}{cd:aC}{A:dW}{s B:aW}{H:Hp}{E:XK}{vs:List V} 
  (S:cP N ps scope) (hd:A.handled=aF) (e0:dT P w K mg base A outer s H) (L:vs.length=ps.length) (r:aU vs us)
  (x:InCallC s s.heap.objs.size (lj (gM qual scope s.heap.objs.size f cd).kindOf (ps.zip us) λ_=>aF) (o0 (s.heap.objs.size+1) scope.names []) (li (gM qual scope s.heap.objs.size f cd).kindOf (ps.zip us) λ_=>aF) B) :
  Inv (Kx CX P w K mg base N qual scope f cd A outer s H E fnb) [] (start N vs) H B:=by
 have G:ps.length<=N.length:=by have:=congrArg mG S.pre;rw[gC] at this;lia
 obtain⟨t,J,rfl,D⟩:=x.done;have g:∀b:aE,b∉(Kx CX P w K mg base N qual scope f cd A outer s H E fnb).ex:=λb z=>absurd (show b∈([]:List aE) from z) (by simp)
 refine⟨⟨e0.mod,S.kind,rfl,rfl,bG _,λy z c t d=>?_,λy j=>?_,λy c _ h=>?_,λ_=>hd,tT e0.frames,.inr ⟨rfl,rfl⟩,λb z=>absurd z (g b),e0.bs,e0.bsz,λb _ _=>g b,λb z=>absurd z (g b),e0.funs,e0.frf⟩,
  rfl,e0.bare,Un.kept D,⟨_,x.toInCall.ns,λi y v t d M=>?_⟩,λy c h=>⟨_,x.cell y c h⟩,e0.hok.fresh (bG _),λy c h=>?_,λp m=>absurd (show p∈([]:List (aE×a_)) from m) (by simp),e0.hok.kept D,?_⟩
 .exact name_of_addr x.apart (i0 t) (i0 d)
 .have j:scope.names.lookup y=aA .cell\/scope.names.lookup y=aA .free:=j;rcases j with j|j
  .exact VS j
  .exact absurd rfl (S.nofree _ (i0 j))
 .exact nB (x.above y c (i0 h))
 .have o:i<vs.length:=by
   unfold start at d;by_cases o:i<vs.length
   .exact o
   .rw[fP (by simpa using o)] at d;rw[pV] at d;split at d<;>cases d
  have I:vs[i]?=aA v:=by
   unfold start at d;rw[eL (by simpa using o),eX] at d;cases e:vs[i]? with
   |none=>rw[e] at d;cases d
   |some a=>rw[e] at d;cases d;rfl
  obtain⟨u,C,F⟩:=r.get I;have m:ps[i]?=aA y:=by
   rw[<-S.pre,i6 (by lia)];exact t
  have l:ps.Nodup:=by rw[<-S.pre];exact S.nd.sublist (List.take_sublist _ _)
  refine⟨u,F,?_⟩;rcases S.par y (cY m) with k|k
  .exact .inl ⟨k,QL l m C k⟩
  .obtain⟨c,e⟩:=VS (n:=s.heap.objs.size+1) k;refine .inr ⟨.inl k,c,e,?_⟩;have q:=x.cell y c e;rw[Wg l m C (by show scope.names.lookup y≠_;rw[k];decide)] at q;exact q
 .exact .inl (e0.hok.fresh (nB (x.above y c (i0 h))))
 .unfold start;show _=N.length;rw[iI,eN,Ex];lia
theorem GI {CX : ng}{P : bZ}{w : cX}{K : bH}{k : Nat}{f : aE}{name qual : aG}{params : Arguments}{body : List bB}{L kV doc G a ct R : aC}{an od : Option aE}
 {N ps : List aG}{sp : Sp}(lk : K.lookup f = aA ⟨R, od, .func (eE name qual params body scope L kV doc G an a ct), U⟩) (D : eD K a qual = aB) (S : cP N ps scope)
    (len:∀vs H Q E, sp vs H Q E->vs.length=ps.length)
    (i : ∀ (A : dW) (outer : List Env) (s : aW) (H : Hp) (vs : List V) (Q : VK) (E : XK), bU k (A.deeper (gM qual scope s.heap.objs.size f a)) -> sp vs H Q E -> (∀ y c, (gM qual scope s.heap.objs.size f a).cells.lookup y = aA c -> s.heap.objs.size <= c /\ H c = aF) ->
      ∃t, fS (Kx CX P w K mg base N qual scope f a A outer s H E fnb) body t/\t {nx:=λ_ H'=>Q .non H', rt:=Q} (start N vs) H) :
    bI P w K mg base CX (k+1) f (eE name qual params body scope L kV doc G an a ct) ps sp:=by
  refine⟨len, λA outer s H args O vs Q E C e0 hb r m=>?_⟩;have Z:=len _ _ _ _ m;have M:K.In s.heap:=e0.mod.kin.keeps λb o e=>(e0.bs b o e).1;have B:s.heap.NoLimit:=e0.mod.nolimit.keeps λb o e=>(e0.bs b o e).1;have g:∀y∈ps.zip O, scope.names.lookup y.1=aA .local\/(scope.names.lookup y.1=aA .cell/\((o0 (s.heap.objs.size+1) scope.names []).lookup y.1).isSome=aB):=λ⟨n, v⟩ T=>by
    rcases S.par n (pM T).1 with q|q
    · exact .inl q
    · exact .inr ⟨q, tJ _ _ _ (.inl q)⟩
  refine tV C.depth (M _ _ lk) rfl S.co S.gen rfl (Ec M D) (hb _ _ _ _ ?_);refine EG S.kind g λenv he F x=>?_;subst he;refine⟨B.keeps x.toInCall.keep, sC ?_⟩;obtain⟨t, X, Y⟩:=i A outer s H vs Q E (C.deeper _) m λy c h=>have l:=nB (x.above y c (i0 h));⟨l, e0.hok.fresh l⟩;have I:Inv (Kx CX P w K mg base N qual scope f a A outer s H E fnb) [] (start N vs) H F:=QQ S C.hd e0 Z r x;refine cR (X [] F (start N vs) H _ I Y) (λfl p j=>?_) λe p j=>j
  have fin:∀{d:St}{H':Hp}{v:V}{u:aC}, Inv (Kx CX P w K mg base N qual scope f a A outer s H E fnb) [] d H' p->RelV v u->Q v H'->CE outer P w H s Q u p:=
    λ{d H' v u} J z q=>⟨v, H', J.os, J.bare, J.base, J.hok, z, q⟩
  cases fl with
  |ret u=>
    obtain⟨v, d, H', J, z, q⟩:=j;exact fin J z q
  |next=>
    obtain⟨d, H', J, q⟩:=j;exact fin (v:=V.non) (u:=dP) J rfl q
  |brk=>
    obtain⟨_, _, _, q⟩:=j;exact dL q
  |cont=>
    obtain⟨_, _, _, q⟩:=j;exact dL q
end L2
namespace HT
open PySem PyProof.Rows
noncomputable def lexLt:List Int->List Int->Bool
 |[],[]=>aD
 |[],_::_=>aB
 |_::_,[]=>aD
 |x::xs,y::a=>if x=y then lexLt xs a else decide (x<y)
theorem KO(x y:Int)(xs ys:List Int):lexLt (x::xs) (y::ys)=if x=y then lexLt xs ys else decide (x<y):=rfl
theorem Qa:lexLt [] []=aD:=rfl
theorem ZR(y:Int)(ys:List Int):lexLt [] (y::ys)=aB:=rfl
theorem uG(x:Int)(xs:List Int):lexLt (x::xs) []=aD:=rfl
theorem eqAt_int(A:dW)(s:aW)(a:Int)(t:Tok)(c:Int)(u:Tok):∃e,gO A s (.int a t) (.int c u) e/\(e=aB↔a=c):=
 ⟨(a==c),sZ a t c u,by simp⟩
theorem z01(A:dW)(s:aW)(a:Int)(t:Tok)(c:Int)(u:Tok)(prog:bZ)(w:cX)(E:aC->aW->Prop)(Q:aC->aW->Prop)(h:Q (.bool (decide (a<c))) s) :
  wpAny (aR prog w) A (o8 .Lt (.int a t) (.int c u)) Q E s:=
 (rW h:wpAny (aR prog w) A (dD .Lt (.int a t) (.int c u)) Q E s)
section
open PySem.SeqAt
open PySem.AutoSeq1 (wpAny_loadPart')
open PySem.MeetsSeq PySem.MeetsSeq2 PySem.MeetsSeq3
theorem QA(l b:aE)(items f:Array aC)(n U:Nat)(dd O:Option aE)(T K:Array (Option aC))(ns I:List Int)(S:d5 items.toList ns)(Q:d5 f.toList I) :
  Meets (iO.«tuple.__lt__» ⟨[.ref l,.ref b],[]⟩)
   (λ_ R s=>s.heap.get? l=aA {cls:=.type "tuple",dict:=dd,data:=.seq items n,slots:=T}/\s.heap.get? b=aA {cls:=.type "tuple",dict:=O,data:=.seq f U,slots:=K}/\
    R (.ok (.ret (.bool (lexLt ns I)))) s):=
 .of_wp λp w A R s h=>by
  obtain⟨J,g,d,H,os⟩:=s;obtain⟨X,Z,h⟩:=h;have f2:=EQ;have z1:items.size=ns.length:=by rw[<-S.length];simp
  have z2:f.size=I.length:=by rw[<-Q.length];simp
  wp_walk using pL X,pL Z,Dk _ (λrest b L=>b.1=aF/\L=⟨J,g,d,H,os⟩/\∃(G F:List aC) (j k:List Int),rest=G.zip F/\
   d5 G j/\d5 F k/\j.length+f.size=k.length+items.size/\R (.ok (.ret (.bool (lexLt j k)))) ⟨J,g,d,H,os⟩) _
  case turn=>
   rintro⟨y,x⟩ rest b L ⟨C,rfl,G,F,j,k,m,z,o,i,v⟩
   cases z with
   |nil=>rw[DY] at m;cases m
   |cons a t E=>
    cases o with
    |nil=>rw[Eb] at m;cases m
    |cons c u D=>
     rw[pG] at m;injection m with M B;injection M with V W;subst V W;rw[KO] at v;simp only[eG] at i;obtain⟨e,Y,r⟩:=eqAt_int A.in1 ⟨J,g,d,H,os⟩ a t c u;refine wpAny_bind (Y p w _ _ ?_);cases e with
     |true=>
      rw[if_pos (r.mp rfl)] at v;wp_walk;exact⟨rfl,rfl,_,_,_,_,B,E,D,by lia,v⟩
     |false=>
      rw[if_neg (λq=>absurd (r.mpr q) eO)] at v;have N:=z01 A.in1 ⟨J,g,d,H,os⟩ a t c u p w;wp_walk using N;exact⟨_,rfl,by simpa using v⟩
  case fin=>
   rintro⟨b1,b2⟩ L ⟨C,rfl,G,F,j,k,m,z,o,i,v⟩
   simp only at C
   subst C
   have P:lexLt j k=decide (items.size<f.size):=by
    cases z with
    |nil=>
     cases o with
     |nil=>
      simp only[lA] at i;rw[Qa];exact (decide_eq_false (by lia)).symm
     |cons c u hw=>
      simp only[lA,eG] at i;rw[ZR];exact (decide_eq_true (by lia)).symm
    |cons a t P=>
     cases o with
     |nil=>
      simp only[lA,eG] at i;rw[uG];exact (decide_eq_false (by lia)).symm
     |cons c u hw=>
      rw[pG] at m;cases m
   rw[P] at v
   wp_walk
   exact⟨_,rfl,by simpa[EW] using v⟩
  case h=>
   exact⟨rfl,rfl,items.toList,f.toList,ns,I,rfl,S,Q,by lia,h⟩
end
section
variable {prog:Program}{w:World}{A:Around}{E:aC->Shared->Prop}{s:Shared}
theorem lt_tupInts(t:gZ s.heap l items)(y:gZ s.heap b d)(v:d5 items.toList ns)(u:d5 d.toList g)
  (r:A.units<cLine) (h:Q (.bool (lexLt ns g)) s):wpAny (aR prog w) A (dD .Lt (.ref l) (.ref b)) Q E s:=by
 obtain⟨⟨cls,dd,m,p⟩,j,k,n,hd⟩:=id t;obtain⟨⟨o,i,data2,f⟩,a,e,q,c⟩:=id y;simp only at k hd e c;subst k hd e c
 exact EA (op:=.Lt) ⟨_,j,rfl⟩ ⟨_,a,rfl⟩ PySem.F.slot_tuple_lt PySem.F.entry_tuple_lt (PySem.F.args_tuple_lt_2 _ _) (QA l b items d n q dd i p f ns g v u)
  ⟨j,a,show lu (lexLt ns g)≠Ej/\Q (.bool (lexLt ns g)) s from ⟨(λx=>nomatch x),h⟩⟩ r
theorem cat_tup(p:gZ s.heap t vs.toArray)(q:gZ s.heap b d.toArray)(l:vs≠[])
  (u:d=[]->Q (.ref t) s) (r:d≠[]->Q (.ref s.heap.objs.size) {s with heap:=s.heap.push {cls:=.type "tuple",data:=.seq (vs++d).toArray}})
  (hsz:vs.length+d.length<=sizeLine):wpAny (aR prog w) A (fM .Add (.ref t) (.ref b)) Q E s:=by
 obtain⟨⟨cls,dd,data,j⟩,i,m,n,hd⟩:=id p;obtain⟨⟨o,h,data2,c⟩,a,g,k,f⟩:=id q;simp only at m hd g f;subst m hd g f;have e:vs.toArray++d.toArray=(vs++d).toArray:=by simp
 by_cases hw:d=[]
 .exact sB ⟨_,i,rfl⟩ ⟨_,a,rfl⟩ tc sw tI tN (tX _ _)
   (tuple_addW1 t b vs.toArray d.toArray n k dd h j c (by simpa using l) (by simp[hw])) ⟨i,a,u hw⟩
 .refine sB ⟨_,i,rfl⟩ ⟨_,a,rfl⟩ tc sw tI tN (tX _ _)
   (tuple_addW2 t b vs.toArray d.toArray n k dd h j c (by simpa using l) (by simpa using hw) (by rw[dH,dH];exact hsz)) ⟨i,a,?_⟩
  rw[e];exact r hw
noncomputable def sIx(n d:Nat):Option Int->Nat
 |none=>d
 |some v=>if v<0 then (v+(n:Int)).toNat else min v.toNat n
theorem Ou(n d:Nat)(hd:d<=n)(o:Option Int):sIx n d o<=n:=by
 cases o with
 |none=>exact hd
 |some v=>
  show (if v<0 then (v+(n:Int)).toNat else min v.toNat n)<=n;by_cases a:v<0
  .rw[if_pos a];lia
  .rw[if_neg a];exact Nat.min_le_right _ _
theorem XE(v:Int)(n d:Nat):(if v<0 then max (v+(n:Int)) 0 else min v (n:Int))=((sIx n d (aA v):Nat):Int):=by
 show (if v<0 then max (v+(n:Int)) 0 else min v (n:Int))=(((if v<0 then (v+(n:Int)).toNat else min v.toNat n):Nat):Int);by_cases a:v<0
 .simp only[if_pos a];lia
 .simp only[if_neg a];lia
theorem JZ(lo a:Option Int)(n:Nat):tZ lo a 1 (n:Int)=(((sIx n 0 lo:Nat):Int),((sIx n n a:Nat):Int)):=by
 have b:¬((1:Int)<0):=by lia
 unfold tZ;simp only[b,if_false];refine Prod.ext ?_ ?_
 .cases lo with
  |none=>rfl
  |some v=>exact XE v n 0
 .cases a with
  |none=>rfl
  |some v=>exact XE v n n
theorem K7(i j:Nat):pY (i:Int) (j:Int) 1=j-i:=by
 unfold pY;have a:(1:Int) > 0:=by lia
 simp only[a,if_true,CV];split<;>lia
theorem Z9(p:iC v o)(h:Q o s):wpAny (aR prog w) A (LP v) Q E s:=by
 cases p with
 |none=>exact slicePart_none h
 |int i t=>exact slicePart_int h
theorem sliceApplied_gen{lo b:Option Int}{n:Nat}(hs:s.heap.IsSliceOf j g d .none)(f:iC g lo)(e:iC d b)
  (h:Q (((sIx n 0 lo:Nat):Int),1,sIx n n b-sIx n 0 lo) s):wpAny (aR prog w) A (EF (.ref j) (pure (n:Int))) Q E s:=by
 obtain⟨os,a,i,c⟩:=id hs;unfold EF Lp;refine wpAny_bind (wpAny_bind (gD a c (x:=g) rfl (wpAny_bind (gD a c (x:=d) rfl (wpAny_bind (gD a c (x:=.none) rfl (wpAny_pure ?_)))))));refine wpAny_bind (slicePart_none ?_);show wpAny _ _ (if ((1:Int)==0)=aB then _ else _) _ _ s;rw[if_neg (by decide)];refine wpAny_bind (Z9 f (wpAny_bind (Z9 e (wpAny_bind (wpAny_pure ?_)))));show wpAny _ _ (match tZ lo b 1 (n:Int) with|(lo,b)=>pure (lo,(1:Int),pY lo b 1)) _ _ s;rw[JZ lo b n];show wpAny _ _ (pure (((sIx n 0 lo:Nat):Int),(1:Int),pY ((sIx n 0 lo:Nat):Int) ((sIx n n b:Nat):Int) 1)) _ _ s;rw[K7];exact wpAny_pure h
theorem z0Z(xs:Array aC)(i k:Nat):((hX k).filterMap λ(m:Nat)=>xs[((i:Int)+(m:Int)*1).toNat]?).toArray=((xs.toList.drop i).take k).toArray:=by
 have e:(λ(m:Nat)=>xs[((i:Int)+(m:Int)*1).toNat]?)=λm=>xs[i+m]?:=by
  funext m;have:((i:Int)+(m:Int)*1).toNat=i+m:=by lia
  rw[this]
 rw[e];have:=pick_run xs i k;rw[List.filterMap_map] at this;have a:((λx=>xs[x]?) ∘ λx=>i+x)=λm=>xs[i+m]?:=rfl;rw[a] at this;rw[this]
theorem getItem_tuple_cut{lo:Option Int}(b:gZ s.heap t items)(hs:s.heap.IsSliceOf j u r .none)(k:iC u lo)(i:iC r d)
  (hw:¬(sIx items.size 0 lo=0/\sIx items.size items.size d=items.size))
  (h:Q (.ref s.heap.objs.size) {s with heap:=s.heap.push {cls:=.type "tuple",data:=.seq ((items.toList.drop (sIx items.size 0 lo)).take (sIx items.size items.size d-sIx items.size 0 lo)).toArray}})
  (hsz:items.size<=sizeLine):wpAny (aR prog w) A (hL (.ref t) (.ref j)) Q E s:=by
 have a:sizeOk (.seq ((items.toList.drop (sIx items.size 0 lo)).take (sIx items.size items.size d-sIx items.size 0 lo)).toArray):=by
  show ((items.toList.drop (sIx items.size 0 lo)).take (sIx items.size items.size d-sIx items.size 0 lo)).toArray.size<=sizeLine;rw[dH,gC,pR,tQ];omega
 have p:sIx items.size items.size d<=items.size:=Ou _ _ (bG _) d;obtain⟨os,c,f,l⟩:=id hs;have g:s.TypeIs (.ref j) "slice":=⟨os,c,f⟩;unfold hL;try with_reducible refine wpAny_holding ?_
 first|refine wpAny_bind (wpAny_pure ?_)|skip
 refine wpAny_bind (DK b.typeIs (by decide) ?_)
 refine wpAny_bind (EM (name:=e_ "__getitem__") b.typeIs l_
  (Dj l_ b.typeIs DX ?_ (Ea _ _)))
 show wpAny _ _ (EE (.ref t) >>= _) _ _ s;refine wpAny_bind (tupleItemsOf_ b ?_);refine wpAny_bind (mE g ?_);rw[if_pos (by decide)];refine wpAny_bind (sliceApplied_gen hs k i ?_);have e:¬((((sIx items.size 0 lo:Nat):Int)==0&&(1:Int)==1&&(sIx items.size items.size d-sIx items.size 0 lo)==items.size)=aB):=by
  intro q;rw[bK,bK] at q;have o:((sIx items.size 0 lo:Nat):Int)=0:=eq_of_beq q.1.1;have n:sIx items.size items.size d-sIx items.size 0 lo=items.size:=eq_of_beq q.2;exact hw ⟨by omega,by omega⟩
 show wpAny _ _ (if (((sIx items.size 0 lo:Nat):Int)==0&&(1:Int)==1&&(sIx items.size items.size d-sIx items.size 0 lo)==items.size)=aB then _ else _) _ _ s;rw[if_neg e,z0Z]
 first
  |exact wpAny_bind (m:=pW _) (lC (wpAny_pure ⟨_,rfl,wpAny_pure h⟩) a)
  |exact wpAny_bind (m:=pW _) (lC (wpAny_bind (wpAny_pure (wpAny_pure ⟨_,rfl,wpAny_pure h⟩))) a)
  |exact wpAny_bind (wpAny_bind (m:=pW _) (lC (wpAny_pure (wpAny_pure ⟨_,rfl,wpAny_pure h⟩)) a))
  |exact wpAny_bind (wpAny_bind (m:=pW _) (lC (wpAny_pure ⟨_,rfl,wpAny_pure h⟩) a))
end
end HT
namespace L2
open PySem PySem.Spec PyProof.Rows
noncomputable abbrev TO:=St->Hp->(Option Int->Hp->Prop)->Prop
noncomputable def PO (X:Cx)(e:Option aH)(t:TO):Prop:=
 ∀(a:List (aE×a_)) (s:aW) (b:St) (H:Hp) (Q:Option Int->Hp->Prop),Inv X a b H s->t b H Q->
  wpAny (aR X.prog X.w) X.A (evalPart e X.env) (λu d=>∃o c,Inv X a b c d/\iC u o/\Q o c) X.xe s
noncomputable def SU:TO:=λ_ H Q=>Q aF H
noncomputable def Nt(t:TE):TO:=λa H Q=>t a H λx b=>∃i,x=.int i/\Q (aA i) b
theorem intsAre_of:∀{us:List aC},aU (ns.map V.int) us->d5 us ns:=by
 induction ns with
 |nil=>intro us r;rw[CU] at r;cases r;exact .nil
 |cons n ns ih=>
  intro us r;rw[eW] at r;cases r with
  |cons b a=>
   obtain⟨t,e⟩:=b;subst e;exact .cons n t (ih a)
section
variable {X:Cx}{e:aH}{te:TE}{lo hi:Option aH}{tl th:TO}{pos p2:Pos}
theorem R9:PO X aF SU:=by
 intro a s b H Q I h;rw[evalPart_none];exact wpAny_pure ⟨aF,H,I,.none,h⟩
theorem RN(h:PE X e te):PO X (aA e) (Nt te):=by
 intro a s b H Q I hw;rw[evalPart_some];refine aY (h a s b H _ I hw) λu j ⟨x,g,f,c,d⟩=>?_;obtain⟨i,rfl,q⟩:=d;obtain⟨t,rfl⟩:=c;exact⟨aA i,g,f,.int i t,q⟩
noncomputable def lc (X:Cx)(r:V->Option Int->Option Int->Hp->VK->Prop):Prop:=
 ∀(a:List (aE×a_)) (s:aW) (b:St) (H:Hp) (x:V) (v d c:aC) (lo hi:Option Int) (e:aE) (Q:VK),Inv X a b H s->RelV x v->s.heap.IsSliceOf e d c .none->iC d lo->iC c hi->r x lo hi H Q->
  ∃T id,mB (.type T) "__getitem__"=pure (aA (.builtin id))/\s.TypeIs v T/\wpAny (aR X.prog X.w) X.A (hL v (.ref e)) (EP X a b Q) X.xe s
theorem lc.or(h:lc X r)(h':lc X j):lc X (λx lo hi H Q=>r x lo hi H Q\/j x lo hi H Q):=by
 intro pins s a H x v c b lo hi d Q I e hs g f q;rcases q with q|q
 .exact h pins s a H x v c b lo hi d Q I e hs g f q
 .exact h' pins s a H x v c b lo hi d Q I e hs g f q
noncomputable def tSl (r:V->Option Int->Option Int->Hp->VK->Prop)(te:TE)(tl th:TO):TE:=λa H Q=>te a H λx d=>tl a d λl c=>th a c λu b=>r x l u b Q
theorem S_(C:lc X r)(he:PE X e te)(D:PO X lo tl)(z:PO X hi th):PE X (.Subscript e (.Slice lo hi aF p2) pos) (tSl r te tl th):=by
 intro a s d H Q I h;refine Subscript_ (aY (he a s d H _ I h) λv k ⟨x,N,L,m,p⟩=>?_);refine wpAny_Slice (aY (D a k d N _ L p) λg j ⟨l,M,K,y,o⟩=>aY (z a j d M _ K o) λf c ⟨u,i,J,t,n⟩=>?_);rw[evalPart_none];refine wpAny_pure ?_;have G:Inv X a d i {c with heap:=c.heap.push {cls:=.type "slice",data:=.fields #[g,f,.none]}}:=J.kept (t':=c.toks) λb O q=>bN _ q;obtain⟨T,id,F,B,E⟩:=C a {c with heap:=c.heap.push {cls:=.type "slice",data:=.fields #[g,f,.none]}} d i x v g f l u c.heap.objs.size Q G m (I_ ..) y t n;show wpAny (aR X.prog X.w) X.A (sv e (.Slice lo hi aF p2) v (.ref c.heap.objs.size)) (EP X a d Q) X.xe {c with heap:=c.heap.push {cls:=.type "slice",data:=.fields #[g,f,.none]}};exact tail_any (ops:=[.ref c.heap.objs.size,v]) B F E (by with_unfolding_all rfl)
noncomputable def Q0 (xs:List V)(lo hi:Option Int):List V:=(xs.drop (HT.sIx xs.length 0 lo)).take (HT.sIx xs.length xs.length hi-HT.sIx xs.length 0 lo)
theorem yL(xs:List V)(lo hi:Option Int):(Q0 xs lo hi).length<=xs.length:=by
 unfold Q0;rw[gC,pR];lia
noncomputable def Mo (K:bH):V->Option Int->Option Int->Hp->VK->Prop:=λx lo hi H Q=>∃a xs,x=.ref a/\eS K H a xs/\
 ¬(HT.sIx xs.length 0 lo=0/\HT.sIx xs.length xs.length hi=xs.length)/\∀p,H p=aF->Q (.ref p) (aX H p (.tup (Q0 xs lo hi)))
theorem Pa:lc X (Mo X.K):=by
 intro f s p H x v u t lo e w Q I j n l k h;obtain⟨a,xs,rfl,m,hw,q⟩:=h;cases j;obtain⟨d,r,i,g⟩:=I.tuple m;have c:d.toArray.size=xs.length:=by rw[dH];exact r.length.symm
 refine⟨"tuple",_,l_.lookup,i.typeIs,?_⟩;refine HT.getItem_tuple_cut i n l k (by rw[c];exact hw) ?_ (by rw[c];exact g);rw[c];refine⟨.ref s.heap.objs.size,_,I.laid (t':=s.toks) (o:=.tup (Q0 xs lo e)) (λb y q=>bN _ q) (bG _) ?_,rfl,q _ (I.hok.fresh (bG _))⟩;exact⟨cV (yL xs lo e) g,_,(r.drop (HT.sIx xs.length 0 lo)).take (HT.sIx xs.length xs.length e-HT.sIx xs.length 0 lo),oZ _ _⟩
noncomputable def L7 (K:bH):R2:=λx y H Q=>∃a b c d,x=.ref a/\y=.ref b/\eS K H a (c.map V.int)/\eS K H b (d.map V.int)/\Q (.bl (HT.lexLt c d)) H
theorem N3(p:X.A.units<cLine):dB X (dD .Lt) (L7 X.K):=by
 intro e s w H x y v u Q I j i h;obtain⟨a,b,f,g,rfl,rfl,t,r,q⟩:=h;cases j;cases i;obtain⟨d,l,p1,_⟩:=I.tuple t;obtain⟨c,k,m,_⟩:=I.tuple r;have o:d5 d.toArray.toList f:=intsAre_of l;have n:d5 c.toArray.toList g:=intsAre_of k;exact HT.lt_tupInts p1 m o n p ⟨.bl (HT.lexLt f g),H,I,rfl,q⟩
noncomputable def MN(K:bH):R2:=λx y H Q=>∃a b xs c,x=.ref a/\y=.ref b/\eS K H a xs/\eS K H b c/\xs≠[]/\xs.length+c.length<=sizeLine/\
 (c=[]->Q (.ref a) H)/\(c≠[]->∀p,H p=aF->Q (.ref p) (aX H p (.tup (xs++c))))
theorem aU.nil_iff(r:aU xs us):us=[]↔xs=[]:=by
 cases r with
 |nil=>simp
 |cons _ _=>simp
theorem Rc:dB X (fM .Add) (MN X.K):=by
 intro e s B H x y v u Q I k j h;obtain⟨a,b,xs,i,rfl,rfl,A,t,r,g,m,l⟩:=h;cases k;cases j;obtain⟨p,d,p1,_⟩:=I.tuple A;obtain⟨f,c,n,_⟩:=I.tuple t;refine HT.cat_tup p1 n (λz=>r (d.nil_iff.mp z)) (λz=>⟨.ref a,H,I,rfl,m (c.nil_iff.mp z)⟩) (λz=>?_) (by rw[<-d.length,<-c.length];exact g);refine⟨.ref s.heap.objs.size,_,I.laid (t':=s.toks) (o:=.tup (xs++i)) (λb C q=>bN _ q) (bG _) ?_,rfl,l (λw=>z (c.nil_iff.mpr w)) _ (I.hok.fresh (bG _))⟩;exact⟨by rw[iI];exact g,_,d.append c,oZ _ _⟩
end
end L2
namespace L2
open PySem PySem.Spec PyProof.Rows
noncomputable def oA(n:Nat)(i:Int):Option Nat:=if 0<=i then (if i<n then aA i.toNat else aF) else if -(n:Int)<=i then aA (i+n).toNat else aF
noncomputable def mi {α:Type}(xs:List α)(i:Int):Option α:=(oA xs.length i).bind λj=>xs[j]?
theorem PU(h:oA n i=aA j):seqIndex? i n=aA j/\j<n /\ -(n:Int)<=i/\i<n:=by
 unfold oA at h;by_cases b:0<=i
 .rw[if_pos b] at h;by_cases a:i<n
  .rw[if_pos a] at h;have e:i.toNat=j:=bQ h;exact⟨by rw[seqIndex_of b a,e],by lia,by lia,a⟩
  .rw[if_neg a] at h;cases h
 .rw[if_neg b] at h;by_cases a:-(n:Int)<=i
  .rw[if_pos a] at h;have e:(i+n).toNat=j:=bQ h;exact⟨by rw[seqIndex_neg (by lia) a,e],by lia,a,by lia⟩
  .rw[if_neg a] at h;cases h
theorem WK{xs:List α}(h:mi xs i=aA v):∃j,seqIndex? i xs.length=aA j/\xs[j]?=aA v/\j<xs.length /\ -(xs.length:Int)<=i/\i<xs.length:=by
 unfold mi at h;cases e:oA xs.length i with
 |none=>rw[e] at h;cases h
 |some j=>
  rw[e] at h;obtain⟨d,c,b,a⟩:=PU e;exact⟨j,d,h,c,b,a⟩
noncomputable def PR(b:aH):Prop:=∀o i,o7 b aD o i=operate [o,i] (hL o i)
noncomputable def Cj (X:Cx)(r:R2):Prop:=
 ∀(b slice:aH) (a:List (aE×a_)) (s:aW) (c:St) (H:Hp) (x y:V) (v u:aC) (Q:VK),Inv X a c H s->RelV x v->RelV y u->r x y H Q->
  o7 slice aD v u=operate [v,u] (hL v u)->wpAny (aR X.prog X.w) X.A (sv b slice v u) (EP X a c Q) X.xe s
noncomputable def rS (X:Cx)(id:String)(r:V->List V->Hp->VK->Prop):Prop:=
 ∀(a:List (aE×a_)) (s:aW) (b:St) (H:Hp) (x:V) (xs:List V) (v:aC) (c:List aC) (Q:VK),Inv X a b H s->RelV x v->aU xs c->r x xs H Q->
  wpAny (aR X.prog X.w) X.A (call (.builtin id) (v::c)) (EP X a b Q) X.xe s
section
variable {X:Cx}{a b:aH}
noncomputable def LQ (K:bH):R2:=λx y H Q=>∃p xs i v,x=.ref p/\y=.int i/\f9 K H p xs/\mi xs i=aA v/\Q v H
noncomputable def My (K:bH):R2:=λx y H Q=>∃p xs i v,x=.ref p/\y=.int i/\eS K H p xs/\mi xs i=aA v/\Q v H
noncomputable def Mp:R2:=λx y H Q=>∃z i c,x=.str z/\y=.int i/\z.length<=sizeLine/\mi z.cps.toList i=aA c/\Q (.str ⟨#[c]⟩) H
theorem Yb:Cj X (LQ X.K):=by
 intro c slice a s k H x y v u Q I A o h l;obtain⟨p,xs,i,z,rfl,rfl,B,D,q⟩:=h;cases A;obtain⟨t,rfl⟩:=o;obtain⟨f,r,e,J⟩:=I.list B;obtain⟨j,b,G,M,F,E⟩:=WK D;obtain⟨w,ew,d⟩:=r.get G;have C:=r.length;have L:=ZW;have fin:EP X a k Q w s:=⟨z,H,I,d,q⟩;by_cases m:0<=i
 .have g:i.toNat=j:=by
   rw[seqIndex_of m E] at b;exact bQ b
  exact item_listR e.isList m (by lia) (by rw[g];simpa using ew) fin l
 .have g:(i+(f.toArray.size:Int)).toNat=j:=by
   rw[seqIndex_neg (by lia) F] at b;rw[dH,<-C];exact bQ b
  exact Ez (x:=w) e.isList.typeIs DJ.lookup
   (wpAny_getItem_list_neg (Q:=λr n=>r=w/\EP X a k Q r n) e.isList (by lia) (by rw[dH]<;>lia) (by lia) (by rw[g];simpa using ew) ⟨rfl,fin⟩) l
theorem Pc:Cj X (My X.K):=by
 intro b slice a s d H x y v u Q I k g h m;obtain⟨p,xs,i,z,rfl,rfl,n,A,q⟩:=h;cases k;obtain⟨t,rfl⟩:=g;obtain⟨l,r,e,D⟩:=I.tuple n;obtain⟨j,C,B,J,G,F⟩:=WK A;obtain⟨w,ew,c⟩:=r.get B;have o:=r.length;have E:=ZW;have fin:EP X a d Q w s:=⟨z,H,I,c,q⟩
 exact Ez (x:=w) e.typeIs l_.lookup
  (getItem_tuple (j:=j) (Q:=λr f=>r=w/\EP X a d Q r f) e (by lia) (by lia) (by rw[dH,<-o];exact C) (by simpa using ew) ⟨rfl,fin⟩) m
theorem Po:Cj X Mp:=by
 intro a slice b s w H x y v u Q I f e h g;obtain⟨z,i,c,rfl,rfl,B,l,q⟩:=h;obtain⟨t,rfl⟩:=f;obtain⟨A,rfl⟩:=e;obtain⟨j,d,o,D,n,m⟩:=WK l;have k:z.cps.toList.length=z.length:=by simp[Str.length]
 rw[k] at d n m;have C:=ZW;exact tail_any (iV s z t) slot_str_getitem.lookup (getItem_str (c:=c) (by
  have r:decide (i < -(2 ^ 63:Int))=aD:=decide_eq_false (by lia);have p:decide (i ≥ 2 ^ 63)=aD:=decide_eq_false (by lia);rw[r,p,Bool.or_false]) (by rw[d];simpa using o) ⟨.str ⟨#[c]⟩,H,I.tok _,⟨_,rfl⟩,q⟩) g
theorem Vi(lo a:Option Int)(n:Nat):(lR lo a aF n).1=((HT.sIx n 0 lo:Nat):Int)/\(lR lo a aF n).2.1=((HT.sIx n n a:Nat):Int)/\(lR lo a aF n).2.2=1:=by
 refine⟨?_,?_,rfl⟩
 .cases lo with
  |none=>simp[lR,HT.sIx]
  |some i=>
   simp only[lR,HT.sIx,Dh,show (1:Int) > 0 by decide,if_true];by_cases h:i<0
   .simp only[h,if_true]<;>lia
   .simp only[h,if_false]<;>lia
 .cases a with
  |none=>simp[lR,HT.sIx]
  |some i=>
   simp only[lR,HT.sIx,Dh,show (1:Int) > 0 by decide,if_true];by_cases h:i<0
   .simp only[h,if_true]<;>lia
   .simp only[h,if_false]<;>lia
theorem QC(its:List aC)(lo a:Option Int):slicePick its.toArray lo a aF=((its.drop (HT.sIx its.length 0 lo)).take (HT.sIx its.length its.length a-HT.sIx its.length 0 lo)).toArray:=by
 obtain⟨d,c,b⟩:=Vi lo a its.toArray.size;unfold slicePick;rw[d,c,b];simp only[sliceRange_one,pick_run,dH]<;>rfl
noncomputable def MD (K:bH):V->Option Int->Option Int->Hp->VK->Prop:=λx lo b H Q=>∃a xs,x=.ref a/\f9 K H a xs/\∀p,H p=aF->Q (.ref p) (aX H p (.lst (Q0 xs lo b)))
theorem Rh:lc X (MD X.K):=by
 intro e s p H x v u t lo d w Q I g n j i h;obtain⟨a,xs,rfl,m,q⟩:=h;cases g;obtain⟨k,r,f,l⟩:=I.list m;have c:=r.length;refine⟨"list",_,DJ.lookup,f.isList.typeIs,?_⟩;refine wpAny_getItem_list_slice f.isList n j i .none (by simp) ?_ (by rw[dH]<;>lia);rw[QC,<-c];refine⟨.ref s.heap.objs.size,_,I.laid (t':=s.toks) (o:=.lst (Q0 xs lo d)) (λb y q=>bN _ q) (bG _) ?_,rfl,q _ (I.hok.fresh (bG _))⟩;exact⟨cV (yL xs lo d) l,_,0,(r.drop (HT.sIx xs.length 0 lo)).take (HT.sIx xs.length xs.length d-HT.sIx xs.length 0 lo),dQ _ rfl⟩
theorem vn:VE X (.builtin "len") (λxs H Q=>∃p ys,xs=[.ref p]/\(f9 X.K H p ys\/eS X.K H p ys)/\Q (.int ys.length) H):=by
 intro f s j H xs k Q I r h;obtain⟨p,ys,rfl,b,q⟩:=h;obtain⟨u,rfl,g⟩:=vals1 r;cases g;have l:=ZW;rcases b with b|b
 .obtain⟨e,c,d,i⟩:=I.list b;have a:=c.length;exact Calls.call_len_list d.isList (by simp only[dH]<;>lia) ⟨.int ys.length,H,I.tok _,⟨s.toks+1,by rw[dH,a]⟩,q⟩
 .obtain⟨e,c,d,i⟩:=I.tuple b;have a:=c.length;exact len_tuple d (by simp only[dH]<;>lia) ⟨.int ys.length,H,I.tok _,⟨s.toks+1,by rw[dH,a]⟩,q⟩
theorem Vt:VE X (.builtin "len") (λxs H Q=>∃z,xs=[.str z]/\z.length<=sizeLine/\Q (.int z.length) H):=by
 intro a s b H xs c Q I r h;obtain⟨z,rfl,d,q⟩:=h;obtain⟨u,rfl,t,rfl⟩:=vals1 r;have e:=ZW;exact len_str (by lia) ⟨.int z.length,H,I.tok _,⟨_,rfl⟩,q⟩
theorem zN:VE X (.type "list") (λxs H Q=>∃p ys,xs=[.ref p]/\(f9 X.K H p ys\/eS X.K H p ys)/\∀l,H l=aF->Q (.ref l) (aX H l (.lst ys))):=by
 intro g s z H xs B Q I r h;obtain⟨p,ys,rfl,k,q⟩:=h;obtain⟨u,rfl,A⟩:=vals1 r;cases A
 have fin:∀(a:List aC),aU ys a->ys.length<=sizeLine->∀(c:aT) (f:Nat),(∀b y,s.heap.get? b=aA y->c.get? b=aA y)->
   c.get? s.heap.objs.size=aA {cls:=.type "list",dict:=aF,data:=.seq a.toArray f,slots:=#[]}->EP X g z Q (.ref s.heap.objs.size) {s with heap:=c}:=λa d j c f i e=>
  ⟨.ref s.heap.objs.size,_,I.laid (t':=s.toks) i (bG _) (show a8 X.prog X.w _ c _ (.lst ys) from ⟨j,a,f,d,e⟩),rfl,q _ (I.hok.fresh (bG _))⟩
 rcases k with k|k
 .obtain⟨a,d,t,j⟩:=I.list k;have m:=d.length;obtain⟨o,v,x,n,hd⟩:=t.isList;exact call_list_seq p (.inl rfl) v x hd (λc f i e=>fin a d j c f i e) (by simp only[dH]<;>lia)
 .obtain⟨a,d,t,j⟩:=I.tuple k;have m:=d.length;obtain⟨o,v,x,n,hd⟩:=t;exact call_list_seq p (.inr rfl) v x hd (λc f i e=>fin a d j c f i e) (by simp only[dH]<;>lia)
theorem jw:VE X (.type "tuple") (λxs H Q=>∃p ys,xs=[.ref p]/\((f9 X.K H p ys/\∀l,H l=aF->Q (.ref l) (aX H l (.tup ys)))\/(eS X.K H p ys/\Q (.ref p) H))):=by
 intro a s j H xs y Q I r h;obtain⟨p,ys,rfl,h⟩:=h;obtain⟨u,rfl,t⟩:=vals1 r;cases t;rcases h with⟨i,q⟩|⟨i,q⟩
 .obtain⟨c,f,g,k⟩:=I.list i;have m:=f.length;refine call_tuple_list g.isList (λd v=>?_) (by simp only[dH]<;>lia);have n:Inv X a j H {s with heap:=d}:=I.kept (t':=s.toks) v
  have x:Inv X a j (aX H d.objs.size (.tup ys)) {s with heap:=d.push {cls:=.type "tuple",data:=.seq c.toArray}}:=
   n.laid (t':=s.toks) (λb o e=>bN _ e) (bG _) (show a8 X.prog X.w _ _ _ (.tup ys) from ⟨k,c,f,oZ _ _⟩)
  exact⟨.ref d.objs.size,_,x,rfl,q _ (n.hok.fresh (bG _))⟩
 .obtain⟨c,f,g,k⟩:=I.tuple i;exact call_tuple_same g ⟨.ref p,H,I,rfl,q⟩
noncomputable def Iq (K:bH)(T:String)(x:V)(H:Hp):Prop:=match x with
 |.str _=>T="str"
 |.int _=>T="int"
 |.ref p=>(T="list"/\∃xs,f9 K H p xs)\/(T="tuple"/\∃o,K.lookup p=aA o/\o.cls=.type "tuple"/\o.dict=aF)\/
   (T="dict"/\((∃a,H p=aA (.dK a))\/∃ep a,H p=aA (.dE ep a)))\/(T="set"/\∃S n,H p=aA (.set S n))
 |_=>False
theorem OV{h:St}{H:Hp}{x:V}(I:Inv X pins h H s)(r:RelV x v)(ty:Iq X.K T x H) :
  s.TypeIs v T/\∀a,v=.ref a->∃ob,s.heap.get? a=aA ob/\ob.dict=aF:=by
 cases x with
 |str z=>
  obtain⟨t,rfl⟩:=r;cases (show T="str" from ty);exact⟨iV s z t,λ_ e=>nomatch e⟩
 |int i=>
  obtain⟨t,rfl⟩:=r;cases (show T="int" from ty);exact⟨typeIs_int s i t,λ_ e=>nomatch e⟩
 |ref p=>
  cases r;rcases ty with⟨rfl,xs,k⟩|⟨rfl,o,b,l,hd⟩|⟨rfl,b⟩|⟨rfl,S,n,b⟩
  .obtain⟨j,_,g,_⟩:=I.list k;refine⟨g.isList.typeIs,λa e=>?_⟩;cases e;obtain⟨o,n,e,c,hd,_⟩:=g;exact⟨o,e,hd⟩
  .refine⟨⟨o,I.kIn p o b,l⟩,λa e=>?_⟩;cases e;exact⟨o,I.kIn _ o b,hd⟩
  .have z:∃o,s.heap.get? p=aA o/\o.ExactDict:=by
    rcases b with⟨d,b⟩|⟨ep,d,b⟩
    .obtain⟨_,_,_,_,o,_,_,e,ex,_⟩:=I.hok p _ b;exact⟨o,e,ex⟩
    .obtain⟨_,_,_,_,o,_,e,ex,_⟩:=I.hok p _ b;exact⟨o,e,ex⟩
   obtain⟨o,e,ex⟩:=z;refine⟨⟨o,e,ex.1⟩,λa f=>?_⟩;cases f;exact⟨o,e,ex.2.1⟩
  .obtain⟨o,_,_,_,e,ex,_⟩:=I.hok p _ b;refine⟨⟨o,e,ex.1⟩,λa f=>?_⟩;cases f;exact⟨o,e,ex.2.1⟩
 |_=>exact dL ty
noncomputable def tBM (K:bH)(T:String)(r:V->List V->Hp->VK->Prop)(c:TE)(t:TA):TE:=λa H Q=>c a H λx b=>Iq K T x b/\t a b λxs d=>r x xs d Q
variable {o e:aH}{es:List aH}{to:TE}{t:TA}{name:aG}{apos cpos:Pos}{T id:String}{r:V->List V->Hp->VK->Prop}
theorem Y4 (pa:PlainAttrs T) (slot:Slot T name id) (i:typeOf (.builtin id)=pure (.type "method_descriptor")) (A:rS X id r) (z:PE X o to) (B:PA X (e::es) t)
  (d:lY o name X.env (eval o X.env)=eval o X.env:=by rfl)
  (f:((eU cpos (dC (e::es) X.env)).all (λx=>!x.1)&&(lm cpos (lx [] X.env)).all (λx=>x.1.isSome)
   &&decide ((e::es).length+([]:List iF).length+(if ([]:List iF).isEmpty then 0 else 1)<30))=aB:=by rfl)
  (c:(apos.endLine==cpos.line)=aB:=by rfl) (hs:dC (e::es) X.env=(aD,eval e X.env)::dC es X.env:=by rfl) (b:(eU cpos (dC es X.env)).any (·.1)=aD:=by rfl) :
  PE X (.Call (.Attribute o name apos) (e::es) [] cpos) (tBM X.K T r to t):=by
 intro a s g H Q I h;refine wpAny_Call_method_late d f c rfl (aY (z a s g H _ I h) λv q ⟨x,G,l,j,ty,y⟩=>?_);obtain⟨D,C⟩:=OV l j ty;refine⟨T,id,pa,slot,i,D,C,?_⟩;have k:=B cpos a q g G _ l y;rw[hs] at k ⊢;refine tH (by show (aD || (eU cpos (dC es X.env)).any (·.1))=aD;rw[b]<;>rfl) (mR ?_);exact aY k λn p ⟨m,F,E,u,w⟩=>A a p g F x m v n Q E j u w
end
end L2
namespace L2
open PySem PySem.Spec PyProof.Rows
noncomputable def MtM (X:Cx)(id:String)(r:V->List V->Hp->VK->Prop):Prop:=
 ∀(a:List (aE×a_)) (s:aW) (b:St) (H:Hp) (x:V) (xs:List V) (v:aC) (c:List aC) (Q:VK),Inv X a b H s->RelV x v->aU xs c->r x xs H Q->
  wpAny (aR X.prog X.w) X.A (call (.builtin id) (v::c)) (EP X a b Q) X.xe s
theorem aU.one:∀{x:V}{us:List aC},aU [x] us->∃u,us=[u]/\RelV x u
 |_,_,.cons r .nil=>⟨_,rfl,r⟩
section
variable {X:Cx}{pins:List (aE×a_)}{σ:St}{H:Hp}{s:Shared}{l:aE}{xs ys:List V}
theorem Inv.lset{its:List aC}(I:Inv X pins σ H s)(h:H l=aA (.lst xs))
  (e:s.heap.get? l=aA {cls:=.type "list",data:=.seq its.toArray n}) (d:f its.toArray=its'.toArray) (b:aU ys its') (a:ys.length<=sizeLine) :
  Inv X pins σ (aX H l (.lst ys)) {s with heap:=s.heap.update l (gB f),toks:=t'}:=by
 have q:=PySem.IsL.update e f;rw[d] at q;refine I.write (x:=l) (e:=l) (by rw[h];exact trivial) (.inl rfl) (λi u g c=>(i3 s.heap (gB f) (c7 g)).trans c) ⟨_,q⟩ ?_;exact⟨a,its',_,b,q⟩
theorem Inv.lnew(I:Inv X pins σ H s)(b:aU ys its)(a:ys.length<=sizeLine) :
  Inv X pins σ (aX H s.heap.objs.size (.lst ys)) {s with heap:=s.heap.push {cls:=.type "list",data:=.seq its.toArray},toks:=t'}:=
 I.laid (λ_ _ q=>bN _ q) (bG _) ⟨a,its,0,b,dQ _ rfl⟩
theorem Inv.fresh(I:Inv X pins σ H s):H s.heap.objs.size=aF:=I.hok.fresh (bG _)
theorem Inv.lstM(I:Inv X pins σ H s)(a:H l=aA (.lst xs)):xs.length<=sizeLine/\∃(its:List aC) (n:Nat),aU xs its/\xs.length=its.length/\s.heap.get? l=aA {cls:=.type "list",data:=.seq its.toArray n}:=by
 obtain⟨z,its,n,r,e⟩:=I.hok l _ a;exact⟨z,its,n,r,r.length,e⟩
theorem z0G(h:n<=sizeLine):tW n=aD:=by
 unfold tW;exact decide_eq_false (by lia)
end
section
variable {X:Cx}
noncomputable def S1:V->List V->Hp->VK->Prop:=λx a H Q=>∃l xs y,x=.ref l/\a=[y]/\H l=aA (.lst xs)/\xs.length<sizeLine/\Q .non (aX H l (.lst (xs++[y])))
theorem W3:MtM X "list.append" S1:=by
 intro b s i H x j v k Q I d f h;obtain⟨l,xs,y,rfl,rfl,c,m,q⟩:=h;cases d;obtain⟨u,rfl,g⟩:=f.one;obtain⟨z,a,n,r,o,e⟩:=I.lstM c;refine mz F.slot_list_append ⟨_,e,rfl⟩ F.entry_list_append (F.args_list_append_2 _ _) (PySem.list_append l a.toArray n u (by rw[dH];lia)) ⟨e,?_⟩;refine⟨.non,_,I.lset (its':=a++[u]) c e (by simp) (r.append (.cons g .nil)) ?_,rfl,q⟩;rw[iI,List.length_singleton];lia
end
end L2
namespace Att
open PySem PySem.W PySem.Calls PyProof.Rows
theorem y_{P:Params}:∀(ns:List Int) (vs:List aC),WellAll P h vs (ns.map Cu)->d5 vs ns:=by
 intro ns;induction ns with
 |nil=>
  intro vs w;rw[CU] at w;cases w;exact .nil
 |cons n ns ih=>
  intro vs w;rw[eW] at w;cases w with
  |cons a b=>
   cases a;exact .cons _ _ (ih _ b)
theorem YE{l:mq}(u:l.most=aA n){P:Params}{args:List WData} 
  (b:l.row.toRowW.claim.pre args=aB) (j:WellAll P h g args) :
  ∃a vs ns,g=[b9 a]/\args=[WData.list (ns.map Cu)]/\h.get? a=aA {cls:=.type "list",data:=.seq vs.toArray}/\d5 vs ns/\ns.length<=n:=by
 have k:WShape.hasAll [] args [.list .int]=aB:=(pre_splitW b).1;have m:l.pre.holds [] {args:=args}=aB:=(pre_splitW b).2;obtain⟨d,r,rfl,x,w⟩:=hasAllW_cons k;obtain rfl:=hasAllW_nil w;obtain⟨xs,rfl,v⟩:=hasW_list x;obtain⟨ns,rfl⟩:=items_int v;have c:ns.length<=n:=by
  unfold OpenLaw.pre at m;have i:(WTm.not (.lt (.lit (.int (n:Int))) (.len (.arg 0)))).holds [] {args:=[.list (ns.map .int)]}=aB:=by
   have i:=(holds_andW m).1;rw[u] at i;exact i
  have f:=condW_of i (w_not (w_lt w_lit (w_len_list (w_arg rfl))));rw[eN] at f;refine Nat.le_of_not_lt λq=>?_;have s:(n:Int)<((ns.length:Nat):Int):=by omega
  first
   |(rw[decide_eq_true s] at f;exact absurd f (by decide))
   |(simp at f;omega)
 cases j with
 |cons p o=>
  cases o;cases p with
  |list t e=>exact⟨_,_,ns,rfl,rfl,t,y_ ns _ e,c⟩
theorem UB(l:mq)(args:List WData):l.row.toRowW.claim.post args (.bool aB) args=aB:=
 postW_of (r:=l.row.toRowW) (X:=(aB==aB))
  (show Cz [] (.bool aB) .bool=aB by first|rfl|decide|simp[Cz,WShape.arms,WShape.armsAll])
  (show (WTm.eq .res (.lit (.bool aB))).value [] {args:=args,res:=aA (.bool aB),after:=args}=aA (.bool (aB==aB)) from w_eq_bool (w_res rfl) w_lit) rfl
theorem attach_call{l:mq}{n:Nat}{d:DefRec}
  (C:l.most=aA n) (t:d.params.defaults=[])
  (call:∀(w:cX) (s₀ b:aW) (mg m:aG->Option aC) (fa:aE) (o:a_) (k cd doc:aC) (a:aE) (vs:List aC) (ns:List Int),
   Ground q g [] XP w s₀ mg m b.heap->L w b.heap->
   b.heap.get? fa=aA o->o.data=.func (docDef d.name d.params d.body d.scope k cd doc)->b.heap.CodeRec cd d.name->mg d.name=aA (.ref fa)->
   b.heap.get? a=aA {cls:=.type "list",data:=.seq vs.toArray}->d5 vs ns->ns.length<=n->b.gens=#[]->
   fE (aR l.prog w) nn (.call (.ref fa) ⟨[.ref a],[]⟩) (λr j=>r=.ok (.ret (.bool aB))/\OldK b.heap j.heap/\j.os=b.os/\iP j.gens) b) :
  WalkO q g XP L l.row.toRowW d [] (λf vs=>Cy f vs):=by
 intro w s₀ b mg m G Y fa o k cd doc K kV B hd u y s F args v M e x z p E;obtain rfl:K=.none:=Dflts.none y t;obtain rfl:kV=.none:=Dflts.noKw y;obtain⟨a,vs,ns,rfl,rfl,h,c,i⟩:=YE C e p;refine enter_call (iS (call w s₀ b mg m fa o k cd doc a vs ns G Y B (fd_plain hd) u s h c i F) λr j A=>?_);obtain⟨rfl,J,I,H⟩:=A;exact⟨.inl ⟨.bool aB,.bool aB,[],rfl,λ_=>rfl,.bool aB,UB l _,λ_=>⟨IZ,λ_ D=>(nomatch D)⟩⟩,J,I,H⟩
section
noncomputable def B5(h:aT)(L d:aE):List (aE×a_):=(hX h.objs.size).filterMap λa=>if a=L\/a=d then aF else (h.get? a).map λo=>(a,o)
end
end Att
namespace L2
open PySem PySem.Spec PyProof.Rows
theorem vals_ints:∀{vs:List aC}{ns:List Int},d5 vs ns->aU (ns.map V.int) vs
 |_,_,.nil=>.nil
 |_,_,.cons n t h=>.cons ⟨t,rfl⟩ (vals_ints h)
end L2
namespace L2
open PySem PySem.Spec PyProof.Rows
noncomputable abbrev KOf{K:bH}{h:aT}(_:K.In h):bH:=K
end L2
namespace L2
open PySem PySem.Spec PyProof.Rows
noncomputable def aQ(s:bB)(j:Nat):bB:=match s with
 |.ClassDef _ _ _ body _ _ _ _ _ _ _=>body.getD j (.Pass ⟨0,0,0,0⟩)
 |_=>.Pass ⟨0,0,0,0⟩
noncomputable def zm(s:bB):Arguments:=match s with
 |.FunctionDef _ a _ _ _ _ _ _ _ _=>a
 |_=>{posonlyargs:=[],args:=[],vararg:=aF,kwonlyargs:=[],kw_defaults:=[],kwarg:=aF,defaults:=[]}
noncomputable def z0(s:bB):List bB:=match s with
 |.FunctionDef _ _ b _ _ _ _ _ _ _=>b
 |_=>[]
noncomputable def zc(s:bB):Scope:=match s with
 |.FunctionDef _ _ _ _ _ _ a _ _ _=>a
 |_=>{kind:=.function,names:=[],isGenerator:=aD,isCoroutine:=aD}
noncomputable abbrev E0:XK:=λ_ _ _=>False
structure mn(K:PySem.W.Frag)(x qual:aG)(st:bB)(f:aE)(fd:FuncData):Prop where
 ex:∃(oc:aC) (od:Option aE) (kV doc pm:aC) (an:Option aE) (cdv ct:aC) (osl:Array (Option aC)),
  fd=eE x qual (zm st) (z0 st) (zc st) .none kV doc pm an cdv ct/\K.lookup f=aA ⟨oc,od,.func fd,osl⟩/\eD K cdv qual=aB
 kp:dU K (.ref f)=aB
section
variable {K:PySem.W.Frag}
theorem mn.binds{st:bB}(F:mn K x qual st f fd)
  (h:∀(kV doc b:aC) (an:Option aE) (a ct:aC) (us:List aC),us.length=ps.length->lq (eE x qual (zm st) (z0 st) (zc st) .none kV doc b an a ct) ⟨us,[]⟩=pure (ps.zip us)):Binds K fd ps []:=by
 obtain⟨e,od,kV,doc,b,an,a,ct,c,rfl,lk,d⟩:=F.ex;exact .all (h kV doc b an a ct)
theorem j3{st:bB}{od an:Option aE}{kV doc b a ct:aC}(l:K.lookup f=aA ⟨g,od,.func (eE x qual (zm st) (z0 st) (zc st) .none kV doc b an a ct),d⟩)
  (c:eD K a qual=aB) (k:dU K (.ref f)=aB):mn K x qual st f (eE x qual (zm st) (z0 st) (zc st) .none kV doc b an a ct):=⟨⟨g,od,kV,doc,b,an,a,ct,d,rfl,l,c⟩,k⟩
end
noncomputable def j6 (H H':Hp):Prop:=∀b o,H b=aA o->H' b=aA o
end L2
end
namespace NH
open PySem
noncomputable def stC:aC->aC
 |.int i _=>.ref i.toNat
 |v=>v
noncomputable def MB (h:aT)(x:aE)(cls:aC)(d:Option aE):Prop:=∃c b e,h.get? x=aA c/\(c.cls=stC cls/\c.dict=d)/\c.data=.fields b/\b[0]?=aA e/\b[1]?=aA .none/\∀a,cls=.ref a->b[2]?=aA .none
inductive d6(h:aT)(x T:aE)(cls:aC)(d:Option aE)(fl:aC):Prop where
 |mk (oe:a_) (vs:Array aC) (a0:aC) (oT:a_) (ts:Array aC) (h1:h.get? x=aA oe) (h2:oe.cls=stC cls/\oe.dict=d) (h3:oe.data=.fields vs) (h4:vs[0]?=aA a0) (h5:vs[1]?=aA (.ref T)) (h6:T≠x) (h7:h.get? T=aA oT) (h8:oT.data=.fields ts) (h9:ts[3]?=aA fl) (h10:∀a,cls=.ref a->vs[2]?=aA .none)
noncomputable def Ge (h:aT)(x:aE)(cls:aC)(d:Option aE):Option aE->aC->Prop
 |none,fl=>MB h x cls d/\fl=.none
 |some T,fl=>d6 h x T cls d fl
structure dO(fs:List aE)(x:aE)(T T':Option aE)(h h':aT):Prop where
 keep:∀b o,h.get? b=aA o->b∉fs->b≠x->b∉T.toList->h'.get? b=aA o
 slot:∀b o,h.get? b=aA o->b∈fs->b≠x->b∉T.toList->∃sl,h'.get? b=aA {o with slots:=sl}
 newT:∀t∈T'.toList,t∈T.toList\/h.objs.size<=t
theorem dO.refl(fs:List aE)(x:aE)(T:Option aE)(h:aT):dO fs x T T h h:=⟨λ_ _ e _ _ _=>e,λ_ o e _ _ _=>⟨o.slots,e⟩,λ_ a=>.inl a⟩
theorem ZT(o:a_)(f:Array aC->Array aC):(fO f o).dict=o.dict:=by
 obtain⟨c,d,dt,a⟩:=o;cases dt<;>rfl
section
variable {M:Model}{A:Around}{E:aC->Shared->Prop}{s:Shared}
theorem UX(a:A.frames=aA (e0::outer))(d:s.heap.FunFrames base (e0::outer))
  (e:env.frame=aA L) (b:e0.frame=aA L) (h:∀h',Heap.SlotsOnly ((e0::outer).filterMap (·.frame)) s.heap h'->Q (.ref L) {s with heap:=h'}):wpAny M A (frameOf env) Q E s:=by
 unfold frameOf;refine wpAny_bind (wpAny_frameEnvs a ?_);have hw:((e0::outer).dropWhile λy=>y.frame != env.frame)=e0::outer:=by simp[List.dropWhile,e,b]
 rw[hw];unfold frameObject;refine wpAny_bind (wpAny_bind (wpAny_readyFrames_fun d λf c=>wpAny_pure ?_));rw[b];exact wpAny_pure (h f c)
theorem ZZ 
  (y:A.frames=aA (e0::outer)) (C:s.heap.FunFrames base (e0::outer)) (P:env.frame=aA L) (S:e0.frame=aA L)
  (B:s.heap.get? x=aA r) (D:r.cls=stC cls/\r.dict=d) (hd:r.data=.fields vs) (w:vs[0]?=aA Y) (hsz:1<vs.size) (v:∀a,cls=.ref a->vs[2]?=aA .none)
  (h:∀h' t,d6 h' x t cls d (cF L)->dO ((e0::outer).filterMap (·.frame)) x T (aA t) s.heap h'->s.heap.objs.size<=t->Q () {s with heap:=h'}) :
  wpAny M A (do let a ←frameOf env;let m ←entryPlaceOf L U;let b ←DW g a .none (cF L) .none m;setField (.ref x) 1 b) Q E s:=by
 have u:x∉(e0::outer).filterMap (·.frame):=λO=>by
  obtain⟨_,o,q,J⟩:=C.mem O;rw[B] at q;cases q;exact J vs hd
 refine wpAny_bind (UX y C P S λf k=>?_);refine wpAny_bind (wpAny_entryPlaceOf λm n=>?_);unfold DW newFields;refine wpAny_bind (lC ?_ (n.sizeOk5 _ _ _ _ _));have G:f.get? x=aA r:=(k.2.1 x u).trans B;generalize p:({cls:=.type "traceback",dict:=aF,data:=.fields ([g,.ref L,.none,cF L,.none]++(if m.isEmpty then mO 6 dP else m)).toArray}:a_)=l;have F:=bN (h:=f) l G;have j:l.data=.fields ([g,.ref L,.none,cF L,.none]++(if m.isEmpty then mO 6 dP else m)).toArray:=by rw[<-p]
 have i:l.isFreed=aD:=by rw[<-p];rfl
 refine nF F hd hsz ?_;have z:f.objs.size≠x:=lW (bW G);have H:=D_ hd (·.setIfInBounds 1 (b9 f.objs.size));have V:=l6 (fO (·.setIfInBounds 1 (b9 f.objs.size))) F (Ew H);have c:∀b o,b≠x->f.get? b=aA o->((f.push l).update x (fO (·.setIfInBounds 1 (b9 f.objs.size)))).get? b=aA o:=λb o R e=>by
  rw[i3 _ _ (c7 R)];exact bN _ e
 refine h _ f.objs.size ⟨_,_,Y,l,_,V,⟨(Obj.cls_mapFields _ _).trans D.1,(ZT _ _).trans D.2⟩,H,by rw[EV (by decide)];exact w,by simp[hsz],z,?_,j,?_,λa e=>by rw[EV (by decide)];exact v a e⟩ ⟨λb o e K nx _=>?_,λb o e _ nx _=>?_,λt N=>.inr ?_⟩ (mF k.1.symm)
 .rw[i3 _ _ (c7 z)];exact dQ _ i
 .first|(simp;done)|(rcases n with rfl|⟨_,_,_,_,_,_,_,rfl⟩<;>simp)
 .exact c b o nx ((k.2.1 b K).trans e)
 .obtain⟨I,W⟩:=k.2.2 b o e;exact⟨I,c b _ nx W⟩
 .have:t=f.objs.size:=by simpa using N
  rw[this];exact mF k.1.symm
theorem Ti 
  (q:A.frames=aA (e0::outer)) (C:s.heap.FunFrames base (e0::outer)) (F:env.frame=aA L) (O:e0.frame=aA L) (hx:Ge s.heap x cls d T fl) (D:fl=.none\/fl=cF L)
  (h:∀h' t,d6 h' x t cls d (cF L)->dO ((e0::outer).filterMap (·.frame)) x T (aA t) s.heap h'->Q () {s with heap:=h'}):wpAny M A (oY (.ref x) env) Q E s:=by
 unfold oY;simp only[F];cases T with
 |none=>
  obtain⟨⟨J,I,P,m,r,hd,l,f,k⟩,_⟩:=hx;refine wpAny_bind (gD m hd f ?_);rw[if_neg (by decide)];exact ZZ (T:=aF) q C F O m r hd l (nU.mp f).1 k λh' t a b _=>h h' t a b
 |some T=>
  obtain⟨J,I,P,S,u,m,r,hd,l,f,N,g,i,H,k⟩:=hx;refine wpAny_bind (gD m hd f ?_);rw[if_pos (show (b9 T != dP)=aB from by simp)];refine wpAny_bind (gD g i H ?_);by_cases K:fl=cF L
  .subst K;rw[if_pos (show (cF L==cF L)=aB from by simp)];exact wpAny_pure (h s.heap T ⟨J,I,P,S,u,m,r,hd,l,f,N,g,i,H,k⟩ (dO.refl _ _ _ _))
  .obtain rfl:fl=.none:=D.resolve_right K;rw[if_neg (show ¬((dP==cF L)=aB) from by simp[cF])];refine wpAny_bind (nF g i (nU.mp H).1 ?_);have j:∀b,b≠T->(s.heap.update T (fO (·.setIfInBounds 3 dP))).get? b=s.heap.get? b:=λb G=>i3 _ _ (c7 G);have fr:∀b∈(e0::outer).filterMap (·.frame),b≠T:=λb G z=>by
    obtain⟨_,o,p,v⟩:=C.mem G;rw[z,g] at p;cases p;exact v u i
   refine ZZ (T:=aA T) (s:={s with heap:=s.heap.update T (fO (·.setIfInBounds 3 dP))}) (base:=base) q (C.of_keeps λb o e v=>⟨o,(j b λz=>?_).trans e,rfl⟩) F O ((j x (c7 N)).trans m) r hd l (nU.mp f).1 k λh' t a b c=>h h' t a ⟨?_,?_,?_⟩
   .rw[z,g] at e;cases e;exact v u i
   .exact λd o e y w n=>b.keep d o ((j d λz=>n (by simp[z])).trans e) y w n
   .exact λd o e y w n=>b.slot d o ((j d λz=>n (by simp[z])).trans e) y w n
   .intro R B;rcases b.newT R B with z|z
    .exact .inl z
    .refine .inr (cV (mF ?_) z);exact (Heap.size_after_update ..).symm
theorem K4(hx:d6 s.heap x T cls d fl)
  (h:∀h',d6 h' x T cls d (fr.elim .none λf=>cF f)->dO fs x (aA T) (aA T) s.heap h'->Q () {s with heap:=h'}):wpAny M A (lO (.ref x) fr) Q E s:=by
 obtain⟨u,q,C,D,r,l,w,hd,k,c,m,g,i,B,j⟩:=hx;have sz:3<r.size:=(nU.mp B).1;unfold lO;refine wpAny_bind (gD l hd c ?_);rw[if_pos (show (b9 T != dP)=aB from by simp)];refine nF g i sz ?_;have a:∀b,b≠T->(s.heap.update T (fO (·.setIfInBounds 3 (fr.elim .none λf=>cF f)))).get? b=s.heap.get? b:=λb y=>i3 _ _ (c7 y);have p:=D_ i (·.setIfInBounds 3 (fr.elim dP λf=>cF f))
 exact h _ ⟨u,q,C,_,_,(a x (c7 m)).trans l,w,hd,k,c,m,l6 _ g (Ew p),p,by simp[sz],j⟩
  ⟨λb o e _ _ n=>(a b λz=>n (by simp[z])).trans e,λb o e _ _ n=>⟨o.slots,(a b λz=>n (by simp[z])).trans e⟩,λt v=>.inl v⟩
end
end NH
namespace NH
open PySem PySem.Spec PyProof.Rows L2
noncomputable abbrev St:=L2.St
theorem We{P:bZ}(x:a8 P w H h a o):∃ob,h.get? a=aA ob:=by
 cases o with
 |lst xs=>obtain⟨_,_,_,_,e⟩:=x;exact⟨_,e⟩
 |tup xs=>obtain⟨_,_,_,ob,e,_⟩:=x;exact⟨ob,e⟩
 |dK b=>obtain⟨_,_,_,_,o,_,_,e,_⟩:=x;exact⟨o,e⟩
 |dE ep b=>obtain⟨_,_,_,_,o,_,e,_⟩:=x;exact⟨o,e⟩
 |set S n=>obtain⟨o,_,_,_,e,_⟩:=x;exact⟨o,e⟩
 |ins C dx fs=>obtain⟨_,_,_,e,_⟩:=x;exact⟨_,e⟩
 |own y=>obtain⟨o,e⟩:=x;exact⟨o,e⟩
 |xd fs=>obtain⟨_,⟨o,_,_,e,_⟩,_⟩:=x;exact⟨o,e⟩
 |rng lo g=>obtain⟨_,_,_,e⟩:=x;exact⟨_,e⟩
 |frz ob u=>obtain⟨e,_⟩:=x;exact⟨_,e⟩
 |tbl d=>exact⟨_,(show h.get? a=aA _ from x)⟩
 |met f y=>exact⟨_,(show h.get? a=aA _ from x)⟩
 |ext c=>obtain⟨_,⟨o,e⟩,_⟩:=x;exact⟨o,e⟩
structure cN(X:Cx)(H:Hp)(b:aE):Prop where
 free:H b=aF
 loc:b≠X.env.locals
 nfs:b∉X.fs
 new:b∈X.ex\/X.s₀.heap.get? b=aF
 cel:∀x c,X.env.cells.lookup x=aA c->c≠b
 pin:∀p∈X.pn,p.1≠b
section
variable {X:Cx}{pins:List (aE×a_)}{σ:St}{H H':Hp}{s:Shared}{h':aT}
theorem VP(I:Inv X pins σ H s)(e:s.heap.get? b=aF):H b=aF:=by
 cases q:H b with
 |none=>rfl
 |some o=>
  obtain⟨a,z⟩:=We (I.hok b o q);rw[e] at z;cases z
theorem wy(I:Inv X pins σ H s)(e:s.heap.get? b=aF):cN X H b:=by
 refine⟨VP I e,λz=>?_,λz=>?_,?_,λx c q z=>?_,λp f z=>?_⟩
 .obtain⟨m,⟨o,_,_,a,_⟩,_⟩:=I.loc;rw[<-z,e] at a;cases a
 .obtain⟨_,o,a,_⟩:=I.funs.mem z;rw[e] at a;cases a
 .by_cases d:b∈X.ex
  .exact .inl d
  .refine .inr ?_;cases q:X.s₀.heap.get? b with
   |none=>rfl
   |some o=>
    obtain⟨g,z⟩:=I.base.there b o q d;rw[e] at z;cases z
 .obtain⟨v,o,a,_⟩:=I.cell x c q;rw[z,e] at a;cases a
 .have:=(I.pin p (d9 _ f)).1;rw[z,e] at this;cases this
theorem uK{ch:List aE}(I:Inv X pins σ H s)(a:∀b∈ch,cN X H b/\∀p∈pins,p.1≠b)
  (keep:∀b o,b∉eJ X.stack->b∉ch->s.heap.get? b=aA o->h'.get? b=aA o)
  (slot:∀b o,b∈eJ X.stack->b∉ch->s.heap.get? b=aA o->∃j,h'.get? b=aA {o with slots:=j}) :
  Inv X pins σ H {s with heap:=h'}:=by
 have G:∀b u,H b=aA u->b∉ch:=λb u e z=>by rw[(a b z).1.free] at e;cases e
 have w:∀b u,H b=aA u->b∉eJ X.stack:=λb u e z=>by rw[I.stkFree b z] at e;cases e
 have any:∀b o,b∉ch->s.heap.get? b=aA o->∃j,h'.get? b=aA {o with slots:=j}:=λb o t e=>by
  by_cases M:b∈eJ X.stack
  .exact slot b o M t e
  .exact⟨o.slots,keep b o M t e⟩
 have y:∀b,b≠X.env.locals->b∉X.fs->b∉eJ X.stack:=λb U T z=>(dG.mp (I.stkSub b z)).elim U T;have h:∀b o,X.s₀.heap.get? b=aA o->b∉X.ex->b∉ch:=λb o e f z=>by
  rcases (a b z).1.new with q|q
  .exact f q
  .rw[e] at q;cases q
 have D:∀b o,X.s₀.heap.get? b=aA o->b≠X.env.locals:=λb o e=>dF (dI (bW e) I.ok.above);have g:∀x c,X.env.cells.lookup x=aA c->∀v,s.heap.IsCell c v->h'.IsCell c v:=λx c e v ⟨o,F,hd⟩=>by
  obtain⟨j,q⟩:=any c o (λz=>(a c z).1.cel x c e rfl) F;exact⟨_,q,hd⟩
 refine⟨I.ok,I.os,I.bare,⟨λb o e n t f=>?_,λb o e n t f=>?_,λb o e n f=>I.base.free b o e n f,λb o e f=>?_,λb xs e=>I.base.tups b xs e,λb o xs e=>I.base.frzs b o xs e,λb O e=>I.base.tbls b O e⟩,?_,λx c e=>?_,I.free,λx c e=>I.freeC x c e,λp L=>?_,λb u e=>?_,I.len⟩
 .exact keep b o (y b (D b o e) t) (h b o e f) (I.base.keep b o e n t f)
 .obtain⟨j,B⟩:=I.base.slot b o e n t f;obtain⟨C,A⟩:=any b _ (h b o e f) B;exact⟨C,A⟩
 .obtain⟨P,B⟩:=I.base.there b o e f;obtain⟨j,A⟩:=any b P (h b o e f) B;exact⟨_,A⟩
 .obtain⟨m,⟨o,es,ep,F,r⟩,Q⟩:=I.loc;obtain⟨j,S⟩:=any X.env.locals o (λz=>(a _ z).1.loc rfl) F;refine⟨m,⟨_,es,ep,S,r⟩,λi x v B A V=>?_⟩;obtain⟨u,N,l⟩:=Q i x v B A V;refine⟨u,N,?_⟩;rcases l with l|⟨k,c,e,z⟩
  .exact .inl l
  .exact .inr ⟨k,c,e,g x c e _ z⟩
 .obtain⟨v,z⟩:=I.cell x c e;exact⟨v,g x c e v z⟩
 .obtain⟨e,n,K,J,d⟩:=I.pin p L;have E:p.1∉ch:=λz=>by
   rcases cM.mp L with q|q
   .exact (a p.1 z).1.pin p q rfl
   .exact (a p.1 z).2 p q rfl
  exact⟨keep p.1 p.2 (y p.1 K J) E e,n,K,J,d⟩
 .refine (I.hok b u e).stay (λc v R q=>?_) (λ_ q=>q) λ_ _ q=>q;rcases R with z|z
  .subst z;exact keep c v (w c u e) (G c u e) q
  .exact keep c v (w c _ z) (G c _ z) q
structure iN(X:Cx)(e0:Env)(out:List Env)(L:aE):Prop where
 stk:X.stack=e0::out
 f0:e0.frame=aA L
 fe:X.env.frame=aA L
noncomputable abbrev XW:=aC->Option aE->St->Hp->Prop
inductive XP(X:Cx)(W:XW)(e:aC)(s:Shared):Prop where
 |mk (x:aE) (cls:aC) (d:Option aE) (σ:St) (H:Hp) (T:Option aE) (fl:aC) (ee:e=.ref x) (i:Inv X [] σ H s) (ox:cN X H x) (ot:∀t∈T.toList,cN X H t) (r:Ge s.heap x cls d T fl) (hf:fl=.none\/∃L,X.env.frame=aA L/\fl=cF L) (w:W cls d σ H)
theorem Y2{T:Option aE}(I:Inv X [] σ H s)(ox:cN X H x)(f:∀t∈T.toList,cN X H t)(c:dO (eJ X.stack) x T (aA t) s.heap h') :
  Inv X [] σ H {s with heap:=h'}/\cN X H t:=by
 refine⟨uK (ch:=x::T.toList) I (λb h=>⟨?_,λp g=>absurd g (by simp)⟩) (λb o d a e=>?_) (λb o d a e=>?_),?_⟩
 .rcases dG.mp h with z|z
  .rw[z];exact ox
  .exact f b z
 .exact c.keep b o e d (λz=>a (by simp[z])) (λz=>a (eH _ z))
 .exact c.slot b o e d (λz=>a (by simp[z])) (λz=>a (eH _ z))
 .rcases c.newT t (by simp) with z|z
  .exact f t z
  .exact wy I (iJ z)
theorem je{W:XW}(F:iN X e0 out L)(b:A.frames=aA X.stack)(p:XP X W e s)
  (h:∀x cls d σ H T h',e=.ref x->Inv X [] σ H {s with heap:=h'}->cN X H x->cN X H T->d6 h' x T cls d (cF L)->W cls d σ H->Q () {s with heap:=h'}):wpAny M A (oY e X.env) Q E s:=by
 obtain⟨x,cls,d,σ,H,T,fl,rfl,I,g,k,n,f,w⟩:=p;have a:=I.stack;rw[F.stk] at b a;refine Ti b a F.fe F.f0 n (f.imp_right λ⟨r,i,o⟩=>by rw[F.fe] at i;cases i;exact o) λh' t j m=>?_;have c:dO (eJ X.stack) x T (aA t) s.heap h':=by rw[F.stk];exact m
 obtain⟨q,l⟩:=Y2 I g k c;exact h x cls d σ H t h' rfl q g l j w
theorem zF(I:Inv X [] σ H s)(ox:cN X H x)(c:cN X H T)(b:d6 s.heap x T cls d fl)
  (h:∀h',Inv X [] σ H {s with heap:=h'}->d6 h' x T cls d (fr.elim .none λf=>cF f)->Q () {s with heap:=h'}):wpAny M A (lO (.ref x) fr) Q E s:=by
 refine K4 (fs:=eJ X.stack) b λh' a e=>h h' (Y2 (T:=aA T) I ox (λt g=>?_) e).1 a;have:t=T:=by simpa using g
 rw[this];exact c
theorem jd{W:XW}(F:iN X e0 out L)(f:X.A.frames=aA X.stack):nr M X.A X.env (XP X W):=by
 intro e s p;unfold notedBy;refine je F f p λx cls d k H T j ee I h i g w=>?_;subst ee;unfold se;obtain⟨z,v,G,l,y,q,B,hd,m,c,C,o,r,D,_⟩:=id g;refine wpAny_bind (gD q hd c ?_);rw[if_neg (show ¬((b9 T==dP)=aB) from by simp)];rw[F.fe]
 have go:wpAny M X.A (lO (.ref x) (aA L)) (λ_ b=>XP X W (.ref x) b) (XP X W) {s with heap:=j}:=
  zF (s:={s with heap:=j}) I h i g λE u a=>⟨x,cls,d,k,H,aA T,cF L,rfl,u,h,λt n=>by
   have:t=T:=by simpa using n
   rw[this];exact i,a,.inr ⟨L,F.fe,rfl⟩,w⟩
 first|exact go|exact wpAny_bind (wpAny_pure go)
inductive CXP(P:Program)(w:World)(outer:List Env)(H:Hp)(s:Shared)(E:XK)(e:aC)(s':Shared):Prop where
 |mk (x T:aE) (cls:aC) (d:Option aE) (H':Hp) (ee:e=.ref x) (o:s'.os=s.os) (b:iP s'.gens) (n:Un (eJ outer) [] H H' s.heap s'.heap) (k:c_ P w H' s'.heap) (h1:s.heap.get? x=aF) (h2:s.heap.get? T=aF) (h3:H' x=aF) (h4:H' T=aF) (t:d6 s'.heap x T cls d .none) (q:E cls d H')
noncomputable def cG (P:bZ)(w:cX):ng:=CXP P w
noncomputable def eI (E:XK):XW:=λc d _ H=>E c d H
theorem Jq(F:iN X e0 out L)(i:X.A.frames=aA X.stack)(hex:X.ex=[])(p:XP X (eI E) e s) :
  wpAny M X.A (oQ X.env e) (λ_ g=>cG X.prog X.w X.outer X.H₀ X.s₀ E e g) F2 s:=by
 unfold oQ;refine wpAny_bind (je F i p λx cls d m H T l ee I f h k w=>?_);subst ee;refine zF (s:={s with heap:=l}) I f h k λn a c=>?_;have j:∀b,cN X H b->X.s₀.heap.get? b=aF:=λb o=>o.new.resolve_left (by rw[hex];simp);refine⟨x,T,cls,d,H,rfl,a.os,a.bare,?_,a.hok,j x f,j T h,f.free,h.free,c,w⟩;have:=a.base;rw[hex] at this;exact this
theorem xJ{W:XW}(I:Inv X pins σ H s)(c:cG X.prog X.w X.stack H s E e j)(h:∀cls d H',E cls d H'->W cls d σ H'):XP X W e j:=by
 obtain⟨x,T,cls,d,H',rfl,os,a,un,g,nx,l,fx,q,i,w⟩:=c;have J:Inv X pins σ H' j:=I.call' (ch:=[]) os un g a λb z=>absurd z (by simp);have k:∀b,s.heap.get? b=aF->H' b=aF->cN X H' b:=λb e f=>by
  have o:=wy I e;exact⟨f,o.loc,o.nfs,o.new,o.cel,o.pin⟩
 refine⟨x,cls,d,σ,H',aA T,.none,rfl,J.pins_of (λp n=>absurd n (by simp)),k x nx fx,λt m=>?_,i,.inl rfl,h cls d H' w⟩;have:t=T:=by simpa using m
 rw[this];exact k T l q
theorem PF{W:XW}{args:List aC}(I:Inv X pins σ H s)(mk:nE s.heap d x (.ref C) args)(w:W (.ref C) aF σ H):XP X W (.ref x) {s with heap:=d}:=by
 have J:Inv X pins σ H {s with heap:=d,toks:=s.toks}:=I.kept mk.keeps;obtain⟨t,c,_,_⟩:=mk.there;exact⟨x,.ref C,aF,σ,H,aF,.none,rfl,J.pins_of (λp b=>absurd b (by simp)),wy I mk.new,λt a=>absurd a (by simp),⟨⟨_,_,.ref t,c,⟨rfl,rfl⟩,rfl,rfl,rfl,λ_ _=>rfl⟩,rfl⟩,.inl rfl,w⟩
noncomputable abbrev Cx.pin'(X:Cx)(pins:List (aE×a_)):Cx:={X with pn:=X.pn++pins}
noncomputable abbrev Cx.han(X:Cx)(x:aE):Cx:={X with A:=X.A.mark (aA (.ref x)),calm:=aD,xe:=λ_ _=>False}
theorem HS(ok:X.Ok):(Cx.pin' X pins).Ok:=⟨ok.mod,ok.kind,ok.glob,ok.blt,ok.above,ok.inj,ok.has,ok.cab,ok.hd,ok.frames,ok.stk,ok.exf,ok.bs,ok.bsz,ok.noex,ok.exfs,ok.funs,ok.frf⟩
theorem VT(ok:(Cx.pin' X pins).Ok):X.Ok:=⟨ok.mod,ok.kind,ok.glob,ok.blt,ok.above,ok.inj,ok.has,ok.cab,ok.hd,ok.frames,ok.stk,ok.exf,ok.bs,ok.bsz,ok.noex,ok.exfs,ok.funs,ok.frf⟩
theorem O7(ok:X.Ok):(Cx.han X x).Ok:=⟨ok.mod,ok.kind,ok.glob,ok.blt,ok.above,ok.inj,ok.has,ok.cab,(λh=>by cases h),ok.frames,ok.stk,ok.exf,ok.bs,ok.bsz,ok.noex,ok.exfs,ok.funs,ok.frf⟩
theorem ZE(I:Inv X pins σ H s):Inv (Cx.pin' X pins) [] σ H s:=⟨HS I.ok,I.os,I.bare,I.base,I.loc,I.cell,I.free,I.freeC,λp a=>I.pin p (by simpa using a),I.hok,I.len⟩
theorem zk(I:Inv (Cx.pin' X pins) [] σ H s):Inv X pins σ H s:=⟨VT I.ok,I.os,I.bare,I.base,I.loc,I.cell,I.free,I.freeC,λp a=>I.pin p (by simpa using a),I.hok,I.len⟩
theorem xf(I:Inv X pins σ H s):Inv (Cx.han X x) pins σ H s:=⟨O7 I.ok,I.os,I.bare,I.base,I.loc,I.cell,I.free,I.freeC,I.pin,I.hok,I.len⟩
theorem jh(ok:X.Ok)(I:Inv (Cx.han X x) pins σ H s):Inv X pins σ H s:=⟨ok,I.os,I.bare,I.base,I.loc,I.cell,I.free,I.freeC,I.pin,I.hok,I.len⟩
theorem wF{W:XW}(p:XP (X.wish E) W e s):XP X W e s:=by
 obtain⟨x,cls,d,f,H,T,fl,a,I,b,c,r,h,g⟩:=p;exact⟨x,cls,d,f,H,T,fl,a,I.unwish,⟨b.free,b.loc,b.nfs,b.new,b.cel,b.pin⟩,λt i=>let b:=c t i;⟨b.free,b.loc,b.nfs,b.new,b.cel,b.pin⟩,r,h,g⟩
end
end NH
namespace NH
open PySem
inductive T where
 |non|bl (b:Bool)|int (i:Int)|str (x:aG)
 |tup (ts:List T)|lst (ts:List T)|obj (c:Nat) (fs:List (Nat×T))
 |mut (i:Nat)
 |exc (c:Nat) (fs:List (Nat×T))
 |dic (kvs:List (L2.Key×T))
 |clo (j:Nat) (cs:List T)
inductive MO where
 |lst (ts:List T)|obj (c:Nat) (fs:List (Nat×T))|dic (kvs:List (L2.Key×T))
 |tab (j:Nat)|dct (ks:List (Int×Int))|frd (ep:Nat) (kvs:List (L2.Key×T))
noncomputable abbrev Jd:MO->Bool
 |.tab _=>aB
 |_=>aD
noncomputable abbrev aI:=List MO
noncomputable abbrev Sl:=List (Option T)
mutual
def vE:T->Bool
 |.mut _=>aD
 |.tup a=>yu a
 |.lst a=>yu a
 |.obj _ fs=>vu fs
 |.exc _ fs=>vu fs
 |.dic b=>XX b
 |.clo _ cs=>yu cs
 |_=>aB
def yu:List T->Bool
 |[]=>aB
 |t::r=>vE t&&yu r
def vu:List (Nat×T)->Bool
 |[]=>aB
 |p::r=>vE p.2&&vu r
def XX:List (L2.Key×T)->Bool
 |[]=>aB
 |p::r=>vE p.2&&XX r
end
noncomputable abbrev Xp:=Nat->List (Nat×T)->aI->Prop
noncomputable abbrev RE(β:Type):=(β->aI->Prop)->Xp->Prop
noncomputable abbrev RE.ok{β:Type}(a:β)(b:aI):RE β:=λK _=>K a b
noncomputable abbrev RE.st{β:Type}:RE β:=λ_ _=>False
noncomputable abbrev RE.bind{β b:Type}(r:RE b)(k:b->aI->RE β):RE β:=λK Z=>r (λa c=>k a c K Z) Z
noncomputable abbrev RE.grd{β:Type}(p:Prop)(r:RE β):RE β:=λK Z=>p/\r K Z
noncomputable abbrev RE.som{β b:Type}(o:Option b)(k:b->RE β):RE β:=λK Z=>∃a,o=aA a/\k a K Z
@[reducible] noncomputable def oC(b:Bool)(A B:Prop):Prop:=match b with
 |true=>A
 |false=>B
noncomputable abbrev RE.br{β:Type}(b:Bool)(r s:RE β):RE β:=λK Z=>oC b (r K Z) (s K Z)
structure En where
 nx:Sl->aI->Prop
 rt:T->aI->Prop
 bk:Sl->aI->Prop
 ct:Sl->aI->Prop
 ex:Nat->List (Nat×T)->Sl->aI->Prop
noncomputable abbrev bV:=En->Prop
noncomputable abbrev En.nxt(E:En)(f:Sl->aI->Prop):En:=⟨f,E.rt,E.bk,E.ct,E.ex⟩
noncomputable abbrev En.turn(E:En)(N:Sl->aI->Prop):En:=⟨N,E.rt,E.nx,N,E.ex⟩
noncomputable abbrev En.tri(E:En)(X:Nat->List (Nat×T)->Sl->aI->Prop):En:=⟨E.nx,E.rt,E.bk,E.ct,X⟩
noncomputable abbrev En.fn(K:T->aI->Prop)(Z:Xp):En:=⟨λ_ a=>K .non a,K,λ_ _=>False,λ_ _=>False,λc fs _ a=>Z c fs a⟩
noncomputable abbrev bV.nx(τ:Sl)(a:aI):bV:=λE=>E.nx τ a
noncomputable abbrev bV.rt(t:T)(a:aI):bV:=λE=>E.rt t a
noncomputable abbrev bV.ex(c:Nat)(fs:List (Nat×T))(τ:Sl)(a:aI):bV:=λE=>E.ex c fs τ a
noncomputable abbrev bV.st:bV:=λ_=>False
noncomputable abbrev bV.grd(p:Prop)(o:bV):bV:=λE=>p/\o E
noncomputable abbrev bV.som{b:Type}(o:Option b)(k:b->bV):bV:=λE=>∃a,o=aA a/\k a E
noncomputable abbrev bV.br(b:Bool)(r s:bV):bV:=λE=>oC b (r E) (s E)
noncomputable abbrev bV.seq(o:bV)(f:Sl->aI->bV):bV:=λE=>o (E.nxt λτ a=>f τ a E)
noncomputable abbrev RE.out{β:Type}(r:RE β)(τ:Sl)(f:β->aI->bV):bV:=λE=>r (λa b=>f a b E) (λc fs b=>E.ex c fs τ b)
noncomputable abbrev Fn:=List T->aI->RE T
noncomputable abbrev De:=Sl->aI->RE T
noncomputable abbrev Dt:=Sl->aI->RE Bool
noncomputable abbrev Da:=Sl->aI->RE (List T)
noncomputable abbrev Ds:=Sl->aI->bV
noncomputable abbrev RI:=(List T->(aI->Prop)->aI->Prop)->Xp->Prop
noncomputable abbrev RI.ok(xs:List T)(o:aI->Prop)(a:aI):RI:=λK _=>K xs o a
noncomputable abbrev RI.st:RI:=λ_ _=>False
noncomputable abbrev RI.grd(p:Prop)(r:RI):RI:=λK Z=>p/\r K Z
noncomputable abbrev RI.go{β:Type}(r:RI)(k:List T->(aI->Prop)->aI->RE β):RE β:=λK Z=>r (λxs o a=>k xs o a K Z) Z
noncomputable abbrev RI.out(r:RI)(τ:Sl)(f:List T->(aI->Prop)->aI->bV):bV:=λE=>r (λxs o a=>f xs o a E) (λc fs a=>E.ex c fs τ a)
noncomputable abbrev RI.re(r:RI):RE (List T×(aI->Prop)):=λK Z=>r (λxs o a=>K (xs,o) a) Z
noncomputable abbrev RE.it{β:Type}(r:RE β)(k:β->aI->RI):RI:=λK Z=>r (λa b=>k a b K Z) Z
noncomputable abbrev Di:=Sl->aI->RI
abbrev f7:aI->Prop:=λ_=>True
abbrev lF(i:Nat)(xs:List T):aI->Prop:=λa=>a[i]?=aA (.lst xs)
structure bJ where
 jt:Nat
 qn:aG
 y:aG
 body:aH
 sc:Scope
 fr:List aG
 g:De
 sb:Option (aG×List bB)
noncomputable abbrev KU(j jt:Nat)(ts:List T):T:=.clo (300+j) (.clo (100+jt) []::ts.map λt=>.clo 200 [t])
inductive GM where
 |fn (f:Fn)
 |fnh (nm:aG) (f:Fn)
 |met (c:Nat) (nm:aG) (f:Fn)
 |mk (c:Nat) (frozen:Bool) (f:Fn)
 |cst (t:T)
 |xcl (c:Nat)
 |xcf (c:Nat) (f:Nat)
 |xbt (c:Nat) (n:String)
 |xin (c f:Nat) (nm fl:aG)
 |mkd (c:Nat) (nm:aG) (n:Nat) (f:Fn)
 |metd (c:Nat) (nm:aG) (n:Nat) (d:T) (f:Fn)
 |kpr
 |kap (ls:List bJ)
 |tbl (kvs:List (aG×Int))
 |none
 |bad
noncomputable abbrev kg(τ:Sl):Nat->Option T:=fL (motive:=λ_=>Nat->Option T) (λ_=>aF) (λo _ ih i=>oP (motive:=λ_=>Option T) o (λn _=>ih n) i) τ
noncomputable abbrev vx(τ:Sl):Nat->Option T->Sl:=fL (motive:=λ_=>Nat->Option T->Sl) (λ_ _=>[]) (λo r ih i t=>oP (motive:=λ_=>Sl) (t::r) (λn _=>o::ih n t) i) τ
theorem WY:∀{τ:Sl}{i:Nat}{t:T},kg τ i=aA t↔τ[i]?=aA (aA t)
 |[],_,_=>by simp
 |o::r,0,t=>by show o=aA t↔_;simp
 |o::r,n+1,t=>by
  show kg r n=aA t↔_;rw[WY (τ:=r) (i:=n)];simp
theorem va:∀{τ:Sl}{i:Nat}{t:Option T},vx τ i t=τ.set i t
 |[],_,_=>by simp
 |o::r,0,t=>rfl
 |o::r,n+1,t=>by
  show o::vx r n t=_;rw[va (τ:=r) (i:=n)];simp
noncomputable abbrev Qd(fs:List (Nat×T)):Nat->Option T:=fL (motive:=λ_=>Nat->Option T) (λ_=>aF) (λp _ ih i=>oS (motive:=λ_=>Option T) (ih i) (aA p.2) (cC p.1 i)) fs
noncomputable abbrev YI(f:Nat)(v:T)(fs:List (Nat×T)):List (Nat×T):=fL (motive:=λ_=>List (Nat×T)) [(f,v)] (λp r ih=>oS (motive:=λ_=>List (Nat×T)) (p::ih) ((p.1,v)::r) (cC p.1 f)) fs
theorem YP:Qd (p::r) i=match cC p.1 i with
  |true=>aA p.2
  |false=>Qd r i:=by
 show (oS (Qd r i) (aA p.2) (cC p.1 i):Option T)=_;cases cC p.1 i<;>rfl
theorem Ub:YI f v (p::r)=match cC p.1 f with
  |true=>(p.1,v)::r
  |false=>p::YI f v r:=by
 show (oS (p::YI f v r) ((p.1,v)::r) (cC p.1 f):List (Nat×T))=_;cases cC p.1 f<;>rfl
noncomputable def b7:List aG->aG->Option Nat
 |[],_=>aF
 |y::r,x=>if y=x then aA 0 else (b7 r x).map (·+1)
noncomputable abbrev oo:T->aI->Option Nat
 |.non,_=>aA 0
 |.bl _,_=>aA 1
 |.int _,_=>aA 2
 |.str _,_=>aA 3
 |.tup _,_=>aA 4
 |.lst _,_=>aA 5
 |.dic _,_=>aA 6
 |.exc c _,_=>aA c
 |.obj c _,_=>aA c
 |_,_=>aF
noncomputable abbrev BX:MO->Nat
 |.lst _=>5
 |.obj c _=>c
 |.dic _=>6
 |.tab _=>99
 |.dct _=>6
 |.frd _ _=>6
noncomputable abbrev rm(a b:Bool):Bool:=match a with
 |true=>b
 |false=>aD
noncomputable abbrev gX(a b:Bool):Bool:=match a with
 |true=>aB
 |false=>b
noncomputable abbrev zD(a c:Nat):Bool:=gX (cC a c) (gX (rm (cC a 1) (cC c 2)) (rm (dX 10 a) (rm (dX a 39) (gX (cC c 11) (rm (cC c 10) (dX 12 a))))))
noncomputable abbrev bR(t:Nat)(cs:List Nat):Bool:=fL (motive:=λ_=>Bool) aD (λc _ ih=>gX (zD t c) ih) cs
theorem vm:bR t (c::r)=gX (zD t c) (bR t r):=rfl
noncomputable def big:Int:=18446744073709551616
noncomputable def a9:Nat:=1000000
noncomputable abbrev xz:T->T->aI->RE T
 |.int i,.int j,a=>.ok (.int (i+j)) a
 |.str x,.str y,a=>.grd (x.length+y.length<=a9) (.ok (.str (x++y)) a)
 |.lst xs,.lst b,a=>.grd (xs.length+b.length<=a9) (.ok (.lst (xs++b)) a)
 |.tup xs,.tup b,a=>.grd (xs.length+b.length<=a9) (.ok (.tup (xs++b)) a)
 |.mut i,.lst b,a=>λK _=>∃xs,a[i]?=aA (.lst xs)/\xs.length+b.length<=a9/\K (.lst (xs++b)) a
 |.lst xs,.mut j,a=>λK _=>∃b,a[j]?=aA (.lst b)/\xs.length+b.length<=a9/\K (.lst (xs++b)) a
 |.mut i,.mut j,a=>λK _=>∃p:List T×List T,(a[i]?=aA (.lst p.1)/\a[j]?=aA (.lst p.2))/\p.1.length+p.2.length<=a9/\K (.lst (p.1++p.2)) a
 |_,_,_=>.st
noncomputable abbrev Ve(f:Int->Int->aI->RE T):T->T->aI->RE T
 |.int i,.int j,a=>f i j a
 |_,_,_=>.st
noncomputable abbrev wl:mx->T->T->aI->RE T
 |.Add=>xz
 |.Sub=>Ve λi j a=>.ok (.int (i-j)) a
 |.Mult=>Ve λi j a=>.grd ((-big<i/\i<big)\/(-big<j/\j<big)) (.ok (.int (i*j)) a)
 |.FloorDiv=>Ve λi j a=>.grd (0<j/\j<1606938044258990275541962092341162602522202993782792835301376) (.ok (.int (i / j)) a)
 |.Mod=>Ve λi j a=>.grd (0<j) (.ok (.int (i % j)) a)
 |.Pow=>Ve λi j a=>.grd (0<=j/\j<=1000000/\i.natAbs<18446744073709551616) (.ok (.int (i ^ j.toNat)) a)
 |.RShift=>Ve λi j a=>.grd (0<=j) (.ok (.int (i / 2 ^ j.toNat)) a)
 |.BitAnd=>Ve λi j a=>.ok (.int (Dq i j)) a
 |_=>λ_ _ _=>.st
mutual
def eqT:T->T->Option Bool
 |.int i,b=>match b with
  |.int j=>aA (i==j)
  |.bl k=>aA (i==(if k then 1 else 0))
  |.str _=>aA aD
  |.non=>aA aD
  |.tup _=>aA aD
  |.lst _=>aA aD
  |_=>aF
 |.bl k,b=>match b with
  |.int j=>aA ((if k then 1 else 0)==j)
  |.bl j=>aA (k==j)
  |.str _=>aA aD
  |.non=>aA aD
  |.tup _=>aA aD
  |.lst _=>aA aD
  |_=>aF
 |.str x,b=>match b with
  |.str y=>aA (x==y)
  |.int _=>aA aD
  |.bl _=>aA aD
  |.non=>aA aD
  |.tup _=>aA aD
  |.lst _=>aA aD
  |_=>aF
 |.non,b=>match b with
  |.non=>aA aB
  |.int _=>aA aD
  |.bl _=>aA aD
  |.str _=>aA aD
  |.tup _=>aA aD
  |.lst _=>aA aD
  |_=>aF
 |.tup xs,b=>match b with
  |.tup a=>cS xs a
  |.non=>aA aD
  |.int _=>aA aD
  |.bl _=>aA aD
  |.str _=>aA aD
  |.lst _=>aA aD
  |_=>aF
 |.lst xs,b=>match b with
  |.lst a=>cS xs a
  |.non=>aA aD
  |.int _=>aA aD
  |.bl _=>aA aD
  |.str _=>aA aD
  |.tup _=>aA aD
  |_=>aF
 |_,_=>aF
def cS:List T->List T->Option Bool
 |[],[]=>aA aB
 |[],_::_=>aA aD
 |_::_,[]=>aA aD
 |x::xs,y::c=>match eqT x y,cS xs c with
  |some a,aA b=>aA (a&&b)
  |_,_=>aF
end
mutual
def yl:T->Nat
 |.tup a=>w9 a+1
 |.lst a=>w9 a+1
 |_=>0
def w9:List T->Nat
 |[]=>0
 |t::r=>max (yl t) (w9 r)
end
noncomputable abbrev mX:T->T->Option Bool
 |.non,.non=>aA aB
 |.non,.int _=>aA aD|.int _,.non=>aA aD|.non,.bl _=>aA aD|.bl _,.non=>aA aD|.non,.str _=>aA aD|.str _,.non=>aA aD
 |.int i,.int j=>aA (decide (i=j))|.bl i,.bl j=>aA (decide (i=j))|.str i,.str j=>aA (decide (i=j))
 |.int _,.str _=>aA aD|.str _,.int _=>aA aD|.bl _,.str _=>aA aD|.str _,.bl _=>aA aD
 |_,_=>aF
noncomputable abbrev oB(x y:T)(c:aI)(k:Bool->RE T):RE T:=match x,y with
 |.tup xs,.tup a=>.grd (w9 xs<=40) (.som (cS xs a) k)
 |.lst xs,.lst a=>.grd (w9 xs<=40) (.som (cS xs a) k)
 |.mut i,.lst a=>λK Z=>∃xs,c[i]?=aA (.lst xs)/\RE.grd (w9 xs<=40) (.som (cS xs a) k) K Z
 |.lst xs,.mut j=>λK Z=>∃a,c[j]?=aA (.lst a)/\RE.grd (w9 xs<=40) (.som (cS xs a) k) K Z
 |.mut i,.mut j=>λK Z=>∃p:List T×List T,(c[i]?=aA (.lst p.1)/\c[j]?=aA (.lst p.2))/\RE.grd (w9 p.1<=40) (.som (cS p.1 p.2) k) K Z
 |x,y=>match mX x y with
  |some b=>k b
  |none=>.st
noncomputable def bT:List T->Option (List Int)
 |[]=>aA []
 |.int i::r=>(bT r).map (i::·)
 |_::_=>aF
noncomputable abbrev Iy(x y:T)(k:Bool->RE T):RE T:=match x,y with
 |.int i,.int j=>k (decide (i<j))
 |.tup xs,.tup c=>.som (bT xs) λd=>.som (bT c) λe=>k (HT.lexLt d e)
 |.str a,.str b=>k (decide (a.cps.toList<b.cps.toList))
 |_,_=>.st
noncomputable abbrev yn(op:dA)(x y:T)(c:aI):RE T:=
 match op with
 |.Eq=>oB x y c λb=>.ok (.bl b) c
 |.NotEq=>oB x y c λb=>.ok (.bl (!b)) c
 |.Lt=>Iy x y λb=>.ok (.bl b) c
 |.LtE=>match x,y with|.int i,.int j=>.ok (.bl (decide (i<=j))) c|_,_=>.st
 |.Gt=>match x,y with|.int i,.int j=>.ok (.bl (decide (j<i))) c|_,_=>.st
 |.GtE=>match x,y with|.int i,.int j=>.ok (.bl (decide (j<=i))) c|_,_=>.st
 |.Is=>(match y with
  |.non=>.ok (.bl (match x with|.non=>aB|_=>aD)) c
  |.bl b=>(match x with|.bl a=>.ok (.bl (decide (a=b))) c|_=>.st)
  |_=>.st)
 |.IsNot=>(match y with
  |.non=>.ok (.bl (match x with|.non=>aD|_=>aB)) c
  |.bl b=>(match x with|.bl a=>.ok (.bl (!decide (a=b))) c|_=>.st)
  |_=>.st)
 |.In=>(match x,y with|.str i,.str j=>.ok (.bl (!(nT j i 0 j.length 1).isEmpty)) c|_,_=>.st)
 |.NotIn=>(match x,y with|.str i,.str j=>.ok (.bl (!(!(nT j i 0 j.length 1).isEmpty))) c|_,_=>.st)
noncomputable abbrev xu:T->aI->RE Bool
 |.bl b,a=>.ok b a
 |_,_=>.st
noncomputable abbrev eC(t:T):De:=λ_ a=>.ok t a
noncomputable abbrev eV(i:Nat):De:=λa b=>match kg a i with
 |some t=>.ok t b
 |none=>.st
noncomputable abbrev eBin(op:mx)(f g:De):De:=λc d=>(f c d).bind λx b=>(g c b).bind λy a=>wl op x y a
noncomputable abbrev FG(f:De):De:=λb c=>(f b c).bind λx a=>match x with|.int i=>.ok (.int (-i)) a|_=>.st
noncomputable abbrev eNot(f:De):De:=λc d=>(f c d).bind λx a=>match x with|.bl b=>.ok (.bl (!b)) a|_=>.st
noncomputable abbrev eAnd(f g:De):De:=λc d=>(f c d).bind λx a=>match x with|.bl b=>.br b (g c a) (.ok (.bl aD) a)|_=>.st
noncomputable abbrev eOr(f g:De):De:=λc d=>(f c d).bind λx a=>match x with|.bl b=>.br b (.ok (.bl aB) a) (g c a)|_=>.st
noncomputable abbrev eCmp(op:dA)(f g:De):De:=λc d=>(f c d).bind λx b=>(g c b).bind λy a=>yn op x y a
noncomputable abbrev IK(op:dA)(d:Bool)(ih:T->Sl->aI->RE T)(x y:T)(τ:Sl)(c:aI):RE T:=match d with
 |true=>yn op x y c
 |false=>(yn op x y c).bind λk a=>match k with
  |.bl b=>.br b (ih y τ a) (.ok (.bl aD) a)
  |_=>.st
noncomputable abbrev JY(ps:List (dA×De)):T->Sl->aI->RE T:=fL (motive:=λ_=>T->Sl->aI->RE T) (λ_ _ _=>.st) (λp r ih x b c=>(p.2 b c).bind λy a=>IK p.1 r.isEmpty ih x y b a) ps
noncomputable abbrev eCh(f:De)(ps:List (dA×De)):De:=λb c=>(f b c).bind λx a=>JY ps x b a
noncomputable abbrev tE(f:De):Dt:=λa b=>(f a b).bind xu
noncomputable abbrev tAnd(f g:Dt):Dt:=λc d=>(f c d).bind λb a=>.br b (g c a) (.ok aD a)
noncomputable abbrev tOr(f g:Dt):Dt:=λc d=>(f c d).bind λb a=>.br b (.ok aB a) (g c a)
noncomputable abbrev tNot(f:Dt):Dt:=λc d=>(f c d).bind λb a=>.ok (!b) a
noncomputable abbrev eIf(c:Dt)(f g:De):De:=λd e=>(c d e).bind λb a=>.br b (f d a) (g d a)
noncomputable abbrev yi(t:T)(f:Nat)(a:aI):RE T:=match t with
 |.obj _ fs=>(match Qd fs f with|some v=>.ok v a|none=>.st)
 |.mut i=>λK _=>∃c fs v,a[i]?=aA (.obj c fs)/\Qd fs f=aA v/\K v a
 |_=>.st
noncomputable abbrev eFld(f:De)(n:Nat):De:=λb c=>(f b c).bind λt a=>yi t n a
noncomputable def ro(n:Nat)(i:Int):Option Nat:=if 0<=i then (if i<n then aA i.toNat else aF) else if -(n:Int)<=i then aA (i+n).toNat else aF
noncomputable def xT {α:Type}(xs:List α)(i:Int):Option α:=(ro xs.length i).bind λj=>xs[j]?
noncomputable abbrev BI(t i:T)(b:aI):RE T:=match i with
 |.int k=>(match t with
  |.lst a=>.som (xT a k) λv=>.ok v b
  |.tup a=>.som (xT a k) λv=>.ok v b
  |.mut j=>λK _=>∃a v,b[j]?=aA (.lst a)/\xT a k=aA v/\K v b
  |.str z=>.grd (z.length<=a9) (.som (xT z.cps.toList k) λc=>.ok (.str ⟨#[c]⟩) b)
  |_=>.st)
 |_=>.st
noncomputable abbrev eIx(f g:De):De:=λc d=>(f c d).bind λx b=>(g c b).bind λy a=>BI x y a
noncomputable def nZ(n d:Nat):Option Int->Nat
 |none=>d
 |some v=>if v<0 then (v+(n:Int)).toNat else min v.toNat n
noncomputable def ZP {α:Type}(xs:List α)(lo a:Option Int):List α:=(xs.drop (nZ xs.length 0 lo)).take (nZ xs.length xs.length a-nZ xs.length 0 lo)
noncomputable abbrev Dp:=Sl->aI->RE (Option Int)
noncomputable abbrev pN:Dp:=λ_ a=>.ok aF a
noncomputable abbrev pS(f:De):Dp:=λb c=>(f b c).bind λt a=>match t with|.int i=>.ok (aA i) a|_=>.st
noncomputable abbrev v6(x:T)(l h:Option Int)(a:aI):RE T:=match x with
 |.lst xs=>.ok (.lst (ZP xs l h)) a
 |.tup xs=>.ok (.tup (ZP xs l h)) a
 |.str z=>.grd (z.length<=a9) (.ok (.str (rX z l h)) a)
 |.mut i=>λK _=>∃b,a[i]?=aA (.lst b)/\K (.lst (ZP b l h)) a
 |_=>.st
noncomputable abbrev eSl(f:De)(lo g:Dp):De:=λa e=>(f a e).bind λx d=>(lo a d).bind λl c=>(g a c).bind λh b=>v6 x l h b
noncomputable abbrev fB(fs:List De):Da:=fL (motive:=λ_=>Da) (λ_ c=>.ok [] c) (λf _ ih d c=>(f d c).bind λt b=>(ih d b).bind λe a=>.ok (t::e) a) fs
noncomputable abbrev eLst(fs:List De):De:=λb c=>(fB fs b c).bind λd a=>.ok (.lst d) a
noncomputable abbrev eTup(fs:List De):De:=λb c=>(fB fs b c).bind λd a=>.ok (.tup d) a
noncomputable abbrev eLay(fs:List De):De:=λb c=>(fB fs b c).bind λd a=>.ok (.mut a.length) (a++[.lst d])
noncomputable abbrev eCall(g:Fn)(fs:List De):De:=λa b=>(fB fs a b).bind g
noncomputable abbrev VI(c:Nat)(g:Fn)(ts:List T)(b:aI):RE T:=λK Z=>
 yu ts=aB/\g (.mut 0::ts) [.obj c []] (λr a=>r=.non/\∃fs,a[0]?=aA (.obj c fs)/\vu fs=aB/\K (.obj c fs) b) (λk fs _=>vu fs=aB/\Z k fs b)
noncomputable abbrev eMk(c:Nat)(g:Fn)(fs:List De):De:=λa b=>(fB fs a b).bind (VI c g)
noncomputable abbrev YF(cs:List Nat)(x:T)(a:aI):RE T:=match x with
 |.mut i=>.som a[i]? λo=>.br (Jd o) .st (.ok (.bl (bR (BX o) cs)) a)
 |x=>match oo x a with
  |some t=>.ok (.bl (bR t cs)) a
  |none=>.st
noncomputable abbrev eIsi(cs:List Nat)(f:De):De:=λa b=>(f a b).bind (YF cs)
noncomputable abbrev eB1(op:T->aI->RE T)(f:De):De:=λa b=>(f a b).bind op
noncomputable abbrev lenT(t:T)(a:aI):RE T:=match t with
 |.lst xs=>.ok (.int xs.length) a
 |.tup xs=>.ok (.int xs.length) a
 |.str s=>.grd (s.length<=a9) (.ok (.int s.length) a)
 |.mut i=>λK _=>∃xs,a[i]?=aA (.lst xs)/\K (.int xs.length) a
 |_=>.st
noncomputable abbrev tupleT(t:T)(a:aI):RE T:=match t with
 |.lst xs=>.ok (.tup xs) a
 |.mut i=>λK _=>∃xs,a[i]?=aA (.lst xs)/\K (.tup xs) a
 |_=>.st
noncomputable abbrev listT(t:T)(a:aI):RE T:=match t with
 |.lst xs=>.ok (.lst xs) a
 |.tup xs=>.ok (.lst xs) a
 |.mut i=>λK _=>∃xs,a[i]?=aA (.lst xs)/\K (.lst xs) a
 |_=>.st
noncomputable abbrev layT(t:T)(a:aI):RE T:=match t with
 |.lst xs=>.ok (.mut a.length) (a++[.lst xs])
 |.tup xs=>.ok (.mut a.length) (a++[.lst xs])
 |.mut i=>λK _=>∃xs,a[i]?=aA (.lst xs)/\K (.mut a.length) (a++[.lst xs])
 |_=>.st
noncomputable def dN:List T->Option (List Bool)
 |[]=>aA []
 |.bl b::r=>(dN r).map (b::·)
 |_::_=>aF
noncomputable abbrev allT(t:T)(a:aI):RE T:=match t with
 |.lst xs=>.som (dN xs) λbs=>.ok (.bl (bs.all id)) a
 |_=>.st
noncomputable abbrev eApp(o f:De):De:=λd e=>(o d e).bind λg b=>match g with
 |.mut i=>λK Z=>(∃c,b[i]?=aA (.lst c))/\f d b (λt a=>∃c,a[i]?=aA (.lst c)/\c.length<a9/\K .non (a.set i (.lst (c++[t])))) Z
 |_=>.st
noncomputable def bM:List T->Option (List aG)
 |[]=>aA []
 |.str x::r=>(bM r).map (x::·)
 |_::_=>aF
noncomputable abbrev joinRT(a:aG)(t:T)(d:aI):RE T:=match t with
 |.lst c=>.som (bM c) λb=>.grd (g_ a b.reverse=aB/\b.length<=a9) (.ok (.str (iG a b.reverse)) d)
 |.mut i=>λK _=>∃c b,d[i]?=aA (.lst c)/\bM c=aA b/\(g_ a b.reverse=aB/\b.length<=a9)/\K (.str (iG a b.reverse)) d
 |_=>.st
noncomputable abbrev Kk(z:aG):List T:=z.cps.toList.map λc=>T.str ⟨#[c]⟩
noncomputable abbrev Im(t:T)(a:aI):RI:=match t with
 |.lst xs=>.ok xs f7 a
 |.tup xs=>.ok xs f7 a
 |.str z=>.ok (Kk z) f7 a
 |.mut i=>λK _=>∃xs,a[i]?=aA (.lst xs)/\K xs (lF i xs) a
 |_=>.st
noncomputable abbrev iE(f:De):Di:=λa b=>(f a b).it Im
noncomputable def rangeT(n:Int):List T:=(hX n.toNat).map λ(i:Nat)=>T.int i
noncomputable def X1(a b c:Int):List T:=(hX (if a<b then (b-a-1) / c+1 else 0:Int).toNat).map λ(i:Nat)=>T.int (a+i*c)
noncomputable abbrev mh(a:Int):Prop := -1606938044258990275541962092341162602522202993782792835301376<=a/\a<1606938044258990275541962092341162602522202993782792835301376
noncomputable abbrev iRng(f:De):Di:=λb c=>(f b c).it λt a=>match t with
 |.int n=>.grd (mh n) (.ok (rangeT n) f7 a)
 |_=>.st
noncomputable abbrev iRng2(f g:De):Di:=λe h=>(f e h).it λx d=>(g e d).it λy c=>match x,y with
 |.int a,.int b=>.grd (mh a/\mh b) (.ok (X1 a b 1) f7 c)
 |_,_=>.st
inductive Tg where
 |one (i:Nat)|tup (is:List Nat)
noncomputable abbrev VX(is:List Nat):List T->Sl->Option Sl:=fL (motive:=λ_=>List T->Sl->Option Sl) (λc a=>fL (motive:=λ_=>Option Sl) (aA a) (λ_ _ _=>aF) c) (λi _ ih c a=>fL (motive:=λ_=>Option Sl) aF (λt b _=>ih b (vx a i (aA t))) c) is
noncomputable abbrev iM:Tg->T->Sl->Option Sl
 |.one i,t,a=>aA (vx a i (aA t))
 |.tup c,.tup b,a=>VX c b a
 |_,_,_=>aF
noncomputable def vp(tg:Tg)(g:Sl->aI->RE (Option T))(lv:aI->Prop)(τ:Sl):List T->aI->RE (List T)
 |[],d=>.ok [] d
 |x::r,d=>.som (iM tg x τ) λb=>(g b d).bind λo a=>.grd (lv a) (match o with
  |some y=>(vp tg g lv τ r a).bind λe c=>.ok (y::e) c
  |none=>vp tg g lv τ r a)
noncomputable abbrev yg(cs:List Dt)(f:De):Sl->aI->RE (Option T):=fL (motive:=λ_=>Sl->aI->RE (Option T)) (λd e=>(f d e).bind λy a=>.ok (aA y) a) (λc _ ih d e=>(c d e).bind λb a=>.br b (ih d a) (.ok aF a)) cs
noncomputable abbrev Kc(is:List Nat)(τ:Sl):Sl:=fL (motive:=λ_=>Sl) [] (λi _ ih=>kg τ i::ih) is
noncomputable abbrev fQ(n:Nat)(fs:List Nat)(τ:Sl):Sl:=oP (motive:=λ_=>Sl) (Kc fs τ) (λ_ ih=>aF::ih) n
noncomputable abbrev eComp(n:Nat)(fs:List Nat)(tg:Tg)(it:Di)(cs:List Dt)(f:De):De:=λc d=>(it c d).go λxs o b=>.grd (xs.length<=a9) ((vp tg (yg cs f) o (fQ n fs c) xs b).bind λe a=>.ok (.lst e) a)
noncomputable abbrev eCompL(n:Nat)(fs:List Nat)(tg:Tg)(it:Di)(cs:List Dt)(f:De):De:=λc d=>(it c d).go λxs o b=>.grd (xs.length<=a9) ((vp tg (yg cs f) o (fQ n fs c) xs b).bind λe a=>.ok (.mut a.length) (a++[.lst e]))
noncomputable abbrev sRet(f:De):Ds:=λb c=>(f b c).out b λt a=>.rt t a
noncomputable abbrev sRetN:Ds:=λ_ a=>.rt .non a
noncomputable abbrev sExpr(f:De):Ds:=λa c=>(f a c).out a λ_ b=>.nx a b
noncomputable abbrev zK(c:List Ds):Ds:=fL (motive:=λ_=>Ds) (λa b=>.nx a b) (λs _ ih a b=>(s a b).seq ih) c
noncomputable abbrev sIf(c:Dt)(a b:List Ds):Ds:=λe f=>(c e f).out e λk d=>.br k (zK a e d) (zK b e d)
noncomputable abbrev sSet(i:Nat)(f:De):Ds:=λa c=>(f a c).out a λt b=>.nx (vx a i (aA t)) b
noncomputable abbrev F9(is:List Nat)(f:De):Ds:=λb d=>(f b d).out b λt c=>.som (iM (.tup is) t b) λa=>.nx a c
noncomputable abbrev sFld(o:De)(n:Nat)(f:De):Ds:=λa e=>(f a e).out a λt d=>(o a d).out a λg b=>match g with
 |.mut i=>λE=>∃c fs,b[i]?=aA (.obj c fs)/\fs.length<900/\E.nx a (b.set i (.obj c (YI n t fs)))
 |_=>.st
noncomputable abbrev Fw(o b f:De):Ds:=λa h=>(f a h).out a λt e=>(o a e).out a λj d=>(b a d).out a λit c=>match j,it with
 |.mut i,.int k=>λE=>∃g,c[i]?=aA (.lst g)/\(0<=k/\k<g.length/\k<9223372036854775808)/\E.nx a (c.set i (.lst (g.set k.toNat t)))
 |_,_=>.st
noncomputable def eK(tg:Tg)(body:Ds)(lv:aI->Prop):List T->Ds
 |[],d,e=>.nx d e
 |x::r,d,e=>.som (iM tg x d) λc=>λE=>body c e (E.turn λb a=>lv a/\eK tg body lv r b a E)
noncomputable abbrev sFor(tg:Tg)(it:Di)(body:List Ds):Ds:=λa c=>(it a c).out a λxs o b=>eK tg (zK body) o xs a b
noncomputable def sWhile(c:Dt)(body:List Ds):Ds:=λd e E=>∃I:Nat->Sl->aI->Prop,(∃n,I n d e)/\∀n d e,I n d e->
 c d e (λb a=>oC b (zK body d a (E.turn λf g=>∃m,m<n/\I m f g)) (E.nx d a)) (λk fs a=>E.ex k fs d a)
noncomputable abbrev sRaise(c:Nat)(fs:List De):Ds:=λa d=>(fB fs a d).out a λe b=>.grd (e.length<=a9) (.ex c [] a b)
noncomputable abbrev sRaiseF(c f:Nat)(g:De):Ds:=λa d=>(g a d).out a λt b=>match t with
 |.int i=>.grd (i.natAbs.log2<1920) (.ex c [(f,.int i)] a b)
 |_=>.st
noncomputable abbrev AM(i:Option Nat)(v:List Ds)(k:Nat)(fs:List (Nat×T))(τ:Sl)(c:aI):bV:=λE=>match i with
 |some j=>zK v (vx τ j (aA (.exc k fs))) c {nx:=λa b=>E.nx (vx a j aF) b,rt:=E.rt,bk:=λ_ _=>False,ct:=λ_ _=>False,ex:=λ_ _ _ _=>False}
 |none=>zK v τ c {nx:=E.nx,rt:=E.rt,bk:=λ_ _=>False,ct:=λ_ _=>False,ex:=λ_ _ _ _=>False}
noncomputable abbrev U3(hs:List (List Nat×Option Nat×List Ds)):Nat->List (Nat×T)->Sl->aI->bV:=fL (motive:=λ_=>Nat->List (Nat×T)->Sl->aI->bV) (λk fs a b=>.ex k fs a b) (λp _ ih k fs a b=>.br (bR k p.1) (AM p.2.1 p.2.2 k fs a b) (ih k fs a b)) hs
noncomputable abbrev sTry(b:List Ds)(hs:List (List Nat×Option Nat×List Ds)):Ds:=λd e E=>zK b d e (E.tri λk fs a c=>U3 hs k fs a c E)
noncomputable abbrev B0(n:Nat):Sl:=oP (motive:=λ_=>Sl) [] (λ_ ih=>aF::ih) n
noncomputable abbrev K_(ts:List T)(n:Nat):Sl:=fL (motive:=λ_=>Sl) (B0 n) (λt _ ih=>aA t::ih) ts
noncomputable abbrev bA(n m:Nat)(body:List Ds):Fn:=λa b K Z=>a.length=n/\zK body (K_ a m) b (En.fn K Z)
end NH
namespace NH
open PySem PySem.Spec PyProof.Rows L2
section
structure DP where
 K:bH
 adr:Nat->Option aE
 cad:Nat->Option aE
 fn:Nat->Option aG
 inj:∀i j x,fn i=aA x->fn j=aA x->i=j
 clo:Nat->aE->Option HO->List V->Prop
 tabs:Nat->Option (aE×List Pos×aG)
noncomputable def Qy (a C:aE)(d:Option aE):aT->Prop:=λh=>∃b c,h.get? a=aA b/\b.cls=.ref C/\b.data=.fields c/\b.dict=d
noncomputable def UL(x:Int×Int):Int:=reduceHash (Lo [hashInt x.1,hashInt x.2])
noncomputable def GF(a:aE)(xs:List ((Int×Int)×aE)):aT->Prop:=λh=>∃o es ep,h.get? a=aA o/\o.ExactDict/\o.data=.dict es ep/\es.toList=xs.map λx=>(⟨UL x.1,.ref x.2,.bool aB⟩:oX)
noncomputable def qt(c:aE)(qn:aG):aT->Prop:=λh=>h.CodeRec (.ref c) qn
inductive DMu(α:List aE)(i:Nat)(v:V):Prop|mk (a:aE) (h:α[i]?=aA a) (e:v=.ref a)
inductive IU(φ α:List aE)(H:Hp)(c:List V->HO)(L:List V->Prop)(v:V):Prop|mk (a:aE) (xs:List V) (e:v=.ref a) (n1:a∉φ) (n2:a∉α) (r:Rd H a (c xs)) (l:L xs)
inductive DOb(φ α:List aE)(H:Hp)(ca:Option aE)(L:List (aG×V)->Prop)(v:V):Prop|mk (a C dx:aE) (gs:List (aG×V)) (e:v=.ref a) (n1:a∉φ) (n2:a∉α) (ad:ca=aA C) (q:H a=aA (.ins C dx gs)) (l:L gs)
inductive DEx(φ α:List aE)(H:Hp)(ca:Option aE)(L:Option aE->Prop)(v:V):Prop|mk (a C:aE) (d:Option aE) (e:v=.ref a) (n1:a∉φ) (n2:a∉α) (ad:ca=aA C) (q:H a=aA (.ext (Qy a C d))) (l:L d)
inductive DDi(φ α:List aE)(H:Hp)(L:List (Key×V)->Prop)(v:V):Prop|mk (a:aE) (gs:List (Key×V)) (e:v=.ref a) (n1:a∉φ) (n2:a∉α) (q:H a=aA (.dK gs)) (l:L gs)
inductive DCl(φ α:List aE)(H:Hp)(c:aE->Option HO->List V->Prop)(L:List V->Prop)(v:V):Prop|mk (a:aE) (ob:Option HO) (xs:List V) (e:v=.ref a) (h:c a ob xs) (o:∀o,ob=aA o->a∉φ/\a∉α/\H a=aA o) (l:L xs)
inductive DCo(P:V->Prop)(L:List V->Prop)(vs:List V):Prop|mk (v:V) (r:List V) (e:vs=v::r) (d:P v) (l:L r)
inductive DCf(x:Option aG)(P:V->Prop)(L:List (aG×V)->Prop)(vs:List (aG×V)):Prop|mk (y:aG) (v:V) (r:List (aG×V)) (h:x=aA y) (e:vs=(y,v)::r) (d:P v) (l:L r)
inductive DCk(k:Key)(P:V->Prop)(L:List (Key×V)->Prop)(vs:List (Key×V)):Prop|mk (v:V) (r:List (Key×V)) (e:vs=(k,v)::r) (d:P v) (l:L r)
inductive IT(φ α:List aE)(H:Hp)(dx:aE)(L:List (aG×V)->Prop):Prop|mk (gs:List (aG×V)) (n1:dx∉φ) (n2:dx∉α) (q:H dx=aA (.xd gs)) (l:L gs)
mutual
def a6 (D:DP)(φ α:List aE)(H:Hp):T->V->Prop
 |.non,v=>v=.non
 |.bl b,v=>v=.bl b
 |.int i,v=>v=.int i
 |.str x,v=>v=.str x
 |.mut i,v=>DMu α i v
 |.tup a,v=>IU φ α H .tup (aM D φ α H a) v
 |.lst a,v=>IU φ α H .lst (aM D φ α H a) v
 |.obj c fs,v=>DOb φ α H (D.cad c) (bD D φ α H fs) v
 |.exc c fs,v=>DEx φ α H (D.adr c) (λd=>match d with
  |none=>fs=[]
  |some dx=>IT φ α H dx (bD D φ α H fs)) v
 |.dic e,v=>DDi φ α H (bF D φ α H e) v
 |.clo j cs,v=>DCl φ α H (D.clo j) (aM D φ α H cs) v
def aM (D:DP)(φ α:List aE)(H:Hp):List T->List V->Prop
 |[],a=>a=[]
 |t::b,a=>DCo (a6 D φ α H t) (aM D φ α H b) a
def bD (D:DP)(φ α:List aE)(H:Hp):List (Nat×T)->List (aG×V)->Prop
 |[],gs=>gs=[]
 |p::fs,gs=>DCf (D.fn p.1) (a6 D φ α H p.2) (bD D φ α H fs) gs
def bF (D:DP)(φ α:List aE)(H:Hp):List (Key×T)->List (Key×V)->Prop
 |[],gs=>gs=[]
 |p::fs,gs=>DCk p.1 (a6 D φ α H p.2) (bF D φ α H fs) gs
end
noncomputable def lG(c:Nat):Option String:=if c=8 then aA "KeyError" else if c=9 then aA "ZeroDivisionError" else aF
inductive gJ(D:DP)(c:Nat)(fs:List (Nat×T))(cv:aC):Prop where
 |own (C:aE) (ad:D.adr c=aA C) (e:cv=.ref C\/(fs.length≠1/\cv=.int (C:Int) 0))
 |blt (n:String) (h:lG c=aA n) (hn:D.adr c=aF) (e:cv=.type n)
theorem ua{C:aE}{p:Prop}{cv:aC}(e:cv=.ref C\/(p/\cv=.int (C:Int) 0)):stC cv=.ref C:=by
 rcases e with rfl|⟨_,rfl⟩
 .rfl
 .show b9 (Int.toNat (C:Int))=_;rw[Int.toNat_natCast]
noncomputable def bO(D:DP)(φ α:List aE)(H:Hp)(fs:List (Nat×T)):Option aE->Prop
 |none=>fs=[]
 |some dx=>IT φ α H dx (bD D φ α H fs)
inductive OLs(H:Hp)(a:aE)(L:List V->Prop):Prop|mk (xs:List V) (q:H a=aA (.lst xs)) (l:L xs)
inductive OOb(H:Hp)(a:aE)(ca:Option aE)(L:List (aG×V)->Prop):Prop|mk (C dx:aE) (gs:List (aG×V)) (ad:ca=aA C) (q:H a=aA (.ins C dx gs)) (l:L gs)
inductive ODi(H:Hp)(a:aE)(L:List (Key×V)->Prop):Prop|mk (gs:List (Key×V)) (q:H a=aA (.dK gs)) (l:L gs)
inductive OTb(D:DP)(φ α:List aE)(H:Hp)(j:Nat)(a:aE):Prop|mk (poss:List Pos) (qn:aG) (ps:Array aC) (h1:D.tabs j=aA (a,poss,qn)) (h2:H a=aA (.tbl ps)) (h3:TriplesOk ps.toList) (h4:∀pos∈poss,codeAmong pos ps.toList=aF\/∃c,codeAmong pos ps.toList=aA (.ref c)/\c∉φ/\c∉α/\H c=aA (.ext (qt c qn)))
inductive ODc(φ α:List aE)(H:Hp)(ks:List (Int×Int))(a:aE):Prop|mk (xs:List ((Int×Int)×aE)) (h1:ks=xs.map (·.1)) (h2:ks.Nodup) (h3:ks.length<=100000) (h4:(a==sysModules)=aD) (h5:H a=aA (.ext (GF a xs))) (h6:∀x∈xs,x.2∉φ/\x.2∉α/\Rd H x.2 (.tup [.int x.1.1,.int x.1.2]))
inductive OFr(H:Hp)(a:aE)(ep:Nat)(L:List (Key×V)->Prop):Prop|mk (gs:List (Key×V)) (q:H a=aA (.dE ep gs)) (l:L gs)
noncomputable def cQ (D:DP)(φ α:List aE)(H:Hp):MO->aE->Prop
 |.lst d,a=>OLs H a (aM D φ α H d)
 |.obj c fs,a=>OOb H a (D.cad c) (bD D φ α H fs)
 |.dic b,a=>ODi H a (bF D φ α H b)
 |.tab j,a=>OTb D φ α H j a
 |.dct e,a=>ODc φ α H e a
 |.frd ep b,a=>OFr H a ep (bF D φ α H b)
structure aP(α:List aE)(H:Hp)(α':List aE)(H':Hp):Prop where
 ext:∃β,α'=α++β/\∀b∈β,H b=aF
 keep:∀b o,b∉α->H b=aA o->H' b=aA o
 live:∀b,H' b=aF->H b=aF
theorem aP.refl(α:List aE)(H:Hp):aP α H α H:=⟨⟨[],by simp,by simp⟩,λ_ _ _ e=>e,λ_ e=>e⟩
theorem aP.trans(a:aP α H j r)(b:aP j r g m):aP α H g m:=by
 obtain⟨β,rfl,d⟩:=a.ext;obtain⟨i,rfl,f⟩:=b.ext;refine⟨⟨β++i,by simp,λc k=>?_⟩,λc o n e=>?_,λc e=>a.live c (b.live c e)⟩
 .rcases cM.mp k with h|h
  .exact d c h
  .exact a.live c (f c h)
 .refine b.keep c o (λh=>?_) (a.keep c o n e);rcases cM.mp h with h|h
  .exact n h
  .rw[d c h] at e;cases e
theorem aP.new(s:j6 H H'):aP α H α H':=⟨⟨[],by simp,by simp⟩,λb o _ e=>s b o e,λb e=>by
 cases q:H b with
 |none=>rfl
 |some o=>rw[s b o q] at e;cases e⟩
theorem z7(h:H p=aF):j6 H (aX H p o):=λb u e=>by rw[z6 (zu e h)];exact e
theorem aP.out(s:aP α H d H')(n:a∉α)(e:H a=aA o):a∉d:=by
 obtain⟨β,rfl,b⟩:=s.ext;intro h;rcases cM.mp h with h|h
 .exact n h
 .rw[b a h] at e;cases e
section
variable {D:DP}{φ φ' α α':List aE}{H H':Hp}
structure Lk(φ α:List aE)(H:Hp)(φ' α':List aE)(H':Hp):Prop where
 ob:∀a o,a∉φ->a∉α->H a=aA o->a∉φ'/\a∉α'/\H' a=aA o
 st:∀(i:Nat) (a:aE),α[i]?=aA a->α'[i]?=aA a
mutual
theorem a6.lk(h:Lk φ α H φ' α' H'):∀{t:T}{v:V},a6 D φ α H t v->a6 D φ' α' H' t v
 |.non,_,d=>d
 |.bl _,_,d=>d
 |.int _,_,d=>d
 |.str _,_,d=>d
 |.mut i,_,d=>by obtain⟨a,e,q⟩:=d;exact⟨a,h.st i a e,q⟩
 |.tup ts,_,d=>by
  obtain⟨a,xs,rfl,f,b,r,l⟩:=d;rcases r with r|⟨o,r⟩
  .obtain⟨k,g,e⟩:=h.ob a _ f b r;exact⟨a,xs,rfl,k,g,.inl e,aM.lk h l⟩
  .obtain⟨k,g,e⟩:=h.ob a _ f b r;exact⟨a,xs,rfl,k,g,.inr ⟨o,e⟩,aM.lk h l⟩
 |.lst ts,_,d=>by
  obtain⟨a,xs,rfl,f,b,r,l⟩:=d;rcases r with r|⟨o,r⟩
  .obtain⟨k,g,e⟩:=h.ob a _ f b r;exact⟨a,xs,rfl,k,g,.inl e,aM.lk h l⟩
  .obtain⟨k,g,e⟩:=h.ob a _ f b r;exact⟨a,xs,rfl,k,g,.inr ⟨o,e⟩,aM.lk h l⟩
 |.obj c fs,_,d=>by
  obtain⟨a,C,dx,gs,rfl,f,b,ad,e,l⟩:=d;obtain⟨k,g,e⟩:=h.ob a _ f b e;exact⟨a,C,dx,gs,rfl,k,g,ad,e,bD.lk h l⟩
 |.exc c fs,_,d=>by
  obtain⟨a,C,d,rfl,f,b,ad,e,l⟩:=d;obtain⟨k,g,e⟩:=h.ob a _ f b e;refine⟨a,C,d,rfl,k,g,ad,e,?_⟩;cases d with
  |none=>exact l
  |some dx=>
   obtain⟨gs,k1,k2,m,l⟩:=l;obtain⟨k1,k2,m⟩:=h.ob dx _ k1 k2 m;exact⟨gs,k1,k2,m,bD.lk h l⟩
 |.dic n,_,d=>by
  obtain⟨a,gs,rfl,f,b,e,l⟩:=d;obtain⟨k,g,e⟩:=h.ob a _ f b e;exact⟨a,gs,rfl,k,g,e,bF.lk h l⟩
 |.clo j cs,_,d=>by
  obtain⟨a,ob,xs,rfl,c,e,l⟩:=d;exact⟨a,ob,xs,rfl,c,λo z=>let ⟨f,b,q⟩:=e o z;h.ob a o f b q,aM.lk h l⟩
theorem aM.lk(h:Lk φ α H φ' α' H'):∀{ts:List T}{vs:List V},aM D φ α H ts vs->aM D φ' α' H' ts vs
 |[],_,l=>l
 |t::ts,_,l=>by
  obtain⟨v,r,rfl,a,b⟩:=l;exact⟨v,r,rfl,a6.lk h a,aM.lk h b⟩
theorem bD.lk(h:Lk φ α H φ' α' H'):∀{fs:List (Nat×T)}{gs:List (aG×V)},bD D φ α H fs gs->bD D φ' α' H' fs gs
 |[],_,l=>l
 |p::fs,_,l=>by
  obtain⟨x,v,r,e,rfl,a,b⟩:=l;exact⟨x,v,r,e,rfl,a6.lk h a,bD.lk h b⟩
theorem bF.lk(h:Lk φ α H φ' α' H'):∀{fs:List (Key×T)}{gs:List (Key×V)},bF D φ α H fs gs->bF D φ' α' H' fs gs
 |[],_,l=>l
 |p::fs,_,l=>by
  obtain⟨v,r,rfl,a,b⟩:=l;exact⟨v,r,rfl,a6.lk h a,bF.lk h b⟩
end
theorem aP.lk(s:aP α H α' H'):Lk φ α H φ α' H':=⟨λa o c b e=>⟨c,s.out b e,s.keep a o b e⟩,λi a e=>by
 obtain⟨β,rfl,_⟩:=s.ext;rw[eL (cH.mp e).1];exact e⟩
theorem a6.step(s:aP α H α' H')(d:a6 D φ α H t v):a6 D φ α' H' t v:=d.lk s.lk
theorem aM.step(s:aP α H α' H')(d:aM D φ α H t v):aM D φ α' H' t v:=d.lk s.lk
theorem bD.step(s:aP α H α' H')(d:bD D φ α H t v):bD D φ α' H' t v:=d.lk s.lk
theorem bF.step(s:aP α H α' H')(d:bF D φ α H t v):bF D φ α' H' t v:=d.lk s.lk
theorem bO.lk(h:Lk φ α H φ' α' H')(x:bO D φ α H fs d):bO D φ' α' H' fs d:=by
 cases d with
 |none=>exact x
 |some dx=>
  obtain⟨gs,k1,k2,a,l⟩:=x;obtain⟨k1,k2,a⟩:=h.ob dx _ k1 k2 a;exact⟨gs,k1,k2,a,bD.lk h l⟩
mutual
theorem a6.hide:∀{t:T}{v:V},vE t=aB->a6 D φ α H t v->(∀a,a∉φ->a∉α->a∉φ'/\a∉β)->a6 D φ' β H t v
 |.non,_,_,h,_=>h
 |.bl _,_,_,h,_=>h
 |.int _,_,_,h,_=>h
 |.str _,_,_,h,_=>h
 |.mut i,_,p,_,_=>by simp[vE] at p
 |.tup ts,_,p,h,k=>by
  obtain⟨a,xs,rfl,f,b,r,l⟩:=h;exact⟨a,xs,rfl,(k a f b).1,(k a f b).2,r,aM.hide (by simpa[vE] using p) l k⟩
 |.lst ts,_,p,h,k=>by
  obtain⟨a,xs,rfl,f,b,r,l⟩:=h;exact⟨a,xs,rfl,(k a f b).1,(k a f b).2,r,aM.hide (by simpa[vE] using p) l k⟩
 |.obj c fs,_,p,h,k=>by
  obtain⟨a,C,dx,gs,rfl,f,b,ad,e,l⟩:=h;exact⟨a,C,dx,gs,rfl,(k a f b).1,(k a f b).2,ad,e,bD.hide (by simpa[vE] using p) l k⟩
 |.exc c fs,_,p,h,k=>by
  obtain⟨a,C,d,rfl,f,b,ad,e,l⟩:=h;refine⟨a,C,d,rfl,(k a f b).1,(k a f b).2,ad,e,?_⟩;cases d with
  |none=>exact l
  |some dx=>
   obtain⟨gs,k1,k2,m,l⟩:=l;exact⟨gs,(k dx k1 k2).1,(k dx k1 k2).2,m,bD.hide (by simpa[vE] using p) l k⟩
 |.dic g,_,p,h,k=>by
  obtain⟨a,gs,rfl,f,b,e,l⟩:=h;exact⟨a,gs,rfl,(k a f b).1,(k a f b).2,e,bF.hide (by simpa[vE] using p) l k⟩
 |.clo j cs,_,p,h,k=>by
  obtain⟨a,ob,xs,rfl,c,e,l⟩:=h;exact⟨a,ob,xs,rfl,c,λo z=>let ⟨f,b,q⟩:=e o z;⟨(k a f b).1,(k a f b).2,q⟩,aM.hide (by simpa[vE] using p) l k⟩
theorem aM.hide:∀{ts:List T}{vs:List V},yu ts=aB->aM D φ α H ts vs->(∀a,a∉φ->a∉α->a∉φ'/\a∉β)->aM D φ' β H ts vs
 |[],_,_,h,_=>h
 |t::ts,_,p,h,k=>by
  obtain⟨v,r,rfl,a,b⟩:=h;simp only[yu,bK] at p;exact⟨v,r,rfl,a6.hide p.1 a k,aM.hide p.2 b k⟩
theorem bD.hide:∀{fs:List (Nat×T)}{gs:List (aG×V)},vu fs=aB->bD D φ α H fs gs->(∀a,a∉φ->a∉α->a∉φ'/\a∉β)->bD D φ' β H fs gs
 |[],_,_,h,_=>h
 |q::fs,_,p,h,k=>by
  obtain⟨x,v,r,e,rfl,a,b⟩:=h;simp only[vu,bK] at p;exact⟨x,v,r,e,rfl,a6.hide p.1 a k,bD.hide p.2 b k⟩
theorem bF.hide:∀{fs:List (Key×T)}{gs:List (Key×V)},XX fs=aB->bF D φ α H fs gs->(∀a,a∉φ->a∉α->a∉φ'/\a∉β)->bF D φ' β H fs gs
 |[],_,_,h,_=>h
 |q::fs,_,p,h,k=>by
  obtain⟨v,r,rfl,a,b⟩:=h;simp only[XX,bK] at p;exact⟨v,r,rfl,a6.hide p.1 a k,bF.hide p.2 b k⟩
end
theorem bO.hide(p:vu fs=aB)(x:bO D φ α H fs d)(k:∀a,a∉φ->a∉α->a∉φ'/\a∉β):bO D φ' β H fs d:=by
 cases d with
 |none=>exact x
 |some dx=>
  obtain⟨gs,k1,k2,b,l⟩:=x;exact⟨gs,(k dx k1 k2).1,(k dx k1 k2).2,b,bD.hide p l k⟩
theorem Sg:∀a:aE,a∉φ->a∉α->a∉φ++α/\a∉([]:List aE):=λa c b=>⟨λz=>(cM.mp z).elim c b,by simp⟩
theorem J8{β:List aE}:∀a:aE,a∉φ++α->a∉β->a∉φ/\a∉α:=λa b _=>⟨λz=>b (d9 _ z),λz=>b (dR _ z)⟩
theorem aM.length:∀{ts:List T}{vs:List V},aM D φ α H ts vs->ts.length=vs.length
 |[],_,h=>by have:_=[]:=h;subst this;rfl
 |t::ts,_,h=>by
  obtain⟨v,r,rfl,_,b⟩:=h;simp[aM.length b]
theorem aM.get:∀{ts:List T}{vs:List V}{i:Nat}{t:T},aM D φ α H ts vs->ts[i]?=aA t->∃v,vs[i]?=aA v/\a6 D φ α H t v
 |[],_,_,_,_,e=>by simp at e
 |t::ts,_,0,_,h,e=>by
  obtain⟨v,r,rfl,a,b⟩:=h;simp at e;subst e;exact⟨v,rfl,a⟩
 |t::ts,_,i+1,u,h,e=>by
  obtain⟨v,r,rfl,a,b⟩:=h;obtain⟨w,c,d⟩:=aM.get (i:=i) (t:=u) b (by simpa using e);exact⟨w,by simpa using c,d⟩
theorem aM.append:∀{ts us:List T}{vs c:List V},aM D φ α H ts vs->aM D φ α H us c->aM D φ α H (ts++us) (vs++c)
 |[],us,_,c,h,k=>by have:_=[]:=h;subst this;exact k
 |t::ts,us,_,c,h,k=>by
  obtain⟨v,r,rfl,a,b⟩:=h;exact⟨v,r++c,rfl,a,aM.append b k⟩
theorem aM.drop:∀(n:Nat) {ts:List T}{vs:List V},aM D φ α H ts vs->aM D φ α H (ts.drop n) (vs.drop n)
 |0,_,_,h=>h
 |n+1,[],_,h=>by have:_=[]:=h;subst this;exact rfl
 |n+1,t::ts,_,h=>by
  obtain⟨v,r,rfl,a,b⟩:=h;exact aM.drop n b
theorem aM.take:∀(n:Nat) {ts:List T}{vs:List V},aM D φ α H ts vs->aM D φ α H (ts.take n) (vs.take n)
 |0,_,_,h=>by simp[aM]
 |n+1,[],_,h=>by have:_=[]:=h;subst this;exact rfl
 |n+1,t::ts,_,h=>by
  obtain⟨v,r,rfl,a,b⟩:=h;exact⟨v,r.take n,rfl,a,aM.take n b⟩
theorem aM.set:∀{ts:List T}{vs:List V}{i:Nat}{t:T}{v:V},aM D φ α H ts vs->a6 D φ α H t v->aM D φ α H (ts.set i t) (vs.set i v)
 |[],vs,i,t,v,l,d=>by have l:vs=[]:=l;subst l;exact rfl
 |x::ts,_,0,t,v,l,d=>by
  obtain⟨w,r,rfl,dw,l⟩:=l;exact⟨v,r,rfl,d,l⟩
 |x::ts,_,i+1,t,v,l,d=>by
  obtain⟨w,r,rfl,dw,l⟩:=l;exact⟨w,r.set i v,rfl,dw,aM.set l d⟩
theorem bD.look:∀{fs:List (Nat×T)}{gs:List (aG×V)}{f:Nat}{t:T},bD D φ α H fs gs->Qd fs f=aA t->∃x v,D.fn f=aA x/\gs.lookup x=aA v/\a6 D φ α H t v
 |[],_,_,_,_,e=>by simp[Qd] at e
 |p::fs,_,f,t,h,e=>by
  obtain⟨x,v,r,ex,rfl,a,b⟩:=h;rw[YP] at e;cases q:cC p.1 f with
  |true=>
   have d:=fJ q;rw[q] at e;have e:aA p.2=aA t:=e;cases e;exact⟨x,v,by rw[<-d];exact ex,by simp[fH],a⟩
  |false=>
   rw[q] at e;obtain⟨y,w,c,i,g⟩:=bD.look b e;refine⟨y,w,c,?_,g⟩;rw[fH];have ne:(y==x)=aD:=by
    refine beq_eq_false_iff_ne.mpr λz=>?_;subst z;have:=D.inj _ _ _ ex c;rw[this] at q;simp at q
   rw[ne];exact i
theorem bD.put(hx:D.fn f=aA x):∀{fs:List (Nat×T)}{gs:List (aG×V)},bD D φ α H fs gs->a6 D φ α H t w->bD D φ α H (YI f t fs) (wO x w gs)
 |[],gs,h,d=>by
  have:gs=[]:=h;subst this;exact⟨x,w,[],hx,rfl,d,rfl⟩
 |p::fs,gs,h,d=>by
  obtain⟨z,y,r,ez,rfl,dy,l⟩:=h;rw[Ub];show bD D φ α H _ (if z=x then (z,w)::r else (z,y)::wO x w r);cases q:cC p.1 f with
  |true=>
   have a:=fJ q;have:z=x:=by rw[a,hx] at ez;exact (bQ ez).symm
   rw[if_pos this];exact⟨z,w,r,ez,rfl,d,l⟩
  |false=>
   have:z≠x:=λe=>by
    subst e;have:=D.inj _ _ _ ez hx;rw[this] at q;simp at q
   rw[if_neg this];exact⟨z,y,wO x w r,ez,rfl,dy,bD.put hx l d⟩
theorem bD.length:∀{fs:List (Nat×T)}{gs:List (aG×V)},bD D φ α H fs gs->fs.length=gs.length
 |[],_,h=>by have:_=[]:=h;subst this;rfl
 |p::fs,_,h=>by
  obtain⟨x,v,r,_,rfl,_,b⟩:=h;simp[bD.length b]
noncomputable def rL:HO->Bool
 |.frz _ _=>aD
 |_=>aB
structure aL(D:DP)(φ α:List aE)(H:Hp)(μ:aI):Prop where
 len:α.length=μ.length
 nd:α.Nodup
 dis:∀b∈α,b∉φ
 phi:∀b∈φ,∃o,H b=aA o/\rL o=aB
 ob:∀(i:Nat) (a:aE) (o:MO),α[i]?=aA a->μ[i]?=aA o->cQ D φ α H o a
theorem cQ.lk(s:Lk φ α H φ' α' H')(e:H' a=H a)(h:cQ D φ α H o a):cQ D φ' α' H' o a:=by
 cases o with
 |lst ts=>
  obtain⟨xs,q,l⟩:=h;exact⟨xs,e.trans q,aM.lk s l⟩
 |obj c fs=>
  obtain⟨C,dx,gs,ad,q,l⟩:=h;exact⟨C,dx,gs,ad,e.trans q,bD.lk s l⟩
 |dic g=>
  obtain⟨xs,q,l⟩:=h;exact⟨xs,e.trans q,bF.lk s l⟩
 |tab j=>
  obtain⟨pos,qn,ps,n,m,k,i⟩:=h;refine⟨pos,qn,ps,n,e.trans m,k,λp t=>(i p t).imp id λ⟨c,k1,k2,k3,r⟩=>?_⟩;obtain⟨f,d,b⟩:=s.ob c _ k2 k3 r;exact⟨c,k1,f,d,b⟩
 |frd ep g=>
  obtain⟨xs,q,l⟩:=h;exact⟨xs,e.trans q,bF.lk s l⟩
 |dct ks=>
  obtain⟨xs,n,m,k,i,v,u⟩:=h;refine⟨xs,n,m,k,i,e.trans v,λx hx=>?_⟩;obtain⟨k1,k2,k3⟩:=u x hx;rcases k3 with k3|⟨o,k3⟩
  .obtain⟨f,d,b⟩:=s.ob _ _ k1 k2 k3;exact⟨f,d,.inl b⟩
  .obtain⟨f,d,b⟩:=s.ob _ _ k1 k2 k3;exact⟨f,d,.inr ⟨o,b⟩⟩
theorem cQ.step(s:aP α H α' H')(e:H' a=H a)(h:cQ D φ α H o a):cQ D φ α' H' o a:=h.lk s.lk e
theorem cQ.some(h:cQ D φ α H o a):∃u,H a=Option.some u/\rL u=aB:=by
 cases o with
 |lst ts=>obtain⟨xs,q,_⟩:=h;exact⟨_,q,rfl⟩
 |obj c fs=>obtain⟨C,dx,gs,_,q,_⟩:=h;exact⟨_,q,rfl⟩
 |dic ts=>obtain⟨xs,q,_⟩:=h;exact⟨_,q,rfl⟩
 |tab j=>obtain⟨_,_,ps,_,q,_⟩:=h;exact⟨_,q,rfl⟩
 |dct ks=>obtain⟨_,_,_,_,_,q,_⟩:=h;exact⟨_,q,rfl⟩
 |frd ep b=>obtain⟨xs,q,_⟩:=h;exact⟨_,q,rfl⟩
theorem aL.new(m:aL D φ α H g)(s:j6 H H'):aL D φ α H' g:=
 ⟨m.len,m.nd,m.dis,λb c=>let ⟨o,e,n⟩:=m.phi b c;⟨o,s b o e,n⟩,λi a o h f=>by
  have d:=m.ob i a o h f;obtain⟨u,q,_⟩:=d.some;exact d.step (aP.new s) ((s _ _ q).trans q.symm)⟩
theorem aL.lk(h:Lk φ α H φ' α H')(c:∀a∈α,H' a=H a/\a∉φ')(d:∀b∈φ',∃o,H' b=aA o/\rL o=aB)(m:aL D φ α H g):aL D φ' α H' g:=
 ⟨m.len,m.nd,λb f=>(c b f).2,d,λi a o e j=>(m.ob i a o e j).lk h (c a (cY e)).1⟩
structure aZ(D:DP)(φ α:List aE)(H:Hp)(τ:Sl)(σ:St):Prop where
 len:τ.length=σ.length
 val:∀(i:Nat) (t:T),τ[i]?=aA (aA t)->∃v,σ[i]?=aA (aA v)/\a6 D φ α H t v
theorem aZ.lk(r:aZ D φ α H τ g)(s:Lk φ α H φ' α' H'):aZ D φ' α' H' τ g:=⟨r.len,λi t e=>by
 obtain⟨v,q,d⟩:=r.val i t e;exact⟨v,q,d.lk s⟩⟩
theorem aZ.step(r:aZ D φ α H τ d)(s:aP α H α' H'):aZ D φ α' H' τ d:=r.lk s.lk
theorem aZ.set(r:aZ D φ α H τ g)(d:a6 D φ α H t v):aZ D φ α H (vx τ i (aA t)) (g.set i (aA v)):=by
 rw[va];refine⟨by simp[r.len],λj u e=>?_⟩;by_cases h:i=j
 .subst h;rw[tM] at e;cases q:τ[i]? with
  |none=>rw[q] at e;cases e
  |some o=>
   rw[q] at e;simp at e;subst e;have a:i<g.length:=by rw[<-r.len];exact (cH.mp q).1
   exact⟨v,by simp[a],d⟩
 .rw[l5 h] at e ⊢;exact r.val j u e
theorem aZ.unset(r:aZ D φ α H τ d):aZ D φ α H (vx τ i aF) (d.set i aF):=by
 rw[va];refine⟨by simp[r.len],λj t e=>?_⟩;by_cases h:i=j
 .subst h;rw[tM] at e;cases q:τ[i]? with
  |none=>rw[q] at e;cases e
  |some o=>rw[q] at e;cases e
 .rw[l5 h] at e ⊢;exact r.val j t e
theorem aZ.get(r:aZ D φ α H τ d)(e:kg τ i=aA t):∃v,d[i]?=aA (aA v)/\a6 D φ α H t v:=r.val i t (WY.mp e)
end
theorem yf(f:H b=aF):Lk φ α H (φ++[b]) α H:=by
 refine⟨λa o d c e=>⟨λz=>?_,c,e⟩,λ_ _ e=>e⟩;rcases cM.mp z with z|z
 .exact d z
 .rw[c8.mp z,f] at e;cases e
theorem JF(h:H b=aF)(s:j6 H H'):Lk φ α H (φ++[b]) α H':=⟨λa o g f e=>let ⟨d,c,i⟩:=(yf h).ob a o g f e;⟨d,c,s a o e⟩,λ_ _ e=>e⟩
theorem wJ:Lk (φ++[b]) α H φ α H:=⟨λa o d c e=>⟨λz=>d (d9 _ z),c,e⟩,λ_ _ e=>e⟩
theorem uk(f:b∈φ):Lk φ α H φ α (aX H b u):=⟨λa o c d e=>⟨c,d,by rw[z6 (λz:a=b=>c (by rw[z];exact f))];exact e⟩,λ_ _ e=>e⟩
end
inductive aJ(D:DP)(W:XW)(φ α:List aE)(H:Hp)(σ:St){β:Type}(R:β->aI->List aE->Hp->Prop)(r:RE β):Prop where
 |mk (K:β->aI->Prop) (Z:Xp) (q:r K Z) (h:(∀a μ',K a μ'->∀α' H',aP α H α' H'->aL D φ α' H' μ'->R a μ' α' H')/\
  ∀c fs μ',Z c fs μ'->∀α' H' cv d,aP α H α' H'->aL D φ α' H' μ'->gJ D c fs cv->bO D φ α' H' fs d->W cv d σ H')
inductive m_(D:DP)(H:Hp)(σ:St)(P:List aE->List aE->Sl->aI->Prop):Prop where
 |mk (φ α:List aE) (τ:Sl) (μ:aI) (sr:aZ D φ α H τ σ) (mr:aL D φ α H μ) (p:P φ α τ μ)
section
variable {D:DP}{W:XW}{φ α α':List aE}{H H':Hp}{σ:St}{β γ:Type}{R R':β->aI->List aE->Hp->Prop}
theorem aJ.mono(p:aJ D W φ α H σ R r)(h:∀a d α' H',aP α H α' H'->aL D φ α' H' d->R a d α' H'->R' a d α' H'):aJ D W φ α H σ R' r:=by
 obtain⟨K,Z,q,k,z⟩:=p;exact⟨K,Z,q,λa d e α' H' s m=>h a d α' H' s m (k a d e α' H' s m),z⟩
theorem aJ.bind{r:RE γ}(p:aJ D W φ α H σ R (r.bind k)):aJ D W φ α H σ (λa g α' H'=>aJ D W φ α' H' σ R (k a g)) r:=by
 obtain⟨K,Z,q,h,z⟩:=p;exact⟨λa o=>k a o K Z,Z,q,λa g e α' H' s m=>⟨K,Z,e,λb μ2 l f n i j=>h b μ2 l f n (s.trans i) j,λc fs μ2 l f n C d i j=>z c fs μ2 l f n C d (s.trans i) j⟩,z⟩
theorem aJ.elim{C:Prop}(p:aJ D W φ α H σ R RE.st):C:=by obtain⟨_,_,q,_⟩:=p;exact q.elim
theorem aJ.grd(p:aJ D W φ α H σ R (RE.grd c r)):c/\aJ D W φ α H σ R r:=by
 obtain⟨K,Z,q,h⟩:=p;exact⟨q.1,K,Z,q.2,h⟩
theorem aJ.som{k:γ->RE β}(p:aJ D W φ α H σ R (RE.som o k)):∃a,o=aA a/\aJ D W φ α H σ R (k a):=by
 obtain⟨K,Z,⟨a,e,q⟩,h⟩:=p;exact⟨a,e,K,Z,q,h⟩
theorem aJ.br(p:aJ D W φ α H σ R (RE.br b r s)):(b=aB/\aJ D W φ α H σ R r)\/(b=aD/\aJ D W φ α H σ R s):=by
 obtain⟨K,Z,q,h⟩:=p;cases b with
 |true=>exact .inl ⟨rfl,K,Z,q,h⟩
 |false=>exact .inr ⟨rfl,K,Z,q,h⟩
theorem aJ.ok(p:aJ D W φ α H σ R (RE.ok a d))(s:aP α H α' H')(m:aL D φ α' H' d):R a d α' H':=by
 obtain⟨K,Z,q,h,_⟩:=p;exact h a d q α' H' s m
theorem aJ.step(p:aJ D W φ α H σ R r)(st:aP α H α' H'):aJ D W φ α' H' σ R r:=by
 obtain⟨K,Z,q,h,z⟩:=p;exact⟨K,Z,q,λb μ2 g a i e f=>h b μ2 g a i (st.trans e) f,λc fs μ2 g a i C d e f=>z c fs μ2 g a i C d (st.trans e) f⟩
theorem aJ.ex1{a:Type}{P:a->Prop}{k:a->RE β}(p:aJ D W φ α H σ R (λK Z=>∃x,P x/\k x K Z)):∃x,P x/\aJ D W φ α H σ R (k x):=by
 obtain⟨K,Z,⟨x,hx,q⟩,h⟩:=p;exact⟨x,hx,K,Z,q,h⟩
end
noncomputable def aV (D:DP)(W:XW)(f:De):TE:=λc H Q=>m_ D H c λb h e g=>aJ D W b h H c (λt _ a d=>∀v,a6 D b a d t v->Q v d) (f e g)
noncomputable def dZ (D:DP)(W:XW)(f:Dt):TT:=λa H Q=>m_ D H a λc g d e=>aJ D W c g H a (λb _ _ h=>Q b h) (f d e)
noncomputable def oy (D:DP)(W:XW)(n:Nat)(f:Da):TA:=λd H Q=>m_ D H d λc i g h=>aJ D W c i H d (λj _ a e=>∀b,aM D c a e j b->b.length=n->Q b e) (f g h)
section
variable {X:Cx}{D:DP}{W:XW}{pins:List (aE×a_)}{s:Shared}{σ:St}{H:Hp}{φ α:List aE}{τ:Sl}{μ:aI}{β:Type}{R:β->aI->List aE->Hp->Prop}
inductive Ce(X:Cx)(D:DP)(W:XW)(pins:List (aE×a_))(σ:St)(H:Hp)(φ α:List aE)(τ:Sl){β:Type}(R:β->aI->List aE->Hp->Prop)(k:T->aI->RE β)(u:aC)(s1:Shared):Prop where
 |mk (v:V) (H1:Hp) (t:T) (μ1:aI) (α1:List aE) (i:Inv X pins σ H1 s1) (r:RelV v u) (st:aP α H α1 H1) (sr:aZ D φ α1 H1 τ σ) (mr:aL D φ α1 H1 μ1) (d:a6 D φ α1 H1 t v) (p:aJ D W φ α1 H1 σ R (k t μ1))
inductive Cd(X:Cx)(D:DP)(W:XW)(pins:List (aE×a_))(σ:St)(H:Hp)(φ α:List aE)(τ:Sl){β:Type}(R:β->aI->List aE->Hp->Prop)(k:Bool->aI->RE β)(b:Bool)(s1:Shared):Prop where
 |mk (H1:Hp) (μ1:aI) (α1:List aE) (i:Inv X pins σ H1 s1) (st:aP α H α1 H1) (sr:aZ D φ α1 H1 τ σ) (mr:aL D φ α1 H1 μ1) (p:aJ D W φ α1 H1 σ R (k b μ1))
inductive Cf(X:Cx)(D:DP)(W:XW)(pins:List (aE×a_))(σ:St)(H:Hp)(φ α:List aE)(τ:Sl){β:Type}(R:β->aI->List aE->Hp->Prop)(n:Nat)(k:List T->aI->RE β)(us:List aC)(s1:Shared):Prop where
 |mk (vs:List V) (H1:Hp) (ts:List T) (μ1:aI) (α1:List aE) (i:Inv X pins σ H1 s1) (r:aU vs us) (st:aP α H α1 H1) (sr:aZ D φ α1 H1 τ σ) (mr:aL D φ α1 H1 μ1) (d:aM D φ α1 H1 ts vs) (hn:vs.length=n) (p:aJ D W φ α1 H1 σ R (k ts μ1))
theorem sub{f:Sl->aI->RE T}(n:PE X a (aV D W f))(I:Inv X pins σ H s)(j:aZ D φ α H τ σ)(l:aL D φ α H μ)(p:aJ D W φ α H σ R ((f τ μ).bind k)) :
  wpAny (aR X.prog X.w) X.A (eval a X.env) (Ce X D W pins σ H φ α τ R k) X.xe s:=by
 refine aY (n pins s σ H (λv e=>∃t c b,aP α H b e/\aZ D φ b e τ σ/\aL D φ b e c/\a6 D φ b e t v/\aJ D W φ b e σ R (k t c)) I ⟨φ,α,τ,μ,j,l,p.bind.mono λt g i E st m q v d=>⟨t,g,i,st,j.step st,m,d,q⟩⟩) ?_;rintro u C ⟨v,e,B,r,t,c,b,z,y,x,o,h⟩;exact⟨v,e,t,c,b,B,r,z,y,x,o,h⟩
theorem E2{f:Sl->aI->RE Bool}(n:PT X a (dZ D W f))(I:Inv X pins σ H s)(j:aZ D φ α H τ σ)(l:aL D φ α H μ)(p:aJ D W φ α H σ R ((f τ μ).bind k)) :
  wpAny (aR X.prog X.w) X.A (isTrue a X.env (eval a X.env)) (Cd X D W pins σ H φ α τ R k) X.xe s:=by
 refine aY (n pins s σ H (λb e=>∃d c,aP α H c e/\aZ D φ c e τ σ/\aL D φ c e d/\aJ D W φ c e σ R (k b d)) I ⟨φ,α,τ,μ,j,l,p.bind.mono λb g i x st m q=>⟨g,i,st,j.step st,m,q⟩⟩) ?_;rintro b v ⟨e,u,d,c,t,r,o,h⟩;exact⟨e,d,c,u,t,r,o,h⟩
theorem n7(u:PA X es (oy D W n f))(I:Inv X pins σ H s)(l:aZ D φ α H τ σ)(o:aL D φ α H μ)(p:aJ D W φ α H σ R ((f τ μ).bind k)) :
  wpAny (aR X.prog X.w) X.A (spliced (eU pos (dC es X.env))) (Cf X D W pins σ H φ α τ R n k) X.xe s:=by
 refine aY (u pos pins s σ H (λg c=>∃e b a,aP α H a c/\aZ D φ a c τ σ/\aL D φ a c b/\aM D φ a c e g/\g.length=n/\aJ D W φ a c σ R (k e b)) I ⟨φ,α,τ,μ,l,o,p.bind.mono λe i j G st m q g d t=>⟨e,i,j,st,l.step st,m,d,t,q⟩⟩) ?_;rintro E F ⟨g,c,C,r,e,b,a,B,z,y,x,v,h⟩;exact⟨g,c,e,b,a,C,r,B,z,y,x,v,h⟩
abbrev RV(D:DP)(φ:List aE)(Q:VK):T->aI->List aE->Hp->Prop:=λt _ a b=>∀v,a6 D φ a b t v->Q v b
theorem aJ.here(p:aJ D W φ α H σ (RV D φ Q) (.ok t μ))(a:aL D φ α H μ)(d:a6 D φ α H t v):Q v H:=p.ok (aP.refl _ _) a v d
theorem aJ.fresh(p:aJ D W φ α H σ (RV D φ Q) (.ok t μ))(b:aL D φ α H μ)(a:j6 H H')(d:a6 D φ α H' t v):Q v H':=p.ok (aP.new a) (b.new a) v d
theorem zf(h:n<=a9):n<=sizeLine:=cV h (by unfold a9;decide)
theorem zb(a:aL D φ α H μ)(h:H p=aF):p∉φ:=λz=>by
 obtain⟨o,e,_⟩:=a.phi p z;rw[h] at e;cases e
theorem za(a:aL D φ α H μ)(h:H p=aF):p∉α:=λz=>by
 obtain⟨i,b⟩:=mU.mp z;have c:i<μ.length:=by rw[<-a.len];exact (cH.mp b).1
 obtain⟨u,e,_⟩:=(a.ob i p μ[i] b (by simp[c])).some;rw[h] at e;cases e
theorem qS:∀{ts:List T}{ns:List Int}{vs:List V},bT ts=aA ns->aM D φ α H ts vs->vs=ns.map V.int
 |[],ns,vs,h,l=>by
  simp[bT] at h;subst h;exact l
 |t::ts,ns,vs,h,l=>by
  obtain⟨v,r,rfl,d,l⟩:=l;cases t with
  |int i=>
   simp only[bT] at h;cases q:bT ts with
   |none=>rw[q] at h;cases h
   |some a=>
    rw[q] at h;cases h;rw[qS q l];have d:v=.int i:=d;rw[d];rfl
  |_=>simp[bT] at h
theorem XM:dB X (fM .Add) (λx y H Q=>∃l b xs zs,x=.ref l/\y=.ref b/\Rd H l (.lst xs)/\Rd H b (.lst zs)/\xs.length+zs.length<=sizeLine/\∀p,H p=aF->Q (.ref p) (aX H p (.lst (xs++zs)))):=by
 intro f s t H x y v u Q I j i h;obtain⟨l,b,xs,zs,rfl,rfl,k,m,g,q⟩:=h;cases j;cases i;obtain⟨z,c,n,r,e⟩:=k.ok I.hok;obtain⟨w,a,A,d,o⟩:=m.ok I.hok;refine PySem.P.add_list e o ?_ (by rw[dH,dH,<-r.length,<-d.length];exact g);rw[show c.toArray++a.toArray=(c++a).toArray by simp];exact⟨.ref _,_,I.lnew (t':=s.toks) (r.append d) (by rw[iI];exact g),rfl,q _ I.fresh⟩
theorem T9:dB X (fM .Add) (λx y H Q=>∃a b ys,x=.ref a/\y=.ref b/\eS X.K H a []/\eS X.K H b ys/\Q (.ref b) H):=by
 intro j s E H x y v u Q I t r h;obtain⟨a,b,ys,rfl,rfl,D,C,q⟩:=h;cases t;cases r;obtain⟨B,w,p1,_⟩:=I.tuple D;obtain⟨c,G,z,_⟩:=I.tuple C;cases w;obtain⟨⟨cls,dd,m,p⟩,k,l,n,hd⟩:=id p1;obtain⟨⟨o,i,data2,g⟩,d,f,A,e⟩:=id z;simp only at l hd f e;subst l hd f e
 exact sB ⟨_,k,rfl⟩ ⟨_,d,rfl⟩ tc sw tI tN (tX _ _)
  (tuple_addW0 a b #[] c.toArray n A dd i p g rfl) ⟨k,d,⟨.ref b,H,I,rfl,q⟩⟩
theorem TU:dB X (fM .FloorDiv) (rI (λ_ j=>0<j/\j<1606938044258990275541962092341162602522202993782792835301376) λi j=>.int (i / j)):=oz λi j _ _ _ _ _ a q=>by
 have c:(0:Int)<j:=a.1;have b:j<1606938044258990275541962092341162602522202993782792835301376:=a.2;refine floordiv_int (by omega) (by rw[EH i (by omega)];exact q) (.inl (PyProof.noPylong_of_log2 ?_));refine dI ((CD (by omega)).2 (show j.natAbs<2 ^ 200 by omega)) (by decide)
theorem v7{f:Int->Int->aI->RE T}{x:T}(p:aJ D W φ α H σ (RV D φ Q) (Ve f x y μ)):∃i j,x=.int i/\y=.int j/\aJ D W φ α H σ (RV D φ Q) (f i j μ):=by
 unfold Ve at p;split at p
 .exact⟨_,_,rfl,rfl,p⟩
 .exact p.elim
theorem Oc{op:mx}{x y:T}{L:V}{N M:aC}(I:Inv X pins σ H s)(c:aL D φ α H μ)(m:a6 D φ α H x L)(l:a6 D φ α H y U)(q:RelV L N)(n:RelV U M)
  (p:aJ D W φ α H σ (RV D φ Q) (wl op x y μ)):wpAny (aR X.prog X.w) X.A (fM op N M) (EP X pins σ Q) X.xe s:=by
 have F:∀{a b:aE}{d f:List V}{xs E:List T},Rd H a (.lst d)->Rd H b (.lst f)->aM D φ α H xs d->aM D φ α H E f->L=.ref a->U=.ref b->xs.length+E.length<=a9->aJ D W φ α H σ (RV D φ Q) (RE.ok (.lst (xs++E)) μ)->wpAny (aR X.prog X.w) X.A (fM .Add N M) (EP X pins σ Q) X.xe s:=λ{a b d f xs E} t r k g Y S h p=>by
  subst Y S;refine XM pins s σ H _ _ _ _ Q I q n ⟨a,b,d,f,rfl,rfl,t,r,by rw[<-k.length,<-g.length];exact zf h,λz B=>?_⟩;have u:=z7 (o:=.lst (d++f)) B;exact p.fresh c u ⟨z,_,rfl,zb c B,za c B,.inl z4,(k.step (aP.new u)).append (g.step (aP.new u))⟩
 cases op with
 |Add=>
  replace p:aJ D W φ α H σ (RV D φ Q) (xz x y μ):=p;unfold xz at p;split at p
  .cases m;cases l;exact OI pins s σ H _ _ _ _ Q I q n ⟨_,_,rfl,rfl,p.here c rfl⟩
  .cases m;cases l;obtain⟨h,p⟩:=p.grd;exact Kr pins s σ H _ _ _ _ Q I q n ⟨_,_,rfl,rfl,zf h,p.here c rfl⟩
  .obtain⟨h,p⟩:=p.grd;obtain⟨a,d,rfl,R,P,t,k⟩:=m;obtain⟨b,f,rfl,K,J,r,g⟩:=l;refine XM pins s σ H _ _ _ _ Q I q n ⟨a,b,d,f,rfl,rfl,t,r,by rw[<-k.length,<-g.length];exact zf h,λz B=>?_⟩;have u:=z7 (o:=.lst (d++f)) B;exact p.fresh c u ⟨z,_,rfl,zb c B,za c B,.inl z4,(k.step (aP.new u)).append (g.step (aP.new u))⟩
  .rename_i xs E;obtain⟨h,p⟩:=p.grd
   .obtain⟨a,d,rfl,R,P,t,k⟩:=m;obtain⟨b,f,rfl,K,J,r,g⟩:=l;cases d with
    |nil=>
     cases xs with
     |cons x xs=>obtain⟨_,_,e,_⟩:=k;cases e
     |nil=>exact T9 pins s σ H _ _ _ _ Q I q n ⟨a,b,f,rfl,rfl,.inl t,.inl r,p.here c ⟨b,f,rfl,K,J,r,g⟩⟩
    |cons v d=>
     refine Rc pins s σ H _ _ _ _ Q I q n ⟨a,b,v::d,f,rfl,rfl,.inl t,.inl r,by simp,by rw[<-k.length,<-g.length];exact zf h,λhw=>?_,λhw z B=>?_⟩
     .subst hw;cases E with
      |cons y E=>obtain⟨_,_,e,_⟩:=g;cases e
      |nil=>
       rw[hZ] at p;exact p.here c ⟨a,v::d,rfl,R,P,t,k⟩
     .have u:=z7 (o:=.tup (v::d++f)) B;exact p.fresh c u ⟨z,_,rfl,zb c B,za c B,.inl z4,(k.step (aP.new u)).append (g.step (aP.new u))⟩
  .obtain⟨xs,G,p⟩:=p.ex1;obtain⟨h,p⟩:=aJ.grd p;obtain⟨a,C,rfl⟩:=m;obtain⟨d,t,k⟩:=c.ob _ a _ C G;obtain⟨b,f,rfl,K,J,r,g⟩:=l;exact F (.inl t) r k g rfl rfl h p
  .obtain⟨E,G,p⟩:=p.ex1;obtain⟨h,p⟩:=aJ.grd p;obtain⟨a,C,rfl⟩:=l;obtain⟨d,t,k⟩:=c.ob _ a _ C G;obtain⟨b,f,rfl,K,J,r,g⟩:=m;exact F r (.inl t) g k rfl rfl h p
  .obtain⟨Z,G,p⟩:=p.ex1;obtain⟨h,p⟩:=aJ.grd p;obtain⟨a,C,rfl⟩:=m;obtain⟨d,t,k⟩:=c.ob _ a _ C G.1;obtain⟨b,O,rfl⟩:=l;obtain⟨f,r,g⟩:=c.ob _ b _ O G.2;exact F (.inl t) (.inl r) k g rfl rfl h p
  .exact p.elim
 |Sub=>
  obtain⟨i,j,rfl,rfl,p⟩:=v7 p;cases m;cases l;exact Oq pins s σ H _ _ _ _ Q I q n ⟨_,_,rfl,rfl,p.here c rfl⟩
 |Mult=>
  obtain⟨i,j,rfl,rfl,p⟩:=v7 p;cases m;cases l;obtain⟨h,p⟩:=p.grd;exact OT pins s σ H _ _ _ _ Q I q n ⟨_,_,rfl,rfl,by simpa[lh,big] using h,p.here c rfl⟩
 |FloorDiv=>
  obtain⟨i,j,rfl,rfl,p⟩:=v7 p;cases m;cases l;obtain⟨h,p⟩:=p.grd;exact TU pins s σ H _ _ _ _ Q I q n ⟨_,_,rfl,rfl,h,p.here c rfl⟩
 |Mod=>
  obtain⟨i,j,rfl,rfl,p⟩:=v7 p;cases m;cases l;obtain⟨h,p⟩:=p.grd;exact O8 pins s σ H _ _ _ _ Q I q n ⟨_,_,rfl,rfl,h,p.here c rfl⟩
 |Pow=>
  obtain⟨i,j,rfl,rfl,p⟩:=v7 p;cases m;cases l;obtain⟨h,p⟩:=p.grd;exact NY pins s σ H _ _ _ _ Q I q n ⟨_,_,rfl,rfl,⟨h.1,h.2.1,by simpa using h.2.2⟩,p.here c rfl⟩
 |RShift=>
  obtain⟨i,j,rfl,rfl,p⟩:=v7 p;cases m;cases l;obtain⟨h,p⟩:=p.grd;exact NI pins s σ H _ _ _ _ Q I q n ⟨_,_,rfl,rfl,h,p.here c rfl⟩
 |BitAnd=>
  obtain⟨i,j,rfl,rfl,p⟩:=v7 p;cases m;cases l;exact Pm pins s σ H _ _ _ _ Q I q n ⟨_,_,rfl,rfl,p.here c rfl⟩
 |_=>exact (show aJ D W φ α H σ (RV D φ Q) .st from p).elim
end
section
section
variable {D:DP}{φ α:List aE}{H:Hp}
theorem Rd.inj(b:∀o z,u≠.frz o z)(hw:∀o z,w≠.frz o z)(r:Rd H a u)(q:Rd H a w):u=w:=by
 rcases r with r|⟨o,r⟩<;>rcases q with q|⟨c,q⟩<;>rw[r] at q
 .exact bQ q
 .exact absurd (bQ q) (b _ _)
 .exact absurd (bQ q).symm (hw _ _)
 .injection bQ q
mutual
theorem uv:∀{t u:T}{v:V}{k:Bool},a6 D φ α H t v->a6 D φ α H u v->eqT t u=aA k->k=aB
 |.int i,u,_,k,d,c,e=>by
  have d:_=V.int i:=d;subst d;cases u with
  |int j=>have c:V.int i=V.int j:=c;injection c with c;subst c;rw[<-bQ e];simp
  |bl b=>have c:V.int i=V.bl b:=c;cases c
  |str b=>have c:V.int i=V.str b:=c;cases c
  |non=>have c:V.int i=V.non:=c;cases c
  |tup b=>obtain⟨_,_,c,_⟩:=c;cases c
  |lst b=>obtain⟨_,_,c,_⟩:=c;cases c
  |_=>cases e
 |.bl i,u,_,k,d,c,e=>by
  have d:_=V.bl i:=d;subst d;cases u with
  |bl j=>have c:V.bl i=V.bl j:=c;injection c with c;subst c;rw[<-bQ e];simp
  |int b=>have c:V.bl i=V.int b:=c;cases c
  |str b=>have c:V.bl i=V.str b:=c;cases c
  |non=>have c:V.bl i=V.non:=c;cases c
  |tup b=>obtain⟨_,_,c,_⟩:=c;cases c
  |lst b=>obtain⟨_,_,c,_⟩:=c;cases c
  |_=>cases e
 |.str i,u,_,k,d,c,e=>by
  have d:_=V.str i:=d;subst d;cases u with
  |str j=>have c:V.str i=V.str j:=c;injection c with c;subst c;rw[<-bQ e];simp
  |int b=>have c:V.str i=V.int b:=c;cases c
  |bl b=>have c:V.str i=V.bl b:=c;cases c
  |non=>have c:V.str i=V.non:=c;cases c
  |tup b=>obtain⟨_,_,c,_⟩:=c;cases c
  |lst b=>obtain⟨_,_,c,_⟩:=c;cases c
  |_=>cases e
 |.non,u,_,k,d,c,e=>by
  have d:_=V.non:=d;subst d;cases u with
  |non=>exact (bQ e).symm
  |int b=>have c:V.non=V.int b:=c;cases c
  |bl b=>have c:V.non=V.bl b:=c;cases c
  |str b=>have c:V.non=V.str b:=c;cases c
  |tup b=>obtain⟨_,_,c,_⟩:=c;cases c
  |lst b=>obtain⟨_,_,c,_⟩:=c;cases c
  |_=>cases e
 |.tup n,u,_,k,d,c,e=>by
  obtain⟨a,xs,rfl,_,_,r,l⟩:=d;cases u with
  |tup m=>
   obtain⟨b,h,g,_,_,f,l'⟩:=c;cases g;have:=Rd.inj (by intro _ _ z;cases z) (by intro _ _ z;cases z) r f;injection this with this;subst this;exact xV l l' e
  |lst m=>
   obtain⟨b,h,g,_,_,f,l'⟩:=c;cases g;have:=Rd.inj (by intro _ _ z;cases z) (by intro _ _ z;cases z) r f;cases this
  |int b=>have c:V.ref a=V.int b:=c;cases c
  |bl b=>have c:V.ref a=V.bl b:=c;cases c
  |str b=>have c:V.ref a=V.str b:=c;cases c
  |non=>have c:V.ref a=V.non:=c;cases c
  |_=>cases e
 |.lst n,u,_,k,d,c,e=>by
  obtain⟨a,xs,rfl,_,_,r,l⟩:=d;cases u with
  |lst m=>
   obtain⟨b,h,g,_,_,f,l'⟩:=c;cases g;have:=Rd.inj (by intro _ _ z;cases z) (by intro _ _ z;cases z) r f;injection this with this;subst this;exact xV l l' e
  |tup m=>
   obtain⟨b,h,g,_,_,f,l'⟩:=c;cases g;have:=Rd.inj (by intro _ _ z;cases z) (by intro _ _ z;cases z) r f;cases this
  |int b=>have c:V.ref a=V.int b:=c;cases c
  |bl b=>have c:V.ref a=V.bl b:=c;cases c
  |str b=>have c:V.ref a=V.str b:=c;cases c
  |non=>have c:V.ref a=V.non:=c;cases c
  |_=>cases e
 |.obj _ _,_,_,_,_,_,e=>by cases e
 |.mut _,_,_,_,_,_,e=>by cases e
 |.exc _ _,_,_,_,_,_,e=>by cases e
 |.dic _,_,_,_,_,_,e=>by cases e
 |.clo _ _,_,_,_,_,_,e=>by cases e
theorem xV:∀{ts us:List T}{vs:List V}{k:Bool},aM D φ α H ts vs->aM D φ α H us vs->cS ts us=aA k->k=aB
 |[],[],_,k,_,_,e=>by simpa[cS] using e.symm
 |[],_::_,_,k,b,a,e=>by
  have b:_=[]:=b;obtain⟨_,_,a,_⟩:=a;rw[b] at a;cases a
 |_::_,[],_,k,b,a,e=>by
  have a:_=[]:=a;obtain⟨_,_,b,_⟩:=b;rw[a] at b;cases b
 |t::ts,u::us,_,k,b,a,e=>by
  obtain⟨v,r,rfl,n,l⟩:=b;obtain⟨o,p,q,m,j⟩:=a;injection q with f d;subst f d;cases h:eqT t u with
  |none=>simp[cS,h] at e
  |some x=>
   cases c:cS ts us with
   |none=>simp[cS,h,c] at e
   |some y=>
    have i:=uv n m h;have g:=xV l j c;subst i g;simpa[cS,h,c] using e.symm
end
end
section
variable {X:Cx}{D:DP}{pins:List (aE×a_)}{s:Shared}{σ:St}{H:Hp}{φ α:List aE}
theorem Z1:∀{ts us:List T}{k:Bool},cS ts us=aA k->(∀j (a:j<ts.length) (c:j<us.length),∃b,eqT ts[j] us[j]=aA b)/\
  k=((hX (min ts.length us.length)).all (λj=>match ts[j]?,us[j]? with|some t,aA u=>(eqT t u).getD aD|_,_=>aD)&&ts.length==us.length)
 |[],[],k,e=>by
  simp[cS] at e;subst e;exact⟨λj a=>by simp at a,by simp⟩
 |[],u::us,k,e=>by
  simp[cS] at e;subst e;exact⟨λj a=>by simp at a,by simp⟩
 |t::ts,[],k,e=>by
  simp[cS] at e;subst e;exact⟨λj a c=>by simp at c,by simp⟩
 |t::ts,u::us,k,e=>by
  cases h:eqT t u with
  |none=>simp[cS,h] at e
  |some x=>
   cases d:cS ts us with
   |none=>simp[cS,h,d] at e
   |some y=>
    obtain⟨g,ih⟩:=Z1 d;simp[cS,h,d] at e;subst e;refine⟨λj a c=>?_,?_⟩
    .cases j with
     |zero=>exact⟨x,h⟩
     |succ j=>exact g j (by simpa using a) (by simpa using c)
    .rw[ih];have f:min (t::ts).length (u::us).length=min ts.length us.length+1:=by simp[Nat.succ_min_succ]
     rw[f,List.range_succ_eq_map,iX,sq];simp only[EL,h,s_,tx,tL,eG];rw[Bool.and_assoc];congr 2;simp
theorem cB(A:dW):A.in1.units=A.units+1:=by first|rfl|simp[Around.in1,Around.units]
theorem eqAt_int(I:Inv X pins σ H s)(h:a6 D φ α H (.int i) v)(d:a6 D φ α H u w)(n:RelV v a)(f:RelV w b)(e:eqT (.int i) u=aA k)(q:A.units+yl (.int i)+1<cLine):gO A s a b k:=by
 have h:_=V.int i:=h;subst h;obtain⟨o,rfl⟩:=n;cases u with
 |int j=>have d:w=V.int j:=d;subst d;obtain⟨m,rfl⟩:=f;cases bQ e;exact sZ _ _ _ _
 |bl j=>have d:w=V.bl j:=d;subst d;cases f;cases bQ e;exact SeqAt.EqAt.int_bool _ _ _
 |str j=>have d:w=V.str j:=d;subst d;obtain⟨m,rfl⟩:=f;cases bQ e;exact tB _ _ _ _
 |non=>have d:w=V.non:=d;subst d;cases f;cases bQ e;exact DV _ _
 |tup l=>obtain⟨c,xs,rfl,_,_,r,_⟩:=d;cases f;obtain⟨g,_,p,_⟩:=I.tuple (.inl r);cases bQ e;exact SeqAt.EqAt.int_tuple _ _ p (by lia)
 |lst l=>obtain⟨c,xs,rfl,_,_,r,_⟩:=d;cases f;obtain⟨g,_,p,_⟩:=I.list (.inl r);cases bQ e;exact SeqAt.EqAt.int_list _ _ p.isList (by lia)
 |_=>cases e
theorem RD(I:Inv X pins σ H s)(h:a6 D φ α H (.bl i) v)(d:a6 D φ α H u w)(n:RelV v a)(f:RelV w b)(e:eqT (.bl i) u=aA k)(o:A.units+yl (.bl i)+1<cLine):gO A s a b k:=by
 have h:_=V.bl i:=h;subst h;cases n;cases u with
 |int j=>have d:w=V.int j:=d;subst d;obtain⟨m,rfl⟩:=f;cases bQ e;exact SeqAt.EqAt.bool_int _ _ _
 |bl j=>have d:w=V.bl j:=d;subst d;cases f;cases bQ e;exact Ei _ _
 |str j=>have d:w=V.str j:=d;subst d;obtain⟨m,rfl⟩:=f;cases bQ e;exact DU _ _ _
 |non=>have d:w=V.non:=d;subst d;cases f;cases bQ e;exact Eh _
 |tup l=>obtain⟨c,xs,rfl,_,_,r,_⟩:=d;cases f;obtain⟨g,_,p,_⟩:=I.tuple (.inl r);cases bQ e;exact SeqAt.EqAt.bool_tuple _ p (by lia)
 |lst l=>obtain⟨c,xs,rfl,_,_,r,_⟩:=d;cases f;obtain⟨g,_,p,_⟩:=I.list (.inl r);cases bQ e;exact SeqAt.EqAt.bool_list _ p.isList (by lia)
 |_=>cases e
theorem TQ(I:Inv X pins σ H s)(h:a6 D φ α H (.str i) v)(d:a6 D φ α H u w)(n:RelV v a)(f:RelV w b)(e:eqT (.str i) u=aA k)(q:A.units+yl (.str i)+1<cLine):gO A s a b k:=by
 have h:_=V.str i:=h;subst h;obtain⟨o,rfl⟩:=n;cases u with
 |int j=>have d:w=V.int j:=d;subst d;obtain⟨m,rfl⟩:=f;cases bQ e;exact tz _ _ _ _
 |bl j=>have d:w=V.bl j:=d;subst d;cases f;cases bQ e;exact DT _ _ _
 |str j=>have d:w=V.str j:=d;subst d;obtain⟨m,rfl⟩:=f;cases bQ e;exact D9 _ _ _ _
 |non=>have d:w=V.non:=d;subst d;cases f;cases bQ e;exact DS _ _
 |tup l=>obtain⟨c,xs,rfl,_,_,r,_⟩:=d;cases f;obtain⟨g,_,p,_⟩:=I.tuple (.inl r);cases bQ e;exact SeqAt.EqAt.str_tuple _ _ p (by omega)
 |lst l=>obtain⟨c,xs,rfl,_,_,r,_⟩:=d;cases f;obtain⟨g,_,p,_⟩:=I.list (.inl r);cases bQ e;exact SeqAt.EqAt.str_list _ _ p.isList (by omega)
 |_=>cases e
theorem UV(I:Inv X pins σ H s)(h:a6 D φ α H .non v)(d:a6 D φ α H u w)(m:RelV v a)(f:RelV w b)(e:eqT .non u=aA k)(n:A.units+yl .non+1<cLine):gO A s a b k:=by
 have h:_=V.non:=h;subst h;cases m;cases u with
 |int j=>have d:w=V.int j:=d;subst d;obtain⟨l,rfl⟩:=f;cases bQ e;exact DR _ _
 |bl j=>have d:w=V.bl j:=d;subst d;cases f;cases bQ e;exact Eg _
 |str j=>have d:w=V.str j:=d;subst d;obtain⟨l,rfl⟩:=f;cases bQ e;exact DQ _ _
 |non=>have d:w=V.non:=d;subst d;cases f;cases bQ e;exact pK _
 |tup i=>obtain⟨c,xs,rfl,_,_,r,_⟩:=d;cases f;obtain⟨g,_,p,_⟩:=I.tuple (.inl r);cases bQ e;exact SeqAt.EqAt.none_tuple p (by lia)
 |lst i=>obtain⟨c,xs,rfl,_,_,r,_⟩:=d;cases f;obtain⟨g,_,p,_⟩:=I.list (.inl r);cases bQ e;exact SeqAt.EqAt.none_list p.isList (by lia)
 |_=>cases e
theorem JV(I:Inv X pins σ H s)(t:∀us,u≠.tup us)(m:a6 D φ α H (.tup ts) z)(f:a6 D φ α H u w)(i:RelV z a)(h:RelV w b)(e:eqT (.tup ts) u=aA k)(x:A.units+yl (.tup ts)+1<cLine):gO A s a b k:=by
 cases u with
 |tup us=>exact absurd rfl (t us)
 |lst us=>
  obtain⟨c,xs,rfl,_,_,r,l⟩:=m;obtain⟨d,v,rfl,_,_,o,l'⟩:=f;cases i;cases h;obtain⟨_,_,p,_⟩:=I.tuple (.inl r);obtain⟨_,_,q,_⟩:=I.list (.inl o);cases bQ e;exact SeqAt.EqAt.tuple_list p q.isList (by lia)
 |int j=>have f:w=V.int j:=f;subst f;obtain⟨n,rfl⟩:=h;obtain⟨c,xs,rfl,_,_,r,_⟩:=m;cases i;obtain⟨g,_,p,_⟩:=I.tuple (.inl r);cases bQ e;exact SeqAt.EqAt.tuple_int _ _ p (by lia)
 |bl j=>have f:w=V.bl j:=f;subst f;cases h;obtain⟨c,xs,rfl,_,_,r,_⟩:=m;cases i;obtain⟨g,_,p,_⟩:=I.tuple (.inl r);cases bQ e;exact SeqAt.EqAt.tuple_bool _ p (by lia)
 |str j=>have f:w=V.str j:=f;subst f;obtain⟨n,rfl⟩:=h;obtain⟨c,xs,rfl,_,_,r,_⟩:=m;cases i;obtain⟨g,_,p,_⟩:=I.tuple (.inl r);cases bQ e;exact SeqAt.EqAt.tuple_str _ _ p (by lia)
 |non=>have f:w=V.non:=f;subst f;cases h;obtain⟨c,xs,rfl,_,_,r,_⟩:=m;cases i;obtain⟨g,_,p,_⟩:=I.tuple (.inl r);cases bQ e;exact SeqAt.EqAt.tuple_none p (by lia)
 |_=>cases e
theorem Ku(I:Inv X pins σ H s)(t:∀us,u≠.lst us)(m:a6 D φ α H (.lst ts) z)(f:a6 D φ α H u w)(i:RelV z a)(h:RelV w b)(e:eqT (.lst ts) u=aA k)(x:A.units+yl (.lst ts)+1<cLine):gO A s a b k:=by
 cases u with
 |lst us=>exact absurd rfl (t us)
 |tup us=>
  obtain⟨c,xs,rfl,_,_,r,l⟩:=m;obtain⟨d,v,rfl,_,_,o,l'⟩:=f;cases i;cases h;obtain⟨_,_,p,_⟩:=I.list (.inl r);obtain⟨_,_,q,_⟩:=I.tuple (.inl o);cases bQ e;exact SeqAt.EqAt.list_tuple p.isList q (by lia)
 |int j=>have f:w=V.int j:=f;subst f;obtain⟨n,rfl⟩:=h;obtain⟨c,xs,rfl,_,_,r,_⟩:=m;cases i;obtain⟨g,_,p,_⟩:=I.list (.inl r);cases bQ e;exact SeqAt.EqAt.list_int _ _ p.isList (by lia)
 |bl j=>have f:w=V.bl j:=f;subst f;cases h;obtain⟨c,xs,rfl,_,_,r,_⟩:=m;cases i;obtain⟨g,_,p,_⟩:=I.list (.inl r);cases bQ e;exact SeqAt.EqAt.list_bool _ p.isList (by lia)
 |str j=>have f:w=V.str j:=f;subst f;obtain⟨n,rfl⟩:=h;obtain⟨c,xs,rfl,_,_,r,_⟩:=m;cases i;obtain⟨g,_,p,_⟩:=I.list (.inl r);cases bQ e;exact SeqAt.EqAt.list_str _ _ p.isList (by lia)
 |non=>have f:w=V.non:=f;subst f;cases h;obtain⟨c,xs,rfl,_,_,r,_⟩:=m;cases i;obtain⟨g,_,p,_⟩:=I.list (.inl r);cases bQ e;exact SeqAt.EqAt.list_none p.isList (by lia)
 |_=>cases e
noncomputable def rV (D:DP)(φ α:List aE)(H:Hp)(s:aW)(n:Nat):Prop:=∀(t u:T) (v w:V) (a b:aC) (k:Bool) (A:dW),yl t<n->a6 D φ α H t v->a6 D φ α H u w->RelV v a->RelV w b->eqT t u=aA k->A.units+yl t+1<cLine->gO A s a b k
theorem wu(ih:rV D φ α H s n):∀{ts us:List T}{xs ys:List V}{its a:List aC}{A:dW},w9 ts<n->aM D φ α H ts xs->aM D φ α H us ys->aU xs its->aU ys a->A.units+w9 ts+1<cLine->
  ∀(j:Nat) (f:j<its.length) (k:j<a.length),(∀(p:j<ts.length) (o:j<us.length),∃b,eqT ts[j] us[j]=aA b)->gO A s its[j] a[j] (match ts[j]?,us[j]? with|some t,aA u=>(eqT t u).getD aD|_,_=>aD)
 |[],_,xs,_,its,_,A,_,l,_,d,_,_,j,f,_,_=>by
  have l:xs=[]:=l;subst l;cases d;simp at f
 |t::ts,us,xs,ys,its,a,A,hd,l,l',d,c,z,j,f,k,g=>by
  obtain⟨v,r,rfl,C,l⟩:=l;cases d with
  | @cons _ E _ q y d=>
  cases us with
  |nil=>
   have l':ys=[]:=l';subst l';cases c;simp at k
  |cons u us=>
   obtain⟨w,F,rfl,B,l'⟩:=l';cases c with
   | @cons _ x _ m h c=>
   simp only[w9] at z hd;cases j with
   |zero=>
    obtain⟨b,i⟩:=g (by simp) (by simp);have e:eqT t u=aA b:=by simpa using i
    simp only[EL,e,s_,List.getElem_cons_zero];exact ih _ _ _ _ _ _ _ _ (by omega) C B y h e (by omega)
   |succ j=>
    simp only[tL,List.getElem_cons_succ];exact wu ih (by omega) l l' d c (by omega) j (by simpa using f) (by simpa using k) λp o=>by
     obtain⟨b,i⟩:=g (by simpa using p) (by simpa using o);exact⟨b,by simpa using i⟩
theorem QG(I:Inv X pins σ H s)(ih:rV D φ α H s n)(hd:w9 ts<n)(l:aM D φ α H ts xs)(l':aM D φ α H us ys)(r:Rd H c (.tup xs))(i:Rd H d (.tup ys))(e:cS ts us=aA k)(z:A.units+w9 ts+2<cLine):o6 A s (.ref c) (.ref d) k:=by
 obtain⟨f,h,p,_⟩:=I.tuple (.inl r);obtain⟨b,a,q,_⟩:=I.tuple (.inl i);obtain⟨g,rfl⟩:=Z1 e;have w:ts.length=f.length:=l.length.trans h.length;have v:us.length=b.length:=l'.length.trans a.length;have:=SeqAt.RcAt.tuples (A:=A) (e:=λj=>match ts[j]?,us[j]? with|some t,aA u=>(eqT t u).getD aD|_,_=>aD) p q (by omega) λj o m=>by
  have:=wu (A:=A.in1) ih hd l l' h a (by rw[cB];omega) j (by simpa using o) (by simpa using m) λy x=>g j y x;simpa using this
 simpa[w,v] using this
theorem QP(I:Inv X pins σ H s)(ih:rV D φ α H s n)(hd:w9 ts<n)(l:aM D φ α H ts xs)(l':aM D φ α H us ys)(r:Rd H c (.lst xs))(q:Rd H d (.lst ys))(e:cS ts us=aA k)(B:A.units+w9 ts+2<cLine):o6 A s (.ref c) (.ref d) k:=by
 obtain⟨f,i,p,_⟩:=I.list (.inl r);obtain⟨b,a,m,_⟩:=I.list (.inl q);obtain⟨g,rfl⟩:=Z1 e;have E:ts.length=f.length:=l.length.trans i.length;have C:us.length=b.length:=l'.length.trans a.length;by_cases o:ts.length=us.length
 .have:=SeqAt.RcAt.lists (A:=A) (e:=λj=>match ts[j]?,us[j]? with|some t,aA u=>(eqT t u).getD aD|_,_=>aD) p.isList m.isList (by simp;lia) (by lia) λj w v=>by
   have:=wu (A:=A.in1) ih hd l l' i a (by rw[cB];lia) j (by simpa using w) (by simpa using v) λy x=>g j y x;simpa using this
  have z:min ts.length us.length=f.length:=by lia
  have h:(ts.length==us.length)=aB:=by simpa using o
  rw[z,h,CZ];simpa using this
 .have h:(ts.length==us.length)=aD:=by simpa using o
  rw[h,sM];exact SeqAt.RcAt.lists_lengths p.isList m.isList (by simp;lia) (by lia)
theorem WL(I:Inv X pins σ H s):∀n,rV D φ α H s n
 |0=>λ_ _ _ _ _ _ _ _ p=>absurd p (by omega)
 |n+1=>λt u v w a b k A p h g m j e o=>by
  have ih:=WL I n;cases t with
  |int i=>exact eqAt_int I h g m j e o
  |bl i=>exact RD I h g m j e o
  |str i=>exact TQ I h g m j e o
  |non=>exact UV I h g m j e o
  |tup E=>
   cases u with
   |tup C=>
    have y:=λ(q:w=v)=>uv h (q▸g) e;obtain⟨c,xs,rfl,_,_,r,l⟩:=h;obtain⟨d,B,rfl,_,_,x,l'⟩:=g;cases m;cases j;by_cases f:c=d
    .subst f;rw[y rfl];exact pK _
    .refine D8 f ?_;exact QG I ih (by simp only[yl] at p;omega) l l' r x e (by simp only[yl] at o;omega)
   |_=>exact JV I (by intro _ z;cases z) h g m j e o
  |lst E=>
   cases u with
   |lst C=>
    have y:=λ(q:w=v)=>uv h (q▸g) e;obtain⟨c,xs,rfl,_,_,r,l⟩:=h;obtain⟨d,B,rfl,_,_,x,l'⟩:=g;cases m;cases j;by_cases f:c=d
    .subst f;rw[y rfl];exact pK _
    .refine D8 f ?_;exact QP I ih (by simp only[yl] at p;omega) l l' r x e (by simp only[yl] at o;omega)
   |_=>exact Ku I (by intro _ z;cases z) h g m j e o
  |_=>cases e
theorem TJ(I:Inv X pins σ H s)(l:aM D φ α H ts xs)(l':aM D φ α H us ys)(r:Rd H c (.tup xs))(a:Rd H d (.tup ys))(e:cS ts us=aA k)(b:A.units+w9 ts+2<cLine):o6 A s (.ref c) (.ref d) k:=QG I (WL I _) (iY _) l l' r a e b
theorem Ta(I:Inv X pins σ H s)(l:aM D φ α H ts xs)(l':aM D φ α H us ys)(r:Rd H c (.lst xs))(a:Rd H d (.lst ys))(e:cS ts us=aA k)(b:A.units+w9 ts+2<cLine):o6 A s (.ref c) (.ref d) k:=QP I (WL I _) (iY _) l l' r a e b
theorem Zu(I:Inv X pins σ H s):∀{ts us:List T}{xs ys:List V}{its a:List aC}{A:dW},aM D φ α H ts xs->aM D φ α H us ys->aU xs its->aU ys a->A.units+w9 ts+1<cLine->
  ∀(j:Nat) (g:j<its.length) (f:j<a.length),(∀(i:j<ts.length) (h:j<us.length),∃b,eqT ts[j] us[j]=aA b)->gO A s its[j] a[j] (match ts[j]?,us[j]? with|some t,aA u=>(eqT t u).getD aD|_,_=>aD):=λl l' d c e=>wu (WL I _) (iY _) l l' d c e
theorem T8(I:Inv X pins σ H s)(l:aM D φ α H ts xs)(l':aM D φ α H us ys)(r:Rd H c (.tup xs))(i:Rd H d (.tup ys))(e:cS ts us=aA k)(y:A.units+w9 ts+2<cLine):CT A s (.ref c) (.ref d) (!k):=by
 obtain⟨f,h,p,_⟩:=I.tuple (.inl r);obtain⟨b,a,o,_⟩:=I.tuple (.inl i);obtain⟨g,rfl⟩:=Z1 e;have v:ts.length=f.length:=l.length.trans h.length;have q:us.length=b.length:=l'.length.trans a.length;have:=Lb (A:=A) (e:=λj=>match ts[j]?,us[j]? with|some t,aA u=>(eqT t u).getD aD|_,_=>aD) p o (by lia) λj n m=>by
  have:=Zu (A:=A.in1) I l l' h a (by rw[cB];lia) j (by simpa using n) (by simpa using m) λx w=>g j x w;simpa using this
 simpa[v,q] using this
theorem Wp(I:Inv X pins σ H s)(l:aM D φ α H ts xs)(l':aM D φ α H us ys)(r:Rd H c (.lst xs))(o:Rd H d (.lst ys))(e:cS ts us=aA k)(z:A.units+w9 ts+2<cLine):CT A s (.ref c) (.ref d) (!k):=by
 obtain⟨f,i,p,_⟩:=I.list (.inl r);obtain⟨b,a,m,_⟩:=I.list (.inl o);obtain⟨g,rfl⟩:=Z1 e;have C:ts.length=f.length:=l.length.trans i.length;have B:us.length=b.length:=l'.length.trans a.length;by_cases n:ts.length=us.length
 .have:=I0 (A:=A) (e:=λj=>match ts[j]?,us[j]? with|some t,aA u=>(eqT t u).getD aD|_,_=>aD) p.isList m.isList (by simp;lia) (by lia) λj v q=>by
   have:=Zu (A:=A.in1) I l l' i a (by rw[cB];lia) j (by simpa using v) (by simpa using q) λx w=>g j x w;simpa using this
  have y:min ts.length us.length=f.length:=by lia
  have h:(ts.length==us.length)=aB:=by simpa using n
  rw[y,h,CZ];simpa using this
 .have h:(ts.length==us.length)=aD:=by simpa using n
  rw[h,sM];exact LK p.isList m.isList (by simp;lia) (by lia)
end
end
noncomputable def spM (D:DP)(f:Fn):Sp:=λh H Q E=>∃a c e d,aM D a c H e h/\aL D a c H d/\aJ D (eI E) a c H [] (λt _ b g=>∀v,a6 D a b g t v->Q v g) (f e d)
noncomputable def dY (D:DP)(n:Nat)(f:Fn):Sp:=λa H Q E=>a.length=n/\spM D f a H Q E
noncomputable def VC(D:DP)(t:Nat)(u:aC):Prop:=
 (t=0/\u=.type "NoneType")\/(t=1/\u=.type "bool")\/(t=2/\u=.type "int")\/(t=3/\u=.type "str")\/(t=4/\u=.type "tuple")\/(t=5/\u=.type "list")\/(∃C,D.adr t=aA C/\u=.ref C)\/(t=6/\u=.type "dict")\/(∃C,D.cad t=aA C/\u=.ref C)
noncomputable def Zc(mg:aG->Option aC)(c:aG)(u:aC):Prop:=mg c=aA u\/(mg c=aF/\fW c=aA u/\c≠"__name__")
abbrev Bm(X:Cx)(c:aG)(u:aC):Prop:=Zc X.mg c u
noncomputable def fU(v:V)(u:aC):Prop:=(∃C,v=.ref C/\u=.ref C)\/∃n,v=.ty n/\u=.type n
theorem fU.rel(h:fU v u):L2.RelV v u:=by
 rcases h with⟨C,rfl,rfl⟩|⟨n,rfl,rfl⟩<;>rfl
theorem fU.only(h:fU v u)(r:L2.RelV v d):d=u:=by
 rcases h with⟨C,rfl,rfl⟩|⟨n,rfl,rfl⟩<;>exact r
structure iy(K:PySem.W.Frag)(C:aE):Prop where
 ga:cD K (.ref C) "__getattribute__"=aA (aA (.builtin "BaseException.__getattribute__"))
 hk:cD K (.ref C) "__getattr__"=aA aF
 fi:cD K (.ref C) "__class__"=aA (aA (.builtin "object.__class__"))
 sp:lU K (.builtin "object.__class__") "__get__"=aA (aA (.builtin "getset_descriptor.__get__"))
 tk:pJ K (.builtin "object.__class__")=aA aB
 ob:gF K C (.type "object")=aA aB
 bx:gF K C (.type "BaseException")=aA aB
 nb:gF K C (.type "KeyError")=aA aD/\gF K C (.type "ZeroDivisionError")=aA aD
 cl:(lS K C).isSome=aB
structure mj(K:PySem.W.Frag)(C:aE):Prop where
 cl:fV K C
 fi:cD K (.ref C) "__class__"=aA (aA (.builtin "object.__class__"))
 sp:lU K (.builtin "object.__class__") "__get__"=aA (aA (.builtin "getset_descriptor.__get__"))
 tk:pJ K (.builtin "object.__class__")=aA aB
 ob:gF K C (.type "object")=aA aB
abbrev zr:List aC:=[.type "ValueError",.type "Exception",.type "BaseException",.type "object"]
noncomputable def FOk (D:DP)(P:bZ)(w:cX)(K:bH)(mg:aG->Option aC)(base:aT)(k:Nat)(fa:aE)(f:Fn):Prop:=
 ∃fd a c,dU K (.ref fa)=aB/\Binds K fd a []/\c<=k/\bI P w K mg base (cG P w) c fa fd a (dY D a.length f)/\∀b d K Z,f b d K Z->b.length=a.length
structure gA(k:Nat)(A:Around):Prop where
 dp:A.depth+3*k+5<recursionLimit
 un:A.units+16*k+200<cLine
theorem gA.units{k:Nat}(r:gA k A):A.units+64<cLine:=by have:=r.un;lia
noncomputable def yB(P:bZ)(w:cX)(K:bH)(mg:aG->Option aC)(base:aT)(k:Nat)(f:aE)(fd:FuncData)(ps:List aG)(sp:Sp):Prop:=
 ∀(A:dW) (a:List Env) (s:aW) (H:Hp) (args:Args) (c:List aC) (b:List V) (Q:VK),gA k A->dT P w K mg base A a s H->mu s fd args (ps.zip c)->aU b c->sp b H Q (λ_ _ _=>False)->
  fE (aR P w) A (.call (.ref f) args) (CR (λ_ _ _ _ _ _=>False) a P w H s Q (λ_ _ _=>False)) s
noncomputable def u1 (x C:aE):aT->Prop:=λh=>∃t,h.get? x=aA {cls:=.ref C,data:=.fields #[.ref t,.none,.none,.none,.bool aD,.none]}
noncomputable def uE(x C dx:aE):aT->Prop:=λh=>∃t,h.get? x=aA {cls:=.ref C,dict:=aA dx,data:=.fields #[.ref t,.none,.none,.none,.bool aD,.none]}
structure f8(K:PySem.W.Frag)(C HE fI:aE)(fl:aG):Prop where
 cls:∃N nm q bs hd sn sub ab col dd k0 k1 k2 k3 k5,K.lookup C=aA (fY nm q C N bs (.ref HE::zr) hd sn sub ab col dd k0 k1 k2 k3 k5 "ValueError.__new__")/\nj K N=aB/\mD K N "__init__"=aA (aA (.ref fI))
 he:eM K HE zr "ValueError.__new__"=aB
 fn:nl K (.ref fI)=aA (.type "function")
 sa:cD K (.ref C) "__setattr__"=aA (aA (.builtin "object.__setattr__"))
 no:cD K (.ref C) fl=aA aF
 dct:iT K C=aB
 kp:dU K (.ref C)=aB
noncomputable def gG (C:aE)(fl:aG):Sp:=λa H Q E=>∃(x:aE) (i:Int),a=[.ref x,.int i]/\i.natAbs.log2<1920/\H x=aA (.ext (u1 x C))/\∀dx,H dx=aF->dx≠x->Q .non (aX (aX H x (.ext (uE x C dx))) dx (.xd [(fl,.int i)]))
noncomputable def Ny(y:aG)(sc:Scope):Bool:=(sc.kind==.function)&&!sc.isCoroutine&&!sc.isGenerator&&sc.names.all (λy=>y.2 != .free)&&(sc.names.lookup y==aA .local)&&y != ("__debug__":aG)&&y != ("__classdict__":aG)
noncomputable def NA(a c:aE)(qn:aG):aT->Prop:=λh=>∃(y:aG) (f:Pos) (g:Nat) (bp:Pos) (d:Scope) (e b:aC),Ny y d=aB/\h.get? a=aA (sS "<lambda>" qn ⟨[],[⟨y,aF,f⟩],aF,[],[],aF,[]⟩ (.Constant .none g bp) d [] e c b)
noncomputable def Fz(t:T):Prop:=t=.clo 0 [.clo 100 []]\/t=.clo 1 []\/t=.clo 2 [.clo 101 []]
noncomputable def Mr (D:DP)(P:bZ)(w:cX)(K:bH)(mg:aG->Option aC)(base:aT)(k:Nat):Prop:=
 ∀(t:T) (c e:List aE) (H:Hp) (v:V),Fz t->a6 D c e H t v->∃a h,v=.ref a/\h<=k/\∀(A:dW) (b:List Env) (s:aW),dT P w K mg base A b s H->CS a s.heap/\(bU h A->∀(u:aC) (x:V) (Q:VK) (t:T) (c e:List aE) (g:aI),RelV x u->a6 D c e H t x->aL D c e H g->(∀d f,aP e H d f->aL D c d f g->Q .non f)->
  fE (aR P w) A (.call (.ref a) ⟨[u],[]⟩) (CR (cG P w) b P w H s Q (λ_ _ _=>False)) s)
noncomputable def bJ.fb(l:bJ):FuncBody:=match l.sb with|none=>.expr l.body|some q=>.stmts q.2
noncomputable def bJ.nm(l:bJ):aG:=match l.sb with|none=>"<lambda>" | some q=>q.1
noncomputable abbrev Bw(name qual:aG)(params:Arguments)(fb:FuncBody)(scope:Scope)(cl:List (aG×aE))(doc b a ct:aC):FuncData:=
 {name,qualname:=qual,params,body:=fb,scope,globals:=bE,closure:=cl,defaults:=.none,kwdefaults:=.none,doc:=doc,pyModule:=b,annotations:=aF,code:=a,closureTuple:=ct,builtins:=lr}
noncomputable def xH(a c:aE)(l:bJ)(cl:List (aG×aE)):aT->Prop:=λh=>∃(f:Pos) (e d b:aC),h.get? a=aA {cls:=.type "function",data:=.func (Bw l.nm l.qn ⟨[],[⟨l.y,aF,f⟩],aF,[],[],aF,[]⟩ l.fb l.sc cl b e (.ref c) d)}
noncomputable def Yz(fr:List aG)(cl:List (aG×aE))(cs:List aE):Prop:=fr.map (λx=>cl.lookup x)=cs.map aA/\cs.Nodup/\∀x a,cl.lookup x=aA a->x∈fr
noncomputable def MK(D:DP)(P:bZ)(w:cX)(K:bH)(mg:aG->Option aC)(base:aT)(k:Nat)(ls:List bJ):Prop:=
 ∀(j:Nat) (l:bJ) (p:List T) (i m:List aE) (H:Hp) (v:V),ls[j]?=aA l->a6 D i m H (KU j l.jt p) v->∃(a:aE) (r:Nat),v=.ref a/\r<=k/\∀(A:dW) (f:List Env) (s:aW),dT P w K mg base A f s H->CS a s.heap/\(bU r A->
  ∀(u:aC) (x:V) (Q:VK) (t:T) (n:aI) (z:T->aI->Prop) (y:Xp) (E:XK),RelV x u->a6 D i m H t x->aL D i m H n->l.g (aA t::p.map aA) n z y->(∀q e,z q e->∀b h o,aP m H b h->aL D i b h e->a6 D i b h q o->Q o h)->(∀c fs e,y c fs e->∀b h cv d,aP m H b h->aL D i b h e->gJ D c fs cv->bO D i b h fs d->E cv d h)->
  fE (aR P w) A (.call (.ref a) ⟨[u],[]⟩) (CR (cG P w) f P w H s Q E) s)
structure lH(D:DP)(ls:List bJ):Prop where
 tb:∀(j:Nat) (l:bJ),ls[j]?=aA l->∃P' pos,D.tabs l.jt=aA (P',pos,l.qn)
 fn:∀(j:Nat) (l:bJ) (a c:aE) (cl:List (aG×aE)) (cs:List aE),ls[j]?=aA l->Yz l.fr cl cs->D.clo (300+j) a (aA (.ext (xH a c l cl))) (.ref c::cs.map V.ref)
 ce:∀c (o:a_) u x ob,o.data=.cell (aA u)->RelV x u->D.clo 200 c (aA (.frz o ob)) [x]
 co:∀j P' pos qn c,D.tabs j=aA (P',pos,qn)->D.clo (100+j) c (aA (.ext (qt c qn))) []
noncomputable def cU(D:DP)(P:bZ)(w:cX)(K:bH)(mg:aG->Option aC)(base:aT)(k:Nat)(x:aG):GM->Prop
 |.fn f=>∃fa,mg x=aA (.ref fa)/\FOk D P w K mg base k fa f
 |.fnh nm f=>∃fa,mg nm=aA (.ref fa)/\∃fd b e,dU K (.ref fa)=aB/\Binds K fd b []/\e<=k/\yB P w K mg base e fa fd b (dY D b.length f)/\∀l m K Z,f l m K Z->l.length=b.length
 |.met c nm f=>∃C g fd b e,D.cad c=aA C/\fV K C/\ml K C nm g/\(∀i,D.fn i≠aA nm)/\Binds K fd b []/\e<=k/\bI P w K mg base (cG P w) e g fd b (dY D b.length f)/\∀l m K Z,f l m K Z->l.length=b.length
 |.mk c _ f=>∃C g fd b e,D.cad c=aA C/\mg x=aA (.ref C)/\Mk K C g/\Binds K fd b []/\e+1<=k/\bI P w K mg base (cG P w) e g fd b (dY D b.length f)/\∀l m K Z,f l m K Z->l.length=b.length
 |.cst t=>∃u v,mg x=aA u/\RelV v u/\∀o q H,a6 D o q H t v
 |.xcl c=>∃C,D.adr c=aA C/\mg x=aA (.ref C)/\eM K C zr "ValueError.__new__"=aB
 |.xcf c _=>∃C,D.adr c=aA C/\mg x=aA (.ref C)
 |.xbt c n=>mg x=aF/\fW x=aA (.type n)/\x≠"__name__"/\lG c=aA n/\D.adr c=aF
 |.xin c f nm fl=>∃C E g fd b e,D.adr c=aA C/\mg nm=aA (.ref C)/\D.fn f=aA fl/\f8 K C E g fl/\Binds K fd b []/\e+1<=k/\bI P w K mg base (cG P w) e g fd b (gG C fl)/\yB P w K mg base e g fd b (gG C fl)
 |.mkd c nm n f=>∃C g fd b e,D.cad c=aA C/\mg nm=aA (.ref C)/\Mk K C g/\Binds K fd b [.none]/\e+1<=k/\bI P w K mg base (cG P w) e g fd b (dY D b.length f)/\(∀l m K Z,f l m K Z->l.length=b.length)/\b.length=n+2
 |.metd c nm n d f=>∃C g fd b e du dv,D.cad c=aA C/\fV K C/\ml K C nm g/\(∀i,D.fn i≠aA nm)/\Binds K fd b [du]/\RelV dv du/\(∀o q H,a6 D o q H d dv)/\e<=k/\bI P w K mg base (cG P w) e g fd b (dY D b.length f)/\(∀l m K Z,f l m K Z->l.length=b.length)/\b.length=n+2
 |.kpr=>Mr D P w K mg base k/\∀j B s r,j<2->D.tabs j=aA (B,s,r)->∀a c,D.clo (2*j) a (aA (.ext (NA a c r))) [.ref c]/\D.clo (100+j) c (aA (.ext (qt c r))) []
 |.kap A=>MK D P w K mg base k A/\lH D A
 |.tbl y=>∃a z,mg x=aA (.ref a)/\(a==hY)=aD/\KV (y.map λp=>((.inr p.1:Key),V.int p.2)) z/\∀h:aT,K.In h->h.DictOf (zz P w) a z
 |.none=>mg x=aF
 |.bad=>True
abbrev Fl(D:DP)(X:Cx)(k:Nat)(x:aG)(g:GM):Prop:=cU D X.prog X.w X.K X.mg X.base k x g
structure Cn where
 N:List aG
 G:List aG
 calm:Bool
 gl:aG->GM
 cls:List (aG×Nat)
 fld:List (aG×Nat)
 U:List aG
 cel:List aG
 own:List aG
 lam:Option (Nat×List Pos):=aF
 lnm:aG:="<lambda>"
 fz:List aG:=[]
noncomputable def Cn.sto(Γ:Cn):List aG:=Γ.N.filter λx=>!Γ.fz.contains x
noncomputable def Cn.look(Γ:Cn)(x:aG):GM:=if Γ.G.contains x then Γ.gl x else .bad
noncomputable def cT(D:DP)(mg:aG->Option aC)(base:aT)(code:aC)(qual:aG)(k:Nat)(l:Option (Nat×List Pos))(nm:aG):Prop:=∀j a,l=aA (j,a)->2<=k/\∃c P,code=.ref c/\i5 base c P/\base.BuiltinsAt mg P/\D.tabs j=aA (P,a,qual++nm)
theorem cT.no{code:aC}(h:l=aF):cT D mg base code qual k l nm:=λj pos e=>by rw[h] at e;cases e
structure Ck(D:DP)(W:XW)(Γ:Cn)(X:Cx)(k:Nat):Prop where
 hK:X.K=D.K
 hN:X.N=Γ.N
 nd:Γ.N.Nodup
 vis:∀x∈Γ.N,gY X.env.scope x
 dbg:∀x∈Γ.N,(x==("__debug__":aG))=aD/\(x==("__classdict__":aG))=aD
 dbG:∀x∈Γ.G,(x==("__debug__":aG))=aD
 glb:∀x∈Γ.G,Gl X x
 glo:∀x∈Γ.G,Fl D X k x (Γ.gl x)
 glU:∀x∈Γ.U,Fl D X k x (Γ.gl x)/\(x==("__debug__":aG))=aD
 cel:∀x∈Γ.cel,X.env.kindOf x=aA .cell\/X.env.kindOf x=aA .free
 isi:∀t x c,(x,c)∈Γ.cls->∀u v,VC D t u->Bm X x v->pi X.K u v=aA (zD t c)
 fld:∀c C x f,D.cad c=aA C->(x,f)∈Γ.fld->D.fn f=aA x/\fV X.K C/\b_ X.K C x
 xcx:∀c C,D.adr c=aA C->iy X.K C
 ocx:∀c C,D.cad c=aA C->mj X.K C
 clv:∀x c,(x,c)∈Γ.cls->∃u v,Bm X x u/\fU v u
 clm:Γ.calm=aB->X.calm=aB
 rom:Γ.calm=aB->bU k X.A
 rmh:gA k X.A
 xe:∀e s,XP X W e s->X.xe e s
 frm:∃e0 out L,iN X e0 out L
 lam:cT D X.mg X.base X.env.code X.env.qual k Γ.lam Γ.lnm
 kfz:Γ.lam.isSome=aB->∀x∈Γ.fz,X.fn x=aD/\∀c,X.env.cells.lookup x=aA c->X.s₀.heap.objs.size<=c
theorem Ck.unt{W:XW}(C:Ck D W Γ X k):X.A.units+64<cLine:=C.rmh.units
theorem qN:∀{N:List aG}{x:aG}{i:Nat},b7 N x=aA i->N[i]?=aA x
 |[],_,_,h=>by simp[b7] at h
 |y::r,x,i,h=>by
  simp only[b7] at h;split at h
  .rename_i e;cases h;simp[e]
  .cases q:b7 r x with
   |none=>rw[q] at h;cases h
   |some j=>rw[q] at h;cases h;simpa using qN q
theorem qx(h:b7 N x=aA i):x∈N:=cY (qN h)
section
variable {X:Cx}{D:DP}{W:XW}{Γ:Cn}{k:Nat}{pins:List (aE×a_)}{s:Shared}{σ:St}{H:Hp}{φ α:List aE}{τ:Sl}{μ:aI}{f g h:De}{a b c:aH}{pos:Pos}
theorem PE.mono(h:PE X e t)(m:∀σ H Q,t' σ H Q->t σ H Q):PE X e t':=λpins s σ H Q I q=>h pins s σ H Q I (m σ H Q q)
theorem NP{i j pos}:PE X (.Constant (.int i) j pos) (aV D W (eC (.int i))):=PE.mono Ot λd H Q ⟨b,f,c,e,g,a,p⟩=>aJ.here p a rfl
theorem Mb{i j pos}:PE X (.Constant (.bool i) j pos) (aV D W (eC (.bl i))):=PE.mono MY λd H Q ⟨b,f,c,e,g,a,p⟩=>aJ.here p a rfl
theorem Ng{j pos}:PE X (.Constant .none j pos) (aV D W (eC .non)):=PE.mono NJ λd H Q ⟨b,f,c,e,g,a,p⟩=>aJ.here p a rfl
theorem Nq{i j pos}:PE X (.Constant (.str i) j pos) (aV D W (eC (.str i))):=PE.mono Ze λd H Q ⟨b,f,c,e,g,a,p⟩=>aJ.here p a rfl
theorem Oy(C:Ck D W Γ X k)(a:b7 Γ.N x=aA i):PE X (.Name x pos) (aV D W (eV i)):=by
 refine PE.mono (xY (i:=i) (by rw[C.hN];exact qN a) (C.vis x (qx a)) (C.dbg x (qx a)).1 (C.dbg x (qx a)).2) ?_;rintro h H Q ⟨f,l,g,j,b,c,p⟩;dsimp only[eV] at p;split at p
 .rename_i t e;obtain⟨v,q,d⟩:=b.get e;exact⟨v,q,p.here c d⟩
 .exact p.elim
theorem NQ(C:Ck D W Γ X k)(hx:x∈Γ.G)(b:Γ.gl x=.cst t):PE X (.Name x pos) (aV D W (eC t)):=by
 have g:=C.glo x hx;rw[b] at g;obtain⟨u,v,c,r,d⟩:=g;exact PE.mono (Ym (C.glb x hx) c r (C.dbG x hx)) λh H Q ⟨e,j,f,i,l,a,p⟩=>aJ.here p a (d _ _ _)
theorem OH(A:PE X a (aV D W f))(z:PE X b (aV D W g)):PE X (.BinOp a op b pos) (aV D W (eBin op f g)):=by
 rintro i s K H Q I ⟨G,M,J,L,q,y,p⟩;refine wpAny_BinOp (aY (sub A I q y p) ?_);rintro u S ⟨v,U,t,k,m,F,w,n,d,h,C,p1⟩;refine aY (sub z F d h p1) ?_;rintro O R ⟨N,T,P,j,l,E,r,c,o,e,B,x⟩;exact Oc E e (C.step c) B w r x
theorem OM(n:PE X a (aV D W f)):PE X (.UnaryOp .USub a pos) (aV D W (FG f)):=by
 rintro b s d H Q I ⟨w,z,x,y,j,m,p⟩;refine UnaryOp_ (aY (sub n I j m p) ?_);rintro u k ⟨v,r,t,e,g,q,l,h,i,c,o,p1⟩;try dsimp only at p1
 split at p1
 .cases o;exact OD b k d r _ _ Q q l ⟨_,rfl,p1.here c rfl⟩
 .exact p1.elim
theorem Oa(m:PE X a (aV D W f)):PE X (.UnaryOp .Not a pos) (aV D W (eNot f)):=by
 rintro d s x H Q I ⟨r,z,w,y,j,l,p⟩;refine UnaryOp_ (aY (sub m I j l p) ?_);rintro u A ⟨v,q,t,e,g,o,k,h,i,c,n,p1⟩;try dsimp only at p1
 split at p1
 .rename_i b;cases n;cases k;exact not_of (wpAny_truthy_bool ⟨.bl (!b),q,o,rfl,p1.here c rfl⟩)
 .exact p1.elim
theorem NC(b:PE X a (aV D W f)):PE X (.BoolOp op [a] pos) (aV D W f):=OP b
theorem Pg(A:PE X a (aV D W f))(z:PE X (.BoolOp .And (b::r) pos) (aV D W g)):PE X (.BoolOp .And (a::b::r) pos) (aV D W (eAnd f g)):=by
 rintro c s n H Q I ⟨l,E,m,C,q,y,p⟩;refine BoolOp_and (aY (sub A I q y p) ?_);rintro u w ⟨v,k,t,e,h,j,x,o,i,d,B,p1⟩;try dsimp only at p1
 split at p1
 .cases B;cases x;rcases p1.br with⟨rfl,p1⟩|⟨rfl,p1⟩
  .exact wpAny_truthy_bool (z c w n k Q j ⟨l,h,m,e,i,d,p1⟩)
  .exact wpAny_truthy_bool ⟨.bl aD,k,j,rfl,p1.here d rfl⟩
 .exact p1.elim
theorem Nb(A:PE X a (aV D W f))(z:PE X (.BoolOp .Or (b::r) pos) (aV D W g)):PE X (.BoolOp .Or (a::b::r) pos) (aV D W (eOr f g)):=by
 rintro c s n H Q I ⟨l,E,m,C,q,y,p⟩;refine BoolOp_or (aY (sub A I q y p) ?_);rintro u w ⟨v,k,t,e,h,j,x,o,i,d,B,p1⟩;try dsimp only at p1
 split at p1
 .cases B;cases x;rcases p1.br with⟨rfl,p1⟩|⟨rfl,p1⟩
  .exact wpAny_truthy_bool ⟨.bl aB,k,j,rfl,p1.here d rfl⟩
  .exact wpAny_truthy_bool (z c w n k Q j ⟨l,h,m,e,i,d,p1⟩)
 .exact p1.elim
theorem OL{b:Bool}(c:a6 D φ α H x v)(a:a6 D φ α H y w)(h:mX x y=aA b):rs v w=aB/\decide (v=w)=b:=by
 unfold mX at h
 split at h<;>first
  |(cases h;cases c;cases a;exact⟨rfl,by simp⟩)
  |cases h
theorem Oi:dB X (dD .Is) (λx y H Q=>∃a b,x=.bl a/\y=.bl b/\Q (.bl (decide (a=b))) H):=by
 intro c s f H x y v u Q I e d h;obtain⟨a,b,rfl,rfl,q⟩:=h;cases e;cases d;refine wpAny_is_plain (by rfl) ⟨.bl (decide (a=b)),H,I,?_,q⟩;cases a<;>cases b<;>rfl
theorem z0j:dB X (dD .IsNot) (λx y H Q=>∃a b,x=.bl a/\y=.bl b/\Q (.bl (!decide (a=b))) H):=by
 intro c s f H x y v u Q I e d h;obtain⟨a,b,rfl,rfl,q⟩:=h;cases e;cases d;refine wpAny_isNot_plain (by rfl) ⟨.bl (!decide (a=b)),H,I,?_,q⟩;cases a<;>cases b<;>rfl
theorem H0{b:Bool}{C:Prop}{x:T}{v w:V}(I:Inv X pins σ H s)(L:X.A.units+64<cLine)(F:aL D φ α H μ)(u:a6 D φ α H x v)(t:a6 D φ α H y w)(p:aJ D W φ α H σ (RV D φ Q) (oB x y μ kk))
  (K:∀b,aJ D W φ α H σ (RV D φ Q) (kk b)->rs v w=aB/\decide (v=w)=b->C)
  (G:∀b,aJ D W φ α H σ (RV D φ Q) (kk b)->((∀m j,RelV v m->RelV w j->∀{R:aC->aW->Prop},R (.bool b) s->wpAny (aR X.prog X.w) X.A (dD .Eq m j) R X.xe s)/\(∀m j,RelV v m->RelV w j->∀{R:aC->aW->Prop},R (.bool (!b)) s->wpAny (aR X.prog X.w) X.A (dD .NotEq m j) R X.xe s))->C):C:=by
 have lst:∀{xs E:List T}{c d:aE}{h g:List V},v=.ref c->w=.ref d->Rd H c (.lst h)->Rd H d (.lst g)->aM D φ α H xs h->aM D φ α H E g->aJ D W φ α H σ (RV D φ Q) (RE.grd (w9 xs<=40) (.som (cS xs E) kk))->C:=λ{xs E c d h g} f e r a l l' p=>by
  obtain⟨hd,p⟩:=p.grd;obtain⟨b,n,p⟩:=p.som;subst f e;exact G b p ⟨λm j k i R q=>by cases k;cases i;exact Ta I l l' r a n (by lia) _ _ _ _ q,λm j k i R q=>by cases k;cases i;exact Wp I l l' r a n (by lia) _ _ _ _ q⟩
 unfold oB at p;split at p
 .obtain⟨hd,p⟩:=p.grd;obtain⟨b,n,p⟩:=p.som;obtain⟨c,h,rfl,_,_,r,l⟩:=u;obtain⟨d,g,rfl,_,_,a,l'⟩:=t;exact G b p ⟨λm j k i R q=>by cases k;cases i;exact TJ I l l' r a n (by lia) _ _ _ _ q,λm j k i R q=>by cases k;cases i;exact T8 I l l' r a n (by lia) _ _ _ _ q⟩
 .obtain⟨c,h,f,_,_,r,l⟩:=u;obtain⟨d,g,e,_,_,a,l'⟩:=t;exact lst f e r a l l' p
 .obtain⟨xs,o,p⟩:=p.ex1;obtain⟨c,B,f⟩:=u;obtain⟨h,q,l⟩:=F.ob _ c _ B o;obtain⟨d,g,e,_,_,a,l'⟩:=t;exact lst f e (.inl q) a l l' p
 .obtain⟨E,o,p⟩:=p.ex1;obtain⟨c,B,e⟩:=t;obtain⟨h,q,l⟩:=F.ob _ c _ B o;obtain⟨d,g,f,_,_,a,l'⟩:=u;exact lst f e a (.inl q) l' l p
 .obtain⟨z,o,p⟩:=p.ex1;obtain⟨c,B,f⟩:=u;obtain⟨h,q,l⟩:=F.ob _ c _ B o.1;obtain⟨d,hd,e⟩:=t;obtain⟨g,J,l'⟩:=F.ob _ d _ hd o.2;exact lst f e (.inl q) (.inl J) l l' p
 .split at p
  .rename_i n;exact K _ p (OL u t n)
  .exact p.elim
theorem Wy{x:T}{v w:V}{j:aC}{Q:VK}(I:Inv X pins σ H s)(r:X.A.units+64<cLine)(f:aL D φ α H μ)(d:a6 D φ α H x v)(e:a6 D φ α H y w)(i:RelV v m)(g:RelV w j)
  (p:aJ D W φ α H σ (RV D φ Q) (yn op x y μ)):wpAny (aR X.prog X.w) X.A (dD op m j) (EP X pins σ Q) X.xe s:=by
 unfold yn at p;split at p
 .refine H0 (b:=aB) I r f d e p (λb q h=>?_) (λb q h=>?_)
  .obtain⟨l,k⟩:=h;exact M4 pins s σ H v w m j Q I i g ⟨l,by rw[k];exact aJ.here q f rfl⟩
  .exact h.1 _ _ i g ⟨.bl b,H,I,rfl,aJ.here q f rfl⟩
 .refine H0 (b:=aD) I r f d e p (λb q h=>?_) (λb q h=>?_)
  .obtain⟨l,k⟩:=h;exact Me pins s σ H v w m j Q I i g ⟨l,by rw[k];exact aJ.here q f rfl⟩
  .exact h.2 _ _ i g ⟨.bl (!b),H,I,rfl,aJ.here q f rfl⟩
 .unfold Iy at p;split at p
  .cases d;cases e;exact M0 pins s σ H _ _ m j Q I i g ⟨_,_,rfl,rfl,aJ.here p f rfl⟩
  .obtain⟨t,E,p⟩:=p.som;obtain⟨u,C,p⟩:=p.som;obtain⟨a,G,rfl,_,_,o,B⟩:=d;obtain⟨c,F,rfl,_,_,n,z⟩:=e;rw[qS E B] at o;rw[qS C z] at n;exact N3 (by omega) pins s σ H _ _ m j Q I i g ⟨a,c,t,u,rfl,rfl,.inl o,.inl n,aJ.here p f rfl⟩
  .have d:v=.str _:=d;have e:w=.str _:=e;subst d e;obtain⟨K,rfl⟩:=i;obtain⟨J,rfl⟩:=g;exact PySem.P.lt_str ⟨.bl _,H,I,rfl,aJ.here p f rfl⟩
  .exact p.elim
 .split at p
  .cases d;cases e;exact MH pins s σ H _ _ m j Q I i g ⟨_,_,rfl,rfl,p.here f rfl⟩
  .exact p.elim
 .split at p
  .cases d;cases e;exact ML pins s σ H _ _ m j Q I i g ⟨_,_,rfl,rfl,p.here f rfl⟩
  .exact p.elim
 .split at p
  .cases d;cases e;exact Nv pins s σ H _ _ m j Q I i g ⟨_,_,rfl,rfl,p.here f rfl⟩
  .exact p.elim
 .split at p
  .cases e;refine Nr pins s σ H _ _ m j Q I i g ⟨rfl,?_⟩;have q:=p.here f rfl
   cases x<;>first
    |(have d:v=_:=d;subst d;simpa using q)
    |(obtain⟨_,_,rfl,_⟩:=d;simpa using q)
    |(obtain⟨_,_,_,_,rfl,_⟩:=d;simpa using q)
    |(obtain⟨_,_,rfl⟩:=d;simpa using q)
    |(obtain⟨_,_,_,rfl,_⟩:=d;simpa using q)
  .split at p
   .have d:v=.bl _:=d;have e:w=.bl _:=e;subst d e;exact Oi pins s σ H _ _ m j Q I i g ⟨_,_,rfl,rfl,p.here f rfl⟩
   .exact p.elim
  .exact p.elim
 .split at p
  .cases e;refine P2 pins s σ H _ _ m j Q I i g ⟨rfl,?_⟩;have q:=p.here f rfl
   cases x<;>first
    |(have d:v=_:=d;subst d;simpa using q)
    |(obtain⟨_,_,rfl,_⟩:=d;simpa using q)
    |(obtain⟨_,_,_,_,rfl,_⟩:=d;simpa using q)
    |(obtain⟨_,_,rfl⟩:=d;simpa using q)
    |(obtain⟨_,_,_,rfl,_⟩:=d;simpa using q)
  .split at p
   .have d:v=.bl _:=d;have e:w=.bl _:=e;subst d e;exact z0j pins s σ H _ _ m j Q I i g ⟨_,_,rfl,rfl,p.here f rfl⟩
   .exact p.elim
  .exact p.elim
 .split at p
  .have d:v=.str _:=d;have e:w=.str _:=e;subst d e;exact U0 pins s σ H _ _ m j Q I i g ⟨_,_,rfl,rfl,p.here f rfl⟩
  .exact p.elim
 .split at p
  .have d:v=.str _:=d;have e:w=.str _:=e;subst d e;exact V9 pins s σ H _ _ m j Q I i g ⟨_,_,rfl,rfl,p.here f rfl⟩
  .exact p.elim
noncomputable def zH:aH->Bool
 |.Name _ _=>aB
 |.Constant _ _ _=>aB
 |.BinOp _ _ _ _=>aB
 |.UnaryOp _ _ _=>aB
 |.Call _ _ _ _=>aB
 |.Subscript _ _ _=>aB
 |.Attribute _ _ _=>aB
 |_=>aD
noncomputable def wk:aH->Bool
 |.Set _ _ _=>aD
 |_=>aB
noncomputable def xM:dA->Bool
 |.In=>aD|.NotIn=>aD
 |_=>aB
noncomputable def qU(op:dA)(b:aH):Bool:=xM op || wk b
noncomputable def kD:dA->Bool
 |.Lt=>aB|.LtE=>aB|.Gt=>aB|.GtE=>aB|.Eq=>aB|.NotEq=>aB
 |_=>aD
theorem jb(h:qU op b=aB):sx op b=aD:=by
 cases a:xM op with
 |true=>exact HD b (by rintro rfl;simp[xM] at a) (by rintro rfl;simp[xM] at a)
 |false=>
  have c:wk b=aB:=by unfold qU at h;rw[a] at h;exact h
  cases b<;>first|rfl|(simp[wk] at c)
theorem O4(C:Ck D W Γ X k)(A:qU op b=aB)(E:PE X a (aV D W f))(B:PE X b (aV D W g)):PE X (.Compare a [op] [b] pos) (aV D W (eCmp op f g)):=by
 rintro i s N H Q I ⟨L,P,M,O,r,z,p⟩;refine sL (aY (sub E I r z p) ?_) (jb A);rintro u V ⟨v,Z,t,l,n,K,x,o,d,h,G,p1⟩;refine aY (sub B K d h p1) ?_;rintro S U ⟨R,Y,T,j,m,J,w,c,q,e,F,y⟩;exact Wy J C.unt e (G.step c) F x w y
theorem uj{R:β->aI->List aE->Hp->Prop}{kk:T->aI->RE β}{x y:T}{v w:V}{c:aC}(I:Inv X pins σ H s)(h:X.A.units+64<cLine)(g:aL D φ α H μ)(k:a6 D φ α H x v)(i:a6 D φ α H y w)(f:RelV v c)(e:RelV w B)
  (p:aJ D W φ α H σ R ((yn op x y μ).bind kk)):wpAny (aR X.prog X.w) X.A (dD op c B) (EP X pins σ λz u=>∃t r j,aP α H j u/\aL D φ j u r/\a6 D φ j u t z/\aJ D W φ j u σ R (kk t r)) X.xe s:=
 Wy I h g k i f e (p.bind.mono λt a b l st m q v d=>⟨t,a,b,st,m,d,q⟩)
theorem w_:∀{ops:List dA}{es:List aH},ops.all kD=aB->lastMarks ops es=aD
 |[],es,_=>by cases es<;>rfl
 |[op],[],_=>rfl
 |[op],[e],h=>HD e (by rintro rfl;simp[kD] at h) (by rintro rfl;simp[kD] at h)
 |[op],_::_::_,_=>rfl
 |op::a::ops,[],_=>rfl
 |op::a::ops,e::es,h=>by
  have:lastMarks (a::ops) es=aD:=w_ (by simp only[iX,bK] at h ⊢;exact h.2);cases es with
  |nil=>cases ops<;>rfl
  |cons b es=>exact this
noncomputable def U9 (X:Cx)(D:DP)(W:XW):List aH->List (dA×De)->Prop
 |[],[]=>True
 |e::es,p::a=>PE X e (aV D W p.2)/\U9 X D W es a
 |_,_=>False
theorem VD(B:X.A.units+64<cLine){Q:VK}:∀{ps:List (dA×De)}{es:List aH}{s:aW}{H:Hp}{α:List aE}{μ:aI}{x:T}{v:V}{u:aC},U9 X D W es ps->Inv X pins σ H s->aZ D φ α H τ σ->aL D φ α H μ->a6 D φ α H x v->RelV v u->aJ D W φ α H σ (RV D φ Q) (JY ps x τ μ)->
  wpAny (aR X.prog X.w) X.A (compareChain pos u (ps.map (·.1)) (evalEach es X.env)) (EP X pins σ Q) X.xe s
 |[],_,_,_,_,_,_,_,_,_,_,_,_,_,_,p=>p.elim
 |[(op,g)],[],_,_,_,_,_,_,_,h,_,_,_,_,_,_=>h.elim
 |[(op,g)],[e],s,H,α,μ,x,v,u,h,I,o,y,d,r,p=>by
  refine chain_last (aY (sub h.1 I o y p) ?_);rintro K M ⟨J,Y,L,m,n,C,k,b,i,c,l,q⟩;exact Wy C B c (d.step b) l r k q
 |[(op,g)],_::_::_,_,_,_,_,_,_,_,h,_,_,_,_,_,_=>h.2.elim
 |(op,g)::O::ps,[],_,_,_,_,_,_,_,h,_,_,_,_,_,_=>h.elim
 |(op,g)::O::ps,[e],_,_,_,_,_,_,_,h,_,_,_,_,_,_=>h.2.elim
 |(op,g)::(t,P)::ps,e::R::es,s,H,α,μ,x,v,u,h,I,o,y,d,r,p=>by
  refine chain_link (aY (sub h.1 I o y p) ?_);rintro K M ⟨J,Y,L,m,n,C,k,b,i,c,l,q⟩;refine aY (uj C B c (d.step b) l r k q) ?_;rintro dd s3 ⟨z,U,E,N,Z,F,G,f,j,S,a⟩;try dsimp only at a
  split at a
  .cases S;cases N;rcases a.br with⟨rfl,a⟩|⟨rfl,a⟩
   .exact wpAny_truthy_bool (ite_tt (VD B (ps:=(t,P)::ps) (es:=R::es) h.2 E (i.step f) j (l.step f) k a))
   .exact wpAny_truthy_bool (ite_ff ⟨.bl aD,U,E,rfl,a.here j rfl⟩)
  .exact a.elim
theorem Tk(C:Ck D W Γ X k)(o:(p1::d::ps).all (λp=>kD p.1)=aB)(q:PE X a (aV D W f))(h:U9 X D W (w::r::es) (p1::d::ps)):PE X (.Compare a (p1.1::d.1::ps.map (·.1)) (w::r::es) pos) (aV D W (eCh f (p1::d::ps))):=by
 rintro e s B H Q I ⟨z,F,A,E,l,n,p⟩;refine Compare_chain (aY (sub q I l n p) ?_) (w_ (by simpa[sq,tx] using o));rintro u G ⟨v,J,t,g,i,y,m,j,b,c,x,p1⟩;exact VD C.unt h y b c x m p1
theorem Yl(N:X.A.units+64<cLine){β:Type}{R:β->aI->List aE->Hp->Prop}{kk:Bool->aI->RE β}:∀{ps:List (dA×De)}{es:List aH}{s:aW}{H:Hp}{α:List aE}{μ:aI}{x:T}{v:V}{u:aC}{Q:Bool->Hp->Prop},U9 X D W es ps->Inv X pins σ H s->aZ D φ α H τ σ->aL D φ α H μ->a6 D φ α H x v->RelV v u->aJ D W φ α H σ (λb _ _ H'=>Q b H') ((JY ps x τ μ).bind xu)->
  wpAny (aR X.prog X.w) X.A (testChain pos u (ps.map (·.1)) (evalEach es X.env)) (TP X pins σ Q) X.xe s
 |[],_,_,_,_,_,_,_,_,_,_,_,_,_,_,_,p=>aJ.elim p
 |[(op,g)],[],_,_,_,_,_,_,_,_,h,_,_,_,_,_,_=>h.elim
 |[(op,g)],[e],s,H,α,μ,x,v,u,Q,h,I,J,M,d,r,p=>by
  have p:aJ D W φ α H σ (λb _ _ H'=>Q b H') ((g τ μ).bind λy i=>(yn op x y i).bind xu):=p;refine test_last (aY (sub h.1 I J M p) ?_);rintro Y s2 ⟨U,H2,t',c,G,P,C,m,q,n,E,L⟩;refine aY (uj P N n (d.step m) E r C L) ?_;rintro dd s3 ⟨z,B,F,K,Z,o,j,l,f,O,a⟩;unfold xu at a;split at a
  .cases O;cases K;exact wpAny_truthy_bool ⟨B,F,a.ok (aP.refl _ _) f⟩
  .exact a.elim
 |[(op,g)],_::_::_,_,_,_,_,_,_,_,_,h,_,_,_,_,_,_=>h.2.elim
 |(op,g)::p'::ps,[],_,_,_,_,_,_,_,_,h,_,_,_,_,_,_=>h.elim
 |(op,g)::p'::ps,[e],_,_,_,_,_,_,_,_,h,_,_,_,_,_,_=>h.2.elim
 |(op,g)::(t,S)::ps,e::e'::es,s,H,α,μ,x,v,u,Q,h,I,J,M,d,r,p=>by
  have p:aJ D W φ α H σ (λb _ _ H'=>Q b H') ((g τ μ).bind λy i=>(yn op x y i).bind λk c=>(match k with|.bl b=>RE.br b (JY ((t,S)::ps) y τ c) (.ok (.bl aD) c)|_=>RE.st:RE T).bind xu):=p;refine test_link (aY (sub h.1 I J M p) ?_);rintro Y s2 ⟨U,H2,t',c,G,P,C,m,q,n,E,L⟩;refine aY (uj P N n (d.step m) E r C L) ?_;rintro dd s3 ⟨z,B,F,K,Z,o,j,l,f,O,a⟩;try dsimp only at a
  split at a
  .rename_i bb;cases O;cases K;cases bb with
   |true=>exact wpAny_truthy_bool (ite_tt (Yl N (kk:=kk) (R:=R) (ps:=(t,S)::ps) (es:=e'::es) h.2 F (q.step l) f (E.step l) C a))
   |false=>
    have a:aJ D W φ j B σ (λb _ _ H'=>Q b H') (RE.ok aD o):=a;exact wpAny_truthy_bool (ite_ff ⟨B,F,a.ok (aP.refl _ _) f⟩)
  .have a:aJ D W φ j B σ (λb _ _ H'=>Q b H') RE.st:=a;exact a.elim
end
section
variable {X:Cx}{D:DP}{W:XW}{Γ:Cn}{k:Nat}{pins:List (aE×a_)}{s:Shared}{σ:St}{H:Hp}{φ α:List aE}{τ:Sl}{μ:aI}{f g h:De}{ft gt:Dt}{a b c:aH}{pos:Pos}
theorem XO(m:PE X a (aV D W f))(he:∀d,isTrue a X.env d=(do let v ←d;standAt a.pos;mv [v] (truthy v))):PT X a (dZ D W (tE f)):=by
 rintro c s x H Q I ⟨r,z,w,y,j,l,p⟩;rw[he];refine wpAny_bind (aY (sub m I j l p) ?_);rintro u A ⟨v,q,t,e,g,o,k,h,i,b,n,p1⟩;unfold xu at p1;split at p1
 .cases n;cases k;exact wpAny_bind (fF (wpAny_holding (wpAny_truthy_bool ⟨q,o,p1.ok (aP.refl _ _) b⟩)))
 .exact p1.elim
theorem JW(C:Ck D W Γ X k)(U:qU op b=aB)(Y:PE X a (aV D W f))(V:PE X b (aV D W g)):PT X (.Compare a [op] [b] pos) (dZ D W (tE (eCmp op f g))):=by
 rintro q s w H Q I ⟨r,J,o,B,N,T,p⟩;have p:aJ D W r J H w (λb _ _ H'=>Q b H') ((f o B).bind λx e=>(g o e).bind λy c=>(yn op x y c).bind xu):=p;refine tU (aY (sub Y I N T p) ?_) (jb U);rintro u s1 ⟨v,H1,t,e,G,I1,R,L,j,n,d1,p1⟩;refine aY (sub V I1 j n p1) ?_;rintro u' s2 ⟨v',H2,t',c,F,I2,P,i,M,m,d2,S⟩;refine aY (uj I2 C.unt m (d1.step i) d2 R P S) ?_;rintro d s3 ⟨z,H3,I3,O,t3,A,E,K,l,Z,h⟩;unfold xu at h;split at h
 .cases Z;cases O;exact wpAny_truthy_bool ⟨H3,I3,h.ok (aP.refl _ _) l⟩
 .exact h.elim
theorem Ju(C:Ck D W Γ X k)(A:(p1::d::ps).all (λp=>kD p.1)=aB)(B:PE X a (aV D W f))(h:U9 X D W (F::E::es) (p1::d::ps)):PT X (.Compare a (p1.1::d.1::ps.map (·.1)) (F::E::es) pos) (dZ D W (tE (eCh f (p1::d::ps)))):=by
 rintro j s m H Q I ⟨l,q,i,n,w,z,p⟩;have p:aJ D W l q H m (λb _ _ K=>Q b K) ((f i n).bind λx c=>(JY (p1::d::ps) x i c).bind xu):=p;refine isTrue_chain (aY (sub B I w z p) ?_) (w_ (by simpa[sq,tx] using A));rintro u L ⟨v,M,t,c,o,J,y,r,e,g,G,p1⟩;exact Yl (kk:=λ_ _=>RE.st (β:=Bool)) (R:=λ_ _ _ _=>True) C.unt h J e g G y p1
theorem Oo(v:PT X a (dZ D W ft))(u:PW X (.BoolOp .And (b::r) pos) (dZ D W gt)):PW X (.BoolOp .And (a::b::r) pos) (dZ D W (tAnd ft gt)):=by
 intro d e s k H Q I t;refine N5 v u d e s k H Q I ?_;obtain⟨h,n,i,l,j,o,p⟩:=t;refine⟨h,n,i,l,j,o,p.bind.mono λc f g w st m q=>?_⟩;rcases q.br with⟨rfl,q⟩|⟨rfl,q⟩
 .exact⟨h,g,i,f,j.step st,m,q⟩
 .exact q.ok (aP.refl _ _) m
theorem MW(v:PT X a (dZ D W ft))(u:PW X (.BoolOp .Or (b::r) pos) (dZ D W gt)):PW X (.BoolOp .Or (a::b::r) pos) (dZ D W (tOr ft gt)):=by
 intro d e s k H Q I t;refine MV v u d e s k H Q I ?_;obtain⟨h,n,i,l,j,o,p⟩:=t;refine⟨h,n,i,l,j,o,p.bind.mono λc f g w st m q=>?_⟩;rcases q.br with⟨rfl,q⟩|⟨rfl,q⟩
 .exact q.ok (aP.refl _ _) m
 .exact⟨h,g,i,f,j.step st,m,q⟩
theorem NE(o:PT X a (dZ D W ft)):PT X (.UnaryOp .Not a pos) (dZ D W (tNot ft)):=by
 intro b s f H Q I n;refine Op o b s f H Q I ?_;obtain⟨d,j,e,h,k,l,p⟩:=n;exact⟨d,j,e,h,k,l,p.bind.mono λc g i r st m q=>q.ok (aP.refl _ _) m⟩
theorem Mh(w:PT X c (dZ D W ft))(y:PE X a (aV D W f))(x:PE X b (aV D W g)):PE X (.IfExp c a b pos) (aV D W (eIf ft f g)):=by
 rintro e s n H Q I ⟨l,A,m,z,u,v,p⟩;refine wpAny_IfExp (aY (E2 w I u v p) ?_);rintro d o ⟨r,h,i,q,t,j,k,p1⟩;rcases p1.br with⟨rfl,p1⟩|⟨rfl,p1⟩
 .exact y e o n r Q q ⟨l,i,m,h,j,k,p1⟩
 .exact x e o n r Q q ⟨l,i,m,h,j,k,p1⟩
noncomputable def zI:aH->Bool
 |.Name _ _=>aB
 |.Attribute _ _ _=>aB
 |.Subscript _ _ _=>aB
 |.Call (.Name x _) _ _ _=>x != ("super":aG)
 |.Call (.Attribute _ _ _) _ _ _=>aB
 |_=>aD
theorem aJ.ex3{β b a c:Type}{R:β->aI->List aE->Hp->Prop}{P:b->a->Prop}{d:b->a->c->Prop}{r:b->a->c->RE β}(p:aJ D W φ α H σ R (λK Z=>∃x y z,P x y/\d x y z/\r x y z K Z)):∃x y z,P x y/\d x y z/\aJ D W φ α H σ R (r x y z):=by
 obtain⟨K,Z,⟨x,y,z,f,e,q⟩,h⟩:=p;exact⟨x,y,z,f,e,K,Z,q,h⟩
theorem aJ.ex2{β a b:Type}{R:β->aI->List aE->Hp->Prop}{P:a->Prop}{c:a->b->Prop}{r:a->b->RE β}(p:aJ D W φ α H σ R (λK Z=>∃x y,P x/\c x y/\r x y K Z)):∃x y,P x/\c x y/\aJ D W φ α H σ R (r x y):=by
 obtain⟨K,Z,⟨x,y,e,d,q⟩,h⟩:=p;exact⟨x,y,e,d,K,Z,q,h⟩
theorem vg(h:zH b=aB):PR b:=by
 intro o i;cases b<;>first|(simp[zH] at h;done)|rfl
theorem uA(l:aM D φ α H ts xs)(h:xT ts i=aA t):∃v,mi xs i=aA v/\a6 D φ α H t v:=by
 unfold xT at h;have e:oA xs.length i=ro ts.length i:=by rw[l.length];rfl
 unfold mi;rw[e];cases q:ro ts.length i with
 |none=>rw[q] at h;cases h
 |some j=>
  rw[q] at h;exact l.get h
theorem Nc(i:zH b=aB)(hK:X.K=D.K)(V:PE X a (aV D W f))(U:PE X b (aV D W g)):PE X (.Subscript a b pos) (aV D W (eIx f g)):=by
 rintro e s m H Q I ⟨φ,α,τ,μ,O,P,p⟩;refine Subscript_ (aY (sub V I O P p) ?_);rintro u s1 ⟨v,H1,t,G,L,I1,q,M,B,C,j,p1⟩;refine aY (sub U I1 B C p1) ?_;rintro u' n ⟨v',y,t',F,J,x,o,A,N,h,Z,d⟩;have j:=j.step A;unfold BI at d;split at d
 .cases Z;split at d
  .obtain⟨w,hw,d⟩:=d.som;obtain⟨ad,xs,rfl,_,_,r,l⟩:=j;obtain⟨z,k,dz⟩:=uA l hw;exact Yb a b e n m y _ _ _ _ Q x q o ⟨ad,xs,_,z,rfl,rfl,.inl r,k,d.here h dz⟩ (vg i _ _)
  .obtain⟨w,hw,d⟩:=d.som;obtain⟨ad,xs,rfl,_,_,r,l⟩:=j;obtain⟨z,k,dz⟩:=uA l hw;exact Pc a b e n m y _ _ _ _ Q x q o ⟨ad,xs,_,z,rfl,rfl,.inl r,k,d.here h dz⟩ (vg i _ _)
  .obtain⟨ts,w,S,hw,d⟩:=d.ex2;obtain⟨ad,E,rfl⟩:=j;obtain⟨xs,Y,l⟩:=h.ob _ ad _ E S;obtain⟨z,k,dz⟩:=uA l hw;exact Yb a b e n m y _ _ _ _ Q x q o ⟨ad,xs,_,z,rfl,rfl,.inl (.inl Y),k,aJ.here d h dz⟩ (vg i _ _)
  .obtain⟨R,d⟩:=d.grd;obtain⟨c,T,d⟩:=d.som;have j:v=.str _:=j;subst j;exact Po a b e n m y _ _ _ _ Q x q o ⟨_,_,c,rfl,rfl,zf R,T,d.here h rfl⟩ (vg i _ _)
  .exact d.elim
 .exact d.elim
noncomputable def aO:aH->Bool
 |.Starred _ _=>aD
 |_=>aB
theorem z3(h:aO e=aB):dC (e::es) env=(aD,eval e env)::dC es env:=by
 cases e<;>first|(simp[aO] at h;done)|rfl
theorem zT(h:es.all aO=aB):(eU pos (dC es env)).any (·.1)=aD:=by
 induction es with
 |nil=>rfl
 |cons e es ih=>
  simp only[iX,bK] at h;rw[z3 h.1];have:=ih h.2
  first
   |(simp[eU] at this ⊢;exact this)
   |(simpa[eU] using this)
theorem OR:PA X [] (oy D W 0 (fB [])):=by
 rintro b a s c H Q I ⟨e,h,f,g,i,d,p⟩;exact zC b a s c H Q I (aJ.ok p (aP.refl _ _) d [] rfl rfl)
theorem R7(hs:aO e=aB)(G:PE X e (aV D W f))(C:PA X es (oy D W n (fB fs))):PA X (e::es) (oy D W (n+1) (fB (f::fs))):=by
 intro k c s l H Q I E;refine zj G C (z3 hs) k c s l H Q I ?_;obtain⟨h,r,g,o,w,A,p⟩:=E;have p:aJ D W h r H l _ ((f g o).bind λt a=>(fB fs g a).bind λu b=>.ok (t::u) b):=p;refine⟨h,r,g,o,w,A,p.bind.mono λt a i K st m q v d=>?_⟩;refine⟨h,i,g,a,w.step st,m,q.bind.mono λu b x J j B z y dl F=>?_⟩;exact z.ok (aP.refl _ _) B _ ⟨v,y,rfl,d.step j,dl⟩ (by simp[F])
noncomputable def cW (X:Cx)(D:DP)(W:XW):List aH->List De->Prop
 |[],[]=>True
 |e::es,f::fs=>aO e=aB/\PE X e (aV D W f)/\cW X D W es fs
 |_,_=>False
theorem wC:∀{es:List aH}{fs:List De},cW X D W es fs->PA X es (oy D W es.length (fB fs))
 |[],[],_=>OR
 |e::es,f::fs,h=>R7 h.1 h.2.1 (wC h.2.2)
 |[],_::_,h=>h.elim
 |_::_,[],h=>h.elim
theorem cW.stars:∀{es:List aH}{fs:List De},cW X D W es fs->es.all aO=aB
 |[],[],_=>rfl
 |e::es,f::fs,h=>by simp[h.1,cW.stars h.2.2]
 |[],_::_,h=>h.elim
 |_::_,[],h=>h.elim
theorem NO(n:es.length<=a9)(h:cW X D W es fs):PE X (.List es pos) (aV D W (eLst fs)):=by
 refine PE.mono (HB (wC h)) ?_;rintro o H Q ⟨b,g,c,e,j,k,p⟩;refine⟨b,g,c,e,j,k,p.bind.mono λr d f s st m q i dl l=>⟨by rw[l];exact zf n,λz a=>?_⟩⟩;exact q.fresh m (z7 a) ⟨z,i,rfl,zb m a,za m a,.inl z4,dl.step (aP.new (z7 a))⟩
theorem Ni(n:es.length<=a9)(h:cW X D W es fs):PE X (.Tuple es kk pos) (aV D W (eTup fs)):=by
 refine PE.mono (Hs (wC h)) ?_;rintro o H Q ⟨b,g,c,e,j,k,p⟩;refine⟨b,g,c,e,j,k,p.bind.mono λr d f s st m q i dl l=>⟨by rw[l];exact zf n,λz a=>?_⟩⟩;exact q.fresh m (z7 a) ⟨z,i,rfl,zb m a,za m a,.inl z4,dl.step (aP.new (z7 a))⟩
end
section
open PySem.W
theorem Wf{K:Frag}(X:K.In s.heap)(I:InstAt s.heap x ox D od)
 (f:cD K (.ref D) "__getattribute__"=aA (aA (.builtin "BaseException.__getattribute__"))) (hk:cD K (.ref D) "__getattr__"=aA aF)
 (l:findObj K D od "__class__"=aA (.bind (.builtin "getset_descriptor.__get__") (.builtin "object.__class__"))) (k:gF K D (.type "object")=aA aB) (n:gF K D (.type "BaseException")=aA aB)
 (h:Q (aA (.ref D)) {s with toks:=s.toks+1}):wpAny (aR prog w) A (getAttr? (.ref x) "__class__") Q E s:=by
 obtain⟨j,g,d,t,os⟩:=s;have b:=I.type (M:=aR prog w);have u:=o9 (M:=aR prog w) X f;have L2:=o9 (M:=aR prog w) X hk;have i:=looks_find (M:=aR prog w) X I l;have r:=looks_mroIn (M:=aR prog w) X n;have p:=EK.ga.bind (.ref x);unfold getAttr? getAttrBy? getAttrBy;refine wpAny_bind (wpAny_mkText (wpAny_bind (su (wpAny_holding (wpAny_bind (b.at (wpAny_bind (u.at ?_))))))));show wpAny _ _ (DE (.ref x) _ (.ref D) (.builtin "BaseException.__getattribute__") aD aD) _ _ _;unfold DE hookBefore;refine wpAny_bind ?_;show wpAny _ _ (mB (.ref D) "__getattr__") _ _ _;refine L2.at ?_;refine wpAny_bind (su (wpAny_holding ?_));unfold callGetattribute boundAndCalled;show wpAny _ _ (bindSpecial (.builtin "BaseException.__getattribute__") (.ref x) >>= _) _ _ _;rw[p];refine wpAny_bind (wpAny_pure ?_);show wpAny _ _ (call (.builtin "BaseException.__getattribute__") [.ref x,.str "__class__" _]) _ _ _;refine hO (p_ EK.ga.plain PySem.F.entry_bexc_ga ?_);have e:builtinKind "BaseException.__getattribute__"=aA .slot:=by decide +kernel
 have c:splitId "BaseException.__getattribute__"=aA ("BaseException","__getattribute__"):=by decide +kernel
 have o:=PySem.F.args_bexc_ga (.ref x) (.str "__class__" t);have q:nz (aR prog w) j (r4 (.ref x) (.type "BaseException")) aB:=b.andThen r;simp only[checkBuiltinCall,e,c];refine wpAny_bind (q.at ?_);simp only[Bool.not_true,sY,if_false];refine lQ (a:=()) o ?_;unfold iO.«object.__getattribute__»;refine wpAny_bind (m:=slotArgs _ _ _) (wpAny_pure ?_);dsimp only;refine wpAny_bind ?_;show wpAny _ _ (EU (.str "__class__" t)) _ _ _
 first
  |exact wpAny_pure (wpAny_bind (b.at (wpAny_bind (i.at ?_))))
  |(refine wpAny_pure (wpAny_bind (b.at (wpAny_bind (i.at ?_)))))
  |(unfold EU;refine wpAny_pure (wpAny_bind (b.at (wpAny_bind (i.at ?_)))))
 dsimp only;unfold Ln;show wpAny _ _ (mv [Value.builtin "object.__class__"] (call (.builtin "getset_descriptor.__get__") [.builtin "object.__class__",.ref x,.ref D]) >>= ret) _ _ _;refine wpAny_bind (wpAny_holding (hO (class_get (s:=⟨j,g,d,t+1,os⟩) X I k ?_)));refine wpAny_pure ?_;exact handed_on rfl (wpAny_pure h)
theorem iy.fo{K:Frag}(h:iy K C)(od:Option a_):findObj K C od "__class__"=aA (.bind (.builtin "getset_descriptor.__get__") (.builtin "object.__class__")):=by
 have a:=h.cl;obtain⟨cd,e⟩:=pX.mp a;unfold findObj;rw[e,h.fi];simp only[pQ];rw[h.sp];simp only[pQ];rw[h.tk];rfl
noncomputable def XcP (x C:aE)(d:Option aE)(h:aT):Prop:=Qy x C d h/\∀dx,d=aA dx->∃o,h.get? dx=aA o
theorem z06{K:Frag}(b:iy K C):KitX K (.ref x) (.ref C) (XcP x C d) where
 ty:=λM h _ p=>by
  obtain⟨⟨j,t,g,f,r,m⟩,_⟩:=p;exact f▸(Cs g).andThen .now
 it:=λM h X _=>by
  have a:=b.cl;unfold lS at a;split at a
  .rename_i A y s i c;intro G E F D k q;unfold isType loadHead;exact wpAny_bind (wpAny_loadPart (k _ _ (X _ _ c)) (wpAny_pure q))
  .cases a
 ne:=λh u dd v n B X l=>by
  refine pD.mpr λq=>?_;have e:C=u:=Value.ref.inj (beq_iff_eq.mp q);subst e;have a:=b.cl;unfold lS at a;split at a
  .rename_i A y s i c;have z:=(X _ _ c).symm.trans l;cases z
  .cases a
 ca:=λX p k=>by
  obtain⟨⟨j,t,g,f,r,m⟩,w⟩:=p;cases d with
  |none=>
   refine Wf (ox:=j) (od:=aF) X ⟨g,f,?_,?_⟩ b.ga b.hk (b.fo _) b.ob b.bx k
   .unfold notCls;rw[r]
   .rw[m];trivial
  |some dx=>
   obtain⟨o,c⟩:=w dx rfl;refine Wf (ox:=j) (od:=aA o) X ⟨g,f,?_,?_⟩ b.ga b.hk (b.fo _) b.ob b.bx k
   .unfold notCls;rw[r]
   .rw[m];exact c
end
section
variable {X:Cx}{D:DP}{W:XW}{Γ:Cn}{k:Nat}{pins:List (aE×a_)}{s:Shared}{σ:St}{H:Hp}{φ α:List aE}{τ:Sl}{μ:aI}{f g h:De}{a b c:aH}{pos:Pos}{es:List aH}{fs:List De}
theorem zU{f:aG}(h:zI e=aB):lY e f env (eval e env)=eval e env:=by
 cases e with
 |Call g args a p=>
  cases g with
  |Name x c=>
   have b:(x != ("super":aG))=aB:=h;cases args<;>cases a<;>first|rfl|(unfold lY;simp[b])
  |Attribute _ _ _=>rfl
  |_=>exact absurd (show aD=aB from h) eO
 |_=>first|exact absurd (show aD=aB from h) eO|rfl
theorem bO.ext{fs:List (Nat×T)}(x:bO D φ α H fs d)(I:Inv X pins σ H s):∀dx,d=aA dx->∃o,s.heap.get? dx=aA o:=λdx e=>by
 subst e;obtain⟨gs,_,_,e,_⟩:=x;exact We (I.hok dx _ e)
noncomputable def ow (D:DP)(W:XW)(f:Dp):TO:=λσ H Q=>m_ D H σ λφ α τ μ=>aJ D W φ α H σ (λo _ _ a=>Q o a) (f τ μ)
theorem R5:PO X aF (ow D W pN):=by
 rintro a s b H Q I ⟨d,g,e,f,h,c,p⟩;exact R9 a s b H Q I (aJ.ok p (aP.refl _ _) c)
theorem Rm(h:PE X a (aV D W f)):PO X (aA a) (ow D W (pS f)):=by
 rintro b s g H Q I ⟨c,l,e,j,n,o,p⟩;refine RN h b s g H Q I ⟨c,l,e,j,n,o,p.bind.mono λt i k r st m q v d=>?_⟩;split at q
 .cases d;exact⟨_,rfl,q.ok (aP.refl _ _) m⟩
 .exact q.elim
theorem xh(l:aM D φ α H ts xs)(lo a:Option Int):aM D φ α H (ZP ts lo a) (Q0 xs lo a):=by
 have e:ts.length=xs.length:=l.length;have b:∀n d o,nZ n d o=HT.sIx n d o:=λn d o=>by cases o<;>rfl
 unfold ZP Q0;rw[b,b,e];exact (l.drop _).take _
theorem xa{lo:Option Int}(a:gZ s.heap t items)(hs:s.heap.IsSliceOf j u r .none)(f:iC u lo)(e:iC r m)
  (hw:HT.sIx items.size 0 lo=0/\HT.sIx items.size items.size m=items.size) (h:Q (.ref t) s):wpAny (aR prog w) A (hL (.ref t) (.ref j)) Q E s:=by
 obtain⟨os,b,c,g⟩:=id hs;have d:s.TypeIs (.ref j) "slice":=⟨os,b,c⟩;unfold hL;try with_reducible refine wpAny_holding ?_
 first|refine wpAny_bind (wpAny_pure ?_)|skip
 refine wpAny_bind (DK a.typeIs (by decide) ?_);refine wpAny_bind (EM (name:=e_ "__getitem__") a.typeIs l_ (Dj l_ a.typeIs DX ?_ (Ea _ _)));show wpAny _ _ (EE (.ref t) >>= _) _ _ s;refine wpAny_bind (tupleItemsOf_ a ?_);refine wpAny_bind (mE d ?_);rw[if_pos (by decide)];refine wpAny_bind (HT.sliceApplied_gen hs f e ?_);show wpAny _ _ (if (((HT.sIx items.size 0 lo:Nat):Int)==0&&(1:Int)==1&&(HT.sIx items.size items.size m-HT.sIx items.size 0 lo)==items.size)=aB then _ else _) _ _ s;rw[if_pos (by rw[hw.1,hw.2];simp)];refine wpAny_bind ?_;unfold LJ;refine wpAny_bind (mE a.typeIs (wpAny_pure ?_));rw[if_pos (by decide)]
 first
  |exact wpAny_bind (nv (wpAny_pure ⟨_,rfl,wpAny_pure h⟩))
  |exact wpAny_bind (nv (wpAny_bind (wpAny_pure (wpAny_pure ⟨_,rfl,wpAny_pure h⟩))))
theorem SY:lc X (λx lo j H Q=>∃a xs,x=.ref a/\eS X.K H a xs/\(HT.sIx xs.length 0 lo=0/\HT.sIx xs.length xs.length j=xs.length)/\Q (.ref a) H):=by
 intro d s m H x v o n lo j p Q I f l i g h;obtain⟨a,xs,rfl,k,hw,q⟩:=h;cases f;obtain⟨c,r,e,t⟩:=I.tuple k;have b:c.toArray.size=xs.length:=by rw[dH];exact r.length.symm
 exact⟨"tuple",_,l_.lookup,e.typeIs,xa e l i g (by rw[b];exact hw) ⟨.ref a,H,I,rfl,q⟩⟩
theorem ND:lc X (λx lo d H Q=>∃z,x=.str z/\z.length<=sizeLine/\Q (.str (rX z lo d)) H):=by
 intro a s c H x v f e lo d n Q I p B r b h;obtain⟨z,rfl,y,q⟩:=h;obtain⟨g,rfl⟩:=p;refine⟨"str",_,F.slot_str_getitem.lookup,iV _ _ _,?_⟩;obtain⟨o,E,D,C⟩:=B;have fin:∀(l u:Option (Int×Tok)),f=partValue l->e=partValue u->lo=l.map (·.1)->d=u.map (·.1)->wpAny (aR X.prog X.w) X.A (hL (.str z g) (.ref n)) (EP X a c Q) X.xe s:=by
  rintro l u rfl rfl rfl rfl;exact wpAny_getItem_str_slice (l:=l) (u:=u) (st:=aF) ⟨o,E,D,C⟩ rfl (post_val_or_str ⟨cV (Txt.slice_le z _ _) y,λm k=>⟨.str _,H,I.tok _,⟨m,rfl⟩,q⟩⟩)
 cases r with
 |none=>
  cases b with
  |none=>exact fin aF aF rfl rfl rfl rfl
  |int j u=>exact fin aF (aA (j,u)) rfl rfl rfl rfl
 |int i t=>
  cases b with
  |none=>exact fin (aA (i,t)) aF rfl rfl rfl rfl
  |int j u=>exact fin (aA (i,t)) (aA (j,u)) rfl rfl rfl rfl
theorem TN{lo:Option aH}(P:PE X a (aV D W f))(M:PO X lo (ow D W fo))(L:PO X O (ow D W go)):PE X (.Subscript a (.Slice lo O aF U) pos) (aV D W (eSl f fo go)):=by
 refine PE.mono (S_ (Rh.or (Pa.or (SY.or ND))) P M L) ?_;rintro S H Q ⟨j,E,k,B,x,J,p⟩;refine⟨j,E,k,B,x,J,p.bind.mono λt o w Z st m q v d=>?_⟩;refine⟨j,w,k,o,x.step st,m,q.bind.mono λl n s Y h K F=>?_⟩;refine⟨j,s,k,n,(x.step st).step h,K,F.bind.mono λu A C V i g c=>?_⟩;unfold v6 at c;split at c
 .obtain⟨ad,xs,rfl,_,_,r,dl⟩:=(d.step h).step i;refine .inl ⟨ad,xs,rfl,.inl r,λz b=>?_⟩;exact c.fresh g (z7 b) ⟨z,_,rfl,zb g b,za g b,.inl z4,xh (dl.step (aP.new (z7 b))) _ _⟩
 .obtain⟨ad,xs,rfl,I,G,r,dl⟩:=(d.step h).step i;by_cases hw:HT.sIx xs.length 0 l=0/\HT.sIx xs.length xs.length u=xs.length
  .refine .inr (.inr (.inl ⟨ad,xs,rfl,.inl r,hw,?_⟩));have e:Q0 xs l u=xs:=by unfold Q0;rw[hw.1,hw.2];simp
   have dd:=xh dl l u;rw[e] at dd;exact c.here g ⟨ad,xs,rfl,I,G,r,dd⟩
  .refine .inr (.inl ⟨ad,xs,rfl,.inl r,hw,λz b=>?_⟩);exact c.fresh g (z7 b) ⟨z,_,rfl,zb g b,za g b,.inl z4,xh (dl.step (aP.new (z7 b))) _ _⟩
 .obtain⟨b,c⟩:=c.grd;have d:v=.str _:=d;subst d;exact .inr (.inr (.inr ⟨_,rfl,zf b,c.here g rfl⟩))
 .obtain⟨T,N,c⟩:=c.ex1;obtain⟨ad,y,rfl⟩:=(d.step h).step i;obtain⟨xs,R,dl⟩:=g.ob _ ad _ y N;refine .inl ⟨ad,xs,rfl,.inl (.inl R),λz b=>?_⟩;exact aJ.fresh c g (z7 b) ⟨z,_,rfl,zb g b,za g b,.inl z4,xh (dl.step (aP.new (z7 b))) _ _⟩
 .exact c.elim
theorem ug{g:Fn}{fa:aE}{kk:Nat}{Q:VK}(C:Ck D W Γ X k)(F:bI X.prog X.w X.K X.mg X.base (cG X.prog X.w) kk fa fd ps (dY D ps.length g))
  (o:bU kk X.A) (t:Binds X.K fd ps []) (h:∀ts μ K Z,g ts μ K Z->ts.length=ps.length) (I:Inv X pins σ H s) (r:aU vs us) (m:aL D φ α H μ) (d:aM D φ α H ts vs) (p:aJ D W φ α H σ (RV D φ Q) (g ts μ)) :
  wpAny (aR X.prog X.w) X.A (call (.ref fa) us) (EP X pins σ Q) X.xe s:=by
 obtain⟨K,Z,q,a,n⟩:=p;have i:ts.length=ps.length:=h ts μ K Z q;have j:dY D ps.length g vs H Q (λc d b=>W c d σ b):=⟨by rw[<-d.length];exact i,φ,α,ts,μ,d,m,K,Z,q,a,n⟩;have f:us.length=ps.length:=by rw[<-r.length,<-d.length];exact i
 refine hO (iS (F.run X.A X.stack s H ⟨us,[]⟩ us vs Q (λc d b=>W c d σ b) o I.env0 (by simpa using t s us I.kIn (by simpa using f)) r j) λr l a=>?_);cases r with
 |error e=>exact C.xe e l (xJ (E:=λc d b=>W c d σ b) I a λcls d b w=>w)
 |ok fl=>
  cases fl with
  |ret u=>exact I.after a
  |next=>exact dL a
  |brk=>exact dL a
  |cont=>exact dL a
theorem PY(C:Ck D W Γ X k){g:Fn}(hx:x∈Γ.G)(B:Γ.gl x=.fn g)(E:Γ.calm=aB)(h:cW X D W es fs):PE X (.Call (.Name x p0) es [] pos) (aV D W (eCall g fs)):=by
 have q:=C.glo x hx;rw[B] at q;obtain⟨fa,A,fd,S,T,m,n,d,Fn,a⟩:=q;have l:=(C.rom E).mono d;have c:=h.stars;have z:=wC h;rintro i s L H Q I ⟨J,N,K,M,w,j,p⟩;refine gP (zR I (C.glb x hx) A ?_ (C.dbG x hx));cases es with
 |nil=>
  cases fs with
  |nil=>exact nM I.kIn m (ug (ts:=[]) C Fn l n a I .nil j rfl p)
  |cons f fs=>exact h.elim
 |cons e es=>
  simp only[iX,bK] at c;refine mL (h₀:=X.base) I.ok.mod.kin m (aY (n7 z I w j p) ?_) (z3 c.1) (zT c.2);rintro P R ⟨O,U,ts,r,t,o,y,u,v,b,F,_,p1⟩;exact⟨o.kIn,ug C Fn l n a o y b F p1⟩
theorem iw{c:Nat}{g:Fn}{C0 fI:aE}{kk:Nat}{Q:VK}(C:Ck D W Γ X k)(ad:D.cad c=aA C0)(M:Mk X.K C0 fI)(F:bI X.prog X.w X.K X.mg X.base (cG X.prog X.w) kk fI fd ps (dY D ps.length g))
  (hr:bU (kk+1) X.A) (hb:Binds X.K fd ps []) (har:∀ts μ K Z,g ts μ K Z->ts.length=ps.length) (I:Inv X pins σ H s) (r:aU vs us) (y:aL D φ α H μ) (d:aM D φ α H ts vs) (p:aJ D W φ α H σ (RV D φ Q) (VI c g ts μ)) :
  wpAny (aR X.prog X.w) X.A (call (.ref C0) us) (EP X pins σ Q) X.xe s:=by
 obtain⟨K,Z,⟨hp,hg⟩,hk,hz⟩:=p;have hl:(T.mut 0::ts).length=ps.length:=har _ _ _ _ hg;have hq:∀x dx,H x=aF->H dx=aF->dx≠x->dY D ps.length g (.ref x::(vs++[])) (aX (aX H dx (.own x)) x (.ins C0 dx [])) (λv H2=>v=.non/\Q (.ref x) H2) (λc d B=>W c d σ B):=by
  intro x dx J hdx hne;have P:j6 H (aX (aX H dx (.own x)) x (.ins C0 dx [])):=λb o e=>by rw[z6 (zu e J),z6 (zu e hdx)];exact e
  have U:aP [] H [x] (aX (aX H dx (.own x)) x (.ins C0 dx [])):=⟨⟨[x],rfl,λb h=>by rw[c8.mp h];exact J⟩,λb o _ e=>P b o e,λb e=>by
   cases q:H b with
   |none=>rfl
   |some o=>rw[P b o q] at e;cases e⟩
  have nx:x∉φ++α:=λz=>(cM.mp z).elim (zb y J) (za y J);have ph:∀b∈φ++α,∃o,H b=aA o/\rL o=aB:=λb h=>(cM.mp h).elim (y.phi b) λz=>by
   obtain⟨i,hi⟩:=mU.mp z;have hl':i<μ.length:=by rw[<-y.len];exact (cH.mp hi).1
   exact (y.ob i b μ[i] hi (by simp[hl'])).some
  refine⟨by simp only[eG,hZ] at hl ⊢;rw[<-d.length];exact hl,φ++α,[x],.mut 0::ts,[.obj c []],⟨.ref x,vs++[],rfl,⟨x,rfl,rfl⟩,by rw[hZ];exact (aM.hide hp d Sg).step U⟩,⟨rfl,by simp,λb h=>by rw[c8.mp h];exact nx,λb h=>let ⟨o,e,n⟩:=ph b h;⟨o,P b o e,n⟩,λi a o O e2=>?_⟩,?_⟩
  .cases i with
   |zero=>simp at O e2;subst O e2;exact⟨C0,dx,[],ad,z4,rfl⟩
   |succ i=>simp at O
  have back:∀{G:List aE}{N:Hp},aP [x] (aX (aX H dx (.own x)) x (.ins C0 dx [])) G N->j6 H N:=λst b o e=>st.keep b o (λz=>by rw[c8.mp z,J] at e;cases e) (P b o e);refine⟨_,_,hg,?_,?_⟩
  .rintro t S ⟨rfl,fs,h0,L,q⟩ G N st m v dv;refine⟨dv,?_⟩;obtain⟨β,rfl,_⟩:=st.ext;obtain⟨C1,dx1,gs,ad1,O,lf⟩:=m.ob 0 x _ rfl h0;have j:=back st;exact hk _ _ q α N (aP.new j) (y.new j) _ ⟨x,C1,dx1,gs,rfl,zb y J,za y J,ad1,O,bD.hide L lf J8⟩
  .rintro e fs S ⟨L,q⟩ G N C1 d1 st m had xd;have j:=back st;exact hz _ _ _ q α N C1 d1 (aP.new j) (y.new j) had (bO.hide L xd J8)
 have Y:=hq (s.heap.objs.size+1) s.heap.objs.size (I.hok.fresh (iW _)) (I.hok.fresh (bG _)) (dF (iY _));have R:=Inv.made (C:=C0) I;have r2:aU (V.ref (s.heap.objs.size+1)::(vs++[])) (b9 (s.heap.objs.size+1)::us):=.cons rfl (by rw[hZ];exact r);have hlu:(b9 (s.heap.objs.size+1)::us++[]).length=ps.length:=by
  rw[hZ,eG,<-r.length,<-d.length];exact hl
 refine hO (VW (f:=fI) I.kIn M.makes M.init (beq_iff_eq.mp M.fn) (iS (F.run _ X.stack _ _ ⟨b9 (s.heap.objs.size+1)::us,[]⟩ (b9 (s.heap.objs.size+1)::us) _ _ (λc d B=>W c d σ B) (hr.make C0 us [])
  (R.env0.make C0 us []) (by simpa using hb _ (b9 (s.heap.objs.size+1)::us) R.kIn hlu) r2 Y) λr s' l=>?_))
 cases r with
 |error e=>exact C.xe e s' (xJ (E:=λc d B=>W c d σ B) R l λcls d B w=>w)
 |ok fl=>
  cases fl with
  |ret u=>
   obtain⟨v,B,I3,rv,ev,q3⟩:=R.after l;subst ev;exact⟨rv,⟨V.ref (s.heap.objs.size+1),B,I3,rfl,q3⟩⟩
  |next=>exact dL l
  |brk=>exact dL l
  |cont=>exact dL l
theorem PK(C:Ck D W Γ X k){c:Nat}{g:Fn}(hx:x∈Γ.G)(B:Γ.gl x=.mk c aB g)(E:Γ.calm=aB)(i:cW X D W es fs):PE X (.Call (.Name x p0) es [] pos) (aV D W (eMk c g fs)):=by
 have q:=C.glo x hx;rw[B] at q;obtain⟨C0,V,fd,T,U,ad,A,M,n,h,Fn,a⟩:=q;have m:=(C.rom E).mono h;have d:=i.stars;have z:=wC i;rintro j s L H Q I ⟨J,O,K,N,w,l,p⟩;refine gP (zR I (C.glb x hx) A ?_ (C.dbG x hx));cases es with
 |nil=>
  cases fs with
  |nil=>exact nM I.kIn M.kp (iw (ts:=[]) C ad M Fn m n a I .nil l rfl p)
  |cons f fs=>exact i.elim
 |cons e es=>
  simp only[iX,bK] at d;refine mL (h₀:=X.base) I.ok.mod.kin M.kp (aY (n7 z I w l p) ?_) (z3 d.1) (zT d.2);rintro R S ⟨P,Y,ts,r,t,o,y,u,v,b,F,_,p1⟩;exact⟨o.kIn,iw C ad M Fn m n a o y b F p1⟩
theorem Nl(C:Ck D W Γ X k)(K:zI a=aB)(s:(x,n)∈Γ.fld)(M:PE X a (aV D W f)):PE X (.Attribute a x pos) (aV D W (eFld f n)):=by
 refine PE.mono (No M (zU K)) ?_;rintro N H Q ⟨u,G,A,E,I,J,p⟩;refine⟨u,G,A,E,I,J,p.bind.mono λt B F O st m q v d=>?_⟩;unfold yi at q;split at q
 .split at q
  .rename_i c fs _ w hw;obtain⟨ad,C0,dx,gs,rfl,_,_,j,i,l⟩:=d;obtain⟨y,z,g,e,dz⟩:=l.look hw;obtain⟨b,r,o⟩:=C.fld c C0 x n j s;rw[g] at b;cases b;exact⟨ad,C0,dx,gs,z,rfl,i,r,o,e,q.here m dz⟩
  .exact q.elim
 .obtain⟨c,fs,w,L,hw,q⟩:=q.ex3;obtain⟨ad,h,rfl⟩:=d;obtain⟨C0,dx,gs,j,i,l⟩:=m.ob _ ad _ h L;obtain⟨y,z,g,e,dz⟩:=l.look hw;obtain⟨b,r,o⟩:=C.fld c C0 x n j s;rw[g] at b;cases b;exact⟨ad,C0,dx,gs,z,rfl,i,r,o,e,aJ.here q m dz⟩
 .exact q.elim
end
section
variable {X:Cx}{D:DP}{W:XW}{Γ:Cn}{k:Nat}{pins:List (aE×a_)}{s:Shared}{σ:St}{H:Hp}{φ α:List aE}{τ:Sl}{μ:aI}{f h:De}{a b c:aH}{pos:Pos}{es:List aH}
theorem XS{B:Prop}(C:Ck D W Γ X k){c:Nat}{C0 dx ad:aE}(I:Inv X pins σ H s)(a:D.cad c=aA C0)(ea:H ad=aA (.ins C0 dx gs))
  (b:∀d P,VC D c d->pe X.K (.ref ad) d P->P s.heap->(b9 ad)≠.builtin "__main__.__loader__#opaque"->B):B:=by
 have o:=C.ocx c C0 a;obtain⟨f,O,_⟩:=xt I.hok ea;obtain⟨e,J,_⟩:=O.look;exact b _ _ (.inr (.inr (.inr (.inr (.inr (.inr (.inr (.inr ⟨C0,a,rfl⟩)))))))) (PySem.W.kitx_own (o.cl.get _) o.cl.hd o.fi o.sp o.tk o.ob) J (λz=>nomatch z)
theorem N8{B:Prop}(C:Ck D W Γ X k){t:T}{v:V}(I:Inv X pins σ H s)(d:a6 D φ α H t v)(r:RelV v u)(a:oo t μ=aA n)
  (f:∀A P,VC D n A->pe X.K u A P->P s.heap->u≠.builtin "__main__.__loader__#opaque"->B):B:=by
 cases t with
 |non=>cases d;cases r;cases a;exact f _ _ (.inl ⟨rfl,rfl⟩) PySem.W.kitx_none fX (λz=>nomatch z)
 |bl b=>cases d;cases r;cases a;exact f _ _ (.inr (.inl ⟨rfl,rfl⟩)) PySem.W.kitx_bool fX (λz=>nomatch z)
 |int i=>cases d;obtain⟨t,rfl⟩:=r;cases a;exact f _ _ (.inr (.inr (.inl ⟨rfl,rfl⟩))) PySem.W.kitx_int fX (λz=>nomatch z)
 |str i=>cases d;obtain⟨t,rfl⟩:=r;cases a;exact f _ _ (.inr (.inr (.inr (.inl ⟨rfl,rfl⟩)))) PySem.W.kitx_str fX (λz=>nomatch z)
 |tup E=>
  obtain⟨ad,xs,rfl,_,_,q,_⟩:=d;cases r;cases a;obtain⟨h,_,⟨o,x,m,_⟩,_⟩:=I.tuple (.inl q);exact f _ _ (.inr (.inr (.inr (.inr (.inl ⟨rfl,rfl⟩))))) PySem.W.kitx_tuple ⟨o,x,m⟩ (λz=>nomatch z)
 |lst E=>
  obtain⟨ad,xs,rfl,_,_,q,_⟩:=d;cases r;cases a;obtain⟨h,_,p,_⟩:=I.list (.inl q);obtain⟨o,x,m,_⟩:=p.isList;exact f _ _ (.inr (.inr (.inr (.inr (.inr (.inl ⟨rfl,rfl⟩)))))) DI ⟨o,x,m⟩ (λz=>nomatch z)
 |exc c fs=>
  obtain⟨ad,C0,dd,rfl,_,_,g,y,xd⟩:=d;cases r;cases a;have G:=C.xcx n C0 g;obtain⟨p,_⟩:=(show a8 X.prog X.w H s.heap ad (.ext (Qy ad C0 dd)) from I.hok ad _ y);have xd:bO D φ α H fs dd:=by cases dd<;>exact xd
  exact f _ _ (.inr (.inr (.inr (.inr (.inr (.inr (.inl ⟨C0,g,rfl⟩))))))) (z06 G) ⟨p,xd.ext I⟩ (λz=>nomatch z)
 |dic F=>
  obtain⟨ad,gs,rfl,_,_,e,_⟩:=d;cases r;cases a;obtain⟨_,_,J,_,dd⟩:=(show a8 X.prog X.w H s.heap ad (.dK gs) from I.hok ad _ e);exact f _ _ (.inr (.inr (.inr (.inr (.inr (.inr (.inr (.inl ⟨rfl,rfl⟩)))))))) pC dd.typeIs (λz=>nomatch z)
 |obj c fs=>
  obtain⟨ad,C0,dx,gs,rfl,_,_,g,y,l⟩:=d;cases r;cases a;exact XS C I g y f
 | «mut» i=>cases a
 |clo j cs=>cases a
theorem SI{B:Prop}(C:Ck D W Γ X k){v:V}{o:MO}(I:Inv X pins σ H s)(t:aL D φ α H μ)(d:a6 D φ α H (.mut i) v)(r:RelV v u)(y:μ[i]?=aA o)(f:Jd o=aD)
  (a:∀m P,VC D (BX o) m->pe X.K u m P->P s.heap->u≠.builtin "__main__.__loader__#opaque"->B):B:=by
 obtain⟨ad,A,rfl⟩:=d;cases r;have dd:=t.ob i ad o A y;cases o with
 |lst G=>
  obtain⟨xs,q,_⟩:=dd;obtain⟨x,_,p,_⟩:=I.list (.inl (.inl q));obtain⟨o,h,g,_⟩:=p.isList;exact a _ _ (.inr (.inr (.inr (.inr (.inr (.inl ⟨rfl,rfl⟩)))))) DI ⟨o,h,g⟩ (λz=>nomatch z)
 |obj c fs=>
  obtain⟨C0,dx,gs,F,E,l⟩:=dd;exact XS C I F E a
 |dic b=>
  obtain⟨gs,e,_⟩:=dd;obtain⟨_,_,n,_,dd⟩:=(show a8 X.prog X.w H s.heap ad (.dK gs) from I.hok ad _ e);exact a _ _ (.inr (.inr (.inr (.inr (.inr (.inr (.inr (.inl ⟨rfl,rfl⟩)))))))) pC dd.typeIs (λz=>nomatch z)
 |tab j=>cases f
 |frd ep b=>
  obtain⟨gs,e,_⟩:=dd;obtain⟨_,_,n,_,dd⟩:=(show a8 X.prog X.w H s.heap ad (.dE ep gs) from I.hok ad _ e);exact a _ _ (.inr (.inr (.inr (.inr (.inr (.inr (.inr (.inl ⟨rfl,rfl⟩)))))))) pC dd.dictOf.typeIs (λz=>nomatch z)
 |dct J=>
  obtain⟨xs,_,_,_,_,q,_⟩:=dd;obtain⟨⟨o,es,ep,h,g,_⟩,_⟩:=(show a8 X.prog X.w H s.heap ad (.ext (GF ad xs)) from I.hok ad _ q);exact a _ _ (.inr (.inr (.inr (.inr (.inr (.inr (.inr (.inl ⟨rfl,rfl⟩)))))))) pC ⟨o,h,g.1⟩ (λz=>nomatch z)
theorem Xu{B:Prop}(C:Ck D W Γ X k){t:T}{v:V}{u:aC}{Q:VK}(I:Inv X pins σ H s)(c:aL D φ α H μ)(d:a6 D φ α H t v)(r:RelV v u)(q:aJ D W φ α H σ (RV D φ Q) (YF cs t μ))
  (b:∀n g P,aJ D W φ α H σ (RV D φ Q) (.ok (.bl (bR n cs)) μ)->VC D n g->pe X.K u g P->P s.heap->u≠.builtin "__main__.__loader__#opaque"->B):B:=by
 unfold YF at q;split at q
 .obtain⟨o,e,q⟩:=q.som;rcases q.br with⟨_,q⟩|⟨f,q⟩
  .exact q.elim
  .exact SI C I c d r e f λg P=>b _ g P q
 .split at q
  .rename_i h a;exact N8 C I d r a λg P=>b _ g P q
  .exact q.elim
noncomputable def vk(Γ:Cn):List aH->Option (List Nat)
 |[]=>aA []
 |e::r=>match e with
  |.Name x _=>if (b7 Γ.N x).isNone&&Γ.G.contains x then (match Γ.cls.lookup x with
   |some c=>(vk Γ r).map (c::·)
   |none=>aF) else aF
  |_=>aF
noncomputable def Zv(Γ:Cn)(e:aH):Option (List Nat):=match e with
 |.Name _ _=>vk Γ [e]
 |.Tuple es _ _=>if decide (es.length<=a9) then vk Γ es else aF
 |_=>aF
theorem bS{β:Type}{v:β}:∀{l:List (aG×β)},l.lookup x=aA v->(x,v)∈l
 |[],h=>by cases h
 |(y,w)::r,h=>by
  rw[fH] at h;cases q:x==y with
  |true=>rw[q] at h;cases h;rw[beq_iff_eq.mp q];exact fZ
  |false=>rw[q] at h;exact eH _ (bS h)
theorem Od(C:Ck D W Γ X k){c:Nat}(a:x∈Γ.G)(d:(x,c)∈Γ.cls):∃u v,Bm X x u/\fU v u/\∀p0,PE X (.Name x p0) (tC v):=by
 obtain⟨u,v,cv,r⟩:=C.clv x c d;refine⟨u,v,cv,r,λp0=>?_⟩;rcases cv with h|⟨h,e,b⟩
 .exact Ym (C.glb x a) h r.rel (C.dbG x a)
 .exact RC (C.glb x a) h e r.rel b (C.dbG x a)
theorem Ww(C:Ck D W Γ X k):∀{es:List aH}{cs:List Nat},vk Γ es=aA cs->∃us vs,(∀d,aU vs d->d=us)/\vs.length=es.length/\es.all aO=aB/\PA X es (λ_ H Q=>Q vs H)/\∀t g,VC D t g->sK X.K g us=aA (bR t cs)
 |[],cs,h=>by
  simp[vk] at h;subst h;exact⟨[],[],λd r=>by cases r;rfl,rfl,rfl,λb a s f H Q I q=>zC b a s f H Q I q,λt g _=>rfl⟩
 |e::es,cs,h=>by
  unfold vk at h;split at h
  .rename_i x z;split at h
   .rename_i n;simp only[bK,iq] at n;split at h
    .rename_i c j;cases i:vk Γ es with
     |none=>rw[i] at h;cases h
     |some J=>
      rw[i] at h;cases h;have m:=bS j;obtain⟨us,vs,o,j,E,F,G⟩:=Ww C i;obtain⟨u,v,cv,r,y⟩:=Od C n.2 m;refine⟨u::us,v::vs,λd q=>by cases q with|cons w p=>rw[r.only w,o _ p],by simp[j],by simp[aO,E],λb a s f H Q I q=>zj (y z) F (z3 rfl) b a s f H Q I q,λt g l=>?_⟩;have B:=C.isi t x c m g u l cv;have A:=G t g l;unfold sK;rw[B];rw[vm];cases L:zD t c with
      |true=>rfl
      |false=>exact A
    .cases h
   .cases h
  .cases h
theorem NK (C:Ck D W Γ X k) (hx:("isinstance":aG)∈Γ.G) (hg:Γ.gl "isinstance"=.none) (hs:aO a=aB) (h:Zv Γ c=aA cs) (ha:PE X a (aV D W f)):PE X (.Call (.Name "isinstance" p0) [a,c] [] pos) (aV D W (eIsi cs f)):=by
 have hm:=C.glo _ hx;rw[hg] at hm;rintro r s O H Q I ⟨j,R,τ,μ,sr,mr,p⟩;refine gP (qH I (C.glb _ hx) hm boot_isinstance ?_ (by decide) (C.dbG _ hx));unfold Zv at h;split at h
 .rename_i cn pc;obtain⟨V,i,hu,hl,hst,hp,hk⟩:=Ww C h;refine rc (aY (zj ha hp (z3 hs) pos r s O H (λL e=>∃v t g b,L=v::i/\aP R H b e/\aL D j b e g/\a6 D j b e t v/\aJ D W j b e O (RV D j Q) (YF cs t g)) I ⟨j,R,τ,μ,sr,mr,p.bind.mono λt y z H' st m q v d=>⟨v,t,y,z,rfl,st,m,d,q⟩⟩) ?_) (z3 hs) (zT (by rfl));rintro us s1 ⟨L,e,x,rv,v,t,g,b,rfl,st,m,d,q⟩;cases rv with
  | @cons _ u _ A r1 F=>
  obtain rfl:=hu A F;have hlu:A.length=1:=by rw[<-F.length];exact hl
  match A,hlu with
  |[uc],_=>
  refine Xu C x m d r1 q λT S P q ht kx hP E=>?_;have J:=hk T S ht;have k1:pi X.K S uc=aA (bR T cs):=by
   unfold sK at J;split at J
   .rename_i hb;rw[hb];exact J
   .rename_i hb;rw[hb];exact J
   .cases J
  exact PySem.W.kia_one kx x.kIn hP k1 E λY=>⟨.bl _,e,x.tok Y,rfl,q.here m rfl⟩
 .rename_i ees J pc;split at h;case isFalse=>cases h
  rename_i M;obtain⟨V,i,hu,hl,hst,hp,hk⟩:=Ww C h;refine rc (aY (zj ha (zj (Hs hp) zC (z3 rfl)) (z3 hs) pos r s O H (λL H2=>∃v l e t g b,L=[v,.ref l]/\e l=aF/\H2=aX e l (.tup i)/\aP R H b e/\aL D j b e g/\a6 D j b e t v/\aJ D W j b e O (RV D j Q) (YF cs t g)) I ⟨j,R,τ,μ,sr,mr,p.bind.mono λt y z H' st m q v d=>⟨by rw[hl];exact zf (by simpa using M),λl B=>⟨v,l,H',t,y,z,rfl,B,rfl,st,m,d,q⟩⟩⟩) ?_) (z3 hs) (zT (by rfl));rintro us s1 ⟨L,H2,x,rv,v,l,e,t,g,b,rfl,B,rfl,st,m,d,q⟩;obtain⟨u,ut,rfl,r1,F⟩:=vals2 rv;have F:ut=b9 l:=F;subst F;have U:j6 e (aX e l (.tup i)):=z7 B;refine Xu C x (m.new U) (d.step (aP.new U)) r1 (q.step (aP.new U)) λT S P q ht kx hP E=>?_;obtain⟨_,its,Z,⟨o,ho,N,n,hd⟩⟩:=(show a8 X.prog X.w _ s1.heap l (.tup i) from x.hok l _ z4);obtain rfl:=hu its Z;obtain⟨oc,odd,odt,osl⟩:=o;simp only at N hd;subst N hd;exact PySem.W.kia_tup kx x.kIn hP ho (hk T S ht) E λY=>⟨.bl _,_,x.tok Y,rfl,q.here (m.new U) rfl⟩
 .cases h
end
section
variable {X:Cx}{D:DP}{W:XW}{Γ:Cn}{k:Nat}{pins:List (aE×a_)}{s:Shared}{σ:St}{H:Hp}{φ α:List aE}{τ:Sl}{μ:aI}{f h:De}{a b:aH}{pos:Pos}{es:List aH}
noncomputable def B1 (X:Cx)(D:DP)(W:XW)(fv:aC)(op:T->aI->RE T):Prop:=
 ∀(pins:List (aE×a_)) (s:aW) (σ:St) (H:Hp) (φ α:List aE) (μ:aI) (t:T) (v:V) (u:aC) (Q:VK),Inv X pins σ H s->aL D φ α H μ->a6 D φ α H t v->RelV v u->aJ D W φ α H σ (RV D φ Q) (op t μ)->
  wpAny (aR X.prog X.w) X.A (call fv [u]) (EP X pins σ Q) X.xe s
theorem Xw (C:Ck D W Γ X k) {id:String}(hx:x∈Γ.G) (L:Γ.gl x=.none) (J:fW x=aA (.builtin id)) (K:x≠"__name__") (hs:aO a=aB) (M:B1 X D W (.builtin id) op) (N:PE X a (aV D W f)) :
  PE X (.Call (.Name x p0) [a] [] pos) (aV D W (eB1 op f)):=by
 have r:=C.glo _ hx;rw[L] at r;rintro e s i H Q I ⟨g,n,w,y,z,F,p⟩;refine gP (qH I (C.glb _ hx) r J ?_ K (C.dbG _ hx));refine rc (aY (zj N zC (z3 hs) pos e s i H (λo h=>∃v t c b,o=[v]/\aP n H b h/\aL D g b h c/\a6 D g b h t v/\aJ D W g b h i (RV D g Q) (op t c)) I ⟨g,n,w,y,z,F,p.bind.mono λt j l R st m q v d=>⟨v,t,j,l,rfl,st,m,d,q⟩⟩) ?_) (z3 hs) (zT (by rfl));rintro P A ⟨o,h,O,B,v,t,c,b,rfl,st,m,d,q⟩;obtain⟨u,rfl,E⟩:=vals1 B;exact M e A i h g b c t v u Q O m d E q
theorem VF (C:Ck D W Γ X k) {id:String}(hx:x∈Γ.G) (L:Γ.gl x=.none) (J:fW x=aA (.type id)) (K:x≠"__name__") (hs:aO a=aB) (M:B1 X D W (.type id) op) (N:PE X a (aV D W f)) :
  PE X (.Call (.Name x p0) [a] [] pos) (aV D W (eB1 op f)):=by
 have r:=C.glo _ hx;rw[L] at r;rintro e s i H Q I ⟨g,n,w,y,z,F,p⟩;refine gP (qH I (C.glb _ hx) r J ?_ K (C.dbG _ hx));refine nV (aY (zj N zC (z3 hs) pos e s i H (λo h=>∃v t c b,o=[v]/\aP n H b h/\aL D g b h c/\a6 D g b h t v/\aJ D W g b h i (RV D g Q) (op t c)) I ⟨g,n,w,y,z,F,p.bind.mono λt j l R st m q v d=>⟨v,t,j,l,rfl,st,m,d,q⟩⟩) ?_) (z3 hs) (zT (by rfl));rintro P A ⟨o,h,O,B,v,t,c,b,rfl,st,m,d,q⟩;obtain⟨u,rfl,E⟩:=vals1 B;exact M e A i h g b c t v u Q O m d E q
theorem Mi:B1 X D W (.builtin "len") lenT:=by
 intro a s c H h j i t v u Q I b d r p;unfold lenT at p;split at p
 .obtain⟨ad,xs,rfl,_,_,q,l⟩:=d;exact vn a s c H _ _ Q I (.cons r .nil) ⟨ad,xs,rfl,.inl (.inl q),by rw[<-l.length];exact p.here b rfl⟩
 .obtain⟨ad,xs,rfl,_,_,q,l⟩:=d;exact vn a s c H _ _ Q I (.cons r .nil) ⟨ad,xs,rfl,.inr (.inl q),by rw[<-l.length];exact p.here b rfl⟩
 .cases d;obtain⟨e,p⟩:=p.grd;exact Vt a s c H _ _ Q I (.cons r .nil) ⟨_,rfl,zf e,p.here b rfl⟩
 .obtain⟨k,f,p⟩:=p.ex1;obtain⟨ad,g,rfl⟩:=d;obtain⟨xs,q,l⟩:=b.ob _ ad _ g f;exact vn a s c H _ _ Q I (.cons r .nil) ⟨ad,xs,rfl,.inl (.inl (.inl q)),by rw[<-l.length];exact aJ.here p b rfl⟩
 .exact p.elim
theorem Sr:B1 X D W (.type "tuple") tupleT:=by
 intro b s e H h j i t v u Q I c d r p;unfold tupleT at p;split at p
 .obtain⟨ad,xs,rfl,_,_,q,l⟩:=d;exact jw b s e H _ _ Q I (.cons r .nil) ⟨ad,xs,rfl,.inl ⟨.inl q,λz a=>p.fresh c (z7 a) ⟨z,xs,rfl,zb c a,za c a,.inl z4,l.step (aP.new (z7 a))⟩⟩⟩
 .obtain⟨k,f,p⟩:=p.ex1;obtain⟨ad,g,rfl⟩:=d;obtain⟨xs,q,l⟩:=c.ob _ ad _ g f;exact jw b s e H _ _ Q I (.cons r .nil) ⟨ad,xs,rfl,.inl ⟨.inl (.inl q),λz a=>aJ.fresh p c (z7 a) ⟨z,xs,rfl,zb c a,za c a,.inl z4,l.step (aP.new (z7 a))⟩⟩⟩
 .exact p.elim
theorem O6:B1 X D W (.type "list") listT:=by
 intro b s e H h j i t v u Q I c d r p;unfold listT at p;split at p
 .obtain⟨ad,xs,rfl,_,_,q,l⟩:=d;exact zN b s e H _ _ Q I (.cons r .nil) ⟨ad,xs,rfl,.inl (.inl q),λz a=>p.fresh c (z7 a) ⟨z,xs,rfl,zb c a,za c a,.inl z4,l.step (aP.new (z7 a))⟩⟩
 .obtain⟨ad,xs,rfl,_,_,q,l⟩:=d;exact zN b s e H _ _ Q I (.cons r .nil) ⟨ad,xs,rfl,.inr (.inl q),λz a=>p.fresh c (z7 a) ⟨z,xs,rfl,zb c a,za c a,.inl z4,l.step (aP.new (z7 a))⟩⟩
 .obtain⟨k,f,p⟩:=p.ex1;obtain⟨ad,g,rfl⟩:=d;obtain⟨xs,q,l⟩:=c.ob _ ad _ g f;exact zN b s e H _ _ Q I (.cons r .nil) ⟨ad,xs,rfl,.inl (.inl (.inl q)),λz a=>aJ.fresh p c (z7 a) ⟨z,xs,rfl,zb c a,za c a,.inl z4,l.step (aP.new (z7 a))⟩⟩
 .exact p.elim
theorem xS(a:H p=aF):aP α H (α++[p]) (aX H p o):=⟨⟨[p],rfl,by simpa using a⟩,λb u _ e=>z7 a b u e,λb e=>by
 by_cases z:b=p
 .rw[z,z4] at e;cases e
 .rw[z6 z] at e;exact e⟩
theorem aL.lay(m:aL D φ α H μ)(g:H p=aF)(l:aM D φ α H ts vs):aL D φ (α++[p]) (aX H p (.lst vs)) (μ++[.lst ts]):=by
 have st:aP α H (α++[p]) (aX H p (.lst vs)):=xS g;have s:=m.len;refine⟨by simp[s],?_,λb j=>?_,λb j=>?_,λi a o c f=>?_⟩
 .rw[mK];refine⟨m.nd,by simp,λa v b j=>?_⟩;rw[c8.mp j];intro z;exact za m g (z▸v)
 .rcases cM.mp j with h|h
  .exact m.dis b h
  .rw[c8.mp h];exact zb m g
 .obtain⟨u,e,n⟩:=m.phi b j;exact⟨u,z7 g b u e,n⟩
 .by_cases t:i<α.length
  .rw[eL t] at c;rw[eL (by lia)] at f;have d:=m.ob i a o c f;obtain⟨u,q,_⟩:=d.some;exact d.step st ((z7 g _ _ q).trans q.symm)
  .rw[fP (by lia)] at c f;have r:i-α.length=0:=by
    by_cases z:i-α.length=0
    .exact z
    .rw[mT (by simp;lia)] at c;cases c
   have k:i-μ.length=0:=by lia
   rw[r] at c;rw[k] at f;have c:aA p=aA a:=c;have f:aA (MO.lst ts)=aA o:=f;cases c;cases f;exact⟨vs,z4,l.step st⟩
theorem aJ.lay(q:aJ D W φ α H σ (RV D φ Q) (.ok (.mut μ.length) (μ++[.lst ts])))(m:aL D φ α H μ)(a:H p=aF)(l:aM D φ α H ts vs):Q (.ref p) (aX H p (.lst vs)):=
 q.ok (xS a) (m.lay a l) _ ⟨p,by rw[<-m.len,fP (bG _)];simp,rfl⟩
theorem M9:B1 X D W (.type "list") layT:=by
 intro a s e H h j i t v u Q I c d r p;unfold layT at p;split at p
 .obtain⟨ad,xs,rfl,_,_,q,l⟩:=d;exact zN a s e H _ _ Q I (.cons r .nil) ⟨ad,xs,rfl,.inl (.inl q),λz b=>p.lay c b l⟩
 .obtain⟨ad,xs,rfl,_,_,q,l⟩:=d;exact zN a s e H _ _ Q I (.cons r .nil) ⟨ad,xs,rfl,.inr (.inl q),λz b=>p.lay c b l⟩
 .obtain⟨k,f,p⟩:=p.ex1;obtain⟨ad,g,rfl⟩:=d;obtain⟨xs,q,l⟩:=c.ob _ ad _ g f;exact zN a s e H _ _ Q I (.cons r .nil) ⟨ad,xs,rfl,.inl (.inl (.inl q)),λz b=>aJ.lay p c b l⟩
 .exact p.elim
theorem OO(k:es.length<=a9)(l:cW X D W es fs):PE X (.List es pos) (aV D W (eLay fs)):=by
 refine PE.mono (HB (wC l)) ?_;rintro n H Q ⟨a,f,b,d,g,h,p⟩;refine⟨a,f,b,d,g,h,p.bind.mono λr c e s st m q o dl j=>⟨by rw[j];exact zf k,λz i=>q.lay m i dl⟩⟩
theorem Jj:∀{ts:List T}{bs:List Bool}{vs:List V}{us:List aC},dN ts=aA bs->aM D φ α H ts vs->aU vs us->us=bs.map lu
 |[],bs,vs,us,h,l,r=>by
  simp[dN] at h;subst h;have l:vs=[]:=l;subst l;cases r;rfl
 |t::ts,bs,vs,us,h,l,r=>by
  obtain⟨v,w,rfl,d,l⟩:=l;cases t with
  |bl b=>
   simp only[dN] at h;cases q:dN ts with
   |none=>rw[q] at h;cases h
   |some cs=>
    rw[q] at h;cases h;cases r with
    |cons c a=>
     cases d;cases c;rw[Jj q l a];rfl
  |_=>simp[dN] at h
theorem M2(G:X.calm=aB):B1 X D W (.builtin "all") allT:=by
 intro m s N H M P O t v u Q I z d r p;unfold allT at p;split at p;case h_2=>exact p.elim
 rename_i xs;obtain⟨bs,J,p⟩:=p.som;obtain⟨ad,R,rfl,_,_,q,l⟩:=d;cases r;obtain⟨c,w,y,T⟩:=I.list (.inl q);have eb:=Jj J l w;have j:=y.isList;have g:ad<s.heap.objs.size:=by obtain⟨_,e,_⟩:=j;exact bW e
 refine call_all_walk (pB j ?_)
 refine⟨s.heap.objs.size,[s.heap.objs.size,ad],[s.heap.objs.size],c.toArray.size,_,_,λi=>(bs[i]?).getD aB,rfl,rZ (A:=X.A.in1) (I.ok.hd G) _ ad (dF g) c.toArray,
  ⟨⟨_,dQ _ rfl,rfl,rfl⟩,j.push _⟩,λi v S U V K n=>?_,λL o F=>?_⟩
 .have a:c[i]?=aA v:=by simpa using K
  rw[eb,eX] at a;cases e:bs[i]? with
  |none=>rw[e] at a;cases a
  |some b=>
   rw[e] at a;simp at a;subst a;simp only[e,s_] at n;exact wpAny_truthy_bool n
 .have e:((hX c.toArray.size).all λi=>(bs[i]?).getD aB)=bs.all id:=by
   have C:c.toArray.size=bs.length:=by simp[eb]
   rw[C];rw[nJ];simp only[eF,Du,id_eq];constructor
   .intro h b k;obtain⟨i,f,rfl⟩:=Ef.mp k;have:=h i f;simpa[f] using this
   .intro h i f;have:=h bs[i] (List.getElem_mem f);simpa[f] using this
  rw[e];have B:∀b x,s.heap.get? b=aA x->L.get? b=aA x:=λb x e=>F b x (λE=>by rw[c8.mp E] at e;exact ip _ (bW e)) (bN _ e);exact⟨.bl (bs.all id),H,I.kept (t':=o) B,rfl,p.here z rfl⟩
theorem aP.turn(hx:x∈α)(a:∃d,H x=aA d):aP α H α (aX H x o):=by
 refine⟨⟨[],by simp,by simp⟩,λb u n e=>?_,λb e=>?_⟩
 .rw[z6 (λ(z:b=x)=>n (by rw[z];exact hx))];exact e
 .by_cases z:b=x
  .rw[z,z4] at e;cases e
  .rw[z6 z] at e;exact e
theorem aL.turn(m:aL D φ α H μ)(hx:α[i]?=aA x)(l:i<μ.length)(st:aP α H α (aX H x o))(d:cQ D φ α (aX H x o) r x):aL D φ α (aX H x o) (μ.set i r):=by
 refine⟨by simp[m.len],m.nd,m.dis,λb g=>?_,λj y h c a=>?_⟩
 .obtain⟨u,k,n⟩:=m.phi b g;exact⟨u,st.keep b u (λz=>m.dis b z g) k,n⟩
 .by_cases q:i=j
  .subst q;rw[hx] at c;cases c;rw[ra l] at a;cases a;exact d
  .rw[l5 q] at a;have ne:y≠x:=λz=>by
    subst z;obtain⟨s,f⟩:=cH.mp c;obtain⟨p,e⟩:=cH.mp hx;exact q ((pT m.nd).mp (e.trans f.symm))
   exact cQ.step st (z6 ne) (m.ob j y h c a)
theorem z0I(e:aL D φ α H μ)(b:α[i]?=aA x)(c:μ[i]?=aA (.lst ts))(g:H x=aA (.lst xs))(l:aM D φ α H ts xs)(d:a6 D φ α H t v) :
  aP α H α (aX H x (.lst (xs++[v])))/\aL D φ α (aX H x (.lst (xs++[v]))) (μ.set i (.lst (ts++[t]))):=by
 have a:aP α H α (aX H x (.lst (xs++[v]))):=aP.turn (cY b) ⟨_,g⟩;have f:i<μ.length:=(cH.mp c).1;exact⟨a,e.turn b f a ⟨_,z4,(l.step a).append ⟨v,[],rfl,d.step a,rfl⟩⟩⟩
theorem N6(R:zI o=aB)(hs:aO a=aB)(b:(pa.endLine==pc.line)=aB)(S:PE X o (aV D W go))(ha:PE X a (aV D W f)) :
  PE X (.Call (.Attribute o "append" pa) [a] [] pc) (aV D W (eApp go f)):=by
 have Y:dC [a] X.env=[(aD,eval a X.env)]:=z3 hs;refine PE.mono (Y4 EJ PySem.F.slot_list_append PySem.F.type_list_append W3 S (zj ha zC (z3 hs)) (zU R) (by rw[Y];rfl) b (z3 hs) rfl) ?_;rintro σ H Q ⟨w,I,y,G,z,N,p⟩;refine⟨w,I,y,G,z,N,p.bind.mono λot k m H1 r B q ov dv=>?_⟩;split at q;case h_2=>exact q.elim
 rename_i i;obtain⟨K,Z,⟨⟨L,g⟩,V⟩,U,P⟩:=q;obtain⟨x,s,rfl⟩:=dv;obtain⟨J,u,l0⟩:=B.ob _ x _ s g;refine⟨.inl ⟨rfl,_,.inl (.inl u)⟩,w,m,y,k,z.step r,B,_,Z,V,?_,P⟩;rintro t E ⟨ts,h,T,M⟩ c H2 e A v d;obtain⟨β,e2,_⟩:=e.ext;have j:c[i]?=aA x:=by
  rw[e2,eL (cH.mp s).1];exact s
 obtain⟨xs,C,l⟩:=A.ob i x _ j h;obtain⟨n,O⟩:=z0I A j h C l d;refine⟨x,xs,v,rfl,rfl,C,?_,?_⟩
 .rw[<-l.length];exact dI T (zf (bG _))
 .exact U _ _ M c _ (e.trans n) O .non rfl
end
end NH
namespace NH
open PySem PySem.Spec PyProof.Rows L2
open PySem.Builtin PySem.Builtin.Str PySem.Builtin.Int
theorem UG:mB (.type "list_reverseiterator") "__len__"=pure aF:=by
 rw[DD,Ev];kernel_rfl
theorem z09:mB (.type "list_reverseiterator") "__length_hint__"=pure (aA (.builtin "list_reverseiterator.__length_hint__")):=by
 rw[DD,Ev];kernel_rfl
section
variable {prog:Program}{w:World}{A:Around}{E:aC->Shared->Prop}{s:Shared}{I l:aE}{items:Array aC}
noncomputable def GQ(items:Array aC):Nat->aC->Prop:=λi v=>items[items.size-1-i]?=aA v
theorem J4(H:A.handled=aF)(j:s.heap.IsRevIter I l ((items.size:Int)-1))(B:s.heap.IsList l items)(u:l≠I)(G:items.size<=sizeLine)
  (K:∀d r,(∀b o,b≠I->s.heap.get? b=aA o->d.heap.get? b=aA o)->d.gens=s.gens->d.drawn=s.drawn->d.os=s.os->ItemsOf (GQ items) r items.size->Q r.toList d):wpAny (aR prog w) A (collect (.ref I)) Q E s:=by
 have W:=(Walks.listRev (prog:=prog) (w:=w) (A:=A.in1) H I l u items).toS;have q:(0<=items.size/\s.heap.IsRevIter I l ((items.size:Int)-1-((0:Nat):Int))/\s.heap.IsList l items):=⟨gQ _,by simpa using j,B⟩;have D:I<s.heap.objs.size:=by obtain⟨o,t,_⟩:=j;exact bW t
 have C:l<s.heap.objs.size:=by obtain⟨o,t,_⟩:=B;exact bW t
 have m:s.heap.objs.size≠I:=λe=>ip _ (show s.heap.objs.size<s.heap.objs.size from e▸D);have v:s.heap.objs.size≠l:=λe=>ip _ (show s.heap.objs.size<s.heap.objs.size from e▸C);have x:s.heap.objs.size∉[I,l]:=by simp[m,v]
 unfold collect;refine wpAny_bind (wpAny_runValue (mP F.entry_proto_collect ?_));rw[nP F.plain_proto_collect _];show wpAny _ A.in1 (newList [] >>= λl=>again (.builtin "list.__iadd__" ⟨[l,.ref I],[]⟩)) _ _ s;refine wpAny_bind (lC (wpAny_pure ⟨mI DH _,mP F.entry_list_iadd ?_⟩));rw[nP DH _];have a:=W.frame 0 s (s.heap.push {cls:=.type "list",data:=.seq ([]:List aC).toArray}) s.toks q (bG _) λb _ o e=>bN _ e;have y:(s.heap.push {cls:=.type "list",data:=.seq ([]:List aC).toArray}).get? s.heap.objs.size=aA {cls:=.type "list",data:=.seq ([]:List aC).toArray}:=dQ _ rfl;have L:EO (.ref s.heap.objs.size) (.ref I)=aD:=by simp[EO,m]
 have p:∀i (s:aW),(i<=items.size/\s.heap.IsRevIter I l ((items.size:Int)-1-(i:Int))/\s.heap.IsList l items)->s.TypeIs (.ref I) "list_reverseiterator":=λi s st=>st.2.1.typeIs;show wpAny _ A.in1 (ET (.ref s.heap.objs.size) (.ref I) (.ref s.heap.objs.size)) _ _ _;unfold ET;refine wpAny_bind (mE (p 0 _ a) ?_);rw[if_neg (by rw[L];decide)];refine wpAny_bind (W.self 0 _ _ _ a (wpAny_bind (wpAny_holding ?_)));unfold LN;refine wpAny_bind (sR (p 0 _ a) UG ?_);show wpAny _ A.in1 (specialOf (b9 I) (e_ "__length_hint__") >>= _) _ _ _;refine wpAny_bind (sR (p 0 _ a) z09 ?_);(generalize c:("list_reverseiterator.__length_hint__":String)=g;(fail_if_success (clear c g));wp_delta;rw[show splitId g=aA ("list_reverseiterator","__length_hint__") from by subst c;decide +kernel];subst c);refine wpAny_bind (wpAny_isInstance (b:=aB) (p 0 _ a) (by rw[isSubtype_type];kernel_rfl) ?_);refine wpAny_pure ?_;rw[if_neg (by decide)];refine wpAny_pure ⟨mI F.plain_extend_loop _,codeAny_extend_loopS W G _ x _ items.size 0 _ _ _ rfl (gQ _) a y (ItemsOf.nil _) λd n M f z k=>?_⟩;show wpAny _ A (load s.heap.objs.size >>= _) _ _ d;refine wpAny_bind (wpAny_load z (wpAny_pure ?_));have f:=Moved.drop_new (o:={cls:=.type "list",data:=.seq ([]:List aC).toArray}) (tk:=s.toks) f (bG _);exact K d n (λb o J e=>f.heap b o (λh=>J (c8.mp h)) e) f.gens f.drawn f.os k
theorem z0L(a:aG)(ls:List (aG×Tok))(h:tooLong ((ls.map (·.1)).toArray.foldl (·+·.length+a.length) 0)=aD):Gives (joinTail a (fG ls)) (joinMade a ls):=by
 have b:=gives_joinTail a ls h;cases ls with
 |nil=>exact b
 |cons p r=>cases r with
  |nil=>exact b
  |cons q c=>exact b
theorem z0S(D:A.handled=aF)(h:s.heap.IsRevIter I l ((ys.length:Int)-1))(B:s.heap.IsList l (fG ys).toArray)(p:l≠I)(z:ys.length<=sizeLine)(hok:g_ d ((ys.map (·.1)).reverse)=aB)
  (r:∀(f:aW) t' k,(∀b o,b≠I->s.heap.get? b=aA o->f.heap.get? b=aA o)->f.gens=s.gens->f.drawn=s.drawn->f.os=s.os->Q (.str (iG d ((ys.map (·.1)).reverse)) t') {f with toks:=k}) :
  wpAny (aR prog w) A (call (.builtin "str.join") [.str d t,.ref I]) Q E s:=by
 have c:(fG ys).toArray.size=ys.length:=by simp[fG]
 refine hO (p_ o_.plain F.entry_str_join (o_.check _ _ _ _ _ _ _ _ (iV _ _ _) (F.args_str_join_2 _ _) ?_));rw[join_tree_other];refine wpAny_bind (mE h.typeIs ?_);show wpAny _ A.in1 ((mo (.ref I)).tryCatch _ >>= λit=>collect it >>= λitems=>joinTail d items) _ _ s;refine wpAny_bind (mM (tS h ?_));refine wpAny_bind (J4 (A:=A.in1) D (by rw[c];exact h) B p (by rw[c];exact z) λf i y x v u n=>?_);have e:i.toList=fG ys.reverse:=by
  obtain⟨H,G⟩:=n;rw[c] at H;refine List.ext_getElem? λj=>?_;by_cases C:j<ys.length
  .have m:j<i.size:=by lia
   have q:=G j i[j] (tY m);unfold GQ at q;rw[c] at q;rw[Eu,tY m,<-q];simp only[fG,List.getElem?_toArray,eX];rw[Et C]
  .rw[mT (by simp;lia),mT (by simp[fG];lia)]
 rw[e];have er:(ys.reverse.map (·.1))=(ys.map (·.1)).reverse:=by rw[Dg]
 rw[<-er] at hok r;have a:=hok;unfold g_ at a;rw[mJ] at a;have g:=z0L d ys.reverse a;exact g prog w A (wants Q E) f (post_join ys.reverse ⟨joinFit_length a,λt' k=>r f t' k y x v u⟩)
end
section
variable {X:Cx}{D:DP}{W:XW}{Γ:Cn}{k:Nat}{pins:List (aE×a_)}{s:Shared}{σ:St}{H:Hp}{φ α:List aE}{τ:Sl}{μ:aI}{f h:De}{a b c:aH}{es:List aH}
theorem yj:∀{ts:List T}{ys:List aG}{vs:List V}{us:List aC},bM ts=aA ys->aM D φ α H ts vs->aU vs us->∃ls:List (aG×Tok),fG ls=us/\ls.map (·.1)=ys
 |[],ys,vs,us,h,l,r=>by
  simp[bM] at h;subst h;have l:vs=[]:=l;subst l;cases r;exact⟨[],rfl,rfl⟩
 |t::ts,ys,vs,us,h,l,r=>by
  obtain⟨v,w,rfl,d,l⟩:=l;cases t with
  |str x=>
   simp only[bM] at h;cases q:bM ts with
   |none=>rw[q] at h;cases h
   |some f=>
    rw[q] at h;cases h;cases r with
    |cons c b=>
     have d:v=.str x:=d;subst d;obtain⟨a,rfl⟩:=c;obtain⟨ls,rfl,e⟩:=yj q l b;exact⟨(x,a)::ls,rfl,by simp[e]⟩
  |_=>simp[bM] at h
theorem ZB (C:Ck D W Γ X k) (hc:Γ.calm=aB) (hx:("reversed":aG)∈Γ.G) (hg:Γ.gl "reversed"=.none) (J:(pa.endLine==pc.line)=aB) (ha:PE X (.Name x px) (aV D W f)) :
  PE X (.Call (.Attribute (.Constant (.str g) k0 p0) "join" pa) [.Call (.Name "reversed" pr) [.Name x px] [] pq] [] pc) (aV D W (eB1 (joinRT g) f)):=by
 have hm:=C.glo _ hx;rw[hg] at hm;rintro y s L H Q I ⟨A,α,τ,μ,sr,mr,p⟩;refine wpAny_Call_method_late rfl rfl J rfl (aY (Ze (X:=X) y s L H (λv O=>v=.str g/\O=H) I ⟨rfl,rfl⟩) ?_);rintro v s1 ⟨x1,O,I1,r1,rfl,rfl⟩;obtain⟨t0,rfl⟩:=r1;refine⟨"str","str.join",tG,o_,Es,iV _ _ _,(λa e=>by cases e),?_⟩;refine tH rfl (mR (l9 ?_));refine gP (qH I1 (C.glb _ hx) hm (show fW "reversed"=aA (.type "reversed") by decide +kernel) ?_ (by decide) (C.dbG _ hx));refine nV (aY (zj ha zC rfl pq y s1 L O (λvs z=>∃v t w h,vs=[v]/\aP α O h z/\aL D A h z w/\a6 D A h z t v/\aJ D W A h z L (RV D A Q) (joinRT g t w)) I1 ⟨A,α,τ,μ,sr,mr,p.bind.mono λt P R H' st m q v d=>⟨v,t,P,R,rfl,st,m,d,q⟩⟩) ?_) rfl rfl;rintro us n ⟨vs,z,N,rv,v,t,w,h,rfl,st,m,d,q⟩;obtain⟨u,rfl,r2⟩:=vals1 rv;have V:∃ad i ys,u=.ref ad/\n.heap.IsList ad (fG i).toArray/\i.map (·.1)=ys/\(g_ g ys.reverse=aB/\ys.length<=a9)/\aJ D W A h z L (RV D A Q) (.ok (.str (iG g ys.reverse)) w):=by
  unfold joinRT at q;split at q
  .obtain⟨ys,E,q⟩:=q.som;obtain⟨j,q⟩:=q.grd;obtain⟨ad,xs,rfl,_,_,rd,l⟩:=d;cases r2;obtain⟨its,B,U,hz⟩:=N.list (.inl rd);obtain⟨i,e1,K⟩:=yj E l B;exact⟨ad,i,ys,rfl,by rw[e1];exact U.isList,K,j,q⟩
  .obtain⟨ts,ys,hj,E,q⟩:=q.ex2;obtain⟨j,q⟩:=aJ.grd (c:=g_ g ys.reverse=aB/\ys.length<=a9) (r:=RE.ok (T.str (iG g ys.reverse)) w) q;obtain⟨ad,hi,rfl⟩:=d;cases r2;obtain⟨xs,e,l⟩:=m.ob _ ad _ hi hj;obtain⟨its,B,U,hz⟩:=N.list (.inl (.inl e));obtain⟨i,e1,K⟩:=yj E l B;exact⟨ad,i,ys,rfl,by rw[e1];exact U.isList,K,j,q⟩
  .exact q.elim
 obtain⟨ad,i,ys,rfl,hl,K,j,q⟩:=V;have hlt:ad<n.heap.objs.size:=by obtain⟨o,ho,_⟩:=hl;exact bW ho
 have hne:ad≠n.heap.objs.size:=dF hlt;have M:i.length=ys.length:=by rw[<-K,eN]
 refine D7 hl (pE ?_);have hsz:(fG i).toArray.size=i.length:=by simp[fG]
 have F:=N.fpOk (H':=z) (bG _) (N.hok.fresh (bG _));have I3:Inv X y L z {n with heap:=n.heap.push (revObj ad (((fG i).toArray.size:Int)-1))}:=N.kept (t':=n.toks) λb o e=>bN _ e;refine z0S (I:=n.heap.objs.size) (l:=ad) (ys:=i) (I3.ok.hd (C.clm hc)) ⟨_,dQ _ rfl,rfl,by rw[<-hsz];rfl⟩ (hl.push _) hne (by rw[M];exact zf j.2) (by rw[K];exact j.1) λS t' kk k1 k2 Z Y=>?_;obtain⟨f0,f1,f2,f3,f4,f5⟩:=F;have es:{S with toks:=kk}={{n with heap:=n.heap.push (revObj ad (((fG i).toArray.size:Int)-1))} with heap:=S.heap,toks:=kk}:=by
  obtain⟨a1,a2,a3,a4,a5⟩:=S;have k2:a2=n.gens:=k2;have Z:a3=n.drawn:=Z;have Y:a5=n.os:=Y;subst k2 Z Y;rfl
 rw[es,K];exact⟨.str _,z,I3.turned (λb o hb e=>k1 b o hb e) f0 f1 f3 f4 f5,⟨t',rfl⟩,q.here m rfl⟩
end
end NH
namespace NH
open PySem PySem.Spec PyProof.Rows L2
structure le(D:DP)(J:It)(Ok:List aE->List aE->Hp->Prop)(xs:List T):Prop where
 go:∀(i:Nat) φ α H,Ok φ α H->i<xs.length->J.go i H
 yld:∀(i:Nat) φ α H v H' t,Ok φ α H->xs[i]?=aA t->J.yld i H v H'->j6 H H'/\a6 D φ α H' t v
 stop:∀φ α H,Ok φ α H->J.stop xs.length H
noncomputable def Ch (D:DP)(φ α:List aE)(H:Hp)(xs:List T)(lv:aI->Prop)(Ok:List aE->List aE->Hp->Prop):Prop:=∀a b d c,Lk φ α H a b d->aL D a b d c->lv c->Ok a b d
noncomputable def gU (D:DP)(W:XW)(f:Di):TI:=λd H R=>m_ D H d λc i g h=>
 aJ D W c i H d (λp a b e=>∀J Ok,le D J Ok p.1->Ch D c b e p.1 p.2 Ok->p.2 a->R J e) (f g h).re
theorem Lk.trans(a:Lk φ α H g m u)(b:Lk g m u d j r):Lk φ α H d j r:=
 ⟨λx o f c e=>let ⟨k,h,l⟩:=a.ob x o f c e;b.ob x o k h l,λi x e=>b.st i x (a.st i x e)⟩
theorem XQ{D:DP}{φ α:List aE}{H:Hp}{b:Type}{f:b->T}{xs:List b}{i:Nat}(h:(xs.map f)[i]?=aA t):∃a,xs[i]?=aA a/\t=f a:=by
 rw[eX] at h;cases q:xs[i]? with
 |none=>rw[q] at h;cases h
 |some a=>rw[q] at h;cases h;exact⟨a,rfl,rfl⟩
section
variable {X:Cx}{D:DP}{W:XW}{Γ:Cn}{k:Nat}{pins:List (aE×a_)}{s:Shared}{σ:St}{H:Hp}{φ α:List aE}{τ:Sl}{μ:aI}{f g h:De}{a b c tg:aH}{pos:Pos}{es:List aH}
theorem JL{K:bH}{ad:aE}:le D (IQ K ad) (λφ α H=>∃vs,Rd H ad (.lst vs)/\aM D φ α H xs vs) xs:=
 ⟨λi φ α H ⟨vs,ok,l⟩ a=>⟨vs,vs[i]'(by rw[<-l.length];exact a),.inl ok,by simp⟩,λi φ α H v c t ⟨vs,ok,l⟩ a y=>by
  obtain⟨rfl,y⟩:=y;obtain⟨x,b,d⟩:=l.get a;have e:=y vs (.inl ok);rw[e] at b;cases b;exact⟨λ_ _ z=>z,d⟩,λφ α H ⟨vs,ok,l⟩=>⟨vs,.inl ok,by rw[l.length];exact bG _⟩⟩
theorem P8{K:bH}{ad:aE}:le D (IP K ad) (λφ α H=>∃vs,Rd H ad (.tup vs)/\aM D φ α H xs vs) xs:=
 ⟨λi φ α H ⟨vs,ok,l⟩ a=>⟨vs,vs[i]'(by rw[<-l.length];exact a),.inl ok,by simp⟩,λi φ α H v c t ⟨vs,ok,l⟩ a y=>by
  obtain⟨rfl,y⟩:=y;obtain⟨x,b,d⟩:=l.get a;have e:=y vs (.inl ok);rw[e] at b;cases b;exact⟨λ_ _ z=>z,d⟩,λφ α H ⟨vs,ok,l⟩=>⟨vs,.inl ok,by rw[l.length];exact bG _⟩⟩
theorem UE{i:Nat}(h:(hX n)[i]?=aA j):j=i:=by
 have:=(cH.mp h).2;simpa using this.symm
noncomputable def Cm(z:aG):It:=⟨λi _=>i<z.cps.toList.length,λi H x a=>a=H/\∃c,z.cps.toList[i]?=aA c/\x=.str ⟨#[c]⟩,λi _=>z.cps.toList.length<=i⟩
theorem Ru{z:aG}:le D (Cm z) (λ_ _ _=>True) (z.cps.toList.map λc=>T.str ⟨#[c]⟩):=
 ⟨λi φ α H _ a=>by (show i<_);simpa using a,λi φ α H v e t _ a y=>by
  obtain⟨j,d,rfl⟩:=XQ (D:=D) (φ:=φ) (α:=α) (H:=H) a;obtain⟨rfl,c,b,rfl⟩:=y;rw[d] at b;cases b;exact⟨λ_ _ z=>z,rfl⟩,λφ α H _=>by show _<=_;simp⟩
theorem z0o {P:bZ}{K:bH}(hk:J="str_ascii_iterator"\/J="str_iterator") (it:aE) (z:aG) (M:Tok):fC P w K tg (Cm z) [it] it (λi h=>h.IsStrIter it J z M i) where
 mem:=by simp
 obj:=λi h st b a=>by
  have e:b=it:=by simpa using a
  subst e;obtain⟨o,e,c,d⟩:=st;exact⟨o,e,λv z=>by rw[d] at z;cases z⟩
 keep:=λi h j st k=>let ⟨o,N,r⟩:=st;⟨o,k it (by simp) o N,r⟩
 item:=by
  intro X D hw F C i g s y H E I m st B;subst D hw F;obtain⟨x,u,Q,t,q,p⟩:=m it (by simp);have O:i<z.cps.size:=by simpa[Cm] using B
  have l:z.cps[i]?=aA z.cps[i]:=tY O;have n:z.cps.toList[i]?=aA z.cps[i]:=by rw[Eu];exact l
  rcases hk with rfl|rfl
  .refine wpAny_pyNext_ascii_item st l λj f A=>?_;have G:Inv X g y H {s with heap:=j,toks:=s.toks+1}:=I.turned (λb o a e=>(A.2 b a).trans e) x u t q p;obtain⟨o,e,c,d⟩:=id f;exact⟨.str ⟨#[z.cps[i]]⟩ s.toks,rfl,yG (s:={s with heap:=j,toks:=s.toks+1}) e c d (by decide) ⟨.str ⟨#[z.cps[i]]⟩,H,G,⟨_,rfl⟩,⟨rfl,z.cps[i],n,rfl⟩,f,λb a=>(m b a).1⟩⟩
  .refine wpAny_pyNext_wide_item st l λj f A=>?_;have G:Inv X g y H {s with heap:=j,toks:=s.toks+1}:=I.turned (λb o a e=>(A.2 b a).trans e) x u t q p;obtain⟨o,e,c,d⟩:=id f;exact⟨.str ⟨#[z.cps[i]]⟩ s.toks,rfl,yG (s:={s with heap:=j,toks:=s.toks+1}) e c d (by decide) ⟨.str ⟨#[z.cps[i]]⟩,H,G,⟨_,rfl⟩,⟨rfl,z.cps[i],n,rfl⟩,f,λb a=>(m b a).1⟩⟩
 done:=by
  intro X D hw F C i g s y H E I m st B;subst D hw F;obtain⟨x,u,Q,t,q,p⟩:=m it (by simp);have L:z.cps[i]?=aF:=Array.getElem?_eq_none (by have:z.cps.toList.length<=i:=B;simpa using this);rcases hk with rfl|rfl
  .exact wpAny_pyNext_ascii_end (I.ok.hd C) st L λj eb=>⟨rfl,I.turned (t':=s.toks) (λb o a e=>eb b o a e) x u t q p⟩
  .exact wpAny_pyNext_wide_end (I.ok.hd C) st L λj eb=>⟨rfl,I.turned (t':=s.toks) (λb o a e=>eb b o a e) x u t q p⟩
 self:=λ_ _ _ _ _ st h=>by
  rcases hk with rfl|rfl
  .exact wpAny_pyIter_striter_ascii st h
  .exact wpAny_pyIter_striter_wide st h
theorem Sa(Q:PE X a (aV D W f)):PI X tg a (gU D W (iE f)):=by
 rintro M s y H R I ⟨r,α,τ,μ,sr,mr,p⟩;refine aY (sub Q I sr mr p) ?_;rintro u c ⟨v,n,t,h,d,g,O,st1,sr1,k,A,p1⟩;cases t with
 |lst G=>
  obtain⟨ad,N,rfl,T,S,q,l⟩:=A;cases O;obtain⟨w,V,L,Y⟩:=g.list (.inl q);refine pB L.isList ?_;refine⟨c.heap.objs.size,[c.heap.objs.size],_,_,n,rfl,g.kept (t':=c.toks) λb o e=>bN _ e,Wo ad _,⟨_,dQ _ rfl,rfl,rfl⟩,λb x=>?_,?_⟩
  .have e:b=c.heap.objs.size:=by simpa using x
   subst e;exact g.fpOk (bG _) (g.hok.fresh (bG _))
  .have i:aJ D W r d n y _ (RE.ok (G,f7) h):=p1;exact i.ok (aP.refl _ _) k _ _ JL (λB E H' C lk _ _=>by
    obtain⟨a',F,e,_,_,J,l'⟩:=a6.lk lk (show a6 D r d n (.lst G) (.ref ad) from ⟨ad,N,rfl,T,S,q,l⟩);cases e;exact⟨F,J,l'⟩) trivial
 |tup G=>
  obtain⟨ad,N,rfl,T,S,q,l⟩:=A;cases O;obtain⟨w,V,L,Y⟩:=g.tuple (.inl q);refine wpAny_pyIter_tuple (show c.heap.IsTuple ad w.toArray from L) ?_;refine⟨c.heap.objs.size,[c.heap.objs.size],_,_,n,rfl,g.kept (t':=c.toks) λb o e=>bN _ e,JR ad _,⟨_,dQ _ rfl,rfl,rfl⟩,λb x=>?_,?_⟩
  .have e:b=c.heap.objs.size:=by simpa using x
   subst e;exact g.fpOk (bG _) (g.hok.fresh (bG _))
  .have i:aJ D W r d n y _ (RE.ok (G,f7) h):=p1;exact i.ok (aP.refl _ _) k _ _ P8 (λB E H' C lk _ _=>by
    obtain⟨a',F,e,_,_,J,l'⟩:=a6.lk lk (show a6 D r d n (.tup G) (.ref ad) from ⟨ad,N,rfl,T,S,q,l⟩);cases e;exact⟨F,J,l'⟩) trivial
 | «mut» j=>
  obtain⟨ad,hj,rfl⟩:=A;cases O;have i:aJ D W r d n y _ (λK _=>∃xs,h[j]?=aA (.lst xs)/\K (xs,lF j xs) h):=p1;obtain⟨xs,Z,i⟩:=i.ex1;obtain⟨N,q,l⟩:=k.ob j ad _ hj Z;obtain⟨w,V,L,Y⟩:=g.list (.inl (.inl q));refine pB L.isList ?_;refine⟨c.heap.objs.size,[c.heap.objs.size],_,_,n,rfl,g.kept (t':=c.toks) λb o e=>bN _ e,Wo ad _,⟨_,dQ _ rfl,rfl,rfl⟩,λb x=>?_,?_⟩
  .have e:b=c.heap.objs.size:=by simpa using x
   subst e;exact g.fpOk (bG _) (g.hok.fresh (bG _))
  .have i:aJ D W r d n y _ (RE.ok (xs,lF j xs) h):=i;exact i.ok (aP.refl _ _) k _ _ JL (λB E H' C lk m hl=>by
    obtain⟨F,J,l'⟩:=m.ob j ad _ (lk.st j ad hj) hl;exact⟨F,.inl J,l'⟩) Z
 |str z=>
  have A:v=.str z:=A;subst A;obtain⟨U,rfl⟩:=O;have fin:∀{P:String},(P="str_ascii_iterator"\/P="str_iterator")->rQ X M y tg R (.ref c.heap.objs.size) {c with heap:=c.heap.push {cls:=.type P,data:=.fields #[.str z U,.int 0 0]}}:=λ{P} hk=>by
   refine⟨c.heap.objs.size,[c.heap.objs.size],_,_,n,rfl,g.kept (t':=c.toks) λb o e=>bN _ e,z0o hk _ z U,⟨_,dQ _ rfl,rfl,rfl⟩,λb x=>?_,?_⟩
   .have e:b=c.heap.objs.size:=by simpa using x
    subst e;exact g.fpOk (bG _) (g.hok.fresh (bG _))
   .have i:aJ D W r d n y _ (RE.ok (Kk z,f7) h):=p1;exact i.ok (aP.refl _ _) k _ _ Ru (λ_ _ _ _ _ _ _=>fX) trivial
  cases Q:z.cps.all (·<128) with
  |true=>exact wpAny_pyIter_ascii Q (fin (.inl rfl))
  |false=>exact wpAny_pyIter_wide Q (fin (.inr rfl))
 |_=>exact aJ.elim p1
theorem zco(h:aU (x::xs) us):∃u r,us=u::r/\RelV x u/\aU xs r:=by
 cases h with
 |cons r q=>exact⟨_,_,rfl,r,q⟩
noncomputable def nc(lo c:Int)(n:Nat):It:=⟨λi _=>i<n,λi H x a=>a=H/\x=.int (lo+i*c),λi _=>n<=i⟩
theorem Vw{P:bZ}{K:bH}(it:aE)(lo c:Int)(n:Nat):fC P w K tg (nc lo c n) [it] it (λi h=>IsRangeIter h it (lo+(i:Nat)*c) ((n:Int)-(i:Nat)) c) where
 mem:=by simp
 obj:=λi h st b d=>by
  have e:b=it:=by simpa using d
  subst e;exact⟨_,st,λv z=>by cases (show CC _=Data.cell v from z)⟩
 keep:=λi h j st k=>k it (by simp) _ st
 item:=by
  intro X p hw q m i a s B H E I g st l;subst p hw q;obtain⟨A,y,G,x,u,r⟩:=g it (by simp);have W:=Walks.range (prog:=X.prog) (w:=X.w) (I.ok.hd m) it lo c n;refine W.item i s _ _ l st λv j C F f D=>?_;obtain⟨t,rfl⟩:=F;have J:Inv X a B H {s with heap:=j,toks:=C}:=I.turned (λb o d e=>D b o (by simpa using d) e) A y x u r;exact⟨_,rfl,yG (s:={s with heap:=j,toks:=C}) (n:="range_iterator") f rfl rfl (by decide) ⟨.int (lo+i*c),H,J,⟨t,rfl⟩,⟨rfl,rfl⟩,f,λb d=>(g b d).1⟩⟩
 done:=by
  intro X p hw q m i a s B H E I g st l;subst p hw q;obtain⟨A,y,G,x,u,r⟩:=g it (by simp);exact wpAny_pyNext_range_end (I.ok.hd m) st (by have:n<=i:=l;lia) λj eb=>⟨rfl,I.turned (t':=s.toks) (λb o d e=>eb b o d e) A y x u r⟩
 self:=λ_ _ _ _ _ st h=>wpAny_pyIter_rangeiter st h
theorem Jn{P:bZ}{K:bH}(it:aE)(lo c:Int)(n:Nat):fC P w K tg (nc lo c n) [it] it (λi h=>IsLongIter h it (lo+(i:Nat)*c) ((n:Int)-(i:Nat)) c) where
 mem:=by simp
 obj:=λi h st b d=>by
  have e:b=it:=by simpa using d
  subst e;exact⟨_,st,λv z=>by cases (show CC _=Data.cell v from z)⟩
 keep:=λi h j st k=>k it (by simp) _ st
 item:=by
  intro X p hw q m i a s B H E I g st l;subst p hw q;obtain⟨A,y,G,x,u,r⟩:=g it (by simp);have W:=Walks.longrange (prog:=X.prog) (w:=X.w) (I.ok.hd m) it lo c n;refine W.item i s _ _ l st λv j C F f D=>?_;obtain⟨t,rfl⟩:=F;have J:Inv X a B H {s with heap:=j,toks:=C}:=I.turned (λb o d e=>D b o (by simpa using d) e) A y x u r;exact⟨_,rfl,yG (s:={s with heap:=j,toks:=C}) (n:="longrange_iterator") f rfl rfl (by decide) ⟨.int (lo+i*c),H,J,⟨t,rfl⟩,⟨rfl,rfl⟩,f,λb d=>(g b d).1⟩⟩
 done:=by
  intro X p hw q m i a s B H E I g st l;subst p hw q;obtain⟨A,y,G,x,u,r⟩:=g it (by simp);exact wpAny_pyNext_long_end (I.ok.hd m) st (by have:n<=i:=l;lia) λj eb=>⟨rfl,I.turned (t':=s.toks) (λb o d e=>eb b o d e) A y x u r⟩
 self:=λ_ _ _ _ _ st h=>wpAny_pyIter_longiter st h
theorem SO{a b c:Int}(d:0<c):tK a b c=if a<b then (b-a-1) / c+1 else 0:=by
 unfold tK;rw[if_pos d]
theorem Wn{σ:St}{H:Hp}{lo a c:Int}{t u v:Tok}(I:Inv X pins σ H s)(j:0<c)
  (q:R (nc lo c (if lo<a then (a-lo-1) / c+1 else 0:Int).toNat) H):wpAny (aR X.prog X.w) X.A (mo (.ref s.heap.objs.size)) (rQ X pins σ tg R) E {s with heap:=s.heap.push {cls:=.type "range",data:=.fields #[.int lo t,.int a u,.int c v]},toks:=tk}:=by
 have d:Inv X pins σ H {s with heap:=s.heap.push {cls:=.type "range",data:=.fields #[.int lo t,.int a u,.int c v]},toks:=tk}:=I.kept λb o e=>bN _ e;have i:lo+((0:Nat):Int)*c=lo:=by simp
 have h:(((if lo<a then (a-lo-1) / c+1 else 0:Int).toNat:Nat):Int)-((0:Nat):Int)=tK lo a c:=by
  rw[SO j];have:0<=(if lo<a then (a-lo-1) / c+1 else 0):=by
   split
   .have k:0<=(a-lo-1) / c:=Int.ediv_nonneg (by omega) (by omega);omega
   .omega
  omega
 have fr:∀b∈[(s.heap.push {cls:=.type "range",data:=.fields #[.int lo t,.int a u,.int c v]}).objs.size],b=(s.heap.push {cls:=.type "range",data:=.fields #[.int lo t,.int a u,.int c v]}).objs.size:=λb g=>by simpa using g
 cases f:La lo a c with
 |true=>
  refine wpAny_pyIter_range (CB ..) f ?_
  refine⟨(s.heap.push {cls:=.type "range",data:=.fields #[.int lo t,.int a u,.int c v]}).objs.size,[(s.heap.push {cls:=.type "range",data:=.fields #[.int lo t,.int a u,.int c v]}).objs.size],_,_,H,rfl,
   d.kept (t':=tk) λb o e=>bN _ e,Vw _ lo c (if lo<a then (a-lo-1) / c+1 else 0:Int).toNat,?_,λb g=>?_,q⟩
  .show IsRangeIter _ _ (lo+((0:Nat):Int)*c) ((((if lo<a then (a-lo-1) / c+1 else 0:Int).toNat:Nat):Int)-((0:Nat):Int)) c;rw[i,h];exact dQ _ rfl
  .rw[fr b g];exact d.fpOk (bG _) (d.hok.fresh (bG _))
 |false=>
  refine wpAny_pyIter_longrange (CB ..) f ?_
  refine⟨(s.heap.push {cls:=.type "range",data:=.fields #[.int lo t,.int a u,.int c v]}).objs.size,[(s.heap.push {cls:=.type "range",data:=.fields #[.int lo t,.int a u,.int c v]}).objs.size],_,_,H,rfl,
   d.kept (t':=tk) λb o e=>bN _ e,Jn _ lo c (if lo<a then (a-lo-1) / c+1 else 0:Int).toNat,?_,λb g=>?_,q⟩
  .show IsLongIter _ _ (lo+((0:Nat):Int)*c) ((((if lo<a then (a-lo-1) / c+1 else 0:Int).toNat:Nat):Int)-((0:Nat):Int)) c;rw[i,h];exact dQ _ rfl
  .rw[fr b g];exact d.fpOk (bG _) (d.hok.fresh (bG _))
theorem ZK{lo c:Int}{n:Nat}:le D (nc lo c n) (λ_ _ _=>True) ((hX n).map λ(i:Nat)=>T.int (lo+i*c)):=
 ⟨λi φ α H _ a=>by (show i<n);simpa using a,λi φ α H v d t _ a y=>by
  obtain⟨j,b,rfl⟩:=XQ (D:=D) (φ:=φ) (α:=α) (H:=H) a;rw[UE b];obtain⟨rfl,rfl⟩:=y;exact⟨λ_ _ z=>z,rfl⟩,λφ α H _=>by show n<=_;simp⟩
theorem Ur (C:Ck D W Γ X k) (hx:("range":aG)∈Γ.G) (hg:Γ.gl "range"=.none) (h:aO a=aB) (d:aO b=aB) (ha:PE X a (aV D W f)) (hb:PE X b (aV D W g)) :
  PI X tg (.Call (.Name "range" p0) [a,b] [] pos) (gU D W (iRng2 f g)):=by
 have L:=C.glo _ hx;rw[hg] at L;rintro e s F H R I ⟨l,N,E,M,K,V,p⟩;refine Call_ (qH I (C.glb _ hx) L boot_range (nV (aY (zj ha (zj hb zC (z3 d)) (z3 h) pos e s F H (λJ B=>∃i j:Int,J=[.int i,.int j]/\R (nc i 1 (if i<j then (j-i-1) / 1+1 else 0:Int).toNat) B) I ?_) ?_) (by rw[z3 h,z3 d]) (by rw[z3 d];rfl)))
 .refine⟨l,N,E,M,K,V,p.bind.mono λx n u B v Z U P A=>⟨l,u,E,n,K.step v,Z,U.bind.mono λy m o H2 Q Y c O z=>?_⟩⟩;cases x with
  |int i=>
   cases y with
   |int j=>
    have c:aJ D W l o H2 F _ (RE.grd (mh i/\mh j) (RE.ok (X1 i j 1,f7) m)):=c;obtain⟨hh,c⟩:=c.grd;have A:P=.int _:=A;have z:O=.int _:=z;subst A z;exact⟨_,_,rfl,c.ok (aP.refl _ _) Y _ _ ZK (λ_ _ _ _ _ _ _=>fX) trivial⟩
   |_=>exact aJ.elim c
  |_=>exact aJ.elim c
 .rintro us s1 ⟨J,B,I1,S,i,j,rfl,q⟩;cases S with
  |cons r w=>
   cases w with
   |cons T w=>
    cases w;obtain⟨t,rfl⟩:=r;obtain⟨t',rfl⟩:=T;exact call_range_2 (Wn I1 (by omega) q)
theorem TL (C:Ck D W Γ X k) (hx:("range":aG)∈Γ.G) (F:Γ.gl "range"=.none) (hs:aO a=aB) (J:PE X a (aV D W f)) :
  PI X tg (.Call (.Name "range" p0) [a] [] pos) (gU D W (iRng f)):=by
 have o:=C.glo _ hx;rw[F] at o;rintro b s h H R I ⟨g,y,w,x,z,E,p⟩;refine Call_ (qH I (C.glb _ hx) o boot_range (nV (aY (zj J zC (z3 hs) pos b s h H (λl u=>∃j:Int,l=[.int j]/\R (nc 0 1 (if 0<j then (j-0-1) / 1+1 else 0:Int).toNat) u) I ?_) ?_) (z3 hs) rfl))
 .refine⟨g,y,w,x,z,E,p.bind.mono λt c e N st m q v d=>?_⟩;cases t with
  |int n=>
   have d:v=.int _:=d;subst d;have q:aJ D W g e N h _ (RE.grd (mh n) (RE.ok (rangeT n,f7) c)):=q;obtain⟨Q,q⟩:=q.grd;have L:(if 0<n then (n-0-1) / 1+1 else 0:Int).toNat=n.toNat:=by
    split
    .rw[CV];congr 1;lia
    .lia
   have K:((hX n.toNat).map λ(i:Nat)=>T.int (0+i*1))=rangeT n:=by
    unfold rangeT;refine DO λi _=>?_;simp
   refine⟨n,rfl,?_⟩;rw[L];exact q.ok (aP.refl _ _) m _ _ (K▸ZK) (λ_ _ _ _ _ _ _=>fX) trivial
  |_=>exact aJ.elim q
 .rintro O P ⟨l,u,M,A,j,rfl,q⟩;cases A with
  |cons r B=>
   cases B;obtain⟨t,rfl⟩:=r;exact call_range_1 (Wn M (by lia) q)
noncomputable def cJ (N:List aG):List aH->Option (List Nat)
 |[]=>aA []
 |.Name x _::r=>match b7 N x,cJ N r with
  |some i,aA a=>aA (i::a)
  |_,_=>aF
 |_::_=>aF
noncomputable def wc (N:List aG):aH->Option Tg
 |.Name x _=>(b7 N x).map Tg.one
 |.Tuple es _ _=>(cJ N es).map Tg.tup
 |_=>aF
noncomputable def z5:aH->List aG
 |.Name x _=>[x]
 |.Tuple es _ _=>es.filterMap λe=>match e with|.Name x _=>aA x|_=>aF
 |_=>[]
noncomputable def m6 (X:Cx)(S:List aG):Prop:=∀x∈S,Loc X.env.scope x/\(X.fn x=aB\/X.env.scope.names.lookup x=aA .local)
theorem XY(hN:X.N=N)(nd:N.Nodup)(o:m6 X S):∀{es:List aH}{is:List Nat}{ts:List T}{τ a:Sl},(∀e∈es,∀x p,e=.Name x p->x∈S)->cJ N es=aA is->VX is ts τ=aA a->
  ∃t,oJ X es t/\(hV es X.env).length=ts.length/\(hV es X.env).findIdx? (·.1)=aF/\∀{σ:St}{vs:List V}{φ α H} {Q:St->Hp->Prop},aZ D φ α H τ σ->aM D φ α H ts vs->(∀j,aZ D φ α H a j->Q j H)->t vs σ H Q
 |[],is,ts,τ,a,_,b,h=>by
  simp[cJ] at b;subst b;cases ts with
  |nil=>
   simp[VX] at h;subst h;exact⟨Fo,Pp,rfl,rfl,λf l q=>⟨l,q _ f⟩⟩
  |cons _ _=>simp[VX] at h
 |e::es,is,ts,τ,a,w,b,h=>by
  cases e with
  |Name x c=>
   simp only[cJ] at b;split at b
   .rename_i i m B n;cases b;cases ts with
    |nil=>simp[VX] at h
    |cons t ts=>
     have h:VX m ts (vx τ i (aA t))=aA a:=h;have s:=w _ fZ x c rfl;have y:PG X (.Name x c) (Y9 i):=Ye (hN▸nd) (by rw[hN];exact qN B) (o x s).1 (o x s).2;obtain⟨u,g,A,C,z⟩:=XY hN nd o (λe E=>w e (eH _ E)) n h;refine⟨G6 (Y9 i) u,Tz y g rfl,by simpa[hV] using A,?_,λ{σ vs φ α H Q} f l k=>?_⟩
     .have F:hV (.Name x c::es) X.env=(aD,hG (.Name x c) X.env)::hV es X.env:=rfl;rw[F,List.findIdx?_cons];simp[C]
     .obtain⟨v,r,rfl,d,l⟩:=l;exact⟨v,r,rfl,z (f.set d) l k⟩
   .cases b
  |_=>simp[cJ] at b
theorem KA(hN:X.N=N)(nd:N.Nodup)(o:m6 X S)(O:X.calm=aB)(C:∀x∈z5 e,x∈S)(a:wc N e=aA tgt)(h:iM tgt t τ=aA m)(I:Inv X pins σ H s)(z:aZ D φ α H τ σ)(d:a6 D φ α H t v)(r:RelV v u) :
  wpAny (aR X.prog X.w) X.A (hG e X.env u) (λ_ G=>∃j,Inv X pins j H G/\aZ D φ α H m j) X.xe s:=by
 cases e with
 |Name x B=>
  simp only[wc] at a;cases q:b7 N x with
  |none=>rw[q] at a;cases a
  |some i=>
   rw[q] at a;cases a;cases (bQ h:vx τ i (aA t)=m);have f:x∈S:=C x (by simp[z5]);refine aY (Ye (i:=i) (hN▸nd) (by rw[hN];exact qN q) (o x f).1 (o x f).2 pins s σ H v u (λj c=>c=H/\j=σ.set i (aA v)) I r ⟨rfl,rfl⟩) ?_;rintro _ E ⟨j,c,y,rfl,rfl⟩;exact⟨_,y,z.set d⟩
 |Tuple es F B=>
  simp only[wc] at a;cases q:cJ N es with
  |none=>rw[q] at a;cases a
  |some Q=>
   rw[q] at a;cases a;cases t with
   |tup P=>
    obtain⟨g,n,K,L,J⟩:=XY (D:=D) hN nd o (λe M x p f=>C x (by subst f;exact nS.mpr ⟨_,M,rfl⟩)) q h;obtain⟨ad,xs,rfl,_,_,q,l⟩:=d;refine aY (OC (k:=F) (pos:=B) O n K L pins s σ H (.ref ad) u (λj c=>c=H/\aZ D φ α H m j) I r ⟨ad,xs,rfl,.inl q,l.length.symm,J z l λj b=>⟨rfl,b⟩⟩) ?_;rintro _ E ⟨j,c,y,rfl,b⟩;exact⟨j,y,b⟩
   |_=>cases h
 |_=>simp[wc] at a
end
theorem Pz(env:Env):∀(names:List (aG×lp)) (cs:List (aG×aE)),(∀p∈names,p.2=.free->∃c,env.cells.lookup p.1=aA c)->
  ∃cl,(forIn names cs (λ(x:aG×lp) r=>if (x.2==.free)=aB then do let a ←cellOf env x.1;pure (lz ((x.1,a)::r)) else pure (lz r)):Sem (List (aG×aE)))=pure cl/\
   (∀x c,cl.lookup x=aA c->cs.lookup x=aA c\/(env.cells.lookup x=aA c/\∃p∈names,p.1=x/\p.2=.free))/\(∀x c,cs.lookup x=aA c->∃g,cl.lookup x=aA g)/\∀p∈names,p.2=.free->∃c,cl.lookup p.1=aA c:=by
 intro names;induction names with
 |nil=>intro cs _;exact⟨cs,rfl,λx c h=>.inl h,λx c h=>⟨c,h⟩,λp d=>absurd d (by simp)⟩
 |cons p names ih=>
  intro cs h;rw[sQ];by_cases d:p.2=.free
  .obtain⟨c,u⟩:=h p fZ d;have e:cellOf env p.1=pure c:=by unfold cellOf;rw[u]
   rw[if_pos (by simp[d]),e];obtain⟨cl,t,s,k,o⟩:=ih ((p.1,c)::cs) λq b=>h q (eH _ b);refine⟨cl,t,λx g i=>?_,λx g i=>?_,λq b l=>?_⟩
   .rcases s x g i with z|⟨z,q,b,n,m⟩
    .rw[fH] at z;cases f:x==p.1 with
     |true=>
      simp[f] at z;subst z;have j:x=p.1:=by simpa using f
      exact .inr ⟨by rw[j];exact u,p,fZ,j.symm,d⟩
     |false=>simp[f] at z;exact .inl z
    .exact .inr ⟨z,q,eH _ b,n,m⟩
   .cases f:x==p.1 with
    |true=>exact k x c (by simp[fH,f])
    |false=>exact k x g (by simp[fH,f,i])
   .rcases dG.mp b with rfl|b
    .exact k _ c (by simp[fH])
    .exact o q b l
  .rw[if_neg (by simp[d])];obtain⟨cl,t,s,k,o⟩:=ih cs λq b=>h q (eH _ b);refine⟨cl,t,λx g i=>?_,k,λq b l=>?_⟩
   .rcases s x g i with z|⟨z,q,b,n,m⟩
    .exact .inl z
    .exact .inr ⟨z,q,eH _ b,n,m⟩
   .rcases dG.mp b with rfl|b
    .exact absurd l d
    .exact o q b l
noncomputable def X_(sc:Scope):List aG:=(sc.names.filter λp=>p.2==.globalImplicit).map (·.1)
noncomputable def frees(sc:Scope):List aG:=(sc.names.filter λp=>p.2==.free).map (·.1)
theorem wK:x∈frees sc↔∃p∈sc.names,p.1=x/\p.2=.free:=by
 unfold frees;simp only[ly,h_,beq_iff_eq];constructor
 .rintro⟨p,⟨c,b⟩,a⟩;exact⟨p,c,a,b⟩
 .rintro⟨p,c,a,b⟩;exact⟨p,⟨c,b⟩,a⟩
theorem uT(h:∀x∈frees sc,∃c,env.cells.lookup x=aA c) :
  ∃cl,my sc env=pure cl/\(∀x c,cl.lookup x=aA c->env.cells.lookup x=aA c/\x∈frees sc)/\∀x∈frees sc,∃c,cl.lookup x=aA c:=by
 obtain⟨cl,j,i,k,g⟩:=Pz env sc.names [] λp a d=>h p.1 (wK.mpr ⟨p,a,rfl,d⟩);refine⟨cl,?_,λx c b=>?_,λx b=>?_⟩
 .rw[<-j];unfold my;simp
 .rcases i x c b with z|⟨z,p,a,f,e⟩
  .simp at z
  .exact⟨z,wK.mpr ⟨p,a,f,e⟩⟩
 .obtain⟨p,a,rfl,d⟩:=wK.mp b;exact g p a d
section
variable {M:Model}{A:Around}{E:aC->Shared->Prop}{s:Shared}{env:Env}
noncomputable def Vs(M:Model)(A:dW)(E:aC->aW->Prop)(use:Option (aC->Sem Unit))(Q:aC->aW->Prop)(a:aC)(ce:Env):ni->aW->Prop
 |.ok _,t=>(match use with
  |none=>∃m,t.heap.Ns ce.locals m/\∀g,fN ce.locals t.heap g->Q a {t with heap:=g}
  |some u=>wpAny M A (u a) (λ_ b=>∃m,b.heap.Ns ce.locals m/\∀g,fN ce.locals b.heap g->Q .none {b with heap:=g}) E t)
 |.error x,t=>∃m,t.heap.Ns ce.locals m/\∀g,fN ce.locals t.heap g->wpAny M A (passOn "comprehension.variables-let-go" x ce:Sem aC) (λ_ _=>False) E {t with heap:=g}
theorem Sw{mk fst:Sem aC}{use:Option (aC->Sem Unit)} 
  (O:clausesOf e=g::gs) (N:∀x,lD g.iter env x=pure x) (L:my sc env=pure cl) (n:sc.kind=.function) (K:∀x∈sc.names,x.2=.local->sc.names.lookup x.1=aA .local)
  (h:wpAny M A fst (λx G=>wpAny M A (mo x) (λit D=>wpAny M A mk (λd C=>wpAny M A (newFunctionEnv sc env.globals cl [] env.qual aF .none (aA env)) (λce B=>
    fE M A (.compStart e 0 it d {ce with scope:=d7 sc env}) (Vs M A E use Q d {ce with scope:=d7 sc env}) B) E C) E D) E G) E s) :
  wpAny M A (pw e sc env pos mk aD fst use) Q E s:=by
 unfold pw;rw[L,O];have a:∀(x:aC) (t:aW),E x t->E x t:=λ_ _ z=>z;refine wpAny_bind (cR h (λx G H=>?_) a);refine wpAny_bind (fF (wpAny_bind (lQ (N x) (wpAny_bind (wpAny_holding (cR H (λit D F=>?_) a))))));refine wpAny_standIf (wpAny_bind (cR F (λd C w=>?_) a));refine wpAny_bind (wpAny_pure (wpAny_bind (cR w (λce B v=>?_) a)));dsimp only
 have I:∀y∈(sc.names.filter λx=>(x.2==.local || x.2==.cell)&&x.1 != (".0":aG)),y.2=.local->Env.kindOf {ce with scope:=d7 sc env} y.1=aA .local:=
  λy i J=>lookup_relabel_local (K y (h_.mp i).1 J)
 have k:∀y∈(sc.names.filter λx=>(x.2==.local || x.2==.cell)&&x.1 != (".0":aG)).reverse,y.2=.local->Env.kindOf {ce with scope:=d7 sc env} y.1=aA .local:=
  λy i=>I y (List.mem_reverse.mp i)
 refine wpAny_holding (wpAny_bind (su (wpAny_holding (wpAny_run (iS v λr o l=>?_)))));cases r with
 |error x=>
  obtain⟨m,j,b⟩:=l;refine wpAny_bind (wpAny_holding (s0 (cenv:={ce with scope:=d7 sc env}) n _ o m k j λg p _ c=>?_));exact cR (b g c) (λ_ _ z=>z.elim) a
 |ok f=>
  cases use with
  |none=>
   obtain⟨m,j,b⟩:=l;exact wpAny_bind (wpAny_holding (s0 (cenv:={ce with scope:=d7 sc env}) n _ o m k j λg p _ c=>wpAny_pure (b g c)))
  |some u=>
   refine wpAny_bind (nv (wpAny_bind (wpAny_holding (cR l (λ_ q b=>?_) a))));obtain⟨m,j,b⟩:=b;refine wpAny_bind (s0 (cenv:={ce with scope:=d7 sc env}) n _ q m (λy i=>?_) j λg p _ c=>wpAny_pure (b g c));rcases cM.mp i with z|z
   .exact k y (nO z)
   .exact k y (ma z)
end
section
variable {prog:Program}{w:World}{A:Around}{R:Result->Shared->Prop}{s:Shared}
theorem WF(elt a iter:aH)(ifs:List aH)(scope:Scope)(pos:Pos)(it b:aC)(env:Env) :
  compTurn (.ListComp elt [⟨a,iter,ifs,0⟩] scope pos) 0 it b env=(standAt iter.pos >>= λ_=>lJ it >>= λr=>match r with
   |none=>pure (.done .next)
   |some v=>nK a it v >>= λ_=>hG a env v >>= λ_=>
    (forIn ifs aB λc s=>if s=aB then isTrue c env (eval c env) >>= λok=>pure (lz ok) else pure (lz s)) >>= λok=>
     if ok=aB then (eval elt env >>= λx=>call (.builtin "list.append") [b,x] >>= λ_=>pure ()) >>= λ_=>
      again (.compLoop (.ListComp elt [⟨a,iter,ifs,0⟩] scope pos) 0 it b env)
     else again (.compLoop (.ListComp elt [⟨a,iter,ifs,0⟩] scope pos) 0 it b env)):=by rfl
noncomputable def y4(M:Model)(A:dW)(env:Env)(E:aC->aW->Prop):List aH->(Bool->aW->Prop)->aW->Prop
 |[],Q,s=>Q aB s
 |c::cs,Q,s=>wpAny M A (isTrue c env (eval c env)) (λb a=>if b=aB then y4 M A env E cs Q a else Q aD a) E s
theorem QH:∀(cs:List aH) {s:aW},Q aD s->
  wpAny M A (forIn cs aD λc s=>if s=aB then isTrue c env (eval c env) >>= λok=>pure (lz ok) else pure (lz s)) Q E s
 |[],s,h=>wpAny_pure h
 |c::cs,s,h=>by
  rw[sQ];refine wpAny_bind ?_;rw[if_neg (by decide)];exact wpAny_pure (QH cs h)
theorem VR:∀(cs:List aH) {s:aW},y4 M A env E cs Q s->
  wpAny M A (forIn cs aB λc s=>if s=aB then isTrue c env (eval c env) >>= λok=>pure (lz ok) else pure (lz s)) Q E s
 |[],s,h=>wpAny_pure h
 |c::cs,s,h=>by
  rw[sQ];refine wpAny_bind ?_;rw[if_pos rfl];refine wpAny_bind (aY h λb d a=>wpAny_pure ?_);cases b with
  |true=>rw[if_pos rfl] at a;exact VR cs a
  |false=>rw[if_neg (by decide)] at a;exact QH cs a
theorem YZ(I:Nat->aW->Prop)
  (turn:∀n s,I n s->wpAny (aR prog w) A (lJ it) (λr j=>match r with
   |none=>R (.ok .next) j
   |some v=>wpAny (aR prog w) A (nK d it v) (λ_ D=>wpAny (aR prog w) A (hG d env v) (λ_ C=>y4 (aR prog w) A env (notedBy (aR prog w) A env λx G=>R (.error x) G) ifs (λb g=>
     if b=aB then wpAny (aR prog w) A (eval elt env) (λx B=>wpAny (aR prog w) A (call (.builtin "list.append") [E,x]) (λ_ u=>∃m,m<n/\I m u) (λ_ _=>False) B) (notedBy (aR prog w) A env λx G=>R (.error x) G) g else ∃m,m<n/\I m g) C) (λ_ _=>False) D) (λ_ _=>False) j) (λ_ _=>False) s)
  (n:Nat) (h:I n s):fE (aR prog w) A (.compLoop (.ListComp elt [⟨d,iter,ifs,0⟩] scope pos) 0 it E env) R s:=by
 refine codeAny_loop rfl I (λn s o=>?_) n h;show wpAny _ _ ((compTurn (.ListComp elt [⟨d,iter,ifs,0⟩] scope pos) 0 it E env).onRaise (λx=>do oY x env;theTreesLotGoes x)) _ _ s;refine wpAny_noted ?_;rw[WF];have nx:∀{l:Type}{t:Sem l}{Q:l->aW->Prop}{s:aW}{N:aC->aW->Prop},wpAny (aR prog w) A t Q (λ_ _=>False) s->wpAny (aR prog w) A t Q N s:=λh=>cR h (λ_ _ q=>q) λ_ _ z=>z.elim;refine wpAny_bind (fF (wpAny_bind (nx (aY (turn n s o) λr j c=>?_))));cases r with
 |none=>exact wpAny_pure c
 |some v=>
  refine wpAny_bind (nx (aY c λ_ D k=>?_));refine wpAny_bind (nx (aY k λ_ C i=>?_));refine wpAny_bind (aY (VR ifs i) λb g a=>?_);cases b with
  |true=>
   rw[if_pos rfl] at a ⊢;exact wpAny_bind (wpAny_bind (aY a λx B f=>wpAny_bind (nx (aY f λ_ u e=>wpAny_pure (wpAny_pure ⟨rfl,e⟩)))))
  |false=>
   rw[if_neg (by decide)] at a ⊢;exact wpAny_pure ⟨rfl,a⟩
end
noncomputable abbrev me:XW:=λ_ _ _ _=>False
noncomputable def gW (X:Cx)(N:List aG)(sc:Scope)(cl:List (aG×aE))(C0:aE)(a:aW)(b:Hp)(fp:List aE):Cx:=
 {X with N:=N,s₀:=a,H₀:=b,env:=gN sc cl C0 X.env,outer:=X.stack,ex:=fp,fn:=λ_=>aD,pn:=[],xe:=λ_ _=>False}
noncomputable def JP(N cel:List aG)(tg:aH)(sc:Scope):Bool:=
 (sc.kind==.function)&&sc.names.all (λp=>p.2 != .cell)&&sc.names.all (λp=>p.2 != .local || sc.names.lookup p.1==aA .local)&&
 (z5 tg).all (λx=>sc.names.lookup x==aA .local&&x != ("__debug__":aG)&&x != ("__classdict__":aG))&&(frees sc).all (λx=>(b7 N x).isSome&&sc.names.lookup x==aA .free&&cel.contains x&&x != ("__debug__":aG)&&x != ("__classdict__":aG))&&decide ((z5 tg++frees sc).Nodup)&&
 (X_ sc).all (λx=>sc.names.lookup x==aA .globalImplicit)
structure cE(N cel:List aG)(tg:aH)(sc:Scope):Prop where
 kind:sc.kind=.function
 noc:∀p∈sc.names,p.2≠.cell
 lcl:∀p∈sc.names,p.2=.local->sc.names.lookup p.1=aA .local
 own:∀x∈z5 tg,sc.names.lookup x=aA .local/\(x==("__debug__":aG))=aD/\(x==("__classdict__":aG))=aD
 fre:∀x∈frees sc,(∃i,b7 N x=aA i)/\sc.names.lookup x=aA .free/\x∈cel/\(x==("__debug__":aG))=aD/\(x==("__classdict__":aG))=aD
 nd:(z5 tg++frees sc).Nodup
 glb:∀x∈X_ sc,sc.names.lookup x=aA .globalImplicit
theorem YG(h:JP N cel tg sc=aB):cE N cel tg sc:=by
 unfold JP at h;simp only[bK,eF,beq_iff_eq,bne_iff_ne,sP,decide_eq_true_eq,iq,pX,ne_eq] at h;obtain⟨⟨⟨⟨⟨⟨q,o⟩,n⟩,m⟩,l⟩,k⟩,j⟩:=h;refine⟨q,o,λp g i=>?_,λx f=>?_,λx f=>?_,k,j⟩
 .rcases n p g with z|z
  .exact absurd i z
  .exact z
 .obtain⟨⟨a,b⟩,c⟩:=m x f;exact⟨a,by simpa using b,by simpa using c⟩
 .obtain⟨⟨⟨⟨a,b⟩,c⟩,d⟩,e⟩:=l x f;exact⟨a,b,c,by simpa using d,by simpa using e⟩
theorem zB{env:Env}{x:aG}:∀{names:List (aG×lp)}{a:lp},names.lookup x=aA a->
  (names.map λ(n,k)=>if (k==pv&&env.scope.kind==.function&&env.kindOf n==aA .cell) then (n,NameKind.cell) else (n,k)).lookup x=aA (if (a==pv&&env.scope.kind==.function&&env.kindOf x==aA .cell) then .cell else a)
 |[],_,h=>by simp at h
 |(n,k)::r,a,h=>by
  have ih:=@zB env x r a;rw[eW];rw[fH] at h;cases b:x==n with
  |true=>
   have c:x=n:=by simpa using b
   subst c;simp at h;subst h;dsimp only;split<;>simp_all[fH]
  |false=>
   simp only[b] at h;dsimp only;split
   .rw[fH];simp only[b];exact ih h
   .rw[fH];simp only[b];exact ih h
section
variable {X:Cx}{D:DP}{W:XW}{Γ:Cn}{k:Nat}{pins:List (aE×a_)}{s2:Shared}{σ:St}{H2:Hp}{φ α:List aE}{τ:Sl}{tg:aH}{sc:Scope}{cl:List (aG×aE)}{fp:List aE}
noncomputable def Vx (N:List aG)(σ:St)(fs:List aG):St:=fs.map λx=>(b7 N x).bind λi=>(σ[i]?).join
noncomputable def j2 (N:List aG):List aG->Option (List Nat)
 |[]=>aA []
 |x::r=>match b7 N x,j2 N r with
  |some i,aA a=>aA (i::a)
  |_,_=>aF
theorem Vc:∀(n:Nat) {fs:List Nat}{τ:Sl},fQ n fs τ=mO n aF++Kc fs τ
 |0,_,_=>rfl
 |n+1,fs,τ=>by
  show aF::fQ n fs τ=_;rw[Vc n];rfl
theorem Zp:∀{fs:List Nat}{τ:Sl},(Kc fs τ).length=fs.length
 |[],_=>rfl
 |i::r,τ=>by show (Kc r τ).length+1=_;rw[Zp];rfl
theorem uU:∀{N xs:List aG}{fs:List Nat},j2 N xs=aA fs->fs.length=xs.length
 |N,[],fs,h=>by cases h;rfl
 |N,x::r,fs,h=>by
  simp only[j2] at h;split at h
  .rename_i i b c a;cases h;simp[uU a]
  .cases h
theorem Js(b:aZ D φ α H τ σ):∀{xs:List aG}{fs:List Nat},j2 N xs=aA fs->∀(j:Nat) (t:T),(Kc fs τ)[j]?=aA (aA t)->∃v,(Vx N σ xs)[j]?=aA (aA v)/\a6 D φ α H t v
 |[],fs,h,j,t,e=>by cases h;simp[Kc] at e
 |x::r,fs,h,j,t,e=>by
  simp only[j2] at h;split at h
  .rename_i i c g f;cases h;cases j with
   |zero=>
    have e:aA (kg τ i)=aA (aA t):=e;obtain⟨v,a,d⟩:=b.get (bQ e);exact⟨v,by simp[Vx,g,a],d⟩
   |succ j=>
    have e:(Kc c τ)[j]?=aA (aA t):=e;obtain⟨v,a,d⟩:=Js b f j t e;exact⟨v,by simpa[Vx] using a,d⟩
  .cases h
theorem PZ{N:List aG}{H:Hp}{ns xs:List aG}{fs:List Nat}(b:aZ D φ α H τ σ)(h:j2 N xs=aA fs):aZ D φ α H (fQ ns.length fs τ) (ns.map (λ_=>aF)++Vx N σ xs):=by
 rw[Vc];refine⟨by simp[Zp,uU h,Vx],λj t e=>?_⟩;rcases CQ j ns.length with a|a
 .rw[eL (by simpa using a),pV] at e;split at e<;>cases e
 .rw[fP (by simpa using a)] at e;rw[fP (by simpa using a)];simp only[eN,Ex] at e ⊢;exact Js b h _ t e
theorem X2(C:Ck D W Γ X k)(ok:cE Γ.N Γ.cel tg sc)(g:Inv X pins σ H2 s2)(hf:∀b∈fp, Vg X pins H2 b)(hfo:∀b∈fp, ∃o, s2.heap.get? b=aA o)(f:∀x c, cl.lookup x=aA c->X.env.cells.lookup x=aA c/\x∈frees sc)(s:∀x∈frees sc, ∃c, cl.lookup x=aA c)
 (Y : Q.Ns (s2.heap.objs.size + 1) (fun _ => aF)) (L : fN (s2.heap.objs.size + 1) ((s2.heap.push { cls := .type "list", data := .seq ([] : List aC).toArray }).push { cls := .type "dict", data := .dict #[] }) Q) :
    Inv X pins σ (aX H2 s2.heap.objs.size (.lst [])) {s2 with heap:=s2.heap.push {cls:=.type "list", data:=.seq ([]:List aC).toArray}}/\
    Inv (gW X (z5 tg ++ frees sc) sc cl (s2.heap.objs.size + 1) { s2 with heap := s2.heap.push { cls := .type "list", data := .seq ([] : List aC).toArray } } (aX H2 s2.heap.objs.size (.lst [])) fp) []
      ((z5 tg).map (λ_=>aF)++Vx Γ.N σ (frees sc)) (aX H2 s2.heap.objs.size (.lst [])) {s2 with heap:=Q, toks:=tk}:=by
  have l:Inv X pins σ (aX H2 s2.heap.objs.size (.lst [])) {s2 with heap:=s2.heap.push {cls:=.type "list", data:=.seq ([]:List aC).toArray}}:=g.lnew (its:=[]) (t':=s2.toks) .nil (by simp);refine⟨l, ?_⟩;generalize hA:s2.heap.push {cls:=.type "list", data:=.seq ([]:List aC).toArray}=R at L l ⊢;have I:R.objs.size=s2.heap.objs.size+1:=by rw[<-hA, lT]
  have n:∀b o, R.get? b=aA o->Q.get? b=aA o:=λb o e=>L.extBut b o (by rw[<-I];exact dF (bW e)) (bN _ e);have fresh:(aX H2 s2.heap.objs.size (.lst [])) (s2.heap.objs.size+1)=aF:=by rw[<-I];exact l.hok.fresh (bG _)
  have A:∀x∈frees sc, (gW X (z5 tg++frees sc) sc cl (s2.heap.objs.size+1) {s2 with heap:=R} (aX H2 s2.heap.objs.size (.lst [])) fp).env.kindOf x=aA .cell\/(gW X (z5 tg++frees sc) sc cl (s2.heap.objs.size+1) {s2 with heap:=R} (aX H2 s2.heap.objs.size (.lst [])) fp).env.kindOf x=aA .free:=λx E=>by
    have:=zB (env:=X.env) (ok.fre x E).2.1;show (d7 sc X.env).names.lookup x=aA .cell\/(d7 sc X.env).names.lookup x=aA .free;unfold d7;dsimp only;rw[this];split
    · exact .inl rfl
    · exact .inr rfl
  refine⟨⟨g.ok.mod, ok.kind, g.ok.glob, g.ok.blt, ?_, ?_, ?_, λx c h=>absurd h (by simp[gW]), g.ok.hd, g.ok.frames, .inl rfl, ?_, ?_, ?_, ?_, ?_, ?_, ?_⟩, rfl, g.bare, Un.kept n, ⟨_, Y, ?_⟩, ?_, fresh, ?_, λp V=>absurd V (by simp[gW]), l.hok.kept n, ?_⟩
  · show R.objs.size <= s2.heap.objs.size + 1;lia
  · intro x y c Q h2;exact g.ok.inj x y c (f x c Q).1 (f y c h2).1
  · intro x E;have B:(d7 sc X.env).names.lookup x=aA .cell\/(d7 sc X.env).names.lookup x=aA .free:=E;by_cases hm:x∈frees sc
    · exact s x hm
    · exfalso;cases q:sc.names.lookup x with
      |none=>
        have:(d7 sc X.env).names.lookup x=aF:=by
          unfold d7;dsimp only;rw[List.lookup_eq_none_iff] at q ⊢;intro p V;obtain⟨p0, U, rfl⟩:=ly.mp V;have:=q p0 U;try dsimp only
          split<;>exact this
        rw[this] at B;rcases B with z|z<;>cases z
      |some T=>
        have hr:=zB (env:=X.env) q;have d:=B;unfold d7 at d;dsimp only at d;rw[hr] at d;have r:(x, T)∈sc.names:=i0 q;by_cases F:T=.free
        · exact hm (wK.mpr ⟨_, r, rfl, F⟩)
        · have e : (T == pv) = aD := by simpa using F
          rw[e] at d;simp only[Dr, sY, if_false, pA] at d;rcases d with z|z
          · exact ok.noc _ r z
          · exact F z
  · intro b t;obtain⟨f0, f1, f2, f3, f4, f5⟩:=hf b t;obtain⟨o, M⟩:=hfo b t;refine⟨?_, λx c h=>f4 x c (f x c h).1⟩;show b≠s2.heap.objs.size+1;exact dF (tw (bW M))
  · intro b o e;exact l.bs b o e
  · exact cV l.ok.bsz l.sz
  · intro b o e t;obtain⟨f0, f1, f2, f3, f4, f5⟩:=hf b t;rcases f3 with z|z
    · exact g.ok.noex b o e z
    · exact absurd (dI (bW e) (cV g.ok.bsz z)) (ip _)
  · intro b t hfs;obtain⟨f0, f1, f2, f3, f4, f5⟩:=hf b t;rcases dG.mp (g.stkSub b hfs) with z|z
    · exact f1 z
    · exact f2 z
  · exact l.stack
  · intro b t;exact l.stkFree b t
  · intro i x v hN a hv;obtain⟨m, hn, hl⟩:=g.loc;by_cases hi:i<(z5 tg).length
    · exfalso;rw[eL (by simpa using hi), eX] at a;cases q:(z5 tg)[i]? with
      |none=>rw[q] at a;cases a
      |some y=>rw[q] at a;cases a
    · have P:(frees sc)[i-(z5 tg).length]?=aA x:=by
        have:(z5 tg++frees sc)[i]?=aA x:=hN;rwa[fP (by lia)] at this
      rw[fP (by simpa using hi)] at a;simp only[eN] at a;unfold Vx at a;rw[eX, P] at a;simp only[pI, pA] at a;have E:x∈frees sc:=cY P;obtain⟨⟨j, Z⟩, _, G, _⟩:=ok.fre x E;rw[Z] at a;simp only[pQ] at a;cases u:σ[j]? with
      |none=>rw[u] at a;cases a
      |some o=>
        rw[u] at a;simp only[Option.join_some] at a;subst a;obtain⟨w, S, lk⟩:=hl j x v (by rw[C.hN];exact qN Z) u (C.vis x (qx Z));refine⟨w, S, .inr ⟨A x E, ?_⟩⟩;have K:=C.cel x G;rcases lk with⟨z, _⟩|⟨_, c, hc, H⟩
        · rw [z] at K;rcases K with K|K<;>cases K
        · obtain ⟨c', O⟩ := s x E;have:=(f x c' O).1;rw[hc] at this;cases this;refine⟨c, O, ?_⟩;obtain⟨J, M, hd⟩:=H;exact⟨J, n c J (by rw[<-hA];exact bN _ M), hd⟩
  · intro x c h;obtain⟨v, J, M, hd⟩:=g.cell x c (f x c h).1;exact⟨v, J, n c J (by rw[<-hA];exact bN _ M), hd⟩
  · intro x c h;exact (l.freeC x c (f x c h).1).imp id λz=>⟨rfl, z.2⟩
  · show _ = (z5 tg ++ frees sc).length;simp[Vx]
end
section
variable {X:Cx}{D:DP}{W:XW}{Γ:Cn}{k:Nat}{pins:List (aE×a_)}{s:Shared}{σ:St}{H:Hp}{φ α:List aE}{τ:Sl}{μ:aI}{tg:aH}{sc:Scope}{fp:List aE}
noncomputable def inComp(Γ:Cn)(tg:aH)(sc:Scope):Cn:={Γ with N:=z5 tg++frees sc,G:=(X_ sc).filter Γ.U.contains,cel:=frees sc,lam:=aF}
theorem Ry(C:Ck D W Γ X k)(ok:cE Γ.N Γ.cel tg sc) 
  (f:∀e s,XP {(gW X (z5 tg++frees sc) sc cl C0 g j fp) with pn:=pn,xe:=xe} W' e s->xe e s):Ck D W' (inComp Γ tg sc) {(gW X (z5 tg++frees sc) sc cl C0 g j fp) with pn:=pn,xe:=xe} k:=by
 have b:∀x∈frees sc,(d7 sc X.env).names.lookup x=aA .cell\/(d7 sc X.env).names.lookup x=aA .free:=λx c=>by
  have:=zB (env:=X.env) (ok.fre x c).2.1;unfold d7;dsimp only;rw[this];split
  .exact .inl rfl
  .exact .inr rfl
 have a:∀{x d},sc.names.lookup x=aA d->d≠.free->(d7 sc X.env).names.lookup x=aA d:=λ{x d} h i=>by
  have:=zB (env:=X.env) h;unfold d7;dsimp only;rw[this];have e:(d==pv)=aD:=by simpa using i
  simp[e]
 refine⟨C.hK,rfl,ok.nd,λx c=>?_,λx c=>?_,λx c=>?_,λx c=>?_,λx c=>?_,C.glU,b,C.isi,C.fld,C.xcx,C.ocx,C.clv,C.clm,C.rom,C.rmh,f,?_,cT.no rfl,λh=>by cases h⟩
 .rcases cM.mp c with h|h
  .exact .inl (a (ok.own x h).1 (by decide))
  .rcases b x h with z|z
   .exact .inr (.inl z)
   .exact .inr (.inr z)
 .rcases cM.mp c with h|h
  .exact (ok.own x h).2
  .exact (ok.fre x h).2.2.2
 .exact (C.glU x (by have:=(h_.mp c).2;simpa using this)).2
 .exact a (ok.glb x (h_.mp c).1) (by decide)
 .exact (C.glU x (by have:=(h_.mp c).2;simpa using this)).1
 .obtain⟨e0,out,L,F⟩:=C.frm;exact⟨e0,out,L,⟨F.stk,F.f0,F.fe⟩⟩
theorem Tu(ok:cE Γ.N Γ.cel tg sc):m6 (gW X (z5 tg++frees sc) sc cl C0 d g fp) (z5 tg):=λx b=>by
 have e:=zB (env:=X.env) (ok.own x b).1;have a:(d7 sc X.env).names.lookup x=aA .local:=by
  unfold d7;dsimp only;rw[e];rfl
 exact⟨.inl a,.inr a⟩
theorem KQ:∀{L:List aG}{i:Nat},x∈L->b7 (L++M) x=aA i->i<L.length
 |[],_,h,_=>absurd h (by simp)
 |y::L,i,h,e=>by
  rw[Df] at e;simp only[b7] at e;split at e
  .cases e;simp
  .rename_i a;have b:x∈L:=(dG.mp h).resolve_left λz=>a z.symm;cases q:b7 (L++M) x with
   |none=>rw[q] at e;cases e
   |some j=>rw[q] at e;cases e;simpa using KQ b q
theorem QF(h:i<n):∀j,n<=j->(vx τ i t)[j]?=τ[j]?:=λj a=>by
 rw[va,l5 (by lia)]
theorem QT:∀{es:List aH}{is:List Nat}{ts:List T}{τ a:Sl},(∀e∈es,∀x p,e=.Name x p->x∈L)->cJ (L++M) es=aA is->VX is ts τ=aA a->∀j,L.length<=j->a[j]?=τ[j]?
 |[],is,ts,τ,a,_,b,h=>by
  cases b;cases ts with
  |nil=>cases h;exact λ_ _=>rfl
  |cons _ _=>cases h
 |e::es,is,ts,τ,a,f,b,h=>by
  cases e with
  |Name x k=>
   simp only[cJ] at b;split at b
   .rename_i i c l d;cases b;cases ts with
    |nil=>cases h
    |cons t ts=>
     intro j g;rw[QT (λe m=>f e (eH _ m)) d (show VX c ts (vx τ i (aA t))=aA a from h) j g];exact QF (KQ (f _ fZ x k rfl) l) j g
   .cases b
  |_=>simp[cJ] at b
theorem Tv(a:wc (z5 e++M) e=aA tgt)(h:iM tgt t τ=aA d):∀j,(z5 e).length<=j->d[j]?=τ[j]?:=by
 cases e with
 |Name x b=>
  simp only[wc] at a;cases q:b7 (z5 (.Name x b)++M) x with
  |none=>rw[q] at a;cases a
  |some i=>
   rw[q] at a;cases a;cases (bQ h:vx τ i (aA t)=d);exact QF (KQ (by simp[z5]) q)
 |Tuple es c b=>
  simp only[wc] at a;cases q:cJ (z5 (.Tuple es c b)++M) es with
  |none=>rw[q] at a;cases a
  |some l=>
   rw[q] at a;cases a;cases t with
   |tup k=>exact QT (λe g x p f=>by subst f;exact nS.mpr ⟨_,g,rfl⟩) q h
   |_=>cases h
 |_=>simp[wc] at a
noncomputable def Xe (X:Cx)(D:DP)(W:XW):List aH->List Dt->Prop
 |[],[]=>True
 |e::es,f::fs=>PT X e (dZ D W f)/\Xe X D W es fs
 |_,_=>False
theorem Hm{M:Model}{A:dW}{β:Type}{R:β->aI->List aE->Hp->Prop}{fe:De}{kk:Option T->aI->RE β}{Qf:Bool->aW->Prop}:∀{cs:List aH}{fs:List Dt}{s:aW}{H:Hp}{α:List aE}{μ:aI},Xe X D W cs fs->Inv X pins σ H s->aZ D φ α H τ σ->aL D φ α H μ->aJ D W φ α H σ R ((yg fs fe τ μ).bind kk)->
  (∀m H' d g,Inv X pins σ H' m->aP α H d H'->aZ D φ d H' τ σ->aL D φ d H' g->aJ D W φ d H' σ R ((fe τ g).bind λy j=>kk (aA y) j)->Qf aB m)->
  (∀m H' d g,Inv X pins σ H' m->aP α H d H'->aZ D φ d H' τ σ->aL D φ d H' g->aJ D W φ d H' σ R (kk aF g)->Qf aD m)->
  y4 (aR X.prog X.w) X.A X.env X.xe cs Qf s
 |[],[],s,H,α,μ,_,I,n,o,p,q,_=>q s H α μ I (aP.refl _ _) n o p
 |[],_::_,_,_,_,_,h,_,_,_,_,_,_=>h.elim
 |_::_,[],_,_,_,_,h,_,_,_,_,_,_=>h.elim
 |c::cs,f::fs,s,H,α,μ,h,I,n,o,p,q,r=>by
  have p:aJ D W φ α H σ R ((f τ μ).bind λb j=>(RE.br b (yg fs fe τ j) (.ok aF j)).bind kk):=p;refine aY (E2 h.1 I n o p) ?_;rintro b u ⟨v,j,l,t,e,i,k,p1⟩;cases b with
  |true=>
   rw[if_pos rfl];exact Hm (M:=M) (A:=A) h.2 t i k p1 (λm H' d g a b=>q m H' d g a (e.trans b)) (λm H' d g a b=>r m H' d g a (e.trans b))
  |false=>
   rw[if_neg (by decide)];exact r u v l j t e i k p1
end
section
variable {X:Cx}{D:DP}{W:XW}{Γ:Cn}{k:Nat}{pins:List (aE×a_)}{s:Shared}{σ:St}{H:Hp}{φ α:List aE}{τ:Sl}{μ:aI}{tg iter elt:aH}{sc:Scope}{fp:List aE}{pos pos':Pos}
theorem yN(h:∀e s,E e s->E' e s):∀{cs:List aH}{s:aW},y4 M A env E cs Q s->y4 M A env E' cs Q s
 |[],_,q=>q
 |c::cs,s,q=>cR q (λb d a=>by
  cases b with
  |true=>rw[if_pos rfl] at a ⊢;exact yN h a
  |false=>rw[if_neg (by decide)] at a ⊢;exact a) h
theorem d6.but{T:aE}{h g:aT}(t:d6 h x T cls d fl)(sb:fN C0 h g)(hx:x≠C0)(n:T≠C0):d6 g x T cls d fl:=by
 obtain⟨j,vs,p,k,ts,l,m,hd,c,b,i,e,f,o,a⟩:=t;exact⟨j,vs,p,k,ts,sb.extBut x j hx l,m,hd,c,b,i,sb.extBut T k n e,f,o,a⟩
theorem ub(I:Inv X pins σ H s)(c:cN X H C0)(d:∀q∈pins,q.1≠C0)(sb:fN C0 s.heap h'):Inv X pins σ H {s with heap:=h'}:=
 uK (ch:=[C0]) I (λb f=>by rw[c8.mp f];exact⟨c,d⟩) (λb o _ a e=>sb.extBut b o (λz=>a (by simp[z])) e) λb o _ a e=>⟨o.slots,sb.extBut b o (λz=>a (by simp[z])) e⟩
inductive oN(D:DP)(Xb:Cx)(tn:Nat->aT->Prop)(fp φ1 α1:List aE)(H2:Hp)(acc:aE)(bl:Sl)(xs:List T)(P:Nat->List T->aI->Prop)(n:Nat)(s':Shared):Prop where
 |mk (i:Nat) (σ':St) (H':Hp) (α':List aE) (μ':aI) (yT:List T) (yV:List V) (e:n=xs.length-i) (hi:i<=xs.length) (iv:Inv Xb [] σ' H' s') (t:tn i s'.heap) (fr:∀b∈fp,H' b=aF) (st:aP α1 H2 α' H') (mr:aL D φ1 α' H' μ') (sr:aZ D φ1 α' H' bl σ') (ac:H' acc=aA (.lst yV)) (dl:aM D φ1 α' H' yT yV) (hy:yT.length<=i) (q:P i yT μ')
inductive lI(D:DP)(φ1 α1:List aE)(H2:Hp)(Z0:Xp)(cls:aC)(d:Option aE)(_:St)(He:Hp):Prop where
 |mk (c:Nat) (fs':List (Nat×T)) (μ':aI) (α':List aE) (z:Z0 c fs' μ') (st:aP α1 H2 α' He) (m:aL D φ1 α' He μ') (ad:gJ D c fs' cls) (xd:bO D φ1 α' He fs' d)
structure Cb(Xb X:Cx)(env:Env)(N:List aG):Prop where
 pr:Xb.prog=X.prog
 w:Xb.w=X.w
 K:Xb.K=X.K
 A:Xb.A=X.A
 en:Xb.env=env
 ca:Xb.calm=X.calm
 st:Xb.stack=X.stack
 N:Xb.N=N
theorem y0{β:Type}{R:β->aI->List aE->Hp->Prop}{fi:Di}{tgt:Tg}{cs:List Dt}{fe:De}{kk:List T->aI->RE β}{use:Option (aC->Sem Unit)} 
  (C:Ck D W Γ X k) (hc:Γ.calm=aB) (ok:cE Γ.N Γ.cel tg sc) (hfs:j2 Γ.N (frees sc)=aA fs) (htg:wc (z5 tg++frees sc) tg=aA tgt) (hi:PI X tg iter (gU D W fi)) (hel:∀X' W',Ck D W' (inComp Γ tg sc) X' k->PE X' elt (aV D W' fe)) (hts:∀X' W',Ck D W' (inComp Γ tg sc) X' k->Xe X' D W' ifs cs) (hs:∀x,lD iter X.env x=pure x)
  (I:Inv X pins σ H s) (sr:aZ D φ α H τ σ) (mr:aL D φ α H μ)
  (p:aJ D W φ α H σ R ((fi τ μ).go λxs o μ1=>.grd (xs.length<=a9) ((vp tgt (yg cs fe) o (fQ (z5 tg).length fs τ) xs μ1).bind kk)))
  (Kq:∀acc C0 s' Q H1 H' U ys vs Y,Inv X pins σ H' s'->aP α H Q H1->aP Q H1 U H'->H1 acc=aF->acc∉φ->acc∉Q->aZ D (φ++[acc]) U H' τ σ->aL D (φ++[acc]) U H' Y->H' acc=aA (.lst vs)->aM D (φ++[acc]) U H' ys vs->aJ D W φ Q H1 σ R (kk ys Y)->cN X H' C0->(∀q∈pins,q.1≠C0)->(∃m,s'.heap.Ns C0 m)->
   (match use with
    |none=>∃m,s'.heap.Ns C0 m/\∀g,fN C0 s'.heap g->Qf (.ref acc) {s' with heap:=g}
    |some u=>wpAny (aR X.prog X.w) X.A (u (.ref acc)) (λ_ t2=>∃m,t2.heap.Ns C0 m/\∀g,fN C0 t2.heap g->Qf .none {t2 with heap:=g}) X.xe s')) :
  wpAny (aR X.prog X.w) X.A (pw (.ListComp elt [⟨tg,iter,ifs,0⟩] sc pos) sc X.env pos' (newList []) aD (eval iter X.env) use) Qf X.xe s:=by
 obtain⟨cl,hclos,hcl,hcl2⟩:=uT (sc:=sc) (env:=X.env) λx hx=>I.ok.has x (C.cel x (ok.fre x hx).2.2.1)
 refine Sw (use:=use) rfl hs hclos ok.kind ok.lcl (aY (hi pins s σ H (λJ H2=>∃xs o μ1 Q Ok,le D J Ok xs/\Ch D φ Q H2 xs o Ok/\o μ1/\aP α H Q H2/\aL D φ Q H2 μ1/\
  aJ D W φ Q H2 σ R (.grd (xs.length<=a9) ((vp tgt (yg cs fe) o (fQ (z5 tg).length fs τ) xs μ1).bind kk))) I
  ⟨φ,α,τ,μ,sr,mr,(show aJ D W φ α H σ R ((fi τ μ).re.bind λpr μ1=>.grd (pr.1.length<=a9) ((vp tgt (yg cs fe) pr.2 (fQ (z5 tg).length fs τ) pr.1 μ1).bind kk)) from p).bind.mono λpr Y U H' st m q J Ok iv okk lv=>⟨pr.1,pr.2,Y,U,Ok,iv,okk,lv,st,m,q⟩⟩) λv s1 h1=>aY h1 λitv l h2=>?_)
 obtain⟨it,fp,tn,J,H2,rfl,I2,Tn,tn0,f2,xs,Lv,μ1,Q,Ok,iv,okk,lv1,st1,mr1,p1⟩:=h2;obtain⟨hroom,K0,Z0,q0,hk0,hz0⟩:=p1.grd;have fo:∀b∈fp,∃o,l.heap.get? b=aA o:=λb P=>let ⟨o,e,_⟩:=Tn.obj 0 _ tn0 b P;⟨o,e⟩;refine lC (Ee ok.noc (by intro y hy;simp at hy) (λh₁ hns₁ hsb₁=>?_) ok.kind);have sz:(l.heap.push {cls:=.type "list",dict:=aF,data:=.seq ([]:List aC).toArray}).objs.size=l.heap.objs.size+1:=lT ..;dsimp only at hns₁ hsb₁ ⊢;rw[sz] at hns₁ hsb₁ ⊢;have hns:h₁.Ns (l.heap.objs.size+1) (λ_=>aF):=by simpa using hns₁
 obtain⟨I3,J0⟩:=X2 (tk:=l.toks+([]:List (aG×aC)).length) C ok I2 f2 fo hcl hcl2 hns hsb₁;have hD:H2 l.heap.objs.size=aF:=I2.hok.fresh (bG _);have nph:l.heap.objs.size∉φ:=zb mr1 hD;have nal:l.heap.objs.size∉Q:=za mr1 hD;have old:∀b o,l.heap.get? b=aA o->h₁.get? b=aA o:=λb o e=>hsb₁.extBut b o (dF (tw (bW e))) (bN _ (bN _ e));have n3:({l with heap:=l.heap.push {cls:=.type "list",data:=.seq ([]:List aC).toArray}}:aW).heap.get? (l.heap.objs.size+1)=aF:=iJ (by show (l.heap.push _).objs.size<=_;rw[lT];exact bG _);have xo0:=wy I3 n3;have pn3:∀q∈pins,q.1≠l.heap.objs.size+1:=λq hq z=>by
  have:=(I3.pin q (dR _ hq)).1;rw[z,n3] at this;cases this
 generalize hS3:({l with heap:=l.heap.push {cls:=.type "list",data:=.seq ([]:List aC).toArray}}:aW)=S3 at I3 J0 n3;generalize hH3:aX H2 l.heap.objs.size (.lst [])=H3 at I3 J0 xo0;generalize hXb:gW X (z5 tg++frees sc) sc cl (l.heap.objs.size+1) S3 H3 fp=B at J0;have f:Cb B X (gN sc cl (l.heap.objs.size+1) X.env) (z5 tg++frees sc):=by subst hXb;exact⟨rfl,rfl,rfl,rfl,rfl,rfl,rfl,rfl⟩
 have sto:m6 B (z5 tg):=by subst hXb;exact Tu (Γ:=Γ) ok
 have cm:B.calm=aB:=by rw[f.ca];exact C.clm hc
 have back:∀{s4:aW}{σ4:St}{H4:Hp}{E:List (aE×a_)},Inv B E σ4 H4 s4->Inv X pins σ H4 s4:=λ{s4 σ4 H4 E} I4=>by
  subst hXb;exact I3.call' (ch:=fp) I4.os I4.base I4.hok I4.bare λb P=>by
   obtain⟨f0,f1,f2',f3,f4,f5⟩:=f2 b P;exact⟨f3,f1,f4,f5⟩
 have fpk:∀{H':Hp},(∀b∈fp,H' b=aF)->∀b∈fp,Vg B [] H' b:=λhn b P=>by
  obtain⟨f0,f1,f2',f3,f4,f5⟩:=f2 b P;obtain⟨o,ho⟩:=fo b P;subst hXb;refine⟨hn b P,dF (tw (bW ho)),λz=>?_,.inl P,λx c h=>f4 x c (hcl x c h).1,λq hq=>absurd hq (by simp[gW])⟩;rcases dG.mp (I2.stkSub b z) with z|z
  .exact f1 z
  .exact f2' z
 have TnI:=Tn.item B f.pr f.w f.K cm;have TnD:=Tn.done B f.pr f.w f.K cm;obtain⟨e0,out,L,F⟩:=C.frm;have ce:(gN sc cl (l.heap.objs.size+1) X.env).frame=aA L:=F.fe;obtain⟨NB,hNB⟩:∃NB:aC->aW->Prop,NB=notedBy (aR X.prog X.w) X.A (gN sc cl (l.heap.objs.size+1) X.env) (λx s'=>Vs (aR X.prog X.w) X.A X.xe use Qf (.ref l.heap.objs.size) (gN sc cl (l.heap.objs.size+1) X.env) (.error x) s'):=⟨_,rfl⟩
 have leave:∀{E:List (aE×a_)}{e:aC}{t:aW},(∀b∈fp,∃o,(b,o)∈E)->XP (Cx.pin' B E) (lI D (φ++[l.heap.objs.size]) Q H2 Z0) e t->
   NB e t:=λ{E e t} hpp xp=>by
  have Fb:iN (Cx.pin' B E) e0 out L:=⟨by show B.stack=_;rw[f.st];exact F.stk,F.f0,by show B.env.frame=_;rw[f.en];exact ce⟩;have hfr:X.A.frames=aA (Cx.pin' B E).stack:=by show _=aA B.stack;rw[f.st];exact I.ok.frames
  rw[hNB];unfold notedBy;rw[show gN sc cl (l.heap.objs.size+1) X.env=(Cx.pin' B E).env from f.en.symm];refine je (X:=Cx.pin' B E) Fb hfr xp λx cls d σe He T h' ee Ie ox oT tr w=>?_;subst ee;have en:(Cx.pin' B E).env=gN sc cl (l.heap.objs.size+1) X.env:=f.en;rw[en];have Iu:Inv B E σe He {t with heap:=h'}:=zk Ie;have IX:=back Iu;have nw:∀b,cN (Cx.pin' B E) He b->cN X He b/\b≠l.heap.objs.size+1:=λb o=>by
   have P:b∉fp:=λz=>by
    obtain⟨ob,hm⟩:=hpp b z;exact o.pin (b,ob) (dR _ hm) rfl
   have h3:S3.heap.get? b=aF:=by
    have:=o.new;subst hXb;exact this.resolve_left P
   have q:=wy I3 h3;refine⟨⟨o.free,q.loc,q.nfs,q.new,q.cel,q.pin⟩,?_⟩;have:=o.loc;have e2:(Cx.pin' B E).env.locals=l.heap.objs.size+1:=by rw[en];rfl
   rw[e2] at this;exact this
  have xoC:cN X He (l.heap.objs.size+1):=⟨by have:=Iu.free;rw[f.en] at this;exact this,xo0.loc,xo0.nfs,xo0.new,xo0.cel,xo0.pin⟩;obtain⟨m,hm,_⟩:=Iu.loc;rw[f.en] at hm;refine⟨m,hm,λg sb=>?_⟩;have sb':fN (l.heap.objs.size+1) h' g:=sb;have Ig:Inv X [] σ He {t with heap:=g}:=(ub IX xoC pn3 sb').pins_of λp hp=>absurd hp (by simp);have tg':=tr.but sb' (nw x ox).2 (nw T oT).2;unfold CP;obtain⟨oe,vs',a0,oT',ts,ho,hcc,hd,hv0,hv1,hT,hoT,hdT,h3,_⟩:=id tg';refine wpAny_bind (gD ho hd hv1 ?_);rw[if_neg (show ¬((b9 T==dP)=aB) from by simp)];have go:∀{t2:aW},XP X W (.ref x) t2->wpAny (aR X.prog X.w) X.A (throw (b9 x):Sem aC) (λ_ _=>False) X.xe t2:=λ{t2} xp=>r6 (C.xe _ _ xp);have fin:wpAny (aR X.prog X.w) X.A (lO (.ref x) (gN sc cl (l.heap.objs.size+1) X.env).frame) (λ_ t2=>XP X W (.ref x) t2) X.xe {t with heap:=g}:=by
   refine zF (s:={t with heap:=g}) Ig (nw x ox).1 (nw T oT).1 tg' λh4 I4 tr4=>?_;obtain⟨c,fs',Y,U,z,stp,m',ad,xd⟩:=w;refine⟨x,cls,d,σ,He,aA T,cF L,rfl,I4,(nw x ox).1,λt ht=>?_,?_,.inr ⟨L,F.fe,rfl⟩,?_⟩
   .have:t=T:=by simpa using ht
    rw[this];exact (nw T oT).1
   .rw[ce] at tr4;exact tr4
   .refine hz0 c fs' Y z U He cls d stp (m'.lk wJ (λa ha=>⟨rfl,λz=>m'.dis a ha (d9 _ z)⟩) λb P=>m'.phi b (d9 _ P)) ad (xd.lk wJ)
  first
   |exact wpAny_bind (aY fin λ_ t2 xp=>go xp)
   |exact wpAny_bind (wpAny_pure (wpAny_bind (aY fin λ_ t2 xp=>go xp)))
 have loop:fE (aR X.prog X.w) X.A (.compLoop (.ListComp elt [⟨tg,iter,ifs,0⟩] sc pos) 0 (.ref it) (.ref l.heap.objs.size) (gN sc cl (l.heap.objs.size+1) X.env)) (Vs (aR X.prog X.w) X.A X.xe use Qf (.ref l.heap.objs.size) (gN sc cl (l.heap.objs.size+1) X.env)) {l with heap:=h₁,toks:=l.toks+([]:List (aG×aC)).length}:=by
  obtain⟨LI,hLI⟩:∃LI:Nat->aW->Prop,LI=oN D B tn fp (φ++[l.heap.objs.size]) Q H2 l.heap.objs.size (fQ (z5 tg).length fs τ) xs (λi yT Y=>Lv Y/\vp tgt (yg cs fe) Lv (fQ (z5 tg).length fs τ) (xs.drop i) Y (λrest μ2=>kk (yT++rest) μ2 K0 Z0) Z0):=⟨_,rfl⟩;refine YZ LI ?_ xs.length ?_
  .intro n s' h0;rw[hLI] at h0;obtain⟨i,σ',H',U,Y,yT,yV,rfl,hi',Iv,tni,fr,stp,mr',sr',hacc,dly,hyl,lv',hcmi⟩:=h0;have okH:Ok (φ++[l.heap.objs.size]) U H':=okk _ U H' Y ((yf hD).trans stp.lk) mr' lv';by_cases hlt:i<xs.length
   .have TI:=TnI i [] s' σ' H' (λ_ _=>False) Iv (fpk fr) tni (iv.go i _ _ H' okH (by lia));rw[f.A] at TI;refine aY TI ?_;rintro r s4 ⟨u,rfl,h4⟩;refine aY h4 ?_;rintro _ s5 ⟨x,H5,I5,r5,y5,tn5,fr5⟩;obtain⟨sm5,dx'⟩:=iv.yld i _ _ H' x H5 xs[i] okH (by simp[hlt]) y5;have stp:=stp.trans (aP.new (α:=U) sm5);have sr':=sr'.step (aP.new (α:=U) sm5);have mr':=mr'.new sm5;have hacc:=sm5 _ _ hacc;have dly:=dly.step (aP.new (α:=U) sm5);have hdr:xs.drop i=xs[i]::xs.drop (i+1):=EB hlt;rw[hdr] at hcmi;obtain⟨τ',ha,hfe⟩:=hcmi;have I5':=I5.pinned (fpk fr5) (Tn.obj _ _ tn5);have A6:=KA (S:=z5 tg) (X:=B) f.N ok.nd sto cm (λx h=>h) htg ha I5' sr' dx' r5;rw[f.pr,f.w,f.A,f.en,show B.xe=λ_ _=>False by subst hXb;rfl] at A6;refine aY A6 ?_;rintro _ s6 ⟨σ6,I6,sr6⟩;generalize hpp:([]++Zg fp s5.heap:List (aE×a_))=E at I6;have hppm:∀b∈fp,∃o,(b,o)∈E:=λb P=>by
     obtain⟨o,e,_⟩:=Tn.obj _ _ tn5 b P;exact⟨o,by rw[<-hpp];exact dR _ (wW P e)⟩
    generalize hW1:lI D (φ++[l.heap.objs.size]) Q H2 Z0=W1;have lv:∀e t,XP (Cx.pin' B E) W1 e t->NB e t:=λe t xp=>by
     rw[<-hW1] at xp;exact leave hppm xp
    have ck:Ck D W1 (inComp Γ tg sc) ((Cx.pin' B E).wish (XP (Cx.pin' B E) W1)) k:=by
     subst hXb;exact Ry (W':=W1) (pn:=[]++E) (xe:=XP (Cx.pin' (gW X (z5 tg++frees sc) sc cl (l.heap.objs.size+1) S3 H3 fp) E) W1) C ok λe s p=>wF (X:=Cx.pin' (gW X (z5 tg++frees sc) sc cl (l.heap.objs.size+1) S3 H3 fp) E) p
    have I6':Inv ((Cx.pin' B E).wish (XP (Cx.pin' B E) W1)) [] σ6 H5 s6:=(ZE I6).wish _
    have next:∀{s7:aW}{H7:Hp}{Z:List aE}{O:aI}{yT':List T}{yV':List V},Inv ((Cx.pin' B E).wish (XP (Cx.pin' B E) W1)) [] σ6 H7 s7->aP Q H2 Z H7->aL D (φ++[l.heap.objs.size]) Z H7 O->aZ D (φ++[l.heap.objs.size]) Z H7 τ' σ6->H7 l.heap.objs.size=aA (.lst yV')->aM D (φ++[l.heap.objs.size]) Z H7 yT' yV'->yT'.length<=i+1->
      Lv O->vp tgt (yg cs fe) Lv (fQ (z5 tg).length fs τ) (xs.drop (i+1)) O (λrest μ2=>kk (yT'++rest) μ2 K0 Z0) Z0->
      ∃m,m<xs.length-i/\LI m s7:=λ{s7 H7 Z O yT' yV'} I7 st7 m7 sr7 ac7 dy7 hy7 lv7 q7=>by
     have I7u:Inv B E σ6 H7 s7:=zk I7.unwish;have pinned:∀b∈fp,∃o,s5.heap.get? b=aA o/\s7.heap.get? b=aA o/\H7 b=aF:=λb P=>by
      obtain⟨o,e,_⟩:=Tn.obj _ _ tn5 b P;have:=I7u.pin (b,o) (dR _ (by rw[<-hpp];exact dR _ (wW P e)));exact⟨o,e,this.1,this.2.1⟩
     refine⟨xs.length-(i+1),by lia,?_⟩;rw[hLI];refine⟨i+1,σ6,H7,Z,O,yT',yV',rfl,hlt,I7u.pins_of (λp hp=>absurd hp (by simp)),Tn.keep _ _ _ tn5 (λb P o e=>?_),λb P=>(pinned b P).choose_spec.2.2,st7,m7,⟨?_,λj t e=>?_⟩,ac7,dy7,hy7,lv7,q7⟩
     .obtain⟨o',e1,e2,_⟩:=pinned b P;rw[e] at e1;cases e1;exact e2
     .have:=I7u.len;rw[f.N] at this;rw[Vc,this];simp[Zp,uU hfs]
     .have hj:(z5 tg).length<=j:=by
       rcases CQ j (z5 tg).length with h|h
       .rw[Vc,eL (by simpa using h),pV] at e;split at e<;>cases e
       .exact h
      exact sr7.val j t (by rw[Tv htg ha j hj];exact e)
    have P0:aJ D W1 (φ++[l.heap.objs.size]) U H5 σ6 (λ(o:Option T) O Z H7=>match o with
      |some y=>∀v,a6 D (φ++[l.heap.objs.size]) Z H7 y v->Lv O/\vp tgt (yg cs fe) Lv (fQ (z5 tg).length fs τ) (xs.drop (i+1)) O (λys μ2=>kk (yT++y::ys) μ2 K0 Z0) Z0
      |none=>Lv O/\vp tgt (yg cs fe) Lv (fQ (z5 tg).length fs τ) (xs.drop (i+1)) O (λys μ2=>kk (yT++ys) μ2 K0 Z0) Z0) ((yg cs fe τ' Y).bind λo O=>RE.ok o O):=by
     refine⟨_,Z0,hfe,λo O e Z H7 st m=>?_,λc fs' O z Z H7 cv d st m ad xd=>?_⟩
     .cases o with
      |some y=>exact λv _=>e
      |none=>exact e
     .rw[<-hW1];exact⟨c,fs',O,Z,z,stp.trans st,m,ad,xd⟩
    have ep:((Cx.pin' B E).wish (XP (Cx.pin' B E) W1)).prog=X.prog:=f.pr;have ew:((Cx.pin' B E).wish (XP (Cx.pin' B E) W1)).w=X.w:=f.w;have eA:((Cx.pin' B E).wish (XP (Cx.pin' B E) W1)).A=X.A:=f.A;have ee:((Cx.pin' B E).wish (XP (Cx.pin' B E) W1)).env=gN sc cl (l.heap.objs.size+1) X.env:=f.en;have nD:l.heap.objs.size∉U:=λz=>mr'.dis _ z (by simp);have G:=Hm (X:=(Cx.pin' B E).wish (XP (Cx.pin' B E) W1)) (M:=aR X.prog X.w) (A:=X.A) (Qf:=λb s₄=>if b=aB then wpAny (aR X.prog X.w) X.A (eval elt (gN sc cl (l.heap.objs.size+1) X.env)) (λx s₅=>wpAny (aR X.prog X.w) X.A (call (.builtin "list.append") [.ref l.heap.objs.size,x]) (λ_ s₆=>∃m,m<xs.length-i/\LI m s₆) (λ_ _=>False) s₅) NB s₄ else ∃m,m<xs.length-i/\LI m s₄) (hts _ W1 ck) I6' sr6 mr' P0 (λs7 H7 Z O I7 st7 sr7 m7 p7=>?_) (λs7 H7 Z O I7 st7 sr7 m7 p7=>?_)
    .rw[ep,ew,eA,ee] at G;rw[<-hNB];exact yN (λe t h=>lv e t h) G
    .rw[if_pos rfl];have E7:=sub (hel _ W1 ck) I7 sr7 m7 p7;rw[ep,ew,eA,ee] at E7;refine cR E7 (λx8 s8 h8=>?_) λe t h=>lv e t h;obtain⟨v8,H8,y8,μ8,α8,I8,r8,st8,sr8,m8,d8,p8⟩:=h8;have q8:=p8.ok (aP.refl _ _) m8 v8 d8;have acc8:H8 l.heap.objs.size=aA (.lst yV):=st8.keep _ _ (λz=>m7.dis _ z (by simp)) (st7.keep _ _ nD hacc);have hyv:yV.length<=i:=by rw[<-dly.length];exact hyl
     have AP:=W3 (X:=Cx.pin' B E) [] s8 σ6 H8 (.ref l.heap.objs.size) [v8] (.ref l.heap.objs.size) [x8] (λ_ H9=>H9=aX H8 l.heap.objs.size (.lst (yV++[v8]))) I8.unwish rfl (.cons r8 .nil) ⟨_,yV,v8,rfl,rfl,acc8,D6 hyv (dI hlt (zf hroom)),rfl⟩;rw[show (Cx.pin' B E).prog=X.prog from f.pr,show (Cx.pin' B E).w=X.w from f.w,show (Cx.pin' B E).A=X.A from f.A,show (Cx.pin' B E).xe=λ_ _=>False by subst hXb;rfl] at AP;refine aY AP ?_;rintro x9 s9 ⟨v9,H9,I9,r9,rfl⟩;have inphi:l.heap.objs.size∈φ++[l.heap.objs.size]:=by simp
     have t:=(stp.trans st7).trans st8;have one:aM D (φ++[l.heap.objs.size]) α8 H8 [y8] [v8]:=⟨v8,[],rfl,d8,rfl⟩;refine next (I9.wish _) ⟨t.ext,λb o n e=>?_,λb e=>t.live b ?_⟩ (m8.lk (uk inphi) (λa ha'=>⟨by rw[z6 (λz=>m8.dis a ha' (by rw[z];simp))],m8.dis a ha'⟩) (λb P=>?_)) (sr8.lk (uk inphi)) z4 ((((dly.step st7).step st8).append one).lk (uk inphi)) (by simp;lia) q8.1 (by simpa using q8.2)
     .rw[z6 (zu e hD)];exact t.keep b o n e
     .by_cases P:b=l.heap.objs.size
      .rw[P,z4] at e;cases e
      .rw[z6 P] at e;exact e
     .by_cases hb':b=l.heap.objs.size
      .rw[hb',z4];exact⟨_,rfl,rfl⟩
      .rw[z6 hb'];exact m8.phi b P
    .rw[if_neg (by decide)];exact next I7 (stp.trans st7) m7 sr7 (st7.keep _ _ nD hacc) (dly.step st7) (by lia) (p7.ok (aP.refl _ _) m7).1 (p7.ok (aP.refl _ _) m7).2
   .have hie:i=xs.length:=by lia
    have TD:=TnD i [] s' σ' H' (λ_ _=>False) Iv (fpk fr) tni (by rw[hie];exact iv.stop _ _ H' okH);rw[f.A] at TD;refine aY TD ?_;rintro r s4 ⟨rfl,I4⟩;have hdr:xs.drop i=[]:=by rw[hie];simp
    rw[hdr] at hcmi;have q4:kk yT Y K0 Z0:=by
     have:kk (yT++[]) Y K0 Z0:=hcmi;simpa using this
    have I5:=back I4;obtain⟨m,hm,_⟩:=I4.loc;rw[f.en] at hm;exact Kq l.heap.objs.size (l.heap.objs.size+1) s4 Q H2 H' U yT yV Y I5 st1 stp hD nph nal (((sr.step st1).lk (yf hD)).step stp) mr' hacc dly ⟨K0,Z0,q4,hk0,hz0⟩ ⟨by have:=I4.free;rw[f.en] at this;exact this,xo0.loc,xo0.nfs,xo0.new,xo0.cel,xo0.pin⟩ pn3 ⟨m,hm⟩
  .have sm:j6 H2 H3:=by rw[<-hH3];exact z7 hD
   rw[hLI];refine⟨0,_,_,Q,μ1,[],[],rfl,gQ _,J0,Tn.keep _ _ _ tn0 λb P o e=>old b o e,λb P=>?_,aP.new sm,?_,?_,by rw[<-hH3];exact z4,rfl,bG _,lv1,by simpa using q0⟩
   .obtain⟨o,ho⟩:=fo b P;rw[<-hH3,z6 (dF (bW ho))];exact (f2 b P).1
   .refine mr1.lk (JF hD sm) (λa ha=>?_) λb P=>?_
    .have na:a≠l.heap.objs.size:=λz=>nal (z▸ha);exact⟨by rw[<-hH3];exact z6 na,λz=>(cM.mp z).elim (mr1.dis a ha) λz=>na (c8.mp z)⟩
    .rcases cM.mp P with z|z
     .obtain⟨o,e,n⟩:=mr1.phi b z;exact⟨o,sm b o e,n⟩
     .rw[c8.mp z,<-hH3,z4];exact⟨_,rfl,rfl⟩
   .exact (PZ (sr.step st1) hfs).lk (JF hD sm)
 exact codeAny_compStart_list loop (cR (Tn.self _ 0 _ _ _ (Tn.keep _ _ _ tn0 λb P o e=>old b o e) loop) (λ_ _ q=>q) λ_ _ q=>q)
end
section
variable {X:Cx}{D:DP}{W:XW}{Γ:Cn}{k:Nat}{pins:List (aE×a_)}{s:Shared}{σ:St}{H:Hp}{φ α:List aE}{τ:Sl}{μ:aI}{tg iter elt:aH}{sc:Scope}{pos:Pos}{fi:Di}{fs:List Nat}{tgt:Tg}{ifs:List aH}{cs:List Dt}{fe:De}
theorem Jg{β:Type}{R:β->aI->List aE->Hp->Prop}{kk:T->aI->RE β}{c:aE}{f d:List aE}{j H':Hp}{ys:List T}{vs:List V}{e:aI}(st:aP f j d H')(l:j c=aF)(h:c∉φ)(g:aL D (φ++[c]) d H' e)(i:H' c=aA (.lst vs))(dl:aM D (φ++[c]) d H' ys vs)(p:aJ D W φ f j σ R (kk (.lst ys) e)) :
  aL D φ d H' e/\a6 D φ d H' (.lst ys) (.ref c)/\aJ D W φ d H' σ R (kk (.lst ys) e):=
 ⟨g.lk wJ (λa i=>⟨rfl,λz=>g.dis a i (d9 _ z)⟩) λb k=>g.phi b (d9 _ k),⟨c,vs,rfl,h,λz=>g.dis _ z (by simp),.inl i,dl.lk wJ⟩,p.step st⟩
theorem jX:Lk (φ++[g]) d H' φ (d++[g]) H':=⟨λa o b c e=>⟨λz=>b (d9 _ z),λz=>(cM.mp z).elim c λz=>b (by rw[c8.mp z];simp),e⟩,λi a e=>by
 rw[eL (cH.mp e).1];exact e⟩
theorem Wc(st:aP m A g H')(w:A d=aF)(n:d∉φ)(c:aL D (φ++[d]) g H' j)(t:H' d=aA (.lst vs))(dl:aM D (φ++[d]) g H' ys vs) :
  aP m A (g++[d]) H'/\aL D φ (g++[d]) H' (j++[.lst ys])/\a6 D φ (g++[d]) H' (.mut j.length) (.ref d):=by
 have p:d∉g:=λz=>c.dis _ z (by simp);refine⟨?_,⟨by simp[c.len],?_,λb k=>?_,λb k=>c.phi b (d9 _ k),λi a o f l=>?_⟩,d,by rw[<-c.len,fP (bG _)];simp,rfl⟩
 .obtain⟨v,e,q⟩:=st.ext;exact⟨⟨v++[d],by rw[e];simp,λb k=>(cM.mp k).elim (q b) λz=>by rw[c8.mp z];exact w⟩,st.keep,st.live⟩
 .rw[mK];exact⟨c.nd,by simp,λa t b k z=>p (by rw[c8.mp k] at z;exact z▸t)⟩
 .rcases cM.mp k with h|h
  .exact λz=>c.dis b h (d9 _ z)
  .rw[c8.mp h];exact n
 .by_cases u:i<g.length
  .rw[eL u] at f;rw[eL (by rw[<-c.len];exact u)] at l;exact (c.ob i a o f l).lk jX rfl
  .have x:=c.len;rw[fP (by lia)] at f l;have s:i-g.length=0:=by
    by_cases z:i-g.length=0
    .exact z
    .rw[mT (by simp;lia)] at f;cases f
   have r:i-j.length=0:=by lia
   rw[s] at f;rw[r] at l;have f:aA d=aA a:=f;have l:aA (MO.lst ys)=aA o:=l;cases f;cases l;exact⟨vs,t,dl.lk jX⟩
theorem Y6(C:Ck D W Γ X k)(P:Γ.calm=aB)(ok:cE Γ.N Γ.cel tg sc)(i:j2 Γ.N (frees sc)=aA fs)(h:wc (z5 tg++frees sc) tg=aA tgt)(O:PI X tg iter (gU D W fi))(l:∀j W',Ck D W' (inComp Γ tg sc) j k->PE j elt (aV D W' fe))(f:∀j W',Ck D W' (inComp Γ tg sc) j k->Xe j D W' ifs cs)(hs:∀x,lD iter X.env x=pure x) :
  PE X (.ListComp elt [⟨tg,iter,ifs,0⟩] sc pos) (aV D W (eComp (z5 tg).length fs tgt fi cs fe)):=by
 rintro b s q H Q I ⟨V,Z,Y,c,A,F,p⟩;rw[eval_ListComp];refine y0 (kk:=λo c=>RE.ok (T.lst o) c) (use:=aF) (Qf:=EP X b q Q) C P ok i h O l f hs I A F p ?_;rintro n C0 s' u H1 U v o vs r S y st L e E z m R dl a w K ⟨G,M⟩;obtain⟨J,d,a⟩:=Jg (kk:=λt c=>RE.ok t c) st L e m R dl a;exact⟨G,M,λg B=>⟨.ref n,U,ub S w K B,rfl,a.here J d⟩⟩
theorem Ji(C:Ck D W Γ X k)(P:Γ.calm=aB)(ok:cE Γ.N Γ.cel tg sc)(l:j2 Γ.N (frees sc)=aA fs)(i:wc (z5 tg++frees sc) tg=aA tgt)(O:PI X tg iter (gU D W fi))(n:∀j W',Ck D W' (inComp Γ tg sc) j k->PE j elt (aV D W' fe))(h:∀j W',Ck D W' (inComp Γ tg sc) j k->Xe j D W' ifs cs)(hs:∀x,lD iter X.env x=pure x) :
  PE X (.ListComp elt [⟨tg,iter,ifs,0⟩] sc pos) (aV D W (eCompL (z5 tg).length fs tgt fi cs fe)):=by
 rintro b s r H Q I ⟨V,Z,Y,c,A,F,p⟩;rw[eval_ListComp];refine y0 (kk:=λq c=>RE.ok (T.mut c.length) (c++[MO.lst q])) (use:=aF) (Qf:=EP X b r Q) C P ok l i O n h hs I A F p ?_;rintro o C0 s' u H1 U v q vs t S y st L f E z m R dl a w K ⟨G,M⟩;obtain⟨e,J,d⟩:=Wc st L f m R dl;exact⟨G,M,λg B=>⟨.ref o,U,ub S w K B,rfl,a.ok e J _ d⟩⟩
theorem qL(h:Γ.look x=g)(b:g≠.bad):x∈Γ.G/\Γ.gl x=g:=by
 unfold Cn.look at h;split at h
 .rename_i a;exact⟨by simpa using a,h⟩
 .exact absurd h.symm b
theorem QW(h:wk iter=aB):∀x,lD iter X.env x=pure x:=by
 intro x;cases iter<;>first|rfl|(simp[wk] at h)
end
structure oI(D:DP)(W:XW)(φ α:List aE)(H:Hp)(E:Ends)(Q:En):Prop where
 nx:∀τ μ,Q.nx τ μ->∀α' H' σ',aP α H α' H'->aL D φ α' H' μ->aZ D φ α' H' τ σ'->E.nx σ' H'
 bk:∀τ μ,Q.bk τ μ->∀α' H' σ',aP α H α' H'->aL D φ α' H' μ->aZ D φ α' H' τ σ'->E.bk σ' H'
 ct:∀τ μ,Q.ct τ μ->∀α' H' σ',aP α H α' H'->aL D φ α' H' μ->aZ D φ α' H' τ σ'->E.ct σ' H'
 rt:∀t μ,Q.rt t μ->∀α' H' v,aP α H α' H'->aL D φ α' H' μ->a6 D φ α' H' t v->E.rt v H'
 ex:∀c fs τ μ,Q.ex c fs τ μ->∀α' H' σ' cv d,aP α H α' H'->aL D φ α' H' μ->aZ D φ α' H' τ σ'->gJ D c fs cv->bO D φ α' H' fs d->W cv d σ' H'
inductive aK(D:DP)(W:XW)(φ α:List aE)(H:Hp)(E:Ends)(o:bV):Prop where
 |mk (Q:En) (q:o Q) (h:oI D W φ α H E Q)
noncomputable def cZ (D:DP)(W:XW)(f:Ds):TS:=λE c H=>m_ D H c λa e b d=>aK D W a e H E (f b d)
structure Sk(D:DP)(W:XW)(Γ:Cn)(X:Cx)(k:Nat):Prop extends Ck D W Γ X k where
 sto:m6 X Γ.sto
 lcl:∀x∈Γ.N,Γ.cel.contains x=aD->X.env.scope.names.lookup x=aA .local
 pso:nr (aR X.prog X.w) X.A X.env X.xe
 xmt:∀t x c,(x,c)∈Γ.cls->c<40->∀Ct Cc,D.adr t=aA Ct->X.mg x=aA (.ref Cc)->i4 X.K (.ref Ct) (.ref Cc)=aA (zD t c)
section
variable {X:Cx}{D:DP}{W:XW}{Γ:Cn}{k:Nat}{pins:List (aE×a_)}{s:Shared}{σ:St}{H:Hp}{φ α:List aE}{τ:Sl}{μ:aI}{f g:De}{a b c e:aH}{pos:Pos}{E:Ends}{u v:Ds}
theorem aK.step(p:aK D W φ α H E o)(st:aP α H j H'):aK D W φ j H' E o:=by
 obtain⟨Q,q,m,l,k,i,h⟩:=p;exact⟨Q,q,λτ e z b g a f=>m τ e z b g a (st.trans f),λτ e z b g a f=>l τ e z b g a (st.trans f),λτ e z b g a f=>k τ e z b g a (st.trans f),λτ e z b g a f=>i τ e z b g a (st.trans f),λc fs τ e z b g a C d f=>h c fs τ e z b g a C d (st.trans f)⟩
theorem aK.elim{C:Prop}(p:aK D W φ α H E bV.st):C:=by obtain⟨_,q,_⟩:=p;exact q.elim
theorem aK.nx(p:aK D W φ α H E (.nx τ μ))(s:aP α H d H')(m:aL D φ d H' μ)(r:aZ D φ d H' τ j):E.nx j H':=by
 obtain⟨Q,q,a,_⟩:=p;exact a τ μ q d H' j s m r
theorem aK.rt(p:aK D W φ α H E (.rt t μ)){v:V}(s:aP α H d H')(m:aL D φ d H' μ)(r:a6 D φ d H' t v):E.rt v H':=by
 obtain⟨Q,q,_,_,_,h,_⟩:=p;exact h t μ q d H' v s m r
theorem aK.ex{c:Nat}{τ:Sl}{μ:aI}(p:aK D W φ α H E (.ex c fs τ μ)){H':Hp}(s:aP α H j H')(m:aL D φ j H' μ)(r:aZ D φ j H' τ z)(ad:gJ D c fs cv)(x:bO D φ j H' fs d):W cv d z H':=by
 obtain⟨Q,q,_,_,_,_,h⟩:=p;exact h c fs τ μ q j H' z cv d s m r ad x
theorem aK.grd{c:Prop}(p:aK D W φ α H E (bV.grd c o)):c/\aK D W φ α H E o:=by
 obtain⟨Q,q,h⟩:=p;exact⟨q.1,Q,q.2,h⟩
theorem aK.som{o:Option d}{k:d->bV}(p:aK D W φ α H E (bV.som o k)):∃a,o=aA a/\aK D W φ α H E (k a):=by
 obtain⟨Q,⟨a,e,q⟩,h⟩:=p;exact⟨a,e,Q,q,h⟩
theorem aK.br{b:Bool}{s:bV}(p:aK D W φ α H E (bV.br b r s)):(b=aB/\aK D W φ α H E r)\/(b=aD/\aK D W φ α H E s):=by
 obtain⟨Q,q,h⟩:=p;cases b with
 |true=>exact .inl ⟨rfl,Q,q,h⟩
 |false=>exact .inr ⟨rfl,Q,q,h⟩
theorem aK.ex2{b a:Type}{P c:b->a->Prop}{r:b->a->bV}(p:aK D W φ α H E (λQ=>∃x y,P x y/\c x y/\r x y Q)):∃x y,P x y/\c x y/\aK D W φ α H E (r x y):=by
 obtain⟨Q,⟨x,y,e,d,q⟩,h⟩:=p;exact⟨x,y,e,d,Q,q,h⟩
theorem aK.ex1{a:Type}{P b:a->Prop}{r:a->bV}(p:aK D W φ α H E (λQ=>∃x,P x/\b x/\r x Q)):∃x,P x/\b x/\aK D W φ α H E (r x):=by
 obtain⟨Q,⟨x,d,c,q⟩,h⟩:=p;exact⟨x,d,c,Q,q,h⟩
theorem aK.out{kk:β->aI->bV}(b:aZ D φ α H τ σ)(p:aK D W φ α H E (r.out τ kk)):aJ D W φ α H σ (λt j z H'=>aK D W φ z H' E (kk t j)) r:=by
 obtain⟨Q,q,h⟩:=p;refine⟨_,_,q,λa j e z H' st m=>aK.step ⟨Q,e,h⟩ st,λc fs j e z H' C d st m ad xd=>?_⟩;exact h.ex c fs τ j e z H' σ C d st m (b.step st) ad xd
theorem Og(o:PE X a (aV D W f)):PS X (.Return (aA a) pos) (cZ D W (sRet f)):=by
 rintro b s h H E I ⟨e,l,g,j,c,n,p⟩;refine Nf o b s h H E I ⟨e,l,g,j,c,n,(aK.out c p).mono λt i k r st m q v d=>aK.rt q (aP.refl _ _) m d⟩
theorem P9:PS X (.Return aF pos) (cZ D W sRetN):=by
 rintro a s b H E I ⟨d,g,e,f,h,c,p⟩;exact Rw a s b H E I (aK.rt p (aP.refl _ _) c rfl)
theorem PH(hs:iH a aF pos.line X.env=pure aD)(o:PE X a (aV D W f)):PS X (.Expr a pos) (cZ D W (sExpr f)):=by
 rintro b s h H E I ⟨e,l,g,j,c,n,p⟩;refine V5 o hs b s h H E I ⟨e,l,g,j,c,n,(aK.out c p).mono λt i k r st m q v d=>aK.nx q (aP.refl _ _) m (c.step st)⟩
theorem Rs:fS X [] (cZ D W (zK [])):=by
 rintro a s b H E I ⟨e,h,f,g,c,d,p⟩;exact WO a s b H E I (aK.nx p (aP.refl _ _) d c)
theorem z0A{st:bB}(z:PS X st (cZ D W u))(y:fS X r (cZ D W (zK fs))):fS X (st::r) (cZ D W (zK (u::fs))):=by
 rintro a s o H E I ⟨g,t,l,p,v,w,Q,q,x,k,j,i,h⟩;refine ZJ z y a s o H E I ⟨g,t,l,p,v,w,_,q,λb c e d A n st m f=>?_,k,j,i,h⟩;exact⟨g,d,b,c,f,m,aK.step ⟨Q,e,x,k,j,i,h⟩ st⟩
noncomputable def u4 (X:Cx)(D:DP)(W:XW):List bB->List Ds->Prop
 |[],[]=>True
 |e::es,f::fs=>PS X e (cZ D W f)/\u4 X D W es fs
 |_,_=>False
theorem qh:∀{a:List bB}{fs:List Ds},u4 X D W a fs->fS X a (cZ D W (zK fs))
 |[],[],_=>Rs
 |st::r,f::fs,h=>z0A h.1 (qh h.2)
 |[],_::_,h=>h.elim
 |_::_,[],h=>h.elim
theorem Mj{ft:Dt}(n:PT X c (dZ D W ft))(r:u4 X D W as us)(o:u4 X D W bs vs):PS X (.If c as bs pos) (cZ D W (sIf ft us vs)):=by
 rintro e s i H E I ⟨g,k,h,j,f,l,p⟩;refine MM n (qh r) (qh o) e s i H E I ⟨g,k,h,j,f,l,(aK.out f p).mono λb a d t st m q=>?_⟩;rcases aK.br q with⟨rfl,q⟩|⟨rfl,q⟩
 .exact⟨g,d,h,a,f.step st,m,q⟩
 .exact⟨g,d,h,a,f.step st,m,q⟩
noncomputable def i_ (Γ:Cn)(tg:aH):Bool:=(z5 tg).all λx=>!Γ.fz.contains x
theorem Vk(h:i_ Γ tg=aB)(m:∀x∈z5 tg,x∈Γ.N):∀x∈z5 tg,x∈Γ.sto:=λx a=>h_.mpr ⟨m x a,eF.mp h x a⟩
theorem U_(C:Sk D W Γ X k){p0:Pos}(g:b7 Γ.N x=aA i)(z:i_ Γ (.Name x p0)=aB)(hs:iH a (aA (.Name x p0)) pos.line X.env=pure aD)(B:PE X a (aV D W f)):PS X (.Assign [.Name x p0] a pos) (cZ D W (sSet i f)):=by
 rintro b s l H E I ⟨h,u,j,o,c,w,p⟩;have e:=Vk z (λy A=>by rw[c8.mp A];exact qx g) x (c8.mpr rfl);refine O3 (i:=i) (X:=X) (by rw[C.hN];exact C.nd) (by rw[C.hN];exact qN g) (C.sto x e).1 B hs (C.sto x e).2 b s l H E I ⟨h,u,j,o,c,w,(aK.out c p).mono λt n r F st m q v d=>?_⟩;exact aK.nx q (aP.refl _ _) m ((c.step st).set d)
theorem JM:∀{es:List aH}{is:List Nat},cJ N es=aA is->∀e∈es,∀x p,e=.Name x p->x∈N
 |[],_,_,e,a,_,_,_=>absurd a (by simp)
 |e0::es,is,h,e,a,x,p,c=>by
  cases e0 with
  |Name y g=>
   simp only[cJ] at h;split at h
   .rename_i i d f b;rcases dG.mp a with rfl|a
    .cases c;exact qx f
    .exact JM b e a x p c
   .cases h
  |_=>simp[cJ] at h
theorem Tx(h:wc N e=aA tgt):∀x∈z5 e,x∈N:=by
 intro x a;cases e with
 |Name y p=>
  simp[z5] at a;subst a;simp only[wc] at h;cases q:b7 N x with
  |none=>rw[q] at h;cases h
  |some i=>exact qx q
 |Tuple es f p=>
  obtain⟨e,d,q⟩:=nS.mp a;simp only[wc] at h;cases b:cJ N es with
  |none=>rw[b] at h;cases h
  |some g=>
   cases e with
   |Name y c=>
    have q:aA y=aA x:=q;cases q;exact JM b _ d x c rfl
   |_=>cases q
 |_=>simp[z5] at a
theorem GZ(C:Sk D W Γ X k)(g:X.calm=aB)(c:wc Γ.N tg=aA tgt)(f:i_ Γ tg=aB):PG X tg (λv σ H Q=>∃φ α τ t m,aZ D φ α H τ σ/\a6 D φ α H t v/\iM tgt t τ=aA m/\∀j,aZ D φ α H m j->Q j H):=by
 rintro b s σ H v u Q I r ⟨φ,α,τ,t,m,e,d,h,q⟩;refine aY (KA (S:=Γ.sto) C.hN C.nd C.sto g (Vk f (Tx c)) c h I e d r) ?_;rintro _ l ⟨j,i,a⟩;exact⟨j,H,i,q j a⟩
noncomputable def kL:aH->Bool
 |.Call _ _ _ _=>aB
 |.Name _ _=>aB
 |.Subscript _ _ _=>aB
 |.Attribute _ _ _=>aB
 |_=>aD
theorem OZ(C:Sk D W Γ X k)(B:Γ.calm=aB){es:List aH}(n:kL a=aB)(A:cJ Γ.N es=aA is)(z:i_ Γ (.Tuple es kk p0)=aB)(F:PE X a (aV D W f)):PS X (.Assign [.Tuple es kk p0] a pos) (cZ D W (F9 is f)):=by
 rintro b s r H E I ⟨j,x,l,w,i,y,p⟩;have J:pz [.Tuple es kk p0] a pos.line X.env=pure aD:=by cases a<;>first|(simp[kL] at n;done)|rfl
 have G:py [.Tuple es kk p0] a X.env=pure aF:=by cases a<;>first|(simp[kL] at n;done)|rfl
 refine KR F (GZ C (C.clm B) (tg:=.Tuple es kk p0) (tgt:=.tup is) (by simp[wc,A]) z) J G rfl b s r H E I ⟨j,x,l,w,i,y,(aK.out i p).mono λt u e K st m q v d=>?_⟩;obtain⟨c,h,q⟩:=aK.som q;exact⟨j,e,l,t,c,i.step st,d,h,λo g=>aK.nx q (aP.refl _ _) m g⟩
theorem OA(C:Sk D W Γ X k){p1:Pos}(U:(x,n)∈Γ.fld)(Y:PE X a (aV D W f))(T:PE X o (aV D W go)) :
  PS X (.Assign [.Attribute o x p1] a pos) (cZ D W (sFld go n f)):=by
 rintro l s M H E I ⟨F,O,G,N,A,Q,p⟩;have S:iH a (aA (.Attribute o x p1)) pos.line X.env=pure aD:=by cases a<;>rfl
 refine OB T Y S l s M H E I ⟨F,O,G,N,A,Q,(aK.out A p).mono λt u w H1 z R q v d=>?_⟩;have e:=A.step z;refine⟨F,w,G,u,e,R,(aK.out e q).mono λot r g L h J j Z dv=>?_⟩;split at j;case h_2=>exact aK.elim j
 rename_i i;obtain⟨c,fs,m,hl,j⟩:=aK.ex2 j;obtain⟨y,B,rfl⟩:=dv;obtain⟨C0,dx,gs,ad,K,df⟩:=J.ob i y _ B m;obtain⟨fx,cl,P⟩:=C.fld c C0 x n ad U;refine⟨y,C0,dx,gs,rfl,K,cl,P,by rw[<-df.length];lia,?_⟩;have b:aP g L g (aX L y (.ins C0 dx (wO x v gs))):=aP.turn (cY B) ⟨_,K⟩;have V:i<r.length:=(cH.mp m).1;exact aK.nx j b (J.turn B V b ⟨C0,dx,_,ad,z4,bD.put fx (df.step b) ((d.step h).step b)⟩) ((e.step h).step b)
theorem fA:A1 X (λo i v H Q=>∃l k xs,o=.ref l/\i=.int k/\H l=aA (.lst xs)/\0<=k/\k<xs.length/\k<9223372036854775808/\Q (aX H l (.lst (xs.set k.toNat v)))):=by
 intro c s A H o i v B C u Q I j m g h;obtain⟨l,k,xs,rfl,rfl,d,y,x,w,q⟩:=h;cases j;obtain⟨t,rfl⟩:=m;obtain⟨z,b,n,r,p,e⟩:=I.lstM d;refine PySem.W.ki_setAt (n:=n) (items:=b.toArray) e y (by simpa using w) (by rw[dH,<-p];exact x) ?_;exact⟨_,I.lset (t':=s.toks) (ys:=xs.set k.toNat v) (its':=b.set k.toNat u) (f:=λa=>a.setIfInBounds k.toNat u) d e (by simp) (aU.set g _ r) (by rw[List.length_set];exact z),q⟩
theorem Oz(C:Sk D W Γ X k){p1:Pos}(O:zH b=aB)(ha:PE X a (aV D W f))(ho:PE X o (aV D W fo))(hb:PE X b (aV D W fb)) :
  PS X (.Assign [.Subscript o b p1] a pos) (cZ D W (Fw fo fb f)):=by
 rintro r s S H E I ⟨w,U,y,T,K,Y,p⟩;have h1:pz [.Subscript o b p1] a pos.line X.env=pure aD:=by cases a<;>rfl
 have h2:py [.Subscript o b p1] a X.env=pure aF:=by cases a<;>rfl
 refine KR ha (HH ho hb fA (λv=>by cases b<;>first|(simp[zH] at O;done)|rfl)) h1 h2 rfl r s S H E I ⟨w,U,y,T,K,Y,(aK.out K p).mono λt B G H1 J m1 q v d=>?_⟩;have h:=K.step J;refine⟨w,G,y,B,h,m1,(aK.out h q).mono λot A F H2 m Z V ov dv=>?_⟩;have g:=h.step m;refine⟨w,F,y,A,g,Z,(aK.out g V).mono λit z j R e P n iv di=>?_⟩;have d3:=(d.step m).step e;split at n;case h_2=>exact aK.elim n
 rename_i i L;have dv:=dv.step e;obtain⟨ts,u,N,n⟩:=aK.ex1 n;obtain⟨x,M,rfl⟩:=dv;have di:iv=.int L:=di;subst di;obtain⟨xs,Q,l⟩:=P.ob i x _ M u;have c:aP j R j (aX R x (.lst (xs.set L.toNat v))):=aP.turn (cY M) ⟨_,Q⟩;have hi:i<z.length:=(cH.mp u).1;exact⟨x,L,xs,rfl,rfl,Q,N.1,by rw[<-l.length];exact N.2.1,N.2.2,aK.nx n c (P.turn M hi c ⟨_,z4,aM.set (l.step c) (d3.step c)⟩) ((g.step e).step c)⟩
theorem Ol(C:Sk D W Γ X k)(hc:Γ.calm=aB)(ht:wc Γ.N tg=aA tgt)(hz:i_ Γ tg=aB){body:List bB}{vs:List Ds}(hi:PI X tg iter (gU D W fi))(hb:u4 X D W body vs)(hs:∀x,lD iter X.env x=pure x) :
  PS X (.For tg iter body [] pos) (cZ D W (sFor tgt fi vs)):=by
 rintro pins s σ H E I ⟨A,α,Z,μ,sr,mr,p⟩;refine NN C.pso (C.clm hc) hi (GZ C (C.clm hc) ht hz) (qh hb) hs pins s σ H E I ⟨A,α,Z,μ,sr,mr,(aK.out sr (show aK D W A α H E ((fi Z μ).re.out Z λpr M=>eK tgt (zK vs) pr.2 pr.1 Z M) from p)).mono λpr M P H1 st1 m1 q J Ok iv okk lv1=>?_⟩;obtain⟨xs,o⟩:=pr;obtain⟨Q,q,h1,h2,h3,h4,h5⟩:=q;refine⟨λi m K z=>m=xs.length-i/\i<=xs.length/\∃a r l,aP P H1 a z/\aL D A a z l/\aZ D A a z r K/\o l/\eK tgt (zK vs) o (xs.drop i) r l Q,⟨xs.length,by simp,gQ _,P,Z,M,aP.refl _ _,m1,sr.step st1,lv1,by simpa using q⟩,?_⟩;rintro i m K z ⟨rfl,hi',a,r,l,g,w,B,lv',T⟩;have R:Ok A a z:=okk _ a z l g.lk w lv';by_cases G:i<xs.length
 .refine .inr ⟨iv.go i _ _ z R G,λσ2 U=>∃O Y L,aP P H1 O U/\aL D A O U L/\aZ D A O U Y σ2/\o L/\eK tgt (zK vs) o (xs.drop (i+1)) Y L Q,λσ2 U h2=>⟨xs.length-(i+1),by omega,rfl,G,h2⟩,λx U y=>?_⟩;obtain⟨sm,dx⟩:=iv.yld i _ _ z x U xs[i] R (by simp[G]) y;have g:=g.trans (aP.new (α:=a) sm);have B:=B.step (aP.new (α:=a) sm);have w:=w.new sm;rw[EB G] at T;obtain⟨V,ha,T⟩:=T;refine⟨A,a,r,xs[i],V,B,dx,ha,λσ3 sr3=>⟨A,a,V,l,sr3,w,_,T,?_,?_,?_,?_,?_⟩⟩
  .exact λj b e f S u h F n=>⟨f,j,b,g.trans h,F,n,e⟩
  .exact λj b e f S u h F n=>h1 j b e f S u (g.trans h) F n
  .exact λj b e f S u h F n=>⟨f,j,b,g.trans h,F,n,e⟩
  .exact λt b e f S v h F d4=>h4 t b e f S v (g.trans h) F d4
  .exact λc fs j b e f S u Cc d h F n=>h5 c fs j b e f S u Cc d (g.trans h) F n
 .have hie:i=xs.length:=by omega
  rw[hie,List.drop_length] at T;exact .inl ⟨by rw[hie];exact iv.stop _ _ z R,h1 r l T a z K g w B⟩
theorem S7(C:Sk D W Γ X k){body:List bB}(hc:PT X c (dZ D W ft))(hb:u4 X D W body vs):PS X (.While c body [] pos) (cZ D W (sWhile ft vs)):=by
 rintro K s σ H E I ⟨F,O,Z,μ,sr,mr,Q,⟨J,⟨N,hN⟩,hJ⟩,Y,h2,h3,S,V⟩;refine UR C.pso hc (qh hb) K s σ H E I ?_;refine⟨λm w M=>∃u i r,aP O H u M/\aL D F u M r/\aZ D F u M i w/\J m i r,⟨N,O,Z,μ,aP.refl _ _,mr,sr,hN⟩,?_⟩;rintro m w M ⟨u,i,r,B,P,z,pf⟩;refine⟨F,u,i,r,z,P,_,_,hJ m i r pf,λb x e y T n L=>?_,λc fs x e y T U d n L ad xd=>V c fs i x e y T w U d (B.trans n) L (z.step n) ad xd⟩;cases b with
 |false=>exact Y i x e y T w (B.trans n) L (z.step n)
 |true=>
  rw[if_pos rfl];have G:=B.trans n;refine⟨λl p=>∃j,j<m/\∃a g f,aP O H a p/\aL D F a p f/\aZ D F a p g l/\J j g f,λl p S=>S,F,y,i,x,z.step n,L,_,e,?_,?_,?_,?_,?_⟩
  .exact λg f ⟨j,R,q⟩ a p l h A o=>⟨j,R,a,g,f,G.trans h,A,o,q⟩
  .exact λg f e a p l h A o=>Y g f e a p l (G.trans h) A o
  .exact λg f ⟨j,R,q⟩ a p l h A o=>⟨j,R,a,g,f,G.trans h,A,o,q⟩
  .exact λt f e a p v h A d4=>S t f e a p v (G.trans h) A d4
  .exact λc fs g f e a p l U d h A o=>V c fs g f e a p l U d (G.trans h) A o
theorem Py(C:Sk D W Γ X k)(hc:Γ.calm=aB){tg iter elt:aH}{fi:Di}{ifs:List aH}{fe:De}{x:aG}{P:Nat}{p0 p1:Pos}(K:b7 Γ.N x=aA P)(hz:i_ Γ (.Name x p0)=aB)(ok:cE Γ.N Γ.cel tg sc)(hfs:j2 Γ.N (frees sc)=aA fs)(htg:wc (z5 tg++frees sc) tg=aA tgt)(hi:PI X tg iter (gU D W fi))(hel:∀M W',Ck D W' (inComp Γ tg sc) M k->PE M elt (aV D W' fe))(hts:∀M W',Ck D W' (inComp Γ tg sc) M k->Xe M D W' ifs cs)(hs:∀x,lD iter X.env x=pure x)
  (own:Bool) (hsw:iH (.ListComp elt [⟨tg,iter,ifs,0⟩] sc p1) (aA (.Name x p0)) pos.line X.env=pure aB) :
  PS X (.Assign [.Name x p0] (.ListComp elt [⟨tg,iter,ifs,0⟩] sc p1) pos) (cZ D W (sSet P (match own with|true=>eCompL (z5 tg).length fs tgt fi cs fe|false=>eComp (z5 tg).length fs tgt fi cs fe))):=by
 rintro i s σ H E I ⟨Q,α,τ,o,sr,mr,p⟩;rw[exec_Assign_Name_used _ _ _ _ hsw];refine wpAny_bind (fF (wpAny_bind ?_));show wpAny _ _ (do let _ ←pw (.ListComp elt [⟨tg,iter,ifs,0⟩] sc p1) sc X.env _ (newList []) aD (eval iter X.env) (aA (hG (.Name x p0) X.env))) _ _ s;refine wpAny_bind (aY (y0 (kk:=λR o=>match own with|true=>RE.ok (T.mut o.length) (o++[MO.lst R])|false=>RE.ok (T.lst R) o) (use:=aA (hG (.Name x p0) X.env)) (Qf:=λ_ B=>∃a f,Inv X i a f B/\E.nx a f) C.toCk hc ok hfs htg hi hel hts hs I sr mr (aK.out sr (by cases own<;>exact p)) ?_) λ_ B hq=>wpAny_pure (wpAny_pure hq));rintro j C0 B α1 H1 f α' R vs r I' st1 st hn F nal u m ha dl c O hp ⟨mm,hm⟩;have hx:=qx K;obtain⟨Z,es,ep,hoc,L,l⟩:=hm;have I2:Inv X (i++[(C0,Z)]) σ f B:=I'.pins_of λp n=>(cM.mp n).elim (λz=>I'.pin p (dR _ z)) λz=>by
  rw[c8.mp z];exact⟨hoc,O.free,O.loc,O.nfs,λv e=>by rw[L] at e;cases e⟩
 have fin:∀{b:List aE}{t:T}{μ2:aI},aZ D Q b f τ σ->a6 D Q b f t (.ref j)->(∀a,aZ D Q b f (vx τ P (aA t)) a->E.nx a f)->wpAny (aR X.prog X.w) X.A (hG (.Name x p0) X.env (.ref j)) (λ_ U=>∃m,U.heap.Ns C0 m/\∀g,fN C0 U.heap g->∃a f,Inv X i a f {U with heap:=g}/\E.nx a f) X.xe B:=λ{b t μ2} Y d q=>by
  refine aY (KA (e:=.Name x p0) (S:=Γ.sto) (tgt:=.one P) (t:=t) (τ:=τ) C.hN C.nd C.sto (C.clm hc) (Vk hz λy hy=>by rw[c8.mp hy];exact hx) (by simp[wc,K]) rfl I2 Y d (show RelV (.ref j) (.ref j) from rfl)) ?_;rintro _ s2 ⟨a,I3,h⟩;have J:=(I3.pin (C0,Z) (dR _ (dR _ (c8.mpr rfl)))).1;refine⟨mm,⟨Z,es,ep,J,L,l⟩,λg sb=>⟨a,f,?_,q a h⟩⟩;exact ub (I3.pins_of λp n=>I3.pin p (dR _ (d9 _ n))) O hp sb
 cases own with
 |false=>
  obtain⟨G,d,c⟩:=Jg (kk:=λt o=>RE.ok t o) st hn F m ha dl c;exact fin (μ2:=r) (u.lk wJ) d λa h=>aK.nx (c.ok (aP.refl _ _) G) (aP.refl _ _) G h
 |true=>
  obtain⟨V,G,d⟩:=Wc st hn F m ha dl;exact fin (μ2:=r) (u.lk jX) d λa h=>aK.nx (c.ok V G) (aP.refl _ _) G h
end
noncomputable def MF(C:aE)(h:aT):Prop:=∃b N nm q bs hd d sub ab a dd j i g f e c,h.get? C=aA (fY nm q C N bs b hd d sub ab a dd j i g f e "ValueError.__new__")/\h.Ns N c/\c "__init__"=aF/\lL h zr b
theorem uw {K:bH}{h:aT}{C:aE}(kin:K.In h) (e:eM K C zr "ValueError.__new__"=aB):MF C h:=by
 simp only[eM] at e;revert e;cases w:K.lookup C with
 |none=>intro e;cases e
 |some o=>
  intro e;split at e;case h_2=>cases e
  rename_i dd cd d v;cases v;split at e;case h_2=>cases e
  rename_i B s l k j i n g p m;simp only[bK,beq_iff_eq,mJ] at e;obtain⟨⟨⟨⟨⟨z,y⟩,r⟩,x⟩,b⟩,q⟩:=e;cases cd;rename_i nm bs mro f u hd t sub ab c A;simp only at p r b q;cases z;cases y;cases p;cases r;have a:d=#[l,k,j,i,aA (.builtin "ValueError.__new__"),g]:=by
   cases d;simp only at m;rw[m]
  cases a;exact⟨s,f,nm,u,bs,hd,t,sub,ab,c,dd,l,k,j,i,g,h.nsMap f,kin _ _ w,.of_isNs (sX kin b),PySem.W.nsMap_none_of_in kin b q,PySem.W.tail_of_in kin x⟩
section
variable {X:Cx}{pins:List (aE×a_)}{s:Shared}{σ:St}{H:Hp}
theorem UD{i:Nat}{x:aG}{m:aG->Option aC}{h':aT}{u:Option aC}{tk:Nat}(I:Inv X pins σ H s)(hN:X.N.Nodup)(L:X.N[i]?=aA x)
  (K:∀(i:Nat) (x:aG) (v:V),X.N[i]?=aA x->σ[i]?=aA (aA v)->gY X.env.scope x->∃u,RelV v u/\Look X.env s.heap m x u)
  (J:h'.Ns X.env.locals λy=>if y=x then u else m y) (hs:fN X.env.locals s.heap h'):Inv X pins (σ.set i aF) H {s with heap:=h',toks:=tk}:=by
 have cne:=I.cne;have a:∀b o,X.s₀.heap.get? b=aA o->b≠X.env.locals:=λb o e=>dF (dI (bW e) I.ok.above);refine⟨I.ok,I.os,I.bare,⟨λb o e n A h=>?_,λb o e n A h=>?_,I.base.free,λb o e h=>?_,I.base.tups,I.base.frzs,I.base.tbls⟩,⟨_,J,λj y v g f M=>?_⟩,λy c e=>?_,I.free,I.freeC,λp G=>?_,λb D e=>?_,by simpa using I.len⟩
 .exact (hs.2 b (a b o e)).trans (I.base.keep b o e n A h)
 .obtain⟨C,g⟩:=I.base.slot b o e n A h;exact⟨C,(hs.2 b (a b o e)).trans g⟩
 .obtain⟨E,g⟩:=I.base.there b o e h;exact⟨E,(hs.2 b (a b o e)).trans g⟩
 .by_cases t:j=i
  .subst t;rw[tM] at f;cases q:σ[j]? with
   |none=>rw[q] at f;cases f
   |some w=>rw[q] at f;cases f
  .rw[l5 (c7 t)] at f;obtain⟨w,r,q⟩:=K j y v g f M;refine⟨w,r,?_⟩;rcases q with⟨k,e⟩|⟨k,c,e,z⟩
   .have:y≠x:=λz=>t (xB hN g (by rw[z];exact L));exact .inl ⟨k,by simp[this,e]⟩
   .exact .inr ⟨k,c,e,z.sameBut hs (cne y c e)⟩
 .obtain⟨w,z⟩:=I.cell y c e;exact⟨w,z.sameBut hs (cne y c e)⟩
 .obtain⟨e,n,B,F,d⟩:=I.pin p G;exact⟨(hs.2 p.1 B).trans e,n,B,F,d⟩
 .refine (I.hok b D e).stay (λc w l q=>(hs.2 c ?_).trans q) (λ_ q=>q) λ_ _ q=>q;rintro rfl;rcases l with rfl|l
  .rw[I.free] at e;cases e
  .rw[I.free] at l;cases l
theorem Ud{x C:aE}{d:Option aE}(I:Inv X pins σ H s)(ox:cN X H x)(D:∀p∈pins,p.1≠x)(hx:Qy x C d s.heap):Inv X pins σ (aX H x (.ext (Qy x C d))) s:=by
 have i:∀b,H b≠aF->b≠x:=λb h z=>h (by rw[z];exact ox.free);refine⟨I.ok,I.os,I.bare,⟨I.base.keep,I.base.slot,λb o e n f=>?_,I.base.there,λb xs e=>?_,λb o u e=>?_,λb w e=>?_⟩,I.loc,I.cell,?_,λy c e=>?_,λp g=>?_,λb B e=>?_,I.len⟩
 .have:b≠x:=λz=>by
   rcases ox.new with q|q
   .exact f (by rw[z];exact q)
   .rw[<-z,e] at q;cases q
  rw[z6 this];exact I.base.free b o e n f
 .have q:=I.base.tups b xs e;rw[z6 (i b (by rw[q];simp))];exact q
 .have q:=I.base.frzs b o u e;rw[z6 (i b (by rw[q];simp))];exact q
 .obtain⟨a,q⟩:=I.base.tbls b w e;exact⟨a,by rw[z6 (i b (by rw[q];simp))];exact q⟩
 .rw[z6 (c7 ox.loc)];exact I.free
 .rw[z6 (ox.cel y c e)];exact I.freeC y c e
 .obtain⟨e,n,r⟩:=I.pin p g;have:p.1≠x:=(cM.mp g).elim (ox.pin p) (D p);exact⟨e,by rw[z6 this];exact n,r⟩
 .by_cases z:b=x
  .subst z;rw[z4] at e;cases e;obtain⟨A,F,E,G⟩:=id hx;refine⟨hx,⟨A,E⟩,λK J p k=>?_⟩;obtain⟨l,j,t,m⟩:=p;exact⟨l,j,k _ t,m⟩
  .rw[z6 z] at e;have v:∀c o,H c=aA o->aX H x (.ext (Qy x C d)) c=aA o:=λc o q=>by rw[z6 (i c (by rw[q];simp))];exact q
   exact (I.hok b B e).stay (λ_ _ _ q=>q) (λc q=>v c _ q) λc xs q=>v c _ q
end
section
variable {X:Cx}{D:DP}{W:XW}{Γ:Cn}{k:Nat}{pins:List (aE×a_)}{s:Shared}{σ:St}{H:Hp}{φ α:List aE}{τ:Sl}{μ:aI}{a b c e:aH}{pos:Pos}{E:Ends}{es:List aH}{fs:List De}
theorem UF(C:Sk D W Γ X k)(hc:Γ.calm=aB){x:aG}{n:Nat}{p0 p1:Pos}(hx:x∈Γ.G)(hg:Γ.gl x=.xcl n)(R:cW X D W (a::es) fs) :
  PS X (.Raise (aA (.Call (.Name x p0) (a::es) [] p1)) aF pos) (cZ D W (sRaise n fs)):=by
 rintro j s L H E I ⟨h,M,u,S,A,Y,p⟩;have q:=C.glo x hx;rw[hg] at q;obtain⟨C0,ad,hm,hex⟩:=q;have J:=R.stars;obtain⟨o,N,nm,P,bs,hd,sn,sub,ab,col,dd,k0,k1,k2,k3,k5,mN,V,U,T,Q⟩:=uw I.ok.mod.kin hex;have hb:o.contains (.type "BaseException")=aB:=Q.hasType l8.hasBase;have hp:(eU p1 (dC (a::es) X.env)).any (·.1)=aD:=zT J;refine wpAny_Raise_call_subT (nm:=nm) (q:=P) (C:=C0) (N:=N) (bs:=bs) (bm:=o) (hdct:=hd) (sn:=sn) (sub:=sub) (ab:=ab) (col:=col) (dd:=dd) (k0:=k0) (k1:=k1) (k2:=k2) (k3:=k3) (k5:=k5) (mN:=mN) l8 hb (I.ok.hd (C.clm hc)) hp T ?_;refine zR I (C.glb x hx) hm ⟨rfl,?_⟩ (C.dbG x hx);have B:aO a=aB:=by simp only[iX,bK] at J;exact J.1
 have O:=aY (wC R p1 j s L H (λy g=>∃i c b,aP M H b g/\aZ D h b g u L/\aL D h b g c/\aM D h b g i y/\aK D W h b g E (.grd (i.length<=a9) (.ex n [] u c))) I ⟨h,M,u,S,A,Y,(aK.out A p).mono λi v w H' st m q y d _=>⟨i,v,w,st,A.step st,m,d,q⟩⟩) (Q':=λl f=>l.length<=sizeLine/\f.heap.get? C0=aA (fY nm P C0 N bs o hd sn sub ab col dd k0 k1 k2 k3 k5 "ValueError.__new__")/\f.heap.Ns N mN/\lL f.heap zr o/\∀K e,nE f.heap K e (.ref C0) l->X.xe (.ref e) {f with heap:=K}) ?_
 .rw[z3 B] at O ⊢;exact mR (aY O λl f h1=>⟨rfl,h1⟩)
 .rintro l f ⟨y,g,t,r,i,c,b,st,z,Z,dl,q⟩;obtain⟨hl,q⟩:=aK.grd q;refine⟨?_,t.bk _ _ V,U.keeps t.bk,Q.keeps t.bk,λK e mk=>?_⟩
  .have e1:=dl.length;have e2:=r.length;have:=zf hl;rw[<-e2,<-e1];exact this
  .exact C.xe _ _ (PF t mk (aK.ex q (aP.refl _ _) Z z (.own C0 ad (.inl rfl)) rfl))
theorem d6.at{h:aT}{x T C:aE}{d:Option aE}{fl:aC}(t:d6 h x T cv d fl)(e:stC cv=.ref C):Qy x C d h:=by
 obtain⟨a,vs,j,i,ts,g,⟨f,c⟩,b,_⟩:=t;exact⟨a,vs,g,f.trans e,b,c⟩
theorem d6.ty{M:Model}{h:aT}{x T:aE}{cls:aC}{d:Option aE}{fl:aC}(t:d6 h x T cls d fl):nz M h (typeOf (.ref x)) (stC cls):=by
 obtain⟨c,vs,i,e,ts,b,⟨a,g⟩,f,_⟩:=t;exact a▸(Cs b).andThen .now
theorem d6.keeps{h g:aT}{x T:aE}{cls:aC}{d:Option aE}{fl:aC}(t:d6 h x T cls d fl)(k:∀b o,h.get? b=aA o->g.get? b=aA o):d6 g x T cls d fl:=by
 obtain⟨c,vs,s,e,ts,r,q,p,n,m,l,j,i,f,a⟩:=t;exact⟨c,vs,s,e,ts,k _ _ r,q,p,n,m,l,k _ _ j,i,f,a⟩
noncomputable def c9 (Γ:Cn)(x:aG)(c:Nat):Prop:=x∈Γ.G/\(x,c)∈Γ.cls/\((∃f,Γ.gl x=.xcf c f)\/Γ.gl x=.xcl c)/\c<40
noncomputable def ol(Γ:Cn)(x:aG)(c:Nat):Prop:=∃n,x∈Γ.G/\Γ.gl x=.xbt c n
noncomputable def Mw (Γ:Cn):Option aG->Option Nat->Prop
 |none,aF=>True
 |some e,aA j=>b7 Γ.N e=aA j/\Γ.cel.contains e=aD
 |_,_=>False
noncomputable def Ag (Γ:Cn)(t:aH)(cs:List Nat):Prop:=(∃x p c,t=.Name x p/\cs=[c]/\c9 Γ x c)\/
 ∃e d b a p1 l k j i h g f m pt,t=.Tuple [.Name e p1,.Name d l,.Name b k,.Name a j] m pt/\cs=[i,h,g,f]/\(c9 Γ e i\/ol Γ e i)/\(c9 Γ d h\/ol Γ d h)/\(c9 Γ b g\/ol Γ b g)/\(c9 Γ a f\/ol Γ a f)
noncomputable def rq (D:DP)(Γ:Cn)(k:Nat):List lw->List (List Nat×Option Nat×List Ds)->Prop
 |[],[]=>True
 |h::j,g::r=>(∃t nm d a f cs i b,h=.ExceptHandler (aA t) nm (d::a) f/\g=(cs,i,b)/\Ag Γ t cs/\(nm=aF\/∃x p c,t=.Name x p/\cs=[c]/\c9 Γ x c)/\Mw Γ nm i/\∀e,Sk D me {Γ with calm:=aD} e k->u4 e D me (d::a) b)/\rq D Γ k j r
 |_,_=>False
theorem c9.mg(C:Sk D W Γ X k){x:aG}{c:Nat}(h:c9 Γ x c):∃d,X.mg x=aA (.ref d)/\D.adr c=aA d:=by
 have q:=C.glo x h.1;rcases h.2.2.1 with⟨f,g⟩|g
 .rw[g] at q;obtain⟨d,ad,a⟩:=q;exact⟨d,a,ad⟩
 .rw[g] at q;obtain⟨d,ad,a,_⟩:=q;exact⟨d,a,ad⟩
theorem Ko{c kk:Nat}{n:String}(h:lG kk=aA n)(ne:c≠kk):zD kk c=aD:=by
 have e:kk=8\/kk=9:=by
  unfold lG at h;split at h
  .exact .inl ‹_›
  .split at h
   .exact .inr ‹_›
   .cases h
 have a:cC kk c=aD:=by
  cases q:cC kk c with
  |false=>rfl
  |true=>exact absurd (fJ q).symm ne
 rcases e with rfl|rfl<;>(show gX (cC _ c) _=aD;rw[a])
theorem XF(C:Sk D W Γ X k){x:aG}{c kk:Nat}{cv:aC}{f:List (Nat×T)}{b:aE}(ad:gJ D kk f cv)(d:c9 Γ x c)(g:X.mg x=aA (.ref b))(a:D.adr c=aA b):i4 X.K (stC cv) (.ref b)=aA (zD kk c):=by
 cases ad with
 |own Ck ad e=>rw[ua e];exact C.xmt kk x c d.2.1 d.2.2.2 Ck b ad g
 |blt n h m e=>
  have l:c≠kk:=λz=>by rw[z,m] at a;cases a
  rw[Ko h l,e];have q:=C.xmt c x c d.2.1 d.2.2.2 b b a g;unfold i4 at q ⊢;split at q
  .rename_i j;rw[if_pos j];unfold sJ at q ⊢;dsimp only at q ⊢;split at q
   .rename_i i;rw[if_pos i];unfold lG at h;split at h
    .cases h;rfl
    .split at h
     .cases h;rfl
     .cases h
   .cases q
  .cases q
theorem vL{K:bH}:lX K (.type "KeyError") (.type "BaseException")=aA aB/\lX K (.type "ZeroDivisionError") (.type "BaseException")=aA aB/\lX K (.type "KeyError") (.type "KeyError")=aA aB/\lX K (.type "KeyError") (.type "ZeroDivisionError")=aA aD/\lX K (.type "ZeroDivisionError") (.type "KeyError")=aA aD/\lX K (.type "ZeroDivisionError") (.type "ZeroDivisionError")=aA aB:=by
 refine⟨?_,?_,?_,?_,?_,?_⟩<;>(simp only[lX];kernel_rfl)
theorem uf:DC "KeyError"=aB/\DC "ZeroDivisionError"=aB:=by decide +kernel
theorem NG{kk c:Nat}(b:c=8\/c=9)(ne:kk≠c):zD kk c=aD:=by
 have a:cC kk c=aD:=by
  cases q:cC kk c with
  |false=>rfl
  |true=>exact absurd (fJ q) ne
 show gX (cC kk c) _=aD;rw[a];rcases b with rfl|rfl<;>(cases cC kk 1<;>cases dX 10 kk<;>cases dX kk 39<;>rfl)
theorem Sf(C:Sk D W Γ X k){c kk:Nat}{n:String}{cv:aC}{b:List (Nat×T)}(ad:gJ D kk b cv)(a:lG c=aA n)(j:D.adr c=aF):i4 X.K (stC cv) (.type n)=aA (zD kk c):=by
 have d:(c=8/\n="KeyError")\/(c=9/\n="ZeroDivisionError"):=by
  unfold lG at a;split at a
  .cases a;exact .inl ⟨‹_›,rfl⟩
  .split at a
   .cases a;exact .inr ⟨‹_›,rfl⟩
   .cases a
 cases ad with
 |own Ck ad e=>
  rw[ua e];have f:=C.xcx _ _ ad;have i:kk≠c:=λz=>by rw[z,j] at ad;cases ad
  rw[NG (d.imp (·.1) (·.1)) i];unfold i4 sJ;rcases d with⟨_,rfl⟩|⟨_,rfl⟩
  .rw[vL.1,if_pos (show (aA aB==aA aB)=aB from rfl)];dsimp only;rw[if_pos uf.1];exact f.nb.1
  .rw[vL.2.1,if_pos (show (aA aB==aA aB)=aB from rfl)];dsimp only;rw[if_pos uf.2];exact f.nb.2
 |blt m h l e=>
  have g:(kk=8/\m="KeyError")\/(kk=9/\m="ZeroDivisionError"):=by
   unfold lG at h;split at h
   .cases h;exact .inl ⟨‹_›,rfl⟩
   .split at h
    .cases h;exact .inr ⟨‹_›,rfl⟩
    .cases h
  rw[e];unfold i4 sJ;rcases d with⟨rfl,rfl⟩|⟨rfl,rfl⟩
  .rw[vL.1,if_pos (show (aA aB==aA aB)=aB from rfl)];dsimp only;rw[if_pos uf.1];rcases g with⟨rfl,rfl⟩|⟨rfl,rfl⟩
   .exact vL.2.2.1
   .exact vL.2.2.2.2.1
  .rw[vL.2.1,if_pos (show (aA aB==aA aB)=aB from rfl)];dsimp only;rw[if_pos uf.2];rcases g with⟨rfl,rfl⟩|⟨rfl,rfl⟩
   .exact vL.2.2.2.1
   .exact vL.2.2.2.2.2
theorem og(C:Sk D W Γ X k){x:aG}{c kk:Nat}{cv:aC}{a:List (Nat×T)}(ad:gJ D kk a cv)(h:c9 Γ x c\/ol Γ x c):∃u:aC,i4 X.K (stC cv) u=aA (zD kk c)/\∀{p:Pos}{e:aE}{s:aW}{σ:St}{H:Hp}{Q:aC->aW->Prop}{E:aC->aW->Prop},Inv (Cx.han (Cx.pin' X pins) e) [] σ H s->Q u s->wpAny (aR X.prog X.w) (X.A.mark (aA (.ref e))) (eval (.Name x p) X.env) Q E s:=by
 rcases h with h|⟨n,b,o⟩
 .obtain⟨r,f,d⟩:=h.mg C;exact⟨.ref r,XF C ad h f d,λI q=>zR (X:=Cx.han (Cx.pin' X pins) _) I (C.glb x h.1) f q (C.dbG x h.1)⟩
 .have q:=C.glo x b;rw[o] at q;obtain⟨m,l,j,i,g⟩:=q;exact⟨.type n,Sf C ad i g,λI q=>qH (X:=Cx.han (Cx.pin' X pins) _) I (C.glb x b) m l q j (C.dbG x b)⟩
theorem SG(C:Sk D W Γ X k){x:aE}{cv:aC}{kk:Nat}{a:List (Nat×T)}{t:aH}{cs:List Nat}{s:aW}{σ:St}{H:Hp}{Q:Bool->aW->Prop}{E F:aC->aW->Prop}(ad:gJ D kk a cv)(G:Ag Γ t cs)(I:Inv (Cx.han (Cx.pin' X pins) x) [] σ H s)(ty:nz (aR X.prog X.w) s.heap (typeOf (.ref x)) (stC cv))
  (q:∀h',(∀b o,s.heap.get? b=aA o->h'.get? b=aA o)->Q (bR kk cs) {s with heap:=h'}):wpAny (aR X.prog X.w) (X.A.mark (aA (.ref x))) (eval t X.env) (λc d=>wpAny (aR X.prog X.w) (X.A.mark (aA (.ref x))) (excMatches (.ref x) c) Q E d) F s:=by
 rcases G with⟨y,p,c,rfl,rfl,J⟩|⟨x1,x2,x3,x4,p1,p2,p3,p4,v,r,n,m,kt,pt,rfl,rfl,P,O,N,L⟩
 .obtain⟨u,B,ld⟩:=og (pins:=pins) C ad (.inl J);refine ld I ?_;refine (DB (M:=aR X.prog X.w) I.kIn ty B).at ?_;have e:bR kk [c]=zD kk c:=by
   rw[vm];show gX _ aD=_;cases zD kk c<;>rfl
  have:=q s.heap λ_ _ e=>e;rw[e] at this;exact this
 .obtain⟨j,V,d1⟩:=og (pins:=pins) C ad P;obtain⟨i,U,d2⟩:=og (pins:=pins) C ad O;obtain⟨g,S,Z⟩:=og (pins:=pins) C ad N;obtain⟨f,R,Y⟩:=og (pins:=pins) C ad L;refine wpAny_Tuple_spliced ?_;refine l9 (d1 I (l9 (d2 I (l9 (Z I (l9 (Y I (pE ⟨by rw[eZ];show 4<=_;omega,?_⟩))))))));have l:∀b o,s.heap.get? b=aA o->(s.heap.push {cls:=.type "tuple",data:=.seq [j,i,g,f].toArray}).get? b=aA o:=λb o e=>bN _ e;have z:C_ X.K (stC cv) [j,i,g,f]=aA (bR kk [v,r,n,m]):=by
   simp only[C_,V,U,S,R,vm];show aA _=aA (gX _ (gX _ (gX _ (gX _ aD))));cases zD kk v<;>cases zD kk r<;>cases zD kk n<;>cases zD kk m<;>rfl
  refine (PySem.W.exm_tup4 (M:=aR X.prog X.w) (h:=s.heap.push {cls:=.type "tuple",data:=.seq [j,i,g,f].toArray}) (tp:=s.heap.objs.size) (I.kIn.keeps l) (ty.keeps l) (tu rfl rfl) z).at ?_;exact q _ l
theorem Ky(C:Sk D W Γ X k){x Tt:aE}{cv:aC}{d:Option aE}{kk:Nat}{K:List (Nat×T)}(ad:gJ D kk K cv):∀{hs:List lw}{r:List (List Nat×Option Nat×List Ds)}{s1:aW}{I:St}{u:Hp}{l:List aE}{H:Sl}{B:aI},rq D Γ k hs r->Inv (Cx.pin' X pins) [] I u s1->cN (Cx.pin' X pins) u x->cN (Cx.pin' X pins) u Tt->d6 s1.heap x Tt cv d .none->
  bO D φ l u K d->aL D φ l u B->aZ D φ l u H I->aK D W φ l u E (U3 r kk K H B)->wpAny (aR X.prog X.w) X.A (handleBy (.ref x) X.env hs) (SP X pins E) X.xe s1
 |[],[],s1,I,u,l,H,B,_,R,O,oT,Y,xd,m1,M,p=>by
  obtain⟨e0,out,L,F⟩:=C.frm;refine wpAny_handleBy_nil ?_;unfold CP;obtain⟨oe,vs',a0,oT',ts,ho,hcc,hd,hv0,hv1,hT,hoT,hdT,h3,_⟩:=id Y;refine wpAny_bind (gD ho hd hv1 ?_);rw[if_neg (show ¬((b9 Tt==dP)=aB) from by simp)];have go:∀{t2:aW},XP X W (.ref x) t2->wpAny (aR X.prog X.w) X.A (throw (b9 x):Sem Flow) (SP X pins E) X.xe t2:=λ{t2} xp=>r6 (C.xe _ _ xp);have un:∀b,cN (Cx.pin' X pins) u b->cN X u b:=λb o=>⟨o.free,o.loc,o.nfs,o.new,o.cel,λp hp=>o.pin p (d9 _ hp)⟩;have fin:wpAny (aR X.prog X.w) X.A (lO (.ref x) X.env.frame) (λ_ t2=>XP X W (.ref x) t2) X.xe s1:=by
   refine zF ((zk R).pins_of λp hp=>absurd hp (by simp)) (un x O) (un Tt oT) Y λh4 I4 tr4=>?_;refine⟨x,cv,d,I,u,aA Tt,cF L,rfl,I4,un x O,λt ht=>?_,?_,.inr ⟨L,F.fe,rfl⟩,aK.ex p (aP.refl _ _) m1 M ad xd⟩
   .have:t=Tt:=by simpa using ht
    rw[this];exact un Tt oT
   .rw[F.fe] at tr4;exact tr4
  first
   |exact wpAny_bind (aY fin λ_ t2 xp=>go xp)
   |exact wpAny_bind (wpAny_pure (wpAny_bind (aY fin λ_ t2 xp=>go xp)))
 |[],_::_,_,_,_,_,_,_,h,_,_,_,_,_,_,_,_=>h.elim
 |_::_,[],_,_,_,_,_,_,h,_,_,_,_,_,_,_,_=>h.elim
 |hd::hs',g::r',s1,I,u,l,H,B,h,R,O,oT,Y,xd,m1,M,p=>by
   obtain⟨⟨t,nm,b0,suite',pp,cs,i,vs,rfl,rfl,ht,hown,hnm,hsu⟩,hrest⟩:=h;have IX:Inv (Cx.han (Cx.pin' X pins) x) [] I u s1:=xf R;refine DN (Er (SG C ad ht IX (d6.ty Y) λh' hkp=>?_)) (λq=>by cases q);have R:Inv (Cx.pin' X pins) [] I u {s1 with heap:=h'}:=R.kept (t':=s1.toks) hkp;have Y:=Y.keeps hkp;have p:aK D W φ l u E (.br (bR kk cs) (AM i vs kk K H B) (U3 r' kk K H B)):=p;rcases aK.br p with⟨hb,p⟩|⟨hb,p⟩
   .rw[hb];obtain⟨Q,q,h1,h2,h3,h4,h5⟩:=p;have C2:∀{X':Cx},X'=Cx.han (Cx.pin' X pins) x->Sk D me {Γ with calm:=aD} X' k:=λ{X'} hX'=>by
     subst hX';obtain⟨e0,out,L,F⟩:=C.frm;exact {hK:=C.hK,hN:=C.hN,nd:=C.nd,vis:=C.vis,dbg:=C.dbg,dbG:=C.dbG,glb:=C.glb,glo:=C.glo,glU:=C.glU,cel:=C.cel,isi:=C.isi,fld:=C.fld,xcx:=C.xcx,ocx:=C.ocx,clv:=C.clv,clm:=(λz=>by cases z),rom:=(λz=>by cases z),rmh:=⟨C.rmh.dp,C.rmh.un⟩,xe:=(λe s p=>by obtain⟨_,_,_,_,_,_,_,_,_,_,_,_,_,z⟩:=p;exact z),frm:=⟨e0,out,L,F.stk,F.f0,F.fe⟩,lam:=C.lam,kfz:=C.kfz,sto:=C.sto,lcl:=C.lcl,pso:=DA,xmt:=C.xmt}
    have okX:X.Ok:=VT R.ok;cases nm with
    |none=>
     cases i with
     |some j=>exact dL hnm
     |none=>
      refine Ey (zF (X:=Cx.pin' X pins) R O oT Y λh3' I3 tr3=>?_);have S:=qh (hsu _ (C2 rfl)) [] _ _ _ {nx:=E.nx,rt:=E.rt} (xf (x:=x) I3) ⟨φ,l,H,B,M,m1,_,q,h1,(λ_ _ z=>z.elim),(λ_ _ z=>z.elim),h4,(λ_ _ _ _ z=>z.elim)⟩;refine cR S (λf s6 h6=>?_) (λ_ _ z=>z.elim);cases f with
      |next=>obtain⟨a,G,U,J⟩:=h6;exact⟨a,G,zk (jh R.ok U),J⟩
      |brk=>obtain⟨a,G,U,J⟩:=h6;exact J.elim
      |cont=>obtain⟨a,G,U,J⟩:=h6;exact J.elim
      |ret w=>obtain⟨y,a,G,U,r,J⟩:=h6;exact⟨y,a,G,zk (jh R.ok U),r,J⟩
    |some e=>
     cases i with
     |none=>exact dL hnm
     |some j=>
      obtain⟨hidx,hce⟩:=hnm;obtain⟨Ck,adk,ecv⟩:∃Ck,D.adr kk=aA Ck/\stC cv=.ref Ck:=by
       cases ad with
       |own Ck ad e=>exact⟨Ck,ad,ua e⟩
       |blt n hn1 hn2 e=>
        rcases hown with z|⟨x0,p0,c,_,rfl,hc⟩
        .cases z
        .obtain⟨Cc,_,hac⟩:=hc.mg C;have:bR kk [c]=aD:=by
          rw[vm,Ko hn1 (λz=>by rw[z,hn2] at hac;cases hac)]
         rw[this] at hb;cases hb
      refine codeAny_handlers_suite_as (zF (X:=Cx.pin' X pins) R O oT Y λh3' I3 tr3=>?_);have I4:=Ud (C:=Ck) (d:=d) I3 O (λp hp=>absurd hp (by simp)) (d6.at tr3 ecv);have Z:aP l u l (aX u x (.ext (Qy x Ck d))):=aP.new (z7 O.free);have P:X.env.scope.names.lookup e=aA .local:=C.lcl e (qx hidx) hce;have hNd:X.N.Nodup:=by rw[C.hN];exact C.nd
      have hNi:X.N[j]?=aA e:=by rw[C.hN];exact qN hidx
      refine Zy (X:=Cx.han (Cx.pin' X pins) x) (i:=j) (v:=.ref x) (xf I4) hNd hNi (.inl P) rfl (λs5 I5=>?_) (.inr P);have xd5:=xd.lk (Z.lk (φ:=φ));have den:a6 D φ l (aX u x (.ext (Qy x Ck d))) (.exc kk K) (.ref x):=⟨x,Ck,d,rfl,zb m1 O.free,za m1 O.free,adk,z4,by cases d<;>exact xd5⟩;have sr5:=(M.step Z).set (i:=j) den;have m5:=m1.new (z7 (o:=HO.ext (Qy x Ck d)) O.free);have S:=qh (hsu _ (C2 rfl)) [] s5 _ _ {nx:=λa G=>E.nx (a.set j aF) G,rt:=E.rt} I5 ⟨φ,l,_,B,sr5,m5,_,q,(λτ2 μ2 z α' G a st m r=>h1 _ μ2 z α' G _ (Z.trans st) m r.unset),(λ_ _ z=>z.elim),(λ_ _ z=>z.elim),(λt μ2 z α' G v st m dd=>h4 t μ2 z α' G v (Z.trans st) m dd),(λ_ _ _ _ z=>z.elim)⟩;have hkf:(X.env.scope.kind==.class || (X.env.scope.kind==.module&&X.env.locals != X.env.globals))=aD:=by rw[okX.kind];rfl
      refine cR S (λf s6 h6=>?_) (λ_ _ z=>z.elim);have fin:∀{V H6},Inv (Cx.han (Cx.pin' X pins) x) [] V H6 s6->(∀s7,Inv X pins (V.set j aF) H6 s7->SP X pins E f s7)->wpAny (aR X.prog X.w) X.A (do bindName X.env e .none;unbindBehindTheSuite X.env e pp) (λ_ s7=>SP X pins E f s7) X.xe s6:=λ{V H6} I6 q=>by
       have I7:Inv X pins V H6 s6:=zk (jh (HS okX) I6);obtain⟨m,hn,hl⟩:=I7.loc;refine wpAny_nameGoes_keeps P hn hkf λh7 u7 hn7 hs7=>?_;exact q _ (UD I7 hNd hNi hl hn7 hs7)
      cases f with
      |next=>obtain⟨a,G,U,J⟩:=h6;exact fin U λs7 I7=>⟨_,G,I7,J⟩
      |brk=>obtain⟨a,G,U,J⟩:=h6;exact J.elim
      |cont=>obtain⟨a,G,U,J⟩:=h6;exact J.elim
      |ret w=>obtain⟨y,a,G,U,r,J⟩:=h6;exact fin U λs7 I7=>⟨y,_,G,I7,r,J⟩
   .rw[hb];exact Ky C ad hrest R O oT Y xd m1 M p
theorem Oe(C:Sk D W Γ X k)(hc:Γ.calm=aB){body:List bB}{us:List Ds}{V:lw}{hs:List lw}{r:List (List Nat×Option Nat×List Ds)}(hb:∀Y W',Sk D W' Γ Y k->u4 Y D W' body us)(hh:rq D Γ k (V::hs) r) :
  PS X (.Try body (V::hs) [] [] pos) (cZ D W (sTry us r)):=by
 rintro a s σ H E I ⟨o,N,τ,μ,sr,mr,Q,q,j,U,T,S,h5⟩;obtain⟨e0,out,L,F⟩:=C.frm;have Z:iN (Cx.pin' X a) e0 out L:=⟨F.stk,F.f0,F.fe⟩;generalize R:(λ(cls:aC) (d:Option aE) (b:St) (c:Hp)=>∃n fs g h i,U3 r n fs g h Q/\gJ D n fs cls/\aP N H i c/\aL D o i c h/\aZ D o i c g b/\bO D o i c fs d:XW)=u;have C1:Sk D u Γ ((Cx.pin' X a).wish (XP (Cx.pin' X a) u)) k:={hK:=C.hK,hN:=C.hN,nd:=C.nd,vis:=C.vis,dbg:=C.dbg,dbG:=C.dbG,glb:=C.glb,glo:=C.glo,glU:=C.glU,cel:=C.cel,isi:=C.isi,fld:=C.fld,xcx:=C.xcx,ocx:=C.ocx,clv:=C.clv,clm:=C.clm,rom:=C.rom,rmh:=⟨C.rmh.dp,C.rmh.un⟩,xe:=λe s p=>wF p,frm:=⟨e0,out,L,F.stk,F.f0,F.fe⟩,lam:=C.lam,kfz:=C.kfz,sto:=C.sto,lcl:=C.lcl,pso:=jd Z I.ok.frames,xmt:=C.xmt};have B:=qh (hb _ u C1) [] s σ H E ((ZE I).wish _) ⟨o,N,τ,μ,sr,mr,_,q,j,U,T,S,λn fs g h z v c b cv d st m K ad xd=>by rw[<-R];exact⟨n,fs,g,h,v,z,ad,st,m,K,xd⟩⟩;refine Dd (cR B (λf t j=>?_) (λe1 t M=>?_))
 .cases f with
  |next=>obtain⟨b,c,l,q⟩:=j;exact WO a t b c E (zk l.unwish) q
  |brk=>obtain⟨b,c,l,q⟩:=j;exact⟨b,c,zk l.unwish,q⟩
  |cont=>obtain⟨b,c,l,q⟩:=j;exact⟨b,c,zk l.unwish,q⟩
  |ret w=>obtain⟨y,b,c,l,r,q⟩:=j;exact⟨y,b,c,zk l.unwish,r,q⟩
 have M:XP (Cx.pin' X a) u e1 t:=M;refine je (X:=Cx.pin' X a) Z I.ok.frames M λx cls d σ1 H1 Tt h' ee I1 O P tr w=>?_;subst ee;refine zF (X:=Cx.pin' X a) (s:={t with heap:=h'}) I1 O P tr λh2' I2 A=>?_;rw[<-R] at w;obtain⟨n,fs,g,h,i,z,ad,G,m1,J,xd⟩:=w;exact Ky C ad hh I2 O P A xd m1 J (aK.step ⟨Q,z,j,U,T,S,h5⟩ G)
end
structure cO where
 e:Cn->aH->Option De
 t:Cn->aH->Option Dt
 w:Cn->aH->Option Dt
 i:Cn->aH->Option Di
 o:Cn->aH->Option De
 s:Cn->bB->Option Ds
noncomputable abbrev ER:=cO->Cn->aH->Option De
noncomputable abbrev TR:=cO->Cn->aH->Option Dt
noncomputable abbrev IR:=cO->Cn->aH->Option Di
noncomputable abbrev SR:=cO->Cn->bB->Option Ds
structure cK where
 e:List ER
 t:List TR
 w:List TR
 i:List IR
 o:List ER
 s:List SR
noncomputable def WE {α β:Type}:List (cO->Cn->α->Option β)->cO->Cn->α->Option β
 |[],_,_,_=>aF
 |f::fs,r,a,e=>match f r a e with
  |some d=>aA d
  |none=>WE fs r a e
noncomputable def aN (R:cK):Nat->cO
 |0=>⟨λ_ _=>aF,λ_ _=>aF,λ_ _=>aF,λ_ _=>aF,λ_ _=>aF,λ_ _=>aF⟩
 |n+1=>⟨WE R.e (aN R n),WE R.t (aN R n),WE R.w (aN R n),WE R.i (aN R n),WE R.o (aN R n),WE R.s (aN R n)⟩
noncomputable def Fa:aH->Bool
 |.Tuple _ _ _=>aB
 |_=>aD
noncomputable def oj (tg e:aH):Bool:=match e with
 |.Call (.Name x _) _ _ _=>(x != ("enumerate":aG)&&x != ("zip":aG)) || Fa tg
 |.Call (.Attribute _ m _) _ _ _=>m != ("items":aG) || Fa tg
 |_=>aB
structure bP(D:DP)(r:cO):Prop where
 e:∀{X W Γ k e f},Ck D W Γ X k->r.e Γ e=aA f->PE X e (aV D W f)
 t:∀{X W Γ k e f},Ck D W Γ X k->r.t Γ e=aA f->PT X e (dZ D W f)
 w:∀{X W Γ k e f},Ck D W Γ X k->r.w Γ e=aA f->PW X e (dZ D W f)
 i:∀{X W Γ k tg e f},Ck D W Γ X k->oj tg e=aB->r.i Γ e=aA f->PI X tg e (gU D W f)
 o:∀{X W Γ k e f},Ck D W Γ X k->r.o Γ e=aA f->PE X e (aV D W f)
 s:∀{X W Γ k e f},Sk D W Γ X k->r.s Γ e=aA f->PS X e (cZ D W f)
noncomputable def cA (D:DP)(f:ER):Prop:=∀r,bP D r->∀{X W a k e d},Ck D W a X k->f r a e=aA d->PE X e (aV D W d)
noncomputable def oF (D:DP)(f:TR):Prop:=∀r,bP D r->∀{X W a k e d},Ck D W a X k->f r a e=aA d->PT X e (dZ D W d)
noncomputable def IL (D:DP)(f:TR):Prop:=∀r,bP D r->∀{X W a k e d},Ck D W a X k->f r a e=aA d->PW X e (dZ D W d)
noncomputable def oM (D:DP)(f:IR):Prop:=∀r,bP D r->∀{X W a k b e d},Ck D W a X k->oj b e=aB->f r a e=aA d->PI X b e (gU D W d)
noncomputable def m9 (D:DP)(f:SR):Prop:=∀r,bP D r->∀{X W a k e d},Sk D W a X k->f r a e=aA d->PS X e (cZ D W d)
noncomputable def yJ{α:Type}(P:α->Prop):List α->Prop
 |[]=>True
 |f::fs=>P f/\yJ P fs
structure b8(D:DP)(R:cK):Prop where
 e:yJ (cA D) R.e
 t:yJ (oF D) R.t
 w:yJ (IL D) R.w
 i:yJ (oM D) R.i
 o:yJ (cA D) R.o
 s:yJ (m9 D) R.s
theorem v5{α β:Type}{P:(cO->Cn->α->Option β)->Prop}{C:Prop}{e:α}{d:β}:∀{fs:List (cO->Cn->α->Option β)},yJ P fs->(∀f,P f->f r Γ e=aA d->C)->WE fs r Γ e=aA d->C
 |[],_,_,h=>by cases h
 |f::fs,a,k,h=>by
  unfold WE at h;cases q:f r Γ e with
  |some b=>rw[q] at h;cases h;exact k f a.1 q
  |none=>rw[q] at h;exact v5 a.2 k h
theorem qw{R:cK}(H:b8 D R):∀n,bP D (aN R n)
 |0=>⟨λ_ h=>(by cases h),λ_ h=>(by cases h),λ_ h=>(by cases h),λ_ _ h=>(by cases h),λ_ h=>(by cases h),λ_ h=>(by cases h)⟩
 |n+1=>⟨λC h=>v5 H.e (λf p q=>p _ (qw H n) C q) h,λC h=>v5 H.t (λf p q=>p _ (qw H n) C q) h,λC h=>v5 H.w (λf p q=>p _ (qw H n) C q) h,λC a h=>v5 H.i (λf p q=>p _ (qw H n) C a q) h,λC h=>v5 H.o (λf p q=>p _ (qw H n) C q) h,λC h=>v5 H.s (λf p q=>p _ (qw H n) C q) h⟩
noncomputable def gd{α:Type}(b:Bool)(o:Option α):Option α:=match b with
 |true=>o
 |false=>aF
theorem z8{o:Option α}(h:gd b o=aA x):b=aB/\o=aA x:=by
 cases b with
 |true=>exact⟨rfl,h⟩
 |false=>cases h
theorem aS{α β:Type}{o:Option α}{f:α->Option β}{x:β}(h:o.bind f=aA x):∃a,o=aA a/\f a=aA x:=rb.mp h
noncomputable def z9 {α β:Type}(f:α->Option β):List α->Option (List β)
 |[]=>aA []
 |a::r=>(f a).bind λb=>(z9 f r).bind λbs=>aA (b::bs)
noncomputable def lb (r:cO)(Γ:Cn)(es:List aH):Option (List De):=z9 (λe=>gd (aO e) (r.e Γ e)) es
section
variable {D:DP}{r:cO}{X:Cx}{W:XW}{Γ:Cn}{k:Nat}
theorem wB(h:bP D r)(C:Ck D W Γ X k):∀{es:List aH}{fs:List De},lb r Γ es=aA fs->cW X D W es fs
 |[],fs,e=>by cases e;trivial
 |a::es,fs,e=>by
  obtain⟨f,g,e⟩:=aS e;obtain⟨gs,d,e⟩:=aS e;cases e;obtain⟨c,b⟩:=z8 g;exact⟨c,h.e C b,wB h C d⟩
theorem ji(h:bP D r)(C:Ck D W Γ X k):∀{es:List aH}{fs:List Dt},z9 (r.t Γ) es=aA fs->Xe X D W es fs
 |[],fs,e=>by cases e;trivial
 |a::es,fs,e=>by
  obtain⟨f,c,e⟩:=aS e;obtain⟨gs,b,e⟩:=aS e;cases e;exact⟨h.t C c,ji h C b⟩
theorem zS(h:bP D r)(C:Sk D W Γ X k):∀{es:List bB}{fs:List Ds},z9 (r.s Γ) es=aA fs->u4 X D W es fs
 |[],fs,e=>by cases e;trivial
 |a::es,fs,e=>by
  obtain⟨f,c,e⟩:=aS e;obtain⟨gs,b,e⟩:=aS e;cases e;exact⟨h.s C c,zS h C b⟩
end
noncomputable def jp:GM->Bool
 |.none=>aB
 |_=>aD
theorem O5(h:jp g=aB):g=.none:=by cases g<;>first|rfl|cases h
theorem zA{Γ:Cn}(h:jp (Γ.look x)=aB):x∈Γ.G/\Γ.gl x=.none:=qL (O5 h) (by intro z;cases z)
structure C0 where
 x:aG
 as:List aH
 p0:Pos
 pc:Pos
noncomputable def kK:aH->Option C0
 |.Call (.Name x b) c [] a=>aA ⟨x,c,b,a⟩
 |_=>aF
theorem qc(h:kK e=aA q):e=.Call (.Name q.x q.p0) q.as [] q.pc:=by
 unfold kK at h;split at h
 .cases h;rfl
 .cases h
structure IN where
 o:aH
 m:aG
 pa:Pos
 as:List aH
 pc:Pos
noncomputable def yO:aH->Option IN
 |.Call (.Attribute o m b) c [] a=>aA ⟨o,m,b,c,a⟩
 |_=>aF
theorem wI(h:yO e=aA q):e=.Call (.Attribute q.o q.m q.pa) q.as [] q.pc:=by
 unfold yO at h;split at h
 .cases h;rfl
 .cases h
structure C1 where
 a:aH
 op:dA
 b:aH
 p:Pos
noncomputable def rC:aH->Option C1
 |.Compare a [op] [b] p=>aA ⟨a,op,b,p⟩
 |_=>aF
theorem Yn(h:rC e=aA q):e=.Compare q.a [q.op] [q.b] q.p:=by
 unfold rC at h;split at h
 .cases h;rfl
 .cases h
structure Ck1 where
 x:aG
 p0:Pos
 a:aH
 ky:aG
 v:aH
 pk:Pos
 pc:Pos
noncomputable def rj:aH->Option Ck1
 |.Call (.Name x d) [a] [⟨aA e,v,b⟩] c=>aA ⟨x,d,a,e,v,b,c⟩
 |_=>aF
theorem Yh(h:rj e=aA q):e=.Call (.Name q.x q.p0) [q.a] [⟨aA q.ky,q.v,q.pk⟩] q.pc:=by
 unfold rj at h;split at h
 .cases h;rfl
 .cases h
structure Cp1 where
 elt:aH
 tg:aH
 iter:aH
 ifs:List aH
 sc:Scope
 p:Pos
noncomputable def W6:aH->Option Cp1
 |.ListComp b [⟨c,iter,a,0⟩] d p=>aA ⟨b,c,iter,a,d,p⟩
 |_=>aF
theorem uy(h:W6 e=aA q):e=.ListComp q.elt [⟨q.tg,q.iter,q.ifs,0⟩] q.sc q.p:=by
 unfold W6 at h;split at h
 .cases h;rfl
 .cases h
noncomputable def X4:aH->Bool
 |.Constant .none _ _=>aB
 |_=>aD
theorem U4(h:X4 e=aB):∃j p,e=.Constant .none j p:=by
 unfold X4 at h;split at h
 .exact⟨_,_,rfl⟩
 .cases h
noncomputable def Xf:aH->Bool
 |.Constant (.bool aB) _ _=>aB
 |_=>aD
theorem Ue(h:Xf e=aB):∃j p,e=.Constant (.bool aB) j p:=by
 unfold Xf at h;split at h
 .exact⟨_,_,rfl⟩
 .cases h
noncomputable def oa:aH->Option (aG×Pos)
 |.Name x p=>aA (x,p)
 |_=>aF
theorem V3(h:oa e=aA q):e=.Name q.1 q.2:=by
 unfold oa at h;split at h
 .cases h;rfl
 .cases h
noncomputable def rh:aH->Option (aH×aH×Pos)
 |.Subscript a b p=>aA (a,b,p)
 |_=>aF
theorem XZ(h:rh e=aA q):e=.Subscript q.1 q.2.1 q.2.2:=by
 unfold rh at h;split at h
 .cases h;rfl
 .cases h
noncomputable def ZQ{α:Type}:List α->Option α
 |[a]=>aA a
 |_=>aF
theorem we{l:List α}(h:ZQ l=aA a):l=[a]:=by
 match l with
 |[]=>cases h
 |[b]=>cases h;rfl
 |_::_::_=>cases h
noncomputable def AS{α:Type}:List α->Option (α×α)
 |[a,b]=>aA (a,b)
 |_=>aF
theorem Xt{l:List α}{q:α×α}(h:AS l=aA q):l=[q.1,q.2]:=by
 match l with
 |[]=>cases h
 |[_]=>cases h
 |[b,c]=>cases h;rfl
 |_::_::_::_=>cases h
theorem zp(h:(a&&b)=aB):a=aB/\b=aB:=by
 cases a with
 |true=>exact⟨rfl,h⟩
 |false=>cases h
theorem qp{x:aG}(h:(x==y)=aB):x=y:=beq_iff_eq.mp h
noncomputable def F3:Const->Option De
 |.int i=>aA (eC (.int i))
 |.bool b=>aA (eC (.bl b))
 |.none=>aA (eC .non)
 |.str x=>aA (eC (.str x))
 |_=>aF
theorem RO{D:DP}{W:XW}(h:F3 c=aA d):PE X (.Constant c j p) (aV D W d):=by
 cases c with
 |int i=>cases h;exact NP
 |bool i=>cases h;exact Mb
 |none=>cases h;exact Ng
 |str i=>cases h;exact Nq
 |_=>cases h
noncomputable def FW:GM->Option T
 |.cst t=>aA t
 |_=>aF
theorem S0(h:FW g=aA t):g=.cst t:=by cases g<;>first|(cases h;rfl)|cases h
noncomputable def Bi (Γ:Cn)(x:aG):Option De:=match b7 Γ.N x with
 |some i=>aA (eV i)
 |none=>(FW (Γ.look x)).bind λt=>aA (eC t)
theorem SH{D:DP}{X:Cx}{W:XW}{k:Nat}(C:Ck D W Γ X k){x:aG}{p:Pos}(h:Bi Γ x=aA d):PE X (.Name x p) (aV D W d):=by
 unfold Bi at h;cases q:b7 Γ.N x with
 |some i=>rw[q] at h;cases h;exact Oy C q
 |none=>
  rw[q] at h;obtain⟨t,b,h⟩:=aS h;cases h;obtain⟨a,c⟩:=qL (S0 b) (by intro z;cases z);exact NQ C a c
noncomputable def Ca (r:cO)(Γ:Cn):List dA->List aH->Option (List (dA×De))
 |[],[]=>aA []
 |op::a,e::es=>gd (kD op) ((r.e Γ e).bind λf=>(Ca r Γ a es).bind λb=>aA ((op,f)::b))
 |_,_=>aF
theorem Hv{r:cO}{W:XW}{Γ:Cn}{k:Nat}(H:bP D r)(C:Ck D W Γ X k):∀{ops:List dA}{es:List aH}{ps:List (dA×De)},Ca r Γ ops es=aA ps->U9 X D W es ps/\ps.map (·.1)=ops/\ps.all (λp=>kD p.1)=aB
 |[],[],ps,h=>by cases h;exact⟨trivial,rfl,rfl⟩
 |[],_::_,ps,h=>by cases h
 |_::_,[],ps,h=>by cases h
 |op::ops,e::es,ps,h=>by
  obtain⟨d,h⟩:=z8 h;obtain⟨f,i,h⟩:=aS h;obtain⟨j,g,h⟩:=aS h;cases h;obtain⟨c,b,a⟩:=Hv H C g;exact⟨⟨H.e C i,c⟩,by simp[b],by simp[d,a]⟩
noncomputable def t8 (r:cO)(Γ:Cn)(a:aH)(ops:List dA)(es:List aH):Option De:=(r.e Γ a).bind λf=>(match ops,es with
 |[op],[b]=>gd (qU op b) ((r.e Γ b).bind λg=>aA (eCmp op f g))
 |_::_::_,_::_::_=>(Ca r Γ ops es).bind λc=>aA (eCh f c)
 |_,_=>aF)
theorem Yg{D:DP}{X:Cx}{W:XW}{Γ:Cn}{k:Nat}(H:bP D r)(C:Ck D W Γ X k){a:aH}{ops:List dA}{es:List aH}{d:De}(h:t8 r Γ a ops es=aA d):PE X (.Compare a ops es p) (aV D W d)/\PT X (.Compare a ops es p) (dZ D W (tE d)):=by
 obtain⟨f,j,h⟩:=aS h;match ops,es with
 |[op],[b]=>
  obtain⟨o,h⟩:=z8 h
  obtain⟨g,i,h⟩:=aS h
  cases h
  exact⟨O4 C o (H.e C j) (H.e C i),JW C o (H.e C j) (H.e C i)⟩
 |op::q::ops,e::t::es=>
  obtain⟨l,i,h⟩:=aS h
  cases h
  obtain⟨n,c,m⟩:=Hv H C i
  match l with
  |[]=>cases c
  |[p1]=>simp at c
  |p1::s::l=>
   simp only[eW,Dz] at c
   obtain⟨rfl,rfl,rfl⟩:=c
   exact⟨Tk C m (H.e C j) n,Ju C m (H.e C j) n⟩
 |[],es=>cases h
 |[_],[]=>cases h
 |[_],_::_::_=>cases h
 |_::_::_,[]=>cases h
 |_::_::_,[_]=>cases h
noncomputable def BZ (r:cO)(Γ:Cn):Option aH->Option Dp
 |none=>aA pN
 |some e=>(r.e Γ e).bind λf=>aA (pS f)
theorem Hl{D:DP}{r:cO}{X:Cx}{W:XW}{k:Nat}(H:bP D r)(C:Ck D W Γ X k){o:Option aH}(h:BZ r Γ o=aA d):PO X o (ow D W d):=by
 cases o with
 |none=>cases h;exact R5
 |some e=>
  obtain⟨f,a,h⟩:=aS h;cases h;exact Rm (H.e C a)
noncomputable def Bg (r:cO)(Γ:Cn)(a b:aH):Option De:=match b with
 |.Slice lo c aF _=>(r.e Γ a).bind λf=>(BZ r Γ lo).bind λl=>(BZ r Γ c).bind λu=>aA (eSl f l u)
 |b=>gd (zH b) ((r.e Γ a).bind λf=>(r.e Γ b).bind λg=>aA (eIx f g))
theorem WJ{D:DP}{r:cO}{X:Cx}{W:XW}{k:Nat}(H:bP D r)(C:Ck D W Γ X k){a b:aH}{p:Pos}(h:Bg r Γ a b=aA d):PE X (.Subscript a b p) (aV D W d):=by
 unfold Bg at h;split at h
 .obtain⟨f,i,h⟩:=aS h;obtain⟨l,c,h⟩:=aS h;obtain⟨u,m,h⟩:=aS h;cases h;exact TN (H.e C i) (Hl H C c) (Hl H C m)
 .obtain⟨j,h⟩:=z8 h;obtain⟨f,i,h⟩:=aS h;obtain⟨g,c,h⟩:=aS h;cases h;exact Nc j C.hK (H.e C i) (H.e C c)
noncomputable def unD (op:UnaryOp)(f:De):Option De:=match op with
 |.USub=>aA (FG f)
 |.Not=>aA (eNot f)
 |_=>aF
noncomputable def MS(r:cO)(Γ:Cn)(op:BoolOp)(p:Pos):List aH->Option De
 |[a]=>r.e Γ a
 |a::b::l=>(r.e Γ a).bind λf=>(r.e Γ (.BoolOp op (b::l) p)).bind λg=>aA (match op with|.And=>eAnd f g|.Or=>eOr f g)
 |[]=>aF
noncomputable def G8:ER:=λr d e=>match e with
 |.Constant c _ _=>F3 c
 |.Name x _=>Bi d x
 |.BinOp a op b _=>(r.e d a).bind λf=>(r.e d b).bind λg=>aA (eBin op f g)
 |.UnaryOp op a _=>(r.e d a).bind λf=>unD op f
 |.BoolOp op es p=>MS r d op p es
 |.Compare a h es _=>t8 r d a h es
 |.IfExp c a b _=>(r.t d c).bind λt=>(r.e d a).bind λf=>(r.e d b).bind λg=>aA (eIf t f g)
 |.Attribute a x _=>gd (zI a) ((r.e d a).bind λf=>(d.fld.lookup x).bind λn=>aA (eFld f n))
 |.Subscript a b _=>Bg r d a b
 |.List es _=>gd (decide (es.length<=a9)) ((lb r d es).bind λfs=>aA (eLst fs))
 |.Tuple es _ _=>gd (decide (es.length<=a9)) ((lb r d es).bind λfs=>aA (eTup fs))
 |_=>aF
theorem z0i{D:DP}:cA D G8:=by
 intro r H X W v k e d C h;cases e with
 |Constant c j p=>exact RO h
 |Name x p=>exact SH C h
 |BinOp a op b p=>
  obtain⟨f,i,h⟩:=aS h;obtain⟨g,m,h⟩:=aS h;cases h;exact OH (H.e C i) (H.e C m)
 |UnaryOp op a p=>
  obtain⟨f,i,h⟩:=aS h;cases op with
  |USub=>cases h;exact OM (H.e C i)
  |Not=>cases h;exact Oa (H.e C i)
  |_=>cases h
 |BoolOp op es p=>
  match es with
  |[]=>cases h
  |[a]=>exact NC (H.e C h)
  |a::b::l=>
   obtain⟨f,i,h⟩:=aS h
   obtain⟨g,m,h⟩:=aS h
   cases h
   cases op with
   |And=>exact Pg (H.e C i) (H.e C m)
   |Or=>exact Nb (H.e C i) (H.e C m)
 |Compare a q es p=>exact (Yg H C h).1
 |IfExp c a b p=>
  obtain⟨t,u,h⟩:=aS h;obtain⟨f,i,h⟩:=aS h;obtain⟨g,m,h⟩:=aS h;cases h;exact Mh (H.t C u) (H.e C i) (H.e C m)
 |Attribute a x p=>
  obtain⟨s,h⟩:=z8 h;obtain⟨f,i,h⟩:=aS h;obtain⟨n,m,h⟩:=aS h;cases h;exact Nl C s (bS m) (H.e C i)
 |Subscript a b p=>exact WJ H C h
 |List es p=>
  obtain⟨o,h⟩:=z8 h;obtain⟨fs,i,h⟩:=aS h;cases h;exact NO (of_decide_eq_true o) (wB H C i)
 |Tuple es w p=>
  obtain⟨o,h⟩:=z8 h;obtain⟨fs,i,h⟩:=aS h;cases h;exact Ni (of_decide_eq_true o) (wB H C i)
 |_=>cases h
noncomputable def EY (c:GM)(fs:List De):Option De:=match c with
 |.fn g=>aA (eCall g fs)
 |.mk c aB g=>aA (eMk c g fs)
 |_=>aF
noncomputable def FS:ER:=λr a e=>(kK e).bind λq=>gd ((b7 a.N q.x).isNone&&a.calm) ((lb r a q.as).bind λfs=>EY (a.look q.x) fs)
theorem Sz{D:DP}:cA D FS:=by
 intro r H X W m k e d C h;obtain⟨q,l,h⟩:=aS h;rw[qc l];obtain⟨i,h⟩:=z8 h;obtain⟨fs,j,h⟩:=aS h;unfold EY at h;split at h
 .rename_i g b;cases h;obtain⟨a,f⟩:=qL b (by intro z;cases z);exact PY C a f (zp i).2 (wB H C j)
 .rename_i c g b;cases h;obtain⟨a,f⟩:=qL b (by intro z;cases z);exact PK C a f (zp i).2 (wB H C j)
 .cases h
noncomputable def iL (nm:aG)(op:T->aI->RE T)(cl:Bool):ER:=λr b e=>(kK e).bind λq=>(ZQ q.as).bind λa=>gd (q.x==nm) (gd ((b7 b.N q.x).isNone&&aO a) (gd (jp (b.look nm)) (gd (!cl || b.calm) ((r.e b a).bind λf=>aA (eB1 op f)))))
theorem vb{nm:aG}{op:T->aI->RE T}{cl:Bool}(n:∀{X:Cx}{W:XW}{Γ:Cn}{k:Nat}{a:aH}{f:De}{p0 pos:Pos},Ck D W Γ X k->nm∈Γ.G->Γ.gl nm=.none->(cl=aB->Γ.calm=aB)->aO a=aB->PE X a (aV D W f)->PE X (.Call (.Name nm p0) [a] [] pos) (aV D W (eB1 op f))):cA D (iL nm op cl):=by
 intro r H X W Γ k e d C h;obtain⟨q,m,h⟩:=aS h;obtain⟨a,j,h⟩:=aS h;obtain⟨g,h⟩:=z8 h;obtain⟨i,h⟩:=z8 h;obtain⟨b,h⟩:=z8 h;obtain⟨c,h⟩:=z8 h;obtain⟨f,l,h⟩:=aS h;cases h;rw[qc m,we j,qp g];exact n C (zA b).1 (zA b).2 (λz=>by rw[z] at c;exact c) (zp i).2 (H.e C l)
noncomputable def Gc:ER:=iL "len" lenT aD
theorem Px:cA D Gc:=vb λC a c _ b d=>Xw C a c boot_len (by decide) b Mi d
noncomputable def GC:ER:=iL "tuple" tupleT aD
theorem S5:cA D GC:=vb λC a c _ b d=>VF C a c (by decide +kernel) (by decide) b Sr d
noncomputable def GO:ER:=iL "list" listT aD
theorem T4:cA D GO:=vb λC a c _ b d=>VF C a c (by decide +kernel) (by decide) b O6 d
noncomputable def FJ:ER:=iL "all" allT aB
theorem Sh:cA D FJ:=vb λC a c d b e=>Xw C a c boot_all (by decide) b (M2 (C.clm (d rfl))) e
noncomputable def FE:ER:=λr a e=>(kK e).bind λq=>(AS q.as).bind λw=>gd (q.x==("isinstance":aG)) (gd ((b7 a.N q.x).isNone&&aO w.1) (gd (jp (a.look "isinstance")) ((r.e a w.1).bind λf=>(Zv a w.2).bind λcs=>aA (eIsi cs f))))
theorem RJ{D:DP}:cA D FE:=by
 intro r H X W m k e d C h;obtain⟨q,l,h⟩:=aS h;obtain⟨w,g,h⟩:=aS h;obtain⟨b,h⟩:=z8 h;obtain⟨c,h⟩:=z8 h;obtain⟨a,h⟩:=z8 h;obtain⟨f,j,h⟩:=aS h;obtain⟨cs,i,h⟩:=aS h;cases h;rw[qc l,Xt g,qp b];exact NK C (zA a).1 (zA a).2 (zp c).2 i (H.e C j)
noncomputable def mY (nm:aG)(cb:De->De->De):ER:=λr b e=>(yO e).bind λq=>(ZQ q.as).bind λa=>gd (q.m==nm) (gd (zI q.o&&aO a) (gd (q.pa.endLine==q.pc.line) ((r.e b q.o).bind λf=>(r.e b a).bind λg=>aA (cb f g))))
theorem Z7{D:DP}{nm:aG}{cb:De->De->De}(p:∀{X:Cx}{W:XW}{Γ:Cn}{k:Nat}{o a:aH}{f g:De}{pa pc:Pos},Ck D W Γ X k->zI o=aB->aO a=aB->(pa.endLine==pc.line)=aB->PE X o (aV D W f)->PE X a (aV D W g)->PE X (.Call (.Attribute o nm pa) [a] [] pc) (aV D W (cb f g))):cA D (mY nm cb):=by
 intro r H X W Γ k e d C h;obtain⟨q,n,h⟩:=aS h;obtain⟨a,j,h⟩:=aS h;obtain⟨c,h⟩:=z8 h;obtain⟨b,h⟩:=z8 h;obtain⟨i,h⟩:=z8 h;obtain⟨f,m,h⟩:=aS h;obtain⟨g,l,h⟩:=aS h;cases h;rw[wI n,we j,qp c];exact p C (zp b).1 (zp b).2 i (H.e C m) (H.e C l)
noncomputable def Fx:ER:=mY "append" eApp
theorem P6:cA D Fx:=Z7 λC b a d c e=>N6 b a d c e
noncomputable def K1:ER:=λr a e=>match e with
 |.Call (.Attribute (.Constant (.str b) _ _) m h) [.Call (.Name c _) [.Name x d] [] _] [] g=>gd (m==("join":aG)&&c==("reversed":aG)&&(b7 a.N c).isNone&&h.endLine==g.line&&a.calm) ((r.e a (.Name x d)).bind λf=>(match a.look c with
  |.none=>aA (eB1 (joinRT b) f)
  |_=>aF))
 |_=>aF
theorem Ux{D:DP}:cA D K1:=by
 intro r H X W i k e d C h;unfold K1 at h;split at h
 .rename_i q v x s u t;have l:=z8 h;clear h;obtain⟨g,h⟩:=l;simp only[bK] at g;obtain⟨⟨⟨⟨c,b⟩,w⟩,o⟩,n⟩:=g;have c:=beq_iff_eq.mp c;have b:=beq_iff_eq.mp b;subst c b;obtain⟨f,p,h⟩:=aS h;cases a:i.look "reversed" with
  |none=>
   simp only[a] at h;cases h;obtain⟨j,m⟩:=qL a (by intro z;cases z);exact ZB C n j m o (H.e C p)
  |_=>simp[a] at h
 .cases h
noncomputable def rz (r:cO)(Γ:Cn)(elt tg iter:aH)(ifs:List aH)(sc:Scope)(mk:Nat->List Nat->Tg->Di->List Dt->De->De):Option De:=
 gd (Γ.calm&&JP Γ.N Γ.cel tg sc&&wk iter&&oj tg iter) ((j2 Γ.N (frees sc)).bind λfs=>(wc (z5 tg++frees sc) tg).bind λa=>(r.i Γ iter).bind λfi=>(z9 (r.t (inComp Γ tg sc)) ifs).bind λcs=>(r.e (inComp Γ tg sc) elt).bind λfe=>aA (mk (z5 tg).length fs a fi cs fe))
theorem WZ{r:cO}{elt tg iter:aH}{ifs:List aH}{sc:Scope}{mk:Nat->List Nat->Tg->Di->List Dt->De->De}(h:rz r Γ elt tg iter ifs sc mk=aA d) :
  ∃fs tgt fi cs fe,Γ.calm=aB/\cE Γ.N Γ.cel tg sc/\(wk iter=aB/\oj tg iter=aB)/\j2 Γ.N (frees sc)=aA fs/\wc (z5 tg++frees sc) tg=aA tgt/\r.i Γ iter=aA fi/\z9 (r.t (inComp Γ tg sc)) ifs=aA cs/\r.e (inComp Γ tg sc) elt=aA fe/\d=mk (z5 tg).length fs tgt fi cs fe:=by
 obtain⟨a,h⟩:=z8 h;simp only[bK] at a;obtain⟨fs,j,h⟩:=aS h;obtain⟨tgt,g,h⟩:=aS h;obtain⟨fi,f,h⟩:=aS h;obtain⟨cs,c,h⟩:=aS h;obtain⟨fe,b,h⟩:=aS h;cases h;exact⟨fs,tgt,fi,cs,fe,a.1.1.1,YG a.1.1.2,⟨a.1.2,a.2⟩,j,g,f,c,b,rfl⟩
noncomputable def G7:ER:=λr a e=>(W6 e).bind λq=>rz r a q.elt q.tg q.iter q.ifs q.sc eComp
theorem S4{D:DP}:cA D G7:=by
 intro r H X W u k e d C h;obtain⟨q,p,h⟩:=aS h;rw[uy p];obtain⟨fs,c,fi,cs,fe,o,n,b,m,l,j,g,f,rfl⟩:=WZ h;exact Y6 C o n m l (H.i C b.2 j) (λs t a=>H.e a f) (λs t a=>ji H a g) (QW b.1)
noncomputable def Hg:TR:=λr b e=>match e with
 |.Name _ _=>(r.e b e).bind λf=>aA (tE f)
 |.Call _ _ _ _=>(r.e b e).bind λf=>aA (tE f)
 |.Subscript _ _ _=>(r.e b e).bind λf=>aA (tE f)
 |.Attribute _ _ _=>(r.e b e).bind λf=>aA (tE f)
 |.Compare a c es _=>(t8 r b a c es).bind λf=>aA (tE f)
 |.UnaryOp op a _=>(match op with
  |.Not=>(r.t b a).bind λf=>aA (tNot f)
  |_=>aF)
 |.BoolOp _ _ _=>r.w b e
 |_=>aF
theorem z0r{D:DP}:oF D Hg:=by
 intro r H X W j k e d C h;cases e with
 |Name x p=>
  obtain⟨f,c,h⟩:=aS h;cases h;exact XO (H.e C c) λ_=>rfl
 |Call f args i p=>
  obtain⟨f,c,h⟩:=aS h;cases h;exact XO (H.e C c) λ_=>rfl
 |Subscript a b p=>
  obtain⟨f,c,h⟩:=aS h;cases h;exact XO (H.e C c) λ_=>rfl
 |Attribute a b p=>
  obtain⟨f,c,h⟩:=aS h;cases h;exact XO (H.e C c) λ_=>rfl
 |Compare a g es p=>
  obtain⟨f,c,h⟩:=aS h;cases h;exact (Yg H C c).2
 |UnaryOp op a p=>
  cases op with
  |Not=>
   obtain⟨f,c,h⟩:=aS h;cases h;exact NE (H.t C c)
  |_=>cases h
 |BoolOp op es p=>exact (H.w C h).pt
 |_=>cases h
noncomputable def H_:TR:=λr c e=>match e with
 |.BoolOp op es p=>(match es with
  |[a]=>r.t c a
  |a::b::l=>(r.t c a).bind λf=>(r.w c (.BoolOp op (b::l) p)).bind λg=>aA (match op with|.And=>tAnd f g|.Or=>tOr f g)
  |[]=>aF)
 |_=>aF
theorem Uh{D:DP}:IL D H_:=by
 intro r H X W j k e d C h;cases e with
 |BoolOp op es p=>
  match es with
  |[]=>cases h
  |[a]=>
   cases op with
   |And=>exact RK (H.t C h)
   |Or=>exact Oh (H.t C h)
  |a::b::l=>
   obtain⟨f,i,h⟩:=aS h
   obtain⟨g,c,h⟩:=aS h
   cases h
   cases op with
   |And=>exact Oo (H.t C i) (H.w C c)
   |Or=>exact MW (H.t C i) (H.w C c)
 |_=>cases h
noncomputable def Fy (r:cO)(Γ:Cn):List aH->Option Di
 |[a]=>(r.e Γ a).bind λf=>aA (iRng f)
 |[a,b]=>(r.e Γ a).bind λf=>(r.e Γ b).bind λg=>aA (iRng2 f g)
 |_=>aF
noncomputable def GW:IR:=λr a e=>(kK e).bind λq=>gd (q.x==("range":aG)) (gd ((b7 a.N q.x).isNone&&q.as.all aO) (gd (jp (a.look "range")) (Fy r a q.as)))
theorem Uf{D:DP}:oM D GW:=by
 intro r H X W n k o e d C p h;obtain⟨q,m,h⟩:=aS h;obtain⟨b,h⟩:=z8 h;obtain⟨a,h⟩:=z8 h;obtain⟨j,h⟩:=z8 h;rw[qc m,qp b];have a:=(zp a).2;obtain⟨b,i⟩:=zA j;generalize q.as=s at h a ⊢;unfold Fy at h;split at h
 .obtain⟨f,c,h⟩:=aS h;cases h;exact TL C b i (zp a).1 (H.e C c)
 .obtain⟨f,c,h⟩:=aS h;obtain⟨g,l,h⟩:=aS h;cases h;exact Ur C b i (zp a).1 (zp (zp a).2).1 (H.e C c) (H.e C l)
 .cases h
noncomputable def Ix:IR:=λr a e=>(r.e a e).bind λf=>aA (iE f)
theorem NU{D:DP}:oM D Ix:=by
 intro r H X W b k c e d C g h;obtain⟨f,a,h⟩:=aS h;cases h;exact Sa (H.e C a)
noncomputable def Bc:aH->Option (List aH×Pos)
 |.List es p=>aA (es,p)
 |_=>aF
theorem RG(h:Bc e=aA q):e=.List q.1 q.2:=by
 unfold Bc at h;split at h
 .cases h;rfl
 .cases h
noncomputable def GY:ER:=λr a e=>(Bc e).bind λq=>gd (decide (q.1.length<=a9)) ((lb r a q.1).bind λfs=>aA (eLay fs))
theorem Tq{D:DP}:cA D GY:=by
 intro r H X W f k e d C h;obtain⟨q,c,h⟩:=aS h;rw[RG c];obtain⟨a,h⟩:=z8 h;obtain⟨fs,b,h⟩:=aS h;cases h;exact OO (of_decide_eq_true a) (wB H C b)
noncomputable def Ht:ER:=iL "list" layT aD
theorem UA:cA D Ht:=vb λC a c _ b d=>VF C a c (by decide +kernel) (by decide) b M9 d
noncomputable def HZ:ER:=λr a e=>(W6 e).bind λq=>rz r a q.elt q.tg q.iter q.ifs q.sc eCompL
theorem YY{D:DP}:cA D HZ:=by
 intro r H X W u k e d C h;obtain⟨q,p,h⟩:=aS h;rw[uy p];obtain⟨fs,c,fi,cs,fe,o,n,b,m,l,j,g,f,rfl⟩:=WZ h;exact Ji C o n m l (H.i C b.2 j) (λs t a=>H.e a f) (λs t a=>ji H a g) (QW b.1)
noncomputable def oi (r:cO)(Γ:Cn)(x:aG)(e:aH):Option De:=match Γ.own.contains x with
 |true=>r.o Γ e
 |false=>r.e Γ e
theorem Vo{D:DP}{r:cO}{X:Cx}{W:XW}{Γ:Cn}{k:Nat}(H:bP D r)(C:Ck D W Γ X k){x:aG}{e:aH}{d:De}(h:oi r Γ x e=aA d):PE X e (aV D W d):=by
 unfold oi at h;cases q:Γ.own.contains x with
 |true=>rw[q] at h;exact H.o C h
 |false=>rw[q] at h;exact H.e C h
noncomputable def eR:aH->Bool
 |.Call _ _ _ _=>aB
 |.Constant _ _ _=>aB
 |_=>aD
theorem YJ{e:aH}(h:eR e=aB):(∃f as ks p,e=.Call f as ks p)\/∃c j p,e=.Constant c j p:=by
 unfold eR at h;split at h
 .exact .inl ⟨_,_,_,_,rfl⟩
 .exact .inr ⟨_,_,_,rfl⟩
 .cases h
theorem z0Y{e:aH}{l:Nat}{env:Env}(h:eR e=aB):iH e aF l env=pure aD:=by
 rcases YJ h with⟨_,_,_,_,rfl⟩|⟨_,_,_,rfl⟩<;>rfl
noncomputable def Ij:aH->Bool
 |.ListComp _ _ _ _=>aB
 |.SetComp _ _ _ _=>aB
 |.DictComp _ _ _ _ _=>aB
 |_=>aD
theorem TY{e:aH}{x:aG}{p:Pos}{l:Nat}{env:Env}(h:Ij e=aD):iH e (aA (.Name x p)) l env=pure aD:=by
 cases e<;>first|rfl|cases h
noncomputable def GP(b:Bool):Nat->List Nat->Tg->Di->List Dt->De->De:=match b with
 |true=>eCompL
 |false=>eComp
noncomputable def Bb (r:cO)(Γ:Cn)(x:aG)(e:aH):Option De:=match W6 e with
 |some q=>rz r Γ q.elt q.tg q.iter q.ifs q.sc (GP (Γ.own.contains x))
 |none=>gd (!Ij e) (oi r Γ x e)
theorem SS{D:DP}{r:cO}(H:bP D r){X:Cx}{W:XW}{Γ:Cn}{k:Nat}{x:aG}{e:aH}{i:Nat}{p pos:Pos}{f:De}(C:Sk D W Γ X k)(z:b7 Γ.N x=aA i)(d:i_ Γ (.Name x p)=aB)(h:Bb r Γ x e=aA f):PS X (.Assign [.Name x p] e pos) (cZ D W (sSet i f)):=by
 unfold Bb at h;cases q:W6 e with
 |none=>
  rw[q] at h;obtain⟨E,h⟩:=z8 h;exact U_ C z d (TY (by simpa using E)) (Vo H C.toCk h)
 |some w=>
  rw[q] at h;rw[uy q];obtain⟨fs,a,fi,cs,fe,v,u,m,t,s,A,o,n,rfl⟩:=WZ h;have c:=H.i C.toCk m.2 A;have B:GP (Γ.own.contains x) (z5 w.tg).length fs a fi cs fe=(match Γ.own.contains x with|true=>eCompL (z5 w.tg).length fs a fi cs fe|false=>eComp (z5 w.tg).length fs a fi cs fe):=by cases Γ.own.contains x<;>rfl
  rw[B];have y:∀bb,iH (.ListComp w.elt [⟨w.tg,w.iter,w.ifs,0⟩] w.sc w.p) (aA (.Name x p)) pos.line X.env=pure bb->PS X (.Assign [.Name x p] (.ListComp w.elt [⟨w.tg,w.iter,w.ifs,0⟩] w.sc w.p) pos) (cZ D W (sSet i (match Γ.own.contains x with|true=>eCompL (z5 w.tg).length fs a fi cs fe|false=>eComp (z5 w.tg).length fs a fi cs fe))):=λbb g=>by
   cases bb with
   |true=>exact Py C v z d u t s c (λj l b=>H.e b n) (λj l b=>ji H b o) (QW m.1) _ g
   |false=>
    refine U_ C z d g ?_;cases Γ.own.contains x with
    |true=>exact Ji C.toCk v u t s c (λj l b=>H.e b n) (λj l b=>ji H b o) (QW m.1)
    |false=>exact Y6 C.toCk v u t s c (λj l b=>H.e b n) (λj l b=>ji H b o) (QW m.1)
  exact y _ rfl
noncomputable def Gd (r:cO)(Γ:Cn)(t e:aH):Option Ds:=gd (i_ Γ t) (match t with
 |.Name x _=>(b7 Γ.N x).bind λi=>(Bb r Γ x e).bind λf=>aA (sSet i f)
 |.Tuple es _ _=>gd (Γ.calm&&kL e) ((cJ Γ.N es).bind λa=>(r.e Γ e).bind λf=>aA (F9 a f))
 |.Attribute o x _=>(Γ.fld.lookup x).bind λn=>(oi r Γ x e).bind λf=>(r.e Γ o).bind λgo=>aA (sFld go n f)
 |.Subscript o b _=>gd (zH b) ((r.e Γ e).bind λf=>(r.e Γ o).bind λgo=>(r.e Γ b).bind λgb=>aA (Fw go gb f))
 |_=>aF)
theorem Rf{D:DP}{r:cO}(H:bP D r){X:Cx}{W:XW}{Γ:Cn}{k:Nat}{t e:aH}{pos:Pos}{d:Ds}(C:Sk D W Γ X k)(h:Gd r Γ t e=aA d):PS X (.Assign [t] e pos) (cZ D W d):=by
 obtain⟨b,h⟩:=z8 h;split at h
 .obtain⟨i,l,h⟩:=aS h;obtain⟨f,a,h⟩:=aS h;cases h;exact SS H C l b a
 .obtain⟨g,h⟩:=z8 h;obtain⟨m,a,h⟩:=aS h;obtain⟨f,c,h⟩:=aS h;cases h;exact OZ C (zp g).1 (zp g).2 a b (H.e C.toCk c)
 .obtain⟨n,a,h⟩:=aS h;obtain⟨f,c,h⟩:=aS h;obtain⟨go,j,h⟩:=aS h;cases h;exact OA C (bS a) (Vo H C.toCk c) (H.e C.toCk j)
 .obtain⟨g,h⟩:=z8 h;obtain⟨f,a,h⟩:=aS h;obtain⟨go,c,h⟩:=aS h;obtain⟨gb,j,h⟩:=aS h;cases h;exact Oz C g (H.e C.toCk a) (H.e C.toCk c) (H.e C.toCk j)
 .cases h
noncomputable def rA:bB->Option aH
 |.Raise (aA e) aF _=>aA e
 |_=>aF
theorem XI{s:bB}{e:aH}(h:rA s=aA e):∃p,s=.Raise (aA e) aF p:=by
 unfold rA at h;split at h
 .cases h;exact⟨_,rfl⟩
 .cases h
noncomputable def Gr(e:aH):Option (aG×List aH):=(kK e).bind λq=>aA (q.x,q.as)
theorem Tc{e:aH}{q:aG×List aH}(h:Gr e=aA q):∃p0 p1,e=.Call (.Name q.1 p0) q.2 [] p1:=by
 obtain⟨w,a,h⟩:=aS h;cases h;exact⟨_,_,qc a⟩
noncomputable def Go:GM->Option Nat
 |.xcl c=>aA c
 |_=>aF
theorem Ps{g:GM}{c:Nat}(h:Go g=aA c):g=.xcl c:=by cases g<;>first|(cases h;rfl)|cases h
noncomputable def Hk:SR:=λr b s=>(rA s).bind λe=>(kK e).bind λq=>gd (b.calm&&(b7 b.N q.x).isNone) (match q.as with
 |[]=>aF
 |a::d=>(lb r b (a::d)).bind λfs=>(Go (b.look q.x)).bind λc=>aA (sRaise c fs))
theorem Tr{D:DP}:m9 D Hk:=by
 intro r H X W p k e d C h;obtain⟨t,o,h⟩:=aS h;obtain⟨q,m,h⟩:=aS h;obtain⟨s,j⟩:=XI o;rw[j,qc m];obtain⟨l,h⟩:=z8 h;generalize q.as=b at h ⊢;cases b with
 |nil=>cases h
 |cons a b=>
  obtain⟨fs,n,h⟩:=aS h;obtain⟨c,g,h⟩:=aS h;cases h;obtain⟨f,i⟩:=qL (Ps g) (by intro z;cases z);exact UF C (zp l).1 f i (wB H C.toCk n)
noncomputable def lE:aH->Option aG
 |.Name x _=>aA x
 |_=>aF
theorem ON{e:aH}{x:aG}(h:lE e=aA x):∃p,e=.Name x p:=by
 unfold lE at h;split at h
 .cases h;exact⟨_,rfl⟩
 .cases h
noncomputable def F7 (Γ:Cn)(x:aG):Option Nat:=gd ((b7 Γ.N x).isNone&&Γ.G.contains x&&(match Γ.gl x with|.xcl c=>Γ.cls.lookup x==aA c&&ll c 40|.xcf c _=>Γ.cls.lookup x==aA c&&ll c 40|_=>aD)) (Γ.cls.lookup x)
theorem Rk{Γ:Cn}{x:aG}{c:Nat}(h:F7 Γ x=aA c):c9 Γ x c:=by
 obtain⟨d,g⟩:=z8 h;simp only[bK] at d;refine⟨by simpa using d.1.2,bS g,?_⟩;have a:=d.2;rw[g] at a;cases b:Γ.gl x with
 |xcl e=>
  simp only[b,bK] at a;have:c=e:=bQ (beq_iff_eq.mp a.1);rw[this];exact⟨.inr rfl,iU.mp a.2⟩
 |xcf e f=>
  simp only[b,bK] at a;have:c=e:=bQ (beq_iff_eq.mp a.1);rw[this];exact⟨.inl ⟨f,rfl⟩,iU.mp a.2⟩
 |_=>rw[b] at a;cases a
noncomputable def IB (Γ:Cn)(t:aH):Option (List Nat):=(lE t).bind λx=>(F7 Γ x).bind λc=>aA [c]
theorem NL{Γ:Cn}{t:aH}{cs:List Nat}(h:IB Γ t=aA cs):Ag Γ t cs/\((lE t).isSome=aB->∃x p c,t=.Name x p/\cs=[c]/\c9 Γ x c):=by
 obtain⟨x,q,h⟩:=aS h;obtain⟨c,b,h⟩:=aS h;cases h;obtain⟨p,rfl⟩:=ON q;have a:=Rk b;exact⟨.inl ⟨x,p,c,rfl,rfl,a⟩,λ_=>⟨x,p,c,rfl,rfl,a⟩⟩
noncomputable def IC (r:cO)(Γ:Cn):lw->Option (List Nat×Option Nat×List Ds)
 |.ExceptHandler t nm a _=>t.bind λt=>gd (!a.isEmpty&&(nm.isNone || (lE t).isSome)) ((IB Γ t).bind λcs=>(z9 (r.s {Γ with calm:=aD}) a).bind λb=>(match nm with
   |none=>aA (cs,aF,b)
   |some e=>gd (!Γ.cel.contains e) ((b7 Γ.N e).bind λj=>aA (cs,aA j,b))))
theorem HY{D:DP}{r:cO}(H:bP D r){Γ:Cn}{k:Nat}:∀{hs:List lw}{gs:List (List Nat×Option Nat×List Ds)},z9 (IC r Γ) hs=aA gs->rq D Γ k hs gs
 |[],gs,h=>by cases h;trivial
 |.ExceptHandler t nm a p::hs,gs,h=>by
  obtain⟨g,B,v⟩:=aS h;obtain⟨C,A,u⟩:=aS v;cases u;have ih:=HY (k:=k) H A;obtain⟨G,b,s⟩:=aS B;subst b;obtain⟨c,q⟩:=z8 s;obtain⟨cs,z,o⟩:=aS q;obtain⟨F,i,f⟩:=aS o;simp only[bK,sP] at c;obtain⟨l,w⟩:=NL z;cases a with
  |nil=>simp at c
  |cons I a=>
   cases nm with
   |none=>
    cases f;exact⟨⟨_,_,_,_,_,_,_,_,rfl,rfl,l,.inl rfl,trivial,λE d=>zS H d i⟩,ih⟩
   |some e=>
    obtain⟨y,n⟩:=z8 f;obtain⟨j,x,m⟩:=aS n;cases m;exact⟨⟨_,_,_,_,_,_,_,_,rfl,rfl,l,.inr (w (c.2.resolve_left (by simp))),⟨x,by simpa using y⟩,λE d=>zS H d i⟩,ih⟩
noncomputable def HL:SR:=λr d s=>match s with
 |.Return o _=>(match o with
  |some e=>(oi r d "return" e).bind λf=>aA (sRet f)
  |none=>aA sRetN)
 |.Expr e _=>gd (eR e) ((r.e d e).bind λf=>aA (sExpr f))
 |.If c a b _=>(r.t d c).bind λt=>(z9 (r.s d) a).bind λj=>(z9 (r.s d) b).bind λh=>aA (sIf t j h)
 |.Assign n e _=>(ZQ n).bind λt=>Gd r d t e
 |.For l it b g _=>gd (d.calm&&wk it) (gd (g.isEmpty&&oj l it) (gd (i_ d l) ((wc d.N l).bind λk=>(r.i d it).bind λfi=>(z9 (r.s d) b).bind λh=>aA (sFor k fi h))))
 |.While c b g _=>gd g.isEmpty ((r.t d c).bind λt=>(z9 (r.s d) b).bind λh=>aA (sWhile t h))
 |.Try b m g fin _=>gd (d.calm&&g.isEmpty) (gd (fin.isEmpty&&!m.isEmpty) ((z9 (r.s d) b).bind λj=>(z9 (IC r d) m).bind λgs=>aA (sTry j gs)))
 |_=>aF
theorem YS{D:DP}:m9 D HL:=by
 intro r H X W A k e d C h;cases e with
 |Return o p=>
  cases o with
  |none=>cases h;exact P9
  |some e=>
   obtain⟨f,g,h⟩:=aS h;cases h;exact Og (Vo H C.toCk g)
 |Expr e p=>
  obtain⟨n,h⟩:=z8 h;obtain⟨f,g,h⟩:=aS h;cases h;exact PH (z0Y n) (H.e C.toCk g)
 |If c a b p=>
  obtain⟨t,g,h⟩:=aS h;obtain⟨v,l,h⟩:=aS h;obtain⟨s,j,h⟩:=aS h;cases h;exact Mj (H.t C.toCk g) (zS H C l) (zS H C j)
 |Assign B e p=>
  obtain⟨t,g,h⟩:=aS h;rw[we g];exact Rf H C h
 |For E it b m p=>
  obtain⟨g,h⟩:=z8 h;obtain⟨l,h⟩:=z8 h;obtain⟨j,h⟩:=z8 h;obtain⟨w,q,h⟩:=aS h;obtain⟨fi,y,h⟩:=aS h;obtain⟨s,x,h⟩:=aS h;cases h;rw[pP.mp (zp l).1];exact Ol C (zp g).1 q j (H.i C.toCk (zp l).2 y) (zS H C x) (QW (zp g).2)
 |While c b m p=>
  obtain⟨n,h⟩:=z8 h;obtain⟨t,g,h⟩:=aS h;obtain⟨s,j,h⟩:=aS h;cases h;rw[pP.mp n];exact S7 C (H.t C.toCk g) (zS H C j)
 |Try b u m fin p=>
  obtain⟨g,h⟩:=z8 h;obtain⟨l,h⟩:=z8 h;obtain⟨v,j,h⟩:=aS h;obtain⟨gs,q,h⟩:=aS h;cases h;rw[pP.mp (zp g).2,pP.mp (zp l).1];cases u with
  |nil=>cases (zp l).2
  |cons F u=>exact Oe C (zp g).1 (λG I z=>zS H z j) (HY H q)
 |_=>cases h
structure fD(D:DP)(P:Program)(w:World)(K:PySem.W.Frag)(mg:aG->Option aC)(base:aT)(Γ:Cn)(k:Nat):Prop where
 hK:K=D.K
 glo:∀x∈Γ.U,cU D P w K mg base k x (Γ.gl x)/\(x==("__debug__":aG))=aD
 isi:∀t x c,(x,c)∈Γ.cls->∀u v,VC D t u->Zc mg x v->pi K u v=aA (zD t c)
 fld:∀c C x f,D.cad c=aA C->(x,f)∈Γ.fld->D.fn f=aA x/\fV K C/\b_ K C x
 xcx:∀c C,D.adr c=aA C->iy K C
 ocx:∀c C,D.cad c=aA C->mj K C
 clv:∀x c,(x,c)∈Γ.cls->∃u v,Zc mg x u/\fU v u
 xmt:∀t x c,(x,c)∈Γ.cls->c<40->∀Ct Cc,D.adr t=aA Ct->mg x=aA (.ref Cc)->i4 K (.ref Ct) (.ref Cc)=aA (zD t c)
noncomputable def JG(Γ:Cn)(ps:List aG)(sc:Scope):Bool:=
 (sc.kind==.function)&&!sc.isCoroutine&&!sc.isGenerator&&decide (Γ.N.Nodup)&&(Γ.N.take ps.length==ps)&&sc.names.all (λy=>y.2 != .free)&&
 Γ.N.all (λx=>x != ("__debug__":aG)&&x != ("__classdict__":aG)&&(if Γ.cel.contains x then sc.names.lookup x==aA .cell else sc.names.lookup x==aA .local))&&
 Γ.G.all (λx=>Γ.U.contains x&&sc.names.lookup x==aA .globalImplicit)&&Γ.cel.all (λx=>Γ.N.contains x)&&Γ.calm
theorem jg{X:Cx}{W:XW}{e:aC}{s:aW}(p:XP X W e s):X.A.frames=aA X.stack:=by
 obtain⟨_,_,_,_,_,_,_,_,I,_⟩:=p;exact I.ok.frames
theorem Xz:∀(ts:List T) (n:Nat),K_ ts n=ts.map aA++mO n aF
 |[],n=>by
  have:∀n,B0 n=mO n aF:=λn=>by
   induction n with
   |zero=>rfl
   |succ n ih=>show aF::B0 n=_;rw[ih];rfl
  exact this n
 |t::r,n=>by show aA t::K_ r n=_;rw[Xz r n];rfl
section
variable {D:DP}{P:Program}{w:World}{K:PySem.W.Frag}{mg:aG->Option aC}{base:aT}{Γ:Cn}{k n:Nat}
theorem KG{φ α:List aE}{H:Hp}{N:List aG}{ts:List T}{vs:List V}(d:aM D φ α H ts vs):aZ D φ α H (K_ ts (N.length-ts.length)) (L2.start N vs):=by
 have b:=d.length;rw[Xz];refine⟨by simp[L2.start,b],λi t e=>?_⟩;by_cases a:i<ts.length
 .rw[eL (by simpa using a),eX] at e;cases q:ts[i]? with
  |none=>rw[q] at e;cases e
  |some c=>
   rw[q] at e;have e:aA (aA c)=aA (aA t):=e;cases e;obtain⟨v,f,dv⟩:=d.get q;refine⟨v,?_,dv⟩;unfold L2.start;rw[eL (by rw[eN,<-b];exact a),eX,f];rfl
 .rw[fP (by simpa using a),pV] at e;split at e<;>cases e
noncomputable def fK (X:Cx)(f:aG->Bool):Cx:={X with fn:=f}
theorem O9{X:Cx}{f g:aG->Bool}(a:∀x,f x=aB->g x=aB)(ok:(fK X g).Ok):(fK X f).Ok:=⟨ok.mod,ok.kind,ok.glob,ok.blt,ok.above,ok.inj,ok.has,λx c e=>ok.cab x c (a x e),ok.hd,ok.frames,ok.stk,ok.exf,ok.bs,ok.bsz,ok.noex,ok.exfs,ok.funs,ok.frf⟩
theorem ud{X:Cx}{f g:aG->Bool}{pins:List (aE×a_)}{a:St}{H:Hp}{s:aW}(b:∀x,f x=aB->g x=aB)(I:Inv (fK X g) pins a H s):Inv (fK X f) pins a H s:=
 ⟨O9 b I.ok,I.os,I.bare,I.base,I.loc,I.cell,I.free,λx c e=>(I.freeC x c e).imp id λz=>⟨pD.mpr λq=>Bool.noConfusion ((b x q).symm.trans (show g x=aD from z.1)),z.2⟩,I.pin,I.hok,I.len⟩
theorem OF{X:Cx}{f g:aG->Bool}{W:XW}{e:aC}{s:aW}(l:∀x,f x=aB->g x=aB)(p:XP (fK X g) W e s):XP (fK X f) W e s:=by
 obtain⟨x,cls,d,h,H,T,fl,a,I,b,c,r,j,i⟩:=p;exact⟨x,cls,d,h,H,T,fl,a,ud l I,⟨b.free,b.loc,b.nfs,b.new,b.cel,b.pin⟩,λt k=>let b:=c t k;⟨b.free,b.loc,b.nfs,b.new,b.cel,b.pin⟩,r,j,i⟩
theorem K9{X:Cx}{f g:aG->Bool}{pins:List (aE×a_)}{E:Ends}{fl:Flow}{s:aW}(d:∀x,f x=aB->g x=aB)(h:SP (fK X g) pins E fl s):SP (fK X f) pins E fl s:=by
 cases fl with
 |ret v=>obtain⟨v,a,c,b,r⟩:=h;exact⟨v,a,c,ud d b,r⟩
 |_=>obtain⟨a,c,b,r⟩:=h;exact⟨a,c,ud d b,r⟩
theorem Xn{D:DP}{W:XW}{X:Cx}{f:aG->Bool}{y:List bB}{b:List Ds}(x:u4 (fK X f) D W y b):∀{b1:List bB}{ds1:List Ds},u4 (fK X λ_=>aB) D W b1 ds1->
  ∀(pins:List (aE×a_)) (s:aW) (c:St) (H:Hp) (E:Ends),Inv (fK X λ_=>aB) pins c H s->cZ D W (zK (ds1++b)) E c H->wpAny (aR X.prog X.w) X.A (execs (b1++y) X.env) (SP (fK X f) pins E) X.xe s
 |[],[],_,pins,s,c,H,E,I,q=>qh x pins s c H E (ud (λ_ _=>rfl) I) q
 |st::r,u::G,h,pins,s,c,H,E,I,q=>by
  obtain⟨l,F,B,C,J,M,Q,q,N,t,p,o,n⟩:=q;refine wpAny_execs_cons (aY (h.1 pins s c H {E with nx:=λa d=>cZ D W (zK (G++b)) E a d} I ⟨l,F,B,C,J,M,_,q,λg i e j d a st m k=>?_,t,p,o,n⟩) λfl K z=>?_)
  .exact⟨l,j,g,i,k,m,aK.step ⟨Q,e,N,t,p,o,n⟩ st⟩
  .cases fl with
   |next=>
    obtain⟨a,d,O,L⟩:=z;exact Xn x h.2 pins K a d E O L
   |ret v=>exact K9 (fl:=.ret v) (E:=E) (λ_ _=>rfl) z
   |brk=>exact K9 (fl:=.brk) (E:=E) (λ_ _=>rfl) z
   |cont=>exact K9 (fl:=.cont) (E:=E) (λ_ _=>rfl) z
 |[],_::_,h,_,_,_,_,_,_,_=>h.elim
 |_::_,[],h,_,_,_,_,_,_,_=>h.elim
theorem V_{R:cK}(HR:b8 D R){f:aE}{name qual:aG}{params:Arguments}{body b1 b2:List bB}{scope:Scope}{dV kV doc pm g ct oc:aC}{an od:Option aE}{osl:Array (Option aC)}{ps:List aG}{m:Nat}{ds1 L:List Ds}
    (M:fD D P w K mg base Γ k) (lk:K.lookup f=aA ⟨oc,od,.func (eE name qual params body scope dV kV doc pm an g ct),osl⟩) (hcd:eD K g qual=aB) (hs:JG Γ ps scope=aB) (hm:Γ.N.length=ps.length+m) (hbo:body=b1++b2) (hd1:z9 ((aN R n).s {Γ with fz:=[]}) b1=aA ds1) (hds:z9 ((aN R n).s Γ) b2=aA L) (O:cT D mg base g (qual++".<locals>.") k Γ.lam Γ.lnm:=by exact cT.no rfl) :
    bI P w K mg base (cG P w) (k+1) f (eE name qual params body scope dV kV doc pm an g ct) ps (dY D ps.length (bA ps.length m (ds1++L))):=by
  subst hbo;simp only[JG,bK,eF,beq_iff_eq,mJ,decide_eq_true_eq,bne_iff_ne,ne_eq] at hs;obtain⟨⟨⟨⟨⟨⟨⟨⟨⟨h1,h2⟩,h3⟩,h4⟩,h5⟩,h6⟩,h7⟩,h8⟩,h9⟩,h10⟩:=hs;have G:∀x∈Γ.N,(Γ.cel.contains x=aB/\scope.names.lookup x=aA .cell)\/(Γ.cel.contains x=aD/\scope.names.lookup x=aA .local):=λx a=>by
    have q:=(h7 x a).2;cases V:Γ.cel.contains x with
    |true=>rw[V,if_pos rfl] at q;exact .inl ⟨rfl,beq_iff_eq.mp q⟩
    |false=>rw[V] at q;exact .inr ⟨rfl,beq_iff_eq.mp q⟩
  have C:∀x∈Γ.N,scope.names.lookup x=aA .local\/scope.names.lookup x=aA .cell:=λx a=>(G x a).elim (λz=>.inr z.2) λz=>.inl z.2;have S:cP Γ.N ps scope:=⟨h1,h2,h3,h4,h5,λx a=>C x (by rw[<-h5] at a;exact ma a),h6⟩;refine GI (fnb:=λx=>!Γ.fz.contains x) lk hcd S (λvs H Q E q=>q.1) λA j s H vs Q E hr hsp o=>?_;obtain⟨hl,φ,α,ts,μ,d,mr,K0,Z0,⟨hle,q⟩,T,hz0⟩:=hsp;generalize I:Kx (cG P w) P w K mg base Γ.N qual scope f g A j s H E (λx=>!Γ.fz.contains x)=X;have F:iN X (gM qual scope s.heap.objs.size f g) j s.heap.objs.size:=by rw[<-I];exact⟨rfl,rfl,rfl⟩
  have U:X.fn=λx=>!Γ.fz.contains x:=by rw[<-I];rfl
  have CK:∀(l:List aG),(∀x∈l,x∈Γ.fz)->Sk D (eI E) {Γ with fz:=l} (fK (X.wish (XP X (eI E))) λx=>!l.contains x || !Γ.fz.contains x) k:=λl hl'=>by
    have xe:∀e s,XP (fK (X.wish (XP X (eI E))) λx=>!l.contains x || !Γ.fz.contains x) (eI E) e s->XP X (eI E) e s:=λe s p=>by
      have p2:XP (fK (X.wish (XP X (eI E))) λx=>!Γ.fz.contains x) (eI E) e s:=OF (λx a=>by rw[a,sk]) p;exact wF (show XP (X.wish (XP X (eI E))) (eI E) e s by rw[<-U] at p2;exact p2)
    have pso:nr (aR X.prog X.w) X.A X.env (XP X (eI E)):=λe s p=>jd F (jg p) e s p;subst I
    exact { hK := M.hK,hN := rfl,nd := h4,vis := fun x a => (C x a).elim .inl fun z => .inr (.inl z),dbg := fun x a => ⟨beq_eq_false_iff_ne.mpr (h7 x a).1.1,beq_eq_false_iff_ne.mpr (h7 x a).1.2⟩,
            dbG:=λx a=>(M.glo x (by simpa using (h8 x a).1)).2,glb:=λx a=>(h8 x a).2,glo:=λx a=>(M.glo x (by simpa using (h8 x a).1)).1,glU:=M.glo,
            cel:=λx a=>.inl ((G x (by simpa using h9 x a)).elim (λz=>z.2) λz=>by have:=z.1;rw[iq.mpr a] at this;cases this),
            isi:=M.isi,fld:=M.fld,xcx:=M.xcx,ocx:=M.ocx,clv:=M.clv,clm:=λ_=>rfl,rom:=λ_=>hr,rmh:=⟨hr.dp,hr.un⟩,xe:=xe,frm:=⟨_,_,_,F.stk,F.f0,F.fe⟩,lam:=O,kfz:=λ_ x a=>⟨by show (!l.contains x || !Γ.fz.contains x)=aD;rw[iq.mpr a,iq.mpr (hl' x a)];rfl,λc e=>(o x c e).1⟩,
            sto:=λx a=>by
              obtain⟨z1,z2⟩:=h_.mp a;exact⟨C x z1,.inl (by show (!l.contains x || _)=aB;rw[show (!l.contains x)=aB from z2];rfl)⟩,lcl:=λx a V=>(G x a).elim (λz=>by rw[z.1] at V;cases V) λz=>z.2,pso:=pso,xmt:=M.xmt}
  have B:fS X (b1++b2) (λE1 r Y=>(∀y c,X.env.cells.lookup y=aA c->X.s₀.heap.objs.size<=c/\Y c=aF)/\cZ D (eI E) (zK (ds1++L)) E1 r Y):=λu s1 r Y E1 I1 ⟨hf,q⟩=>by
    have I2:Inv (fK (X.wish (XP X (eI E))) λ_=>aB) u r Y s1:=by
      have J:=I1.wish (XP X (eI E));subst I;exact⟨⟨J.ok.mod,J.ok.kind,J.ok.glob,J.ok.blt,J.ok.above,J.ok.inj,J.ok.has,λx c _ e=>(hf x c e).1,J.ok.hd,J.ok.frames,J.ok.stk,J.ok.exf,J.ok.bs,J.ok.bsz,J.ok.noex,J.ok.exfs,J.ok.funs,J.ok.frf⟩,J.os,J.bare,J.base,J.loc,J.cell,J.free,λx c e=>.inl (hf x c e).2,J.pin,J.hok,J.len⟩
    have C1:=zS (qw HR n) (CK [] (by simp)) hd1;have C2:=zS (qw HR n) (CK Γ.fz λ_ h=>h) hds;have e1:(λx=>!([]:List aG).contains x || !Γ.fz.contains x)=λ_=>aB:=by funext x;rfl
    have e2:(λx=>!Γ.fz.contains x || !Γ.fz.contains x)=X.fn:=by rw[U];funext x;exact Bool.or_self _
    rw[e1] at C1;rw[e2] at C2;refine cR (Xn (X:=X.wish (XP X (eI E))) C2 C1 u s1 r Y E1 I2 q) (λf s' q=>SP.unwish q) λe s' p=>?_;have p:XP X (eI E) e s':=p;have:=Jq (M:=aR X.prog X.w) (F2:=λe' s''=>cG X.prog X.w X.outer X.H₀ X.s₀ E e' s'') F (jg p) (by rw[<-I];rfl) p;subst I;exact this
  have hmm:Γ.N.length-ts.length=m:=by omega
  refine⟨_,B,by rw[<-I];exact o,φ,α,_,μ,KG d,mr,{nx:=λ_ b=>K0 .non b,rt:=K0,bk:=λ_ _=>False,ct:=λ_ _=>False,ex:=λc fs _ b=>Z0 c fs b},by rw[hmm];exact q,λ_ b z i Z σ' st m _=>T _ _ z i Z st m .non rfl,λ_ _ z=>z.elim,λ_ _ z=>z.elim,λt b z i Z v st m dv=>T _ _ z i Z st m v dv,λc fs _ b z i Z σ' C1 dd st m _ ad xd=>hz0 c fs b z i Z C1 dd st m ad xd⟩
theorem kS{R:cK}(l:b8 D R){f:aE}{name qual:aG}{params:Arguments}{body:List bB}{scope:Scope}{h kV doc g a ct i:aC}{an od:Option aE}{c:Array (Option aC)}{ps:List aG}{m:Nat}{ds:List Ds}
  (M:fD D P w K mg base Γ k) (lk:K.lookup f=aA ⟨i,od,.func (eE name qual params body scope h kV doc g an a ct),c⟩) (e:eD K a qual=aB) (hs:JG Γ ps scope=aB) (j:Γ.N.length=ps.length+m) (d:z9 ((aN R n).s Γ) body=aA ds) (b:cT D mg base a (qual++".<locals>.") k Γ.lam Γ.lnm:=by exact cT.no rfl) :
  bI P w K mg base (cG P w) (k+1) f (eE name qual params body scope h kV doc g an a ct) ps (dY D ps.length (bA ps.length m ds)):=V_ (b1:=[]) (ds1:=[]) l M lk e hs j rfl rfl d b
theorem qy{n m:Nat}{ds:List Ds}:∀ts d K Z,bA n m ds ts d K Z->ts.length=n:=λ_ _ _ _ h=>h.1
end
noncomputable def Km:bH->Bool
 |[]=>aB
 |p::r=>(match p.2.cls with|.type t=>t != "list" | _=>aB)&&Km r
theorem Yf:∀{K:bH}{a:aE}{o:a_},Km K=aB->K.lookup a=aA o->o.cls≠.type "list"
 |[],_,_,_,h=>by cases h
 |(b,p)::r,a,o,c,h=>by
  simp only[Km,bK] at c;rw[fH] at h;cases q:a==b with
  |true=>
   rw[q] at h;cases h;intro e;have d:=c.1;rw[e] at d;exact absurd d (by decide)
  |false=>rw[q] at h;exact Yf c.2 h
theorem Wu:∀(ns:List Int),aM D φ α H (ns.map T.int) (ns.map V.int)
 |[]=>rfl
 |n::r=>⟨.int n,r.map V.int,rfl,rfl,Wu r⟩
noncomputable def iz:List aG:=["moments","houses","counts","start","turns","holder","lease","until","is_cut","shape","grants","house","begin","end","ahead","stride","keeper","mark","newest","batches","has_fallen","clock","kept","common","given","now","seats","world","line","by"]
theorem Oj:iz.Nodup:=by decide +kernel
structure iB where
 xs:List (Nat×aE)
 cs:List (Nat×aE)
noncomputable def mf (K:bH)(A:iB)(clo:Nat->aE->Option HO->List V->Prop)(tabs:Nat->Option (aE×List Pos×aG):=λ_=>aF):DP:=⟨K,λc=>A.xs.lookup c,λc=>A.cs.lookup c,λi=>iz[i]?,λi j x b a=>xB Oj b a,clo,tabs⟩
noncomputable def cn (cls fld:List (aG×Nat)) (gs:List (aG×GM)) (N G cel own:List aG) (lam:Option (Nat×List Pos):=aF) (lnm:aG:="<lambda>"):Cn where
 N:=N
 G:=G
 calm:=aB
 gl:=λx=>(gs.lookup x).getD .bad
 cls:=cls
 fld:=fld
 U:=gs.map (·.1)
 cel:=cel
 own:=own
 lam:=lam
 lnm:=lnm
noncomputable def BW (A:iB):List (Nat×aC):=[(0,.type "NoneType"),(1,.type "bool"),(2,.type "int"),(3,.type "str"),(4,.type "tuple"),(5,.type "list"),(6,.type "dict")]++(A.xs.map λp=>(p.1,b9 p.2))++A.cs.map λp=>(p.1,b9 p.2)
noncomputable def Br(K:bH)(c:aG):Option aC:=match mD K bE c with
 |some (aA v)=>aA v
 |some aF=>if c==("__name__":aG) then aF else fW c
 |none=>aF
noncomputable def Mc:aC->Bool
 |.ref _=>aB
 |.type _=>aB
 |_=>aD
noncomputable def m3 (o:Option (Option aC))(s:String):Bool:=match o with
 |some (aA (.builtin x))=>x==s
 |_=>aD
theorem Zk(h:m3 o s=aB):o=aA (aA (.builtin s)):=by
 unfold m3 at h;split at h
 .rw[beq_iff_eq.mp h]
 .cases h
noncomputable def n_(o:Option (Option aC)):Bool:=match o with
 |some aF=>aB
 |_=>aD
theorem V1(h:n_ o=aB):o=aA aF:=by
 unfold n_ at h;split at h
 .rfl
 .cases h
noncomputable def gV(o:Option Bool)(b:Bool):Bool:=match o with|some c=>c==b|none=>aD
theorem kG(h:gV o b=aB):o=aA b:=by
 cases o with
 |none=>cases h
 |some c=>have:(c==b)=aB:=h;rw[beq_iff_eq.mp this]
noncomputable def ru (K:bH)(C:aE):Bool:=m3 (cD K (.ref C) "__class__") "object.__class__"&&m3 (lU K (.builtin "object.__class__") "__get__") "getset_descriptor.__get__"&&gV (pJ K (.builtin "object.__class__")) aB&&gV (gF K C (.type "object")) aB
noncomputable def GH(K:bH)(C:aE):Bool:=ru K C&&m3 (cD K (.ref C) "__getattribute__") "BaseException.__getattribute__"&&n_ (cD K (.ref C) "__getattr__")&&gV (gF K C (.type "BaseException")) aB&&(gV (gF K C (.type "KeyError")) aD&&gV (gF K C (.type "ZeroDivisionError")) aD)&&(lS K C).isSome
noncomputable def BF(K:bH)(C:aE):Bool:=ru K C&&nQ K C lP&&iT K C&&sU K C&&m3 (cD K (.ref C) "__setattr__") "object.__setattr__"
noncomputable def chk (K:bH)(A:iB)(cls fld:List (aG×Nat)):Bool:=
 cls.all (λp=>match Br K p.1 with
  |some v=>Mc v&&(BW A).all (λq=>gV (pi K q.2 v) (zD q.1 p.2))&&(dX 40 p.2 || (match v with|.ref C=>A.xs.all (λq=>gV (i4 K (.ref q.2) (.ref C)) (zD q.1 p.2))|_=>aB))
  |none=>aD)&&
 A.xs.all (λq=>GH K q.2)&&A.cs.all (λq=>BF K q.2&&fld.all (λp=>n_ (cD K (.ref q.2) p.1)))&&fld.all (λp=>match iz[p.2]? with|some x=>x==p.1|none=>aD)
theorem Zl{K:bH}(X:K.In h)(G:h.Ns bE mg)(e:Br K c=aA v):Zc mg c v/\∀u,Zc mg c u->u=v:=by
 unfold Br at e;split at e
 .rename_i b q;cases e;have m:=bY X G q;refine⟨.inl m,λu z=>?_⟩;rcases z with z|⟨z,_⟩
  .rw[m] at z;cases z;rfl
  .rw[m] at z;cases z
 .rename_i q;have m:=D5 X G q;split at e
  .cases e
  .rename_i a;refine⟨.inr ⟨m,e,λz=>a (by rw[z];rfl)⟩,λu z=>?_⟩;rcases z with z|⟨_,z,_⟩
   .rw[m] at z;cases z
   .rw[e] at z;cases z;rfl
 .cases e
theorem zL{α β:Type}[BEq α][LawfulBEq α]{x:α}{v:β}:∀{l:List (α×β)},l.lookup x=aA v->(x,v)∈l
 |[],h=>by cases h
 |(y,w)::r,h=>by
  rw[fH] at h;cases q:x==y with
  |true=>rw[q] at h;cases h;rw[beq_iff_eq.mp q];exact fZ
  |false=>rw[q] at h;exact eH _ (zL h)
theorem dM{α:Type}:∀{l:List (aG×α)},x∈l.map (·.1)->∃v,l.lookup x=aA v
 |[],h=>by simp at h
 |(y,w)::r,h=>by
  rw[fH];cases q:x==y with
  |true=>exact⟨w,rfl⟩
  |false=>
   rcases dG.mp h with z|z
   .have z:x=y:=z;rw[z] at q;simp at q
   .exact dM z
section
variable {P:Program}{w:World}{K:PySem.W.Frag}{mg:aG->Option aC}{base:aT}{A:iB}{clo:Nat->aE->Option HO->List V->Prop}{cls fld:List (aG×Nat)}{gs:List (aG×GM)}{N G cel own:List aG}{k:Nat}{lam:Option (Nat×List Pos)}{tabs:Nat->Option (aE×List Pos×aG)}
theorem O0(h:VC (mf K A clo tabs) t u):(t,u)∈BW A:=by
 unfold BW;rcases h with⟨rfl,rfl⟩|⟨rfl,rfl⟩|⟨rfl,rfl⟩|⟨rfl,rfl⟩|⟨rfl,rfl⟩|⟨rfl,rfl⟩|⟨C,h,rfl⟩|⟨rfl,rfl⟩|⟨C,h,rfl⟩
 .simp
 .simp
 .simp
 .simp
 .simp
 .simp
 .exact d9 _ (dR _ (ly.mpr ⟨(t,C),zL h,rfl⟩))
 .simp
 .exact dR _ (ly.mpr ⟨(t,C),zL h,rfl⟩)
noncomputable def a7 (P:bZ)(w:cX)(K:bH)(mg:aG->Option aC)(base:aT)(A:iB)(clo:Nat->aE->Option HO->List V->Prop)(k:Nat)(gs:List (aG×GM))(tabs:Nat->Option (aE×List Pos×aG):=λ_=>aF):Prop:=∀p∈gs,cU (mf K A clo tabs) P w K mg base k p.1 p.2/\(p.1==("__debug__":aG))=aD
theorem cU.mono(h:j<=k)(q:cU D P w K mg base j x g):cU D P w K mg base k x g:=by
 cases g with
 |fn f=>obtain⟨fa,a,fd,ps,kk,b,c,d,r⟩:=q;exact⟨fa,a,fd,ps,kk,b,c,cV d h,r⟩
 |fnh nm f=>obtain⟨fa,a,fd,ps,kk,b,c,d,r⟩:=q;exact⟨fa,a,fd,ps,kk,b,c,cV d h,r⟩
 |met c nm f=>obtain⟨C,fI,fd,ps,kk,a,b,c,d,e,G,r⟩:=q;exact⟨C,fI,fd,ps,kk,a,b,c,d,e,cV G h,r⟩
 |mk c z f=>obtain⟨C,fI,fd,ps,kk,a,b,c,d,e,r⟩:=q;exact⟨C,fI,fd,ps,kk,a,b,c,d,cV e h,r⟩
 |xin c f nm fl=>obtain⟨C,HE,fI,fd,ps,kk,A,y,u,s,p,o,r⟩:=q;exact⟨C,HE,fI,fd,ps,kk,A,y,u,s,p,cV o h,r⟩
 |mkd c nm n f=>obtain⟨C,fI,fd,ps,kk,a,b,c,d,e,r⟩:=q;exact⟨C,fI,fd,ps,kk,a,b,c,d,cV e h,r⟩
 |metd c nm n d f=>obtain⟨C,fI,fd,ps,kk,du,dv,A,y,u,s,p,o,J,I,r⟩:=q;exact⟨C,fI,fd,ps,kk,du,dv,A,y,u,s,p,o,J,cV I h,r⟩
 |kap ls=>exact⟨λj l ts φ α H v e d=>let ⟨a,kk,m,i,E⟩:=q.1 j l ts φ α H v e d;⟨a,kk,m,cV i h,E⟩,q.2⟩
 |kpr=>exact⟨λt φ α H v B d=>let ⟨a,kk,m,F,i⟩:=q.1 t φ α H v B d;⟨a,kk,m,cV F h,i⟩,q.2⟩
 |_=>exact q
theorem a7.mono(h:j<=k)(q:a7 P w K mg base A clo j gs tabs):a7 P w K mg base A clo k gs tabs:=λp a=>⟨(q p a).1.mono h,(q p a).2⟩
theorem a7.add (q:a7 P w K mg base A clo k gs tabs) (h:cU (mf K A clo tabs) P w K mg base k x g) (hx:(x==("__debug__":aG))=aD):a7 P w K mg base A clo k ((x,g)::gs) tabs:=λp a=>by
 rcases dG.mp a with rfl|z
 .exact⟨h,hx⟩
 .exact q p z
noncomputable def Ya(bs:List aG)(xs:List (aG×Nat))(ys:List (aG×Nat×Nat)):List (aG×GM):=bs.map (λx=>(x,GM.none))++xs.map (λx=>(x.1,GM.xcl x.2))++ys.map (λx=>(x.1,GM.xcf x.2.1 x.2.2))
noncomputable def rP (K:bH)(A:iB)(x:aG)(c:Nat):Bool:=match A.xs.lookup c,mD K bE x with
 |some C,aA (aA (.ref a))=>C==a
 |_,_=>aD
noncomputable def BO(K:bH)(A:iB)(bs:List aG)(xs:List (aG×Nat))(ys:List (aG×Nat×Nat)):Bool:=
 bs.all (λx=>x != ("__debug__":aG)&&n_ (mD K bE x))&&
 xs.all (λx=>x.1 != ("__debug__":aG)&&rP K A x.1 x.2)&&ys.all (λx=>x.1 != ("__debug__":aG)&&rP K A x.1 x.2.1)
theorem HM(X:K.In base)(d:base.Ns bE mg)(h:rP K A x c=aB):∃C,A.xs.lookup c=aA C/\mg x=aA (.ref C):=by
 unfold rP at h;split at h
 .rename_i C e b a;have h:C=e:=beq_iff_eq.mp h;subst h;exact⟨C,b,bY X d a⟩
 .cases h
noncomputable def gH (K:bH)(A:iB):List (aG×Nat)->Prop
 |[]=>True
 |p::r=>(∃C,A.xs.lookup p.2=aA C/\eM K C zr "ValueError.__new__"=aB)/\gH K A r
theorem gH.at:∀{xs:List (aG×Nat)}{p:aG×Nat},gH K A xs->p∈xs->∀C,A.xs.lookup p.2=aA C->eM K C zr "ValueError.__new__"=aB
 |q::r,p,h,a,C,e=>by
  rcases dG.mp a with rfl|z
  .obtain⟨c,b,x⟩:=h.1;rw[b] at e;cases e;exact x
  .exact gH.at h.2 z C e
theorem JO(X:K.In base)(f:base.Ns bE mg)(h:BO K A bs xs ys=aB)(i:gH K A xs):a7 P w K mg base A clo k (Ya bs xs ys) tabs:=by
 simp only[BO,bK,eF,bne_iff_ne,ne_eq] at h;intro p g;rcases cM.mp g with z|z
 .rcases cM.mp z with z|z
  .obtain⟨x,a,rfl⟩:=ly.mp z;obtain⟨c,b⟩:=h.1.1 x a;exact⟨D5 X f (V1 b),beq_eq_false_iff_ne.mpr c⟩
  .obtain⟨x,a,rfl⟩:=ly.mp z;obtain⟨c,b⟩:=h.1.2 x a;obtain⟨C,d,e⟩:=HM X f b;exact⟨⟨C,d,e,gH.at i a C d⟩,beq_eq_false_iff_ne.mpr c⟩
 .obtain⟨x,a,rfl⟩:=ly.mp z;obtain⟨c,b⟩:=h.2 x a;obtain⟨C,d,e⟩:=HM X f b;exact⟨⟨C,d,e⟩,beq_eq_false_iff_ne.mpr c⟩
theorem Zq(X:K.In base)(L:base.Ns bE mg)(R:chk K A cls fld=aB)(q:a7 P w K mg base A clo k gs tabs):fD (mf K A clo tabs) P w K mg base (cn cls fld gs N G cel own lam lnm) k:=by
 simp only[chk,bK,eF] at R;obtain⟨⟨⟨J,c2⟩,T⟩,c4⟩:=R;have cb:∀{C},ru K C=aB->cD K (.ref C) "__class__"=aA (aA (.builtin "object.__class__"))/\lU K (.builtin "object.__class__") "__get__"=aA (aA (.builtin "getset_descriptor.__get__"))/\pJ K (.builtin "object.__class__")=aA aB/\gF K C (.type "object")=aA aB:=λ{C} h=>by
  simp only[ru,bK] at h;exact⟨Zk h.1.1.1,Zk h.1.1.2,kG h.1.2,kG h.2⟩
 have M:∀c C,A.cs.lookup c=aA C->mj K C:=λc C h=>by
  have a:=(T _ (zL h)).1;simp only[BF,bK] at a;obtain⟨⟨⟨⟨I,H⟩,d⟩,F⟩,E⟩:=a;obtain⟨r,p,o,m⟩:=cb I;exact⟨⟨H,d,F,Zk E⟩,r,p,o,m⟩
 refine⟨rfl,λx Y=>?_,λt x c b u v hu Z=>?_,λc C x f j Q=>?_,λc C j=>?_,M,λx c b=>?_,λt x c b hlt Ct Cc B D=>?_⟩
 .obtain⟨g,O⟩:=dM (l:=gs) Y;have:=q _ (zL O);refine⟨?_,this.2⟩;show cU _ P w K mg base k x ((gs.lookup x).getD .bad);rw[O];exact this.1
 .have a:=J _ b;dsimp only at a;split at a
  .rename_i v' i;simp only[bK,eF] at a;have e:=(Zl X L i).2 v Z;subst e;exact kG (a.1.2 _ (O0 hu))
  .cases a
 .have a:=c4 _ Q;dsimp only at a;refine⟨?_,(M c C j).cl,V1 ((T _ (zL j)).2 _ Q)⟩;split at a
  .rename_i y U;show iz[f]?=aA x;rw[U,beq_iff_eq.mp a]
  .cases a
 .have a:=c2 _ (zL j);simp only[GH,bK] at a;obtain⟨⟨⟨⟨⟨I,H⟩,d⟩,F⟩,S⟩,E⟩:=a;obtain⟨r,p,o,m⟩:=cb I;exact⟨Zk H,V1 d,r,p,o,m,kG F,⟨kG S.1,kG S.2⟩,E⟩
 .have a:=J _ b;dsimp only at a;split at a
  .rename_i v i;simp only[bK] at a;have s:=a.1.1;refine⟨v,(match v with|.ref C=>V.ref C|.type n=>V.ty n|_=>V.non),(Zl X L i).1,?_⟩;cases v with
   |ref C=>exact .inl ⟨C,rfl,rfl⟩
   |type n=>exact .inr ⟨n,rfl,rfl⟩
   |_=>cases s
  .cases a
 .have a:=J _ b;dsimp only at a;split at a
  .rename_i v i;simp only[bK,sP] at a;have e:=(Zl X L i).2 (.ref Cc) (.inl D);subst e;have d:=a.2.resolve_left (λz=>by have:=Ep z;lia);simp only[eF] at d;exact kG (d _ (zL B))
  .cases a
end
section
variable {D:DP}{H:Hp}{φ α:List aE}{μ:aI}
theorem aL.layO(m:aL D φ α H μ)(g:H p=aF)(d:cQ D φ (α++[p]) (aX H p u) r p):aL D φ (α++[p]) (aX H p u) (μ++[r]):=by
 have st:aP α H (α++[p]) (aX H p u):=xS g;have s:=m.len;refine⟨by simp[s],?_,λb j=>?_,λb j=>?_,λi a o c f=>?_⟩
 .rw[mK];refine⟨m.nd,by simp,λa v b j=>?_⟩;rw[c8.mp j];intro z;exact za m g (z▸v)
 .rcases cM.mp j with h|h
  .exact m.dis b h
  .rw[c8.mp h];exact zb m g
 .obtain⟨u,e,n⟩:=m.phi b j;exact⟨u,z7 g b u e,n⟩
 .by_cases t:i<α.length
  .rw[eL t] at c;rw[eL (by lia)] at f;have d:=m.ob i a o c f;obtain⟨u,q,_⟩:=d.some;exact d.step st ((z7 g _ _ q).trans q.symm)
  .rw[fP (by lia)] at c f;have l:i-α.length=0:=by
    by_cases z:i-α.length=0
    .exact z
    .rw[mT (by simp;lia)] at c;cases c
   have k:i-μ.length=0:=by lia
   rw[l] at c;rw[k] at f;have c:aA p=aA a:=c;have f:aA r=aA o:=f;cases c;cases f;exact d
end
noncomputable abbrev eB2(op:T->T->aI->RE T)(f g:De):De:=λc d=>(f c d).bind λx b=>(g c b).bind λy a=>op x y a
noncomputable abbrev min2T(x y:T)(c:aI):RE T:=match x,y with
 |.int a,.int b=>.ok (.int (if b<a then b else a)) c
 |_,_=>.st
noncomputable abbrev max2T(x y:T)(c:aI):RE T:=match x,y with
 |.int a,.int b=>.ok (.int (if a<b then b else a)) c
 |_,_=>.st
section
variable {X:Cx}{D:DP}{W:XW}{Γ:Cn}{k:Nat}{pins:List (aE×a_)}{s:Shared}{σ:St}{H:Hp}{φ α:List aE}{τ:Sl}{μ:aI}{f g h:De}{a b:aH}{pos:Pos}
noncomputable def B2 (X:Cx)(D:DP)(W:XW)(fv:aC)(op:T->T->aI->RE T):Prop:=
 ∀(pins:List (aE×a_)) (s:aW) (σ:St) (H:Hp) (φ α:List aE) (μ:aI) (t c:T) (v a:V) (u b:aC) (Q:VK),Inv X pins σ H s->aL D φ α H μ->a6 D φ α H t v->a6 D φ α H c a->RelV v u->RelV a b->aJ D W φ α H σ (RV D φ Q) (op t c μ)->
  wpAny (aR X.prog X.w) X.A (call fv [u,b]) (EP X pins σ Q) X.xe s
theorem GJ (C:Ck D W Γ X k) {id:String}(hx:x∈Γ.G) (hg:Γ.gl x=.none) (hv:fW x=aA (.builtin id)) (hn:x≠"__name__") (r:aO a=aB) (o:aO b=aB) (hB:B2 X D W (.builtin id) op) (ha:PE X a (aV D W f)) (hb:PE X b (aV D W g)) :
  PE X (.Call (.Name x p0) [a,b] [] pos) (aV D W (eB2 op f g)):=by
 have K:=C.glo _ hx;rw[hg] at K;rintro h s u H Q I ⟨e,N,E,M,J,Z,p⟩;refine gP (qH I (C.glb _ hx) K hv ?_ hn (C.dbG _ hx))
 refine rc (aY (zj ha (zj hb zC (z3 o)) (z3 r) pos h s u H (λF t=>∃j i n l d c,F=[j,i]/\aL D e c t d/\a6 D e c t n j/\a6 D e c t l i/\aJ D W e c t u (RV D e Q) (op n l d)) I
  ⟨e,N,E,M,J,Z,p.bind.mono λn v w L z m1 Y j B=>⟨e,w,E,v,J.step z,m1,Y.bind.mono λl d c t y m2 V i A=>⟨j,i,n,l,d,c,rfl,m2,B.step y,A,V⟩⟩⟩) ?_) (z3 r) (zT (by simp[o]))
 rintro us R ⟨F,L,I1,S,j,i,n,l,d,c,rfl,m,B,A,q⟩;obtain⟨P,O,rfl,U,T⟩:=vals2 S;exact hB h R u L e c d n l j i P O Q I1 m B A U T q
theorem NM(k:X.calm=aB):B2 X D W (.builtin "min") min2T:=by
 intro a s e H n q o t B v w u x Q I b d m r g p;unfold min2T at p;split at p
 .cases d;cases m;obtain⟨A,rfl⟩:=r;obtain⟨y,rfl⟩:=g;refine min_two_ints (I.ok.hd k) λl f h=>?_;have c:Inv X a e H {s with heap:=l,toks:=f}:=I.kept h;rename_i i j;by_cases z:j<i
  .rw[if_pos z] at p ⊢;exact⟨.int j,H,c,⟨_,rfl⟩,p.here b rfl⟩
  .rw[if_neg z] at p ⊢;exact⟨.int i,H,c,⟨_,rfl⟩,p.here b rfl⟩
 .exact p.elim
theorem On(k:X.calm=aB):B2 X D W (.builtin "max") max2T:=by
 intro a s e H n q o t B v w u x Q I b d m r g p;unfold max2T at p;split at p
 .cases d;cases m;obtain⟨A,rfl⟩:=r;obtain⟨y,rfl⟩:=g;refine max_two_ints (I.ok.hd k) λl f h=>?_;have c:Inv X a e H {s with heap:=l,toks:=f}:=I.kept h;rename_i i j;by_cases z:i<j
  .rw[if_pos z] at p;rw[if_pos (show j > i from z)];exact⟨.int j,H,c,⟨_,rfl⟩,p.here b rfl⟩
  .rw[if_neg z] at p;rw[if_neg (show ¬j > i from z)];exact⟨.int i,H,c,⟨_,rfl⟩,p.here b rfl⟩
 .exact p.elim
theorem intsAre_of:∀{ns:List Int}{us:List aC},aU (ns.map V.int) us->d5 us ns
 |[],_,.nil=>.nil
 |n::ns,_,.cons r q=>by
  obtain⟨t,rfl⟩:=r;exact .cons n t (intsAre_of q)
theorem ZY:∀{ns:List aG},aM D φ α H (ns.map T.str) (ns.map V.str)
 |[]=>rfl
 |n::ns=>⟨V.str n,_,rfl,rfl,ZY⟩
theorem kc:∀{ts:List T}{a:List aG}{vs:List V},bM ts=aA a->aM D φ α H ts vs->vs=a.map V.str
 |[],a,vs,h,l=>by
  simp[bM] at h;subst h;exact l
 |.str x::r,a,vs,h,l=>by
  obtain⟨v,q,rfl,d,l⟩:=l;simp only[bM,gR] at h;obtain⟨b,h,rfl⟩:=h;cases d;rw[kc h l];rfl
end
noncomputable def BY (nm:aG)(op:T->T->aI->RE T):ER:=λr a e=>(kK e).bind λq=>(AS q.as).bind λw=>gd (q.x==nm) (gd ((b7 a.N q.x).isNone&&aO w.1) (gd (aO w.2&&a.calm) (gd (jp (a.look nm)) ((r.e a w.1).bind λf=>(r.e a w.2).bind λg=>aA (eB2 op f g)))))
theorem UN(s:∀{X:Cx}{W:XW}{Γ:Cn}{k:Nat}{a b:aH}{f g:De}{p0 pos:Pos},Ck D W Γ X k->nm∈Γ.G->Γ.gl nm=.none->Γ.calm=aB->aO a=aB->aO b=aB->PE X a (aV D W f)->PE X b (aV D W g)->PE X (.Call (.Name nm p0) [a,b] [] pos) (aV D W (eB2 op f g))):cA D (BY nm op):=by
 intro r H X W Γ k e d C h;obtain⟨q,p,h⟩:=aS h;obtain⟨w,l,h⟩:=aS h;obtain⟨j,h⟩:=z8 h;obtain⟨o,h⟩:=z8 h;obtain⟨i,h⟩:=z8 h;obtain⟨c,h⟩:=z8 h;obtain⟨f,n,h⟩:=aS h;obtain⟨g,m,h⟩:=aS h;cases h;rw[qc p,Xt l,qp j];exact s C (zA c).1 (zA c).2 (zp i).2 (zp o).2 (zp i).1 (H.e C n) (H.e C m)
noncomputable def G9:ER:=BY "min" min2T
theorem XV:cA D G9:=UN λC a b c g f e d=>GJ C a b (by decide +kernel) (by decide) g f (NM (C.clm c)) e d
noncomputable def Gu:ER:=BY "max" max2T
theorem Tp:cA D Gu:=UN λC a b c g f e d=>GJ C a b (by decide +kernel) (by decide) g f (On (C.clm c)) e d
noncomputable abbrev Xh(c:Nat)(g:Fn)(ts:List T)(b:aI):RE T:=λK Z=>g (.mut b.length::ts) (b++[.obj c []]) (λr a=>r=.non/\K (.mut b.length) a) Z
noncomputable abbrev eMkL(c:Nat)(g:Fn)(fs:List De):De:=λa b=>(fB fs a b).bind (Xh c g)
noncomputable abbrev eMeth(c:Nat)(g:Fn)(o:De)(as:List De):De:=λd h=>(o d h).bind λt b=>match t with
 |.obj f fs=>.grd (f=c) ((fB as d b).bind λe a=>g (.obj f fs::e) a)
 |.mut i=>λK Z=>∃fs,b[i]?=aA (.obj c fs)/\(fB as d b).bind (λe a=>g (.mut i::e) a) K Z
 |_=>.st
section
variable {X:Cx}{D:DP}{W:XW}{Γ:Cn}{k:Nat}{pins:List (aE×a_)}{s:Shared}{σ:St}{H:Hp}{φ α:List aE}{τ:Sl}{μ:aI}{fs:List De}{c:aH}{pos:Pos}{es:List aH}
theorem Xr{c:Nat}{g:Fn}{C0 fI:aE}{kk:Nat}{vs:List V}{ts:List T}{Q:VK}(C:Ck D W Γ X k)(ad:D.cad c=aA C0)(M:Mk X.K C0 fI)(F:bI X.prog X.w X.K X.mg X.base (cG X.prog X.w) kk fI fd ps (dY D ps.length g))
  (hr:bU (kk+1) X.A) (hb:Binds X.K fd ps []) (P:∀ts μ K Z,g ts μ K Z->ts.length=ps.length) (I:Inv X pins σ H s) (r:aU vs us) (U:aL D φ α H μ) (d:aM D φ α H ts vs) (p:aJ D W φ α H σ (RV D φ Q) (Xh c g ts μ)) :
  wpAny (aR X.prog X.w) X.A (call (.ref C0) us) (EP X pins σ Q) X.xe s:=by
 obtain⟨K,Z,Y,hk,hz⟩:=p;have N:(T.mut μ.length::ts).length=ps.length:=P _ _ _ _ Y;have hq:∀x dx,H x=aF->H dx=aF->dx≠x->dY D ps.length g (.ref x::(vs++[])) (aX (aX H dx (.own x)) x (.ins C0 dx [])) (λv H2=>v=.non/\Q (.ref x) H2) (λc d h=>W c d σ h):=by
  intro x dx hx O J;have l:j6 H (aX H dx (.own x)):=z7 O;have n:aX H dx (.own x) x=aF:=by rw[z6 (c7 J)];exact hx
  have B:aL D φ α (aX H dx (.own x)) μ:=U.new l;have j:aP α H (α++[x]) (aX (aX H dx (.own x)) x (.ins C0 dx [])):=(aP.new l).trans (xS n);have z:aL D φ (α++[x]) (aX (aX H dx (.own x)) x (.ins C0 dx [])) (μ++[.obj c []]):=B.layO n ⟨C0,dx,[],ad,z4,rfl⟩;have b:(α++[x])[μ.length]?=aA x:=by rw[<-U.len,fP (bG _)];simp
  refine⟨by simp only[eG,hZ] at N ⊢;rw[<-d.length];exact N,φ,α++[x],.mut μ.length::ts,μ++[.obj c []],⟨.ref x,vs++[],rfl,⟨x,b,rfl⟩,by rw[hZ];exact d.step j⟩,z,_,_,Y,?_,?_⟩
  .rintro t y ⟨rfl,q⟩ i S st m v dv;refine⟨dv,?_⟩;obtain⟨β,e,_⟩:=st.ext;refine hk _ _ q i S (j.trans st) m _ ⟨x,?_,rfl⟩;rw[e,eL (cH.mp b).1];exact b
  .rintro e fs y q i S C1 d1 st m R xd;exact hz _ _ _ q i S C1 d1 (j.trans st) m R xd
 have G:=hq (s.heap.objs.size+1) s.heap.objs.size (I.hok.fresh (iW _)) (I.hok.fresh (bG _)) (dF (iY _));have o:=Inv.made (C:=C0) I;have r2:aU (V.ref (s.heap.objs.size+1)::(vs++[])) (b9 (s.heap.objs.size+1)::us):=.cons rfl (by rw[hZ];exact r);have L:(b9 (s.heap.objs.size+1)::us++[]).length=ps.length:=by
  rw[hZ,eG,<-r.length,<-d.length];exact N
 refine hO (VW (f:=fI) I.kIn M.makes M.init (beq_iff_eq.mp M.fn) (iS (F.run _ X.stack _ _ ⟨b9 (s.heap.objs.size+1)::us,[]⟩ (b9 (s.heap.objs.size+1)::us) _ _ (λc d h=>W c d σ h) (hr.make C0 us [])
  (o.env0.make C0 us []) (by simpa using hb _ (b9 (s.heap.objs.size+1)::us) o.kIn L) r2 G) λr s' a=>?_))
 cases r with
 |error e=>exact C.xe e s' (xJ (E:=λc d h=>W c d σ h) o a λcls d h w=>w)
 |ok fl=>
  cases fl with
  |ret u=>
   obtain⟨v,h,I3,rv,ev,q3⟩:=o.after a;subst ev;exact⟨rv,⟨V.ref (s.heap.objs.size+1),h,I3,rfl,q3⟩⟩
  |next=>exact dL a
  |brk=>exact dL a
  |cont=>exact dL a
theorem Tw(C:Ck D W Γ X k){c:Nat}{g:Fn}(hx:x∈Γ.G)(B:Γ.gl x=.mk c aD g)(E:Γ.calm=aB)(i:cW X D W es fs):PE X (.Call (.Name x p0) es [] pos) (aV D W (eMkL c g fs)):=by
 have q:=C.glo x hx;rw[B] at q;obtain⟨C0,V,fd,T,U,ad,A,M,n,h,Fn,a⟩:=q;have m:=(C.rom E).mono h;have d:=i.stars;have z:=wC i;rintro j s L H Q I ⟨J,O,K,N,w,l,p⟩;refine gP (zR I (C.glb x hx) A ?_ (C.dbG x hx));cases es with
 |nil=>
  cases fs with
  |nil=>exact nM I.kIn M.kp (Xr (ts:=[]) C ad M Fn m n a I .nil l rfl p)
  |cons f fs=>exact i.elim
 |cons e es=>
  simp only[iX,bK] at d;refine mL (h₀:=X.base) I.ok.mod.kin M.kp (aY (n7 z I w l p) ?_) (z3 d.1) (zT d.2);rintro R S ⟨P,Y,ts,r,t,o,y,u,v,b,F,_,p1⟩;exact⟨o.kIn,Xr C ad M Fn m n a o y b F p1⟩
theorem ZG(a:∀i,D.fn i≠aA nm):∀{fs:List (Nat×T)}{gs:List (aG×V)},bD D φ α H fs gs->gs.lookup nm=aF
 |[],_,h=>by cases h;rfl
 |p::r,_,h=>by
  obtain⟨x,v,q,e,rfl,_,l⟩:=h;rw[fH];have:(nm==x)=aD:=by
   apply beq_false_of_ne;intro z;exact a p.1 (by rw[z];exact e)
  rw[this];exact ZG a l
theorem HF (hs : es.all aO = aB) (b : es.length < 30) : ((eU pos (dC es env)).all (fun x => !x.1) && (lm pos (lx [] env)).all (fun x => x.1.isSome)
      &&decide (es.length+([]:List iF).length+(if ([]:List iF).isEmpty then 0 else 1)<30))=aB:=by
  have e:=zT (env:=env) (pos:=pos) hs;have d:(eU pos (dC es env)).all (λx=>!x.1)=aB:=by
    rw[eF];intro x a;have:=D1.mp e x a;simpa using this
  rw[d];have c:(lm pos (lx [] env)).all (λx=>x.1.isSome)=aB:=rfl;rw[c];simpa using b
theorem RQ(C:Ck D W Γ X k){x m:aG}{c:Nat}{g:Fn}(hU:x∈Γ.U)(hg:Γ.gl x=.met c m g)(hc:Γ.calm=aB)(hp:zI o=aB)(r:(d.endLine==pos.line)=aB)(hl:es.length<30)(ho:PE X o (aV D W go))(ha:cW X D W es fs) :
  PE X (.Call (.Attribute o m d) es [] pos) (aV D W (eMeth c g go fs)):=by
 have q:=(C.glU x hU).1;rw[hg] at q;obtain⟨C0,fI,fd,ps,kk,ad,cl,M,K,hb,hkk,Fn,L⟩:=q;have hr:=(C.rom hc).mono hkk;have P:=ha.stars;have pa:=wC ha;rintro G s σ H Q I ⟨Y,α,τ,μ,sr,mr,p⟩;rw[ss,zU hp];refine wpAny_bind (aY (sub ho I sr mr p) ?_);rintro u s1 ⟨v,S,t,Z,j,O,r1,st1,sr1,n,R,p1⟩;refine wpAny_bind (fF ?_);have y:methodCallForm (es.length+([]:List iF).length) (eU pos (dC es X.env)) (lm pos (lx [] X.env))=aB:=HF P hl;have J:mH aB o X.env d pos=pure pos:=by unfold mH;simp[r]
 have go:∀{a dx:aE}{gs:List (aG×V)}{F:T},S a=aA (.ins C0 dx gs)->gs.lookup m=aF->u=.ref a->(∀b B,aP j S b B->a6 D Y b B F (.ref a))->aJ D W Y j S σ (RV D Y Q) ((fB fs τ Z).bind λts E=>g (F::ts) E)->
   wpAny (aR X.prog X.w) X.A (nu o m d pos X.env u (es.length+([]:List iF).length) (eU pos (dC es X.env)) (lm pos (lx [] X.env))) (EP X G σ Q) X.xe s1:=λ{a dx gs F} N lk hu hd z=>by
  subst hu;unfold nu;rw[y];refine wpAny_bind (wpAny_holding (JN O N cl M lk ?_));refine wpAny_bind (lQ J ?_);have d0:=hd j S (aP.refl _ _);cases es with
  |nil=>
   cases fs with
   |nil=>exact nM (first:=[.ref a]) O.kIn M.kp (ug (ts:=[F]) (us:=[.ref a]) (vs:=[.ref a]) C Fn hr hb L O (.cons rfl .nil) n ⟨_,_,rfl,d0,rfl⟩ z)
   |cons f fs=>exact ha.elim
  |cons e es=>
   simp only[iX,bK] at P;refine mL (first:=[.ref a]) (h₀:=X.base) O.ok.mod.kin M.kp (aY (n7 pa O sr1 n z) ?_) (z3 P.1) (zT P.2);rintro us s2 ⟨vs,B,ts,E,b,I2,r2,st2,sr2,mr2,d2,_,p3⟩;exact⟨I2.kIn,ug (ts:=F::ts) (us:=.ref a::us) (vs:=.ref a::vs) C Fn hr hb L I2 (.cons rfl r2) mr2 ⟨_,_,rfl,hd b B st2,d2⟩ p3⟩
 cases t with
 |obj c' gf=>
  obtain⟨hcc,z⟩:=aJ.grd p1;subst hcc;obtain⟨a,C1,dx,gs,rfl,n1,n2,h,N,l⟩:=id R;rw[ad] at h;cases h;exact go N (ZG K l) r1 (λb B st=>R.step st) z
 | «mut» i=>
  obtain⟨gf,hi,z⟩:=aJ.ex1 p1;obtain⟨a,hi',rfl⟩:=id R;obtain⟨C1,dx,gs,h,N,l⟩:=n.ob i a _ hi' hi;rw[ad] at h;cases h;exact go N (ZG K l) r1 (λb B st=>R.step st) z
 |_=>exact aJ.elim p1
end
noncomputable def AC (K:bH)(a:aE)(n:Nat):It:=⟨λi H=>∃xs x,f9 K H a xs/\xs.length=n/\i<n/\xs[n-1-i]?=aA x,λi H x b=>b=H/\∀xs,f9 K H a xs->xs[n-1-i]?=aA x,λi _=>i=n⟩
theorem z0m{P:bZ}{K:bH}(a it:aE)(n:Nat):fC P w K tg (AC K a n) [it] it (λi h=>h.IsRevIter it a ((n:Int)-1-(i:Int))) where
 mem:=by simp
 obj:=λi h st b g=>by
  have e:b=it:=by simpa using g
  subst e;obtain⟨o,e,c,d⟩:=st;exact⟨o,e,λv z=>by rw[d] at z;cases z⟩
 keep:=λi h q st k=>st.at λo e=>k it (by simp) o e
 item:=by
  intro X r hw t M i f s G H E I m st l;subst r hw t;obtain⟨xs,x,L,hn,hi,J⟩:=l;obtain⟨R,O,p,hz⟩:=I.list L;obtain⟨u,T,Q⟩:=O.get J;obtain⟨D,C,U,B,A,y⟩:=m it (by simp);have F:(n:Int)-1-(i:Int)=((n-1-i:Nat):Int):=by lia
  have V:(n:Int)-1-((i+1:Nat):Int)=((n-1-i:Nat):Int)-1:=by lia
  rw[F] at st;refine wpAny_pyNext_rev_item st p.isList (x:=u) (by simpa using T) λq j N=>?_;have Y:Inv X f G H {s with heap:=q}:=I.turned (t':=s.toks) (λb o g e=>(N.2 b g).trans e) D C B A y;obtain⟨o,e,c,d⟩:=id j;exact⟨u,rfl,yG (s:={s with heap:=q}) e c d (by decide) ⟨x,H,Y,Q,⟨rfl,λZ S=>by rw[I.list_inj S L];exact J⟩,by show Heap.IsRevIter _ _ _ _;rw[V];exact j,λb g=>(m b g).1⟩⟩
 done:=by
  intro X r hw t M i f s G H E I m st l;subst r hw t;obtain⟨D,C,U,B,A,y⟩:=m it (by simp);have l:i=n:=l;subst l;have F:(i:Int)-1-(i:Int) = -1:=by lia
  rw[F] at st;exact wpAny_pyNext_rev_end (I.ok.hd M) st λq eb=>⟨rfl,I.turned (t':=s.toks) (λb o g e=>eb b o g e) D C B A y⟩
 self:=λ_ _ _ _ _ st h=>tS st h
noncomputable abbrev rk(t:T)(a:aI):RI:=match t with
 |.lst xs=>.ok xs.reverse f7 a
 |.mut i=>λK _=>∃xs,a[i]?=aA (.lst xs)/\K xs.reverse (lF i xs) a
 |_=>.st
noncomputable abbrev iRev(f:De):Di:=λa b=>(f a b).it rk
section
variable {X:Cx}{D:DP}{W:XW}{Γ:Cn}{k:Nat}{pins:List (aE×a_)}{s:Shared}{σ:St}{H:Hp}{φ α:List aE}{τ:Sl}{μ:aI}{f:De}{a tg:aH}{pos:Pos}
theorem XJ{K:bH}{ad:aE}:le D (AC K ad xs.length) (λφ α H=>∃vs,Rd H ad (.lst vs)/\aM D φ α H xs vs) xs.reverse:=
 ⟨λi φ α H ⟨vs,ok,l⟩ a=>by
  have f:=l.length;have a:i<xs.length:=by simpa using a
  exact⟨vs,vs[xs.length-1-i]'(by omega),.inl ok,by omega,a,by simp⟩,λi φ α H v g t ⟨vs,ok,l⟩ a y=>by
  obtain⟨rfl,y⟩:=y;have b:i<xs.length:=by
   have:=(cH.mp a).1;simpa using this
  rw[Et b] at a;obtain⟨x,c,d⟩:=l.get a;have e:=y vs (.inl ok);rw[e] at c;cases c;exact⟨λ_ _ z=>z,d⟩,λφ α H _=>by show _=_;simp⟩
theorem Ov (C:Ck D W Γ X k) (hx:("reversed":aG)∈Γ.G) (hg:Γ.gl "reversed"=.none) (hs:aO a=aB) (ha:PE X a (aV D W f)) :
  PI X tg (.Call (.Name "reversed" p0) [a] [] pos) (gU D W (iRev f)):=by
 have hm:=C.glo _ hx;rw[hg] at hm;rintro z s B H R I ⟨i,S,τ,μ,sr,mr,p⟩;refine gP (qH I (C.glb _ hx) hm (show fW "reversed"=aA (.type "reversed") by decide +kernel) ?_ (by decide) (C.dbG _ hx));refine nV (aY (zj ha zC (z3 hs) pos z s B H (λy h=>∃v t g c,y=[v]/\aP S H c h/\aL D i c h g/\a6 D i c h t v/\aJ D W i c h B (λp n r N=>∀J Ok,le D J Ok p.1->Ch D i r N p.1 p.2 Ok->p.2 n->R J N) (rk t g).re) I ⟨i,S,τ,μ,sr,mr,(show aJ D W i S H B _ ((f τ μ).bind λt g=>(rk t g).re) from p).bind.mono λt n r N st m q v d=>⟨v,t,n,r,rfl,st,m,d,q⟩⟩) ?_) (z3 hs) rfl;rintro us x ⟨y,h,P,rv,v,t,g,c,rfl,st,m,d,q⟩;obtain⟨u,rfl,r1⟩:=vals1 rv;have fin:∀{ad:aE}{y:List V}{xs:List T}{lv:aI->Prop},u=.ref ad->Rd h ad (.lst y)->aM D i c h xs y->R (AC X.K ad xs.length) h->wpAny (aR X.prog X.w) X.A (call (.type "reversed") [u]) (λv x=>wpAny (aR X.prog X.w) X.A (mo v) (rQ X z B tg R) X.xe x) X.xe x:=λ{ad y xs lv} hu q l hR=>by
  subst hu;obtain⟨F,Y,pl,hz⟩:=P.list (.inl q);have M:F.toArray.size=xs.length:=by simp[<-Y.length,l.length]
  refine D7 pl.isList ?_;have hr:({x with heap:=x.heap.push (revObj ad ((F.toArray.size:Int)-1))}:aW).heap.IsRevIter x.heap.objs.size ad ((xs.length:Int)-1-((0:Nat):Int)):=⟨_,dQ _ rfl,rfl,by rw[<-M];simp[revObj]⟩;refine tS hr ?_;refine⟨x.heap.objs.size,[x.heap.objs.size],_,_,h,rfl,P.kept (t':=x.toks) λb o e=>bN _ e,z0m ad _ xs.length,hr,λb hb=>?_,hR⟩;have e:b=x.heap.objs.size:=by simpa using hb
  subst e;exact P.fpOk (bG _) (P.hok.fresh (bG _))
 cases t with
 |lst ts=>
  obtain⟨ad,y,rfl,n1,n2,O,l⟩:=d;have E:aJ D W i c h B _ (RE.ok (ts.reverse,f7) g):=q;refine fin (lv:=f7) r1 O l (E.ok (aP.refl _ _) m _ _ XJ (λQ r N n lk _ _=>?_) trivial);obtain⟨a',U,e,_,_,Z,l'⟩:=a6.lk lk (show a6 D i c h (.lst ts) (.ref ad) from ⟨ad,y,rfl,n1,n2,O,l⟩);cases e;exact⟨U,Z,l'⟩
 | «mut» j=>
  obtain⟨ad,hj,rfl⟩:=d;have E:aJ D W i c h B _ (λK _=>∃xs,g[j]?=aA (.lst xs)/\K (xs.reverse,lF j xs) g):=q;obtain⟨xs,L,E⟩:=E.ex1;obtain⟨y,O,l⟩:=m.ob j ad _ hj L;have E:aJ D W i c h B _ (RE.ok (xs.reverse,lF j xs) g):=E;refine fin (lv:=lF j xs) r1 (.inl O) l (E.ok (aP.refl _ _) m _ _ XJ (λQ r N n lk mm hl=>?_) L);obtain⟨U,Z,l'⟩:=mm.ob j ad _ (lk.st j ad hj) hl;exact⟨U,.inl Z,l'⟩
 |_=>exact aJ.elim q
end
theorem xU{K:bH}(a:chk K A cls fld=aB)(h:A.cs.lookup c=aA C):fV K C:=by
 simp only[chk,bK,eF] at a;obtain⟨⟨⟨m,l⟩,i⟩,k⟩:=a;have b:=(i _ (zL h)).1;simp only[BF,bK] at b;obtain⟨⟨⟨⟨j,g⟩,f⟩,e⟩,d⟩:=b;exact⟨g,f,e,Zk d⟩
noncomputable def Am:GM->Option (Nat×Fn)
 |.mk c aD g=>aA (c,g)
 |_=>aF
theorem PV(h:Am g=aA q):g=.mk q.1 aD q.2:=by
 unfold Am at h;split at h
 .cases h;rfl
 .cases h
noncomputable def Ff:ER:=λr a e=>(kK e).bind λq=>gd ((b7 a.N q.x).isNone&&a.calm) ((lb r a q.as).bind λfs=>(Am (a.look q.x)).bind λw=>aA (eMkL w.1 w.2 fs))
theorem PN:cA D Ff:=by
 intro r H X W j k e d C h;obtain⟨q,i,h⟩:=aS h;obtain⟨f,h⟩:=z8 h;obtain⟨fs,g,h⟩:=aS h;obtain⟨w,b,h⟩:=aS h;cases h;rw[qc i];obtain⟨a,c⟩:=qL (PV b) (by intro z;cases z);exact Tw C a c (zp f).2 (wB H C g)
noncomputable def c3(m:aG):aG:=⟨#[46]++m.cps⟩
noncomputable def Gq:GM->Option (Nat×aG×Fn)
 |.met c nm g=>aA (c,nm,g)
 |_=>aF
theorem PC(h:Gq g=aA q):g=.met q.1 q.2.1 q.2.2:=by
 cases g<;>first|(cases h;rfl)|cases h
noncomputable def wf (r:cO)(Γ:Cn)(ky:aG)(q:IN):Option De:=gd (zI q.o&&q.pa.endLine==q.pc.line) (gd (Γ.calm&&decide (q.as.length<30)) (gd (Γ.U.contains ky) ((r.e Γ q.o).bind λgo=>(lb r Γ q.as).bind λfs=>(Gq (Γ.gl ky)).bind λw=>gd (w.2.1==q.m) (aA (eMeth w.1 w.2.2 go fs)))))
theorem Xi{W:XW}(H:bP D r)(C:Ck D W Γ X k)(h:wf r Γ ky q=aA d):PE X (.Call (.Attribute q.o q.m q.pa) q.as [] q.pc) (aV D W d):=by
 obtain⟨c,h⟩:=z8 h;obtain⟨b,h⟩:=z8 h;obtain⟨l,h⟩:=z8 h;obtain⟨go,j,h⟩:=aS h;obtain⟨fs,i,h⟩:=aS h;obtain⟨w,g,h⟩:=aS h;obtain⟨f,h⟩:=z8 h;cases h;have a:=PC g;rw[qp f] at a;exact RQ C (by simpa using l) a (zp b).1 (zp c).1 (zp c).2 (of_decide_eq_true (zp b).2) (H.e C j) (wB H C i)
noncomputable def Gb:ER:=λr a e=>(yO e).bind λq=>wf r a (c3 q.m) q
theorem RT:cA D Gb:=by
 intro r H X W b k e d C h;obtain⟨q,a,h⟩:=aS h;rw[wI a];exact Xi H C h
noncomputable def Gw:IR:=λr b e=>(kK e).bind λq=>(ZQ q.as).bind λa=>gd (q.x==("reversed":aG)) (gd ((b7 b.N q.x).isNone&&aO a) (gd (jp (b.look "reversed")) ((r.e b a).bind λf=>aA (iRev f))))
theorem Tj:oM D Gw:=by
 intro r H X W m k n e d C o h;obtain⟨q,l,h⟩:=aS h;obtain⟨a,i,h⟩:=aS h;obtain⟨c,h⟩:=z8 h;obtain⟨g,h⟩:=z8 h;obtain⟨b,h⟩:=z8 h;obtain⟨f,j,h⟩:=aS h;cases h;rw[qc l,we i,qp c];exact Ov C (zA b).1 (zA b).2 (zp g).2 (H.e C j)
section
variable {X:Cx}{pins:List (aE×a_)}{s:Shared}{σ:St}{H:Hp}
theorem vd(I:Inv X pins σ H s)(ox:cN X H x)(k:∀p∈pins,p.1≠x)(hx:a8 X.prog X.w (aX H x o) s.heap x o):Inv X pins σ (aX H x o) s:=by
 have g:∀b,H b≠aF->b≠x:=λb h z=>h (by rw[z];exact ox.free);refine⟨I.ok,I.os,I.bare,⟨I.base.keep,I.base.slot,λb o e n d=>?_,I.base.there,λb xs e=>?_,λb o u e=>?_,λb i e=>?_⟩,I.loc,I.cell,?_,λy c e=>?_,λp f=>?_,λb j e=>?_,I.len⟩
 .have:b≠x:=λz=>by
   rcases ox.new with q|q
   .exact d (by rw[z];exact q)
   .rw[<-z,e] at q;cases q
  rw[z6 this];exact I.base.free b o e n d
 .have q:=I.base.tups b xs e;rw[z6 (g b (by rw[q];simp))];exact q
 .have q:=I.base.frzs b o u e;rw[z6 (g b (by rw[q];simp))];exact q
 .obtain⟨a,q⟩:=I.base.tbls b i e;exact⟨a,by rw[z6 (g b (by rw[q];simp))];exact q⟩
 .rw[z6 (c7 ox.loc)];exact I.free
 .rw[z6 (ox.cel y c e)];exact I.freeC y c e
 .obtain⟨e,n,r⟩:=I.pin p f;have:p.1≠x:=(cM.mp f).elim (ox.pin p) (k p);exact⟨e,by rw[z6 this];exact n,r⟩
 .by_cases z:b=x
  .subst z;rw[z4] at e;cases e;exact hx
  .rw[z6 z] at e;exact (I.hok b j e).stay (λ_ _ _ q=>q) (λc q=>by
    by_cases w:c=x
    .rw[w,ox.free] at q;cases q
    .rw[z6 w];exact q) λc _ q=>by
    by_cases w:c=x
    .rw[w,ox.free] at q;cases q
    .rw[z6 w];exact q
theorem HA(f:Vg X pins H b):cN X H b/\∀p∈pins,p.1≠b:=
 ⟨⟨f.1,f.2.1,f.2.2.1,f.2.2.2.1.imp id λh=>iJ h,f.2.2.2.2.1,λp a=>f.2.2.2.2.2 p (d9 _ a)⟩,λp a=>f.2.2.2.2.2 p (dR _ a)⟩
end
end NH
namespace L2
open PySem PySem.Spec PyProof.Rows
section
variable {κ:Type}[DecidableEq κ]
noncomputable def yh(a:List (κ×V))(k:κ):Option V:=(a.find? λb=>decide (b.1=k)).map (·.2)
noncomputable def dS(a:List (κ×V))(k:κ)(v:V):List (κ×V):=
 if (a.any λb=>decide (b.1=k))=aB then a.map (λb=>if b.1=k then (b.1,v) else b) else a++[(k,v)]
theorem kM{k:κ}(e:p.1=k):yh (p::r) k=aA p.2:=by simp[yh,pH,e]
theorem xR{k:κ}(e:¬p.1=k):yh (p::r) k=yh r k:=by simp[yh,pH,e]
theorem VZ(a:List (κ×V))(k:κ)(v:V):(dS a k v).length<=a.length+1:=by
 unfold dS;split
 .rw[eN];lia
 .rw[iI,eG,lA];lia
theorem cL.isSome_eq(r:cL o u):o.isSome=u.isSome:=by
 cases o with
 |none=>cases u with
  |none=>rfl
  |some _=>exact (show False from r).elim
 |some _=>cases u with
  |none=>exact (show False from r).elim
  |some _=>rfl
theorem cL.getD(r:cL o u)(rd:RelV d d'):RelV (o.getD d) (u.getD d'):=by
 cases o with
 |none=>cases u with
  |none=>exact rd
  |some _=>exact (show False from r).elim
 |some _=>cases u with
  |none=>exact (show False from r).elim
  |some _=>exact r
theorem KV.val(r:KV d vs)(k:κ):cL (yh d k) (lK vs k):=by
 unfold KV at r;induction r with
 |nil=>exact fX
 | @cons p q ps a h t ih=>
  obtain⟨f,g⟩:=h;by_cases e:p.1=k
  .have c:q.1=k:=f.symm.trans e;have b:lK (q::a) k=aA q.2:=by simp[lK,pH,c]
   rw[kM e,b];exact g
  .have c:¬q.1=k:=λz=>e (f.trans z);have b:lK (q::a) k=lK a k:=by simp[lK,pH,c]
   rw[xR e,b];exact ih
theorem KV.any(r:KV d vs)(k:κ):(d.any λg=>decide (g.1=k))=vs.any λg=>decide (g.1=k):=by
 unfold KV at r;induction r with
 |nil=>rfl
 |cons h t ih=>rw[nH,nH,ih,h.1]
theorem KV.repl(r:KV g vs)(k:κ)(b:RelV y u) :
  KV (g.map λd=>if d.1=k then (d.1,y) else d) (vs.map λd=>if d.1=k then (d.1,u) else d):=by
 unfold KV at r ⊢;induction r with
 |nil=>exact .nil
 | @cons p q ps f h t ih=>
  rw[eW,eW];refine .cons ?_ ih;obtain⟨a,c⟩:=h;by_cases e:p.1=k
  .rw[if_pos e,if_pos (a.symm.trans e)];exact⟨a,b⟩
  .rw[if_neg e,if_neg (λz=>e (a.trans z))];exact⟨a,c⟩
theorem KV.put(r:KV d vs)(k:κ)(a:RelV y u):KV (dS d k y) (stored vs k u):=by
 unfold dS stored;rw[r.any k];by_cases e:(vs.any λb=>decide (b.1=k))=aB
 .rw[if_pos e,if_pos e];exact r.repl k a
 .rw[if_neg e,if_neg e];exact Paired.snoc r ⟨rfl,a⟩
theorem KV.keys{a:List (κ×V)}(r:KV a vs):a.map (·.1)=vs.map (·.1):=by
 unfold KV at r;induction r with
 |nil=>rfl
 |cons h t ih=>rw[eW,eW,ih,h.1]
theorem KV.length{a:List (κ×V)}(r:KV a vs):a.length=vs.length:=CF r
end
theorem JC{P:bZ}(r:RelV (kV k) u):(zz P w).is k u=aB:=by
 cases k with
 |inl i=>obtain⟨t,e⟩:=(show ∃t,u=nt i t from r);subst e;exact VV P w i t
 |inr x=>obtain⟨t,e⟩:=(show ∃t,u=o5 x t from r);subst e;exact J6 P w x t
section
variable {P:Program}{w:World}{H:Hp}{h:aT}{a:aE}
theorem MG(ok:c_ P w H h)(e:Rd H a u):a8 P w H h a u:=e.ok ok
noncomputable def Cg (H:Hp)(a:aE)(b:List (Key×V)):Prop:=Rd H a (.dK b)\/∃ep,H a=aA (.dE ep b)
theorem k7(ok:c_ P w H h)(e:Cg H a g):g.length<=sizeLine/\(a==hY)=aD/\∃vs,KV g vs/\h.DictOf (zz P w) a vs:=by
 rcases e with e|⟨ep,e⟩
 .exact show a8 P w H h a (.dK g) from MG ok e
 .obtain⟨z,y,vs,r,d⟩:=(show a8 P w H h a (.dE ep g) from ok a _ e);exact⟨z,y,vs,r,d.dictOf⟩
theorem M6(ok:c_ P w H h)(e:Rd H a (.dK d)):d.length<=sizeLine/\(a==hY)=aD/\∃vs,KV d vs/\h.DictOf (zz P w) a vs:=k7 ok (.inl e)
theorem Md(ok:c_ P w H h)(e:H a=aA (.dK d)):d.length<=sizeLine/\(a==hY)=aD/\∃vs,KV d vs/\h.DictOf (zz P w) a vs:=M6 ok (.inl e)
end
noncomputable def eT (H:Hp)(a:aE)(y:V)(r:Option V):Prop:=∃b k,Cg H a b/\y=kV k/\r=yh b k
noncomputable def lg (H:Hp)(a:aE)(y v:V)(H':Hp):Prop:=∃b k,(H a=aA (.dK b)\/∃ep,H a=aA (.dE ep b))/\y=kV k/\b.length<sizeLine/\H'=aX H a (.dK (dS b k v))
theorem eT.k{k:Key}(e:H a=aA (.dK d)):eT H a (kV k) (yh d k):=⟨d,k,.inl (.inl e),rfl,rfl⟩
theorem lg.k{k:Key}(e:H a=aA (.dK d))(b:d.length<sizeLine):lg H a (kV k) v (aX H a (.dK (dS d k v))):=⟨d,k,.inl e,rfl,b,rfl⟩
section
variable {X:Cx}{pins:List (aE×a_)}{σ:St}{H:Hp}{s:Shared}{a:aE}{y v:V}{u r:aC}{o:Option V}{A:Around}{E:aC->Shared->Prop}
theorem Inv.big(I:Inv X pins σ H s):hY<s.heap.objs.size:=by
 have h:bE<s.heap.objs.size:=(I.mod.glob.keeps I.bk).lt;exact CO (by decide) h
theorem Yv(m:A.units+1<cLine)(I:Inv X pins σ H s)(g:eT H a y (aA v))(f:RelV y u)(h:∀d j,Inv X pins σ H j->RelV v d->Q d j) :
  wpAny (aR X.prog X.w) A (hL (.ref a) u) Q E s:=by
 obtain⟨i,k,e,rfl,l⟩:=g;obtain⟨z,hd,c,rel,dd⟩:=k7 I.hok e;obtain⟨d,hw,b⟩:=cL.some_of (v:=v) (o:=lK c k) (by rw[l];exact rel.val k);exact wpAny_getItem_of (JC f) dd.mapOf hw (h d _ (I.tok _) b)
theorem L0(i:A.units+1<cLine)(I:Inv X pins σ H s)(g:eT H a y o)(b:RelV y u)(h:∀d,Inv X pins σ H d->Q (.bool o.isSome) d) :
  wpAny (aR X.prog X.w) A (dD .In u (.ref a)) Q E s:=by
 obtain⟨c,k,e,rfl,l⟩:=g;obtain⟨z,hd,f,rel,dd⟩:=k7 I.hok e;refine wpAny_in_of (JC b) hd dd.mapOf ?_;rw[<-(rel.val k).isSome_eq,<-l];exact h _ (I.tok _)
theorem Rg(i:A.units+1<cLine)(I:Inv X pins σ H s)(g:eT H a y o)(b:RelV y u)(h:∀d,Inv X pins σ H d->Q (.bool (!o.isSome)) d) :
  wpAny (aR X.prog X.w) A (dD .NotIn u (.ref a)) Q E s:=by
 obtain⟨c,k,e,rfl,l⟩:=g;obtain⟨z,hd,f,rel,dd⟩:=k7 I.hok e;refine wpAny_notIn_of (JC b) hd dd.mapOf ?_;rw[<-(rel.val k).isSome_eq,<-l];exact h _ (I.tok _)
theorem Yd(I:Inv X pins σ H s)(c:oK (H a))(hs:fN a s.heap h')(he:∃q,h'.get? a=aA q)(new:a8 X.prog X.w (aX H a ob) h' a ob) :
  Inv X pins σ (aX H a ob) {s with heap:=h',toks:=t'}:=
 I.write (x:=a) (e:=a) c (.inl rfl) (λb q d z=>(hs.2 b d).trans z) he new
theorem Nj{P:bZ}(z:d.length<=sizeLine)(hd:(a==hY)=aD)(rel:KV d vs)(dd:h'.DictOf (zz P w) a vs) :
  a8 P w H' h' a (.dK d):=⟨z,hd,vs,rel,dd⟩
theorem Up(B:A.units+1<cLine)(I:Inv X pins σ H s)(g:lg H a y v H')(i:RelV y u)(j:RelV v r)(h:∀d,Inv X pins σ H' d->Q () d) :
  wpAny (aR X.prog X.w) A (setItem (.ref a) u r) Q E s:=by
 obtain⟨b,k,e,rfl,l,rfl⟩:=g;obtain⟨z,hd,f,rel,dd⟩:=k7 I.hok (e.imp .inl id);have m:f.length<=sizeLine:=by rw[<-rel.length];exact z
 have p:(dS b k v).length<=sizeLine:=by have:=VZ b k v;lia
 refine wpAny_setItem_pairs (hsz:=m) (JC i) dd λx c n=>h _ ?_;have t:∃q,x.get? a=aA q:=let ⟨q,_,_,o,_⟩:=c;⟨q,o⟩;exact Yd I (by rcases e with e|⟨ep,e⟩<;>rw[e]<;>exact fX) n t (Nj p hd (rel.put k j) c)
end
section
variable {X:Cx}{pins:List (aE×a_)}{σ:St}{H:Hp}{s:Shared}{a:aE}{kvs:List (Key×V)}{A:Around}{E:aC->Shared->Prop}
theorem Pb(I:Inv X pins σ H s)(e:H a=aA (.dK kvs)):∃ep,Inv X pins σ (aX H a (.dE ep kvs)) s:=by
 obtain⟨z,hd,b,rel,dd⟩:=Md I.hok e;obtain⟨ep,da⟩:=dd.dictAt;obtain⟨o,es,c,_⟩:=id da;exact⟨ep,Yd (s:=s) (h':=s.heap) (t':=s.toks) I (by rw[e];exact fX) ⟨rfl,λ_ _=>rfl⟩ ⟨o,c⟩ ⟨z,hd,b,rel,da⟩⟩
theorem MU(I:Inv X pins σ H s)(e:Cg H a kvs)(h:∀t d,Inv X pins σ H d->Q (.int kvs.length t) d):wpAny (aR X.prog X.w) A (call (.builtin "len") [.ref a]) Q E s:=by
 obtain⟨z,hd,b,rel,dd⟩:=k7 I.hok e;refine call_len_dict hd dd (by rw[<-rel.length];rw[eZ] at z;lia) ?_;rw[<-rel.length];exact h _ _ (I.tok _)
end
noncomputable def t4(i:aH):Prop:=∀a b,o7 i aD a b=operate [a,b] (hL a b)
theorem WJ{id:String} 
  (k:mB (.type T) "__getitem__"=pure (aA (.builtin id))) (hs:t4 slice)
  (h:wpAny (aR prog w) A (eval g env) (λo j=>wpAny (aR prog w) A (eval slice env) (λi d=>d.TypeIs o T/\wpAny (aR prog w) A (hL o i) Q E d) E j) E s) :
  wpAny (aR prog w) A (eval (.Subscript g slice pos) env) Q E s:=by
 refine Subscript_ (cR h (λo j e=>cR e (λi d a=>?_) λ_ _ x=>x) λ_ _ x=>x);obtain⟨f,a⟩:=a;unfold sv;refine wpAny_bind ?_;rw[getitemInPython_of_ne f.not_modules];refine wpAny_bind (sR f k ?_);have fin:wpAny (aR prog w) A (o7 slice aD o i) (λr b=>wpAny (aR prog w) A (letTemporaryGo g o r >>= λ_=>pure r) Q E b) E d:=by
  rw[hs o i];exact wpAny_operating (cR a (λr b c=>wpAny_bind (wpAny_letTemporaryGo (wpAny_pure c))) λ_ _ x=>x)
 first
  |exact wpAny_pure (wpAny_bind fin)
  |exact wpAny_bind (wpAny_pure (wpAny_bind fin))
  |exact wpAny_bind fin
theorem Jw{X:Cx}{b:St}{H:Hp}{y:V}(I:Inv X pins b H s)(g:eT H a y o):s.TypeIs (.ref a) "dict":=by
 obtain⟨c,k,e,_,_⟩:=g;obtain⟨_,_,d,_,dd⟩:=k7 I.hok e;exact dd.typeIs
noncomputable def M7(d ty:TE):TE:=λb H Q=>d b H λx e=>ty b e λy c=>∃a v,x=.ref a/\eT c a y (aA v)/\Q v c
section
variable {X:Cx}{o i:aH}{pos:Pos}{td ty:TE}
theorem RS(n:X.A.units+1<cLine)(p:PE X o td)(q:PE X i ty)(hs:t4 i):PE X (.Subscript o i pos) (M7 td ty):=by
 intro b s d H Q I h;refine WJ PySem.F.slot_dict_getitem.lookup hs (aY (p b s d H _ I h) λu f ⟨x,z,t,k,m⟩=>aY (q b f d z _ t m) λE D ⟨y,w,e,j,a,v,ex,g,l⟩=>?_);subst ex;obtain rfl:u=b9 a:=k;exact⟨Jw e g,Yv n e g j λB C r c=>⟨v,w,r,c,l⟩⟩
end
theorem WP{P:bZ}(h:aT)(a:hY<h.objs.size):a8 P w H (h.push {cls:=.type "dict",data:=.dict #[]}) h.objs.size (.dK []):=
 ⟨gQ _,beq_eq_false_iff_ne.mpr (c7 (dF a)),[],.nil,IW h⟩
noncomputable def Pf:TE:=λ_ H Q=>∀p,H p=aF->Q (.ref p) (aX H p (.dK []))
section
variable {X:Cx}{pos:Pos}
theorem TZ:PE X (.Dict [] [] pos) Pf:=λb s c H Q I h=>
 wpAny_Dict_empty ⟨.ref s.heap.objs.size,_,I.laid (a:=s.heap.objs.size) (o:=.dK []) (t':=s.toks) (λ_ _ q=>bN _ q) (bG _) (WP s.heap I.big),rfl,h _ (I.hok.fresh (bG _))⟩
end
structure M1(X:Cx)(o:aH)(m:aG)(apos:Pos)(e:aH)(cpos:Pos):Prop where
 base:lY o m X.env (eval o X.env)=eval o X.env
 few:((eU cpos (dC [e] X.env)).all (λx=>!x.1)&&(lm cpos (lx [] X.env)).all (λx=>x.1.isSome)
  &&decide (([e]:List aH).length+([]:List iF).length+(if ([]:List iF).isEmpty then 0 else 1)<30))=aB
 line:(apos.endLine==cpos.line)=aB
 trees:eU cpos (dC [e] X.env)=[(aD,eval e X.env)]
end L2
namespace NH
open PySem PySem.Spec PyProof.Rows L2
noncomputable def w5(z:Key):List (Key×T)->Option T
 |[]=>aF
 |p::r=>if p.1=z then aA p.2 else w5 z r
noncomputable def YN (z:Key)(t:T)(a:List (Key×T)):List (Key×T):=
 if (a.any λb=>decide (b.1=z))=aB then a.map (λb=>if b.1=z then (b.1,t) else b) else a++[(z,t)]
noncomputable abbrev eDicE:De:=λ_ a=>.ok (.mut a.length) (a++[.dic []])
noncomputable abbrev MQ:De:=λ_ a=>.ok (.dic []) a
noncomputable abbrev zcp(o f g:De):De:=λd h=>(o d h).bind λj c=>match j with
 |.mut i=>λK Z=>(∃a,c[i]?=aA (.lst a))/\f d c (λl e=>g d e (λt b=>match l with
  |.int k=>∃a,b[i]?=aA (.lst a)/\(0<=k/\k<=a.length/\a.length<a9)/\K .non (b.set i (.lst (a.take k.toNat++t::a.drop k.toNat)))
  |_=>False) Z) Z
 |_=>.st
section
variable {X:Cx}{D:DP}{W:XW}{σ:St}{H:Hp}{φ α:List aE}{τ:Sl}{μ:aI}{pos:Pos}
theorem VB:∀{a:List (Key×T)}{gs:List (Key×V)},bF D φ α H a gs->(gs.any λg=>decide (g.1=z))=(a.any λg=>decide (g.1=z))
 |[],_,h=>by cases h;rfl
 |p::r,_,h=>by
  obtain⟨v,q,rfl,d,l⟩:=h;rw[nH,nH,VB l]
theorem qF:∀{a:List (Key×T)}{gs:List (Key×V)},bF D φ α H a gs->gs.length=a.length
 |[],_,h=>by cases h;rfl
 |p::r,_,h=>by
  obtain⟨v,q,rfl,d,l⟩:=h;rw[eG,eG,qF l]
theorem ZD(dt:a6 D φ α H t w):∀{a:List (Key×T)}{gs:List (Key×V)},bF D φ α H a gs->bF D φ α H (a.map λg=>if g.1=z then (g.1,t) else g) (gs.map λg=>if g.1=z then (g.1,w) else g)
 |[],_,h=>by cases h;rfl
 |p::r,_,h=>by
  obtain⟨v,q,rfl,d,l⟩:=h;rw[eW,eW];by_cases e:p.1=z
  .rw[if_pos e,if_pos (show (p.1,v).1=z from e)];exact⟨w,_,rfl,dt,ZD dt l⟩
  .rw[if_neg e,if_neg (show ¬(p.1,v).1=z from e)];exact⟨v,_,rfl,d,ZD dt l⟩
theorem Ws(dt:a6 D φ α H t w):∀{a:List (Key×T)}{gs:List (Key×V)},bF D φ α H a gs->bF D φ α H (a++[(z,t)]) (gs++[(z,w)])
 |[],_,h=>by cases h;exact⟨w,[],rfl,dt,rfl⟩
 |p::r,_,h=>by
  obtain⟨v,q,rfl,d,l⟩:=h;exact⟨v,_,rfl,d,Ws dt l⟩
theorem VO(dt:a6 D φ α H t w)(h:bF D φ α H d gs):bF D φ α H (YN z t d) (dS gs z w):=by
 unfold YN dS;rw[VB h];split
 .exact ZD dt h
 .exact Ws dt h
theorem Sc:PE X (.Dict [] [] pos) (aV D W eDicE):=by
 refine PE.mono TZ ?_;rintro e H Q ⟨c,g,d,f,h,a,p⟩;intro x b;refine aJ.ok p (xS b) (a.layO b ⟨[],z4,rfl⟩) _ ⟨x,?_,rfl⟩;rw[<-a.len,fP (bG _)];simp
end
noncomputable def zcm:ER:=λ_ _ e=>match e with
 |.Dict [] [] _=>aA MQ
 |_=>aF
noncomputable def K8:ER:=λ_ _ e=>match e with
 |.Dict [] [] _=>aA eDicE
 |_=>aF
theorem YV:cA D K8:=by
 intro r H X W a k e d C h;unfold K8 at h;split at h
 .cases h;exact Sc
 .cases h
noncomputable abbrev eSt:De:=λ_ _=>RE.st
noncomputable def Ga:ER:=λ_ _ _=>aA eSt
theorem Ro:cA D Ga:=by
 intro r H X W j k e d C h;cases h;rintro a s f H Q I ⟨b,i,c,g,l,m,p⟩;exact p.elim
section
variable {X:Cx}{D:DP}{W:XW}{k:Nat}{pins:List (aE×a_)}{s:Shared}{σ:St}{H:Hp}{φ α:List aE}{τ:Sl}{μ:aI}{f h:De}{a b c:aH}
theorem OY(h:n<2 ^ 1900):n.log2<1920:=by
 by_cases z:n=0
 .subst z;decide
 .exact CO ((CD z).mpr h) (by decide)
noncomputable abbrev eM1T(c:aG->aG->Prop)(r:aG->aG->T)(o f:De):De:=λτ μ=>(o τ μ).bind λd b=>match d with
 |.str x=>(f τ b).bind λt a=>match t with
  |.str y=>.grd (c x y) (.ok (r x y) a)
  |_=>.st
 |_=>.st
abbrev anyC(x y:aG):Prop:=True
abbrev splitC(x y:aG):Prop:=x.length<=a9/\(y.length==0)=aD
noncomputable abbrev j5(x y:aG):T:=.lst ((oW x y).map T.str)
noncomputable abbrev startT(x y:aG):T:=.bl (Txt.startswith x y)
noncomputable def rT (X:Cx)(D:DP)(id:String)(c:aG->aG->Prop)(r:aG->aG->T):Prop:=
 ∀(pins:List (aE×a_)) (s:aW) (σ:St) (H:Hp) (φ α:List aE) (μ:aI) (x y:aG) (t u:Tok) (Q:VK),Inv X pins σ H s->aL D φ α H μ->c x y->(∀v a,j6 H a->a6 D φ α a (r x y) v->Q v a)->
  wpAny (aR X.prog X.w) X.A (call (.builtin id) [.str x t,.str y u]) (EP X pins σ Q) X.xe s
theorem KS {id:String}(slot:Slot "str" nm id) (C:typeOf (.builtin id)=pure (.type "method_descriptor")) (hM:rT X D id cc M) (Z:zI o=aB) (hs:aO a=aB) (c:(pa.endLine==pc.line)=aB) (ho:PE X o (aV D W go)) (ha:PE X a (aV D W f)) :
  PE X (.Call (.Attribute o nm pa) [a] [] pc) (aV D W (eM1T cc M go f)):=by
 have hb:dC [a] X.env=[(aD,eval a X.env)]:=z3 hs;have mt:rS X id (λx K H Q=>∃i j b e g,x=.str i/\K=[.str j]/\aL D b e H g/\cc i j/\∀v m,j6 H m->a6 D b e m (M i j) v->Q v m):=by
  intro l s J H x K v us Q I T U h;obtain⟨i,j,b,e,g,rfl,rfl,B,E,h⟩:=h;obtain⟨P,rfl⟩:=T;obtain⟨u,rfl,O,rfl⟩:=U.one;exact hM l s J H b e g i j P O Q I B E h
 refine PE.mono (Y4 tG slot C mt ho (zj ha zC (z3 hs)) (zU Z) (by rw[hb];rfl) c (z3 hs) rfl) ?_;rintro J H Q ⟨b,e,G,g,L,B,p⟩;refine⟨b,e,G,g,L,B,p.bind.mono λot r z H1 A Y q V dv=>?_⟩;split at q;case h_2=>exact q.elim
 have dv:V=.str _:=dv;subst dv;refine⟨rfl,b,z,G,r,L.step A,Y,q.bind.mono λt n y H2 R N k v d=>?_⟩;split at k;case h_2=>exact k.elim
 obtain⟨E,k⟩:=k.grd;have d:v=.str _:=d;subst d;exact⟨_,_,b,y,n,rfl,rfl,N,E,λw m S dw=>k.fresh N S dw⟩
theorem SV:rT X D "str.startswith" anyC startT:=λa s c H b f d x y t u Q I g _ h=>SC.startswith ⟨.bl _,H,I,rfl,h _ H (λ_ _ e=>e) rfl⟩
theorem QO:∀(l:List (aG×Tok)),aU ((l.map (·.1)).map V.str) (fG l)
 |[]=>.nil
 |(x,t)::r=>.cons ⟨t,rfl⟩ (QO r)
open Builtin Builtin.Str in
theorem UH{P:bZ}(c:(y.length==0)=aD)(hsz:x.length+2<=sizeLine)
  (h:∀l tk,l.map (·.1)=oW x y->l.length<=sizeLine->Q (.ref s.heap.objs.size) {s with heap:=s.heap.push {cls:=.type "list",data:=.seq (fG l).toArray},toks:=tk}):wpAny (aR P w) A (call (.builtin "str.split") [.str x t,.str y u]) Q E s:=by
 have f:=StrLaws.occ_length_le x y 0 x.length (x.length+1);have d:(partsBetween x (occurrences x y 0 x.length (x.length+1)) y.length).length<=sizeLine:=by
  rw[length_partsBetween];lia
 have one:∀z:aG×Tok,[z].length<=sizeLine:=λz=>by show 1<=sizeLine;decide
 by_cases a:(decide (x.length<y.length) || decide (strKind x<strKind y))=aB
 .refine mz (pu) (iV s x t) (tm) (sW _ _) (meets_str_split_cannot_occur x y t u a) ?_;exact h [(x,t)] s.toks (if_pos a).symm (one _)
 .have a:=pD.mpr a;by_cases b:(occurrences x y 0 x.length (x.length+1)).isEmpty=aB
  .refine mz (pu) (iV s x t) (tm) (sW _ _) (meets_str_split_not_found x y t u a c b) ?_;exact h [(x,t)] s.toks ((if_neg (ne_true_of_eq_false a)).trans (if_pos b)).symm (one _)
  .have b:=pD.mpr b;refine mz (pu) (iV s x t) (tm) (sW _ _) (meets_str_split_sep x y t u a c b (by lia) d) ?_;have e:(numbered s.toks (partsBetween x (occurrences x y 0 x.length (x.length+1)) y.length)).map (·.1)=oW x y:=(numbered_texts s.toks (partsBetween x (occurrences x y 0 x.length (x.length+1)) y.length)).trans ((if_neg (ne_true_of_eq_false a)).trans (if_neg (ne_true_of_eq_false b))).symm;have k:=h (numbered s.toks _) (s.toks+(partsBetween x (occurrences x y 0 x.length (x.length+1)) y.length).length) e (by
    have:=congrArg mG (numbered_texts s.toks (partsBetween x (occurrences x y 0 x.length (x.length+1)) y.length));rw[eN] at this;lia)
   rw[<-strsFrom_eq] at k;exact k
theorem m_split:rT X D "str.split" splitC j5:=by
 intro c s n H g i o x y t u Q I d f h;refine UH f.2 (cV (Nat.add_le_add_right f.1 2) (by unfold a9;decide)) λl j m k=>?_;have a:H s.heap.objs.size=aF:=I.hok.fresh (bG _);refine⟨.ref _,aX H s.heap.objs.size (.lst ((l.map (·.1)).map V.str)),I.laid (t':=j) (λb u e=>bN _ e) (bG _) ⟨by simpa using k,_,0,QO l,dQ _ rfl⟩,rfl,h _ _ (z7 a) ?_⟩;show a6 D g i _ (.lst ((oW x y).map T.str)) _;rw[<-m];exact⟨_,_,rfl,zb d a,za d a,.inl z4,ZY⟩
noncomputable def Ic:ER:=mY "startswith" (eM1T anyC startT)
theorem YQ:cA D Ic:=Z7 λC b a d c e=>KS PySem.F.slot_str_startswith PySem.F.type_str_startswith SV b a d c e
noncomputable def HW:ER:=mY "split" (eM1T splitC j5)
theorem Y_:cA D HW:=Z7 λC b a d c e=>KS pu PySem.F.type_str_split m_split b a d c e
end
section
noncomputable def f_(h:aT)(v:aC)(ns:List Int):Prop:=∃a items,v=.ref a/\gZ h a items/\d5 items.toList ns
theorem f_.keep(r:f_ h v ns)(k:∀b o,h.get? b=aA o->h'.get? b=aA o):f_ h' v ns:=by
 obtain⟨a,items,e,⟨o,c,f⟩,d⟩:=r;exact⟨a,items,e,⟨o,k _ _ c,f⟩,d⟩
end
noncomputable def rowsOf:List T->Option (List (List Int))
 |[]=>aA []
 |.tup a::r=>(bT a).bind λb=>(rowsOf r).map (b::·)
 |_::_=>aF
theorem uz:∀{xs:List T}{a:List (List Int)},rowsOf xs=aA a->a.length=xs.length
 |[],a,h=>by cases h;rfl
 |.tup c::r,a,h=>by
  obtain⟨d,e,h⟩:=rb.mp h;obtain⟨q,b,rfl⟩:=gR.mp h;simp[uz b]
theorem Wr:∀{ts:List T}{ns:List Int},bT ts=aA ns->ts=ns.map T.int
 |[],ns,h=>by cases h;rfl
 |.int i::r,ns,h=>by
  obtain⟨q,a,rfl⟩:=gR.mp h;rw[Wr a];rfl
theorem Wj:∀{xs:List T}{a:List (List Int)}{i:Nat}{ns:List Int},rowsOf xs=aA a->a[i]?=aA ns->xs[i]?=aA (.tup (ns.map T.int))
 |[],a,i,ns,h,e=>by cases h;simp at e
 |.tup f::r,a,i,ns,h,e=>by
  obtain⟨b,d,h⟩:=rb.mp h;obtain⟨q,c,rfl⟩:=gR.mp h;cases i with
  |zero=>
   have e:b=ns:=by simpa using e
   subst e;rw[Wr d];rfl
  |succ i=>exact Wj (i:=i) c (by simpa using e)
section
variable {X:Cx}{D:DP}{k:Nat}{pins:List (aE×a_)}{s:Shared}{σ:St}{H:Hp}{φ α:List aE}{μ:aI}
theorem Jb(I:Inv X pins σ H s)(f:s.heap.get? q=aA o)(e:H q=aF)(d:q≠X.env.locals)(c:q∉X.fs)(b:∀v,o.data≠.cell v):Inv X ((q,o)::pins) σ H s:=
 ⟨I.ok,I.os,I.bare,I.base,I.loc,I.cell,I.free,I.freeC,λp a=>by
  rcases cM.mp a with z|z
  .exact I.pin p (d9 _ z)
  .rcases dG.mp z with rfl|z
   .exact⟨f,e,d,c,b⟩
   .exact I.pin p (dR _ z),I.hok,I.len⟩
theorem KC(I:Inv X (p::pins) σ H s):Inv X pins σ H s:=
 ⟨I.ok,I.os,I.bare,I.base,I.loc,I.cell,I.free,I.freeC,λp a=>by
  rcases cM.mp a with z|z
  .exact I.pin p (d9 _ z)
  .exact I.pin p (dR _ (eH _ z)),I.hok,I.len⟩
theorem Uo{P:bZ}(r:h.CodeRec (.ref c) qn):a8 P w H h c (.ext (qt c qn)):=by
 obtain⟨k,a,e,f,d,b,i,g⟩:=id r;cases d;refine⟨r,⟨a,b⟩,λm l p j=>?_⟩;obtain⟨k,a,e,f,d,b,i,g⟩:=p;cases d;exact⟨c,a,e,f,rfl,j _ b,i,g⟩
theorem kP{a b:aC}:∀(l:List aC),TriplesOk l->∀{x y:Int}{t u:Tok},TriplesOk (l++[.int x t,.int y u,c])
 |[],_,_,_,_,_=>trivial
 |[_],h,_,_,_,_=>by simp[TriplesOk] at h
 |[_,_],h,_,_,_,_=>by simp[TriplesOk] at h
 |p::q::r::l,h,x,y,t,u=>by
  cases p with
  |int _ _=>
   cases q with
   |int _ _=>exact kP (a:=a) (b:=b) l h
   |_=>exact h.elim
  |_=>exact h.elim
theorem K5:∀(l:List aC),TriplesOk l->iR pos l=aF->iR p (l++[cF pos.line,cF pos.col,c])=aA c\/iR p (l++[cF pos.line,cF pos.col,c])=iR p l:=by
 intro l h d;fun_induction TriplesOk l with
 |case1=>
  by_cases q:((pos.line:Int)==(p.line:Int)&&(pos.col:Int)==(p.col:Int))=aB
  .left;simp only[Dy,iR,cF];rw[if_pos q]
  .right;simp only[Dy,iR,cF];rw[if_neg q]
 |case2 a t b u x rest ih=>
  simp only[Df,iR] at d ⊢
  split at d
  .cases d
  .split
   .exact .inr rfl
   .exact ih h d
 |case3 l f e=>exact h.elim
theorem Jc{ob:aE->aC->aC->a_}{i j:Nat}{qn:aG}{c P:aE}(I:Inv X pins σ H s)(l:aL D φ α H μ)(hi:μ[i]?=aA (.tab j))(hD:D.tabs j=aA (P,C,qn))(hpp:pos∈C)
  (hC:i5 X.base c P) (hB:X.base.BuiltinsAt X.mg P) (B:∀a b d,(ob a b d).isFreed=aD/\∀v,(ob a b d).data≠.cell v)
  (U:∀{ps:Array aC}{Q:aC->aW->Prop},s.heap.Ns bE X.mg->i5 s.heap c P->s.heap.get? P=aA (lZ ps)->TriplesOk ps.toList->iR pos ps.toList=aF->bE≠P->s.heap.BuiltinsAt X.mg P->(∀(f:aE) (g doc:aC) (h':aT) (tk:Tok),Heap.ExtBut P s.heap h'->s.heap.objs.size<=f->f<h'.objs.size->h'.CodeRec (.ref f) qn->h'.get? P=aA (lZ (ps++#[cF pos.line,cF pos.col,.ref f]))->Q (.ref h'.objs.size) {s with heap:=h'.push (ob f g doc),toks:=tk})->wpAny (aR X.prog X.w) X.A t0 Q X.xe s)
  (hit:∀{ps:Array aC}{f:aE}{Q:aC->aW->Prop},s.heap.Ns bE X.mg->i5 s.heap c P->s.heap.get? P=aA (lZ ps)->TriplesOk ps.toList->iR pos ps.toList=aA (.ref f)->s.heap.BuiltinsAt X.mg P->(∀(g doc:aC) (h':aT) (tk:Tok),(∀b o,s.heap.get? b=aA o->h'.get? b=aA o)->s.heap.objs.size<=h'.objs.size->Q (.ref h'.objs.size) {s with heap:=h'.push (ob f g doc),toks:=tk})->wpAny (aR X.prog X.w) X.A t0 Q X.xe s)
  (h:∀q f g doc H' s',Inv X ((q,ob f g doc)::pins) σ H' s'->aP α H α H'->aL D φ α H' μ->f∉α->H' f=aA (.ext (qt f qn))->(f∉φ/\cN X H' q/\∀p∈pins,p.1≠q)->Q (.ref q) s') :
  wpAny (aR X.prog X.w) X.A t0 Q X.xe s:=by
 have hia:∃a,α[i]?=aA a:=⟨_,ir (by rw[l.len];exact (cH.mp hi).1)⟩;obtain⟨a,ha⟩:=hia;obtain⟨pos',qn',ps,hD',r,y,E⟩:=l.ob i a _ ha hi;rw[hD] at hD';cases hD';have M:=E pos hpp;have hP:s.heap.get? P=aA (lZ ps):=I.hok P _ r;have hg:s.heap.Ns bE X.mg:=I.ok.mod.glob.keeps I.bk;have hCs:i5 s.heap c P:=hC.keeps I.bk;have hBs:s.heap.BuiltinsAt X.mg P:=by
  obtain⟨bm,o,b1,b2,b3,b4,b5,b6⟩:=hB;exact⟨bm,o,b1,b2,b3,b4,I.bk _ _ b5,b6⟩
 have hPa:P∈α:=cY ha;have nL:X.env.locals≠P:=λz=>by have:=I.free;rw[z,r] at this;cases this
 rcases M with x|⟨f,hhit,n1,n2,hc'⟩
 .have hgP:bE≠P:=λz=>by
   obtain⟨o,es,ep,e,hd,_⟩:=hg;rw[z,hP] at e;cases e;cases hd
  refine U hg hCs hP y x hgP hBs λf g doc h' tk V L Z Y K=>?_;have k:H f=aF:=I.hok.fresh L;have hcP:f≠P:=λz=>by rw[z,r] at k;cases k
  have G:∀{b o},s.heap.get? b=aA o->b≠f:=λ{b o} e z=>absurd (dI (bW e) L) (by rw[z];exact ip _);generalize N:aX (aX H f (.ext (qt f qn))) P (.tbl (ps++#[cF pos.line,cF pos.col,.ref f]))=H';have HP:H' P=aA (.tbl (ps++#[cF pos.line,cF pos.col,.ref f])):=by rw[<-N];exact z4
  have Hc:H' f=aA (.ext (qt f qn)):=by rw[<-N,z6 hcP];exact z4
  have Ho:∀b,b≠P->b≠f->H' b=H b:=λb h1 h2=>by rw[<-N,z6 h1,z6 h2]
  have F:∀b o,b≠P->H b=aA o->H' b=aA o:=λb o h1 e=>by rw[Ho b h1 (zu e k)];exact e
  have T:(h'.push (ob f g doc)).CodeRec (.ref f) qn:=by
   obtain⟨c2,oc,vs,tq,R,e2,e3⟩:=Y;exact⟨c2,oc,vs,tq,R,bN _ e2,e3⟩
  have J:Inv X pins σ H' {s with heap:=h'.push (ob f g doc),toks:=tk}:=by
   refine I.step (g':=s.gens) (d':=s.drawn) (ch:=[]) (λ_ z=>nomatch z) (λb o _ _ _ e n=>?_) (λb o _ _ _ e n=>⟨o.slots,?_⟩) (λb o _ e n=>?_) (λb o _ e=>?_) (λb xs e=>?_) (λb o u e=>?_) (λb qs e=>?_) (λm hm=>?_) (λb u e=>?_) I.bare
   .exact bN _ (V b o (λz=>by rw[z,r] at n;cases n) e)
   .exact bN _ (V b o (λz=>by rw[z,r] at n;cases n) e)
   .rw[Ho b (λz=>by rw[z,r] at n;cases n) (G e)];exact n
   .by_cases z:b=P
    .rw[z];exact⟨_,bN _ K⟩
    .exact⟨o,bN _ (V b o z e)⟩
   .exact F b _ (λz=>by rw[z,r] at e;cases e) e
   .exact F b _ (λz=>by rw[z,r] at e;cases e) e
   .by_cases z:b=P
    .rw[z,r] at e;cases e;rw[z];exact⟨_,HP⟩
    .exact⟨#[],by rw[F b _ z e];simp⟩
   .exact (hm.extBut V nL).push _
   .by_cases z:b=P
    .subst z;rw[HP] at e;cases e;exact bN _ K
    .by_cases S:b=f
     .subst S;rw[Hc] at e;cases e;exact Uo T
     .rw[Ho b z S] at e;refine (I.hok b u e).stay (λc v O q=>?_) (λc q=>?_) λc xs q=>?_
      .refine bN _ (V c v (λw=>?_) q);rcases O with O|O
       .exact z (O▸w)
       .rw[w,r] at O;cases O
      .exact F c _ (λw=>by rw[w,r] at q;cases q) q
      .exact F c _ (λw=>by rw[w,r] at q;cases q) q
  have fresh:s.heap.objs.size<=h'.objs.size:=nB (D6 L Z);have hqP:h'.objs.size≠P:=λz=>absurd (bW K) (by rw[<-z];exact ip _);have hqc:h'.objs.size≠f:=lW Z;have nq:H' h'.objs.size=aF:=by rw[Ho _ hqP hqc];exact I.hok.fresh fresh
  have st:aP α H α H':=⟨⟨[],by simp,by simp⟩,λb o n e=>F b o (λz=>n (z▸hPa)) e,λb e=>by
   by_cases z:b=P
   .rw[z,HP] at e;cases e
   .by_cases S:b=f
    .rw[S];exact k
    .rw[Ho b z S] at e;exact e⟩
  refine h h'.objs.size f g doc H' _ (Jb J (dQ _ (B _ _ _).1) nq (lW (dI I.lt fresh)) (I.nofs fresh) (B _ _ _).2) st ?_ (za l k) Hc ⟨zb l k,HA (I.fpOk fresh nq)⟩;refine⟨l.len,l.nd,l.dis,λb hb=>?_,λi' a' o' R e2=>?_⟩
  .obtain⟨u,hu,n⟩:=l.phi b hb;exact⟨u,st.keep b u (λz=>l.dis b z hb) hu,n⟩
  .by_cases z:i'=i
   .subst z;rw[ha] at R;cases R;rw[hi] at e2;cases e2;refine⟨C,qn,_,hD,HP,?_,λp2 hp2=>?_⟩
    .rw[DM];exact kP (a:=.none) (b:=.none) _ y
    .rw[DM];rcases K5 (p:=p2) (c:=.ref f) _ y x with w|w
     .exact .inr ⟨f,w,zb l k,za l k,Hc⟩
     .rw[show (#[cF pos.line,cF pos.col,.ref f]:Array aC).toList=[cF pos.line,cF pos.col,.ref f] from rfl,w];refine (E p2 hp2).imp id λ⟨c2,k1,k2,k3,k4⟩=>⟨c2,k1,k2,k3,?_⟩;exact F c2 _ (λz=>k3 (z▸hPa)) k4
   .have ne:a'≠P:=λw=>by
     obtain⟨q1,q2⟩:=cH.mp R;obtain⟨q3,q4⟩:=cH.mp ha;exact z ((pT l.nd).mp (q2.trans (w.trans q4.symm)))
    have d:=l.ob i' a' o' R e2;obtain⟨u,hu,_⟩:=d.some;exact cQ.step st ((F a' u ne hu).trans hu.symm) d
 .refine hit hg hCs hP y hhit hBs λg doc h' tk hk t=>?_;have J:Inv X pins σ H {s with heap:=h'.push (ob f g doc),toks:=tk}:=I.kept λb u e=>bN _ (hk b u e);exact h h'.objs.size f g doc H _ (Jb J (dQ _ (B _ _ _).1) (I.hok.fresh t) (lW (dI I.lt t)) (I.nofs t) (B _ _ _).2) (aP.refl _ _) l n2 hc' ⟨n1,HA (I.fpOk t (I.hok.fresh t))⟩
theorem TK{params:Arguments}{body:aH}{line i j:Nat}{qn:aG}{c P:aE}{Q:aC->aW->Prop}(I:Inv X pins σ H s)(B:aL D φ α H μ)(E:μ[i]?=aA (.tab j))(G:D.tabs j=aA (P,m,qn))(o:pos∈m)
  (a:X.env.code=.ref c) (J:i5 X.base c P) (K:X.base.BuiltinsAt X.mg P) (l:my scope X.env=pure cl)
  (h:∀q g d H' r,Inv X ((q,sS "<lambda>" qn params body scope cl ((X.mg "__name__").getD .none) g d)::pins) σ H' r->aP α H α H'->aL D φ α H' μ->g∉α->H' g=aA (.ext (qt g qn))->(g∉φ/\cN X H' q/\∀p∈pins,p.1≠q)->Q (.ref q) r) :
  wpAny (aR X.prog X.w) X.A (pd "<lambda>" qn params (.expr body) scope X.env [] [] [] pos line) Q X.xe s:=by
 exact Jc (ob:=λg d _=>sS "<lambda>" qn params body scope cl ((X.mg "__name__").getD .none) g d) I B E G o J K (λ_ _ _=>⟨rfl,λv z=>by cases z⟩) (λu e x b C t f k=>PySem.W.kla_makeFunction (mg:=X.mg) l I.ok.glob u a e x b C t f λg d y n=>k g d .none y n) (λu e x b F f k=>PySem.W.kla_makeFunctionHit (mg:=X.mg) l I.ok.glob u a e x b F f λd y n=>k d .none y n) λq g d _ H' r=>h q g d H' r
theorem T3{params:Arguments}{body:List bB}{pos:Pos}{line i j:Nat}{qn:aG}{c P:aE}{Q:aC->aW->Prop}(I:Inv X pins σ H s)(x:aL D φ α H μ)(B:μ[i]?=aA (.tab j))(E:D.tabs j=aA (P,r,qn))(l:pos∈r)
  (a:X.env.code=.ref c) (F:i5 X.base c P) (G:X.base.BuiltinsAt X.mg P) (f:my scope X.env=pure cl)
  (h:∀q m g doc H' u,Inv X ((q,C3 name qn params body scope cl doc ((X.mg "__name__").getD .none) m g)::pins) σ H' u->aP α H α H'->aL D φ α H' μ->m∉α->H' m=aA (.ext (qt m qn))->(m∉φ/\cN X H' q/\∀p∈pins,p.1≠q)->Q (.ref q) u) :
  wpAny (aR X.prog X.w) X.A (pd name qn params (.stmts body) scope X.env [] [] [] pos line) Q X.xe s:=
 Jc (ob:=λm g doc=>C3 name qn params body scope cl doc ((X.mg "__name__").getD .none) m g) I x B E l F G (λ_ _ _=>⟨rfl,λv z=>by cases z⟩) (λo d t b y n e k=>PySem.W.makeFunction_K (mg:=X.mg) f I.ok.glob o a d t b y n e k) (λo d t b C e k=>PySem.W.makeFunction_hit (mg:=X.mg) f I.ok.glob o a d t b C e k) h
end
noncomputable def MC (g:De)(b:aI):List T->List Int->Prop
 |[],[]=>True
 |t::d,z::c=>g [aA t] b (λe a=>e=.int z/\a=b) (λ_ _ _=>False)/\MC g b d c
 |_,_=>False
section
theorem oE(a:fd.params=⟨[],[⟨y,aF,pa⟩],aF,[],[],aF,[]⟩)(hd:fd.defaults=.none):lq fd ⟨[u],[]⟩=pure [(y,u)]:=by
 have e:gE y [(y,u)]=aA u:=by simp[gE]
 unfold lq;rw[a,hd];simp[e,mC];rfl
end
noncomputable def E3:Arg->Option aG
 |⟨y,aF,_⟩=>aA y
 |_=>aF
noncomputable def Ap:Arguments->Option aG
 |⟨[],[p],aF,[],[],aF,[]⟩=>E3 p
 |_=>aF
theorem SA(h:Ap a=aA y):∃p,a=⟨[],[⟨y,aF,p⟩],aF,[],[],aF,[]⟩:=by
 unfold Ap at h;split at h
 .unfold E3 at h;split at h
  .cases h;exact⟨_,rfl⟩
  .cases h
 .cases h
noncomputable def AW:aH->Option (aG×aH×Scope×Pos)
 |.Lambda a body b c=>(Ap a).bind λy=>aA (y,body,b,c)
 |_=>aF
theorem Rl(h:AW e=aA q):∃pa,e=.Lambda ⟨[],[⟨q.1,aF,pa⟩],aF,[],[],aF,[]⟩ q.2.1 q.2.2.1 q.2.2.2:=by
 unfold AW at h;split at h
 .obtain⟨y,b,a⟩:=aS h;cases a;obtain⟨pa,rfl⟩:=SA b;exact⟨pa,rfl⟩
 .cases h
theorem U6{P:bZ}{K:bH} 
  (KX:K.In g.heap) (y:g.heap.Ns bE mg) (N:g.heap.Ns lr mb) (hbb:∀x:aG,x≠"__name__"->mb x=fW x) (M:g.heap.NoLimit) (hg:g.gens=#[])
  (hbm:∃bm ob,mg "__builtins__"=aA (.ref bm)/\bm≠lr/\g.heap.get? bm=aA ob/\ob.cls=.type "module"/\ob.dict=aA lr/\ob.data=.plain)
  (hnl:Km K=aB) (f:g.heap.get? j=aA (lZ #[])) (hKP:K.lookup j=aF) (hPc:j≠oR) (hcd:oV K c j=aB)
  (l:g.heap.get? a=aA {cls:=.type "list",data:=.seq vs.toArray}) (hi:d5 vs ns) (hl:ns.length<=sizeLine) (hr:bU k nn)
  (F:∀base:aT,K.In base->base.Ns bE mg->base.BuiltinsAt mg j->bI P w K mg base CX k fa fd [x] sp) (B:∀(s:aW) (u:aC),mu s fd ⟨[u],[]⟩ [(x,u)])
  (Z:∀H:Hp,Rd H a (.lst (ns.map V.int))->H j=aA (.tbl #[])->a≠j->sp [.ref a] H (λv _=>v=.bl aB) λ_ _ _=>False)
  (hCX:∀H e A,CX [] H g (λ_ _ _=>False) e A->False) :
  fE (aR P w) nn (.call (.ref fa) ⟨[.ref a],[]⟩) (λr A=>r=.ok (.ret (.bool aB))/\OldK g.heap A.heap/\A.os=g.os/\iP A.gens) g:=by
 have rv:=L2.vals_ints hi;have lenV:=hi.length;have J:a≠j:=λz=>by rw[z,f] at l;cases l
 have hKa:K.lookup a=aF:=by
  cases q:K.lookup a with
  |none=>rfl
  |some o=>
   have e:=KX a o q;rw[l] at e;cases e;exact absurd rfl (Yf hnl q)
 obtain⟨H,hH⟩:∃H:Hp,H=aX (aX (λ_=>aF) j (.tbl #[])) a (.frz {cls:=.type "list",data:=.seq vs.toArray} (.lst (ns.map V.int))):=⟨_,rfl⟩;have Ha:H a=aA (.frz {cls:=.type "list",data:=.seq vs.toArray} (.lst (ns.map V.int))):=by rw[hH];exact z4
 have HP:H j=aA (.tbl #[]):=by rw[hH,z6 J.symm];exact z4
 have G:∀b,b≠a->b≠j->H b=aF:=λb p D=>by rw[hH,z6 p,z6 D]
 have hok:c_ P w H g.heap:=λb u e=>by
  by_cases p:b=a
  .subst p;rw[Ha] at e;cases e;exact⟨l,by rw[eN];exact hl,vs,_,rv,l⟩
  .by_cases D:b=j
   .subst D;rw[HP] at e;cases e;exact f
   .rw[G b p D] at e;cases e
 have un:∀{b:aE}{o:a_},g.heap.get? b=aA o->o.cls≠.none->o.cls≠.type "list"->H b=aF:=λ{b o} e n1 n2=>G b (λz=>by rw[z,l] at e;cases e;exact n2 rfl) λz=>by rw[z,f] at e;cases e;exact n1 rfl
 have X:∀{b:aE}{o:a_}{es:Array oX}{ep:Nat},g.heap.get? b=aA o->o.data=.dict es ep->H b=aF:=λ{b o es ep} e d=>G b (λz=>by rw[z,l] at e;cases e;cases d) λz=>by rw[z,f] at e;cases e;cases d
 have zU:∀{b:aE}{o:a_},g.heap.get? b=aA o->H b=aF->(Qh g.heap H).get? b=aA o:=λe n=>z0T e n;have i:∀{b:aE}{m:aG->Option aC},g.heap.Ns b m->(Qh g.heap H).Ns b m:=λ{b m} ⟨o,es,ep,e,d,r⟩=>⟨o,es,ep,zU e (X e d),d,r⟩;have hKf:∀b o,K.lookup b=aA o->H b=aF:=λb o e=>G b (λz=>by rw[z,hKa] at e;cases e) λz=>by rw[z,hKP] at e;cases e
 have O:K.In (Qh g.heap H):=λb o e=>zU (KX b o e) (hKf b o e);have hM:Mod K mg (Qh g.heap H):=⟨O,i y,⟨mb,i N,hbb⟩,let ⟨mc,p,D⟩:=M;⟨mc,i p,D⟩⟩;have hB:(Qh g.heap H).BuiltinsAt mg j:=by
  obtain⟨bm,ob,b1,b2,E,U,b5,b6⟩:=hbm;refine⟨bm,ob,b1,b2,λz=>?_,λz=>?_,zU E (un E (by rw[U];exact λz=>by cases z) (by rw[U];exact λz=>absurd (CH z) (by decide))),U,b5,b6⟩
  .obtain⟨o,es,ep,e,d,_⟩:=y;rw[z,e] at E;cases E;rw[d] at b6;cases b6
  .rw[z,f] at E;cases E;cases U
 have e0:dT P w K mg (Qh g.heap H) nn [] g H:=⟨rfl,hM,λb o e=>SQ e,mF (YA _ _),trivial,λb N=>absurd (show b∈([]:List aE) from N) (by simp),hok,.of_eq hg⟩;refine iS ((F _ O (i y) hB).run nn [] g H ⟨[.ref a],[]⟩ [.ref a] [.ref a] _ _ hr e0 (B g (.ref a)) (.cons rfl .nil) (Z H (.inr ⟨_,Ha⟩) HP J)) λr A h=>?_;cases r with
 |error e=>exact (hCX H e A h).elim
 |ok fl=>
  cases fl with
  |next=>exact dL h
  |brk=>exact dL h
  |cont=>exact dL h
  |ret u=>
   obtain⟨v,H',os,T,un,t,r',q⟩:=h;have q':v=.bl aB:=q;subst q';obtain rfl:u=lu aB:=r';have kp:∀b o,H b=aF->g.heap.get? b=aA o->A.heap.get? b=aA o:=λb o n e=>un.keep b o e n (by intro z;exact absurd (show b∈([]:List aE) from z) (by simp)) (by simp);obtain⟨L,hm⟩:=un.tbls j _ HP;have hP':A.heap.get? j=aA (lZ (#[]++L)):=t j _ hm;have cd:=PySem.W.codeHd_of_K KX hcd;have cd':i5 A.heap c j:=by
    obtain⟨o,vs,Q,tf,C,tg,Y,I,tt,S,R,r⟩:=cd;refine⟨o,vs,Q,tf,C,tg,Y,I,tt,kp c o ?_ S,R,r⟩;exact G c (λz=>by rw[z,l] at S;cases S;exact absurd (CH R) (by decide)) λz=>by rw[z,f] at S;cases S;cases R
   refine⟨rfl,(OldK.refl g.heap).step_table (cd.tab f) (cd.tab f) (cd'.tab hP') (λb o N e=>?_) hPc,os,T⟩;by_cases p:b=a
   .subst p;have z2:=un.frzs b _ _ Ha;obtain⟨R,_⟩:=t b _ z2;rw[l] at e;cases e;exact R
   .exact kp b o (G b p N) e
noncomputable def Ks(K:bH)(c:aE):Sp:=λd H Q _=>∃(a:aE) (b:List Int),d=[.ref a]/\Rd H a (.lst (b.map V.int))/\H c=aA (.tbl #[])/\a≠c/\b.length<=63/\∀e,Q (.bl aB) e
noncomputable def KH(f:Fn):Prop:=∀a:List Int,a.length<=63->f [.lst (a.map T.int)] [.tab 0] (λt _=>t=.bl aB) (λ_ _ _=>False)
theorem R1{P:bZ}{K:bH}(n:KH f)(u:D.tabs 0=aA (j,g,qn))
  (F:bI P w K mg base (cG P w) k fa fd [x] (dY D 1 f)):bI P w K mg base (cG P w) k fa fd [x] (Ks K j):=by
 refine F.imp ?_;rintro C H Q E ⟨a,c,rfl,r,s,e,p,q⟩;refine⟨rfl,[],[j],[.lst (c.map T.int)],[.tab 0],⟨.ref a,[],rfl,⟨a,_,rfl,by simp,by simpa using e,r,Wu c⟩,rfl⟩,⟨rfl,by simp,by simp,by simp,λi y o b h=>?_⟩,_,_,n c p,?_,?_⟩
 .cases i with
  |succ i=>simp at b
  |zero=>
   have b:j=y:=by simpa using b
   have h:MO.tab 0=o:=by simpa using h
   subst b;subst h;exact⟨g,qn,#[],u,s,trivial,λ_ _=>.inl rfl⟩
 .rintro t B rfl l A st m v d;have d:v=.bl aB:=d;rw[d];exact q A
 .exact λ_ _ _ z=>z.elim
noncomputable abbrev m4(x y:T)(b:aI):RE T:=match y with
 |.mut i=>(match x with
  |.int z=>λK _=>∃a,b[i]?=aA (MO.dic a)/\K (.bl (w5 (.inl z) a).isSome) b
  |.str z=>λK _=>∃a,b[i]?=aA (MO.dic a)/\K (.bl (w5 (.inr z) a).isSome) b
  |_=>.st)
 |_=>yn .In x y b
noncomputable abbrev eIn3(f g:De):De:=λc d=>(f c d).bind λx b=>(g c b).bind λy a=>m4 x y a
noncomputable abbrev sPut3(o b f:De):Ds:=λd j=>(f d j).out d λt g=>(o d g).out d λl e=>(b d e).out d λit c=>match l,it with
 |.mut i,.int k=>λE=>(∃h,c[i]?=aA (.lst h)/\(0<=k/\k<h.length/\k<9223372036854775808)/\E.nx d (c.set i (.lst (h.set k.toNat t))))\/(∃a,c[i]?=aA (.dic a)/\a.length<a9/\E.nx d (c.set i (.dic (YN (.inl k) t a))))
 |.mut i,.str z=>λE=>∃a,c[i]?=aA (.dic a)/\a.length<a9/\E.nx d (c.set i (.dic (YN (.inr z) t a)))
 |_,_=>.st
section
variable {X:Cx}{D:DP}{W:XW}{Γ:Cn}{k:Nat}{pins:List (aE×a_)}{s:Shared}{σ:St}{H:Hp}{φ α:List aE}{τ:Sl}{μ:aI}{f g:De}{a b:aH}{pos:Pos}
theorem u_:∀{a:List (Key×T)}{gs:List (Key×V)},bF D φ α H a gs->(yh gs z).isSome=(w5 z a).isSome
 |[],_,h=>by cases h;rfl
 |p::r,_,h=>by
  obtain⟨v,q,rfl,d,l⟩:=h;unfold w5;by_cases e:p.1=z
  .rw[if_pos e,kM (p:=(p.1,v)) e];rfl
  .rw[if_neg e,xR (p:=(p.1,v)) e];exact u_ l
theorem GB(I:Inv X pins σ H s)(n:X.A.units+64<cLine)(d:aL D φ α H μ)(b:a6 D φ α H x v)(g:a6 D φ α H y w)(f:RelV v m)(e:RelV w j)
  (p:aJ D W φ α H σ (RV D φ Q) (m4 x y μ)):wpAny (aR X.prog X.w) X.A (dD .In m j) (EP X pins σ Q) X.xe s:=by
 have go:∀{i:Nat}{z:Key}{a:List (Key×T)},y=.mut i->v=kV z->μ[i]?=aA (MO.dic a)->aJ D W φ α H σ (RV D φ Q) (.ok (.bl (w5 z a).isSome) μ)->wpAny (aR X.prog X.w) X.A (dD .In m j) (EP X pins σ Q) X.xe s:=λ{i z a} ey ev c h=>by
  subst ey;subst ev;obtain⟨ad,o,rfl⟩:=g;cases e;obtain⟨gs,q,l⟩:=d.ob i ad _ o c;refine L0 (by omega) I (eT.k (k:=z) q) f λt r=>⟨.bl (yh gs z).isSome,H,r,rfl,?_⟩;rw[u_ l];exact h.here d rfl
 unfold m4 at p;split at p
 .split at p
  .obtain⟨a,c,p⟩:=p.ex1;have b:v=_:=b;exact go (z:=.inl _) rfl b c p
  .obtain⟨a,c,p⟩:=p.ex1;have b:v=_:=b;exact go (z:=.inr _) rfl b c p
  .exact p.elim
 .exact Wy I n d b g f e p
theorem OG(C:Ck D W Γ X k)(A:qU .In b=aB)(E:PE X a (aV D W f))(B:PE X b (aV D W g)):PE X (.Compare a [.In] [b] pos) (aV D W (eIn3 f g)):=by
 rintro i s N H Q I ⟨L,P,M,O,r,z,p⟩;refine sL (aY (sub E I r z p) ?_) (jb A);rintro u V ⟨v,Z,t,l,n,K,x,o,d,h,G,p1⟩;refine aY (sub B K d h p1) ?_;rintro S U ⟨R,Y,T,j,m,J,w,c,q,e,F,y⟩;exact GB J C.unt e (G.step c) F x w y
theorem aK.or{r a:En->Prop}(p:aK D W φ α H E λE=>r E\/a E):aK D W φ α H E r\/aK D W φ α H E a:=by
 obtain⟨E0,q,b⟩:=p;rcases q with q|q
 .exact .inl ⟨E0,q,b⟩
 .exact .inr ⟨E0,q,b⟩
theorem Te(j:X.A.units+1<cLine):A1 X (λo i v H Q=>(∃l k xs,o=.ref l/\i=.int k/\H l=aA (.lst xs)/\0<=k/\k<xs.length/\k<9223372036854775808/\Q (aX H l (.lst (xs.set k.toNat v))))\/(∃l gs z,o=.ref l/\i=kV z/\H l=aA (.dK gs)/\gs.length<sizeLine/\Q (aX H l (.dK (dS gs z v))))):=by
 intro a s e H o i v f g u Q I c d b h;rcases h with h|⟨l,gs,z,rfl,rfl,n,m,q⟩
 .exact fA a s e H o i v f g u Q I c d b h
 .cases c;exact Up j I (lg.k (k:=z) n m) d b λr p=>⟨_,p,q⟩
theorem Se(C:Sk D W Γ X k)(U:zH b=aB)(ha:PE X a (aV D W f))(ho:PE X o (aV D W fo))(hb:PE X b (aV D W fb)) :
  PS X (.Assign [.Subscript o b p1] a pos) (cZ D W (sPut3 fo fb f)):=by
 rintro G s Z H E I ⟨L,α,M,μ,S,mr,p⟩;have h1:pz [.Subscript o b p1] a pos.line X.env=pure aD:=by cases a<;>rfl
 have h2:py [.Subscript o b p1] a X.env=pure aF:=by cases a<;>rfl
 refine KR ha (HH ho hb (Te (by have:=C.toCk.unt;lia)) (λv=>by cases b<;>first|(simp[zH] at U;done)|rfl)) h1 h2 rfl G s Z H E I ⟨L,α,M,μ,S,mr,(aK.out S p).mono λt O Q H1 R m1 q v d=>?_⟩;have w:=S.step R;refine⟨L,Q,M,O,w,m1,(aK.out w q).mono λot N P H2 F m2 q2 ov dv=>?_⟩;have m:=w.step F;refine⟨L,P,M,N,m,m2,(aK.out m q2).mono λit u h B j A g Y di=>?_⟩;have V:=(d.step F).step j;have dv:=dv.step j;cases ot with
 | «mut» i=>
  obtain⟨x,n,rfl⟩:=dv;cases it with
  |int J=>
   have di:Y=.int J:=di;subst di;rcases aK.or g with g|g
   .obtain⟨ts,e,y,g⟩:=aK.ex1 g;obtain⟨xs,r,l⟩:=A.ob i x _ n e;have c:aP h B h (aX B x (.lst (xs.set J.toNat v))):=aP.turn (cY n) ⟨_,r⟩;have K:i<u.length:=(cH.mp e).1;exact .inl ⟨x,J,xs,rfl,rfl,r,y.1,by rw[<-l.length];exact y.2.1,y.2.2,aK.nx g c (A.turn n K c ⟨_,z4,aM.set (l.step c) (V.step c)⟩) ((m.step j).step c)⟩
   .obtain⟨T,e,y,g⟩:=aK.ex1 g;obtain⟨gs,r,l⟩:=A.ob i x _ n e;have c:aP h B h (aX B x (.dK (dS gs (.inl J) v))):=aP.turn (cY n) ⟨_,r⟩;have K:i<u.length:=(cH.mp e).1;exact .inr ⟨x,gs,(.inl J),rfl,rfl,r,by rw[qF l];exact dI y (zf (bG _)),aK.nx g c (A.turn n K c ⟨_,z4,VO (V.step c) (l.step c)⟩) ((m.step j).step c)⟩
  |str z=>
   have di:Y=.str z:=di;obtain⟨T,e,y,g⟩:=aK.ex1 g;obtain⟨gs,r,l⟩:=A.ob i x _ n e;have c:aP h B h (aX B x (.dK (dS gs (.inr z) v))):=aP.turn (cY n) ⟨_,r⟩;have K:i<u.length:=(cH.mp e).1;exact .inr ⟨x,gs,(.inr z),rfl,di,r,by rw[qF l];exact dI y (zf (bG _)),aK.nx g c (A.turn n K c ⟨_,z4,VO (V.step c) (l.step c)⟩) ((m.step j).step c)⟩
  |_=>exact aK.elim g
 |_=>exact aK.elim g
theorem Pd{R:β->aI->List aE->Hp->Prop}{kk:T->aI->RE β}{x y:T}{v w:V}{e c:aC}(I:Inv X pins σ H s)(i:X.A.units+64<cLine)(h:aL D φ α H μ)(l:a6 D φ α H x v)(k:a6 D φ α H y w)(g:RelV v e)(f:RelV w c)
  (p:aJ D W φ α H σ R ((m4 x y μ).bind kk)):wpAny (aR X.prog X.w) X.A (dD .In e c) (EP X pins σ λz u=>∃t r j,aP α H j u/\aL D φ j u r/\a6 D φ j u t z/\aJ D W φ j u σ R (kk t r)) X.xe s:=
 GB I i h l k g f (p.bind.mono λt a b n st m q v d=>⟨t,a,b,st,m,d,q⟩)
theorem YT(C:Ck D W Γ X k)(U:qU .In b=aB)(Y:PE X a (aV D W f))(V:PE X b (aV D W g)):PT X (.Compare a [.In] [b] pos) (dZ D W (tE (eIn3 f g))):=by
 rintro q s w H Q I ⟨r,J,o,B,N,T,p⟩;have p:aJ D W r J H w (λb _ _ H'=>Q b H') ((f o B).bind λx e=>(g o e).bind λy c=>(m4 x y c).bind xu):=p;refine tU (aY (sub Y I N T p) ?_) (jb U);rintro u s1 ⟨v,H1,t,e,G,I1,R,L,j,n,d1,p1⟩;refine aY (sub V I1 j n p1) ?_;rintro u' s2 ⟨v',H2,t',c,F,I2,P,i,M,m,d2,S⟩;refine aY (Pd I2 C.unt m (d1.step i) d2 R P S) ?_;rintro d s3 ⟨z,H3,I3,O,t3,A,E,K,l,Z,h⟩;unfold xu at h;split at h
 .cases Z;cases O;exact wpAny_truthy_bool ⟨H3,I3,h.ok (aP.refl _ _) l⟩
 .exact h.elim
end
noncomputable def GX(Γ:Cn)(b:aH):Bool:=match b with
 |.Name x _=>(b7 Γ.N x).isSome
 |_=>aD
noncomputable def isIn:dA->Bool
 |.In=>aB
 |_=>aD
theorem Rb(h:isIn op=aB):op=.In:=by cases op<;>first|rfl|cases h
noncomputable def MA (r:cO)(Γ:Cn)(e:aH):Option De:=(rC e).bind λq=>gd (isIn q.op&&GX Γ q.b) (gd (qU .In q.b) ((r.e Γ q.a).bind λf=>(r.e Γ q.b).bind λg=>aA (eIn3 f g)))
noncomputable def FK:ER:=MA
theorem Pt:cA D FK:=by
 intro r H X W l k e d C h;obtain⟨q,c,h⟩:=aS h;obtain⟨b,h⟩:=z8 h;obtain⟨a,h⟩:=z8 h;obtain⟨f,j,h⟩:=aS h;obtain⟨g,i,h⟩:=aS h;cases h;rw[Yn c,Rb (zp b).1];exact OG C a (H.e C j) (H.e C i)
noncomputable def BK:TR:=λr c e=>match e with
 |.Compare a [.In] [b] _=>gd (GX c b&&qU .In b) ((r.e c a).bind λf=>(r.e c b).bind λg=>aA (tE (eIn3 f g)))
 |_=>aF
theorem TW:oF D BK:=by
 intro r H X W j k e d C h;unfold BK at h;split at h
 .obtain⟨b,a⟩:=z8 h;obtain⟨f,i,a⟩:=aS a;obtain⟨g,c,a⟩:=aS a;cases a;simp only[bK] at b;exact YT C b.2 (H.e C i) (H.e C c)
 .cases h
noncomputable def AL:bB->Option (aH×aH×Pos)
 |.Assign [t] e p=>aA (t,e,p)
 |_=>aF
theorem Sq(h:AL s=aA q):s=.Assign [q.1] q.2.1 q.2.2:=by
 unfold AL at h;split at h
 .cases h;rfl
 .cases h
noncomputable def Ib:SR:=λr a s=>(AL s).bind λq=>(rh q.1).bind λw=>gd (zH w.2.1) ((r.e a w.1).bind λfo=>(r.e a w.2.1).bind λfb=>(r.e a q.2.1).bind λf=>aA (sPut3 fo fb f))
theorem YD:m9 D Ib:=by
 intro r H X W l k e d C h;obtain⟨q,c,h⟩:=aS h;obtain⟨w,b,h⟩:=aS h;obtain⟨a,h⟩:=z8 h;obtain⟨fo,j,h⟩:=aS h;obtain⟨fb,i,h⟩:=aS h;obtain⟨f,g,h⟩:=aS h;cases h;rw[Sq c,XZ b];exact Se C a (H.e C.toCk g) (H.e C.toCk j) (H.e C.toCk i)
theorem walkT2{l:mq}{q:bZ}{j:List aG}{XP:(aG->Option aC)->aT->Prop}{y:cX->aT->Prop}{d:DefRec}{K:Params->bH}{x:aG}{k:Nat}{n:aE}(hk:k<=120)(I:l.most=aA 63)(v:d.params.defaults=[])
  (N:∀(w:cX) (h:aT),y w h->(K w.params).In h) (O:∀(w:cX) (h:aT),y w h->h.get? n=aA (lZ #[]))
  (F:∀(w:cX) (mg:aG->Option aC) (fa:aE) (h:aT),(K w.params).In h->h.Ns bE mg->mg d.name=aA (.ref fa)->
   (Km (K w.params)=aB/\(K w.params).lookup n=aF/\n≠oR/\∃c,oV (K w.params) c n=aB)/\∃fd:FuncData,(∀(s:aW) (u:aC),mu s fd ⟨[u],[]⟩ [(x,u)])/\∀base:aT,(K w.params).In base->base.Ns bE mg->base.BuiltinsAt mg n->bI l.prog w (K w.params) mg base (cG l.prog w) k fa fd [x] (Ks (K w.params) n)) :
  PySem.W.WalkO q j XP y l.row.toRowW d [] (λf vs=>Cy f vs):=by
 refine Att.attach_call I v λw B A mg mb fa o pm cd X a vs D G Y ho hd L t p m i J=>?_;have C:=N w _ Y;obtain⟨⟨V,U,S,c,R⟩,fd,M,Q⟩:=F w mg fa _ C G.T.g t;exact U6 C G.T.g G.T.b G.T.builtins G.T.nolimit J G.T.bmain V (O w _ Y) U S R p m (cV i (by decide)) (bU.mono (k:=120) ⟨rfl,by decide +kernel,by decide +kernel⟩ hk) Q M (λH E P r=>⟨a,D,rfl,E,P,r,i,λ_=>rfl⟩) λH e Z z=>by
  obtain⟨_,_,_,_,_,_,_,_,_,_,_,_,_,_,_,z⟩:=z;exact z
section
variable {prog:Program}{w:World}{A:Around}{E:aC->Shared->Prop}{h:aT}{g:Array GenState}{d:Drawn}{t:Nat}{os:OsState}
variable {nm q:aG}{C N:aE}{bs bm bmB:List aC}{hdct:Bool}{sn:List aG}{sub:List aC}{ab:Bool}{col:Option Bool}{dd:Option aE}{k0 k1 k2 k3 k5:Option aC}{B newId initId:String}
theorem YH(F:sj B newId initId bmB)(p:lL h bmB bm) 
  (j:h.get? C=aA (fY nm q C N bs bm hdct sn sub ab col dd k0 k1 k2 k3 k5 newId)) (s:h.Ns N mN) (v:mN "__init__"=aA (.ref fI)) (gf:h.get? fI=aA G) (gc:G.cls=.type "function")
  (go:∀D x,nE h D x (.ref C) us->wpAny (aR prog w) A (call (.ref fI) (.ref x::us)) (λr u=>r=.none/\Q (.done (.ret (.ref x))) u) E ⟨D,g,d,t,os⟩) (k:us.length<=sizeLine) :
  wpAny (aR prog w) A (iO.«type.__call__» ⟨.ref C::us,[]⟩) Q E ⟨h,g,d,t,os⟩:=by
 repeat (first|(with_reducible refine l4 j ?_)|(with_reducible refine wpAny_madeBy_exc j ?_)|wp_step)
 refine codeAny_call_builtin_code (D4 _ F.quiet) (wpAny_check_new_subT F p j (codeAny_exc_new_subT F p j ?_ k));show wpAny _ _ _ _ _ _;let c:a_:={cls:=.type "tuple",data:=.seq us.toArray};let a:a_:={cls:=.ref C,data:=.fields #[.ref h.objs.size,.none,.none,.none,.bool aD,.none]};have f:∀b o,h.get? b=aA o->((h.push c).push a).get? b=aA o:=λb o e=>bN _ (bN _ e);have i:=f _ _ j;have m:=f _ _ gf;have n:((h.push c).push a).Ns N mN:=by
  obtain⟨o,es,ep,e,r⟩:=s;exact⟨o,es,ep,f _ _ e,r⟩
 have gx:((h.push c).push a).get? (h.objs.size+1)=aA a:=by
  have:=dQ (h.push c) (o:=a) rfl;rw[lT] at this;exact this
 have own:(b9 C::bm).contains (.ref C)=aB:=by simp
 have y:lL ((h.push c).push a) bmB bm:=p.keeps f;unfold r4;repeat (first|(with_reducible refine l4 gx ?_)|(with_reducible refine tO i ?_;rw[own])|wp_step)
 show wpAny _ _ (mB (.ref C) _) _ _ _;refine wpAny_typeLookup_tail i n y F.mroIs F.init.lookup ?_;rw[v];refine wpAny_holding (wpAny_bind ?_);unfold bindSpecial;refine wpAny_bind (mE (T:="function") ⟨_,m,gc⟩ ?_);rw[if_pos (by decide)];have mk:nE h ((h.push c).push a) (h.objs.size+1) (.ref C) us:=⟨f,iJ (iW _),h.objs.size,gx,iJ (bG _),bN _ (tu rfl rfl)⟩;refine wpAny_pure (wpAny_bind (cR (go _ _ mk) (λr u l=>?_) λ_ _ z=>z));obtain⟨rfl,l⟩:=l;wp_walk;exact l
theorem Uu(F:sj B newId initId bmB)(f:lL h bmB bm) 
  (a:h.get? C=aA (fY nm q C N bs bm hdct sn sub ab col dd k0 k1 k2 k3 k5 newId)) (c:h.Ns N mN) (e:mN "__init__"=aA (.ref fI)) (gf:h.get? fI=aA u) (gc:u.cls=.type "function")
  (go:∀j x,nE h j x (.ref C) us->wpAny (aR prog w) (A.under (.builtin "type.__call__" ⟨.ref C::us,[]⟩)) (call (.ref fI) (.ref x::us)) (λr m=>r=.none/\Q (.ref x) m) E ⟨j,g,d,t,os⟩) (b:us.length<=sizeLine) :
  wpAny (aR prog w) A (call (.ref C) us) Q E ⟨h,g,d,t,os⟩:=by
 have l:=tc_lookup;have k:=tc_bind (.ref C);have i:Shared.TypeIs ⟨h,g,d,t,os⟩ (.ref C) "type":=⟨_,a,rfl⟩;refine hO (codeAny_of_tree ?_);show wpAny _ _ (callAny (.ref C) _) _ _ _;repeat (any_goals (first|assumption|(with_reducible refine l4 a ?_)|wp_step))
 refine⟨rfl,codeAny_call_builtin_at (D4 _ (by decide +kernel)) entry_typeCall (wpAny_check_type_call_sub a ?_)⟩;exact YH F f a c e gf gc (λj x mk=>go j x mk) b
theorem uN (a:bm.contains (.type "BaseException")=aB) (c:A.handled=aF)
  (go:wpAny M A x (λv j=>∃e t dx,v=.ref e/\j.heap.get? C=aA (fY nm q C N bs bm hdct sn sub ab col dd k0 k1 k2 k3 k5 newId)/\
   j.heap.get? e=aA {cls:=.ref C,dict:=dx,data:=.fields #[.ref t,.none,.none,.none,.bool aD,.none]}/\E (.ref e) j) E s) :
  wpAny M A (oU env (aA x) aF) Q E s:=by
 have gV:(b9 C::bm).contains (.type "BaseException")=aB:=by rw[pF,a];simp
 unfold oU;refine wpAny_bind (cR go (λv j k=>?_) λ_ _ z=>z);obtain⟨e,t,dx,rfl,b,ge,d⟩:=k;obtain⟨h,i,l,f,g⟩:=j;repeat (first|(with_reducible refine l4 ge ?_)|(with_reducible refine l4 b ?_)|(with_reducible refine tO b ?_;rw[gV])|wp_step)
 exact wpAny_raiseNew_none c d
end
section
variable {prog:Program}{w:World}{A:Around}{E:aC->Shared->Prop}{s:Shared}
variable {nm q:aG}{C N:aE}{bs bm bmB:List aC}{hdct:Bool}{sn:List aG}{sub:List aC}{ab:Bool}{col:Option Bool}{dd:Option aE}{k0 k1 k2 k3 k5:Option aC}{B newId initId:String}
theorem Tf(F:sj B newId initId bmB)(l:lL s.heap bmB bm){e:aE}{ob:a_}{vs:Array aC}{i:aE}{rest:List aC}{Q:aC->aW->Prop}
  (k:s.heap.get? C=aA (fY nm q C N bs bm hdct sn sub ab col dd k0 k1 k2 k3 k5 newId)) (he:s.heap.get? e=aA ob) (b:ob.cls=.ref C) (hd:ob.data=.fields vs) (f:vs[0]?=aA (.ref i))
  (h:Q .none {s with heap:=(s.heap.push {cls:=.type "tuple",data:=.seq rest.toArray}).update e (fO (·.setIfInBounds 0 (.ref s.heap.objs.size)))}) (hrest:rest.length<=sizeLine) :
  wpAny (aR prog w) A (call (.builtin initId) (.ref e::rest)) Q E s:=by
 obtain⟨j,g,d,t,os⟩:=s;refine hO (p_ F.init.plain F.initEntry (wpAny_check_init_subT F l k he b ?_));unfold iO.«BaseException.__init__»;dsimp only;rw[if_neg (by simp)];unfold newTuple LL;have c:0<vs.size:=(nU.mp f).1;have a:=bN (h:=j) {cls:=.type "tuple",data:=.seq rest.toArray} he;refine wpAny_bind (lC (wpAny_bind (wpAny_bind (gD a hd f (wpAny_bind (nF a hd c ?_))))) (by show rest.toArray.size<=sizeLine;rw[dH];exact hrest));exact nA (wpAny_pure h)
end
noncomputable def wX:List aC->Bool
 |.ref _::r=>wX r
 |l=>l==zr
theorem vD(self:aC):∀{l:List aC},wX l=aB->PySem.refuseLoop self "__setattr__" l=pure ()
 |.ref c::r,e=>by rw[refuseLoop_ref];exact vD self e
 |.type n::r,e=>by rw[show ny n::r=zr from beq_iff_eq.mp e];exact EN.passes self
 |[],e=>by cases e
 |v::r,e=>by
  unfold wX at e;split at e
  .rename_i h;cases h;rw[refuseLoop_ref];exact vD self e
  .rw[beq_iff_eq.mp e];exact EN.passes self
theorem kb:∀{l:List aC},wX l=aB->l.contains (.type "object")=aB
 |.ref c::r,e=>by rw[pF,kb (l:=r) e,sk]
 |[],e=>by cases e
 |v::r,e=>by
  unfold wX at e;split at e
  .rename_i h;cases h;rw[pF,kb (l:=_) e,sk]
  .rw[beq_iff_eq.mp e];decide
section
variable {prog:Program}{w:World}{A:Around}{E:aC->Shared->Prop}{s:Shared}{K:PySem.W.Frag}{C x:aE}
theorem R_(X:K.In s.heap)(hx:s.heap.get? x=aA ox)(T:ox.cls=.ref C)(D:PySem.W.notCls ox=aB)(hd:ox.dict=aF)
  (hs:cD K (.ref C) "__setattr__"=aA (aA (.builtin "object.__setattr__"))) (hp:((lS K C).any λcd=>wX cd.mro)=aB) (ht:cD K (.ref C) name=aA aF) (hh:iT K C=aB)
  (h:∀h' tk,h'.get? x=aA {ox with dict:=aA s.heap.objs.size}->h'.Ns1 s.heap.objs.size (λy=>if y=name then aA v else aF)->(∀b o,b≠x->s.heap.get? b=aA o->h'.get? b=aA o)->Q () {s with heap:=h',toks:=tk}) :
  wpAny (aR prog w) A (setAttr (.ref x) name v) Q E s:=by
 have J:Do s.heap x ox C aF:=⟨hx,T,D,by rw[hd];trivial⟩;refine D0 X J hs ?_;have H:=PySem.F.store_object;obtain⟨cd,m,I⟩:=ti hp;obtain⟨cd',n,p⟩:=ti hh;rw[m] at n;cases n;have ne:cd.mro.isEmpty=aD:=by cases q:cd.mro with|nil=>rw[q] at I;cases I|cons _ _=>rfl
 have sub:nz (aR prog w) s.heap (r4 (.ref x) (.type "object")) aB:=J.type.andThen (PySem.W.looks_mroIn X (by unfold gF;rw[m,pQ,if_neg (by rw[ne];decide),kb I]));refine p_ H.slot.plain H.entry (@PySem.W.check_slot (aR prog w) _ _ {s with toks:=s.toks+1} "object.__setattr__" "object" "__setattr__" (.ref x) [.str name s.toks,v] [] _ H.kind H.split sub (H.args (.ref x) (.str name s.toks) v) ?_);have hm:nz (aR prog w) s.heap (mroOf (.ref C)) cd.mro:=(tP X m).andThen .now;rw[PySem.W.osa_eq,refuse_eq];refine wpAny_bind (wpAny_bind (mQ (s:={s with toks:=s.toks+1}) J.type (wpAny_bind (mQ (s:={s with toks:=s.toks+1}) hm ?_))));rw[vD _ I];refine wpAny_pure (wpAny_bind (mQ (s:={s with toks:=s.toks+1}) J.type (wpAny_bind (mQ (s:={s with toks:=s.toks+1}) (o9 X ht) (wpAny_bind (wpAny_pure ?_))))));obtain⟨i,g,dr,t,os⟩:=s;obtain⟨oc,Z,l,L⟩:=ox;dsimp only at T hd hx;subst T hd;have B:∀c,l≠.cls c:=λc z=>by subst z;cases D
 refine wpAny_bind (wpAny_pure (wpAny_bind (wpAny_bind (wpAny_loadPart hx (wpAny_bind (mQ (s:=⟨i,g,dr,t+1,os⟩) (tP X m) ?_))))));rw[p];have k:(i.push {cls:=.type "dict",data:=.dict #[]}).get? x=aA ⟨.ref C,aF,l,L⟩:=bN _ hx;have u:x≠i.objs.size:=dF (bW hx)
 have go:wpAny (aR prog w) A.in1 (do
   let d ←alloc {cls:=.type "dict",data:=.dict #[]}
   update x λo=>{o with dict:=aA d}
   dictMade (.ref C) x d) (λa j=>wpAny (aR prog w) A.in1 (match a with
    |some d=>t1 d (.str name t) name v
    |none=>LO (.ref x) (.ref C) name aD) (λfin j=>match fin with|.done f=>(match (Except.ok f:ni) with|.ok (.ret _)=>Q () j|.ok _=>False|.error e=>E e j)|.again Y=>Y.quiet=aB/\fE (aR prog w) A Y (λr j=>match r with|.ok (.ret _)=>Q () j|.ok _=>False|.error e=>E e j) j) (λe j=>E e j) j) (λe j=>E e j) ⟨i,g,dr,t+1,os⟩:=by
  refine wpAny_bind (wpAny_alloc' ?_);refine wpAny_bind (wpAny_update' k ?_);refine wpAny_pure ?_
  have O:((i.push {cls:=.type "dict",data:=.dict #[]}).update x λo=>{cls:=o.cls,dict:=aA i.objs.size,data:=o.data,slots:=o.slots}).get? i.objs.size
    = aA {cls:=.type "dict",data:=.dict #[]}:=
   (pZ _ _ _ _ u.symm).trans (tu rfl rfl)
  have N:((i.push {cls:=.type "dict",data:=.dict #[]}).update x λo=>{cls:=o.cls,dict:=aA i.objs.size,data:=o.data,slots:=o.slots}).Ns i.objs.size (λ_=>aF):=
   ⟨_,#[],_,O,rfl,λe he=>absurd he (by simp),λ_=>rfl⟩
  show wpAny _ _ (t1 i.objs.size (.str name t) name v) _ _ _;unfold t1 LM;refine wpAny_bind (wpAny_pure (wpAny_bind (wpAny_nsSet1 (DZ N) λh' G hs=>?_)));obtain⟨oD,esD,epD,M,R,S⟩:=G.count (Cv name v Within.nil);refine wpAny_bind (Dm M (by rw[R];exact Dl (cV S (by rw[eG,lA,eZ];lia))) ?_);refine wpAny_pure (h h' _ ?_ ?_ ?_)
  .refine (hs.2 x u).trans (l6 _ k ?_);have P:=(Heap.get?_some_iff.mp hx).2;cases l<;>first|rfl|exact P
  .obtain⟨o',es,ep,e1,e2,e3,eu,e4⟩:=G;exact⟨o',es,ep,e1,e2,e3,eu,λy=>by rw[e4 y]⟩
  .intro b o U V;exact (hs.2 b (dF (bW V))).trans ((pZ _ _ _ _ U).trans (bN _ V))
 cases l<;>first|exact absurd rfl (B _)|exact go
end
theorem ya{K:bH}(X:K.In h)(e:nj K N=aB)(q:mD K N x=aA (aA v)):h.nsMap N x=aA v:=by
 obtain⟨o,es,ep,b,hd,_,f⟩:=(Heap.Ns.of_isNs (sX X e):h.Ns N (h.nsMap N));unfold mD at q;split at q
 .rename_i c d i k j a;have:=X _ _ a;rw[b] at this;cases this;cases hd;split at q
  .rename_i g;cases q;rw[<-f];unfold nsFind findBy;rw[<-Ed,g];rfl
  .split at q<;>cases q
 .cases q
theorem f8.mro{K:bH}(x:f8 K C HE fI fl):((lS K C).any λcd=>wX cd.mro)=aB:=by
 obtain⟨N,nm,q,bs,hd,sn,sub,ab,col,dd,k0,k1,k2,k3,k5,h,_⟩:=x.cls;unfold lS;rw[h];show wX (.ref C::.ref HE::zr)=aB;show wX zr=aB;decide
theorem f8.at_{K:bH}(x:f8 K C HE fI fl)(X:K.In h):∃N nm q bs hd sn sub ab col dd k0 k1 k2 k3 k5,h.get? C=aA (fY nm q C N bs (.ref HE::zr) hd sn sub ab col dd k0 k1 k2 k3 k5 "ValueError.__new__")/\h.Ns N (h.nsMap N)/\h.nsMap N "__init__"=aA (.ref fI)/\lL h zr (.ref HE::zr):=by
 obtain⟨N,nm,q,bs,hd,sn,sub,ab,col,dd,k0,k1,k2,k3,k5,n,b,m⟩:=x.cls;obtain⟨v,z,e,w,t,l,d,a,u,c,s,k,j,i,g,f,mN,r,p,o,y⟩:=uw X x.he;exact⟨N,nm,q,bs,hd,sn,sub,ab,col,dd,k0,k1,k2,k3,k5,X _ _ n,.of_isNs (sX X b),ya X b m,.own r p o .base⟩
section
variable {X:Cx}{pins:List (aE×a_)}{s:Shared}{σ:St}{H:Hp}{C HE fI:aE}{fl:aG}
theorem SN (hN:X.N[1]?=aA par) (n:gY X.env.scope par) (hd:(par==("__debug__":aG))=aD) (j:(par==("__classdict__":aG))=aD) (R:a.length<=1000) (P:b.length<=1000) :
  PE X (.JoinedStr [.Constant (.str a) U p1,.FormattedValue (.Name par L) (-1) aF J,.Constant (.str b) O G] E) (λσ H Q=>∃i:Int,σ[1]?=aA (aA (.int i))/\i.natAbs.log2<1920/\∀z,Q (.str z) H):=by
 rintro c s σ H Q I ⟨i,o,d,q⟩;have e:=D3 (k:=1920) (by decide) d;have S:(e_ (toString i)).length<=1921:=by rw[Eo];exact e
 refine Dx ?_;refine aY (Ze (x:=a) c s σ H (λv f=>v=.str a/\f=H) I ⟨rfl,rfl⟩) ?_;rintro u m ⟨v,f,y,r,rfl,rfl⟩;obtain⟨D,rfl⟩:=r;have M:(lP++a).length<=1000:=by rw[nG];show 0+a.length<=1000;lia
 refine⟨_,_,rfl,by rw[eZ];lia,?_⟩;refine ED (aY (xY (i:=1) hN n hd j c m σ f (λv g=>v=.int i/\g=f) y ⟨_,o,rfl,rfl⟩) ?_);rintro u h ⟨v,g,w,r,rfl,rfl⟩;obtain⟨C,rfl⟩:=r;refine Em d ?_;have K:(lP++a++e_ (toString i)).length<=3000:=by rw[nG];lia
 refine⟨_,_,rfl,by rw[eZ];lia,?_⟩;have t:Inv X c σ g {h with toks:=h.toks+1+1}:=w.kept (h':=h.heap) λ_ _ q=>q;refine aY (Ze (x:=b) c _ σ g (λv f=>v=.str b/\f=g) t ⟨rfl,rfl⟩) ?_;rintro u l ⟨v,A,p,r,rfl,rfl⟩;obtain⟨B,rfl⟩:=r;have F:(lP++a++e_ (toString i)++b).length<=5000:=by rw[nG];lia
 refine⟨_,_,rfl,by rw[eZ];lia,by rw[eZ];lia,?_⟩;exact⟨.str _,A,p.kept (h':=l.heap) λ_ _ q=>q,⟨_,rfl⟩,q _⟩
theorem z0h (hN:X.N[1]?=aA par) (l:gY X.env.scope par) (hd:(par==("__debug__":aG))=aD) (f:(par==("__classdict__":aG))=aD) (C:a.length<=1000) :
  PE X (.JoinedStr [.Constant (.str a) E p1,.FormattedValue (.Name par D) (-1) aF B] A) (λσ H Q=>∃i:Int,σ[1]?=aA (aA (.int i))/\i.natAbs.log2<1920/\∀z,Q (.str z) H):=by
 rintro b s σ H Q I ⟨i,m,c,q⟩;have e:=D3 (k:=1920) (by decide) c;have F:(e_ (toString i)).length<=1921:=by rw[Eo];exact e
 refine Dx ?_;refine aY (Ze (x:=a) b s σ H (λv d=>v=.str a/\d=H) I ⟨rfl,rfl⟩) ?_;rintro u j ⟨v,d,o,r,rfl,rfl⟩;obtain⟨t,rfl⟩:=r;have y:(lP++a).length<=1000:=by rw[nG];show 0+a.length<=1000;lia
 refine⟨_,_,rfl,by rw[eZ];lia,?_⟩;refine ED (aY (xY (i:=1) hN l hd f b j σ d (λv g=>v=.int i/\g=d) o ⟨_,m,rfl,rfl⟩) ?_);rintro u h ⟨v,g,n,r,rfl,rfl⟩;obtain⟨p,rfl⟩:=r;refine Em c ?_;have w:(lP++a++e_ (toString i)).length<=3000:=by rw[nG];lia
 refine⟨_,_,rfl,by rw[eZ];lia,by rw[eZ];lia,?_⟩;exact⟨.str _,g,n.kept (h':=h.heap) λ_ _ q=>q,⟨_,rfl⟩,q _⟩
noncomputable def JU(par:aG)(c:List aH):Prop:=
 (∃(a b:aG) (f h:Nat) (p1 e d g:Pos),c=[.Constant (.str a) f p1,.FormattedValue (.Name par e) (-1) aF d,.Constant (.str b) h g]/\a.length<=1000/\b.length<=1000)\/
 ∃(a:aG) (f:Nat) (p1 e d:Pos),c=[.Constant (.str a) f p1,.FormattedValue (.Name par e) (-1) aF d]/\a.length<=1000
theorem Tl (hN:X.N[1]?=aA par) (f:gY X.env.scope par) (hd:(par==("__debug__":aG))=aD) (c:(par==("__classdict__":aG))=aD) (h:JU par d) :
  PE X (.JoinedStr d m) (λσ H Q=>∃i:Int,σ[1]?=aA (aA (.int i))/\i.natAbs.log2<1920/\∀z,Q (.str z) H):=by
 rcases h with⟨a,b,k,o,p1,j,g,n,rfl,e,l⟩|⟨a,k,p1,j,g,rfl,e⟩
 .exact SN hN f hd c e l
 .exact z0h hN f hd c e
theorem Xo (T:f8 X.K C HE fI fl) (E:X.N[0]?=aA d) (p:gY X.env.scope d) (A:(d==("__debug__":aG))=aD) (n:(d==("__classdict__":aG))=aD)
  (hN:X.N[1]?=aA par) (hv:gY X.env.scope par) (hd:(par==("__debug__":aG))=aD) (D:(par==("__classdict__":aG))=aD) (y:JU par g)
  (hB:Gl X B) (hm:X.mg B=aA (.ref HE)) (G:(B==("__debug__":aG))=aD) (v:lU X.K (.ref HE) "__getattribute__"=aA (aA (.builtin "type.__getattribute__"))) (hr:sh X.K HE (.type "type")=aB)
  (hf:sg X.K (.ref HE) (.type "type") "__init__"=aA (.val (.builtin "ValueError.__init__"))) (f:(M.endLine==r.line)=aB) :
  PE X (.Call (.Attribute (.Name B q0) "__init__" M) [.Name d q2,.JoinedStr g p5] [] r) (λσ H Q=>∃(x:aE) (i:Int),σ[0]?=aA (aA (.ref x))/\σ[1]?=aA (aA (.int i))/\i.natAbs.log2<1920/\H x=aA (.ext (u1 x C))/\Q .non (aX H x (.ext (u1 x C)))):=by
 rintro c s σ H Q I ⟨x,i,h0,S,m,R,q⟩;rw[ss];refine wpAny_bind (zR I hB hm ?_ G);refine wpAny_bind (fF ?_);have l:mH aB (.Name B q0) X.env M r=pure r:=by unfold mH;simp[f]
 unfold nu;refine wpAny_bind (wpAny_holding (PySem.W.method_cls I.kIn v (PySem.W.cls_value I.kIn hr hf rfl ?_)));refine wpAny_bind (lQ l ?_);have I1:Inv X c σ H {s with toks:=s.toks+1}:=I.kept (h':=s.heap) λ_ _ q=>q;have pa:PA X [.Name d q2,.JoinedStr g p5] _:=zj (xY (i:=0) E p A n) (zj (Tl hN hv hd D y) zC);refine PySem.W.callWith_of (P:=λ_=>True) (first:=[]) rfl (λh _=>⟨.machine,.inr (.inl rfl),CM rfl⟩) (mR (aY (pa r c _ σ H (λL H1=>∃z,L=[.ref x,.str z]/\H1=H) I1 ⟨_,h0,i,S,m,λz=>⟨z,rfl,rfl⟩⟩) ?_));rintro U a ⟨L,H2,J,V,z,rfl,rfl⟩;obtain⟨j,rfl⟩:∃j,U=[.ref x,j]:=by
  cases V with
  |cons r1 Z=>cases Z with
   |cons r3 Y=>cases Y;cases r1;exact⟨_,rfl⟩
 refine⟨trivial,?_⟩;obtain⟨N,nm,qn,bs,hdd,sn,sub,ab,col,dd,k0,O,k2,k3,k5,g1,g2,g3,g4⟩:=T.at_ J.kIn;obtain⟨t,ex⟩:u1 x C a.heap:=(show a8 X.prog X.w H2 a.heap x (.ext (u1 x C)) from J.hok _ _ R).1;refine Tf (rest:=[j]) l8 g4 g1 ex rfl rfl rfl ?_ (by rw[eZ];show 1<=_;lia);have lt:x<a.heap.objs.size:=bW ex;have ex1:=bN (h:=a.heap) {cls:=.type "tuple",data:=.seq [j].toArray} ex;have O:∀b u,b≠x->a.heap.get? b=aA u->((a.heap.push {cls:=.type "tuple",data:=.seq [j].toArray}).update x (fO (·.setIfInBounds 0 (.ref a.heap.objs.size)))).get? b=aA u:=λb u hb hu=>by
  rw[i3 _ _ (c7 hb)];exact bN _ hu
 have ex2:((a.heap.push {cls:=.type "tuple",data:=.seq [j].toArray}).update x (fO (·.setIfInBounds 0 (.ref a.heap.objs.size)))).get? x=aA {cls:=.ref C,data:=.fields #[.ref a.heap.objs.size,.none,.none,.none,.bool aD,.none]}:=by
  rw[l6 _ ex1 rfl];rfl
 exact⟨.non,_,J.write (x:=x) (e:=x) (o:=.ext (u1 x C)) (t':=a.toks) (by rw[R];exact fX) (.inl rfl) O ⟨_,ex2⟩ ⟨⟨_,ex2⟩,⟨_,ex2⟩,λS h2 ⟨t,e⟩ k=>⟨t,k _ e⟩⟩,rfl,q⟩
theorem JJ (m:f8 X.K C HE fI fl) (F:X.N[0]?=aA d) (y:gY X.env.scope d) (B:(d==("__debug__":aG))=aD) (l:(d==("__classdict__":aG))=aD)
  (hN:X.N[1]?=aA par) (R:gY X.env.scope par) (hd:(par==("__debug__":aG))=aD) (E:(par==("__classdict__":aG))=aD) :
  PS X (.Assign [.Attribute (.Name d q0) fl q1] (.Name par q2) q3) (λD σ H=>∃(x:aE) (i:Int),σ[0]?=aA (aA (.ref x))/\σ[1]?=aA (aA (.int i))/\H x=aA (.ext (u1 x C))/\∀dx,H dx=aF->dx≠x->D.nx σ (aX (aX H x (.ext (uE x C dx))) dx (.xd [(fl,.int i)]))):=by
 rintro a s σ H D I ⟨x,i,Y,M,L,q⟩;refine plainObj_wpAny_Assign_Attribute (aY (xY (i:=1) hN R hd E a s σ H (λv n=>v=.int i/\n=H) I ⟨_,M,rfl,rfl⟩) ?_) rfl;rintro u P ⟨v,n,I1,r,rfl,rfl⟩;refine aY (xY (i:=0) F y B l a P σ n (λv g=>v=.ref x/\g=n) I1 ⟨_,Y,rfl,rfl⟩) ?_;rintro ov c ⟨v,g,j,Q,rfl,rfl⟩;cases Q;obtain⟨t,ex⟩:u1 x C c.heap:=(show a8 X.prog X.w g c.heap x (.ext (u1 x C)) from j.hok _ _ L).1;refine R_ j.kIn ex rfl rfl rfl m.sa m.mro m.no m.dct λZ O G e2 e3=>?_;have lt:x<c.heap.objs.size:=bW ex;have U:g c.heap.objs.size=aF:=j.hok.fresh (bG _);have J:c.heap.objs.size≠x:=lW lt;refine⟨σ,_,?_,q _ U J⟩;have h:cN X g c.heap.objs.size:=wy j (iJ (bG _));have A:∀p∈a,p.1≠c.heap.objs.size:=λp T z=>by
  have:=(j.pin p (dR _ T)).1;rw[z,iJ (bG _)] at this;cases this
 have I3:Inv X a σ (aX g x (.ext (uE x C c.heap.objs.size))) {c with heap:=Z,toks:=O}:=j.write (x:=x) (e:=x) (by rw[L];exact fX) (.inl rfl) (λb u W S=>e3 b u W S) ⟨_,G⟩ ⟨⟨t,G⟩,⟨_,G⟩,λM h2 ⟨t,e⟩ k=>⟨t,k _ e⟩⟩;have o:cN X (aX g x (.ext (uE x C c.heap.objs.size))) c.heap.objs.size:=⟨by rw[z6 J];exact h.free,h.loc,h.nfs,h.new,h.cel,h.pin⟩;refine vd I3 o A ⟨_,e2,λf=>?_⟩;show cL (gE f [(fl,V.int i)]) (if f=fl then aA u else aF);by_cases z:f=fl
 .subst z;rw[if_pos rfl];simp only[gE,beq_self_eq_true];exact r
 .rw[if_neg z];have:(f==fl)=aD:=beq_eq_false_iff_ne.mpr z;simp only[gE,this];exact trivial
end
noncomputable def UP(body:List bB)(B b par fl:aG):Prop:=∃(k d j l c i h g f e:Pos) (a:List aH),
 body=[.Expr (.Call (.Attribute (.Name B k) "__init__" d) [.Name b j,.JoinedStr a l] [] c) i,.Assign [.Attribute (.Name b h) fl g] (.Name par f) e]/\(d.endLine==c.line)=aB/\JU par a
noncomputable def ou(a par B:aG)(sc:Scope):Bool:=(sc.kind==.function)&&!sc.isCoroutine&&!sc.isGenerator&&(a != par)&&(sc.names.lookup a==aA .local)&&(sc.names.lookup par==aA .local)&&sc.names.all (λy=>y.2 != .free)&&(sc.names.lookup B==aA .globalImplicit)&&
 (a != ("__debug__":aG))&&(a != ("__classdict__":aG))&&(par != ("__debug__":aG))&&(par != ("__classdict__":aG))&&(B != ("__debug__":aG))
section
variable {P:Program}{w:World}{K:PySem.W.Frag}{mg:aG->Option aC}{base:aT}{C HE fI:aE}{fl:aG}{k:Nat}
structure Co(K:PySem.W.Frag)(mg:aG->Option aC)(HE:aE)(B:aG):Prop where
 mg:mg B=aA (.ref HE)
 ga:lU K (.ref HE) "__getattribute__"=aA (aA (.builtin "type.__getattribute__"))
 rd:sh K HE (.type "type")=aB
 fc:sg K (.ref HE) (.type "type") "__init__"=aA (.val (.builtin "ValueError.__init__"))
theorem Ma{a par B:aG}{params:Arguments}{body:List bB}{J kV doc G b ct N:aC}{an od:Option aE} 
  (F:f8 K C HE fI fl) (l:Co K mg HE B) (lk:K.lookup fI=aA ⟨N,od,.func (eE name qual params body scope J kV doc G an b ct),M⟩) (r:eD K b qual=aB) (O:UP body B a par fl) (hs:ou a par B scope=aB) :
  bI P w K mg base CX (k+1) fI (eE name qual params body scope J kV doc G an b ct) [a,par] (gG C fl):=by
 simp only[ou,bK,eF,beq_iff_eq,mJ,bne_iff_ne,ne_eq] at hs;obtain⟨⟨⟨⟨⟨⟨⟨⟨⟨⟨⟨⟨Z,Y⟩,X⟩,V⟩,u⟩,t⟩,U⟩,T⟩,R⟩,D⟩,z⟩,y⟩,v⟩:=hs;have S:cP [a,par] [a,par] scope:=⟨Z,Y,X,by simp[V],rfl,λx c=>by
  rcases dG.mp c with rfl|c
  .exact .inl u
  .rw[c8.mp c];exact .inl t,U⟩
 obtain⟨q0,q1,q2,p5,q4,q5,r0,r1,r2,r3,m,rfl,c5,c6⟩:=O;refine GI (fnb:=λ_=>aB) lk r S (λL H Q E q=>by obtain⟨x,i,rfl,_⟩:=q;rfl) λA n s H L Q E hr o _=>?_;obtain⟨x,i,rfl,d,c,q⟩:=o;have g:(a==("__debug__":aG))=aD:=beq_eq_false_iff_ne.mpr R;have j:(a==("__classdict__":aG))=aD:=beq_eq_false_iff_ne.mpr D;have f:(par==("__debug__":aG))=aD:=beq_eq_false_iff_ne.mpr z;have h:(par==("__classdict__":aG))=aD:=beq_eq_false_iff_ne.mpr y;have p:(B==("__debug__":aG))=aD:=beq_eq_false_iff_ne.mpr v;refine⟨_,ZJ (V5 (Xo (C:=C) (HE:=HE) (fI:=fI) (fl:=fl) F rfl (.inl u) g j rfl (.inl t) f h c6 T l.mg p l.ga l.rd l.fc c5)) (XU (JJ (C:=C) (HE:=HE) (fI:=fI) F rfl (.inl u) g j rfl (.inl t) f h)),?_⟩;refine⟨x,i,rfl,rfl,d,c,x,i,rfl,rfl,z4,λdx e I=>?_⟩;rw[WU];exact q dx (by rw[z6 I] at e;exact e) I
end
section
variable {P:Program}{w:World}{K:PySem.W.Frag}{mg:aG->Option aC}{base:aT}{C HE fI:aE}{fl:aG}{k:Nat}
theorem Ob {name : aG}{params : Arguments}{body : List bB}{Y kV doc U d ct oc : aC}{an od : Option aE}
 {N ps : List aG}(lk : K.lookup f = aA ⟨oc, od, .func (eE name qual params body scope Y kV doc U an d ct), osl⟩) (G : eD K d qual = aB) (S : cP N ps scope)
    (len:∀vs H Q E, sp vs H Q E->vs.length=ps.length)
    (i : ∀ (X : Cx) (H : Hp) (vs : List V) (Q : VK), X.K = K -> X.mg = mg -> X.N = N -> X.env.scope = scope -> sp vs H Q (fun _ _ _ => False) ->
      ∃t, fS X body t/\t {nx:=λ_ H'=>Q .non H', rt:=Q} (start N vs) H) :
    yB P w K mg base (k+1) f (eE name qual params body scope Y kV doc U an d ct) ps sp:=by
  intro A c s H args us vs Q hr e0 hb r l;have hl:=len _ _ _ _ l;have Z:K.In s.heap:=e0.mod.kin.keeps λb o e=>(e0.bs b o e).1;have D:s.heap.NoLimit:=e0.mod.nolimit.keeps λb o e=>(e0.bs b o e).1;have m:∀y∈ps.zip us, scope.names.lookup y.1=aA .local\/(scope.names.lookup y.1=aA .cell/\((o0 (s.heap.objs.size+1) scope.names []).lookup y.1).isSome=aB):=by
    rintro⟨y, v⟩ hy;rcases S.par y (pM hy).1 with z|z
    · exact .inl z
    · exact .inr ⟨z, tJ _ _ _ (.inl z)⟩
  have F:A.depth<recursionLimit:=by have:=hr.dp;lia
  refine tV F (Z _ _ lk) rfl S.co S.gen rfl (Ec Z G) (hb _ _ _ _ (EG S.kind m λenv he T x=>?_));subst he;refine⟨D.keeps x.toInCall.keep, sC ?_⟩;have L:dT P w K mg base {A with handled:=aF} c s H:=⟨e0.frames, e0.mod, e0.bs, e0.bsz, e0.funs, e0.frf, e0.hok, e0.bare⟩;have a:=QQ (fnb:=λ_=>aB) (CX:=λ_ _ _ _ _ _=>False) (E:=λ_ _ _=>False) (f:=f) (cd:=d) (qual:=qual) (A:={A with handled:=aF}) S rfl L hl r x;generalize j:({Kx (λ_ _ _ _ _ _=>False) P w K mg base N qual scope f d A c s H (λ_ _ _=>False) with calm:=aD, xe:=λ_ _=>False}:Cx)=X;have I:Inv X [] (start N vs) H T:=by
    subst j;exact⟨⟨a.ok.mod, a.ok.kind, a.ok.glob, a.ok.blt, a.ok.above, a.ok.inj, a.ok.has, a.ok.cab, (λh=>by cases h), tT e0.frames, a.ok.stk, a.ok.exf, a.ok.bs, a.ok.bsz, a.ok.noex, a.ok.exfs, a.ok.funs, a.ok.frf⟩, a.os, a.bare, a.base, a.loc, a.cell, a.free, a.freeC, a.pin, a.hok, a.len⟩
  obtain⟨t, ht, hq⟩:=i X H vs Q (by subst j;rfl) (by subst j;rfl) (by subst j;rfl) (by subst j;rfl) l;have B:=ht [] T (start N vs) H _ I hq;have XA:X.A=A.deeper (gM qual scope s.heap.objs.size f d):=by rw[<-j];rfl
  have Xp:X.prog=P/\X.w=w/\X.env=gM qual scope s.heap.objs.size f d/\(∀e s, X.xe e s->False)/\X.fs=eJ c/\X.H₀=H/\X.s₀=s/\X.ex=[]:=by
    subst j;exact⟨rfl, rfl, rfl, λ_ _ z=>z, rfl, rfl, rfl, rfl⟩
  obtain⟨R, O, x3, x4, x5, x6, M, x8⟩:=Xp;rw[XA, R, O, x3] at B;refine cR B (λfl n p=>?_) λe n z=>(x4 e n z).elim;have fin:∀{g:St}{H':Hp}{v:V}{u:aC}, Inv X [] g H' n->RelV v u->Q v H'->CE c P w H s Q u n:=λ{g H' v u} J C q=>by
    have b:=J.base;have o:=J.os;have h:=J.hok;rw[x5, x6, M, x8] at b;rw[M] at o;rw[R, O] at h;exact⟨v, H', o, J.bare, b, h, C, q⟩
  cases fl with
  |ret u=>obtain⟨v, g, H', J, C, q⟩:=p;exact fin J C q
  |next=>obtain⟨g, H', J, q⟩:=p;exact fin (v:=V.non) (u:=dP) J rfl q
  |brk=>obtain⟨_, _, _, q⟩:=p;exact q.elim
  |cont=>obtain⟨_, _, _, q⟩:=p;exact q.elim
theorem Pl{par B:aG}{params:Arguments}{body:List bB}{G kV doc D a ct L:aC}{an od:Option aE} 
  (A:f8 K C HE fI fl) (l:Co K mg HE B) (lk:K.lookup fI=aA ⟨L,od,.func (eE name qual params body scope G kV doc D an a ct),J⟩) (r:eD K a qual=aB) (M:UP body B d par fl) (hs:ou d par B scope=aB) :
  yB P w K mg base (k+1) fI (eE name qual params body scope G kV doc D an a ct) [d,par] (gG C fl):=by
 simp only[ou,bK,eF,beq_iff_eq,mJ,bne_iff_ne,ne_eq] at hs;obtain⟨⟨⟨⟨⟨⟨⟨⟨⟨⟨⟨⟨Y,V⟩,U⟩,T⟩,t⟩,s⟩,R⟩,O⟩,N⟩,z⟩,y⟩,v⟩,u⟩:=hs;have S:cP [d,par] [d,par] scope:=⟨Y,V,U,by simp[T],rfl,λx b=>by
  rcases dG.mp b with rfl|b
  .exact .inl t
  .rw[c8.mp b];exact .inl s,R⟩
 obtain⟨q0,q1,q2,p5,q4,q5,r0,r1,r2,r3,n,rfl,c5,c6⟩:=M;refine Ob lk r S (λI H Q E q=>by obtain⟨x,i,rfl,_⟩:=q;rfl) λX H I Q e1 e2 m Z o=>?_;obtain⟨x,i,rfl,c,b,q⟩:=o;have g:(d==("__debug__":aG))=aD:=beq_eq_false_iff_ne.mpr N;have j:(d==("__classdict__":aG))=aD:=beq_eq_false_iff_ne.mpr z;have f:(par==("__debug__":aG))=aD:=beq_eq_false_iff_ne.mpr y;have h:(par==("__classdict__":aG))=aD:=beq_eq_false_iff_ne.mpr v;have p:(B==("__debug__":aG))=aD:=beq_eq_false_iff_ne.mpr u;subst e1 e2 Z;refine⟨_,ZJ (V5 (Xo (C:=C) (HE:=HE) (fI:=fI) (fl:=fl) A (by rw[m];rfl) (.inl t) g j (by rw[m];rfl) (.inl s) f h c6 O l.mg p l.ga l.rd l.fc c5)) (XU (JJ (C:=C) (HE:=HE) (fI:=fI) A (by rw[m];rfl) (.inl t) g j (by rw[m];rfl) (.inl s) f h)),?_⟩;refine⟨x,i,rfl,rfl,c,b,x,i,rfl,rfl,z4,λdx e F=>?_⟩;rw[WU];exact q dx (by rw[z6 F] at e;exact e) F
theorem JQ{a par B:aG}{params:Arguments}{body:List bB}{e kV doc d b ct i:aC}{an od:Option aE} 
  (f:f8 K C HE fI fl) (g:Co K mg HE B) (lk:K.lookup fI=aA ⟨i,od,.func (eE name qual params body scope e kV doc d an b ct),j⟩) (c:eD K b qual=aB) (h:UP body B a par fl) (hs:ou a par B scope=aB) :
  bI P w K mg base CX (k+1) fI (eE name qual params body scope e kV doc d an b ct) [a,par] (gG C fl)/\yB P w K mg base (k+1) fI (eE name qual params body scope e kV doc d an b ct) [a,par] (gG C fl):=⟨Ma f g lk c h hs,Pl f g lk c h hs⟩
end
section
variable {X:Cx}{pins:List (aE×a_)}{s:Shared}{σ:St}{H:Hp}
theorem J1(I:Inv X pins σ (aX H x (.ext φ)) s)(hx:H x=aF):Inv X pins σ H s:=by
 have h:∀b,aX H x (.ext φ) b=aF->H b=aF:=λb e=>by
  by_cases z:b=x
  .rw[z];exact hx
  .rw[z6 z] at e;exact e
 have d:∀b o,aX H x (.ext φ) b=aA o->(∀a,o≠.ext a)->H b=aA o:=λb o e n=>by
  by_cases z:b=x
  .rw[z,z4] at e;cases e;exact absurd rfl (n φ)
  .rw[z6 z] at e;exact e
 refine⟨I.ok,I.os,I.bare,⟨I.base.keep,I.base.slot,λb o e n i=>h b (I.base.free b o e n i),I.base.there,λb xs e=>d b _ (I.base.tups b xs e) (λa z=>by cases z),λb o u e=>d b _ (I.base.frzs b o u e) (λa z=>by cases z),λb j e=>?_⟩,I.loc,I.cell,h _ I.free,λy c e=>(I.freeC y c e).imp (h _) λ⟨n,o,u,f⟩=>⟨n,o,u,d c _ f (λa z=>by cases z)⟩,λp m=>?_,λb k e=>?_,I.len⟩
 .obtain⟨g,q⟩:=I.base.tbls b j e;exact⟨g,d b _ q (λa z=>by cases z)⟩
 .obtain⟨e,n,r⟩:=I.pin p m;exact⟨e,h _ n,r⟩
 .have l:b≠x:=λz=>by rw[z,hx] at e;cases e
  have q:=I.hok b k (by rw[z6 l];exact e);exact q.stay (λ_ _ _ q=>q) (λc q=>d c _ q (λa z=>by cases z)) λc xs q=>d c _ q (λa z=>by cases z)
end
section
variable {X:Cx}{D:DP}{W:XW}{Γ:Cn}{k:Nat}{pins:List (aE×a_)}{s:Shared}{σ:St}{H:Hp}{φ α:List aE}{τ:Sl}{μ:aI}{a:aH}{pos:Pos}{E:Ends}{g:De}
theorem z0M{a b:HO}(h:x≠y):aX (aX H x a) y b=aX (aX H y b) x a:=by
 funext c;by_cases z:c=y
 .subst z;rw[z4,z6 (c7 h),z4]
 .rw[z6 z];by_cases d:c=x
  .subst d;rw[z4,z4]
  .rw[z6 d,z6 d,z6 z]
theorem PD(M:f8 X.K C HE fI fl)(V:Binds X.K fd ps [])(R:bU (kk+1) X.A)
  (F:bI X.prog X.w X.K X.mg X.base (cG X.prog X.w) kk fI fd ps (gG C fl)) (I:Inv X pins σ H s) (r:RelV (.int i) u) (b:i.natAbs.log2<1920)
  (q:∀x dx t j,Inv X pins σ (aX H dx (.xd [(fl,.int i)])) j->H dx=aF->cN X H x->dx≠x->j.heap.get? x=aA {cls:=.ref C,dict:=aA dx,data:=.fields #[.ref t,.none,.none,.none,.bool aD,.none]}->Q (.ref x) j) :
  wpAny (aR X.prog X.w) X.A (call (.ref C) [u]) Q X.xe s:=by
 obtain⟨N,nm,qn,bs,U,sn,sub,ab,col,dd,k0,k1,k2,k3,k5,g1,Z,Y,W⟩:=M.at_ I.kIn;obtain⟨B,gf,gc⟩:∃B,s.heap.get? fI=aA B/\B.cls=.type "function":=by
  obtain⟨o,h,e⟩:=gR.mp M.fn;exact⟨o,I.kIn _ _ h,e⟩
 obtain⟨hh,gg,d,g,os⟩:=s;refine Uu l8 W g1 Z Y gf gc (λl x mk=>?_) (by rw[eZ];show 1<=_;lia);have J:Inv X pins σ H ⟨l,gg,d,g,os⟩:=I.kept (t':=g) mk.keeps;have y:cN X H x:=wy I mk.new;have D:∀p∈pins,p.1≠x:=λp S z=>by
  have:=(I.pin p (dR _ S)).1;rw[z,mk.new] at this;cases this
 obtain⟨t,h,_,_⟩:=mk.there;have L:Inv X pins σ (aX H x (.ext (u1 x C))) ⟨l,gg,d,g,os⟩:=vd J y D ⟨⟨t,h⟩,⟨_,h⟩,λl h2 ⟨t,e⟩ k=>⟨t,k _ e⟩⟩;have P:aU [.ref x,.int i] [.ref x,u]:=.cons rfl (.cons r .nil);have T:([b9 x,u]++[]).length=ps.length:=by
  have:=F.len [.ref x,.int i] (aX H x (.ext (u1 x C))) (λ_ _=>True) (λ_ _ _=>False) ⟨x,i,rfl,b,z4,λ_ _ _=>trivial⟩;exact this
 refine hO (iS (F.run _ X.stack ⟨l,gg,d,g,os⟩ (aX H x (.ext (u1 x C))) ⟨[.ref x,u],[]⟩ [.ref x,u] [.ref x,.int i] (λv O=>v=.non/\∃dx,H dx=aF/\dx≠x/\O=aX (aX H x (.ext (uE x C dx))) dx (.xd [(fl,.int i)])) (λ_ _ _=>False) (R.make C [u] []) (L.env0.make C [u] []) (by simpa using V _ [.ref x,u] L.kIn T) P
  ⟨x,i,rfl,b,z4,λdx a c=>⟨rfl,dx,by rw[z6 c] at a;exact a,c,by rw[WU]⟩⟩) λn j f=>?_)
 cases n with
 |error e=>
  obtain⟨_,_,_,_,_,_,_,_,_,_,_,_,_,_,_,z⟩:=f;exact z.elim
 |ok E=>
  cases E with
  |ret v=>
   obtain⟨v',O,G,m,⟨rfl,dx,a,c,rfl⟩⟩:=L.after f;refine⟨m,?_⟩;obtain⟨t',e'⟩:uE x C dx j.heap:=(show a8 X.prog X.w _ j.heap x (.ext (uE x C dx)) from G.hok x _ (by rw[z6 (c7 c),z4])).1;rw[z0M (c7 c)] at G;have I4:=J1 G (by rw[z6 (c7 c)];exact y.free);exact q x dx t' j I4 a y c e'
  |next=>exact dL f
  |brk=>exact dL f
  |cont=>exact dL f
noncomputable def hash(m:aG):aG:=⟨#[35]++m.cps⟩
theorem U8(C:Sk D W Γ X k)(hc:Γ.calm=aB)(hx:x∈Γ.G)(hU:hash x∈Γ.U)(hg:Γ.gl (hash x)=.xin n f x fl)(O:aO a=aB)(ha:PE X a (aV D W g)) :
  PS X (.Raise (aA (.Call (.Name x p0) [a] [] p1)) aF pos) (cZ D W (sRaiseF n f g)):=by
 rintro M s T H E I ⟨B,α,S,μ,sr,mr,p⟩;have q:=(C.glU _ hU).1;rw[hg] at q;obtain⟨C0,HE,fI,fd,ps,kk,ad,hm,hfl,Z,hb,hkk,F,_⟩:=q;have hr:=(C.rom hc).mono hkk;obtain⟨N,nm,qn,bs,hdd,sn,sub,ab,col,dd,k0,k1,k2,k3,k5,g1,g2,g3,g4⟩:=Z.at_ I.ok.mod.kin;have h:(b9 HE::zr).contains (.type "BaseException")=aB:=g4.hasType l8.hasBase
 have body:wpAny (aR X.prog X.w) X.A (eval (.Call (.Name x p0) [a] [] p1) X.env) (λv R=>∃e t dx,v=.ref e/\R.heap.get? C0=aA (fY nm qn C0 N bs (.ref HE::zr) hdd sn sub ab col dd k0 k1 k2 k3 k5 "ValueError.__new__")/\
   R.heap.get? e=aA {cls:=.ref C0,dict:=dx,data:=.fields #[.ref t,.none,.none,.none,.bool aD,.none]}/\X.xe (.ref e) R) X.xe s:=by
  refine DG (zR I (C.glb x hx) hm ?_ (C.dbG x hx));refine mL (K:=X.K) (first:=[]) (h₀:=X.base) I.ok.mod.kin Z.kp (aY (zj ha zC (z3 O) p1 M s T H (λvs j=>∃v t l b,vs=[v]/\aP α H b j/\aZ D B b j S T/\aL D B b j l/\a6 D B b j t v/\aK D W B b j E ((match t with
   |.int i=>.grd (i.natAbs.log2<1920) (.ex n [(f,.int i)] S l)
   |_=>.st:bV))) I ⟨B,α,S,μ,sr,mr,(aK.out sr p).mono λt V Y H' st m q v d=>⟨v,t,V,Y,rfl,st,sr.step st,m,d,q⟩⟩) ?_) (z3 O) rfl
  rintro us R ⟨vs,j,I1,rv,v,t,l,b,rfl,st1,sr1,o,d1,p1⟩;obtain⟨u,rfl,r⟩:∃u,us=[u]/\RelV v u:=by
   cases rv with
   |cons r1 r2=>cases r2;exact⟨_,rfl,r1⟩
  refine⟨I1.kIn,?_⟩;cases t<;>first|(obtain⟨Q,q,_⟩:=p1;exact q.elim)|skip
  rename_i i;obtain⟨P,p2⟩:=aK.grd p1;cases d1;refine PD Z hb hr F I1 r P λe dx t s' I2 y z ne he=>?_;refine⟨e,t,aA dx,rfl,I2.bk _ _ g1,he,C.xe _ _ ?_⟩;have sm:j6 j (aX j dx (.xd [(fl,.int i)])):=z7 y;have L:aP b j b (aX j dx (.xd [(fl,.int i)])):=aP.new sm;refine⟨e,.ref C0,aA dx,T,_,aF,.none,rfl,I2.pins_of (λp hp=>absurd hp (by simp)),⟨by rw[z6 (c7 ne)];exact z.free,z.loc,z.nfs,z.new,z.cel,z.pin⟩,λt ht=>absurd ht (by simp),⟨⟨_,_,.ref t,he,⟨rfl,rfl⟩,rfl,rfl,rfl,λ_ _=>rfl⟩,rfl⟩,.inl rfl,?_⟩;refine aK.ex p2 L (o.new sm) (sr1.step L) (.own C0 ad (.inl rfl)) ⟨_,zb o y,za o y,z4,?_⟩;exact⟨fl,.int i,[],hfl,rfl,rfl,rfl⟩
 rw[arm_exec_Raise]
 first
  |exact wpAny_bind (fF (uN h (I.ok.hd (C.clm hc)) (wpAny_bind (cR body (λv J c=>wpAny_bind (fF (wpAny_pure c))) λ_ _ x=>x))))
  |(simp only[evalOpt,Cw];exact wpAny_bind (fF (uN h (I.ok.hd (C.clm hc)) (wpAny_bind (cR body (λv J c=>wpAny_bind (fF (wpAny_pure c))) λ_ _ x=>x)))))
end
noncomputable def Fc:GM->Option (Nat×Nat×aG×aG)
 |.xin c f nm fl=>aA (c,f,nm,fl)
 |_=>aF
theorem Rz(h:Fc g=aA q):g=.xin q.1 q.2.1 q.2.2.1 q.2.2.2:=by cases g<;>first|(cases h;rfl)|cases h
noncomputable def HJ:SR:=λr b s=>(rA s).bind λe=>(kK e).bind λq=>(ZQ q.as).bind λa=>gd (b.calm&&b.G.contains q.x) (gd (b.U.contains (hash q.x)&&aO a) ((r.e b a).bind λg=>(Fc (b.gl (hash q.x))).bind λw=>gd ((b7 b.N q.x).isNone&&w.2.2.1==q.x) (aA (sRaiseF w.1 w.2.1 g))))
theorem Us:m9 D HJ:=by
 intro r H X W s k e d C h;obtain⟨u,l,h⟩:=aS h;obtain⟨q,j,h⟩:=aS h;obtain⟨a,i,h⟩:=aS h;obtain⟨f,h⟩:=z8 h;obtain⟨c,h⟩:=z8 h;obtain⟨g,p,h⟩:=aS h;obtain⟨w,o,h⟩:=aS h;obtain⟨n,h⟩:=z8 h;cases h;obtain⟨t,m⟩:=XI l;rw[m,qc j,we i];have b:=Rz o;rw[qp (zp n).2] at b;exact U8 C (zp f).1 (by simpa using (zp f).2) (by simpa using (zp c).1) b (zp c).2 (H.e C.toCk p)
noncomputable abbrev zcn(n:Nat)(o f:De):De:=λd e=>(o d e).bind λt c=>(yi t n c).bind λw b=>.grd (Fz w) ((f d b).bind λ_ a=>.ok .non a)
noncomputable abbrev zcj(j:Nat):De:=λ_ (a:aI) K _=>(∃i:Nat,a[i]?=aA (MO.tab j))/\K (.clo (2*j) [.clo (100+j) []]) a
noncomputable def zcq:aG:=⟨#[37]⟩
noncomputable def mV(m:aG):aG:=⟨#[126]++m.cps⟩
section
variable {X:Cx}{pins:List (aE×a_)}{s:Shared}{σ:St}{H:Hp}{c:aH}
theorem Jy{ad C0 dx:aE}{m:aG}{v:V}(I:Inv X pins σ H s)(e:H ad=aA (.ins C0 dx gs))(c:fV X.K C0)(n:b_ X.K C0 m)(l:gs.lookup m=aA v)
  (h:∀u d,Inv X pins σ H d->RelV v u->Q (u,[]) d):wpAny (aR X.prog X.w) A (rY (.ref ad) m g) Q E s:=by
 obtain⟨b,O,r,_,_,_⟩:=xt I.hok e;obtain⟨a,J,f⟩:=O.look;exact PySem.W.method_usual I.kIn J (nN (c.get m)).1 (nN (c.get m)).2 n rfl (uI I e c n l h)
end
theorem uu:∀{l:List (aG×Nat)},l.lookup x=aA n->(x,n)∈l
 |[],h=>by cases h
 |(y,m)::r,h=>by
  rw[fH] at h;split at h
  .rename_i e;have e:=beq_iff_eq.mp e;cases h;rw[e];exact fZ
  .exact eH _ (uu h)
section
variable {K:PySem.W.Frag}{k n:Nat}
theorem yd(hd:fd.defaults=.ref g)(b:K.lookup g=aA o)(hs:o.data=.seq items n)(h:∀us:List aC,us.length=ps.length->∃k,lq fd ⟨us,[]⟩=mC fd.defaults >>= k/\k (aA items)=pure (ps.zip us)):Binds K fd ps []:=λs us X a=>by
 rw[hZ] at a ⊢;obtain⟨k,d,c⟩:=h us a;exact Dw X hd b hs d c
theorem yb(hd:fd.defaults=.ref g)(a:K.lookup g=aA o)(hs:o.data=.seq items n)(h:∀us:List aC,us.length+1=ps.length->∃k,lq fd ⟨us,[]⟩=mC fd.defaults >>= k/\k (aA items)=pure (ps.zip (us++[d]))):Binds K fd ps [d]:=λs us X b=>by
 obtain⟨k,e,c⟩:=h us (by simpa using b);exact Dw X hd a hs e c
end
noncomputable abbrev Au(ts:List T)(a:aI):RE T:=.som (bT ts) λb=>.ok (.int b.sum) a
noncomputable abbrev sumT(t:T)(b:aI):RE T:=match t with
 |.lst a=>Au a b
 |.mut i=>λK Z=>∃a,b[i]?=aA (.lst a)/\Au a b K Z
 |_=>.st
noncomputable def L_(i:Nat)(t:T)(a:aI)(zs:List T):Prop:=t=.lst zs\/∃j,t=.mut j/\j≠i/\a[j]?=aA (.lst zs)
noncomputable abbrev eExt(o f:De):De:=λe g=>(o e g).bind λh b=>match h with
 |.mut i=>λK Z=>(∃c,b[i]?=aA (.lst c))/\f e b (λt a=>∃c d,a[i]?=aA (.lst c)/\L_ i t a d/\c.length+d.length<=a9/\K .non (a.set i (.lst (c++d)))) Z
 |_=>.st
noncomputable abbrev zcr(o:De):De:=λb c=>(o b c).bind λe a=>match e with
 |.mut i=>λK _=>∃d,a[i]?=aA (MO.lst d)/\K .non (a.set i (.lst []))
 |_=>.st
section
variable {X:Cx}{D:DP}{W:XW}{pins:List (aE×a_)}{s:Shared}{σ:St}{H:Hp}{φ α:List aE}{τ:Sl}{μ:aI}{f:De}{a b:aH}
theorem OQ(g:A.handled=aF)(e:s.heap.IsList l vs.toArray)(d:d5 vs ns)
  (h:∀h' tk t',(∀b o,s.heap.get? b=aA o->h'.get? b=aA o)->Q (.int ns.sum t') {s with heap:=h',toks:=tk}):wpAny (aR prog w) A (call (.builtin "sum") [.ref l]) Q E s:=by
 obtain⟨xs,c⟩:=d.allInts.items;have a:s.heap.IsList l (intItems xs):=c▸e;refine sum_intListG g a λh' tk t' f=>?_;have j:ns=xs.toList.map (·.1):=by
  rw[<-nums_intItems,<-c];exact (show numsOf vs.toArray.toList=ns from d.numsOf).symm
 have i:preSum (numAt xs) xs.size=ns.sum:=by
  rw[preSum_eq,List.take_of_length_le (by simp),j]
 rw[i];exact h h' tk t' f
theorem Hr{ad:aE}(i:X.calm=aB)(I:Inv X pins σ H s)(f:aL D φ α H μ)(q:Rd H ad (.lst d))(l:aM D φ α H xs d)(p:aJ D W φ α H σ (RV D φ Q) (Au xs μ)) :
  wpAny (aR X.prog X.w) X.A (call (.builtin "sum") [.ref ad]) (EP X pins σ Q) X.xe s:=by
 obtain⟨h,b,c,m⟩:=I.list (.inl q);obtain⟨e,a,p⟩:=aJ.som p;have ey:=qS a l;subst ey;refine OQ (I.ok.hd i) c.isList (intsAre_of b) λn j k g=>?_;exact⟨.int e.sum,H,I.kept g,⟨_,rfl⟩,aJ.here p f rfl⟩
theorem N9(c:X.calm=aB):B1 X D W (.builtin "sum") sumT:=by
 intro b s h H g j i t v u Q I a d r p;unfold sumT at p;split at p
 .obtain⟨ad,xs,rfl,_,_,q,l⟩:=d;cases r;exact Hr c I a q l p
 .obtain⟨k,e,p⟩:=p.ex1;obtain⟨ad,f,rfl⟩:=d;cases r;obtain⟨xs,q,l⟩:=a.ob _ ad _ f e;exact Hr c I a (.inl q) l p
 .exact p.elim
theorem Kd:rS X "list.extend" (λx vs H Q=>∃l b xs zs,x=.ref l/\vs=[.ref b]/\H l=aA (.lst xs)/\Rd H b (.lst zs)/\xs.length+zs.length<=sizeLine/\Q .non (aX H l (.lst (xs++zs)))):=by
 intro i s A H x vs v C Q I k m h;obtain⟨l,b,xs,zs,rfl,rfl,j,w,D,q⟩:=h;cases k;obtain⟨u,rfl,o⟩:=vals1 m;cases o;obtain⟨z,c,n,r,E,e⟩:=I.lstM j;obtain⟨B,a,p,g,y⟩:=w.ok I.hok;have t:=g.length;have f:c.toArray.size+a.toArray.size<=sizeLine:=by rw[dH,dH];lia
 have d:¬(!c.toArray.isEmpty&&tW (c.toArray.size+a.toArray.size))=aB:=by
  rw[z0G f,sM];exact eO
 refine mz F.slot_list_extend ⟨_,e,rfl⟩ F.entry_list_extend (F.args_list_extend_2 _ _)
  (AutoSeq1.list_extend_list_list_0 l c.toArray n b a.toArray p d (by rw[dH];lia) (by lia)) ⟨e,y,?_⟩
 refine⟨.non,_,I.lset (its':=c++a) j e (by simp) (r.append g) ?_,rfl,q⟩;rw[iI];lia
theorem Ox(hp:zI o=aB)(hs:aO a=aB)(h:(pa.endLine==pc.line)=aB)(ho:PE X o (aV D W go))(ha:PE X a (aV D W f)) :
  PE X (.Call (.Attribute o "extend" pa) [a] [] pc) (aV D W (eExt go f)):=by
 have hb:dC [a] X.env=[(aD,eval a X.env)]:=z3 hs;refine PE.mono (Y4 EJ PySem.F.slot_list_extend PySem.F.type_list_extend Kd ho (zj ha zC (z3 hs)) (zU hp) (by rw[hb];rfl) h (z3 hs) rfl) ?_;rintro σ H Q ⟨w,R,L,P,M,Y,p⟩;refine⟨w,R,L,P,M,Y,p.bind.mono λot A B H1 C N q ov dv=>?_⟩;split at q;case h_2=>exact q.elim
 rename_i i;obtain⟨K,Z,⟨⟨U,n⟩,hf⟩,hk,hz⟩:=q;obtain⟨x,G,rfl⟩:=dv;obtain⟨T,J,l0⟩:=N.ob _ x _ G n;refine⟨.inl ⟨rfl,_,.inl (.inl J)⟩,w,B,L,A,M.step C,N,_,Z,hf,?_,hz⟩;rintro t z ⟨ts,S,s,hl,hr,V⟩ b u k E v d;obtain⟨β,e2,_⟩:=k.ext;have g:b[i]?=aA x:=by
  rw[e2,eL (cH.mp G).1];exact G
 obtain⟨xs,O,l⟩:=E.ob i x _ g s;have hv:∃y c,v=.ref y/\Rd u y (.lst c)/\aM D w b u S c:=by
  rcases hl with rfl|⟨j,rfl,hj,m⟩
  .obtain⟨y,c,rfl,_,_,r,dl⟩:=d;exact⟨y,c,rfl,r,dl⟩
  .obtain⟨y,hy,rfl⟩:=d;obtain⟨c,hw,dl⟩:=E.ob j y _ hy m;exact⟨y,c,rfl,.inl hw,dl⟩
 obtain⟨y,c,rfl,I,dl⟩:=hv;have e:aP b u b (aX u x (.lst (xs++c))):=aP.turn (cY g) ⟨_,O⟩;have hi:i<z.length:=(cH.mp s).1;refine⟨x,y,xs,c,rfl,rfl,O,I,?_,?_⟩
 .rw[<-l.length,<-dl.length];exact cV hr (zf (bG _))
 .exact hk _ _ V b _ (k.trans e) (E.turn g hi e ⟨_,z4,(l.step e).append (dl.step e)⟩) .non rfl
end
noncomputable def FC:ER:=iL "sum" sumT aB
theorem RL:cA D FC:=vb λC a c d b e=>Xw C a c (by decide +kernel) (by decide) b (N9 (C.clm (d rfl))) e
noncomputable def E8:ER:=mY "extend" eExt
theorem P_:cA D E8:=Z7 λC b a d c e=>Ox b a d c e
noncomputable def DfO:List (aG×aC)->Prop:=λa=>a=[]\/a=[(e_ "default",.none)]
section
variable {prog:Program}{w:World}{A:Around}{E:aC->Shared->Prop}{s:Shared}{l I S:aE}{vs:List aC}{R:Result->Shared->Prop}{Q:aC->Shared->Prop}{κ:Type}
noncomputable def Hi(prog:bZ)(w:cX)(A:dW)(s:aW)(vs:List aC)(ks:List κ)(gt:κ->κ->Bool):Prop:=
 ∀(E:aC->aW->Prop) (i j:Nat) e d g f c (a:Nat) (Q:aC->aW->Prop),vs[i]?=aA e->ks[i]?=aA g->vs[j]?=aA d->ks[j]?=aA f->(∀b o,s.heap.get? b=aA o->c.get? b=aA o)->
  Q (.bool (gt g f)) {s with heap:=c,toks:=a}->wpAny (aR prog w) A.in1 (o8 .Gt e d) Q E {s with heap:=c,toks:=a}
theorem UJ(Z:∀a,gt a a=aD)(Y:∀a b c,gt a b=aB->gt c b=aD->gt c a=aD)(Q:Hi prog w A s vs ks gt)(hh:A.handled=aF)(hl:s.heap.IsList l vs.toArray)(hI:s.heap.get? I=aF)(hS:s.heap.get? S=aF)(J:S≠I)(O:ks.length=vs.length)
  (hR:∀(i:Nat) v kk h' B,vs[i]?=aA v->ks[i]?=aA kk->(∀m∈ks,gt m kk=aD)->(∀b o,s.heap.get? b=aA o->h'.get? b=aA o)->R (.ok (.ret v)) {s with heap:=h',toks:=B}) :
  ∀(r j i:Nat) (h:aT) (tk:Nat) (u:aC) (nb:κ) (c:Nat),vs.length-(j+1)=r->j+1<=vs.length->(∀b o,s.heap.get? b=aA o->h.get? b=aA o)->
   h.get? S=aA (eY "list" #[u,u] c)->h.IsListIter I l (j+1)->vs[i]?=aA u->ks[i]?=aA nb->(∀m∈ks.take (j+1),gt m nb=aD)->
   fE (aR prog w) A (.builtin "max.loop" ⟨[.ref I,.none,.ref S],kw⟩) R {s with heap:=h,toks:=tk}:=by
 have n:(toString "max"++toString ".loop":String)="max.loop":=by decide
 have f:∀{b:aE}{o:a_},s.heap.get? b=aA o->b≠I/\b≠S:=λ{b o} e=>⟨λz=>(by rw[z,hI] at e;cases e),λz=>(by rw[z,hS] at e;cases e)⟩;have hlI:l≠I:=by obtain⟨o,ho,_⟩:=id hl;exact (f ho).1
 have W:=rZ (prog:=prog) (w:=w) (A:=A.in1) hh I l hlI vs.toArray;have M:vs.toArray.size=vs.length:=dH ..;have lst:∀{h:aT},(∀b o,s.heap.get? b=aA o->h.get? b=aA o)->h.IsList l vs.toArray:=λ{h} k=>by
  obtain⟨o,ho,hc⟩:=hl;exact⟨o,k _ _ ho,hc⟩
 intro r;induction r with
 |zero=>
  intro j i h tk u nb c hr hj L q H x y d;have P:j+1=vs.length:=by lia
  refine mP tF ?_;rw[nP l7 _];show wpAny _ A.in1 (mC (.ref S) >>= _) _ _ _;refine wpAny_bind (sI q rfl ?_);show wpAny _ A.in1 (tryCatch (lJ (.ref I)) _ >>= _) _ _ _;refine wpAny_bind (mM (W.done _ _ _ ⟨by rw[M,<-P];exact H,lst L⟩ λh' B p=>?_));have g:∀b o,s.heap.get? b=aA o->h'.get? b=aA o:=λb o e=>p b o (by simpa using (f e).1) (L b o e);have t:=p S _ (by simpa using J) q;have U:=tD h' S (gB λ_=>(#[]:Array aC));show wpAny _ A.in1 (updateSeq S (λ_=>#[]) >>= _) _ _ _;refine wpAny_bind ?_;refine sO t rfl (wpAny_bind (nA (wpAny_pure ?_)));refine hR i u nb _ _ x y ?_ λb o e=>(U.2 b (f e).2).trans (g b o e);rw[P,<-O,List.take_length] at d;exact d
 |succ r ih=>
  intro j i h tk u nb c hr hj L q H x y d;have G:j+1<vs.length:=by lia
  refine mP tF ?_;rw[nP l7 _];show wpAny _ A.in1 (mC (.ref S) >>= _) _ _ _;refine wpAny_bind (sI q rfl ?_);show wpAny _ A.in1 (tryCatch (lJ (.ref I)) _ >>= _) _ _ _;refine wpAny_bind (mM (W.item (j+1) _ _ _ (by rw[M];exact G) ⟨H,lst L⟩ λv h' B hP C p=>?_));have hv:vs[j+1]?=aA v:=by simpa using hP
  have g:∀b o,s.heap.get? b=aA o->h'.get? b=aA o:=λb o e=>p b o (by simpa using (f e).1) (L b o e);have t:=p S _ (by simpa using J) q;have hn:∃D,ks[j+1]?=aA D:=⟨_,ir (by lia)⟩;obtain⟨D,E⟩:=hn;have K:ks.take (j+1+1)=ks.take (j+1)++[D]:=by rw[DF,E];rfl
  show wpAny _ A.in1 (tryCatch (mv [v,v] (o8 .Gt v u >>= _)) _ >>= _) _ _ _;refine wpAny_bind (mM (wpAny_holding (wpAny_bind (Q _ (j+1) i v u D nb h' B _ hv E x y g ?_))));refine wpAny_bind (wpAny_holding (wpAny_truthy_bool ?_));refine wpAny_bind (nA (wpAny_pure ?_));cases T:gt D nb with
  |true=>
   have U:=tD h' S (gB λ_=>#[v,v]);obtain⟨c2,hc2⟩:∃c2,(h'.update S (gB λ_=>#[v,v])).get? S=aA (eY "list" #[v,v] c2):=⟨_,sN t λ_=>#[v,v]⟩;simp only[if_true];refine wpAny_bind ?_;refine sO t rfl (wpAny_bind (nA ?_));rw[n];obtain⟨V,N,hoc,hod⟩:=id C.1;refine wpAny_pure ⟨mI l7 _,ih (j+1) (j+1) _ _ v D c2 (by lia) G (λb o e=>(U.2 b (f e).2).trans (g b o e)) hc2 ⟨V,(U.2 I J.symm).trans N,hoc,hod⟩ hv E ?_⟩;rw[K];intro X hm;rcases cM.mp hm with z|z
   .exact Y _ _ _ T (d X z)
   .rw[c8.mp z];exact Z D
  |false=>
   simp only[sY,if_false];refine wpAny_bind (nA ?_);rw[n];refine wpAny_pure ⟨mI l7 _,ih (j+1) i _ _ u nb c (by lia) G g t C.1 x y ?_⟩;rw[K];intro X hm;rcases cM.mp hm with z|z
   .exact d X z
   .rw[c8.mp z];exact T
theorem SD(a:aC):nh "max" ⟨[a],[]⟩:=by unfold nh;kernel_rfl
theorem SM(a:aC):nh "max" ⟨[a],[(e_ "default",.none)]⟩:=by unfold nh;kernel_rfl
theorem z04 {ks:List κ}(G:∀a,gt a a=aD) (U:∀a b c,gt a b=aB->gt c b=aD->gt c a=aD) (N:Hi prog w A s vs ks gt) (M:DfO D) (hh:A.handled=aF) (S:s.heap.IsList l vs.toArray) (L:ks.length=vs.length) (y:vs=[]->D=[(e_ "default",.none)])
  (hE:vs=[]->∀h' g,(∀b o,s.heap.get? b=aA o->h'.get? b=aA o)->Q .none {s with heap:=h',toks:=g})
  (hQ:∀(i:Nat) v kk h' g,vs[i]?=aA v->ks[i]?=aA kk->(∀m∈ks,gt m kk=aD)->(∀b o,s.heap.get? b=aA o->h'.get? b=aA o)->Q v {s with heap:=h',toks:=g}) :
  wpAny (aR prog w) A (call (.builtin "max") [.ref l] D) Q E s:=by
 have q:(toString "max"++toString ".loop":String)="max.loop":=by decide
 have B:nh "max" ⟨[.ref l],D⟩:=by rcases M with rfl|rfl;exact SD _;exact SM _
 have hbp:∃df:Option aC,ES "max" ["key","default"] 0 ⟨[],D⟩=pure [aF,df]/\df.toList.map (λd=>(("default":aG),d))=D:=by
  rcases M with rfl|rfl
  .exact⟨aF,rfl,rfl⟩
  .exact⟨aA .none,rfl,rfl⟩
 obtain⟨df,hb1,hb2⟩:=hbp;refine kmb_tree PySem.F.kind_max PySem.F.plain_max PySem.F.entry_max B ?_;show wpAny _ A.in1 (ES "max" ["key","default"] 0 ⟨[],D⟩ >>= _) _ _ s;refine wpAny_bind (lQ hb1 ?_);refine wpAny_bind (wpAny_pure ?_);refine wpAny_bind (pB S ?_);refine wpAny_bind (sH ?_ (gQ _));rw[q];show wpAny _ A.in1 (pure _) _ _ _;rw[hb2];refine wpAny_pure ⟨mI l7 _,?_⟩;let p:a_:={cls:=.type "list_iterator",data:=.fields #[.ref l,.int 0 0]};let R:a_:=eY "list" #[] 0;have e1:(s.heap.push p).objs.size=s.heap.objs.size+1:=lT ..;have P:∀b o,s.heap.get? b=aA o->((s.heap.push p).push R).get? b=aA o:=λb o e=>bN _ (bN _ e);have gI:((s.heap.push p).push R).get? s.heap.objs.size=aA p:=bN _ (dQ _ rfl);have gS:((s.heap.push p).push R).get? (s.heap.push p).objs.size=aA R:=dQ _ rfl;have hI:s.heap.get? s.heap.objs.size=aF:=iJ (bG _);have hS:s.heap.get? (s.heap.push p).objs.size=aF:=iJ (by rw[e1];exact iW _);have C:(s.heap.push p).objs.size≠s.heap.objs.size:=by rw[e1];exact lW (iY _)
 have r:∀{b:aE}{o:a_},s.heap.get? b=aA o->b≠s.heap.objs.size/\b≠(s.heap.push p).objs.size:=λ{b o} e=>⟨λz=>(by rw[z,hI] at e;cases e),λz=>(by rw[z,hS] at e;cases e)⟩;have Z:l≠s.heap.objs.size:=by obtain⟨o,Y,_⟩:=id S;exact (r Y).1
 have lst:∀{h:aT},(∀b o,s.heap.get? b=aA o->h.get? b=aA o)->h.IsList l vs.toArray:=λ{h} k=>by
  obtain⟨o,Y,hc⟩:=S;exact⟨o,k _ _ Y,hc⟩
 have W:=rZ (prog:=prog) (w:=w) (A:=A.in1) hh s.heap.objs.size l Z vs.toArray;have H:vs.toArray.size=vs.length:=dH ..;refine mP tF ?_;rw[nP l7 _];show wpAny _ A.in1 (mC (.ref _) >>= _) _ _ _;refine wpAny_bind (sI gS rfl ?_);show wpAny _ A.in1 (tryCatch (lJ (.ref s.heap.objs.size)) _ >>= _) _ _ _;by_cases j:vs=[]
 .have hk:=y j;refine wpAny_bind (mM (W.done _ _ _ ⟨by rw[H,j];exact⟨_,gI,rfl,rfl⟩,lst P⟩ λh' g t=>?_));have x:∀b o,s.heap.get? b=aA o->h'.get? b=aA o:=λb o e=>t b o (by simpa using (r e).1) (P b o e);subst hk;show wpAny _ A.in1 (rule _ >>= _) _ _ _;refine wpAny_bind (nv ?_);exact wpAny_pure (hE j _ _ x)
 have y:0<vs.length:=by cases vs with|nil=>exact absurd rfl j|cons _ _=>simp
 refine wpAny_bind (mM (W.item 0 _ _ _ (by rw[H];exact y) ⟨⟨_,gI,rfl,rfl⟩,lst P⟩ λv h' g hP I t=>?_));have hv:vs[0]?=aA v:=by simpa using hP
 have x:∀b o,s.heap.get? b=aA o->h'.get? b=aA o:=λb o e=>t b o (by simpa using (r e).1) (P b o e);have O:=t _ _ (by simpa using C) gS;have hn:∃u,ks[0]?=aA u:=⟨_,ir (by lia)⟩;obtain⟨u,K⟩:=hn;have s1:=tD h' (s.heap.push p).objs.size (gB λ_=>#[v,v]);obtain⟨c2,hc2⟩:∃c2,(h'.update (s.heap.push p).objs.size (gB λ_=>#[v,v])).get? (s.heap.push p).objs.size=aA (eY "list" #[v,v] c2):=⟨_,sN O λ_=>#[v,v]⟩;refine wpAny_bind (wpAny_pure ?_);show wpAny _ A.in1 (updateSeq _ _ >>= _) _ _ _;refine wpAny_bind ?_;refine sO (s:={s with heap:=h',toks:=g}) (f:=λ_=>#[v,v]) (xs:=#[]) (n:=0) (o:=eY "list" #[] 0) O rfl ?_ (gQ _) (by show 2<=sizeLine+1;decide);rw[q];obtain⟨T,J,X,V⟩:=id I.1;refine wpAny_pure ⟨mI l7 _,UJ G U N hh S hI hS C L (λi v u h' g a b c d=>hQ i v u h' g a b c d) _ 0 0 _ _ v u c2 rfl (by lia) (λb o e=>(s1.2 b (r e).2).trans (x b o e)) hc2 ⟨T,(s1.2 _ C.symm).trans J,X,V⟩ hv K ?_⟩;rw[DF,K];intro ms hm;have:ms=u:=by simpa using hm
 rw[this];exact G u
end
noncomputable abbrev eJoin(o f:De):De:=λg h=>(o g h).bind λj e=>match j with
 |.str a=>(f g e).bind λt b=>match t with
  |.lst d=>λK _=>∃c,bM d=aA c/\g_ a c=aB/\K (.str (iG a c)) b
  |.mut i=>λK _=>∃d,b[i]?=aA (.lst d)/\∃c,bM d=aA c/\g_ a c=aB/\K (.str (iG a c)) b
  |_=>.st
 |_=>.st
section
variable {X:Cx}{D:DP}{W:XW}{k:Nat}{f:De}{a:aH}
theorem Rp:rS X "str.join" (λx vs H Q=>∃(a:aG) (l:aE) (d:List V) (ys:List aG),x=.str a/\vs=[.ref l]/\Rd H l (.lst d)/\d=ys.map V.str/\g_ a ys=aB/\Q (.str (iG a ys)) H):=by
 intro j s C H x vs v b Q I n o h;obtain⟨a,l,d,ys,rfl,rfl,z,rfl,i,q⟩:=h;obtain⟨E,rfl⟩:=n;obtain⟨D,rfl,f⟩:=vals1 o;cases f;obtain⟨w,r,u,_⟩:=I.list (.inl z);have g:∀{ys:List aG}{b:List aC},aU (ys.map V.str) b->∃c:List (aG×Tok),fG c=b/\c.map (·.1)=ys:=by
  intro ys;induction ys with
  |nil=>intro b r;cases r;exact⟨[],rfl,rfl⟩
  |cons y ys ih=>
   intro b r;cases r with
   |cons f p=>
    obtain⟨t,rfl⟩:=f;obtain⟨c,rfl,e⟩:=ih p;exact⟨(y,t)::c,rfl,by simp[e]⟩
 obtain⟨c,B,A⟩:=g r;have m:=u.isList;rw[<-B] at m;exact SC.join m A i λF k=>⟨.str _,H,I.tok _,⟨_,rfl⟩,q⟩
noncomputable def rO (o:aH):Bool:=zI o || (match o with|.Constant _ _ _=>aB|_=>aD)
theorem NS{o:aH}{f:aG}{env:Env}(h:rO o=aB):lY o f env (eval o env)=eval o env:=by
 cases a:zI o with
 |true=>exact zU a
 |false=>
  unfold rO at h;rw[a] at h;cases o with
  |Constant _ _ _=>rfl
  |_=>cases h
theorem Rv(N:rO o=aB)(hs:aO a=aB)(b:(pa.endLine==pc.line)=aB)(O:PE X o (aV D W go))(S:PE X a (aV D W f)) :
  PE X (.Call (.Attribute o "join" pa) [a] [] pc) (aV D W (eJoin go f)):=by
 have s:dC [a] X.env=[(aD,eval a X.env)]:=z3 hs;refine PE.mono (Y4 tG o_ Es Rp O (zj S zC (z3 hs)) (NS N) (by rw[s];rfl) b (z3 hs) rfl) ?_;rintro T H Q ⟨x,E,y,C,z,J,p⟩;refine⟨x,E,y,C,z,J,p.bind.mono λV g h Y j L q I dv=>?_⟩;split at q;case h_2=>exact q.elim
 have dv:I=.str _:=dv;subst dv;refine⟨rfl,x,h,y,g,z.step j,L,q.bind.mono λt B c A G n e v d=>?_⟩;split at e
 .obtain⟨K,Z,⟨i,w,u,m⟩,r,M⟩:=e;obtain⟨ad,xs,rfl,_,_,k,l⟩:=d;exact⟨_,ad,xs,i,rfl,rfl,k,kc w l,u,r _ _ m c A (aP.refl _ _) n _ rfl⟩
 .obtain⟨K,Z,⟨U,P,i,w,u,m⟩,r,M⟩:=e;obtain⟨ad,R,rfl⟩:=d;obtain⟨xs,k,l⟩:=n.ob _ ad _ R P;exact⟨_,ad,xs,i,rfl,rfl,.inl k,kc w l,u,r _ _ m c A (aP.refl _ _) n _ rfl⟩
 .exact e.elim
end
noncomputable def ix:ER:=λr b e=>match e with
 |.Call (.Attribute o m d) [a] [] c=>gd (m==("join":aG)&&rO o&&aO a&&d.endLine==c.line) ((r.e b o).bind λf=>(r.e b a).bind λg=>aA (eJoin f g))
 |_=>aF
theorem T_:cA D ix:=by
 intro r H X W o k e d C h;unfold ix at h;split at h
 .have c:=z8 h;clear h;obtain⟨b,h⟩:=c;simp only[bK] at b;obtain⟨⟨⟨a,m⟩,l⟩,j⟩:=b;have a:=beq_iff_eq.mp a;subst a;obtain⟨f,n,h⟩:=aS h;obtain⟨g,i,h⟩:=aS h;cases h;exact Rv m l j (H.e C n) (H.e C i)
 .cases h
noncomputable abbrev notInT(x y:T)(b:aI):RE T:=match y with
 |.mut i=>(match x with
  |.str z=>λK _=>∃a,b[i]?=aA (MO.dic a)/\K (.bl (!(w5 (.inr z) a).isSome)) b
  |_=>.st)
 |_=>.st
noncomputable abbrev eC2(op:T->T->aI->RE T)(f g:De):De:=λc d=>(f c d).bind λx b=>(g c b).bind λy a=>op x y a
section
variable {X:Cx}{D:DP}{W:XW}{k:Nat}{pins:List (aE×a_)}{s:Shared}{σ:St}{H:Hp}{φ α:List aE}{τ:Sl}{μ:aI}{f g:De}{a b:aH}{pos:Pos}
noncomputable def rR (X:Cx)(D:DP)(W:XW)(op:dA)(r:T->T->aI->RE T):Prop:=
 ∀(pins:List (aE×a_)) (s:aW) (σ:St) (H:Hp) (φ α:List aE) (μ:aI) (x y:T) (v w:V) (b a:aC) (Q:VK),Inv X pins σ H s->aL D φ α H μ->a6 D φ α H x v->a6 D φ α H y w->RelV v b->RelV w a->aJ D W φ α H σ (RV D φ Q) (r x y μ)->
  wpAny (aR X.prog X.w) X.A (dD op b a) (EP X pins σ Q) X.xe s
theorem Mf(h:rR X D W op r)(K:qU op b=aB)(M:PE X a (aV D W f))(L:PE X b (aV D W g)):PE X (.Compare a [op] [b] pos) (aV D W (eC2 r f g)):=by
 rintro c s n H Q I ⟨m,V,T,U,B,J,p⟩;refine sL (aY (sub M I B J p) ?_) (jb K);rintro u Y ⟨v,Z,t,o,q,R,F,z,j,l,O,p1⟩;refine aY (sub L R j l p1) ?_;rintro x C ⟨w,S,y,d,e,P,E,i,A,k,N,G⟩;exact h c C n S m e d t y v w u x Q P k (O.step i) N F E G
theorem J2(h:rR X D W op r)(ho:qU op b=aB)(ha:PE X a (aV D W f))(hb:PE X b (aV D W g)):PT X (.Compare a [op] [b] pos) (dZ D W (tE (eC2 r f g))):=by
 rintro l s A H Q I ⟨j,R,L,O,sr,mr,p⟩;have p:aJ D W j R H A (λb _ _ w=>Q b w) ((f L O).bind λx c=>(g L c).bind λy i=>(r x y i).bind xu):=p;refine tU (aY (sub ha I sr mr p) ?_) (jb ho);rintro u s1 ⟨v,n,t,c,e,I1,r1,Y,F,K,d1,p1⟩;refine aY (sub hb I1 F K p1) ?_;rintro T s2 ⟨S,M,U,i,k,I2,r2,E,Z,J,d2,p2⟩;refine aY (h l s2 A M j k i t U v S u T (λz n=>∃t c e,aP k M e n/\aL D j e n c/\a6 D j e n t z/\aJ D W j e n A (λb _ _ w=>Q b w) (xu t c)) I2 J (d1.step E) d2 r1 r2 (p2.bind.mono λt B C w st m q v d=>⟨t,B,C,st,m,d,q⟩)) ?_;rintro d s3 ⟨z,H3,I3,r3,t3,N,P,V,G,d3,o⟩;unfold xu at o;split at o
 .cases d3;cases r3;exact wpAny_truthy_bool ⟨H3,I3,o.ok (aP.refl _ _) G⟩
 .exact o.elim
theorem Yi(G:X.A.units+64<cLine):rR X D W .NotIn notInT:=by
 intro b s t H r d u x y v w C B Q I c a o f e p;unfold notInT at p;split at p
 .split at p
  .rename_i i _ z;obtain⟨K,J,⟨g,j,p⟩,h,F⟩:=p;have a:v=.str z:=a;obtain⟨ad,m,rfl⟩:=o;cases e;obtain⟨gs,n,l⟩:=c.ob i ad _ m j;subst a;refine Rg (by omega) I (eT.k (k:=.inr z) n) f λE q=>⟨.bl (!(yh gs (.inr z)).isSome),H,q,rfl,?_⟩;rw[u_ l];exact h _ _ p d H (aP.refl _ _) c _ rfl
  .exact p.elim
 .exact p.elim
theorem Jk:∀{a:List (Key×T)}{gs:List (Key×V)},bF D φ α H a gs->w5 z a=aA t->∃v,yh gs z=aA v/\a6 D φ α H t v
 |[],_,h,e=>by cases e
 |p::r,_,h,e=>by
  obtain⟨v,q,rfl,d,l⟩:=h;unfold w5 at e;by_cases b:p.1=z
  .rw[if_pos b] at e;cases e;exact⟨v,by rw[kM (p:=(p.1,v)) b],d⟩
  .rw[if_neg b] at e;obtain⟨c,g,f⟩:=Jk l e;exact⟨c,by rw[xR (p:=(p.1,v)) b];exact g,f⟩
end
noncomputable def q9:List Int->List Int->Bool
 |[],[]=>aD
 |[],_::_=>aD
 |_::_,[]=>aB
 |x::xs,y::a=>if x=y then q9 xs a else decide (y<x)
theorem kr(x y:Int)(xs ys:List Int):q9 (x::xs) (y::ys)=if x=y then q9 xs ys else decide (y<x):=rfl
theorem Q2:q9 [] []=aD:=rfl
theorem Za(y:Int)(ys:List Int):q9 [] (y::ys)=aD:=rfl
theorem ZC(x:Int)(xs:List Int):q9 (x::xs) []=aB:=rfl
theorem z0d(A:dW)(s:aW)(a:Int)(t:Tok)(c:Int)(u:Tok)(prog:bZ)(w:cX)(E:aC->aW->Prop)(Q:aC->aW->Prop)(h:Q (.bool (decide (c<a))) s) :
  wpAny (aR prog w) A (o8 .Gt (.int a t) (.int c u)) Q E s:=
 (CA h:wpAny (aR prog w) A (dD .Gt (.int a t) (.int c u)) Q E s)
section
open PySem.SeqAt
open PySem.AutoSeq1 (wpAny_loadPart')
open PySem.MeetsSeq PySem.MeetsSeq2 PySem.MeetsSeq3
theorem QD(l b:aE)(items f:Array aC)(n U:Nat)(dd O:Option aE)(T K:Array (Option aC))(ns I:List Int)(S:d5 items.toList ns)(Q:d5 f.toList I) :
  Meets (iO.«tuple.__gt__» ⟨[.ref l,.ref b],[]⟩)
   (λ_ R s=>s.heap.get? l=aA {cls:=.type "tuple",dict:=dd,data:=.seq items n,slots:=T}/\s.heap.get? b=aA {cls:=.type "tuple",dict:=O,data:=.seq f U,slots:=K}/\
    R (.ok (.ret (.bool (q9 ns I)))) s):=
 .of_wp λp w A R s h=>by
  obtain⟨J,g,d,H,os⟩:=s;obtain⟨X,Z,h⟩:=h;have f2:=EQ;have z1:items.size=ns.length:=by rw[<-S.length];simp
  have z2:f.size=I.length:=by rw[<-Q.length];simp
  wp_walk using pL X,pL Z,Dk _ (λrest b L=>b.1=aF/\L=⟨J,g,d,H,os⟩/\∃(G F:List aC) (j k:List Int),rest=G.zip F/\
   d5 G j/\d5 F k/\j.length+f.size=k.length+items.size/\R (.ok (.ret (.bool (q9 j k)))) ⟨J,g,d,H,os⟩) _
  case turn=>
   rintro⟨y,x⟩ rest b L ⟨C,rfl,G,F,j,k,m,z,o,i,v⟩
   cases z with
   |nil=>rw[DY] at m;cases m
   |cons a t E=>
    cases o with
    |nil=>rw[Eb] at m;cases m
    |cons c u D=>
     rw[pG] at m;injection m with M B;injection M with V W;subst V W;rw[kr] at v;simp only[eG] at i;obtain⟨e,Y,r⟩:=HT.eqAt_int A.in1 ⟨J,g,d,H,os⟩ a t c u;refine wpAny_bind (Y p w _ _ ?_);cases e with
     |true=>
      rw[if_pos (r.mp rfl)] at v;wp_walk;exact⟨rfl,rfl,_,_,_,_,B,E,D,by lia,v⟩
     |false=>
      rw[if_neg (λq=>absurd (r.mpr q) eO)] at v;have N:=z0d A.in1 ⟨J,g,d,H,os⟩ a t c u p w;wp_walk using N;exact⟨_,rfl,by simpa using v⟩
  case fin=>
   rintro⟨b1,b2⟩ L ⟨C,rfl,G,F,j,k,m,z,o,i,v⟩
   simp only at C
   subst C
   have P:q9 j k=decide (f.size<items.size):=by
    cases z with
    |nil=>
     cases o with
     |nil=>
      simp only[lA] at i;rw[Q2];exact (decide_eq_false (by lia)).symm
     |cons c u hw=>
      simp only[lA,eG] at i;rw[Za];exact (decide_eq_false (by lia)).symm
    |cons a t P=>
     cases o with
     |nil=>
      simp only[lA,eG] at i;rw[ZC];exact (decide_eq_true (by lia)).symm
     |cons c u hw=>
      rw[pG] at m;cases m
   rw[P] at v
   wp_walk
   exact⟨_,rfl,by simpa[EW] using v⟩
  case h=>
   exact⟨rfl,rfl,items.toList,f.toList,ns,I,rfl,S,Q,by lia,h⟩
end
theorem Xa(t:gZ s.heap l items)(y:gZ s.heap b d)(v:d5 items.toList ns)(u:d5 d.toList g)
  (r:A.units<cLine) (h:Q (.bool (q9 ns g)) s):wpAny (aR prog w) A (dD .Gt (.ref l) (.ref b)) Q E s:=by
 obtain⟨⟨cls,dd,m,p⟩,j,k,n,hd⟩:=id t;obtain⟨⟨o,i,data2,f⟩,a,e,q,c⟩:=id y;simp only at k hd e c;subst k hd e c
 exact EA (op:=.Gt) ⟨_,j,rfl⟩ ⟨_,a,rfl⟩ PySem.F.slot_tuple_gt PySem.F.entry_tuple_gt (PySem.F.args_tuple_gt_2 _ _) (QD l b items d n q dd i p f ns g v u)
  ⟨j,a,show lu (q9 ns g)≠Ej/\Q (.bool (q9 ns g)) s from ⟨(λx=>nomatch x),h⟩⟩ r
theorem HV:∀a:List Int,q9 a a=aD
 |[]=>rfl
 |x::r=>by rw[kr,if_pos rfl];exact HV r
theorem HN:∀a b c:List Int,q9 a b=aB->q9 c b=aD->q9 c a=aD
 |[],[],_,h,_=>by cases h
 |[],_::_,_,h,_=>by cases h
 |_::_,_,[],_,_=>rfl
 |_::_,[],_::_,_,h=>by cases h
 |x::xs,y::j,z::i,f,d=>by
  rw[kr] at f d ⊢;by_cases e:x=y
  .rw[if_pos e] at f;by_cases g:z=y
   .rw[if_pos g] at d;rw[if_pos (by omega)];exact HN xs j i f d
   .rw[if_neg g] at d;have:=of_decide_eq_false d;rw[if_neg (by omega)];exact decide_eq_false (by omega)
  .rw[if_neg e] at f;have k:=of_decide_eq_true f;by_cases g:z=y
   .rw[if_neg (by omega)];exact decide_eq_false (by omega)
   .rw[if_neg g] at d;have:=of_decide_eq_false d;rw[if_neg (by omega)];exact decide_eq_false (by omega)
noncomputable abbrev BM(xs:List T)(b:aI):RE T:=λK _=>∃a,rowsOf xs=aA a/\(xs=[]->K .non b)/\∀c∈a,(∀d∈a,q9 d c=aD)->K (.tup (c.map T.int)) b
noncomputable abbrev maxRT(t:T)(a:aI):RE T:=match t with
 |.lst xs=>BM xs a
 |.mut i=>λK Z=>∃xs,a[i]?=aA (.lst xs)/\BM xs a K Z
 |_=>.st
section
variable {X:Cx}{D:DP}{W:XW}{Γ:Cn}{k:Nat}{pins:List (aE×a_)}{s:Shared}{σ:St}{H:Hp}{φ α:List aE}{τ:Sl}{μ:aI}{f:De}
theorem XC{ad:aE}{F:List V}{Q:VK}{C:T->aI->Prop}(hc:X.calm=aB)(hu:X.A.units+64<cLine)(I:Inv X pins σ H s)(J:aL D φ α H μ)(q:Rd H ad (.lst F))(l:aM D φ α H xs F)(c:rowsOf xs=aA g)
  (hE:xs=[]->C .non μ) (hK:∀ns∈g,(∀ms∈g,q9 ms ns=aD)->C (.tup (ns.map T.int)) μ) (k1:∀t m,C t m->∀B H',aP α H B H'->aL D φ B H' m->RV D φ Q t m B H') :
  wpAny (aR X.prog X.w) X.A (call (.builtin "max") [.ref ad] [(e_ "default",.none)]) (EP X pins σ Q) X.xe s:=by
 obtain⟨h,G,W,hz⟩:=I.list (.inl q);have e1:=l.length;have L:=G.length;have e3:=uz c;have at_:∀(i:Nat) v ns,h[i]?=aA v->g[i]?=aA ns->∃a:aE,v=.ref a/\a6 D φ α H (.tup (ns.map T.int)) (.ref a)/\f_ s.heap v ns:=λi v ns p o=>by
  obtain⟨w,hw,dw⟩:=l.get (Wj c o);obtain⟨u,k,R⟩:=G.get hw;rw[p] at k;cases k;obtain⟨a,ys,rfl,n1,n2,r,dl⟩:=id dw;cases R;have ey:=qS (ns:=ns) (by
   clear dl hw dw r o p;induction ns with
   |nil=>rfl
   |cons n r ih=>show (bT (r.map T.int)).map (n::·)=_;rw[ih];rfl) dl
  subst ey;obtain⟨K,x,pt,_⟩:=I.tuple (.inl r);exact⟨a,rfl,dw,a,_,rfl,pt,by simpa using intsAre_of x⟩
 have nil:h=[]->xs=[]:=λz=>by
  rw[z] at L;exact List.length_eq_zero_iff.mp (by rw[e1,L];rfl)
 refine z04 (ks:=g) (gt:=q9) HV HN ?_ (.inr rfl) (I.ok.hd hc) W.isList (by lia) (λ_=>rfl) (λz y e f=>?_) λi v ns y e p o hb f=>?_
 .intro E i j N M ki kj y e Q' h1 h2 h3 h4 f q;obtain⟨a,_,_,U⟩:=at_ i N ki h1 h2
  obtain⟨b,_,_,S⟩:=at_ j M kj h3 h4
  obtain⟨a',ia,rfl,P,Z⟩:=U.keep f;obtain⟨b',ib,rfl,O,Y⟩:=S.keep f;exact Xa (s:={s with heap:=y,toks:=e}) P O Z Y (by rw[cB];lia) q
 .exact⟨.non,H,I.kept f,rfl,k1 _ _ (hE (nil z)) α H (aP.refl _ _) J _ rfl⟩
 .obtain⟨a,rfl,d,_⟩:=at_ i v ns p o
  exact⟨.ref a,H,I.kept f,rfl,k1 _ _ (hK ns (cY o) hb) α H (aP.refl _ _) J _ d⟩
theorem PM(C:Ck D W Γ X k)(K:Γ.calm=aB) 
  (hx:("max":aG)∈Γ.G) (y:Γ.gl "max"=.none) (e:aO a=aB) (V:PE X a (aV D W f)) :
  PE X (.Call (.Name "max" p0) [a] [⟨aA "default",.Constant .none jj pb,pk⟩] pos) (aV D W (eB1 maxRT f)):=by
 have J:=C.glo _ hx;rw[y] at J;rintro i s A H Q I ⟨g,B,M,N,O,R,p⟩;refine gP (qH I (C.glb _ hx) J (show fW "max"=aA (.builtin "max") by decide +kernel) ?_ (by decide) (C.dbG _ hx));refine callWith_kw (aY (zj V zC (z3 e) pos i s A H (λE j=>∃v t c b,E=[v]/\aP B H b j/\aL D g b j c/\a6 D g b j t v/\aJ D W g b j A (RV D g Q) (maxRT t c)) I ⟨g,B,M,N,O,R,p.bind.mono λt n o H' st m q v d=>⟨v,t,n,o,rfl,st,m,d,q⟩⟩) ?_) (by rw[z3 e];rfl) (by rw[z3 e];rfl) rfl rfl;rintro us s1 ⟨E,j,L,P,v,t,c,b,rfl,st,m,d,p⟩;obtain⟨u,rfl,F⟩:=vals1 P;refine kws_cons (Constant_none (kws_nil ?_));show wpAny _ _ (call (.builtin "max") [u] [(e_ "default",.none)]) _ _ _;unfold maxRT at p;split at p
 .obtain⟨Z,Y,⟨h,w,z,x⟩,r,S⟩:=p;obtain⟨ad,xs,rfl,_,_,q,l⟩:=d;cases F;exact XC (C.clm K) C.unt L m q l w z x r
 .obtain⟨Z,Y,⟨xs,T,h,w,z,x⟩,r,S⟩:=p;obtain⟨ad,U,rfl⟩:=d;cases F;obtain⟨ws,q,l⟩:=m.ob _ ad _ U T;exact XC (C.clm K) C.unt L m (.inl q) l w z x r
 .exact p.elim
end
noncomputable def Gv:ER:=λr b e=>(rj e).bind λq=>gd (q.x==("max":aG)) (gd (q.ky==("default":aG)) (gd (X4 q.v&&(b7 b.N q.x).isNone) (gd (aO q.a&&b.calm) (gd (jp (b.look "max")) ((r.e b q.a).bind λf=>aA (eB1 maxRT f))))))
theorem z0k:cA D Gv:=by
 intro r H X W o k e d C h;obtain⟨q,n,h⟩:=aS h;obtain⟨m,h⟩:=z8 h;obtain⟨l,h⟩:=z8 h;obtain⟨i,h⟩:=z8 h;obtain⟨b,h⟩:=z8 h;obtain⟨a,h⟩:=z8 h;obtain⟨f,g,h⟩:=aS h;cases h;obtain⟨j,p,c⟩:=U4 (zp i).1;rw[Yh n,c,qp m,qp l];exact PM C (zp b).2 (zA a).1 (zA a).2 (zp b).1 (H.e C g)
end NH
namespace NH
open PySem PySem.Spec PyProof.Rows L2 PySem.W
noncomputable def rN{α:Type}(lt:Nat->Nat->Bool):KasT α->α
 |.ret a=>a
 |.ask i j k=>rN lt (k (lt i j))
noncomputable def kIn{α:Type}(n:Nat):KasT α->Bool
 |.ret _=>aB
 |.ask i j k=>decide (i<n)&&decide (j<n)&&decide (i≠j)&&kIn n (k aB)&&kIn n (k aD)
theorem JX(b:∀i j C,i<n->j<n->i≠j->C (lt i j) s->d i j C s):∀t:KasT α,kIn n t=aB->G (rN lt t) s->t.kasWp d G s
 |.ret _,_,h=>h
 |.ask i j k,a,h=>by
  simp only[kIn,bK,decide_eq_true_eq] at a;obtain⟨⟨⟨⟨l,g⟩,f⟩,e⟩,c⟩:=a;refine b i j _ l g f ?_;have:kIn n (k (lt i j))=aB:=by
   cases lt i j
   .exact c
   .exact e
  exact JX b (k (lt i j)) this h
noncomputable def IA(b:Bool):Nat->Nat->Bool
 |1,0=>b
 |0,1=>!b
 |_,_=>aD
noncomputable def Iz(c a b:Bool):Nat->Nat->Bool
 |1,0=>c
 |0,1=>!c
 |2,1=>a
 |1,2=>!a
 |2,0=>b
 |0,2=>!b
 |_,_=>aD
theorem L8:kIn 2 (mw 2)=aB:=by decide +kernel
theorem Mt:kIn 3 (mw 3)=aB:=by decide +kernel
noncomputable abbrev R3:=Int×Int×aG
noncomputable def eB (a b:R3):Bool:=if a.1=b.1 then decide (a.2.1<b.2.1) else decide (a.1<b.1)
noncomputable def eQ (a b:R3):Prop:=¬(a.1=b.1/\a.2.1=b.2.1)
theorem qA(h:eQ a b):eB b a=!eB a b:=by
 unfold eB;unfold eQ at h;by_cases e:a.1=b.1
 .rw[if_pos e,if_pos e.symm];by_cases c:a.2.1<b.2.1
  .rw[decide_eq_true c,decide_eq_false (by lia)];rfl
  .rw[decide_eq_false c,decide_eq_true (by lia)];rfl
 .rw[if_neg e,if_neg (c7 e)];by_cases c:a.1<b.1
  .rw[decide_eq_true c,decide_eq_false (by lia)];rfl
  .rw[decide_eq_false c,decide_eq_true (by lia)];rfl
theorem W9(g:eB a b=aB)(d:eB b c=aB):eB a c=aB:=by
 unfold eB at *;by_cases e:a.1=b.1
 .rw[if_pos e] at g;have i:=of_decide_eq_true g;by_cases f:b.1=c.1
  .rw[if_pos f] at d;have h:=of_decide_eq_true d;rw[if_pos (by omega)];exact decide_eq_true (by omega)
  .rw[if_neg f] at d;have h:=of_decide_eq_true d;rw[if_neg (by omega)];exact decide_eq_true (by omega)
 .rw[if_neg e] at g;have i:=of_decide_eq_true g;by_cases f:b.1=c.1
  .rw[if_pos f] at d;rw[if_neg (by omega)];exact decide_eq_true (by omega)
  .rw[if_neg f] at d;have h:=of_decide_eq_true d;rw[if_neg (by omega)];exact decide_eq_true (by omega)
noncomputable def u9 (x:R3):List R3->List R3
 |[]=>[x]
 |y::r=>if eB y x then x::y::r else y::u9 x r
noncomputable def qM:List R3->List R3
 |[]=>[]
 |x::r=>u9 x (qM r)
theorem JI:∀{l:List R3},(u9 x l).length=l.length+1
 |[]=>rfl
 |y::r=>by
  unfold u9;split
  .rfl
  .simp[JI]
theorem Zr:∀{l:List R3},(qM l).length=l.length
 |[]=>rfl
 |x::r=>by unfold qM;rw[JI,Zr];rfl
noncomputable abbrev nW{α:Type}(p:Array Nat)(xs:List α)(d:α):List α:=(p.toList.map λi=>xs.reverse.getD i d).reverse
theorem L3(h:eQ x.2 y.2):∃d:List (aC×R3),nW (rN (IA (eB x.2 y.2)) (mw 2)) [x.1,y.1] dP=d.map (·.1)/\(∀q∈d,q∈[x,y])/\d.map (·.2)=qM [x.2,y.2]:=by
 have f:=qA h;cases a:eB x.2 y.2
 .exact⟨[x,y],rfl,by simp,by rw[a] at f;simp[qM,u9,f]⟩
 .exact⟨[y,x],rfl,by simp,by rw[a] at f;simp[qM,u9,f]⟩
theorem LS(g:eQ x.2 y.2)(f:eQ x.2 z.2)(e:eQ y.2 z.2):∃d:List (aC×R3),nW (rN (Iz (eB y.2 z.2) (eB x.2 y.2) (eB x.2 z.2)) (mw 3)) [x.1,y.1,z.1] dP=d.map (·.1)/\(∀q∈d,q∈[x,y,z])/\d.map (·.2)=qM [x.2,y.2,z.2]:=by
 have c:=qA g;have b:=qA f;have a:=qA e;cases j:eB y.2 z.2<;>cases i:eB x.2 y.2<;>cases h:eB x.2 z.2<;>rw[j] at a<;>rw[i] at c<;>rw[h] at b
 .exact⟨[x,y,z],rfl,by simp,by simp[qM,u9,c,b,a]⟩
 .exact absurd (W9 a c) (by rw[b];decide)
 .exact⟨[y,x,z],rfl,by simp,by simp[qM,u9,c,b,a]⟩
 .exact⟨[y,z,x],rfl,by simp,by simp[qM,u9,c,b,a]⟩
 .exact⟨[x,z,y],rfl,by simp,by simp[qM,u9,c,b,a]⟩
 .exact⟨[z,x,y],rfl,by simp,by simp[qM,u9,c,b,a]⟩
 .exact absurd (W9 i j) (by rw[h];decide)
 .exact⟨[z,y,x],rfl,by simp,by simp[qM,u9,c,b,a]⟩
noncomputable def dJ (h:aT)(v:aC)(r:R3):Prop:=∃a o n d c b,v=.ref a/\h.get? a=aA o/\o.cls=.type "tuple"/\o.data=.seq #[.int r.1 d,.int r.2.1 c,.str r.2.2 b] n
theorem dJ.keep(t:dJ h v r)(k:∀b o,h.get? b=aA o->h'.get? b=aA o):dJ h' v r:=by
 obtain⟨a,o,n,f,d,c,e,g,i,hd⟩:=t;exact⟨a,o,n,f,d,c,e,k _ _ g,i,hd⟩
section
variable {prog:Program}{w:World}{A:Around}{E:aC->Shared->Prop}{s:Shared}
theorem j0(l:dJ s.heap v r)(k:dJ s.heap g d)(ne:eQ r d)(h:Q (eB r d) s):wpAny (aR prog w) A (keyLt' (oO aB) v g) Q E s:=by
 obtain⟨a,o,n,x,u,t,rfl,i,B,hd⟩:=l;obtain⟨C,y,z,q,p,m,rfl,b,j,c⟩:=k;unfold eB at h;unfold eQ at ne;refine kat_lt i hd b c ?_;refine kat_cons (tj ?_);refine kat_go (λe=>?_) (λe=>?_)
 .have e:r.1=d.1:=by simpa using e
  rw[if_pos e] at h;refine kat_yes (kat_cons (tj ?_));refine kat_go (λf=>?_) (λf=>?_)
  .exact absurd ⟨e,by simpa using f⟩ ne
  .exact kat_no (kat_one _ _ (rW h))
 .have e:¬r.1=d.1:=by simpa using e
  rw[if_neg e] at h;exact kat_no (oneLt_int h)
theorem Y3:∀{zs:List (aC×R3)}{h:aT},(∀q∈zs,dJ h q.1 q.2)->∃fs:List aC,KatTups h (zs.map (·.1)) fs/\fs.length=zs.length/\∀v∈fs,∃i t,v=nt i t
 |[],_,_=>⟨[],KatTups.nil,rfl,by simp⟩
 |q::r,h,k=>by
  obtain⟨fs,m,l,j⟩:=Y3 (zs:=r) λp d=>k p (eH _ d);obtain⟨a,o,n,c,u,s,e,f,g,hd⟩:=k q fZ;refine⟨.int q.2.1 c::fs,?_,by simp[l],λv b=>?_⟩
  .rw[eW,e];exact KatTups.cons f g hd rfl m
  .rcases dG.mp b with rfl|b
   .exact⟨_,_,rfl⟩
   .exact j v b
theorem YM{zs:List (aC×R3)}(k:∀q∈zs,dJ s.heap q.1 q.2)(d:0<zs.length)(h:Q (oO aB) s):wpAny (aR prog w) A (keyKind' (zs.map (·.1)).toArray) Q E s:=by
 obtain⟨fs,c,e,b⟩:=Y3 k;refine kat_kind (T:=.type "int") c (by lia) (λv a=>?_) (by decide) h;obtain⟨i,t,rfl⟩:=b v a;exact CM rfl
theorem Nx{α:Type}{P:List α->Prop}(b:∀x y,P [x,y])(a:∀x y z,P [x,y,z]):∀zs:List α,2<=zs.length->zs.length<=3->P zs
 |[],h,_=>absurd h (by simp)
 |[_],h,_=>absurd h (by simp)
 |[x,y],_,_=>b x y
 |[x,y,z],_,_=>a x y z
 |_::_::_::_::_,_,h=>absurd h (by simp)
theorem Gk(h:i<2):i=0\/i=1:=by lia
theorem Fp(h:i<3):i=0\/i=1\/i=2:=by lia
theorem Yx{zs:List (aC×R3)}(k:∀q∈zs,dJ s.heap q.1 q.2)(g:zs.Pairwise λp q=>eQ p.2 q.2)(E:2<=zs.length)(D:zs.length<=3)
  (h:∀(p:Array Nat) (a:List (aC×R3)),nW p (zs.map (·.1)) dP=a.map (·.1)->(∀q∈a,q∈zs)->a.map (·.2)=qM (zs.map (·.2))->G p s) :
  (mw zs.length).kasWp (kas_ask prog w A (oO aB) (katRev aB (zs.map (·.1)))) G s:=by
 revert k g h;revert D;revert E;revert zs;suffices H:∀zs:List (aC×R3),2<=zs.length->zs.length<=3->(∀q∈zs,dJ s.heap q.1 q.2)->zs.Pairwise (λp q=>eQ p.2 q.2)->(∀(p:Array Nat) (a:List (aC×R3)),nW p (zs.map (·.1)) dP=a.map (·.1)->(∀q∈a,q∈zs)->a.map (·.2)=qM (zs.map (·.2))->G p s)->(mw zs.length).kasWp (kas_ask prog w A (oO aB) (katRev aB (zs.map (·.1)))) G s from λ{zs}=>H zs
 refine Nx (λx y=>?_) (λx y z=>?_)
 .intro k g h;have f:=k x (by simp);have d:=k y (by simp);have b:eQ x.2 y.2:=by simpa using g
  obtain⟨a,u,t,r⟩:=L3 (x:=x) (y:=y) b;refine JX (lt:=IA (eB x.2 y.2)) (λi j C B v ij c=>?_) _ L8 (h _ a u t r);rcases Gk B with rfl|rfl<;>rcases Gk v with rfl|rfl
  .exact absurd rfl ij
  .exact j0 d f (λe=>b ⟨e.1.symm,e.2.symm⟩) (by rw[qA b];exact c)
  .exact j0 f d b c
  .exact absurd rfl ij
 .intro k g h;have f:=k x (by simp);have d:=k y (by simp);have o:=k z (by simp);have n:(eQ x.2 y.2/\eQ x.2 z.2)/\eQ y.2 z.2:=by simpa using g
  obtain⟨⟨b,m⟩,l⟩:=n;obtain⟨a,u,t,r⟩:=LS (x:=x) (y:=y) (z:=z) b m l;refine JX (lt:=Iz (eB y.2 z.2) (eB x.2 y.2) (eB x.2 z.2)) (λi j C B v ij c=>?_) _ Mt (h _ a u t r);rcases Fp B with rfl|rfl|rfl<;>rcases Fp v with rfl|rfl|rfl
  .exact absurd rfl ij
  .exact j0 o d (λe=>l ⟨e.1.symm,e.2.symm⟩) (by rw[qA l];exact c)
  .exact j0 o f (λe=>m ⟨e.1.symm,e.2.symm⟩) (by rw[qA m];exact c)
  .exact j0 d o l c
  .exact absurd rfl ij
  .exact j0 d f (λe=>b ⟨e.1.symm,e.2.symm⟩) (by rw[qA b];exact c)
  .exact j0 f o m c
  .exact j0 f d b c
  .exact absurd rfl ij
theorem z0O{α:Type}{zs:List (α×R3)}(h:zs.length<2):zs.map (·.2)=qM (zs.map (·.2)):=by
 match zs with
 |[]=>rfl
 |[x]=>rfl
 |_::_::_=>exact absurd h (by simp)
theorem KD {a:aE}{zs:List (aC×R3)}{P:PySem.Fin->aW->Prop}(v:s.heap.get? a=aA (eY "list" (zs.map (·.1)).toArray n)) (k:∀q∈zs,dJ s.heap q.1 q.2) (Z:zs.Pairwise λp q=>eQ p.2 q.2) (J:zs.length<=3)
  (h:∀d:List (aC×R3),(∀q∈d,q∈zs)->d.map (·.2)=qM (zs.map (·.2))->P (.done (.ret .none)) {s with heap:=sortedHeap s.heap a (zs.map (·.1)) (d.map (·.1)).toArray}) :
  wpAny (aR prog w) A (iO.«list.sort» ⟨[.ref a],[(e_ "reverse",.bool aB)]⟩) P E s:=by
 have ha:a<s.heap.objs.size:=bW v;have D:(zs.map (·.1)).toArray.size=zs.length:=by simp
 have I:∀{m:Nat},m<=3->m<=sizeLine:=λh=>cV h (by rw[eZ];lia);obtain⟨H,B⟩:∃c,(s.heap.update a (gB λ_=>#[])).get? a=aA (eY "list" #[] c):=⟨_,sN v (λ_=>#[])⟩;rw[list_sort_rev];refine wpAny_bind (listItems_at v rfl (wpAny_bind (listUpdate_at v rfl ?_ (by rw[D];exact I J) (gQ _))));refine wpAny_bind (seqEpoch_at B rfl (wpAny_bind (wpAny_newTuple ?_ (by show (zs.map (·.1)).length<=_;rw[eN];exact I J))));refine wpAny_bind (sH (wpAny_holding ?_) (gQ _));generalize N:((s.heap.update a (gB λ_=>#[])).push (eY "tuple" (zs.map (·.1)).toArray 0)).push (eY "list" #[] 0)=g;have V:∀b o,s.heap.get? b=aA o->b≠a->g.get? b=aA o:=λb o e C=>by
  rw[<-N];exact bN _ (bN _ (by rw[pZ _ _ _ _ C];exact e))
 have y:g.get? a=aA (eY "list" #[] H):=by
  rw[<-N];exact bN _ (bN _ B)
 have R:∀q∈zs,dJ g q.1 q.2:=λq L=>by
  obtain⟨b,o,m,Y,X,W,e,C,S,hd⟩:=k q L;refine⟨b,o,m,Y,X,W,e,V b o C (λz=>?_),S,hd⟩;rw[z,v] at C;cases C;injection (show ny "list"=ny "tuple" from S) with e;exact absurd e (by decide)
 have put:∀{f:Array aC->Array aC}{out:Array aC},f #[]=out->out.size<=3->P (.done (.ret .none)) {s with heap:=g.update a (gB f)}->
   wpAny (aR prog w) A (do
    let e ←seqEpoch a
    LD (.ref a) f
    if (e != H)=aB then do
     rule "list.sort.modified"
     raiseErrorWords "ValueError" "list modified during sort"
     ret dP
    else ret dP) P E {s with heap:=g}:=λ{f out} he M hp=>by
  refine wpAny_bind (seqEpoch_at y rfl (wpAny_bind (listUpdate_at y rfl ?_ (gQ _) (by rw[he];exact cV (I M) (iW _)))));rw[show (H != H)=aD from bne_self_eq_false _,if_neg (by decide)];exact wpAny_pure hp
 dsimp only;rw[if_pos rfl];refine wpAny_bind (nv ?_);have fin:∀d:List (aC×R3),(∀q∈d,q∈zs)->d.map (·.2)=qM (zs.map (·.2))->P (.done (.ret .none)) {s with heap:=g.update a (gB λ_=>(d.map (·.1)).toArray)}:=λd m e=>by
  rw[<-N];exact h d m e
 by_cases K:zs.length<2
 .have lt:(zs.map (·.1)).toArray.size<2:=by rw[D];exact K
  rw[if_pos lt];refine wpAny_bind (wpAny_pure ?_);rw[if_pos lt,StateT.run_pure];refine wpAny_bind (wpAny_pure ?_);dsimp only;have U:(Array.map (λx:aC×aC=>x.2) (((zs.map (·.1)).toArray.zip (zs.map (·.1)).toArray).reverse)).reverse=(zs.map (·.1)).toArray:=by
   apply Array.toList_inj.mp;simp[Dg,Dc]
  have T:=fin zs (λq h=>h) (z0O K);rw[<-U] at T;exact put (out:=_) rfl (by rw[if_pos rfl,if_pos rfl];exact cV (mF (congrArg Array.size U)) (by rw[D];lia)) T
 .have O:¬(zs.map (·.1)).toArray.size<2:=by rw[D];exact K
  rw[if_neg O];refine wpAny_bind (YM (s:={s with heap:=g}) R (by lia) ?_);rw[if_neg O,kat_pairs aB rfl];have el:(katRev aB (zs.map (·.1))).length=zs.length:=by rw[kat_len,eN]
  refine wpAny_bind (cR (kat_run (s:={s with heap:=g}) (Q:=λi l=>l={s with heap:=g}/\failedOf i=aF/\∃d:List (aC×R3),((arrOf i).map (·.2)).reverse=(d.map (·.1)).toArray/\(∀q∈d,q∈zs)/\d.map (·.2)=qM (zs.map (·.2)))
   (G:=λp l=>l={s with heap:=g}/\∃d:List (aC×R3),nW p (zs.map (·.1)) dP=d.map (·.1)/\(∀q∈d,q∈zs)/\d.map (·.2)=qM (zs.map (·.2))) rfl (by lia) (by lia) (λp i l a1 a2 a3 a4=>?_) ?_) (λr l L=>?_) λ_ _ z=>z)
  .obtain⟨F,d,u,t,j⟩:=a4;refine⟨F,a3,d,?_,t,j⟩;rw[kat_snds rfl a2,<-u];simp[katRev]
  .rw[el];exact Yx (s:={s with heap:=g}) R Z (by lia) J λp d u t j=>⟨rfl,d,u,t,j⟩
  .obtain⟨⟨⟩,i⟩:=r;obtain⟨rfl,hf,d,u,t,j⟩:=L;dsimp only;rw[if_pos rfl,u,hf];have ez:d.length=zs.length:=by
    have F:=congrArg mG j;rw[eN,Zr,eN] at F;exact F
   exact put rfl (by simp;lia) (fin d t j)
theorem Jt{zs:List (aC×R3)}{Q:aC->aW->Prop}(u:s.heap.IsList l (zs.map (·.1)).toArray)(k:∀q∈zs,dJ s.heap q.1 q.2)(n:zs.Pairwise λp q=>eQ p.2 q.2)(f:zs.length<=3)
  (h:∀d:List (aC×R3),(∀q∈d,q∈zs)->d.map (·.2)=qM (zs.map (·.2))->Q (.ref (s.heap.objs.size+1)) {s with heap:=sortedAll s.heap (zs.map (·.1)) (d.map (·.1)).toArray}) :
  wpAny (aR prog w) A (call (.builtin "sorted") [.ref l] [(e_ "reverse",.bool aB)]) Q E s:=by
 have c:(zs.map (·.1)).length<=sizeLine:=cV (by rw[eN];exact f) (by rw[eZ];lia:3<=sizeLine);refine call_function_entry_kw kind_sorted plain_sorted entry_sorted (args_sorted_rev _ _) ?_;unfold iO.«sorted»;refine wpAny_bind (m:=checkCount "sorted" 1 1 _) (wpAny_pure (wpAny_bind (collect_list u (wpAny_bind (sH ?_ c)) (by simpa using c))));have a:((s.heap.push (eY "list" #[] 0)).update s.heap.objs.size (gB (·++(zs.map (·.1)).toArray))).objs.size=s.heap.objs.size+1:=by rw[Heap.size_update,size_push']
 generalize g:(s.heap.push (eY "list" #[] 0)).update s.heap.objs.size (gB (·++(zs.map (·.1)).toArray))=B at a;have i:(B.push (eY "list" (zs.map (·.1)).toArray 0)).get? (s.heap.objs.size+1)=aA (eY "list" (zs.map (·.1)).toArray 0):=by rw[<-a];exact dQ _ rfl
 have j:∀b o,s.heap.get? b=aA o->(B.push (eY "list" (zs.map (·.1)).toArray 0)).get? b=aA o:=λb o e=>by
  have r:=bW e;refine bN _ ?_;rw[<-g,pZ _ _ _ _ (dF r)];exact bN _ e
 show wpAny _ _ _ _ _ {s with heap:=B.push (eY "list" (zs.map (·.1)).toArray 0)};rw[a];refine wpAny_bind (wpAny_holding (wpAny_call_entry_kw slot_list_sort ⟨_,i,rfl⟩ entry_list_sort (KD (s:={s with heap:=B.push (eY "list" (zs.map (·.1)).toArray 0)}) i (λq t=>(k q t).keep j) n f λd m e=>⟨_,rfl,?_⟩) (args_list_sort_rev _ _)));have:=h d m e;unfold sortedAll at this;rw[g] at this;exact wpAny_pure ⟨_,rfl,this⟩
end
noncomputable abbrev i9(r:R3):T:=.tup [.int r.1,.int r.2.1,.str r.2.2]
noncomputable abbrev Ik(xs:List T)(b:aI):RE T:=λK _=>∃a:List R3,xs=a.map i9/\a.length<=3/\a.Pairwise eQ/\K (.lst ((qM a).map i9)) b
noncomputable abbrev sortRT(t:T)(a:aI):RE T:=match t with
 |.lst xs=>Ik xs a
 |.mut i=>λK Z=>∃xs,a[i]?=aA (.lst xs)/\Ik xs a K Z
 |_=>.st
section
variable {X:Cx}{D:DP}{W:XW}{Γ:Cn}{k:Nat}{pins:List (aE×a_)}{s:Shared}{σ:St}{H:Hp}{φ α:List aE}{τ:Sl}{μ:aI}{f:De}
theorem VN{ad:aE}{c:List R3}{N:T->aI->Prop}(I:Inv X pins σ H s)(B:aL D φ α H μ)(q:Rd H ad (.lst O))(l:aM D φ α H (c.map i9) O)(l3:c.length<=3)(Z:c.Pairwise eQ)
  (hK:N (.lst ((qM c).map i9)) μ) (k1:∀t m,N t m->∀z H',aP α H z H'->aL D φ z H' m->RV D φ Q t m z H') :
  wpAny (aR X.prog X.w) X.A (call (.builtin "sorted") [.ref ad] [(e_ "reverse",.bool aB)]) (EP X pins σ Q) X.xe s:=by
 obtain⟨g,G,pl,hz⟩:=I.list (.inl q);have e1:=l.length;have e2:=G.length;rw[eN] at e1;have ez:(g.zip c).map (·.1)=g:=List.map_fst_zip (by lia);have er:(g.zip c).map (·.2)=c:=Dc (by lia);have at_:∀p∈g.zip c,∃k:V,RelV k p.1/\a6 D φ α H (i9 p.2) k/\dJ s.heap p.1 p.2:=λp j=>by
  obtain⟨i,hi,e⟩:=Ef.mp j;have hi':i<g.length/\i<c.length:=by rw[Dv] at hi;lia
  rw[List.getElem_zip] at e;subst e;obtain⟨k,hw,dw⟩:=l.get (i:=i) (t:=i9 c[i]) (by rw[eX,ir hi'.2];rfl);obtain⟨u,L,J⟩:=G.get hw;rw[ir hi'.1] at L;cases L;refine⟨k,J,dw,?_⟩;obtain⟨a,ys,rfl,n1,n2,r,dl⟩:=dw;obtain⟨v1,y1,rfl,d1,v2,y2,rfl,d2,v3,y3,rfl,d3,d4⟩:=dl;cases d1;cases d2;cases d3;cases d4;obtain⟨K,h,pt,_⟩:=I.tuple (.inl r);have y:g[i]'hi'.1=b9 a:=J;cases h with
  |cons Y h=>cases h with
   |cons W h=>cases h with
    |cons U h=>
     cases h
     obtain⟨S,rfl⟩:=Y
     obtain⟨R,rfl⟩:=W
     obtain⟨P,rfl⟩:=U
     obtain⟨o,ho,hc,n,hd⟩:=pt
     exact⟨a,o,n,S,R,P,y,ho,hc,hd⟩
 have mk:∀f:List (aC×R3),(∀p∈f,p∈g.zip c)->∃d:List V,aU d (f.map (·.1))/\aM D φ α H (f.map λp=>i9 p.2) d:=λf=>by
  induction f with
  |nil=>exact λ_=>⟨[],.nil,rfl⟩
  |cons p r ih=>
   intro v;obtain⟨d,x,F⟩:=ih λp j=>v p (eH _ j);obtain⟨k,E,C,_⟩:=at_ p (v p fZ)
   exact⟨k::d,.cons E x,k,d,rfl,C,F⟩
 refine Jt (zs:=g.zip c) (by rw[ez];exact pl.isList) (λp j=>(at_ p j).choose_spec.2.2) (nR.mp (by rw[er];exact Z)) (by rw[Dv];lia) λf v M=>?_;obtain⟨d,x,F⟩:=mk f v;obtain⟨e,he⟩:=sortedAll_at s.heap ((g.zip c).map (·.1)) (f.map (·.1)).toArray;have j:H (s.heap.objs.size+1)=aF:=I.hok.fresh (iW _);have hl:d.length<=sizeLine:=by
  have E:=x.length;have C:=congrArg mG M;rw[eN,Zr,er] at C;rw[eN] at E;rw[eZ];lia
 refine⟨.ref (s.heap.objs.size+1),aX H (s.heap.objs.size+1) (.lst d),I.laid (t':=s.toks) (λb o e=>sortedAll_old e) (iW _) (show a8 X.prog X.w _ _ _ (.lst d) from ⟨hl,f.map (·.1),e,x,he⟩),rfl,?_⟩;refine k1 _ μ hK α _ (aP.new (z7 j)) (B.new (z7 j)) _ ⟨_,d,rfl,zb B j,za B j,.inl z4,?_⟩;rw[<-er,<-M,List.map_map];exact F.step (aP.new (z7 j))
theorem z0X(C:Ck D W Γ X k) 
  (hx:("sorted":aG)∈Γ.G) (y:Γ.gl "sorted"=.none) (e:aO a=aB) (U:PE X a (aV D W f)) :
  PE X (.Call (.Name "sorted" p0) [a] [⟨aA "reverse",.Constant (.bool aB) jj pb,pk⟩] pos) (aV D W (eB1 sortRT f)):=by
 have J:=C.glo _ hx;rw[y] at J;rintro i s A H Q I ⟨g,B,L,M,N,P,p⟩;refine gP (qH I (C.glb _ hx) J (show fW "sorted"=aA (.builtin "sorted") by decide +kernel) ?_ (by decide) (C.dbG _ hx));refine callWith_kw (aY (zj U zC (z3 e) pos i s A H (λE j=>∃v t c b,E=[v]/\aP B H b j/\aL D g b j c/\a6 D g b j t v/\aJ D W g b j A (RV D g Q) (sortRT t c)) I ⟨g,B,L,M,N,P,p.bind.mono λt n o H' st m q v d=>⟨v,t,n,o,rfl,st,m,d,q⟩⟩) ?_) (by rw[z3 e];rfl) (by rw[z3 e];rfl) rfl rfl;rintro us s1 ⟨E,j,K,O,v,t,c,b,rfl,st,m,d,p⟩;obtain⟨u,rfl,F⟩:=vals1 O;refine kws_cons (Constant_bool (kws_nil ?_));show wpAny _ _ (call (.builtin "sorted") [u] [(e_ "reverse",.bool aB)]) _ _ _;unfold sortRT at p;split at p
 .obtain⟨Y,V,⟨h,rfl,z,r,x⟩,w,R⟩:=p;obtain⟨ad,xs,rfl,_,_,q,l⟩:=d;cases F;exact VN K m q l z r x w
 .obtain⟨Y,V,⟨xs,S,h,rfl,z,r,x⟩,w,R⟩:=p;obtain⟨ad,T,rfl⟩:=d;cases F;obtain⟨Z,q,l⟩:=m.ob _ ad _ T S;exact VN K m (.inl q) l z r x w
 .exact p.elim
end
noncomputable def Hq:ER:=λr b e=>(rj e).bind λq=>gd (q.x==("sorted":aG)) (gd (q.ky==("reverse":aG)) (gd (Xf q.v&&(b7 b.N q.x).isNone) (gd (aO q.a) (gd (jp (b.look "sorted")) ((r.e b q.a).bind λf=>aA (eB1 sortRT f))))))
theorem YU:cA D Hq:=by
 intro r H X W o k e d C h;obtain⟨q,n,h⟩:=aS h;obtain⟨m,h⟩:=z8 h;obtain⟨l,h⟩:=z8 h;obtain⟨i,h⟩:=z8 h;obtain⟨g,h⟩:=z8 h;obtain⟨a,h⟩:=z8 h;obtain⟨f,c,h⟩:=aS h;cases h;obtain⟨j,p,b⟩:=Ue (zp i).1;rw[Yh n,b,qp m,qp l];exact z0X C (zA a).1 (zA a).2 g (H.e C c)
end NH
namespace NH
open PySem PySem.Spec PyProof.Rows L2
noncomputable abbrev eKap(g:List (Nat×De))(n:Nat)(o f:De):De:=λd e=>(o d e).bind λt c=>(yi t n c).bind λw b K Z=>∃p:Nat×(Nat×De)×List T,(g[p.1]?=aA p.2.1/\w=KU p.1 p.2.1.1 p.2.2)/\((f d b).bind λx a=>p.2.1.2 (aA x::p.2.2.map aA) a) K Z
noncomputable abbrev M_(ds:List Ds):De:=λa b K Z=>zK ds a b (En.fn K Z)
noncomputable abbrev eLamC(jt j:Nat)(fs:List Nat):De:=λc (a:aI) K _=>(∃i:Nat,a[i]?=aA (MO.tab jt))/\∃b:List T,fs.map (kg c)=b.map aA/\K (KU j jt b) a
noncomputable def uO:aG:=⟨#[38]⟩
section
variable {X:Cx}{D:DP}{W:XW}{Γ:Cn}{k:Nat}{pins:List (aE×a_)}{s:Shared}{σ:St}{H:Hp}{φ α:List aE}{τ:Sl}{μ:aI}{g:De}{a b c:aH}{pos:Pos}
theorem z0P{c:aE}(I:Inv X pins σ H s)(hx:X.env.cells.lookup x=aA c)(w:X.fn x=aD)(hs:X.s₀.heap.objs.size<=c)(t:H c=aF)(h:s.heap.get? c=aA o)(hd:o.data=.cell v):Inv X pins σ (aX H c (.frz o (.ext λ_=>True))) s:=by
 have st:∀b u,H b=aA u->aX H c (.frz o (.ext λ_=>True)) b=aA u:=λb u q=>by rw[z6 (zu q t)];exact q
 refine⟨I.ok,I.os,I.bare,⟨I.base.keep,I.base.slot,λb f e n g=>?_,I.base.there,λb xs e=>st b _ (I.base.tups b xs e),λb f u e=>st b _ (I.base.frzs b f u e),λb j e=>?_⟩,I.loc,I.cell,?_,λy i e=>?_,λp r=>?_,λb k e=>?_,I.len⟩
 .rw[z6 (dF (dI (bW e) hs))];exact I.base.free b f e n g
 .obtain⟨a,q⟩:=I.base.tbls b j e;exact⟨a,st b _ q⟩
 .rw[z6 (c7 (I.cne x c hx))];exact I.free
 .by_cases z:i=c
  .subst z;rw[I.ok.inj _ _ _ e hx];exact .inr ⟨w,o,_,z4⟩
  .rw[z6 z];exact I.freeC y i e
 .obtain⟨e,n,m,l,d⟩:=I.pin p r;have:p.1≠c:=λz=>by rw[z,h] at e;cases e;exact d _ hd
  exact⟨e,by rw[z6 this];exact n,m,l,d⟩
 .by_cases z:b=c
  .subst z;rw[z4] at e;cases e;exact⟨h,trivial,⟨o,h⟩,λ_ _ _ _=>trivial⟩
  .rw[z6 z] at e;exact (I.hok b k e).stay (λ_ _ _ q=>q) (λb q=>st b _ q) λb xs q=>st b _ q
theorem Jr(C:Ck D W Γ X k){ls:List bJ}(KM:lH D ls)(Q:Γ.lam.isSome=aB):∀{fr:List aG}{fs:List Nat}{ts:List T}{H:Hp},(∀x∈fr,x∈Γ.fz/\x∈Γ.cel)->j2 Γ.N fr=aA fs->fs.map (kg τ)=ts.map aA->Inv X pins σ H s->aZ D φ α H τ σ->aL D φ α H μ->
  ∃(H':Hp) (cs:List aE),Inv X pins σ H' s/\j6 H H'/\fr.map (λx=>X.env.cells.lookup x)=cs.map aA/\aM D φ α H' (ts.map λt=>.clo 200 [t]) (cs.map V.ref)
 |[],fs,ts,H,_,g,p,I,A,f=>by
  cases g;cases ts with
  |nil=>exact⟨H,[],I,λ_ _ e=>e,rfl,rfl⟩
  |cons _ _=>cases p
 |x::fr,fs,ts,H,S,g,p,I,A,f=>by
  simp only[j2] at g;split at g
  .rename_i i is R L;cases g;cases ts with
   |nil=>cases p
   |cons t ts=>
    have j:=p;simp only[eW,Dz] at j;obtain⟨ht,F⟩:=j;obtain⟨hz,hc⟩:=S x fZ;obtain⟨v,hv,d⟩:=A.val i t (WY.mp ht);obtain⟨hf,G⟩:=C.kfz Q x hz;obtain⟨m,_,J⟩:=I.loc;obtain⟨u,Z,lk⟩:=J i x v (by rw[C.hN];exact qN R) hv (C.vis x (qx R));have kd:=C.cel x hc;rcases lk with⟨z,_⟩|⟨_,c,ec,o,P,hd⟩
    .rcases kd with q|q<;>(rw[z] at q;cases q)
    .obtain⟨r,l,I1,B,e1,n1,n2⟩:∃r l,Inv X pins σ r s/\j6 H r/\r c=aA (.frz o l)/\c∉φ/\c∉α:=by
      rcases I.freeC x c ec with q|⟨_,O,Y,q⟩
      .exact⟨_,_,z0P I ec hf (G c ec) q P hd,z7 q,z4,zb f q,za f q⟩
      .have U:s.heap.get? c=aA O:=(I.hok c _ q).1;rw[P] at U;cases U;refine⟨H,Y,I,λ_ _ e=>e,q,λz=>?_,λz=>?_⟩
       .obtain⟨w,e,n⟩:=f.phi c z;rw[q] at e;cases e;cases n
       .obtain⟨E,h⟩:=mU.mp z;have K:E<μ.length:=by rw[<-f.len];exact (cH.mp h).1
        obtain⟨w,e,n⟩:=(f.ob E c μ[E] h (by simp[K])).some;rw[q] at e;cases e;cases n
     have st:=aP.new (α:=α) B;obtain⟨H2,cs,I2,a,M,dl⟩:=Jr C KM Q (fr:=fr) (fs:=is) (ts:=ts) (λy hy=>S y (eH _ hy)) L F I1 (A.step st) (f.new B);refine⟨H2,c::cs,I2,λb o e=>a b o (B b o e),by simp[ec,M],⟨.ref c,cs.map V.ref,rfl,⟨c,aA (.frz o l),[v],rfl,KM.ce c o u v l hd Z,λO e=>?_,v,[],rfl,(d.step st).step (aP.new a),rfl⟩,dl⟩⟩;cases e;exact⟨n1,n2,a _ _ e1⟩
  .cases g
theorem z0a{P:bZ}{c:aE}(p:xH q c l cl h):a8 P w H h q (.ext (xH q c l cl)):=by
 obtain⟨g,f,b,a,e⟩:=id p;refine⟨p,⟨_,e⟩,λj i p d=>?_⟩;obtain⟨g,f,b,a,e⟩:=p;exact⟨g,f,b,a,d _ e⟩
theorem NT{l:bJ}{line i:Nat}{c P:aE}(I:Inv X pins σ H s)(f:aL D φ α H μ)(k:μ[i]?=aA (.tab l.jt))(n:D.tabs l.jt=aA (P,r,l.qn))(b:pos∈r)
  (a:X.env.code=.ref c) (o:i5 X.base c P) (t:X.base.BuiltinsAt X.mg P) (e:my l.sc X.env=pure cl)
  (h:∀q j d doc H' m,Inv X ((q,{cls:=.type "function",data:=.func (Bw l.nm l.qn ⟨[],[⟨l.y,aF,pa⟩],aF,[],[],aF,[]⟩ l.fb l.sc cl doc ((X.mg "__name__").getD .none) (.ref j) d)})::pins) σ H' m->aP α H α H'->aL D φ α H' μ->j∉α->H' j=aA (.ext (qt j l.qn))->(j∉φ/\cN X H' q/\∀p∈pins,p.1≠q)->Q (.ref q) m) :
  wpAny (aR X.prog X.w) X.A (pd l.nm l.qn ⟨[],[⟨l.y,aF,pa⟩],aF,[],[],aF,[]⟩ l.fb l.sc X.env [] [] [] pos line) Q X.xe s:=by
 obtain⟨B,x,y,body,v,fr,g,u⟩:=l;cases u with
 |none=>exact TK I f k n b a o t e λq j d H' m=>h q j d .none H' m
 |some z=>exact T3 I f k n b a o t e λq j d doc H' m=>h q j d doc H' m
theorem Uj(C:Ck D W Γ X k){pa pl:Pos}{j line i:Nat}(B:Γ.lam=aA (l.jt,m))(O:pl∈m)(hU:uO∈Γ.U)(hg:Γ.gl uO=.kap ls)(hj:ls[j]?=aA l)(d:frees l.sc=l.fr)(R:l.fr.Nodup)(E:∀x∈l.fr,x∈Γ.fz/\x∈Γ.cel)(S:j2 Γ.N l.fr=aA fs)
  (I:Inv X pins σ H s) (sr:aZ D φ α H τ σ) (mr:aL D φ α H μ) (hi:μ[i]?=aA (.tab l.jt)) (M:fs.map (kg τ)=ts.map aA):X.env.qual++Γ.lnm=l.qn/\
  wpAny (aR X.prog X.w) X.A (pd l.nm l.qn ⟨[],[⟨l.y,aF,pa⟩],aF,[],[],aF,[]⟩ l.fb l.sc X.env [] [] [] pl line) (λv s'=>∃q H',v=.ref q/\Inv X pins σ H' s'/\aP α H α H'/\aL D φ α H' μ/\a6 D φ α H' (KU j l.jt ts) (.ref q)) X.xe s:=by
 obtain⟨hk,c,P,n,hC,hB,K⟩:=C.lam _ m B;have gq:=(C.glU _ hU).1;rw[hg] at gq;have KM:=gq.2;obtain⟨P',pos',hD'⟩:=KM.tb j l hj;have z:X.env.qual++Γ.lnm=l.qn:=by
  have:=K.symm.trans hD';simp only[pA,Prod.mk.injEq] at this;exact this.2.2
 refine⟨z,?_⟩;rw[z] at K;obtain⟨H1,cs,I1,u,F,dl⟩:=Jr C KM (by rw[B];rfl) E S M I sr mr;have g:∀x∈frees l.sc,∃c,X.env.cells.lookup x=aA c:=λx f=>I.ok.has x (C.cel x (E x (by rw[<-d];exact f)).2);obtain⟨cl,T,G,hc2⟩:=uT g;have cat:Yz l.fr cl cs:=by
  refine⟨?_,?_,λx a e=>by rw[<-d];exact (G x a e).2⟩
  .rw[<-F];refine DO λx f=>?_;obtain⟨c,e⟩:=hc2 x (by rw[d];exact f);rw[e,(G x c e).1]
  .have q:(cs.map aA).Pairwise (·≠·):=by
    rw[<-F,nR];refine LF (λ{a b} ha hb Q e=>Q ?_) R;obtain⟨c,e1⟩:=g a (by rw[d];exact ha);exact I.ok.inj a b c e1 (by rw[<-e];exact e1)
   rw[nR] at q;exact q.imp λh e=>h (congrArg aA e)
 refine NT I1 (mr.new u) hi K O n hC hB T λq r ctv doc H2 s2 I2 t L Z Y f=>?_;have ho:=(I2.pin _ (dR _ fZ)).1;have np:xH q r l cl s2.heap:=⟨pa,_,ctv,doc,ho⟩;have I4:=vd (o:=.ext (xH q r l cl)) (KC I2) f.2.1 f.2.2 (z0a np);have p:=f.2.1.free;have J:j6 H2 (aX H2 q (.ext (xH q r l cl))):=z7 p;refine⟨q,_,rfl,I4,(aP.new u).trans (t.trans (aP.new J)),L.new J,?_⟩;refine⟨q,_,_,rfl,KM.fn j l q r cl cs hj cat,λo e=>?_,.ref r,cs.map V.ref,rfl,⟨r,_,[],rfl,KM.co _ _ _ _ r K,λo e=>?_,rfl⟩,(dl.step t).step (aP.new J)⟩
 .cases e;exact⟨zb L p,za L p,z4⟩
 .cases e;exact⟨f.1,Z,J _ _ Y⟩
theorem Rn (C:Ck D W Γ X k) {pa c:Pos}(b:l.sb=aF) (h:Γ.lnm="<lambda>") (o:Γ.lam=aA (l.jt,r)) (g:c∈r) (L:uO∈Γ.U) (K:Γ.gl uO=.kap ls) (G:ls[j]?=aA l) (u:frees l.sc=l.fr) (n:l.fr.Nodup) (p:∀x∈l.fr,x∈Γ.fz/\x∈Γ.cel) (t:j2 Γ.N l.fr=aA fs) :
  PE X (.Lambda ⟨[],[⟨l.y,aF,pa⟩],aF,[],[],aF,[]⟩ l.body l.sc c) (aV D W (eLamC l.jt j fs)):=by
 rintro w s V H Q I ⟨S,z,T,Y,A,E,K0,Z0,⟨⟨i,J⟩,Z,e,B⟩,F,k2⟩;obtain⟨f,a⟩:=Uj (pa:=pa) (line:=c.line) C o g L K G u n p t I A E J e;have O:l.nm="<lambda>":=by unfold bJ.nm;rw[b]
 have M:l.fb=.expr l.body:=by unfold bJ.fb;rw[b]
 rw[O,M,<-f,h] at a;refine PySem.W.kla_eval rfl (aY a ?_);rintro v s' ⟨q,R,rfl,P,st,m,d⟩;exact⟨.ref q,R,P,rfl,F _ _ B z _ st m _ d⟩
end
section
variable {D:DP}{φ α:List aE}{H:Hp}
structure iA(H:Hp)(c:aE)(x:V):Prop where
 ex:∃(o:a_) (ob:HO) (u:aC),H c=aA (.frz o ob)/\o.data=.cell (aA u)/\RelV x u
noncomputable def Ra(D:DP):Prop:=∀c a xs,D.clo 200 c a xs->∃(x:V) (u:aC) (o:a_) (b:HO),xs=[x]/\RelV x u/\Obj.data o=.cell (aA u)/\a=aA (HO.frz o b)
theorem QS(b:Ra D):∀{ts:List T}{cs:List aE},aM D φ α H (ts.map λt=>.clo 200 [t]) (cs.map V.ref)->∃vs:List V,aM D φ α H ts vs/\vs.length=cs.length/\∀(i:Nat) (c:aE),cs[i]?=aA c->∃x,vs[i]?=aA x/\iA H c x
 |[],[],_=>⟨[],rfl,rfl,λi c e=>by simp at e⟩
 |[],_::_,h=>by cases (show _=[] from h)
 |t::ts,[],h=>by obtain⟨_,_,e,_⟩:=h;cases e
 |t::ts,c::cs,h=>by
  obtain⟨v,r,e,⟨a,z,xs,q,j,f,dl⟩,n⟩:=h;cases e;cases q;obtain⟨vs,m,l,k⟩:=QS b n;obtain⟨x,u,o,g,rfl,r,hd,rfl⟩:=b _ _ _ j;obtain⟨w,y,p,d,A⟩:=dl;cases p;refine⟨x::vs,⟨x,vs,rfl,d,m⟩,by simp[l],λi s e=>?_⟩;cases i with
  |zero=>cases e;exact⟨x,rfl,⟨o,g,u,(f _ rfl).2.2,hd,r⟩⟩
  |succ i=>exact k i s (by simpa using e)
theorem Vq(h:Yz fr cl cs)(e:cl.lookup x=aA c):∃i:Nat,fr[i]?=aA x/\cs[i]?=aA c:=by
 obtain⟨i,a⟩:=mU.mp (h.2.2 x c e);refine⟨i,a,?_⟩;have:=congrArg (λl=>l[i]?) h.1;simp only[eX,a,pI,e] at this;cases q:cs[i]? with
 |none=>rw[q] at this;cases this
 |some b=>rw[q] at this;cases this;rfl
theorem XT(h:Yz fr cl cs){i:Nat}(e:fr[i]?=aA x):∃c,cl.lookup x=aA c/\cs[i]?=aA c:=by
 have:=congrArg (λl=>l[i]?) h.1;simp only[eX,e,pI] at this;cases q:cs[i]? with
 |none=>rw[q] at this;cases this
 |some a=>rw[q] at this;exact⟨a,by simpa using this,rfl⟩
noncomputable def XH(Γ:Cn)(l:bJ):Bool:=
 (l.sc.kind==.function)&&!l.sc.isCoroutine&&!l.sc.isGenerator&&l.sc.names.all (λp=>p.2 != .cell)&&(frees l.sc==l.fr)&&decide ((l.y::l.fr).Nodup)&&(l.sc.names.lookup l.y==aA .local)&&l.fr.all (λx=>l.sc.names.lookup x==aA .free)&&
 (l.y::l.fr).all (λx=>x != ("__debug__":aG)&&x != ("__classdict__":aG))&&Γ.G.all (λx=>Γ.U.contains x&&l.sc.names.lookup x==aA .globalImplicit)
noncomputable def yy(Γ:Cn)(l:bJ)(G:List aG):Cn:={Γ with N:=l.y::l.fr,G:=G,cel:=l.fr,own:=[],lam:=aF,fz:=l.fr,calm:=aB}
noncomputable def A5 (R:cK)(n:Nat)(Γ:Cn)(l:bJ):Prop:=(l.sb=aF/\(aN R n).e Γ l.body=aA l.g)\/∃q ds,l.sb=aA q/\z9 ((aN R n).s Γ) q.2=aA ds/\l.g=M_ ds
theorem Tb{R:cK}{P:bZ}{w:cX}{K:bH}{base:aT}{Γ:Cn}{G:List aG}(HR:b8 D R){n k0:Nat}{l:bJ}(M:fD D P w K mg base Γ k0)(hsc:XH (yy Γ l G) l=aB)(hE:A5 R n (yy Γ l G) l)
  {A:dW}{s:aW}{a c:aE}{cs:List aE}(hr:bU (k0+1) A) (e0:dT P w K mg base A outer s H) (ho:xH a c l cl s.heap) (hrec:s.heap.CodeRec (.ref c) l.qn) (L:Yz l.fr cl cs)
  {ts:List T}{vs:List V}(dts:aM D φ α H ts vs) (hvl:vs.length=cs.length) (hcv:∀(i:Nat) (c:aE),cs[i]?=aA c->∃x,vs[i]?=aA x/\iA H c x)
  {u:aC}{x:V}{Q:VK}{t:T}{μ:aI}{Z0:Xp}{E:XK}(r:RelV x u) (d:a6 D φ α H t x) (mr:aL D φ α H μ) (p:l.g (aA t::ts.map aA) μ K0 Z0) (hK0:∀t' C,K0 t' C->∀j H' v',aP α H j H'->aL D φ j H' C->a6 D φ j H' t' v'->Q v' H') (hZ0:∀c fs C,Z0 c fs C->∀j H' cv d,aP α H j H'->aL D φ j H' C->gJ D c fs cv->bO D φ j H' fs d->E cv d H') :
  fE (aR P w) A (.call (.ref a) ⟨[u],[]⟩) (CR (cG P w) outer P w H s Q E) s:=by
 obtain⟨pa,pm,ctv,doc,ho⟩:=ho;simp only[XH,bK,eF,beq_iff_eq,mJ,decide_eq_true_eq,bne_iff_ne,ne_eq] at hsc;obtain⟨⟨⟨⟨⟨⟨⟨⟨⟨h1,h2⟩,h3⟩,h4⟩,h5⟩,h6⟩,h7⟩,h8⟩,h9⟩,h10⟩:=hsc;have lim:s.heap.NoLimit:=e0.mod.nolimit.keeps λb o e=>(e0.bs b o e).1;have hfl:l.fr.length=cs.length:=by have:=congrArg mG L.1;simpa using this
 have X:∀z k,cl.lookup z=aA k->∃(i:Nat) (v:V),l.fr[i]?=aA z/\vs[i]?=aA v/\iA H k v:=λz k e=>by
  obtain⟨i,e1,e2⟩:=Vq L e;obtain⟨v,e3,e4⟩:=hcv i k e2;exact⟨i,v,e1,e3,e4⟩
 let env:Env:=newEnv l.sc s.heap.objs.size bE cl (l.qn++".<locals>.") (aA a) (.ref c) aF lr;let Y:Cx:={prog:=P,w:=w,K:=K,mg:=mg,base:=base,A:=A.deeper env,N:=l.y::l.fr,s₀:=s,H₀:=H,env:=env,outer:=outer,stack:=env::outer,ex:=[],fn:=λ_=>aD,calm:=aB,pn:=[],xe:=λ_ _=>False}
 have go:∀(cd:Env->Code) {R:ni->aW->Prop},(∀hh,Inv Y [] (aA x::vs.map aA) H {s with heap:=hh,toks:=s.toks+[(l.y,u)].length}->fE (aR P w) A (cd env) R {s with heap:=hh,toks:=s.toks+[(l.y,u)].length})->
   wpAny (aR P w) A.in1 (lq (Bw l.nm l.qn ⟨[],[⟨l.y,aF,pa⟩],aF,[],[],aF,[]⟩ l.fb l.sc cl doc pm (.ref c) ctv) ⟨[u],[]⟩) (λbinds s₁=>wpAny (aR P w) A.in1 (newFunctionEnv l.sc bE cl binds (l.qn++".<locals>.") (aA a) (.ref c) aF lr) (λenv s₂=>s₂.heap.NoLimit/\fE (aR P w) A (cd env) R s₂) (λe Z=>R (.error e) Z) s₁) (λe Z=>R (.error e) Z) s:=λcd R kk=>by
  refine lQ (oE rfl rfl) (Ee h4 (λz f=>?_) (λhh hns hsb=>?_) h1)
  .rw[c8.mp f];exact h7
  have S:∀b o,s.heap.get? b=aA o->hh.get? b=aA o:=λb o e=>hsb.extBut b o (dF (bW e)) (bN _ e);refine⟨lim.keeps S,kk hh ?_⟩
  refine⟨⟨e0.mod,h1,rfl,rfl,bG _,λy z k q1 q2=>?_,λy hy=>?_,λy k z=>(by cases z),λ_=>hr.hd,tT e0.frames,.inr ⟨rfl,rfl⟩,λb z=>absurd z (by simp[Y]),e0.bs,e0.bsz,λb _ _=>(by simp[Y]),λb z=>absurd z (by simp[Y]),e0.funs,e0.frf⟩,
   rfl,e0.bare,Un.kept S,⟨_,hns,λi y v q1 q2 q3=>?_⟩,λy k q=>?_,e0.hok.fresh (bG _),λy k q=>?_,λp hp=>absurd hp (by simp[Y]),e0.hok.kept S,by simp[Y,hvl,hfl]⟩
  .obtain⟨i1,a1,a2⟩:=Vq L q1;obtain⟨i2,b1,b2⟩:=Vq L q2;have:i1=i2:=by
    obtain⟨l1,g1⟩:=cH.mp a2;obtain⟨l2,g2⟩:=cH.mp b2;exact (pT L.2.1).mp (g1.trans g2.symm)
   rw[this,b1] at a1;exact (bQ a1).symm
  .rcases hy with hy|hy
   .exact absurd rfl (h4 _ (i0 hy))
   .obtain⟨i,hi⟩:=mU.mp (show y∈l.fr by rw[<-h5];exact wK.mpr ⟨_,i0 hy,rfl,rfl⟩);obtain⟨k,e,_⟩:=XT L hi;exact⟨k,e⟩
  .cases i with
   |zero=>
    cases q1;cases q2;exact⟨u,r,.inl ⟨h7,by simp[gE]⟩⟩
   |succ i=>
    have q1:l.fr[i]?=aA y:=q1;obtain⟨k,e1,e2⟩:=XT L q1;obtain⟨v',e3,⟨o,ob,u',k1,k2,k3⟩⟩:=hcv i k e2;have q2:(vs.map aA)[i]?=aA (aA v):=q2;rw[eX,e3] at q2;cases q2;exact⟨u',k3,.inr ⟨.inr (h8 y (cY q1)),k,e1,o,S _ _ (e0.hok k _ k1).1,k2⟩⟩
  .obtain⟨i,v,_,_,⟨o,ob,u',k1,k2,k3⟩⟩:=X y k q;exact⟨aA u',o,S _ _ (e0.hok k _ k1).1,k2⟩
  .obtain⟨i,v,_,_,⟨o,ob,u',k1,k2,k3⟩⟩:=X y k q;exact .inr ⟨rfl,o,ob,k1⟩
 have F:iN Y env outer s.heap.objs.size:=⟨rfl,rfl,rfl⟩;have hr':bU k0 Y.A:=hr.deeper env;have kd:∀z∈l.y::l.fr,gY l.sc z:=λz f=>(dG.mp f).elim (λq=>.inl (by rw[q];exact h7)) λq=>.inr (.inr (h8 z q));have hyf:l.y∉l.fr:=by have:=h6;rw[nI] at this;exact this.1
 have sto0:m6 (Y.wish (XP Y (eI E))) (yy Γ l G).sto:=λz f=>by
  obtain⟨z1,z2⟩:=h_.mp f;have e:z=l.y:=(dG.mp z1).resolve_right λq=>by
   have:(!l.fr.contains z)=aB:=z2;rw[iq.mpr q] at this;cases this
  rw[e];exact⟨.inl h7,.inr h7⟩
 have lcl0:∀z∈l.y::l.fr,l.fr.contains z=aD->l.sc.names.lookup z=aA .local:=λz f hc=>by
  have e:z=l.y:=(dG.mp f).resolve_right λq=>by
   rw[iq.mpr q] at hc;cases hc
  rw[e];exact h7
 have C2:Sk D (eI E) (yy Γ l G) (Y.wish (XP Y (eI E))) k0:={hK:=M.hK,hN:=rfl,nd:=h6,vis:=kd,dbg:=λz f=>⟨beq_eq_false_iff_ne.mpr (h9 z f).1,beq_eq_false_iff_ne.mpr (h9 z f).2⟩,dbG:=λz f=>(M.glo z (iq.mp (h10 z f).1)).2,glb:=λz f=>(h10 z f).2,glo:=λz f=>(M.glo z (iq.mp (h10 z f).1)).1,glU:=M.glo,cel:=λz f=>.inr (h8 z f),isi:=M.isi,fld:=M.fld,xcx:=M.xcx,ocx:=M.ocx,clv:=M.clv,clm:=λ_=>rfl,rom:=λ_=>hr',rmh:=⟨hr'.dp,hr'.un⟩,xe:=λe s p=>wF p,frm:=⟨_,_,_,F.stk,F.f0,F.fe⟩,lam:=cT.no rfl,kfz:=(λh=>by cases h),sto:=sto0,lcl:=lcl0,pso:=λe s p=>jd F (jg p) e s p,xmt:=M.xmt};have sr:aZ D φ α H (aA t::ts.map aA) (aA x::vs.map aA):=by
  refine⟨by simp[dts.length],λi t' e=>?_⟩;cases i with
  |zero=>cases e;exact⟨x,rfl,d⟩
  |succ i=>
   have e:(ts.map aA)[i]?=aA (aA t'):=e;rw[eX] at e;cases q:ts[i]? with
   |none=>rw[q] at e;cases e
   |some t2=>
    rw[q] at e;cases e;obtain⟨v,hv,dv⟩:=dts.get q;exact⟨v,by show (vs.map aA)[i]?=_;rw[eX,hv];rfl,dv⟩
 have U:∀e Z,XP Y (eI E) e Z->wpAny (aR P w) (A.deeper env) (oQ env e) (λ_ O=>CR (cG P w) outer P w H s Q E (.error e) O) (λe' O=>CR (cG P w) outer P w H s Q E (.error e') O) Z:=λe Z p=>Jq (M:=aR P w) (F2:=λe' O=>cG Y.prog Y.w Y.outer Y.H₀ Y.s₀ E e' O) F (jg p) rfl p;rcases hE with⟨hs0,hE⟩|⟨q,ds,hs0,hds,hgq⟩
 .refine PySem.W.kla_callFunE hr.depth ho rfl h2 h3 (show l.fb=.expr l.body by unfold bJ.fb;rw[hs0]) hrec (go (λenv=>.expr l.body env) λhh I=>?_);have B:=(qw HR n).e C2.toCk hE [] _ _ H Q (I.wish _) ⟨φ,α,_,μ,sr,mr,_,_,p,λa C e j H' st m v' dv=>hK0 a C e j H' v' st m dv,λc fs C z j H' cv dd st m ad xd=>hZ0 c fs C z j H' cv dd st m ad xd⟩;refine PySem.W.kla_codeExpr (cR B (λv Z hs=>?_) U);obtain⟨v',H',J,rv,q'⟩:=hs;exact⟨v',H',J.os,J.bare,J.base,J.hok,rv,q'⟩
 .rw[hgq] at p;refine tV hr.depth ho rfl h2 h3 (show l.fb=.stmts q.2 by unfold bJ.fb;rw[hs0]) hrec (go (λenv=>.func q.2 env) λhh I=>?_);have B:=qh (zS (qw HR n) C2 hds) [] _ _ H {nx:=λ_ H'=>Q .non H',rt:=Q} (I.wish _) ⟨φ,α,_,μ,sr,mr,_,p,λ_ μ1 z j H' σ' st m _=>hK0 _ _ z j H' .non st m rfl,λ_ _ z=>z.elim,λ_ _ z=>z.elim,λt μ1 z j H' v st m dv=>hK0 _ _ z j H' v st m dv,λc fs _ μ1 z j H' σ' cv dd st m _ ad xd=>hZ0 c fs μ1 z j H' cv dd st m ad xd⟩;refine sC (cR B (λfl Z hs=>?_) U);cases fl with
  |ret u=>obtain⟨v',σ',H',J,rv,q'⟩:=hs;exact⟨v',H',J.os,J.bare,J.base,J.hok,rv,q'⟩
  |next=>obtain⟨σ',H',J,q'⟩:=hs;exact⟨.non,H',J.os,J.bare,J.base,J.hok,rfl,q'⟩
  |brk=>obtain⟨_,_,_,q'⟩:=hs;exact q'.elim
  |cont=>obtain⟨_,_,_,q'⟩:=hs;exact q'.elim
end
section
variable {X:Cx}{D:DP}{W:XW}{Γ:Cn}{k:Nat}{pins:List (aE×a_)}{s:Shared}{σ:St}{H:Hp}{φ α:List aE}{τ:Sl}{μ:aI}{f:De}{a c:aH}{pos:Pos}
theorem Of(C:Ck D W Γ X k)(hU:uO∈Γ.U)(hg:Γ.gl uO=.kap ls)(hn:(m,n)∈Γ.fld)(hc:Γ.calm=aB)(hp:zI o=aB)(M:(E.endLine==pos.line)=aB)(L:aO a=aB)(ho:PE X o (aV D W go))(ha:PE X a (aV D W f)) :
  PE X (.Call (.Attribute o m E) [a] [] pos) (aV D W (eKap (ls.map λl=>(l.jt,l.g)) n go f)):=by
 have gq:=(C.glU _ hU).1;rw[hg] at gq;rintro J s Y H Q I ⟨F,α,τ,μ,sr,mr,p⟩;rw[ss,zU hp];refine wpAny_bind (aY (sub ho I sr mr p) ?_);rintro u s1 ⟨v,S,t,μ1,i,I1,r1,st1,sr1,mr1,d1,p1⟩;refine wpAny_bind (fF ?_);have N:methodCallForm ([a].length+([]:List iF).length) (eU pos (dC [a] X.env)) (lm pos (lx [] X.env))=aB:=HF (by simp[L]) (by show (1:Nat)<30;decide);have hpos:mH aB o X.env E pos=pure pos:=by unfold mH;simp[M]
 have run:∀{O C0 dx:aE}{gs:List (aG×V)}{z:V}{t0:T},S O=aA (.ins C0 dx gs)->fV X.K C0->b_ X.K C0 m->gs.lookup m=aA z->u=.ref O->a6 D F i S t0 z->aJ D W F i S Y (RV D F Q) (λK Z=>∃p:Nat×(Nat×De)×List T,((ls.map λl=>(l.jt,l.g))[p.1]?=aA p.2.1/\t0=KU p.1 p.2.1.1 p.2.2)/\((f τ μ1).bind λx μ3=>p.2.1.2 (aA x::p.2.2.map aA) μ3) K Z)->
   wpAny (aR X.prog X.w) X.A (nu o m E pos X.env u ([a].length+([]:List iF).length) (eU pos (dC [a] X.env)) (lm pos (lx [] X.env))) (EP X J Y Q) X.xe s1:=λ{O C0 dx gs z t0} e1 cl na lk hu dz p=>by
  subst hu;obtain⟨⟨j,⟨jt,gg⟩,ts⟩,⟨hj,rfl⟩,p2⟩:=p.ex1;rw[eX] at hj;obtain⟨l,hl,e⟩:=gR.mp hj;cases e;obtain⟨fa,kk,rfl,hkk,hF⟩:=gq.1 j l ts F i S z hl dz;unfold nu;rw[N];refine wpAny_bind (wpAny_holding (Jy I1 e1 cl na lk λu' s1' I1' r'=>?_));cases (show u'=b9 fa from r');refine wpAny_bind (lQ hpos ?_);refine PySem.W.callWith_F (first:=[]) (hF X.A X.stack s1' I1'.env0).1 (aY (zj ha zC (z3 L) pos J s1' Y S (λvs R=>∃v t G b,vs=[v]/\aP i S b R/\aL D F b R G/\a6 D F b R t v/\aJ D W F b R Y (RV D F Q) (l.g (aA t::ts.map aA) G)) I1' ⟨F,i,τ,μ1,sr1,mr1,p2.bind.mono λt h B P st m q v d=>⟨v,t,h,B,rfl,st,m,d,q⟩⟩) ?_) (z3 L) rfl;rintro us s2 ⟨vs,R,I2,rv,v2,t2,G,b,rfl,st2,m2,d2,K0,Z0,q6,k1,k2⟩;obtain⟨ux,rfl,rx⟩:=vals1 rv;obtain⟨fa',kk',e',hkk',hF'⟩:=gq.1 j l ts F b R _ hl (dz.step st2);cases e';have hE:=hF' X.A X.stack s2 I2.env0;refine⟨hE.1,hO (iS (hE.2 ((C.rom hc).mono hkk') ux v2 Q t2 G K0 Z0 (λcv d P=>W cv d Y P) rx d2 m2 q6 (λt' h z B P v' st m dv=>k1 t' h z B P st m v' dv) (λc fs h z B P cv d st m ad xd=>k2 c fs h z B P cv d st m ad xd)) λr s' hq=>?_)⟩;cases r with
  |error e=>exact C.xe _ _ (xJ I2 hq λcls d P q=>q)
  |ok fl=>
   cases fl with
   |ret u=>exact I2.after hq
   |next=>exact dL hq
   |brk=>exact dL hq
   |cont=>exact dL hq
 unfold yi at p1;split at p1
 .split at p1
  .rename_i c fs _ w hw;obtain⟨ad,C0,dx,gs,rfl,_,_,e1,e2,l⟩:=d1;obtain⟨y,z,hy,hz,dz⟩:=l.look hw;obtain⟨c0,c1,c2⟩:=C.fld c C0 m n e1 hn;rw[hy] at c0;cases c0;exact run e2 c1 c2 hz r1 dz p1
  .exact aJ.elim p1
 .obtain⟨c,fs,w,hi,hw,q⟩:=aJ.ex3 p1;obtain⟨ad,hi',rfl⟩:=d1;obtain⟨C0,dx,gs,e1,e2,l⟩:=mr1.ob _ ad _ hi' hi;obtain⟨y,z,hy,hz,dz⟩:=l.look hw;obtain⟨c0,c1,c2⟩:=C.fld c C0 m n e1 hn;rw[hy] at c0;cases c0;exact run e2 c1 c2 hz r1 dz q
 .exact aJ.elim p1
end
noncomputable def AX (ls:List bJ)(tbs:List (aE×List Pos×aG)):Nat->aE->Option HO->List V->Prop:=λn a b xs=>
 (∃(j:Nat) (l:bJ) (c:aE) (cl:List (aG×aE)) (cs:List aE),ls[j]?=aA l/\n=300+j/\Yz l.fr cl cs/\xs=.ref c::cs.map V.ref/\b=aA (.ext (xH a c l cl)))\/
 (n=200/\∃(x:V) (u:aC) (o:a_) (d:HO),xs=[x]/\RelV x u/\o.data=.cell (aA u)/\b=aA (.frz o d))\/
 ∃(j:Nat) (q:aE×List Pos×aG),tbs[j]?=aA q/\j<100/\n=100+j/\xs=[]/\b=aA (.ext (qt a q.2.2))
section
variable {P:Program}{w:World}{K:PySem.W.Frag}{mg:aG->Option aC}{base:aT}{n k0:Nat}
theorem Pu{x:aG}{Γ:Cn}{G:bJ->List aG}(HR:∀{D:DP},b8 D R)(hb:tbs.length<=100)(I:∀l∈ls,(tbs[l.jt]?).map (·.2.2)=aA l.qn)
  (M:fD (mf K A0 (AX ls tbs) λj=>tbs[j]?) P w K mg base Γ k0) (h:∀l∈ls,XH (yy Γ l (G l)) l=aB/\A5 R n (yy Γ l (G l)) l):cU (mf K A0 (AX ls tbs) λj=>tbs[j]?) P w K mg base (k0+1) x (.kap ls):=by
 have Y:∀{j:Nat}{l:bJ},ls[j]?=aA l->∃X b,tbs[l.jt]?=aA (X,b,l.qn):=λ{j l} e=>by
  obtain⟨⟨p1,p2,p3⟩,q1,y⟩:=gR.mp (I l (cY e));cases y;exact⟨p1,p2,q1⟩
 have lt:∀{j:Nat}{q:aE×List Pos×aG},tbs[j]?=aA q->j<100:=λe=>dI (cH.mp e).1 hb;refine⟨λj l ts φ α H v L d=>?_,⟨λj l e=>Y e,λj l a c cl cs e h=>.inl ⟨j,l,c,cl,cs,e,rfl,h,rfl,rfl⟩,λc o u x F h1 V=>.inr (.inl ⟨rfl,x,u,o,F,rfl,V,h1,rfl⟩),λj X b qn c e=>.inr (.inr ⟨j,_,e,lt e,rfl,rfl,rfl⟩)⟩⟩;obtain⟨a,F,xs,rfl,S,J,v,q,hv,⟨c,C,xs2,k,O,i,_⟩,dl⟩:=d;rcases S with⟨j',l',c',cl,cs,e1,e2,W,e3,rfl⟩|⟨z,_⟩|⟨j',q',_,hj',z,_⟩
 .have:j=j':=by lia
  subst this;rw[L] at e1;cases e1;rw[hv] at e3;injection e3 with e4 e5;rw[e4] at k;cases k;subst e5;have f:C=aA (.ext (qt c l.qn)):=by
   obtain⟨X,Z,hq⟩:=Y L;have:=lt hq;rcases O with⟨m,_,_,_,_,_,z,_⟩|⟨z,_⟩|⟨m,y,g,_,z,_,e⟩
   .lia
   .lia
   .have:l.jt=m:=by lia
    subst this;rw[hq] at g;cases g;exact e
  subst f;refine⟨a,k0+1,rfl,bG _,λA B s e0=>?_⟩;have ha:=(J _ rfl).2.2;have N:=(i _ rfl).2.2;obtain⟨np,_⟩:=(show a8 P w H s.heap a (.ext (xH a c l cl)) from e0.hok a _ ha);obtain⟨cr,_⟩:=(show a8 P w H s.heap c (.ext (qt c l.qn)) from e0.hok c _ N);refine⟨?_,λhr u x Q t μ K0 Z0 E r dx mr p U T=>?_⟩
  .obtain⟨_,_,_,_,V⟩:=np;exact⟨_,_,_,_,V⟩
  .obtain⟨vs,h3,h4,h5⟩:=QS (λc F xs S=>by
    rcases S with⟨m,_,_,_,_,_,z,_⟩|⟨_,z⟩|⟨m,y,_,z2,z,_⟩
    .lia
    .exact z
    .lia) dl
   obtain⟨g1,g2⟩:=h l (cY L);exact Tb HR M g1 g2 hr e0 np cr W h3 h4 h5 r dx mr p U T
 .lia
 .lia
end
noncomputable def rM (e:aH):Option (aG×Pos×aG×Pos×aG×Pos×Pos):=(yO e).bind λq=>(oa q.o).bind λo=>(ZQ q.as).bind λa=>(oa a).bind λy=>aA (o.1,o.2,q.m,q.pa,y.1,y.2,q.pc)
theorem Hy(h:rM e=aA w):e=.Call (.Attribute (.Name w.1 w.2.1) w.2.2.1 w.2.2.2.1) [.Name w.2.2.2.2.1 w.2.2.2.2.2.1] [] w.2.2.2.2.2.2:=by
 obtain⟨q,f,h⟩:=aS h;obtain⟨o,d,h⟩:=aS h;obtain⟨a,c,h⟩:=aS h;obtain⟨y,b,h⟩:=aS h;cases h;rw[wI f,V3 d,we c,V3 b]
noncomputable def IJ (a b:aH):Bool:=(rM a).isSome&&(rM a==rM b)
theorem OS(h:IJ a b=aB):a=b:=by
 obtain⟨d,c⟩:=zp h;obtain⟨w,hw⟩:=pX.mp d;have c:=beq_iff_eq.mp c;rw[Hy hw,Hy (c.symm.trans hw)]
noncomputable def Y1(y:aG)(body:aH)(sc:Scope):List bJ->Nat->Option (Nat×bJ)
 |[],_=>aF
 |l::r,i=>match l.sb.isNone&&l.y==y&&l.sc==sc&&IJ l.body body with
  |true=>aA (i,l)
  |false=>Y1 y body sc r (i+1)
theorem Jl{body:aH}:∀{ls:List bJ}{i j:Nat},Y1 y body sc ls i=aA (j,l)->i<=j/\ls[j-i]?=aA l/\l.y=y/\l.sc=sc/\l.body=body/\l.sb=aF
 |[],_,_,h=>by cases h
 |l'::r,i,j,h=>by
  unfold Y1 at h;split at h
  .rename_i q;cases h;simp only[bK,beq_iff_eq] at q;exact⟨bG _,by simp,q.1.1.2,q.1.2,OS q.2,by simpa using q.1.1.1⟩
  .obtain⟨c,b,a⟩:=Jl h;refine⟨by lia,?_,a⟩;rw[show j-i=(j-(i+1))+1 by lia,tL];exact b
noncomputable def Ac:GM->Option (List bJ)
 |.kap a=>aA a
 |_=>aF
theorem XD(h:Ac g=aA ls):g=.kap ls:=by
 cases g<;>first|(cases h;rfl)|cases h
noncomputable def Bk:ER:=λr a e=>(AW e).bind λq=>(Ac (a.gl uO)).bind λb=>(Y1 q.1 q.2.1 q.2.2.1 b 0).bind λz=>a.lam.bind λp=>(j2 a.N z.2.fr).bind λfs=>
 gd (a.lnm==("<lambda>":aG)&&a.U.contains uO&&p.1==z.2.jt&&decide (q.2.2.2∈p.2)&&frees z.2.sc==z.2.fr&&decide (z.2.fr.Nodup)&&z.2.fr.all (λx=>a.fz.contains x&&a.cel.contains x)) (aA (eLamC z.2.jt z.1 fs))
theorem S2:cA D Bk:=by
 intro r H X W B k e d C h;unfold Bk at h;obtain⟨q,m,h⟩:=aS h;obtain⟨F,i,h⟩:=aS h;obtain⟨⟨j,l⟩,g,h⟩:=aS h;obtain⟨⟨G,a⟩,f,h⟩:=aS h;obtain⟨fs,c,h⟩:=aS h;obtain⟨b,h⟩:=z8 h;cases h;simp only[bK,beq_iff_eq,decide_eq_true_eq,eF,iq] at b;obtain⟨⟨⟨⟨⟨⟨A,z⟩,y⟩,x⟩,w⟩,v⟩,u⟩:=b;obtain⟨E,rfl⟩:=Rl m;obtain⟨_,t,s,p,o,n⟩:=Jl g;subst y;rw[<-s,<-p,<-o];exact Rn C n A f x z (XD i) (by simpa using t) w v u c
noncomputable def Gf:ER:=λr b e=>(yO e).bind λq=>(ZQ q.as).bind λa=>(Ac (b.gl uO)).bind λc=>gd (zI q.o&&q.pa.endLine==q.pc.line) (gd (b.calm&&aO a) (gd (b.U.contains uO&&q.m==("keeper":aG)) ((r.e b q.o).bind λgo=>(r.e b a).bind λf=>(b.fld.lookup q.m).bind λn=>aA (eKap (c.map λl=>(l.jt,l.g)) n go f))))
theorem Rq:cA D Gf:=by
 intro r H X W s k e d C h;obtain⟨q,l,h⟩:=aS h;obtain⟨a,g,h⟩:=aS h;obtain⟨t,j,h⟩:=aS h;obtain⟨c,h⟩:=z8 h;obtain⟨b,h⟩:=z8 h;obtain⟨i,h⟩:=z8 h;obtain⟨go,p,h⟩:=aS h;obtain⟨f,o,h⟩:=aS h;obtain⟨n,m,h⟩:=aS h;cases h;rw[wI l,we g];exact Of C (by simpa using (zp i).1) (XD j) (uu m) (zp b).1 (zp c).1 (zp c).2 (zp b).2 (H.e C p) (H.e C o)
end NH
namespace NH
open PySem PySem.Spec PyProof.Rows L2 PySem.W
noncomputable def zo (K:Frag)(x:aG)(st:bB):Prop:=∃f fd,nsIn K bE x=aA (aA (.ref f))/\mn K x x st f fd
noncomputable def qC (K:Frag)(C:aE)(x q:aG)(st:bB):Prop:=∃f fd,cD K (.ref C) x=aA (aA (.ref f))/\isFn K (.ref f)=aB/\mn K x q st f fd
noncomputable def Qb (K:Frag)(C:aE)(x q:aG)(st:bB):Prop:=∃f fd,nsIn K bE x=aA (aA (.ref C))/\cD K (.ref C) "__init__"=aA (aA (.ref f))/\isFn K (.ref f)=aB/\mn K "__init__" q st f fd/\nk K C=aB/\dU K (.ref C)=aB
theorem dfp{K:Frag}{x:aG}{st:bB}{f:aE}{g:aC}{od an:Option aE}{d:Array (Option aC)}{kV doc e b ct:aC}(a:nsIn K bE x=aA (aA (.ref f)))(l:K.lookup f=aA ⟨g,od,.func (fnOf x x (zm st) (z0 st) (zc st) .none kV doc e an b ct),d⟩)(c:eD K b x=aB)(k:dU K (.ref f)=aB):zo K x st:=⟨f,_,a,j3 l c k⟩
theorem mtp{K:Frag}{x q:aG}{st:bB}{f C:aE}{g:aC}{od an:Option aE}{d:Array (Option aC)}{kV doc e b ct:aC}(a:cD K (.ref C) x=aA (aA (.ref f)))(j:isFn K (.ref f)=aB)(l:K.lookup f=aA ⟨g,od,.func (fnOf x q (zm st) (z0 st) (zc st) .none kV doc e an b ct),d⟩)(c:eD K b q=aB)(k:dU K (.ref f)=aB):qC K C x q st:=⟨f,_,a,j,j3 l c k⟩
theorem clp {K:Frag}{x q:aG}{st:bB}{f C:aE}{g:aC}{od an:Option aE}{d:Array (Option aC)}{kV doc e b ct:aC}(a:nsIn K bE x=aA (aA (.ref C))) (i:cD K (.ref C) "__init__"=aA (aA (.ref f))) (j:isFn K (.ref f)=aB) (l:K.lookup f=aA ⟨g,od,.func (fnOf "__init__" q (zm st) (z0 st) (zc st) .none kV doc e an b ct),d⟩) (c:eD K b q=aB) (k:dU K (.ref f)=aB) (m:nk K C=aB) (kk:dU K (.ref C)=aB):Qb K C x q st:=⟨f,_,a,i,j,j3 l c k,m,kk⟩
noncomputable def PL:Nat->(List aC->Prop)->Prop
 |0,P=>P []
 |n+1,P=>∀a,PL n λl=>P (a::l)
theorem PL.all:∀{n:Nat}{P:List aC->Prop},PL n P->∀us:List aC,us.length=n->P us
 |0,_,h,[],_=>h
 |_+1,_,h,a::l,e=>PL.all (h a) l (si e)
noncomputable abbrev k9(st:bB):List aG:=(zm st).args.map (·.arg)
abbrev Cq(x q:aG)(st:bB)(ps:List aG):Prop:=∀(kV a d:aC) (an:Option aE) (b ct:aC),PL ps.length λc=>lq (fnOf x q (zm st) (z0 st) (zc st) .none kV a d an b ct) ⟨c,[]⟩=pure (ps.zip c)
abbrev GsB(l:mq)(w:cX)(K:Frag)(mg:aG->Option aC)(base:aT)(k:Nat)(gs:List (aG×GM)){A:iB}{clo:Nat->aE->Option HO->List V->Prop}{tabs:Nat->Option (aE×List Pos×aG)}:Prop:=a7 l.prog w K mg base A clo k gs tabs
structure Pk(R:cK)(K:Frag)(mg:aG->Option aC)(base:aT)(A:iB)(cls fld:List (aG×Nat)):Prop where
 r:∀{D},b8 D R
 i:K.In base
 n:base.Ns bE mg
 c:chk K A cls fld=aB
section
variable {R:cK}{P:Program}{w:World}{K:Frag}{mg:aG->Option aC}{base:aT}{A:iB}{cls fld:List (aG×Nat)}{clo:Nat->aE->Option HO->List V->Prop}{gs:List (aG×GM)}{tabs:Nat->Option (aE×List Pos×aG)}{k:Nat}{x qu:aG}{st:bB}{f C:aE}{fd:FuncData}{ps N G cel own:List aG}{m n:Nat}{ds:List Ds}
theorem Pk.ok(Z:Pk R K mg base A cls fld)(F:mn K x qu st f fd)(q:a7 P w K mg base A clo k gs tabs)(a:z9 ((aN R n).s (cn cls fld gs N G cel own aF)) (z0 st)=aA ds)(hs:JG (cn cls fld gs N G cel own aF) ps (zc st)=aB)(e:N.length=ps.length+m) :
  bI P w K mg base (cG P w) (k+1) f fd ps (dY (mf K A clo tabs) ps.length (bA ps.length m ds)):=by
 obtain⟨j,od,kV,doc,h,an,g,ct,d,rfl,lk,b⟩:=F.ex;exact kS Z.r (Zq Z.i Z.n Z.c q) lk b hs e a
theorem Pk.fn (Z:Pk R K mg base A cls fld) (p:zo K x st) (q:a7 P w K mg base A clo k gs tabs) (b:z9 ((aN R n).s (cn cls fld gs N G cel own aF)) (z0 st)=aA ds) (hs:JG (cn cls fld gs N G cel own aF) (k9 st) (zc st)=aB) (d:N.length=(k9 st).length+m) (e:Cq x x st (k9 st)) (hx:(x==("__debug__":aG))=aD) :
  a7 P w K mg base A clo (k+1) ((x,GM.fn (bA (k9 st).length m ds))::gs) tabs:=by
 obtain⟨f,fd,a,F⟩:=p;exact a7.add (q.mono (iW k)) ⟨f,bY Z.i Z.n a,fd,(k9 st),k+1,F.kp,F.binds λkV dc c an cd ct=>(e kV dc c an cd ct).all,bG _,Z.ok F q b hs d,qy⟩ hx
theorem Pk.met {c:Nat}{ky:aG}(Z:Pk R K mg base A cls fld) (p:qC K C x qu st) (q:a7 P w K mg base A clo k gs tabs) (a:z9 ((aN R n).s (cn cls fld gs N G cel own aF)) (z0 st)=aA ds) (b:A.cs.lookup c=aA C) (e:(iz.contains x)=aD) (hs:JG (cn cls fld gs N G cel own aF) (k9 st) (zc st)=aB) (g:N.length=(k9 st).length+m) (l:Cq x qu st (k9 st)) (hx:(ky==("__debug__":aG))=aD) :
  a7 P w K mg base A clo (k+1) ((ky,GM.met c x (bA (k9 st).length m ds))::gs) tabs:=by
 obtain⟨f,fd,i,j,F⟩:=p;refine a7.add (q.mono (iW k)) ⟨C,f,fd,(k9 st),k+1,b,xU Z.c b,⟨i,j,F.kp⟩,λi h=>?_,F.binds λkV dc d an cd ct=>(l kV dc d an cd ct).all,bG _,Z.ok F q a hs g,qy⟩ hx;have:=iq.mpr (cY (show iz[i]?=aA x from h));rw[e] at this;cases this
theorem Pk.cl {c:Nat}{b:Bool}(Z:Pk R K mg base A cls fld) (p:Qb K C x qu st) (q:a7 P w K mg base A clo k gs tabs) (d:z9 ((aN R n).s (cn cls fld gs N G cel own aF)) (z0 st)=aA ds) (h:A.cs.lookup c=aA C) (hs:JG (cn cls fld gs N G cel own aF) (k9 st) (zc st)=aB) (g:N.length=(k9 st).length+m) (l:Cq "__init__" qu st (k9 st)) (hx:(x==("__debug__":aG))=aD) :
  a7 P w K mg base A clo (k+2) ((x,GM.mk c b (bA (k9 st).length m ds))::gs) tabs:=by
 obtain⟨f,fd,a,i,j,F,mk,kk⟩:=p;exact a7.add (q.mono (Db k 2)) ⟨C,f,fd,(k9 st),k+1,h,bY Z.i Z.n a,⟨mk,i,j,kk⟩,F.binds λkV dc e an cd ct=>(l kV dc e an cd ct).all,bG _,Z.ok F q d hs g,qy⟩ hx
end
end NH
namespace NH
open PySem PySem.Spec PyProof.Rows L2
noncomputable def sIx(l:List bB)(i:Nat):bB:=l.getD i (.Pass ⟨0,0,0,0⟩)
noncomputable def ME:bB->aH
 |.Assign _ e _=>e
 |.Return (aA e) _=>e
 |.Expr e _=>e
 |_=>.Name "" ⟨0,0,0,0⟩
noncomputable def LX(e:aH)(i:Nat):aH:=match e with
 |.Call _ a _ _=>a.getD i e
 |_=>e
noncomputable def Mq:aH->aH
 |.Lambda _ b _ _=>b
 |e=>e
noncomputable def Mx:aH->Scope
 |.Lambda _ _ s _=>s
 |_=>⟨.function,[],aD,aD,[]⟩
noncomputable def gL {β:Type}(P:β->Prop):List β->Prop
 |[]=>True
 |a::r=>P a/\gL P r
theorem gL.mem{P:β->Prop}:∀{ls:List β},gL P ls->∀l∈ls,P l
 |[],_,_,h=>absurd h (by simp)
 |a::r,q,l,h=>(dG.mp h).elim (λe=>e▸q.1) λh=>gL.mem q.2 l h
theorem MZ{P:bZ}{K:bH}{F:List aG}(M:fD D P w K mg base Γ k):fD D P w K mg base {Γ with fz:=F} k:=⟨M.hK,M.glo,M.isi,M.fld,M.xcx,M.ocx,M.clv,M.xmt⟩
theorem Ow{R:cK}{D:DP}{P:bZ}{w:cX}{K:bH}{mg:aG->Option aC}{base:aT}{Γ:Cn}{n k:Nat}(o:b8 D R){f:aE}{name qual:aG}{params:Arguments}{body:List bB}{scope:Scope}{i kV doc h a ct j:aC}{an od:Option aE}{c:Array (Option aC)}{ps:List aG}{m cut:Nat}{ds:List Ds}
  (M:fD D P w K mg base Γ k) (lk:K.lookup f=aA ⟨j,od,.func (eE name qual params body scope i kV doc h an a ct),c⟩) (g:eD K a qual=aB) (hs:JG Γ ps scope=aB) (l:Γ.N.length=ps.length+m) (e:z9 ((aN R n).s {Γ with fz:=[]}) (body.take cut)=aA (ds.take cut)) (d:z9 ((aN R n).s Γ) (body.drop cut)=aA (ds.drop cut)) (b:cT D mg base a (qual++".<locals>.") k Γ.lam Γ.lnm) :
  bI P w K mg base (cG P w) (k+1) f (eE name qual params body scope i kV doc h an a ct) ps (dY D ps.length (bA ps.length m ds)):=by
 have:=V_ o M lk g hs l (mS cut body).symm e d b;rwa[mS] at this
noncomputable abbrev intXT(t:T)(a:aI):RE T:=match t with
 |.int i=>.ok (.int i) a
 |.bl b=>.ok (.int (if b then 1 else 0)) a
 |.str x=>.grd (x.length<=640) (.som (intText? x) λn=>.ok (.int n) a)
 |_=>.st
noncomputable abbrev zcl(x y:T)(a:aI):RE T:=match x with
 |.str x=>(match y with
  |.int n=>.grd (x.length=1/\1<n/\n<=1000) (.ok (.str (Txt.mul x n)) a)
  |_=>.st)
 |_=>.st
noncomputable def yt(x:aG):List (aG×Int)->T
 |[]=>.non
 |p::r=>if p.1=x then .int p.2 else yt x r
noncomputable abbrev MP(a:List (aG×Int))(t:T)(b:aI):RE T:=match t with
 |.str x=>.ok (yt x a) b
 |_=>.st
noncomputable abbrev eGetC(a:List (aG×Int))(f:De):De:=λb c=>(f b c).bind (MP a)
noncomputable abbrev Mg(o f g:De):De:=λa h=>(o a h).bind λi d=>match i with
 |.dic e=>(f a d).bind λj c=>(g a c).bind λdt b=>match j with
  |.str z=>.ok ((w5 (.inr z) e).getD dt) b
  |_=>.st
 |_=>.st
section
variable {X:Cx}{D:DP}{W:XW}{Γ:Cn}{k:Nat}{pins:List (aE×a_)}{s:Shared}{σ:St}{H:Hp}{φ α:List aE}{τ:Sl}{μ:aI}{f g:De}{a b:aH}
theorem OU:B1 X D W (.type "int") intXT:=by
 intro a s c H h j i t v u Q I b d r p;unfold intXT at p;split at p
 .cases d;exact W4 a s c H _ _ Q I (.cons r .nil) (.inl ⟨_,rfl,p.here b rfl⟩)
 .cases d;exact W4 a s c H _ _ Q I (.cons r .nil) (.inr ⟨_,rfl,p.here b rfl⟩)
 .rename_i x;obtain⟨g,p1⟩:=p.grd;obtain⟨n,f,e⟩:=p1.som;have d:v=.str x:=d;subst d;obtain⟨k,rfl⟩:=r;exact LC f g ⟨.int n,H,I.tok _,⟨_,rfl⟩,e.here b rfl⟩
 .exact p.elim
noncomputable def Gx:ER:=iL "int" intXT aD
theorem T2:cA D Gx:=vb λC a c _ b d=>VF C a c (by decide +kernel) (by decide) b OU d
theorem S9:∀{a:List (aG×Int)},(yh (a.map λp=>((.inr p.1:Key),V.int p.2)) (.inr x)).getD .non=(match yt x a with|.int i=>V.int i|_=>V.non):=by
 intro a;induction a with
 |nil=>rfl
 |cons p r ih=>
  unfold yt;by_cases e:p.1=x
  .rw[if_pos e,eW,kM (p:=((.inr p.1:Key),V.int p.2)) (by rw[e])];rfl
  .rw[if_neg e,eW,xR (p:=((.inr p.1:Key),V.int p.2)) (λz=>e (r_ z))];exact ih
theorem QE:∀{a:List (aG×Int)},a6 D φ α H (yt x a) (match yt x a with|.int i=>V.int i|_=>V.non)
 |[]=>rfl
 |p::r=>by
  unfold yt;by_cases e:p.1=x
  .rw[if_pos e];rfl
  .rw[if_neg e];exact QE
theorem Rj(C:Ck D W Γ X k)(hx:x∈Γ.G)(R:Γ.gl x=.tbl j)(hs:aO a=aB)(c:(pa.endLine==pc.line)=aB)(S:PE X a (aV D W f)) :
  PE X (.Call (.Attribute (.Name x p0) "get" pa) [a] [] pc) (aV D W (eGetC j f)):=by
 have r:dC [a] X.env=[(aD,eval a X.env)]:=z3 hs;have m:M1 X (.Name x p0) "get" pa a pc:=⟨zU rfl,by rw[r];rfl,c,by rw[r];rfl⟩;have q:=C.glo x hx;rw[R] at q;obtain⟨ad,vs,P,T,O,u⟩:=q;rintro n s σ H Q I ⟨Z,α,τ,μ,K,N,p⟩;refine wpAny_Call_method m.base m.few m.line PySem.F.plainAttrs_dict El PySem.F.type_dict_get (zR I (C.glb x hx) P ?_ (C.dbG x hx));have dd:=u _ I.kIn;refine⟨dd.typeIs,λb e=>?_,?_⟩
 .cases e;obtain⟨M,_,_,V,U,_⟩:=dd;exact⟨M,V,U.2.1⟩
 .rw[m.trees];refine tH rfl (mR (l9 (aY (sub S I K N p) ?_)));rintro iv s2 ⟨v,Y,t,A,B,y,L,E,J,h,i,o⟩;refine pE ?_;cases t with
  |str z=>
   have i:v=.str z:=i;subst i;have g:=u _ y.kIn;refine call_meetsIn El g.typeIs PySem.F.entry_dict_get (PySem.F.args_dict_get_2 _ _) (meets_dict_get (zz X.prog X.w) ad (JC (k:=.inr z) L) T) ⟨_,g.mapOf,?_⟩;have l:=(KV.val O (.inr z)).getD (d:=.non) (d':=.none) rfl;rw[S9] at l;exact⟨_,Y,y.tok _,l,aJ.here o h QE⟩
  |_=>exact aJ.elim o
noncomputable def FL:GM->Option (List (aG×Int))
 |.tbl a=>aA a
 |_=>aF
theorem RR{g:GM}(h:FL g=aA q):g=.tbl q:=by cases g<;>first|(cases h;rfl)|cases h
noncomputable def G4:ER:=λr Γ e=>(yO e).bind λq=>(oa q.o).bind λx=>(ZQ q.as).bind λa=>gd (q.m==("get":aG)) (gd ((b7 Γ.N x.1).isNone&&aO a) (gd (q.pa.endLine==q.pc.line) ((r.e Γ a).bind λf=>(FL (Γ.look x.1)).bind λb=>aA (eGetC b f))))
theorem UM:cA D G4:=by
 intro r H X W t k e d C h;obtain⟨q,s,h⟩:=aS h;obtain⟨x,p,h⟩:=aS h;obtain⟨a,o,h⟩:=aS h;obtain⟨n,h⟩:=z8 h;obtain⟨m,h⟩:=z8 h;obtain⟨l,h⟩:=z8 h;obtain⟨f,j,h⟩:=aS h;obtain⟨b,g,h⟩:=aS h;cases h;rw[wI s,V3 p,we o,qp n];obtain⟨c,i⟩:=qL (RR g) (by intro z;cases z);exact Rj C c i (zp m).2 l (H.e C j)
end
noncomputable def zck:ER:=λr b e=>match e with
 |.Call (.Attribute (.Dict i d p) m k) [a,c] [] j=>gd (m==("get":aG)&&aO a&&aO c) ((r.e b (.Dict i d p)).bind λf=>(r.e b a).bind λg=>(r.e b c).bind λh=>aA (Mg f g h))
 |_=>aF
noncomputable def Af(w:cX):List oX->List (aG×Int)->Prop
 |[],[]=>True
 |e::r,p::q=>(∃t u,e=⟨iQ w p.1,.str p.1 t,.int p.2 u⟩)/\Af w r q
 |_,_=>False
theorem Y5{P:bZ}:∀{es:List oX}{a:List (aG×Int)},Af w es a->∃vs,KV (a.map λp=>((.inr p.1:Key),V.int p.2)) vs/\Pairs (zz P w) es vs/\vs.map (·.1)=a.map (λp=>(.inr p.1:Key))/\∀e∈es,∃k,(zz P w).is k e.key=aB/\e.hash=(zz P w).hash k
 |[],[],_=>⟨[],.nil,.nil,rfl,by simp⟩
 |e::r,p::q,h=>by
  obtain⟨⟨t,u,rfl⟩,h⟩:=h;obtain⟨vs,i,g,f,d⟩:=Y5 (P:=P) h;have c:(zz P w).is (.inr p.1) (.str p.1 t)=aB:=QZ p.1 t;refine⟨(.inr p.1,.int p.2 u)::vs,.cons ⟨rfl,u,rfl⟩ i,.cons c rfl g,by rw[eW,eW,f],λe b=>?_⟩;rcases dG.mp b with rfl|b
  .exact⟨_,c,rfl⟩
  .exact d e b
 |[],_::_,h=>h.elim
 |_::_,[],h=>h.elim
theorem N_{P:bZ}{K:bH}(g:mg x=aA (.ref a))(hs:(a==hY)=aD)
  (lk:K.lookup a=aA {cls:=.type "dict",data:=.dict es ep}) (f:Af w es.toList d) (nd:(d.map (·.1)).Nodup):cU D P w K mg base k x (.tbl d):=by
 obtain⟨c,o,m,l,j⟩:=Y5 (P:=P) f;refine⟨a,c,g,hs,o,λh b=>⟨_,es,ep,b _ _ lk,⟨rfl,rfl,rfl⟩,rfl,λe i=>j e (Ek.mpr i),m,?_⟩⟩;rw[l,EC,nR];have nd:=EC.mp nd;rw[nR] at nd;exact IY (λ{p q} n e=>n (r_ e)) nd
noncomputable abbrev n9:Key->T
 |.inl i=>.int i
 |.inr z=>.str z
noncomputable def QI(b:aI)(i:Nat)(a:List (Key×T)):Prop:=b[i]?=aA (.dic a)\/∃ep,b[i]?=aA (.frd ep a)
abbrev B4(i ep:Nat)(a:List (Key×T)):aI->Prop:=λb=>b[i]?=aA (.frd ep a)
noncomputable abbrev iD(f:De):Di:=λc d=>(f c d).it λt b=>match t with
 |.mut i=>λK _=>∃a,QI b i a/\∀ep,K (a.map λp=>n9 p.1) (B4 i ep a) (b.set i (.frd ep a))
 |_=>RI.st
noncomputable abbrev lenK(t:T)(b:aI):RE T:=match t with
 |.mut i=>λK _=>∃a,QI b i a/\K (.int a.length) b
 |_=>.st
noncomputable abbrev ixKT(x y:T)(b:aI):RE T:=match x,y with
 |.mut i,.str z=>λK _=>∃a v,QI b i a/\w5 (.inr z) a=aA v/\K v b
 |_,_=>.st
noncomputable def IS (a:aE)(ep n:Nat):It:=⟨λi H=>∃gs p,H a=aA (.dE ep gs)/\gs.length=n/\gs[i]?=aA p,λi H x b=>b=H/\∀gs,H a=aA (.dE ep gs)->∃p,gs[i]?=aA p/\x=kV p.1,λi H=>∃gs,H a=aA (.dE ep gs)/\gs.length=n/\gs.length<=i⟩
theorem Na{P:bZ}(h:(zz P w).is k u=aB):RelV (kV k) u:=by
 cases k with
 |inl i=>exact CY (show sd i u=aB from h)
 |inr x=>exact CG (show sy x u=aB from h)
theorem U2{P:bZ}{K:bH}(a it:aE)(ep n:Nat):fC P w K tg (IS a ep n) [it] it (λi h=>h.IsKeyIter it a i n ep) where
 mem:=by simp
 obj:=λi h st b j=>by
  have e:b=it:=by simpa using j
  subst e;obtain⟨o,e,c,d⟩:=st;exact⟨o,e,λv z=>by rw[d] at z;cases z⟩
 keep:=λi h x st k=>st.at λo e=>k it (by simp) o e
 item:=by
  intro X B hw C O i g s M H E I u st A;subst B hw C;obtain⟨gs,p,e,rfl,t⟩:=A;obtain⟨z,hd,f,rel,da⟩:=(show a8 X.prog X.w H s.heap a (.dE ep gs) from I.hok a _ e);have q:gs.length=f.length:=rel.length;obtain⟨L,J,V,G,F,D⟩:=u it (by simp);have N:i<f.length:=by rw[<-q];exact (cH.mp t).1
  have S:f[i]?=aA (f[i].1,f[i].2):=by rw[ir N]
  have T:p.1=f[i].1:=by
   have:=congrArg (λl:List Key=>l[i]?) rel.keys;simp only[eX,t,ir N,pI,pA] at this;exact this
  rw[q] at st;refine wpAny_pyNext_dict_item st da S λy x r m R=>?_;have Y:Inv X g M H {s with heap:=x}:=I.turned (t':=s.toks) (λb o j e=>(R.2 b j).trans e) L J G F D;obtain⟨o,eo,c,d⟩:=id m;exact⟨y,rfl,yG (s:={s with heap:=x}) eo c d (by decide) ⟨kV p.1,H,Y,by rw[T];exact Na r,⟨rfl,λU Q=>by rw[e] at Q;cases Q;exact⟨p,t,rfl⟩⟩,by rw[q];exact m,λb j=>(u b j).1⟩⟩
 done:=by
  intro X B hw C O i g s M H E I u st A;subst B hw C;obtain⟨gs,e,rfl,t⟩:=A;obtain⟨z,hd,f,rel,da⟩:=(show a8 X.prog X.w H s.heap a (.dE ep gs) from I.hok a _ e);have q:gs.length=f.length:=rel.length;obtain⟨L,J,V,G,F,D⟩:=u it (by simp);rw[q] at st;exact wpAny_pyNext_dict_end (I.ok.hd O) st da (mT (by lia)) λx eb=>⟨rfl,I.turned (t':=s.toks) (λb o j e=>eb b o j e) L J G F D⟩
 self:=λ_ _ _ _ _ st h=>wpAny_pyIter_keyiter st h
section
variable {X:Cx}{D:DP}{W:XW}{Γ:Cn}{k:Nat}{pins:List (aE×a_)}{s:Shared}{σ:St}{H:Hp}{φ α:List aE}{τ:Sl}{μ:aI}{f g:De}{a b tg:aH}{pos:Pos}
theorem Yk:∀{a:List (Key×T)}{gs:List (Key×V)},bF D φ α H a gs->∀{i:Nat}{p:Key×V},gs[i]?=aA p->∃q:Key×T,a[i]?=aA q/\q.1=p.1
 |[],_,h,i,p,e=>by cases h;cases e
 |q::r,_,h,i,p,e=>by
  obtain⟨v,gr,rfl,d,l⟩:=h;cases i with
  |zero=>cases e;exact⟨q,rfl,rfl⟩
  |succ i=>exact Yk l e
theorem Sy:a6 D φ α H (n9 z) (kV z):=by cases z<;>rfl
theorem Td{ad:aE}(b:d.length=n):le D (IS ad ep n) (λφ α H=>∃gs,H ad=aA (.dE ep gs)/\bF D φ α H d gs) (d.map λp=>n9 p.1):=
 ⟨λi φ α H ⟨gs,e,l⟩ a=>by
  have c:=qF l;have a:i<gs.length:=by rw[c];simpa using a
  exact⟨gs,gs[i],e,c.trans b,ir a⟩,λi φ α H v j t ⟨gs,e,l⟩ a y=>by
  obtain⟨rfl,y⟩:=y;obtain⟨p,g,rfl⟩:=y gs e;obtain⟨q,f,h⟩:=Yk l g;rw[eX,f] at a;cases a;exact⟨λ_ _ z=>z,h▸Sy⟩,λφ α H ⟨gs,e,l⟩=>⟨gs,e,(qF l).trans b,by rw[qF l,eN];exact bG _⟩⟩
theorem Ih(a:aL D φ α H μ)(hx:α[i]?=aA x)(h:QI μ i d):∃gs,(H x=aA (.dK gs)\/∃ep,H x=aA (.dE ep gs))/\bF D φ α H d gs:=by
 rcases h with h|⟨ep,h⟩
 .obtain⟨gs,e,l⟩:=a.ob i x _ hx h;exact⟨gs,.inl e,l⟩
 .obtain⟨gs,e,l⟩:=a.ob i x _ hx h;exact⟨gs,.inr ⟨ep,e⟩,l⟩
theorem R4(ha:PE X a (aV D W f)):PI X tg a (gU D W (iD f)):=by
 rintro y s F H R I ⟨φ,α,τ,μ,Q,T,p⟩;refine aY (sub ha I Q T p) ?_;rintro u q ⟨v,i,t,g,d,J,S,O,P,n,d1,p1⟩;cases t with
 | «mut» j=>
  obtain⟨ad,r,rfl⟩:=d1;cases S;have B:aJ D W φ d i F _ (λK _=>∃c,QI g j c/\∀ep,K (c.map λp=>n9 p.1,B4 j ep c) (g.set j (.frd ep c))):=p1;obtain⟨K0,Z0,⟨c,hd,B⟩,Y,k2⟩:=B;have A:j<g.length:=by rcases hd with h|⟨_,h⟩<;>exact (cH.mp h).1
  have C:∃ep gs,Inv X y F (aX i ad (.dE ep gs)) q/\aP d i d (aX i ad (.dE ep gs))/\bF D φ d i c gs:=by
   rcases hd with h|⟨ep,h⟩
   .obtain⟨gs,e,l⟩:=n.ob j ad _ r h;obtain⟨ep,x⟩:=Pb J e;exact⟨ep,gs,x,aP.turn (cY r) ⟨_,e⟩,l⟩
   .obtain⟨gs,e,l⟩:=n.ob j ad _ r h;have:aX i ad (.dE ep gs)=i:=by
     funext b;unfold aX;split
     .subst_vars;exact e.symm
     .rfl
    exact⟨ep,gs,by rw[this];exact J,aP.turn (cY r) ⟨_,e⟩,l⟩
  obtain⟨ep,gs,x,k,l⟩:=C;have V:=bF.lk k.lk (φ:=φ) l;have U:aL D φ d (aX i ad (.dE ep gs)) (g.set j (.frd ep c)):=n.turn r A k ⟨gs,z4,V⟩;obtain⟨z,hs,G,rel,da⟩:=(show a8 X.prog X.w _ q.heap ad (.dE ep gs) from x.hok ad _ z4);have hl:c.length=G.length:=(qF l).symm.trans rel.length;refine wpAny_pyIter_dict hs da ?_;refine⟨q.heap.objs.size,[q.heap.objs.size],_,_,_,rfl,x.kept (t':=q.toks) λb o e=>bN _ e,U2 ad _ ep G.length,⟨_,dQ _ rfl,rfl,rfl⟩,λb hb=>?_,?_⟩
  .have e:b=q.heap.objs.size:=by simpa using hb
   subst e;exact x.fpOk (bG _) (x.hok.fresh (bG _))
  .refine Y _ _ (B ep) d _ k U _ _ (Td hl) (λL N H' M lk m Z=>?_) ?_
   .obtain⟨E,e',l'⟩:=m.ob j ad _ (lk.st j ad r) Z;exact⟨E,e',l'⟩
   .show (g.set j _)[j]?=_;rw[ra A]
 |_=>exact aJ.elim p1
theorem Pe:B1 X D W (.builtin "len") lenK:=by
 intro a s k H j c m t v u Q I b d r p;unfold lenK at p;split at p
 .obtain⟨w,q,⟨f,hd,p⟩,g,o⟩:=p;obtain⟨ad,h,rfl⟩:=d;cases r;obtain⟨gs,e,l⟩:=Ih b h hd;refine MU I (e.imp .inl id) λt n i=>⟨.int gs.length,H,i,⟨t,rfl⟩,?_⟩;rw[qF l];exact g _ _ p c H (aP.refl _ _) b _ rfl
 .exact p.elim
theorem Sv(h:zH b=aB):t4 b:=by
 intro o i;cases b<;>first|(simp[zH] at h;done)|rfl
theorem Pj(C:Ck D W Γ X k)(hs:zH b=aB)(o:PE X a (aV D W f))(P:PE X b (aV D W g)):PE X (.Subscript a b pos) (aV D W (eC2 ixKT f g)):=by
 refine PE.mono (RS (by have:=C.unt;lia) o P (Sv hs)) ?_;rintro V H Q ⟨r,F,s,E,u,J,p⟩;refine⟨r,F,s,E,u,J,p.bind.mono λx e j H1 n K q v d=>?_⟩;refine⟨r,j,s,e,u.step n,K,q.bind.mono λy B h U m A c w dw=>?_⟩;unfold ixKT at c;split at c
 .rename_i i z;obtain⟨K0,Z,⟨L,t,O,N,I⟩,M,Y⟩:=c;obtain⟨ad,o,rfl⟩:=d.step m;obtain⟨gs,R,l⟩:=Ih A o O;obtain⟨G,T,S⟩:=Jk l N;have dw:w=.str z:=dw;subst dw;exact⟨ad,G,rfl,⟨gs,.inr z,R.imp .inl id,rfl,T.symm⟩,M _ _ I h U (aP.refl _ _) A _ S⟩
 .exact c.elim
end
noncomputable def rr(Γ:Cn)(e:aH):Bool:=match e with
 |.Name x _=>Γ.own.contains (("~":aG)++x)
 |.Attribute _ x _=>x==("seats":aG)
 |_=>aD
noncomputable def Iw:IR:=λr a e=>gd (rr a e) ((r.e a e).bind λf=>aA (iD f))
theorem Nh:oM D Iw:=by
 intro r H X W b k c e d C g h;obtain⟨_,h⟩:=z8 h;obtain⟨f,a,h⟩:=aS h;cases h;exact R4 (H.e C a)
noncomputable def GN:ER:=λr b e=>(kK e).bind λq=>(ZQ q.as).bind λa=>gd (rr b a) (iL "len" lenK aD r b e)
theorem T0:cA D GN:=by
 intro r H X W i k e d C h;obtain⟨q,j,h⟩:=aS h;obtain⟨a,b,h⟩:=aS h;obtain⟨_,h⟩:=z8 h;exact vb (nm:="len") (op:=lenK) (cl:=aD) (λC c g _ f b=>Xw C c g boot_len (by decide) f Pe b) r H C h
noncomputable def FQ:ER:=λr a e=>(rh e).bind λq=>gd (rr a q.1&&zH q.2.1) ((r.e a q.1).bind λf=>(r.e a q.2.1).bind λg=>aA (eC2 ixKT f g))
theorem P7:cA D FQ:=by
 intro r H X W j k e d C h;obtain⟨q,i,h⟩:=aS h;rw[XZ i];obtain⟨a,h⟩:=z8 h;obtain⟨f,c,h⟩:=aS h;obtain⟨g,b,h⟩:=aS h;cases h;exact Pj C (zp a).2 (H.e C c) (H.e C b)
noncomputable def GD:dA->Bool
 |.NotIn=>aB
 |_=>aD
theorem TM(h:GD op=aB):op=.NotIn:=by cases op<;>first|rfl|cases h
noncomputable def B3 (r:cO)(Γ:Cn)(e:aH):Option De:=(rC e).bind λq=>gd (GD q.op&&rr Γ q.b) (gd (qU .NotIn q.b) ((r.e Γ q.a).bind λf=>(r.e Γ q.b).bind λg=>aA (eC2 notInT f g)))
theorem HU{W:XW}(H:bP D r)(C:Ck D W Γ X k)(h:B3 r Γ e=aA d):PE X e (aV D W d)/\PT X e (dZ D W (tE d)):=by
 obtain⟨q,j,h⟩:=aS h;obtain⟨i,h⟩:=z8 h;obtain⟨c,h⟩:=z8 h;obtain⟨f,b,h⟩:=aS h;obtain⟨g,a,h⟩:=aS h;cases h;rw[Yn j,TM (zp i).1];exact⟨Mf (Yi C.unt) c (H.e C b) (H.e C a),J2 (Yi C.unt) c (H.e C b) (H.e C a)⟩
noncomputable def Fu:ER:=B3
theorem RZ:cA D Fu:=λr H _ _ _ _ _ _ C h=>(HU H C h).1
noncomputable def Hj:TR:=λr a e=>(B3 r a e).bind λf=>aA (tE f)
theorem z08:oF D Hj:=by
 intro r H X W b k e d C h;obtain⟨f,a,h⟩:=aS h;cases h;exact (HU H C a).2
noncomputable def MI:aH->Bool
 |.Attribute _ x _=>x==("common":aG)
 |_=>aD
noncomputable def ul(m:aG):aG:=⟨#[64]⟩++m
noncomputable def G3:ER:=λr a e=>(yO e).bind λq=>gd (MI q.o) (wf r a (ul q.m) q)
theorem TF:cA D G3:=by
 intro r H X W b k e d C h;obtain⟨q,a,h⟩:=aS h;obtain⟨_,h⟩:=z8 h;rw[wI a];exact Xi H C h
noncomputable def nX (x:T):List T->Option Bool
 |[]=>aA aD
 |y::r=>(mX y x).bind λb=>(nX x r).map (b || ·)
noncomputable def mW:aC->aC->Bool
 |.none,.none=>aB
 |.int a _,.int b _=>a==b
 |.str a _,.str b _=>a==b
 |.bool a,.bool b=>a==b
 |_,_=>aD
section
variable {D:DP}{s:Shared}{H:Hp}{φ α:List aE}{b:aH}{A:Around}
theorem Nw(h:mX y x=aA c)(d:a6 D φ α H y v)(a:a6 D φ α H x w)(g:RelV v u)(b:RelV w m):gO A s u m (mW u m)/\mW u m=c:=by
 cases y with
 |non=>
  have d:v=.non:=d;subst d;cases g;cases x with
  |non=>have a:w=.non:=a;subst a;cases b;cases h;exact⟨pK _,rfl⟩
  |int j=>have a:w=.int j:=a;subst a;obtain⟨t,rfl⟩:=b;cases h;exact⟨DR j t,rfl⟩
  |bl j=>have a:w=.bl j:=a;subst a;cases b;cases h;exact⟨Eg j,rfl⟩
  |str j=>have a:w=.str j:=a;subst a;obtain⟨t,rfl⟩:=b;cases h;exact⟨DQ j t,rfl⟩
  |_=>cases h
 |int i=>
  have d:v=.int i:=d;subst d;obtain⟨f,rfl⟩:=g;cases x with
  |non=>have a:w=.non:=a;subst a;cases b;cases h;exact⟨DV i f,rfl⟩
  |int j=>have a:w=.int j:=a;subst a;obtain⟨t,rfl⟩:=b;cases h;exact⟨sZ i f j t,by show (i==j)=decide (i=j);by_cases e:i=j<;>simp[e]⟩
  |str j=>have a:w=.str j:=a;subst a;obtain⟨t,rfl⟩:=b;cases h;exact⟨tB i f j t,rfl⟩
  |_=>cases h
 |bl i=>
  have d:v=.bl i:=d;subst d;cases g;cases x with
  |non=>have a:w=.non:=a;subst a;cases b;cases h;exact⟨Eh i,rfl⟩
  |bl j=>have a:w=.bl j:=a;subst a;cases b;cases h;exact⟨Ei i j,by cases i<;>cases j<;>rfl⟩
  |str j=>have a:w=.str j:=a;subst a;obtain⟨t,rfl⟩:=b;cases h;exact⟨DU i j t,rfl⟩
  |_=>cases h
 |str i=>
  have d:v=.str i:=d;subst d;obtain⟨f,rfl⟩:=g;cases x with
  |non=>have a:w=.non:=a;subst a;cases b;cases h;exact⟨DS i f,rfl⟩
  |int j=>have a:w=.int j:=a;subst a;obtain⟨t,rfl⟩:=b;cases h;exact⟨tz i f j t,rfl⟩
  |bl j=>have a:w=.bl j:=a;subst a;cases b;cases h;exact⟨DT i f j,rfl⟩
  |str j=>have a:w=.str j:=a;subst a;obtain⟨t,rfl⟩:=b;cases h;exact⟨D9 i f j t,by show (i==j)=decide (i=j);by_cases e:i=j<;>simp[e]⟩
  |_=>cases h
 |_=>cases h
theorem Hn(i:a6 D φ α H x w)(f:RelV w g):∀{ys:List T}{c:Bool}{vs:List V}{us:List aC},nX x ys=aA c->aM D φ α H ys vs->aU vs us->(∀u∈us,gO A s u g (mW u g))/\(us.any λu=>mW u g)=c
 |[],c,vs,us,h,l,r=>by
  have l:vs=[]:=l;subst l;cases r;cases h;exact⟨by simp,rfl⟩
 |y::ys,c,vs,us,h,l,r=>by
  obtain⟨v,j,rfl,d,l⟩:=l;obtain⟨B,t,h⟩:=aS (show ((mX y x).bind λb=>(nX x ys).map (b || ·))=aA c from h);cases r with
  |cons k a=>
   obtain⟨z,q,rfl⟩:=gR.mp h;obtain⟨p,o⟩:=Nw (A:=A) (s:=s) t d i k f;obtain⟨n,m⟩:=Hn i f q l a;refine⟨λu e=>?_,?_⟩
   .rcases dG.mp e with rfl|e
    .exact p
    .exact n u e
   .rw[nH,o,m]
end
noncomputable abbrev strNT(t:T)(a:aI):RE T:=match t with
 |.int i=>.grd (i.natAbs<2 ^ 1900) (.ok (.str (toString i)) a)
 |.str x=>.ok (.str x) a
 |.non=>.ok (.str "None") a
 |_=>.st
theorem NZ{W:XW}:B1 X D W (.type "str") strNT:=by
 intro b s g H f i h t v u Q I a d r p;unfold strNT at p;split at p
 .cases d;obtain⟨e,p⟩:=p.grd;obtain⟨c,rfl⟩:=r;exact P.str_of_int (OY e) ⟨.str _,H,I.tok _,⟨_,rfl⟩,p.here a rfl⟩
 .cases d;obtain⟨c,rfl⟩:=r;exact P.str_of_str ⟨.str _,H,I,⟨_,rfl⟩,p.here a rfl⟩
 .cases d;cases r;exact P.str_of_none ⟨.str _,H,I.tok _,⟨_,rfl⟩,p.here a rfl⟩
 .exact p.elim
noncomputable def GU:ER:=iL "str" strNT aD
theorem z0F:cA D GU:=vb λC a c _ b d=>VF C a c (by decide +kernel) (by decide) b NZ d
end NH
section
namespace NH
open PySem L2
inductive XR(β:Type) where
 |ok (a:β) (μ:aI)
 |ex (c:Nat) (fs:List (Nat×T)) (μ:aI)
 |all (f:Nat->XR β)
 |need (p:Prop) (x:XR β)
 |no
namespace XR
noncomputable def wp {β:Type}:XR β->RE β
 |.ok a b,K,_=>K a b
 |.ex c fs b,_,Z=>Z c fs b
 |.all f,K,Z=>∀e,(f e).wp K Z
 |.need p x,K,Z=>p/\x.wp K Z
 |.no,_,_=>False
noncomputable def bind {β d:Type}(x:XR d)(k:d->aI->XR β):XR β:=match x with
 |.ok a b=>k a b
 |.ex c fs b=>.ex c fs b
 |.all f=>.all λe=>(f e).bind k
 |.need p x=>.need p (x.bind k)
 |.no=>.no
noncomputable def som{β b:Type}(o:Option b)(k:b->XR β):XR β:=match o with
 |some a=>k a
 |none=>.no
noncomputable def grd{β:Type}(b:Bool)(x:XR β):XR β:=match b with
 |true=>x
 |false=>.no
end XR
noncomputable def Sx {β:Type}(r:RE β)(x:XR β):Prop:=∀K Z,x.wp K Z->r K Z
theorem Sx.ok{β:Type}{a:β}{b:aI}:Sx (RE.ok a b) (.ok a b):=λ_ _ h=>h
theorem Sx.no{β:Type}{r:RE β}:Sx r .no:=λ_ _ h=>h.elim
theorem bX{β b:Type}{k:b->aI->XR β}{K:β->aI->Prop}{Z:Xp}:∀{x:XR b},(x.bind k).wp K Z->x.wp (λa d=>(k a d).wp K Z) Z
 |.ok _ _,h=>h
 |.ex _ _ _,h=>h
 |.all f,h=>λe=>bX (h e)
 |.need _ _,h=>⟨h.1,bX h.2⟩
 |.no,h=>h
theorem bL{β:Type}{K i:β->aI->Prop}{Z g:Xp}(hK:∀a d,K a d->i a d)(b:∀c fs d,Z c fs d->g c fs d):∀{x:XR β},x.wp K Z->x.wp i g
 |.ok _ _,h=>hK _ _ h
 |.ex _ _ _,h=>b _ _ _ h
 |.all f,h=>λe=>bL hK b (h e)
 |.need _ _,h=>⟨h.1,bL hK b h.2⟩
 |.no,h=>h
theorem Sx.bind{β b:Type}{r:RE b}{x:XR b}{k:b->aI->RE β}{c:b->aI->XR β}(h:Sx r x)(hk:∀a d,Sx (k a d) (c a d)):Sx (r.bind k) (x.bind c):=λ_ _ w=>h _ _ (bL (λa d q=>hk a d _ _ q) (λ_ _ _ q=>q) (bX w))
theorem Sx.som{β b:Type}{o:Option b}{k:b->RE β}{c:b->XR β}(hk:∀a,Sx (k a) (c a)):Sx (RE.som o k) (XR.som o c):=λ_ _ w=>by
 cases o with
 |none=>exact w.elim
 |some a=>exact⟨a,rfl,hk a _ _ w⟩
theorem qg{β b:Type}{o:Option b}{k:b->XR β}{K:β->aI->Prop}{Z:Xp}(w:(XR.som o k).wp K Z):∃a,o=aA a/\(k a).wp K Z:=by
 cases o with
 |none=>exact w.elim
 |some a=>exact⟨a,rfl,w⟩
theorem zt{β:Type}{b:Bool}{x:XR β}{K:β->aI->Prop}{Z:Xp}(w:(XR.grd b x).wp K Z):b=aB/\x.wp K Z:=by
 cases b with
 |true=>exact⟨rfl,w⟩
 |false=>exact w.elim
theorem Sx.grd{β:Type}{p:Prop}{b:Bool}{r:RE β}{x:XR β}(a:b=aB->p)(h:Sx r x):Sx (RE.grd p r) (XR.grd b x):=λ_ _ w=>by
 cases b with
 |true=>exact⟨a rfl,h _ _ w⟩
 |false=>exact w.elim
mutual
def JS:T->T->Bool
 |.non,.non=>aB
 |.bl a,.bl b=>a==b
 |.int a,.int b=>decide (a=b)
 |.str a,.str b=>decide (a=b)
 |.tup a,.tup b=>Qm a b
 |.lst a,.lst b=>Qm a b
 |.mut a,.mut b=>cC a b
 |.clo a b,.clo c d=>cC a c&&Qm b d
 |.obj a b,.obj c d=>cC a c&&n8 b d
 |_,_=>aD
def Qm:List T->List T->Bool
 |[],[]=>aB
 |a::r,b::s=>JS a b&&Qm r s
 |_,_=>aD
def n8:List (Nat×T)->List (Nat×T)->Bool
 |[],[]=>aB
 |a::r,b::s=>cC a.1 b.1&&JS a.2 b.2&&n8 r s
 |_,_=>aD
end
mutual
theorem Vm:∀{a b:T},JS a b=aB->a=b
 |.non,.non,_=>rfl
 |.bl a,.bl b,h=>by rw[eq_of_beq (show (a==b)=aB from h)]
 |.int a,.int b,h=>by rw[of_decide_eq_true (show decide (a=b)=aB from h)]
 |.str a,.str b,h=>by rw[of_decide_eq_true (show decide (a=b)=aB from h)]
 |.tup a,.tup b,h=>by rw[kR (show Qm a b=aB from h)]
 |.lst a,.lst b,h=>by rw[kR (show Qm a b=aB from h)]
 |.mut a,.mut b,h=>by rw[fJ (show cC a b=aB from h)]
 |.clo a b,.clo c d,h=>by
  have h:(cC a c&&Qm b d)=aB:=h;rw[bK] at h;rw[fJ h.1,kR h.2]
 |.obj a b,.obj c d,h=>by
  have h:(cC a c&&n8 b d)=aB:=h;rw[bK] at h;rw[fJ h.1,Xq h.2]
theorem kR:∀{a b:List T},Qm a b=aB->a=b
 |[],[],_=>rfl
 |a::r,b::s,h=>by
  have h:(JS a b&&Qm r s)=aB:=h;rw[bK] at h;rw[Vm h.1,kR h.2]
theorem Xq:∀{a b:List (Nat×T)},n8 a b=aB->a=b
 |[],[],_=>rfl
 |(i,a)::r,(j,b)::s,h=>by
  have h:(cC i j&&JS a b&&n8 r s)=aB:=h;rw[bK,bK] at h;rw[fJ h.1.1,Vm h.1.2,Xq h.2]
end
end NH
end
namespace NH
open PySem L2
section
noncomputable def jo {β:Type}(a:aI)(j:Nat)(k:List T->XR β):XR β:=match a[j]? with
 |some (.lst b)=>k b
 |_=>.no
theorem zE{β:Type}{a:aI}{j:Nat}{k:List T->XR β}{K:β->aI->Prop}{Z:Xp}(h:(jo a j k).wp K Z):∃ts,a[j]?=aA (.lst ts)/\(k ts).wp K Z:=by
 unfold jo at h;split at h
 .rename_i ts e;exact⟨ts,e,h⟩
 .exact h.elim
noncomputable def rD {β:Type}(a:aI)(j:Nat)(k:Nat->List (Nat×T)->XR β):XR β:=match a[j]? with
 |some (.obj c fs)=>k c fs
 |_=>.no
theorem Xm{β:Type}{a:aI}{j:Nat}{k:Nat->List (Nat×T)->XR β}{K:β->aI->Prop}{Z:Xp}(h:(rD a j k).wp K Z):∃c fs,a[j]?=aA (.obj c fs)/\(k c fs).wp K Z:=by
 unfold rD at h;split at h
 .rename_i c fs e;exact⟨c,fs,e,h⟩
 .exact h.elim
noncomputable def nY {β:Type}(b:aI)(j:Nat)(k:List (Key×T)->XR β):XR β:=match b[j]? with
 |some (.dic a)=>k a
 |some (.frd _ a)=>k a
 |_=>.no
theorem Vh{β:Type}{a:aI}{j:Nat}{k:List (Key×T)->XR β}{K:β->aI->Prop}{Z:Xp}(h:(nY a j k).wp K Z):∃d,QI a j d/\(k d).wp K Z:=by
 unfold nY at h;split at h
 .rename_i d e;exact⟨d,.inl e,h⟩
 .rename_i ep d e;exact⟨d,.inr ⟨ep,e⟩,h⟩
 .exact h.elim
noncomputable def om {β:Type}(b:aI)(j:Nat)(k:List (Key×T)->XR β):XR β:=match b[j]? with
 |some (.dic a)=>k a
 |_=>.no
theorem KW{β:Type}{a:aI}{j:Nat}{k:List (Key×T)->XR β}{K:β->aI->Prop}{Z:Xp}(h:(om a j k).wp K Z):∃d,a[j]?=aA (.dic d)/\(k d).wp K Z:=by
 unfold om at h;split at h
 .rename_i d e;exact⟨d,e,h⟩
 .exact h.elim
theorem qE{a b:Nat}(h:dX a b=aB):a<=b:=Ep h
variable {μ:aI}{a b t:T}
noncomputable def G0(t i:T)(μ:aI):XR T:=match i with
 |.int k=>(match t with
  |.lst a=>.som (xT a k) λv=>.ok v μ
  |.tup a=>.som (xT a k) λv=>.ok v μ
  |.mut j=>jo μ j λa=>.som (xT a k) λv=>.ok v μ
  |.str z=>.grd (dX z.length a9) (.som (xT z.cps.toList k) λc=>.ok (.str ⟨#[c]⟩) μ)
  |_=>.no)
 |_=>.no
theorem z0C:Sx (BI a b μ) (G0 a b μ):=by
 intro K Z h;cases b with
 |int k=>cases a with
  |lst c=>exact Sx.som (λ_=>Sx.ok) _ _ h
  |tup c=>exact Sx.som (λ_=>Sx.ok) _ _ h
  | «mut» j=>
   obtain⟨c,e,h⟩:=zE h
   obtain⟨v,d,h⟩:=qg h
   exact⟨c,v,e,d,h⟩
  |str z=>exact Sx.grd qE (Sx.som λ_=>Sx.ok) _ _ h
  |_=>exact h.elim
 |_=>exact h.elim
noncomputable def F5 (op:mx)(x y:T)(μ:aI):XR T:=match op with
 |.Add=>(match x,y with
  |.int i,.int j=>.ok (.int (i+j)) μ
  |.str a,.str b=>.grd (dX (a.length+b.length) a9) (.ok (.str (a++b)) μ)
  |.lst a,.lst b=>.grd (dX (a.length+b.length) a9) (.ok (.lst (a++b)) μ)
  |_,_=>.no)
 |.Sub=>(match x,y with|.int i,.int j=>.ok (.int (i-j)) μ|_,_=>.no)
 |.Mult=>(match x,y with|.int i,.int j=>.grd (decide (-big<i/\i<big)) (.ok (.int (i*j)) μ)|_,_=>.no)
 |.FloorDiv=>(match x,y with|.int i,.int j=>.grd (decide (0<j/\j<1606938044258990275541962092341162602522202993782792835301376)) (.ok (.int (i / j)) μ)|_,_=>.no)
 |.Mod=>(match x,y with|.int i,.int j=>.grd (decide (0<j)) (.ok (.int (i % j)) μ)|_,_=>.no)
 |_=>.no
theorem RB{op:mx}:Sx (wl op a b μ) (F5 op a b μ):=by
 intro K Z h;cases op with
 |Add=>
  cases a with
  |int i=>cases b with
   |int j=>exact h
   |_=>exact h.elim
  |str i=>cases b with
   |str j=>exact Sx.grd qE Sx.ok _ _ h
   |_=>exact h.elim
  |lst i=>cases b with
   |lst j=>exact Sx.grd qE Sx.ok _ _ h
   |_=>exact h.elim
  |_=>exact h.elim
 |Sub=>cases a with
  |int i=>cases b with
   |int j=>exact h
   |_=>exact h.elim
  |_=>exact h.elim
 |Mult=>cases a with
  |int i=>cases b with
   |int j=>exact Sx.grd (λq=>.inl (of_decide_eq_true q)) Sx.ok _ _ h
   |_=>exact h.elim
  |_=>exact h.elim
 |FloorDiv=>cases a with
  |int i=>cases b with
   |int j=>exact Sx.grd of_decide_eq_true Sx.ok _ _ h
   |_=>exact h.elim
  |_=>exact h.elim
 |Mod=>cases a with
  |int i=>cases b with
   |int j=>exact Sx.grd of_decide_eq_true Sx.ok _ _ h
   |_=>exact h.elim
  |_=>exact h.elim
 |_=>exact h.elim
noncomputable def BV (x y:T)(μ:aI)(k:Bool->XR T):XR T:=match x,y with
 |.tup xs,.tup a=>.grd (dX (w9 xs) 40) (.som (cS xs a) k)
 |.lst xs,.lst a=>.grd (dX (w9 xs) 40) (.som (cS xs a) k)
 |.int i,.int j=>k (decide (i=j))
 |.str i,.str j=>k (decide (i=j))
 |.non,.int _=>k aD
 |.int _,.non=>k aD
 |_,_=>.no
theorem Ii{k:Bool->RE T}{c:Bool->XR T}(hk:∀b,Sx (k b) (c b)):Sx (oB a b μ k) (BV a b μ c):=by
 intro K Z h;cases a with
 |tup i=>cases b with
  |tup j=>exact Sx.grd qE (Sx.som hk) _ _ h
  |_=>exact h.elim
 |lst i=>cases b with
  |lst j=>exact Sx.grd qE (Sx.som hk) _ _ h
  |_=>exact h.elim
 |int i=>cases b with
  |int j=>exact hk _ _ _ h
  |non=>exact hk _ _ _ h
  |_=>exact h.elim
 |str i=>cases b with
  |str j=>exact hk _ _ _ h
  |_=>exact h.elim
 |non=>cases b with
  |int j=>exact hk _ _ _ h
  |_=>exact h.elim
 |_=>exact h.elim
noncomputable def rl (f:Int->Int->Bool)(x y:T)(μ:aI):XR T:=match x,y with
 |.int i,.int j=>.ok (.bl (f i j)) μ
 |_,_=>.no
noncomputable def rF (op:dA)(x y:T)(μ:aI):XR T:=match op with
 |.Eq=>BV x y μ λb=>.ok (.bl b) μ
 |.NotEq=>BV x y μ λb=>.ok (.bl (!b)) μ
 |.Lt=>rl (λi j=>decide (i<j)) x y μ
 |.LtE=>rl (λi j=>decide (i<=j)) x y μ
 |.Gt=>rl (λi j=>decide (j<i)) x y μ
 |.GtE=>rl (λi j=>decide (j<=i)) x y μ
 |.Is=>(match y with|.non=>.ok (.bl (match x with|.non=>aB|_=>aD)) μ|_=>.no)
 |.IsNot=>(match y with|.non=>.ok (.bl (match x with|.non=>aD|_=>aB)) μ|_=>.no)
 |.In=>(match x,y with|.str i,.str j=>.ok (.bl (!(nT j i 0 j.length 1).isEmpty)) μ|_,_=>.no)
 |_=>.no
theorem WS{op:dA}:Sx (yn op a b μ) (rF op a b μ):=by
 intro K Z h;cases op with
 |Eq=>exact Ii (λ_=>Sx.ok) _ _ h
 |NotEq=>exact Ii (λ_=>Sx.ok) _ _ h
 |Is=>cases b with
  |non=>exact h
  |_=>exact h.elim
 |IsNot=>cases b with
  |non=>exact h
  |_=>exact h.elim
 |NotIn=>exact h.elim
 |In=>cases a with
  |str i=>cases b with
   |str j=>exact h
   |_=>exact h.elim
  |_=>exact h.elim
 |_=>cases a with
  |int i=>cases b with
   |int j=>exact h
   |_=>exact h.elim
  |_=>exact h.elim
end
section
variable {μ:aI}{a b t:T}
noncomputable def Gn (t:T)(μ:aI):XR T:=match t with
 |.lst xs=>.ok (.int xs.length) μ
 |.tup xs=>.ok (.int xs.length) μ
 |.str s=>.grd (dX s.length a9) (.ok (.int s.length) μ)
 |.mut i=>jo μ i λxs=>.ok (.int xs.length) μ
 |_=>.no
theorem RF:Sx (lenT t μ) (Gn t μ):=by
 intro K Z h;cases t with
 |lst xs=>exact h
 |tup xs=>exact h
 |str s=>exact Sx.grd qE Sx.ok _ _ h
 | «mut» i=>exact zE h
 |_=>exact h.elim
noncomputable def rG (f:List T->T)(t:T)(μ:aI):XR T:=match t with
 |.lst xs=>.ok (f xs) μ
 |.mut i=>jo μ i λxs=>.ok (f xs) μ
 |_=>.no
theorem YO:Sx (tupleT t μ) (rG .tup t μ):=by
 intro K Z h;cases t with
 |lst xs=>exact h
 | «mut» i=>exact zE h
 |_=>exact h.elim
theorem UW:Sx (listT t μ) (rG .lst t μ):=by
 intro K Z h;cases t with
 |lst xs=>exact h
 | «mut» i=>exact zE h
 |_=>exact h.elim
noncomputable def Gg (t:T)(μ:aI):XR T:=match t with
 |.lst xs=>.ok (.mut μ.length) (μ++[.lst xs])
 |.mut i=>jo μ i λxs=>.ok (.mut μ.length) (μ++[.lst xs])
 |_=>.no
theorem RH:Sx (layT t μ) (Gg t μ):=by
 intro K Z h;cases t with
 |lst xs=>exact h
 | «mut» i=>exact zE h
 |_=>exact h.elim
noncomputable def Fi (t:T)(μ:aI):XR T:=match t with
 |.lst xs=>.som (dN xs) λbs=>.ok (.bl (bs.all id)) μ
 |_=>.no
theorem R6:Sx (allT t μ) (Fi t μ):=by
 intro K Z h;cases t with
 |lst xs=>exact Sx.som (λ_=>Sx.ok) _ _ h
 |_=>exact h.elim
noncomputable def FN (t:T)(μ:aI):XR T:=match t with
 |.lst xs=>.som (bT xs) λa=>.ok (.int a.sum) μ
 |_=>.no
theorem Rx:Sx (sumT t μ) (FN t μ):=by
 intro K Z h;cases t with
 |lst xs=>exact Sx.som (λ_=>Sx.ok) _ _ h
 |_=>exact h.elim
noncomputable def Io (f:Int->Int->Int)(x y:T)(μ:aI):XR T:=match x,y with
 |.int a,.int b=>.ok (.int (f a b)) μ
 |_,_=>.no
theorem Su:Sx (min2T a b μ) (Io (λa b=>if b<a then b else a) a b μ):=by
 intro K Z h;cases a with
 |int i=>cases b with
  |int j=>exact h
  |_=>exact h.elim
 |_=>exact h.elim
theorem SJ:Sx (max2T a b μ) (Io (λa b=>if a<b then b else a) a b μ):=by
 intro K Z h;cases a with
 |int i=>cases b with
  |int j=>exact h
  |_=>exact h.elim
 |_=>exact h.elim
noncomputable def G_(t:T)(μ:aI):XR T:=match t with
 |.str x=>.grd (dX x.length 640) (.som (intText? x) λn=>.ok (.int n) μ)
 |_=>.no
theorem T7:Sx (intXT t μ) (G_ t μ):=by
 intro K Z h;cases t with
 |str x=>exact Sx.grd qE (Sx.som λ_=>Sx.ok) _ _ h
 |_=>exact h.elim
noncomputable def Gs(t:T)(μ:aI):XR T:=match t with
 |.int i=>.grd (decide (i.natAbs<2 ^ 1900)) (.ok (.str (toString i)) μ)
 |.str x=>.ok (.str x) μ
 |_=>.no
theorem TB:Sx (strNT t μ) (Gs t μ):=by
 intro K Z h;cases t with
 |int i=>exact Sx.grd of_decide_eq_true Sx.ok _ _ h
 |str x=>exact h
 |_=>exact h.elim
noncomputable def Hz(a:aG)(t:T)(μ:aI):XR T:=match t with
 |.mut i=>jo μ i λc=>.som (bM c) λb=>.grd (g_ a b.reverse&&dX b.length a9) (.ok (.str (iG a b.reverse)) μ)
 |_=>.no
theorem YR{a:aG}:Sx (joinRT a t μ) (Hz a t μ):=by
 intro K Z h;cases t with
 | «mut» i=>
  obtain⟨c,e,h⟩:=zE h;obtain⟨b,d,h⟩:=qg h;obtain⟨g,h⟩:=zt h;rw[bK] at g;exact⟨c,b,e,d,⟨g.1,qE g.2⟩,h⟩
 |_=>exact h.elim
noncomputable def Gh (a:List (List Int)):List (List Int):=a.filter λb=>a.all λc=>!q9 c b
noncomputable def Bl(xs:List T)(μ:aI):XR T:=.som (rowsOf xs) λa=>(match xs with
  |[]=>.ok .non μ
  |_::_=>(match Gh a with
   |[m]=>.ok (.tup (m.map T.int)) μ
   |_=>.no))
theorem Jm{xs:List T}:Sx (BM xs μ) (Bl xs μ):=by
 intro K Z h;obtain⟨a,e,h⟩:=qg h;cases xs with
 |nil=>
  cases e;exact⟨_,rfl,λ_=>h,λd b=>by cases b⟩
 |cons x r=>
  refine⟨a,e,nofun,λd b i=>?_⟩;have f:d∈Gh a:=h_.mpr ⟨b,eF.mpr λg c=>by rw[i g c];rfl⟩;dsimp only at h;split at h
  .rename_i m em;rw[em] at f;rw[c8.mp f];exact h
  .exact h.elim
noncomputable def Gy(t:T)(μ:aI):XR T:=match t with
 |.lst xs=>Bl xs μ
 |.mut i=>jo μ i λxs=>Bl xs μ
 |_=>.no
theorem TC:Sx (maxRT t μ) (Gy t μ):=by
 intro K Z h;cases t with
 |lst xs=>exact Jm _ _ h
 | «mut» i=>
  obtain⟨xs,e,h⟩:=zE h;exact⟨xs,e,Jm _ _ h⟩
 |_=>exact h.elim
noncomputable def rB:List T->Option (List R3)
 |[]=>aA []
 |.tup [.int i,.int j,.str s]::r=>(rB r).map ((i,j,s)::·)
 |_::_=>aF
theorem XN:∀{xs:List T}{a:List R3},rB xs=aA a->xs=a.map i9
 |[],a,h=>by cases h;rfl
 |x::r,a,h=>by
  unfold rB at h;split at h
  .rename_i e;cases e
  .rename_i i j s c e;cases e;obtain⟨q,b,rfl⟩:=gR.mp h;rw[XN b];rfl
  .cases h
noncomputable def rK:List R3->Bool
 |[]=>aB
 |a::r=>(r.all λb=>!(decide (a.1=b.1)&&decide (a.2.1=b.2.1)))&&rK r
theorem HK:∀{c:List R3},rK c=aB->c.Pairwise eQ
 |[],_=>.nil
 |a::r,h=>by
  unfold rK at h;rw[bK] at h;refine .cons (λb d e=>?_) (HK h.2);have:=eF.mp h.1 b d;rw[decide_eq_true e.1,decide_eq_true e.2] at this;cases this
noncomputable def Hu(t:T)(μ:aI):XR T:=match t with
 |.lst xs=>.som (rB xs) λa=>.grd (dX a.length 3&&rK a) (.ok (.lst ((qM a).map i9)) μ)
 |_=>.no
theorem U7:Sx (sortRT t μ) (Hu t μ):=by
 intro K Z h;cases t with
 |lst xs=>
  obtain⟨a,e,h⟩:=qg h;obtain⟨g,h⟩:=zt h;rw[bK] at g;exact⟨a,XN e,qE g.1,HK g.2,h⟩
 |_=>exact h.elim
noncomputable def GS(t:T)(μ:aI):XR T:=match t with
 |.mut i=>nY μ i λa=>.ok (.int a.length) μ
 |_=>.no
theorem UU:Sx (lenK t μ) (GS t μ):=by
 intro K Z h;cases t with
 | «mut» i=>exact Vh h
 |_=>exact h.elim
noncomputable def Fs (x y:T)(μ:aI):XR T:=match x,y with
 |.mut i,.str z=>nY μ i λa=>.som (w5 (.inr z) a) λv=>.ok v μ
 |_,_=>.no
theorem PQ:Sx (ixKT a b μ) (Fs a b μ):=by
 intro K Z h;cases a with
 | «mut» i=>cases b with
  |str z=>
   obtain⟨c,e,h⟩:=Vh h
   obtain⟨v,d,h⟩:=qg h
   exact⟨c,v,e,d,h⟩
  |_=>exact h.elim
 |_=>exact h.elim
noncomputable def HI(x y:T)(μ:aI):XR T:=match y,x with
 |.mut i,.str z=>om μ i λa=>.ok (.bl (!(w5 (.inr z) a).isSome)) μ
 |_,_=>.no
theorem Yq:Sx (notInT a b μ) (HI a b μ):=by
 intro K Z h;cases b with
 | «mut» i=>cases a with
  |str z=>exact KW h
  |_=>exact h.elim
 |_=>exact h.elim
noncomputable def Ip (x y:T)(μ:aI):XR T:=match y with
 |.mut i=>(match x with
  |.int z=>om μ i λa=>.ok (.bl (w5 (.inl z) a).isSome) μ
  |.str z=>om μ i λa=>.ok (.bl (w5 (.inr z) a).isSome) μ
  |_=>.no)
 |_=>.no
theorem O_:Sx (m4 a b μ) (Ip a b μ):=by
 intro K Z h;cases b with
 | «mut» i=>cases a with
  |str z=>exact KW h
  |int z=>exact KW h
  |_=>exact h.elim
 |_=>exact h.elim
noncomputable def K3(t:T)(f:Nat)(μ:aI):XR T:=match t with
 |.obj _ fs=>.som (Qd fs f) λv=>.ok v μ
 |.mut i=>rD μ i λ_ fs=>.som (Qd fs f) λv=>.ok v μ
 |_=>.no
theorem Wb{f:Nat}:Sx (yi t f μ) (K3 t f μ):=by
 intro K Z h;cases t with
 |obj c fs=>
  obtain⟨v,e,h⟩:=qg h;show (match Qd fs f with|some v=>RE.ok v μ|none=>RE.st) K Z;rw[e];exact h
 | «mut» i=>
  obtain⟨c,fs,e,h⟩:=Xm h;obtain⟨v,a,h⟩:=qg h;exact⟨c,fs,v,e,a,h⟩
 |_=>exact h.elim
noncomputable def E4 (x:T)(l h:Option Int)(μ:aI):XR T:=match x with
 |.lst xs=>.ok (.lst (ZP xs l h)) μ
 |.str z=>.grd (dX z.length a9) (.ok (.str (rX z l h)) μ)
 |.mut i=>jo μ i λxs=>.ok (.lst (ZP xs l h)) μ
 |_=>.no
theorem Sn{l u:Option Int}:Sx (v6 t l u μ) (E4 t l u μ):=by
 intro K Z h;cases t with
 |lst xs=>exact h
 |str z=>exact Sx.grd qE Sx.ok _ _ h
 | «mut» i=>exact zE h
 |_=>exact h.elim
noncomputable def FA(cs:List Nat)(x:T)(μ:aI):XR T:=match x with
 |.mut i=>.som μ[i]? λo=>XR.grd (!Jd o) (.ok (T.bl (bR (BX o) cs)) μ)
 |x=>.som (oo x μ) λt=>.ok (T.bl (bR t cs)) μ
theorem Ss{cs:List Nat}:Sx (YF cs t μ) (FA cs t μ):=by
 intro K Z h;have go:∀x:T,(XR.som (oo x μ) λt=>.ok (T.bl (bR t cs)) μ).wp K Z->(match oo x μ with|some t=>RE.ok (T.bl (bR t cs)) μ|none=>RE.st) K Z:=λx h=>by
  obtain⟨v,e,h⟩:=qg h;rw[e];exact h
 cases t with
 | «mut» i=>
  obtain⟨o,e,h⟩:=qg h;refine⟨o,e,?_⟩;show oC (Jd o) _ _;obtain⟨g,h⟩:=zt h;rw[show Jd o=aD by simpa using g];exact h
 |non=>exact go (.non) h
 |bl b=>exact go (.bl b) h
 |int i=>exact go (.int i) h
 |str s=>exact go (.str s) h
 |tup s=>exact go (.tup s) h
 |lst s=>exact go (.lst s) h
 |obj c s=>exact go (.obj c s) h
 |exc c s=>exact go (.exc c s) h
 |dic s=>exact go (.dic s) h
 |clo c s=>exact go (.clo c s) h
end
end NH
section
namespace NH
open PySem L2
structure EX where
 s:De
 x:Sl->aI->XR T
 ok:∀τ μ,Sx (s τ μ) (x τ μ)
structure TX where
 s:Dt
 x:Sl->aI->XR Bool
 ok:∀τ μ,Sx (s τ μ) (x τ μ)
structure PX where
 s:Dp
 x:Sl->aI->XR (Option Int)
 ok:∀τ μ,Sx (s τ μ) (x τ μ)
structure O1 where
 s:T->aI->RE T
 x:T->aI->XR T
 ok:∀t μ,Sx (s t μ) (x t μ)
structure O2 where
 s:T->T->aI->RE T
 x:T->T->aI->XR T
 ok:∀a b μ,Sx (s a b μ) (x a b μ)
structure FX where
 s:Fn
 x:List T->aI->XR T
 ok:∀ts μ,Sx (s ts μ) (x ts μ)
inductive Wk where
 |no
 |lst (i:Nat) (xs:List T)
 |dic (i ep:Nat) (kvs:List (Key×T))
noncomputable def rg:List (Key×T)->List (Key×T)->Bool
 |[],[]=>aB
 |a::r,b::s=>decide (a.1=b.1)&&JS a.2 b.2&&rg r s
 |_,_=>aD
theorem Xk:∀{a b:List (Key×T)},rg a b=aB->a=b
 |[],[],_=>rfl
 |(i,a)::r,(j,b)::s,h=>by
  have h:(decide (i=j)&&JS a b&&rg r s)=aB:=h;rw[bK,bK] at h;rw[of_decide_eq_true h.1.1,Vm h.1.2,Xk h.2]
noncomputable def Wk.P:Wk->aI->Prop
 |.no=>f7
 |.lst i xs=>lF i xs
 |.dic i ep a=>B4 i ep a
noncomputable def Wk.chk:Wk->aI->Bool
 |.no,_=>aB
 |.lst i xs,a=>(match a[i]? with|some (.lst ys)=>Qm ys xs|_=>aD)
 |.dic i ep b,a=>(match a[i]? with|some (.frd _ ys)=>rg ys b|_=>aD)
noncomputable def Wk.req:Wk->aI->Prop
 |.dic i ep _,a=>(match a[i]? with|some (.frd e _)=>e=ep|_=>False)
 |_,_=>True
theorem Wk.chk_of{a:aI}:∀{w:Wk},w.chk a=aB->w.req a->w.P a
 |.no,_,_=>trivial
 |.lst i xs,h,_=>by
  unfold Wk.chk at h;dsimp only at h;split at h
  .rename_i ys e;rw[kR h] at e;exact e
  .cases h
 |.dic i ep b,h,q=>by
  unfold Wk.chk at h;unfold Wk.req at q;dsimp only at h q;split at h
  .rename_i c ys e;simp only[e] at q;rw[q,Xk h] at e;exact e
  .cases h
noncomputable def XR.look{β:Type}(w:Wk)(b:aI)(x:XR β):XR β:=match w with
 |.dic i ep a=>.grd ((Wk.dic i ep a).chk b) (.need ((Wk.dic i ep a).req b) x)
 |w=>.grd (w.chk b) x
theorem look_of{β:Type}{w:Wk}{a:aI}{x:XR β}{K:β->aI->Prop}{Z:Xp}(h:(XR.look w a x).wp K Z):w.P a/\x.wp K Z:=by
 cases w with
 |dic i ep c=>
  obtain⟨g,h⟩:=zt (b:=(Wk.dic i ep c).chk a) h;exact⟨Wk.chk_of g h.1,h.2⟩
 |no=>exact⟨trivial,h⟩
 |lst i xs=>
  obtain⟨g,h⟩:=zt (b:=(Wk.lst i xs).chk a) h;exact⟨Wk.chk_of g trivial,h⟩
theorem Sx.look{β:Type}{w:Wk}{a:aI}{r:RE β}{x:XR β}(h:Sx r x):Sx (RE.grd (w.P a) r) (XR.look w a x):=λK Z q=>⟨(look_of q).1,h K Z (look_of q).2⟩
structure IX where
 s:Di
 x:Sl->aI->XR (List T×Wk)
 ok:∀τ μ K Z,(x τ μ).wp (λp μ1=>K p.1 p.2.P μ1) Z->s τ μ K Z
noncomputable def xs:List EX->Sl->aI->XR (List T)
 |[],_,c=>.ok [] c
 |f::r,d,c=>(f.x d c).bind λt b=>(xs r d b).bind λe a=>.ok (t::e) a
theorem jJ:∀(fs:List EX) (τ:Sl) (a:aI),Sx (fB (fs.map EX.s) τ a) (xs fs τ a)
 |[],_,_=>Sx.ok
 |f::r,τ,a=>Sx.bind (f.ok τ a) λ_ b=>Sx.bind (jJ r τ b) λ_ _=>Sx.ok
namespace NX
noncomputable abbrev eC(t:T):EX:=⟨NH.eC t,λ_ a=>.ok t a,λ_ _=>Sx.ok⟩
noncomputable abbrev eSt:EX:=⟨NH.eSt,λ_ _=>.no,λ_ _=>Sx.no⟩
noncomputable abbrev eV(i:Nat):EX:=⟨NH.eV i,λa b=>.som (kg a i) λt=>.ok t b,λa b K Z h=>by
 obtain⟨t,e,h⟩:=qg h;show (match kg a i with|some t=>RE.ok t b|none=>RE.st) K Z;rw[e];exact h⟩
noncomputable abbrev eBin(op:mx)(f g:EX):EX:=⟨NH.eBin op f.s g.s,λd h=>(f.x d h).bind λa c=>(g.x d c).bind λb e=>F5 op a b e,λd h=>(f.ok d h).bind λ_ c=>(g.ok d c).bind λ_ _=>RB⟩
noncomputable abbrev eCmp(op:dA)(f g:EX):EX:=⟨NH.eCmp op f.s g.s,λd h=>(f.x d h).bind λa c=>(g.x d c).bind λb e=>rF op a b e,λd h=>(f.ok d h).bind λ_ c=>(g.ok d c).bind λ_ _=>WS⟩
noncomputable abbrev eIx(f g:EX):EX:=⟨NH.eIx f.s g.s,λd h=>(f.x d h).bind λa c=>(g.x d c).bind λb e=>G0 a b e,λd h=>(f.ok d h).bind λ_ c=>(g.ok d c).bind λ_ _=>z0C⟩
noncomputable abbrev eIn3(f g:EX):EX:=⟨NH.eIn3 f.s g.s,λd h=>(f.x d h).bind λa c=>(g.x d c).bind λb e=>Ip a b e,λd h=>(f.ok d h).bind λ_ c=>(g.ok d c).bind λ_ _=>O_⟩
noncomputable abbrev eFld(f:EX)(n:Nat):EX:=⟨NH.eFld f.s n,λb d=>(f.x b d).bind λa c=>K3 a n c,λb d=>(f.ok b d).bind λ_ _=>Wb⟩
noncomputable abbrev eIsi(cs:List Nat)(f:EX):EX:=⟨NH.eIsi cs f.s,λa b=>(f.x a b).bind (FA cs),λa b=>(f.ok a b).bind λ_ _=>Ss⟩
noncomputable abbrev eB1(op:O1)(f:EX):EX:=⟨NH.eB1 op.s f.s,λa b=>(f.x a b).bind op.x,λa b=>(f.ok a b).bind op.ok⟩
noncomputable abbrev eB2(op:O2)(f g:EX):EX:=⟨NH.eB2 op.s f.s g.s,λe h=>(f.x e h).bind λa d=>(g.x e d).bind λb c=>op.x a b c,λe h=>(f.ok e h).bind λa d=>(g.ok e d).bind λb c=>op.ok a b c⟩
noncomputable abbrev eC2(op:O2)(f g:EX):EX:=⟨NH.eC2 op.s f.s g.s,λe h=>(f.x e h).bind λa d=>(g.x e d).bind λb c=>op.x a b c,λe h=>(f.ok e h).bind λa d=>(g.ok e d).bind λb c=>op.ok a b c⟩
noncomputable abbrev eTup(fs:List EX):EX:=⟨NH.eTup (fs.map EX.s),λa c=>(xs fs a c).bind λd b=>.ok (.tup d) b,λa c=>(jJ fs a c).bind λ_ _=>Sx.ok⟩
noncomputable abbrev eLst(fs:List EX):EX:=⟨NH.eLst (fs.map EX.s),λa c=>(xs fs a c).bind λd b=>.ok (.lst d) b,λa c=>(jJ fs a c).bind λ_ _=>Sx.ok⟩
noncomputable abbrev eLay(fs:List EX):EX:=⟨NH.eLay (fs.map EX.s),λb c=>(xs fs b c).bind λd a=>.ok (.mut a.length) (a++[.lst d]),λb c=>(jJ fs b c).bind λ_ _=>Sx.ok⟩
noncomputable abbrev eCall(g:FX)(fs:List EX):EX:=⟨NH.eCall g.s (fs.map EX.s),λa b=>(xs fs a b).bind g.x,λa b=>(jJ fs a b).bind g.ok⟩
noncomputable abbrev lenT:O1:=⟨NH.lenT,Gn,λ_ _=>RF⟩
noncomputable abbrev tupleT:O1:=⟨NH.tupleT,rG .tup,λ_ _=>YO⟩
noncomputable abbrev listT:O1:=⟨NH.listT,rG .lst,λ_ _=>UW⟩
noncomputable abbrev layT:O1:=⟨NH.layT,Gg,λ_ _=>RH⟩
noncomputable abbrev allT:O1:=⟨NH.allT,Fi,λ_ _=>R6⟩
noncomputable abbrev sumT:O1:=⟨NH.sumT,FN,λ_ _=>Rx⟩
noncomputable abbrev intXT:O1:=⟨NH.intXT,G_,λ_ _=>T7⟩
noncomputable abbrev strNT:O1:=⟨NH.strNT,Gs,λ_ _=>TB⟩
noncomputable abbrev joinRT(a:aG):O1:=⟨NH.joinRT a,Hz a,λ_ _=>YR⟩
noncomputable abbrev maxRT:O1:=⟨NH.maxRT,Gy,λ_ _=>TC⟩
noncomputable abbrev sortRT:O1:=⟨NH.sortRT,Hu,λ_ _=>U7⟩
noncomputable abbrev lenK:O1:=⟨NH.lenK,GS,λ_ _=>UU⟩
noncomputable abbrev min2T:O2:=⟨NH.min2T,_,λ_ _ _=>Su⟩
noncomputable abbrev max2T:O2:=⟨NH.max2T,_,λ_ _ _=>SJ⟩
noncomputable abbrev ixKT:O2:=⟨NH.ixKT,Fs,λ_ _ _=>PQ⟩
noncomputable abbrev notInT:O2:=⟨NH.notInT,HI,λ_ _ _=>Yq⟩
end NX
end NH
end
section
namespace NH
open PySem L2
noncomputable def md{β:Type}(t:T)(k:Bool->XR β):XR β:=match t with
 |.bl b=>k b
 |_=>.no
noncomputable def i7{β:Type}(b:Bool)(x y:XR β):XR β:=match b with
 |true=>x
 |false=>y
theorem Hw{β:Type}{t:T}{k:Bool->XR β}{K:β->aI->Prop}{Z:Xp}(h:(md t k).wp K Z):∃b,t=.bl b/\(k b).wp K Z:=by
 cases t with
 |bl b=>exact⟨b,rfl,h⟩
 |_=>exact h.elim
theorem Sx.br'{β:Type}{b:Bool}{r s:RE β}{x y:XR β}(c:Sx r x)(a:Sx s y):Sx (RE.br b r s) (i7 b x y):=λ_ _ w=>by
 cases b with
 |true=>exact c _ _ w
 |false=>exact a _ _ w
theorem Sx.bl{f:Bool->RE T}{t:T}{x:Bool->XR T}(h:∀b,Sx (f b) (x b)):Sx (match t with|.bl b=>f b|_=>RE.st) (md t x):=λK Z w=>by
 obtain⟨b,rfl,w⟩:=Hw w;exact h b _ _ w
noncomputable def AT:List (dA×EX)->T->Sl->aI->XR T
 |[],_,_,_=>.no
 |p::r,a,f,g=>(p.2.x f g).bind λb e=>i7 r.isEmpty (rF p.1 a b e) ((rF p.1 a b e).bind λk d=>md k λc=>i7 c (AT r b f d) (.ok (.bl aD) d))
theorem Y7:∀(ps:List (dA×EX)) (a:T) (τ:Sl) (d:aI),Sx (JY (ps.map λp=>(p.1,p.2.s)) a τ d) (AT ps a τ d)
 |[],_,_,_=>Sx.no
 |p::r,a,τ,d=>(p.2.ok τ d).bind λb g=>λK Z w=>by
  have e:(r.map λp=>(p.1,p.2.s)).isEmpty=r.isEmpty:=by cases r<;>rfl
  show IK p.1 (r.map λp=>(p.1,p.2.s)).isEmpty (JY (r.map λp=>(p.1,p.2.s))) a b τ g K Z;rw[e];cases h:r.isEmpty with
  |true=>rw[h] at w;exact WS _ _ w
  |false=>rw[h] at w;exact (Sx.bind WS λk f=>Sx.bl λc=>Sx.br' (Y7 r b τ f) Sx.ok) _ _ w
noncomputable def Zi{β:Type}(t:T)(k:aG->XR β):XR β:=match t with
 |.str s=>k s
 |_=>.no
theorem jc{β:Type}{t:T}{k:aG->XR β}{K:β->aI->Prop}{Z:Xp}(h:(Zi t k).wp K Z):∃b,t=.str b/\(k b).wp K Z:=by
 cases t with
 |str b=>exact⟨b,rfl,h⟩
 |_=>exact h.elim
structure C2 where
 s:aG->aG->Prop
 x:aG->aG->Bool
 ok:∀a b,x a b=aB->s a b
noncomputable def zci{β:Type}(r:XR T)(k:Nat->List (Nat×T)->aI->XR β):XR β:=match r with
 |.ok .non (.obj c fs::m)=>k c fs m
 |_=>.no
noncomputable def AB {β:Type}(a:aI)(j:Nat)(x:XR β):XR β:=match a[j]? with
 |some (.tab k)=>.grd (cC k j) x
 |_=>.no
theorem RW{β:Type}{a:aI}{j:Nat}{x:XR β}{K:β->aI->Prop}{Z:Xp}(h:(AB a j x).wp K Z):a[j]?=aA (.tab j)/\x.wp K Z:=by
 unfold AB at h;split at h
 .rename_i k e;obtain⟨g,h⟩:=zt h;exact⟨by rw[e,fJ g],h⟩
 .exact h.elim
noncomputable def A9(τ:Sl):List Nat->Option (List T)
 |[]=>aA []
 |i::r=>(kg τ i).bind λt=>(A9 τ r).map (t::·)
theorem XB{τ:Sl}:∀{fs:List Nat}{ts:List T},A9 τ fs=aA ts->fs.map (kg τ)=ts.map aA
 |[],ts,h=>by cases h;rfl
 |i::r,ts,h=>by
  obtain⟨t,e,h⟩:=rb.mp h;obtain⟨a,b,rfl⟩:=gR.mp h;show kg τ i::r.map (kg τ)=aA t::a.map aA;rw[e,XB b]
noncomputable def uh:List T->Option (List T)
 |[]=>aA []
 |.clo 200 [t]::r=>(uh r).map (t::·)
 |_::_=>aF
theorem uX:∀{cs ts:List T},uh cs=aA ts->cs=ts.map λt=>.clo 200 [t]
 |[],ts,h=>by cases h;rfl
 |c::r,ts,h=>by
  unfold uh at h;split at h
  .rename_i e;cases e
  .rename_i t d e;cases e;obtain⟨b,a,rfl⟩:=gR.mp h;rw[uX a];rfl
  .cases h
noncomputable def BU:T->Option (Nat×Nat×List T)
 |.clo a (.clo b []::cs)=>if 300<=a/\100<=b then (uh cs).map λc=>(a-300,b-100,c) else aF
 |_=>aF
theorem T1{t:T}{p:Nat×Nat×List T}(h:BU t=aA p):t=KU p.1 p.2.1 p.2.2:=by
 unfold BU at h;split at h
 .rename_i a b cs;split at h
  .rename_i g;obtain⟨c,e,rfl⟩:=gR.mp h;show _=T.clo (300+(a-300)) (.clo (100+(b-100)) []::c.map λt=>.clo 200 [t]);rw[uX e,DL g.1,DL g.2]
  .cases h
 .cases h
noncomputable def n6 (c:Nat)(a:aI):XR T->XR T
 |.ok r m=>(match r,m with
  |.non,.obj b fs::_=>.grd (cC b c&&vu fs) (.ok (.obj c fs) a)
  |_,_=>.no)
 |.ex k fs _=>.grd (vu fs) (.ex k fs a)
 |.all f=>.all λe=>n6 c a (f e)
 |.need p x=>.need p (n6 c a x)
 |.no=>.no
theorem WV{c:Nat}{a:aI}{K:T->aI->Prop}{Z:Xp}:∀{x:XR T},(n6 c a x).wp K Z->x.wp (λr d=>r=.non/\∃fs,d[0]?=aA (.obj c fs)/\vu fs=aB/\K (.obj c fs) a) (λk fs _=>vu fs=aB/\Z k fs a)
 |.ok r m,h=>by
  unfold n6 at h;split at h
  .rename_i i fs b;obtain⟨g,h⟩:=zt h;rw[bK] at g;exact⟨rfl,fs,by rw[fJ g.1];rfl,g.2,h⟩
  .exact h.elim
 |.ex k fs m,h=>zt h
 |.all f,h=>λe=>WV (h e)
 |.need _ _,h=>⟨h.1,WV h.2⟩
 |.no,h=>h
namespace NX
noncomputable abbrev eNot(f:EX):EX:=⟨NH.eNot f.s,λc e=>(f.x c e).bind λa d=>md a λb=>.ok (.bl (!b)) d,λc e=>(f.ok c e).bind λ_ _=>Sx.bl λ_=>Sx.ok⟩
noncomputable abbrev eAnd(f g:EX):EX:=⟨NH.eAnd f.s g.s,λd e=>(f.x d e).bind λa c=>md a λb=>i7 b (g.x d c) (.ok (.bl aD) c),λd e=>(f.ok d e).bind λ_ c=>Sx.bl λ_=>Sx.br' (g.ok d c) Sx.ok⟩
noncomputable abbrev eOr(f g:EX):EX:=⟨NH.eOr f.s g.s,λd e=>(f.x d e).bind λa c=>md a λb=>i7 b (.ok (.bl aB) c) (g.x d c),λd e=>(f.ok d e).bind λ_ c=>Sx.bl λ_=>Sx.br' Sx.ok (g.ok d c)⟩
noncomputable abbrev eCh(f:EX)(ps:List (dA×EX)):EX:=⟨NH.eCh f.s (ps.map λp=>(p.1,p.2.s)),λc d=>(f.x c d).bind λa b=>AT ps a c b,λc d=>(f.ok c d).bind λa b=>Y7 ps a c b⟩
noncomputable abbrev tE(f:EX):TX:=⟨NH.tE f.s,λd e=>(f.x d e).bind λa c=>md a λb=>.ok b c,λd e=>(f.ok d e).bind λa c=>λK Z w=>by
 obtain⟨b,rfl,w⟩:=Hw w;exact w⟩
noncomputable abbrev tAnd(f g:TX):TX:=⟨NH.tAnd f.s g.s,λc d=>(f.x c d).bind λb a=>i7 b (g.x c a) (.ok aD a),λc d=>(f.ok c d).bind λ_ a=>Sx.br' (g.ok c a) Sx.ok⟩
noncomputable abbrev tOr(f g:TX):TX:=⟨NH.tOr f.s g.s,λc d=>(f.x c d).bind λb a=>i7 b (.ok aB a) (g.x c a),λc d=>(f.ok c d).bind λ_ a=>Sx.br' Sx.ok (g.ok c a)⟩
noncomputable abbrev tNot(f:TX):TX:=⟨NH.tNot f.s,λa d=>(f.x a d).bind λb c=>.ok (!b) c,λa d=>(f.ok a d).bind λ_ _=>Sx.ok⟩
noncomputable abbrev eIf(c:TX)(f g:EX):EX:=⟨NH.eIf c.s f.s g.s,λd e=>(c.x d e).bind λb a=>i7 b (f.x d a) (g.x d a),λd e=>(c.ok d e).bind λ_ a=>Sx.br' (f.ok d a) (g.ok d a)⟩
noncomputable abbrev pN:PX:=⟨NH.pN,λ_ a=>.ok aF a,λ_ _=>Sx.ok⟩
noncomputable abbrev pS(f:EX):PX:=⟨NH.pS f.s,λc d=>(f.x c d).bind λa b=>(match a with|.int i=>.ok (aA i) b|_=>.no),λc d=>(f.ok c d).bind λa b=>λK Z w=>by
 cases a with
 |int i=>exact w
 |_=>exact w.elim⟩
noncomputable abbrev eSl(f:EX)(l h:PX):EX:=⟨NH.eSl f.s l.s h.s,λb g=>(f.x b g).bind λa d=>(l.x b d).bind λi c=>(h.x b c).bind λj e=>E4 a i j e,λb g=>(f.ok b g).bind λ_ d=>(l.ok b d).bind λ_ c=>(h.ok b c).bind λ_ _=>Sn⟩
noncomputable abbrev anyC:C2:=⟨NH.anyC,λ_ _=>aB,λ_ _ _=>trivial⟩
noncomputable abbrev splitC:C2:=⟨NH.splitC,λa b=>dX a.length a9&&!(b.length==0),λa b h=>by rw[bK] at h;exact⟨qE h.1,by simpa using h.2⟩⟩
noncomputable abbrev eM1T(c:C2)(r:aG->aG->T)(o f:EX):EX:=⟨NH.eM1T c.s r o.s f.s,λe h=>(o.x e h).bind λa d=>Zi a λs=>(f.x e d).bind λb g=>Zi b λt=>.grd (c.x s t) (.ok (r s t) g),λe h=>(o.ok e h).bind λa d=>λK Z w=>by
 obtain⟨s,rfl,w⟩:=jc w;exact (Sx.bind (f.ok e d) λb g=>λK Z w=>by
  obtain⟨t,rfl,w⟩:=jc w;exact Sx.grd (c.ok s t) Sx.ok _ _ w) _ _ w⟩
noncomputable abbrev eJoin(o f:EX):EX:=⟨NH.eJoin o.s f.s,λd k=>(o.x d k).bind λa c=>Zi a λi=>(f.x d c).bind λb h=>(match b with|.lst l=>.som (bM l) λj=>.grd (g_ i j) (.ok (.str (iG i j)) h)|_=>.no),λd k=>(o.ok d k).bind λa c=>λK Z w=>by
 obtain⟨s,rfl,w⟩:=jc w;exact (Sx.bind (f.ok d c) λb h=>λK Z w=>by
  cases b with
  |lst l=>
   obtain⟨j,e,w⟩:=qg w;obtain⟨g,w⟩:=zt w;exact⟨j,e,g,w⟩
  |_=>exact w.elim) _ _ w⟩
noncomputable abbrev eGetC(c:List (aG×Int))(f:EX):EX:=⟨NH.eGetC c f.s,λd e=>(f.x d e).bind λa b=>Zi a λs=>.ok (yt s c) b,λd e=>(f.ok d e).bind λa b=>λK Z w=>by
 obtain⟨s,rfl,w⟩:=jc w;exact w⟩
noncomputable abbrev eApp(o f:EX):EX:=⟨NH.eApp o.s f.s,λd j=>(o.x d j).bind λa b=>(match a with
 |.mut i=>jo b i λ_=>(f.x d b).bind λt c=>jo c i λh=>.grd (ll h.length a9) (.ok .non (c.set i (.lst (h++[t]))))
 |_=>.no),λd j=>(o.ok d j).bind λa b=>λK Z w=>by
 cases a with
 | «mut» i=>
  obtain⟨h,e,w⟩:=zE w;refine⟨⟨h,e⟩,(f.ok d b) _ _ (bL (λt c q=>?_) (λ_ _ _ q=>q) (bX w))⟩;obtain⟨k,l,q⟩:=zE q;obtain⟨g,q⟩:=zt q;exact⟨k,l,iU.mp g,q⟩
 |_=>exact w.elim⟩
noncomputable abbrev eExt(o f:EX):EX:=⟨NH.eExt o.s f.s,λk m=>(o.x k m).bind λa c=>(match a with
 |.mut i=>jo c i λ_=>(f.x k c).bind λt b=>jo b i λh=>(match t with
  |.lst d=>.grd (dX (h.length+d.length) a9) (.ok .non (b.set i (.lst (h++d))))
  |.mut j=>.grd (!Nat.beq j i) (jo b j λd=>.grd (dX (h.length+d.length) a9) (.ok .non (b.set i (.lst (h++d)))))
  |_=>.no)
 |_=>.no),λk m=>(o.ok k m).bind λa c=>λK Z w=>by
 cases a with
 | «mut» i=>
  obtain⟨h,e,w⟩:=zE w;refine⟨⟨h,e⟩,(f.ok k c) _ _ (bL (λt b q=>?_) (λ_ _ _ q=>q) (bX w))⟩;obtain⟨l,p,q⟩:=zE q;cases t with
  |lst d=>
   obtain⟨g,q⟩:=zt q;exact⟨l,d,p,.inl rfl,qE g,q⟩
  | «mut» j=>
   obtain⟨n,q⟩:=zt q;obtain⟨d,r,q⟩:=zE q;obtain⟨g,q⟩:=zt q;exact⟨l,d,p,.inr ⟨j,rfl,λz=>(by subst z;rw[Nat.beq_refl] at n;cases n),r⟩,qE g,q⟩
  |_=>exact q.elim
 |_=>exact w.elim⟩
noncomputable abbrev eMeth(c:Nat)(g:FX)(o:EX)(as:List EX):EX:=⟨NH.eMeth c g.s o.s (as.map EX.s),λf h=>(o.x f h).bind λa b=>(match a with
 |.mut i=>rD b i λk _=>.grd (cC k c) ((xs as f b).bind λj d=>g.x (.mut i::j) d)
 |_=>.no),λf h=>(o.ok f h).bind λa b=>λK Z w=>by
 cases a with
 | «mut» i=>
  obtain⟨k,fs,e,w⟩:=Xm w;obtain⟨n,w⟩:=zt w;rw[fJ n] at e;exact⟨fs,e,(Sx.bind (jJ as f b) λj d=>g.ok (.mut i::j) d) _ _ w⟩
 |_=>exact w.elim⟩
noncomputable abbrev eMkL(c:Nat)(g:FX)(fs:List EX):EX:=⟨NH.eMkL c g.s (fs.map EX.s),λd e=>(xs fs d e).bind λf a=>(g.x (.mut a.length::f) (a++[.obj c []])).bind λr b=>(match r with|.non=>.ok (.mut a.length) b|_=>.no),λd e=>(jJ fs d e).bind λf a=>λK Z w=>g.ok _ _ _ _ (bL (λr b q=>by
 cases r with
 |non=>exact⟨rfl,q⟩
 |_=>exact q.elim) (λ_ _ _ q=>q) (bX w))⟩
noncomputable abbrev eLamC(jt j:Nat)(fs:List Nat):EX:=⟨NH.eLamC jt j fs,λc a=>AB a jt (.som (A9 c fs) λb=>.ok (KU j jt b) a),λc a K Z w=>by
 obtain⟨e,w⟩:=RW w;obtain⟨b,d,w⟩:=qg w;exact⟨⟨_,e⟩,b,XB d,w⟩⟩
noncomputable abbrev eKap(k:List (Nat×EX))(n:Nat)(o f:EX):EX:=⟨NH.eKap (k.map λp=>(p.1,p.2.s)) n o.s f.s,λd j=>(o.x d j).bind λt i=>(K3 t n i).bind λw c=>.som (BU w) λp=>.som k[p.1]? λq=>.grd (cC q.1 p.2.1) ((f.x d c).bind λa b=>q.2.x (aA a::p.2.2.map aA) b),λd j=>(o.ok d j).bind λt i=>Sx.bind Wb λw c=>λK Z h=>by
 obtain⟨p,e,h⟩:=qg h;obtain⟨q,l,h⟩:=qg h;obtain⟨g,h⟩:=zt h;refine⟨(p.1,(q.1,q.2.s),p.2.2),⟨by rw[eX,l];rfl,?_⟩,(Sx.bind (f.ok d c) λa b=>q.2.ok _ b) _ _ h⟩;rw[T1 e,fJ g]⟩
noncomputable abbrev eMk(c:Nat)(g:FX)(fs:List EX):EX:=⟨NH.eMk c g.s (fs.map EX.s),λb d=>(xs fs b d).bind λe a=>.grd (yu e) (n6 c a (g.x (.mut 0::e) [.obj c []])),λb d=>(jJ fs b d).bind λe a=>λK Z w=>by
 obtain⟨p,w⟩:=zt w;exact⟨p,g.ok _ _ _ _ (WV w)⟩⟩
end NX
end NH
end
section
namespace NH
open PySem L2
noncomputable def Si (r:RI)(x:XR (List T×Wk)):Prop:=∀K Z,x.wp (λp a=>K p.1 p.2.P a) Z->r K Z
noncomputable def Ia(t:T)(a:aI):XR (List T×Wk):=match t with
 |.lst xs=>.ok (xs,.no) a
 |.tup xs=>.ok (xs,.no) a
 |.str z=>.ok (Kk z,.no) a
 |.mut i=>jo a i λxs=>.ok (xs,.lst i xs) a
 |_=>.no
theorem Ut{t:T}{a:aI}:Si (Im t a) (Ia t a):=by
 intro K Z h;cases t with
 |lst xs=>exact h
 |tup xs=>exact h
 |str z=>exact h
 | «mut» i=>exact zE h
 |_=>exact h.elim
noncomputable def Gj (t:T)(a:aI):XR (List T×Wk):=match t with
 |.lst xs=>.ok (xs.reverse,.no) a
 |.mut i=>jo a i λxs=>.ok (xs.reverse,.lst i xs) a
 |_=>.no
theorem Sd{t:T}{a:aI}:Si (rk t a) (Gj t a):=by
 intro K Z h;cases t with
 |lst xs=>exact h
 | «mut» i=>exact zE h
 |_=>exact h.elim
noncomputable def xDW (t:T)(b:aI):XR (List T×Wk):=match t with
 |.mut i=>nY b i λa=>.all λep=>.ok (a.map λp=>n9 p.1,.dic i ep a) (b.set i (.frd ep a))
 |_=>.no
theorem QJ{r:RE T}{x:XR T}{k:T->aI->RI}{b:T->aI->XR (List T×Wk)}(h:Sx r x)(hk:∀t d,Si (k t d) (b t d)):Si (r.it k) (x.bind b):=λK Z w=>h _ _ (bL (λa d q=>hk a d K Z q) (λ_ _ _ q=>q) (bX w))
noncomputable def v0 (a:Int):Bool:=decide (mh a)
noncomputable def Z4(tg:Tg)(g:Sl->aI->XR (Option T))(w:Wk)(τ:Sl):List T->aI->XR (List T)
 |[],d=>.ok [] d
 |x::r,d=>.som (iM tg x τ) λb=>(g b d).bind λo a=>.look w a (match o with
  |some y=>(Z4 tg g w τ r a).bind λe c=>.ok (y::e) c
  |none=>Z4 tg g w τ r a)
theorem jk{tg:Tg}{g:Sl->aI->RE (Option T)}{d:Sl->aI->XR (Option T)}{w:Wk}{τ:Sl}(h:∀τ a,Sx (g τ a) (d τ a)):∀(l:List T) (a:aI),Sx (vp tg g w.P τ l a) (Z4 tg d w τ l a)
 |[],a=>Sx.ok
 |x::r,a=>Sx.som λc=>(h c a).bind λo b=>Sx.look (match o with
  |some y=>(jk h r b).bind λf e=>Sx.ok
  |none=>jk h r b)
noncomputable def ry:List TX->EX->Sl->aI->XR (Option T)
 |[],f,d,e=>(f.x d e).bind λy a=>.ok (aA y) a
 |c::r,f,d,e=>(c.x d e).bind λb a=>i7 b (ry r f d a) (.ok aF a)
theorem V2{f:EX}:∀(cs:List TX) (τ:Sl) (a:aI),Sx (yg (cs.map TX.s) f.s τ a) (ry cs f τ a)
 |[],τ,a=>(f.ok τ a).bind λ_ _=>Sx.ok
 |c::r,τ,a=>(c.ok τ a).bind λ_ b=>Sx.br' (V2 r τ b) Sx.ok
namespace NX
noncomputable abbrev iE(f:EX):IX:=⟨NH.iE f.s,λa b=>(f.x a b).bind Ia,λa b K Z w=>QJ (f.ok a b) (λ_ _=>Ut) K Z w⟩
noncomputable abbrev iRev(f:EX):IX:=⟨NH.iRev f.s,λa b=>(f.x a b).bind Gj,λa b K Z w=>QJ (f.ok a b) (λ_ _=>Sd) K Z w⟩
noncomputable abbrev iD(f:EX):IX:=⟨NH.iD f.s,λb a=>(f.x b a).bind xDW,λb a K Z w=>QJ (f.ok b a) (λt a K Z h=>by
 cases t with
 | «mut» i=>
  obtain⟨c,e,h⟩:=Vh h;exact⟨c,e,h⟩
 |_=>exact h.elim) K Z w⟩
noncomputable abbrev iRng(f:EX):IX:=⟨NH.iRng f.s,λb a=>(f.x b a).bind λt c=>(match t with|.int n=>.grd (v0 n) (.ok (rangeT n,.no) c)|_=>.no),λb a K Z w=>QJ (f.ok b a) (λt a K Z h=>by
 cases t with
 |int n=>
  obtain⟨g,h⟩:=zt h;exact⟨of_decide_eq_true g,h⟩
 |_=>exact h.elim) K Z w⟩
noncomputable abbrev iRng2(f g:EX):IX:=⟨NH.iRng2 f.s g.s,λd k=>(f.x d k).bind λa c=>(g.x d c).bind λb e=>(match a,b with|.int i,.int j=>.grd (v0 i&&v0 j) (.ok (X1 i j 1,.no) e)|_,_=>.no),λd k K Z w=>QJ (f.ok d k) (λa c=>QJ (g.ok d c) λb e K Z h=>by
 cases a with
 |int i=>cases b with
  |int j=>
   obtain⟨g,h⟩:=zt h
   rw[bK] at g
   exact⟨⟨of_decide_eq_true g.1,of_decide_eq_true g.2⟩,h⟩
  |_=>exact h.elim
 |_=>exact h.elim) K Z w⟩
noncomputable abbrev eComp(n:Nat)(fs:List Nat)(tg:Tg)(it:IX)(cs:List TX)(f:EX):EX:=⟨NH.eComp n fs tg it.s (cs.map TX.s) f.s,λb c=>(it.x b c).bind λp a=>.grd (dX p.1.length a9) ((Z4 tg (ry cs f) p.2 (fQ n fs b) p.1 a).bind λe d=>.ok (.lst e) d),λb c K Z w=>it.ok b c _ _ (bL (λp a q=>by
 obtain⟨g,q⟩:=zt q;exact⟨qE g,(Sx.bind (jk (λb c=>V2 cs b c) p.1 a) λ_ _=>Sx.ok) _ _ q⟩) (λ_ _ _ q=>q) (bX w))⟩
noncomputable abbrev eCompL(n:Nat)(fs:List Nat)(tg:Tg)(it:IX)(cs:List TX)(f:EX):EX:=⟨NH.eCompL n fs tg it.s (cs.map TX.s) f.s,λb d=>(it.x b d).bind λp a=>.grd (dX p.1.length a9) ((Z4 tg (ry cs f) p.2 (fQ n fs b) p.1 a).bind λe c=>.ok (.mut c.length) (c++[.lst e])),λb d K Z w=>it.ok b d _ _ (bL (λp a q=>by
 obtain⟨g,q⟩:=zt q;exact⟨qE g,(Sx.bind (jk (λb d=>V2 cs b d) p.1 a) λ_ _=>Sx.ok) _ _ q⟩) (λ_ _ _ q=>q) (bX w))⟩
end NX
end NH
end
section
namespace NH
open PySem L2
inductive OX where
 |nx (τ:Sl) (μ:aI)
 |rt (t:T) (μ:aI)
 |bk (τ:Sl) (μ:aI)
 |ct (τ:Sl) (μ:aI)
 |ex (c:Nat) (fs:List (Nat×T)) (τ:Sl) (μ:aI)
 |all (f:Nat->OX)
 |need (p:Prop) (x:OX)
 |no
namespace OX
noncomputable def wp:OX->bV
 |.nx b a,E=>E.nx b a
 |.rt t a,E=>E.rt t a
 |.bk b a,E=>E.bk b a
 |.ct b a,E=>E.ct b a
 |.ex c fs b a,E=>E.ex c fs b a
 |.all f,E=>∀e,(f e).wp E
 |.need p x,E=>p/\x.wp E
 |.no,_=>False
noncomputable def seq (k:Sl->aI->OX):OX->OX
 |.nx a b=>k a b
 |.all f=>.all λe=>(f e).seq k
 |.need p x=>.need p (x.seq k)
 |o=>o
noncomputable def turn (k:Sl->aI->OX):OX->OX
 |.nx a b=>k a b
 |.ct a b=>k a b
 |.bk a b=>.nx a b
 |.all f=>.all λe=>(f e).turn k
 |.need p x=>.need p (x.turn k)
 |o=>o
noncomputable def tri (k:Nat->List (Nat×T)->Sl->aI->OX):OX->OX
 |.ex c fs a b=>k c fs a b
 |.all f=>.all λe=>(f e).tri k
 |.need p x=>.need p (x.tri k)
 |o=>o
end OX
noncomputable def So (r:bV)(x:OX):Prop:=∀E,x.wp E->r E
theorem OX.wp_seq{k:Sl->aI->OX}{E:En}:∀{x:OX},(x.seq k).wp E->x.wp (E.nxt λτ d=>(k τ d).wp E)
 |.nx _ _,h=>h
 |.rt _ _,h=>h
 |.bk _ _,h=>h
 |.ct _ _,h=>h
 |.ex _ _ _ _,h=>h
 |.all f,h=>λe=>OX.wp_seq (h e)
 |.need _ _,h=>⟨h.1,OX.wp_seq h.2⟩
 |.no,h=>h
theorem OX.wp_turn{k:Sl->aI->OX}{E:En}:∀{x:OX},(x.turn k).wp E->x.wp (E.turn λτ d=>(k τ d).wp E)
 |.nx _ _,h=>h
 |.rt _ _,h=>h
 |.bk _ _,h=>h
 |.ct _ _,h=>h
 |.ex _ _ _ _,h=>h
 |.all f,h=>λe=>OX.wp_turn (h e)
 |.need _ _,h=>⟨h.1,OX.wp_turn h.2⟩
 |.no,h=>h
theorem OX.wp_tri{k:Nat->List (Nat×T)->Sl->aI->OX}{E:En}:∀{x:OX},(x.tri k).wp E->x.wp (E.tri λc fs τ d=>(k c fs τ d).wp E)
 |.nx _ _,h=>h
 |.rt _ _,h=>h
 |.bk _ _,h=>h
 |.ct _ _,h=>h
 |.ex _ _ _ _,h=>h
 |.all f,h=>λe=>OX.wp_tri (h e)
 |.need _ _,h=>⟨h.1,OX.wp_tri h.2⟩
 |.no,h=>h
theorem OX.mono{E E':En}(j:∀τ d,E.nx τ d->E'.nx τ d)(i:∀t d,E.rt t d->E'.rt t d)(g:∀τ d,E.bk τ d->E'.bk τ d)(b:∀τ d,E.ct τ d->E'.ct τ d)(a:∀c fs τ d,E.ex c fs τ d->E'.ex c fs τ d):∀{x:OX},x.wp E->x.wp E'
 |.nx _ _,h=>j _ _ h
 |.rt _ _,h=>i _ _ h
 |.bk _ _,h=>g _ _ h
 |.ct _ _,h=>b _ _ h
 |.ex _ _ _ _,h=>a _ _ _ _ h
 |.all f,h=>λe=>OX.mono j i g b a (h e)
 |.need _ _,h=>⟨h.1,OX.mono j i g b a h.2⟩
 |.no,h=>h
noncomputable def XR.out{β:Type}(τ:Sl)(k:β->aI->OX):XR β->OX
 |.ok a b=>k a b
 |.ex c fs b=>.ex c fs τ b
 |.all f=>.all λe=>(f e).out τ k
 |.need p x=>.need p (x.out τ k)
 |.no=>.no
theorem XR.wp_out{β:Type}{τ:Sl}{k:β->aI->OX}{E:En}:∀{x:XR β},(x.out τ k).wp E->x.wp (λa d=>(k a d).wp E) (λc fs d=>E.ex c fs τ d)
 |.ok _ _,h=>h
 |.ex _ _ _,h=>h
 |.all f,h=>λe=>XR.wp_out (h e)
 |.need _ _,h=>⟨h.1,XR.wp_out h.2⟩
 |.no,h=>h
theorem So.out{β:Type}{r:RE β}{x:XR β}{τ:Sl}{k:β->aI->bV}{b:β->aI->OX}(h:Sx r x)(hk:∀a d,So (k a d) (b a d)):So (r.out τ k) (x.out τ b):=λE w=>h _ _ (bL (λa d q=>hk a d E q) (λ_ _ _ q=>q) (XR.wp_out w))
structure SX where
 s:Ds
 x:Sl->aI->OX
 ok:∀τ μ,So (s τ μ) (x τ μ)
noncomputable def xb:List SX->Sl->aI->OX
 |[],b,d=>.nx b d
 |s::r,b,d=>(s.x b d).seq λa c=>xb r a c
theorem vq:∀(d:List SX) (τ:Sl) (a:aI),So (zK (d.map SX.s) τ a) (xb d τ a)
 |[],_,_=>λ_ h=>h
 |s::r,τ,a=>λE w=>s.ok τ a _ (OX.mono (E:=E.nxt λτ a=>(xb r τ a).wp E) (E':=E.nxt λτ a=>zK (r.map SX.s) τ a E) (λb c q=>vq r b c E q) (λ_ _ q=>q) (λ_ _ q=>q) (λ_ _ q=>q) (λ_ _ _ _ q=>q) (OX.wp_seq w))
noncomputable def mZ(b:Bool)(x y:OX):OX:=match b with
 |true=>x
 |false=>y
theorem So.br{b:Bool}{r s:bV}{x y:OX}(c:So r x)(a:So s y):So (bV.br b r s) (mZ b x y):=λ_ w=>by
 cases b with
 |true=>exact c _ w
 |false=>exact a _ w
noncomputable def F6{b:Type}(o:Option b)(k:b->OX):OX:=match o with
 |some a=>k a
 |none=>.no
theorem Rr{b:Type}{o:Option b}{k:b->OX}{E:En}(w:(F6 o k).wp E):∃a,o=aA a/\(k a).wp E:=by
 cases o with
 |none=>exact w.elim
 |some a=>exact⟨a,rfl,w⟩
noncomputable def Ql(b:Bool)(x:OX):OX:=match b with
 |true=>x
 |false=>.no
theorem wh{b:Bool}{x:OX}{E:En}(w:(Ql b x).wp E):b=aB/\x.wp E:=by
 cases b with
 |true=>exact⟨rfl,w⟩
 |false=>exact w.elim
noncomputable def OX.look(w:Wk)(b:aI)(x:OX):OX:=match w with
 |.dic i ep a=>Ql ((Wk.dic i ep a).chk b) (.need ((Wk.dic i ep a).req b) x)
 |w=>Ql (w.chk b) x
theorem OX.look_of{w:Wk}{a:aI}{x:OX}{E:En}(h:(OX.look w a x).wp E):w.P a/\x.wp E:=by
 cases w with
 |dic i ep c=>
  obtain⟨g,h⟩:=wh (b:=(Wk.dic i ep c).chk a) h;exact⟨Wk.chk_of g h.1,h.2⟩
 |no=>exact⟨trivial,h⟩
 |lst i xs=>
  obtain⟨g,h⟩:=wh (b:=(Wk.lst i xs).chk a) h;exact⟨Wk.chk_of g trivial,h⟩
noncomputable def n0(tg:Tg)(body:Sl->aI->OX)(w:Wk):List T->Sl->aI->OX
 |[],d,e=>.nx d e
 |x::r,d,e=>F6 (iM tg x d) λc=>(body c e).turn λb a=>OX.look w a (n0 tg body w r b a)
theorem Xl{tg:Tg}{body:Ds}{d:Sl->aI->OX}{w:Wk}(h:∀τ c,So (body τ c) (d τ c)):∀(l:List T) (τ:Sl) (c:aI),So (eK tg body w.P l τ c) (n0 tg d w l τ c)
 |[],_,_=>λ_ q=>q
 |x::r,τ,c=>λE q=>by
  obtain⟨f,e,q⟩:=Rr q;have go:∀b a,(OX.look w a (n0 tg d w r b a)).wp E->w.P a/\eK tg body w.P r b a E:=λb a q=>by
   obtain⟨g,q⟩:=OX.look_of q;exact⟨g,Xl h r b a E q⟩
  exact⟨f,e,h f c _ (OX.mono (E:=E.turn λτ c=>(OX.look w c (n0 tg d w r τ c)).wp E) (E':=E.turn λb a=>w.P a/\eK tg body w.P r b a E) go (λ_ _ q=>q) (λ_ _ q=>q) go (λ_ _ _ _ q=>q) (OX.wp_turn q))⟩
noncomputable def xX(c:Sl->aI->XR Bool)(body:Sl->aI->OX):Nat->Sl->aI->OX
 |0,_,_=>.no
 |n+1,d,g=>(c d g).out d λb a=>mZ b ((body d a).turn λe f=>xX c body n e f) (.nx d a)
theorem YC{c:TX}{body:List SX}{n:Nat}{τ:Sl}{e:aI}:So (NH.sWhile c.s (body.map SX.s) τ e) (xX c.x (xb body) n τ e):=λE w=>by
 refine⟨λn τ e=>(xX c.x (xb body) n τ e).wp E,⟨n,w⟩,λn τ e w=>?_⟩;cases n with
 |zero=>exact w.elim
 |succ n=>
  refine c.ok τ e _ _ (bL (λb f q=>?_) (λ_ _ _ q=>q) (XR.wp_out w));cases b with
  |false=>exact q
  |true=>exact vq body τ f _ (OX.mono (E:=E.turn λa d=>(xX c.x (xb body) n a d).wp E) (E':=E.turn λa d=>∃m,m<n+1/\(xX c.x (xb body) m a d).wp E) (λ_ _ q=>⟨n,iY _,q⟩) (λ_ _ q=>q) (λ_ _ q=>q) (λ_ _ q=>⟨n,iY _,q⟩) (λ_ _ _ _ q=>q) (OX.wp_turn q))
noncomputable abbrev HX:=List Nat×Option Nat×List SX
noncomputable abbrev HX.s(h:HX):List Nat×Option Nat×List Ds:=(h.1,h.2.1,h.2.2.map SX.s)
noncomputable def n5 (i:Option Nat):OX->OX
 |.nx b a=>.nx (match i with|some j=>b.set j aF|none=>b) a
 |.rt t a=>.rt t a
 |.all f=>.all λe=>n5 i (f e)
 |.need p x=>.need p (n5 i x)
 |_=>.no
noncomputable def Gi(i:Option Nat)(v:List SX)(k:Nat)(fs:List (Nat×T))(τ:Sl)(a:aI):OX:=n5 i (xb v (match i with|some j=>τ.set j (aA (.exc k fs))|none=>τ) a)
noncomputable def Xs:List HX->Nat->List (Nat×T)->Sl->aI->OX
 |[],k,fs,a,b=>.ex k fs a b
 |h::r,k,fs,a,b=>mZ (bR k h.1) (Gi h.2.1 h.2.2 k fs a b) (Xs r k fs a b)
theorem yk{E:En}:∀{x:OX},(n5 aF x).wp E->x.wp {nx:=E.nx,rt:=E.rt,bk:=λ_ _=>False,ct:=λ_ _=>False,ex:=λ_ _ _ _=>False}
 |.nx _ _,h=>h
 |.rt _ _,h=>h
 |.bk _ _,h=>h.elim
 |.ct _ _,h=>h.elim
 |.ex _ _ _ _,h=>h.elim
 |.all f,h=>λe=>yk (h e)
 |.need _ _,h=>⟨h.1,yk h.2⟩
 |.no,h=>h
theorem yo{E:En}{j:Nat}:∀{x:OX},(n5 (aA j) x).wp E->x.wp {nx:=λd μ2=>E.nx (vx d j aF) μ2,rt:=E.rt,bk:=λ_ _=>False,ct:=λ_ _=>False,ex:=λ_ _ _ _=>False}
 |.nx a _,h=>by
  show E.nx (vx a j aF) _;rw[va];exact h
 |.rt _ _,h=>h
 |.bk _ _,h=>h.elim
 |.ct _ _,h=>h.elim
 |.ex _ _ _ _,h=>h.elim
 |.all f,h=>λe=>yo (h e)
 |.need _ _,h=>⟨h.1,yo h.2⟩
 |.no,h=>h
theorem R8{i:Option Nat}{v:List SX}{k:Nat}{fs:List (Nat×T)}{τ:Sl}{a:aI}:So (AM i (v.map SX.s) k fs τ a) (Gi i v k fs τ a):=λE w=>by
 cases i with
 |none=>exact vq v τ a _ (yk w)
 |some j=>
  have w:=yo (x:=xb v (τ.set j (aA (.exc k fs))) a) w;rw[<-va] at w;exact vq v _ a _ w
theorem VH:∀(hs:List HX) (k:Nat) (fs:List (Nat×T)) (τ:Sl) (a:aI),So (U3 (hs.map HX.s) k fs τ a) (Xs hs k fs τ a)
 |[],_,_,_,_=>λ_ h=>h
 |h::r,k,fs,τ,a=>So.br R8 (VH r k fs τ a)
end NH
end
namespace NH
open PySem PySem.Spec PyProof.Rows L2
noncomputable def PE0 (X:Cx)(e:aH)(t:TE):Prop:=
 ∀(a:List (aE×a_)) (s:aW) (b:St) (H:Hp) (Q:VK),Inv X a b H s->0<s.toks->t b H Q->wpAny (aR X.prog X.w) X.A (eval e X.env) (EP X a b Q) X.xe s
section
variable {X:Cx}{D:DP}{W:XW}{f:De}{e:aH}{es:List aH}{fs:List De}
noncomputable def Nu(X:Cx)(D:DP)(W:XW):List aH->List De->Prop
 |[],[]=>True
 |e::es,f::fs=>aO e=aB/\PE0 X e (aV D W f)/\Nu X D W es fs
 |_,_=>False
end
noncomputable abbrev memNT(x y:T)(a:aI):RE T:=match y with
 |.tup c=>.som (nX x c) λb=>.ok (.bl (!b)) a
 |_=>.st
theorem OW{X:Cx}{D:DP}{W:XW}:rR X D W .NotIn memNT:=by
 intro d s C H B F E x y v w b J Q I n u t i h p;cases y with
 |tup G=>
  obtain⟨c,r,q⟩:=aJ.som p;obtain⟨ad,e,rfl,_,_,g,l⟩:=t;cases h;obtain⟨_,a,f,m⟩:=(show a8 X.prog X.w H s.heap ad (.tup e) from g.ok I.hok);obtain⟨k,j⟩:=Hn (A:=X.A.in1) (s:=s) u i r l f;refine SeqAt.notIn_tupleAt (λz=>mW z b) m (λz o=>k z (by simpa using o)) ⟨.bl _,H,I,rfl,?_⟩;have ea:a.toArray.any (λz=>mW z b)=c:=by rw[<-j];simp
  rw[ea];exact q.here n rfl
 |_=>exact aJ.elim p
noncomputable def BD:aH->Option (aH×aH)
 |.Compare a [.NotIn] [b] _=>gd (qU .NotIn b&&(match b with|.Tuple _ _ _=>aB|_=>aD)) (aA (a,b))
 |_=>aF
theorem z0c{e:aH}{q:aH×aH}(h:BD e=aA q):qU .NotIn q.2=aB/\∃pos,e=.Compare q.1 [.NotIn] [q.2] pos:=by
 unfold BD at h;split at h
 .obtain⟨a,h⟩:=z8 h;cases h;exact⟨(bK _ _▸a:qU .NotIn _=aB/\_).1,_,rfl⟩
 .cases h
noncomputable def Kw:TR:=λr a e=>(BD e).bind λq=>(r.e a q.1).bind λf=>(r.e a q.2).bind λg=>aA (tE (eC2 memNT f g))
theorem Ys{D:DP}:oF D Kw:=by
 intro r H X W l k e d C h;unfold Kw at h;obtain⟨q,b,h⟩:=aS h;obtain⟨f,j,h⟩:=aS h;obtain⟨g,i,h⟩:=aS h;cases h;obtain⟨c,a,rfl⟩:=z0c b;exact J2 OW c (H.e C j) (H.e C i)
end NH
section
namespace NH
open PySem L2
namespace NX
noncomputable abbrev sSet(i:Nat)(f:EX):SX:=⟨NH.sSet i f.s,λb c=>(f.x b c).out b λt a=>.nx (b.set i (aA t)) a,λb c=>So.out (f.ok b c) λt a E w=>by
 show E.nx (vx b i (aA t)) a;rw[va];exact w⟩
noncomputable abbrev sExpr(f:EX):SX:=⟨NH.sExpr f.s,λa c=>(f.x a c).out a λ_ b=>.nx a b,λa c=>So.out (f.ok a c) λ_ _ _ w=>w⟩
noncomputable abbrev sRet(f:EX):SX:=⟨NH.sRet f.s,λa c=>(f.x a c).out a λt b=>.rt t b,λa c=>So.out (f.ok a c) λ_ _ _ w=>w⟩
noncomputable abbrev sRetN:SX:=⟨NH.sRetN,λ_ a=>.rt .non a,λ_ _ _ w=>w⟩
noncomputable abbrev sIf(c:TX)(a b:List SX):SX:=⟨NH.sIf c.s (a.map SX.s) (b.map SX.s),λe f=>(c.x e f).out e λk d=>mZ k (xb a e d) (xb b e d),λe f=>So.out (c.ok e f) λ_ d=>So.br (vq a e d) (vq b e d)⟩
noncomputable abbrev sFor(tg:Tg)(it:IX)(b:List SX):SX:=⟨NH.sFor tg it.s (b.map SX.s),λa d=>(it.x a d).out a λp c=>n0 tg (xb b) p.2 p.1 a c,λa d E w=>it.ok a d _ _ (bL (λp c q=>Xl (λa d=>vq b a d) p.1 a c E q) (λ_ _ _ q=>q) (XR.wp_out w))⟩
noncomputable abbrev sWhile(c:TX)(b:List SX):SX:=⟨NH.sWhile c.s (b.map SX.s),xX c.x (xb b) 200,λa d=>YC⟩
noncomputable abbrev sFld(o:EX)(n:Nat)(f:EX):SX:=⟨NH.sFld o.s n f.s,λb j=>(f.x b j).out b λt h=>(o.x b h).out b λa d=>(match a with
 |.mut i=>(match d[i]? with
  |some (.obj c fs)=>Ql (ll fs.length 900) (.nx b (d.set i (.obj c (YI n t fs))))
  |_=>.no)
 |_=>.no),λb j=>So.out (f.ok b j) λt h=>So.out (o.ok b h) λa d E w=>by
 cases a with
 | «mut» i=>
  dsimp only at w;split at w
  .rename_i c fs e;obtain⟨g,w⟩:=wh w;exact⟨c,fs,e,iU.mp g,w⟩
  .exact w.elim
 |_=>exact w.elim⟩
noncomputable abbrev sPut3(o b f:EX):SX:=⟨NH.sPut3 o.s b.s f.s,λd m=>(f.x d m).out d λt l=>(o.x d l).out d λa j=>(b.x d j).out d λk h=>(match a,k with
 |.mut i,.int k=>(match h[i]? with
  |some (.dic c)=>Ql (ll c.length a9) (.nx d (h.set i (.dic (YN (.inl k) t c))))
  |_=>.no)
 |.mut i,.str k=>(match h[i]? with
  |some (.dic c)=>Ql (ll c.length a9) (.nx d (h.set i (.dic (YN (.inr k) t c))))
  |_=>.no)
 |_,_=>.no),λd m=>So.out (f.ok d m) λt l=>So.out (o.ok d l) λa j=>So.out (b.ok d j) λk h E w=>by
 cases a with
 | «mut» i=>cases k with
  |int k=>
   dsimp only at w
   split at w
   .rename_i c e
    obtain⟨g,w⟩:=wh w
    exact .inr ⟨c,e,iU.mp g,w⟩
   .exact w.elim
  |str k=>
   dsimp only at w
   split at w
   .rename_i c e
    obtain⟨g,w⟩:=wh w
    exact⟨c,e,iU.mp g,w⟩
   .exact w.elim
  |_=>exact w.elim
 |_=>exact w.elim⟩
noncomputable abbrev sRaise(c:Nat)(fs:List EX):SX:=⟨NH.sRaise c (fs.map EX.s),λa d=>(xs fs a d).out a λe b=>Ql (dX e.length a9) (.ex c [] a b),λa d=>So.out (jJ fs a d) λe b E w=>by
 obtain⟨g,w⟩:=wh w;exact⟨qE g,w⟩⟩
noncomputable abbrev sRaiseF(c f:Nat)(g:EX):SX:=⟨NH.sRaiseF c f g.s,λa d=>(g.x a d).out a λt b=>(match t with
 |.int i=>Ql (decide (i.natAbs.log2<1920)) (.ex c [(f,.int i)] a b)
 |_=>.no),λa d=>So.out (g.ok a d) λt b E w=>by
 cases t with
 |int i=>
  obtain⟨g,w⟩:=wh w;exact⟨of_decide_eq_true g,w⟩
 |_=>exact w.elim⟩
noncomputable abbrev sTry(b:List SX)(hs:List HX):SX:=⟨NH.sTry (b.map SX.s) (hs.map HX.s),λd e=>(xb b d e).tri λk fs a c=>Xs hs k fs a c,λd e E w=>vq b d e _ (OX.mono (E:=E.tri λk fs a c=>(Xs hs k fs a c).wp E) (E':=E.tri λk fs a c=>U3 (hs.map HX.s) k fs a c E) (λ_ _ q=>q) (λ_ _ q=>q) (λ_ _ q=>q) (λ_ _ q=>q) (λk fs a c q=>VH hs k fs a c E q) (OX.wp_tri w))⟩
noncomputable abbrev eDicE:EX:=⟨NH.eDicE,λ_ a=>.ok (.mut a.length) (a++[.dic []]),λ_ _=>Sx.ok⟩
noncomputable abbrev memNT:O2:=⟨NH.memNT,λx y c=>(match y with|.tup d=>.som (nX x d) λb=>.ok (.bl (!b)) c|_=>.no),λa b c K Z h=>by
 cases b with
 |tup d=>exact Sx.som (λ_=>Sx.ok) _ _ h
 |_=>exact h.elim⟩
end NX
noncomputable def rE:OX->XR T
 |.nx _ a=>.ok .non a
 |.rt t a=>.ok t a
 |.ex c fs _ a=>.ex c fs a
 |.all f=>.all λe=>rE (f e)
 |.need p x=>.need p (rE x)
 |_=>.no
theorem WW{K:T->aI->Prop}{Z:Xp}:∀{x:OX},(rE x).wp K Z->x.wp (En.fn K Z)
 |.nx _ _,h=>h
 |.rt _ _,h=>h
 |.bk _ _,h=>h.elim
 |.ct _ _,h=>h.elim
 |.ex _ _ _ _,h=>h
 |.all f,h=>λe=>WW (h e)
 |.need _ _,h=>⟨h.1,WW h.2⟩
 |.no,h=>h
noncomputable abbrev bC(n m:Nat)(b:List SX):FX:=⟨bA n m (b.map SX.s),λc a=>.grd (cC c.length n) (rE (xb b (K_ c m) a)),λc a K Z w=>by
 obtain⟨g,w⟩:=zt w;exact⟨fJ g,vq b _ a _ (WW w)⟩⟩
end NH
end
namespace NH
open PySem PySem.Spec PyProof.Rows L2
theorem Qn:entryFor table "proto.unchain"=aA iO.«proto.unchain»:=entryFor_of_tree (by kernel_rfl)
section
variable {prog:Program}{w:World}{A:Around}{E:aC->Shared->Prop}{s:Shared}
theorem VY{α:Type}{e hx:aE}{c b:a_}{vs a:Array aC}{Q:α->aW->Prop}(f:A.handled=aA (.ref hx))(ne:e≠hx)(ge:s.heap.get? e=aA c)(de:c.data=.fields vs)(sz:2<vs.size)
  (gh:s.heap.get? hx=aA b) (dh:b.data=.fields a) (g:a[2]?=aA .none) (q:E (.ref e) {s with heap:=s.heap.update e (fO (·.setIfInBounds 2 (.ref hx)))}):wpAny (aR prog w) A (raiseNew (.ref e):Sem α) Q E s:=by
 unfold raiseNew;refine wpAny_bind (wpAny_handled ?_);rw[f];dsimp only;have d:((b9 hx) != b9 e)=aB:=by simp;exact λz=>ne z.symm
 rw[if_pos d];refine wpAny_bind (wpAny_holding (wpAny_runValue (mP Qn ?_)));unfold iO.«proto.unchain»;dsimp only;refine wpAny_bind (gD gh dh g ?_);rw[if_pos (by rfl)];refine wpAny_bind (wpAny_pure ?_);refine wpAny_pure ?_;refine wpAny_bind ?_;show wpAny (aR prog w) A (setField (.ref e) 2 (.ref hx)) _ _ _;exact nF ge de sz (r6 q)
variable {nm q:aG}{C N:aE}{bs bm:List aC}{hdct:Bool}{sn:List aG}{sub:List aC}{ab:Bool}{col:Option Bool}{dd:Option aE}{k0 k1 k2 k3 k5:Option aC}{newId:String}
theorem VL {env:Env}{x c:Sem aC}{hx:aE}{Q:Flow->aW->Prop}(d:bm.contains (.type "BaseException")=aB) (D:A.handled=aA (.ref hx)) (F:∀(R:aC->aW->Prop) r,R .none r->wpAny (aR prog w) A c R E r)
  (go:wpAny (aR prog w) A x (λv a=>∃e t dx j m,v=.ref e/\e≠hx/\e≠C/\a.heap.get? C=aA (fY nm q C N bs bm hdct sn sub ab col dd k0 k1 k2 k3 k5 newId)/\
   a.heap.get? e=aA {cls:=.ref C,dict:=dx,data:=.fields #[.ref t,.none,.none,.none,.bool aD,.none]}/\a.heap.get? hx=aA j/\j.data=.fields m/\m[2]?=aA .none/\
   ∀h',h'.get? e=aA {cls:=.ref C,dict:=dx,data:=.fields #[.ref t,.none,.ref hx,.none,.bool aB,.none]}->(∀b o,b≠e->a.heap.get? b=aA o->h'.get? b=aA o)->E (.ref e) {a with heap:=h'}) E s) :
  wpAny (aR prog w) A (oU env (aA x) (aA c)) Q E s:=by
 have gV:(b9 C::bm).contains (.type "BaseException")=aB:=by rw[pF,d];simp
 unfold oU;refine wpAny_bind (cR go (λv a k=>?_) λ_ _ z=>z);obtain⟨e,t,dx,j,m,rfl,g,B,y,ge,gh,dh,G,H⟩:=k;refine wpAny_bind (wpAny_holding (F _ _ (wpAny_bind (wpAny_pure ?_))));dsimp only;obtain⟨u,K,L,I,J⟩:=a;repeat (first|(with_reducible refine l4 ge ?_)|(with_reducible refine l4 y ?_)|(with_reducible refine tO y ?_;rw[gV])|wp_step)
 have p:=l6 (fO λx=>x.setIfInBounds 3 dP) ge rfl;have i:=l6 (fO λx=>x.setIfInBounds 4 (lu aB)) p rfl;have n:=l6 (fO λx=>x.setIfInBounds 2 (b9 hx)) i rfl;have f:∀b o,b≠e->u.get? b=aA o->((u.update e (fO λx=>x.setIfInBounds 3 dP)).update e (fO λx=>x.setIfInBounds 4 (lu aB))).get? b=aA o:=λb o h l=>by
  rw[i3 _ _ (c7 h),i3 _ _ (c7 h)];exact l
 refine VY D g i rfl (by show 2<6;omega) (f hx j (c7 g) gh) dh G (H _ n λb o h l=>?_);rw[i3 _ _ (c7 h)];exact f b o h l
end
section
variable {X:Cx}{W:XW}{s:Shared}{σ:St}{H:Hp}
theorem Xc{M:Model}{v:Option aC}{a:aC->aW->Prop}{e0:Env}{out:List Env}{L:aE}(F:iN X e0 out L)(g:X.A.frames=aA X.stack)(y:∀e s,XP X W e s->a e s){e:aC}(p:XP X W e s) :
  notedBy M (X.A.mark v) X.env (se M X.A X.env a) e s:=by
 unfold notedBy;refine je (A:=X.A.mark v) F g p λx cls d l H T k ee I i j h w=>?_;subst ee;unfold se;obtain⟨D,B,N,m,C,r,E,hd,n,f,G,q,u,J,_⟩:=id h;refine wpAny_bind (gD r hd f ?_);rw[if_neg (show ¬((b9 T==dP)=aB) from by simp)];rw[F.fe]
 have go:wpAny M X.A (lO (.ref x) (aA L)) (λ_ c=>a (.ref x) c) a {s with heap:=k}:=
  zF (s:={s with heap:=k}) I i j h λK z b=>y _ _ ⟨x,cls,d,l,H,aA T,cF L,rfl,z,i,λt o=>by
   have:t=T:=by simpa using o
   rw[this];exact j,b,.inr ⟨L,F.fe,rfl⟩,w⟩
 first|exact go|exact wpAny_bind (wpAny_pure go)
end
noncomputable def xr(x:aE):aT->Prop:=λh=>∃o a,h.get? x=aA o/\o.data=.fields a/\a[2]?=aA .none
section
variable {X:Cx}{D:DP}{W:XW}{Γ:Cn}{k:Nat}{pins:List (aE×a_)}{s:Shared}{σ:St}{H:Hp}{φ α:List aE}{τ:Sl}{μ:aI}{a:aH}{pos:Pos}{E:Ends}{g:De}
theorem Il(C:Sk D W Γ X k){x:aE}:Sk D me {Γ with calm:=aD} (Cx.han (Cx.pin' X pins) x) k:=by
 obtain⟨e0,out,L,F⟩:=C.frm;exact {hK:=C.hK,hN:=C.hN,nd:=C.nd,vis:=C.vis,dbg:=C.dbg,dbG:=C.dbG,glb:=C.glb,glo:=C.glo,glU:=C.glU,cel:=C.cel,isi:=C.isi,fld:=C.fld,xcx:=C.xcx,ocx:=C.ocx,clv:=C.clv,clm:=(λz=>by cases z),rom:=(λz=>by cases z),rmh:=⟨C.rmh.dp,C.rmh.un⟩,xe:=(λe s p=>by obtain⟨_,_,_,_,_,_,_,_,_,_,_,_,_,z⟩:=p;exact z),frm:=⟨e0,out,L,F.stk,F.f0,F.fe⟩,lam:=C.lam,kfz:=C.kfz,sto:=C.sto,lcl:=C.lcl,pso:=DA,xmt:=C.xmt}
noncomputable abbrev RE.clm{β:Type}(r:RE β):RE β:=λK _=>r K λ_ _ _=>False
noncomputable abbrev ja(n:Nat)(g:De):Ds:=λτ μ=>(g τ μ).clm.out τ λ_ a=>.ex n [] τ a
noncomputable abbrev sTryP(b:List Ds)(c n:Nat)(g:De):Ds:=λτ μ E=>zK b τ μ (E.tri λk fs a d=>(bV.br (zD k c) (.grd (fs.length=1) (ja n g a d)) (.ex k fs a d)) E)
theorem Jp(C:Sk D W Γ X k){x:aE}{y:aG}{n ck:Nat}{p1 p2 p3 p4:Pos}(hy:y∈Γ.G)(hg:Γ.gl y=.xcl n)(V:aO a=aB)(ha:PE (Cx.han (Cx.pin' X pins) x) a (aV D me g))
  (I:Inv (Cx.pin' X pins) [] σ H s) (ox:cN (Cx.pin' X pins) H x) (hx:xr x s.heap) (sr:aZ D φ α H τ σ) (mr:aL D φ α H μ) (p:aK D W φ α H E (ja n g τ μ)) {F0:aC->aW->Prop}(hE:∀e s,XP X W e s->F0 e s) {R:Flow->aW->Prop} :
  wpAny (aR X.prog X.w) (X.A.mark (aA (.ref x))) (exec (.Raise (aA (.Call (.Name y p1) [a] [] p2)) (aA (.Constant .none ck p3)) p4) X.env) R F0 s:=by
 have C2:=Il (pins:=pins) (x:=x) C;have q:=C.glo y hy;rw[hg] at q;obtain⟨C0,ad,hm,hex⟩:=q;have ok0:(Cx.pin' X pins).Ok:=I.ok;obtain⟨tl,N,nm,qn,bs,hd,sn,sub,ab,col,dd,k0,k1,k2,k3,k5,mN,o1,o2,o3,o4⟩:=uw I.ok.mod.kin hex;have O:tl.contains (.type "BaseException")=aB:=o4.hasType l8.hasBase;have J:=xf (x:=x) (vd (o:=.ext (xr x)) I ox (λp j=>absurd j (by simp)) ⟨hx,let ⟨o,_,e,_⟩:=hx;⟨o,e⟩,λh1 h2 ⟨o,vs,e,q⟩ k=>⟨o,vs,k _ e,q⟩⟩);have B:aP α H α (aX H x (.ext (xr x))):=aP.new (z7 ox.free);have m0:=mr.new (z7 (o:=HO.ext (xr x)) ox.free);have L:=sr.step B;have p0:=aK.step p B;generalize hH:aX H x (.ext (xr x))=P at J B m0 L p0;have hxt:P x=aA (.ext (xr x)):=by rw[<-hH];exact z4
 have body:wpAny (aR X.prog X.w) (X.A.mark (aA (.ref x))) (eval (.Call (.Name y p1) [a] [] p2) X.env) (λv i=>∃e t dx oh vh,v=.ref e/\e≠x/\e≠C0/\i.heap.get? C0=aA (fY nm qn C0 N bs tl hd sn sub ab col dd k0 k1 k2 k3 k5 "ValueError.__new__")/\
   i.heap.get? e=aA {cls:=.ref C0,dict:=dx,data:=.fields #[.ref t,.none,.none,.none,.bool aD,.none]}/\i.heap.get? x=aA oh/\oh.data=.fields vh/\vh[2]?=aA .none/\
   ∀Z,Z.get? e=aA {cls:=.ref C0,dict:=dx,data:=.fields #[.ref t,.none,.ref x,.none,.bool aB,.none]}->(∀b o,b≠e->i.heap.get? b=aA o->Z.get? b=aA o)->F0 (.ref e) {i with heap:=Z}) F0 s:=by
  refine cR (E:=(Cx.han (Cx.pin' X pins) x).xe) ?_ (λ_ _ z=>z) (λ_ _ z=>z.elim);refine DG (zR (X:=Cx.han (Cx.pin' X pins) x) J (C2.glb y hy) hm ?_ (C2.dbG y hy));have sA:=aY (zj ha zC (z3 V) p2 [] s σ P (λvs h=>∃v t f c,vs=[v]/\aP α P c h/\aZ D φ c h τ σ/\aL D φ c h f/\a6 D φ c h t v/\aK D W φ c h E (.ex n [] τ f)) J ⟨φ,α,τ,μ,L,m0,by
   obtain⟨Q,q,hQ⟩:=p0;exact⟨_,_,q,λt S z α' H' st m v d=>⟨v,t,S,α',rfl,st,L.step st,m,d,aK.step (show aK D W φ α P E (.ex n [] τ S) from ⟨Q,z,hQ⟩) st⟩,λ_ _ _ z=>z.elim⟩⟩) (Q':=λus i=>us.length<=sizeLine/\∃h f c,Inv (Cx.han (Cx.pin' X pins) x) [] σ h i/\aP α P c h/\aZ D φ c h τ σ/\aL D φ c h f/\aK D W φ c h E (.ex n [] τ f)) (by
    rintro us i ⟨vs,h,r,rv,v,t,f,c,rfl,u,K,M,d1,pp⟩;exact⟨by rw[<-rv.length];show 1<=sizeLine;decide,h,f,c,r,u,K,M,pp⟩)
  unfold callWith;rw[z3 V] at sA ⊢;refine wpAny_bind (wpAny_holding (cR (mR (Q:=λav i=>av.kw=[]/\(av.pos.length<=sizeLine/\∃h f c,Inv (Cx.han (Cx.pin' X pins) x) [] σ h i/\aP α P c h/\aZ D φ c h τ σ/\aL D φ c h f/\aK D W φ c h E (.ex n [] τ f))) (aY sA λus i h1=>⟨rfl,h1⟩)) (λav s2 h2=>wpAny_bind (fF ?_)) λ_ _ x=>x));obtain⟨apos,akw⟩:=av;obtain⟨hkw,Y,h,f,c,r,u,K,M,pp⟩:=h2;obtain rfl:akw=[]:=hkw;obtain⟨j,gg,dd',tk,os⟩:=s2;have hC:=r.bk _ _ o1;have U:h x=aA (.ext (xr x)):=u.keep x _ (za mr ox.free) hxt;obtain⟨oh,vh,hh1,hh2,hh3⟩:xr x j:=(show a8 X.prog X.w _ j x (.ext (xr x)) from r.hok x _ U).1;refine wpAny_bind (wpAny_keeperOf_exc hC ?_);refine wpAny_bind (wpAny_call_exc_subT (hrest:=Y) l8 (o4.keeps r.bk) hC (o2.keeps r.bk) o3 λh1 e mk=>wpAny_bind (wpAny_holding (wpAny_point (wpAny_pure ?_))));obtain⟨t,ht,_,_⟩:=mk.there;have l:=wy r mk.new;have nx:e≠x:=λz=>by
   have:=l.free;rw[z,U] at this;cases this
  have nC:e≠C0:=λz=>by
   have:=mk.new;rw[z,hC] at this;cases this
  refine⟨e,t,aF,oh,vh,rfl,nx,nC,mk.keeps _ _ hC,ht,mk.keeps _ _ hh1,hh2,hh3,λZ he' hk=>hE _ _ ?_⟩;have I3:Inv (Cx.han (Cx.pin' X pins) x) [] σ h ⟨h1,gg,dd',tk,os⟩:=r.kept (t':=tk) mk.keeps;have I4:Inv (Cx.han (Cx.pin' X pins) x) [] σ h ⟨Z,gg,dd',tk,os⟩:=uK (ch:=[e]) I3 (λb hb=>by rw[c8.mp hb];exact⟨l,λp j=>absurd j (by simp)⟩) (λb o _ hc e1=>hk b o (λz=>hc (by simp[z])) e1) λb o _ hc e1=>⟨o.slots,hk b o (λz=>hc (by simp[z])) e1⟩;have I5:=(zk (jh ok0 I4)).pins_of (pins':=[]) (λp j=>absurd j (by simp));exact⟨e,.int (C0:Int) 0,aF,σ,_,aF,.none,rfl,I5,⟨l.free,l.loc,l.nfs,l.new,l.cel,λp j=>l.pin p (d9 _ j)⟩,λt ht=>absurd ht (by simp),⟨⟨_,_,.ref t,he',⟨(ua (p:=True) (.inr ⟨trivial,rfl⟩)).symm,rfl⟩,rfl,rfl,rfl,λa z=>by cases z⟩,rfl⟩,.inl rfl,aK.ex pp (aP.refl _ _) M K (.own C0 ad (.inr ⟨by decide,rfl⟩)) rfl⟩
 rw[arm_exec_Raise];simp only[evalOpt,Cw];refine wpAny_bind (fF (VL (hx:=x) O rfl (λR s' q=>?_) (wpAny_bind (cR body (λv s₃ T=>wpAny_bind (fF (wpAny_pure T))) λ_ _ x=>x))));exact wpAny_bind (wpAny_Constant_none (wpAny_bind (fF (wpAny_pure q))))
theorem RM(C:Sk D W Γ X k)(hc:Γ.calm=aB){body:List bB}{us:List Ds}{T y:aG}{c n ck:Nat}{p0 p1 p2 p3 p4 pp:Pos}(A:∀U W',Sk D W' Γ U k->u4 U D W' body us)(u:c9 Γ T c)
  (hy:y∈Γ.G) (hg:Γ.gl y=.xcl n) (hst:aO a=aB) (ha:∀U,Sk D me {Γ with calm:=aD} U k->PE U a (aV D me g)) :
  PS X (.Try body [.ExceptHandler (aA (.Name T p0)) aF [.Raise (aA (.Call (.Name y p1) [a] [] p2)) (aA (.Constant .none ck p3)) p4] pp] [] [] pos) (cZ D W (sTryP us c n g)):=by
 rintro b s σ H E I ⟨O,α,τ,μ,sr,mr,Q,q,K,h2,h3,h4,h5⟩;obtain⟨e0,out,L,F⟩:=C.frm;have F0:iN (Cx.pin' X b) e0 out L:=⟨F.stk,F.f0,F.fe⟩;generalize hW:(λ(cls:aC) (d:Option aE) (h:St) (o:Hp)=>∃t fs i j l,(bV.br (zD t c) (.grd (fs.length=1) (ja n g i j)) (.ex t fs i j)) Q/\gJ D t fs cls/\aP α H l o/\aL D O l o j/\aZ D O l o i h/\bO D O l o fs d:XW)=Z;have C1:Sk D Z Γ ((Cx.pin' X b).wish (XP (Cx.pin' X b) Z)) k:={hK:=C.hK,hN:=C.hN,nd:=C.nd,vis:=C.vis,dbg:=C.dbg,dbG:=C.dbG,glb:=C.glb,glo:=C.glo,glU:=C.glU,cel:=C.cel,isi:=C.isi,fld:=C.fld,xcx:=C.xcx,ocx:=C.ocx,clv:=C.clv,clm:=C.clm,rom:=C.rom,rmh:=⟨C.rmh.dp,C.rmh.un⟩,xe:=λe s p=>wF p,frm:=⟨e0,out,L,F.stk,F.f0,F.fe⟩,lam:=C.lam,kfz:=C.kfz,sto:=C.sto,lcl:=C.lcl,pso:=jd F0 I.ok.frames,xmt:=C.xmt};have B:=qh (A _ Z C1) [] s σ H E ((ZE I).wish _) ⟨O,α,τ,μ,sr,mr,_,q,K,h2,h3,h4,λt fs i j z α' o h cv d st m sr' ad xd=>by rw[<-hW];exact⟨t,fs,i,j,α',z,ad,st,m,sr',xd⟩⟩;refine Dd (cR B (λf V K=>?_) (λe1 V hx=>?_))
 .cases f with
  |next=>obtain⟨h,o,N,q⟩:=K;exact WO b V h o E (zk N.unwish) q
  |brk=>obtain⟨h,o,N,q⟩:=K;exact⟨h,o,zk N.unwish,q⟩
  |cont=>obtain⟨h,o,N,q⟩:=K;exact⟨h,o,zk N.unwish,q⟩
  |ret w=>obtain⟨y,h,o,N,r,q⟩:=K;exact⟨y,h,o,zk N.unwish,r,q⟩
 have hx:XP (Cx.pin' X b) Z e1 V:=hx;refine je (X:=Cx.pin' X b) F0 I.ok.frames hx λx cls d σ1 H1 Tt h' ee I1 Y oT tr w=>?_;subst ee;refine zF (X:=Cx.pin' X b) (s:={V with heap:=h'}) I1 Y oT tr λh2' I2 v=>?_;rw[<-hW] at w;obtain⟨t,fs,i,j,l,z,ad,st1,m1,P,xd⟩:=w;have p:aK D W O l H1 E (bV.br (zD t c) (.grd (fs.length=1) (ja n g i j)) (.ex t fs i j)):=aK.step ⟨Q,z,K,h2,h3,h4,h5⟩ st1;obtain⟨Cc,R,J⟩:=u.mg C;have IX:=xf (x:=x) I2;have S:=XF C ad u R J;refine DN (Er (zR (X:=Cx.han (Cx.pin' X b) x) IX (C.glb T u.1) R ?_ (C.dbG T u.1))) (λq=>by cases q);refine (DB (M:=aR X.prog X.w) IX.kIn (d6.ty v) S).at ?_;rcases aK.br p with⟨A,p⟩|⟨A,p⟩
 .rw[A];obtain⟨hle,p⟩:=aK.grd p;refine Ey (zF (X:=Cx.pin' X b) I2 Y oT v λh3' I3 tr3=>?_);obtain⟨oe,vs',a0,oT',ts,ho,hcc,hd,hv0,hv1,hT,hoT,hdT,h3,hv2⟩:=id tr3;obtain⟨Ck,adk,ecv⟩:∃Ck,D.adr t=aA Ck/\cls=.ref Ck:=by
   cases ad with
   |own Ck ad e=>exact⟨Ck,ad,e.resolve_right λz=>z.1 hle⟩
   |blt n hn1 hn2 e=>
    rw[Ko hn1 (λz=>by rw[z,hn2] at J;cases J)] at A;cases A
  refine wpAny_execs_cons (Jp C hy hg hst (ha _ (Il C)) I3 Y ⟨oe,vs',ho,hd,hv2 _ ecv⟩ P m1 p λe s6 xp=>?_);exact Xc F I.ok.frames (λe s q=>C.xe e s q) xp
 .rw[A];exact Ky C ad (hs:=[]) (r:=[]) trivial I2 Y oT v xd m1 P p
end
noncomputable def Ai:List lw->Option (aG×aG×aH)
 |[.ExceptHandler (aA (.Name x _)) aF [.Raise (aA e) (aA (.Constant .none _ _)) _] _]=>(Gr e).bind λq=>(ZQ q.2).bind λa=>aA (x,q.1,a)
 |_=>aF
theorem Sj{hs:List lw}{x y:aG}{a:aH}(h:Ai hs=aA (x,y,a)):∃p0 p1 z u m j ck,hs=[.ExceptHandler (aA (.Name x p0)) aF [.Raise (aA (.Call (.Name y p1) [a] [] z)) (aA (.Constant .none ck u)) m] j]:=by
 unfold Ai at h;split at h
 .obtain⟨⟨i,d⟩,g,f⟩:=aS h;obtain⟨b,c,e⟩:=aS f;cases e;obtain⟨p0,p1,rfl⟩:=Tc g;have ea:d=[a]:=by
   cases d with
   |nil=>cases c
   |cons b r=>cases r with
    |nil=>cases c;rfl
    |cons _ _=>cases c
  subst ea;exact⟨_,_,_,_,_,_,_,rfl⟩
 .cases h
noncomputable def B6(Γ:Cn)(x:aG)(c:Nat):Bool:=Γ.G.contains x&&ll c 40&&(match Γ.gl x with
 |.xcl a=>cC a c
 |.xcf a _=>cC a c
 |_=>aD)
theorem Nk{Γ:Cn}{x:aG}{c:Nat}(d:Γ.cls.lookup x=aA c)(h:B6 Γ x c=aB):c9 Γ x c:=by
 unfold B6 at h;simp only[bK] at h;refine⟨by simpa using h.1.1,bS d,?_,iU.mp h.1.2⟩;have a:=h.2;cases b:Γ.gl x with
 |xcl e=>simp only[b] at a;have:=fJ a;rw[this];exact .inr rfl
 |xcf e f=>simp only[b] at a;have:=fJ a;rw[this];exact .inl ⟨f,rfl⟩
 |_=>rw[b] at a;cases a
noncomputable def HQ:SR:=λr a s=>match s with
 |.Try b h d fin _=>(Ai h).bind λq=>gd (a.calm&&d.isEmpty&&fin.isEmpty&&a.G.contains q.2.1&&aO q.2.2) ((a.cls.lookup q.1).bind λc=>gd (B6 a q.1 c) ((z9 (r.s a) b).bind λf=>(r.e {a with calm:=aD} q.2.2).bind λg=>(match a.gl q.2.1 with
  |.xcl n=>aA (sTryP f c n g)
  |_=>aF)))
 |_=>aF
theorem UI{D:DP}:m9 D HQ:=by
 intro r H X W A k e d C h;cases e with
 |Try b N m fin p=>
  obtain⟨⟨x,y,a⟩,B,v⟩:=aS h;obtain⟨f,u⟩:=z8 v;simp only[bK] at f;obtain⟨c,w,t⟩:=aS u;obtain⟨i,s⟩:=z8 t;obtain⟨G,E,q⟩:=aS s;obtain⟨g,z,j⟩:=aS q;dsimp only at j z f w i;clear h v u t s q;obtain⟨M,p1,L,K,J,I,ck,rfl⟩:=Sj B;cases m with
  |cons _ _=>simp at f
  |nil=>
   cases fin with
   |cons _ _=>simp at f
   |nil=>
    cases l:A.gl y with
    |xcl n=>
     simp only[l] at j;cases j;exact RM C f.1.1.1.1 (λF O o=>zS H o E) (Nk w i) (by simpa using f.1.2) l f.2 (λF o=>H.e o.toCk z)
    |_=>simp[l] at j
 |_=>cases h
noncomputable abbrev BS(x y:aG):T:=.tup ([(iK x y).1,(iK x y).2.1,(iK x y).2.2].map T.str)
section
variable {X:Cx}{D:DP}
open Builtin Builtin.Str in
theorem T6{P:bZ}{w:cX}{A:dW}{E:aC->aW->Prop}{s:aW}{x y:aG}{t u:Tok}{Q:aC->aW->Prop}(a:(y.length==0)=aD)(hsz:x.length<=sizeLine)
  (h:∀vs tk,aU ([(iK x y).1,(iK x y).2.1,(iK x y).2.2].map V.str) vs->Q (.ref s.heap.objs.size) {s with heap:=s.heap.push {cls:=.type "tuple",data:=.seq vs.toArray},toks:=tk}) :
  wpAny (aR P w) A (call (.builtin "str.partition") [.str x t,.str y u]) Q E s:=by
 refine mz F.slot_str_partition (iV _ _ _) F.entry_str_partition (F.args_str_partition_2 _ _) (meets_str_partition x y t u a hsz) ?_;unfold iK at h;revert h;cases occurrences x y 0 x.length 1 with
 |nil=>intro h;exact h _ _ (.cons ⟨_,rfl⟩ (.cons ⟨_,rfl⟩ (.cons ⟨_,rfl⟩ .nil)))
 |cons i r=>intro h;exact h _ _ (.cons ⟨_,rfl⟩ (.cons ⟨_,rfl⟩ (.cons ⟨_,rfl⟩ .nil)))
theorem Nn:rT X D "str.partition" splitC BS:=by
 intro c s l H k n m x y t u Q I d f h;refine T6 f.2 (cV f.1 (by unfold a9;decide)) λg i j=>?_;have a:H s.heap.objs.size=aF:=I.hok.fresh (bG _);refine⟨.ref _,aX H s.heap.objs.size (.tup ([(iK x y).1,(iK x y).2.1,(iK x y).2.2].map V.str)),I.laid (t':=i) (λb u e=>bN _ e) (bG _) ⟨by show 3<=sizeLine;decide,g,j,oZ _ _⟩,rfl,h _ _ (z7 a) ?_⟩;exact⟨_,_,rfl,zb d a,za d a,.inl z4,ZY⟩
noncomputable def Hf:ER:=mY "partition" (eM1T splitC BS)
theorem UT:cA D Hf:=Z7 λC b a d c e=>KS PySem.F.slot_str_partition PySem.F.type_str_partition Nn b a d c e
end
section
mutual
def vj (n:Nat):T->Bool
 |.mut i=>ll i n
 |.tup a=>u0 n a
 |.lst a=>u0 n a
 |.obj _ fs=>Um n fs
 |.exc _ fs=>Um n fs
 |.dic b=>Ui n b
 |.clo _ cs=>u0 n cs
 |_=>aB
def u0 (n:Nat):List T->Bool
 |[]=>aB
 |t::r=>vj n t&&u0 n r
def Um (n:Nat):List (Nat×T)->Bool
 |[]=>aB
 |p::r=>vj n p.2&&Um n r
def Ui (n:Nat):List (Key×T)->Bool
 |[]=>aB
 |p::r=>vj n p.2&&Ui n r
end
noncomputable def JH (n:Nat):MO->Bool
 |.lst b=>u0 n b
 |.obj _ fs=>Um n fs
 |.dic a=>Ui n a
 |.frd _ a=>Ui n a
 |_=>aB
@[irreducible] noncomputable def vG(n:Nat)(g:Fn):Fn:=λc b K _=>(n<=b.length/\u0 n c=aB/\(b.take n).all (JH n)=aB)/\g c (b.take n) (λt a=>(vj n t=aB/\(a.take n).all (JH n)=aB)/\K t (a.take n++b.drop n)) λ_ _ _=>False
noncomputable abbrev eCallN(n:Nat)(g:Fn)(fs:List De):De:=λa b=>(fB fs a b).bind (vG n g)
structure Mv(n:Nat)(φ α φ' β:List aE):Prop where
 o:∀a,a∉φ->a∉α->a∉φ'/\a∉β
 i:∀i a,i<n->α[i]?=aA a->β[i]?=aA a
section
variable {D:DP}{φ α φ' β:List aE}{H:Hp}{n:Nat}
mutual
theorem a6.move(k:Mv n φ α φ' β):∀{t:T}{v:V},vj n t=aB->a6 D φ α H t v->a6 D φ' β H t v
 |.non,_,_,h=>h
 |.bl _,_,_,h=>h
 |.int _,_,_,h=>h
 |.str _,_,_,h=>h
 |.mut i,_,p,h=>by
  obtain⟨a,e,q⟩:=h;exact⟨a,k.i i a (iU.mp (by simpa[vj] using p)) e,q⟩
 |.tup ts,_,p,h=>by
  obtain⟨a,xs,rfl,f,b,r,l⟩:=h;exact⟨a,xs,rfl,(k.o a f b).1,(k.o a f b).2,r,aM.move k (by simpa[vj] using p) l⟩
 |.lst ts,_,p,h=>by
  obtain⟨a,xs,rfl,f,b,r,l⟩:=h;exact⟨a,xs,rfl,(k.o a f b).1,(k.o a f b).2,r,aM.move k (by simpa[vj] using p) l⟩
 |.obj c fs,_,p,h=>by
  obtain⟨a,C,dx,gs,rfl,f,b,ad,e,l⟩:=h;exact⟨a,C,dx,gs,rfl,(k.o a f b).1,(k.o a f b).2,ad,e,bD.move k (by simpa[vj] using p) l⟩
 |.exc c fs,_,p,h=>by
  obtain⟨a,C,d,rfl,f,b,ad,e,l⟩:=h;refine⟨a,C,d,rfl,(k.o a f b).1,(k.o a f b).2,ad,e,?_⟩;cases d with
  |none=>exact l
  |some dx=>
   obtain⟨gs,k1,k2,m,l⟩:=l;exact⟨gs,(k.o dx k1 k2).1,(k.o dx k1 k2).2,m,bD.move k (by simpa[vj] using p) l⟩
 |.dic g,_,p,h=>by
  obtain⟨a,gs,rfl,f,b,e,l⟩:=h;exact⟨a,gs,rfl,(k.o a f b).1,(k.o a f b).2,e,bF.move k (by simpa[vj] using p) l⟩
 |.clo j cs,_,p,h=>by
  obtain⟨a,ob,xs,rfl,c,e,l⟩:=h;exact⟨a,ob,xs,rfl,c,λo z=>let ⟨f,b,q⟩:=e o z;⟨(k.o a f b).1,(k.o a f b).2,q⟩,aM.move k (by simpa[vj] using p) l⟩
theorem aM.move(k:Mv n φ α φ' β):∀{ts:List T}{vs:List V},u0 n ts=aB->aM D φ α H ts vs->aM D φ' β H ts vs
 |[],_,_,h=>h
 |t::ts,_,p,h=>by
  obtain⟨v,r,rfl,a,b⟩:=h;simp only[u0,bK] at p;exact⟨v,r,rfl,a6.move k p.1 a,aM.move k p.2 b⟩
theorem bD.move(k:Mv n φ α φ' β):∀{fs:List (Nat×T)}{gs:List (aG×V)},Um n fs=aB->bD D φ α H fs gs->bD D φ' β H fs gs
 |[],_,_,h=>h
 |q::fs,_,p,h=>by
  obtain⟨x,v,r,e,rfl,a,b⟩:=h;simp only[Um,bK] at p;exact⟨x,v,r,e,rfl,a6.move k p.1 a,bD.move k p.2 b⟩
theorem bF.move(k:Mv n φ α φ' β):∀{fs:List (Key×T)}{gs:List (Key×V)},Ui n fs=aB->bF D φ α H fs gs->bF D φ' β H fs gs
 |[],_,_,h=>h
 |q::fs,_,p,h=>by
  obtain⟨v,r,rfl,a,b⟩:=h;simp only[Ui,bK] at p;exact⟨v,r,rfl,a6.move k p.1 a,bF.move k p.2 b⟩
end
theorem cQ.move(k:Mv n φ α φ' β){o:MO}{a:aE}(p:JH n o=aB)(h:cQ D φ α H o a):cQ D φ' β H o a:=by
 cases o with
 |lst ts=>
  obtain⟨xs,q,l⟩:=h;exact⟨xs,q,l.move k p⟩
 |obj c fs=>
  obtain⟨C,dx,gs,ad,q,l⟩:=h;exact⟨C,dx,gs,ad,q,l.move k p⟩
 |dic b=>
  obtain⟨xs,q,l⟩:=h;exact⟨xs,q,l.move k p⟩
 |tab j=>
  obtain⟨pos,qn,ps,g,f,e,d⟩:=h;exact⟨pos,qn,ps,g,f,e,λp m=>(d p m).imp id λ⟨c,k1,k2,k3,i⟩=>⟨c,k1,(k.o c k2 k3).1,(k.o c k2 k3).2,i⟩⟩
 |frd ep b=>
  obtain⟨xs,q,l⟩:=h;exact⟨xs,q,l.move k p⟩
 |dct ks=>
  obtain⟨xs,g,f,e,d,s,r⟩:=h;exact⟨xs,g,f,e,d,s,λx hx=>let ⟨k1,k2,k3⟩:=r x hx;⟨(k.o _ k1 k2).1,(k.o _ k1 k2).2,k3⟩⟩
theorem aL.first(m:aL D φ α H d)(s:n<=d.length)(c:(d.take n).all (JH n)=aB):aL D (φ++α.drop n) (α.take n) H (d.take n):=by
 have nd:=m.nd;rw[<-mS n α] at nd;refine⟨by rw[gC,gC,m.len],(mK.mp nd).1,λb c z=>?_,λb c=>?_,λi a o k g=>?_⟩
 .rcases cM.mp z with z|z
  .exact m.dis b (ma c) z
  .exact (mK.mp nd).2.2 b c b z rfl
 .rcases cM.mp c with z|z
  .exact m.phi b z
  .obtain⟨i,f⟩:=mU.mp (nO z);have q:i<d.length:=by rw[<-m.len];exact (cH.mp f).1
   exact (m.ob i b _ f (ir q)).some
 .have f:i<n:=by
   have:=(cH.mp g).1;rw[gC] at this;omega
  rw[i6 f] at k g;have p:o∈d.take n:=cY (by rw[i6 f];exact g);refine (m.ob i a o k g).move ⟨λa l h=>⟨λz=>?_,λz=>h (ma z)⟩,λj b r e=>by rw[i6 r];exact e⟩ (eF.mp c o p);rcases cM.mp z with z|z
  .exact l z
  .exact h (nO z)
theorem z0W:Mv n φ α (φ++α.drop n) (α.take n):=⟨λa d c=>⟨λz=>(cM.mp z).elim d λz=>c (nO z),λz=>c (ma z)⟩,λj b f e=>by rw[i6 f];exact e⟩
theorem Xv{c:List aE}(i:n<=α.length)(ex:∃d,c=α.take n++d):Mv n (φ++α.drop n) c φ α:=by
 obtain⟨d,rfl⟩:=ex;refine⟨λa f g=>⟨λz=>f (d9 _ z),λz=>?_⟩,λj b h e=>?_⟩
 .rw[<-mS n α] at z;rcases cM.mp z with z|z
  .exact g (d9 _ z)
  .exact f (dR _ z)
 .rw[eL (by rw[gC];omega),i6 h] at e;exact e
theorem aP.back{a:List aE}(st:aP (α.take n) H a H'):aP α H α H':=⟨⟨[],by simp,by simp⟩,λb o c e=>st.keep b o (λz=>c (ma z)) e,st.live⟩
theorem aL.back{c:List aE}{H':Hp}(m:aL D φ α H r)(v:n<=r.length)(st:aP (α.take n) H c H')(g:aL D (φ++α.drop n) c H' μ2)(k:(μ2.take n).all (JH n)=aB):aL D φ α H' (μ2.take n++r.drop n):=by
 have h:n<=α.length:=by rw[m.len];exact v
 obtain⟨s,e,p⟩:=st.ext;have t:Mv n (φ++α.drop n) c φ α:=Xv h ⟨s,e⟩;have y:n<=μ2.length:=by rw[<-g.len,e,iI,gC];omega
 refine⟨?_,m.nd,m.dis,λb k=>?_,λi a o l f=>?_⟩
 .rw[iI,gC,pR,m.len];omega
 .exact g.phi b (d9 _ k)
 .by_cases j:i<n
  .rw[eL (by rw[gC];omega),i6 j] at f;have w:o∈μ2.take n:=cY (by rw[i6 j];exact f);refine (g.ob i a o ?_ f).move t (eF.mp k o w);rw[e,eL (by rw[gC];omega),i6 j];exact l
  .have lt:(μ2.take n).length=n:=by rw[gC];omega
   rw[fP (by omega),lt,D2] at f;rw[show n+(i-n)=i by omega] at f;have d:=m.ob i a o l f;obtain⟨u,q,_⟩:=d.some;refine d.step st.back ((st.keep a u (λz=>?_) q).trans q.symm);have nd:=m.nd;rw[<-mS n α] at nd;have x:a∈α.drop n:=cY (i:=i-n) (by rw[D2,show n+(i-n)=i by omega];exact l);exact (mK.mp nd).2.2 a z a x rfl
end
section
variable {X:Cx}{D:DP}{W:XW}{Γ:Cn}{k:Nat}{pins:List (aE×a_)}{s:Shared}{σ:St}{H:Hp}{φ α:List aE}{τ:Sl}{μ:aI}{pos p0:Pos}{x:aG}{es:List aH}{fs:List De}
theorem J7{n:Nat}{g:Fn}{fa:aE}{fd:FuncData}{ps:List aG}{ts:List T}{vs:List V}{us:List aC}{kk:Nat}{Q:VK}(C:Ck D W Γ X k)(F:bI X.prog X.w X.K X.mg X.base (cG X.prog X.w) kk fa fd ps (dY D ps.length g))
  (L:bU kk X.A) (M:Binds X.K fd ps []) (l:∀ts μ K Z,g ts μ K Z->ts.length=ps.length) (I:Inv X pins σ H s) (r:aU vs us) (f:aL D φ α H μ) (d:aM D φ α H ts vs) (p:aJ D W φ α H σ (RV D φ Q) (vG n g ts μ)) :
  wpAny (aR X.prog X.w) X.A (call (.ref fa) us) (EP X pins σ Q) X.xe s:=by
 obtain⟨K,Z,o,b,S⟩:=p;unfold vG at o;obtain⟨⟨i,R,P⟩,q⟩:=o;have x:ts.length=ps.length:=l ts _ _ _ q;have G:dY D ps.length g vs H Q (λc d a=>W c d σ a):=⟨by rw[<-d.length];exact x,φ++α.drop n,α.take n,ts,μ.take n,d.move z0W R,f.first i P,_,_,q,λt y w B a st m v dv=>by
  obtain⟨⟨O,N⟩,w⟩:=w;obtain⟨z,h,_⟩:=st.ext;exact b t _ w α a st.back (f.back i st m N) v (dv.move (Xv (by rw[f.len];exact i) ⟨z,h⟩) O),λ_ _ _ w=>w.elim⟩
 have j:us.length=ps.length:=by rw[<-r.length,<-d.length];exact x
 refine hO (iS (F.run X.A X.stack s H ⟨us,[]⟩ us vs Q (λc d a=>W c d σ a) L I.env0 (by simpa using M s us I.kIn (by simpa using j)) r G) λr J b=>?_);cases r with
 |error e=>exact C.xe e J (xJ (E:=λc d a=>W c d σ a) I b λcls d a w=>w)
 |ok fl=>
  cases fl with
  |ret u=>exact I.after b
  |next=>exact dL b
  |brk=>exact dL b
  |cont=>exact dL b
theorem Th(C:Ck D W Γ X k){n:Nat}{g:Fn}(hx:x∈Γ.G)(E:Γ.gl x=.fn g)(F:Γ.calm=aB)(h:cW X D W es fs):PE X (.Call (.Name x p0) es [] pos) (aV D W (eCallN n g fs)):=by
 have q:=C.glo x hx;rw[E] at q;obtain⟨fa,B,fd,T,U,m,o,d,Fn,a⟩:=q;have l:=(C.rom F).mono d;have c:=h.stars;have A:=wC h;rintro i s M H Q I ⟨K,O,L,N,y,j,p⟩;refine gP (zR I (C.glb x hx) B ?_ (C.dbG x hx));cases es with
 |nil=>
  cases fs with
  |nil=>exact nM I.kIn m (J7 (ts:=[]) C Fn l o a I .nil j rfl p)
  |cons f fs=>exact h.elim
 |cons e es=>
  simp only[iX,bK] at c;refine mL (h₀:=X.base) I.ok.mod.kin m (aY (n7 A I y j p) ?_) (z3 c.1) (zT c.2);rintro R S ⟨P,V,ts,t,u,r,z,v,w,b,J,_,p1⟩;exact⟨r.kIn,J7 C Fn l o a r z b J p1⟩
end
noncomputable abbrev JT:Nat:=30
noncomputable def Hd:ER:=λr a e=>(kK e).bind λq=>gd ((b7 a.N q.x).isNone&&a.calm&&a.own.contains (("&":aG)++q.x)) ((lb r a q.as).bind λfs=>(match a.look q.x with
 |.fn g=>aA (eCallN JT g fs)
 |_=>aF))
theorem z0J{D:DP}:cA D Hd:=by
 intro r H X W l k e d C h;obtain⟨q,j,h⟩:=aS h;rw[qc j];obtain⟨f,h⟩:=z8 h;obtain⟨fs,i,h⟩:=aS h;split at h
 .rename_i g b;cases h;obtain⟨a,c⟩:=qL b (by intro z;cases z);exact Th C a c (zp (zp f).1).2 (wB H C i)
 .cases h
end
end NH
namespace NH
open PySem L2
namespace NX
noncomputable abbrev sTryP(b:List SX)(c n:Nat)(g:EX):SX:=⟨NH.sTryP (b.map SX.s) c n g.s,λi j=>(xb b i j).tri λk fs a d=>mZ (zD k c) (Ql (cC fs.length 1) (match g.x a d with
 |.ok _ f=>.ex n [] a f
 |_=>.no)) (.ex k fs a d),λi j E w=>vq b i j _ (OX.mono (E:=E.tri λk fs a d=>(mZ (zD k c) (Ql (cC fs.length 1) (match g.x a d with
 |.ok _ f=>.ex n [] a f
 |_=>.no)) (.ex k fs a d)).wp E) (E':=E.tri λk fs a d=>(bV.br (zD k c) (.grd (fs.length=1) (ja n g.s a d)) (.ex k fs a d)) E) (λ_ _ q=>q) (λ_ _ q=>q) (λ_ _ q=>q) (λ_ _ q=>q) (λk fs a d q=>So.br (r:=bV.grd (fs.length=1) (ja n g.s a d)) (s:=bV.ex k fs a d) (y:=.ex k fs a d) (λE q=>by
  obtain⟨h,q⟩:=wh q;refine⟨fJ h,?_⟩;cases e:g.x a d with
  |ok t f=>
   rw[e] at q;exact g.ok a d _ _ (by rw[e];exact q)
  |_=>rw[e] at q;exact q.elim) (λ_ q=>q) E q) (OX.wp_tri w))⟩
noncomputable abbrev eCallN(n:Nat)(g:FX)(fs:List EX):EX:=⟨NH.eCallN n g.s (fs.map EX.s),λf i=>(xs fs f i).bind λc a=>.grd (dX n a.length&&u0 n c&&(a.take n).all (JH n)) (match g.x c (a.take n) with
 |.ok t b=>.grd (vj n t&&(b.take n).all (JH n)) (.ok t (b.take n++a.drop n))
 |_=>.no),λf i=>(jJ fs f i).bind λc a K Z h=>by
  obtain⟨d,h⟩:=zt h;rw[bK,bK] at d;show vG n g.s c a K Z;unfold vG;refine⟨⟨qE d.1.1,d.1.2,d.2⟩,?_⟩;cases e:g.x c (a.take n) with
  |ok t b=>
   rw[e] at h;obtain⟨j,h⟩:=zt h;rw[bK] at j;exact g.ok c _ _ _ (by rw[e];exact⟨j,h⟩)
  |_=>rw[e] at h;exact h.elim⟩
end NX
end NH
section
namespace NH.NX
open PySem L2 NH
noncomputable def B_is_whole:List SX:=[(sRet (eAnd (eIsi [2] (eV 0)) (eNot (eIsi [1] (eV 0)))))]
noncomputable def zx:FX:=bC 1 0 B_is_whole
noncomputable def B_is_size:List SX:=[(sRet (eAnd (eCall zx [(eV 0)]) (eCmp .GtE (eV 0) (eC (.int 1)))))]
noncomputable def wZ:FX:=bC 1 0 B_is_size
noncomputable def B_is_from_nought:List SX:=[(sRet (eAnd (eCall zx [(eV 0)]) (eCmp .GtE (eV 0) (eC (.int 0)))))]
noncomputable def qf:FX:=bC 1 0 B_is_from_nought
noncomputable def B_is_below:List SX:=[(sRet (eAnd (eCall zx [(eV 0)]) (eCh (eC (.int 0)) [(.LtE,(eV 0)),(.Lt,(eV 1))])))]
noncomputable def wM:FX:=bC 2 0 B_is_below
noncomputable def B_Shape_init:List SX:=[(sIf (tNot (tAnd (tE (eCall wZ [(eV 1)])) (tAnd (tE (eCall wZ [(eV 2)])) (tE (eCall wZ [(eV 3)]))))) [(sRaise 12 [(eC (.str "a shape has three whole numbers from 1 on"))])] []),(sFld (eV 0) 0 (eV 1)),(sFld (eV 0) 1 (eV 2)),(sFld (eV 0) 2 (eV 3))]
noncomputable def kz:FX:=bC 4 0 B_Shape_init
noncomputable def B_names_in:List SX:=[(sRet (eBin .Mult (eBin .Mult (eFld (eV 0) 0) (eFld (eV 0) 1)) (eFld (eV 0) 2)))]
noncomputable def xE:FX:=bC 1 0 B_names_in
noncomputable def B_is_name:List SX:=[(sRet (eCall wM [(eV 1),(eCall xE [(eV 0)])]))]
noncomputable def ui:FX:=bC 2 0 B_is_name
noncomputable def B_check_name:List SX:=[(sIf (tNot (tE (eCall ui [(eV 0),(eV 1)]))) [(sRaise 13 [(eC (.str "no name of the shape"))])] [])]
noncomputable def wU:FX:=bC 2 0 B_check_name
noncomputable def B_check_part:List SX:=[(sIf (tNot (tE (eCall wM [(eV 0),(eV 1)]))) [(sRaise 13 [(eC (.str "no moment, house or count of the shape"))])] [])]
noncomputable def wb:FX:=bC 2 0 B_check_part
noncomputable def B_name_of:List SX:=[(sExpr (eCall wb [(eV 1),(eFld (eV 0) 0)])),(sExpr (eCall wb [(eV 2),(eFld (eV 0) 1)])),(sExpr (eCall wb [(eV 3),(eFld (eV 0) 2)])),(sRet (eBin .Add (eBin .Mult (eBin .Add (eBin .Mult (eV 1) (eFld (eV 0) 1)) (eV 2)) (eFld (eV 0) 2)) (eV 3)))]
noncomputable def WG:FX:=bC 4 0 B_name_of
noncomputable def B_parts_of:List SX:=[(sExpr (eCall wU [(eV 0),(eV 1)])),(sSet 2 (eBin .Mod (eV 1) (eFld (eV 0) 2))),(sSet 3 (eBin .FloorDiv (eV 1) (eFld (eV 0) 2))),(sRet (eTup [(eBin .FloorDiv (eV 3) (eFld (eV 0) 1)),(eBin .Mod (eV 3) (eFld (eV 0) 1)),(eV 2)]))]
noncomputable def vJ:FX:=bC 2 2 B_parts_of
noncomputable def B_is_lease:List SX:=[(sIf (tOr (tNot (tE (eIsi [4] (eV 1)))) (tE (eCmp .NotEq (eB1 lenT (eV 1)) (eC (.int 3))))) [(sRet (eC (.bl aD)))] []),(sIf (tNot (tAnd (tE (eCall wM [(eIx (eV 1) (eC (.int 0))),(eFld (eV 0) 1)])) (tAnd (tE (eCall zx [(eIx (eV 1) (eC (.int 1)))])) (tE (eCall zx [(eIx (eV 1) (eC (.int 2)))]))))) [(sRet (eC (.bl aD)))] []),(sRet (eCh (eC (.int 0)) [(.LtE,(eIx (eV 1) (eC (.int 1)))),(.Lt,(eIx (eV 1) (eC (.int 2)))),(.LtE,(eFld (eV 0) 0))]))]
noncomputable def uL:FX:=bC 2 0 B_is_lease
noncomputable def B_check_lease:List SX:=[(sIf (tNot (tE (eCall uL [(eV 0),(eV 1)]))) [(sRaise 18 [(eC (.str "no lease of the shape"))])] [])]
noncomputable def j1:FX:=bC 2 0 B_check_lease
noncomputable def B_is_holder:List SX:=[(sIf (tOr (tNot (tE (eIsi [3] (eV 0)))) (tNot (tE (eCh (eC (.int 1)) [(.LtE,(eB1 lenT (eV 0))),(.LtE,(eC (.int 8)))])))) [(sRet (eC (.bl aD)))] []),(sRet (eB1 allT (eComp 1 [] (.one 0) (iE (eV 0)) [] (eCmp .In (eV 0) (eC (.str "abcdefghijklmnopqrstuvwxyz"))))))]
noncomputable def z_:FX:=bC 1 0 B_is_holder
noncomputable def B_Grant_init:List SX:=[(sFld (eV 0) 5 (eV 1)),(sFld (eV 0) 6 (eV 2)),(sFld (eV 0) 7 (eIx (eV 2) (eC (.int 2)))),(sFld (eV 0) 8 (eC (.bl aD)))]
noncomputable def kC:FX:=bC 3 0 B_Grant_init
noncomputable def B_meets:List SX:=[(sRet (eCmp .Lt (eB2 max2T (eIx (eFld (eV 0) 6) (eC (.int 1))) (eV 1)) (eB2 min2T (eFld (eV 0) 7) (eV 2))))]
noncomputable def f6:FX:=bC 3 0 B_meets
noncomputable def B_least_house:List SX:=[(sSet 3 eDicE),(sFor (.one 4) (iE (eV 0)) [(sIf (tE (eCall f6 [(eV 4),(eV 1),(eBin .Add (eV 1) (eV 2))])) [(sPut3 (eV 3) (eIx (eFld (eV 4) 6) (eC (.int 0))) (eC (.bl aB)))] [])]),(sSet 5 (eC (.int 0))),(sWhile (tE (eIn3 (eV 5) (eV 3))) [(sSet 5 (eBin .Add (eV 5) (eC (.int 1))))]),(sRet (eV 5))]
noncomputable def j4:FX:=bC 3 3 B_least_house
noncomputable def B_Common_init:List SX:=[(sFld (eV 0) 9 (eV 1)),(sFld (eV 0) 10 (eLay []))]
noncomputable def j9:FX:=bC 2 0 B_Common_init
noncomputable def B_Common_check_let:List SX:=[(sIf (tNot (tE (eCall z_ [(eV 1)]))) [(sRaise 17 [(eC (.str "a holder is a text of one to eight small letters"))])] []),(sIf (tAnd (tE (eCmp .IsNot (eV 2) (eC .non))) (tNot (tE (eCall wM [(eV 2),(eFld (eFld (eV 0) 9) 1)])))) [(sRaise 13 [(eC (.str "no house of the shape"))])] []),(sIf (tNot (tE (eCall wZ [(eV 4)]))) [(sRaise 16 [(eC (.str "a span is a whole number from 1 on"))])] []),(sIf (tNot (tE (eCall zx [(eV 3)]))) [(sRaise 16 [(eC (.str "a moment is a whole number"))])] [])]
noncomputable def qo:FX:=bC 5 0 B_Common_check_let
noncomputable def B_Common_grants_of:List SX:=[(sRet (eComp 1 [1] (.one 0) (iE (eFld (eV 0) 10)) [(tE (eCmp .Eq (eIx (eFld (eV 0) 6) (eC (.int 0))) (eV 1)))] (eV 0)))]
noncomputable def qk:FX:=bC 2 0 B_Common_grants_of
noncomputable def B_Common_free_lease_2:List SX:=[(sIf (tE (eCmp .Is (eV 1) (eC .non))) [(sRet (eTup [(eCall j4 [(eFld (eV 0) 10),(eV 2),(eV 3)]),(eV 2),(eBin .Add (eV 2) (eV 3))]))] []),(sSet 4 eSt),(sRet (eTup [(eV 1),(eV 4),(eBin .Add (eV 4) (eV 3))]))]
noncomputable def zO:FX:=bC 4 1 B_Common_free_lease_2
noncomputable def B_Common_let_2:List SX:=[(sExpr (eMeth 43 qo (eV 0) [(eV 1),(eV 2),(eV 3),(eV 4)])),(sSet 5 (eMeth 43 zO (eV 0) [(eV 2),(eB2 max2T (eV 3) (eC (.int 0))),(eV 4)])),(sIf (tOr (tE (eCmp .GtE (eIx (eV 5) (eC (.int 0))) (eFld (eFld (eV 0) 9) 1))) (tE (eCmp .Gt (eIx (eV 5) (eC (.int 2))) (eFld (eFld (eV 0) 9) 0)))) [(sRaise 19 [(eC (.str "no such stretch is free"))])] []),(sExpr (eApp (eFld (eV 0) 10) (eMkL 42 kC [(eV 1),(eV 5)]))),(sRet (eV 5))]
noncomputable def vc:FX:=bC 5 1 B_Common_let_2
noncomputable def B_Common_leases_2:List SX:=[(sRet (eCompL 1 [] (.one 0) (iE (eFld (eV 0) 10)) [] (eTup [(eFld (eV 0) 5),(eIx (eFld (eV 0) 6) (eC (.int 0))),(eIx (eFld (eV 0) 6) (eC (.int 1))),(eFld (eV 0) 7)])))]
noncomputable def qI:FX:=bC 1 0 B_Common_leases_2
noncomputable def B_Common_holder_of:List SX:=[(sSet 2 (eCall vJ [(eFld (eV 0) 9),(eV 1)])),(sSet 3 (eIx (eV 2) (eC (.int 0)))),(sFor (.one 4) (iE (eMeth 43 qk (eV 0) [(eIx (eV 2) (eC (.int 1)))])) [(sIf (tE (eCall f6 [(eV 4),(eV 3),(eBin .Add (eV 3) (eC (.int 1)))])) [(sRet (eFld (eV 4) 5))] [])]),(sRet (eC .non))]
noncomputable def qr:FX:=bC 2 3 B_Common_holder_of
noncomputable def B_is_entry:List SX:=[(sIf (tOr (tNot (tE (eIsi [4] (eV 1)))) (tE (eCmp .NotEq (eB1 lenT (eV 1)) (eC (.int 2))))) [(sRet (eC (.bl aD)))] []),(sRet (eAnd (eCall z_ [(eIx (eV 1) (eC (.int 0)))]) (eCall ui [(eV 0),(eIx (eV 1) (eC (.int 1)))])))]
noncomputable def uZ:FX:=bC 2 0 B_is_entry
noncomputable def B_check_book:List SX:=[(sIf (tOr (tNot (tE (eIsi [5] (eV 1)))) (tNot (tE (eB1 allT (eComp 1 [0] (.one 0) (iE (eV 1)) [] (eCall uZ [(eV 1),(eV 0)])))))) [(sRaise 13 [(eC (.str "no list of holders and names of the shape"))])] [])]
noncomputable def ko:FX:=bC 2 0 B_check_book
noncomputable def B_Batch_init:List SX:=[(sFld (eV 0) 11 (eV 1)),(sFld (eV 0) 12 (eV 2)),(sFld (eV 0) 13 (eV 3))]
noncomputable def kE:FX:=bC 4 0 B_Batch_init
noncomputable def B_name_at:List SX:=[(sRet (eCall WG [(eV 0),(eBin .FloorDiv (eV 2) (eFld (eV 0) 2)),(eV 1),(eBin .Mod (eV 2) (eFld (eV 0) 2))]))]
noncomputable def ue:FX:=bC 3 0 B_name_at
noncomputable def B_names_of_batch_2:List SX:=[(sRet (eCompL 1 [1,0] (.one 0) (iRng2 (eFld (eV 1) 12) (eFld (eV 1) 13)) [] (eCall ue [(eV 2),(eFld (eV 1) 11),(eV 0)])))]
noncomputable def ql:FX:=bC 2 0 B_names_of_batch_2
noncomputable def B_size_of_2:List SX:=[(sRet (eB1 sumT (eComp 1 [] (.one 0) (iE (eV 0)) [] (eBin .Sub (eFld (eV 0) 13) (eFld (eV 0) 12)))))]
noncomputable def yp:FX:=bC 1 0 B_size_of_2
noncomputable def B_place_above:List SX:=[(sSet 3 (eCall vJ [(eV 0),(eV 2)])),(sIf (tE (eCmp .Lt (eIx (eV 3) (eC (.int 1))) (eV 1))) [(sRet (eBin .Mult (eIx (eV 3) (eC (.int 0))) (eFld (eV 0) 2)))] []),(sIf (tE (eCmp .Gt (eIx (eV 3) (eC (.int 1))) (eV 1))) [(sRet (eBin .Mult (eBin .Add (eIx (eV 3) (eC (.int 0))) (eC (.int 1))) (eFld (eV 0) 2)))] []),(sRet (eBin .Add (eBin .Add (eBin .Mult (eIx (eV 3) (eC (.int 0))) (eFld (eV 0) 2)) (eIx (eV 3) (eC (.int 2)))) (eC (.int 1))))]
noncomputable def vV:FX:=bC 3 1 B_place_above
noncomputable def B_Seat_init:List SX:=[(sFld (eV 0) 21 (eV 1)),(sFld (eV 0) 11 (eC .non)),(sFld (eV 0) 22 (eC .non))]
noncomputable def y7:FX:=bC 2 0 B_Seat_init
noncomputable def B_Seat_jot:List SX:=[(sFld (eV 0) 22 (eV 1))]
noncomputable def kT:FX:=bC 2 0 B_Seat_jot
noncomputable def B_House_init_3:List SX:=[(sIf (tNot (tAnd (tE (eCall qf [(eV 2)])) (tE (eCall qf [(eV 3)])))) [(sRaise 16 [(eC (.str "ahead and stride are whole numbers from 0 on"))])] []),(sIf (tAnd (tE (eCmp .IsNot (eV 5) (eC .non))) (tNot (tE eSt))) [(sRaise 23 [(eC (.str "no note of the shape"))])] []),(sFld (eV 0) 9 (eV 1)),(sFld (eV 0) 14 (eV 2)),(sFld (eV 0) 15 (eV 3)),(sFld (eV 0) 16 (eV 4)),(sFld (eV 0) 6 (eIf (tE (eCmp .Is (eV 5) (eC .non))) (eC .non) (eIx (eV 5) (eC (.int 0))))),(sFld (eV 0) 17 (eIf (tE (eCmp .Is (eV 5) (eC .non))) (eC .non) (eIx (eV 5) (eC (.int 1))))),(sFld (eV 0) 18 (eC .non)),(sFld (eV 0) 19 (eLay [])),(sFld (eV 0) 20 (eC (.bl aD)))]
noncomputable def qd:FX:=bC 6 0 B_House_init_3
noncomputable def B_House_check_up:List SX:=[(sIf (tE (eFld (eV 0) 20)) [(sRaise 24 [(eC (.str "the house has fallen"))])] [])]
noncomputable def qe:FX:=bC 1 0 B_House_check_up
noncomputable def B_House_note:List SX:=[(sRet (eTup [(eFld (eV 0) 6),(eFld (eV 0) 17)]))]
noncomputable def kh:FX:=bC 1 0 B_House_note
noncomputable def B_House_keep_6:List SX:=[(sIf (tE (eCmp .Eq (eTup [(eV 1),(eV 2)]) (eMeth 45 kh (eV 0) []))) [sRetN] []),(sFld (eV 0) 20 (eC (.bl aB))),(sExpr (eKap [(0,(eMeth 46 kT (eV 1) [(eV 0)]))] 16 (eV 0) (eTup [(eV 1),(eV 2)]))),(sFld (eV 0) 20 (eC (.bl aD))),(sFld (eV 0) 6 (eV 1)),(sFld (eV 0) 17 (eV 2))]
noncomputable def qO:FX:=bC 3 0 B_House_keep_6
noncomputable def B_House_take_lease_6:List SX:=[(sExpr (eMeth 45 qe (eV 0) [])),(sExpr (eCall j1 [(eFld (eV 0) 9),(eV 1)])),(sExpr (eMeth 45 qO (eV 0) [(eV 1),(eFld (eV 0) 17)]))]
noncomputable def zW:FX:=bC 2 0 B_House_take_lease_6
noncomputable def B_House_check_has_lease:List SX:=[(sIf (tE (eCmp .Is (eFld (eV 0) 6) (eC .non))) [(sRaise 18 [(eC (.str "the house has no lease"))])] [])]
noncomputable def zG:FX:=bC 1 0 B_House_check_has_lease
noncomputable def B_House_free_place:List SX:=[(sIf (tE (eCmp .IsNot (eFld (eV 0) 18) (eC .non))) [(sRet (eCall vV [(eFld (eV 0) 9),(eIx (eFld (eV 0) 6) (eC (.int 0))),(eFld (eV 0) 18)]))] []),(sIf (tE (eCmp .IsNot (eFld (eV 0) 17) (eC .non))) [(sRet (eBin .Mult (eBin .Add (eFld (eV 0) 17) (eC (.int 1))) (eFld (eFld (eV 0) 9) 2)))] []),(sRet (eC (.int 0)))]
noncomputable def qv:FX:=bC 1 0 B_House_free_place
noncomputable def B_House_next_batch:List SX:=[(sIf (tOr (tNot (tE (eCall wZ [(eV 2)]))) (tE (eCmp .Gt (eV 2) (eFld (eFld (eV 0) 9) 2)))) [(sRaise 20 [(eC (.str "so many are whole numbers from 1 on up to the shape's counts"))])] []),(sIf (tNot (tE (eCall zx [(eV 1)]))) [(sRaise 16 [(eC (.str "a reading is a whole number"))])] []),(sExpr (eMeth 45 zG (eV 0) [])),(sSet 3 (eBin .Mult (eB2 max2T (eIx (eFld (eV 0) 6) (eC (.int 1))) (eV 1)) (eFld (eFld (eV 0) 9) 2))),(sSet 4 (eB2 max2T (eMeth 45 qv (eV 0) []) (eV 3))),(sSet 5 (eBin .Add (eV 4) (eV 2))),(sIf (tE (eCmp .Gt (eV 5) (eBin .Mult (eIx (eFld (eV 0) 6) (eC (.int 2))) (eFld (eFld (eV 0) 9) 2)))) [(sRaise 18 [(eC (.str "the lease has not so many names"))])] []),(sSet 6 (eBin .Sub (eBin .FloorDiv (eBin .Sub (eV 5) (eC (.int 1))) (eFld (eFld (eV 0) 9) 2)) (eBin .Add (eV 1) (eFld (eV 0) 14)))),(sIf (tE (eCmp .Gt (eV 6) (eC (.int 0)))) [(sRaiseF 21 29 (eV 6))] []),(sRet (eMk 44 kE [(eIx (eFld (eV 0) 6) (eC (.int 0))),(eV 4),(eV 5)]))]
noncomputable def qq:FX:=bC 3 4 B_House_next_batch
noncomputable def B_House_mark_behind:List SX:=[(sIf (tAnd (tE (eCmp .IsNot (eFld (eV 0) 17) (eC .non))) (tE (eCmp .LtE (eV 1) (eFld (eV 0) 17)))) [(sRet (eFld (eV 0) 17))] []),(sRet (eB2 min2T (eBin .Add (eV 1) (eFld (eV 0) 15)) (eBin .Sub (eFld (eFld (eV 0) 9) 0) (eC (.int 1)))))]
noncomputable def qb:FX:=bC 2 0 B_House_mark_behind
noncomputable def B_House_hand_out_8:List SX:=[(sExpr (eMeth 45 qe (eV 0) [])),(sSet 3 (eMeth 45 qq (eV 0) [(eV 1),(eV 2)])),(sExpr (eMeth 45 qO (eV 0) [(eFld (eV 0) 6),(eMeth 45 qb (eV 0) [(eBin .FloorDiv (eBin .Sub (eFld (eV 3) 13) (eC (.int 1))) (eFld (eFld (eV 0) 9) 2))])])),(sFld (eV 0) 18 (eCall ue [(eFld (eV 0) 9),(eFld (eV 3) 11),(eBin .Sub (eFld (eV 3) 13) (eC (.int 1)))])),(sRet (eV 3))]
noncomputable def zM:FX:=bC 3 1 B_House_hand_out_8
noncomputable def B_House_ask_10:List SX:=[(sSet 3 (eMeth 45 zM (eV 0) [(eV 1),(eV 2)])),(sFld (eV 0) 19 (eLay [])),(sRet (eCall ql [(eFld (eV 0) 9),(eV 3)]))]
noncomputable def qa:FX:=bC 3 1 B_House_ask_10
noncomputable def B_House_store_9:List SX:=[(sSet 3 (eMeth 45 zM (eV 0) [(eV 1),(eV 2)])),(sExpr (eApp (eFld (eV 0) 19) (eV 3))),(sRet (eCall yp [(eFld (eV 0) 19)]))]
noncomputable def zQ:FX:=bC 3 1 B_House_store_9
noncomputable def B_is_turn:List SX:=[(sIf (tOr (tNot (tE (eIsi [4] (eV 0)))) (tE (eCmp .NotEq (eB1 lenT (eV 0)) (eC (.int 3))))) [(sRet (eC (.bl aD)))] []),(sRet (eAnd (eCall zx [(eIx (eV 0) (eC (.int 0)))]) (eAnd (eCall zx [(eIx (eV 0) (eC (.int 1)))]) (eIsi [1] (eIx (eV 0) (eC (.int 2)))))))]
noncomputable def Vu:FX:=bC 1 0 B_is_turn
noncomputable def B_are_turns:List SX:=[(sIf (tOr (tNot (tE (eIsi [5] (eV 0)))) (tNot (tE (eB1 allT (eComp 1 [] (.one 0) (iE (eV 0)) [] (eCall Vu [(eV 0)])))))) [(sRet (eC (.bl aD)))] []),(sRet (eB1 allT (eComp 1 [0] (.one 0) (iRng2 (eC (.int 1)) (eB1 lenT (eV 0))) [] (eCmp .Lt (eIx (eIx (eV 1) (eBin .Sub (eV 0) (eC (.int 1)))) (eC (.int 0))) (eIx (eIx (eV 1) (eV 0)) (eC (.int 0)))))))]
noncomputable def jf:FX:=bC 1 0 B_are_turns
noncomputable def B_Clock_init:List SX:=[(sIf (tOr (tNot (tE (eCall zx [(eV 1)]))) (tNot (tE (eCall jf [(eV 2)])))) [(sRaise 15 [(eC (.str "a clock has a whole number and a list of turns whose times rise"))])] []),(sFld (eV 0) 3 (eV 1)),(sFld (eV 0) 4 (eB1 listT (eV 2)))]
noncomputable def kB:FX:=bC 3 0 B_Clock_init
noncomputable def B_Clock_reading:List SX:=[(sIf (tNot (tE (eCall zx [(eV 1)]))) [(sRaise 16 [(eC (.str "a time is a whole number"))])] []),(sFor (.one 2) (iRev (eFld (eV 0) 4)) [(sIf (tE (eCmp .LtE (eIx (eV 2) (eC (.int 0))) (eV 1))) [(sRet (eBin .Add (eIx (eV 2) (eC (.int 1))) (eIf (tE (eIx (eV 2) (eC (.int 2)))) (eBin .Sub (eV 1) (eIx (eV 2) (eC (.int 0)))) (eC (.int 0)))))] [])]),(sRet (eBin .Add (eFld (eV 0) 3) (eV 1)))]
noncomputable def wA:FX:=bC 2 1 B_Clock_reading
noncomputable def B_has_form:List SX:=[(sIf (tOr (tE (eCmp .Eq (eB1 lenT (eV 0)) (eC (.int 0)))) (tNot (tE (eIsi [3] (eIx (eV 0) (eC (.int 0))))))) [(sRet (eC (.bl aD)))] []),(sRet (eCmp .Eq (eGetC [("lease",5),("ask",4),("store",4),("take",4),("back",3),("fall",3),("bare",3)] (eIx (eV 0) (eC (.int 0)))) (eB1 lenT (eV 0))))]
noncomputable def xN:FX:=bC 1 0 B_has_form
noncomputable def B_is_row:List SX:=[(sRet (eAnd (eIsi [4] (eV 0)) (eAnd (eCall xN [(eV 0)]) (eCall zx [(eIx (eV 0) (eC (.int 1)))]))))]
noncomputable def Kz:FX:=bC 1 0 B_is_row
noncomputable def B_length_for:List SX:=[(sSet 1 (eC (.int 1))),(sSet 2 (eC (.int 32))),(sWhile (tE (eCmp .Lt (eV 2) (eV 0))) [(sSet 2 (eBin .Mult (eV 2) (eC (.int 32)))),(sSet 1 (eBin .Add (eV 1) (eC (.int 1))))]),(sRet (eV 1))]
noncomputable def ke:FX:=bC 1 2 B_length_for
noncomputable def B_word_of:List SX:=[(sSet 2 (eLay [])),(sSet 3 (eV 0)),(sFor (.one 4) (iRng (eV 1)) [(sExpr (eApp (eV 2) (eIx (eC (.str "0123456789abcdefghjkmnpqrstvwxyz")) (eBin .Mod (eV 3) (eC (.int 32)))))),(sSet 3 (eBin .FloorDiv (eV 3) (eC (.int 32))))]),(sRet (eB1 (joinRT "") (eV 2)))]
noncomputable def WX:FX:=bC 2 3 B_word_of
noncomputable def B_width:List SX:=[(sRet (eCall ke [(eCall xE [(eV 0)])]))]
noncomputable def iu:FX:=bC 1 0 B_width
noncomputable def B_show_name_2:List SX:=[(sExpr (eCall wU [(eV 0),(eV 1)])),(sRet (eCall WX [(eV 1),(eCall iu [(eV 0)])]))]
noncomputable def wx:FX:=bC 2 0 B_show_name_2
noncomputable def B_is_number:List SX:=[(sSet 1 (eIf (tE (eM1T anyC startT (eV 0) (eC (.str "-")))) (eSl (eV 0) (pS (eC (.int 1))) pN) (eV 0))),(sIf (tOr (tNot (tE (eCh (eC (.int 1)) [(.LtE,(eB1 lenT (eV 1))),(.LtE,(eC (.int 40)))]))) (tNot (tE (eB1 allT (eComp 1 [] (.one 0) (iE (eV 1)) [] (eCmp .In (eV 0) (eC (.str "0123456789")))))))) [(sRet (eC (.bl aD)))] []),(sRet (eOr (eCmp .NotEq (eIx (eV 1) (eC (.int 0))) (eC (.str "0"))) (eCmp .Eq (eV 0) (eC (.str "0")))))]
noncomputable def ym:FX:=bC 1 1 B_is_number
noncomputable def B_check_text:List SX:=[(sIf (tNot (tE (eIsi [3] (eV 0)))) [(sRaiseF 14 28 (eC (.int 0)))] [])]
noncomputable def ve:FX:=bC 1 0 B_check_text
noncomputable def B_read_number:List SX:=[(sIf (tNot (tE (eCall ym [(eV 0)]))) [(sRaiseF 14 28 (eC (.int 0)))] []),(sRet (eB1 intXT (eV 0)))]
noncomputable def zy:FX:=bC 1 0 B_read_number
noncomputable def B_read_rest:List SX:=[(sIf (tAnd (tE (eCmp .Eq (eIx (eV 0) (eC (.int 0))) (eC (.str "lease")))) (tE (eCmp .Eq (eIx (eV 0) (eC (.int 3))) (eC (.str "any"))))) [(sRet (eLst [(eC .non),(eCall zy [(eIx (eV 0) (eC (.int 4)))])]))] []),(sRet (eComp 1 [] (.one 0) (iE (eSl (eV 0) (pS (eC (.int 3))) pN)) [] (eCall zy [(eV 0)])))]
noncomputable def ye:FX:=bC 1 0 B_read_rest
noncomputable def B_read_row:List SX:=[(sExpr (eCall ve [(eV 0)])),(sSet 1 (eM1T splitC j5 (eV 0) (eC (.str " ")))),(sIf (tOr (tNot (tE (eCall xN [(eV 1)]))) (tNot (tE (eCall z_ [(eIx (eV 1) (eC (.int 2)))])))) [(sRaiseF 14 28 (eC (.int 0)))] []),(sRet (eB1 tupleT (eBin .Add (eLst [(eIx (eV 1) (eC (.int 0))),(eCall zy [(eIx (eV 1) (eC (.int 1)))]),(eIx (eV 1) (eC (.int 2)))]) (eCall ye [(eV 1)]))))]
noncomputable def ur:FX:=bC 1 1 B_read_row
noncomputable def B_read_turn:List SX:=[(sSet 1 (eM1T splitC j5 (eV 0) (eC (.str " ")))),(sIf (tOr (tE (eCmp .NotEq (eB1 lenT (eV 1)) (eC (.int 3)))) (tE (eC2 memNT (eIx (eV 1) (eC (.int 2))) (eTup [(eC (.str "runs")),(eC (.str "stands"))])))) [(sRaiseF 14 28 (eC (.int 0)))] []),(sRet (eTup [(eCall zy [(eIx (eV 1) (eC (.int 0)))]),(eCall zy [(eIx (eV 1) (eC (.int 1)))]),(eCmp .Eq (eIx (eV 1) (eC (.int 2))) (eC (.str "runs")))]))]
noncomputable def y6:FX:=bC 1 1 B_read_turn
noncomputable def B_read_clock:List SX:=[(sExpr (eCall ve [(eV 0)])),(sSet 1 (eM1T splitC j5 (eV 0) (eC (.str ", ")))),(sSet 2 (eCall zy [(eIx (eV 1) (eC (.int 0)))])),(sSet 3 (eCompL 1 [] (.one 0) (iE (eSl (eV 1) (pS (eC (.int 1))) pN)) [] (eCall y6 [(eV 0)]))),(sIf (tNot (tE (eCall jf [(eV 3)]))) [(sRaiseF 14 28 (eC (.int 0)))] []),(sRet (eMkL 41 kB [(eV 2),(eV 3)]))]
noncomputable def kl:FX:=bC 1 3 B_read_clock
noncomputable def B_show_book_2:List SX:=[(sExpr (eCall ko [(eV 0),(eV 1)])),(sRet (eJoin (eC (.str "\n")) (eComp 1 [0] (.one 0) (iE (eV 1)) [] (eBin .Add (eBin .Add (eIx (eV 0) (eC (.int 0))) (eC (.str " "))) (eCall wx [(eV 1),(eIx (eV 0) (eC (.int 1)))])))))]
noncomputable def vS:FX:=bC 2 0 B_show_book_2
noncomputable def B_are_clocks:List SX:=[(sIf (tOr (tNot (tE (eIsi [6] (eV 0)))) (tE (eCmp .Eq (eB1 lenK (eV 0)) (eC (.int 0))))) [(sRet (eC (.bl aD)))] []),(sRet (eB1 allT (eComp 1 [0] (.one 0) (iD (eV 0)) [] (eAnd (eCall z_ [(eV 0)]) (eIsi [41] (eC2 ixKT (eV 1) (eV 0)))))))]
noncomputable def kF:FX:=bC 1 0 B_are_clocks
noncomputable def B_World_come_up_3:List SX:=[(sFld (eV 1) 11 (eMkL 45 qd [(eFld (eV 0) 9),(eFld (eV 0) 14),(eFld (eV 0) 15),(eLamC 0 0 [1]),(eFld (eV 1) 22)]))]
noncomputable def zv:FX:=bC 2 0 B_World_come_up_3
noncomputable def B_World_init_3:List SX:=[(sIf (tNot (tE (eCall kF [(eV 4)]))) [(sRaise 17 [(eC (.str "a world has a dict of one clock for each of some holders"))])] []),(sFld (eV 0) 9 (eV 1)),(sFld (eV 0) 14 (eV 2)),(sFld (eV 0) 15 (eV 3)),(sFld (eV 0) 23 (eMkL 43 j9 [(eV 1)])),(sFld (eV 0) 24 (eLay [])),(sFld (eV 0) 25 (eC .non)),(sFld (eV 0) 26 eDicE),(sFor (.one 5) (iD (eV 4)) [(sSet 6 (eMkL 46 y7 [(eC2 ixKT (eV 4) (eV 5))])),(sExpr (eMeth 47 zv (eV 0) [(eV 6)])),(sPut3 (eFld (eV 0) 26) (eV 5) (eV 6))])]
noncomputable def wY:FX:=bC 5 2 B_World_init_3
noncomputable def B_World_check_row:List SX:=[(sIf (tNot (tE (eCall Kz [(eV 1)]))) [(sRaise 25 [(eC (.str "no row of a world"))])] []),(sIf (tAnd (tE (eCmp .IsNot (eFld (eV 0) 25) (eC .non))) (tE (eCmp .Lt (eIx (eV 1) (eC (.int 1))) (eFld (eV 0) 25)))) [(sRaiseF 26 25 (eFld (eV 0) 25))] []),(sIf (tOr (tNot (tE (eCall z_ [(eIx (eV 1) (eC (.int 2)))]))) (tE (eC2 notInT (eIx (eV 1) (eC (.int 2))) (eFld (eV 0) 26)))) [(sRaise 17 [(eC (.str "no holder of the world"))])] [])]
noncomputable def qG:FX:=bC 2 0 B_World_check_row
noncomputable def B_World_done_5:List SX:=[(sSet 2 (eC2 ixKT (eFld (eV 0) 26) (eIx (eV 1) (eC (.int 2))))),(sSet 3 (eMeth 41 wA (eFld (eV 2) 21) [(eIx (eV 1) (eC (.int 1)))])),(sIf (tE (eCmp .Eq (eIx (eV 1) (eC (.int 0))) (eC (.str "ask")))) [(sRet (eMeth 45 qa (eFld (eV 2) 11) [(eV 3),(eIx (eV 1) (eC (.int 3)))]))] []),(sIf (tE (eCmp .Eq (eIx (eV 1) (eC (.int 0))) (eC (.str "take")))) [(sRet eSt)] []),(sIf (tE (eCmp .Eq (eIx (eV 1) (eC (.int 0))) (eC (.str "store")))) [(sExpr (eMeth 45 zQ (eFld (eV 2) 11) [(eV 3),(eIx (eV 1) (eC (.int 3)))]))] [(sIf (tE (eCmp .Eq (eIx (eV 1) (eC (.int 0))) (eC (.str "lease")))) [(sExpr (eMeth 45 zW (eFld (eV 2) 11) [(eMeth 43 vc (eFld (eV 0) 23) [(eIx (eV 1) (eC (.int 2))),(eIx (eV 1) (eC (.int 3))),(eV 3),(eIx (eV 1) (eC (.int 4)))])]))] [(sIf (tE (eCmp .Eq (eIx (eV 1) (eC (.int 0))) (eC (.str "back")))) [(sSet 4 eSt),(sExpr eSt)] [(sIf (tE (eCmp .Eq (eIx (eV 1) (eC (.int 0))) (eC (.str "fall")))) [(sExpr (eMeth 47 zv (eV 0) [(eV 2)]))] [(sFld (eV 2) 22 (eC .non)),(sExpr (eMeth 47 zv (eV 0) [(eV 2)]))])])])]),(sRet (eLst []))]
noncomputable def vf:FX:=bC 2 3 B_World_done_5
noncomputable def B_World_put_5:List SX:=[(sExpr (eMeth 47 qG (eV 0) [(eV 1)])),(sSet 2 (eMeth 47 vf (eV 0) [(eV 1)])),(sFld (eV 0) 25 (eIx (eV 1) (eC (.int 1)))),(sExpr (eExt (eFld (eV 0) 24) (eComp 1 [1] (.one 0) (iE (eV 2)) [] (eTup [(eIx (eV 1) (eC (.int 1))),(eIx (eV 1) (eC (.int 2))),(eV 0)])))),(sRet (eV 2))]
noncomputable def vY:FX:=bC 2 1 B_World_put_5
noncomputable def B_World_book:List SX:=[(sRet (eB1 layT (eFld (eV 0) 24)))]
noncomputable def vi:FX:=bC 1 0 B_World_book
noncomputable def B_World_leases:List SX:=[(sRet (eMeth 43 qI (eFld (eV 0) 23) []))]
noncomputable def wV:FX:=bC 1 0 B_World_leases
noncomputable def B_World_holder_of:List SX:=[(sRet (eMeth 43 qr (eFld (eV 0) 23) [(eV 1)]))]
noncomputable def B_highest_two:List SX:=[(sSet 2 (eLay [])),(sFor (.one 3) (iE (eB1 sortRT (eBin .Add (eV 0) (eLst [(eV 1)])))) [(sIf (tE (eB1 allT (eComp 1 [3] (.one 0) (iE (eV 2)) [] (eCmp .NotEq (eIx (eV 1) (eC (.int 2))) (eIx (eV 0) (eC (.int 2))))))) [(sExpr (eApp (eV 2) (eV 3)))] [])]),(sRet (eSl (eV 2) pN (pS (eC (.int 2)))))]
noncomputable def vN:FX:=bC 2 2 B_highest_two
noncomputable def B_back_by:List SX:=[(sSet 2 (eLay [])),(sSet 3 (eLst [])),(sFor (.one 4) (iRng (eB1 lenT (eV 1))) [(sSet 5 (eIx (eIx (eV 1) (eV 4)) (eC (.int 1)))),(sSet 6 (eIx (eCall vJ [(eV 0),(eIx (eIx (eV 1) (eV 4)) (eC (.int 2)))]) (eC (.int 0)))),(sSet 7 (eComp 1 [5] (.one 0) (iE (eV 3)) [(tE (eCmp .NotEq (eIx (eV 0) (eC (.int 2))) (eV 1)))] (eV 0))),(sIf (tE (eCmp .Gt (eB1 lenT (eV 7)) (eC (.int 0)))) [(sExpr (eApp (eV 2) (eTup [(eBin .Sub (eIx (eIx (eV 7) (eC (.int 0))) (eC (.int 0))) (eV 6)),(eIx (eIx (eV 7) (eC (.int 0))) (eC (.int 1))),(eV 4)])))] []),(sSet 3 (eCall vN [(eV 3),(eTup [(eV 6),(eV 4),(eV 5)])]))]),(sRet (eB1 maxRT (eV 2)))]
noncomputable def V4:FX:=bC 2 6 B_back_by
noncomputable def B_words_of:List SX:=[(sRet (eJoin (eC (.str " ")) (eComp 1 [] (.one 0) (iE (eV 0)) [] (eB1 strNT (eV 0)))))]
noncomputable def cI:FX:=bC 1 0 B_words_of
noncomputable def B_read_clocks:List SX:=[(sSet 1 eDicE),(sFor (.one 2) (iE (eV 0)) [(sSet 3 (eM1T splitC BS (eV 2) (eC (.str " ")))),(sSet 4 (eIx (eV 3) (eC (.int 0)))),(sIf (tOr (tNot (tE (eCall z_ [(eV 4)]))) (tE (eIn3 (eV 4) (eV 1)))) [(sRaiseF 14 28 (eC (.int 0)))] []),(sPut3 (eV 1) (eV 4) (eCall kl [(eIx (eV 3) (eC (.int 2)))]))]),(sRet (eV 1))]
noncomputable def vB:FX:=bC 1 4 B_read_clocks
noncomputable def B_read_numbers:List SX:=[(sSet 2 (eM1T splitC j5 (eV 0) (eC (.str " ")))),(sIf (tE (eCmp .NotEq (eB1 lenT (eV 2)) (eV 1))) [(sRaiseF 14 28 (eC (.int 0)))] []),(sRet (eComp 1 [] (.one 0) (iE (eV 2)) [] (eCall zy [(eV 0)])))]
noncomputable def vl:FX:=bC 2 1 B_read_numbers
noncomputable def B_new_world:List SX:=[(sSet 1 (eM1T splitC j5 (eV 0) (eC (.str " ; ")))),(sTryP [(sSet 2 (eCall vl [(eIx (eV 1) (eC (.int 0))),(eC (.int 5))])),(sSet 3 (eCall vB [(eSl (eV 1) (pS (eC (.int 1))) pN)]))] 14 25 (eC (.str "no world is written so"))),(sSet 4 (eMk 40 kz [(eIx (eV 2) (eC (.int 0))),(eIx (eV 2) (eC (.int 1))),(eIx (eV 2) (eC (.int 2)))])),(sRet (eMkL 47 wY [(eV 4),(eIx (eV 2) (eC (.int 3))),(eIx (eV 2) (eC (.int 4))),(eV 3)]))]
noncomputable def xZ:FX:=bC 1 4 B_new_world
noncomputable def B_answer_row:List SX:=[(sTryP [(sSet 2 (eCall ur [(eV 1)]))] 14 25 (eC (.str "no row is written so"))),(sSet 3 (eMeth 47 vY (eV 0) [(eV 2)])),(sIf (tE (eCmp .Eq (eB1 lenT (eV 3)) (eC (.int 0)))) [(sRet (eC (.str "ok")))] []),(sRet (eCall cI [(eComp 1 [0] (.one 0) (iE (eV 3)) [] (eCall wx [(eFld (eV 1) 9),(eV 0)]))]))]
noncomputable def jW:FX:=bC 2 2 B_answer_row
noncomputable def B_answer_book:List SX:=[(sRet (eCall vS [(eFld (eV 0) 9),(eComp 1 [] (.one 0) (iE (eMeth 47 vi (eV 0) [])) [] (eTup [(eIx (eV 0) (eC (.int 1))),(eIx (eV 0) (eC (.int 2)))]))]))]
noncomputable def vF:FX:=bC 1 0 B_answer_book
noncomputable def B_answer_leases:List SX:=[(sRet (eJoin (eC (.str ", ")) (eComp 1 [] (.one 0) (iE (eMeth 47 wV (eV 0) [])) [] (eCall cI [(eV 0)]))))]
noncomputable def wD:FX:=bC 1 0 B_answer_leases
noncomputable def B_answer_back:List SX:=[(sSet 1 (eCall V4 [(eFld (eV 0) 9),(eMeth 47 vi (eV 0) [])])),(sRet (eIf (tE (eCmp .Is (eV 1) (eC .non))) (eC (.str "none")) (eCall cI [(eV 1)])))]
noncomputable def vU:FX:=bC 1 1 B_answer_back
noncomputable def B_answer:List SX:=[(sIf (tE (eM1T anyC startT (eV 1) (eC (.str "judge\n")))) [(sRet eSt)] []),(sIf (tE (eCmp .Eq (eV 1) (eC (.str "book")))) [(sRet (eCall vF [(eV 0)]))] []),(sIf (tE (eCmp .Eq (eV 1) (eC (.str "leases")))) [(sRet (eCall wD [(eV 0)]))] []),(sIf (tE (eCmp .Eq (eV 1) (eC (.str "back")))) [(sRet (eCall vU [(eV 0)]))] []),(sSet 2 (eM1T splitC j5 (eV 1) (eC (.str " ")))),(sIf (tAnd (tE (eCmp .Eq (eB1 lenT (eV 2)) (eC (.int 2)))) (tE (eCmp .NotEq (eIx (eV 2) (eC (.int 1))) (eC (.str ""))))) [(sIf (tE (eCmp .Eq (eIx (eV 2) (eC (.int 0))) (eC (.str "who")))) [(sRet eSt)] []),(sIf (tE (eCmp .Eq (eIx (eV 2) (eC (.int 0))) (eC (.str "tell")))) [(sRet eSt)] [])] []),(sRet (eCall jW [(eV 0),(eV 1)]))]
noncomputable def fR:FX:=bC 2 1 B_answer
noncomputable def B_Desk_init:List SX:=[(sFld (eV 0) 27 (eC .non))]
noncomputable def jl:FX:=bC 1 0 B_Desk_init
noncomputable def B_Desk_say:List SX:=[(sIf (tNot (tE (eIsi [3] (eV 1)))) [(sRaise 25 [(eC (.str "a row is a text"))])] []),(sIf (tE (eM1T anyC startT (eV 1) (eC (.str "world ")))) [(sFld (eV 0) 27 (eCall xZ [(eSl (eV 1) (pS (eB1 lenT (eC (.str "world ")))) pN)])),(sRet (eC (.str "ok")))] []),(sIf (tE (eCmp .Is (eFld (eV 0) 27) (eC .non))) [(sRaise 25 [(eC (.str "there is no world yet"))])] []),(sRet (eCall fR [(eFld (eV 0) 27),(eV 1)]))]
noncomputable def zP:FX:=bC 2 0 B_Desk_say
noncomputable def B_l_begin:List SX:=[(sRet (eLay [(eBin .Mult (eBin .FloorDiv (eV 0) (eC (.int 2))) (eBin .Sub (eC (.int 1)) (eBin .Mod (eV 0) (eC (.int 2))))),(eBin .Mod (eV 0) (eC (.int 2147483647))),(eC (.int 0))]))]
noncomputable def l_begin:FX:=bC 1 0 B_l_begin
noncomputable def B_l_next_4:List SX:=[(sIf (tE (eCmp .Gt (eIx (eV 0) (eC (.int 0))) (eC (.int 0)))) [(sSet 2 (eBin .Mod (eIx (eV 0) (eC (.int 0))) (eV 1))),(sPut3 (eV 0) (eC (.int 0)) (eBin .FloorDiv (eIx (eV 0) (eC (.int 0))) (eV 1))),(sRet (eV 2))] []),(sPut3 (eV 0) (eC (.int 2)) (eBin .Add (eIx (eV 0) (eC (.int 2))) (eC (.int 1)))),(sSet 3 (eBin .Mod (eBin .Mult (eBin .Add (eBin .Add (eIx (eV 0) (eC (.int 1))) (eBin .Mult (eC (.int 7919)) (eIx (eV 0) (eC (.int 2))))) (eC (.int 1))) (eC (.int 48271))) (eC (.int 2147483647)))),(sSet 3 (eBin .Mod (eBin .Mult (eV 3) (eBin .Add (eBin .FloorDiv (eV 3) (eC (.int 1009))) (eC (.int 69621)))) (eC (.int 2147483647)))),(sSet 3 (eBin .Mod (eBin .Mult (eV 3) (eBin .Add (eBin .FloorDiv (eV 3) (eC (.int 2003))) (eC (.int 40692)))) (eC (.int 2147483399)))),(sRet (eBin .Mod (eBin .FloorDiv (eV 3) (eC (.int 7))) (eV 1)))]
noncomputable def l_next_4:FX:=bC 2 2 B_l_next_4
noncomputable def B_l_worlds:List SX:=[(sSet 0 (eLst [(eC (.str "world")),(eC (.str "world ")),(eC (.str "world 9")),(eC (.str "world 9 2 3 4")),(eC (.str "world 9 2 3 4 5 6")),(eC (.str "world 9 2 3 4 x")),(eC (.str "world 09 2 3 4 5"))])),(sSet 0 (eBin .Add (eV 0) (eLst [(eC (.str "world 9 2 3 4 5 ;")),(eC (.str "world 9 2 3 4 5; anna 0")),(eC (.str "world 9 2 3 4 5 ; anna")),(eC (.str "world 9 2 3 4 5 ; Anna 0"))]))),(sSet 0 (eBin .Add (eV 0) (eLst [(eC (.str "world 9 2 3 4 5 ; anna 0 ; anna 1")),(eC (.str "world 9 2 3 4 5 ; anna x")),(eC (.str "world 9 2 3 4 5 ; anna 0, 5 5"))]))),(sSet 0 (eBin .Add (eV 0) (eLst [(eC (.str "world 9 2 3 4 5 ; anna 0, 5 5 run")),(eC (.str "world 9 2 3 4 5 ; anna 0, 5 5 runs, 5 6 runs"))]))),(sSet 0 (eBin .Add (eV 0) (eLst [(eC (.str "world 9 2 3 4 5 ; anna 0,5 5 runs")),(eC (.str "world  9 2 3 4 5 ; anna 0")),(eC (.str " world 9 2 3 4 5 ; anna 0"))]))),(sRet (eBin .Add (eV 0) (eLst [(eC (.str "World 9 2 3 4 5 ; anna 0")),(eC (.str "world 9 2 3 4 5 ; anna 0 ")),(eC (.str "world 9 2 3 4 5 anna 0")),(eC (.str "worlds"))])))]
noncomputable def ZS:FX:=bC 0 1 B_l_worlds
noncomputable def B_l_none:List SX:=[(sSet 1 (eLst [(eC (.str "")),(eC (.str " ")),(eC (.str "book ")),(eC (.str " book")),(eC (.str "Book")),(eC (.str "book x")),(eC (.str "books")),(eC (.str "leases x")),(eC (.str "lease")),(eC (.str "lease 99")),(eC (.str "lease 99 anna"))])),(sSet 1 (eBin .Add (eV 1) (eLst [(eC (.str "lease 99 anna any")),(eC (.str "lease 99 anna any x")),(eC (.str "lease 99 anna none 5")),(eC (.str "lease 99 anna any 5 5"))]))),(sSet 1 (eBin .Add (eV 1) (eLst [(eC (.str "lease x anna any 5")),(eC (.str "ask 99 anna")),(eC (.str "ask 99 anna x")),(eC (.str "ask 99 1")),(eC (.str "ask 99 Anna 1")),(eC (.str "ask 99 anna 1 1"))]))),(sSet 1 (eBin .Add (eV 1) (eLst [(eC (.str "ask 099 anna 1")),(eC (.str "ask 99 anna 01")),(eC (.str "ask  99 anna 1")),(eC (.str "store 99 anna")),(eC (.str "take 99")),(eC (.str "take 99 anna any"))]))),(sSet 1 (eBin .Add (eV 1) (eLst [(eC (.str "back 99")),(eC (.str "back 99 anna 1")),(eC (.str "back x anna")),(eC (.str "fall anna")),(eC (.str "fall 99")),(eC (.str "bare 99 anna x")),(eC (.str "bare 99 a1"))]))),(sSet 1 (eBin .Add (eV 1) (eLst [(eC (.str "who")),(eC (.str "who a b")),(eC (.str "tell")),(eC (.str "tell 0 0")),(eC (.str "tells 0")),(eC (.str "judge")),(eC (.str "judge ")),(eC (.str "judge x\nanna 0"))]))),(sSet 1 (eBin .Add (eBin .Add (eV 1) (eCall ZS [])) (eLst [(eC .non),(eC (.int 5)),(eC (.bl aB)),(eLst [(eC (.str "book"))]),(eTup [(eC (.str "book"))]),(eC (.str "book\n"))]))),(sRet (eIx (eV 1) (eCall l_next_4 [(eV 0),(eB1 lenT (eV 1))])))]
noncomputable def l_none:FX:=bC 1 1 B_l_none
noncomputable def B_l_refused_7:List SX:=[(sSet 2 (eC (.bl aD))),(sTry [(sExpr (eMeth 48 zP (eV 0) [(eV 1)]))] [([10],aA 3,[(sSet 4 (eIsi [26,19,15,17,18,13,12,14,16] (eV 3))),(sSet 2 (eAnd (eIsi [25] (eV 3)) (eAnd (eIsi [11] (eV 3)) (eNot (eV 4)))))])]),(sRet (eV 2))]
noncomputable def l_refused_7:FX:=bC 2 3 B_l_refused_7
noncomputable def B_l_looked:List SX:=[(sRet (eLst [(eMeth 48 zP (eV 0) [(eC (.str "book"))]),(eMeth 48 zP (eV 0) [(eC (.str "leases"))]),(eMeth 48 zP (eV 0) [(eC (.str "back"))])]))]
noncomputable def l_looked:FX:=bC 1 0 B_l_looked
noncomputable def B_law_k86:List SX:=[(sSet 1 (eMkL 48 jl [])),(sSet 2 (eMkL 48 jl [])),(sSet 3 (eLst [(eC (.str "book")),(eC (.str "leases")),(eC (.str "back")),(eC (.str "who 0")),(eC (.str "tell 0")),(eC (.str "judge\n")),(eC (.str "ask 5 anna 1")),(eC (.str "lease 5 anna any 5"))])),(sSet 3 (eBin .Add (eV 3) (eLst [(eC (.str "fall 5 anna")),(eC (.str "judge\nanna 0"))]))),(sSet 4 (eLst [(eC (.str "world 90 2 3 4 5 ; anna 0 ; any 0, 50 3 stands")),(eC (.str "lease 7 anna any 30")),(eC (.str "lease 8 any any 9")),(eC (.str "ask 9 any 2"))])),(sFor (.one 5) (iE (eBin .Add (eV 4) (eLst [(eC (.str "ask 12 anna 1")),(eC (.str "store 13 anna 2"))]))) [(sExpr (eMeth 48 zP (eV 2) [(eV 5)]))]),(sSet 6 (eCallN JT l_looked [(eV 2)])),(sFor (.one 7) (iE (eBin .Add (eLst [(eC (.int 0))]) (eSl (eV 0) pN (pS (eC (.int 10)))))) [(sSet 8 (eCall l_begin [(eV 7)])),(sSet 5 (eCall l_none [(eV 8)])),(sIf (tOr (tNot (tE (eCallN JT l_refused_7 [(eV 2),(eV 5)]))) (tOr (tNot (tE (eCallN JT l_refused_7 [(eV 1),(eV 5)]))) (tNot (tE (eCallN JT l_refused_7 [(eV 2),(eV 5)]))))) [(sRet (eC (.bl aD)))] []),(sIf (tOr (tNot (tE (eCallN JT l_refused_7 [(eV 1),(eIx (eV 3) (eCall l_next_4 [(eV 8),(eC (.int 10))]))]))) (tE (eCmp .NotEq (eCallN JT l_looked [(eV 2)]) (eV 6)))) [(sRet (eC (.bl aD)))] [])]),(sRet (eAnd (eCmp .Eq (eMeth 48 zP (eV 1) [(eC (.str "world 1 1 1 0 0 ; z 0"))]) (eC (.str "ok"))) (eAnd (eCmp .Eq (eMeth 48 zP (eV 1) [(eC (.str "book"))]) (eC (.str ""))) (eCmp .Eq (eMeth 48 zP (eV 1) [(eC (.str "back"))]) (eC (.str "none"))))))]
end NH.NX
namespace NH.P
open PySem L2 NH
@[reducible] noncomputable def ZA:List Ds:=NX.B_is_whole.map SX.s
noncomputable def zx:Fn:=bA 1 0 ZA
@[reducible] noncomputable def QM:List Ds:=NX.B_is_size.map SX.s
noncomputable def wZ:Fn:=bA 1 0 QM
@[reducible] noncomputable def wR:List Ds:=NX.B_is_from_nought.map SX.s
noncomputable def qf:Fn:=bA 1 0 wR
@[reducible] noncomputable def ZX:List Ds:=NX.B_is_below.map SX.s
noncomputable def wM:Fn:=bA 2 0 ZX
@[reducible] noncomputable def xq:List Ds:=NX.B_Shape_init.map SX.s
noncomputable def kz:Fn:=bA 4 0 xq
@[reducible] noncomputable def uo:List Ds:=NX.B_names_in.map SX.s
noncomputable def xE:Fn:=bA 1 0 uo
@[reducible] noncomputable def Wt:List Ds:=NX.B_is_name.map SX.s
noncomputable def ui:Fn:=bA 2 0 Wt
@[reducible] noncomputable def xv:List Ds:=NX.B_check_name.map SX.s
noncomputable def wU:Fn:=bA 2 0 xv
@[reducible] noncomputable def xc:List Ds:=NX.B_check_part.map SX.s
noncomputable def wb:Fn:=bA 2 0 xc
@[reducible] noncomputable def W5:List Ds:=NX.B_name_of.map SX.s
noncomputable def WG:Fn:=bA 4 0 W5
@[reducible] noncomputable def ZI:List Ds:=NX.B_parts_of.map SX.s
noncomputable def vJ:Fn:=bA 2 2 ZI
@[reducible] noncomputable def ZL:List Ds:=NX.B_is_lease.map SX.s
noncomputable def uL:Fn:=bA 2 0 ZL
@[reducible] noncomputable def jB:List Ds:=NX.B_check_lease.map SX.s
noncomputable def j1:Fn:=bA 2 0 jB
@[reducible] noncomputable def yI:List Ds:=NX.B_is_holder.map SX.s
noncomputable def z_:Fn:=bA 1 0 yI
@[reducible] noncomputable def kI:List Ds:=NX.B_Grant_init.map SX.s
noncomputable def kC:Fn:=bA 3 0 kI
@[reducible] noncomputable def Yj:List Ds:=NX.B_meets.map SX.s
noncomputable def f6:Fn:=bA 3 0 Yj
@[reducible] noncomputable def jL:List Ds:=NX.B_least_house.map SX.s
noncomputable def j4:Fn:=bA 3 3 jL
@[reducible] noncomputable def jz:List Ds:=NX.B_Common_init.map SX.s
noncomputable def j9:Fn:=bA 2 0 jz
@[reducible] noncomputable def qX:List Ds:=NX.B_Common_check_let.map SX.s
noncomputable def qo:Fn:=bA 5 0 qX
@[reducible] noncomputable def w1:List Ds:=NX.B_Common_grants_of.map SX.s
noncomputable def qk:Fn:=bA 2 0 w1
@[reducible] noncomputable def qj:List Ds:=NX.B_Common_free_lease_2.map SX.s
noncomputable def zO:Fn:=bA 4 1 qj
@[reducible] noncomputable def vI:List Ds:=NX.B_Common_let_2.map SX.s
noncomputable def vc:Fn:=bA 5 1 vI
@[reducible] noncomputable def wj:List Ds:=NX.B_Common_leases_2.map SX.s
noncomputable def qI:Fn:=bA 1 0 wj
@[reducible] noncomputable def wa:List Ds:=NX.B_Common_holder_of.map SX.s
noncomputable def qr:Fn:=bA 2 3 wa
@[reducible] noncomputable def Zw:List Ds:=NX.B_is_entry.map SX.s
noncomputable def uZ:Fn:=bA 2 0 Zw
@[reducible] noncomputable def kW:List Ds:=NX.B_check_book.map SX.s
noncomputable def ko:Fn:=bA 2 0 kW
@[reducible] noncomputable def xD:List Ds:=NX.B_Batch_init.map SX.s
noncomputable def kE:Fn:=bA 4 0 xD
@[reducible] noncomputable def QK:List Ds:=NX.B_name_at.map SX.s
noncomputable def ue:Fn:=bA 3 0 QK
@[reducible] noncomputable def qR:List Ds:=NX.B_names_of_batch_2.map SX.s
noncomputable def ql:Fn:=bA 2 0 qR
@[reducible] noncomputable def yS:List Ds:=NX.B_size_of_2.map SX.s
noncomputable def yp:Fn:=bA 1 0 yS
@[reducible] noncomputable def jv:List Ds:=NX.B_place_above.map SX.s
noncomputable def vV:Fn:=bA 3 1 jv
@[reducible] noncomputable def yW:List Ds:=NX.B_Seat_init.map SX.s
noncomputable def y7:Fn:=bA 2 0 yW
@[reducible] noncomputable def ZH:List Ds:=NX.B_Seat_jot.map SX.s
noncomputable def kT:Fn:=bA 2 0 ZH
@[reducible] noncomputable def vT:List Ds:=NX.B_House_init_3.map SX.s
noncomputable def qd:Fn:=bA 6 0 vT
@[reducible] noncomputable def wQ:List Ds:=NX.B_House_check_up.map SX.s
noncomputable def qe:Fn:=bA 1 0 wQ
@[reducible] noncomputable def kH:List Ds:=NX.B_House_note.map SX.s
noncomputable def kh:Fn:=bA 1 0 kH
@[reducible] noncomputable def vH:List Ds:=NX.B_House_keep_6.map SX.s
noncomputable def qO:Fn:=bA 3 0 vH
@[reducible] noncomputable def qB:List Ds:=NX.B_House_take_lease_6.map SX.s
noncomputable def zW:Fn:=bA 2 0 qB
@[reducible] noncomputable def zZ:List Ds:=NX.B_House_check_has_lease.map SX.s
noncomputable def zG:Fn:=bA 1 0 zZ
@[reducible] noncomputable def w8:List Ds:=NX.B_House_free_place.map SX.s
noncomputable def qv:Fn:=bA 1 0 w8
@[reducible] noncomputable def qP:List Ds:=NX.B_House_next_batch.map SX.s
noncomputable def qq:Fn:=bA 3 4 qP
@[reducible] noncomputable def qJ:List Ds:=NX.B_House_mark_behind.map SX.s
noncomputable def qb:Fn:=bA 2 0 qJ
@[reducible] noncomputable def qV:List Ds:=NX.B_House_hand_out_8.map SX.s
noncomputable def zM:Fn:=bA 3 1 qV
@[reducible] noncomputable def j7:List Ds:=NX.B_House_ask_10.map SX.s
noncomputable def qa:Fn:=bA 3 1 j7
@[reducible] noncomputable def vv:List Ds:=NX.B_House_store_9.map SX.s
noncomputable def zQ:Fn:=bA 3 1 vv
@[reducible] noncomputable def QV:List Ds:=NX.B_is_turn.map SX.s
noncomputable def Vu:Fn:=bA 1 0 QV
@[reducible] noncomputable def yU:List Ds:=NX.B_are_turns.map SX.s
noncomputable def jf:Fn:=bA 1 0 yU
@[reducible] noncomputable def xl:List Ds:=NX.B_Clock_init.map SX.s
noncomputable def kB:Fn:=bA 3 0 xl
@[reducible] noncomputable def vw:List Ds:=NX.B_Clock_reading.map SX.s
noncomputable def wA:Fn:=bA 2 1 vw
@[reducible] noncomputable def uS:List Ds:=NX.B_has_form.map SX.s
noncomputable def xN:Fn:=bA 1 0 uS
@[reducible] noncomputable def VG:List Ds:=NX.B_is_row.map SX.s
noncomputable def Kz:Fn:=bA 1 0 VG
@[reducible] noncomputable def kU:List Ds:=NX.B_length_for.map SX.s
noncomputable def ke:Fn:=bA 1 2 kU
@[reducible] noncomputable def W8:List Ds:=NX.B_word_of.map SX.s
noncomputable def WX:Fn:=bA 2 3 W8
@[reducible] noncomputable def Y8:List Ds:=NX.B_width.map SX.s
noncomputable def iu:Fn:=bA 1 0 Y8
@[reducible] noncomputable def jK:List Ds:=NX.B_show_name_2.map SX.s
noncomputable def wx:Fn:=bA 2 0 jK
@[reducible] noncomputable def yH:List Ds:=NX.B_is_number.map SX.s
noncomputable def ym:Fn:=bA 1 1 yH
@[reducible] noncomputable def xA:List Ds:=NX.B_check_text.map SX.s
noncomputable def ve:Fn:=bA 1 0 xA
@[reducible] noncomputable def ju:List Ds:=NX.B_read_number.map SX.s
noncomputable def zy:Fn:=bA 1 0 ju
@[reducible] noncomputable def yv:List Ds:=NX.B_read_rest.map SX.s
noncomputable def ye:Fn:=bA 1 0 yv
@[reducible] noncomputable def Z8:List Ds:=NX.B_read_row.map SX.s
noncomputable def ur:Fn:=bA 1 1 Z8
@[reducible] noncomputable def yE:List Ds:=NX.B_read_turn.map SX.s
noncomputable def y6:Fn:=bA 1 1 yE
@[reducible] noncomputable def kN:List Ds:=NX.B_read_clock.map SX.s
noncomputable def kl:Fn:=bA 1 3 kN
@[reducible] noncomputable def jD:List Ds:=NX.B_show_book_2.map SX.s
noncomputable def vS:Fn:=bA 2 0 jD
@[reducible] noncomputable def xk:List Ds:=NX.B_are_clocks.map SX.s
noncomputable def kF:Fn:=bA 1 0 xk
@[reducible] noncomputable def zJ:List Ds:=NX.B_World_come_up_3.map SX.s
noncomputable def zv:Fn:=bA 2 0 zJ
@[reducible] noncomputable def vQ:List Ds:=NX.B_World_init_3.map SX.s
noncomputable def wY:Fn:=bA 5 2 vQ
@[reducible] noncomputable def wo:List Ds:=NX.B_World_check_row.map SX.s
noncomputable def qG:Fn:=bA 2 0 wo
@[reducible] noncomputable def vW:List Ds:=NX.B_World_done_5.map SX.s
noncomputable def vf:Fn:=bA 2 3 vW
@[reducible] noncomputable def js:List Ds:=NX.B_World_put_5.map SX.s
noncomputable def vY:Fn:=bA 2 1 js
@[reducible] noncomputable def xF:List Ds:=NX.B_World_book.map SX.s
noncomputable def vi:Fn:=bA 1 0 xF
@[reducible] noncomputable def vR:List Ds:=NX.B_World_leases.map SX.s
noncomputable def wV:Fn:=bA 1 0 vR
@[reducible] noncomputable def wd:List Ds:=NX.B_World_holder_of.map SX.s
noncomputable def yZ:Fn:=bA 2 0 wd
@[reducible] noncomputable def jM:List Ds:=NX.B_highest_two.map SX.s
noncomputable def vN:Fn:=bA 2 2 jM
@[reducible] noncomputable def W7:List Ds:=NX.B_back_by.map SX.s
noncomputable def V4:Fn:=bA 2 6 W7
@[reducible] noncomputable def Z_:List Ds:=NX.B_words_of.map SX.s
noncomputable def cI:Fn:=bA 1 0 Z_
@[reducible] noncomputable def jR:List Ds:=NX.B_read_clocks.map SX.s
noncomputable def vB:Fn:=bA 1 4 jR
@[reducible] noncomputable def j8:List Ds:=NX.B_read_numbers.map SX.s
noncomputable def vl:Fn:=bA 2 1 j8
@[reducible] noncomputable def yx:List Ds:=NX.B_new_world.map SX.s
noncomputable def xZ:Fn:=bA 1 4 yx
@[reducible] noncomputable def xP:List Ds:=NX.B_answer_row.map SX.s
noncomputable def jW:Fn:=bA 2 2 xP
@[reducible] noncomputable def jS:List Ds:=NX.B_answer_book.map SX.s
noncomputable def vF:Fn:=bA 1 0 jS
@[reducible] noncomputable def vt:List Ds:=NX.B_answer_leases.map SX.s
noncomputable def wD:Fn:=bA 1 0 vt
@[reducible] noncomputable def jQ:List Ds:=NX.B_answer_back.map SX.s
noncomputable def vU:Fn:=bA 1 1 jQ
@[reducible] noncomputable def J9:List Ds:=NX.B_answer.map SX.s
noncomputable def fR:Fn:=bA 2 1 J9
@[reducible] noncomputable def yC:List Ds:=NX.B_Desk_init.map SX.s
noncomputable def jl:Fn:=bA 1 0 yC
@[reducible] noncomputable def ZO:List Ds:=NX.B_Desk_say.map SX.s
noncomputable def zP:Fn:=bA 2 0 ZO
@[reducible] noncomputable def QX:List Ds:=NX.B_l_begin.map SX.s
noncomputable def l_begin:Fn:=bA 1 0 QX
@[reducible] noncomputable def Zx:List Ds:=NX.B_l_next_4.map SX.s
noncomputable def l_next_4:Fn:=bA 2 2 Zx
@[reducible] noncomputable def uR:List Ds:=NX.B_l_worlds.map SX.s
noncomputable def ZS:Fn:=bA 0 1 uR
@[reducible] noncomputable def Jf:List Ds:=NX.B_l_none.map SX.s
noncomputable def l_none:Fn:=bA 1 1 Jf
@[reducible] noncomputable def jH:List Ds:=NX.B_l_refused_7.map SX.s
noncomputable def l_refused_7:Fn:=bA 2 3 jH
@[reducible] noncomputable def ZM:List Ds:=NX.B_l_looked.map SX.s
noncomputable def l_looked:Fn:=bA 1 0 ZM
@[reducible] noncomputable def Wq:List Ds:=NX.B_law_k86.map SX.s
noncomputable def law_k86:Fn:=bA 1 8 Wq
end NH.P
end
namespace NH.K86
open PySem PySem.Spec PyProof.Rows L2 NH NH.P
noncomputable def st(i:Nat):bB:=PySem.Challenge.pw_namehouses_k86_rows_that_are_none.main.body.getD i (.Pass ⟨0,0,0,0⟩)
noncomputable def cls:List (aG×Nat):=[("Backward",26),("Clock",41),("Ended",19),("HouseError",10),("NoClock",15),("NoHolder",17),("NoLease",18),("NoName",13),("NoRow",25),("NoShape",12),("NoText",14),("NoTime",16),("ValueError",11),("bool",1),("dict",6),("int",2),("list",5),("str",3),("tuple",4)]
noncomputable def fld:List (aG×Nat):=[("moments",0),("houses",1),("counts",2),("start",3),("turns",4),("holder",5),("lease",6),("until",7),("is_cut",8),("shape",9),("grants",10),("house",11),("begin",12),("end",13),("ahead",14),("stride",15),("keeper",16),("mark",17),("newest",18),("batches",19),("has_fallen",20),("clock",21),("kept",22),("common",23),("given",24),("now",25),("seats",26),("world",27),("line",28),("by",29)]
noncomputable def RU:cK:=⟨[Hd,Hf,GN,FQ,Fu,G3,GU,G4,Gx,Gf,Bk,FK,G8,FS,Gc,GC,GO,FJ,FE,Fx,K1,ix,G7,G9,Gu,Ff,FC,E8,Gb,Ic,HW,Gv,Hq,Ga],[Hj,Kw,BK,Hg],[H_],[Iw,GW,Gw,Ix],[GY,Ht,HZ,K8],[Ib,HQ,HL,Hk,HJ]⟩
theorem Zh{D:DP}:b8 D RU:=⟨⟨z0J,UT,T0,P7,RZ,TF,z0F,UM,T2,Rq,S2,Pt,z0i,Sz,Px,S5,T4,Sh,RJ,P6,Ux,T_,S4,XV,Tp,PN,RL,P_,RT,YQ,Y_,z0k,YU,Ro,trivial⟩,⟨z08,Ys,TW,z0r,trivial⟩,⟨Uh,trivial⟩,⟨Nh,Uf,Tj,NU,trivial⟩,⟨Tq,UA,YY,YV,trivial⟩,⟨YD,UI,YS,Tr,Us,trivial⟩⟩
noncomputable def II:List (aG×GM):=Ya ["ValueError","all","bool","dict","int","isinstance","len","list","max","min","range","reversed","sorted","str","sum","tuple"] [("HouseError",10),("NoShape",12),("NoName",13),("NoClock",15),("NoTime",16),("NoHolder",17),("NoLease",18),("Ended",19),("TooMany",20),("Empty",22),("NoNote",23),("Fallen",24),("NoRow",25)] [("NoText",14,28),("Wait",21,29),("Backward",26,25)]
noncomputable def qz:=aQ (st 4) 0
noncomputable def IH:List (aG×GM):=(hash "NoText",GM.xin 14 28 "NoText" "line")::II
noncomputable def IG:List (aG×GM):=(hash "line",GM.xin 14 28 "NoText" "line")::IH
noncomputable def wm:=aQ (st 11) 0
noncomputable def IF:List (aG×GM):=(hash "Wait",GM.xin 21 29 "Wait" "by")::IG
noncomputable def IE:List (aG×GM):=(hash "by",GM.xin 21 29 "Wait" "by")::IF
noncomputable def zV:=aQ (st 16) 0
noncomputable def ID:List (aG×GM):=(hash "Backward",GM.xin 26 25 "Backward" "now")::IE
noncomputable def B_:List (aG×GM):=(hash "now",GM.xin 26 25 "Backward" "now")::ID
noncomputable def Zs:=st 18
noncomputable def X5:Cn:=cn cls fld B_ ["thing"] ["isinstance","int","bool"] [] []
theorem Kp:z9 ((aN RU 60).s X5) (z0 Zs)=aA ZA:=by kernel_rfl
noncomputable def B9:List (aG×GM):=("is_whole",GM.fn zx)::B_
noncomputable def Wh:=st 19
noncomputable def Ua:Cn:=cn cls fld B9 ["thing"] ["is_whole"] [] []
theorem U1:z9 ((aN RU 60).s Ua) (z0 Wh)=aA QM:=by kernel_rfl
noncomputable def B8:List (aG×GM):=("is_size",GM.fn wZ)::B9
noncomputable def wN:=st 20
noncomputable def y9:Cn:=cn cls fld B8 ["thing"] ["is_whole"] [] []
theorem yc:z9 ((aN RU 60).s y9) (z0 wN)=aA wR:=by kernel_rfl
noncomputable def B7:List (aG×GM):=("is_from_nought",GM.fn qf)::B8
noncomputable def uY:=st 21
noncomputable def KY:Cn:=cn cls fld B7 ["thing","bound"] ["is_whole"] [] []
theorem X8:z9 ((aN RU 60).s KY) (z0 uY)=aA ZX:=by kernel_rfl
noncomputable def Ah:List (aG×GM):=("is_below",GM.fn wM)::B7
noncomputable def xi:=aQ (st 22) 0
noncomputable def WC:Cn:=cn cls fld Ah ["self","moments","houses","counts"] ["is_size","NoShape"] [] []
theorem WI:z9 ((aN RU 60).s WC) (z0 xi)=aA xq:=by kernel_rfl
noncomputable def t7:List (aG×GM):=("Shape",GM.mk 40 aB kz)::Ah
noncomputable def uW:=st 23
noncomputable def X9:Cn:=cn cls fld t7 ["shape"] [] [] []
theorem Kl:z9 ((aN RU 60).s X9) (z0 uW)=aA uo:=by kernel_rfl
noncomputable def A2:List (aG×GM):=("names_in",GM.fn xE)::t7
noncomputable def QU:=st 24
noncomputable def Yu:Cn:=cn cls fld A2 ["shape","thing"] ["is_below","names_in"] [] []
theorem Uq:z9 ((aN RU 60).s Yu) (z0 QU)=aA Wt:=by kernel_rfl
noncomputable def A_:List (aG×GM):=("is_name",GM.fn ui)::A2
noncomputable def xx:=st 25
noncomputable def WQ:Cn:=cn cls fld A_ ["shape","thing"] ["is_name","NoName"] [] []
theorem WM:z9 ((aN RU 60).s WQ) (z0 xx)=aA xv:=by kernel_rfl
noncomputable def Aj:List (aG×GM):=("check_name",GM.fn wU)::A_
noncomputable def kJ:=st 26
noncomputable def Vv:Cn:=cn cls fld Aj ["thing","bound"] ["is_below","NoName"] [] []
theorem Wv:z9 ((aN RU 60).s Vv) (z0 kJ)=aA xc:=by kernel_rfl
noncomputable def Ba:List (aG×GM):=("check_part",GM.fn wb)::Aj
noncomputable def Wl:=st 27
noncomputable def Uv:Cn:=cn cls fld Ba ["shape","moment","house","count"] ["check_part"] [] []
theorem Yo:z9 ((aN RU 60).s Uv) (z0 Wl)=aA W5:=by kernel_rfl
noncomputable def zn:List (aG×GM):=("name_of",GM.fn WG)::Ba
noncomputable def uB:=st 28
noncomputable def Ka:Cn:=cn cls fld zn ["shape","name","count","above"] ["check_name"] [] []
theorem Xd:z9 ((aN RU 60).s Ka) (z0 uB)=aA ZI:=by kernel_rfl
noncomputable def FU:List (aG×GM):=("parts_of",GM.fn vJ)::zn
noncomputable def Gp:List (aG×GM):=("HOUSE_leases",GM.cst (.int 0))::FU
noncomputable def FO:List (aG×GM):=("FIRST",GM.cst (.int 1))::Gp
noncomputable def wP:List (aG×GM):=("UNTIL",GM.cst (.int 2))::FO
noncomputable def um:=st 33
noncomputable def Kt:Cn:=cn cls fld wP ["shape","thing"] ["isinstance","tuple","len","is_below","HOUSE_leases","is_whole","FIRST","UNTIL"] [] []
theorem Xg:z9 ((aN RU 60).s Kt) (z0 um)=aA ZL:=by kernel_rfl
noncomputable def AK:List (aG×GM):=("is_lease",GM.fn uL)::wP
noncomputable def jC:=st 34
noncomputable def Qz:Cn:=cn cls fld AK ["shape","thing"] ["is_lease","NoLease"] [] []
theorem Qv:z9 ((aN RU 60).s Qz) (z0 jC)=aA jB:=by kernel_rfl
noncomputable def E5:List (aG×GM):=("check_lease",GM.fn j1)::AK
noncomputable def FF:List (aG×GM):=("LETTERS",GM.cst (.str "abcdefghijklmnopqrstuvwxyz"))::E5
noncomputable def AU:List (aG×GM):=("LONGEST_HOLDER",GM.cst (.int 8))::FF
noncomputable def yR:=st 39
noncomputable def Jx:Cn:=cn cls fld AU ["thing"] ["isinstance","str","len","LONGEST_HOLDER","all"] [] []
theorem JB:z9 ((aN RU 60).s Jx) (z0 yR)=aA yI:=by kernel_rfl
noncomputable def v4:List (aG×GM):=("is_holder",GM.fn z_)::AU
noncomputable def xn:=aQ (st 40) 0
noncomputable def Va:Cn:=cn cls fld v4 ["self","holder","lease"] ["UNTIL"] [] []
theorem Vn:z9 ((aN RU 60).s Va) (z0 xn)=aA kI:=by kernel_rfl
noncomputable def Av:List (aG×GM):=("Grant",GM.mk 42 aD kC)::v4
noncomputable def Xx:=st 41
noncomputable def Pq:Cn:=cn cls fld Av ["grant","first","until"] ["max","FIRST","min"] [] []
theorem Sm:z9 ((aN RU 60).s Pq) (z0 Xx)=aA Yj:=by kernel_rfl
noncomputable def AE:List (aG×GM):=("meets",GM.fn f6)::Av
noncomputable def jE:=st 43
noncomputable def Qi:Cn:=cn cls fld AE ["grants","moment","span","met","grant","house"] ["meets","HOUSE_leases"] [] ["met"]
theorem Qj:z9 ((aN RU 60).s Qi) (z0 jE)=aA jL:=by kernel_rfl
noncomputable def AH:List (aG×GM):=("least_house",GM.fn j4)::AE
noncomputable def jP:=aQ (st 44) 0
noncomputable def Qq:Cn:=cn cls fld AH ["self","shape"] [] [] ["grants"]
theorem Q8:z9 ((aN RU 60).s Qq) (z0 jP)=aA jz:=by kernel_rfl
noncomputable def Ad:List (aG×GM):=("Common",GM.mk 43 aD j9)::AH
noncomputable def q_:=aQ (st 44) 2
noncomputable def jT:Cn:=cn cls fld Ad ["self","holder","house","moment","span"] ["is_holder","NoHolder","is_below","NoName","is_size","NoTime","is_whole"] [] []
theorem kq:z9 ((aN RU 60).s jT) (z0 q_)=aA qX:=by kernel_rfl
noncomputable def A8:List (aG×GM):=(c3 "check_let",GM.met 43 "check_let" qo)::Ad
noncomputable def qY:=aQ (st 44) 4
noncomputable def ka:Cn:=cn cls fld A8 ["self","house"] [] ["house"] []
theorem jZ:z9 ((aN RU 60).s ka) (z0 qY)=aA w1:=by kernel_rfl
noncomputable def AI:List (aG×GM):=(c3 "grants_of",GM.met 43 "grants_of" qk)::A8
noncomputable def qi:=aQ (st 44) 3
noncomputable def vy:Cn:=cn cls fld AI ["self","house","moment","span","begin"] ["least_house"] [] []
theorem vz:z9 ((aN RU 60).s vy) (z0 qi)=aA qj:=by kernel_rfl
noncomputable def AN:List (aG×GM):=(c3 "free_lease",GM.met 43 "free_lease" zO)::AI
noncomputable def vP:=aQ (st 44) 1
noncomputable def ZF:Cn:=cn cls fld AN ["self","holder","house","moment","span","lease"] ["max","HOUSE_leases","UNTIL","Ended","Grant"] [] []
theorem uJ:z9 ((aN RU 60).s ZF) (z0 vP)=aA vI:=by kernel_rfl
noncomputable def t_:List (aG×GM):=(c3 "let",GM.met 43 "let" vc)::AN
noncomputable def wg:=aQ (st 44) 7
noncomputable def xj:Cn:=cn cls fld t_ ["self"] [] [] ["return"]
theorem kO:z9 ((aN RU 60).s xj) (z0 wg)=aA wj:=by kernel_rfl
noncomputable def A7:List (aG×GM):=(ul "leases",GM.met 43 "leases" qI)::t_
noncomputable def qZ:=aQ (st 44) 8
noncomputable def ku:Cn:=cn cls fld A7 ["self","name","parts","moment","grant"] ["parts_of","meets"] [] []
theorem jY:z9 ((aN RU 60).s ku) (z0 qZ)=aA wa:=by kernel_rfl
noncomputable def A3:List (aG×GM):=(ul "holder_of",GM.met 43 "holder_of" qr)::A7
noncomputable def Zz:=st 46
noncomputable def Kb:Cn:=cn cls fld A3 ["shape","thing"] ["isinstance","tuple","len","is_holder","is_name"] [] []
theorem Kj:z9 ((aN RU 60).s Kb) (z0 Zz)=aA Zw:=by kernel_rfl
noncomputable def wS:List (aG×GM):=("is_entry",GM.fn uZ)::A3
noncomputable def xQ:=st 47
noncomputable def Vp:Cn:=cn cls fld wS ["shape","thing"] ["isinstance","list","all","NoName"] ["shape"] []
theorem WD:z9 ((aN RU 60).s Vp) (z0 xQ)=aA kW:=by kernel_rfl
noncomputable def AA:List (aG×GM):=("check_book",GM.fn ko)::wS
noncomputable def xm:=aQ (st 50) 0
noncomputable def Vb:Cn:=cn cls fld AA ["self","house","begin","end"] [] [] []
theorem WN:z9 ((aN RU 60).s Vb) (z0 xm)=aA xD:=by kernel_rfl
noncomputable def t5:List (aG×GM):=("Batch",GM.mk 44 aB kE)::AA
noncomputable def QY:=st 51
noncomputable def U5:Cn:=cn cls fld t5 ["shape","house","place"] ["name_of"] [] []
theorem UC:z9 ((aN RU 60).s U5) (z0 QY)=aA QK:=by kernel_rfl
noncomputable def AF:List (aG×GM):=("name_at",GM.fn ue)::t5
noncomputable def qQ:=st 52
noncomputable def j_:Cn:=cn cls fld AF ["shape","batch"] ["range"] ["shape","batch"] ["return"]
theorem jV:z9 ((aN RU 60).s j_) (z0 qQ)=aA qR:=by kernel_rfl
noncomputable def AO:List (aG×GM):=("names_of_batch",GM.fn ql)::AF
noncomputable def yQ:=st 53
noncomputable def VJ:Cn:=cn cls fld AO ["batches"] ["sum"] [] []
theorem VU:z9 ((aN RU 60).s VJ) (z0 yQ)=aA yS:=by kernel_rfl
noncomputable def AQ:List (aG×GM):=("size_of",GM.fn yp)::AO
noncomputable def jy:=st 55
noncomputable def Q5:Cn:=cn cls fld AQ ["shape","house","name","parts"] ["parts_of"] [] []
theorem Qs:z9 ((aN RU 60).s Q5) (z0 jy)=aA jv:=by kernel_rfl
noncomputable def Bd:List (aG×GM):=("place_above",GM.fn vV)::AQ
noncomputable def yF:=aQ (st 111) 0
noncomputable def J3:Cn:=cn cls fld Bd ["self","clock"] [] [] []
theorem Jv:z9 ((aN RU 60).s J3) (z0 yF)=aA yW:=by kernel_rfl
noncomputable def Ax:List (aG×GM):=("Seat",GM.mk 46 aD y7)::Bd
noncomputable def ZV:=aQ (st 111) 1
noncomputable def Kv:Cn:=cn cls fld Ax ["self","note"] [] [] []
theorem Kh:z9 ((aN RU 60).s Kv) (z0 ZV)=aA ZH:=by kernel_rfl
noncomputable def As:List (aG×GM):=(c3 "jot",GM.met 46 "jot" kT)::Ax
noncomputable def Fq:aH:=(LX (ME (sIx (z0 (aQ (st 112) 1)) 0)) 3)
noncomputable def MJ:bJ:=⟨0,((("World.come_up":aG)++".<locals>.")++"<lambda>"),"note",Mq Fq,Mx Fq,["seat"],(eMeth 46 kT (eV 1) [(eV 0)]),aF⟩
noncomputable def ri:List bJ:=[MJ]
noncomputable def HC:Cn:=cn cls fld As [] [] [] []
noncomputable def Aa (l:bJ):List aG:=(X_ l.sc).filter λx=>([]:List aG).contains x
theorem Pn:gL (λl=>XH (yy HC l (Aa l)) l=aB/\A5 RU 60 (yy HC l (Aa l)) l) ri:=⟨⟨by kernel_rfl,.inl ⟨rfl,by kernel_rfl⟩⟩,trivial⟩
noncomputable def Be:List (aG×GM):=(uO,GM.kap ri)::As
noncomputable def zh:=aQ (st 56) 0
noncomputable def Z3:Cn:=cn cls fld Be ["self","shape","ahead","stride","keeper","note"] ["is_from_nought","NoTime","NoNote"] [] ["batches"]
theorem Zm:z9 ((aN RU 60).s Z3) (z0 zh)=aA vT:=by kernel_rfl
noncomputable def FH:List (aG×GM):=("House",GM.mk 45 aD qd)::Be
noncomputable def Ab:List (aG×GM):=(mV "House",GM.mkd 45 "House" 4 qd)::FH
noncomputable def wL:=aQ (st 56) 8
noncomputable def yq:Cn:=cn cls fld Ab ["self"] ["Fallen"] [] []
theorem xW:z9 ((aN RU 60).s yq) (z0 wL)=aA wQ:=by kernel_rfl
noncomputable def An:List (aG×GM):=(c3 "check_up",GM.met 45 "check_up" qe)::Ab
noncomputable def xo:=aQ (st 56) 7
noncomputable def Vj:Cn:=cn cls fld An ["self"] [] [] []
theorem WA:z9 ((aN RU 60).s Vj) (z0 xo)=aA kH:=by kernel_rfl
noncomputable def At:List (aG×GM):=(c3 "note",GM.met 45 "note" kh)::An
noncomputable def vX:=aQ (st 56) 15
noncomputable def uq:Cn:=cn cls fld At ["self","lease","mark"] [] [] []
theorem uC:z9 ((aN RU 60).s uq) (z0 vX)=aA vH:=by kernel_rfl
noncomputable def AZ:List (aG×GM):=(c3 "keep",GM.met 45 "keep" qO)::At
noncomputable def qD:=aQ (st 56) 1
noncomputable def vM:Cn:=cn cls fld AZ ["self","lease"] ["check_lease"] [] []
theorem vO:z9 ((aN RU 60).s vM) (z0 qD)=aA qB:=by kernel_rfl
noncomputable def Ae:List (aG×GM):=(c3 "take_lease",GM.met 45 "take_lease" zW)::AZ
noncomputable def zX:=aQ (st 56) 9
noncomputable def wG:Cn:=cn cls fld Ae ["self"] ["NoLease"] [] []
theorem wH:z9 ((aN RU 60).s wG) (z0 zX)=aA zZ:=by kernel_rfl
noncomputable def AR:List (aG×GM):=(c3 "check_has_lease",GM.met 45 "check_has_lease" zG)::Ae
noncomputable def w4:=aQ (st 56) 13
noncomputable def kA:Cn:=cn cls fld AR ["self"] ["place_above","HOUSE_leases"] [] []
theorem k6:z9 ((aN RU 60).s kA) (z0 w4)=aA w8:=by kernel_rfl
noncomputable def Bh:List (aG×GM):=(c3 "free_place",GM.met 45 "free_place" qv)::AR
noncomputable def qW:=aQ (st 56) 12
noncomputable def kv:Cn:=cn cls fld Bh ["self","reading","many","least","begin","end","by"] ["is_size","TooMany","is_whole","NoTime","max","FIRST","UNTIL","NoLease","Wait","Batch","HOUSE_leases"] [] []
theorem kf:z9 ((aN RU 60).s kv) (z0 qW)=aA qP:=by kernel_rfl
noncomputable def wE:List (aG×GM):=(c3 "next_batch",GM.met 45 "next_batch" qq)::Bh
noncomputable def qK:=aQ (st 56) 14
noncomputable def jm:Cn:=cn cls fld wE ["self","moment"] ["min"] [] []
theorem jn:z9 ((aN RU 60).s jm) (z0 qK)=aA qJ:=by kernel_rfl
noncomputable def Ay:List (aG×GM):=(c3 "mark_behind",GM.met 45 "mark_behind" qb)::wE
noncomputable def w6:=aQ (st 56) 11
noncomputable def km:Cn:=cn cls fld Ay ["self","reading","many","batch"] ["name_at"] [] []
theorem k8:z9 ((aN RU 60).s km) (z0 w6)=aA qV:=by kernel_rfl
noncomputable def Az:List (aG×GM):=(c3 "hand_out",GM.met 45 "hand_out" zM)::Ay
noncomputable def zi:=aQ (st 56) 2
noncomputable def Zj:Cn:=cn cls fld Az ["self","reading","many","batch"] ["names_of_batch"] [] ["batches"]
theorem uD:z9 ((aN RU 60).s Zj) (z0 zi)=aA j7:=by kernel_rfl
noncomputable def F_:List (aG×GM):=(c3 "ask",GM.met 45 "ask" qa)::Az
noncomputable def Aw:List (aG×GM):=(mV (c3 "ask"),GM.metd 45 "ask" 1 (.int 1) qa)::F_
noncomputable def zd:=aQ (st 56) 3
noncomputable def u6:Cn:=cn cls fld Aw ["self","reading","many","batch"] ["size_of"] [] []
theorem u2:z9 ((aN RU 60).s u6) (z0 zd)=aA vv:=by kernel_rfl
noncomputable def Fk:List (aG×GM):=(c3 "store",GM.met 45 "store" zQ)::Aw
noncomputable def Fj:List (aG×GM):=(mV (c3 "store"),GM.metd 45 "store" 1 (.int 1) zQ)::Fk
noncomputable def FZ:List (aG×GM):=("TIME_clocks",GM.cst (.int 0))::Fj
noncomputable def E_:List (aG×GM):=("READING",GM.cst (.int 1))::FZ
noncomputable def AG:List (aG×GM):=("RUNS",GM.cst (.int 2))::E_
noncomputable def Q_:=st 66
noncomputable def YK:Cn:=cn cls fld AG ["thing"] ["isinstance","tuple","len","is_whole","TIME_clocks","READING","RUNS","bool"] [] []
theorem YW:z9 ((aN RU 60).s YK) (z0 Q_)=aA QV:=by kernel_rfl
noncomputable def Bf:List (aG×GM):=("is_turn",GM.fn Vu)::AG
noncomputable def yD:=st 67
noncomputable def VM:Cn:=cn cls fld Bf ["thing"] ["isinstance","list","all","range","len"] ["thing"] []
theorem VA:z9 ((aN RU 60).s VM) (z0 yD)=aA yU:=by kernel_rfl
noncomputable def Ao:List (aG×GM):=("are_turns",GM.fn jf)::Bf
noncomputable def k_:=aQ (st 68) 0
noncomputable def Vr:Cn:=cn cls fld Ao ["self","start","turns"] ["is_whole","are_turns","NoClock","list"] [] []
theorem V0:z9 ((aN RU 60).s Vr) (z0 k_)=aA xl:=by kernel_rfl
noncomputable def AV:List (aG×GM):=("Clock",GM.mk 41 aD kB)::Ao
noncomputable def vr:=aQ (st 68) 1
noncomputable def yY:Cn:=cn cls fld AV ["self","time","turn"] ["is_whole","NoTime","reversed","TIME_clocks","READING","RUNS"] [] []
theorem u3:z9 ((aN RU 60).s yY) (z0 vr)=aA vw:=by kernel_rfl
noncomputable def FM:List (aG×GM):=(c3 "reading",GM.met 41 "reading" wA)::AV
noncomputable def Fd:List (aG×GM):=("LENGTHS",GM.tbl [("lease",5),("ask",4),("store",4),("take",4),("back",3),("fall",3),("bare",3)])::FM
noncomputable def Fe:List (aG×GM):=("WORD",GM.cst (.int 0))::Fd
noncomputable def Gm:List (aG×GM):=("TIME_rows",GM.cst (.int 1))::Fe
noncomputable def FI:List (aG×GM):=("HOLDER",GM.cst (.int 2))::Gm
noncomputable def F8:List (aG×GM):=("HOUSE_rows",GM.cst (.int 3))::FI
noncomputable def E9:List (aG×GM):=("SPAN",GM.cst (.int 4))::F8
noncomputable def t9:List (aG×GM):=("MANY",GM.cst (.int 3))::E9
noncomputable def uV:=st 77
noncomputable def KJ:Cn:=cn cls fld t9 ["parts"] ["len","isinstance","WORD","str","LENGTHS"] [] []
theorem KI:z9 ((aN RU 60).s KJ) (z0 uV)=aA uS:=by kernel_rfl
noncomputable def AJ:List (aG×GM):=("has_form",GM.fn xN)::t9
noncomputable def JA:=st 78
noncomputable def UZ:Cn:=cn cls fld AJ ["thing"] ["isinstance","tuple","has_form","is_whole","TIME_rows"] [] []
theorem T5:z9 ((aN RU 60).s UZ) (z0 JA)=aA VG:=by kernel_rfl
noncomputable def FR:List (aG×GM):=("is_row",GM.fn Kz)::AJ
noncomputable def FY:List (aG×GM):=("SIGNS",GM.cst (.str "0123456789abcdefghjkmnpqrstvwxyz"))::FR
noncomputable def wr:List (aG×GM):=("BASE",GM.cst (.int 32))::FY
noncomputable def xI:=st 82
noncomputable def WB:Cn:=cn cls fld wr ["many","length","room"] ["BASE"] [] []
theorem Vd:z9 ((aN RU 60).s WB) (z0 xI)=aA kU:=by kernel_rfl
noncomputable def wT:List (aG×GM):=("length_for",GM.fn ke)::wr
noncomputable def QN:=st 83
noncomputable def Uc:Cn:=cn cls fld wT ["number","length","signs","rest","place"] ["range","SIGNS","BASE","reversed"] [] ["signs"]
theorem Ug:z9 ((aN RU 60).s Uc) (z0 QN)=aA W8:=by kernel_rfl
noncomputable def wv:List (aG×GM):=("word_of",GM.fn WX)::wT
noncomputable def Xy:=st 87
noncomputable def Ri:Cn:=cn cls fld wv ["shape"] ["length_for","names_in"] [] []
theorem Sb:z9 ((aN RU 60).s Ri) (z0 Xy)=aA Y8:=by kernel_rfl
noncomputable def Ar:List (aG×GM):=("width",GM.fn iu)::wv
noncomputable def jq:=st 88
noncomputable def Qu:Cn:=cn cls fld Ar ["shape","name"] ["check_name","word_of","width"] [] []
theorem Qr:z9 ((aN RU 60).s Qu) (z0 jq)=aA jK:=by kernel_rfl
noncomputable def E6:List (aG×GM):=("show_name",GM.fn wx)::Ar
noncomputable def F4:List (aG×GM):=("BLANK_texts",GM.cst (.str " "))::E6
noncomputable def Fv:List (aG×GM):=("BETWEEN_TURNS",GM.cst (.str ", "))::F4
noncomputable def FT:List (aG×GM):=("BETWEEN_LINES",GM.cst (.str "\n"))::Fv
noncomputable def Fm:List (aG×GM):=("NO_HOUSE",GM.cst (.str "any"))::FT
noncomputable def Fg:List (aG×GM):=("RUNNING",GM.cst (.str "runs"))::Fm
noncomputable def EZ:List (aG×GM):=("STANDING",GM.cst (.str "stands"))::Fg
noncomputable def Fh:List (aG×GM):=("FIGURES",GM.cst (.str "0123456789"))::EZ
noncomputable def wn:List (aG×GM):=("MOST_FIGURES",GM.cst (.int 40))::Fh
noncomputable def yM:=st 99
noncomputable def JD:Cn:=cn cls fld wn ["word","figures"] ["len","MOST_FIGURES","all"] [] []
theorem JE:z9 ((aN RU 60).s JD) (z0 yM)=aA yH:=by kernel_rfl
noncomputable def xL:List (aG×GM):=("is_number",GM.fn ym)::wn
noncomputable def xO:=st 100
noncomputable def V6:Cn:=cn cls fld xL ["thing"] ["isinstance","str","NoText"] [] []
theorem Wz:z9 ((aN RU 60).s V6) (z0 xO)=aA xA:=by kernel_rfl
noncomputable def AD:List (aG×GM):=("check_text",GM.fn ve)::xL
noncomputable def jG:=st 101
noncomputable def Qk:Cn:=cn cls fld AD ["word"] ["is_number","NoText","int"] [] []
theorem Qc:z9 ((aN RU 60).s Qk) (z0 jG)=aA ju:=by kernel_rfl
noncomputable def A4:List (aG×GM):=("read_number",GM.fn zy)::AD
noncomputable def yw:=st 103
noncomputable def Jz:Cn:=cn cls fld A4 ["words"] ["NO_HOUSE","read_number"] [] []
theorem JK:z9 ((aN RU 60).s Jz) (z0 yw)=aA yv:=by kernel_rfl
noncomputable def u8:List (aG×GM):=("read_rest",GM.fn ye)::A4
noncomputable def uM:=st 102
noncomputable def X0:Cn:=cn cls fld u8 ["text","words"] ["check_text","BLANK_texts","has_form","is_holder","NoText","tuple","read_number","read_rest"] [] []
theorem KZ:z9 ((aN RU 60).s X0) (z0 uM)=aA Z8:=by kernel_rfl
noncomputable def Al:List (aG×GM):=("read_row",GM.fn ur)::u8
noncomputable def yK:=st 104
noncomputable def J5:Cn:=cn cls fld Al ["text","words"] ["BLANK_texts","len","RUNNING","STANDING","NoText","read_number"] [] []
theorem Je:z9 ((aN RU 60).s J5) (z0 yK)=aA yE:=by kernel_rfl
noncomputable def Ak:List (aG×GM):=("read_turn",GM.fn y6)::Al
noncomputable def kY:=st 105
noncomputable def Wx:Cn:=cn cls fld Ak ["text","parts","start","turns"] ["check_text","BETWEEN_TURNS","read_number","are_turns","NoText","Clock"] [] ["turns"]
theorem W_:z9 ((aN RU 60).s Wx) (z0 kY)=aA kN:=by kernel_rfl
noncomputable def Aq:List (aG×GM):=("read_clock",GM.fn kl)::Ak
noncomputable def jA:=st 106
noncomputable def Q9:Cn:=cn cls fld Aq ["shape","book"] ["check_book","BETWEEN_LINES"] ["shape"] []
theorem Q4:z9 ((aN RU 60).s Q9) (z0 jA)=aA jD:=by kernel_rfl
noncomputable def ww:List (aG×GM):=("show_book",GM.fn vS)::Aq
noncomputable def kQ:=st 110
noncomputable def WT:Cn:=cn cls fld ww ["thing"] ["isinstance","dict","len","all"] ["thing"] ["~thing"]
theorem V8:z9 ((aN RU 60).s WT) (z0 kQ)=aA xk:=by kernel_rfl
noncomputable def AY:List (aG×GM):=("are_clocks",GM.fn kF)::ww
noncomputable def zq:=aQ (st 112) 1
noncomputable def wt:Cn:={(cn cls fld AY ["self","seat"] ["House"] ["seat"] [] (aA (0,[⟨553,64,553,91⟩]))) with fz:=["seat"]}
theorem kn:z9 ((aN RU 60).s {wt with fz:=[]}) ((z0 zq).take 0)=aA (zJ.take 0):=by kernel_rfl
theorem xK:z9 ((aN RU 60).s wt) ((z0 zq).drop 0)=aA (zJ.drop 0):=by kernel_rfl
noncomputable def BH:List (aG×GM):=(c3 "come_up",GM.met 47 "come_up" zv)::AY
noncomputable def vZ:=aQ (st 112) 0
noncomputable def Z2:Cn:=cn cls fld BH ["self","shape","ahead","stride","clocks","holder","seat"] ["are_clocks","NoHolder","Common","Seat"] [] ["~clocks","seats","given"]
theorem ZN:z9 ((aN RU 60).s Z2) (z0 vZ)=aA vQ:=by kernel_rfl
noncomputable def Bn:List (aG×GM):=("World",GM.mk 47 aD wY)::BH
noncomputable def wz:=aQ (st 112) 3
noncomputable def xG:Cn:=cn cls fld Bn ["self","row"] ["is_row","NoRow","TIME_rows","Backward","is_holder","HOLDER","NoHolder"] [] []
theorem xy:z9 ((aN RU 60).s xG) (z0 wz)=aA wo:=by kernel_rfl
noncomputable def BE:List (aG×GM):=(c3 "check_row",GM.met 47 "check_row" qG)::Bn
noncomputable def v_:=aQ (st 112) 4
noncomputable def Zd:Cn:=cn cls fld BE ["self","row","seat","reading","told"] ["HOLDER","TIME_rows","WORD","MANY","HOUSE_rows","SPAN"] [] []
theorem Zo:z9 ((aN RU 60).s Zd) (z0 v_)=aA vW:=by kernel_rfl
noncomputable def BL:List (aG×GM):=(c3 "done",GM.met 47 "done" vf)::BE
noncomputable def jO:=aQ (st 112) 2
noncomputable def Q7:Cn:=cn cls fld BL ["self","row","names"] ["TIME_rows"] ["row"] []
theorem Q6:z9 ((aN RU 60).s Q7) (z0 jO)=aA js:=by kernel_rfl
noncomputable def BJ:List (aG×GM):=(c3 "put",GM.met 47 "put" vY)::BL
noncomputable def kX:=aQ (st 112) 5
noncomputable def V7:Cn:=cn cls fld BJ ["self"] ["list"] [] ["return"]
theorem WH:z9 ((aN RU 60).s V7) (z0 kX)=aA xF:=by kernel_rfl
noncomputable def UO:List (aG×GM):=(c3 "book",GM.met 47 "book" vi)::BJ
noncomputable def vC:=aQ (st 112) 6
noncomputable def Zb:Cn:=cn cls fld UO ["self"] [] [] []
theorem Zt:z9 ((aN RU 60).s Zb) (z0 vC)=aA vR:=by kernel_rfl
noncomputable def Bt:List (aG×GM):=(c3 "leases",GM.met 47 "leases" wV)::UO
noncomputable def wq:=aQ (st 112) 7
noncomputable def xg:Cn:=cn cls fld Bt ["self","name"] [] [] []
theorem xw:z9 ((aN RU 60).s xg) (z0 wq)=aA wd:=by kernel_rfl
noncomputable def BR:List (aG×GM):=(c3 "holder_of",GM.met 47 "holder_of" yZ)::Bt
noncomputable def jx:=st 113
noncomputable def Qg:Cn:=cn cls fld BR ["highs","high","found","one"] ["sorted","all"] ["one"] ["found"]
theorem Qe:z9 ((aN RU 60).s Qg) (z0 jx)=aA jM:=by kernel_rfl
noncomputable def Bv:List (aG×GM):=("highest_two",GM.fn vN)::BR
noncomputable def Wd:=st 114
noncomputable def Yt:Cn:=cn cls fld Bv ["shape","book","found","highs","place","holder","moment","others"] ["range","len","parts_of","highest_two","max"] ["holder"] ["found"]
theorem YX:z9 ((aN RU 60).s Yt) (z0 Wd)=aA W7:=by kernel_rfl
noncomputable def Hh:List (aG×GM):=("back_by",GM.fn V4)::Bv
noncomputable def G5:List (aG×GM):=("BLANK_desk",GM.cst (.str " "))::Hh
noncomputable def G2:List (aG×GM):=("BETWEEN_HOLDERS",GM.cst (.str " ; "))::G5
noncomputable def GG:List (aG×GM):=("BETWEEN_LEASES",GM.cst (.str ", "))::G2
noncomputable def GV:List (aG×GM):=("NEW_WORLD",GM.cst (.str "world "))::GG
noncomputable def Hb:List (aG×GM):=("JUDGE",GM.cst (.str "judge\n"))::GV
noncomputable def GA:List (aG×GM):=("DONE",GM.cst (.str "ok"))::Hb
noncomputable def Bx:List (aG×GM):=("NOTHING",GM.cst (.str "none"))::GA
noncomputable def Zf:=st 123
noncomputable def X6:Cn:=cn cls fld Bx ["things"] ["BLANK_desk"] [] []
theorem X7:z9 ((aN RU 60).s X6) (z0 Zf)=aA Z_:=by kernel_rfl
noncomputable def BC:List (aG×GM):=("words_of",GM.fn cI)::Bx
noncomputable def jN:=st 124
noncomputable def Qt:Cn:=cn cls fld BC ["texts","clocks","text","parts","holder"] ["BLANK_desk","is_holder","NoText","read_clock"] [] ["clocks"]
theorem Qx:z9 ((aN RU 60).s Qt) (z0 jN)=aA jR:=by kernel_rfl
noncomputable def BG:List (aG×GM):=("read_clocks",GM.fn vB)::BC
noncomputable def vK:=st 125
noncomputable def Zn:Cn:=cn cls fld BG ["text","many","words"] ["BLANK_desk","len","NoText"] [] []
theorem uH:z9 ((aN RU 60).s Zn) (z0 vK)=aA j8:=by kernel_rfl
noncomputable def Bu:List (aG×GM):=("read_numbers",GM.fn vl)::BG
noncomputable def yr:=st 126
noncomputable def Vz:Cn:=cn cls fld Bu ["text","parts","numbers","clocks","shape"] ["BETWEEN_HOLDERS","read_numbers","read_clocks","NoText","NoRow","Shape","World"] [] []
theorem Vy:z9 ((aN RU 60).s Vz) (z0 yr)=aA yx:=by kernel_rfl
noncomputable def Bo:List (aG×GM):=("new_world",GM.fn xZ)::Bu
noncomputable def kZ:=st 127
noncomputable def Vl:Cn:=cn cls fld Bo ["world","text","row","names"] ["read_row","NoText","NoRow","len","DONE","words_of"] ["world"] []
theorem WR:z9 ((aN RU 60).s Vl) (z0 kZ)=aA xP:=by kernel_rfl
noncomputable def BB:List (aG×GM):=("answer_row",GM.fn jW)::Bo
noncomputable def jF:=st 128
noncomputable def Qp:Cn:=cn cls fld BB ["world"] ["show_book"] [] []
theorem Qw:z9 ((aN RU 60).s Qp) (z0 jF)=aA jS:=by kernel_rfl
noncomputable def UQ:List (aG×GM):=("answer_book",GM.fn vF)::BB
noncomputable def vo:=st 129
noncomputable def yX:Cn:=cn cls fld UQ ["world"] ["BETWEEN_LEASES"] [] []
theorem u5:z9 ((aN RU 60).s yX) (z0 vo)=aA vt:=by kernel_rfl
noncomputable def Bz:List (aG×GM):=("answer_leases",GM.fn wD)::UQ
noncomputable def jr:=st 132
noncomputable def QB:Cn:=cn cls fld Bz ["world","told"] ["back_by","NOTHING","words_of"] [] []
theorem Q1:z9 ((aN RU 60).s QB) (z0 jr)=aA jQ:=by kernel_rfl
noncomputable def Bj:List (aG×GM):=("answer_back",GM.fn vU)::Bz
noncomputable def VQ:=st 134
noncomputable def US:Cn:=cn cls fld Bj ["world","text","words"] ["JUDGE","len","answer_book","answer_leases","answer_back","BLANK_desk","answer_row"] [] []
theorem z0p:z9 ((aN RU 60).s US) (z0 VQ)=aA J9:=by kernel_rfl
noncomputable def Bs:List (aG×GM):=("answer",GM.fn fR)::Bj
noncomputable def yP:=aQ (st 135) 0
noncomputable def Ja:Cn:=cn cls fld Bs ["self"] [] [] []
theorem Jh:z9 ((aN RU 60).s Ja) (z0 yP)=aA yC:=by kernel_rfl
noncomputable def Bp:List (aG×GM):=("Desk",GM.mk 48 aD jl)::Bs
noncomputable def ZU:=aQ (st 135) 1
noncomputable def J_:Cn:=cn cls fld Bp ["self","row"] ["isinstance","str","NoRow","NEW_WORLD","new_world","len","DONE","answer"] [] []
theorem KP:z9 ((aN RU 60).s J_) (z0 ZU)=aA ZO:=by kernel_rfl
noncomputable def By:List (aG×GM):=(c3 "say",GM.met 48 "say" zP)::Bp
noncomputable def Wm:=st 138
noncomputable def YL:Cn:=cn cls fld By ["_law_cell"] [] [] ["return"]
theorem Uk:z9 ((aN RU 60).s YL) (z0 Wm)=aA QX:=by kernel_rfl
noncomputable def BA:List (aG×GM):=("_law_begin",GM.fn l_begin)::By
noncomputable def uF:=st 139
noncomputable def KL:Cn:=cn cls fld BA ["_law_state","_law_base","_law_found","_law_number"] [] [] []
theorem Kn:z9 ((aN RU 60).s KL) (z0 uF)=aA Zx:=by kernel_rfl
noncomputable def BQ:List (aG×GM):=("_law_next",GM.fn l_next_4)::BA
noncomputable def uP:=st 140
noncomputable def K2:Cn:=cn cls fld BQ ["_law_some"] [] [] []
theorem KN:z9 ((aN RU 60).s K2) (z0 uP)=aA uR:=by kernel_rfl
noncomputable def BN:List (aG×GM):=("_law_worlds",GM.fn ZS)::BQ
noncomputable def Jo:=st 141
noncomputable def Ts:Cn:=cn cls fld BN ["_law_state","_law_some"] ["_law_worlds","_law_next","len"] [] []
theorem TV:z9 ((aN RU 60).s Ts) (z0 Jo)=aA Jf:=by kernel_rfl
noncomputable def Bq:List (aG×GM):=("_law_none",GM.fn l_none)::BN
noncomputable def jI:=st 142
noncomputable def Qo:Cn:=cn cls fld Bq ["_law_desk","_law_row","_law_found","e","_law_other"] ["HouseError","isinstance","Backward","Ended","NoClock","NoHolder","NoLease","NoName","NoShape","NoText","NoTime","NoRow","ValueError"] [] []
theorem Q3:z9 ((aN RU 60).s Qo) (z0 jI)=aA jH:=by kernel_rfl
noncomputable def BP:List (aG×GM):=("_law_refused",GM.fn l_refused_7)::Bq
noncomputable def uQ:=st 143
noncomputable def Kf:Cn:=cn cls fld BP ["_law_desk"] [] [] []
theorem Kg:z9 ((aN RU 60).s Kf) (z0 uQ)=aA ZM:=by kernel_rfl
noncomputable def Gz:List (aG×GM):=("_law_looked",GM.fn l_looked)::BP
noncomputable def zY:=st 144
noncomputable def Yp:Cn:=cn cls fld Gz ["_law_script","_law_fresh","_law_desk","_law_needing","_law_rows","_law_row","_law_looked_here","_law_cell","_law_state"] ["Desk","_law_looked","_law_begin","_law_none","_law_refused","_law_next"] [] ["{:}","&_law_refused","&_law_looked"]
theorem Yr:z9 ((aN RU 60).s Yp) (z0 zY)=aA Wq:=by kernel_rfl
end NH.K86
namespace NH
open PySem L2
noncomputable def rJ:T:=.obj 40 [(0,.int 90),(1,.int 2),(2,.int 3)]
noncomputable def d_ (e:Nat):aI:=[.tab 0,.obj 48 [(27,.non)],.obj 48 [(27,.mut 8)],.frd e [(.inr "anna",.mut 5),(.inr "any",.mut 7)],.lst [],.obj 41 [(3,.int 0),(4,.lst [])],.lst [.tup [.int 50,.int 3,.bl aD]],.obj 41 [(3,.int 0),(4,.lst [.tup [.int 50,.int 3,.bl aD]])],
 .obj 47 [(9,rJ),(14,.int 4),(15,.int 5),(23,.mut 9),(24,.mut 11),(25,.int 13),(26,.mut 12)],.obj 43 [(9,rJ),(10,.mut 10)],.lst [.mut 20,.mut 22],
 .lst [.tup [.int 9,.str "any",.int 57],.tup [.int 9,.str "any",.int 58],.tup [.int 12,.str "anna",.int 72]],.dic [(.inr "anna",.mut 13),(.inr "any",.mut 16)],
 .obj 46 [(21,.mut 5),(11,.mut 14),(22,.tup [.tup [.int 0,.int 7,.int 37],.int 17])],
 .obj 45 [(9,rJ),(14,.int 4),(15,.int 5),(16,.clo 300 [.clo 100 [],.clo 200 [.mut 13]]),(6,.tup [.int 0,.int 7,.int 37]),(17,.int 17),(18,.int 79),(19,.mut 27),(20,.bl aD)],.lst [],
 .obj 46 [(21,.mut 7),(11,.mut 17),(22,.tup [.tup [.int 1,.int 8,.int 17],.int 14])],
 .obj 45 [(9,rJ),(14,.int 4),(15,.int 5),(16,.clo 300 [.clo 100 [],.clo 200 [.mut 16]]),(6,.tup [.int 1,.int 8,.int 17]),(17,.int 14),(18,.int 58),(19,.mut 23),(20,.bl aD)],.lst [],.dic [],
 .obj 42 [(5,.str "anna"),(6,.tup [.int 0,.int 7,.int 37]),(7,.int 37),(8,.bl aD)],.dic [(.inl 0,.bl aB)],.obj 42 [(5,.str "any"),(6,.tup [.int 1,.int 8,.int 17]),(7,.int 17),(8,.bl aD)],.lst [],
 .lst [.int 57,.int 58],.lst [.str "s",.str "1"],.lst [.str "t",.str "1"],.lst [.obj 44 [(11,.int 0),(12,.int 39),(13,.int 41)]],.lst [.int 72],.lst [.str "8",.str "2"]]
noncomputable def vA:List T:=[.str "book",.str "leases",.str "back",.str "who 0",.str "tell 0",.str "judge\n",.str "ask 5 anna 1",.str "lease 5 anna any 5",.str "fall 5 anna",.str "judge\nanna 0"]
noncomputable def jU:T:=.lst [.str "any 1s\nany 1t\nanna 28",.str "anna 0 7 37, any 1 8 17",.str "-3 1 2"]
noncomputable def Hx:List T:=[.str "world 90 2 3 4 5 ; anna 0 ; any 0, 50 3 stands",.str "lease 7 anna any 30",.str "lease 8 any any 9",.str "ask 9 any 2"]
noncomputable def qm:List T:=match xb (NX.B_l_none.take 7) [aA .non,aF] [] with
 |.nx [_,aA (.lst l)] _=>l
 |_=>[]
noncomputable def UK(x:XR T):Option (T×aI):=match x with
 |.ok t a=>aA (t,a.take 30)
 |_=>aF
theorem MR(v:T)(E:En):(xb (NX.B_law_k86.take 7) [aA v,aF,aF,aF,aF,aF,aF,aF,aF] [.tab 0]).wp E=(∀g:Nat,g=g/\g=g/\∀d:Nat,d=d/\d=d/\E.nx [aA v,aA (.mut 1),aA (.mut 2),aA (.lst vA),aA (.lst Hx),aA (.str "store 13 anna 2"),aA jU,aF,aF] (d_ d)):=by kernel_rfl
theorem Ph(i:Nat)(a:aI)(E:En):(xb (NX.B_l_none.take 7) [aA (.mut i),aF] a).wp E=E.nx [aA (.mut i),aA (.lst qm)] a:=by kernel_rfl
theorem NR(e:Nat):qm.map (λr=>UK (NX.l_refused_7.x [.mut 2,r] (d_ e)))=qm.map λ_=>aA (.bl aB,d_ e):=by kernel_rfl
theorem Rt(e:Nat):qm.map (λr=>UK (NX.l_refused_7.x [.mut 1,r] (d_ e)))=qm.map λ_=>aA (.bl aB,d_ e):=by kernel_rfl
theorem R0(e:Nat):vA.map (λr=>UK (NX.l_refused_7.x [.mut 1,r] (d_ e)))=vA.map λ_=>aA (.bl aB,d_ e):=by kernel_rfl
theorem Ul(e:Nat):UK (NX.l_looked.x [.mut 2] (d_ e))=aA (jU,d_ e):=by kernel_rfl
end NH
namespace NH
open PySem PySem.Spec PyProof.Rows L2
theorem N4{i:Decidable p}(b:p->A)(a:¬p->B):oC (decide p) A B:=by
 cases i with
 |isTrue h=>exact b h
 |isFalse h=>exact a h
theorem S8{tg:Tg}{body:Ds}{lv:aI->Prop}{xs:List T}{τ:Sl}{a:aI}{E:En}(I:Nat->Sl->aI->Prop)(n:I 0 τ a)
  (h:∀i x τ a,xs[i]?=aA x->I i τ a->∀N:Sl->aI->Prop,(∀τ a,I (i+1) τ a->N τ a)->∃d,iM tg x τ=aA d/\body d a (E.turn N))
  (k:∀τ a,I xs.length τ a->E.nx τ a) (l:∀i τ a,I i τ a->lv a:=by intros;trivial):eK tg body lv xs τ a E:=by
 have go:∀(rest:List T) (i:Nat) (τ:Sl) (a:aI),xs.drop i=rest->i<=xs.length->I i τ a->eK tg body lv rest τ a E:=by
  intro rest;induction rest with
  |nil=>
   intro i τ a hd m g;have:i=xs.length:=by
    have:=congrArg mG hd;simp at this;omega
   subst this;exact k τ a g
  |cons x r ih=>
   intro i τ a hd m g;have j:xs[i]?=aA x:=by
    have:(xs.drop i)[0]?=aA x:=by rw[hd];rfl
    simpa using this
   have e:i<xs.length:=(cH.mp j).1;have f:xs.drop (i+1)=r:=by
    have:(xs.drop i).tail=r:=by rw[hd];rfl
    simpa using this
   exact h i x τ a j g _ λb c z=>⟨l _ _ _ z,ih (i+1) b c f e z⟩
 exact go xs 0 τ a rfl (gQ _) n
end NH
section
namespace NH
open PySem L2
variable {μ:aI}{K:T->aI->Prop}{Z:Xp}
noncomputable def oH (μ:aI)(i:Nat):Prop:=∃a b c:Int,μ[i]?=aA (.lst [.int a,.int b,.int c])
theorem RY{c:Int}(q:∀x y,K (.mut μ.length) (μ++[.lst [.int x,.int y,.int 0]])):NX.l_begin.s [.int c] μ K Z:=by
 refine⟨rfl,?_⟩;show zK [(sRet (eLay [(eBin .Mult (eBin .FloorDiv (eV 0) (eC (.int 2))) (eBin .Sub (eC (.int 1)) (eBin .Mod (eV 0) (eC (.int 2))))),(eBin .Mod (eV 0) (eC (.int 2147483647))),(eC (.int 0))]))] (K_ [T.int c] 0) μ (En.fn K Z);exact⟨by decide,by decide,.inr (by unfold big;omega),by decide,q _ _⟩
theorem HG{i:Nat}{base:Int}(hs:oH μ i)(e:0<base)(k:base<1073741824)(q:∀v a b c,0<=v->v<base->K (.int v) (μ.set i (.lst [.int a,.int b,.int c]))):NX.l_next_4.s [.mut i,.int base] μ K Z:=by
 obtain⟨a,b,c,h⟩:=hs;have g:=(cH.mp h).1;have gs:∀y,(μ.set i y)[i]?=aA y:=λy=>by simp[g]
 have f:∀x:Int,-big<x % 2147483647/\x % 2147483647<big:=λx=>by unfold big;omega
 have d:∀x:Int,0<=x % base/\x % base<base:=λx=>⟨Int.emod_nonneg _ (by omega),Int.emod_lt_of_pos _ e⟩;refine⟨rfl,?_⟩;show zK [(sIf (tE (eCmp .Gt (eIx (eV 0) (eC (.int 0))) (eC (.int 0)))) [(sSet 2 (eBin .Mod (eIx (eV 0) (eC (.int 0))) (eV 1))),(sPut3 (eV 0) (eC (.int 0)) (eBin .FloorDiv (eIx (eV 0) (eC (.int 0))) (eV 1))),(sRet (eV 2))] []),(sPut3 (eV 0) (eC (.int 2)) (eBin .Add (eIx (eV 0) (eC (.int 2))) (eC (.int 1)))),(sSet 3 (eBin .Mod (eBin .Mult (eBin .Add (eBin .Add (eIx (eV 0) (eC (.int 1))) (eBin .Mult (eC (.int 7919)) (eIx (eV 0) (eC (.int 2))))) (eC (.int 1))) (eC (.int 48271))) (eC (.int 2147483647)))),(sSet 3 (eBin .Mod (eBin .Mult (eV 3) (eBin .Add (eBin .FloorDiv (eV 3) (eC (.int 1009))) (eC (.int 69621)))) (eC (.int 2147483647)))),(sSet 3 (eBin .Mod (eBin .Mult (eV 3) (eBin .Add (eBin .FloorDiv (eV 3) (eC (.int 2003))) (eC (.int 40692)))) (eC (.int 2147483399)))),(sRet (eBin .Mod (eBin .FloorDiv (eV 3) (eC (.int 7))) (eV 1)))] (K_ [T.mut i,T.int base] 2) μ (En.fn K Z);refine⟨_,_,h,rfl,?_⟩;refine N4 (λj=>?_) (λj=>?_)
 .refine⟨_,_,h,rfl,e,_,_,h,rfl,⟨e,by omega⟩,.inl ⟨_,h,by simp,?_⟩⟩;exact q _ _ _ _ (d _).1 (d _).2
 .exact⟨_,_,h,rfl,.inl ⟨_,h,by simp,_,_,gs _,rfl,_,_,gs _,rfl,.inl ⟨by decide,by decide⟩,.inr ⟨by decide,by decide⟩,by decide,⟨by decide,by decide⟩,.inl (f _),by decide,⟨by decide,by decide⟩,.inl (f _),by decide,⟨by decide,by decide⟩,e,q _ _ _ _ (d _).1 (d _).2⟩⟩
theorem Z6:∀(a b:List Ds) (τ:Sl) (μ:aI) (E:En),zK (a++b) τ μ E=zK a τ μ (E.nxt λτ μ=>zK b τ μ E)
 |[],_,_,_,_=>rfl
 |s::r,b,τ,μ,E=>congrArg (λf=>s τ μ (E.nxt f)) (funext λτ=>funext λμ=>Z6 r b τ μ E)
theorem SF(n:Nat)(B:List SX)(τ:Sl)(μ:aI)(E:En)(h:(xb (B.take n) τ μ).wp (E.nxt λτ μ=>zK ((B.drop n).map SX.s) τ μ E)):zK (B.map SX.s) τ μ E:=by
 rw[<-mS n B,List.map_append,Z6];exact vq _ _ _ _ h
theorem GR{xs:List α}{k:Int}(b:0<=k)(a:k<xs.length):xT xs k=xs[k.toNat]?:=by
 unfold xT ro;rw[if_pos b,if_pos a];rfl
theorem FP:qm.length=71:=by kernel_rfl
theorem Yc:qm.all (vj 30)=aB/\vA.all (vj 30)=aB/\vj 30 jU=aB:=⟨by kernel_rfl,by kernel_rfl,by kernel_rfl⟩
theorem G1(e:Nat):(d_ e).all (JH 30)=aB:=by kernel_rfl
theorem Yw{i:Nat}(hs:oH μ i)(q:∀r a b c,r∈qm->K r (μ.set i (.lst [.int a,.int b,.int c]))):NX.l_none.s [.mut i] μ K Z:=by
 refine⟨rfl,SF 7 _ _ _ _ ?_⟩;show (xb (NX.B_l_none.take 7) [aA (.mut i),aF] μ).wp _;rw[Ph];show zK [(sRet (eIx (eV 1) (eCall NX.l_next_4.s [(eV 0),(eB1 lenT (eV 1))])))] [aA (.mut i),aA (.lst qm)] μ (En.fn K Z);have e:((qm.length:Int))=71:=by rw[FP];rfl
 show NX.l_next_4.s [.mut i,.int (qm.length:Int)] μ _ _;rw[e];refine HG hs (by decide) (by decide) λv a b c g f=>?_;obtain⟨r,d⟩:∃r,qm[v.toNat]?=aA r:=⟨_,ir (by rw[FP];omega)⟩;refine⟨r,?_,q r a b c (cY d)⟩;rw[GR g (by rw[e];exact f)];exact d
theorem xC{g:FX}{ts:List T}{e:Nat}{t:T}(h:UK (g.x ts (d_ e))=aA (t,d_ e))(i:u0 30 ts=aB)(j:vj 30 t=aB){cs:aI}(q:K t (d_ e++cs)):vG 30 g.s ts (d_ e++cs) K Z:=by
 have c:(d_ e++cs).take 30=d_ e:=rfl;have dr:(d_ e++cs).drop 30=cs:=rfl;unfold vG;refine⟨⟨?_,i,?_⟩,?_⟩
 .rw[iI];exact Db 30 _
 .rw[c];exact G1 e
 .rw[c,dr];refine g.ok _ _ _ _ ?_;cases x:g.x ts (d_ e) with
  |ok f a=>
   rw[x] at h;have b:aA (f,a.take 30)=aA (t,d_ e):=h;injection b with b;injection b with k d;subst k;refine⟨⟨j,by rw[d];exact G1 e⟩,?_⟩;rw[d];exact q
  |_=>rw[x] at h;cases h
theorem eP{g h:T->Option (T×aI)}:∀{l:List T}{r:T},l.map g=l.map h->r∈l->g r=h r
 |a::l,r,e,m=>by
  have b:g a::l.map g=h a::l.map h:=e;injection b with b c;rcases dG.mp m with rfl|m
  .exact b
  .exact eP c m
theorem Z5{n i:Nat}{r:T}(a:i<n)(h:vj n r=aB):u0 n [.mut i,r]=aB:=by
 simp[u0,h,vj,iU,a]
noncomputable def Vf(gb gn gr gx gl:Fn):List Ds:=[(sSet 8 (eCall gb [(eV 7)])),(sSet 5 (eCall gn [(eV 8)])),(sIf (tOr (tNot (tE (eCallN 30 gr [(eV 2),(eV 5)]))) (tOr (tNot (tE (eCallN 30 gr [(eV 1),(eV 5)]))) (tNot (tE (eCallN 30 gr [(eV 2),(eV 5)]))))) [(sRet (eC (.bl aD)))] []),(sIf (tOr (tNot (tE (eCallN 30 gr [(eV 1),(eIx (eV 3) (eCall gx [(eV 8),(eC (.int 10))]))]))) (tE (eCmp .NotEq (eCallN 30 gl [(eV 2)]) (eV 6)))) [(sRet (eC (.bl aD)))] [])]
inductive Ci(M:aI)(nd td:List T)(lk:T)(k:Nat)(τ:Sl)(μ:aI):Prop
 |mk (v:T) (r c s:Option T) (cs:aI) (hτ:τ=[aA v,aA (.mut 1),aA (.mut 2),aA (.lst nd),aA (.lst td),r,aA lk,c,s]) (hμ:μ=M++cs) (hl:cs.length=k)
structure Cp(M:aI)(rows nd:List T)(lk:T)(gb gn gr gx gl:Fn):Prop where
 ln:M.length=30
 b:∀{c:Int}{μ:aI}{K:T->aI->Prop}{Z:Xp},(∀x y,K (.mut μ.length) (μ++[.lst [.int x,.int y,.int 0]]))->gb [.int c] μ K Z
 n:∀{i:Nat}{μ:aI}{K:T->aI->Prop}{Z:Xp},oH μ i->(∀r a b c,r∈rows->K r (μ.set i (.lst [.int a,.int b,.int c])))->gn [.mut i] μ K Z
 x:∀{i:Nat}{μ:aI}{K:T->aI->Prop}{Z:Xp},oH μ i->(∀v r a b c,(xT nd v=aA r/\r∈nd)->K (.int v) (μ.set i (.lst [.int a,.int b,.int c])))->gx [.mut i,.int 10] μ K Z
 rd:∀{r:T}{cs:aI}{K:T->aI->Prop}{Z:Xp},r∈rows->K (.bl aB) (M++cs)->vG 30 gr [.mut 2,r] (M++cs) K Z
 rf:∀{r:T}{cs:aI}{K:T->aI->Prop}{Z:Xp},r∈rows->K (.bl aB) (M++cs)->vG 30 gr [.mut 1,r] (M++cs) K Z
 rn:∀{r:T}{cs:aI}{K:T->aI->Prop}{Z:Xp},r∈nd->K (.bl aB) (M++cs)->vG 30 gr [.mut 1,r] (M++cs) K Z
 l:∀{cs:aI}{K:T->aI->Prop}{Z:Xp},K lk (M++cs)->vG 30 gl [.mut 2] (M++cs) K Z
 q:∀{μ:aI}{K:T->aI->Prop}{Z:Xp},K (.bl aD) μ->yn .NotEq lk lk μ K Z
theorem Np{M:aI}{e nd p:List T}{lk:T}{gb gn gr gx gl:Fn}(F:Cp M e nd lk gb gn gr gx gl){k:Nat}{τ:Sl}{B:Int}{E:En}{N:Sl->aI->Prop}(J:Ci M nd p lk k τ μ)(hN:∀τ μ,Ci M nd p lk (k+1) τ μ->N τ μ):∃d,iM (.one 7) (.int B) τ=aA d/\zK (Vf gb gn gr gx gl) d μ (E.turn N):=by
 obtain⟨v,r,c,s,cs,rfl,rfl,u⟩:=J;refine⟨_,rfl,?_⟩;unfold Vf;refine F.b λx y=>?_;have f:(M++cs).length=30+k:=by rw[iI,u,F.ln]
 rw[f,pU];have st:∀a b c:Int,oH (M++(cs++[.lst [.int a,.int b,.int c]])) (30+k):=λa b c=>⟨a,b,c,by rw[<-pU,fP (by rw[f];exact bG _),f,CN];rfl⟩;have t:∀a b c o m g:Int,(M++(cs++[MO.lst [.int a,.int b,.int c]])).set (30+k) (.lst [.int o,.int m,.int g])=M++(cs++[MO.lst [.int o,.int m,.int g]]):=λa b c o m g=>by
  rw[<-pU,List.set_append_right _ _ (by rw[f];exact bG _),f,CN,<-pU];rfl
 refine F.n (st _ _ _) λh a b g i=>?_;rw[t];refine F.rd i ?_;refine F.rf i ?_;refine F.rd i ?_;refine F.x (st _ _ _) λv w a b g A=>?_;rw[t];obtain⟨z,j⟩:=A;refine⟨w,z,?_⟩;refine F.rn j ?_;refine F.l ?_;refine F.q ?_;exact hN _ _ ⟨_,aA h,_,_,_,rfl,rfl,by simp[u]⟩
theorem Pr:cS [T.str "any 1s\nany 1t\nanna 28",.str "anna 0 7 37, any 1 8 17",.str "-3 1 2"] [T.str "any 1s\nany 1t\nanna 28",.str "anna 0 7 37, any 1 8 17",.str "-3 1 2"]=aA aB:=by decide +kernel
theorem OE{μ:aI}{K:T->aI->Prop}{Z:Xp}(q:K (.bl aD) μ):yn .NotEq jU jU μ K Z:=⟨by decide,aB,Pr,q⟩
theorem f86(e:Nat):Cp (d_ e) qm vA jU NX.l_begin.s NX.l_none.s NX.l_refused_7.s NX.l_next_4.s NX.l_looked.s where
 ln:=rfl
 b:=RY
 n:=Yw
 x:=λf q=>HG f (by decide) (by decide) λv a b c h g=>by
  obtain⟨r,d⟩:∃r,vA[v.toNat]?=aA r:=⟨_,ir (show v.toNat<10 by omega)⟩;exact q v r a b c ⟨(GR h (show v<(vA.length:Int) from g)).trans d,cY d⟩
 rd:=λd q=>xC (eP (NR e) d) (Z5 (by decide) (eF.mp Yc.1 _ d)) rfl q
 rf:=λd q=>xC (eP (Rt e) d) (Z5 (by decide) (eF.mp Yc.1 _ d)) rfl q
 rn:=λd q=>xC (eP (R0 e) d) (Z5 (by decide) (eF.mp Yc.2.1 _ d)) rfl q
 l:=λq=>xC (Ul e) (by decide) Yc.2.2 q
 q:=OE
noncomputable abbrev Ir(v:T)(r c s:Option T):Sl:=[aA v,aA (.mut 1),aA (.mut 2),aA (.lst vA),aA (.lst Hx),r,aA jU,c,s]
noncomputable abbrev e86(Z:Xp):En:=En.fn (λt _=>t=.bl aB) Z
abbrev gT:Prop:=∀b:Nat,b=b/\∀a:Nat,a=a/\T.bl aB=.bl aB
theorem qT:gT:=λ_=>⟨rfl,λ_=>⟨rfl,rfl⟩⟩
@[irreducible] noncomputable def Cr:List SX:=NX.B_law_k86.take 7
@[irreducible] noncomputable def IV:List SX:=NX.B_law_k86.drop 8
@[irreducible] noncomputable def gK(e:Nat)(v:T)(r c s:Option T)(Z:Xp)(cs:aI):Prop:=(xb IV (Ir v r c s) (d_ e++cs)).wp (e86 Z)
theorem PB(e:Nat)(v:T)(r c s:Option T)(Z:Xp)(a:MO):gK e v r c s Z [a]=gT:=by kernel_rfl
theorem SK(e:Nat)(v:T)(r c s:Option T)(Z:Xp)(b a:MO):gK e v r c s Z [b,a]=gT:=by kernel_rfl
theorem RP(e:Nat)(v:T)(r c s:Option T)(Z:Xp)(d b a:MO):gK e v r c s Z [d,b,a]=gT:=by kernel_rfl
theorem P5(e:Nat)(v:T)(r c s:Option T)(Z:Xp)(f d b a:MO):gK e v r c s Z [f,d,b,a]=gT:=by kernel_rfl
theorem P1(e:Nat)(v:T)(r c s:Option T)(Z:Xp)(g f d b a:MO):gK e v r c s Z [g,f,d,b,a]=gT:=by kernel_rfl
theorem P4(e:Nat)(v:T)(r c s:Option T)(Z:Xp)(h g f d b a:MO):gK e v r c s Z [h,g,f,d,b,a]=gT:=by kernel_rfl
theorem Pw(e:Nat)(v:T)(r c s:Option T)(Z:Xp)(i h g f d b a:MO):gK e v r c s Z [i,h,g,f,d,b,a]=gT:=by kernel_rfl
theorem SE(e:Nat)(v:T)(r c s:Option T)(Z:Xp)(j i h g f d b a:MO):gK e v r c s Z [j,i,h,g,f,d,b,a]=gT:=by kernel_rfl
theorem SW(e:Nat)(v:T)(r c s:Option T)(Z:Xp)(k j i h g f d b a:MO):gK e v r c s Z [k,j,i,h,g,f,d,b,a]=gT:=by kernel_rfl
theorem S6(e:Nat)(v:T)(r c s:Option T)(Z:Xp)(l k j i h g f d b a:MO):gK e v r c s Z [l,k,j,i,h,g,f,d,b,a]=gT:=by kernel_rfl
theorem TH(e:Nat)(v:T)(r c s:Option T)(Z:Xp)(m l k j i h g f d b a:MO):gK e v r c s Z [m,l,k,j,i,h,g,f,d,b,a]=gT:=by kernel_rfl
theorem Nm{P:aI->Prop}(p:∀d,P [d])(o:∀d g,P [d,g])(n:∀d g j,P [d,g,j])(l:∀d g j m,P [d,g,j,m])(k:∀d g j m u,P [d,g,j,m,u])(i:∀d g j m u z,P [d,g,j,m,u,z])(f:∀d g j m u z A,P [d,g,j,m,u,z,A])(e:∀d g j m u z A B,P [d,g,j,m,u,z,A,B])(c:∀d g j m u z A B C,P [d,g,j,m,u,z,A,B,C])(b:∀d g j m u z A B C D,P [d,g,j,m,u,z,A,B,C,D])(a:∀d g j m u z A B C D E,P [d,g,j,m,u,z,A,B,C,D,E]):∀cs:aI,1<=cs.length->cs.length<=11->P cs
 |[d],_,_=>p d
 |[d,g],_,_=>o d g
 |[d,g,j],_,_=>n d g j
 |[d,g,j,m],_,_=>l d g j m
 |[d,g,j,m,u],_,_=>k d g j m u
 |[d,g,j,m,u,z],_,_=>i d g j m u z
 |[d,g,j,m,u,z,A],_,_=>f d g j m u z A
 |[d,g,j,m,u,z,A,B],_,_=>e d g j m u z A B
 |[d,g,j,m,u,z,A,B,C],_,_=>c d g j m u z A B C
 |[d,g,j,m,u,z,A,B,C,D],_,_=>b d g j m u z A B C D
 |[d,g,j,m,u,z,A,B,C,D,E],_,_=>a d g j m u z A B C D E
 |[],h,_=>absurd h (by simp)
 |_::_::_::_::_::_::_::_::_::_::_::_::r,_,h=>absurd h (by simp only[eG];omega)
theorem M5(e:Nat)(v:T)(r c s:Option T)(Z:Xp):∀cs:aI,1<=cs.length->cs.length<=11->gK e v r c s Z cs:=
 Nm (λa=>(PB e v r c s Z a).mpr qT) (λa b=>(SK e v r c s Z a b).mpr qT) (λa b d=>(RP e v r c s Z a b d).mpr qT) (λa b d f=>(P5 e v r c s Z a b d f).mpr qT) (λa b d f g=>(P1 e v r c s Z a b d f g).mpr qT) (λa b d f g h=>(P4 e v r c s Z a b d f g h).mpr qT) (λa b d f g h i=>(Pw e v r c s Z a b d f g h i).mpr qT) (λa b d f g h i j=>(SE e v r c s Z a b d f g h i j).mpr qT) (λa b d f g h i j k=>(SW e v r c s Z a b d f g h i j k).mpr qT) (λa b d f g h i j k l=>(S6 e v r c s Z a b d f g h i j k l).mpr qT) (λa b d f g h i j k l m=>(TH e v r c s Z a b d f g h i j k l m).mpr qT)
theorem Nd(v:T)(μ:aI)(K:T->aI->Prop)(Z:Xp):P.law_k86 [v] μ K Z=([v].length=1/\zK (Cr.map SX.s++(sFor (.one 7) (iE (eBin .Add (eLst [(eC (.int 0))]) (eSl (eV 0) pN (pS (eC (.int 10)))))) (Vf NX.l_begin.s NX.l_none.s NX.l_refused_7.s NX.l_next_4.s NX.l_looked.s)::IV.map SX.s)) [aA v,aF,aF,aF,aF,aF,aF,aF,aF] μ (En.fn K Z)):=by kernel_rfl
theorem GL{B:List SX}{τ:Sl}{μ:aI}{E:En}(q:(xb B τ μ).wp E):zK (B.map SX.s) τ μ E:=vq B τ μ E q
theorem OK(v:T)(E:En):(xb Cr [aA v,aF,aF,aF,aF,aF,aF,aF,aF] [.tab 0]).wp E=(∀g:Nat,g=g/\g=g/\∀d:Nat,d=d/\d=d/\E.nx (Ir v (aA (.str "store 13 anna 2")) aF aF) (d_ d)):=by
 unfold Cr;exact MR v E
theorem NW{ns:List Int}{f:List Ds}{gb gn gr gx gl:Fn}{M:aI}{a nd d:List T}{lk:T}(F:Cp M a nd lk gb gn gr gx gl)(r:Option T){E:En}(l:ns.length<=63)
  (b:∀v r c s cs,1<=cs.length->cs.length<=11->zK f [aA v,aA (.mut 1),aA (.mut 2),aA (.lst nd),aA (.lst d),r,aA lk,c,s] (M++cs) E) :
  zK (sFor (.one 7) (iE (eBin .Add (eLst [(eC (.int 0))]) (eSl (eV 0) pN (pS (eC (.int 10)))))) (Vf gb gn gr gx gl)::f) [aA (.lst (ns.map T.int)),aA (.mut 1),aA (.mut 2),aA (.lst nd),aA (.lst d),r,aA lk,aF,aF] M E:=by
 have n:(ZP (ns.map T.int) aF (aA 10)).length<=10:=by
  unfold ZP nZ;simp only[gC,pR];simp;omega
 refine⟨?_,?_⟩
 .show 1+(ZP (ns.map T.int) aF (aA 10)).length<=a9;unfold a9;omega
 refine S8 (Ci M nd d lk) ⟨.lst (ns.map T.int),_,_,_,[],rfl,by simp,rfl⟩ (λi x g j k J N m=>?_) (λg j J=>?_)
 .obtain⟨c,rfl⟩:∃c,x=.int c:=by
   rcases dG.mp (cY k) with h|h
   .exact⟨0,h⟩
   .obtain⟨c,_,h⟩:=ly.mp (nO (ma h));exact⟨c,h.symm⟩
  exact Np F J m
 .obtain⟨v,r,c,s,cs,rfl,rfl,e⟩:=J;have o:cs.length=1+(ZP (ns.map T.int) aF (aA 10)).length:=e.trans (by simp[Nat.add_comm]);exact b v r c s cs (by omega) (by omega)
theorem RA:KH P.law_k86:=by
 intro f a;rw[Nd];refine⟨rfl,?_⟩;rw[Z6];refine GL ?_;rw[OK];refine λg=>⟨rfl,rfl,λe=>⟨rfl,rfl,?_⟩⟩;refine NW (f86 e) _ a λv r c s cs d b=>?_;have q:=M5 e v r c s (λ_ _ _=>False) cs d b;unfold gK at q;exact GL q
end NH
namespace NH.K86
open PySem L2 NH
theorem oq:KH NH.P.law_k86:=RA
end NH.K86
end
namespace NH.K86
open PySem PySem.Spec PyProof.Rows L2 NH NH.P PySem.W
theorem LU{P:List aC->Prop}(h:∀d,P [d]):∀us:List aC,us.length=1->P us:=PL.all (n:=1) h
theorem n4{P:List aC->Prop}(h:∀g d,P [g,d]):∀us:List aC,us.length=2->P us:=PL.all (n:=2) h
theorem FV{P:List aC->Prop}(h:∀j g d,P [j,g,d]):∀us:List aC,us.length=3->P us:=PL.all (n:=3) h
theorem LW{P:List aC->Prop}(h:∀r m j g d,P [r,m,j,g,d]):∀us:List aC,us.length=5->P us:=PL.all (n:=5) h
theorem Mm{P:List aC->Prop}(h:∀u r m j g d,P [u,r,m,j,g,d]):∀us:List aC,us.length=6->P us:=PL.all (n:=6) h
theorem GK{P:List aC->Prop}(h:∀g d,P [g,d]):∀us:List aC,us.length+1=3->P us:=λus e=>n4 h us (si e)
theorem MT{P:List aC->Prop}(h:∀r m j g d,P [r,m,j,g,d]):∀us:List aC,us.length+1=6->P us:=λus e=>LW h us (si e)
theorem all_mk {l:mq}{w:cX}{K:Frag}{h:aT}{mg:aG->Option aC}{fa C0 C1 C2 D C4 C5 C6 C7 C8 C9 q U T S R p W cA0 f0 N0 f1 N1 f2 N2 CC7 P o O u A a I z H y E t Y Q k r f127:aE}{od0 an0 dd0 od1 an1 dd1 od2 an2 dd2 od42 an42 te42 od52 an52 te52 od53 an53 te53 od93 an93 od127 an127:Option aE}{sl0 sl1 sl2 sl42 ts42 sl52 ts52 sl53 ts53 sl93 sl127:Array (Option aC)}{oc0 kV0 dc0 pm0 cd0 ct0 oc1 kV1 dc1 pm1 cd1 ct1 oc2 kV2 dc2 pm2 cd2 ct2 oc42 kV42 dc42 pm42 M ct42 td42 oc52 kV52 dc52 pm52 L ct52 td52 oc53 kV53 dc53 pm53 J ct53 td53 oc93 kV93 dc93 pm93 ct93 oc127 kV127 dc127 pm127 C ct127:aC}{nm0 qn0 lE qn1 nm2 qn2:aG}{bs0 sb0 bs1 sb1 bs2 sb2:List aC}{hd0 ab0 hd1 ab1 hd2 ab2:Bool}{sn0 sn1 sn2:List aG}{co0 co1 co2:Option Bool}{ka0 kb0 kc0 kd0 ke0 ka1 kb1 kc1 kd1 ke1 ka2 kb2 kc2 kd2 ke2:Option aC}{tk14 tk15 tk16 tk19 tk20 tz52 tz53 tk54 tk55 tk56 ka61_0 kb61_0 ka61_1 kb61_1 ka61_2 kb61_2 ka61_3 kb61_3 ka61_4 kb61_4 ka61_5 kb61_5 ka61_6 kb61_6 tk62 tk63 tk64 tk65 tk66 tk67 tk70 tk71 tk76 tk77 tk78 tk79 tk80 tk81 tk82 tk83 tk103 tk104 tk105 tk106 tk107 tk108 tk109:Tok}{tn42 tn52 tn53 ep61:Nat}(X:K.In h) (G:h.Ns bE mg) (hfa:mg "law"=aA (.ref fa))
  (e0:nsIn K bE "HouseError"=aA (aA (.ref C0)))
  (e1:nsIn K bE "NoShape"=aA (aA (.ref C1)))
  (e2:nsIn K bE "NoName"=aA (aA (.ref C2)))
  (e3:nsIn K bE "NoText"=aA (aA (.ref D)))
  (e4:nsIn K bE "NoClock"=aA (aA (.ref C4)))
  (e5:nsIn K bE "NoTime"=aA (aA (.ref C5)))
  (e6:nsIn K bE "NoHolder"=aA (aA (.ref C6)))
  (e7:nsIn K bE "NoLease"=aA (aA (.ref C7)))
  (e8:nsIn K bE "Ended"=aA (aA (.ref C8)))
  (e9:nsIn K bE "TooMany"=aA (aA (.ref C9)))
  (e10:nsIn K bE "Wait"=aA (aA (.ref q)))
  (e11:nsIn K bE "Empty"=aA (aA (.ref U)))
  (e12:nsIn K bE "NoNote"=aA (aA (.ref T)))
  (e13:nsIn K bE "Fallen"=aA (aA (.ref S)))
  (e14:nsIn K bE "NoRow"=aA (aA (.ref R)))
  (e15:nsIn K bE "Backward"=aA (aA (.ref p)))
  (xa0:K.lookup D=aA (fY nm0 qn0 D N0 bs0 (.ref C0::zr) hd0 sn0 sb0 ab0 co0 dd0 ka0 kb0 kc0 kd0 ke0 "ValueError.__new__"))
  (xb0:nj K N0=aB)
  (xc0:nsIn K N0 "__init__"=aA (aA (.ref f0)))
  (xd0:nl K (.ref f0)=aA (.type "function"))
  (xe0:cD K (.ref D) "__setattr__"=aA (aA (.builtin "object.__setattr__")))
  (xf0:cD K (.ref D) "line"=aA aF)
  (xg0:iT K D=aB)
  (xh0:dU K (.ref D)=aB)
  (ha0:lU K (.ref C0) "__getattribute__"=aA (aA (.builtin "type.__getattribute__")))
  (ha1:sh K C0 (.type "type")=aB)
  (ha2:sg K (.ref C0) (.type "type") "__init__"=aA (.val (.builtin "ValueError.__init__")))
  (l0:K.lookup f0=aA ⟨oc0,od0,.func (fnOf "__init__" "NoText.__init__" (zm qz) (z0 qz) (zc qz) .none kV0 dc0 pm0 an0 cd0 ct0),sl0⟩)
  (c0:eD K cd0 "NoText.__init__"=aB)
  (k0:dU K (.ref f0)=aB)
  (xa1:K.lookup q=aA (fY lE qn1 q N1 bs1 (.ref C0::zr) hd1 sn1 sb1 ab1 co1 dd1 ka1 kb1 kc1 kd1 ke1 "ValueError.__new__"))
  (xb1:nj K N1=aB)
  (xc1:nsIn K N1 "__init__"=aA (aA (.ref f1)))
  (xd1:nl K (.ref f1)=aA (.type "function"))
  (xe1:cD K (.ref q) "__setattr__"=aA (aA (.builtin "object.__setattr__")))
  (xf1:cD K (.ref q) "by"=aA aF)
  (xg1:iT K q=aB)
  (xh1:dU K (.ref q)=aB)
  (l1:K.lookup f1=aA ⟨oc1,od1,.func (fnOf "__init__" "Wait.__init__" (zm wm) (z0 wm) (zc wm) .none kV1 dc1 pm1 an1 cd1 ct1),sl1⟩)
  (c1:eD K cd1 "Wait.__init__"=aB)
  (k1:dU K (.ref f1)=aB)
  (xa2:K.lookup p=aA (fY nm2 qn2 p N2 bs2 (.ref C0::zr) hd2 sn2 sb2 ab2 co2 dd2 ka2 kb2 kc2 kd2 ke2 "ValueError.__new__"))
  (xb2:nj K N2=aB)
  (xc2:nsIn K N2 "__init__"=aA (aA (.ref f2)))
  (xd2:nl K (.ref f2)=aA (.type "function"))
  (xe2:cD K (.ref p) "__setattr__"=aA (aA (.builtin "object.__setattr__")))
  (xf2:cD K (.ref p) "now"=aA aF)
  (xg2:iT K p=aB)
  (xh2:dU K (.ref p)=aB)
  (l2:K.lookup f2=aA ⟨oc2,od2,.func (fnOf "__init__" "Backward.__init__" (zm zV) (z0 zV) (zc zV) .none kV2 dc2 pm2 an2 cd2 ct2),sl2⟩)
  (c2:eD K cd2 "Backward.__init__"=aB)
  (k2:dU K (.ref f2)=aB)
  (p3:zo K "is_whole" Zs)
  (p4:zo K "is_size" Wh)
  (p5:zo K "is_from_nought" wN)
  (p6:zo K "is_below" uY)
  (p7:Qb K CC7 "Shape" "Shape.__init__" xi)
  (p8:zo K "names_in" uW)
  (p9:zo K "is_name" QU)
  (p10:zo K "check_name" xx)
  (p11:zo K "check_part" kJ)
  (p12:zo K "name_of" Wl)
  (p13:zo K "parts_of" uB)
  (v14:nsIn K bE "HOUSE_leases"=aA (aA (.int 0 tk14)))
  (v15:nsIn K bE "FIRST"=aA (aA (.int 1 tk15)))
  (v16:nsIn K bE "UNTIL"=aA (aA (.int 2 tk16)))
  (p17:zo K "is_lease" um)
  (p18:zo K "check_lease" jC)
  (v19:nsIn K bE "LETTERS"=aA (aA (.str "abcdefghijklmnopqrstuvwxyz" tk19)))
  (v20:nsIn K bE "LONGEST_HOLDER"=aA (aA (.int 8 tk20)))
  (p21:zo K "is_holder" yR)
  (p22:Qb K P "Grant" "Grant.__init__" xn)
  (p23:zo K "meets" Xx)
  (p24:zo K "least_house" jE)
  (p25:Qb K o "Common" "Common.__init__" jP)
  (p26:qC K o "check_let" "Common.check_let" q_)
  (p27:qC K o "grants_of" "Common.grants_of" qY)
  (p28:qC K o "free_lease" "Common.free_lease" qi)
  (p29:qC K o "let" "Common.let" vP)
  (p30:qC K o "leases" "Common.leases" wg)
  (p31:qC K o "holder_of" "Common.holder_of" qZ)
  (p32:zo K "is_entry" Zz)
  (p33:zo K "check_book" xQ)
  (p34:Qb K O "Batch" "Batch.__init__" xm)
  (p35:zo K "name_at" QY)
  (p36:zo K "names_of_batch" qQ)
  (p37:zo K "size_of" yQ)
  (p38:zo K "place_above" jy)
  (p39:Qb K u "Seat" "Seat.__init__" yF)
  (p40:qC K u "jot" "Seat.jot" ZV)
  (q42:nsIn K bE "House"=aA (aA (.ref a)))
  (i42:cD K (.ref a) "__init__"=aA (aA (.ref A)))
  (j42:isFn K (.ref A)=aB)
  (l42:K.lookup A=aA ⟨oc42,od42,.func (fnOf "__init__" "House.__init__" (zm zh) (z0 zh) (zc zh) (.ref I) kV42 dc42 pm42 an42 M ct42),sl42⟩)
  (d42:K.lookup I=aA ⟨td42,te42,.seq #[.none] tn42,ts42⟩)
  (c42:eD K M "House.__init__"=aB)
  (k42:dU K (.ref A)=aB)
  (mk42:nk K a=aB)
  (kk42:dU K (.ref a)=aB)
  (p43:qC K a "check_up" "House.check_up" wL)
  (p44:qC K a "note" "House.note" xo)
  (p45:qC K a "keep" "House.keep" vX)
  (p46:qC K a "take_lease" "House.take_lease" qD)
  (p47:qC K a "check_has_lease" "House.check_has_lease" zX)
  (p48:qC K a "free_place" "House.free_place" w4)
  (p49:qC K a "next_batch" "House.next_batch" qW)
  (p50:qC K a "mark_behind" "House.mark_behind" qK)
  (p51:qC K a "hand_out" "House.hand_out" w6)
  (i52:cD K (.ref a) "ask"=aA (aA (.ref z)))
  (j52:isFn K (.ref z)=aB)
  (l52:K.lookup z=aA ⟨oc52,od52,.func (fnOf "ask" "House.ask" (zm zi) (z0 zi) (zc zi) (.ref H) kV52 dc52 pm52 an52 L ct52),sl52⟩)
  (d52:K.lookup H=aA ⟨td52,te52,.seq #[.int 1 tz52] tn52,ts52⟩)
  (c52:eD K L "House.ask"=aB)
  (k52:dU K (.ref z)=aB)
  (i53:cD K (.ref a) "store"=aA (aA (.ref y)))
  (j53:isFn K (.ref y)=aB)
  (l53:K.lookup y=aA ⟨oc53,od53,.func (fnOf "store" "House.store" (zm zd) (z0 zd) (zc zd) (.ref E) kV53 dc53 pm53 an53 J ct53),sl53⟩)
  (d53:K.lookup E=aA ⟨td53,te53,.seq #[.int 1 tz53] tn53,ts53⟩)
  (c53:eD K J "House.store"=aB)
  (k53:dU K (.ref y)=aB)
  (v54:nsIn K bE "TIME_clocks"=aA (aA (.int 0 tk54)))
  (v55:nsIn K bE "READING"=aA (aA (.int 1 tk55)))
  (v56:nsIn K bE "RUNS"=aA (aA (.int 2 tk56)))
  (p57:zo K "is_turn" Q_)
  (p58:zo K "are_turns" yD)
  (p59:Qb K t "Clock" "Clock.__init__" k_)
  (p60:qC K t "reading" "Clock.reading" vr)
  (v61:nsIn K bE "LENGTHS"=aA (aA (.ref Y)))
  (w61:K.lookup Y=aA {cls:=.type "dict",data:=.dict #[⟨iQ w "lease",.str "lease" ka61_0,.int 5 kb61_0⟩,⟨iQ w "ask",.str "ask" ka61_1,.int 4 kb61_1⟩,⟨iQ w "store",.str "store" ka61_2,.int 4 kb61_2⟩,⟨iQ w "take",.str "take" ka61_3,.int 4 kb61_3⟩,⟨iQ w "back",.str "back" ka61_4,.int 3 kb61_4⟩,⟨iQ w "fall",.str "fall" ka61_5,.int 3 kb61_5⟩,⟨iQ w "bare",.str "bare" ka61_6,.int 3 kb61_6⟩] ep61})
  (y61:(Y==hY)=aD)
  (v62:nsIn K bE "WORD"=aA (aA (.int 0 tk62)))
  (v63:nsIn K bE "TIME_rows"=aA (aA (.int 1 tk63)))
  (v64:nsIn K bE "HOLDER"=aA (aA (.int 2 tk64)))
  (v65:nsIn K bE "HOUSE_rows"=aA (aA (.int 3 tk65)))
  (v66:nsIn K bE "SPAN"=aA (aA (.int 4 tk66)))
  (v67:nsIn K bE "MANY"=aA (aA (.int 3 tk67)))
  (p68:zo K "has_form" uV)
  (p69:zo K "is_row" JA)
  (v70:nsIn K bE "SIGNS"=aA (aA (.str "0123456789abcdefghjkmnpqrstvwxyz" tk70)))
  (v71:nsIn K bE "BASE"=aA (aA (.int 32 tk71)))
  (p72:zo K "length_for" xI)
  (p73:zo K "word_of" QN)
  (p74:zo K "width" Xy)
  (p75:zo K "show_name" jq)
  (v76:nsIn K bE "BLANK_texts"=aA (aA (.str " " tk76)))
  (v77:nsIn K bE "BETWEEN_TURNS"=aA (aA (.str ", " tk77)))
  (v78:nsIn K bE "BETWEEN_LINES"=aA (aA (.str "\n" tk78)))
  (v79:nsIn K bE "NO_HOUSE"=aA (aA (.str "any" tk79)))
  (v80:nsIn K bE "RUNNING"=aA (aA (.str "runs" tk80)))
  (v81:nsIn K bE "STANDING"=aA (aA (.str "stands" tk81)))
  (v82:nsIn K bE "FIGURES"=aA (aA (.str "0123456789" tk82)))
  (v83:nsIn K bE "MOST_FIGURES"=aA (aA (.int 40 tk83)))
  (p84:zo K "is_number" yM)
  (p85:zo K "check_text" xO)
  (p86:zo K "read_number" jG)
  (p87:zo K "read_rest" yw)
  (p88:zo K "read_row" uM)
  (p89:zo K "read_turn" yK)
  (p90:zo K "read_clock" kY)
  (p91:zo K "show_book" jA)
  (p92:zo K "are_clocks" kQ)
  (i93:cD K (.ref k) "come_up"=aA (aA (.ref Q)))
  (j93:isFn K (.ref Q)=aB)
  (l93:K.lookup Q=aA ⟨oc93,od93,.func (fnOf "come_up" "World.come_up" (zm zq) (z0 zq) (zc zq) .none kV93 dc93 pm93 an93 (.ref cA0) ct93),sl93⟩)
  (c93:eD K (.ref cA0) "World.come_up"=aB)
  (zt0:oV K cA0 W=aB)
  (zk0:K.lookup W=aF)
  (zs0:W≠oR)
  (k93:dU K (.ref Q)=aB)
  (p94:Qb K k "World" "World.__init__" vZ)
  (p95:qC K k "check_row" "World.check_row" wz)
  (p96:qC K k "done" "World.done" v_)
  (p97:qC K k "put" "World.put" jO)
  (p98:qC K k "book" "World.book" kX)
  (p99:qC K k "leases" "World.leases" vC)
  (p100:qC K k "holder_of" "World.holder_of" wq)
  (p101:zo K "highest_two" jx)
  (p102:zo K "back_by" Wd)
  (v103:nsIn K bE "BLANK_desk"=aA (aA (.str " " tk103)))
  (v104:nsIn K bE "BETWEEN_HOLDERS"=aA (aA (.str " ; " tk104)))
  (v105:nsIn K bE "BETWEEN_LEASES"=aA (aA (.str ", " tk105)))
  (v106:nsIn K bE "NEW_WORLD"=aA (aA (.str "world " tk106)))
  (v107:nsIn K bE "JUDGE"=aA (aA (.str "judge\n" tk107)))
  (v108:nsIn K bE "DONE"=aA (aA (.str "ok" tk108)))
  (v109:nsIn K bE "NOTHING"=aA (aA (.str "none" tk109)))
  (p110:zo K "words_of" Zf)
  (p111:zo K "read_clocks" jN)
  (p112:zo K "read_numbers" vK)
  (p113:zo K "new_world" yr)
  (p114:zo K "answer_row" kZ)
  (p115:zo K "answer_book" jF)
  (p116:zo K "answer_leases" vo)
  (p117:zo K "answer_back" jr)
  (p118:zo K "answer" VQ)
  (p119:Qb K r "Desk" "Desk.__init__" yP)
  (p120:qC K r "say" "Desk.say" ZU)
  (p121:zo K "_law_begin" Wm)
  (p122:zo K "_law_next" uF)
  (p123:zo K "_law_worlds" uP)
  (p124:zo K "_law_none" Jo)
  (p125:zo K "_law_refused" jI)
  (p126:zo K "_law_looked" uQ)
  (a127:nsIn K bE "law"=aA (aA (.ref f127)))
  (l127:K.lookup f127=aA ⟨oc127,od127,.func (fnOf "law" "law" (zm zY) (z0 zY) (zc zY) .none kV127 dc127 pm127 an127 C ct127),sl127⟩)
  (c127:eD K C "law"=aB)
  (k127:dU K (.ref f127)=aB)
  (x0:eM K C0 zr "ValueError.__new__"=aB)
  (x1:eM K C1 zr "ValueError.__new__"=aB)
  (x2:eM K C2 zr "ValueError.__new__"=aB)
  (x4:eM K C4 zr "ValueError.__new__"=aB)
  (x5:eM K C5 zr "ValueError.__new__"=aB)
  (x6:eM K C6 zr "ValueError.__new__"=aB)
  (x7:eM K C7 zr "ValueError.__new__"=aB)
  (x8:eM K C8 zr "ValueError.__new__"=aB)
  (x9:eM K C9 zr "ValueError.__new__"=aB)
  (x11:eM K U zr "ValueError.__new__"=aB)
  (x12:eM K T zr "ValueError.__new__"=aB)
  (x13:eM K S zr "ValueError.__new__"=aB)
  (x14:eM K R zr "ValueError.__new__"=aB)
  (zl:Km K=aB)
  (V:chk K ⟨[(10,C0),(12,C1),(13,C2),(14,D),(15,C4),(16,C5),(17,C6),(18,C7),(19,C8),(20,C9),(21,q),(22,U),(23,T),(24,S),(25,R),(26,p)],[(40,CC7),(42,P),(43,o),(44,O),(46,u),(45,a),(41,t),(47,k),(48,r)]⟩ cls fld=aB)
  (zg:BO K ⟨[(10,C0),(12,C1),(13,C2),(14,D),(15,C4),(16,C5),(17,C6),(18,C7),(19,C8),(20,C9),(21,q),(22,U),(23,T),(24,S),(25,R),(26,p)],[(40,CC7),(42,P),(43,o),(44,O),(46,u),(45,a),(41,t),(47,k),(48,r)]⟩ ["ValueError","all","bool","dict","int","isinstance","len","list","max","min","range","reversed","sorted","str","sum","tuple"] [("HouseError",10),("NoShape",12),("NoName",13),("NoClock",15),("NoTime",16),("NoHolder",17),("NoLease",18),("Ended",19),("TooMany",20),("Empty",22),("NoNote",23),("Fallen",24),("NoRow",25)] [("NoText",14,28),("Wait",21,29),("Backward",26,25)]=aB) :
  (Km K=aB/\K.lookup W=aF/\W≠oR/\∃c,oV K c W=aB)/\∃fd:FuncData,(∀(s:aW) (v:aC),mu s fd ⟨[v],[]⟩ [("_law_script",v)])/\∀base:aT,K.In base->base.Ns bE mg->base.BuiltinsAt mg W->bI l.prog w K mg base (cG l.prog w) 108 fa fd ["_law_script"] (Ks K W):=by
 have e:=hfa.symm.trans (bY X G a127);cases e;have F0:=j3 (st:=qz) l0 c0 k0;have b0:=F0.binds (ps:=["self","line"]) λ_ _ _ _ _ _=>n4 λ_ _=>rfl;have F1:=j3 (st:=wm) l1 c1 k1;have b1:=F1.binds (ps:=["self","by"]) λ_ _ _ _ _ _=>n4 λ_ _=>rfl;have F2:=j3 (st:=zV) l2 c2 k2;have b2:=F2.binds (ps:=["self","now"]) λ_ _ _ _ _ _=>n4 λ_ _=>rfl;have b42:=yd (K:=K) (fd:=fnOf "__init__" "House.__init__" (zm zh) (z0 zh) (zc zh) (.ref I) kV42 dc42 pm42 an42 M ct42) (ps:=["self","shape","ahead","stride","keeper","note"]) rfl d42 rfl <| Mm λ_ _ _ _ _ _=>⟨_,rfl,rfl⟩
 have bd42:=yb (K:=K) (d:=.none) (fd:=fnOf "__init__" "House.__init__" (zm zh) (z0 zh) (zc zh) (.ref I) kV42 dc42 pm42 an42 M ct42) (ps:=["self","shape","ahead","stride","keeper","note"]) rfl d42 rfl <| MT λ_ _ _ _ _=>⟨_,rfl,rfl⟩
 have b52:=yd (K:=K) (fd:=fnOf "ask" "House.ask" (zm zi) (z0 zi) (zc zi) (.ref H) kV52 dc52 pm52 an52 L ct52) (ps:=["self","reading","many"]) rfl d52 rfl <| FV λ_ _ _=>⟨_,rfl,rfl⟩
 have bd52:=yb (K:=K) (d:=.int 1 tz52) (fd:=fnOf "ask" "House.ask" (zm zi) (z0 zi) (zc zi) (.ref H) kV52 dc52 pm52 an52 L ct52) (ps:=["self","reading","many"]) rfl d52 rfl <| GK λ_ _=>⟨_,rfl,rfl⟩
 have b53:=yd (K:=K) (fd:=fnOf "store" "House.store" (zm zd) (z0 zd) (zc zd) (.ref E) kV53 dc53 pm53 an53 J ct53) (ps:=["self","reading","many"]) rfl d53 rfl <| FV λ_ _ _=>⟨_,rfl,rfl⟩
 have bd53:=yb (K:=K) (d:=.int 1 tz53) (fd:=fnOf "store" "House.store" (zm zd) (z0 zd) (zc zd) (.ref E) kV53 dc53 pm53 an53 J ct53) (ps:=["self","reading","many"]) rfl d53 rfl <| GK λ_ _=>⟨_,rfl,rfl⟩
 have F93:=j3 (st:=zq) l93 c93 k93;have b93:=F93.binds (ps:=["self","seat"]) λ_ _ _ _ _ _=>n4 λ_ _=>rfl;have F127:=j3 (st:=zY) l127 c127 k127;have b127:=F127.binds (ps:=["_law_script"]) λ_ _ _ _ _ _=>LU λ_=>rfl;refine⟨⟨zl,zk0,zs0,cA0,zt0⟩,⟨fnOf "law" "law" (zm zY) (z0 zY) (zc zY) .none kV127 dc127 pm127 an127 C ct127,λs v=>.of_eq rfl,λbase b g nbt=>?_⟩⟩;let B:=@GsB l w K mg base;have Z:Pk RU K mg base _ _ _:=⟨Zh,b,g,V⟩;have g0:a7 l.prog w K mg base ⟨[(10,C0),(12,C1),(13,C2),(14,D),(15,C4),(16,C5),(17,C6),(18,C7),(19,C8),(20,C9),(21,q),(22,U),(23,T),(24,S),(25,R),(26,p)],[(40,CC7),(42,P),(43,o),(44,O),(46,u),(45,a),(41,t),(47,k),(48,r)]⟩ (AX ri ([(W,[⟨553,64,553,91⟩],((("World.come_up":aG)++".<locals>.")++"<lambda>"))]:List (aE×List Pos×aG))) 0 II (λj=>([(W,[⟨553,64,553,91⟩],((("World.come_up":aG)++".<locals>.")++"<lambda>"))]:List (aE×List Pos×aG))[j]?):=JO b g zg ⟨⟨C0,rfl,x0⟩,⟨C1,rfl,x1⟩,⟨C2,rfl,x2⟩,⟨C4,rfl,x4⟩,⟨C5,rfl,x5⟩,⟨C6,rfl,x6⟩,⟨C7,rfl,x7⟩,⟨C8,rfl,x8⟩,⟨C9,rfl,x9⟩,⟨U,rfl,x11⟩,⟨T,rfl,x12⟩,⟨S,rfl,x13⟩,⟨R,rfl,x14⟩,trivial⟩;have XI0:f8 K D C0 f0 "line":=⟨⟨N0,nm0,qn0,bs0,hd0,sn0,sb0,ab0,co0,dd0,ka0,kb0,kc0,kd0,ke0,xa0,xb0,xc0⟩,x0,xd0,xe0,xf0,xg0,xh0⟩;have W0:bI l.prog w K mg base (cG l.prog w) 1 f0 _ ["self","line"] (gG D "line")/\yB l.prog w K mg base 1 f0 _ ["self","line"] (gG D "line"):=JQ XI0 ⟨bY b g e0,ha0,ha1,ha2⟩ l0 c0 (by first|exact⟨_,_,_,_,_,_,_,_,_,_,_,rfl,rfl,.inl ⟨_,_,_,_,_,_,_,_,rfl,by decide,by decide⟩⟩|exact⟨_,_,_,_,_,_,_,_,_,_,_,rfl,rfl,.inr ⟨_,_,_,_,_,rfl,by decide⟩⟩) rfl;have g1:B 2 IH:=a7.add (g0.mono (by decide)) ⟨D,C0,f0,_,_,1,rfl,bY b g e3,rfl,XI0,b0,by decide,W0.1,W0.2⟩ rfl;have g2:B 2 IG:=a7.add g1 ⟨D,C0,f0,_,_,1,rfl,bY b g e3,rfl,XI0,b0,by decide,W0.1,W0.2⟩ rfl;have XI1:f8 K q C0 f1 "by":=⟨⟨N1,lE,qn1,bs1,hd1,sn1,sb1,ab1,co1,dd1,ka1,kb1,kc1,kd1,ke1,xa1,xb1,xc1⟩,x0,xd1,xe1,xf1,xg1,xh1⟩;have W1:bI l.prog w K mg base (cG l.prog w) 3 f1 _ ["self","by"] (gG q "by")/\yB l.prog w K mg base 3 f1 _ ["self","by"] (gG q "by"):=JQ XI1 ⟨bY b g e0,ha0,ha1,ha2⟩ l1 c1 (by first|exact⟨_,_,_,_,_,_,_,_,_,_,_,rfl,rfl,.inl ⟨_,_,_,_,_,_,_,_,rfl,by decide,by decide⟩⟩|exact⟨_,_,_,_,_,_,_,_,_,_,_,rfl,rfl,.inr ⟨_,_,_,_,_,rfl,by decide⟩⟩) rfl;have g3:B 4 IF:=a7.add (g2.mono (by decide)) ⟨q,C0,f1,_,_,3,rfl,bY b g e10,rfl,XI1,b1,by decide,W1.1,W1.2⟩ rfl;have g4:B 4 IE:=a7.add g3 ⟨q,C0,f1,_,_,3,rfl,bY b g e10,rfl,XI1,b1,by decide,W1.1,W1.2⟩ rfl;have XI2:f8 K p C0 f2 "now":=⟨⟨N2,nm2,qn2,bs2,hd2,sn2,sb2,ab2,co2,dd2,ka2,kb2,kc2,kd2,ke2,xa2,xb2,xc2⟩,x0,xd2,xe2,xf2,xg2,xh2⟩;have W2:bI l.prog w K mg base (cG l.prog w) 5 f2 _ ["self","now"] (gG p "now")/\yB l.prog w K mg base 5 f2 _ ["self","now"] (gG p "now"):=JQ XI2 ⟨bY b g e0,ha0,ha1,ha2⟩ l2 c2 (by first|exact⟨_,_,_,_,_,_,_,_,_,_,_,rfl,rfl,.inl ⟨_,_,_,_,_,_,_,_,rfl,by decide,by decide⟩⟩|exact⟨_,_,_,_,_,_,_,_,_,_,_,rfl,rfl,.inr ⟨_,_,_,_,_,rfl,by decide⟩⟩) rfl;have g5:B 6 ID:=a7.add (g4.mono (by decide)) ⟨p,C0,f2,_,_,5,rfl,bY b g e15,rfl,XI2,b2,by decide,W2.1,W2.2⟩ rfl;have g6:B 6 B_:=a7.add g5 ⟨p,C0,f2,_,_,5,rfl,bY b g e15,rfl,XI2,b2,by decide,W2.1,W2.2⟩ rfl;have g7:B 7 B9:=Z.fn p3 g6 Kp rfl rfl (λ_ _ _ _ _ _ _=>rfl) rfl;have g8:B 8 B8:=Z.fn p4 g7 U1 rfl rfl (λ_ _ _ _ _ _ _=>rfl) rfl;have g9:B 9 B7:=Z.fn p5 g8 yc rfl rfl (λ_ _ _ _ _ _ _=>rfl) rfl;have g10:B 10 Ah:=Z.fn p6 g9 X8 rfl rfl (λ_ _ _ _ _ _ _ _=>rfl) rfl;have g11:B 12 t7:=Z.cl p7 g10 WI rfl rfl rfl (λ_ _ _ _ _ _ _ _ _ _=>rfl) rfl;have g12:B 13 A2:=Z.fn p8 g11 Kl rfl rfl (λ_ _ _ _ _ _ _=>rfl) rfl;have g13:B 14 A_:=Z.fn p9 g12 Uq rfl rfl (λ_ _ _ _ _ _ _ _=>rfl) rfl;have g14:B 15 Aj:=Z.fn p10 g13 WM rfl rfl (λ_ _ _ _ _ _ _ _=>rfl) rfl;have g15:B 16 Ba:=Z.fn p11 g14 Wv rfl rfl (λ_ _ _ _ _ _ _ _=>rfl) rfl;have g16:B 17 zn:=Z.fn p12 g15 Yo rfl rfl (λ_ _ _ _ _ _ _ _ _ _=>rfl) rfl;have g17:B 18 FU:=Z.fn p13 g16 Xd rfl rfl (λ_ _ _ _ _ _ _ _=>rfl) rfl;have g18:B 18 Gp:=a7.add g17 ⟨_,(.int 0),bY b g v14,⟨_,rfl⟩,λ_ _ _=>rfl⟩ rfl;have g19:B 18 FO:=a7.add g18 ⟨_,(.int 1),bY b g v15,⟨_,rfl⟩,λ_ _ _=>rfl⟩ rfl;have g20:B 18 wP:=a7.add g19 ⟨_,(.int 2),bY b g v16,⟨_,rfl⟩,λ_ _ _=>rfl⟩ rfl;have g21:B 19 AK:=Z.fn p17 g20 Xg rfl rfl (λ_ _ _ _ _ _ _ _=>rfl) rfl;have g22:B 20 E5:=Z.fn p18 g21 Qv rfl rfl (λ_ _ _ _ _ _ _ _=>rfl) rfl;have g23:B 20 FF:=a7.add g22 ⟨_,(.str "abcdefghijklmnopqrstuvwxyz"),bY b g v19,⟨_,rfl⟩,λ_ _ _=>rfl⟩ rfl;have g24:B 20 AU:=a7.add g23 ⟨_,(.int 8),bY b g v20,⟨_,rfl⟩,λ_ _ _=>rfl⟩ rfl;have g25:B 21 v4:=Z.fn p21 g24 JB rfl rfl (λ_ _ _ _ _ _ _=>rfl) rfl;have g26:B 23 Av:=Z.cl p22 g25 Vn rfl rfl rfl (λ_ _ _ _ _ _ _ _ _=>rfl) rfl;have g27:B 24 AE:=Z.fn p23 g26 Sm rfl rfl (λ_ _ _ _ _ _ _ _ _=>rfl) rfl;have g28:B 25 AH:=Z.fn p24 g27 Qj rfl rfl (λ_ _ _ _ _ _ _ _ _=>rfl) rfl;have g29:B 27 Ad:=Z.cl p25 g28 Q8 rfl rfl rfl (λ_ _ _ _ _ _ _ _=>rfl) rfl;have g30:B 28 A8:=Z.met p26 g29 kq rfl rfl rfl rfl (λ_ _ _ _ _ _ _ _ _ _ _=>rfl) rfl;have g31:B 29 AI:=Z.met p27 g30 jZ rfl rfl rfl rfl (λ_ _ _ _ _ _ _ _=>rfl) rfl;have g32:B 30 AN:=Z.met p28 g31 vz rfl rfl rfl rfl (λ_ _ _ _ _ _ _ _ _ _=>rfl) rfl;have g33:B 31 t_:=Z.met p29 g32 uJ rfl rfl rfl rfl (λ_ _ _ _ _ _ _ _ _ _ _=>rfl) rfl;have g34:B 32 A7:=Z.met p30 g33 kO rfl rfl rfl rfl (λ_ _ _ _ _ _ _=>rfl) rfl;have g35:B 33 A3:=Z.met p31 g34 jY rfl rfl rfl rfl (λ_ _ _ _ _ _ _ _=>rfl) rfl;have g36:B 34 wS:=Z.fn p32 g35 Kj rfl rfl (λ_ _ _ _ _ _ _ _=>rfl) rfl;have g37:B 35 AA:=Z.fn p33 g36 WD rfl rfl (λ_ _ _ _ _ _ _ _=>rfl) rfl;have g38:B 37 t5:=Z.cl p34 g37 WN rfl rfl rfl (λ_ _ _ _ _ _ _ _ _ _=>rfl) rfl;have g39:B 38 AF:=Z.fn p35 g38 UC rfl rfl (λ_ _ _ _ _ _ _ _ _=>rfl) rfl;have g40:B 39 AO:=Z.fn p36 g39 jV rfl rfl (λ_ _ _ _ _ _ _ _=>rfl) rfl;have g41:B 40 AQ:=Z.fn p37 g40 VU rfl rfl (λ_ _ _ _ _ _ _=>rfl) rfl;have g42:B 41 Bd:=Z.fn p38 g41 Qs rfl rfl (λ_ _ _ _ _ _ _ _ _=>rfl) rfl;have g43:B 43 Ax:=Z.cl p39 g42 Jv rfl rfl rfl (λ_ _ _ _ _ _ _ _=>rfl) rfl;have g44:B 44 As:=Z.met p40 g43 Kh rfl rfl rfl rfl (λ_ _ _ _ _ _ _ _=>rfl) rfl;have g45:B 45 Be:=a7.add (g44.mono (by decide)) (Pu (n:=60) (tbs:=([(W,[⟨553,64,553,91⟩],((("World.come_up":aG)++".<locals>.")++"<lambda>"))]:List (aE×List Pos×aG))) (G:=Aa) Zh (by show 1<=100;decide) (gL.mem (ls:=ri) ⟨rfl,trivial⟩) (Zq (N:=[]) (G:=[]) (cel:=[]) (own:=[]) (lam:=aF) b g V g44) Pn.mem) rfl;have W42:bI l.prog w K mg base (cG l.prog w) 46 A _ ["self","shape","ahead","stride","keeper","note"] (dY _ 6 qd):=kS (m:=0) Zh (Zq (N:=["self","shape","ahead","stride","keeper","note"]) (G:=["is_from_nought","NoTime","NoNote"]) (cel:=[]) (own:=["batches"]) (lam:=aF) b g V g45) l42 c42 rfl rfl Zm;have g46:B 47 FH:=a7.add (g45.mono (by decide)) ⟨a,A,_,_,46,rfl,bY b g q42,⟨mk42,i42,j42,kk42⟩,b42,by decide,W42,qy⟩ rfl;have g47:B 47 Ab:=a7.add (x:=mV "House") g46 ⟨a,A,_,_,46,rfl,bY b g q42,⟨mk42,i42,j42,kk42⟩,bd42,by decide,W42,qy,rfl⟩ rfl;have g48:B 48 An:=Z.met p43 g47 xW rfl rfl rfl rfl (λ_ _ _ _ _ _ _=>rfl) rfl;have g49:B 49 At:=Z.met p44 g48 WA rfl rfl rfl rfl (λ_ _ _ _ _ _ _=>rfl) rfl;have g50:B 50 AZ:=Z.met p45 g49 uC rfl rfl rfl rfl (λ_ _ _ _ _ _ _ _ _=>rfl) rfl;have g51:B 51 Ae:=Z.met p46 g50 vO rfl rfl rfl rfl (λ_ _ _ _ _ _ _ _=>rfl) rfl;have g52:B 52 AR:=Z.met p47 g51 wH rfl rfl rfl rfl (λ_ _ _ _ _ _ _=>rfl) rfl;have g53:B 53 Bh:=Z.met p48 g52 k6 rfl rfl rfl rfl (λ_ _ _ _ _ _ _=>rfl) rfl;have g54:B 54 wE:=Z.met p49 g53 kf rfl rfl rfl rfl (λ_ _ _ _ _ _ _ _ _=>rfl) rfl;have g55:B 55 Ay:=Z.met p50 g54 jn rfl rfl rfl rfl (λ_ _ _ _ _ _ _ _=>rfl) rfl;have g56:B 56 Az:=Z.met p51 g55 k8 rfl rfl rfl rfl (λ_ _ _ _ _ _ _ _ _=>rfl) rfl;have W52:bI l.prog w K mg base (cG l.prog w) 57 z _ ["self","reading","many"] (dY _ 3 qa):=kS (m:=1) Zh (Zq (N:=["self","reading","many","batch"]) (G:=["names_of_batch"]) (cel:=[]) (own:=["batches"]) (lam:=aF) b g V g56) l52 c52 rfl rfl uD;have g57:B 57 F_:=a7.add (g56.mono (by decide)) ⟨a,z,_,_,57,rfl,xU (c:=45) V rfl,⟨i52,j52,k52⟩,λi h=>absurd (cY (show iz[i]?=aA "ask" from h)) (by decide +kernel),b52,by decide,W52,qy⟩ rfl;have g58:B 57 Aw:=a7.add (x:=mV (c3 "ask")) g57 ⟨a,z,_,_,57,_,(.int 1),rfl,xU (c:=45) V rfl,⟨i52,j52,k52⟩,λi h=>absurd (cY (show iz[i]?=aA "ask" from h)) (by decide +kernel),bd52,⟨_,rfl⟩,λ_ _ _=>rfl,by decide,W52,qy,rfl⟩ rfl;have W53:bI l.prog w K mg base (cG l.prog w) 58 y _ ["self","reading","many"] (dY _ 3 zQ):=kS (m:=1) Zh (Zq (N:=["self","reading","many","batch"]) (G:=["size_of"]) (cel:=[]) (own:=[]) (lam:=aF) b g V g58) l53 c53 rfl rfl u2;have g59:B 58 Fk:=a7.add (g58.mono (by decide)) ⟨a,y,_,_,58,rfl,xU (c:=45) V rfl,⟨i53,j53,k53⟩,λi h=>absurd (cY (show iz[i]?=aA "store" from h)) (by decide +kernel),b53,by decide,W53,qy⟩ rfl;have g60:B 58 Fj:=a7.add (x:=mV (c3 "store")) g59 ⟨a,y,_,_,58,_,(.int 1),rfl,xU (c:=45) V rfl,⟨i53,j53,k53⟩,λi h=>absurd (cY (show iz[i]?=aA "store" from h)) (by decide +kernel),bd53,⟨_,rfl⟩,λ_ _ _=>rfl,by decide,W53,qy,rfl⟩ rfl;have g61:B 58 FZ:=a7.add g60 ⟨_,(.int 0),bY b g v54,⟨_,rfl⟩,λ_ _ _=>rfl⟩ rfl;have g62:B 58 E_:=a7.add g61 ⟨_,(.int 1),bY b g v55,⟨_,rfl⟩,λ_ _ _=>rfl⟩ rfl;have g63:B 58 AG:=a7.add g62 ⟨_,(.int 2),bY b g v56,⟨_,rfl⟩,λ_ _ _=>rfl⟩ rfl;have g64:B 59 Bf:=Z.fn p57 g63 YW rfl rfl (λ_ _ _ _ _ _ _=>rfl) rfl;have g65:B 60 Ao:=Z.fn p58 g64 VA rfl rfl (λ_ _ _ _ _ _ _=>rfl) rfl;have g66:B 62 AV:=Z.cl p59 g65 V0 rfl rfl rfl (λ_ _ _ _ _ _ _ _ _=>rfl) rfl;have g67:B 63 FM:=Z.met p60 g66 u3 rfl rfl rfl rfl (λ_ _ _ _ _ _ _ _=>rfl) rfl;have g68:B 63 Fd:=a7.add g67 (N_ (bY b g v61) y61 w61 ⟨⟨_,_,rfl⟩,⟨_,_,rfl⟩,⟨_,_,rfl⟩,⟨_,_,rfl⟩,⟨_,_,rfl⟩,⟨_,_,rfl⟩,⟨_,_,rfl⟩,trivial⟩ (by decide)) rfl;have g69:B 63 Fe:=a7.add g68 ⟨_,(.int 0),bY b g v62,⟨_,rfl⟩,λ_ _ _=>rfl⟩ rfl;have g70:B 63 Gm:=a7.add g69 ⟨_,(.int 1),bY b g v63,⟨_,rfl⟩,λ_ _ _=>rfl⟩ rfl;have g71:B 63 FI:=a7.add g70 ⟨_,(.int 2),bY b g v64,⟨_,rfl⟩,λ_ _ _=>rfl⟩ rfl;have g72:B 63 F8:=a7.add g71 ⟨_,(.int 3),bY b g v65,⟨_,rfl⟩,λ_ _ _=>rfl⟩ rfl;have g73:B 63 E9:=a7.add g72 ⟨_,(.int 4),bY b g v66,⟨_,rfl⟩,λ_ _ _=>rfl⟩ rfl;have g74:B 63 t9:=a7.add g73 ⟨_,(.int 3),bY b g v67,⟨_,rfl⟩,λ_ _ _=>rfl⟩ rfl;have g75:B 64 AJ:=Z.fn p68 g74 KI rfl rfl (λ_ _ _ _ _ _ _=>rfl) rfl;have g76:B 65 FR:=Z.fn p69 g75 T5 rfl rfl (λ_ _ _ _ _ _ _=>rfl) rfl;have g77:B 65 FY:=a7.add g76 ⟨_,(.str "0123456789abcdefghjkmnpqrstvwxyz"),bY b g v70,⟨_,rfl⟩,λ_ _ _=>rfl⟩ rfl;have g78:B 65 wr:=a7.add g77 ⟨_,(.int 32),bY b g v71,⟨_,rfl⟩,λ_ _ _=>rfl⟩ rfl;have g79:B 66 wT:=Z.fn p72 g78 Vd rfl rfl (λ_ _ _ _ _ _ _=>rfl) rfl;have g80:B 67 wv:=Z.fn p73 g79 Ug rfl rfl (λ_ _ _ _ _ _ _ _=>rfl) rfl;have g81:B 68 Ar:=Z.fn p74 g80 Sb rfl rfl (λ_ _ _ _ _ _ _=>rfl) rfl;have g82:B 69 E6:=Z.fn p75 g81 Qr rfl rfl (λ_ _ _ _ _ _ _ _=>rfl) rfl;have g83:B 69 F4:=a7.add g82 ⟨_,(.str " "),bY b g v76,⟨_,rfl⟩,λ_ _ _=>rfl⟩ rfl;have g84:B 69 Fv:=a7.add g83 ⟨_,(.str ", "),bY b g v77,⟨_,rfl⟩,λ_ _ _=>rfl⟩ rfl;have g85:B 69 FT:=a7.add g84 ⟨_,(.str "\n"),bY b g v78,⟨_,rfl⟩,λ_ _ _=>rfl⟩ rfl;have g86:B 69 Fm:=a7.add g85 ⟨_,(.str "any"),bY b g v79,⟨_,rfl⟩,λ_ _ _=>rfl⟩ rfl;have g87:B 69 Fg:=a7.add g86 ⟨_,(.str "runs"),bY b g v80,⟨_,rfl⟩,λ_ _ _=>rfl⟩ rfl;have g88:B 69 EZ:=a7.add g87 ⟨_,(.str "stands"),bY b g v81,⟨_,rfl⟩,λ_ _ _=>rfl⟩ rfl;have g89:B 69 Fh:=a7.add g88 ⟨_,(.str "0123456789"),bY b g v82,⟨_,rfl⟩,λ_ _ _=>rfl⟩ rfl;have g90:B 69 wn:=a7.add g89 ⟨_,(.int 40),bY b g v83,⟨_,rfl⟩,λ_ _ _=>rfl⟩ rfl;have g91:B 70 xL:=Z.fn p84 g90 JE rfl rfl (λ_ _ _ _ _ _ _=>rfl) rfl;have g92:B 71 AD:=Z.fn p85 g91 Wz rfl rfl (λ_ _ _ _ _ _ _=>rfl) rfl;have g93:B 72 A4:=Z.fn p86 g92 Qc rfl rfl (λ_ _ _ _ _ _ _=>rfl) rfl;have g94:B 73 u8:=Z.fn p87 g93 JK rfl rfl (λ_ _ _ _ _ _ _=>rfl) rfl;have g95:B 74 Al:=Z.fn p88 g94 KZ rfl rfl (λ_ _ _ _ _ _ _=>rfl) rfl;have g96:B 75 Ak:=Z.fn p89 g95 Je rfl rfl (λ_ _ _ _ _ _ _=>rfl) rfl;have g97:B 76 Aq:=Z.fn p90 g96 W_ rfl rfl (λ_ _ _ _ _ _ _=>rfl) rfl;have g98:B 77 ww:=Z.fn p91 g97 Q4 rfl rfl (λ_ _ _ _ _ _ _ _=>rfl) rfl;have g99:B 78 AY:=Z.fn p92 g98 V8 rfl rfl (λ_ _ _ _ _ _ _=>rfl) rfl;have W93:bI l.prog w K mg base (cG l.prog w) 79 Q _ ["self","seat"] (dY _ 2 zv):=Ow (m:=0) (cut:=0) (ds:=zJ) Zh (MZ (F:=["seat"]) (Zq (N:=["self","seat"]) (G:=["House"]) (cel:=["seat"]) (own:=[]) (lam:=aA (0,[⟨553,64,553,91⟩])) b g V g99)) l93 c93 rfl rfl kn xK (λj pos e=>by cases e;exact⟨by decide,cA0,W,rfl,codeHd_of_K b zt0,nbt,rfl⟩);have g100:B 79 BH:=a7.add (g99.mono (by decide)) ⟨k,Q,_,_,79,rfl,xU (c:=47) V rfl,⟨i93,j93,k93⟩,λi h=>absurd (cY (show iz[i]?=aA "come_up" from h)) (by decide +kernel),b93,by decide,W93,qy⟩ rfl;have g101:B 81 Bn:=Z.cl p94 g100 ZN rfl rfl rfl (λ_ _ _ _ _ _ _ _ _ _ _=>rfl) rfl;have g102:B 82 BE:=Z.met p95 g101 xy rfl rfl rfl rfl (λ_ _ _ _ _ _ _ _=>rfl) rfl;have g103:B 83 BL:=Z.met p96 g102 Zo rfl rfl rfl rfl (λ_ _ _ _ _ _ _ _=>rfl) rfl;have g104:B 84 BJ:=Z.met p97 g103 Q6 rfl rfl rfl rfl (λ_ _ _ _ _ _ _ _=>rfl) rfl;have g105:B 85 UO:=Z.met p98 g104 WH rfl rfl rfl rfl (λ_ _ _ _ _ _ _=>rfl) rfl;have g106:B 86 Bt:=Z.met p99 g105 Zt rfl rfl rfl rfl (λ_ _ _ _ _ _ _=>rfl) rfl;have g107:B 87 BR:=Z.met p100 g106 xw rfl rfl rfl rfl (λ_ _ _ _ _ _ _ _=>rfl) rfl;have g108:B 88 Bv:=Z.fn p101 g107 Qe rfl rfl (λ_ _ _ _ _ _ _ _=>rfl) rfl;have g109:B 89 Hh:=Z.fn p102 g108 YX rfl rfl (λ_ _ _ _ _ _ _ _=>rfl) rfl;have g110:B 89 G5:=a7.add g109 ⟨_,(.str " "),bY b g v103,⟨_,rfl⟩,λ_ _ _=>rfl⟩ rfl;have g111:B 89 G2:=a7.add g110 ⟨_,(.str " ; "),bY b g v104,⟨_,rfl⟩,λ_ _ _=>rfl⟩ rfl;have g112:B 89 GG:=a7.add g111 ⟨_,(.str ", "),bY b g v105,⟨_,rfl⟩,λ_ _ _=>rfl⟩ rfl;have g113:B 89 GV:=a7.add g112 ⟨_,(.str "world "),bY b g v106,⟨_,rfl⟩,λ_ _ _=>rfl⟩ rfl;have g114:B 89 Hb:=a7.add g113 ⟨_,(.str "judge\n"),bY b g v107,⟨_,rfl⟩,λ_ _ _=>rfl⟩ rfl;have g115:B 89 GA:=a7.add g114 ⟨_,(.str "ok"),bY b g v108,⟨_,rfl⟩,λ_ _ _=>rfl⟩ rfl;have g116:B 89 Bx:=a7.add g115 ⟨_,(.str "none"),bY b g v109,⟨_,rfl⟩,λ_ _ _=>rfl⟩ rfl;have g117:B 90 BC:=Z.fn p110 g116 X7 rfl rfl (λ_ _ _ _ _ _ _=>rfl) rfl;have g118:B 91 BG:=Z.fn p111 g117 Qx rfl rfl (λ_ _ _ _ _ _ _=>rfl) rfl;have g119:B 92 Bu:=Z.fn p112 g118 uH rfl rfl (λ_ _ _ _ _ _ _ _=>rfl) rfl;have g120:B 93 Bo:=Z.fn p113 g119 Vy rfl rfl (λ_ _ _ _ _ _ _=>rfl) rfl;have g121:B 94 BB:=Z.fn p114 g120 WR rfl rfl (λ_ _ _ _ _ _ _ _=>rfl) rfl;have g122:B 95 UQ:=Z.fn p115 g121 Qw rfl rfl (λ_ _ _ _ _ _ _=>rfl) rfl;have g123:B 96 Bz:=Z.fn p116 g122 u5 rfl rfl (λ_ _ _ _ _ _ _=>rfl) rfl;have g124:B 97 Bj:=Z.fn p117 g123 Q1 rfl rfl (λ_ _ _ _ _ _ _=>rfl) rfl;have g125:B 98 Bs:=Z.fn p118 g124 z0p rfl rfl (λ_ _ _ _ _ _ _ _=>rfl) rfl;have g126:B 100 Bp:=Z.cl p119 g125 Jh rfl rfl rfl (λ_ _ _ _ _ _ _=>rfl) rfl;have g127:B 101 By:=Z.met p120 g126 KP rfl rfl rfl rfl (λ_ _ _ _ _ _ _ _=>rfl) rfl;have g128:B 102 BA:=Z.fn p121 g127 Uk rfl rfl (λ_ _ _ _ _ _ _=>rfl) rfl;have g129:B 103 BQ:=Z.fn p122 g128 Kn rfl rfl (λ_ _ _ _ _ _ _ _=>rfl) rfl;have g130:B 104 BN:=Z.fn p123 g129 KN rfl rfl (λ_ _ _ _ _ _=>rfl) rfl;have g131:B 105 Bq:=Z.fn p124 g130 TV rfl rfl (λ_ _ _ _ _ _ _=>rfl) rfl;have g132:B 106 BP:=Z.fn p125 g131 Q3 rfl rfl (λ_ _ _ _ _ _ _ _=>rfl) rfl;have g133:B 107 Gz:=Z.fn p126 g132 Kg rfl rfl (λ_ _ _ _ _ _ _=>rfl) rfl;have W127:bI l.prog w K mg base (cG l.prog w) 108 fa _ ["_law_script"] (dY _ 1 law_k86):=kS (m:=8) Zh (Zq (N:=["_law_script","_law_fresh","_law_desk","_law_needing","_law_rows","_law_row","_law_looked_here","_law_cell","_law_state"]) (G:=["Desk","_law_looked","_law_begin","_law_none","_law_refused","_law_next"]) (cel:=[]) (own:=["{:}","&_law_refused","&_law_looked"]) (lam:=aF) b g V g133) l127 c127 rfl rfl Yr;exact R1 (f:=law_k86) oq rfl W127
end NH.K86
section
open PySem PySem.W PyProof.Rows
set_option maxRecDepth 100000 in
set_option maxHeartbeats 0 in
theorem PySem.Challenge.cw_namehouses_k86_rows_that_are_none_holds : PySem.Challenge.rw_namehouses_k86_rows_that_are_none.Holds := by
 w_on;o_law;k_head;(case hw=>w_witness2);k_fill;refine NH.walkT2 (l:=PySem.Challenge.rw_namehouses_k86_rows_that_are_none) (k:=108) (x:="_law_script") (by decide) rfl rfl (λw h Y=>PySem.W.km_in_of Y) (λw h Y=>PySem.W.km_tabs_of Y _ (.head _)) ?F;case F=>
  intro w mg fa h KX G hmg
  refine' NH.K86.all_mk KX G hmg ?aa ?ab ?ac ?ad ?ae ?af ?ag ?ah ?ai ?aj ?ak ?al ?am ?an ?ao ?ap ?aq ?ar ?zas ?zat ?au ?av ?aw ?ax ?ay ?az ?ba ?bb ?bc ?bd ?be ?bf ?bg ?bh ?bi ?bj ?bk ?bl ?bm ?bn ?bo ?bp ?bq ?br ?bs ?bt ?bu ?bv ?bw ?bx ?zby ?bz ?ca ?cb ?cc ?cd ?ce ?cf ?cg ?ch ?ci ?cj ?ck ?cl ?cm ?cn ?co ?cp ?cq ?cr ?cs ?ct ?cu ?cv ?cw ?cx ?cy ?cz ?da ?db ?dc ?dd ?de ?df ?dg ?dh ?di ?dj ?dk ?dl ?dm ?dn ?zdo ?dp ?dq ?dr ?ds ?dt ?du ?dv ?dw ?dx ?dy ?dz ?ea ?eb ?ec ?ed ?ee ?ef ?eg ?eh ?ei ?ej ?ek ?el ?em ?en ?eo ?ep ?eq ?er ?es ?et ?eu ?ev ?ew ?ex ?ey ?ez ?fa ?fb ?fc ?fd ?fe ?ff ?fg ?fh ?fi ?fj ?fk ?fl ?fm ?fn ?fo ?fp ?fq ?fr ?fs ?ft ?fu ?fv ?fw ?fx ?fy ?fz ?ga ?gb ?gc ?gd ?ge ?gf ?gg ?gh ?gi ?gj ?gk ?gl ?gm ?gn ?go ?gp ?gq ?gr ?gs ?gt ?gu ?gv ?gw ?gx ?gy ?gz ?zha ?zhb ?zhc ?zhd ?zhe ?zhf ?zhg ?zhh ?zhi ?zhj ?zhk ?zhl ?zhm ?zhn ?zho ?zhp ?zhq ?zhr ?zhs ?zht ?zhu ?zhv ?zhw ?zhx ?zhy ?zhz ?ia ?ib ?ic ?id ?ie ?zif ?ig ?ih ?ii ?ij ?ik ?il ?im ?zin
  case dm=>k_is
  case ce|ct|cw|df|dk|ev|gn|zhm=>exact NH.clp (by k_is) (by k_is) (by k_is) (by k_is) (by k_is) (by k_is) (by k_is) (by k_is)
  case ca|cb|cc|cd|cf|cg|ch|ci|cj|ck|co|cp|cs|cu|cv|dd|de|dg|dh|di|dj|et|eu|fg|fh|fk|fl|fm|fn|fw|fx|fy|fz|ga|gb|gc|gd|ge|gu|gv|zhd|zhe|zhf|zhg|zhh|zhi|zhj|zhk|zhl|zho|zhp|zhq|zhr|zhs|zht=>exact NH.dfp (by k_is) (by k_is) (by k_is) (by k_is)
  case cx|cy|cz|da|db|dc|dl|dv|dw|dx|dy|dz|ea|eb|ec|ed|ew|go|gp|gq|gr|gs|gt|zhn=>exact NH.mtp (by k_is) (by k_is) (by k_is) (by k_is) (by k_is)
  case aa|ab|ac|ad|ae|af|ag|ah|ai|aj|ak|al|am|an|ao|ap|aq|zas|zat|au|av|aw|ax|ay|az|ba|bb|bc|bd|be|bg|bh|bi|bj|bk|bl|bm|bn|bo|bp|br|bs|bt|bu|bv|bw|bx|zby|bz|cl|cm|cn|cq|cr|dn|zdo|dp|dq|dr|ds|dt|du|ee|ef|eg|eh|ei|ej|ek|el|em|en|eo|ep|eq|er|es|ex|fa|fb|fc|fd|fe|ff|fi|fj|fo|fp|fq|fr|fs|ft|fu|fv|gf|gg|gh|gi|gm|gw|gx|gy|gz|zha|zhb|zhc|zhu|zhv|zhw|zhx=>k_is
  case ar|bf|bq=>kernel_rfl
  case ey|gj|gk|il|im|zin=>exact rfl
  case ez|gl=>decide
  case zhy|zhz|ia|ib|ic|id|ie|zif|ig|ih|ii|ij|ik=>k_exc
end
