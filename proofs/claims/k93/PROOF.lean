import PyProof.Rows.All
import Wide.All
import OpenK.AllK
import PySem.Challenge.RW_namehouses_k93_whole_what_a_world_gives
set_option Elab.async false
open Option renaming some->aa,none->af
open Bool renaming true->ae,false->ag
open PySem renaming Value->ai,Addr->ak,Str->ao,Expr->ap,Heap->aG,Stmt->aV,Obj->bj
open List renaming getElem?_eq_some_iff->aO,mem_of_getElem?->aS,getElem?_set_ne->aX,length_map->aL,mem_singleton->aT,mem_append->bf,getElem?_append_left->cE,getElem?_map->bH,mem_map->ba,mem_append_right->cD,mem_cons->bC,mem_cons_of_mem->cJ,map_append->bP,map_map->bB,getElem?_append_right->dL,mem_append_left->c_,size_toArray->cN,mem_iff_getElem?->dD,getElem?_eq_getElem->dO,mem_cons_self->dt,map_cons->cC,pairwise_iff_getElem->eY,take_of_length_le->eH,take_add_one->dM,mem_nil_iff->dP,length_append->eX,length_cons->eG,all_eq_true->eP,filterMap_eq_map'->gu,lookup_cons->eU,contains_iff_mem->gp,append_nil->eO,range->dm,mem_filter->fq,nodup_append->gi,getElem?_set_self->iX,getElem?_eq_none->iW,set_append_right->iV,length_take->g8,pairwise_map->ij,nodup_cons->g7,length->fE,mem_filterMap->lp,mem_range->io,pairwise_append->mh,map_congr_left->md,rec->eN,take_append_drop->nv,lookup->g9,take_sublist->l9,mem_of_mem_take->nc,all_cons->iM,filterMap_cons_none->o1,filterMap_cons_some->o0,replicate->lb,getElem?_replicate->oZ,getLast?_eq_some_getLast->sU,length_set->lX,length_range->mT,append_assoc->m_,flatMap_cons->m9,getElem_mem->m5,any_cons->lY,find?_cons->mY,getElem?_set_self'->sT,filter_cons_of_pos->sQ,filter_cons_of_neg->sP,map->gS,getElem_inj->oG,length_drop->oF,cons_append->oE,getElem_set->oC,mem_of_mem_drop->sG,length_nil->oP,nil_append->oO,filterMap_cons->sO,contains_cons->sJ,nodup_iff_pairwise_ne->BW,drop_eq_getElem_cons->BS,mem_take_iff_getElem->BR,any_eq_false->sE,getElem?_take_of_lt->BP,getElem?_cons_zero->Bw,getLast_mem->sf,pairwise_singleton->Bs,of_mem_zip->r6,forIn_cons->sB,length_replicate->BO,length_singleton->BN,length_filter_le->BI,getElem?_range->Bi,map_take->rH,getElem_range->AS,pairwise_cons->AR,all_map->rT,ext_getElem?->AO,set_set->rG,map_set->rF,mem_reverse->AB,ext_getElem->Ay,take_length->Aw,any_eq_true->Av,map_id->ro,map_drop->wP,map_nil->ww
open PySem renaming wpAny_bind->ay,wpAny_pure->aU,wpAny->aA,model->aC,Shared->aJ,mainGlobals->cO,wpAny_holding->dF,sizeLine_eq->db,wpAny_truthy_bool->eW,wpAny_mono->cX,Program->bL,wpAny_Call_Name_kw->gn,starEach->cU,mem_of_lookup->ip,compareOp->dN,wpAny_standAt->fS,bootBuiltins->fQ,rawInt->cI,foldedSetIterable->iQ,wpAny_newObj_type->lA,sysModules->fF,wpAny_field->f9,wpAny_passesOwn->ly,codeAny_mono->ii,excClassObj->g5,relabel->d5,assignEach->f8,keywordEach->ic,attributeBase->kw,World->dh,wpAny_loadPart_at->mU,backTo->dZ,wpAny_call->ie,swapsWith->gX,Around->eF,ExceptHandler->l3,methodCallPos->lZ,letOwnedTupleGo->m4,codeAny->fC,sliceBounds->jp,wpAny_typeOf->lW,wpAny_pyIter_list->oR,compEnvC->gT,plainObj_wpAny_Assign_Attribute->BV,wpAny_isTrue_Compare1->sI,strLen_append->mO,binaryOp->ib,NameKind->ia,backToKw->h_,wpAny_of_eq->lS,codeAny_call_builtin->sF,wpAny_execs_nil->oB,CmpOp->ez,getItem->gU,codeAmong->i9,builtinsNs->lU,wpAny_newFunctionEnv_cells->B0,wpAny_setField->oM,wpAny_FormattedValue_plain->BX,hashStr->hZ,wpAny_execs_cons->sk,wpAny_callSpecial?_slot->Bx,wpAny_comp_letGo->si,TriplesOk->lQ,IsPart->gR,Keyword->iK,wpAny_rule->mM,ofString_length->BL,wpAny_formatField_int->BK,assign->hX,subscripted->oq,wpAny_Compare1->ss,wpAny_newFunctionEnv->BF,wpAny_pyIter_revIter->BD,PassesOwn->mJ,BindsTo->i8,setFlight->mI,wpAny_isSubtype_exc->Bj,swapsWithSole->rO,swappedStores->rN,behindInMarks->rM,comprehension->rL,wpAny_attempt->rK,call_meets->oa,closureFor->n9,methodCall->n7,int_text_length_le->AT,Within->rZ,bindArgs->mH,wpAny_sequenceKey->Be,slot_list_getitem->Bd,OwnTail->lO,wpAny_pyIter_enum->A_,valueAt->lN,ExcBaseFacts->rQ,call_meetsIn->rP,wpAny_Call_method->A7,cStatics->mG,wpAny_lookBehind->AL,pastItsLine_dict->AK,wpAny_call_entry->AD,noteFrame->n0,wpAny_JoinedStr->At,codeAny_builtin->As,callerA->mF,wpAny_Name->rg,pyIter->lM,bindL->iJ,bindC->iI,typeLookup->rC,getMethod->p_,cellsFrom->p9,DictEntry->p6,holding->nZ,getAttr->nY,stored->mE,call->Ac
open PySem.Heap renaming get?_push_of_some->bv,lt_size->bz,get?_push_size->dy,SameBut->eT,get?_none_of_le->iR,size_push->fT,get?_update_other->l7,get?_update_self->oW,get?_update_ne->sM,MadeExcOf->oK,get?_push_ne->A9,get?_push_at->A8,size_update->Az
open Nat renaming le_refl->aK,lt_of_lt_of_le->cz,ne_of_lt->b_,le_trans->cf,ne_of_gt->fP,le_succ->fD,lt_irrefl->g6,zero_le->fU,lt_succ_self->lz,le_of_lt->im,beq->eD,eq_of_beq_eq_true->oV,lt_succ_of_lt->mV,le_of_eq->lh,lt_trichotomy->oH,le_of_ble_eq_true->sH,lt_of_le_of_lt->sL,lt_trans->oh,ble->lP,zero_add->rR,add_assoc->wS,rec->nX,lt_or_ge->Am,min_self->Al,add_comm->Ak,log2_lt->Af
open Option.some renaming inj->aZ,injEq->oI
open PySem.W renaming Frag->bc,findIn->cP,fnOf->fm,emptyDict->ik,mroIn->fR,instObj->iU,kla_obj->iT,hasDictIn->lx,specialIn->li,plainGet_of->mX,codeIn->gV,callWith_K->mW,keepIn->gY,plainGet->m6,callWith_K0->o6,clsIn->mP,takesIn->oA,looks_clsIn->sN,nsIn->mS,lookIn->oN,kitOne->oJ,isNs_of_in->sK,plainOver->sD,excIn->lR,any_some->sj,cellsFrom_some->Br,KitX->oi,takerIn->r_,InstAt->sv,looks_findIn->ou,exmOne->sq,kla_callFunE->BC,kla_codeExpr->BB,findObj_own->Bn,methodObj->Bh,isFn->rY,set_plain->Bg,kitx_list->Bb,kitx_dict->Ba,handedIn->rE,kla_eval->Ax,codeHdIn->lK,makesIn->rk,readsIn->rj,findCls->ri,typeIn->rD,nsOkIn->rA,CodeHd->AJ,kla_fn->AI,notCls->AG,mg_of->gP,tabObj->AF,Looks->rc,OpenLaw->mD
open Bool renaming and_eq_true->bW,false_ne_true->d7,not_eq_true'->l5,eq_iff_iff->mZ,or_eq_true->oQ,and_false->su,and_eq_true_iff->BA,false_eq_true->AW,or_true->rS,rec->n5,and_true->xL
open Int renaming mul_le_mul_of_nonneg_right->fG,emod_lt_of_pos->fW,le_refl->d6,emod_nonneg->fV,mul_comm->gc,ediv_emod_unique->mf,le_trans->g_,le_ediv_iff_mul_le->ny,mul_ediv_add_emod->nu,ediv_lt_of_lt_mul->oU,add_mul->iO,add_comm->lT,mul_nonneg->mQ,ediv_nonneg->oz,le_of_lt->mR,ediv_le_ediv->sg,not_lt->mL,one_mul->om,toNat_of_nonneg->A5,ediv_one->rV,lt_trichotomy->AN,mul_le_mul->AE,mul_pos->Ae
open Ne renaming symm->bd
open PySem.Value renaming ref->cG,none->lV,int->mK,bool->og,type->rh,isStrOf_shape->Ar,isStrOf->Ap,builtin->wT,str->ra,isInt_shape->wE,isInt->Aj,bytes->Ai,float->Ah
open False renaming elim->cW
open PySem.Obj renaming mapSeq->du,mapFields->iN,isFreed_of_fields->BM,data_mapFields->AZ
open PyProof.Rows renaming seqObj->bO,callWith_type1->nt,slot_tuple_getitem->lu,callWith_builtin1->sW,IntsAre->fO,envOfC->fk,AllBare->hY,listUpdate_at->oj,subscriptTail_builtinR->Bp,get?_update_seq->sw,entry_tuple_getitem->Bm,args_tuple_getitem->A1,arrOf->gQ,Subscript_->rB,boot_range->ry
open True renaming intro->eM
open List.Pairwise renaming nil->iP,imp->AQ,map->AM,sublist->D4
open Array renaming getElem?_eq_some_iff->nr,length_toList->me,getElem?_setIfInBounds_ne->BU,mem_toList_iff->BH,toArray_toList->BE,toList_append->Bl,find?_toList->A2,forIn_toList->AV,size_zip->AH
open Option renaming map_eq_some_iff->l6,isSome_iff_exists->BQ,map_some->sA,getD_none->AC,bind_some->AA
open PySem.F renaming excBase_ValueError->nj,slot_list_getattribute->sV,plainAttrs_list->sS,plainAttrs_dict->sR,store_ValueError->Bz,slot_dict_update->By,attr_ValueError->Bv,slot_dict_items->Bu,slot_dict_get->BJ
open ForInStep renaming yield->iS
open Sum.inr renaming inj->f_
open PySem.W.Looks renaming here->l_,of_pure->D5,ld->DY
open PySem.Builtin.Slice renaming slicePlaces->o8,sliceAdjust->s_,sliceApplied->BZ,slicePartIndex->Ec,sliceFields->D9
open PySem.Calls renaming evalArgs_plain->ng,callWith_builtin->oX,spliced_cons->o2,spliced_nil->oS,Name_function_global->B3
open Prod.mk renaming inj->gZ
open PySem.Builtin.Tuple renaming tupleExact->o7,tupleItemsOf->BY
open PySem.Builtin.Range renaming rangeSize->oY,small->D2
open Sum renaming inr->eS,inl->iL
open PySem.SeqAt renaming EqAt->ig,RcAt->n_,RcNeAt->An
open PySem.Str renaming ofString->lg,empty->i_
open Classical renaming byContradiction->sZ
open PySem.Heap.SameBut renaming update->o5
open PySem.Builtin.List renaming listTooLong->sY
open PySem.Builtin.Str renaming occurrences->sX
open PySem.NameKind renaming free->oy
open PySem.SeqAt.EqAt renaming same->r4,int_str->A4,str_int->A3,str_str->AY,of_refs->AX
open PySem.Heap.DictOf renaming new->sx
open PySem.Around renaming frames_deeper->BG,under->rX
open List.cons renaming inj->rJ
open PySem.Code renaming quiet_builtin->AU,isFrame->rW,frames->Ag
open PySem.Heap.Ns1 renaming of_empty->Bf
open Function renaming comp_def->Bc
open PySem.Builtin.ObjectAttr renaming storeInDict->Ed,noDictFor->Eb,attrName->Ea
open PySem.IsRange renaming new->rq
open Array.Perm renaming refl->Au
open PySem.SeqAt.RcNeAt renaming lists_lengths->Eo,tuples->D3,lists->DZ
open PySem.Walks renaming list->rz
open PySem.EqNone renaming eq_none_none->Em,eq_none_bool->El,eq_bool_none->Ek,ne_none_none->Eh,ne_none_bool->Eg,ne_bool_none->Ef,eq_none_int->D8,eq_none_str->D7,eq_int_none->D6,eq_str_none->DW,ne_none_int->DU,ne_none_str->DT,ne_int_none->DS,ne_str_none->DQ
open PySem.EqMixed renaming eq_bool_str->Ej,eq_str_bool->Ei,ne_bool_str->Ee,ne_str_bool->D_,eq_int_str->DX,eq_str_int->DV,ne_int_str->DR,ne_str_int->DO
open PySem.Paired renaming length->Ao
open PySem.Builtin.Dict renaming updateFrom->DN
open PySem.Heap.IsSliceOf renaming new->D1
open PySem.W.WShape renaming has->Ad
open PySem.Within renaming cons->Ab
open PyProof.Rows.IsTup renaming new->Aa
open PySem.W.WData renaming int->zs
set_option linter.all false
set_option maxRecDepth 100000
set_option maxHeartbeats 4000000
set_option genSizeOf false
set_option genInjectivity false
set_option bootstrap.genMatcherCode false
noncomputable section
set_option tactic.hygienic false
set_option compiler.extract_closed false
namespace PySem.W
structure Fast:Prop where
 (tw14629706088481713625 tw1860144556207834361 tw96827251670925748 tw15513612298369175185 tw4794418351275065600 tw11726395339203877631 tw15336392891483893797 tw3358366946437618806 tw17500808107415112937 tw7673732631793964462 tw7323115187100687669 tw6366062460283686892 tw8492620158149270926 tw8664916883259988678 tw11284466713579147494 tw16403738376776874699 tw8205173997352667522 tw2677857716129153933 tw8791029761138345923 tw12941629096915259710 tw6946517153879146645 tw17940597784996166935 tw3958759263324912401 tw17829270114909762537 tw13139593509559125475 tw12355766947973653110 tw15527654016182901575 tw12560624244288531090 tw7008379958135542757 tw10894995152778012038 tw4691838596902246852 tw5505269572225964776 tw2263772326756810011 tw14116692577865989520 tw15703573150433486082 tw15719702393555145503 tw2085649326252492185 tw6302456127759401924 tw8815989852237352262 tw1630414197295916136 tw17072128101144547320 tw17177014756793778278 tw16906986658388296821 tw659455221561928407 tw11212441734847506492 tw16103107197945017361 tw2056304018274656607 tw124917558194296865 tw2291895553812594733 tw3218662166974197458 tw2162079453058550118 tw6522950959089975288 tw11919089780052972506 tw6334134408425070864 tw3796894392233241698 tw423040122351857266 tw17392183695137029653 tw17695631624916310357 tw8789725785688761126 tw9341468224550116282 tw8706643891317010093 tw16092153549420024903 tw3230218943967832651 tw1132645968641390103 tw10358801124924249411 tw10327786825979547525 tw4162026247443126740 tw16670812403906112474 tw4617152732919678038 tw8258287649610924762 tw6412858484692470688 tw17373595771743346165 tw10505808925449381049 tw10397840805422377125 tw3440099938339429262 tw2713331709138574555 tw13077294219013113072 tw10880174292575253723 tw17297600929970799356 tw11199001262202030044 tw18348797539824739026 tw13048567940407689692 tw18131960301579879051 tw17373091304918372352 tw125641677214023248 tw9616854874205434371 tw17245016182523384981 tw2889646486591148796 tw1776862222791194736 tw10564287511043533566 tw8549945953965469359 tw8783350004686457576 tw5817495332894547014 tw8756608390961073032 tw11049866777461408526 tw17937448086116206716 tw14732968082586627609 tw14981496493260271412 tw8199346374157555277 tw2554791995415545118 tw17533704253241681833 tw13319157832254945559 tw5977774086427463974 tw8066276038939611939 tw2977172545273916883 tw9962412964408164928 tw1050423569384194071 tw8335427945044402365 tw8810788299126526375 tw5249574598231277476 tw8606028010720740421 tw16306099186951819004 tw12650666697624719853 tw12195670880317933006 tw1414972794390044728 tw9449027519255400520 tw8537200406189566803 tw1154059800275698773 tw1754456575439604577 tw2899647517117459541 tw2512323242648621044 tw4684225348833614781 tw7433629654077598701 tw13280745445233181811 tw9566591441372840073 tw18358848293108495807 tw9412062977779861594 tw13297249783553332594 tw13422267108014628977 tw5692363596211175843 tw3698810264635698436 tw14661322080467978909 tw11115933081370674801 tw7973273172651796908 tw5067584619983905731 tw9147504095667861086 tw1156305458960996913 tw7881101060096708092 tw18217614596514356554 tw857033537759342333 tw13100548520095260140 tw14862149074883639086 tw18029830350756309619 tw66229682577332199 tw10503594219920940863 tw3568533461624888688 tw8043944573642241156 tw5957847914272890414 tw5256054478746995489 tw4164693781371747355 tw15635550415668404247 tw15090667144246230688 tw8340443783798147410 tw4438777843210038237 tw7558051433712759586 tw3195191867593074475 tw10313457523139454861 tw11549826790212390612 tw8917672547953348797 tw2298856833751779560 tw16605749714126623730 tw19145948870590473 tw8100875044948670161 tw4540841136659937791 tw757420911750148369 tw11416839112004260807 tw16456571504257306843 tw1099729362477914620 tw5559961517388796303 tw13422192996824162472 tw18419921868229887731 tw3004127915768723539 tw16163590692696942141 tw17077923843524483581 tw7407587542070356958 tw17015178184151157574 tw8071815753303986997 tw5661641245396106753 tw7399164348841584147 tw1060202623166711890 tw4194069724072237052 tw7441618404868253415 tw13784903234212665956 tw1591274435130018726 tw16411946884695886493 tw6814980480455937015 tw15122912728718159119 tw5504032125471575644 tw7409204015946239933 tw6331645626730732689 tw12444157475906462494 tw10720631286681241989 tw4336423204519941326 tw10355235501947183984 tw11064573813496790585 tw970322161929415921 tw13833760305405211292 tw16796230131189040397 tw11190602120106606865 tw5360316218017051137 tw3685693557894160592 tw3232993493350724883 tw12910953197177895530 tw116143044785170356 tw11925960886743618132 tw2897473753159512764 tw5018166408956971873 tw8494311359873631134 tw8178304319069968225 tw8743507791371619863 tw969996666536683990 tw15440098791611869918 tw6737764427908102412 tw13231812644536131042 tw14277540326410863175 tw13058591152735929438 tw17115442894805004178 tw10620841558454122409 tw5414670465343517274 tw4532952839404760663 tw11749472393378875555 tw12907512723577931688 tw18394824287397015697 tw4296059397185163593 tw2148897624361274759 tw15848872311374214486 tw3456345625130212139 tw5709347271541178096 tw11461439383399691730 tw16063322040500800124 tw6637479614852542772 tw17133332135661911238 tw12389074260777540646 tw4874115555063624204 tw6110697671139150405 tw9602949781413731503 tw4974314355713566799 tw6208282901787422306 tw14182094401533524959 tw2392764148841542829 tw2104081268421620181 tw2890554736356033629 tw7055608163617938684 tw13521633704772113509 tw17853847718002417730 tw4995528889070073828 tw1738861842396096337 tw7144804256711472693 tw9874284256164969443 tw7610539424339894408 tw9912047666205396378 tw16079826334227277325 tw404235896434313283 tw7299326794067765921 tw13946230804500429356 tw10098100150778477083 tw17420905202470551478 tw14413211843964770730 tw443101479791141913 tw4720928173419064356 tw4040290689144119402 tw12713064475986792186 tw9078862547242913100 tw6753508584137345987 tw2242935484534356935 tw17524841881773540503 tw17440018304210927972 tw3718584029072806508 tw4320658988199469712 tw13893398350408377358 tw16896921588867981858 tw6598124198318484550 tw1711068828609774854 tw17622041715405953810 tw18174093410048831140 tw11885584088538031387 tw2935257764126634438 tw11773830536227383869 tw11834230822225638237 tw7915441197142920989 tw14709176915714388503 tw836541667647393180 tw9302464305395103346 tw6373417745178899459 tw12706188993524118737 tw3112060865244592142 tw15526253118999035680 tw5346032266907706496 tw9469443887759192212 tw4176706346556754651 tw11273653209622212661 tw14729577263592742403 tw10318391822771145271 tw4383104232558540275 tw16292560742287354838 tw14000844917125552378 tw9410563378899729460 tw766101376537021050 tw1307215365594472072 tw15951361101847632716 tw8066619997150507533 tw3142337295656687440 tw5943970725283506348 tw2428029756788494300 tw3340205779932614911 tw6366425601752495634 tw2281030855410960597 tw4396173435479527852 tw17890886867809054655 tw3135298936950197228 tw4066577498365807579 tw4612583693980010232 tw6107460715731394320 tw5129283415035571612 tw10927895134157969071 tw8804078529401583649 tw11246505857249551658 tw8306376696616712468 tw5336580114156764001 tw16663109380802712118 tw15023546662988092924 tw14130668903246330197 tw4003743564940021324 tw4692610594954395034 tw3209888703379359607 tw4759319992891687465 tw10369085421052604160 tw12546806526117164794 tw9176347337209380776 tw16925234334998758620 tw1013347219112851877 tw11389114658011983508 tw2376184973169202623 tw18296910340236143873 tw14742388132851871013 tw9954009075372618858 tw15081811766934949789 tw11122279734430179765 tw7995035158672868474 tw635411805489596243 tw377129338847477465 tw17615636540353858711 tw14873817913928224191 tw1642649010076644144 tw2452163897730931278 tw13938005657346049340 tw229843511863322279 tw5126922448848038629 tw1201960608771741113 tw1516320913078103273 tw416211248111487133 tw9787622451852660671 tw3813082606280252644 tw15439915672392751082 tw13694620422831924968 tw15808058690012920457 tw7523187953607915378 tw6969097854675357182 tw3543302503636741694 tw9598126881131519214 tw2354168494680756354 tw13058622574993624935 tw1896757965715781012 tw7537834076041608006 tw4193353881715862866 tw5468373189402851495 tw6935217940770628434 tw5088686977939166607 tw17258777204689162743 tw2182041120290477500 tw14366389196208542327 tw7733760728588966970 tw15260461867855147928 tw6218652413434392859 tw5122676616684910108 tw15493674363906751810 tw6213549198303226352 tw15674255424311952745 tw11071311178636480118 tw6133905859490879560 tw5759466959843244281 tw13339026909376848620 tw11996495178470381595 tw7365310244588984658 tw5109730287916938866 tw1663677943549430116 tw11176319546881305227 tw542471441955212349 tw7675291353690688712 tw14732668795783035731 tw16819478691116679801 tw4436024246433496510 tw11992746592088673723 tw4025728475065668738 tw14534979106364919235 tw13697810412970842631 tw16528566659984243136 tw5279660652752728812 tw6772098716596713263 tw18438300372503389829 tw3015039855845977219 tw6330034394958760417 tw6593553739461344072 tw17363073934646076431 tw11435523559350688892 tw15944510474022596232 tw15297013959691625200 tw15489415807882952411 tw4920662140503311988 tw4718324635406847054 tw4721473300262174079 tw813884010360289607 tw16476927664740864498 tw5562540762186664554 tw16492581489336850062 tw12000697731666160987 tw4399638716746129665 tw625571935636800198 tw15770034735799294113 tw7881788946754580004 tw18392371463397431768 tw10577729937393133462 tw14315342610143189456 tw1161375079036638565 tw14887793391366070436 tw15853104533548597927 tw14321821448062397820 tw1113117506174701348 tw13026230720935218739 tw16812649434460698184 tw10173694633726650187 tw2377608700583455389 tw13796487679918475048 tw10105339566920417535 tw1476183723059863612 tw11242853535762654158 tw5587475859966840906 tw7442130617043643106 tw12385245934452516294 tw16991877350793762945 tw15552650353623072369 tw10055415873253748206 tw4921116044889124113 tw18384925566049597227 tw8395931316247711790 tw12818391280749239311 tw15996087151734386686 tw17249815112130925031 tw7909119380268917318 tw17087034347997564364 tw6176093088817553658 tw17212757004851993536 tw12076920105916199977 tw4571493667118927041 tw7962601928053224476 tw2545045208388731404 tw17458479436685722505 tw17559901410896777713 tw3457082503343905233 tw14767045882904838638 tw5256349664195793652 tw11901104762107248220 tw1829567743136166840 tw2155585903662967123 tw17930230111962441313 tw4352618206804955249 tw337833609179646093 tw14337735638791269276 tw12048674976374810981 tw18424460000060862290 tw9276314865813260303 tw12369916630659516766 tw12715348377844058352 tw17918561024521457457 tw16445718356465313784 tw17785596348658075933 tw3646095628210284911 tw6857614130346602164 tw2738854141121137265 tw9496208758872596101 tw10884688964921055931 tw12559171336382425137 tw8950717300466072019 tw5321619471538290752 tw8395514980111079535 tw16436233975774716575 tw17644494957174921917 tw2155590451269116501 tw108711074917049558 tw17474137681658185725 tw18257069956057913508 tw14103052346541794530 tw2849785094602645898 tw4317874396616304883 tw8107396376825473674 tw833130669515662734 tw5481759743736588923 tw9879861290953649512 tw13885679143413837035 tw12530320459287608930 tw15059913691066128744 tw6394155771045143473 tw5701743646429174021 tw15664733950486217159 tw16247781758013620323 tw1250793528329173649 tw3887887946815771927 tw7709240503889480801 tw12312363600120374228 tw5838629114004909573 tw16215262210630029010 tw9530113922573884975 tw16395884551721723956 tw1395714453548114357 tw571389342068769641 tw2881272972154728266 tw519592827809457355 tw3909871968044912841 tw12218491623173623813 tw6788834331767466716 tw6146555446244858190 tw18293447388227580849 tw9117765077232463091 tw15324715067369589095 tw13442783670355150443 tw4614712660850524705 tw3701657376936311132 tw15109094129936827701 tw17103652249283440865 tw4008255042368788828 tw3910850683325064090 tw12384748109013006371 tw10853421380241566815 tw3310031286516017332 tw11757949586166564691 tw18290339775735398673 tw10834795778722574417 tw5626804783189116849 tw13217685558955520499 tw5336759400893113684 tw15390029105682172858 tw3632925502569318132 tw10079157489874664619 tw548016138660952767 tw13679431874873667667 tw12794767817367138541 tw4682732605277939079 tw5315412338165758724 tw15559062908344173061 tw15199211443547045254 tw13820888571647240450 tw12657059560098367751 tw16489417145353116921 tw4089285515103330566 tw757958420928824432 tw4420533313222401562 tw11346286821540779630 tw11438580112819489616 tw3992108914456228674 tw9114852585864931469 tw5200128716460688708 tw303116721005956833 tw15094635460431028741 tw16247609452279732668 tw3321294690305902619 tw6507957794849783031 tw4428043001556327636 tw3948666663970756371 tw13331793185060515112 tw16673055421315836257 tw12019134866856655142 tw17827207517859722559 tw8857168395470598289 tw11917353636387895741 tw3068028532643820264 tw10485869233707045603 tw10433068802533720102 tw17830947141182140945 tw1413603469674985605 tw2378303779787896846 tw6247409049198639071 tw3552380062983976533 tw18434842995231550906 tw5008339497500143430 tw3781311805510835907 tw78222340450457641 tw5478763836775830154 tw7820104975491685814 tw14504496114863323069 tw18397128215285166584 tw2111339000446554400 tw7258730984556775149 tw1755590460695091294 tw7913821829225568468 tw17267579796762655918 tw18135784490377650829 tw16977177405679536343 tw3452492785798837371 tw15135850910569569529 tw13287844443021092220 tw16867486141305530823 tw737022519239316458 tw251011672120775265 tw13480402057034134756 tw7295220191038875991 tw14836704361505022971 tw2542647887901989368 tw2252035571127931740 tw13844337848765718206 tw16665603633750092950 tw7461549838323220188 tw7711113221538722917 tw16988800115712160822 tw3899656444906739969 tw719806010717282767 tw16435890147313510657 tw12077953939830941333 tw7294823953558424648 tw572206249244606928 tw15873934605491025012 tw15343441407317866761 tw10119487094839388835 tw5422564617180852232 tw14545147214238174046 tw1759771077098221698 tw5337700433992325262 tw4680406718779078021 tw10344392066022505250 tw15300754660864917000 tw7070139503374396761 tw9945997806236377831 tw4108715329006344162 tw10337084558274733492 tw4606811258201262373 tw12791621753284948028 tw4755194313862573647 tw15024498473446327043 tw15007844642221917544 tw5430827744735989775 tw8632307638894725245:True)
end PySem.W
section
theorem z9{α:Type u}{a:α}{P:Prop}(e:af=aa a):P:=by injection e
theorem w6{α:Type u}{a:α}{P:Prop}(e:aa a=af):P:=by injection e
theorem zo{α:Type u}{a b:α}(e:aa a=aa b):a=b:=aZ e
theorem dC{p:Prop}[Decidable p](h:decide p=ae:=by first|rfl|decide):p:=of_decide_eq_true h
theorem sC{p:Prop}(h:p:=by simp):p:=h
theorem lC{p:Prop}(h:p:=by lia):p:=h
end
section
set_option Elab.async false
namespace L2
open PySem PySem.Spec PyProof.Rows
noncomputable abbrev Key:=Sum Int ao
noncomputable def Zm:Key->ai->Bool
 |.inl k,v=>Aj k v
 |.inr x,v=>Ap x v
noncomputable def vJ (w:dh):Key->Int
 |.inl k=>hashInt k
 |.inr x=>hZ w x
theorem zR:∀{k:Key}{v:ai},Zm k v=ae->(∃i t,k=iL i/\v=mK i t)\/(∃x t,k=eS x/\v=ra x t)
 |.inl i,v,h=>by
  obtain⟨t,e⟩:=wE (k:=i) (v:=v) h;exact .inl ⟨i,t,rfl,e⟩
 |.inr x,v,h=>by
  obtain⟨t,e⟩:=Ar (x:=x) (v:=v) h;exact .inr ⟨x,t,rfl,e⟩
theorem KS(i:Int)(t:Tok):Zm (.inl i) (.int i t)=ae:=by simp[Zm,Aj]
theorem Zl(x:ao)(t:Tok):Zm (.inr x) (.str x t)=ae:=by simp[Zm,Ap]
theorem Ib(a b:Int):decide ((iL a:Key)=iL b)=(a==b):=by
 by_cases e:a=b
 .subst e;simp
 .have h:¬(iL a:Key)=iL b:=λq=>e (Sum.inl.inj q);rw[decide_eq_false h];exact (beq_eq_false_iff_ne.mpr e).symm
theorem HQ(a b:ao):decide ((eS a:Key)=eS b)=decide (a=b):=by
 by_cases e:a=b
 .subst e;simp
 .have h:¬(eS a:Key)=eS b:=λq=>e (f_ q);rw[decide_eq_false h,decide_eq_false e]
theorem Ii(a:Int)(b:ao):decide ((iL a:Key)=eS b)=ag:=decide_eq_false (λq=>nomatch q)
theorem L1(a:ao)(b:Int):decide ((eS a:Key)=iL b)=ag:=decide_eq_false (λq=>nomatch q)
noncomputable def zC(prog:bL)(w:dh):PySem.KeyKind prog w Key where
 is:=Zm
 hash:=vJ w
 inj:=λv a b l f=>by
  rcases zR l with⟨i,t,rfl,rfl⟩|⟨x,t,rfl,rfl⟩
  .rcases zR f with⟨j,u,rfl,e⟩|⟨y,u,rfl,e⟩
   .injection e with c _;rw[c]
   .exact nomatch e
  .rcases zR f with⟨j,u,rfl,e⟩|⟨y,u,rfl,e⟩
   .exact nomatch e
   .injection e with c _;rw[c]
 byValue:=λk v h=>by
  rcases zR h with⟨i,t,rfl,rfl⟩|⟨x,t,rfl,rfl⟩<;>rfl
 pyHash:=λd h=>by
  rcases zR d with⟨i,t,rfl,rfl⟩|⟨x,t,rfl,rfl⟩
  .exact wpAny_pyHash_int h
  .exact wpAny_pyHash_str h
 eqBool:=λg d h=>by
  rcases zR g with⟨i,t,rfl,rfl⟩|⟨x,t,rfl,rfl⟩
  .rcases zR d with⟨j,u,rfl,rfl⟩|⟨y,u,rfl,rfl⟩
   .rw[Ib] at h;exact wpAny_eqBool_int h
   .rw[Ii] at h;exact A4 i t y u _ _ _ _ h
  .rcases zR d with⟨j,u,rfl,rfl⟩|⟨y,u,rfl,rfl⟩
   .rw[L1] at h;exact A3 x t j u _ _ _ _ h
   .rw[HQ] at h;exact wpAny_eqBool_str h
 «strs»:=λk x t v h=>by
  rcases zR h with⟨i,u,rfl,e⟩|⟨y,u,rfl,e⟩
  .exact nomatch e
  .injection e with c _;subst c;cases v<;>rfl
theorem xI(prog:bL)(w:dh)(i:Int)(t:Tok):(zC prog w).is (.inl i) (.int i t)=ae:=KS i t
theorem xA(prog:bL)(w:dh)(x:ao)(t:Tok):(zC prog w).is (.inr x) (.str x t)=ae:=Zl x t
set_option genInjectivity true in
inductive V where
 |n|bl (b:Bool)|int (i:Int)|str (x:ao)|byt (b:Array UInt8)|flt (b:UInt64)|ref (a:ak)|ty (n:String)
 deriving DecidableEq
noncomputable def RelV:V->ai->Prop
 |.n,u=>u=lV
 |.bl b,u=>u=og b
 |.int i,u=>∃t,u=mK i t
 |.str x,u=>∃t,u=ra x t
 |.byt b,u=>∃t,u=Ai b t
 |.flt b,u=>∃t,u=Ah b t
 |.ref a,u=>u=cG a
 |.ty n,u=>u=rh n
abbrev aE:List V->List ai->Prop:=Paired RelV
theorem aE.length(r:aE xs us):xs.length=us.length:=Ao r
theorem aE.get:∀{xs:List V}{us:List ai}{i:Nat}{x:V},aE xs us->xs[i]?=aa x->∃u,us[i]?=aa u/\RelV x u
 |_,_,_,_,.nil,e=>by simp at e
 |_,_,0,_,.cons r _,e=>by simp at e;subst e;exact⟨_,rfl,r⟩
 |_,_,i+1,x,.cons _ t,e=>by
  obtain⟨u,h1,h2⟩:=aE.get (i:=i) (x:=x) t (by simpa using e);exact⟨u,by simpa using h1,h2⟩
theorem aE.set(r:RelV x u):∀{xs:List V}{us:List ai}(i:Nat),aE xs us->aE (xs.set i x) (us.set i u)
 |_,_,_,.nil=>.nil
 |_,_,0,.cons _ t=>.cons r t
 |_,_,i+1,.cons q t=>.cons q (aE.set r i t)
theorem aE.append:∀{xs a:List V}{us b:List ai},aE xs us->aE a b->aE (xs++a) (us++b)
 |_,_,_,_,.nil,s=>s
 |_,_,_,_,.cons r t,s=>.cons r (aE.append t s)
theorem aE.take:∀{xs:List V}{us:List ai}(n:Nat),aE xs us->aE (xs.take n) (us.take n)
 |_,_,0,_=>.nil
 |_,_,_+1,.nil=>.nil
 |_,_,n+1,.cons r t=>.cons r (aE.take n t)
theorem aE.drop:∀{xs:List V}{us:List ai}(n:Nat),aE xs us->aE (xs.drop n) (us.drop n)
 |_,_,0,r=>r
 |_,_,_+1,.nil=>.nil
 |_,_,n+1,.cons _ t=>aE.drop n t
noncomputable def cq:Option V->Option ai->Prop
 |some v,aa u=>RelV v u
 |none,af=>True
 |_,_=>False
noncomputable def KV {a:Type}:List (a×V)->List (a×ai)->Prop:=Paired λ(p:a×V) (q:a×ai)=>p.1=q.1/\RelV p.2 q.2
noncomputable def kV:Key->V
 |.inl i=>.int i
 |.inr x=>.str x
inductive HO where
 |l (xs:List V)
 |t (xs:List V)
 |dK (kvs:List (Key×V))|dE (ep:Nat) (kvs:List (Key×V))
 |set (S:Int->Bool) (n:Nat)
 |ins (C dx:ak) (fs:List (ao×V))
 |own (x:ak)
 |xd (fs:List (ao×V))
 |met (f x:ak)
 |rng (lo hi:Int)
 |frz (o:bj) (u:HO)
 |tbl (ps:Array ai)
 |ext (φ:aG->Prop)
noncomputable abbrev Hp:=ak->Option HO
noncomputable def upd (H:Hp)(a:ak)(o:HO):Hp:=λb=>if b=a then aa o else H b
theorem z0:upd H a o a=aa o:=by unfold upd;rw[if_pos rfl]
theorem z6(h:b≠a):upd H a o b=H b:=by unfold upd;rw[if_neg h]
theorem Jk:upd (upd H a o) a u=upd H a u:=by
 funext b;unfold upd;split<;>rfl
theorem zJ{H:Hp}(h:H a=aa o)(h':H b=af):a≠b:=by
 intro e;subst e;rw[h] at h';exact w6 h'
section
variable (P:Program)(w:World)
noncomputable def aR(H:Hp)(h:aG)(a:ak):HO->Prop
 |.l xs=>xs.length<=sizeLine/\∃(c:List ai) (n:Nat),aE xs c/\h.get? a=aa {cls:=.type "list",data:=.seq c.toArray n}
 |.t xs=>xs.length<=sizeLine/\∃c:List ai,aE xs c/\IsTup h a c.toArray
 |.dK b=>b.length<=sizeLine/\(a==fF)=ag/\∃e,KV b e/\h.DictOf (zC P w) a e
 |.dE p b=>b.length<=sizeLine/\(a==fF)=ag/\∃e,KV b e/\h.DictAt (zC P w) a e p
 |.set S n=>h.SetOf (intKind P w) a S n
 |.ins C g fs=>H g=aa (.own a)/\fs.length<=1000/\g≠a/\h.get? a=aa (iU C g)/\
   ∃d,h.Ns1 g d/\(∀f,cq (fs.lookup f) (d f))/\rZ d (fs.map (·.1))
 |.own _=>∃o,h.get? a=aa o
 |.xd fs=>∃d,h.Ns1 a d/\∀f,cq (fs.lookup f) (d f)
 |.rng lo m=>∃t u v,h.get? a=aa {cls:=.type "range",data:=.fields #[.int lo t,.int m u,.int 1 v]}
 |.frz o u=>h.get? a=aa o/\aR H h a u
 |.tbl l=>h.get? a=aa {cls:=.none,data:=.fields l}
 |.met f x=>h.get? a=aa (Bh (.ref f) (.ref x))
 |.ext i=>i h/\(∃o,h.get? a=aa o)/\∀k j:aG,i k->(∀o,k.get? a=aa o->j.get? a=aa o)->i j
noncomputable def cM (H:Hp)(h:aG):Prop:=∀a o,H a=aa o->aR P w H h a o
end
section
variable {P:Program}{w:World}{H H':Hp}{h h':aG}{a:ak}{o:HO}
theorem aR.lt(x:aR P w H h a o):a<h.objs.size:=by
 cases o with
 |l xs=>obtain⟨_,_,_,_,e⟩:=x;exact bz e
 |t xs=>obtain⟨_,_,_,p⟩:=x;exact p.lt
 |dK kvs=>obtain⟨_,_,_,_,o,_,_,e,_⟩:=x;exact bz e
 |dE ep kvs=>obtain⟨_,_,_,_,o,_,e,_⟩:=x;exact bz e
 |set S n=>obtain⟨o,_,_,_,e,_⟩:=x;exact bz e
 |ins C b fs=>obtain⟨_,_,_,e,_⟩:=x;exact bz e
 |own y=>obtain⟨_,e⟩:=x;exact bz e
 |xd fs=>obtain⟨_,⟨_,_,_,e,_⟩,_⟩:=x;exact bz e
 |rng lo hi=>obtain⟨_,_,_,e⟩:=x;exact bz e
 |frz ob u=>obtain⟨e,_⟩:=x;exact bz e
 |tbl ps=>exact bz (show h.get? a=aa _ from x)
 |met f y=>exact bz (show h.get? a=aa _ from x)
 |ext φ=>obtain⟨_,⟨_,e⟩,_⟩:=x;exact bz e
theorem aR.stay(x:aR P w H h a o)(k:∀b u,(b=a\/H b=aa (.own a))->h.get? b=aa u->h'.get? b=aa u)
  (ho:∀b,H b=aa (.own a)->H' b=aa (.own a)) (ht:∀b xs,H b=aa (.t xs)->H' b=aa (.t xs)):aR P w H' h' a o:=by
 induction o with
 |l xs=>obtain⟨z,i,n,r,e⟩:=x;exact⟨z,i,n,r,k _ _ (.inl rfl) e⟩
 |t xs=>obtain⟨z,i,r,ob,e,c⟩:=x;exact⟨z,i,r,ob,k _ _ (.inl rfl) e,c⟩
 |dK kvs=>obtain⟨z,y,vs,r,ob,g,ep,e,c⟩:=x;exact⟨z,y,vs,r,ob,g,ep,k _ _ (.inl rfl) e,c⟩
 |dE ep kvs=>obtain⟨z,y,vs,r,ob,g,e,c⟩:=x;exact⟨z,y,vs,r,ob,g,k _ _ (.inl rfl) e,c⟩
 |set S n=>obtain⟨ob,g,ep,t,e,c⟩:=x;exact⟨ob,g,ep,t,k _ _ (.inl rfl) e,c⟩
 |ins C A fs=>
  obtain⟨d,z,ne,e,l,⟨j,g,ep,s,c⟩,r⟩:=x;exact⟨ho _ d,z,ne,k _ _ (.inl rfl) e,l,⟨j,g,ep,k _ _ (.inr d) s,c⟩,r⟩
 |own y=>obtain⟨ob,e⟩:=x;exact⟨ob,k _ _ (.inl rfl) e⟩
 |xd fs=>obtain⟨l,⟨j,g,ep,e,c⟩,r⟩:=x;exact⟨l,⟨j,g,ep,k _ _ (.inl rfl) e,c⟩,r⟩
 |rng lo hi=>obtain⟨t,u,v,e⟩:=x;exact⟨t,u,v,k _ _ (.inl rfl) e⟩
 |frz ob u m=>obtain⟨e,q⟩:=x;exact⟨k _ _ (.inl rfl) e,m q⟩
 |tbl ps=>
  have e:=x;show h'.get? a=aa {cls:=.none,data:=.fields ps};exact k a _ (.inl rfl) e
 |met f y=>
  have e:=x;show h'.get? a=aa (Bh (.ref f) (.ref y));exact k a _ (.inl rfl) e
 |ext φ=>obtain⟨p,⟨o,e⟩,st⟩:=x;exact⟨st _ _ p λo q=>k _ _ (.inl rfl) q,⟨o,k _ _ (.inl rfl) e⟩,st⟩
theorem cM.lt(x:cM P w H h)(e:H a=aa o):a<h.objs.size:=(x a o e).lt
theorem cM.fresh(x:cM P w H h)(e:h.objs.size<=a):H a=af:=by
 cases q:H a with
 |none=>rfl
 |some u=>exact absurd (cz (x.lt q) e) (g6 _)
theorem cM.kept(x:cM P w H h)(k:∀b u,h.get? b=aa u->h'.get? b=aa u):cM P w H h':=λa o e=>
 (x a o e).stay (λb u _ q=>k b u q) (λ_ q=>q) λ_ _ q=>q
theorem cM.laid(x:cM P w H h)(k:∀b u,h.get? b=aa u->h'.get? b=aa u)(f:h.objs.size<=a)(new:aR P w (upd H a o) h' a o):cM P w (upd H a o) h':=λb u e=>by
 have d:=x.fresh f;by_cases hb:b=a
 .subst hb;rw[z0] at e;(replace e:=zo e;subst e);exact new
 .rw[z6 hb] at e;exact (x b u e).stay (λc v _ q=>k c v q) (λc q=>(z6 (zJ q d))▸q) λc xs q=>(z6 (zJ q d))▸q
end
noncomputable def Rd (H:Hp)(a:ak)(u:HO):Prop:=H a=aa u\/∃o,H a=aa (.frz o u)
theorem Rd.ok{P:bL}(r:Rd H a u)(x:cM P w H h):aR P w H h a u:=by
 rcases r with r|⟨o,r⟩
 .exact x a u r
 .obtain⟨_,q⟩:=x a _ r;exact q
noncomputable def nQ:Option HO->Prop
 |some (.l _)=>True
 |some (.dK _)=>True
 |some (.dE _ _)=>True
 |some (.set _ _)=>True
 |some (.ins _ _ _)=>True
 |some (.ext _)=>True
 |_=>False
section
variable {P:Program}{w:World}{H:Hp}{h h':aG}{x e:ak}{o':HO}
theorem cM.write(ok:cM P w H h)(mu:nQ (H x))(he:e=x\/H e=aa (.own x))(k:∀b u,b≠e->h.get? b=aa u->h'.get? b=aa u)(i:∃u,h'.get? e=aa u)
  (new:aR P w (upd H x o') h' x o'):cM P w (upd H x o') h':=λb u q=>by
 have d:∀c y,H c=aa (.own y)->c≠x:=λc y r z=>by subst z;rw[r] at mu;exact mu
 have f:∀c xs,H c=aa (.t xs)->c≠x:=λc xs r z=>by subst z;rw[r] at mu;exact mu
 by_cases hb:b=x
 .subst hb;rw[z0] at q;(replace q:=zo q;subst q);exact new
 .rw[z6 hb] at q;by_cases a:b=e
  .have g:H b=aa (.own x):=by
    rcases he with z|z
    .exact absurd (a.trans z) hb
    .rw[a];exact z
   rw[q] at g;(replace g:=zo g;subst g);obtain⟨v,j⟩:=i;exact⟨v,a▸j⟩
  .refine (ok b u q).stay (λc v hc r=>k c v ?_ r) (λc r=>(z6 (d c b r))▸r) λc xs r=>(z6 (f c xs r))▸r;rcases hc with rfl|hc
   .exact a
   .rintro rfl;rcases he with z|z
    .exact d c b hc z
    .rw[hc] at z;cases z;exact hb rfl
end
structure Un(fs ex:List ak)(H H':Hp)(h h':aG):Prop where
 keep:∀b o,h.get? b=aa o->H b=af->b∉fs->b∉ex->h'.get? b=aa o
 slot:∀b o,h.get? b=aa o->H b=af->b∈fs->b∉ex->∃sl,h'.get? b=aa {o with slots:=sl}
 free:∀b o,h.get? b=aa o->H b=af->b∉ex->H' b=af
 there:∀b o,h.get? b=aa o->b∉ex->∃o',h'.get? b=aa o'
 tups:∀b xs,H b=aa (.t xs)->H' b=aa (.t xs)
 frzs:∀b o u,H b=aa (.frz o u)->H' b=aa (.frz o u)
 tbls:∀b ps,H b=aa (.tbl ps)->∃more,H' b=aa (.tbl (ps++more))
section
variable {fs ex:List ak}{H H1:Hp}{h h1 h':aG}{a x e:ak}{o:HO}
theorem Un.any(u:Un fs ex H H1 h h1)(q:h.get? b=aa ob)(n:H b=af)(a:b∉ex):∃j,h1.get? b=aa {ob with slots:=j}:=by
 by_cases hb:b∈fs
 .exact u.slot b ob q n hb a
 .exact⟨ob.slots,u.keep b ob q n hb a⟩
theorem Un.kept(k:∀b u,h.get? b=aa u->h'.get? b=aa u):Un fs ex H H h h':=
 ⟨λb ob q _ _ _=>k b ob q,λb ob q _ _ _=>⟨ob.slots,k b ob q⟩,λ_ _ _ n _=>n,λb ob q _=>⟨ob,k b ob q⟩,λ_ _ q=>q,λ_ _ _ q=>q,λ_ ps q=>⟨#[],by rw[q];simp⟩⟩
theorem Un.refl:Un fs ex H H h h:=Un.kept λ_ _ q=>q
theorem Un.laid(k:∀b u,h.get? b=aa u->h'.get? b=aa u)(d:h.objs.size<=a)(c:H a=af):Un fs ex H (upd H a o) h h' where
 keep:=λb u q _ _ _=>k b u q
 slot:=λb u q _ _ _=>⟨u.slots,k b u q⟩
 free:=λb u q n _=>(z6 (b_ (cz (bz q) d)))▸n
 there:=λb u q _=>⟨u,k b u q⟩
 tups:=λb xs q=>(z6 (zJ q c))▸q
 frzs:=λb u xs q=>(z6 (zJ q c))▸q
 tbls:=λb ps q=>⟨#[],by rw[z6 (zJ q c),q];simp⟩
theorem Un.write(mu:nQ (H x))(he:e=x\/H e=aa (.own x))(k:∀b u,b≠e->h.get? b=aa u->h'.get? b=aa u)(d:∃u,h'.get? e=aa u):Un fs ex H (upd H x o) h h':=by
 have f:∀b,H b=af->b≠x:=λb n z=>by subst z;rw[n] at mu;exact mu
 have hb:∀b,H b=af->b≠e:=λb n z=>by
  subst z;rcases he with r|r
  .exact f b n r
  .rw[n] at r;exact z9 r
 have c:∀b u,H b=aa u->¬nQ (aa u)->b≠x:=λb u q nm z=>by subst z;rw[q] at mu;exact nm mu
 refine⟨λb u q n _ _=>k b u (hb b n) q,λb u q n _ _=>⟨u.slots,k b u (hb b n) q⟩,λb u q n _=>(z6 (f b n))▸n,λb u q _=>?_,
  λb xs q=>(z6 (c b _ q λz=>z))▸q,λb u xs q=>(z6 (c b _ q λz=>z))▸q,λb ps q=>⟨#[],by rw[z6 (c b _ q λz=>z),q];simp⟩⟩
 by_cases a:b=e
 .subst a;exact d
 .exact⟨u,k b u a q⟩
end
noncomputable def pF (h:aG)(H:Hp):List ak:=(dm h.objs.size).filter λa=>(H a).isSome
noncomputable def ZR (h:aG)(H:Hp):aG:=PySem.W.hideAll h (pF h H)
theorem Ka(h:aG)(H:Hp):(ZR h H).objs.size=h.objs.size:=PySem.W.hideAll_size _ _
theorem Yy(e:h.get? b=aa o)(n:H b=af):(ZR h H).get? b=aa o:=
 PySem.W.hideAll_get _ e λa=>by
  have q:=(fq.mp a).2;rw[n] at q;simp at q
theorem LG(e:(ZR h H).get? b=aa o):h.get? b=aa o/\H b=af:=by
 have a:=PySem.W.of_hideAll (pF h H) e;refine⟨a,?_⟩;cases q:H b with
 |none=>rfl
 |some x=>
  have c:b∈pF h H:=fq.mpr ⟨io.mpr (bz a),by simp[q]⟩;have z:(ZR h H).get? b=af:=PySem.W.hideAll_none (pF h H) c;rw[z] at e;exact z9 e
noncomputable def UE(g h:aG)(L:ak):List (ak×bj):=(dm h.objs.size).filterMap λa=>if a=L\/(g.get? a).isSome=ae then af else (h.get? a).map λo=>(a,o)
noncomputable def rest (g h:aG)(L d:ak):List (ak×bj):=(UE g h L).filter λp=>decide (p.1≠d)
structure Mod(K:PySem.W.Frag)(mg:ao->Option ai)(base:aG):Prop where
 kin:K.In base
 glob:base.Ns cO mg
 blt:∃mb,base.Ns lU mb/\∀x:ao,x≠"__name__"->mb x=fQ x
 nolimit:base.NoLimit
structure Cx where
 prog:bL
 w:dh
 K:bc
 mg:ao->Option ai
 base:aG
 A:eF
 N:List ao
 s₀:aJ
 H₀:Hp
 env:Env
 outer:List Env
 stack:List Env
 ex:List ak
 fn:ao->Bool
 calm:Bool
 pn:List (ak×bj)
 xe:ai->aJ->Prop
noncomputable def dQ(l:List Env):List ak:=l.filterMap (·.frame)
noncomputable abbrev Cx.fs(X:Cx):List ak:=dQ X.outer
noncomputable def gL (sc:Scope)(x:ao):Prop:=sc.names.lookup x=aa .local\/sc.names.lookup x=aa .cell\/sc.names.lookup x=aa .free
noncomputable def Loc (sc:Scope)(x:ao):Prop:=sc.names.lookup x=aa .local\/sc.names.lookup x=aa .cell
noncomputable def Look (env:Env)(h:aG)(m:ao->Option ai)(x:ao)(u:ai):Prop:=
 (env.kindOf x=aa .local/\m x=aa u)\/((env.kindOf x=aa .cell\/env.kindOf x=aa .free)/\∃c,env.cells.lookup x=aa c/\h.IsCell c (aa u))
structure Cx.Ok(X:Cx):Prop where
 mod:Mod X.K X.mg X.base
 kind:X.env.scope.kind=.function
 glob:X.env.globals=cO
 blt:X.env.builtins=lU
 above:X.s₀.heap.objs.size<=X.env.locals
 inj:∀x y c,X.env.cells.lookup x=aa c->X.env.cells.lookup y=aa c->x=y
 has:∀x,(X.env.kindOf x=aa .cell\/X.env.kindOf x=aa .free)->∃c,X.env.cells.lookup x=aa c
 cab:∀x c,X.fn x=ae->X.env.cells.lookup x=aa c->X.s₀.heap.objs.size<=c
 hd:X.calm=ae->X.A.handled=af
 frames:X.A.frames=aa X.stack
 stk:X.stack=X.outer\/(X.stack=X.env::X.outer/\X.env.frame=aa X.env.locals)
 exf:∀b∈X.ex,b≠X.env.locals/\∀x c,X.env.cells.lookup x=aa c->c≠b
 bs:∀b o,X.base.get? b=aa o->X.s₀.heap.get? b=aa o/\X.H₀ b=af
 bsz:X.base.objs.size<=X.s₀.heap.objs.size
 noex:∀b o,X.base.get? b=aa o->b∉X.ex
 exfs:∀b∈X.ex,b∉X.fs
 funs:X.s₀.heap.FunFrames X.base X.outer
 frf:∀b∈X.fs,X.H₀ b=af
structure Inv(X:Cx)(pins:List (ak×bj))(σ:List (Option V))(H:Hp)(s:Shared):Prop where
 ok:X.Ok
 os:s.os=X.s₀.os
 bare:hY s.gens
 base:Un X.fs X.ex X.H₀ H X.s₀.heap s.heap
 loc:∃m,s.heap.Ns X.env.locals m/\∀(i:Nat) (x:ao) (v:V),X.N[i]?=aa x->σ[i]?=aa (aa v)->gL X.env.scope x->∃u,RelV v u/\Look X.env s.heap m x u
 cell:∀x c,X.env.cells.lookup x=aa c->∃v,s.heap.IsCell c v
 free:H X.env.locals=af
 freeC:∀x c,X.env.cells.lookup x=aa c->H c=af\/(X.fn x=ag/\∃o u,H c=aa (.frz o u))
 pin:∀p∈X.pn++pins,s.heap.get? p.1=aa p.2/\H p.1=af/\p.1≠X.env.locals/\p.1∉X.fs/\∀v,p.2.data≠.cell v
 hok:cM X.prog X.w H s.heap
 len:σ.length=X.N.length
section
variable {X:Cx}{pins:List (ak×bj)}{σ:List (Option V)}{H H':Hp}{s:Shared}{h':aG}
theorem Cx.Ok.nofr(ok:X.Ok)(e:X.base.get? b=aa o):b∉X.fs:=λhb=>by
 have:=(ok.funs.mem hb).1;rw[e] at this;exact w6 this
theorem Inv.bs(I:Inv X pins σ H s):∀b o,X.base.get? b=aa o->s.heap.get? b=aa o/\H b=af:=λb o e=>
 ⟨I.base.keep b o (I.ok.bs b o e).1 (I.ok.bs b o e).2 (I.ok.nofr e) (I.ok.noex b o e),I.base.free b o (I.ok.bs b o e).1 (I.ok.bs b o e).2 (I.ok.noex b o e)⟩
theorem Inv.bk(I:Inv X pins σ H s):∀b o,X.base.get? b=aa o->s.heap.get? b=aa o:=λb o e=>(I.bs b o e).1
theorem Inv.mod(I:Inv X pins σ H s):Mod X.K X.mg X.base:=I.ok.mod
theorem Inv.kIn(I:Inv X pins σ H s):X.K.In s.heap:=I.ok.mod.kin.keeps I.bk
theorem Inv.lt(I:Inv X pins σ H s):X.env.locals<s.heap.objs.size:=let ⟨_,a,_⟩:=I.loc;a.lt
theorem Inv.sz(I:Inv X pins σ H s):X.s₀.heap.objs.size<=s.heap.objs.size:=cf I.ok.above (im I.lt)
theorem Inv.nofs(I:Inv X pins σ H s){a:ak}(h:s.heap.objs.size<=a):a∉X.fs:=λhb=>by
 obtain⟨_,o,ho,_⟩:=I.ok.funs.mem hb;exact absurd (cz (bz ho) (cf I.sz h)) (g6 _)
theorem Inv.cne(I:Inv X pins σ H s):∀x c,X.env.cells.lookup x=aa c->c≠X.env.locals:=λx c e z=>by
 obtain⟨v,o,ho,hd⟩:=I.cell x c e;obtain⟨m,⟨b,d,ep,ho',a,_⟩,_⟩:=I.loc;rw[z,ho'] at ho;cases ho;rw[a] at hd;injection hd
theorem Inv.funs(I:Inv X pins σ H s):s.heap.FunFrames X.base X.outer:=by
 have all:∀(l:List Env),(∀b∈dQ l,b∈X.fs)->X.s₀.heap.FunFrames X.base l->s.heap.FunFrames X.base l:=by
  intro l;induction l with
  |nil=>intro _ _;trivial
  |cons env r c=>
   intro hs f;obtain⟨hk,⟨L,o,hf,d,ho,hd⟩,hr⟩:=f;have a:=hs L (by unfold dQ;rw[sO,hf];exact dt);obtain⟨g,e⟩:=I.base.slot L o ho (I.ok.frf L a) a λz=>I.ok.exfs L z a;exact⟨hk,⟨L,_,hf,d,e,hd⟩,c (λb hb=>hs b (by unfold dQ;rw[sO,hf];exact cJ _ hb)) hr⟩
 exact all X.outer (λ_ hb=>hb) I.ok.funs
theorem Inv.stack(I:Inv X pins σ H s):s.heap.FunFrames X.base X.stack:=by
 rcases I.ok.stk with e|⟨e,hf⟩
 .rw[e];exact I.funs
 .rw[e];obtain⟨m,a,_⟩:=I.loc;refine .cons (by rw[I.ok.kind];decide) hf a ?_ I.funs;exact iR (cf I.ok.bsz I.ok.above)
theorem Inv.stkSub(I:Inv X pins σ H s):∀b∈dQ X.stack,b∈X.env.locals::X.fs:=λb hb=>by
 rcases I.ok.stk with e|⟨e,hf⟩
 .rw[e] at hb;exact cJ _ hb
 .rw[e] at hb;unfold dQ at hb;rw[sO,hf] at hb;exact hb
theorem Inv.stkFree(I:Inv X pins σ H s):∀b∈dQ X.stack,H b=af:=λb hb=>by
 rcases bC.mp (I.stkSub b hb) with e|hb
 .rw[e];exact I.free
 .obtain⟨_,o,ho,_⟩:=I.ok.funs.mem hb;exact I.base.free b o ho (I.ok.frf b hb) λz=>I.ok.exfs b z hb
theorem Inv.step{ch:List ak}(I:Inv X pins σ H s)
  (h:∀b∈ch,(b∈X.ex\/X.s₀.heap.objs.size<=b)/\b≠X.env.locals/\(∀x c,X.env.cells.lookup x=aa c->c≠b)/\∀p∈X.pn++pins,p.1≠b)
  (keep:∀b o,b≠X.env.locals->b∉X.fs->b∉ch->s.heap.get? b=aa o->H b=af->h'.get? b=aa o)
  (slot:∀b o,b≠X.env.locals->b∈X.fs->b∉ch->s.heap.get? b=aa o->H b=af->∃G,h'.get? b=aa {o with slots:=G}) (free:∀b o,b∉ch->s.heap.get? b=aa o->H b=af->H' b=af)
  (there:∀b o,b∉ch->s.heap.get? b=aa o->∃B,h'.get? b=aa B)
  (tups:∀b xs,H b=aa (.t xs)->H' b=aa (.t xs)) (frzs:∀b o u,H b=aa (.frz o u)->H' b=aa (.frz o u)) (tbls:∀b ps,H b=aa (.tbl ps)->∃C,H' b=aa (.tbl (ps++C)))
  (ns:∀m,s.heap.Ns X.env.locals m->h'.Ns X.env.locals m) (hok:cM X.prog X.w H' h') (O:hY g') :
  Inv X pins σ H' {s with heap:=h',gens:=g',drawn:=d',toks:=t'}:=by
 have A:∀b o,X.s₀.heap.get? b=aa o->b≠X.env.locals:=λb o e=>b_ (cz (bz e) I.ok.above);have t:∀b o,X.s₀.heap.get? b=aa o->b∉X.ex->b∉ch:=λb o e a hb=>by
  rcases (h b hb).1 with z|z
  .exact a z
  .exact absurd (cz (bz e) z) (g6 _)
 have j:∀x c,X.env.cells.lookup x=aa c->∀v,s.heap.IsCell c v->h'.IsCell c v:=λx c e v ⟨o,ho,hd⟩=>by
  have g:c∉ch:=λz=>(h c z).2.2.1 x c e rfl;rcases I.freeC x c e with f|⟨_,ob,u,f⟩
  .by_cases hc:c∈X.fs
   .obtain⟨G,q⟩:=slot c o (I.cne x c e) hc g ho f;exact⟨_,q,hd⟩
   .exact⟨o,keep c o (I.cne x c e) hc g ho f,hd⟩
  .have h1:=(I.hok c _ f).1;rw[ho] at h1;(replace h1:=zo h1;subst h1);exact⟨o,(hok c _ (frzs c _ u f)).1,hd⟩
 refine⟨I.ok,I.os,O,⟨λb o e n hb a=>?_,λb o e n hb a=>?_,λb o e n a=>?_,λb o e a=>?_,λb xs e=>tups b xs (I.base.tups b xs e),λb o xs e=>frzs b o xs (I.base.frzs b o xs e),λb ps e=>?_⟩,?_,λx c e=>?_,?_,λx c e=>?_,λp J=>?_,hok,I.len⟩
 .exact keep b o (A b o e) hb (t b o e a) (I.base.keep b o e n hb a) (I.base.free b o e n a)
 .obtain⟨G,y⟩:=I.base.slot b o e n hb a;obtain⟨E,D⟩:=slot b _ (A b o e) hb (t b o e a) y (I.base.free b o e n a);exact⟨E,D⟩
 .obtain⟨B,y⟩:=I.base.there b o e a;exact free b B (t b o e a) y (I.base.free b o e n a)
 .obtain⟨B,y⟩:=I.base.there b o e a;exact there b B (t b o e a) y
 .obtain⟨L,y⟩:=I.base.tbls b ps e;obtain⟨K,D⟩:=tbls b _ y;exact⟨L++K,by rw[D,Array.append_assoc]⟩
 .obtain⟨m,M,N⟩:=I.loc;refine⟨m,ns m M,λi x v y D P=>?_⟩;obtain⟨u,r,l⟩:=N i x v y D P;refine⟨u,r,?_⟩;rcases l with l|⟨k,c,e,z⟩
  .exact .inl l
  .exact .inr ⟨k,c,e,j x c e _ z⟩
 .obtain⟨v,z⟩:=I.cell x c e;exact⟨v,j x c e v z⟩
 .obtain⟨m,⟨o,_,_,ho,_⟩,_⟩:=I.loc;exact free _ o (λz=>(h _ z).2.1 rfl) ho I.free
 .obtain⟨v,o,ho,hd⟩:=I.cell x c e;exact (I.freeC x c e).imp (free c o (λz=>(h c z).2.2.1 x c e rfl) ho) λ⟨n,ob,u,f⟩=>⟨n,ob,u,frzs c ob u f⟩
 .obtain⟨e,n,ne,F,d⟩:=I.pin p J;have g:p.1∉ch:=λz=>(h p.1 z).2.2.2 p J rfl;exact⟨keep p.1 p.2 ne F g e n,free p.1 p.2 g e n,ne,F,d⟩
theorem Inv.un(I:Inv X pins σ H s)(u:Un X.fs [] H H' s.heap h')(hok:cM X.prog X.w H' h'):Inv X pins σ H' {s with heap:=h',toks:=t'}:=by
 obtain⟨m,⟨o,j,ep,ho,r⟩,_⟩:=id I.loc;obtain⟨h,g⟩:=u.any ho I.free sC;exact I.step (g':=s.gens) (d':=s.drawn) (ch:=[]) (λ_ z=>nomatch z) (λb o _ hb _ e n=>u.keep b o e n hb sC) (λb o _ hb _ e n=>u.slot b o e n hb sC) (λb o _ e n=>u.free b o e n sC) (λb o _ e=>u.there b o e sC) u.tups u.frzs u.tbls (λm' f=>by
  obtain⟨i,a,c,ho',d⟩:=f;rw[ho] at ho';(replace ho':=zo ho';subst ho');exact⟨_,a,c,g,d⟩) hok I.bare
theorem Inv.call{ch:List ak}(I:Inv X pins σ H s)(u:Un (dQ X.stack) ch H H' s.heap h')(hok:cM X.prog X.w H' h')(j:hY g')
  (a:∀b∈ch,(b∈X.ex\/X.s₀.heap.objs.size<=b)/\b≠X.env.locals/\(∀x c,X.env.cells.lookup x=aa c->c≠b)/\∀p∈X.pn++pins,p.1≠b) :
  Inv X pins σ H' {s with heap:=h',gens:=g',drawn:=d',toks:=t'}:=by
 obtain⟨m,⟨o,q,ep,ho,r⟩,_⟩:=id I.loc;obtain⟨k,d⟩:=u.any ho I.free λz=>(a _ z).2.1 rfl;exact I.step (ch:=ch) a (λb o d hb hc e n=>u.keep b o e n (λz=>(bC.mp (I.stkSub b z)).elim d hb) hc) (λb o _ _ hc e n=>u.any e n hc) (λb o hc e n=>u.free b o e n hc) (λb o hc e=>u.there b o e hc) u.tups u.frzs u.tbls (λm' i=>by
  obtain⟨l,f,g,ho',h⟩:=i;rw[ho] at ho';(replace ho':=zo ho';subst ho');exact⟨_,f,g,d,h⟩) hok j
theorem Inv.turned{t':Nat}(I:Inv X pins σ H s)(k:∀b o,b≠it->s.heap.get? b=aa o->h'.get? b=aa o)(f:H it=af)(d:it≠X.env.locals)
  (h1:it∈X.ex\/X.s₀.heap.objs.size<=it) (h2:∀x c,X.env.cells.lookup x=aa c->c≠it) (h:∀p∈X.pn++pins,p.1≠it):Inv X pins σ H {s with heap:=h',toks:=t'}:=by
 have a:∀b u,H b=aa u->b≠it:=λb u e z=>by rw[z,f] at e;exact z9 e
 refine I.step (g':=s.gens) (d':=s.drawn) (ch:=[it]) (λb hb=>?_) (λb o _ _ hc e _=>k b o (λz=>hc (by simp[z])) e) (λb o _ _ hc e _=>⟨o.slots,k b o (λz=>hc (by simp[z])) e⟩) (λ_ _ _ _ n=>n)
  (λb o hc e=>⟨o,k b o (λz=>hc (by simp[z])) e⟩) (λ_ _ e=>e) (λ_ _ _ e=>e) (λb ps e=>⟨#[],by rw[e];simp⟩) (λm g=>?_) (λb u e=>?_) I.bare
 .have e:b=it:=by simpa using hb
  subst e;exact⟨h1,d,h2,h⟩
 .obtain⟨o,i,ep,ho,r⟩:=g;exact⟨o,i,ep,k _ o (bd d) ho,r⟩
 .refine (I.hok b u e).stay (λc v hc q=>k c v ?_ q) (λ_ q=>q) λ_ _ q=>q;rcases hc with z|z
  .rw[z];exact a b u e
  .exact a c _ z
theorem Inv.tok(I:Inv X pins σ H s)(t:Nat):Inv X pins σ H {s with toks:=t}:=I.un (h':=s.heap) (t':=t) Un.refl I.hok
theorem Inv.kept(I:Inv X pins σ H s)(k:∀b u,s.heap.get? b=aa u->h'.get? b=aa u):Inv X pins σ H {s with heap:=h',toks:=t'}:=I.un (Un.kept k) (I.hok.kept k)
theorem Inv.laid{a:ak}(I:Inv X pins σ H s)(k:∀b u,s.heap.get? b=aa u->h'.get? b=aa u)(c:s.heap.objs.size<=a)(new:aR X.prog X.w (upd H a o) h' a o) :
  Inv X pins σ (upd H a o) {s with heap:=h',toks:=t'}:=I.un (Un.laid k c (I.hok.fresh c)) (I.hok.laid k c new)
theorem Inv.write(I:Inv X pins σ H s)(mu:nQ (H x))(he:e=x\/H e=aa (.own x))(k:∀b u,b≠e->s.heap.get? b=aa u->h'.get? b=aa u)(a:∃u,h'.get? e=aa u)
  (new:aR X.prog X.w (upd H x o) h' x o):Inv X pins σ (upd H x o) {s with heap:=h',toks:=t'}:=I.un (Un.write mu he k a) (I.hok.write mu he k a new)
theorem Inv.pins_of(I:Inv X pins σ H s)(h:∀p∈j,s.heap.get? p.1=aa p.2/\H p.1=af/\p.1≠X.env.locals/\p.1∉X.fs/\∀v,p.2.data≠.cell v):Inv X j σ H s:=
 ⟨I.ok,I.os,I.bare,I.base,I.loc,I.cell,I.free,I.freeC,λp a=>(bf.mp a).elim (λz=>I.pin p (c_ _ z)) (h p),I.hok,I.len⟩
theorem kf{N:List ao}(hN:N.Nodup){i:Nat}(a:N[i]?=aa x)(b:N[j]?=aa x):i=j:=by
 obtain⟨f,d⟩:=aO.mp a;obtain⟨e,c⟩:=aO.mp b;exact (oG hN).mp (d.trans c.symm)
theorem K2{E:ai->aJ->Prop}{i:Nat}{x:ao}{v:V}{u:ai}(I:Inv X pins σ H s)(hN:X.N.Nodup)(hi:X.N[i]?=aa x)(C:Loc X.env.scope x)(r:RelV v u)
  (h:∀s',Inv X pins (σ.set i (aa v)) H s'->(∃a,eT a s.heap s'.heap/\(a=X.env.locals\/X.env.cells.lookup x=aa a))->Q () s') (hf:X.fn x=ae\/X.env.scope.names.lookup x=aa .local:=by first|exact .inl rfl|exact .inr rfl|assumption):aA M A (storeName X.env x u) Q E s:=by
 obtain⟨m,hn,hl⟩:=id I.loc;have S:(X.env.scope.kind==.class || (X.env.scope.kind==.module&&X.env.locals != X.env.globals))=ag:=by rw[I.ok.kind];rfl
 have G:i<σ.length:=I.len▸(aO.mp hi).1;have cne:=I.cne;have l:∀{a:ak}{O:aG},(∃o,s.heap.get? a=aa o/\H a=af)->eT a s.heap O->cM X.prog X.w H O:=λ{a O} ha g b ob e=>by
  obtain⟨_,_,D⟩:=ha;refine (I.hok b ob e).stay (λc W B q=>(g.2 c ?_).trans q) (λ_ q=>q) λ_ _ q=>q;rintro rfl;rcases B with rfl|B
  .rw[D] at e;exact z9 e
  .rw[D] at B;exact z9 B
 rcases C with J|J
 .refine wpAny_storeName_local J hn (λO hn' g=>?_) S;obtain⟨oL,_,_,hoL,_⟩:=id hn;refine h _ ⟨I.ok,I.os,I.bare,⟨λb o e n L C=>?_,λb o e n L C=>?_,I.base.free,λb o e C=>?_,I.base.tups,I.base.frzs,I.base.tbls⟩,⟨_,hn',λj y Z f t e3=>?_⟩,λy c e=>?_,I.free,I.freeC,λp hp=>?_,l ⟨oL,hoL,I.free⟩ g,by simpa using I.len⟩ ⟨_,g,.inl rfl⟩
  .exact (g.2 b (b_ (cz (bz e) I.ok.above))).trans (I.base.keep b o e n L C)
  .obtain⟨sl,f⟩:=I.base.slot b o e n L C;exact⟨sl,(g.2 b (b_ (cz (bz e) I.ok.above))).trans f⟩
  .obtain⟨o',f⟩:=I.base.there b o e C;exact⟨o',(g.2 b (b_ (cz (bz e) I.ok.above))).trans f⟩
  .by_cases K:j=i
   .subst K;rw[hi] at f;(replace f:=zo f;subst f);rw[iX G] at t;(injection t with t;injection t with t;subst t);exact⟨u,r,.inl ⟨J,sC⟩⟩
   .rw[aX (bd K)] at t;obtain⟨u',r',q⟩:=hl j y Z f t e3;refine⟨u',r',?_⟩;rcases q with⟨k,e⟩|⟨k,c,e,z⟩
    .refine .inl ⟨k,?_⟩;have:y≠x:=λe=>K (kf hN f (e▸hi));simp[this,e]
    .exact .inr ⟨k,c,e,z.sameBut g (cne y c e)⟩
  .obtain⟨W,z⟩:=I.cell y c e;exact⟨W,z.sameBut g (cne y c e)⟩
  .obtain⟨e,n,ne,nf,d⟩:=I.pin p hp;exact⟨(g.2 p.1 ne).trans e,n,ne,nf,d⟩
 .have F:X.fn x=ae:=by
   rcases hf with z|z
   .exact z
   .rw[z] at J;contradiction
  obtain⟨c,B⟩:=I.ok.has x (.inl J);obtain⟨W,z⟩:=I.cell x c B;refine wpAny_storeName_cell I.ok.kind J B z (λO U g=>?_);obtain⟨oc,R,P⟩:=id z;refine h {s with heap:=O} ⟨I.ok,I.os,I.bare,⟨λb o e n L C=>?_,λb o e n L C=>?_,I.base.free,λb o e C=>?_,I.base.tups,I.base.frzs,I.base.tbls⟩,⟨m,hn.sameBut g (bd (cne x c B)),λj y Z f t e3=>?_⟩,λy Y e=>?_,I.free,I.freeC,λp hp=>?_,l ⟨oc,R,(I.freeC x c B).resolve_right λz=>by rw[F] at z;cases z.1⟩ g,by simpa using I.len⟩ ⟨c,g,.inr B⟩
  .exact (g.2 b (b_ (cz (bz e) (I.ok.cab x c F B)))).trans (I.base.keep b o e n L C)
  .obtain⟨sl,f⟩:=I.base.slot b o e n L C;exact⟨sl,(g.2 b (b_ (cz (bz e) (I.ok.cab x c F B)))).trans f⟩
  .obtain⟨o',f⟩:=I.base.there b o e C;exact⟨o',(g.2 b (b_ (cz (bz e) (I.ok.cab x c F B)))).trans f⟩
  .by_cases K:j=i
   .subst K;rw[hi] at f;(replace f:=zo f;subst f);rw[iX G] at t;(injection t with t;injection t with t;subst t);exact⟨u,r,.inr ⟨.inl J,c,B,U⟩⟩
   .rw[aX (bd K)] at t;obtain⟨u',r',q⟩:=hl j y Z f t e3;refine⟨u',r',?_⟩;rcases q with q|⟨k,Y,e,z'⟩
    .exact .inl q
    .refine .inr ⟨k,Y,e,z'.sameBut g ?_⟩;rintro rfl;exact K (kf hN f (I.ok.inj _ _ _ e B▸hi))
  .by_cases T:Y=c
   .subst T;exact⟨_,U⟩
   .obtain⟨w2,z2⟩:=I.cell y Y e;exact⟨w2,z2.sameBut g T⟩
  .obtain⟨e,n,ne,nf,d⟩:=I.pin p hp;refine⟨(g.2 p.1 ?_).trans e,n,ne,nf,d⟩;intro q;rw[q,R] at e;have q':=aZ e;exact d W (q'▸P)
theorem uy{i:Nat}{x:ao}{v:V}(I:Inv X pins σ H s)(hN:X.N.Nodup)(hi:X.N[i]?=aa x)(a:Loc X.env.scope x)(r:RelV v u)
  (h:∀j,Inv X pins (σ.set i (aa v)) H j->Q () j) (hf:X.fn x=ae\/X.env.scope.names.lookup x=aa .local:=by first|exact .inl rfl|exact .inr rfl|assumption):aA M A (storeName X.env x u) Q E s:=
 K2 I hN hi a r (λj b _=>h j b) hf
theorem Inv.call'(I:Inv X pins σ H s)(ho:j.os=s.os)(u:Un (dQ X.stack) ch H H' s.heap j.heap)(hok:cM X.prog X.w H' j.heap)(d:hY j.gens)
  (a:∀b∈ch,(b∈X.ex\/X.s₀.heap.objs.size<=b)/\b≠X.env.locals/\(∀x c,X.env.cells.lookup x=aa c->c≠b)/\∀p∈X.pn++pins,p.1≠b):Inv X pins σ H' j:=by
 obtain⟨h',g',d',t',f⟩:=j;have e:=ho;subst e;exact I.call (g':=g') (t':=t') (d':=d') u hok d a
end
noncomputable abbrev XK:=ai->Option ak->Hp->Prop
noncomputable abbrev St:=List (Option V)
noncomputable abbrev VK:=V->Hp->Prop
noncomputable abbrev TE:=St->Hp->VK->Prop
noncomputable abbrev TT:=St->Hp->(Bool->Hp->Prop)->Prop
noncomputable abbrev TA:=St->Hp->(List V->Hp->Prop)->Prop
structure Ends where
 nx:St->Hp->Prop
 rt:VK
 bk:St->Hp->Prop:=λ_ _=>False
 ct:St->Hp->Prop:=λ_ _=>False
noncomputable abbrev TS:=Ends->St->Hp->Prop
inductive EP(X:Cx)(pins:List (ak×bj))(σ:St)(Q:VK)(u:ai)(s':Shared):Prop where
 |mk (v:V) (H':Hp) (i:Inv X pins σ H' s') (r:RelV v u) (q:Q v H')
inductive TP(X:Cx)(pins:List (ak×bj))(σ:St)(Q:Bool->Hp->Prop)(b:Bool)(s':Shared):Prop where
 |mk (H':Hp) (i:Inv X pins σ H' s') (q:Q b H')
inductive AP(X:Cx)(pins:List (ak×bj))(σ:St)(Q:List V->Hp->Prop)(us:List ai)(s':Shared):Prop where
 |mk (vs:List V) (H':Hp) (i:Inv X pins σ H' s') (r:aE vs us) (q:Q vs H')
noncomputable def SP (X:Cx)(b:List (ak×bj))(D:Ends)(f:Flow)(d:aJ):Prop:=
 match f with
 |.next=>∃a c,Inv X b a c d/\D.nx a c
 |.brk=>∃a c,Inv X b a c d/\D.bk a c
 |.cont=>∃a c,Inv X b a c d/\D.ct a c
 |.ret u=>∃v a c,Inv X b a c d/\RelV v u/\D.rt v c
noncomputable def PE (X:Cx)(e:ap)(t:TE):Prop:=
 ∀(a:List (ak×bj)) (s:aJ) (b:St) (H:Hp) (Q:VK),Inv X a b H s->t b H Q->aA (aC X.prog X.w) X.A (eval e X.env) (EP X a b Q) X.xe s
noncomputable def PT (X:Cx)(e:ap)(t:TT):Prop:=
 ∀(a:List (ak×bj)) (s:aJ) (b:St) (H:Hp) (Q:Bool->Hp->Prop),Inv X a b H s->t b H Q->aA (aC X.prog X.w) X.A (isTrue e X.env (eval e X.env)) (TP X a b Q) X.xe s
noncomputable def PW (X:Cx)(e:ap)(t:TT):Prop:=
 ∀(b:Sem ai) (a:List (ak×bj)) (s:aJ) (c:St) (H:Hp) (Q:Bool->Hp->Prop),Inv X a c H s->t c H Q->aA (aC X.prog X.w) X.A (isTrue e X.env b) (TP X a c Q) X.xe s
theorem PW.pt{X:Cx}(h:PW X e t):PT X e t:=h _
noncomputable def PA (X:Cx)(d:List ap)(t:TA):Prop:=
 ∀(c:Pos) (a:List (ak×bj)) (s:aJ) (b:St) (H:Hp) (Q:List V->Hp->Prop),Inv X a b H s->t b H Q->aA (aC X.prog X.w) X.A (spliced (dZ c (cU d X.env))) (AP X a b Q) X.xe s
noncomputable def PS (X:Cx)(st:aV)(t:TS):Prop:=
 ∀(a:List (ak×bj)) (s:aJ) (b:St) (H:Hp) (D:Ends),Inv X a b H s->t D b H->aA (aC X.prog X.w) X.A (exec st X.env) (SP X a D) X.xe s
noncomputable def fw (X:Cx)(st:List aV)(t:TS):Prop:=
 ∀(a:List (ak×bj)) (s:aJ) (b:St) (H:Hp) (D:Ends),Inv X a b H s->t D b H->aA (aC X.prog X.w) X.A (execs st X.env) (SP X a D) X.xe s
theorem aF{α:Type}{t:Sem α}{Q Q':α->aJ->Prop}(h:aA M A t Q E s)(b:∀a s,Q a s->Q' a s):aA M A t Q' E s:=cX h b λ_ _ x=>x
section
variable {X:Cx}
noncomputable def Eu (i:Nat):TE:=λa H Q=>∃v,a[i]?=aa (aa v)/\Q v H
noncomputable def tC (v:V):TE:=λ_ H Q=>Q v H
theorem kX {pos:Pos}(hN:X.N[i]?=aa x) (n:gL X.env.scope x) (hd:(x==("__debug__":ao))=ag:=by decide) (g:(x==("__classdict__":ao))=ag:=by decide):PE X (.Name x pos) (Eu i):=by
 intro f s k H Q I h;obtain⟨v,e,h⟩:=h;obtain⟨m,o,q⟩:=I.loc;obtain⟨u,r,l⟩:=q i x v hN e n;have d:EP X f k Q u s:=⟨v,H,I,r,h⟩;rcases l with⟨b,p⟩|⟨b,c,j,a⟩
 .exact rg (wpAny_loadName_local I.ok.kind b o p d) hd
 .rcases b with b|b
  .exact rg (wpAny_loadName_cell I.ok.kind b j a d) hd
  .exact rg (wpAny_loadName_free I.ok.kind b j a d g) hd
theorem Lh{i j pos}:PE X (.Constant (.int i) j pos) (tC (.int i)):=λ_ _ _ H _ I h=>wpAny_Constant_int ⟨.int i,H,I.tok _,⟨_,rfl⟩,h⟩
theorem FE{b j pos}:PE X (.Constant (.bool b) j pos) (tC (.bl b)):=λ_ _ _ H _ I h=>Constant_bool ⟨.bl b,H,I,rfl,h⟩
theorem IP{j pos}:PE X (.Constant .none j pos) (tC .n):=λ_ _ _ H _ I h=>Constant_none ⟨.n,H,I,rfl,h⟩
theorem Qa{x j pos}:PE X (.Constant (.str x) j pos) (tC (.str x)):=λ_ _ _ H _ I h=>Calls.Constant_str ⟨.str x,H,I.tok _,⟨_,rfl⟩,h⟩
noncomputable def Gl (X:Cx)(x:ao):Prop:=X.env.kindOf x=aa .globalImplicit
theorem q_{a:St}{H:Hp}{x:ao}{pos:Pos}(I:Inv X j a H s)(c:Gl X x)(b:X.mg x=aa u)(h:Q u s)
  (hd:(x==("__debug__":ao))=ag:=by decide):aA (aC X.prog X.w) X.A (eval (.Name x pos) X.env) Q E s:=
 B3 I.ok.kind c (Calls.loadGlobal_global (I.ok.glob▸I.mod.glob.keeps I.bk) b h) hd
theorem qT{E:ai->aJ->Prop}{a:St}{H:Hp}{x:ao}{pos:Pos}(I:Inv X j a H s)(e:Gl X x)(d:X.mg x=af)(b:fQ x=aa u)(h:Q u s)
  (c:x≠"__name__":=by decide) (hd:(x==("__debug__":ao))=ag:=by decide):aA (aC X.prog X.w) X.A (eval (.Name x pos) X.env) Q E s:=by
 obtain⟨i,g,f⟩:=I.mod.blt;exact B3 I.ok.kind e (Calls.loadGlobal_builtin (I.ok.glob▸I.mod.glob.keeps I.bk) d (I.ok.blt▸g.keeps I.bk) ((f x c).trans b) h) hd
theorem Ja (b:Gl X x) (a:X.mg x=aa u) (r:RelV v u) (hd:(x==("__debug__":ao))=ag:=by decide):PE X (.Name x pos) (tC v):=
 λ_ _ _ H _ I h=>q_ I b a ⟨v,H,I,r,h⟩ hd
theorem MX {pos:Pos}(d:Gl X x) (c:X.mg x=af) (a:fQ x=aa u) (r:RelV v u) (b:x≠"__name__":=by decide) (hd:(x==("__debug__":ao))=ag:=by decide):PE X (.Name x pos) (tC v):=
 λ_ _ _ H _ I h=>qT I d c a ⟨v,H,I,r,h⟩ b hd
variable {a b:ap}{pos:Pos}
variable {tA tB':TT}{rest:List ap}
noncomputable def wz (t u:TT):TT:=λa H Q=>t a H λc b=>if c=ae then u a b Q else Q ag b
noncomputable def d_ (t u:TT):TT:=λa H Q=>t a H λc b=>if c=ae then Q ae b else u a b Q
noncomputable def qd (t:TT):TT:=λa H Q=>t a H λc b=>Q (!c) b
theorem Md(f:PT X a tA):PW X (.BoolOp .And [a] pos) tA:=by
 intro g b s d H Q I h;refine isTrue_and (aF (f b s d H Q I h) λc i e=>?_);cases c with
 |true=>exact isTrue_and_nil e
 |false=>exact e
theorem IN(f:PT X a tA):PW X (.BoolOp .Or [a] pos) tA:=by
 intro g b s d H Q I h;refine isTrue_or (aF (f b s d H Q I h) λc i e=>?_);cases c with
 |false=>exact isTrue_or_nil e
 |true=>exact e
theorem Li(l:PT X a tA)(hb:PW X (.BoolOp .And (b::rest) pos) tB'):PW X (.BoolOp .And (a::b::rest) pos) (wz tA tB'):=by
 intro j d s e H Q I h;refine isTrue_and (aF (l d s e H _ I h) λc k ⟨i,g,f⟩=>?_);cases c with
 |true=>exact hb j d k e i Q g f
 |false=>exact⟨i,g,f⟩
theorem F_(l:PT X a tA)(hb:PW X (.BoolOp .Or (b::rest) pos) tB'):PW X (.BoolOp .Or (a::b::rest) pos) (d_ tA tB'):=by
 intro j d s e H Q I h;refine isTrue_or (aF (l d s e H _ I h) λc k ⟨i,g,f⟩=>?_);cases c with
 |true=>exact⟨i,g,f⟩
 |false=>exact hb j d k e i Q g f
theorem Ir(e:PT X a tA):PT X (.UnaryOp .Not a pos) (qd tA):=by
 intro b s d H Q I h;exact isTrue_not (aF (e b s d H (λc f=>Q (!c) f) I h) λc j ⟨g,i,q⟩=>⟨g,i,q⟩)
theorem HZ{op}(h:PE X a t):PE X (.BoolOp op [a] pos) t:=λb s c H Q I hw=>BoolOp_one (h b s c H Q I hw)
end
noncomputable def eJ (K:bc)(H:Hp)(a:ak)(xs:List V):Prop:=
 Rd H a (.l xs)\/
  ∃(o:bj) (b:Array ai) (n:Nat),K.lookup a=aa o/\o.cls=.type "list"/\o.dict=af/\o.data=.seq b n/\b.size<=sizeLine/\aE xs b.toList
noncomputable def i3 (K:bc)(H:Hp)(a:ak)(xs:List V):Prop:=
 Rd H a (.t xs)\/
  ∃(o:bj) (b:Array ai) (n:Nat),K.lookup a=aa o/\o.cls=.type "tuple"/\o.data=.seq b n/\b.size<=sizeLine/\aE xs b.toList
noncomputable def Ey:ai->Option V
 |.none=>aa .n
 |.bool b=>aa (.bl b)
 |.int i _=>aa (.int i)
 |.str x _=>aa (.str x)
 |.bytes b _=>aa (.byt b)
 |.float b _=>aa (.flt b)
 |.ref a=>aa (.ref a)
 |.type n=>aa (.ty n)
 |_=>af
theorem RelV.abs(r:RelV x u):Ey u=aa x:=by
 cases x with
 |n=>subst r;rfl
 |bl _=>subst r;rfl
 |int _=>obtain⟨t,rfl⟩:=r;rfl
 |str _=>obtain⟨t,rfl⟩:=r;rfl
 |byt _=>obtain⟨t,rfl⟩:=r;rfl
 |flt _=>obtain⟨t,rfl⟩:=r;rfl
 |ref _=>subst r;rfl
 |ty _=>subst r;rfl
theorem RelV.inj(r:RelV x u)(q:RelV y u):x=y:=aZ (r.abs.symm.trans q.abs)
theorem aE.inj:∀{xs a:List V}{us:List ai},aE xs us->aE a us->xs=a
 |_,_,_,.nil,.nil=>rfl
 |_,_,_,.cons r t,.cons b t'=>by rw[r.inj b,aE.inj t t']
section
variable {X:Cx}{pins:List (ak×bj)}{σ:St}{H:Hp}{s:Shared}{a:ak}{xs ys:List V}
theorem Inv.list(I:Inv X pins σ H s)(h:eJ X.K H a xs):∃j:List ai,aE xs j/\PlainL s.heap a j.toArray/\xs.length<=sizeLine:=by
 rcases h with h|⟨o,j,n,hk,hc,hd,hs,b,r⟩
 .obtain⟨z,j,n,r,e⟩:=h.ok I.hok;exact⟨j,r,⟨_,n,e,rfl,rfl,rfl⟩,z⟩
 .refine⟨j.toList,r,⟨o,n,I.kIn a o hk,hc,hd,by simpa using hs⟩,?_⟩;have e:=r.length;simp only[me] at e;lia
theorem Inv.tuple(I:Inv X pins σ H s)(h:i3 X.K H a xs):∃j:List ai,aE xs j/\IsTup s.heap a j.toArray/\xs.length<=sizeLine:=by
 rcases h with h|⟨o,j,n,hk,hc,hs,b,r⟩
 .obtain⟨z,j,r,p⟩:=h.ok I.hok;exact⟨j,r,p,z⟩
 .refine⟨j.toList,r,⟨o,I.kIn a o hk,hc,n,by simpa using hs⟩,?_⟩;have e:=r.length;simp only[me] at e;lia
theorem Inv.list_inj(I:Inv X pins σ H s)(h:eJ X.K H a xs)(h':eJ X.K H a ys):xs=ys:=by
 obtain⟨c,r,⟨o,n,e,_,_,d⟩,_⟩:=I.list h;obtain⟨its',f,⟨i,j,b,_,_,d'⟩,_⟩:=I.list h';rw[e] at b;(replace b:=zo b;subst b);rw[d] at d';injection d' with g _;have:c=its':=by simpa using congrArg Array.toList g
 subst this;exact r.inj f
end
noncomputable abbrev Cx.wish(X:Cx)(E:ai->aJ->Prop):Cx:={X with xe:=E}
theorem Cx.Ok.wish{X:Cx}(ok:X.Ok)(E:ai->aJ->Prop):(X.wish E).Ok:=
 ⟨ok.mod,ok.kind,ok.glob,ok.blt,ok.above,ok.inj,ok.has,ok.cab,ok.hd,ok.frames,ok.stk,ok.exf,ok.bs,ok.bsz,ok.noex,ok.exfs,ok.funs,ok.frf⟩
theorem Cx.Ok.unwish{X:Cx}(ok:(X.wish E).Ok):X.Ok:=
 ⟨ok.mod,ok.kind,ok.glob,ok.blt,ok.above,ok.inj,ok.has,ok.cab,ok.hd,ok.frames,ok.stk,ok.exf,ok.bs,ok.bsz,ok.noex,ok.exfs,ok.funs,ok.frf⟩
section
variable {X:Cx}{pins:List (ak×bj)}{σ:St}{H:Hp}{s:Shared}{E:ai->Shared->Prop}
theorem Inv.wish(I:Inv X pins σ H s)(E:ai->aJ->Prop):Inv (X.wish E) pins σ H s:=⟨I.ok.wish E,I.os,I.bare,I.base,I.loc,I.cell,I.free,I.freeC,I.pin,I.hok,I.len⟩
theorem Inv.unwish(I:Inv (X.wish E) pins σ H s):Inv X pins σ H s:=⟨I.ok.unwish,I.os,I.bare,I.base,I.loc,I.cell,I.free,I.freeC,I.pin,I.hok,I.len⟩
theorem SP.unwish(h:SP (X.wish E) pins D f j):SP X pins D f j:=by
 cases f with
 |next=>obtain⟨a,b,I,q⟩:=h;exact⟨a,b,I.unwish,q⟩
 |brk=>obtain⟨a,b,I,q⟩:=h;exact⟨a,b,I.unwish,q⟩
 |cont=>obtain⟨a,b,I,q⟩:=h;exact⟨a,b,I.unwish,q⟩
 |ret u=>obtain⟨v,a,b,I,r,q⟩:=h;exact⟨v,a,b,I.unwish,r,q⟩
end
section
variable {X:Cx}{st:aV}{rest:List aV}{t u:TS}{e:ap}{te:TE}{pos:Pos}
noncomputable def Fs:TS:=λD a H=>D.nx a H
noncomputable def Ev (t u:TS):TS:=λD a H=>t {D with nx:=u D} a H
theorem JO:fw X [] Fs:=λ_ _ a H _ I h=>oB ⟨a,H,I,h⟩
theorem W6(h1:PS X st t)(h2:fw X rest u):fw X (st::rest) (Ev t u):=by
 intro a s c H D I h;refine sk (aF (h1 a s c H {D with nx:=u D} I h) λf d q=>?_);cases f with
 |next=>
  obtain⟨b,g,e,q⟩:=q;exact h2 a d b g D e q
 |ret v=>exact q
 |brk=>exact q
 |cont=>exact q
theorem L_(h1:PS X st t):fw X [st] t:=by
 intro a s b H D I h;refine sk (aF (h1 a s b H D I h) λf c q=>?_);cases f with
 |next=>exact oB q
 |ret v=>exact q
 |brk=>exact q
 |cont=>exact q
theorem Inv.quiet{a:St}(I:Inv X j a H s):interactive X.env=ag:=by simp[interactive,I.ok.kind]
noncomputable def GW(te:TE):TS:=λD a H=>te a H λ_ b=>D.nx a b
theorem VZ(he:PE X e te)(hs:gX e af pos.line X.env=pure ag:=by rfl):PS X (.Expr e pos) (GW te):=by
 intro a s b H D I h;exact wpAny_Expr_any (aF (he a s b H _ I h) λv g ⟨x,f,d,i,c⟩=>⟨b,f,d,c⟩) I.quiet hs
noncomputable def EM (te:TE):TS:=λD a H=>te a H D.rt
theorem HL(he:PE X e te):PS X (.Return (aa e) pos) (EM te):=by
 intro a s b H D I h;exact wpAny_Return_some (aF (he a s b H _ I h) λv i ⟨x,g,f,c,d⟩=>⟨x,b,g,f,c,d⟩)
noncomputable def Gu:TS:=λD _ H=>D.rt .n H
theorem MI:PS X (.Return af pos) Gu:=λ_ _ a H _ I h=>wpAny_Return_none ⟨.n,a,H,I,rfl,h⟩
noncomputable def EH (c:TT)(t u:TS):TS:=λD a H=>c a H λb d=>if b=ae then t D a d else u D a d
theorem Gn{a:List aV}(hc:PT X c z)(l:fw X a t)(hb:fw X b u):PS X (.If c a b pos) (EH z t u):=by
 intro e s f H D I h;refine wpAny_If (aF (hc e s f H _ I h) λd g ⟨k,j,i⟩=>?_);cases d with
 |true=>exact l e g f k D j i
 |false=>exact hb e g f k D j i
end
noncomputable abbrev TG:=V->St->Hp->(St->Hp->Prop)->Prop
noncomputable abbrev nM:=List V->St->Hp->(St->Hp->Prop)->Prop
noncomputable def PG (X:Cx)(a:ap)(t:TG):Prop:=
 ∀(b:List (ak×bj)) (s:aJ) (d:St) (H:Hp) (v:V) (u:ai) (Q:St->Hp->Prop),Inv X b d H s->RelV v u->t v d H Q->
  aA (aC X.prog X.w) X.A (hX a X.env u) (λ_ f=>∃c e,Inv X b c e f/\Q c e) X.xe s
noncomputable def nP (X:Cx)(ts:List ap)(t:nM):Prop:=
 ∀(a:List (ak×bj)) (s:aJ) (c:St) (H:Hp) (d:List V) (e:List ai) (Q:St->Hp->Prop),Inv X a c H s->aE d e->t d c H Q->
  aA (aC X.prog X.w) X.A (assignInOrder ((f8 ts X.env).map (·.2)) e) (λ_ g=>∃b f,Inv X a b f g/\Q b f) X.xe s
noncomputable abbrev Co:=V->V->V->Hp->(Hp->Prop)->Prop
noncomputable def tL (X:Cx)(t:Co):Prop:=
 ∀(a:List (ak×bj)) (s:aJ) (b:St) (H:Hp) (o i v:V) (c d u:ai) (Q:Hp->Prop),Inv X a b H s->RelV o c->RelV i d->RelV v u->t o i v H Q->
  aA (aC X.prog X.w) X.A (setItem c d u) (λ_ f=>∃e,Inv X a b e f/\Q e) X.xe s
section
variable {X:Cx}{pos:Pos}
noncomputable def Uj(i:Nat):TG:=λv a H Q=>Q (a.set i (aa v)) H
theorem Jf(hN:X.N.Nodup)(hi:X.N[i]?=aa x)(b:Loc X.env.scope x)(hf:X.fn x=ae\/X.env.scope.names.lookup x=aa .local:=by first|exact .inl rfl|exact .inr rfl|assumption):PG X (.Name x pos) (Uj i):=by
 intro a s d H v u Q I r h;exact wpAny_assign_Name (uy I hN hi b r (λe c=>⟨_,H,c,h⟩) hf)
noncomputable def CA:nM:=λb a H Q=>b=[]/\Q a H
noncomputable def CW(t:TG)(u:nM):nM:=λc b H Q=>∃v r,c=v::r/\t v b H λa d=>u r a d Q
theorem UT:nP X [] CA:=by
 intro a s b H c d Q I r h;obtain⟨e,h⟩:=h;subst e;cases r;exact assignInOrder_nil ⟨b,H,I,h⟩
theorem Ym{t:TG}(h1:PG X e t)(h2:nP X j u)
  (hs:(f8 (e::j) X.env).map (·.2)=hX e X.env::(f8 j X.env).map (·.2):=by rfl):nP X (e::j) (CW t u):=by
 intro a s c H m o Q I r h;obtain⟨v,n,i,h⟩:=h;subst i;cases r with
 |cons r f=>
  rw[hs];refine assignInOrder_cons (aF (h1 a s c H _ _ _ I r h) λ_ d ⟨b,l,k,g⟩=>?_);exact h2 a d b l _ _ Q k f g
noncomputable def Fi (K:bc)(n:Nat)(t:nM):TG:=λv b H Q=>∃a xs,v=.ref a/\i3 K H a xs/\xs.length=n/\t xs b H Q
theorem Lo{k:Nat}(hc:X.calm=ae)(h:nP X j t)
  (q:(f8 j X.env).length=n:=by rfl) (d:(f8 j X.env).findIdx? (·.1)=af:=by rfl):PG X (.Tuple j k pos) (Fi X.K n t):=by
 intro c s g H v u Q I r hw;obtain⟨a,xs,x,p,w,hw⟩:=hw;subst x;subst r;obtain⟨i,f,m,z⟩:=I.tuple p;refine assign_Tuple_tuple (I.ok.hd hc) m (by simp[q,<-w,f.length]) d λA l=>?_;have y:=I.kept (t':=s.toks) λb o e=>l b o (b_ (bz e)) e;exact h c _ g H xs _ Q y (by simpa using f) hw
noncomputable def EW (b c:TE)(t:Co):TG:=λv a H Q=>b a H λo f=>c a f λi e=>t o i v e λd=>Q a d
theorem HM{o:ap}(ho:PE X o B)(hi:PE X i C)(hs:tL X t)
  (m:∀v,hX (.Subscript o i pos) X.env v=(do
   let j ←nZ [v] (eval o X.env)
   let z ←nZ [v,j] (eval i X.env)
   standAt pos
   nZ [v,j,z] (setItem j z v)
   release [v,j,z] []):=by intro _;rfl):PG X (.Subscript o i pos) (EW B C t):=by
 intro a s b H v u Q I r h;rw[m];refine ay (dF (aF (ho a s b H _ I h) λj d ⟨x,D,q,f,l⟩=>?_));refine ay (dF (aF (hi a d b D _ q l) λz c ⟨y,A,p,e,k⟩=>?_));refine ay (fS (ay (dF (aF (hs a c b A x y v j z u _ p f e r k) λ_ E ⟨w,n,g⟩=>?_))));exact wpAny_release ⟨b,w,n,g⟩
noncomputable def B6 (b:TE)(g:TG):TS:=λD a H=>b a H λx c=>g x a c D.nx
theorem U1{e:ap}(he:PE X e j)(i:PG X tg g)(hs:rO [tg] e pos.line X.env=pure ag:=by rfl)(hw:rN [tg] e X.env=pure af:=by rfl)
  (h1:(f8 [tg] X.env).map (·.2)=[hX tg X.env]:=by rfl):PS X (.Assign [tg] e pos) (B6 j g):=by
 intro a s b H D I h;refine wpAny_Assign_stores (aF (he a s b H _ I h) λv c ⟨x,l,k,d,f⟩=>?_) hs hw;rw[h1];exact aF (i a c b l x v _ k d f) λ_ m q=>q
theorem LL{b:TE}(hN:X.N.Nodup)(hi:X.N[i]?=aa x)(g:Loc X.env.scope x)(he:PE X e b)(hs:gX e (aa (.Name x j)) pos.line X.env=pure ag:=by rfl)(hf:X.fn x=ae\/X.env.scope.names.lookup x=aa .local:=by first|exact .inl rfl|exact .inr rfl|assumption) :
  PS X (.Assign [.Name x j] e pos) (B6 b (Uj i)):=by
 intro a s c H D I h;refine wpAny_Assign_Name (aF (he a s c H _ I h) λv o ⟨y,m,l,d,f⟩=>?_) hs;exact uy l hN hi g d (λn k=>⟨_,m,k,f⟩) hf
noncomputable def HC(c:TT)(tb:TS):TS:=λD a H=>∃W:Nat->St->Hp->Prop,(∃m,W m a H)/\∀m a H,W m a H->
 c a H λb f=>if b=ae then ∃N:St->Hp->Prop,(∀d g,N d g->∃e,e<m/\W e d g)/\tb {D with nx:=N,ct:=N,bk:=D.nx} a f else D.nx a f
theorem XU{body:List aV}(r:mJ (aC X.prog X.w) X.A X.env X.xe)(hc:PT X c G)(hb:fw X body tb):PS X (.While c body [] pos) (HC G tb):=by
 intro d s B H D I h;obtain⟨W,⟨L,E⟩,turn⟩:=h;refine wpAny_While (codeAny_whileLoop (λn K=>∃g z,Inv X d g z K/\W n g z) ?_ L ⟨B,H,I,E⟩);rintro n J ⟨e,y,M,C⟩;refine ly r (aF (hc d J e y _ M (turn n e y C)) λb F ⟨x,u,k⟩=>?_);cases b with
 |true=>
  obtain⟨N,t,k⟩:=k;rw[if_pos rfl];refine ly r (aF (hb d F e x _ u k) λf O j=>?_);cases f with
  |next=>
   obtain⟨a,i,q,m⟩:=j;obtain⟨o,p,l⟩:=t a i m;exact⟨o,p,a,i,q,l⟩
  |cont=>
   obtain⟨a,i,q,m⟩:=j;obtain⟨o,p,l⟩:=t a i m;exact⟨o,p,a,i,q,l⟩
  |brk=>exact j
  |ret v=>exact j
 |false=>
  rw[if_neg d7];exact oB ⟨e,x,u,k⟩
end
structure It where
 go:Nat->Hp->Prop
 yld:Nat->Hp->V->Hp->Prop
 stop:Nat->Hp->Prop
noncomputable def Q3 (X:Cx)(a:List (ak×bj))(H:Hp)(b:ak):Prop:=
 H b=af/\b≠X.env.locals/\b∉X.fs/\(b∈X.ex\/X.s₀.heap.objs.size<=b)/\(∀x c,X.env.cells.lookup x=aa c->c≠b)/\∀p∈X.pn++a,p.1≠b
theorem Inv.fpOk{X:Cx}{a:St}{H:Hp}{b:ak}(I:Inv X j a H s)(hb:s.heap.objs.size<=b)(f:u b=af):Q3 X j u b:=by
 refine⟨f,fP (cz I.lt hb),I.nofs hb,.inr (cf I.sz hb),λx c e z=>?_,λp d z=>?_⟩
 .obtain⟨v,q⟩:=I.cell x c e;exact absurd (cz q.lt (z▸hb)) (g6 _)
 .exact absurd (cz (bz (I.pin p d).1) (z▸hb)) (g6 _)
structure dU(P:Program)(w:World)(K:PySem.W.Frag)(tg:ap)(J:It)(fp:List ak)(it:ak)(tn:Nat->aG->Prop):Prop where
 mem:it∈fp
 obj:∀i h,tn i h->∀b∈fp,∃o,h.get? b=aa o/\∀v,o.data≠.cell v
 keep:∀i h h',tn i h->(∀b∈fp,∀o,h.get? b=aa o->h'.get? b=aa o)->tn i h'
 item:∀(X:Cx),X.prog=P->X.w=w->X.K=K->X.calm=ae->∀(i:Nat) (pins:List (ak×bj)) (s:aJ) (σ:St) (H:Hp) (E:ai->aJ->Prop),Inv X pins σ H s->(∀b∈fp,Q3 X pins H b)->tn i s.heap->J.go i H->
  aA (aC P w) X.A (pyNext (.ref it)) (λr s1=>∃u,r=aa u/\
   aA (aC P w) X.A (m4 tg (.ref it) u) (λ_ s2=>∃x H',Inv X pins σ H' s2/\RelV x u/\J.yld i H x H'/\tn (i+1) s2.heap/\∀b∈fp,H' b=af) E s1) E s
 done:∀(X:Cx),X.prog=P->X.w=w->X.K=K->X.calm=ae->∀(i:Nat) (pins:List (ak×bj)) (s:aJ) (σ:St) (H:Hp) (E:ai->aJ->Prop),Inv X pins σ H s->(∀b∈fp,Q3 X pins H b)->tn i s.heap->J.stop i H->
  aA (aC P w) X.A (pyNext (.ref it)) (λr s1=>r=af/\Inv X pins σ H s1) E s
 self:∀(A:eF) (i:Nat) (s:aJ) (Q:ai->aJ->Prop) (E:ai->aJ->Prop),tn i s.heap->Q (.ref it) s->aA (aC P w) A (lM (.ref it)) Q E s
noncomputable abbrev TI:=St->Hp->(It->Hp->Prop)->Prop
noncomputable def nO (X:Cx)(a:List (ak×bj))(h:St)(tg:ap)(R:It->Hp->Prop)(c:ai)(f:aJ):Prop:=
 ∃(it:ak) (g:List ak) (e:Nat->aG->Prop) (J:It) (d:Hp),c=.ref it/\Inv X a h d f/\dU X.prog X.w X.K tg J g it e/\e 0 f.heap/\(∀b∈g,Q3 X a d b)/\R J d
noncomputable def PI (X:Cx)(tg iter:ap)(c:TI):Prop:=
 ∀(a:List (ak×bj)) (s:aJ) (b:St) (H:Hp) (R:It->Hp->Prop),Inv X a b H s->c b H R->
  aA (aC X.prog X.w) X.A (eval iter X.env) (λv d=>aA (aC X.prog X.w) X.A (lM v) (nO X a b tg R) X.xe d) X.xe s
theorem uv(ho:s.heap.get? it=aa o)(hc:o.cls=.type n)(hd:o.data=.fields vs)
    (b:["enumerate", "zip", "dict_itemiterator", "dict_reverseitemiterator", "odict_iterator", "itertools.zip_longest", "itertools.pairwise"].contains n=ag) (a:Q () s):aA M A (m4 tg (.ref it) u) Q E s:=by
  unfold m4
  cases tg <;> first
    |exact aU a
    | (cases u <;> first
        |exact aU a
        | (refine ay (wpAny_load ho ?_)
           rw[hc, hd]
           show aA M A (if (["enumerate", "zip", "dict_itemiterator", "dict_reverseitemiterator", "odict_iterator", "itertools.zip_longest", "itertools.pairwise"].contains n&&vs[0]? == aa (cI _))=ae then _ else _) Q E s
           rw[if_neg (by intro h;rw[b, Bool.false_and] at h;injection h)]
           exact aU a))
noncomputable def DF (K:bc)(a:ak):It:=
 ⟨λi H=>∃xs x,eJ K H a xs/\xs[i]?=aa x,λi H x b=>b=H/\∀xs,eJ K H a xs->xs[i]?=aa x,λi H=>∃xs,eJ K H a xs/\xs.length<=i⟩
noncomputable def NC (lo:Int)(n:Nat):It:=⟨λi _=>i<n,λi H x a=>a=H/\x=.int (lo+i),λi _=>n<=i⟩
theorem Zk{P:bL}{K:bc}(a it:ak):dU P w K tg (DF K a) [it] it (λi h=>h.IsListIter it a i) where
 mem:=by simp
 obj:=λi h st b f=>by
  have e:b=it:=by simpa using f
  subst e;obtain⟨o,e,c,d⟩:=st;exact⟨o,e,λv z=>by rw[d] at z;injection z⟩
 keep:=λi h B st k=>st.at λo e=>k it sC o e
 item:=by
  intro X y hw A L i j s M H E I m st t;subst y hw A;obtain⟨xs,x,l,r⟩:=t;obtain⟨q,n,p,Q⟩:=I.list l;obtain⟨u,S,O⟩:=n.get r;obtain⟨J,G,T,F,D,C⟩:=m it sC;refine wpAny_pyNext_list_item st p.isList (x:=u) (by simpa using S) λB g N=>?_;have U:=I.turned (t':=s.toks) (λb o f e=>(N.2 b f).trans e) J G F D C;obtain⟨o,e,c,d⟩:=id g;exact⟨u,rfl,uv (s:={s with heap:=B}) e c d dC ⟨x,H,U,O,⟨rfl,λV R=>I.list_inj R l▸r⟩,g,λb f=>(m b f).1⟩⟩
 done:=by
  intro X y hw A L i j s M H E I m st t;subst y hw A;obtain⟨xs,l,r⟩:=t;obtain⟨q,n,p,Q⟩:=I.list l;obtain⟨J,G,T,F,D,C⟩:=m it sC;have Y:=n.length;exact wpAny_pyNext_list_end (I.ok.hd L) st p.isList (by simp;lia) λB eb=>⟨rfl,I.turned (t':=s.toks) (λb o f e=>eb b o f e) J G F D C⟩
 self:=λ_ _ _ _ _ st h=>wpAny_pyIter_listiter st h
section
variable {X:Cx}{tg:ap}
noncomputable def Wx(c:TA):TI:=λa H R=>c a H λb d=>∃i j:Int,b=[.int i,.int j]/\(-(2 ^ 62)<=i/\i<2 ^ 62 /\ -(2 ^ 62)<=j/\j<2 ^ 62)/\R (NC i (j-i).toNat) d
noncomputable def FQ (f:TI)(g:TG)(tb:TS):TS:=λD a H=>f a H λJ j=>∃W:Nat->Nat->St->Hp->Prop,(∃m,W 0 m a j)/\∀i m a H,W i m a H->
 (J.stop i H/\D.nx a H)\/(J.go i H/\∃N:St->Hp->Prop,(∀b c,N b c->∃e,e<m/\W (i+1) e b c)/\∀x c,J.yld i H x c->g x a c λd h=>tb {D with nx:=N,ct:=N,bk:=D.nx} d h)
noncomputable def ym(a:List ak)(h:aG):List (ak×bj):=a.filterMap λb=>(h.get? b).map λo=>(b,o)
theorem vA(hb:b∈j)(e:h.get? b=aa o):(b,o)∈ym j h:=lp.mpr ⟨b,hb,by rw[e];rfl⟩
theorem JU(a:p∈ym j h):p.1∈j/\h.get? p.1=aa p.2:=by
 obtain⟨b,c,e⟩:=lp.mp a;cases q:h.get? b with
 |none=>rw[q] at e;exact z9 e
 |some o=>
  rw[q] at e;have d:=aZ e;subst d;exact⟨c,q⟩
theorem Inv.pinned{c:St}(I:Inv X j c H s)(hf:∀b∈u,Q3 X j H b)(ho:∀b∈u,∃o,s.heap.get? b=aa o/\∀v,o.data≠.cell v):Inv X (j++ym u s.heap) c H s:=
 I.pins_of λp f=>(bf.mp f).elim (λz=>I.pin p (cD _ z)) λz=>by
  obtain⟨hb,e⟩:=JU z;obtain⟨f0,h,g,_⟩:=hf p.1 hb;obtain⟨o,a,d⟩:=ho p.1 hb;rw[e] at a;(replace a:=zo a;subst a);exact⟨e,f0,h,g,d⟩
theorem Inv.unpinned{a:St}(I:Inv X (j++pl) a H s):Inv X j a H s:=I.pins_of λp b=>I.pin p (cD _ (c_ _ b))
theorem LJ{body:List aV}{tb:TS}(F:mJ (aC X.prog X.w) X.A X.env X.xe)(hc:X.calm=ae)(hi:PI X tg iter wi)(hg:PG X tg g)(hb:fw X body tb)
  (hs:∀x,iQ iter X.env x=pure x:=by intro _;rfl):PS X (.For tg iter body [] pos) (FQ wi g tb):=by
 intro c s U H D I h;refine wpAny_For (aF (hi c s U H _ I h) λv s1 h1=>aF h1 λitv s2 h2=>?_) hs;obtain⟨it,K,V,J,H2,e,I2,T,O,f2,W,⟨m0,w0⟩,turn⟩:=h2;subst e;have l:∀{t:Hp},(∀b∈K,t b=af)->∀b∈K,Q3 X c t b:=λhn b hb=>⟨hn b hb,(f2 b hb).2⟩;refine codeAny_forLoop_any (λn s'=>∃i k t,Inv X c k t s'/\V i s'.heap/\(∀b∈K,t b=af)/\W i n k t) ?_ m0 ⟨0,U,H2,I2,O,λb hb=>(f2 b hb).1,w0⟩;rintro n Z ⟨i,j,L,I3,C,G,w3⟩;rcases turn i n j L w3 with⟨B,qn⟩|⟨go,N,hN,step⟩
 .refine ly F (aF (T.done X rfl rfl rfl hc i c Z j L X.xe I3 (l G) C B) λr s4 ⟨Q,I4⟩=>?_);subst Q;exact oB ⟨j,L,I4,qn⟩
 .refine ly F (aF (T.item X rfl rfl rfl hc i c Z j L X.xe I3 (l G) C go) λr s4 ⟨u,Q,h4⟩=>?_);subst Q;refine ly F (aF h4 λ_ Y ⟨x,H5,I5,r5,y5,z,R⟩=>?_);have S:=I5.pinned (l R) (T.obj _ _ z);refine ly F (aF (hg _ Y j H5 x u _ S r5 (step x H5 y5)) λ_ s6 ⟨M,H6,I6,q6⟩=>?_);refine ly F (aF (hb _ s6 M H6 _ I6 q6) λf P y=>?_);have again:∀{a:St}{q:Hp},Inv X (c++ym K Y.heap) a q P->N a q->∃m,m<n/\∃i k t,Inv X c k t P/\V i P.heap/\(∀b∈K,t b=af)/\W i m k t:=λ{a q} p E=>by
   obtain⟨m',hm,w7⟩:=hN a q E;refine⟨m',hm,i+1,a,q,p.unpinned,T.keep _ _ _ z λb hb o e=>(p.pin (b,o) (cD _ (cD _ (vA hb e)))).1,λb hb=>?_,w7⟩;obtain⟨o,e,d⟩:=T.obj _ _ z b hb;exact (p.pin (b,o) (cD _ (cD _ (vA hb e)))).2.1
  cases f with
  |next=>obtain⟨a,q,p,E⟩:=y;exact again p E
  |cont=>obtain⟨a,q,p,E⟩:=y;exact again p E
  |brk=>obtain⟨a,q,p,y⟩:=y;exact⟨a,q,p.unpinned,y⟩
  |ret v=>obtain⟨x7,a,q,p,r7,y⟩:=y;exact⟨x7,a,q,p.unpinned,r7,y⟩
end
noncomputable abbrev R2:=V->V->Hp->VK->Prop
noncomputable def dX (X:Cx)(f:ai->ai->Sem ai)(r:R2):Prop:=
 ∀(a:List (ak×bj)) (s:aJ) (b:St) (H:Hp) (x y:V) (v u:ai) (Q:VK),Inv X a b H s->RelV x v->RelV y u->r x y H Q->
  aA (aC X.prog X.w) X.A (f v u) (EP X a b Q) X.xe s
noncomputable def DA (X:Cx)(f:ai->Sem ai)(r:V->Hp->VK->Prop):Prop:=
 ∀(a:List (ak×bj)) (s:aJ) (b:St) (H:Hp) (x:V) (v:ai) (Q:VK),Inv X a b H s->RelV x v->r x H Q->
  aA (aC X.prog X.w) X.A (f v) (EP X a b Q) X.xe s
noncomputable def Qx(X:Cx)(f:ai)(r:List V->Hp->VK->Prop):Prop:=
 ∀(a:List (ak×bj)) (s:aJ) (b:St) (H:Hp) (xs:List V) (c:List ai) (Q:VK),Inv X a b H s->aE xs c->r xs H Q->
  aA (aC X.prog X.w) X.A (call f c) (EP X a b Q) X.xe s
noncomputable def rI (C:Int->Int->Prop)(g:Int->Int->V):R2:=λx y H Q=>∃i j,x=.int i/\y=.int j/\C i j/\Q (g i j) H
noncomputable def iY (g:Int->Int->V):R2:=λx y H Q=>∃i j,x=.int i/\y=.int j/\Q (g i j) H
noncomputable def rU (g:Int->V):V->Hp->VK->Prop:=λx H Q=>∃i,x=.int i/\Q (g i) H
section
variable {X:Cx}
theorem pG{g:Int->Int->Int}
  (rule:∀(i j:Int) (t u:Tok) (s:aJ) (Q:ai->aJ->Prop) (E:ai->aJ->Prop),C i j->Q (.int (g i j) s.toks) {s with toks:=s.toks+1}->aA (aC X.prog X.w) X.A (f (.int i t) (.int j u)) Q E s) :
  dX X f (rI C λi j=>.int (g i j)):=by
 intro a s k H x y v u Q I d c h;obtain⟨i,j,rfl,rfl,e,q⟩:=h;obtain⟨t,rfl⟩:=d;obtain⟨b,rfl⟩:=c;exact rule i j t b s _ _ e ⟨.int (g i j),H,I.tok _,⟨_,rfl⟩,q⟩
theorem Cs{g:Int->Int->Int}
  (rule:∀(i j:Int) (t u:Tok) (s:aJ) (Q:ai->aJ->Prop) (E:ai->aJ->Prop),Q (.int (g i j) s.toks) {s with toks:=s.toks+1}->aA (aC X.prog X.w) X.A (f (.int i t) (.int j u)) Q E s) :
  dX X f (iY λi j=>.int (g i j)):=by
 intro a s e H x y v u Q I d c h;obtain⟨i,j,rfl,rfl,q⟩:=h;obtain⟨t,rfl⟩:=d;obtain⟨b,rfl⟩:=c;exact rule i j t b s _ _ ⟨.int (g i j),H,I.tok _,⟨_,rfl⟩,q⟩
theorem pD{g:Int->Int->Bool}
  (rule:∀(i j:Int) (t u:Tok) (s:aJ) (Q:ai->aJ->Prop) (E:ai->aJ->Prop),Q (.bool (g i j)) s->aA (aC X.prog X.w) X.A (f (.int i t) (.int j u)) Q E s) :
  dX X f (iY λi j=>.bl (g i j)):=by
 intro a s e H x y v u Q I d c h;obtain⟨i,j,rfl,rfl,q⟩:=h;obtain⟨t,rfl⟩:=d;obtain⟨b,rfl⟩:=c;exact rule i j t b s _ _ ⟨.bl (g i j),H,I,rfl,q⟩
noncomputable def Fm(i j:Int):Prop:=0<=j/\j<=1000000/\i.natAbs<2 ^ 64
noncomputable def iH(i j:Int):Prop:=(-(2 ^ 64)<i/\i<2 ^ 64)\/(-(2 ^ 64)<j/\j<2 ^ 64)
theorem iH.ok(h:iH i j):IntMulOk i j:=by
 rcases h with⟨h1,h2⟩|⟨h1,h2⟩
 .exact .of_left (intBits_le_64 h1 h2)
 .exact .of_right (intBits_le_64 h1 h2)
theorem LC:dX X (ib .Add) (iY λi j=>.int (i+j)):=Cs λ_ _ _ _ _ _ _ q=>add_int q
theorem Hw:dX X (ib .Sub) (iY λi j=>.int (i-j)):=Cs λ_ _ _ _ _ _ _ q=>sub_int q
theorem Iq:dX X (ib .Mult) (rI iH λi j=>.int (i*j)):=pG λ_ _ _ _ _ _ _ a q=>mul_int q a.ok
theorem Lu:dX X (ib .Mod) (rI (λ_ j=>0<j) λi j=>.int (i % j)):=pG λi j _ _ _ _ _ a q=>by
 have b:=a;exact mod_int' (by lia) (by rw[Int.fmod_eq_emod_of_nonneg i (by lia)];exact q)
theorem LO:dX X (ib .Pow) (rI Fm λi j=>.int (i ^ j.toNat)):=pG λ_ _ _ _ _ _ _ a q=>pow_int_small a.1 a.2.1 a.2.2 q
theorem M6{g:Int->Int}
  (rule:∀(i:Int) (t:Tok) (s:aJ) (Q:ai->aJ->Prop) (E:ai->aJ->Prop),Q (.int (g i) s.toks) {s with toks:=s.toks+1}->aA (aC X.prog X.w) X.A (f (.int i t)) Q E s) :
  DA X f (rU λi=>.int (g i)):=by
 intro a s c H x v Q I b h;obtain⟨i,rfl,q⟩:=h;obtain⟨t,rfl⟩:=b;exact rule i t s _ _ ⟨.int (g i),H,I.tok _,⟨_,rfl⟩,q⟩
theorem LH:DA X (unaryOp .USub) (rU λi=>.int (-i)):=M6 λ_ _ _ _ _ q=>neg_int q
end
noncomputable def pj:V->V->Bool
 |.n,.n=>ae|.n,.int _=>ae|.int _,.n=>ae|.n,.bl _=>ae|.bl _,.n=>ae|.n,.str _=>ae|.str _,.n=>ae
 |.int _,.int _=>ae|.bl _,.bl _=>ae|.str _,.str _=>ae|.byt _,.byt _=>ae
 |.int _,.str _=>ae|.str _,.int _=>ae|.bl _,.str _=>ae|.str _,.bl _=>ae
 |_,_=>ag
noncomputable def Nd:R2:=λx y H Q=>pj x y=ae/\Q (.bl (decide (x=y))) H
noncomputable def Nc:R2:=λx y H Q=>pj x y=ae/\Q (.bl (!decide (x=y))) H
theorem JM:decide (V.int i=V.int j)=(i==j):=by
 rw[mZ];simp
theorem Ua:decide (V.bl i=V.bl j)=(i==j):=by
 rw[mZ];simp
theorem Jd:decide (V.str i=V.str j)=(i==j):=by
 rw[mZ];simp
theorem Jl:decide (V.byt i=V.byt j)=(i.toList==j.toList):=by
 rw[mZ];cases i;cases j;simp
section
variable {X:Cx}{b:ap}
theorem zv{a:St}{k b:Bool}(I:Inv X j a H s)(q:Q (.bl k) H)(e:k=b):EP X j a Q (.bool b) s:=by
 subst e;exact⟨.bl k,H,I,rfl,q⟩
theorem G5:dX X (dN .Eq) Nd:=by
 intro e s f H x y v u Q I d a h;obtain⟨c,q⟩:=h;cases x with
 |n=>
  subst d;cases y with
  |n=>subst a;exact Em (zv I q sC)
  |bl j=>subst a;exact El (zv I q sC)
  |int j=>obtain⟨b,rfl⟩:=a;exact D8 (zv I q sC)
  |str j=>obtain⟨b,rfl⟩:=a;exact D7 (zv I q sC)
  |_=>exact absurd (show ag=ae from c) d7
 |bl i=>
  subst d;cases y with
  |n=>subst a;exact Ek (zv I q sC)
  |bl j=>subst a;exact eq_bool (zv I q Ua)
  |str j=>obtain⟨b,rfl⟩:=a;exact Ej (zv I q sC)
  |_=>exact absurd (show ag=ae from c) d7
 |int i=>
  obtain⟨t,rfl⟩:=d;cases y with
  |n=>subst a;exact D6 (zv I q sC)
  |int j=>obtain⟨b,rfl⟩:=a;exact eq_int (zv I q JM)
  |str j=>obtain⟨b,rfl⟩:=a;exact DX (zv I q sC)
  |_=>exact absurd (show ag=ae from c) d7
 |str i=>
  obtain⟨t,rfl⟩:=d;cases y with
  |n=>subst a;exact DW (zv I q sC)
  |bl j=>subst a;exact Ei (zv I q sC)
  |int j=>obtain⟨b,rfl⟩:=a;exact DV (zv I q sC)
  |str j=>obtain⟨b,rfl⟩:=a;exact eq_str (zv I q Jd)
  |_=>exact absurd (show ag=ae from c) d7
 |byt i=>
  obtain⟨t,rfl⟩:=d;cases y with
  |byt j=>obtain⟨b,rfl⟩:=a;exact PySem.W.eq_bytes (zv I q Jl)
  |_=>exact absurd (show ag=ae from c) d7
 |_=>cases y<;>exact absurd (show ag=ae from c) d7
theorem Fq:dX X (dN .NotEq) Nc:=by
 intro e s f H x y v u Q I d a h;obtain⟨c,q⟩:=h;cases x with
 |n=>
  subst d;cases y with
  |n=>subst a;exact Eh (zv I q sC)
  |bl j=>subst a;exact Eg (zv I q sC)
  |int j=>obtain⟨b,rfl⟩:=a;exact DU (zv I q sC)
  |str j=>obtain⟨b,rfl⟩:=a;exact DT (zv I q sC)
  |_=>exact absurd (show ag=ae from c) d7
 |bl i=>
  subst d;cases y with
  |n=>subst a;exact Ef (zv I q sC)
  |bl j=>subst a;exact ne_bool (zv I q (congrArg not Ua))
  |str j=>obtain⟨b,rfl⟩:=a;exact Ee (zv I q sC)
  |_=>exact absurd (show ag=ae from c) d7
 |int i=>
  obtain⟨t,rfl⟩:=d;cases y with
  |n=>subst a;exact DS (zv I q sC)
  |int j=>obtain⟨b,rfl⟩:=a;exact ne_int (zv I q (congrArg not JM))
  |str j=>obtain⟨b,rfl⟩:=a;exact DR (zv I q sC)
  |_=>exact absurd (show ag=ae from c) d7
 |str i=>
  obtain⟨t,rfl⟩:=d;cases y with
  |n=>subst a;exact DQ (zv I q sC)
  |bl j=>subst a;exact D_ (zv I q sC)
  |int j=>obtain⟨b,rfl⟩:=a;exact DO (zv I q sC)
  |str j=>obtain⟨b,rfl⟩:=a;exact ne_str (zv I q (congrArg not Jd))
  |_=>exact absurd (show ag=ae from c) d7
 |byt i=>
  obtain⟨t,rfl⟩:=d;cases y with
  |byt j=>obtain⟨b,rfl⟩:=a;exact PySem.W.ne_bytes (zv I q (congrArg not Jl))
  |_=>exact absurd (show ag=ae from c) d7
 |_=>cases y<;>exact absurd (show ag=ae from c) d7
theorem FA:dX X (dN .Lt) (iY λi j=>.bl (decide (i<j))):=pD λ_ _ _ _ _ _ _ q=>lt_int q
theorem GP:dX X (dN .LtE) (iY λi j=>.bl (decide (i<=j))):=pD λ_ _ _ _ _ _ _ q=>le_int q
theorem GU:dX X (dN .Gt) (iY λi j=>.bl (decide (j<i))):=pD λ_ _ _ _ _ _ _ q=>gt_int q
theorem Fy:dX X (dN .GtE) (iY λi j=>.bl (decide (j<=i))):=pD λ_ _ _ _ _ _ _ q=>ge_int q
theorem KP:dX X (dN .In) (λx y H Q=>∃i j,x=.str i/\y=.str j/\Q (.bl (!(sX j i 0 j.length 1).isEmpty)) H):=by
 intro a s d H x y v u Q I c b h;obtain⟨i,j,rfl,rfl,q⟩:=h;obtain⟨t,rfl⟩:=c;obtain⟨e,rfl⟩:=b;exact in_str (zv I q rfl)
theorem IM:dX X (dN .Is) (λx y H Q=>y=.n/\Q (.bl (decide (x=.n))) H):=by
 intro b s d H x y v u Q I a c h;obtain⟨rfl,q⟩:=h;subst c;refine is_none_gen (zv I q ?_)
 cases x<;>first
  |(cases a;rfl)
  |(obtain⟨t,rfl⟩:=a;rfl)
theorem UC:dX X (dN .IsNot) (λx y H Q=>y=.n/\Q (.bl (!decide (x=.n))) H):=by
 intro b s d H x y v u Q I a c h;obtain⟨rfl,q⟩:=h;subst c;refine isnot_none_gen (zv I q ?_)
 cases x<;>first
  |(cases a;rfl)
  |(obtain⟨t,rfl⟩:=a;rfl)
theorem Yg(b:ap)(h:op≠.In:=by decide)(h2:op≠.NotIn:=by decide):rM op b=ag:=by
 have c:(op==CmpOp.In)=ag:=by cases op<;>first|rfl|exact absurd rfl h
 have a:(op==CmpOp.NotIn)=ag:=by cases op<;>first|rfl|exact absurd rfl h2
 cases b<;>simp[rM,c,a]
theorem ZV:(sizeLine:Nat)<2 ^ 63:=by rw[db];decide
theorem vals1(r:aE [x] us):∃u,us=[u]/\RelV x u:=by
 cases r with
 |cons b a=>cases a;exact⟨_,rfl,b⟩
theorem vals2(r:aE [x,y] us):∃u j,us=[u,j]/\RelV x u/\RelV y j:=by
 cases r with
 |cons d c=>
  cases c with
  |cons b a=>cases a;exact⟨_,_,rfl,d,b⟩
theorem ZM:Qx X (.type "int") (λxs H Q=>(∃i,xs=[.int i]/\Q (.int i) H)\/∃k,xs=[.bl k]/\Q (.int (if k then 1 else 0)) H):=by
 intro a s c H xs d Q I r h;rcases h with⟨i,rfl,q⟩|⟨k,rfl,q⟩
 .obtain⟨u,rfl,t,rfl⟩:=vals1 r;exact call_int_int ⟨.int i,H,I,⟨_,rfl⟩,q⟩
 .obtain⟨u,rfl,b⟩:=vals1 r;subst b;exact call_int_bool ⟨.int (if k then 1 else 0),H,I.tok _,⟨_,rfl⟩,q⟩
end
structure e_(h:aG)(x dx C:ak)(mA:ao->Option ai):Prop where
 obj:h.get? x=aa (iU C dx)
 ns:h.Ns1 dx mA
 ne:dx≠x
set_option tactic.hygienic true in
theorem Zp{h:aG}(n:h.Ns1 u s):∃j,h.get? u=aa j/\∀name,oN name j=aa (s name):=by
 obtain⟨o,c,l,f,hd,i,_,g⟩:=n;refine⟨o,f,λname=>?_⟩;have e:=g name;unfold nsFind findBy at e;rw[<-A2] at e;unfold oN;rw[hd];dsimp only;split
 .rename_i y q;rw[q] at e;exact congrArg aa e
 .rename_i q;rw[q] at e;have a:c.toList.any (·.refKey)=ag:=by
   rw[sE];intro y d;obtain⟨z,t,b⟩:=i y (BH.mp d);simp[DictEntry.refKey,b]
  have k:¬c.toList.any (·.refKey)=ae:=a▸d7;rw[if_neg k];exact congrArg aa e
theorem e_.look(I:e_ h x u C s):∃j,sv h x (iU C u) C (aa j)/\∀name,oN name j=aa (s name):=
 let ⟨j,ho,a⟩:=Zp I.ns
 ⟨j,⟨I.obj,rfl,rfl,ho⟩,a⟩
section
variable {prog:Program}{w:World}{A:Around}{E:ai->Shared->Prop}{s:Shared}{K:PySem.W.Frag}{x dx C f:ak}{mA:ao->Option ai}{name:ao}{v:ai}
theorem iw(X:K.In s.heap)(I:e_ s.heap x dx C mA)(e:m6 K C name=ae)(d:lx K C=ae)
  (f:cP K (.ref C) name=aa af) (b:mA name=aa v) (a:rE v=ae) (h:Q v {s with toks:=s.toks+1}) :
  aA (aC prog w) A (nY (.ref x) name j) Q E s:=by
 obtain⟨g,J,c⟩:=I.look;exact PySem.W.get_value X J (mX e).1 (Bn d f rfl (by rw[c,b])) a h
theorem XC(X:K.In s.heap)(I:e_ s.heap x dx C mA)(a:m6 K C name=ae)
  (hf:cP K (.ref C) name=aa (aa (.ref f))) (ht:rY K (.ref f)=ae) (c:mA name=af) (h:Q (.ref f,[.ref x]) s) :
  aA (aC prog w) A (p_ (.ref x) name pl) Q E s:=by
 obtain⟨b,J,d⟩:=I.look;exact PySem.W.method_fn X J (mX a).1 (mX a).2 hf (beq_iff_eq.mp ht) (by show (oN name b).map (·.isSome)=aa ag;rw[d,c];rfl) h
theorem Mi(X:K.In s.heap)(I:e_ s.heap x dx C mA)
  (hs:cP K (.ref C) "__setattr__"=aa (aa (.builtin "object.__setattr__"))) (l:sD K C=ae) (ht:r_ K C name=aa af) (m:lx K C=ae)
  (hw:rZ mA ns) (k:ns.length<=sizeLine)
  (h:∀h',e_ h' x dx C (λy=>if y=name then aa v else mA y)->eT dx s.heap h'->Q () {s with heap:=h',toks:=s.toks+2}) :
  aA (aC prog w) A (setAttr (.ref x) name v) Q E s:=by
 obtain⟨q,J,u⟩:=I.look;refine Bg X J hs (PySem.W.osa_open (s:={s with toks:=s.toks+1}) (r:=af) X J l ht λb=>?_);obtain⟨cd,n,g⟩:=sj m;have j:=I.obj;refine ay (aU (ay (ay (wpAny_loadPart j (ay (l_ (s:={s with toks:=s.toks+1}) (sN X n) ?_))))));rw[g];refine aU (a:=aa dx) (ay (aU (ay ?_)));refine wpAny_nsSet1 (s:={s with toks:=s.toks+1}) I.ns λh' d c=>?_;obtain⟨t,o,p,e,f,i⟩:=d.count (Ab name v hw);refine ay (AL e (f▸AK (cf i (by rw[eG];lia))) ?_);exact aU (h _ ⟨(c.2 _ (bd I.ne)).trans I.obj,d,I.ne⟩ c)
theorem Wy{R:Result->aJ->Prop}(X:K.In s.heap)(b:rk K C=ae)
  (hi:cP K (.ref C) "__init__"=aa (aa (.ref f))) (hf:rD K (.ref f)=aa (.type "function"))
  (h:fC (aC prog w) (A.under (.builtin "type.__call__" ⟨.ref C::vs,j⟩)) (.call (.ref f) ⟨.ref (s.heap.objs.size+1)::vs,j⟩) (PySem.W.InitBack (s.heap.objs.size+1) R)
   {s with heap:=(s.heap.push ik).push (iU C s.heap.objs.size)}) :
  fC (aC prog w) A (.call (.ref C) ⟨vs,j⟩) R s:=by
 obtain⟨c,g,d,t,os⟩:=s;exact PySem.W.make_core (PySem.W.makes_of X b) (ou X hi) (λa=>PySem.W.bind_fn X a hf) (.inl rfl) h
end
noncomputable def vb (f:ao)(v:V):List (ao×V)->List (ao×V)
 |[]=>[(f,v)]
 |(g,x)::r=>if g=f then (g,v)::r else (g,x)::vb f v r
theorem xw(f g:ao)(v:V):∀fs:List (ao×V),(vb f v fs).lookup g=if g=f then aa v else fs.lookup g
 |[]=>by
  show g9 g [(f,v)]=_;by_cases h:g=f
  .have a:=beq_iff_eq.mpr h;simp only[g9,a,if_pos h]
  .have a:=beq_eq_false_iff_ne.mpr h;simp only[g9,a,if_neg h]
 |(k,x)::r=>by
  have c:=xw f g v r;rw[show vb f v ((k,x)::r)=(if k=f then (k,v)::r else (k,x)::vb f v r) from rfl];by_cases b:k=f
  .rw[if_pos b];by_cases h:g=k
   .have a:=beq_iff_eq.mpr h;simp only[g9,a,if_pos (h.trans b)]
   .have a:=beq_eq_false_iff_ne.mpr h;simp only[g9,a,if_neg (λe:g=f=>h (e.trans b.symm))]
  .rw[if_neg b];by_cases h:g=k
   .have a:=beq_iff_eq.mpr h;simp only[g9,a,if_neg (λe:g=f=>b (h.symm.trans e))]
   .have a:=beq_eq_false_iff_ne.mpr h;simp only[g9,a];exact c
theorem xj(f:ao)(v:V):∀fs:List (ao×V),f∈(vb f v fs).map (·.1)/\∀g,g∈fs.map (·.1)->g∈(vb f v fs).map (·.1)
 |[]=>⟨by simp[vb],λg h=>by simp at h⟩
 |(k,x)::r=>by
  obtain⟨c,b⟩:=xj f v r;rw[show vb f v ((k,x)::r)=(if k=f then (k,v)::r else (k,x)::vb f v r) from rfl];by_cases a:k=f
  .rw[if_pos a];subst a;exact⟨sC,λg h=>by simpa using h⟩
  .rw[if_neg a];refine⟨?_,λg h=>?_⟩
   .rw[cC];exact cJ _ c
   .rw[cC] at h ⊢;rcases bC.mp h with e|e
    .exact bC.mpr (.inl e)
    .exact cJ _ (b g e)
theorem xD(f:ao)(v:V):∀fs:List (ao×V),(vb f v fs).length<=fs.length+1
 |[]=>by simp[vb]
 |(k,x)::r=>by
  have b:=xD f v r;rw[show vb f v ((k,x)::r)=(if k=f then (k,v)::r else (k,x)::vb f v r) from rfl];by_cases a:k=f
  .rw[if_pos a,eG,eG];lia
  .rw[if_neg a,eG,eG];lia
theorem cq.some_of(r:cq (aa v) o):∃u,o=aa u/\RelV v u:=by
 cases o with
 |none=>exact (show False from r).elim
 |some u=>exact⟨u,rfl,r⟩
theorem cq.none_of(r:cq af o):o=af:=by
 cases o with
 |none=>rfl
 |some u=>exact (show False from r).elim
theorem ZC(r:RelV v u):rE u=ae:=by
 cases v with
 |n=>cases (show u=lV from r);rfl
 |bl b=>cases (show u=og b from r);rfl
 |int i=>obtain⟨t,e⟩:=(show ∃t,u=mK i t from r);subst e;rfl
 |str x=>obtain⟨t,e⟩:=(show ∃t,u=ra x t from r);subst e;rfl
 |byt b=>obtain⟨t,e⟩:=(show ∃t,u=Ai b t from r);subst e;rfl
 |flt b=>obtain⟨t,e⟩:=(show ∃t,u=Ah b t from r);subst e;rfl
 |ref a=>cases (show u=cG a from r);rfl
 |ty n=>cases (show u=rh n from r);rfl
section
variable {P:Program}{w:World}{H:Hp}{h:aG}{a C dx:ak}{fs:List (ao×V)}
theorem kq(hok:cM P w H h)(e:H a=aa (.ins C dx fs)):∃j,e_ h a dx C j/\(∀f,cq (fs.lookup f) (j f))/\rZ j (fs.map (·.1))/\fs.length<=1000/\H dx=aa (.own a):=by
 obtain⟨d,z,ne,ob,j,n,r,q⟩:=(show aR P w H h a (.ins C dx fs) from hok a _ e);exact⟨j,⟨ob,n,ne⟩,r,q,z,d⟩
end
structure fB(K:PySem.W.Frag)(C:ak):Prop where
 pg:m6 K C i_=ae
 hd:lx K C=ae
 po:sD K C=ae
 sa:cP K (.ref C) "__setattr__"=aa (aa (.builtin "object.__setattr__"))
theorem fB.get{K:bc}(c:fB K C)(f:ao):m6 K C f=ae:=c.pg
noncomputable def bN(K:bc)(C:ak)(f:ao):Prop:=cP K (.ref C) f=aa af
theorem bN.taker{K:bc}(n:bN K C f):r_ K C f=aa af:=by
 unfold r_;rw[show cP K (.ref C) f=aa af from n];rfl
structure nR(K:PySem.W.Frag)(C:ak)(m:ao)(f:ak):Prop where
 at_:cP K (.ref C) m=aa (aa (.ref f))
 fn:rY K (.ref f)=ae
 kp:gY K (.ref f)=ae
section
variable {X:Cx}{pins:List (ak×bj)}{σ:St}{H:Hp}{s:Shared}{a C dx:ak}{fs:List (ao×V)}{f:ao}{v:V}{A:Around}{E:ai->Shared->Prop}
theorem yy(I:Inv X pins σ H s)(e:H a=aa (.ins C dx fs))(c:fB X.K C)(n:bN X.K C f)(l:fs.lookup f=aa v)
  (h:∀u j,Inv X pins σ H j->RelV v u->Q u j):aA (aC X.prog X.w) A (nY (.ref a) f b) Q E s:=by
 obtain⟨g,O,r,_,_,_⟩:=kq I.hok e;obtain⟨u,i,d⟩:=cq.some_of (v:=v) (o:=g f) (l▸r f);exact iw I.kIn O (c.get f) c.hd n i (ZC d) (h u _ (I.tok _) d)
theorem V2(I:Inv X pins σ H s)(e:H a=aa (.ins C dx fs))(c:fB X.K C)(k:nR X.K C m g)(l:fs.lookup m=af)
  (h:Q (.ref g,[.ref a]) s):aA (aC X.prog X.w) A (p_ (.ref a) m pl) Q E s:=by
 obtain⟨d,O,r,_,_,_⟩:=kq I.hok e;have b:=cq.none_of (l▸r m);exact XC I.kIn O (c.get m) k.at_ k.fn b h
theorem W_(I:Inv X pins σ H s)(e:H a=aa (.ins C dx fs))(c:fB X.K C)(n:bN X.K C f)(G:fs.length<1000)(p:RelV y u)
  (h:∀j,Inv X pins σ (upd H a (.ins C dx (vb f y fs))) j->Q () j):aA (aC X.prog X.w) A (setAttr (.ref a) f u) Q E s:=by
 obtain⟨k,O,r,i,_,l⟩:=kq I.hok e;have t:(fs.map (·.1)).length<=sizeLine:=by rw[aL,db];lia
 refine Mi I.kIn O c.sa c.po n.taker c.hd i t λD d m=>h _ ?_;have hd:∃o,D.get? dx=aa o:=let ⟨o,_,_,F,_⟩:=d.ns;⟨o,F⟩;refine I.write (x:=a) (e:=dx) (e▸eM) (.inr l) (λb q B z=>(m.2 b B).trans z) hd ?_;refine⟨z6 O.ne▸l,?_,O.ne,d.obj,_,d.ns,λg=>?_,λg v=>?_⟩
 .have:=xD f y fs;lia
 .show cq ((vb f y fs).lookup g) (if g=f then aa u else k g);rw[xw];by_cases q:g=f
  .rw[if_pos q,if_pos q];exact p
  .rw[if_neg q,if_neg q];exact r g
 .by_cases q:g=f
  .rw[q];exact (xj f y fs).1
  .refine (xj f y fs).2 g (i g λz=>v ?_);show (if g=f then aa u else k g)=af;rw[if_neg q];exact z
theorem Inv.made(I:Inv X pins σ H s):Inv X pins σ (upd (upd H s.heap.objs.size (.own (s.heap.objs.size+1))) (s.heap.objs.size+1) (.ins C s.heap.objs.size []))
  {s with heap:=(s.heap.push ik).push (iU C s.heap.objs.size)}:=by
 have c:(s.heap.push ik).get? s.heap.objs.size=aa ik:=dy s.heap rfl;have g:((s.heap.push ik).push (iU C s.heap.objs.size)).get? (s.heap.objs.size+1)=aa (iU C s.heap.objs.size):=by
  have:=dy (s.heap.push ik) (o:=iU C s.heap.objs.size) rfl;rwa[fT] at this
 have f:(s.heap.push ik).Ns s.heap.objs.size (λ_=>af):=⟨ik,#[],_,c,rfl,(λe he=>absurd he sC),λ_=>rfl⟩;have h:=I.laid (a:=s.heap.objs.size) (o:=.own (s.heap.objs.size+1)) (h':=s.heap.push ik) (t':=s.toks) (λb u q=>bv _ q) (aK _) ⟨_,c⟩;refine h.laid (a:=s.heap.objs.size+1) (o:=.ins C s.heap.objs.size []) (t':=s.toks) (λb u q=>bv _ q) (lh (fT _ _)) ?_;have ne:s.heap.objs.size≠s.heap.objs.size+1:=b_ (lz _);refine⟨by rw[z6 ne,z0],fU _,ne,g,λ_=>af,(Bf f).at λo q=>bv _ q,λ_=>eM,λy d=>absurd rfl d⟩
theorem Ji{env:Env}{e:ap}{f:ao}(hb:kw e f env (eval e env)=eval e env)
  (h:aA (aC prog w) A (eval e env) (λo j=>aA (aC prog w) A (nY o f ae) Q E j) E s):aA (aC prog w) A (eval (.Attribute e f pos) env) Q E s:=
 Attribute_any_ h (by rw[arm_eval_Attribute,hb])
end
noncomputable def E9 (K:bc)(d:TE)(f:ao):TE:=λc H Q=>d c H λx b=>∃a C e fs v,x=.ref a/\b a=aa (.ins C e fs)/\fB K C/\bN K C f/\fs.lookup f=aa v/\Q v b
noncomputable def zK (K:bc)(g e:TE)(f:ao):TS:=λD b H=>e b H λy h=>g b h λx d=>∃a C c fs,x=.ref a/\d a=aa (.ins C c fs)/\fB K C/\bN K C f/\fs.length<1000/\
 D.nx b (upd d a (.ins C c (vb f y fs)))
section
variable {X:Cx}{o e value:ap}{f:ao}{pos pos':Pos}{ta tv:TE}
theorem Lb(he:PE X e ta)(hb:kw e f X.env (eval e X.env)=eval e X.env):PE X (.Attribute e f pos) (E9 X.K ta f):=by
 intro b s d H Q I h;refine Ji hb (aF (he b s d H _ I h) λu t ⟨x,o,m,g,a,C,w,fs,v,ex,j,c,n,l,q⟩=>?_);subst ex;obtain rfl:u=cG a:=g;exact yy m j c n l λp r k i=>⟨v,o,k,i,q⟩
theorem L0(p:PE X o ta)(m:PE X value tv)(hs:gX value (aa (.Attribute o f pos')) pos.line X.env=pure ag):PS X (.Assign [.Attribute o f pos'] value pos) (zK X.K ta tv f):=by
 intro b s d H D I h;refine BV (aF (m b s d H _ I h) λu e ⟨y,z,w,g,q⟩=>aF (p b e d z _ w q) λk B ⟨x,F,v,i,a,C,E,fs,ex,r,c,n,l,j⟩=>?_) hs;subst ex;obtain rfl:k=cG a:=i;exact W_ v r c n l g λA t=>⟨d,_,t,j⟩
end
structure bE(k:Nat)(A:Around):Prop where
 hd:A.handled=af
 dp:A.depth+3*k+5<recursionLimit
 un:A.units+16*k+200<cLine
theorem bE.mono(r:bE k A)(h:j<=k):bE j A:=⟨r.hd,by have:=r.dp;lia,by have:=r.un;lia⟩
theorem bE.deeper(r:bE (k+1) A)(env:Env):bE k (A.deeper env):=
 ⟨r.hd,by have:=r.dp;show A.depth+1+3*k+5<_;lia,by have:=r.un;show A.units+3+16*k+200<_;lia⟩
theorem VA{A:eF}:(A.under (.builtin "type.__call__" ⟨.ref C::us,j⟩)).depth=A.depth+1:=by
 first|rfl|simp[rX,Code.weight,Code.isCreation,Code.isGuard,Code.isCaller,Ag,rW,guardIds]
theorem WW{A:eF}:(A.under (.builtin "type.__call__" ⟨.ref C::us,j⟩)).units=A.units+1:=by
 first|rfl|simp[rX,Code.cUnits,Ag,rW]
theorem bE.make(r:bE (k+1) A)(C:ak)(us:List ai)(a:List (ao×ai)):bE k (A.under (.builtin "type.__call__" ⟨.ref C::us,a⟩)):=
 ⟨r.hd,by have:=r.dp;rw[VA];omega,by have:=r.un;rw[WW];omega⟩
theorem bE.depth(r:bE k A):A.depth<recursionLimit:=by have:=r.dp;lia
noncomputable def Fh:TA:=λ_ H Q=>Q [] H
noncomputable def GD(c:TE)(b:TA):TA:=λa H Q=>c a H λx e=>b a e λxs d=>Q (x::xs) d
section
variable {X:Cx}{e:ap}{es:List ap}{te:TE}{t:TA}{pos:Pos}
theorem qg:PA X [] Fh:=λ_ _ _ _ H Q I h=>oS ⟨[],H,I,.nil,h⟩
theorem zF(k:PE X e te)(hr:PA X es t)(hs:cU (e::es) X.env=(ag,eval e X.env)::cU es X.env:=by rfl):PA X (e::es) (GD te t):=by
 intro b a s c H Q I h;rw[hs];show aA _ _ (spliced ((ag,eval e X.env)::dZ b (cU es X.env))) _ _ s;refine o2 (aF (k a s c H _ I h) λu d ⟨x,o,m,g,j⟩=>?_);exact aF (hr b a d c o _ m j) λp q ⟨xs,n,l,f,i⟩=>⟨x::xs,n,l,.cons g f,i⟩
noncomputable def FL (t:TA):TE:=λb H Q=>t b H λxs a=>xs.length<=sizeLine/\∀p,a p=af->Q (.ref p) (upd a p (.t xs))
noncomputable def E4 (t:TA):TE:=λb H Q=>t b H λxs a=>xs.length<=sizeLine/\∀p,a p=af->Q (.ref p) (upd a p (.l xs))
theorem Ly{x1}(h:PA X es t):PE X (.Tuple es x1 pos) (FL t):=by
 intro a s f H Q I i;refine wpAny_Tuple_spliced (aF (h pos a s f H _ I i) λg c ⟨xs,k,d,r,z,q⟩=>⟨r.length▸z,?_⟩);have j:=d.hok.fresh (aK _);refine⟨.ref c.heap.objs.size,upd k c.heap.objs.size (.t xs),d.laid (t':=c.toks) (λb u e=>bv _ e) (aK _) ?_,rfl,q _ j⟩;exact⟨z,g,r,⟨_,dy _ rfl,rfl,_,rfl⟩⟩
theorem Uq(h:PA X es t):PE X (.List es pos) (E4 t):=by
 intro a s f H Q I i;refine wpAny_List_spliced (aF (h pos a s f H _ I i) λg c ⟨xs,k,d,r,z,q⟩=>⟨r.length▸z,?_⟩);have j:=d.hok.fresh (aK _);refine⟨.ref c.heap.objs.size,upd k c.heap.objs.size (.l xs),d.laid (t':=c.toks) (λb u e=>bv _ e) (aK _) ?_,rfl,q _ j⟩;exact⟨z,g,0,r,dy _ rfl⟩
end
noncomputable abbrev Sp:=List V->Hp->VK->XK->Prop
noncomputable abbrev lI:=List Env->Hp->aJ->XK->ai->aJ->Prop
structure c8(P:Program)(w:World)(K:PySem.W.Frag)(mg:ao->Option ai)(base:aG)(A:Around)(outer:List Env)(s:Shared)(H:Hp):Prop where
 frames:A.frames=aa outer
 mod:Mod K mg base
 bs:∀b o,base.get? b=aa o->s.heap.get? b=aa o/\H b=af
 bsz:base.objs.size<=s.heap.objs.size
 funs:s.heap.FunFrames base outer
 frf:∀b∈dQ outer,H b=af
 hok:cM P w H s.heap
 bare:hY s.gens
inductive CE(outer:List Env)(P:Program)(w:World)(H:Hp)(s:Shared)(Q:VK)(u:ai)(s':Shared):Prop where
 |mk (v:V) (H':Hp) (o:s'.os=s.os) (b:hY s'.gens) (n:Un (dQ outer) [] H H' s.heap s'.heap) (k:cM P w H' s'.heap) (r:RelV v u) (q:Q v H')
noncomputable def CR (CX:lI)(outer:List Env)(P:bL)(w:dh)(H:Hp)(s:aJ)(Q:VK)(E:XK)(r:Result)(a:aJ):Prop:=
 match r with
 |.ok (.ret u)=>CE outer P w H s Q u a
 |.ok _=>False
 |.error e=>CX outer H s E e a
structure bF(P:Program)(w:World)(K:PySem.W.Frag)(mg:ao->Option ai)(base:aG)(CX:lI)(k:Nat)(f:ak)(fd:FuncData)(ps:List ao)(sp:Sp):Prop where
 len:∀vs H Q E,sp vs H Q E->vs.length=ps.length
 run:∀(A:eF) (outer:List Env) (s:aJ) (H:Hp) (args:Args) (us:List ai) (vs:List V) (Q:VK) (E:XK),bE k A->c8 P w K mg base A outer s H->i8 s fd args (ps.zip us)->aE vs us->sp vs H Q E->
  fC (aC P w) A (.call (.ref f) args) (CR CX outer P w H s Q E) s
theorem bF.imp{P:bL}{K:bc}(F:bF P w K mg base CX k f fd ps sp)
  (h:∀vs H Q E,j vs H Q E->sp vs H Q E):bF P w K mg base CX k f fd ps j:=
 ⟨λvs H Q E q=>F.len vs H Q E (h _ _ _ _ q),λA outer s H args us vs Q E hr he hb a hs=>F.run A outer s H args us vs Q E hr he hb a (h _ _ _ _ hs)⟩
theorem c8.make{P:bL}{K:bc}(e:c8 P w K mg base A outer s H)(C:ak)(us:List ai)(a:List (ao×ai)) :
  c8 P w K mg base (A.under (.builtin "type.__call__" ⟨.ref C::us,a⟩)) outer s H:=⟨by first|exact e.frames|(simpa[rX,Code.envs,rW,pushEnvs] using e.frames),e.mod,e.bs,e.bsz,e.funs,e.frf,e.hok,e.bare⟩
theorem c8.in1{P:bL}{K:bc}(e:c8 P w K mg base A outer s H) :
  c8 P w K mg base A.in1 outer s H:=⟨e.frames,e.mod,e.bs,e.bsz,e.funs,e.frf,e.hok,e.bare⟩
section
variable {X:Cx}{pins:List (ak×bj)}{σ:St}{H:Hp}{s s':Shared}
theorem Inv.env0(I:Inv X pins σ H s):c8 X.prog X.w X.K X.mg X.base X.A X.stack s H:=
 ⟨I.ok.frames,I.ok.mod,I.bs,cf I.ok.bsz I.sz,I.stack,I.stkFree,I.hok,I.bare⟩
theorem Inv.after(I:Inv X pins σ H s)(h:CE X.stack X.prog X.w H s Q u s'):EP X pins σ Q u s':=by
 obtain⟨v,e,os,bare,un,hok,r,q⟩:=h;obtain⟨c,g,d,t,a⟩:=s';obtain rfl:a=s.os:=os;exact⟨v,e,I.call (h':=c) (g':=g) (d':=d) (t':=t) (ch:=[]) un hok bare (λb z=>absurd z sC),r,q⟩
end
noncomputable def Binds(K:bc)(fd:FuncData)(ps:List ao)(ds:List ai):Prop:=
 ∀(s:aJ) (a:List ai),K.In s.heap->(a++ds).length=ps.length->i8 s fd ⟨a,[]⟩ (ps.zip (a++ds))
theorem Binds.all{K:bc}(h:∀us:List ai,us.length=ps.length->mH fd ⟨us,[]⟩=pure (ps.zip us)):Binds K fd ps []:=λs us _ a=>by
 rw[eO] at a ⊢;exact .of_eq (h us a)
section
variable {f C:ak}
structure Mk(K:PySem.W.Frag)(C f:ak):Prop where
 makes:rk K C=ae
 init:cP K (.ref C) "__init__"=aa (aa (.ref f))
 fn:rY K (.ref f)=ae
 kp:gY K (.ref C)=ae
end
structure dw(N P:List ao)(sc:Scope):Prop where
 kind:sc.kind=.function
 co:sc.isCoroutine=ag
 gen:sc.isGenerator=ag
 nd:N.Nodup
 pre:N.take P.length=P
 par:∀x∈P,sc.names.lookup x=aa .local\/sc.names.lookup x=aa .cell
 nofree:∀y∈sc.names,y.2≠.free
theorem Z6{kindOf:ao->Option ia}:∀{binds:List (ao×ai)}{m:ao->Option ai},(∀v,(x,v)∉binds)->iJ kindOf binds m x=m x
 |[],_,_=>rfl
 |(n,v)::r,m,h=>by
  unfold iJ;rw[Z6 λw hw=>h w (cJ _ hw)];split
  .have:x≠n:=by rintro rfl;exact h v dt
   simp[this]
  .rfl
theorem Zw{kindOf:ao->Option ia}:∀{binds:List (ao×ai)}{m:ao->Option ai},(∀v,(x,v)∉binds)->iI kindOf binds m x=m x
 |[],_,_=>rfl
 |(n,v)::r,m,h=>by
  unfold iI;rw[Zw λw hw=>h w (cJ _ hw)];split
  .rfl
  .have:x≠n:=by rintro rfl;exact h v dt
   simp[this]
theorem Zq{kindOf:ao->Option ia}:∀{P:List ao}{vs:List ai}{i:Nat}{m:ao->Option ai},P.Nodup->P[i]?=aa x->vs[i]?=aa v->kindOf x=aa .local->
  iJ kindOf (P.zip vs) m x=aa v
 |[],_,_,_,_,h,_,_=>by simp at h
 |_::_,[],_,_,_,_,h,_=>by simp at h
 |p::P,w::vs,0,m,c,b,a,d=>by
  simp at b a;subst b;subst a;show iJ kindOf ((p,w)::P.zip vs) m p=_;unfold iJ;rw[Z6 λv e=>(g7.mp c).1 (r6 e).1,if_pos d];simp
 |p::P,w::vs,i+1,m,c,b,a,d=>by
  show iJ kindOf ((p,w)::P.zip vs) m x=_;unfold iJ;exact Zq (i:=i) (g7.mp c).2 (by simpa using b) (by simpa using a) d
theorem Zf{kindOf:ao->Option ia}:∀{P:List ao}{vs:List ai}{i:Nat}{m:ao->Option ai},P.Nodup->P[i]?=aa x->vs[i]?=aa v->kindOf x≠aa .local->
  iI kindOf (P.zip vs) m x=aa v
 |[],_,_,_,_,h,_,_=>by simp at h
 |_::_,[],_,_,_,_,h,_=>by simp at h
 |p::P,w::vs,0,m,c,b,a,d=>by
  simp at b a;subst b;subst a;show iI kindOf ((p,w)::P.zip vs) m p=_;unfold iI;rw[Zw λv e=>(g7.mp c).1 (r6 e).1,if_neg d];simp
 |p::P,w::vs,i+1,m,c,b,a,d=>by
  show iI kindOf ((p,w)::P.zip vs) m x=_;unfold iI;exact Zf (i:=i) (g7.mp c).2 (by simpa using b) (by simpa using a) d
noncomputable def start(N:List ao)(vs:List V):St:=vs.map aa++lb (N.length-vs.length) af
noncomputable def Vm (CX:lI)(P:bL)(w:dh)(K:bc)(mg:ao->Option ai)(base:aG)(N:List ao)(a:ao)(scope:Scope)(f:ak)(cd:ai)(A:eF)(outer:List Env)(s:aJ)(H:Hp)(E:XK)(fnb:ao->Bool:=λ_=>ae):Cx where
 prog:=P
 w:=w
 K:=K
 mg:=mg
 base:=base
 A:=A.deeper (fk a scope s.heap.objs.size f cd)
 N:=N
 s₀:=s
 H₀:=H
 env:=fk a scope s.heap.objs.size f cd
 outer:=outer
 stack:=fk a scope s.heap.objs.size f cd::outer
 ex:=[]
 calm:=ae
 fn:=fnb
 pn:=[]
 xe:=λe c=>aA (aC P w) (A.deeper (fk a scope s.heap.objs.size f cd)) (leaving (fk a scope s.heap.objs.size f cd) e) (λ_ b=>CX outer H s E e b) (λd b=>CX outer H s E d b) c
theorem QE{sc:Scope}(h:sc.names.lookup x=aa .cell):∃c,(p9 n sc.names []).lookup x=aa c:=by
 have q:=Br sc.names n [] (.inl h);exact BQ.mp q
theorem Zc{CX:lI}{P:bL}{w:dh}{K:bc}{mg:ao->Option ai}{base:aG}{N ps:List ao}{d:ao}{f:ak}{cd:ai}{A:eF}{s C:aJ}{H:Hp}{E:XK}{vs:List V} 
  (S:dw N ps scope) (hd:A.handled=af) (e0:c8 P w K mg base A outer s H) (M:vs.length=ps.length) (r:aE vs us)
  (x:InCallC s s.heap.objs.size (iJ (fk d scope s.heap.objs.size f cd).kindOf (ps.zip us) λ_=>af) (p9 (s.heap.objs.size+1) scope.names []) (iI (fk d scope s.heap.objs.size f cd).kindOf (ps.zip us) λ_=>af) C) :
  Inv (Vm CX P w K mg base N d scope f cd A outer s H E fnb) [] (start N vs) H C:=by
 have I:ps.length<=N.length:=by have:=congrArg fE S.pre;rw[g8] at this;lia
 obtain⟨B,L,rfl,F⟩:=x.done;have j:∀b:ak,b∉(Vm CX P w K mg base N d scope f cd A outer s H E fnb).ex:=λb z=>absurd (show b∈([]:List ak) from z) sC
 refine⟨⟨e0.mod,S.kind,rfl,rfl,aK _,λy z c B g=>?_,λy l=>?_,λy c _ h=>?_,λ_=>hd,BG e0.frames,.inr ⟨rfl,rfl⟩,λb z=>absurd z (j b),e0.bs,e0.bsz,λb _ _=>j b,λb z=>absurd z (j b),e0.funs,e0.frf⟩,
  rfl,e0.bare,Un.kept F,⟨_,x.toInCall.ns,λi y v B g O=>?_⟩,λy c h=>⟨_,x.cell y c h⟩,e0.hok.fresh (aK _),λy c h=>?_,λp o=>absurd (show p∈([]:List (ak×bj)) from o) sC,e0.hok.kept F,?_⟩
 .exact name_of_addr x.apart (ip B) (ip g)
 .have l:=l;rcases l with l|l
  .exact QE l
  .exact absurd rfl (S.nofree _ (ip l))
 .exact im (x.above y c (ip h))
 .have t:i<vs.length:=by
   unfold start at g;by_cases t:i<vs.length
   .exact t
   .rw[dL (by simpa using t)] at g;rw[oZ] at g;split at g<;>cases g
  have J:vs[i]?=aa v:=by
   unfold start at g;rw[cE (by simpa using t),bH] at g;cases e:vs[i]? with
   |none=>rw[e] at g;exact z9 g
   |some a=>rw[e] at g;cases g;rfl
  obtain⟨u,D,G⟩:=r.get J;have o:ps[i]?=aa y:=by
   rw[<-S.pre,BP (by lia)];exact B
  have m:ps.Nodup:=S.pre▸S.nd.sublist (l9 _ _);refine⟨u,G,?_⟩;rcases S.par y (aS o) with k|k
  .exact .inl ⟨k,Zq m o D k⟩
  .obtain⟨c,e⟩:=QE (n:=s.heap.objs.size+1) k;refine .inr ⟨.inl k,c,e,?_⟩;have q:=x.cell y c e;rw[Zf m o D (by show scope.names.lookup y≠_;rw[k];decide)] at q;exact q
 .exact .inl (e0.hok.fresh (im (x.above y c (ip h))))
 .unfold start;show _=N.length;rw[eX,aL,BO];lia
theorem Dc {CX : lI}{P : bL}{w : dh}{K : bc}{k : Nat}{f : ak}{name a : ao}{params : Arguments}{body : List aV}{T kV C R d ct oc : ai}{U Z : Option ak}
 {N ps : List ao}{sp : Sp}(lk : K.lookup f = aa ⟨oc, Z, .func (fm name a params body scope T kV C R U d ct), osl⟩) (M : gV K d a = ae) (S : dw N ps scope)
    (len:∀vs H Q E, sp vs H Q E->vs.length=ps.length)
    (m : ∀ (A : eF) (outer : List Env) (s : aJ) (H : Hp) (vs : List V) (Q : VK) (E : XK), bE k (A.deeper (fk a scope s.heap.objs.size f d)) -> sp vs H Q E -> (∀ y c, (fk a scope s.heap.objs.size f d).cells.lookup y = aa c -> s.heap.objs.size <= c /\ H c = af) ->
      ∃t, fw (Vm CX P w K mg base N a scope f d A outer s H E fnb) body t/\t {nx:=λ_ j=>Q .n j, rt:=Q} (start N vs) H) :
    bF P w K mg base CX (k+1) f (fm name a params body scope T kV C R U d ct) ps sp:=by
  refine⟨len, λA outer s H args Y vs Q E L e0 hb r z=>?_⟩;have hl:=len _ _ _ _ z;have X:=e0.mod.kin.keeps λb o e=>(e0.bs b o e).1;have G:=e0.mod.nolimit.keeps λb o e=>(e0.bs b o e).1;have i:∀y∈ps.zip Y, scope.names.lookup y.1=aa .local\/(scope.names.lookup y.1=aa .cell/\((p9 (s.heap.objs.size+1) scope.names []).lookup y.1).isSome=ae):=λ⟨n, v⟩ hy=>by
    rcases S.par n (r6 hy).1 with q|q
    · exact .inl q
    · exact .inr ⟨q, Br _ _ _ (.inl q)⟩
  refine codeAny_call_function L.depth (X _ _ lk) rfl S.co S.gen rfl (PySem.W.codeRec_of X M) (hb _ _ _ _ ?_);refine B0 S.kind i λenv he O x=>?_;subst he;refine⟨G.keeps x.toInCall.keep, codeAny_func ?_⟩;obtain⟨t, ht, hq⟩:=m A outer s H vs Q E (L.deeper _) z λy c h=>have l:=im (x.above y c (ip h));⟨l, e0.hok.fresh l⟩;have I:Inv (Vm CX P w K mg base N a scope f d A outer s H E fnb) [] (start N vs) H O:=Zc S L.hd e0 hl r x;refine cX (ht [] O (start N vs) H _ I hq) (λfl D p=>?_) λe D p=>p
  have B:∀{g:St}{j:Hp}{v:V}{u:ai}, Inv (Vm CX P w K mg base N a scope f d A outer s H E fnb) [] g j D->RelV v u->Q v j->CE outer P w H s Q u D:=
    λ{g j v u} J F q=>⟨v, j, J.os, J.bare, J.base, J.hok, F, q⟩
  cases fl with
  |ret u=>
    obtain⟨v, g, j, J, F, q⟩:=p;exact B J F q
  |next=>
    obtain⟨g, j, J, q⟩:=p;exact B (v:=V.n) (u:=lV) J rfl q
  |brk=>
    obtain⟨_, _, _, q⟩:=p;exact cW q
  |cont=>
    obtain⟨_, _, _, q⟩:=p;exact cW q
end L2
namespace HT
open PySem PyProof.Rows
section
variable {prog:Program}{w:World}{A:Around}{E:ai->Shared->Prop}{s:Shared}
noncomputable def sIx (n d:Nat):Option Int->Nat
 |none=>d
 |some v=>if v<0 then (v+(n:Int)).toNat else min v.toNat n
theorem IS(n d:Nat)(hd:d<=n)(o:Option Int):sIx n d o<=n:=by
 cases o with
 |none=>exact hd
 |some v=>
  show (if v<0 then (v+(n:Int)).toNat else min v.toNat n)<=n;by_cases a:v<0
  .rw[if_pos a];lia
  .rw[if_neg a];exact Nat.min_le_right _ _
theorem VJ(v:Int)(n d:Nat):(if v<0 then max (v+(n:Int)) 0 else min v (n:Int))=((sIx n d (aa v):Nat):Int):=by
 show (if v<0 then max (v+(n:Int)) 0 else min v (n:Int))=(((if v<0 then (v+(n:Int)).toNat else min v.toNat n):Nat):Int);by_cases a:v<0
 .simp only[if_pos a];lia
 .simp only[if_neg a];lia
theorem WR(lo hi:Option Int)(n:Nat):s_ lo hi 1 (n:Int)=(((sIx n 0 lo:Nat):Int),((sIx n n hi:Nat):Int)):=by
 have a:¬((1:Int)<0):=by lia
 unfold s_;simp only[a,if_false];refine Prod.ext ?_ ?_
 .cases lo with
  |none=>rfl
  |some v=>exact VJ v n 0
 .cases hi with
  |none=>rfl
  |some v=>exact VJ v n n
theorem Vu(i j:Nat):o8 (i:Int) (j:Int) 1=j-i:=by
 unfold o8;have a:(1:Int) > 0:=by lia
 simp only[a,if_true,rV];split<;>lia
theorem ur(p:gR v o)(h:Q o s):aA (aC prog w) A (Ec v) Q E s:=by
 cases p with
 |none=>exact slicePart_none h
 |int i t=>exact slicePart_int h
theorem sliceApplied_gen{lo hi:Option Int}{n:Nat}(hs:s.heap.IsSliceOf u vl j .none)(pl:gR vl lo)(c:gR j hi)
  (h:Q (((sIx n 0 lo:Nat):Int),1,sIx n n hi-sIx n 0 lo) s):aA (aC prog w) A (BZ (.ref u) (pure (n:Int))) Q E s:=by
 obtain⟨os,a,d,b⟩:=id hs;unfold BZ D9;refine ay (ay (f9 a b (x:=vl) rfl (ay (f9 a b (x:=j) rfl (ay (f9 a b (x:=.none) rfl (aU ?_)))))));refine ay (slicePart_none ?_);show aA _ _ (if ((1:Int)==0)=ae then _ else _) _ _ s;rw[if_neg dC];refine ay (ur pl (ay (ur c (ay (aU ?_)))));show aA _ _ (match s_ lo hi 1 (n:Int) with|(lo,hi)=>pure (lo,(1:Int),o8 lo hi 1)) _ _ s;rw[WR lo hi n];show aA _ _ (pure (((sIx n 0 lo:Nat):Int),(1:Int),o8 ((sIx n 0 lo:Nat):Int) ((sIx n n hi:Nat):Int) 1)) _ _ s;rw[Vu];exact aU h
theorem Uo(xs:Array ai)(i k:Nat):((dm k).filterMap λ(m:Nat)=>xs[((i:Int)+(m:Int)*1).toNat]?).toArray=((xs.toList.drop i).take k).toArray:=by
 have e:(λ(m:Nat)=>xs[((i:Int)+(m:Int)*1).toNat]?)=λm=>xs[i+m]?:=by
  funext m;have:((i:Int)+(m:Int)*1).toNat=i+m:=by lia
  rw[this]
 rw[e];have:=pick_run xs i k;rw[List.filterMap_map] at this;have a:((λx=>xs[x]?) ∘ λx=>i+x)=λm=>xs[i+m]?:=rfl;rw[a] at this;rw[this]
theorem getItem_tuple_cut{lo:Option Int}(ht:IsTup s.heap t j)(hs:s.heap.IsSliceOf u vl z .none)(pl:gR vl lo)(f:gR z hi)
  (hw:¬(sIx j.size 0 lo=0/\sIx j.size j.size hi=j.size))
  (h:Q (.ref s.heap.objs.size) {s with heap:=s.heap.push {cls:=.type "tuple",data:=.seq ((j.toList.drop (sIx j.size 0 lo)).take (sIx j.size j.size hi-sIx j.size 0 lo)).toArray}})
  (g:j.size<=sizeLine):aA (aC prog w) A (gU (.ref t) (.ref u)) Q E s:=by
 have a:sizeOk (.seq ((j.toList.drop (sIx j.size 0 lo)).take (sIx j.size j.size hi-sIx j.size 0 lo)).toArray):=by
  show ((j.toList.drop (sIx j.size 0 lo)).take (sIx j.size j.size hi-sIx j.size 0 lo)).toArray.size<=sizeLine;rw[cN,g8,oF,me];omega
 have n:sIx j.size j.size hi<=j.size:=IS _ _ (aK _) hi;obtain⟨os,b,d,i⟩:=id hs;have e:s.TypeIs (.ref u) "slice":=⟨os,b,d⟩;unfold gU;try with_reducible refine dF ?_
 first|refine ay (aU ?_)|skip
 refine ay (Be ht.typeIs dC ?_)
 refine ay (Bx (name:=lg "__getitem__") ht.typeIs lu
  (AD lu ht.typeIs Bm ?_ (A1 _ _)))
 show aA _ _ (BY (.ref t) >>= _) _ _ s;refine ay (tupleItemsOf_ ht ?_);refine ay (lW e ?_);rw[if_pos dC];refine ay (sliceApplied_gen hs pl f ?_);have c:¬((((sIx j.size 0 lo:Nat):Int)==0&&(1:Int)==1&&(sIx j.size j.size hi-sIx j.size 0 lo)==j.size)=ae):=by
  intro q;rw[bW,bW] at q;have l:=eq_of_beq q.1.1;have k:=eq_of_beq q.2;exact hw ⟨by omega,by omega⟩
 show aA _ _ (if (((sIx j.size 0 lo:Nat):Int)==0&&(1:Int)==1&&(sIx j.size j.size hi-sIx j.size 0 lo)==j.size)=ae then _ else _) _ _ s;rw[if_neg c,Uo]
 first
  |exact ay (m:=o7 _) (lA (aU ⟨_,rfl,aU h⟩) a)
  |exact ay (m:=o7 _) (lA (ay (aU (aU ⟨_,rfl,aU h⟩))) a)
  |exact ay (ay (m:=o7 _) (lA (aU (aU ⟨_,rfl,aU h⟩)) a))
  |exact ay (ay (m:=o7 _) (lA (aU ⟨_,rfl,aU h⟩) a))
end
end HT
namespace L2
open PySem PySem.Spec PyProof.Rows
noncomputable abbrev TO:=St->Hp->(Option Int->Hp->Prop)->Prop
noncomputable def PO (X:Cx)(e:Option ap)(t:TO):Prop:=
 ∀(a:List (ak×bj)) (s:aJ) (b:St) (H:Hp) (Q:Option Int->Hp->Prop),Inv X a b H s->t b H Q->
  aA (aC X.prog X.w) X.A (evalPart e X.env) (λu d=>∃o c,Inv X a b c d/\gR u o/\Q o c) X.xe s
noncomputable def MD:TO:=λ_ H Q=>Q af H
noncomputable def Gw(t:TE):TO:=λa H Q=>t a H λx b=>∃i,x=.int i/\Q (aa i) b
section
variable {X:Cx}{e:ap}{te:TE}{lo hi:Option ap}{tl th:TO}{pos p2:Pos}
theorem MM:PO X af MD:=by
 intro a s b H Q I h;rw[evalPart_none];exact aU ⟨af,H,I,.none,h⟩
theorem MW(h:PE X e te):PO X (aa e) (Gw te):=by
 intro a s b H Q I hw;rw[evalPart_some];refine aF (h a s b H _ I hw) λu j ⟨x,g,f,c,d⟩=>?_;obtain⟨i,rfl,q⟩:=d;obtain⟨t,rfl⟩:=c;exact⟨aa i,g,f,.int i t,q⟩
noncomputable def i4 (X:Cx)(r:V->Option Int->Option Int->Hp->VK->Prop):Prop:=
 ∀(a:List (ak×bj)) (s:aJ) (b:St) (H:Hp) (x:V) (v vl c:ai) (lo hi:Option Int) (d:ak) (Q:VK),Inv X a b H s->RelV x v->s.heap.IsSliceOf d vl c .none->gR vl lo->gR c hi->r x lo hi H Q->
  ∃T id,rC (.type T) "__getitem__"=pure (aa (.builtin id))/\s.TypeIs v T/\aA (aC X.prog X.w) X.A (gU v (.ref d)) (EP X a b Q) X.xe s
theorem i4.or(h:i4 X r)(h':i4 X j):i4 X (λx lo hi H Q=>r x lo hi H Q\/j x lo hi H Q):=by
 intro a s b H x v vl c lo hi d Q I e hs pl f q;rcases q with q|q
 .exact h a s b H x v vl c lo hi d Q I e hs pl f q
 .exact h' a s b H x v vl c lo hi d Q I e hs pl f q
noncomputable def M7 (r:V->Option Int->Option Int->Hp->VK->Prop)(te:TE)(tl th:TO):TE:=λa H Q=>te a H λx d=>tl a d λl c=>th a c λu b=>r x l u b Q
theorem YE(hr:i4 X r)(he:PE X e te)(B:PO X lo tl)(y:PO X hi th):PE X (.Subscript e (.Slice lo hi af p2) pos) (M7 r te tl th):=by
 intro a s d H Q I h;refine rB (aF (he a s d H _ I h) λv j ⟨x,L,J,k,o⟩=>?_);refine wpAny_Slice (aF (B a j d L _ J o) λvl i ⟨l,K,G,t,n⟩=>aF (y a i d K _ G n) λf c ⟨u,g,F,p,m⟩=>?_);rw[evalPart_none];refine aU ?_;have E:Inv X a d g {c with heap:=c.heap.push {cls:=.type "slice",data:=.fields #[vl,f,.none]}}:=F.kept (t':=c.toks) λb ob q=>bv _ q;obtain⟨T,id,D,z,C⟩:=hr a {c with heap:=c.heap.push {cls:=.type "slice",data:=.fields #[vl,f,.none]}} d g x v vl f l u c.heap.objs.size Q E k (D1 ..) t p m;show aA (aC X.prog X.w) X.A (subscriptTail e (.Slice lo hi af p2) v (.ref c.heap.objs.size)) (EP X a d Q) X.xe {c with heap:=c.heap.push {cls:=.type "slice",data:=.fields #[vl,f,.none]}};exact tail_any (ops:=[.ref c.heap.objs.size,v]) z D C (by with_unfolding_all rfl)
noncomputable def uT (xs:List V)(lo hi:Option Int):List V:=(xs.drop (HT.sIx xs.length 0 lo)).take (HT.sIx xs.length xs.length hi-HT.sIx xs.length 0 lo)
theorem xW(xs:List V)(lo hi:Option Int):(uT xs lo hi).length<=xs.length:=by
 unfold uT;rw[g8,oF];lia
noncomputable def Fj (K:bc):V->Option Int->Option Int->Hp->VK->Prop:=λx lo hi H Q=>∃a xs,x=.ref a/\i3 K H a xs/\
 ¬(HT.sIx xs.length 0 lo=0/\HT.sIx xs.length xs.length hi=xs.length)/\∀p,H p=af->Q (.ref p) (upd H p (.t (uT xs lo hi)))
theorem Ix:i4 X (Fj X.K):=by
 intro f s p H x v vl t lo e u Q I j n l k h;obtain⟨a,xs,rfl,m,hw,q⟩:=h;subst j;obtain⟨d,r,i,g⟩:=I.tuple m;have c:d.toArray.size=xs.length:=cN▸r.length.symm;refine⟨"tuple",_,lu.lookup,i.typeIs,?_⟩;refine HT.getItem_tuple_cut i n l k (c▸hw) ?_ (c▸g);rw[c];refine⟨.ref s.heap.objs.size,_,I.laid (t':=s.toks) (o:=.t (uT xs lo e)) (λb ob q=>bv _ q) (aK _) ?_,rfl,q _ (I.hok.fresh (aK _))⟩;exact⟨cf (xW xs lo e) g,_,(r.drop (HT.sIx xs.length 0 lo)).take (HT.sIx xs.length xs.length e-HT.sIx xs.length 0 lo),Aa _ _⟩
end
noncomputable def nG(n:Nat)(i:Int):Option Nat:=if 0<=i then (if i<n then aa i.toNat else af) else if -(n:Int)<=i then aa (i+n).toNat else af
noncomputable def mv {α:Type}(xs:List α)(i:Int):Option α:=(nG xs.length i).bind λj=>xs[j]?
theorem Mz(h:nG n i=aa j):seqIndex? i n=aa j/\j<n /\ -(n:Int)<=i/\i<n:=by
 unfold nG at h;by_cases b:0<=i
 .rw[if_pos b] at h;by_cases a:i<n
  .rw[if_pos a] at h;have e:=aZ h;exact⟨by rw[seqIndex_of b a,e],by lia,by lia,a⟩
  .rw[if_neg a] at h;exact z9 h
 .rw[if_neg b] at h;by_cases a:-(n:Int)<=i
  .rw[if_pos a] at h;have e:=aZ h;exact⟨by rw[seqIndex_neg (by lia) a,e],by lia,a,by lia⟩
  .rw[if_neg a] at h;exact z9 h
theorem Je{xs:List α}(h:mv xs i=aa v):∃j,seqIndex? i xs.length=aa j/\xs[j]?=aa v/\j<xs.length /\ -(xs.length:Int)<=i/\i<xs.length:=by
 unfold mv at h;cases e:nG xs.length i with
 |none=>rw[e] at h;exact z9 h
 |some j=>
  rw[e] at h;obtain⟨d,c,b,a⟩:=Mz e;exact⟨j,d,h,c,b,a⟩
noncomputable def MG(b:ap):Prop:=∀o i,oq b ag o i=operate [o,i] (gU o i)
noncomputable def DE (X:Cx)(r:R2):Prop:=
 ∀(c a:ap) (b:List (ak×bj)) (s:aJ) (d:St) (H:Hp) (x y:V) (v u:ai) (Q:VK),Inv X b d H s->RelV x v->RelV y u->r x y H Q->
  oq a ag v u=operate [v,u] (gU v u)->aA (aC X.prog X.w) X.A (subscriptTail c a v u) (EP X b d Q) X.xe s
noncomputable def wn (X:Cx)(id:String)(r:V->List V->Hp->VK->Prop):Prop:=
 ∀(a:List (ak×bj)) (s:aJ) (b:St) (H:Hp) (x:V) (xs:List V) (v:ai) (c:List ai) (Q:VK),Inv X a b H s->RelV x v->aE xs c->r x xs H Q->
  aA (aC X.prog X.w) X.A (call (.builtin id) (v::c)) (EP X a b Q) X.xe s
section
variable {X:Cx}{a b:ap}
noncomputable def EN (K:bc):R2:=λx y H Q=>∃p xs i v,x=.ref p/\y=.int i/\eJ K H p xs/\mv xs i=aa v/\Q v H
noncomputable def Fe (K:bc):R2:=λx y H Q=>∃p xs i v,x=.ref p/\y=.int i/\i3 K H p xs/\mv xs i=aa v/\Q v H
theorem VT:DE X (EN X.K):=by
 intro d e a s m H x y v u Q I D C h n;obtain⟨p,xs,i,z,rfl,rfl,E,G,q⟩:=h;subst D;obtain⟨t,rfl⟩:=C;obtain⟨k,r,g,N⟩:=I.list E;obtain⟨j,c,M,P,L,J⟩:=Je G;obtain⟨w,A,f⟩:=r.get M;have F:=r.length;have O:=ZV;have b:EP X a m Q w s:=⟨z,H,I,f,q⟩;by_cases o:0<=i
 .have l:i.toNat=j:=by
   rw[seqIndex_of o J] at c;exact aZ c
  exact item_listR g.isList o (by lia) (by rw[l];simpa using A) b n
 .have l:(i+(k.toArray.size:Int)).toNat=j:=by
   rw[seqIndex_neg (by lia) L] at c;rw[cN,<-F];exact aZ c
  exact Bp (x:=w) g.isList.typeIs Bd.lookup
   (wpAny_getItem_list_neg (Q:=λr B=>r=w/\EP X a m Q r B) g.isList (by lia) (by rw[cN]<;>lia) (by lia) (by rw[l];simpa using A) ⟨rfl,b⟩) n
theorem Hh:DE X (Fe X.K):=by
 intro b c a s f H x y v u Q I m l h o;obtain⟨p,xs,i,z,rfl,rfl,A,C,q⟩:=h;subst m;obtain⟨t,rfl⟩:=l;obtain⟨n,r,g,G⟩:=I.tuple A;obtain⟨j,E,D,N,M,L⟩:=Je C;obtain⟨w,F,d⟩:=r.get D;have B:=r.length;have J:=ZV;have e:EP X a f Q w s:=⟨z,H,I,d,q⟩
 exact Bp (x:=w) g.typeIs lu.lookup
  (getItem_tuple (j:=j) (Q:=λr k=>r=w/\EP X a f Q r k) g (by lia) (by lia) (cN▸B▸E) (by simpa using F) ⟨rfl,e⟩) o
theorem Qh(lo hi:Option Int)(n:Nat):(jp lo hi af n).1=((HT.sIx n 0 lo:Nat):Int)/\(jp lo hi af n).2.1=((HT.sIx n n hi:Nat):Int)/\(jp lo hi af n).2.2=1:=by
 refine⟨?_,?_,rfl⟩
 .cases lo with
  |none=>simp[jp,HT.sIx]
  |some i=>
   simp only[jp,HT.sIx,AC,show (1:Int) > 0 by decide,if_true];by_cases h:i<0
   .simp only[h,if_true]<;>lia
   .simp only[h,if_false]<;>lia
 .cases hi with
  |none=>simp[jp,HT.sIx]
  |some i=>
   simp only[jp,HT.sIx,AC,show (1:Int) > 0 by decide,if_true];by_cases h:i<0
   .simp only[h,if_true]<;>lia
   .simp only[h,if_false]<;>lia
theorem uW(a:List ai)(lo hi:Option Int):slicePick a.toArray lo hi af=((a.drop (HT.sIx a.length 0 lo)).take (HT.sIx a.length a.length hi-HT.sIx a.length 0 lo)).toArray:=by
 obtain⟨d,c,b⟩:=Qh lo hi a.toArray.size;unfold slicePick;rw[d,c,b];simp only[sliceRange_one,pick_run,cN]<;>rfl
noncomputable def EF (K:bc):V->Option Int->Option Int->Hp->VK->Prop:=λx lo b H Q=>∃a xs,x=.ref a/\eJ K H a xs/\∀p,H p=af->Q (.ref p) (upd H p (.l (uT xs lo b)))
theorem M5:i4 X (EF X.K):=by
 intro e s p H x v vl t lo d u Q I g n j i h;obtain⟨a,xs,rfl,m,q⟩:=h;subst g;obtain⟨k,r,f,l⟩:=I.list m;have c:=r.length;refine⟨"list",_,Bd.lookup,f.isList.typeIs,?_⟩;refine wpAny_getItem_list_slice f.isList n j i .none sC ?_ (by rw[cN]<;>lia);rw[uW,<-c];refine⟨.ref s.heap.objs.size,_,I.laid (t':=s.toks) (o:=.l (uT xs lo d)) (λb ob q=>bv _ q) (aK _) ?_,rfl,q _ (I.hok.fresh (aK _))⟩;exact⟨cf (xW xs lo d) l,_,0,(r.drop (HT.sIx xs.length 0 lo)).take (HT.sIx xs.length xs.length d-HT.sIx xs.length 0 lo),dy _ rfl⟩
theorem vo:Qx X (.builtin "len") (λxs H Q=>∃p j,xs=[.ref p]/\(eJ X.K H p j\/i3 X.K H p j)/\Q (.int j.length) H):=by
 intro f s k H xs l Q I r h;obtain⟨p,j,rfl,b,q⟩:=h;obtain⟨u,rfl,g⟩:=vals1 r;subst g;have m:=ZV;rcases b with b|b
 .obtain⟨e,c,d,i⟩:=I.list b;have a:=c.length;exact Calls.call_len_list d.isList (by simp only[cN]<;>lia) ⟨.int j.length,H,I.tok _,⟨s.toks+1,by rw[cN,a]⟩,q⟩
 .obtain⟨e,c,d,i⟩:=I.tuple b;have a:=c.length;exact len_tuple d (by simp only[cN]<;>lia) ⟨.int j.length,H,I.tok _,⟨s.toks+1,by rw[cN,a]⟩,q⟩
theorem Qe:Qx X (.builtin "len") (λxs H Q=>∃z,xs=[.str z]/\z.length<=sizeLine/\Q (.int z.length) H):=by
 intro a s b H xs c Q I r h;obtain⟨z,rfl,d,q⟩:=h;obtain⟨u,rfl,t,rfl⟩:=vals1 r;have e:=ZV;exact len_str (by lia) ⟨.int z.length,H,I.tok _,⟨_,rfl⟩,q⟩
theorem vi:Qx X (.type "list") (λxs H Q=>∃p j,xs=[.ref p]/\(eJ X.K H p j\/i3 X.K H p j)/\∀l,H l=af->Q (.ref l) (upd H l (.l j))):=by
 intro g s B H xs D Q I r h;obtain⟨p,j,rfl,m,q⟩:=h;obtain⟨u,rfl,C⟩:=vals1 r;subst C
 have v:∀(a:List ai),aE j a->j.length<=sizeLine->∀(c:aG) (f:Nat),(∀b A,s.heap.get? b=aa A->c.get? b=aa A)->
   c.get? s.heap.objs.size=aa {cls:=.type "list",dict:=af,data:=.seq a.toArray f,slots:=#[]}->EP X g B Q (.ref s.heap.objs.size) {s with heap:=c}:=λa d k c f i e=>
  ⟨.ref s.heap.objs.size,_,I.laid (t':=s.toks) i (aK _) (show aR X.prog X.w _ c _ (.l j) from ⟨k,a,f,d,e⟩),rfl,q _ (I.hok.fresh (aK _))⟩
 rcases m with m|m
 .obtain⟨a,d,x,k⟩:=I.list m;have t:=d.length;obtain⟨o,y,z,n,hd⟩:=x.isList;exact call_list_seq p (.inl rfl) y z hd (λc f i e=>v a d k c f i e) (by simp only[cN]<;>lia)
 .obtain⟨a,d,x,k⟩:=I.tuple m;have t:=d.length;obtain⟨o,y,z,n,hd⟩:=x;exact call_list_seq p (.inr rfl) y z hd (λc f i e=>v a d k c f i e) (by simp only[cN]<;>lia)
theorem jA:Qx X (.type "tuple") (λxs H Q=>∃p j,xs=[.ref p]/\((eJ X.K H p j/\∀l,H l=af->Q (.ref l) (upd H l (.t j)))\/(i3 X.K H p j/\Q (.ref p) H))):=by
 intro g s y H xs z Q I r h;obtain⟨p,j,rfl,h⟩:=h;obtain⟨u,rfl,n⟩:=vals1 r;subst n;rcases h with⟨f,q⟩|⟨f,q⟩
 .obtain⟨a,c,d,i⟩:=I.list f;have k:=c.length;refine call_tuple_list d.isList (λv t=>?_) (by simp only[cN]<;>lia);have m:=I.kept (t':=s.toks) t
  have x:=
   m.laid (t':=s.toks) (λb o e=>bv _ e) (aK _) (show aR X.prog X.w _ _ _ (.t j) from ⟨i,a,c,Aa _ _⟩)
  exact⟨.ref v.objs.size,_,x,rfl,q _ (m.hok.fresh (aK _))⟩
 .obtain⟨a,c,d,i⟩:=I.tuple f;exact call_tuple_same d ⟨.ref p,H,I,rfl,q⟩
noncomputable def Df (K:bc)(T:String)(x:V)(H:Hp):Prop:=match x with
 |.str _=>T="str"
 |.int _=>T="int"
 |.ref p=>(T="list"/\∃xs,eJ K H p xs)\/(T="tuple"/\∃o,K.lookup p=aa o/\o.cls=.type "tuple"/\o.dict=af)\/
   (T="dict"/\((∃a,H p=aa (.dK a))\/∃b a,H p=aa (.dE b a)))\/(T="set"/\∃S n,H p=aa (.set S n))
 |_=>False
theorem HD{h:St}{H:Hp}{x:V}(I:Inv X j h H s)(r:RelV x v)(ty:Df X.K T x H) :
  s.TypeIs v T/\∀a,v=.ref a->∃ob,s.heap.get? a=aa ob/\ob.dict=af:=by
 cases x with
 |str z=>
  obtain⟨t,rfl⟩:=r;cases (show T="str" from ty);exact⟨typeIs_str s z t,λ_ e=>nomatch e⟩
 |int i=>
  obtain⟨t,rfl⟩:=r;cases (show T="int" from ty);exact⟨typeIs_int s i t,λ_ e=>nomatch e⟩
 |ref p=>
  subst r;rcases ty with⟨rfl,xs,l⟩|⟨rfl,o,b,m,hd⟩|⟨rfl,b⟩|⟨rfl,S,n,b⟩
  .obtain⟨k,_,g,_⟩:=I.list l;refine⟨g.isList.typeIs,λa e=>?_⟩;(injection e with e;subst e);obtain⟨o,n,e,c,hd,_⟩:=g;exact⟨o,e,hd⟩
  .refine⟨⟨o,I.kIn p o b,m⟩,λa e=>?_⟩;(injection e with e;subst e);exact⟨o,I.kIn _ o b,hd⟩
  .have z:∃o,s.heap.get? p=aa o/\o.ExactDict:=by
    rcases b with⟨f,b⟩|⟨q,f,b⟩
    .obtain⟨_,_,_,_,o,_,_,e,ex,_⟩:=I.hok p _ b;exact⟨o,e,ex⟩
    .obtain⟨_,_,_,_,o,_,e,ex,_⟩:=I.hok p _ b;exact⟨o,e,ex⟩
   obtain⟨o,e,ex⟩:=z;refine⟨⟨o,e,ex.1⟩,λa d=>?_⟩;(injection d with d;subst d);exact⟨o,e,ex.2.1⟩
  .obtain⟨o,_,_,_,e,ex,_⟩:=I.hok p _ b;refine⟨⟨o,e,ex.1⟩,λa d=>?_⟩;(injection d with d;subst d);exact⟨o,e,ex.2.1⟩
 |_=>exact cW ty
noncomputable def M8 (K:bc)(T:String)(r:V->List V->Hp->VK->Prop)(c:TE)(t:TA):TE:=λa H Q=>c a H λx b=>Df K T x b/\t a b λxs d=>r x xs d Q
variable {o e:ap}{es:List ap}{to:TE}{t:TA}{name:ao}{apos cpos:Pos}{T id:String}{r:V->List V->Hp->VK->Prop}
theorem YO (pa:PlainAttrs T) (slot:Slot T name id) (i:typeOf (.builtin id)=pure (.type "method_descriptor")) (z:wn X id r) (ho:PE X o to) (A:PA X (e::es) t)
  (d:kw o name X.env (eval o X.env)=eval o X.env:=by rfl)
  (f:((dZ cpos (cU (e::es) X.env)).all (λx=>!x.1)&&(h_ cpos (ic [] X.env)).all (λx=>x.1.isSome)
   &&decide ((e::es).length+([]:List iK).length+(if ([]:List iK).isEmpty then 0 else 1)<30))=ae:=by rfl)
  (c:(apos.endLine==cpos.line)=ae:=by rfl) (hs:cU (e::es) X.env=(ag,eval e X.env)::cU es X.env:=by rfl) (b:(dZ cpos (cU es X.env)).any (·.1)=ag:=by rfl) :
  PE X (.Call (.Attribute o name apos) (e::es) [] cpos) (M8 X.K T r to t):=by
 intro a s g H Q I h;refine wpAny_Call_method_late d f c rfl (aF (ho a s g H _ I h) λv q ⟨x,F,l,j,ty,y⟩=>?_);obtain⟨C,B⟩:=HD l j ty;refine⟨T,id,pa,slot,i,C,B,?_⟩;have k:=A cpos a q g F _ l y;rw[hs] at k ⊢;refine oX (by show (ag || (dZ cpos (cU es X.env)).any (·.1))=ag;rw[b]<;>rfl) (ng ?_);exact aF k λn p ⟨m,E,D,u,w⟩=>z a p g E x m v n Q D j u w
end
noncomputable def NA (X:Cx)(id:String)(r:V->List V->Hp->VK->Prop):Prop:=
 ∀(a:List (ak×bj)) (s:aJ) (b:St) (H:Hp) (x:V) (xs:List V) (v:ai) (c:List ai) (Q:VK),Inv X a b H s->RelV x v->aE xs c->r x xs H Q->
  aA (aC X.prog X.w) X.A (call (.builtin id) (v::c)) (EP X a b Q) X.xe s
theorem aE.one:∀{x:V}{us:List ai},aE [x] us->∃u,us=[u]/\RelV x u
 |_,_,.cons r .nil=>⟨_,rfl,r⟩
section
variable {X:Cx}{pins:List (ak×bj)}{σ:St}{H:Hp}{s:Shared}{l:ak}{xs ys:List V}
theorem Inv.lset{a:List ai}(I:Inv X pins σ H s)(g:H l=aa (.l xs))
  (e:s.heap.get? l=aa {cls:=.type "list",data:=.seq a.toArray n}) (hf:f a.toArray=its'.toArray) (c:aE ys its') (b:ys.length<=sizeLine) :
  Inv X pins σ (upd H l (.l ys)) {s with heap:=s.heap.update l (du f),toks:=t'}:=by
 have q:=PySem.IsL.update e f;rw[hf] at q;refine I.write (x:=l) (e:=l) (g▸trivial) (.inl rfl) (λh u hb d=>(l7 s.heap (du f) (bd hb)).trans d) ⟨_,q⟩ ?_;exact⟨b,its',_,c,q⟩
theorem Inv.lnew(I:Inv X pins σ H s)(b:aE ys j)(a:ys.length<=sizeLine) :
  Inv X pins σ (upd H s.heap.objs.size (.l ys)) {s with heap:=s.heap.push {cls:=.type "list",data:=.seq j.toArray},toks:=t'}:=
 I.laid (λ_ _ q=>bv _ q) (aK _) ⟨a,j,0,b,dy _ rfl⟩
theorem Inv.fresh(I:Inv X pins σ H s):H s.heap.objs.size=af:=I.hok.fresh (aK _)
theorem Inv.lstM(I:Inv X pins σ H s)(b:H l=aa (.l xs)):xs.length<=sizeLine/\∃(a:List ai) (n:Nat),aE xs a/\xs.length=a.length/\s.heap.get? l=aa {cls:=.type "list",data:=.seq a.toArray n}:=by
 obtain⟨z,a,n,r,e⟩:=I.hok l _ b;exact⟨z,a,n,r,r.length,e⟩
theorem YL(h:n<=sizeLine):sY n=ag:=by
 unfold sY;exact decide_eq_false (by lia)
end
section
variable {X:Cx}
noncomputable def MH:V->List V->Hp->VK->Prop:=λx a H Q=>∃l xs y,x=.ref l/\a=[y]/\H l=aa (.l xs)/\xs.length<sizeLine/\Q .n (upd H l (.l (xs++[y])))
theorem Zn:NA X "list.append" MH:=by
 intro b s i H x j v k Q I d f h;obtain⟨l,xs,y,rfl,rfl,c,m,q⟩:=h;subst d;obtain⟨u,rfl,g⟩:=f.one;obtain⟨z,a,n,r,o,e⟩:=I.lstM c;refine oa F.slot_list_append ⟨_,e,rfl⟩ F.entry_list_append (F.args_list_append_2 _ _) (PySem.list_append l a.toArray n u (by rw[cN];lia)) ⟨e,?_⟩;refine⟨.n,_,I.lset (its':=a++[u]) c e sC (r.append (.cons g .nil)) ?_,rfl,q⟩;rw[eX,BN];lia
end
end L2
namespace Att
open PySem PySem.W PySem.Calls PyProof.Rows
theorem y3{P:Params}:∀(ns:List Int) (vs:List ai),WellAll P h vs (ns.map zs)->fO vs ns:=by
 intro ns;induction ns with
 |nil=>
  intro vs w;rw[ww] at w;cases w;exact .nil
 |cons n ns c=>
  intro vs w;rw[cC] at w;cases w with
  |cons a b=>
   cases a;exact .cons _ _ (c _ b)
theorem KN{l:mD}(u:l.most=aa n){P:Params}{args:List WData} 
  (b:l.row.toRowW.claim.pre args=ae) (i:WellAll P h j args) :
  ∃a vs ns,j=[cG a]/\args=[WData.list (ns.map zs)]/\h.get? a=aa {cls:=.type "list",data:=.seq vs.toArray}/\fO vs ns/\ns.length<=n:=by
 have k:=(pre_splitW b).1;have m:l.pre.holds [] {args:=args}=ae:=(pre_splitW b).2;obtain⟨d,r,rfl,x,w⟩:=hasAllW_cons k;obtain rfl:=hasAllW_nil w;obtain⟨xs,rfl,v⟩:=hasW_list x;obtain⟨ns,rfl⟩:=items_int v;have c:ns.length<=n:=by
  unfold OpenLaw.pre at m;have g:(WTm.not (.lt (.lit (.int (n:Int))) (.len (.arg 0)))).holds [] {args:=[.list (ns.map .int)]}=ae:=by
   have g:=(holds_andW m).1;rw[u] at g;exact g
  have f:=condW_of g (w_not (w_lt w_lit (w_len_list (w_arg rfl))));rw[aL] at f;refine Nat.le_of_not_lt λq=>?_;have s:(n:Int)<((ns.length:Nat):Int):=by omega
  first
   |(rw[decide_eq_true s] at f;exact absurd f dC)
   |(simp at f;omega)
 cases i with
 |cons p o=>
  cases o;cases p with
  |list t e=>exact⟨_,_,ns,rfl,rfl,t,y3 ns _ e,c⟩
theorem KG(l:mD)(args:List WData):l.row.toRowW.claim.post args (.bool ae) args=ae:=
 postW_of (r:=l.row.toRowW) (X:=(ae==ae))
  (show Ad [] (.bool ae) .bool=ae by first|rfl|decide|simp[Ad,WShape.arms,WShape.armsAll])
  (show (WTm.eq .res (.lit (.bool ae))).value [] {args:=args,res:=aa (.bool ae),after:=args}=aa (.bool (ae==ae)) from w_eq_bool (w_res rfl) w_lit) rfl
theorem attach_call{l:mD}{n:Nat}{d:DefRec}
  (D:l.most=aa n) (u:d.params.defaults=[])
  (call:∀(w:dh) (s₀ b:aJ) (mg mb:ao->Option ai) (k:ak) (o:bj) (m cd e:ai) (a:ak) (vs:List ai) (ns:List Int),
   Ground q j [] XP w s₀ mg mb b.heap->M w b.heap->
   b.heap.get? k=aa o->o.data=.func (docDef d.name d.params d.body d.scope m cd e)->b.heap.CodeRec cd d.name->mg d.name=aa (.ref k)->
   b.heap.get? a=aa {cls:=.type "list",data:=.seq vs.toArray}->fO vs ns->ns.length<=n->b.gens=#[]->
   fC (aC l.prog w) mF (.call (.ref k) ⟨[.ref a],[]⟩) (λr s=>r=.ok (.ret (.bool ae))/\OldK b.heap s.heap/\s.os=b.os/\hY s.gens) b) :
  WalkO q j XP M l.row.toRowW d [] (λf vs=>Ac f vs):=by
 intro w s₀ b mg mb G Y k o m cd e L kV C hd v z t H args x N g y A p F;obtain rfl:L=.none:=Dflts.none z u;obtain rfl:kV=.none:=Dflts.noKw z;obtain⟨a,vs,ns,rfl,rfl,h,c,i⟩:=KN D g p;refine enter_call (ii (call w s₀ b mg mb k o m cd e a vs ns G Y C (fd_plain hd) v t h c i H) λr s B=>?_);obtain⟨rfl,K,J,I⟩:=B;exact⟨.inl ⟨.bool ae,.bool ae,[],rfl,λ_=>rfl,.bool ae,KG l _,λ_=>⟨iP,λ_ E=>(nomatch E)⟩⟩,K,J,I⟩
section
noncomputable def tV(h:aG)(L d:ak):List (ak×bj):=(dm h.objs.size).filterMap λa=>if a=L\/a=d then af else (h.get? a).map λo=>(a,o)
end
end Att
namespace L2
open PySem PySem.Spec PyProof.Rows
theorem vals_ints:∀{vs:List ai}{ns:List Int},fO vs ns->aE (ns.map V.int) vs
 |_,_,.nil=>.nil
 |_,_,.cons n t h=>.cons ⟨t,rfl⟩ (vals_ints h)
noncomputable abbrev NY{K:bc}{h:aG}(_:K.In h):bc:=K
noncomputable def ax(s:aV)(j:Nat):aV:=match s with
 |.ClassDef _ _ _ body _ _ _ _ _ _ _=>body.getD j (.Pass ⟨0,0,0,0⟩)
 |_=>.Pass ⟨0,0,0,0⟩
noncomputable def vC(s:aV):Arguments:=match s with
 |.FunctionDef _ a _ _ _ _ _ _ _ _=>a
 |_=>{posonlyargs:=[],args:=[],vararg:=af,kwonlyargs:=[],kw_defaults:=[],kwarg:=af,defaults:=[]}
noncomputable def zV(s:aV):List aV:=match s with
 |.FunctionDef _ _ b _ _ _ _ _ _ _=>b
 |_=>[]
noncomputable def qy(s:aV):Scope:=match s with
 |.FunctionDef _ _ _ _ _ _ a _ _ _=>a
 |_=>{kind:=.function,names:=[],isGenerator:=ag,isCoroutine:=ag}
noncomputable abbrev E0:XK:=λ_ _ _=>False
structure wv(K:PySem.W.Frag)(x qual:ao)(st:aV)(f:ak)(fd:FuncData):Prop where
 ex:∃(oc:ai) (od:Option ak) (kV doc pm:ai) (an:Option ak) (cdv ct:ai) (osl:Array (Option ai)),
  fd=fm x qual (vC st) (zV st) (qy st) .none kV doc pm an cdv ct/\K.lookup f=aa ⟨oc,od,.func fd,osl⟩/\gV K cdv qual=ae
 kp:gY K (.ref f)=ae
section
variable {K:PySem.W.Frag}
theorem wv.binds{st:aV}(F:wv K x j st f fd)
  (h:∀(kV a c:ai) (d:Option ak) (b ct:ai) (us:List ai),us.length=ps.length->mH (fm x j (vC st) (zV st) (qy st) .none kV a c d b ct) ⟨us,[]⟩=pure (ps.zip us)):Binds K fd ps []:=by
 obtain⟨k,i,kV,a,c,d,b,ct,e,rfl,lk,g⟩:=F.ex;exact .all (h kV a c d b ct)
theorem IZ{st:aV}{g e:Option ak}{kV b d a ct:ai}(l:K.lookup f=aa ⟨u,g,.func (fm x j (vC st) (zV st) (qy st) .none kV b d e a ct),s⟩)
  (c:gV K a j=ae) (k:gY K (.ref f)=ae):wv K x j st f (fm x j (vC st) (zV st) (qy st) .none kV b d e a ct):=⟨⟨u,g,kV,b,d,e,a,ct,s,rfl,l,c⟩,k⟩
end
noncomputable def v_ (H a:Hp):Prop:=∀b o,H b=aa o->a b=aa o
end L2
end
namespace NH
open PySem
noncomputable def stC:ai->ai
 |.int i _=>.ref i.toNat
 |v=>v
noncomputable def Er (h:aG)(x:ak)(cls:ai)(d:Option ak):Prop:=∃c b e,h.get? x=aa c/\(c.cls=stC cls/\c.dict=d)/\c.data=.fields b/\b[0]?=aa e/\b[1]?=aa .none/\∀a,cls=.ref a->b[2]?=aa .none
inductive dR(h:aG)(x T:ak)(cls:ai)(d:Option ak)(fl:ai):Prop where
 |mk (oe:bj) (vs:Array ai) (a0:ai) (oT:bj) (ts:Array ai) (h1:h.get? x=aa oe) (h2:oe.cls=stC cls/\oe.dict=d) (h3:oe.data=.fields vs) (h4:vs[0]?=aa a0) (h5:vs[1]?=aa (.ref T)) (h6:T≠x) (h7:h.get? T=aa oT) (h8:oT.data=.fields ts) (h9:ts[3]?=aa fl) (h10:∀a,cls=.ref a->vs[2]?=aa .none)
noncomputable def CI (h:aG)(x:ak)(cls:ai)(d:Option ak):Option ak->ai->Prop
 |none,a=>Er h x cls d/\a=.none
 |some T,a=>dR h x T cls d a
structure dA(fs:List ak)(x:ak)(T T':Option ak)(h h':aG):Prop where
 keep:∀b o,h.get? b=aa o->b∉fs->b≠x->b∉T.toList->h'.get? b=aa o
 slot:∀b o,h.get? b=aa o->b∈fs->b≠x->b∉T.toList->∃sl,h'.get? b=aa {o with slots:=sl}
 newT:∀t∈T'.toList,t∈T.toList\/h.objs.size<=t
theorem dA.refl(fs:List ak)(x:ak)(T:Option ak)(h:aG):dA fs x T T h h:=⟨λ_ _ e _ _ _=>e,λ_ o e _ _ _=>⟨o.slots,e⟩,λ_ ht=>.inl ht⟩
theorem yj(o:bj)(f:Array ai->Array ai):(iN f o).dict=o.dict:=by
 obtain⟨c,d,a,b⟩:=o;cases a<;>rfl
section
variable {s:Shared}
theorem Yz(a:A.frames=aa (e0::outer))(c:s.heap.FunFrames base (e0::outer))
  (hf:env.frame=aa L) (h0:e0.frame=aa L) (h:∀h',Heap.SlotsOnly ((e0::outer).filterMap (·.frame)) s.heap h'->Q (.ref L) {s with heap:=h'}):aA M A (frameOf env) Q E s:=by
 refine ay (wpAny_frameEnvs a ?_);have hw:((e0::outer).dropWhile λy=>y.frame != env.frame)=e0::outer:=by simp[ hf,h0]
 rw[hw];refine ay (ay (wpAny_readyFrames_fun c λd b=>aU ?_));rw[h0];exact aU (h d b)
theorem um 
  (q:A.frames=aa (e0::outer)) (v:s.heap.FunFrames base (e0::outer)) (hf:env.frame=aa L) (h0:e0.frame=aa L)
  (ho:s.heap.get? x=aa z) (hc:z.cls=stC cls/\z.dict=d) (hd:z.data=.fields vs) (p:vs[0]?=aa a0) (j:1<vs.size) (n:∀a,cls=.ref a->vs[2]?=aa .none)
  (h:∀h' t,dR h' x t cls d (cI L)->dA ((e0::outer).filterMap (·.frame)) x T (aa t) s.heap h'->s.heap.objs.size<=t->Q () {s with heap:=h'}) :
  aA M A (do let a ←frameOf env;let pl ←entryPlaceOf L J;let b ←EntryCells.newEntry u a .none (cI L) .none pl;setField (.ref x) 1 b) Q E s:=by
 have m:x∉(e0::outer).filterMap (·.frame):=λH=>by
  obtain⟨_,o,ho',D⟩:=v.mem H;rw[ho] at ho';(replace ho':=zo ho';subst ho');exact D vs hd
 refine ay (Yz q v hf h0 λg i=>ay (wpAny_entryPlaceOf λpl k=>ay (lA ?_ (k.sizeOk5 _ _ _ _ _))));have y:=(i.2.1 x m).trans ho;generalize l:({cls:=.type "traceback",dict:=af,data:=.fields ([u,.ref L,.none,cI L,.none]++(if pl.isEmpty then lb 6 lV else pl)).toArray}:bj)=ob;have w:=bv ob y;have f:ob.isFreed=ag:=by rw[<-l];rfl
 refine oM w hd j ?_;have r:=fP (bz y);have B:=AZ hd (·.setIfInBounds 1 (cG g.objs.size));have K:=oW (iN (·.setIfInBounds 1 (cG g.objs.size))) w (BM B);have c:∀b o,b≠x->g.get? b=aa o->((g.push ob).update x (iN (·.setIfInBounds 1 (cG g.objs.size)))).get? b=aa o:=λb o I e=>by
  rw[l7 _ _ (bd I)];exact bv _ e
 refine h _ g.objs.size ⟨_,_,a0,ob,_,K,⟨(Obj.cls_mapFields _ _).trans hc.1,(yj _ _).trans hc.2⟩,B,by rw[BU dC];exact p,by simp[j],r,?_,(by rw[<-l]),?_,λa e=>by rw[BU dC];exact n a e⟩ ⟨λb o e F nx _=>?_,λb o e _ nx _=>?_,λt G=>.inr ?_⟩ (lh i.1.symm)
 .rw[l7 _ _ (bd r)];exact dy _ f
 .first|(simp;done)|(rcases k with rfl|⟨_,_,_,_,_,_,_,rfl⟩<;>simp)
 .exact c b o nx ((i.2.1 b F).trans e)
 .obtain⟨C,N⟩:=i.2.2 b o e;exact⟨C,c b _ nx N⟩
 .have:t=g.objs.size:=by simpa using G
  rw[this];exact lh i.1.symm
theorem Ur 
  (p:A.frames=aa (e0::outer)) (B:s.heap.FunFrames base (e0::outer)) (hf:env.frame=aa L) (h0:e0.frame=aa L) (I:CI s.heap x cls d T fl) (C:fl=.none\/fl=cI L)
  (h:∀h' t,dR h' x t cls d (cI L)->dA ((e0::outer).filterMap (·.frame)) x T (aa t) s.heap h'->Q () {s with heap:=h'}):aA M A (n0 (.ref x) env) Q E s:=by
 unfold n0;simp only[hf];cases T with
 |none=>
  obtain⟨⟨H,G,N,m,q,hd,l,f,k⟩,_⟩:=I;exact ay (f9 m hd f (um p B hf h0 m q hd l (nr.mp f).1 k λh' t a b _=>h h' t a b))
 |some T=>
  obtain⟨H,G,N,P,r,m,q,hd,l,f,K,g,i,F,k⟩:=I;refine ay (f9 m hd f (ay (f9 g i F ?_)));by_cases J:fl=cI L
  .subst J;rw[if_pos sC];exact aU (h s.heap T ⟨H,G,N,P,r,m,q,hd,l,f,K,g,i,F,k⟩ (dA.refl _ _ _ _))
  .obtain rfl:fl=.none:=C.resolve_right J;refine ay (oM g i (nr.mp F).1 ?_);have j:∀b,b≠T->(s.heap.update T (iN (·.setIfInBounds 3 lV))).get? b=s.heap.get? b:=λb D=>l7 _ _ (bd D);have R:∀b∈(e0::outer).filterMap (·.frame),b≠T:=λb D z=>by
    obtain⟨_,o,ho',u⟩:=B.mem D;rw[z,g] at ho';(replace ho':=zo ho';subst ho');exact u r i
   refine um (T:=aa T) p (B.of_keeps λb o e u=>⟨o,(j b λz=>?_).trans e,rfl⟩) hf h0 ((j x (bd K)).trans m) q hd l (nr.mp f).1 k λh' t a b c=>h h' t a ⟨?_,?_,?_⟩
   .rw[z,g] at e;(replace e:=zo e;subst e);exact u r i
   .exact λd o e w v n=>b.keep d o ((j d λz=>n (by simp[z])).trans e) w v n
   .exact λd o e w v n=>b.slot d o ((j d λz=>n (by simp[z])).trans e) w v n
   .intro O y;rcases b.newT O y with z|z
    .exact .inl z
    .exact .inr (cf (lh ((Heap.size_after_update ..).symm)) z)
theorem Vn(u:dR s.heap x T cls d fl)
  (h:∀h',dR h' x T cls d (fr.elim .none λf=>cI f)->dA fs x (aa T) (aa T) s.heap h'->Q () {s with heap:=h'}):aA M A (mI (.ref x) fr) Q E s:=by
 obtain⟨r,q,C,F,D,l,w,hd,k,c,m,g,i,B,j⟩:=u;have sz:=(nr.mp B).1;refine ay (f9 l hd c (oM g i sz ?_));have a:∀b,b≠T->(s.heap.update T (iN (·.setIfInBounds 3 (fr.elim .none λf=>cI f)))).get? b=s.heap.get? b:=λb y=>l7 _ _ (bd y);have p:=AZ i (·.setIfInBounds 3 (fr.elim lV λf=>cI f))
 exact h _ ⟨r,q,C,_,_,(a x (bd m)).trans l,w,hd,k,c,m,oW _ g (BM p),p,by simp[sz],j⟩
  ⟨λb o e _ _ n=>(a b λz=>n (by simp[z])).trans e,λb o e _ _ n=>⟨o.slots,(a b λz=>n (by simp[z])).trans e⟩,λt v=>.inl v⟩
end
end NH
namespace NH
open PySem PySem.Spec PyProof.Rows L2
noncomputable abbrev St:=L2.St
theorem Kl{P:bL}(x:aR P w H h a o):∃ob,h.get? a=aa ob:=by
 cases o with
 |l xs=>obtain⟨_,_,_,_,e⟩:=x;exact⟨_,e⟩
 |t xs=>obtain⟨_,_,_,ob,e,_⟩:=x;exact⟨ob,e⟩
 |dK b=>obtain⟨_,_,_,_,o,_,_,e,_⟩:=x;exact⟨o,e⟩
 |dE i b=>obtain⟨_,_,_,_,o,_,e,_⟩:=x;exact⟨o,e⟩
 |set S n=>obtain⟨o,_,_,_,e,_⟩:=x;exact⟨o,e⟩
 |ins C j fs=>obtain⟨_,_,_,e,_⟩:=x;exact⟨_,e⟩
 |own y=>obtain⟨o,e⟩:=x;exact⟨o,e⟩
 |xd fs=>obtain⟨_,⟨o,_,_,e,_⟩,_⟩:=x;exact⟨o,e⟩
 |rng lo g=>obtain⟨_,_,_,e⟩:=x;exact⟨_,e⟩
 |frz ob u=>obtain⟨e,_⟩:=x;exact⟨_,e⟩
 |tbl d=>exact⟨_,x⟩
 |met f y=>exact⟨_,x⟩
 |ext c=>obtain⟨_,⟨o,e⟩,_⟩:=x;exact⟨o,e⟩
structure c7(X:Cx)(H:Hp)(b:ak):Prop where
 free:H b=af
 loc:b≠X.env.locals
 nfs:b∉X.fs
 new:b∈X.ex\/X.s₀.heap.get? b=af
 cel:∀x c,X.env.cells.lookup x=aa c->c≠b
 pin:∀p∈X.pn,p.1≠b
section
theorem QK(I:Inv X j u H s)(e:s.heap.get? b=af):H b=af:=by
 cases q:H b with
 |none=>rfl
 |some o=>
  obtain⟨ob,z⟩:=Kl (I.hok b o q);rw[e] at z;exact z9 z
theorem vj(I:Inv X j u H s)(e:s.heap.get? b=af):c7 X H b:=by
 refine⟨QK I e,λz=>?_,λz=>?_,?_,λx c q z=>?_,λp f z=>?_⟩
 .obtain⟨m,⟨o,_,_,a,_⟩,_⟩:=I.loc;rw[<-z,e] at a;exact z9 a
 .obtain⟨_,o,a,_⟩:=I.funs.mem z;rw[e] at a;exact z9 a
 .by_cases d:b∈X.ex
  .exact .inl d
  .refine .inr ?_;cases q:X.s₀.heap.get? b with
   |none=>rfl
   |some o=>
    obtain⟨g,z⟩:=I.base.there b o q d;rw[e] at z;exact z9 z
 .obtain⟨v,o,a,_⟩:=I.cell x c q;rw[z,e] at a;exact z9 a
 .have:=(I.pin p (c_ _ f)).1;rw[z,e] at this;exact z9 this
theorem kB{ch:List ak}(I:Inv X j M H s)(a:∀b∈ch,c7 X H b/\∀p∈j,p.1≠b)
  (keep:∀b o,b∉dQ X.stack->b∉ch->s.heap.get? b=aa o->h'.get? b=aa o)
  (slot:∀b o,b∈dQ X.stack->b∉ch->s.heap.get? b=aa o->∃B,h'.get? b=aa {o with slots:=B}) :
  Inv X j M H {s with heap:=h'}:=by
 have G:∀b u,H b=aa u->b∉ch:=λb u e z=>by rw[(a b z).1.free] at e;exact z9 e
 have w:∀b u,H b=aa u->b∉dQ X.stack:=λb u e z=>by rw[I.stkFree b z] at e;exact z9 e
 have any:∀b o,b∉ch->s.heap.get? b=aa o->∃B,h'.get? b=aa {o with slots:=B}:=λb o t e=>by
  by_cases L:b∈dQ X.stack
  .exact slot b o L t e
  .exact⟨o.slots,keep b o L t e⟩
 have y:∀b,b≠X.env.locals->b∉X.fs->b∉dQ X.stack:=λb U T z=>(bC.mp (I.stkSub b z)).elim U T;have h:∀b o,X.s₀.heap.get? b=aa o->b∉X.ex->b∉ch:=λb o e f z=>by
  rcases (a b z).1.new with q|q
  .exact f q
  .rw[e] at q;exact w6 q
 have g:∀x c,X.env.cells.lookup x=aa c->∀v,s.heap.IsCell c v->h'.IsCell c v:=λx c e v ⟨o,F,hd⟩=>by
  obtain⟨B,q⟩:=any c o (λz=>(a c z).1.cel x c e rfl) F;exact⟨_,q,hd⟩
 refine⟨I.ok,I.os,I.bare,⟨λb o e n t f=>?_,λb o e n t f=>?_,λb o e n f=>I.base.free b o e n f,λb o e f=>?_,λb xs e=>I.base.tups b xs e,λb o xs e=>I.base.frzs b o xs e,λb O e=>I.base.tbls b O e⟩,?_,λx c e=>?_,I.free,λx c e=>I.freeC x c e,λp K=>?_,λb u e=>?_,I.len⟩
 .exact keep b o (y b ((λb o e=>b_ (cz (bz e) I.ok.above)) b o e) t) (h b o e f) (I.base.keep b o e n t f)
 .obtain⟨B,C⟩:=I.base.slot b o e n t f;obtain⟨D,A⟩:=any b _ (h b o e f) C;exact⟨D,A⟩
 .obtain⟨P,C⟩:=I.base.there b o e f;obtain⟨B,A⟩:=any b P (h b o e f) C;exact⟨_,A⟩
 .obtain⟨m,⟨o,V,W,F,r⟩,Q⟩:=I.loc;obtain⟨B,S⟩:=any X.env.locals o (λz=>(a _ z).1.loc rfl) F;refine⟨m,⟨_,V,W,S,r⟩,λi x v C A Y=>?_⟩;obtain⟨u,N,l⟩:=Q i x v C A Y;refine⟨u,N,?_⟩;rcases l with l|⟨k,c,e,z⟩
  .exact .inl l
  .exact .inr ⟨k,c,e,g x c e _ z⟩
 .obtain⟨v,z⟩:=I.cell x c e;exact⟨v,g x c e v z⟩
 .obtain⟨e,n,ne,J,d⟩:=I.pin p K;have E:p.1∉ch:=λz=>by
   rcases bf.mp K with q|q
   .exact (a p.1 z).1.pin p q rfl
   .exact (a p.1 z).2 p q rfl
  exact⟨keep p.1 p.2 (y p.1 ne J) E e,n,ne,J,d⟩
 .refine (I.hok b u e).stay (λc v R q=>?_) (λ_ q=>q) λ_ _ q=>q;rcases R with z|z
  .subst z;exact keep c v (w c u e) (G c u e) q
  .exact keep c v (w c _ z) (G c _ z) q
structure iF(X:Cx)(e0:Env)(out:List Env)(L:ak):Prop where
 stk:X.stack=e0::out
 f0:e0.frame=aa L
 fe:X.env.frame=aa L
noncomputable abbrev XW:=ai->Option ak->St->Hp->Prop
inductive XP(X:Cx)(W:XW)(e:ai)(s:Shared):Prop where
 |mk (x:ak) (cls:ai) (d:Option ak) (σ:St) (H:Hp) (T:Option ak) (fl:ai) (ee:e=.ref x) (i:Inv X [] σ H s) (ox:c7 X H x) (ot:∀t∈T.toList,c7 X H t) (r:CI s.heap x cls d T fl) (hf:fl=.none\/∃L,X.env.frame=aa L/\fl=cI L) (w:W cls d σ H)
theorem Jj{T:Option ak}(I:Inv X [] j H s)(f:c7 X H x)(ot:∀t∈T.toList,c7 X H t)(c:dA (dQ X.stack) x T (aa t) s.heap h') :
  Inv X [] j H {s with heap:=h'}/\c7 X H t:=by
 refine⟨kB (ch:=x::T.toList) I (λb h=>⟨?_,λp g=>absurd g sC⟩) (λb o d a e=>?_) (λb o d a e=>?_),?_⟩
 .rcases bC.mp h with z|z
  .rw[z];exact f
  .exact ot b z
 .exact c.keep b o e d (λz=>a (by simp[z])) (λz=>a (cJ _ z))
 .exact c.slot b o e d (λz=>a (by simp[z])) (λz=>a (cJ _ z))
 .rcases c.newT t sC with z|z
  .exact ot t z
  .exact vj I (iR z)
theorem y9{W:XW}(F:iF X e0 out L)(b:A.frames=aa X.stack)(p:XP X W e s)
  (h:∀x cls d j H T h',e=.ref x->Inv X [] j H {s with heap:=h'}->c7 X H x->c7 X H T->dR h' x T cls d (cI L)->W cls d j H->Q () {s with heap:=h'}):aA M A (n0 e X.env) Q E s:=by
 obtain⟨x,cls,d,j,H,T,q,rfl,I,g,ot,m,f,w⟩:=p;have a:=I.stack;rw[F.stk] at b a;refine Ur b a F.fe F.f0 m (f.imp_right λ⟨r,c,n⟩=>by rw[F.fe] at c;(replace c:=zo c;subst c);exact n) λh' t i l=>?_;obtain⟨o,k⟩:=Jj I g ot (F.stk▸l);exact h x cls d j H t h' rfl o g k i w
theorem qI(I:Inv X [] j H s)(c:c7 X H x)(e:c7 X H T)(b:dR s.heap x T cls d fl)
  (h:∀h',Inv X [] j H {s with heap:=h'}->dR h' x T cls d (fr.elim .none λf=>cI f)->Q () {s with heap:=h'}):aA M A (mI (.ref x) fr) Q E s:=by
 refine Vn b λh' a g=>h h' (Jj I c (λt i=>?_) g).1 a;have:t=T:=by simpa using i
 rw[this];exact e
theorem xc{W:XW}(F:iF X e0 out L)(f:X.A.frames=aa X.stack):mJ M X.A X.env (XP X W):=by
 intro e s p;refine y9 F f p λx cls d j H T r u I h i g w=>?_;subst u;obtain⟨B,y,J,k,z,o,C,hd,l,c,D,n,q,E,_⟩:=id g;refine ay (f9 o hd c ?_);rw[F.fe]
 have go:aA M X.A (mI (.ref x) (aa L)) (λ_ b=>XP X W (.ref x) b) (XP X W) {s with heap:=r}:=
  qI I h i g λG v a=>⟨x,cls,d,j,H,aa T,cI L,rfl,v,h,λt m=>by
   have:t=T:=by simpa using m
   rw[this];exact i,a,.inr ⟨L,F.fe,rfl⟩,w⟩
 first|exact go|exact ay (aU go)
inductive NO(P:Program)(w:World)(outer:List Env)(H:Hp)(s:Shared)(E:XK)(e:ai)(s':Shared):Prop where
 |mk (x T:ak) (cls:ai) (d:Option ak) (H':Hp) (ee:e=.ref x) (o:s'.os=s.os) (b:hY s'.gens) (n:Un (dQ outer) [] H H' s.heap s'.heap) (k:cM P w H' s'.heap) (h1:s.heap.get? x=af) (h2:s.heap.get? T=af) (h3:H' x=af) (h4:H' T=af) (t:dR s'.heap x T cls d .none) (q:E cls d H')
noncomputable def dB (P:bL)(w:dh):lI:=NO P w
noncomputable def d9 (E:XK):XW:=λc d _ H=>E c d H
theorem Wf(F:iF X e0 out L)(i:X.A.frames=aa X.stack)(a:X.ex=[])(p:XP X (d9 E) e s) :
  aA M X.A (leaving X.env e) (λ_ j=>dB X.prog X.w X.outer X.H₀ X.s₀ E e j) F2 s:=by
 refine ay (y9 F i p λx cls d n H T r m I g h l w=>?_);subst m;refine qI I g h l λq c f=>?_;have k:∀b,c7 X H b->X.s₀.heap.get? b=af:=λb o=>o.new.resolve_left (by rw[a];simp);refine⟨x,T,cls,d,H,rfl,c.os,c.bare,?_,c.hok,k x g,k T h,g.free,h.free,f,w⟩;have:=c.base;rw[a] at this;exact this
theorem yc{W:XW}(I:Inv X B u H s)(c:dB X.prog X.w X.stack H s E e C)(h:∀cls d j,E cls d j->W cls d u j):XP X W e C:=by
 obtain⟨x,T,cls,d,j,rfl,os,a,un,g,nx,l,fx,q,i,w⟩:=c;have k:∀b,s.heap.get? b=af->j b=af->c7 X j b:=λb e f=>by
  have o:=vj I e;exact⟨f,o.loc,o.nfs,o.new,o.cel,o.pin⟩
 refine⟨x,cls,d,u,j,aa T,.none,rfl,(I.call' os un g a λb z=>absurd z sC).pins_of (λp n=>absurd n sC),k x nx fx,λt m=>?_,i,.inl rfl,h cls d j w⟩;have:t=T:=by simpa using m
 rw[this];exact k T l q
theorem ML{W:XW}{args:List ai}(I:Inv X j u H s)(mk:oK s.heap h2 x (.ref C) args)(w:W (.ref C) af u H):XP X W (.ref x) {s with heap:=h2}:=by
 have J:Inv X j u H {s with heap:=h2,toks:=s.toks}:=I.kept mk.keeps;obtain⟨t,c,_,_⟩:=mk.there;exact⟨x,.ref C,af,u,H,af,.none,rfl,J.pins_of (λp b=>absurd b sC),vj I mk.new,λt a=>absurd a sC,⟨⟨_,_,.ref t,c,⟨rfl,rfl⟩,rfl,rfl,rfl,λ_ _=>rfl⟩,rfl⟩,.inl rfl,w⟩
noncomputable abbrev Cx.pin'(X:Cx)(a:List (ak×bj)):Cx:={X with pn:=X.pn++a}
noncomputable abbrev Cx.han(X:Cx)(x:ak):Cx:={X with A:=X.A.mark (aa (.ref x)),calm:=ag,xe:=λ_ _=>False}
theorem Yc(ok:X.Ok):(Cx.pin' X j).Ok:=⟨ok.mod,ok.kind,ok.glob,ok.blt,ok.above,ok.inj,ok.has,ok.cab,ok.hd,ok.frames,ok.stk,ok.exf,ok.bs,ok.bsz,ok.noex,ok.exfs,ok.funs,ok.frf⟩
theorem QM(ok:(Cx.pin' X j).Ok):X.Ok:=⟨ok.mod,ok.kind,ok.glob,ok.blt,ok.above,ok.inj,ok.has,ok.cab,ok.hd,ok.frames,ok.stk,ok.exf,ok.bs,ok.bsz,ok.noex,ok.exfs,ok.funs,ok.frf⟩
theorem Hm(ok:X.Ok):(Cx.han X x).Ok:=⟨ok.mod,ok.kind,ok.glob,ok.blt,ok.above,ok.inj,ok.has,ok.cab,(λh=>by injection h),ok.frames,ok.stk,ok.exf,ok.bs,ok.bsz,ok.noex,ok.exfs,ok.funs,ok.frf⟩
theorem Wz(I:Inv X j u H s):Inv (Cx.pin' X j) [] u H s:=⟨Yc I.ok,I.os,I.bare,I.base,I.loc,I.cell,I.free,I.freeC,λp a=>I.pin p (by simpa using a),I.hok,I.len⟩
theorem zS(I:Inv (Cx.pin' X j) [] u H s):Inv X j u H s:=⟨QM I.ok,I.os,I.bare,I.base,I.loc,I.cell,I.free,I.freeC,λp a=>I.pin p (by simpa using a),I.hok,I.len⟩
theorem ZZ(I:Inv X j u H s):Inv (Cx.han X x) j u H s:=⟨Hm I.ok,I.os,I.bare,I.base,I.loc,I.cell,I.free,I.freeC,I.pin,I.hok,I.len⟩
theorem kT(ok:X.Ok)(I:Inv (Cx.han X x) j u H s):Inv X j u H s:=⟨ok,I.os,I.bare,I.base,I.loc,I.cell,I.free,I.freeC,I.pin,I.hok,I.len⟩
theorem jc{W:XW}(p:XP (X.wish E) W e s):XP X W e s:=by
 obtain⟨x,cls,d,f,H,T,j,a,I,b,c,r,h,g⟩:=p;exact⟨x,cls,d,f,H,T,j,a,I.unwish,⟨b.free,b.loc,b.nfs,b.new,b.cel,b.pin⟩,λt i=>let b:=c t i;⟨b.free,b.loc,b.nfs,b.new,b.cel,b.pin⟩,r,h,g⟩
end
end NH
namespace NH
open PySem
inductive T where
 |n|bl (b:Bool)|int (i:Int)|str (x:ao)
 |t (ts:List T)|l (ts:List T)|obj (c:Nat) (fs:List (Nat×T))
 |m (i:Nat)
 |exc (c:Nat) (fs:List (Nat×T))
 |d (kvs:List (L2.Key×T))
 |clo (j:Nat) (cs:List T)
inductive MO where
 |l (ts:List T)|obj (c:Nat) (fs:List (Nat×T))|d (kvs:List (L2.Key×T))
 |tab (j:Nat)|frd (ep:Nat) (kvs:List (L2.Key×T))
noncomputable abbrev CT:MO->Bool
 |.tab _=>ae
 |_=>ag
noncomputable abbrev Mem:=List MO
noncomputable abbrev Sl:=List (Option T)
mutual
def j5:T->Bool
 |.m _=>ag
 |.t a=>yF a
 |.l a=>yF a
 |.obj _ fs=>xx fs
 |.exc _ fs=>xx fs
 |.d b=>JL b
 |.clo _ cs=>yF cs
 |_=>ae
def yF:List T->Bool
 |[]=>ae
 |t::r=>j5 t&&yF r
def xx:List (Nat×T)->Bool
 |[]=>ae
 |p::r=>j5 p.2&&xx r
def JL:List (L2.Key×T)->Bool
 |[]=>ae
 |p::r=>j5 p.2&&JL r
end
noncomputable abbrev Xp:=Nat->List (Nat×T)->Mem->Prop
noncomputable abbrev RE(β:Type):=(β->Mem->Prop)->Xp->Prop
noncomputable abbrev RE.ok{β:Type}(a:β)(μ:Mem):RE β:=λK _=>K a μ
noncomputable abbrev RE.st{β:Type}:RE β:=λ_ _=>False
noncomputable abbrev RE.bind{β b:Type}(r:RE b)(k:b->Mem->RE β):RE β:=λK Z=>r (λa μ=>k a μ K Z) Z
noncomputable abbrev RE.grd{β:Type}(p:Prop)(r:RE β):RE β:=λK Z=>p/\r K Z
noncomputable abbrev RE.som{β b:Type}(o:Option b)(k:b->RE β):RE β:=λK Z=>∃a,o=aa a/\k a K Z
abbrev fY(b:Bool)(A B:Prop):Prop:=match b with
 |true=>A
 |false=>B
noncomputable abbrev RE.br{β:Type}(b:Bool)(r s:RE β):RE β:=λK Z=>fY b (r K Z) (s K Z)
structure En where
 nx:Sl->Mem->Prop
 rt:T->Mem->Prop
 bk:Sl->Mem->Prop
 ct:Sl->Mem->Prop
 ex:Nat->List (Nat×T)->Sl->Mem->Prop
noncomputable abbrev bS:=En->Prop
noncomputable abbrev En.nxt(E:En)(f:Sl->Mem->Prop):En:=⟨f,E.rt,E.bk,E.ct,E.ex⟩
noncomputable abbrev En.turn(E:En)(N:Sl->Mem->Prop):En:=⟨N,E.rt,E.nx,N,E.ex⟩
noncomputable abbrev En.tri(E:En)(X:Nat->List (Nat×T)->Sl->Mem->Prop):En:=⟨E.nx,E.rt,E.bk,E.ct,X⟩
noncomputable abbrev En.fn(K:T->Mem->Prop)(Z:Xp):En:=⟨λ_ a=>K .n a,K,λ_ _=>False,λ_ _=>False,λc fs _ a=>Z c fs a⟩
noncomputable abbrev bS.nx(a:Sl)(μ:Mem):bS:=λE=>E.nx a μ
noncomputable abbrev bS.rt(t:T)(μ:Mem):bS:=λE=>E.rt t μ
noncomputable abbrev bS.ex(c:Nat)(fs:List (Nat×T))(a:Sl)(μ:Mem):bS:=λE=>E.ex c fs a μ
noncomputable abbrev bS.st:bS:=λ_=>False
noncomputable abbrev bS.grd(p:Prop)(o:bS):bS:=λE=>p/\o E
noncomputable abbrev bS.som{b:Type}(o:Option b)(k:b->bS):bS:=λE=>∃a,o=aa a/\k a E
noncomputable abbrev bS.br(b:Bool)(r s:bS):bS:=λE=>fY b (r E) (s E)
noncomputable abbrev bS.seq(o:bS)(f:Sl->Mem->bS):bS:=λE=>o (E.nxt λa μ=>f a μ E)
noncomputable abbrev RE.out{β:Type}(r:RE β)(b:Sl)(f:β->Mem->bS):bS:=λE=>r (λa μ=>f a μ E) (λc fs μ=>E.ex c fs b μ)
noncomputable abbrev Fn:=List T->Mem->RE T
noncomputable abbrev De:=Sl->Mem->RE T
noncomputable abbrev Dt:=Sl->Mem->RE Bool
noncomputable abbrev Da:=Sl->Mem->RE (List T)
noncomputable abbrev Ds:=Sl->Mem->bS
noncomputable abbrev RI:=(List T->(Mem->Prop)->Mem->Prop)->Xp->Prop
noncomputable abbrev RI.ok(xs:List T)(o:Mem->Prop)(μ:Mem):RI:=λK _=>K xs o μ
noncomputable abbrev RI.st:RI:=λ_ _=>False
noncomputable abbrev RI.grd(p:Prop)(r:RI):RI:=λK Z=>p/\r K Z
noncomputable abbrev RI.go{β:Type}(r:RI)(k:List T->(Mem->Prop)->Mem->RE β):RE β:=λK Z=>r (λxs o μ=>k xs o μ K Z) Z
noncomputable abbrev RI.out(r:RI)(a:Sl)(f:List T->(Mem->Prop)->Mem->bS):bS:=λE=>r (λxs o μ=>f xs o μ E) (λc fs μ=>E.ex c fs a μ)
noncomputable abbrev RI.re(r:RI):RE (List T×(Mem->Prop)):=λK Z=>r (λxs o μ=>K (xs,o) μ) Z
noncomputable abbrev RE.it{β:Type}(r:RE β)(k:β->Mem->RI):RI:=λK Z=>r (λa μ=>k a μ K Z) Z
noncomputable abbrev Di:=Sl->Mem->RI
abbrev lB:Mem->Prop:=λ_=>True
abbrev pK(i:Nat)(xs:List T):Mem->Prop:=λa=>a[i]?=aa (.l xs)
structure cT where
 jt:Nat
 qn:ao
 y:ao
 body:ap
 sc:Scope
 fr:ao
 g:De
noncomputable abbrev Xl(jt:Nat)(t:T):T:=.clo 300 [.clo (100+jt) [],.clo 200 [t]]
inductive GM where
 |fn (f:Fn)
 |met (c:Nat) (nm:ao) (f:Fn)
 |mk (c:Nat) (frozen:Bool) (f:Fn)
 |cst (t:T)
 |xcl (c:Nat)
 |xcf (c:Nat) (f:Nat)
 |xin (c f:Nat) (nm fl:ao)
 |kap (l:cT)
 |tbl (kvs:List (ao×Int))
 |none
 |bad
noncomputable abbrev K7(a:Sl):Nat->Option T:=eN (motive:=λ_=>Nat->Option T) (λ_=>af) (λo _ b i=>nX (motive:=λ_=>Option T) o (λn _=>b n) i) a
noncomputable abbrev yN(a:Sl):Nat->Option T->Sl:=eN (motive:=λ_=>Nat->Option T->Sl) (λ_ _=>[]) (λo r b i t=>nX (motive:=λ_=>Sl) (t::r) (λn _=>o::b n t) i) a
theorem Qm:∀{a:Sl}{i:Nat}{t:T},K7 a i=aa t↔a[i]?=aa (aa t)
 |[],_,_=>by simp
 |o::r,0,t=>by show o=aa t↔_;simp
 |o::r,n+1,t=>by
  rw[Qm (i:=n)];simp
theorem ye:∀{a:Sl}{i:Nat}{t:Option T},yN a i t=a.set i t
 |[],_,_=>by simp
 |o::r,0,t=>rfl
 |o::r,n+1,t=>by
  show o::yN r n t=_;rw[ye];simp
noncomputable abbrev V5(fs:List (Nat×T)):Nat->Option T:=eN (motive:=λ_=>Nat->Option T) (λ_=>af) (λp _ a i=>n5 (motive:=λ_=>Option T) (a i) (aa p.2) (eD p.1 i)) fs
noncomputable abbrev U9(f:Nat)(v:T)(fs:List (Nat×T)):List (Nat×T):=eN (motive:=λ_=>List (Nat×T)) [(f,v)] (λp r a=>n5 (motive:=λ_=>List (Nat×T)) (p::a) ((p.1,v)::r) (eD p.1 f)) fs
theorem J_:V5 (p::r) i=match eD p.1 i with
  |true=>aa p.2
  |false=>V5 r i:=by
 show (n5 (V5 r i) (aa p.2) (eD p.1 i):Option T)=_;cases eD p.1 i<;>rfl
theorem Ku:U9 f v (p::r)=match eD p.1 f with
  |true=>(p.1,v)::r
  |false=>p::U9 f v r:=by
 show (n5 (p::U9 f v r) ((p.1,v)::r) (eD p.1 f):List (Nat×T))=_;cases eD p.1 f<;>rfl
noncomputable def cF:List ao->ao->Option Nat
 |[],_=>af
 |y::r,x=>if y=x then aa 0 else (cF r x).map (·+1)
noncomputable abbrev Dh:T->Mem->Option Nat
 |.n,_=>aa 0
 |.bl _,_=>aa 1
 |.int _,_=>aa 2
 |.str _,_=>aa 3
 |.t _,_=>aa 4
 |.l _,_=>aa 5
 |.obj c _,_=>aa c
 |_,_=>af
noncomputable abbrev Dg:MO->Nat
 |.l _=>5
 |.obj c _=>c
 |.d _=>6
 |.tab _=>99
 |.frd _ _=>6
noncomputable abbrev pb(a b:Bool):Bool:=match a with
 |true=>b
 |false=>ag
noncomputable abbrev ms(a b:Bool):Bool:=match a with
 |true=>ae
 |false=>b
noncomputable abbrev vV(a c:Nat):Bool:=ms (eD a c) (ms (pb (eD a 1) (eD c 2)) (pb (lP 10 a) (pb (lP a 39) (ms (eD c 11) (pb (eD c 10) (lP 12 a))))))
noncomputable abbrev cQ(t:Nat)(cs:List Nat):Bool:=eN (motive:=λ_=>Bool) ag (λc _ a=>ms (vV t c) a) cs
theorem y_:cQ t (c::r)=ms (vV t c) (cQ t r):=rfl
noncomputable def big:Int:=18446744073709551616
noncomputable def aB:Nat:=1000000
noncomputable abbrev pw:T->T->Mem->RE T
 |.int i,.int j,a=>.ok (.int (i+j)) a
 |.l xs,.l b,a=>.grd (xs.length+b.length<=aB) (.ok (.l (xs++b)) a)
 |.m i,.l b,a=>λK _=>∃xs,a[i]?=aa (.l xs)/\xs.length+b.length<=aB/\K (.l (xs++b)) a
 |.l xs,.m j,a=>λK _=>∃b,a[j]?=aa (.l b)/\xs.length+b.length<=aB/\K (.l (xs++b)) a
 |_,_,_=>.st
noncomputable abbrev VG(f:Int->Int->Mem->RE T):T->T->Mem->RE T
 |.int i,.int j,a=>f i j a
 |_,_,_=>.st
noncomputable abbrev B_:Operator->T->T->Mem->RE T
 |.Add=>pw
 |.Sub=>VG λi j a=>.ok (.int (i-j)) a
 |.Mult=>VG λi j a=>.grd ((-big<i/\i<big)\/(-big<j/\j<big)) (.ok (.int (i*j)) a)
 |.FloorDiv=>VG λi j a=>.grd (0<j/\j<1606938044258990275541962092341162602522202993782792835301376) (.ok (.int (i / j)) a)
 |.Mod=>VG λi j a=>.grd (0<j) (.ok (.int (i % j)) a)
 |.Pow=>VG λi j a=>.grd (0<=j/\j<=1000000/\i.natAbs<18446744073709551616) (.ok (.int (i ^ j.toNat)) a)
 |_=>λ_ _ _=>.st
mutual
def eqT:T->T->Option Bool
 |.int i,b=>match b with
  |.int j=>aa (i==j)
  |.bl k=>aa (i==(if k then 1 else 0))
  |.str _=>aa ag
  |.n=>aa ag
  |.t _=>aa ag
  |.l _=>aa ag
  |_=>af
 |.bl k,b=>match b with
  |.int j=>aa ((if k then 1 else 0)==j)
  |.bl j=>aa (k==j)
  |.str _=>aa ag
  |.n=>aa ag
  |.t _=>aa ag
  |.l _=>aa ag
  |_=>af
 |.str x,b=>match b with
  |.str y=>aa (x==y)
  |.int _=>aa ag
  |.bl _=>aa ag
  |.n=>aa ag
  |.t _=>aa ag
  |.l _=>aa ag
  |_=>af
 |.n,b=>match b with
  |.n=>aa ae
  |.int _=>aa ag
  |.bl _=>aa ag
  |.str _=>aa ag
  |.t _=>aa ag
  |.l _=>aa ag
  |_=>af
 |.t xs,b=>match b with
  |.t a=>bK xs a
  |.n=>aa ag
  |.int _=>aa ag
  |.bl _=>aa ag
  |.str _=>aa ag
  |.l _=>aa ag
  |_=>af
 |.l xs,b=>match b with
  |.l a=>bK xs a
  |.n=>aa ag
  |.int _=>aa ag
  |.bl _=>aa ag
  |.str _=>aa ag
  |.t _=>aa ag
  |_=>af
 |_,_=>af
def bK:List T->List T->Option Bool
 |[],[]=>aa ae
 |[],_::_=>aa ag
 |_::_,[]=>aa ag
 |x::xs,y::c=>match eqT x y,bK xs c with
  |some a,aa b=>aa (a&&b)
  |_,_=>af
end
mutual
def wU:T->Nat
 |.t a=>q9 a+1
 |.l a=>q9 a+1
 |_=>0
def q9:List T->Nat
 |[]=>0
 |t::r=>max (wU t) (q9 r)
end
noncomputable abbrev tP:T->T->Option Bool
 |.int i,.int j=>aa (decide (i=j))|.str i,.str j=>aa (decide (i=j))
 |_,_=>af
noncomputable abbrev pO(x y:T)(μ:Mem)(k:Bool->RE T):RE T:=match x,y with
 |.t xs,.t a=>.grd (q9 xs<=40) (.som (bK xs a) k)
 |.l xs,.l a=>.grd (q9 xs<=40) (.som (bK xs a) k)
 |.m i,.l a=>λK Z=>∃xs,μ[i]?=aa (.l xs)/\RE.grd (q9 xs<=40) (.som (bK xs a) k) K Z
 |.l xs,.m j=>λK Z=>∃a,μ[j]?=aa (.l a)/\RE.grd (q9 xs<=40) (.som (bK xs a) k) K Z
 |.m i,.m j=>λK Z=>∃p:List T×List T,(μ[i]?=aa (.l p.1)/\μ[j]?=aa (.l p.2))/\RE.grd (q9 p.1<=40) (.som (bK p.1 p.2) k) K Z
 |x,y=>match tP x y with
  |some b=>k b
  |none=>.st
noncomputable def bM:List T->Option (List Int)
 |[]=>aa []
 |.int i::r=>(bM r).map (i::·)
 |_::_=>af
noncomputable abbrev Dw(x y:T)(k:Bool->RE T):RE T:=match x,y with
 |.int i,.int j=>k (decide (i<j))
 |_,_=>.st
noncomputable abbrev WV(op:ez)(x y:T)(μ:Mem):RE T:=
 match op with
 |.Eq=>pO x y μ λb=>.ok (.bl b) μ
 |.NotEq=>pO x y μ λb=>.ok (.bl (!b)) μ
 |.Lt=>Dw x y λb=>.ok (.bl b) μ
 |.LtE=>match x,y with|.int i,.int j=>.ok (.bl (decide (i<=j))) μ|_,_=>.st
 |.Gt=>match x,y with|.int i,.int j=>.ok (.bl (decide (j<i))) μ|_,_=>.st
 |.GtE=>match x,y with|.int i,.int j=>.ok (.bl (decide (j<=i))) μ|_,_=>.st
 |.Is=>(match y with
  |.n=>.ok (.bl (match x with|.n=>ae|_=>ag)) μ
  |_=>.st)
 |.IsNot=>(match y with
  |.n=>.ok (.bl (match x with|.n=>ag|_=>ae)) μ
  |_=>.st)
 |.In=>(match x,y with|.str i,.str j=>.ok (.bl (!(sX j i 0 j.length 1).isEmpty)) μ|_,_=>.st)
 |_=>.st
noncomputable abbrev W4:T->Mem->RE Bool
 |.bl b,a=>.ok b a
 |_,_=>.st
noncomputable abbrev eC(t:T):De:=λ_ a=>.ok t a
noncomputable abbrev eV(i:Nat):De:=λa b=>match K7 a i with
 |some t=>.ok t b
 |none=>.st
noncomputable abbrev za(op:Operator)(f g:De):De:=λc d=>(f c d).bind λx b=>(g c b).bind λy a=>B_ op x y a
noncomputable abbrev Kf(f:De):De:=λb c=>(f b c).bind λx a=>match x with|.int i=>.ok (.int (-i)) a|_=>.st
noncomputable abbrev tM(f:De):De:=λc d=>(f c d).bind λx a=>match x with|.bl b=>.ok (.bl (!b)) a|_=>.st
noncomputable abbrev kY(f g:De):De:=λc d=>(f c d).bind λx a=>match x with|.bl b=>.br b (g c a) (.ok (.bl ag) a)|_=>.st
noncomputable abbrev t6(f g:De):De:=λc d=>(f c d).bind λx a=>match x with|.bl b=>.br b (.ok (.bl ae) a) (g c a)|_=>.st
noncomputable abbrev zm(op:ez)(f g:De):De:=λc d=>(f c d).bind λx b=>(g c b).bind λy a=>WV op x y a
noncomputable abbrev Nu(op:ez)(d:Bool)(f:T->Sl->Mem->RE T)(x y:T)(e:Sl)(c:Mem):RE T:=match d with
 |true=>WV op x y c
 |false=>(WV op x y c).bind λk a=>match k with
  |.bl b=>.br b (f y e a) (.ok (.bl ag) a)
  |_=>.st
noncomputable abbrev tc(ps:List (ez×De)):T->Sl->Mem->RE T:=eN (motive:=λ_=>T->Sl->Mem->RE T) (λ_ _ _=>.st) (λp r d x b c=>(p.2 b c).bind λy a=>Nu p.1 r.isEmpty d x y b a) ps
noncomputable abbrev lD(f:De)(ps:List (ez×De)):De:=λb c=>(f b c).bind λx a=>tc ps x b a
noncomputable abbrev tE(f:De):Dt:=λa b=>(f a b).bind W4
noncomputable abbrev wz(f g:Dt):Dt:=λc d=>(f c d).bind λb a=>.br b (g c a) (.ok ag a)
noncomputable abbrev d_(f g:Dt):Dt:=λc d=>(f c d).bind λb a=>.br b (.ok ae a) (g c a)
noncomputable abbrev qd(f:Dt):Dt:=λc d=>(f c d).bind λb a=>.ok (!b) a
noncomputable abbrev nH(c:Dt)(f g:De):De:=λd e=>(c d e).bind λb a=>.br b (f d a) (g d a)
noncomputable abbrev uG(t:T)(f:Nat)(μ:Mem):RE T:=match t with
 |.obj _ fs=>(match V5 fs f with|some v=>.ok v μ|none=>.st)
 |.m i=>λK _=>∃c fs v,μ[i]?=aa (.obj c fs)/\V5 fs f=aa v/\K v μ
 |_=>.st
noncomputable abbrev zD(f:De)(n:Nat):De:=λb c=>(f b c).bind λt a=>uG t n a
noncomputable def V0(n:Nat)(i:Int):Option Nat:=if 0<=i then (if i<n then aa i.toNat else af) else if -(n:Int)<=i then aa (i+n).toNat else af
noncomputable def qS {α:Type}(xs:List α)(i:Int):Option α:=(V0 xs.length i).bind λj=>xs[j]?
noncomputable abbrev C_(t i:T)(μ:Mem):RE T:=match i with
 |.int k=>(match t with
  |.l a=>.som (qS a k) λv=>.ok v μ
  |.t a=>.som (qS a k) λv=>.ok v μ
  |.m j=>λK _=>∃a v,μ[j]?=aa (.l a)/\qS a k=aa v/\K v μ
  |_=>.st)
 |_=>.st
noncomputable abbrev bq(f g:De):De:=λc d=>(f c d).bind λx b=>(g c b).bind λy a=>C_ x y a
noncomputable def WI (n d:Nat):Option Int->Nat
 |none=>d
 |some v=>if v<0 then (v+(n:Int)).toNat else min v.toNat n
noncomputable def wy {α:Type}(xs:List α)(lo hi:Option Int):List α:=(xs.drop (WI xs.length 0 lo)).take (WI xs.length xs.length hi-WI xs.length 0 lo)
noncomputable abbrev Dp:=Sl->Mem->RE (Option Int)
noncomputable abbrev pN:Dp:=λ_ a=>.ok af a
noncomputable abbrev pS(f:De):Dp:=λb c=>(f b c).bind λt a=>match t with|.int i=>.ok (aa i) a|_=>.st
noncomputable abbrev B7(x:T)(l h:Option Int)(μ:Mem):RE T:=match x with
 |.l xs=>.ok (.l (wy xs l h)) μ
 |.t xs=>.ok (.t (wy xs l h)) μ
 |.m i=>λK _=>∃a,μ[i]?=aa (.l a)/\K (.l (wy a l h)) μ
 |_=>.st
noncomputable abbrev hQ(f:De)(lo hi:Dp):De:=λa e=>(f a e).bind λx d=>(lo a d).bind λl c=>(hi a c).bind λh b=>B7 x l h b
noncomputable abbrev e5(fs:List De):Da:=eN (motive:=λ_=>Da) (λ_ c=>.ok [] c) (λf _ g d c=>(f d c).bind λt b=>(g d b).bind λe a=>.ok (t::e) a) fs
noncomputable abbrev vK(fs:List De):De:=λb c=>(e5 fs b c).bind λd a=>.ok (.l d) a
noncomputable abbrev zZ(fs:List De):De:=λb c=>(e5 fs b c).bind λd a=>.ok (.t d) a
noncomputable abbrev qP(fs:List De):De:=λb c=>(e5 fs b c).bind λd a=>.ok (.m a.length) (a++[.l d])
noncomputable abbrev z4(g:Fn)(fs:List De):De:=λa b=>(e5 fs a b).bind g
noncomputable abbrev Wj(c:Nat)(g:Fn)(ts:List T)(μ:Mem):RE T:=λK Z=>
 yF ts=ae/\g (.m 0::ts) [.obj c []] (λr a=>r=.n/\∃fs,a[0]?=aa (.obj c fs)/\xx fs=ae/\K (.obj c fs) μ) (λk fs _=>xx fs=ae/\Z k fs μ)
noncomputable abbrev mn(c:Nat)(g:Fn)(fs:List De):De:=λa b=>(e5 fs a b).bind (Wj c g)
noncomputable abbrev o9(cs:List Nat)(x:T)(μ:Mem):RE T:=match x with
 |.m i=>.som μ[i]? λo=>.br (CT o) .st (.ok (.bl (cQ (Dg o) cs)) μ)
 |x=>match Dh x μ with
  |some t=>.ok (.bl (cQ t cs)) μ
  |none=>.st
noncomputable abbrev w_(cs:List Nat)(f:De):De:=λa b=>(f a b).bind (o9 cs)
noncomputable abbrev cB(op:T->Mem->RE T)(f:De):De:=λa b=>(f a b).bind op
noncomputable abbrev jZ(t:T)(μ:Mem):RE T:=match t with
 |.l xs=>.ok (.int xs.length) μ
 |.t xs=>.ok (.int xs.length) μ
 |.str s=>.grd (s.length<=aB) (.ok (.int s.length) μ)
 |.m i=>λK _=>∃xs,μ[i]?=aa (.l xs)/\K (.int xs.length) μ
 |_=>.st
noncomputable abbrev Uv(t:T)(μ:Mem):RE T:=match t with
 |.int i=>.ok (.int i) μ
 |.bl b=>.ok (.int (if b then 1 else 0)) μ
 |_=>.st
noncomputable abbrev xk(t:T)(μ:Mem):RE T:=match t with
 |.l xs=>.ok (.t xs) μ
 |.m i=>λK _=>∃xs,μ[i]?=aa (.l xs)/\K (.t xs) μ
 |_=>.st
noncomputable abbrev Qw(t:T)(μ:Mem):RE T:=match t with
 |.l xs=>.ok (.l xs) μ
 |.t xs=>.ok (.l xs) μ
 |.m i=>λK _=>∃xs,μ[i]?=aa (.l xs)/\K (.l xs) μ
 |_=>.st
noncomputable def bZ:List T->Option (List Bool)
 |[]=>aa []
 |.bl b::r=>(bZ r).map (b::·)
 |_::_=>af
noncomputable abbrev V4(t:T)(μ:Mem):RE T:=match t with
 |.l xs=>.som (bZ xs) λbs=>.ok (.bl (bs.all id)) μ
 |_=>.st
noncomputable abbrev uC(o f:De):De:=λd e=>(o d e).bind λot b=>match ot with
 |.m i=>λK Z=>(∃c,b[i]?=aa (.l c))/\f d b (λt a=>∃c,a[i]?=aa (.l c)/\c.length<aB/\K .n (a.set i (.l (c++[t])))) Z
 |_=>.st
noncomputable def cY:List T->Option (List ao)
 |[]=>aa []
 |.str x::r=>(cY r).map (x::·)
 |_::_=>af
noncomputable abbrev VI(z:ao):List T:=z.cps.toList.map λc=>T.str ⟨#[c]⟩
noncomputable abbrev LB(t:T)(μ:Mem):RI:=match t with
 |.l xs=>.ok xs lB μ
 |.str z=>.ok (VI z) lB μ
 |.m i=>λK _=>∃xs,μ[i]?=aa (.l xs)/\K xs (pK i xs) μ
 |_=>.st
noncomputable abbrev iE(f:De):Di:=λa b=>(f a b).it LB
noncomputable def rangeT(n:Int):List T:=(dm n.toNat).map λ(i:Nat)=>T.int i
noncomputable def jL(a b c:Int):List T:=(dm (if a<b then (b-a-1) / c+1 else 0:Int).toNat).map λ(i:Nat)=>T.int (a+i*c)
noncomputable abbrev tY(a:Int):Prop := -1606938044258990275541962092341162602522202993782792835301376<=a/\a<1606938044258990275541962092341162602522202993782792835301376
noncomputable abbrev Uy(f:De):Di:=λb c=>(f b c).it λt a=>match t with
 |.int n=>.grd (tY n) (.ok (rangeT n) lB a)
 |_=>.st
noncomputable abbrev Wx(f g:De):Di:=λe h=>(f e h).it λx d=>(g e d).it λy c=>match x,y with
 |.int a,.int b=>.grd (tY a/\tY b) (.ok (jL a b 1) lB c)
 |_,_=>.st
inductive Tg where
 |one (i:Nat)|t (is:List Nat)
noncomputable abbrev tH(is:List Nat):List T->Sl->Option Sl:=eN (motive:=λ_=>List T->Sl->Option Sl) (λc a=>eN (motive:=λ_=>Option Sl) (aa a) (λ_ _ _=>af) c) (λi _ d c a=>eN (motive:=λ_=>Option Sl) af (λt b _=>d b (yN a i (aa t))) c) is
noncomputable abbrev f6:Tg->T->Sl->Option Sl
 |.one i,t,a=>aa (yN a i (aa t))
 |.t c,.t b,a=>tH c b a
 |_,_,_=>af
noncomputable def qb(tg:Tg)(g:Sl->Mem->RE (Option T))(lv:Mem->Prop)(c:Sl):List T->Mem->RE (List T)
 |[],e=>.ok [] e
 |x::r,e=>.som (f6 tg x c) λb=>(g b e).bind λo a=>.grd (lv a) (match o with
  |some y=>(qb tg g lv c r a).bind λf d=>.ok (y::f) d
  |none=>qb tg g lv c r a)
noncomputable abbrev uP(cs:List Dt)(f:De):Sl->Mem->RE (Option T):=eN (motive:=λ_=>Sl->Mem->RE (Option T)) (λd e=>(f d e).bind λy a=>.ok (aa y) a) (λc _ g d e=>(c d e).bind λb a=>.br b (g d a) (.ok af a)) cs
noncomputable abbrev Y3(is:List Nat)(a:Sl):Sl:=eN (motive:=λ_=>Sl) [] (λi _ b=>K7 a i::b) is
noncomputable abbrev fZ(n:Nat)(fs:List Nat)(a:Sl):Sl:=nX (motive:=λ_=>Sl) (Y3 fs a) (λ_ b=>af::b) n
noncomputable abbrev qa(n:Nat)(fs:List Nat)(tg:Tg)(it:Di)(cs:List Dt)(f:De):De:=λc d=>(it c d).go λxs o b=>.grd (xs.length<=aB) ((qb tg (uP cs f) o (fZ n fs c) xs b).bind λe a=>.ok (.l e) a)
noncomputable abbrev vT(n:Nat)(fs:List Nat)(tg:Tg)(it:Di)(cs:List Dt)(f:De):De:=λc d=>(it c d).go λxs o b=>.grd (xs.length<=aB) ((qb tg (uP cs f) o (fZ n fs c) xs b).bind λe a=>.ok (.m a.length) (a++[.l e]))
noncomputable abbrev zf(f:De):Ds:=λb c=>(f b c).out b λt a=>.rt t a
noncomputable abbrev VO:Ds:=λ_ a=>.rt .n a
noncomputable abbrev zy(f:De):Ds:=λa c=>(f a c).out a λ_ b=>.nx a b
noncomputable abbrev zM(c:List Ds):Ds:=eN (motive:=λ_=>Ds) (λa b=>.nx a b) (λs _ d a b=>(s a b).seq d) c
noncomputable abbrev aN(c:Dt)(a b:List Ds):Ds:=λe f=>(c e f).out e λk d=>.br k (zM a e d) (zM b e d)
noncomputable abbrev zj(i:Nat)(f:De):Ds:=λa c=>(f a c).out a λt b=>.nx (yN a i (aa t)) b
noncomputable abbrev Wt(is:List Nat)(f:De):Ds:=λb d=>(f b d).out b λt c=>.som (f6 (.t is) t b) λa=>.nx a c
noncomputable abbrev zK(o:De)(n:Nat)(f:De):Ds:=λa e=>(f a e).out a λt d=>(o a d).out a λot b=>match ot with
 |.m i=>λE=>∃c fs,b[i]?=aa (.obj c fs)/\fs.length<900/\E.nx a (b.set i (.obj c (U9 n t fs)))
 |_=>.st
noncomputable def eI(tg:Tg)(body:Ds)(lv:Mem->Prop):List T->Ds
 |[],d,e=>.nx d e
 |x::r,d,e=>.som (f6 tg x d) λc=>λE=>body c e (E.turn λb a=>lv a/\eI tg body lv r b a E)
noncomputable abbrev vM(tg:Tg)(it:Di)(body:List Ds):Ds:=λa c=>(it a c).out a λxs o b=>eI tg (zM body) o xs a b
noncomputable def ZP(c:Dt)(body:List Ds):Ds:=λd e E=>∃I:Nat->Sl->Mem->Prop,(∃n,I n d e)/\∀n d e,I n d e->
 c d e (λb a=>fY b (zM body d a (E.turn λf g=>∃m,m<n/\I m f g)) (E.nx d a)) (λk fs a=>E.ex k fs d a)
noncomputable abbrev zE(c:Nat)(fs:List De):Ds:=λa d=>(e5 fs a d).out a λe b=>.grd (e.length<=aB) (.ex c [] a b)
noncomputable abbrev Qd(c f:Nat)(g:De):Ds:=λa d=>(g a d).out a λt b=>match t with
 |.int i=>.grd (i.natAbs.log2<1920) (.ex c [(f,.int i)] a b)
 |_=>.st
noncomputable abbrev FR(i:Option Nat)(v:List Ds)(k:Nat)(fs:List (Nat×T))(c:Sl)(μ:Mem):bS:=λE=>match i with
 |some j=>zM v (yN c j (aa (.exc k fs))) μ {nx:=λa b=>E.nx (yN a j af) b,rt:=E.rt,bk:=λ_ _=>False,ct:=λ_ _=>False,ex:=λ_ _ _ _=>False}
 |none=>zM v c μ {nx:=E.nx,rt:=E.rt,bk:=λ_ _=>False,ct:=λ_ _=>False,ex:=λ_ _ _ _=>False}
noncomputable abbrev tI(hs:List (List Nat×Option Nat×List Ds)):Nat->List (Nat×T)->Sl->Mem->bS:=eN (motive:=λ_=>Nat->List (Nat×T)->Sl->Mem->bS) (λk fs a b=>.ex k fs a b) (λp _ c k fs a b=>.br (cQ k p.1) (FR p.2.1 p.2.2 k fs a b) (c k fs a b)) hs
noncomputable abbrev tD(b:List Ds)(hs:List (List Nat×Option Nat×List Ds)):Ds:=λd e E=>zM b d e (E.tri λk fs a c=>tI hs k fs a c E)
noncomputable abbrev tT(n:Nat):Sl:=nX (motive:=λ_=>Sl) [] (λ_ a=>af::a) n
noncomputable abbrev pd(ts:List T)(n:Nat):Sl:=eN (motive:=λ_=>Sl) (tT n) (λt _ a=>aa t::a) ts
noncomputable abbrev aQ(n m:Nat)(body:List Ds):Fn:=λa b K Z=>a.length=n/\zM body (pd a m) b (En.fn K Z)
end NH
namespace NH
open PySem PySem.Spec PyProof.Rows L2
section
structure DP where
 K:bc
 adr:Nat->Option ak
 cad:Nat->Option ak
 fn:Nat->Option ao
 inj:∀i j x,fn i=aa x->fn j=aa x->i=j
 clo:Nat->ak->Option HO->List V->Prop
 tabs:Nat->Option (ak×List Pos×ao)
noncomputable def ZX (a C:ak)(d:Option ak):aG->Prop:=λh=>∃b c,h.get? a=aa b/\b.cls=.ref C/\b.data=.fields c/\b.dict=d
noncomputable def wV(c:ak)(qn:ao):aG->Prop:=λh=>h.CodeRec (.ref c) qn
inductive NF(α:List ak)(i:Nat)(v:V):Prop|mk (a:ak) (h:α[i]?=aa a) (e:v=.ref a)
inductive DL(φ α:List ak)(H:Hp)(c:List V->HO)(L:List V->Prop)(v:V):Prop|mk (a:ak) (xs:List V) (e:v=.ref a) (n1:a∉φ) (n2:a∉α) (r:Rd H a (c xs)) (l:L xs)
inductive NE(φ α:List ak)(H:Hp)(ca:Option ak)(L:List (ao×V)->Prop)(v:V):Prop|mk (a C dx:ak) (gs:List (ao×V)) (e:v=.ref a) (n1:a∉φ) (n2:a∉α) (ad:ca=aa C) (q:H a=aa (.ins C dx gs)) (l:L gs)
inductive NG(φ α:List ak)(H:Hp)(ca:Option ak)(L:Option ak->Prop)(v:V):Prop|mk (a C:ak) (d:Option ak) (e:v=.ref a) (n1:a∉φ) (n2:a∉α) (ad:ca=aa C) (q:H a=aa (.ext (ZX a C d))) (l:L d)
inductive NI(φ α:List ak)(H:Hp)(L:List (Key×V)->Prop)(v:V):Prop|mk (a:ak) (gs:List (Key×V)) (e:v=.ref a) (n1:a∉φ) (n2:a∉α) (q:H a=aa (.dK gs)) (l:L gs)
inductive NK(φ α:List ak)(H:Hp)(c:ak->Option HO->List V->Prop)(L:List V->Prop)(v:V):Prop|mk (a:ak) (ob:Option HO) (xs:List V) (e:v=.ref a) (h:c a ob xs) (o:∀o,ob=aa o->a∉φ/\a∉α/\H a=aa o) (l:L xs)
inductive NJ(P:V->Prop)(L:List V->Prop)(vs:List V):Prop|mk (v:V) (r:List V) (e:vs=v::r) (d:P v) (l:L r)
inductive NM(x:Option ao)(P:V->Prop)(L:List (ao×V)->Prop)(vs:List (ao×V)):Prop|mk (y:ao) (v:V) (r:List (ao×V)) (h:x=aa y) (e:vs=(y,v)::r) (d:P v) (l:L r)
inductive NL(k:Key)(P:V->Prop)(L:List (Key×V)->Prop)(vs:List (Key×V)):Prop|mk (v:V) (r:List (Key×V)) (e:vs=(k,v)::r) (d:P v) (l:L r)
inductive DK(φ α:List ak)(H:Hp)(dx:ak)(L:List (ao×V)->Prop):Prop|mk (gs:List (ao×V)) (n1:dx∉φ) (n2:dx∉α) (q:H dx=aa (.xd gs)) (l:L gs)
mutual
def aI (D:DP)(φ α:List ak)(H:Hp):T->V->Prop
 |.n,v=>v=.n
 |.bl b,v=>v=.bl b
 |.int i,v=>v=.int i
 |.str x,v=>v=.str x
 |.m i,v=>NF α i v
 |.t a,v=>DL φ α H .t (av D φ α H a) v
 |.l a,v=>DL φ α H .l (av D φ α H a) v
 |.obj c fs,v=>NE φ α H (D.cad c) (aY D φ α H fs) v
 |.exc c fs,v=>NG φ α H (D.adr c) (λd=>match d with
  |none=>fs=[]
  |some f=>DK φ α H f (aY D φ α H fs)) v
 |.d e,v=>NI φ α H (aM D φ α H e) v
 |.clo j cs,v=>NK φ α H (D.clo j) (av D φ α H cs) v
def av (D:DP)(φ α:List ak)(H:Hp):List T->List V->Prop
 |[],a=>a=[]
 |t::b,a=>NJ (aI D φ α H t) (av D φ α H b) a
def aY (D:DP)(φ α:List ak)(H:Hp):List (Nat×T)->List (ao×V)->Prop
 |[],a=>a=[]
 |p::fs,a=>NM (D.fn p.1) (aI D φ α H p.2) (aY D φ α H fs) a
def aM (D:DP)(φ α:List ak)(H:Hp):List (Key×T)->List (Key×V)->Prop
 |[],a=>a=[]
 |p::fs,a=>NL p.1 (aI D φ α H p.2) (aM D φ α H fs) a
end
noncomputable def pP (fs:List (Nat×T))(C:ak):ai:=if fs.length<=1 then .ref C else .int (C:Int) 0
theorem JK:stC (pP fs C)=.ref C:=by
 unfold pP;split
 .rfl
 .show cG (Int.toNat C)=_;rw[Int.toNat_natCast]
noncomputable def iA (D:DP)(c:Nat)(fs:List (Nat×T))(a:ai):Prop:=∃C0,D.adr c=aa C0/\a=pP fs C0
noncomputable def bJ(D:DP)(φ α:List ak)(H:Hp)(fs:List (Nat×T)):Option ak->Prop
 |none=>fs=[]
 |some a=>DK φ α H a (aY D φ α H fs)
inductive Nx(H:Hp)(a:ak)(L:List V->Prop):Prop|mk (xs:List V) (q:H a=aa (.l xs)) (l:L xs)
inductive Nw(H:Hp)(a:ak)(ca:Option ak)(L:List (ao×V)->Prop):Prop|mk (C dx:ak) (gs:List (ao×V)) (ad:ca=aa C) (q:H a=aa (.ins C dx gs)) (l:L gs)
inductive Nz(H:Hp)(a:ak)(L:List (Key×V)->Prop):Prop|mk (gs:List (Key×V)) (q:H a=aa (.dK gs)) (l:L gs)
inductive Nv(D:DP)(φ α:List ak)(H:Hp)(j:Nat)(a:ak):Prop|mk (poss:List Pos) (qn:ao) (ps:Array ai) (h1:D.tabs j=aa (a,poss,qn)) (h2:H a=aa (.tbl ps)) (h3:TriplesOk ps.toList) (h4:∀pos∈poss,codeAmong pos ps.toList=af\/∃c,codeAmong pos ps.toList=aa (.ref c)/\c∉φ/\c∉α/\H c=aa (.ext (wV c qn)))
inductive Ny(H:Hp)(a:ak)(ep:Nat)(L:List (Key×V)->Prop):Prop|mk (gs:List (Key×V)) (q:H a=aa (.dE ep gs)) (l:L gs)
noncomputable def c9 (D:DP)(φ α:List ak)(H:Hp):MO->ak->Prop
 |.l d,a=>Nx H a (av D φ α H d)
 |.obj c fs,a=>Nw H a (D.cad c) (aY D φ α H fs)
 |.d b,a=>Nz H a (aM D φ α H b)
 |.tab j,a=>Nv D φ α H j a
 |.frd e b,a=>Ny H a e (aM D φ α H b)
structure aw(α:List ak)(H:Hp)(α':List ak)(H':Hp):Prop where
 ext:∃β,α'=α++β/\∀b∈β,H b=af
 keep:∀b o,b∉α->H b=aa o->H' b=aa o
 live:∀b,H' b=af->H b=af
theorem aw.refl(α:List ak)(H:Hp):aw α H α H:=⟨⟨[],sC,sC⟩,λ_ _ _ e=>e,λ_ e=>e⟩
theorem aw.trans(a:aw α H s z)(b:aw s z j u):aw α H j u:=by
 obtain⟨β,rfl,d⟩:=a.ext;obtain⟨g,rfl,f⟩:=b.ext;refine⟨⟨β++g,sC,λc hc=>?_⟩,λc o n e=>?_,λc e=>a.live c (b.live c e)⟩
 .rcases bf.mp hc with h|h
  .exact d c h
  .exact a.live c (f c h)
 .refine b.keep c o (λh=>?_) (a.keep c o n e);rcases bf.mp h with h|h
  .exact n h
  .rw[d c h] at e;exact z9 e
theorem aw.new(s:v_ H j):aw α H α j:=⟨⟨[],sC,sC⟩,λb o _ e=>s b o e,λb e=>by
 cases q:H b with
 |none=>rfl
 |some o=>rw[s b o q] at e;exact w6 e⟩
theorem ze(h:H p=af):v_ H (upd H p o):=λb u e=>(z6 (zJ e h))▸e
theorem aw.out(s:aw α H j u)(n:a∉α)(e:H a=aa o):a∉j:=by
 obtain⟨β,rfl,b⟩:=s.ext;intro h;rcases bf.mp h with h|h
 .exact n h
 .rw[b a h] at e;exact z9 e
section
variable {α:List ak}
structure Lk(φ α:List ak)(H:Hp)(φ' α':List ak)(H':Hp):Prop where
 ob:∀a o,a∉φ->a∉α->H a=aa o->a∉φ'/\a∉α'/\H' a=aa o
 st:∀(i:Nat) (a:ak),α[i]?=aa a->α'[i]?=aa a
mutual
theorem aI.lk(h:Lk φ α H s u B):∀{t:T}{v:V},aI D φ α H t v->aI D s u B t v
 |.n,_,d=>d
 |.bl _,_,d=>d
 |.int _,_,d=>d
 |.str _,_,d=>d
 |.m i,_,d=>by obtain⟨a,e,q⟩:=d;exact⟨a,h.st i a e,q⟩
 |.t ts,_,d=>by
  obtain⟨a,xs,rfl,n1,n2,r,l⟩:=d;rcases r with r|⟨o,r⟩
  .obtain⟨f,b,e⟩:=h.ob a _ n1 n2 r;exact⟨a,xs,rfl,f,b,.inl e,av.lk h l⟩
  .obtain⟨f,b,e⟩:=h.ob a _ n1 n2 r;exact⟨a,xs,rfl,f,b,.inr ⟨o,e⟩,av.lk h l⟩
 |.l ts,_,d=>by
  obtain⟨a,xs,rfl,n1,n2,r,l⟩:=d;rcases r with r|⟨o,r⟩
  .obtain⟨f,b,e⟩:=h.ob a _ n1 n2 r;exact⟨a,xs,rfl,f,b,.inl e,av.lk h l⟩
  .obtain⟨f,b,e⟩:=h.ob a _ n1 n2 r;exact⟨a,xs,rfl,f,b,.inr ⟨o,e⟩,av.lk h l⟩
 |.obj c fs,_,d=>by
  obtain⟨a,C,k,gs,rfl,n1,n2,ad,e,l⟩:=d;obtain⟨f,b,e⟩:=h.ob a _ n1 n2 e;exact⟨a,C,k,gs,rfl,f,b,ad,e,aY.lk h l⟩
 |.exc c fs,_,d=>by
  obtain⟨a,C,d,rfl,n1,n2,ad,e,l⟩:=d;obtain⟨f,b,e⟩:=h.ob a _ n1 n2 e;refine⟨a,C,d,rfl,f,b,ad,e,?_⟩;cases d with
  |none=>exact l
  |some k=>
   obtain⟨gs,k1,k2,g,l⟩:=l;obtain⟨k1,k2,g⟩:=h.ob k _ k1 k2 g;exact⟨gs,k1,k2,g,aY.lk h l⟩
 |.d kvs,_,d=>by
  obtain⟨a,gs,rfl,n1,n2,e,l⟩:=d;obtain⟨f,b,e⟩:=h.ob a _ n1 n2 e;exact⟨a,gs,rfl,f,b,e,aM.lk h l⟩
 |.clo j cs,_,d=>by
  obtain⟨a,ob,xs,rfl,c,e,l⟩:=d;exact⟨a,ob,xs,rfl,c,λo z=>let ⟨n1,n2,q⟩:=e o z;h.ob a o n1 n2 q,av.lk h l⟩
theorem av.lk(h:Lk φ α H j s u):∀{ts:List T}{vs:List V},av D φ α H ts vs->av D j s u ts vs
 |[],_,l=>l
 |t::ts,_,l=>by
  obtain⟨v,r,rfl,a,b⟩:=l;exact⟨v,r,rfl,aI.lk h a,av.lk h b⟩
theorem aY.lk(h:Lk φ α H j s u):∀{fs:List (Nat×T)}{gs:List (ao×V)},aY D φ α H fs gs->aY D j s u fs gs
 |[],_,l=>l
 |p::fs,_,l=>by
  obtain⟨x,v,r,e,rfl,a,b⟩:=l;exact⟨x,v,r,e,rfl,aI.lk h a,aY.lk h b⟩
theorem aM.lk(h:Lk φ α H j s u):∀{fs:List (Key×T)}{gs:List (Key×V)},aM D φ α H fs gs->aM D j s u fs gs
 |[],_,l=>l
 |p::fs,_,l=>by
  obtain⟨v,r,rfl,a,b⟩:=l;exact⟨v,r,rfl,aI.lk h a,aM.lk h b⟩
end
theorem aw.lk(s:aw α H j u):Lk φ α H φ j u:=⟨λa o n1 n2 e=>⟨n1,s.out n2 e,s.keep a o n2 e⟩,λi a e=>by
 obtain⟨β,rfl,_⟩:=s.ext;rw[cE (aO.mp e).1];exact e⟩
theorem aI.step(s:aw α H j u)(d:aI D φ α H t v):aI D φ j u t v:=d.lk s.lk
theorem av.step(s:aw α H j u)(d:av D φ α H t v):av D φ j u t v:=d.lk s.lk
theorem aY.step(s:aw α H j u)(d:aY D φ α H t v):aY D φ j u t v:=d.lk s.lk
theorem aM.step(s:aw α H j u)(d:aM D φ α H t v):aM D φ j u t v:=d.lk s.lk
theorem bJ.lk(h:Lk φ α H j s u)(x:bJ D φ α H fs d):bJ D j s u fs d:=by
 cases d with
 |none=>exact x
 |some b=>
  obtain⟨gs,k1,k2,a,l⟩:=x;obtain⟨k1,k2,a⟩:=h.ob b _ k1 k2 a;exact⟨gs,k1,k2,a,aY.lk h l⟩
mutual
theorem aI.hide:∀{t:T}{v:V},j5 t=ae->aI D φ α H t v->(∀a,a∉φ->a∉α->a∉s/\a∉β)->aI D s β H t v
 |.n,_,_,h,_=>h
 |.bl _,_,_,h,_=>h
 |.int _,_,_,h,_=>h
 |.str _,_,_,h,_=>h
 |.m i,_,p,_,_=>by simp[j5] at p
 |.t ts,_,p,h,k=>by
  obtain⟨a,xs,rfl,n1,n2,r,l⟩:=h;exact⟨a,xs,rfl,(k a n1 n2).1,(k a n1 n2).2,r,av.hide (by simpa[j5] using p) l k⟩
 |.l ts,_,p,h,k=>by
  obtain⟨a,xs,rfl,n1,n2,r,l⟩:=h;exact⟨a,xs,rfl,(k a n1 n2).1,(k a n1 n2).2,r,av.hide (by simpa[j5] using p) l k⟩
 |.obj c fs,_,p,h,k=>by
  obtain⟨a,C,b,gs,rfl,n1,n2,ad,e,l⟩:=h;exact⟨a,C,b,gs,rfl,(k a n1 n2).1,(k a n1 n2).2,ad,e,aY.hide (by simpa[j5] using p) l k⟩
 |.exc c fs,_,p,h,k=>by
  obtain⟨a,C,d,rfl,n1,n2,ad,e,l⟩:=h;refine⟨a,C,d,rfl,(k a n1 n2).1,(k a n1 n2).2,ad,e,?_⟩;cases d with
  |none=>exact l
  |some b=>
   obtain⟨gs,k1,k2,f,l⟩:=l;exact⟨gs,(k b k1 k2).1,(k b k1 k2).2,f,aY.hide (by simpa[j5] using p) l k⟩
 |.d kvs,_,p,h,k=>by
  obtain⟨a,gs,rfl,n1,n2,e,l⟩:=h;exact⟨a,gs,rfl,(k a n1 n2).1,(k a n1 n2).2,e,aM.hide (by simpa[j5] using p) l k⟩
 |.clo j cs,_,p,h,k=>by
  obtain⟨a,ob,xs,rfl,c,e,l⟩:=h;exact⟨a,ob,xs,rfl,c,λo z=>let ⟨n1,n2,q⟩:=e o z;⟨(k a n1 n2).1,(k a n1 n2).2,q⟩,av.hide (by simpa[j5] using p) l k⟩
theorem av.hide:∀{ts:List T}{vs:List V},yF ts=ae->av D φ α H ts vs->(∀a,a∉φ->a∉α->a∉j/\a∉β)->av D j β H ts vs
 |[],_,_,h,_=>h
 |t::ts,_,p,h,k=>by
  obtain⟨v,r,rfl,a,b⟩:=h;simp only[yF,bW] at p;exact⟨v,r,rfl,aI.hide p.1 a k,av.hide p.2 b k⟩
theorem aY.hide:∀{fs:List (Nat×T)}{gs:List (ao×V)},xx fs=ae->aY D φ α H fs gs->(∀a,a∉φ->a∉α->a∉j/\a∉β)->aY D j β H fs gs
 |[],_,_,h,_=>h
 |q::fs,_,p,h,k=>by
  obtain⟨x,v,r,e,rfl,a,b⟩:=h;simp only[xx,bW] at p;exact⟨x,v,r,e,rfl,aI.hide p.1 a k,aY.hide p.2 b k⟩
theorem aM.hide:∀{fs:List (Key×T)}{gs:List (Key×V)},JL fs=ae->aM D φ α H fs gs->(∀a,a∉φ->a∉α->a∉j/\a∉β)->aM D j β H fs gs
 |[],_,_,h,_=>h
 |q::fs,_,p,h,k=>by
  obtain⟨v,r,rfl,a,b⟩:=h;simp only[JL,bW] at p;exact⟨v,r,rfl,aI.hide p.1 a k,aM.hide p.2 b k⟩
end
theorem bJ.hide(p:xx fs=ae)(x:bJ D φ α H fs d)(k:∀a,a∉φ->a∉α->a∉j/\a∉β):bJ D j β H fs d:=by
 cases d with
 |none=>exact x
 |some b=>
  obtain⟨gs,k1,k2,c,l⟩:=x;exact⟨gs,(k b k1 k2).1,(k b k1 k2).2,c,aY.hide p l k⟩
theorem Mw:∀a:ak,a∉φ->a∉α->a∉φ++α/\a∉([]:List ak):=λa c b=>⟨λz=>(bf.mp z).elim c b,sC⟩
theorem QS{β:List ak}:∀a:ak,a∉φ++α->a∉β->a∉φ/\a∉α:=λa b _=>⟨λz=>b (c_ _ z),λz=>b (cD _ z)⟩
theorem av.length:∀{ts:List T}{vs:List V},av D φ α H ts vs->ts.length=vs.length
 |[],_,h=>by have:=h;subst this;rfl
 |t::ts,_,h=>by
  obtain⟨v,r,rfl,_,b⟩:=h;simp[av.length b]
theorem av.get:∀{ts:List T}{vs:List V}{i:Nat}{t:T},av D φ α H ts vs->ts[i]?=aa t->∃v,vs[i]?=aa v/\aI D φ α H t v
 |[],_,_,_,_,e=>by simp at e
 |t::ts,_,0,_,h,e=>by
  obtain⟨v,r,rfl,a,b⟩:=h;simp at e;subst e;exact⟨v,rfl,a⟩
 |t::ts,_,i+1,u,h,e=>by
  obtain⟨v,r,rfl,a,b⟩:=h;obtain⟨w,c,d⟩:=av.get b (by simpa using e);exact⟨w,by simpa using c,d⟩
theorem av.append:∀{ts us:List T}{vs c:List V},av D φ α H ts vs->av D φ α H us c->av D φ α H (ts++us) (vs++c)
 |[],us,_,c,h,k=>by have:=h;subst this;exact k
 |t::ts,us,_,c,h,k=>by
  obtain⟨v,r,rfl,a,b⟩:=h;exact⟨v,r++c,rfl,a,av.append b k⟩
theorem av.drop:∀(n:Nat) {ts:List T}{vs:List V},av D φ α H ts vs->av D φ α H (ts.drop n) (vs.drop n)
 |0,_,_,h=>h
 |n+1,[],_,h=>by have:=h;subst this;exact rfl
 |n+1,t::ts,_,h=>by
  obtain⟨v,r,rfl,a,b⟩:=h;exact av.drop n b
theorem av.take:∀(n:Nat) {ts:List T}{vs:List V},av D φ α H ts vs->av D φ α H (ts.take n) (vs.take n)
 |0,_,_,h=>by simp[av]
 |n+1,[],_,h=>by have:=h;subst this;exact rfl
 |n+1,t::ts,_,h=>by
  obtain⟨v,r,rfl,a,b⟩:=h;exact⟨v,r.take n,rfl,a,av.take n b⟩
theorem av.set:∀{ts:List T}{vs:List V}{i:Nat}{t:T}{v:V},av D φ α H ts vs->aI D φ α H t v->av D φ α H (ts.set i t) (vs.set i v)
 |[],vs,i,t,v,l,d=>by have l:=l;subst l;exact rfl
 |x::ts,_,0,t,v,l,d=>by
  obtain⟨w,r,rfl,a,l⟩:=l;exact⟨v,r,rfl,d,l⟩
 |x::ts,_,i+1,t,v,l,d=>by
  obtain⟨w,r,rfl,a,l⟩:=l;exact⟨w,r.set i v,rfl,a,av.set l d⟩
theorem aY.look:∀{fs:List (Nat×T)}{gs:List (ao×V)}{f:Nat}{t:T},aY D φ α H fs gs->V5 fs f=aa t->∃x v,D.fn f=aa x/\gs.lookup x=aa v/\aI D φ α H t v
 |[],_,_,_,_,e=>by simp at e
 |p::fs,_,f,t,h,e=>by
  obtain⟨x,v,r,ex,rfl,a,b⟩:=h;rw[J_] at e;cases q:eD p.1 f with
  |true=>
   rw[q] at e;(replace e:=zo e;subst e);exact⟨x,v,(oV q)▸ex,sC,a⟩
  |false=>
   rw[q] at e;obtain⟨y,w,h1,h2,c⟩:=aY.look b e;refine⟨y,w,h1,?_,c⟩;rw[eU];have ne:(y==x)=ag:=by
    refine beq_eq_false_iff_ne.mpr λz=>?_;subst z;have:=D.inj _ _ _ ex h1;rw[this] at q;simp at q
   rw[ne];exact h2
theorem aY.put(b:D.fn f=aa x):∀{fs:List (Nat×T)}{gs:List (ao×V)},aY D φ α H fs gs->aI D φ α H t w->aY D φ α H (U9 f t fs) (vb x w gs)
 |[],gs,h,d=>by
  have:=h;subst this;exact⟨x,w,[],b,rfl,d,rfl⟩
 |p::fs,gs,h,d=>by
  obtain⟨z,y,r,a,rfl,g,l⟩:=h;rw[Ku];show aY D φ α H _ (if z=x then (z,w)::r else (z,y)::vb x w r);cases q:eD p.1 f with
  |true=>
   have c:=oV q;have:z=x:=by rw[c,b] at a;exact (aZ a).symm
   rw[if_pos this];exact⟨z,w,r,a,rfl,d,l⟩
  |false=>
   have:z≠x:=λe=>by
    subst e;have:=D.inj _ _ _ a b;rw[this] at q;simp at q
   rw[if_neg this];exact⟨z,y,vb x w r,a,rfl,g,aY.put b l d⟩
theorem aY.length:∀{fs:List (Nat×T)}{gs:List (ao×V)},aY D φ α H fs gs->fs.length=gs.length
 |[],_,h=>by have:=h;subst this;rfl
 |p::fs,_,h=>by
  obtain⟨x,v,r,_,rfl,_,b⟩:=h;simp[aY.length b]
noncomputable def pI:HO->Bool
 |.frz _ _=>ag
 |_=>ae
structure au(D:DP)(φ α:List ak)(H:Hp)(μ:Mem):Prop where
 len:α.length=μ.length
 nd:α.Nodup
 dis:∀b∈α,b∉φ
 phi:∀b∈φ,∃o,H b=aa o/\pI o=ae
 ob:∀(i:Nat) (a:ak) (o:MO),α[i]?=aa a->μ[i]?=aa o->c9 D φ α H o a
theorem c9.lk(s:Lk φ α H u z B)(e:B a=H a)(h:c9 D φ α H o a):c9 D u z B o a:=by
 cases o with
 |l ts=>
  obtain⟨xs,q,l⟩:=h;exact⟨xs,e.trans q,av.lk s l⟩
 |obj c fs=>
  obtain⟨C,n,gs,ad,q,l⟩:=h;exact⟨C,n,gs,ad,e.trans q,aY.lk s l⟩
 |d kvs=>
  obtain⟨xs,q,l⟩:=h;exact⟨xs,e.trans q,aM.lk s l⟩
 |tab j=>
  obtain⟨pos,qn,ps,h1,h2,m,k⟩:=h;refine⟨pos,qn,ps,h1,e.trans h2,m,λp i=>(k p i).imp id λ⟨c,k1,k2,k3,g⟩=>?_⟩;obtain⟨f,d,b⟩:=s.ob c _ k2 k3 g;exact⟨c,k1,f,d,b⟩
 |frd ep kvs=>
  obtain⟨xs,q,l⟩:=h;exact⟨xs,e.trans q,aM.lk s l⟩
theorem c9.step(s:aw α H j u)(e:u a=H a)(h:c9 D φ α H o a):c9 D φ j u o a:=h.lk s.lk e
theorem c9.some(h:c9 D φ α H o a):∃u,H a=Option.some u/\pI u=ae:=by
 cases o with
 |l ts=>obtain⟨xs,q,_⟩:=h;exact⟨_,q,rfl⟩
 |obj c fs=>obtain⟨C,b,gs,_,q,_⟩:=h;exact⟨_,q,rfl⟩
 |d ts=>obtain⟨xs,q,_⟩:=h;exact⟨_,q,rfl⟩
 |tab j=>obtain⟨_,_,ps,_,q,_⟩:=h;exact⟨_,q,rfl⟩
 |frd ep kvs=>obtain⟨xs,q,_⟩:=h;exact⟨_,q,rfl⟩
theorem au.new(m:au D φ α H μ)(s:v_ H j):au D φ α j μ:=
 ⟨m.len,m.nd,m.dis,λb hb=>let ⟨o,e,n⟩:=m.phi b hb;⟨o,s b o e,n⟩,λi a o f c=>by
  have d:=m.ob i a o f c;obtain⟨u,q,_⟩:=d.some;exact d.step (aw.new s) ((s _ _ q).trans q.symm)⟩
theorem au.lk(h:Lk φ α H j α s)(c:∀a∈α,s a=H a/\a∉j)(d:∀b∈j,∃o,s b=aa o/\pI o=ae)(m:au D φ α H μ):au D j α s μ:=
 ⟨m.len,m.nd,λb hb=>(c b hb).2,d,λi a o e f=>(m.ob i a o e f).lk h (c a (aS e)).1⟩
structure aH(D:DP)(φ α:List ak)(H:Hp)(τ:Sl)(σ:St):Prop where
 len:τ.length=σ.length
 val:∀(i:Nat) (t:T),τ[i]?=aa (aa t)->∃v,σ[i]?=aa (aa v)/\aI D φ α H t v
theorem aH.lk(r:aH D φ α H z B)(s:Lk φ α H j u C):aH D j u C z B:=⟨r.len,λi t e=>by
 obtain⟨v,q,d⟩:=r.val i t e;exact⟨v,q,d.lk s⟩⟩
theorem aH.step(r:aH D φ α H u z)(s:aw α H j B):aH D φ j B u z:=r.lk s.lk
theorem aH.set(r:aH D φ α H s z)(d:aI D φ α H t v):aH D φ α H (yN s i (aa t)) (z.set i (aa v)):=by
 rw[ye];refine⟨by simp[r.len],λj u e=>?_⟩;by_cases h:i=j
 .subst h;rw[sT] at e;cases q:s[i]? with
  |none=>rw[q] at e;exact z9 e
  |some o=>
   rw[q] at e;simp at e;subst e;have a:i<z.length:=r.len▸(aO.mp q).1;exact⟨v,by simp[a],d⟩
 .rw[aX h] at e ⊢;exact r.val j u e
theorem aH.unset(r:aH D φ α H s u):aH D φ α H (yN s i af) (u.set i af):=by
 rw[ye];refine⟨by simp[r.len],λj t e=>?_⟩;by_cases h:i=j
 .subst h;rw[sT] at e;cases q:s[i]? with
  |none=>rw[q] at e;exact z9 e
  |some o=>rw[q] at e;cases e
 .rw[aX h] at e ⊢;exact r.val j t e
theorem aH.get(r:aH D φ α H j s)(e:K7 j i=aa t):∃v,s[i]?=aa (aa v)/\aI D φ α H t v:=r.val i t (Qm.mp e)
end
theorem xt(hb:H b=af):Lk φ α H (φ++[b]) α H:=by
 refine⟨λa o d c e=>⟨λz=>?_,c,e⟩,λ_ _ e=>e⟩;rcases bf.mp z with z|z
 .exact d z
 .rw[aT.mp z,hb] at e;exact z9 e
theorem uc(hb:H b=af)(s:v_ H j):Lk φ α H (φ++[b]) α j:=⟨λa o g f e=>let ⟨d,c,h⟩:=(xt hb).ob a o g f e;⟨d,c,s a o e⟩,λ_ _ e=>e⟩
theorem qt:Lk (φ++[b]) α H φ α H:=⟨λa o d c e=>⟨λz=>d (c_ _ z),c,e⟩,λ_ _ e=>e⟩
theorem kj(hb:b∈φ):Lk φ α H φ α (upd H b u):=⟨λa o c d e=>⟨c,d,(z6 (λz:a=b=>c (by rw[z];exact hb)))▸e⟩,λ_ _ e=>e⟩
end
inductive aq(D:DP)(W:XW)(φ α:List ak)(H:Hp)(σ:St){β:Type}(R:β->Mem->List ak->Hp->Prop)(r:RE β):Prop where
 |mk (K:β->Mem->Prop) (Z:Xp) (q:r K Z) (h:(∀a μ',K a μ'->∀α' H',aw α H α' H'->au D φ α' H' μ'->R a μ' α' H')/\
  ∀c fs μ',Z c fs μ'->∀α' H' cv d,aw α H α' H'->au D φ α' H' μ'->iA D c fs cv->bJ D φ α' H' fs d->W cv d σ H')
inductive mx(D:DP)(H:Hp)(σ:St)(P:List ak->List ak->Sl->Mem->Prop):Prop where
 |mk (φ α:List ak) (τ:Sl) (μ:Mem) (sr:aH D φ α H τ σ) (mr:au D φ α H μ) (p:P φ α τ μ)
section
theorem aq.mono(p:aq D W φ α H C R r)(h:∀a u j B,aw α H j B->au D φ j B u->R a u j B->E a u j B):aq D W φ α H C E r:=by
 obtain⟨K,Z,q,k,z⟩:=p;exact⟨K,Z,q,λa u e j B s m=>h a u j B s m (k a u e j B s m),z⟩
theorem aq.bind{r:RE G}(p:aq D W φ α H B R (r.bind k)):aq D W φ α H B (λa j u E=>aq D W φ u E B R (k a j)) r:=by
 obtain⟨K,Z,q,h,z⟩:=p;exact⟨λa μ=>k a μ K Z,Z,q,λa j e u E s m=>⟨K,Z,e,λb μ2 l f n g i=>h b μ2 l f n (s.trans g) i,λc fs μ2 l f n C d g i=>z c fs μ2 l f n C d (s.trans g) i⟩,z⟩
theorem aq.elim{C:Prop}(p:aq D W φ α H j R RE.st):C:=by obtain⟨_,_,q,_⟩:=p;exact q.elim
theorem aq.grd(p:aq D W φ α H j R (RE.grd c r)):c/\aq D W φ α H j R r:=by
 obtain⟨K,Z,q,h⟩:=p;exact⟨q.1,K,Z,q.2,h⟩
theorem aq.som{k:s->RE β}(p:aq D W φ α H j R (RE.som o k)):∃a,o=aa a/\aq D W φ α H j R (k a):=by
 obtain⟨K,Z,⟨a,e,q⟩,h⟩:=p;exact⟨a,e,K,Z,q,h⟩
theorem aq.br(p:aq D W φ α H j R (RE.br b r s)):(b=ae/\aq D W φ α H j R r)\/(b=ag/\aq D W φ α H j R s):=by
 obtain⟨K,Z,q,h⟩:=p;cases b with
 |true=>exact .inl ⟨rfl,K,Z,q,h⟩
 |false=>exact .inr ⟨rfl,K,Z,q,h⟩
theorem aq.ok(p:aq D W φ α H z R (RE.ok a μ))(s:aw α H j u)(m:au D φ j u μ):R a μ j u:=by
 obtain⟨K,Z,q,h,_⟩:=p;exact h a μ q j u s m
theorem aq.step(p:aq D W φ α H s R r)(st:aw α H j u):aq D W φ j u s R r:=by
 obtain⟨K,Z,q,h,z⟩:=p;exact⟨K,Z,q,λb μ2 g a i e f=>h b μ2 g a i (st.trans e) f,λc fs μ2 g a i C d e f=>z c fs μ2 g a i C d (st.trans e) f⟩
theorem aq.ex1{a:Type}{P:a->Prop}{k:a->RE β}(p:aq D W φ α H j R (λK Z=>∃x,P x/\k x K Z)):∃x,P x/\aq D W φ α H j R (k x):=by
 obtain⟨K,Z,⟨x,b,q⟩,h⟩:=p;exact⟨x,b,K,Z,q,h⟩
end
noncomputable def aD (D:DP)(W:XW)(f:De):TE:=λc H Q=>mx D H c λb h e g=>aq D W b h H c (λt _ a d=>∀v,aI D b a d t v->Q v d) (f e g)
noncomputable def dG (D:DP)(W:XW)(f:Dt):TT:=λa H Q=>mx D H a λc g d e=>aq D W c g H a (λb _ _ h=>Q b h) (f d e)
noncomputable def nE (D:DP)(W:XW)(n:Nat)(f:Da):TA:=λd H Q=>mx D H d λc i g h=>aq D W c i H d (λj _ a e=>∀b,av D c a e j b->b.length=n->Q b e) (f g h)
section
inductive ut(X:Cx)(D:DP)(W:XW)(pins:List (ak×bj))(σ:St)(H:Hp)(φ α:List ak)(τ:Sl){β:Type}(R:β->Mem->List ak->Hp->Prop)(k:T->Mem->RE β)(u:ai)(s1:Shared):Prop where
 |mk (v:V) (H1:Hp) (t:T) (μ1:Mem) (α1:List ak) (i:Inv X pins σ H1 s1) (r:RelV v u) (st:aw α H α1 H1) (sr:aH D φ α1 H1 τ σ) (mr:au D φ α1 H1 μ1) (d:aI D φ α1 H1 t v) (p:aq D W φ α1 H1 σ R (k t μ1))
inductive t_(X:Cx)(D:DP)(W:XW)(pins:List (ak×bj))(σ:St)(H:Hp)(φ α:List ak)(τ:Sl){β:Type}(R:β->Mem->List ak->Hp->Prop)(k:Bool->Mem->RE β)(b:Bool)(s1:Shared):Prop where
 |mk (H1:Hp) (μ1:Mem) (α1:List ak) (i:Inv X pins σ H1 s1) (st:aw α H α1 H1) (sr:aH D φ α1 H1 τ σ) (mr:au D φ α1 H1 μ1) (p:aq D W φ α1 H1 σ R (k b μ1))
inductive u8(X:Cx)(D:DP)(W:XW)(pins:List (ak×bj))(σ:St)(H:Hp)(φ α:List ak)(τ:Sl){β:Type}(R:β->Mem->List ak->Hp->Prop)(n:Nat)(k:List T->Mem->RE β)(us:List ai)(s1:Shared):Prop where
 |mk (vs:List V) (H1:Hp) (ts:List T) (μ1:Mem) (α1:List ak) (i:Inv X pins σ H1 s1) (r:aE vs us) (st:aw α H α1 H1) (sr:aH D φ α1 H1 τ σ) (mr:au D φ α1 H1 μ1) (d:av D φ α1 H1 ts vs) (hn:vs.length=n) (p:aq D W φ α1 H1 σ R (k ts μ1))
theorem sub{f:Sl->Mem->RE T}(o:PE X a (aD D W f))(I:Inv X j z H s)(l:aH D φ α H B z)(n:au D φ α H μ)(p:aq D W φ α H z R ((f B μ).bind k)) :
  aA (aC X.prog X.w) X.A (eval a X.env) (ut X D W j z H φ α B R k) X.xe s:=by
 refine aF (o j s z H (λv e=>∃t c b,aw α H b e/\aH D φ b e B z/\au D φ b e c/\aI D φ b e t v/\aq D W φ b e z R (k t c)) I ⟨φ,α,B,μ,l,n,p.bind.mono λt g i J st m q v d=>⟨t,g,i,st,l.step st,m,d,q⟩⟩) ?_;rintro u G ⟨v,e,F,r,t,c,b,E,C,y,x,h⟩;exact⟨v,e,t,c,b,F,r,E,C,y,x,h⟩
theorem CD{f:Sl->Mem->RE Bool}(o:PT X a (dG D W f))(I:Inv X j u H s)(l:aH D φ α H z u)(n:au D φ α H μ)(p:aq D W φ α H u R ((f z μ).bind k)) :
  aA (aC X.prog X.w) X.A (isTrue a X.env (eval a X.env)) (t_ X D W j u H φ α z R k) X.xe s:=by
 refine aF (o j s u H (λb e=>∃d c,aw α H c e/\aH D φ c e z u/\au D φ c e d/\aq D W φ c e u R (k b d)) I ⟨φ,α,z,μ,l,n,p.bind.mono λb g i B st m q=>⟨g,i,st,l.step st,m,q⟩⟩) ?_;rintro b y ⟨e,x,d,c,v,t,r,h⟩;exact⟨e,d,c,x,v,t,r,h⟩
theorem pi(x:PA X G (nE D W n f))(I:Inv X j u H s)(o:aH D φ α H z u)(t:au D φ α H μ)(p:aq D W φ α H u R ((f z μ).bind k)) :
  aA (aC X.prog X.w) X.A (spliced (dZ pos (cU G X.env))) (u8 X D W j u H φ α z R n k) X.xe s:=by
 refine aF (x pos j s u H (λg c=>∃e b a,aw α H a c/\aH D φ a c z u/\au D φ a c b/\av D φ a c e g/\g.length=n/\aq D W φ a c u R (k e b)) I ⟨φ,α,z,μ,o,t,p.bind.mono λe i l M st m q g d v=>⟨e,i,l,st,o.step st,m,d,v,q⟩⟩) ?_;rintro K L ⟨g,c,J,r,e,b,a,F,E,C,B,y,h⟩;exact⟨g,c,e,b,a,J,r,F,E,C,B,y,h⟩
abbrev RV(D:DP)(φ:List ak)(Q:VK):T->Mem->List ak->Hp->Prop:=λt _ a b=>∀v,aI D φ a b t v->Q v b
theorem aq.here(p:aq D W φ α H j (RV D φ Q) (.ok t μ))(a:au D φ α H μ)(d:aI D φ α H t v):Q v H:=p.ok (aw.refl _ _) a v d
theorem aq.fresh(p:aq D W φ α H s (RV D φ Q) (.ok t μ))(a:au D φ α H μ)(sm:v_ H j)(d:aI D φ α j t v):Q v j:=p.ok (aw.new sm) (a.new sm) v d
theorem zN(h:n<=aB):n<=sizeLine:=cf h dC
theorem zi(a:au D φ α H μ)(h:H p=af):p∉φ:=λz=>by
 obtain⟨o,e,_⟩:=a.phi p z;rw[h] at e;exact z9 e
theorem zh(a:au D φ α H μ)(h:H p=af):p∉α:=λz=>by
 obtain⟨i,b⟩:=dD.mp z;have c:i<μ.length:=a.len▸(aO.mp b).1;obtain⟨u,e,_⟩:=(a.ob i p μ[i] b sC).some;rw[h] at e;exact z9 e
theorem jP:∀{ts:List T}{ns:List Int}{vs:List V},bM ts=aa ns->av D φ α H ts vs->vs=ns.map V.int
 |[],ns,vs,h,l=>by
  simp[bM] at h;subst h;exact l
 |t::ts,ns,vs,h,l=>by
  obtain⟨v,r,rfl,d,l⟩:=l;cases t with
  |int i=>
   simp only[bM] at h;cases q:bM ts with
   |none=>rw[q] at h;exact z9 h
   |some a=>
    rw[q] at h;(injection h with h;subst h);rw[jP q l];rw[d];rfl
  |_=>simp[bM] at h
theorem VU:dX X (ib .Add) (λx y H Q=>∃l b xs j,x=.ref l/\y=.ref b/\Rd H l (.l xs)/\Rd H b (.l j)/\xs.length+j.length<=sizeLine/\∀p,H p=af->Q (.ref p) (upd H p (.l (xs++j)))):=by
 intro f s w H x y v u Q I k i h;obtain⟨l,b,xs,j,rfl,rfl,m,o,g,q⟩:=h;subst k;subst i;obtain⟨z,c,n,r,e⟩:=m.ok I.hok;obtain⟨A,a,B,d,t⟩:=o.ok I.hok;refine PySem.P.add_list e t ?_ (by rw[cN,cN,<-r.length,<-d.length];exact g);rw[show c.toArray++a.toArray=(c++a).toArray by simp];exact⟨.ref _,_,I.lnew (r.append d) (eX▸g),rfl,q _ I.fresh⟩
theorem Xx:dX X (ib .FloorDiv) (rI (λ_ j=>0<j/\j<1606938044258990275541962092341162602522202993782792835301376) λi j=>.int (i / j)):=pG λi j _ _ _ _ _ a q=>by
 refine floordiv_int (by omega) (by rw[Int.fdiv_eq_ediv_of_nonneg i (by omega)];exact q) (.inl (PyProof.noPylong_of_log2 ?_));refine cz ((Af (by omega)).2 (show j.natAbs<2 ^ 200 by omega)) dC
theorem kA{f:Int->Int->Mem->RE T}{x:T}(p:aq D W φ α H s (RV D φ Q) (VG f x y μ)):∃i j,x=.int i/\y=.int j/\aq D W φ α H s (RV D φ Q) (f i j μ):=by
 unfold VG at p;split at p
 .exact⟨_,_,rfl,rfl,p⟩
 .exact p.elim
theorem LV{op:Operator}{x y:T}{G:V}{K J:ai}(I:Inv X u B H s)(c:au D φ α H μ)(l:aI D φ α H x G)(k:aI D φ α H y M)(n:RelV G K)(m:RelV M J)
  (p:aq D W φ α H B (RV D φ Q) (B_ op x y μ)):aA (aC X.prog X.w) X.A (ib op K J) (EP X u B Q) X.xe s:=by
 have F:∀{a b:ak}{e d:List V}{xs E:List T},Rd H a (.l e)->Rd H b (.l d)->av D φ α H xs e->av D φ α H E d->G=.ref a->M=.ref b->xs.length+E.length<=aB->aq D W φ α H B (RV D φ Q) (RE.ok (.l (xs++E)) μ)->aA (aC X.prog X.w) X.A (ib .Add K J) (EP X u B Q) X.xe s:=λ{a b e d xs E} t r g f R P h p=>by
  subst R P;refine VU u s B H _ _ _ _ Q I n m ⟨a,b,e,d,rfl,rfl,t,r,g.length▸f.length▸zN h,λz v=>?_⟩;have q:=ze (o:=.l (e++d)) v;exact p.fresh c q ⟨z,_,rfl,zi c v,zh c v,.inl z0,(g.step (aw.new q)).append (f.step (aw.new q))⟩
 cases op with
 |Add=>
  replace p:aq D W φ α H B (RV D φ Q) (pw x y μ):=p;unfold pw at p;split at p
  .subst l;subst k;exact LC u s B H _ _ _ _ Q I n m ⟨_,_,rfl,rfl,p.here c rfl⟩
  .obtain⟨h,p⟩:=p.grd;obtain⟨a,e,rfl,U,S,t,g⟩:=l;obtain⟨b,d,rfl,O,N,r,f⟩:=k;refine VU u s B H _ _ _ _ Q I n m ⟨a,b,e,d,rfl,rfl,t,r,g.length▸f.length▸zN h,λz v=>?_⟩;have q:=ze (o:=.l (e++d)) v;exact p.fresh c q ⟨z,_,rfl,zi c v,zh c v,.inl z0,(g.step (aw.new q)).append (f.step (aw.new q))⟩
  .obtain⟨xs,L,p⟩:=p.ex1;obtain⟨h,p⟩:=aq.grd p;obtain⟨a,C,rfl⟩:=l;obtain⟨e,t,g⟩:=c.ob _ a _ C L;obtain⟨b,d,rfl,O,N,r,f⟩:=k;exact F (.inl t) r g f rfl rfl h p
  .obtain⟨E,L,p⟩:=p.ex1;obtain⟨h,p⟩:=aq.grd p;obtain⟨a,C,rfl⟩:=k;obtain⟨e,t,g⟩:=c.ob _ a _ C L;obtain⟨b,d,rfl,O,N,r,f⟩:=l;exact F r (.inl t) f g rfl rfl h p
  .exact p.elim
 |Sub=>
  obtain⟨i,j,rfl,rfl,p⟩:=kA p;subst l;subst k;exact Hw u s B H _ _ _ _ Q I n m ⟨_,_,rfl,rfl,p.here c rfl⟩
 |Mult=>
  obtain⟨i,j,rfl,rfl,p⟩:=kA p;subst l;subst k;obtain⟨h,p⟩:=p.grd;exact Iq u s B H _ _ _ _ Q I n m ⟨_,_,rfl,rfl,by simpa[iH,big] using h,p.here c rfl⟩
 |FloorDiv=>
  obtain⟨i,j,rfl,rfl,p⟩:=kA p;subst l;subst k;obtain⟨h,p⟩:=p.grd;exact Xx u s B H _ _ _ _ Q I n m ⟨_,_,rfl,rfl,h,p.here c rfl⟩
 |Mod=>
  obtain⟨i,j,rfl,rfl,p⟩:=kA p;subst l;subst k;obtain⟨h,p⟩:=p.grd;exact Lu u s B H _ _ _ _ Q I n m ⟨_,_,rfl,rfl,h,p.here c rfl⟩
 |Pow=>
  obtain⟨i,j,rfl,rfl,p⟩:=kA p;subst l;subst k;obtain⟨h,p⟩:=p.grd;exact LO u s B H _ _ _ _ Q I n m ⟨_,_,rfl,rfl,⟨h.1,h.2.1,by simpa using h.2.2⟩,p.here c rfl⟩
 |_=>exact p.elim
end
section
section
theorem Rd.inj(b:∀o z,u≠.frz o z)(hw:∀o z,w≠.frz o z)(r:Rd H a u)(q:Rd H a w):u=w:=by
 rcases r with r|⟨o,r⟩<;>rcases q with q|⟨c,q⟩<;>rw[r] at q
 .exact aZ q
 .exact absurd (aZ q) (b _ _)
 .exact absurd (aZ q).symm (hw _ _)
 .injection aZ q
mutual
theorem u5:∀{t u:T}{v:V}{k:Bool},aI D φ α H t v->aI D φ α H u v->eqT t u=aa k->k=ae
 |.int i,u,_,k,f,c,e=>by
  subst f;cases u with
  |int j=>have c:=c;injection c with c;subst c;rw[<-aZ e];simp
  |bl b=>have c:=c;injection c
  |str b=>have c:=c;injection c
  |n=>have c:=c;injection c
  |t b=>obtain⟨_,_,c,_⟩:=c;injection c
  |l b=>obtain⟨_,_,c,_⟩:=c;injection c
  |_=>exact z9 e
 |.bl i,u,_,k,f,c,e=>by
  subst f;cases u with
  |bl j=>have c:=c;injection c with c;subst c;rw[<-aZ e];simp
  |int b=>have c:=c;injection c
  |str b=>have c:=c;injection c
  |n=>have c:=c;injection c
  |t b=>obtain⟨_,_,c,_⟩:=c;injection c
  |l b=>obtain⟨_,_,c,_⟩:=c;injection c
  |_=>exact z9 e
 |.str i,u,_,k,f,c,e=>by
  subst f;cases u with
  |str j=>have c:=c;injection c with c;subst c;rw[<-aZ e];simp
  |int b=>have c:=c;injection c
  |bl b=>have c:=c;injection c
  |n=>have c:=c;injection c
  |t b=>obtain⟨_,_,c,_⟩:=c;injection c
  |l b=>obtain⟨_,_,c,_⟩:=c;injection c
  |_=>exact z9 e
 |.n,u,_,k,f,c,e=>by
  subst f;cases u with
  |n=>exact (aZ e).symm
  |int b=>have c:=c;injection c
  |bl b=>have c:=c;injection c
  |str b=>have c:=c;injection c
  |t b=>obtain⟨_,_,c,_⟩:=c;injection c
  |l b=>obtain⟨_,_,c,_⟩:=c;injection c
  |_=>exact z9 e
 |.t o,u,_,k,f,c,e=>by
  obtain⟨a,xs,rfl,_,_,r,l⟩:=f;cases u with
  |t n=>
   obtain⟨b,m,d,_,_,g,h⟩:=c;(injection d with d;subst d);have:=Rd.inj (by intro _ _ z;injection z) (by intro _ _ z;injection z) r g;injection this with this;subst this;exact kW l h e
  |l n=>
   obtain⟨b,m,d,_,_,g,h⟩:=c;(injection d with d;subst d);have:=Rd.inj (by intro _ _ z;injection z) (by intro _ _ z;injection z) r g;injection this
  |int b=>have c:=c;injection c
  |bl b=>have c:=c;injection c
  |str b=>have c:=c;injection c
  |n=>have c:=c;injection c
  |_=>exact z9 e
 |.l o,u,_,k,f,c,e=>by
  obtain⟨a,xs,rfl,_,_,r,l⟩:=f;cases u with
  |l n=>
   obtain⟨b,m,d,_,_,g,h⟩:=c;(injection d with d;subst d);have:=Rd.inj (by intro _ _ z;injection z) (by intro _ _ z;injection z) r g;injection this with this;subst this;exact kW l h e
  |t n=>
   obtain⟨b,m,d,_,_,g,h⟩:=c;(injection d with d;subst d);have:=Rd.inj (by intro _ _ z;injection z) (by intro _ _ z;injection z) r g;injection this
  |int b=>have c:=c;injection c
  |bl b=>have c:=c;injection c
  |str b=>have c:=c;injection c
  |n=>have c:=c;injection c
  |_=>exact z9 e
 |.obj _ _,_,_,_,_,_,e=>z9 e
 |.m _,_,_,_,_,_,e=>z9 e
 |.exc _ _,_,_,_,_,_,e=>z9 e
 |.d _,_,_,_,_,_,e=>z9 e
 |.clo _ _,_,_,_,_,_,e=>z9 e
theorem kW:∀{ts us:List T}{vs:List V}{k:Bool},av D φ α H ts vs->av D φ α H us vs->bK ts us=aa k->k=ae
 |[],[],_,k,_,_,e=>by simpa[bK] using e.symm
 |[],_::_,_,k,b,a,e=>by
  obtain⟨_,_,a,_⟩:=a;rw[b] at a;injection a
 |_::_,[],_,k,b,a,e=>by
  obtain⟨_,_,b,_⟩:=b;rw[a] at b;injection b
 |t::ts,u::us,_,k,b,a,e=>by
  obtain⟨v,r,rfl,n,l⟩:=b;obtain⟨o,p,q,m,j⟩:=a;injection q with f d;subst f d;cases h:eqT t u with
  |none=>simp[bK,h] at e
  |some x=>
   cases c:bK ts us with
   |none=>simp[bK,h,c] at e
   |some y=>
    have i:=u5 n m h;have g:=kW l j c;subst i g;simpa[bK,h,c] using e.symm
end
end
section
variable {D:DP}{φ α:List ak}
theorem uB:∀{ts us:List T}{k:Bool},bK ts us=aa k->(∀j (h1:j<ts.length) (h2:j<us.length),∃b,eqT ts[j] us[j]=aa b)/\
  k=((dm (min ts.length us.length)).all (λj=>match ts[j]?,us[j]? with|some t,aa u=>(eqT t u).getD ag|_,_=>ag)&&ts.length==us.length)
 |[],[],k,e=>by
  simp[bK] at e;subst e;exact⟨λj h1=>by simp at h1,sC⟩
 |[],u::us,k,e=>by
  simp[bK] at e;subst e;exact⟨λj h1=>by simp at h1,sC⟩
 |t::ts,[],k,e=>by
  simp[bK] at e;subst e;exact⟨λj h1 h2=>by simp at h2,sC⟩
 |t::ts,u::us,k,e=>by
  cases h:eqT t u with
  |none=>simp[bK,h] at e
  |some x=>
   cases a:bK ts us with
   |none=>simp[bK,h,a] at e
   |some y=>
    obtain⟨g,c⟩:=uB a;simp[bK,h,a] at e;subst e;refine⟨λj h1 h2=>?_,?_⟩
    .cases j with
     |zero=>exact⟨x,h⟩
     |succ j=>exact g j (by simpa using h1) (by simpa using h2)
    .rw[c];have d:min (t::ts).length (u::us).length=min ts.length us.length+1:=by simp
     rw[d,List.range_succ_eq_map,iM,rT];simp only[Bw,h];rw[Bool.and_assoc];congr 2;simp
theorem cu(A:eF):A.in1.units=A.units+1:=by first|rfl|simp[ Around.units]
theorem Xz(I:Inv X z B H s)(h1:aI D φ α H (.int i) v)(h2:aI D φ α H u w)(l:RelV v a)(d:RelV w b)(e:eqT (.int i) u=aa k)(n:A.units+wU (.int i)+1<cLine):ig A s a b k:=by
 subst h1;obtain⟨m,rfl⟩:=l;cases u with
 |int j=>have h2:=h2;subst h2;obtain⟨h,rfl⟩:=d;cases aZ e;exact SeqAt.EqAt.int_int _ _ _ _
 |bl j=>have h2:=h2;subst h2;subst d;cases aZ e;exact SeqAt.EqAt.int_bool _ _ _
 |str j=>have h2:=h2;subst h2;obtain⟨h,rfl⟩:=d;cases aZ e;exact A4 _ _ _ _
 |n=>have h2:=h2;subst h2;subst d;cases aZ e;exact SeqAt.EqAt.int_none _ _
 |t g=>obtain⟨c,xs,rfl,_,_,r,_⟩:=h2;subst d;obtain⟨f,_,p,_⟩:=I.tuple (.inl r);cases aZ e;exact SeqAt.EqAt.int_tuple _ _ p lC
 |l g=>obtain⟨c,xs,rfl,_,_,r,_⟩:=h2;subst d;obtain⟨f,_,p,_⟩:=I.list (.inl r);cases aZ e;exact SeqAt.EqAt.int_list _ _ p.isList lC
 |_=>exact z9 e
theorem Mt(I:Inv X z B H s)(h1:aI D φ α H (.bl i) v)(h2:aI D φ α H u w)(l:RelV v a)(d:RelV w b)(e:eqT (.bl i) u=aa k)(m:A.units+wU (.bl i)+1<cLine):ig A s a b k:=by
 subst h1;subst l;cases u with
 |int j=>have h2:=h2;subst h2;obtain⟨h,rfl⟩:=d;cases aZ e;exact SeqAt.EqAt.bool_int _ _ _
 |bl j=>have h2:=h2;subst h2;subst d;cases aZ e;exact SeqAt.EqAt.bool_bool _ _
 |str j=>have h2:=h2;subst h2;obtain⟨h,rfl⟩:=d;cases aZ e;exact SeqAt.EqAt.bool_str _ _ _
 |n=>have h2:=h2;subst h2;subst d;cases aZ e;exact SeqAt.EqAt.bool_none _
 |t g=>obtain⟨c,xs,rfl,_,_,r,_⟩:=h2;subst d;obtain⟨f,_,p,_⟩:=I.tuple (.inl r);cases aZ e;exact SeqAt.EqAt.bool_tuple _ p lC
 |l g=>obtain⟨c,xs,rfl,_,_,r,_⟩:=h2;subst d;obtain⟨f,_,p,_⟩:=I.list (.inl r);cases aZ e;exact SeqAt.EqAt.bool_list _ p.isList lC
 |_=>exact z9 e
theorem Yq(I:Inv X z B H s)(h1:aI D φ α H (.str i) v)(h2:aI D φ α H u w)(l:RelV v a)(d:RelV w b)(e:eqT (.str i) u=aa k)(n:A.units+wU (.str i)+1<cLine):ig A s a b k:=by
 subst h1;obtain⟨m,rfl⟩:=l;cases u with
 |int j=>have h2:=h2;subst h2;obtain⟨h,rfl⟩:=d;cases aZ e;exact A3 _ _ _ _
 |bl j=>have h2:=h2;subst h2;subst d;cases aZ e;exact SeqAt.EqAt.str_bool _ _ _
 |str j=>have h2:=h2;subst h2;obtain⟨h,rfl⟩:=d;cases aZ e;exact AY _ _ _ _
 |n=>have h2:=h2;subst h2;subst d;cases aZ e;exact SeqAt.EqAt.str_none _ _
 |t g=>obtain⟨c,xs,rfl,_,_,r,_⟩:=h2;subst d;obtain⟨f,_,p,_⟩:=I.tuple (.inl r);cases aZ e;exact SeqAt.EqAt.str_tuple _ _ p (by omega)
 |l g=>obtain⟨c,xs,rfl,_,_,r,_⟩:=h2;subst d;obtain⟨f,_,p,_⟩:=I.list (.inl r);cases aZ e;exact SeqAt.EqAt.str_list _ _ p.isList (by omega)
 |_=>exact z9 e
theorem YX(I:Inv X z B H s)(h1:aI D φ α H .n v)(h2:aI D φ α H u w)(i:RelV v a)(d:RelV w b)(e:eqT .n u=aa k)(l:A.units+wU .n+1<cLine):ig A s a b k:=by
 subst h1;subst i;cases u with
 |int j=>have h2:=h2;subst h2;obtain⟨h,rfl⟩:=d;cases aZ e;exact SeqAt.EqAt.none_int _ _
 |bl j=>have h2:=h2;subst h2;subst d;cases aZ e;exact SeqAt.EqAt.none_bool _
 |str j=>have h2:=h2;subst h2;obtain⟨h,rfl⟩:=d;cases aZ e;exact SeqAt.EqAt.none_str _ _
 |n=>have h2:=h2;subst h2;subst d;cases aZ e;exact r4 _
 |t g=>obtain⟨c,xs,rfl,_,_,r,_⟩:=h2;subst d;obtain⟨f,_,p,_⟩:=I.tuple (.inl r);cases aZ e;exact SeqAt.EqAt.none_tuple p lC
 |l g=>obtain⟨c,xs,rfl,_,_,r,_⟩:=h2;subst d;obtain⟨f,_,p,_⟩:=I.list (.inl r);cases aZ e;exact SeqAt.EqAt.none_list p.isList lC
 |_=>exact z9 e
theorem VF(I:Inv X z C H s)(o:∀us,u≠.t us)(h1:aI D φ α H (.t ts) B)(h2:aI D φ α H u w)(h:RelV B a)(g:RelV w b)(e:eqT (.t ts) u=aa k)(v:A.units+wU (.t ts)+1<cLine):ig A s a b k:=by
 cases u with
 |t us=>exact absurd rfl (o us)
 |l us=>
  obtain⟨c,xs,rfl,_,_,r,l⟩:=h1;obtain⟨d,q,rfl,_,_,m,t⟩:=h2;subst h;subst g;obtain⟨_,_,p,_⟩:=I.tuple (.inl r);obtain⟨_,_,n,_⟩:=I.list (.inl m);cases aZ e;exact SeqAt.EqAt.tuple_list p n.isList lC
 |int j=>have h2:=h2;subst h2;obtain⟨i,rfl⟩:=g;obtain⟨c,xs,rfl,_,_,r,_⟩:=h1;subst h;obtain⟨f,_,p,_⟩:=I.tuple (.inl r);cases aZ e;exact SeqAt.EqAt.tuple_int _ _ p lC
 |bl j=>have h2:=h2;subst h2;subst g;obtain⟨c,xs,rfl,_,_,r,_⟩:=h1;subst h;obtain⟨f,_,p,_⟩:=I.tuple (.inl r);cases aZ e;exact SeqAt.EqAt.tuple_bool _ p lC
 |str j=>have h2:=h2;subst h2;obtain⟨i,rfl⟩:=g;obtain⟨c,xs,rfl,_,_,r,_⟩:=h1;subst h;obtain⟨f,_,p,_⟩:=I.tuple (.inl r);cases aZ e;exact SeqAt.EqAt.tuple_str _ _ p lC
 |n=>have h2:=h2;subst h2;subst g;obtain⟨c,xs,rfl,_,_,r,_⟩:=h1;subst h;obtain⟨f,_,p,_⟩:=I.tuple (.inl r);cases aZ e;exact SeqAt.EqAt.tuple_none p lC
 |_=>exact z9 e
theorem Va(I:Inv X z C H s)(o:∀us,u≠.l us)(h1:aI D φ α H (.l ts) B)(h2:aI D φ α H u w)(h:RelV B a)(g:RelV w b)(e:eqT (.l ts) u=aa k)(v:A.units+wU (.l ts)+1<cLine):ig A s a b k:=by
 cases u with
 |l us=>exact absurd rfl (o us)
 |t us=>
  obtain⟨c,xs,rfl,_,_,r,l⟩:=h1;obtain⟨d,q,rfl,_,_,m,t⟩:=h2;subst h;subst g;obtain⟨_,_,p,_⟩:=I.list (.inl r);obtain⟨_,_,n,_⟩:=I.tuple (.inl m);cases aZ e;exact SeqAt.EqAt.list_tuple p.isList n lC
 |int j=>have h2:=h2;subst h2;obtain⟨i,rfl⟩:=g;obtain⟨c,xs,rfl,_,_,r,_⟩:=h1;subst h;obtain⟨f,_,p,_⟩:=I.list (.inl r);cases aZ e;exact SeqAt.EqAt.list_int _ _ p.isList lC
 |bl j=>have h2:=h2;subst h2;subst g;obtain⟨c,xs,rfl,_,_,r,_⟩:=h1;subst h;obtain⟨f,_,p,_⟩:=I.list (.inl r);cases aZ e;exact SeqAt.EqAt.list_bool _ p.isList lC
 |str j=>have h2:=h2;subst h2;obtain⟨i,rfl⟩:=g;obtain⟨c,xs,rfl,_,_,r,_⟩:=h1;subst h;obtain⟨f,_,p,_⟩:=I.list (.inl r);cases aZ e;exact SeqAt.EqAt.list_str _ _ p.isList lC
 |n=>have h2:=h2;subst h2;subst g;obtain⟨c,xs,rfl,_,_,r,_⟩:=h1;subst h;obtain⟨f,_,p,_⟩:=I.list (.inl r);cases aZ e;exact SeqAt.EqAt.list_none p.isList lC
 |_=>exact z9 e
noncomputable def p4 (D:DP)(φ α:List ak)(H:Hp)(s:aJ)(n:Nat):Prop:=∀(t u:T) (v w:V) (a b:ai) (k:Bool) (A:eF),wU t<n->aI D φ α H t v->aI D φ α H u w->RelV v a->RelV w b->eqT t u=aa k->A.units+wU t+1<cLine->ig A s a b k
theorem wK(p:p4 D φ α H s n):∀{ts us:List T}{xs i:List V}{c a:List ai}{A:eF},q9 ts<n->av D φ α H ts xs->av D φ α H us i->aE xs c->aE i a->A.units+q9 ts+1<cLine->
  ∀(j:Nat) (h1:j<c.length) (h2:j<a.length),(∀(x:j<ts.length) (q:j<us.length),∃b,eqT ts[j] us[j]=aa b)->ig A s c[j] a[j] (match ts[j]?,us[j]? with|some t,aa u=>(eqT t u).getD ag|_,_=>ag)
 |[],_,xs,_,c,_,A,_,l,_,e,_,_,j,h1,_,_=>by
  subst l;cases e;simp at h1
 |t::ts,us,xs,i,c,a,A,hd,l,h,e,d,C,j,h1,h2,g=>by
  obtain⟨v,r,rfl,F,l⟩:=l;cases e with
  | @cons _ G _ y B e=>
  cases us with
  |nil=>
   subst h;cases d;simp at h2
  |cons u us=>
   obtain⟨w,I,rfl,E,h⟩:=h;cases d with
   | @cons _ z _ o k d=>
   simp only[q9] at C hd;cases j with
   |zero=>
    obtain⟨b,m⟩:=g sC sC;have f:eqT t u=aa b:=by simpa using m
    simp only[Bw,f];exact p _ _ _ _ _ _ _ _ (by omega) F E B k f (by omega)
   |succ j=>
    exact wK p (by omega) l h e d (by omega) j (by simpa using h1) (by simpa using h2) λx q=>by
     obtain⟨b,m⟩:=g (by simpa using x) (by simpa using q);exact⟨b,by simpa using m⟩
theorem Zs(I:Inv X u B H s)(t:p4 D φ α H s n)(hd:q9 ts<n)(l:av D φ α H ts xs)(l':av D φ α H us z)(r:Rd H c (.t xs))(h:Rd H d (.t z))(e:bK ts us=aa k)(C:A.units+q9 ts+2<cLine):n_ A s (.ref c) (.ref d) k:=by
 obtain⟨q,b,p,_⟩:=I.tuple (.inl r);obtain⟨f,a,o,_⟩:=I.tuple (.inl h);obtain⟨g,rfl⟩:=uB e;have w:=l.length.trans b.length;have v:=l'.length.trans a.length;have:=SeqAt.RcAt.tuples (A:=A) p o (by omega) λj m i=>by
  have:=wK (A:=A.in1) t hd l l' b a (by rw[cu];omega) j (by simpa using m) (by simpa using i) λy x=>g j y x;simpa using this
 simpa[w,v] using this
theorem ZI(I:Inv X u C H s)(w:p4 D φ α H s n)(hd:q9 ts<n)(l:av D φ α H ts xs)(l':av D φ α H us z)(r:Rd H c (.l xs))(q:Rd H d (.l z))(e:bK ts us=aa k)(E:A.units+q9 ts+2<cLine):n_ A s (.ref c) (.ref d) k:=by
 obtain⟨b,h,p,_⟩:=I.list (.inl r);obtain⟨m,a,i,_⟩:=I.list (.inl q);obtain⟨g,rfl⟩:=uB e;have G:=l.length.trans h.length;have F:=l'.length.trans a.length;by_cases o:ts.length=us.length
 .have:=SeqAt.RcAt.lists (A:=A) p.isList i.isList (by simp;lia) lC λj v t=>by
   have:=wK (A:=A.in1) w hd l l' h a (by rw[cu];lia) j (by simpa using v) (by simpa using t) λy x=>g j y x;simpa using this
  have B:min ts.length us.length=b.length:=by lia
  have f:(ts.length==us.length)=ae:=by simpa using o
  rw[B,f,xL];simpa using this
 .have f:(ts.length==us.length)=ag:=by simpa using o
  rw[f,su];exact SeqAt.RcAt.lists_lengths p.isList i.isList (by simp;lia) lC
theorem Q6(I:Inv X C M H s):∀n,p4 D φ α H s n
 |0=>λ_ _ _ _ _ _ _ _ p=>absurd p (by omega)
 |n+1=>λt u v w a b k A p h g m j e o=>by
  have E:=Q6 I n;cases t with
  |int i=>exact Xz I h g m j e o
  |bl i=>exact Mt I h g m j e o
  |str i=>exact Yq I h g m j e o
  |n=>exact YX I h g m j e o
  |t J=>
   cases u with
   |t G=>
    have B:=λ(q:w=v)=>u5 h (q▸g) e;obtain⟨c,xs,rfl,_,_,r,l⟩:=h;obtain⟨d,F,rfl,_,_,x,y⟩:=g;subst m;subst j;by_cases f:c=d
    .subst f;rw[B rfl];exact r4 _
    .exact AX f (Zs I E (by simp only[wU] at p;omega) l y r x e (by simp only[wU] at o;omega))
   |_=>exact VF I (by intro _ z;injection z) h g m j e o
  |l J=>
   cases u with
   |l G=>
    have B:=λ(q:w=v)=>u5 h (q▸g) e;obtain⟨c,xs,rfl,_,_,r,l⟩:=h;obtain⟨d,F,rfl,_,_,x,y⟩:=g;subst m;subst j;by_cases f:c=d
    .subst f;rw[B rfl];exact r4 _
    .exact AX f (ZI I E (by simp only[wU] at p;omega) l y r x e (by simp only[wU] at o;omega))
   |_=>exact Va I (by intro _ z;injection z) h g m j e o
  |_=>exact z9 e
theorem Ub(I:Inv X j z H s)(l:av D φ α H ts xs)(l':av D φ α H us u)(r:Rd H c (.t xs))(a:Rd H d (.t u))(e:bK ts us=aa k)(b:A.units+q9 ts+2<cLine):n_ A s (.ref c) (.ref d) k:=Zs I (Q6 I _) (lz _) l l' r a e b
theorem Xg(I:Inv X j z H s)(l:av D φ α H ts xs)(l':av D φ α H us u)(r:Rd H c (.l xs))(a:Rd H d (.l u))(e:bK ts us=aa k)(b:A.units+q9 ts+2<cLine):n_ A s (.ref c) (.ref d) k:=ZI I (Q6 I _) (lz _) l l' r a e b
theorem yC(I:Inv X z B H s):∀{ts us:List T}{xs e:List V}{c a:List ai}{A:eF},av D φ α H ts xs->av D φ α H us e->aE xs c->aE e a->A.units+q9 ts+1<cLine->
  ∀(j:Nat) (h1:j<c.length) (h2:j<a.length),(∀(k:j<ts.length) (i:j<us.length),∃b,eqT ts[j] us[j]=aa b)->ig A s c[j] a[j] (match ts[j]?,us[j]? with|some t,aa u=>(eqT t u).getD ag|_,_=>ag):=λl g f d h=>wK (Q6 I _) (lz _) l g f d h
theorem X3(I:Inv X u B H s)(l:av D φ α H ts xs)(l':av D φ α H us z)(r:Rd H c (.t xs))(h:Rd H d (.t z))(e:bK ts us=aa k)(x:A.units+q9 ts+2<cLine):An A s (.ref c) (.ref d) (!k):=by
 obtain⟨o,b,p,_⟩:=I.tuple (.inl r);obtain⟨f,a,n,_⟩:=I.tuple (.inl h);obtain⟨g,rfl⟩:=uB e;have t:=l.length.trans b.length;have q:=l'.length.trans a.length;have:=D3 (A:=A) p n lC λj m i=>by
  have:=yC (A:=A.in1) I l l' b a (by rw[cu];lia) j (by simpa using m) (by simpa using i) λw v=>g j w v;simpa using this
 simpa[t,q] using this
theorem YZ(I:Inv X u B H s)(l:av D φ α H ts xs)(l':av D φ α H us z)(r:Rd H c (.l xs))(o:Rd H d (.l z))(e:bK ts us=aa k)(y:A.units+q9 ts+2<cLine):An A s (.ref c) (.ref d) (!k):=by
 obtain⟨b,h,p,_⟩:=I.list (.inl r);obtain⟨m,a,i,_⟩:=I.list (.inl o);obtain⟨g,rfl⟩:=uB e;have E:=l.length.trans h.length;have C:=l'.length.trans a.length;by_cases n:ts.length=us.length
 .have:=DZ (A:=A) p.isList i.isList (by simp;lia) lC λj t q=>by
   have:=yC (A:=A.in1) I l l' h a (by rw[cu];lia) j (by simpa using t) (by simpa using q) λw v=>g j w v;simpa using this
  have x:min ts.length us.length=b.length:=by lia
  have f:(ts.length==us.length)=ae:=by simpa using n
  rw[x,f,xL];simpa using this
 .have f:(ts.length==us.length)=ag:=by simpa using n
  rw[f,su];exact Eo p.isList i.isList (by simp;lia) lC
end
end
noncomputable def M9 (D:DP)(f:Fn):Sp:=λh H Q E=>∃a c e d,av D a c H e h/\au D a c H d/\aq D (d9 E) a c H [] (λt _ b g=>∀v,aI D a b g t v->Q v g) (f e d)
noncomputable def fJ (D:DP)(n:Nat)(f:Fn):Sp:=λa H Q E=>a.length=n/\M9 D f a H Q E
noncomputable def WZ (D:DP)(t:Nat)(u:ai):Prop:=
 (t=0/\u=.type "NoneType")\/(t=1/\u=.type "bool")\/(t=2/\u=.type "int")\/(t=3/\u=.type "str")\/(t=4/\u=.type "tuple")\/(t=5/\u=.type "list")\/(∃C,D.adr t=aa C/\u=.ref C)\/(t=6/\u=.type "dict")\/(∃C,D.cad t=aa C/\u=.ref C)
noncomputable def uo(mg:ao->Option ai)(c:ao)(u:ai):Prop:=mg c=aa u\/(mg c=af/\fQ c=aa u/\c≠"__name__")
abbrev Uk(X:Cx)(c:ao)(u:ai):Prop:=uo X.mg c u
noncomputable def fh(v:V)(u:ai):Prop:=(∃C,v=.ref C/\u=.ref C)\/∃n,v=.ty n/\u=.type n
theorem fh.rel(h:fh v u):L2.RelV v u:=by
 rcases h with⟨C,rfl,rfl⟩|⟨n,rfl,rfl⟩<;>rfl
theorem fh.only(h:fh v u)(r:L2.RelV v j):j=u:=by
 rcases h with⟨C,rfl,rfl⟩|⟨n,rfl,rfl⟩<;>exact r
structure nK(K:PySem.W.Frag)(C:ak):Prop where
 ga:cP K (.ref C) "__getattribute__"=aa (aa (.builtin "BaseException.__getattribute__"))
 hk:cP K (.ref C) "__getattr__"=aa af
 fi:cP K (.ref C) "__class__"=aa (aa (.builtin "object.__class__"))
 sp:li K (.builtin "object.__class__") "__get__"=aa (aa (.builtin "getset_descriptor.__get__"))
 tk:oA K (.builtin "object.__class__")=aa ae
 ob:fR K C (.type "object")=aa ae
 bx:fR K C (.type "BaseException")=aa ae
 nb:fR K C (.type "KeyError")=aa ag/\fR K C (.type "ZeroDivisionError")=aa ag
 cl:(mP K C).isSome=ae
structure lG(K:PySem.W.Frag)(C:ak):Prop where
 cl:fB K C
 fi:cP K (.ref C) "__class__"=aa (aa (.builtin "object.__class__"))
 sp:li K (.builtin "object.__class__") "__get__"=aa (aa (.builtin "getset_descriptor.__get__"))
 tk:oA K (.builtin "object.__class__")=aa ae
 ob:fR K C (.type "object")=aa ae
abbrev qU:List ai:=[.type "ValueError",.type "Exception",.type "BaseException",.type "object"]
noncomputable def ND (D:DP)(P:bL)(w:dh)(K:bc)(mg:ao->Option ai)(base:aG)(k:Nat)(d:ak)(f:Fn):Prop:=
 ∃fd a c,gY K (.ref d)=ae/\Binds K fd a []/\c<=k/\bF P w K mg base (dB P w) c d fd a (fJ D a.length f)/\∀b e K Z,f b e K Z->b.length=a.length
structure gM(k:Nat)(A:Around):Prop where
 dp:A.depth+3*k+5<recursionLimit
 un:A.units+16*k+200<cLine
theorem gM.units{k:Nat}(r:gM k A):A.units+64<cLine:=by have:=r.un;lia
noncomputable def uV (x C:ak):aG->Prop:=λh=>∃t,h.get? x=aa {cls:=.ref C,data:=.fields #[.ref t,.none,.none,.none,.bool ag,.none]}
noncomputable def Z3(x C a:ak):aG->Prop:=λh=>∃t,h.get? x=aa {cls:=.ref C,dict:=aa a,data:=.fields #[.ref t,.none,.none,.none,.bool ag,.none]}
structure gK(K:PySem.W.Frag)(C HE fI:ak)(fl:ao):Prop where
 cls:∃N nm q bs hd sn sub ab col dd k0 k1 k2 k3 k5,K.lookup C=aa (g5 nm q C N bs (.ref HE::qU) hd sn sub ab col dd k0 k1 k2 k3 k5 "ValueError.__new__")/\rA K N=ae/\mS K N "__init__"=aa (aa (.ref fI))
 he:lR K HE qU "ValueError.__new__"=ae
 fn:rD K (.ref fI)=aa (.type "function")
 sa:cP K (.ref C) "__setattr__"=aa (aa (.builtin "object.__setattr__"))
 no:cP K (.ref C) fl=aa af
 dct:lx K C=ae
 kp:gY K (.ref C)=ae
noncomputable def nA (C:ak)(fl:ao):Sp:=λb H Q E=>∃(x:ak) (i:Int),b=[.ref x,.int i]/\i.natAbs.log2<1920/\H x=aa (.ext (uV x C))/\∀a,H a=af->a≠x->Q .n (upd (upd H x (.ext (Z3 x C a))) a (.xd [(fl,.int i)]))
noncomputable def E2 (t:T):Prop:=t=.clo 0 [.clo 100 []]\/t=.clo 1 []\/t=.clo 2 [.clo 101 []]
noncomputable def uH(a c:ak)(l:cT)(cl:List (ao×ak)):aG->Prop:=λh=>∃(e:Pos) (d b:ai),h.get? a=aa (iT "<lambda>" l.qn ⟨[],[⟨l.y,af,e⟩],af,[],[],af,[]⟩ l.body l.sc cl d c b)
noncomputable def py (z:ao)(cl:List (ao×ak))(e:ak):Prop:=cl.lookup z=aa e/\∀x a,cl.lookup x=aa a->x=z
noncomputable def GN(D:DP)(P:bL)(w:dh)(K:bc)(mg:ao->Option ai)(base:aG)(k:Nat)(l:cT):Prop:=
 ∀(o:T) (i j:List ak) (H:Hp) (v:V),aI D i j H (Xl l.jt o) v->∃(a:ak) (q:Nat),v=.ref a/\q<=k/\∀(A:eF) (f:List Env) (s:aJ),c8 P w K mg base A f s H->PySem.W.FnAt a s.heap/\(bE q A->
  ∀(u:ai) (x:V) (Q:VK) (t:T) (m:Mem) (z:T->Mem->Prop) (y:Xp) (E:XK),RelV x u->aI D i j H t x->au D i j H m->l.g [aa t,aa o] m z y->(∀p e,z p e->∀b h n,aw j H b h->au D i b h e->aI D i b h p n->Q n h)->(∀c fs e,y c fs e->∀b h r d,aw j H b h->au D i b h e->iA D c fs r->bJ D i b h fs d->E r d h)->
  fC (aC P w) A (.call (.ref a) ⟨[u],[]⟩) (CR (dB P w) f P w H s Q E) s)
structure i5(D:DP)(l:cT):Prop where
 tb:∃P' pos,D.tabs l.jt=aa (P',pos,l.qn)
 fn:∀(a c:ak) (cl:List (ao×ak)) (e:ak),py l.fr cl e->D.clo 300 a (aa (.ext (uH a c l cl))) [.ref c,.ref e]
 ce:∀c (o:bj) u x ob,o.data=.cell (aa u)->RelV x u->D.clo 200 c (aa (.frz o ob)) [x]
 co:∀j P' pos qn c,D.tabs j=aa (P',pos,qn)->D.clo (100+j) c (aa (.ext (wV c qn))) []
noncomputable def bD(D:DP)(P:bL)(w:dh)(K:bc)(mg:ao->Option ai)(base:aG)(k:Nat)(x:ao):GM->Prop
 |.fn f=>∃q,mg x=aa (.ref q)/\ND D P w K mg base k q f
 |.met c nm f=>∃C e fd b d,D.cad c=aa C/\fB K C/\nR K C nm e/\(∀i,D.fn i≠aa nm)/\Binds K fd b []/\d<=k/\bF P w K mg base (dB P w) d e fd b (fJ D b.length f)/\∀g j K Z,f g j K Z->g.length=b.length
 |.mk c _ f=>∃C e fd b d,D.cad c=aa C/\mg x=aa (.ref C)/\Mk K C e/\Binds K fd b []/\d+1<=k/\bF P w K mg base (dB P w) d e fd b (fJ D b.length f)/\∀g j K Z,f g j K Z->g.length=b.length
 |.cst t=>∃u v,mg x=aa u/\RelV v u/\∀r s H,aI D r s H t v
 |.xcl c=>∃C,D.adr c=aa C/\mg x=aa (.ref C)/\lR K C qU "ValueError.__new__"=ae
 |.xcf c _=>∃C,D.adr c=aa C/\mg x=aa (.ref C)
 |.xin c f nm n=>∃C y e fd b d,D.adr c=aa C/\mg nm=aa (.ref C)/\D.fn f=aa n/\gK K C y e n/\Binds K fd b []/\d+1<=k/\bF P w K mg base (dB P w) d e fd b (nA C n)
 |.kap l=>GN D P w K mg base k l/\i5 D l
 |.tbl m=>∃a o,mg x=aa (.ref a)/\(a==fF)=ag/\KV (m.map λp=>((.inr p.1:Key),V.int p.2)) o/\∀h:aG,K.In h->h.DictOf (zC P w) a o
 |.none=>mg x=af
 |.bad=>True
abbrev Cq(D:DP)(X:Cx)(k:Nat)(x:ao)(g:GM):Prop:=bD D X.prog X.w X.K X.mg X.base k x g
structure Cn where
 N:List ao
 G:List ao
 calm:Bool
 gl:ao->GM
 cls:List (ao×Nat)
 fld:List (ao×Nat)
 U:List ao
 cel:List ao
 own:List ao
 lam:Option (Nat×List Pos):=af
 lnm:ao:="<lambda>"
 fz:List ao:=[]
noncomputable def Cn.sto(a:Cn):List ao:=a.N.filter λx=>!a.fz.contains x
noncomputable def Cn.look(a:Cn)(x:ao):GM:=if a.G.contains x then a.gl x else .bad
noncomputable def cS(D:DP)(mg:ao->Option ai)(base:aG)(code:ai)(b:ao)(k:Nat)(l:Option (Nat×List Pos))(nm:ao):Prop:=∀j a,l=aa (j,a)->2<=k/\∃c P,code=.ref c/\AJ base c P/\base.BuiltinsAt mg P/\D.tabs j=aa (P,a,b++nm)
theorem cS.no{code:ai}(h:l=af):cS D mg base code s k l nm:=λj pos e=>by rw[h] at e;exact z9 e
structure Ck(D:DP)(W:XW)(Γ:Cn)(X:Cx)(k:Nat):Prop where
 hK:X.K=D.K
 hN:X.N=Γ.N
 nd:Γ.N.Nodup
 vis:∀x∈Γ.N,gL X.env.scope x
 dbg:∀x∈Γ.N,(x==("__debug__":ao))=ag/\(x==("__classdict__":ao))=ag
 dbG:∀x∈Γ.G,(x==("__debug__":ao))=ag
 glb:∀x∈Γ.G,Gl X x
 glo:∀x∈Γ.G,Cq D X k x (Γ.gl x)
 glU:∀x∈Γ.U,Cq D X k x (Γ.gl x)/\(x==("__debug__":ao))=ag
 cel:∀x∈Γ.cel,X.env.kindOf x=aa .cell\/X.env.kindOf x=aa .free
 isi:∀t x c,(x,c)∈Γ.cls->∀u v,WZ D t u->Uk X x v->oJ X.K u v=aa (vV t c)
 fld:∀c C x f,D.cad c=aa C->(x,f)∈Γ.fld->D.fn f=aa x/\fB X.K C/\bN X.K C x
 xcx:∀c C,D.adr c=aa C->nK X.K C
 ocx:∀c C,D.cad c=aa C->lG X.K C
 clv:∀x c,(x,c)∈Γ.cls->∃u v,Uk X x u/\fh v u
 clm:Γ.calm=ae->X.calm=ae
 rom:Γ.calm=ae->bE k X.A
 rmh:gM k X.A
 xe:∀e s,XP X W e s->X.xe e s
 frm:∃e0 out L,iF X e0 out L
 lam:cS D X.mg X.base X.env.code X.env.qual k Γ.lam Γ.lnm
 kfz:Γ.lam.isSome=ae->∀x∈Γ.fz,X.fn x=ag/\∀c,X.env.cells.lookup x=aa c->X.s₀.heap.objs.size<=c
theorem Ck.unt{W:XW}(C:Ck D W j X k):X.A.units+64<cLine:=C.rmh.units
theorem w5:∀{N:List ao}{x:ao}{i:Nat},cF N x=aa i->N[i]?=aa x
 |[],_,_,h=>by simp[cF] at h
 |y::r,x,i,h=>by
  simp only[cF] at h;split at h
  .rename_i e;(replace h:=zo h;subst h);simp[e]
  .cases q:cF r x with
   |none=>rw[q] at h;exact z9 h
   |some j=>rw[q] at h;(injection h with h;subst h);simpa using w5 q
theorem qN(h:cF N x=aa i):x∈N:=aS (w5 h)
section
theorem PE.mono(h:PE X e t)(m:∀j H Q,t' j H Q->t j H Q):PE X e t':=λa s j H Q I q=>h a s j H Q I (m j H Q q)
theorem Ld{i j pos}:PE X (.Constant (.int i) j pos) (aD D W (eC (.int i))):=PE.mono Lh λd H Q ⟨b,f,c,e,g,a,p⟩=>aq.here p a rfl
theorem F8{i j pos}:PE X (.Constant (.bool i) j pos) (aD D W (eC (.bl i))):=PE.mono FE λd H Q ⟨b,f,c,e,g,a,p⟩=>aq.here p a rfl
noncomputable abbrev _root_.clz6:=eC .n
theorem Hk{j pos}:PE X (.Constant .none j pos) (aD D W clz6):=PE.mono IP λd H Q ⟨b,f,c,e,g,a,p⟩=>aq.here p a rfl
theorem Ip{i j pos}:PE X (.Constant (.str i) j pos) (aD D W (eC (.str i))):=PE.mono Qa λd H Q ⟨b,f,c,e,g,a,p⟩=>aq.here p a rfl
set_option tactic.hygienic true in
theorem IA(C:Ck D W j X k)(hi:cF j.N x=aa i):PE X (.Name x pos) (aD D W (eV i)):=by
 refine PE.mono (kX (C.hN▸w5 hi) (C.vis x (qN hi)) (C.dbg x (qN hi)).1 (C.dbg x (qN hi)).2) ?_;rintro g H Q ⟨c,l,f,h,a,b,p⟩;dsimp only[eV] at p;split at p
 .rename_i t e;obtain⟨v,q,d⟩:=a.get e;exact⟨v,q,p.here b d⟩
 .exact p.elim
theorem Lf(C:Ck D W j X k)(a:x∈j.G)(ht:j.gl x=.cst t):PE X (.Name x pos) (aD D W (eC t)):=by
 have g:=C.glo x a;rw[ht] at g;obtain⟨u,v,c,r,d⟩:=g;exact PE.mono (Ja (C.glb x a) c r (C.dbG x a)) λh H Q ⟨e,l,f,i,m,b,p⟩=>aq.here p b (d _ _ _)
theorem G8(A:PE X a (aD D W f))(hb:PE X b (aD D W g)):PE X (.BinOp a op b pos) (aD D W (za op f g)):=by
 rintro i s K H Q I ⟨G,M,J,L,q,z,p⟩;refine wpAny_BinOp (aF (sub A I q z p) ?_);rintro u S ⟨v,U,t,k,m,F,w,n,d,h,C,y⟩;refine aF (sub hb F d h y) ?_;rintro O R ⟨N,T,P,j,l,E,r,c,o,e,B,x⟩;exact LV E e (C.step c) B w r x
theorem ID(o:PE X a (aD D W f)):PE X (.UnaryOp .USub a pos) (aD D W (Kf f)):=by
 rintro b s e H Q I ⟨x,A,y,z,k,n,p⟩;refine UnaryOp_ (aF (sub o I k n p) ?_);rintro u l ⟨v,w,t,g,h,r,m,i,j,d,q,c⟩;split at c
 .subst q;exact LH b l e w _ _ Q r m ⟨_,rfl,c.here d rfl⟩
 .exact c.elim
set_option tactic.hygienic true in
theorem HR(n:PE X a (aD D W f)):PE X (.UnaryOp .Not a pos) (aD D W (tM f)):=by
 rintro e s y H Q I ⟨w,A,x,z,k,m,p⟩;refine UnaryOp_ (aF (sub n I k m p) ?_);rintro u B ⟨v,r,t,g,h,q,l,i,j,d,o,c⟩;split at c
 .rename_i b;subst o;subst l;exact not_of (eW ⟨.bl (!b),r,q,rfl,c.here d rfl⟩)
 .exact c.elim
theorem Ht(b:PE X a (aD D W f)):PE X (.BoolOp op [a] pos) (aD D W f):=HZ b
theorem I0(A:PE X a (aD D W f))(hb:PE X (.BoolOp .And (b::r) pos) (aD D W g)):PE X (.BoolOp .And (a::b::r) pos) (aD D W (kY f g)):=by
 rintro d s o H Q I ⟨m,E,n,C,w,z,p⟩;refine BoolOp_and (aF (sub A I w z p) ?_);rintro u x ⟨v,l,t,h,i,k,y,q,j,e,B,c⟩;split at c
 .subst B;subst y;rcases c.br with⟨rfl,c⟩|⟨rfl,c⟩
  .exact eW (hb d x o l Q k ⟨m,i,n,h,j,e,c⟩)
  .exact eW ⟨.bl ag,l,k,rfl,c.here e rfl⟩
 .exact c.elim
theorem GC(A:PE X a (aD D W f))(hb:PE X (.BoolOp .Or (b::r) pos) (aD D W g)):PE X (.BoolOp .Or (a::b::r) pos) (aD D W (t6 f g)):=by
 rintro d s o H Q I ⟨m,E,n,C,w,z,p⟩;refine BoolOp_or (aF (sub A I w z p) ?_);rintro u x ⟨v,l,t,h,i,k,y,q,j,e,B,c⟩;split at c
 .subst B;subst y;rcases c.br with⟨rfl,c⟩|⟨rfl,c⟩
  .exact eW ⟨.bl ae,l,k,rfl,c.here e rfl⟩
  .exact eW (hb d x o l Q k ⟨m,i,n,h,j,e,c⟩)
 .exact c.elim
theorem La{b:Bool}(c:aI D φ α H x v)(a:aI D φ α H y w)(h:tP x y=aa b):pj v w=ae/\decide (v=w)=b:=by
 unfold tP at h
 split at h<;>first
  |(cases h;subst c;subst a;exact⟨rfl,sC⟩)
  |exact z9 h
theorem U6{b:Bool}{C:Prop}{x:T}{v w:V}(I:Inv X M G H s)(L:X.A.units+64<cLine)(J:au D φ α H μ)(B:aI D φ α H x v)(t:aI D φ α H y w)(p:aq D W φ α H G (RV D φ Q) (pO x y μ kk))
  (h1:∀b,aq D W φ α H G (RV D φ Q) (kk b)->pj v w=ae/\decide (v=w)=b->C)
  (h2:∀b,aq D W φ α H G (RV D φ Q) (kk b)->((∀u j,RelV v u->RelV w j->∀{R:ai->aJ->Prop},R (.bool b) s->aA (aC X.prog X.w) X.A (dN .Eq u j) R X.xe s)/\(∀u j,RelV v u->RelV w j->∀{R:ai->aJ->Prop},R (.bool (!b)) s->aA (aC X.prog X.w) X.A (dN .NotEq u j) R X.xe s))->C):C:=by
 have lst:∀{xs F:List T}{c d:ak}{i h:List V},v=.ref c->w=.ref d->Rd H c (.l i)->Rd H d (.l h)->av D φ α H xs i->av D φ α H F h->aq D W φ α H G (RV D φ Q) (RE.grd (q9 xs<=40) (.som (bK xs F) kk))->C:=λ{xs F c d i h} g f r e l a p=>by
  obtain⟨hd,p⟩:=p.grd;obtain⟨b,n,p⟩:=p.som;subst g f;exact h2 b p ⟨λu j m k R q=>by subst m;subst k;exact Xg I l a r e n lC _ _ _ _ q,λu j m k R q=>by subst m;subst k;exact YZ I l a r e n lC _ _ _ _ q⟩
 unfold pO at p;split at p
 .obtain⟨hd,p⟩:=p.grd;obtain⟨b,n,p⟩:=p.som;obtain⟨c,i,rfl,_,_,r,l⟩:=B;obtain⟨d,h,rfl,_,_,e,a⟩:=t;exact h2 b p ⟨λu j m k R q=>by subst m;subst k;exact Ub I l a r e n lC _ _ _ _ q,λu j m k R q=>by subst m;subst k;exact X3 I l a r e n lC _ _ _ _ q⟩
 .obtain⟨c,i,g,_,_,r,l⟩:=B;obtain⟨d,h,f,_,_,e,a⟩:=t;exact lst g f r e l a p
 .obtain⟨xs,o,p⟩:=p.ex1;obtain⟨c,E,g⟩:=B;obtain⟨i,q,l⟩:=J.ob _ c _ E o;obtain⟨d,h,f,_,_,e,a⟩:=t;exact lst g f (.inl q) e l a p
 .obtain⟨F,o,p⟩:=p.ex1;obtain⟨c,E,f⟩:=t;obtain⟨i,q,l⟩:=J.ob _ c _ E o;obtain⟨d,h,g,_,_,e,a⟩:=B;exact lst g f e (.inl q) a l p
 .obtain⟨z,o,p⟩:=p.ex1;obtain⟨c,E,g⟩:=B;obtain⟨i,q,l⟩:=J.ob _ c _ E o.1;obtain⟨d,hd,f⟩:=t;obtain⟨h,K,a⟩:=J.ob _ d _ hd o.2;exact lst g f (.inl q) (.inl K) l a p
 .split at p
  .rename_i n;exact h1 _ p (La B t n)
  .exact p.elim
theorem Qj{x:T}{v w:V}{d:ai}{Q:VK}(I:Inv X j u H s)(l:X.A.units+64<cLine)(c:au D φ α H μ)(a:aI D φ α H x v)(g:aI D φ α H y w)(f:RelV v z)(e:RelV w d)
  (p:aq D W φ α H u (RV D φ Q) (WV op x y μ)):aA (aC X.prog X.w) X.A (dN op z d) (EP X j u Q) X.xe s:=by
 unfold WV at p;split at p
 .refine U6 (b:=ae) I l c a g p (λb q h=>?_) (λb q h=>?_)
  .obtain⟨k,i⟩:=h;exact G5 j s u H v w z d Q I f e ⟨k,i▸aq.here q c rfl⟩
  .exact h.1 _ _ f e ⟨.bl b,H,I,rfl,aq.here q c rfl⟩
 .refine U6 (b:=ag) I l c a g p (λb q h=>?_) (λb q h=>?_)
  .obtain⟨k,i⟩:=h;exact Fq j s u H v w z d Q I f e ⟨k,i▸aq.here q c rfl⟩
  .exact h.2 _ _ f e ⟨.bl (!b),H,I,rfl,aq.here q c rfl⟩
 .unfold Dw at p;split at p
  .subst a;subst g;exact FA j s u H _ _ z d Q I f e ⟨_,_,rfl,rfl,aq.here p c rfl⟩
  .exact p.elim
 .split at p
  .subst a;subst g;exact GP j s u H _ _ z d Q I f e ⟨_,_,rfl,rfl,p.here c rfl⟩
  .exact p.elim
 .split at p
  .subst a;subst g;exact GU j s u H _ _ z d Q I f e ⟨_,_,rfl,rfl,p.here c rfl⟩
  .exact p.elim
 .split at p
  .subst a;subst g;exact Fy j s u H _ _ z d Q I f e ⟨_,_,rfl,rfl,p.here c rfl⟩
  .exact p.elim
 .split at p
  .subst g;refine IM j s u H _ _ z d Q I f e ⟨rfl,?_⟩;have q:=p.here c rfl
   cases x<;>first
    |(have a:=a;subst a;simpa using q)
    |(obtain⟨_,_,rfl,_⟩:=a;simpa using q)
    |(obtain⟨_,_,_,_,rfl,_⟩:=a;simpa using q)
    |(obtain⟨_,_,rfl⟩:=a;simpa using q)
    |(obtain⟨_,_,_,rfl,_⟩:=a;simpa using q)
  .exact p.elim
 .split at p
  .subst g;refine UC j s u H _ _ z d Q I f e ⟨rfl,?_⟩;have q:=p.here c rfl
   cases x<;>first
    |(have a:=a;subst a;simpa using q)
    |(obtain⟨_,_,rfl,_⟩:=a;simpa using q)
    |(obtain⟨_,_,_,_,rfl,_⟩:=a;simpa using q)
    |(obtain⟨_,_,rfl⟩:=a;simpa using q)
    |(obtain⟨_,_,_,rfl,_⟩:=a;simpa using q)
  .exact p.elim
 .split at p
  .have a:=a;subst a g;exact KP j s u H _ _ z d Q I f e ⟨_,_,rfl,rfl,p.here c rfl⟩
  .exact p.elim
 .exact p.elim
noncomputable def qq:ap->Bool
 |.Name _ _=>ae
 |.Constant _ _ _=>ae
 |.BinOp _ _ _ _=>ae
 |.UnaryOp _ _ _=>ae
 |.Call _ _ _ _=>ae
 |.Subscript _ _ _=>ae
 |.Attribute _ _ _=>ae
 |_=>ag
noncomputable def wJ:ap->Bool
 |.Set _ _ _=>ag
 |_=>ae
noncomputable def jW:ez->Bool
 |.In=>ag|.NotIn=>ag
 |_=>ae
noncomputable def vX(op:ez)(b:ap):Bool:=jW op || wJ b
noncomputable def jJ:ez->Bool
 |.Lt=>ae|.LtE=>ae|.Gt=>ae|.GtE=>ae|.Eq=>ae|.NotEq=>ae
 |_=>ag
theorem ja(h:vX op b=ae):rM op b=ag:=by
 cases a:jW op with
 |true=>exact Yg b (by rintro rfl;simp[jW] at a) (by rintro rfl;simp[jW] at a)
 |false=>
  have c:wJ b=ae:=by unfold vX at h;rw[a] at h;exact h
  cases b<;>first|rfl|(simp[wJ] at c)
theorem H_(C:Ck D W U X k)(ho:vX op b=ae)(B:PE X a (aD D W f))(hb:PE X b (aD D W g)):PE X (.Compare a [op] [b] pos) (aD D W (zm op f g)):=by
 rintro i s M H Q I ⟨K,O,L,N,r,A,p⟩;refine ss (aF (sub B I r A p) ?_) (ja ho);rintro u V ⟨v,Z,t,l,n,J,x,o,d,h,F,z⟩;refine aF (sub hb J d h z) ?_;rintro R T ⟨P,Y,S,j,m,G,w,c,q,e,E,y⟩;exact Qj G C.unt e (F.step c) E x w y
theorem yd{R:β->Mem->List ak->Hp->Prop}{kk:T->Mem->RE β}{x y:T}{v w:V}{c:ai}(I:Inv X B E H s)(h:X.A.units+64<cLine)(g:au D φ α H μ)(k:aI D φ α H x v)(i:aI D φ α H y w)(f:RelV v c)(e:RelV w G)
  (p:aq D W φ α H E R ((WV op x y μ).bind kk)):aA (aC X.prog X.w) X.A (dN op c G) (EP X B E λz C=>∃t u j,aw α H j C/\au D φ j C u/\aI D φ j C t z/\aq D W φ j C E R (kk t u)) X.xe s:=
 Qj I h g k i f e (p.bind.mono λt a b l st m q v d=>⟨t,a,b,st,m,d,q⟩)
theorem vB:∀{ops:List ez}{a:List ap},ops.all jJ=ae->lastMarks ops a=ag
 |[],a,_=>by cases a<;>rfl
 |[op],[],_=>rfl
 |[op],[e],h=>Yg e (by rintro rfl;simp[jJ] at h) (by rintro rfl;simp[jJ] at h)
 |[op],_::_::_,_=>rfl
 |op::b::ops,[],_=>rfl
 |op::b::ops,e::a,h=>by
  have:lastMarks (b::ops) a=ag:=vB (by simp only[iM,bW] at h ⊢;exact h.2);cases a with
  |nil=>cases ops<;>rfl
  |cons c a=>exact this
noncomputable def KA (X:Cx)(D:DP)(W:XW):List ap->List (ez×De)->Prop
 |[],[]=>True
 |e::b,p::a=>PE X e (aD D W p.2)/\KA X D W b a
 |_,_=>False
theorem Qz(C:X.A.units+64<cLine){Q:VK}:∀{ps:List (ez×De)}{E:List ap}{s:aJ}{H:Hp}{α:List ak}{μ:Mem}{x:T}{v:V}{u:ai},KA X D W E ps->Inv X j B H s->aH D φ α H J B->au D φ α H μ->aI D φ α H x v->RelV v u->aq D W φ α H B (RV D φ Q) (tc ps x J μ)->
  aA (aC X.prog X.w) X.A (compareChain pos u (ps.map (·.1)) (evalEach E X.env)) (EP X j B Q) X.xe s
 |[],_,_,_,_,_,_,_,_,_,_,_,_,_,_,p=>p.elim
 |[(op,g)],[],_,_,_,_,_,_,_,h,_,_,_,_,_,_=>h.elim
 |[(op,g)],[e],s,H,α,μ,x,v,u,h,I,q,y,d,r,p=>by
  refine chain_last (aF (sub h.1 I q y p) ?_);rintro N P ⟨M,H2,O,n,o,F,l,a,i,c,m,t⟩;exact Qj F C c (d.step a) m r l t
 |[(op,g)],_::_::_,_,_,_,_,_,_,_,h,_,_,_,_,_,_=>h.2.elim
 |(op,g)::S::ps,[],_,_,_,_,_,_,_,h,_,_,_,_,_,_=>h.elim
 |(op,g)::S::ps,[e],_,_,_,_,_,_,_,h,_,_,_,_,_,_=>h.2.elim
 |(op,g)::(U,g')::ps,e::e'::E,s,H,α,μ,x,v,u,h,I,q,y,d,r,p=>by
  refine chain_link (aF (sub h.1 I q y p) ?_);rintro N P ⟨M,H2,O,n,o,F,l,a,i,c,m,t⟩;refine aF (yd F C c (d.step a) m r l t) ?_;rintro dd s3 ⟨z,Z,G,R,t3,K,L,f,k,Y,b⟩;split at b
  .subst Y;subst R;rcases b.br with⟨rfl,b⟩|⟨rfl,b⟩
   .exact eW (ite_tt (Qz C h.2 G (i.step f) k (m.step f) l b))
   .exact eW (ite_ff ⟨.bl ag,Z,G,rfl,b.here k rfl⟩)
  .exact b.elim
theorem YG(C:Ck D W G X k)(ho:(p1::p2::ps).all (λp=>jJ p.1)=ae)(n:PE X a (aD D W f))(h:KA X D W (o::B::z) (p1::p2::ps)):PE X (.Compare a (p1.1::p2.1::ps.map (·.1)) (o::B::z) pos) (aD D W (lD f (p1::p2::ps))):=by
 rintro d s y H Q I ⟨w,E,x,A,j,m,p⟩;refine Compare_chain (aF (sub n I j m p) ?_) (vB (by simpa[ Bc] using ho));rintro u F ⟨v,J,t,e,g,r,l,i,b,c,q,p1⟩;exact Qz C.unt h r b c q l p1
set_option tactic.hygienic true in
theorem JE(K:X.A.units+64<cLine){β:Type}{R:β->Mem->List ak->Hp->Prop}{kk:Bool->Mem->RE β}:∀{ps:List (ez×De)}{L:List ap}{s:aJ}{H:Hp}{α:List ak}{μ:Mem}{x:T}{v:V}{u:ai}{Q:Bool->Hp->Prop},KA X D W L ps->Inv X B C H s->aH D φ α H U C->au D φ α H μ->aI D φ α H x v->RelV v u->aq D W φ α H C (λb _ _ H'=>Q b H') ((tc ps x U μ).bind W4)->
  aA (aC X.prog X.w) X.A (testChain pos u (ps.map (·.1)) (evalEach L X.env)) (TP X B C Q) X.xe s
 |[],_,_,_,_,_,_,_,_,_,_,_,_,_,_,_,p=>aq.elim p
 |[(op,g)],[],_,_,_,_,_,_,_,_,h,_,_,_,_,_,_=>h.elim
 |[(op,g)],[e],s,H,α,μ,x,v,u,Q,h,I,E,J,d,r,p=>by
  refine test_last (aF (sub h.1 I E J p) ?_);rintro S s2 ⟨P,H2,Z,q,y,N,l,i,k,j,m,G⟩;refine aF (yd N K j (d.step i) m r l G) ?_;rintro dd s3 ⟨z,O,n,F,Y,o,t,f,c,M,a⟩;unfold W4 at a;split at a
  .subst M;subst F;exact eW ⟨O,n,a.ok (aw.refl _ _) c⟩
  .exact a.elim
 |[(op,g)],_::_::_,_,_,_,_,_,_,_,_,h,_,_,_,_,_,_=>h.2.elim
 |(op,g)::p'::ps,[],_,_,_,_,_,_,_,_,h,_,_,_,_,_,_=>h.elim
 |(op,g)::p'::ps,[e],_,_,_,_,_,_,_,_,h,_,_,_,_,_,_=>h.2.elim
 |(op,g)::(op',g')::ps,e::e'::L,s,H,α,μ,x,v,u,Q,h,I,E,J,d,r,p=>by
  refine test_link (aF (sub h.1 I E J p) ?_);rintro S s2 ⟨P,H2,Z,q,y,N,l,i,k,j,m,G⟩;refine aF (yd N K j (d.step i) m r l G) ?_;rintro dd s3 ⟨z,O,n,F,Y,o,t,f,c,M,a⟩;try dsimp only at a
  split at a
  .rename_i bb;subst M;subst F;cases bb with
   |true=>exact eW (ite_tt (JE K (kk:=kk) (R:=R) h.2 n (k.step f) c (m.step f) l a))
   |false=>
    exact eW (ite_ff ⟨O,n,a.ok (aw.refl _ _) c⟩)
  .have a:=a;exact a.elim
theorem HF(n:PE X a (aD D W f))(he:∀j,isTrue a X.env j=(do let v ←j;standAt a.pos;nZ [v] (truthy v))):PT X a (dG D W (tE f)):=by
 rintro d s y H Q I ⟨w,A,x,z,k,m,p⟩;rw[he];refine ay (aF (sub n I k m p) ?_);rintro u B ⟨v,r,t,e,g,q,l,h,i,c,o,b⟩;unfold W4 at b;split at b
 .subst o;subst l;exact ay (fS (dF (eW ⟨r,q,b.ok (aw.refl _ _) c⟩)))
 .exact b.elim
theorem V9(C:Ck D W Γ X k)(ho:vX op b=ae)(N:PE X a (aD D W f))(hb:PE X b (aD D W g)):PT X (.Compare a [op] [b] pos) (dG D W (tE (zm op f g))):=by
 rintro m s σ H Q I ⟨Y,α,Z,μ,E,M,p⟩;refine sI (aF (sub N I E M p) ?_) (ja ho);rintro u s1 ⟨v,H1,t,q,x,U,J,A,h,l,R,L⟩;refine aF (sub hb U h l L) ?_;rintro u' s2 ⟨v',H2,t',o,w,T,G,e,B,j,P,K⟩;refine aF (yd T C.unt j (R.step e) P J G K) ?_;rintro d s3 ⟨z,V,S,F,t3,n,r,y,i,O,c⟩;unfold W4 at c;split at c
 .subst O;subst F;exact eW ⟨V,S,c.ok (aw.refl _ _) i⟩
 .exact c.elim
theorem QL(C:Ck D W G X k)(ho:(p1::p2::ps).all (λp=>jJ p.1)=ae)(n:PE X a (aD D W f))(h:KA X D W (o::B::z) (p1::p2::ps)):PT X (.Compare a (p1.1::p2.1::ps.map (·.1)) (o::B::z) pos) (dG D W (tE (lD f (p1::p2::ps)))):=by
 rintro d s y H Q I ⟨w,E,x,A,j,m,p⟩;refine isTrue_chain (aF (sub n I j m p) ?_) (vB (by simpa[ Bc] using ho));rintro u F ⟨v,J,t,e,g,r,l,i,b,c,q,p1⟩;exact JE (kk:=λ_ _=>RE.st (β:=Bool)) (R:=λ_ _ _ _=>True) C.unt h r b c q l p1
theorem Lj(u:PT X a (dG D W z))(hb:PW X (.BoolOp .And (b::r) pos) (dG D W gt)):PW X (.BoolOp .And (a::b::r) pos) (dG D W (wz z gt)):=by
 intro d e s k H Q I t;refine Li u hb d e s k H Q I ?_;obtain⟨h,n,i,l,j,o,p⟩:=t;refine⟨h,n,i,l,j,o,p.bind.mono λc f g v st m q=>?_⟩;rcases q.br with⟨rfl,q⟩|⟨rfl,q⟩
 .exact⟨h,g,i,f,j.step st,m,q⟩
 .exact q.ok (aw.refl _ _) m
theorem GZ(u:PT X a (dG D W z))(hb:PW X (.BoolOp .Or (b::r) pos) (dG D W gt)):PW X (.BoolOp .Or (a::b::r) pos) (dG D W (d_ z gt)):=by
 intro d e s k H Q I t;refine F_ u hb d e s k H Q I ?_;obtain⟨h,n,i,l,j,o,p⟩:=t;refine⟨h,n,i,l,j,o,p.bind.mono λc f g v st m q=>?_⟩;rcases q.br with⟨rfl,q⟩|⟨rfl,q⟩
 .exact q.ok (aw.refl _ _) m
 .exact⟨h,g,i,f,j.step st,m,q⟩
theorem Hv(o:PT X a (dG D W u)):PT X (.UnaryOp .Not a pos) (dG D W (qd u)):=by
 intro b s f H Q I n;refine Ir o b s f H Q I ?_;obtain⟨d,j,e,h,k,l,p⟩:=n;exact⟨d,j,e,h,k,l,p.bind.mono λc g i r st m q=>q.ok (aw.refl _ _) m⟩
theorem Go(hc:PT X c (dG D W z))(x:PE X a (aD D W f))(hb:PE X b (aD D W g)):PE X (.IfExp c a b pos) (aD D W (nH z f g)):=by
 rintro e s o H Q I ⟨m,A,n,y,v,w,p⟩;refine wpAny_IfExp (aF (CD hc I v w p) ?_);rintro d q ⟨t,h,i,r,u,j,l,k⟩;rcases k.br with⟨rfl,k⟩|⟨rfl,k⟩
 .exact x e q o t Q r ⟨m,i,n,h,j,l,k⟩
 .exact hb e q o t Q r ⟨m,i,n,h,j,l,k⟩
noncomputable def zU:ap->Bool
 |.Name _ _=>ae
 |.Attribute _ _ _=>ae
 |.Subscript _ _ _=>ae
 |.Call (.Name x _) _ _ _=>x != ("super":ao)
 |.Call (.Attribute _ _ _) _ _ _=>ae
 |_=>ag
theorem aq.ex3{β b a c:Type}{R:β->Mem->List ak->Hp->Prop}{P:b->a->Prop}{d:b->a->c->Prop}{r:b->a->c->RE β}(p:aq D W φ α H j R (λK Z=>∃x y z,P x y/\d x y z/\r x y z K Z)):∃x y z,P x y/\d x y z/\aq D W φ α H j R (r x y z):=by
 obtain⟨K,Z,⟨x,y,z,h1,h2,q⟩,h⟩:=p;exact⟨x,y,z,h1,h2,K,Z,q,h⟩
theorem aq.ex2{β a b:Type}{R:β->Mem->List ak->Hp->Prop}{P:a->Prop}{c:a->b->Prop}{r:a->b->RE β}(p:aq D W φ α H j R (λK Z=>∃x y,P x/\c x y/\r x y K Z)):∃x y,P x/\c x y/\aq D W φ α H j R (r x y):=by
 obtain⟨K,Z,⟨x,y,h1,h2,q⟩,h⟩:=p;exact⟨x,y,h1,h2,K,Z,q,h⟩
theorem jS(h:qq b=ae):MG b:=by
 intro o i;cases b<;>first|(simp[qq] at h;done)|rfl
theorem yA(l:av D φ α H ts xs)(h:qS ts i=aa t):∃v,mv xs i=aa v/\aI D φ α H t v:=by
 unfold qS at h;have e:nG xs.length i=V0 ts.length i:=by rw[l.length];rfl
 unfold mv;rw[e];cases q:V0 ts.length i with
 |none=>rw[q] at h;exact z9 h
 |some j=>
  rw[q] at h;exact l.get h
theorem GY(h:qq b=ae)(hK:X.K=D.K)(T:PE X a (aD D W f))(hb:PE X b (aD D W g)):PE X (.Subscript a b pos) (aD D W (bq f g)):=by
 rintro d s m H Q I ⟨Z,α,τ,μ,O,R,p⟩;refine rB (aF (sub T I O R p) ?_);rintro u s1 ⟨v,H1,t,G,L,Y,y,M,o,A,k,P⟩;refine aF (sub hb Y o A P) ?_;rintro u' q ⟨v',E,t',F,J,C,x,n,N,e,V,c⟩;have k:=k.step n;unfold C_ at c;split at c
 .subst V;split at c
  .obtain⟨w,hw,c⟩:=c.som;obtain⟨ad,xs,rfl,_,_,r,l⟩:=k;obtain⟨z,i,j⟩:=yA l hw;exact VT a b d q m E _ _ _ _ Q C y x ⟨ad,xs,_,z,rfl,rfl,.inl r,i,c.here e j⟩ (jS h _ _)
  .obtain⟨w,hw,c⟩:=c.som;obtain⟨ad,xs,rfl,_,_,r,l⟩:=k;obtain⟨z,i,j⟩:=yA l hw;exact Hh a b d q m E _ _ _ _ Q C y x ⟨ad,xs,_,z,rfl,rfl,.inl r,i,c.here e j⟩ (jS h _ _)
  .obtain⟨ts,w,S,hw,c⟩:=c.ex2;obtain⟨ad,B,rfl⟩:=k;obtain⟨xs,U,l⟩:=e.ob _ ad _ B S;obtain⟨z,i,j⟩:=yA l hw;exact VT a b d q m E _ _ _ _ Q C y x ⟨ad,xs,_,z,rfl,rfl,.inl (.inl U),i,aq.here c e j⟩ (jS h _ _)
  .exact c.elim
 .exact c.elim
noncomputable def az:ap->Bool
 |.Starred _ _=>ag
 |_=>ae
theorem z7(h:az e=ae):cU (e::j) env=(ag,eval e env)::cU j env:=by
 cases e<;>first|(simp[az] at h;done)|rfl
theorem qz(h:j.all az=ae):(dZ pos (cU j env)).any (·.1)=ag:=by
 induction j with
 |nil=>rfl
 |cons e j a=>
  simp only[iM,bW] at h;rw[z7 h.1];have:=a h.2
  first
   |(simp at this ⊢;exact this)
   |(simpa[dZ] using this)
theorem L5:PA X [] (nE D W 0 (e5 [])):=by
 rintro b a s c H Q I ⟨e,h,f,g,i,d,p⟩;exact qg b a s c H Q I (aq.ok p (aw.refl _ _) d [] rfl rfl)
theorem Ma(hs:az e=ae)(F:PE X e (aD D W f))(hr:PA X G (nE D W n (e5 fs))):PA X (e::G) (nE D W (n+1) (e5 (f::fs))):=by
 intro k c s l H Q I C;refine zF F hr (z7 hs) k c s l H Q I ?_;obtain⟨h,r,g,o,w,A,p⟩:=C;have p:aq D W h r H l _ ((f g o).bind λt a=>(e5 fs g a).bind λu b=>.ok (t::u) b):=p;exact⟨h,r,g,o,w,A,p.bind.mono λt a i K st m q v d=>⟨h,i,g,a,w.step st,m,q.bind.mono λu b x J j B z y dl E=>(z.ok (aw.refl _ _) B _ ⟨v,y,rfl,d.step j,dl⟩ (by simp[E]))⟩⟩
noncomputable def cH (X:Cx)(D:DP)(W:XW):List ap->List De->Prop
 |[],[]=>True
 |e::a,f::fs=>az e=ae/\PE X e (aD D W f)/\cH X D W a fs
 |_,_=>False
theorem vD:∀{a:List ap}{fs:List De},cH X D W a fs->PA X a (nE D W a.length (e5 fs))
 |[],[],_=>L5
 |e::a,f::fs,h=>Ma h.1 h.2.1 (vD h.2.2)
 |[],_::_,h=>h.elim
 |_::_,[],h=>h.elim
theorem cH.stars:∀{a:List ap}{fs:List De},cH X D W a fs->a.all az=ae
 |[],[],_=>rfl
 |e::a,f::fs,h=>by simp[h.1,cH.stars h.2.2]
 |[],_::_,h=>h.elim
 |_::_,[],h=>h.elim
theorem IG(o:j.length<=aB)(h:cH X D W j fs):PE X (.List j pos) (aD D W (vK fs)):=by
 refine PE.mono (Uq (vD h)) ?_;rintro r H Q ⟨b,g,c,e,k,l,p⟩;exact⟨b,g,c,e,k,l,p.bind.mono λs d f t st m q i dl n=>⟨n▸zN o,λz a=>(q.fresh m (ze a) ⟨z,i,rfl,zi m a,zh m a,.inl z0,dl.step (aw.new (ze a))⟩)⟩⟩
theorem XF(o:j.length<=aB)(h:cH X D W j fs):PE X (.Tuple j kk pos) (aD D W (zZ fs)):=by
 refine PE.mono (Ly (vD h)) ?_;rintro r H Q ⟨b,g,c,e,k,l,p⟩;exact⟨b,g,c,e,k,l,p.bind.mono λs d f t st m q i dl n=>⟨n▸zN o,λz a=>(q.fresh m (ze a) ⟨z,i,rfl,zi m a,zh m a,.inl z0,dl.step (aw.new (ze a))⟩)⟩⟩
theorem qj{f:ao}(h:zU e=ae):kw e f env (eval e env)=eval e env:=by
 cases e with
 |Call g args a p=>
  cases g with
  |Name x c=>
   have b:(x != ("super"))=ae:=h;cases args<;>cases a<;>first|rfl|(unfold kw;simp[b])
  |Attribute _ _ _=>rfl
  |_=>exact absurd h d7
 |_=>first|exact absurd h d7|rfl
noncomputable def nC (D:DP)(W:XW)(f:Dp):TO:=λa H Q=>mx D H a λb e c d=>aq D W b e H a (λo _ _ g=>Q o g) (f c d)
theorem Mg:PO X af (nC D W pN):=by
 rintro a s b H Q I ⟨d,g,e,f,h,c,p⟩;exact MM a s b H Q I (aq.ok p (aw.refl _ _) c)
theorem Mj(h:PE X a (aD D W f)):PO X (aa a) (nC D W (pS f)):=by
 rintro b s g H Q I ⟨c,l,e,j,n,o,p⟩;refine MW h b s g H Q I ⟨c,l,e,j,n,o,p.bind.mono λt i k r st m q v d=>?_⟩;split at q
 .subst d;exact⟨_,rfl,q.ok (aw.refl _ _) m⟩
 .exact q.elim
theorem kJ(l:av D φ α H ts xs)(lo hi:Option Int):av D φ α H (wy ts lo hi) (uT xs lo hi):=by
 have e:=l.length;have a:∀n d o,WI n d o=HT.sIx n d o:=λn d o=>by cases o<;>rfl
 unfold wy uT;rw[a,a,e];exact (l.drop _).take _
theorem kE{lo:Option Int}(ht:IsTup s.heap t j)(hs:s.heap.IsSliceOf z vl u .none)(pl:gR vl lo)(c:gR u hi)
  (hw:HT.sIx j.size 0 lo=0/\HT.sIx j.size j.size hi=j.size) (h:Q (.ref t) s):aA (aC prog w) A (gU (.ref t) (.ref z)) Q E s:=by
 obtain⟨os,a,b,d⟩:=id hs;unfold gU;try with_reducible refine dF ?_
 first|refine ay (aU ?_)|skip
 refine ay (Be ht.typeIs dC (ay (Bx ht.typeIs lu (AD lu ht.typeIs Bm ?_ (A1 _ _)))));show aA _ _ (BY (.ref t) >>= _) _ _ s;refine ay (tupleItemsOf_ ht (ay (lW ⟨os,a,b⟩ (ay (HT.sliceApplied_gen hs pl c ?_)))));show aA _ _ (if (((HT.sIx j.size 0 lo:Nat):Int)==0&&1==1&&(HT.sIx j.size j.size hi-HT.sIx j.size 0 lo)==j.size)=ae then _ else _) _ _ s;rw[if_pos (by rw[hw.1,hw.2];simp)];refine ay (ay (lW ht.typeIs (aU ?_)))
 first
  |exact ay (mM (aU ⟨_,rfl,aU h⟩))
  |exact ay (mM (ay (aU (aU ⟨_,rfl,aU h⟩))))
theorem MF:i4 X (λx lo hi H Q=>∃a xs,x=.ref a/\i3 X.K H a xs/\(HT.sIx xs.length 0 lo=0/\HT.sIx xs.length xs.length hi=xs.length)/\Q (.ref a) H):=by
 intro b s k H x v vl l lo hi m Q I d j f e h;obtain⟨a,xs,rfl,i,hw,q⟩:=h;subst d;obtain⟨g,r,c,n⟩:=I.tuple i;exact⟨"tuple",_,lu.lookup,c.typeIs,kE c j f e ((cN▸r.length.symm)▸hw) ⟨.ref a,H,I,rfl,q⟩⟩
theorem XO{lo:Option ap}(O:PE X a (aD D W f))(M:PO X lo (nC D W fo))(L:PO X hi (nC D W go)):PE X (.Subscript a (.Slice lo hi af p2) pos) (aD D W (hQ f fo go)):=by
 refine PE.mono (YE (M5.or (Ix.or MF)) O M L) ?_;rintro R H Q ⟨j,E,k,B,x,J,p⟩;refine⟨j,E,k,B,x,J,p.bind.mono λt o w V st m q v d=>⟨j,w,k,o,x.step st,m,q.bind.mono λl n s U g K F=>⟨j,s,k,n,(x.step st).step g,K,F.bind.mono λu A C T i c h=>?_⟩⟩⟩;unfold B7 at h;split at h
 .obtain⟨ad,xs,rfl,_,_,r,dl⟩:=(d.step g).step i;exact .inl ⟨ad,xs,rfl,.inl r,λz b=>(h.fresh c (ze b) ⟨z,_,rfl,zi c b,zh c b,.inl z0,kJ (dl.step (aw.new (ze b))) _ _⟩)⟩
 .obtain⟨ad,xs,rfl,I,G,r,dl⟩:=(d.step g).step i;by_cases hw:HT.sIx xs.length 0 l=0/\HT.sIx xs.length xs.length u=xs.length
  .refine .inr (.inr ⟨ad,xs,rfl,.inl r,hw,?_⟩);have e:uT xs l u=xs:=by unfold uT;rw[hw.1,hw.2];simp
   have dd:=kJ dl l u;rw[e] at dd;exact h.here c ⟨ad,xs,rfl,I,G,r,dd⟩
  .exact .inr (.inl ⟨ad,xs,rfl,.inl r,hw,λz b=>(h.fresh c (ze b) ⟨z,_,rfl,zi c b,zh c b,.inl z0,kJ (dl.step (aw.new (ze b))) _ _⟩)⟩)
 .obtain⟨S,N,h⟩:=h.ex1;obtain⟨ad,y,rfl⟩:=(d.step g).step i;obtain⟨xs,P,dl⟩:=c.ob _ ad _ y N;exact .inl ⟨ad,xs,rfl,.inl (.inl P),λz b=>(aq.fresh h c (ze b) ⟨z,_,rfl,zi c b,zh c b,.inl z0,kJ (dl.step (aw.new (ze b))) _ _⟩)⟩
 .exact h.elim
theorem y7{g:Fn}{i:ak}{kk:Nat}{Q:VK}(C:Ck D W B X k)(F:bF X.prog X.w X.K X.mg X.base (dB X.prog X.w) kk i fd ps (fJ D ps.length g))
  (hr:bE kk X.A) (hb:Binds X.K fd ps []) (f:∀ts μ K Z,g ts μ K Z->ts.length=ps.length) (I:Inv X j z H s) (r:aE vs us) (n:au D φ α H μ) (d:av D φ α H ts vs) (p:aq D W φ α H z (RV D φ Q) (g ts μ)) :
  aA (aC X.prog X.w) X.A (call (.ref i) us) (EP X j z Q) X.xe s:=by
 obtain⟨K,Z,q,a,o⟩:=p;have h:=f ts μ K Z q;have b:us.length=ps.length:=r.length▸d.length▸h;refine ie (ii (F.run X.A X.stack s H ⟨us,[]⟩ us vs Q (λc d l=>W c d z l) hr I.env0 (by simpa using hb s us I.kIn (by simpa using b)) r ⟨d.length▸h,φ,α,ts,μ,d,n,K,Z,q,a,o⟩) λr m a=>?_);cases r with
 |error e=>exact C.xe e m (yc I a λcls d l w=>w)
 |ok t=>
  cases t with
  |ret u=>exact I.after a
  |next=>exact cW a
  |brk=>exact cW a
  |cont=>exact cW a
theorem ME(C:Ck D W j X k){g:Fn}(c:x∈j.G)(J:j.gl x=.fn g)(hc:j.calm=ae)(i:cH X D W u fs):PE X (.Call (.Name x p0) u [] pos) (aD D W (z4 g fs)):=by
 have q:=C.glo x c;rw[J] at q;obtain⟨Y,F,fd,U,V,o,r,h,Fn,a⟩:=q;have n:=(C.rom hc).mono h;have d:=i.stars;rintro l s N H Q I ⟨L,P,M,O,A,m,p⟩;refine gn (q_ I (C.glb x c) F ?_ (C.dbG x c));cases u with
 |nil=>
  cases fs with
  |nil=>exact o6 I.kIn o (y7 (ts:=[]) C Fn n r a I .nil m rfl p)
  |cons f fs=>exact i.elim
 |cons e u=>
  simp only[iM,bW] at d;refine mW I.ok.mod.kin o (aF (pi (vD i) I A m p) ?_) (z7 d.1) (qz d.2);rintro S T ⟨R,Z,ts,v,w,t,B,y,z,b,K,_,E⟩;exact⟨t.kIn,y7 C Fn n r a t B b K E⟩
theorem gy{c:Nat}{g:Fn}{C0 fI:ak}{kk:Nat}{Q:VK}(C:Ck D W Γ X k)(ad:D.cad c=aa C0)(M:Mk X.K C0 fI)(F:bF X.prog X.w X.K X.mg X.base (dB X.prog X.w) kk fI fd ps (fJ D ps.length g))
  (hr:bE (kk+1) X.A) (hb:Binds X.K fd ps []) (har:∀ts μ K Z,g ts μ K Z->ts.length=ps.length) (I:Inv X U Y H s) (r:aE vs us) (y:au D φ α H μ) (d:av D φ α H ts vs) (p:aq D W φ α H Y (RV D φ Q) (Wj c g ts μ)) :
  aA (aC X.prog X.w) X.A (call (.ref C0) us) (EP X U Y Q) X.xe s:=by
 obtain⟨K,Z,⟨hp,hg⟩,hk,hz⟩:=p;have hl:=har _ _ _ _ hg;have hq:∀x h,H x=af->H h=af->h≠x->fJ D ps.length g (.ref x::(vs++[])) (upd (upd H h (.own x)) x (.ins C0 h [])) (λv H2=>v=.n/\Q (.ref x) H2) (λc d N=>W c d Y N):=by
  intro x h G hdx hne;have P:v_ H (upd (upd H h (.own x)) x (.ins C0 h [])):=λb o e=>(z6 (zJ e G))▸(z6 (zJ e hdx))▸e;have T:aw [] H [x] (upd (upd H h (.own x)) x (.ins C0 h [])):=⟨⟨[x],rfl,λb f=>aT.mp f▸G⟩,λb o _ e=>P b o e,λb e=>by
   cases q:H b with
   |none=>rfl
   |some o=>rw[P b o q] at e;exact w6 e⟩
  have ph:∀b∈φ++α,∃o,H b=aa o/\pI o=ae:=λb f=>(bf.mp f).elim (y.phi b) λz=>by
   obtain⟨i,hi⟩:=dD.mp z;have hl':i<μ.length:=y.len▸(aO.mp hi).1;exact (y.ob i b μ[i] hi sC).some
  refine⟨by simp only[eG,eO] at hl ⊢;rw[<-d.length];exact hl,φ++α,[x],.m 0::ts,[.obj c []],⟨.ref x,vs++[],rfl,⟨x,rfl,rfl⟩,by rw[eO];exact (av.hide hp d Mw).step T⟩,⟨rfl,sC,λb f=>aT.mp f▸(λz=>(bf.mp z).elim (zi y G) (zh y G)),λb f=>let ⟨o,e,n⟩:=ph b f;⟨o,P b o e,n⟩,λi a o O e2=>?_⟩,?_⟩
  .cases i with
   |zero=>simp at O e2;subst O e2;exact⟨C0,h,[],ad,z0,rfl⟩
   |succ i=>simp at O
  have B:∀{E:List ak}{L:Hp},aw [x] (upd (upd H h (.own x)) x (.ins C0 h [])) E L->v_ H L:=λst b o e=>st.keep b o (λz=>by rw[aT.mp z,G] at e;exact z9 e) (P b o e);refine⟨_,_,hg,?_,?_⟩
  .rintro t S ⟨rfl,fs,h0,J,q⟩ E L st m v dv;refine⟨dv,?_⟩;obtain⟨β,rfl,_⟩:=st.ext;obtain⟨C1,dx1,gs,ad1,O,lf⟩:=m.ob 0 x _ rfl h0;have j:=B st;exact hk _ _ q α L (aw.new j) (y.new j) _ ⟨x,C1,dx1,gs,rfl,zi y G,zh y G,ad1,O,aY.hide J lf QS⟩
  .rintro e fs S ⟨J,q⟩ E L C1 d1 st m had xd;have j:=B st;exact hz _ _ _ q α L C1 d1 (aw.new j) (y.new j) had (bJ.hide J xd QS)
 have R:=Inv.made (C:=C0) I;have r2:aE (V.ref (s.heap.objs.size+1)::(vs++[])) (cG (s.heap.objs.size+1)::us):=.cons rfl (by rw[eO];exact r);have hlu:(cG (s.heap.objs.size+1)::us++[]).length=ps.length:=by
  rw[eO,eG,<-r.length,<-d.length];exact hl
 refine ie (Wy I.kIn M.makes M.init (beq_iff_eq.mp M.fn) (ii (F.run _ X.stack _ _ ⟨cG (s.heap.objs.size+1)::us,[]⟩ (cG (s.heap.objs.size+1)::us) _ _ (λc d N=>W c d Y N) (hr.make C0 us [])
  (R.env0.make C0 us []) (by simpa using hb _ (cG (s.heap.objs.size+1)::us) R.kIn hlu) r2 (hq (s.heap.objs.size+1) s.heap.objs.size (I.hok.fresh (fD _)) (I.hok.fresh (aK _)) (b_ (lz _)))) λr s' l=>?_))
 cases r with
 |error e=>exact C.xe e s' (yc R l λcls d N w=>w)
 |ok fl=>
  cases fl with
  |ret u=>
   obtain⟨v,N,I3,rv,ev,q3⟩:=R.after l;subst ev;exact⟨rv,⟨V.ref (s.heap.objs.size+1),N,I3,rfl,q3⟩⟩
  |next=>exact cW l
  |brk=>exact cW l
  |cont=>exact cW l
theorem UD(C:Ck D W j X k){c:Nat}{g:Fn}(d:x∈j.G)(J:j.gl x=.mk c ae g)(hc:j.calm=ae)(l:cH X D W u fs):PE X (.Call (.Name x p0) u [] pos) (aD D W (mn c g fs)):=by
 have q:=C.glo x d;rw[J] at q;obtain⟨C0,Z,fd,V,Y,ad,F,M,r,i,Fn,a⟩:=q;have o:=(C.rom hc).mono i;have h:=l.stars;rintro m s O H Q I ⟨L,R,N,P,A,n,p⟩;refine gn (q_ I (C.glb x d) F ?_ (C.dbG x d));cases u with
 |nil=>
  cases fs with
  |nil=>exact o6 I.kIn M.kp (gy (ts:=[]) C ad M Fn o r a I .nil n rfl p)
  |cons f fs=>exact l.elim
 |cons e u=>
  simp only[iM,bW] at h;refine mW I.ok.mod.kin M.kp (aF (pi (vD l) I A n p) ?_) (z7 h.1) (qz h.2);rintro T U ⟨S,H1,ts,v,w,t,B,y,z,b,K,_,E⟩;exact⟨t.kIn,gy C ad M Fn o r a t B b K E⟩
set_option tactic.hygienic true in
theorem LM(C:Ck D W M X k)(O:zU a=ae)(B:(x,n)∈M.fld)(R:PE X a (aD D W f)):PE X (.Attribute a x pos) (aD D W (zD f n)):=by
 refine PE.mono (Lb R (qj O)) ?_;rintro S H Q ⟨E,K,F,I,L,N,p⟩;refine⟨E,K,F,I,L,N,p.bind.mono λt G J T st m q v d=>?_⟩;unfold uG at q;split at q
 .split at q
  .rename_i c fs _ w hw;obtain⟨ad,C0,s,i,rfl,_,_,o,j,l⟩:=d;obtain⟨y,z,g,e,r⟩:=l.look hw;obtain⟨b,A,u⟩:=C.fld c C0 x n o B;rw[g] at b;cases b;exact⟨ad,C0,s,i,z,rfl,j,A,u,e,q.here m r⟩
  .exact q.elim
 .obtain⟨c,fs,w,P,hw,q⟩:=q.ex3;obtain⟨ad,h,rfl⟩:=d;obtain⟨C0,s,i,o,j,l⟩:=m.ob _ ad _ h P;obtain⟨y,z,g,e,r⟩:=l.look hw;obtain⟨b,A,u⟩:=C.fld c C0 x n o B;rw[g] at b;cases b;exact⟨ad,C0,s,i,z,rfl,j,A,u,e,aq.here q m r⟩
 .exact q.elim
theorem JF{B:Prop}(C:Ck D W G X k){c:Nat}{C0 d ad:ak}(I:Inv X u E H s)(a:D.cad c=aa C0)(ea:H ad=aa (.ins C0 d gs))
  (b:∀j P,WZ D c j->oi X.K (.ref ad) j P->P s.heap->(cG ad)≠.builtin "__main__.__loader__#opaque"->B):B:=by
 have o:=C.ocx c C0 a;obtain⟨f,O,_⟩:=kq I.hok ea;obtain⟨e,J,_⟩:=O.look;exact b _ _ (.inr (.inr (.inr (.inr (.inr (.inr (.inr (.inr ⟨C0,a,rfl⟩)))))))) (PySem.W.kitx_own (o.cl.get _) o.cl.hd o.fi o.sp o.tk o.ob) J (λz=>nomatch z)
theorem Hu{B:Prop}(C:Ck D W M X k){t:T}{v:V}(I:Inv X G J H s)(d:aI D φ α H t v)(r:RelV v u)(ht:Dh t μ=aa n)
  (a:∀E P,WZ D n E->oi X.K u E P->P s.heap->u≠.builtin "__main__.__loader__#opaque"->B):B:=by
 cases t with
 |n=>subst d;subst r;(injection ht with ht;subst ht);exact a _ _ (.inl ⟨rfl,rfl⟩) PySem.W.kitx_none eM (λz=>nomatch z)
 |bl b=>subst d;subst r;(injection ht with ht;subst ht);exact a _ _ (.inr (.inl ⟨rfl,rfl⟩)) PySem.W.kitx_bool eM (λz=>nomatch z)
 |int i=>subst d;obtain⟨t,rfl⟩:=r;(injection ht with ht;subst ht);exact a _ _ (.inr (.inr (.inl ⟨rfl,rfl⟩))) PySem.W.kitx_int eM (λz=>nomatch z)
 |str i=>subst d;obtain⟨t,rfl⟩:=r;(injection ht with ht;subst ht);exact a _ _ (.inr (.inr (.inr (.inl ⟨rfl,rfl⟩)))) PySem.W.kitx_str eM (λz=>nomatch z)
 |t h=>
  obtain⟨ad,xs,rfl,_,_,q,_⟩:=d;subst r;(injection ht with ht;subst ht);obtain⟨e,_,⟨o,g,f,_⟩,_⟩:=I.tuple (.inl q);exact a _ _ (.inr (.inr (.inr (.inr (.inl ⟨rfl,rfl⟩))))) PySem.W.kitx_tuple ⟨o,g,f⟩ (λz=>nomatch z)
 |l h=>
  obtain⟨ad,xs,rfl,_,_,q,_⟩:=d;subst r;(injection ht with ht;subst ht);obtain⟨e,_,p,_⟩:=I.list (.inl q);obtain⟨o,g,f,_⟩:=p.isList;exact a _ _ (.inr (.inr (.inr (.inr (.inr (.inl ⟨rfl,rfl⟩)))))) Bb ⟨o,g,f⟩ (λz=>nomatch z)
 |obj c fs=>
  obtain⟨ad,C0,A,y,rfl,_,_,x,w,l⟩:=d;subst r;cases ht;exact JF C I x w a
 | m i=>exact z9 ht
 |clo j cs=>exact z9 ht
 |exc c fs=>exact z9 ht
 |d m=>exact z9 ht
theorem Mb{B:Prop}(C:Ck D W M X k){v:V}{o:MO}(I:Inv X G J H s)(m:au D φ α H μ)(d:aI D φ α H (.m i) v)(r:RelV v u)(ht:μ[i]?=aa o)(f:CT o=ag)
  (a:∀E P,WZ D (Dg o) E->oi X.K u E P->P s.heap->u≠.builtin "__main__.__loader__#opaque"->B):B:=by
 obtain⟨ad,t,rfl⟩:=d;subst r;have dd:=m.ob i ad o t ht;cases o with
 |l F=>
  obtain⟨xs,q,_⟩:=dd;obtain⟨n,_,p,_⟩:=I.list (.inl (.inl q));obtain⟨o,x,w,_⟩:=p.isList;exact a _ _ (.inr (.inr (.inr (.inr (.inr (.inl ⟨rfl,rfl⟩)))))) Bb ⟨o,x,w⟩ (λz=>nomatch z)
 |obj c fs=>
  obtain⟨C0,N,g,A,y,l⟩:=dd;exact JF C I A y a
 |d b=>
  obtain⟨g,e,_⟩:=dd;obtain⟨_,_,h,_,dd⟩:=(I.hok ad _ e);exact a _ _ (.inr (.inr (.inr (.inr (.inr (.inr (.inr (.inl ⟨rfl,rfl⟩)))))))) Ba dd.typeIs (λz=>nomatch z)
 |tab j=>injection f
 |frd L b=>
  obtain⟨g,e,_⟩:=dd;obtain⟨_,_,h,_,dd⟩:=(I.hok ad _ e);exact a _ _ (.inr (.inr (.inr (.inr (.inr (.inr (.inr (.inl ⟨rfl,rfl⟩)))))))) Ba dd.dictOf.typeIs (λz=>nomatch z)
set_option tactic.hygienic true in
theorem UB{B:Prop}(C:Ck D W G X k){t:T}{v:V}{u:ai}{Q:VK}(I:Inv X E z H s)(c:au D φ α H μ)(d:aI D φ α H t v)(r:RelV v u)(q:aq D W φ α H z (RV D φ Q) (o9 cs t μ))
  (b:∀n j P,aq D W φ α H z (RV D φ Q) (.ok (.bl (cQ n cs)) μ)->WZ D n j->oi X.K u j P->P s.heap->u≠.builtin "__main__.__loader__#opaque"->B):B:=by
 unfold o9 at q;split at q
 .obtain⟨o,e,q⟩:=q.som;rcases q.br with⟨_,q⟩|⟨f,q⟩
  .exact q.elim
  .exact Mb C I c d r e f λj P=>b _ j P q
 .split at q
  .rename_i g a;exact Hu C I d r a λj P=>b _ j P q
  .exact q.elim
noncomputable def Dq:ap->Option (ao×Pos)
 |.Name x p=>aa (x,p)
 |_=>af
theorem Ln(h:Dq e=aa q):e=.Name q.1 q.2:=by cases e<;>first|(cases h;rfl)|exact z9 h
noncomputable def QB(a:Cn)(e:ap):Option (List Nat):=(Dq e).bind λq=>if (cF a.N q.1).isNone&&a.G.contains q.1 then (a.cls.lookup q.1).map λc=>[c] else af
theorem bI{β:Type}{v:β}:∀{l:List (ao×β)},l.lookup x=aa v->(x,v)∈l
 |[],h=>z9 h
 |(y,w)::r,h=>by
  rw[eU] at h;cases q:x==y with
  |true=>rw[q] at h;cases h;rw[beq_iff_eq.mp q];exact dt
  |false=>rw[q] at h;exact cJ _ (bI h)
theorem L3(C:Ck D W j X k){c:Nat}(hc:x∈j.G)(d:(x,c)∈j.cls):∃u v,Uk X x u/\fh v u/\∀p0,PE X (.Name x p0) (tC v):=by
 obtain⟨u,v,a,r⟩:=C.clv x c d;refine⟨u,v,a,r,λp0=>?_⟩;rcases a with h|⟨h,e,b⟩
 .exact Ja (C.glb x hc) h r.rel (C.dbG x hc)
 .exact MX (C.glb x hc) h e r.rel b (C.dbG x hc)
theorem Le (C:Ck D W z X k) (y:("isinstance":ao)∈z.G) (hg:z.gl "isinstance"=.none) (hs:az a=ae) (e:QB z c=aa cs) (ha:PE X a (aD D W f)):PE X (.Call (.Name "isinstance" p0) [a,c] [] pos) (aD D W (w_ cs f)):=by
 have l:=C.glo _ y;rw[hg] at l;rintro j s E H Q I ⟨i,F,N,O,T,mr,p⟩;refine gn (qT I (C.glb _ y) l boot_isinstance ?_ dC (C.dbG _ y));obtain⟨Z,hq,e⟩:=Option.bind_eq_some_iff.mp e;rw[Ln hq];split at e
 .rename_i hc;obtain⟨n,hl,rfl⟩:=l6.mp e;have l:=bI hl;obtain⟨L,R,cv,r,pe⟩:=L3 C (gp.mp ((bW ..).mp hc).2) l;refine sW (aF (zF ha (zF (pe _) qg (z7 rfl)) (z7 hs) pos j s E H (λJ h=>∃v t g b,J=[v,R]/\aw F H b h/\au D i b h g/\aI D i b h t v/\aq D W i b h E (RV D i Q) (o9 [n] t g)) I ⟨i,F,N,O,T,mr,p.bind.mono λt o w H' st m q v d=>⟨v,t,o,w,rfl,st,m,d,q⟩⟩) ?_) (z7 hs) (qz (by rfl));rintro us s1 ⟨J,h,B,U,v,t,g,b,rfl,st,m,d,q⟩;obtain⟨u,u2,rfl,Y,V⟩:=vals2 U;rw[r.only V];refine UB C B m d Y q λx M P q ht kx hP A=>?_;have k1:oJ X.K M L=aa (cQ x [n]):=by
   rw[C.isi x Z.1 n l M L ht cv,y_];cases vV x n<;>rfl
  exact PySem.W.kia_one kx B.kIn hP k1 A λS=>⟨.bl _,h,B.tok S,rfl,q.here m rfl⟩
 .exact z9 e
variable {X:Cx}{D:DP}{W:XW}{Γ:Cn}{k:Nat}{pins:List (ak×bj)}{s:Shared}{σ:St}{H:Hp}{φ α:List ak}{τ:Sl}{μ:Mem}{f h:De}{a b:ap}{pos:Pos}{es:List ap}
noncomputable def B1 (X:Cx)(D:DP)(W:XW)(a:ai)(op:T->Mem->RE T):Prop:=
 ∀(pins:List (ak×bj)) (s:aJ) (σ:St) (H:Hp) (φ α:List ak) (μ:Mem) (t:T) (v:V) (u:ai) (Q:VK),Inv X pins σ H s->au D φ α H μ->aI D φ α H t v->RelV v u->aq D W φ α H σ (RV D φ Q) (op t μ)->
  aA (aC X.prog X.w) X.A (call a [u]) (EP X pins σ Q) X.xe s
theorem Wi (C:Ck D W Γ X k) {id:String}(n:x∈Γ.G) (M:Γ.gl x=.none) (K:fQ x=aa (.builtin id)) (L:x≠"__name__") (hs:az a=ae) (hb:B1 X D W (.builtin id) op) (N:PE X a (aD D W f)) :
  PE X (.Call (.Name x p0) [a] [] pos) (aD D W (cB op f)):=by
 have w:=C.glo _ n;rw[M] at w;rintro e s i H Q I ⟨g,o,y,z,A,J,p⟩;refine gn (qT I (C.glb _ n) w K (sW (aF (zF N qg (z7 hs) pos e s i H (λr h=>∃v t c b,r=[v]/\aw o H b h/\au D g b h c/\aI D g b h t v/\aq D W g b h i (RV D g Q) (op t c)) I ⟨g,o,y,z,A,J,p.bind.mono λt j l R st m q v d=>⟨v,t,j,l,rfl,st,m,d,q⟩⟩) ?_) (z7 hs) (qz (by rfl))) L (C.dbG _ n));rintro P B ⟨r,h,O,E,v,t,c,b,rfl,st,m,d,q⟩;obtain⟨u,rfl,F⟩:=vals1 E;exact hb e B i h g b c t v u Q O m d F q
theorem Jm (C:Ck D W Γ X k) {id:String}(n:x∈Γ.G) (M:Γ.gl x=.none) (K:fQ x=aa (.type id)) (L:x≠"__name__") (hs:az a=ae) (hb:B1 X D W (.type id) op) (N:PE X a (aD D W f)) :
  PE X (.Call (.Name x p0) [a] [] pos) (aD D W (cB op f)):=by
 have w:=C.glo _ n;rw[M] at w;rintro e s i H Q I ⟨g,o,y,z,A,J,p⟩;refine gn (qT I (C.glb _ n) w K (nt (aF (zF N qg (z7 hs) pos e s i H (λr h=>∃v t c b,r=[v]/\aw o H b h/\au D g b h c/\aI D g b h t v/\aq D W g b h i (RV D g Q) (op t c)) I ⟨g,o,y,z,A,J,p.bind.mono λt j l R st m q v d=>⟨v,t,j,l,rfl,st,m,d,q⟩⟩) ?_) (z7 hs) (qz (by rfl))) L (C.dbG _ n));rintro P B ⟨r,h,O,E,v,t,c,b,rfl,st,m,d,q⟩;obtain⟨u,rfl,F⟩:=vals1 E;exact hb e B i h g b c t v u Q O m d F q
theorem FX:B1 X D W (.builtin "len") jZ:=by
 intro a s c H h j i t v u Q I b d r p;unfold jZ at p;split at p
 .obtain⟨ad,xs,rfl,_,_,q,l⟩:=d;exact vo a s c H _ _ Q I (.cons r .nil) ⟨ad,xs,rfl,.inl (.inl q),l.length▸p.here b rfl⟩
 .obtain⟨ad,xs,rfl,_,_,q,l⟩:=d;exact vo a s c H _ _ Q I (.cons r .nil) ⟨ad,xs,rfl,.inr (.inl q),l.length▸p.here b rfl⟩
 .subst d;obtain⟨e,p⟩:=p.grd;exact Qe a s c H _ _ Q I (.cons r .nil) ⟨_,rfl,zN e,p.here b rfl⟩
 .obtain⟨k,f,p⟩:=p.ex1;obtain⟨ad,g,rfl⟩:=d;obtain⟨xs,q,l⟩:=b.ob _ ad _ g f;exact vo a s c H _ _ Q I (.cons r .nil) ⟨ad,xs,rfl,.inl (.inl (.inl q)),l.length▸aq.here p b rfl⟩
 .exact p.elim
theorem Gm:B1 X D W (.type "int") Uv:=by
 intro a s b H e g f t v u Q I c d r p;unfold Uv at p;split at p
 .subst d;exact ZM a s b H _ _ Q I (.cons r .nil) (.inl ⟨_,rfl,p.here c rfl⟩)
 .subst d;exact ZM a s b H _ _ Q I (.cons r .nil) (.inr ⟨_,rfl,p.here c rfl⟩)
 .exact p.elim
theorem Uz:B1 X D W (.type "tuple") xk:=by
 intro b s e H h j i t v u Q I c d r p;unfold xk at p;split at p
 .obtain⟨ad,xs,rfl,_,_,q,l⟩:=d;exact jA b s e H _ _ Q I (.cons r .nil) ⟨ad,xs,rfl,.inl ⟨.inl q,λz a=>p.fresh c (ze a) ⟨z,xs,rfl,zi c a,zh c a,.inl z0,l.step (aw.new (ze a))⟩⟩⟩
 .obtain⟨k,f,p⟩:=p.ex1;obtain⟨ad,g,rfl⟩:=d;obtain⟨xs,q,l⟩:=c.ob _ ad _ g f;exact jA b s e H _ _ Q I (.cons r .nil) ⟨ad,xs,rfl,.inl ⟨.inl (.inl q),λz a=>aq.fresh p c (ze a) ⟨z,xs,rfl,zi c a,zh c a,.inl z0,l.step (aw.new (ze a))⟩⟩⟩
 .exact p.elim
theorem Lq:B1 X D W (.type "list") Qw:=by
 intro b s e H h j i t v u Q I c d r p;unfold Qw at p;split at p
 .obtain⟨ad,xs,rfl,_,_,q,l⟩:=d;exact vi b s e H _ _ Q I (.cons r .nil) ⟨ad,xs,rfl,.inl (.inl q),λz a=>p.fresh c (ze a) ⟨z,xs,rfl,zi c a,zh c a,.inl z0,l.step (aw.new (ze a))⟩⟩
 .obtain⟨ad,xs,rfl,_,_,q,l⟩:=d;exact vi b s e H _ _ Q I (.cons r .nil) ⟨ad,xs,rfl,.inr (.inl q),λz a=>p.fresh c (ze a) ⟨z,xs,rfl,zi c a,zh c a,.inl z0,l.step (aw.new (ze a))⟩⟩
 .obtain⟨k,f,p⟩:=p.ex1;obtain⟨ad,g,rfl⟩:=d;obtain⟨xs,q,l⟩:=c.ob _ ad _ g f;exact vi b s e H _ _ Q I (.cons r .nil) ⟨ad,xs,rfl,.inl (.inl (.inl q)),λz a=>aq.fresh p c (ze a) ⟨z,xs,rfl,zi c a,zh c a,.inl z0,l.step (aw.new (ze a))⟩⟩
 .exact p.elim
theorem vz(a:H p=af):aw α H (α++[p]) (upd H p o):=⟨⟨[p],rfl,by simpa using a⟩,λb u _ e=>ze a b u e,λb e=>by
 by_cases z:b=p
 .rw[z,z0] at e;exact w6 e
 .rw[z6 z] at e;exact e⟩
theorem au.lay(m:au D φ α H μ)(g:H p=af)(l:av D φ α H ts vs):au D φ (α++[p]) (upd H p (.l vs)) (μ++[.l ts]):=by
 have st:aw α H (α++[p]) (upd H p (.l vs)):=vz g;have r:=m.len;refine⟨by simp[r],?_,λb hb=>?_,λb hb=>?_,λi a o c f=>?_⟩
 .rw[gi];refine⟨m.nd,sC,λa s b hb=>?_⟩;rw[aT.mp hb];intro z;exact zh m g (z▸s)
 .rcases bf.mp hb with h|h
  .exact m.dis b h
  .rw[aT.mp h];exact zi m g
 .obtain⟨u,e,n⟩:=m.phi b hb;exact⟨u,ze g b u e,n⟩
 .by_cases hi:i<α.length
  .rw[cE hi] at c;rw[cE lC] at f;have d:=m.ob i a o c f;obtain⟨u,q,_⟩:=d.some;exact d.step st ((ze g _ _ q).trans q.symm)
  .rw[dL lC] at c f;have k:i-α.length=0:=by
    by_cases z:i-α.length=0
    .exact z
    .rw[iW (by simp;lia)] at c;exact z9 c
   have j:i-μ.length=0:=by lia
   rw[k] at c;rw[j] at f;(replace c:=zo c;subst c);(replace f:=zo f;subst f);exact⟨vs,z0,l.step st⟩
theorem aq.lay(q:aq D W φ α H σ (RV D φ Q) (.ok (.m μ.length) (μ++[.l ts])))(m:au D φ α H μ)(a:H p=af)(l:av D φ α H ts vs):Q (.ref p) (upd H p (.l vs)):=
 q.ok (vz a) (m.lay a l) _ ⟨p,by rw[<-m.len,dL (aK _)];simp,rfl⟩
theorem Hq(k:es.length<=aB)(l:cH X D W es fs):PE X (.List es pos) (aD D W (qP fs)):=by
 refine PE.mono (Uq (vD l)) ?_;rintro n H Q ⟨a,f,b,d,g,h,p⟩;refine⟨a,f,b,d,g,h,p.bind.mono λr c e s st m q o dl j=>⟨j▸zN k,λz i=>q.lay m i dl⟩⟩
theorem QC:∀{ts:List T}{bs:List Bool}{vs:List V}{us:List ai},bZ ts=aa bs->av D φ α H ts vs->aE vs us->us=bs.map og
 |[],bs,vs,us,h,l,r=>by
  simp[bZ] at h;subst h;subst l;cases r;rfl
 |t::ts,bs,vs,us,h,l,r=>by
  obtain⟨v,w,rfl,d,l⟩:=l;cases t with
  |bl b=>
   simp only[bZ] at h;cases q:bZ ts with
   |none=>rw[q] at h;exact z9 h
   |some cs=>
    rw[q] at h;(injection h with h;subst h);cases r with
    |cons c a=>
     subst d;subst c;rw[QC q l a];rfl
  |_=>simp[bZ] at h
set_option tactic.hygienic true in
theorem GO(E:X.calm=ae):B1 X D W (.builtin "all") V4:=by
 intro m s K H J M L t v u Q I y d r p;unfold V4 at p;split at p;case h_2=>exact p.elim
 rename_i xs;obtain⟨bs,F,p⟩:=p.som;obtain⟨ad,N,rfl,_,_,q,l⟩:=d;subst r;obtain⟨c,o,w,R⟩:=I.list (.inl q);have eb:=QC F l o;have j:=w.isList;have g:ad<s.heap.objs.size:=by obtain⟨_,e,_⟩:=j;exact bz e
 refine call_all_walk (oR j ?_)
 refine⟨s.heap.objs.size,[s.heap.objs.size,ad],[s.heap.objs.size],c.toArray.size,_,_,λi=>(bs[i]?).getD ae,rfl,rz (A:=X.A.in1) (I.ok.hd E) _ ad (b_ g) c.toArray,
  ⟨⟨_,dy _ rfl,rfl,rfl⟩,j.push _⟩,λi v P T U G n=>?_,λS O C=>?_⟩
 .have a:c[i]?=aa v:=by simpa using G
  rw[eb,bH] at a;cases e:bs[i]? with
  |none=>rw[e] at a;exact z9 a
  |some b=>
   rw[e] at a;simp at a;subst a;simp only[e,Option.getD_some] at n;exact eW n
 .have e:((dm c.toArray.size).all λi=>(bs[i]?).getD ae)=bs.all id:=by
   have z:c.toArray.size=bs.length:=by simp[eb]
   rw[z];rw[mZ];simp only[eP,io];constructor
   .intro h b k;obtain⟨i,f,rfl⟩:=List.mem_iff_getElem.mp k;have:=h i f;simpa[f] using this
   .intro h i f;have:=h bs[i] (m5 f);simpa[f] using this
  rw[e];exact⟨.bl (bs.all id),H,I.kept (λb x e=>C b x (λB=>by rw[aT.mp B] at e;exact g6 _ (bz e)) (bv _ e)),rfl,p.here y rfl⟩
theorem aw.turn(a:x∈α)(c:∃j,H x=aa j):aw α H α (upd H x o):=by
 refine⟨⟨[],sC,sC⟩,λb u n e=>?_,λb e=>?_⟩
 .rw[z6 (λ(z:b=x)=>n (z▸a))];exact e
 .by_cases z:b=x
  .rw[z,z0] at e;exact w6 e
  .rw[z6 z] at e;exact e
theorem au.turn(m:au D φ α H μ)(g:α[i]?=aa x)(hi:i<μ.length)(st:aw α H α (upd H x o))(d:c9 D φ α (upd H x o) B x):au D φ α (upd H x o) (μ.set i B):=by
 refine⟨by simp[m.len],m.nd,m.dis,λb hb=>?_,λj y h c a=>?_⟩
 .obtain⟨u,k,n⟩:=m.phi b hb;exact⟨u,st.keep b u (λz=>m.dis b z hb) k,n⟩
 .by_cases q:i=j
  .subst q;rw[g] at c;(replace c:=zo c;subst c);rw[iX hi] at a;(replace a:=zo a;subst a);exact d
  .rw[aX q] at a;have ne:y≠x:=λz=>by
    subst z;obtain⟨h1,f⟩:=aO.mp c;obtain⟨h2,e⟩:=aO.mp g;exact q ((oG m.nd).mp (e.trans f.symm))
   exact c9.step st (z6 ne) (m.ob j y h c a)
theorem Ue(e:au D φ α H μ)(b:α[i]?=aa x)(c:μ[i]?=aa (.l ts))(f:H x=aa (.l xs))(l:av D φ α H ts xs)(d:aI D φ α H t v) :
  aw α H α (upd H x (.l (xs++[v])))/\au D φ α (upd H x (.l (xs++[v]))) (μ.set i (.l (ts++[t]))):=by
 have a:aw α H α (upd H x (.l (xs++[v]))):=aw.turn (aS b) ⟨_,f⟩;exact⟨a,e.turn b ((aO.mp c).1) a ⟨_,z0,(l.step a).append ⟨v,[],rfl,d.step a,rfl⟩⟩⟩
set_option tactic.hygienic true in
theorem Lz(R:zU o=ae)(hs:az a=ae)(b:(pa.endLine==pc.line)=ae)(ho:PE X o (aD D W go))(Y:PE X a (aD D W f)) :
  PE X (.Call (.Attribute o "append" pa) [a] [] pc) (aD D W (uC go f)):=by
 have V:cU [a] X.env=[(ag,eval a X.env)]:=z7 hs;refine PE.mono (YO sS PySem.F.slot_list_append PySem.F.type_list_append Zn ho (zF Y qg (z7 hs)) (qj R) (by rw[V];rfl) b (z7 hs) rfl) ?_;rintro σ H Q ⟨w,I,y,G,z,N,p⟩;refine⟨w,I,y,G,z,N,p.bind.mono λot k m H1 r B q ov dv=>?_⟩;split at q;case h_2=>exact q.elim
 rename_i i;obtain⟨K,Z,⟨⟨L,g⟩,U⟩,T,P⟩:=q;obtain⟨x,s,rfl⟩:=dv;obtain⟨J,u,l0⟩:=B.ob _ x _ s g;refine⟨.inl ⟨rfl,_,.inl (.inl u)⟩,w,m,y,k,z.step r,B,_,Z,U,?_,P⟩;rintro t E ⟨ts,h,S,M⟩ c H2 e A v d;obtain⟨β,e2,_⟩:=e.ext;have j:c[i]?=aa x:=by
  rw[e2,cE (aO.mp s).1];exact s
 obtain⟨xs,C,l⟩:=A.ob i x _ j h;obtain⟨n,O⟩:=Ue A j h C l d;refine⟨x,xs,v,rfl,rfl,C,?_,?_⟩
 .rw[<-l.length];exact cz S (zN (aK _))
 .exact T _ _ M c _ (e.trans n) O .n rfl
end
structure gN(D:DP)(J:It)(Ok:List ak->List ak->Hp->Prop)(xs:List T):Prop where
 go:∀(i:Nat) φ α H,Ok φ α H->i<xs.length->J.go i H
 yld:∀(i:Nat) φ α H v H' t,Ok φ α H->xs[i]?=aa t->J.yld i H v H'->v_ H H'/\aI D φ α H' t v
 stop:∀φ α H,Ok φ α H->J.stop xs.length H
noncomputable def pW (D:DP)(φ α:List ak)(H:Hp)(xs:List T)(lv:Mem->Prop)(Ok:List ak->List ak->Hp->Prop):Prop:=∀a b d c,Lk φ α H a b d->au D a b d c->lv c->Ok a b d
noncomputable def fv (D:DP)(W:XW)(f:Di):TI:=λd H R=>mx D H d λc i g h=>
 aq D W c i H d (λp a b e=>∀J Ok,gN D J Ok p.1->pW D c b e p.1 p.2 Ok->p.2 a->R J e) (f g h).re
theorem Lk.trans(a:Lk φ α H s z C)(b:Lk s z C j u B):Lk φ α H j u B:=
 ⟨λx o n1 n2 e=>let ⟨d,c,f⟩:=a.ob x o n1 n2 e;b.ob x o d c f,λi x e=>b.st i x (a.st i x e)⟩
theorem JG{D:DP}{φ α:List ak}{H:Hp}{b:Type}{f:b->T}{xs:List b}{i:Nat}(h:(xs.map f)[i]?=aa t):∃a,xs[i]?=aa a/\t=f a:=by
 rw[bH] at h;cases q:xs[i]? with
 |none=>rw[q] at h;exact z9 h
 |some a=>rw[q] at h;(injection h with h;subst h);exact⟨a,rfl,rfl⟩
section
theorem Q_{K:bc}{ad:ak}:gN D (DF K ad) (λφ α H=>∃vs,Rd H ad (.l vs)/\av D φ α H xs vs) xs:=
 ⟨λi φ α H ⟨vs,ok,l⟩ b=>⟨vs,vs[i]'(l.length▸b),.inl ok,sC⟩,λi φ α H v c t ⟨vs,ok,l⟩ b y=>by
  obtain⟨rfl,y⟩:=y;obtain⟨x,a,d⟩:=l.get b;have e:=y vs (.inl ok);rw[e] at a;(replace a:=zo a;subst a);exact⟨λ_ _ z=>z,d⟩,λφ α H ⟨vs,ok,l⟩=>⟨vs,.inl ok,l.length▸aK _⟩⟩
theorem K5{i:Nat}(h:(dm n)[i]?=aa j):j=i:=by
 have:=(aO.mp h).2;simpa using this.symm
noncomputable def wr (z:ao):It:=⟨λi _=>i<z.cps.toList.length,λi H x a=>a=H/\∃c,z.cps.toList[i]?=aa c/\x=.str ⟨#[c]⟩,λi _=>z.cps.toList.length<=i⟩
theorem Ms{z:ao}:gN D (wr z) (λ_ _ _=>True) (z.cps.toList.map λc=>T.str ⟨#[c]⟩):=
 ⟨λi φ α H _ b=>by (show i<_);simpa using b,λi φ α H v e t _ b y=>by
  obtain⟨j,d,rfl⟩:=JG (D:=D) (φ:=φ) (α:=α) (H:=H) b;obtain⟨rfl,c,a,rfl⟩:=y;rw[d] at a;(replace a:=zo a;subst a);exact⟨λ_ _ z=>z,rfl⟩,λφ α H _=>by show _<=_;simp⟩
theorem Uw {P:bL}{K:bc}(hk:kd="str_ascii_iterator"\/kd="str_iterator") (it:ak) (z:ao) (t0:Tok):dU P w K tg (wr z) [it] it (λi h=>h.IsStrIter it kd z t0 i) where
 mem:=by simp
 obj:=λi h st b a=>by
  have e:b=it:=by simpa using a
  subst e;obtain⟨o,e,c,d⟩:=st;exact⟨o,e,λv z=>by rw[d] at z;injection z⟩
 keep:=λi h l st k=>let ⟨o,L,r⟩:=st;⟨o,k it sC o L,r⟩
 item:=by
  intro X D hw F C i g s y H E I m st B;subst D hw F;obtain⟨x,u,M,t,q,p⟩:=m it sC;have j:=Array.getElem?_eq_getElem (by simpa[wr] using B);have n:z.cps.toList[i]?=aa z.cps[i]:=Array.getElem?_toList▸j;rcases hk with rfl|rfl
  .refine wpAny_pyNext_ascii_item st j λl f A=>?_;have G:Inv X g y H {s with heap:=l,toks:=s.toks+1}:=I.turned (λb o a e=>(A.2 b a).trans e) x u t q p;obtain⟨o,e,c,d⟩:=id f;exact⟨.str ⟨#[z.cps[i]]⟩ s.toks,rfl,uv e c d dC ⟨.str ⟨#[z.cps[i]]⟩,H,G,⟨_,rfl⟩,⟨rfl,z.cps[i],n,rfl⟩,f,λb a=>(m b a).1⟩⟩
  .refine wpAny_pyNext_wide_item st j λl f A=>?_;have G:Inv X g y H {s with heap:=l,toks:=s.toks+1}:=I.turned (λb o a e=>(A.2 b a).trans e) x u t q p;obtain⟨o,e,c,d⟩:=id f;exact⟨.str ⟨#[z.cps[i]]⟩ s.toks,rfl,uv e c d dC ⟨.str ⟨#[z.cps[i]]⟩,H,G,⟨_,rfl⟩,⟨rfl,z.cps[i],n,rfl⟩,f,λb a=>(m b a).1⟩⟩
 done:=by
  intro X D hw F C i g s y H E I m st B;subst D hw F;obtain⟨x,u,M,t,q,p⟩:=m it sC;have J:=Array.getElem?_eq_none (by have:z.cps.toList.length<=i:=B;simpa using this);rcases hk with rfl|rfl
  .exact wpAny_pyNext_ascii_end (I.ok.hd C) st J λl eb=>⟨rfl,I.turned (λb o a e=>eb b o a e) x u t q p⟩
  .exact wpAny_pyNext_wide_end (I.ok.hd C) st J λl eb=>⟨rfl,I.turned (λb o a e=>eb b o a e) x u t q p⟩
 self:=λ_ _ _ _ _ st h=>by
  rcases hk with rfl|rfl
  .exact wpAny_pyIter_striter_ascii st h
  .exact wpAny_pyIter_striter_wide st h
theorem MJ(x:PE X a (aD D W f)):PI X tg a (fv D W (iE f)):=by
 rintro i s U H R I ⟨T,α,τ,μ,sr,mr,p⟩;refine aF (sub x I sr mr p) ?_;rintro u c ⟨v,y,t,V,C,d,G,Z,sr1,h,N,r⟩;cases t with
 |l Y=>
  obtain⟨ad,O,rfl,n1,n2,q,l⟩:=N;subst G;obtain⟨M,rv,K,hz⟩:=d.list (.inl q);refine oR K.isList ⟨c.heap.objs.size,[c.heap.objs.size],_,_,y,rfl,d.kept λb o e=>bv _ e,Zk ad _,⟨_,dy _ rfl,rfl,rfl⟩,λb k=>?_,?_⟩
  .have e:b=c.heap.objs.size:=by simpa using k
   subst e;exact d.fpOk (aK _) (d.hok.fresh (aK _))
  .have g:=r;exact g.ok (aw.refl _ _) h _ _ Q_ (λA E H' B lk _ _=>by
    obtain⟨a',F,e,_,_,J,L⟩:=aI.lk lk (show aI D T C y (.l Y) (.ref ad) from ⟨ad,O,rfl,n1,n2,q,l⟩);(injection e with e;subst e);exact⟨F,J,L⟩) trivial
 | m j=>
  obtain⟨ad,S,rfl⟩:=N;subst G;have g:=r;obtain⟨xs,Q,g⟩:=g.ex1;obtain⟨O,q,l⟩:=h.ob j ad _ S Q;obtain⟨M,rv,K,hz⟩:=d.list (.inl (.inl q));refine oR K.isList ⟨c.heap.objs.size,[c.heap.objs.size],_,_,y,rfl,d.kept λb o e=>bv _ e,Zk ad _,⟨_,dy _ rfl,rfl,rfl⟩,λb k=>?_,?_⟩
  .have e:b=c.heap.objs.size:=by simpa using k
   subst e;exact d.fpOk (aK _) (d.hok.fresh (aK _))
  .have g:=g;exact g.ok (aw.refl _ _) h _ _ Q_ (λA E H' B lk m hl=>by
    obtain⟨F,J,L⟩:=m.ob j ad _ (lk.st j ad S) hl;exact⟨F,.inl J,L⟩) Q
 |str z=>
  subst N;obtain⟨P,rfl⟩:=G;have n:∀{w:String},(w="str_ascii_iterator"\/w="str_iterator")->nO X i U tg R (.ref c.heap.objs.size) {c with heap:=c.heap.push {cls:=.type w,data:=.fields #[.str z P,.int 0 0]}}:=λ{w} hk=>by
   refine⟨c.heap.objs.size,[c.heap.objs.size],_,_,y,rfl,d.kept λb o e=>bv _ e,Uw hk _ z P,⟨_,dy _ rfl,rfl,rfl⟩,λb k=>?_,?_⟩
   .have e:b=c.heap.objs.size:=by simpa using k
    subst e;exact d.fpOk (aK _) (d.hok.fresh (aK _))
   .have g:=r;exact g.ok (aw.refl _ _) h _ _ Ms (λ_ _ _ _ _ _ _=>eM) trivial
  cases x:z.cps.all (·<128) with
  |true=>exact wpAny_pyIter_ascii x (n (.inl rfl))
  |false=>exact wpAny_pyIter_wide x (n (.inr rfl))
 |_=>exact aq.elim r
theorem NV(h:aE (x::xs) us):∃u r,us=u::r/\RelV x u/\aE xs r:=by
 cases h with
 |cons r q=>exact⟨_,_,rfl,r,q⟩
noncomputable def my (lo c:Int)(n:Nat):It:=⟨λi _=>i<n,λi H x a=>a=H/\x=.int (lo+i*c),λi _=>n<=i⟩
theorem Ws{P:bL}{K:bc}(it:ak)(lo c:Int)(n:Nat):dU P w K tg (my lo c n) [it] it (λi h=>IsRangeIter h it (lo+(i:Nat)*c) ((n:Int)-(i:Nat)) c) where
 mem:=by simp
 obj:=λi h st b d=>by
  have e:b=it:=by simpa using d
  subst e;exact⟨_,st,λv z=>by cases z⟩
 keep:=λi h q st k=>k it sC _ st
 item:=by
  intro X m hw p l i a s B H E I g st j;subst m hw p;obtain⟨A,y,G,x,u,r⟩:=g it sC;refine (Walks.range (prog:=X.prog) (w:=X.w) (I.ok.hd l) it lo c n).item i s _ _ j st λv q C F f D=>?_;obtain⟨t,rfl⟩:=F;have J:Inv X a B H {s with heap:=q,toks:=C}:=I.turned (λb o d e=>D b o (by simpa using d) e) A y x u r;exact⟨_,rfl,uv f rfl rfl dC ⟨.int (lo+i*c),H,J,⟨t,rfl⟩,⟨rfl,rfl⟩,f,λb d=>(g b d).1⟩⟩
 done:=by
  intro X m hw p l i a s B H E I g st j;subst m hw p;obtain⟨A,y,G,x,u,r⟩:=g it sC;exact wpAny_pyNext_range_end (I.ok.hd l) st (by have:n<=i:=j;lia) λq eb=>⟨rfl,I.turned (λb o d e=>eb b o d e) A y x u r⟩
 self:=λ_ _ _ _ _ st h=>wpAny_pyIter_rangeiter st h
theorem QP{P:bL}{K:bc}(it:ak)(lo c:Int)(n:Nat):dU P w K tg (my lo c n) [it] it (λi h=>IsLongIter h it (lo+(i:Nat)*c) ((n:Int)-(i:Nat)) c) where
 mem:=by simp
 obj:=λi h st b d=>by
  have e:b=it:=by simpa using d
  subst e;exact⟨_,st,λv z=>by cases z⟩
 keep:=λi h q st k=>k it sC _ st
 item:=by
  intro X m hw p l i a s B H E I g st j;subst m hw p;obtain⟨A,y,G,x,u,r⟩:=g it sC;refine (Walks.longrange (prog:=X.prog) (w:=X.w) (I.ok.hd l) it lo c n).item i s _ _ j st λv q C F f D=>?_;obtain⟨t,rfl⟩:=F;have J:Inv X a B H {s with heap:=q,toks:=C}:=I.turned (λb o d e=>D b o (by simpa using d) e) A y x u r;exact⟨_,rfl,uv f rfl rfl dC ⟨.int (lo+i*c),H,J,⟨t,rfl⟩,⟨rfl,rfl⟩,f,λb d=>(g b d).1⟩⟩
 done:=by
  intro X m hw p l i a s B H E I g st j;subst m hw p;obtain⟨A,y,G,x,u,r⟩:=g it sC;exact wpAny_pyNext_long_end (I.ok.hd l) st (by have:n<=i:=j;lia) λq eb=>⟨rfl,I.turned (λb o d e=>eb b o d e) A y x u r⟩
 self:=λ_ _ _ _ _ st h=>wpAny_pyIter_longiter st h
theorem UU{a b c:Int}(hc:0<c):oY a b c=if a<b then (b-a-1) / c+1 else 0:=by
 unfold oY;rw[if_pos hc]
theorem Z9{g:St}{H:Hp}{lo hi c:Int}{t u v:Tok}(I:Inv X j g H s)(l:0<c)
  (q:R (my lo c (if lo<hi then (hi-lo-1) / c+1 else 0:Int).toNat) H):aA (aC X.prog X.w) X.A (lM (.ref s.heap.objs.size)) (nO X j g tg R) E {s with heap:=s.heap.push {cls:=.type "range",data:=.fields #[.int lo t,.int hi u,.int c v]},toks:=tk}:=by
 have a:Inv X j g H {s with heap:=s.heap.push {cls:=.type "range",data:=.fields #[.int lo t,.int hi u,.int c v]},toks:=tk}:=I.kept λb o e=>bv _ e;have k:lo+(0:Nat)*c=lo:=by simp
 have i:((if lo<hi then (hi-lo-1) / c+1 else 0:Int).toNat:Nat)-(0:Nat)=oY lo hi c:=by
  rw[UU l];have:0<=(if lo<hi then (hi-lo-1) / c+1 else 0):=by
   split
   .have m:0<=(hi-lo-1) / c:=oz (by omega) (by omega);omega
   .omega
  omega
 have h:∀b∈[(s.heap.push {cls:=.type "range",data:=.fields #[.int lo t,.int hi u,.int c v]}).objs.size],b=(s.heap.push {cls:=.type "range",data:=.fields #[.int lo t,.int hi u,.int c v]}).objs.size:=λb f=>by simpa using f
 cases d:D2 lo hi c with
 |true=>
  refine wpAny_pyIter_range (rq ..) d ?_
  refine⟨(s.heap.push {cls:=.type "range",data:=.fields #[.int lo t,.int hi u,.int c v]}).objs.size,[(s.heap.push {cls:=.type "range",data:=.fields #[.int lo t,.int hi u,.int c v]}).objs.size],_,_,H,rfl,
   a.kept λb o e=>bv _ e,Ws _ lo c (if lo<hi then (hi-lo-1) / c+1 else 0).toNat,?_,λb f=>?_,q⟩
  .show IsRangeIter _ _ (lo+(0:Nat)*c) (((if lo<hi then (hi-lo-1) / c+1 else 0:Int).toNat:Nat)-(0:Nat)) c;rw[k,i];exact dy _ rfl
  .rw[h b f];exact a.fpOk (aK _) (a.hok.fresh (aK _))
 |false=>
  refine wpAny_pyIter_longrange (rq ..) d ?_
  refine⟨(s.heap.push {cls:=.type "range",data:=.fields #[.int lo t,.int hi u,.int c v]}).objs.size,[(s.heap.push {cls:=.type "range",data:=.fields #[.int lo t,.int hi u,.int c v]}).objs.size],_,_,H,rfl,
   a.kept λb o e=>bv _ e,QP _ lo c (if lo<hi then (hi-lo-1) / c+1 else 0).toNat,?_,λb f=>?_,q⟩
  .show IsLongIter _ _ (lo+(0:Nat)*c) (((if lo<hi then (hi-lo-1) / c+1 else 0:Int).toNat:Nat)-(0:Nat)) c;rw[k,i];exact dy _ rfl
  .rw[h b f];exact a.fpOk (aK _) (a.hok.fresh (aK _))
theorem yn{lo c:Int}{n:Nat}:gN D (my lo c n) (λ_ _ _=>True) ((dm n).map λ(i:Nat)=>T.int (lo+i*c)):=
 ⟨λi φ α H _ a=>by (show i<n);simpa using a,λi φ α H v d t _ a y=>by
  obtain⟨j,b,rfl⟩:=JG (D:=D) (φ:=φ) (α:=α) (H:=H) a;rw[K5 b];obtain⟨rfl,rfl⟩:=y;exact⟨λ_ _ z=>z,rfl⟩,λφ α H _=>by show n<=_;simp⟩
theorem Kk (C:Ck D W z X k) (E:("range":ao)∈z.G) (Y:z.gl "range"=.none) (h:az a=ae) (c:az b=ae) (Z:PE X a (aD D W f)) (hb:PE X b (aD D W g)) :
  PI X tg (.Call (.Name "range" p0) [a,b] [] pos) (fv D W (Wx f g)):=by
 have F:=C.glo _ E;rw[Y] at F;rintro e s J H R I ⟨v,N,w,L,B,T,p⟩;refine Call_ (qT I (C.glb _ E) F ry (nt (aF (zF Z (zF hb qg (z7 c)) (z7 h) pos e s J H (λA u=>∃i j:Int,A=[.int i,.int j]/\R (my i 1 (if i<j then (j-i-1) / 1+1 else 0).toNat) u) I ?_) ?_) (by rw[z7 h,z7 c]) (by rw[z7 c];rfl)))
 .refine⟨v,N,w,L,B,T,p.bind.mono λx l m u n V S v1 d1=>⟨v,m,w,l,B.step n,V,S.bind.mono λy K M H2 O U d v2 d2=>?_⟩⟩;cases x with
  |int i=>
   cases y with
   |int j=>
    obtain⟨hh,d⟩:=d.grd;subst d1 d2;exact⟨_,_,rfl,d.ok (aw.refl _ _) U _ _ yn (λ_ _ _ _ _ _ _=>eM) trivial⟩
   |_=>exact aq.elim d
  |_=>exact aq.elim d
 .rintro us s1 ⟨A,u,I1,P,i,j,rfl,q⟩;cases P with
  |cons r o=>
   cases o with
   |cons Q o=>
    cases o;obtain⟨t,rfl⟩:=r;obtain⟨t',rfl⟩:=Q;exact call_range_2 (Z9 I1 (by omega) q)
theorem YC (C:Ck D W u X k) (e:("range":ao)∈u.G) (K:u.gl "range"=.none) (hs:az a=ae) (L:PE X a (aD D W f)) :
  PI X tg (.Call (.Name "range" p0) [a] [] pos) (fv D W (Uy f)):=by
 have g:=C.glo _ e;rw[K] at g;rintro b s w H R I ⟨l,A,o,y,B,J,p⟩;refine Call_ (qT I (C.glb _ e) g ry (nt (aF (zF L qg (z7 hs) pos b s w H (λc h=>∃j:Int,c=[.int j]/\R (my 0 1 (if 0<j then (j-0-1) / 1+1 else 0).toNat) h) I ?_) ?_) (z7 hs) rfl))
 .refine⟨l,A,o,y,B,J,p.bind.mono λt x z U st m q v d=>?_⟩;cases t with
  |int n=>
   subst d;obtain⟨S,q⟩:=q.grd;have N:(if 0<n then (n-0-1) / 1+1 else 0).toNat=n.toNat:=by
    split
    .rw[rV];congr 1;lia
    .lia
   have M:((dm n.toNat).map λ(i:Nat)=>T.int (0+i*1))=rangeT n:=by
    refine md λi _=>?_;simp
   refine⟨n,rfl,?_⟩;rw[N];exact q.ok (aw.refl _ _) m _ _ (M▸yn) (λ_ _ _ _ _ _ _=>eM) trivial
  |_=>exact aq.elim q
 .rintro P Q ⟨c,h,O,E,j,rfl,q⟩;cases E with
  |cons r F=>
   cases F;obtain⟨t,rfl⟩:=r;exact call_range_1 (Z9 O lC q)
noncomputable def cp (N:List ao):List ap->Option (List Nat)
 |[]=>aa []
 |.Name x _::r=>match cF N x,cp N r with
  |some i,aa a=>aa (i::a)
  |_,_=>af
 |_::_=>af
noncomputable def wB (N:List ao):ap->Option Tg
 |.Name x _=>(cF N x).map Tg.one
 |.Tuple a _ _=>(cp N a).map Tg.t
 |_=>af
noncomputable def zd:ap->List ao
 |.Name x _=>[x]
 |.Tuple a _ _=>a.filterMap λe=>match e with|.Name x _=>aa x|_=>af
 |_=>[]
noncomputable def mw (X:Cx)(S:List ao):Prop:=∀x∈S,Loc X.env.scope x/\(X.fn x=ae\/X.env.scope.names.lookup x=aa .local)
set_option tactic.hygienic true in
theorem Jv(hN:X.N=N)(nd:N.Nodup)(w:mw X S):∀{c:List ap}{is:List Nat}{ts:List T}{f b:Sl},(∀e∈c,∀x p,e=.Name x p->x∈S)->cp N c=aa is->tH is ts f=aa b->
  ∃t,nP X c t/\(f8 c X.env).length=ts.length/\(f8 c X.env).findIdx? (·.1)=af/\∀{g:St}{vs:List V}{φ α H} {Q:St->Hp->Prop},aH D φ α H f g->av D φ α H ts vs->(∀j,aH D φ α H b j->Q j H)->t vs g H Q
 |[],is,ts,f,b,_,a,h=>by
  simp[cp] at a;subst a;cases ts with
  |nil=>
   simp at h;subst h;exact⟨CA,UT,rfl,rfl,λm l q=>⟨l,q _ m⟩⟩
  |cons _ _=>simp at h
 |e::c,is,ts,f,b,z,a,h=>by
  cases e with
  |Name x o=>
   simp only[cp] at a;split at a
   .rename_i i A E s;(replace a:=zo a;subst a);cases ts with
    |nil=>simp at h
    |cons t ts=>
     have y:=z _ dt x o rfl;obtain⟨u,n,C,F,B⟩:=Jv hN nd w (λe G=>z e (cJ _ G)) s h;refine⟨CW (Uj i) u,Ym (Jf (hN▸nd) (hN▸w5 E) (w x y).1 (w x y).2) n rfl,by simpa[f8] using C,?_,λ{g vs φ α H Q} m l k=>?_⟩
     .have I:f8 (.Name x o::c) X.env=(ag,hX (.Name x o) X.env)::f8 c X.env:=rfl;rw[I,List.findIdx?_cons];simp[F]
     .obtain⟨v,r,rfl,d,l⟩:=l;exact⟨v,r,rfl,B (m.set d) l k⟩
   .exact z9 a
  |_=>simp[cp] at a
theorem Vz(hN:X.N=N)(nd:N.Nodup)(k:mw X S)(hc:X.calm=ae)(o:∀x∈zd e,x∈S)(h0:wB N e=aa tgt)(h:f6 tgt t E=aa B)(I:Inv X z C H s)(n:aH D φ α H E C)(d:aI D φ α H t v)(r:RelV v u) :
  aA (aC X.prog X.w) X.A (hX e X.env u) (λ_ G=>∃j,Inv X z j H G/\aH D φ α H B j) X.xe s:=by
 cases e with
 |Name x F=>
  simp only[wB] at h0;cases q:cF N x with
  |none=>rw[q] at h0;exact z9 h0
  |some i=>
   rw[q] at h0;(injection h0 with h0;subst h0);cases (aZ h);have c:=o x (by simp[zd]);refine aF (Jf (hN▸nd) (hN▸w5 q) (k x c).1 (k x c).2 z s C H v u (λj b=>b=H/\j=C.set i (aa v)) I r ⟨rfl,rfl⟩) ?_;rintro _ y ⟨j,b,m,rfl,rfl⟩;exact⟨_,m,n.set d⟩
 |Tuple O Q F=>
  simp only[wB] at h0;cases q:cp N O with
  |none=>rw[q] at h0;exact z9 h0
  |some R=>
   rw[q] at h0;(injection h0 with h0;subst h0);cases t with
   |t P=>
    obtain⟨g,f,K,L,J⟩:=Jv hN nd k (λe M x p c=>o x (by subst c;exact lp.mpr ⟨_,M,rfl⟩)) q h;obtain⟨ad,xs,rfl,_,_,q,l⟩:=d;refine aF (Lo hc f K L z s C H (.ref ad) u (λj b=>b=H/\aH D φ α H B j) I r ⟨ad,xs,rfl,.inl q,l.length.symm,J n l λj a=>⟨rfl,a⟩⟩) ?_;rintro _ y ⟨j,b,m,rfl,a⟩;exact⟨j,m,a⟩
   |_=>exact z9 h
 |_=>simp[wB] at h0
end
theorem Mx(env:Env):∀(names:List (ao×ia)) (cs:List (ao×ak)),(∀p∈names,p.2=.free->∃c,env.cells.lookup p.1=aa c)->
  ∃cl,(forIn names cs (λ(x:ao×ia) r=>if (x.2==.free)=ae then do let a ←cellOf env x.1;pure (iS ((x.1,a)::r)) else pure (iS r)):Sem (List (ao×ak)))=pure cl/\
   (∀x c,cl.lookup x=aa c->cs.lookup x=aa c\/(env.cells.lookup x=aa c/\∃p∈names,p.1=x/\p.2=.free))/\(∀x c,cs.lookup x=aa c->∃j,cl.lookup x=aa j)/\∀p∈names,p.2=.free->∃c,cl.lookup p.1=aa c:=by
 intro names;induction names with
 |nil=>intro cs _;exact⟨cs,rfl,λx c h=>.inl h,λx c h=>⟨c,h⟩,λp d=>absurd d sC⟩
 |cons p names u=>
  intro cs h;rw[sB];by_cases d:p.2=.free
  .obtain⟨c,v⟩:=h p dt d;have e:cellOf env p.1=pure c:=by unfold cellOf;rw[v]
   rw[if_pos (by simp[d]),e];obtain⟨cl,t,s,k,o⟩:=u ((p.1,c)::cs) λq b=>h q (cJ _ b);refine⟨cl,t,λx j g=>?_,λx j g=>?_,λq b l=>?_⟩
   .rcases s x j g with z|⟨z,q,b,n,m⟩
    .rw[eU] at z;cases f:x==p.1 with
     |true=>
      simp[f] at z;subst z;have i:x=p.1:=by simpa using f
      exact .inr ⟨i▸v,p,dt,i.symm,d⟩
     |false=>simp[f] at z;exact .inl z
    .exact .inr ⟨z,q,cJ _ b,n,m⟩
   .cases f:x==p.1 with
    |true=>exact k x c (by simp[eU,f])
    |false=>exact k x j (by simp[eU,f,g])
   .rcases bC.mp b with rfl|b
    .exact k _ c sC
    .exact o q b l
  .rw[if_neg (by simp[d])];obtain⟨cl,t,s,k,o⟩:=u cs λq b=>h q (cJ _ b);refine⟨cl,t,λx j g=>?_,k,λq b l=>?_⟩
   .rcases s x j g with z|⟨z,q,b,n,m⟩
    .exact .inl z
    .exact .inr ⟨z,q,cJ _ b,n,m⟩
   .rcases bC.mp b with rfl|b
    .exact absurd l d
    .exact o q b l
noncomputable def yY(sc:Scope):List ao:=(sc.names.filter λp=>p.2==.globalImplicit).map (·.1)
noncomputable def frees(sc:Scope):List ao:=(sc.names.filter λp=>p.2==.free).map (·.1)
theorem vd:x∈frees sc↔∃p∈sc.names,p.1=x/\p.2=.free:=by
 unfold frees;simp only[ba,fq,beq_iff_eq];constructor
 .rintro⟨p,⟨c,b⟩,a⟩;exact⟨p,c,a,b⟩
 .rintro⟨p,c,a,b⟩;exact⟨p,⟨c,b⟩,a⟩
theorem yo(h:∀x∈frees sc,∃c,env.cells.lookup x=aa c) :
  ∃cl,n9 sc env=pure cl/\(∀x c,cl.lookup x=aa c->env.cells.lookup x=aa c/\x∈frees sc)/\∀x∈frees sc,∃c,cl.lookup x=aa c:=by
 obtain⟨cl,j,i,k,g⟩:=Mx env sc.names [] λp a d=>h p.1 (vd.mpr ⟨p,a,rfl,d⟩);refine⟨cl,?_,λx c b=>?_,λx b=>?_⟩
 .rw[<-j];unfold n9;simp
 .rcases i x c b with z|⟨z,p,a,f,e⟩
  .simp at z
  .exact⟨z,vd.mpr ⟨p,a,f,e⟩⟩
 .obtain⟨p,a,rfl,d⟩:=vd.mp b;exact g p a d
section
variable {M:Model}{A:Around}{E:ai->Shared->Prop}{s:Shared}{env:Env}
noncomputable def Qb(M:Model)(A:eF)(E:ai->aJ->Prop)(use:Option (ai->Sem Unit))(Q:ai->aJ->Prop)(a:ai)(ce:Env):Result->aJ->Prop
 |.ok _,t=>(match use with
  |none=>∃m,t.heap.Ns ce.locals m/\∀g,eT ce.locals t.heap g->Q a {t with heap:=g}
  |some u=>aA M A (u a) (λ_ b=>∃m,b.heap.Ns ce.locals m/\∀g,eT ce.locals b.heap g->Q .none {b with heap:=g}) E t)
 |.error x,t=>∃m,t.heap.Ns ce.locals m/\∀g,eT ce.locals t.heap g->aA M A (passOn "comprehension.variables-let-go" x ce:Sem ai) (λ_ _=>False) E {t with heap:=g}
theorem UX{mk fst:Sem ai}{use:Option (ai->Sem Unit)} 
  (h1:clausesOf e=g::gs) (h2:∀x,iQ g.iter env x=pure x) (K:n9 sc env=pure cl) (n:sc.kind=.function) (J:∀x∈sc.names,x.2=.local->sc.names.lookup x.1=aa .local)
  (h:aA M A fst (λx t1=>aA M A (lM x) (λit D=>aA M A mk (λj C=>aA M A (newFunctionEnv sc env.globals cl [] env.qual af .none (aa env)) (λce B=>
    fC M A (.compStart e 0 it j {ce with scope:=d5 sc env}) (Qb M A E use Q j {ce with scope:=d5 sc env}) B) E C) E D) E t1) E s) :
  aA M A (rL e sc env pos mk ag fst use) Q E s:=by
 unfold rL;rw[K,h1];have a:∀(x:ai) (t:aJ),E x t->E x t:=λ_ _ z=>z;refine ay (cX h (λx t1 G=>ay (fS (ay (lS (h2 x) (ay (dF (cX G (λit D F=>wpAny_standIf (ay (cX F (λj C w=>ay (aU (ay (cX w (λce B v=>?_) a)))) a))) a))))))) a)
 have H:∀y∈(sc.names.filter λx=>(x.2==.local || x.2==.cell)&&x.1 != (".0":ao)),y.2=.local->Env.kindOf {ce with scope:=d5 sc env} y.1=aa .local:=
  λy d I=>lookup_relabel_local (J y (fq.mp d).1 I)
 have k:∀y∈(sc.names.filter λx=>(x.2==.local || x.2==.cell)&&x.1 != (".0":ao)).reverse,y.2=.local->Env.kindOf {ce with scope:=d5 sc env} y.1=aa .local:=
  λy d=>H y (AB.mp d)
 refine dF (ay (rK (dF (wpAny_run (ii v λr o l=>?_)))));cases r with
 |error x=>
  obtain⟨m,i,b⟩:=l;exact ay (dF (si n _ o m k i λg p _ c=>cX (b g c) (λ_ _ z=>z.elim) a))
 |ok f=>
  cases use with
  |none=>
   obtain⟨m,i,b⟩:=l;exact ay (dF (si n _ o m k i λg p _ c=>aU (b g c)))
  |some u=>
   refine ay (mM (ay (dF (cX l (λ_ q b=>?_) a))));obtain⟨m,i,b⟩:=b;refine ay (si n _ q m (λy d=>?_) i λg p _ c=>aU (b g c));rcases bf.mp d with z|z
   .exact k y (sG z)
   .exact k y (nc z)
end
section
variable {prog:Program}{w:World}{A:Around}{R:Result->Shared->Prop}{s:Shared}
theorem NX(elt a iter:ap)(ifs:List ap)(scope:Scope)(pos:Pos)(it b:ai)(env:Env) :
  compTurn (.ListComp elt [⟨a,iter,ifs,0⟩] scope pos) 0 it b env=(standAt iter.pos >>= λ_=>pyNext it >>= λr=>match r with
   |none=>pure (.done .next)
   |some v=>m4 a it v >>= λ_=>hX a env v >>= λ_=>
    (forIn ifs ae λc s=>if s=ae then isTrue c env (eval c env) >>= λok=>pure (iS ok) else pure (iS s)) >>= λok=>
     if ok=ae then (eval elt env >>= λx=>call (.builtin "list.append") [b,x] >>= λ_=>pure ()) >>= λ_=>
      again (.compLoop (.ListComp elt [⟨a,iter,ifs,0⟩] scope pos) 0 it b env)
     else again (.compLoop (.ListComp elt [⟨a,iter,ifs,0⟩] scope pos) 0 it b env)):=by rfl
noncomputable def xf(M:Model)(A:eF)(env:Env)(E:ai->aJ->Prop):List ap->(Bool->aJ->Prop)->aJ->Prop
 |[],Q,s=>Q ae s
 |c::cs,Q,s=>aA M A (isTrue c env (eval c env)) (λb a=>if b=ae then xf M A env E cs Q a else Q ag a) E s
theorem Zr:∀(cs:List ap) {s:aJ},Q ag s->
  aA M A (forIn cs ag λc s=>if s=ae then isTrue c env (eval c env) >>= λok=>pure (iS ok) else pure (iS s)) Q E s
 |[],s,h=>aU h
 |c::cs,s,h=>by
  rw[sB];exact ay (aU (Zr cs h))
theorem QD:∀(cs:List ap) {s:aJ},xf M A env E cs Q s->
  aA M A (forIn cs ae λc s=>if s=ae then isTrue c env (eval c env) >>= λok=>pure (iS ok) else pure (iS s)) Q E s
 |[],s,h=>aU h
 |c::cs,s,h=>by
  rw[sB];refine ay (ay (aF h λb d a=>aU ?_));cases b with
  |true=>rw[if_pos rfl] at a;exact QD cs a
  |false=>rw[if_neg dC] at a;exact Zr cs a
theorem K3(I:Nat->aJ->Prop)
  (turn:∀n s,I n s->aA (aC prog w) A (pyNext it) (λr B=>match r with
   |none=>R (.ok .next) B
   |some v=>aA (aC prog w) A (m4 j it v) (λ_ G=>aA (aC prog w) A (hX j env v) (λ_ E=>xf (aC prog w) A env (notedBy (aC prog w) A env λx J=>R (.error x) J) ifs (λb u=>
     if b=ae then aA (aC prog w) A (eval elt env) (λx D=>aA (aC prog w) A (call (.builtin "list.append") [H,x]) (λ_ C=>∃m,m<n/\I m C) (λ_ _=>False) D) (notedBy (aC prog w) A env λx J=>R (.error x) J) u else ∃m,m<n/\I m u) E) (λ_ _=>False) G) (λ_ _=>False) B) (λ_ _=>False) s)
  (n:Nat) (h:I n s):fC (aC prog w) A (.compLoop (.ListComp elt [⟨j,iter,ifs,0⟩] scope pos) 0 it H env) R s:=by
 refine codeAny_loop rfl I (λn s k=>?_) n h;show aA _ _ ((compTurn (.ListComp elt [⟨j,iter,ifs,0⟩] scope pos) 0 it H env).onRaise (λx=>do n0 x env;theTreesLotGoes x)) _ _ s;refine wpAny_noted ?_;have nx:∀{i:Type}{t:Sem i}{Q:i->aJ->Prop}{s:aJ}{N:ai->aJ->Prop},aA (aC prog w) A t Q (λ_ _=>False) s->aA (aC prog w) A t Q N s:=λh=>cX h (λ_ _ q=>q) λ_ _ z=>z.elim;refine ay (fS (ay (nx (aF (turn n s k) λr B c=>?_))));cases r with
 |none=>exact aU c
 |some v=>
  refine ay (nx (aF c λ_ G g=>ay (nx (aF g λ_ E f=>ay (aF (QD ifs f) λb u a=>?_)))));cases b with
  |true=>
   exact ay (ay (aF a λx D e=>ay (nx (aF e λ_ C d=>aU (aU ⟨rfl,d⟩)))))
  |false=>
   exact aU ⟨rfl,a⟩
end
noncomputable abbrev nF:XW:=λ_ _ _ _=>False
noncomputable def hV (X:Cx)(N:List ao)(sc:Scope)(cl:List (ao×ak))(C0:ak)(a:aJ)(c:Hp)(b:List ak):Cx:=
 {X with N:=N,s₀:=a,H₀:=c,env:=gT sc cl C0 X.env,outer:=X.stack,ex:=b,fn:=λ_=>ag,pn:=[],xe:=λ_ _=>False}
noncomputable def Vt(N cel:List ao)(tg:ap)(sc:Scope):Bool:=
 (sc.kind==.function)&&sc.names.all (λp=>p.2 != .cell)&&sc.names.all (λp=>p.2 != .local || sc.names.lookup p.1==aa .local)&&
 (zd tg).all (λx=>sc.names.lookup x==aa .local&&x != ("__debug__":ao)&&x != ("__classdict__":ao))&&(frees sc).all (λx=>(cF N x).isSome&&sc.names.lookup x==aa .free&&cel.contains x&&x != ("__debug__":ao)&&x != ("__classdict__":ao))&&decide ((zd tg++frees sc).Nodup)&&
 (yY sc).all (λx=>sc.names.lookup x==aa .globalImplicit)
structure bY(N cel:List ao)(tg:ap)(sc:Scope):Prop where
 kind:sc.kind=.function
 noc:∀p∈sc.names,p.2≠.cell
 lcl:∀p∈sc.names,p.2=.local->sc.names.lookup p.1=aa .local
 own:∀x∈zd tg,sc.names.lookup x=aa .local/\(x==("__debug__":ao))=ag/\(x==("__classdict__":ao))=ag
 fre:∀x∈frees sc,(∃i,cF N x=aa i)/\sc.names.lookup x=aa .free/\x∈cel/\(x==("__debug__":ao))=ag/\(x==("__classdict__":ao))=ag
 nd:(zd tg++frees sc).Nodup
 glb:∀x∈yY sc,sc.names.lookup x=aa .globalImplicit
theorem KO(h:Vt N cel tg sc=ae):bY N cel tg sc:=by
 unfold Vt at h;simp only[bW,eP,beq_iff_eq,bne_iff_ne,oQ,decide_eq_true_eq,gp,BQ] at h;obtain⟨⟨⟨⟨⟨⟨q,o⟩,n⟩,m⟩,l⟩,k⟩,j⟩:=h;refine⟨q,o,λp g i=>?_,λx f=>?_,λx f=>?_,k,j⟩
 .rcases n p g with z|z
  .exact absurd i z
  .exact z
 .obtain⟨⟨a,b⟩,c⟩:=m x f;exact⟨a,by simpa using b,by simpa using c⟩
 .obtain⟨⟨⟨⟨a,b⟩,c⟩,d⟩,e⟩:=l x f;exact⟨a,b,c,by simpa using d,by simpa using e⟩
theorem zW{env:Env}{x:ao}:∀{names:List (ao×ia)}{kd:ia},names.lookup x=aa kd->
  (names.map λ(n,k)=>if (k==oy&&env.scope.kind==.function&&env.kindOf n==aa .cell) then (n,NameKind.cell) else (n,k)).lookup x=aa (if (kd==oy&&env.scope.kind==.function&&env.kindOf x==aa .cell) then .cell else kd)
 |[],_,h=>by simp at h
 |(n,k)::r,kd,h=>by
  have c:=@zW env x r kd;rw[cC];rw[eU] at h;cases a:x==n with
  |true=>
   have b:x=n:=by simpa using a
   subst b;simp at h;subst h;dsimp only;split<;>simp_all[eU]
  |false=>
   simp only[a] at h;dsimp only;split
   .rw[eU];simp only[a];exact c h
   .rw[eU];simp only[a];exact c h
section
noncomputable def QG (N:List ao)(a:St)(fs:List ao):St:=fs.map λx=>(cF N x).bind λi=>(a[i]?).join
noncomputable def y0 (N:List ao):List ao->Option (List Nat)
 |[]=>aa []
 |x::r=>match cF N x,y0 N r with
  |some i,aa a=>aa (i::a)
  |_,_=>af
theorem Q0:∀(n:Nat) {fs:List Nat}{a:Sl},fZ n fs a=lb n af++Y3 fs a
 |0,_,_=>rfl
 |n+1,fs,a=>by
  show af::fZ n fs a=_;rw[Q0 n];rfl
theorem uD:∀{fs:List Nat}{a:Sl},(Y3 fs a).length=fs.length
 |[],_=>rfl
 |i::r,a=>by show (Y3 r a).length+1=_;rw[uD];rfl
set_option tactic.hygienic true in
theorem ui:∀{N xs:List ao}{fs:List Nat},y0 N xs=aa fs->fs.length=xs.length
 |N,[],fs,h=>by (injection h with h;subst h);rfl
 |N,x::r,fs,h=>by
  simp only[y0] at h;split at h
  .rename_i i b c a;(replace h:=zo h;subst h);simp[ui a]
  .exact z9 h
set_option tactic.hygienic true in
theorem Qr(b:aH D φ α H s u):∀{xs:List ao}{fs:List Nat},y0 N xs=aa fs->∀(j:Nat) (t:T),(Y3 fs s)[j]?=aa (aa t)->∃v,(QG N u xs)[j]?=aa (aa v)/\aI D φ α H t v
 |[],fs,h,j,t,e=>by (injection h with h;subst h);simp at e
 |x::r,fs,h,j,t,e=>by
  simp only[y0] at h;split at h
  .rename_i i g f c;(replace h:=zo h;subst h);cases j with
   |zero=>
    obtain⟨v,a,d⟩:=b.get (aZ e);exact⟨v,by simp[QG,f,a],d⟩
   |succ j=>
    obtain⟨v,a,d⟩:=Qr b c j t e;exact⟨v,by simpa[QG] using a,d⟩
  .exact z9 h
theorem MB{N:List ao}{H:Hp}{ns xs:List ao}{fs:List Nat}(b:aH D φ α H s u)(h:y0 N xs=aa fs):aH D φ α H (fZ ns.length fs s) (ns.map (λ_=>af)++QG N u xs):=by
 rw[Q0];refine⟨by simp[uD,ui h,QG],λj t e=>?_⟩;rcases Am j ns.length with a|a
 .rw[cE (by simpa using a),oZ] at e;split at e<;>cases e
 .rw[dL (by simpa using a)] at e;rw[dL (by simpa using a)];simp only[aL,BO] at e ⊢;exact Qr b h _ t e
theorem WY(C:Ck D W Γ X k)(ok:bY Γ.N Γ.cel tg sc)(g:Inv X s Y M d)(hf:∀b∈U, Q3 X s M b)(hfo:∀b∈U, ∃o, d.heap.get? b=aa o)(f:∀x c, cl.lookup x=aa c->X.env.cells.lookup x=aa c/\x∈frees sc)(A:∀x∈frees sc, ∃c, cl.lookup x=aa c)
 (hns : h1.Ns (d.heap.objs.size + 1) (fun _ => af)) (O : eT (d.heap.objs.size + 1) ((d.heap.push { cls := .type "list", data := .seq ([] : List ai).toArray }).push { cls := .type "dict", data := .dict #[] }) h1) :
    Inv X s Y (upd M d.heap.objs.size (.l [])) {d with heap:=d.heap.push {cls:=.type "list", data:=.seq ([]:List ai).toArray}}/\
    Inv (hV X (zd tg ++ frees sc) sc cl (d.heap.objs.size + 1) { d with heap := d.heap.push { cls := .type "list", data := .seq ([] : List ai).toArray } } (upd M d.heap.objs.size (.l [])) U) []
      ((zd tg).map (λ_=>af)++QG Γ.N Y (frees sc)) (upd M d.heap.objs.size (.l [])) {d with heap:=h1, toks:=tk}:=by
  have n:=g.lnew (t':=d.toks) .nil sC;refine⟨n, ?_⟩;generalize hA:d.heap.push {cls:=.type "list", data:=.seq ([]).toArray}=S at O n ⊢;have K:S.objs.size=d.heap.objs.size+1:=by rw[<-hA, fT]
  have r:∀b o, S.get? b=aa o->h1.get? b=aa o:=λb o e=>O.extBut b o (K▸b_ (bz e)) (bv _ e);have E:∀x∈frees sc, (hV X (zd tg++frees sc) sc cl (d.heap.objs.size+1) {d with heap:=S} (upd M d.heap.objs.size (.l [])) U).env.kindOf x=aa .cell\/(hV X (zd tg++frees sc) sc cl (d.heap.objs.size+1) {d with heap:=S} (upd M d.heap.objs.size (.l [])) U).env.kindOf x=aa .free:=λx G=>by
    have:=zW (env:=X.env) (ok.fre x G).2.1;show (d5 sc X.env).names.lookup x=aa .cell\/(d5 sc X.env).names.lookup x=aa .free;unfold d5;rw[this];split
    · exact .inl rfl
    · exact .inr rfl
  refine⟨⟨g.ok.mod, ok.kind, g.ok.glob, g.ok.blt, ?_, ?_, ?_, λx c h=>absurd h (by simp[hV]), g.ok.hd, g.ok.frames, .inl rfl, ?_, ?_, ?_, ?_, ?_, ?_, ?_⟩, rfl, g.bare, Un.kept r, ⟨_, hns, ?_⟩, ?_, (K▸n.hok.fresh (aK _)), ?_, λp hp=>absurd hp (by simp[hV]), n.hok.kept r, ?_⟩
  · show S.objs.size <= d.heap.objs.size + 1;lia
  · intro x y c h1 h2;exact g.ok.inj x y c (f x c h1).1 (f y c h2).1
  · intro x G;have F:(d5 sc X.env).names.lookup x=aa .cell\/(d5 sc X.env).names.lookup x=aa .free:=G;by_cases hm:x∈frees sc
    · exact A x hm
    · exfalso;cases q:sc.names.lookup x with
      |none=>
        have:(d5 sc X.env).names.lookup x=af:=by
          rw[List.lookup_eq_none_iff] at q ⊢;intro p hp;obtain⟨p0, Z, rfl⟩:=ba.mp hp;have:=q p0 Z;try dsimp only
          split<;>exact this
        rw[this] at F;rcases F with z|z<;>exact z9 z
      |some kd=>
        have hr:=zW (env:=X.env) q;have l:=F;unfold d5 at l;rw[hr] at l;have t:=ip q;by_cases H:kd=.free
        · exact hm (vd.mpr ⟨_, t, rfl, H⟩)
        · have e : (kd == oy) = ag := by simpa using H
          rw[e] at l;simp only[ AW, oI] at l;rcases l with z|z
          · exact ok.noc _ t z
          · exact H z
  · intro b B;obtain⟨f0, f1, f2, f3, f4, f5⟩:=hf b B;obtain⟨o, P⟩:=hfo b B;exact⟨(b_ (mV (bz P))), λx c h=>f4 x c (f x c h).1⟩
  · intro b o e;exact n.bs b o e
  · exact cf n.ok.bsz n.sz
  · intro b o e B;obtain⟨f0, f1, f2, f3, f4, f5⟩:=hf b B;rcases f3 with z|z
    · exact g.ok.noex b o e z
    · exact absurd (cz (bz e) (cf g.ok.bsz z)) (g6 _)
  · intro b B hfs;obtain⟨f0, f1, f2, f3, f4, f5⟩:=hf b B;rcases bC.mp (g.stkSub b hfs) with z|z
    · exact f1 z
    · exact f2 z
  · exact n.stack
  · intro b B;exact n.stkFree b B
  · intro i x v hN a hv;obtain⟨m, hn, hl⟩:=g.loc;by_cases hi:i<(zd tg).length
    · exfalso;rw[cE (by simpa using hi), bH] at a;cases q:(zd tg)[i]? with
      |none=>rw[q] at a;exact z9 a
      |some y=>rw[q] at a;cases a
    · have R:(frees sc)[i-(zd tg).length]?=aa x:=by
        have:(zd tg++frees sc)[i]?=aa x:=hN;rwa[dL lC] at this
      rw[dL (by simpa using hi)] at a;simp only[aL] at a;unfold QG at a;rw[bH, R] at a;simp only[sA, oI] at a;have G:=aS R;obtain⟨⟨j, hj⟩, _, I, _⟩:=ok.fre x G;rw[hj] at a;simp only[AA] at a;cases u:Y[j]? with
      |none=>rw[u] at a;exact z9 a
      |some o=>
        rw[u] at a;subst a;obtain⟨w, V, lk⟩:=hl j x v (C.hN▸w5 hj) u (C.vis x (qN hj));refine⟨w, V, .inr ⟨E x G, ?_⟩⟩;have T:=C.cel x I;rcases lk with⟨z, _⟩|⟨_, c, hc, J⟩
        · rw [z] at T;rcases T with T|T<;>contradiction
        · obtain ⟨c', Q⟩ := A x G;have:=(f x c' Q).1;rw[hc] at this;(replace this:=zo this;subst this);refine⟨c, Q, ?_⟩;obtain⟨L, P, hd⟩:=J;exact⟨L, r c L (hA▸bv _ P), hd⟩
  · intro x c h;obtain⟨v, L, P, hd⟩:=g.cell x c (f x c h).1;exact⟨v, L, r c L (hA▸bv _ P), hd⟩
  · intro x c h;exact (n.freeC x c (f x c h).1).imp id λz=>⟨rfl, z.2⟩
  · show _ = (zd tg ++ frees sc).length;simp[QG]
variable {Γ:Cn}
noncomputable def inComp(Γ:Cn)(tg:ap)(sc:Scope):Cn:={Γ with N:=zd tg++frees sc,G:=(yY sc).filter Γ.U.contains,cel:=frees sc,lam:=af}
theorem MQ(C:Ck D W Γ X k)(ok:bY Γ.N Γ.cel tg sc) 
  (f:∀e s,XP {(hV X (zd tg++frees sc) sc cl C0 j E u) with pn:=pn,xe:=xe} B e s->xe e s):Ck D B (inComp Γ tg sc) {(hV X (zd tg++frees sc) sc cl C0 j E u) with pn:=pn,xe:=xe} k:=by
 have b:∀x∈frees sc,(d5 sc X.env).names.lookup x=aa .cell\/(d5 sc X.env).names.lookup x=aa .free:=λx c=>by
  have:=zW (env:=X.env) (ok.fre x c).2.1;unfold d5;rw[this];split
  .exact .inl rfl
  .exact .inr rfl
 have a:∀{x d},sc.names.lookup x=aa d->d≠.free->(d5 sc X.env).names.lookup x=aa d:=λ{x d} h g=>by
  have:=zW (env:=X.env) h;unfold d5;rw[this];have e:(d==oy)=ag:=by simpa using g
  simp[e]
 refine⟨C.hK,rfl,ok.nd,λx c=>?_,λx c=>?_,λx c=>?_,λx c=>?_,λx c=>?_,C.glU,b,C.isi,C.fld,C.xcx,C.ocx,C.clv,C.clm,C.rom,C.rmh,f,?_,cS.no rfl,λh=>by injection h⟩
 .rcases bf.mp c with h|h
  .exact .inl (a (ok.own x h).1 dC)
  .rcases b x h with z|z
   .exact .inr (.inl z)
   .exact .inr (.inr z)
 .rcases bf.mp c with h|h
  .exact (ok.own x h).2
  .exact (ok.fre x h).2.2.2
 .exact (C.glU x (by have:=(fq.mp c).2;simpa using this)).2
 .exact a (ok.glb x (fq.mp c).1) dC
 .exact (C.glU x (by have:=(fq.mp c).2;simpa using this)).1
 .obtain⟨e0,out,L,F⟩:=C.frm;exact⟨e0,out,L,⟨F.stk,F.f0,F.fe⟩⟩
theorem Uh(ok:bY Γ.N Γ.cel tg sc):mw (hV X (zd tg++frees sc) sc cl C0 j u s) (zd tg):=λx b=>by
 have e:=zW (env:=X.env) (ok.own x b).1;have a:(d5 sc X.env).names.lookup x=aa .local:=by
  unfold d5;rw[e];rfl
 exact⟨.inl a,.inr a⟩
theorem WO:∀{L:List ao}{i:Nat},x∈L->cF (L++M) x=aa i->i<L.length
 |[],_,h,_=>absurd h sC
 |y::L,i,h,e=>by
  rw[oE] at e;simp only[cF] at e;split at e
  ·(replace e:=zo e;subst e);simp
  .rename_i a;have b:=(bC.mp h).resolve_left λz=>a z.symm;cases q:cF (L++M) x with
   |none=>rw[q] at e;exact z9 e
   |some j=>rw[q] at e;(injection e with e;subst e);simpa using WO b q
theorem ZJ(h:i<n):∀j,n<=j->(yN s i t)[j]?=s[j]?:=λj a=>by
 rw[ye,aX lC]
set_option tactic.hygienic true in
theorem Zb:∀{f:List ap}{is:List Nat}{ts:List T}{c b:Sl},(∀e∈f,∀x p,e=.Name x p->x∈L)->cp (L++M) f=aa is->tH is ts c=aa b->∀j,L.length<=j->b[j]?=c[j]?
 |[],is,ts,c,b,_,a,h=>by
  (injection a with a;subst a);cases ts with
  |nil=>(injection h with h;subst h);exact λ_ _=>rfl
  |cons _ _=>exact z9 h
 |e::f,is,ts,c,b,g,a,h=>by
  cases e with
  |Name x l=>
   simp only[cp] at a;split at a
   .rename_i i m n d;(replace a:=zo a;subst a);cases ts with
    |nil=>exact z9 h
    |cons t ts=>
     intro j k;rw[Zb (λe o=>g e (cJ _ o)) d h j k];exact ZJ (WO (g _ dt x l rfl) n) j k
   .exact z9 a
  |_=>simp[cp] at a
theorem Xk(h0:wB (zd e++M) e=aa tgt)(h:f6 tgt t u=aa s):∀j,(zd e).length<=j->s[j]?=u[j]?:=by
 cases e with
 |Name x a=>
  simp only[wB] at h0;cases q:cF (zd (.Name x a)++M) x with
  |none=>rw[q] at h0;exact z9 h0
  |some i=>
   rw[q] at h0;(injection h0 with h0;subst h0);cases (aZ h);exact ZJ (WO (by simp[zd]) q)
 |Tuple b c a=>
  simp only[wB] at h0;cases q:cp (zd (.Tuple b c a)++M) b with
  |none=>rw[q] at h0;exact z9 h0
  |some k=>
   rw[q] at h0;(injection h0 with h0;subst h0);cases t with
   |t g=>exact Zb (λe f x p d=>by subst d;exact lp.mpr ⟨_,f,rfl⟩) q h
   |_=>exact z9 h
 |_=>simp[wB] at h0
noncomputable def WU (X:Cx)(D:DP)(W:XW):List ap->List Dt->Prop
 |[],[]=>True
 |e::a,f::fs=>PT X e (dG D W f)/\WU X D W a fs
 |_,_=>False
theorem YD{M:Model}{A:eF}{β:Type}{R:β->Mem->List ak->Hp->Prop}{fe:De}{kk:Option T->Mem->RE β}{Qf:Bool->aJ->Prop}:∀{cs:List ap}{fs:List Dt}{s:aJ}{H:Hp}{α:List ak}{μ:Mem},WU X D W cs fs->Inv X E C H s->aH D φ α H J C->au D φ α H μ->aq D W φ α H C R ((uP fs fe J μ).bind kk)->
  (∀B z j u,Inv X E C z B->aw α H j z->aH D φ j z J C->au D φ j z u->aq D W φ j z C R ((fe J u).bind λy G=>kk (aa y) G)->Qf ae B)->
  (∀B z j u,Inv X E C z B->aw α H j z->aH D φ j z J C->au D φ j z u->aq D W φ j z C R (kk af u)->Qf ag B)->
  xf (aC X.prog X.w) X.A X.env X.xe cs Qf s
 |[],[],s,H,α,μ,_,I,k,l,p,m,_=>m s H α μ I (aw.refl _ _) k l p
 |[],_::_,_,_,_,_,h,_,_,_,_,_,_=>h.elim
 |_::_,[],_,_,_,_,h,_,_,_,_,_,_=>h.elim
 |c::cs,f::fs,s,H,α,μ,h,I,k,l,p,m,o=>by
  refine aF (CD h.1 I k l p) ?_;rintro b r ⟨t,G,i,q,d,e,g,n⟩;cases b with
  |true=>
   exact YD (M:=M) (A:=A) h.2 q e g n (λB z j u a b=>m B z j u a (d.trans b)) (λB z j u a b=>o B z j u a (d.trans b))
  |false=>
   exact o r t i G q d e g n
end
section
theorem xH(h:∀e s,E e s->j e s):∀{cs:List ap}{s:aJ},xf M A env E cs Q s->xf M A env j cs Q s
 |[],_,q=>q
 |c::cs,s,q=>cX q (λb d a=>by
  cases b with
  |true=>rw[if_pos rfl] at a ⊢;exact xH h a
  |false=>rw[if_neg dC] at a ⊢;exact a) h
theorem dR.but{T:ak}{h g:aG}(t:dR h x T cls d fl)(j:eT C0 h g)(m:x≠C0)(n:T≠C0):dR g x T cls d fl:=by
 obtain⟨k,vs,a0,l,ts,ho,hc,hd,c,b,i,e,f,o,a⟩:=t;exact⟨k,vs,a0,l,ts,j.extBut x k m ho,hc,hd,c,b,i,j.extBut T l n e,f,o,a⟩
theorem ya(I:Inv X j u H s)(d:c7 X H C0)(f:∀q∈j,q.1≠C0)(c:eT C0 s.heap h'):Inv X j u H {s with heap:=h'}:=
 kB I (λb g=>aT.mp g▸⟨d,f⟩) (λb o _ a e=>c.extBut b o (λz=>a (by simp[z])) e) λb o _ a e=>⟨o.slots,c.extBut b o (λz=>a (by simp[z])) e⟩
inductive nV(D:DP)(Xb:Cx)(tn:Nat->aG->Prop)(fp φ1 α1:List ak)(H2:Hp)(acc:ak)(bl:Sl)(xs:List T)(P:Nat->List T->Mem->Prop)(n:Nat)(s':Shared):Prop where
 |mk (i:Nat) (σ':St) (H':Hp) (α':List ak) (μ':Mem) (yT:List T) (yV:List V) (e:n=xs.length-i) (hi:i<=xs.length) (iv:Inv Xb [] σ' H' s') (t:tn i s'.heap) (fr:∀b∈fp,H' b=af) (st:aw α1 H2 α' H') (mr:au D φ1 α' H' μ') (sr:aH D φ1 α' H' bl σ') (ac:H' acc=aa (.l yV)) (dl:av D φ1 α' H' yT yV) (hy:yT.length<=i) (q:P i yT μ')
inductive i7(D:DP)(φ1 α1:List ak)(H2:Hp)(Z0:Xp)(cls:ai)(d:Option ak)(_:St)(He:Hp):Prop where
 |mk (c:Nat) (fs':List (Nat×T)) (μ':Mem) (α':List ak) (z:Z0 c fs' μ') (st:aw α1 H2 α' He) (m:au D φ1 α' He μ') (ad:iA D c fs' cls) (xd:bJ D φ1 α' He fs' d)
structure t9(Xb X:Cx)(env:Env)(N:List ao):Prop where
 pr:Xb.prog=X.prog
 w:Xb.w=X.w
 K:Xb.K=X.K
 A:Xb.A=X.A
 en:Xb.env=env
 ca:Xb.calm=X.calm
 st:Xb.stack=X.stack
 N:Xb.N=N
theorem xn{β:Type}{R:β->Mem->List ak->Hp->Prop}{fi:Di}{tgt:Tg}{cs:List Dt}{fe:De}{kk:List T->Mem->RE β}{use:Option (ai->Sem Unit)} 
  (C:Ck D W Γ X k) (hc:Γ.calm=ae) (ok:bY Γ.N Γ.cel tg sc) (hfs:y0 Γ.N (frees sc)=aa fs) (htg:wB (zd tg++frees sc) tg=aa tgt) (hi:PI X tg iter (fv D W fi)) (hel:∀X' W',Ck D W' (inComp Γ tg sc) X' k->PE X' elt (aD D W' fe)) (hts:∀X' W',Ck D W' (inComp Γ tg sc) X' k->WU X' D W' ifs cs) (hs:∀x,iQ iter X.env x=pure x)
  (I:Inv X pins σ H s) (sr:aH D φ α H τ σ) (mr:au D φ α H μ)
  (p:aq D W φ α H σ R ((fi τ μ).go λxs o μ1=>.grd (xs.length<=aB) ((qb tgt (uP cs fe) o (fZ (zd tg).length fs τ) xs μ1).bind kk)))
  (Kq:∀acc C0 s' Q H1 H' Y ys vs U,Inv X pins σ H' s'->aw α H Q H1->aw Q H1 Y H'->H1 acc=af->acc∉φ->acc∉Q->aH D (φ++[acc]) Y H' τ σ->au D (φ++[acc]) Y H' U->H' acc=aa (.l vs)->av D (φ++[acc]) Y H' ys vs->aq D W φ Q H1 σ R (kk ys U)->c7 X H' C0->(∀q∈pins,q.1≠C0)->(∃m,s'.heap.Ns C0 m)->
   (match use with
    |none=>∃m,s'.heap.Ns C0 m/\∀g,eT C0 s'.heap g->Qf (.ref acc) {s' with heap:=g}
    |some u=>aA (aC X.prog X.w) X.A (u (.ref acc)) (λ_ t2=>∃m,t2.heap.Ns C0 m/\∀g,eT C0 t2.heap g->Qf .none {t2 with heap:=g}) X.xe s')) :
  aA (aC X.prog X.w) X.A (rL (.ListComp elt [⟨tg,iter,ifs,0⟩] sc pos) sc X.env pos' (newList []) ag (eval iter X.env) use) Qf X.xe s:=by
 obtain⟨cl,hclos,hcl,hcl2⟩:=yo λx hx=>I.ok.has x (C.cel x (ok.fre x hx).2.2.1)
 refine UX rfl hs hclos ok.kind ok.lcl (aF (hi pins s σ H (λJ H2=>∃xs o μ1 Q Ok,gN D J Ok xs/\pW D φ Q H2 xs o Ok/\o μ1/\aw α H Q H2/\au D φ Q H2 μ1/\
  aq D W φ Q H2 σ R (.grd (xs.length<=aB) ((qb tgt (uP cs fe) o (fZ (zd tg).length fs τ) xs μ1).bind kk))) I
  ⟨φ,α,τ,μ,sr,mr,p.bind.mono λpr U Y H' st m q J Ok iv okk lv=>⟨pr.1,pr.2,U,Y,Ok,iv,okk,lv,st,m,q⟩⟩) λv s1 h1=>aF h1 λitv l h2=>?_)
 obtain⟨it,fp,tn,J,H2,rfl,I2,Tn,tn0,f2,xs,Lv,μ1,Q,Ok,iv,okk,lv1,st1,mr1,p1⟩:=h2;obtain⟨hroom,K0,Z0,q0,hk0,hz0⟩:=p1.grd;have fo:∀b∈fp,∃o,l.heap.get? b=aa o:=λb E=>let ⟨o,e,_⟩:=Tn.obj 0 _ tn0 b E;⟨o,e⟩;refine lA (BF ok.noc (by intro y hy;simp at hy) (λh₁ hns₁ Z=>?_) ok.kind);have sz:(l.heap.push {cls:=.type "list",dict:=af,data:=.seq ([]).toArray}).objs.size=l.heap.objs.size+1:=fT ..;dsimp only at hns₁ Z ⊢;rw[sz] at hns₁ Z ⊢;obtain⟨I3,J0⟩:=WY C ok I2 f2 fo hcl hcl2 (by simpa using hns₁) Z;have hD:=I2.hok.fresh (aK _);have nal:=zh mr1 hD;have old:∀b o,l.heap.get? b=aa o->h₁.get? b=aa o:=λb o e=>Z.extBut b o (b_ (mV (bz e))) (bv _ (bv _ e));have n3:({l with heap:=l.heap.push {cls:=.type "list",data:=.seq ([]:List ai).toArray}}).heap.get? (l.heap.objs.size+1)=af:=iR (by rw[fT];exact aK _);have xo0:=vj I3 n3;have pn3:∀q∈pins,q.1≠l.heap.objs.size+1:=λq hq z=>by
  have:=(I3.pin q (cD _ hq)).1;rw[z,n3] at this;exact z9 this
 generalize hS3:({l with heap:=l.heap.push {cls:=.type "list",data:=.seq ([]:List ai).toArray}})=S3 at I3 J0 n3;generalize hH3:upd H2 l.heap.objs.size (.l [])=H3 at I3 J0 xo0;generalize hXb:hV X (zd tg++frees sc) sc cl (l.heap.objs.size+1) S3 H3 fp=P at J0;have f:t9 P X (gT sc cl (l.heap.objs.size+1) X.env) (zd tg++frees sc):=by subst hXb;exact⟨rfl,rfl,rfl,rfl,rfl,rfl,rfl,rfl⟩
 have sto:mw P (zd tg):=by subst hXb;exact Uh ok
 have cm:P.calm=ae:=f.ca▸C.clm hc;have back:∀{s4:aJ}{σ4:St}{H4:Hp}{S:List (ak×bj)},Inv P S σ4 H4 s4->Inv X pins σ H4 s4:=λ{s4 σ4 H4 S} I4=>by
  subst hXb;exact I3.call' I4.os I4.base I4.hok I4.bare λb E=>by
   obtain⟨f0,f1,f2',f3,f4,f5⟩:=f2 b E;exact⟨f3,f1,f4,f5⟩
 have fpk:∀{H':Hp},(∀b∈fp,H' b=af)->∀b∈fp,Q3 P [] H' b:=λhn b E=>by
  obtain⟨f0,f1,f2',f3,f4,f5⟩:=f2 b E;obtain⟨o,ho⟩:=fo b E;subst hXb;refine⟨hn b E,b_ (mV (bz ho)),λz=>?_,.inl E,λx c h=>f4 x c (hcl x c h).1,λq hq=>absurd hq (by simp[hV])⟩;rcases bC.mp (I2.stkSub b z) with z|z
  .exact f1 z
  .exact f2' z
 have TnI:=Tn.item P f.pr f.w f.K cm;have TnD:=Tn.done P f.pr f.w f.K cm;obtain⟨e0,out,L,F⟩:=C.frm;have ce:(gT sc cl (l.heap.objs.size+1) X.env).frame=aa L:=F.fe;obtain⟨NB,hNB⟩:∃NB:ai->aJ->Prop,NB=notedBy (aC X.prog X.w) X.A (gT sc cl (l.heap.objs.size+1) X.env) (λx s'=>Qb (aC X.prog X.w) X.A X.xe use Qf (.ref l.heap.objs.size) (gT sc cl (l.heap.objs.size+1) X.env) (.error x) s'):=⟨_,rfl⟩
 have leave:∀{S:List (ak×bj)}{e:ai}{t:aJ},(∀b∈fp,∃o,(b,o)∈S)->XP (Cx.pin' P S) (i7 D (φ++[l.heap.objs.size]) Q H2 Z0) e t->
   NB e t:=λ{S e t} hpp xp=>by
  have Fb:iF (Cx.pin' P S) e0 out L:=⟨f.st▸F.stk,F.f0,f.en▸ce⟩;have hfr:X.A.frames=aa (Cx.pin' P S).stack:=f.st▸I.ok.frames;rw[hNB];rw[show gT sc cl (l.heap.objs.size+1) X.env=(Cx.pin' P S).env from f.en.symm];refine y9 Fb hfr xp λx cls d σe He T h' ee Ie ox oT tr w=>?_;subst ee;have en:=f.en;rw[en];have Iu:=zS Ie;have IX:=back Iu;have nw:∀b,c7 (Cx.pin' P S) He b->c7 X He b/\b≠l.heap.objs.size+1:=λb o=>by
   have E:b∉fp:=λz=>by
    obtain⟨ob,hm⟩:=hpp b z;exact o.pin (b,ob) (cD _ hm) rfl
   have h3:S3.heap.get? b=af:=by
    have:=o.new;subst hXb;exact this.resolve_left E
   have q:=vj I3 h3;refine⟨⟨o.free,q.loc,q.nfs,q.new,q.cel,q.pin⟩,?_⟩;have:=o.loc;have e2:(Cx.pin' P S).env.locals=l.heap.objs.size+1:=by rw[en];rfl
   rw[e2] at this;exact this
  have xoC:c7 X He (l.heap.objs.size+1):=⟨by have:=Iu.free;rw[f.en] at this;exact this,xo0.loc,xo0.nfs,xo0.new,xo0.cel,xo0.pin⟩;obtain⟨m,hm,_⟩:=Iu.loc;rw[f.en] at hm;refine⟨m,hm,λg sb=>?_⟩;have sb':=sb;have Ig:Inv X [] σ He {t with heap:=g}:=(ya IX xoC pn3 sb').pins_of λp hp=>absurd hp sC;have tg':=tr.but sb' (nw x ox).2 (nw T oT).2;obtain⟨oe,vs',a0,oT',ts,ho,hcc,hd,hv0,hv1,hT,hoT,hdT,h3,_⟩:=id tg';refine ay (f9 ho hd hv1 ?_);have go:∀{t2:aJ},XP X W (.ref x) t2->aA (aC X.prog X.w) X.A (throw (cG x):Sem ai) (λ_ _=>False) X.xe t2:=λ{t2} xp=>wpAny_throw (C.xe _ _ xp);have fin:aA (aC X.prog X.w) X.A (mI (.ref x) (gT sc cl (l.heap.objs.size+1) X.env).frame) (λ_ t2=>XP X W (.ref x) t2) X.xe {t with heap:=g}:=by
   refine qI Ig (nw x ox).1 (nw T oT).1 tg' λh4 I4 tr4=>?_;obtain⟨c,fs',U,Y,z,stp,m',ad,xd⟩:=w;refine⟨x,cls,d,σ,He,aa T,cI L,rfl,I4,(nw x ox).1,λt ht=>?_,?_,.inr ⟨L,F.fe,rfl⟩,?_⟩
   .have:t=T:=by simpa using ht
    rw[this];exact (nw T oT).1
   .rw[ce] at tr4;exact tr4
   .refine hz0 c fs' U z Y He cls d stp (m'.lk qt (λa ha=>⟨rfl,λz=>m'.dis a ha (c_ _ z)⟩) λb E=>m'.phi b (c_ _ E)) ad (xd.lk qt)
  first
   |exact ay (aF fin λ_ t2 xp=>go xp)
   |exact ay (aU (ay (aF fin λ_ t2 xp=>go xp)))
 have loop:fC (aC X.prog X.w) X.A (.compLoop (.ListComp elt [⟨tg,iter,ifs,0⟩] sc pos) 0 (.ref it) (.ref l.heap.objs.size) (gT sc cl (l.heap.objs.size+1) X.env)) (Qb (aC X.prog X.w) X.A X.xe use Qf (.ref l.heap.objs.size) (gT sc cl (l.heap.objs.size+1) X.env)) {l with heap:=h₁,toks:=l.toks+([]:List (ao×ai)).length}:=by
  obtain⟨LI,hLI⟩:∃LI:Nat->aJ->Prop,LI=nV D P tn fp (φ++[l.heap.objs.size]) Q H2 l.heap.objs.size (fZ (zd tg).length fs τ) xs (λi yT U=>Lv U/\qb tgt (uP cs fe) Lv (fZ (zd tg).length fs τ) (xs.drop i) U (λrest μ2=>kk (yT++rest) μ2 K0 Z0) Z0):=⟨_,rfl⟩;refine K3 LI ?_ xs.length ?_
  .intro n s' h0;rw[hLI] at h0;obtain⟨i,σ',H',Y,U,yT,yV,rfl,hi',Iv,tni,fr,stp,mr',sr',hacc,dly,hyl,lv',hcmi⟩:=h0;have okH:=okk _ Y H' U ((xt hD).trans stp.lk) mr' lv';by_cases hlt:i<xs.length
   .have TI:=TnI i [] s' σ' H' (λ_ _=>False) Iv (fpk fr) tni (iv.go i _ _ H' okH lC);rw[f.A] at TI;refine aF TI ?_;rintro r s4 ⟨u,rfl,h4⟩;refine aF h4 ?_;rintro _ s5 ⟨x,H5,I5,r5,y5,tn5,fr5⟩;obtain⟨sm5,dx'⟩:=iv.yld i _ _ H' x H5 xs[i] okH sC y5;have stp:=stp.trans (aw.new sm5);have sr':=sr'.step (aw.new sm5);have mr':=mr'.new sm5;have hacc:=sm5 _ _ hacc;have dly:=dly.step (aw.new sm5);have hdr:=BS hlt;rw[hdr] at hcmi;obtain⟨τ',ha,hfe⟩:=hcmi;have I5':=I5.pinned (fpk fr5) (Tn.obj _ _ tn5);have A6:=Vz f.N ok.nd sto cm (λx h=>h) htg ha I5' sr' dx' r5;rw[f.pr,f.w,f.A,f.en,show P.xe=λ_ _=>False by subst hXb;rfl] at A6;refine aF A6 ?_;rintro _ s6 ⟨σ6,I6,sr6⟩;generalize hpp:([]++ym fp s5.heap)=S at I6;have hppm:∀b∈fp,∃o,(b,o)∈S:=λb E=>by
     obtain⟨o,e,_⟩:=Tn.obj _ _ tn5 b E;exact⟨o,hpp▸cD _ (vA E e)⟩
    generalize hW1:i7 D (φ++[l.heap.objs.size]) Q H2 Z0=W1;have lv:∀e t,XP (Cx.pin' P S) W1 e t->NB e t:=λe t xp=>by
     rw[<-hW1] at xp;exact leave hppm xp
    have ck:Ck D W1 (inComp Γ tg sc) ((Cx.pin' P S).wish (XP (Cx.pin' P S) W1)) k:=by
     subst hXb;exact MQ C ok λe s p=>jc p
    have I6':Inv ((Cx.pin' P S).wish (XP (Cx.pin' P S) W1)) [] σ6 H5 s6:=(Wz I6).wish _
    have next:∀{s7:aJ}{H7:Hp}{O:List ak}{B:Mem}{yT':List T}{yV':List V},Inv ((Cx.pin' P S).wish (XP (Cx.pin' P S) W1)) [] σ6 H7 s7->aw Q H2 O H7->au D (φ++[l.heap.objs.size]) O H7 B->aH D (φ++[l.heap.objs.size]) O H7 τ' σ6->H7 l.heap.objs.size=aa (.l yV')->av D (φ++[l.heap.objs.size]) O H7 yT' yV'->yT'.length<=i+1->
      Lv B->qb tgt (uP cs fe) Lv (fZ (zd tg).length fs τ) (xs.drop (i+1)) B (λrest μ2=>kk (yT'++rest) μ2 K0 Z0) Z0->
      ∃m,m<xs.length-i/\LI m s7:=λ{s7 H7 O B yT' yV'} I7 st7 m7 sr7 ac7 dy7 hy7 lv7 q7=>by
     have I7u:=zS I7.unwish;have pinned:∀b∈fp,∃o,s5.heap.get? b=aa o/\s7.heap.get? b=aa o/\H7 b=af:=λb E=>by
      obtain⟨o,e,_⟩:=Tn.obj _ _ tn5 b E;have:=I7u.pin (b,o) (cD _ (hpp▸cD _ (vA E e)));exact⟨o,e,this.1,this.2.1⟩
     refine⟨xs.length-(i+1),lC,?_⟩;rw[hLI];refine⟨i+1,σ6,H7,O,B,yT',yV',rfl,hlt,I7u.pins_of (λp hp=>absurd hp sC),Tn.keep _ _ _ tn5 (λb E o e=>?_),λb E=>(pinned b E).choose_spec.2.2,st7,m7,⟨?_,λj t e=>?_⟩,ac7,dy7,hy7,lv7,q7⟩
     .obtain⟨o',e1,e2,_⟩:=pinned b E;rw[e] at e1;(replace e1:=zo e1;subst e1);exact e2
     .have:=I7u.len;rw[f.N] at this;rw[Q0,this];simp[uD,ui hfs]
     .have hj:(zd tg).length<=j:=by
       rcases Am j (zd tg).length with h|h
       .rw[Q0,cE (by simpa using h),oZ] at e;split at e<;>cases e
       .exact h
      exact sr7.val j t (Xk htg ha j hj▸e)
    have P0:aq D W1 (φ++[l.heap.objs.size]) Y H5 σ6 (λ(o:Option T) B O H7=>match o with
      |some y=>∀v,aI D (φ++[l.heap.objs.size]) O H7 y v->Lv B/\qb tgt (uP cs fe) Lv (fZ (zd tg).length fs τ) (xs.drop (i+1)) B (λys μ2=>kk (yT++y::ys) μ2 K0 Z0) Z0
      |none=>Lv B/\qb tgt (uP cs fe) Lv (fZ (zd tg).length fs τ) (xs.drop (i+1)) B (λys μ2=>kk (yT++ys) μ2 K0 Z0) Z0) ((uP cs fe τ' U).bind λo B=>RE.ok o B):=by
     refine⟨_,Z0,hfe,λo B e O H7 st m=>?_,λc fs' B z O H7 cv d st m ad xd=>?_⟩
     .cases o with
      |some y=>exact λv _=>e
      |none=>exact e
     .rw[<-hW1];exact⟨c,fs',B,O,z,stp.trans st,m,ad,xd⟩
    have ep:=f.pr;have ew:=f.w;have eA:=f.A;have ee:=f.en;have nD:l.heap.objs.size∉Y:=λz=>mr'.dis _ z sC;have G:=YD (M:=aC X.prog X.w) (A:=X.A) (Qf:=λb s₄=>if b=ae then aA (aC X.prog X.w) X.A (eval elt (gT sc cl (l.heap.objs.size+1) X.env)) (λx s₅=>aA (aC X.prog X.w) X.A (call (.builtin "list.append") [.ref l.heap.objs.size,x]) (λ_ s₆=>∃m,m<xs.length-i/\LI m s₆) (λ_ _=>False) s₅) NB s₄ else ∃m,m<xs.length-i/\LI m s₄) (hts _ W1 ck) I6' sr6 mr' P0 (λs7 H7 O B I7 st7 sr7 m7 p7=>?_) (λs7 H7 O B I7 st7 sr7 m7 p7=>?_)
    .rw[ep,ew,eA,ee] at G;rw[<-hNB];exact xH (λe t h=>lv e t h) G
    .rw[if_pos rfl];have E7:=sub (hel _ W1 ck) I7 sr7 m7 p7;rw[ep,ew,eA,ee] at E7;refine cX E7 (λx8 s8 h8=>?_) λe t h=>lv e t h;obtain⟨v8,H8,y8,μ8,α8,I8,r8,st8,sr8,m8,d8,p8⟩:=h8;have q8:=p8.ok (aw.refl _ _) m8 v8 d8;have acc8:=st8.keep _ _ (λz=>m7.dis _ z sC) (st7.keep _ _ nD hacc);have hyv:yV.length<=i:=dly.length▸hyl;have AP:=Zn [] s8 σ6 H8 (.ref l.heap.objs.size) [v8] (.ref l.heap.objs.size) [x8] (λ_ H9=>H9=upd H8 l.heap.objs.size (.l (yV++[v8]))) I8.unwish rfl (.cons r8 .nil) ⟨_,yV,v8,rfl,rfl,acc8,sL hyv (cz hlt (zN hroom)),rfl⟩;rw[show (Cx.pin' P S).prog=X.prog from f.pr,show (Cx.pin' P S).w=X.w from f.w,show (Cx.pin' P S).A=X.A from f.A,show (Cx.pin' P S).xe=λ_ _=>False by subst hXb;rfl] at AP;refine aF AP ?_;rintro x9 s9 ⟨v9,H9,I9,r9,rfl⟩;have inphi:l.heap.objs.size∈φ++[l.heap.objs.size]:=by simp
     have t:=(stp.trans st7).trans st8;have one:av D (φ++[l.heap.objs.size]) α8 H8 [y8] [v8]:=⟨v8,[],rfl,d8,rfl⟩;refine next (I9.wish _) ⟨t.ext,λb o n e=>?_,λb e=>t.live b ?_⟩ (m8.lk (kj inphi) (λa ha'=>⟨by rw[z6 (λz=>m8.dis a ha' (by rw[z];simp))],m8.dis a ha'⟩) (λb E=>?_)) (sr8.lk (kj inphi)) z0 ((((dly.step st7).step st8).append one).lk (kj inphi)) (by simp;lia) q8.1 (by simpa using q8.2)
     .rw[z6 (zJ e hD)];exact t.keep b o n e
     .by_cases E:b=l.heap.objs.size
      .rw[E,z0] at e;exact w6 e
      .rw[z6 E] at e;exact e
     .by_cases hb':b=l.heap.objs.size
      .rw[hb',z0];exact⟨_,rfl,rfl⟩
      .rw[z6 hb'];exact m8.phi b E
    .rw[if_neg dC];exact next I7 (stp.trans st7) m7 sr7 (st7.keep _ _ nD hacc) (dly.step st7) lC (p7.ok (aw.refl _ _) m7).1 (p7.ok (aw.refl _ _) m7).2
   .have hie:i=xs.length:=by lia
    have TD:=TnD i [] s' σ' H' (λ_ _=>False) Iv (fpk fr) tni (hie▸iv.stop _ _ H' okH);rw[f.A] at TD;refine aF TD ?_;rintro r s4 ⟨rfl,I4⟩;have hdr:xs.drop i=[]:=by rw[hie];simp
    rw[hdr] at hcmi;have q4:kk yT U K0 Z0:=by
     have:kk (yT++[]) U K0 Z0:=hcmi;simpa using this
    have I5:=back I4;obtain⟨m,hm,_⟩:=I4.loc;rw[f.en] at hm;exact Kq l.heap.objs.size (l.heap.objs.size+1) s4 Q H2 H' Y yT yV U I5 st1 stp hD (zi mr1 hD) nal (((sr.step st1).lk (xt hD)).step stp) mr' hacc dly ⟨K0,Z0,q4,hk0,hz0⟩ ⟨by have:=I4.free;rw[f.en] at this;exact this,xo0.loc,xo0.nfs,xo0.new,xo0.cel,xo0.pin⟩ pn3 ⟨m,hm⟩
  .have sm:v_ H2 H3:=hH3▸ze hD;rw[hLI];refine⟨0,_,_,Q,μ1,[],[],rfl,fU _,J0,Tn.keep _ _ _ tn0 λb E o e=>old b o e,λb E=>?_,aw.new sm,?_,?_,hH3▸z0,rfl,aK _,lv1,by simpa using q0⟩
   .obtain⟨o,ho⟩:=fo b E;rw[<-hH3,z6 (b_ (bz ho))];exact (f2 b E).1
   .refine mr1.lk (uc hD sm) (λa ha=>?_) λb E=>?_
    .have na:a≠l.heap.objs.size:=λz=>nal (z▸ha);exact⟨hH3▸z6 na,λz=>(bf.mp z).elim (mr1.dis a ha) λz=>na (aT.mp z)⟩
    .rcases bf.mp E with z|z
     .obtain⟨o,e,n⟩:=mr1.phi b z;exact⟨o,sm b o e,n⟩
     .rw[aT.mp z,<-hH3,z0];exact⟨_,rfl,rfl⟩
   .exact (MB (sr.step st1) hfs).lk (uc hD sm)
 exact codeAny_compStart_list loop (cX (Tn.self _ 0 _ _ _ (Tn.keep _ _ _ tn0 λb E o e=>old b o e) loop) (λ_ _ q=>q) λ_ _ q=>q)
variable {X:Cx}{Γ:Cn}
theorem W2{β:Type}{R:β->Mem->List ak->Hp->Prop}{kk:T->Mem->RE β}{c:ak}{g d:List ak}{l f:Hp}{h:List T}{vs:List V}{e:Mem}(st:aw g l d f)(n:l c=af)(j:c∉φ)(i:au D (φ++[c]) d f e)(k:f c=aa (.l vs))(dl:av D (φ++[c]) d f h vs)(p:aq D W φ g l s R (kk (.l h) e)) :
  au D φ d f e/\aI D φ d f (.l h) (.ref c)/\aq D W φ d f s R (kk (.l h) e):=
 ⟨i.lk qt (λa k=>⟨rfl,λz=>i.dis a k (c_ _ z)⟩) λb m=>i.phi b (c_ _ m),⟨c,vs,rfl,j,λz=>i.dis _ z sC,.inl k,dl.lk qt⟩,p.step st⟩
theorem jO:Lk (φ++[s]) j u φ (j++[s]) u:=⟨λa o b c e=>⟨λz=>b (c_ _ z),λz=>(bf.mp z).elim c λz=>b (by rw[aT.mp z];simp),e⟩,λi a e=>by
 rw[cE (aO.mp e).1];exact e⟩
theorem Zi(st:aw C E s B)(v:E j=af)(k:j∉φ)(c:au D (φ++[j]) s B u)(q:B j=aa (.l vs))(dl:av D (φ++[j]) s B G vs) :
  aw C E (s++[j]) B/\au D φ (s++[j]) B (u++[.l G])/\aI D φ (s++[j]) B (.m u.length) (.ref j):=by
 have l:j∉s:=λz=>c.dis _ z sC;refine⟨?_,⟨by simp[c.len],?_,λb f=>?_,λb f=>c.phi b (c_ _ f),λi a o d g=>?_⟩,j,by rw[<-c.len,dL (aK _)];simp,rfl⟩
 .obtain⟨t,e,m⟩:=st.ext;exact⟨⟨t++[j],by rw[e];simp,λb f=>(bf.mp f).elim (m b) λz=>aT.mp z▸v⟩,st.keep,st.live⟩
 .rw[gi];exact⟨c.nd,sC,λa q b f z=>l (by rw[aT.mp f] at z;exact z▸q)⟩
 .rcases bf.mp f with h|h
  .exact λz=>c.dis b h (c_ _ z)
  .rw[aT.mp h];exact k
 .by_cases r:i<s.length
  .rw[cE r] at d;rw[cE (c.len▸r)] at g;exact (c.ob i a o d g).lk jO rfl
  .have w:=c.len;rw[dL lC] at d g;have p:i-s.length=0:=by
    by_cases z:i-s.length=0
    .exact z
    .rw[iW (by simp;lia)] at d;exact z9 d
   have n:i-u.length=0:=by lia
   rw[p] at d;rw[n] at g;(replace d:=zo d;subst d);(replace g:=zo g;subst g);exact⟨vs,q,dl.lk jO⟩
theorem Jp(C:Ck D W Γ X k)(hc:Γ.calm=ae)(ok:bY Γ.N Γ.cel tg sc)(f:y0 Γ.N (frees sc)=aa fs)(e:wB (zd tg++frees sc) tg=aa tgt)(hi:PI X tg iter (fv D W fi))(h:∀j u,Ck D u (inComp Γ tg sc) j k->PE j elt (aD D u fe))(c:∀j u,Ck D u (inComp Γ tg sc) j k->WU j D u ifs cs)(hs:∀x,iQ iter X.env x=pure x) :
  PE X (.ListComp elt [⟨tg,iter,ifs,0⟩] sc pos) (aD D W (qa (zd tg).length fs tgt fi cs fe)):=by
 rintro l s R H Q I ⟨O,T,P,S,w,A,p⟩;refine xn C hc ok f e hi h c hs I w A p ?_;rintro i C0 Y o Z M q U V n L t st G b z v m K dl a r F ⟨B,J⟩;obtain⟨E,d,a⟩:=W2 st G b m K dl a;exact⟨B,J,λg y=>⟨.ref i,M,ya L r F y,rfl,a.here E d⟩⟩
theorem We(C:Ck D W Γ X k)(hc:Γ.calm=ae)(ok:bY Γ.N Γ.cel tg sc)(h:y0 Γ.N (frees sc)=aa fs)(f:wB (zd tg++frees sc) tg=aa tgt)(hi:PI X tg iter (fv D W fi))(i:∀j u,Ck D u (inComp Γ tg sc) j k->PE j elt (aD D u fe))(e:∀j u,Ck D u (inComp Γ tg sc) j k->WU j D u ifs cs)(hs:∀x,iQ iter X.env x=pure x) :
  PE X (.ListComp elt [⟨tg,iter,ifs,0⟩] sc pos) (aD D W (vT (zd tg).length fs tgt fi cs fe)):=by
 rintro n s S H Q I ⟨P,U,R,T,y,B,p⟩;refine xn C hc ok h f hi i e hs I y B p ?_;rintro l C0 Z q H1 O r V Y o M v st J c A w m L dl a t G ⟨E,K⟩;obtain⟨b,F,d⟩:=Zi st J c m L dl;exact⟨E,K,λg z=>⟨.ref l,O,ya M t G z,rfl,a.ok b F _ d⟩⟩
theorem qi(h:Γ.look x=g)(b:g≠.bad):x∈Γ.G/\Γ.gl x=g:=by
 unfold Cn.look at h;split at h
 .rename_i a;exact⟨by simpa using a,h⟩
 .exact absurd h.symm b
theorem Zd(h:wJ iter=ae):∀x,iQ iter X.env x=pure x:=by
 intro x;cases iter<;>first|rfl|(simp[wJ] at h)
end
structure nN(D:DP)(W:XW)(φ α:List ak)(H:Hp)(E:Ends)(Q:En):Prop where
 nx:∀τ μ,Q.nx τ μ->∀α' H' σ',aw α H α' H'->au D φ α' H' μ->aH D φ α' H' τ σ'->E.nx σ' H'
 bk:∀τ μ,Q.bk τ μ->∀α' H' σ',aw α H α' H'->au D φ α' H' μ->aH D φ α' H' τ σ'->E.bk σ' H'
 ct:∀τ μ,Q.ct τ μ->∀α' H' σ',aw α H α' H'->au D φ α' H' μ->aH D φ α' H' τ σ'->E.ct σ' H'
 rt:∀t μ,Q.rt t μ->∀α' H' v,aw α H α' H'->au D φ α' H' μ->aI D φ α' H' t v->E.rt v H'
 ex:∀c fs τ μ,Q.ex c fs τ μ->∀α' H' σ' cv d,aw α H α' H'->au D φ α' H' μ->aH D φ α' H' τ σ'->iA D c fs cv->bJ D φ α' H' fs d->W cv d σ' H'
inductive ar(D:DP)(W:XW)(φ α:List ak)(H:Hp)(E:Ends)(o:bS):Prop where
 |mk (Q:En) (q:o Q) (h:nN D W φ α H E Q)
noncomputable def cZ (D:DP)(W:XW)(f:Ds):TS:=λE c H=>mx D H c λa e b d=>ar D W a e H E (f b d)
structure Sk(D:DP)(W:XW)(Γ:Cn)(X:Cx)(k:Nat):Prop extends Ck D W Γ X k where
 sto:mw X Γ.sto
 lcl:∀x∈Γ.N,Γ.cel.contains x=ag->X.env.scope.names.lookup x=aa .local
 pso:mJ (aC X.prog X.w) X.A X.env X.xe
 xmt:∀t x c,(x,c)∈Γ.cls->c<40->∀Ct Cc,D.adr t=aa Ct->X.mg x=aa (.ref Cc)->sq X.K (.ref Ct) (.ref Cc)=aa (vV t c)
section
theorem ar.step(p:ar D W φ α H E o)(st:aw α H j s):ar D W φ j s E o:=by
 obtain⟨Q,q,h1,h2,k,i,h⟩:=p;exact⟨Q,q,λe μ z b g a f=>h1 e μ z b g a (st.trans f),λe μ z b g a f=>h2 e μ z b g a (st.trans f),λe μ z b g a f=>k e μ z b g a (st.trans f),λe μ z b g a f=>i e μ z b g a (st.trans f),λc fs e μ z b g a C d f=>h c fs e μ z b g a C d (st.trans f)⟩
theorem ar.elim{C:Prop}(p:ar D W φ α H E bS.st):C:=by obtain⟨_,q,_⟩:=p;exact q.elim
theorem ar.nx(p:ar D W φ α H E (.nx B μ))(s:aw α H j z)(m:au D φ j z μ)(r:aH D φ j z B u):E.nx u z:=by
 obtain⟨Q,q,h1,_⟩:=p;exact h1 B μ q j z u s m r
theorem ar.rt(p:ar D W φ α H E (.rt t μ)){v:V}(s:aw α H j u)(m:au D φ j u μ)(r:aI D φ j u t v):E.rt v u:=by
 obtain⟨Q,q,_,_,_,h,_⟩:=p;exact h t μ q j u v s m r
theorem ar.ex{c:Nat}{b:Sl}{μ:Mem}(p:ar D W φ α H E (.ex c fs b μ)){a:Hp}(s:aw α H j a)(m:au D φ j a μ)(r:aH D φ j a b u)(ad:iA D c fs z)(x:bJ D φ j a fs d):W z d u a:=by
 obtain⟨Q,q,_,_,_,_,h⟩:=p;exact h c fs b μ q j a u z d s m r ad x
theorem ar.grd{c:Prop}(p:ar D W φ α H E (bS.grd c o)):c/\ar D W φ α H E o:=by
 obtain⟨Q,q,h⟩:=p;exact⟨q.1,Q,q.2,h⟩
theorem ar.som{o:Option j}{k:j->bS}(p:ar D W φ α H E (bS.som o k)):∃a,o=aa a/\ar D W φ α H E (k a):=by
 obtain⟨Q,⟨a,e,q⟩,h⟩:=p;exact⟨a,e,Q,q,h⟩
theorem ar.br{b:Bool}{s:bS}(p:ar D W φ α H E (bS.br b r s)):(b=ae/\ar D W φ α H E r)\/(b=ag/\ar D W φ α H E s):=by
 obtain⟨Q,q,h⟩:=p;cases b with
 |true=>exact .inl ⟨rfl,Q,q,h⟩
 |false=>exact .inr ⟨rfl,Q,q,h⟩
theorem ar.ex2{b a:Type}{P c:b->a->Prop}{r:b->a->bS}(p:ar D W φ α H E (λQ=>∃x y,P x y/\c x y/\r x y Q)):∃x y,P x y/\c x y/\ar D W φ α H E (r x y):=by
 obtain⟨Q,⟨x,y,h1,h2,q⟩,h⟩:=p;exact⟨x,y,h1,h2,Q,q,h⟩
theorem ar.ex1{a:Type}{P b:a->Prop}{r:a->bS}(p:ar D W φ α H E (λQ=>∃x,P x/\b x/\r x Q)):∃x,P x/\b x/\ar D W φ α H E (r x):=by
 obtain⟨Q,⟨x,h1,h2,q⟩,h⟩:=p;exact⟨x,h1,h2,Q,q,h⟩
theorem ar.out{kk:β->Mem->bS}(b:aH D φ α H z B)(p:ar D W φ α H E (r.out z kk)):aq D W φ α H B (λt j s u=>ar D W φ s u E (kk t j)) r:=by
 obtain⟨Q,q,h⟩:=p;exact⟨_,_,q,λa j e s u st m=>ar.step ⟨Q,e,h⟩ st,λc fs j e s u C d st m ad xd=>(h.ex c fs z j e s u B C d st m (b.step st) ad xd)⟩
theorem Lp(o:PE X a (aD D W f)):PS X (.Return (aa a) pos) (cZ D W (zf f)):=by
 rintro b s h H E I ⟨e,l,g,j,c,n,p⟩;refine HL o b s h H E I ⟨e,l,g,j,c,n,(ar.out c p).mono λt i k r st m q v d=>ar.rt q (aw.refl _ _) m d⟩
theorem MN:PS X (.Return af pos) (cZ D W VO):=by
 rintro a s b H E I ⟨d,g,e,f,h,c,p⟩;exact MI a s b H E I (ar.rt p (aw.refl _ _) c rfl)
theorem UN(hs:gX a af pos.line X.env=pure ag)(o:PE X a (aD D W f)):PS X (.Expr a pos) (cZ D W (zy f)):=by
 rintro b s h H E I ⟨e,l,g,j,c,n,p⟩;refine VZ o hs b s h H E I ⟨e,l,g,j,c,n,(ar.out c p).mono λt i k r st m q v d=>ar.nx q (aw.refl _ _) m (c.step st)⟩
theorem UI:fw X [] (cZ D W (zM [])):=by
 rintro a s b H E I ⟨e,h,f,g,c,d,p⟩;exact JO a s b H E I (ar.nx p (aw.refl _ _) d c)
theorem YN{st:aV}(h1:PS X st (cZ D W u))(h2:fw X r (cZ D W (zM fs))):fw X (st::r) (cZ D W (zM (u::fs))):=by
 rintro a s o H E I ⟨g,t,l,p,v,w,Q,q,x,k,j,i,h⟩;exact W6 h1 h2 a s o H E I ⟨g,t,l,p,v,w,_,q,λb c e d y n st m f=>⟨g,d,b,c,f,m,ar.step ⟨Q,e,x,k,j,i,h⟩ st⟩,k,j,i,h⟩
noncomputable def y6 (X:Cx)(D:DP)(W:XW):List aV->List Ds->Prop
 |[],[]=>True
 |e::a,f::fs=>PS X e (cZ D W f)/\y6 X D W a fs
 |_,_=>False
theorem qZ:∀{a:List aV}{fs:List Ds},y6 X D W a fs->fw X a (cZ D W (zM fs))
 |[],[],_=>UI
 |st::r,f::fs,h=>YN h.1 (qZ h.2)
 |[],_::_,h=>h.elim
 |_::_,[],h=>h.elim
theorem Fw{i:Dt}(hc:PT X c (dG D W i))(o:y6 X D W as us)(hb:y6 X D W bs vs):PS X (.If c as bs pos) (cZ D W (aN i us vs)):=by
 rintro e s j H E I ⟨g,l,h,k,f,n,p⟩;refine Gn hc (qZ o) (qZ hb) e s j H E I ⟨g,l,h,k,f,n,(ar.out f p).mono λb a d r st m q=>?_⟩;rcases ar.br q with⟨rfl,q⟩|⟨rfl,q⟩
 .exact⟨g,d,h,a,f.step st,m,q⟩
 .exact⟨g,d,h,a,f.step st,m,q⟩
noncomputable def gB (a:Cn)(tg:ap):Bool:=(zd tg).all λx=>!a.fz.contains x
theorem ZU(h:gB j tg=ae)(m:∀x∈zd tg,x∈j.N):∀x∈zd tg,x∈j.sto:=λx a=>fq.mpr ⟨m x a,eP.mp h x a⟩
theorem U4(C:Sk D W j X k){p0:Pos}(hi:cF j.N x=aa i)(z:gB j (.Name x p0)=ae)(hs:gX a (aa (.Name x p0)) pos.line X.env=pure ag)(B:PE X a (aD D W f)):PS X (.Assign [.Name x p0] a pos) (cZ D W (zj i f)):=by
 rintro b s l H E I ⟨g,u,h,o,c,w,p⟩;have e:=ZU z (λy A=>aT.mp A▸qN hi) x (aT.mpr rfl);exact LL (C.hN▸C.nd) (C.hN▸w5 hi) (C.sto x e).1 B hs (C.sto x e).2 b s l H E I ⟨g,u,h,o,c,w,(ar.out c p).mono λt n r F st m q v d=>(ar.nx q (aw.refl _ _) m ((c.step st).set d))⟩
set_option tactic.hygienic true in
theorem Wr:∀{c:List ap}{is:List Nat},cp N c=aa is->∀e∈c,∀x p,e=.Name x p->x∈N
 |[],_,_,e,a,_,_,_=>absurd a sC
 |e0::c,is,h,e,a,x,p,d=>by
  cases e0 with
  |Name y j=>
   simp only[cp] at h;split at h
   .rename_i i f g b;rcases bC.mp a with rfl|a
    .cases d;exact qN g
    .exact Wr b e a x p d
   .exact z9 h
  |_=>simp[cp] at h
theorem Xv(h:wB N e=aa tgt):∀x∈zd e,x∈N:=by
 intro x a;cases e with
 |Name y p=>
  simp[zd] at a;subst a;simp only[wB] at h;cases q:cF N x with
  |none=>rw[q] at h;exact z9 h
  |some i=>exact qN q
 |Tuple f g p=>
  obtain⟨e,d,q⟩:=lp.mp a;simp only[wB] at h;cases b:cp N f with
  |none=>rw[b] at h;exact z9 h
  |some j=>
   cases e with
   |Name y c=>
    cases q;exact Wr b _ d x c rfl
   |_=>exact z9 q
 |_=>simp[zd] at a
theorem C7(C:Sk D W G X k)(hc:X.calm=ae)(ht:wB G.N tg=aa tgt)(e:gB G tg=ae):PG X tg (λv E H Q=>∃φ α B t z,aH D φ α H B E/\aI D φ α H t v/\f6 tgt t B=aa z/\∀j,aH D φ α H z j->Q j H):=by
 rintro b s E H v u Q I r ⟨φ,α,B,t,z,c,d,f,q⟩;refine aF (Vz C.hN C.nd C.sto hc (ZU e (Xv ht)) ht f I c d r) ?_;rintro _ h ⟨j,g,a⟩;exact⟨j,H,g,q j a⟩
noncomputable def yw:ap->Bool
 |.Call _ _ _ _=>ae
 |.Name _ _=>ae
 |.Subscript _ _ _=>ae
 |.Attribute _ _ _=>ae
 |_=>ag
theorem Hb(C:Sk D W j X k)(hc:j.calm=ae){c:List ap}(r:yw a=ae)(F:cp j.N c=aa is)(B:gB j (.Tuple c kk p0)=ae)(G:PE X a (aD D W f)):PS X (.Assign [.Tuple c kk p0] a pos) (cZ D W (Wt is f)):=by
 rintro b s w H E I ⟨n,z,o,y,l,A,p⟩;have K:rO [.Tuple c kk p0] a pos.line X.env=pure ag:=by cases a<;>first|(simp at r;done)|rfl
 have J:rN [.Tuple c kk p0] a X.env=pure af:=by cases a<;>first|(simp[yw] at r;done)|rfl
 refine U1 G (C7 C (C.clm hc) (tgt:=.t is) (by simp[wB,F]) B) K J rfl b s w H E I ⟨n,z,o,y,l,A,(ar.out l p).mono λt x g L st m q v d=>?_⟩;obtain⟨e,h,q⟩:=ar.som q;exact⟨n,g,o,t,e,l.step st,d,h,λu i=>ar.nx q (aw.refl _ _) m i⟩
set_option tactic.hygienic true in
theorem Hl(C:Sk D W U X k){p1:Pos}(Z:(x,n)∈U.fld)(ha:PE X a (aD D W f))(ho:PE X o (aD D W go)) :
  PS X (.Assign [.Attribute o x p1] a pos) (cZ D W (zK go n f)):=by
 rintro l s O H E I ⟨F,R,G,Q,z,T,p⟩;have Y:gX a (aa (.Attribute o x p1)) pos.line X.env=pure ag:=by cases a<;>rfl
 refine L0 ho ha Y l s O H E I ⟨F,R,G,Q,z,T,(ar.out z p).mono λt r u H1 w V q v d=>?_⟩;have e:=z.step w;refine⟨F,u,G,r,e,V,(ar.out e q).mono λot P g N h J j ov dv=>?_⟩;split at j;case h_2=>exact ar.elim j
 rename_i i;obtain⟨c,fs,m,hl,j⟩:=ar.ex2 j;obtain⟨y,A,rfl⟩:=dv;obtain⟨C0,B,L,ad,K,M⟩:=J.ob i y _ A m;obtain⟨fx,cl,S⟩:=C.fld c C0 x n ad Z;refine⟨y,C0,B,L,rfl,K,cl,S,by rw[<-M.length];lia,?_⟩;have b:aw g N g (upd N y (.ins C0 B (vb x v L))):=aw.turn (aS A) ⟨_,K⟩;exact ar.nx j b (J.turn A ((aO.mp m).1) b ⟨C0,B,_,ad,z0,aY.put fx (M.step b) ((d.step h).step b)⟩) ((e.step h).step b)
theorem gx:tL X (λo i v H Q=>∃l k xs,o=.ref l/\i=.int k/\H l=aa (.l xs)/\0<=k/\k<xs.length/\k<9223372036854775808/\Q (upd H l (.l (xs.set k.toNat v)))):=by
 intro a s x H o i v y A u Q I d f c h;obtain⟨l,k,xs,rfl,rfl,b,w,p,m,q⟩:=h;subst d;obtain⟨t,rfl⟩:=f;obtain⟨z,g,n,r,j,e⟩:=I.lstM b;refine PySem.W.ki_setAt e w (by simpa using m) (cN▸j▸p) ?_;exact⟨_,I.lset b e sC (aE.set c _ r) (by rw[lX];exact z),q⟩
theorem Lc(C:Sk D W Γ X k)(hc:Γ.calm=ae)(ht:wB Γ.N tg=aa tgt)(hz:gB Γ tg=ae){body:List aV}{vs:List Ds}(hi:PI X tg iter (fv D W fi))(hb:y6 X D W body vs)(hs:∀x,iQ iter X.env x=pure x) :
  PS X (.For tg iter body [] pos) (cZ D W (vM tgt fi vs)):=by
 rintro pins s σ H E I ⟨F,α,Z,μ,sr,mr,p⟩;refine LJ C.pso (C.clm hc) hi (C7 C (C.clm hc) ht hz) (qZ hb) hs pins s σ H E I ⟨F,α,Z,μ,sr,mr,(ar.out sr (show ar D W F α H E ((fi Z μ).re.out Z λpr L=>eI tgt (zM vs) pr.2 pr.1 Z L) from p)).mono λpr L O H1 st1 m1 q J Ok iv okk lv1=>?_⟩;obtain⟨xs,o⟩:=pr;obtain⟨Q,q,h1,h2,h3,h4,h5⟩:=q;refine⟨λi m G B=>m=xs.length-i/\i<=xs.length/\∃h r l,aw O H1 h B/\au D F h B l/\aH D F h B r G/\o l/\eI tgt (zM vs) o (xs.drop i) r l Q,⟨xs.length,sC,fU _,O,Z,L,aw.refl _ _,m1,sr.step st1,lv1,by simpa using q⟩,?_⟩;rintro i m G B ⟨rfl,hi',h,r,l,f,w,z,lv',T⟩;have P:=okk _ h B l f.lk w lv';by_cases R:i<xs.length
 .refine .inr ⟨iv.go i _ _ B P R,λσ2 U=>∃M Y K,aw O H1 M U/\au D F M U K/\aH D F M U Y σ2/\o K/\eI tgt (zM vs) o (xs.drop (i+1)) Y K Q,λσ2 U h2=>⟨xs.length-(i+1),by omega,rfl,R,h2⟩,λx U y=>?_⟩;obtain⟨sm,dx⟩:=iv.yld i _ _ B x U xs[i] P sC y;have f:=f.trans (aw.new sm);have z:=z.step (aw.new sm);have w:=w.new sm;rw[BS R] at T;obtain⟨V,ha,T⟩:=T;refine⟨F,h,r,xs[i],V,z,dx,ha,λσ3 sr3=>⟨F,h,V,l,sr3,w,_,T,?_,?_,?_,?_,?_⟩⟩
  .exact λj a e b S u g A n=>⟨b,j,a,f.trans g,A,n,e⟩
  .exact λj a e b S u g A n=>h1 j a e b S u (f.trans g) A n
  .exact λj a e b S u g A n=>⟨b,j,a,f.trans g,A,n,e⟩
  .exact λt a e b S v g A d4=>h4 t a e b S v (f.trans g) A d4
  .exact λc fs j a e b S u Cc d g A n=>h5 c fs j a e b S u Cc d (f.trans g) A n
 .have hie:i=xs.length:=by omega
  rw[hie,List.drop_length] at T;exact .inl ⟨hie▸iv.stop _ _ B P,h1 r l T h B G f w z⟩
theorem X_(C:Sk D W Γ X k){body:List aV}(hc:PT X c (dG D W ft))(hb:y6 X D W body vs):PS X (.While c body [] pos) (cZ D W (ZP ft vs)):=by
 rintro K s σ H E I ⟨F,O,Z,μ,sr,mr,Q,⟨J,⟨N,hN⟩,hJ⟩,Y,h2,h3,S,V⟩;refine XU C.pso hc (qZ hb) K s σ H E I ⟨λm w M=>∃u i r,aw O H u M/\au D F u M r/\aH D F u M i w/\J m i r,⟨N,O,Z,μ,aw.refl _ _,mr,sr,hN⟩,?_⟩;rintro m w M ⟨u,i,r,B,P,z,pf⟩;refine⟨F,u,i,r,z,P,_,_,hJ m i r pf,λb x e y T n L=>?_,λc fs x e y T U d n L ad xd=>V c fs i x e y T w U d (B.trans n) L (z.step n) ad xd⟩;cases b with
 |false=>exact Y i x e y T w (B.trans n) L (z.step n)
 |true=>
  have G:=B.trans n;refine⟨λl p=>∃j,j<m/\∃a g f,aw O H a p/\au D F a p f/\aH D F a p g l/\J j g f,λl p S=>S,F,y,i,x,z.step n,L,_,e,?_,?_,?_,?_,?_⟩
  .exact λg f ⟨j,R,q⟩ a p l h A o=>⟨j,R,a,g,f,G.trans h,A,o,q⟩
  .exact λg f e a p l h A o=>Y g f e a p l (G.trans h) A o
  .exact λg f ⟨j,R,q⟩ a p l h A o=>⟨j,R,a,g,f,G.trans h,A,o,q⟩
  .exact λt f e a p v h A d4=>S t f e a p v (G.trans h) A d4
  .exact λc fs g f e a p l U d h A o=>V c fs g f e a p l U d (G.trans h) A o
theorem UH{pos:Pos}(C:Sk D W j X k)(hc:j.calm=ae){tg iter elt:ap}{fi:Di}{ifs:List ap}{fe:De}{x:ao}{P:Nat}{p0 p1:Pos}(G:cF j.N x=aa P)(hz:gB j (.Name x p0)=ae)(ok:bY j.N j.cel tg sc)(hfs:y0 j.N (frees sc)=aa fs)(htg:wB (zd tg++frees sc) tg=aa tgt)(hi:PI X tg iter (fv D W fi))(hel:∀M Q,Ck D Q (inComp j tg sc) M k->PE M elt (aD D Q fe))(hts:∀M Q,Ck D Q (inComp j tg sc) M k->WU M D Q ifs cs)(hs:∀x,iQ iter X.env x=pure x)
  (own:Bool) (hsw:gX (.ListComp elt [⟨tg,iter,ifs,0⟩] sc p1) (aa (.Name x p0)) pos.line X.env=pure ae) :
  PS X (.Assign [.Name x p0] (.ListComp elt [⟨tg,iter,ifs,0⟩] sc p1) pos) (cZ D W (zj P (match own with|true=>vT (zd tg).length fs tgt fi cs fe|false=>qa (zd tg).length fs tgt fi cs fe))):=by
 rintro i s σ H E I ⟨R,α,τ,o,sr,mr,p⟩;rw[exec_Assign_Name_used _ _ _ _ hsw];refine ay (fS (ay ?_));refine ay (aF (xn (kk:=λS o=>match own with|true=>RE.ok (T.m o.length) (o++[MO.l S])|false=>RE.ok (T.l S) o) C.toCk hc ok hfs htg hi hel hts hs I sr mr (ar.out sr (by cases own<;>exact p)) ?_) λ_ Z hq=>aU (aU hq));rintro L C0 Z α1 H1 h α' S vs r I' st1 st hn B nal u m ha dl c O hp ⟨mm,hm⟩;obtain⟨oc,es,ep,hoc,J,l⟩:=hm;have I2:Inv X (i++[(C0,oc)]) σ h Z:=I'.pins_of λp n=>(bf.mp n).elim (λz=>I'.pin p (cD _ z)) λz=>by
  rw[aT.mp z];exact⟨hoc,O.free,O.loc,O.nfs,λv e=>by rw[J] at e;injection e⟩
 have K:∀{b:List ak}{t:T}{μ2:Mem},aH D R b h τ σ->aI D R b h t (.ref L)->(∀a,aH D R b h (yN τ P (aa t)) a->E.nx a h)->aA (aC X.prog X.w) X.A (hX (.Name x p0) X.env (.ref L)) (λ_ U=>∃m,U.heap.Ns C0 m/\∀g,eT C0 U.heap g->∃a h,Inv X i a h {U with heap:=g}/\E.nx a h) X.xe Z:=λ{b t μ2} Y d q=>by
  refine aF (Vz (tgt:=.one P) C.hN C.nd C.sto (C.clm hc) (ZU hz λy hy=>aT.mp hy▸(qN G)) (by simp[wB,G]) rfl I2 Y d rfl) ?_;rintro _ s2 ⟨a,I3,f⟩;exact⟨mm,⟨oc,es,ep,((I3.pin (C0,oc) (cD _ (cD _ (aT.mpr rfl)))).1),J,l⟩,λg sb=>⟨a,h,(ya (I3.pins_of λp n=>I3.pin p (cD _ (c_ _ n))) O hp sb),q a f⟩⟩
 cases own with
 |false=>
  obtain⟨F,d,c⟩:=W2 (kk:=λt o=>RE.ok t o) st hn B m ha dl c;exact K (μ2:=r) (u.lk qt) d λa f=>ar.nx (c.ok (aw.refl _ _) F) (aw.refl _ _) F f
 |true=>
  obtain⟨V,F,d⟩:=Zi st hn B m ha dl;exact K (μ2:=r) (u.lk jO) d λa f=>ar.nx (c.ok V F) (aw.refl _ _) F f
end
noncomputable def F4(C:ak)(h:aG):Prop:=∃tl N nm q bs hd c sub j a dd i g f e d b,h.get? C=aa (g5 nm q C N bs tl hd c sub j a dd i g f e d "ValueError.__new__")/\h.Ns N b/\b "__init__"=af/\lO h qU tl
set_option tactic.hygienic true in
theorem QH {K:bc}{h:aG}{C:ak}(kin:K.In h) (e:lR K C qU "ValueError.__new__"=ae):F4 C h:=by
 simp only[lR] at e;revert e;cases t:K.lookup C with
 |none=>intro e;injection e
 |some o=>
  intro e;split at e;case h_2=>injection e
  rename_i dd cd d b;(replace b:=zo b;subst b);split at e;case h_2=>injection e
  rename_i B tl l k j i n g s m;simp only[bW,beq_iff_eq,l5] at e;obtain⟨⟨⟨⟨⟨y,x⟩,w⟩,v⟩,p⟩,u⟩:=e;cases cd;rename_i nm bs mro f r hd q sub A c z;cases y;subst x;subst s;subst w;have a:d=#[l,k,j,i,aa (.builtin "ValueError.__new__"),g]:=by
   cases d;simp only at m;rw[m]
  subst a;exact⟨tl,f,nm,r,bs,hd,q,sub,A,c,dd,l,k,j,i,g,h.nsMap f,kin _ _ t,.of_isNs (sK kin p),PySem.W.nsMap_none_of_in kin p u,PySem.W.tail_of_in kin v⟩
section
theorem Kz{i:Nat}{x:ao}{m:ao->Option ai}{h':aG}{u:Option ai}{tk:Nat}(I:Inv X B C H s)(hN:X.N.Nodup)(hi:X.N[i]?=aa x)
  (J:∀(i:Nat) (x:ao) (v:V),X.N[i]?=aa x->C[i]?=aa (aa v)->gL X.env.scope x->∃u,RelV v u/\Look X.env s.heap m x u)
  (G:h'.Ns X.env.locals λy=>if y=x then u else m y) (hs:eT X.env.locals s.heap h'):Inv X B (C.set i af) H {s with heap:=h',toks:=tk}:=by
 have cne:=I.cne;have low:∀b o,X.s₀.heap.get? b=aa o->b≠X.env.locals:=λb o e=>b_ (cz (bz e) I.ok.above);refine⟨I.ok,I.os,I.bare,⟨λb o e n t g=>?_,λb o e n t g=>?_,I.base.free,λb o e g=>?_,I.base.tups,I.base.frzs,I.base.tbls⟩,⟨_,G,λj y v f a K=>?_⟩,λy c e=>?_,I.free,I.freeC,λp F=>?_,λb ob e=>?_,by simpa using I.len⟩
 .exact (hs.2 b (low b o e)).trans (I.base.keep b o e n t g)
 .obtain⟨A,f⟩:=I.base.slot b o e n t g;exact⟨A,(hs.2 b (low b o e)).trans f⟩
 .obtain⟨D,f⟩:=I.base.there b o e g;exact⟨D,(hs.2 b (low b o e)).trans f⟩
 .by_cases l:j=i
  .subst l;rw[sT] at a;cases q:C[j]? with
   |none=>rw[q] at a;exact z9 a
   |some w=>rw[q] at a;cases a
  .rw[aX (bd l)] at a;obtain⟨w,r,q⟩:=J j y v f a K;refine⟨w,r,?_⟩;rcases q with⟨k,e⟩|⟨k,c,e,z⟩
   .have:y≠x:=λz=>l (kf hN f (z▸hi));exact .inl ⟨k,by simp[this,e]⟩
   .exact .inr ⟨k,c,e,z.sameBut hs (cne y c e)⟩
 .obtain⟨w,z⟩:=I.cell y c e;exact⟨w,z.sameBut hs (cne y c e)⟩
 .obtain⟨e,n,ne,E,d⟩:=I.pin p F;exact⟨(hs.2 p.1 ne).trans e,n,ne,E,d⟩
 .refine (I.hok b ob e).stay (λc w h q=>(hs.2 c ?_).trans q) (λ_ q=>q) λ_ _ q=>q;rintro rfl;rcases h with rfl|h
  .rw[I.free] at e;exact z9 e
  .rw[I.free] at h;exact z9 h
theorem Ki{x C:ak}{d:Option ak}(I:Inv X j B H s)(a:c7 X H x)(F:∀p∈j,p.1≠x)(A:ZX x C d s.heap):Inv X j B (upd H x (.ext (ZX x C d))) s:=by
 have ne:∀b,H b≠af->b≠x:=λb h z=>h (z▸a.free);refine⟨I.ok,I.os,I.bare,⟨I.base.keep,I.base.slot,λb o e n g=>?_,I.base.there,λb xs e=>?_,λb o u e=>?_,λb D e=>?_⟩,I.loc,I.cell,?_,λy c e=>?_,λp i=>?_,λb ob e=>?_,I.len⟩
 .have:b≠x:=λz=>by
   rcases a.new with q|q
   .exact g (z▸q)
   .rw[<-z,e] at q;exact w6 q
  rw[z6 this];exact I.base.free b o e n g
 .have q:=I.base.tups b xs e;rw[z6 (ne b (by rw[q];simp))];exact q
 .have q:=I.base.frzs b o u e;rw[z6 (ne b (by rw[q];simp))];exact q
 .obtain⟨f,q⟩:=I.base.tbls b D e;exact⟨f,(z6 (ne b (by rw[q];simp)))▸q⟩
 .rw[z6 (bd a.loc)];exact I.free
 .rw[z6 (a.cel y c e)];exact I.freeC y c e
 .obtain⟨e,n,r⟩:=I.pin p i;have:=(bf.mp i).elim (a.pin p) (F p);exact⟨e,z6 this▸n,r⟩
 .by_cases z:b=x
  .subst z;rw[z0] at e;(replace e:=zo e;subst e);obtain⟨E,J,G,K⟩:=id A;refine⟨A,⟨E,G⟩,λM L p k=>?_⟩;obtain⟨m,l,v,t⟩:=p;exact⟨m,l,k _ v,t⟩
  .rw[z6 z] at e;have w:∀c o,H c=aa o->upd H x (.ext (ZX x C d)) c=aa o:=λc o q=>(z6 (ne c (by rw[q];simp)))▸q;exact (I.hok b ob e).stay (λ_ _ _ q=>q) (λc q=>w c _ q) λc xs q=>w c _ q
theorem XH(C:Sk D W z X k)(hc:z.calm=ae){x:ao}{n:Nat}{p0 p1:Pos}(B:x∈z.G)(hg:z.gl x=.xcl n)(T:cH X D W (a::es) fs) :
  PS X (.Raise (aa (.Call (.Name x p0) (a::es) [] p1)) af pos) (cZ D W (zE n fs)):=by
 rintro j s O H E I ⟨h,P,t,U,A,mr,p⟩;have q:=C.glo x B;rw[hg] at q;obtain⟨C0,ad,hm,L⟩:=q;have K:=T.stars;obtain⟨tl,N,nm,R,bs,hd,sn,sub,ab,col,dd,k0,k1,k2,k3,k5,mN,Z,Y,V,S⟩:=QH I.ok.mod.kin L;refine wpAny_Raise_call_subT (nm:=nm) (q:=R) (N:=N) (bs:=bs) (hdct:=hd) (sn:=sn) (sub:=sub) (ab:=ab) (col:=col) (dd:=dd) (k0:=k0) (k1:=k1) (k2:=k2) (k3:=k3) (k5:=k5) nj (S.hasType nj.hasBase) (I.ok.hd (C.clm hc)) (qz K) V (q_ I (C.glb x B) hm ⟨rfl,?_⟩ (C.dbG x B));have J:az a=ae:=by simp only[iM,bW] at K;exact K.1
 have Q:=aF (vD T p1 j s O H (λw g=>∃i c b,aw P H b g/\aH D h b g t O/\au D h b g c/\av D h b g i w/\ar D W h b g E (.grd (i.length<=aB) (.ex n [] t c))) I ⟨h,P,t,U,A,mr,(ar.out A p).mono λi u v H' st m q w d _=>⟨i,u,v,st,A.step st,m,d,q⟩⟩) (Q':=λl f=>l.length<=sizeLine/\f.heap.get? C0=aa (g5 nm R C0 N bs tl hd sn sub ab col dd k0 k1 k2 k3 k5 "ValueError.__new__")/\f.heap.Ns N mN/\lO f.heap qU tl/\∀M e,oK f.heap M e (.ref C0) l->X.xe (.ref e) {f with heap:=M}) ?_
 .rw[z7 J] at Q ⊢;exact ng (aF Q λl f h1=>⟨rfl,h1⟩)
 .rintro l f ⟨w,g,o,r,i,c,b,st,y,m1,dl,q⟩;obtain⟨hl,q⟩:=ar.grd q;refine⟨?_,o.bk _ _ Z,Y.keeps o.bk,S.keeps o.bk,λM e mk=>?_⟩
  .have e1:=dl.length;have e2:=r.length;have:=zN hl;rw[<-e2,<-e1];exact this
  .exact C.xe _ _ (ML o mk (ar.ex q (aw.refl _ _) m1 y ⟨C0,ad,rfl⟩ rfl))
theorem dR.at{h:aG}{x T C:ak}{a:List (Nat×NH.T)}{d:Option ak}{fl:ai}(t:dR h x T (pP a C) d fl):ZX x C d h:=by
 obtain⟨b,vs,a0,f,ts,h1,⟨h2,e⟩,c,_⟩:=t;exact⟨b,vs,h1,h2.trans JK,c,e⟩
theorem dR.ty{M:Model}{h:aG}{x T:ak}{cls:ai}{d:Option ak}{fl:ai}(t:dR h x T cls d fl):rc M h (typeOf (.ref x)) (stC cls):=by
 obtain⟨a,vs,a0,b,ts,h1,⟨h2,e⟩,c,_⟩:=t;exact h2▸(DY h1).andThen .now
noncomputable def iC (a:Cn)(x:ao)(c:Nat):Prop:=x∈a.G/\(x,c)∈a.cls/\((∃f,a.gl x=.xcf c f)\/a.gl x=.xcl c)/\c<40
noncomputable def Cr (a:Cn):Option ao->Option Nat->Prop
 |none,af=>True
 |some e,aa j=>cF a.N e=aa j/\a.cel.contains e=ag
 |_,_=>False
noncomputable def Cf (a:Cn)(t:ap)(cs:List Nat):Prop:=∃x p c,t=.Name x p/\cs=[c]/\iC a x c
noncomputable def jk (D:DP)(b:Cn)(k:Nat):List l3->List (List Nat×Option Nat×List Ds)->Prop
 |[],[]=>True
 |h::j,g::r=>(∃t nm d a f cs i c,h=.ExceptHandler (aa t) nm (d::a) f/\g=(cs,i,c)/\Cf b t cs/\Cr b nm i/\∀e,Sk D nF {b with calm:=ag} e k->y6 e D nF (d::a) c)/\jk D b k j r
 |_,_=>False
theorem iC.mg(C:Sk D W s X k){x:ao}{c:Nat}(h:iC s x c):∃j,X.mg x=aa (.ref j)/\D.adr c=aa j:=by
 have q:=C.glo x h.1;rcases h.2.2.1 with⟨f,g⟩|g
 .rw[g] at q;obtain⟨j,ad,a⟩:=q;exact⟨j,a,ad⟩
 .rw[g] at q;obtain⟨j,ad,a,_⟩:=q;exact⟨j,a,ad⟩
theorem Mp(C:Sk D W z X k){x:ak}{f:ai}{kk:Nat}{b:List (Nat×T)}{t:ap}{cs:List Nat}{s:aJ}{g:St}{H:Hp}{Q:Bool->aJ->Prop}{E F:ai->aJ->Prop}(ad:iA D kk b f)(ht:Cf z t cs)(I:Inv (Cx.han (Cx.pin' X u) x) [] g H s)(ty:rc (aC X.prog X.w) s.heap (typeOf (.ref x)) (stC f))
  (q:Q (cQ kk cs) s):aA (aC X.prog X.w) (X.A.mark (aa (.ref x))) (eval t X.env) (λc j=>aA (aC X.prog X.w) (X.A.mark (aa (.ref x))) (excMatches (.ref x) c) Q E j) F s:=by
 obtain⟨y,p,c,rfl,rfl,a⟩:=ht;obtain⟨i,d,h⟩:=a.mg C;obtain⟨Ck,ad,rfl⟩:=ad;refine q_ I (C.glb y a.1) d ((PySem.W.exm_one I.kIn ty (JK▸C.xmt kk y c a.2.1 a.2.2.2 Ck i ad d)).at ?_) (C.dbG y a.1);have e:cQ kk [c]=vV kk c:=by
  rw[y_];show ms _ ag=_;cases vV kk c<;>rfl
 rw[e] at q;exact q
theorem YS(C:Sk D W Γ X k){x Tt:ak}{cv:ai}{d:Option ak}{kk:Nat}{R:List (Nat×T)}(ad:iA D kk R cv):∀{hs:List l3}{r:List (List Nat×Option Nat×List Ds)}{s1:aJ}{I:St}{B:Hp}{c:List ak}{H:Sl}{G:Mem},jk D Γ k hs r->Inv (Cx.pin' X u) [] I B s1->c7 (Cx.pin' X u) B x->c7 (Cx.pin' X u) B Tt->dR s1.heap x Tt cv d .none->
  bJ D φ c B R d->au D φ c B G->aH D φ c B H I->ar D W φ c B E (tI r kk R H G)->aA (aC X.prog X.w) X.A (handleBy (.ref x) X.env hs) (SP X u E) X.xe s1
 |[],[],s1,I,B,c,H,G,_,Y,K,oT,tr,xd,m1,J,p=>by
  obtain⟨e0,out,L,F⟩:=C.frm;refine wpAny_handleBy_nil ?_;obtain⟨oe,vs',a0,oT',ts,ho,hcc,hd,hv0,hv1,hT,hoT,hdT,h3,_⟩:=id tr;refine ay (f9 ho hd hv1 ?_);have go:∀{t2:aJ},XP X W (.ref x) t2->aA (aC X.prog X.w) X.A (throw (cG x)) (SP X u E) X.xe t2:=λ{t2} xp=>wpAny_throw (C.xe _ _ xp);have un:∀b,c7 (Cx.pin' X u) B b->c7 X B b:=λb o=>⟨o.free,o.loc,o.nfs,o.new,o.cel,λp hp=>o.pin p (c_ _ hp)⟩;have O:aA (aC X.prog X.w) X.A (mI (.ref x) X.env.frame) (λ_ t2=>XP X W (.ref x) t2) X.xe s1:=by
   refine qI ((zS Y).pins_of λp hp=>absurd hp sC) (un x K) (un Tt oT) tr λh4 I4 tr4=>⟨x,cv,d,I,B,aa Tt,cI L,rfl,I4,un x K,λt ht=>?_,?_,.inr ⟨L,F.fe,rfl⟩,ar.ex p (aw.refl _ _) m1 J ad xd⟩
   .have:t=Tt:=by simpa using ht
    rw[this];exact un Tt oT
   .rw[F.fe] at tr4;exact tr4
  first
   |exact ay (aF O λ_ t2 xp=>go xp)
   |exact ay (aU (ay (aF O λ_ t2 xp=>go xp)))
 |[],_::_,_,_,_,_,_,_,h,_,_,_,_,_,_,_,_=>h.elim
 |_::_,[],_,_,_,_,_,_,h,_,_,_,_,_,_,_,_=>h.elim
 |hd::hs',g::r',s1,I,B,c,H,G,h,Y,K,oT,tr,xd,m1,J,p=>by
   obtain⟨⟨t,nm,b0,suite',pp,cs,i,vs,rfl,rfl,ht,hnm,hsu⟩,hrest⟩:=h;refine wpAny_handleBy_cons (codeAny_handlers_test (Mp C ad ht (ZZ Y) (dR.ty tr) ?_)) (λq=>by injection q);rcases ar.br p with⟨hb,p⟩|⟨hb,p⟩
   .rw[hb];obtain⟨Q,q,h1,h2,h3,h4,h5⟩:=p;have C2:∀{X':Cx},X'=Cx.han (Cx.pin' X u) x->Sk D nF {Γ with calm:=ag} X' k:=λ{X'} hX'=>by
     subst hX';obtain⟨e0,out,L,F⟩:=C.frm;exact {hK:=C.hK,hN:=C.hN,nd:=C.nd,vis:=C.vis,dbg:=C.dbg,dbG:=C.dbG,glb:=C.glb,glo:=C.glo,glU:=C.glU,cel:=C.cel,isi:=C.isi,fld:=C.fld,xcx:=C.xcx,ocx:=C.ocx,clv:=C.clv,clm:=(λz=>by injection z),rom:=(λz=>by injection z),rmh:=⟨C.rmh.dp,C.rmh.un⟩,xe:=(λe s p=>by obtain⟨_,_,_,_,_,_,_,_,_,_,_,_,_,z⟩:=p;exact z),frm:=⟨e0,out,L,F.stk,F.f0,F.fe⟩,lam:=C.lam,kfz:=C.kfz,sto:=C.sto,lcl:=C.lcl,pso:=PassesOwn.never,xmt:=C.xmt}
    have okX:=QM Y.ok;cases nm with
    |none=>
     cases i with
     |some j=>exact cW hnm
     |none=>
      refine codeAny_handlers_suite (qI Y K oT tr λh3' I3 tr3=>cX (qZ (hsu _ (C2 rfl)) [] _ _ _ {nx:=E.nx,rt:=E.rt} (ZZ I3) ⟨φ,c,H,G,J,m1,_,q,h1,(λ_ _ z=>z.elim),(λ_ _ z=>z.elim),h4,(λ_ _ _ _ z=>z.elim)⟩) (λf s6 V=>?_) (λ_ _ z=>z.elim));cases f with
      |next=>obtain⟨a,l,P,n⟩:=V;exact⟨a,l,zS (kT Y.ok P),n⟩
      |brk=>obtain⟨a,l,P,n⟩:=V;exact n.elim
      |cont=>obtain⟨a,l,P,n⟩:=V;exact n.elim
      |ret w=>obtain⟨y,a,l,P,r,n⟩:=V;exact⟨y,a,l,zS (kT Y.ok P),r,n⟩
    |some e=>
     cases i with
     |none=>exact cW hnm
     |some j=>
      obtain⟨Z,hce⟩:=hnm;obtain⟨Ck,adk,ecv⟩:=ad;subst ecv;refine codeAny_handlers_suite_as (qI Y K oT tr λh3' I3 tr3=>?_);have U:aw c B c (upd B x (.ext (ZX x Ck d))):=aw.new (ze K.free);have M:=C.lcl e (qN Z) hce;have hNd:X.N.Nodup:=C.hN▸C.nd;have hNi:X.N[j]?=aa e:=C.hN▸w5 Z;refine uy (X:=Cx.han (Cx.pin' X u) x) (v:=.ref x) (ZZ (Ki I3 K (λp hp=>absurd hp sC) (dR.at tr3))) hNd hNi (.inl M) rfl (λs5 I5=>?_) (.inr M);have den:aI D φ c (upd B x (.ext (ZX x Ck d))) (.exc kk R) (.ref x):=⟨x,Ck,d,rfl,zi m1 K.free,zh m1 K.free,adk,z0,by cases d<;>exact (xd.lk (U.lk))⟩;have S:=qZ (hsu _ (C2 rfl)) [] s5 _ _ {nx:=λa l=>E.nx (a.set j af) l,rt:=E.rt} I5 ⟨φ,c,_,G,((J.step U).set den),(m1.new (ze (o:=HO.ext (ZX x Ck d)) K.free)),_,q,(λτ2 μ2 z α' l a st m r=>h1 _ μ2 z α' l _ (U.trans st) m r.unset),(λ_ _ z=>z.elim),(λ_ _ z=>z.elim),(λt μ2 z α' l v st m dd=>h4 t μ2 z α' l v (U.trans st) m dd),(λ_ _ _ _ z=>z.elim)⟩;have hkf:(X.env.scope.kind==.class || (X.env.scope.kind==.module&&X.env.locals != X.env.globals))=ag:=by rw[okX.kind];rfl
      refine cX S (λf s6 V=>?_) (λ_ _ z=>z.elim);have O:∀{σ6 H6},Inv (Cx.han (Cx.pin' X u) x) [] σ6 H6 s6->(∀s7,Inv X u (σ6.set j af) H6 s7->SP X u E f s7)->aA (aC X.prog X.w) X.A (do bindName X.env e .none;unbindBehindTheSuite X.env e pp) (λ_ s7=>SP X u E f s7) X.xe s6:=λ{σ6 H6} I6 q=>by
       have I7:=zS (kT (Yc okX) I6);obtain⟨m,hn,hl⟩:=I7.loc;exact wpAny_nameGoes_keeps M hn hkf λh7 u7 hn7 hs7=>q _ (Kz I7 hNd hNi hl hn7 hs7)
      cases f with
      |next=>obtain⟨a,l,P,n⟩:=V;exact O P λs7 I7=>⟨_,l,I7,n⟩
      |brk=>obtain⟨a,l,P,n⟩:=V;exact n.elim
      |cont=>obtain⟨a,l,P,n⟩:=V;exact n.elim
      |ret w=>obtain⟨y,a,l,P,r,n⟩:=V;exact O P λs7 I7=>⟨y,_,l,I7,r,n⟩
   .rw[hb];exact YS C ad hrest Y K oT tr xd m1 J p
theorem LZ(C:Sk D W u X k)(hc:u.calm=ae){body:List aV}{us:List Ds}{h0:l3}{hs:List l3}{r:List (List Nat×Option Nat×List Ds)}(hb:∀Y W',Sk D W' u Y k->y6 Y D W' body us)(hh:jk D u k (h0::hs) r) :
  PS X (.Try body (h0::hs) [] [] pos) (cZ D W (tD us r)):=by
 rintro b s σ H E I ⟨o,M,Z,μ,sr,mr,Q,q,j,U,T,S,h5⟩;obtain⟨e0,out,L,F⟩:=C.frm;have V:iF (Cx.pin' X b) e0 out L:=⟨F.stk,F.f0,F.fe⟩;generalize R:(λ(cls:ai) (d:Option ak) (a:St) (c:Hp)=>∃n fs g h i,tI r n fs g h Q/\iA D n fs cls/\aw M H i c/\au D o i c h/\aH D o i c g a/\bJ D o i c fs d:XW)=K;have C1:Sk D K u ((Cx.pin' X b).wish (XP (Cx.pin' X b) K)) k:={hK:=C.hK,hN:=C.hN,nd:=C.nd,vis:=C.vis,dbg:=C.dbg,dbG:=C.dbG,glb:=C.glb,glo:=C.glo,glU:=C.glU,cel:=C.cel,isi:=C.isi,fld:=C.fld,xcx:=C.xcx,ocx:=C.ocx,clv:=C.clv,clm:=C.clm,rom:=C.rom,rmh:=⟨C.rmh.dp,C.rmh.un⟩,xe:=λe s p=>jc p,frm:=⟨e0,out,L,F.stk,F.f0,F.fe⟩,lam:=C.lam,kfz:=C.kfz,sto:=C.sto,lcl:=C.lcl,pso:=xc V I.ok.frames,xmt:=C.xmt};have B:=qZ (hb _ K C1) [] s σ H E ((Wz I).wish _) ⟨o,M,Z,μ,sr,mr,_,q,j,U,T,S,λn fs g h z t c a cv d st m J ad xd=>R▸⟨n,fs,g,h,t,z,ad,st,m,J,xd⟩⟩;refine wpAny_Try_except (cX B (λf N j=>?_) (λe1 N hx=>?_))
 .cases f with
  |next=>obtain⟨a,c,l,q⟩:=j;exact JO b N a c E (zS l.unwish) q
  |brk=>obtain⟨a,c,l,q⟩:=j;exact⟨a,c,zS l.unwish,q⟩
  |cont=>obtain⟨a,c,l,q⟩:=j;exact⟨a,c,zS l.unwish,q⟩
  |ret w=>obtain⟨y,a,c,l,r,q⟩:=j;exact⟨y,a,c,zS l.unwish,r,q⟩
 refine y9 (X:=Cx.pin' X b) V I.ok.frames hx λx cls d σ1 H1 Tt h' ee I1 O P tr w=>?_;subst ee;refine qI I1 O P tr λh2' I2 v=>?_;rw[<-R] at w;obtain⟨n,fs,g,h,i,z,ad,A,m1,G,xd⟩:=w;exact YS C ad hh I2 O P v xd m1 G (ar.step ⟨Q,z,j,U,T,S,h5⟩ A)
end
structure EB(Γ:Cn) where
 y:ap
 d:De
 ok:∀{D:DP}{X:Cx}{W:XW}{k:Nat},Ck D W Γ X k->PE X y (aD D W d)
structure TB(Γ:Cn) where
 y:ap
 d:Dt
 ok:∀{D:DP}{X:Cx}{W:XW}{k:Nat},Ck D W Γ X k->PT X y (dG D W d)
noncomputable def o_:ap->Bool
 |.Tuple _ _ _=>ae
 |_=>ag
noncomputable def WT (tg e:ap):Bool:=match e with
 |.Call (.Name x _) _ _ _=>(x != ("enumerate":ao)&&x != ("zip":ao)) || o_ tg
 |.Call (.Attribute _ m _) _ _ _=>m != ("items":ao) || o_ tg
 |_=>ae
theorem JP(h:o_ e=ae):∃j x1 s,e=.Tuple j x1 s:=by
 cases e<;>first|exact⟨_,_,_,rfl⟩|injection h
structure IB(Γ:Cn) where
 y:ap
 d:Di
 ok:∀{D:DP}{X:Cx}{W:XW}{k:Nat}{tg:ap},Ck D W Γ X k->WT tg y=ae->PI X tg y (fv D W d)
structure SB(Γ:Cn) where
 y:aV
 d:Ds
 ok:∀{D:DP}{X:Cx}{W:XW}{k:Nat},Sk D W Γ X k->PS X y (cZ D W d)
structure e8 where
 e:(Γ:Cn)->ap->Option (EB Γ)
 t:(Γ:Cn)->ap->Option (TB Γ)
 i:(Γ:Cn)->ap->Option (IB Γ)
 o:(Γ:Cn)->ap->Option (EB Γ)
 s:(Γ:Cn)->aV->Option (SB Γ)
noncomputable abbrev Ru(α:Type)(β:Cn->Type):=e8->(a:Cn)->α->Option (β a)
noncomputable abbrev ER:=Ru ap EB
noncomputable abbrev TR:=Ru ap TB
noncomputable abbrev IR:=Ru ap IB
noncomputable abbrev SR:=Ru aV SB
structure cR where
 e:List ER
 t:List TR
 i:List IR
 o:List ER
 s:List SR
noncomputable def JV {α:Type}{β:Cn->Type}:List (Ru α β)->Ru α β
 |[],_,_,_=>af
 |f::fs,r,a,e=>match f r a e with
  |some d=>aa d
  |none=>JV fs r a e
noncomputable def e6 (R:cR):Nat->e8
 |0=>⟨λ_ _=>af,λ_ _=>af,λ_ _=>af,λ_ _=>af,λ_ _=>af⟩
 |n+1=>⟨JV R.e (e6 R n),JV R.t (e6 R n),JV R.i (e6 R n),JV R.o (e6 R n),JV R.s (e6 R n)⟩
noncomputable def vk {α β:Type}(f:α->Option β):List α->Option (List β)
 |[]=>aa []
 |a::r=>(f a).bind λb=>(vk f r).bind λbs=>aa (b::bs)
noncomputable def gd{α:Type}:(b:Bool)->(b=ae->Option α)->Option α
 |true,k=>k rfl
 |false,_=>af
noncomputable def fH{α β:Type}:(o:Option α)->((a:α)->o=aa a->Option β)->Option β
 |some a,k=>k a rfl
 |none,_=>af
theorem zB(h:(a&&b)=ae):a=ae/\b=ae:=by
 cases a with
 |true=>exact⟨rfl,h⟩
 |false=>injection h
section
noncomputable abbrev gw(fs:List (EB j)):List ap:=fs.map EB.y
noncomputable abbrev ix(fs:List (EB j)):List De:=fs.map EB.d
noncomputable def gA (fs:List (EB j)):Bool:=fs.all λf=>az f.y
theorem QZ(C:Ck D W j X k):∀{fs:List (EB j)},gA fs=ae->cH X D W (gw fs) (ix fs)
 |[],_=>trivial
 |f::fs,h=>⟨(zB h).1,f.ok C,QZ C (zB h).2⟩
theorem K_(C:Ck D W j X k):∀{fs:List (TB j)},WU X D W (fs.map TB.y) (fs.map TB.d)
 |[]=>trivial
 |f::fs=>⟨f.ok C,K_ C⟩
theorem WH(C:Sk D W j X k):∀{fs:List (SB j)},y6 X D W (fs.map SB.y) (fs.map SB.d)
 |[]=>trivial
 |f::fs=>⟨f.ok C,WH C⟩
end
noncomputable def Ni:GM->Bool
 |.none=>ae
 |_=>ag
noncomputable def u_ (a:Cn)(nm x:ao):Bool:=x==nm&&Ni (a.look nm)
theorem zP{a:Cn}(h:u_ a nm x=ae):nm∈a.G/\a.gl nm=.none:=by
 refine qi ?_ (by intro z;injection z);have h:=(zB h).2;cases q:a.look nm<;>first|rfl|(rw[q] at h;injection h)
structure C0 where
 x:ao
 as:List ap
 p0:Pos
 pc:Pos
noncomputable def x_:ap->Option C0
 |.Call (.Name x b) c [] a=>aa ⟨x,c,b,a⟩
 |_=>af
structure DD where
 o:ap
 m:ao
 pa:Pos
 as:List ap
 pc:Pos
noncomputable def yp:ap->Option DD
 |.Call (.Attribute o m b) c [] a=>aa ⟨o,m,b,c,a⟩
 |_=>af
structure C1 where
 a:ap
 op:ez
 b:ap
 p:Pos
noncomputable def CH:ap->Option C1
 |.Compare a [op] [b] p=>aa ⟨a,op,b,p⟩
 |_=>af
structure DM where
 elt:ap
 tg:ap
 iter:ap
 ifs:List ap
 sc:Scope
 p:Pos
noncomputable def YV:ap->Option DM
 |.ListComp c [⟨d,a,b,0⟩] e p=>aa ⟨c,d,a,b,e,p⟩
 |_=>af
noncomputable def yS{α:Type}:List α->Option α
 |[a]=>aa a
 |_=>af
noncomputable def Cb{α:Type}:List α->Option (α×α)
 |[a,b]=>aa (a,b)
 |_=>af
noncomputable def ET:ap->Option (ao×Pos)
 |.Name x p=>aa (x,p)
 |_=>af
noncomputable def XX:ap->Option (ap×ap×Pos)
 |.Subscript a b p=>aa (a,b,p)
 |_=>af
noncomputable def FO (a:Cn)(j:Nat)(p:Pos):Const->Option (EB a)
 |.int i=>aa ⟨.Constant (.int i) j p,eC (.int i),λ_=>Ld⟩
 |.bool b=>aa ⟨.Constant (.bool b) j p,eC (.bl b),λ_=>F8⟩
 |.none=>aa ⟨.Constant .none j p,eC .n,λ_=>Hk⟩
 |.str x=>aa ⟨.Constant (.str x) j p,eC (.str x),λ_=>Ip⟩
 |_=>af
noncomputable def Fa:(g:GM)->Option {t // g=.cst t}
 |.cst t=>aa ⟨t,rfl⟩
 |_=>af
noncomputable def E8 (a:Cn)(x:ao)(p:Pos):Option (EB a):=match q:cF a.N x with
 |some i=>aa ⟨.Name x p,eV i,λC=>IA C q⟩
 |none=>(Fa (a.look x)).bind λt=>aa ⟨.Name x p,eC t.1,λC=>Lf C (qi t.2 nofun).1 (qi t.2 nofun).2⟩
section
theorem Cu{D:DP}{X:Cx}{W:XW}{k:Nat}(C:Ck D W j X k):∀{l:List (ez×EB j)},KA X D W (l.map (·.2.y)) (l.map λp=>(p.1,p.2.d))
 |[]=>trivial
 |p::r=>⟨p.2.ok C,Cu C⟩
structure CB(Γ:Cn) where
 y:ap
 d:De
 e:∀{D:DP}{X:Cx}{W:XW}{k:Nat},Ck D W Γ X k->PE X y (aD D W d)/\PT X y (dG D W (tE d))
noncomputable def FM (f:EB j)(p:Pos):List (ez×EB j)->Option (CB j)
 |[(o,g)]=>gd (vX o g.y) λh=>aa ⟨.Compare f.y [o] [g.y] p,zm o f.d g.d,λC=>⟨H_ C h (f.ok C) (g.ok C),V9 C h (f.ok C) (g.ok C)⟩⟩
 |a::b::l=>gd ((a::b::l).all λq=>jJ q.1) λh=>aa ⟨.Compare f.y (a.1::b.1::l.map (·.1)) (a.2.y::b.2.y::l.map (·.2.y)) p,lD f.d ((a.1,a.2.d)::(b.1,b.2.d)::l.map λq=>(q.1,q.2.d)),λC=>by
  have e:((a.1,a.2.d)::(b.1,b.2.d)::l.map λq=>(q.1,q.2.d)).all (λp=>jJ p.1)=ae:=by
   have:=h;simpa[rT] using this
  have c:=Cu (l:=a::b::l) C;have k:=YG (p1:=(a.1,a.2.d)) (p2:=(b.1,b.2.d)) (pos:=p) C e (f.ok C) c;have i:=QL (p1:=(a.1,a.2.d)) (p2:=(b.1,b.2.d)) (pos:=p) C e (f.ok C) c;rw[bB] at k i;exact⟨k,i⟩⟩
 |[]=>af
noncomputable def mC {α β:Type}:List α->List β->Option (List (α×β))
 |[],[]=>aa []
 |a::r,b::s=>(mC r s).bind λl=>aa ((a,b)::l)
 |_,_=>af
noncomputable def Cv (r:e8)(b:Cn)(a:ap)(ops:List ez)(d:List ap)(p:Pos):Option (CB b):=(r.e b a).bind λf=>(vk (r.e b) d).bind λc=>(mC ops c).bind λl=>FM f p l
noncomputable def VW(o:BoolOp)(f:De):List De->De
 |[]=>f
 |g::l=>match o with
  |.And=>kY f (VW o g l)
  |.Or=>t6 f (VW o g l)
theorem Jx{D:DP}{X:Cx}{W:XW}{k:Nat}(C:Ck D W j X k){o:BoolOp}{p:Pos}:∀{f:EB j}{l:List (EB j)},PE X (.BoolOp o (f.y::gw l) p) (aD D W (VW o f.d (ix l)))
 |f,[]=>Ht (f.ok C)
 |f,g::l=>by
  have a:=Jx C (o:=o) (p:=p) (f:=g) (l:=l);cases o with
  |And=>exact I0 (f.ok C) a
  |Or=>exact GC (f.ok C) a
noncomputable def Do (r:e8)(a:Cn):(o:Option ap)->Option {q:Option ap×Dp // ∀{D:DP}{X:Cx}{W:XW}{k:Nat},Ck D W a X k->PO X q.1 (nC D W q.2)}
 |none=>aa ⟨(af,pN),λ_=>Mg⟩
 |some e=>(r.e a e).bind λf=>aa ⟨(aa f.y,pS f.d),λC=>Mj (f.ok C)⟩
noncomputable def EG (r:e8)(a:Cn)(p:Pos)(f:EB a)(b:ap):Option (EB a):=match b with
 |.Slice lo c af q=>(Do r a lo).bind λl=>(Do r a c).bind λu=>aa ⟨.Subscript f.y (.Slice l.1.1 u.1.1 af q) p,hQ f.d l.1.2 u.1.2,λC=>XO (f.ok C) (l.2 C) (u.2 C)⟩
 |b=>(r.e a b).bind λg=>gd (qq g.y) λh=>aa ⟨.Subscript f.y g.y p,bq f.d g.d,λC=>GY h C.hK (f.ok C) (g.ok C)⟩
noncomputable def YW(l:List (ao×Nat))(x:ao):Option {n // (x,n)∈l}:=fH (l.lookup x) λn h=>aa ⟨n,bI h⟩
noncomputable def tz (mk:List ap->ap)(rd:List De->De)(h:∀{D:DP}{X:Cx}{W:XW}{a:List ap}{fs:List De},a.length<=aB->cH X D W a fs->PE X (mk a) (aD D W (rd fs)))(r:e8)(b:Cn)(a:List ap):Option (EB b):=
 (vk (r.e b) a).bind λfs=>gd (decide ((gw fs).length<=aB)&&gA fs) λq=>aa ⟨mk (gw fs),rd (ix fs),λC=>h (of_decide_eq_true (zB q).1) (QZ C (zB q).2)⟩
end
noncomputable def F3:ER:=λr i e=>match e with
 |.Constant c j p=>FO i j p c
 |.Name x p=>E8 i x p
 |.BinOp a o b p=>(r.e i a).bind λf=>(r.e i b).bind λg=>aa ⟨.BinOp f.y o g.y p,za o f.d g.d,λC=>G8 (f.ok C) (g.ok C)⟩
 |.UnaryOp o a p=>(r.e i a).bind λf=>(match o with
  |.USub=>aa ⟨.UnaryOp .USub f.y p,Kf f.d,λC=>ID (f.ok C)⟩
  |.Not=>aa ⟨.UnaryOp .Not f.y p,tM f.d,λC=>HR (f.ok C)⟩
  |_=>af)
 |.BoolOp o k p=>(vk (r.e i) k).bind λl=>(match l with
  |f::l=>aa ⟨.BoolOp o (f.y::gw l) p,VW o f.d (ix l),λC=>Jx C⟩
  |[]=>af)
 |.Compare a m k p=>(Cv r i a m k p).bind λc=>aa ⟨c.y,c.d,λC=>(c.e C).1⟩
 |.IfExp c a b p=>(r.t i c).bind λt=>(r.e i a).bind λf=>(r.e i b).bind λg=>aa ⟨.IfExp t.y f.y g.y p,nH t.d f.d g.d,λC=>Go (t.ok C) (f.ok C) (g.ok C)⟩
 |.Attribute a x p=>(r.e i a).bind λf=>(YW i.fld x).bind λn=>gd (zU f.y) λh=>aa ⟨.Attribute f.y x p,zD f.d n.1,λC=>LM C h n.2 (f.ok C)⟩
 |.Subscript a b p=>(r.e i a).bind λf=>EG r i p f b
 |.List k p=>tz (.List · p) vK IG r i k
 |.Tuple k c p=>tz (.Tuple · c p) zZ XF r i k
 |_=>af
noncomputable def EO (a:Cn)(q:C0)(fs:List (EB a))(hc:a.calm=ae)(hs:gA fs=ae):(g:GM)->a.look q.x=g->Option (EB a)
 |.fn g,h=>aa ⟨.Call (.Name q.x q.p0) (gw fs) [] q.pc,z4 g (ix fs),λC=>ME C (qi h nofun).1 (qi h nofun).2 hc (QZ C hs)⟩
 |.mk c ae g,h=>aa ⟨.Call (.Name q.x q.p0) (gw fs) [] q.pc,mn c g (ix fs),λC=>UD C (qi h nofun).1 (qi h nofun).2 hc (QZ C hs)⟩
 |_,_=>af
noncomputable def ED:ER:=λr a e=>(x_ e).bind λq=>(vk (r.e a) q.as).bind λfs=>gd (a.calm&&gA fs) λh=>EO a q fs (zB h).1 (zB h).2 (a.look q.x) rfl
noncomputable def iq (nm:ao)(o:T->Mem->RE T)(cl:Bool)(H:∀{D:DP}{X:Cx}{W:XW}{b:Cn}{k:Nat}{a:ap}{f:De}{p0 pos:Pos},Ck D W b X k->nm∈b.G->b.gl nm=.none->(cl=ae->b.calm=ae)->az a=ae->PE X a (aD D W f)->PE X (.Call (.Name nm p0) [a] [] pos) (aD D W (cB o f))):ER:=λr b e=>
 (x_ e).bind λq=>(yS q.as).bind λa=>gd (u_ b nm q.x) λh=>(r.e b a).bind λf=>gd ((!cl || b.calm)&&az f.y) λc=>aa ⟨.Call (.Name nm q.p0) [f.y] [] q.pc,cB o f.d,λC=>H C (zP h).1 (zP h).2 (λz=>by have:=(zB c).1;rw[z] at this;exact this) (zB c).2 (f.ok C)⟩
noncomputable def EZ:ER:=iq "len" jZ ag λC a c _ b d=>Wi C a c boot_len (by decide) b FX d
noncomputable def Ep:ER:=iq "int" Uv ag λC a c _ b d=>Jm C a c (by decide +kernel) (by decide) b Gm d
noncomputable def GG:ER:=iq "tuple" xk ag λC a c _ b d=>Jm C a c (by decide +kernel) (by decide) b Uz d
noncomputable def GI:ER:=iq "list" Qw ag λC a c _ b d=>Jm C a c (by decide +kernel) (by decide) b Lq d
noncomputable def EU:ER:=iq "all" V4 ae λC a c d b e=>Wi C a c boot_all (by decide) b (GO (C.clm (d rfl))) e
noncomputable def Et:ER:=λr a e=>(x_ e).bind λq=>(Cb q.as).bind λw=>gd (u_ a "isinstance" q.x) λh=>(r.e a w.1).bind λf=>gd (az f.y) λc=>fH (QB a w.2) λcs b=>aa ⟨.Call (.Name "isinstance" q.p0) [f.y,w.2] [] q.pc,w_ cs f.d,λC=>Le C (zP h).1 (zP h).2 c b (f.ok C)⟩
noncomputable def tS (nm:ao)(c:De->De->De)(H:∀{D:DP}{X:Cx}{W:XW}{b:Cn}{k:Nat}{o a:ap}{f g:De}{pa pc:Pos},Ck D W b X k->zU o=ae->az a=ae->(pa.endLine==pc.line)=ae->PE X o (aD D W f)->PE X a (aD D W g)->PE X (.Call (.Attribute o nm pa) [a] [] pc) (aD D W (c f g))):ER:=λr b e=>
 (yp e).bind λq=>(yS q.as).bind λa=>gd (q.m==nm) λ_=>(r.e b q.o).bind λf=>(r.e b a).bind λg=>gd (zU f.y&&az g.y) λh=>gd (q.pa.endLine==q.pc.line) λi=>aa ⟨.Call (.Attribute f.y nm q.pa) [g.y] [] q.pc,c f.d g.d,λC=>H C (zB h).1 (zB h).2 i (f.ok C) (g.ok C)⟩
noncomputable def EY:ER:=tS "append" uC λC b a d c e=>Lz b a d c e
structure mB(Γ:Cn) where
 tg:ap
 sc:Scope
 i:IB Γ
 e:EB (inComp Γ tg sc)
 c:List (TB (inComp Γ tg sc))
 fs:List Nat
 tgt:Tg
 hc:Γ.calm=ae
 ok:bY Γ.N Γ.cel tg sc
 hf:y0 Γ.N (frees sc)=aa fs
 ht:wB (zd tg++frees sc) tg=aa tgt
 hi:wJ i.y=ae/\WT tg i.y=ae
noncomputable def mB.y{a:Cn}(q:mB a)(p:Pos):ap:=.ListComp q.e.y [⟨q.tg,q.i.y,q.c.map TB.y,0⟩] q.sc p
noncomputable def mB.d{a:Cn}(mk:Nat->List Nat->Tg->Di->List Dt->De->De)(q:mB a):De:=mk (zd q.tg).length q.fs q.tgt q.i.d (q.c.map TB.d) q.e.d
noncomputable def tf (r:e8)(a:Cn)(q:DM):Option (mB a):=(r.i a q.iter).bind λi=>(r.e (inComp a q.tg q.sc) q.elt).bind λe=>(vk (r.t (inComp a q.tg q.sc)) q.ifs).bind λc=>
 fH (y0 a.N (frees q.sc)) λfs h=>fH (wB (zd q.tg++frees q.sc) q.tg) λb d=>gd a.calm λj=>gd (Vt a.N a.cel q.tg q.sc) λf=>gd (wJ i.y&&WT q.tg i.y) λg=>aa ⟨q.tg,q.sc,i,e,c,fs,b,j,KO f,h,d,zB g⟩
noncomputable def Gf:ER:=λr b e=>(YV e).bind λq=>(tf r b q).bind λw=>aa ⟨w.y q.p,w.d qa,λC=>Jp C w.hc w.ok w.hf w.ht (w.i.ok C w.hi.2) (λ_ _ a=>w.e.ok a) (λ_ _ a=>K_ a) (Zd w.hi.1)⟩
noncomputable def G9:ER:=λr b e=>(YV e).bind λq=>(tf r b q).bind λw=>aa ⟨w.y q.p,w.d vT,λC=>We C w.hc w.ok w.hf w.ht (w.i.ok C w.hi.2) (λ_ _ a=>w.e.ok a) (λ_ _ a=>K_ a) (Zd w.hi.1)⟩
noncomputable def JH(o:BoolOp)(f:Dt):List Dt->Dt
 |[]=>f
 |g::l=>match o with
  |.And=>wz f (JH o g l)
  |.Or=>d_ f (JH o g l)
theorem QX{a:Cn}{D:DP}{X:Cx}{W:XW}{k:Nat}(C:Ck D W a X k){o:BoolOp}{p:Pos}:∀{f:TB a}{l:List (TB a)},PW X (.BoolOp o (f.y::l.map TB.y) p) (dG D W (JH o f.d (l.map TB.d)))
 |f,[]=>by
  cases o with
  |And=>exact Md (f.ok C)
  |Or=>exact IN (f.ok C)
 |f,g::l=>by
  have b:=QX C (o:=o) (p:=p) (f:=g) (l:=l);cases o with
  |And=>exact Lj (f.ok C) b
  |Or=>exact GZ (f.ok C) b
noncomputable def B5:ap->Bool
 |.Name _ _=>ae
 |.Call _ _ _ _=>ae
 |.Subscript _ _ _=>ae
 |.Attribute _ _ _=>ae
 |_=>ag
theorem UR{a:ap}(h:B5 a=ae)(b:PE X a (aD D W f)):PT X a (dG D W (tE f)):=by
 cases a<;>first|exact HF b λ_=>rfl|injection h
noncomputable def G7:TR:=λr b e=>match e with
 |.Compare a g i p=>(Cv r b a g i p).bind λc=>aa ⟨c.y,tE c.d,λC=>(c.e C).2⟩
 |.UnaryOp .Not a p=>(r.t b a).bind λf=>aa ⟨.UnaryOp .Not f.y p,qd f.d,λC=>Hv (f.ok C)⟩
 |.BoolOp o i p=>(vk (r.t b) i).bind λl=>(match l with
  |f::l=>aa ⟨.BoolOp o (f.y::l.map TB.y) p,JH o f.d (l.map TB.d),λC=>(QX C).pt⟩
  |[]=>af)
 |e=>(r.e b e).bind λf=>gd (B5 f.y) λh=>aa ⟨f.y,tE f.d,λC=>UR h (f.ok C)⟩
noncomputable def EI (e:Cn) (q:C0) (h:u_ e "range" q.x=ae):(fs:List (EB e))->gA fs=ae->Option (IB e)
 |[a],c=>aa ⟨.Call (.Name "range" q.p0) [a.y] [] q.pc,Uy a.d,λC _=>YC C (zP h).1 (zP h).2 (zB c).1 (a.ok C)⟩
 |[a,b],c=>aa ⟨.Call (.Name "range" q.p0) [a.y,b.y] [] q.pc,Wx a.d b.d,λC _=>Kk C (zP h).1 (zP h).2 (zB c).1 (zB (zB c).2).1 (a.ok C) (b.ok C)⟩
 |_,_=>af
noncomputable def Gb:IR:=λr a e=>(x_ e).bind λq=>gd (u_ a "range" q.x) λh=>(vk (r.e a) q.as).bind λfs=>gd (gA fs) λb=>EI a q h fs b
noncomputable def Nb:IR:=λr a e=>(r.e a e).bind λf=>aa ⟨f.y,iE f.d,λC _=>MJ (f.ok C)⟩
noncomputable def Xq:ER:=λr a e=>match e with
 |.List b p=>tz (.List · p) qP Hq r a b
 |_=>af
noncomputable def M_:ER:=λr a e=>r.e a e
noncomputable def tK (r:e8)(a:Cn)(x:ao)(e:ap):Option (EB a):=match a.own.contains x with
 |true=>r.o a e
 |false=>r.e a e
noncomputable def gF:ap->Bool
 |.Call _ _ _ _=>ae
 |.Constant _ _ _=>ae
 |_=>ag
theorem YP{e:ap}{l:Nat}{env:Env}(h:gF e=ae):gX e af l env=pure ag:=by
 cases e<;>first|rfl|injection h
noncomputable def Xs:ap->Bool
 |.ListComp _ _ _ _=>ae
 |.SetComp _ _ _ _=>ae
 |.DictComp _ _ _ _ _=>ae
 |_=>ag
theorem XZ{e:ap}{x:ao}{p:Pos}{l:Nat}{env:Env}(h:Xs e=ag):gX e (aa (.Name x p)) l env=pure ag:=by
 cases e<;>first|rfl|injection h
noncomputable def Db(b:Bool):Nat->List Nat->Tg->Di->List Dt->De->De:=match b with
 |true=>vT
 |false=>qa
theorem My{f:Cn}{D:DP}{X:Cx}{W:XW}{k:Nat}{x:ao}{i:Nat}{p p2 pos:Pos}(C:Sk D W f X k)(hi:cF f.N x=aa i)(j:gB f (.Name x p)=ae)(w:mB f)(b:Bool):PS X (.Assign [.Name x p] (w.y p2) pos) (cZ D W (zj i (w.d (Db b)))):=by
 have g:∀h,gX (w.y p2) (aa (.Name x p)) pos.line X.env=pure h->PS X (.Assign [.Name x p] (w.y p2) pos) (cZ D W (zj i (match b with|true=>w.d vT|false=>w.d qa))):=λh c=>by
  cases h with
  |true=>exact UH C w.hc hi j w.ok w.hf w.ht (w.i.ok C.toCk w.hi.2) (λ_ _ a=>w.e.ok a) (λ_ _ a=>K_ a) (Zd w.hi.1) _ c
  |false=>
   refine U4 C hi j c ?_;cases b with
   |true=>exact We C.toCk w.hc w.ok w.hf w.ht (w.i.ok C.toCk w.hi.2) (λ_ _ a=>w.e.ok a) (λ_ _ a=>K_ a) (Zd w.hi.1)
   |false=>exact Jp C.toCk w.hc w.ok w.hf w.ht (w.i.ok C.toCk w.hi.2) (λ_ _ a=>w.e.ok a) (λ_ _ a=>K_ a) (Zd w.hi.1)
 cases b<;>exact g _ rfl
noncomputable def ES (r:e8)(a:Cn)(x:ao)(p pos:Pos)(e:ap)(i:Nat)(hi:cF a.N x=aa i)(b:gB a (.Name x p)=ae):Option (SB a):=match YV e with
 |some q=>(tf r a q).bind λw=>aa ⟨.Assign [.Name x p] (w.y q.p) pos,zj i (w.d (Db (a.own.contains x))),λC=>My C hi b w _⟩
 |none=>(tK r a x e).bind λf=>gd (!Xs f.y) λh=>aa ⟨.Assign [.Name x p] f.y pos,zj i f.d,λC=>U4 C hi b (XZ (by simpa using h)) (f.ok C.toCk)⟩
noncomputable def EK (r:e8)(a:Cn)(pos:Pos)(t e:ap):Option (SB a):=match t with
 |.Name x p=>gd (gB a (.Name x p)) λb=>fH (cF a.N x) λi m=>ES r a x p pos e i m b
 |.Tuple j c p=>gd (gB a (.Tuple j c p)) λb=>(r.e a e).bind λf=>gd (a.calm&&yw f.y) λh=>fH (cp a.N j) λk l=>aa ⟨.Assign [.Tuple j c p] f.y pos,Wt k f.d,λC=>Hb C (zB h).1 (zB h).2 l b (f.ok C.toCk)⟩
 |.Attribute o x p=>(YW a.fld x).bind λn=>(tK r a x e).bind λf=>(r.e a o).bind λg=>aa ⟨.Assign [.Attribute g.y x p] f.y pos,zK g.d n.1 f.d,λC=>Hl C n.2 (f.ok C.toCk) (g.ok C.toCk)⟩
 |_=>af
noncomputable def Fd:(g:GM)->Option {c // g=.xcl c}
 |.xcl c=>aa ⟨c,rfl⟩
 |_=>af
noncomputable def FG:SR:=λr a s=>match s with
 |.Raise (aa e) af p=>(x_ e).bind λq=>(vk (r.e a) q.as).bind λfs=>(match fs with
  |f::fs=>gd (a.calm&&gA (f::fs)) λh=>(Fd (a.look q.x)).bind λc=>aa ⟨.Raise (aa (.Call (.Name q.x q.p0) (gw (f::fs)) [] q.pc)) af p,zE c.1 (ix (f::fs)),λC=>XH C (zB h).1 (qi c.2 nofun).1 (qi c.2 nofun).2 (QZ C.toCk (zB h).2)⟩
  |[]=>af)
 |_=>af
noncomputable def Fp (a:Cn)(x:ao):(g:GM)->a.gl x=g->Option {c // iC a x c}
 |.xcl c,q=>gd (a.G.contains x&&Nat.blt c 40) λh=>fH (a.cls.lookup x) λd b=>gd (eD c d) λe=>aa ⟨c,by simpa using (zB h).1,bI (by rw[oV e];exact b),.inr q,Nat.blt_eq.mp (zB h).2⟩
 |.xcf c f,q=>gd (a.G.contains x&&Nat.blt c 40) λh=>fH (a.cls.lookup x) λd b=>gd (eD c d) λe=>aa ⟨c,by simpa using (zB h).1,bI (by rw[oV e];exact b),.inl ⟨f,q⟩,Nat.blt_eq.mp (zB h).2⟩
 |_,_=>af
structure HB(Γ:Cn) where
 y:l3
 d:List Nat×Option Nat×List Ds
 ok:∀{D:DP}{k:Nat},jk D Γ k [y] [d]
noncomputable def nmB (a:Cn):(nm:Option ao)->Option {i // Cr a nm i}
 |none=>aa ⟨af,trivial⟩
 |some e=>gd (!a.cel.contains e) λh=>fH (cF a.N e) λj b=>aa ⟨aa j,b,by simpa using h⟩
noncomputable def t4 (r:e8)(b:Cn):l3->Option (HB b)
 |.ExceptHandler (aa (.Name x p)) nm a f=>(Fp b x (b.gl x) rfl).bind λc=>(nmB b nm).bind λi=>(vk (r.s {b with calm:=ag}) a).bind λe=>(match e with
  |v::e=>aa ⟨.ExceptHandler (aa (.Name x p)) nm (v.y::e.map SB.y) f,([c.1],i.1,v.d::e.map SB.d),⟨⟨_,_,_,_,_,_,_,_,rfl,rfl,⟨x,p,c.1,rfl,rfl,c.2⟩,i.2,λh g=>WH (fs:=v::e) g⟩,trivial⟩⟩
  |[]=>af)
 |_=>af
theorem Cz{D:DP}{a:Cn}{k:Nat}:∀{hs:List (HB a)},jk D a k (hs.map HB.y) (hs.map HB.d)
 |[]=>trivial
 |h::hs=>⟨h.ok.1,Cz⟩
noncomputable def LN:SR:=λr j s=>match s with
 |.Return o p=>(match o with
  |some e=>(tK r j "return" e).bind λf=>aa ⟨.Return (aa f.y) p,zf f.d,λC=>Lp (f.ok C.toCk)⟩
  |none=>aa ⟨.Return af p,VO,λ_=>MN⟩)
 |.Expr e p=>(r.e j e).bind λf=>gd (gF f.y) λh=>aa ⟨.Expr f.y p,zy f.d,λC=>UN (YP h) (f.ok C.toCk)⟩
 |.If c a b p=>(r.t j c).bind λt=>(vk (r.s j) a).bind λl=>(vk (r.s j) b).bind λk=>aa ⟨.If t.y (l.map SB.y) (k.map SB.y) p,aN t.d (l.map SB.d) (k.map SB.d),λC=>Fw (t.ok C.toCk) (WH C) (WH C)⟩
 |.Assign v e p=>(yS v).bind λt=>EK r j p t e
 |.For n it b [] p=>(r.i j it).bind λi=>(vk (r.s j) b).bind λk=>gd (j.calm&&wJ i.y) λh=>gd (WT n i.y&&gB j n) λu=>fH (wB j.N n) λq w=>aa ⟨.For n i.y (k.map SB.y) [] p,vM q i.d (k.map SB.d),λC=>Lc C (zB h).1 w (zB u).2 (i.ok C.toCk (zB u).1) (WH C) (Zd (zB h).2)⟩
 |.While c b [] p=>(r.t j c).bind λt=>(vk (r.s j) b).bind λk=>aa ⟨.While t.y (k.map SB.y) [] p,ZP t.d (k.map SB.d),λC=>X_ C (t.ok C.toCk) (WH C)⟩
 |.Try b hs [] [] p=>(vk (r.s j) b).bind λl=>(vk (t4 r j) hs).bind λm=>(match m with
  |g::m=>gd j.calm λh=>aa ⟨.Try (l.map SB.y) (g.y::m.map HB.y) [] [] p,tD (l.map SB.d) (g.d::m.map HB.d),λC=>LZ C h (λ_ _ x=>WH x) (Cz (hs:=g::m))⟩
  |[]=>af)
 |_=>af
noncomputable def iz (R:cR)(n:Nat)(a:Cn)(b:List aV):Option (List aV×List Ds):=(vk ((e6 R n).s a) b).map λl=>(l.map SB.y,l.map SB.d)
theorem Xt{R:cR}{n:Nat}{a:Cn}{b:List aV}{ds:List Ds}(h:iz R n a b=aa (b,ds)){D:DP}{X:Cx}{W:XW}{k:Nat}(C:Sk D W a X k):y6 X D W b ds:=by
 obtain⟨l,_,e⟩:=l6.mp h;injection e with d c;rw[<-d,<-c];exact WH C
structure ff(D:DP)(P:Program)(w:World)(K:PySem.W.Frag)(mg:ao->Option ai)(base:aG)(Γ:Cn)(k:Nat):Prop where
 hK:K=D.K
 glo:∀x∈Γ.U,bD D P w K mg base k x (Γ.gl x)/\(x==("__debug__":ao))=ag
 isi:∀t x c,(x,c)∈Γ.cls->∀u v,WZ D t u->uo mg x v->oJ K u v=aa (vV t c)
 fld:∀c C x f,D.cad c=aa C->(x,f)∈Γ.fld->D.fn f=aa x/\fB K C/\bN K C x
 xcx:∀c C,D.adr c=aa C->nK K C
 ocx:∀c C,D.cad c=aa C->lG K C
 clv:∀x c,(x,c)∈Γ.cls->∃u v,uo mg x u/\fh v u
 xmt:∀t x c,(x,c)∈Γ.cls->c<40->∀Ct Cc,D.adr t=aa Ct->mg x=aa (.ref Cc)->sq K (.ref Ct) (.ref Cc)=aa (vV t c)
noncomputable def yJ (a:Cn)(ps:List ao)(sc:Scope):Bool:=
 (sc.kind==.function)&&!sc.isCoroutine&&!sc.isGenerator&&decide (a.N.Nodup)&&(a.N.take ps.length==ps)&&sc.names.all (λy=>y.2 != .free)&&
 a.N.all (λx=>x != ("__debug__":ao)&&x != ("__classdict__":ao)&&(if a.cel.contains x then sc.names.lookup x==aa .cell else sc.names.lookup x==aa .local))&&
 a.G.all (λx=>a.U.contains x&&sc.names.lookup x==aa .globalImplicit)&&a.cel.all (λx=>a.N.contains x)&&a.calm
theorem jd{X:Cx}{W:XW}{e:ai}{s:aJ}(p:XP X W e s):X.A.frames=aa X.stack:=by
 obtain⟨_,_,_,_,_,_,_,_,I,_⟩:=p;exact I.ok.frames
theorem J5:∀(ts:List T) (n:Nat),pd ts n=ts.map aa++lb n af
 |[],n=>by
  have:∀n,tT n=lb n af:=λn=>by
   induction n with
   |zero=>rfl
   |succ n a=>show af::tT n=_;rw[a];rfl
  exact this n
 |t::r,n=>by show aa t::pd r n=_;rw[J5 r n];rfl
section
variable {K:PySem.W.Frag}
theorem Vx{φ α:List ak}{H:Hp}{N:List ao}{ts:List T}{vs:List V}(d:av D φ α H ts vs):aH D φ α H (pd ts (N.length-ts.length)) (L2.start N vs):=by
 have b:=d.length;rw[J5];refine⟨by simp[L2.start,b],λi t e=>?_⟩;by_cases a:i<ts.length
 .rw[cE (by simpa using a),bH] at e;cases q:ts[i]? with
  |none=>rw[q] at e;exact z9 e
  |some g=>
   rw[q] at e;cases e;obtain⟨v,c,f⟩:=d.get q;refine⟨v,?_,f⟩;unfold L2.start;rw[cE (by rw[aL,<-b];exact a),bH,c];rfl
 .rw[dL (by simpa using a),oZ] at e;split at e<;>cases e
noncomputable def eR (X:Cx)(f:ao->Bool):Cx:={X with fn:=f}
theorem Ij{X:Cx}{f g:ao->Bool}(hf:∀x,f x=ae->g x=ae)(ok:(eR X g).Ok):(eR X f).Ok:=⟨ok.mod,ok.kind,ok.glob,ok.blt,ok.above,ok.inj,ok.has,λx c e=>ok.cab x c (hf x e),ok.hd,ok.frames,ok.stk,ok.exf,ok.bs,ok.bsz,ok.noex,ok.exfs,ok.funs,ok.frf⟩
theorem yf{X:Cx}{f g:ao->Bool}{a:List (ak×bj)}{b:St}{H:Hp}{s:aJ}(hf:∀x,f x=ae->g x=ae)(I:Inv (eR X g) a b H s):Inv (eR X f) a b H s:=
 ⟨Ij hf I.ok,I.os,I.bare,I.base,I.loc,I.cell,I.free,λx c e=>(I.freeC x c e).imp id λz=>⟨Bool.eq_false_iff.mpr λq=>Bool.noConfusion ((hf x q).symm.trans z.1),z.2⟩,I.pin,I.hok,I.len⟩
theorem Ih{X:Cx}{f g:ao->Bool}{W:XW}{e:ai}{s:aJ}(hf:∀x,f x=ae->g x=ae)(p:XP (eR X g) W e s):XP (eR X f) W e s:=by
 obtain⟨x,cls,d,h,H,T,l,a,I,b,c,r,j,i⟩:=p;exact⟨x,cls,d,h,H,T,l,a,yf hf I,⟨b.free,b.loc,b.nfs,b.new,b.cel,b.pin⟩,λt k=>let b:=c t k;⟨b.free,b.loc,b.nfs,b.new,b.cel,b.pin⟩,r,j,i⟩
theorem V8{X:Cx}{f g:ao->Bool}{a:List (ak×bj)}{E:Ends}{fl:Flow}{s:aJ}(hf:∀x,f x=ae->g x=ae)(h:SP (eR X g) a E fl s):SP (eR X f) a E fl s:=by
 cases fl with
 |ret v=>obtain⟨v,b,d,c,r⟩:=h;exact⟨v,b,d,yf hf c,r⟩
 |_=>obtain⟨b,d,c,r⟩:=h;exact⟨b,d,yf hf c,r⟩
theorem Jr{D:DP}{W:XW}{X:Cx}{f:ao->Bool}{B:List aV}{c:List Ds}(h2:y6 (eR X f) D W B c):∀{C:List aV}{g:List Ds},y6 (eR X λ_=>ae) D W C g->
  ∀(a:List (ak×bj)) (s:aJ) (d:St) (H:Hp) (E:Ends),Inv (eR X λ_=>ae) a d H s->cZ D W (zM (g++c)) E d H->aA (aC X.prog X.w) X.A (execs (C++B) X.env) (SP (eR X f) a E) X.xe s
 |[],[],_,a,s,d,H,E,I,q=>qZ h2 a s d H E (yf (λ_ _=>rfl) I) q
 |st::r,u::K,h,a,s,d,H,E,I,q=>by
  obtain⟨o,J,F,G,L,O,Q,q,P,y,x,t,p⟩:=q;refine sk (aF (h.1 a s d H {E with nx:=λb i=>cZ D W (zM (K++c)) E b i} I ⟨o,J,F,G,L,O,_,q,λj k e l i b st m n=>?_,y,x,t,p⟩) λR M z=>?_)
  .exact⟨o,l,j,k,n,m,ar.step ⟨Q,e,P,y,x,t,p⟩ st⟩
  .cases R with
   |next=>
    obtain⟨b,i,S,N⟩:=z;exact Jr h2 h.2 a M b i E S N
   |ret v=>exact V8 (λ_ _=>rfl) z
   |brk=>exact V8 (λ_ _=>rfl) z
   |cont=>exact V8 (λ_ _=>rfl) z
 |[],_::_,h,_,_,_,_,_,_,_=>h.elim
 |_::_,[],h,_,_,_,_,_,_,_=>h.elim
theorem Xd{R:cR}{f:ak}{name g:ao}{params:Arguments}{body b1 b2:List aV}{scope:Scope}{dV kV doc pm j ct oc:ai}{an od:Option ak}{osl:Array (Option ai)}{ps:List ao}{m:Nat}{T S:List Ds}
    (M:ff D P w K mg base b k) (lk:K.lookup f=aa ⟨oc,od,.func (fm name g params body scope dV kV doc pm an j ct),osl⟩) (hcd:gV K j g=ae) (hs:yJ b ps scope=ae) (hm:b.N.length=ps.length+m) (hbo:body=b1++b2) (hd1:iz R n {b with fz:=[]} b1=aa (b1,T)) (hds:iz R n b b2=aa (b2,S)) (U:cS D mg base j (g++".<locals>.") k b.lam b.lnm:=by exact cS.no rfl) :
    bF P w K mg base (dB P w) (k+1) f (fm name g params body scope dV kV doc pm an j ct) ps (fJ D ps.length (aQ ps.length m (T++S))):=by
  subst hbo;simp only[yJ,bW,eP,beq_iff_eq,l5,decide_eq_true_eq,bne_iff_ne] at hs;obtain⟨⟨⟨⟨⟨⟨⟨⟨⟨h1,h2⟩,h3⟩,h4⟩,h5⟩,h6⟩,h7⟩,h8⟩,h9⟩,h10⟩:=hs;have L:∀x∈b.N,(b.cel.contains x=ae/\scope.names.lookup x=aa .cell)\/(b.cel.contains x=ag/\scope.names.lookup x=aa .local):=λx a=>by
    have q:=(h7 x a).2;cases Z:b.cel.contains x with
    |true=>rw[Z,if_pos rfl] at q;exact .inl ⟨rfl,beq_iff_eq.mp q⟩
    |false=>rw[Z] at q;exact .inr ⟨rfl,beq_iff_eq.mp q⟩
  have I:∀x∈b.N,scope.names.lookup x=aa .local\/scope.names.lookup x=aa .cell:=λx a=>(L x a).elim (λz=>.inr z.2) λz=>.inl z.2;refine Dc (fnb:=λx=>!b.fz.contains x) lk hcd ⟨h1,h2,h3,h4,h5,λx a=>I x (by rw[<-h5] at a;exact nc a),h6⟩ (λvs H Q E q=>q.1) λA r s H vs Q E hr hsp u=>?_;obtain⟨hl,φ,α,ts,μ,d,mr,K0,Z0,⟨hle,q⟩,V,hz0⟩:=hsp;generalize O:Vm (dB P w) P w K mg base b.N g scope f j A r s H E (λx=>!b.fz.contains x)=X;have F:iF X (fk g scope s.heap.objs.size f j) r s.heap.objs.size:=O▸⟨rfl,rfl,rfl⟩;have Y:X.fn=λx=>!b.fz.contains x:=by rw[<-O];rfl
  have CK:∀(l:List ao),(∀x∈l,x∈b.fz)->Sk D (d9 E) {b with fz:=l} (eR (X.wish (XP X (d9 E))) λx=>!l.contains x || !b.fz.contains x) k:=λl hl'=>by
    have xe:∀e s,XP (eR (X.wish (XP X (d9 E))) λx=>!l.contains x || !b.fz.contains x) (d9 E) e s->XP X (d9 E) e s:=λe s p=>by
      have p2:XP (eR (X.wish (XP X (d9 E))) λx=>!b.fz.contains x) (d9 E) e s:=Ih (λx a=>by rw[a,rS]) p;exact jc (show XP (X.wish (XP X (d9 E))) (d9 E) e s by rw[<-Y] at p2;exact p2)
    have pso:mJ (aC X.prog X.w) X.A X.env (XP X (d9 E)):=λe s p=>xc F (jd p) e s p;subst O
    exact { hK := M.hK,hN := rfl,nd := h4,vis := fun x a => (I x a).elim .inl fun z => .inr (.inl z),dbg := fun x a => ⟨beq_eq_false_iff_ne.mpr (h7 x a).1.1,beq_eq_false_iff_ne.mpr (h7 x a).1.2⟩,
            dbG:=λx a=>(M.glo x (by simpa using (h8 x a).1)).2,glb:=λx a=>(h8 x a).2,glo:=λx a=>(M.glo x (by simpa using (h8 x a).1)).1,glU:=M.glo,
            cel:=λx a=>.inl ((L x (by simpa using h9 x a)).elim (λz=>z.2) λz=>by have:=z.1;rw[gp.mpr a] at this;injection this),
            isi:=M.isi,fld:=M.fld,xcx:=M.xcx,ocx:=M.ocx,clv:=M.clv,clm:=λ_=>rfl,rom:=λ_=>hr,rmh:=⟨hr.dp,hr.un⟩,xe:=xe,frm:=⟨_,_,_,F.stk,F.f0,F.fe⟩,lam:=U,kfz:=λ_ x a=>⟨by show (!l.contains x || !b.fz.contains x)=ag;rw[gp.mpr a,gp.mpr (hl' x a)];rfl,λc e=>(u x c e).1⟩,
            sto:=λx a=>by
              obtain⟨z1,z2⟩:=fq.mp a;exact⟨I x z1,.inl (by show (!l.contains x || _)=ae;rw[show (!l.contains x)=ae from z2];rfl)⟩,lcl:=λx a Z=>(L x a).elim (λz=>by rw[z.1] at Z;injection Z) λz=>z.2,pso:=pso,xmt:=M.xmt}
  have B:fw X (b1++b2) (λE1 C H1=>(∀y c,X.env.cells.lookup y=aa c->X.s₀.heap.objs.size<=c/\H1 c=af)/\cZ D (d9 E) (zM (T++S)) E1 C H1):=λG s1 C H1 E1 I1 ⟨hf,q⟩=>by
    have I2:Inv (eR (X.wish (XP X (d9 E))) λ_=>ae) G C H1 s1:=by
      have J:=I1.wish (XP X (d9 E));subst O;exact⟨⟨J.ok.mod,J.ok.kind,J.ok.glob,J.ok.blt,J.ok.above,J.ok.inj,J.ok.has,λx c _ e=>(hf x c e).1,J.ok.hd,J.ok.frames,J.ok.stk,J.ok.exf,J.ok.bs,J.ok.bsz,J.ok.noex,J.ok.exfs,J.ok.funs,J.ok.frf⟩,J.os,J.bare,J.base,J.loc,J.cell,J.free,λx c e=>.inl (hf x c e).2,J.pin,J.hok,J.len⟩
    have C1:=Xt hd1 (CK [] sC);have C2:=Xt hds (CK b.fz λ_ h=>h);have e1:(λx=>!([]:List ao).contains x || !b.fz.contains x)=λ_=>ae:=by funext x;rfl
    have e2:(λx=>!b.fz.contains x || !b.fz.contains x)=X.fn:=by rw[Y];funext x;exact Bool.or_self _
    rw[e2] at C2;refine cX (Jr C2 C1 G s1 C H1 E1 I2 q) (λf s' q=>SP.unwish q) λe s' p=>?_;have:=Wf (M:=aC X.prog X.w) (F2:=λe' s''=>dB X.prog X.w X.outer X.H₀ X.s₀ E e' s'') F (jd p) (by rw[<-O];rfl) p;subst O;exact this
  have hmm:b.N.length-ts.length=m:=by omega
  refine⟨_,B,O▸u,φ,α,_,μ,Vx d,mr,{nx:=λ_ i=>K0 .n i,rt:=K0,bk:=λ_ _=>False,ct:=λ_ _=>False,ex:=λc fs _ i=>Z0 c fs i},hmm▸q,λ_ i z o H' σ' st m _=>V _ _ z o H' st m .n rfl,λ_ _ z=>z.elim,λ_ _ z=>z.elim,λt i z o H' v st m dv=>V _ _ z o H' st m v dv,λc fs _ i z o H' σ' C1 dd st m _ ad xd=>hz0 c fs i z o H' C1 dd st m ad xd⟩
theorem Q1{n m:Nat}{ds:List Ds}:∀ts μ K Z,aQ n m ds ts μ K Z->ts.length=n:=λ_ _ _ _ h=>h.1
end
noncomputable def VH:bc->Bool
 |[]=>ae
 |p::r=>(match p.2.cls with|.type t=>t != "list" | _=>ae)&&VH r
theorem Jo:∀{K:bc}{a:ak}{o:bj},VH K=ae->K.lookup a=aa o->o.cls≠.type "list"
 |[],_,_,_,h=>z9 h
 |(b,p)::r,a,o,c,h=>by
  simp only[VH,bW] at c;rw[eU] at h;cases q:a==b with
  |true=>
   rw[q] at h;(injection h with h;subst h);intro e;have d:=c.1;rw[e] at d;exact absurd d dC
  |false=>rw[q] at h;exact Jo c.2 h
theorem ZH:∀(ns:List Int),av D φ α H (ns.map T.int) (ns.map V.int)
 |[]=>rfl
 |n::r=>⟨.int n,r.map V.int,rfl,rfl,ZH r⟩
noncomputable def nU:List ao:=["moments","houses","counts","start","turns","holder","lease","until","is_cut","shape","grants","house","begin","end","ahead","stride","keeper","mark","newest","batches","has_fallen","clock","kept","common","given","now","seats","world","line","by"]
theorem HS:nU.Nodup:=by decide +kernel
structure gO where
 xs:List (Nat×ak)
 cs:List (Nat×ak)
noncomputable def hM (K:bc)(A:gO)(clo:Nat->ak->Option HO->List V->Prop)(tabs:Nat->Option (ak×List Pos×ao):=λ_=>af):DP:=⟨K,λc=>A.xs.lookup c,λc=>A.cs.lookup c,λi=>nU[i]?,λi j x b a=>kf HS b a,clo,tabs⟩
noncomputable def cn (cls fld:List (ao×Nat)) (gs:List (ao×GM)) (N G cel own:List ao) (lam:Option (Nat×List Pos):=af) (lnm:ao:="<lambda>"):Cn where
 N:=N
 G:=G
 calm:=ae
 gl:=λx=>(gs.lookup x).getD .bad
 cls:=cls
 fld:=fld
 U:=gs.map (·.1)
 cel:=cel
 own:=own
 lam:=lam
 lnm:=lnm
noncomputable def tO (A:gO):List (Nat×ai):=[(0,.type "NoneType"),(1,.type "bool"),(2,.type "int"),(3,.type "str"),(4,.type "tuple"),(5,.type "list"),(6,.type "dict")]++(A.xs.map λp=>(p.1,cG p.2))++A.cs.map λp=>(p.1,cG p.2)
noncomputable def Xu(K:bc)(c:ao):Option ai:=match mS K cO c with
 |some (aa v)=>aa v
 |some af=>if c==("__name__":ao) then af else fQ c
 |none=>af
noncomputable def Gy:ai->Bool
 |.ref _=>ae
 |.type _=>ae
 |_=>ag
noncomputable def ml (o:Option (Option ai))(s:String):Bool:=match o with
 |some (aa (.builtin x))=>x==s
 |_=>ag
theorem yO(h:ml o s=ae):o=aa (aa (.builtin s)):=by
 unfold ml at h;split at h
 .rw[beq_iff_eq.mp h]
 .injection h
noncomputable def Xf(o:Option (Option ai)):Bool:=match o with
 |some af=>ae
 |_=>ag
theorem Qk(h:Xf o=ae):o=aa af:=by
 unfold Xf at h;split at h
 .rfl
 .injection h
noncomputable def hO(o:Option Bool)(b:Bool):Bool:=match o with|some c=>c==b|none=>ag
theorem jT(h:hO o b=ae):o=aa b:=by
 cases o with
 |none=>injection h
 |some c=>have:=h;rw[beq_iff_eq.mp this]
noncomputable def px (K:bc)(C:ak):Bool:=ml (cP K (.ref C) "__class__") "object.__class__"&&ml (li K (.builtin "object.__class__") "__get__") "getset_descriptor.__get__"&&hO (oA K (.builtin "object.__class__")) ae&&hO (fR K C (.type "object")) ae
noncomputable def CO(K:bc)(C:ak):Bool:=px K C&&ml (cP K (.ref C) "__getattribute__") "BaseException.__getattribute__"&&Xf (cP K (.ref C) "__getattr__")&&hO (fR K C (.type "BaseException")) ae&&(hO (fR K C (.type "KeyError")) ag&&hO (fR K C (.type "ZeroDivisionError")) ag)&&(mP K C).isSome
noncomputable def X9(K:bc)(C:ak):Bool:=px K C&&m6 K C i_&&lx K C&&sD K C&&ml (cP K (.ref C) "__setattr__") "object.__setattr__"
noncomputable def mq (K:bc)(A:gO)(cls fld:List (ao×Nat)):Bool:=
 cls.all (λp=>match Xu K p.1 with
  |some v=>Gy v&&(tO A).all (λq=>hO (oJ K q.2 v) (vV q.1 p.2))&&(lP 40 p.2 || (match v with|.ref C=>A.xs.all (λq=>hO (sq K (.ref q.2) (.ref C)) (vV q.1 p.2))|_=>ae))
  |none=>ag)&&
 A.xs.all (λq=>CO K q.2)&&A.cs.all (λq=>X9 K q.2&&fld.all (λp=>Xf (cP K (.ref q.2) p.1)))&&fld.all (λp=>match nU[p.2]? with|some x=>x==p.1|none=>ag)
set_option tactic.hygienic true in
theorem yk{K:bc}(X:K.In h)(G:h.Ns cO mg)(e:Xu K c=aa v):uo mg c v/\∀u,uo mg c u->u=v:=by
 unfold Xu at e;split at e
 .rename_i b q;cases e;have m:=gP X G q;refine⟨.inl m,λu z=>?_⟩;rcases z with z|⟨z,_⟩
  .rw[m] at z;(replace z:=zo z;subst z);rfl
  .rw[m] at z;exact w6 z
 .rename_i q;have m:=PySem.W.mg_none_of X G q;split at e
  .exact z9 e
  .rename_i a;refine⟨.inr ⟨m,e,λz=>a (by rw[z];rfl)⟩,λu z=>?_⟩;rcases z with z|⟨_,z,_⟩
   .rw[m] at z;exact z9 z
   .rw[e] at z;(replace z:=zo z;subst z);rfl
 .exact z9 e
theorem qm{α β:Type}[BEq α][LawfulBEq α]{x:α}{v:β}:∀{l:List (α×β)},l.lookup x=aa v->(x,v)∈l
 |[],h=>z9 h
 |(y,w)::r,h=>by
  rw[eU] at h;cases q:x==y with
  |true=>rw[q] at h;cases h;rw[beq_iff_eq.mp q];exact dt
  |false=>rw[q] at h;exact cJ _ (qm h)
theorem df{α:Type}:∀{l:List (ao×α)},x∈l.map (·.1)->∃v,l.lookup x=aa v
 |[],h=>by simp at h
 |(y,w)::r,h=>by
  rw[eU];cases q:x==y with
  |true=>exact⟨w,rfl⟩
  |false=>
   rcases bC.mp h with z|z
   .have z:=z;rw[z] at q;simp at q
   .exact df z
section
variable {P:Program}{w:World}{K:PySem.W.Frag}{mg:ao->Option ai}{base:aG}{A:gO}{clo:Nat->ak->Option HO->List V->Prop}{cls fld:List (ao×Nat)}{gs:List (ao×GM)}{N G cel own:List ao}{k:Nat}{lam:Option (Nat×List Pos)}{tabs:Nat->Option (ak×List Pos×ao)}
theorem Lx(h:WZ (hM K A clo tabs) t u):(t,u)∈tO A:=by
 unfold tO;rcases h with⟨rfl,rfl⟩|⟨rfl,rfl⟩|⟨rfl,rfl⟩|⟨rfl,rfl⟩|⟨rfl,rfl⟩|⟨rfl,rfl⟩|⟨C,h,rfl⟩|⟨rfl,rfl⟩|⟨C,h,rfl⟩
 .simp
 .simp
 .simp
 .simp
 .simp
 .simp
 .exact c_ _ (cD _ (ba.mpr ⟨(t,C),qm h,rfl⟩))
 .simp
 .exact cD _ (ba.mpr ⟨(t,C),qm h,rfl⟩)
noncomputable def bT (P:bL)(w:dh)(K:bc)(mg:ao->Option ai)(base:aG)(A:gO)(clo:Nat->ak->Option HO->List V->Prop)(k:Nat)(gs:List (ao×GM))(tabs:Nat->Option (ak×List Pos×ao):=λ_=>af):Prop:=∀p∈gs,bD (hM K A clo tabs) P w K mg base k p.1 p.2/\(p.1==("__debug__":ao))=ag
theorem bD.mono(h:j<=k)(q:bD D P w K mg base j x g):bD D P w K mg base k x g:=by
 cases g with
 |fn f=>obtain⟨m,a,fd,ps,kk,b,c,d,r⟩:=q;exact⟨m,a,fd,ps,kk,b,c,cf d h,r⟩
 |met c nm f=>obtain⟨C,fI,fd,ps,kk,a,b,c,d,e,n,r⟩:=q;exact⟨C,fI,fd,ps,kk,a,b,c,d,e,cf n h,r⟩
 |mk c z f=>obtain⟨C,fI,fd,ps,kk,a,b,c,d,e,r⟩:=q;exact⟨C,fI,fd,ps,kk,a,b,c,d,cf e h,r⟩
 |xin c f nm fl=>obtain⟨C,HE,fI,fd,ps,kk,A,y,u,s,p,o,r⟩:=q;exact⟨C,HE,fI,fd,ps,kk,A,y,u,s,p,cf o h,r⟩
 |kap ls=>exact⟨λt φ α H v d=>let ⟨a,kk,h1,l,i⟩:=q.1 t φ α H v d;⟨a,kk,h1,cf l h,i⟩,q.2⟩
 |_=>exact q
theorem bT.mono(h:j<=k)(q:bT P w K mg base A clo j gs tabs):bT P w K mg base A clo k gs tabs:=λp a=>⟨(q p a).1.mono h,(q p a).2⟩
theorem bT.add (q:bT P w K mg base A clo k gs tabs) (h:bD (hM K A clo tabs) P w K mg base k x g) (a:(x==("__debug__":ao))=ag):bT P w K mg base A clo k ((x,g)::gs) tabs:=λp b=>by
 rcases bC.mp b with rfl|z
 .exact⟨h,a⟩
 .exact q p z
noncomputable def Jg(bs:List ao)(xs:List (ao×Nat))(a:List (ao×Nat×Nat)):List (ao×GM):=bs.map (λx=>(x,GM.none))++xs.map (λx=>(x.1,GM.xcl x.2))++a.map (λx=>(x.1,GM.xcf x.2.1 x.2.2))
noncomputable def pT (K:bc)(A:gO)(x:ao)(c:Nat):Bool:=match A.xs.lookup c,mS K cO x with
 |some C,aa (aa (.ref a))=>C==a
 |_,_=>ag
set_option tactic.hygienic true in
theorem Ye(X:K.In base)(d:base.Ns cO mg)(h:pT K A x c=ae):∃C,A.xs.lookup c=aa C/\mg x=aa (.ref C):=by
 unfold pT at h;split at h
 .rename_i C e b a;have h:=beq_iff_eq.mp h;subst h;exact⟨C,b,gP X d a⟩
 .injection h
set_option tactic.hygienic true in
theorem C6(X:K.In base)(J:base.Ns cO mg)(hc:mq K A cls fld=ae)(q:bT P w K mg base A clo k gs tabs):ff (hM K A clo tabs) P w K mg base (cn cls fld gs N G cel own lam lnm) k:=by
 simp only[mq,bW,eP] at hc;obtain⟨⟨⟨I,c2⟩,S⟩,c4⟩:=hc;have R:∀{C},px K C=ae->cP K (.ref C) "__class__"=aa (aa (.builtin "object.__class__"))/\li K (.builtin "object.__class__") "__get__"=aa (aa (.builtin "getset_descriptor.__get__"))/\oA K (.builtin "object.__class__")=aa ae/\fR K C (.type "object")=aa ae:=λ{C} h=>by
  simp only[px,bW] at h;exact⟨yO h.1.1.1,yO h.1.1.2,jT h.1.2,jT h.2⟩
 have L:∀c C,A.cs.lookup c=aa C->lG K C:=λc C h=>by
  have a:=(S _ (qm h)).1;simp only[X9,bW] at a;obtain⟨⟨⟨⟨H,F⟩,d⟩,E⟩,D⟩:=a;obtain⟨p,o,m,l⟩:=R H;exact⟨⟨F,d,E,yO D⟩,p,o,m,l⟩
 refine⟨rfl,λx U=>?_,λt x c b u v Z Y=>?_,λc C x f j O=>?_,λc C j=>?_,L,λx c b=>?_,λt x c b hlt Ct Cc s B=>?_⟩
 .obtain⟨g,M⟩:=df U;have:=q _ (qm M);refine⟨?_,this.2⟩;show bD _ P w K mg base k x ((gs.lookup x).getD .bad);rw[M];exact this.1
 .have a:=I _ b;split at a
  .rename_i v' i;simp only[bW,eP] at a;have e:=(yk X J i).2 v Y;subst e;exact jT (a.1.2 _ (Lx Z))
  .injection a
 .have a:=c4 _ O;refine⟨?_,(L c C j).cl,Qk ((S _ (qm j)).2 _ O)⟩;split at a
  .rename_i y T;show nU[f]?=aa x;rw[T,beq_iff_eq.mp a]
  .injection a
 .have a:=c2 _ (qm j);simp only[CO,bW] at a;obtain⟨⟨⟨⟨⟨H,F⟩,d⟩,E⟩,Q⟩,D⟩:=a;obtain⟨p,o,m,l⟩:=R H;exact⟨yO F,Qk d,p,o,m,l,jT E,⟨jT Q.1,jT Q.2⟩,D⟩
 .have a:=I _ b;split at a
  .rename_i v i;simp only[bW] at a;have r:=a.1.1;refine⟨v,(match v with|.ref C=>V.ref C|.type n=>V.ty n|_=>V.n),(yk X J i).1,?_⟩;cases v with
   |ref C=>exact .inl ⟨C,rfl,rfl⟩
   |type n=>exact .inr ⟨n,rfl,rfl⟩
   |_=>injection r
  .injection a
 .have a:=I _ b;split at a
  .rename_i v i;simp only[bW,oQ] at a;have e:=(yk X J i).2 (.ref Cc) (.inl B);subst e;have d:=a.2.resolve_left (λz=>by have:=sH z;lia);simp only[eP] at d;exact jT (d _ (qm s))
  .injection a
end
noncomputable abbrev ve{β:Type}(t:T)(k:Key->RE β):RE β:=match t with
 |.int i=>k (.inl i)
 |.str x=>k (.inr x)
 |_=>.st
noncomputable abbrev mo(ps:List (De×De)):Sl->Mem->RE (List (Key×T)):=eN (motive:=λ_=>Sl->Mem->RE (List (Key×T))) (λ_ e=>.ok [] e) (λp _ h a e=>(p.1 a e).bind λg d=>(p.2 a d).bind λv c=>ve g λk=>(h a c).bind λf b=>.ok ((k,v)::f) b) ps
noncomputable abbrev US(ps:List (De×De)):De:=λc d=>(mo ps c d).bind λa b=>.grd ((a.map (·.1)).Nodup) (.ok (.d a) b)
noncomputable abbrev Y0(ps:List (De×De)):De:=λc d=>(mo ps c d).bind λb a=>.grd ((b.map (·.1)).Nodup) (.ok (.m a.length) (a++[.d b]))
section
variable {X:Cx}{D:DP}{W:XW}{pins:List (ak×bj)}{s:Shared}{σ:St}{H:Hp}{φ α:List ak}{τ:Sl}{μ:Mem}{pos:Pos}
theorem au.layO(m:au D φ α H μ)(g:H p=af)(d:c9 D φ (α++[p]) (upd H p u) B p):au D φ (α++[p]) (upd H p u) (μ++[B]):=by
 have l:=m.len;refine⟨by simp[l],?_,λb hb=>?_,λb hb=>?_,λi a o c f=>?_⟩
 .rw[gi];refine⟨m.nd,sC,λa r b hb=>?_⟩;rw[aT.mp hb];intro z;exact zh m g (z▸r)
 .rcases bf.mp hb with h|h
  .exact m.dis b h
  .rw[aT.mp h];exact zi m g
 .obtain⟨u,e,n⟩:=m.phi b hb;exact⟨u,ze g b u e,n⟩
 .by_cases hi:i<α.length
  .rw[cE hi] at c;rw[cE lC] at f;have d:=m.ob i a o c f;obtain⟨u,q,_⟩:=d.some;exact d.step (vz g) ((ze g _ _ q).trans q.symm)
  .rw[dL lC] at c f;have k:i-α.length=0:=by
    by_cases z:i-α.length=0
    .exact z
    .rw[iW (by simp;lia)] at c;exact z9 c
   have j:i-μ.length=0:=by lia
   rw[k] at c;rw[j] at f;(replace c:=zo c;subst c);(replace f:=zo f;subst f);exact d
noncomputable def dI (X:Cx)(D:DP)(W:XW):List (Option ap)->List ap->List (De×De)->Prop
 |[],[],[]=>True
 |some a::ks,b::c,p::d=>PE X a (aD D W p.1)/\PE X b (aD D W p.2)/\dI X D W ks c d
 |_,_,_=>False
theorem dI.all:∀{ks:List (Option ap)}{vs:List ap}{ps:List (De×De)},dI X D W ks vs ps->ks.all (·.isSome)=ae/\ks.length=vs.length/\ks.length=ps.length
 |[],[],[],_=>⟨rfl,rfl,rfl⟩
 |some a::ks,b::vs,p::ps,h=>by
  obtain⟨h1,h2,c⟩:=dI.all h.2.2;exact⟨by simpa using h1,by simp[h2],by simp[c]⟩
 |[],[],_::_,h=>h.elim
 |[],_::_,_,h=>h.elim
 |none::_,_,_,h=>h.elim
 |some _::_,[],_,h=>h.elim
 |some _::_,_::_,[],h=>h.elim
theorem YK{R:List (Key×T)->Mem->List ak->Hp->Prop}{Qf:List (ai×ai)->aJ->Prop}:∀{ks:List (Option ap)}{vs:List ap}{ps:List (De×De)}{s:aJ}{H:Hp}{α:List ak}{μ:Mem}{R:List (Key×T)->Mem->List ak->Hp->Prop},dI X D W ks vs ps->Inv X pins σ H s->aH D φ α H τ σ->au D φ α H μ->aq D W φ α H σ R (mo ps τ μ)->
  aA (aC X.prog X.w) X.A (evalPairs (pairTrees ks vs X.env pos)) (λus G=>∃B j z kvs gs C,Inv X pins σ B G/\aw α H j B/\au D φ j B z/\aM D φ j B kvs gs/\Carries (zC X.prog X.w) us C/\KV gs C/\kvs.length=ps.length/\R kvs z j B) X.xe s
 |[],[],[],s,H,α,μ,R,_,I,O,l,p=>pairTrees_nil_walk ⟨H,α,μ,[],[],[],I,aw.refl _ _,l,rfl,trivial,.nil,rfl,p.ok (aw.refl _ _) l⟩
 |some a::ks,b::vs,p0::ps,s,H,α,μ,R,h,I,O,l,p=>by
  refine pairTrees_cons_walk (aF (sub h.1 I O l p) ?_);rintro u s1 ⟨v,H1,t,U,V,I1,Q,y,F,K,S,p1⟩;refine aF (sub h.2.1 I1 F K p1) ?_;rintro M Y ⟨L,H2,N,m,o,I2,Z,x,E,J,d2,f⟩
  have i:∀(d:Key),(zC X.prog X.w).is d u=ae->aq D W φ o H2 σ R ((mo ps τ m).bind λkvs c=>.ok ((d,N)::kvs) c)->
    aA (aC X.prog X.w) X.A (evalPairs (pairTrees ks vs X.env pos)) (λr P=>(λus G=>∃B j z kvs gs C,Inv X pins σ B G/\aw α H j B/\au D φ j B z/\aM D φ j B kvs gs/\Carries (zC X.prog X.w) us C/\KV gs C/\kvs.length=(p0::ps).length/\R kvs z j B) ((u,M)::r) P) X.xe Y:=λd hk p3=>by
   refine aF (YK (Qf:=Qf) (R:=λ_ _ _ _=>True) h.2.2 I2 E J p3.bind) ?_;rintro us P ⟨H3,n,c,kvs,gs,C,I3,e,g,dk,cr,kv,k,q3⟩;exact⟨H3,n,c,(d,N)::kvs,(d,L)::gs,(d,M)::C,I3,(y.trans x).trans e,g,⟨L,gs,rfl,d2.step e,dk⟩,⟨hk,rfl,cr⟩,.cons ⟨rfl,Z⟩ kv,by simp[k],q3.ok (aw.refl _ _) g⟩
  unfold ve at f;split at f
  .subst S;obtain⟨q,rfl⟩:=Q;exact i _ (xI _ _ _ q) f
  .subst S;obtain⟨q,rfl⟩:=Q;exact i _ (xA _ _ _ q) f
  .exact f.elim
 |[],[],_::_,_,_,_,_,_,h,_,_,_,_=>h.elim
 |[],_::_,_,_,_,_,_,_,h,_,_,_,_=>h.elim
 |none::_,_,_,_,_,_,_,_,h,_,_,_,_=>h.elim
 |some _::_,[],_,_,_,_,_,_,h,_,_,_,_=>h.elim
 |some _::_,_::_,[],_,_,_,_,_,h,_,_,_,_=>h.elim
theorem aM.keys:∀{kvs:List (Key×T)}{gs:List (Key×V)},aM D φ α H kvs gs->gs.map (·.1)=kvs.map (·.1)
 |[],_,h=>by have:=h;subst this;rfl
 |p::r,_,h=>by
  obtain⟨v,a,rfl,_,l⟩:=h;simp[aM.keys l]
theorem KV.keys:∀{gs:List (Key×V)}{a:List (Key×ai)},KV gs a->a.map (·.1)=gs.map (·.1)
 |_,_,.nil=>rfl
 |_,_,.cons r t=>by simp[KV.keys t,r.1]
theorem QA{vs:List ap}{Q:VK}{kk:List (Key×T)->Mem->RE T}(h0:ks≠[])(N:ks.length<=15)(h:dI X D W ks vs ps)
  (I:Inv X pins σ H s) (sr:aH D φ α H τ σ) (i:au D φ α H μ) (p:aq D W φ α H σ (RV D φ Q) ((mo ps τ μ).bind λkvs G=>.grd ((kvs.map (·.1)).Nodup) (kk kvs G)))
  (Kq:∀b B E kvs gs j,aw α H B E->H b=af->b∉φ->b∉B->au D (φ++[b]) B E j->(∃u,E b=aa u)->aM D (φ++[b]) B E kvs gs->aq D W φ α H σ (RV D φ Q) (kk kvs j)->Q (.ref b) (upd E b (.dK gs))) :
  aA (aC X.prog X.w) X.A (eval (.Dict ks vs pos) X.env) (EP X pins σ Q) X.xe s:=by
 have r:=I.hok.fresh (aK _);have t:v_ H (upd H s.heap.objs.size (.dK [])):=ze r;have M:=oh (show fF<cO by decide) (by first|exact (I.ok.mod.glob.keeps I.bk).lt|exact (I.mod.glob.keeps I.bk).lt);have n1:=zi i r;have F:=zh i r;have lk:Lk φ α H (φ++[s.heap.objs.size]) α (upd H s.heap.objs.size (.dK [])):=uc r t;have y:=sr.lk lk;have K:=i.lk lk (λc a=>by
  have V:c≠s.heap.objs.size:=λz=>F (z▸a);exact⟨z6 V,λz=>(bf.mp z).elim (i.dis c a) λz=>V (aT.mp z)⟩) λc a=>by
  rcases bf.mp a with z|z
  .obtain⟨o,e,n⟩:=i.phi c z;exact⟨o,t c o e,n⟩
  .rw[aT.mp z,z0];exact⟨_,rfl,rfl⟩
 obtain⟨Z,S,q0,L,k⟩:=p;have p1:aq D W (φ++[s.heap.objs.size]) α (upd H s.heap.objs.size (.dK [])) σ (λkvs j _ _=>(kvs.map (·.1)).Nodup/\kk kvs j Z S) (mo ps τ μ):=⟨_,S,q0,λkvs j e _ _ _ _=>e,λc fs j z B E C d st m ad xd=>by
  have m':=m.lk qt (λc a=>⟨rfl,λz=>m.dis c a (c_ _ z)⟩) λc a=>m.phi c (c_ _ a);exact k c fs j z B E C d ((aw.new t).trans st) m' ad (xd.lk qt)⟩
 refine wpAny_Dict_walk (knd:=zC X.prog X.w) h.all.1 h.all.2.1 h0 N (aF (YK (Qf:=λ_ _=>True) (R:=λ_ _ _ _=>True) h (I.laid (o:=.dK []) (λ_ _ q=>bv _ q) (aK _) ⟨fU _,beq_eq_false_iff_ne.mpr (bd (b_ M)),[],.nil,sx _⟩) y K p1) ?_);rintro us s3 ⟨H3,x,v,kvs,gs,U,I3,f,J,P,cr,Y,hkl,nd,q3⟩;have O:=f.keep _ _ F z0;obtain⟨z,hd,vs0,r0,dd⟩:=(I3.hok _ _ O);cases r0;have hm:=merged_nil_of_nodup U (KV.keys Y▸aM.keys P▸nd);refine⟨U,cr,dd,λh' g hs=>⟨.ref s.heap.objs.size,upd H3 s.heap.objs.size (.dK gs),?_,rfl,?_⟩⟩
 .rw[hm] at g;have he:∃q,h'.get? s.heap.objs.size=aa q:=let ⟨q,_,_,hq,_⟩:=g;⟨q,hq⟩;have l:gs.length<=15:=by
   have e1:gs.length=kvs.length:=by simpa using congrArg fE (aM.keys P)
   have e2:=h.all.2.2;lia
  exact I3.write (O▸eM) (.inl rfl) (λb u M hu=>(hs.2 b M).trans hu) he ⟨cf l dC,hd,_,Y,g⟩
 .exact Kq _ x H3 kvs gs v ((aw.new t).trans f) r n1 (f.out F z0) J ⟨_,O⟩ P ⟨Z,S,q3,L,k⟩
theorem JC(st:aw α H j u)(hb:H b=af):aw α H j (upd u b (.dK gs)):=
 ⟨st.ext,λc o n e=>(z6 (zJ e hb))▸st.keep c o n e,λc e=>by
  by_cases a:c=b
  .rw[a];exact hb
  .rw[z6 a] at e;exact st.live c e⟩
theorem Wk(m:au D (φ++[b]) α H μ):au D φ α (upd H b (.dK gs)) μ:=by
 have e:au D (φ++[b]) α (upd H b (.dK gs)) μ:=m.lk (kj (by simp)) (λc a=>⟨by rw[z6 (λz=>m.dis c a (by rw[z];simp))],m.dis c a⟩) λc a=>by
  by_cases d:c=b
  .rw[d,z0];exact⟨_,rfl,rfl⟩
  .rw[z6 d];exact m.phi c a
 exact e.lk qt (λc a=>⟨rfl,λz=>e.dis c a (c_ _ z)⟩) λc a=>e.phi c (c_ _ a)
theorem Hg:Lk (φ++[b]) α H φ α (upd H b (.dK gs)):=⟨λa o c d e=>⟨λz=>c (c_ _ z),d,(z6 (λz:a=b=>c (by rw[z];simp)))▸e⟩,λ_ _ e=>e⟩
theorem HX{ks:List (Option ap)}(h0:ks≠[])(a:ks.length<=15)(h:dI X D W ks vs ps):PE X (.Dict ks vs pos) (aD D W (US ps)):=by
 rintro c s u H Q I ⟨r,w,t,v,f,j,p⟩;exact QA h0 a h I f j p λb e y k n d st l i g m x o q=>q.ok (JC st l) (Wk m) _ ⟨b,n,rfl,i,g,z0,o.lk Hg⟩
theorem UJ{ks:List (Option ap)}(h0:ks≠[])(A:ks.length<=15)(h:dI X D W ks vs ps):PE X (.Dict ks vs pos) (aD D W (Y0 ps)):=by
 rintro C s Y H Q I ⟨r,J,V,Z,K,N,p⟩;refine QA h0 A h I K N p λb d n u gs g st F M L m hx U q=>?_;have E:au D r d (upd n b (.dK gs)) g:=Wk m;have t:aw J H (d++[b]) (upd n b (.dK gs)):=by
  obtain⟨G,rfl,w⟩:=st.ext;have B:=JC (gs:=gs) st F;exact⟨⟨G++[b],sC,λc l=>(bf.mp l).elim (w c) λz=>aT.mp z▸F⟩,B.keep,B.live⟩
 have k:Lk (r++[b]) d n r (d++[b]) (upd n b (.dK gs)):=⟨λa o v P e=>⟨λz=>v (c_ _ z),λz=>(bf.mp z).elim P λz=>v (by rw[aT.mp z];simp),(z6 (λz:a=b=>v (by rw[z];simp)))▸e⟩,λi a e=>(cE (aO.mp e).1)▸e⟩;have O:au D r (d++[b]) (upd n b (.dK gs)) (g++[.d u]):=by
  have R:=m.len;refine⟨by simp[R],?_,λc l=>?_,E.phi,λi a o f j=>?_⟩
  .rw[gi];refine⟨m.nd,sC,λa T c l=>?_⟩;rw[aT.mp l];intro z;exact L (z▸T)
  .rcases bf.mp l with h|h
   .exact E.dis c h
   .rw[aT.mp h];exact M
  .by_cases S:i<d.length
   .rw[cE S] at f;rw[cE lC] at j;exact (m.ob i a o f j).lk k (z6 λz=>m.dis a (aS f) (by rw[z];simp))
   .rw[dL lC] at f j;have y:i-d.length=0:=by
     by_cases z:i-d.length=0
     .exact z
     .rw[iW (by simp;lia)] at f;exact z9 f
    have x:i-g.length=0:=by lia
    rw[y] at f;rw[x] at j;(replace f:=zo f;subst f);(replace j:=zo j;subst j);exact⟨gs,z0,U.lk k⟩
 exact q.ok t O _ ⟨b,by rw[<-m.len,dL (aK _)];simp,rfl⟩
end
noncomputable def Dz (r:e8)(c:Cn):List (Option ap)->List ap->Option (List (EB c×EB c))
 |[],[]=>aa []
 |some a::ks,b::d=>(r.e c a).bind λf=>(r.e c b).bind λg=>(Dz r c ks d).bind λh=>aa ((f,g)::h)
 |_,_=>af
theorem Cp{a:Cn}{D:DP}{X:Cx}{W:XW}{k:Nat}(C:Ck D W a X k):∀{l:List (EB a×EB a)},dI X D W (l.map λq=>aa q.1.y) (l.map λq=>q.2.y) (l.map λq=>(q.1.d,q.2.d))
 |[]=>trivial
 |q::l=>⟨q.1.ok C,q.2.ok C,Cp C⟩
noncomputable def CF (mk:List (De×De)->De)(c:∀{D:DP}{X:Cx}{W:XW}{ks:List (Option ap)}{vs:List ap}{ps:List (De×De)}{pos:Pos},ks≠[]->ks.length<=15->dI X D W ks vs ps->PE X (.Dict ks vs pos) (aD D W (mk ps))):ER:=λr b e=>match e with
 |.Dict ks vs p=>(Dz r b ks vs).bind λl=>(match l with
  |a::l=>gd (lP l.length 14) λh=>aa ⟨.Dict (aa a.1.y::l.map λq=>aa q.1.y) (a.2.y::l.map λq=>q.2.y) p,mk ((a.1.d,a.2.d)::l.map λq=>(q.1.d,q.2.d)),λC=>c nofun (by have:=sH h;simpa using this) (Cp C (l:=a::l))⟩
  |[]=>af)
 |_=>af
noncomputable def EQ:ER:=CF US λa b c=>HX a b c
noncomputable def HJ:ER:=CF Y0 λa b c=>UJ a b c
noncomputable abbrev ej(op:T->T->Mem->RE T)(f g:De):De:=λc d=>(f c d).bind λx b=>(g c b).bind λy a=>op x y a
noncomputable abbrev vU(x y:T)(μ:Mem):RE T:=match x,y with
 |.int a,.int b=>.ok (.int (if b<a then b else a)) μ
 |_,_=>.st
noncomputable abbrev jG(x y:T)(μ:Mem):RE T:=match x,y with
 |.int a,.int b=>.ok (.int (if a<b then b else a)) μ
 |_,_=>.st
noncomputable abbrev Xn(xs:List T)(μ:Mem):RE T:=λK _=>xs.length<64/\
  ((∃ f, bM xs = aa f /\ ∀ d : List Int, d.Perm f -> d.Pairwise (· <= ·) -> K (.l (d.map T.int)) μ) \/
   (∃e, cY xs=aa e/\∀c:List ao, c.Perm e->c.Pairwise (λa b=>¬b.cps.toList<a.cps.toList)->K (.l (c.map T.str)) μ))
noncomputable abbrev JI(t:T)(μ:Mem):RE T:=match t with
 |.l xs=>Xn xs μ
 |.m i=>λK Z=>∃xs,μ[i]?=aa (.l xs)/\Xn xs μ K Z
 |_=>.st
section
noncomputable def B2 (X:Cx)(D:DP)(W:XW)(i:ai)(op:T->T->Mem->RE T):Prop:=
 ∀(a:List (ak×bj)) (s:aJ) (d:St) (H:Hp) (b c:List ak) (e:Mem) (t h:T) (v f:V) (u g:ai) (Q:VK),Inv X a d H s->au D b c H e->aI D b c H t v->aI D b c H h f->RelV v u->RelV f g->aq D W b c H d (RV D b Q) (op t h e)->
  aA (aC X.prog X.w) X.A (call i [u,g]) (EP X a d Q) X.xe s
theorem CP (C:Ck D W J X k) {id:String}(A:x∈J.G) (hg:J.gl x=.none) (hv:fQ x=aa (.builtin id)) (hn:x≠"__name__") (r:az a=ae) (o:az b=ae) (hB:B2 X D W (.builtin id) op) (ha:PE X a (aD D W f)) (hb:PE X b (aD D W g)) :
  PE X (.Call (.Name x p0) [a,b] [] pos) (aD D W (ej op f g)):=by
 have M:=C.glo _ A;rw[hg] at M;rintro h s u H Q I ⟨e,P,F,O,L,mr,p⟩;refine gn (qT I (C.glb _ A) M hv ?_ hn (C.dbG _ A))
 refine sW (aF (zF ha (zF hb qg (z7 o)) (z7 r) pos h s u H (λK t=>∃j i n l d c,K=[j,i]/\au D e c t d/\aI D e c t n j/\aI D e c t l i/\aq D W e c t u (RV D e Q) (op n l d)) I
  ⟨e,P,F,O,L,mr,p.bind.mono λn v w N z m1 q1 j E=>⟨e,w,F,v,L.step z,m1,q1.bind.mono λl d c t y m2 Z i B=>⟨j,i,n,l,d,c,rfl,m2,E.step y,B,Z⟩⟩⟩) ?_) (z7 r) (qz (by simp[o]))
 rintro us T ⟨K,N,I1,U,j,i,n,l,d,c,rfl,m,E,B,q⟩;obtain⟨S,R,rfl,Y,V⟩:=vals2 U;exact hB h T u N e c d n l j i S R Q I1 m E B Y V q
set_option tactic.hygienic true in
theorem Hf(hc:X.calm=ae):B2 X D W (.builtin "min") vU:=by
 intro a s e H m o n t A v q u w Q I b d l r g p;unfold vU at p;split at p
 .subst d;subst l;obtain⟨y,rfl⟩:=r;obtain⟨x,rfl⟩:=g;refine min_two_ints (I.ok.hd hc) λk f h=>?_;have c:Inv X a e H {s with heap:=k,toks:=f}:=I.kept h;rename_i i j;by_cases z:j<i
  .rw[if_pos z] at p ⊢;exact⟨.int j,H,c,⟨_,rfl⟩,p.here b rfl⟩
  .rw[if_neg z] at p ⊢;exact⟨.int i,H,c,⟨_,rfl⟩,p.here b rfl⟩
 .exact p.elim
set_option tactic.hygienic true in
theorem Hj(hc:X.calm=ae):B2 X D W (.builtin "max") jG:=by
 intro a s e H m o n t A v q u w Q I b d l r g p;unfold jG at p;split at p
 .subst d;subst l;obtain⟨y,rfl⟩:=r;obtain⟨x,rfl⟩:=g;refine max_two_ints (I.ok.hd hc) λk f h=>?_;have c:Inv X a e H {s with heap:=k,toks:=f}:=I.kept h;rename_i i j;by_cases z:i<j
  .rw[if_pos z] at p;rw[if_pos z];exact⟨.int j,H,c,⟨_,rfl⟩,p.here b rfl⟩
  .rw[if_neg z] at p;rw[if_neg z];exact⟨.int i,H,c,⟨_,rfl⟩,p.here b rfl⟩
 .exact p.elim
theorem intsAre_of:∀{ns:List Int}{us:List ai},aE (ns.map V.int) us->fO us ns
 |[],_,.nil=>.nil
 |n::ns,_,.cons r q=>by
  obtain⟨t,rfl⟩:=r;exact .cons n t (intsAre_of q)
theorem vals_ints:∀{us:List ai}{ns:List Int},fO us ns->aE (ns.map V.int) us
 |_,_,.nil=>.nil
 |_,_,.cons n t q=>.cons ⟨t,rfl⟩ (vals_ints q)
theorem yK:∀{ns:List ao}{us:List ai},aE (ns.map V.str) us->StrsAre us ns
 |[],_,.nil=>.nil
 |n::ns,_,.cons r q=>by
  obtain⟨t,rfl⟩:=r;exact .cons n t (yK q)
theorem Za:∀{us:List ai}{ns:List ao},StrsAre us ns->aE (ns.map V.str) us
 |_,_,.nil=>.nil
 |_,_,.cons n t q=>.cons ⟨t,rfl⟩ (Za q)
theorem QI:∀{ns:List Int},av D φ α H (ns.map T.int) (ns.map V.int)
 |[]=>rfl
 |n::ns=>⟨V.int n,_,rfl,rfl,QI⟩
theorem QW:∀{ns:List ao},av D φ α H (ns.map T.str) (ns.map V.str)
 |[]=>rfl
 |n::ns=>⟨V.str n,_,rfl,rfl,QW⟩
theorem jK:∀{ts:List T}{a:List ao}{vs:List V},cY ts=aa a->av D φ α H ts vs->vs=a.map V.str
 |[],a,vs,h,l=>by
  simp[cY] at h;subst h;exact l
 |.str x::r,a,vs,h,l=>by
  obtain⟨v,q,rfl,d,l⟩:=l;simp only[cY,l6] at h;obtain⟨b,h,rfl⟩:=h;subst d;rw[jK h l];rfl
theorem jR:∀{l:List ao}{x:ao},risingS x l=ae->(∀y∈l,¬y.cps.toList<x.cps.toList)/\l.Pairwise (λa b=>¬b.cps.toList<a.cps.toList)
 |[],x,_=>⟨sC,.nil⟩
 |y::r,x,h=>by
  have f:(!ltCps y.cps.toList x.cps.toList)=ae/\risingS y r=ae:=by
   simpa[risingS] using h
  obtain⟨d,e⟩:=f;have d:¬y.cps.toList<x.cps.toList:=by
   rw[ltCps_eq] at d;simpa using d
  obtain⟨a,b⟩:=jR e;refine⟨λz c=>?_,.cons (λz c=>a z c) b⟩;rcases bC.mp c with rfl|c
  .exact d
  .exact λq=>d (List.lt_of_le_of_lt (List.not_lt.mp (a z c)) q)
theorem Z1(h:sortedS l=ae):l.Pairwise (λa b=>¬b.cps.toList<a.cps.toList):=by
 cases l with
 |nil=>exact .nil
 |cons x r=>exact .cons (λy c=>(jR h).1 y c) (jR h).2
theorem V_{ad:ak}(I:Inv X j z H s)(x:au D φ α H μ)(q:Rd H ad (.l vs))(l:av D φ α H xs vs)(p:aq D W φ α H z (RV D φ Q) (Xn xs μ)) :
  aA (aC X.prog X.w) X.A (call (.builtin "sorted") [.ref ad]) (EP X j z Q) X.xe s:=by
 obtain⟨f,h,E,S⟩:=I.list (.inl q);obtain⟨M,U,⟨y,i⟩,J,R⟩:=p;have a:f.length<64:=by
  rw[<-h.length,<-l.length];exact y
 have k:∀(out:Array ai) (g:List V) (t:List T),aE g out.toList->(∀N,av D φ α N t g)->g.length<=sizeLine->M (.l t) μ->EP X j z Q (.ref (s.heap.objs.size+1)) {s with heap:=sortedAll s.heap f out}:=λout g t r d K G=>by
  obtain⟨e,L⟩:=sortedAll_at s.heap f out;have u:=I.hok.fresh (fD _);exact⟨.ref (s.heap.objs.size+1),upd H (s.heap.objs.size+1) (.l g),I.laid (λb o e=>sortedAll_old e) (fD _) ⟨K,out.toList,e,r,BE▸L⟩,rfl,(J (.l t) μ G α _ (aw.new (ze u)) (x.new (ze u)) _ ⟨_,g,rfl,zi x u,zh x u,.inl z0,d _⟩)⟩
 have F:∀n,n<64->n<=sizeLine:=λn v=>by rw[db];lia
 rcases i with⟨P,v,i⟩|⟨O,v,i⟩
 .have e:=jP v l;subst e;refine sorted_ints E.isList (intsAre_of h) a λout c C m B=>k out (c.map V.int) (c.map T.int) (vals_ints C) (λ_=>QI) (F _ ?_) (i c m B);rw[aL,m.length_eq];have:=h.length;rw[aL] at this;lia
 .have e:=jK v l;subst e;refine sorted_strs E.isList (yK h) a λout c C m B=>k out (c.map V.str) (c.map T.str) (Za C) (λ_=>QW) (F _ ?_) (i c m (Z1 B));rw[aL,m.length_eq];have:=h.length;rw[aL] at this;lia
theorem LQ:B1 X D W (.builtin "sorted") JI:=by
 intro b s g H f i h t v u Q I a d r p;unfold JI at p;split at p
 .obtain⟨ad,xs,rfl,_,_,q,l⟩:=d;subst r;exact V_ I a q l p
 .obtain⟨j,c,p⟩:=p.ex1;obtain⟨ad,e,rfl⟩:=d;subst r;obtain⟨xs,q,l⟩:=a.ob _ ad _ e c;exact V_ I a (.inl q) l p
 .exact p.elim
end
noncomputable def Dm (nm:ao)(o:T->T->Mem->RE T)(H:∀{D:DP}{X:Cx}{W:XW}{c:Cn}{k:Nat}{a b:ap}{f g:De}{p0 pos:Pos},Ck D W c X k->nm∈c.G->c.gl nm=.none->c.calm=ae->az a=ae->az b=ae->PE X a (aD D W f)->PE X b (aD D W g)->PE X (.Call (.Name nm p0) [a,b] [] pos) (aD D W (ej o f g))):ER:=λr c e=>
 (x_ e).bind λq=>(Cb q.as).bind λw=>gd (u_ c nm q.x) λh=>(r.e c w.1).bind λf=>(r.e c w.2).bind λg=>gd (c.calm&&gA [f,g]) λi=>aa ⟨.Call (.Name nm q.p0) [f.y,g.y] [] q.pc,ej o f.d g.d,λC=>H C (zP h).1 (zP h).2 (zB i).1 (zB (zB i).2).1 (zB (zB (zB i).2).2).1 (f.ok C) (g.ok C)⟩
noncomputable def FF:ER:=Dm "min" vU λC a b c g f e d=>CP C a b (by decide +kernel) (by decide) g f (Hf (C.clm c)) e d
noncomputable def GQ:ER:=Dm "max" jG λC a b c g f e d=>CP C a b (by decide +kernel) (by decide) g f (Hj (C.clm c)) e d
noncomputable def Gz:ER:=iq "sorted" JI ag λC a c _ b d=>Wi C a c (by decide +kernel) (by decide) b LQ d
noncomputable abbrev VQ(c:Nat)(g:Fn)(ts:List T)(μ:Mem):RE T:=λK Z=>g (.m μ.length::ts) (μ++[.obj c []]) (λr a=>r=.n/\K (.m μ.length) a) Z
noncomputable abbrev uQ(c:Nat)(g:Fn)(fs:List De):De:=λa b=>(e5 fs a b).bind (VQ c g)
noncomputable abbrev zz(c:Nat)(g:Fn)(o:De)(as:List De):De:=λd h=>(o d h).bind λt b=>match t with
 |.obj f fs=>.grd (f=c) ((e5 as d b).bind λe a=>g (.obj f fs::e) a)
 |.m i=>λK Z=>∃fs,b[i]?=aa (.obj c fs)/\(e5 as d b).bind (λe a=>g (.m i::e) a) K Z
 |_=>.st
section
theorem JJ{c:Nat}{g:Fn}{C0 fI:ak}{kk:Nat}{vs:List V}{ts:List T}{Q:VK}(C:Ck D W Γ X k)(ad:D.cad c=aa C0)(M:Mk X.K C0 fI)(F:bF X.prog X.w X.K X.mg X.base (dB X.prog X.w) kk fI fd ps (fJ D ps.length g))
  (hr:bE (kk+1) X.A) (hb:Binds X.K fd ps []) (O:∀ts μ K Z,g ts μ K Z->ts.length=ps.length) (I:Inv X z B H s) (r:aE vs us) (S:au D φ α H μ) (d:av D φ α H ts vs) (p:aq D W φ α H B (RV D φ Q) (VQ c g ts μ)) :
  aA (aC X.prog X.w) X.A (call (.ref C0) us) (EP X z B Q) X.xe s:=by
 obtain⟨K,Z,U,hk,hz⟩:=p;have L:=O _ _ _ _ U;have hq:∀x a,H x=af->H a=af->a≠x->fJ D ps.length g (.ref x::(vs++[])) (upd (upd H a (.own x)) x (.ins C0 a [])) (λv H2=>v=.n/\Q (.ref x) H2) (λc d j=>W c d B j):=by
  intro x a hx N G;have l:v_ H (upd H a (.own x)):=ze N;have n:upd H a (.own x) x=af:=(z6 (bd G))▸hx;have i:aw α H (α++[x]) (upd (upd H a (.own x)) x (.ins C0 a [])):=(aw.new l).trans (vz n);have E:au D φ (α++[x]) (upd (upd H a (.own x)) x (.ins C0 a [])) (μ++[.obj c []]):=(S.new l).layO n ⟨C0,a,[],ad,z0,rfl⟩;have f:(α++[x])[μ.length]?=aa x:=by rw[<-S.len,dL (aK _)];simp
  refine⟨by simp only[eG,eO] at L ⊢;rw[<-d.length];exact L,φ,α++[x],.m μ.length::ts,μ++[.obj c []],⟨.ref x,vs++[],rfl,⟨x,f,rfl⟩,by rw[eO];exact d.step i⟩,E,_,_,U,?_,?_⟩
  .rintro t y ⟨rfl,q⟩ h R st m v dv;refine⟨dv,?_⟩;obtain⟨β,e,_⟩:=st.ext;refine hk _ _ q h R (i.trans st) m _ ⟨x,?_,rfl⟩;rw[e,cE (aO.mp f).1];exact f
  .rintro e fs y q h R C1 d1 st m P xd;exact hz _ _ _ q h R C1 d1 (i.trans st) m P xd
 have o:=Inv.made (C:=C0) I;have r2:aE (V.ref (s.heap.objs.size+1)::(vs++[])) (cG (s.heap.objs.size+1)::us):=.cons rfl (by rw[eO];exact r);have J:(cG (s.heap.objs.size+1)::us++[]).length=ps.length:=by
  rw[eO,eG,<-r.length,<-d.length];exact L
 refine ie (Wy I.kIn M.makes M.init (beq_iff_eq.mp M.fn) (ii (F.run _ X.stack _ _ ⟨cG (s.heap.objs.size+1)::us,[]⟩ (cG (s.heap.objs.size+1)::us) _ _ (λc d j=>W c d B j) (hr.make C0 us [])
  (o.env0.make C0 us []) (by simpa using hb _ (cG (s.heap.objs.size+1)::us) o.kIn J) r2 (hq (s.heap.objs.size+1) s.heap.objs.size (I.hok.fresh (fD _)) (I.hok.fresh (aK _)) (b_ (lz _)))) λr Y b=>?_))
 cases r with
 |error e=>exact C.xe e Y (yc o b λcls d j w=>w)
 |ok fl=>
  cases fl with
  |ret u=>
   obtain⟨v,j,I3,rv,ev,q3⟩:=o.after b;subst ev;exact⟨rv,⟨V.ref (s.heap.objs.size+1),j,I3,rfl,q3⟩⟩
  |next=>exact cW b
  |brk=>exact cW b
  |cont=>exact cW b
theorem YB(C:Ck D W j X k){c:Nat}{g:Fn}(d:x∈j.G)(J:j.gl x=.mk c ag g)(hc:j.calm=ae)(l:cH X D W u fs):PE X (.Call (.Name x p0) u [] pos) (aD D W (uQ c g fs)):=by
 have q:=C.glo x d;rw[J] at q;obtain⟨C0,Z,fd,V,Y,ad,F,M,r,i,Fn,a⟩:=q;have o:=(C.rom hc).mono i;have h:=l.stars;rintro m s O H Q I ⟨L,R,N,P,A,n,p⟩;refine gn (q_ I (C.glb x d) F ?_ (C.dbG x d));cases u with
 |nil=>
  cases fs with
  |nil=>exact o6 I.kIn M.kp (JJ (ts:=[]) C ad M Fn o r a I .nil n rfl p)
  |cons f fs=>exact l.elim
 |cons e u=>
  simp only[iM,bW] at h;refine mW I.ok.mod.kin M.kp (aF (pi (vD l) I A n p) ?_) (z7 h.1) (qz h.2);rintro T U ⟨S,H1,ts,v,w,t,B,y,z,b,K,_,E⟩;exact⟨t.kIn,JJ C ad M Fn o r a t B b K E⟩
theorem uJ(hf:∀i,D.fn i≠aa nm):∀{fs:List (Nat×T)}{gs:List (ao×V)},aY D φ α H fs gs->gs.lookup nm=af
 |[],_,h=>by subst h;rfl
 |p::r,_,h=>by
  obtain⟨x,v,q,e,rfl,_,l⟩:=h;rw[eU];have:(nm==x)=ag:=by
   apply beq_false_of_ne;intro z;exact hf p.1 (z▸e)
  rw[this];exact uJ hf l
theorem XE (hs : j.all az = ae) (b : j.length < 30) : ((dZ pos (cU j env)).all (fun x => !x.1) && (h_ pos (ic [] env)).all (fun x => x.1.isSome)
      &&decide (j.length+([]:List iK).length+(if ([]:List iK).isEmpty then 0 else 1)<30))=ae:=by
  have d:(dZ pos (cU j env)).all (λx=>!x.1)=ae:=by
    rw[eP];intro x a;have:=sE.mp (qz (env:=env) (pos:=pos) hs) x a;simpa using this
  rw[d];have c:(h_ pos (ic [] env)).all (λx=>x.1.isSome)=ae:=rfl;rw[c];simpa using b
theorem LF(C:Ck D W Γ X k){x m:ao}{c:Nat}{g:Fn}(hU:x∈Γ.U)(hg:Γ.gl x=.met c m g)(hc:Γ.calm=ae)(hp:zU o=ae)(r:(j.endLine==pos.line)=ae)(hl:z.length<30)(ho:PE X o (aD D W go))(ha:cH X D W z fs) :
  PE X (.Call (.Attribute o m j) z [] pos) (aD D W (zz c g go fs)):=by
 have q:=(C.glU x hU).1;rw[hg] at q;obtain⟨C0,fI,fd,ps,kk,ad,cl,M,L,hb,hkk,Fn,N⟩:=q;have hr:=(C.rom hc).mono hkk;have S:=ha.stars;rintro J s σ H Q I ⟨φ,α,τ,μ,sr,mr,p⟩;rw[arm_eval_Call,qj hp];refine ay (aF (sub ho I sr mr p) ?_);rintro u s1 ⟨v,H1,t,μ1,h,R,r1,st1,sr1,n,Z,p1⟩;refine ay (fS ?_);have y:methodCallForm (z.length+([]).length) (dZ pos (cU z X.env)) (h_ pos (ic [] X.env))=ae:=XE S hl;have K:lZ ae o X.env j pos=pure pos:=by unfold lZ;simp[r]
 have go:∀{b Y:ak}{O:List (ao×V)}{G:T},H1 b=aa (.ins C0 Y O)->O.lookup m=af->u=.ref b->(∀d E,aw h H1 d E->aI D φ d E G (.ref b))->aq D W φ h H1 σ (RV D φ Q) ((e5 fs τ μ1).bind λts F=>g (G::ts) F)->
   aA (aC X.prog X.w) X.A (n7 o m j pos X.env u (z.length+([]).length) (dZ pos (cU z X.env)) (h_ pos (ic [] X.env))) (EP X J σ Q) X.xe s1:=λ{b Y O G} P lk hu hd B=>by
  subst hu;unfold n7;rw[y];refine ay (dF (V2 R P cl M lk (ay (lS K ?_))));have d0:=hd h H1 (aw.refl _ _);cases z with
  |nil=>
   cases fs with
   |nil=>exact o6 R.kIn M.kp (y7 (ts:=[G]) (vs:=[.ref b]) C Fn hr hb N R (.cons rfl .nil) n ⟨_,_,rfl,d0,rfl⟩ B)
   |cons f fs=>exact ha.elim
  |cons e z=>
   simp only[iM,bW] at S;refine mW R.ok.mod.kin M.kp (aF (pi (vD ha) R sr1 n B) ?_) (z7 S.1) (qz S.2);rintro us s2 ⟨vs,E,ts,F,d,I2,r2,st2,sr2,mr2,d2,_,p3⟩;exact⟨I2.kIn,y7 (ts:=G::ts) (vs:=.ref b::vs) C Fn hr hb N I2 (.cons rfl r2) mr2 ⟨_,_,rfl,hd d E st2,d2⟩ p3⟩
 cases t with
 |obj c' gf=>
  obtain⟨hcc,B⟩:=aq.grd p1;subst hcc;obtain⟨b,C1,Y,O,rfl,n1,n2,a,P,l⟩:=id Z;rw[ad] at a;(replace a:=zo a;subst a);exact go P (uJ L l) r1 (λd E st=>Z.step st) B
 | m i=>
  obtain⟨gf,hi,B⟩:=aq.ex1 p1;obtain⟨b,hi',rfl⟩:=id Z;obtain⟨C1,Y,O,a,P,l⟩:=n.ob i b _ hi' hi;rw[ad] at a;(replace a:=zo a;subst a);exact go P (uJ L l) r1 (λd E st=>Z.step st) B
 |_=>exact aq.elim p1
end
noncomputable def tx (K:bc)(a:ak)(n:Nat):It:=⟨λi H=>∃xs x,eJ K H a xs/\xs.length=n/\i<n/\xs[n-1-i]?=aa x,λi H x b=>b=H/\∀xs,eJ K H a xs->xs[n-1-i]?=aa x,λi _=>i=n⟩
theorem XD{P:bL}{K:bc}(a it:ak)(n:Nat):dU P w K tg (tx K a n) [it] it (λi h=>h.IsRevIter it a ((n:Int)-1-(i:Int))) where
 mem:=by simp
 obj:=λi h st b f=>by
  have e:b=it:=by simpa using f
  subst e;obtain⟨o,e,c,d⟩:=st;exact⟨o,e,λv z=>by rw[d] at z;injection z⟩
 keep:=λi h L st k=>st.at λo e=>k it sC o e
 item:=by
  intro X q hw r J i j s M H E I l st m;subst q hw r;obtain⟨xs,x,G,hn,hi,F⟩:=m;obtain⟨R,O,p,hz⟩:=I.list G;obtain⟨u,T,Q⟩:=O.get F;obtain⟨C,B,U,A,y,t⟩:=l it sC;have D:n-1-i=((n-1-i:Nat):Int):=by lia
  have V:n-1-(i+1:Nat)=((n-1-i:Nat):Int)-1:=by lia
  rw[D] at st;refine wpAny_pyNext_rev_item st p.isList (by simpa using T) λL g N=>?_;have Y:=I.turned (t':=s.toks) (λb o f e=>(N.2 b f).trans e) C B A y t;obtain⟨o,e,c,d⟩:=id g;exact⟨u,rfl,uv e c d dC ⟨x,H,Y,Q,⟨rfl,λZ S=>I.list_inj S G▸F⟩,V▸g,λb f=>(l b f).1⟩⟩
 done:=by
  intro X q hw r J i j s M H E I l st m;subst q hw r;obtain⟨C,B,U,A,y,t⟩:=l it sC;subst m;have D:i-1-(i:Int) = -1:=by lia
  rw[D] at st;exact wpAny_pyNext_rev_end (I.ok.hd J) st λL eb=>⟨rfl,I.turned (λb o f e=>eb b o f e) C B A y t⟩
 self:=λ_ _ _ _ _ st h=>BD st h
noncomputable abbrev Cg(t:T)(μ:Mem):RI:=match t with
 |.l xs=>.ok xs.reverse lB μ
 |.m i=>λK _=>∃xs,μ[i]?=aa (.l xs)/\K xs.reverse (pK i xs) μ
 |_=>.st
noncomputable abbrev tJ(f:De):Di:=λa b=>(f a b).it Cg
section
theorem JQ{K:bc}{ad:ak}:gN D (tx K ad xs.length) (λφ α H=>∃vs,Rd H ad (.l vs)/\av D φ α H xs vs) xs.reverse:=
 ⟨λi φ α H ⟨vs,ok,l⟩ a=>by
  have f:=l.length;have a:i<xs.length:=by simpa using a
  exact⟨vs,vs[xs.length-1-i]'(by omega),.inl ok,by omega,a,sC⟩,λi φ α H v g t ⟨vs,ok,l⟩ a y=>by
  obtain⟨rfl,y⟩:=y;have c:i<xs.length:=by
   have:=(aO.mp a).1;simpa using this
  rw[List.getElem?_reverse c] at a;obtain⟨x,b,d⟩:=l.get a;have e:=y vs (.inl ok);rw[e] at b;(replace b:=zo b;subst b);exact⟨λ_ _ z=>z,d⟩,λφ α H _=>by show _=_;simp⟩
theorem Lg (C:Ck D W Γ X k) (hx:("reversed":ao)∈Γ.G) (hg:Γ.gl "reversed"=.none) (hs:az a=ae) (ha:PE X a (aD D W f)) :
  PI X tg (.Call (.Name "reversed" p0) [a] [] pos) (fv D W (tJ f)):=by
 have hm:=C.glo _ hx;rw[hg] at hm;rintro x s Q H R I ⟨y,α,τ,μ,sr,mr,p⟩;refine gn (qT I (C.glb _ hx) hm (show fQ "reversed"=aa (.type "reversed") by decide +kernel) ?_ dC (C.dbG _ hx));refine nt (aF (zF ha qg (z7 hs) pos x s Q H (λn i=>∃v t z c,n=[v]/\aw α H c i/\au D y c i z/\aI D y c i t v/\aq D W y c i Q (λp g h M=>∀J Ok,gN D J Ok p.1->pW D y h M p.1 p.2 Ok->p.2 g->R J M) (Cg t z).re) I ⟨y,α,τ,μ,sr,mr,p.bind.mono λt g h M st m q v d=>⟨v,t,g,h,rfl,st,m,d,q⟩⟩) ?_) (z7 hs) rfl;rintro us r ⟨n,i,O,rv,v,t,z,c,rfl,st,m,d,q⟩;obtain⟨u,rfl,r1⟩:=vals1 rv;have L:∀{ad:ak}{n:List V}{xs:List T}{lv:Mem->Prop},u=.ref ad->Rd i ad (.l n)->av D y c i xs n->R (tx X.K ad xs.length) i->aA (aC X.prog X.w) X.A (call (.type "reversed") [u]) (λv r=>aA (aC X.prog X.w) X.A (lM v) (nO X x Q tg R) X.xe r) X.xe r:=λ{ad n xs lv} hu q l hR=>by
  subst hu;obtain⟨B,U,pl,hz⟩:=O.list (.inl q);have F:B.toArray.size=xs.length:=by simp[<-U.length,l.length]
  refine call_reversed_list pl.isList ?_;have hr:({r with heap:=r.heap.push (revObj ad ((B.toArray.size:Int)-1))}).heap.IsRevIter r.heap.objs.size ad (xs.length-1-(0:Nat)):=⟨_,dy _ rfl,rfl,by rw[<-F];simp[revObj]⟩;refine BD hr ⟨r.heap.objs.size,[r.heap.objs.size],_,_,i,rfl,O.kept λb o e=>bv _ e,XD ad _ xs.length,hr,λb hb=>?_,hR⟩;have e:b=r.heap.objs.size:=by simpa using hb
  subst e;exact O.fpOk (aK _) (O.hok.fresh (aK _))
 cases t with
 |l ts=>
  obtain⟨ad,n,rfl,n1,n2,N,l⟩:=d;refine L (lv:=lB) r1 N l (q.ok (aw.refl _ _) m _ _ JQ (λP h M g lk _ _=>?_) trivial);obtain⟨a',S,e,_,_,Y,l'⟩:=aI.lk lk (show aI D y c i (.l ts) (.ref ad) from ⟨ad,n,rfl,n1,n2,N,l⟩);(injection e with e;subst e);exact⟨S,Y,l'⟩
 | m j=>
  obtain⟨ad,hj,rfl⟩:=d;have Z:=q;obtain⟨xs,E,Z⟩:=Z.ex1;obtain⟨n,N,l⟩:=m.ob j ad _ hj E;refine L (lv:=pK j xs) r1 (.inl N) l (Z.ok (aw.refl _ _) m _ _ JQ (λP h M g lk mm hl=>?_) E);obtain⟨S,Y,l'⟩:=mm.ob j ad _ (lk.st j ad hj) hl;exact⟨S,.inl Y,l'⟩
 |_=>exact aq.elim q
end
theorem Io{K:bc}(hc:mq K A cls fld=ae)(h:A.cs.lookup c=aa C):fB K C:=by
 simp only[mq,bW,eP] at hc;obtain⟨⟨⟨l,k⟩,g⟩,j⟩:=hc;have a:=(g _ (qm h)).1;simp only[X9,bW] at a;obtain⟨⟨⟨⟨i,f⟩,e⟩,d⟩,b⟩:=a;exact⟨f,e,d,yO b⟩
noncomputable def FH:(g:GM)->Option {q:Nat×Fn // g=.mk q.1 ag q.2}
 |.mk c ag g=>aa ⟨(c,g),rfl⟩
 |_=>af
noncomputable def Fc:ER:=λr a e=>(x_ e).bind λq=>(FH (a.look q.x)).bind λw=>(vk (r.e a) q.as).bind λfs=>gd (a.calm&&gA fs) λh=>aa ⟨.Call (.Name q.x q.p0) (gw fs) [] q.pc,uQ w.1.1 w.1.2 (ix fs),λC=>YB C (qi w.2 nofun).1 (qi w.2 nofun).2 (zB h).1 (QZ C (zB h).2)⟩
noncomputable def cL(m:ao):ao:=⟨#[46]++m.cps⟩
noncomputable def E_:(g:GM)->Option {q:Nat×ao×Fn // g=.met q.1 q.2.1 q.2.2}
 |.met c nm g=>aa ⟨(c,nm,g),rfl⟩
 |_=>af
noncomputable def Ci (r:e8)(a:Cn)(ky:ao)(q:DD):Option (EB a):=(E_ (a.gl ky)).bind λw=>gd (w.1.2.1==q.m&&q.pa.endLine==q.pc.line) λg=>(r.e a q.o).bind λo=>(vk (r.e a) q.as).bind λfs=>gd (zU o.y&&gA fs) λc=>gd (a.calm&&decide ((gw fs).length<30)) λb=>gd (a.U.contains ky) λf=>
 aa ⟨.Call (.Attribute o.y w.1.2.1 q.pa) (gw fs) [] q.pc,zz w.1.1 w.1.2.2 o.d (ix fs),λC=>LF C (by simpa using f) w.2 (zB b).1 (zB c).1 (zB g).2 (of_decide_eq_true (zB b).2) (o.ok C) (QZ C (zB c).2)⟩
noncomputable def EE:ER:=λr a e=>(yp e).bind λq=>Ci r a (cL q.m) q
noncomputable def Dl (nm:ao)(c:De->Di)(H:∀{D:DP}{X:Cx}{W:XW}{b:Cn}{k:Nat}{a tg:ap}{f:De}{p0 pos:Pos},Ck D W b X k->WT tg (.Call (.Name nm p0) [a] [] pos)=ae->nm∈b.G->b.gl nm=.none->az a=ae->PE X a (aD D W f)->PI X tg (.Call (.Name nm p0) [a] [] pos) (fv D W (c f))):IR:=λr b e=>
 (x_ e).bind λq=>(yS q.as).bind λa=>gd (u_ b nm q.x) λh=>(r.e b a).bind λf=>gd (az f.y) λi=>aa ⟨.Call (.Name nm q.p0) [f.y] [] q.pc,c f.d,λC g=>H C g (zP h).1 (zP h).2 i (f.ok C)⟩
noncomputable def G4:IR:=Dl "reversed" tJ λC _ a c b d=>Lg C a c b d
section
theorem wq(I:Inv X j B H s)(a:c7 X H x)(l:∀p∈j,p.1≠x)(k:aR X.prog X.w (upd H x o) s.heap x o):Inv X j B (upd H x o) s:=by
 have ne:∀b,H b≠af->b≠x:=λb h z=>h (z▸a.free);refine⟨I.ok,I.os,I.bare,⟨I.base.keep,I.base.slot,λb o e n f=>?_,I.base.there,λb xs e=>?_,λb o u e=>?_,λb i e=>?_⟩,I.loc,I.cell,?_,λy c e=>?_,λp g=>?_,λb ob e=>?_,I.len⟩
 .have:b≠x:=λz=>by
   rcases a.new with q|q
   .exact f (z▸q)
   .rw[<-z,e] at q;exact w6 q
  rw[z6 this];exact I.base.free b o e n f
 .have q:=I.base.tups b xs e;rw[z6 (ne b (by rw[q];simp))];exact q
 .have q:=I.base.frzs b o u e;rw[z6 (ne b (by rw[q];simp))];exact q
 .obtain⟨d,q⟩:=I.base.tbls b i e;exact⟨d,(z6 (ne b (by rw[q];simp)))▸q⟩
 .rw[z6 (bd a.loc)];exact I.free
 .rw[z6 (a.cel y c e)];exact I.freeC y c e
 .obtain⟨e,n,r⟩:=I.pin p g;have:=(bf.mp g).elim (a.pin p) (l p);exact⟨e,z6 this▸n,r⟩
 .by_cases z:b=x
  .subst z;rw[z0] at e;(replace e:=zo e;subst e);exact k
  .rw[z6 z] at e;exact (I.hok b ob e).stay (λ_ _ _ q=>q) (λc q=>by
    by_cases w:c=x
    .rw[w,a.free] at q;exact z9 q
    .rw[z6 w];exact q) λc _ q=>by
    by_cases w:c=x
    .rw[w,a.free] at q;exact z9 q
    .rw[z6 w];exact q
theorem jU(f:Q3 X j H b):c7 X H b/\∀p∈j,p.1≠b:=
 ⟨⟨f.1,f.2.1,f.2.2.1,f.2.2.2.1.imp id λh=>iR h,f.2.2.2.2.1,λp a=>f.2.2.2.2.2 p (c_ _ a)⟩,λp a=>f.2.2.2.2.2 p (cD _ a)⟩
end
noncomputable def tw (K:bc)(a:ak):It:=⟨λi H=>∃xs x,eJ K H a xs/\xs[i]?=aa x,λi H v b=>∃p x,H p=af/\b=upd H p (.t [.int i,x])/\v=.ref p/\∀xs,eJ K H a xs->xs[i]?=aa x,λi H=>∃xs,eJ K H a xs/\xs.length<=i⟩
theorem Ke{P:bL}{K:bc}(a e it:ak)(r:e≠it):dU P w K (.Tuple elts x1 tp) (tw K a) [e,it] e (λi h=>(∃j,IsEnum h e it (i:Nat) j)/\h.IsListIter it a i) where
 mem:=by simp
 obj:=λi h st b c=>by
  obtain⟨⟨j,d⟩,o,D,N,hd⟩:=st;have:b=e\/b=it:=by simpa using c
  rcases this with rfl|rfl
  .exact⟨_,d,λv z=>by cases z⟩
  .exact⟨o,D,λv z=>by rw[hd] at z;injection z⟩
 keep:=λi h h' st k=>⟨let ⟨j,d⟩:=st.1;⟨j,k e sC _ d⟩,st.2.at λo q=>k it sC o q⟩
 item:=by
  intro X O hw Q N i g s S H E I y st J;subst O hw Q;obtain⟨⟨j,d⟩,f⟩:=st;obtain⟨xs,x,t,C⟩:=J;obtain⟨B,A,p,hz⟩:=I.list t;obtain⟨u,hu,ru⟩:=A.get C;have Z:=jU (y e sC);have Y:=jU (y it sC);have n:=bz d;have G:it<s.heap.objs.size:=by obtain⟨o,D,_⟩:=f;exact bz D
  refine wpAny_pyNext_enum_item d f p.isList (by simpa using hu) r λh1 L m ht hz1 F=>?_;refine⟨_,rfl,wpAny_letOwnedTupleGo_enum L λR M l=>?_⟩;have T:∀b o,b≠e->b≠it->s.heap.get? b=aa o->R.get? b=aa o:=λb o V h4 q=>(l.2 b V).trans (F b o V h4 q);have I1:=kB (ch:=[e,it]) I (λb c=>by
   have:b=e\/b=it:=by simpa using c
   rcases this with rfl|rfl
   .exact Z
   .exact Y) (λb o _ c q=>T b o (λz=>c (by simp[z])) (λz=>c (by simp[z])) q) λb o _ c q=>⟨o.slots,T b o (λz=>c (by simp[z])) (λz=>c (by simp[z])) q⟩
  have I2:Inv X g S H {s with heap:=R,toks:=s.toks+1}:=I1.tok _;have U:=I.hok.fresh (aK _);have fn:=jU (I.fpOk (aK _) U);have I3:=wq I2 fn.1 fn.2 (show aR X.prog X.w _ R _ (.t [.int i,x]) from ⟨by rw[db];simp,[.int i s.toks,u],.cons ⟨_,rfl⟩ (.cons ru .nil),⟨_,((l.2 _ (fP n)).trans ht),rfl,_,rfl⟩⟩);refine⟨.ref s.heap.objs.size,_,I3,rfl,⟨s.heap.objs.size,x,U,rfl,rfl,λys hy=>I.list_inj hy t▸C⟩,⟨⟨u,M⟩,m.at λo q=>(l.2 it (bd r)).trans q⟩,λb c=>?_⟩;have:b=e\/b=it:=by simpa using c
  rcases this with rfl|rfl
  .rw[z6 (b_ n)];exact Z.1.free
  .rw[z6 (b_ G)];exact Y.1.free
 done:=by
  intro X O hw Q N i g s S H E I y st J;subst O hw Q;obtain⟨⟨j,d⟩,f⟩:=st;obtain⟨xs,t,C⟩:=J;obtain⟨B,A,p,hz⟩:=I.list t;obtain⟨f0,f1,f2,f3,f4,f5⟩:=y it sC;have hl:=A.length;exact wpAny_pyNext_enum_end (I.ok.hd N) d f p.isList (by simp;lia) λh' eb=>⟨rfl,I.turned (λb o c e=>eb b o c e) f0 f1 f3 f4 f5⟩
 self:=λ_ _ _ _ _ st h=>let ⟨⟨j,d⟩,_⟩:=st;A_ d h
noncomputable def xU:Int->List T->List T
 |_,[]=>[]
 |i,x::r=>.t [.int i,x]::xU (i+1) r
theorem je:∀{xs:List T}{i:Int},(xU i xs).length=xs.length
 |[],_=>rfl
 |x::r,i=>by simp[xU,je]
theorem xm:∀{xs:List T}{k:Int}{i:Nat}{t:T},(xU k xs)[i]?=aa t->∃x,xs[i]?=aa x/\t=.t [.int (k+i),x]
 |[],_,_,_,h=>by simp[xU] at h
 |x::r,k,0,t,h=>by
  (replace h:=zo h;subst h);exact⟨x,rfl,sC⟩
 |x::r,k,i+1,t,h=>by
  obtain⟨y,a,e⟩:=xm (i:=i) h;refine⟨y,a,?_⟩;rw[e,show k+(i+1:Nat)=k+1+i by lia]
noncomputable abbrev CS(t:T)(μ:Mem):RI:=match t with
 |.l xs=>.ok (xU 0 xs) lB μ
 |.m i=>λK _=>∃xs,μ[i]?=aa (.l xs)/\K (xU 0 xs) (pK i xs) μ
 |_=>.st
noncomputable abbrev U3(f:De):Di:=λa b=>(f a b).it CS
section
theorem WJ{K:bc}{ad:ak}:gN D (tw K ad) (λφ α H=>(∃vs,Rd H ad (.l vs)/\av D φ α H xs vs)/\(∀p,H p=af->p∉φ/\p∉α)) (xU 0 xs):=
 ⟨λi φ α H ⟨⟨vs,ok,l⟩,_⟩ b=>by
  have b:i<vs.length:=l.length▸je▸b;exact⟨vs,vs[i],.inl ok,sC⟩,λi φ α H v k t ⟨⟨vs,ok,l⟩,g⟩ b y=>by
  obtain⟨p,z,c,rfl,rfl,h⟩:=y;obtain⟨x,j,rfl⟩:=xm b;obtain⟨v,a,d⟩:=l.get j;have e:=h vs (.inl ok);rw[e] at a;(replace a:=zo a;subst a);have f:v_ H (upd H p (.t [.int i,z])):=ze c;refine⟨f,p,_,rfl,(g p c).1,(g p c).2,.inl z0,_,_,rfl,?_,_,_,rfl,d.step (aw.new f),rfl⟩;show V.int _=V.int _;simp,λφ α H ⟨⟨vs,ok,l⟩,_⟩=>⟨vs,.inl ok,by rw[je,l.length];exact aK _⟩⟩
theorem U_ (C:Ck D W Γ X k) (hx:("enumerate":ao)∈Γ.G) (hg:Γ.gl "enumerate"=.none) (hs:az a=ae) (ha:PE X a (aD D W f)) :
  PI X (.Tuple M x1 tp) (.Call (.Name "enumerate" p0) [a] [] pos) (fv D W (U3 f)):=by
 have hm:=C.glo _ hx;rw[hg] at hm;rintro r s Q H R I ⟨x,α,τ,μ,sr,mr,p⟩;refine gn (qT I (C.glb _ hx) hm (show fQ "enumerate"=aa (.type "enumerate") by decide +kernel) ?_ dC (C.dbG _ hx));refine nt (aF (zF ha qg (z7 hs) pos r s Q H (λn i=>∃v t y c,n=[v]/\aw α H c i/\au D x c i y/\aI D x c i t v/\aq D W x c i Q (λp g h N=>∀J Ok,gN D J Ok p.1->pW D x h N p.1 p.2 Ok->p.2 g->R J N) (CS t y).re) I ⟨x,α,τ,μ,sr,mr,p.bind.mono λt g h N st m q v d=>⟨v,t,g,h,rfl,st,m,d,q⟩⟩) ?_) (z7 hs) rfl;rintro us o ⟨n,i,B,rv,v,t,y,c,rfl,st,m,d,q⟩;obtain⟨u,rfl,r1⟩:=vals1 rv;have L:∀{ad:ak}{n:List V}{xs:List T},u=.ref ad->Rd i ad (.l n)->av D x c i xs n->R (tw X.K ad) i->aA (aC X.prog X.w) X.A (call (.type "enumerate") [u]) (λv o=>aA (aC X.prog X.w) X.A (lM v) (nO X r Q (.Tuple M x1 tp) R) X.xe o) X.xe o:=λ{ad n xs} hu q l hR=>by
  subst hu;obtain⟨its,rv2,pl,hz⟩:=B.list (.inl q);refine call_enumerate_list pl.isList λh' he hi hz' kp=>A_ he ⟨o.heap.objs.size+1,[o.heap.objs.size+1,o.heap.objs.size],_,_,i,rfl,B.kept kp,Ke ad _ _ (Nat.succ_ne_self _),⟨⟨_,he⟩,hi⟩,λb hb=>?_,hR⟩;have:b=o.heap.objs.size+1\/b=o.heap.objs.size:=by simpa using hb
  rcases this with rfl|rfl
  .exact B.fpOk (fD _) (B.hok.fresh (fD _))
  .exact B.fpOk (aK _) (B.hok.fresh (aK _))
 cases t with
 |l ts=>
  obtain⟨ad,n,rfl,n1,n2,O,l⟩:=d;refine L r1 O l (q.ok (aw.refl _ _) m _ _ WJ (λP h N g lk z _=>⟨?_,λp F=>⟨zi z F,zh z F⟩⟩) trivial);obtain⟨a',S,e,_,_,U,Z⟩:=aI.lk lk (show aI D x c i (.l ts) (.ref ad) from ⟨ad,n,rfl,n1,n2,O,l⟩);(injection e with e;subst e);exact⟨S,U,Z⟩
 | m j=>
  obtain⟨ad,hj,rfl⟩:=d;have Y:=q;obtain⟨xs,E,Y⟩:=Y.ex1;obtain⟨n,O,l⟩:=m.ob j ad _ hj E;refine L r1 (.inl O) l (Y.ok (aw.refl _ _) m _ _ WJ (λP h N g lk z hl=>⟨?_,λp F=>⟨zi z F,zh z F⟩⟩) E);obtain⟨S,U,Z⟩:=z.ob j ad _ (lk.st j ad hj) hl;exact⟨S,.inl U,Z⟩
 |_=>exact aq.elim q
end
theorem FC (h:WT tg (.Call (.Name x p0) as ks p)=ae) (a:(x != ("enumerate":ao)&&x != ("zip":ao))=ag):∃j x1 s,tg=.Tuple j x1 s:=by
 have h:((x != ("enumerate")&&x != ("zip")) || o_ tg)=ae:=h;rw[a] at h;exact JP h
noncomputable def LK:IR:=Dl "enumerate" U3 λC c b e d f=>by
 obtain⟨a,g,h,rfl⟩:=FC c (by decide);exact U_ C b e d f
end NH
namespace L2
open PySem PySem.Spec PyProof.Rows
section
variable {κ:Type}[DecidableEq κ]
noncomputable def xa(kvs:List (κ×V))(k:κ):Option V:=(kvs.find? λa=>decide (a.1=k)).map (·.2)
noncomputable def cj(kvs:List (κ×V))(k:κ)(v:V):List (κ×V):=
 if (kvs.any λa=>decide (a.1=k))=ae then kvs.map (λa=>if a.1=k then (a.1,v) else a) else kvs++[(k,v)]
theorem kF{k:κ}(e:p.1=k):xa (p::r) k=aa p.2:=by simp[xa,mY,e]
theorem kG{k:κ}(e:¬p.1=k):xa (p::r) k=xa r k:=by simp[xa,mY,e]
theorem xY(kvs:List (κ×V))(k:κ)(v:V):(cj kvs k v).length<=kvs.length+1:=by
 unfold cj;split
 .rw[aL];lia
 .rw[eX,eG,oP];lia
theorem cq.isSome_eq(r:cq o u):o.isSome=u.isSome:=by
 cases o with
 |none=>cases u with
  |none=>rfl
  |some _=>exact r.elim
 |some _=>cases u with
  |none=>exact r.elim
  |some _=>rfl
theorem cq.getD(r:cq o u)(rd:RelV d d'):RelV (o.getD d) (u.getD d'):=by
 cases o with
 |none=>cases u with
  |none=>exact rd
  |some _=>exact r.elim
 |some _=>cases u with
  |none=>exact r.elim
  |some _=>exact r
theorem KV.val(r:KV kvs vs)(k:κ):cq (xa kvs k) (lN vs k):=by
 induction r with
 |nil=>exact eM
 | @cons p q ps a h t d=>
  obtain⟨h1,h2⟩:=h;by_cases e:p.1=k
  .have c:=h1.symm.trans e;have b:lN (q::a) k=aa q.2:=by simp[lN,mY,c]
   rw[kF e,b];exact h2
  .have c:¬q.1=k:=λz=>e (h1.trans z);have b:lN (q::a) k=lN a k:=by simp[lN,mY,c]
   rw[kG e,b];exact d
theorem KV.any(r:KV kvs vs)(k:κ):(kvs.any λj=>decide (j.1=k))=vs.any λj=>decide (j.1=k):=by
 induction r with
 |nil=>rfl
 |cons h t a=>rw[lY,lY,a,h.1]
theorem KV.repl(r:KV kvs vs)(k:κ)(a:RelV y u) :
  KV (kvs.map λj=>if j.1=k then (j.1,y) else j) (vs.map λj=>if j.1=k then (j.1,u) else j):=by
 induction r with
 |nil=>exact .nil
 | @cons p q ps c h t b=>
  rw[cC,cC];refine .cons ?_ b;obtain⟨h1,h2⟩:=h;by_cases e:p.1=k
  .rw[if_pos e,if_pos (h1.symm.trans e)];exact⟨h1,a⟩
  .rw[if_neg e,if_neg (λz=>e (h1.trans z))];exact⟨h1,h2⟩
theorem KV.put(r:KV kvs vs)(k:κ)(a:RelV y u):KV (cj kvs k y) (mE vs k u):=by
 unfold cj mE;rw[r.any k];by_cases e:(vs.any λb=>decide (b.1=k))=ae
 .rw[if_pos e,if_pos e];exact r.repl k a
 .rw[if_neg e,if_neg e];exact Paired.snoc r ⟨rfl,a⟩
theorem KV.keys{kvs:List (κ×V)}(r:KV kvs vs):kvs.map (·.1)=vs.map (·.1):=by
 induction r with
 |nil=>rfl
 |cons h t a=>rw[cC,cC,a,h.1]
theorem KV.length{kvs:List (κ×V)}(r:KV kvs vs):kvs.length=vs.length:=Ao r
end
theorem Zg{P:bL}(r:RelV (kV k) u):(zC P w).is k u=ae:=by
 cases k with
 |inl i=>obtain⟨t,e⟩:=r;subst e;exact xI P w i t
 |inr x=>obtain⟨t,e⟩:=r;subst e;exact xA P w x t
section
theorem FZ(ok:cM P w H h)(e:Rd H a u):aR P w H h a u:=e.ok ok
noncomputable def pU (H:Hp)(a:ak)(kvs:List (Key×V)):Prop:=Rd H a (.dK kvs)\/∃b,H a=aa (.dE b kvs)
theorem j1(ok:cM P w H h)(e:pU H a kvs):kvs.length<=sizeLine/\(a==fF)=ag/\∃vs,KV kvs vs/\h.DictOf (zC P w) a vs:=by
 rcases e with e|⟨b,e⟩
 .exact show aR P w H h a (.dK kvs) from FZ ok e
 .obtain⟨z,y,vs,r,d⟩:=(ok a _ e);exact⟨z,y,vs,r,d.dictOf⟩
theorem GV(ok:cM P w H h)(e:Rd H a (.dK kvs)):kvs.length<=sizeLine/\(a==fF)=ag/\∃vs,KV kvs vs/\h.DictOf (zC P w) a vs:=j1 ok (.inl e)
theorem Yd(ok:cM P w H h)(e:H a=aa (.dK kvs)):kvs.length<=sizeLine/\(a==fF)=ag/\∃vs,KV kvs vs/\h.DictOf (zC P w) a vs:=GV ok (.inl e)
end
noncomputable def dJ (H:Hp)(a:ak)(y:V)(r:Option V):Prop:=∃b k,pU H a b/\y=kV k/\r=xa b k
noncomputable def iG (H:Hp)(a:ak)(y v:V)(d:Hp):Prop:=∃b k,(H a=aa (.dK b)\/∃c,H a=aa (.dE c b))/\y=kV k/\b.length<sizeLine/\d=upd H a (.dK (cj b k v))
theorem dJ.k{k:Key}(e:H a=aa (.dK kvs)):dJ H a (kV k) (xa kvs k):=⟨kvs,k,.inl (.inl e),rfl,rfl⟩
theorem iG.k{k:Key}(e:H a=aa (.dK kvs))(b:kvs.length<sizeLine):iG H a (kV k) v (upd H a (.dK (cj kvs k v))):=⟨kvs,k,.inl e,rfl,b,rfl⟩
section
theorem Inv.big(I:Inv X j u H s):fF<s.heap.objs.size:=by
 have h:=(I.mod.glob.keeps I.bk).lt;exact oh dC h
theorem KZ(i:A.units+1<cLine)(I:Inv X j D H s)(g:dJ H a y (aa v))(c:RelV y u)(h:∀B C,Inv X j D H C->RelV v B->Q B C) :
  aA (aC X.prog X.w) A (gU (.ref a) u) Q E s:=by
 obtain⟨d,k,e,rfl,l⟩:=g;obtain⟨z,hd,f,rel,dd⟩:=j1 I.hok e;obtain⟨B,hw,b⟩:=cq.some_of (l▸rel.val k);exact wpAny_getItem_of (Zg c) dd.mapOf hw (h B _ (I.tok _) b)
theorem EA(f:A.units+1<cLine)(I:Inv X j C H s)(g:dJ H a y o)(b:RelV y u)(h:∀B,Inv X j C H B->Q (.bool o.isSome) B) :
  aA (aC X.prog X.w) A (dN .In u (.ref a)) Q E s:=by
 obtain⟨c,k,e,rfl,l⟩:=g;obtain⟨z,hd,d,rel,dd⟩:=j1 I.hok e;refine wpAny_in_of (Zg b) hd dd.mapOf ?_;rw[<-(rel.val k).isSome_eq,<-l];exact h _ (I.tok _)
theorem MY(f:A.units+1<cLine)(I:Inv X j C H s)(g:dJ H a y o)(b:RelV y u)(h:∀B,Inv X j C H B->Q (.bool (!o.isSome)) B) :
  aA (aC X.prog X.w) A (dN .NotIn u (.ref a)) Q E s:=by
 obtain⟨c,k,e,rfl,l⟩:=g;obtain⟨z,hd,d,rel,dd⟩:=j1 I.hok e;refine wpAny_notIn_of (Zg b) hd dd.mapOf ?_;rw[<-(rel.val k).isSome_eq,<-l];exact h _ (I.tok _)
theorem Q4(I:Inv X j u H s)(mu:nQ (H a))(hs:eT a s.heap h')(he:∃q,h'.get? a=aa q)(new:aR X.prog X.w (upd H a ob) h' a ob) :
  Inv X j u (upd H a ob) {s with heap:=h',toks:=t'}:=
 I.write mu (.inl rfl) (λb q c z=>(hs.2 b c).trans z) he new
theorem YT{P:bL}(z:kvs.length<=sizeLine)(hd:(a==fF)=ag)(rel:KV kvs vs)(dd:h'.DictOf (zC P w) a vs) :
  aR P w j h' a (.dK kvs):=⟨z,hd,vs,rel,dd⟩
theorem KU(F:A.units+1<cLine)(I:Inv X j C H s)(g:iG H a y v D)(f:RelV y u)(i:RelV v r)(h:∀B,Inv X j C D B->Q () B) :
  aA (aC X.prog X.w) A (setItem (.ref a) u r) Q E s:=by
 obtain⟨b,k,e,rfl,l,rfl⟩:=g;obtain⟨z,hd,d,rel,dd⟩:=j1 I.hok (e.imp .inl id);have x:d.length<=sizeLine:=rel.length▸z;have o:(cj b k v).length<=sizeLine:=by have:=xY b k v;lia
 refine wpAny_setItem_pairs (Zg f) dd λt c m=>h _ ?_;have p:∃q,t.get? a=aa q:=let ⟨q,_,_,n,_⟩:=c;⟨q,n⟩;exact Q4 I (by rcases e with e|⟨G,e⟩<;>rw[e]<;>exact eM) m p (YT o hd (rel.put k i) c)
theorem Y1(I:Inv X j u H s)(e:H a=aa (.dK kvs)):∃ep,Inv X j u (upd H a (.dE ep kvs)) s:=by
 obtain⟨z,hd,c,rel,dd⟩:=Yd I.hok e;obtain⟨ep,b⟩:=dd.dictAt;obtain⟨o,f,d,_⟩:=id b;exact⟨ep,Q4 I (e▸eM) ⟨rfl,λ_ _=>rfl⟩ ⟨o,d⟩ ⟨z,hd,c,rel,b⟩⟩
theorem Fz(I:Inv X j B H s)(e:pU H a kvs)(h:∀t u,Inv X j B H u->Q (.int kvs.length t) u):aA (aC X.prog X.w) A (call (.builtin "len") [.ref a]) Q E s:=by
 obtain⟨z,hd,b,rel,dd⟩:=j1 I.hok e;refine call_len_dict hd dd (by rw[<-rel.length];rw[db] at z;lia) ?_;rw[<-rel.length];exact h _ _ (I.tok _)
end
noncomputable def Y6(i:ap):Prop:=∀a b,oq i ag a b=operate [a,b] (gU a b)
theorem Mc{id:String} 
  (f:rC (.type T) "__getitem__"=pure (aa (.builtin id))) (hs:Y6 j)
  (h:aA (aC prog w) A (eval z env) (λo B=>aA (aC prog w) A (eval j env) (λi u=>u.TypeIs o T/\aA (aC prog w) A (gU o i) Q E u) E B) E s) :
  aA (aC prog w) A (eval (.Subscript z j pos) env) Q E s:=by
 refine rB (cX h (λo B e=>cX e (λi u a=>?_) λ_ _ x=>x) λ_ _ x=>x);obtain⟨g,a⟩:=a;refine ay ?_;refine ay (wpAny_specialOf g f ?_);have c:aA (aC prog w) A (oq j ag o i) (λr b=>aA (aC prog w) A (letTemporaryGo z o r >>= λ_=>pure r) Q E b) E u:=by
  rw[hs o i];exact wpAny_operating (cX a (λr b d=>ay (wpAny_letTemporaryGo (aU d))) λ_ _ x=>x)
 first
  |exact aU (ay c)
  |exact ay (aU (ay c))
  |exact ay c
theorem WK{X:Cx}{b:St}{H:Hp}{y:V}(I:Inv X j b H s)(g:dJ H a y o):s.TypeIs (.ref a) "dict":=by
 obtain⟨c,k,e,_,_⟩:=g;obtain⟨_,_,d,_,dd⟩:=j1 I.hok e;exact dd.typeIs
noncomputable def Gi(d ty:TE):TE:=λb H Q=>d b H λx e=>ty b e λy c=>∃a v,x=.ref a/\dJ c a y (aa v)/\Q v c
section
theorem Jq(p:X.A.units+1<cLine)(ho:PE X o j)(hi:PE X i ty)(hs:Y6 i):PE X (.Subscript o i pos) (Gi j ty):=by
 intro b s d H Q I h;refine Mc PySem.F.slot_dict_getitem.lookup hs (aF (ho b s d H _ I h) λu f ⟨x,w,r,l,n⟩=>aF (hi b f d w _ r n) λD C ⟨y,t,e,k,a,v,ex,g,m⟩=>?_);subst ex;obtain rfl:u=cG a:=l;exact⟨WK e g,KZ p e g k λz B q c=>⟨v,t,q,c,m⟩⟩
end
theorem YU{P:bL}(h:aG)(hb:fF<h.objs.size):aR P w H (h.push {cls:=.type "dict",data:=.dict #[]}) h.objs.size (.dK []):=
 ⟨fU _,beq_eq_false_iff_ne.mpr (bd (b_ hb)),[],.nil,sx h⟩
noncomputable def HA:TE:=λ_ H Q=>∀p,H p=af->Q (.ref p) (upd H p (.dK []))
section
theorem Yo:PE X (.Dict [] [] pos) HA:=λa s b H Q I h=>
 wpAny_Dict_empty ⟨.ref s.heap.objs.size,_,I.laid (λ_ _ q=>bv _ q) (aK _) (YU s.heap I.big),rfl,h _ (I.hok.fresh (aK _))⟩
end
noncomputable def jQ(kvs a:List (Key×V)):List (Key×V):=a.foldl (λb c=>cj b c.1 c.2) kvs
theorem KV.merge:∀{a:List (Key×V)}{b:List (Key×ai)}{kvs:List (Key×V)}{vs:List (Key×ai)},KV a b->KV kvs vs->KV (jQ kvs a) (merged vs b):=by
 intro a b kvs vs r;induction r generalizing kvs vs with
 |nil=>intro q;exact q
 | @cons p q ps d h t c=>
  intro r0;have e:KV (cj kvs p.1 p.2) (mE vs q.1 q.2):=by
   have:=r0.put p.1 h.2;rw[<-h.1];exact this
  exact c e
theorem jE:∀(a kvs:List (Key×V)),(jQ kvs a).length<=kvs.length+a.length
 |[],kvs=>by show kvs.length<=kvs.length+0;lia
 |p::r,kvs=>by
  have c:=jE r (cj kvs p.1 p.2);have b:=xY kvs p.1 p.2;show (jQ (cj kvs p.1 p.2) r).length<=_;rw[eG];lia
structure M1(X:Cx)(o:ap)(m:ao)(apos:Pos)(e:ap)(cpos:Pos):Prop where
 base:kw o m X.env (eval o X.env)=eval o X.env
 few:((dZ cpos (cU [e] X.env)).all (λx=>!x.1)&&(h_ cpos (ic [] X.env)).all (λx=>x.1.isSome)
  &&decide (([e]:List ap).length+([]:List iK).length+(if ([]:List iK).isEmpty then 0 else 1)<30))=ae
 line:(apos.endLine==cpos.line)=ae
 trees:dZ cpos (cU [e] X.env)=[(ag,eval e X.env)]
structure M2(X:Cx)(o:ap)(m:ao)(apos:Pos)(e f:ap)(cpos:Pos):Prop where
 base:kw o m X.env (eval o X.env)=eval o X.env
 few:((dZ cpos (cU [e,f] X.env)).all (λx=>!x.1)&&(h_ cpos (ic [] X.env)).all (λx=>x.1.isSome)
  &&decide (([e,f]:List ap).length+([]:List iK).length+(if ([]:List iK).isEmpty then 0 else 1)<30))=ae
 line:(apos.endLine==cpos.line)=ae
 trees:dZ cpos (cU [e,f] X.env)=[(ag,eval e X.env),(ag,eval f X.env)]
noncomputable def DI (H:Hp)(a:ak):Prop:=∃b,pU H a b
theorem KE{c:St}{H:Hp}(I:Inv X j c H s)(d:DI H a) :
  s.TypeIs (.ref a) "dict"/\(∀b,cG a=.ref b->∃ob,s.heap.get? b=aa ob/\ob.dict=af)/\(a==fF)=ag:=by
 obtain⟨f,e⟩:=d;obtain⟨_,hd,i,_,dd⟩:=j1 I.hok e;refine⟨dd.typeIs,λb q=>?_,hd⟩;(injection q with q;subst q);obtain⟨ob,_,_,h,g,_⟩:=dd;exact⟨ob,h,g.2.1⟩
end L2
namespace NH
open PySem PySem.Spec PyProof.Rows L2
noncomputable def zr(z:Key):List (Key×T)->Option T
 |[]=>af
 |p::r=>if p.1=z then aa p.2 else zr z r
noncomputable def wA (z:Key)(t:T)(kvs:List (Key×T)):List (Key×T):=
 if (kvs.any λa=>decide (a.1=z))=ae then kvs.map (λa=>if a.1=z then (a.1,t) else a) else kvs++[(z,t)]
noncomputable abbrev QO:De:=λ_ a=>.ok (.m a.length) (a++[.d []])
noncomputable abbrev NT:De:=λ_ a=>.ok (.d []) a
noncomputable abbrev NQ(o f g:De):De:=λd h=>(o d h).bind λot c=>match ot with
 |.m i=>λK Z=>(∃a,c[i]?=aa (.l a))/\f d c (λj e=>g d e (λt b=>match j with
  |.int k=>∃a,b[i]?=aa (.l a)/\(0<=k/\k<=a.length/\a.length<aB)/\K .n (b.set i (.l (a.take k.toNat++t::a.drop k.toNat)))
  |_=>False) Z) Z
 |_=>.st
section
theorem Wl:∀{kvs:List (Key×T)}{gs:List (Key×V)},aM D φ α H kvs gs->(gs.any λj=>decide (j.1=z))=(kvs.any λj=>decide (j.1=z))
 |[],_,h=>by subst h;rfl
 |p::r,_,h=>by
  obtain⟨v,q,rfl,d,l⟩:=h;rw[lY,lY,Wl l]
theorem zO:∀{kvs:List (Key×T)}{gs:List (Key×V)},aM D φ α H kvs gs->gs.length=kvs.length
 |[],_,h=>by subst h;rfl
 |p::r,_,h=>by
  obtain⟨v,q,rfl,d,l⟩:=h;rw[eG,eG,zO l]
theorem yR(a:aI D φ α H t w):∀{kvs:List (Key×T)}{gs:List (Key×V)},aM D φ α H kvs gs->aM D φ α H (kvs.map λj=>if j.1=z then (j.1,t) else j) (gs.map λj=>if j.1=z then (j.1,w) else j)
 |[],_,h=>by subst h;rfl
 |p::r,_,h=>by
  obtain⟨v,q,rfl,d,l⟩:=h;rw[cC,cC];by_cases e:p.1=z
  .rw[if_pos e,if_pos e];exact⟨w,_,rfl,a,yR a l⟩
  .rw[if_neg e,if_neg e];exact⟨v,_,rfl,d,yR a l⟩
theorem Z8(a:aI D φ α H t w):∀{kvs:List (Key×T)}{gs:List (Key×V)},aM D φ α H kvs gs->aM D φ α H (kvs++[(z,t)]) (gs++[(z,w)])
 |[],_,h=>by subst h;exact⟨w,[],rfl,a,rfl⟩
 |p::r,_,h=>by
  obtain⟨v,q,rfl,d,l⟩:=h;exact⟨v,_,rfl,d,Z8 a l⟩
theorem yP(a:aI D φ α H t w)(h:aM D φ α H kvs gs):aM D φ α H (wA z t kvs) (cj gs z w):=by
 unfold wA cj;rw[Wl h];split
 .exact yR a h
 .exact Z8 a h
theorem UO:PE X (.Dict [] [] pos) (aD D W QO):=by
 refine PE.mono Yo ?_;rintro e H Q ⟨c,g,d,f,h,a,p⟩;intro x b;refine aq.ok p (vz b) (a.layO b ⟨[],z0,rfl⟩) _ ⟨x,?_,rfl⟩;rw[<-a.len,dL (aK _)];simp
end
noncomputable def IH:ER:=λ_ _ e=>match e with
 |.Dict [] [] p=>aa ⟨.Dict [] [] p,QO,λ_=>UO⟩
 |_=>af
noncomputable def Fg (rd:De->De->De->Ds)(H:∀{D:DP}{X:Cx}{W:XW}{c:Cn}{k:Nat}{o b a:ap}{fo g f:De}{p1 pos:Pos},Sk D W c X k->qq b=ae->PE X a (aD D W f)->PE X o (aD D W fo)->PE X b (aD D W g)->PS X (.Assign [.Subscript o b p1] a pos) (cZ D W (rd fo g f))):SR:=λr c s=>match s with
 |.Assign [.Subscript o b p1] e p=>(r.e c o).bind λo=>(r.e c b).bind λb=>(r.e c e).bind λf=>gd (qq b.y) λh=>aa ⟨.Assign [.Subscript o.y b.y p1] f.y p,rd o.d b.d f.d,λC=>H C h (f.ok C.toCk) (o.ok C.toCk) (b.ok C.toCk)⟩
 |_=>af
end NH
namespace NH.P
open PySem L2 NH
noncomputable abbrev _root_.clz0:=eV 0
noncomputable abbrev yE:List Ds:=[(zf (kY (w_ [2] clz0) (tM (w_ [1] clz0))))]
noncomputable def zQ:Fn:=aQ 1 0 yE
noncomputable abbrev _root_.clz1:=eC (.int 1)
noncomputable abbrev _root_.clz9:=eC (.bl ag)
noncomputable abbrev xQ:List Ds:=[(aN (d_ (qd (tE (w_ [3] clz0))) (qd (tE (lD clz1 [(.LtE,(cB jZ clz0)),(.LtE,(eC (.int 8)))])))) [(zf clz9)] []),(zf (cB V4 (qa 1 [] (.one 0) (iE clz0) [] (zm .In clz0 (eC (.str "abcdefghijklmnopqrstuvwxyz"))))))]
noncomputable def vf:Fn:=aQ 1 0 xQ
noncomputable abbrev ZL:List Ds:=[(zf (kY (z4 zQ [clz0]) (zm .GtE clz0 clz1)))]
noncomputable def vu:Fn:=aQ 1 0 ZL
noncomputable abbrev _root_.clz2:=eV 1
noncomputable abbrev _root_.clz3:=eC (.int 0)
noncomputable abbrev u1:List Ds:=[(zf (kY (z4 zQ [clz0]) (lD clz3 [(.LtE,clz0),(.Lt,clz2)])))]
noncomputable def wa:Fn:=aQ 2 0 u1
noncomputable abbrev _root_.clz4:=eV 2
noncomputable abbrev _root_.clz7:=eV 3
noncomputable abbrev j_:List Ds:=[(aN (qd (wz (tE (z4 vu [clz2])) (wz (tE (z4 vu [clz4])) (tE (z4 vu [clz7]))))) [(zE 12 [(eC (.str "a shape has three whole numbers from 1 on"))])] []),(zK clz0 0 clz2),(zK clz0 1 clz4),(zK clz0 2 clz7)]
noncomputable def yX:Fn:=aQ 4 0 j_
noncomputable abbrev _root_.clz40:=zD clz0 2
noncomputable abbrev _root_.clz44:=zD clz0 1
noncomputable abbrev _root_.clz56:=zD clz0 0
noncomputable abbrev yl:List Ds:=[(zf (za .Mult (za .Mult clz56 clz44) clz40))]
noncomputable def WC:Fn:=aQ 1 0 yl
noncomputable abbrev ZD:List Ds:=[(zf (z4 wa [clz2,(z4 WC [clz0])]))]
noncomputable def Jb:Fn:=aQ 2 0 ZD
noncomputable abbrev kD:List Ds:=[(aN (qd (tE (z4 Jb [clz0,clz2]))) [(zE 13 [(eC (.str "no name of the shape"))])] [])]
noncomputable def ua:Fn:=aQ 2 0 kD
noncomputable abbrev xO:List Ds:=[(aN (tE (zm .Lt clz2 (cB jZ clz0))) [(zf (bq clz0 clz2))] []),(zf clz3)]
noncomputable def ji:Fn:=aQ 2 0 xO
noncomputable abbrev yW:List Ds:=[(zy (z4 ua [clz0,clz2])),(zj 2 (za .Mod clz2 clz40)),(zj 3 (za .FloorDiv clz2 clz40)),(zf (zZ [(za .FloorDiv clz7 clz44),(za .Mod clz7 clz44),clz4]))]
noncomputable def u4:Fn:=aQ 2 2 yW
end NH.P
namespace NH
open PySem PySem.Spec PyProof.Rows L2
noncomputable abbrev Dk:Ds:=λ_ _=>bS.st
noncomputable def G0:SR:=λ_ _ s=>aa ⟨s,Dk,λ_=>by
 rintro a s d H E I ⟨b,f,c,e,g,h,Q,q,_⟩;exact q.elim⟩
section
theorem kP(I:Inv X j u H s)(h1:s.heap.get? q=aa o)(h2:H q=af)(d:q≠X.env.locals)(c:q∉X.fs)(b:∀v,o.data≠.cell v):Inv X ((q,o)::j) u H s:=
 ⟨I.ok,I.os,I.bare,I.base,I.loc,I.cell,I.free,I.freeC,λp a=>by
  rcases bf.mp a with z|z
  .exact I.pin p (c_ _ z)
  .rcases bC.mp z with rfl|z
   .exact⟨h1,h2,d,c,b⟩
   .exact I.pin p (cD _ z),I.hok,I.len⟩
theorem qH(I:Inv X (p::j) u H s):Inv X j u H s:=
 ⟨I.ok,I.os,I.bare,I.base,I.loc,I.cell,I.free,I.freeC,λp a=>by
  rcases bf.mp a with z|z
  .exact I.pin p (c_ _ z)
  .exact I.pin p (cD _ (cJ _ z)),I.hok,I.len⟩
theorem JY{P:bL}(r:h.CodeRec (.ref c) qn):aR P w H h c (.ext (wV c qn)):=by
 obtain⟨k,b,e,f,a,d,i,g⟩:=id r;(injection a with a;subst a);refine⟨r,⟨b,d⟩,λm l p j=>?_⟩;obtain⟨k,b,e,f,a,d,i,g⟩:=p;(injection a with a;subst a);exact⟨c,b,e,f,rfl,j _ d,i,g⟩
theorem k6{a b:ai}:∀(l:List ai),lQ l->∀{x y:Int}{t u:Tok},lQ (l++[.int x t,.int y u,c])
 |[],_,_,_,_,_=>trivial
 |[_],h,_,_,_,_=>by simp[lQ] at h
 |[_,_],h,_,_,_,_=>by simp[lQ] at h
 |p::q::r::l,h,x,y,t,u=>by
  cases p with
  |int _ _=>
   cases q with
   |int _ _=>exact k6 (a:=a) (b:=b) l h
   |_=>exact h.elim
  |_=>exact h.elim
theorem Vq:∀(l:List ai),lQ l->i9 pos l=af->i9 p (l++[cI pos.line,cI pos.col,c])=aa c\/i9 p (l++[cI pos.line,cI pos.col,c])=i9 p l:=by
 intro l h d;fun_induction lQ l with
 |case1=>
  by_cases q:(pos.line==(p.line:Int)&&pos.col==(p.col:Int))=ae
  .left;simp only[oO,i9,cI];rw[if_pos q]
  .right;simp only[oO,i9,cI];rw[if_neg q]
 |case2 a t b u x rest e=>
  simp only[oE,i9] at d ⊢
  split at d
  .exact w6 d
  .split
   .exact .inr rfl
   .exact e h d
 |case3 l g f=>exact h.elim
theorem WB{params:Arguments}{body:ap}{line i j:Nat}{qn:ao}{c P:ak}{Q:ai->aJ->Prop}(I:Inv X E σ H s)(g:au D φ α H μ)(hi:μ[i]?=aa (.tab j))(hD:D.tabs j=aa (P,M,qn))(hpp:pos∈M)
  (t:X.env.code=.ref c) (hC:AJ X.base c P) (hB:X.base.BuiltinsAt X.mg P) (hcl:n9 scope X.env=pure cl)
  (h:∀q B C G s',Inv X ((q,iT "<lambda>" qn params body scope cl ((X.mg "__name__").getD .none) B C)::E) σ G s'->aw α H α G->au D φ α G μ->B∉α->G B=aa (.ext (wV B qn))->(B∉φ/\c7 X G q/\∀p∈E,p.1≠q)->Q (.ref q) s') :
  aA (aC X.prog X.w) X.A (makeFunction "<lambda>" qn params (.expr body) scope X.env [] [] [] pos line) Q X.xe s:=by
 have hia:∃a,α[i]?=aa a:=⟨_,dO (g.len▸(aO.mp hi).1)⟩;obtain⟨a,ha⟩:=hia;obtain⟨pos',qn',ps,hD',k,x,y⟩:=g.ob i a _ ha hi;rw[hD] at hD';cases hD';have O:=y pos hpp;have hP:=I.hok P _ k;have hg:=I.ok.mod.glob.keeps I.bk;have hCs:=hC.keeps I.bk;have hBs:s.heap.BuiltinsAt X.mg P:=by
  obtain⟨bm,o,b1,b2,b3,b4,b5,b6⟩:=hB;exact⟨bm,o,b1,b2,b3,b4,I.bk _ _ b5,b6⟩
 have hPa:=aS ha;have nL:X.env.locals≠P:=λz=>by have:=I.free;rw[z,k] at this;exact w6 this
 rcases O with r|⟨B,hhit,n1,n2,hc'⟩
 .have hgP:cO≠P:=λz=>by
   obtain⟨o,es,ep,e,hd,_⟩:=hg;rw[z,hP] at e;(replace e:=zo e;subst e);injection hd
  refine PySem.W.kla_makeFunction hcl I.ok.glob hg t hCs hP x r hgP hBs λB C S tk Z N hlt hrec L=>?_;have f:=I.hok.fresh N;have hcP:B≠P:=λz=>by rw[z,k] at f;exact w6 f
  have zI:∀{b o},s.heap.get? b=aa o->b≠B:=λ{b o} e z=>absurd (cz (bz e) N) (z▸g6 _);generalize R:upd (upd H B (.ext (wV B qn))) P (.tbl (ps++#[cI pos.line,cI pos.col,.ref B]))=G;have HP:G P=aa (.tbl (ps++#[cI pos.line,cI pos.col,.ref B])):=R▸z0;have Hc:G B=aa (.ext (wV B qn)):=R▸z6 hcP▸z0;have Ho:∀b,b≠P->b≠B->G b=H b:=λb h1 h2=>by rw[<-R,z6 h1,z6 h2]
  have K:∀b o,b≠P->H b=aa o->G b=aa o:=λb o h1 e=>(Ho b h1 (zJ e f))▸e;have Y:(S.push (iT "<lambda>" qn params body scope cl ((X.mg "__name__").getD .none) B C)).CodeRec (.ref B) qn:=by
   obtain⟨c2,oc,vs,tq,F,T,e3⟩:=hrec;exact⟨c2,oc,vs,tq,F,bv _ T,e3⟩
  have J:Inv X E σ G {s with heap:=S.push (iT "<lambda>" qn params body scope cl ((X.mg "__name__").getD .none) B C),toks:=tk}:=by
   refine I.step (ch:=[]) (λ_ z=>nomatch z) (λb o _ _ _ e n=>?_) (λb o _ _ _ e n=>⟨o.slots,?_⟩) (λb o _ e n=>?_) (λb o _ e=>?_) (λb xs e=>?_) (λb o u e=>?_) (λb qs e=>?_) (λm hm=>?_) (λb u e=>?_) I.bare
   .exact bv _ (Z b o (λz=>by rw[z,k] at n;exact w6 n) e)
   .exact bv _ (Z b o (λz=>by rw[z,k] at n;exact w6 n) e)
   .rw[Ho b (λz=>by rw[z,k] at n;exact w6 n) (zI e)];exact n
   .by_cases z:b=P
    .rw[z];exact⟨_,bv _ L⟩
    .exact⟨o,bv _ (Z b o z e)⟩
   .exact K b _ (λz=>by rw[z,k] at e;cases e) e
   .exact K b _ (λz=>by rw[z,k] at e;cases e) e
   .by_cases z:b=P
    .rw[z,k] at e;(injection e with e;injection e with e;subst e);rw[z];exact⟨_,HP⟩
    .exact⟨#[],by rw[K b _ z e];simp⟩
   .exact (hm.extBut Z nL).push _
   .by_cases z:b=P
    .subst z;rw[HP] at e;(replace e:=zo e;subst e);exact bv _ L
    .by_cases V:b=B
     .subst V;rw[Hc] at e;(replace e:=zo e;subst e);exact JY Y
     .rw[Ho b z V] at e;refine (I.hok b u e).stay (λc v U q=>?_) (λc q=>?_) λc xs q=>?_
      .refine bv _ (Z c v (λw=>?_) q);rcases U with U|U
       .exact z (U▸w)
       .rw[w,k] at U;cases U
      .exact K c _ (λw=>by rw[w,k] at q;cases q) q
      .exact K c _ (λw=>by rw[w,k] at q;cases q) q
  have fresh:=im (sL N hlt);have hqc:=fP hlt;have nq:G S.objs.size=af:=Ho _ (λz=>absurd (bz L) (z▸g6 _)) hqc▸I.hok.fresh fresh;have st:aw α H α G:=⟨⟨[],sC,sC⟩,λb o n e=>K b o (λz=>n (z▸hPa)) e,λb e=>by
   by_cases z:b=P
   .rw[z,HP] at e;exact w6 e
   .by_cases V:b=B
    .rw[V];exact f
    .rw[Ho b z V] at e;exact e⟩
  refine h S.objs.size B C G _ (kP J (dy _ rfl) nq (fP (cz I.lt fresh)) (I.nofs fresh) (λv z=>by injection z)) st ?_ (zh g f) Hc ⟨zi g f,jU (I.fpOk fresh nq)⟩;refine⟨g.len,g.nd,g.dis,λb hb=>?_,λi' a' o' F T=>?_⟩
  .obtain⟨u,hu,n⟩:=g.phi b hb;exact⟨u,st.keep b u (λz=>g.dis b z hb) hu,n⟩
  .by_cases z:i'=i
   .subst z;rw[ha] at F;(replace F:=zo F;subst F);rw[hi] at T;(replace T:=zo T;subst T);refine⟨M,qn,_,hD,HP,?_,λp2 hp2=>?_⟩
    .rw[Bl];exact k6 (a:=.none) (b:=.none) _ x
    .rw[Bl];rcases Vq _ x r with w|w
     .exact .inr ⟨B,w,zi g f,zh g f,Hc⟩
     .rw[show (#[cI pos.line,cI pos.col,.ref B]).toList=[cI pos.line,cI pos.col,.ref B] from rfl,w];exact (y p2 hp2).imp id λ⟨c2,k1,k2,k3,k4⟩=>⟨c2,k1,k2,k3,(K c2 _ (λz=>k3 (z▸hPa)) k4)⟩
   .have ne:a'≠P:=λw=>by
     obtain⟨q1,q2⟩:=aO.mp F;obtain⟨q3,q4⟩:=aO.mp ha;exact z ((oG g.nd).mp (q2.trans (w.trans q4.symm)))
    have d:=g.ob i' a' o' F T;obtain⟨u,hu,_⟩:=d.some;exact c9.step st ((K a' u ne hu).trans hu.symm) d
 .refine PySem.W.kla_makeFunctionHit hcl I.ok.glob hg t hCs hP x hhit hBs λC S tk hk l=>?_;have J:Inv X E σ H {s with heap:=S.push (iT "<lambda>" qn params body scope cl ((X.mg "__name__").getD .none) B C),toks:=tk}:=I.kept λb u e=>bv _ (hk b u e);exact h S.objs.size B C H _ (kP J (dy _ rfl) (I.hok.fresh l) (fP (cz I.lt l)) (I.nofs l) (λv z=>by injection z)) (aw.refl _ _) g n2 hc' ⟨n1,jU (I.fpOk l (I.hok.fresh l))⟩
noncomputable abbrev kC(a:Cn)(x:ao)(G:List ao):Cn:={a with N:=[x],G:=G,U:=G,cel:=[],own:=[],lam:=af,fz:=[]}
noncomputable def Y4:GM->Bool
 |.cst _=>ae
 |.none=>ae
 |.xcl _=>ae
 |_=>ag
theorem bD.lvl{P:bL}{K:bc}(h:Y4 g=ae)(q:bD D P w K mg base j x g):bD D P w K mg base k x g:=by
 cases g<;>first|exact q|injection h
theorem Yx{params:Arguments}{body:ap} 
    (C:Ck D W Γ X k) (hc:Γ.calm=ae) (hG:G.all (λy=>Γ.U.contains y&&Y4 (Γ.gl y))=ae) (hs:yJ (kC Γ x G) [x] scope=ae) (hE:∀Y W k, Ck D W (kC Γ x G) Y k->PE Y body (aD D W g)) (L:∀(s:aJ) (u:ai), i8 s (AI "<lambda>" qn params body scope [] pm (.ref c') ctv) ⟨[u], []⟩ [(x, u)])
    (hr:bE (k0+1) A) (e0:c8 X.prog X.w X.K X.mg X.base A outer s H) (ho:s.heap.get? q=aa (iT "<lambda>" qn params body scope [] pm c' ctv)) (O:s.heap.CodeRec (.ref c') qn) (r:RelV v u) (d:aI D φ α H t v) (mr:au D φ α H μ)
 (p : g [aa t] μ K0 (fun _ _ _ => False)) (R : ∀ t' M, K0 t' M -> ∀ j H' v', aw α H j H' -> au D φ j H' M -> aI D φ j H' t' v' -> Q v' H') :
    fC (aC X.prog X.w) A (.call (.ref q) ⟨[u], []⟩) (CR (λ_ _ _ _ _ _=>False) outer X.prog X.w H s Q (λ_ _ _=>False)) s:=by
  simp only[yJ, bW, eP, beq_iff_eq, l5, decide_eq_true_eq, bne_iff_ne] at hs;obtain⟨⟨⟨⟨⟨⟨⟨⟨⟨h1, h2⟩, h3⟩, h4⟩, h5⟩, h6⟩, T⟩, h8⟩, h9⟩, h10⟩:=hs;have l:∀y∈[x], scope.names.lookup y=aa .local:=λy f=>by
    have:=(T y f).2;simpa using this
  have S:dw [x] [x] scope:=⟨h1, h2, h3, h4, rfl, λy f=>.inl (l y f), h6⟩;refine BC hr.depth ho rfl S.co S.gen rfl O (L s u _ _ _ _ (B0 S.kind (λy f=>?_) λenv he s1 y=>?_))
  · obtain ⟨y, w⟩ := y;have:y=x:=by simpa using congrArg Prod.fst (aT.mp f)
    subst this;exact .inl (l y sC)
  subst he;refine⟨(e0.mod.nolimit.keeps λb o e=>(e0.bs b o e).1).keeps y.toInCall.keep, BB ?_⟩;have c:=Zc (fnb:=λ_=>ae) (CX:=λ_ _ _ _ _ _=>False) (E:=λ_ _ _=>False) S hr.hd e0 rfl (.cons r .nil) y;generalize P:({Vm (λ_ _ _ _ _ _=>False) X.prog X.w X.K X.mg X.base [x] qn scope q (.ref c') A outer s H (λ_ _ _=>False) with xe:=λ_ _=>False})=Y;have I:Inv Y [] (start [x] [v]) H s1:=by
    subst P;exact⟨⟨c.ok.mod, c.ok.kind, c.ok.glob, c.ok.blt, c.ok.above, c.ok.inj, c.ok.has, c.ok.cab, c.ok.hd, c.ok.frames, c.ok.stk, c.ok.exf, c.ok.bs, c.ok.bsz, c.ok.noex, c.ok.exfs, c.ok.funs, c.ok.frf⟩, c.os, c.bare, c.base, c.loc, c.cell, c.free, c.freeC, c.pin, c.hok, c.len⟩
  have F:iF Y (fk qn scope s.heap.objs.size q (.ref c')) outer s.heap.objs.size:=P▸⟨rfl, rfl, rfl⟩;have n:=hr.deeper (fk qn scope s.heap.objs.size q (.ref c'));have C2:Ck D nF (kC Γ x G) Y k0:=by
    subst P;have N:∀y∈G, bD D X.prog X.w X.K X.mg X.base k0 y (Γ.gl y)/\(y==("__debug__"))=ag:=λy f=>by
      have h:=eP.mp hG y f;simp only[bW] at h;have q:=C.glU y (by simpa using h.1);exact⟨bD.lvl h.2 q.1, q.2⟩
    exact { hK := C.hK, hN := rfl, nd := h4, vis := fun y f => .inl (l y f), dbg := fun y f => ⟨beq_eq_false_iff_ne.mpr (T y f).1.1, beq_eq_false_iff_ne.mpr (T y f).1.2⟩,
            dbG:=λy f=>(N y f).2, glb:=λy f=>(h8 y f).2, glo:=λy f=>(N y f).1, glU:=N,
            cel:=λy f=>absurd f sC, isi:=C.isi, fld:=C.fld, xcx:=C.xcx, ocx:=C.ocx, clv:=C.clv, clm:=λ_=>rfl, rom:=λ_=>n, rmh:=⟨n.dp, n.un⟩, xe:=(λe s p=>by obtain⟨_, _, _, _, _, _, _, _, _, _, _, _, _, z⟩:=p;exact z), frm:=⟨_, _, _, F.stk, F.f0, F.fe⟩, lam:=cS.no rfl, kfz:=(λh=>by injection h)}
  have sr:aH D φ α H [aa t] (start [x] [v]):=⟨rfl, λi t' e=>by
    cases i with
    |zero=>
      have:t=t':=by simpa using e
      subst this;exact⟨v, rfl, d⟩
    |succ i=>simp at e⟩
  have B:=hE Y nF k0 C2 [] s1 _ H Q I ⟨φ, α, [aa t], μ, sr, mr, _, _, p, λa M e j H' st m v' dv=>R a M e j H' v' st m dv, λ_ _ _ z=>z.elim⟩;have XA:Y.A=A.deeper (fk qn scope s.heap.objs.size q (.ref c')):=by rw[<-P];rfl
  have Xp:Y.prog=X.prog/\Y.w=X.w/\Y.env=fk qn scope s.heap.objs.size q (.ref c')/\(∀e s, Y.xe e s->False)/\Y.fs=dQ outer/\Y.H₀=H/\Y.s₀=s/\Y.ex=[]:=by
    subst P;exact⟨rfl, rfl, rfl, λ_ _ z=>z, rfl, rfl, rfl, rfl⟩
  obtain⟨x1, Z, x3, x4, x5, x6, V, x8⟩:=Xp;rw[XA, x1, Z, x3] at B;refine cX B (λw s' hs=>?_) λe s' z=>(x4 e s' z).elim;obtain⟨v', H', J, rv, q'⟩:=hs;have b:=J.base;have o:=J.os;have hk:=J.hok;rw[x5, x6, V, x8] at b;rw[V] at o;rw[x1, Z] at hk;exact⟨v', H', o, J.bare, b, hk, rv, q'⟩
structure Keeps(J:Shared->Prop)(a kS:ak):Prop where
 set:∀s' b h' tk,J s'->(b=a\/b=kS)->eT b s'.heap h'->J {s' with heap:=h',toks:=tk}
 push:∀s' o,J s'->J {s' with heap:=s'.heap.push o}
theorem VV {st:SortSt}(q:Keeps J a j) (v:J s) (r:s.heap.get? j=aa (bO "list" keys e)) (t:s.heap.get? a=aa (bO "list" #[] B)) (i:j≠a)
  (hk:fO keys.toList z) (p:z.length=vs.length) (x:vs.length<64) (o:(gQ st).Perm (keys.zip vs.toArray)) (hs:SortedTo (gQ st) (gQ st).size) (k:failedOf st=af)
  (h:∀u out c,J u->u.heap.get? a=aa (bO "list" out c)->KskOut ag z vs out.toList->P (.done (.ret .none)) u) :
  aA (aC prog w) A (ksk_tail a ag B (.ref j) st) P E s:=by
 have f:keys.size=vs.length:=by
  have y:=hk.length;rw[me] at y;lia
 have g:((gQ st).map (·.2)).size=vs.length:=by rw[Array.size_map];exact (by rw[o.size_eq,AH,f,cN,Al])
 have n:=o5 s.heap j (du λ_=>(#[]));have d:=(n.2 a i.symm).trans t;obtain⟨m,l⟩:∃m,((s.heap.update j (du λ_=>(#[]))).update a (du λ_=>(gQ st).map (·.2))).get? a=aa (bO "list" ((gQ st).map (·.2)) m):=⟨_,sw d λ_=>(gQ st).map (·.2)⟩;unfold ksk_tail;refine ay (oj r rfl (ay (wpAny_letGo (ay (seqEpoch_at d rfl (ay (oj d rfl ?_ (fU _) (cf (lh g) (by rw[db];lia)))))))) (by rw[f,db];lia) (fU _));rw[k];simp only[bne_self_eq_false,AW];have D:=q.set s j _ s.toks v (.inr rfl) n;have C:=q.set _ a _ s.toks D (.inl rfl) (o5 (s.heap.update j (du λ_=>(#[]))) a (du λ_=>(gQ st).map (·.2)));refine aU (h _ _ m C l ?_);have:=ksk_out (b:=ag) hk o hs;simpa using this
theorem IC (r:Keeps J a z) (q:J s) (n:s.heap.get? z=aa (bO "list" keys e)) (o:s.heap.get? a=aa (bO "list" #[] C)) (m:z≠a)
  (hk:fO keys.toList B) (d:B.length=vs.length) (f:vs.length<64)
  (h:∀u out c,J u->u.heap.get? a=aa (bO "list" out c)->KskOut ag B vs out.toList->P (.done (.ret .none)) u) :
  aA (aC prog w) A (ksk_end a ag vs.toArray C (.ref z) keys) P E s:=by
 have l:keys.size=vs.length:=by
  have y:=hk.length;rw[me] at y;lia
 have k:(keys.zip vs.toArray).size=vs.length:=by rw[AH,l,cN,Al]
 unfold ksk_end;simp only[ if_false];by_cases g:vs.toArray.size<2
 .rw[if_pos g,if_pos g];refine ay (aU (ay (aU (VV r q n o m hk d f (Au _) ?_ rfl h))));intro i j v H;rw[cN] at g;have:i=j:=by lia
  subst this;exact d6 _
 .rw[if_neg g,if_neg g];rw[cN] at g;rw[ksk_kind hk (by rw[l];lia)];refine ay (aU ?_)
  refine ay (cX (wpS_sortRuns
   (Q:=λ_ b=>(gQ b).Perm (keys.zip vs.toArray)/\failedOf b=af/\SortedTo (gQ b) (keys.zip vs.toArray).size)
   (ksk_intKeys hk) ⟨Au _,rfl,rfl,rfl⟩ (by rw[k];lia) (k▸f) λb G F D=>⟨G,F,D⟩) ?_ λ_ _ e=>e)
  rintro⟨⟨⟩,b⟩ u ⟨rfl,p,x,t⟩;exact VV r q n o m hk d f p (p.size_eq▸t) x h
theorem M4 (y:Keeps J a (s.heap.objs.size+1)) (Z:J s) (ho:s.heap.get? a=aa (bO "list" vs.toArray n)) (D:z.length=vs.length) (R:vs.length<64)
  (turn:∀(i:Nat) (v:ai) (k:Int) (b:aJ) (T:Array ai) (ca ck:Nat),vs[i]?=aa v->z[i]?=aa k->J b->b.heap.get? a=aa (bO "list" #[] ca)->b.heap.get? (s.heap.objs.size+1)=aa (bO "list" T ck)->
   aA (aC prog w) A (call f [v]) (λr M=>(∃u,r=.int k u)/\J M/\M.heap.get? a=aa (bO "list" #[] ca)/\M.heap.get? (s.heap.objs.size+1)=aa (bO "list" T ck)) (λ_ _=>False) b)
  (h:∀b out c,J b->b.heap.get? a=aa (bO "list" out c)->KskOut ag z vs out.toList->P (.done (.ret .none)) b) :
  aA (aC prog w) A (ksk_tree a f ag) P E s:=by
 have H:=o5 s.heap a (du λ_=>(#[]));obtain⟨t,C⟩:∃t,(s.heap.update a (du λ_=>(#[]))).get? a=aa (bO "list" #[] t):=⟨_,sw ho λ_=>#[]⟩;refine ay (listItems_at ho rfl (ay (oj ho rfl (ay (seqEpoch_at C rfl (ay (wpAny_newTuple ?_ (by rw[db];lia))))) (by rw[cN,db];lia) (fU _))));refine ay (wpAny_newList (dF ?_) (fU _));have W:(s.heap.update a (du λ_=>(#[]))).objs.size=s.heap.objs.size:=Az ..;have J1:=y.set s a _ s.toks Z (.inl rfl) H;have J2:=y.push _ (bO "tuple" vs.toArray 0) J1;have l:((s.heap.update a (du λ_=>(#[]))).push (bO "tuple" vs.toArray 0)).objs.size=s.heap.objs.size+1:=by rw[fT,W]
 have J3:=y.push _ (bO "list" #[] 0) J2;have g3:(((s.heap.update a (du λ_=>(#[]))).push (bO "tuple" vs.toArray 0)).push (bO "list" #[] 0)).get? a=aa (bO "list" #[] t):=bv _ (bv _ C);have V:(((s.heap.update a (du λ_=>(#[]))).push (bO "tuple" vs.toArray 0)).push (bO "list" #[] 0)).get? ((s.heap.update a (du λ_=>(#[]))).push (bO "tuple" vs.toArray 0)).objs.size=aa (bO "list" #[] 0):=dy _ rfl;have m:((s.heap.update a (du λ_=>(#[]))).push (bO "tuple" vs.toArray 0)).objs.size≠a:=l▸fP (mV (bz ho));generalize X:((s.heap.update a (du λ_=>(#[]))).push (bO "tuple" vs.toArray 0)).objs.size=p at V m l;rw[<-l] at y turn;have G:aA (aC prog w) A (ksk_rest a f ag vs.toArray t (.ref p)) P E {s with heap:=((s.heap.update a (du λ_=>(#[]))).push (bO "tuple" vs.toArray 0)).push (bO "list" #[] 0)}:=by
  refine ay (mM ?_)
  first
   |rw[List.forIn_toArray]
   |(rw[<-AV];simp only[List.toList_toArray])
   |rw[<-AV]
  refine ay (ksk_fold (λi b=>∃d e,J b/\b.heap.get? a=aa (bO "list" #[] t)/\b.heap.get? p=aa (bO "list" d e)/\fO d.toList (z.take i)) vs 0 _ ⟨#[],0,J3,g3,V,by simpa using IntsAre.nil⟩ ?step ?done);case step=>
   rintro j x b U ⟨d,e,o,L,I,q⟩
   simp only[rR] at q ⊢
   have hj:=(aO.mp U).1
   obtain⟨k,F⟩:∃k,z[j]?=aa k:=⟨_,dO lC⟩
   have hz:d.size<=vs.length:=by
    have h1:=q.length;rw[me,g8] at h1;lia
   refine ay (rK (cX (turn j x k b d t e U F o L I) (λv g Y=>?_) λ_ _ hF=>hF.elim))
   obtain⟨⟨u,rfl⟩,Q,K,B⟩:=Y
   have H:=o5 g.heap p (du (·.push (.int k u)))
   obtain⟨S,O⟩:∃S,(g.heap.update p (du (·.push (.int k u)))).get? p=aa (bO "list" (d.push (.int k u)) S):=⟨_,sw B (·.push (.int k u))⟩
   have ek:z.take (j+1)=z.take j++[k]:=by rw[dM,F];simp
   have ea:(d.push (mK k u)).toList=d.toList++[mK k u]:=by simp
   exact ay (oj B rfl (aU ⟨rfl,d.push (.int k u),S,y.set g p _ g.toks Q (.inr rfl) H,(H.2 a m.symm).trans K,O,ea▸ek▸ksk_snoc q⟩) (by rw[db];lia) (cf (lh (Array.size_push ..)) (by rw[db];lia)))
  case done=>
   rintro b ⟨d,e,o,L,I,q⟩
   have N:fO d.toList z:=by
    have e3:z.take (0+vs.length)=z:=eH lC;rw[e3] at q;exact q
   exact ay (listItems_at I rfl (IC y o I L m N D R h))
 exact G
end
theorem Qt{α β:Type}{f:α->β}{ps m:List β}(h:ps.Perm m):∀{l:List α},m=l.map f->∃j:List α,j.Perm l/\ps=j.map f:=by
 induction h with
 |nil=>intro l e;cases l with
  |nil=>exact⟨[],.refl _,rfl⟩
  |cons a r=>injection e
 |cons x p q=>intro l e;cases l with
  |nil=>injection e
  |cons a r=>
   injection e with n c
   obtain⟨j,k,i⟩:=q c
   exact⟨a::j,k.cons a,by rw[n,i];rfl⟩
 |swap x y z=>intro l e;cases l with
  |nil=>injection e
  |cons a r=>cases r with
   |nil=>simp at e
   |cons b r=>
    injection e with n c
    injection c with c u
    exact⟨b::a::r,.swap a b r,by rw[n,c,u];rfl⟩
 |trans w v g d=>
  intro l e;obtain⟨j,k,i⟩:=d e;obtain⟨o,t,s⟩:=g i;exact⟨o,t.trans k,s⟩
noncomputable def dY (g:De)(μ:Mem):List T->List Int->Prop
 |[],[]=>True
 |t::c,z::b=>g [aa t] μ (λd a=>d=.int z/\a=μ) (λ_ _ _=>False)/\dY g μ c b
 |_,_=>False
theorem dY.len:∀{ts:List T}{a:List Int},dY g μ ts a->a.length=ts.length
 |[],[],_=>rfl
 |_::_,_::_,h=>by simp[dY.len h.2]
 |[],_::_,h=>h.elim
 |_::_,[],h=>h.elim
theorem dY.at{μ:Mem}:∀{ts:List T}{e:List Int}{i:Nat}{t:T}{z:Int},dY g μ ts e->ts[i]?=aa t->e[i]?=aa z->g [aa t] μ (λt' j=>t'=.int z/\j=μ) (λ_ _ _=>False)
 |a::ts,b::f,0,t,z,h,c,d=>by
  (replace c:=zo c;subst c);(replace d:=zo d;subst d);exact h.1
 |a::ts,b::f,i+1,t,z,h,c,d=>dY.at h.2 (by simpa using c) (by simpa using d)
 |[],[],i,t,z,h,c,d=>by simp at c
 |[],_::_,_,_,_,h,_,_=>h.elim
 |_::_,[],_,_,_,h,_,_=>h.elim
noncomputable abbrev Vp(j:Nat)(g:De)(xs:List T)(μ:Mem):RE T:=λK _=>xs.length<64/\∃b,dY g μ xs b/\
 ∀a:List (Int×T),a.Perm (b.zip xs)->a.Pairwise (λp q=>p.1<=q.1)->K (.l (a.map (·.2))) μ
noncomputable abbrev X4(j:Nat)(g:De)(t:T)(μ:Mem):RE T:=λK Z=>(∃i:Nat,μ[i]?=aa (MO.tab j))/\(match t with
 |.l xs=>Vp j g xs μ
 |.m i=>λK Z=>∃xs,μ[i]?=aa (MO.l xs)/\Vp j g xs μ K Z
 |_=>.st) K Z
noncomputable abbrev VB(j:Nat)(g f:De):De:=λa b=>(f a b).bind (X4 j g)
section
theorem YA(I:Inv X j B H s)(h0:H a=af)(h1:X.s₀.heap.objs.size<=a)(h2:a≠X.env.locals)(h:∀x c,X.env.cells.lookup x=aa c->c≠a)(g:∀p∈X.pn++j,p.1≠a)
  (new:aR X.prog X.w (upd H a o) s.heap a o):Inv X j B (upd H a o) s:=by
 have ne:∀{b u},H b=aa u->b≠a:=λ{b u} e z=>by rw[z,h0] at e;exact z9 e
 refine I.step (d':=s.drawn) (ch:=[a]) (λb d=>?_) (λb o _ _ _ e n=>e) (λb o _ _ _ e n=>⟨o.slots,e⟩) (λb o d e n=>?_) (λb o _ e=>⟨o,e⟩) (λb xs e=>?_) (λb o u e=>?_) (λb i e=>?_) (λm f=>f) (λb u e=>?_) I.bare
 .rw[aT.mp d];exact⟨.inr h1,h2,h,g⟩
 .rw[z6 (λz=>d (by rw[z];simp))];exact n
 .rw[z6 (ne e)];exact e
 .rw[z6 (ne e)];exact e
 .exact⟨#[],by rw[z6 (ne e),e];simp⟩
 .by_cases z:b=a
  .subst z;rw[z0] at e;(replace e:=zo e;subst e);exact new
  .rw[z6 z] at e;refine (I.hok b u e).stay (λc v k q=>q) (λc q=>?_) λc xs q=>?_
   .rw[z6 (ne q)];exact q
   .rw[z6 (ne q)];exact q
theorem W7{q L ad:ak}{x:ao}{G:List ao}{params:Arguments}{body:ap}{scope:Scope}{qn:ao}{pm ctv:ai}{g:De}{vs:List V}{Q:VK}{j:Nat}
  (C:Ck D W Γ X k) (hk:2<=k) (hc:Γ.calm=ae) (hG:G.all (λy=>Γ.U.contains y&&Y4 (Γ.gl y))=ae) (hs:yJ (kC Γ x G) [x] scope=ae) (hE:∀Y W k,Ck D W (kC Γ x G) Y k->PE Y body (aD D W g)) (hbind:∀(s:aJ) (u:ai),i8 s (AI "<lambda>" qn params body scope [] pm (.ref L) ctv) ⟨[u],[]⟩ [(x,u)])
  (I:Inv X ((q,iT "<lambda>" qn params body scope [] pm L ctv)::E) σ H s) (mr:au D φ α H μ) (hca:L∉α) (hcc:H L=aa (.ext (wV L qn))) (S:Rd H ad (.l vs)) (l:av D φ α H xs vs) (p:aq D W φ α H σ (RV D φ Q) (Vp j g xs μ)) :
  aA (aC X.prog X.w) X.A (call (.builtin "sorted") [.ref ad] [(lg "key",.ref q)]) (EP X E σ Q) X.xe s:=by
 obtain⟨f,rv,pl,hz⟩:=I.list (.inl S);obtain⟨K0,Z0,⟨h64,kz,hkr,hK⟩,k1,k2⟩:=p;have hlen:f.length<64:=rv.length▸l.length▸h64;have hkl:kz.length=f.length:=by rw[hkr.len,<-rv.length,<-l.length]
 refine call_function_entry_kw kind_sorted plain_sorted entry_sorted (ksk_s1 _ _) (ay (aU (ay (collect_list pl.isList (ay (wpAny_newList ?_ (by rw[db];lia))) (by rw[db];lia)))));have R:((s.heap.push (bO "list" #[] 0)).update s.heap.objs.size (du (·++f.toArray))).objs.size=s.heap.objs.size+1:=by
  rw[Az,fT]
 have Z:(((s.heap.push (bO "list" #[] 0)).update s.heap.objs.size (du (·++f.toArray))).push (bO "list" f.toArray 0)).get? (s.heap.objs.size+1)=aa (bO "list" f.toArray 0):=by
  rw[<-R];exact dy _ rfl
 have keep:∀b o,s.heap.get? b=aa o->(((s.heap.push (bO "list" #[] 0)).update s.heap.objs.size (du (·++f.toArray))).push (bO "list" f.toArray 0)).get? b=aa o:=λb o q=>by
  have hlt:=bz q;rw[A9 _ _ _ (R▸b_ (mV hlt)),sM _ _ _ _ (b_ hlt),A9 _ _ _ (b_ hlt)];exact q
 rw[R];have hs1:((((s.heap.push (bO "list" #[] 0)).update s.heap.objs.size (du (·++f.toArray))).push (bO "list" f.toArray 0))).objs.size=s.heap.objs.size+2:=by rw[fT,R]
 have I1:=I.kept (t':=s.toks) keep;generalize ((s.heap.push (bO "list" #[] 0)).update s.heap.objs.size (du (·++f.toArray))).push (bO "list" f.toArray 0)=h1 at I1 Z hs1 keep;generalize hca':s.heap.objs.size+1=a at Z;have new:∀b,s.heap.objs.size<=b->H b=af/\X.s₀.heap.objs.size<=b/\b≠X.env.locals/\(∀x c,X.env.cells.lookup x=aa c->c≠b)/\(∀p∈X.pn++E,p.1≠b)/\b∉X.fs/\b≠q:=λb hb=>by
  have lt:∀{d o},s.heap.get? d=aa o->d≠b:=λ{d o} e z=>absurd (cz (bz e) hb) (z▸g6 _);refine⟨I.hok.fresh hb,cf I.sz hb,fP (cz I.lt hb),λx c e=>?_,λp hp=>?_,I.nofs hb,?_⟩
  .obtain⟨v,o,ho,_⟩:=I.cell x c e;exact lt ho
  .exact lt ((qH I).pin p hp).1
  .exact (lt (I.pin _ (cD _ dt)).1).symm
 have na:=new a lC;have nk:=new (h1.objs.size+1) lC;let J:aJ->Prop:=λs'=>∃B,Inv X ((q,iT "<lambda>" qn params body scope [] pm L ctv)::E) σ B s'/\aw α H α B/\au D φ α B μ/\B L=aa (.ext (wV L qn))/\B a=af/\B (h1.objs.size+1)=af;have KJ:Keeps J a (h1.objs.size+1):=by
  refine⟨λs' b h' tk hj hb sb=>?_,λs' o hj=>?_⟩
  .obtain⟨B,K,J2,N,J4,M,J6⟩:=hj;have hb0:B b=af:=by rcases hb with rfl|rfl<;>assumption
   have nb:=by
    have:=hb;exact show X.s₀.heap.objs.size<=b/\b≠X.env.locals/\(∀x c,X.env.cells.lookup x=aa c->c≠b)/\(∀p∈X.pn++E,p.1≠b)/\b∉X.fs/\b≠q from by rcases this with rfl|rfl;exact na.2;exact nk.2
   have ex:∀c o,c≠b->s'.heap.get? c=aa o->h'.get? c=aa o:=λc o n e=>(sb.2 c n).trans e;have neb:∀{c u},B c=aa u->c≠b:=λ{c u} e z=>by rw[z,hb0] at e;exact z9 e
   refine⟨B,K.step (ch:=[b]) (λc hc=>?_) (λc o _ _ n e _=>ex c o (λz=>n (by rw[z];simp)) e) (λc o _ _ n e _=>⟨o.slots,ex c o (λz=>n (by rw[z];simp)) e⟩) (λc o _ _ n=>n) (λc o n e=>⟨o,ex c o (λz=>n (by rw[z];simp)) e⟩) (λc xs e=>e) (λc o u e=>e) (λc t e=>⟨#[],by rw[e];simp⟩) (λm hm=>?_) (λc u e=>?_) K.bare,J2,N,J4,M,J6⟩
   .rw[aT.mp hc];refine⟨.inr nb.1,nb.2.1,nb.2.2.1,λp hp=>?_⟩;rcases bf.mp hp with z|z
    .exact nb.2.2.2.1 p (c_ _ z)
    .rcases bC.mp z with rfl|z
     .exact nb.2.2.2.2.2.symm
     .exact nb.2.2.2.1 p (cD _ z)
   .exact hm.sameBut sb nb.2.1.symm
   .refine (K.hok c u e).stay (λd v hd q=>ex d v (λz=>?_) q) (λd q=>q) λd xs q=>q;rcases hd with hd|hd
    .exact neb e (hd▸z)
    .exact neb hd z
  .obtain⟨B,K,J2,N,J4,M,J6⟩:=hj;exact⟨B,K.kept λb o e=>bv _ e,J2,N,J4,M,J6⟩
 refine ay (dF (wpAny_call_entry_kw slot_list_sort ⟨_,Z,rfl⟩ entry_list_sort ?body (ksk_l1 _ _)));case body=>
  refine M4 KJ ⟨H,I1,aw.refl _ _,mr,hcc,na.1,nk.1⟩ Z hkl hlen (λi v z s' ka ca ck e1 e2 hj ga gk=>?_) λs' out c hj ga hout=>⟨_,rfl,aU ⟨_,rfl,?_⟩⟩
  .obtain⟨B,K,J2,N,J4,M,J6⟩:=hj
   have J1a:=kP (kP K ga M na.2.2.1 na.2.2.2.2.2.1 (λv z=>by injection z)) gk J6 nk.2.2.1 nk.2.2.2.2.2.1 (λv z=>by injection z)
   have hi:=(aO.mp e1).1
   obtain⟨vv,hvv⟩:∃vv,vs[i]?=aa vv:=⟨_,dO (rv.length▸hi)⟩
   obtain⟨tt,htt⟩:∃tt,xs[i]?=aa tt:=⟨_,dO (l.length▸rv.length▸hi)⟩
   have rr:RelV vv v:=by
    obtain⟨u0,e0,r0⟩:=rv.get hvv;rw[e1] at e0;(replace e0:=zo e0;subst e0);exact r0
   obtain⟨vv',P,dd⟩:=(l.step J2).get htt
   rw[hvv] at P;(replace P:=zo P;subst P)
   have ho:=(K.pin _ (cD _ dt)).1
   have rm:=C.rom hc
   have hr:bE (0+1) X.A.in1.in1:=⟨rm.hd,by have:=rm.dp;lia,by have:=rm.un;lia⟩
   refine ie (ii (Yx C hc hG hs hE hbind hr J1a.env0.in1.in1 ho ((K.hok L _ J4).1) rr dd N (Q:=λv' H2=>v'=.int z/\aw α B α H2/\au D φ α H2 μ) (hkr.at htt e2) ?_) λr s2 S=>?_)
   .rintro t' μ' ⟨rfl,rfl⟩ α' H2 v' st m d
    have ea:α'=α:=by
     obtain⟨⟨more,e,_⟩,_,_⟩:=id st;have h1:=m.len;have h2:=N.len;rw[e,eX,h2] at h1;have:more=[]:=List.eq_nil_of_length_eq_zero lC;rw[e,this,eO]
    subst ea
    exact⟨d,st,m⟩
   .cases r with
    |error e=>exact S.elim
    |ok fl=>
     cases fl with
     |ret u=>
      obtain⟨v',H2,I2,r2,rfl,st2,m2⟩:=J1a.after S;obtain⟨t2,rfl⟩:=r2;have p1:=I2.pin _ (cD _ dt);have p2:=(qH I2).pin _ (cD _ dt);exact⟨⟨t2,rfl⟩,⟨H2,qH (qH I2),J2.trans st2,m2,st2.keep L _ hca J4,p2.2.1,p1.2.1⟩,p2.1,p1.1⟩
     |next=>exact cW S
     |brk=>exact cW S
     |cont=>exact cW S
  .obtain⟨B,K,J2,N,J4,M,J6⟩:=hj
   obtain⟨ps,hp,ho,hpw⟩:=hout
   have O:=rv.length
   have hxl:xs.length=f.length:=by rw[l.length,O]
   have em:kz.zip f=(kz.zip (f.zip (vs.zip xs))).map (λq=>(q.1,q.2.1)):=by
    refine Ay (by simp[ O,hxl]) λi h1 h2=>by simp
   obtain⟨t,hqp,rfl⟩:=Qt hp em
   have mem:∀q∈t,RelV q.2.2.1 q.2.1/\aI D φ α B q.2.2.2 q.2.2.1:=λq S=>by
    have:=hqp.mem_iff.mp S;obtain⟨i,hi⟩:=dD.mp this;obtain⟨F,rfl⟩:=aO.mp hi;simp only[List.length_zip,Nat.lt_min] at F;have d:=(l.step J2).get (dO F.2.2.2);obtain⟨v',e',d⟩:=d;rw[dO F.2.2.1] at e';(replace e':=zo e';subst e');simp only[List.getElem_zip];obtain⟨u0,e0,r0⟩:=rv.get (dO F.2.2.1);rw[dO F.2.1] at e0;(replace e0:=zo e0;subst e0);exact⟨r0,d⟩
   have hvs:∀(t:List (Int×ai×V×T)),(∀q∈t,RelV q.2.2.1 q.2.1/\aI D φ α B q.2.2.2 q.2.2.1)->aE (t.map (·.2.2.1)) (t.map (·.2.1))/\av D φ α B (t.map (·.2.2.2)) (t.map (·.2.2.1)):=by
    intro t;induction t with
    |nil=>exact λ_=>⟨.nil,rfl⟩
    |cons q r ih=>
     intro h;obtain⟨a1,a2⟩:=ih λq' hq'=>h q' (cJ _ hq');obtain⟨b1,b2⟩:=h q dt;exact⟨.cons b1 a1,_,_,rfl,b2,a2⟩
   obtain⟨w1,w2⟩:=hvs t mem
   have hol:out.toList=t.map (·.2.1):=by rw[ho,bB];rfl
   have hql:t.length=f.length:=by rw[hqp.length_eq];simp[hkl,O,hxl]
   refine⟨.ref a,_,(YA (qH K) M na.2.1 na.2.2.1 na.2.2.2.1 na.2.2.2.2.1 (show aR X.prog X.w _ _ _ (.l (t.map (·.2.2.1))) from ⟨by rw[aL,hql,db];lia,t.map (·.2.1),c,w1,hol▸BE▸ga⟩)),rfl,?_⟩
   have sm:=ze (o:=HO.l (t.map (·.2.2.1))) M
   have e2:(t.map λq=>(q.1,q.2.2.2)).map (·.2)=t.map (·.2.2.2):=by rw[bB];rfl
   have e3:kz.zip xs=(kz.zip (f.zip (vs.zip xs))).map (λq=>(q.1,q.2.2.2)):=by
    refine Ay (by simp[hkl,O,hxl]) λi h1 h2=>by simp
   have kk:=hK (t.map λq=>(q.1,q.2.2.2)) (e3▸hqp.map _) (by
    rw[ij] at hpw ⊢;exact hpw.imp λh=>by simpa using h)
   rw[e2] at kk
   refine k1 _ _ kk α _ (J2.trans (aw.new sm)) (N.new sm) _ ⟨_,_,rfl,zi N M,zh N M,.inl z0,w2.step (aw.new sm)⟩
theorem gH(a:fd.params=⟨[],[⟨y,af,pa⟩],af,[],[],af,[]⟩)(hd:fd.defaults=.none):mH fd ⟨[u],[]⟩=pure [(y,u)]:=by
 have e:g9 y [(y,u)]=aa u:=by simp
 unfold mH;rw[a,hd];simp[ seqItems?];rfl
theorem Ud(C:Ck D W B X k)(hc:B.calm=ae){body:ap} 
  (V:("sorted":ao)∈B.G) (hg0:B.gl "sorted"=.none) (F:az a=ae) (ha:PE X a (aD D W f)) (hlm:B.lam=aa (j,E)) (hnm:B.lnm="<lambda>") (hpp:pl∈E) (hG:G.all (λy=>B.U.contains y&&Y4 (B.gl y))=ae) (hs:yJ (kC B y G) [y] sc=ae) (hE:∀Y W k,Ck D W (kC B y G) Y k->PE Y body (aD D W g)) :
  PE X (.Call (.Name "sorted" p0) [a] [⟨aa "key",.Lambda ⟨[],[⟨y,af,pa⟩],af,[],[],af,[]⟩ body sc pl,pk⟩] pos) (aD D W (VB j g f)):=by
 obtain⟨hk,c,P,J,hC,hB,hD⟩:=C.lam j E hlm;rw[hnm] at hD;have hm:=C.glo _ V;rw[hg0] at hm;have hfr:∀x∈sc.names,x.2≠.free:=by
  have N:=hs;simp only[yJ,bW,eP,bne_iff_ne] at N;exact N.1.1.1.1.2
 rintro K s σ H Q I ⟨w,α,τ,μ,sr,mr,p⟩;refine gn (qT I (C.glb _ V) hm (show fQ "sorted"=aa (.builtin "sorted") by decide +kernel) ?_ dC (C.dbG _ V));refine callWith_kw (aF (zF ha qg (z7 F) pos K s σ H (λvs S=>∃v t A h,vs=[v]/\aw α H h S/\au D w h S A/\aI D w h S t v/\aq D W w h S σ (RV D w Q) (X4 j g t A)) I ⟨w,α,τ,μ,sr,mr,p.bind.mono λt b e o st m q v d=>⟨v,t,b,e,rfl,st,m,d,q⟩⟩) ?_) (by rw[z7 F];rfl) (by rw[z7 F];rfl) rfl rfl;rintro us s1 ⟨vs,S,I1,rv,v,t,A,h,rfl,st,m,d,K0,Z0,⟨⟨i,hi⟩,q⟩,k1,k2⟩;obtain⟨u,rfl,r1⟩:=vals1 rv;refine kws_cons (Ax rfl (WB I1 m hi hD hpp J hC hB (closureFor_none hfr) λq0 c' ctv H2 s2 I2 r T R O _=>kws_nil ?_));have M:∀t b,K0 t b->∀e o,aw h H2 e o->au D w e o b->RV D w Q t b e o:=λt b z e o n L=>k1 t b z e o (r.trans n) L;split at q
 .obtain⟨ad,xs,rfl,n1,n2,Z,l⟩:=d.step r;subst r1;exact W7 C hk hc hG hs hE (λs u=>.of_eq (gH rfl rfl)) I2 T R O Z l ⟨K0,Z0,q,M,λcc fs b z e o CC dd n L=>k2 cc fs b z e o CC dd (r.trans n) L⟩
 .obtain⟨ts,hj,q⟩:=q;obtain⟨ad,hi2,rfl⟩:=d;subst r1;obtain⟨xs,Z,l⟩:=T.ob _ ad _ hi2 hj;exact W7 C hk hc hG hs hE (λs u=>.of_eq (gH rfl rfl)) I2 T R O (.inl Z) l ⟨K0,Z0,q,M,λcc fs b z e o CC dd n L=>k2 cc fs b z e o CC dd (r.trans n) L⟩
 .exact cW q
end
noncomputable def Ex:Arg->Option (ao×Pos)
 |⟨y,af,p⟩=>aa (y,p)
 |_=>af
noncomputable def Ff:Arguments->Option (ao×Pos)
 |⟨[],[p],af,[],[],af,[]⟩=>Ex p
 |_=>af
noncomputable def CL:ap->Option ((ao×Pos)×ap×Scope×Pos)
 |.Lambda a body b c=>(Ff a).bind λy=>aa (y,body,b,c)
 |_=>af
noncomputable abbrev EC(q:(ao×Pos)×ap×Scope×Pos)(b:ap):ap:=.Lambda ⟨[],[⟨q.1.1,af,q.1.2⟩],af,[],[],af,[]⟩ b q.2.2.1 q.2.2.2
structure NN where
 x:ao
 p0:Pos
 a:ap
 ky:ao
 v:ap
 pk:Pos
 pc:Pos
noncomputable def E6:ap->Option NN
 |.Call (.Name x d) [a] [⟨aa e,v,b⟩] c=>aa ⟨x,d,a,e,v,b,c⟩
 |_=>af
noncomputable def LU:ER:=λr b e=>(E6 e).bind λq=>(CL q.v).bind λw=>fH b.lam λz j=>gd (u_ b "sorted" q.x) λh=>gd (q.ky==("key":ao)) λ_=>(r.e b q.a).bind λf=>(r.e (kC b w.1.1 (yY w.2.2.1)) w.2.1).bind λg=>
 gd (b.calm&&az f.y) λi=>gd ((yY w.2.2.1).all λy=>b.U.contains y&&Y4 (b.gl y)) λl=>gd (yJ (kC b w.1.1 (yY w.2.2.1)) [w.1.1] w.2.2.1) λk=>gd (decide (w.2.2.2∈z.2)&&b.lnm==("<lambda>":ao)) λc=>
 aa ⟨.Call (.Name "sorted" q.p0) [f.y] [⟨aa "key",EC w g.y,q.pk⟩] q.pc,VB z.1 g.d f.d,λC=>Ud C (zB i).1 (zP h).1 (zP h).2 (zB i).2 (f.ok C) j (beq_iff_eq.mp (zB c).2) (of_decide_eq_true (zB c).1) l k λ_ _ _ m=>g.ok m⟩
noncomputable abbrev pM(x y:T)(μ:Mem):RE T:=match y with
 |.m i=>(match x with
  |.int z=>λK _=>∃a,μ[i]?=aa (MO.d a)/\K (.bl (zr (.inl z) a).isSome) μ
  |.str z=>λK _=>∃a,μ[i]?=aa (MO.d a)/\K (.bl (zr (.inr z) a).isSome) μ
  |_=>.st)
 |_=>WV .In x y μ
noncomputable abbrev pA(f g:De):De:=λc d=>(f c d).bind λx b=>(g c b).bind λy a=>pM x y a
noncomputable abbrev qE(o b f:De):Ds:=λd j=>(f d j).out d λt g=>(o d g).out d λot e=>(b d e).out d λit c=>match ot,it with
 |.m i,.int k=>λE=>(∃h,c[i]?=aa (.l h)/\(0<=k/\k<h.length/\k<9223372036854775808)/\E.nx d (c.set i (.l (h.set k.toNat t))))\/(∃a,c[i]?=aa (.d a)/\a.length<aB/\E.nx d (c.set i (.d (wA (.inl k) t a))))
 |.m i,.str z=>λE=>∃a,c[i]?=aa (.d a)/\a.length<aB/\E.nx d (c.set i (.d (wA (.inr z) t a)))
 |_,_=>.st
section
theorem uF:∀{kvs:List (Key×T)}{gs:List (Key×V)},aM D φ α H kvs gs->(xa gs z).isSome=(zr z kvs).isSome
 |[],_,h=>by subst h;rfl
 |p::r,_,h=>by
  obtain⟨v,q,rfl,d,l⟩:=h;unfold zr;by_cases e:p.1=z
  .rw[if_pos e,kF e];rfl
  .rw[if_neg e,kG e];exact uF l
theorem C8(I:Inv X j u H s)(m:X.A.units+64<cLine)(c:au D φ α H μ)(d:aI D φ α H x v)(g:aI D φ α H y w)(f:RelV v C)(e:RelV w B)
  (p:aq D W φ α H u (RV D φ Q) (pM x y μ)):aA (aC X.prog X.w) X.A (dN .In C B) (EP X j u Q) X.xe s:=by
 have go:∀{i:Nat}{z:Key}{a:List (Key×T)},y=.m i->v=kV z->μ[i]?=aa (MO.d a)->aq D W φ α H u (RV D φ Q) (.ok (.bl (zr z a).isSome) μ)->aA (aC X.prog X.w) X.A (dN .In C B) (EP X j u Q) X.xe s:=λ{i z a} r t b h=>by
  subst r;subst t;obtain⟨ad,n,rfl⟩:=g;subst e;obtain⟨q,o,l⟩:=c.ob i ad _ n b;refine EA (by omega) I (dJ.k o) f λF E=>⟨.bl (xa q z).isSome,H,E,rfl,?_⟩;rw[uF l];exact h.here c rfl
 unfold pM at p;split at p
 .split at p
  .obtain⟨a,b,p⟩:=p.ex1;exact go (z:=.inl _) rfl d b p
  .obtain⟨a,b,p⟩:=p.ex1;exact go (z:=.inr _) rfl d b p
  .exact p.elim
 .exact Qj I m c d g f e p
theorem LP(C:Ck D W U X k)(ho:vX .In b=ae)(B:PE X a (aD D W f))(hb:PE X b (aD D W g)):PE X (.Compare a [.In] [b] pos) (aD D W (pA f g)):=by
 rintro i s M H Q I ⟨K,O,L,N,r,A,p⟩;refine ss (aF (sub B I r A p) ?_) (ja ho);rintro u V ⟨v,Z,t,l,n,J,x,o,d,h,F,z⟩;refine aF (sub hb J d h z) ?_;rintro R T ⟨P,Y,S,j,m,G,w,c,q,e,E,y⟩;exact C8 G C.unt e (F.step c) E x w y
theorem ar.or{r a:En->Prop}(p:ar D W φ α H E λE=>r E\/a E):ar D W φ α H E r\/ar D W φ α H E a:=by
 obtain⟨E0,q,b⟩:=p;rcases q with q|q
 .exact .inl ⟨E0,q,b⟩
 .exact .inr ⟨E0,q,b⟩
theorem YQ(j:X.A.units+1<cLine):tL X (λo i v H Q=>(∃l k xs,o=.ref l/\i=.int k/\H l=aa (.l xs)/\0<=k/\k<xs.length/\k<9223372036854775808/\Q (upd H l (.l (xs.set k.toNat v))))\/(∃l gs z,o=.ref l/\i=kV z/\H l=aa (.dK gs)/\gs.length<sizeLine/\Q (upd H l (.dK (cj gs z v))))):=by
 intro a s e H o i v f g u Q I c d b h;rcases h with h|⟨l,gs,z,rfl,rfl,n,m,q⟩
 .exact gx a s e H o i v f g u Q I c d b h
 .subst c;exact KU j I (iG.k n m) d b λr p=>⟨_,p,q⟩
theorem L6(C:Sk D W Γ X k)(T:qq b=ae)(ha:PE X a (aD D W f))(ho:PE X o (aD D W fo))(hb:PE X b (aD D W fb)) :
  PS X (.Assign [.Subscript o b p1] a pos) (cZ D W (qE fo fb f)):=by
 rintro F s V H E I ⟨K,α,L,Z,R,mr,p⟩;have h1:rO [.Subscript o b p1] a pos.line X.env=pure ag:=by cases a<;>rfl
 have h2:rN [.Subscript o b p1] a X.env=pure af:=by cases a<;>rfl
 refine U1 ha (HM ho hb (YQ (by have:=C.toCk.unt;lia)) (λv=>by cases b<;>first|(simp[qq] at T;done)|rfl)) h1 h2 rfl F s V H E I ⟨K,α,L,Z,R,mr,(ar.out R p).mono λt N P H1 Q m1 q v d=>?_⟩;have u:=R.step Q;refine⟨K,P,L,N,u,m1,(ar.out u q).mono λot M O H2 B m2 q2 ov dv=>?_⟩;have m:=u.step B;refine⟨K,O,L,M,m,m2,(ar.out m q2).mono λit Y h A j y g iv di=>?_⟩;have U:=(d.step B).step j;cases ot with
 | m i=>
  obtain⟨x,n,rfl⟩:=(dv.step j);cases it with
  |int J=>
   subst di;rcases ar.or g with g|g
   .obtain⟨ts,e,w,g⟩:=ar.ex1 g;obtain⟨xs,r,l⟩:=y.ob i x _ n e;have c:aw h A h (upd A x (.l (xs.set J.toNat v))):=aw.turn (aS n) ⟨_,r⟩;exact .inl ⟨x,J,xs,rfl,rfl,r,w.1,l.length▸w.2.1,w.2.2,ar.nx g c (y.turn n ((aO.mp e).1) c ⟨_,z0,av.set (l.step c) (U.step c)⟩) ((m.step j).step c)⟩
   .obtain⟨S,e,w,g⟩:=ar.ex1 g;obtain⟨G,r,l⟩:=y.ob i x _ n e;have c:aw h A h (upd A x (.dK (cj G (.inl J) v))):=aw.turn (aS n) ⟨_,r⟩;exact .inr ⟨x,G,(.inl J),rfl,rfl,r,zO l▸cz w (zN (aK _)),ar.nx g c (y.turn n ((aO.mp e).1) c ⟨_,z0,yP (U.step c) (l.step c)⟩) ((m.step j).step c)⟩
  |str z=>
   obtain⟨S,e,w,g⟩:=ar.ex1 g;obtain⟨G,r,l⟩:=y.ob i x _ n e;have c:aw h A h (upd A x (.dK (cj G (.inr z) v))):=aw.turn (aS n) ⟨_,r⟩;exact .inr ⟨x,G,(.inr z),rfl,di,r,zO l▸cz w (zN (aK _)),ar.nx g c (y.turn n ((aO.mp e).1) c ⟨_,z0,yP (U.step c) (l.step c)⟩) ((m.step j).step c)⟩
  |_=>exact ar.elim g
 |_=>exact ar.elim g
theorem Hi{R:β->Mem->List ak->Hp->Prop}{kk:T->Mem->RE β}{x y:T}{v w:V}{e c:ai}(I:Inv X B E H s)(i:X.A.units+64<cLine)(h:au D φ α H μ)(l:aI D φ α H x v)(k:aI D φ α H y w)(g:RelV v e)(f:RelV w c)
  (p:aq D W φ α H E R ((pM x y μ).bind kk)):aA (aC X.prog X.w) X.A (dN .In e c) (EP X B E λz C=>∃t u j,aw α H j C/\au D φ j C u/\aI D φ j C t z/\aq D W φ j C E R (kk t u)) X.xe s:=
 C8 I i h l k g f (p.bind.mono λt a b n st m q v d=>⟨t,a,b,st,m,d,q⟩)
theorem Kg(C:Ck D W Γ X k)(ho:vX .In b=ae)(N:PE X a (aD D W f))(hb:PE X b (aD D W g)):PT X (.Compare a [.In] [b] pos) (dG D W (tE (pA f g))):=by
 rintro m s σ H Q I ⟨Y,α,Z,μ,E,M,p⟩;refine sI (aF (sub N I E M p) ?_) (ja ho);rintro u s1 ⟨v,H1,t,q,x,U,J,A,h,l,R,L⟩;refine aF (sub hb U h l L) ?_;rintro u' s2 ⟨v',H2,t',o,w,T,G,e,B,j,P,K⟩;refine aF (Hi T C.unt j (R.step e) P J G K) ?_;rintro d s3 ⟨z,V,S,F,t3,n,r,y,i,O,c⟩;unfold W4 at c;split at c
 .subst O;subst F;exact eW ⟨V,S,c.ok (aw.refl _ _) i⟩
 .exact c.elim
end
noncomputable def Gk(a:Cn)(b:ap):Bool:=match b with
 |.Name x _=>(cF a.N x).isSome
 |_=>ag
noncomputable def Cm (r:e8)(c:Cn)(e:ap):Option (CB c):=(CH e).bind λq=>gd (Gk c q.b) λ_=>(r.e c q.a).bind λf=>(r.e c q.b).bind λg=>gd (vX .In g.y) λh=>(match q.op with
 |.In=>aa ⟨.Compare f.y [.In] [g.y] q.p,pA f.d g.d,λC=>⟨LP C h (f.ok C) (g.ok C),Kg C h (f.ok C) (g.ok C)⟩⟩
 |_=>af)
noncomputable def CB.eb{a:Cn}(c:CB a):EB a:=⟨c.y,c.d,λC=>(c.e C).1⟩
noncomputable def CB.tb{a:Cn}(c:CB a):TB a:=⟨c.y,tE c.d,λC=>(c.e C).2⟩
noncomputable def EJ:ER:=λr a e=>(Cm r a e).bind λc=>aa c.eb
noncomputable def F7:TR:=λr a e=>(Cm r a e).bind λc=>aa c.tb
noncomputable def IV:SR:=Fg qE λC h f o b=>L6 C h f o b
end NH
namespace NH.P
open PySem L2 NH
noncomputable abbrev km:List Ds:=[(aN (qd (tE (z4 wa [clz0,clz2]))) [(zE 13 [(eC (.str "no moment, house or count of the shape"))])] [])]
noncomputable def vx:Fn:=aQ 2 0 km
noncomputable abbrev ZK:List Ds:=[(zy (z4 vx [clz2,clz56])),(zy (z4 vx [clz4,clz44])),(zy (z4 vx [clz7,clz40])),(zf (za .Add (za .Mult (za .Add (za .Mult clz2 clz44) clz4) clz40) clz7))]
noncomputable def Jh:Fn:=aQ 4 0 ZK
noncomputable abbrev _root_.clz5:=eC (.int 2)
noncomputable abbrev _root_.clz12:=eC (.int 3)
noncomputable abbrev _root_.clz35:=bq clz2 clz1
noncomputable abbrev _root_.clz37:=bq clz2 clz3
noncomputable abbrev _root_.clz39:=bq clz2 clz5
noncomputable abbrev yz:List Ds:=[(aN (d_ (qd (tE (w_ [4] clz2))) (tE (zm .NotEq (cB jZ clz2) clz12))) [(zf clz9)] []),(aN (qd (wz (tE (z4 wa [clz37,clz44])) (wz (tE (z4 zQ [clz35])) (tE (z4 zQ [clz39]))))) [(zf clz9)] []),(zf (lD clz3 [(.LtE,clz35),(.Lt,clz39),(.LtE,clz56)]))]
noncomputable def uw:Fn:=aQ 2 0 yz
noncomputable abbrev jw:List Ds:=[(aN (qd (tE (z4 uw [clz0,clz2]))) [(zE 18 [(eC (.str "no lease of the shape"))])] [])]
noncomputable def j7:Fn:=aQ 2 0 jw
noncomputable abbrev _root_.clz59:=bq clz4 clz5
noncomputable abbrev jX:List Ds:=[(zK clz0 5 clz2),(zK clz0 6 clz4),(zK clz0 7 clz59),(zK clz0 8 clz9)]
noncomputable def Vr:Fn:=aQ 3 0 jX
noncomputable abbrev _root_.clz38:=zD clz0 6
noncomputable abbrev _root_.clz64:=bq clz38 clz1
noncomputable abbrev JA:List Ds:=[(zf (zm .Lt (ej jG clz64 clz2) (ej vU (zD clz0 7) clz4)))]
noncomputable def gC:Fn:=aQ 3 0 JA
noncomputable abbrev _root_.clz11:=eV 4
noncomputable abbrev jx:List Ds:=[(zj 3 clz2),(vM (.one 4) (iE (VB 0 clz64 clz0)) [(aN (tE (z4 gC [clz11,clz7,(za .Add clz7 clz4)])) [(zj 3 (zD clz11 7))] [])]),(zf clz7)]
noncomputable def xC:Fn:=aQ 3 2 jx
noncomputable abbrev _root_.clz10:=eV 5
noncomputable abbrev _root_.clz23:=eC (.bl ae)
noncomputable abbrev jF:List Ds:=[(zj 3 QO),(vM (.one 4) (iE clz0) [(aN (tE (z4 gC [clz11,clz2,(za .Add clz2 clz4)])) [(qE clz7 (bq (zD clz11 6) clz3) clz23)] [])]),(zj 5 clz3),(ZP (tE (pA clz10 clz7)) [(zj 5 (za .Add clz10 clz1))]),(zf clz10)]
noncomputable def xB:Fn:=aQ 3 3 jF
noncomputable abbrev jH:List Ds:=[(zK clz0 9 clz2),(zK clz0 10 (qP []))]
noncomputable def xF:Fn:=aQ 2 0 jH
noncomputable abbrev _root_.clz36:=zD clz0 9
noncomputable abbrev qr:List Ds:=[(aN (qd (tE (z4 vf [clz2]))) [(zE 17 [(eC (.str "a holder is a text of one to eight small letters"))])] []),(aN (wz (tE (zm .IsNot clz4 clz6)) (qd (tE (z4 wa [clz4,(zD clz36 1)])))) [(zE 13 [(eC (.str "no house of the shape"))])] []),(aN (qd (tE (z4 vu [clz11]))) [(zE 16 [(eC (.str "a span is a whole number from 1 on"))])] []),(aN (qd (tE (z4 zQ [clz7]))) [(zE 16 [(eC (.str "a moment is a whole number"))])] [])]
noncomputable def wZ:Fn:=aQ 5 0 qr
noncomputable abbrev _root_.clz47:=zD clz0 10
noncomputable abbrev _root_.clz65:=bq clz38 clz3
noncomputable abbrev wx:List Ds:=[(zf (qa 1 [1] (.one 0) (iE clz47) [(tE (zm .Eq clz65 clz2))] clz0))]
noncomputable def wX:Fn:=aQ 2 0 wx
noncomputable abbrev qV:List Ds:=[(aN (tE (zm .Is clz2 clz6)) [(zf (zZ [(z4 xB [clz47,clz4,clz7]),clz4,(za .Add clz4 clz7)]))] []),(zj 4 (z4 xC [(zz 43 wX clz0 [clz2]),clz4,clz7])),(zf (zZ [clz2,clz11,(za .Add clz11 clz7)]))]
noncomputable def wG:Fn:=aQ 4 1 qV
noncomputable abbrev kH:List Ds:=[(zy (zz 43 wZ clz0 [clz2,clz4,clz7,clz11])),(zj 5 (zz 43 wG clz0 [clz4,(ej jG clz7 clz3),clz11])),(aN (d_ (tE (zm .GtE (bq clz10 clz3) (zD clz36 1))) (tE (zm .Gt (bq clz10 clz5) (zD clz36 0)))) [(zE 19 [(eC (.str "no such stretch is free"))])] []),(zy (uC clz47 (uQ 42 Vr [clz2,clz10]))),(zf clz10)]
noncomputable def ud:Fn:=aQ 5 1 kH
noncomputable abbrev j6:List Ds:=[(zy (z4 j7 [clz36,clz2])),(vM (.one 2) (iE clz47) [(aN (wz (tE (zm .Eq (zD clz4 6) clz2)) (qd (tE (zD clz4 8)))) [(zf clz4)] [])]),(zE 18 [(eC (.str "no lease that was let and isn't cut"))])]
noncomputable def ko:Fn:=aQ 2 1 j6
noncomputable abbrev vw:List Ds:=[(zj 3 (zz 43 ko clz0 [clz2])),(aN (tE (zm .Is clz4 clz6)) [(zj 4 clz35)] [(aN (wz (tE (z4 zQ [clz4])) (tE (lD clz35 [(.LtE,clz4),(.Lt,clz39)]))) [(zj 4 (za .Add clz4 clz1))] [(zE 16 [(eC (.str "no moment of the lease"))])])]),(zK clz7 7 clz11),(zK clz7 8 clz23)]
noncomputable def u3:Fn:=aQ 3 2 vw
noncomputable abbrev vI:List Ds:=[(zf (qa 1 [] (.one 0) (iE clz47) [] (zZ [(zD clz0 5),clz65,clz64,(zD clz0 7)])))]
noncomputable def jC:Fn:=aQ 1 0 vI
end NH.P
namespace NH
open PySem PySem.Spec PyProof.Rows L2
section
variable {os:OsState}{sub:List ai}
theorem K8(F:rQ B j s u)(n:lO h u H) 
  (f:h.get? C=aa (g5 nm q C N bs H hdct sn sub ab col dd k0 k1 k2 k3 k5 j)) (J:h.Ns N G) (K:G "__init__"=aa (.ref fI)) (v:h.get? fI=aa I) (y:I.cls=.type "function")
  (go:∀h1 x,oK h h1 x (.ref C) us->aA (aC prog w) A (call (.ref fI) (.ref x::us)) (λr D=>r=.none/\Q (.done (.ret (.ref x))) D) E ⟨h1,g,d,t,os⟩) (k:us.length<=sizeLine) :
  aA (aC prog w) A (Builtin.«type.__call__» ⟨.ref C::us,[]⟩) Q E ⟨h,g,d,t,os⟩:=by
 repeat (first|(with_reducible refine mU f ?_)|(with_reducible refine wpAny_madeBy_exc f ?_)|wp_step)
 refine codeAny_call_builtin_code (AU _ F.quiet) (wpAny_check_new_subT F n f (codeAny_exc_new_subT F n f ?_ k));let i:bj:={cls:=.type "tuple",data:=.seq us.toArray};let a:bj:={cls:=.ref C,data:=.fields #[.ref h.objs.size,.none,.none,.none,.bool ag,.none]};have up:∀b o,h.get? b=aa o->((h.push i).push a).get? b=aa o:=λb o e=>bv _ (bv _ e);have c:=up _ _ f;have m:((h.push i).push a).Ns N G:=by
  obtain⟨o,L,M,e,r⟩:=J;exact⟨o,L,M,up _ _ e,r⟩
 have p:((h.push i).push a).get? (h.objs.size+1)=aa a:=by
  have:=dy (h.push i) (o:=a) rfl;rw[fT] at this;exact this
 have own:(cG C::H).contains (.ref C)=ae:=by simp
 have O:=n.keeps up;repeat (first|(with_reducible refine mU p ?_)|(with_reducible refine Bj c ?_;rw[own])|wp_step)
 refine wpAny_typeLookup_tail c m O F.mroIs F.init.lookup ?_;rw[K];refine dF (ay (ay (lW ⟨_,(up _ _ v),y⟩ (aU (ay (cX (go _ _ ⟨up,iR (fD _),h.objs.size,p,iR (aK _),bv _ (A8 rfl rfl)⟩) (λr D l=>?_) λ_ _ z=>z))))));obtain⟨rfl,l⟩:=l;wp_walk;exact l
theorem Kj(F:rQ B j s u)(k:lO h u H) 
  (b:h.get? C=aa (g5 nm q C N bs H hdct sn sub ab col dd k0 k1 k2 k3 k5 j)) (f:h.Ns N G) (i:G "__init__"=aa (.ref fI)) (c:h.get? fI=aa D) (e:D.cls=.type "function")
  (go:∀h1 x,oK h h1 x (.ref C) us->aA (aC prog w) (A.under (.builtin "type.__call__" ⟨.ref C::us,[]⟩)) (call (.ref fI) (.ref x::us)) (λr z=>r=.none/\Q (.ref x) z) E ⟨h1,g,d,t,os⟩) (a:us.length<=sizeLine) :
  aA (aC prog w) A (call (.ref C) us) Q E ⟨h,g,d,t,os⟩:=by
 have m:=tc_lookup;have l:=tc_bind (.ref C);refine ie (codeAny_of_tree ?_);repeat (any_goals (first|assumption|(with_reducible refine mU b ?_)|wp_step))
 refine⟨rfl,codeAny_call_builtin_at (AU _ (by decide +kernel)) entry_typeCall (wpAny_check_type_call_sub b ?_)⟩;exact K8 F k b f i c e (λh1 x mk=>go h1 x mk) a
theorem uL (a:D.contains (.type "BaseException")=ae) (c:A.handled=af)
  (go:aA M A x (λv j=>∃e t B,v=.ref e/\j.heap.get? C=aa (g5 nm q C N bs D hdct sn sub ab col dd k0 k1 k2 k3 k5 u)/\
   j.heap.get? e=aa {cls:=.ref C,dict:=B,data:=.fields #[.ref t,.none,.none,.none,.bool ag,.none]}/\E (.ref e) j) E s) :
  aA M A (raiseStmt env (aa x) af) Q E s:=by
 have hO:(cG C::D).contains (.type "BaseException")=ae:=by rw[sJ,a];simp
 refine ay (cX go (λv j k=>?_) λ_ _ z=>z);obtain⟨e,t,B,rfl,b,ge,d⟩:=k;obtain⟨h,i,l,f,g⟩:=j;repeat (first|(with_reducible refine mU ge ?_)|(with_reducible refine mU b ?_)|(with_reducible refine Bj b ?_;rw[hO])|wp_step)
 exact wpAny_raiseNew_none c d
end
section
variable {sub:List ai}
theorem Yt(F:rQ B u j z)(i:lO s.heap z D){e:ak}{ob:bj}{vs:Array ai}{t0:ak}{rest:List ai}{Q:ai->aJ->Prop}
  (f:s.heap.get? C=aa (g5 nm q C N bs D hdct sn sub ab col dd k0 k1 k2 k3 k5 u)) (he:s.heap.get? e=aa ob) (c:ob.cls=.ref C) (hd:ob.data=.fields vs) (h0:vs[0]?=aa (.ref t0))
  (h:Q .none {s with heap:=(s.heap.push {cls:=.type "tuple",data:=.seq rest.toArray}).update e (iN (·.setIfInBounds 0 (.ref s.heap.objs.size)))}) (b:rest.length<=sizeLine) :
  aA (aC prog w) A (call (.builtin j) (.ref e::rest)) Q E s:=by
 obtain⟨k,g,d,t,os⟩:=s;refine ie (sF F.init.plain F.initEntry (wpAny_check_init_subT F i f he c ?_));unfold Builtin.«BaseException.__init__»;have a:=bv {cls:=.type "tuple",data:=.seq rest.toArray} he;refine ay (lA (ay (ay (f9 a hd h0 (ay (oM a hd ((nr.mp h0).1) ?_))))) (by show rest.toArray.size<=sizeLine;rw[cN];exact b));exact wpAny_letGo (aU h)
end
noncomputable def vP:List ai->Bool
 |.ref _::r=>vP r
 |l=>l==qU
theorem vW(self:ai):∀{l:List ai},vP l=ae->PySem.refuseLoop self "__setattr__" l=pure ()
 |.ref c::r,e=>by rw[refuseLoop_ref];exact vW self e
 |.type n::r,e=>by rw[show rh n::r=qU from beq_iff_eq.mp e];exact Bz.passes self
 |[],e=>by injection e
 |v::r,e=>by
  unfold vP at e;split at e
  .rename_i h;(injection h with h a;subst h;subst a);rw[refuseLoop_ref];exact vW self e
  .rw[beq_iff_eq.mp e];exact Bz.passes self
theorem jN:∀{l:List ai},vP l=ae->l.contains (.type "object")=ae
 |.ref c::r,e=>by rw[sJ,jN (l:=r) e,rS]
 |[],e=>by injection e
 |v::r,e=>by
  unfold vP at e;split at e
  .rename_i h;(injection h with h a;subst h;subst a);rw[sJ,jN e,rS]
  .rw[beq_iff_eq.mp e];decide
section
variable {K:PySem.W.Frag}
theorem MK(X:K.In s.heap)(D:s.heap.get? x=aa u)(hc:u.cls=.ref C)(H:AG u=ae)(hd:u.dict=af)
  (hs:cP K (.ref C) "__setattr__"=aa (aa (.builtin "object.__setattr__"))) (hp:((mP K C).any λcd=>vP cd.mro)=ae) (ht:cP K (.ref C) name=aa af) (hh:lx K C=ae)
  (h:∀h' tk,h'.get? x=aa {u with dict:=aa s.heap.objs.size}->h'.Ns1 s.heap.objs.size (λy=>if y=name then aa v else af)->(∀b o,b≠x->s.heap.get? b=aa o->h'.get? b=aa o)->Q () {s with heap:=h',toks:=tk}) :
  aA (aC prog w) A (setAttr (.ref x) name v) Q E s:=by
 have J:sv s.heap x u C af:=⟨D,hc,H,by rw[hd];trivial⟩;refine Bg X J hs ?_;have L:=PySem.F.store_object;obtain⟨cd,n,M⟩:=sj hp;obtain⟨cd',j,p⟩:=sj hh;rw[n] at j;(replace j:=zo j;subst j);have ne:cd.mro.isEmpty=ag:=by cases q:cd.mro with|nil=>rw[q] at M;injection M|cons _ _=>rfl
 refine sF L.slot.plain L.entry (@PySem.W.check_slot (aC prog w) _ _ {s with toks:=s.toks+1} "object.__setattr__" "object" "__setattr__" (.ref x) [.str name s.toks,v] [] _ L.kind L.split (J.type.andThen (PySem.W.looks_mroIn X (by unfold fR;rw[n,AA,if_neg (by rw[ne];decide),jN M]))) (L.args (.ref x) (.str name s.toks) v) ?_);rw[PySem.W.osa_eq,refuse_eq];refine ay (ay (l_ J.type (ay (l_ ((sN X n).andThen .now) ?_))));rw[vW _ M];refine aU (ay (l_ J.type (ay (l_ (ou X ht) (ay (aU ?_))))));obtain⟨i,g,dr,t,os⟩:=s;obtain⟨oc,odi,m,N⟩:=u;subst hc hd;have G:∀c,m≠.cls c:=λc z=>by subst z;injection H
 refine ay (aU (ay (ay (wpAny_loadPart D (ay (l_ (sN X n) ?_))))));rw[p];have l:(i.push {cls:=.type "dict",data:=.dict #[]}).get? x=aa ⟨.ref C,af,m,N⟩:=bv _ D;have B:=b_ (bz D)
 have go:aA (aC prog w) A.in1 (do
   let d ←alloc {cls:=.type "dict",data:=.dict #[]}
   update x λo=>{o with dict:=aa d}
   dictMade (.ref C) x d) (λa k=>aA (aC prog w) A.in1 (match a with
    |some d=>Ed d (.str name t) name v
    |none=>Eb (.ref x) (.ref C) name ag) (λV k=>match V with|.done f=>(match (Except.ok f) with|.ok (.ret _)=>Q () k|.ok _=>False|.error e=>E e k)|.again Z=>Z.quiet=ae/\fC (aC prog w) A Z (λr k=>match r with|.ok (.ret _)=>Q () k|.ok _=>False|.error e=>E e k) k) (λe k=>E e k) k) (λe k=>E e k) ⟨i,g,dr,t+1,os⟩:=by
  refine ay (wpAny_alloc' (ay (wpAny_update' l (aU ?_))))
  have R:((i.push {cls:=.type "dict",data:=.dict #[]}).update x λo=>{cls:=o.cls,dict:=aa i.objs.size,data:=o.data,slots:=o.slots}).get? i.objs.size
    = aa {cls:=.type "dict",data:=.dict #[]}:=
   (sM _ _ _ _ B.symm).trans (A8 rfl rfl)
  have P:((i.push {cls:=.type "dict",data:=.dict #[]}).update x λo=>{cls:=o.cls,dict:=aa i.objs.size,data:=o.data,slots:=o.slots}).Ns i.objs.size (λ_=>af):=
   ⟨_,#[],_,R,rfl,λe he=>absurd he sC,λ_=>rfl⟩
  refine ay (aU (ay (wpAny_nsSet1 (Bf P) λh' I hs=>?_)));obtain⟨oD,esD,epD,O,S,T⟩:=I.count (Ab name v Within.nil);refine ay (AL O (S▸AK (cf T (by rw[eG,oP,db];lia))) ?_);refine aU (h h' _ ?_ ?_ ?_)
  .refine (hs.2 x B).trans (oW _ l ?_);cases m<;>first|rfl|exact ((Heap.get?_some_iff.mp D).2)
  .obtain⟨o',es,ep,e1,e2,e3,eu,e4⟩:=I;exact⟨o',es,ep,e1,e2,e3,eu,λy=>by rw[e4 y]⟩
  .intro b o U Y;exact (hs.2 b (b_ (bz Y))).trans ((sM _ _ _ _ U).trans (bv _ Y))
 cases m<;>first|exact absurd rfl (G _)|exact go
end
set_option tactic.hygienic true in
theorem xu{K:bc}(X:K.In h)(e:rA K N=ae)(q:mS K N x=aa (aa v)):h.nsMap N x=aa v:=by
 obtain⟨o,l,m,b,hd,_,f⟩:=(Heap.Ns.of_isNs (sK X e));unfold mS at q;split at q
 .rename_i c d i k j a;have:=X _ _ a;rw[b] at this;(replace this:=zo this;subst this);cases hd;split at q
  .rename_i g;(injection q with q;injection q with q;subst q);rw[<-f];unfold nsFind findBy;rw[<-A2,g];rfl
  .split at q<;>cases q
 .exact z9 q
theorem gK.mro{K:bc}(x:gK K C HE fI fl):((mP K C).any λcd=>vP cd.mro)=ae:=by
 obtain⟨N,nm,q,bs,hd,sn,sub,ab,col,dd,k0,k1,k2,k3,k5,h,_⟩:=x.cls;unfold mP;rw[h];show vP qU=ae;decide
theorem gK.at_{K:bc}(x:gK K C HE fI fl)(X:K.In h):∃N nm q bs hd sn sub ab col dd k0 k1 k2 k3 k5,h.get? C=aa (g5 nm q C N bs (.ref HE::qU) hd sn sub ab col dd k0 k1 k2 k3 k5 "ValueError.__new__")/\h.Ns N (h.nsMap N)/\h.nsMap N "__init__"=aa (.ref fI)/\lO h qU (.ref HE::qU):=by
 obtain⟨N,nm,q,bs,hd,sn,sub,ab,col,dd,k0,k1,k2,k3,k5,h1,h2,l⟩:=x.cls;obtain⟨tl,w,d,t,r,k,c,a,s,b,p,j,i,g,f,e,u,o,n,m,v⟩:=QH X x.he;exact⟨N,nm,q,bs,hd,sn,sub,ab,col,dd,k0,k1,k2,k3,k5,X _ _ h1,.of_isNs (sK X h2),xu X h2 l,.own o n m .base⟩
section
theorem Mq (hN:X.N[1]?=aa par) (l:gL X.env.scope par) (hd:(par==("__debug__":ao))=ag) (g:(par==("__classdict__":ao))=ag) (K:a.length<=1000) (hb:b.length<=1000) :
  PE X (.JoinedStr [.Constant (.str a) M p1,.FormattedValue (.Name par p2) (-1) af E,.Constant (.str b) kb D] C) (λj H Q=>∃i:Int,j[1]?=aa (aa (.int i))/\i.natAbs.log2<1920/\∀z,Q (.str z) H):=by
 rintro c s j H Q I ⟨i,m,d,q⟩;have L:(lg (toString i)).length<=1921:=by rw[BL];exact (AT dC d)
 refine At (aF (Qa c s j H (λv e=>v=.str a/\e=H) I ⟨rfl,rfl⟩) ?_);rintro u k ⟨v,e,t,r,rfl,rfl⟩;obtain⟨A,rfl⟩:=r;have J:(i_++a).length<=1000:=by rw[mO];show 0+a.length<=1000;lia
 refine⟨_,_,rfl,by rw[db];lia,?_⟩;refine BX (aF (kX hN l hd g c k j e (λv f=>v=.int i/\f=e) t ⟨_,m,rfl,rfl⟩) ?_);rintro u h ⟨v,f,p,r,rfl,rfl⟩;obtain⟨y,rfl⟩:=r;refine BK d ?_;have G:(i_++a++lg (toString i)).length<=3000:=by rw[mO];lia
 refine⟨_,_,rfl,by rw[db];lia,?_⟩;have o:Inv X c j f {h with toks:=h.toks+1+1}:=p.kept λ_ _ q=>q;refine aF (Qa c _ j f (λv e=>v=.str b/\e=f) o ⟨rfl,rfl⟩) ?_;rintro u B ⟨v,w,n,r,rfl,rfl⟩;obtain⟨x,rfl⟩:=r;have F:(i_++a++lg (toString i)++b).length<=5000:=by rw[mO];lia
 refine⟨_,_,rfl,by rw[db];lia,by rw[db];lia,?_⟩;exact⟨.str _,w,n.kept λ_ _ q=>q,⟨_,rfl⟩,q _⟩
theorem Ux (hN:X.N[1]?=aa par) (h:gL X.env.scope par) (hd:(par==("__debug__":ao))=ag) (e:(par==("__classdict__":ao))=ag) (x:a.length<=1000) :
  PE X (.JoinedStr [.Constant (.str a) D p1,.FormattedValue (.Name par p2) (-1) af C] B) (λj H Q=>∃i:Int,j[1]?=aa (aa (.int i))/\i.natAbs.log2<1920/\∀z,Q (.str z) H):=by
 rintro b s j H Q I ⟨i,k,c,q⟩;have y:(lg (toString i)).length<=1921:=by rw[BL];exact (AT dC c)
 refine At (aF (Qa b s j H (λv d=>v=.str a/\d=H) I ⟨rfl,rfl⟩) ?_);rintro u g ⟨v,d,m,r,rfl,rfl⟩;obtain⟨o,rfl⟩:=r;have w:(i_++a).length<=1000:=by rw[mO];show 0+a.length<=1000;lia
 refine⟨_,_,rfl,by rw[db];lia,?_⟩;refine BX (aF (kX hN h hd e b g j d (λv f=>v=.int i/\f=d) m ⟨_,k,rfl,rfl⟩) ?_);rintro u p ⟨v,f,l,r,rfl,rfl⟩;obtain⟨n,rfl⟩:=r;refine BK c ?_;have t:(i_++a++lg (toString i)).length<=3000:=by rw[mO];lia
 refine⟨_,_,rfl,by rw[db];lia,by rw[db];lia,?_⟩;exact⟨.str _,f,l.kept λ_ _ q=>q,⟨_,rfl⟩,q _⟩
noncomputable def Vj(par:ao)(c:List ap):Prop:=
 (∃(a b:ao) (g kb:Nat) (f e d h:Pos),c=[.Constant (.str a) g f,.FormattedValue (.Name par e) (-1) af d,.Constant (.str b) kb h]/\a.length<=1000/\b.length<=1000)\/
 ∃(a:ao) (g:Nat) (f e d:Pos),c=[.Constant (.str a) g f,.FormattedValue (.Name par e) (-1) af d]/\a.length<=1000
theorem Yi (hN:X.N[1]?=aa par) (e:gL X.env.scope par) (hd:(par==("__debug__":ao))=ag) (c:(par==("__classdict__":ao))=ag) (h:Vj par j) :
  PE X (.JoinedStr j u) (λs H Q=>∃i:Int,s[1]?=aa (aa (.int i))/\i.natAbs.log2<1920/\∀z,Q (.str z) H):=by
 rcases h with⟨a,b,l,kb,k,g,f,n,rfl,d,m⟩|⟨a,l,k,g,f,rfl,d⟩
 .exact Mq hN e hd c d m
 .exact Ux hN e hd c d
theorem Mv (T:gK X.K C HE fI fl) (y:X.N[0]?=aa j) (n:gL X.env.scope j) (v:(j==("__debug__":ao))=ag) (m:(j==("__classdict__":ao))=ag)
  (hN:X.N[1]?=aa par) (hv:gL X.env.scope par) (hd:(par==("__debug__":ao))=ag) (w:(par==("__classdict__":ao))=ag) (r:Vj par D)
  (hB:Gl X B) (hm:X.mg B=aa (.ref HE)) (A:(B==("__debug__":ao))=ag) (p:li X.K (.ref HE) "__getattribute__"=aa (aa (.builtin "type.__getattribute__"))) (hr:rj X.K HE (.type "type")=ae)
  (hf:ri X.K (.ref HE) (.type "type") "__init__"=aa (.val (.builtin "ValueError.__init__"))) (d:(M.endLine==G.line)=ae) :
  PE X (.Call (.Attribute (.Name B q0) "__init__" M) [.Name j q2,.JoinedStr D p5] [] G) (λE H Q=>∃(x:ak) (i:Int),E[0]?=aa (aa (.ref x))/\E[1]?=aa (aa (.int i))/\i.natAbs.log2<1920/\H x=aa (.ext (uV x C))/\Q .n (upd H x (.ext (uV x C)))):=by
 rintro c s E H Q I ⟨x,i,h0,S,l,R,q⟩;refine ay (q_ I hB hm (ay (fS ?_)) A);have g:lZ ae (.Name B q0) X.env M G=pure G:=by unfold lZ;simp[d]
 refine ay (dF (PySem.W.method_cls I.kIn p (PySem.W.cls_value I.kIn hr hf rfl (ay (lS g ?_)))));have I1:Inv X c E H {s with toks:=s.toks+1}:=I.kept λ_ _ q=>q;refine PySem.W.callWith_of (P:=λ_=>True) rfl (λh _=>⟨.machine,.inr (.inl rfl),D5 rfl⟩) (ng (aF ((zF (kX y n v m) (zF (Yi hN hv hd w r) qg)) G c _ E H (λL H1=>∃z,L=[.ref x,.str z]/\H1=H) I1 ⟨_,h0,i,S,l,λz=>⟨z,rfl,rfl⟩⟩) ?_));rintro U a ⟨L,H2,J,V,z,rfl,rfl⟩;obtain⟨f,rfl⟩:∃f,U=[.ref x,f]:=by
  cases V with
  |cons r1 Z=>cases Z with
   |cons r3 Y=>cases Y;subst r1;exact⟨_,rfl⟩
 refine⟨trivial,?_⟩;obtain⟨N,nm,qn,bs,hdd,sn,sub,ab,col,dd,k0,O,k2,k3,k5,g1,g2,g3,g4⟩:=T.at_ J.kIn;obtain⟨t,ex⟩:uV x C a.heap:=(J.hok _ _ R).1;refine Yt (rest:=[f]) nj g4 g1 ex rfl rfl rfl ?_ (by rw[db];show 1<=_;lia);have ex1:=bv (h:=a.heap) {cls:=.type "tuple",data:=.seq [f].toArray} ex;have O:∀b u,b≠x->a.heap.get? b=aa u->((a.heap.push {cls:=.type "tuple",data:=.seq [f].toArray}).update x (iN (·.setIfInBounds 0 (.ref a.heap.objs.size)))).get? b=aa u:=λb u hb hu=>by
  rw[l7 _ _ (bd hb)];exact bv _ hu
 have ex2:((a.heap.push {cls:=.type "tuple",data:=.seq [f].toArray}).update x (iN (·.setIfInBounds 0 (.ref a.heap.objs.size)))).get? x=aa {cls:=.ref C,data:=.fields #[.ref a.heap.objs.size,.none,.none,.none,.bool ag,.none]}:=by
  rw[oW _ ex1 rfl];rfl
 exact⟨.n,_,J.write (x:=x) (e:=x) (o:=.ext (uV x C)) (t':=a.toks) (R▸eM) (.inl rfl) O ⟨_,ex2⟩ ⟨⟨_,ex2⟩,⟨_,ex2⟩,λS h2 ⟨t,e⟩ k=>⟨t,k _ e⟩⟩,rfl,q⟩
theorem Ug (h:gK X.K C HE fI fl) (A:X.N[0]?=aa j) (n:gL X.env.scope j) (w:(j==("__debug__":ao))=ag) (g:(j==("__classdict__":ao))=ag)
  (hN:X.N[1]?=aa par) (Q:gL X.env.scope par) (hd:(par==("__debug__":ao))=ag) (y:(par==("__classdict__":ao))=ag) :
  PS X (.Assign [.Attribute (.Name j q0) fl q1] (.Name par q2) q3) (λD B H=>∃(x:ak) (i:Int),B[0]?=aa (aa (.ref x))/\B[1]?=aa (aa (.int i))/\H x=aa (.ext (uV x C))/\∀E,H E=af->E≠x->D.nx B (upd (upd H x (.ext (Z3 x C E))) E (.xd [(fl,.int i)]))):=by
 rintro a s B H D I ⟨x,i,V,L,J,q⟩;refine BV (aF (kX hN Q hd y a s B H (λv m=>v=.int i/\m=H) I ⟨_,L,rfl,rfl⟩) ?_) rfl;rintro u O ⟨v,m,I1,r,rfl,rfl⟩;refine aF (kX A n w g a O B m (λv G=>v=.ref x/\G=m) I1 ⟨_,V,rfl,rfl⟩) ?_;rintro ov l ⟨v,G,d,P,rfl,rfl⟩;subst P;obtain⟨t,ex⟩:uV x C l.heap:=(d.hok _ _ J).1;refine MK d.kIn ex rfl rfl rfl h.sa h.mro h.no h.dct λW M F Z Y=>?_;have T:=d.hok.fresh (aK _);have ne:=fP (bz ex);refine⟨B,_,?_,q _ T ne⟩;have c:=vj d (iR (aK _));have o:∀p∈a,p.1≠l.heap.objs.size:=λp S z=>by
  have:=(d.pin p (cD _ S)).1;rw[z,iR (aK _)] at this;exact z9 this
 have I3:Inv X a B (upd G x (.ext (Z3 x C l.heap.objs.size))) {l with heap:=W,toks:=M}:=d.write (J▸eM) (.inl rfl) (λb u U R=>Y b u U R) ⟨_,F⟩ ⟨⟨t,F⟩,⟨_,F⟩,λL h2 ⟨t,e⟩ k=>⟨t,k _ e⟩⟩;refine wq I3 ⟨z6 ne▸c.free,c.loc,c.nfs,c.new,c.cel,c.pin⟩ o ⟨_,Z,λf=>?_⟩;by_cases z:f=fl
 .subst z;simp only[g9,beq_self_eq_true];exact r
 .rw[if_neg z];have:=beq_eq_false_iff_ne.mpr z;simp only[g9,this];exact trivial
end
noncomputable def C5(body:List aV)(B b par fl:ao):Prop:=∃(k d j l c i h g f e:Pos) (a:List ap),
 body=[.Expr (.Call (.Attribute (.Name B k) "__init__" d) [.Name b j,.JoinedStr a l] [] c) i,.Assign [.Attribute (.Name b h) fl g] (.Name par f) e]/\(d.endLine==c.line)=ae/\Vj par a
noncomputable def tR (a par B:ao)(sc:Scope):Bool:=(sc.kind==.function)&&!sc.isCoroutine&&!sc.isGenerator&&(a != par)&&(sc.names.lookup a==aa .local)&&(sc.names.lookup par==aa .local)&&sc.names.all (λy=>y.2 != .free)&&(sc.names.lookup B==aa .globalImplicit)&&
 (a != ("__debug__":ao))&&(a != ("__classdict__":ao))&&(par != ("__debug__":ao))&&(par != ("__classdict__":ao))&&(B != ("__debug__":ao))
section
variable {K:PySem.W.Frag}
structure DJ(K:PySem.W.Frag)(mg:ao->Option ai)(HE:ak)(B:ao):Prop where
 mg:mg B=aa (.ref HE)
 ga:li K (.ref HE) "__getattribute__"=aa (aa (.builtin "type.__getattribute__"))
 rd:rj K HE (.type "type")=ae
 fc:ri K (.ref HE) (.type "type") "__init__"=aa (.val (.builtin "ValueError.__init__"))
theorem FY{a par B:ao}{params:Arguments}{body:List aV}{I kV m G b ct O:ai}{J N:Option ak} 
  (F:gK K C HE fI fl) (hi:DJ K mg HE B) (lk:K.lookup fI=aa ⟨O,N,.func (fm name j params body scope I kV m G J b ct),M⟩) (r:gV K b j=ae) (hf:C5 body B a par fl) (hs:tR a par B scope=ae) :
  bF P w K mg base CX (k+1) fI (fm name j params body scope I kV m G J b ct) [a,par] (nA C fl):=by
 simp only[tR,bW,eP,beq_iff_eq,l5,bne_iff_ne,ne_eq] at hs;obtain⟨⟨⟨⟨⟨⟨⟨⟨⟨⟨⟨⟨Z,Y⟩,X⟩,V⟩,u⟩,t⟩,U⟩,T⟩,R⟩,D⟩,z⟩,y⟩,v⟩:=hs;have S:dw [a,par] [a,par] scope:=⟨Z,Y,X,by simp[V],rfl,λx c=>by
  rcases bC.mp c with rfl|c
  .exact .inl u
  .rw[aT.mp c];exact .inl t,U⟩
 obtain⟨q0,q1,q2,p5,q4,q5,r0,r1,r2,r3,n,rfl,c5,c6⟩:=hf;refine Dc (fnb:=λ_=>ae) lk r S (λL H Q E q=>by obtain⟨x,i,rfl,_⟩:=q;rfl) λA o s H L Q E hr p _=>?_;obtain⟨x,i,rfl,d,c,q⟩:=p;have g:=beq_eq_false_iff_ne.mpr R;have l:=beq_eq_false_iff_ne.mpr D;have f:=beq_eq_false_iff_ne.mpr z;have h:=beq_eq_false_iff_ne.mpr y;refine⟨_,W6 (VZ (Mv (C:=C) (HE:=HE) (fI:=fI) (fl:=fl) F rfl (.inl u) g l rfl (.inl t) f h c6 T hi.mg (beq_eq_false_iff_ne.mpr v) hi.ga hi.rd hi.fc c5)) (L_ (Ug (C:=C) (HE:=HE) (fI:=fI) F rfl (.inl u) g l rfl (.inl t) f h)),x,i,rfl,rfl,d,c,x,i,rfl,rfl,z0,λdx e ne=>?_⟩;rw[Jk];exact q dx (by rw[z6 ne] at e;exact e) ne
theorem IL{a par B:ao}{params:Arguments}{body:List aV}{f kV c e b ct l:ai}{g i:Option ak} 
  (h:gK K C HE fI fl) (hi:DJ K mg HE B) (lk:K.lookup fI=aa ⟨l,i,.func (fm name j params body scope f kV c e g b ct),s⟩) (d:gV K b j=ae) (hf:C5 body B a par fl) (hs:tR a par B scope=ae) :
  bF P w K mg base CX (k+1) fI (fm name j params body scope f kV c e g b ct) [a,par] (nA C fl):=FY h hi lk d hf hs
theorem WE(I:Inv X j B (upd H x (.ext φ)) s)(i:H x=af):Inv X j B H s:=by
 have nn:∀b,upd H x (.ext φ) b=af->H b=af:=λb e=>by
  by_cases z:b=x
  .rw[z];exact i
  .rw[z6 z] at e;exact e
 have d:∀b o,upd H x (.ext φ) b=aa o->(∀a,o≠.ext a)->H b=aa o:=λb o e n=>by
  by_cases z:b=x
  .rw[z,z0] at e;(replace e:=zo e;subst e);exact absurd rfl (n φ)
  .rw[z6 z] at e;exact e
 refine⟨I.ok,I.os,I.bare,⟨I.base.keep,I.base.slot,λb o e n h=>nn b (I.base.free b o e n h),I.base.there,λb xs e=>d b _ (I.base.tups b xs e) (λa z=>by injection z),λb o u e=>d b _ (I.base.frzs b o u e) (λa z=>by injection z),λb k e=>?_⟩,I.loc,I.cell,nn _ I.free,λy c e=>(I.freeC y c e).imp (nn _) λ⟨n,o,u,f⟩=>⟨n,o,u,d c _ f (λa z=>by injection z)⟩,λp l=>?_,λb ob e=>?_,I.len⟩
 .obtain⟨g,q⟩:=I.base.tbls b k e;exact⟨g,d b _ q (λa z=>by injection z)⟩
 .obtain⟨e,n,r⟩:=I.pin p l;exact⟨e,nn _ n,r⟩
 .have ne:b≠x:=λz=>by rw[z,i] at e;exact z9 e
  have q:=I.hok b ob (z6 ne▸e);exact q.stay (λ_ _ _ q=>q) (λc q=>d c _ q (λa z=>by injection z)) λc xs q=>d c _ q (λa z=>by injection z)
end
section
theorem U8{a b:HO}(h:x≠y):upd (upd H x a) y b=upd (upd H y b) x a:=by
 funext c;by_cases z:c=y
 .subst z;rw[z0,z6 (bd h),z0]
 .rw[z6 z];by_cases d:c=x
  .subst d;rw[z0,z0]
  .rw[z6 d,z6 d,z6 z]
theorem UL(O:gK X.K C HE fI fl)(hb:Binds X.K fd ps [])(hr:bE (kk+1) X.A)
  (F:bF X.prog X.w X.K X.mg X.base (dB X.prog X.w) kk fI fd ps (nA C fl)) (I:Inv X B M H s) (r:RelV (.int i) u) (b:i.natAbs.log2<1920)
  (q:∀x j t D,Inv X B M (upd H j (.xd [(fl,.int i)])) D->H j=af->c7 X H x->j≠x->D.heap.get? x=aa {cls:=.ref C,dict:=aa j,data:=.fields #[.ref t,.none,.none,.none,.bool ag,.none]}->Q (.ref x) D) :
  aA (aC X.prog X.w) X.A (call (.ref C) [u]) Q X.xe s:=by
 obtain⟨N,nm,qn,bs,U,sn,sub,ab,col,dd,k0,k1,k2,k3,k5,g1,g2,Z,Y⟩:=O.at_ I.kIn;obtain⟨n,V,W⟩:∃n,s.heap.get? fI=aa n/\n.cls=.type "function":=by
  obtain⟨o,f,e⟩:=l6.mp O.fn;exact⟨o,I.kIn _ _ f,e⟩
 obtain⟨hh,P,d,g,os⟩:=s;refine Kj nj Y g1 g2 Z V W (λE x mk=>?_) (by rw[db];show 1<=_;lia);have m:=vj I mk.new;have y:∀p∈B,p.1≠x:=λp S z=>by
  have:=(I.pin p (cD _ S)).1;rw[z,mk.new] at this;exact z9 this
 obtain⟨t,f,_,_⟩:=mk.there;have L:Inv X B M (upd H x (.ext (uV x C))) ⟨E,P,d,g,os⟩:=wq (I.kept (t':=g) mk.keeps) m y ⟨⟨t,f⟩,⟨_,f⟩,λE h2 ⟨t,e⟩ k=>⟨t,k _ e⟩⟩;have T:([cG x,u]++[]).length=ps.length:=by
  have:=F.len [.ref x,.int i] (upd H x (.ext (uV x C))) (λ_ _=>True) (λ_ _ _=>False) ⟨x,i,rfl,b,z0,λ_ _ _=>trivial⟩;exact this
 refine ie (ii (F.run _ X.stack ⟨E,P,d,g,os⟩ (upd H x (.ext (uV x C))) ⟨[.ref x,u],[]⟩ [.ref x,u] [.ref x,.int i] (λv R=>v=.n/\∃j,H j=af/\j≠x/\R=upd (upd H x (.ext (Z3 x C j))) j (.xd [(fl,.int i)])) (λ_ _ _=>False) (hr.make C [u] []) (L.env0.make C [u] []) (by simpa using hb _ [.ref x,u] L.kIn T) (.cons rfl (.cons r .nil))
  ⟨x,i,rfl,b,z0,λj a ne=>⟨rfl,j,by rw[z6 ne] at a;exact a,ne,by rw[Jk]⟩⟩) λl D c=>?_)
 cases l with
 |error e=>
  obtain⟨_,_,_,_,_,_,_,_,_,_,_,_,_,_,_,z⟩:=c;exact z.elim
 |ok G=>
  cases G with
  |ret v=>
   obtain⟨v',R,J,h,⟨rfl,j,a,ne,rfl⟩⟩:=L.after c;refine⟨h,?_⟩;obtain⟨t',e'⟩:Z3 x C j D.heap:=(show aR X.prog X.w _ D.heap x (.ext (Z3 x C j)) from J.hok x _ (by rw[z6 (bd ne),z0])).1;rw[U8 (bd ne)] at J;exact q x j t' D (WE J ((z6 (bd ne))▸m.free)) a m ne e'
  |next=>exact cW c
  |brk=>exact cW c
  |cont=>exact cW c
noncomputable def hash(m:ao):ao:=⟨#[35]++m.cps⟩
theorem K4(C:Sk D W Y X k)(hc:Y.calm=ae)(hx:x∈Y.G)(hU:hash x∈Y.U)(hg:Y.gl (hash x)=.xin n f x fl)(O:az a=ae)(ha:PE X a (aD D W g)) :
  PS X (.Raise (aa (.Call (.Name x p0) [a] [] p1)) af pos) (cZ D W (Qd n f g)):=by
 rintro M s T H E I ⟨J,α,S,μ,sr,mr,p⟩;have q:=(C.glU _ hU).1;rw[hg] at q;obtain⟨C0,HE,fI,fd,ps,kk,ad,hm,hfl,xi,hb,hkk,F⟩:=q;obtain⟨N,nm,qn,bs,hdd,sn,sub,ab,col,dd,k0,k1,k2,k3,k5,g1,g2,g3,g4⟩:=xi.at_ I.ok.mod.kin;have h:=g4.hasType nj.hasBase
 have body:aA (aC X.prog X.w) X.A (eval (.Call (.Name x p0) [a] [] p1) X.env) (λv R=>∃e t B,v=.ref e/\R.heap.get? C0=aa (g5 nm qn C0 N bs (.ref HE::qU) hdd sn sub ab col dd k0 k1 k2 k3 k5 "ValueError.__new__")/\
   R.heap.get? e=aa {cls:=.ref C0,dict:=B,data:=.fields #[.ref t,.none,.none,.none,.bool ag,.none]}/\X.xe (.ref e) R) X.xe s:=by
  refine wpAny_Call_ofName (q_ I (C.glb x hx) hm ?_ (C.dbG x hx));refine mW I.ok.mod.kin xi.kp (aF (zF ha qg (z7 O) p1 M s T H (λvs j=>∃v t l b,vs=[v]/\aw α H b j/\aH D J b j S T/\au D J b j l/\aI D J b j t v/\ar D W J b j E ((match t with
   |.int i=>.grd (i.natAbs.log2<1920) (.ex n [(f,.int i)] S l)
   |_=>.st:bS))) I ⟨J,α,S,μ,sr,mr,(ar.out sr p).mono λt V Z H' st m q v d=>⟨v,t,V,Z,rfl,st,sr.step st,m,d,q⟩⟩) ?_) (z7 O) rfl
  rintro us R ⟨vs,j,I1,rv,v,t,l,b,rfl,st1,sr1,o,d1,p1⟩;obtain⟨u,rfl,r⟩:∃u,us=[u]/\RelV v u:=by
   cases rv with
   |cons r1 r2=>cases r2;exact⟨_,rfl,r1⟩
  refine⟨I1.kIn,?_⟩;cases t<;>first|(obtain⟨Q,q,_⟩:=p1;exact q.elim)|skip
  rename_i i;obtain⟨P,p2⟩:=ar.grd p1;subst d1;refine UL xi hb ((C.rom hc).mono hkk) F I1 r P λe B t s' I2 y z ne he=>⟨e,t,aa B,rfl,I2.bk _ _ g1,he,C.xe _ _ ?_⟩;have sm:v_ j (upd j B (.xd [(fl,.int i)])):=ze y;have L:aw b j b (upd j B (.xd [(fl,.int i)])):=aw.new sm;exact⟨e,.ref C0,aa B,T,_,af,.none,rfl,I2.pins_of (λp hp=>absurd hp sC),⟨(z6 (bd ne))▸z.free,z.loc,z.nfs,z.new,z.cel,z.pin⟩,λt ht=>absurd ht sC,⟨⟨_,_,.ref t,he,⟨rfl,rfl⟩,rfl,rfl,rfl,λ_ _=>rfl⟩,rfl⟩,.inl rfl,(ar.ex p2 L (o.new sm) (sr1.step L) ⟨C0,ad,rfl⟩ ⟨_,zi o y,zh o y,z0,fl,.int i,[],hfl,rfl,rfl,rfl⟩)⟩
 first
  |exact ay (fS (uL h (I.ok.hd (C.clm hc)) (ay (cX body (λv K c=>ay (fS (aU c))) λ_ _ x=>x))))
  |(simp only[ Option.map];exact ay (fS (uL h (I.ok.hd (C.clm hc)) (ay (cX body (λv K c=>ay (fS (aU c))) λ_ _ x=>x)))))
end
noncomputable def B9 (a:Cn)(x:ao):(g:GM)->a.gl (hash x)=g->Option {q:Nat×Nat×ao×ao // a.gl (hash x)=.xin q.1 q.2.1 q.2.2.1 q.2.2.2/\hash x∈a.U}
 |.xin c f nm d,h=>gd (a.U.contains (hash x)) λb=>aa ⟨(c,f,nm,d),h,by simpa using b⟩
 |_,_=>af
noncomputable def Im:SR:=λr b s=>match s with
 |.Raise (aa e) af p=>(x_ e).bind λq=>(yS q.as).bind λa=>(B9 b q.x (b.gl (hash q.x)) rfl).bind λw=>(r.e b a).bind λg=>gd (b.calm&&b.G.contains q.x) λf=>gd (az g.y&&w.1.2.2.1==q.x) λc=>aa ⟨.Raise (aa (.Call (.Name q.x q.p0) [g.y] [] q.pc)) af p,Qd w.1.1 w.1.2.1 g.d,λC=>K4 C (zB f).1 (by simpa using (zB f).2) w.2.2 (by have z:=w.2.1;rw[beq_iff_eq.mp (zB c).2] at z;exact z) (zB c).1 (g.ok C.toCk)⟩
 |_=>af
section
open PySem.W
theorem Ky{K:Frag}(X:K.In s.heap)(I:InstAt s.heap x z D u)
 (e:cP K (.ref D) "__getattribute__"=aa (aa (.builtin "BaseException.__getattribute__"))) (hk:cP K (.ref D) "__getattr__"=aa af)
 (hf:findObj K D u name=aa (.value v)) (hb:fR K D (.type "BaseException")=aa ae) (l:rE v=ae)
 (h:Q v {s with toks:=s.toks+1}):aA (aC prog w) A (nY (.ref x) name j) Q E s:=by
 obtain⟨c,g,d,t,os⟩:=s;have a:=I.type (M:=aC prog w);have L2:=ou (M:=aC prog w) X hk;have f:=looks_find (M:=aC prog w) X I hf;have n:=looks_mroIn (M:=aC prog w) X hb;have o:=Bv.ga.bind (.ref x);refine ay (wpAny_mkText (dF (ay (a.at (ay ((ou (M:=aC prog w) X e).at (ay (L2.at (ay (rK (dF ?_)))))))))));unfold callGetattribute boundAndCalled;have b:(j&&onTheHeap (wT "BaseException.__getattribute__"))=ag:=by cases j<;>rfl
 rw[b,if_neg d7];refine ay (aU (ie (sF Bv.ga.plain PySem.F.entry_bexc_ga ?_)));have k:builtinKind "BaseException.__getattribute__"=aa .slot:=by decide +kernel
 have i:splitId "BaseException.__getattribute__"=aa ("BaseException","__getattribute__"):=by decide +kernel
 have m:rc (aC prog w) c (isInstance (.ref x) (.type "BaseException")) ae:=a.andThen n;refine ay (m.at (lS (PySem.F.args_bexc_ga (.ref x) (.str name t)) (ay (aU (ay ?_)))))
 first
  |exact aU (ay (a.at (ay (f.at ?_))))
  |(refine aU (ay (a.at (ay (f.at ?_)))))
  |(unfold Ea;refine aU (ay (a.at (ay (f.at ?_)))))
 exact aU (handed_on l h)
end
noncomputable abbrev Dd(c n:Nat)(t:T)(μ:Mem):RE T:=match t with
 |.exc a fs=>.grd (a=c) (match V5 fs n with|some v=>.ok v μ|none=>.st)
 |_=>.st
noncomputable abbrev YR(c n:Nat)(f:De):De:=λb d=>(f b d).bind λt a=>Dd c n t a
section
set_option tactic.hygienic true in
theorem Mf(C:Ck D W B X k)(hp:zU a=ae)(hU:hash x∈B.U)(hg:B.gl (hash x)=.xin c n nm x)(ha:PE X a (aD D W f)):PE X (.Attribute a x pos) (aD D W (YR c n f)):=by
 have q:=(C.glU _ hU).1;rw[hg] at q;obtain⟨C0,HE,fI,fd,ps,kk,ad,hm,o,A,hb,hkk,F⟩:=q;rintro K s σ H Q I ⟨φ,α,τ,μ,P,Y,p⟩;refine Ji (qj hp) (aF (sub ha I P Y p) ?_);rintro u E ⟨v,H1,t,L,M,i,R,N,O,m,d1,b⟩;unfold Dd at b;split at b
 .rename_i c' fs;have hh:=b.grd;clear b;obtain⟨hc,b⟩:=hh;subst hc;obtain⟨e,Ce,d,rfl,n1,n2,g,he,hd⟩:=d1;rw[ad] at g;(replace g:=zo g;subst g);subst R;split at b
  .rename_i w hw;cases d with
   |none=>rw[show fs=[] from hd] at hw;exact z9 hw
   |some dx=>
    obtain⟨gs,m1,m2,r,l⟩:=hd;obtain⟨y,z,h,Z,dz⟩:=l.look hw;rw[o] at h;(replace h:=zo h;subst h);obtain⟨S,vs,g1,g2,g3,g4⟩:ZX e C0 (aa dx) E.heap:=(i.hok _ _ he).1;obtain⟨mA,V,rel⟩:=(i.hok _ _ r);obtain⟨uu,hu,G⟩:=cq.some_of (Z▸rel x);obtain⟨T,ho,hl⟩:=Zp V;have j:=C.xcx _ _ ad;have J:sv E.heap e S C0 (aa T):=⟨g1,g2,by unfold AG;rw[g3],g4▸ho⟩;exact Ky i.kIn J j.ga j.hk (Bn A.dct A.no rfl (by rw[hl,hu])) j.bx (ZC G) ⟨z,H1,i.tok _,G,b.here m dz⟩
  .exact b.elim
 .exact b.elim
end
noncomputable def Mm:ap->Bool
 |.Name x _=>x != "self"
 |_=>ae
noncomputable def G3:ER:=λr b e=>match e with
 |.Attribute a x p=>(B9 b x (b.gl (hash x)) rfl).bind λw=>(r.e b a).bind λf=>gd (zU f.y&&Mm f.y) λh=>gd (w.1.2.2.2==x) λc=>aa ⟨.Attribute f.y x p,YR w.1.1 w.1.2.1 f.d,λC=>Mf C (zB h).1 w.2.2 (by have q:=w.2.1;rw[beq_iff_eq.mp c] at q;exact q) (f.ok C)⟩
 |_=>af
noncomputable abbrev NW(n:Nat)(o f:De):De:=λd e=>(o d e).bind λt c=>(uG t n c).bind λw b=>.grd (E2 w) ((f d b).bind λ_ a=>.ok .n a)
noncomputable abbrev NS(j:Nat):De:=λ_ (a:Mem) K _=>(∃i:Nat,a[i]?=aa (MO.tab j))/\K (.clo (2*j) [.clo (100+j) []]) a
noncomputable def NP:ao:=⟨#[37]⟩
section
theorem Qs{ad C0 a:ak}{m:ao}{v:V}(I:Inv X j B H s)(e:H ad=aa (.ins C0 a gs))(c:fB X.K C0)(n:bN X.K C0 m)(l:gs.lookup m=aa v)
  (h:∀u z,Inv X j B H z->RelV v u->Q (u,[]) z):aA (aC X.prog X.w) A (p_ (.ref ad) m pl) Q E s:=by
 obtain⟨d,O,r,_,_,_⟩:=kq I.hok e;obtain⟨b,J,f⟩:=O.look;exact PySem.W.method_usual I.kIn J (mX (c.get m)).1 (mX (c.get m)).2 n rfl (yy I e c n l h)
end
end NH
namespace NH.P
open PySem L2 NH
noncomputable abbrev v5:List Ds:=[(zf (kY (z4 zQ [clz0]) (zm .GtE clz0 clz3)))]
noncomputable def wk:Fn:=aQ 1 0 v5
noncomputable abbrev kU:List Ds:=[(aN (d_ (qd (tE (w_ [4] clz2))) (tE (zm .NotEq (cB jZ clz2) clz5))) [(zf clz9)] []),(aN (qd (d_ (tE (zm .Is clz37 clz6)) (tE (z4 uw [clz0,clz37])))) [(zf clz9)] []),(zf (t6 (zm .Is clz35 clz6) (z4 wa [clz35,clz56])))]
noncomputable def Jz:Fn:=aQ 2 0 kU
noncomputable abbrev kc:List Ds:=[(zK clz0 11 clz2),(zK clz0 12 clz4),(zK clz0 13 clz7)]
noncomputable def vg:Fn:=aQ 4 0 kc
noncomputable abbrev Zh:List Ds:=[(zf (z4 Jh [clz0,(za .FloorDiv clz4 clz40),clz2,(za .Mod clz4 clz40)]))]
noncomputable def Q7:Fn:=aQ 3 0 Zh
noncomputable abbrev _root_.clz45:=bq clz7 clz1
noncomputable abbrev _root_.clz50:=bq clz7 clz5
noncomputable abbrev _root_.clz51:=bq clz7 clz3
noncomputable abbrev jy:List Ds:=[(zj 3 (z4 u4 [clz0,clz4])),(aN (tE (zm .Lt clz45 clz2)) [(zf (za .Mult clz51 clz40))] []),(aN (tE (zm .Gt clz45 clz2)) [(zf (za .Mult (za .Add clz51 clz1) clz40))] []),(zf (za .Add (za .Add (za .Mult clz51 clz40) clz50) clz1))]
noncomputable def xX:Fn:=aQ 3 1 jy
noncomputable abbrev va:List Ds:=[(aN (tE (zD clz0 20)) [(zE 24 [(eC (.str "the house has fallen"))])] [])]
noncomputable def qe:Fn:=aQ 1 0 va
noncomputable abbrev _root_.clz41:=zD clz0 17
noncomputable abbrev kL:List Ds:=[(zf (zZ [clz38,clz41]))]
noncomputable def uM:Fn:=aQ 1 0 kL
noncomputable abbrev qv:List Ds:=[(aN (tE (zm .Is clz38 clz6)) [(zE 18 [(eC (.str "the house has no lease"))])] [])]
noncomputable def qF:Fn:=aQ 1 0 qv
noncomputable abbrev _root_.clz55:=zD clz0 18
noncomputable abbrev _root_.clz63:=zD clz36 2
noncomputable abbrev wc:List Ds:=[(aN (tE (zm .IsNot clz55 clz6)) [(zf (z4 xX [clz36,clz65,clz55]))] []),(aN (tE (zm .IsNot clz41 clz6)) [(zf (za .Mult (za .Add clz41 clz1) clz63))] []),(zf clz3)]
noncomputable def wY:Fn:=aQ 1 0 wc
noncomputable abbrev _root_.clz13:=eV 6
noncomputable abbrev w8:List Ds:=[(aN (d_ (qd (tE (z4 vu [clz4]))) (tE (zm .Gt clz4 clz63))) [(zE 20 [(eC (.str "so many are whole numbers from 1 on up to the shape's counts"))])] []),(aN (qd (tE (z4 zQ [clz2]))) [(zE 16 [(eC (.str "a reading is a whole number"))])] []),(zy (zz 45 qF clz0 [])),(zj 3 (za .Mult (ej jG clz64 clz2) clz63)),(zj 4 (ej jG (zz 45 wY clz0 []) clz7)),(zj 5 (za .Add clz11 clz4)),(aN (tE (zm .Gt clz10 (za .Mult (bq clz38 clz5) clz63))) [(zE 18 [(eC (.str "the lease has not so many names"))])] []),(zj 6 (za .Sub (za .FloorDiv (za .Sub clz10 clz1) clz63) (za .Add clz2 (zD clz0 14)))),(aN (tE (zm .Gt clz13 clz3)) [(Qd 21 29 clz13)] []),(zf (mn 44 vg [clz65,clz11,clz10]))]
noncomputable def vc:Fn:=aQ 3 4 w8
noncomputable abbrev qp:List Ds:=[(aN (wz (tE (zm .IsNot clz41 clz6)) (tE (zm .LtE clz2 clz41))) [(zf clz41)] []),(zf (ej vU (za .Add clz2 (zD clz0 15)) (za .Sub (zD clz36 0) clz1)))]
noncomputable def wF:Fn:=aQ 2 0 qp
noncomputable abbrev _root_.clz18:=eC (.int 2147483629)
noncomputable abbrev Zz:List Ds:=[(zj 2 (za .Mod (za .Mult (za .Add (za .Add (za .Mod clz0 clz18) (za .Mult (eC (.int 69621)) clz2)) clz1) (eC (.int 48271))) clz18)),(zj 2 (za .Mod (za .Mult clz4 (za .Add (za .FloorDiv clz4 (eC (.int 1009))) (eC (.int 69621)))) clz18)),(zj 2 (za .Mod (za .Mult clz4 (za .Add (za .Add (za .FloorDiv clz4 (eC (.int 907))) (eC (.int 16807))) clz2)) clz18)),(zf (za .Mod (za .Mult clz4 (za .Add (za .FloorDiv clz4 (eC (.int 1201))) (eC (.int 30011)))) clz18))]
noncomputable def JR:Fn:=aQ 2 1 Zz
noncomputable abbrev yi:List Ds:=[(zf (qP [(za .Mult (za .FloorDiv clz0 clz5) (za .Sub clz1 (za .Mod clz0 clz5))),clz0,clz3]))]
noncomputable def ke:Fn:=aQ 1 0 yi
noncomputable abbrev _root_.clz42:=bq clz0 clz3
noncomputable abbrev _root_.clz43:=bq clz0 clz1
noncomputable abbrev _root_.clz52:=bq clz0 clz5
noncomputable abbrev ZG:List Ds:=[(aN (d_ (qd (tE (w_ [4] clz0))) (tE (zm .NotEq (cB jZ clz0) clz12))) [(zf clz9)] []),(zf (kY (z4 zQ [clz42]) (kY (z4 zQ [clz43]) (w_ [1] clz52))))]
noncomputable def VM:Fn:=aQ 1 0 ZG
noncomputable abbrev xN:List Ds:=[(aN (d_ (qd (tE (w_ [5] clz0))) (qd (tE (cB V4 (qa 1 [] (.one 0) (iE clz0) [] (z4 VM [clz0])))))) [(zf clz9)] []),(zf (cB V4 (qa 1 [0] (.one 0) (Wx clz1 (cB jZ clz0)) [] (zm .Lt (bq (bq clz2 (za .Sub clz0 clz1)) clz3) (bq (bq clz2 clz0) clz3)))))]
noncomputable def Zv:Fn:=aQ 1 0 xN
noncomputable abbrev k9:List Ds:=[(aN (d_ (qd (tE (z4 zQ [clz2]))) (qd (tE (z4 Zv [clz4])))) [(zE 15 [(eC (.str "a clock has a whole number and a list of turns whose times rise"))])] []),(zK clz0 3 clz2),(zK clz0 4 (cB Qw clz4))]
noncomputable def jI:Fn:=aQ 3 0 k9
noncomputable abbrev _root_.clz60:=bq clz4 clz3
noncomputable abbrev _root_.clz61:=bq clz4 clz1
noncomputable abbrev vH:List Ds:=[(aN (qd (tE (z4 zQ [clz2]))) [(zE 16 [(eC (.str "a time is a whole number"))])] []),(vM (.one 2) (tJ (zD clz0 4)) [(aN (tE (zm .LtE clz60 clz2)) [(zf (za .Add clz61 (nH (tE clz59) (za .Sub clz2 clz60) clz3)))] [])]),(zf (za .Add (zD clz0 3) clz2))]
noncomputable def jz:Fn:=aQ 2 1 vH
end NH.P
namespace NH
open PySem PySem.Spec PyProof.Rows L2
noncomputable abbrev tF(ts:List T)(μ:Mem):RE T:=.som (bM ts) λa=>.ok (.int a.sum) μ
noncomputable abbrev pv(t:T)(μ:Mem):RE T:=match t with
 |.l a=>tF a μ
 |.m i=>λK Z=>∃a,μ[i]?=aa (.l a)/\tF a μ K Z
 |_=>.st
noncomputable def Gh(i:Nat)(t:T)(μ:Mem)(a:List T):Prop:=t=.l a\/∃j,t=.m j/\j≠i/\μ[j]?=aa (.l a)
noncomputable abbrev pC(o f:De):De:=λe g=>(o e g).bind λot b=>match ot with
 |.m i=>λK Z=>(∃c,b[i]?=aa (.l c))/\f e b (λt a=>∃c d,a[i]?=aa (.l c)/\Gh i t a d/\c.length+d.length<=aB/\K .n (a.set i (.l (c++d)))) Z
 |_=>.st
section
theorem IQ(e:A.handled=af)(c:s.heap.IsList l vs.toArray)(hi:fO vs ns)
  (h:∀h' tk t',(∀b o,s.heap.get? b=aa o->h'.get? b=aa o)->Q (.int ns.sum t') {s with heap:=h',toks:=tk}):aA (aC prog w) A (call (.builtin "sum") [.ref l]) Q E s:=by
 obtain⟨xs,a⟩:=hi.allInts.items;refine sum_intListG e (a▸c) λh' tk t' d=>?_;have g:ns=xs.toList.map (·.1):=by
  rw[<-nums_intItems,<-a];exact hi.numsOf.symm
 have f:preSum (numAt xs) xs.size=ns.sum:=by
  rw[preSum_eq,eH sC,g]
 rw[f];exact h h' tk t' d
theorem Us{ad:ak}(hc:X.calm=ae)(I:Inv X j u H s)(e:au D φ α H μ)(q:Rd H ad (.l z))(l:av D φ α H xs z)(p:aq D W φ α H u (RV D φ Q) (tF xs μ)) :
  aA (aC X.prog X.w) X.A (call (.builtin "sum") [.ref ad]) (EP X j u Q) X.xe s:=by
 obtain⟨g,b,c,m⟩:=I.list (.inl q);obtain⟨d,a,p⟩:=aq.som p;have h:=jP a l;subst h;exact IQ (I.ok.hd hc) c.isList (intsAre_of b) λn i k f=>⟨.int d.sum,H,I.kept f,⟨_,rfl⟩,aq.here p e rfl⟩
theorem L4(hc:X.calm=ae):B1 X D W (.builtin "sum") pv:=by
 intro b s g H f i h t v u Q I a d r p;unfold pv at p;split at p
 .obtain⟨ad,xs,rfl,_,_,q,l⟩:=d;subst r;exact Us hc I a q l p
 .obtain⟨j,c,p⟩:=p.ex1;obtain⟨ad,e,rfl⟩:=d;subst r;obtain⟨xs,q,l⟩:=a.ob _ ad _ e c;exact Us hc I a (.inl q) l p
 .exact p.elim
theorem Vs:wn X "list.extend" (λx vs H Q=>∃l b xs j,x=.ref l/\vs=[.ref b]/\H l=aa (.l xs)/\Rd H b (.l j)/\xs.length+j.length<=sizeLine/\Q .n (upd H l (.l (xs++j)))):=by
 intro i s B H x vs v D Q I m o h;obtain⟨l,b,xs,j,rfl,rfl,k,y,E,q⟩:=h;subst m;obtain⟨u,rfl,p⟩:=vals1 o;subst p;obtain⟨z,c,n,r,G,e⟩:=I.lstM k;obtain⟨C,a,t,g,A⟩:=y.ok I.hok;have w:=g.length;have f:c.toArray.size+a.toArray.size<=sizeLine:=by rw[cN,cN];lia
 have d:¬(!c.toArray.isEmpty&&sY (c.toArray.size+a.toArray.size))=ae:=by
  rw[YL f,su];exact d7
 refine oa F.slot_list_extend ⟨_,e,rfl⟩ F.entry_list_extend (F.args_list_extend_2 _ _)
  (AutoSeq1.list_extend_list_list_0 l c.toArray n b a.toArray t d (by rw[cN];lia) lC) ⟨e,A,?_⟩
 refine⟨.n,_,I.lset k e sC (r.append g) ?_,rfl,q⟩;rw[eX];lia
set_option tactic.hygienic true in
theorem Iw(hp:zU o=ae)(hs:az a=ae)(h:(pa.endLine==pc.line)=ae)(ho:PE X o (aD D W go))(ha:PE X a (aD D W f)) :
  PE X (.Call (.Attribute o "extend" pa) [a] [] pc) (aD D W (pC go f)):=by
 have hb:cU [a] X.env=[(ag,eval a X.env)]:=z7 hs;refine PE.mono (YO sS PySem.F.slot_list_extend PySem.F.type_list_extend Vs ho (zF ha qg (z7 hs)) (qj hp) (by rw[hb];rfl) h (z7 hs) rfl) ?_;rintro σ H Q ⟨w,R,J,P,L,Y,p⟩;refine⟨w,R,J,P,L,Y,p.bind.mono λot z A H1 B M q ov dv=>?_⟩;split at q;case h_2=>exact q.elim
 rename_i i;obtain⟨K,Z,⟨⟨U,n⟩,hf⟩,hk,hz⟩:=q;obtain⟨x,E,rfl⟩:=dv;obtain⟨T,I,l0⟩:=M.ob _ x _ E n;refine⟨.inl ⟨rfl,_,.inl (.inl I)⟩,w,A,J,z,L.step B,M,_,Z,hf,?_,hz⟩;rintro t O ⟨ts,S,s,hl,hr,V⟩ b u k C v d;obtain⟨β,e2,_⟩:=k.ext;have g:b[i]?=aa x:=by
  rw[e2,cE (aO.mp E).1];exact E
 obtain⟨xs,N,l⟩:=C.ob i x _ g s;have hv:∃y c,v=.ref y/\Rd u y (.l c)/\av D w b u S c:=by
  rcases hl with rfl|⟨j,rfl,hj,m⟩
  .obtain⟨y,c,rfl,_,_,r,dl⟩:=d;exact⟨y,c,rfl,r,dl⟩
  .obtain⟨y,hy,rfl⟩:=d;obtain⟨c,hw,dl⟩:=C.ob j y _ hy m;exact⟨y,c,rfl,.inl hw,dl⟩
 obtain⟨y,c,rfl,G,dl⟩:=hv;have e:aw b u b (upd u x (.l (xs++c))):=aw.turn (aS g) ⟨_,N⟩;refine⟨x,y,xs,c,rfl,rfl,N,G,?_,?_⟩
 .rw[<-l.length,<-dl.length];exact cf hr (zN (aK _))
 .exact hk _ _ V b _ (k.trans e) (C.turn g ((aO.mp s).1) e ⟨_,z0,(l.step e).append (dl.step e)⟩) .n rfl
end
noncomputable def Ez:ER:=iq "sum" pv ae λC a c d b e=>Wi C a c (by decide +kernel) (by decide) b (L4 (C.clm (d rfl))) e
noncomputable def Fk:ER:=tS "extend" pC λC b a d c e=>Iw b a d c e
noncomputable def Hy:ER:=λr i e=>match e with
 |.Tuple [a,b] c p=>(r.e i a).bind λf=>(r.o i b).bind λg=>gd (gA [f,g]) λh=>aa ⟨.Tuple [f.y,g.y] c p,zZ [f.d,g.d],λC=>XF (by show (2:Nat)<=aB;decide) (QZ C h)⟩
 |_=>af
end NH
namespace NH.P
open PySem L2 NH
noncomputable abbrev wb:List Ds:=[(zf (vT 1 [1,0] (.one 0) (Wx (zD clz2 12) (zD clz2 13)) [] (z4 Q7 [clz4,(zD clz2 11),clz0])))]
noncomputable def qJ:Fn:=aQ 2 0 wb
noncomputable abbrev xG:List Ds:=[(zf (cB pv (qa 1 [] (.one 0) (iE clz0) [] (za .Sub (zD clz0 13) (zD clz0 12)))))]
noncomputable def xg:Fn:=aQ 1 0 xG
noncomputable abbrev _root_.clz62:=zD clz10 12
noncomputable abbrev Wc:List Ds:=[(zj 2 (qP [])),(zj 3 (qP [])),(zj 4 clz2),(vM (.one 5) (iE clz0) [(zj 6 (ej vU (za .Add clz62 clz11) (zD clz10 13))),(zj 4 (za .Sub clz11 (za .Sub clz13 clz62))),(zy (uC clz4 (mn 44 vg [(zD clz10 11),clz62,clz13]))),(zy (uC clz7 (mn 44 vg [(zD clz10 11),clz13,(zD clz10 13)])))]),(zf (zZ [clz4,(vT 1 [] (.one 0) (iE clz7) [(tE (zm .Lt (zD clz0 12) (zD clz0 13)))] clz0)]))]
noncomputable def gz:Fn:=aQ 2 5 Wc
noncomputable abbrev vO:List Ds:=[(aN (qd (wz (tE (z4 wk [clz4])) (tE (z4 wk [clz7])))) [(zE 16 [(eC (.str "ahead and stride are whole numbers from 0 on"))])] []),(aN (wz (tE (zm .IsNot clz10 clz6)) (qd (tE (z4 Jz [clz2,clz10])))) [(zE 23 [(eC (.str "no note of the shape"))])] []),(zK clz0 9 clz2),(zK clz0 14 clz4),(zK clz0 15 clz7),(zK clz0 16 clz11),(zK clz0 6 (nH (tE (zm .Is clz10 clz6)) clz6 (bq clz10 clz3))),(zK clz0 17 (nH (tE (zm .Is clz10 clz6)) clz6 (bq clz10 clz1))),(zK clz0 18 clz6),(zK clz0 19 (qP [])),(zK clz0 20 clz9)]
noncomputable def vt:Fn:=aQ 6 0 vO
noncomputable abbrev _root_.clz54:=zD clz0 19
noncomputable abbrev vE:List Ds:=[(zy (zz 45 qe clz0 [])),(aN (qd (tE (z4 vu [clz2]))) [(zE 20 [(eC (.str "so many are whole numbers from 1 on"))])] []),(aN (tE (zm .Lt (z4 xg [clz54]) clz2)) [(zE 22 [(eC (.str "fewer are in store"))])] []),(zj 2 (z4 gz [clz54,clz2])),(zK clz0 19 clz61),(zj 3 (qP [])),(vM (.one 4) (iE clz60) [(zy (pC clz7 (z4 qJ [clz36,clz11])))]),(zf clz7)]
noncomputable def uA:Fn:=aQ 2 3 vE
noncomputable abbrev Z4:List Ds:=[(aN (d_ (tE (zm .Is clz2 clz6)) (tE (zm .Lt clz2 clz43))) [(zf clz6)] []),(zf (ej vU clz2 (za .Sub clz52 clz1)))]
noncomputable def VL:Fn:=aQ 2 0 Z4
noncomputable abbrev qX:List Ds:=[(aN (tE (zm .Is clz55 clz6)) [(zf clz41)] []),(zf (bq (z4 u4 [clz36,clz55]) clz3))]
noncomputable def wI:Fn:=aQ 1 0 qX
end NH.P
namespace NH
open PySem PySem.Spec PyProof.Rows L2
noncomputable def Qq(c:List ak):Sp:=λd H Q _=>∃(a:ak) (b:List Int),d=[.ref a]/\Rd H a (.l (b.map V.int))/\(∀e∈c,H e=aa (.tbl #[]))/\a∉c/\b.length<=63/\∀f,Q (.bl ae) f
noncomputable def Q2(f:Fn):Prop:=∀a:List Int,a.length<=63->f [.l (a.map T.int)] [.tab 0,.tab 1] (λt _=>t=.bl ae) (λ_ _ _=>False)
theorem X2{P:bL}{K:bc}(ht:Q2 f)(G:D.tabs 0=aa (B,s,qn))(l:D.tabs 1=aa (u,j,C))(g:B≠u)
  (F:bF P w K mg base (dB P w) k I fd [x] (fJ D 1 f)):bF P w K mg base (dB P w) k I fd [x] (Qq [B,u]):=by
 refine F.imp ?_;rintro M H Q E ⟨a,e,rfl,r,n,h,A,q⟩;refine⟨rfl,[],[B,u],[.l (e.map T.int)],[.tab 0,.tab 1],⟨.ref a,[],rfl,⟨a,_,rfl,sC,by simpa using h,r,ZH e⟩,rfl⟩,⟨rfl,by simpa using g,sC,sC,λi p o b c=>?_⟩,_,_,ht e A,?_,?_⟩
 .cases i with
  |succ i=>
   cases i with
   |succ i=>simp at b
   |zero=>
    have b:u=p:=by simpa using b
    have c:MO.tab 1=o:=by simpa using c
    subst b;subst c;exact⟨j,C,#[],l,n _ sC,trivial,λ_ _=>.inl rfl⟩
  |zero=>
   have b:B=p:=by simpa using b
   have c:MO.tab 0=o:=by simpa using c
   subst b;subst c;exact⟨s,qn,#[],G,n _ sC,trivial,λ_ _=>.inl rfl⟩
 .rintro t L rfl y J st m v d;rw[d];exact q J
 .exact λ_ _ _ z=>z.elim
noncomputable abbrev Qc(x y:T)(μ:Mem):RE T:=match y with
 |.m i=>(match x with
  |.str z=>λK _=>∃a,μ[i]?=aa (MO.d a)/\K (.bl (!(zr (.inr z) a).isSome)) μ
  |_=>.st)
 |_=>.st
noncomputable abbrev qD(x y:T)(μ:Mem):RE T:=match x,y with
 |.m i,.str z=>λK _=>∃a v,μ[i]?=aa (MO.d a)/\zr (.inr z) a=aa v/\K v μ
 |_,_=>.st
noncomputable abbrev bV(op:T->T->Mem->RE T)(f g:De):De:=λc d=>(f c d).bind λx b=>(g c b).bind λy a=>op x y a
section
noncomputable def wl (X:Cx)(D:DP)(W:XW)(op:ez)(r:T->T->Mem->RE T):Prop:=
 ∀(a:List (ak×bj)) (s:aJ) (d:St) (H:Hp) (b c:List ak) (e:Mem) (x y:T) (v w:V) (g f:ai) (Q:VK),Inv X a d H s->au D b c H e->aI D b c H x v->aI D b c H y w->RelV v g->RelV w f->aq D W b c H d (RV D b Q) (r x y e)->
  aA (aC X.prog X.w) X.A (dN op g f) (EP X a d Q) X.xe s
theorem GB(h:wl X D W op r)(ho:vX op b=ae)(L:PE X a (aD D W f))(hb:PE X b (aD D W g)):PE X (.Compare a [op] [b] pos) (aD D W (bV r f g)):=by
 rintro c s n H Q I ⟨m,U,S,T,B,K,p⟩;refine ss (aF (sub L I B K p) ?_) (ja ho);rintro u V ⟨v,Y,t,o,q,P,F,z,j,l,N,J⟩;refine aF (sub hb P j l J) ?_;rintro x C ⟨w,R,y,d,e,O,E,i,A,k,M,G⟩;exact h c C n R m e d t y v w u x Q O k (N.step i) M F E G
theorem XG(h:wl X D W op r)(ho:vX op b=ae)(ha:PE X a (aD D W f))(hb:PE X b (aD D W g)):PT X (.Compare a [op] [b] pos) (dG D W (tE (bV r f g))):=by
 rintro j s F H Q I ⟨l,α,τ,μ,T,mr,p⟩;refine sI (aF (sub ha I T mr p) ?_) (ja ho);rintro u s1 ⟨v,k,t,e,c,I1,Z,R,A,E,d1,p1⟩;refine aF (sub hb I1 A E p1) ?_;rintro N U ⟨M,G,O,o,i,I2,Y,y,S,C,d2,p2⟩;refine aF (h j U F G l i o t O v M u N (λz k=>∃t e c,aw i G c k/\au D l c k e/\aI D l c k t z/\aq D W l c k F (λb _ _ J=>Q b J) (W4 t e)) I2 C (d1.step y) d2 Z Y (p2.bind.mono λt w x J st m q v d=>⟨t,w,x,st,m,d,q⟩)) ?_;rintro d s3 ⟨z,H3,I3,V,t3,K,L,P,B,d3,n⟩;unfold W4 at n;split at n
 .subst d3;subst V;exact eW ⟨H3,I3,n.ok (aw.refl _ _) B⟩
 .exact n.elim
set_option tactic.hygienic true in
theorem VN(J:X.A.units+64<cLine):wl X D W .NotIn Qc:=by
 intro a s u H t c B x y v w E C Q I b q o e d p;unfold Qc at p;split at p
 .split at p
  .rename_i i _ z;obtain⟨L,K,⟨f,h,p⟩,g,G⟩:=p;obtain⟨ad,j,rfl⟩:=o;subst d;obtain⟨n,m,l⟩:=b.ob i ad _ j h;subst q;refine MY (by omega) I (dJ.k (k:=.inr z) m) e λF r=>⟨.bl (!(xa n (.inr z)).isSome),H,r,rfl,?_⟩;rw[uF l];exact g _ _ p c H (aw.refl _ _) b _ rfl
  .exact p.elim
 .exact p.elim
theorem uO:∀{kvs:List (Key×T)}{gs:List (Key×V)},aM D φ α H kvs gs->zr z kvs=aa t->∃v,xa gs z=aa v/\aI D φ α H t v
 |[],_,h,e=>z9 e
 |p::r,_,h,e=>by
  obtain⟨v,q,rfl,d,l⟩:=h;unfold zr at e;by_cases a:p.1=z
  .rw[if_pos a] at e;(replace e:=zo e;subst e);exact⟨v,by rw[kF a],d⟩
  .rw[if_neg a] at e;obtain⟨b,f,c⟩:=uO l e;exact⟨b,by rw[kG a];exact f,c⟩
set_option tactic.hygienic true in
theorem Ic(C:Ck D W Y X k)(hs:Y6 b)(o:PE X a (aD D W f))(hb:PE X b (aD D W g)):PE X (.Subscript a b pos) (aD D W (bV qD f g)):=by
 refine PE.mono (Jq (by have:=C.unt;lia) o hb hs) ?_;rintro V H Q ⟨r,F,s,E,u,J,p⟩;refine⟨r,F,s,E,u,J,p.bind.mono λx e j H1 n K q v d=>⟨r,j,s,e,u.step n,K,q.bind.mono λy B h U m A c w T=>?_⟩⟩;unfold qD at c;split at c
 .rename_i i z;obtain⟨K0,Z0,⟨L,t,O,N,I⟩,M,Z⟩:=c;obtain⟨ad,o,rfl⟩:=d.step m;obtain⟨gs,P,l⟩:=A.ob i ad _ o O;obtain⟨G,S,R⟩:=uO l N;subst T;refine⟨ad,G,rfl,?_,M _ _ I h U (aw.refl _ _) A _ R⟩;have:=dJ.k (k:=.inr z) P;rw[S] at this;exact this
 .exact c.elim
end
noncomputable abbrev td(jt:Nat)(g:De)(n:Nat)(o f:De):De:=λd h=>(o d h).bind λt c=>(uG t n c).bind λw b K Z=>∃e:T,w=Xl jt e/\((f d b).bind λx a=>g [aa x,aa e] a) K Z
noncomputable abbrev X8(jt f:Nat):De:=λb (a:Mem) K _=>(∃i:Nat,a[i]?=aa (MO.tab jt))/\∃t:T,K7 b f=aa t/\K (Xl jt t) a
noncomputable def ZQ:ao:=⟨#[38]⟩
section
theorem Yj{c:ak}(I:Inv X j B H s)(h:X.env.cells.lookup x=aa c)(hf:X.fn x=ag)(hs:X.s₀.heap.objs.size<=c)(r:H c=af)(ho:s.heap.get? c=aa o)(hd:o.data=.cell v):Inv X j B (upd H c (.frz o (.ext λ_=>True))) s:=by
 have st:∀b u,H b=aa u->upd H c (.frz o (.ext λ_=>True)) b=aa u:=λb u q=>(z6 (zJ q r))▸q;refine⟨I.ok,I.os,I.bare,⟨I.base.keep,I.base.slot,λb f e n g=>?_,I.base.there,λb xs e=>st b _ (I.base.tups b xs e),λb f u e=>st b _ (I.base.frzs b f u e),λb k e=>?_⟩,I.loc,I.cell,?_,λy i e=>?_,λp m=>?_,λb ob e=>?_,I.len⟩
 .rw[z6 (b_ (cz (bz e) hs))];exact I.base.free b f e n g
 .obtain⟨a,q⟩:=I.base.tbls b k e;exact⟨a,st b _ q⟩
 .rw[z6 (bd (I.cne x c h))];exact I.free
 .by_cases z:i=c
  .subst z;rw[I.ok.inj _ _ _ e h];exact .inr ⟨hf,o,_,z0⟩
  .rw[z6 z];exact I.freeC y i e
 .obtain⟨e,n,ne,l,d⟩:=I.pin p m;have:p.1≠c:=λz=>by rw[z,ho] at e;(replace e:=zo e;subst e);exact d _ hd
  exact⟨e,z6 this▸n,ne,l,d⟩
 .by_cases z:b=c
  .subst z;rw[z0] at e;(replace e:=zo e;subst e);exact⟨ho,trivial,⟨o,ho⟩,λ_ _ _ _=>trivial⟩
  .rw[z6 z] at e;exact (I.hok b ob e).stay (λ_ _ _ q=>q) (λb q=>st b _ q) λb xs q=>st b _ q
theorem Yk(C:Ck D W B X k){l:cT}(KM:i5 D l)(U:B.lam.isSome=ae)(R:x∈B.fz)(hc:x∈B.cel)(hi:cF B.N x=aa i)(ht:K7 J i=aa t)(I:Inv X j E H s)(L:aH D φ α H J E)(a:au D φ α H μ) :
  ∃(A:Hp) (c:ak),Inv X j E A s/\v_ H A/\X.env.cells.lookup x=aa c/\aI D φ α A (.clo 200 [t]) (.ref c):=by
 obtain⟨v,S,d⟩:=L.val i t (Qm.mp ht);obtain⟨V,r⟩:=C.kfz U x R;obtain⟨m,_,y⟩:=I.loc;obtain⟨u,M,lk⟩:=y i x v (C.hN▸w5 hi) S (C.vis x (qN hi));rcases lk with⟨z,_⟩|⟨_,c,h,o,G,hd⟩
 .rcases C.cel x hc with q|q<;>(rw[z] at q;contradiction)
 .obtain⟨f,ob,Z,F,Y,Q,P⟩:∃f ob,Inv X j E f s/\v_ H f/\f c=aa (.frz o ob)/\c∉φ/\c∉α:=by
   rcases I.freeC x c h with q|⟨_,O,K,q⟩
   .exact⟨_,_,Yj I h V (r c h) q G hd,ze q,z0,zi a q,zh a q⟩
   .have g:=(I.hok c _ q).1;rw[G] at g;(replace g:=zo g;subst g);refine⟨H,K,I,λ_ _ e=>e,q,λz=>?_,λz=>?_⟩
    .obtain⟨w,e,n⟩:=a.phi c z;rw[q] at e;(replace e:=zo e;subst e);injection n
    .obtain⟨p,b⟩:=dD.mp z;have T:p<μ.length:=a.len▸(aO.mp b).1;obtain⟨w,e,n⟩:=(a.ob p c μ[p] b sC).some;rw[q] at e;(replace e:=zo e;subst e);injection n
  refine⟨f,c,Z,F,h,c,aa (.frz o ob),[v],rfl,KM.ce c o u v ob hd M,λO e=>?_,v,[],rfl,d.step (aw.new (α:=α) F),rfl⟩;(replace e:=zo e;subst e);exact⟨Q,P,Y⟩
theorem Uc{P:bL}{c:ak}(p:uH q c l cl h):aR P w H h q (.ext (uH q c l cl)):=by
 obtain⟨f,e,a,d⟩:=id p;exact⟨p,⟨_,d⟩,λi g p b=>have ⟨f,e,a,d⟩:=p;⟨f,e,a,b _ d⟩⟩
theorem Me (C:Ck D W u X k) {pa pl:Pos}(A:u.lnm="<lambda>") (B:u.lam=aa (l.jt,j)) (R:pl∈j) (hU:ZQ∈u.U) (hg:u.gl ZQ=.kap l) (E:frees l.sc=[l.fr]) (hz:l.fr∈u.fz) (T:l.fr∈u.cel) (hf:cF u.N l.fr=aa f) :
  PE X (.Lambda ⟨[],[⟨l.y,af,pa⟩],af,[],[],af,[]⟩ l.body l.sc pl) (aD D W (X8 l.jt f)):=by
 rintro w s σ H Q I ⟨φ,α,τ,μ,sr,mr,K0,Z0,⟨⟨i,hi⟩,t,ht,q0⟩,k1,k2⟩;obtain⟨hk,c,P,g,hC,hB,L⟩:=C.lam _ j B;have J:=(C.glU _ hU).1;rw[hg] at J;obtain⟨P',pos',Z⟩:=J.2.tb;have z:X.env.qual++"<lambda>"=l.qn:=by
  have:=L.symm.trans Z;simp only[oI,Prod.mk.injEq] at this;exact A▸this.2.2
 rw[A,z] at L;obtain⟨H1,cs,I1,r,F,dl⟩:=Yk C J.2 (by rw[B];rfl) hz T hf ht I sr mr;obtain⟨M,S,h,G⟩:=yo (sc:=l.sc) (env:=X.env) λx d=>⟨cs,by rw[E] at d;rw[aT.mp d];exact F⟩;rw[E] at h G;have cat:py l.fr M cs:=by
  obtain⟨n,e⟩:=G l.fr (aT.mpr rfl);exact⟨aZ (((h _ _ e).1.symm.trans F))▸e,λx a e=>aT.mp (h x a e).2⟩
 have b:=WB (params:=⟨[],[⟨l.y,af,pa⟩],af,[],[],af,[]⟩) (body:=l.body) (line:=pl.line) (Q:=λv s'=>EP X w σ Q v s') I1 (mr.new r) hi L R g hC hB S λq n ctv H2 s2 I2 p O Y V d=>by
  have np:uH q n l M s2.heap:=⟨pa,_,ctv,((I2.pin _ (cD _ dt)).1)⟩;have m:=d.2.1.free;have K:v_ H2 (upd H2 q (.ext (uH q n l M))):=ze m;refine⟨.ref q,_,wq (qH I2) d.2.1 d.2.2 (Uc np),rfl,k1 _ _ q0 α _ ((aw.new r).trans (p.trans (aw.new K))) (O.new K) _ ⟨q,_,_,rfl,J.2.fn q n M cs cat,λo e=>?_,.ref n,[.ref cs],rfl,⟨n,_,[],rfl,J.2.co _ _ _ _ n L,λo e=>?_,rfl⟩,.ref cs,[],rfl,(dl.step p).step (aw.new K),rfl⟩⟩
  ·(replace e:=zo e;subst e);exact⟨zi O m,zh O m,z0⟩
  ·(replace e:=zo e;subst e);exact⟨d.1,Y,K _ _ V⟩
 rw[<-z] at b;exact Ax rfl b
structure nW(H:Hp)(c:ak)(x:V):Prop where
 ex:∃(o:bj) (ob:HO) (u:ai),H c=aa (.frz o ob)/\o.data=.cell (aa u)/\RelV x u
noncomputable def Jy(a:Cn)(l:cT):Bool:=
 (l.sc.kind==.function)&&!l.sc.isCoroutine&&!l.sc.isGenerator&&l.sc.names.all (λp=>p.2 != .cell)&&(frees l.sc==[l.fr])&&l.y != l.fr&&(l.sc.names.lookup l.y==aa .local)&&(l.sc.names.lookup l.fr==aa .free)&&
 [l.y,l.fr].all (λx=>x != ("__debug__":ao)&&x != ("__classdict__":ao))&&a.G.all (λx=>a.U.contains x&&l.sc.names.lookup x==aa .globalImplicit)
noncomputable def xV(a:Cn)(l:cT)(G:List ao):Cn:={a with N:=[l.y,l.fr],G:=G,cel:=[l.fr],own:=[],lam:=af,fz:=[l.fr],calm:=ae}
noncomputable def tG (R:cR)(n:Nat)(a:Cn)(l:cT):Prop:=((e6 R n).e a l.body).map (λb=>(b.y,b.d))=aa (l.body,l.g)
theorem XS{R:cR}{P:bL}{w:dh}{K:bc}{base:aG}{Γ:Cn}{G:List ao}{n k0:Nat}{l:cT}(M:ff D P w K mg base Γ k0)(hsc:Jy (xV Γ l G) l=ae)(hE:tG R n (xV Γ l G) l)
  {A:eF}{s:aJ}{a c k:ak}(hr:bE (k0+1) A) (e0:c8 P w K mg base A outer s H) (ho:uH a c l cl s.heap) (hrec:s.heap.CodeRec (.ref c) l.qn) (O:py l.fr cl k)
  (dv:aI D φ α H t0 v0) (hcv:nW H k v0)
  {u:ai}{x:V}{Q:VK}{t:T}{μ:Mem}{Z0:Xp}{E:XK}(r:RelV x u) (d:aI D φ α H t x) (mr:au D φ α H μ) (p:l.g [aa t,aa t0] μ K0 Z0) (hK0:∀t' C,K0 t' C->∀j U v',aw α H j U->au D φ j U C->aI D φ j U t' v'->Q v' U) (hZ0:∀c fs C,Z0 c fs C->∀j U cv d,aw α H j U->au D φ j U C->iA D c fs cv->bJ D φ j U fs d->E cv d U) :
  fC (aC P w) A (.call (.ref a) ⟨[u],[]⟩) (CR (dB P w) outer P w H s Q E) s:=by
 obtain⟨pa,pm,ctv,ho⟩:=ho;simp only[Jy,bW,eP,beq_iff_eq,l5,bne_iff_ne] at hsc;obtain⟨⟨⟨⟨⟨⟨⟨⟨⟨h1,h2⟩,h3⟩,h4⟩,h5⟩,h6⟩,h7⟩,h8⟩,h9⟩,h10⟩:=hsc;obtain⟨o,ob,u',k1,k2,k3⟩:=hcv;let env:Env:=newEnv l.sc s.heap.objs.size cO cl (l.qn++".<locals>.") (aa a) (.ref c) af lU;let Y:Cx:={prog:=P,w:=w,K:=K,mg:=mg,base:=base,A:=A.deeper env,N:=[l.y,l.fr],s₀:=s,H₀:=H,env:=env,outer:=outer,stack:=env::outer,ex:=[],fn:=λ_=>ag,calm:=ae,pn:=[],xe:=λ_ _=>False};have one:∀{y S},cl.lookup y=aa S->y=l.fr/\S=k:=λ{y S} e=>by
  have z:=O.2 y S e;exact⟨z,by rw[z,O.1] at e;exact (aZ e).symm⟩
 have F:iF Y env outer s.heap.objs.size:=⟨rfl,rfl,rfl⟩;have hr':=hr.deeper env;have sto0:mw (Y.wish (XP Y (d9 E))) (xV Γ l G).sto:=λz f=>by
  obtain⟨z1,z2⟩:=fq.mp f;rcases bC.mp z1 with e|e
  .rw[e];exact⟨.inl h7,.inr h7⟩
  .have z2:(![l.fr].contains z)=ae:=z2;rw[gp.mpr e] at z2;injection z2
 have lcl0:∀z∈[l.y,l.fr],[l.fr].contains z=ag->l.sc.names.lookup z=aa .local:=λz f hc=>by
  rcases bC.mp f with e|e
  .rw[e];exact h7
  .rw[gp.mpr e] at hc;injection hc
 have C2:Sk D (d9 E) (xV Γ l G) (Y.wish (XP Y (d9 E))) k0:={hK:=M.hK,hN:=rfl,nd:=by show [l.y,l.fr].Nodup;simpa using h6,vis:=(λz f=>(bC.mp f).elim (λq=>.inl (q▸h7)) λq=>.inr (.inr (aT.mp q▸h8))),dbg:=λz f=>⟨beq_eq_false_iff_ne.mpr (h9 z f).1,beq_eq_false_iff_ne.mpr (h9 z f).2⟩,dbG:=λz f=>(M.glo z (gp.mp (h10 z f).1)).2,glb:=λz f=>(h10 z f).2,glo:=λz f=>(M.glo z (gp.mp (h10 z f).1)).1,glU:=M.glo,cel:=λz f=>.inr (aT.mp f▸h8),isi:=M.isi,fld:=M.fld,xcx:=M.xcx,ocx:=M.ocx,clv:=M.clv,clm:=λ_=>rfl,rom:=λ_=>hr',rmh:=⟨hr'.dp,hr'.un⟩,xe:=λe s p=>jc p,frm:=⟨_,_,_,F.stk,F.f0,F.fe⟩,lam:=cS.no rfl,kfz:=(λh=>by injection h),sto:=sto0,lcl:=lcl0,pso:=λe s p=>xc F (jd p) e s p,xmt:=M.xmt};have sr:aH D φ α H [aa t,aa t0] [aa x,aa v0]:=by
  refine⟨rfl,λi t' e=>?_⟩;match i,e with
  |0,e=>cases e;exact⟨x,rfl,d⟩
  |1,e=>cases e;exact⟨v0,rfl,dv⟩
 refine BC hr.depth ho rfl h2 h3 rfl hrec (lS (gH rfl rfl) (BF h4 (λz f=>?_) (λhh hns hsb=>?_) h1))
 .rw[aT.mp f];exact h7
 have L:∀b o,s.heap.get? b=aa o->hh.get? b=aa o:=λb o e=>hsb.extBut b o (b_ (bz e)) (bv _ e);refine⟨(e0.mod.nolimit.keeps λb o e=>(e0.bs b o e).1).keeps L,?_⟩;have I:Inv Y [] [aa x,aa v0] H {s with heap:=hh,toks:=s.toks+[(l.y,u)].length}:=by
  refine⟨⟨e0.mod,h1,rfl,rfl,aK _,λy z S Z X=>(one Z).1.trans (one X).1.symm,λy hy=>?_,λy S z=>(by injection z),λ_=>hr.hd,BG e0.frames,.inr ⟨rfl,rfl⟩,λb z=>absurd z (by simp[Y]),e0.bs,e0.bsz,λb _ _=>(by simp[Y]),λb z=>absurd z (by simp[Y]),e0.funs,e0.frf⟩,
   rfl,e0.bare,Un.kept L,⟨_,hns,λi y v Z X q3=>?_⟩,λy S q=>(by rw[(one q).2];exact⟨aa u',o,L _ _ (e0.hok k _ k1).1,k2⟩),e0.hok.fresh (aK _),λy S q=>(by rw[(one q).2];exact .inr ⟨rfl,o,ob,k1⟩),λp hp=>absurd hp (by simp[Y]),e0.hok.kept L,rfl⟩
  .rcases hy with hy|hy
   .exact absurd rfl (h4 _ (ip hy))
   .have:y∈frees l.sc:=vd.mpr ⟨_,ip hy,rfl,rfl⟩;rw[h5] at this;rw[aT.mp this];exact⟨k,O.1⟩
  .match i,Z,X with
   |0,Z,X=>cases Z;cases X;exact⟨u,r,.inl ⟨h7,sC⟩⟩
   |1,Z,X=>cases Z;cases X;exact⟨u',k3,.inr ⟨.inr h8,k,O.1,o,L _ _ (e0.hok k _ k1).1,k2⟩⟩
 obtain⟨b,_,eb⟩:=l6.mp hE;injection eb with e1 e2;have B:=b.ok C2.toCk;rw[e1,e2] at B;refine BB (cX (B [] _ _ H Q (I.wish _) ⟨φ,α,_,μ,sr,mr,_,_,p,λa C e j U st m v' dv=>hK0 a C e j U v' st m dv,λc fs C z j U cv dd st m ad xd=>hZ0 c fs C z j U cv dd st m ad xd⟩) (λv s' hs=>?_) λe s' p=>Wf F (jd p) rfl p);obtain⟨v',U,J,rv,q'⟩:=hs;exact⟨v',U,J.os,J.bare,J.base,J.hok,rv,q'⟩
set_option tactic.hygienic true in
theorem H0(C:Ck D W Γ X k)(hU:ZQ∈Γ.U)(hg:Γ.gl ZQ=.kap l)(hn:(m,n)∈Γ.fld)(hc:Γ.calm=ae)(hp:zU o=ae)(M:(B.endLine==pos.line)=ae)(L:az a=ae)(ho:PE X o (aD D W go))(ha:PE X a (aD D W f)) :
  PE X (.Call (.Attribute o m B) [a] [] pos) (aD D W (td l.jt l.g n go f)):=by
 have gq:=(C.glU _ hU).1;rw[hg] at gq;rintro G s σ H Q I ⟨E,α,τ,μ,sr,mr,p⟩;rw[arm_eval_Call,qj hp];refine ay (aF (sub ho I sr mr p) ?_);rintro u s1 ⟨v,H1,t,μ1,i,I1,r1,st1,sr1,mr1,d1,J⟩;refine ay (fS ?_);have N:methodCallForm ([a].length+([]).length) (dZ pos (cU [a] X.env)) (h_ pos (ic [] X.env))=ae:=XE (by simp[L]) (by show (1:Nat)<30;decide);have hpos:lZ ae o X.env B pos=pure pos:=by unfold lZ;simp[M]
 have run:∀{O C0 dx:ak}{gs:List (ao×V)}{z:V}{w:T},H1 O=aa (.ins C0 dx gs)->fB X.K C0->bN X.K C0 m->gs.lookup m=aa z->u=.ref O->aI D E i H1 w z->aq D W E i H1 σ (RV D E Q) (λK Z=>∃R:T,w=Xl l.jt R/\((f τ μ1).bind λx μ3=>l.g [aa x,aa R] μ3) K Z)->
   aA (aC X.prog X.w) X.A (n7 o m B pos X.env u ([a].length+([]).length) (dZ pos (cU [a] X.env)) (h_ pos (ic [] X.env))) (EP X G σ Q) X.xe s1:=λ{O C0 dx gs z w} e1 cl na lk hu S p=>by
  subst hu;obtain⟨R,rfl,p2⟩:=p.ex1;obtain⟨fa,kk,rfl,hkk,hF⟩:=gq.1 R E i H1 z S;unfold n7;rw[N];refine ay (dF (Qs I1 e1 cl na lk λu' s1' I1' r'=>?_));cases r';refine ay (lS hpos (PySem.W.callWith_F (hF X.A X.stack s1' I1'.env0).1 (aF (zF ha qg (z7 L) pos G s1' σ H1 (λvs Y=>∃v t F b,vs=[v]/\aw i H1 b Y/\au D E b Y F/\aI D E b Y t v/\aq D W E b Y σ (RV D E Q) (l.g [aa t,aa R] F)) I1' ⟨E,i,τ,μ1,sr1,mr1,p2.bind.mono λt h j P st m q v d=>⟨v,t,h,j,rfl,st,m,d,q⟩⟩) ?_) (z7 L) rfl));rintro us s2 ⟨vs,Y,I2,rv,v2,t2,F,b,rfl,st2,m2,d2,K0,Z0,q6,k1,k2⟩;obtain⟨ux,rfl,rx⟩:=vals1 rv;obtain⟨fa',kk',e',hkk',hF'⟩:=gq.1 R E b Y _ (S.step st2);(injection e' with e';subst e');have hE:=hF' X.A X.stack s2 I2.env0;refine⟨hE.1,ie (ii (hE.2 ((C.rom hc).mono hkk') ux v2 Q t2 F K0 Z0 (λcv d P=>W cv d σ P) rx d2 m2 q6 (λt' h z j P v' st m dv=>k1 t' h z j P st m v' dv) (λc fs h z j P cv d st m ad xd=>k2 c fs h z j P cv d st m ad xd)) λr s' hq=>?_)⟩;cases r with
  |error e=>exact C.xe _ _ (yc I2 hq λcls d P q=>q)
  |ok fl=>
   cases fl with
   |ret u=>exact I2.after hq
   |next=>exact cW hq
   |brk=>exact cW hq
   |cont=>exact cW hq
 unfold uG at J;split at J
 .split at J
  .rename_i c fs _ w hw;obtain⟨ad,C0,dx,gs,rfl,_,_,e1,e2,l⟩:=d1;obtain⟨y,z,hy,hz,S⟩:=l.look hw;obtain⟨c0,c1,c2⟩:=C.fld c C0 m n e1 hn;rw[hy] at c0;cases c0;exact run e2 c1 c2 hz r1 S J
  .exact aq.elim J
 .obtain⟨c,fs,w,hi,hw,q⟩:=aq.ex3 J;obtain⟨ad,hi',rfl⟩:=d1;obtain⟨C0,dx,gs,e1,e2,l⟩:=mr1.ob _ ad _ hi' hi;obtain⟨y,z,hy,hz,S⟩:=l.look hw;obtain⟨c0,c1,c2⟩:=C.fld c C0 m n e1 hn;rw[hy] at c0;cases c0;exact run e2 c1 c2 hz r1 S q
 .exact aq.elim J
end
noncomputable def Xr (l:cT)(tbs:List (ak×List Pos×ao)):Nat->ak->Option HO->List V->Prop:=λn a ob xs=>
 (∃(c:ak) (b:List (ao×ak)) (e:ak),n=300/\py l.fr b e/\xs=[.ref c,.ref e]/\ob=aa (.ext (uH a c l b)))\/
 (n=200/\∃(x:V) (u:ai) (o:bj) (d:HO),xs=[x]/\RelV x u/\o.data=.cell (aa u)/\ob=aa (.frz o d))\/
 ∃(j:Nat) (q:ak×List Pos×ao),tbs[j]?=aa q/\j<100/\n=100+j/\xs=[]/\ob=aa (.ext (wV a q.2.2))
section
variable {K:PySem.W.Frag}
theorem Mr{x:ao}{k:Cn}{l:cT}{G:cT->List ao}(hb:tbs.length<=100)(D:(tbs[l.jt]?).map (·.2.2)=aa l.qn)
  (M:ff (hM K A0 (Xr l tbs) λj=>tbs[j]?) P w K mg base k k0) (h:Jy (xV k l (G l)) l=ae/\tG R n (xV k l (G l)) l):bD (hM K A0 (Xr l tbs) λj=>tbs[j]?) P w K mg base (k0+1) x (.kap l):=by
 obtain⟨⟨p1,p2,p3⟩,m,rfl⟩:=l6.mp D;have lt:∀{j:Nat}{q:ak×List Pos×ao},tbs[j]?=aa q->j<100:=λe=>cz (aO.mp e).1 hb;refine⟨λt0 φ α H v d=>?_,⟨⟨p1,p2,m⟩,λa c W e h=>.inl ⟨c,W,e,rfl,h,rfl,rfl⟩,λc o u x ob h1 T=>.inr (.inl ⟨rfl,x,u,o,ob,rfl,T,h1,rfl⟩),λj P' pos qn c e=>.inr (.inr ⟨j,_,e,lt e,rfl,rfl,rfl⟩)⟩⟩;obtain⟨a,ob,xs,rfl,hc,F,v,q,hv,⟨c,B,Y,J,N,i,_⟩,v2,_,C,⟨e,ob3,X,I,L,g,v0,_,hx,dv,_⟩,_⟩:=d;have lj:=lt m;rcases hc with⟨c',W,e',_,U,e3,rfl⟩|⟨z,_⟩|⟨_,_,_,_,z,_⟩
 .subst e3;cases hv;cases C;cases J;cases I;have f:B=aa (.ext (wV c l.qn)):=by
   rcases N with⟨_,_,_,z,_⟩|⟨z,_⟩|⟨j2,q2,b,_,z,_,e⟩
   .lia
   .lia
   .have:l.jt=j2:=by lia
    subst this;rw[m] at b;(replace b:=zo b;subst b);exact e
  subst f;rcases L with⟨_,_,_,z,_⟩|⟨_,x0,Z,o,u',rfl,r0,hd,rfl⟩|⟨_,_,_,_,z,_⟩
  .lia
  .cases hx;refine⟨a,k0+1,rfl,aK _,λA y s e0=>?_⟩;obtain⟨V,_⟩:=(e0.hok a _ ((F _ rfl).2.2));obtain⟨cr,_⟩:=(e0.hok c _ (i _ rfl).2.2);refine⟨?_,λhr u x Q t μ K0 Z0 E r dx mr p S O=>XS M h.1 h.2 hr e0 V cr U dv ⟨o,u',Z,(g _ rfl).2.2,hd,r0⟩ r dx mr p S O⟩;obtain⟨_,_,_,T⟩:=V;exact⟨_,_,_,_,T⟩
  .lia
 .lia
 .lia
end
noncomputable def Cy:(g:GM)->Option {l // g=.kap l}
 |.kap l=>aa ⟨l,rfl⟩
 |_=>af
noncomputable def G2:ER:=λr a e=>(CL e).bind λq=>(Cy (a.gl ZQ)).bind λl=>fH a.lam λp c=>fH (cF a.N l.1.fr) λf d=>
 gd (a.lnm==("<lambda>":ao)&&a.U.contains ZQ&&p.1==l.1.jt&&decide (q.2.2.2∈p.2)&&frees l.1.sc==[l.1.fr]&&a.fz.contains l.1.fr&&a.cel.contains l.1.fr&&l.1.y==q.1.1&&l.1.sc==q.2.2.1) λb=>aa ⟨.Lambda ⟨[],[⟨l.1.y,af,q.1.2⟩],af,[],[],af,[]⟩ l.1.body l.1.sc q.2.2.2,X8 l.1.jt f,λC=>by
 simp only[bW,beq_iff_eq,decide_eq_true_eq,gp] at b;obtain⟨⟨⟨⟨⟨⟨⟨⟨n,m⟩,k⟩,j⟩,i⟩,h⟩,g⟩,_⟩,_⟩:=b;exact Me C n (by rw[c,<-k]) j m l.2 i h g d⟩
noncomputable def FP:ER:=λr b e=>(yp e).bind λq=>(yS q.as).bind λa=>gd (q.m==("keeper":ao)) λ_=>(Cy (b.gl ZQ)).bind λl=>(r.e b q.o).bind λo=>(r.e b a).bind λf=>(YW b.fld q.m).bind λn=>gd (zU o.y&&q.pa.endLine==q.pc.line) λh=>gd (b.calm&&az f.y) λc=>gd (b.U.contains ZQ) λi=>
 aa ⟨.Call (.Attribute o.y q.m q.pa) [f.y] [] q.pc,td l.1.jt l.1.g n.1 o.d f.d,λC=>H0 C (by simpa using i) l.2 n.2 (zB c).1 (zB h).1 (zB h).2 (zB c).2 (o.ok C) (f.ok C)⟩
end NH
namespace NH
open PySem PySem.Spec PyProof.Rows L2 PySem.W
noncomputable def PL:Nat->(List ai->Prop)->Prop
 |0,P=>P []
 |n+1,P=>∀a,PL n λl=>P (a::l)
theorem PL.all:∀{n:Nat}{P:List ai->Prop},PL n P->∀us:List ai,us.length=n->P us
 |0,_,h,[],_=>h
 |_+1,_,h,a::l,e=>PL.all (h a) l (Nat.succ.inj e)
noncomputable abbrev j3(st:aV):List ao:=(vC st).args.map (·.arg)
end NH
namespace NH
open PySem PySem.Spec PyProof.Rows L2
noncomputable def sIx(l:List aV)(i:Nat):aV:=l.getD i (.Pass ⟨0,0,0,0⟩)
noncomputable def Ew:aV->ap
 |.Assign _ e _=>e
 |.Return (aa e) _=>e
 |.Expr e _=>e
 |_=>.Name "" ⟨0,0,0,0⟩
noncomputable def EL(e:ap)(i:Nat):ap:=match e with
 |.Call _ a _ _=>a.getD i e
 |_=>e
noncomputable def Es:ap->ap
 |.Lambda _ b _ _=>b
 |e=>e
noncomputable def EV:ap->Scope
 |.Lambda _ _ s _=>s
 |_=>⟨.function,[],ag,ag,[]⟩
theorem GR{P:bL}{K:bc}{F:List ao}(M:ff D P w K mg base a k):ff D P w K mg base {a with fz:=F} k:=⟨M.hK,M.glo,M.isi,M.fld,M.xcx,M.ocx,M.clv,M.xmt⟩
theorem Ik{R:cR}{D:DP}{P:bL}{w:dh}{K:bc}{mg:ao->Option ai}{base:aG}{c:Cn}{n k:Nat}{f:ak}{name a:ao}{params:Arguments}{body:List aV}{scope:Scope}{o kV e l b ct r:ai}{p q:Option ak}{g:Array (Option ai)}{ps:List ao}{m cut:Nat}{ds:List Ds}
  (M:ff D P w K mg base c k) (lk:K.lookup f=aa ⟨r,q,.func (fm name a params body scope o kV e l p b ct),g⟩) (j:gV K b a=ae) (hs:yJ c ps scope=ae) (s:c.N.length=ps.length+m) (i:iz R n {c with fz:=[]} (body.take cut)=aa (body.take cut,ds.take cut)) (h:iz R n c (body.drop cut)=aa (body.drop cut,ds.drop cut)) (d:cS D mg base b (a++".<locals>.") k c.lam c.lnm) :
  bF P w K mg base (dB P w) (k+1) f (fm name a params body scope o kV e l p b ct) ps (fJ D ps.length (aQ ps.length m ds)):=by
 have:=Xd M lk j hs s (nv cut body).symm i h d;rwa[nv] at this
noncomputable def U2(kvs a:List (Key×T)):List (Key×T):=a.foldl (λb c=>wA c.1 c.2 b) kvs
noncomputable abbrev UY(o f:De):De:=λe g=>(o e g).bind λot d=>match ot with
 |.m i=>λK Z=>(∃a,d[i]?=aa (.d a))/\f e d (λt c=>match t with
  |.d b=>∃a,c[i]?=aa (.d a)/\a.length+b.length<=aB/\K .n (c.set i (.d (U2 a b)))
  |_=>False) Z
 |_=>.st
section
theorem X5(I:Inv X u C H s)(e:H x=aa (.dK kvs))(o:H y=aa (.dK j))(ne:x≠y)(g:kvs.length+j.length<=sizeLine)(h:∀B,Inv X u C (upd H x (.dK (jQ kvs j))) B->Q .none B):aA (aC X.prog X.w) A (call (.builtin "dict.update") [.ref x,.ref y]) Q E s:=by
 obtain⟨z,hd,i,rel,dd⟩:=Yd I.hok e;obtain⟨p,d,c,a,f⟩:=Yd I.hok o;refine rP By dd.typeIs PySem.F.entry_dict_update (PySem.F.args_dict_update_2 _ _) (meets_dict_update (zC X.prog X.w) x y ne d) ⟨i,c,dd,f,rel.length▸a.length▸g,λn b _ k=>h _ ?_⟩;have m:∃q,n.get? x=aa q:=let ⟨q,_,_,l,_⟩:=b;⟨q,l⟩;exact Q4 I (e▸eM) k m (YT (cf (jE j kvs) g) hd (a.merge rel) b)
noncomputable def GK(h ty:TE):TE:=λf H Q=>h f H λx g=>∃a,x=.ref a/\DI g a/\ty f g λy e=>∃b d c,y=.ref b/\e a=aa (.dK d)/\e b=aa (.dK c)/\a≠b/\d.length+c.length<=sizeLine/\Q .n (upd e a (.dK (jQ d c)))
theorem Mn (ho:PE X o B) (he:PE X e ty) (m:M1 X o "update" z e j):PE X (.Call (.Attribute o "update" z) [e] [] j) (GK B ty):=by
 intro c s f H Q I h;refine A7 m.base m.few m.line sR By PySem.F.type_dict_update (aF (ho c s f H _ I h) λu n ⟨x,J,i,q,a,ex,d,t⟩=>?_);subst ex;obtain rfl:u=cG a:=q;obtain⟨l,k,_⟩:=KE i d;refine⟨l,k,?_⟩;rw[m.trees];refine oX rfl (ng (o2 (aF (he c n f J _ i t) λw L ⟨y,M,G,p,b,v,g,C,D,eb,ne,A,r⟩=>oS ?_)));subst C;obtain rfl:w=cG b:=p;exact X5 G D eb ne A λK E=>⟨.n,_,E,rfl,r⟩
theorem yv:∀{a:List (Key×T)}{gm:List (Key×V)}{kvs:List (Key×T)}{gs:List (Key×V)},aM D φ α H a gm->aM D φ α H kvs gs->aM D φ α H (U2 kvs a) (jQ gs gm)
 |[],_,kvs,gs,h,l=>by subst h;exact l
 |p::r,_,kvs,gs,h,l=>by
  obtain⟨v,q,rfl,d,h⟩:=h;exact yv (kvs:=wA p.1 p.2 kvs) (gs:=cj gs p.1 v) h (yP d l)
theorem IU(C:Ck D W Γ X k)(hp:zU o=ae)(hs:az a=ae)(g:(pa.endLine==pc.line)=ae)(ho:PE X o (aD D W go))(ha:PE X a (aD D W f)) :
  PE X (.Call (.Attribute o "update" pa) [a] [] pc) (aD D W (UY go f)):=by
 have J:cU [a] X.env=[(ag,eval a X.env)]:=z7 hs;refine PE.mono (Mn ho ha ⟨qj hp,by rw[J];rfl,g,by rw[J];rfl⟩) ?_;rintro σ H Q ⟨u,T,w,S,A,Y,p⟩;refine⟨u,T,w,S,A,Y,p.bind.mono λot j m H1 n F q ov dv=>?_⟩;cases ot with
 | m i=>
  obtain⟨K,Z,⟨⟨G,h0⟩,hf⟩,hk,hz⟩:=q;obtain⟨x,r,rfl⟩:=dv;obtain⟨gs0,s,l0⟩:=F.ob _ x _ r h0;refine⟨x,rfl,⟨_,.inl (.inl s)⟩,u,m,w,j,A.step n,F,_,Z,hf,?_,hz⟩;intro t R I b P h E v d;cases t with
  |d B=>
   obtain⟨kvs,M,hl,U⟩:=I;obtain⟨β,e2,_⟩:=h.ext;have e:b[i]?=aa x:=by
    rw[e2,cE (aO.mp r).1];exact r
   obtain⟨N,L,l⟩:=E.ob i x _ e M;obtain⟨y,O,rfl,n1,V,hy,lm⟩:=d;have c:aw b P b (upd P x (.dK (jQ N O))):=aw.turn (aS e) ⟨_,L⟩;exact⟨y,N,O,rfl,L,hy,λz=>V (z▸aS e),zO l▸zO lm▸zN hl,(hk _ _ U b _ (h.trans c) (E.turn e ((aO.mp M).1) c ⟨_,z0,yv (lm.step c) (l.step c)⟩) _ rfl)⟩
  |_=>exact I.elim
 |_=>exact aq.elim q
end
noncomputable def EX:ER:=tS "update" UY λC b a d c e=>IU C b a d c e
noncomputable def Vb(b:ap):Bool:=match b with
 |.Constant (.str _) _ _=>ae
 |_=>ag
theorem U5(h:Vb b=ae):Y6 b:=by
 unfold Vb at h;split at h
 .exact λa c=>rfl
 .injection h
noncomputable def FJ:ER:=λr a e=>(XX e).bind λq=>(r.e a q.1).bind λf=>(r.e a q.2.1).bind λg=>gd (Vb g.y) λh=>aa ⟨.Subscript f.y g.y q.2.2,bV qD f.d g.d,λC=>Ic C (U5 h) (f.ok C) (g.ok C)⟩
noncomputable def Nr(e:ap):Bool:=match e with
 |.List [] _=>ae
 |_=>ag
noncomputable def GF:ER:=λr a e=>gd (Nr e&&a.own.contains ⟨#[91,93]⟩) λ_=>Xq r a e
noncomputable abbrev NR(x y:T)(μ:Mem):RE T:=match x with
 |.str x=>(match y with
  |.int n=>.grd (x.length=1/\1<n/\n<=1000) (.ok (.str (Txt.mul x n)) μ)
  |_=>.st)
 |_=>.st
noncomputable def yM(x:ao):List (ao×Int)->T
 |[]=>.n
 |p::r=>if p.1=x then .int p.2 else yM x r
noncomputable abbrev HI(kvs:List (ao×Int))(t:T)(μ:Mem):RE T:=match t with
 |.str x=>.ok (yM x kvs) μ
 |_=>.st
noncomputable abbrev Y_(kvs:List (ao×Int))(f:De):De:=λa b=>(f a b).bind (HI kvs)
noncomputable abbrev NU(o f g:De):De:=λa h=>(o a h).bind λot d=>match ot with
 |.d e=>(f a d).bind λi c=>(g a c).bind λj b=>match i with
  |.str z=>.ok ((zr (.inr z) e).getD j) b
  |_=>.st
 |_=>.st
section
theorem Yu:∀{kvs:List (ao×Int)},(xa (kvs.map λp=>((.inr p.1:Key),V.int p.2)) (.inr x)).getD .n=(match yM x kvs with|.int i=>V.int i|_=>V.n):=by
 intro kvs;induction kvs with
 |nil=>rfl
 |cons p r a=>
  unfold yM;by_cases e:p.1=x
  .rw[if_pos e,cC,kF (by rw[e])];rfl
  .rw[if_neg e,cC,kG (λz=>e (f_ z))];exact a
theorem Zj:∀{kvs:List (ao×Int)},aI D φ α H (yM x kvs) (match yM x kvs with|.int i=>V.int i|_=>V.n)
 |[]=>rfl
 |p::r=>by
  unfold yM;by_cases e:p.1=x
  .rw[if_pos e];rfl
  .rw[if_neg e];exact Zj
theorem MV(C:Ck D W j X k)(i:x∈j.G)(P:j.gl x=.tbl kvs)(hs:az a=ae)(c:(pa.endLine==pc.line)=ae)(R:PE X a (aD D W f)) :
  PE X (.Call (.Attribute (.Name x p0) "get" pa) [a] [] pc) (aD D W (Y_ kvs f)):=by
 have r:cU [a] X.env=[(ag,eval a X.env)]:=z7 hs;have m:M1 X (.Name x p0) "get" pa a pc:=⟨qj rfl,by rw[r];rfl,c,by rw[r];rfl⟩;have q:=C.glo x i;rw[P] at q;obtain⟨ad,vs,O,S,N,u⟩:=q;rintro n s σ H Q I ⟨Z,α,τ,μ,K,M,p⟩;refine A7 m.base m.few m.line sR BJ PySem.F.type_dict_get (q_ I (C.glb x i) O ?_ (C.dbG x i));have dd:=u _ I.kIn;refine⟨dd.typeIs,λb e=>?_,?_⟩
 ·(injection e with e;subst e);obtain⟨ob,_,_,U,T,_⟩:=dd;exact⟨ob,U,T.2.1⟩
 .rw[m.trees];refine oX rfl (ng (o2 (aF (sub R I K M p) ?_)));rintro iv s2 ⟨v,Y,t,A,B,y,L,E,J,h,V,o⟩;refine oS ?_;cases t with
  |str z=>
   subst V;have g:=u _ y.kIn;refine rP BJ g.typeIs PySem.F.entry_dict_get (PySem.F.args_dict_get_2 _ _) (meets_dict_get (zC X.prog X.w) ad (Zg (k:=.inr z) L) S) ⟨_,g.mapOf,?_⟩;have l:=(KV.val N (.inr z)).getD (d:=.n) rfl;rw[Yu] at l;exact⟨_,Y,y.tok _,l,aq.here o h Zj⟩
  |_=>exact aq.elim o
noncomputable def FN:(g:GM)->Option {q // g=.tbl q}
 |.tbl a=>aa ⟨a,rfl⟩
 |_=>af
noncomputable def Gq:ER:=λr b e=>(yp e).bind λq=>(ET q.o).bind λx=>(yS q.as).bind λa=>gd (q.m==("get":ao)) λ_=>(FN (b.look x.1)).bind λt=>(r.e b a).bind λf=>gd (az f.y&&q.pa.endLine==q.pc.line) λh=>aa ⟨.Call (.Attribute (.Name x.1 x.2) "get" q.pa) [f.y] [] q.pc,Y_ t.1 f.d,λC=>MV C (qi t.2 nofun).1 (qi t.2 nofun).2 (zB h).1 (zB h).2 (f.ok C)⟩
end
noncomputable def tB (w:dh):List p6->List (ao×Int)->Prop
 |[],[]=>True
 |e::r,p::q=>(∃t u,e=⟨hZ w p.1,.str p.1 t,.int p.2 u⟩)/\tB w r q
 |_,_=>False
theorem Ju{P:bL}:∀{b:List p6}{kvs:List (ao×Int)},tB w b kvs->∃vs,KV (kvs.map λp=>((.inr p.1:Key),V.int p.2)) vs/\Pairs (zC P w) b vs/\vs.map (·.1)=kvs.map (λp=>(.inr p.1:Key))/\∀e∈b,∃k,(zC P w).is k e.key=ae/\e.hash=(zC P w).hash k
 |[],[],_=>⟨[],.nil,.nil,rfl,sC⟩
 |e::r,p::q,h=>by
  obtain⟨⟨t,u,rfl⟩,h⟩:=h;obtain⟨vs,i,g,f,d⟩:=Ju h;have c:(zC P w).is (.inr p.1) (.str p.1 t)=ae:=Zl p.1 t;refine⟨(.inr p.1,.int p.2 u)::vs,.cons ⟨rfl,u,rfl⟩ i,.cons c rfl g,by rw[cC,cC,f],λe a=>?_⟩;rcases bC.mp a with rfl|a
  .exact⟨_,c,rfl⟩
  .exact d e a
 |[],_::_,h=>h.elim
 |_::_,[],h=>h.elim
theorem HU{P:bL}{K:bc}(d:mg x=aa (.ref a))(hs:(a==fF)=ag)
  (lk:K.lookup a=aa {cls:=.type "dict",data:=.dict j ep}) (hr:tB w j.toList kvs) (nd:(kvs.map (·.1)).Nodup):bD D P w K mg base k x (.tbl kvs):=by
 obtain⟨c,m,l,i,g⟩:=Ju hr;refine⟨a,c,d,hs,m,λh b=>⟨_,j,ep,b _ _ lk,⟨rfl,rfl,rfl⟩,rfl,λe f=>g e (BH.mpr f),l,?_⟩⟩;rw[i,BW,ij];have nd:=BW.mp nd;rw[ij] at nd;exact AQ (λ{p q} n e=>n (f_ e)) nd
end NH
namespace NH.P
open PySem L2 NH
noncomputable abbrev uI:List Ds:=[(aN (d_ (tE (zm .Eq (cB jZ clz0) clz3)) (qd (tE (w_ [3] clz42)))) [(zf clz9)] []),(zf (zm .Eq (Y_ [("lease",5),("ask",4),("store",4),("take",4),("back",3),("fall",3),("bare",3)] clz42) (cB jZ clz0)))]
noncomputable def kI:Fn:=aQ 1 0 uI
end NH.P
namespace NH
open PySem PySem.Spec PyProof.Rows L2
noncomputable abbrev XR:Key->T
 |.inl i=>.int i
 |.inr z=>.str z
noncomputable def xM(μ:Mem)(i:Nat)(kvs:List (Key×T)):Prop:=μ[i]?=aa (.d kvs)\/∃a,μ[i]?=aa (.frd a kvs)
abbrev Dv(i ep:Nat)(kvs:List (Key×T)):Mem->Prop:=λa=>a[i]?=aa (.frd ep kvs)
noncomputable abbrev iD(f:De):Di:=λd e=>(f d e).it λt b=>match t with
 |.m i=>λK _=>∃a,xM b i a/\∀c,K (a.map λp=>XR p.1) (Dv i c a) (b.set i (.frd c a))
 |_=>RI.st
noncomputable abbrev pq(t:T)(μ:Mem):RE T:=match t with
 |.m i=>λK _=>∃a,xM μ i a/\K (.int a.length) μ
 |_=>.st
noncomputable abbrev uS(x y:T)(μ:Mem):RE T:=match x,y with
 |.m i,.str z=>λK _=>∃a v,xM μ i a/\zr (.inr z) a=aa v/\K v μ
 |_,_=>.st
noncomputable def DH (a:ak)(ep n:Nat):It:=⟨λi H=>∃b p,H a=aa (.dE ep b)/\b.length=n/\b[i]?=aa p,λi H x c=>c=H/\∀b,H a=aa (.dE ep b)->∃p,b[i]?=aa p/\x=kV p.1,λi H=>∃b,H a=aa (.dE ep b)/\b.length=n/\b.length<=i⟩
theorem C9{P:bL}(h:(zC P w).is k u=ae):RelV (kV k) u:=by
 cases k with
 |inl i=>exact wE h
 |inr x=>exact Ar h
theorem Kr{P:bL}{K:bc}(a it:ak)(ep n:Nat):dU P w K tg (DH a ep n) [it] it (λi h=>h.IsKeyIter it a i n ep) where
 mem:=by simp
 obj:=λi h st b f=>by
  have e:b=it:=by simpa using f
  subst e;obtain⟨o,e,c,d⟩:=st;exact⟨o,e,λv z=>by rw[d] at z;injection z⟩
 keep:=λi h O st k=>st.at λo e=>k it sC o e
 item:=by
  intro X A hw B N i j s R H E I t st y;subst A hw B;obtain⟨V,p,e,rfl,r⟩:=y;obtain⟨z,hd,u,rel,L⟩:=(I.hok a _ e);have m:=rel.length;obtain⟨J,G,Y,F,D,C⟩:=t it sC;have M:i<u.length:=m▸(aO.mp r).1;have T:p.1=u[i].1:=by
   have:=congrArg (λl:List Key=>l[i]?) rel.keys;simp only[bH,r,dO M,sA,oI] at this;exact this
  rw[m] at st;refine wpAny_pyNext_dict_item st L (by rw[dO M]) λx O q g S=>?_;obtain⟨o,Z,c,d⟩:=id g;exact⟨x,rfl,uv Z c d dC ⟨kV p.1,H,(I.turned (t':=s.toks) (λb o f e=>(S.2 b f).trans e) J G F D C),T▸C9 q,⟨rfl,λU Q=>by rw[e] at Q;cases Q;exact⟨p,r,rfl⟩⟩,m▸g,λb f=>(t b f).1⟩⟩
 done:=by
  intro X A hw B N i j s R H E I t st y;subst A hw B;obtain⟨V,e,rfl,r⟩:=y;obtain⟨z,hd,u,rel,L⟩:=(I.hok a _ e);have m:=rel.length;obtain⟨J,G,Y,F,D,C⟩:=t it sC;rw[m] at st;exact wpAny_pyNext_dict_end (I.ok.hd N) st L (iW lC) λO eb=>⟨rfl,I.turned (λb o f e=>eb b o f e) J G F D C⟩
 self:=λ_ _ _ _ _ st h=>wpAny_pyIter_keyiter st h
section
theorem Jn:∀{kvs:List (Key×T)}{gs:List (Key×V)},aM D φ α H kvs gs->∀{i:Nat}{p:Key×V},gs[i]?=aa p->∃q:Key×T,kvs[i]?=aa q/\q.1=p.1
 |[],_,h,i,p,e=>by subst h;exact z9 e
 |q::r,_,h,i,p,e=>by
  obtain⟨v,a,rfl,d,l⟩:=h;cases i with
  |zero=>(injection e with e;subst e);exact⟨q,rfl,rfl⟩
  |succ i=>exact Jn l e
theorem J7:aI D φ α H (XR z) (kV z):=by cases z<;>rfl
theorem Yl{ad:ak}(b:kvs.length=n):gN D (DH ad ep n) (λφ α H=>∃gs,H ad=aa (.dE ep gs)/\aM D φ α H kvs gs) (kvs.map λp=>XR p.1):=
 ⟨λi φ α H ⟨gs,e,l⟩ a=>by
  have c:=zO l;have a:i<gs.length:=by rw[c];simpa using a
  exact⟨gs,gs[i],e,c.trans b,dO a⟩,λi φ α H v h t ⟨gs,e,l⟩ a y=>by
  obtain⟨rfl,y⟩:=y;obtain⟨p,f,rfl⟩:=y gs e;obtain⟨q,d,g⟩:=Jn l f;rw[bH,d] at a;(injection a with a;subst a);exact⟨λ_ _ z=>z,g▸J7⟩,λφ α H ⟨gs,e,l⟩=>⟨gs,e,(zO l).trans b,by rw[zO l,aL];exact aK _⟩⟩
theorem Y2(a:au D φ α H μ)(b:α[i]?=aa x)(h:xM μ i kvs):∃gs,(H x=aa (.dK gs)\/∃ep,H x=aa (.dE ep gs))/\aM D φ α H kvs gs:=by
 rcases h with h|⟨ep,h⟩
 .obtain⟨gs,e,l⟩:=a.ob i x _ b h;exact⟨gs,.inl e,l⟩
 .obtain⟨gs,e,l⟩:=a.ob i x _ b h;exact⟨gs,.inr ⟨ep,e⟩,l⟩
theorem set_same{β:Type}:∀{l:List β}{i:Nat}{b:β},l[i]?=aa b->l.set i b=l
 |[],_,_,h=>z9 h
 |c::r,0,b,h=>by (injection h with h;subst h);rfl
 |c::r,i+1,b,h=>congrArg (c::·) (set_same h)
theorem MZ(ha:PE X a (aD D W f)):PI X tg a (fv D W (iD f)):=by
 rintro x s M H R I ⟨G,α,τ,μ,T,V,p⟩;refine aF (sub ha I T V p) ?_;rintro u B ⟨v,q,t,i,d,K,U,Q,S,n,d1,J⟩;cases t with
 | m j=>
  obtain⟨ad,r,rfl⟩:=d1;subst U;have C:=J;obtain⟨K0,Z0,⟨y,hd,C⟩,k1,k2⟩:=C;have A:j<i.length:=by rcases hd with h|⟨_,h⟩<;>exact (aO.mp h).1
  have E:∃c g,Inv X x M (upd q ad (.dE c g)) B/\aw d q d (upd q ad (.dE c g))/\aM D G d q y g:=by
   rcases hd with h|⟨c,h⟩
   .obtain⟨g,e,l⟩:=n.ob j ad _ r h;obtain⟨c,w⟩:=Y1 K e;exact⟨c,g,w,aw.turn (aS r) ⟨_,e⟩,l⟩
   .obtain⟨g,e,l⟩:=n.ob j ad _ r h;have:upd q ad (.dE c g)=q:=by
     funext b;unfold upd;split
     .subst_vars;exact e.symm
     .rfl
    exact⟨c,g,by rw[this];exact K,aw.turn (aS r) ⟨_,e⟩,l⟩
  obtain⟨c,g,w,k,l⟩:=E;have Y:au D G d (upd q ad (.dE c g)) (i.set j (.frd c y)):=n.turn r A k ⟨g,z0,(aM.lk k.lk l)⟩;obtain⟨z,hs,P,rel,da⟩:=(w.hok ad _ z0);refine wpAny_pyIter_dict hs da ⟨B.heap.objs.size,[B.heap.objs.size],_,_,_,rfl,w.kept λb o e=>bv _ e,Kr ad _ c P.length,⟨_,dy _ rfl,rfl,rfl⟩,λb hb=>?_,?_⟩
  .have e:b=B.heap.objs.size:=by simpa using hb
   subst e;exact w.fpOk (aK _) (w.hok.fresh (aK _))
  .refine k1 _ _ (C c) d _ k Y _ _ (Yl ((zO l).symm.trans rel.length)) (λL O H' N lk m hv=>?_) ?_
   .obtain⟨F,e',Z⟩:=m.ob j ad _ (lk.st j ad r) hv;exact⟨F,e',Z⟩
   .show (i.set j _)[j]?=_;rw[iX A]
 |_=>exact aq.elim J
theorem I_:B1 X D W (.builtin "len") pq:=by
 intro a s m H k c n t v u Q I b d r p;unfold pq at p;split at p
 .obtain⟨x,w,⟨f,hd,p⟩,g,q⟩:=p;obtain⟨ad,h,rfl⟩:=d;subst r;obtain⟨i,e,l⟩:=Y2 b h hd;refine Fz I (e.imp .inl id) λt o j=>⟨.int i.length,H,j,⟨t,rfl⟩,?_⟩;rw[zO l];exact g _ _ p c H (aw.refl _ _) b _ rfl
 .exact p.elim
theorem UK(h:qq b=ae):Y6 b:=by
 intro o i;cases b<;>first|(simp[qq] at h;done)|rfl
set_option tactic.hygienic true in
theorem HY(C:Ck D W Γ X k)(hs:qq b=ae)(o:PE X a (aD D W f))(hb:PE X b (aD D W g)):PE X (.Subscript a b pos) (aD D W (bV uS f g)):=by
 refine PE.mono (Jq (by have:=C.unt;lia) o hb (UK hs)) ?_;rintro Y H Q ⟨r,F,s,E,u,J,p⟩;refine⟨r,F,s,E,u,J,p.bind.mono λx e j H1 n K q v d=>⟨r,j,s,e,u.step n,K,q.bind.mono λy B h V m A c w U=>?_⟩⟩;unfold uS at c;split at c
 .rename_i i z;obtain⟨K0,Z0,⟨L,t,O,N,I⟩,M,Z⟩:=c;obtain⟨ad,o,rfl⟩:=d.step m;obtain⟨T,P,l⟩:=Y2 A o O;obtain⟨G,S,R⟩:=uO l N;subst U;exact⟨ad,G,rfl,⟨T,.inr z,P.imp .inl id,rfl,S.symm⟩,M _ _ I h V (aw.refl _ _) A _ R⟩
 .exact c.elim
end
noncomputable def UW (a:Cn)(e:ap):Bool:=match e with
 |.Name x _=>a.own.contains (("~":ao)++x)
 |.Attribute _ x _=>x==("seats":ao)
 |_=>ag
noncomputable def Na:IR:=λr a e=>gd (UW a e) λ_=>(r.e a e).bind λf=>aa ⟨f.y,iD f.d,λC _=>MZ (f.ok C)⟩
noncomputable def GX:ER:=λr b e=>(x_ e).bind λq=>(yS q.as).bind λa=>gd (UW b a) λ_=>iq "len" pq ag (λC c f _ d g=>Wi C c f boot_len (by decide) d I_ g) r b e
noncomputable def FI:ER:=λr a e=>(XX e).bind λq=>gd (UW a q.1) λ_=>(r.e a q.1).bind λf=>(r.e a q.2.1).bind λg=>gd (qq g.y) λh=>aa ⟨.Subscript f.y g.y q.2.2,bV uS f.d g.d,λC=>HY C h (f.ok C) (g.ok C)⟩
noncomputable def Du (r:e8)(c:Cn)(e:ap):Option (CB c):=(CH e).bind λq=>gd (UW c q.b) λ_=>(r.e c q.a).bind λf=>(r.e c q.b).bind λg=>gd (vX .NotIn g.y) λh=>(match q.op with
 |.NotIn=>aa ⟨.Compare f.y [.NotIn] [g.y] q.p,bV Qc f.d g.d,λC=>⟨GB (VN C.unt) h (f.ok C) (g.ok C),XG (VN C.unt) h (f.ok C) (g.ok C)⟩⟩
 |_=>af)
noncomputable def Fl:ER:=λr a e=>(Du r a e).bind λc=>aa c.eb
noncomputable def F9:TR:=λr a e=>(Du r a e).bind λc=>aa c.tb
noncomputable def Fu:ap->Bool
 |.Attribute _ x _=>x==("common":ao)
 |_=>ag
noncomputable def B4(m:ao):ao:=⟨#[64]⟩++m
noncomputable def Gx:ER:=λr a e=>(yp e).bind λq=>gd (Fu q.o) λ_=>Ci r a (B4 q.m) q
end NH
namespace NH.P
open PySem L2 NH
noncomputable abbrev xR:List Ds:=[(zK clz0 21 clz2),(zK clz0 11 clz6),(zK clz0 22 clz6)]
noncomputable def kR:Fn:=aQ 2 0 xR
noncomputable abbrev u9:List Ds:=[(zK clz0 22 clz2)]
noncomputable def yx:Fn:=aQ 2 0 u9
noncomputable abbrev j0:List Ds:=[(aN (tE (zm .Eq (zZ [clz2,clz4]) (zz 45 uM clz0 []))) [VO] []),(zK clz0 20 clz23),(zy (td 1 (zz 46 yx clz2 [clz0]) 16 clz0 (zZ [clz2,clz4]))),(zK clz0 20 clz9),(zK clz0 6 clz2),(zK clz0 17 clz4)]
noncomputable def qA:Fn:=aQ 3 0 j0
noncomputable abbrev qR:List Ds:=[(zy (zz 45 qe clz0 [])),(zy (z4 j7 [clz36,clz2])),(zy (zz 45 qA clz0 [clz2,clz41]))]
noncomputable def wu:Fn:=aQ 2 0 qR
noncomputable abbrev wg:List Ds:=[(zy (zz 45 qe clz0 [])),(zj 3 (zz 45 vc clz0 [clz2,clz4])),(zy (zz 45 qA clz0 [clz38,(zz 45 wF clz0 [(za .FloorDiv (za .Sub (zD clz7 13) clz1) clz63)])])),(zK clz0 18 (z4 Q7 [clz36,(zD clz7 11),(za .Sub (zD clz7 13) clz1)])),(zf clz7)]
noncomputable def qo:Fn:=aQ 3 1 wg
noncomputable abbrev js:List Ds:=[(zj 3 (zz 45 qo clz0 [clz2,clz4])),(zK clz0 19 (qP [])),(zf (z4 qJ [clz36,clz7]))]
noncomputable def xS:Fn:=aQ 3 1 js
noncomputable abbrev QF:List Ds:=[(zf (kY (w_ [4] clz0) (kY (z4 kI [clz0]) (z4 zQ [clz43]))))]
noncomputable def xv:Fn:=aQ 1 0 QF
noncomputable abbrev ku:List Ds:=[(aN (d_ (qd (tE (w_ [6] clz0))) (tE (zm .Eq (cB pq clz0) clz3))) [(zf clz9)] []),(zf (cB V4 (qa 1 [0] (.one 0) (iD clz0) [] (kY (z4 vf [clz0]) (w_ [41] (bV uS clz2 clz0))))))]
noncomputable def yu:Fn:=aQ 1 0 ku
noncomputable abbrev yZ:List Ds:=[(aN (tE (zm .Gt clz42 clz3)) [(zj 2 (za .Mod clz42 clz2)),(qE clz0 clz3 (za .FloorDiv clz42 clz2)),(zf clz4)] []),(qE clz0 clz5 (za .Add clz52 clz1)),(zf (za .Mod (z4 JR [clz43,clz52]) clz2))]
noncomputable def zq:Fn:=aQ 2 1 yZ
noncomputable abbrev ZE:List Ds:=[(Wt [2,3,4] clz0),(zf (zZ [(za .FloorDiv (za .FloorDiv clz2 clz11) clz7),(za .Mod (za .FloorDiv clz2 clz11) clz7),(za .Mod clz2 clz11)]))]
noncomputable def kM:Fn:=aQ 2 3 ZE
noncomputable abbrev _root_.clz17:=eV 7
noncomputable abbrev _root_.clz21:=eV 8
noncomputable abbrev _root_.clz27:=eV 11
noncomputable abbrev _root_.clz28:=eV 10
noncomputable abbrev kQ:List Ds:=[(Wt [4,5,6] clz0),(Wt [7,8,9] clz2),(zj 10 (za .Mult (za .Add (za .Mult (ej jG clz21 clz7) clz10) clz17) clz13)),(aN (wz (tE (zm .IsNot clz4 clz6)) (tE (zm .GtE clz4 clz28))) [(Wt [11,12,13] (z4 kM [clz0,clz4])),(zj 10 (za .Mult (za .Add (za .Mult clz27 clz10) clz17) clz13)),(aN (tE (zm .GtE clz4 clz28)) [(zj 10 (za .Add clz4 clz1))] []),(aN (tE (zm .NotEq (bq (z4 kM [clz0,clz28]) clz1) clz17)) [(zj 10 (za .Mult (za .Add (za .Mult (za .Add clz27 clz1) clz10) clz17) clz13))] [])] []),(aN (tE (zm .GtE (za .FloorDiv (za .FloorDiv clz28 clz13) clz10) (eV 9))) [(zf clz6)] []),(zf clz28)]
noncomputable def VP:Fn:=aQ 4 10 kQ
noncomputable abbrev Zt:List Ds:=[(zj 5 (qP [])),(vM (.one 6) (Uy clz11) [(zj 2 (z4 VP [clz0,clz2,clz4,clz7])),(aN (tE (zm .Is clz4 clz6)) [(zf clz6)] []),(zy (uC clz10 clz4))]),(zf clz10)]
noncomputable def VX:Fn:=aQ 5 2 Zt
end NH.P
namespace NH
open PySem PySem.Spec PyProof.Rows L2
theorem ZT:rC (.type "list") "keys"=pure af:=by rw[typeLookup_type,builtinLookup_eq_fast];kernel_rfl
theorem KI 
  (l:s.heap.get? a=aa o) (hc:o.cls=.type "list") (j:o.data=.seq xs k) (hd:o.dict=af) (q:A.handled=af)
  (h:∀h' tk,(∀b u,s.heap.get? b=aa u->h'.get? b=aa u)->Q af {s with heap:=h',toks:=tk}) :
  aA (aC prog w) A (getAttr? (.ref a) "keys") Q E s:=by
 obtain⟨c,r,t,n⟩:=o;subst hc j hd;obtain⟨p,g,d,tk,os⟩:=s;have m:∀f,(⟨p,g,d,f,os⟩:aJ).TypeIs (.ref a) "list":=λ_=>⟨_,l,rfl⟩;have D:=sub_AttributeError;have C:=sV.lookup;have B:=sV.bind (.ref a);have z:=am_list_getattr_none;repeat (any_goals (first|assumption|exact m _|((with_reducible show aA _ _ (call (wT "list.__getattribute__") _ _) _ _ _);refine oa sV (m _) am_entry_list_getattribute (PySem.F.args_list_getattribute_2 _ _) (meets_getattribute_miss_list a xs k n "keys" _ ZT dC dC) ⟨l,q,λh' f e i=>?_⟩)|wp_step))
 obtain⟨x,v,y⟩:=i.there;unfold getattributeRaised;repeat (any_goals (first|assumption|wp_step))
 exact h _ _ λb u e=>i.of.keeps b u e
theorem vS:entryFor table "dict.update.loop"=aa Builtin.«dict.update.loop»:=entryFor_of_tree (by kernel_rfl)
theorem vY:plainId "dict.update.loop"=ae:=by decide +kernel
noncomputable def Ut(h:aG)(v a u:ai):Prop:=∃t o n,v=.ref t/\h.get? t=aa o/\o.cls=.type "tuple"/\o.data=.seq #[a,u] n
noncomputable abbrev ir{K:Type}(x:K×ai×ai):K×ai:=(x.1,x.2.2)
section
variable {prog:Program}{w:World}{K:Type}[DecidableEq K]{knd:PySem.KeyKind prog w K}{A:Around}{E:ai->Shared->Prop}{s:Shared}
theorem WS(hh:A.in1.handled=af){R:Result->aJ->Prop}{d I l:ak}{a:Array ai}{c:List (K×ai×ai)}(C:d≠I)(t4:d≠l)(L:l≠I)(hn:(c.map (·.1)).Nodup)(hsz:c.length<=sizeLine)(J:a.size=c.length)(h0:aG)
  (Y:∀(i:Nat) (y:K×ai×ai),c[i]?=aa y->∃v,a[i]?=aa v/\Ut h0 v y.2.1 y.2.2/\v≠.ref d/\v≠.ref I) (hky:∀y∈c,knd.is y.1 y.2.1=ae) :
  ∀(k i:Nat) (s:aJ) (t:Tok),c.length-i=k->i<=c.length->s.heap.IsListIter I l i->s.heap.IsList l a->s.heap.DictOf knd d ((c.take i).map ir)->(∀b u,b≠d->b≠I->h0.get? b=aa u->s.heap.get? b=aa u)->
   (∀h' tk,h'.DictOf knd d (c.map ir)->(∀b u,b≠d->b≠I->s.heap.get? b=aa u->h'.get? b=aa u)->R (.ok (.ret .none)) {s with heap:=h',toks:=tk})->
   fC (aC prog w) A (.builtin "dict.update.loop" ⟨[.ref d,.ref I,.int i t,.none],[]⟩) R s:=by
 intro k;induction k with
 |zero=>
  intro i s t hk hi B x hd F hR;have hin:i=c.length:=by lia
  subst hin;refine As vS (ay ((rz hh I l L a).toS.done s _ _ ⟨J▸B,x⟩ λT g=>?_));obtain⟨h',g',d',q,U⟩:=T;have eg:=g.gens;have ed:=g.drawn;have eo:=g.os;subst eg ed eo;rw[Aw] at hd;obtain⟨o,es,ep,ho,hc,hdd,he,hnn⟩:=hd;refine ay (aU (aU (hR h' q ⟨o,es,ep,g.heap d o (by simp[C]) ho,hc,hdd,he,hnn⟩ (λb u _ h e=>g.heap b u (by simp[h]) e))))
 |succ k ih=>
  intro i s t hk hi B x hd F hR;have H:i<c.length:=by lia
  obtain⟨⟨r,b,u⟩,N⟩:∃y,c[i]?=aa y:=⟨c[i],dO H⟩;obtain⟨v0,X,Z,nd,nI⟩:=Y i _ N;refine As vS (ay ((rz hh I l L a).toS.item i s _ _ lC ⟨B,x⟩ λv T O p g=>?_));rw[X] at O;(replace O:=zo O;subst O);obtain⟨h',g',d',q,U⟩:=T;have eg:=g.gens;have ed:=g.drawn;have eo:=g.os;subst eg ed eo;have kp:∀b u,b≠d->b≠I->s.heap.get? b=aa u->h'.get? b=aa u:=λb u _ h e=>g.heap b u (by simp[h]) e;have E:∀b u,b≠d->b≠I->h0.get? b=aa u->h'.get? b=aa u:=λb u j h e=>kp b u j h (F b u j h e);obtain⟨tp,o,n,rfl,ho,hc,hdt⟩:=Z;have ho':=E tp o (λz=>nd (by rw[z])) (λz=>nI (by rw[z])) ho;have hD:h'.DictOf knd d ((c.take i).map ir):=by
   obtain⟨od,es,ep,g1,g2⟩:=hd;exact⟨od,es,ep,g.heap d od (by simp[C]) g1,g2⟩
  have G:r∉(c.take i).map (·.1):=by
   have z:(c.take i++[(r,b,u)]).map (·.1) |>.Nodup:=by
    rw[show c.take i++[(r,b,u)]=c.take (i+1) by rw[dM,N];rfl];exact hn.sublist ((l9 _ _).map _)
   rw[bP,gi] at z;exact λm=>z.2.2 r m r sC rfl
  have Q:mE ((c.take i).map ir) r u=(c.take (i+1)).map ir:=by
   unfold mE;have:((c.take i).map ir).any (λkv=>decide (kv.1=r))=ag:=by
    rw[sE];intro kv hkv;obtain⟨z,hz,rfl⟩:=ba.mp hkv;simp only[decide_eq_true_eq];exact λe=>G (ba.mpr ⟨z,hz,e⟩)
   rw[this,if_neg dC,dM,N,bP];rfl
  refine ay (dF (ay (wpAny_tryCatch (ay (lW ⟨o,ho',hc⟩ (ay (wpAny_seqItems ho' hdt (aU ?_))))))));refine dF (wpAny_dictSet_pairs (hky _ (aS N)) hD λh M S=>?_);rw[Q] at M;have D:∀b u,b≠d->b≠I->h'.get? b=aa u->h.get? b=aa u:=λb u j _ e=>(S.2 b j).trans e;have hI2:h.IsListIter I l (i+1):=by
   obtain⟨V,e1,e2⟩:=p.1;exact⟨V,(S.2 I (bd C)).trans e1,e2⟩
  have hL2:h.IsList l a:=by
   obtain⟨V,e1,e2⟩:=p.2;exact⟨V,(S.2 l (bd t4)).trans e1,e2⟩
  exact aU ⟨plainId_quiet vY _,(ih (i+1) ⟨h,s.gens,s.drawn,q+1,s.os⟩ 0 lC H hI2 hL2 M (λb u j f e=>D b u j f (E b u j f e)) λh3 P hD3 W=>hR h3 P hD3 λb u j f e=>W b u j f (D b u j f (kp b u j f e)))⟩
theorem QU {l:ak}{a:Array ai}{n:Nat}{f:List (K×ai×ai)}{Q:ai->aJ->Prop}(T:A.handled=af) (M:s.heap.get? l=aa {cls:=.type "list",data:=.seq a n})
  (S:(f.map (·.1)).Nodup) (G:f.length<=sizeLine) (r:a.size=f.length)
  (H:∀(i:Nat) (y:K×ai×ai),f[i]?=aa y->∃v,a[i]?=aa v/\Ut s.heap v y.2.1 y.2.2)
  (I:∀y∈f,knd.is y.1 y.2.1=ae)
  (h:∀h' tk,h'.DictOf knd s.heap.objs.size (f.map ir)->(∀b u,s.heap.get? b=aa u->h'.get? b=aa u)->Q (.ref s.heap.objs.size) {s with heap:=h',toks:=tk}) :
  aA (aC prog w) A (call (.type "dict") [.ref l]) Q E s:=by
 refine callType_codes (Q₁:=λobj g=>obj=.ref s.heap.objs.size/\g={s with heap:=s.heap.push {cls:=.type "dict",data:=.dict #[]}}) PySem.F.kt_called_dict (PySem.F.kt_typeCall_dict_1 _) PySem.F.entry_dict_init (kt_code_dict_new _ ⟨rfl,rfl⟩) ?_;rintro obj g ⟨rfl,rfl⟩;have ll:=bz M;have c:(s.heap.push {cls:=.type "dict",data:=.dict #[]}).DictOf knd s.heap.objs.size []:=sx s.heap;have p:=bv {cls:=.type "dict",data:=.dict #[]} M;have J:Shared.TypeIs {s with heap:=s.heap.push {cls:=.type "dict",data:=.dict #[]}} (.ref l) "list":=⟨_,p,rfl⟩;refine⟨c.typeIs,PySem.F.args_dict_init_2 _ _,(ay (ay (wpAny_notOrdered_dict c.typeIs (aU ?_))))⟩;show aA _ _ (DN "dict.__init__" s.heap.objs.size (.ref l) [] .none) _ _ _;refine ay (lW J ?_);have N:A.in1.in1.handled=af:=by simp[T]
 refine ay (KI p rfl rfl rfl N λB O C=>?_);have x:B.IsList l a:=⟨_,(C _ _ p),rfl,n,rfl⟩;have k:s.heap.objs.size<B.objs.size:=by
  obtain⟨o,_,_,e,_⟩:=id c;exact bz (C _ _ e)
 refine ay (mM (ay (oR x (aU ⟨plainId_quiet vY _,?_⟩))));have j:∀b u,s.heap.get? b=aa u->(B.push {cls:=.type "list_iterator",data:=.fields #[.ref l,.int 0 0]}).get? b=aa u:=λb u e=>bv _ (C _ _ (bv _ e));have d:∀b u,s.heap.get? b=aa u->b≠s.heap.objs.size/\b≠B.objs.size:=λb u e=>by
  have:=bz e;constructor
  .exact b_ this
  .exact b_ (oh this k)
 have U:(B.push {cls:=.type "list_iterator",data:=.fields #[.ref l,.int 0 0]}).DictOf knd s.heap.objs.size ((f.take 0).map ir):=by
  obtain⟨o,X,Y,e1,Z⟩:=id c;exact⟨o,X,Y,bv _ (C _ _ e1),Z⟩
 refine WS N (b_ k) (fP ll) (b_ (oh ll k)) S G r s.heap (λi y R=>?_) I f.length 0 _ 0 lC (fU _) ⟨_,dy _ rfl,rfl,rfl⟩ (x.push _) U (λb u _ _ e=>j b u e) λV D L P=>⟨rfl,h V D L λb u e=>P b u (d b u e).1 (d b u e).2 (j b u e)⟩;obtain⟨v,W,q⟩:=H i y R;refine⟨v,W,q,λz=>?_,λz=>?_⟩
 .obtain⟨t,o,m,rfl,e,_⟩:=q;(injection z with z;subst z);exact (d _ _ e).1 rfl
 .obtain⟨t,o,m,rfl,e,_⟩:=q;(injection z with z;subst z);exact (d _ _ e).2 rfl
end
noncomputable abbrev X1(p:Key×T):T:=.t [XR p.1,p.2]
noncomputable abbrev pE(f:De):Di:=λd e=>(f d e).it λt b=>match t with
 |.m i=>λK _=>∃a,xM b i a/\∀c,K (a.map X1) (Dv i c a) (b.set i (.frd c a))
 |_=>RI.st
noncomputable abbrev fK(t:T)(μ:Mem):RE T:=λK _=>∃a:List (Key×T),t=.l (a.map X1)/\(a.map (·.1)).Nodup/\a.length<=1000/\K (.m μ.length) (μ++[.d a])
noncomputable def DG (a:ak)(ep n:Nat):It:=⟨λi H=>∃b p,H a=aa (.dE ep b)/\b.length=n/\b[i]?=aa p,λi H v c=>∃p k x,H p=af/\c=upd H p (.t [kV k,x])/\v=.ref p/\∀b,H a=aa (.dE ep b)->b[i]?=aa (k,x),λi H=>∃b,H a=aa (.dE ep b)/\b.length=n/\b.length<=i⟩
theorem X6:∀{gs:List (Key×V)}{vs:List (Key×ai)},KV gs vs->∀{i:Nat}{p:Key×V},gs[i]?=aa p->∃q:Key×ai,vs[i]?=aa q/\p.1=q.1/\RelV p.2 q.2
 |_,_,.nil,i,p,e=>z9 e
 |_,_,.cons h t,0,p,e=>by (injection e with e;subst e);exact⟨_,rfl,h.1,h.2⟩
 |_,_,.cons h t,i+1,p,e=>X6 t e
theorem V7{P:bL}{K:bc}(a it:ak)(ep n:Nat):dU P w K (.Tuple U x1 tp) (DG a ep n) [it] it (λi h=>∃ok j,IsItemIter h it a i n ep ok j) where
 mem:=by simp
 obj:=λi h st b f=>by
  have e:b=it:=by simpa using f
  subst e;obtain⟨ok,j,e⟩:=st;exact⟨_,e,λv z=>by cases z⟩
 keep:=λi h Q st k=>let ⟨ok,j,e⟩:=st;⟨ok,j,k it sC _ e⟩
 item:=by
  intro X G hw J g i l s V H E I F st D;subst G hw J;obtain⟨R,p,e,rfl,C⟩:=D;obtain⟨ok,j,st⟩:=st;obtain⟨z,hd,M,rel,L⟩:=(I.hok a _ e);obtain⟨⟨k,u⟩,hq,hk,Y⟩:=X6 rel C;have S:=jU (F it sC);have lt:=bz st;rw[show R.length=M.length from rel.length] at st;refine wpAny_pyNext_items_item st L hq λr Q A y t hsz Z=>⟨_,rfl,wpAny_letOwnedTupleGo_items y λO B x=>?_⟩;have m:∀c o,c∉[it]->s.heap.get? c=aa o->O.get? c=aa o:=λc o n q=>(x.2 c (λw=>n (by simp[w]))).trans (Z c o (λw=>n (by simp[w])) q);have d:=(x.2 _ (fP lt)).trans t;have N:=I.hok.fresh (aK _);have fn:=jU (I.fpOk (aK _) N);have I3:=wq (kB I (λc g=>aT.mp g▸S) (λc o _ f q=>m c o f q) λc o _ f q=>⟨o.slots,m c o f q⟩) fn.1 fn.2 (show aR X.prog X.w _ O _ (.t [kV p.1,p.2]) from ⟨by rw[db];simp,[r,u],.cons (hk▸C9 A) (.cons Y .nil),⟨_,d,rfl,_,rfl⟩⟩);exact⟨.ref s.heap.objs.size,_,I3,rfl,⟨s.heap.objs.size,p.1,p.2,N,rfl,rfl,λgs' T=>by rw[e] at T;cases T;exact C⟩,⟨r,u,rel.length▸B⟩,λc g=>aT.mp g▸(z6 (b_ lt))▸S.1.free⟩
 done:=by
  intro X G hw J g i l s V H E I F st D;subst G hw J;obtain⟨R,e,rfl,C⟩:=D;obtain⟨ok,j,st⟩:=st;obtain⟨z,hd,M,rel,L⟩:=(I.hok a _ e);have hl:=rel.length;obtain⟨f0,f1,f2,f3,f4,f5⟩:=F it sC;rw[hl] at st;exact wpAny_pyNext_items_end (I.ok.hd g) st L (iW lC) λQ eb=>⟨rfl,I.turned (λb o f e=>eb b o f e) f0 f1 f3 f4 f5⟩
 self:=λ_ _ _ _ _ st h=>let ⟨_,_,e⟩:=st;PySem.W.kcp_self e h
section
theorem WM:∀{kvs:List (Key×T)}{gs:List (Key×V)},aM D φ α H kvs gs->∀{i:Nat}{q:Key×T}{p:Key×V},kvs[i]?=aa q->gs[i]?=aa p->q.1=p.1/\aI D φ α H q.2 p.2
 |[],_,h,i,q,p,a,e=>z9 a
 |q::r,_,h,i,b,p,a,e=>by
  obtain⟨v,c,rfl,d,l⟩:=h;cases i with
  |zero=>(injection e with e;subst e);(injection a with a;subst a);exact⟨rfl,d⟩
  |succ i=>exact WM l a e
theorem JZ{ad:ak}(f:kvs.length=n):gN D (DG ad ep n) (λφ α H=>(∃gs,H ad=aa (.dE ep gs)/\aM D φ α H kvs gs)/\∀p,H p=af->p∉φ/\p∉α) (kvs.map X1):=
 ⟨λi φ α H ⟨⟨gs,e,l⟩,_⟩ a=>by
  have g:=zO l;have a:i<gs.length:=by rw[g];simpa using a
  exact⟨gs,gs[i],e,g.trans f,dO a⟩,λi φ α H v o t ⟨⟨gs,e,l⟩,h⟩ a y=>by
  obtain⟨p,k,x,c,rfl,rfl,y⟩:=y;rw[bH] at a;cases b:kvs[i]? with
  |none=>rw[b] at a;exact z9 a
  |some q=>
   rw[b] at a;(injection a with a;subst a);obtain⟨j,m⟩:=WM l b (y gs e);have d:v_ H (upd H p (.t [kV k,x])):=ze c;exact⟨d,p,_,rfl,(h p c).1,(h p c).2,.inl z0,kV k,[x],rfl,j▸J7,x,[],rfl,m.step (aw.new d),rfl⟩,λφ α H ⟨⟨gs,e,l⟩,_⟩=>⟨gs,e,(zO l).trans f,by rw[zO l,aL];exact aK _⟩⟩
theorem Xm{ad:ak}(I:Inv X u z H s)(c:au D φ α H μ)(hj:α[j]?=aa ad)(hd:xM μ j kvs) :
  ∃ep gs,Inv X u z (upd H ad (.dE ep gs)) s/\aw α H α (upd H ad (.dE ep gs))/\au D φ α (upd H ad (.dE ep gs)) (μ.set j (.frd ep kvs))/\gs.length=kvs.length:=by
 have f:j<μ.length:=by rcases hd with h|⟨_,h⟩<;>exact (aO.mp h).1
 have d:∃ep gs,Inv X u z (upd H ad (.dE ep gs)) s/\aw α H α (upd H ad (.dE ep gs))/\aM D φ α H kvs gs:=by
  rcases hd with h|⟨ep,h⟩
  .obtain⟨gs,e,l⟩:=c.ob j ad _ hj h;obtain⟨ep,g⟩:=Y1 I e;exact⟨ep,gs,g,aw.turn (aS hj) ⟨_,e⟩,l⟩
  .obtain⟨gs,e,l⟩:=c.ob j ad _ hj h;have:upd H ad (.dE ep gs)=H:=by
    funext b;unfold upd;split
    .subst_vars;exact e.symm
    .rfl
   exact⟨ep,gs,by rw[this];exact I,aw.turn (aS hj) ⟨_,e⟩,l⟩
 obtain⟨ep,gs,g,a,l⟩:=d;exact⟨ep,gs,g,a,c.turn hj f a ⟨gs,z0,aM.lk a.lk l⟩,zO l⟩
theorem YH(d:zU o=ae)(a:(pa.endLine==pc.line)=ae)(ho:PE X o (aD D W f)) :
  PI X (.Tuple M x1 tp) (.Call (.Attribute o "items" pa) [] [] pc) (fv D W (pE f)):=by
 rintro G s σ H R I ⟨φ,α,τ,μ,T,V,p⟩;refine wpAny_Call_method0_late (qj d) a (aF (sub ho I T V p) ?_);rintro u q ⟨v,H1,t,c,k,I1,U,Q,S,x,d1,J⟩;cases t with
 | m j=>
  obtain⟨ad,K,rfl⟩:=d1;subst U;have r:=J;obtain⟨K0,Z0,⟨kvs,hd,r⟩,k1,k2⟩:=r;have A:j<c.length:=by rcases hd with h|⟨_,h⟩<;>exact (aO.mp h).1
  obtain⟨E,gs,i,n,Y,y⟩:=Xm I1 x K hd;obtain⟨z,hs,l,rel,g⟩:=(i.hok ad _ z0);have L:=g.dictOf.typeIs;refine⟨"dict","dict.items",sR,Bu,PySem.F.type_dict_items,L,λb e=>?_,?_⟩
  ·(injection e with e;subst e);obtain⟨ob,_,h1,h2,_⟩:=g;exact⟨ob,h1,h2.2.1⟩
  refine oX rfl (PySem.evalArgs_none (rP Bu L PySem.F.entry_dict_items (PySem.F.args_dict_items_1 _) (meets_dict_items (zC X.prog X.w) ad hs) ⟨⟨l,g.dictOf⟩,?_⟩));have B:(q.heap.push {cls:=.type "dict_items",data:=.fields #[.ref ad]}).DictAt (zC X.prog X.w) ad l E:=g.push _;refine wpAny_pyIter_items ⟨_,dy _ rfl,rfl,rfl⟩ B ?_;refine⟨_,[_],_,_,_,rfl,i.kept λb o e=>bv _ (bv _ e),V7 ad _ E l.length,⟨_,_,dy _ rfl⟩,λb hb=>?_,?_⟩
  .rw[aT.mp hb];have:q.heap.objs.size<=(q.heap.push {cls:=.type "dict_items",data:=.fields #[.ref ad]}).objs.size:=by rw[fT];exact fD _
   exact i.fpOk this (i.hok.fresh this)
  .refine k1 _ _ (r E) k _ n Y _ _ (JZ (y.symm.trans rel.length)) (λN P H' O lk m hv=>⟨?_,λp d=>⟨zi m d,zh m d⟩⟩) ?_
   .obtain⟨C,e',Z⟩:=m.ob j ad _ (lk.st j ad K) hv;exact⟨C,e',Z⟩
   .show (c.set j _)[j]?=_;rw[iX A]
 |_=>exact aq.elim J
theorem K1{a b:V}(r:aE [a,b] us):∃s j,us=[s,j]/\RelV a s/\RelV b j:=by
 cases r with
 |cons f e=>cases e with
  |cons d c=>cases c;exact⟨_,_,rfl,f,d⟩
theorem YF(d:aI D φ α H (XR z) v):v=kV z:=by cases z<;>exact d
set_option tactic.hygienic true in
theorem Z7{P:bL}{h:aG}(ok:cM P w H h):∀{ps:List (Key×T)}{c:List V}{us:List ai},av D φ α H (ps.map X1) c->aE c us->
  ∃(b:List (Key×ai×ai)) (gs:List (Key×V)),aM D φ α H ps gs/\KV gs (b.map ir)/\b.map (·.1)=ps.map (·.1)/\us.length=b.length/\(∀(i:Nat) y,b[i]?=aa y->∃v,us[i]?=aa v/\Ut h v y.2.1 y.2.2)/\∀y∈b,(zC P w).is y.1 y.2.1=ae
 |[],c,us,l,r=>by
  subst l;cases r;exact⟨[],[],rfl,.nil,rfl,rfl,sC,sC⟩
 |p::ps,_,_,l,r=>by
  obtain⟨v,c,rfl,d,l⟩:=l;cases r with
  |cons q n=>
   rename_i u us;obtain⟨b,gs,F,E,C,B,A,z⟩:=Z7 ok l n;obtain⟨t,O,rfl,_,_,rt,s⟩:=d;obtain⟨Q,S,rfl,e,f,R,rfl,N,M⟩:=s;subst M;have e:=YF e;subst e;subst q;obtain⟨_,x,k,o,J,I,m,G⟩:=(rt.ok ok);obtain⟨j,g,rfl,L,K⟩:=K1 k;refine⟨(p.1,j,g)::b,(p.1,f)::gs,⟨f,gs,rfl,N,F⟩,.cons ⟨rfl,K⟩ E,by rw[cC,C];rfl,by simp[B],λi y a=>?_,λy a=>?_⟩
   .cases i with
    |zero=>(injection a with a;subst a);exact⟨.ref t,rfl,t,o,m,rfl,J,I,G⟩
    |succ i=>exact A i y a
   .rcases bC.mp a with rfl|a
    .exact Zg L
    .exact z y a
theorem IW(hc:X.calm=ae):B1 X D W (.type "dict") fK:=by
 intro b s P H O S R t v u Q I e d r p;obtain⟨K,Z,⟨j,rfl,k,c,F⟩,E,V⟩:=p;obtain⟨ad,T,rfl,_,_,rd,l⟩:=d;subst r;obtain⟨z,x,m,h,C⟩:=(rd.ok I.hok);obtain⟨g,G,e0,N,f,M,L,J⟩:=Z7 I.hok l h;have n:g.length=j.length:=by rw[<-aL,f,aL]
 have q:=zO e0;have a:=I.hok.fresh (aK _);refine QU (I.ok.hd hc) C (f▸k) (n▸cf c dC) (cN▸M) (λi y A=>?_) J λY U dd w=>?_
 .obtain⟨v,B,a⟩:=L i y A;exact⟨v,by simpa using B,a⟩
 .have sz:=beq_eq_false_iff_ne.mpr (bd (b_ I.big));exact⟨.ref s.heap.objs.size,_,I.laid (o:=.dK G) w (aK _) ⟨q▸cf c dC,sz,_,N,dd⟩,rfl,(E _ _ F _ _ (vz a) (e.layO a ⟨_,z0,aM.lk (vz a).lk e0⟩) _ ⟨_,by rw[<-e.len,dL (aK _)];simp,rfl⟩)⟩
end
theorem FV (h:WT tg (.Call (.Attribute o "items" pa) as ks p)=ae):∃j x1 s,tg=.Tuple j x1 s:=JP h
noncomputable def GA:IR:=λr b e=>(yp e).bind λq=>gd (q.m==("items":ao)) λ_=>(r.e b q.o).bind λf=>gd (zU f.y&&q.pa.endLine==q.pc.line) λh=>aa ⟨.Call (.Attribute f.y "items" q.pa) [] [] q.pc,pE f.d,λC c=>by
 obtain⟨a,g,i,rfl⟩:=FV c;exact YH (zB h).1 (zB h).2 (f.ok C)⟩
noncomputable def Gs:ER:=iq "dict" fK ae λC a c d b e=>Jm C a c (by decide +kernel) (by decide) b (IW (C.clm (d rfl))) e
theorem swT{α:Type}{a b:α}{Q:α->Prop}(h:∀P∈[a,b],Q P):∀P∈[b,a],Q P:=λP c=>h P (by rcases bC.mp c with e|e;exact cJ _ (aT.mpr e);rw[aT.mp e];exact dt)
end NH
namespace NH.P
open PySem L2 NH
noncomputable abbrev vZ:List Ds:=[(zf (cB Qw (zD clz0 24)))]
noncomputable def kn:Fn:=aQ 1 0 vZ
noncomputable abbrev _root_.clz15:=eC (.int 4)
noncomputable abbrev vG:List Ds:=[(zj 2 (qP [])),(zj 3 (za .Sub (za .Add clz2 (z4 zq [clz0,(eC (.int 30))])) (eC (.int 5)))),(vM (.one 4) (Uy (z4 zq [clz0,clz15])) [(zj 5 (za .Add clz7 (bq (vK [clz3,(z4 zq [clz0,(eC (.int 40))]),(za .Sub clz3 (z4 zq [clz0,(eC (.int 40))]))]) (z4 zq [clz0,clz12])))),(zy (uC clz4 (zZ [clz7,clz10,(zm .Gt (z4 zq [clz0,clz12]) clz3)]))),(zj 3 (za .Add (za .Add clz7 clz1) (z4 zq [clz0,(eC (.int 20))])))]),(zf (zZ [(bq (vK [clz3,(za .Sub (z4 zq [clz0,(eC (.int 9))]) clz15)]) (z4 zq [clz0,clz5])),clz4]))]
noncomputable def jo:Fn:=aQ 2 4 vG
noncomputable abbrev xE:List Ds:=[(Wt [2,3] clz0),(zj 4 (za .Add clz4 clz2)),(vM (.t [5,6,7]) (iE clz7) [(aN (tE (zm .LtE clz10 clz2)) [(zj 4 (za .Add clz13 (za .Mult (za .Sub clz2 clz10) (cB Uv clz17))))] [])]),(zf clz11)]
noncomputable def xh:Fn:=aQ 2 6 xE
noncomputable abbrev _root_.clz53:=zD clz0 26
noncomputable abbrev qW:List Ds:=[(aN (qd (tE (z4 xv [clz2]))) [(zE 25 [(eC (.str "no row of a world"))])] []),(aN (wz (tE (zm .IsNot (zD clz0 25) clz6)) (tE (zm .Lt clz35 (zD clz0 25)))) [Dk] []),(aN (d_ (qd (tE (z4 vf [clz39]))) (tE (bV Qc clz39 clz53))) [(zE 17 [(eC (.str "no holder of the world"))])] [])]
noncomputable def wL:Fn:=aQ 2 0 qW
end NH.P
namespace NH
open PySem PySem.Spec PyProof.Rows L2
section
noncomputable abbrev ti(f:De):De:=λb c=>(f b c).bind λx a=>match x with
 |.int i=>.grd (0<=i/\i<=1000) (.ok (.l ((dm i.toNat).map λ(n:Nat)=>T.int (n:Int))) a)
 |_=>.st
theorem UQ:∀{n:Nat}{F:Nat->V}{a:List ai},a.length=n->(∀j v,a[j]?=aa v->RelV (F j) v)->aE ((dm n).map F) a:=by
 intro n F a c h;have e:a=(dm n).map λj=>a.getD j .none:=by
  apply AO;intro j;by_cases z:j<n
  .rw[bH,Bi z];simp[ dO (c▸z)]
  .rw[iW lC,iW (by simp;lia)]
 rw[e];have:∀l:List Nat,(∀j∈l,j<n)->aE (l.map F) (l.map λj=>a.getD j .none):=by
  intro l;induction l with
  |nil=>intro _;exact .nil
  |cons j l d=>
   intro b;refine .cons ?_ (d λi g=>b i (cJ _ g));have f:=c▸b j (dt ..);exact h j _ (by simp[ dO f])
 exact this _ λj b=>io.mp b
theorem CM:∀{l:List Nat},av D φ α H (l.map λ(n:Nat)=>T.int (n:Int)) (l.map λ(n:Nat)=>V.int (n:Int))
 |[]=>rfl
 |n::r=>⟨.int n,_,rfl,rfl,CM⟩
theorem HK (C:Ck D W B X k) (hc:X.calm=ae) (P:("list":ao)∈B.G) (hg:B.gl "list"=.none) (j:("range":ao)∈B.G) (J:B.gl "range"=.none) (w:az a=ae) (ha:PE X a (aD D W f)) :
  PE X (.Call (.Name "list" p0) [.Call (.Name "range" p1) [a] [] p2] [] pos) (aD D W (ti f)):=by
 have R:=C.glo _ P;rw[hg] at R;have l:=C.glo _ j;rw[J] at l;rintro h s L H Q I ⟨A,M,S,U,Z,mr,p⟩;refine gn (qT I (C.glb _ P) R (u:=.type "list") (by decide +kernel) ?_);refine callWith_type1 (o2 (Call_ (qT I (C.glb _ j) l ry (callWith_type1 (aF (zF ha qg (z7 w) p2 h s L H (λN z=>∃(i:Int) (d:Mem) (c:List ak),N=[.int i]/\aw M H c z/\au D A c z d/\aq D W A c z L (RV D A Q) (RE.grd (0<=i/\i<=1000) (RE.ok (T.l ((dm i.toNat).map λ(n:Nat)=>T.int n)) d))) I ?_) ?_) (by rw[z7 w]) rfl))))
 .refine⟨A,M,S,U,Z,mr,p.bind.mono λx d c z F m1 O v1 d1=>?_⟩;cases x with
  |int i=>
   subst d1;exact⟨i,d,c,rfl,F,m1,O⟩
  |_=>exact aq.elim O
 .rintro us g ⟨N,z,K,rv,i,d,c,rfl,st,m,q⟩;cases rv with
  |cons r rr=>
   cases rr;obtain⟨t',rfl⟩:=r;obtain⟨⟨h0,h1⟩,q⟩:=q.grd;refine call_range_1 (oS ?_);have e1:oY 0 i 1=(i.toNat:Nat):=by rw[rangeSize_one];split<;>lia
   refine call_list_range (K.ok.hd hc) (rq ..) (small_one lC lC lC lC) e1 lC ?_;intro h' Y y c' kp e it;have I2:=K.laid (a:=(g.heap.push {cls:=.type "range",data:=.fields #[.int 0 g.toks,.int i t',.int 1 (g.toks+1)]}).objs.size) (o:=.l ((dm i.toNat).map λ(n:Nat)=>V.int (n:Int))) (t':=Y) (λb u e=>kp _ _ (bv _ e)) (by rw[fT];exact fD _) ⟨by simp only[aL,mT];rw[db];lia,y.toList,c',UQ (by simpa using it.1) (λn v hv=>?_),by simpa using e⟩
   .refine⟨.ref _,_,I2,rfl,?_⟩;have E:=K.hok.fresh (a:=(g.heap.push {cls:=.type "range",data:=.fields #[.int 0 g.toks,.int i t',.int 1 (g.toks+1)]}).objs.size) (by rw[fT];exact fD _);exact aq.fresh q m (ze E) ⟨_,_,rfl,zi m E,zh m E,.inl z0,(CM).step (aw.new (ze E))⟩
   .obtain⟨t,rfl⟩:=it.2 n v (by simpa using hv);exact⟨t,sC⟩
end
noncomputable def FK:ER:=λr c e=>(x_ e).bind λq=>(yS q.as).bind λa=>(x_ a).bind λg=>(yS g.as).bind λb=>gd (u_ c "list" q.x) λj=>gd (u_ c "range" g.x) λi=>(r.e c b).bind λf=>gd (az f.y&&c.calm) λh=>aa ⟨.Call (.Name "list" q.p0) [.Call (.Name "range" g.p0) [f.y] [] g.pc] [] q.pc,ti f.d,λC=>HK C (C.clm (zB h).2) (zP j).1 (zP j).2 (zP i).1 (zP i).2 (zB h).1 (f.ok C)⟩
end NH
namespace NH.P
open PySem L2 NH
noncomputable abbrev vF:List Ds:=[(zj 3 (zz 45 qo clz0 [clz2,clz4])),(zy (uC clz54 clz7)),(zf (z4 xg [clz54]))]
noncomputable def jD:Fn:=aQ 3 1 vF
noncomputable abbrev qY:List Ds:=[(zy (zz 45 qe clz0 [])),(zy (zz 45 qF clz0 [])),(zj 1 (zZ [clz38,(z4 VL [clz38,(zz 45 wI clz0 [])])])),(zy (zz 45 qA clz0 [clz6,clz41])),(zK clz0 19 (qP [])),(zf clz2)]
noncomputable def wH:Fn:=aQ 1 1 qY
noncomputable abbrev wC:List Ds:=[(zK clz2 11 (uQ 45 vt [clz36,(zD clz0 14),(zD clz0 15),(X8 1 1),(zD clz2 22)]))]
noncomputable def z_:Fn:=aQ 2 0 wC
noncomputable abbrev zY:List Ds:=[(aN (qd (tE (z4 yu [clz11]))) [(zE 17 [(eC (.str "a world has a dict of one clock for each of some holders"))])] []),(zK clz0 9 clz2),(zK clz0 14 clz4),(zK clz0 15 clz7),(zK clz0 23 (uQ 43 xF [clz2])),(zK clz0 24 (qP [])),(zK clz0 25 clz6),(zK clz0 26 QO),(vM (.one 5) (iD clz11) [(zj 6 (uQ 46 kR [(bV uS clz11 clz10)])),(zy (zz 47 z_ clz0 [clz13])),(qE clz53 clz10 clz13)])]
noncomputable def jV:Fn:=aQ 5 2 zY
noncomputable abbrev _root_.clz8:=eC (.str "lease")
noncomputable abbrev _root_.clz25:=eC (.str "back")
noncomputable abbrev _root_.clz29:=eC (.str "store")
noncomputable abbrev _root_.clz30:=eC (.str "take")
noncomputable abbrev _root_.clz31:=eC (.str "fall")
noncomputable abbrev _root_.clz34:=eC (.str "ask")
noncomputable abbrev _root_.clz46:=zD clz4 11
noncomputable abbrev _root_.clz48:=bq clz2 clz12
noncomputable abbrev _root_.clz49:=bq clz11 clz1
noncomputable abbrev _root_.clz57:=bq clz11 clz3
noncomputable abbrev wh:List Ds:=[(zj 2 (bV uS clz53 clz39)),(zj 3 (zz 41 jz (zD clz4 21) [clz35])),(aN (tE (zm .Eq clz37 clz34)) [(zf (zz 45 xS clz46 [clz7,clz48]))] []),(aN (tE (zm .Eq clz37 clz30)) [(zf (zz 45 uA clz46 [clz48]))] []),(aN (tE (zm .Eq clz37 clz29)) [(zy (zz 45 jD clz46 [clz7,clz48]))] [(aN (tE (zm .Eq clz37 clz8)) [(zy (zz 45 wu clz46 [(zz 43 ud (zD clz0 23) [clz39,clz48,clz7,(bq clz2 clz15)])]))] [(aN (tE (zm .Eq clz37 clz25)) [(zj 4 (zz 45 wH clz46 [])),(zy (zz 43 u3 (zD clz0 23) [clz57,clz49]))] [(aN (tE (zm .Eq clz37 clz31)) [(zy (zz 47 z_ clz0 [clz4]))] [(zK clz4 22 clz6),(zy (zz 47 z_ clz0 [clz4]))])])])]),(zf (qP []))]
noncomputable def zG:Fn:=aQ 2 3 wh
noncomputable abbrev jv:List Ds:=[(zy (zz 47 wL clz0 [clz2])),(zj 2 (zz 47 zG clz0 [clz2])),(zK clz0 25 clz35),(zy (pC (zD clz0 24) (qa 1 [1] (.one 0) (iE clz4) [] (zZ [clz35,clz39,clz0])))),(zf clz4)]
noncomputable def wO:Fn:=aQ 2 1 jv
noncomputable abbrev wW:List Ds:=[(zf (zz 43 jC (zD clz0 23) []))]
noncomputable def w9:Fn:=aQ 1 0 wW
noncomputable abbrev _root_.clz22:=eC (.int 12)
noncomputable abbrev jq:List Ds:=[(zj 4 (bq clz4 (z4 zq [clz0,(cB jZ clz4)]))),(zj 5 (z4 zq [clz0,clz22])),(zj 6 (za .Add clz1 (z4 zq [clz0,(ej vU clz50 clz22)]))),(aN (tE (zm .Lt clz10 clz5)) [(zj 7 (bq (za .Add (vK [clz6]) (ti clz45)) (z4 zq [clz0,(za .Add clz45 clz1)]))),(zf (zZ [clz8,clz2,clz11,clz17,(za .Add clz1 (z4 zq [clz0,(eC (.int 20))]))]))] []),(aN (tE (zm .Lt clz10 (eC (.int 7)))) [(zf (zZ [clz34,clz2,clz11,clz13]))] []),(aN (tE (zm .Lt clz10 (eC (.int 9)))) [(zf (zZ [(bq (vK [clz29,clz30]) (za .Sub clz10 (eC (.int 7)))),clz2,clz11,clz13]))] []),(zf (zZ [(bq (vK [clz25,clz31,(eC (.str "bare"))]) (za .Sub clz10 (eC (.int 9)))),clz2,clz11]))]
noncomputable def xP:Fn:=aQ 4 4 jq
noncomputable abbrev j8:List Ds:=[(zj 4 (vT 1 [3] (.one 0) (iE clz2) [] (zZ [clz8,clz2,clz0,clz6,clz22]))),(vM (.one 5) (iE clz0) [(zj 6 (z4 ke [clz10])),(zj 3 (za .Add clz7 (bq (vK [clz3,(z4 zq [clz13,clz12]),(z4 zq [clz13,clz22])]) (z4 zq [clz13,clz12])))),(zy (uC clz11 (z4 xP [clz13,clz7,clz2,clz4])))]),(zf clz11)]
noncomputable def k8:Fn:=aQ 4 3 j8
noncomputable abbrev _root_.clz14:=eC (.str "kept")
noncomputable abbrev _root_.clz16:=eC (.str "mark")
noncomputable abbrev _root_.clz19:=eC (.str "begun")
noncomputable abbrev _root_.clz20:=eC (.str "last")
noncomputable abbrev _root_.clz24:=eC (.str "notes")
noncomputable abbrev Zo:List Ds:=[(zj 2 (Y0 [(clz8,clz6),(clz16,clz6),(clz19,clz6),(clz20,clz6),(clz14,(vK [])),(clz24,clz2)])),(aN (tE (zm .IsNot clz0 clz6)) [(zy (UY clz4 (US [(clz8,clz42),(clz16,clz43),(clz19,clz43)])))] []),(zf clz4)]
noncomputable def jj:Fn:=aQ 2 1 Zo
noncomputable abbrev yq:List Ds:=[(aN (tE (zm .NotEq (zZ [clz2,clz4]) (zZ [(bV qD clz0 clz8),(bV qD clz0 clz16)]))) [(zy (uC (bV qD clz0 clz24) (zZ [clz2,clz4])))] []),(zy (UY clz0 (US [(clz8,clz2),(clz16,clz4)])))]
noncomputable def yG:Fn:=aQ 3 0 yq
noncomputable abbrev jf:List Ds:=[(aN (tE (zm .Is (bV qD clz0 clz8) clz6)) [(zf clz8)] []),(zj 6 (bV qD clz0 clz20)),(aN (wz (tE (zm .Is clz13 clz6)) (tE (zm .IsNot (bV qD clz0 clz19) clz6))) [(zj 6 (za .Sub (za .Mult (za .Mult (za .Add (bV qD clz0 clz19) clz1) clz35) clz39) clz1))] []),(zj 7 (z4 VX [clz2,(bV qD clz0 clz8),clz13,clz11,clz10])),(aN (tE (zm .Is clz17 clz6)) [(zf clz8)] []),(zj 8 (bq (z4 kM [clz2,(bq clz17 (Kf clz1))]) clz3)),(aN (tE (zm .Gt clz21 (za .Add clz11 clz4))) [(zf (zZ [(eC (.str "wait")),(za .Sub (za .Sub clz21 clz11) clz4)]))] []),(aN (d_ (tE (zm .Is (bV qD clz0 clz16) clz6)) (tE (zm .Gt clz21 (bV qD clz0 clz16)))) [(zy (z4 yG [clz0,(bV qD clz0 clz8),(ej vU (za .Add clz21 clz7) (za .Sub clz37 clz1))]))] []),(qE clz0 clz20 (bq clz17 (Kf clz1))),(zf clz17)]
noncomputable def yb:Fn:=aQ 6 3 jf
noncomputable abbrev vh:List Ds:=[(aN (tE (zm .Is (bV qD clz0 clz8) clz6)) [(zf clz8)] []),(zj 2 (bV qD clz0 clz8)),(zj 3 (bV qD clz0 clz19)),(aN (tE (zm .IsNot (bV qD clz0 clz20) clz6)) [(zj 3 (bq (z4 kM [clz2,(bV qD clz0 clz20)]) clz3))] []),(zj 4 clz6),(aN (wz (tE (zm .IsNot clz7 clz6)) (tE (zm .GtE clz7 clz61))) [(zj 4 (ej vU clz7 (za .Sub clz59 clz1)))] []),(zy (z4 yG [clz0,clz6,(bV qD clz0 clz16)])),(qE clz0 clz14 (vK [])),(zf (zZ [clz4,clz11]))]
noncomputable def uN:Fn:=aQ 2 3 vh
noncomputable abbrev Ze:List Ds:=[(aN (tE (zm .Eq clz0 clz3)) [(zj 7 (z4 yb [clz2,clz4,clz7,clz11,clz10,clz13])),(aN (tE (w_ [5] clz17)) [(qE clz2 clz14 (vK []))] []),(zf clz17)] []),(aN (tE (zm .Eq clz0 clz1)) [(zj 7 (z4 yb [clz2,clz4,clz7,clz11,clz10,clz13])),(aN (tE (w_ [5] clz17)) [(qE clz2 clz14 (za .Add (bV qD clz2 clz14) clz17)),(zf (cB jZ (bV qD clz2 clz14)))] []),(zf clz17)] []),(aN (tE (zm .Eq clz0 clz5)) [(aN (tE (zm .Gt clz13 (cB jZ (bV qD clz2 clz14)))) [(zf (eC (.str "empty")))] []),(zj 7 (hQ (bV qD clz2 clz14) pN (pS clz13))),(qE clz2 clz14 (hQ (bV qD clz2 clz14) (pS clz13) pN)),(zf clz17)] []),(zf (z4 uN [clz2,clz4]))]
noncomputable def qM:Fn:=aQ 7 1 Ze
end NH.P
namespace NH
open PySem PySem.Spec PyProof.Rows L2
noncomputable def Gc:ER:=λr a e=>gd (a.own.contains ("[+]":ao)) λ_=>Xq r a e
noncomputable abbrev Yh(o f:De):De:=λc d=>(o c d).bind λot b=>match ot with
 |.l e=>(f c b).bind λt a=>match t with
  |.str w=>λK _=>∃p:List ao×Nat,cY e=aa p.1/\(p.2<1000/\p.1[p.2]?=aa w/\∀u∈p.1.take p.2,u≠w)/\K (.int p.2) a
  |_=>.st
 |_=>.st
noncomputable def tW(w:ao)(v:ai):Bool:=match v with|.str s _=>s==w|_=>ag
section
theorem yD:∀{b:List ao}{us:List ai}{j:Nat}{u:ai},aE (b.map V.str) us->us[j]?=aa u->∃w t,b[j]?=aa w/\u=.str w t
 |[],_,j,u,.nil,h=>by simp at h
 |w::b,_,0,u,.cons r q,h=>by obtain⟨t,rfl⟩:=r;cases aZ h;exact⟨w,t,rfl,rfl⟩
 |w::b,_,j+1,u,.cons r q,h=>by
  obtain⟨a,t,d,c⟩:=yD q (by simpa using h);exact⟨a,t,by simpa using d,c⟩
theorem Wq:∀{a:List ao}{us:List ai},aE (a.map V.str) us->us.length=a.length
 |[],_,.nil=>rfl
 |w::a,_,.cons r q=>by rw[eG,Wq q];rfl
theorem JT:wn X "list.index" (λx vs H Q=>∃(l:ak) (e:List V) (d:List ao) (j:Nat) (w:ao),x=.ref l/\vs=[.str w]/\Rd H l (.l e)/\e=d.map V.str/\j<1000/\d[j]?=aa w/\(∀u∈d.take j,u≠w)/\Q (.int j) H):=by
 intro o s O H x vs v P Q I D E h;obtain⟨l,e,d,j,w,rfl,rfl,L,rfl,S,A,M,q⟩:=h;subst D;obtain⟨R,rfl,G⟩:=vals1 E;obtain⟨k,rfl⟩:=G;obtain⟨a,r,J,_⟩:=I.list (.inl L);obtain⟨⟨cls,dd,B,C⟩,z,K,n,hd⟩:=J.isList;subst K hd;obtain⟨N,T⟩:=aO.mp A;have p:j<a.length:=(Wq r)▸N;have at_:∀m (b:m<a.length),∃u t,d[m]?=aa u/\a[m]=.str u t:=λm b=>yD r (dO b)
 refine oa F.slot_list_index ⟨_,z,rfl⟩ F.entry_list_index (F.args_list_index_2 _ _) (SeqAt.list_indexAt l _ n dd C (.str w k) (tW w) j (by simpa using p) lC ?_ λm b g=>?_) ⟨z,λy f=>?_,?_⟩
 .obtain⟨u,t,c,i⟩:=at_ j p
  rw[A] at c;(replace c:=zo c;subst c);simp[tW,i]
 .have b:m<a.length:=by simpa using b
  obtain⟨u,t,c,i⟩:=at_ m b
  have:=M u (aS ((BP g)▸c));simp[tW,i,this]
 .have f:y∈a:=by simpa using f
  obtain⟨m,b⟩:=dD.mp f;obtain⟨u,t,_,rfl⟩:=yD r b;exact AY u t w k
 .exact⟨.int _,H,I.tok _,⟨_,rfl⟩,q⟩
set_option tactic.hygienic true in
theorem MR{P:List ap}{po:Pos}(M:o=.List P po)(hs:az a=ae)(b:(pa.endLine==pc.line)=ae)(ho:PE X o (aD D W go))(O:PE X a (aD D W f)) :
  PE X (.Call (.Attribute o "index" pa) [a] [] pc) (aD D W (Yh go f)):=by
 have s:cU [a] X.env=[(ag,eval a X.env)]:=z7 hs;subst M;refine PE.mono (YO sS PySem.F.slot_list_index PySem.F.type_list_index JT ho (zF O qg (z7 hs)) rfl (by rw[s];rfl) b (z7 hs) (qz (by rfl))) ?_;rintro T H Q ⟨u,E,x,C,y,G,p⟩;refine⟨u,E,x,C,y,G,p.bind.mono λot g i H1 m J q Y A=>?_⟩;cases ot with
 |l V=>
  obtain⟨ad,U,rfl,n1,Z,rd,l⟩:=id A;refine⟨.inl ⟨rfl,_,.inl rd⟩,u,i,x,g,y.step m,J,q.bind.mono λt B h S k I c v d=>?_⟩;obtain⟨R,j,e,_,_,n,K⟩:=A.step k;(injection e with e;subst e);split at c
  .rename_i w;obtain⟨K0,Z0,⟨z,N,r,c⟩,L,k2⟩:=c;subst d;exact⟨ad,j,z.1,z.2,w,rfl,rfl,n,jK N K,r.1,r.2.1,r.2.2,L _ _ c h S (aw.refl _ _) I _ rfl⟩
  .exact aq.elim c
 |_=>exact aq.elim q
end
noncomputable def E5:(e:ap)->Option {q:List ap×Pos // e=.List q.1 q.2}
 |.List a p=>aa ⟨(a,p),rfl⟩
 |_=>af
noncomputable def Ft:ER:=λr b e=>(yp e).bind λq=>(yS q.as).bind λa=>gd (q.m==("index":ao)) λ_=>(r.e b q.o).bind λf=>(E5 f.y).bind λw=>(r.e b a).bind λg=>gd (az g.y&&q.pa.endLine==q.pc.line) λh=>aa ⟨.Call (.Attribute f.y "index" q.pa) [g.y] [] q.pc,Yh f.d g.d,λC=>MR w.2 (zB h).1 (zB h).2 (f.ok C) (g.ok C)⟩
end NH
namespace NH.P
open PySem L2 NH
noncomputable abbrev W9:List Ds:=[(vM (.one 4) (iE clz0) [(aN (wz (tE (zm .Eq clz49 clz2)) (tE (zm .Lt (ej jG (bq clz11 clz5) clz4) (ej vU (bq clz11 clz12) (za .Add clz4 clz7))))) [(zf clz9)] [])]),(zf clz23)]
noncomputable def Xe:Fn:=aQ 4 1 W9
noncomputable abbrev _root_.clz58:=bq clz0 clz12
noncomputable abbrev jb:List Ds:=[(zj 4 (ej jG clz11 clz3)),(zj 7 (qa 1 [3] (.one 0) (iE (cB JI (za .Add (qP [clz11]) (qa 1 [4] (.one 0) (iE clz0) [(tE (zm .Gt clz58 clz2))] clz58)))) [] (zZ [clz2,clz0]))),(aN (tE (zm .Is clz7 clz6)) [(zj 7 (qa 1 [4] (.one 0) (Uy clz35) [] (zZ [clz0,clz2])))] []),(vM (.t [6,8]) (iE clz17) [(aN (wz (tE (zm .LtE (za .Add clz21 clz10) clz37)) (tE (z4 Xe [clz0,clz13,clz21,clz10]))) [(zy (uC clz0 (qP [clz4,clz13,clz21,(za .Add clz21 clz10),clz9]))),(zf (zZ [clz13,clz21,(za .Add clz21 clz10)]))] [])]),(zf clz6)]
noncomputable def ZN:Fn:=aQ 6 3 jb
noncomputable abbrev ZF:List Ds:=[(vM (.one 3) (iE clz0) [(aN (wz (tE (zm .Eq (cB xk (hQ clz7 (pS clz1) (pS clz15))) clz2)) (qd (tE (bq clz7 clz15)))) [(qE clz7 clz15 clz23),(qE clz7 clz12 clz50),(aN (tE (zm .IsNot clz4 clz6)) [(qE clz7 clz12 (za .Add clz4 clz1))] []),VO] [])])]
noncomputable def Qi:Fn:=aQ 3 1 ZF
noncomputable abbrev Zy:List Ds:=[(tD [(zf (zz 47 wO clz0 [clz2]))] [([21],aa 2,[(zf (zZ [(eC (.str "wait")),(YR 21 29 clz4)]))]),([18],af,[(zf clz8)]),([19],af,[(zf (eC (.str "ended")))]),([22],af,[(zf (eC (.str "empty")))])])]
noncomputable def Qp:Fn:=aQ 2 1 Zy
noncomputable abbrev _root_.clz33:=eV 12
noncomputable abbrev vq:List Ds:=[(Wt [6,7,8] (hQ clz0 pN (pS clz12))),(zj 9 (bV uS clz2 clz21)),(aN (tE (zm .Eq clz13 clz8)) [(zj 10 (z4 ZN [clz4,clz7,clz21,clz58,clz10,(bq clz0 clz15)])),(aN (tE (zm .Is clz28 clz6)) [(zf (eC (.str "ended")))] []),(zy (z4 yG [(eV 9),clz28,(bV qD (eV 9) clz16)])),(zf (qP []))] []),(aN (tE (zm .Eq clz13 (eC (.str "bare")))) [(qE clz2 clz21 (z4 jj [clz6,(qP [])])),(zf (qP []))] []),(aN (tE (zm .Eq clz13 clz31)) [(qE clz2 clz21 (z4 jj [(bq (za .Add (vK [clz6]) (bV qD (eV 9) clz24)) (Kf clz1)),(bV qD (eV 9) clz24)])),(zf (qP []))] []),(zj 11 (Yh (vK [clz34,clz29,clz30,clz25]) clz13)),(zj 12 (z4 qM [clz27,(eV 9),clz7,clz57,clz49,clz10,(bq clz0 (Kf clz1))])),(aN (wz (tE (zm .Eq clz13 clz25)) (tE (w_ [4] clz33))) [(zy (z4 Qi [clz4,(bq clz33 clz3),(bq clz33 clz1)])),(zf (qP []))] []),(aN (tE (w_ [2] clz33)) [(zf (qP []))] []),(zf clz33)]
noncomputable def zw:Fn:=aQ 6 7 vq
noncomputable abbrev _root_.clz26:=eV 15
noncomputable abbrev _root_.clz32:=eV 17
noncomputable abbrev qu:List Ds:=[(zj 1 (z4 ke [(z4 ji [clz0,clz3])])),(zj 2 (bq (vK [clz3,(za .Pow (eC (.int 10)) clz22)]) (z4 zq [clz2,clz5]))),(zj 3 (zZ [(za .Add (za .Add clz4 (eC (.int 60))) (z4 zq [clz2,(eC (.int 200))])),(za .Add clz1 (z4 zq [clz2,clz15])),(za .Add clz1 (z4 zq [clz2,clz22]))])),(zj 4 (zZ [(z4 zq [clz2,clz15]),(bq (vK [clz3,(z4 zq [clz2,(eC (.int 6))])]) (z4 zq [clz2,clz5]))])),(zj 5 (za .Add clz4 (z4 zq [clz2,(eC (.int 40))]))),(zj 6 (vK [(eC (.str "one")),(eC (.str "ones")),(eC (.str "a")),(eC (.str "b")),(eC (.str "bees")),(eC (.str "c")),(eC (.str "two")),(eC (.str "twos"))])),(zj 6 (hQ clz13 pN (pS (za .Add clz1 (bq (vK [(z4 zq [clz2,clz12]),(z4 zq [clz2,(eC (.int 8))])]) (cB Uv (zm .Eq (z4 zq [clz2,(eC (.int 8))]) (eC (.int 7))))))))),(zj 7 QO),(vM (.t [8,9]) (U3 clz13) [(qE clz17 (eV 9) (z4 jo [(z4 ke [(z4 ji [clz0,(za .Add clz1 clz21)])]),clz10]))]),(zj 10 (cB fK (qa 2 [] (.t [0,1]) (pE clz17) [] (zZ [clz0,(uQ 41 jI [clz37,clz35])])))),(zj 11 (uQ 47 jV [(mn 40 yX [clz51,clz45,clz50]),clz57,clz49,clz28])),(zj 12 (cB fK (qa 1 [] (.one 0) (iE clz13) [] (zZ [clz0,(z4 jj [clz6,(qP [])])])))),(zj 13 (qP [])),(zj 14 (qP [])),(vM (.one 15) (iE (z4 k8 [(za .Add (vK [(z4 ji [clz0,clz15])]) (hQ clz0 (pS (eC (.int 5))) (pS (eC (.int 35))))),clz13,clz7,clz10])) [(zj 16 (z4 xh [(bV uS clz17 (bq clz26 clz5)),(bq clz26 clz1)])),(zj 17 (z4 zw [clz26,clz33,(eV 13),clz7,clz11,(eV 16)])),(aN (tE (zm .NotEq (z4 Qp [clz27,clz26]) clz32)) [(zf clz9)] []),(aN (tE (w_ [5] clz32)) [(zj 14 (za .Add (eV 14) (qa 1 [15] (.one 0) (iE clz32) [] (zZ [clz35,clz39,clz0]))))] [])]),(zf (kY (zm .Eq (zz 47 kn clz27 []) (eV 14)) (zm .Eq (zz 47 w9 clz27 []) (qa 1 [] (.one 0) (iE (eV 13)) [] (cB xk (hQ clz0 pN (pS clz15)))))))]
noncomputable def Q9:Fn:=aQ 1 17 qu
end NH.P
namespace NH
open PySem PySem.Spec PyProof.Rows L2 PySem.W
inductive Rk where
 |fn
 |met (c:Nat) (y:ao->ao)
 |mk (c:Nat) (b:Bool)
structure Rw where
 k:Rk
 s:aV
 ds:List Ds
 own:List ao
 lam:Option (Nat×List Pos)
 fz:List ao
noncomputable abbrev rw(k:Rk)(s:aV)(ds:List Ds)(own:List ao:=[])(lam:Option (Nat×List Pos):=af)(fz:List ao:=[]):Rw:=⟨k,s,ds,own,lam,fz⟩
noncomputable def GL(s:aV):ao:=match s with
 |.FunctionDef x _ _ _ _ _ _ _ _ _=>x
 |_=>""
noncomputable def fdOf (o:Option bj):FuncData:=match o with
 |some ⟨_,_,.func fd,_⟩=>fd
 |_=>default
noncomputable def refOf(o:Option (Option ai)):ak:=match o with
 |some (aa (.ref a))=>a
 |_=>0
noncomputable def UA(o:Option (Option ai)):Bool:=match o with
 |some (aa (.ref _))=>ae
 |_=>ag
theorem VR{o:Option (Option ai)}(h:UA o=ae):o=aa (aa (.ref (refOf o))):=by
 unfold UA at h;split at h
 .rfl
 .injection h
noncomputable def tQ (s:aV)(p:ia->Bool):List ao:=((qy s).names.filter λy=>p y.2).map (·.1)
noncomputable def nB (s:aV):List ao:=j3 s++(tQ s λy=>y==.local || y==.cell).drop (j3 s).length
noncomputable def vl:Nat->(Nat->ai)->List ai
 |0,_=>[]
 |n+1,v=>v 0::vl n λi=>v (i+1)
theorem C4:∀us:List ai,vl us.length (λi=>us.getD i .none)=us
 |[]=>rfl
 |a::r=>congrArg (a::·) (C4 r)
structure Rc where
 R:cR
 cs:List (Nat×ao)
 xs:List (Nat×ao)
 cls:List (ao×Nat)
 fld:List (ao×Nat)
 tb:List (ak×List Pos×ao)
section
variable (Y:Rc)(K:Frag)
noncomputable def adr (x:ao):ak:=refOf (nsIn K cO x)
noncomputable def Rc.A:gO:=⟨Y.xs.map λp=>(p.1,adr K p.2),Y.cs.map λp=>(p.1,adr K p.2)⟩
noncomputable def Rc.nm(c:Nat):ao:=(Y.cs.lookup c).getD ""
variable (r:Rw)
noncomputable def Rw.x:ao:=GL r.s
noncomputable def Rw.q:ao:=match r.k with
 |.fn=>r.x
 |.met c _|.mk c _=>Y.nm c++(".":ao)++r.x
noncomputable def Rw.f:Fn:=aQ (j3 r.s).length ((nB r.s).length-(j3 r.s).length) r.ds
noncomputable def Rw.en:ao×GM:=match r.k with
 |.fn=>(r.x,.fn r.f)
 |.met c y=>(y r.x,.met c r.x r.f)
 |.mk c b=>(Y.nm c,.mk c b r.f)
noncomputable def Rw.cx(gs:List (ao×GM))(fz:List ao):Cn:={NH.cn Y.cls Y.fld gs (nB r.s) ((tQ r.s (· == .globalImplicit)).filter λx=>(gs.map (·.1)).contains x) (tQ r.s (· == .cell)) r.own r.lam with fz}
noncomputable def Rw.ct:Nat:=if r.fz.isEmpty then (zV r.s).length else 0
noncomputable def Rw.ok(gs:List (ao×GM)):Bool:=yJ (r.cx Y gs r.fz) (j3 r.s) (qy r.s)&&!((r.en Y).1==("__debug__":ao))&&lP (j3 r.s).length (nB r.s).length&&!nU.contains r.x
noncomputable abbrev Bq:=Option (List aV×List Ds)
noncomputable def eZ:List Rw->List (ao×GM)->List (Bq×Bq×Bool)
 |[],_=>[]
 |r::l,a=>(iz Y.R 60 (r.cx Y a []) ((zV r.s).take r.ct),iz Y.R 60 (r.cx Y a r.fz) ((zV r.s).drop r.ct),r.ok Y a)::eZ l (r.en Y::a)
noncomputable def yr:List Rw->List (Bq×Bq×Bool)
 |[]=>[]
 |r::l=>(aa ((zV r.s).take r.ct,r.ds.take r.ct),aa ((zV r.s).drop r.ct,r.ds.drop r.ct),ae)::yr l
noncomputable def Km:List Rw->List (ao×GM)->List (ao×GM)
 |[],a=>a
 |r::l,a=>Km l (r.en Y::a)
noncomputable def Rw.at:Option (Option ai):=match r.k with
 |.fn=>nsIn K cO r.x
 |.met c _=>cP K (.ref (adr K (Y.nm c))) r.x
 |.mk c _=>cP K (.ref (adr K (Y.nm c))) "__init__"
noncomputable def Rw.ad:ak:=refOf (r.at Y K)
noncomputable def Rw.ob:bj:=(K.lookup (r.ad Y K)).getD default
noncomputable def Rw.fd:FuncData:=fdOf (aa (r.ob Y K))
noncomputable def Rw.lm:Bool:=match r.lam with
 |none=>ae
 |some (j,_)=>match (r.fd Y K).code,Y.tb[j]? with
  |.ref c,aa (P,_,_)=>lK K c P
  |_,_=>ag
noncomputable def Rw.kb:Bool:=gV K (r.fd Y K).code (r.q Y)&&gY K (.ref (r.ad Y K))&&isFn K (.ref (r.ad Y K))&&r.lm Y K&&UA (r.at Y K)&&match r.k with
 |.mk c _=>rk K (adr K (Y.nm c))&&gY K (.ref (adr K (Y.nm c)))&&UA (nsIn K cO (Y.nm c))&&Y.cs.any (·.1==c)
 |.met c _=>Y.cs.any (·.1==c)
 |.fn=>ae
noncomputable abbrev Kq:=Option bj×Bool×(Setting->(Nat->ai)->Option (List (ao×ai)))×Option (Option (List Pos×ao))
noncomputable def Rw.fx:FuncData:=fnOf r.x (r.q Y) (vC r.s) (zV r.s) (qy r.s) (r.fd Y K).defaults (r.fd Y K).kwdefaults (r.fd Y K).doc (r.fd Y K).pyModule (r.fd Y K).annotations (r.fd Y K).code (r.fd Y K).closureTuple
noncomputable def Vi:List Rw->List Kq
 |[]=>[]
 |r::l=>(K.lookup (r.ad Y K),r.kb Y K,λS v=>peek K S (mH (r.fx Y K) ⟨vl (j3 r.s).length v,[]⟩),r.lam.map λt=>Y.tb[t.1]?.map (·.2))::Vi l
noncomputable def yI:List Rw->List Kq
 |[]=>[]
 |r::l=>(aa ⟨(r.ob Y K).cls,(r.ob Y K).dict,.func (r.fx Y K),(r.ob Y K).slots⟩,ae,λS v=>aa ((j3 r.s).zip (vl (j3 r.s).length v)),r.lam.map λt=>aa (t.2,r.q Y++".<locals>."++"<lambda>"))::yI l
end
section
variable {Y:Rc}{P:Program}{w:World}{K:Frag}{mg:ao->Option ai}{base:aG}{clo:Nat->ak->Option HO->List V->Prop}{gs:List (ao×GM)}{k:Nat}{r:Rw}{l:List Rw}
structure Pq(Y:Rc)(K:Frag)(mg:ao->Option ai)(base:aG):Prop where
 i:K.In base
 n:base.Ns cO mg
 c:mq K (Y.A K) Y.cls Y.fld=ae
 t:∀t∈Y.tb,base.BuiltinsAt mg t.1
abbrev lH(Y:Rc)(P:bL)(w:dh)(K:Frag)(mg:ao->Option ai)(base:aG)(clo:Nat->ak->Option HO->List V->Prop)(k:Nat)(gs:List (ao×GM)):Prop:=bT P w K mg base (Y.A K) clo k gs λj=>Y.tb[j]?
theorem pQ{c:Nat}:∀{l:List (Nat×ao)},l.any (·.1==c)=ae->(l.map λp=>(p.1,adr K p.2)).lookup c=aa (adr K ((l.lookup c).getD ""))
 |[],h=>by injection h
 |(i,x)::l,h=>by
  rw[cC,eU,eU];rw[lY,oQ] at h;cases q:c==i with
  |true=>rfl
  |false=>
   refine pQ (h.resolve_left λz=>?_);have z:i=c:=beq_iff_eq.mp z;simp[z] at q
set_option tactic.hygienic true in
theorem Rw.fnk(Z:Pq Y K mg base)(q:lH Y P w K mg base clo k gs)(h2:2<=k) 
  (o:iz Y.R 60 (r.cx Y gs []) ((zV r.s).take r.ct)=aa ((zV r.s).take r.ct,r.ds.take r.ct)) (l:iz Y.R 60 (r.cx Y gs r.fz) ((zV r.s).drop r.ct)=aa ((zV r.s).drop r.ct,r.ds.drop r.ct)) (h:yJ (r.cx Y gs r.fz) (j3 r.s) (qy r.s)=ae) (u:(j3 r.s).length<=(nB r.s).length)
  (a:K.lookup (r.ad Y K)=aa ⟨(r.ob Y K).cls,(r.ob Y K).dict,.func (r.fx Y K),(r.ob Y K).slots⟩) (c:gV K (r.fd Y K).code (r.q Y)=ae) (m:r.lm Y K=ae) (t:(r.lam.map λt=>Y.tb[t.1]?.map (·.2))=r.lam.map λt=>aa (t.2,r.q Y++".<locals>."++"<lambda>")) :
  bF P w K mg base (dB P w) (k+1) (r.ad Y K) (r.fx Y K) (j3 r.s) (fJ (hM K (Y.A K) clo λj=>Y.tb[j]?) (j3 r.s).length r.f):=by
 refine Ik (GR (C6 Z.i Z.n Z.c q)) a c h (by show (nB r.s).length=_;lia) o l λj b e=>⟨h2,?_⟩;have e:r.lam=aa (j,b):=e;unfold Rw.lm at m;rw[e] at m t;dsimp only at m;split at m
 .rename_i c p g d hc ht;have t:=aZ t;dsimp only at t;rw[ht] at t;cases t;exact⟨c,p,hc,codeHd_of_K Z.i m,Z.t _ (aS ht),ht⟩
 .injection m
structure Rw.Has(Y:Rc)(P:Program)(w:World)(K:Frag)(mg:ao->Option ai)(base:aG)(clo:Nat->ak->Option HO->List V->Prop)(k:Nat)(r:Rw)(l:List Rw)(gs:List (ao×GM)):Prop where
 f:bF P w K mg base (dB P w) (k+1) (r.ad Y K) (r.fx Y K) (j3 r.s) (fJ (hM K (Y.A K) clo λj=>Y.tb[j]?) (j3 r.s).length r.f)
 b:Binds K (r.fx Y K) (j3 r.s) []
 at_:r.at Y K=aa (aa (.ref (r.ad Y K)))
 g:lH Y P w K mg base clo (k+2) (r.en Y::gs)
 gl:eZ Y l (r.en Y::gs)=yr l
 el:Vi Y K l=yI Y K l
theorem Rw.step(Z:Pq Y K mg base)(h2:2<=k)(g:eZ Y (r::l) gs=yr (r::l))(e:Vi Y K (r::l)=yI Y K (r::l))(q:lH Y P w K mg base clo k gs):r.Has Y P w K mg base clo k l gs:=by
 obtain⟨g,gl⟩:=rJ g;obtain⟨e,el⟩:=rJ e;obtain⟨H,g⟩:=gZ g;obtain⟨G,d⟩:=gZ g;obtain⟨lk,e⟩:=gZ e;obtain⟨kb,e⟩:=gZ e;obtain⟨bn,t⟩:=gZ e;simp only[Rw.ok,bW,l5] at d;obtain⟨⟨⟨d,E⟩,D⟩,C⟩:=d;simp only[Rw.kb,bW] at kb;obtain⟨⟨⟨⟨⟨k1,k2⟩,k3⟩,z⟩,a⟩,k5⟩:=kb;replace a:r.at Y K=aa (aa (.ref (r.ad Y K))):=VR a;have F:=Rw.fnk Z q h2 H G d (sH D) lk k1 z t;have B:Binds K (r.fx Y K) (j3 r.s) []:=λs us X f=>by
  rw[eO] at f ⊢;refine kp_binds X λS=>?_;have:=congrFun (congrFun bn S) λi=>us.getD i .none;rw[<-f,C4] at this;exact this
 refine⟨F,B,a,bT.add (q.mono (Nat.le_add_right k 2)) ?_ E,gl,el⟩;have m:∀i,(hM K (Y.A K) clo λj=>Y.tb[j]?).fn i≠aa r.x:=λi h=>by
  have:=gp.mpr (aS h);rw[C] at this;injection this
 unfold Rw.at at a;revert a k5;cases r.k with
 |fn=>exact λ_ a=>⟨_,gP Z.i Z.n a,_,_,k+1,k2,B,fD _,F,Q1⟩
 |met c y=>exact λk5 a=>⟨_,_,_,_,k+1,pQ k5,Io Z.c (pQ k5),⟨a,k3,k2⟩,m,B,fD _,F,Q1⟩
 |mk c b=>
  exact λk5 a=>by
   simp only[bW] at k5;obtain⟨⟨⟨v,u⟩,p⟩,o⟩:=k5;exact⟨_,_,_,_,k+1,pQ o,gP Z.i Z.n (VR p),⟨v,a,k3,u⟩,B,aK _,F,Q1⟩
theorem gG(Z:Pq Y K mg base):∀(l:List Rw) {k:Nat}{gs:List (ao×GM)},2<=k->eZ Y l gs=yr l->Vi Y K l=yI Y K l->lH Y P w K mg base clo k gs->lH Y P w K mg base clo (k+2*l.length) (Km Y l gs)
 |[],_,_,_,_,_,q=>q
 |r::l,k,gs,a,g,e,q=>by
  have t:=r.step Z a g e q;have:=gG Z l (Nat.le_add_right_of_le a) t.gl t.el t.g;rw[show k+2+2*l.length=k+2*(r::l).length by rw[eG];lia] at this;exact this
noncomputable def Dy(a:List (ao×Int))(b:List (ao×ao)):List (ao×GM):=a.map (λp=>(p.1,.cst (.int p.2)))++b.map λp=>(p.1,.cst (.str p.2))
noncomputable def t7(K:Frag)(a:List (ao×Int))(b:List (ao×ao)):Bool:=a.all (λp=>p.1 != ("__debug__":ao)&&match nsIn K cO p.1 with
 |some (aa (.int i _))=>i==p.2
 |_=>ag)&&b.all λp=>p.1 != ("__debug__":ao)&&match nsIn K cO p.1 with
 |some (aa (.str i _))=>i==p.2
 |_=>ag
theorem LD{A:gO}{tabs:Nat->Option (ak×List Pos×ao)}{a:List (ao×Int)}{b:List (ao×ao)}(X:K.In base)(N:base.Ns cO mg)(h:t7 K a b=ae):bT P w K mg base A clo k (Dy a b) tabs:=λp g=>by
 simp only[t7,bW,eP,bne_iff_ne] at h;rcases bf.mp g with z|z
 .obtain⟨x,d,rfl⟩:=ba.mp z;obtain⟨f,c⟩:=h.1 x d;split at c
  .rename_i e;exact⟨⟨_,.int x.2,gP X N (beq_iff_eq.mp c▸e),⟨_,rfl⟩,λ_ _ _=>rfl⟩,beq_eq_false_iff_ne.mpr f⟩
  .injection c
 .obtain⟨x,d,rfl⟩:=ba.mp z;obtain⟨f,c⟩:=h.2 x d;split at c
  .rename_i e;exact⟨⟨_,.str x.2,gP X N (beq_iff_eq.mp c▸e),⟨_,rfl⟩,λ_ _ _=>rfl⟩,beq_eq_false_iff_ne.mpr f⟩
  .injection c
theorem bT.app{A:gO}{tabs:Nat->Option (ak×List Pos×ao)}{a b:List (ao×GM)}(x:bT P w K mg base A clo k a tabs)(y:bT P w K mg base A clo k b tabs):bT P w K mg base A clo k (a++b) tabs:=λp c=>(bf.mp c).elim (x p) (y p)
noncomputable def tu (K:Frag)(A:gO)(bs:List ao)(xs:List (ao×Nat))(a:List (ao×Nat×Nat)):Bool:=
 bs.all (λx=>x != ("__debug__":ao)&&Xf (nsIn K cO x))&&
 xs.all (λx=>x.1 != ("__debug__":ao)&&pT K A x.1 x.2&&lR K ((A.xs.lookup x.2).getD 0) qU "ValueError.__new__")&&a.all (λx=>x.1 != ("__debug__":ao)&&pT K A x.1 x.2.1)
theorem K6{A:gO}{tabs:Nat->Option (ak×List Pos×ao)}(X:K.In base)(f:base.Ns cO mg)(h:tu K A bs xs j=ae):bT P w K mg base A clo k (Jg bs xs j) tabs:=by
 simp only[tu,bW,eP,bne_iff_ne] at h;intro p i;rcases bf.mp i with z|z
 .rcases bf.mp z with z|z
  .obtain⟨x,a,rfl⟩:=ba.mp z;obtain⟨c,b⟩:=h.1.1 x a;exact⟨mg_none_of X f (Qk b),beq_eq_false_iff_ne.mpr c⟩
  .obtain⟨x,a,rfl⟩:=ba.mp z;obtain⟨⟨c,b⟩,g⟩:=h.1.2 x a;obtain⟨C,d,e⟩:=Ye X f b;rw[d] at g;exact⟨⟨C,d,e,g⟩,beq_eq_false_iff_ne.mpr c⟩
 .obtain⟨x,a,rfl⟩:=ba.mp z;obtain⟨c,b⟩:=h.2 x a;obtain⟨C,d,e⟩:=Ye X f b;exact⟨⟨C,d,e⟩,beq_eq_false_iff_ne.mpr c⟩
noncomputable def Rw.cd(Y:Rc)(K:Frag)(r:Rw):ak:=refOf (aa (aa (r.fd Y K).code))
end
end NH
namespace NH.K93
open PySem PySem.Spec PyProof.Rows L2 NH NH.P
section
noncomputable def st(i:Nat):aV:=PySem.Challenge.pw_namehouses_k93_whole_what_a_world_gives.main.body.getD i (.Pass ⟨0,0,0,0⟩)
noncomputable def cls:List (ao×Nat):=[("Clock",41),("Empty",22),("Ended",19),("NoLease",18),("Wait",21),("bool",1),("dict",6),("int",2),("list",5),("str",3),("tuple",4)]
noncomputable def fld:List (ao×Nat):=[("moments",0),("houses",1),("counts",2),("start",3),("turns",4),("holder",5),("lease",6),("until",7),("is_cut",8),("shape",9),("grants",10),("house",11),("begin",12),("end",13),("ahead",14),("stride",15),("keeper",16),("mark",17),("newest",18),("batches",19),("has_fallen",20),("clock",21),("kept",22),("common",23),("given",24),("now",25),("seats",26),("by",29)]
noncomputable def RU:cR:=⟨[Gc,Ft,FK,Gs,GX,FI,Fl,Gx,Gq,FJ,EX,GF,FP,G2,G3,EJ,F3,ED,EZ,Ep,GG,GI,EU,Et,EY,Gf,EQ,FF,GQ,Gz,Fc,Ez,Fk,EE,LU],[F9,F7,G7],[GA,Na,Gb,G4,LK,Nb],[Hy,Xq,G9,HJ,IH,M_],[IV,LN,FG,Im,G0]⟩
noncomputable def xs:List (Nat×ao):=[(10,"HouseError"),(12,"NoShape"),(13,"NoName"),(15,"NoClock"),(16,"NoTime"),(17,"NoHolder"),(18,"NoLease"),(19,"Ended"),(20,"TooMany"),(21,"Wait"),(22,"Empty"),(23,"NoNote"),(24,"Fallen"),(25,"NoRow"),(26,"Backward")]
noncomputable def cs:List (Nat×ao):=[(40,"Shape"),(41,"Clock"),(42,"Grant"),(43,"Common"),(44,"Batch"),(46,"Seat"),(45,"House"),(47,"World")]
noncomputable def bs:List ao:=["ValueError","all","bool","dict","enumerate","int","isinstance","len","list","max","min","range","reversed","sorted","str","sum","tuple"]
noncomputable def xp:List (ao×Nat):=[("HouseError",10),("NoShape",12),("NoName",13),("NoClock",15),("NoTime",16),("NoHolder",17),("NoLease",18),("Ended",19),("TooMany",20),("Empty",22),("NoNote",23),("Fallen",24),("NoRow",25)]
noncomputable def xq:List (ao×Nat×Nat):=[("Wait",21,29),("Backward",26,25)]
noncomputable def ci:List (ao×Int):=[("TIME_clocks",0),("READING",1),("RUNS",2),("HOUSE_leases",0),("FIRST",1),("UNTIL",2),("LONGEST_HOLDER",8),("WORD",0),("TIME_rows",1),("HOLDER",2),("HOUSE_rows",3),("SPAN",4),("MANY",3)]
noncomputable def ct:List (ao×ao):=[("LETTERS","abcdefghijklmnopqrstuvwxyz")]
noncomputable def tl:List (ao×Int):=[("lease",5),("ask",4),("store",4),("take",4),("back",3),("fall",3),("bare",3)]
noncomputable def YY (b a:ak):Rc:=⟨RU,cs,xs,cls,fld,[(b,[⟨140,36,140,64⟩],("least_begin":ao)++".<locals>."++"<lambda>"),(a,[⟨406,64,406,91⟩],("World.come_up":ao)++".<locals>."++"<lambda>")]⟩
noncomputable def g0:List (ao×GM):=(("LENGTHS":ao),GM.tbl tl)::(hash "by",GM.xin 21 29 "Wait" "by")::(hash "Wait",GM.xin 21 29 "Wait" "by")::Dy ci ct++Jg bs xp xq
noncomputable def R1:List Rw:=[
 rw .fn (st 18) yE,
 rw .fn (st 19) ZL,
 rw .fn (st 20) v5,
 rw .fn (st 21) u1,
 rw (.mk 40 ae) (ax (st 22) 0) j_,
 rw .fn (st 23) yl,
 rw .fn (st 24) ZD,
 rw .fn (st 25) kD,
 rw .fn (st 26) km,
 rw .fn (st 27) ZK,
 rw .fn (st 28) yW,
 rw .fn (st 33) ZG,
 rw .fn (st 34) xN,
 rw (.mk 41 ag) (ax (st 35) 0) k9,
 rw (.met 41 cL) (ax (st 35) 1) vH,
 rw .fn (st 40) yz,
 rw .fn (st 41) jw,
 rw .fn (st 42) Z4,
 rw .fn (st 46) xQ,
 rw (.mk 42 ag) (ax (st 47) 0) jX,
 rw .fn (st 48) JA,
 rw .fn (st 49) jx [] (aa (0,[⟨140,36,140,64⟩])),
 rw .fn (st 50) jF ["met"],
 rw (.mk 43 ag) (ax (st 51) 0) jH ["grants"],
 rw (.met 43 cL) (ax (st 51) 2) qr,
 rw (.met 43 cL) (ax (st 51) 4) wx,
 rw (.met 43 cL) (ax (st 51) 3) qV,
 rw (.met 43 cL) (ax (st 51) 1) kH,
 rw (.met 43 cL) (ax (st 51) 6) j6,
 rw (.met 43 cL) (ax (st 51) 5) vw,
 rw (.met 43 B4) (ax (st 51) 7) vI,
 rw .fn (st 53) kU,
 rw (.mk 44 ae) (ax (st 54) 0) kc,
 rw .fn (st 55) Zh,
 rw .fn (st 56) wb ["return"],
 rw .fn (st 57) xG,
 rw .fn (st 58) Wc ["firsts","others","return"],
 rw .fn (st 59) jy,
 rw (.mk 46 ag) (ax (st 73) 0) xR,
 rw (.met 46 cL) (ax (st 73) 1) u9]
noncomputable def R2:List Rw:=[
 rw (.mk 45 ag) (ax (st 60) 0) vO ["batches"],
 rw (.met 45 cL) (ax (st 60) 8) va,
 rw (.met 45 cL) (ax (st 60) 7) kL,
 rw (.met 45 cL) (ax (st 60) 15) j0,
 rw (.met 45 cL) (ax (st 60) 1) qR,
 rw (.met 45 cL) (ax (st 60) 9) qv,
 rw (.met 45 cL) (ax (st 60) 13) wc,
 rw (.met 45 cL) (ax (st 60) 12) w8,
 rw (.met 45 cL) (ax (st 60) 14) qp,
 rw (.met 45 cL) (ax (st 60) 11) wg,
 rw (.met 45 cL) (ax (st 60) 2) js ["batches"],
 rw (.met 45 cL) (ax (st 60) 3) vF,
 rw (.met 45 cL) (ax (st 60) 4) vE ["names"],
 rw (.met 45 cL) (ax (st 60) 10) qX,
 rw (.met 45 cL) (ax (st 60) 5) qY ["batches"],
 rw .fn (st 69) uI,
 rw .fn (st 70) QF,
 rw .fn (st 72) ku ["~thing"],
 rw (.met 47 cL) (ax (st 74) 1) wC [] (aa (1,[⟨406,64,406,91⟩])) ["seat"],
 rw (.mk 47 ag) (ax (st 74) 0) zY ["~clocks","seats","given"],
 rw (.met 47 cL) (ax (st 74) 3) qW,
 rw (.met 47 cL) (ax (st 74) 4) wh ["return"],
 rw (.met 47 cL) (ax (st 74) 2) jv,
 rw (.met 47 cL) (ax (st 74) 5) vZ,
 rw (.met 47 cL) (ax (st 74) 6) wW,
 rw .fn (st 76) xO,
 rw .fn (st 77) Zz,
 rw .fn (st 78) yi ["return"],
 rw .fn (st 79) yZ,
 rw .fn (st 80) ZE,
 rw .fn (st 81) kQ,
 rw .fn (st 82) Zt ["_law_found","return"],
 rw .fn (st 83) Zo ["_law_state"],
 rw .fn (st 84) yq,
 rw .fn (st 85) jf,
 rw .fn (st 86) vh,
 rw .fn (st 87) Ze,
 rw .fn (st 88) vG ["_law_turns"],
 rw .fn (st 89) xE,
 rw .fn (st 90) jq,
 rw .fn (st 91) j8 ["_law_rows"],
 rw .fn (st 92) W9,
 rw .fn (st 93) jb ["[+]"],
 rw .fn (st 94) ZF,
 rw .fn (st 95) Zy,
 rw .fn (st 96) vq ["~_law_states","[]"]]
noncomputable def R3:List Rw:=[
 rw .fn (st 97) qu ["_law_clocks","~_law_clocks","_law_leases","[]","~_law_states"]]
noncomputable def Ca:ap:=(EL (Ew (sIx (zV (ax (st 74) 1)) 0)) 3)
noncomputable def ju:cT:=⟨1,((("World.come_up":ao)++".<locals>.")++"<lambda>"),"note",Es Ca,EV Ca,"seat",(zz 46 yx clz2 [clz0])⟩
noncomputable def tj (l:cT):List ao:=(yY l.sc).filter λx=>([]:List ao).contains x
variable {P0 P1:ak}
noncomputable def t5:List (ao×GM):=(ZQ,GM.kap ju)::Km (YY 0 0) R1 g0
noncomputable def Nl:List (ao×GM):=Km (YY 0 0) R2 t5
theorem Nq:eZ (YY P0 P1) R1 g0=yr R1:=by kernel_rfl
theorem Nm:Jy (xV (cn cls fld (Km (YY 0 0) R1 g0) [] [] [] []) ju (tj ju)) ju=ae/\tG RU 60 (xV (cn cls fld (Km (YY 0 0) R1 g0) [] [] [] []) ju (tj ju)) ju:=⟨by kernel_rfl,by show _=_;kernel_rfl⟩
theorem Np:eZ (YY P0 P1) R2 t5=yr R2:=by kernel_rfl
theorem No:eZ (YY P0 P1) R3 Nl=yr R3:=by kernel_rfl
end
end NH.K93
namespace NH
open PySem PySem.Spec PyProof.Rows L2
theorem WQ{P:bL}{w:dh}{K:bc}{mg mb:ao->Option ai}{CX:lI}{k:Nat}{fa a:ak}{p:List ak}{fd:FuncData}{x:ao}{sp:Sp}{f:aJ}{vs:List ai}{ns:List Int}
  (Y:K.In f.heap) (E:f.heap.Ns cO mg) (hb:f.heap.Ns lU mb) (hbb:∀x:ao,x≠"__name__"->mb x=fQ x) (M:f.heap.NoLimit) (hg:f.gens=#[])
  (hbm:∃U ob,mg "__builtins__"=aa (.ref U)/\U≠lU/\f.heap.get? U=aa ob/\ob.cls=.type "module"/\ob.dict=aa lU/\ob.data=.plain)
  (hnl:VH K=ae) (g:∀j∈p,f.heap.get? j=aa (AF #[])) (O:∀j∈p,K.lookup j=af/\j≠mG/\∃c,lK K c j=ae)
  (C:f.heap.get? a=aa {cls:=.type "list",data:=.seq vs.toArray}) (hi:fO vs ns) (hl:ns.length<=sizeLine) (hr:bE k mF)
  (F:∀base:aG,K.In base->base.Ns cO mg->(∀j∈p,base.BuiltinsAt mg j)->bF P w K mg base CX k fa fd [x] sp) (G:∀(s:aJ) (u:ai),K.In s.heap->i8 s fd ⟨[u],[]⟩ [(x,u)])
  (hsp:∀H:Hp,Rd H a (.l (ns.map V.int))->(∀j∈p,H j=aa (.tbl #[]))->a∉p->sp [.ref a] H (λv _=>v=.bl ae) λ_ _ _=>False)
  (hCX:∀H e B,CX [] H f (λ_ _ _=>False) e B->False) :
  fC (aC P w) mF (.call (.ref fa) ⟨[.ref a],[]⟩) (λr B=>r=.ok (.ret (.bool ae))/\OldK f.heap B.heap/\B.os=f.os/\hY B.gens) f:=by
 have J:a∉p:=λz=>by have:=g a z;rw[this] at C;cases C
 have hKa:K.lookup a=af:=by
  cases q:K.lookup a with
  |none=>rfl
  |some o=>
   have e:=Y a o q;rw[C] at e;(replace e:=zo e;subst e);exact absurd rfl (Jo hnl q)
 obtain⟨H,hH⟩:∃H:Hp,H=λb=>if b=a then aa (.frz {cls:=.type "list",data:=.seq vs.toArray} (.l (ns.map V.int))) else if b∈p then aa (.tbl #[]) else af:=⟨_,rfl⟩
 have Ha:H a=aa (.frz {cls:=.type "list",data:=.seq vs.toArray} (.l (ns.map V.int))):=by rw[hH];simp
 have Z:∀j∈p,H j=aa (.tbl #[]):=λj T=>by
  rw[hH];exact (if_neg (λz:j=a=>J (z▸T))).trans (if_pos T)
 have I:∀b,b≠a->b∉p->H b=af:=λb i l=>by
  rw[hH];exact (if_neg i).trans (if_neg l)
 have hok:cM P w H f.heap:=λb u e=>by
  by_cases i:b=a
  .subst i;rw[Ha] at e;(replace e:=zo e;subst e);exact⟨C,by rw[aL];exact hl,vs,_,(L2.vals_ints hi),C⟩
  .by_cases l:b∈p
   .rw[Z b l] at e;(replace e:=zo e;subst e);exact g b l
   .rw[I b i l] at e;exact z9 e
 have un:∀{b:ak}{o:bj},f.heap.get? b=aa o->o.cls≠.none->o.cls≠.type "list"->H b=af:=λ{b o} e n1 n2=>I b (λz=>by rw[z,C] at e;(replace e:=zo e;subst e);exact n2 rfl) λz=>by rw[g b z] at e;(replace e:=zo e;subst e);exact n1 rfl
 have noA:∀{b:ak}{o:bj}{Q:Array p6}{R:Nat},f.heap.get? b=aa o->o.data=.dict Q R->H b=af:=λ{b o Q R} e d=>I b (λz=>by rw[z,C] at e;(replace e:=zo e;subst e);injection d) λz=>by rw[g b z] at e;(replace e:=zo e;subst e);injection d
 have qj:∀{b:ak}{o:bj},f.heap.get? b=aa o->H b=af->(ZR f.heap H).get? b=aa o:=λe n=>Yy e n;have y:∀{b:ak}{m:ao->Option ai},f.heap.Ns b m->(ZR f.heap H).Ns b m:=λ{b m} ⟨o,Q,R,e,d,r⟩=>⟨o,Q,R,qj e (noA e d),d,r⟩;have hKf:∀b o,K.lookup b=aa o->H b=af:=λb o e=>I b (λz=>by rw[z,hKa] at e;exact z9 e) λz=>by rw[(O b z).1] at e;exact z9 e
 have N:K.In (ZR f.heap H):=λb o e=>qj (Y b o e) (hKf b o e);have hB:∀j∈p,(ZR f.heap H).BuiltinsAt mg j:=λj T=>by
  obtain⟨U,ob,b1,b2,D,X,b5,b6⟩:=hbm;refine⟨U,ob,b1,b2,λz=>?_,λz=>?_,qj D (un D (X▸λz=>by injection z) (X▸λz=>absurd (Value.type.inj z) dC)),X,b5,b6⟩
  .obtain⟨o,Q,R,e,d,_⟩:=E;rw[z,e] at D;cases D;rw[d] at b6;injection b6
  .rw[z,g j T] at D;(replace D:=zo D;subst D);injection X
 have e0:c8 P w K mg (ZR f.heap H) mF [] f H:=⟨rfl,⟨N,y E,⟨mb,y hb,hbb⟩,let ⟨mc,i,l⟩:=M;⟨mc,y i,l⟩⟩,λb o e=>LG e,lh (Ka _ _),trivial,λb hb=>absurd (show b∈([]:List ak) from hb) sC,hok,.of_eq hg⟩;refine ii ((F _ N (y E) hB).run mF [] f H ⟨[.ref a],[]⟩ [.ref a] [.ref a] _ _ hr e0 (G f (.ref a) Y) (.cons rfl .nil) (hsp H (.inr ⟨_,Ha⟩) Z J)) λr B h=>?_;cases r with
 |error e=>exact (hCX H e B h).elim
 |ok fl=>
  cases fl with
  |next=>exact cW h
  |brk=>exact cW h
  |cont=>exact cW h
  |ret u=>
   obtain⟨v,H',os,S,un,t,r',q⟩:=h;have q':=q;subst q';obtain rfl:u=og ae:=r';have kp:∀b o,H b=af->f.heap.get? b=aa o->B.heap.get? b=aa o:=λb o n e=>un.keep b o e n (by intro z;exact absurd (show b∈([]:List ak) from z) sC) sC;have L:∀o,f.heap.get? a=aa o->B.heap.get? a=aa o:=λo e=>by
    obtain⟨e2,_⟩:=t a _ (un.frzs a _ _ Ha);rw[C] at e;(replace e:=zo e;subst e);exact e2
   refine⟨rfl,⟨λb o e=>?_,λb o e=>?_⟩,os,S⟩
   .by_cases i:b∈p
    .obtain⟨A,hm⟩:=un.tbls b _ (Z b i);obtain⟨k1,k2,c,k3⟩:=O b i;have cd:=PySem.W.codeHd_of_K Y k3;rw[g b i] at e;(replace e:=zo e;subst e);exact .inr (.inl ⟨(cd.tab (g b i)).isCodeTable,rfl,#[],A,rfl,(t b _ hm)⟩)
    .by_cases l:b=a
     .subst l;exact .inl (L o e)
     .exact .inl (kp b o (I b l i) e)
   .by_cases i:b∈p
    .obtain⟨A,hm⟩:=un.tbls b _ (Z b i);exact⟨_,t b _ hm⟩
    .by_cases l:b=a
     .subst l;exact⟨_,L o e⟩
     .exact⟨_,kp b o (I b l i) e⟩
theorem walkTq{l:mD}{q:bL}{j:List ao}{XP:(ao->Option ai)->aG->Prop}{A:dh->aG->Prop}{d:DefRec}{K:Params->bc}{x:ao}{k:Nat}{r:List ak}(hk:k<=190)(L:l.most=aa 63)(y:d.params.defaults=[])
  (P:∀(w:dh) (h:aG),A w h->(K w.params).In h) (Q:∀(w:dh) (h:aG),A w h->∀B∈r,h.get? B=aa (AF #[]))
  (F:∀(w:dh) (mg:ao->Option ai) (p:ak) (h:aG),(K w.params).In h->h.Ns cO mg->mg d.name=aa (.ref p)->
   (VH (K w.params)=ae/\∀B∈r,(K w.params).lookup B=af/\B≠mG/\∃c,lK (K w.params) c B=ae)/\∃fd:FuncData,(∀(s:aJ) (u:ai),(K w.params).In s.heap->i8 s fd ⟨[u],[]⟩ [(x,u)])/\∀base:aG,(K w.params).In base->base.Ns cO mg->(∀B∈r,base.BuiltinsAt mg B)->bF l.prog w (K w.params) mg base (dB l.prog w) k p fd [x] (Qq r)) :
  PySem.W.WalkO q j XP A l.row.toRowW d [] (λf vs=>Ac f vs):=by
 refine Att.attach_call L y λw D C mg mb p o pm cd X a vs I G Y ho hd N v n m i M=>?_;have E:=P w _ Y;obtain⟨⟨V,U⟩,fd,O,S⟩:=F w mg p _ E G.T.g v;exact WQ E G.T.g G.T.b G.T.builtins G.T.nolimit M G.T.bmain V (Q w _ Y) U n m (cf i dC) (bE.mono ⟨rfl,dC,dC⟩ hk) S O (λH J R t=>⟨a,I,rfl,J,R,t,i,λ_=>rfl⟩) λH e Z z=>by
  obtain⟨_,_,_,_,_,_,_,_,_,_,_,_,_,_,_,z⟩:=z;exact z
theorem zA{i:Decidable p}(h1:p->A)(h2:¬p->B):fY (decide p) A B:=by
 cases i with
 |isTrue h=>exact h1 h
 |isFalse h=>exact h2 h
theorem qf{i:Decidable p}(h:p)(a:A):fY (decide p) A B:=zA (λ_=>a) λn=>absurd h n
theorem zu{i:Decidable p}(h:¬p)(b:B):fY (decide p) A B:=zA (λy=>absurd y h) λ_=>b
theorem yg{i:Decidable p}(h1:p->B)(h2:¬p->A):fY (!decide p) A B:=by
 cases i with
 |isTrue h=>exact h1 h
 |isFalse h=>exact h2 h
theorem Js{i:Decidable p}(h:p)(b:B):fY (!decide p) A B:=yg (λ_=>b) λn=>absurd h n
theorem zX(h1:b=ae->A)(h2:b=ag->B):fY b A B:=by
 cases b with
 |true=>exact h1 rfl
 |false=>exact h2 rfl
theorem B8(h:b=ag)(a:B):fY b A B:=h▸a
theorem Vg{tg:Tg}{g:Sl->Mem->RE (Option T)}{lv:Mem->Prop}{b:Sl}{μ:Mem}{Z:Xp}(f:T->Option T){xs:List T}{K:List T->Mem->Prop}
  (h:∀x∈xs,∀k:Option T->Mem->Prop,k (f x) μ->∃j,f6 tg x b=aa j/\g j μ k Z) (k:K (xs.filterMap f) μ) (m:lv μ:=by trivial):qb tg g lv b xs μ K Z:=by
 induction xs generalizing K with
 |nil=>exact k
 |cons x r i=>
  obtain⟨j,e,n⟩:=h x dt (λo a=>lv a/\(match o with
   |some y=>(qb tg g lv b r a).bind λl c=>RE.ok (y::l) c
   |none=>qb tg g lv b r a) K Z) (by
    refine⟨m,?_⟩;cases q:f x with
    |none=>
     rw[o1 q] at k;exact i (λy d=>h y (cJ _ d)) k
    |some y=>
     rw[o0 q] at k;exact i (λy d=>h y (cJ _ d)) k)
  exact⟨j,e,n⟩
theorem xo{tg:Tg}{g:Sl->Mem->RE (Option T)}{lv:Mem->Prop}{a:Sl}{μ:Mem}{Z:Xp}(f:T->T){xs:List T}{K:List T->Mem->Prop}
  (h:∀x∈xs,∀k:Option T->Mem->Prop,k (aa (f x)) μ->∃j,f6 tg x a=aa j/\g j μ k Z) (k:K (xs.map f) μ) (b:lv μ:=by trivial):qb tg g lv a xs μ K Z:=
 Vg (λx=>aa (f x)) h (gu▸k) b
theorem ZA{tg:Tg}{g:Sl->Mem->RE (Option T)}{lv:Mem->Prop}{f:Sl}{Z:Xp}(I:Nat->List T->Mem->Prop){xs:List T}{K:List T->Mem->Prop}{μ:Mem}
  (h0:I 0 [] μ) (h:∀i x s μ,xs[i]?=aa x->I i s μ->∀k:Option T->Mem->Prop,(∀o j,I (i+1) (match o with|some y=>s++[y]|none=>s) j->k o j)->∃u,f6 tg x f=aa u/\g u μ k Z)
  (k:∀s j,I xs.length s j->K s j) (t:∀i s μ,I i s μ->lv μ:=by intros;trivial):qb tg g lv f xs μ K Z:=by
 have go:∀(rest:List T) (i:Nat) (s:List T) (μ:Mem) (K:List T->Mem->Prop),xs.drop i=rest->i<=xs.length->I i s μ->(∀b j,I xs.length (s++b) j->K b j)->qb tg g lv f rest μ K Z:=by
  intro rest;induction rest with
  |nil=>
   intro i s μ K hd v n e;have:i=xs.length:=by
    have:=congrArg fE hd;simp at this;lia
   subst this;exact e [] μ (by simpa using n)
  |cons x r p=>
   intro i s μ K hd v n e;have q:xs[i]?=aa x:=by
    have:(xs.drop i)[0]?=aa x:=by rw[hd];rfl
    simpa using this
   have c:=(aO.mp q).1;have d:xs.drop (i+1)=r:=by
    have:(xs.drop i).tail=r:=by rw[hd];rfl
    simpa using this
   refine h i x s μ q n _ λo j a=>⟨t _ _ _ a,?_⟩;cases o with
   |none=>exact p (i+1) s j K d c a e
   |some y=>exact p (i+1) (s++[y]) j _ d c a λb l m=>e (y::b) l (by simpa using m)
 exact go xs 0 [] μ K rfl (fU _) h0 λb j m=>k b j (by simpa using m)
theorem zL{tg:Tg}{body:Ds}{lv:Mem->Prop}{xs:List T}{a:Sl}{μ:Mem}{E:En}(I:Nat->Sl->Mem->Prop)(h0:I 0 a μ)
  (h:∀i x a μ,xs[i]?=aa x->I i a μ->∀N:Sl->Mem->Prop,(∀a μ,I (i+1) a μ->N a μ)->∃j,f6 tg x a=aa j/\body j μ (E.turn N))
  (k:∀a μ,I xs.length a μ->E.nx a μ) (l:∀i a μ,I i a μ->lv μ:=by intros;trivial):eI tg body lv xs a μ E:=by
 have go:∀(rest:List T) (i:Nat) (a:Sl) (μ:Mem),xs.drop i=rest->i<=xs.length->I i a μ->eI tg body lv rest a μ E:=by
  intro rest;induction rest with
  |nil=>
   intro i a μ hd m e;have:i=xs.length:=by
    have:=congrArg fE hd;simp at this;omega
   subst this;exact k a μ e
  |cons x r g=>
   intro i a μ hd m e;have f:xs[i]?=aa x:=by
    have:(xs.drop i)[0]?=aa x:=by rw[hd];rfl
    simpa using this
   have d:xs.drop (i+1)=r:=by
    have:(xs.drop i).tail=r:=by rw[hd];rfl
    simpa using this
   exact h i x a μ f e _ λb c z=>⟨l _ _ _ z,g (i+1) b c d ((aO.mp f).1) z⟩
 exact go xs 0 a μ rfl (fU _) h0
theorem KY{body:List Ds}(I:Nat->Sl->Mem->Prop)(n:Nat)(h0:I n j μ)
  (h:∀n j μ,I n j μ->∀N:Sl->Mem->Prop,(∀m j μ,m<n->I m j μ->N j μ)->c j μ (λb s=>fY b (zM body j s (E.turn N)) (E.nx j s)) (λk fs s=>E.ex k fs j s)):ZP c body j μ E:=
 ⟨I,⟨n,h0⟩,λn j μ e=>h n j μ e _ λm j μ a d=>⟨m,a,d⟩⟩
end NH
namespace NH.P
open PySem L2 NH
theorem zp(k:K (.bl ae) μ):zQ [.int i] μ K Z:=⟨rfl,k⟩
theorem Vy{i:Nat}(h:(rangeT n)[i]?=aa x):x=.int i/\(i:Int)<n:=by
 unfold rangeT at h;rw[bH] at h;cases q:(dm n.toNat)[i]? with
 |none=>rw[q] at h;exact z9 h
 |some j=>
  rw[q] at h;obtain⟨a,e⟩:=aO.mp q;have e:i=j:=by simpa using e
  subst e;(injection h with h;subst h);simp at a;exact⟨rfl,by omega⟩
theorem uk:(rangeT n).length=n.toNat:=by simp[rangeT]
noncomputable def tX(z:ao):Bool:=!(sX "abcdefghijklmnopqrstuvwxyz" z 0 (Str.length "abcdefghijklmnopqrstuvwxyz") 1).isEmpty
noncomputable def mi(z:ao):List ao:=z.cps.toList.map λc=>⟨#[c]⟩
theorem KR(z:ao):VI z=(mi z).map T.str:=by simp[ mi]
theorem MC(z:ao):(mi z).length=z.length:=by simp[mi,Str.length]
noncomputable def qL(z:ao):Bool:=decide (1<=(z.length:Int))&&decide ((z.length:Int)<=8)&&(mi z).all tX
theorem Z5{α:Type}(f:α->Bool):∀xs:List α,bZ (xs.map λx=>T.bl (f x))=aa (xs.map f)
 |[]=>rfl
 |x::r=>by simp[bZ,Z5 f r]
theorem qO(c:z.length<=aB)(q:K (.bl (qL z)) μ):vf [.str z] μ K Z:=by
 refine⟨rfl,?_⟩;unfold qL at q;refine⟨c,(zA (λb=>?_) (λb=>?_))⟩
 .refine yg (λa=>?_) (λa=>?_)
  .show (VI z).length<=aB/\_;rw[KR];refine⟨by rw[aL,MC];exact c,?_⟩;refine xo (λx=>match x with|.str y=>.bl (tX y)|t=>t) (λx d k e=>?_) ?_
   .obtain⟨y,f,rfl⟩:=ba.mp d;exact⟨_,rfl,e⟩
   .rw[bB];refine⟨_,Z5 tX (mi z),?_⟩;rw[decide_eq_true b,decide_eq_true a] at q;rw[rT];exact q
  .have q:K (.bl ag) μ:=by simpa[a] using q
   exact q
 .have q:K (.bl ag) μ:=by simpa[b] using q
  exact q
theorem Qu(a:z.length<=aB)(h:qL z=b)(q:K (.bl b) μ):vf [.str z] μ K Z:=qO a (h▸q)
theorem ki{xs:List α}{k:Int}(h0:0<=k)(h1:k<xs.length):qS xs k=xs[k.toNat]?:=by
 unfold qS V0;rw[if_pos h0,if_pos h1];rfl
section
variable {μ:Mem}
noncomputable def St (μ:Mem)(i:Nat):Prop:=∃a b c:Int,μ[i]?=aa (.l [.int a,.int b,.int c])
structure Up(μ:Mem)(i:Nat)(μ':Mem):Prop where
 len:μ'.length=μ.length
 ot:∀j,j≠i->μ'[j]?=μ[j]?
 st:St μ' i
theorem Up.trans(a:Up μ i s)(b:Up s i μ2):Up μ i μ2:=⟨b.len.trans a.len,λj h=>(b.ot j h).trans (a.ot j h),b.st⟩
theorem am(h:μ[i]?=aa x):(μ.set i y)[i]?=aa y:=by
 have:=(aO.mp h).1;simp[this]
theorem Up.set(h:μ[i]?=aa x):Up μ i (μ.set i (.l [.int a,.int b,.int c])):=⟨sC,λj hj=>by rw[aX (bd hj)],a,b,c,am h⟩
theorem z5:(μ++[x])[μ.length]?=aa x:=by rw[dL (aK _)];simp
theorem z3{i:Nat}(h:μ[i]?=aa o):(μ++[x])[i]?=aa o:=by
 rw[cE (aO.mp h).1];exact h
noncomputable abbrev aP(x y z:Int):T:=.obj 40 [(0,.int x),(1,.int y),(2,.int z)]
theorem qh(k:K (.bl (decide (1<=n))) μ):vu [.int n] μ K Z:=by
 exact⟨rfl,(zp k)⟩
theorem Z2(c:1<=x)(b:1<=y)(a:1<=z)(q:K .n [.obj 40 [(0,.int x),(1,.int y),(2,.int z)]]):yX [.m 0,.int x,.int y,.int z] [.obj 40 []] K Z:=by
 refine⟨rfl,(qh (qf c (qh ?_)))⟩;refine qf b (qh (Js a ⟨_,_,rfl,dC,_,_,rfl,(by (show 1<900);decide),_,_,rfl,(by (show 2<900);decide),?_⟩));exact q
end
theorem vp{ns:List Int}(hk:0<=k)(q:∀c,K (.int c) μ):ji [.l (ns.map T.int),.int k] μ K Z:=by
 refine⟨rfl,(zA (λh=>?_) (λh=>?_))⟩
 .have a:k.toNat<ns.length:=by
   rw[aL] at h;omega
  refine⟨.int ns[k.toNat],?_,q _⟩;rw[ki hk h,bH,dO a];rfl
 .exact q _
theorem Vf{tg:Tg}{a:Sl}{x:T}{r:List T}{K:List T->Mem->Prop}(h:∃s,f6 tg x a=aa s/\g s μ (λo j=>lv j/\(match o with
  |some y=>qb tg g lv a r j (λu μ2=>K (y::u) μ2) Z
  |none=>qb tg g lv a r j K Z)) Z):qb tg g lv a (x::r) μ K Z:=by
 obtain⟨s,e,h⟩:=h;refine⟨s,e,?_⟩;have:(λ(o:Option T) j=>lv j/\(match o with
  |some y=>qb tg g lv a r j (λu μ2=>K (y::u) μ2) Z
  |none=>qb tg g lv a r j K Z))=λo j=>lv j/\(match o with
   |some y=>(qb tg g lv a r j).bind λu μ2=>RE.ok (y::u) μ2
   |none=>qb tg g lv a r j) K Z:=by
  funext o j;cases o<;>rfl
 rw[this] at h;exact h
theorem JX{tg:Tg}{a:Sl}{K:List T->Mem->Prop}(h:K [] μ):qb tg g lv a [] μ K Z:=by
 exact h
structure Sy(y z:Int):Prop where
 y1:1<=y
 y2:y<=10000000000
 z1:1<=z
 z2:z<=10000000000
theorem Wa(s:Sy y z)(q:K (.int (x*y*z)) μ):WC [aP x y z] μ K Z:=by
 obtain⟨d,c,b,a⟩:=s;exact⟨rfl,.inr ⟨by unfold big;lia,by unfold big;lia⟩,.inr ⟨by unfold big;lia,by unfold big;lia⟩,q⟩
theorem QT(s:Sy y z)(hb:(decide (0<=n)&&decide (n<x*y*z))=b)(q:K (.bl b) μ):Jb [aP x y z,.int n] μ K Z:=by
 subst hb;refine⟨rfl,(Wa s ⟨rfl,(zp ?_)⟩)⟩;refine zA (λh=>?_) (λh=>?_)
 .have q:K (.bl (decide (n<x*y*z))) μ:=by simpa[h] using q
  exact q
 .have q:K (.bl ag) μ:=by simpa[h] using q
  exact q
theorem uR(s:Sy y z)(h:(decide (0<=n)&&decide (n<x*y*z))=ae)(q:K .n μ):ua [aP x y z,.int n] μ K Z:=by
 exact⟨rfl,(QT s h q)⟩
structure Gr where
 ho:ao
 h:Int
 f:Int
 u0:Int
 u:Int
 ct:Bool
noncomputable def Gr.L (G:Gr):T:=.t [.int G.h,.int G.f,.int G.u0]
noncomputable def Gr.O (G:Gr):MO:=.obj 42 [(5,.str G.ho),(6,G.L),(7,.int G.u),(8,.bl G.ct)]
noncomputable abbrev Gp:=Nat×Gr
noncomputable abbrev Gp.t(p:Gp):T:=.m p.1
structure Bk(μ:Mem)(c g:Nat)(sh:T)(ps:List Gp):Prop where
 com:μ[c]?=aa (.obj 43 [(9,sh),(10,.m g)])
 lst:μ[g]?=aa (.l (ps.map Gp.t))
 at_:∀p∈ps,μ[p.1]?=aa p.2.O
 nd:(ps.map (·.1)).Nodup
structure Ch(S:List Nat)(μ μ':Mem):Prop where
 len:μ.length<=μ'.length
 ot:∀i,i<μ.length->i∉S->μ'[i]?=μ[i]?
theorem Ch.refl:Ch S μ μ:=⟨aK _,λ_ _ _=>rfl⟩
theorem Ch.trans(a:Ch S μ j)(b:Ch S j μ2):Ch S μ μ2:=⟨cf a.len b.len,λi h n=>(b.ot i (cz h a.len) n).trans (a.ot i h n)⟩
theorem Ch.mono(a:Ch S μ j)(h:∀x∈S,x∈s):Ch s μ j:=⟨a.len,λi hi n=>a.ot i hi λz=>n (h i z)⟩
theorem Ch.app:Ch [] μ (μ++[x]):=⟨sC,λi h _=>cE h⟩
theorem Ch.set:Ch [i] μ (μ.set i x):=⟨sC,λj h n=>by rw[aX];rintro rfl;exact n sC⟩
theorem Ch.get(a:Ch S μ j)(h:μ[i]?=aa x)(n:i∉S):j[i]?=aa x:=(a.ot i (aO.mp h).1 n).trans h
theorem Bk.ch(B:Bk μ c g s ps)(a:Ch S μ j)(h1:c∉S)(h2:g∉S)(d:∀p∈ps,p.1∉S):Bk j c g s ps:=
 ⟨a.get B.com h1,a.get B.lst h2,λp b=>a.get (B.at_ p b) (d p b),B.nd⟩
noncomputable def mt (G:Gr)(b e:Int):Bool:=decide ((if G.f<b then b else G.f)<(if e<G.u then e else G.u))
theorem wQ:mt G b e=ae↔G.f<G.u/\G.f<e/\b<G.u/\b<e:=by
 unfold mt;split<;>split<;>lia
theorem JN(h:¬(G.f<G.u/\G.f<e/\b<G.u/\b<e)):mt G b e=ag:=by
 cases q:mt G b e with
 |false=>rfl
 |true=>exact absurd (wQ.mp q) h
theorem WL(h:μ[a]?=aa G.O)(q:K (.bl (mt G b e)) μ):gC [.m a,.int b,.int e] μ K Z:=by
 exact⟨rfl,_,_,_,h,rfl,_,rfl,_,_,_,h,rfl,q⟩
theorem zH{β:Type}{tg:Tg}{g:Sl->Mem->RE (Option T)}{lv:Mem->Prop}{b:Sl}(t:β->T)(f:β->Option T){ps:List β}{K:List T->Mem->Prop}
  (h:∀p∈ps,∀k:Option T->Mem->Prop,k (f p) μ->∃j,f6 tg (t p) b=aa j/\g j μ k Z) (k:K (ps.filterMap f) μ) (d:lv μ:=by trivial):qb tg g lv b (ps.map t) μ K Z:=by
 induction ps generalizing K with
 |nil=>exact JX k
 |cons x r c=>
  refine Vf (h x dt _ ⟨d,?_⟩);cases q:f x with
  |none=>
   rw[o1 q] at k;exact c (λy a=>h y (cJ _ a)) k
  |some y=>
   rw[o0 q] at k;exact c (λy a=>h y (cJ _ a)) k
theorem J8:∀{bs:List Gp},(∀p∈bs,μ[p.1]?=aa p.2.O)->dY clz64 μ (bs.map Gp.t) (bs.map (·.2.f))
 |[],_=>trivial
 |p::r,h=>⟨⟨_,_,_,h p dt,rfl,_,rfl,rfl,rfl⟩,J8 λq a=>h q (cJ _ a)⟩
theorem ue:∀(kvs:List (Key×T)),(zr z (wA z t kvs)).isSome=ae:=by
 intro kvs;unfold wA;split
 .rename_i h;induction kvs with
  |nil=>simp at h
  |cons p r a=>
   rw[cC];unfold zr;by_cases e:p.1=z
   .rw[if_pos e,if_pos e];rfl
   .rw[if_neg e,if_neg e];exact a (by simpa[e] using h)
 .rename_i h;induction kvs with
  |nil=>simp[zr]
  |cons p r a=>
   have e:p.1≠z:=λe=>h (by simp[e]);rw[oE];unfold zr;rw[if_neg e];exact a λz=>h (by simp only[lY,oQ];exact .inr z)
theorem kO(ne:y≠z):∀(kvs:List (Key×T)),(zr y (wA z t kvs)).isSome=(zr y kvs).isSome:=by
 intro kvs;unfold wA;split
 .rename_i h;clear h;induction kvs with
  |nil=>rfl
  |cons p r b=>
   rw[cC];unfold zr;by_cases e:p.1=z
   .rw[if_pos e];have a:p.1≠y:=λc=>ne (c.symm.trans e);rw[if_neg a,if_neg a];exact b
   .rw[if_neg e];by_cases a:p.1=y
    .rw[if_pos a,if_pos a]
    .rw[if_neg a,if_neg a];exact b
 .rename_i h;clear h;induction kvs with
  |nil=>
   show (zr y [(z,t)]).isSome=_;unfold zr;rw[if_neg (λw=>ne w.symm)];rfl
  |cons p r b=>
   rw[oE];unfold zr;by_cases a:p.1=y
   .rw[if_pos a,if_pos a]
   .rw[if_neg a,if_neg a];exact b
theorem XT:(wA z t kvs).length<=kvs.length+1:=by
 unfold wA;split<;>simp
noncomputable def iu (kvs:List (Key×T))(h:Int):Bool:=(zr (.inl h) kvs).isSome
theorem xr:∀(kvs:List (Key×T)),∃B:Int,∀h,iu kvs h=ae->h<B
 |[]=>⟨0,λh e=>by injection e⟩
 |(.inl a,t)::r=>by
  obtain⟨B,b⟩:=xr r;refine⟨if a<B then B else a+1,λh e=>?_⟩;unfold iu zr at e;by_cases z:(iL a:Key)=.inl h
  .have:a=h:=by injection z
   split<;>omega
  .rw[if_neg z] at e;have:=b h e;split<;>omega
 |(.inr a,t)::r=>by
  obtain⟨B,b⟩:=xr r;refine⟨B,λh e=>?_⟩;unfold iu zr at e;rw[if_neg (by intro z;injection z)] at e;exact b h e
theorem Z_(q:K (.bl (decide (0<=n)&&decide (n<b))) μ):wa [.int n,.int b] μ K Z:=by
 refine⟨rfl,(zp (zA (λh=>?_) (λh=>?_)))⟩
 .have q:K (.bl (decide (n<b))) μ:=by simpa[h] using q
  exact q
 .have q:K (.bl ag) μ:=by simpa[h] using q
  exact q
theorem wD(h0:0<=n)(h1:n<b)(q:K (.bl ae) μ):wa [.int n,.int b] μ K Z:=Z_ (by simpa[h0,h1] using q)
noncomputable def jk (y:Int)(t:T):Prop:=t=.n\/∃h:Int,t=.int h/\0<=h/\h<y
theorem ZY(B:Bk μ c g (aP x y z) ps)(d:ho.length<=aB)(h1:qL ho=ae)(h2:jk y hs)(e:1<=n)(q:K .n μ):wZ [.m c,.str ho,hs,.int m,.int n] μ K Z:=by
 refine⟨rfl,(Qu d h1 ?_)⟩;have rest:zM (qr.drop 2) [aa (.m c),aa (.str ho),aa hs,aa (.int m),aa (.int n)] μ (En.fn K Z):=by
  exact qh (Js e (zp q))
 rcases h2 with rfl|⟨h,rfl,a,b⟩
 .exact rest
 .exact⟨_,_,_,B.com,rfl,(wD a b rest)⟩
theorem Qo(B:Bk μ c g (aP x y z) ps)(f:ps.length<=1000)(q:K (.l ((ps.filter λp=>decide (p.2.h=h)).map Gp.t)) μ):wX [.m c,.int h] μ K Z:=by
 refine⟨rfl,_,_,_,B.com,rfl,_,B.lst,by rw[aL];unfold aB;lia,?_⟩;refine zH Gp.t (λp=>if p.2.h=h then aa (Gp.t p) else af) (λp d k a=>?_) ?_ B.lst
 .refine⟨_,rfl,_,_,_,B.at_ p d,rfl,_,rfl,(zX (λe=>?_) (λe=>?_))⟩
  .have e:p.2.h=h:=by simpa using e
   rw[if_pos e] at a;exact a
  .have e:¬p.2.h=h:=by simpa using e
   rw[if_neg e] at a;exact a
 .have e:ps.filterMap (λp=>if p.2.h=h then aa (Gp.t p) else af)=(ps.filter λp=>decide (p.2.h=h)).map Gp.t:=by
   clear q B f;induction ps with
   |nil=>rfl
   |cons p r b=>
    by_cases z:p.2.h=h
    .rw[o0 (by rw[if_pos z]),sQ (by simpa using z),cC,b]
    .rw[o1 (by rw[if_neg z]),sP (by simpa using z),b]
  rw[e];exact q
theorem tN{a b c f:Int}:bK [.int a,.int b,.int c] [.int d,.int e,.int f]=aa (decide (a=d)&&(decide (b=e)&&decide (c=f))):=by
 have h:∀i j:Int,(i==j)=decide (i=j):=λi j=>by
  by_cases z:i=j<;>simp[z]
 simp[bK,eqT,h]
theorem FS{c:Int}:q9 [.int a,.int b,.int c]<=40:=by simp[q9,wU]
theorem vR{u:Int}(h0:0<=h)(h1:h<y)(f0:0<=f)(fu:f<u)(ux:u<=x)(q:K (.bl ae) μ):uw [aP x y z,.t [.int h,.int f,.int u]] μ K Z:=by
 refine⟨rfl,_,rfl,(wD h0 h1 ⟨_,rfl,(zp ?_)⟩)⟩;refine⟨_,rfl,(zp ⟨_,rfl,(qf f0 ?_)⟩)⟩;refine⟨_,rfl,(qf fu ?_)⟩;have q:K (.bl (decide (u<=x))) μ:=decide_eq_true ux▸q;exact q
theorem XI{u:Int}(B:Bk μ c g (aP x y z) ps)(h0:0<=h)(h1:h<y)(f0:0<=f)(fu:f<u)(ux:u<=x)
  (q:∀p∈ps,p.2.h=h->p.2.f=f->p.2.u0=u->p.2.ct=ag->K (.m p.1) μ) (v:(∀p∈ps,p.2.h=h->p.2.f=f->p.2.u0=u->p.2.ct=ae)->Z 18 [] μ):ko [.m c,.t [.int h,.int f,.int u]] μ K Z:=by
 refine⟨rfl,_,_,_,B.com,rfl,rfl,(vR h0 h1 f0 fu ux ⟨_,_,_,B.com,rfl,_,B.lst,?_⟩)⟩;refine zL (λi m j=>∃o,m=[aa (.m c),aa (.t [.int h,.int f,.int u]),o]/\j=μ/\∀p∈ps.take i,p.2.h=h->p.2.f=f->p.2.u0=u->p.2.ct=ae) ⟨af,rfl,rfl,sC⟩ ?_ ?_ ?_
 .rintro i t m j l ⟨o,rfl,rfl,n⟩ N C;rw[bH] at l;cases k:ps[i]? with
  |none=>rw[k] at l;exact z9 l
  |some p=>
   rw[k] at l;(injection l with l;subst l);have r:=aS k;have et:ps.take (i+1)=ps.take i++[p]:=by rw[dM,k];rfl
   have next:(p.2.h=h->p.2.f=f->p.2.u0=u->p.2.ct=ae)->N [aa (.m c),aa (.t [.int h,.int f,.int u]),aa (.m p.1)] j:=λA=>C _ _ ⟨_,rfl,rfl,λw d=>by
    rw[et] at d;rcases bf.mp d with d|d
    .exact n w d
    .rw[aT.mp d];exact A⟩
   refine⟨_,rfl,_,_,_,B.at_ p r,rfl,FS,_,tN,(zX (λe=>?_) (λe=>?_))⟩
   .simp only[bW,decide_eq_true_eq] at e;refine⟨_,_,_,B.at_ p r,rfl,?_⟩;cases s:p.2.ct with
    |true=>exact next λ_ _ _=>s
    |false=>exact q p r e.1 e.2.1 e.2.2 s
   .refine next λa b c=>?_
    rw[decide_eq_true a,decide_eq_true b,decide_eq_true c] at e;injection e
 .rintro m j ⟨o,rfl,rfl,n⟩;rw[aL,eH (aK _)] at n;exact⟨dC,v n⟩
 .rintro i m j ⟨o,rfl,rfl,_⟩;exact B.lst
noncomputable def pz (f u:Int)(t:T)(e:Int):Prop:=(t=.n/\e=f)\/∃s:Int,t=.int s/\f<=s/\s<u/\e=s+1
noncomputable def bQ (a:Nat)(e:Int)(ps:List Gp):List Gp:=ps.map λp=>if p.1=a then (p.1,{p.2 with u:=e,ct:=ae}) else p
theorem k7:(bQ a e ps).map (·.1)=ps.map (·.1):=by
 unfold bQ;rw[bB];refine md λp _=>?_;show (if p.1=a then _ else _:Gp).1=p.1;split<;>rfl
theorem XJ:(bQ a e ps).map Gp.t=ps.map Gp.t:=by
 have:=congrArg (gS T.m) (k7 (ps:=ps) (a:=a) (e:=e));simp only[bB] at this;exact this
theorem HN(B:Bk μ c g (aP x y z) ps)(h0:0<=h)(h1:h<y)(f0:0<=f)(fu:f<u)(ux:u<=x)(O:pz f u t e)(A:∃p∈ps,p.2.h=h/\p.2.f=f/\p.2.u0=u/\p.2.ct=ag)
  (q:∀p∈ps,p.2.h=h->p.2.f=f->p.2.u0=u->p.2.ct=ag->∀C,Ch [p.1] μ C->C.length=μ.length->Bk C c g (aP x y z) (bQ p.1 e ps)->K .n C):u3 [.m c,.t [.int h,.int f,.int u],t] μ K Z:=by
 refine⟨rfl,_,B.com,(XI B h0 h1 f0 fu ux (λp l G F E D=>?_) λP=>?_)⟩
 .have m:zM (vw.drop 2) [aa (.m c),aa (.t [.int h,.int f,.int u]),aa t,aa (.m p.1),aa (.int e)] μ (En.fn K Z):=by
   have d:=B.at_ p l;refine⟨_,_,d,by show (4:Nat)<900;decide,_,_,am d,by show (4:Nat)<900;decide,?_⟩;have S:∀(a b:MO),(μ.set p.1 a).set p.1 b=μ.set p.1 b:=λa b=>by rw[rG]
   rw[S];have J:p.1≠g:=λz=>by rw[z,B.lst] at d;cases d
   have L:p.1≠c:=λz=>by
    rw[z,B.com] at d;have d:=aZ d;injection d with w _;exact absurd w dC
   refine q p l G F E D _ Ch.set sC ⟨?_,?_,λT v=>?_,?_⟩
   .rw[aX L];exact B.com
   .rw[aX J,XJ];exact B.lst
   .obtain⟨n,k,rfl⟩:=ba.mp v;by_cases z:n.1=p.1
    .have:n=p:=by
      obtain⟨i,R⟩:=dD.mp k;obtain⟨j,Q⟩:=dD.mp l;obtain⟨N,I⟩:=aO.mp R;obtain⟨M,H⟩:=aO.mp Q;have:=(oG (h₀:=by simpa using N) (h₁:=by simpa using M) B.nd).mp (by simp[I,H,z]);subst this;rw[<-I,<-H]
     subst this;rw[if_pos rfl];rw[am d];rfl
    .rw[if_neg z,aX (λw=>z w.symm)];exact B.at_ n k
   .rw[k7];exact B.nd
  rcases O with⟨rfl,rfl⟩|⟨s,rfl,r,o,rfl⟩
  .exact⟨_,rfl,m⟩
  .refine zp ⟨_,rfl,(qf r ⟨_,rfl,?_⟩)⟩;exact qf o m
 .obtain⟨p,l,G,F,E,D⟩:=A;have:=P p l G F E;rw[D] at this;injection this
noncomputable def Gr.row(G:Gr):T:=.t [.str G.ho,.int G.h,.int G.f,.int G.u]
theorem Kb(B:Bk μ c g (aP x y z) ps)(e:ps.length<=1000)(q:K (.l (ps.map λp=>p.2.row)) μ):jC [.m c] μ K Z:=by
 refine⟨rfl,_,_,_,B.com,rfl,_,B.lst,by rw[aL];unfold aB;lia,?_⟩;refine zH Gp.t (λp=>aa p.2.row) (λp b k d=>⟨_,rfl,?_⟩) (gu▸q) B.lst;have a:=B.at_ p b;exact⟨_,_,_,a,rfl,_,_,_,a,rfl,_,rfl,_,_,_,a,rfl,_,rfl,_,_,_,a,rfl,d⟩
structure nT(x y:Int)(G:Gr):Prop where
 h0:0<=G.h
 h1:G.h<y
 f0:0<=G.f
 fu0:G.f<G.u0
 ux:G.u0<=x
 fu:G.f<=G.u
 uu:G.u<=G.u0
 op:G.ct=ag->G.u=G.u0
noncomputable def Dj (p q:Gp):Prop:=p.2.h=q.2.h->mt p.2 q.2.f q.2.u=ag
structure Gd(x y:Int)(ps:List Gp):Prop where
 ok:∀p∈ps,nT x y p.2
 dj:ps.Pairwise Dj
theorem Gd.one(G:Gd x y ps){i j:Nat}{p q:Gp}(hi:ps[i]?=aa p)(hj:ps[j]?=aa q)(e:p.2.h=q.2.h)(m:p.2.f<p.2.u/\q.2.f<q.2.u/\p.2.f<q.2.u/\q.2.f<p.2.u):i=j:=by
 obtain⟨d,k⟩:=aO.mp hi;obtain⟨c,g⟩:=aO.mp hj;have no:∀{i j:Nat}{p q:Gp}(d:i<ps.length) (c:j<ps.length),ps[i]=p->ps[j]=q->p.2.h=q.2.h->(p.2.f<p.2.u/\q.2.f<q.2.u/\p.2.f<q.2.u/\q.2.f<p.2.u)->¬i<j:=λ{i j p q} d c k g e m l=>by
  have:=(eY.mp G.dj) i j d c l;rw[k,g] at this;have h2:mt p.2 q.2.f q.2.u=ae:=wQ.mpr lC;rw[this e] at h2;injection h2
 have a:=no d c k g e m;have b:=no c d g k e.symm lC;lia
theorem QJ:∀{ps:List Gp}{i:Nat}{p:Gp},(ps.map (·.1)).Nodup->ps[i]?=aa p->bQ p.1 e ps=ps.set i (p.1,{p.2 with u:=e,ct:=ae})
 |[],i,p,_,h=>by simp at h
 |q::r,0,p,a,h=>by
  have h:q=p:=by simpa using h
  subst h;rw[cC,g7] at a;show (if q.1=q.1 then _ else q)::bQ q.1 e r=_;rw[if_pos rfl];have:bQ q.1 e r=r:=by
   conv=>rhs;rw[<-ro r]
   refine md λp b=>?_;rw[if_neg (λ(z:p.1=q.1)=>a.1 (ba.mpr ⟨p,b,z⟩))];rfl
  rw[this];rfl
 |q::r,i+1,p,a,h=>by
  rw[cC,g7] at a;have ne:q.1≠p.1:=λz=>a.1 (ba.mpr ⟨p,aS h,z.symm⟩);show (if q.1=p.1 then _ else q)::bQ p.1 e r=_;rw[if_neg ne,QJ a.2 h];rfl
theorem Gd.cut(G:Gd x y ps)(hi:ps[i]?=aa p)(h1:p.2.f<=e)(h2:e<=p.2.u):Gd x y (ps.set i (p.1,{p.2 with u:=e,ct:=ae})):=by
 have c:=G.ok p (aS hi);obtain⟨n,j⟩:=aO.mp hi;refine⟨λq d=>?_,?_⟩
 .rcases List.mem_or_eq_of_mem_set d with d|rfl
  .exact G.ok q d
  .exact⟨c.h0,c.h1,c.f0,c.fu0,c.ux,h1,g_ h2 c.uu,λz=>by injection z⟩
 .rw[eY];intro a b k hb g;rw[lX] at k hb;have:=(eY.mp G.dj) a b k hb g;rw[oC,oC];split
  .rename_i m;subst m;rw[j] at this;rw[if_neg (by omega)];intro h;have:=this h;refine JN λw=>?_;have w:p.2.f<e/\p.2.f<ps[b].2.u/\ps[b].2.f<e/\ps[b].2.f<ps[b].2.u:=w;have h2:mt p.2 ps[b].2.f ps[b].2.u=ae:=wQ.mpr (by omega);rw[this] at h2;injection h2
  .split
   .rename_i l;subst l;rw[j] at this;intro h;have:=this h;refine JN λw=>?_;have w:ps[a].2.f<ps[a].2.u/\ps[a].2.f<e/\p.2.f<ps[a].2.u/\p.2.f<e:=w;have h2:mt ps[a].2 p.2.f p.2.u=ae:=wQ.mpr (by omega);rw[this] at h2;injection h2
   .exact this
theorem Gd.add(G:Gd x y ps)(d:nT x y q.2)(h:∀p∈ps,p.2.h=q.2.h->mt p.2 q.2.f q.2.u=ag):Gd x y (ps++[q]):=by
 refine⟨λp c=>?_,?_⟩
 .rcases bf.mp c with c|c
  .exact G.ok p c
  .rw[aT.mp c];exact d
 .rw[mh];exact⟨G.dj,sC,λa e b hb=>aT.mp hb▸h a e⟩
theorem Qy:∀(l:List Int),q9 (l.map T.int)=0
 |[]=>rfl
 |a::r=>by simp[q9,wU,Qy r]
section
variable {i0:Nat}
noncomputable def fA(gs:List Gp)(h m n b:Int):Prop:=m<=b/\(∀p∈gs,p.2.h=h->mt p.2 b (b+n)=ag)/\∀a,m<=a->a<b->∃p∈gs,p.2.h=h/\mt p.2 a (a+n)=ae
noncomputable def eL(gs:List Gp)(m n h:Int):Prop:=0<=h/\(∀p∈gs,p.2.h=h->mt p.2 m (m+n)=ag)/\∀a,0<=a->a<h->∃p∈gs,p.2.h=a/\mt p.2 m (m+n)=ae
theorem ub{bs:List Gp}{m n:Int}{i0:Nat}(h:∀p∈bs,μ[p.1]?=aa p.2.O)(Q:bs.length<64)(P:1<=n)(ht:μ[i0]?=aa (.tab 0))(q:∀b,m<=b->(∀p∈bs,mt p.2 b (b+n)=ag)->(∀s,m<=s->s<b->∃p∈bs,mt p.2 s (s+n)=ae)->K (.int b) μ):xC [.l (bs.map Gp.t),.int m,.int n] μ K Z:=by
 refine⟨rfl,⟨i0,ht⟩,by rw[aL];exact Q,bs.map (·.2.f),J8 h,λU v M=>?_⟩;have R:(bs.map (·.2.f)).zip (bs.map Gp.t)=bs.map λp=>(p.2.f,Gp.t p):=by rw[List.zip_map',]
 rw[R] at v;obtain⟨r,F,rfl⟩:=Qt v rfl;rw[bB,ij] at *;have A:∀p∈r,μ[p.1]?=aa p.2.O:=λp v=>h p (F.mem_iff.mp v);refine zL (λi E k=>∃b o,E=[aa (.l (bs.map Gp.t)),aa (.int m),aa (.int n),aa (.int b),o]/\k=μ/\m<=b/\(∀p∈r.take i,mt p.2 b (b+n)=ag)/\∀s,m<=s->s<b->∃p∈bs,mt p.2 s (s+n)=ae) ⟨m,af,rfl,rfl,d6 _,sC,λs y D=>by omega⟩ ?_ ?_
 .rintro i x E k l ⟨b,o,rfl,rfl,I,B,c⟩ N J;rw[bH] at l;cases d:r[i]? with
  |none=>rw[d] at l;exact z9 l
  |some p=>
   rw[d] at l;(injection l with l;subst l);have G:=aS d;have et:r.take (i+1)=r.take i++[p]:=by rw[dM,d];rfl
   have L:∀g∈r.take i,g.2.f<=p.2.f:=λg a=>by
    obtain⟨j,C⟩:=dD.mp a;rw[List.getElem?_take] at C;split at C
    .rename_i H;obtain⟨y,T⟩:=aO.mp C;obtain⟨D,S⟩:=aO.mp d;have:=(eY.mp M) j i y D H;rw[T,S] at this;exact this
    .exact z9 C
   refine⟨_,rfl,(WL (A p G) (zX (λe=>?_) (λe=>?_)))⟩
   .refine⟨_,_,_,A p G,rfl,?_⟩;have e:=wQ.mp e;refine J _ _ ⟨p.2.u,_,rfl,rfl,by omega,λg a=>?_,λs y D=>?_⟩
    .rw[et] at a;rcases bf.mp a with a|a
     .have y:=B g a;have D:=L g a;refine JN λz=>?_;have:mt g.2 b (b+n)=ae:=wQ.mpr (by omega);rw[y] at this;injection this
     .rw[aT.mp a];exact JN (by omega)
    .by_cases w:s<b
     .exact c s y w
     .exact⟨p,F.mem_iff.mp G,wQ.mpr (by omega)⟩
   .refine J _ _ ⟨b,_,rfl,rfl,I,λg a=>?_,c⟩;rw[et] at a;rcases bf.mp a with a|a
    .exact B g a
    .rw[aT.mp a];exact e
 .rintro E k ⟨b,o,rfl,rfl,I,B,c⟩;refine q b I (λp v=>B p ?_) c;rw[aL,eH (aK _)];exact F.mem_iff.mpr v
theorem uj{g:Nat}{m n:Int}(G:μ[g]?=aa (.l (ps.map Gp.t)))(h:∀p∈ps,μ[p.1]?=aa p.2.O)(Q:ps.length<1000)
    (q:∀b j,eL ps m n b->Ch [] μ j->K (.int b) j):xB [.m g,.int m,.int n] μ K Z:=by
  refine⟨rfl,_,z3 G,(zL (λi l j=>∃a o,l=[aa (.m g),aa (.int m),aa (.int n),aa (.m μ.length),o,af]/\j=μ++[.d a]/\a.length<=i/\(∀p∈ps.take i,mt p.2 m (m+n)=ae->iu a p.2.h=ae)/\∀b,iu a b=ae->∃p∈ps,p.2.h=b/\mt p.2 m (m+n)=ae) ⟨[],af,rfl,rfl,aK _,sC,λb e=>by injection e⟩ ?_ ?_ ?_)⟩
  · rintro i x l j r ⟨a,o,rfl,rfl,L,s,A⟩ N C;rw[bH] at r;cases d:ps[i]? with
    |none=>rw[d] at r;exact z9 r
    |some p=>
      rw[d] at r;(injection r with r;subst r);have E:=aS d;have J:=(aO.mp d).1;have et:ps.take (i+1)=ps.take i++[p]:=by rw[dM,d];rfl
      refine⟨_,rfl,(WL (z3 (h p E)) (zX (λe=>?_) (λe=>?_)))⟩
      · refine ⟨_,_,_,z3 (h p E),rfl,_,rfl,(.inr ⟨_,z5,by unfold aB; omega,?_⟩)⟩;have P:(μ++[MO.d a]).set μ.length (MO.d (wA (.inl p.2.h) (.bl ae) a))=μ++[MO.d (wA (.inl p.2.h) (.bl ae) a)]:=by
          rw[iV _ _ (aK _)];simp
        rw[P];refine C _ _ ⟨_,_,rfl,rfl,cf XT (by omega),λy c v=>?_,λb u=>?_⟩
        · by_cases z : y.2.h = p.2.h
          · rw[z];exact ue _
          · unfold iu;rw[kO (λw=>z (by injection w))];rw[et] at c;rcases bf.mp c with c|c
            · exact s y c v
            · rw[aT.mp c] at z;exact absurd rfl z
        · by_cases z : b = p.2.h
          · exact⟨p,E,z.symm,e⟩
          · unfold iu at u;rw[kO (λw=>z (by injection w))] at u;exact A b u
      · refine C _ _ ⟨a,_,rfl,rfl,by omega,fun y c v => ?_,A⟩;rw[et] at c;rcases bf.mp c with c|c
        · exact s y c v
        · rw[aT.mp c,e] at v;injection v
  · rintro l j ⟨a,o,rfl,rfl,L,s,A⟩;rw[aL,eH (aK _)] at s;obtain⟨B,M⟩:=xr a;refine KY (λk l j=>∃b:Int,0<=b/\k=(B-b).toNat/\l=[aa (.m g),aa (.int m),aa (.int n),aa (.m μ.length),o,aa (.int b)]/\j=μ++[.d a]/\∀f,0<=f->f<b->iu a f=ae) (B-0).toNat ⟨0,d6 _,rfl,rfl,rfl,λf D F=>by omega⟩ ?_;rintro k l j ⟨b,u,rfl,rfl,rfl,hd⟩ N C;refine⟨_,z5,(zX (λe=>?_) (λe=>?_))⟩
    · have := M b e;exact C _ _ _ (show (B-(b+1)).toNat<(B-b).toNat by omega) ⟨b+1,by omega,rfl,rfl,rfl,λf D F=>by
        by_cases w:f=b
        · rw[w];exact e
        · exact hd f D (by omega)⟩
    · refine q b _ ⟨u,fun p I H => ?_,fun f D F => A f (hd f D F)⟩ Ch.app;cases z:mt p.2 m (m+n) with
      |false=>rfl
      | true => have := s p I z
                rw[H] at this
                unfold iu at this
                rw[e] at this;injection this
  · rintro i l j ⟨a,o,rfl,rfl,_⟩;exact z3 G
noncomputable def bh(ps:List Gp)(hs:T)(m n h b:Int):Prop:=(hs=.n/\b=m/\eL ps m n h)\/(hs=.int h/\fA ps h m n b)
theorem bh.one{hs:T}{m n h b h' d:Int}(a:bh ps hs m n h b)(j:bh ps hs m n h' d):h=h'/\b=d:=by
 rcases a with⟨rfl,rfl,e0,i,g⟩|⟨rfl,e0,i,g⟩
 .rcases j with⟨_,rfl,f0,f,e⟩|⟨z,_⟩
  .refine⟨?_,rfl⟩;rcases AN h h' with w|w|w
   .obtain⟨p,c,p1,p2⟩:=e h e0 w;rw[i p c p1] at p2;injection p2
   .exact w
   .obtain⟨p,c,p1,p2⟩:=g h' f0 w;rw[f p c p1] at p2;injection p2
  .injection z
 .rcases j with⟨z,_⟩|⟨z,f0,f,e⟩
  .injection z
  ·(injection z with z;subst z);refine⟨rfl,?_⟩;rcases AN b d with w|w|w
   .obtain⟨p,c,p1,p2⟩:=e b e0 w;rw[i p c p1] at p2;injection p2
   .exact w
   .obtain⟨p,c,p1,p2⟩:=g d f0 w;rw[f p c p1] at p2;injection p2
theorem uX{hs:T}{m n:Int}(B:Bk μ c g (aP x y z) ps)(ht:μ[i0]?=aa (.tab 0))(r:ps.length<64)(i:1<=n)(h2:jk y hs)
  (q:∀h b j,0<=h->bh ps hs m n h b->Ch [] μ j->K (.t [.int h,.int b,.int (b+n)]) j):wG [.m c,hs,.int m,.int n] μ K Z:=by
 refine⟨rfl,?_⟩;rcases h2 with rfl|⟨h,rfl,a,b⟩
 .refine⟨_,_,_,B.com,rfl,(uj B.lst B.at_ (by omega) λh j k ch=>?_)⟩;exact q h m j k.1 (.inl ⟨rfl,rfl,k⟩) ch
 .refine⟨_,B.com,(Qo B (by omega) ?_)⟩;refine ub (λp d=>B.at_ p (fq.mp d).1) (sL (BI ..) r) i ht λb s o f=>q h b μ a (.inr ⟨rfl,s,λp d l=>o p (fq.mpr ⟨d,by simpa using l⟩),λw v h2=>?_⟩) Ch.refl;obtain⟨p,d,e⟩:=f w v h2;obtain⟨u,t⟩:=fq.mp d;exact⟨p,u,by simpa using t,e⟩
theorem IY{ho:ao}{hs:T}{m n:Int}(B:Bk μ c g (aP x y z) ps)(ht:μ[i0]?=aa (.tab 0))(u:ps.length<64)(h0:ho.length<=aB)(h1:qL ho=ae)(h2:jk y hs)(r:1<=n)
  (l:∀h b j,bh ps hs (if m<0 then 0 else m) n h b->(y<=h\/x<b+n)->Ch [] μ j->Z 19 [] j)
  (t:∀h b j a,0<=h->h<y->0<=b->b+n<=x->bh ps hs (if m<0 then 0 else m) n h b->μ.length<=a->Ch [g] μ j->Bk j c g (aP x y z) (ps++[(a,⟨ho,h,b,b+n,b+n,ag⟩)])->K (.t [.int h,.int b,.int (b+n)]) j):ud [.m c,.str ho,hs,.int m,.int n] μ K Z:=by
 refine⟨rfl,_,B.com,(ZY B h0 h1 h2 r ⟨_,B.com,?_⟩)⟩;refine uX B ht u r h2 λh b f v i ch=>?_;have B1:=B.ch ch sC sC sC;have k:0<=b:=by
  have:0<=(if m<0 then 0 else m):=by split<;>omega
  rcases i with⟨_,e,_⟩|⟨_,e,_⟩<;>omega
 refine⟨_,rfl,_,_,_,B1.com,rfl,(zA (λe=>?_) (λe=>?_))⟩
 .exact⟨dC,l h b _ i (.inl e) ch⟩
 .refine⟨_,rfl,_,_,_,B1.com,rfl,(zA (λs=>?_) (λs=>?_))⟩
  .exact⟨dC,l h b _ i (.inr s) ch⟩
  .refine⟨_,_,_,B1.com,rfl,⟨_,B1.lst⟩,?_⟩;have D:=(aO.mp B1.lst).1;refine⟨rfl,_,_,z5,dC,_,_,am z5,by show (1:Nat)<900;decide,?_⟩;refine⟨_,rfl,_,_,am (am z5),by show (2:Nat)<900;decide,?_⟩;refine⟨_,_,am (am (am z5)),by show (3:Nat)<900;decide,?_⟩;refine⟨rfl,?_⟩;have A:∀(μ:Mem) (a b:MO),(μ++[a]).set μ.length b=μ++[b]:=λμ a b=>by rw[iV _ _ (aK _)];simp
   simp only[A];refine⟨_,z3 B1.lst,by rw[aL];unfold aB;omega,?_⟩;refine t h b _ f.length v (by omega) k (by omega) i ch.len ?_ ?_
   .refine (ch.mono sC).trans ((Ch.app.mono sC).trans Ch.set)
   .have o:∀p∈ps,p.1≠g/\p.1<f.length:=λp d=>by
     refine⟨λe=>?_,(aO.mp (B1.at_ p d)).1⟩;have:=B1.at_ p d;rw[e,B1.lst] at this;cases this
    have C:c≠g:=λe=>by
     have:=B1.com;rw[e,B1.lst] at this;cases this
    refine⟨?_,?_,λp d=>?_,?_⟩
    .rw[aX C.symm];exact z3 B1.com
    .rw[bP];exact am (z3 B1.lst)
    .rcases bf.mp d with d|d
     .rw[aX (o p d).1.symm];exact z3 (B1.at_ p d)
     .rw[aT.mp d,aX (by omega)];exact z5
    .rw[bP,gi];refine⟨B1.nd,sC,λa w b q e=>?_⟩;obtain⟨p,d,rfl⟩:=ba.mp w;have q:b=f.length:=by simpa using q
     have:=(o p d).2;omega
theorem bh.free{hs:T}{m n h b:Int}(a:bh ps hs m n h b):∀p∈ps,p.2.h=h->mt p.2 b (b+n)=ag:=by
 rcases a with⟨_,rfl,e⟩|⟨_,e⟩
 .exact e.2.1
 .exact e.2.1
end
noncomputable def pB (G:Gr):List T:=[.str G.ho,.int G.h,.int G.f,.int G.u,.bl G.ct]
structure LR(μ:Mem)(ll:Nat)(ks:List Gp):Prop where
 lst:μ[ll]?=aa (.l (ks.map Gp.t))
 at_:∀p∈ks,μ[p.1]?=aa (.l (pB p.2))
 nd:(ks.map (·.1)).Nodup
theorem Hx(L:LR μ ll ks)(q:∀r:Bool,(r=ae↔∀p∈ks,p.2.h=h->mt p.2 b (b+n)=ag)->K (.bl r) μ):Xe [.m ll,.int h,.int b,.int n] μ K Z:=by
 refine⟨rfl,_,L.lst,(zL (λi k c=>∃o,k=[aa (.m ll),aa (.int h),aa (.int b),aa (.int n),o]/\c=μ/\∀p∈ks.take i,p.2.h=h->mt p.2 b (b+n)=ag) ⟨af,rfl,rfl,sC⟩ ?_ ?_ ?_)⟩
 .rintro i t k c f ⟨o,rfl,rfl,g⟩ N v;rw[bH] at f;cases d:ks[i]? with
  |none=>rw[d] at f;exact z9 f
  |some p=>
   rw[d] at f;(injection f with f;subst f);have u:=aS d;have et:ks.take (i+1)=ks.take i++[p]:=by rw[dM,d];rfl
   have m:=L.at_ p u;refine⟨_,rfl,_,_,m,rfl,(zX (λe=>?_) (λe=>?_))⟩
   .refine⟨_,_,m,rfl,_,_,m,rfl,(zX (λs=>?_) (λs=>?_))⟩
    .refine q ag ⟨λz=>(by injection z),λz=>?_⟩;have:=z p u (by simpa using e);unfold mt at this;rw[s] at this;injection this
    .refine v _ _ ⟨_,rfl,rfl,λl a j=>?_⟩;rw[et] at a;rcases bf.mp a with a|a
     .exact g l a j
     .rw[aT.mp a];exact s
   .refine v _ _ ⟨_,rfl,rfl,λl a j=>?_⟩;rw[et] at a;rcases bf.mp a with a|a
    .exact g l a j
    .rw[aT.mp a] at j;exact absurd j (by simpa using e)
 .rintro k c ⟨o,rfl,rfl,g⟩;rw[aL,eH (aK _)] at g;exact q ae ⟨λ_=>g,λ_=>rfl⟩
 .rintro i k c ⟨o,rfl,rfl,_⟩;exact L.lst
section
variable {z:Int}
theorem uf(q:K .n (μ++[.obj 43 [(9,j),(10,.m (μ.length+1))],.l []])):xF [.m μ.length,j] (μ++[.obj 43 []]) K Z:=by
 have c:∀(μ:Mem) (a b:MO),(μ++[a]).set μ.length b=μ++[b]:=λμ a b=>by rw[iV _ _ (aK _)];simp
 refine⟨rfl,_,_,z5,dC,?_⟩;rw[c];refine⟨_,_,z3 z5,by show (1:Nat)<900;decide,?_⟩;have e:∀(o a b:MO),((μ++[o])++[a]).set μ.length b=μ++[b,a]:=λo a b=>by
  rw[m_,iV _ _ (aK _)];simp
 rw[e];have d:(μ++[MO.obj 43 [(9,j)]]).length=μ.length+1:=by simp
 rw[d];exact q
theorem wR(h0:0<=n)(h1:n<b)(q:K .n μ):vx [.int n,.int b] μ K Z:=by
 exact⟨rfl,(wD h0 h1 q)⟩
theorem WX(a:0<=m)(g:m<x)(h0:0<=h)(h1:h<y)(k0:0<=k)(k1:k<z):0<=(m*y+h)*z+k/\(m*y+h)*z+k<x*y*z/\((m*y+h)*z+k) / z=m*y+h/\(m*y+h) / y=m/\(m*y+h) % y=h:=by
 have b:(m*y+h) / y=m/\(m*y+h) % y=h:=(mf lC).mpr ⟨by rw[gc y,lT],h0,h1⟩;have f:0<=m*y:=mQ a lC;have e:0<=(m*y+h)*z:=mQ lC lC;have d:m*y+y<=x*y:=by
  have:=fG (show m+1<=x by lia) (show 0<=y by lia);rw[iO,om] at this;exact this
 have c:(m*y+h)*z+z<=x*y*z:=by
  have:=fG (show m*y+h+1<=x*y by lia) (show 0<=z by lia);rw[iO,om] at this;exact this
 exact⟨lC,lC,((mf lC).mpr ⟨by rw[gc z,lT],k0,k1⟩).1,b.1,b.2⟩
theorem W5:∀(ps:List Gp),q9 (ps.map λp=>p.2.row)<=1
 |[]=>by simp[q9]
 |p::r=>by
  rw[cC];have h:wU p.2.row=1:=by simp[Gr.row,wU,q9]
  have:=W5 r;simp only[q9];lia
theorem QQ:∀(ps:List Gp),bK (ps.map λp=>p.2.row) (ps.map λp=>p.2.row)=aa ae
 |[]=>rfl
 |p::r=>by
  rw[cC];have h:eqT p.2.row p.2.row=aa ae:=by simp[Gr.row,eqT,bK]
  simp only[bK,QQ r,h];rfl
end
noncomputable abbrev Ls:=Int×Int×Int
noncomputable def bU:Option Ls->T
 |none=>.n
 |some l=>.t [.int l.1,.int l.2.1,.int l.2.2]
noncomputable def bw:Option Int->T
 |none=>.n
 |some m=>.int m
noncomputable abbrev Nj(a:T)(c b:Int)(kp:T)(l:Option Ls)(m n:Option Int)(bt:T)(fl:Bool):List (Nat×T):=[(9,a),(14,.int c),(15,.int b),(16,kp),(6,bU l),(17,bw m),(18,bw n),(19,bt),(20,.bl fl)]
noncomputable abbrev bR(a:T)(c b:Int)(kp:T)(l:Option Ls)(m n:Option Int)(bt:T)(fl:Bool):MO:=.obj 45 (Nj a c b kp l m n bt fl)
theorem F6:∀(l l':Option Ls),eqT (bU l) (bU l')=aa (decide (l=l'))
 |none,af=>by simp[bU,eqT]
 |none,aa b=>by simp[bU,eqT]
 |some a,af=>by simp[bU,eqT]
 |some (a,b,c),aa (d,e,f)=>by
  show eqT (.t _) (.t _)=_;simp only[eqT];rw[tN];simp
theorem G1:∀(l l':Option Int),eqT (bw l) (bw l')=aa (decide (l=l'))
 |none,af=>by simp[bw,eqT]
 |none,aa b=>by simp[bw,eqT]
 |some a,af=>by simp[bw,eqT]
 |some a,aa b=>by
  by_cases h:a=b
  .simp[bw,eqT,h]
  .simp[bw,eqT,h]
theorem JD:bK [bU l,bw m] [bU l',bw m']=aa (decide (l=l')&&decide (m=m')):=by
 simp[bK,F6,G1]
theorem Wv:q9 [bU l,bw m]<=40:=by
 cases l<;>cases m<;>simp[bU,bw,q9,wU]
theorem qQ(h:μ[i]?=aa (bR j u s kp l m n bt ag))(q:K .n μ):qe [.m i] μ K Z:=by
 exact⟨rfl,_,_,_,h,rfl,q⟩
theorem Mh(h:μ[i]?=aa (bR j u s kp l m n bt ag))(q:K (.t [bU l,bw m]) μ):uM [.m i] μ K Z:=by
 exact⟨rfl,_,_,_,h,rfl,_,_,_,h,rfl,q⟩
theorem yt(h0:0<=h)(h1:h<y)(f0:0<=f)(fu:f<u)(ux:u<=x)(q:K .n μ):j7 [aP x y z,.t [.int h,.int f,.int u]] μ K Z:=by
 exact⟨rfl,(vR h0 h1 f0 fu ux q)⟩
structure bX(x y:Int)(l:Ls):Prop where
 h0:0<=l.1
 h1:l.1<y
 f0:0<=l.2.1
 fu:l.2.1<l.2.2
 ux:l.2.2<=x
theorem vy(h:0<=a)(q:K (.bl ae) μ):wk [.int a] μ K Z:=by
 refine⟨rfl,(zp ?_)⟩;have q:K (.bl (decide (0<=a))) μ:=decide_eq_true h▸q;exact q
structure Hz(x y z:Int):Prop where
 x1:1<=x
 y1:1<=y
 y2:y<=1000000
 z1:1<=z
 z2:z<=1000000
theorem Hz.sy(s:Hz x y z):Sy y z:=⟨s.y1,by have:=s.y2;lia,s.z1,by have:=s.z2;lia⟩
theorem xJ(s:Hz x y z)(h0:0<=k)(h1:k<x*y*z)(q:K (.t [.int (k / z / y),.int (k / z % y),.int (k % z)]) μ):u4 [aP x y z,.int k] μ K Z:=by
 obtain⟨e,d,c,b,a⟩:=id s;refine⟨rfl,(uR s.sy (by rw[decide_eq_true h0,decide_eq_true h1];rfl) ?_)⟩;refine⟨lC,⟨lC,lC⟩,⟨lC,lC⟩,lC,?_⟩;exact q
noncomputable def cV (y z h k:Int):Int:=if k / z % y<h then k / z / y*z else if h<k / z % y then (k / z / y+1)*z else k / z / y*z+k % z+1
theorem ug(s:Hz x y z)(h0:0<=k)(h1:k<x*y*z)(q:K (.int (cV y z h k)) μ):xX [aP x y z,.int h,.int k] μ K Z:=by
 obtain⟨f,d,c,b,a⟩:=id s;refine⟨rfl,(xJ s h0 h1 ⟨_,rfl,?_⟩)⟩;unfold cV at q;refine zA (λe=>?_) (λe=>?_)
 .rw[if_pos e] at q;refine⟨_,rfl,.inr ⟨by unfold big;lia,by unfold big;lia⟩,?_⟩;exact q
 .rw[if_neg e] at q;refine⟨_,rfl,(zA (λe=>?_) (λe=>?_))⟩
  .rw[if_pos e] at q;refine⟨_,rfl,.inr ⟨by unfold big;lia,by unfold big;lia⟩,?_⟩;exact q
  .rw[if_neg e] at q;refine⟨_,rfl,.inr ⟨by unfold big;lia,by unfold big;lia⟩,_,rfl,?_⟩;exact q
noncomputable def Zx(y z h:Int):Option Int->Int
 |none=>0
 |some k=>cV y z h k
noncomputable def qC (y z:Int)(a:Ls)(n:Option Int)(r:Int):Int:=if Zx y z a.1 n<(if a.2.1<r then r else a.2.1)*z then (if a.2.1<r then r else a.2.1)*z else Zx y z a.1 n
noncomputable abbrev bG(z r a e:Int):Int:=(e-1) / z-(r+a)
noncomputable abbrev uZ(h b e:Int):T:=.obj 44 [(11,.int h),(12,.int b),(13,.int e)]
noncomputable def bA (y z h p:Int):Int:=(p / z*y+h)*z+p % z
noncomputable def bu (y z h b k:Int):List Int:=(dm k.toNat).map λ(j:Nat)=>bA y z h (b+j)
theorem Vl(s:Hz x y z)(b:0<=j)(a:j<x)(h0:0<=h)(h1:h<y)(k0:0<=k)(k1:k<z)(q:K (.int ((j*y+h)*z+k)) μ):Jh [aP x y z,.int j,.int h,.int k] μ K Z:=by
 obtain⟨g,f,e,d,c⟩:=id s;refine⟨rfl,(wR b a (wR h0 h1 (wR k0 k1 ?_)))⟩;refine⟨.inr ⟨by unfold big;lia,by unfold big;lia⟩,.inr ⟨by unfold big;lia,by unfold big;lia⟩,?_⟩;exact q
theorem place_lt(s:Hz x y z)(h1:p<x*z):p / z<x:=by
 have:=s.z1;exact oU lC h1
theorem uE(s:Hz x y z)(p0:0<=p)(p1:p<x*z)(h0:0<=h)(h1:h<y)(q:K (.int (bA y z h p)) μ):Q7 [aP x y z,.int h,.int p] μ K Z:=by
 obtain⟨e,d,c,b,a⟩:=id s;refine⟨rfl,⟨lC,lC⟩,lC,?_⟩;exact Vl s (oz p0 lC) (place_lt s p1) h0 h1 (fV _ lC) (fW _ lC) q
theorem Jw(s:Hz x y z)(f0:0<=a.2.1):0<=qC y z a n r/\(if a.2.1<r then r else a.2.1)*z<=qC y z a n r/\Zx y z a.1 n<=qC y z a n r:=by
 have g:0<=(if a.2.1<r then r else a.2.1)*z:=mQ (by split<;>lia) (by have:=s.z1;lia);unfold qC;split<;>lia
theorem k_(q:∀a b,K (.m μ.length) (μ++[.l [.int a,.int b,.int 0]])):ke [.int c] μ K Z:=by
 refine⟨rfl,dC,dC,.inr ⟨by unfold big;lia,by unfold big;lia⟩,?_⟩;exact q _ _
theorem XM(q:∀v:Int,K (.int v) μ):JR [.int c,.int k] μ K Z:=by
 refine⟨rfl,dC,.inl dC,.inr dC,dC,dC,?_⟩;have b:∀a:Int,0<=a % 2147483629/\a % 2147483629<2147483629:=λa=>⟨fV _ dC,fW _ dC⟩;refine⟨.inl ⟨by have:=(b ((c % 2147483629+69621*k+1)*48271));unfold big;omega,by have:=(b ((c % 2147483629+69621*k+1)*48271));unfold big;omega⟩,dC,dC,.inl ⟨by have:=b ((c % 2147483629+69621*k+1)*48271 % 2147483629*((c % 2147483629+69621*k+1)*48271 % 2147483629 / 1009+69621));unfold big;omega,by have:=b ((c % 2147483629+69621*k+1)*48271 % 2147483629*((c % 2147483629+69621*k+1)*48271 % 2147483629 / 1009+69621));unfold big;omega⟩,dC,dC,?_⟩;generalize d:(c % 2147483629+69621*k+1)*48271 % 2147483629*((c % 2147483629+69621*k+1)*48271 % 2147483629 / 1009+69621) % 2147483629*((c % 2147483629+69621*k+1)*48271 % 2147483629*((c % 2147483629+69621*k+1)*48271 % 2147483629 / 1009+69621) % 2147483629 / 907+16807+k)=A;refine⟨.inl ⟨by have:=b A;unfold big;omega,by have:=b A;unfold big;omega⟩,dC,?_⟩;exact q _
section
variable {z:Int}
theorem WG(j:0<=c)(i:c<z)(d0:0<=d)(g:d<z):a*z+c<b*z+d↔a<b\/(a=b/\c<d):=by
 have up:∀{p q:Int},p<q->p*z+z<=q*z:=λ{p q} h=>by
  have:=fG (show p+1<=q by lia) (show 0<=z by lia);rw[iO,om] at this;exact this
 constructor
 .intro h;by_cases e:a<b
  .exact .inl e
  .by_cases f:a=b
   .subst f;exact .inr ⟨rfl,lC⟩
   .have:=up (show b<a by lia);lia
 .rintro (h|⟨rfl,h⟩)
  .have:=up h;lia
  .lia
theorem yB(k:Int)(y z:Int):k=(k / z / y*y+k / z % y)*z+k % z:=by
 have a:=nu (k / z) y;rw[gc (k / z / y) y,a,gc (k / z) z];exact (nu k z).symm
theorem jM(s:Hz x y z)(h0:0<=h)(h1:h<y):k<bA y z h p↔cV y z h k<=p:=by
 obtain⟨E,D,C,v,u⟩:=id s;have m:=fV k (show z≠0 by lia);have l:=fW k (show 0<z by lia);have j:=fV p (show z≠0 by lia);have i:=fW p (show 0<z by lia);have f:=fV (k / z) (show y≠0 by lia);have d:=fW (k / z) (show 0<y by lia);have q:=yB k y z;unfold bA cV;conv=>lhs;lhs;rw[q]
 rw[WG m l j i,WG f d h0 h1];have g:∀A:Int,A*z<=p↔A<=p / z:=λA=>(ny lC).symm;have c:∀A B:Int,A*y+k / z % y=B*y+h↔A=B/\k / z % y=h:=λA B=>by
  have o:=WG (a:=A) (b:=B) f d h0 h1;have n:=WG (a:=B) (b:=A) h0 h1 f d;constructor
  .intro e;have G:¬(A<B\/(A=B/\k / z % y<h)):=λw=>by have:=o.mpr w;lia
   have F:¬(B<A\/(B=A/\h<k / z % y)):=λw=>by have:=n.mpr w;lia
   lia
  .rintro⟨rfl,e⟩;rw[e]
 rw[c];split
 .rename_i e;rw[g];lia
 .split
  .rename_i t r;rw[g];lia
  .rename_i t r;have H:=WG (a:=k / z / y) (b:=p / z) m l j i;have:p=p / z*z+p % z:=by rw[gc];exact (nu p z).symm
   constructor
   .intro w;lia
   .intro w;lia
theorem yh(s:Hz x y z)(h0:0<=h)(h1:h<y)(n:p<q):bA y z h p<bA y z h q:=by
 obtain⟨m,l,k,j,i⟩:=id s;have f:=fV p (show z≠0 by lia);have e:=fW p (show 0<z by lia);have d:=fV q (show z≠0 by lia);have c:=fW q (show 0<z by lia);have r:p=p / z*z+p % z:=by rw[gc];exact (nu p z).symm
 have o:q=q / z*z+q % z:=by rw[gc];exact (nu q z).symm
 have g:=(WG (a:=p / z) (b:=q / z) f e d c).mp lC;unfold bA;rw[WG f e d c];rcases g with w|⟨w,v⟩
 .have:=(WG h0 h1 h0 h1).mpr (.inl w);exact .inl this
 .rw[w];exact .inr ⟨rfl,v⟩
theorem we(s:Hz x y z)(h0:0<=h)(h1:h<y):bA y z h p / z / y=p / z/\bA y z h p / z % y=h/\bA y z h p % z=p % z:=by
 obtain⟨i,g,f,e,d⟩:=id s;have c:=fW p (show 0<z by lia);have a:((p / z*y+h)*z+p % z) / z=p / z*y+h/\((p / z*y+h)*z+p % z) % z=p % z:=(mf lC).mpr ⟨by rw[gc z,lT],(fV p (show z≠0 by lia)),c⟩;have b:(p / z*y+h) / y=p / z/\(p / z*y+h) % y=h:=(mf lC).mpr ⟨by rw[gc y,lT],h0,h1⟩;unfold bA;rw[a.1,b.1,b.2,a.2];exact⟨rfl,rfl,rfl⟩
theorem Gg(s:Hz x y z)(e:k / z % y=h):bA y z h (k / z / y*z+k % z)=k/\(k / z / y*z+k % z) / z=k / z / y:=by
 obtain⟨i,g,f,d,c⟩:=id s;have b:=fW k (show 0<z by lia);have a:(k / z / y*z+k % z) / z=k / z / y/\(k / z / y*z+k % z) % z=k % z:=(mf lC).mpr ⟨by rw[gc z,lT],(fV k (show z≠0 by lia)),b⟩;refine⟨?_,a.1⟩;unfold bA;rw[a.1,a.2,<-e];exact (yB k y z).symm
theorem CU(s:Hz x y z)(h0:0<=h)(h1:h<y)(p0:0<=p)(p1:p<x*z):0<=bA y z h p/\bA y z h p<x*y*z:=by
 obtain⟨e,d,c,b,a⟩:=id s;have:=WX (oz p0 (show 0<=z by lia)) (place_lt s p1) h0 h1 (fV p (show z≠0 by lia)) (fW p (show 0<z by lia));exact⟨this.1,this.2.1⟩
theorem WA{h b:Int}{c:Nat}:bu y z h b ((c:Int)+1)=bu y z h b c++[bA y z h (b+c)]:=by
 unfold bu;have:((c:Int)+1).toNat=c+1:=by lia
 rw[this,List.range_succ];simp
end
noncomputable abbrev cA(x y z:Int):T:=.t [.int x,.int y,.int z]
theorem W3(k1:1<=k):qS ((bu y z h b k).map T.int) (-1)=aa (T.int (bA y z h (b+k-1))):=by
 obtain⟨c,a⟩:∃c:Nat,k=c+1:=⟨(k-1).toNat,lC⟩;subst a;rw[WA,bP];unfold qS V0;rw[if_neg dC,if_pos (by simp;lia)];have:(-1+(((bu y z h b (c:Int)).map T.int++[bA y z h (b+c)].map T.int).length:Int)).toNat=((bu y z h b c).map T.int).length:=by
  simp;lia
 rw[this];simp;congr 1;lia
theorem uq:∀j:List Int,bK (j.map T.int) (j.map T.int)=aa ae
 |[]=>rfl
 |k::r=>by simp[bK,eqT,uq r]
theorem LA{v w:ao}{b c:Int}:bK [.str v,.int b] [.str w,.int c]=aa (decide (v=w)&&decide (b=c)):=by
 have h:∀i j:Int,(i==j)=decide (i=j):=λi j=>by
  by_cases z:i=j<;>simp[z]
 have a:(v==w)=decide (v=w):=by
  by_cases z:v=w<;>simp[z]
 simp[bK,eqT,h,a]
theorem jh:(bu y z h b k).length=k.toNat:=by unfold bu;simp
theorem UM(h1:0<=k1)(h2:0<=k2):bu y z h b (k1+k2)=bu y z h b k1++bu y z h (b+k1) k2:=by
 unfold bu;have e:(k1+k2).toNat=k1.toNat+k2.toNat:=by lia
 rw[e,List.range_add,bP,bB];congr 1;refine md λj _=>?_;show bA y z h (b+(k1.toNat+j:Nat))=bA y z h (b+k1+j);congr 1;push_cast;lia
theorem QY:bu y z h b 0=[]:=rfl
theorem Kw(hk:b<=e):jL b e 1=(dm (e-b).toNat).map λ(j:Nat)=>T.int (b+j):=by
 unfold jL;by_cases c:b<e
 .rw[if_pos c];have:(e-b-1) / 1+1=e-b:=by rw[rV];lia
  simp
 .rw[if_neg c];have:(e-b).toNat=(0:Int).toNat:=by lia
  rw[this];rfl
theorem xK(s:Hz x y z)(hb:x*z<1000000000000000000000000000000000000000000000000000000000000)(b0:0<=b)(be:b<=e)(k2:e-b<=1000)(ex:e<=x*z)(h0:0<=h)(h1:h<y)(q:K (.m μ.length) (μ++[.l ((bu y z h b (e-b)).map T.int)])):qJ [aP x y z,uZ h b e] μ K Z:=by
 refine⟨rfl,⟨⟨lC,lC⟩,⟨lC,lC⟩⟩,?_⟩;rw[Kw be];refine⟨by rw[aL,mT];unfold aB;lia,?_⟩;refine zH (λ(j:Nat)=>T.int (b+j)) (λ(j:Nat)=>aa (T.int (bA y z h (b+j)))) (λj c d a=>?_) ?_ trivial
 .have c:=io.mp c;exact⟨_,rfl,(uE s lC lC h0 h1 a)⟩
 .rw[gu];unfold bu at q;rw[bB] at q;exact q
theorem vn:∀ns:List Int,bM (ns.map T.int)=aa ns
 |[]=>rfl
 |n::r=>by show (bM (r.map T.int)).map (n::·)=_;rw[vn r];rfl
theorem V1{α:Type}(A B C:List α)(n a:Nat)(b:A.length=a)(hc:(B=[]/\a<=n)\/n=a):(A++(B++C)).take n=A++C.take (n-a)/\(A++(B++C)).drop n=B++C.drop (n-a):=by
 subst b;rcases hc with⟨rfl,h⟩|rfl
 .rw[oO,List.take_append,List.drop_append,eH h,List.drop_of_length_le h];exact⟨rfl,rfl⟩
 .rw[Nat.sub_self,List.take_left,List.drop_left];simp
section
variable {ks:List Gp}
noncomputable def dq (ks:List Gp)(h b n:Int):Prop:=∀p∈ks,p.2.h=h->mt p.2 b (b+n)=ag
theorem Um{C:List Int}(n1:1<=n)(r:m∈C)(l:∀p∈ks,m<p.2.u->p.2.u∈C)(F:dq ks h b n)(mb:m<=b)(H:∀c∈C,c<=b->¬dq ks h c n):False:=by
 have go:∀(k:Nat) (c:Int),c∈C->m<=c->c<=b->(b-c).toNat=k->False:=by
  intro k;induction k using Nat.strongRecOn with
  |ind k j=>
   intro c q t s e;refine H c q s λp d i=>?_;cases o:mt p.2 c (c+n) with
   |false=>rfl
   |true=>
    exfalso;have a:=wQ.mp o;have f:=F p d i;have g:p.2.u<=b:=by
     apply sZ;intro w;have:mt p.2 b (b+n)=ae:=wQ.mpr (by omega);rw[f] at this;injection this
    exact j (b-p.2.u).toNat (by omega) p.2.u (l p d (by omega)) (by omega) g rfl
 exact go _ m r (d6 _) mb rfl
theorem dq.no(a:¬dq ks h b n):∃p∈ks,p.2.h=h/\mt p.2 b (b+n)=ae:=by
 apply sZ;intro no;refine a λp d ep=>?_;cases c:mt p.2 b (b+n) with
 |false=>rfl
 |true=>exact (no ⟨p,d,ep,c⟩).elim
noncomputable abbrev pR(c:Int×Int):T:=.t [.int c.1,.int c.2]
theorem LR.ne(L:LR μ ll ks):∀p∈ks,p.1≠ll:=λp b e=>by
 have a:=L.at_ p b;rw[e,L.lst] at a;have:ks.map Gp.t=pB p.2:=by injection a with a;injection a
 cases ks with
 |nil=>contradiction
 |cons q r=>rw[cC] at this;injection this with t _;injection t
theorem LR.add{G:Gr}(L:LR μ ll ks):LR ((μ++[MO.l (pB G)]).set ll (MO.l (ks.map Gp.t++[T.m μ.length]))) ll (ks++[(μ.length,G)]):=by
 have l1:=(aO.mp L.lst).1;refine⟨?_,λp c=>?_,?_⟩
 .rw[bP];exact am (z3 L.lst)
 .rcases bf.mp c with c|c
  .rw[aX (L.ne p c).symm];exact z3 (L.at_ p c)
  .rw[aT.mp c,aX (by omega)];exact z5
 .rw[bP,gi];refine⟨L.nd,sC,λa d b hb e=>?_⟩;obtain⟨p,c,rfl⟩:=ba.mp d;have hb:b=μ.length:=by simpa using hb
  have:=(λp c=>(aO.mp (L.at_ p c)).1) p c;omega
theorem CN{cs:List (Int×Int)}(L:LR μ ll ks)(v:ks.length<1000)
  (u:(∀c∈cs,c.2+n<=x->¬dq ks c.1 c.2 n)->K .n μ)
  (q:∀i c j,cs[i]?=aa c->(∀s∈cs.take i,s.2+n<=x->¬dq ks s.1 s.2 n)->dq ks c.1 c.2 n->c.2+n<=x->Ch [ll] μ j->LR j ll (ks++[(μ.length,⟨ho,c.1,c.2,c.2+n,c.2+n,ag⟩)])->K (.t [.int c.1,.int c.2,.int (c.2+n)]) j) :
  zM (jb.drop 3) [aa (.m ll),aa (.t [.int x,.int y,.int z]),aa (.str ho),aa hs,aa (.int m),aa (.int n),af,aa (.l (cs.map pR)),af] μ (En.fn K Z):=by
 refine zL (λi h j=>∃l k,h=[aa (.m ll),aa (.t [.int x,.int y,.int z]),aa (.str ho),aa hs,aa (.int m),aa (.int n),l,aa (.l (cs.map pR)),k]/\j=μ/\∀c∈cs.take i,c.2+n<=x->¬dq ks c.1 c.2 n) ⟨af,af,rfl,rfl,sC⟩ ?_ ?_
 .rintro i t h j d ⟨l,k,rfl,rfl,f⟩ N p;rw[bH] at d;cases b:cs[i]? with
  |none=>rw[b] at d;exact z9 d
  |some c=>
   rw[b] at d;(injection d with d;subst d);have et:cs.take (i+1)=cs.take i++[c]:=by rw[dM,b];rfl
   have no:(c.2+n<=x->¬dq ks c.1 c.2 n)->∀s∈cs.take (i+1),s.2+n<=x->¬dq ks s.1 s.2 n:=λw s a=>by
    rw[et] at a;rcases bf.mp a with a|a
    .exact f s a
    .rw[aT.mp a];exact w
   refine⟨_,rfl,_,rfl,(zA (λe=>?_) (λe=>?_))⟩
   .refine Hx L λr o=>zX (λg=>?_) (λg=>?_)
    .refine⟨⟨_,L.lst⟩,_,z3 L.lst,by rw[aL];unfold aB;omega,?_⟩;exact q i c _ b f (o.mp g) e ((Ch.app.mono sC).trans Ch.set) (L.add (G:=⟨ho,c.1,c.2,c.2+n,c.2+n,ag⟩))
    .exact p _ _ ⟨_,_,rfl,rfl,no λ_ F=>by rw[o.mpr F] at g;injection g⟩
   .exact p _ _ ⟨_,_,rfl,rfl,no λw=>absurd w e⟩
 .rintro h j ⟨l,k,rfl,rfl,f⟩;rw[aL,eH (aK _)] at f;exact u f
theorem LR.ch{S:List Nat}(L:LR μ ll ks)(ch:Ch S μ j)(h1:ll∉S)(h2:∀p∈ks,p.1∉S):LR j ll ks:=⟨ch.get L.lst h1,λp a=>ch.get (L.at_ p a) (h2 p a),L.nd⟩
theorem G6{us:List Gp}{c:Int}(hc:c∈m::(ks.filterMap λp=>if m<p.2.u then aa p.2.u else af)):m<=c:=by
 rcases bC.mp hc with rfl|hc
 .exact d6 _
 .obtain⟨p,a,e⟩:=lp.mp hc;split at e
  ·(replace e:=zo e;subst e);omega
  .exact z9 e
theorem FU(L:LR μ ll ks)(hl:ks.length<63)(n1:1<=n)(h2:jk y hs)(y1:1<=y)(y2:y<1000)
  (M:∀s,(∀h b,bh ks hs m n h b->y<=h\/x<b+n)->Ch [] μ s->K .n s)
  (J:∀h b s a,0<=h->h<y->b+n<=x->bh ks hs m n h b->μ.length<=a->Ch [ll] μ s->LR s ll (ks++[(a,⟨ho,h,b,b+n,b+n,ag⟩)])->K (.t [.int h,.int b,.int (b+n)]) s):zM (jb.drop 1) [aa (.m ll),aa (.t [.int x,.int y,.int z]),aa (.str ho),aa hs,aa (.int m),aa (.int n),af,af,af] μ (En.fn K Z):=by
 have ch0:Ch [] μ (μ++[MO.l [T.int m]]):=Ch.app;have q:=L.ch ch0 sC sC;refine⟨_,q.lst,by rw[aL];unfold aB;omega,?_⟩;refine zH Gp.t (λp=>if m<p.2.u then aa (.int p.2.u) else af) (λp d k o=>?_) ?_ q.lst
 .refine⟨_,rfl,_,_,q.at_ p d,rfl,(zA (λe=>?_) (λe=>?_))⟩
  .rw[if_pos e] at o;exact⟨_,_,q.at_ p d,rfl,o⟩
  .rw[if_neg e] at o;exact o
 .have e:ks.filterMap (λp=>if m<p.2.u then aa (T.int p.2.u) else af)=(ks.filterMap λp=>if m<p.2.u then aa p.2.u else af).map T.int:=by
   rw[List.map_filterMap];congr 1;funext p;split<;>rfl
  rw[e];have fl:=List.length_filterMap_le (λp:Gp=>if m<p.2.u then aa p.2.u else af) ks;refine⟨_,z5,by rw[aL];unfold aB;show 1+_<=_;omega,?_⟩;have ei:=vn (m::ks.filterMap λp=>if m<p.2.u then aa p.2.u else af);refine⟨by rw[eX,aL];show 1+_<_;omega,.inl ⟨_,ei,λv d A=>?_⟩⟩;have R:=d.length_eq;rw[eG] at R;refine⟨by rw[aL];unfold aB;omega,?_⟩;refine zH T.int (λc=>aa (.t [hs,.int c])) (λp d k o=>⟨_,rfl,o⟩) ?_;rw[gu];rcases h2 with rfl|⟨h,rfl,C,N⟩
  .refine⟨_,rfl,by omega,?_⟩;refine⟨by rw[uk];unfold aB;omega,?_⟩;refine zH (λi:Nat=>T.int i) (λi=>aa (.t [.int i,.int m])) (λp d k o=>⟨_,rfl,o⟩) ?_;rw[gu];have H:(dm y.toNat).map (λi:Nat=>T.t [.int i,.int m])=((dm y.toNat).map λi:Nat=>((i:Int),m)).map pR:=by rw[bB];rfl
   rw[H];have X:∀{i:Nat}{c:Int×Int},((dm y.toNat).map λi:Nat=>((i:Int),m))[i]?=aa c->c=((i:Int),m)/\i<y:=λ{i c} e=>by
    rw[bH] at e;cases g:(dm y.toNat)[i]? with
    |none=>rw[g] at e;exact z9 e
    |some k=>
     rw[g] at e;(injection e with e;subst e);obtain⟨a,b⟩:=aO.mp g;rw[AS] at b;rw[mT] at a;subst b;exact⟨rfl,by omega⟩
   refine CN q (by omega) (λw=>M _ (λh b l=>?_) ch0) λi c s f w F e ch L2=>?_
   .rcases l with⟨_,rfl,G,E,Y⟩|⟨z,_⟩
    .by_cases N:h<y
     .refine .inr (Int.not_le.mp λe=>w (h,b) (ba.mpr ⟨h.toNat,io.mpr (by omega),by rw[A5 G]⟩) e E)
     .exact .inl (by omega)
    .injection z
   .obtain⟨rfl,U⟩:=X f;refine J i m s _ (by omega) U e (.inl ⟨rfl,rfl,by omega,F,λD C O=>dq.no λI=>?_⟩) sC ((ch0.mono sC).trans ch) L2;refine w (D,m) (BR.mpr ⟨D.toNat,by rw[aL,mT];omega,?_⟩) e I;rw[List.getElem_map,AS,A5 C]
  .have H:v.map (λc=>T.t [.int h,.int c])=(v.map λc=>(h,c)).map pR:=by rw[bB];rfl
   rw[H];have Q:=d.mem_iff.mpr dt;have P:∀p∈ks,m<p.2.u->p.2.u∈v:=λp B V=>d.mem_iff.mpr (cJ _ (lp.mpr ⟨p,B,by rw[if_pos V]⟩));refine CN q (by omega) (λw=>M _ (λD b l=>?_) ch0) λi c s f w F e ch L2=>?_
   .rcases l with⟨z,_⟩|⟨z,G,E,Y⟩
    .injection z
    ·(injection z with z;subst z);refine .inr (Int.not_le.mp λe=>Um n1 Q P E G λc r cb=>w (h,c) (ba.mpr ⟨c,r,rfl⟩) (show c+n<=x by omega))
   .rw[bH] at f;cases g:v[i]? with
    |none=>rw[g] at f;exact z9 f
    |some k=>
     rw[g] at f;(injection f with f;subst f);have S:=aS g;refine J h k s _ C N e (.inr ⟨rfl,(λc r=>G6 (us:=[]) (d.mem_iff.mp r)) k S,F,λb' O h2=>dq.no λI=>?_⟩) sC ((ch0.mono sC).trans ch) L2;have e:k+n<=x:=e;refine Um n1 Q P I O λc r cb=>w (h,c) ?_ (show c+n<=x by omega);rw[<-rH];refine ba.mpr ⟨c,?_,rfl⟩;obtain⟨j,W⟩:=dD.mp r;obtain⟨a1,b1⟩:=aO.mp W;obtain⟨a2,b2⟩:=aO.mp g;refine BR.mpr ⟨j,?_,b1⟩;apply sZ;intro z;have z:i<=j:=by omega
     rcases Nat.lt_or_eq_of_le z with z|rfl
     .have:=(eY.mp A) i j a2 a1 z;omega
     .omega
theorem Ga(L:LR μ ll ks)(e:ks.length<63)(n1:1<=n)(h2:jk y hs)(y1:1<=y)(y2:y<1000)
  (d:∀j,(∀h b,bh ks hs (if m<0 then 0 else m) n h b->y<=h\/x<b+n)->Ch [] μ j->K .n j)
  (c:∀h b j a,0<=h->h<y->b+n<=x->bh ks hs (if m<0 then 0 else m) n h b->μ.length<=a->Ch [ll] μ j->LR j ll (ks++[(a,⟨ho,h,b,b+n,b+n,ag⟩)])->K (.t [.int h,.int b,.int (b+n)]) j):ZN [.m ll,.t [.int x,.int y,.int z],.str ho,hs,.int m,.int n] μ K Z:=by
 exact⟨rfl,(FU L e n1 h2 y1 y2 d c)⟩
end
theorem Mu{b:Bool}{A B:Prop}(h1:b=ae->B)(h2:b=ag->A):fY (!b) A B:=by
 cases b
 .exact zX (λ_=>h2 rfl) (λz=>by injection z)
 .exact zX (λz=>by injection z) (λ_=>h1 rfl)
theorem LR.cut{c:Mem}(L:LR μ ll ks)(g:p∈ks)(h1:c[p.1]?=aa (.l (pB {p.2 with u:=e,ct:=ae})))(ch:Ch [p.1] μ c):LR c ll (bQ p.1 e ks):=by
 refine⟨?_,λq f=>?_,?_⟩
 .rw[XJ];exact ch.get L.lst (by simpa using (L.ne p g).symm)
 .unfold bQ at f;obtain⟨o,d,rfl⟩:=ba.mp f;split
  .rename_i w;obtain⟨i,hi⟩:=dD.mp g;obtain⟨j,hj⟩:=dD.mp d;have a:(ks.map (·.1))[i]?=aa p.1:=by rw[bH,hi];rfl
   have b:(ks.map (·.1))[j]?=aa p.1:=by rw[bH,hj,<-w];rfl
   obtain⟨n,m⟩:=aO.mp a;obtain⟨l,k⟩:=aO.mp b;have r:i=j:=by
    rcases oH i j with h|h|h
    .exact absurd (m.trans k.symm) (eY.mp L.nd i j n l h)
    .exact h
    .exact absurd (k.trans m.symm) (eY.mp L.nd j i l n h)
   subst r;rw[hi] at hj;(replace hj:=zo hj;subst hj);exact h1
  .rename_i w;exact ch.get (L.at_ o d) (by simpa using w)
 .rw[k7];exact L.nd
theorem Gj(L:LR μ ll ks)(y:p∈ks)(J:p.2.h=h)(D:p.2.f=f)(I:p.2.u=u)(H:p.2.ct=ag)(one:∀q∈ks,q.2.h=h->q.2.f=f->q.2.u=u->q.2.ct=ag->q=p)(G:pz f u B e)
  (q:∀j,Ch [p.1] μ j->LR j ll (bQ p.1 e ks)->K .n j):Qi [.m ll,.t [.int h,.int f,.int u],B] μ K Z:=by
 refine⟨rfl,_,L.lst,(zL (λi m j=>∃o,m=[aa (.m ll),aa (.t [.int h,.int f,.int u]),aa B,o]/\j=μ/\p∉ks.take i) ⟨af,rfl,rfl,sC⟩ ?_ ?_ ?_)⟩
 .rintro i t m j g ⟨o,rfl,rfl,s⟩ N C;rw[bH] at g;cases d:ks[i]? with
  |none=>rw[d] at g;exact z9 g
  |some r=>
   rw[d] at g;(injection g with g;subst g);have A:=aS d;have n:=L.at_ r A;have et:ks.take (i+1)=ks.take i++[r]:=by rw[dM,d];rfl
   have no:r≠p->p∉ks.take (i+1):=λw b=>by
    rw[et] at b;rcases bf.mp b with b|b
    .exact s b
    .exact w (aT.mp b).symm
   refine⟨_,rfl,_,n,show q9 [T.int r.2.h,T.int r.2.f,T.int r.2.u]<=40 by show (0:Nat)<=40;decide,_,tN,?_⟩;refine zX (λw=>?_) (λw=>?_)
   .obtain⟨E,k⟩:=BA.mp w;obtain⟨k,x⟩:=BA.mp k;have k:=of_decide_eq_true k;have x:=of_decide_eq_true x;refine⟨_,_,n,rfl,(Mu (λc=>?_) (λc=>?_))⟩
    .exact C _ _ ⟨_,rfl,rfl,no λz=>by rw[z,H] at c;injection c⟩
    .have F:=one r A (of_decide_eq_true E) k x c;subst F;have l:∀a:MO,(j.set r.1 a)[r.1]?=aa a:=λa=>am n;refine .inl ⟨_,n,⟨dC,by show (4:Int)<5;decide,dC⟩,?_⟩;refine⟨_,_,l _,rfl,(.inl ⟨_,l _,⟨dC,by show (3:Int)<5;decide,dC⟩,?_⟩)⟩;rw[rG];rcases G with⟨rfl,rfl⟩|⟨v,rfl,O,M,rfl⟩
     .refine q _ Ch.set (L.cut y ?_ Ch.set);rw[l,<-D];rfl
     .refine .inl ⟨_,l _,⟨dC,by show (3:Int)<5;decide,dC⟩,?_⟩;rw[rG];refine q _ Ch.set (L.cut y ?_ Ch.set);rw[l];rfl
   .refine C _ _ ⟨_,rfl,rfl,no λz=>?_⟩;rw[z,J,D,I] at w;simp at w
 .rintro m j ⟨o,rfl,rfl,s⟩;rw[aL,eH (aK _)] at s;exact absurd y s
 .rintro i m j ⟨o,rfl,rfl,_⟩;exact L.lst
theorem GS{A a B:MO}:(μ++[A]++[B]).set μ.length a=μ++[a]++[B]:=by
 rw[m_,iV _ _ (aK _)];simp
theorem FD{A B a:MO}:(μ++[A]++[B]).set (μ++[A]).length a=μ++[A]++[a]:=by
 rw[iV _ _ (aK _)];simp
theorem Ch.ge(a:Ch [] μ s)(b:Ch S s μ2)(h:∀j∈S,μ.length<=j):Ch [] μ μ2:=
 ⟨cf a.len b.len,λj hj _=>(b.ot j (cz hj a.len) λw=>absurd (h j w) lC).trans (a.ot j hj sC)⟩
theorem Y7(ho:μ[i]?=aa (.obj 45 []))(c:0<=u)(hs:0<=z)(q:∀j bi,Ch [i] μ j->μ.length<=bi->j[i]?=aa (bR s u z kp af af af (.m bi) ag)->j[bi]?=aa (.l [])->K .n j) :
  vt [.m i,s,.int u,.int z,kp,.n] μ K Z:=by
 have b:=(aO.mp ho).1;refine⟨rfl,(vy c (vy hs ⟨_,_,ho,dC,?_⟩))⟩;refine⟨_,_,am ho,by show (1:Nat)<900;decide,?_⟩;refine⟨_,_,am (am ho),by show (2:Nat)<900;decide,?_⟩;refine⟨_,_,am (am (am ho)),by show (3:Nat)<900;decide,?_⟩;refine⟨_,_,am (am (am (am ho))),by show (4:Nat)<900;decide,?_⟩;refine⟨_,_,am (am (am (am (am ho)))),by show (5:Nat)<900;decide,?_⟩;refine⟨_,_,am (am (am (am (am (am ho))))),by show (6:Nat)<900;decide,?_⟩;have a:=am (y:=.obj 45 [(9,s),(14,.int u),(15,.int z),(16,kp),(6,.n),(17,.n),(18,.n)]) (am (y:=.obj 45 [(9,s),(14,.int u),(15,.int z),(16,kp),(6,.n),(17,.n)]) (am (y:=.obj 45 [(9,s),(14,.int u),(15,.int z),(16,kp),(6,.n)]) (am (y:=.obj 45 [(9,s),(14,.int u),(15,.int z),(16,kp)]) (am (y:=.obj 45 [(9,s),(14,.int u),(15,.int z)]) (am (y:=.obj 45 [(9,s),(14,.int u)]) (am (y:=.obj 45 [(9,s)]) ho))))));refine⟨_,_,z3 a,by show (7:Nat)<900;decide,?_⟩;refine⟨_,_,am (z3 a),by show (8:Nat)<900;decide,?_⟩;refine q _ _ ((((((((((Ch.set.trans Ch.set).trans Ch.set).trans Ch.set).trans Ch.set).trans Ch.set).trans Ch.set).trans (Ch.app.mono sC)).trans Ch.set).trans Ch.set)) ?_ (am (am (z3 a))) ?_
 .simp
 .rw[aX (by simp;lia),aX (by simp;lia)];exact z5
theorem IK(s:Hz x y z)(h0:0<=h)(h1:h<y):cV y z h (bA y z h p)=p+1:=by
 have b:=(jM (k:=bA y z h p) (p:=p+1) s h0 h1).mp (yh s h0 h1 lC);have a:¬cV y z h (bA y z h p)<=p:=λw=>by
  have:=(jM s h0 h1).mpr w;lia
 lia
noncomputable def Zu(y z h:Int)(n m:Option Int):Int:=match n with
 |some k=>cV y z h k
 |none=>(match m with|none=>0|some a=>(a+1)*z)
theorem QR(s:Hz x y z)(ho:μ[i]?=aa (bR (aP x y z) u j kp (aa a) m n bt ag))(b:∀k,n=aa k->0<=k/\k<x*y*z)(q:K (.int (Zu y z a.1 n m)) μ):wY [.m i] μ K Z:=by
 obtain⟨g,f,e,d,c⟩:=id s;refine⟨rfl,_,_,_,ho,rfl,?_⟩;cases n with
 |some k=>
  exact⟨_,_,_,ho,rfl,_,_,_,ho,rfl,_,rfl,_,_,_,ho,rfl,(ug s (b k rfl).1 (b k rfl).2 q)⟩
 |none=>
  refine⟨_,_,_,ho,rfl,?_⟩;cases m with
  |none=>exact q
  |some h=>
   refine⟨_,_,_,ho,rfl,_,_,_,ho,rfl,.inr ⟨by unfold big;lia,by unfold big;lia⟩,?_⟩;exact q
theorem Vc(b:∀v,m=aa v->0<=v/\v<x)(c:∀v,l=aa v->bX x y v)(q:K (.bl ae) μ):Jz [aP x y z,.t [bU l,bw m]] μ K Z:=by
 refine⟨rfl,_,rfl,?_⟩;have a:zM (kU.drop 2) [aa (aP x y z),aa (.t [bU l,bw m])] μ (En.fn K Z):=by
  refine⟨_,rfl,?_⟩;cases m with
  |none=>exact q
  |some v=>
   exact⟨_,rfl,(wD (b v rfl).1 (b v rfl).2 q)⟩
 cases l with
 |none=>exact a
 |some v=>
  have ok:=c v rfl;exact⟨_,rfl,(vR ok.h0 ok.h1 ok.f0 ok.fu ok.ux a)⟩
theorem Kp(ho:μ[i]?=aa (.obj 45 []))(e:0<=s)(hs:0<=u)(b:∀v,m=aa v->0<=v/\v<x)(c:∀v,l=aa v->bX x y v)(q:∀j bi,Ch [i] μ j->μ.length<=bi->j[i]?=aa (bR (aP x y z) s u kp l m af (.m bi) ag)->j[bi]?=aa (.l [])->K .n j) :
  vt [.m i,aP x y z,.int s,.int u,kp,.t [bU l,bw m]] μ K Z:=by
 have d:=(aO.mp ho).1;refine⟨rfl,(vy e (vy hs (Vc b c ?_)))⟩;refine⟨_,_,ho,dC,_,_,am ho,by show (1:Nat)<900;decide,_,_,am (am ho),by show (2:Nat)<900;decide,_,_,am (am (am ho)),by show (3:Nat)<900;decide,_,rfl,_,_,am (am (am (am ho))),by show (4:Nat)<900;decide,_,rfl,_,_,am (am (am (am (am ho)))),by show (5:Nat)<900;decide,_,_,am (am (am (am (am (am ho))))),by show (6:Nat)<900;decide,?_⟩;have a:=am (y:=.obj 45 [(9,aP x y z),(14,.int s),(15,.int u),(16,kp),(6,bU l),(17,bw m),(18,.n)]) (am (y:=.obj 45 [(9,aP x y z),(14,.int s),(15,.int u),(16,kp),(6,bU l),(17,bw m)]) (am (y:=.obj 45 [(9,aP x y z),(14,.int s),(15,.int u),(16,kp),(6,bU l)]) (am (y:=.obj 45 [(9,aP x y z),(14,.int s),(15,.int u),(16,kp)]) (am (y:=.obj 45 [(9,aP x y z),(14,.int s),(15,.int u)]) (am (y:=.obj 45 [(9,aP x y z),(14,.int s)]) (am (y:=.obj 45 [(9,aP x y z)]) ho))))));refine⟨_,_,z3 a,by show (7:Nat)<900;decide,_,_,am (z3 a),by show (8:Nat)<900;decide,?_⟩;refine q _ _ ((((((((((Ch.set.trans Ch.set).trans Ch.set).trans Ch.set).trans Ch.set).trans Ch.set).trans Ch.set).trans (Ch.app.mono sC)).trans Ch.set).trans Ch.set)) ?_ (am (am (z3 a))) ?_
 .simp
 .rw[aX (by simp;lia),aX (by simp;lia)];exact z5
noncomputable def wN(f u:Int):Option Int->Option Int
 |none=>af
 |some v=>if v<f then af else aa (if u-1<v then u-1 else v)
theorem VC(q:K (bw (wN a.2.1 a.2.2 o)) μ):VL [bU (aa a),bw o] μ K Z:=by
 refine⟨rfl,?_⟩;cases o with
 |none=>exact q
 |some v=>
  refine⟨_,rfl,?_⟩;have q:K (bw (if v<a.2.1 then af else aa (if a.2.2-1<v then a.2.2-1 else v))) μ:=q;refine zA (λe=>?_) (λe=>?_)
  .rw[if_pos e] at q;exact q
  .rw[if_neg e] at q;exact⟨_,rfl,q⟩
noncomputable def qK(y z:Int)(n m:Option Int):Option Int:=match n with
 |none=>m
 |some k=>aa (k / z / y)
theorem yH(s:Hz x y z)(ho:μ[i]?=aa (bR (aP x y z) u j kp l m n bt ag))(a:∀k,n=aa k->0<=k/\k<x*y*z)(q:K (bw (qK y z n m)) μ):wI [.m i] μ K Z:=by
 refine⟨rfl,_,_,_,ho,rfl,?_⟩;cases n with
 |none=>
  exact⟨_,_,_,ho,rfl,q⟩
 |some k=>
  exact⟨_,_,_,ho,rfl,_,_,_,ho,rfl,(xJ s (a k rfl).1 (a k rfl).2 ⟨_,rfl,q⟩)⟩
noncomputable abbrev qG(l:Option Ls)(m:Option Int):T:=.t [bU l,bw m]
noncomputable def eQ(a b:Int):Int:=if b<a then b else a
noncomputable def gD (x b:Int)(m:Option Int)(a:Int):Int:=match m with
 |none=>eQ (a+b) (x-1)
 |some v=>if a<=v then v else eQ (a+b) (x-1)
theorem MP(ho:μ[i]?=aa (bR (aP x y z) u s kp l m n bt ag))(q:K (.int (gD x s m j)) μ):wF [.m i,.int j] μ K Z:=by
 refine⟨rfl,_,_,_,ho,rfl,?_⟩;have a:∀b:Sl,b=[aa (.m i),aa (.int j)]->K (.int (eQ (j+s) (x-1))) μ->zM (qp.drop 1) b μ (En.fn K Z):=λb e q=>by
  subst e;exact⟨_,_,_,ho,rfl,_,_,_,ho,rfl,q⟩
 cases m with
 |none=>exact a _ rfl q
 |some c=>
  refine⟨_,_,_,ho,rfl,?_⟩;have q:K (.int (if j<=c then c else eQ (j+s) (x-1))) μ:=q;refine zA (λe=>?_) (λe=>?_)
  .rw[if_pos e] at q;exact⟨_,_,_,ho,rfl,q⟩
  .rw[if_neg e] at q;exact a _ rfl q
noncomputable def z8 (y z:Int)(a:Ls)(n m:Option Int)(r:Int):Int:=if Zu y z a.1 n m<(if a.2.1<r then r else a.2.1)*z then (if a.2.1<r then r else a.2.1)*z else Zu y z a.1 n m
theorem YJ(s:Hz x y z)(h:μ[i]?=aa (bR (aP x y z) j u kp (aa a) m n bt ag))(g:∀k,n=aa k->0<=k/\k<x*y*z)(k1:1<=k)(k2:k<=z)
  (f:a.2.2*z<z8 y z a n m r+k->Z 18 [] μ)
  (d:z8 y z a n m r+k<=a.2.2*z->0<bG z r j (z8 y z a n m r+k)->(bG z r j (z8 y z a n m r+k)).natAbs.log2<1920/\Z 21 [(29,.int (bG z r j (z8 y z a n m r+k)))] μ)
  (c:z8 y z a n m r+k<=a.2.2*z->bG z r j (z8 y z a n m r+k)<=0->K (uZ a.1 (z8 y z a n m r) (z8 y z a n m r+k)) μ) :
  vc [.m i,.int r,.int k] μ K Z:=by
 obtain⟨t,q,p,o,l⟩:=id s;refine⟨rfl,(qh ?_)⟩;rw[decide_eq_true k1];refine⟨_,_,_,h,rfl,(zu lC ?_)⟩;refine zp ⟨_,h,rfl,_,_,_,h,rfl,_,_,_,h,rfl,_,rfl,_,_,_,h,rfl,.inr ⟨by unfold big;lia,by unfold big;lia⟩,_,h,?_⟩;refine QR s h g ⟨_,_,_,h,rfl,_,rfl,_,_,_,h,rfl,.inr ⟨by unfold big;lia,by unfold big;lia⟩,?_⟩;refine zA (λe=>?_) (λe=>?_)
 .exact⟨dC,f e⟩
 .have e:z8 y z a n m r+k<=a.2.2*z:=by
   have:¬a.2.2*z<z8 y z a n m r+k:=e;lia
  refine⟨_,_,_,h,rfl,⟨lC,lC⟩,_,_,_,h,rfl,?_⟩;refine zA (λb=>?_) (λb=>?_)
  .exact d e b
  .refine⟨_,_,_,h,rfl,_,rfl,rfl,rfl,_,_,rfl,dC,_,_,rfl,by show (1:Nat)<900;decide,_,_,rfl,by show (2:Nat)<900;decide,rfl,_,rfl,rfl,?_⟩;refine c e ?_;have b:¬0<bG z r j (z8 y z a n m r+k):=b;lia
theorem kN(s:Hz x y z)(ok:bX x y a):0<=z8 y z a n m r:=by
 obtain⟨g,f,d,c,b⟩:=id s;have h:=ok.f0;have w:0<=(if a.2.1<r then r else a.2.1)*z:=mQ (by split<;>lia) lC;unfold z8;by_cases e:Zu y z a.1 n m<(if a.2.1<r then r else a.2.1)*z
 .rw[if_pos e];exact w
 .rw[if_neg e];exact g_ w (mL.mp e)
theorem vN(s:Hz x y z)(q:K (.t [.int (v / z / y),.int (v / z % y),.int (v % z)]) μ):kM [cA x y z,.int v] μ K Z:=by
 obtain⟨e,d,c,b,a⟩:=id s;refine⟨rfl,_,rfl,⟨lC,lC⟩,⟨lC,lC⟩,?_⟩;refine⟨⟨lC,lC⟩,lC,?_⟩;refine⟨lC,?_⟩;exact q
theorem Ve(z1:1<=z):(M*y+h)*z=bA y z h (M*z):=by
 unfold bA;rw[Int.mul_ediv_cancel _ lC,Int.mul_emod_left];lia
theorem Yv(s:Hz x y z)(h0:0<=h)(h1:h<y):(w<bA y z h (w / z / y*z)->cV y z h w=w / z / y*z)/\
  (bA y z h (w / z / y*z)<=w->(w+1) / z % y=h->bA y z h (cV y z h w)=w+1)/\
  (bA y z h (w / z / y*z)<=w->(w+1) / z % y≠h->cV y z h w=(w / z / y+1)*z):=by
 obtain⟨n,m,l,j,i⟩:=id s;have B:=fV w (show z≠0 by lia);have A:=fW w (show 0<z by lia);have up:=(jM (k:=w) (p:=cV y z h w) s h0 h1).mpr (d6 _);have ge:w / z / y*z<=cV y z h w:=by
  unfold cV;split
  .lia
  .split<;>lia
 refine⟨λe=>?_,λe b=>?_,λe b=>?_⟩
 .have:=(jM s h0 h1).mp e;lia
 .have a:=Gg s b;generalize u:(w+1) / z / y*z+(w+1) % z=p at a;have t:=(jM (k:=w) (p:=p) s h0 h1).mp (by rw[a.1];lia);by_cases f:cV y z h w<p
  .have:=yh (y:=y) (z:=z) s h0 h1 f;lia
  .have:cV y z h w=p:=by lia
   rw[this,a.1]
 .have d:(w / z / y+1)*z=w / z / y*z+z:=by rw[iO,om]
  have lo:¬w / z % y<h:=λo=>by
   have:cV y z h w=w / z / y*z:=by unfold cV;rw[if_pos o]
   lia
  unfold cV;rw[if_neg lo];by_cases o:h<w / z % y
  .rw[if_pos o]
  .rw[if_neg o,d];have r:w / z % y=h:=by lia
   by_cases c:w % z+1<z
   .exfalso;have v:(w / z / y*z+(w % z+1)) / z=w / z / y/\(w / z / y*z+(w % z+1)) % z=w % z+1:=(mf lC).mpr ⟨by rw[gc z,lT],lC,c⟩;have g:bA y z h (w / z / y*z+(w % z+1))=w+1:=by
     have q:=yB w y z;unfold bA;lia
    have:=(we (p:=w / z / y*z+(w % z+1)) s h0 h1).2.1;rw[g] at this;exact b this
   .lia
theorem U0(s:Hz x y z)(ok:bX x y a)(S:∀k,n=aa k->0<=k)
  (I:a.2.2*z<qC y z a n r+1->K .n μ) (G:qC y z a n r+1<=a.2.2*z->K (.int (bA y z a.1 (qC y z a n r))) μ) :
  VP [cA x y z,bU (aa a),bw n,.int r] μ K Z:=by
 obtain⟨R,Q,P,C,O⟩:=id s;obtain⟨h,f,u⟩:=a;have q:0<=h:=ok.h0;have m:=ok.h1;have U:0<=f:=ok.f0;have nn:0<=(if f<r then r else f)*z:=mQ (by split<;>omega) (by omega);have d:qC y z (h,f,u) n r=if Zx y z h n<(if f<r then r else f)*z then (if f<r then r else f)*z else Zx y z h n:=rfl
 refine⟨rfl,_,rfl,_,rfl,.inr ⟨by unfold big;lia,by unfold big;lia⟩,?_⟩;refine⟨.inr ⟨by unfold big;lia,by unfold big;lia⟩,?_⟩;have b:∀(v:Int) (l j i:Option T),v=bA y z h (qC y z (h,f,u) n r)->zM (kQ.drop 4) [aa (cA x y z),aa (bU (aa (h,f,u))),aa (bw n),aa (.int r),aa (.int x),aa (.int y),aa (.int z),aa (.int h),aa (.int f),aa (.int u),aa (.int v),l,j,i] μ (En.fn K Z):=by
  intro v l j i J;have F:=(we (p:=qC y z (h,f,u) n r) s q m).1;rw[<-J] at F G;refine⟨⟨lC,lC⟩,⟨lC,lC⟩,?_⟩;refine zA (λe=>?_) (λe=>?_)
  .refine I ?_;rw[F] at e;have:=(ny (show 0<z by lia)).mp e;lia
  .refine G ?_;have:qC y z (h,f,u) n r / z<u:=by lia
   have:=(Int.ediv_lt_iff_lt_mul (show 0<z by lia)).mp this;lia
 have B:((if f<r then r else f)*y+h)*z=bA y z h ((if f<r then r else f)*z):=Ve C;cases n with
 |none=>
  refine b _ af af af ?_;have:qC y z (h,f,u) af r=(if f<r then r else f)*z:=by
   rw[d];show (if 0<_ then _ else 0)=_;generalize (if f<r then r else f)*z=A at nn ⊢;by_cases e:0<A;exact if_pos e;exact (if_neg e).trans lC
  rw[this];exact B
 |some w=>
  have H:=jM (k:=w) (p:=(if f<r then r else f)*z) s q m;have d:qC y z (h,f,u) (aa w) r=if cV y z h w<(if f<r then r else f)*z then (if f<r then r else f)*z else cV y z h w:=d
  refine zA (λe=>?_) (λe=>?_)
  .have e:=e;rw[B] at e;have F:¬cV y z h w<=(if f<r then r else f)*z:=λo=>by have:=H.mpr o;omega
   rw[if_neg (by omega)] at d;obtain⟨N,M,L⟩:=Yv (w:=w) s q m;refine vN s ⟨_,rfl,.inr ⟨by unfold big;omega,by unfold big;omega⟩,?_⟩;refine⟨.inr ⟨by unfold big;omega,by unfold big;omega⟩,?_⟩;have t:(w / z / y*y+h)*z=bA y z h (w / z / y*z):=Ve C;refine zA (λc=>?_) (λc=>?_)
   .have c:=c;rw[t] at c;refine vN s ⟨_,rfl,(yg (λg=>?_) (λg=>?_))⟩
    .refine b _ _ _ _ ?_;rw[d];exact (M c g).symm
    .refine⟨.inr ⟨by unfold big;lia,by unfold big;lia⟩,?_⟩;refine⟨.inr ⟨by unfold big;omega,by unfold big;omega⟩,?_⟩;refine b _ _ _ _ ?_;rw[d,L c g];exact (Ve C)
   .have c:=c;rw[t] at c;refine vN s ⟨_,rfl,?_⟩;have E:((w / z / y*y+h)*z) / z % y=h:=by
     rw[t];exact (we (p:=w / z / y*z) s q m).2.1
    refine yg (λg=>b _ _ _ _ ?_) (λg=>absurd E g);rw[d,N lC];exact t
  .have e:=e;rw[B] at e;have D:=H.mp lC;refine b _ af af af ?_;have:qC y z (h,f,u) (aa w) r=(if f<r then r else f)*z:=by
    rw[d];generalize (if f<r then r else f)*z=A at D ⊢;split<;>lia
   rw[this];exact B
theorem Ch.geS(a:Ch S μ s)(b:Ch u s μ2)(h:∀j∈u,μ.length<=j):Ch S μ μ2:=
 ⟨cf a.len b.len,λj hj hs=>(b.ot j (cz hj a.len) λw=>absurd (h j w) lC).trans (a.ot j hj hs)⟩
noncomputable def mj (y z:Int)(a:Ls)(n:Option Int)(r:Int)(c:Nat):Option Int:=if c=0 then n else aa (bA y z a.1 (qC y z a n r+c-1))
theorem Xo(s:Hz x y z)(ok:bX x y a):qC y z a (mj y z a n r c) r=qC y z a n r+c:=by
 obtain⟨i,h,f,d,b⟩:=id s;unfold mj;by_cases e:c=0
 .rw[if_pos e,e];simp
 .rw[if_neg e];have g:=(Jw (n:=n) (r:=r) s ok.f0).2.1;generalize qC y z a n r=B at g ⊢;show (if cV y z a.1 (bA y z a.1 (B+c-1))<_ then _ else cV y z a.1 (bA y z a.1 (B+c-1)))=_;rw[IK s ok.h0 ok.h1];lia
theorem Xi(s:Hz x y z)(ok:bX x y a)(q:∀k,n=aa k->0<=k/\k<x*y*z)(k1:1<=k)(k2:k<=1000)
  (m:a.2.2*z<qC y z a n r+k->∀u,Ch [] μ u->K .n u)
  (l:qC y z a n r+k<=a.2.2*z->∀u j,Ch [] μ u->μ.length<=j->u[j]?=aa (.l ((bu y z a.1 (qC y z a n r) k).map T.int))->K (.m j) u) :
  VX [cA x y z,bU (aa a),bw n,.int r,.int k] μ K Z:=by
 obtain⟨E,D,C,B,A⟩:=id s;have g:=Jw (n:=n) (r:=r) s ok.f0;refine⟨rfl,⟨lC,lC⟩,?_⟩;have f:(rangeT k).length=k.toNat:=by unfold rangeT;simp
 refine zL (λnn b u=>∃(o:Option T),b=[aa (cA x y z),aa (bU (aa a)),aa (bw (mj y z a n r nn)),aa (.int r),aa (.int k),aa (.m μ.length),o]/\(nn=0\/qC y z a n r+nn<=a.2.2*z)/\u=μ++[.l ((bu y z a.1 (qC y z a n r) nn).map T.int)]) ⟨af,rfl,.inl rfl,rfl⟩ ?_ ?_
 .rintro nn t b u d ⟨o,rfl,h,rfl⟩ N v;have p:nn<k:=by
   have G:=(aO.mp d).1;lia
  refine⟨_,rfl,?_⟩;have i:=Xo (n:=n) (r:=r) (c:=nn) s ok;refine U0 s ok (λw hw=>?_) (λe=>?_) λe=>?_
  .unfold mj at hw;split at hw
   .exact (q w hw).1
   ·(replace hw:=zo hw;subst hw);have F:a.2.2*z<=x*z:=fG ok.ux lC;exact (CU s ok.h0 ok.h1 lC lC).1
  .rw[i] at e;exact m lC _ Ch.app
  .rw[i] at e ⊢;refine⟨⟨_,z5⟩,_,z5,by rw[aL,jh];unfold aB;lia,?_⟩;have en:bw (mj y z a n r (nn+1))=.int (bA y z a.1 (qC y z a n r+nn)):=by
    unfold mj;have:qC y z a n r+(nn+1:Nat)-1=qC y z a n r+nn:=by push_cast;lia
    rw[this];rfl
   refine v _ _ ⟨aa t,?_,.inr (by push_cast;lia),?_⟩
   .rw[en];rfl
   .rw[iV _ _ (aK _)];have:(nn+1:Nat)=(nn:Int)+1:=by push_cast;rfl
    rw[this,WA,bP];simp
 .rintro b u ⟨o,rfl,h,rfl⟩;rw[f] at h ⊢;refine l lC _ _ Ch.app (aK _) z5
noncomputable def cK (l:Option Ls)(m g n:Option Int)(kt:T)(ni:Nat):MO:=.d [(.inr "lease",bU l),(.inr "mark",bw m),(.inr "begun",bw g),(.inr "last",bw n),(.inr "kept",kt),(.inr "notes",.m ni)]
theorem Vk:zr (.inr "lease") [(.inr "lease",bU l),(.inr "mark",bw m),(.inr "begun",bw g),(.inr "last",bw n),(.inr "kept",kt),(.inr "notes",.m ni)]=aa (bU l):=rfl
theorem Vo:zr (.inr "notes") [(.inr "lease",bU l),(.inr "mark",bw m),(.inr "begun",bw g),(.inr "last",bw n),(.inr "kept",kt),(.inr "notes",.m ni)]=aa (.m ni):=rfl
structure Nt(μ μ':Mem)(di ni:Nat)(l l':Option Ls)(m m' g n:Option Int)(kt:T)(cs:List T):Prop where
 ch:Ch [di,ni] μ μ'
 ln:μ'.length=μ.length
 hd:μ'[di]?=aa (cK l' m' g n kt ni)
 hc:μ'[ni]?=aa (.l (cs++if l'=l/\m'=m then [] else [qG l' m']))
theorem jg(hd:μ[di]?=aa (cK l m g n kt ni))(hc:μ[ni]?=aa (.l cs))(h:cs.length<=1000)
  (q:∀j,Nt μ j di ni l l' m m' g n kt cs->K .n j):yG [.m di,bU l',bw m'] μ K Z:=by
 have d:ni≠di:=λw=>by rw[w,hd] at hc;cases hc
 have b:∀a,Ch [di,ni] μ a->a.length=μ.length->a[di]?=aa (cK l m g n kt ni)->a[ni]?=aa (.l (cs++if l'=l/\m'=m then [] else [qG l' m']))->zM (yq.drop 1) [aa (.m di),aa (bU l'),aa (bw m')] a (En.fn K Z):=by
  intro a ch f c i;refine⟨⟨_,c⟩,(by decide:([.inr "lease",.inr "mark"]:List Key).Nodup),_,c,by show (8:Nat)<=aB;decide,?_⟩;refine q _ ⟨ch.trans (Ch.set.mono sC),by simp[f],?_,?_⟩
  .exact am c
  .rw[aX (bd d)];exact i
 refine⟨rfl,_,_,hd,Vk,_,_,hd,rfl,Wv,_,JD,?_⟩;refine zX (λe=>?_) (λe=>?_)
 .have e:¬(l'=l/\m'=m):=λw=>by simp[w.1,w.2] at e
  refine⟨_,_,hd,Vo,⟨_,hc⟩,_,hc,by unfold aB;omega,?_⟩;refine b _ (Ch.set.mono sC) sC ?_ ?_
  .rw[aX d];exact hd
  .rw[if_neg e];exact am hc
 .have e:l'=l/\m'=m:=by simpa using e
  refine b μ Ch.refl rfl hd ?_;rw[if_pos e,eO];exact hc
theorem yU(q:K (.m μ.length) (μ++[cK af af af af (.l []) ni])):jj [.n,.m ni] μ K Z:=by
 refine⟨rfl,(by decide:([.inr "lease",.inr "mark",.inr "begun",.inr "last",.inr "kept",.inr "notes"]:List Key).Nodup),?_⟩;exact q
theorem Yw(q:K (.m μ.length) ((μ++[cK af af af af (.l []) ni]).set μ.length (cK l m m af (.l []) ni))):jj [qG l m,.m ni] μ K Z:=by
 refine⟨rfl,(by decide:([.inr "lease",.inr "mark",.inr "begun",.inr "last",.inr "kept",.inr "notes"]:List Key).Nodup),?_⟩;have a:(μ++[cK af af af af (.l []) ni])[μ.length]?=aa (cK af af af af (.l []) ni):=z5;refine⟨⟨_,a⟩,_,rfl,_,rfl,_,rfl,?_⟩;refine⟨(by decide:([.inr "lease",.inr "mark",.inr "begun"]:List Key).Nodup),_,a,by show (9:Nat)<=aB;decide,?_⟩;exact q
noncomputable def nJ (y z:Int)(n g:Option Int):Option Int:=match n with
 |some k=>aa k
 |none=>(match g with|none=>af|some v=>aa ((v+1)*y*z-1))
theorem LS{v:Int}(s:Hz x y z)(h0:0<=h)(h1:h<y):cV y z h ((v+1)*y*z-1)=(v+1)*z:=by
 obtain⟨l,k,j,i,g⟩:=id s;have d:((v+1)*z-1) / z=v/\((v+1)*z-1) % z=z-1:=by
  have e:(v+1)*z-1=(z-1)+v*z:=by rw[iO];omega
  rw[e,Int.add_mul_ediv_right _ _ (by omega),Int.add_mul_emod_self_right,Int.ediv_eq_zero_of_lt (by omega) (by omega),Int.emod_eq_of_lt (by omega) (by omega)];omega
 have e:(v+1)*y*z-1=bA y z (y-1) ((v+1)*z-1):=by
  unfold bA;rw[d.1,d.2];have:(v+1)*y*z=(v*y+(y-1))*z+z:=by
   rw[show (v+1)*y=(v*y+(y-1))+1 by rw[iO];omega,iO _ 1 z];omega
  omega
 obtain⟨f,b,a⟩:=we (h:=y-1) s (by omega) (by omega);unfold cV;rw[e,f,b,a,d.1,d.2,if_neg (by omega)];by_cases c:h<y-1
 .rw[if_pos c]
 .rw[if_neg c,iO];omega
theorem Ui(s:Hz x y z)(h0:0<=h)(h1:h<y):Zx y z h (nJ y z n g)=Zu y z h n g:=by
 cases n with
 |some k=>rfl
 |none=>cases g with
  |none=>rfl
  |some v=>exact LS s h0 h1
theorem Mo(s:Hz x y z)(ok:bX x y a):qC y z a (nJ y z n g) r=z8 y z a n g r:=by
 unfold qC z8;rw[Ui s ok.h0 ok.h1]
theorem Lw(s:Hz x y z)(a:∀k,n=aa k->0<=k/\k<x*y*z)(b:∀v,g=aa v->0<=v/\v<x):∀k,nJ y z n g=aa k->0<=k/\k<x*y*z:=by
 obtain⟨i,h,f,d,c⟩:=id s;intro k e;cases n with
 |some w=>exact a k e
 |none=>cases g with
  |none=>exact z9 e
  |some v=>
   obtain⟨o,m⟩:=b v rfl
   (injection e with e;subst e)
   have l:(v+1)*y*z<=x*y*z:=fG (fG (by omega) (by omega)) (by omega)
   have j:0<(v+1)*y*z:=Ae (Ae (by omega) (by omega)) (by omega)
   omega
structure Rd(μ μ':Mem)(di ni j:Nat)(x y z sd:Int)(a:Ls)(m g:Option Int)(B k:Int)(kt:T)(cs:List T):Prop where
 ch:Ch [di,ni] μ μ'
 jl:μ.length<=j
 hj:μ'[j]?=aa (.l ((bu y z a.1 B k).map T.int))
 hd:μ'[di]?=aa (cK (aa a) (aa (gD x sd m ((B+k-1) / z))) g (aa (bA y z a.1 (B+k-1))) kt ni)
 hc:μ'[ni]?=aa (.l (cs++if aa (gD x sd m ((B+k-1) / z))=m then [] else [qG (aa a) (aa (gD x sd m ((B+k-1) / z)))]))
theorem Wh (hd:μ[di]?=aa (cK af m g n kt ni)) (q:K (.str "lease") μ):yb [.m di,j,.int u,.int s,.int r,.int k] μ K Z:=by
 exact⟨rfl,_,_,hd,rfl,q⟩
theorem QN(s:Hz x y z)(ok:bX x y a)(hd:μ[di]?=aa (cK (aa a) m g n kt ni))(hc:μ[ni]?=aa (.l cs))(q:cs.length<=1000)(M:∀k,n=aa k->0<=k/\k<x*y*z)(O:∀v,g=aa v->0<=v/\v<x)(k1:1<=k)(k2:k<=1000)
  (I:a.2.2*z<z8 y z a n g r+k->∀u,Ch [] μ u->K (.str "lease") u)
  (H:z8 y z a n g r+k<=a.2.2*z->0<bG z r C (z8 y z a n g r+k)->∀u,Ch [] μ u->K (.t [.str "wait",.int (bG z r C (z8 y z a n g r+k))]) u)
  (G:z8 y z a n g r+k<=a.2.2*z->bG z r C (z8 y z a n g r+k)<=0->∀u j,Rd μ u di ni j x y z D a m g (z8 y z a n g r) k kt cs->K (.m j) u) :
  yb [.m di,cA x y z,.int C,.int D,.int r,.int k] μ K Z:=by
 obtain⟨U,T,S,R,Q⟩:=id s;have eb:=Mo (n:=n) (g:=g) (r:=r) s ok;have h:∀d:Sl,d=[aa (.m di),aa (cA x y z),aa (.int C),aa (.int D),aa (.int r),aa (.int k),aa (bw (nJ y z n g)),af,af]->zM (jf.drop 3) d μ (En.fn K Z):=by
  intro d e;subst e;refine⟨_,_,hd,rfl,(Xi s ok (Lw s M O) k1 k2 (λw u ch=>?_) (λw u j ch L t=>?_))⟩
  .rw[eb] at w;exact I w u ch
  .rw[eb] at w t;refine⟨_,_,t,W3 k1,(vN s ⟨_,rfl,?_⟩)⟩;generalize V:z8 y z a n g r=B at *;have i:=(we (p:=B+k-1) s ok.h0 ok.h1).1;have c:=ch.get hd sC;have f:=ch.get hc sC;have X:=(aO.mp hd).1;have W:=(aO.mp hc).1;have J:ni≠di:=λw=>by rw[w,hd] at hc;cases hc
   have out:∀b m' d,m'=gD x D m ((B+k-1) / z)->bG z r C (B+k)<=0->Nt u b di ni (aa a) (aa a) m (aa m') g n kt cs->d=[aa (.m di),aa (cA x y z),aa (.int C),aa (.int D),aa (.int r),aa (.int k),aa (bw (nJ y z n g)),aa (.m j),aa (.int (bA y z a.1 (B+k-1) / z / y))]->zM (jf.drop 8) d b (En.fn K Z):=by
    intro b m' d em A N e;subst e;have o:=N.ch.get t (by simp;omega);refine⟨_,_,o,W3 k1,_,N.hd,by show (6:Nat)<aB;decide,?_⟩;refine G w A _ j ⟨((ch.mono sC).trans N.ch).trans (Ch.set.mono sC),L,?_,?_,?_⟩
    .rw[aX (by omega)];exact o
    .subst em;exact am N.hd
    .subst em;rw[aX (bd J)];have:=N.hc;simpa using this
   refine zA (λe=>?_) (λe=>?_)
   .rw[i] at e;have P:bA y z a.1 (B+k-1) / z / y-r-C=bG z r C (B+k):=by rw[i];unfold bG;omega
    have:=H w (by omega) u ch;rw[<-P] at this;exact this
   .rw[i] at e;have F:bG z r C (B+k)<=0:=by unfold bG;omega
    cases m with
    |none=>
     refine⟨_,_,c,rfl,_,_,c,rfl,_,rfl,(jg (l':=aa a) (m':=aa (eQ (bA y z a.1 (B+k-1) / z / y+D) (x-1))) c f q λb N=>?_)⟩;exact out b _ _ (by rw[i];rfl) F N rfl
    |some l=>
     refine⟨_,_,c,rfl,_,_,c,rfl,(zA (λE=>?_) (λE=>?_))⟩
     .refine⟨_,_,c,rfl,_,rfl,(jg (l':=aa a) (m':=aa (eQ (bA y z a.1 (B+k-1) / z / y+D) (x-1))) c f q λb N=>out b _ _ ?_ F N rfl)⟩;rw[i] at E ⊢;show _=if (B+k-1) / z<=l then l else eQ ((B+k-1) / z+D) (x-1)
      rw[if_neg (by omega)]
     .refine out u l _ ?_ F ⟨Ch.refl,rfl,c,?_⟩ rfl
      .rw[i] at E;show _=if (B+k-1) / z<=l then l else eQ ((B+k-1) / z+D) (x-1)
       rw[if_pos (by omega)]
      .rw[if_pos ⟨rfl,rfl⟩,eO];exact f
 refine⟨rfl,_,_,hd,rfl,_,_,hd,rfl,?_⟩;cases n with
 |some w=>exact h _ rfl
 |none=>
  refine⟨_,_,hd,rfl,?_⟩;cases g with
  |none=>exact h _ rfl
  |some v=>
   refine⟨_,_,hd,rfl,_,rfl,.inr ⟨by unfold big;omega,by unfold big;omega⟩,?_⟩;refine⟨_,rfl,.inr ⟨by unfold big;omega,by unfold big;omega⟩,?_⟩;exact h _ rfl
namespace X
section
variable {y z:Int}
noncomputable abbrev Bt:=Int×Int×Int
noncomputable abbrev btT(p:Bt):T:=uZ p.1 p.2.1 p.2.2
noncomputable def nmB (y z:Int)(bs:List Bt):List Int:=bs.flatMap λp=>bu y z p.1 p.2.1 (p.2.2-p.2.1)
structure Bo(x y z:Int)(p:Bt):Prop where
 h0:0<=p.1
 h1:p.1<y
 b0:0<=p.2.1
 be:p.2.1<=p.2.2
 ex:p.2.2<=x*z
 sz:p.2.2-p.2.1<=1000
noncomputable def BOk (x y z:Int)(bs:List Bt):Prop:=∀p∈bs,Bo x y z p
theorem JS:∀{bs:List Bt},(∀p∈bs,p.2.1<=p.2.2)->((nmB y z bs).length:Int)=(bs.map λp=>p.2.2-p.2.1).sum
 |[],_=>rfl
 |p::r,a=>by
  have b:=JS λq c=>a q (cJ _ c);have:=a p dt;unfold nmB at b ⊢;rw[m9,eX,cC,List.sum_cons,jh];push_cast;omega
theorem size_of_sp{bs:List Bt}(hi:μ[i]?=aa (.l (bs.map btT)))(d:bs.length<=1000)(hb:∀p∈bs,p.2.1<=p.2.2)(q:K (.int ((nmB y z bs).length:Int)) μ):xg [.m i] μ K Z:=by
 refine⟨rfl,_,hi,by rw[aL];unfold aB;omega,?_⟩;refine zH btT (λp=>aa (T.int (p.2.2-p.2.1))) (λp c b a=>⟨_,rfl,a⟩) ?_ hi;rw[gu];rw[JS hb] at q;refine⟨bs.map λp=>p.2.2-p.2.1,?_,q⟩;have:=vn (bs.map λp=>p.2.2-p.2.1);rw[bB] at this;exact this
structure Pt where
 r:Int
 fs:List Bt
 os:List Bt
noncomputable def Pt.step(s:Pt)(p:Bt):Pt:=
 let m:=if p.2.2<p.2.1+s.r then p.2.2 else p.2.1+s.r
 ⟨s.r-(m-p.2.1),s.fs++[(p.1,p.2.1,m)],s.os++[(p.1,m,p.2.2)]⟩
structure wf(x y z:Int)(s0 s:Pt)(bs:List Bt):Prop where
 r0:0<=s.r
 fo:BOk x y z s0.fs->BOk x y z s.fs
 oo:BOk x y z s0.os->BOk x y z s.os
 fn:nmB y z s.fs=nmB y z s0.fs++(nmB y z bs).take s0.r.toNat
 on:nmB y z s.os=nmB y z s0.os++(nmB y z bs).drop s0.r.toNat
 fl:s.fs.length=s0.fs.length+bs.length
 ol:s.os.length=s0.os.length+bs.length
theorem BOk.snoc{bs:List Bt}{p:Bt}(B:BOk x y z bs)(h:Bo x y z p):BOk x y z (bs++[p]):=λq a=>(bf.mp a).elim (B q) λa=>aT.mp a▸h
theorem nmB_snoc{bs:List Bt}{p:Bt}:nmB y z (bs++[p])=nmB y z bs++bu y z p.1 p.2.1 (p.2.2-p.2.1):=by
 unfold nmB;simp
theorem LY{b e r m:Int}(be:b<=e)(r0:0<=r)(a:(if e<b+r then e else b+r)=m):b<=m/\m<=e/\0<=r-(m-b)/\r.toNat-(m-b).toNat=(r-(m-b)).toNat/\(e-m=0/\(m-b).toNat<=r.toNat\/r.toNat=(m-b).toNat):=by
 split at a<;>lia
theorem MU{h b e m:Int}(h1:b<=m)(h2:m<=e):bu y z h b (e-b)=bu y z h b (m-b)++bu y z h m (e-m):=by
 have:=UM (y:=y) (z:=z) (h:=h) (b:=b) (k1:=m-b) (k2:=e-m) lC lC;rw[show m-b+(e-m)=e-b by lia,show b+(m-b)=m by lia] at this;exact this
theorem Xy{bs:List Bt}{p:Bt}:nmB y z (p::bs)=bu y z p.1 p.2.1 (p.2.2-p.2.1)++nmB y z bs:=m9 ..
theorem Xc:∀{bs:List Bt}{s0:Pt},BOk x y z bs->0<=s0.r->wf x y z s0 (bs.foldl Pt.step s0) bs
 |[],s0,_,f=>⟨f,id,id,by simp[nmB],by simp[nmB],rfl,rfl⟩
 |p::bs,s0,B,f=>by
  have b:=B p dt;obtain⟨a,g⟩:∃a,(if p.2.2<p.2.1+s0.r then p.2.2 else p.2.1+s0.r)=a:=⟨_,rfl⟩;obtain⟨d,c,l,k,j⟩:=LY b.be f g;have A:s0.step p=⟨s0.r-(a-p.2.1),s0.fs++[(p.1,p.2.1,a)],s0.os++[(p.1,a,p.2.2)]⟩:=by rw[<-g];rfl
  obtain⟨v,u,t,s,o,n,m⟩:=Xc (s0:=⟨s0.r-(a-p.2.1),s0.fs++[(p.1,p.2.1,a)],s0.os++[(p.1,a,p.2.2)]⟩) (λq w=>B q (cJ _ w)) l;have e:=V1 (bu y z p.1 p.2.1 (a-p.2.1)) (bu y z p.1 a (p.2.2-a)) (nmB y z bs) s0.r.toNat (a-p.2.1).toNat jh (j.imp (λh=>⟨by rw[h.1];exact QY,h.2⟩) id);rw[k] at e;rw[List.foldl_cons,A];have i:nmB y z (p::bs)=bu y z p.1 p.2.1 (a-p.2.1)++(bu y z p.1 a (p.2.2-a)++nmB y z bs):=by rw[Xy,MU d c,m_]
  exact⟨v,λF=>u (F.snoc ⟨b.h0,b.h1,b.b0,d,g_ c b.ex,g_ (Int.sub_le_sub_right c _) b.sz⟩),λF=>t (F.snoc ⟨b.h0,b.h1,g_ b.b0 d,c,b.ex,g_ (Int.sub_le_sub_left d _) b.sz⟩),
   by rw[s,nmB_snoc,i,e.1,m_],by rw[o,nmB_snoc,i,e.2,m_],
   n.trans (by rw[eX,wS,Ak _ bs.length];rfl),m.trans (by rw[eX,wS,Ak _ bs.length];rfl)⟩
local macro_rules | `(tactic| walk_at "bat") => `(tactic| (refine ⟨rfl, ?_⟩; (try unfold vg); refine ⟨rfl, ?_⟩; refine ⟨_, _, rfl, by show (0 : Nat) < 900; decide, ?_⟩; refine ⟨_, _, rfl, by show (1 : Nat) < 900; decide, ?_⟩; refine ⟨_, _, rfl, by show (2 : Nat) < 900; decide, ?_⟩; refine ⟨rfl, _, rfl, rfl, ?_⟩))
theorem Yb:∀{bs:List Bt},(bs.filterMap λp=>if p.2.1<p.2.2 then aa (btT p) else af)=(bs.filter λp=>decide (p.2.1<p.2.2)).map btT
 |[]=>rfl
 |p::r=>by
  have a:=Yb (bs:=r);by_cases c:p.2.1<p.2.2
  .rw[o0 (by rw[if_pos c]),sQ (by simpa using c),cC,a]
  .rw[o1 (by rw[if_neg c]),sP (by simpa using c),a]
theorem X7:∀{bs:List Bt},(∀p∈bs,p.2.1<=p.2.2)->nmB y z (bs.filter λp=>decide (p.2.1<p.2.2))=nmB y z bs
 |[],_=>rfl
 |p::r,b=>by
  have a:=X7 λq d=>b q (cJ _ d);have e:=b p dt;by_cases c:p.2.1<p.2.2
  .rw[sQ (by simpa using c)];unfold nmB at a ⊢;rw[m9,m9,a]
  .rw[sP (by simpa using c),a];unfold nmB;rw[m9,show p.2.2-p.2.1=0 by omega,QY,oO]
theorem BOk.fil{bs:List Bt}(B:BOk x y z bs):BOk x y z (bs.filter λp=>decide (p.2.1<p.2.2)):=λp a=>B p (fq.mp a).1
theorem BOk.nil:BOk x y z []:=nofun
theorem Kv{bs:List Bt}(hi:μ[i]?=aa (.l (bs.map btT)))(F:bs.length<=1000)(k0:0<=k)(B:BOk x y z bs)
  (q:∀fs os s C u,BOk x y z fs->BOk x y z os->nmB y z fs=(nmB y z bs).take k.toNat->nmB y z os=(nmB y z bs).drop k.toNat->fs.length<=bs.length->os.length<=bs.length->Ch [] μ s->μ.length<=C->μ.length<=u->C≠u->
   s[C]?=aa (.l (fs.map btT))->s[u]?=aa (.l (os.map btT))->K (.t [.m C,.m u]) s):gz [.m i,.int k] μ K Z:=by
 refine⟨rfl,_,z3 (z3 hi),(zL (λj g s=>∃l h,g=[aa (.m i),aa (.int k),aa (.m μ.length),aa (.m (μ++[MO.l []]).length),aa (.int ((bs.take j).foldl Pt.step ⟨k,[],[]⟩).r),l,h]/\s=μ++[.l (((bs.take j).foldl Pt.step ⟨k,[],[]⟩).fs.map btT)]++[.l (((bs.take j).foldl Pt.step ⟨k,[],[]⟩).os.map btT)]) ⟨af,af,rfl,rfl⟩ ?_ ?_ ?_)⟩
 .rintro j t g s b ⟨l,h,rfl,rfl⟩ N D;rw[bH] at b;cases d:bs[j]? with
  |none=>rw[d] at b;exact z9 b
  |some p=>
   rw[d] at b;(injection b with b;subst b);have et:bs.take (j+1)=bs.take j++[p]:=by rw[dM,d];rfl
   have B1:BOk x y z (bs.take j):=λp m=>B p (nc m);have P:=Xc (s0:=⟨k,[],[]⟩) B1 k0;generalize A:(bs.take j).foldl Pt.step ⟨k,[],[]⟩=S at P ⊢;have o:=P.fl;have n:=P.ol;simp only[oP,rR,g8] at o n;have e:(bs.take (j+1)).foldl Pt.step ⟨k,[],[]⟩=S.step p:=by rw[et,List.foldl_append,A];rfl
   refine⟨_,rfl,⟨_,z3 z5⟩,?_⟩;walk_at "bat";refine⟨_,z3 z5,by rw[aL];unfold aB;omega,?_⟩;rw[GS];have f:(μ++[MO.l (S.fs.map btT++[uZ p.1 p.2.1 (if p.2.2<p.2.1+S.r then p.2.2 else p.2.1+S.r)])]++[MO.l (S.os.map btT)])[(μ++[MO.l []]).length]?=aa (MO.l (S.os.map btT)):=by
    have:(μ++[MO.l []]).length=(μ++[MO.l (S.fs.map btT++[uZ p.1 p.2.1 (if p.2.2<p.2.1+S.r then p.2.2 else p.2.1+S.r)])]).length:=by simp
    rw[this];exact z5
   refine⟨⟨_,f⟩,?_⟩;walk_at "bat";refine⟨_,f,by rw[aL];unfold aB;omega,?_⟩;refine D _ _ ⟨aa (btT p),aa (.int (if p.2.2<p.2.1+S.r then p.2.2 else p.2.1+S.r)),?_,?_⟩
   .rw[e];rfl
   .show (μ++[MO.l (S.fs.map btT++[uZ p.1 p.2.1 (if p.2.2<p.2.1+S.r then p.2.2 else p.2.1+S.r)])]++[MO.l (S.os.map btT)]).set (μ++[MO.l []]).length (MO.l (S.os.map btT++[uZ p.1 (if p.2.2<p.2.1+S.r then p.2.2 else p.2.1+S.r) p.2.2]))=_;have:(μ++[MO.l []]).length=(μ++[MO.l (S.fs.map btT++[uZ p.1 p.2.1 (if p.2.2<p.2.1+S.r then p.2.2 else p.2.1+S.r)])]).length:=by simp
    rw[this,FD,e];show _=μ++[MO.l ((S.fs++[(p.1,p.2.1,if p.2.2<p.2.1+S.r then p.2.2 else p.2.1+S.r)]).map btT)]++[MO.l ((S.os++[(p.1,if p.2.2<p.2.1+S.r then p.2.2 else p.2.1+S.r,p.2.2)]).map btT)];rw[bP,bP];rfl
 .rintro g s ⟨l,h,rfl,rfl⟩;rw[aL,eH (aK _)];have P:=Xc (s0:=⟨k,[],[]⟩) B k0;generalize bs.foldl Pt.step ⟨k,[],[]⟩=S at P ⊢;have o:=P.fl;have n:=P.ol;simp only[oP,rR] at o n;have w:(μ++[MO.l []]).length=(μ++[MO.l (S.fs.map btT)]).length:=by simp
  have v:=P.oo BOk.nil;have fn:nmB y z S.fs=(nmB y z bs).take k.toNat:=by have:=P.fn;simpa[nmB] using this
  have on:nmB y z S.os=(nmB y z bs).drop k.toNat:=by have:=P.on;simpa[nmB] using this
  have f:(μ++[MO.l (S.fs.map btT)]++[MO.l (S.os.map btT)])[(μ++[MO.l []]).length]?=aa (MO.l (S.os.map btT)):=w▸z5;refine⟨_,f,by rw[aL];unfold aB;omega,?_⟩;refine zH btT (λp=>if p.2.1<p.2.2 then aa (btT p) else af) (λp m E a=>⟨_,rfl,?_⟩) ?_ f
  .refine zA (λc=>?_) (λc=>?_)
   .rw[if_pos c] at a;exact a
   .rw[if_neg c] at a;exact a
  .rw[Yb];have ll:(μ++[MO.l (S.fs.map btT)]++[MO.l (S.os.map btT)]).length=μ.length+2:=by simp
   refine q S.fs (S.os.filter λp=>decide (p.2.1<p.2.2)) _ _ _ (P.fo BOk.nil) v.fil fn ?_ (by omega) ?_ ⟨sC,λj G _=>?_⟩ (aK _) (by omega) (by omega) (z3 (z3 z5)) ?_
   .rw[X7 λp m=>(v p m).be];exact on
   .have:=BI (λp:Bt=>decide (p.2.1<p.2.2)) S.os;omega
   .rw[cE (by simp;omega),cE (by simp;omega),cE (by omega)]
   .rw[ll];have:=z5 (μ:=μ++[MO.l (S.fs.map btT)]++[MO.l (S.os.map btT)]) (x:=MO.l ((S.os.filter λp=>decide (p.2.1<p.2.2)).map btT));rw[ll] at this;exact this
 .rintro j g s ⟨l,h,rfl,rfl⟩;exact z3 (z3 hi)
theorem take_sp{bs:List Bt}(s:Hz x y z)(hb:x*z<1000000000000000000000000000000000000000000000000000000000000)(ho:μ[i]?=aa (bR (aP x y z) E D kp l m n (.m bi) ag))(G:μ[bi]?=aa (.l (bs.map btT)))(Q:bs.length<=1000)(B:BOk x y z bs)(hn:(nmB y z bs).length<=100000)(k1:1<=k)
  (S:((nmB y z bs).length:Int)<k->Z 22 [] μ)
  (R:k<=((nmB y z bs).length:Int)->∀os u j C,BOk x y z os->nmB y z os=(nmB y z bs).drop k.toNat->os.length<=bs.length->Ch [i] μ u->μ.length<=j->μ.length<=C->j≠C->u[i]?=aa (bR (aP x y z) E D kp l m n (.m C) ag)->u[C]?=aa (.l (os.map btT))->u[j]?=aa (.l (((nmB y z bs).take k.toNat).map T.int))->K (.m j) u) :
  uA [.m i,.int k] μ K Z:=by
 have W:=(aO.mp ho).1;refine⟨rfl,_,ho,(qQ ho (qh ?_))⟩;rw[decide_eq_true k1];refine⟨_,_,_,ho,rfl,(size_of_sp (y:=y) (z:=z) G Q (λp d=>(B p d).be) (zA (λe=>?_) (λe=>?_)))⟩
 .exact⟨dC,S e⟩
 .refine⟨_,_,_,ho,rfl,(Kv G Q (by omega) B λfs os b L C w Bo fn on fl U H l1 V ne g1 g2=>?_)⟩;have F:=H.get ho sC;refine⟨_,rfl,_,_,F,by show (9:Nat)<900;decide,?_⟩;have o:=am (y:=bR (aP x y z) E D kp l m n (.m C) ag) F;have v:Ch [i] μ (b.set i (bR (aP x y z) E D kp l m n (.m C) ag)):=(H.mono sC).trans Ch.set;have O:L≠i:=by omega
  have M:C≠i:=by omega
  have r:(b.set i (bR (aP x y z) E D kp l m n (.m C) ag))[L]?=aa (.l (fs.map btT)):=by rw[aX (bd O)];exact g1
  have q:(b.set i (bR (aP x y z) E D kp l m n (.m C) ag))[C]?=aa (.l (os.map btT)):=by rw[aX (bd M)];exact g2
  generalize P:b.set i (bR (aP x y z) E D kp l m n (.m C) ag)=a at o v r q;have A:=P;have step:zM (vE.drop 5) [aa (.m i),aa (.int k),aa (.t [.m L,.m C]),af,af] a (En.fn K Z):=by
   refine⟨_,rfl,_,z3 r,?_⟩;have X:=(aO.mp q).1;refine zL (λj I u=>∃J,I=[aa (.m i),aa (.int k),aa (.t [.m L,.m C]),aa (.m a.length),J]/\Ch [] a u/\u[a.length]?=aa (.l ((nmB y z (fs.take j)).map T.int))) ⟨af,rfl,Ch.app,z5⟩ ?_ ?_ ?_
   .rintro j t I u h ⟨J,rfl,ch,f⟩ N Y;rw[bH] at h;cases c:fs[j]? with
    |none=>rw[c] at h;exact z9 h
    |some p=>
     rw[c] at h;(injection h with h;subst h);have d:=aS c;have et:fs.take (j+1)=fs.take j++[p]:=by rw[dM,c];rfl
     refine⟨_,rfl,⟨_,f⟩,_,_,_,ch.get o sC,rfl,(xK s hb (w p d).b0 (w p d).be (w p d).sz (w p d).ex (w p d).h0 (w p d).h1 ?_)⟩;have ln:=(aO.mp f).1;have g:((nmB y z (fs.take j)).map T.int).length+((bu y z p.1 p.2.1 (p.2.2-p.2.1)).map T.int).length<=aB:=by
      rw[aL,aL];have e1:nmB y z fs=nmB y z (fs.take (j+1))++nmB y z (fs.drop (j+1)):=by
       unfold nmB;rw[<-List.flatMap_append,nv]
      have e2:(nmB y z fs).length<=(nmB y z bs).length:=fn▸List.length_take_le' _ _;rw[e1,et,nmB_snoc,eX,eX] at e2;unfold aB;omega
     refine⟨_,_,z3 f,.inr ⟨_,rfl,by omega,z5⟩,g,?_⟩;refine Y _ _ ⟨_,rfl,?_,?_⟩
     .exact (Ch.ge (Ch.ge ch Ch.app sC) Ch.set sC)
     .rw[et,nmB_snoc,bP];exact am (z3 f)
   .rintro I u ⟨J,rfl,ch,f⟩;rw[aL,eH (aK _),fn] at f;refine R (by omega) os u _ C Bo on U (v.trans (ch.mono sC)) ?_ V (by omega) (ch.get o sC) (ch.get q sC) f;exact v.len
   .rintro j I u ⟨J,rfl,ch,f⟩;exact ch.get r sC
  rw[<-A] at step;exact step
end
end X
theorem Uu (hd:μ[di]?=aa (cK af m g n kt ni)) (q:K (.str "lease") μ):uN [.m di,j] μ K Z:=by
 exact⟨rfl,_,_,hd,rfl,q⟩
theorem Yn(s:Hz x y z)(hd:μ[di]?=aa (cK (aa a) m g n kt ni))(hc:μ[ni]?=aa (.l cs))(h:cs.length<=1000)
  (q:∀j,Ch [di,ni] μ j->j.length=μ.length->j[di]?=aa (cK af m g n (.l []) ni)->j[ni]?=aa (.l (cs++[qG af m]))->K (.t [bU (aa a),bw (wN a.2.1 a.2.2 (qK y z n g))]) j):uN [.m di,cA x y z] μ K Z:=by
 have i:ni≠di:=λw=>by rw[w,hd] at hc;cases hc
 have c:∀(o:Option Int) (u:T) (b:Sl),b=[aa (.m di),aa (cA x y z),aa (bU (aa a)),aa (bw o),aa u]->u=bw (wN a.2.1 a.2.2 o)->o=qK y z n g->zM (vh.drop 6) b μ (En.fn K Z):=by
  intro o u b e k f;subst e k;refine⟨_,_,hd,rfl,(jg (l':=af) hd hc h λj N=>⟨_,N.hd,by show (6:Nat)<aB;decide,?_⟩)⟩;subst f;refine q _ (N.ch.trans (Ch.set.mono sC)) (by simp[N.ln]) (am N.hd) ?_;rw[aX (bd i)];have:=N.hc;exact this
 have d:∀(o:Option Int) (b:Sl),b=[aa (.m di),aa (cA x y z),aa (bU (aa a)),aa (bw o),af]->o=qK y z n g->zM (vh.drop 4) b μ (En.fn K Z):=by
  intro o b e f;subst e;cases o with
  |none=>exact c af .n _ rfl rfl f
  |some v=>
   refine⟨_,rfl,(zA (λe=>?_) (λe=>?_))⟩
   .exact⟨_,rfl,(c (aa v) (.int (if a.2.2-1<v then a.2.2-1 else v)) _ rfl (by rw[show wN a.2.1 a.2.2 (aa v)=aa (if a.2.2-1<v then a.2.2-1 else v) from if_neg (by omega)];rfl) f)⟩
   .exact c (aa v) .n _ rfl (by rw[show wN a.2.1 a.2.2 (aa v)=af from if_pos (by omega)];rfl) f
 refine⟨rfl,_,_,hd,rfl,_,_,hd,rfl,_,_,hd,rfl,?_⟩;refine⟨_,_,hd,rfl,?_⟩;cases n with
 |none=>exact d g _ rfl rfl
 |some w=>
  exact⟨_,_,hd,rfl,(vN s ⟨_,rfl,(d (aa (w / z / y)) _ rfl rfl)⟩)⟩
theorem XQ (hd:μ[di]?=aa (cK af m g n kt ni)) (q:K (.str "lease") μ):qM [.int 0,.m di,j,.int u,.int s,.int r,.int k] μ K Z:=by
 exact⟨rfl,(Wh hd q)⟩
theorem Yf (hd:μ[di]?=aa (cK af m g n kt ni)) (q:K (.str "lease") μ):qM [.int 1,.m di,j,.int u,.int s,.int r,.int k] μ K Z:=by
 exact⟨rfl,(Wh hd q)⟩
theorem F1{ks:List T}(hd:μ[di]?=aa (cK l m g n (.l ks) ni))(hk:ks.length<=100000)(k1:1<=k)
  (b:(ks.length:Int)<k->K (.str "empty") μ)
  (a:k<=(ks.length:Int)->∀j,Ch [di] μ j->j.length=μ.length->j[di]?=aa (cK l m g n (.l (ks.drop k.toNat)) ni)->K (.l (ks.take k.toNat)) j):qM [.int 2,.m di,s,.int z,.int u,.int r,.int k] μ K Z:=by
 refine⟨rfl,_,_,hd,rfl,(zA (λe=>?_) (λe=>?_))⟩
 .exact b e
 .refine⟨_,_,hd,rfl,_,_,hd,rfl,_,hd,by show (6:Nat)<aB;decide,?_⟩;have d:wy ks af (aa k)=ks.take k.toNat:=by
   have w:WI ks.length ks.length (aa k)=k.toNat:=by
    show (if k<0 then (k+ks.length).toNat else min k.toNat ks.length)=_;rw[if_neg (by omega)];omega
   unfold wy;rw[w];rfl
  have c:wy ks (aa k) af=ks.drop k.toNat:=by
   have w:WI ks.length 0 (aa k)=k.toNat:=by
    show (if k<0 then (k+ks.length).toNat else min k.toNat ks.length)=_;rw[if_neg (by omega)];omega
   unfold wy;rw[w];rw[eH (oF▸aK _)]
  have:=a (by omega) (μ.set di (cK l m g n (.l (ks.drop k.toNat)) ni)) Ch.set sC (am hd);rw[<-d,<-c] at this;exact this
theorem GJ(s:Hz x y z)(ok:bX x y a)(hd:μ[di]?=aa (cK (aa a) m g n kt ni))(hc:μ[ni]?=aa (.l cs))(b:cs.length<=1000)(t:∀k,n=aa k->0<=k/\k<x*y*z)(A:∀v,g=aa v->0<=v/\v<x)(k1:1<=k)(k2:k<=1000)
  (l:a.2.2*z<z8 y z a n g r+k->∀u,Ch [] μ u->K (.str "lease") u)
  (i:z8 y z a n g r+k<=a.2.2*z->0<bG z r B (z8 y z a n g r+k)->∀u,Ch [] μ u->K (.t [.str "wait",.int (bG z r B (z8 y z a n g r+k))]) u)
  (h:z8 y z a n g r+k<=a.2.2*z->bG z r B (z8 y z a n g r+k)<=0->∀u j,Rd μ u di ni j x y z C a m g (z8 y z a n g r) k (.l []) cs->K (.m j) u) :
  qM [.int 0,.m di,cA x y z,.int B,.int C,.int r,.int k] μ K Z:=by
 have D:=(aO.mp hd).1;have o:ni≠di:=λw=>by rw[w,hd] at hc;cases hc
 refine⟨rfl,(QN s ok hd hc b t A k1 k2 (λe u c=>?_) (λf d u c=>?_) (λf d u j R=>?_))⟩
 .exact l e u c
 .exact i f d u c
 .have p:=R.jl;have q:j≠di:=by omega
  refine⟨_,R.hj,_,R.hd,by show (6:Nat)<aB;decide,?_⟩;refine h f d _ j ⟨R.ch.trans (Ch.set.mono sC),p,?_,am R.hd,?_⟩
  .rw[aX (bd q)];exact R.hj
  .rw[aX (bd o)];exact R.hc
noncomputable abbrev pH(l:Option Ls)(m:Option Int):T:=.t [bU l,bw m]
noncomputable abbrev zT(ck hs kt:T):MO:=.obj 46 [(21,ck),(11,hs),(22,kt)]
noncomputable abbrev dg(a:Nat):T:=Xl 1 (.m a)
theorem LX(h:μ[j]?=aa (zT ck hs kt))(q:K .n (μ.set j (zT ck hs t))):yx [.m j,t] μ K Z:=by
 exact⟨rfl,_,_,h,by show (3:Nat)<900;decide,q⟩
theorem HG(ho:μ[i]?=aa (bR u B z (dg s) l m n bt ag))(hc:μ[s]?=aa (zT ck hs kt))
  (g:l'=l->m'=m->K .n μ)
  (f:∀j,Ch [i,s] μ j->j.length=μ.length->j[i]?=aa (bR u B z (dg s) l' m' n bt ag)->j[s]?=aa (zT ck hs (pH l' m'))->K .n j) :
  qA [.m i,bU l',bw m'] μ K Z:=by
 have a:s≠i:=λw=>by rw[w,ho] at hc;cases hc
 refine⟨rfl,_,ho,(Mh ho ⟨Wv,_,JD,(zX (λe=>?_) (λe=>?_))⟩)⟩
 .simp only[bW,decide_eq_true_eq] at e;exact g e.1 e.2
 .refine⟨_,_,ho,by show (9:Nat)<900;decide,?_⟩;have d:=am (y:=bR u B z (dg s) l m n bt ae) ho;have c:(μ.set i (bR u B z (dg s) l m n bt ae))[s]?=aa (zT ck hs kt):=by rw[aX (bd a)];exact hc
  refine⟨_,_,_,d,rfl,_,rfl,_,c,(LX c ?_)⟩;have b:((μ.set i (bR u B z (dg s) l m n bt ae)).set s (zT ck hs (pH l' m')))[i]?=aa (bR u B z (dg s) l m n bt ae):=by rw[aX a];exact d
  refine⟨_,_,b,by show (9:Nat)<900;decide,_,_,am b,by show (9:Nat)<900;decide,_,_,am (am b),by show (9:Nat)<900;decide,?_⟩;refine f _ (((((Ch.set.mono sC).trans (Ch.set.mono sC)).trans (Ch.set.mono sC)).trans (Ch.set.mono sC)).trans (Ch.set.mono sC)) sC (am (am (am b))) ?_;rw[aX (bd a),aX (bd a),aX (bd a)];exact (am (y:=zT ck hs (pH l' m')) c)
theorem Il{v:Int}(h0:0<v)(h1:v<1000000000000000000):v.natAbs.log2<1920:=by
 have a:v.natAbs<2 ^ 60:=by
  omega
 rw[Af (by omega)];exact cz a (Nat.pow_le_pow_right dC (by omega))
noncomputable abbrev de(x y z b:Int)(a:Ls)(n m:Option Int)(r k:Int):Int:=gD x b m ((z8 y z a n m r+k-1) / z)
noncomputable abbrev ef(y z:Int)(a:Ls)(n m:Option Int)(r k:Int):Int:=bA y z a.1 (z8 y z a n m r+k-1)
theorem L8(ho:μ[i]?=aa (bR (aP x y z) u s (dg j) af m n bt ag))(k1:1<=k)(k2:k<=z)(a:Z 18 [] μ):qo [.m i,.int r,.int k] μ K Z:=by
 refine⟨rfl,_,ho,(qQ ho ⟨_,ho,rfl,?_⟩)⟩;refine qh ?_;rw[decide_eq_true k1];refine⟨_,_,_,ho,rfl,(zu lC ?_)⟩;exact zp ⟨_,ho,rfl,_,_,_,ho,rfl,dC,a⟩
noncomputable def Yp (x y:Int)(l:Option Ls):Prop:=∀a,l=aa a->bX x y a
noncomputable abbrev Tn:=Int×Int×Bool
noncomputable def qc(p:Tn):T:=.t [.int p.1,.int p.2.1,.bl p.2.2]
noncomputable def Xj (ts:List Tn):Prop:=ts.Pairwise (λa b=>a.1<b.1)
structure Cl(μ:Mem)(i:Nat)(μ':Mem)(ts:List Tn):Prop where
 hi:i<μ.length
 len:μ'.length=μ.length+1
 ot:∀j,j≠i->j<μ.length->μ'[j]?=μ[j]?
 st:St μ' i
 ls:μ'[μ.length]?=aa (.l (ts.map qc))
theorem Cl.up(c:Cl μ i s ts)(u:Up s i μ2):Cl μ i μ2 ts:=
 ⟨c.hi,u.len.trans c.len,λj h1 h2=>(u.ot j h1).trans (c.ot j h1 h2),u.st,(u.ot _ (fP c.hi)).trans c.ls⟩
theorem Cl.app(c:Cl μ i s ts):Cl μ i (s.set μ.length (.l (ts.map qc++[qc p]))) (ts++[p]):=by
 obtain⟨a,b,d,e⟩:=c.st;have hi:=c.hi;refine⟨c.hi,by rw[lX];exact c.len,λj h1 h2=>?_,⟨a,b,d,?_⟩,?_⟩
 .rw[aX lC];exact c.ot j h1 h2
 .rw[aX lC];exact e
 .rw[bP];exact am c.ls
theorem Jc{ts:List Tn}{k:Int}(h0:0<=k)(h1:k<ts.length):qS (ts.map qc) k=aa (qc (ts[k.toNat]'(by lia))):=by
 rw[ki h0 (by simpa using h1),bH,dO lC];rfl
noncomputable def qB(start:Int)(ts:List Tn)(a:Int):Int:=match ts.reverse.find? (λp=>decide (p.1<=a)) with
 |some p=>p.2.1+(if p.2.2 then a-p.1 else 0)
 |none=>start+a
theorem J9{α:Type}{f:α->Bool}:∀{l:List α}{n:Nat}{p:α},l[n]?=aa p->f p=ae->(∀q∈l.take n,f q=ag)->l.find? f=aa p
 |[],_,_,h,_,_=>by simp at h
 |x::r,0,p,h,b,_=>by
  (replace h:=zo h;subst h);simp[ b]
 |x::r,n+1,p,h,b,c=>by
  have d:=c x sC;have:=J9 (n:=n) h b λq a=>c q (by simp[a]);simp[ d,this]
noncomputable abbrev iy(start:Int)(ts:List Tn):MO:=.obj 41 [(3,.int start),(4,.l (ts.map qc))]
theorem x2{start:Int}(h:μ[i]?=aa (iy start ts))(q:K (.int (qB start ts j)) μ):jz [.m i,.int j] μ K Z:=by
 refine⟨rfl,(zp ⟨_,_,_,h,rfl,?_⟩)⟩;show eI _ _ _ (ts.map qc).reverse _ _ _;rw[<-List.map_reverse];refine zL (λn r d=>d=μ/\(∀p∈ts.reverse.take n,decide (p.1<=j)=ag)/\∃o,r=[aa (.m i),aa (.int j),o]) ⟨rfl,sC,_,rfl⟩ ?_ ?_
 .rintro n x r d f ⟨rfl,m,o,rfl⟩ N t;rw[bH] at f;cases k:ts.reverse[n]? with
  |none=>rw[k] at f;exact z9 f
  |some p=>
   rw[k] at f;(injection f with f;subst f);refine⟨_,rfl,_,rfl,(zA (λg=>?_) (λg=>?_))⟩
   .have e:qB start ts j=p.2.1+(if p.2.2 then j-p.1 else 0):=by
     unfold qB;rw[J9 k (decide_eq_true g) m]
    rw[e] at q;refine⟨_,rfl,_,rfl,?_⟩;obtain⟨a,b,c⟩:=p;cases c with
    |true=>exact⟨_,rfl,q⟩
    |false=>exact q
   .refine t _ _ ⟨rfl,λs l=>?_,_,rfl⟩;rw[dM,k] at l;rcases bf.mp l with z|z
    .exact m s z
    .have z:s=p:=by simpa using z
     rw[z];exact decide_eq_false g
 .rintro r d ⟨rfl,m,o,rfl⟩;have e:qB start ts j=start+j:=by
   unfold qB;have:ts.reverse.find? (λp=>decide (p.1<=j))=af:=by
    rw[List.find?_eq_none];intro p k;have:=m p (by rw[aL,Aw];exact k);simpa using this
   rw[this]
  rw[e] at q;exact⟨_,_,_,h,rfl,q⟩
theorem V6(q:K (.bl ae) μ):VM [qc p] μ K Z:=by
 refine⟨rfl,_,rfl,(zp ⟨_,rfl,(zp ?_)⟩)⟩;exact⟨_,rfl,q⟩
theorem xy:∀(n:Nat),bZ (lb n (T.bl ae))=aa (lb n ae)
 |0=>rfl
 |n+1=>by simp[List.replicate_succ,bZ,xy n]
theorem xl{α:Type}(xs:List α):∃bs,bZ (xs.map λ_=>T.bl ae)=aa bs/\bs.all id=ae:=by
 rw[List.map_const'];exact⟨_,xy _,sC⟩
theorem Q8{j:Nat}{ts:List Tn}(hj:μ[j]?=aa (.l (ts.map qc)))(hr:Xj ts)(l:ts.length<=40)(q:K (.bl ae) μ):Zv [.m j] μ K Z:=by
 refine⟨rfl,_,hj,_,hj,by rw[aL];unfold aB;lia,?_⟩;refine xo (λ_=>.bl ae) (λx e k b=>?_) ?_ hj
 .obtain⟨p,_,rfl⟩:=ba.mp e;exact⟨_,rfl,V6 b⟩
 obtain⟨bs,d,c⟩:=xl (ts.map qc);refine⟨bs,d,(B8 (by rw[c];rfl) ?_)⟩;refine⟨_,hj,⟨dC,by rw[aL];lia⟩,?_⟩;have a:(jL 1 ((ts.map qc).length:Nat) 1).length<=40:=by
  unfold jL;rw[aL,mT,aL];split<;>lia
 refine⟨cf a dC,(xo (λ_=>.bl ae) (λx e k b=>?_) ?_)⟩
 .unfold jL at e;obtain⟨n,f,rfl⟩:=ba.mp e;have f:=io.mp f;rw[aL] at f;have g:n+1<ts.length:=by split at f<;>lia
  have d:(1:Int)+n*1-1=n:=by lia
  have c:1+n*1=((n+1:Nat):Int):=by lia
  refine⟨_,rfl,?_⟩;have i:qS (ts.map qc) (1+n*1-1)=aa (qc ts[n]):=by
   rw[d,Jc lC lC];simp
  have h:qS (ts.map qc) (1+n*1)=aa (qc ts[n+1]):=by
   rw[c,Jc lC lC];simp
  refine⟨_,_,hj,i,_,rfl,_,_,hj,h,_,rfl,?_⟩;have:=eY.mp hr n (n+1) lC g (lz n);have b:k (aa (.bl (decide (ts[n].1<ts[n+1].1)))) μ:=decide_eq_true this▸b;exact b
 obtain⟨bs,d,c⟩:=xl (jL 1 ((ts.map qc).length:Nat) 1);refine⟨bs,d,?_⟩;have q:K (.bl (bs.all id)) μ:=c▸q;exact q
theorem yL:∀{μ:List MO},(μ++[x]).set μ.length y=μ++[y]
 |[]=>rfl
 |m::μ=>congrArg (m::·) (yL)
theorem uU{start:Int}{ts:List Tn}(hj:μ[j]?=aa (.l (ts.map qc)))(hr:Xj ts)(a:ts.length<=40)(q:K .n (μ++[iy start ts])):jI [.m μ.length,.int start,.m j] (μ++[.obj 41 []]) K Z:=by
 refine⟨rfl,(zp (Q8 (z3 hj) hr a ⟨_,_,z5,dC,?_⟩))⟩;rw[yL];refine⟨_,z3 hj,_,_,z5,(by (show 1<900);decide),?_⟩;rw[yL];exact q
section
variable {μ:Mem}
structure Hr where
 ho:ao
 s:Nat
 c:Nat
 h:Nat
 st:Int
 ts:List Tn
 l:Option Ls
 m:Option Int
 n:Option Int
 bt:T
 kt:T
noncomputable abbrev Hr.seat(u:Hr):MO:=zT (.m u.c) (.m u.h) u.kt
noncomputable abbrev Hr.house(x y z b a:Int)(u:Hr):MO:=bR (aP x y z) b a (dg u.s) u.l u.m u.n u.bt ag
noncomputable abbrev kg(x y z e b:Int)(c g d:Nat)(a:T):MO:=.obj 47 [(9,aP x y z),(14,.int e),(15,.int b),(23,.m c),(24,.m g),(25,a),(26,.m d)]
noncomputable abbrev vJ(u:Hr):Key×T:=(.inr u.ho,.m u.s)
structure dS(μ:Mem)(w cm gr g d:Nat)(x y z ah sd:Int)(now:T)(us:List Hr)(rs:List T)(ps:List Gp):Prop where
 wo:μ[w]?=aa (kg x y z ah sd cm g d now)
 bk:Bk μ cm gr (aP x y z) ps
 gv:μ[g]?=aa (.l rs)
 dc:μ[d]?=aa (.d (us.map vJ))
 se:∀u∈us,μ[u.s]?=aa u.seat
 cl:∀u∈us,μ[u.c]?=aa (iy u.st u.ts)
 hs:∀u∈us,μ[u.h]?=aa (u.house x y z ah sd)
 n1:(us.map (·.s)).Nodup
 n2:(us.map (·.h)).Nodup
 gg:g≠gr
theorem zk{i j:Nat}{a b:MO}(h1:μ[i]?=aa a)(h2:μ[j]?=aa b)(n:a≠b):i≠j:=λe=>by
 subst e;rw[h1] at h2;exact n (aZ h2)
theorem dS.ch0(W:dS μ w E D g d x y z G B s us C ps)(ch:Ch [] μ j):dS j w E D g d x y z G B s us C ps:=
 ⟨ch.get W.wo sC,W.bk.ch ch sC sC sC,ch.get W.gv sC,ch.get W.dc sC,λu a=>ch.get (W.se u a) sC,λu a=>ch.get (W.cl u a) sC,λu a=>ch.get (W.hs u a) sC,W.n1,W.n2,W.gg⟩
end
theorem Dx{α:Type}{xs:List α}{j:Nat}{v:α}(h:xs[j]?=aa v):qS xs (j:Int)=aa v:=by
 obtain⟨a,e⟩:=aO.mp h;unfold qS V0;rw[if_pos lC,if_pos lC];simpa using h
theorem Vw{a b:T}{r:List T}:qS (a::b::r) 1=aa b:=Dx rfl
theorem Q5{a b c:T}{r:List T}:qS (a::b::c::r) 2=aa c:=Dx rfl
theorem UP(q:K (.bl ae) μ):kI [.t [.str "lease",a,b,c,e]] μ K Z:=by
 exact⟨rfl,_,rfl,_,rfl,q⟩
theorem Iy(q:K (.bl ae) μ):xv [.t [.str "lease",.int t,b,c,e]] μ K Z:=by
 exact⟨rfl,(UP ⟨_,rfl,(zp q)⟩)⟩
theorem Qg:∀{us:List Hr}{i:Nat}{u:Hr},us[i]?=aa u->(us.map (·.ho)).Nodup->zr (.inr u.ho) (us.map vJ)=aa (.m u.s)
 |[],_,_,h,_=>z9 h
 |v::r,0,u,h,_=>by
  (injection h with h;subst h);show zr _ (vJ v::_)=_;unfold zr;rw[if_pos rfl]
 |v::r,i+1,u,h,n=>by
  rw[cC,g7] at n;show zr _ (vJ v::r.map vJ)=_;unfold zr;rw[if_neg (λe=>n.1 (ba.mpr ⟨u,aS h,(f_ e).symm⟩))];exact Qg h n.2
noncomputable def jB(a:T)(t:Int):Prop:=a=.n\/∃s:Int,a=.int s/\s<=t
theorem Ql{i:Nat}{u:Hr}{row:T}{r:List T}(W:dS μ w E D g d x y z G B j us C ps)(hi:us[i]?=aa u)(nd:(us.map (·.ho)).Nodup)(a:jB j t)(h1:u.ho.length<=aB)(h2:qL u.ho=ae)(b:row=.t (.str ho::.int t::.str u.ho::r))
  (hr:∀(K:T->Mem->Prop) (Z:Xp),K (.bl ae) μ->xv [row] μ K Z) (q:K .n μ):wL [.m w,row] μ K Z:=by
 refine⟨rfl,(hr _ _ ?_)⟩;subst b;refine⟨_,_,_,W.wo,rfl,?_⟩;rcases a with rfl|⟨s,rfl,c⟩
 .refine⟨_,Q5,(qO h1 ?_)⟩;rw[h2];refine⟨_,Q5,_,_,_,W.wo,rfl,_,W.dc,?_⟩;rw[Qg hi nd];exact q
 .refine⟨_,Vw,_,_,_,W.wo,rfl,(zu lC ?_)⟩;refine⟨_,Q5,(qO h1 ?_)⟩;rw[h2];refine⟨_,Q5,_,_,_,W.wo,rfl,_,W.dc,?_⟩;rw[Qg hi nd];exact q
noncomputable abbrev Hr.rd(u:Hr)(t:Int):Int:=qB u.st u.ts t
noncomputable abbrev xZ(wd:ao)(t:Int)(ho:ao)(k:Int):T:=.t [.str wd,.int t,.str ho,.int k]
noncomputable abbrev i2(wd:ao)(t:Int)(ho:ao)(hs:T)(n:Int):T:=.t [.str wd,.int t,.str ho,hs,.int n]
theorem dS.now'(W:dS μ w C G g d x y z D s B us E ps):dS (μ.set w (kg x y z D s C g d nw)) w C G g d x y z D s nw us E ps:=by
 have out:∀{j:Nat}{a:MO},μ[j]?=aa a->a≠kg x y z D s C g d B->(μ.set w (kg x y z D s C g d nw))[j]?=aa a:=λ{j a} e n=>by
  rw[aX (bd (zk e W.wo n))];exact e
 have b:∀{j:Nat}{a:MO},μ[j]?=aa a->a≠kg x y z D s C g d B->j∉[w]:=λ{j a} e n=>by simpa using zk e W.wo n
 exact⟨am W.wo,W.bk.ch Ch.set (b W.bk.com (λe=>by cases e)) (b W.bk.lst (λe=>by injection e)) (λp f=>b (W.bk.at_ p f) (λe=>by cases e)),out W.gv (λe=>by injection e),out W.dc (λe=>by injection e),λu c=>out (W.se u c) (λe=>by cases e),λu c=>out (W.cl u c) (λe=>by cases e),λu c=>out (W.hs u c) (λe=>by cases e),W.n1,W.n2,W.gg⟩
theorem dS.gave(W:dS μ w E D g d x y z G C B us H ps):dS (μ.set g (.l s)) w E D g d x y z G C B us s ps:=by
 have out:∀{j:Nat}{a:MO},μ[j]?=aa a->(∀l,a≠.l l)->(μ.set g (.l s))[j]?=aa a:=λ{j a} e n=>by
  rw[aX (bd (zk e W.gv (n _)))];exact e
 have b:∀{j:Nat}{a:MO},μ[j]?=aa a->(∀l,a≠.l l)->j∉[g]:=λ{j a} e n=>by simpa using zk e W.gv (n _)
 exact⟨out W.wo (λ_ e=>by injection e),W.bk.ch Ch.set (b W.bk.com (λ_ e=>by injection e)) (by simpa using bd W.gg) (λp f=>b (W.bk.at_ p f) (λ_ e=>by injection e)),am W.gv,out W.dc (λ_ e=>by injection e),λu c=>out (W.se u c) (λ_ e=>by injection e),λu c=>out (W.cl u c) (λ_ e=>by injection e),λu c=>out (W.hs u c) (λ_ e=>by injection e),W.n1,W.n2,W.gg⟩
noncomputable abbrev jY(t:Int)(ho:ao)(nm:Int):T:=.t [.int t,.str ho,.int nm]
noncomputable def jm (kt:T)(l:Option Ls)(m:Option Int):Prop:=(kt=.n/\l=af/\m=af)\/kt=pH l m
theorem Yr(hk:jm kt l m)(ho:μ[i]?=aa (bR z C B (dg u) l m n bt ag))(hc:μ[u]?=aa (zT ck hs kt))
  (q:∀j s,jm s l' m'->Ch [i,u] μ j->j.length=μ.length->j[i]?=aa (bR z C B (dg u) l' m' n bt ag)->j[u]?=aa (zT ck hs s)->K .n j) :
  qA [.m i,bU l',bw m'] μ K Z:=
 HG ho hc (λb a=>q μ kt (b▸a▸hk) Ch.refl rfl (b▸a▸ho) hc) λj ch c e d=>q j _ (.inr rfl) ch c e d
theorem IT(hk:jm kt l m)(ho:μ[i]?=aa (bR (aP x y z) C B (dg u) l m n bt ag))(hc:μ[u]?=aa (zT ck hs kt))(ok:bX x y a)
  (q:∀j s,jm s (aa a) m->Ch [i,u] μ j->j.length=μ.length->j[i]?=aa (bR (aP x y z) C B (dg u) (aa a) m n bt ag)->j[u]?=aa (zT ck hs s)->K .n j) :
  wu [.m i,bU (aa a)] μ K Z:=by
 refine⟨rfl,_,ho,(qQ ho ⟨_,_,_,ho,rfl,(yt ok.h0 ok.h1 ok.f0 ok.fu ok.ux ?_)⟩)⟩;exact⟨_,ho,_,_,_,ho,rfl,(Yr hk ho hc q)⟩
theorem CQ(s:Hz x y z)(xb:x<=10000000000000)(O:-1000000000000000<=r)(ok:Yp x y l)(hk:jm kt l m)(ho:μ[i]?=aa (bR (aP x y z) B D (dg C) l m n bt ag))(hc:μ[C]?=aa (zT ck hs kt))(A:∀k,n=aa k->0<=k/\k<x*y*z)(k1:1<=k)(k2:k<=z)(P:0<=B)
  (o:(∀a,l=aa a->a.2.2*z<z8 y z a n m r+k)->Z 18 [] μ) (t:∀a,l=aa a->z8 y z a n m r+k<=a.2.2*z->0<bG z r B (z8 y z a n m r+k)->Z 21 [(29,.int (bG z r B (z8 y z a n m r+k)))] μ)
  (q:∀a,l=aa a->z8 y z a n m r+k<=a.2.2*z->bG z r B (z8 y z a n m r+k)<=0->∀j u,jm u (aa a) (aa (de x y z D a n m r k))->Ch [i,C] μ j->j.length=μ.length->j[i]?=aa (bR (aP x y z) B D (dg C) (aa a) (aa (de x y z D a n m r k)) (aa (ef y z a n m r k)) bt ag)->j[C]?=aa (zT ck hs u)->K (uZ a.1 (z8 y z a n m r) (z8 y z a n m r+k)) j) :
  qo [.m i,.int r,.int k] μ K Z:=by
 obtain⟨M,L,J,I,H⟩:=id s;cases l with
 |none=>exact L8 ho k1 k2 (o λa e=>z9 e)
 |some a=>
  have ok:=ok a rfl;have R:=kN (n:=n) (m:=m) (r:=r) s ok;have F:=ok.h0;have E:=ok.h1;have N:a.2.2*z<=x*z:=fG ok.ux lC;have b:z8 y z a n m r+k<=a.2.2*z->0<bG z r B (z8 y z a n m r+k)->(bG z r B (z8 y z a n m r+k)).natAbs.log2<1920:=λp g=>by
   have Q:(z8 y z a n m r+k-1) / z<x:=oU lC lC;exact Il g lC
  refine⟨rfl,_,ho,(qQ ho ⟨_,ho,(YJ s ho A k1 k2 (λh=>o λS e=>by (replace e:=zo e;subst e);exact h) (λe0 e=>⟨b e0 e,t a rfl e0 e⟩) λp g=>?_)⟩)⟩;refine⟨_,ho,_,_,_,ho,rfl,_,ho,_,_,_,ho,rfl,⟨lC,lC⟩,?_⟩;refine MP ho (Yr (l':=aa a) (m':=aa (de x y z D a n m r k)) hk ho hc λj u d ch v f G=>⟨_,_,_,f,rfl,(uE s lC lC F E ?_)⟩);refine⟨_,_,f,by show (9:Nat)<900;decide,?_⟩;have c:C≠i:=λw=>by rw[w,ho] at hc;cases hc
  refine q a rfl p g _ u d (ch.trans (Ch.set.mono sC)) (by simp[v]) (am f) ?_;rw[aX (bd c)];exact G
theorem Fo(s:Hz x y z)(xb:x<=10000000000000)(f:-1000000000000000<=r)(ok:Yp x y l)(hk:jm kt l m)(zb:z<=1000)(ho:μ[i]?=aa (bR (aP x y z) D G (dg C) l m n bt ag))(hc:μ[C]?=aa (zT ck hs kt))(o:∀k,n=aa k->0<=k/\k<x*y*z)(k1:1<=k)(k2:k<=z)(p:0<=D)
  (h:(∀a,l=aa a->a.2.2*z<z8 y z a n m r+k)->Z 18 [] μ) (g:∀a,l=aa a->z8 y z a n m r+k<=a.2.2*z->0<bG z r D (z8 y z a n m r+k)->Z 21 [(29,.int (bG z r D (z8 y z a n m r+k)))] μ)
  (q:∀a,l=aa a->z8 y z a n m r+k<=a.2.2*z->bG z r D (z8 y z a n m r+k)<=0->∀u B j E,jm B (aa a) (aa (de x y z G a n m r k))->Ch [i,C] μ u->μ.length<=j->μ.length<=E->j≠E->u[i]?=aa (bR (aP x y z) D G (dg C) (aa a) (aa (de x y z G a n m r k)) (aa (ef y z a n m r k)) (.m E) ag)->u[E]?=aa (.l [])->u[C]?=aa (zT ck hs B)->u[j]?=aa (.l ((bu y z a.1 (z8 y z a n m r) k).map T.int))->K (.m j) u) :
  xS [.m i,.int r,.int k] μ K Z:=by
 obtain⟨N,L,J,I,H⟩:=id s;refine⟨rfl,_,ho,(CQ s xb f ok hk ho hc o k1 k2 p h g λa v F A u B d ch P b t=>?_)⟩;subst v;have ok:=ok a rfl;have e:=ok.ux;have O:a.2.2*z<=x*z:=fG e lC;have M:=AE xb zb lC lC;have c:C≠i:=λw=>by rw[w,ho] at hc;cases hc
 have Q:=(aO.mp b).1;refine⟨_,_,z3 b,by show (9:Nat)<900;decide,_,_,_,am (z3 b),rfl,?_⟩;refine xK s lC (kN (n:=n) (m:=m) (r:=r) s ok) lC lC lC ok.h0 ok.h1 ?_;rw[show z8 y z a n m r+k-z8 y z a n m r=k by lia];refine q a rfl F A _ B _ _ d (((ch.trans (Ch.app.mono sC)).trans (Ch.set.mono sC)).trans (Ch.app.mono sC)) (by simp;lia) lC sC (z3 (am (z3 b))) ?_ ?_ z5
 .refine z3 ?_;rw[aX lC];exact z5
 .refine z3 ?_;rw[aX (bd c)];exact z3 t
theorem II(s:Hz x y z)(xb:x<=10000000000000)(E:-1000000000000000<=r)(ok:Yp x y l)(hk:jm kt l m)(ho:μ[i]?=aa (bR (aP x y z) C D (dg B) l m n (.m bi) ag))(hc:μ[B]?=aa (zT ck hs kt))(b:μ[bi]?=aa (.l (bs.map X.btT)))(Q:bs.length<=900)(f:∀p∈bs,p.2.1<=p.2.2)(H:∀k,n=aa k->0<=k/\k<x*y*z)(k1:1<=k)(k2:k<=z)(I:0<=C)
  (G:(∀a,l=aa a->a.2.2*z<z8 y z a n m r+k)->Z 18 [] μ) (F:∀a,l=aa a->z8 y z a n m r+k<=a.2.2*z->0<bG z r C (z8 y z a n m r+k)->Z 21 [(29,.int (bG z r C (z8 y z a n m r+k)))] μ)
  (q:∀a,l=aa a->z8 y z a n m r+k<=a.2.2*z->bG z r C (z8 y z a n m r+k)<=0->∀j u v,jm u (aa a) (aa (de x y z D a n m r k))->Ch [i,B,bi] μ j->j[i]?=aa (bR (aP x y z) C D (dg B) (aa a) (aa (de x y z D a n m r k)) (aa (ef y z a n m r k)) (.m bi) ag)->j[B]?=aa (zT ck hs u)->j[bi]?=aa (.l ((bs++[(a.1,z8 y z a n m r,z8 y z a n m r+k)]).map X.btT))->K v j) :
  jD [.m i,.int r,.int k] μ K Z:=by
 have ne:bi≠i:=λw=>by rw[w,ho] at b;cases b
 have h:bi≠B:=λw=>by rw[w,hc] at b;cases b
 refine⟨rfl,_,ho,(CQ s xb E ok hk ho hc H k1 k2 I G F λa M O N j u e ch P A L=>?_)⟩;have g:=ch.get b (by simp[ne,h]);refine⟨_,_,_,A,rfl,⟨_,g⟩,_,g,by rw[aL];unfold aB;lia,?_⟩;have t:∀{o:MO},(j.set bi o)[i]?=aa (bR (aP x y z) C D (dg B) (aa a) (aa (de x y z D a n m r k)) (aa (ef y z a n m r k)) (.m bi) ag):=by intro o;rw[aX ne];exact A
 have J:∀{o:MO},(j.set bi o)[B]?=aa (zT ck hs u):=by intro o;rw[aX h];exact L
 have d:(j.set bi (.l (bs.map X.btT++[uZ a.1 (z8 y z a n m r) (z8 y z a n m r+k)])))[bi]?=aa (.l ((bs++[(a.1,z8 y z a n m r,z8 y z a n m r+k)]).map X.btT)):=by
  rw[am g,bP];rfl
 refine⟨_,_,_,t,rfl,(X.size_of_sp (y:=y) (z:=z) d (by simp;lia) (λp c=>?_) ?_)⟩
 .rcases bf.mp c with c|c
  .exact f p c
  .rw[aT.mp c];show z8 y z a n m r<=z8 y z a n m r+k;lia
 .exact q a M O N _ u _ e ((ch.mono sC).trans (Ch.set.mono sC)) t J d
theorem FW(s:Hz x y z)(hk:jm kt l m)(ho:μ[i]?=aa (bR (aP x y z) E D (dg B) l m n bt ag))(hc:μ[B]?=aa (zT ck hs kt))(f:∀k,n=aa k->0<=k/\k<x*y*z)
  (e:l=af->Z 18 [] μ)
  (q:∀a,l=aa a->∀j u C,jm u af m->Ch [i,B] μ j->μ.length<=C->j[i]?=aa (bR (aP x y z) E D (dg B) af m n (.m C) ag)->j[B]?=aa (zT ck hs u)->j[C]?=aa (.l [])->K (.t [bU (aa a),bw (wN a.2.1 a.2.2 (qK y z n m))]) j):wH [.m i] μ K Z:=by
 have g:=(aO.mp ho).1;have b:B≠i:=λw=>by rw[w,ho] at hc;cases hc
 refine⟨rfl,_,ho,(qQ ho ⟨_,ho,rfl,_,_,_,ho,rfl,?_⟩)⟩;cases l with
 |none=>exact⟨dC,e rfl⟩
 |some a=>
  refine⟨_,_,_,ho,rfl,_,_,_,ho,rfl,_,ho,(yH s ho f (VC ⟨_,ho,_,_,_,ho,rfl,?_⟩))⟩;refine Yr (l':=af) hk ho hc λj u c ch o d h=>⟨_,_,z3 d,by show (9:Nat)<900;decide,?_⟩;refine q a rfl _ u j.length c ((ch.trans (Ch.app.mono sC)).trans (Ch.set.mono sC)) lC (am (z3 d)) ?_ ?_
  .rw[aX (bd b)];exact z3 h
  .rw[aX lC];exact z5
theorem u6{w E g d o:Nat}{k:T}(hw:μ[w]?=aa (kg x y z D C E g d k))(a:μ[B]?=aa (zT ck hs kt))(ht:μ[o]?=aa (.tab 1))(p:0<=D)(hd:0<=C)(hk:jm kt l m)(r:∀v,m=aa v->0<=v/\v<x)(t:Yp x y l)
  (q:∀s u,Ch [B] μ s->μ.length<u->s[B]?=aa (zT ck (.m μ.length) kt)->s[μ.length]?=aa (bR (aP x y z) D C (dg B) l m af (.m u) ag)->s[u]?=aa (.l [])->K .n s):z_ [.m w,.m B] μ K Z:=by
 have F:=(aO.mp a).1;have i:∀(s:Mem) (u:Nat),Ch [μ.length] (μ++[MO.obj 45 []]) s->(μ++[MO.obj 45 []]).length<=u->s[μ.length]?=aa (bR (aP x y z) D C (dg B) l m af (.m u) ag)->s[u]?=aa (.l [])->K .n (s.set B (zT ck (.m μ.length) kt))/\s[B]?=aa (zT ck hs kt):=λs u ch b e h=>by
  have b:μ.length<u:=by simp at b;lia
  have c:=ch.get (z3 a) (by simp;lia);refine⟨q _ u ⟨?_,λj A n=>?_⟩ b (am c) ?_ ?_,c⟩
  .have:=ch.len;simp at this ⊢;lia
  .have n:j≠B:=by simpa using n
   rw[aX (bd n),ch.ot j (by simp;lia) (by simp;lia),cE A]
  .rw[aX lC];exact e
  .rw[aX lC];exact h
 refine⟨rfl,_,_,_,hw,rfl,_,_,_,hw,rfl,_,_,_,hw,rfl,⟨o,ht⟩,.m B,rfl,_,_,_,a,rfl,?_⟩;rcases hk with⟨rfl,rfl,rfl⟩|rfl
 .refine Y7 z5 p hd λs u ch b e h=>?_;obtain⟨f,c⟩:=i s u ch b e h;exact⟨rfl,_,_,c,by show (3:Nat)<900;decide,f⟩
 .refine Kp z5 p hd r t λs u ch b e h=>?_;obtain⟨f,c⟩:=i s u ch b e h;exact⟨rfl,_,_,c,by show (3:Nat)<900;decide,f⟩
section
variable {μ:Mem}
structure Vh where
 u:Hr
 b:Nat
 bs:List X.Bt
 la:Option Int
structure Wm(μ:Mem)(w cm gr g d:Nat)(x y z ah sd:Int)(now:T)(vs:List Vh)(rs:List T)(ps:List Gp):Prop where
 W:dS μ w cm gr g d x y z ah sd now (vs.map (·.u)) rs ps
 bt:∀v∈vs,v.u.bt=.m v.b
 bl:∀v∈vs,μ[v.b]?=aa (.l (v.bs.map X.btT))
 bn:(vs.map (·.b)).Nodup
 bg:∀v∈vs,v.b≠gr/\v.b≠g
abbrev gE(o:MO):Prop:=∃c fs,o=.obj c fs
structure Fr(gr g d:Nat)(vs:List Vh)(i:Nat):Prop where
 n1:i≠gr
 n2:i≠g
 n3:i≠d
 n4:∀v∈vs,i≠v.b
theorem zI{i:Nat}{o:MO}(h:μ[i]?=aa o):i<μ.length:=(aO.mp h).1
theorem Wm.law(M:Wm μ w G C g d x y z H D B vs E ps)(ch:Ch S μ s)(h:∀j∈S,Fr C g d vs j/\∀o,μ[j]?=aa o->¬gE o):Wm s w G C g d x y z H D B vs E ps:=by
 obtain⟨W,bt,bl,bn,bg⟩:=M;have ob:∀{j c fs},μ[j]?=aa (MO.obj c fs)->j∉S:=λe hj=>(h _ hj).2 _ e ⟨_,_,rfl⟩;exact⟨⟨ch.get W.wo (ob W.wo),W.bk.ch ch (ob W.bk.com) (λhj=>(h _ hj).1.n1 rfl) (λp f=>ob (W.bk.at_ p f)),ch.get W.gv (λhj=>(h _ hj).1.n2 rfl),ch.get W.dc (λhj=>(h _ hj).1.n3 rfl),λu a=>ch.get (W.se u a) (ob (W.se u a)),λu a=>ch.get (W.cl u a) (ob (W.cl u a)),λu a=>ch.get (W.hs u a) (ob (W.hs u a)),W.n1,W.n2,W.gg⟩,bt,λv b=>ch.get (bl v b) (λhj=>(h _ hj).1.n4 v b rfl),bn,bg⟩
theorem vL{α:Type}{vs:List α}{v':α}{P:α->Prop}{q:α}(c:q∈vs.set i v'):q=v'\/∃j,j≠i/\vs[j]?=aa q:=by
 obtain⟨j,a⟩:=dD.mp c;by_cases e:j=i
 .subst e;have b:=(aO.mp a).1;rw[lX] at b;rw[iX b] at a;exact .inl (aZ a).symm
 .rw[aX (bd e)] at a;exact .inr ⟨j,e,a⟩
theorem vQ{α β:Type}{vs:List α}{f:α->β}(n:(vs.map f).Nodup){i j:Nat}{u v:α}(hi:vs[i]?=aa u)(hj:vs[j]?=aa v)(e:f u=f v):i=j:=by
 have g:(vs.map f)[i]?=aa (f u):=by rw[bH,hi];rfl
 have d:(vs.map f)[j]?=aa (f u):=by rw[bH,hj,e];rfl
 obtain⟨a,c⟩:=aO.mp g;obtain⟨b,eb⟩:=aO.mp d;rcases oH i j with h|h|h
 .exact absurd (c.trans eb.symm) (eY.mp n i j a b h)
 .exact h
 .exact absurd (eb.trans c.symm) (eY.mp n j i b a h)
theorem Kc{α β:Type}{vs:List α}{v v':α}{f:α->β}(hi:vs[i]?=aa v)(e:f v'=f v):(vs.set i v').map f=vs.map f:=by
 rw[rF,e];exact set_same (by rw[bH,hi];rfl)
theorem uK{α:Type}{vs:List α}{v v':α}{f:α->Nat}(n:(vs.map f).Nodup)(hi:vs[i]?=aa v)(h:f v'=f v\/∀q∈vs,f q≠f v'):((vs.set i v').map f).Nodup:=by
 rcases h with h|h
 .rw[Kc hi h];exact n
 .unfold List.Nodup at n ⊢;rw[ij,eY] at n ⊢;intro a b e d c;rw[lX] at e d;rw[oC,oC];split
  .rw[if_neg lC];exact bd (h _ (m5 _))
  .split
   .exact h _ (m5 _)
   .exact n a b e d c
structure v4(v' v:Vh):Prop where
 ho:v'.u.ho=v.u.ho
 s:v'.u.s=v.u.s
 c:v'.u.c=v.u.c
 st:v'.u.st=v.u.st
 ts:v'.u.ts=v.u.ts
theorem Wm.upd(M:Wm μ w Q I g d x y z G D E vs H ps)(hi:vs[i]?=aa v)(ch:Ch [v.u.h,v.u.s,v.b] μ B)(sm:v4 v' v)(F:v'.u.h=v.u.h\/μ.length<=v'.u.h)(hb:v'.b=v.b\/μ.length<=v'.b)
  (J:B[v'.u.h]?=aa (v'.u.house x y z G D)) (gs:B[v.u.s]?=aa v'.u.seat) (et:v'.u.bt=.m v'.b) (gb:B[v'.b]?=aa (.l (v'.bs.map X.btT))):Wm B w Q I g d x y z G D E (vs.set i v') H ps:=by
 obtain⟨W,bt,bl,bn,bg⟩:=M;have t:=aS hi;have C:v.u∈vs.map (·.u):=ba.mpr ⟨v,t,rfl⟩;have r:=W.hs _ C;have hs:=W.se _ C;have out:∀{j:Nat}{a:MO},μ[j]?=aa a->a≠v.u.house x y z G D->a≠v.u.seat->j≠v.b->B[j]?=aa a:=λ{j a} e n1 n2 n3=>ch.get e (by
  simp only[bC,dP,or_false,not_or];exact⟨zk e r n1,zk e hs n2,n3⟩)
 have nb:∀{j:Nat}{a:MO},μ[j]?=aa a->(∀l,a≠.l l)->j≠v.b:=λ{j a} e n=>zk e (bl v t) (n _);have o:∀{q:Hr},q∈(vs.set i v').map (·.u)->q=v'.u\/∃j p,j≠i/\vs[j]?=aa p/\q=p.u:=λ{q} k=>by
  obtain⟨p,A,rfl⟩:=ba.mp k;rcases vL (P:=λ_=>True) A with rfl|⟨j,n,hj⟩
  .exact .inl rfl
  .exact .inr ⟨j,p,n,hj,rfl⟩
 have m:∀{j:Nat}{p:Vh},vs[j]?=aa p->p.u∈vs.map (·.u):=λh=>ba.mpr ⟨_,aS h,rfl⟩;have n1:(vs.map (·.u.s)).Nodup:=by have:=W.n1;rw[bB] at this;exact this
 have n2:(vs.map (·.u.h)).Nodup:=by have:=W.n2;rw[bB] at this;exact this
 have f:∀{j:Nat},j≠v.u.h->j≠v.u.s->j≠v.b->j∉[v.u.h,v.u.s,v.b]:=λa b c=>by
  simp only[bC,dP,or_false,not_or];exact⟨a,b,c⟩
 refine⟨⟨out W.wo (λe=>by cases e) (λe=>by cases e) (nb W.wo (λ_ e=>by injection e)),W.bk.ch ch (f (zk W.bk.com r (λe=>by cases e)) (zk W.bk.com hs (λe=>by cases e)) (nb W.bk.com (λ_ e=>by injection e))) (f (zk W.bk.lst r (λe=>by injection e)) (zk W.bk.lst hs (λe=>by injection e)) (bd (bg v t).1)) λp A=>?_,out W.gv (λe=>by injection e) (λe=>by injection e) (bd (bg v t).2),?_,λq k=>?_,λq k=>?_,λq k=>?_,?_,?_,W.gg⟩,λq k=>?_,λq k=>?_,?_,λq k=>?_⟩
 .exact f (zk (W.bk.at_ p A) r (λe=>by cases e)) (zk (W.bk.at_ p A) hs (λe=>by cases e)) (nb (W.bk.at_ p A) (λ_ e=>by injection e))
 .have e:((vs.set i v').map (·.u)).map vJ=(vs.map (·.u)).map vJ:=by
   rw[bB,bB];exact Kc hi (by show vJ v'.u=vJ v.u;unfold vJ;rw[sm.ho,sm.s])
  rw[e];exact out W.dc (λe=>by injection e) (λe=>by injection e) (nb W.dc (λ_ e=>by injection e))
 .rcases o k with rfl|⟨j,p,ne,hj,rfl⟩
  .rw[sm.s];exact gs
  .have e:=W.se _ (m hj);exact ch.get e (f (zk e r (λe=>by cases e)) (λe=>ne (vQ n1 hj hi e)) (nb e (λ_ e=>by injection e)))
 .rcases o k with rfl|⟨j,p,ne,hj,rfl⟩
  .rw[sm.c,sm.st,sm.ts];exact out (W.cl _ C) (λe=>by cases e) (λe=>by cases e) (nb (W.cl _ C) (λ_ e=>by injection e))
  .exact out (W.cl _ (m hj)) (λe=>by cases e) (λe=>by cases e) (nb (W.cl _ (m hj)) (λ_ e=>by injection e))
 .rcases o k with rfl|⟨j,p,ne,hj,rfl⟩
  .exact J
  .have e:=W.hs _ (m hj);exact ch.get e (f (λe=>ne (vQ n2 hj hi e)) (zk e hs (λe=>by cases e)) (nb e (λ_ e=>by injection e)))
 .rw[bB];exact uK n1 hi (.inl sm.s)
 .rw[bB];refine uK n2 hi (F.imp id λh q k e=>?_);have:=zI (W.hs q.u (ba.mpr ⟨q,k,rfl⟩));lia
 .rcases vL (P:=λ_=>True) k with rfl|⟨j,n,hj⟩
  .exact et
  .exact bt q (aS hj)
 .rcases vL (P:=λ_=>True) k with rfl|⟨j,n,hj⟩
  .exact gb
  .have e:=bl q (aS hj);exact ch.get e (f (zk e r (λe=>by injection e)) (zk e hs (λe=>by injection e)) (λe=>n (vQ bn hj hi e)))
 .refine uK bn hi (hb.imp id λh q k e=>?_);have:=zI (bl q k);lia
 .rcases vL (P:=λ_=>True) k with rfl|⟨j,n,hj⟩
  .rcases hb with h|h
   .rw[h];exact bg v t
   .have h1:=zI W.bk.lst;have h2:=zI W.gv;constructor<;>lia
  .exact bg q (aS hj)
theorem Wm.book{c:List Gp}(M:Wm μ w E C g d x y z J H D vs I ps)(ch:Ch S μ s)(k:∀j∈S,j=C\/∃p∈ps,j=p.1)(B:Bk s E C (aP x y z) c):Wm s w E C g d x y z J H D vs I c:=by
 obtain⟨W,bt,bl,bn,bg⟩:=M;have ni:∀{j:Nat}{a:MO},μ[j]?=aa a->j≠C->(∀G:Gr,a≠G.O)->j∉S:=λ{j a} e n1 n2 hj=>by
  rcases k j hj with h|⟨p,i,h⟩
  .exact n1 h
  .exact zk e (W.bk.at_ p i) (n2 p.2) h
 have nl:∀{j:Nat}{a:MO},μ[j]?=aa a->(∀l,a≠.l l)->j≠C:=λ{j a} e n=>zk e W.bk.lst (n _);exact⟨⟨ch.get W.wo (ni W.wo (nl W.wo (λ_ e=>by injection e)) (λ_ e=>by cases e)),B,ch.get W.gv (ni W.gv W.gg (λ_ e=>by injection e)),ch.get W.dc (ni W.dc (nl W.dc (λ_ e=>by injection e)) (λ_ e=>by injection e)),λu b=>ch.get (W.se u b) (ni (W.se u b) (nl (W.se u b) (λ_ e=>by injection e)) (λ_ e=>by cases e)),λu b=>ch.get (W.cl u b) (ni (W.cl u b) (nl (W.cl u b) (λ_ e=>by injection e)) (λ_ e=>by cases e)),λu b=>ch.get (W.hs u b) (ni (W.hs u b) (nl (W.hs u b) (λ_ e=>by injection e)) (λ_ e=>by cases e)),W.n1,W.n2,W.gg⟩,bt,λv f=>ch.get (bl v f) (ni (bl v f) (bg v f).1 (λ_ e=>by injection e)),bn,bg⟩
theorem Wm.now'(M:Wm μ w s D g d x y z u j C vs B ps):Wm (μ.set w (kg x y z u j s g d nw)) w s D g d x y z u j nw vs B ps:=
 ⟨M.W.now',M.bt,λv a=>by rw[aX (bd (zk (M.bl v a) M.W.wo (λe=>by injection e)))];exact M.bl v a,M.bn,M.bg⟩
theorem Wm.gave(M:Wm μ w C B g d x y z D u s vs E ps):Wm (μ.set g (.l j)) w C B g d x y z D u s vs j ps:=
 ⟨M.W.gave,M.bt,λv a=>by rw[aX (bd (M.bg v a).2)];exact M.bl v a,M.bn,M.bg⟩
variable {vs:List Vh}{v:Vh}
noncomputable abbrev E3:=Int×ao×Int
abbrev ws(y z:Int)(G:Gr)(nm:Int):Prop:=nm / z % y=G.h/\G.f<=nm / z / y/\nm / z / y<G.u
abbrev pY(y z:Int)(a:Ls)(nm:Int):Prop:=nm / z % y=a.1/\a.2.1<=nm / z / y/\nm / z / y<a.2.2
abbrev eK(y z:Int)(ps:List Gp)(ho:ao)(nm:Int):Prop:=∃p∈ps,p.2.ho=ho/\ws y z p.2 nm
structure Hd(x y z r ah:Int)(a:Ls)(n m:Option Int)(nm:Int):Prop where
 il:pY y z a nm
 nb:0<=nm/\nm<x*y*z
 up:∀j,n=aa j->j<nm
 ma:∀v,n=af->m=aa v->v<nm / z / y
 rd:r<=nm / z / y/\nm / z / y<=r+ah
theorem Iz(z1:1<=z):Zu y z a.1 n m<=z8 y z a n m r/\a.2.1*z<=z8 y z a n m r/\r*z<=z8 y z a n m r:=by
 have h:r*z<=(if a.2.1<r then r else a.2.1)*z:=fG (by split<;>lia) lC;have b:a.2.1*z<=(if a.2.1<r then r else a.2.1)*z:=fG (by split<;>lia) lC;unfold z8;split<;>lia
theorem Ys(s:Hz x y z)(ok:bX x y a)(I:z8 y z a n m r+k<=a.2.2*z)(H:bG z r u (z8 y z a n m r+k)<=0)(l:nm∈bu y z a.1 (z8 y z a n m r) k):Hd x y z r u a n m nm:=by
 obtain⟨B,A,w,g,t⟩:=id s;obtain⟨c,G,F⟩:=Iz (y:=y) (a:=a) (n:=n) (m:=m) (r:=r) g;have J:=kN (n:=n) (m:=m) (r:=r) s ok;have C:a.2.2*z<=x*z:=fG ok.ux lC;obtain⟨j,f,rfl⟩:=ba.mp l;have f:=io.mp f;generalize z8 y z a n m r=b at *;obtain⟨d,h,D⟩:=we s ok.h0 ok.h1;have p:(b+j) / z<a.2.2:=oU lC lC;have o:r<=(b+j) / z:=(ny lC).mpr lC;have E:(b+j) / z<=(b+k-1) / z:=sg lC lC;refine⟨⟨h,d▸⟨((ny lC).mpr lC),p⟩⟩,CU s ok.h0 ok.h1 lC lC,λi e=>?_,λv e q=>?_,d▸⟨o,lC⟩⟩
 .subst e;exact (jM s ok.h0 ok.h1).mpr (show cV y z a.1 i<=b+j by have:cV y z a.1 i<=b:=c;lia)
 .subst e q;have c:(v+1)*z<=b:=c;have:v+1<=(b+j) / z:=(ny lC).mpr lC;lia
theorem CZ(s:Hz x y z)(ok:bX x y a){b:Int}:(bu y z a.1 b k).Pairwise (·<·):=by
 unfold bu;rw[ij];exact AQ (λh=>yh s ok.h0 ok.h1 lC) List.pairwise_lt_range
theorem VY(s:Hz x y z)(ok:bX x y a)(k1:1<=k):ef y z a n m r k∈bu y z a.1 (z8 y z a n m r) k/\∀nm∈bu y z a.1 (z8 y z a n m r) k,nm<=ef y z a n m r k:=by
 show bA y z a.1 (z8 y z a n m r+k-1)∈_/\∀nm∈_,nm<=bA y z a.1 (z8 y z a n m r+k-1);generalize z8 y z a n m r=b;refine⟨ba.mpr ⟨(k-1).toNat,io.mpr lC,by rw[show b+((k-1).toNat)=b+k-1 by lia]⟩,λnm h=>?_⟩;obtain⟨j,c,rfl⟩:=ba.mp h;have c:=io.mp c;by_cases e:j=k-1
 .rw[show b+j=b+k-1 by lia];exact d6 _
 .exact mR (yh s ok.h0 ok.h1 lC)
theorem C3(s:Hz x y z)(ok:bX x y a)(u:z8 y z a n m r+k<=a.2.2*z)(k1:1<=k)(hd:0<=j)(f:∀v,m=aa v->0<=v/\v<x):0<=de x y z j a n m r k/\de x y z j a n m r k<x/\ef y z a n m r k / z / y<=de x y z j a n m r k/\∀v,m=aa v->v<=de x y z j a n m r k:=by
 obtain⟨o,l,i,h,g⟩:=id s;have A:=kN (n:=n) (m:=m) (r:=r) s ok;have t:a.2.2*z<=x*z:=fG ok.ux lC;show 0<=gD x j m ((z8 y z a n m r+k-1) / z)/\gD x j m ((z8 y z a n m r+k-1) / z)<x/\bA y z a.1 (z8 y z a n m r+k-1) / z / y<=gD x j m ((z8 y z a n m r+k-1) / z)/\∀v,m=aa v->v<=gD x j m ((z8 y z a n m r+k-1) / z);rw[(we s ok.h0 ok.h1).1];have d:0<=(z8 y z a n m r+k-1) / z:=oz lC lC;have b:(z8 y z a n m r+k-1) / z<x:=oU lC lC;generalize (z8 y z a n m r+k-1) / z=c at d b;unfold gD;cases m with
 |none=>
  refine⟨?_,?_,?_,λv e=>z9 e⟩<;>(show _ ;unfold eQ;split<;>lia)
 |some w=>
  obtain⟨q,p⟩:=f w rfl;refine⟨?_,?_,?_,λv e=>?_⟩
  .show 0<=if c<=w then w else eQ (c+j) (x-1)
   unfold eQ;split<;>(try split)<;>lia
  .show (if c<=w then w else eQ (c+j) (x-1))<x;unfold eQ;split<;>(try split)<;>lia
  .show c<=if c<=w then w else eQ (c+j) (x-1)
   unfold eQ;split<;>(try split)<;>lia
  ·(replace e:=zo e;subst e);unfold eQ;split<;>(try split)<;>lia
structure e7(x y z:Int)(ps:List Gp)(v:Vh):Prop where
 h1:v.u.ho.length<=aB
 h2:qL v.u.ho=ae
 ok:Yp x y v.u.l
 nb:∀k,v.u.n=aa k->0<=k/\k<x*y*z
 mb:∀w,v.u.m=aa w->0<=w/\w<x
 kt:jm v.u.kt v.u.l v.u.m
 ls:∀a,v.u.l=aa a->∃p∈ps,p.2.ho=v.u.ho/\p.2.h=a.1/\p.2.f=a.2.1/\p.2.u0=a.2.2/\p.2.ct=ag
 nm:∀k,v.u.n=aa k->∃w,v.u.m=aa w/\k / z / y<=w
 la:∀a,v.la=aa a->(∃w,v.u.m=aa w/\a / z / y<=w)/\∀k,v.u.n=aa k->a<=k
 bo:X.BOk x y z v.bs
 bi:∀q∈X.nmB y z v.bs,(0<=q/\q<x*y*z)/\(∀a,v.la=aa a->a<q)/\(∃k,v.u.n=aa k/\q<=k)/\eK y z ps v.u.ho q
 bp:(X.nmB y z v.bs).Pairwise (·<·)
noncomputable def Nf (y z:Int)(v:Vh)(nm:Int):Prop:=(∃a,v.la=aa a/\nm<=a)\/((∀a,v.u.l=aa a->¬pY y z a nm)/\nm∉X.nmB y z v.bs)
structure cy(x y z:Int)(vs:List Vh)(ps:List Gp)(es:List E3):Prop where
 gd:Gd x y ps
 nh:(vs.map (·.u.ho)).Nodup
 v:∀v∈vs,e7 x y z ps v
 eb:∀e∈es,0<=e.2.2/\e.2.2<x*y*z
 eg:∀e∈es,eK y z ps e.2.1 e.2.2
 en:∀e∈es,∀v∈vs,v.u.ho=e.2.1->Nf y z v e.2.2
 nd:(es.map (·.2.2)).Nodup
theorem eK.mono(h:eK y z ps ho nm)(s:∀p∈ps,p∈j):eK y z j ho nm:=let ⟨p,a,r⟩:=h;⟨p,s p a,r⟩
theorem e7.mono(V:e7 x y z ps v)(s:∀p∈ps,p∈j):e7 x y z j v:=
 ⟨V.h1,V.h2,V.ok,V.nb,V.mb,V.kt,λa e=>let ⟨p,g,r⟩:=V.ls a e;⟨p,s p g,r⟩,V.nm,V.la,V.bo,λq f=>let ⟨a,b,c,d⟩:=V.bi q f;⟨a,b,c,d.mono s⟩,V.bp⟩
theorem Gd.same(G:Gd x y ps){p q:Gp}(b:p∈ps)(a:q∈ps)(e:p.2.h=q.2.h)(m:p.2.f<p.2.u/\q.2.f<q.2.u/\p.2.f<q.2.u/\q.2.f<p.2.u):p=q:=by
 obtain⟨i,hi⟩:=dD.mp b;obtain⟨j,hj⟩:=dD.mp a;have:=G.one hi hj e m;subst this;rw[hi] at hj;exact aZ hj
theorem Gd.name(G:Gd x y ps){p q:Gp}(b:p∈ps)(a:q∈ps)(h1:ws y z p.2 nm)(h2:ws y z q.2 nm):p=q:=
 G.same b a (h1.1.symm.trans h2.1) ⟨lC,lC,lC,lC⟩
theorem tU(n:(vs.map (·.u.ho)).Nodup)(hi:vs[i]?=aa v)(e:v'.u.ho=v.u.ho):((vs.set i v').map (·.u.ho)).Nodup:=by rw[Kc hi e];exact n
theorem cy.upd(I:cy x y z vs ps s)(hi:vs[i]?=aa v)(V:e7 x y z ps v')(ho:v'.u.ho=v.u.ho)(h:∀nm,Nf y z v nm->Nf y z v' nm):cy x y z (vs.set i v') ps s:=by
 refine⟨I.gd,tU I.nh hi ho,λq a=>?_,I.eb,I.eg,λe he q a b=>?_,I.nd⟩
 .rcases vL (P:=λ_=>True) a with rfl|⟨j,n,hj⟩
  .exact V
  .exact I.v q (aS hj)
 .rcases vL (P:=λ_=>True) a with rfl|⟨j,n,hj⟩
  .exact h _ (I.en e he v (aS hi) (ho.symm.trans b))
  .exact I.en e he q (aS hj) b
theorem cy.new(I:cy x y z vs ps s)(d:v∈vs)(h1:∀a,v.la=aa a->a<nm)(h2:eK y z ps v.u.ho nm)(c:(∃a,v.u.l=aa a/\pY y z a nm)\/nm∈X.nmB y z v.bs):nm∉s.map (·.2.2):=by
 intro k;obtain⟨e,he,rfl⟩:=ba.mp k;obtain⟨p,j,ep,g⟩:=I.eg e he;obtain⟨q,i,m,f⟩:=h2;have:=I.gd.name j i g f;subst this;rcases I.en e he v d (m.symm.trans ep) with⟨a,b,n⟩|⟨n1,n2⟩
 .have:=h1 a b;lia
 .rcases c with⟨a,b,h⟩|c
  .exact n1 a b h
  .exact n2 c
theorem cy.tell{L:List Int}(I:cy x y z vs ps j)(i:v∈vs)(up:L.Pairwise (·<·))(h:∀nm∈L,(0<=nm/\nm<x*y*z)/\eK y z ps v.u.ho nm/\Nf y z v nm/\nm∉j.map (·.2.2)):cy x y z vs ps (j++L.map λnm=>(t,v.u.ho,nm)):=by
 have c:∀e∈j++L.map (λnm=>(t,v.u.ho,nm)),e∈j\/∃nm∈L,e=(t,v.u.ho,nm):=λe he=>by
  rcases bf.mp he with h|h
  .exact .inl h
  .obtain⟨nm,h1,rfl⟩:=ba.mp h;exact .inr ⟨nm,h1,rfl⟩
 refine⟨I.gd,I.nh,I.v,λe he=>?_,λe he=>?_,λe he q f g=>?_,?_⟩
 .rcases c e he with h'|⟨nm,h',rfl⟩
  .exact I.eb e h'
  .exact (h nm h').1
 .rcases c e he with h'|⟨nm,h',rfl⟩
  .exact I.eg e h'
  .exact (h nm h').2.1
 .rcases c e he with h'|⟨nm,h',rfl⟩
  .exact I.en e h' q f g
  .obtain⟨a,d⟩:=dD.mp f;obtain⟨b,hb⟩:=dD.mp i;have:=vQ I.nh d hb g;subst this;rw[d] at hb;cases hb;exact (h nm h').2.2.1
 .rw[bP,bB,gi];refine⟨I.nd,?_,λa d b hb e=>?_⟩
  .show (L.map λnm=>nm).Nodup;rw[List.map_id'];exact up.imp λh=>by lia
  .obtain⟨nm,k,rfl⟩:=ba.mp hb;subst e;exact (h a k).2.2.2 d
theorem cy.lease{h b l:Int}{ad:Nat}(I:cy x y z vs ps s)(hi:vs[i]?=aa v)(h0:0<=h)(h1:h<y)(b0:0<=b)(l1:1<=l)(r:b+l<=x)(fr:∀p∈ps,p.2.h=h->mt p.2 b (b+l)=ag){kt:T}(hk:jm kt (aa (h,b,b+l)) v.u.m) :
  cy x y z (vs.set i {v with u:={v.u with l:=aa (h,b,b+l),kt:=kt}}) (ps++[(ad,⟨v.u.ho,h,b,b+l,b+l,ag⟩)]) s:=by
 have g:=aS hi;have sub:∀p∈ps,p∈ps++[((ad,⟨v.u.ho,h,b,b+l,b+l,ag⟩):Gp)]:=λp d=>c_ _ d;have t:=I.gd.add (q:=(ad,⟨v.u.ho,h,b,b+l,b+l,ag⟩)) ⟨h0,h1,b0,lC,r,lC,d6 _,λ_=>rfl⟩ λp d e=>fr p d e;have f:cy x y z vs (ps++[(ad,⟨v.u.ho,h,b,b+l,b+l,ag⟩)]) s:=⟨t,I.nh,λq c=>(I.v q c).mono sub,I.eb,λe he=>(I.eg e he).mono sub,I.en,I.nd⟩;have V:=f.v v g;refine⟨t,tU I.nh hi rfl,λq c=>?_,I.eb,f.eg,λe he q c o=>?_,I.nd⟩
 .rcases vL (P:=λ_=>True) c with rfl|⟨j,n,hj⟩
  .exact⟨V.h1,V.h2,λa e=>by (injection e with e;subst e);exact⟨h0,h1,b0,lC,r⟩,V.nb,V.mb,hk,λa e=>by (injection e with e;subst e);exact⟨_,cD _ (aT.mpr rfl),rfl,rfl,rfl,rfl,rfl⟩,V.nm,V.la,V.bo,V.bi,V.bp⟩
  .exact f.v q (aS hj)
 .rcases vL (P:=λ_=>True) c with rfl|⟨j,n,hj⟩
  .rcases I.en e he v g o with h'|⟨_,h'⟩
   .exact .inl h'
   .refine .inr ⟨λa ea il=>?_,h'⟩;(injection ea with ea;subst ea);obtain⟨p,d,_,A⟩:=I.eg e he;have w:=fr p d (A.1.symm.trans il.1);have k:mt p.2 b (b+l)=ae:=wQ.mpr ⟨lC,by have:=il.2.2;lia,by have:=il.2.1;lia,lC⟩;rw[w] at k;injection k
  .exact I.en e he q (aS hj) o
theorem Ww{p q:Gp}{e:Int}(a:q∈ps)(n:q.1≠p.1):q∈bQ p.1 e ps:=by
 exact ba.mpr ⟨q,a,if_neg n⟩
theorem Jt{p q:Int}(y1:1<=y)(z1:1<=z)(h:p<=q):p / z / y<=q / z / y:=sg lC (sg lC h)
theorem cy.cut{p:Gp}{e:Int}(s:Hz x y z)(I:cy x y z vs ps es)(nd:(ps.map (·.1)).Nodup)(hi:vs[i]?=aa v)(G:v.u.l=aa a)(B:p∈ps)(K:p.2.h=a.1)(e2:p.2.f=a.2.1)(e3:p.2.u0=a.2.2)(e4:p.2.ct=ag)
  (A:pz a.2.1 a.2.2 (bw (wN a.2.1 a.2.2 (qK y z v.u.n v.u.m))) e) {kt:T}(hk:jm kt af v.u.m) {b:Nat}{bt:T} :
  cy x y z (vs.set i ⟨{v.u with l:=af,kt:=kt,bt:=bt},b,[],v.la⟩) (bQ p.1 e ps) es:=by
 obtain⟨x1,y1,y2,z1,z2⟩:=id s;have D:=aS hi;have V:=I.v v D;have L:=I.gd.ok p B;have pu:=L.op e4;have fu0:=L.fu0;obtain⟨p',o,E,S,o3,o4,R⟩:=V.ls a G;have N:=(I.gd.ok p' o).op R;have O:=I.gd.same o B (S.trans K.symm) ⟨lC,lC,lC,lC⟩;subst O;have inj:∀q∈ps,q.1=p'.1->q=p':=λq d e=>by
  obtain⟨j,hj⟩:=dD.mp d;obtain⟨k,hk⟩:=dD.mp B;have h1:(ps.map (·.1))[j]?=aa p'.1:=bH▸hj▸congrArg aa e;have h2:(ps.map (·.1))[k]?=aa p'.1:=by rw[bH,hk];rfl
  obtain⟨l1,J⟩:=aO.mp h1;obtain⟨F,H⟩:=aO.mp h2;have:j=k:=by
   rcases oH j k with h|h|h
   .exact absurd (J.trans H.symm) (eY.mp nd j k l1 F h)
   .exact h
   .exact absurd (H.trans J.symm) (eY.mp nd k j F l1 h)
  subst this;rw[hj] at hk;exact aZ hk
 have g:∀q∈ps,q.2.ho≠v.u.ho->q∈bQ p'.1 e ps:=λq d n=>Ww d λe=>n (inj q d e▸E);have eb:a.2.1<=e/\e<=a.2.2:=by
  rcases A with⟨_,rfl⟩|⟨s,_,h1,h2,rfl⟩<;>(constructor<;>lia)
 have G':Gd x y (bQ p'.1 e ps):=by
  obtain⟨k,hk⟩:=dD.mp B;rw[QJ nd hk];exact I.gd.cut hk lC lC
 refine⟨G',tU I.nh hi rfl,λq d=>?_,I.eb,λr hr=>?_,λr hr q d eq=>?_,I.nd⟩
 .rcases vL (P:=λ_=>True) d with rfl|⟨j,n,hj⟩
  .exact⟨V.h1,V.h2,(λa e=>z9 e),V.nb,V.mb,hk,(λa e=>z9 e),V.nm,V.la,X.BOk.nil,(λq d=>by contradiction),iP⟩
  .have Q:=I.v q (aS hj);have ne:q.u.ho≠v.u.ho:=λe=>n (vQ I.nh hj hi e);exact⟨Q.h1,Q.h2,Q.ok,Q.nb,Q.mb,Q.kt,λa e=>by
    obtain⟨r,hr,h1,h2⟩:=Q.ls a e;exact⟨r,g r hr (h1▸ne),h1,h2⟩,Q.nm,Q.la,Q.bo,λw hw=>by
    obtain⟨c0,c1,c2,r,hr,h1,h2⟩:=Q.bi w hw;exact⟨c0,c1,c2,r,g r hr (h1▸ne),h1,h2⟩,Q.bp⟩
 .obtain⟨q,d,h1,h2⟩:=I.eg r hr;by_cases c:q.1=p'.1
  .have:=inj q d c;subst this;refine⟨(q.1,{q.2 with u:=e,ct:=ae}),ba.mpr ⟨q,d,if_pos rfl⟩,h1,h2.1,h2.2.1,?_⟩;rcases I.en r hr v D (E.symm.trans h1) with⟨w,hw,C⟩|⟨n1,_⟩
   .obtain⟨⟨U,Z,m1⟩,W⟩:=V.la w hw;have C:=Jt y1 z1 C;have:∃t,qK y z v.u.n v.u.m=aa t/\r.2.2 / z / y<=t:=by
     cases Y:v.u.n with
     |none=>exact⟨U,Z,lC⟩
     |some k=>exact⟨k / z / y,rfl,g_ C (Jt y1 z1 (W k Y))⟩
    obtain⟨t,et,tl⟩:=this;rw[et] at A;have M:wN a.2.1 a.2.2 (aa t)=aa (if a.2.2-1<t then a.2.2-1 else t):=by
     unfold wN;exact if_neg lC
    rw[M] at A;rcases A with⟨h,_⟩|⟨s,h,_,_,rfl⟩
    .injection h
    .have h:(if a.2.2-1<t then a.2.2-1 else t)=s:=by injection h
     subst h;split<;>lia
   .exact (n1 a G ⟨h2.1.trans K,by have:=h2.2.1;lia,by have:=h2.2.2;lia⟩).elim
  .exact⟨q,Ww d c,h1,h2⟩
 .rcases vL (P:=λ_=>True) d with rfl|⟨j,n,hj⟩
  .exact .inr ⟨(λa e=>z9 e),λh=>by contradiction⟩
  .exact I.en r hr q (aS hj) eq
end
section
variable {i:Nat}{vs:List Vh}{wd:ao}
structure f7(x y z ah sd:Int):Prop where
 s:Hz x y z
 xb:x<=10000000000000
 zb:z<=12
 a0:0<=ah
 d0:0<=sd
structure Kq(gr g d:Nat)(vs:List Vh)(μ μ':Mem):Prop where
 len:μ.length<=μ'.length
 ot:∀i o,μ[i]?=aa o->¬gE o->Fr gr g d vs i->μ'[i]?=aa o
theorem Kq.of{S:List Nat}(ch:Ch S μ s)(h:∀j∈S,(∃o,μ[j]?=aa o/\gE o)\/j=u\/j=g\/∃v∈vs,j=v.b):Kq u g d vs μ s:=
 ⟨ch.len,λi o e n F=>ch.get e λf=>by
  rcases h i f with⟨k,a,h⟩|h|h|⟨v,c,h⟩
  .rw[e] at a;(replace a:=zo a;subst a);exact n h
  .exact F.n1 h
  .exact F.n2 h
  .exact F.n4 v c h⟩
theorem Fr.of{o:MO}(M:Wm μ w C s g d x y z D u j vs B ps)(h:μ[i]?=aa o)(n1:∀l,o≠.l l)(n2:∀l,o≠.d l):Fr s g d vs i:=
 ⟨zk h M.W.bk.lst (n1 _),zk h M.W.gv (n1 _),zk h M.W.dc (n2 _),λv a=>zk h (M.bl v a) (n1 _)⟩
theorem Fr.set{L:Nat}(F:Fr s g d vs j)(hj:j<L)(hi:vs[i]?=aa v)(hb:v'.b=v.b\/L<=v'.b):Fr s g d (vs.set i v') j:=
 ⟨F.n1,F.n2,F.n3,λq c=>by
  rcases vL (P:=λ_=>True) c with rfl|⟨e,n,a⟩
  .rcases hb with h|h
   .rw[h];exact F.n4 v (aS hi)
   .lia
  .exact F.n4 q (aS a)⟩
theorem Fr.new(M:Wm μ w D u g d x y z E B s vs C ps)(hj:μ.length<=j)(hi:vs[i]?=aa v)(n:j≠v'.b):Fr u g d (vs.set i v') j:=by
 have h1:=zI M.W.bk.lst;have h2:=zI M.W.gv;have f:=zI M.W.dc;refine⟨lC,lC,lC,λq c=>?_⟩;rcases vL (P:=λ_=>True) c with rfl|⟨e,_,a⟩
 .exact n
 .have:=zI (M.bl q (aS a));lia
structure fL(P:List Int->Vh->List Gp->Prop)(w cm gr g d:Nat)(x y z ah sd t:Int)(now:T)(rs:List T)(vs:List Vh)(ps:List Gp)(i:Nat)(v:Vh)(wd:ao)(μ μ':Mem)(j:Nat)(L:List Int)(v':Vh)(ps':List Gp):Prop where
 M:Wm μ' w cm gr g d x y z ah sd now (vs.set i v') rs ps'
 sm:v4 v' v
 hj:μ'[j]?=aa (.l (L.map T.int))
 jn:μ.length<=j
 fj:Fr gr g d (vs.set i v') j
 kp:Kq gr g d vs μ μ'
 fr:∀q,q<μ.length->Fr gr g d vs q->Fr gr g d (vs.set i v') q
 I:∀es,cy x y z vs ps es->cy x y z (vs.set i v') ps' (es++L.map λnm=>(t,v.u.ho,nm))
 up:L.Pairwise (·<·)
 gt:∀nm∈L,0<=nm/\∀a,v.la=aa a->a<nm
 la:v'.la=if L=[] then (if wd="bare" then af else v.la) else L.getLast?
 ask:wd="ask"->∀nm∈L,v.u.rd t<=nm / z / y/\nm / z / y<=v.u.rd t+ah
 ln:L.length<=12
 pl:ps'.length<=ps.length+1
 bl:v'.bs.length<=v.bs.length+1
 nl:(X.nmB y z v'.bs).length<=(X.nmB y z v.bs).length+12
 ex:P L v' ps'
abbrev i6(P:List Int->Vh->List Gp->Prop)(w l k g d:Nat)(x y z m f t:Int)(c:T)(h:List T)(vs:List Vh)(ps:List Gp)(i:Nat)(v:Vh)(wd:ao)(μ:Mem)(K:T->Mem->Prop):Prop:=
 ∀j L e b a,fL P w l k g d x y z m f t c h vs ps i v wd μ a j L e b->K (.m j) a
theorem iZ(I:cy x y z vs ps j):((vs.map (·.u)).map (·.ho)).Nodup:=by rw[bB];exact I.nh
theorem hW(hi:vs[i]?=aa v):(vs.map (·.u))[i]?=aa v.u:=by rw[bH,hi];rfl
theorem wj{r:List T}(M:Wm μ w E D g d x y z G B j vs C ps)(hi:vs[i]?=aa v)(nd:((vs.map (·.u)).map (·.ho)).Nodup)
  (q:zM (wh.drop 2) [aa (.m w),aa (.t (.str wd::.int t::.str v.u.ho::r)),aa (.m v.u.s),aa (.int (v.u.rd t)),af] μ (En.fn K Z)):zG [.m w,.t (.str wd::.int t::.str v.u.ho::r)] μ K Z:=by
 have a:=aS (hW hi);have W:=M.W;exact⟨rfl,_,_,_,W.wo,rfl,_,Q5,_,_,.inl W.dc,Qg (hW hi) nd,_,_,_,W.se _ a,rfl,_,W.cl _ a,_,Vw,(x2 (W.cl _ a) q)⟩
theorem WD(W:dS μ w E D g d x y z G B j us C ps){u:Hr}(a:u∈us):(∃o,μ[u.h]?=aa o/\gE o)/\∃o,μ[u.s]?=aa o/\gE o:=⟨⟨_,W.hs u a,_,_,rfl⟩,⟨_,W.se u a,_,_,rfl⟩⟩
theorem VS{L:List Int}{b:Int}(f:b∈L)(g:∀a∈L,a<=b)(up:L.Pairwise (·<·)):L.getLast?=aa b:=by
 have d:L≠[]:=λe=>by rw[e] at f;contradiction
 rw[sU d];have i:=g _ (sf d);have j:b<=L.getLast d:=by
  clear g i;induction L with
  |nil=>exact absurd rfl d
  |cons a r h=>
   rw[AR] at up;cases r with
   |nil=>rw[aT.mp f];exact d6 _
   |cons c r=>
    rcases bC.mp f with rfl|f
    .exact mR (up.1 _ (sf _))
    .exact h f up.2 sC
 congr 1;lia
theorem e7.gtla(V:e7 x y z ps v)(y1:1<=y)(z1:1<=z){r:Int}{a:Ls}{nm:Int}(H:Hd x y z r j a v.u.n v.u.m nm):∀b,v.la=aa b->b<nm:=λb hb=>by
 obtain⟨⟨w,hw,h1⟩,h2⟩:=V.la b hb;cases d:v.u.n with
 |some k=>have:=H.up k d;have:=h2 k d;lia
 |none=>
  have:=H.ma w d hw;by_cases c:nm<=b
  .have:=Jt y1 z1 c;lia
  .lia
theorem e7.hasl(V:e7 x y z ps v)(G:Gd x y ps){a:Ls}(h:v.u.l=aa a){nm:Int}(il:pY y z a nm):eK y z ps v.u.ho nm:=by
 obtain⟨p,b,g,f,e,d,c⟩:=V.ls a h;have:=(G.ok p b).op c;exact⟨p,b,g,il.1.trans f.symm,e▸il.2.1,this▸d▸il.2.2⟩
theorem V3 (hw:wd="ask") (N:f7 x y z D E) (M:Wm μ w cm gr g d x y z D E U vs rs ps) (I:cy x y z vs ps es) (hi:vs[i]?=aa v) (rb:-1000000000000000<=v.u.rd t) (k1:1<=k) (k2:k<=z)
  (ql:(∀a,v.u.l=aa a->a.2.2*z<z8 y z a v.u.n v.u.m (v.u.rd t)+k)->Z 18 [] μ) (qw:∀a,v.u.l=aa a->z8 y z a v.u.n v.u.m (v.u.rd t)+k<=a.2.2*z->0<bG z (v.u.rd t) D (z8 y z a v.u.n v.u.m (v.u.rd t)+k)->Z 21 [(29,.int (bG z (v.u.rd t) D (z8 y z a v.u.n v.u.m (v.u.rd t)+k)))] μ) (hP:∀a C B,v.u.l=aa a->z8 y z a v.u.n v.u.m (v.u.rd t)+k<=a.2.2*z->bG z (v.u.rd t) D (z8 y z a v.u.n v.u.m (v.u.rd t)+k)<=0->P (bu y z a.1 (z8 y z a v.u.n v.u.m (v.u.rd t)) k) ⟨{v.u with l:=aa a,m:=aa (de x y z E a v.u.n v.u.m (v.u.rd t) k),n:=aa (ef y z a v.u.n v.u.m (v.u.rd t) k),bt:=.m C,kt:=B},C,[],aa (ef y z a v.u.n v.u.m (v.u.rd t) k)⟩ ps) (q:i6 P w cm gr g d x y z D E t U rs vs ps i v wd μ K) :
  zG [.m w,xZ wd t v.u.ho k] μ K Z:=by
 obtain⟨x1,Q,y2,O,z2⟩:=id N.s;have p:=aS (hW hi);have T:=aS hi;have W:=M.W;have V:=I.v v T;have zb:=N.zb;refine wj M hi (iZ I) ⟨_,rfl,(qf hw ⟨_,_,_,W.se _ p,rfl,_,W.hs _ p,_,rfl,(Fo N.s N.xb rb V.ok V.kt lC (W.hs _ p) (W.se _ p) V.nb k1 k2 N.a0 ql qw λa o S e2 J B j C hk ch A H ne gh gb gs gj=>?_)⟩)⟩;have ok:=V.ok a o;have f:=λnm (h:nm∈bu y z a.1 (z8 y z a v.u.n v.u.m (v.u.rd t)) k)=>Ys N.s ok S e2 h;obtain⟨G,l2⟩:=VY N.s ok k1;obtain⟨m0,m1,Y,m3⟩:=C3 N.s ok S k1 N.d0 V.mb;have up:(bu y z a.1 (z8 y z a v.u.n v.u.m (v.u.rd t)) k).Pairwise (·<·):=CZ N.s ok;have ll:(bu y z a.1 (z8 y z a v.u.n v.u.m (v.u.rd t)) k).length=k.toNat:=jh;have R:bu y z a.1 (z8 y z a v.u.n v.u.m (v.u.rd t)) k≠[]:=λe=>by rw[e] at G;contradiction
 have pe:=hP a C B o S e2;generalize de x y z E a v.u.n v.u.m (v.u.rd t) k=r at *;generalize ef y z a v.u.n v.u.m (v.u.rd t) k=nn at *;generalize bu y z a.1 (z8 y z a v.u.n v.u.m (v.u.rd t)) k=L at *
 have V':e7 x y z ps ⟨{v.u with l:=aa a,m:=aa r,n:=aa nn,bt:=.m C,kt:=B},C,[],aa nn⟩:=
  ⟨V.h1,V.h2,λa' e=>by (injection e with e;subst e);exact ok,λk' e=>by (injection e with e;subst e);exact (f nn G).nb,λc e=>by (injection e with e;subst e);exact⟨m0,m1⟩,hk,λa' e=>by (injection e with e;subst e);exact V.ls a o,λk' e=>by (injection e with e;subst e);exact⟨r,rfl,Y⟩,λb e=>by (injection e with e;subst e);exact⟨⟨r,rfl,Y⟩,λk' e=>by (injection e with e;subst e);exact d6 _⟩,X.BOk.nil,(λq hq=>by contradiction),iP⟩
 refine q j L ⟨{v.u with l:=aa a,m:=aa r,n:=aa nn,bt:=.m C,kt:=B},C,[],aa nn⟩ ps J ⟨M.upd hi (ch.mono sC) ⟨rfl,rfl,rfl,rfl,rfl⟩ (.inl rfl) (.inr H) gh gs rfl gb,⟨rfl,rfl,rfl,rfl,rfl⟩,gj,A,Fr.new M A hi ne,Kq.of ch (λj A=>?_),λq hq F=>F.set hq hi (.inr H),λes I=>?_,up,λnm h=>⟨(f nm h).nb.1,V.gtla Q O (f nm h)⟩,?_,λ_ nm h=>(f nm h).rd,lC,lC,sC,by show 0<=_;lia,pe⟩
 .simp only[bC,dP,or_false] at A;rcases A with rfl|rfl
  .exact .inl (WD W p).1
  .exact .inl (WD W p).2
 .refine (I.upd hi V' rfl λnm hN=>?_).tell (v:=⟨{v.u with l:=aa a,m:=aa r,n:=aa nn,bt:=.m C,kt:=B},C,[],aa nn⟩) (aS (iX (aO.mp hi).1)) up λnm h=>⟨(f nm h).nb,V.hasl I.gd o (f nm h).il,.inl ⟨nn,rfl,l2 nm h⟩,I.new T (V.gtla Q O (f nm h)) (V.hasl I.gd o (f nm h).il) (.inl ⟨a,o,(f nm h).il⟩)⟩;rcases hN with⟨b,H,le⟩|⟨n1,n2⟩
  .have:=V.gtla Q O (f nn G) b H;exact .inl ⟨nn,rfl,lC⟩
  .exact .inr ⟨λa' e=>by (injection e with e;subst e);exact n1 a o,λh=>by contradiction⟩
 .rw[if_neg R];exact (VS G l2 up).symm
theorem j9{a:List T}(b:row=.t (.str wd::.int t::.str ho::a))(hd:μ[dd]?=aa (.d kvs))(hk:zr (.inr ho) kvs=aa (.m di))
  (q:zM (vq.drop 2) [aa row,aa (.m dd),aa (.m ll),aa (cA x y z),aa (.t [.int s,.int j]),aa (.int r),aa (.str wd),aa (.int t),aa (.str ho),aa (.m di),af,af,af] μ (En.fn K Z)):zw [row,.m dd,.m ll,cA x y z,.t [.int s,.int j],.int r] μ K Z:=by
 subst b;exact⟨rfl,_,rfl,_,_,.inl hd,hk,q⟩
noncomputable abbrev Cj:List ao:=["ask","store","take","back"]
structure wp(K K':T->Mem->Prop):Prop where
 int:∀v μ,K (.m μ.length) (μ++[.l []])->K' (.int v) μ
 str:∀s μ,K (.str s) μ->K' (.str s) μ
 tup:∀ts μ,K (.t ts) μ->K' (.t ts) μ
 lst:∀ts μ,K (.l ts) μ->K' (.l ts) μ
 mu:∀j xs μ,μ[j]?=aa (.l xs)->K (.m j) μ->K' (.m j) μ
theorem uh {c:List T}{w:Int}(h1:wd≠"lease") (h2:wd≠"bare") (n:wd≠"fall") (b:wd≠"back") (d:row=.t (.str wd::.int t::.str ho::c)) (hd:μ[dd]?=aa (.d kvs)) (hk:zr (.inr ho) kvs=aa (.m di)) (hi:∃j:Nat,w=j/\j<1000/\Cj[j]?=aa wd/\∀u∈Cj.take j,u≠wd) (m:qS (.str wd::.int t::.str ho::c) (-1)=aa (.int k))
  (q:∀(f:T->Mem->Prop),wp K f->qM [.int w,.m di,cA x y z,.int B,.int s,.int r,.int k] μ f Z):zw [row,.m dd,.m ll,cA x y z,.t [.int B,.int s],.int r] μ K Z:=by
 refine j9 d hd hk (zu h1 (zu h2 (zu n ?_)));obtain⟨j,rfl,l,i,g⟩:=hi;subst d;refine⟨(_,j),rfl,⟨l,i,g⟩,_,rfl,_,rfl,_,m,(q _ ⟨λv a h=>?_,λv a h=>?_,λv a h=>?_,λv a h=>?_,λv xs a e h=>?_⟩)⟩
 .exact zu b h
 .exact zu b h
 .exact zu b h
 .exact zu b h
 .exact zu b ⟨_,e,(zu id h)⟩
theorem Kh (hd:μ[di]?=aa (cK af m g n kt ni)) (q:K (.str "lease") μ):qM [.int 3,.m di,cA x y z,.int u,.int s,.int r,j] μ K Z:=by
 exact⟨rfl,(Uu hd q)⟩
theorem IF(s:Hz x y z)(hd:μ[di]?=aa (cK (aa a) m g n kt ni))(hc:μ[ni]?=aa (.l cs))(b:cs.length<=1000)
  (q:∀j,Ch [di,ni] μ j->j.length=μ.length->j[di]?=aa (cK af m g n (.l []) ni)->j[ni]?=aa (.l (cs++[qG af m]))->K (.t [bU (aa a),bw (wN a.2.1 a.2.2 (qK y z n g))]) j):qM [.int 3,.m di,cA x y z,.int C,.int B,.int r,u] μ K Z:=by
 exact⟨rfl,(Yn s hd hc b λj f e d c=>q j f e d c)⟩
theorem K9 (hw:wd="bare") (a:row=.t [.str wd,.int t,.str ho]) (hd:μ[dd]?=aa (.d kvs)) (hk:zr (.inr ho) kvs=aa (.m di)) (b:kvs.length<1000)
  (q:∀s u B j,Ch [dd] μ s->μ.length<=u->u<B->B<j->s[dd]?=aa (.d (wA (.inr ho) (.m B) kvs))->s[B]?=aa (cK af af af af (.l []) u)->s[u]?=aa (.l [])->s[j]?=aa (.l [])->K (.m j) s):zw [row,.m dd,.m ll,cA x y z,.t [.int D,.int C],.int r] μ K Z:=by
 refine j9 a hd hk (zu (by rw[hw];decide) ?_);refine qf hw (yU ⟨_,z3 (z3 hd),by unfold aB;omega,?_⟩);have c:=(aO.mp hd).1;refine q _ μ.length (μ++[MO.l []]).length _ ?_ (aK _) sC sC (z3 (am (z3 (z3 hd)))) (z3 ?_) (z3 ?_) z5
 .exact (Ch.app.mono sC).trans ((Ch.app.mono sC).trans (Ch.set.trans (Ch.app.mono sC)))
 .rw[aX (by simp;omega)];exact z5
 .rw[aX (by omega)];exact z3 z5
theorem Kn (hw:wd="fall") (f:row=.t [.str wd,.int t,.str ho]) (hd:μ[dd]?=aa (.d kvs)) (hk:zr (.inr ho) kvs=aa (.m di)) (h:kvs.length<1000) (hs:μ[di]?=aa (cK l m g n kt ni)) (hc:μ[ni]?=aa (.l cs)) (d:cs.length<=1000) (ok:(cs=[]/\l=af/\m=af)\/cs.getLast?=aa (qG l m))
  (q:∀s u j,Ch [dd] μ s->μ.length<=u->u<j->s[dd]?=aa (.d (wA (.inr ho) (.m u) kvs))->s[u]?=aa (cK l m m af (.l []) ni)->s[j]?=aa (.l [])->K (.m j) s):zw [row,.m dd,.m ll,cA x y z,.t [.int C,.int B],.int r] μ K Z:=by
 refine j9 f hd hk (zu (by rw[hw];decide) ?_);refine zu (by rw[hw];decide) ?_;refine qf hw ?_;have k:=(aO.mp hd).1;refine⟨_,_,hs,rfl,_,hc,by show 1+_<=_;unfold aB;omega,?_⟩;rcases ok with⟨rfl,rfl,rfl⟩|ok
 .refine⟨_,rfl,_,_,hs,rfl,(yU ⟨_,z3 hd,by unfold aB;omega,?_⟩)⟩;refine q _ μ.length _ ?_ (aK _) sC (z3 (am (z3 hd))) (z3 ?_) z5
  .exact (Ch.app.mono sC).trans (Ch.set.trans (Ch.app.mono sC))
  .rw[aX (by omega)];exact z5
 .have ex:qS ([T.n]++cs) (-1)=aa (qG l m):=by
   have c:cs≠[]:=λz=>by rw[z] at ok;exact z9 ok
   have i:=List.length_pos_iff.mpr c;rw[List.getLast?_eq_getElem?] at ok;unfold qS V0;rw[if_neg dC,if_pos (by simp;omega)];have:(-1+(([T.n]++cs).length:Int)).toNat=(cs.length-1)+1:=by rw[eX];show (-1+((1+cs.length:Nat):Int)).toNat=_;omega
   rw[this];exact ok
  refine⟨_,ex,_,_,hs,rfl,(Yw ?_)⟩;have e:∀(a b:MO),(μ++[a]).set μ.length b=μ++[b]:=λa b=>by rw[iV _ _ (aK _)];simp
  rw[e];refine⟨_,z3 hd,by unfold aB;omega,?_⟩;refine q _ μ.length _ ?_ (aK _) sC (z3 (am (z3 hd))) (z3 ?_) z5
  .exact (Ch.app.mono sC).trans (Ch.set.trans (Ch.app.mono sC))
  .rw[aX (by omega)];exact z5
theorem JW (hw:wd="back") (c:row=.t [.str wd,.int t,.str ho]) (hd:μ[dd]?=aa (.d kvs)) (hk:zr (.inr ho) kvs=aa (.m di))
  (q:∀(b:T->Mem->Prop),(∀j,K (.str "lease") j->b (.str "lease") j)->(∀a u j,Qi [.m ll,a,u] j (λ_ μ2=>K (.m μ2.length) (μ2++[.l []])) Z->b (.t [a,u]) j)->qM [.int 3,.m di,cA x y z,.int B,.int s,.int r,.str ho] μ b Z):zw [row,.m dd,.m ll,cA x y z,.t [.int B,.int s],.int r] μ K Z:=by
 refine j9 c hd hk (zu (by rw[hw];decide) ?_);refine zu (by rw[hw];decide) ?_;refine zu (by rw[hw];decide) ?_;subst c;refine⟨(_,3),rfl,⟨dC,by rw[hw];rfl,by rw[hw];decide⟩,?_⟩;refine⟨_,rfl,_,rfl,_,rfl,(q _ (λj h=>?_) λa u j h=>?_)⟩
 .exact qf hw h
 .exact qf hw ⟨_,rfl,_,rfl,h⟩
theorem Vv {hs:T}(hw:wd="lease") (c:row=.t [.str wd,.int t,.str ho,hs,.int k]) (hd:μ[dd]?=aa (.d kvs)) (hk:zr (.inr ho) kvs=aa (.m di)) 
  (q:∀(b:T->Mem->Prop),(∀j,K (.str "ended") j->b .n j)->(∀a j,(∃l m g n kt ni,j[di]?=aa (cK l m g n kt ni)/\yG [.m di,bU (aa a),bw m] j (λ_ μ2=>K (.m μ2.length) (μ2++[.l []])) Z)->b (bU (aa a)) j)->ZN [.m ll,cA x y z,.str ho,hs,.int r,.int k] μ b Z):zw [row,.m dd,.m ll,cA x y z,.t [.int u,.int s],.int r] μ K Z:=by
 refine j9 c hd hk ?_;subst c;refine qf hw ⟨_,rfl,_,rfl,(q _ (λj h=>?_) λa j ⟨l,m,g,n,kt,ni,e,h⟩=>?_)⟩
 .exact h
 .exact⟨_,_,e,rfl,h⟩
end
inductive gI(K:T->Mem->Prop):Nat->List (Nat×T)->Mem->Prop
 |lease {μ:Mem}:K (.str "lease") μ->gI K 18 [] μ
 |ended {μ:Mem}:K (.str "ended") μ->gI K 19 [] μ
 |empty {μ:Mem}:K (.str "empty") μ->gI K 22 [] μ
 |wait {μ:Mem}{v:Int}:K (.t [.str "wait",.int v]) μ->gI K 21 [(29,.int v)] μ
theorem YM(hw:μ[w]?=aa (.obj 47 o))(h:∀(b:T->Mem->Prop) (a:Xp),(∀t j,K t j->b t j)->(∀c fs j,gI K c fs j->a c fs j)->wO [.m w,row] μ b a):Qp [.m w,row] μ K Z:=by
 refine⟨rfl,_,hw,(h _ _ (λt j q=>q) λc fs j w=>?_)⟩;cases w with
 |lease q=>exact q
 |ended q=>exact q
 |empty q=>exact q
 |wait q=>exact⟨rfl,q⟩
section
variable {wd:ao}
theorem Fr.len(M:Wm μ w D u g d x y z E B s vs C ps)(hj:μ.length<=j):Fr u g d vs j:=by
 have h1:=zI M.W.bk.lst;have h2:=zI M.W.gv;have b:=zI M.W.dc;exact⟨lC,lC,lC,λq a=>by have:=zI (M.bl q a);lia⟩
theorem fL.nil (hi:vs[i]?=aa v) (a:Wm s w G C g d x y z H D B (vs.set i v') E j) (sm:v4 v' v) (hb:v'.b=v.b\/μ.length<=v'.b) (kp:Kq C g d vs μ s) (f:∀u,cy x y z vs ps u->cy x y z (vs.set i v') j u) (la:v'.la=if wd="bare" then af else v.la) (pl:j.length<=ps.length+1) (bl:v'.bs.length<=v.bs.length+1) (nl:(X.nmB y z v'.bs).length<=(X.nmB y z v.bs).length+12) (ex:P [] v' j) :
  fL P w G C g d x y z H D t B E vs ps i v wd μ (s++[.l []]) s.length [] v' j:=
 ⟨a.law Ch.app sC,sm,z5,kp.len,Fr.len a (aK _),⟨by simp;have:=kp.len;lia,λi o e n F=>z3 (kp.ot i o e n F)⟩,λq c F=>F.set c hi hb,λu I=>by rw[ww,eO];exact f u I,iP,(λnm h=>by contradiction),by rw[la,if_pos rfl],(λ_ nm h=>by contradiction),sC,pl,bl,nl,ex⟩
theorem pL{S:List Nat}(M:Wm μ w H D g d x y z I E C vs G ps)(c:v∈vs)(ch:Ch S μ B)(h:∀j∈S,j∈[v.u.h,v.u.s,v.b]):Kq D g d vs μ B:=Kq.of ch λj a=>by
 have e:v.u∈vs.map (·.u):=ba.mpr ⟨v,c,rfl⟩;have a:=h j a;simp only[bC,dP,or_false] at a;rcases a with rfl|rfl|rfl
 .exact .inl (WD M.W e).1
 .exact .inl (WD M.W e).2
 .exact .inr (.inr (.inr ⟨v,c,rfl⟩))
theorem tZ(M:Wm μ w G E g d x y z C j B vs D ps)(a:v∈vs):μ[v.u.h]?=aa (bR (aP x y z) C j (dg v.u.s) v.u.l v.u.m v.u.n (.m v.b) ag):=by
 have:=M.W.hs v.u (ba.mpr ⟨v,a,rfl⟩);rw[<-M.bt v a];exact this
theorem ZW (hw:wd="store") (N:f7 x y z B C) (M:Wm μ w cm gr g d x y z B C J vs rs ps) (I:cy x y z vs ps es) (hi:vs[i]?=aa v) (rb:-1000000000000000<=v.u.rd t) (k1:1<=k) (k2:k<=z) (S:v.bs.length<=900)
  (ql:(∀a,v.u.l=aa a->a.2.2*z<z8 y z a v.u.n v.u.m (v.u.rd t)+k)->Z 18 [] μ) (qw:∀a,v.u.l=aa a->z8 y z a v.u.n v.u.m (v.u.rd t)+k<=a.2.2*z->0<bG z (v.u.rd t) B (z8 y z a v.u.n v.u.m (v.u.rd t)+k)->Z 21 [(29,.int (bG z (v.u.rd t) B (z8 y z a v.u.n v.u.m (v.u.rd t)+k)))] μ) (hP:∀a j,v.u.l=aa a->z8 y z a v.u.n v.u.m (v.u.rd t)+k<=a.2.2*z->bG z (v.u.rd t) B (z8 y z a v.u.n v.u.m (v.u.rd t)+k)<=0->P [] ⟨{v.u with l:=aa a,m:=aa (de x y z C a v.u.n v.u.m (v.u.rd t) k),n:=aa (ef y z a v.u.n v.u.m (v.u.rd t) k),kt:=j},v.b,v.bs++[(a.1,z8 y z a v.u.n v.u.m (v.u.rd t),z8 y z a v.u.n v.u.m (v.u.rd t)+k)],v.la⟩ ps) (q:i6 P w cm gr g d x y z B C t J rs vs ps i v wd μ K) :
  zG [.m w,xZ wd t v.u.ho k] μ K Z:=by
 obtain⟨x1,Y,y2,U,z2⟩:=id N.s;have H:=aS (hW hi);have A:=aS hi;have W:=M.W;have V:=I.v v A;have zb:=N.zb;refine wj M hi (iZ I) ⟨_,rfl,(zu (by rw[hw];decide) ?_)⟩;refine⟨_,rfl,(zu (by rw[hw];decide) ?_)⟩;refine⟨_,rfl,(qf hw ⟨_,_,_,W.se _ H,rfl,_,W.hs _ H,_,rfl,(II N.s N.xb rb V.ok V.kt (tZ M A) (W.se _ H) (M.bl v A) S (λp Q=>(V.bo p Q).be) V.nb k1 k2 N.a0 ql qw λa E T e2 μ' j _ hk ch gh gs gb=>?_)⟩)⟩;have ok:=V.ok a E;have uz:a.2.2*z<=x*z:=fG ok.ux lC;have o:=λnm (h:nm∈bu y z a.1 (z8 y z a v.u.n v.u.m (v.u.rd t)) k)=>Ys N.s ok T e2 h;obtain⟨O,l2⟩:=VY (n:=v.u.n) (m:=v.u.m) (r:=v.u.rd t) N.s ok k1;obtain⟨m0,m1,m2,m3⟩:=C3 N.s ok T k1 N.d0 V.mb;have up:(bu y z a.1 (z8 y z a v.u.n v.u.m (v.u.rd t)) k).Pairwise (·<·):=CZ N.s ok;have ll:(bu y z a.1 (z8 y z a v.u.n v.u.m (v.u.rd t)) k).length=k.toNat:=jh;have G:X.nmB y z (v.bs++[(a.1,z8 y z a v.u.n v.u.m (v.u.rd t),z8 y z a v.u.n v.u.m (v.u.rd t)+k)])=X.nmB y z v.bs++bu y z a.1 (z8 y z a v.u.n v.u.m (v.u.rd t)) k:=by
  rw[X.nmB_snoc];rw[show z8 y z a v.u.n v.u.m (v.u.rd t)+k-z8 y z a v.u.n v.u.m (v.u.rd t)=k by lia]
 have Bo:X.BOk x y z (v.bs++[(a.1,z8 y z a v.u.n v.u.m (v.u.rd t),z8 y z a v.u.n v.u.m (v.u.rd t)+k)]):=V.bo.snoc ⟨ok.h0,ok.h1,(kN (n:=v.u.n) (m:=v.u.m) (r:=v.u.rd t) N.s ok),lC,lC,lC⟩;have pe:=hP a j E T e2;generalize (a.1,z8 y z a v.u.n v.u.m (v.u.rd t),z8 y z a v.u.n v.u.m (v.u.rd t)+k)=bb at *;generalize de x y z C a v.u.n v.u.m (v.u.rd t) k=D at *;generalize ef y z a v.u.n v.u.m (v.u.rd t) k=nn at *;generalize bu y z a.1 (z8 y z a v.u.n v.u.m (v.u.rd t)) k=L at *;have F:∀q∈X.nmB y z v.bs,∀p∈L,q<p:=λq f p Q=>by
  obtain⟨_,_,⟨c,R,le⟩,_⟩:=V.bi q f;have:=(o p Q).up c R;lia
 have V':e7 x y z ps ⟨{v.u with l:=aa a,m:=aa D,n:=aa nn,kt:=j},v.b,v.bs++[bb],v.la⟩:=
  ⟨V.h1,V.h2,λa' e=>by (injection e with e;subst e);exact ok,λk' e=>by (injection e with e;subst e);exact (o nn O).nb,λc e=>by (injection e with e;subst e);exact⟨m0,m1⟩,hk,λa' e=>by (injection e with e;subst e);exact V.ls a E,λk' e=>by (injection e with e;subst e);exact⟨D,rfl,m2⟩,λb hb=>by
   obtain⟨⟨c,R,h1⟩,_⟩:=V.la b hb;refine⟨⟨D,rfl,g_ h1 (m3 c R)⟩,λk' e=>?_⟩;(injection e with e;subst e);exact mR (V.gtla Y U (o nn O) b hb),Bo,λq f=>by
   rw[G] at f;rcases bf.mp f with f|f
   .obtain⟨c0,c1,c2,c3⟩:=V.bi q f;exact⟨c0,c1,⟨nn,rfl,mR (F q f nn O)⟩,c3⟩
   .exact⟨(o q f).nb,V.gtla Y U (o q f),⟨nn,rfl,l2 q f⟩,V.hasl I.gd E (o q f).il⟩,by
   rw[G,mh];exact⟨V.bp,up,F⟩⟩
 refine q _ _ _ _ _ (fL.nil (v':=⟨{v.u with l:=aa a,m:=aa D,n:=aa nn,kt:=j},v.b,v.bs++[bb],v.la⟩) hi (M.upd hi ch ⟨rfl,rfl,rfl,rfl,rfl⟩ (.inl rfl) (.inl rfl) (by rw[show (Hr.house x y z B C {v.u with l:=aa a,m:=aa D,n:=aa nn,kt:=j})=bR (aP x y z) B C (dg v.u.s) (aa a) (aa D) (aa nn) v.u.bt ag from rfl,M.bt v A];exact gh) gs (M.bt v A) gb) ⟨rfl,rfl,rfl,rfl,rfl⟩ (.inl rfl) (pL M A ch λ_ h=>h) (λes I=>I.upd hi V' rfl λnm hN=>?_) (by rw[if_neg (by rw[hw];decide)]) lC sC (by rw[G,eX];lia) pe);rcases hN with h|⟨n1,n2⟩
 .exact .inl h
 .refine .inr ⟨λa' e=>by (injection e with e;subst e);exact n1 a E,λh=>?_⟩;rw[G] at h;rcases bf.mp h with h|h
  .exact n2 h
  .exact n1 a E (o nm h).il
theorem W8 (hw:wd="take") (N:f7 x y z ah sd) (M:Wm μ w cm gr g d x y z ah sd U vs rs ps) (I:cy x y z vs ps es) (hi:vs[i]?=aa v) (k1:1<=k) (k3:k<=12) (hbl:v.bs.length<=900) (Y:(X.nmB y z v.bs).length<=100000)
  (qx:((X.nmB y z v.bs).length:Int)<k->Z 22 [] μ) (hP:∀os B b,k<=((X.nmB y z v.bs).length:Int)->X.nmB y z os=(X.nmB y z v.bs).drop k.toNat->P ((X.nmB y z v.bs).take k.toNat) ⟨{v.u with bt:=.m B},B,os,aa b⟩ ps) (q:i6 P w cm gr g d x y z ah sd t U rs vs ps i v wd μ K) :
  zG [.m w,xZ wd t v.u.ho k] μ K Z:=by
 obtain⟨x1,y1,y2,z1,z2⟩:=id N.s;have J:=aS (hW hi);have H:=aS hi;have W:=M.W;have V:=I.v v H;have zb:=N.zb;have xz:=AE N.xb zb lC lC;refine wj M hi (iZ I) ⟨_,rfl,(zu (by rw[hw];decide) ?_)⟩;refine⟨_,rfl,(qf hw ⟨_,_,_,W.se _ J,rfl,_,W.hs _ J,_,rfl,(X.take_sp N.s lC (tZ M H) (M.bl v H) lC V.bo Y k1 qx λhk os S j B Bo O ol ch jl fl ne gh gb gj=>?_)⟩)⟩;have C:=V.bi;have bp:=V.bp;have f:∀q∈(X.nmB y z v.bs).take k.toNat,q∈X.nmB y z v.bs:=λq h=>nc h;have XX:∀q∈X.nmB y z os,q∈X.nmB y z v.bs:=λq h=>by rw[O] at h;exact sG h
 have D:∀p∈(X.nmB y z v.bs).take k.toNat,∀q∈X.nmB y z os,p<q:=by
  rw[O];have:=bp;rw[<-nv k.toNat (X.nmB y z v.bs),mh] at this;exact this.2.2
 have up:((X.nmB y z v.bs).take k.toNat).Pairwise (·<·):=bp.sublist (l9 _ _);have bp2:(X.nmB y z os).Pairwise (·<·):=O▸bp.sublist (List.drop_sublist _ _);have o:((X.nmB y z v.bs).take k.toNat).length=k.toNat:=by rw[g8];lia
 have len2:(X.nmB y z os).length<=(X.nmB y z v.bs).length:=by rw[O,oF];lia
 have pe:=λb=>hP os B b hk O;clear hP qx;generalize (X.nmB y z v.bs).take k.toNat=L at *;have l:L≠[]:=λe=>by rw[e] at o;simp at o;lia
 obtain⟨b,E⟩:∃b,L.getLast?=aa b:=⟨_,sU l⟩;have R:b∈L:=by rw[sU l] at E;(replace E:=zo E;subst E);exact sf l
 have le:∀p∈L,p<=b:=λp hp=>by
  obtain⟨m,G,Q⟩:∃m∈L,∀q∈L,q<=m:=by
   clear E R hp D gj o f pe;induction L with
   |nil=>exact absurd rfl l
   |cons a r ih=>
    cases r with
    |nil=>exact⟨a,sC,λq A=>aT.mp A▸d6 _⟩
    |cons c r=>
     rw[AR] at up;obtain⟨m,G,Q⟩:=ih up.2 sC;exact⟨m,cJ _ G,λq A=>by
      rcases bC.mp A with rfl|A
      .exact mR (up.1 m G)
      .exact Q q A⟩
  have:=VS G Q up;rw[E] at this;(replace this:=zo this;subst this);exact Q p hp
 have V':e7 x y z ps ⟨{v.u with bt:=.m B},B,os,aa b⟩:=
  ⟨V.h1,V.h2,V.ok,V.nb,V.mb,V.kt,V.ls,V.nm,λc e=>by
   (injection e with e;subst e);obtain⟨_,_,⟨n,hn,h1⟩,_⟩:=C b (f b R);obtain⟨m,G,h2⟩:=V.nm n hn;exact⟨⟨m,G,g_ (Jt y1 z1 h1) h2⟩,λk' e=>by rw[hn] at e;(replace e:=zo e;subst e);exact h1⟩,Bo,λq A=>by
   obtain⟨c0,c1,c2,c3⟩:=C q (XX q A);exact⟨c0,λc e=>by (injection e with e;subst e);exact D b R q A,c2,c3⟩,bp2⟩
 have T:=zk (W.se _ J) (W.hs _ J) (λe=>by cases e);refine q j L ⟨{v.u with bt:=.m B},B,os,aa b⟩ ps S ⟨M.upd hi (ch.mono sC) ⟨rfl,rfl,rfl,rfl,rfl⟩ (.inl rfl) (.inr fl) gh (ch.get (W.se _ J) (by simpa using T)) rfl gb,⟨rfl,rfl,rfl,rfl,rfl⟩,gj,jl,Fr.new M jl hi ne,pL M H ch sC,λq A F=>F.set A hi (.inr fl),λes I=>?_,up,λnm h=>⟨(C nm (f nm h)).1.1,(C nm (f nm h)).2.1⟩,by rw[if_neg l,E],λe=>by rw[hw] at e;exact absurd e dC,lC,lC,lC,lC,pe b⟩;refine (I.upd hi V' rfl λnm hN=>?_).tell (v:=⟨{v.u with bt:=.m B},B,os,aa b⟩) (aS (iX (aO.mp hi).1)) up λnm h=>⟨(C nm (f nm h)).1,(C nm (f nm h)).2.2.2,.inl ⟨b,rfl,le nm h⟩,I.new H (C nm (f nm h)).2.1 (C nm (f nm h)).2.2.2 (.inr (f nm h))⟩;rcases hN with⟨c,hc,h⟩|⟨n1,n2⟩
 .have:=(C b (f b R)).2.1 c hc;exact .inl ⟨b,rfl,lC⟩
 .exact .inr ⟨n1,λh=>n2 (XX nm h)⟩
variable {i0 i1:Nat}
theorem KL (hw:wd="lease") (N:f7 x y z G E) (M:Wm μ w cm J g d x y z G E H vs U ps) (I:cy x y z vs ps es) (hi:vs[i]?=aa v) (ht:μ[i0]?=aa (.tab 0)) (Y:ps.length<64) (h2:jk y hs) (L:1<=n)
  (T:∀h b D,bh ps hs (if v.u.rd t<0 then 0 else v.u.rd t) n h b->(y<=h\/x<b+n)->Ch [] μ D->Z 19 [] D) (hP:∀h b a C,bh ps hs (if v.u.rd t<0 then 0 else v.u.rd t) n h b->h<y->b+n<=x->P [] {v with u:={v.u with l:=aa (h,b,b+n),kt:=C}} (ps++[(a,⟨v.u.ho,h,b,b+n,b+n,ag⟩)])) (q:i6 P w cm J g d x y z G E t H U vs ps i v wd μ K) :
  zG [.m w,i2 wd t v.u.ho hs n] μ K Z:=by
 have f:=aS (hW hi);have c:=aS hi;have W:=M.W;have V:=I.v v c;refine wj M hi (iZ I) ⟨_,rfl,(zu (by rw[hw];decide) ?_)⟩;refine⟨_,rfl,(zu (by rw[hw];decide) ?_)⟩;refine⟨_,rfl,(zu (by rw[hw];decide) ?_)⟩;refine⟨_,rfl,(qf hw ⟨_,_,_,W.se _ f,rfl,_,W.hs _ f,_,_,_,W.wo,rfl,_,W.bk.com,_,rfl,_,rfl,_,rfl,(IY W.bk ht Y V.h1 V.h2 h2 L T λh b R a O r Q A F al ch B=>?_)⟩)⟩;have M1:=M.book ch (λj o=>.inl (aT.mp o)) B;refine IT (a:=(h,b,b+n)) V.kt (tZ M1 c) (M1.W.se _ f) ⟨O,r,Q,lC,A⟩ λp C hk k ln gh gs=>?_;have M2:=M1.upd (v':={v with u:={v.u with l:=aa (h,b,b+n),kt:=C}}) hi (k.mono sC) ⟨rfl,rfl,rfl,rfl,rfl⟩ (.inl rfl) (.inl rfl) (by rw[show (Hr.house x y z G E {v.u with l:=aa (h,b,b+n),kt:=C})=bR (aP x y z) G E (dg v.u.s) (aa (h,b,b+n)) v.u.m v.u.n v.u.bt ag from rfl,M.bt v c];exact gh) gs (M.bt v c) (k.get (M1.bl v c) (by
  simp only[bC,dP,or_false,not_or];exact⟨zk (M1.bl v c) (M1.W.hs _ f) (λe=>by injection e),zk (M1.bl v c) (M1.W.se _ f) (λe=>by injection e)⟩))
 have X:Kq J g d vs μ p:=Kq.of (S:=[J,v.u.h,v.u.s]) ((ch.mono sC).trans (k.mono sC)) λj o=>by
  simp only[bC,dP,or_false] at o;rcases o with rfl|rfl|rfl
  .exact .inr (.inl rfl)
  .exact .inl (WD W f).1
  .exact .inl (WD W f).2
 exact q _ _ _ _ _ (fL.nil hi M2 ⟨rfl,rfl,rfl,rfl,rfl⟩ (.inl rfl) X (λes I=>I.lease hi O r Q L A F.free hk) (by rw[if_neg (by rw[hw];decide)]) sC sC sC (hP h b a C F r A))
noncomputable def XY (f u:Int)(o:Option Int):Int:=match wN f u o with
 |none=>f
 |some s=>s+1
theorem Qn{f u:Int}(fu:f<u)(o:Option Int):pz f u (bw (wN f u o)) (XY f u o):=by
 unfold XY;cases h:wN f u o with
 |none=>exact .inl ⟨rfl,rfl⟩
 |some s=>
  refine .inr ⟨s,rfl,?_,?_,rfl⟩<;>(unfold wN at h;cases o with
   |none=>exact z9 h
   |some c=>
    simp only at h
    split at h
    .exact z9 h
    ·(replace h:=zo h;subst h);split<;>lia)
theorem Wb (hw:wd="back") (N:f7 x y z U J) (M:Wm μ w cm Q g d x y z U J H vs Y ps) (I:cy x y z vs ps es) (hi:vs[i]?=aa v)
  (R:v.u.l=af->Z 18 [] μ) (hP:∀a p D C,v.u.l=aa a->p∈ps->p.2.h=a.1->p.2.f=a.2.1->p.2.u0=a.2.2->p.2.ct=ag->P [] ⟨{v.u with l:=af,kt:=C,bt:=.m D},D,[],v.la⟩ (bQ p.1 (XY a.2.1 a.2.2 (qK y z v.u.n v.u.m)) ps)) (q:i6 P w cm Q g d x y z U J t H Y vs ps i v wd μ K) :
  zG [.m w,.t [.str wd,.int t,.str v.u.ho]] μ K Z:=by
 have b:=aS (hW hi);have W:=M.W;have V:=I.v v (aS hi);refine wj M hi (iZ I) ⟨_,rfl,(zu (by rw[hw];decide) ?_)⟩;refine⟨_,rfl,(zu (by rw[hw];decide) ?_)⟩;refine⟨_,rfl,(zu (by rw[hw];decide) ?_)⟩;refine⟨_,rfl,(zu (by rw[hw];decide) ?_)⟩;refine⟨_,rfl,(qf hw ⟨_,_,_,W.se _ b,rfl,_,W.hs _ b,(FW N.s V.kt (W.hs _ b) (W.se _ b) V.nb R λa F O C D X ch L gh gs gb=>?_)⟩)⟩;have ok:=V.ok a F;have M1:=M.upd (v':=⟨{v.u with l:=af,kt:=C,bt:=.m D},D,[],v.la⟩) hi (ch.mono sC) ⟨rfl,rfl,rfl,rfl,rfl⟩ (.inl rfl) (.inr L) gh gs rfl gb;refine⟨_,_,_,M1.W.wo,rfl,_,M1.W.bk.com,_,rfl,_,rfl,(HN M1.W.bk ok.h0 ok.h1 ok.f0 ok.fu ok.ux (Qn ok.fu _) ?_ λp c A r o k G e ln B=>?_)⟩
 .obtain⟨p,c,_,A,r,o,k⟩:=V.ls a F;exact⟨p,c,A,r,o,k⟩
 have T:Kq Q g d vs μ G:=Kq.of (S:=[p.1,v.u.h,v.u.s]) ((ch.mono sC).trans (e.mono sC)) λj E=>by
  simp only[bC,dP,or_false] at E;rcases E with rfl|rfl|rfl
  .exact .inl ⟨_,W.bk.at_ p c,_,_,rfl⟩
  .exact .inl (WD W b).1
  .exact .inl (WD W b).2
 exact q _ _ _ _ _ (fL.nil hi (M1.book e (λj E=>.inr ⟨p,c,aT.mp E⟩) B) ⟨rfl,rfl,rfl,rfl,rfl⟩ (.inr L) T (λes I=>I.cut N.s W.bk.nd hi F c A r o k (Qn ok.fu _) X) (by rw[if_neg (by rw[hw];decide)]) (by unfold bQ;simp) sC (by show 0<=_;lia) (hP a p D C F c A r o k))
theorem Qv (hw:wd="fall") (N:f7 x y z C B) (M:Wm μ w H E g d x y z C B s vs D ps) (I:cy x y z vs ps G) (hi:vs[i]?=aa v) (ht:μ[i1]?=aa (.tab 1)) (m:∀h j,P [] ⟨{v.u with h:=h,n:=af,bt:=.m j},j,[],v.la⟩ ps)
  (q:i6 P w H E g d x y z C B t s D vs ps i v wd μ K) :
  zG [.m w,.t [.str wd,.int t,.str v.u.ho]] μ K Z:=by
 have b:=aS hi;have W:=M.W;have V:=I.v v b;refine wj M hi (iZ I) ⟨_,rfl,(zu (by rw[hw];decide) ?_)⟩;refine⟨_,rfl,(zu (by rw[hw];decide) ?_)⟩;refine⟨_,rfl,(zu (by rw[hw];decide) ?_)⟩;refine⟨_,rfl,(zu (by rw[hw];decide) ?_)⟩;refine⟨_,rfl,(zu (by rw[hw];decide) ?_)⟩;refine⟨_,rfl,(qf hw ⟨_,W.wo,(u6 W.wo (W.se _ (aS (hW hi))) ht N.a0 N.d0 V.kt V.mb V.ok λf j ch c p r A=>?_)⟩)⟩;have F:e7 x y z ps ⟨{v.u with h:=μ.length,n:=af,bt:=.m j},j,[],v.la⟩:=⟨V.h1,V.h2,V.ok,(λk e=>z9 e),V.mb,V.kt,V.ls,(λk e=>z9 e),λa e=>⟨(V.la a e).1,λk e=>z9 e⟩,X.BOk.nil,(λq L=>by contradiction),iP⟩;refine q _ _ _ _ _ (fL.nil hi (M.upd (v':=⟨{v.u with h:=μ.length,n:=af,bt:=.m j},j,[],v.la⟩) hi (ch.mono sC) ⟨rfl,rfl,rfl,rfl,rfl⟩ (.inr (aK _)) (.inr (im c)) r p rfl A) ⟨rfl,rfl,rfl,rfl,rfl⟩ (.inr (im c)) (pL M b ch sC) (λG I=>I.upd hi F rfl λnm o=>?_) (by rw[if_neg (by rw[hw];decide)]) lC sC (by show 0<=_;lia) (m _ _));rcases o with h|⟨l,J⟩
 .exact .inl h
 .exact .inr ⟨l,λh=>by contradiction⟩
theorem Wn (hw:wd="bare") (N:f7 x y z J G) (M:Wm μ w cm U g d x y z J G B vs Q ps) (I:cy x y z vs ps Y) (hi:vs[i]?=aa v) (ht:μ[i1]?=aa (.tab 1)) (O:∀h j,P [] ⟨{v.u with h:=h,l:=af,m:=af,n:=af,bt:=.m j,kt:=.n},j,[],af⟩ ps)
  (q:i6 P w cm U g d x y z J G t B Q vs ps i v wd μ K) :
  zG [.m w,.t [.str wd,.int t,.str v.u.ho]] μ K Z:=by
 have f:=aS (hW hi);have E:=aS hi;have W:=M.W;have V:=I.v v E;refine wj M hi (iZ I) ⟨_,rfl,(zu (by rw[hw];decide) ?_)⟩;refine⟨_,rfl,(zu (by rw[hw];decide) ?_)⟩;refine⟨_,rfl,(zu (by rw[hw];decide) ?_)⟩;refine⟨_,rfl,(zu (by rw[hw];decide) ?_)⟩;refine⟨_,rfl,(zu (by rw[hw];decide) ?_)⟩;refine⟨_,rfl,(zu (by rw[hw];decide) ?_)⟩;refine⟨_,_,W.se _ f,by show (3:Nat)<900;decide,?_⟩;have r:=zk W.wo (W.se _ f) (λe=>by cases e);have C:Ch [v.u.s] μ (μ.set v.u.s (zT (.m v.u.c) (.m v.u.h) .n)):=Ch.set;have D:=C.get W.wo (by simpa using r);refine⟨_,D,(u6 D (am (y:=zT (.m v.u.c) (.m v.u.h) .n) (W.se _ f)) (C.get ht (by simpa using zk ht (W.se _ f) (λe=>by injection e))) N.a0 N.d0 (.inl ⟨rfl,rfl,rfl⟩) (λv e=>z9 e) (λv e=>z9 e) λL j ch p F H R=>?_)⟩;have p:μ.length<j:=by simpa using p
 have b:=C.trans ch;have S:e7 x y z ps ⟨{v.u with h:=μ.length,l:=af,m:=af,n:=af,bt:=.m j,kt:=.n},j,[],af⟩:=⟨V.h1,V.h2,(λa e=>z9 e),(λk e=>z9 e),(λk e=>z9 e),.inl ⟨rfl,rfl,rfl⟩,(λa e=>z9 e),(λk e=>z9 e),(λa e=>z9 e),X.BOk.nil,(λq T=>by contradiction),iP⟩;have A:∀o,(μ.set v.u.s o).length=μ.length:=λo=>by simp
 rw[A] at F H;exact q _ _ _ _ _ (fL.nil hi (M.upd (v':=⟨{v.u with h:=μ.length,l:=af,m:=af,n:=af,bt:=.m j,kt:=.n},j,[],af⟩) hi (b.mono sC) ⟨rfl,rfl,rfl,rfl,rfl⟩ (.inr (aK _)) (.inr (im p)) H F rfl R) ⟨rfl,rfl,rfl,rfl,rfl⟩ (.inr (im p)) (pL M E b sC) (λY I=>I.upd hi S rfl λnm hN=>.inr ⟨(λa e=>z9 e),λh=>by contradiction⟩) (by rw[if_pos hw]) lC sC (by show 0<=_;lia) (O _ _))
end
theorem fL.put(R:fL P w D H g d x y z E B t G J vs ps i v wd μ s j L v' C) :
  fL P w D H g d x y z E B t (.int t) u vs ps i v wd μ ((s.set w (kg x y z E B D g d (.int t))).set g (.l u)) j L v' C:=by
 have c:=zk R.hj R.M.W.wo (λe=>by injection e);have a:((s.set w (kg x y z E B D g d (.int t))).set g (.l u))[j]?=aa (.l (L.map T.int)):=by
  rw[aX (bd R.fj.n2),aX (bd c)];exact R.hj
 refine⟨R.M.now'.gave,R.sm,a,R.jn,R.fj,⟨by simp;exact R.kp.len,λq o e n F=>?_⟩,R.fr,R.I,R.up,R.gt,R.la,R.ask,R.ln,R.pl,R.bl,R.nl,R.ex⟩;have b:=R.kp.ot q o e n F;rw[aX (bd F.n2),aX (bd (zk b R.M.W.wo (λh=>n ⟨_,_,h⟩)))];exact b
abbrev CG(P:List Int->Vh->List Gp->Prop)(w l k g d:Nat)(x y z m f t:Int)(h:List T)(vs:List Vh)(ps:List Gp)(i:Nat)(v:Vh)(wd:ao)(μ:Mem)(K:T->Mem->Prop):Prop:=
 ∀c j L e b a,jB c t->fL P w l k g d x y z m f t c (h++L.map (jY t v.u.ho)) vs ps i v wd μ a j L e b->K (.m j) a
theorem yQ{r:List T}(f:row=.t (.str wd::.int t::.str v.u.ho::r))(hr:∀(K:T->Mem->Prop) (Z:Xp),K (.bl ae) μ->xv [row] μ K Z)(M:Wm μ w D G g d x y z E B s vs C ps)(I:cy x y z vs ps J)(hi:vs[i]?=aa v)(l:jB s t)(F:C.length<=100000)
  (done:∀H,i6 P w D G g d x y z E B t s C vs ps i v wd μ H->zG [.m w,row] μ H Z)
  (q:CG P w D G g d x y z E B t C vs ps i v wd μ K):wO [.m w,row] μ K Z:=by
 have W:=M.W;have V:=I.v v (aS hi);refine⟨rfl,_,W.wo,(Ql W (hW hi) (iZ I) l V.h1 V.h2 f hr ⟨_,W.wo,(done _ λj L m h b R=>?_)⟩)⟩;subst f;refine⟨_,Vw,_,_,R.M.W.wo,by show (7:Nat)<900;decide,?_⟩;have M2:=R.M.now' (nw:=.int t);have k:=zk R.hj R.M.W.wo (λe=>by injection e);have n:=R.ln;have a:(b.set w (kg x y z E B D g d (.int t)))[j]?=aa (.l (L.map T.int)):=by rw[aX (bd k)];exact R.hj
 refine⟨_,_,_,M2.W.wo,rfl,⟨_,M2.W.gv⟩,_,a,by rw[aL];unfold aB;lia,?_⟩;refine zH T.int (λnm=>aa (jY t v.u.ho nm)) (λp A o c=>?_) ?_ a
 .exact⟨_,rfl,_,Vw,_,Q5,c⟩
 .rw[show L.filterMap (λnm=>aa (jY t v.u.ho nm))=L.map (jY t v.u.ho) by rw[gu]];refine⟨_,_,M2.W.gv,.inl rfl,by rw[aL];unfold aB;lia,?_⟩;exact q _ _ _ _ _ _ (.inr ⟨t,rfl,d6 _⟩) R.put
theorem HH {wd:ao}(h:wd="ask"\/wd="store"\/wd="take") (q:K (.bl ae) μ):kI [xZ wd t ho k] μ K Z:=by
 refine⟨rfl,_,rfl,_,rfl,?_⟩;rcases h with rfl|rfl|rfl<;>exact q
theorem Y5 {wd:ao}(h:wd="ask"\/wd="store"\/wd="take") (q:K (.bl ae) μ):xv [xZ wd t ho k] μ K Z:=by
 exact⟨rfl,(HH h ⟨_,rfl,zp q⟩)⟩
theorem FT {wd:ao}(h:wd="back"\/wd="fall"\/wd="bare") (q:K (.bl ae) μ):kI [.t [.str wd,.int t,.str ho]] μ K Z:=by
 refine⟨rfl,_,rfl,_,rfl,?_⟩;rcases h with rfl|rfl|rfl<;>exact q
theorem XN {wd:ao}(h:wd="back"\/wd="fall"\/wd="bare") (q:K (.bl ae) μ):xv [.t [.str wd,.int t,.str ho]] μ K Z:=by
 exact⟨rfl,(FT h ⟨_,rfl,zp q⟩)⟩
inductive Rw(y z t:Int)(ho:ao):ao->T->Prop
 |ls {wd:ao}{hs:T}{n:Int}:wd="lease"->jk y hs->1<=n->Rw y z t ho wd (i2 wd t ho hs n)
 |nn {wd:ao}{k:Int}:wd="ask"\/wd="store"\/wd="take"->1<=k->k<=z->k<=12->Rw y z t ho wd (xZ wd t ho k)
 |th {wd:ao}:wd="back"\/wd="fall"\/wd="bare"->Rw y z t ho wd (.t [.str wd,.int t,.str ho])
structure fN where
 ho:ao
 l:Option Ls
 m:Option Int
 n:Option Int
 ns:List Int
noncomputable def Vh.abs(y z:Int)(v:Vh):fN:=⟨v.u.ho,v.u.l,v.u.m,v.u.n,X.nmB y z v.bs⟩
inductive dH
 |nm (L:List Int)
 |wt (b:Int)
 |rf (w:ao)
noncomputable def Ya (a:Ls)(e:Int)(G:Gr):Gr:=if G.h=a.1/\G.f=a.2.1/\G.u0=a.2.2/\G.ct=ag then {G with u:=e,ct:=ae} else G
theorem fA.congr{h m b:Int}(e:ps.map (·.2)=ks.map (·.2))(F:fA ps h m n b):fA ks h m n b:=by
 have mem:∀{G:Gr},(∃p∈ps,p.2=G)↔∃p∈ks,p.2=G:=λ{G}=>by
  rw[show (∃p∈ps,p.2=G)↔G∈ps.map (·.2) by simp,e];simp
 refine⟨F.1,λp c=>?_,λf h1 h2=>?_⟩
 .obtain⟨q,a,d⟩:=mem.mpr ⟨p,c,rfl⟩;rw[<-d];exact F.2.1 q a
 .obtain⟨p,c,w⟩:=F.2.2 f h1 h2;obtain⟨q,a,d⟩:=mem.mp ⟨p,c,rfl⟩;exact⟨q,a,d▸w⟩
theorem eL.congr{h m:Int}(e:ps.map (·.2)=ks.map (·.2))(F:eL ps m n h):eL ks m n h:=by
 have mem:∀{G:Gr},(∃p∈ps,p.2=G)↔∃p∈ks,p.2=G:=λ{G}=>by
  rw[show (∃p∈ps,p.2=G)↔G∈ps.map (·.2) by simp,e];simp
 refine⟨F.1,λp b=>?_,λd h1 h2=>?_⟩
 .obtain⟨q,a,c⟩:=mem.mpr ⟨p,b,rfl⟩;rw[<-c];exact F.2.1 q a
 .obtain⟨p,b,w⟩:=F.2.2 d h1 h2;obtain⟨q,a,c⟩:=mem.mp ⟨p,b,rfl⟩;exact⟨q,a,c▸w⟩
theorem bh.congr{h m b:Int}(e:ps.map (·.2)=ks.map (·.2))(F:bh ps hs m n h b):bh ks hs m n h b:=by
 rcases F with⟨h1,h2,F⟩|⟨h1,F⟩
 .exact .inl ⟨h1,h2,F.congr e⟩
 .exact .inr ⟨h1,F.congr e⟩
noncomputable abbrev lw(r:Int):Int:=if r<0 then 0 else r
inductive dT
 |ask
 |sto
 |tak
 |ls
 |bck
 |fal
 |bar
noncomputable def pX (x y r:Int)(ps:List Gp)(hs:T)(k:Int):Option (Int×Int)->Prop
 |none=>∀h b,bh ps hs (lw r) k h b->y<=h\/x<b+k
 |some o=>bh ps hs (lw r) k o.1 o.2/\o.1<y/\o.2+k<=x
noncomputable abbrev DB:=dH×(Option Ls×Option Int×Option Int×List Int)×List Gr
noncomputable def xT(x y z b c r:Int)(a:fN)(g:List Gr)(k:Int)(d:List Int->dH)(n1:List Int->List Int):DB:=match a.l with
 |none=>(.rf "lease",(a.l,a.m,a.n,a.ns),g)
 |some l=>if l.2.2*z<z8 y z l a.n a.m r+k then (.rf "lease",(a.l,a.m,a.n,a.ns),g) else if 0<bG z r b (z8 y z l a.n a.m r+k) then (.wt (bG z r b (z8 y z l a.n a.m r+k)),(a.l,a.m,a.n,a.ns),g) else (d (bu y z l.1 (z8 y z l a.n a.m r) k),(aa l,aa (de x y z c l a.n a.m r k),aa (ef y z l a.n a.m r k),n1 (bu y z l.1 (z8 y z l a.n a.m r) k)),g)
noncomputable abbrev mz(x y z c b r:Int)(a:fN)(g:List Gr)(k:Int)(o:Option (Int×Int)):dT->DB
 |.ask=>xT x y z c b r a g k .nm λ_=>[]
 |.sto=>xT x y z c b r a g k (λ_=>.nm []) λL=>a.ns++L
 |.tak=>if (a.ns.length:Int)<k then (.rf "empty",(a.l,a.m,a.n,a.ns),g) else (.nm (a.ns.take k.toNat),(a.l,a.m,a.n,a.ns.drop k.toNat),g)
 |.ls=>match o with
  |none=>(.rf "ended",(a.l,a.m,a.n,a.ns),g)
  |some o=>(.nm [],(aa (o.1,o.2,o.2+k),a.m,a.n,a.ns),g++[⟨a.ho,o.1,o.2,o.2+k,o.2+k,ag⟩])
 |.bck=>match a.l with
  |none=>(.rf "lease",(a.l,a.m,a.n,a.ns),g)
  |some l=>(.nm [],(af,a.m,a.n,[]),g.map (Ya l (XY l.2.1 l.2.2 (qK y z a.n a.m))))
 |.fal=>(.nm [],(a.l,a.m,af,[]),g)
 |.bar=>(.nm [],(af,af,af,[]),g)
inductive a_(x y z ah sd r:Int)(a:fN)(ps:List Gp)(w:dT)(hs:T)(k:Int)(R:dH)(a':fN)(g:List Gr):Prop
 |mk (o:Option (Int×Int)) (ho:a'.ho=a.ho) (ls:w=.ls->pX x y r ps hs k o) (e:mz x y z ah sd r a (ps.map (·.2)) k o w=(R,(a'.l,a'.m,a'.n,a'.ns),g))
theorem a_.of{w:dT}{R:dH}{g:List Gr}(n:w≠.ls)(ho:j.ho=a.ho)(e:mz x y z u s r a (ps.map (·.2)) k af w=(R,(j.l,j.m,j.n,j.ns),g)):a_ x y z u s r a ps w hs k R j g:=⟨af,ho,λh=>absurd h n,e⟩
set_option tactic.hygienic true in
theorem QV(h:∀l,a.l=aa l->l.2.2*z<z8 y z l a.n a.m r+k):xT x y z u j r a g k s n1=(.rf "lease",(a.l,a.m,a.n,a.ns),g):=by
 unfold xT;split
 .rename_i e;rw[e]
 .rename_i l e;rw[if_pos (h l e),e]
theorem Wd(e:a.l=aa l)(h:z8 y z l a.n a.m r+k<=l.2.2*z)(w:0<bG z r j (z8 y z l a.n a.m r+k)):xT x y z j s r a g k u n1=(.wt (bG z r j (z8 y z l a.n a.m r+k)),(a.l,a.m,a.n,a.ns),g):=by
 unfold xT;simp only[e];rw[if_neg (mL.mpr h),if_pos w]
theorem Wg(e:a.l=aa l)(h:z8 y z l a.n a.m r+k<=l.2.2*z)(w:bG z r u (z8 y z l a.n a.m r+k)<=0):xT x y z u j r a g k s n1=(s (bu y z l.1 (z8 y z l a.n a.m r) k),(aa l,aa (de x y z j l a.n a.m r k),aa (ef y z l a.n a.m r k),n1 (bu y z l.1 (z8 y z l a.n a.m r) k)),g):=by
 unfold xT;simp only[e];rw[if_neg (mL.mpr h),if_neg (mL.mpr w)]
theorem a_.no_ask(h:∀l,a.l=aa l->l.2.2*z<z8 y z l a.n a.m r+k):a_ x y z s j r a ps .ask hs k (.rf "lease") a (ps.map (·.2)):=.of nofun rfl (QV h)
theorem a_.no_sto(h:∀l,a.l=aa l->l.2.2*z<z8 y z l a.n a.m r+k):a_ x y z s j r a ps .sto hs k (.rf "lease") a (ps.map (·.2)):=.of nofun rfl (QV h)
theorem a_.wt_ask(e:a.l=aa l)(h:z8 y z l a.n a.m r+k<=l.2.2*z)(w:0<bG z r j (z8 y z l a.n a.m r+k)):a_ x y z j s r a ps .ask hs k (.wt (bG z r j (z8 y z l a.n a.m r+k))) a (ps.map (·.2)):=.of nofun rfl (Wd e h w)
theorem a_.wt_sto(e:a.l=aa l)(h:z8 y z l a.n a.m r+k<=l.2.2*z)(w:0<bG z r j (z8 y z l a.n a.m r+k)):a_ x y z j s r a ps .sto hs k (.wt (bG z r j (z8 y z l a.n a.m r+k))) a (ps.map (·.2)):=.of nofun rfl (Wd e h w)
theorem a_.ask(e:a.l=aa l)(h:z8 y z l a.n a.m r+k<=l.2.2*z)(w:bG z r s (z8 y z l a.n a.m r+k)<=0):a_ x y z s j r a ps .ask hs k (.nm (bu y z l.1 (z8 y z l a.n a.m r) k)) ⟨a.ho,aa l,aa (de x y z j l a.n a.m r k),aa (ef y z l a.n a.m r k),[]⟩ (ps.map (·.2)):=.of nofun rfl (Wg e h w)
theorem a_.sto(e:a.l=aa l)(h:z8 y z l a.n a.m r+k<=l.2.2*z)(w:bG z r s (z8 y z l a.n a.m r+k)<=0):a_ x y z s j r a ps .sto hs k (.nm []) ⟨a.ho,aa l,aa (de x y z j l a.n a.m r k),aa (ef y z l a.n a.m r k),a.ns++bu y z l.1 (z8 y z l a.n a.m r) k⟩ (ps.map (·.2)):=.of nofun rfl (Wg e h w)
theorem a_.emp(h:(a.ns.length:Int)<k):a_ x y z s j r a ps .tak hs k (.rf "empty") a (ps.map (·.2)):=.of nofun rfl (if_pos h)
theorem a_.tak(h:k<=(a.ns.length:Int)):a_ x y z s j r a ps .tak hs k (.nm (a.ns.take k.toNat)) ⟨a.ho,a.l,a.m,a.n,a.ns.drop k.toNat⟩ (ps.map (·.2)):=.of nofun rfl (if_neg (mL.mpr h))
theorem a_.end_(h:∀h b,bh ps hs (lw r) k h b->y<=h\/x<b+k):a_ x y z s j r a ps .ls hs k (.rf "ended") a (ps.map (·.2)):=⟨af,rfl,λ_=>h,rfl⟩
theorem a_.let_(F:bh ps hs (lw r) k h b)(h1:h<y)(h2:b+k<=x):a_ x y z s j r a ps .ls hs k (.nm []) ⟨a.ho,aa (h,b,b+k),a.m,a.n,a.ns⟩ (ps.map (·.2)++[⟨a.ho,h,b,b+k,b+k,ag⟩]):=⟨aa (h,b),rfl,λ_=>⟨F,h1,h2⟩,rfl⟩
theorem a_.bno(e:a.l=af):a_ x y z s j r a ps .bck hs k (.rf "lease") a (ps.map (·.2)):=.of nofun rfl (by unfold mz;simp only[e])
theorem a_.bck(e:a.l=aa l):a_ x y z s j r a ps .bck hs k (.nm []) ⟨a.ho,af,a.m,a.n,[]⟩ ((ps.map (·.2)).map (Ya l (XY l.2.1 l.2.2 (qK y z a.n a.m)))):=.of nofun rfl (by unfold mz;simp only[e])
theorem a_.fal:a_ x y z s j r a ps .fal hs k (.nm []) ⟨a.ho,a.l,a.m,af,[]⟩ (ps.map (·.2)):=.of nofun rfl rfl
theorem a_.bar:a_ x y z s j r a ps .bar hs k (.nm []) ⟨a.ho,af,af,af,[]⟩ (ps.map (·.2)):=.of nofun rfl rfl
theorem pX.one{o a:Option (Int×Int)}(h:pX x y r ps hs k o)(h2:pX x y r ps hs k a):o=a:=by
 cases o with
 |none=>cases a with
  |none=>rfl
  |some p=>exact absurd (h _ _ h2.1) (by have:=h2.2;omega)
 |some q=>cases a with
  |none=>exact absurd (h2 _ _ h.1) (by have:=h.2;omega)
  |some p=>obtain⟨c,b⟩:=h.1.one h2.1;rw[show q=p from Prod.ext c b]
theorem a_.one{w:dT}{R R2:dH}{f d:List Gr}(C:a_ x y z s j r a ps w hs k R B f)(A:a_ x y z s j r a ps w hs k R2 u d):R=R2/\B=u/\f=d:=by
 obtain⟨o,h,l,e⟩:=C;obtain⟨g,h2,c,v⟩:=A;have:mz x y z s j r a (ps.map (·.2)) k o w=mz x y z s j r a (ps.map (·.2)) k g w:=by
  cases w with
  |ls=>rw[(l rfl).one (c rfl)]
  |_=>rfl
 obtain⟨t,b⟩:=gZ (e.symm.trans (this.trans v));obtain⟨b,q⟩:=gZ b;refine⟨t,?_,q⟩;obtain⟨ho,l,m,n,ns⟩:=B;obtain⟨p,c,D,n2,i⟩:=u;cases b;cases h.trans h2.symm;rfl
theorem a_.ho'{w:dT}{R:dH}{b:List Gr}(d:a_ x y z u s r a ps w hs k R j b):j.ho=a.ho:=let ⟨_,h,_,_⟩:=d;h
theorem a_.congr{w:dT}{R:dH}{b:List Gr}(e:ps.map (·.2)=ks.map (·.2))(c:a_ x y z s j r a ps w hs k R u b):a_ x y z s j r a ks w hs k R u b:=by
 obtain⟨o,h,l,f⟩:=c;rw[e] at f;refine⟨o,h,λw=>?_,f⟩;have l:=l w;cases o with
 |none=>exact λh' d F=>l h' d (F.congr e.symm)
 |some o=>exact⟨l.1.congr e,l.2⟩
section
inductive gJ:dH->Nat->List (Nat×T)->Prop
 |ls:gJ (.rf "lease") 18 []
 |en:gJ (.rf "ended") 19 []
 |em:gJ (.rf "empty") 22 []
 |wt {b:Int}:gJ (.wt b) 21 [(29,.int b)]
inductive b7(y z t:Int)(ho:ao):ao->dT->T->Int->T->Prop
 |ls {wd:ao}{hs:T}{n:Int}:wd="lease"->jk y hs->1<=n->b7 y z t ho wd .ls hs n (i2 wd t ho hs n)
 |ask {wd:ao}{k:Int}:wd="ask"->1<=k->k<=z->k<=12->b7 y z t ho wd .ask .n k (xZ wd t ho k)
 |sto {wd:ao}{k:Int}:wd="store"->1<=k->k<=z->k<=12->b7 y z t ho wd .sto .n k (xZ wd t ho k)
 |tak {wd:ao}{k:Int}:wd="take"->1<=k->k<=z->k<=12->b7 y z t ho wd .tak .n k (xZ wd t ho k)
 |bck {wd:ao}:wd="back"->b7 y z t ho wd .bck .n 0 (.t [.str wd,.int t,.str ho])
 |fal {wd:ao}:wd="fall"->b7 y z t ho wd .fal .n 0 (.t [.str wd,.int t,.str ho])
 |bar {wd:ao}:wd="bare"->b7 y z t ho wd .bar .n 0 (.t [.str wd,.int t,.str ho])
variable {μ μ':Mem}{K:T->Mem->Prop}{Z:Xp}{x y z ah sd t k:Int}{w cm gr g d i j i0 i1:Nat}{now hs row:T}{rs:List T}{ps ps':List Gp}{vs:List Vh}{v v':Vh}{wd:ao}{W:dT}{L:List Int}{es:List E3}
theorem WN{p:Gp}{a:Ls}{e:Int}(G:Gd x y ps)(nd:(ps.map (·.1)).Nodup)(d:p∈ps)(fu:a.2.1<a.2.2)(p1:p.2.h=a.1)(p2:p.2.f=a.2.1)(s:p.2.u0=a.2.2)(k:p.2.ct=ag):(bQ p.1 e ps).map (·.2)=(ps.map (·.2)).map (Ya a e):=by
 unfold bQ;rw[bB,bB];refine md λq c=>?_;show (if q.1=p.1 then (q.1,{q.2 with u:=e,ct:=ae}) else q).2=Ya a e q.2;unfold Ya;by_cases h:q.1=p.1
 .have:q=p:=by
   obtain⟨i,l⟩:=dD.mp d;obtain⟨j,g⟩:=dD.mp c;have a:(ps.map (·.1))[i]?=aa p.1:=by rw[bH,l];rfl
   have b:(ps.map (·.1))[j]?=aa p.1:=by rw[bH,g,<-h];rfl
   obtain⟨r,o⟩:=aO.mp a;obtain⟨n,m⟩:=aO.mp b;have t:i=j:=by
    rcases oH i j with h|h|h
    .exact absurd (o.trans m.symm) (eY.mp nd i j r n h)
    .exact h
    .exact absurd (m.trans o.symm) (eY.mp nd j i n r h)
   subst t;rw[l] at g;exact (aZ g).symm
  subst this;rw[if_pos rfl,if_pos ⟨p1,p2,s,k⟩]
 .rw[if_neg h,if_neg];rintro⟨w,C,B,v⟩;have A:=(G.ok p d).op k;have z:=(G.ok q c).op v;refine h (congrArg Prod.fst (G.same c d (w.trans p1.symm) ⟨lC,lC,lC,lC⟩))
abbrev DC(x y z ah sd r:Int)(v:Vh)(ps:List Gp)(W:dT)(hs:T)(k:Int):List Int->Vh->List Gp->Prop:=λL v' ps'=>a_ x y z ah sd r (v.abs y z) ps W hs k (.nm L) (v'.abs y z) (ps'.map (·.2))
theorem YI(N:f7 x y z ah sd)(G:b7 y z t v.u.ho wd W hs k row)(M:Wm μ w cm gr g d x y z ah sd now vs rs ps)(I:cy x y z vs ps es)(hi:vs[i]?=aa v)(s:jB now t)(A:rs.length<=100000)(t0:μ[i0]?=aa (.tab 0))(t1:μ[i1]?=aa (.tab 1))(pl:ps.length<64)(bl:v.bs.length<=900)(nl:(X.nmB y z v.bs).length<=100000)(J:-1000000000000000<=v.u.rd t)
  (o:CG (DC x y z ah sd (v.u.rd t) v ps W hs k) w cm gr g d x y z ah sd t rs vs ps i v wd μ K)
  (l:∀R c fs μ',a_ x y z ah sd (v.u.rd t) (v.abs y z) ps W hs k R (v.abs y z) (ps.map (·.2))->Ch [] μ μ'->gJ R c fs->Z c fs μ'):wO [.m w,row] μ K Z:=by
 cases G with
 |ls hw h2 h3=>
  exact yQ rfl (λK Z L=>hw▸Iy L) M I hi s A (λC h=>KL hw N M I hi t0 pl h2 h3 (λh b μ' F e ch=>l _ _ _ _ (.end_ λL O F'=>by obtain⟨rfl,rfl⟩:=F.one F';exact e) ch .en) (λh b a r F U V=>by
   show a_ _ _ _ _ _ _ _ _ _ _ _ _ _ (gS _ (_++_));rw[bP];exact .let_ F U V) h) o
 |ask hw D E H=>
  exact yQ rfl (λK Z q=>Y5 (.inl hw) q) M I hi s A (λC h=>V3 hw N M I hi J D E (λe=>l _ _ _ _ (.no_ask e) Ch.refl .ls) (λa j f B=>l _ _ _ _ (.wt_ask j f B) Ch.refl .wt) (λa O r j f B=>.ask j f B) h) o
 |sto hw D E H=>
  exact yQ rfl (λK Z q=>Y5 (.inr (.inl hw)) q) M I hi s A (λC h=>ZW hw N M I hi J D E bl (λe=>l _ _ _ _ (.no_sto e) Ch.refl .ls) (λa j f B=>l _ _ _ _ (.wt_sto j f B) Ch.refl .wt) (λa r j f B=>by
   have eB:X.nmB y z (v.bs++[(a.1,z8 y z a v.u.n v.u.m (v.u.rd t),z8 y z a v.u.n v.u.m (v.u.rd t)+k)])=X.nmB y z v.bs++bu y z a.1 (z8 y z a v.u.n v.u.m (v.u.rd t)) k:=by
    rw[X.nmB_snoc];rw[show z8 y z a v.u.n v.u.m (v.u.rd t)+k-z8 y z a v.u.n v.u.m (v.u.rd t)=k by lia]
   show a_ _ _ _ _ _ _ _ _ _ _ _ _ ⟨_,_,_,_,X.nmB y z (_++_)⟩ _;rw[eB];exact .sto j f B) h) o
 |tak hw D E H=>
  exact yQ rfl (λK Z q=>Y5 (.inr (.inr hw)) q) M I hi s A (λC h=>W8 hw N M I hi D H bl nl (λe=>l _ _ _ _ (.emp e) Ch.refl .em) (λos f2 b j f=>by
   show a_ _ _ _ _ _ _ _ _ _ _ _ _ ⟨_,_,_,_,X.nmB y z os⟩ _;rw[f];exact .tak j) h) o
 |bck hw=>
  exact yQ rfl (λK Z q=>XN (.inl hw) q) M I hi s A (λC h=>Wb hw N M I hi (λe=>l _ _ _ _ (.bno e) Ch.refl .ls) (λa p O r e Y T S Q P=>by
   show a_ _ _ _ _ _ _ _ _ _ _ _ _ _ (gS _ (bQ _ _ _));rw[WN I.gd M.W.bk.nd Y ((I.v v (aS hi)).ok a e).fu T S Q P];exact .bck e) h) o
 |fal hw=>
  exact yQ rfl (λK Z q=>XN (.inr (.inl hw)) q) M I hi s A (λC h=>Qv hw N M I hi t1 (λ_ _=>.fal) h) o
 |bar hw=>
  exact yQ rfl (λK Z q=>XN (.inr (.inr hw)) q) M I hi s A (λC h=>Wn hw N M I hi t1 (λ_ _=>.bar) h) o
end
theorem Fv(s:Hz x y z)(ok:bX x y a)(hd:μ[di]?=aa (cK (aa a) m g n (.l ks) ni))(D:ks.length<=100000)(hc:μ[ni]?=aa (.l cs))(b:cs.length<=1000)(A:∀k,n=aa k->0<=k/\k<x*y*z)(E:∀v,g=aa v->0<=v/\v<x)(k1:1<=k)(k2:k<=1000)
  (l:a.2.2*z<z8 y z a n g r+k->∀u,Ch [] μ u->K (.str "lease") u)
  (i:z8 y z a n g r+k<=a.2.2*z->0<bG z r B (z8 y z a n g r+k)->∀u,Ch [] μ u->K (.t [.str "wait",.int (bG z r B (z8 y z a n g r+k))]) u)
  (h:z8 y z a n g r+k<=a.2.2*z->bG z r B (z8 y z a n g r+k)<=0->∀u j,Rd μ u di ni j x y z C a m g (z8 y z a n g r) k (.l (ks++(bu y z a.1 (z8 y z a n g r) k).map T.int)) cs->K (.int ((ks++(bu y z a.1 (z8 y z a n g r) k).map T.int).length:Int)) u) :
  qM [.int 1,.m di,cA x y z,.int B,.int C,.int r,.int k] μ K Z:=by
 have F:=(aO.mp hd).1;have p:ni≠di:=λw=>by rw[w,hd] at hc;cases hc
 refine⟨rfl,(QN s ok hd hc b A E k1 k2 (λe u c=>?_) (λf d u c=>?_) (λf d u j R=>?_))⟩
 .exact l e u c
 .exact i f d u c
 .have q:=R.jl;have t:j≠di:=by omega
  have o:(bu y z a.1 (z8 y z a n g r) k).length=k.toNat:=jh;refine⟨_,R.hj,_,_,R.hd,rfl,_,R.hj,by rw[aL,o];unfold aB;omega,?_⟩;refine⟨_,R.hd,by show (6:Nat)<aB;decide,?_⟩;refine⟨_,_,am R.hd,rfl,(h f d _ j ⟨R.ch.trans (Ch.set.mono sC),q,?_,am R.hd,?_⟩)⟩
  .rw[aX (bd t)];exact R.hj
  .rw[aX (bd p)];exact R.hc
structure pV where
 di:Nat
 ni:Nat
 g:Option Int
 cs:List T
structure cg(μ:Mem)(x:Int)(a:fN)(q:pV):Prop where
 hd:μ[q.di]?=aa (cK a.l a.m q.g a.n (.l (a.ns.map T.int)) q.ni)
 hc:μ[q.ni]?=aa (.l q.cs)
 ok:(q.cs=[]/\a.l=af/\a.m=af)\/q.cs.getLast?=aa (qG a.l a.m)
 gm:a.n=af->q.g=a.m
 gb:∀c,q.g=aa c->0<=c/\c<x
inductive dW:dH->T->Prop
 |rf {w:ao}:dW (.rf w) (.str w)
 |wt {b:Int}:dW (.wt b) (.t [.str "wait",.int b])
theorem cg.beg(H:cg μ x a q){l:Ls}:z8 y z l a.n q.g r=z8 y z l a.n a.m r:=by
 cases h:a.n with
 |none=>rw[H.gm h]
 |some c=>rfl
theorem Y9{l:Ls}{cs:List T}{m:Option Int}{M:Int}(ok:cs.getLast?=aa (qG (aa l) m)):(cs++if aa M=m then [] else [qG (aa l) (aa M)]).getLast?=aa (qG (aa l) (aa M)):=by
 split
 .rename_i e;rw[eO,e];exact ok
 .simp
theorem KW {wd:ao}(hw:wd="ask") (s:Hz x y z) (H:cg μ x a q) (J:row=xZ wd t a.ho k) (hd:μ[dd]?=aa (.d kvs)) (hk:zr (.inr a.ho) kvs=aa (.m q.di)) (F:∀l,a.l=aa l->bX x y l) (A:∀k,a.n=aa k->0<=k/\k<x*y*z) (v:q.cs.length<=1000) (k1:1<=k) (k2:k<=1000)
  (p:∀R t B,a_ x y z G C r a ks .ask hs k R a (ks.map (·.2))->dW R t->Ch [] μ B->K t B)
  (w:∀L I E j B,a_ x y z G C r a ks .ask hs k (.nm L) I (ks.map (·.2))->cg B x I E->E.di=q.di->E.ni=q.ni->E.cs.length<=q.cs.length+1->Ch [q.di,q.ni] μ B->μ.length<=j->B[j]?=aa (.l (L.map T.int))->K (.m j) B):zw [row,.m dd,.m ll,cA x y z,.t [.int G,.int C],.int r] μ K Z:=by
 refine uh (by rw[hw];decide) (by rw[hw];decide) (by rw[hw];decide) (by rw[hw];decide) J hd hk ⟨0,rfl,dC,by rw[hw];rfl,λu h=>by contradiction⟩ rfl λO D=>?_;have o:=H.hd;cases c:a.l with
 |none=>
  rw[c] at o;exact XQ o (D.str _ _ (p _ _ _ (.no_ask λl e=>by rw[c] at e;exact z9 e) .rf Ch.refl))
 |some l=>
  rw[c] at o;have eb:=H.beg (y:=y) (z:=z) (r:=r) (l:=l);refine GJ s (F l c) o H.hc v A H.gb k1 k2 (λe b ch=>?_) (λf d b ch=>?_) (λf d b j R=>?_)
  .rw[eb] at e;exact D.str _ _ (p _ _ _ (.no_ask λN i=>by rw[c] at i;(replace i:=zo i;subst i);exact e) .rf ch)
  .rw[eb] at f d ⊢;exact D.tup _ _ (p _ _ _ (.wt_ask c f d) .wt ch)
  .rw[eb] at f d R;have ok:q.cs.getLast?=aa (qG (aa l) a.m):=by
    rcases H.ok with⟨_,e,_⟩|e
    .rw[c] at e;exact w6 e
    .rw[c] at e;exact e
   have M:cg b x ⟨a.ho,aa l,aa (de x y z C l a.n a.m r k),aa (ef y z l a.n a.m r k),[]⟩ ⟨q.di,q.ni,q.g,q.cs++if aa (de x y z C l a.n a.m r k)=a.m then [] else [qG (aa l) (aa (de x y z C l a.n a.m r k))]⟩:=⟨R.hd,R.hc,.inr (Y9 ok),(λe=>w6 e),H.gb⟩;refine D.mu _ _ _ R.hj (w _ _ _ j b (.ask c f d) M rfl rfl ?_ R.ch R.jl R.hj);split<;>simp
theorem cg.app(H:cg μ x a q){o:MO}:cg (μ++[o]) x a q:=⟨z3 H.hd,z3 H.hc,H.ok,H.gm,H.gb⟩
theorem X0 {wd:ao}(hw:wd="store") (s:Hz x y z) (H:cg μ x a q) (J:row=xZ wd t a.ho k) (hd:μ[dd]?=aa (.d kvs)) (hk:zr (.inr a.ho) kvs=aa (.m q.di)) (I:∀l,a.l=aa l->bX x y l) (F:∀k,a.n=aa k->0<=k/\k<x*y*z) (v:q.cs.length<=1000) (p:a.ns.length<=100000) (k1:1<=k) (k2:k<=1000)
  (o:∀R t u,a_ x y z E B r a ks .sto hs k R a (ks.map (·.2))->dW R t->Ch [] μ u->K t u)
  (A:∀L G C j u,a_ x y z E B r a ks .sto hs k (.nm L) G (ks.map (·.2))->cg u x G C->C.di=q.di->C.ni=q.ni->C.cs.length<=q.cs.length+1->Ch [q.di,q.ni] μ u->μ.length<=j->u[j]?=aa (.l (L.map T.int))->K (.m j) u):zw [row,.m dd,.m ll,cA x y z,.t [.int E,.int B],.int r] μ K Z:=by
 refine uh (by rw[hw];decide) (by rw[hw];decide) (by rw[hw];decide) (by rw[hw];decide) J hd hk ⟨1,rfl,dC,by rw[hw];rfl,by rw[hw];decide⟩ rfl λO D=>?_;have i:=H.hd;cases c:a.l with
 |none=>
  rw[c] at i;exact Yf i (D.str _ _ (o _ _ _ (.no_sto λl e=>by rw[c] at e;exact z9 e) .rf Ch.refl))
 |some l=>
  rw[c] at i;have eb:=H.beg (y:=y) (z:=z) (r:=r) (l:=l);refine Fv s (I l c) i (by rw[aL];exact p) H.hc v F H.gb k1 k2 (λe b ch=>?_) (λf d b ch=>?_) (λf d b j R=>?_)
  .rw[eb] at e;exact D.str _ _ (o _ _ _ (.no_sto λN h=>by rw[c] at h;(replace h:=zo h;subst h);exact e) .rf ch)
  .rw[eb] at f d ⊢;exact D.tup _ _ (o _ _ _ (.wt_sto c f d) .wt ch)
  .rw[eb] at f d R;have ok:q.cs.getLast?=aa (qG (aa l) a.m):=by
    rcases H.ok with⟨_,e,_⟩|e
    .rw[c] at e;exact w6 e
    .rw[c] at e;exact e
   have w:=R.hd;rw[<-bP] at w;have M:cg b x ⟨a.ho,aa l,aa (de x y z B l a.n a.m r k),aa (ef y z l a.n a.m r k),a.ns++bu y z l.1 (z8 y z l a.n a.m r) k⟩ ⟨q.di,q.ni,q.g,q.cs++if aa (de x y z B l a.n a.m r k)=a.m then [] else [qG (aa l) (aa (de x y z B l a.n a.m r k))]⟩:=⟨w,R.hc,.inr (Y9 ok),(λe=>w6 e),H.gb⟩;refine D.int _ _ (A _ _ _ b.length _ (.sto c f d) M.app rfl rfl ?_ (R.ch.trans (Ch.app.mono sC)) R.ch.len z5);split<;>simp
theorem KC {wd:ao}(hw:wd="take") (H:cg μ x a q) (i:row=xZ wd t a.ho k) (hd:μ[dd]?=aa (.d kvs)) (hk:zr (.inr a.ho) kvs=aa (.m q.di)) (b:a.ns.length<=100000) (k1:1<=k)
  (g:∀R t j,a_ x y z u s r a ks .tak hs k R a (ks.map (·.2))->dW R t->Ch [] μ j->K t j)
  (f:∀L B j,a_ x y z u s r a ks .tak hs k (.nm L) B (ks.map (·.2))->cg j x B q->Ch [q.di] μ j->K (.l (L.map T.int)) j):zw [row,.m dd,.m ll,cA x y z,.t [.int u,.int s],.int r] μ K Z:=by
 refine uh (by rw[hw];decide) (by rw[hw];decide) (by rw[hw];decide) (by rw[hw];decide) i hd hk ⟨2,rfl,dC,by rw[hw];rfl,by rw[hw];decide⟩ rfl λm D=>?_;have h:q.ni≠q.di:=λw=>by have:=H.hd;rw[<-w,H.hc] at this;cases this
 refine F1 H.hd (by rw[aL];exact b) k1 (λe=>?_) (λe d ch l c=>?_)
 .rw[aL] at e;exact D.str _ _ (g _ _ _ (.emp e) .rf Ch.refl)
 .rw[aL] at e;rw[<-wP] at c;rw[<-rH];exact D.lst _ _ (f _ _ _ (.tak e) ⟨c,ch.get H.hc (by simpa using h),H.ok,H.gm,H.gb⟩ ch)
section
variable {wd:ao}
theorem cg.ch(H:cg μ x a q)(ch:Ch S μ j)(h1:q.di∉S)(h2:q.ni∉S):cg j x a q:=⟨ch.get H.hd h1,ch.get H.hc h2,H.ok,H.gm,H.gb⟩
theorem cg.lmo(H:cg μ x a q):qK y z a.n q.g=qK y z a.n a.m:=by
 cases h:a.n with
 |none=>rw[H.gm h]
 |some c=>rfl
theorem KQ {wd:ao}(hw:wd="back") (s:Hz x y z) (H:cg μ x a q) (T:row=.t [.str wd,.int t,.str a.ho]) (hd:μ[dd]?=aa (.d kvs)) (hk:zr (.inr a.ho) kvs=aa (.m q.di)) (Q:∀l,a.l=aa l->bX x y l) (S:q.cs.length<=999) (L:LR μ ll ks) (G:Gd x y ks)
  (ex:∀l,a.l=aa l->∃p∈ks,p.2.h=l.1/\p.2.f=l.2.1/\p.2.u0=l.2.2/\p.2.ct=ag) (n1:ll≠q.di/\ll≠q.ni) (n2:∀p∈ks,p.1≠q.di/\p.1≠q.ni)
  (O:∀R t u,a_ x y z I D r a ks .bck hs k R a (ks.map (·.2))->dW R t->Ch [] μ u->K t u)
  (N:∀J C B p j u,a_ x y z I D r a ks .bck hs k (.nm []) J (B.map (·.2))->cg u x J C->C.di=q.di->C.ni=q.ni->C.cs.length<=q.cs.length+1->LR u ll B->B.map (·.1)=ks.map (·.1)->p∈ks->Ch [q.di,q.ni,p.1] μ u->μ.length<=j->u[j]?=aa (.l [])->K (.m j) u):zw [row,.m dd,.m ll,cA x y z,.t [.int I,.int D],.int r] μ K Z:=by
 refine JW hw T hd hk λK' V U=>?_;have d:=H.hd;cases c:a.l with
 |none=>
  rw[c] at d;exact Kh d (V _ (O _ _ _ (.bno c) .rf Ch.refl))
 |some l=>
  rw[c] at d;refine IF s d H.hc (by omega) λu w c2 X W=>?_;rw[H.lmo];refine U _ _ _ ?_;obtain⟨p,b,o,E,A,i⟩:=ex l c;have F:=(Q l c).fu;have H1:cg u x ⟨a.ho,af,a.m,a.n,[]⟩ ⟨q.di,q.ni,q.g,q.cs++[qG af a.m]⟩:=⟨X,W,.inr sC,H.gm,H.gb⟩;have P:=(G.ok p b).op i;refine Gj (L.ch w (by simp only[bC,dP,or_false,not_or];exact n1) (λp b=>by simp only[bC,dP,or_false,not_or];exact n2 p b)) b o E (P.trans A) i (λC v M w2 w3 w4=>?_) (Qn F _) λe ch L2=>?_
  .exact G.same v b (M.trans o.symm) ⟨by omega,by omega,by omega,by omega⟩
  .have Y:=H1.ch ch (by simpa using (n2 p b).1.symm) (by simpa using (n2 p b).2.symm);refine N _ _ _ p e.length _ ?_ Y.app rfl rfl sC (L2.ch Ch.app sC sC) k7 b ((w.mono sC).trans ((ch.mono sC).trans (Ch.app.mono sC))) (cf w.len ch.len) z5;rw[WN G L.nd b F o E A i];exact .bck c
variable {q:pV}
theorem Ul {wd:ao}(hw:wd="lease") (H:cg μ x a q) (M:row=i2 wd t a.ho hs k) (hd:μ[dd]?=aa (.d kvs)) (hk:zr (.inr a.ho) kvs=aa (.m q.di)) (J:q.cs.length<=999) (L:LR μ ll ks) (pl:ks.length<63) (k1:1<=k) (h2:jk y hs) (y1:1<=y) (y2:y<1000) (n1:ll≠q.di/\ll≠q.ni) (n2:∀p∈ks,p.1≠q.di/\p.1≠q.ni)
  (A:∀R t s,a_ x y z D C r a ks .ls hs k R a (ks.map (·.2))->dW R t->Ch [] μ s->K t s)
  (v:∀E B u ad j s,a_ x y z D C r a ks .ls hs k (.nm []) E (u.map (·.2))->cg s x E B->B.di=q.di->B.ni=q.ni->B.cs.length<=q.cs.length+1->LR s ll u->u.map (·.1)=ks.map (·.1)++[ad]->μ.length<=ad->ad<j->Ch [q.di,q.ni,ll] μ s->s[j]?=aa (.l [])->K (.m j) s):zw [row,.m dd,.m ll,cA x y z,.t [.int D,.int C],.int r] μ K Z:=by
 refine Vv hw M hd hk λW O N=>Ga L pl k1 h2 y1 y2 (λd e ch=>O _ (A _ _ _ (.end_ e) .rf ch)) λh b d ad T G I F P ch Q=>?_;have o:=H.ch ch (by simpa using n1.1.symm) (by simpa using n1.2.symm);have V:=(aO.mp H.hd).1;have U:=(aO.mp H.hc).1;refine N (h,b,b+k) d ⟨_,_,_,_,_,_,o.hd,(jg o.hd o.hc (by omega) λc i=>?_)⟩;have S:cg c x ⟨a.ho,aa (h,b,b+k),a.m,a.n,a.ns⟩ ⟨q.di,q.ni,q.g,q.cs++if aa (h,b,b+k)=a.l/\a.m=a.m then [] else [qG (aa (h,b,b+k)) a.m]⟩:=by
  refine⟨i.hd,i.hc,.inr ?_,H.gm,H.gb⟩;split
  .rename_i e;rcases H.ok with⟨_,w,_⟩|w
   .rw[<-e.1] at w;exact w6 w
   .rw[eO,w,<-e.1]
  .simp
 have L2:=Q.ch i.ch (by simp only[bC,dP,or_false,not_or];exact n1) (λp f=>by
  simp only[bC,dP,or_false,not_or];rcases bf.mp f with f|f
  .exact n2 p f
  .rw[aT.mp f];exact⟨by omega,by omega⟩)
 refine v _ _ _ ad c.length _ ?_ S.app rfl rfl ?_ (L2.ch Ch.app sC sC) (by rw[bP];rfl) P ((aO.mp (L2.at_ (ad,_) (cD _ (aT.mpr rfl)))).1) ((ch.mono sC).trans ((i.ch.mono sC).trans (Ch.app.mono sC))) z5
 .rw[bP];exact .let_ F G I
 .show (q.cs++_).length<=_;split<;>simp
theorem KH {wd:ao}(hw:wd="fall") (H:cg μ x a q) (v:row=.t [.str wd,.int t,.str a.ho]) (hd:μ[dd]?=aa (.d kvs)) (hk:zr (.inr a.ho) kvs=aa (.m q.di)) (f:kvs.length<1000) (g:q.cs.length<=999) (gm:∀c,a.m=aa c->0<=c/\c<x) (n1:dd≠q.ni)
  (e:∀B u j s,a_ x y z D C r a ks .fal hs k (.nm []) B (ks.map (·.2))->cg s x B u->μ.length<=u.di->u.ni=q.ni->u.cs=q.cs->u.di<j->s[dd]?=aa (.d (wA (.inr a.ho) (.m u.di) kvs))->Ch [dd] μ s->s[j]?=aa (.l [])->K (.m j) s):zw [row,.m dd,.m ll,cA x y z,.t [.int D,.int C],.int r] μ K Z:=by
 refine Kn hw v hd hk f H.hd H.hc (by omega) H.ok λb d j ch i h p o n=>?_;exact e ⟨a.ho,a.l,a.m,af,[]⟩ ⟨d,q.ni,a.m,q.cs⟩ j b .fal ⟨o,ch.get H.hc (by simpa using n1.symm),H.ok,λ_=>rfl,gm⟩ i rfl rfl h p ch n
theorem Kx {wd:ao}(hw:wd="bare") (w:row=.t [.str wd,.int t,.str a.ho]) (hd:μ[dd]?=aa (.d kvs)) (hk:zr (.inr a.ho) kvs=aa (.m q.di)) (h:kvs.length<1000)
  (g:∀B u j s,a_ x y z D C r a ks .bar hs k (.nm []) B (ks.map (·.2))->cg s x B u->μ.length<=u.ni->u.ni<u.di->u.cs=[]->u.di<j->s[dd]?=aa (.d (wA (.inr a.ho) (.m u.di) kvs))->Ch [dd] μ s->s[j]?=aa (.l [])->K (.m j) s):zw [row,.m dd,.m ll,cA x y z,.t [.int D,.int C],.int r] μ K Z:=by
 exact K9 hw w hd hk h λb d f j ch m l i v p o n=>g ⟨a.ho,af,af,af,[]⟩ ⟨f,d,af,[]⟩ j b .bar ⟨p,o,.inl ⟨rfl,rfl,rfl⟩,λ_=>rfl,λc e=>z9 e⟩ m l rfl i v ch n
end
noncomputable abbrev Aq:=fN×pV
noncomputable def j4 (a:List Aq):List (Key×T):=a.map λp=>(.inr p.1.ho,.m p.2.di)
inductive aW(dd ll:Nat)(ks:List Gp)(qs:List Aq):Nat->Prop
 |dd:aW dd ll ks qs dd
 |ll:aW dd ll ks qs ll
 |ks {c:Gp}:c∈ks->aW dd ll ks qs c.1
 |di {p:Aq}:p∈qs->aW dd ll ks qs p.2.di
 |ni {p:Aq}:p∈qs->aW dd ll ks qs p.2.ni
structure ey(μ:Mem)(x:Int)(dd ll:Nat)(ks:List Gp)(qs:List Aq):Prop where
 dc:μ[dd]?=aa (.d (j4 qs))
 lr:LR μ ll ks
 h:∀p∈qs,cg μ x p.1 p.2
 nh:(qs.map (·.1.ho)).Nodup
 n1:(qs.map (·.2.di)).Nodup
 n2:(qs.map (·.2.ni)).Nodup
 n3:∀p∈qs,dd≠p.2.di/\ll≠p.2.ni/\∀c∈ks,c.1≠p.2.ni
theorem Xa:∀{a:List Aq}{i:Nat}{p:Aq},(a.map (·.1.ho)).Nodup->a[i]?=aa p->zr (.inr p.1.ho) (j4 a)=aa (.m p.2.di)
 |[],i,p,_,h=>by simp at h
 |c::a,0,p,n,h=>by
  cases aZ h;show zr _ ((.inr c.1.ho,.m c.2.di)::_)=_;unfold zr;rw[if_pos rfl]
 |c::a,i+1,p,n,h=>by
  rw[cC,g7] at n;have ne:c.1.ho≠p.1.ho:=λe=>n.1 (e▸ba.mpr ⟨p,aS h,rfl⟩);show zr _ ((.inr c.1.ho,.m c.2.di)::j4 a)=_;unfold zr;rw[if_neg (λe=>ne (by injection e))];exact Xa n.2 h
theorem CY(n:(s.map (·.1.ho)).Nodup)(hi:s[i]?=aa p)(e:p'.1.ho=p.1.ho):wA (.inr p.1.ho) (.m p'.2.di) (j4 s)=j4 (s.set i p'):=by
 unfold wA;have f:((j4 s).any λb=>decide (b.1=.inr p.1.ho))=ae:=Av.mpr ⟨(.inr p.1.ho,.m p.2.di),ba.mpr ⟨p,(aS hi),rfl⟩,decide_eq_true rfl⟩;rw[if_pos f];unfold j4;rw[bB];refine AO λj=>?_;rw[bH,bH,List.getElem?_set];by_cases a:i=j
 .subst a;rw[if_pos rfl,if_pos (aO.mp hi).1,hi];show aa (if (eS p.1.ho)=eS p.1.ho then _ else _)=aa (eS p'.1.ho,T.m p'.2.di);rw[if_pos rfl,e]
 .rw[if_neg a];cases d:s[j]? with
  |none=>rfl
  |some c=>
   show aa (if (eS c.1.ho)=eS p.1.ho then _ else _)=aa (eS c.1.ho,T.m c.2.di);rw[if_neg λw=>a (vQ n hi d (f_ w).symm)]
theorem ey.keep(L:ey μ x dd ll ks u)(h:∀j o,aW dd ll ks u j->μ[j]?=aa o->¬gE o->s[j]?=aa o):ey s x dd ll ks u:=by
 have nl:∀{l:List T},¬gE (.l l):=λ⟨_,_,e⟩=>by injection e
 have b:∀{l:List (Key×T)},¬gE (.d l):=λ⟨_,_,e⟩=>by injection e
 exact⟨h _ _ .dd L.dc b,⟨h _ _ .ll L.lr.lst nl,λp a=>h _ _ (.ks a) (L.lr.at_ p a) nl,L.lr.nd⟩,λp a=>let H:=L.h p a;⟨h _ _ (.di a) H.hd b,h _ _ (.ni a) H.hc nl,H.ok,H.gm,H.gb⟩,L.nh,L.n1,L.n2,L.n3⟩
theorem ey.no(L:ey μ x dd ll ks s)(h:aW dd ll ks s j):∃o,μ[j]?=aa o/\¬gE o:=by
 cases h with
 |dd=>exact⟨_,L.dc,λ⟨_,_,e⟩=>by injection e⟩
 |ll=>exact⟨_,L.lr.lst,λ⟨_,_,e⟩=>by injection e⟩
 |ks h=>exact⟨_,L.lr.at_ _ h,λ⟨_,_,e⟩=>by injection e⟩
 |di h=>exact⟨_,(L.h _ h).hd,λ⟨_,_,e⟩=>by injection e⟩
 |ni h=>exact⟨_,(L.h _ h).hc,λ⟨_,_,e⟩=>by injection e⟩
theorem ey.step(L:ey μ x dd ll ks u)(hi:u[i]?=aa p)(ch:Ch S μ s)(l:∀j∈S,j=dd\/j=ll\/j=p.2.di\/j=p.2.ni\/∃c∈ks,j=c.1)(H:cg s x p'.1 p'.2)(o:p'.1.ho=p.1.ho)(dc:s[dd]?=aa (.d (j4 (u.set i p'))))(lr:LR s ll z)(n:p'.2.di=p.2.di\/μ.length<=p'.2.di)(k:p'.2.ni=p.2.ni\/μ.length<=p'.2.ni)(m:∀c∈z,(∃b∈ks,c.1=b.1)\/(μ.length<=c.1/\c.1≠p'.2.ni)) :
  ey s x dd ll z (u.set i p')/\(∀j,aW dd ll z (u.set i p') j->aW dd ll ks u j\/μ.length<=j)/\∀j∈S,aW dd ll ks u j:=by
 have a:=aS hi;have ln:∀c∈u,c.2.ni<μ.length:=λc hc=>zI (L.h c hc).hc;have dl:=zI L.dc;have r:=zI L.lr.lst;refine⟨⟨dc,lr,λc hc=>?_,?_,?_,?_,λc hc=>?_⟩,λj h=>?_,λj hj=>?_⟩
 .rcases vL (P:=λ_=>True) hc with rfl|⟨j,ne,hj⟩
  .exact H
  .have d:=aS hj;have f:=L.h c d;refine f.ch ch (λh=>?_) (λh=>?_)
   .rcases l _ h with e|e|e|e|⟨b,hb,e⟩
    .exact (L.n3 c d).1 e.symm
    .exact zk f.hd L.lr.lst (λe=>by injection e) e
    .exact ne (vQ L.n1 hj hi e)
    .exact zk f.hd (L.h p a).hc (λe=>by injection e) e
    .exact zk f.hd (L.lr.at_ b hb) (λe=>by injection e) e
   .rcases l _ h with e|e|e|e|⟨b,hb,e⟩
    .exact zk f.hc L.dc (λe=>by injection e) e
    .exact (L.n3 c d).2.1 e.symm
    .exact zk f.hc (L.h p a).hd (λe=>by injection e) e
    .exact ne (vQ L.n2 hj hi e)
    .exact (L.n3 c d).2.2 b hb e.symm
 .rw[Kc hi o];exact L.nh
 .exact uK L.n1 hi (n.imp id λh c hc e=>by have:=(λc hc=>zI (L.h c hc).hd) c hc;omega)
 .exact uK L.n2 hi (k.imp id λh c hc e=>by have:=ln c hc;omega)
 .rcases vL (P:=λ_=>True) hc with rfl|⟨j,ne,hj⟩
  .have n3:=L.n3 p a;refine⟨?_,?_,λb hb=>?_⟩
   .rcases n with e|h
    .rw[e];exact n3.1
    .omega
   .rcases k with e|h
    .rw[e];exact n3.2.1
    .omega
   .rcases m b hb with⟨q,g,e⟩|h
    .rw[e];rcases k with e|h
     .rw[e];exact n3.2.2 q g
     .have:=zI (L.lr.at_ q g);omega
    .exact h.2
  .have d:=aS hj;have n3:=L.n3 c d;refine⟨n3.1,n3.2.1,λb hb=>?_⟩;rcases m b hb with⟨q,g,e⟩|h
   .rw[e];exact n3.2.2 q g
   .have:=ln c d;omega
 .cases h with
  |dd=>exact .inl .dd
  |ll=>exact .inl .ll
  |ks h=>
   rcases m _ h with⟨b,hb,e⟩|h
   .rw[e];exact .inl (.ks hb)
   .exact .inr h.1
  |di h=>
   rcases vL (P:=λ_=>True) h with rfl|⟨j,ne,hj⟩
   .exact n.imp (λe=>by rw[e];exact .di a) id
   .exact .inl (.di (aS hj))
  |ni h=>
   rcases vL (P:=λ_=>True) h with rfl|⟨j,ne,hj⟩
   .exact k.imp (λe=>by rw[e];exact .ni a) id
   .exact .inl (.ni (aS hj))
 .rcases l j hj with e|e|e|e|⟨b,hb,e⟩<;>rw[e]
  .exact .dd
  .exact .ll
  .exact .di a
  .exact .ni a
  .exact .ks hb
theorem Gd.congr(e:ps.map (·.2)=ks.map (·.2))(G:Gd x y ps):Gd x y ks:=by
 refine⟨λc hc=>?_,?_⟩
 .have:c.2∈ps.map (·.2):=e▸ba.mpr ⟨c,hc,rfl⟩;obtain⟨b,hb,w⟩:=ba.mp this;rw[<-w];exact G.ok b hb
 .have:(ps.map (·.2)).Pairwise λa b=>Dj (0,a) (0,b):=ij.mpr G.dj;rw[e] at this;exact (ij (f:=λc:Gp=>c.2)).mp this
theorem ey.nn(L:ey μ x dd ll ks j)(a:p∈j):(ll≠p.2.di/\ll≠p.2.ni)/\(∀c∈ks,c.1≠p.2.di/\c.1≠p.2.ni)/\dd≠p.2.ni:=
 ⟨⟨zk L.lr.lst (L.h p a).hd (λe=>by injection e),(L.n3 p a).2.1⟩,λc hc=>⟨zk (L.lr.at_ c hc) (L.h p a).hd (λe=>by injection e),(L.n3 p a).2.2 c hc⟩,zk L.dc (L.h p a).hc (λe=>by injection e)⟩
abbrev iB(μ c:Mem)(x:Int)(dd ll:Nat)(ks b:List Gp)(d a:List Aq)(S:List Nat):Prop:=ey c x dd ll b a/\(∀j,aW dd ll b a j->aW dd ll ks d j\/μ.length<=j)/\∀j∈S,aW dd ll ks d j
theorem ey.deed(L:ey μ x dd ll ks u)(hi:u[i]?=aa p)(ch:Ch S μ s)(d:∀j∈S,j=ll\/j=p.2.di\/j=p.2.ni\/∃c∈ks,j=c.1)(H:cg s x p'.1 p'.2)(k:p'.2.di=p.2.di)(g:p'.2.ni=p.2.ni)(f:p'.1.ho=p.1.ho)(lr:LR s ll z)(l:∀c∈z,(∃b∈ks,c.1=b.1)\/μ.length<=c.1):iB μ s x dd ll ks z u (u.set i p') S:=by
 have a:=aS hi;have Hp:=L.h p a;refine L.step hi ch (λj h=>.inr (d j h)) H f ?_ lr (.inl k) (.inl g) λc hc=>(l c hc).imp id λh=>⟨h,?_⟩
 .have ek:j4 (u.set i p')=j4 u:=by exact Kc hi (by rw[k,f])
  rw[ek];refine ch.get L.dc λh=>?_;rcases d _ h with e|e|e|⟨b,hb,e⟩
  .exact zk L.dc L.lr.lst (λe=>by injection e) e
  .exact (L.n3 p a).1 e
  .exact zk L.dc Hp.hc (λe=>by injection e) e
  .exact zk L.dc (L.lr.at_ b hb) (λe=>by injection e) e
 .have:=zI Hp.hc;rw[g];omega
inductive lE(μ μ':Mem)(L:List Int):T->Prop
 |l:lE μ μ' L (.l (L.map T.int))
 |mu {j:Nat}:μ.length<=j->μ'[j]?=aa (.l (L.map T.int))->lE μ μ' L (.m j)
theorem Gv(s:Hz x y z)(y2:y<1000)(z2:z<=12)(Rr:b7 y z t v.u.ho wd W hs k row)(L:ey μ x dd ll ks Q)(hi:Q[i]?=aa p)(ea:p.1=v.abs y z)(V:e7 x y z ps v)(G:Gd x y ps)(e:ps.map (·.2)=ks.map (·.2))(kl:ks.length<63)(ql:Q.length<1000)(cl:p.2.cs.length<=999)(nl:(X.nmB y z v.bs).length<=100000)
  (N:∀R t B,a_ x y z ah Y r (v.abs y z) ks W hs k R (v.abs y z) (ks.map (·.2))->dW R t->Ch [] μ B->K t B)
  (M:∀E p' C tt S B,a_ x y z ah Y r (v.abs y z) ks W hs k (.nm E) p'.1 (C.map (·.2))->iB μ B x dd ll ks C Q (Q.set i p') S->Ch S μ B->p'.2.cs.length<=p.2.cs.length+1->lE μ B E tt->K tt B) :
  zw [row,.m dd,.m ll,cA x y z,.t [.int ah,.int Y],.int r] μ K Z:=by
 have pm:=aS hi;have lk:=Xa L.nh hi;obtain⟨U,P,n3⟩:=L.nn pm;have H:=L.h p pm;have qk:(j4 Q).length<1000:=by unfold j4;rw[aL];exact ql
 obtain⟨a,q⟩:=p;subst ea;have hl:=V.ok;have hS:∀j∈[q.di,q.ni],j=ll\/j=q.di\/j=q.ni\/∃c∈ks,j=c.1:=λj h=>by
  simp only[bC,dP,or_false] at h;exact .inr (h.imp id .inl)
 have deed:∀{E m g j B},a_ x y z ah Y r (v.abs y z) ks W hs k (.nm E) m (ks.map (·.2))->cg B x m g->g.di=q.di->g.ni=q.ni->g.cs.length<=q.cs.length+1->Ch [q.di,q.ni] μ B->μ.length<=j->B[j]?=aa (.l (E.map T.int))->K (.m j) B:=λ{E m g j B} d n D A cs ch I o=>by
  refine M E (m,g) ks _ _ B d (L.deed hi ch hS n D A d.ho' (L.lr.ch ch ?_ λc f=>?_) λc f=>.inl ⟨c,f,rfl⟩) ch cs (.mu I o)
  .simp only[bC,dP,or_false,not_or];exact U
  .simp only[bC,dP,or_false,not_or];exact P c f
 cases Rr with
 |ls hw h2 F=>
  refine Ul hw H rfl L.dc lk cl L.lr kl F h2 s.y1 y2 U P N λm g C ad j B d n D A cs lr ek al aj ch o=>M [] (m,g) C _ _ B d (L.deed hi ch (λj h=>?_) n D A d.ho' lr λc f=>?_) ch cs (.mu (by omega) o)
  .simp only[bC,dP,or_false] at h;rcases h with h|h|h
   .exact .inr (.inl h)
   .exact .inr (.inr (.inl h))
   .exact .inl h
  .have:c.1∈ks.map (·.1)++[ad]:=ek▸ba.mpr ⟨c,f,rfl⟩;rcases bf.mp this with h|h
   .obtain⟨b,O,w⟩:=ba.mp h;exact .inl ⟨b,O,w.symm⟩
   .rw[aT.mp h];exact .inr al
 |ask hw F k2 k3=>exact KW hw s H rfl L.dc lk hl V.nb (by omega) F (by omega) N λ_ _ _ _ _ d n D A cs ch I o=>deed d n D A cs ch I o
 |sto hw F k2 k3=>exact X0 hw s H rfl L.dc lk hl V.nb (by omega) nl F (by omega) N λ_ _ _ _ _ d n D A cs ch I o=>deed d n D A cs ch I o
 |tak hw F k2 k3=>
  refine KC hw H rfl L.dc lk nl F N λE m B d n ch=>?_;have J:Ch [q.di,q.ni] μ B:=ch.mono sC;refine M E (m,q) ks _ _ B d (L.deed hi J hS n rfl rfl d.ho' (L.lr.ch J ?_ λc f=>?_) λc f=>.inl ⟨c,f,rfl⟩) J sC .l
  .simp only[bC,dP,or_false,not_or];exact U
  .simp only[bC,dP,or_false,not_or];exact P c f
 |bck hw=>
  refine KQ hw s H rfl L.dc lk hl cl L.lr (G.congr e) (λl el=>?_) U P N λm g C c j B d n D A cs lr ek f ch I o=>?_
  .obtain⟨b,O,_,b2⟩:=V.ls l el;have:b.2∈ks.map (·.2):=e▸ba.mpr ⟨b,O,rfl⟩;obtain⟨c,f,w⟩:=ba.mp this;exact⟨c,f,w▸b2⟩
  .refine M [] (m,g) C _ _ B d (L.deed hi ch (λj h=>?_) n D A d.ho' lr λb O=>.inl ?_) ch cs (.mu I o)
   .simp only[bC,dP,or_false] at h;rcases h with h|h|h
    .exact .inr (.inl h)
    .exact .inr (.inr (.inl h))
    .exact .inr (.inr (.inr ⟨c,f,h⟩))
   .have:b.1∈ks.map (·.1):=ek▸ba.mpr ⟨b,O,rfl⟩;obtain⟨c,f,w⟩:=ba.mp this;exact⟨c,f,w.symm⟩
 |fal hw=>
  refine KH (ks:=ks) (hs:=.n) (k:=0) hw H rfl L.dc lk qk cl V.mb n3 λm g j B d n dl A cs dj hd ch o=>M [] (m,g) ks _ _ B d (L.step hi ch (λj h=>.inl (aT.mp h)) n d.ho' (hd.trans (by rw[CY L.nh hi (p':=(m,g)) d.ho'])) (L.lr.ch ch ?_ λc f=>?_) (.inr dl) (.inl A) λc f=>.inl ⟨c,f,rfl⟩) ch (by rw[cs];simp) (.mu (by omega) o)
  .simpa using zk L.lr.lst L.dc (λe=>by injection e)
  .simpa using zk (L.lr.at_ c f) L.dc (λe=>by injection e)
 |bar hw=>
  refine Kx (ks:=ks) (hs:=.n) (k:=0) hw rfl L.dc lk qk λm g j B d n nl dl cs dj hd ch o=>M [] (m,g) ks _ _ B d (L.step hi ch (λj h=>.inl (aT.mp h)) n d.ho' (hd.trans (by rw[CY L.nh hi (p':=(m,g)) d.ho'])) (L.lr.ch ch ?_ λc f=>?_) (.inr (by show _<=g.di;omega)) (.inr nl) λc f=>.inl ⟨c,f,rfl⟩) ch (by rw[cs];simp) (.mu (by omega) o)
  .simpa using zk L.lr.lst L.dc (λe=>by injection e)
  .simpa using zk (L.lr.at_ c f) L.dc (λe=>by injection e)
noncomputable abbrev Cd:=ao×Int×List Tn
noncomputable abbrev Hr.cd(u:Hr):Cd:=(u.ho,u.st,u.ts)
theorem zt(hs:St μ i)(h0:0<base)(h1:base<1000000000000000000000000000000000000000000000000000000000000)(q:∀v j,0<=v->v<base->Up μ i j->K (.int v) j):zq [.m i,.int base] μ K Z:=by
 obtain⟨a,b,c,h⟩:=hs;have d:∀x:Int,0<=x % base/\x % base<base:=λx=>⟨fV _ lC,fW _ h0⟩;refine⟨rfl,_,_,h,rfl,(zA (λe=>?_) (λe=>?_))⟩
 .refine⟨_,_,h,rfl,h0,_,_,h,rfl,⟨h0,lC⟩,?_⟩;exact .inl ⟨_,h,sC,(q _ _ (d _).1 (d _).2 (Up.set h))⟩
 .refine⟨_,_,h,rfl,(.inl ⟨_,h,sC,_,_,am h,rfl,_,_,am h,rfl,(XM λv=>?_)⟩)⟩;exact⟨h0,(q _ _ (d _).1 (d _).2 (Up.set h))⟩
structure Kd where
 ho:ao
 c:Nat
 st:Int
 ts:List Tn
noncomputable abbrev wm(k:Kd):Key×T:=(.inr k.ho,.m k.c)
noncomputable abbrev Kd.cd(k:Kd):Cd:=(k.ho,k.st,k.ts)
structure fg(μ:Mem)(k:Kd):Prop where
 h1:k.ho.length<=aB
 h2:qL k.ho=ae
 ck:μ[k.c]?=aa (iy k.st k.ts)
theorem Vd:∀{ks:List Kd}{k:Kd},k∈ks->(ks.map (·.ho)).Nodup->zr (.inr k.ho) (ks.map wm)=aa (.m k.c)
 |[],_,h,_=>by contradiction
 |v::r,k,h,n=>by
  rw[cC,g7] at n;show zr _ (wm v::r.map wm)=_;unfold zr;rcases bC.mp h with rfl|h
  .rw[if_pos rfl]
  .rw[if_neg (λe=>n.1 (ba.mpr ⟨k,h,(f_ e).symm⟩))];exact Vd h n.2
theorem IJ(h:xM μ i kvs)(ho:μ[j]?=aa o)(n1:∀l,o≠.d l)(n2:∀e l,o≠.frd e l):j≠i:=λe=>by
 subst e;rcases h with h|⟨a,h⟩
 .rw[h] at ho;exact n1 _ (aZ ho).symm
 .rw[h] at ho;exact n2 _ _ (aZ ho).symm
theorem uY(ho:μ[dc]?=aa (.d (ks.map wm)))(f:ks≠[])(l:ks.length<=1000)(hk:∀k∈ks,fg μ k)(nd:(ks.map (·.ho)).Nodup)
  (q:∀ep,K (.bl ae) (μ.set dc (.frd ep (ks.map wm)))):yu [.m dc] μ K Z:=by
 have hd:xM μ dc (ks.map wm):=.inl ho;refine⟨rfl,_,ho,_,hd,?_⟩;refine zu (by
  rw[aL];intro e;have e:ks.length=0:=by lia
  exact f (List.length_eq_zero_iff.mp e)) ?_
 refine⟨_,hd,λep=>⟨by rw[aL,aL];unfold aB;lia,?_⟩⟩;rw[bB];have gd:(μ.set dc (.frd ep (ks.map wm)))[dc]?=aa (.frd ep (ks.map wm)):=am ho;refine zH (λk:Kd=>T.str k.ho) (λ_=>aa (.bl ae)) (λk a j b=>?_) ?_ gd
 .have H:=hk k a;refine⟨_,rfl,(qO H.h1 ?_)⟩;rw[H.h2];refine⟨_,_,.inr ⟨ep,gd⟩,Vd a nd,?_⟩;have i:(μ.set dc (.frd ep (ks.map wm)))[k.c]?=aa (iy k.st k.ts):=by
   rw[aX (bd (IJ hd H.ck (λ_ e=>by injection e) (λ_ _ e=>by injection e)))];exact H.ck
  exact⟨_,i,b⟩
 .rw[show ks.filterMap (λ_=>aa (T.bl ae))=ks.map (λ_=>T.bl ae) by rw[gu]];obtain⟨bs,h,g⟩:=xl ks;refine⟨_,h,?_⟩;have d:=q ep;rw[<-g] at d;exact d
theorem vr{a:Nat}(h:l.Nodup)(n:a∉l):(l++[a]).Nodup:=by
 rw[gi];exact⟨h,sC,λb f c d e=>n (aT.mp d▸e▸f)⟩
theorem dS.seat(W:dS μ w I H g d x y z E D C us G ps)(ch:Ch [d] μ B)(gd:B[d]?=aa (.d ((us++[v]).map vJ)))(t:B[v.s]?=aa v.seat)(r:B[v.c]?=aa (iy v.st v.ts))(o:B[v.h]?=aa (v.house x y z E D))(n1:μ.length<=v.s)(n2:μ.length<=v.h):dS B w I H g d x y z E D C (us++[v]) G ps:=by
 have out:∀{j:Nat}{a:MO},μ[j]?=aa a->(∀l,a≠.d l)->B[j]?=aa a:=λ{j a} e n=>ch.get e (by simpa using zk e W.dc (n _));have f:∀{j:Nat}{a:MO},μ[j]?=aa a->(∀l,a≠.d l)->j∉[d]:=λ{j a} e n=>by simpa using zk e W.dc (n _)
 have lt:∀{j:Nat}{a:MO},μ[j]?=aa a->j<μ.length:=λe=>(aO.mp e).1;have mem:∀{q:Hr}{P:Hr->Prop},(∀u∈us,P u)->P v->q∈us++[v]->P q:=λ{q P} h1 h2 i=>by
  rcases bf.mp i with h|h
  .exact h1 q h
  .rw[aT.mp h];exact h2
 refine⟨out W.wo (λ_ e=>by injection e),W.bk.ch ch (f W.bk.com (λ_ e=>by injection e)) (f W.bk.lst (λ_ e=>by injection e)) (λp m=>f (W.bk.at_ p m) (λ_ e=>by injection e)),out W.gv (λ_ e=>by injection e),gd,λq i=>mem (λu b=>out (W.se u b) (λ_ e=>by injection e)) t i,λq i=>mem (λu b=>out (W.cl u b) (λ_ e=>by injection e)) r i,λq i=>mem (λu b=>out (W.hs u b) (λ_ e=>by injection e)) o i,?_,?_,W.gg⟩
 .rw[bP];exact vr W.n1 λk=>by
   obtain⟨u,b,e⟩:=ba.mp k;have:=lt (W.se u b);lia
 .rw[bP];exact vr W.n2 λk=>by
   obtain⟨u,b,e⟩:=ba.mp k;have:=lt (W.hs u b);lia
theorem Wo{z:Key}(h:z∉kvs.map (·.1)):wA z t kvs=kvs++[(z,t)]:=by
 unfold wA;rw[if_neg];intro e;obtain⟨p,a,e⟩:=Av.mp e;exact h (ba.mpr ⟨p,a,by simpa using e⟩)
theorem ZS(q:∀j,Ch [] μ j->j.length=μ.length+1->j[μ.length]?=aa (zT ck .n .n)->K .n j):kR [.m μ.length,ck] (μ++[.obj 46 []]) K Z:=by
 refine⟨rfl,_,_,z5,dC,_,_,am z5,by show (1:Nat)<900;decide,_,_,am (am z5),by show (2:Nat)<900;decide,?_⟩;exact q _ (Ch.geS (Ch.geS (Ch.geS Ch.app Ch.set sC) Ch.set sC) Ch.set sC) sC (am (am (am z5)))
theorem MT:∀{us:List Hr}{z:ao},z∉us.map (·.ho)->(.inr z:Key)∉(us.map vJ).map (·.1):=λ{us z} h a=>by
 rw[bB] at a;obtain⟨u,b,e⟩:=ba.mp a;exact h (ba.mpr ⟨u,b,f_ e⟩)
section
variable {ks:List Kd}
structure fy(v:Vh):Prop where
 l:v.u.l=af
 m:v.u.m=af
 n:v.u.n=af
 kt:v.u.kt=.n
 bs:v.bs=[]
 la:v.la=af
theorem Wm.seat(M:Wm μ w H G g d x y z D C B vs E ps)(ch:Ch [d] μ j)(gd:j[d]?=aa (.d (((vs++[v]).map (·.u)).map vJ)))(m:j[v.u.s]?=aa v.u.seat)(l:j[v.u.c]?=aa (iy v.u.st v.u.ts))(k:j[v.u.h]?=aa (v.u.house x y z D C))(n1:μ.length<=v.u.s)(n2:μ.length<=v.u.h)(et:v.u.bt=.m v.b)(gb:j[v.b]?=aa (.l (v.bs.map X.btT)))(nb:μ.length<=v.b):Wm j w H G g d x y z D C B (vs++[v]) E ps:=by
 have mem:∀{q:Vh}{P:Vh->Prop},(∀u∈vs,P u)->P v->q∈vs++[v]->P q:=λ{q P} h1 h2 a=>by
  rcases bf.mp a with h|h
  .exact h1 q h
  .rw[aT.mp h];exact h2
 have h1:=zI M.W.bk.lst;have h2:=zI M.W.gv;refine⟨?_,λq a=>mem M.bt et a,λq a=>mem (λq a=>ch.get (M.bl q a) (by simpa using zk (M.bl q a) M.W.dc (λe=>by injection e))) gb a,?_,λq a=>mem M.bg ⟨lC,lC⟩ a⟩
 .rw[bP] at gd ⊢;exact M.W.seat ch gd m l k n1 n2
 .rw[bP];exact vr M.bn λi=>by
   obtain⟨u,f,e⟩:=ba.mp i;have:=zI (M.bl u f);lia
structure CJ(μ0 μ:Mem)(w cm gr g d dc t1:Nat)(x y z ah sd:Int)(ks:List Kd)(n ep:Nat)(vs:List Vh):Prop where
 M:Wm μ w cm gr g d x y z ah sd .n vs [] []
 cd:vs.map (·.u.cd)=(ks.take n).map Kd.cd
 nw:∀v∈vs,fy v/\μ0.length<=v.b
 ch:Ch [dc] μ0 μ
 hd:μ[dc]?=aa (.frd ep (ks.map wm))
 tb:μ[t1]?=aa (.tab 1)
 kd:∀k∈ks,fg μ k
theorem CJ.step{t1 ep n:Nat}{k:Kd}{r:Option T}{E:En}(C:CJ s μ w cm Y g d dc t1 x y z G D ks n ep vs)(hk:ks[n]?=aa k)(nd:(ks.map (·.ho)).Nodup)(hl:ks.length<=1000)(V:0<=G)(hs:0<=D)(d0:s.length<=d)(dd:dc<s.length)
  (hN:∀Q r B H,CJ s B w cm Y g d dc t1 x y z G D ks (n+1) ep H->N [aa (.m w),aa (aP x y z),aa (.int G),aa (.int D),aa (.m dc),Q,r] B) :
  zM [(zj 6 (uQ 46 kR [(bV uS clz11 clz10)])),(zy (zz 47 z_ clz0 [clz13])),(qE clz53 clz10 clz13)] [aa (.m w),aa (aP x y z),aa (.int G),aa (.int D),aa (.m dc),aa (.str k.ho),r] μ (E.turn N):=by
 obtain⟨M,cd,nw,ch,hd,tb,kd⟩:=C;have K:=aS hk;refine⟨_,_,.inr ⟨ep,hd⟩,Vd K nd,(ZS λm o R g1=>⟨rfl,?_⟩)⟩;have O:=M.W.ch0 o;refine⟨_,O.wo,(u6 O.wo g1 (o.get tb sC) V hs (.inl ⟨rfl,rfl,rfl⟩) (λv e=>z9 e) (λv e=>z9 e) λμ2 b F hb g2 Z X=>?_)⟩;have f:=Ch.geS o F sC;have q:=M.W.ch0 f;refine⟨_,_,_,q.wo,rfl,?_⟩;have new:k.ho∉(vs.map (·.u)).map (·.ho):=λL=>by
  have e1:(vs.map (·.u)).map (·.ho)=(ks.take n).map (·.ho):=by
   have:=congrArg (gS (·.1)) cd;rw[bB,bB] at this;rw[bB];exact this
  rw[e1] at L;have p:((ks.take n++[k]).map (·.ho)).Nodup:=by
   rw[show ks.take n++[k]=ks.take (n+1) by rw[dM,hk];rfl];exact nd.sublist ((l9 _ _).map _)
  rw[bP,gi] at p;exact p.2.2 k.ho L k.ho sC rfl
 have ul:vs.length<=1000:=by
  have:=congrArg fE cd;rw[aL,aL,g8] at this;lia
 refine⟨_,q.dc,by rw[aL,aL];unfold aB;lia,?_⟩;rw[Wo (MT new)];have dl:=(aO.mp M.W.dc).1;have P:((vs.map (·.u)).map vJ++[((.inr k.ho),T.m μ.length)])=((vs++[(⟨⟨k.ho,μ.length,k.c,m.length,k.st,k.ts,af,af,af,.m b,.n⟩,b,[],af⟩:Vh)]).map (·.u)).map vJ:=by rw[bP,bP];rfl
 have c2:=f.get (kd k K).ck sC;rw[P];generalize t:(⟨⟨k.ho,μ.length,k.c,m.length,k.st,k.ts,af,af,af,.m b,.n⟩,b,[],af⟩:Vh)=J;have i:∀{j:Nat}{a:MO},μ2[j]?=aa a->(∀l,a≠.d l)->(μ2.set d (.d (((vs++[J]).map (·.u)).map vJ)))[j]?=aa a:=λ{j a} e n=>by
  rw[aX (bd (zk e q.dc (n _)))];exact e
 refine hN _ _ _ (vs++[J]) ⟨?_,?_,?_,?_,?_,?_,?_⟩
 .refine M.seat (f.mono sC |>.trans Ch.set) (am q.dc) ?_ ?_ ?_ ?_ ?_ ?_ ?_ ?_<;>subst t
  .exact i g2 (λ_ e=>by injection e)
  .exact i c2 (λ_ e=>by injection e)
  .exact i Z (λ_ e=>by injection e)
  .exact aK _
  .show μ.length<=m.length;lia
  .rfl
  .exact i X (λ_ e=>by injection e)
  .show μ.length<=b;lia
 .rw[bP,cd,dM,hk,bP,<-t];rfl
 .intro u U;rcases bf.mp U with h|h
  .exact nw u h
  .rw[aT.mp h,<-t];exact⟨⟨rfl,rfl,rfl,rfl,rfl,rfl⟩,lC⟩
 .exact Ch.geS (ch.trans (f.mono sC)) Ch.set (by simpa using d0)
 .exact i (f.get hd sC) (λ_ e=>by injection e)
 .exact i (f.get tb sC) (λ_ e=>by injection e)
 .intro S A;have I:=kd S A;exact⟨I.h1,I.h2,i (f.get I.ck sC) (λ_ e=>by injection e)⟩
theorem UZ{t1:Nat}(W:dS μ w H G g d x y z E D .n [] [] [])(hd:μ[dc]?=aa (.frd ep (ks.map wm)))(I:ks.length<=1000)(hk:∀k∈ks,fg μ k)(nd:(ks.map (·.ho)).Nodup)(ht:μ[t1]?=aa (.tab 1))(J:0<=E)(hs:0<=D)(d0:B.length<=d)(dd:dc<B.length)(ch0:Ch [dc] B μ)
  (q:∀s vs,Wm s w H G g d x y z E D .n vs [] []->vs.map (·.u.cd)=ks.map Kd.cd->(∀v∈vs,fy v/\B.length<=v.b)->Ch [dc] B s->K .n s) :
  zM (zY.drop 8) [aa (.m w),aa (aP x y z),aa (.int E),aa (.int D),aa (.m dc),af,af] μ (En.fn K Z):=by
 have out:∀{c j:Nat}{a:MO},μ[j]?=aa a->(∀e l,a≠.frd e l)->(μ.set dc (.frd c (ks.map wm)))[j]?=aa a:=λ{c j a} e n=>by
  rw[aX (bd (zk e hd (n _ _)))];exact e
 refine⟨_,.inr ⟨ep,hd⟩,λc=>?_⟩;have C0:CJ B (μ.set dc (.frd c (ks.map wm))) w H G g d dc t1 x y z E D ks 0 c []:=by
  have o:∀{j:Nat}{a:MO},μ[j]?=aa a->(∀e l,a≠.frd e l)->j∉[dc]:=λ{j a} e n=>by simpa using zk e hd (n _ _)
  have ch:Ch [dc] μ (μ.set dc (.frd c (ks.map wm))):=Ch.set;refine⟨⟨⟨out W.wo (λ_ _ e=>by injection e),W.bk.ch ch (o W.bk.com (λ_ _ e=>by injection e)) (o W.bk.lst (λ_ _ e=>by injection e)) sC,out W.gv (λ_ _ e=>by injection e),out W.dc (λ_ _ e=>by injection e),sC,sC,sC,W.n1,W.n2,W.gg⟩,sC,sC,sC,sC⟩,rfl,sC,ch0.trans ch,am hd,out ht (λ_ _ e=>by injection e),λk t=>?_⟩;have A:=hk k t;exact⟨A.h1,A.h2,out A.ck (λ_ _ e=>by injection e)⟩
 rw[bB];refine zL (λn p s=>∃vs m i,p=[aa (.m w),aa (aP x y z),aa (.int E),aa (.int D),aa (.m dc),m,i]/\CJ B s w H G g d dc t1 x y z E D ks n c vs) ⟨[],_,_,rfl,C0⟩ ?_ ?_ ?_
 .rintro n u p s f ⟨vs,m,i,rfl,C⟩ N L;rw[bH] at f;cases h:ks[n]? with
  |none=>rw[h] at f;exact z9 f
  |some k=>
   rw[h] at f;(injection f with f;subst f);exact⟨_,rfl,(C.step h nd I J hs d0 dd λm i F r O=>L _ _ ⟨r,m,i,rfl,O⟩)⟩
 .rintro p s ⟨vs,m,i,rfl,C⟩;rw[aL] at C;have cd:=C.cd;rw[eH (aK _)] at cd;exact q s vs C.M cd C.nw C.ch
 .rintro n p s ⟨vs,m,i,rfl,C⟩;exact C.hd
theorem MA{t1:Nat}(hw:μ[w]?=aa (MO.obj 47 [(9,aP x y z),(14,.int B),(15,.int s)]))(N:C.length<=w)(hd:μ[dc]?=aa (.frd ep (ks.map wm)))(O:ks.length<=1000)(hk:∀k∈ks,fg μ k)(nd:(ks.map (·.ho)).Nodup)(ht:μ[t1]?=aa (.tab 1))(Q:0<=B)(hs:0<=s)(dd:dc<C.length)(ch0:Ch [dc] C μ)
  (q:∀D vs U M g d,Wm D w U M g d x y z B s .n vs [] []->vs.map (·.u.cd)=ks.map Kd.cd->(∀v∈vs,fy v/\C.length<=v.b)->C.length<=M->C.length<=g->C.length<=d->Ch [dc] C D->K .n D) :
  zM (zY.drop 4) [aa (.m w),aa (aP x y z),aa (.int B),aa (.int s),aa (.m dc),af,af] μ (En.fn K Z):=by
 have L:=(aO.mp hw).1;refine uf ⟨rfl,?_⟩;have m:(μ++[MO.obj 43 [(9,aP x y z),(10,.m (μ.length+1))],.l []])[w]?=aa (MO.obj 47 [(9,aP x y z),(14,.int B),(15,.int s)]):=(cE L)▸hw;refine⟨_,_,m,by show (3:Nat)<900;decide,?_⟩;have h:=am (y:=MO.obj 47 [(9,aP x y z),(14,.int B),(15,.int s),(23,.m μ.length)]) m;have G:Ch [w] μ ((μ++[MO.obj 43 [(9,aP x y z),(10,.m (μ.length+1))],.l []]).set w (MO.obj 47 [(9,aP x y z),(14,.int B),(15,.int s),(23,.m μ.length)])):=⟨sC,λj P t=>by
  have t:j≠w:=by simpa using t
  rw[aX (bd t),cE P]⟩
 have J:((μ++[MO.obj 43 [(9,aP x y z),(10,.m (μ.length+1))],.l []]).set w (MO.obj 47 [(9,aP x y z),(14,.int B),(15,.int s),(23,.m μ.length)])).length=μ.length+2:=by simp
 have F:((μ++[MO.obj 43 [(9,aP x y z),(10,.m (μ.length+1))],.l []]).set w (MO.obj 47 [(9,aP x y z),(14,.int B),(15,.int s),(23,.m μ.length)]))[μ.length]?=aa (MO.obj 43 [(9,aP x y z),(10,.m (μ.length+1))]):=by
  rw[aX lC,dL (aK _)];simp
 have E:((μ++[MO.obj 43 [(9,aP x y z),(10,.m (μ.length+1))],.l []]).set w (MO.obj 47 [(9,aP x y z),(14,.int B),(15,.int s),(23,.m μ.length)]))[μ.length+1]?=aa (.l []):=by
  rw[aX lC,dL lC];simp
 suffices H:∀c:Mem,c[w]?=aa (MO.obj 47 [(9,aP x y z),(14,.int B),(15,.int s),(23,.m μ.length)])->Ch [w] μ c->c.length=μ.length+2->c[μ.length]?=aa (MO.obj 43 [(9,aP x y z),(10,.m (μ.length+1))])->c[μ.length+1]?=aa (.l [])->zM (zY.drop 5) [aa (.m w),aa (aP x y z),aa (.int B),aa (.int s),aa (.m dc),af,af] c (En.fn K Z) from H _ h G J F E
 intro c h G J F E;refine⟨_,_,z3 h,by show (4:Nat)<900;decide,_,_,am (z3 h),by show (5:Nat)<900;decide,?_⟩;have i:=am (y:=MO.obj 47 [(9,aP x y z),(14,.int B),(15,.int s),(23,.m μ.length),(24,.m c.length),(25,.n)]) (am (y:=MO.obj 47 [(9,aP x y z),(14,.int B),(15,.int s),(23,.m μ.length),(24,.m c.length)]) (z3 (x:=MO.l []) h));have o:Ch [w] c (((c++[MO.l []]).set w (MO.obj 47 [(9,aP x y z),(14,.int B),(15,.int s),(23,.m μ.length),(24,.m c.length)])).set w (MO.obj 47 [(9,aP x y z),(14,.int B),(15,.int s),(23,.m μ.length),(24,.m c.length),(25,.n)])):=((Ch.app.mono sC).trans Ch.set).trans Ch.set;have I:(((c++[MO.l []]).set w (MO.obj 47 [(9,aP x y z),(14,.int B),(15,.int s),(23,.m μ.length),(24,.m c.length)])).set w (MO.obj 47 [(9,aP x y z),(14,.int B),(15,.int s),(23,.m μ.length),(24,.m c.length),(25,.n)])).length=c.length+1:=by simp
 have A:(((c++[MO.l []]).set w (MO.obj 47 [(9,aP x y z),(14,.int B),(15,.int s),(23,.m μ.length),(24,.m c.length)])).set w (MO.obj 47 [(9,aP x y z),(14,.int B),(15,.int s),(23,.m μ.length),(24,.m c.length),(25,.n)]))[c.length]?=aa (.l []):=by
  rw[aX lC,aX lC];exact z5
 suffices H:∀f:Mem,f[w]?=aa (MO.obj 47 [(9,aP x y z),(14,.int B),(15,.int s),(23,.m μ.length),(24,.m c.length),(25,.n)])->Ch [w] c f->f.length=c.length+1->f[c.length]?=aa (.l [])->zM (zY.drop 7) [aa (.m w),aa (aP x y z),aa (.int B),aa (.int s),aa (.m dc),af,af] f (En.fn K Z) from H _ i o I A
 intro f i o I A;refine⟨_,_,z3 i,by show (6:Nat)<900;decide,?_⟩;have p:Ch [w] f ((f++[MO.d []]).set w (kg x y z B s μ.length c.length f.length .n)):=(Ch.app.mono sC).trans Ch.set;have R:((f++[MO.d []]).set w (kg x y z B s μ.length c.length f.length .n))[f.length]?=aa (.d []):=by
  rw[aX lC];exact z5
 have all:=(G.trans o).trans p;have r:∀{j:Nat}{a:MO},μ[j]?=aa a->a≠MO.obj 47 [(9,aP x y z),(14,.int B),(15,.int s)]->j∉[w]:=λ{j a} e n=>by simpa using zk e hw n
 have W:dS ((f++[MO.d []]).set w (kg x y z B s μ.length c.length f.length .n)) w μ.length (μ.length+1) c.length f.length x y z B s .n [] [] []:=
  ⟨(am (y:=kg x y z B s μ.length c.length f.length .n) (z3 (x:=MO.d []) i)),⟨(o.trans p).get F (by simp;lia),(o.trans p).get E (by simp;lia),sC,sC⟩,p.get A (by simp;lia),R,sC,sC,sC,sC,sC,lC⟩
 refine UZ W (all.get hd (r hd (λe=>by injection e))) O (λk l=>⟨(hk k l).h1,(hk k l).h2,all.get (hk k l).ck (r (hk k l).ck (λe=>by cases e))⟩) nd (all.get ht (r ht (λe=>by injection e))) Q hs lC dd (Ch.geS ch0 all (by simpa using N)) λD vs X V T S=>q D vs _ _ _ _ X V T lC lC lC S
theorem IE{t1:Nat}(ho:μ[dc]?=aa (.d (ks.map wm)))(p:ks≠[])(o:ks.length<=1000)(hk:∀k∈ks,fg μ k)(nd:(ks.map (·.ho)).Nodup)(ht:μ[t1]?=aa (.tab 1))(r:0<=s)(hs:0<=B)
  (q:∀j vs D C g d,Wm j μ.length D C g d x y z s B .n vs [] []->vs.map (·.u.cd)=ks.map Kd.cd->(∀v∈vs,fy v/\μ.length<=v.b)->μ.length<=C->μ.length<=g->μ.length<=d->Ch [dc] μ j->K .n j) :
  jV [.m μ.length,aP x y z,.int s,.int B,.m dc] (μ++[.obj 47 []]) K Z:=by
 have dl:=(aO.mp ho).1;refine⟨rfl,(uY (z3 ho) p o (λk a=>⟨(hk k a).h1,(hk k a).h2,z3 (hk k a).ck⟩) nd λep=>?_)⟩;have f:((μ++[MO.obj 47 []]).set dc (.frd ep (ks.map wm)))[μ.length]?=aa (.obj 47 []):=by rw[aX lC];exact z5
 have l:((μ++[MO.obj 47 []]).set dc (.frd ep (ks.map wm)))[dc]?=aa (.frd ep (ks.map wm)):=am (z3 ho);have ch0:Ch [dc] μ ((μ++[MO.obj 47 []]).set dc (.frd ep (ks.map wm))):=(Ch.app.mono sC).trans Ch.set;refine⟨_,_,f,dC,_,_,am f,by show (1:Nat)<900;decide,_,_,am (am f),by show (2:Nat)<900;decide,?_⟩;have m:∀h:Mem,Ch [dc] μ h->∀k∈ks,fg h k:=λh c k a=>⟨(hk k a).h1,(hk k a).h2,c.get (hk k a).ck (by simpa using zk (hk k a).ck ho (λe=>by injection e))⟩;have n:=Ch.geS (Ch.geS (Ch.geS ch0 (Ch.set (i:=μ.length) (x:=MO.obj 47 [(9,aP x y z)])) sC) (Ch.set (i:=μ.length) (x:=MO.obj 47 [(9,aP x y z),(14,.int s)])) sC) (Ch.set (i:=μ.length) (x:=MO.obj 47 [(9,aP x y z),(14,.int s),(15,.int B)])) sC;refine MA (ep:=ep) (am (am (am f))) (aK _) ?_ o (m _ n) nd (n.get ht (by simpa using zk ht ho (λe=>by injection e))) r hs dl n q;rw[aX lC,aX lC,aX lC];exact l
end
theorem Fx(h0:0<=v)(h1:v<3)(c:-40<=a)(hb:-40<=b):∃w:Int,qS [T.int 0,.int a,.int b] v=aa (.int w) /\ -40<=w:=by
 have:v=0\/v=1\/v=2:=by lia
 rcases this with rfl|rfl|rfl
 .exact⟨0,rfl,lC⟩
 .exact⟨a,rfl,c⟩
 .exact⟨b,rfl,hb⟩
theorem GH(h0:0<=v)(h1:v<2)(b:-40<=a):∃w:Int,qS [T.int 0,.int a] v=aa (.int w) /\ -40<=w:=by
 have:v=0\/v=1:=by lia
 rcases this with rfl|rfl
 .exact⟨0,rfl,lC⟩
 .exact⟨a,rfl,b⟩
structure Dn(st:Int)(ts:List Tn):Prop where
 r:Xj ts
 l:ts.length<=3
 s0:-1000<=st
 t0:∀p∈ts,-1000<=p.2.1
theorem M0(hs:St μ i)(hb:-500<=bg)(q:∀st ts s,Dn st ts->Cl μ i s ts->K (.t [.int st,.m μ.length]) s):jo [.m i,.int bg] μ K Z:=by
 have hi:i<μ.length:=by
  obtain⟨a,b,c,h⟩:=hs;exact (aO.mp h).1
 have M:Cl μ i (μ++[.l []]) []:=by
  obtain⟨a,b,c,h⟩:=hs;refine⟨hi,sC,λj h1 h2=>?_,⟨a,b,c,z3 h⟩,z5⟩;rw[cE lC]
 refine⟨rfl,(zt M.st dC dC λv1 T a1 b1 J=>zt J.st dC dC λv2 S a2 b2 X=>⟨⟨lC,lC⟩,?_⟩)⟩;refine zL (λn m s=>∃ts d z y,m=[aa (.m i),aa (.int bg),aa (.m μ.length),aa (.int d),z,y] /\ -505<=d/\Xj ts/\(∀p∈ts,p.1<d /\ -1000<=p.2.1)/\ts.length=n/\Cl μ i s ts) ⟨[],_,_,_,rfl,lC,.nil,sC,rfl,((M.up J).up X)⟩ ?_ ?_
 .rintro n x m r Y ⟨ts,d,z,y,rfl,h5,A,hb,C,g⟩ N hN;obtain⟨rfl,hnm⟩:=Vy Y;refine⟨_,rfl,(zt g.st dC dC λt o a6 b6 f=>zt f.st dC dC λI e P O l=>zt l.st dC dC λv8 R a8 b8 W=>?_)⟩;obtain⟨w,E,U⟩:=Fx (a:=t) (b:=0-I) a8 b8 lC lC;refine⟨_,E,?_⟩;have F:=((g.up f).up l).up W;refine⟨⟨_,F.ls⟩,(zt F.st dC dC λH Q a9 b9 V=>?_)⟩;have L:=F.up V;refine⟨_,L.ls,by rw[aL];unfold aB;lia,?_⟩;have k:=L.app (p:=(d,d+w,decide (0<H)));refine zt k.st dC dC λu G a11 b11 v=>hN _ _ ⟨ts++[(d,d+w,decide (0<H))],d+1+u,_,_,rfl,lC,?_,?_,by simp[C],k.up v⟩
  .unfold Xj;rw[mh];exact⟨A,Bs _ _,λa ha b D=>aT.mp D▸(hb a ha).1⟩
  .intro p B;rcases bf.mp B with h|h
   .have:=hb p h;lia
   .rw[aT.mp h];exact⟨lC,lC⟩
 .rintro m r ⟨ts,d,z,y,rfl,h5,A,hb,C,g⟩;rw[uk] at C;refine zt g.st dC dC λt o a6 b6 f=>zt f.st dC dC λI e P O l=>?_;obtain⟨w,E,U⟩:=GH (a:=t-4) P O lC;exact⟨_,E,(q w ts e ⟨A,lC,lC,λp B=>(hb p B).2⟩ ((g.up f).up l))⟩
set_option tactic.hygienic true in
theorem Dn.low(d:Dn st ts)(h:0<=t):-1000000000000000<=qB st ts t:=by
 have s0:=d.s0;unfold qB;split
 .rename_i p a;have h1:=d.t0 p (AB.mp (List.mem_of_find?_eq_some a));have h2:p.1<=t:=by simpa using List.find?_some a
  split<;>lia
 .lia
theorem Kt{p:Tn}{t:Int}:qB st (ts++[p]) t=if p.1<=t then p.2.1+(if p.2.2 then t-p.1 else 0) else qB st ts t:=by
 unfold qB;rw[List.reverse_append];show (match (p::ts.reverse).find? _ with|some p=>_|none=>_)=_;rw[mY];by_cases h:p.1<=t
 .rw[decide_eq_true h,if_pos h]
 .rw[decide_eq_false h,if_neg h]<;>rfl
theorem KD(h:μ[j]?=aa (.l (ts.map qc)))(q:K (.int (qB st ts t)) μ):xh [.t [.int st,.m j],.int t] μ K Z:=by
 refine⟨rfl,_,rfl,_,h,(zL (λn i d=>d=μ/\∃m l k,i=[aa (.t [.int st,.m j]),aa (.int t),aa (.int st),aa (.m j),aa (.int (qB st (ts.take n) t)),m,l,k]) ⟨rfl,_,_,_,rfl⟩ ?_ ?_ ?_)⟩
 .rintro n u i d f ⟨rfl,m,l,k,rfl⟩ N r;rw[bH] at f;cases o:ts[n]? with
  |none=>rw[o] at f;exact z9 f
  |some p=>
   rw[o] at f;(injection f with f;subst f);refine⟨_,rfl,?_⟩;have e:qB st (ts.take (n+1)) t=if p.1<=t then p.2.1+(if p.2.2 then t-p.1 else 0) else qB st (ts.take n) t:=by
    rw[dM,o];exact Kt
   refine zA (λg=>?_) (λg=>?_)
   .rw[if_pos g] at e;obtain⟨a,b,c⟩:=p;cases c with
    |true=>
     have e:qB st (ts.take (n+1)) t=b+(t-a)*1:=by rw[e,Int.mul_one];rfl
     refine⟨.inr ⟨(by show -big<(1:Int);decide),(by show (1:Int)<big;decide)⟩,?_⟩;refine r _ _ ?_;rw[e];exact⟨rfl,_,_,_,rfl⟩
    |false=>
     have e:qB st (ts.take (n+1)) t=b+(t-a)*0:=by rw[e,Int.mul_zero];rfl
     refine⟨.inr ⟨(by show -big<(0:Int);decide),(by show (0:Int)<big;decide)⟩,?_⟩;refine r _ _ ?_;rw[e];exact⟨rfl,_,_,_,rfl⟩
   .rw[if_neg g] at e;refine r _ _ ?_;rw[e];exact⟨rfl,_,_,_,rfl⟩
 .rintro i d ⟨rfl,m,l,k,rfl⟩;rw[aL,eH (aK _)];exact q
 .rintro n i d ⟨rfl,m,l,k,rfl⟩;exact h
section
variable {hs:List ao}
theorem Ng{k:Int}(h0:0<=k)(h1:k<hs.length):∃h∈hs,qS (hs.map T.str) k=aa (.str h):=by
 refine⟨hs[k.toNat]'lC,m5 _,?_⟩;rw[ki h0 (by simpa using h1),bH,dO lC];rfl
theorem Nh{v:Int}(h0:0<=v)(h1:v<y+1):∃t,qS ([T.n]++(dm y.toNat).map λ(n:Nat)=>T.int (n:Int)) v=aa t/\jk y t:=by
 have a:v<(([T.n]++(dm y.toNat).map λ(n:Nat)=>T.int (n:Int)).length):=by simp;lia
 rw[ki h0 a];by_cases e:v=0
 .subst e;exact⟨.n,rfl,.inl rfl⟩
 .refine⟨.int (v-1),?_,.inr ⟨v-1,rfl,lC,lC⟩⟩;rw[dL (by simp;lia),bH,Bi (by simp;lia)];simp only[BN,sA];rw[show (v.toNat-1:Nat)=v-1 by lia]
theorem Wu(st:St μ i)(l1:1<=hs.length)(l8:hs.length<=8)(y1:1<=y)(y4:y<=4)(z1:1<=z)(u:z<=12)
  (q:∀row wd ho j,ho∈hs->Rw y z t ho wd row->Up μ i j->K row j):xP [.m i,.int t,.l (hs.map T.str),.t [.int x,.int y,.int z]] μ K Z:=by
 refine⟨rfl,(zt st (by rw[aL];lia) (by rw[aL];lia) λH s E m l=>?_)⟩;rw[aL] at m;obtain⟨ho,a,w⟩:=Ng E m;refine⟨_,w,(zt l.st dC dC λc r N J k=>⟨_,rfl,?_⟩)⟩;refine zt k.st (by split<;>lia) (by split<;>lia) λe p M C g=>?_;have b:1+e<=z/\1+e<=12:=by
  split at C<;>(constructor<;>lia)
 have U:=(l.trans k).trans g;refine zA (λh=>?_) (λh=>?_)
 .refine⟨_,rfl,⟨lC,lC⟩,by simp;unfold aB;lia,_,rfl,?_⟩;refine zt g.st lC lC λG o D B f=>?_;obtain⟨th,A,d⟩:=Nh D B;exact⟨_,A,(zt f.st dC dC λF n L I v=>q _ "lease" ho _ a (.ls rfl d lC) ((U.trans f).trans v))⟩
 .refine zA (λh=>?_) (λh=>?_)
  .exact q _ "ask" ho _ a (.nn (.inl rfl) lC b.1 b.2) U
  .refine zA (λh=>?_) (λh=>?_)
   .have:c=7\/c=8:=by lia
    rcases this with rfl|rfl
    .exact⟨_,rfl,q _ "store" ho _ a (.nn (.inr (.inl rfl)) lC b.1 b.2) U⟩
    .exact⟨_,rfl,q _ "take" ho _ a (.nn (.inr (.inr rfl)) lC b.1 b.2) U⟩
   .have:c=9\/c=10\/c=11:=by lia
    rcases this with rfl|rfl|rfl
    .exact⟨_,rfl,q _ "back" ho _ a (.th (.inl rfl)) U⟩
    .exact⟨_,rfl,q _ "fall" ho _ a (.th (.inr (.inl rfl))) U⟩
    .exact⟨_,rfl,q _ "bare" ho _ a (.th (.inr (.inr rfl))) U⟩
structure Re where
 t:Int
 ho:ao
 wd:ao
 row:T
structure Dr(y z t0 t1:Int)(hs:List ao)(rl:List Re):Prop where
 rw:∀e∈rl,Rw y z e.t e.ho e.wd e.row
 ho:∀e∈rl,e.ho∈hs
 tm:∀e∈rl,t0<=e.t/\e.t<=t1
 up:rl.Pairwise λa b=>a.t<=b.t
theorem Ia{v a b:Int}(h0:0<=v)(h1:v<3)(c:0<=a)(hb:0<=b):∃w:Int,qS [T.int 0,.int a,.int b] v=aa (.int w)/\0<=w:=by
 have:v=0\/v=1\/v=2:=by lia
 rcases this with rfl|rfl|rfl
 .exact⟨0,rfl,lC⟩
 .exact⟨a,rfl,c⟩
 .exact⟨b,rfl,hb⟩
theorem ZO{cs:List Int}{t0:Int}(cl:cs.length<=41)(l1:1<=hs.length)(l8:hs.length<=8)(y1:1<=y)(y4:y<=4)(z1:1<=z)(k:z<=12)
  (q:∀B t1 s j,Dr y z t0 t1 hs B->B.length<=49->μ.length<=j->Ch [] μ s->s[j]?=aa (.l (B.map (·.row)))->K (.m j) s):k8 [.l (cs.map T.int),.l (hs.map T.str),.t [.int x,.int y,.int z],.int t0] μ K Z:=by
 refine⟨rfl,by rw[aL];unfold aB;lia,?_⟩;refine zH T.str (λh=>aa (i2 "lease" t0 h .n 12)) (λp hp kk v=>⟨_,rfl,v⟩) ?_ trivial;rw[gu];have e0:hs.map (λh=>i2 "lease" t0 h .n 12)=(hs.map λh=>(⟨t0,h,"lease",i2 "lease" t0 h .n 12⟩:Re)).map (·.row):=by rw[bB];rfl
 have D0:Dr y z t0 t0 hs (hs.map λh=>⟨t0,h,"lease",i2 "lease" t0 h .n 12⟩):=by
  refine⟨λe d=>?_,λe d=>?_,λe d=>?_,?_⟩
  .obtain⟨h,_,rfl⟩:=ba.mp d;exact .ls rfl (.inl rfl) dC
  .obtain⟨h,t,rfl⟩:=ba.mp d;exact t
  .obtain⟨h,_,rfl⟩:=ba.mp d;exact⟨d6 _,d6 _⟩
  .rw[ij];exact List.pairwise_of_forall λ_ _=>d6 _
 have w:=e0;rw[w];refine zL (λn i s=>∃B f o m,i=[aa (.l (cs.map T.int)),aa (.l (hs.map T.str)),aa (.t [.int x,.int y,.int z]),aa (.int f),aa (.m μ.length),o,m]/\Dr y z t0 f hs B/\B.length=hs.length+n/\Ch [] μ s/\s[μ.length]?=aa (.l (B.map (·.row)))) ⟨_,_,_,_,rfl,D0,sC,Ch.app,z5⟩ ?_ ?_
 .rintro n u i s F ⟨B,f,o,m,rfl,D,r,ch,g⟩ N Y;have hn:n<cs.length:=by have:=(aO.mp F).1;rwa[aL] at this
  obtain⟨c,rfl⟩:∃c,u=T.int c:=by
   obtain⟨c,_,e⟩:=ba.mp (aS F);exact⟨c,e.symm⟩
  have S:=(aO.mp g).1;refine⟨_,rfl,(k_ λd1 d2=>zt ⟨d1,d2,0,z5⟩ dC dC λv1 O a1 b1 E=>zt E.st dC dC λv2 M a2 b2 C=>?_)⟩;refine zt C.st dC dC λv3 L a3 b3 A=>?_;obtain⟨I,ed,d0⟩:=Ia a3 b3 a1 a2;refine⟨_,ed,?_⟩;have U:=(E.trans C).trans A;have H:=(U.ot _ lC).trans (z3 g);refine⟨⟨_,H⟩,(Wu A.st l1 l8 y1 y4 z1 k λrow P R J t Q l=>?_)⟩;have G:=(l.ot _ lC).trans H;refine⟨_,G,by rw[aL];unfold aB;lia,?_⟩;refine Y _ _ ⟨B++[⟨f+I,R,P,row⟩],f+I,_,_,rfl,⟨λe d=>?_,λe d=>?_,λe d=>?_,?_⟩,by simp;lia,Ch.geS (ch.trans ⟨by rw[(U.trans l).len];simp,λj V _=>((U.trans l).ot j lC).trans (cE V)⟩) Ch.set sC,?_⟩
  .rcases bf.mp d with h|h
   .exact D.rw e h
   .rw[aT.mp h];exact Q
  .rcases bf.mp d with h|h
   .exact D.ho e h
   .rw[aT.mp h];exact t
  .rcases bf.mp d with h|h
   .have:=D.tm e h;constructor<;>lia
   .rw[aT.mp h];have:t0<=f:=by
     cases hs with
     |nil=>simp at l1
     |cons h0 hs=>
      have:0<B.length:=by rw[r];simp;lia
      have:=D.tm B[0] (m5 this);lia
    exact⟨lC,d6 _⟩
  .rw[mh];exact⟨D.up,Bs _ _,λa X b W=>by rw[aT.mp W];have:=(D.tm a X).2;lia⟩
  .rw[bP];exact am G
 .rintro i s ⟨B,f,o,m,rfl,D,r,ch,g⟩;rw[aL] at r;exact q B f s _ D lC (aK _) ch g
end
structure Cw where
 ho:ao
 st:Int
 ts:List Tn
 j:Nat
noncomputable abbrev ve(c:Cw):Key×T:=(.inr c.ho,.t [.int c.st,.m c.j])
noncomputable abbrev Cw.cd(c:Cw):Cd:=(c.ho,c.st,c.ts)
theorem Xw:∀{ks:List Cw}{k:Cw},k∈ks->(ks.map (·.ho)).Nodup->zr (.inr k.ho) (ks.map ve)=aa (.t [.int k.st,.m k.j])
 |[],_,h,_=>by contradiction
 |v::r,k,h,n=>by
  rw[cC,g7] at n;show zr _ (ve v::r.map ve)=_;unfold zr;rcases bC.mp h with rfl|h
  .rw[if_pos rfl]
  .rw[if_neg (λe=>n.1 (ba.mpr ⟨k,h,(f_ e).symm⟩))];exact Xw h n.2
section
variable {i:Nat}{vs:List Vh}{cw:List Cw}
noncomputable abbrev fX(e:E3):T:=.t [.int e.1,.str e.2.1,.int e.2.2]
theorem VD:∀(a:List E3),bK (a.map fX) (a.map fX)=aa ae
 |[]=>by simp[bK]
 |e::r=>by
  have h:eqT (fX e) (fX e)=aa ae:=by simp[eqT,bK]
  rw[cC,bK,h,VD r];rfl
theorem VE:∀(a:List E3),q9 (a.map fX)<=1
 |[]=>by simp[q9]
 |e::r=>by
  have h:wU (fX e)<=1:=by simp[wU,q9]
  have:=VE r;rw[cC,q9];lia
theorem L7(M:dS μ w C B g d x y z D s j us u ps)(a:ps.length<=1000)(q:K (.l (ps.map λp=>p.2.row)) μ):w9 [.m w] μ K Z:=by
 exact⟨rfl,_,_,_,M.wo,rfl,_,M.bk.com,(Kb M.bk a q)⟩
theorem LW(W:dS μ w C B g d x y z D u s us j ps)(q:K (.l j) μ):kn [.m w] μ K Z:=by
 exact⟨rfl,_,_,_,W.wo,rfl,_,W.gv,q⟩
theorem HV(h:vs.map (·.u.cd)=cw.map Cw.cd){ho:ao}(d:ho∈cw.map (·.ho)):∃(i:Nat) (v:Vh) (c:Cw),vs[i]?=aa v/\c∈cw/\c.cd=v.u.cd/\v.u.ho=ho:=by
 obtain⟨c,a,rfl⟩:=ba.mp d;have:c.cd∈vs.map (·.u.cd):=h▸ba.mpr ⟨c,a,rfl⟩;obtain⟨v,b,e⟩:=ba.mp this;obtain⟨i,f⟩:=dD.mp b;exact⟨i,v,c,f,a,e.symm,congrArg (·.1) e⟩
theorem pJ{l:List T}:¬gE (.l l):=λ⟨_,_,e⟩=>by injection e
theorem Rw.form(h:Rw y z t ho wd row):∃r,row=.t (.str wd::.int t::.str ho::r):=by
 cases h with
 |ls=>exact⟨_,rfl⟩
 |nn=>exact⟨_,rfl⟩
 |th=>exact⟨_,rfl⟩
theorem Rw.row93{ho:ao}(h:Rw y z t ho wd row):∃W hs k,b7 y z t ho wd W hs k row:=by
 cases h with
 |ls h1 h2 a=>exact⟨_,_,_,.ls h1 h2 a⟩
 |nn h h1 h2 a=>
  rcases h with e|e|e
  .exact⟨_,_,_,.ask e h1 h2 a⟩
  .exact⟨_,_,_,.sto e h1 h2 a⟩
  .exact⟨_,_,_,.tak e h1 h2 a⟩
 |th h=>
  rcases h with e|e|e
  .exact⟨_,_,_,.bck e⟩
  .exact⟨_,_,_,.fal e⟩
  .exact⟨_,_,_,.bar e⟩
noncomputable abbrev hI(s0 k j:Option T)(x y z m e:Int)(i h:Option T)(l:Nat)(g f a:Option T)(w dd ll:Nat)(bt:T)(d c b:Option T):Sl:=[s0,k,j,aa (.t [.int x,.int y,.int z]),aa (.t [.int m,.int e]),i,h,aa (.m l),g,f,a,aa (.m w),aa (.m dd),aa (.m ll),aa bt,d,c,b]
inductive lJ(μ:Mem)(dd ll:Nat)(ks:List Gp)(qs:List Aq)(gr g d:Nat)(vs:List Vh)(es:List E3):T->Prop
 |l:lJ μ dd ll ks qs gr g d vs es (.l (es.map fX))
 |mu {bk:Nat}:μ[bk]?=aa (.l (es.map fX))->Fr gr g d vs bk->¬aW dd ll ks qs bk->lJ μ dd ll ks qs gr g d vs es (.m bk)
structure nS(μ:Mem)(w cm gr g d dd ll dk ep jr:Nat)(x y z ah sd:Int)(cw:List Cw)(rl:List Re)(now:T)(vs:List Vh)(ps ks:List Gp)(qs:List Aq)(es:List E3)(bt:T)(n:Nat):Prop where
 M:Wm μ w cm gr g d x y z ah sd now vs (es.map fX) ps
 I:cy x y z vs ps es
 nw:∀e∈rl.drop n,jB now e.t
 cd:vs.map (·.u.cd)=cw.map Cw.cd
 L:ey μ x dd ll ks qs
 ea:qs.map (·.1)=vs.map (Vh.abs y z)
 ek:ps.map (·.2)=ks.map (·.2)
 ow:∀j,aW dd ll ks qs j->Fr gr g d vs j
 hk:μ[dk]?=aa (.frd ep (cw.map ve))
 ht:∀c∈cw,μ[c.j]?=aa (.l (c.ts.map qc))/\Fr gr g d vs c.j/\¬aW dd ll ks qs c.j
 hr:μ[jr]?=aa (.l (rl.map (·.row)))
 fr:Fr gr g d vs jr/\¬aW dd ll ks qs jr
 hb:lJ μ dd ll ks qs gr g d vs es bt
 t0:μ[0]?=aa (.tab 0)
 t1:μ[1]?=aa (.tab 1)
 pl:ps.length<=n
 el:es.length<=12*n
 cl:∀q∈qs,q.2.cs.length<=n
 bl:∀v∈vs,v.bs.length<=n/\(X.nmB y z v.bs).length<=12*n
noncomputable abbrev t8:List Ds:=[(aN (tE (zm .NotEq (z4 Qp [clz27,clz26]) clz32)) [(zf clz9)] []),(aN (tE (w_ [5] clz32)) [(zj 14 (za .Add (eV 14) (qa 1 [15] (.one 0) (iE clz32) [] (zZ [clz35,clz39,clz0]))))] [])]
theorem Ml{s0 r p o n m l a b:Option T}{E:En}{N:Sl->Mem->Prop}{R:dH}(Z:f7 x y z C B)(V:b7 y z t v.u.ho wd W hs k row)(M:Wm μ w cm gr g d x y z C B G vs J ps)(I:cy x y z vs ps es)(hi:vs[i]?=aa v)(P:jB G t)(Q:J.length<=100000)(t0:μ[0]?=aa (.tab 0))(t1:μ[1]?=aa (.tab 1))(pl:ps.length<64)(bl:v.bs.length<=900)(nl:(X.nmB y z v.bs).length<=100000)(A:-1000000000000000<=v.u.rd t)
  (ek:ps.map (·.2)=ks.map (·.2)) (f:dW R H) (D:a_ x y z C B (v.u.rd t) (v.abs y z) ks W hs k R (v.abs y z) (ks.map (·.2)))
  (q:∀s,Ch [] μ s->N (hI s0 r p x y z C B o n U m l a w dd ll bt (aa row) b (aa H)) s) :
  zM t8 (hI s0 r p x y z C B o n U m l a w dd ll bt (aa row) b (aa H)) μ (E.turn N):=by
 refine YM M.W.wo λK' Z' kK K=>YI Z V M I hi P Q t0 t1 pl bl nl A (λnw j L v' F s O Y=>?_) (λR' c fs s S ch h=>?_)
 .have e:=(a_.one (a_.congr ek.symm D) Y.ex).1;subst e;contradiction
 .obtain⟨rfl,_,_⟩:=a_.one (a_.congr ek.symm D) S;refine K _ _ _ ?_;cases h with
  |ls=>cases f;exact .lease (q _ ch)
  |en=>cases f;exact .ended (q _ ch)
  |em=>cases f;exact .empty (q _ ch)
  |wt=>cases f;exact .wait ⟨by simp[q9,wU],_,LA,B8 sC (q _ ch)⟩
inductive fM(gr g d:Nat)(vs:List Vh)(μ:Mem)(xs:List T):T->Prop
 |l:fM gr g d vs μ xs (.l xs)
 |mu {j:Nat}:(∀μ',Kq gr g d vs μ μ'->μ'[j]?=aa (.l xs))->fM gr g d vs μ xs (.m j)
theorem L9{s0 O F A o n m b f:Option T}{E:En}{N:Sl->Mem->Prop}{L:List Int}{a':fN}{gs:List Gr}(Nn:f7 x y z G C)(Rr:b7 y z t v.u.ho wd W hs k row)(M:Wm μ w cm Y g d x y z G C U vs H ps)(I:cy x y z vs ps es)(hi:vs[i]?=aa v)(hn:jB U t)(hl:H.length<=100000)(t0:μ[0]?=aa (.tab 0))(t1:μ[1]?=aa (.tab 1))(pl:ps.length<64)(bl:v.bs.length<=900)(nl:(X.nmB y z v.bs).length<=100000)(rb:-1000000000000000<=v.u.rd t)
  (ek:ps.map (·.2)=ks.map (·.2)) (hT:fM Y g d vs μ (L.map T.int) J) (hB:fM Y g d vs μ H bt) (D:a_ x y z G C (v.u.rd t) (v.abs y z) ks W hs k (.nm L) a' gs)
  (q:∀nw j v' B s,jB nw t->fL (DC x y z G C (v.u.rd t) v ps W hs k) w cm Y g d x y z G C t nw (H++L.map (jY t v.u.ho)) vs ps i v wd μ s j L v' B->v'.abs y z=a'->B.map (·.2)=gs->N (hI s0 O F x y z G C A o dk n m b w dd ll (.l (H++L.map (jY t v.u.ho))) (aa row) f (aa J)) s) :
  zM t8 (hI s0 O F x y z G C A o dk n m b w dd ll bt (aa row) f (aa J)) μ (E.turn N):=by
 refine YM M.W.wo λK' Z' kK kZ=>YI Nn Rr M I hi hn hl t0 t1 pl bl nl rb (λnw j L' v' B s P a=>kK _ _ ?_) (λR' c fs s d' ch h=>?_)
 .obtain⟨R,e2,e3⟩:=a_.one (a_.congr ek.symm D) a.ex;(injection R with R;subst R);have Q:=q nw j v' B s P a e2.symm e3.symm;have ln:=a.ln;have dp:q9 (L.map T.int)<=40:=by rw[Qy];decide
  obtain⟨r,er⟩:∃r,row=.t (.str wd::.int t::.str v.u.ho::r):=by cases Rr<;>exact⟨_,rfl⟩
  subst er;have el:(L.filterMap λnm=>aa (jY t v.u.ho nm))=L.map (jY t v.u.ho):=by rw[gu]
  have V:(L.map T.int).length<=aB:=by rw[aL];unfold aB;lia
  have S:H.length+(L.map (jY t v.u.ho)).length<=aB:=by rw[aL];unfold aB;lia
  have add:∀(K:T->Mem->Prop) (Z:Xp),K (.l (H++L.map (jY t v.u.ho))) s->pw bt (.l (L.map (jY t v.u.ho))) s K Z:=λK Z q=>by
   cases hB with
   |l=>exact⟨S,q⟩
   |mu hb=>exact⟨_,hb _ a.kp,S,q⟩
  have book:zM [(zj 14 (za .Add (eV 14) (qa 1 [15] (.one 0) (iE clz32) [] (zZ [clz35,clz39,clz0]))))] (hI s0 O F x y z G C A o dk n m b w dd ll bt (aa (.t (.str wd::.int t::.str v.u.ho::r))) f (aa J)) s (E.turn N):=by
   cases hT with
   |l=>
    refine⟨V,(zH T.int (λnm=>aa (jY t v.u.ho nm)) (λp hp kk l=>⟨_,rfl,_,Vw,_,Q5,l⟩) ?_ trivial)⟩;rw[el];exact add _ _ Q
   |mu h=>
    refine⟨_,h _ a.kp,V,(zH T.int (λnm=>aa (jY t v.u.ho nm)) (λp hp kk l=>⟨_,rfl,_,Vw,_,Q5,l⟩) ?_ (h _ a.kp))⟩;rw[el];exact add _ _ Q
  cases hT with
  |l=>exact⟨_,a.hj,dp,_,uq _,book⟩
  |mu h=>exact⟨(_,_),⟨a.hj,h _ a.kp⟩,dp,_,uq _,_,h _ a.kp,book⟩
 .have e:=(a_.one (a_.congr ek.symm D) d').1;subst e;contradiction
end
theorem Ll(L:ey μ x dd ll ks s)(h:aW dd ll ks s j):j<μ.length:=let ⟨_,e,_⟩:=L.no h;zI e
theorem G_{o:MO}(L:ey μ x dd ll ks s)(h:aW dd ll ks s j)(e:μ[i]?=aa o)(n1:∀l,o≠.l l)(n2:∀l,o≠.d l):i≠j:=by
 cases h with
 |dd=>exact zk e L.dc (n2 _)
 |ll=>exact zk e L.lr.lst (n1 _)
 |ks h=>exact zk e (L.lr.at_ _ h) (n1 _)
 |di h=>exact zk e (L.h _ h).hd (n2 _)
 |ni h=>exact zk e (L.h _ h).hc (n1 _)
theorem iB.ot{o:MO}(A:iB μ j x dd ll ks u z s S)(ch:Ch S μ j)(e:μ[i]?=aa o)(h:¬aW dd ll ks z i):j[i]?=aa o/\¬aW dd ll u s i:=
 ⟨ch.get e λm=>h (A.2.2 _ m),λm=>(A.2.1 _ m).elim h λm=>by have:=zI e;lia⟩
theorem Hs{s0 s1 s2 s5 s6 s8 s9 s10 o16 Z:Option T}{E:En}{N:Sl->Mem->Prop}{e:Re}(Nn:f7 x y z ah sd)(y4:y<=4)(J:nS μ w cm gr g d dd ll dk ep jr x y z ah sd cw rl now vs ps ks Q es bt n)(he:rl[n]?=aa e)(R0:Rw y z e.t e.ho e.wd e.row)(hm:e.ho∈cw.map (·.ho))(nd:(cw.map (·.ho)).Nodup)(up:rl.Pairwise λa b=>a.t<=b.t)(rb:∀c∈cw,-1000000000000000<=qB c.st c.ts e.t)(n49:n<=49)(l8:Q.length<=8)
  (hN:∀Y now' vs' ps' ks' qs' es' bt' o16 Z,nS Y w cm gr g d dd ll dk ep jr x y z ah sd cw rl now' vs' ps' ks' qs' es' bt' (n+1)->qs'.length=Q.length->N (hI s0 s1 s2 x y z ah sd s5 s6 dk s8 s9 s10 w dd ll bt' (aa e.row) o16 Z) Y) :
  zM ((zj 16 (z4 xh [(bV uS clz17 (bq clz26 clz5)),(bq clz26 clz1)]))::(zj 17 (z4 zw [clz26,clz33,(eV 13),clz7,clz11,(eV 16)]))::t8) (hI s0 s1 s2 x y z ah sd s5 s6 dk s8 s9 s10 w dd ll bt (aa e.row) o16 Z) μ (E.turn N):=by
 obtain⟨x1,y1,y2,z1,z2⟩:=id Nn.s;obtain⟨M,I,nw,cd,L,ea,ek,ow,hk,ht,hr,fr,hb,t0,t1,pl,el,cl,bl⟩:=J;obtain⟨i,v,c,hi,C,ec,eh⟩:=HV cd hm;have vm:=aS hi;obtain⟨t,ho,wd,row⟩:=e;subst eh;obtain⟨W,hs,k,Rr⟩:=R0.row93;obtain⟨r,er⟩:=R0.form;have er:row=.t (.str wd::.int t::.str v.u.ho::r):=er;subst er;have ecr:qB c.st c.ts t=v.u.rd t:=by
  have G:c.st=v.u.st:=congrArg (λp:Cd=>p.2.1) ec;have h2:c.ts=v.u.ts:=congrArg (λp:Cd=>p.2.2) ec;rw[G,h2]
 have ech:c.ho=v.u.ho:=congrArg (λp:Cd=>p.1) ec;have emd:⟨t,v.u.ho,wd,.t (.str wd::.int t::.str v.u.ho::r)⟩∈rl.drop n:=by
  have:=List.getElem?_drop (xs:=rl) (i:=n) (j:=0);exact aS (this.trans he)
 obtain⟨p,hp,pa⟩:∃p,Q[i]?=aa p/\p.1=v.abs y z:=by
  have G:(Q.map (·.1))[i]?=aa (v.abs y z):=by rw[ea,bH,hi];rfl
  rw[bH] at G;cases U:Q[i]? with
  |none=>rw[U] at G;exact z9 G
  |some p=>rw[U] at G;exact⟨p,rfl,aZ G⟩
 have pm:=aS hp;have lk:zr (.inr v.u.ho) (cw.map ve)=aa (.t [.int c.st,.m c.j]):=ech▸Xw C nd;have lkl:ks.length<=n:=by have:=congrArg fE ek;rw[aL,aL] at this;lia
 have blv:=bl v vm;have nwl:∀{X:T},jB X t->∀V∈rl.drop (n+1),jB X V.t:=λhn' V he'=>by
  have le:t<=V.t:=by
   have hp:=up;rw[<-nv (n+1) rl,mh] at hp;refine hp.2.2 ⟨t,v.u.ho,wd,.t (.str wd::.int t::.str v.u.ho::r)⟩ ?_ V he';rw[dM,he];exact cD _ sC
  rcases hn' with h|⟨s,h,hs⟩
  .exact .inl h
  .exact .inr ⟨s,h,g_ hs le⟩
 have dsub:∀V∈rl.drop (n+1),V∈rl.drop n:=λV h=>by
  rw[<-List.drop_drop] at h;exact sG h
 refine⟨_,Q5,_,_,.inr ⟨ep,hk⟩,lk,_,Vw,(KD (ht c C).1 ?_)⟩;rw[ecr];have rbv:-1000000000000000<=v.u.rd t:=ecr▸rb c C;refine Gv Nn.s lC Nn.zb Rr L hp pa (I.v v vm) I.gd ek lC lC (by have:=cl p pm;lia) lC (λR tt H D hR ch=>?_) (λLm p' ks' tt S H D A ch cs hT=>?_)
 .have keep:∀{q:Nat}{o:MO},μ[q]?=aa o->H[q]?=aa o:=λh=>ch.get h sC;refine Ml Nn Rr (M.law ch sC) I hi (nw _ emd) (by rw[aL];lia) (keep t0) (keep t1) lC lC lC rbv ek hR D λO ch2=>?_;have chA:=ch.trans ch2;have B:∀{q:Nat}{o:MO},μ[q]?=aa o->O[q]?=aa o:=λh=>chA.get h sC;refine hN O now vs ps ks Q es bt _ _ ⟨M.law chA sC,I,λV h=>nw V (dsub V h),cd,L.keep λj o _ h _=>B h,ea,ek,ow,B hk,λc C=>⟨B (ht c C).1,(ht c C).2⟩,B hr,fr,?_,B t0,B t1,lC,lC,λq U=>by have:=cl q U;lia,λq U=>by have:=bl q U;constructor<;>lia⟩ rfl;cases hb with
  |l=>exact .l
  |mu h f o=>exact .mu (B h) f o
 .have ow1:∀j,aW dd ll ks' (Q.set i p') j->Fr gr g d vs j:=λj h=>(A.2.1 j h).elim (ow j) λh=>Fr.len M h;have no:∀{q:Nat}{o:MO},μ[q]?=aa o->(∀l,o≠.l l)->(∀l,o≠.d l)->¬aW dd ll ks Q q:=λh n1 n2 m=>G_ L m h n1 n2 rfl;have nt0:=no t0 (λ_ e=>by injection e) (λ_ e=>by injection e);have nt1:=no t1 (λ_ e=>by injection e) (λ_ e=>by injection e);have nhk:=no hk (λ_ e=>by injection e) (λ_ e=>by injection e);have k0:=A.ot ch t0 nt0;have k1:=A.ot ch t1 nt1;have kh:=A.ot ch hk nhk;have kr:=A.ot ch hr fr.2;have kt:=λc C=>A.ot ch (ht c C).1 (ht c C).2.2;have hT':fM gr g d vs H (Lm.map T.int) tt:=by
   cases hT with
   |l=>exact .l
   |mu G h2=>exact .mu λY k=>k.ot _ _ h2 pJ (Fr.len M G)
  have hB':fM gr g d vs H (es.map fX) bt:=by
   cases hb with
   |l=>exact .l
   |mu h f o=>exact .mu λY k=>k.ot _ _ (A.ot ch h o).1 pJ f
  have l2:(Q.set i p').length=Q.length:=lX;refine L9 Nn Rr (M.law ch λj hj=>⟨ow j (A.2.2 j hj),λo ho'=>by obtain⟨o',G,h2⟩:=L.no (A.2.2 j hj);rw[ho'] at G;(replace G:=zo G;subst G);exact h2⟩) I hi (nw _ emd) (by rw[aL];lia) k0.1 k1.1 lC lC lC rbv ek hT' hB' D λX j v' ps' O hn' K e2 e3=>?_;have F2:∀{q:Nat}{o:MO},H[q]?=aa o->Fr gr g d vs q->Fr gr g d (vs.set i v') q:=λh F=>K.fr _ (zI h) F;have keep:∀{q:Nat}{o:MO},H[q]?=aa o->¬gE o->Fr gr g d vs q->O[q]?=aa o:=λh n F=>K.kp.ot _ _ h n F;have lL:=K.ln;have rp:=K.pl;have rb1:=K.bl;have rn:=K.nl;have eE:(es++Lm.map λnm=>(t,v.u.ho,nm)).map fX=es.map fX++Lm.map (jY t v.u.ho):=by rw[bP,bB];rfl
  refine hN O X (vs.set i v') ps' ks' (Q.set i p') (es++Lm.map λnm=>(t,v.u.ho,nm)) _ _ _ ⟨eE▸K.M,K.I es I,nwl hn',?_,A.1.keep λj o m h no=>keep h no (ow1 j m),?_,e3,λj m=>?_,keep kh.1 (λ⟨_,_,e⟩=>by injection e) (Fr.of M hk (λ_ e=>by injection e) (λ_ e=>by injection e)),λc C=>⟨keep (kt c C).1 pJ (ht c C).2.1,F2 (kt c C).1 (ht c C).2.1,(kt c C).2⟩,keep kr.1 pJ fr.1,⟨F2 kr.1 fr.1,kr.2⟩,eE▸.l,keep k0.1 (λ⟨_,_,e⟩=>by injection e) (Fr.of M t0 (λ_ e=>by injection e) (λ_ e=>by injection e)),keep k1.1 (λ⟨_,_,e⟩=>by injection e) (Fr.of M t1 (λ_ e=>by injection e) (λ_ e=>by injection e)),lC,by rw[eX,aL];lia,λq U=>?_,λq U=>?_⟩ l2
  .rw[Kc hi (by unfold Hr.cd;rw[K.sm.ho,K.sm.st,K.sm.ts])];exact cd
  .rw[rF,rF,ea,e2]
  .exact K.fr _ (Ll A.1 m) (ow1 j m)
  .rcases vL (P:=λ_=>True) U with rfl|⟨j',n',hj'⟩
   .have:=cl p pm;lia
   .have:=cl q (aS hj');lia
  .rcases vL (P:=λ_=>True) U with rfl|⟨j',n',hj'⟩
   .constructor<;>lia
   .have:=bl q (aS hj');constructor<;>lia
section
variable {b0:Int}{cw:List Cw}
theorem Ge{s0 u r o m l k a e c b:Option T}(J:nS μ w Y U g d dd ll B ep Q x y z C s cw G D vs ps ks H j bt n)(O:n<=50)(q:K (.bl ae) μ) :
  zM (qu.drop 15) (hI s0 u r x y z C s o m B l k a w dd ll bt e c b) μ (En.fn K Z):=by
 have F:=J.pl;have I:ks.length=ps.length:=by have:=congrArg fE J.ek;rw[aL,aL] at this;lia
 have E:(ks.filterMap λp=>aa p.2.row)=ps.map λp=>p.2.row:=by
  rw[gu];have:=congrArg (gS Gr.row) J.ek;rw[bB,bB] at this;exact this.symm
 have f:kY (λ_ μ=>.ok (.bl ae) μ) (zm .Eq (zz 47 w9 clz27 []) (qa 1 [] (.one 0) (iE (eV 13)) [] (cB xk (hQ clz0 pN (pS clz15))))) (hI s0 u r x y z C s o m B l k a w dd ll bt e c b) μ K Z:=by
  refine⟨_,J.M.W.wo,(L7 J.M.W lC ?_)⟩;refine⟨_,J.L.lr.lst,by rw[aL];unfold aB;lia,?_⟩;refine zH Gp.t (λp=>aa p.2.row) (λp v N i=>⟨_,rfl,_,J.L.lr.at_ p v,i⟩) ?_ J.L.lr.lst;rw[E];exact⟨cf (W5 ps) dC,_,QQ ps,q⟩
 refine⟨_,J.M.W.wo,(LW J.M.W ?_)⟩;have A:=J.hb;cases A with
 |l=>exact⟨cf (VE j) dC,_,VD j,f⟩
 |mu h _ _=>exact⟨_,h,cf (VE j) dC,_,VD j,f⟩
theorem MS{α β:Type}{f:α->β}{xs:List α}{lo hi:Option Int}:wy (xs.map f) lo hi=(wy xs lo hi).map f:=by
 unfold wy;rw[aL,rH,wP]
theorem CV{α:Type}{xs:List α}:(wy xs (aa 5) (aa 35)).length<=30:=by
 unfold wy WI;simp;omega
structure lF(x y z ah sd b0:Int):Prop where
 x1:1<=x
 xb:x<=10000000000000
 y1:1<=y
 y4:y<=4
 z1:1<=z
 zb:z<=12
 a0:0<=ah
 d0:0<=sd
 b0:0<=b0
theorem lF.no(Q:lF x y z s j b0):f7 x y z s j:=by
 obtain⟨x1,xb,y1,y4,z1,zb,a0,d0,h0⟩:=Q;exact⟨⟨x1,y1,lC,z1,lC⟩,xb,zb,a0,d0⟩
noncomputable abbrev A0(h:ao):fN:=⟨h,af,af,af,[]⟩
theorem Hn{ns:List Int}{s1 s2 s8 s9 A X W V S R:Option T}(Q:lF x y z U E b0)(M:Wm μ w cm C g d x y z U E .n vs [] [])(I:cy x y z vs [] [])(nw:∀v∈vs,v.bs=[])(cd:vs.map (·.u.cd)=cw.map Cw.cd)(nd:(cw.map (·.ho)).Nodup)(l1:1<=cw.length)(l8:cw.length<=8)
  (hL:∀ll s,Ch [] μ s->s[ll]?=aa (.l [])->μ.length<=ll->ey s x dd ll [] B) (ow:∀p∈B,Fr C g d vs p.2.di/\Fr C g d vs p.2.ni/\p.2.di<μ.length/\p.2.ni<μ.length) (od:Fr C g d vs dd/\dd<μ.length) (q0:∀p∈B,p.2.cs=[]) (ea:B.map (·.1)=vs.map (Vh.abs y z))
  (hk:μ[Y]?=aa (.frd ep (cw.map ve))) (ht:∀c∈cw,(Dn c.st c.ts/\μ[c.j]?=aa (.l (c.ts.map qc)))/\Fr C g d vs c.j/\∀p∈B,c.j≠p.2.ni) (t0:μ[0]?=aa (.tab 0)) (t1:μ[1]?=aa (.tab 1)) (hdd:∃l,μ[dd]?=aa (.d l)) (hdi:∀p∈B,∃l,μ[p.2.di]?=aa (.d l)) (q:∀s,K (.bl ae) s) :
  zM (qu.drop 12) [aa (.l (ns.map T.int)),s1,s2,aa (.t [.int x,.int y,.int z]),aa (.t [.int U,.int E]),aa (.int b0),aa (.l ((cw.map (·.ho)).map T.str)),aa (.m Y),s8,s9,A,aa (.m w),aa (.m dd),X,W,V,S,R] μ (En.fn K Z):=by
 have chb:Ch [] μ (μ++[.l []]++[.l []]):=Ch.app.trans Ch.app;refine vp dC λG=>⟨by show 1+(wy (ns.map T.int) (aa 5) (aa 35)).length<=aB;have:=CV (xs:=ns.map T.int);unfold aB;lia,?_⟩;have ec:[T.int G]++wy (ns.map T.int) (aa 5) (aa 35)=(G::wy ns (aa 5) (aa 35)).map T.int:=by rw[MS];rfl
 have lc:(G::wy ns (aa 5) (aa 35)).length<=41:=by have:=CV (xs:=ns);simp;lia
 generalize (G::wy ns (aa 5) (aa 35))=cs at ec lc;rw[show ([T.int G]++wy (ns.map T.int) (aa 5) (aa 35))=cs.map T.int from ec];refine ZO lc (by simpa using l1) (by simpa using l8) Q.y1 Q.y4 Q.z1 Q.zb λrl tE P jr D rlen jl r hr=>?_;have a:=chb.trans r;have hl2:=r.get (z3 z5) sC;have hb2:=r.get z5 sC;have jn:(μ++[MO.l []]++[MO.l []]).length=μ.length+2:=by simp
 have ln1:(μ++[MO.l []]).length=μ.length+1:=by simp
 have lq:B.length=cw.length:=by
  have h1:=congrArg fE ea;have h2:=congrArg fE cd;rw[aL,aL] at h1 h2;lia
 have own:∀j,aW dd μ.length [] B j->j=dd\/j=μ.length\/∃p∈B,j=p.2.di\/j=p.2.ni:=λj h=>by
  cases h with
  |dd=>exact .inl rfl
  |ll=>exact .inr (.inl rfl)
  |ks h=>contradiction
  |di h=>exact .inr (.inr ⟨_,h,.inl rfl⟩)
  |ni h=>exact .inr (.inr ⟨_,h,.inr rfl⟩)
 have lo:∀j,aW dd μ.length [] B j->j<=μ.length:=λj h=>by
  rcases own j h with e|e|⟨p,i,e|e⟩
  .have:=od.2;lia
  .lia
  .have:=(ow p i).2.2.1;lia
  .have:=(ow p i).2.2.2;lia
 have J0:nS P w cm C g d dd μ.length Y ep jr x y z U E cw rl .n vs [] [] B [] (.m (μ++[MO.l []]).length) 0:=by
  refine⟨M.law a sC,I,λe _=>.inl rfl,cd,hL _ _ a hl2 (aK _),ea,rfl,λj h=>?_,a.get hk sC,λc t=>⟨a.get (ht c t).1.2 sC,(ht c t).2.1,λh=>?_⟩,hr,⟨Fr.len M lC,λh=>by have:=lo _ h;lia⟩,.mu hb2 (Fr.len M lC) (λh=>by have:=lo _ h;lia),a.get t0 sC,a.get t1 sC,aK _,sC,λp i=>by rw[q0 p i];simp,λv hv=>?_⟩
  .rcases own j h with e|e|⟨p,i,e|e⟩<;>rw[e]
   .exact od.1
   .exact Fr.len M (aK _)
   .exact (ow p i).1
   .exact (ow p i).2.1
  .have hj:=(ht c t).1.2;rcases own _ h with e|e|⟨p,i,e|e⟩
   .obtain⟨l,hd⟩:=hdd;exact zk hj hd (λe=>by injection e) e
   .have:=zI hj;lia
   .obtain⟨l,hd⟩:=hdi p i;exact zk hj hd (λe=>by injection e) e
   .exact (ht c t).2.2 p i e
  .rw[nw v hv];exact⟨sC,by show 0<=_;lia⟩
 refine⟨_,hr,(zL (λn L s=>∃m vs N ks B O H k f b,L=hI (aa (.l (ns.map T.int))) s1 s2 x y z U E (aa (.int b0)) (aa (.l ((cw.map (·.ho)).map T.str))) Y s8 s9 A w dd μ.length H k f b/\B.length<=8/\nS s w cm C g d dd μ.length Y ep jr x y z U E cw rl m vs N ks B O H n) ⟨_,_,_,_,_,_,_,_,_,_,rfl,lC,J0⟩ ?_ ?_ ?_)⟩
 .rintro n u L s o ⟨m,vs,N,ks,B,O,H,k,f,b,rfl,l8,J⟩ N' hN;rw[bH] at o;cases F:rl[n]? with
  |none=>rw[F] at o;exact z9 o
  |some e=>
   rw[F] at o;(injection o with o;subst o);have em:=aS F;have hl:=(aO.mp F).1;exact⟨_,rfl,(Hs Q.no Q.y4 J F (D.rw e em) (D.ho e em) nd D.up (λc t=>(ht c t).1.1.low (by have:=(D.tm e em).1;have:=Q.b0;lia)) lC l8 λs now' vs' ps' ks' qs' es' bt' f b J' lq'=>hN _ _ ⟨_,_,_,_,_,_,_,_,_,_,rfl,lC,J'⟩)⟩
 .rintro L s ⟨m,vs,N,ks,B,O,H,k,f,b,rfl,l8,J⟩;rw[aL] at J;exact Ge J lC (q _)
 .rintro n L s ⟨m,vs,N,ks,B,O,H,k,f,b,rfl,l8,J⟩;exact J.hr
end
section
variable {cw:List Cw}{hs:List ao}
theorem cg.ch0{a:fN}{q:pV}(H:cg μ x a q)(ch:Ch [] μ j):cg j x a q:=⟨ch.get H.hd sC,ch.get H.hc sC,H.ok,H.gm,H.gb⟩
theorem JB{α:Type}{a:List α}{p:α}{f:α->Nat}(n:(a.map f).Nodup)(h:∀q∈a,f q<f p):((a++[p]).map f).Nodup:=by
 rw[bP];exact vr n λm=>by
  obtain⟨q,b,e⟩:=ba.mp m;have:=h q b;omega
theorem XB(nd:hs.Nodup)(l8:hs.length<=8)
  (q:∀(f:List Aq) (i:Nat) (d:Mem),f.map (·.1)=hs.map A0->(∀p∈f,cg d x p.1 p.2/\μ.length<=p.2.di/\μ.length<=p.2.ni/\p.2.cs=[]/\p.2.di<i/\p.2.ni<i)->(f.map (·.2.di)).Nodup->(f.map (·.2.ni)).Nodup->Ch [] μ d->μ.length<=i->d[i]?=aa (.d (j4 f))->K (.m i) d) :
  (cB fK (qa 1 [] (.one 0) (iE clz13) [] (zZ [clz0,(z4 jj [clz6,(qP [])])]))) [s0,s1,s2,s3,Y,U,aa (.l (hs.map T.str)),Q,M,J,I,H,G,E,D,C,B,z] μ K Z:=by
 refine⟨by rw[aL];unfold aB;lia,?_⟩;refine ZA (λn o d=>∃f:List Aq,f.map (·.1)=(hs.take n).map A0/\o=(j4 f).map X1/\(∀p∈f,cg d x p.1 p.2/\μ.length<=p.2.di/\μ.length<=p.2.ni/\p.2.cs=[])/\(f.map (·.2.di)).Nodup/\(f.map (·.2.ni)).Nodup/\Ch [] μ d) ⟨[],rfl,rfl,sC,sC,sC,Ch.refl⟩ ?_ ?_
 .rintro n u o d g ⟨f,k,rfl,l,s,r,ch⟩ F v;rw[bH] at g;cases t:hs[n]? with
  |none=>rw[t] at g;exact z9 g
  |some h=>
   rw[t] at g;(injection g with g;subst g);have y:=ch.len;have w:Ch [] d (d++[MO.l []]++[cK af af af af (.l []) d.length]):=Ch.app.trans Ch.app;refine⟨_,rfl,(yU (v (aa (.t [.str h,.m (d++[MO.l []]).length])) _ ⟨f++[(A0 h,⟨(d++[MO.l []]).length,d.length,af,[]⟩)],?_,?_,?_,?_,?_,ch.trans w⟩))⟩
   .rw[bP,k,dM,t,bP];rfl
   .unfold j4;rw[bP,bP];rfl
   .intro p j;rcases bf.mp j with m|m
    .obtain⟨a,b⟩:=l p m;exact⟨a.ch0 w,b⟩
    .rw[aT.mp m];exact⟨⟨z5,z3 z5,.inl ⟨rfl,rfl,rfl⟩,λ_=>rfl,λ_ e=>z9 e⟩,by simp;lia,y,rfl⟩
   .exact JB s λp j=>by have:=zI (l p j).1.hd;simp;lia
   .exact JB r λp j=>zI (l p j).1.hc
 .rintro o d ⟨f,k,rfl,l,s,r,ch⟩;rw[aL,eH (aK _)] at k;have A:f.map (·.1.ho)=hs:=by
   have:=congrArg (gS fN.ho) k;rw[bB,bB] at this;exact this.trans (ro _)
  have L:f.length=hs.length:=by have:=congrArg fE k;simpa using this
  refine⟨_,rfl,?_,by unfold j4;rw[aL];lia,?_⟩
  .unfold j4;rw[bB,show (f.map ((·.1) ∘ λp:Aq=>((.inr p.1.ho:Key),T.m p.2.di)))=(f.map (·.1.ho)).map eS by rw[bB];rfl,A];exact AM _ (λa b h e=>h (f_ e)) nd
  .exact q f _ _ k (λp j=>let ⟨a,b,c,e⟩:=l p j;⟨a.ch0 Ch.app,b,c,e,zI a.hd,zI a.hc⟩) s r (ch.trans Ch.app) ch.len z5
theorem Lr(hd:μ[s]?=aa (.d (cw.map ve)))(ht:∀c∈cw,Dn c.st c.ts/\μ[c.j]?=aa (.l (c.ts.map qc)))(nd:(cw.map (·.ho)).Nodup)(L:cw.length<=8)
  (q:∀(ep:Nat) (ks:List Kd) (i:Nat) (d:Mem),ks.map Kd.cd=cw.map Cw.cd->(∀k∈ks,d[k.c]?=aa (iy k.st k.ts))->Ch [s] μ d->d[s]?=aa (.frd ep (cw.map ve))->d[i]?=aa (.d (ks.map wm))->K (.m i) d) :
  (cB fK (qa 2 [] (.t [0,1]) (pE clz17) [] (zZ [clz0,(uQ 41 jI [clz37,clz35])]))) [s0,s1,s2,s3,s4,s5,s6,aa (.m s),Y,U,Q,J,I,H,G,E,D,C] μ K Z:=by
 refine⟨_,.inl hd,λep=>⟨by rw[aL,aL];unfold aB;lia,?_⟩⟩;have m:(μ.set s (.frd ep (cw.map ve)))[s]?=aa (.frd ep (cw.map ve)):=am hd;have y:Ch [s] μ (μ.set s (.frd ep (cw.map ve))):=Ch.set;have p:∀c∈cw,(μ.set s (.frd ep (cw.map ve)))[c.j]?=aa (.l (c.ts.map qc)):=λc z=>y.get (ht c z).2 (by simpa using zk (ht c z).2 hd (λe=>by injection e));generalize (μ.set s (.frd ep (cw.map ve)))=M at m y p;refine ZA (λn t d=>∃ks:List Kd,ks.map Kd.cd=(cw.take n).map Cw.cd/\t=(ks.map wm).map X1/\(∀k∈ks,d[k.c]?=aa (iy k.st k.ts))/\Ch [] M d) ⟨[],rfl,rfl,sC,Ch.refl⟩ ?_ ?_ ?_
 .rintro n u t d f ⟨ks,o,rfl,w,ch⟩ N x;rw[bB,bH] at f;cases v:cw[n]? with
  |none=>rw[v] at f;exact z9 f
  |some c=>
   rw[v] at f;(injection f with f;subst f);have B:=aS v;obtain⟨A,_⟩:=ht c B;refine⟨_,rfl,_,rfl,_,rfl,(uU (ch.get (p c B) sC) A.r (by have:=A.l;lia) ?_)⟩;refine⟨rfl,(x (aa (.t [.str c.ho,.m d.length])) _ ⟨ks++[⟨c.ho,d.length,c.st,c.ts⟩],?_,?_,?_,ch.trans Ch.app⟩)⟩
   .rw[bP,o,dM,v,bP];rfl
   .rw[bP,bP];rfl
   .intro k g;rcases bf.mp g with h|h
    .exact z3 (w k h)
    .rw[aT.mp h];exact z5
 .rintro t d ⟨ks,o,rfl,w,ch⟩;rw[aL,aL,eH (aK _)] at o;have F:ks.map (·.ho)=cw.map (·.ho):=by
   have:=congrArg (gS (·.1)) o;rw[bB,bB] at this;exact this
  have O:ks.length=cw.length:=by have:=congrArg fE o;simpa using this
  refine⟨_,rfl,?_,by rw[aL];lia,?_⟩
  .rw[bB,show (ks.map ((·.1) ∘ wm))=(ks.map (·.ho)).map eS by rw[bB];rfl,F];exact AM _ (λa b h e=>h (f_ e)) nd
  .exact q ep ks _ _ o (λk g=>z3 (w k g)) ((y.trans (ch.mono sC)).trans (Ch.app.mono sC)) (z3 (ch.get m sC)) z5
 .rintro n t d ⟨ks,o,rfl,w,ch⟩;exact ch.get m sC
structure pZ(hs:List ao):Prop where
 ok:∀h∈hs,h.length<=aB/\qL h=ae
 nd:hs.Nodup
 l8:hs.length<=8
 l1:1<=hs.length
theorem HW{ns:List Int}(Q:lF x y z ah sd b0)(H:pZ hs)(N:cw.map (·.ho)=hs)(hd:μ[dk]?=aa (.d (cw.map ve)))(ht:∀c∈cw,Dn c.st c.ts/\μ[c.j]?=aa (.l (c.ts.map qc)))(tb0:μ[0]?=aa (.tab 0))(tb1:μ[1]?=aa (.tab 1))(q:∀μ',K (.bl ae) μ') :
  zM (qu.drop 9) [aa (.l (ns.map T.int)),s1,s2,aa (.t [.int x,.int y,.int z]),aa (.t [.int ah,.int sd]),aa (.int b0),aa (.l (hs.map T.str)),aa (.m dk),s8,s9,s10,s11,s12,s13,s14,s15,s16,s17] μ (En.fn K Z):=by
 have nd:(cw.map (·.ho)).Nodup:=N▸H.nd;have ll:cw.length=hs.length:=by rw[<-N,aL]
 have l8:=H.l8;have l1:=H.l1;refine Lr hd ht nd lC λep ks i t e1 hk ch hd1 hi=>?_;have e2:ks.map (·.ho)=cw.map (·.ho):=by
  have:=congrArg (gS (·.1)) e1;rw[bB,bB] at this;exact this
 have e3:ks.length=cw.length:=by have:=congrArg fE e1;simpa using this
 have s:∀{j:Nat}{o:MO},μ[j]?=aa o->(∀l,o≠.d l)->t[j]?=aa o:=λ{j o} h n=>ch.get h (by simpa using zk h hd (n _));have F:=s tb1 (λ_ e=>by injection e);have kd:∀k∈ks,fg t k:=λk L=>by
  have:k.ho∈hs:=N▸e2▸ba.mpr ⟨k,L,rfl⟩;exact⟨(H.ok _ this).1,(H.ok _ this).2,hk k L⟩
 refine⟨_,rfl,_,rfl,_,rfl,rfl,(Z2 Q.x1 Q.y1 Q.z1 ⟨rfl,_,rfl,rfl,_,rfl,_,rfl,(IE hi (λe=>by rw[e] at e3;simp at e3;lia) lC kd (e2▸nd) F Q.a0 Q.d0 λB E cm gr g d M c1 W c3 c4 c5 c6=>?_)⟩)⟩;refine⟨rfl,?_⟩;have R:=c1.trans e1;have r:∀{j:Nat}{o:MO},t[j]?=aa o->(∀l,o≠.d l)->B[j]?=aa o:=λ{j o} h n=>c6.get h (by simpa using zk h hi (n _));have C:E.map (·.u.ho)=hs:=by
  have:=congrArg (gS (·.1)) R;rw[bB,bB] at this;exact Eq.trans this N
 have I:cy x y z E [] []:=by
  refine⟨⟨sC,iP⟩,C▸H.nd,λv A=>?_,sC,sC,sC,sC⟩;obtain⟨⟨J,U,S,n4,G,n6⟩,_⟩:=W v A;have hm:v.u.ho∈hs:=C▸ba.mpr ⟨v,A,rfl⟩;refine⟨(H.ok _ hm).1,(H.ok _ hm).2,?_,?_,?_,?_,?_,?_,?_,?_,?_,?_⟩
  .rw[J];exact λa e=>z9 e
  .rw[S];exact λa e=>z9 e
  .rw[U];exact λa e=>z9 e
  .exact .inl ⟨n4,J,U⟩
  .rw[J];exact λa e=>z9 e
  .rw[S];exact λa e=>z9 e
  .rw[n6];exact λa e=>z9 e
  .rw[G];exact X.BOk.nil
  .rw[G];exact λq hq=>by contradiction
  .rw[G];exact iP
 have old:∀{j:Nat}{o:MO},t[j]?=aa o->Fr gr g d E j:=λh=>by
  have:=zI h;exact⟨lC,lC,lC,λv A=>by have:=(W v A).2;lia⟩
 have abs:E.map (Vh.abs y z)=hs.map A0:=by
  rw[<-C,bB];refine md λv A=>?_;obtain⟨⟨J,U,S,n4,G,n6⟩,_⟩:=W v A;show (⟨v.u.ho,v.u.l,v.u.m,v.u.n,X.nmB y z v.bs⟩:fN)=_;rw[J,U,S,G];rfl
 refine XB (x:=x) H.nd lC λqs dd Y q1 D q3 q4 P q5 q6=>?_;have w:∀{j:Nat}{o:MO},B[j]?=aa o->Y[j]?=aa o:=λh=>P.get h sC;have eq:qs.map (·.1.ho)=hs:=by
  have:=congrArg (gS fN.ho) q1;rw[bB,bB] at this;exact this.trans (ro _)
 have M3:=M.law P sC;have dlt:=zI q6;have fr:∀{j:Nat},B.length<=j->Fr gr g d E j:=λh=>Fr.len M h;rw[<-N];refine Hn Q M3 I (λv A=>(W v A).1.bs) R nd lC lC (λll μ4 O h4 l4=>?_) (λp f=>?_) ⟨fr q5,dlt⟩ (λp f=>(D p f).2.2.2.1) (q1.trans abs.symm) (w (r hd1 (λ_ e=>by injection e))) (λc V=>⟨⟨(ht c V).1,w (r (s (ht c V).2 (λ_ e=>by injection e)) (λ_ e=>by injection e))⟩,old (s (ht c V).2 (λ_ e=>by injection e)),λp f=>?_⟩) (w (r (s tb0 (λ_ e=>by injection e)) (λ_ e=>by injection e))) (w (r F (λ_ e=>by injection e))) ⟨_,q6⟩ (λp f=>⟨_,(D p f).1.hd⟩) q
 .refine⟨O.get q6 sC,⟨h4,sC,sC⟩,λp f=>(D p f).1.ch0 O,eq▸H.nd,q3,q4,λp f=>?_⟩;obtain⟨a,b,c,e,f1,f2⟩:=D p f;exact⟨lC,lC,sC⟩
 .obtain⟨a,b,c,e,f1,f2⟩:=D p f;exact⟨fr b,fr c,lC,lC⟩
 .obtain⟨a,b,c',e,f1,f2⟩:=D p f;have:=zI (r (s (ht c V).2 (λ_ e=>by injection e)) (λ_ e=>by injection e));lia
end
end NH.P
section
namespace NH.P
open PySem L2 NH
theorem Xh{ns:List Int}(Q:lF x y z Y U b0)(H:pZ hs)(A:μ[0]?=aa (.tab 0))(w:μ[1]?=aa (.tab 1))(q:∀s,K (.bl ae) s) :
  zM (qu.drop 7) [aa (.l (ns.map T.int)),s1,s2,aa (.t [.int x,.int y,.int z]),aa (.t [.int Y,.int U]),aa (.int b0),aa (.l (hs.map T.str)),s7,s8,s9,M,J,I,G,E,D,C,B] μ (En.fn K Z):=by
 have l8:=H.l8;have hb0:=Q.b0;refine zL (λn v s=>∃(b:List Cw) (V F:Option T),v=[aa (.l (ns.map T.int)),s1,s2,aa (.t [.int x,.int y,.int z]),aa (.t [.int Y,.int U]),aa (.int b0),aa (.l (hs.map T.str)),aa (.m μ.length),V,F,M,J,I,G,E,D,C,B]/\b.map (·.ho)=hs.take n/\s[μ.length]?=aa (.d (b.map ve))/\(∀c∈b,Dn c.st c.ts/\s[c.j]?=aa (.l (c.ts.map qc)))/\Ch [] μ s) ⟨[],_,_,rfl,rfl,z5,sC,Ch.app⟩ ?_ ?_
 .rintro n u v s hx ⟨b,X,W,rfl,i,hd,m,ch⟩ N hN;obtain⟨t,a,rfl⟩:=xm hx;rw[bH] at a;cases o:hs[n]? with
  |none=>rw[o] at a;exact z9 a
  |some h=>
   rw[o] at a;(injection a with a;subst a);refine⟨_,rfl,(vp lC λc0=>?_)⟩;refine k_ λP O=>M0 ⟨P,O,0,z5⟩ lC λst S g dn r=>?_;have R:Ch [] s g:=⟨by rw[r.len];simp;lia,λj p _=>(r.ot j lC (by simp;lia)).trans (cE p)⟩;have d:=R.get hd sC;have new:h∉b.map (·.ho):=λl=>by
    rw[i] at l;have k:(hs.take n++[h]).Nodup:=by
     rw[show hs.take n++[h]=hs.take (n+1) by rw[dM,o];rfl];exact H.nd.sublist (l9 _ _)
    rw[gi] at k;exact k.2.2 h l h sC rfl
   have L:(.inr h)∉(b.map ve).map (·.1):=λl=>by
    rw[bB] at l;obtain⟨c,f,e⟩:=ba.mp l;exact new (ba.mpr ⟨c,f,f_ e⟩)
   have ln:b.length<=8:=by have:=congrArg fE i;rw[aL,g8] at this;lia
   refine⟨_,d,by rw[aL];unfold aB;lia,?_⟩;rw[Wo L];have cs:Ch [μ.length] g (g.set μ.length (.d (b.map ve++[((.inr h),T.t [.int st,.m (s++[MO.l [T.int P,.int O,.int 0]]).length])]))):=Ch.set;refine hN _ _ ⟨b++[⟨h,st,S,(s++[MO.l [T.int P,.int O,.int 0]]).length⟩],_,_,rfl,?_,?_,?_,Ch.geS (ch.trans R) cs sC⟩
   .rw[bP,i,dM,o];rfl
   .rw[bP];exact am d
   .intro c f;rcases bf.mp f with f|f
    .have p:=R.get (m c f).2 sC;exact⟨(m c f).1,cs.get p (by simpa using zk p d (λe=>by injection e))⟩
    .rw[aT.mp f];exact⟨dn,cs.get r.ls (by simpa using zk r.ls d (λe=>by injection e))⟩
 .rintro v s ⟨b,X,W,rfl,i,hd,m,ch⟩;rw[je,aL,eH (aK _)] at i;exact HW Q H i hd m (ch.get A sC) (ch.get w sC) q
theorem Ko{ns:List Int}{c:List T}(d:c=hs.map T.str)(Q:lF x y z M s b0)(H:pZ hs)(b:μ[0]?=aa (.tab 0))(a:μ[1]?=aa (.tab 1))(q:∀j,K (.bl ae) j) :
  zM (qu.drop 7) [aa (.l (ns.map T.int)),s1,s2,aa (.t [.int x,.int y,.int z]),aa (.t [.int M,.int s]),aa (.int b0),aa (.l c),s7,Y,U,J,I,G,E,D,C,B,u] μ (En.fn K Z):=by
 subst d;exact Xh Q H b a q
noncomputable def n8:List ao:=["one","ones","a","b","bees","c","two","twos"]
theorem F5:∀h∈n8,h.length<=aB/\qL h=ae:=by
 intro h a;simp only[n8,bC,dP,or_false] at a;rcases a with rfl|rfl|rfl|rfl|rfl|rfl|rfl|rfl<;>exact⟨dC,by decide +kernel⟩
theorem Nk{k:Nat}(h1:1<=k)(b:k<=8):pZ (n8.take k):=by
 have e:n8.length=8:=rfl;exact⟨λh a=>F5 h (nc a),D4 (l9 _ _) (show n8.Nodup by decide),by rw[g8];lia,by rw[g8];lia⟩
theorem U7{k:Int}(h0:0<=k)(b:k<=8):wy (n8.map T.str) af (aa k)=(n8.take k.toNat).map T.str:=by
 congr 1;unfold wy WI;have a:¬k<0:=by lia
 have e:n8.length=8:=rfl;simp[a,e]
theorem Y8{a b v:Int}(h0:0<=v)(h1:v<2)(c:0<=a)(hb:0<=b):∃w:Int,qS [T.int a,.int b] v=aa (.int w)/\0<=w/\(w<=a\/w<=b):=by
 have:v=0\/v=1:=by lia
 rcases this with rfl|rfl
 .exact⟨a,rfl,c,.inl (d6 _)⟩
 .exact⟨b,rfl,hb,.inr (d6 _)⟩
theorem UG:Q2 Q9:=by
 intro ns N;refine⟨rfl,(vp dC λc0=>k_ λW V=>⟨⟨dC,dC,dC⟩,?_⟩)⟩;refine zt ⟨W,V,0,rfl⟩ dC dC λv1 E a1 b1 u=>?_;obtain⟨c,S,f0,O⟩:=Y8 (a:=0) (b:=10 ^ (12:Int).toNat) a1 b1 dC dC;have fb:c<=1000000000000:=by
  have e:(10:Int) ^ (12:Int).toNat=1000000000000:=dC;rw[e] at O;lia
 refine⟨_,S,(zt u.st dC dC λJ D a2 b2 t=>zt t.st dC dC λI C a3 b3 s=>zt s.st dC dC λH B a4 b4 r=>?_)⟩;refine zt r.st dC dC λG A a5 b5 q=>zt q.st dC dC λv6 z a6 b6 p=>zt p.st dC dC λv7 y a7 X o=>?_;obtain⟨L,P,M,_⟩:=Y8 (a:=0) a7 X dC a6;refine⟨_,P,(zt o.st dC dC λF x a8 b8 n=>zt n.st dC dC λv9 w a9 b9 m=>zt m.st dC dC λK l i Z d=>?_)⟩;refine zt d.st dC dC λf j a11 Y g=>?_;have U:=(((((((((u.trans t).trans s).trans r).trans q).trans p).trans o).trans n).trans m).trans d).trans g;have h:=(U.ot 1 dC).trans rfl;obtain⟨k,R,k0,k1⟩:=Y8 (v:=if decide (f=7) then 1 else 0) (by split<;>decide) (by split<;>decide) a9 i;refine⟨_,R,?_⟩;have T:=U7 (k:=1+k) lC lC;have Q:lF (c+60+J) (1+I) (1+H) G L (c+F):=⟨lC,lC,lC,lC,lC,lC,a5,M,lC⟩;exact Ko T Q (Nk lC lC) ((U.ot 0 dC).trans rfl) h λ_=>rfl
end NH.P
namespace NH.K93
open PySem L2 NH NH.P
theorem nz:Q2 Q9:=UG
end NH.K93
end
namespace NH.K93
open PySem PySem.Spec PyProof.Rows L2 NH NH.P PySem.W
noncomputable def wM:=ax (st 11) 0
theorem all_mk {l:mD}{w:dh}{K:Frag}{h:aG}{mg:ao->Option ai}{fa C0 i d b f0 N0 g:ak}{od0 an0 dd0:Option ak}{sl0:Array (Option ai)}{oc0 kV0 dc0 pm0 cd0 ct0:ai}{M L:ao}{bs0 J:List ai}{Y ab0:Bool}{I:List ao}{co0:Option Bool}{W V U T Q:Option ai}{F u E r D q C p B o z m y k:Tok}{ep65:Nat}(X:K.In h) (G:h.Ns cO mg) (hfa:mg "law"=aa (.ref fa))
  (e0:nsIn K cO "HouseError"=aa (aa (.ref C0)))
  (e9:nsIn K cO "Wait"=aa (aa (.ref i)))
  (xa0:K.lookup i=aa (g5 M L i N0 bs0 (.ref C0::qU) Y I J ab0 co0 dd0 W V U T Q "ValueError.__new__"))
  (xb0:rA K N0=ae)
  (xc0:nsIn K N0 "__init__"=aa (aa (.ref f0)))
  (xd0:rD K (.ref f0)=aa (.type "function"))
  (xe0:cP K (.ref i) "__setattr__"=aa (aa (.builtin "object.__setattr__")))
  (xf0:cP K (.ref i) "by"=aa af)
  (xg0:lx K i=ae)
  (xh0:gY K (.ref i)=ae)
  (ha0:li K (.ref C0) "__getattribute__"=aa (aa (.builtin "type.__getattribute__")))
  (ha1:rj K C0 (.type "type")=ae)
  (ha2:ri K (.ref C0) (.type "type") "__init__"=aa (.val (.builtin "ValueError.__init__")))
  (l0:K.lookup f0=aa ⟨oc0,od0,.func (fnOf "__init__" "Wait.__init__" (vC wM) (zV wM) (qy wM) .none kV0 dc0 pm0 an0 cd0 ct0),sl0⟩)
  (c0:gV K cd0 "Wait.__init__"=ae)
  (k0:gY K (.ref f0)=ae)
  (v65:nsIn K cO "LENGTHS"=aa (aa (.ref g)))
  (w65:K.lookup g=aa {cls:=.type "dict",data:=.dict #[⟨hZ w "lease",.str "lease" F,.int 5 u⟩,⟨hZ w "ask",.str "ask" E,.int 4 r⟩,⟨hZ w "store",.str "store" D,.int 4 q⟩,⟨hZ w "take",.str "take" C,.int 4 p⟩,⟨hZ w "back",.str "back" B,.int 3 o⟩,⟨hZ w "fall",.str "fall" z,.int 3 m⟩,⟨hZ w "bare",.str "bare" y,.int 3 k⟩] ep65})
  (y65:(g==fF)=ag)
  (zk0:K.lookup d=af)
  (zs0:d≠mG)
  (zt0:lK K (Rw.cd (YY d b) K (rw .fn (st 49) [])) d=ae)
  (zk1:K.lookup b=af)
  (zs1:b≠mG)
  (zt1:lK K (Rw.cd (YY d b) K (rw (.met 47 cL) (ax (st 74) 1) [])) b=ae)
  (zn:d≠b)
  (zl:VH K=ae)
  (zc:mq K ((YY d b).A K) cls fld=ae)
  (zg:tu K ((YY d b).A K) bs xp xq=ae)
  (zx:lR K C0 qU "ValueError.__new__"=ae)
  (zb:t7 K ci ct=ae)
  (n1:Vi (YY d b) K R1=yI (YY d b) K R1)
  (n2:Vi (YY d b) K R2=yI (YY d b) K R2)
  (n3:Vi (YY d b) K R3=yI (YY d b) K R3) :
  (VH K=ae/\∀P∈[d,b],K.lookup P=af/\P≠mG/\∃c,lK K c P=ae)/\∃fd:FuncData,(∀(s:aJ) (v:ai),K.In s.heap->i8 s fd ⟨[v],[]⟩ [("_law_script",v)])/\∀base:aG,K.In base->base.Ns cO mg->(∀P∈[d,b],base.BuiltinsAt mg P)->bF l.prog w K mg base (dB l.prog w) 176 fa fd ["_law_script"] (Qq [d,b]):=by
 refine⟨⟨zl,λP hP=>by rcases bC.mp hP with rfl|hP;exact⟨zk0,zs0,_,zt0⟩;rw[aT.mp hP];exact⟨zk1,zs1,_,zt1⟩⟩,⟨Rw.fx (YY d b) K (rw .fn (st 97) qu ["_law_clocks","~_law_clocks","_law_leases","[]","~_law_states"]),λs v Ks=>?_,λbase kb H O=>?_⟩⟩
 .obtain⟨_,e⟩:=gZ (rJ n3).1;obtain⟨_,e⟩:=gZ e;exact kp_binds Ks λS=>congrFun (congrFun (gZ e).1 S) λ_=>v
 have Z:Pq (YY d b) K mg base:=⟨kb,H,zc,λt ht=>by
  rcases bC.mp ht with rfl|ht
  .exact O _ (.head _)
  .rw[aT.mp ht];exact O _ (.tail _ (.head _))⟩
 have F0:=IZ (st:=wM) l0 c0 k0;have b0:=F0.binds (ps:=["self","by"]) λ_ _ _ _ _ _=>PL.all (n:=2) λ_ _=>rfl;have XI0:gK K i C0 f0 "by":=⟨⟨N0,M,L,bs0,Y,I,J,ab0,co0,dd0,W,V,U,T,Q,xa0,xb0,xc0⟩,zx,xd0,xe0,xf0,xg0,xh0⟩;have W0:bF l.prog w K mg base (dB l.prog w) 1 f0 _ ["self","by"] (nA i "by"):=IL XI0 ⟨gP kb H e0,ha0,ha1,ha2⟩ l0 c0 (by first|exact⟨_,_,_,_,_,_,_,_,_,_,_,rfl,rfl,.inl ⟨_,_,_,_,_,_,_,_,rfl,by decide,by decide⟩⟩|exact⟨_,_,_,_,_,_,_,_,_,_,_,rfl,rfl,.inr ⟨_,_,_,_,_,rfl,by decide⟩⟩) rfl;have gW:∀x,bD (hM K ((YY d b).A K) (Xr ju (YY d b).tb) λj=>(YY d b).tb[j]?) l.prog w K mg base 2 x (GM.xin 21 29 "Wait" "by"):=λx=>⟨i,C0,f0,_,_,1,by show aa (refOf (nsIn K cO "Wait"))=_;rw[e9];rfl,gP kb H e9,rfl,XI0,b0,by decide,W0⟩;have q0:lH (YY d b) l.prog w K mg base (Xr ju (YY d b).tb) 2 g0:=bT.add (bT.add (bT.add (bT.app (LD kb H zb) (K6 kb H zg)) (gW _) rfl) (gW _) rfl) (HU (gP kb H v65) y65 w65 ⟨⟨_,_,rfl⟩,⟨_,_,rfl⟩,⟨_,_,rfl⟩,⟨_,_,rfl⟩,⟨_,_,rfl⟩,⟨_,_,rfl⟩,⟨_,_,rfl⟩,trivial⟩ (by decide)) rfl;have q1:=gG Z R1 (aK 2) Nq n1 q0;have q2:lH (YY d b) l.prog w K mg base (Xr ju (YY d b).tb) _ t5:=bT.add (q1.mono (fD _)) (Mr (n:=60) (R:=RU) (tbs:=(YY d b).tb) (G:=tj) (by show 2<=100;decide) rfl (C6 (N:=[]) (G:=[]) (cel:=[]) (own:=[]) (lam:=af) kb H zc q1) Nm) rfl;have q3:=gG Z R2 (by decide) Np n2 q2;have t:=Rw.step Z (by decide) No n3 q3;have a:=(gP kb H t.at_).symm.trans hfa;obtain rfl:=Value.ref.inj (aZ a);exact X2 (f:=Q9) nz rfl rfl zn t.f
end NH.K93
section
open PySem PySem.W PyProof.Rows
set_option tactic.hygienic true in
set_option maxRecDepth 100000 in
set_option maxHeartbeats 0 in
theorem PySem.Challenge.cw_namehouses_k93_whole_what_a_world_gives_holds : PySem.Challenge.rw_namehouses_k93_whole_what_a_world_gives.Holds := by
 w_on;o_law;k_head;(case hw=>w_witness2);k_fill;refine NH.walkTq (l:=PySem.Challenge.rw_namehouses_k93_whole_what_a_world_gives) (k:=176) (x:="_law_script") (by decide) rfl rfl (λw h Y=>PySem.W.km_in_of Y) (λw h Y=>NH.swT (PySem.W.km_tabs_of Y)) ?F;case F=>
  intro w mg fa h KX G hmg
  refine' NH.K93.all_mk KX G hmg ?ze0 ?ze9 ?zxa0 ?zxb0 ?zxc0 ?zxd0 ?zxe0 ?zxf0 ?zxg0 ?zxh0 ?zha0 ?zha1 ?zha2 ?zl0 ?zc0 ?zk0 ?zv65 ?zw65 ?zy65 ?zzk0 ?zzs0 ?zzt0 ?zzk1 ?zzs1 ?zzt1 ?zzn ?zzl ?zzc ?zzg ?zzx ?zzb ?zn1 ?zn2 ?zn3
  (case ze0=>k_is)
  (case ze9=>k_is)
  (case zxa0=>k_is)
  (case zxb0=>kernel_rfl)
  (case zxc0=>k_is)
  (case zxd0=>k_is)
  (case zxe0=>k_is)
  (case zxf0=>k_is)
  (case zxg0=>k_is)
  (case zxh0=>k_is)
  (case zha0=>k_is)
  (case zha1=>k_is)
  (case zha2=>k_is)
  (case zl0=>k_is)
  (case zc0=>k_is)
  (case zk0=>k_is)
  (case zv65=>k_is)
  (case zw65=>exact rfl)
  (case zy65=>decide)
  (case zzk0=>exact rfl)
  (case zzs0=>decide)
  (case zzt0=>kernel_rfl)
  (case zzk1=>exact rfl)
  (case zzs1=>decide)
  (case zzt1=>kernel_rfl)
  (case zzn=>decide)
  (case zzl=>exact rfl)
  (case zzc=>kernel_rfl)
  (case zzg=>kernel_rfl)
  (case zzx=>k_exc)
  (case zzb=>kernel_rfl)
  (case zn1=>kernel_rfl)
  (case zn2=>kernel_rfl)
  (case zn3=>kernel_rfl)
end
